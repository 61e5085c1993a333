import PyProof.Rows.All
import Wide.All
import OpenK.AllK
import Wide.FinOn
import Lean
import PyProof.EqAt
import PyProof.EqKinds
import PyProof.TupleCall
import KE.KSortTup
import KE.KDictSum
import PyProof.Rows.Range3
import PyProof.Rows.SortRev
import PyProof.StrBlock2
import PyProof.ZipIter
import PyProof.Rows.ZipGen
import PyProof.NeKinds
import PyProof.DictCompW
import PyProof.DictWalks
import PyProof.AttrMissHeap
import PyProof.WalksS
import KE.KDictOf
import KE.KListMore
import KE.KEqDict
import PyProof.StationsW
import PyProof.InstStoreFacts
import PyProof.ExcBaseAll.ValueError
import PyProof.ExcClass2
import PyProof.RulesAs
import KE.KTryMore
import PyProof.ExcArgs
import KE.KIsAll
import OpenK.KOwn
import PyProof.P3In
import PyProof.DictUpdate
import PyProof.MeetsSeq2
import KE.KIntText
import KE.KRevSl
import PyProof.Rows.StrLawsPart
import PyProof.EnumMake
import PyProof.Draws
import PyProof.ListRange
import PyProof.TupleOfStr
import KE.KLam
import KE.KNestM
import KE.KMinKey
import PyProof.Rows.StrSplitMax
import PyProof.StrLawsOccR
import PyProof.Rows.SetFrom
import PySem.SetTable
import PyProof.TupleKey
import PySem.Challenge.RW_placedworks_k75_whole_shelf_rows_kept
set_option genSizeOf false
set_option genSizeOfSpec false
set_option bootstrap.genMatcherCode false
set_option Elab.async false
set_option linter.all false
set_option maxRecDepth 100000
abbrev FG:=PySem.W.Frag
abbrev PN:=List (PySem.Addr×PySem.Obj)
abbrev VP:=PySem.Value->PySem.Shared->Prop
abbrev ND(x:PySem.Str):Prop:=(x==("__debug__" : PySem.Str))=false
section
open PySem PySem.Spec PyProof.Rows
namespace L2
abbrev Key:=Sum Int Str
def j3:Key->Value->Bool
 | .inl k,v=>Value.isInt k v
 | .inr x,v=>Value.isStrOf x v
def xZ(w:World):Key->Int
 | .inl k=>hashInt k
 | .inr x=>hashStr w x
theorem aU:∀ {k:Key} {v:Value},j3 k v=true->(∃ i t,k=Sum.inl i/\v=Value.int i t)\/(∃ x t,k=Sum.inr x/\v=Value.str x t)
 | .inl i,v,h=>by obtain⟨t,e⟩:=Value.isInt_shape (k:=i) (v:=v) h;exact .inl ⟨i,t,rfl,e⟩
 | .inr x,v,h=>by obtain⟨t,e⟩:=Value.isStrOf_shape (x:=x) (v:=v) h;exact .inr ⟨x,t,rfl,e⟩
theorem mB(i:Int)(t:Tok):j3 (.inl i) (.int i t)=true:=by simp[j3,Value.isInt]
theorem kH(x:Str)(t:Tok):j3 (.inr x) (.str x t)=true:=by simp[j3,Value.isStrOf]
theorem u0(a b:Int):decide ((Sum.inl a:Key)=Sum.inl b)=(a==b):=by
 by_cases e:a=b
 ·subst e;simp
 ·have h:¬ (Sum.inl a:Key)=Sum.inl b:=λ q=>e (Sum.inl.inj q);rw[decide_eq_false h];exact(beq_eq_false_iff_ne.mpr e).symm
theorem tW(a b:Str):decide ((Sum.inr a:Key)=Sum.inr b)=decide (a=b):=by
 by_cases e:a=b
 ·subst e;simp
 ·have h:¬ (Sum.inr a:Key)=Sum.inr b:=λ q=>e (Sum.inr.inj q);rw[decide_eq_false h,decide_eq_false e]
theorem tX(a:Int)(b:Str):decide ((Sum.inl a:Key)=Sum.inr b)=false:=decide_eq_false (λ q=>nomatch q)
theorem tM(a:Str)(b:Int):decide ((Sum.inr a:Key)=Sum.inl b)=false:=decide_eq_false (λ q=>nomatch q)
def aP(prog:Program)(w:World):PySem.KeyKind prog w Key where
 is:=j3
 hash:=xZ w
 inj:=λ v a b ha hb=>by
  rcases aU ha with ⟨i,t,rfl,rfl⟩ | ⟨x,t,rfl,rfl⟩
  ·rcases aU hb with ⟨j,u,rfl,e⟩ | ⟨y,u,rfl,e⟩
   ·injection e with e1 _;rw[e1]
   ·exact nomatch e
  ·rcases aU hb with ⟨j,u,rfl,e⟩ | ⟨y,u,rfl,e⟩
   ·exact nomatch e
   ·injection e with e1 _;rw[e1]
 byValue:=λ k v h=>by
  rcases aU h with ⟨i,t,rfl,rfl⟩ | ⟨x,t,rfl,rfl⟩<;>rfl
 pyHash:=λ hv h=>by
  rcases aU hv with ⟨i,t,rfl,rfl⟩ | ⟨x,t,rfl,rfl⟩
  ·exact wpAny_pyHash_int h
  ·exact wpAny_pyHash_str h
 eqBool:=λ hu hv h=>by
  rcases aU hu with ⟨i,t,rfl,rfl⟩ | ⟨x,t,rfl,rfl⟩
  ·rcases aU hv with ⟨j,u,rfl,rfl⟩ | ⟨y,u,rfl,rfl⟩
   ·rw[u0] at h;exact wpAny_eqBool_int h
   ·rw[tX] at h;exact SeqAt.EqAt.int_str i t y u _ _ _ _ h
  ·rcases aU hv with ⟨j,u,rfl,rfl⟩ | ⟨y,u,rfl,rfl⟩
   ·rw[tM] at h;exact SeqAt.EqAt.str_int x t j u _ _ _ _ h
   ·rw[tW] at h;exact wpAny_eqBool_str h
 «strs»:=λ k x t v h=>by
  rcases aU h with ⟨i,u,rfl,e⟩ | ⟨y,u,rfl,e⟩
  ·exact nomatch e
  ·injection e with e1 _
   subst e1;cases v<;>rfl
theorem iP(prog:Program)(w:World)(i:Int)(t:Tok):(aP prog w).is (.inl i) (.int i t)=true:=mB i t
theorem i7(prog:Program)(w:World)(x:Str)(t:Tok):(aP prog w).is (.inr x) (.str x t)=true:=kH x t
inductive V where
 | non | bl (b:Bool) | int (i:Int) | str (x:Str) | byt (b:Array UInt8) | flt (b:UInt64) | ref (a:Addr) | ty (n:String)
 deriving DecidableEq
def RelV:V->Value->Prop
 | .non,u=>u=Value.none
 | .bl b,u=>u=Value.bool b
 | .int i,u=>∃ t,u=Value.int i t
 | .str x,u=>∃ t,u=Value.str x t
 | .byt b,u=>∃ t,u=Value.bytes b t
 | .flt b,u=>∃ t,u=Value.float b t
 | .ref a,u=>u=Value.ref a
 | .ty n,u=>u=Value.type n
abbrev Vals:List V->List Value->Prop:=Paired RelV
theorem Vals.length{xs:List V}{us:List Value}(r:Vals xs us):xs.length=us.length:=Paired.length r
theorem Vals.get:∀ {xs:List V} {us:List Value} {i:Nat} {x:V},Vals xs us->xs[i]? =some x->∃ u,us[i]? =some u/\RelV x u
 | _,_,_,_,.nil,e=>by simp at e
 | _,_,0,_,.cons r _,e=>by simp at e;subst e;exact⟨_,rfl,r⟩
 | _,_,i+1,x,.cons _ t,e=>by obtain⟨u,h1,h2⟩:=Vals.get (i:=i) (x:=x) t (by simpa using e);exact⟨u,by simpa using h1,h2⟩
theorem Vals.set{x:V}{u:Value}(r:RelV x u):∀ {xs:List V} {us:List Value} (i:Nat),Vals xs us->Vals (xs.set i x) (us.set i u)
 | _,_,_,.nil=>.nil
 | _,_,0,.cons _ t=>.cons r t
 | _,_,i+1,.cons q t=>.cons q (Vals.set r i t)
theorem Vals.append:∀ {xs ys:List V} {us ws:List Value},Vals xs us->Vals ys ws->Vals (xs++ys) (us++ws)
 | _,_,_,_,.nil,s=>s
 | _,_,_,_,.cons r t,s=>.cons r (Vals.append t s)
theorem Vals.take:∀ {xs:List V} {us:List Value} (n:Nat),Vals xs us->Vals (xs.take n) (us.take n)
 | _,_,0,_=>.nil
 | _,_,_+1,.nil=>.nil
 | _,_,n+1,.cons r t=>.cons r (Vals.take n t)
theorem Vals.drop:∀ {xs:List V} {us:List Value} (n:Nat),Vals xs us->Vals (xs.drop n) (us.drop n)
 | _,_,0,r=>r
 | _,_,_+1,.nil=>.nil
 | _,_,n+1,.cons _ t=>Vals.drop n t
def iy:Option V->Option Value->Prop
 | some v,some u=>RelV v u
 | none,none=>True
 | _,_=>False
def KV{κ:Type}:List (κ×V)->List (κ×Value)->Prop:=Paired λ(p:κ×V) (q:κ×Value)=>p.1=q.1/\RelV p.2 q.2
def kV:Key->V
 | .inl i=>.int i
 | .inr x=>.str x
inductive HO where
 | lst (xs:List V)
 | tup (xs:List V)
 | dK (kvs:List (Key×V)) | dT (kvs:List (List Key×V))
 | set (S:Int->Bool) (n:Nat)
 | ins (C dx:Addr) (fs:List (Str×V))
 | own (x:Addr)
 | xd (fs:List (Str×V))
 | met (f x:Addr)
 | rng (lo hi:Int)
 | frz (o:Obj) (u:HO)
 | tbl (ps:Array Value)
 | ext (φ:Heap->Prop)
abbrev Hp:=Addr->Option HO
def upd(H:Hp)(a:Addr)(o:HO):Hp:=λ b=>if b=a then some o else H b
theorem ax{H:Hp}{a:Addr}{o:HO}:upd H a o a=some o:=by unfold upd;rw[if_pos rfl]
theorem ay{H:Hp}{a b:Addr}{o:HO}(h:b≠a):upd H a o b=H b:=by unfold upd;rw[if_neg h]
theorem qg{H:Hp}{a:Addr}{o u:HO}:upd (upd H a o) a u=upd H a u:=by
 funext b;unfold upd;split<;>rfl
theorem qZ{H:Hp}{a b:Addr}{o u:HO}(h:H a=some o)(h':H b=some u)(d:o≠u):a≠b:=by intro e;subst e;rw[h] at h';exact d (Option.some.inj h')
theorem aX{H:Hp}{a b:Addr}{o:HO}(h:H a=some o)(h':H b=none):a≠b:=by intro e;subst e;rw[h] at h';cases h'
def pU(h:Heap)(a:Addr)(items:Array Value):Prop:=∃ o,h.get? a=some o/\o.cls=.type "tuple" /\ o.dict=none/\∃ n,o.data=.seq items n
theorem pU.tup{h:Heap}{a:Addr}{items:Array Value}(x:pU h a items):IsTup h a items:=let ⟨o,h1,h2,_,h3⟩:=x; ⟨o,h1,h2,h3⟩
theorem pU.new(h:Heap)(items:Array Value):pU (h.push {cls:=.type "tuple",data:=.seq items}) h.objs.size items:=⟨_,Heap.get?_push_size _ rfl,rfl,rfl,_,rfl⟩
section
variable (P:Program)(w:World)
def bx(H:Hp)(h:Heap)(a:Addr):HO->Prop
 | .lst xs=>xs.length<=sizeLine/\∃ (its:List Value) (n:Nat),Vals xs its/\h.get? a=some {cls:=.type "list",data:=.seq its.toArray n}
 | .tup xs=>xs.length<=sizeLine/\∃ its:List Value,Vals xs its/\pU h a its.toArray
 | .dK kvs=>kvs.length<=sizeLine/\(a==sysModules)=false/\∃ vs,KV kvs vs/\h.DictOf (aP P w) a vs
 | .dT kvs=>kvs.length<=sizeLine/\(a==sysModules)=false/\∃ xs:List (List Key×Addr×Value),
   Paired (λ(p:List Key×V) (q:List Key×Addr×Value)=>p.1=q.1/\H q.2.1=some (.tup (p.1.map kV))/\RelV p.2 q.2.2) kvs xs /\
   ∃ o es ep,h.get? a=some o/\o.ExactDict/\o.data=.dict es ep/\es.toList=xs.map (entryOfKey (tupleKind (aP P w)))/\(xs.map (·.1)).Nodup
 | .set S n=>h.SetOf (intKind P w) a S n
 | .ins C dx fs=>H dx=some (.own a)/\fs.length<=1000/\dx≠a/\h.get? a=some (W.instObj C dx) /\
   ∃ mA,h.Ns1 dx mA/\(∀ f,iy (fs.lookup f) (mA f))/\PySem.Within mA (fs.map (·.1))
 | .own _=>∃ o,h.get? a=some o
 | .xd fs=>∃ mA,h.Ns1 a mA/\∀ f,iy (fs.lookup f) (mA f)
 | .rng lo hi=>∃ t u v,h.get? a=some {cls:=.type "range",data:=.fields #[.int lo t,.int hi u,.int 1 v]}
 | .frz o u=>h.get? a=some o/\bx H h a u
 | .tbl ps=>h.get? a=some {cls:=.none,data:=.fields ps}
 | .met f x=>h.get? a=some (W.methodObj (.ref f) (.ref x))
 | .ext φ=>φ h/\(∃ o,h.get? a=some o)/\∀ h1 h2:Heap,φ h1->(∀ o,h1.get? a=some o->h2.get? a=some o)->φ h2
def HOk(H:Hp)(h:Heap):Prop:=∀ a o,H a=some o->bx P w H h a o
end
section
variable {P:Program}{w:World}{H H':Hp}{h h':Heap}{a:Addr}{o:HO}
theorem bx.lt(x:bx P w H h a o):a<h.objs.size:=by
 cases o with
 | lst xs=>obtain⟨_,_,_,_,e⟩:=x;exact Heap.lt_size e
 | tup xs=>obtain⟨_,_,_,p⟩:=x;exact p.tup.lt
 | dK kvs=>obtain⟨_,_,_,_,o,_,_,e,_⟩:=x;exact Heap.lt_size e
 | dT kvs=>obtain⟨_,_,_,_,o,_,_,e,_⟩:=x;exact Heap.lt_size e
 | set S n=>obtain⟨o,_,_,_,e,_⟩:=x;exact Heap.lt_size e
 | ins C dx fs=>obtain⟨_,_,_,e,_⟩:=x;exact Heap.lt_size e
 | own y=>obtain⟨_,e⟩:=x;exact Heap.lt_size e
 | xd fs=>obtain⟨_,⟨_,_,_,e,_⟩,_⟩:=x;exact Heap.lt_size e
 | rng lo hi=>obtain⟨_,_,_,e⟩:=x;exact Heap.lt_size e
 | frz ob u=>obtain⟨e,_⟩:=x;exact Heap.lt_size e
 | tbl ps=>exact Heap.lt_size (show h.get? a=some _ from x)
 | met f y=>exact Heap.lt_size (show h.get? a=some _ from x)
 | ext φ=>obtain⟨_,⟨_,e⟩,_⟩:=x;exact Heap.lt_size e
theorem Paired.kd{α β:Type}{F G:α->β->Prop}:∀ {l₁:List α} {l₂:List β},Paired F l₁ l₂->(∀ a b,F a b->G a b)->Paired G l₁ l₂
 | _,_,.nil,_=>.nil
 | _,_,.cons r t,f=>.cons (f _ _ r) (Paired.kd t f)
theorem bx.qi(x:bx P w H h a o)(k:∀ b u,(b=a\/H b=some (.own a))->h.get? b=some u->h'.get? b=some u)
  (ho:∀ b,H b=some (.own a)->H' b=some (.own a))(ht:∀ b xs,H b=some (.tup xs)->H' b=some (.tup xs)):bx P w H' h' a o:=by
 induction o with
 | lst xs=>obtain⟨z,its,n,r,e⟩:=x;exact⟨z,its,n,r,k _ _ (.inl rfl) e⟩
 | tup xs=>obtain⟨z,its,r,ob,e,c⟩:=x;exact⟨z,its,r,ob,k _ _ (.inl rfl) e,c⟩
 | dK kvs=>obtain⟨z,y,vs,r,ob,es,ep,e,c⟩:=x;exact⟨z,y,vs,r,ob,es,ep,k _ _ (.inl rfl) e,c⟩
 | dT kvs =>
  obtain⟨z,y,xs,r,ob,es,ep,e,c⟩:=x;exact⟨z,y,xs,Paired.kd r λ p q z=>⟨z.1,ht _ _ z.2.1,z.2.2⟩,ob,es,ep,k _ _ (.inl rfl) e,c⟩
 | set S n=>obtain⟨ob,es,ep,t,e,c⟩:=x;exact⟨ob,es,ep,t,k _ _ (.inl rfl) e,c⟩
 | ins C dx fs =>
  obtain⟨d,z,ne,e,mA,⟨od,es,ep,e2,c⟩,r⟩:=x;exact⟨ho _ d,z,ne,k _ _ (.inl rfl) e,mA,⟨od,es,ep,k _ _ (.inr d) e2,c⟩,r⟩
 | own y=>obtain⟨ob,e⟩:=x;exact⟨ob,k _ _ (.inl rfl) e⟩
 | xd fs=>obtain⟨mA,⟨od,es,ep,e,c⟩,r⟩:=x;exact⟨mA,⟨od,es,ep,k _ _ (.inl rfl) e,c⟩,r⟩
 | rng lo hi=>obtain⟨t,u,v,e⟩:=x;exact⟨t,u,v,k _ _ (.inl rfl) e⟩
 | frz ob u ih=>obtain⟨e,q⟩:=x;exact⟨k _ _ (.inl rfl) e,ih q⟩
 | tbl ps =>
  have e:h.get? a=some {cls:=.none,data:=.fields ps}:=x;show h'.get? a=some {cls:=.none,data:=.fields ps};exact k a _ (.inl rfl) e
 | met f y =>
  have e:h.get? a=some (W.methodObj (.ref f) (.ref y)):=x;show h'.get? a=some (W.methodObj (.ref f) (.ref y));exact k a _ (.inl rfl) e
 | ext φ=>obtain⟨p,⟨o,e⟩,st⟩:=x;exact⟨st _ _ p λ o q=>k _ _ (.inl rfl) q,⟨o,k _ _ (.inl rfl) e⟩,st⟩
theorem HOk.lt(x:HOk P w H h)(e:H a=some o):a<h.objs.size:=(x a o e).lt
theorem HOk.fresh(x:HOk P w H h)(e:h.objs.size<=a):H a=none:=by
 cases q:H a with
 | none=>rfl
 | some u=>exact absurd (Nat.lt_of_lt_of_le (x.lt q) e) (Nat.lt_irrefl _)
theorem HOk.kept(x:HOk P w H h)(k:∀ b u,h.get? b=some u->h'.get? b=some u):HOk P w H h':=λ a o e =>
 (x a o e).qi (λ b u _ q=>k b u q) (λ _ q=>q) λ _ _ q=>q
theorem HOk.laid(x:HOk P w H h)(k:∀ b u,h.get? b=some u->h'.get? b=some u)(hp:h.objs.size<=a)(new:bx P w (upd H a o) h' a o):HOk P w (upd H a o) h':=λ b u e=>by
 have hn:=x.fresh hp
 by_cases hb:b=a
 ·subst hb;rw[ax] at e;cases e;exact new
 ·rw[ay hb] at e;exact(x b u e).qi (λ c v _ q=>k c v q) (λ c q=>by rw[ay (aX q hn)];exact q) λ c xs q=>by rw[ay (aX q hn)];exact q
end
def Rd(H:Hp)(a:Addr)(u:HO):Prop:=H a=some u\/∃ o,H a=some (.frz o u)
theorem Rd.ok{P:Program}{w:World}{H:Hp}{h:Heap}{a:Addr}{u:HO}(r:Rd H a u)(x:HOk P w H h):bx P w H h a u:=by
 rcases r with r | ⟨o,r⟩
 ·exact x a u r
 ·obtain⟨_,q⟩:=x a _ r;exact q
def Mut:Option HO->Prop
 | some (.lst _)=>True
 | some (.dK _)=>True
 | some (.dT _)=>True
 | some (.set _ _)=>True
 | some (.ins _ _ _)=>True
 | some (.ext _)=>True
 | _=>False
section
variable {P:Program}{w:World}{H:Hp}{h h':Heap}{x e:Addr}{o':HO}
theorem HOk.write(ok:HOk P w H h)(mu:Mut (H x))(he:e=x\/H e=some (.own x))(k:∀ b u,b≠e->h.get? b=some u->h'.get? b=some u)(heo:∃ u,h'.get? e=some u)
  (new:bx P w (upd H x o') h' x o'):HOk P w (upd H x o') h':=λ b u q=>by
 have nown:∀ c y,H c=some (.own y)->c≠x:=λ c y r z=>by subst z;rw[r] at mu;exact mu
 have ntup:∀ c xs,H c=some (.tup xs)->c≠x:=λ c xs r z=>by subst z;rw[r] at mu;exact mu
 by_cases hb:b=x
 ·subst hb;rw[ax] at q;cases q;exact new
 ·rw[ay hb] at q
  by_cases hbe:b=e
  ·have q':H b=some (.own x):=by
    rcases he with z | z
    ·exact absurd (hbe.trans z) hb
    ·rw[hbe];exact z
   rw[q] at q';cases q';obtain⟨v,hv⟩:=heo;exact⟨v,by rw[hbe];exact hv⟩
  ·refine(ok b u q).qi (λ c v hc r=>k c v ?_ r) (λ c r=>by rw[ay (nown c b r)];exact r) λ c xs r=>by rw[ay (ntup c xs r)];exact r
   rcases hc with rfl | hc
   ·exact hbe
   ·rintro rfl;rcases he with z | z
    ·exact nown c b hc z
    ·rw[hc] at z;cases z;exact hb rfl
end
structure Un(fs ex:List Addr)(H H':Hp)(h h':Heap):Prop where
 keep:∀ b o,h.get? b=some o->H b=none->b ∉ fs->b ∉ ex->h'.get? b=some o
 slot:∀ b o,h.get? b=some o->H b=none->b∈fs->b ∉ ex->∃ sl,h'.get? b=some {o with slots:=sl}
 free:∀ b o,h.get? b=some o->H b=none->b ∉ ex->H' b=none
 there:∀ b o,h.get? b=some o->b ∉ ex->∃ o',h'.get? b=some o'
 tups:∀ b xs,H b=some (.tup xs)->H' b=some (.tup xs)
 frzs:∀ b o u,H b=some (.frz o u)->H' b=some (.frz o u)
 tbls:∀ b ps,H b=some (.tbl ps)->∃ more,H' b=some (.tbl (ps++more))
section
variable {fs fs' ex ex':List Addr}{H H1 H2:Hp}{h h1 h2 h':Heap}{a x e:Addr}{o:HO}
theorem Un.any(u:Un fs ex H H1 h h1){b:Addr}{ob:Obj}(q:h.get? b=some ob)(n:H b=none)(hx:b ∉ ex):∃ sl,h1.get? b=some {ob with slots:=sl}:=by
 by_cases hb:b∈fs
 ·exact u.slot b ob q n hb hx
 ·exact⟨ob.slots,u.keep b ob q n hb hx⟩
theorem Un.kept(k:∀ b u,h.get? b=some u->h'.get? b=some u):Un fs ex H H h h':=
 ⟨λ b ob q _ _ _=>k b ob q,λ b ob q _ _ _=>⟨ob.slots,k b ob q⟩,λ _ _ _ n _=>n,λ b ob q _=>⟨ob,k b ob q⟩,λ _ _ q=>q,λ _ _ _ q=>q,λ _ ps q=>⟨#[],by rw[q];simp⟩⟩
theorem Un.refl:Un fs ex H H h h:=Un.kept λ _ _ q=>q
theorem Un.laid(k:∀ b u,h.get? b=some u->h'.get? b=some u)(hp:h.objs.size<=a)(hn:H a=none):Un fs ex H (upd H a o) h h' where
 keep:=λ b u q _ _ _=>k b u q
 slot:=λ b u q _ _ _=>⟨u.slots,k b u q⟩
 free:=λ b u q n _=>by rw[ay (Nat.ne_of_lt (Nat.lt_of_lt_of_le (Heap.lt_size q) hp))];exact n
 there:=λ b u q _=>⟨u,k b u q⟩
 tups:=λ b xs q=>by rw[ay (aX q hn)];exact q
 frzs:=λ b u xs q=>by rw[ay (aX q hn)];exact q
 tbls:=λ b ps q=>⟨#[],by rw[ay (aX q hn),q];simp⟩
theorem Un.write(mu:Mut (H x))(he:e=x\/H e=some (.own x))(k:∀ b u,b≠e->h.get? b=some u->h'.get? b=some u)(heo:∃ u,h'.get? e=some u):Un fs ex H (upd H x o) h h':=by
 have hx:∀ b,H b=none->b≠x:=λ b n z=>by subst z;rw[n] at mu;exact mu
 have hb:∀ b,H b=none->b≠e:=λ b n z=>by
  subst z;rcases he with r | r
  ·exact hx b n r
  ·rw[n] at r;cases r
 have hm:∀ b u,H b=some u->¬ Mut (some u)->b≠x:=λ b u q nm z=>by subst z;rw[q] at mu;exact nm mu
 refine⟨λ b u q n _ _=>k b u (hb b n) q,λ b u q n _ _=>⟨u.slots,k b u (hb b n) q⟩,λ b u q n _=>by rw[ay (hx b n)];exact n,λ b u q _=>?_,
  λ b xs q=>by rw[ay (hm b _ q λ z=>z)];exact q,λ b u xs q=>by rw[ay (hm b _ q λ z=>z)];exact q,λ b ps q=>⟨#[],by rw[ay (hm b _ q λ z=>z),q];simp⟩⟩
 by_cases hbe:b=e
 ·subst hbe;exact heo
 ·exact⟨u,k b u hbe q⟩
end
def trk(h:Heap)(H:Hp):List Addr:=(List.range h.objs.size).filter λ a=>(H a).isSome
def oJ(h:Heap)(H:Hp):Heap:=W.hideAll h (trk h H)
theorem mS(h:Heap)(H:Hp):(oJ h H).objs.size=h.objs.size:=W.hideAll_size _ _
theorem om{h:Heap}{H:Hp}{b:Addr}{o:Obj}(e:h.get? b=some o)(n:H b=none):(oJ h H).get? b=some o:=
 W.hideAll_get _ e λ hm=>by have q:(H b).isSome=true:=(List.mem_filter.mp hm).2;rw[n] at q;simp at q
theorem rW{h:Heap}{H:Hp}{b:Addr}{o:Obj}(e:(oJ h H).get? b=some o):h.get? b=some o/\H b=none:=by
 have e':h.get? b=some o:=W.of_hideAll (trk h H) e;refine⟨e',?_⟩;cases q:H b with
 | none=>rfl
 | some x =>
  have hm:b∈trk h H:=List.mem_filter.mpr ⟨List.mem_range.mpr (Heap.lt_size e'),by simp[q]⟩;have z:(oJ h H).get? b=none:=W.hideAll_none (trk h H) hm;rw[z] at e;cases e
def BM(mg:Str->Option Value)(h:Heap):Prop:=(∃ bm o,mg "__builtins__" = some (.ref bm)/\bm≠builtinsNs/\h.get? bm=some o/\o.cls=.type "module" /\ o.dict=some builtinsNs/\o.data=.plain)/\∃ mm,h.Ns sysModules mm
structure Mod(K:FG)(mg:Str->Option Value)(base:Heap):Prop where
 kin:K.In base
 glob:base.Ns mainGlobals mg
 blt:∃ mb,base.Ns builtinsNs mb/\∀ x:Str,x ≠ "__name__" -> mb x=bootBuiltins x
 nolimit:base.NoLimit
 bm:BM mg base
structure Cx where
 prog:Program
 w:World
 K:FG
 mg:Str->Option Value
 base:Heap
 A:Around
 N:List Str
 s₀:Shared
 H₀:Hp
 env:Env
 outer:List Env
 stack:List Env
 ex:List Addr
 fn:Str->Bool
 calm:Bool
 pn:PN
 xe:VP
def frs(l:List Env):List Addr:=l.filterMap (·.frame)
abbrev Cx.fs(X:Cx):List Addr:=frs X.outer
def Vis(sc:Scope)(x:Str):Prop:=sc.names.lookup x=some .local\/sc.names.lookup x=some .cell\/sc.names.lookup x=some .free
def Loc(sc:Scope)(x:Str):Prop:=sc.names.lookup x=some .local\/sc.names.lookup x=some .cell
def Look(env:Env)(h:Heap)(m:Str->Option Value)(x:Str)(u:Value):Prop:=
 (env.kindOf x=some .local/\m x=some u)\/((env.kindOf x=some .cell\/env.kindOf x=some .free)/\∃ c,env.cells.lookup x=some c/\h.IsCell c (some u))
structure Cx.Ok(X:Cx):Prop where
 mod:Mod X.K X.mg X.base
 kind:X.env.scope.kind=.function
 glob:X.env.globals=mainGlobals
 blt:X.env.builtins=builtinsNs
 above:X.s₀.heap.objs.size<=X.env.locals
 inj:∀ x y c,X.env.cells.lookup x=some c->X.env.cells.lookup y=some c->x=y
 has:∀ x,(X.env.kindOf x=some .cell\/X.env.kindOf x=some .free)->∃ c,X.env.cells.lookup x=some c
 cab:∀ x c,X.fn x=true->X.env.cells.lookup x=some c->X.s₀.heap.objs.size<=c
 hd:X.calm=true->X.A.handled=none
 frames:X.A.frames=some X.stack
 stk:X.stack=X.outer\/(X.stack=X.env::X.outer/\X.env.frame=some X.env.locals)
 exf:∀ b∈X.ex,b≠X.env.locals/\∀ x c,X.env.cells.lookup x=some c->c≠b
 bs:∀ b o,X.base.get? b=some o->X.s₀.heap.get? b=some o/\X.H₀ b=none
 bsz:X.base.objs.size<=X.s₀.heap.objs.size
 noex:∀ b o,X.base.get? b=some o->b ∉ X.ex
 exfs:∀ b∈X.ex,b ∉ X.fs
 jP:X.s₀.heap.FunFrames X.base X.outer
 frf:∀ b∈X.fs,X.H₀ b=none
structure Inv(X:Cx)(pins:PN)(σ:List (Option V))(H:Hp)(s:Shared):Prop where
 ok:X.Ok
 os:s.os=X.s₀.os
 bare:AllBare s.gens
 base:Un X.fs X.ex X.H₀ H X.s₀.heap s.heap
 loc:∃ m,s.heap.Ns X.env.locals m/\∀ (i:Nat) (x:Str) (v:V),X.N[i]? =some x->σ[i]? =some (some v)->Vis X.env.scope x->∃ u,RelV v u/\Look X.env s.heap m x u
 cell:∀ x c,X.env.cells.lookup x=some c->∃ v,s.heap.IsCell c v
 free:H X.env.locals=none
 freeC:∀ x c,X.env.cells.lookup x=some c->H c=none
 pin:∀ p∈X.pn++pins,s.heap.get? p.1=some p.2/\H p.1=none/\p.1≠X.env.locals/\p.1 ∉ X.fs/\∀ v,p.2.data ≠ .cell v
 hok:HOk X.prog X.w H s.heap
 len:σ.length=X.N.length
section
variable {X:Cx}{pins:PN}{σ:List (Option V)}{H H':Hp}{s:Shared}{h':Heap}
theorem Cx.Ok.xx(ok:X.Ok){b:Addr}{o:Obj}(e:X.base.get? b=some o):b ∉ X.fs:=λ hb=>by have:=(ok.jP.mem hb).1;rw[e] at this;cases this
theorem Inv.bs(I:Inv X pins σ H s):∀ b o,X.base.get? b=some o->s.heap.get? b=some o/\H b=none:=λ b o e =>
 ⟨I.base.keep b o (I.ok.bs b o e).1 (I.ok.bs b o e).2 (I.ok.xx e) (I.ok.noex b o e),I.base.free b o (I.ok.bs b o e).1 (I.ok.bs b o e).2 (I.ok.noex b o e)⟩
theorem Inv.bk(I:Inv X pins σ H s):∀ b o,X.base.get? b=some o->s.heap.get? b=some o:=λ b o e=>(I.bs b o e).1
theorem Inv.mod(I:Inv X pins σ H s):Mod X.K X.mg X.base:=I.ok.mod
theorem Inv.kIn(I:Inv X pins σ H s):X.K.In s.heap:=I.ok.mod.kin.keeps I.bk
theorem Inv.lt(I:Inv X pins σ H s):X.env.locals<s.heap.objs.size:=let ⟨_,hn,_⟩:=I.loc;hn.lt
theorem Inv.sz(I:Inv X pins σ H s):X.s₀.heap.objs.size<=s.heap.objs.size:=Nat.le_trans I.ok.above (Nat.le_of_lt I.lt)
theorem Inv.xj(I:Inv X pins σ H s){a:Addr}(h:s.heap.objs.size<=a):a ∉ X.fs:=λ hb=>by obtain⟨_,o,ho,_⟩:=I.ok.jP.mem hb;exact absurd (Nat.lt_of_lt_of_le (Heap.lt_size ho) (Nat.le_trans I.sz h)) (Nat.lt_irrefl _)
theorem Inv.cne(I:Inv X pins σ H s):∀ x c,X.env.cells.lookup x=some c->c≠X.env.locals:=λ x c e z=>by obtain⟨v,o,ho,hd⟩:=I.cell x c e;obtain⟨m,⟨o',es,ep,ho',hd',_⟩,_⟩:=I.loc;rw[z,ho'] at ho;cases ho;rw[hd'] at hd;cases hd
theorem Inv.jP(I:Inv X pins σ H s):s.heap.FunFrames X.base X.outer:=by
 have all:∀ (l:List Env),(∀ b∈frs l,b∈X.fs)->X.s₀.heap.FunFrames X.base l->s.heap.FunFrames X.base l:=by
  intro l
  induction l with
  | nil=>intro _ _;trivial
  | cons env r ih =>
   intro hs hl;obtain⟨hk,⟨L,o,hf,hn,ho,hd⟩,hr⟩:=hl;have hL:L∈X.fs:=hs L (by unfold frs;rw[List.filterMap_cons,hf];exact List.mem_cons_self);obtain⟨sl,e⟩:=I.base.slot L o ho (I.ok.frf L hL) hL λ z=>I.ok.exfs L z hL;exact⟨hk,⟨L,_,hf,hn,e,hd⟩,ih (λ b hb=>hs b (by unfold frs;rw[List.filterMap_cons,hf];exact List.mem_cons_of_mem _ hb)) hr⟩
 exact all X.outer (λ _ hb=>hb) I.ok.jP
theorem Inv.stack(I:Inv X pins σ H s):s.heap.FunFrames X.base X.stack:=by
 rcases I.ok.stk with e | ⟨e,hf⟩
 ·rw[e];exact I.jP
 ·rw[e];obtain⟨m,hn,_⟩:=I.loc;refine .cons (by rw[I.ok.kind];decide) hf hn ?_ I.jP;exact Heap.get?_none_of_le (Nat.le_trans I.ok.bsz I.ok.above)
theorem Inv.fm(I:Inv X pins σ H s):∀ b∈frs X.stack,b∈X.env.locals::X.fs:=λ b hb=>by
 rcases I.ok.stk with e | ⟨e,hf⟩
 ·rw[e] at hb;exact List.mem_cons_of_mem _ hb
 ·rw[e] at hb;unfold frs at hb;rw[List.filterMap_cons,hf] at hb;exact hb
theorem Inv.mj(I:Inv X pins σ H s):∀ b∈frs X.stack,H b=none:=λ b hb=>by
 rcases List.mem_cons.mp (I.fm b hb) with e | hb
 ·rw[e];exact I.free
 ·obtain⟨_,o,ho,_⟩:=I.ok.jP.mem hb;exact I.base.free b o ho (I.ok.frf b hb) λ z=>I.ok.exfs b z hb
theorem Inv.step{g':Array GenState}{t':Nat}{d':Drawn}{ch:List Addr}(I:Inv X pins σ H s)
  (hch:∀ b∈ch,(b∈X.ex\/X.s₀.heap.objs.size<=b)/\b≠X.env.locals/\(∀ x c,X.env.cells.lookup x=some c->c≠b)/\∀ p∈X.pn++pins,p.1≠b)
  (keep:∀ b o,b≠X.env.locals->b ∉ X.fs->b ∉ ch->s.heap.get? b=some o->H b=none->h'.get? b=some o)
  (slot:∀ b o,b≠X.env.locals->b∈X.fs->b ∉ ch->s.heap.get? b=some o->H b=none->∃ sl,h'.get? b=some {o with slots:=sl})(free:∀ b o,b ∉ ch->s.heap.get? b=some o->H b=none->H' b=none)
  (there:∀ b o,b ∉ ch->s.heap.get? b=some o->∃ o',h'.get? b=some o')
  (tups:∀ b xs,H b=some (.tup xs)->H' b=some (.tup xs))(frzs:∀ b o u,H b=some (.frz o u)->H' b=some (.frz o u))(tbls:∀ b ps,H b=some (.tbl ps)->∃ more,H' b=some (.tbl (ps++more)))
  (ns:∀ m,s.heap.Ns X.env.locals m->h'.Ns X.env.locals m)(hok:HOk X.prog X.w H' h')(hg:AllBare g') :
  Inv X pins σ H' {s with heap:=h',gens:=g',drawn:=d',toks:=t'}:=by
 have neL:∀ b o,X.s₀.heap.get? b=some o->b≠X.env.locals:=λ b o e=>Nat.ne_of_lt (Nat.lt_of_lt_of_le (Heap.lt_size e) I.ok.above);have neC:∀ b o,X.s₀.heap.get? b=some o->b ∉ X.ex->b ∉ ch:=λ b o e hx hb=>by
  rcases(hch b hb).1 with z | z
  ·exact hx z
  ·exact absurd (Nat.lt_of_lt_of_le (Heap.lt_size e) z) (Nat.lt_irrefl _)
 have cellK:∀ x c,X.env.cells.lookup x=some c->∀ v,s.heap.IsCell c v->h'.IsCell c v:=λ x c e v hq0=>by
  obtain⟨o,ho,hd⟩:=hq0;have nch:c ∉ ch:=λ z=>(hch c z).2.2.1 x c e rfl
  by_cases hc:c∈X.fs
  ·obtain⟨sl,q⟩:=slot c o (I.cne x c e) hc nch ho (I.freeC x c e);exact⟨_,q,hd⟩
  ·exact⟨o,keep c o (I.cne x c e) hc nch ho (I.freeC x c e),hd⟩
 refine⟨I.ok,I.os,hg,⟨λ b o e n hb hx=>?_,λ b o e n hb hx=>?_,λ b o e n hx=>?_,λ b o e hx=>?_,λ b xs e=>tups b xs (I.base.tups b xs e),λ b o xs e=>frzs b o xs (I.base.frzs b o xs e),λ b ps e=>?_⟩,?_,λ x c e=>?_,?_,λ x c e=>?_,λ p hp=>?_,hok,I.len⟩
 ·exact keep b o (neL b o e) hb (neC b o e hx) (I.base.keep b o e n hb hx) (I.base.free b o e n hx)
 ·obtain⟨sl,e1⟩:=I.base.slot b o e n hb hx;obtain⟨sl',e2⟩:=slot b _ (neL b o e) hb (neC b o e hx) e1 (I.base.free b o e n hx);exact⟨sl',e2⟩
 ·obtain⟨o',e1⟩:=I.base.there b o e hx;exact free b o' (neC b o e hx) e1 (I.base.free b o e n hx)
 ·obtain⟨o',e1⟩:=I.base.there b o e hx;exact there b o' (neC b o e hx) e1
 ·obtain⟨m1,e1⟩:=I.base.tbls b ps e;obtain⟨m2,e2⟩:=tbls b _ e1;exact⟨m1++m2,by rw[e2,Array.append_assoc]⟩
 ·obtain⟨m,hn,hl⟩:=I.loc;refine⟨m,ns m hn,λ i x v e1 e2 e3=>?_⟩;obtain⟨u,r,l⟩:=hl i x v e1 e2 e3;refine⟨u,r,?_⟩;rcases l with l | ⟨k,c,e,z⟩
  ·exact .inl l
  ·exact .inr ⟨k,c,e,cellK x c e _ z⟩
 ·obtain⟨v,z⟩:=I.cell x c e;exact⟨v,cellK x c e v z⟩
 ·obtain⟨m,⟨o,_,_,ho,_⟩,_⟩:=I.loc;exact free _ o (λ z=>(hch _ z).2.1 rfl) ho I.free
 ·obtain⟨v,o,ho,hd⟩:=I.cell x c e;exact free c o (λ z=>(hch c z).2.2.1 x c e rfl) ho (I.freeC x c e)
 ·obtain⟨e,n,ne,nf,d⟩:=I.pin p hp;have nch:p.1 ∉ ch:=λ z=>(hch p.1 z).2.2.2 p hp rfl;exact⟨keep p.1 p.2 ne nf nch e n,free p.1 p.2 nch e n,ne,nf,d⟩
theorem Inv.un{t':Nat}(I:Inv X pins σ H s)(u:Un X.fs [] H H' s.heap h')(hok:HOk X.prog X.w H' h'):Inv X pins σ H' {s with heap:=h',toks:=t'}:=by
 obtain⟨m,⟨o,es,ep,ho,r⟩,_⟩:=id I.loc;obtain⟨sl,hL⟩:=u.any ho I.free (by simp);exact I.step (g':=s.gens) (d':=s.drawn) (ch:=[]) (λ _ z=>nomatch z) (λ b o _ hb _ e n=>u.keep b o e n hb (by simp)) (λ b o _ hb _ e n=>u.slot b o e n hb (by simp)) (λ b o _ e n=>u.free b o e n (by simp)) (λ b o _ e=>u.there b o e (by simp)) u.tups u.frzs u.tbls (λ m' hm=>by obtain⟨o',es',ep',ho',r'⟩:=hm;rw[ho] at ho';cases ho';exact⟨_,es',ep',hL,r'⟩) hok I.bare
theorem Inv.call{g':Array GenState}{t':Nat}{d':Drawn}{ch:List Addr}(I:Inv X pins σ H s)(u:Un (frs X.stack) ch H H' s.heap h')(hok:HOk X.prog X.w H' h')(hg:AllBare g')
  (hch:∀ b∈ch,(b∈X.ex\/X.s₀.heap.objs.size<=b)/\b≠X.env.locals/\(∀ x c,X.env.cells.lookup x=some c->c≠b)/\∀ p∈X.pn++pins,p.1≠b) :
  Inv X pins σ H' {s with heap:=h',gens:=g',drawn:=d',toks:=t'}:=by
 obtain⟨m,⟨o,es,ep,ho,r⟩,_⟩:=id I.loc;obtain⟨sl,hL⟩:=u.any ho I.free λ z=>(hch _ z).2.1 rfl;exact I.step (ch:=ch) hch (λ b o hL hb hc e n=>u.keep b o e n (λ z=>(List.mem_cons.mp (I.fm b z)).elim hL hb) hc) (λ b o _ _ hc e n=>u.any e n hc) (λ b o hc e n=>u.free b o e n hc) (λ b o hc e=>u.there b o e hc) u.tups u.frzs u.tbls (λ m' hm=>by obtain⟨o',es',ep',ho',r'⟩:=hm;rw[ho] at ho';cases ho';exact⟨_,es',ep',hL,r'⟩) hok hg
theorem Inv.turned{t':Nat}{it:Addr}(I:Inv X pins σ H s)(k:∀ b o,b≠it->s.heap.get? b=some o->h'.get? b=some o)(hn:H it=none)(hL:it≠X.env.locals)
  (h1:it∈X.ex\/X.s₀.heap.objs.size<=it)(h2:∀ x c,X.env.cells.lookup x=some c->c≠it)(h3:∀ p∈X.pn++pins,p.1≠it):Inv X pins σ H {s with heap:=h',toks:=t'}:=by
 have nit:∀ b u,H b=some u->b≠it:=λ b u e z=>by rw[z,hn] at e;cases e
 refine I.step (g':=s.gens) (d':=s.drawn) (ch:=[it]) (λ b hb=>?_) (λ b o _ _ hc e _=>k b o (λ z=>hc (by simp[z])) e) (λ b o _ _ hc e _=>⟨o.slots,k b o (λ z=>hc (by simp[z])) e⟩) (λ _ _ _ _ n=>n)
  (λ b o hc e=>⟨o,k b o (λ z=>hc (by simp[z])) e⟩) (λ _ _ e=>e) (λ _ _ _ e=>e) (λ b ps e=>⟨#[],by rw[e];simp⟩) (λ m hm=>?_) (λ b u e=>?_) I.bare
 ·have e:b=it:=by simpa using hb
  subst e;exact⟨h1,hL,h2,h3⟩
 ·obtain⟨o,es,ep,ho,r⟩:=hm;exact⟨o,es,ep,k _ o (Ne.symm hL) ho,r⟩
 ·refine(I.hok b u e).qi (λ c v hc q=>k c v ?_ q) (λ _ q=>q) λ _ _ q=>q;rcases hc with z | z
  ·rw[z];exact nit b u e
  ·exact nit c _ z
theorem Inv.tok(I:Inv X pins σ H s)(t:Nat):Inv X pins σ H {s with toks:=t}:=I.un (h':=s.heap) (t':=t) Un.refl I.hok
theorem Inv.kept{t':Nat}(I:Inv X pins σ H s)(k:∀ b u,s.heap.get? b=some u->h'.get? b=some u):Inv X pins σ H {s with heap:=h',toks:=t'}:=I.un (Un.kept k) (I.hok.kept k)
theorem Inv.laid{a:Addr}{o:HO}{t':Nat}(I:Inv X pins σ H s)(k:∀ b u,s.heap.get? b=some u->h'.get? b=some u)(hp:s.heap.objs.size<=a)(new:bx X.prog X.w (upd H a o) h' a o) :
  Inv X pins σ (upd H a o) {s with heap:=h',toks:=t'}:=I.un (Un.laid k hp (I.hok.fresh hp)) (I.hok.laid k hp new)
theorem Inv.write{x e:Addr}{o:HO}{t':Nat}(I:Inv X pins σ H s)(mu:Mut (H x))(he:e=x\/H e=some (.own x))(k:∀ b u,b≠e->s.heap.get? b=some u->h'.get? b=some u)(heo:∃ u,h'.get? e=some u)
  (new:bx X.prog X.w (upd H x o) h' x o):Inv X pins σ (upd H x o) {s with heap:=h',toks:=t'}:=I.un (Un.write mu he k heo) (I.hok.write mu he k heo new)
theorem Inv.df{pins':PN}(I:Inv X pins σ H s)(h:∀ p∈pins',s.heap.get? p.1=some p.2/\H p.1=none/\p.1≠X.env.locals/\p.1 ∉ X.fs/\∀ v,p.2.data ≠ .cell v):Inv X pins' σ H s:=
 ⟨I.ok,I.os,I.bare,I.base,I.loc,I.cell,I.free,I.freeC,λ p hp=>(List.mem_append.mp hp).elim (λ z=>I.pin p (List.mem_append_left _ z)) (h p),I.hok,I.len⟩
theorem i9{N:List Str}(hN:N.Nodup){i j:Nat}{x:Str}(a:N[i]? =some x)(b:N[j]? =some x):i=j:=by obtain⟨h1,e1⟩:=List.getElem?_eq_some_iff.mp a;obtain⟨h2,e2⟩:=List.getElem?_eq_some_iff.mp b;exact(List.getElem_inj hN).mp (e1.trans e2.symm)
theorem lR{M:Model}{A:Around}{E:VP}{i:Nat}{x:Str}{v:V}{u:Value}{Q:Unit->Shared->Prop}(I:Inv X pins σ H s)(hN:X.N.Nodup)(hi:X.N[i]? =some x)(hx:Loc X.env.scope x)(r:RelV v u)
  (h:∀ s',Inv X pins (σ.set i (some v)) H s'->(∃ a,Heap.SameBut a s.heap s'.heap/\(a=X.env.locals\/X.env.cells.lookup x=some a))->Q () s')(hf:X.fn x=true\/X.env.scope.names.lookup x=some .local:=by first | exact .inl rfl | exact .inr rfl | assumption):wpAny M A (storeName X.env x u) Q E s:=by
 obtain⟨m,hn,hl⟩:=id I.loc;have hcls:(X.env.scope.kind==.class || (X.env.scope.kind==.module&&X.env.locals != X.env.globals))=false:=by rw[I.ok.kind];rfl
 have hiσ:i<σ.length:=by rw[I.len];exact(List.getElem?_eq_some_iff.mp hi).1
 have cne:=I.cne;have tracked:∀ {a:Addr} {h':Heap},(∃ o,s.heap.get? a=some o/\H a=none)->Heap.SameBut a s.heap h'->HOk X.prog X.w H h':=λ {a h'} ha hs b ob e=>by
  obtain⟨_,_,hfree⟩:=ha;refine(I.hok b ob e).qi (λ c w' hc q=>(hs.2 c ?_).trans q) (λ _ q=>q) λ _ _ q=>q;rintro rfl;rcases hc with rfl | hc
  ·rw[hfree] at e;cases e
  ·rw[hfree] at hc;cases hc
 rcases hx with hk | hk
 ·refine wpAny_storeName_local hk hn (λ h' hn' hs=>?_) hcls;obtain⟨oL,_,_,hoL,_⟩:=id hn;refine h _ ⟨I.ok,I.os,I.bare,⟨λ b o e n hb hx=>?_,λ b o e n hb hx=>?_,I.base.free,λ b o e hx=>?_,I.base.tups,I.base.frzs,I.base.tbls⟩,⟨_,hn',λ j y v' e1 e2 e3=>?_⟩,λ y c e=>?_,I.free,I.freeC,λ p hp=>?_,tracked ⟨oL,hoL,I.free⟩ hs,by simpa using I.len⟩ ⟨_,hs,.inl rfl⟩
  ·exact(hs.2 b (Nat.ne_of_lt (Nat.lt_of_lt_of_le (Heap.lt_size e) I.ok.above))).trans (I.base.keep b o e n hb hx)
  ·obtain⟨sl,e1⟩:=I.base.slot b o e n hb hx;exact⟨sl,(hs.2 b (Nat.ne_of_lt (Nat.lt_of_lt_of_le (Heap.lt_size e) I.ok.above))).trans e1⟩
  ·obtain⟨o',e1⟩:=I.base.there b o e hx;exact⟨o',(hs.2 b (Nat.ne_of_lt (Nat.lt_of_lt_of_le (Heap.lt_size e) I.ok.above))).trans e1⟩
  ·by_cases hj:j=i
   ·subst hj;rw[hi] at e1;cases e1;rw[List.getElem?_set_self hiσ] at e2;cases e2;exact⟨u,r,.inl ⟨hk,by simp⟩⟩
   ·rw[List.getElem?_set_ne (Ne.symm hj)] at e2;obtain⟨u',r',q⟩:=hl j y v' e1 e2 e3;refine⟨u',r',?_⟩;rcases q with ⟨k,e⟩ | ⟨k,c,e,z⟩
    ·refine .inl ⟨k,?_⟩;have:y≠x:=λ e=>hj (i9 hN e1 (e ▸ hi));simp[this,e]
    ·exact .inr ⟨k,c,e,z.sameBut hs (cne y c e)⟩
  ·obtain⟨w',z⟩:=I.cell y c e;exact⟨w',z.sameBut hs (cne y c e)⟩
  ·obtain⟨e,n,ne,nf,d⟩:=I.pin p hp;exact⟨(hs.2 p.1 ne).trans e,n,ne,nf,d⟩
 ·have hfn:X.fn x=true:=by
   rcases hf with z | z
   ·exact z
   ·rw[z] at hk;cases hk
  obtain⟨c,hc⟩:=I.ok.has x (.inl hk);obtain⟨w',z⟩:=I.cell x c hc;refine wpAny_storeName_cell I.ok.kind hk hc z (λ h' hc' hs=>?_);obtain⟨oc,hoc,hocd⟩:=id z;refine h {s with heap:=h'} ⟨I.ok,I.os,I.bare,⟨λ b o e n hb hx=>?_,λ b o e n hb hx=>?_,I.base.free,λ b o e hx=>?_,I.base.tups,I.base.frzs,I.base.tbls⟩,⟨m,hn.sameBut hs (Ne.symm (cne x c hc)),λ j y v' e1 e2 e3=>?_⟩,λ y c' e=>?_,I.free,I.freeC,λ p hp=>?_,tracked ⟨oc,hoc,I.freeC x c hc⟩ hs,by simpa using I.len⟩ ⟨c,hs,.inr hc⟩
  ·exact(hs.2 b (Nat.ne_of_lt (Nat.lt_of_lt_of_le (Heap.lt_size e) (I.ok.cab x c hfn hc)))).trans (I.base.keep b o e n hb hx)
  ·obtain⟨sl,e1⟩:=I.base.slot b o e n hb hx;exact⟨sl,(hs.2 b (Nat.ne_of_lt (Nat.lt_of_lt_of_le (Heap.lt_size e) (I.ok.cab x c hfn hc)))).trans e1⟩
  ·obtain⟨o',e1⟩:=I.base.there b o e hx;exact⟨o',(hs.2 b (Nat.ne_of_lt (Nat.lt_of_lt_of_le (Heap.lt_size e) (I.ok.cab x c hfn hc)))).trans e1⟩
  ·by_cases hj:j=i
   ·subst hj;rw[hi] at e1;cases e1;rw[List.getElem?_set_self hiσ] at e2;cases e2;exact⟨u,r,.inr ⟨.inl hk,c,hc,hc'⟩⟩
   ·rw[List.getElem?_set_ne (Ne.symm hj)] at e2;obtain⟨u',r',q⟩:=hl j y v' e1 e2 e3;refine⟨u',r',?_⟩;rcases q with q | ⟨k,c',e,z'⟩
    ·exact .inl q
    ·refine .inr ⟨k,c',e,z'.sameBut hs ?_⟩;rintro rfl;exact hj (i9 hN e1 (I.ok.inj _ _ _ e hc ▸ hi))
  ·by_cases hcc:c'=c
   ·subst hcc;exact⟨_,hc'⟩
   ·obtain⟨w2,z2⟩:=I.cell y c' e;exact⟨w2,z2.sameBut hs hcc⟩
  ·obtain⟨e,n,ne,nf,d⟩:=I.pin p hp;refine⟨(hs.2 p.1 ?_).trans e,n,ne,nf,d⟩;intro q;rw[q,hoc] at e;have q':oc=p.2:=Option.some.inj e;exact d w' (by rw[<- q'];exact hocd)
theorem dP{M:Model}{A:Around}{E:VP}{i:Nat}{x:Str}{v:V}{u:Value}{Q:Unit->Shared->Prop}(I:Inv X pins σ H s)(hN:X.N.Nodup)(hi:X.N[i]? =some x)(hx:Loc X.env.scope x)(r:RelV v u)
  (h:∀ s',Inv X pins (σ.set i (some v)) H s'->Q () s')(hf:X.fn x=true\/X.env.scope.names.lookup x=some .local:=by first | exact .inl rfl | exact .inr rfl | assumption):wpAny M A (storeName X.env x u) Q E s:=
 lR I hN hi hx r (λ s' I' _=>h s' I') hf
theorem Inv.vU{s':Shared}{ch:List Addr}(I:Inv X pins σ H s)(ho:s'.os=s.os)(u:Un (frs X.stack) ch H H' s.heap s'.heap)(hok:HOk X.prog X.w H' s'.heap)(hg:AllBare s'.gens)
  (hch:∀ b∈ch,(b∈X.ex\/X.s₀.heap.objs.size<=b)/\b≠X.env.locals/\(∀ x c,X.env.cells.lookup x=some c->c≠b)/\∀ p∈X.pn++pins,p.1≠b):Inv X pins σ H' s':=by
 obtain⟨h',g',d',t',o'⟩:=s';have e:o'=s.os:=ho;subst e;exact I.call (g':=g') (t':=t') (d':=d') u hok hg hch
end
abbrev XK:=Value->Option Addr->Hp->Prop
abbrev St:=List (Option V)
abbrev VK:=V->Hp->Prop
abbrev TE:=St->Hp->VK->Prop
abbrev TT:=St->Hp->(Bool->Hp->Prop)->Prop
abbrev TA:=St->Hp->(List V->Hp->Prop)->Prop
structure Ends where
 nx:St->Hp->Prop
 rt:VK
 bk:St->Hp->Prop:=λ _ _=>False
 ct:St->Hp->Prop:=λ _ _=>False
abbrev TS:=Ends->St->Hp->Prop
def EP(X:Cx)(pins:PN)(σ:St)(Q:VK)(u:Value)(s':Shared):Prop:=∃ v H',Inv X pins σ H' s'/\RelV v u/\Q v H'
def TP(X:Cx)(pins:PN)(σ:St)(Q:Bool->Hp->Prop)(b:Bool)(s':Shared):Prop:=∃ H',Inv X pins σ H' s'/\Q b H'
def AP(X:Cx)(pins:PN)(σ:St)(Q:List V->Hp->Prop)(us:List Value)(s':Shared):Prop:=∃ vs H',Inv X pins σ H' s'/\Vals vs us/\Q vs H'
def SP(X:Cx)(pins:PN)(D:Ends)(f:Flow)(s':Shared):Prop:=
 match f with
 | .next=>∃ σ' H',Inv X pins σ' H' s'/\D.nx σ' H'
 | .brk=>∃ σ' H',Inv X pins σ' H' s'/\D.bk σ' H'
 | .cont=>∃ σ' H',Inv X pins σ' H' s'/\D.ct σ' H'
 | .ret u=>∃ v σ' H',Inv X pins σ' H' s'/\RelV v u/\D.rt v H'
def PE(X:Cx)(e:Expr)(t:TE):Prop:=
 ∀ (pins:PN) (s:Shared) (σ:St) (H:Hp) (Q:VK),Inv X pins σ H s->t σ H Q->wpAny (model X.prog X.w) X.A (eval e X.env) (EP X pins σ Q) X.xe s
def PT(X:Cx)(e:Expr)(t:TT):Prop:=
 ∀ (pins:PN) (s:Shared) (σ:St) (H:Hp) (Q:Bool->Hp->Prop),Inv X pins σ H s->t σ H Q->wpAny (model X.prog X.w) X.A (isTrue e X.env (eval e X.env)) (TP X pins σ Q) X.xe s
def PW(X:Cx)(e:Expr)(t:TT):Prop:=
 ∀ (whole:Sem Value) (pins:PN) (s:Shared) (σ:St) (H:Hp) (Q:Bool->Hp->Prop),Inv X pins σ H s->t σ H Q->wpAny (model X.prog X.w) X.A (isTrue e X.env whole) (TP X pins σ Q) X.xe s
theorem PW.pt{X:Cx}{e:Expr}{t:TT}(h:PW X e t):PT X e t:=h _
def PA(X:Cx)(es:List Expr)(t:TA):Prop:=
 ∀ (pos:Pos) (pins:PN) (s:Shared) (σ:St) (H:Hp) (Q:List V->Hp->Prop),Inv X pins σ H s->t σ H Q->wpAny (model X.prog X.w) X.A (spliced (backTo pos (starEach es X.env))) (AP X pins σ Q) X.xe s
def PS(X:Cx)(st:Stmt)(t:TS):Prop:=
 ∀ (pins:PN) (s:Shared) (σ:St) (H:Hp) (D:Ends),Inv X pins σ H s->t D σ H->wpAny (model X.prog X.w) X.A (exec st X.env) (SP X pins D) X.xe s
def PSs(X:Cx)(st:List Stmt)(t:TS):Prop:=
 ∀ (pins:PN) (s:Shared) (σ:St) (H:Hp) (D:Ends),Inv X pins σ H s->t D σ H->wpAny (model X.prog X.w) X.A (execs st X.env) (SP X pins D) X.xe s
theorem thn{α:Type}{t:Sem α}{Q Q':α->Shared->Prop}{M:Model}{A:Around}{E:VP}{s:Shared}(h:wpAny M A t Q E s)(hQ:∀ a s,Q a s->Q' a s):wpAny M A t Q' E s:=wpAny_mono h hQ λ _ _ x=>x
section
variable {X:Cx}
def w5(i:Nat):TE:=λ σ H Q=>∃ v,σ[i]? =some (some v)/\Q v H
def tC(v:V):TE:=λ _ H Q=>Q v H
theorem ue{i:Nat}{x:Str}{pos:Pos}(hN:X.N[i]? =some x)(hv:Vis X.env.scope x)(hd:ND x:=by decide)(hcd:(x==("__classdict__" : Str))=false:=by decide):PE X (.Name x pos) (w5 i):=by
 intro pins s σ H Q I h;obtain⟨v,e,h⟩:=h;obtain⟨m,hn,hl⟩:=I.loc;obtain⟨u,r,l⟩:=hl i x v hN e hv;have fin:EP X pins σ Q u s:=⟨v,H,I,r,h⟩;rcases l with ⟨hk,hm⟩ | ⟨hk,c,hc,hcell⟩
 ·exact wpAny_Name (wpAny_loadName_local I.ok.kind hk hn hm fin) hd
 ·rcases hk with hk | hk
  ·exact wpAny_Name (wpAny_loadName_cell I.ok.kind hk hc hcell fin) hd
  ·exact wpAny_Name (wpAny_loadName_free I.ok.kind hk hc hcell fin hcd) hd
theorem tm{i j pos}:PE X (.Constant (.int i) j pos) (tC (.int i)):=λ _ _ _ H _ I h=>wpAny_Constant_int ⟨.int i,H,I.tok _,⟨_,rfl⟩,h⟩
theorem vz{b j pos}:PE X (.Constant (.bool b) j pos) (tC (.bl b)):=λ _ _ _ H _ I h=>Constant_bool ⟨.bl b,H,I,rfl,h⟩
theorem uI{x j pos}:PE X (.Constant (.str x) j pos) (tC (.str x)):=λ _ _ _ H _ I h=>Calls.Constant_str ⟨.str x,H,I.tok _,⟨_,rfl⟩,h⟩
def Gl(X:Cx)(x:Str):Prop:=X.env.kindOf x=some .globalImplicit
theorem my{E:VP}{pins:PN}{s:Shared}{σ:St}{H:Hp}{x:Str}{u:Value}{pos:Pos}{Q:VP}(I:Inv X pins σ H s)(hg:Gl X x)(hm:X.mg x=some u)(h:Q u s)
  (hd:ND x:=by decide):wpAny (model X.prog X.w) X.A (eval (.Name x pos) X.env) Q E s:=
 Calls.Name_function_global I.ok.kind hg (Calls.loadGlobal_global (by rw[I.ok.glob];exact I.mod.glob.keeps I.bk) hm h) hd
theorem gZ{E:VP}{pins:PN}{s:Shared}{σ:St}{H:Hp}{x:Str}{u:Value}{pos:Pos}{Q:VP}(I:Inv X pins σ H s)(hg:Gl X x)(hm:X.mg x=none)(hv:bootBuiltins x=some u)(h:Q u s)
  (hn:x ≠ "__name__":= by decide)(hd:ND x:=by decide):wpAny (model X.prog X.w) X.A (eval (.Name x pos) X.env) Q E s:=by
 obtain⟨mb,h1,h2⟩:=I.mod.blt;exact Calls.Name_function_global I.ok.kind hg (Calls.loadGlobal_builtin (by rw[I.ok.glob];exact I.mod.glob.keeps I.bk) hm (by rw[I.ok.blt];exact h1.keeps I.bk) ((h2 x hn).trans hv) h) hd
variable {a b:Expr}{ta tb:TE}{pos:Pos}
def PC(X:Cx)(op:CmpOp)(a b:Expr)(t:TE):Prop:=
 ∀ (pins:PN) (s:Shared) (σ:St) (H:Hp) (Q:VK),Inv X pins σ H s->t σ H Q ->
  wpAny (model X.prog X.w) X.A (eval a X.env) (λ v s₁=>wpAny (model X.prog X.w) X.A (eval b X.env) (λ u s₂=>wpAny (model X.prog X.w) X.A (compareOp op v u) (EP X pins σ Q) X.xe s₂) X.xe s₁) X.xe s
theorem cY(b:Expr){op:CmpOp}(h:op ≠ .In)(h2:op ≠ .NotIn):behindInMarks op b=false:=by
 have e1:(op==CmpOp.In)=false:=by cases op<;>first | rfl | exact absurd rfl h
 have e2:(op==CmpOp.NotIn)=false:=by cases op<;>first | rfl | exact absurd rfl h2
 cases b<;>simp[behindInMarks,e1,e2]
def tB(t:TE):TT:=λ σ H Q=>t σ H λ x H1=>∃ c,x=.bl c/\Q c H1
theorem ua{op:CmpOp}{t:TE}(h:PC X op a b t)(h1:behindInMarks op b=false:=by first | exact cY _ (by decide) (by decide) | rfl):PT X (.Compare a [op] [b] pos) (tB t):=by intro pins s σ H Q I hw;refine wpAny_isTrue_Compare1 (thn (h pins s σ H _ I hw) λ v s1 h1=>thn h1 λ u s2 h2=>thn h2 λ c s3 ⟨x,H1,I1,r1,q1⟩=>?_) h1;obtain⟨d,rfl,q⟩:=q1;cases r1;exact wpAny_truthy_bool ⟨H1,I1,q⟩
theorem uK{e:Expr}{t:TE}(h:PE X e t)(he:∀ whole,isTrue e X.env whole=(do let v <- whole;standAt e.pos;holding [v] (truthy v)):=by intro _;rfl):PT X e (tB t):=by intro pins s σ H Q I hw;refine isTrue_plain (thn (h pins s σ H _ I hw) λ v s1 ⟨x,H1,I1,r1,q1⟩=>?_) (he _);obtain⟨d,rfl,q⟩:=q1;cases r1;exact wpAny_truthy_bool ⟨H1,I1,q⟩
variable {tA tB':TT}{rest:List Expr}
def xS(t u:TT):TT:=λ σ H Q=>t σ H λ c H1=>if c=true then u σ H1 Q else Q false H1
def tOr(t u:TT):TT:=λ σ H Q=>t σ H λ c H1=>if c=true then Q true H1 else u σ H1 Q
def xF(t:TT):TT:=λ σ H Q=>t σ H λ c H1=>Q (!c) H1
theorem pw_and1(ha:PT X a tA):PW X (.BoolOp .And [a] pos) tA:=by
 intro wh pins s σ H Q I h;refine isTrue_and (thn (ha pins s σ H Q I h) λ c s1 e=>?_);cases c with
 | true=>exact isTrue_and_nil e
 | false=>exact e
theorem pw_or1(ha:PT X a tA):PW X (.BoolOp .Or [a] pos) tA:=by
 intro wh pins s σ H Q I h;refine isTrue_or (thn (ha pins s σ H Q I h) λ c s1 e=>?_);cases c with
 | false=>exact isTrue_or_nil e
 | true=>exact e
theorem pw_and(ha:PT X a tA)(hb:PW X (.BoolOp .And (b::rest) pos) tB'):PW X (.BoolOp .And (a::b::rest) pos) (xS tA tB'):=by
 intro wh pins s σ H Q I h;refine isTrue_and (thn (ha pins s σ H _ I h) λ c s1 hq1=>?_);obtain⟨H1,I1,q1⟩:=hq1;cases c with
 | true=>exact hb wh pins s1 σ H1 Q I1 q1
 | false=>exact⟨H1,I1,q1⟩
theorem pw_or(ha:PT X a tA)(hb:PW X (.BoolOp .Or (b::rest) pos) tB'):PW X (.BoolOp .Or (a::b::rest) pos) (tOr tA tB'):=by
 intro wh pins s σ H Q I h;refine isTrue_or (thn (ha pins s σ H _ I h) λ c s1 hq2=>?_);obtain⟨H1,I1,q1⟩:=hq2;cases c with
 | true=>exact⟨H1,I1,q1⟩
 | false=>exact hb wh pins s1 σ H1 Q I1 q1
theorem uq(ha:PT X a tA):PT X (.UnaryOp .Not a pos) (xF tA):=by intro pins s σ H Q I h;exact isTrue_not (ha pins s σ H (λ c H1=>Q (!c) H1) I h)
end
def SqL(K:FG)(H:Hp)(a:Addr)(xs:List V):Prop:=
 Rd H a (.lst xs) \/
  ∃ (o:Obj) (its:Array Value) (n:Nat),K.lookup a=some o/\o.cls=.type "list" /\ o.dict=none/\o.data=.seq its n/\its.size<=sizeLine/\Vals xs its.toList
def SqT(K:FG)(H:Hp)(a:Addr)(xs:List V):Prop:=
 Rd H a (.tup xs) \/
  ∃ (o:Obj) (its:Array Value) (n:Nat),K.lookup a=some o/\o.cls=.type "tuple" /\ o.dict=none/\o.data=.seq its n/\its.size<=sizeLine/\Vals xs its.toList
def xT:Value->Option V
 | .none=>some .non
 | .bool b=>some (.bl b)
 | .int i _=>some (.int i)
 | .str x _=>some (.str x)
 | .bytes b _=>some (.byt b)
 | .float b _=>some (.flt b)
 | .ref a=>some (.ref a)
 | .type n=>some (.ty n)
 | _=>none
theorem RelV.abs{x:V}{u:Value}(r:RelV x u):xT u=some x:=by
 cases x with
 | non=>cases r;rfl
 | bl _=>cases r;rfl
 | int _=>obtain⟨t,rfl⟩:=r;rfl
 | str _=>obtain⟨t,rfl⟩:=r;rfl
 | byt _=>obtain⟨t,rfl⟩:=r;rfl
 | flt _=>obtain⟨t,rfl⟩:=r;rfl
 | ref _=>cases r;rfl
 | ty _=>cases r;rfl
theorem RelV.inj{x y:V}{u:Value}(r:RelV x u)(q:RelV y u):x=y:=Option.some.inj (r.abs.symm.trans q.abs)
theorem Vals.inj:∀ {xs ys:List V} {us:List Value},Vals xs us->Vals ys us->xs=ys
 | _,_,_,.nil,.nil=>rfl
 | _,_,_,.cons r t,.cons r' t'=>by rw[r.inj r',Vals.inj t t']
section
variable {X:Cx}{pins:PN}{σ:St}{H:Hp}{s:Shared}{a:Addr}{xs ys:List V}
theorem SqL.of{K:FG}(h:H a=some (.lst xs)):SqL K H a xs:=.inl (.inl h)
theorem Inv.list(I:Inv X pins σ H s)(h:SqL X.K H a xs):∃ its:List Value,Vals xs its/\PlainL s.heap a its.toArray/\xs.length<=sizeLine:=by
 rcases h with h | ⟨o,its,n,hk,hc,hd,hs,hz,r⟩
 ·obtain⟨z,its,n,r,e⟩:=h.ok I.hok;exact⟨its,r,⟨_,n,e,rfl,rfl,rfl⟩,z⟩
 ·refine⟨its.toList,r,⟨o,n,I.kIn a o hk,hc,hd,by simpa using hs⟩,?_⟩;have e:=r.length;simp only[Array.length_toList] at e;omega
theorem Inv.xt(I:Inv X pins σ H s)(h:SqT X.K H a xs):∃ its:List Value,Vals xs its/\pU s.heap a its.toArray/\xs.length<=sizeLine:=by
 rcases h with h | ⟨o,its,n,hk,hc,hd,hs,hz,r⟩
 ·obtain⟨z,its,r,p⟩:=h.ok I.hok;exact⟨its,r,p,z⟩
 ·refine⟨its.toList,r,⟨o,I.kIn a o hk,hc,hd,n,by simpa using hs⟩,?_⟩;have e:=r.length;simp only[Array.length_toList] at e;omega
theorem Inv.tuple(I:Inv X pins σ H s)(h:SqT X.K H a xs):∃ its:List Value,Vals xs its/\IsTup s.heap a its.toArray/\xs.length<=sizeLine:=by obtain⟨its,r,p,z⟩:=I.xt h;exact⟨its,r,p.tup,z⟩
theorem Inv.nC(I:Inv X pins σ H s)(h:SqL X.K H a xs)(h':SqL X.K H a ys):xs=ys:=by
 obtain⟨its,r,⟨o,n,e,_,_,d⟩,_⟩:=I.list h;obtain⟨its',r',⟨o',n',e',_,_,d'⟩,_⟩:=I.list h';rw[e] at e';cases e';rw[d] at d'
 injection d' with d1 _
 have:its=its':=by simpa using congrArg Array.toList d1
 subst this;exact r.inj r'
theorem Inv.kY(I:Inv X pins σ H s)(h:SqT X.K H a xs)(h':SqT X.K H a ys):xs=ys:=by
 obtain⟨its,r,⟨o,e,_,n,d⟩,_⟩:=I.tuple h;obtain⟨its',r',⟨o',e',_,n',d'⟩,_⟩:=I.tuple h';rw[e] at e';cases e';rw[d] at d'
 injection d' with d1 _
 have:its=its':=by simpa using congrArg Array.toList d1
 subst this;exact r.inj r'
end
abbrev Cx.ni(X:Cx)(E:VP):Cx:={X with xe:=E}
abbrev Cx.nox(X:Cx):Cx:=X.ni λ _ _=>False
theorem Cx.Ok.ni{X:Cx}(ok:X.Ok)(E:VP):(X.ni E).Ok:=
 ⟨ok.mod,ok.kind,ok.glob,ok.blt,ok.above,ok.inj,ok.has,ok.cab,ok.hd,ok.frames,ok.stk,ok.exf,ok.bs,ok.bsz,ok.noex,ok.exfs,ok.jP,ok.frf⟩
theorem Cx.Ok.dy{X:Cx}{E:VP}(ok:(X.ni E).Ok):X.Ok:=
 ⟨ok.mod,ok.kind,ok.glob,ok.blt,ok.above,ok.inj,ok.has,ok.cab,ok.hd,ok.frames,ok.stk,ok.exf,ok.bs,ok.bsz,ok.noex,ok.exfs,ok.jP,ok.frf⟩
section
variable {X:Cx}{pins:PN}{σ:St}{H:Hp}{s:Shared}{E:VP}
theorem Inv.ni(I:Inv X pins σ H s)(E:VP):Inv (X.ni E) pins σ H s:=⟨I.ok.ni E,I.os,I.bare,I.base,I.loc,I.cell,I.free,I.freeC,I.pin,I.hok,I.len⟩
theorem Inv.dy(I:Inv (X.ni E) pins σ H s):Inv X pins σ H s:=⟨I.ok.dy,I.os,I.bare,I.base,I.loc,I.cell,I.free,I.freeC,I.pin,I.hok,I.len⟩
theorem SP.dy{D:Ends}{f:Flow}{s':Shared}(h:SP (X.ni E) pins D f s'):SP X pins D f s':=by
 cases f with
 | next=>obtain⟨σ',H',I,q⟩:=h;exact⟨σ',H',I.dy,q⟩
 | brk=>obtain⟨σ',H',I,q⟩:=h;exact⟨σ',H',I.dy,q⟩
 | cont=>obtain⟨σ',H',I,q⟩:=h;exact⟨σ',H',I.dy,q⟩
 | ret u=>obtain⟨v,σ',H',I,r,q⟩:=h;exact⟨v,σ',H',I.dy,r,q⟩
theorem PSs.nox{st:List Stmt}{t:TS}(h:PSs X.nox st t):PSs X st t:=λ pins s σ H D I hw =>
 wpAny_mono (h pins s σ H D (I.ni _) hw) (λ _ _ q=>q.dy) λ _ _ z=>False.elim z
end
section
variable {X:Cx}{st:Stmt}{rest:List Stmt}{t u:TS}{e:Expr}{te:TE}{pos:Pos}
def wt:TS:=λ D σ H=>D.nx σ H
def xU(t u:TS):TS:=λ D σ H=>t {D with nx:=u D} σ H
theorem qh:PSs X [] wt:=λ _ _ σ H _ I h=>wpAny_execs_nil ⟨σ,H,I,h⟩
theorem nV(h1:PS X st t)(h2:PSs X rest u):PSs X (st::rest) (xU t u):=by
 intro pins s σ H D I h;refine wpAny_execs_cons (thn (h1 pins s σ H {D with nx:=u D} I h) λ f s1 q=>?_);cases f with
 | next =>
  obtain⟨σ',H',I',q⟩:=q;exact h2 pins s1 σ' H' D I' q
 | ret v=>exact q
 | brk=>exact q
 | cont=>exact q
theorem sj(h1:PS X st t):PSs X [st] t:=by
 intro pins s σ H D I h;refine wpAny_execs_cons (thn (h1 pins s σ H D I h) λ f s1 q=>?_);cases f with
 | next=>exact wpAny_execs_nil q
 | ret v=>exact q
 | brk=>exact q
 | cont=>exact q
theorem Inv.quiet{pins:PN}{σ:St}{H:Hp}{s:Shared}(I:Inv X pins σ H s):interactive X.env=false:=by simp[interactive,I.ok.kind]
def vJ(te:TE):TS:=λ D σ H=>te σ H λ _ H1=>D.nx σ H1
theorem sG(he:PE X e te)(hs:swapsWith e none pos.line X.env=pure false:=by rfl):PS X (.Expr e pos) (vJ te):=by intro pins s σ H D I h;exact wpAny_Expr_any (thn (he pins s σ H _ I h) λ v s1 ⟨x,H1,I1,r1,q1⟩=>⟨σ,H1,I1,q1⟩) I.quiet hs
def xJ(te:TE):TS:=λ D σ H=>te σ H D.rt
theorem sY(he:PE X e te):PS X (.Return (some e) pos) (xJ te):=by intro pins s σ H D I h;exact wpAny_Return_some (thn (he pins s σ H _ I h) λ v s1 ⟨x,H1,I1,r1,q1⟩=>⟨x,σ,H1,I1,r1,q1⟩)
def xH(c:TT)(t u:TS):TS:=λ D σ H=>c σ H λ b H1=>if b=true then t D σ H1 else u D σ H1
theorem wV{c:Expr}{a b:List Stmt}{tc:TT}(hc:PT X c tc)(ha:PSs X a t)(hb:PSs X b u):PS X (.If c a b pos) (xH tc t u):=by
 intro pins s σ H D I h;refine wpAny_If (thn (hc pins s σ H _ I h) λ d s1 hq3=>?_);obtain⟨H1,I1,q1⟩:=hq3;cases d with
 | true=>exact ha pins s1 σ H1 D I1 q1
 | false=>exact hb pins s1 σ H1 D I1 q1
end
abbrev TG:=V->St->Hp->(St->Hp->Prop)->Prop
abbrev TGs:=List V->St->Hp->(St->Hp->Prop)->Prop
def PG(X:Cx)(target:Expr)(t:TG):Prop:=
 ∀ (pins:PN) (s:Shared) (σ:St) (H:Hp) (v:V) (u:Value) (Q:St->Hp->Prop),Inv X pins σ H s->RelV v u->t v σ H Q ->
  wpAny (model X.prog X.w) X.A (assign target X.env u) (λ _ s'=>∃ σ' H',Inv X pins σ' H' s'/\Q σ' H') X.xe s
def PGs(X:Cx)(ts:List Expr)(t:TGs):Prop:=
 ∀ (pins:PN) (s:Shared) (σ:St) (H:Hp) (vs:List V) (us:List Value) (Q:St->Hp->Prop),Inv X pins σ H s->Vals vs us->t vs σ H Q ->
  wpAny (model X.prog X.w) X.A (assignInOrder ((assignEach ts X.env).map (·.2)) us) (λ _ s'=>∃ σ' H',Inv X pins σ' H' s'/\Q σ' H') X.xe s
abbrev uS:=V->V->V->Hp->(Hp->Prop)->Prop
def vM(X:Cx)(t:uS):Prop:=
 ∀ (pins:PN) (s:Shared) (σ:St) (H:Hp) (o i v:V) (ov iv u:Value) (Q:Hp->Prop),Inv X pins σ H s->RelV o ov->RelV i iv->RelV v u->t o i v H Q ->
  wpAny (model X.prog X.w) X.A (setItem ov iv u) (λ _ s'=>∃ H',Inv X pins σ H' s'/\Q H') X.xe s
abbrev TIp:=V->V->Hp->VK->Prop
def PIp(X:Cx)(op:Operator)(t:TIp):Prop:=
 ∀ (pins:PN) (s:Shared) (σ:St) (H:Hp) (x y:V) (v u:Value) (Q:VK),Inv X pins σ H s->RelV x v->RelV y u->t x y H Q ->
  wpAny (model X.prog X.w) X.A (inplaceOp op v u) (EP X pins σ Q) X.xe s
section
variable {X:Cx}{pos:Pos}
def q0(i:Nat):TG:=λ v σ H Q=>Q (σ.set i (some v)) H
theorem lj{i:Nat}{x:Str}(hN:X.N.Nodup)(hi:X.N[i]? =some x)(hx:Loc X.env.scope x)(hf:X.fn x=true\/X.env.scope.names.lookup x=some .local:=by first | exact .inl rfl | exact .inr rfl | assumption):PG X (.Name x pos) (q0 i):=by intro pins s σ H v u Q I r h;exact wpAny_assign_Name (dP I hN hi hx r (λ s' I'=>⟨_,H,I',h⟩) hf)
def xQ:TGs:=λ vs σ H Q=>vs=[]/\Q σ H
def wO(t:TG)(u:TGs):TGs:=λ vs σ H Q=>∃ v r,vs=v::r/\t v σ H λ σ' H'=>u r σ' H' Q
theorem sy:PGs X [] xQ:=by intro pins s σ H vs us Q I r h;obtain⟨e,h⟩:=h;subst e;cases r;exact assignInOrder_nil ⟨σ,H,I,h⟩
theorem nK{e:Expr}{es:List Expr}{t:TG}{u:TGs}(h1:PG X e t)(h2:PGs X es u)
  (hs:(assignEach (e::es) X.env).map (·.2)=assign e X.env::(assignEach es X.env).map (·.2):=by rfl):PGs X (e::es) (wO t u):=by
 intro pins s σ H vs us Q I r h;obtain⟨v,vr,e1,h⟩:=h;subst e1;cases r with
 | cons r rr =>
  rw[hs];refine assignInOrder_cons (thn (h1 pins s σ H _ _ _ I r h) λ _ s1 hq4=>?_);obtain⟨σ1,H1,I1,q1⟩:=hq4;exact h2 pins s1 σ1 H1 _ _ Q I1 rr q1
def xA(K:FG)(n:Nat)(t:TGs):TG:=λ v σ H Q=>∃ a xs,v=.ref a/\SqT K H a xs/\xs.length=n/\t xs σ H Q
theorem tI{es:List Expr}{k:Nat}{t:TGs}{n:Nat}(hc:X.calm=true)(h:PGs X es t)
  (hn:(assignEach es X.env).length=n:=by rfl)(hst:(assignEach es X.env).findIdx? (·.1)=none:=by rfl):PG X (.Tuple es k pos) (xA X.K n t):=by
 intro pins s σ H v u Q I r hw;obtain⟨a,xs,e1,hq,hl,hw⟩:=hw;subst e1;cases r;obtain⟨its,rv,ht,hz⟩:=I.tuple hq;refine assign_Tuple_tuple (I.ok.hd hc) ht (by simp[hn,<- hl,rv.length]) hst λ h' hx=>?_;have I1:Inv X pins σ H {s with heap:=h'}:=I.kept (t':=s.toks) λ b o e=>hx b o (Nat.ne_of_lt (Heap.lt_size e)) e;exact h pins _ σ H xs _ Q I1 (by simpa using rv) hw
def xX(to ti:TE)(t:uS):TG:=λ v σ H Q=>to σ H λ o H1=>ti σ H1 λ i H2=>t o i v H2 λ H3=>Q σ H3
theorem tR{o i:Expr}{to ti:TE}{t:uS}(ho:PE X o to)(hi:PE X i ti)(hs:vM X t)
  (ha:∀ v,assign (.Subscript o i pos) X.env v=(do
   let ov <- holding [v] (eval o X.env)
   let iv <- holding [v,ov] (eval i X.env)
   standAt pos
   holding [v,ov,iv] (setItem ov iv v)
   release [v,ov,iv] []):=by intro _;rfl):PG X (.Subscript o i pos) (xX to ti t):=by
 intro pins s σ H v u Q I r h;rw[ha];refine wpAny_bind (wpAny_holding (thn (ho pins s σ H _ I h) λ ov s1 hq5=>?_));obtain⟨x,H1,I1,r1,q1⟩:=hq5;refine wpAny_bind (wpAny_holding (thn (hi pins s1 σ H1 _ I1 q1) λ iv s2 hq6=>?_));obtain⟨y,H2,I2,r2,q2⟩:=hq6;refine wpAny_bind (wpAny_standAt (wpAny_bind (wpAny_holding (thn (hs pins s2 σ H2 x y v ov iv u _ I2 r1 r2 r q2) λ _ s3 hq7=>?_))));obtain⟨H3,I3,q3⟩:=hq7;exact wpAny_release ⟨σ,H3,I3,q3⟩
def vi(te:TE)(g:TG):TS:=λ D σ H=>te σ H λ x H1=>g x σ H1 D.nx
theorem sS{tg e:Expr}{te:TE}{g:TG}(he:PE X e te)(hg:PG X tg g)(hs:swapsWithSole [tg] e pos.line X.env=pure false:=by rfl)(hw:swappedStores [tg] e X.env=pure none:=by rfl)
  (h1:(assignEach [tg] X.env).map (·.2)=[assign tg X.env]:=by rfl):PS X (.Assign [tg] e pos) (vi te g):=by
 intro pins s σ H D I h;refine wpAny_Assign_stores (thn (he pins s σ H _ I h) λ v s1 ⟨x,H1,I1,r1,q1⟩=>?_) hs hw;rw[h1];exact thn (hg pins s1 σ H1 x v _ I1 r1 q1) λ _ s2 q=>q
theorem va{i:Nat}{x:Str}{e:Expr}{te:TE}{pos':Pos}(hN:X.N.Nodup)(hi:X.N[i]? =some x)(hx:Loc X.env.scope x)(he:PE X e te)(hs:swapsWith e (some (.Name x pos')) pos.line X.env=pure false:=by rfl)(hf:X.fn x=true\/X.env.scope.names.lookup x=some .local:=by first | exact .inl rfl | exact .inr rfl | assumption) :
  PS X (.Assign [.Name x pos'] e pos) (vi te (q0 i)):=by
 intro pins s σ H D I h;refine wpAny_Assign_Name (thn (he pins s σ H _ I h) λ v s1 ⟨y,H1,I1,r1,q1⟩=>?_) hs;exact dP I1 hN hi hx r1 (λ s2 I2=>⟨_,H1,I2,q1⟩) hf
def xD(i j:Nat)(ta:TA):TS:=λ D σ H=>ta σ H λ vs H1=>∃ v w,vs=[v,w]/\D.nx ((σ.set i (some v)).set j (some w)) H1
theorem uX{i j:Nat}{x y:Str}{a b:Expr}{ta:TA}{px py pt:Pos}{kt k2 pt2}(hc:X.calm=true)(hN:X.N.Nodup)(hi:X.N[i]? =some x)(hj:X.N[j]? =some y)(hij:i≠j)
  (hx:X.env.scope.names.lookup x=some .local)(hy:X.env.scope.names.lookup y=some .local)(ha:PA X [a,b] ta)
  (hw:swappedStores [.Tuple [.Name x px,.Name y py] kt pt] (.Tuple [a,b] k2 pt2) X.env=pure (some [x,y]))
  (hs:swapsWithSole [.Tuple [.Name x px,.Name y py] kt pt] (.Tuple [a,b] k2 pt2) pos.line X.env=pure false:=by rfl) :
  PS X (.Assign [.Tuple [.Name x px,.Name y py] kt pt] (.Tuple [a,b] k2 pt2) pos) (xD i j ta):=by
 intro pins s σ H D I h;rw[exec_Assign_arm];refine wpAny_bind (wpAny_standAt ?_);rw[hs];refine wpAny_bind (wpAny_pure ?_);rw[if_neg (by decide)];refine wpAny_bind (Tuple_ (thn (ha _ pins s σ H _ I h) λ us s1 hq8=>?_));obtain⟨vs,H1,I1,r1,q1⟩:=hq8;obtain⟨v,w,e1,q1⟩:=q1;subst e1;obtain⟨u1,u2,rfl,rv,rw'⟩:∃ u1 u2,us=[u1,u2]/\RelV v u1/\RelV w u2:=by
  cases r1 with
  | cons p q =>
   cases q with
   | cons p' q' =>
    cases q';exact⟨_,_,rfl,p,p'⟩
 refine wpAny_newObj_type ?_ (by show 2<=sizeLine;decide);have I2:Inv X pins σ H1 {s1 with heap:=s1.heap.push {cls:=.type "tuple",data:=.seq [u1,u2].toArray}}:=I1.kept (t':=s1.toks) λ b o e=>Heap.get?_push_of_some _ e;rw[hw];refine wpAny_bind (wpAny_pure ?_);show wpAny (model X.prog X.w) X.A (do rule "assign.swapped-stores";let items <- unpackItems (.ref s1.heap.objs.size) 2 none;assignInOrder [λ v=>bindName X.env y v,λ v=>bindName X.env x v] items.reverse;pure Flow.next) _ _ _;refine wpAny_bind (wpAny_rule (wpAny_bind (unpackItems_tuple (items:=#[u1,u2]) (I.ok.hd hc) (IsTup.new s1.heap _) λ h' hx'=>?_)));have I3:=I2.kept (h':=h') (t':=s1.toks) λ b o e=>hx' b o (Nat.ne_of_lt (Heap.lt_size e)) e;show wpAny _ _ (assignInOrder [λ v=>bindName X.env y v,λ v=>bindName X.env x v] [u2,u1] >>= λ _=>pure Flow.next) _ _ _;refine wpAny_bind (assignInOrder_cons (wpAny_bindName (dP I3 hN hj (.inl hy) rw' (λ s2 I4=>?_) (.inr hy))));refine assignInOrder_cons (wpAny_bindName (dP I4 hN hi (.inl hx) rv (λ s3 I5=>assignInOrder_nil (wpAny_pure ?_)) (.inr hx)));rw[List.set_comm _ _ (Ne.symm hij)] at I5;exact⟨_,H1,I5,q1⟩
def wQ(to ti te:TE)(bF:V->V->Hp->VK->Prop)(tip:TIp)(tset:uS):TS:=λ D σ H=>to σ H λ o H1=>ti σ H1 λ i H2=>bF o i H2 λ x H3=>te σ H3 λ y H4=>tip x y H4 λ z H5=>tset o i z H5 λ H6=>D.nx σ H6
def xg(X:Cx)(t:V->V->Hp->VK->Prop):Prop:=
 ∀ (pins:PN) (s:Shared) (σ:St) (H:Hp) (o i:V) (ov iv:Value) (Q:VK),Inv X pins σ H s->RelV o ov->RelV i iv->t o i H Q ->
  wpAny (model X.prog X.w) X.A (getItem ov iv) (EP X pins σ Q) X.xe s
theorem r9{o i e:Expr}{to ti te:TE}{bF:V->V->Hp->VK->Prop}{tip:TIp}{tset:uS}{op:Operator}{tpos:Pos}(ho:PE X o to)(hi:PE X i ti)(hg:xg X bF)(he:PE X e te)(hp:PIp X op tip)(hs:vM X tset)
  (ha:∀ ov iv new,augStore i ov iv new=(do holding [new,ov,iv] (setItem ov iv new);release [new,ov,iv] [];pure .next):=by intros;rfl):PS X (.AugAssign (.Subscript o i tpos) op e pos) (wQ to ti te bF tip tset):=by
 intro pins s σ H D I h;refine wpAny_AugAssign_SubscriptAny (thn (ho pins s σ H _ I h) λ ov s1 ⟨x1,H1,I1,r1,q1⟩=>?_) ha;refine thn (hi pins s1 σ H1 _ I1 q1) λ iv s2 hq9=>?_;obtain⟨x2,H2,I2,r2,q2⟩:=hq9;refine thn (hg pins s2 σ H2 x1 x2 ov iv _ I2 r1 r2 q2) λ old s3 hq10=>?_;obtain⟨x3,H3,I3,r3,q3⟩:=hq10;refine thn (he pins s3 σ H3 _ I3 q3) λ v s4 hq11=>?_;obtain⟨x4,H4,I4,r4,q4⟩:=hq11;refine thn (hp pins s4 σ H4 x3 x4 old v _ I4 r3 r4 q4) λ new s5 hq12=>?_;obtain⟨x5,H5,I5,r5,q5⟩:=hq12;exact thn (hs pins s5 σ H5 x1 x2 x5 ov iv new _ I5 r1 r2 r5 q5) λ _ s6 ⟨H6,I6,q6⟩=>⟨σ,H6,I6,q6⟩
def ipI(f:Int->Int->Int):TIp:=λ x y H Q=>∃ i j,x=.int i/\y=.int j/\Q (.int (f i j)) H
theorem tK:PIp X .Add (ipI λ i j=>i+j):=by intro pins s σ H x y v u Q I r1 r2 h;obtain⟨i,j,e1,e2,q⟩:=h;subst e1;subst e2;obtain⟨t,rfl⟩:=r1;obtain⟨t',rfl⟩:=r2;exact iadd_int ⟨.int _,H,I.tok _,⟨_,rfl⟩,q⟩
end
section
variable {X:Cx}{pos:Pos}
end
structure It where
 go:Nat->Hp->Prop
 yld:Nat->Hp->V->Hp->Prop
 stop:Nat->Hp->Prop
def nr(X:Cx)(pins:PN)(H:Hp)(b:Addr):Prop:=
 H b=none/\b≠X.env.locals/\b ∉ X.fs/\(b∈X.ex\/X.s₀.heap.objs.size<=b)/\(∀ x c,X.env.cells.lookup x=some c->c≠b)/\∀ p∈X.pn++pins,p.1≠b
theorem Inv.rX{X:Cx}{pins:PN}{σ:St}{H H':Hp}{s:Shared}{b:Addr}(I:Inv X pins σ H s)(hb:s.heap.objs.size<=b)(hn:H' b=none):nr X pins H' b:=by
 refine⟨hn,Nat.ne_of_gt (Nat.lt_of_lt_of_le I.lt hb),I.xj hb,.inr (Nat.le_trans I.sz hb),λ x c e z=>?_,λ p hp z=>?_⟩
 ·obtain⟨v,q⟩:=I.cell x c e;exact absurd (Nat.lt_of_lt_of_le q.lt (by rw[z];exact hb)) (Nat.lt_irrefl _)
 ·exact absurd (Nat.lt_of_lt_of_le (Heap.lt_size (I.pin p hp).1) (by rw[z];exact hb)) (Nat.lt_irrefl _)
structure Turn(P:Program)(w:World)(K:FG)(tg:Expr)(J:It)(fp:List Addr)(it:Addr)(tn:Nat->Heap->Prop):Prop where
 mem:it∈fp
 obj:∀ i h,tn i h->∀ b∈fp,∃ o,h.get? b=some o/\∀ v,o.data ≠ .cell v
 keep:∀ i h h',tn i h->(∀ b∈fp,∀ o,h.get? b=some o->h'.get? b=some o)->tn i h'
 item:∀ (X:Cx),X.prog=P->X.w=w->X.K=K->X.calm=true->∀ (i:Nat) (pins:PN) (s:Shared) (σ:St) (H:Hp) (E:VP),Inv X pins σ H s->(∀ b∈fp,nr X pins H b)->tn i s.heap->J.go i H ->
  wpAny (model P w) X.A (pyNext (.ref it)) (λ r s1=>∃ u,r=some u /\
   wpAny (model P w) X.A (letOwnedTupleGo tg (.ref it) u) (λ _ s2=>∃ x H',Inv X pins σ H' s2/\RelV x u/\J.yld i H x H'/\tn (i+1) s2.heap/\∀ b∈fp,H' b=none) E s1) E s
 done:∀ (X:Cx),X.prog=P->X.w=w->X.K=K->X.calm=true->∀ (i:Nat) (pins:PN) (s:Shared) (σ:St) (H:Hp) (E:VP),Inv X pins σ H s->(∀ b∈fp,nr X pins H b)->tn i s.heap->J.stop i H ->
  wpAny (model P w) X.A (pyNext (.ref it)) (λ r s1=>r=none/\Inv X pins σ H s1) E s
 self:∀ (A:Around) (i:Nat) (s:Shared) (Q:VP) (E:VP),tn i s.heap->Q (.ref it) s->wpAny (model P w) A (pyIter (.ref it)) Q E s
abbrev TI:=St->Hp->(It->Hp->Prop)->Prop
def PIE(X:Cx)(pins:PN)(σ:St)(tg:Expr)(R:It->Hp->Prop)(itv:Value)(s2:Shared):Prop:=
 ∃ (it:Addr) (fp:List Addr) (tn:Nat->Heap->Prop) (J:It) (H':Hp),itv=.ref it/\Inv X pins σ H' s2/\Turn X.prog X.w X.K tg J fp it tn/\tn 0 s2.heap/\(∀ b∈fp,nr X pins H' b)/\R J H'
def PI(X:Cx)(tg iter:Expr)(wi:TI):Prop:=
 ∀ (pins:PN) (s:Shared) (σ:St) (H:Hp) (R:It->Hp->Prop),Inv X pins σ H s->wi σ H R ->
  wpAny (model X.prog X.w) X.A (eval iter X.env) (λ v s1=>wpAny (model X.prog X.w) X.A (pyIter v) (PIE X pins σ tg R) X.xe s1) X.xe s
theorem nH{M:Model}{A:Around}{E:VP}{s:Shared}{tg:Expr}{it:Addr}{u:Value}{o:Obj}{n:String}{vs:Array Value}{Q:Unit->Shared->Prop}(ho:s.heap.get? it=some o)(hc:o.cls=.type n)(hd:o.data=.fields vs)
  (hn:["enumerate", "zip", "dict_itemiterator", "dict_reverseitemiterator", "odict_iterator", "itertools.zip_longest", "itertools.pairwise"].contains n=false)(hQ:Q () s):wpAny M A (letOwnedTupleGo tg (.ref it) u) Q E s:=by
 unfold letOwnedTupleGo;cases tg<;>first
  | exact wpAny_pure hQ
  | (cases u<;>first
    | exact wpAny_pure hQ
    | (refine wpAny_bind (wpAny_load ho ?_)
       rw[hc,hd];show wpAny M A (if (["enumerate", "zip", "dict_itemiterator", "dict_reverseitemiterator", "odict_iterator", "itertools.zip_longest", "itertools.pairwise"].contains n&&vs[0]? == some (rawInt _))=true then _ else _) Q E s;rw[if_neg (by intro h;rw[hn,Bool.false_and] at h;cases h)];exact wpAny_pure hQ))
def Itl(K:FG)(a:Addr):It:=
 ⟨λ i H=>∃ xs x,SqL K H a xs/\xs[i]? =some x,λ i H x H'=>H'=H/\∀ xs,SqL K H a xs->xs[i]? =some x,λ i H=>∃ xs,SqL K H a xs/\xs.length<=i⟩
def Itt(K:FG)(a:Addr):It:=
 ⟨λ i H=>∃ xs x,SqT K H a xs/\xs[i]? =some x,λ i H x H'=>H'=H/\∀ xs,SqT K H a xs->xs[i]? =some x,λ i H=>∃ xs,SqT K H a xs/\xs.length<=i⟩
def Itr(lo:Int)(n:Nat):It:=⟨λ i _=>i<n,λ i H x H'=>H'=H/\x=.int (lo+i),λ i _=>n<=i⟩
theorem mz{P:Program}{w:World}{K:FG}{tg:Expr}(a it:Addr):Turn P w K tg (Itl K a) [it] it (λ i h=>h.IsListIter it a i) where
 mem:=by simp
 obj:=λ i h st b hb=>by
  have e:b=it:=by simpa using hb
  subst e;obtain⟨o,e,c,d⟩:=st;exact⟨o,e,λ v z=>by rw[d] at z;cases z⟩
 keep:=λ i h h' st k=>st.at λ o e=>k it (by simp) o e
 item:=by intro X hP hw hK hc i pins s σ H E I hf st hg;subst hP hw hK;obtain⟨xs,x,hq,hx⟩:=hg;obtain⟨its,rv,p,hz⟩:=I.list hq;obtain⟨u,hu,ru⟩:=rv.get hx;obtain⟨f0,f1,f2,f3,f4,f5⟩:=hf it (by simp);refine wpAny_pyNext_list_item st p.isList (x:=u) (by simpa using hu) λ h' st' sb=>?_;have I1:Inv X pins σ H {s with heap:=h'}:=I.turned (t':=s.toks) (λ b o hb e=>(sb.2 b hb).trans e) f0 f1 f3 f4 f5;obtain⟨o,e,c,d⟩:=id st';exact⟨u,rfl,nH (s:={s with heap:=h'}) e c d (by decide) ⟨x,H,I1,ru,⟨rfl,λ ys hy=>by rw[I.nC hy hq];exact hx⟩,st',λ b hb=>(hf b hb).1⟩⟩
 done:=by intro X hP hw hK hc i pins s σ H E I hf st hg;subst hP hw hK;obtain⟨xs,hq,hx⟩:=hg;obtain⟨its,rv,p,hz⟩:=I.list hq;obtain⟨f0,f1,f2,f3,f4,f5⟩:=hf it (by simp);have hl:=rv.length;exact wpAny_pyNext_list_end (I.ok.hd hc) st p.isList (by simp;omega) λ h' eb=>⟨rfl,I.turned (t':=s.toks) (λ b o hb e=>eb b o hb e) f0 f1 f3 f4 f5⟩
 self:=λ _ _ _ _ _ st h=>wpAny_pyIter_listiter st h
theorem jW{P:Program}{w:World}{K:FG}{tg:Expr}(a it:Addr):Turn P w K tg (Itt K a) [it] it (λ i h=>h.IsTupleIter it a i) where
 mem:=by simp
 obj:=λ i h st b hb=>by
  have e:b=it:=by simpa using hb
  subst e;obtain⟨o,e,c,d⟩:=st;exact⟨o,e,λ v z=>by rw[d] at z;cases z⟩
 keep:=λ i h h' st k=>st.at λ o e=>k it (by simp) o e
 item:=by intro X hP hw hK hc i pins s σ H E I hf st hg;subst hP hw hK;obtain⟨xs,x,hq,hx⟩:=hg;obtain⟨its,rv,p,hz⟩:=I.tuple hq;obtain⟨u,hu,ru⟩:=rv.get hx;obtain⟨f0,f1,f2,f3,f4,f5⟩:=hf it (by simp);refine wpAny_pyNext_tuple_item st (show s.heap.IsTuple a its.toArray from p) (x:=u) (by simpa using hu) λ h' st' sb=>?_;have I1:Inv X pins σ H {s with heap:=h'}:=I.turned (t':=s.toks) (λ b o hb e=>(sb.2 b hb).trans e) f0 f1 f3 f4 f5;obtain⟨o,e,c,d⟩:=id st';exact⟨u,rfl,nH (s:={s with heap:=h'}) e c d (by decide) ⟨x,H,I1,ru,⟨rfl,λ ys hy=>by rw[I.kY hy hq];exact hx⟩,st',λ b hb=>(hf b hb).1⟩⟩
 done:=by intro X hP hw hK hc i pins s σ H E I hf st hg;subst hP hw hK;obtain⟨xs,hq,hx⟩:=hg;obtain⟨its,rv,p,hz⟩:=I.tuple hq;obtain⟨f0,f1,f2,f3,f4,f5⟩:=hf it (by simp);have hl:=rv.length;exact wpAny_pyNext_tuple_end (I.ok.hd hc) st (show s.heap.IsTuple a its.toArray from p) (by simp;omega) λ h' eb=>⟨rfl,I.turned (t':=s.toks) (λ b o hb e=>eb b o hb e) f0 f1 f3 f4 f5⟩
 self:=λ _ _ _ _ _ st h=>wpAny_pyIter_tupleiter st h
theorem j4{P:Program}{w:World}{K:FG}{tg:Expr}(it:Addr)(lo:Int)(n:Nat):Turn P w K tg (Itr lo n) [it] it (λ i h=>IsRangeIter h it (lo+(i:Nat) * 1) ((n:Int)-(i:Nat)) 1) where
 mem:=by simp
 obj:=λ i h st b hb=>by
  have e:b=it:=by simpa using hb
  subst e;exact⟨_,st,λ v z=>by have z':Data.fields _=Data.cell v:=z;cases z'⟩
 keep:=λ i h h' st k=>k it (by simp) _ st
 item:=by intro X hP hw hK hc i pins s σ H E I hf st hg;subst hP hw hK;obtain⟨f0,f1,f2,f3,f4,f5⟩:=hf it (by simp);have W:=Walks.range (prog:=X.prog) (w:=X.w) (I.ok.hd hc) it lo 1 n;refine W.item i s _ _ hg st λ v h' tk hv st' kk=>?_;obtain⟨t,rfl⟩:=hv;have I1:Inv X pins σ H {s with heap:=h',toks:=tk}:=I.turned (λ b o hb e=>kk b o (by simpa using hb) e) f0 f1 f3 f4 f5;refine⟨_,rfl,nH (s:={s with heap:=h',toks:=tk}) (n:= "range_iterator") st' rfl rfl (by decide) ⟨.int (lo+i),H,I1,⟨t,?_⟩,⟨rfl,rfl⟩,st',λ b hb=>(hf b hb).1⟩⟩;rw[Int.mul_one]
 done:=by intro X hP hw hK hc i pins s σ H E I hf st hg;subst hP hw hK;obtain⟨f0,f1,f2,f3,f4,f5⟩:=hf it (by simp);exact wpAny_pyNext_range_end (I.ok.hd hc) st (by have:n<=i:=hg;omega) λ h' eb=>⟨rfl,I.turned (t':=s.toks) (λ b o hb e=>eb b o hb e) f0 f1 f3 f4 f5⟩
 self:=λ _ _ _ _ _ st h=>wpAny_pyIter_rangeiter st h
section
variable {X:Cx}{tg:Expr}
theorem n8{pins:PN}{σ:St}{H:Hp}{s:Shared}{R:It->Hp->Prop}{E:VP}{lo hi:Int}{t u v:Tok}{tk:Nat}(I:Inv X pins σ H s)(h1:-(2 ^ 62)<=lo)(h2:lo<2 ^ 62)(h3:-(2 ^ 62)<=hi)(h4:hi<2 ^ 62)
  (q:R (Itr lo (hi-lo).toNat) H):wpAny (model X.prog X.w) X.A (pyIter (.ref s.heap.objs.size)) (PIE X pins σ tg R) E {s with heap:=s.heap.push {cls:=.type "range",data:=.fields #[.int lo t,.int hi u,.int 1 v]},toks:=tk}:=by
 refine wpAny_pyIter_range (IsRange.new ..) (small_one h1 h2 h3 h4) ?_;have I1:Inv X pins σ H {s with heap:=s.heap.push {cls:=.type "range",data:=.fields #[.int lo t,.int hi u,.int 1 v]},toks:=tk}:=I.kept λ b o e=>Heap.get?_push_of_some _ e;refine⟨(s.heap.push {cls:=.type "range",data:=.fields #[.int lo t,.int hi u,.int 1 v]}).objs.size,[(s.heap.push {cls:=.type "range",data:=.fields #[.int lo t,.int hi u,.int 1 v]}).objs.size],_,_,H,rfl,
  I1.kept (t':=tk) λ b o e=>Heap.get?_push_of_some _ e,j4 _ lo (hi-lo).toNat,?_,λ b hb=>?_,q⟩
 ·have e1:lo+((0:Nat):Int) * 1=lo:=by simp
  have e2:(((hi-lo).toNat:Nat):Int)-((0:Nat):Int)=Builtin.Range.rangeSize lo hi 1:=by rw[rangeSize_one];split<;>omega
  show IsRangeIter _ _ (lo+((0:Nat):Int) * 1) ((((hi-lo).toNat:Nat):Int)-((0:Nat):Int)) 1;rw[e1,e2];exact Heap.get?_push_size _ rfl
 ·have e:b=(s.heap.push {cls:=.type "range",data:=.fields #[.int lo t,.int hi u,.int 1 v]}).objs.size:=by simpa using hb
  subst e;exact I1.rX (Nat.le_refl _) (I1.hok.fresh (Nat.le_refl _))
def vR(ta:TA):TI:=λ σ H R=>ta σ H λ vs H1=>∃ j:Int,vs=[.int j]/\-(2 ^ 62)<=j/\j<2 ^ 62/\R (Itr 0 j.toNat) H1
theorem lI{a:Expr}{ta:TA}{p pos:Pos}(hg:Gl X "range")(hm:X.mg "range" = none)(ha:PA X [a] ta)(hs:starEach [a] X.env=[(false,eval a X.env)]:=by rfl):PI X tg (.Call (.Name "range" p) [a] [] pos) (vR ta):=by
 intro pins s σ H R I h;refine Call_ (gZ I hg hm boot_range (PyProof.Rows.callWith_type1 (thn (ha pos pins s σ H _ I h) λ us s1 ⟨vs,H1,I1,r1,q1⟩=>?_) hs rfl));obtain⟨j,e,q1,q2,q⟩:=q1;subst e;cases r1 with
 | cons r rr =>
  cases rr;obtain⟨t,rfl⟩:=r;exact call_range_1 (n8 I1 (by omega) (by omega) q1 q2 (by simpa using q))
def xv(wi:TI)(g:TG)(tb:TS):TS:=λ D σ H=>wi σ H λ J H1=>∃ W:Nat->Nat->St->Hp->Prop,(∃ m,W 0 m σ H1)/\∀ i m σ H,W i m σ H ->
 (J.stop i H/\D.nx σ H)\/(J.go i H/\∃ N:St->Hp->Prop,(∀ σ' H',N σ' H'->∃ m',m'<m/\W (i+1) m' σ' H')/\∀ x H',J.yld i H x H'->g x σ H' λ σ2 H2=>tb {D with nx:=N,ct:=N,bk:=D.nx} σ2 H2)
def fF(fp:List Addr)(h:Heap):PN:=fp.filterMap λ b=>(h.get? b).map λ o=>(b,o)
theorem cy{fp:List Addr}{h:Heap}{b:Addr}{o:Obj}(hb:b∈fp)(e:h.get? b=some o):(b,o)∈fF fp h:=List.mem_filterMap.mpr ⟨b,hb,by rw[e];rfl⟩
theorem lq{fp:List Addr}{h:Heap}{p:Addr×Obj}(hp:p∈fF fp h):p.1∈fp/\h.get? p.1=some p.2:=by
 obtain⟨b,hb,e⟩:=List.mem_filterMap.mp hp;cases q:h.get? b with
 | none=>rw[q] at e;cases e
 | some o =>
  rw[q] at e;have e':(b,o)=p:=Option.some.inj e;subst e';exact⟨hb,q⟩
theorem Inv.pinned{pins:PN}{σ:St}{H:Hp}{s:Shared}{fp:List Addr}(I:Inv X pins σ H s)(hf:∀ b∈fp,nr X pins H b)(ho:∀ b∈fp,∃ o,s.heap.get? b=some o/\∀ v,o.data ≠ .cell v):Inv X (pins++fF fp s.heap) σ H s:=
 I.df λ p hp=>(List.mem_append.mp hp).elim (λ z=>I.pin p (List.mem_append_right _ z)) λ z=>by obtain⟨hb,e⟩:=lq z;obtain⟨f0,f1,f2,_⟩:=hf p.1 hb;obtain⟨o,e',d⟩:=ho p.1 hb;rw[e] at e';cases e';exact⟨e,f0,f1,f2,d⟩
theorem Inv.dZ{pins pl:PN}{σ:St}{H:Hp}{s:Shared}(I:Inv X (pins++pl) σ H s):Inv X pins σ H s:=I.df λ p hp=>I.pin p (List.mem_append_right _ (List.mem_append_left _ hp))
theorem vb{iter:Expr}{body:List Stmt}{wi:TI}{g:TG}{tb:TS}{pos:Pos}(hp:PassesOwn (model X.prog X.w) X.A X.env X.xe)(hc:X.calm=true)(hi:PI X tg iter wi)(hg:PG X tg g)(hb:PSs X body tb)
  (hs:∀ x,foldedSetIterable iter X.env x=pure x:=by intro _;rfl):PS X (.For tg iter body [] pos) (xv wi g tb):=by
 intro pins s σ H D I h;refine wpAny_For (thn (hi pins s σ H _ I h) λ v s1 h1=>thn h1 λ itv s2 h2=>?_) hs;obtain⟨it,fp,tn,J,H2,e,I2,T,st2,f2,W,⟨m0,w0⟩,turn⟩:=h2;subst e;have stat:∀ {H':Hp},(∀ b∈fp,H' b=none)->∀ b∈fp,nr X pins H' b:=λ hn b hb=>⟨hn b hb,(f2 b hb).2⟩;refine codeAny_forLoop_any (λ n s'=>∃ i σ' H',Inv X pins σ' H' s'/\tn i s'.heap/\(∀ b∈fp,H' b=none)/\W i n σ' H') ?_ m0 ⟨0,σ,H2,I2,st2,λ b hb=>(f2 b hb).1,w0⟩;rintro n s3 ⟨i,σ3,H3,I3,st3,fr3,w3⟩;rcases turn i n σ3 H3 w3 with ⟨stop,qn⟩ | ⟨go,N,hN,step⟩
 ·refine wpAny_passesOwn hp (thn (T.done X rfl rfl rfl hc i pins s3 σ3 H3 X.xe I3 (stat fr3) st3 stop) λ r s4 ⟨hr,I4⟩=>?_);subst hr;exact wpAny_execs_nil ⟨σ3,H3,I4,qn⟩
 ·refine wpAny_passesOwn hp (thn (T.item X rfl rfl rfl hc i pins s3 σ3 H3 X.xe I3 (stat fr3) st3 go) λ r s4 ⟨u,hr,h4⟩=>?_);subst hr;refine wpAny_passesOwn hp (thn h4 λ _ s5 hq13=>?_);obtain⟨x,H5,I5,r5,y5,st5,fr5⟩:=hq13;have I5':=I5.pinned (stat fr5) (T.obj _ _ st5);refine wpAny_passesOwn hp (thn (hg _ s5 σ3 H5 x u _ I5' r5 (step x H5 y5)) λ _ s6 hq14=>?_);obtain⟨σ6,H6,I6,q6⟩:=hq14;refine wpAny_passesOwn hp (thn (hb _ s6 σ6 H6 _ I6 q6) λ f s7 q7=>?_);have again:∀ {σ7:St} {H7:Hp},Inv X (pins++fF fp s5.heap) σ7 H7 s7->N σ7 H7->∃ m,m<n/\∃ i σ' H',Inv X pins σ' H' s7/\tn i s7.heap/\(∀ b∈fp,H' b=none)/\W i m σ' H':=λ {σ7 H7} I7 n7=>by obtain⟨m',hm,w7⟩:=hN σ7 H7 n7;refine⟨m',hm,i+1,σ7,H7,I7.dZ,T.keep _ _ _ st5 λ b hb o e=>(I7.pin (b,o) (List.mem_append_right _ (List.mem_append_right _ (cy hb e)))).1,λ b hb=>?_,w7⟩;obtain⟨o,e,d⟩:=T.obj _ _ st5 b hb;exact(I7.pin (b,o) (List.mem_append_right _ (List.mem_append_right _ (cy hb e)))).2.1
  cases f with
  | next=>obtain⟨σ7,H7,I7,n7⟩:=q7;exact again I7 n7
  | cont=>obtain⟨σ7,H7,I7,n7⟩:=q7;exact again I7 n7
  | brk=>obtain⟨σ7,H7,I7,q7⟩:=q7;exact⟨σ7,H7,I7.dZ,q7⟩
  | ret v=>obtain⟨x7,σ7,H7,I7,r7,q7⟩:=q7;exact⟨x7,σ7,H7,I7.dZ,r7,q7⟩
end
abbrev R2:=V->V->Hp->VK->Prop
def OpR(X:Cx)(f:Value->Value->Sem Value)(r:R2):Prop:=
 ∀ (pins:PN) (s:Shared) (σ:St) (H:Hp) (x y:V) (v u:Value) (Q:VK),Inv X pins σ H s->RelV x v->RelV y u->r x y H Q ->
  wpAny (model X.prog X.w) X.A (f v u) (EP X pins σ Q) X.xe s
def UnR(X:Cx)(f:Value->Sem Value)(r:V->Hp->VK->Prop):Prop:=
 ∀ (pins:PN) (s:Shared) (σ:St) (H:Hp) (x:V) (v:Value) (Q:VK),Inv X pins σ H s->RelV x v->r x H Q ->
  wpAny (model X.prog X.w) X.A (f v) (EP X pins σ Q) X.xe s
def cJ(X:Cx)(f:Value)(r:List V->Hp->VK->Prop):Prop:=
 ∀ (pins:PN) (s:Shared) (σ:St) (H:Hp) (xs:List V) (us:List Value) (Q:VK),Inv X pins σ H s->Vals xs us->r xs H Q ->
  wpAny (model X.prog X.w) X.A (call f us) (EP X pins σ Q) X.xe s
def xR(X:Cx)(r:V->Hp->(Bool->Hp->Prop)->Prop):Prop:=
 ∀ (pins:PN) (s:Shared) (σ:St) (H:Hp) (x:V) (v:Value) (Q:Bool->Hp->Prop),Inv X pins σ H s->RelV x v->r x H Q ->
  wpAny (model X.prog X.w) X.A (truthy v) (TP X pins σ Q) X.xe s
def tOp(r:R2)(ta tb:TE):TE:=λ σ H Q=>ta σ H λ x H1=>tb σ H1 λ y H2=>r x y H2 Q
def tUn(r:V->Hp->VK->Prop)(ta:TE):TE:=λ σ H Q=>ta σ H λ x H1=>r x H1 Q
def rI(C:Int->Int->Prop)(g:Int->Int->V):R2:=λ x y H Q=>∃ i j,x=.int i/\y=.int j/\C i j/\Q (g i j) H
def rI0(g:Int->Int->V):R2:=λ x y H Q=>∃ i j,x=.int i/\y=.int j/\Q (g i j) H
def rU(g:Int->V):V->Hp->VK->Prop:=λ x H Q=>∃ i,x=.int i/\Q (g i) H
section
variable {X:Cx}{a b c:Expr}{ta tb tc:TE}{pos:Pos}
theorem vv(ha:PE X a ta)(hb:PE X b tb){pins:PN}{s:Shared}{σ:St}{H:Hp}{R:V->V->Hp->Prop}(I:Inv X pins σ H s)
  (h:ta σ H λ x H1=>tb σ H1 λ y H2=>R x y H2){Q:VP}{f:Value->Value->Sem Value}
  (hf:∀ v u s2 x y H2,Inv X pins σ H2 s2->RelV x v->RelV y u->R x y H2->wpAny (model X.prog X.w) X.A (f v u) Q X.xe s2) :
  wpAny (model X.prog X.w) X.A (eval a X.env) (λ v s₁=>wpAny (model X.prog X.w) X.A (eval b X.env) (λ u s₂=>wpAny (model X.prog X.w) X.A (f v u) Q X.xe s₂) X.xe s₁) X.xe s:=by
 refine thn (ha pins s σ H _ I h) λ v s1 hq15=>?_;obtain⟨x,H1,I1,r1,q1⟩:=hq15;refine thn (hb pins s1 σ H1 _ I1 q1) λ u s2 hq16=>?_;obtain⟨y,H2,I2,r2,q2⟩:=hq16;exact hf v u s2 x y H2 I2 r1 r2 q2
theorem tP{op:Operator}{r:R2}(ho:OpR X (binaryOp op) r)(ha:PE X a ta)(hb:PE X b tb):PE X (.BinOp a op b pos) (tOp r ta tb):=by intro pins s σ H Q I h;exact wpAny_BinOp (vv ha hb I h λ v u s2 x y H2 I2 rx ry q=>ho pins s2 σ H2 x y v u Q I2 rx ry q)
theorem wq{op:UnaryOp}{r:V->Hp->VK->Prop}(ho:UnR X (unaryOp op) r)(ha:PE X a ta):PE X (.UnaryOp op a pos) (tUn r ta):=by intro pins s σ H Q I h;exact UnaryOp_ (thn (ha pins s σ H _ I h) λ v s1 ⟨x,H1,I1,r1,q1⟩=>ho pins s1 σ H1 x v Q I1 r1 q1)
theorem opI{f:Value->Value->Sem Value}{C:Int->Int->Prop}{g:Int->Int->Int}
  (rule:∀ (i j:Int) (t u:Tok) (s:Shared) (Q:VP) (E:VP),C i j->Q (.int (g i j) s.toks) {s with toks:=s.toks+1}->wpAny (model X.prog X.w) X.A (f (.int i t) (.int j u)) Q E s) :
  OpR X f (rI C λ i j=>.int (g i j)):=by
 intro pins s σ H x y v u Q I rx ry h;obtain⟨i,j,rfl,rfl,hc,q⟩:=h;obtain⟨t,rfl⟩:=rx;obtain⟨t',rfl⟩:=ry;exact rule i j t t' s _ _ hc ⟨.int (g i j),H,I.tok _,⟨_,rfl⟩,q⟩
theorem wX{f:Value->Value->Sem Value}{g:Int->Int->Int}
  (rule:∀ (i j:Int) (t u:Tok) (s:Shared) (Q:VP) (E:VP),Q (.int (g i j) s.toks) {s with toks:=s.toks+1}->wpAny (model X.prog X.w) X.A (f (.int i t) (.int j u)) Q E s) :
  OpR X f (rI0 λ i j=>.int (g i j)):=by
 intro pins s σ H x y v u Q I rx ry h;obtain⟨i,j,rfl,rfl,q⟩:=h;obtain⟨t,rfl⟩:=rx;obtain⟨t',rfl⟩:=ry;exact rule i j t t' s _ _ ⟨.int (g i j),H,I.tok _,⟨_,rfl⟩,q⟩
theorem wR{f:Value->Value->Sem Value}{g:Int->Int->Bool}
  (rule:∀ (i j:Int) (t u:Tok) (s:Shared) (Q:VP) (E:VP),Q (.bool (g i j)) s->wpAny (model X.prog X.w) X.A (f (.int i t) (.int j u)) Q E s) :
  OpR X f (rI0 λ i j=>.bl (g i j)):=by
 intro pins s σ H x y v u Q I rx ry h;obtain⟨i,j,rfl,rfl,q⟩:=h;obtain⟨t,rfl⟩:=rx;obtain⟨t',rfl⟩:=ry;exact rule i j t t' s _ _ ⟨.bl (g i j),H,I,rfl,q⟩
def wM(i j:Int):Prop:=0<j/\j<1073741824
def uT(i j:Int):Prop:=(-(2 ^ 64)<i/\i<2 ^ 64)\/(-(2 ^ 64)<j/\j<2 ^ 64)
theorem uT.ok{i j:Int}(h:uT i j):IntMulOk i j:=by
 rcases h with ⟨h1,h2⟩ | ⟨h1,h2⟩
 ·exact .of_left (intBits_le_64 h1 h2)
 ·exact .of_right (intBits_le_64 h1 h2)
theorem uN:OpR X (binaryOp .Add) (rI0 λ i j=>.int (i+j)):=wX λ _ _ _ _ _ _ _ q=>add_int q
theorem ph:OpR X (binaryOp .Sub) (rI0 λ i j=>.int (i-j)):=wX λ _ _ _ _ _ _ _ q=>sub_int q
theorem el:OpR X (binaryOp .Mult) (rI uT λ i j=>.int (i * j)):=opI λ _ _ _ _ _ _ _ hc q=>mul_int q hc.ok
theorem gi:OpR X (binaryOp .FloorDiv) (rI wM λ i j=>.int (i / j)):=opI λ i j _ _ _ _ _ hc q=>by have h1:(0:Int)<j:=hc.1;have h2:j<1073741824:=hc.2;exact floordiv_int (by omega) (by rw[Int.fdiv_eq_ediv_of_nonneg i (by omega)];exact q) (.inl (PyProof.noPylong_small (by omega)))
theorem cS:OpR X (binaryOp .Mod) (rI (λ _ j=>0<j) λ i j=>.int (i % j)):=opI λ i j _ _ _ _ _ hc q=>by have h1:(0:Int)<j:=hc;exact mod_int' (by omega) (by rw[Int.fmod_eq_emod_of_nonneg i (by omega)];exact q)
theorem unI{f:Value->Sem Value}{g:Int->Int}
  (rule:∀ (i:Int) (t:Tok) (s:Shared) (Q:VP) (E:VP),Q (.int (g i) s.toks) {s with toks:=s.toks+1}->wpAny (model X.prog X.w) X.A (f (.int i t)) Q E s) :
  UnR X f (rU λ i=>.int (g i)):=by
 intro pins s σ H x v Q I rx h;obtain⟨i,rfl,q⟩:=h;obtain⟨t,rfl⟩:=rx;exact rule i t s _ _ ⟨.int (g i),H,I.tok _,⟨_,rfl⟩,q⟩
theorem pT:UnR X (unaryOp .USub) (rU λ i=>.int (-i)):=unI λ _ _ _ _ _ q=>neg_int q
end
def xm:V->V->Bool
 | .non,.non=>true | .non,.int _=>true | .int _,.non=>true | .non,.bl _=>true | .bl _,.non=>true | .non,.str _=>true | .str _,.non=>true
 | .int _,.int _=>true | .bl _,.bl _=>true | .str _,.str _=>true | .byt _,.byt _=>true
 | .int _,.str _=>true | .str _,.int _=>true | .bl _,.str _=>true | .str _,.bl _=>true
 | _,_=>false
def rEq:R2:=λ x y H Q=>xm x y=true/\Q (.bl (decide (x=y))) H
def rNe:R2:=λ x y H Q=>xm x y=true/\Q (.bl (!decide (x=y))) H
theorem kK{i j:Int}:decide (V.int i=V.int j)=(i==j):=by rw[Bool.eq_iff_iff];simp
theorem pb{i j:Bool}:decide (V.bl i=V.bl j)=(i==j):=by rw[Bool.eq_iff_iff];simp
theorem lY{i j:Str}:decide (V.str i=V.str j)=(i==j):=by rw[Bool.eq_iff_iff];simp
theorem m8{i j:Array UInt8}:decide (V.byt i=V.byt j)=(i.toList==j.toList):=by rw[Bool.eq_iff_iff];cases i;cases j;simp
section
variable {X:Cx}{a b c:Expr}{ta tb tc:TE}{pos:Pos}
theorem aK{pins:PN}{σ:St}{H:Hp}{s:Shared}{Q:VK}{k k':Bool}(I:Inv X pins σ H s)(q:Q (.bl k) H)(e:k=k'):EP X pins σ Q (.bool k') s:=by subst e;exact⟨.bl k,H,I,rfl,q⟩
theorem vL:OpR X (compareOp .Eq) rEq:=by
 intro pins s σ H x y v u Q I rx ry h;obtain⟨hs,q⟩:=h;cases x with
 | non =>
  cases rx;cases y with
  | non=>cases ry;exact PySem.EqNone.eq_none_none (aK I q (by simp))
  | bl j=>cases ry;exact PySem.EqNone.eq_none_bool (aK I q (by simp))
  | int j=>obtain⟨t',rfl⟩:=ry;exact PySem.EqNone.eq_none_int (aK I q (by simp))
  | str j=>obtain⟨t',rfl⟩:=ry;exact PySem.EqNone.eq_none_str (aK I q (by simp))
  | _=>exact absurd (show false=true from hs) Bool.false_ne_true
 | bl i =>
  cases rx;cases y with
  | non=>cases ry;exact PySem.EqNone.eq_bool_none (aK I q (by simp))
  | bl j=>cases ry;exact eq_bool (aK I q pb)
  | str j=>obtain⟨t',rfl⟩:=ry;exact PySem.EqMixed.eq_bool_str (aK I q (by simp))
  | _=>exact absurd (show false=true from hs) Bool.false_ne_true
 | int i =>
  obtain⟨t,rfl⟩:=rx;cases y with
  | non=>cases ry;exact PySem.EqNone.eq_int_none (aK I q (by simp))
  | int j=>obtain⟨t',rfl⟩:=ry;exact eq_int (aK I q kK)
  | str j=>obtain⟨t',rfl⟩:=ry;exact PySem.EqMixed.eq_int_str (aK I q (by simp))
  | _=>exact absurd (show false=true from hs) Bool.false_ne_true
 | str i =>
  obtain⟨t,rfl⟩:=rx;cases y with
  | non=>cases ry;exact PySem.EqNone.eq_str_none (aK I q (by simp))
  | bl j=>cases ry;exact PySem.EqMixed.eq_str_bool (aK I q (by simp))
  | int j=>obtain⟨t',rfl⟩:=ry;exact PySem.EqMixed.eq_str_int (aK I q (by simp))
  | str j=>obtain⟨t',rfl⟩:=ry;exact eq_str (aK I q lY)
  | _=>exact absurd (show false=true from hs) Bool.false_ne_true
 | byt i =>
  obtain⟨t,rfl⟩:=rx;cases y with
  | byt j=>obtain⟨t',rfl⟩:=ry;exact W.eq_bytes (aK I q m8)
  | _=>exact absurd (show false=true from hs) Bool.false_ne_true
 | _=>cases y<;>exact absurd (show false=true from hs) Bool.false_ne_true
theorem wG:OpR X (compareOp .NotEq) rNe:=by
 intro pins s σ H x y v u Q I rx ry h;obtain⟨hs,q⟩:=h;cases x with
 | non =>
  cases rx;cases y with
  | non=>cases ry;exact PySem.EqNone.ne_none_none (aK I q (by simp))
  | bl j=>cases ry;exact PySem.EqNone.ne_none_bool (aK I q (by simp))
  | int j=>obtain⟨t',rfl⟩:=ry;exact PySem.EqNone.ne_none_int (aK I q (by simp))
  | str j=>obtain⟨t',rfl⟩:=ry;exact PySem.EqNone.ne_none_str (aK I q (by simp))
  | _=>exact absurd (show false=true from hs) Bool.false_ne_true
 | bl i =>
  cases rx;cases y with
  | non=>cases ry;exact PySem.EqNone.ne_bool_none (aK I q (by simp))
  | bl j=>cases ry;exact ne_bool (aK I q (congrArg not pb))
  | str j=>obtain⟨t',rfl⟩:=ry;exact PySem.EqMixed.ne_bool_str (aK I q (by simp))
  | _=>exact absurd (show false=true from hs) Bool.false_ne_true
 | int i =>
  obtain⟨t,rfl⟩:=rx;cases y with
  | non=>cases ry;exact PySem.EqNone.ne_int_none (aK I q (by simp))
  | int j=>obtain⟨t',rfl⟩:=ry;exact ne_int (aK I q (congrArg not kK))
  | str j=>obtain⟨t',rfl⟩:=ry;exact PySem.EqMixed.ne_int_str (aK I q (by simp))
  | _=>exact absurd (show false=true from hs) Bool.false_ne_true
 | str i =>
  obtain⟨t,rfl⟩:=rx;cases y with
  | non=>cases ry;exact PySem.EqNone.ne_str_none (aK I q (by simp))
  | bl j=>cases ry;exact PySem.EqMixed.ne_str_bool (aK I q (by simp))
  | int j=>obtain⟨t',rfl⟩:=ry;exact PySem.EqMixed.ne_str_int (aK I q (by simp))
  | str j=>obtain⟨t',rfl⟩:=ry;exact ne_str (aK I q (congrArg not lY))
  | _=>exact absurd (show false=true from hs) Bool.false_ne_true
 | byt i =>
  obtain⟨t,rfl⟩:=rx;cases y with
  | byt j=>obtain⟨t',rfl⟩:=ry;exact W.ne_bytes (aK I q (congrArg not m8))
  | _=>exact absurd (show false=true from hs) Bool.false_ne_true
 | _=>cases y<;>exact absurd (show false=true from hs) Bool.false_ne_true
theorem uu:OpR X (compareOp .Lt) (rI0 λ i j=>.bl (decide (i<j))):=wR λ _ _ _ _ _ _ _ q=>lt_int q
theorem nX:OpR X (compareOp .Gt) (rI0 λ i j=>.bl (decide (j<i))):=wR λ _ _ _ _ _ _ _ q=>gt_int q
theorem wF:OpR X (compareOp .GtE) (rI0 λ i j=>.bl (decide (j<=i))):=wR λ _ _ _ _ _ _ _ q=>ge_int q
theorem rJ{op:CmpOp}{r:R2}(ho:OpR X (compareOp op) r)(ha:PE X a ta)(hb:PE X b tb)(hm:behindInMarks op b=false):PE X (.Compare a [op] [b] pos) (tOp r ta tb):=by intro pins s σ H Q I h;exact wpAny_Compare1 (vv ha hb I h λ v u s2 x y H2 I2 rx ry q=>ho pins s2 σ H2 x y v u Q I2 rx ry q) hm
def sO(t:TE):TT:=λ σ H Q=>t σ H λ x H'=>∃ k,x=.bl k/\Q k H'
theorem qF{op:CmpOp}{r:R2}(ho:OpR X (compareOp op) r)(ha:PE X a ta)(hb:PE X b tb)(hm:behindInMarks op b=false):PT X (.Compare a [op] [b] pos) (sO (tOp r ta tb)):=by
 intro pins s σ H Q I h;refine wpAny_isTrue_Compare1 (thn (ha pins s σ H _ I h) λ v s1 ⟨x,H1,I1,r1,q1⟩=>thn (hb pins s1 σ H1 _ I1 q1) λ u s2 ⟨y,H2,I2,r2,q2⟩ =>
  thn (ho pins s2 σ H2 x y v u _ I2 r1 r2 q2) λ c s3 ⟨z,H3,I3,r3,k,e,q3⟩=>?_) hm
 subst e;cases r3;exact wpAny_truthy_bool ⟨H3,I3,q3⟩
def vO(K:FG)(x:V)(H:Hp)(k:Bool):Prop:=
 match x with
 | .non=>k=false
 | .bl b=>k=b
 | .int i=>k=(i != 0)
 | .str y=>y.length<=sizeLine/\k=((y.length:Int) != 0)
 | .byt y=>y.size<=sizeLine/\k=((y.size:Int) != 0)
 | .ref p=>(∃ xs,SqL K H p xs/\k=!xs.isEmpty)\/(∃ xs,SqT K H p xs/\k=!xs.isEmpty)\/∃ kvs,H p=some (.dK kvs)/\k=!kvs.isEmpty
 | _=>False
theorem j8{κ:Type}{kvs:List (κ×V)}{vs:List (κ×Value)}(r:KV kvs vs):(!vs.isEmpty)=!kvs.isEmpty:=by
 cases r<;>rfl
theorem fI{xs:List V}{its:List Value}(r:Vals xs its):(!its.toArray.isEmpty)=!xs.isEmpty:=by
 cases r<;>simp
theorem eJ:(sizeLine:Nat)<2 ^ 63:=by rw[sizeLine_eq];decide
theorem sP:xR X (λ x H Q=>∃ k,vO X.K x H k/\Q k H):=by
 intro pins s σ H x v Q I rx h;obtain⟨k,e,q⟩:=h;have hl:=eJ;have hs:sizeLine=16777216:=sizeLine_eq;cases x with
 | non =>
  cases rx;have e':k=false:=e;subst e';exact truthy_none ⟨H,I,q⟩
 | bl b =>
  cases rx;have e':k=b:=e;subst e';exact wpAny_truthy_bool ⟨H,I,q⟩
 | int i =>
  obtain⟨t,rfl⟩:=rx;have e':k=(i != 0):=e;subst e';exact PySem.P.truthy_int ⟨H,I,q⟩
 | str y =>
  obtain⟨t,rfl⟩:=rx;obtain⟨hy,e'⟩:y.length<=sizeLine/\k=((y.length:Int) != 0):=e;subst e';exact PySem.P.truthy_str (by omega) ⟨H,I.tok _,q⟩
 | byt y =>
  obtain⟨t,rfl⟩:=rx;obtain⟨hy,e'⟩:y.size<=sizeLine/\k=((y.size:Int) != 0):=e;subst e';exact W.truthy_bytes (by omega) ⟨H,I.tok _,q⟩
 | ref p =>
  cases rx;have e':(∃ xs,SqL X.K H p xs/\k=!xs.isEmpty)\/(∃ xs,SqT X.K H p xs/\k=!xs.isEmpty)\/∃ kvs,H p=some (.dK kvs)/\k=!kvs.isEmpty:=e;rcases e' with ⟨xs,hx,e'⟩ | ⟨xs,hx,e'⟩ | ⟨kvs,hx,e'⟩
  ·subst e';obtain⟨its,r,pl,hz⟩:=I.list hx;have hlen:=r.length;exact wpAny_truthy_list pl.isList (by simp only[List.size_toArray];omega) ⟨H,I.tok _,by rw[fI r];exact q⟩
  ·subst e';obtain⟨its,r,pl,hz⟩:=I.tuple hx;have hlen:=r.length;exact truthy_tuple pl (by simp only[List.size_toArray];omega) ⟨H,I.tok _,by rw[fI r];exact q⟩
  ·subst e';obtain⟨hz,hS,vs,r,m⟩:kvs.length<=sizeLine/\(p==sysModules)=false/\∃ vs,KV kvs vs/\s.heap.DictOf (aP X.prog X.w) p vs:=I.hok p _ hx;have hlen:kvs.length=vs.length:=Paired.length r;exact wpAny_truthy_dict hS m (by omega) ⟨H,I.tok _,by rw[j8 r];exact q⟩
 | _=>exact(show False from e).elim
theorem oG(ha:PE X a ta)(he:∀ whole,isTrue a X.env whole=(do let v <- whole;standAt a.pos;holding [v] (truthy v))) :
  PT X a (λ σ H Q=>ta σ H λ x H'=>∃ k,vO X.K x H' k/\Q k H'):=by
 intro pins s σ H Q I h;exact isTrue_plain (thn (ha pins s σ H _ I h) λ v s1 ⟨x,H1,I1,r1,q1⟩=>sP pins s1 σ H1 x v Q I1 r1 q1) (he _)
theorem jQ:OpR X (binaryOp .Add) (λ x y H Q=>∃ i j,x=.str i/\y=.str j/\i.length+j.length<=sizeLine/\Q (.str (i++j)) H):=by intro pins s σ H x y v u Q I rx ry h;obtain⟨i,j,rfl,rfl,hz,q⟩:=h;obtain⟨t,rfl⟩:=rx;obtain⟨t',rfl⟩:=ry;exact add_str (λ t' tk=>⟨.str (i++j),H,I.tok _,⟨_,rfl⟩,q⟩) hz
theorem vals1{x:V}{us:List Value}(r:Vals [x] us):∃ u,us=[u]/\RelV x u:=by
 cases r with
 | cons r1 r2=>cases r2;exact⟨_,rfl,r1⟩
theorem vals2{x y:V}{us:List Value}(r:Vals [x,y] us):∃ u w',us=[u,w']/\RelV x u/\RelV y w':=by
 cases r with
 | cons r1 r2 =>
  cases r2 with
  | cons r3 r4=>cases r4;exact⟨_,_,rfl,r1,r3⟩
theorem o4:cJ X (.builtin "abs") (λ xs H Q=>∃ i,xs=[.int i]/\Q (.int (if i<0 then -i else i)) H):=by intro pins s σ H xs us Q I r h;obtain⟨i,rfl,q⟩:=h;obtain⟨u,rfl,t,rfl⟩:=vals1 r;exact call_abs_int λ u tk=>⟨.int (if i<0 then -i else i),H,I.tok _,⟨_,rfl⟩,q⟩
theorem k8(hc:X.calm=true):cJ X (.builtin "max") (λ xs H Q=>∃ i j,xs=[.int i,.int j]/\Q (.int (if j > i then j else i)) H):=by
 intro pins s σ H xs us Q I r h;obtain⟨i,j,rfl,q⟩:=h;obtain⟨u,w',rfl,⟨t,rfl⟩,⟨t',rfl⟩⟩:=vals2 r;refine max_two_ints (I.ok.hd hc) λ h' tk k=>⟨_,H,I.kept k,?_,q⟩
 by_cases hj:j > i
 ·rw[if_pos hj,if_pos hj];exact⟨_,rfl⟩
 ·rw[if_neg hj,if_neg hj];exact⟨_,rfl⟩
theorem lT(hc:X.calm=true):cJ X (.builtin "min") (λ xs H Q=>∃ i j,xs=[.int i,.int j]/\Q (.int (if j<i then j else i)) H):=by
 intro pins s σ H xs us Q I r h;obtain⟨i,j,rfl,q⟩:=h;obtain⟨u,w',rfl,⟨t,rfl⟩,⟨t',rfl⟩⟩:=vals2 r;refine min_two_ints (I.ok.hd hc) λ h' tk k=>⟨_,H,I.kept k,?_,q⟩
 by_cases hj:j<i
 ·rw[if_pos hj,if_pos hj];exact⟨_,rfl⟩
 ·rw[if_neg hj,if_neg hj];exact⟨_,rfl⟩
theorem cW:cJ X (.type "int") (λ xs H Q=>(∃ i,xs=[.int i]/\Q (.int i) H)\/∃ k,xs=[.bl k]/\Q (.int (if k then 1 else 0)) H):=by
 intro pins s σ H xs us Q I r h;rcases h with ⟨i,rfl,q⟩ | ⟨k,rfl,q⟩
 ·obtain⟨u,rfl,t,rfl⟩:=vals1 r;exact call_int_int ⟨.int i,H,I,⟨_,rfl⟩,q⟩
 ·obtain⟨u,rfl,r1⟩:=vals1 r;cases r1;exact call_int_bool ⟨.int (if k then 1 else 0),H,I.tok _,⟨_,rfl⟩,q⟩
def xb(K:FG)(x:V)(H:Hp)(n:Nat):Prop:=
 match x with
 | .str y=>y.length<=sizeLine/\n=y.length
 | .byt y=>y.size<=sizeLine/\n=y.size
 | .ref p=>(∃ xs,SqL K H p xs/\n=xs.length)\/∃ xs,SqT K H p xs/\n=xs.length
 | _=>False
theorem cw:cJ X (.builtin "len") (λ xs H Q=>∃ x n,xs=[x]/\xb X.K x H n/\Q (.int n) H):=by
 intro pins s σ H xs us Q I r h;obtain⟨x,n,rfl,e,q⟩:=h;obtain⟨u,rfl,rx⟩:=vals1 r;have hl:=eJ;have hs:sizeLine=16777216:=sizeLine_eq;cases x with
 | str y =>
  obtain⟨t,rfl⟩:=rx;obtain⟨hy,e'⟩:y.length<=sizeLine/\n=y.length:=e;subst e';exact len_str (by omega) ⟨.int _,H,I.tok _,⟨_,rfl⟩,q⟩
 | byt y =>
  obtain⟨t,rfl⟩:=rx;obtain⟨hy,e'⟩:y.size<=sizeLine/\n=y.size:=e;subst e';exact W.len_bytes (by omega) ⟨.int _,H,I.tok _,⟨_,rfl⟩,q⟩
 | ref p =>
  cases rx;have e':(∃ xs,SqL X.K H p xs/\n=xs.length)\/∃ xs,SqT X.K H p xs/\n=xs.length:=e;rcases e' with ⟨xs,hx,e'⟩ | ⟨xs,hx,e'⟩
  ·subst e';obtain⟨its,r',pl,hz⟩:=I.list hx;have hlen:=r'.length;exact Calls.call_len_list pl.isList (by simp only[List.size_toArray];omega) ⟨.int xs.length,H,I.tok _,⟨_,by simp only[List.size_toArray];rw[hlen]⟩,q⟩
  ·subst e';obtain⟨its,r',pl,hz⟩:=I.tuple hx;have hlen:=r'.length;exact len_tuple pl (by simp only[List.size_toArray];omega) ⟨.int xs.length,H,I.tok _,⟨_,by simp only[List.size_toArray];rw[hlen]⟩,q⟩
 | _=>exact(show False from e).elim
end
structure rD(h:Heap)(x dx C:Addr)(mA:Str->Option Value):Prop where
 obj:h.get? x=some (W.instObj C dx)
 ns:h.Ns1 dx mA
 ne:dx≠x
theorem lN{h:Heap}{dx:Addr}{mA:Str->Option Value}(n:h.Ns1 dx mA):∃ od,h.get? dx=some od/\∀ name,W.lookIn name od=some (mA name):=by
 obtain⟨o,es,ep,ho,hd,hk,_,hm⟩:=n;refine⟨o,ho,λ name=>?_⟩;have e:=hm name;unfold nsFind findBy at e;rw[<- Array.find?_toList] at e;unfold W.lookIn;rw[hd];dsimp only
 split
 ·rename_i y q
  rw[q] at e;exact congrArg some e
 ·rename_i q
  rw[q] at e;have a:es.toList.any (·.refKey)=false:=by rw[List.any_eq_false];intro y hy;obtain⟨z,t,hkey⟩:=hk y (Array.mem_toList_iff.mp hy);simp[DictEntry.refKey,hkey]
  have a':¬ es.toList.any (·.refKey)=true:=by rw[a];exact Bool.false_ne_true
  rw[if_neg a'];exact congrArg some e
theorem rD.look{h:Heap}{x dx C:Addr}{mA:Str->Option Value}(I:rD h x dx C mA):∃ od,W.InstAt h x (W.instObj C dx) C (some od)/\∀ name,W.lookIn name od=some (mA name):=
 let ⟨od,ho,hl⟩:=lN I.ns
 ⟨od,⟨I.obj,rfl,rfl,ho⟩,hl⟩
section
variable {prog:Program}{w:World}{A:Around}{E:VP}{s:Shared}{K:FG}{x dx C f:Addr}{mA:Str->Option Value}{name:Str}{v:Value}
theorem get_map{expr:Bool}{Q:VP}(X:K.In s.heap)(I:rD s.heap x dx C mA)(hg:W.plainGet K C name=true)(hh:W.hasDictIn K C=true)
  (ha:W.findIn K (.ref C) name=some none)(hv:mA name=some v)(hv':W.handedIn v=true)(h:Q v {s with toks:=s.toks+1}) :
  wpAny (model prog w) A (getAttr (.ref x) name expr) Q E s:=by
 obtain⟨od,J,hl⟩:=I.look;exact W.get_value X J (W.plainGet_of hg).1 (W.findObj_own hh ha rfl (by rw[hl,hv])) hv' h
theorem oz{pl:Sem Bool}{Q:Value×List Value->Shared->Prop}(X:K.In s.heap)(I:rD s.heap x dx C mA)(hg:W.plainGet K C name=true)
  (hf:W.findIn K (.ref C) name=some (some (.ref f)))(ht:W.isFn K (.ref f)=true)(hv:mA name=none)(h:Q (.ref f,[.ref x]) s) :
  wpAny (model prog w) A (getMethod (.ref x) name pl) Q E s:=by
 obtain⟨od,J,hl⟩:=I.look;exact W.method_fn X J (W.plainGet_of hg).1 (W.plainGet_of hg).2 hf (beq_iff_eq.mp ht) (by show(W.lookIn name od).map (·.isSome)=some false;rw[hl,hv];rfl) h
theorem rf{ns:List Str}{Q:Unit->Shared->Prop}(X:K.In s.heap)(I:rD s.heap x dx C mA)
  (hs:W.findIn K (.ref C) "__setattr__" = some (some (.builtin "object.__setattr__")))(hp:W.plainOver K C=true)(ht:W.takerIn K C name=some none)(hh:W.hasDictIn K C=true)
  (hw:PySem.Within mA ns)(hsz:ns.length<=sizeLine)
  (h:∀ h',rD h' x dx C (λ y=>if y=name then some v else mA y)->Heap.SameBut dx s.heap h'->Q () {s with heap:=h',toks:=s.toks+2}) :
  wpAny (model prog w) A (setAttr (.ref x) name v) Q E s:=by
 obtain⟨od,J,hl⟩:=I.look;refine W.set_plain X J hs (W.osa_open (s:={s with toks:=s.toks+1}) (r:=none) X J hp ht λ b=>?_);obtain⟨cd,hc,hd'⟩:=W.any_some hh;have hx:s.heap.get? x=some ⟨.ref C,some dx,.plain,#[]⟩:=I.obj;refine wpAny_bind (wpAny_pure (wpAny_bind (wpAny_bind (wpAny_loadPart hx (wpAny_bind (W.Looks.here (s:={s with toks:=s.toks+1}) (W.looks_clsIn X hc) ?_))))));rw[hd'];refine wpAny_pure (a:=some dx) (wpAny_bind (wpAny_pure (wpAny_bind ?_)));refine wpAny_nsSet1 (s:={s with toks:=s.toks+1}) I.ns λ h' hn2 hs2=>?_;obtain⟨oD,esD,epD,hoD,hdD,hcD⟩:=hn2.count (PySem.Within.cons name v hw);refine wpAny_bind (wpAny_lookBehind hoD (by rw[hdD];exact pastItsLine_dict (Nat.le_trans hcD (by rw[List.length_cons];omega))) ?_);exact wpAny_pure (h _ ⟨(hs2.2 _ (Ne.symm I.ne)).trans I.obj,hn2,I.ne⟩ hs2)
theorem oy{R:Result->Shared->Prop}{vs:List Value}{kw:List (Str×Value)}(X:K.In s.heap)(hm:W.makesIn K C=true)
  (hi:W.findIn K (.ref C) "__init__" = some (some (.ref f)))(hf:W.typeIn K (.ref f)=some (.type "function"))
  (h:codeAny (model prog w) (A.under (.builtin "type.__call__" ⟨.ref C::vs,kw⟩)) (.call (.ref f) ⟨.ref (s.heap.objs.size+1)::vs,kw⟩) (W.InitBack (s.heap.objs.size+1) R)
   {s with heap:=(s.heap.push W.emptyDict).push (W.instObj C s.heap.objs.size)}) :
  codeAny (model prog w) A (.call (.ref C) ⟨vs,kw⟩) R s:=by
 obtain⟨hh,g,d,t,os⟩:=s;exact W.make_core (W.makes_of X hm) (W.looks_findIn X hi) (λ self=>W.bind_fn X self hf) (.inl rfl) h
end
def gf(f:Str)(v:V):List (Str×V)->List (Str×V)
 | []=>[(f,v)]
 | (g,x)::r=>if g=f then (g,v)::r else (g,x)::gf f v r
theorem eF(f g:Str)(v:V):∀ fs:List (Str×V),(gf f v fs).lookup g=if g=f then some v else fs.lookup g
 | []=>by
  show List.lookup g [(f,v)]=_
  by_cases h:g=f
  ·have hb:(g==f)=true:=beq_iff_eq.mpr h;simp only[List.lookup,hb,if_pos h]
  ·have hb:(g==f)=false:=beq_eq_false_iff_ne.mpr h;simp only[List.lookup,hb,if_neg h]
 | (k,x)::r=>by
  have ih:=eF f g v r;rw[show gf f v ((k,x)::r)=(if k=f then (k,v)::r else (k,x)::gf f v r) from rfl]
  by_cases hk:k=f
  ·rw[if_pos hk]
   by_cases h:g=k
   ·have hb:(g==k)=true:=beq_iff_eq.mpr h;simp only[List.lookup,hb,if_pos (h.trans hk)]
   ·have hb:(g==k)=false:=beq_eq_false_iff_ne.mpr h;simp only[List.lookup,hb,if_neg (λ e:g=f=>h (e.trans hk.symm))]
  ·rw[if_neg hk]
   by_cases h:g=k
   ·have hb:(g==k)=true:=beq_iff_eq.mpr h;simp only[List.lookup,hb,if_neg (λ e:g=f=>hk (h.symm.trans e))]
   ·have hb:(g==k)=false:=beq_eq_false_iff_ne.mpr h;simp only[List.lookup,hb];exact ih
theorem eE(f:Str)(v:V):∀ fs:List (Str×V),f∈(gf f v fs).map (·.1)/\∀ g,g∈fs.map (·.1)->g∈(gf f v fs).map (·.1)
 | []=>⟨by simp[gf],λ g h=>by simp at h⟩
 | (k,x)::r=>by
  obtain⟨i1,i2⟩:=eE f v r;rw[show gf f v ((k,x)::r)=(if k=f then (k,v)::r else (k,x)::gf f v r) from rfl]
  by_cases hk:k=f
  ·rw[if_pos hk];subst hk;exact⟨by simp,λ g h=>by simpa using h⟩
  ·rw[if_neg hk];refine⟨?_,λ g h=>?_⟩
   ·rw[List.map_cons];exact List.mem_cons_of_mem _ i1
   ·rw[List.map_cons] at h ⊢;rcases List.mem_cons.mp h with e | e
    ·exact List.mem_cons.mpr (.inl e)
    ·exact List.mem_cons_of_mem _ (i2 g e)
theorem eA(f:Str)(v:V):∀ fs:List (Str×V),(gf f v fs).length<=fs.length+1
 | []=>by simp[gf]
 | (k,x)::r=>by
  have ih:=eA f v r;rw[show gf f v ((k,x)::r)=(if k=f then (k,v)::r else (k,x)::gf f v r) from rfl]
  by_cases hk:k=f
  ·rw[if_pos hk,List.length_cons,List.length_cons];omega
  ·rw[if_neg hk,List.length_cons,List.length_cons];omega
theorem iy.some_of{v:V}{o:Option Value}(r:iy (some v) o):∃ u,o=some u/\RelV v u:=by
 cases o with
 | none=>exact(show False from r).elim
 | some u=>exact⟨u,rfl,r⟩
theorem iy.none_of{o:Option Value}(r:iy none o):o=none:=by
 cases o with
 | none=>rfl
 | some u=>exact(show False from r).elim
theorem lU{v:V}{u:Value}(r:RelV v u):W.handedIn u=true:=by
 cases v with
 | non=>cases (show u=Value.none from r);rfl
 | bl b=>cases (show u=Value.bool b from r);rfl
 | int i=>obtain⟨t,e⟩:=(show ∃ t,u=Value.int i t from r);cases e;rfl
 | str x=>obtain⟨t,e⟩:=(show ∃ t,u=Value.str x t from r);cases e;rfl
 | byt b=>obtain⟨t,e⟩:=(show ∃ t,u=Value.bytes b t from r);cases e;rfl
 | flt b=>obtain⟨t,e⟩:=(show ∃ t,u=Value.float b t from r);cases e;rfl
 | ref a=>cases (show u=Value.ref a from r);rfl
 | ty n=>cases (show u=Value.type n from r);rfl
section
variable {P:Program}{w:World}{H H':Hp}{h h':Heap}{a C dx:Addr}{fs fs':List (Str×V)}
theorem iE(hok:HOk P w H h)(e:H a=some (.ins C dx fs)):∃ mA,rD h a dx C mA/\(∀ f,iy (fs.lookup f) (mA f))/\PySem.Within mA (fs.map (·.1))/\fs.length<=1000/\H dx=some (.own a):=by obtain⟨d,z,ne,ob,mA,n,r,q⟩:=(show bx P w H h a (.ins C dx fs) from hok a _ e);exact⟨mA,⟨ob,n,ne⟩,r,q,z,d⟩
end
structure Cls(K:FG)(C:Addr):Prop where
 pg:W.plainGet K C Str.empty=true
 hd:W.hasDictIn K C=true
 po:W.plainOver K C=true
 sa:W.findIn K (.ref C) "__setattr__" = some (some (.builtin "object.__setattr__"))
theorem Cls.get{K:FG}{C:Addr}(c:Cls K C)(f:Str):W.plainGet K C f=true:=c.pg
def bZ(K:FG)(C:Addr)(f:Str):Prop:=W.findIn K (.ref C) f=some none
theorem bZ.vW{K:FG}{C:Addr}{f:Str}(n:bZ K C f):W.takerIn K C f=some none:=by
 unfold W.takerIn;rw[show W.findIn K (.ref C) f=some none from n];rfl
structure Meth(K:FG)(C:Addr)(m:Str)(f:Addr):Prop where
 at_:W.findIn K (.ref C) m=some (some (.ref f))
 fn:W.isFn K (.ref f)=true
 kp:W.keepIn K (.ref f)=true
section
variable {X:Cx}{pins:PN}{σ:St}{H:Hp}{s:Shared}{a C dx:Addr}{fs:List (Str×V)}{f:Str}{v:V}{A:Around}{E:VP}
theorem ku{b:Bool}{Q:VP}(I:Inv X pins σ H s)(e:H a=some (.ins C dx fs))(c:Cls X.K C)(n:bZ X.K C f)(l:fs.lookup f=some v)
  (h:∀ u s',Inv X pins σ H s'->RelV v u->Q u s'):wpAny (model X.prog X.w) A (getAttr (.ref a) f b) Q E s:=by
 obtain⟨mA,O,r,_,_,_⟩:=iE I.hok e;obtain⟨u,hu,ru⟩:=iy.some_of (v:=v) (o:=mA f) (by rw[<- l];exact r f);exact get_map I.kIn O (c.get f) c.hd n hu (lU ru) (h u _ (I.tok _) ru)
theorem ko{m:Str}{g:Addr}{pl:Sem Bool}{Q:Value×List Value->Shared->Prop}(I:Inv X pins σ H s)(e:H a=some (.ins C dx fs))(c:Cls X.K C)(k:Meth X.K C m g)(l:fs.lookup m=none)
  (h:Q (.ref g,[.ref a]) s):wpAny (model X.prog X.w) A (getMethod (.ref a) m pl) Q E s:=by
 obtain⟨mA,O,r,_,_,_⟩:=iE I.hok e;have hn:mA m=none:=iy.none_of (by rw[<- l];exact r m);exact oz I.kIn O (c.get m) k.at_ k.fn hn h
theorem jY{y:V}{u:Value}{Q:Unit->Shared->Prop}(I:Inv X pins σ H s)(e:H a=some (.ins C dx fs))(c:Cls X.K C)(n:bZ X.K C f)(hl:fs.length<1000)(ry:RelV y u)
  (h:∀ s',Inv X pins σ (upd H a (.ins C dx (gf f y fs))) s'->Q () s'):wpAny (model X.prog X.w) A (setAttr (.ref a) f u) Q E s:=by
 obtain⟨mA,O,r,wi,_,ho⟩:=iE I.hok e;have hz:(fs.map (·.1)).length<=sizeLine:=by rw[List.length_map,sizeLine_eq];omega
 refine rf I.kIn O c.sa c.po n.vW c.hd wi hz λ h' O' sb=>h _ ?_;have hd:∃ o,h'.get? dx=some o:=let ⟨o,_,_,e',_⟩:=O'.ns; ⟨o,e'⟩;refine I.write (x:=a) (e:=dx) (by rw[e];exact True.intro) (.inr ho) (λ b q hb z=>(sb.2 b hb).trans z) hd ?_;refine⟨by rw[ay O.ne];exact ho,?_,O.ne,O'.obj,_,O'.ns,λ g=>?_,λ g hg=>?_⟩
 ·have:=eA f y fs;omega
 ·show iy ((gf f y fs).lookup g) (if g=f then some u else mA g);rw[eF]
  by_cases q:g=f
  ·rw[if_pos q,if_pos q];exact ry
  ·rw[if_neg q,if_neg q];exact r g
 ·by_cases q:g=f
  ·rw[q];exact(eE f y fs).1
  ·refine(eE f y fs).2 g (wi g λ z=>hg ?_);show(if g=f then some u else mA g)=none;rw[if_neg q];exact z
theorem Inv.made(I:Inv X pins σ H s):Inv X pins σ (upd (upd H s.heap.objs.size (.own (s.heap.objs.size+1))) (s.heap.objs.size+1) (.ins C s.heap.objs.size []))
  {s with heap:=(s.heap.push W.emptyDict).push (W.instObj C s.heap.objs.size)}:=by
 have e1:(s.heap.push W.emptyDict).get? s.heap.objs.size=some W.emptyDict:=Heap.get?_push_size s.heap rfl;have e2:((s.heap.push W.emptyDict).push (W.instObj C s.heap.objs.size)).get? (s.heap.objs.size+1)=some (W.instObj C s.heap.objs.size):=by
  have:=Heap.get?_push_size (s.heap.push W.emptyDict) (o:=W.instObj C s.heap.objs.size) rfl
  rwa[Heap.size_push] at this
 have e3:(s.heap.push W.emptyDict).Ns s.heap.objs.size (λ _=>none):=⟨W.emptyDict,#[],_,e1,rfl,(λ e he=>absurd he (by simp)),λ _=>rfl⟩;have I1:=I.laid (a:=s.heap.objs.size) (o:=.own (s.heap.objs.size+1)) (h':=s.heap.push W.emptyDict) (t':=s.toks) (λ b u q=>Heap.get?_push_of_some _ q) (Nat.le_refl _) ⟨_,e1⟩;refine I1.laid (a:=s.heap.objs.size+1) (o:=.ins C s.heap.objs.size []) (t':=s.toks) (λ b u q=>Heap.get?_push_of_some _ q) (Nat.le_of_eq (Heap.size_push _ _)) ?_;have ne:s.heap.objs.size≠s.heap.objs.size+1:=Nat.ne_of_lt (Nat.lt_succ_self _);refine⟨by rw[ay ne,ax],Nat.zero_le _,ne,e2,λ _=>none,(Heap.Ns1.of_empty e3).at λ o q=>Heap.get?_push_of_some _ q,λ _=>True.intro,λ y hy=>absurd rfl hy⟩
theorem qz{prog:Program}{w:World}{env:Env}{e:Expr}{f:Str}{pos:Pos}{s:Shared}{Q:VP}(hb:attributeBase e f env (eval e env)=eval e env)
  (h:wpAny (model prog w) A (eval e env) (λ o s₁=>wpAny (model prog w) A (getAttr o f true) Q E s₁) E s):wpAny (model prog w) A (eval (.Attribute e f pos) env) Q E s:=
 Attribute_any_ h (by rw[arm_eval_Attribute,hb])
end
def xM(K:FG)(ta:TE)(f:Str):TE:=λ σ H Q=>ta σ H λ x H1=>∃ a C dx fs v,x=.ref a/\H1 a=some (.ins C dx fs)/\Cls K C/\bZ K C f/\fs.lookup f=some v/\Q v H1
def xK(K:FG)(ta tv:TE)(f:Str):TS:=λ D σ H=>tv σ H λ y H1=>ta σ H1 λ x H2=>∃ a C dx fs,x=.ref a/\H2 a=some (.ins C dx fs)/\Cls K C/\bZ K C f/\fs.length<1000 /\
 D.nx σ (upd H2 a (.ins C dx (gf f y fs)))
section
variable {X:Cx}{o e value:Expr}{f:Str}{pos pos' tpos:Pos}{ta tv:TE}
theorem tj(he:PE X e ta)(hb:attributeBase e f X.env (eval e X.env)=eval e X.env):PE X (.Attribute e f pos) (xM X.K ta f):=by intro pins s σ H Q I h;refine qz hb (thn (he pins s σ H _ I h) λ u s1 hq17=>?_);obtain⟨x,H1,I1,rx,a,C,dx,fs,v,ex,ea,c,n,l,q⟩:=hq17;subst ex;obtain rfl:u=Value.ref a:=rx;exact ku I1 ea c n l λ u' s2 I2 ru=>⟨v,H1,I2,ru,q⟩
theorem t7(ha:PE X o ta)(hv:PE X value tv)(hs:swapsWith value (some (.Attribute o f pos')) pos.line X.env=pure false):PS X (.Assign [.Attribute o f pos'] value pos) (xK X.K ta tv f):=by intro pins s σ H D I h;refine plainObj_wpAny_Assign_Attribute (thn (hv pins s σ H _ I h) λ u s1 ⟨y,H1,I1,ry,q⟩=>thn (ha pins s1 σ H1 _ I1 q) λ ov s2 ⟨x,H2,I2,rx,a,C,dx,fs,ex,ea,c,n,l,q2⟩=>?_) hs;subst ex;obtain rfl:ov=Value.ref a:=rx;exact jY I2 ea c n l ry λ s3 I3=>⟨σ,_,I3,q2⟩
end
section
variable {X:Cx}{pins:PN}{σ:St}{H:Hp}{s:Shared}{A:Around}{E:VP}{Q:VP}{c:Value}{b:Bool}
end
structure b9(k:Nat)(A:Around):Prop where
 hd:A.handled=none
 gd:A.guards=some []
 dp:A.depth+3 * k+5<recursionLimit
 un:A.units+16 * k+200<cLine
theorem b9.mono{j k:Nat}{A:Around}(r:b9 k A)(h:j<=k):b9 j A:=⟨r.hd,r.gd,by have:=r.dp;omega,by have:=r.un;omega⟩
theorem b9.deeper{k:Nat}{A:Around}(r:b9 (k+1) A)(env:Env):b9 k (A.deeper env):=
 ⟨r.hd,r.gd,by have:=r.dp;show A.depth+1+3 * k+5<_;omega,by have:=r.un;show A.units+3+16 * k+200<_;omega⟩
theorem j6{A:Around}{C:Addr}{us:List Value}{kw:List (Str×Value)}:(A.under (.builtin "type.__call__" ⟨.ref C::us,kw⟩)).depth=A.depth+1:=by
 first | rfl | simp[Around.under,Code.weight,Code.isCreation,Code.isGuard,Code.isCaller,Code.frames,Code.isFrame,guardIds]
theorem jZ{A:Around}{C:Addr}{us:List Value}{kw:List (Str×Value)}:(A.under (.builtin "type.__call__" ⟨.ref C::us,kw⟩)).units=A.units+1:=by
 first | rfl | simp[Around.under,Code.cUnits,Code.frames,Code.isFrame]
theorem b9.make{k:Nat}{A:Around}(r:b9 (k+1) A)(C:Addr)(us:List Value)(kw:List (Str×Value)):b9 k (A.under (.builtin "type.__call__" ⟨.ref C::us,kw⟩)):=
 ⟨r.hd,(by first | exact r.gd | (simpa [Around.under,Code.isGuard,Code.frames,Code.isFrame,guardIds] using r.gd)),by have:=r.dp;rw[j6];omega,by have:=r.un;rw[jZ];omega⟩
theorem b9.depth{k:Nat}{A:Around}(r:b9 k A):A.depth<recursionLimit:=by have:=r.dp;omega
theorem b9.units{k:Nat}{A:Around}(r:b9 k A):A.units+64<cLine:=by have:=r.un;omega
def wu:TA:=λ _ H Q=>Q [] H
def uF(ta:TE)(tr:TA):TA:=λ σ H Q=>ta σ H λ x H1=>tr σ H1 λ xs H2=>Q (x::xs) H2
section
variable {X:Cx}{e:Expr}{es:List Expr}{te:TE}{t:TA}{pos:Pos}
theorem pS:PA X [] wu:=λ _ _ _ _ H Q I h=>Calls.spliced_nil ⟨[],H,I,.nil,h⟩
theorem mZ(ha:PE X e te)(hr:PA X es t)(hs:starEach (e::es) X.env=(false,eval e X.env)::starEach es X.env:=by rfl):PA X (e::es) (uF te t):=by intro pos pins s σ H Q I h;rw[hs];show wpAny _ _ (spliced ((false,eval e X.env)::backTo pos (starEach es X.env))) _ _ s;refine Calls.spliced_cons (thn (ha pins s σ H _ I h) λ u s1 hq18=>?_);obtain⟨x,H1,I1,r1,q1⟩:=hq18;exact thn (hr pos pins s1 σ H1 _ I1 q1) λ us s2 ⟨xs,H2,I2,r2,q2⟩=>⟨x::xs,H2,I2,.cons r1 r2,q2⟩
def xw(t:TA):TE:=λ σ H Q=>t σ H λ xs H1=>xs.length<=sizeLine/\∀ p,H1 p=none->Q (.ref p) (upd H1 p (.tup xs))
def xC(t:TA):TE:=λ σ H Q=>t σ H λ xs H1=>xs.length<=sizeLine/\∀ p,H1 p=none->Q (.ref p) (upd H1 p (.lst xs))
theorem p4{x1}(h:PA X es t):PE X (.Tuple es x1 pos) (xw t):=by intro pins s σ H Q I hq;refine wpAny_Tuple_spliced (thn (h pos pins s σ H _ I hq) λ us s1 ⟨xs,H1,I1,r,z,q⟩=>⟨by rw[<- r.length];exact z,?_⟩);have hf:H1 s1.heap.objs.size=none:=I1.hok.fresh (Nat.le_refl _);refine⟨.ref s1.heap.objs.size,upd H1 s1.heap.objs.size (.tup xs),I1.laid (t':=s1.toks) (λ b u e=>Heap.get?_push_of_some _ e) (Nat.le_refl _) ?_,rfl,q _ hf⟩;exact⟨z,us,r,pU.new _ _⟩
theorem pJ(h:PA X es t):PE X (.List es pos) (xC t):=by intro pins s σ H Q I hq;refine wpAny_List_spliced (thn (h pos pins s σ H _ I hq) λ us s1 ⟨xs,H1,I1,r,z,q⟩=>⟨by rw[<- r.length];exact z,?_⟩);have hf:H1 s1.heap.objs.size=none:=I1.hok.fresh (Nat.le_refl _);refine⟨.ref s1.heap.objs.size,upd H1 s1.heap.objs.size (.lst xs),I1.laid (t':=s1.toks) (λ b u e=>Heap.get?_push_of_some _ e) (Nat.le_refl _) ?_,rfl,q _ hf⟩;exact⟨z,us,0,r,Heap.get?_push_size _ rfl⟩
end
abbrev Sp:=List V->Hp->VK->XK->Prop
abbrev CXT:=List Env->Hp->Shared->XK->VP
structure q9(P:Program)(w:World)(K:FG)(mg:Str->Option Value)(base:Heap)(A:Around)(outer:List Env)(s:Shared)(H:Hp):Prop where
 frames:A.frames=some outer
 mod:Mod K mg base
 bs:∀ b o,base.get? b=some o->s.heap.get? b=some o/\H b=none
 bsz:base.objs.size<=s.heap.objs.size
 jP:s.heap.FunFrames base outer
 frf:∀ b∈frs outer,H b=none
 hok:HOk P w H s.heap
 bare:AllBare s.gens
def CE(outer:List Env)(P:Program)(w:World)(H:Hp)(s:Shared)(Q:VK)(u:Value)(s':Shared):Prop:=
 ∃ v H',s'.os=s.os/\AllBare s'.gens/\Un (frs outer) [] H H' s.heap s'.heap/\HOk P w H' s'.heap/\RelV v u/\Q v H'
def CR(CX:CXT)(outer:List Env)(P:Program)(w:World)(H:Hp)(s:Shared)(Q:VK)(E:XK)(r:Result)(s':Shared):Prop:=
 match r with
 | .ok (.ret u)=>CE outer P w H s Q u s'
 | .ok _=>False
 | .error e=>CX outer H s E e s'
structure cL(P:Program)(w:World)(K:FG)(mg:Str->Option Value)(base:Heap)(CX:CXT)(k:Nat)(f:Addr)(fd:FuncData)(ps:List Str)(sp:Sp):Prop where
 len:∀ vs H Q E,sp vs H Q E->vs.length=ps.length
 run:∀ (A:Around) (outer:List Env) (s:Shared) (H:Hp) (args:Args) (us:List Value) (vs:List V) (Q:VK) (E:XK),b9 k A->q9 P w K mg base A outer s H->BindsTo s fd args (ps.zip us)->Vals vs us->sp vs H Q E ->
  codeAny (model P w) A (.call (.ref f) args) (CR CX outer P w H s Q E) s
theorem q9.make{P:Program}{w:World}{K:FG}{mg:Str->Option Value}{base:Heap}{A:Around}{outer:List Env}{s:Shared}{H:Hp}(e:q9 P w K mg base A outer s H)(C:Addr)(us:List Value)(kw:List (Str×Value)) :
  q9 P w K mg base (A.under (.builtin "type.__call__" ⟨.ref C::us,kw⟩)) outer s H:=⟨by first | exact e.frames | (simpa [Around.under,Code.envs,Code.isFrame,pushEnvs] using e.frames),e.mod,e.bs,e.bsz,e.jP,e.frf,e.hok,e.bare⟩
section
variable {X:Cx}{pins:PN}{σ:St}{H:Hp}{s s':Shared}
theorem Inv.xc(I:Inv X pins σ H s):q9 X.prog X.w X.K X.mg X.base X.A X.stack s H:=
 ⟨I.ok.frames,I.ok.mod,I.bs,Nat.le_trans I.ok.bsz I.sz,I.stack,I.mj,I.hok,I.bare⟩
theorem Inv.after{Q:VK}{u:Value}(I:Inv X pins σ H s)(h:CE X.stack X.prog X.w H s Q u s'):EP X pins σ Q u s':=by obtain⟨v,H',os,bare,un,hok,r,q⟩:=h;obtain⟨hh,g,d,t,os'⟩:=s';obtain rfl:os'=s.os:=os;exact⟨v,H',I.call (h':=hh) (g':=g) (d':=d) (t':=t) (ch:=[]) un hok bare (λ b z=>absurd z (by simp)),r,q⟩
end
def vN(sp:Sp)(dvs:List V)(E:XK)(t:TA):TE:=λ σ H Q=>t σ H λ vs H1=>sp (vs++dvs) H1 Q E
def uQ(C:Addr)(m:Str)(sp:Sp)(dvs:List V)(E:XK)(ta:TE)(t:TA):TE:=λ σ H Q=>ta σ H λ x H1=>∃ a dx fs,x=.ref a/\H1 a=some (.ins C dx fs)/\fs.lookup m=none /\
 t σ H1 λ vs H2=>sp (x::(vs++dvs)) H2 Q E
def vX(C:Addr)(sp:Sp)(dvs:List V)(E:XK)(t:TA):TE:=λ σ H Q=>t σ H λ vs H1=>∀ x dx,H1 x=none->H1 dx=none->dx≠x ->
 sp (.ref x::(vs++dvs)) (upd (upd H1 dx (.own x)) x (.ins C dx [])) (λ v H2=>v=.non/\Q (.ref x) H2) E
def Binds(K:FG)(fd:FuncData)(ps:List Str)(ds:List Value):Prop:=
 ∀ (s:Shared) (us:List Value),K.In s.heap->(us++ds).length=ps.length->BindsTo s fd ⟨us,[]⟩ (ps.zip (us++ds))
theorem Binds.all{K:FG}{fd:FuncData}{ps:List Str}(h:∀ us:List Value,us.length=ps.length->bindArgs fd ⟨us,[]⟩=pure (ps.zip us)):Binds K fd ps []:=λ s us _ hl=>by rw[List.append_nil] at hl ⊢;exact .of_eq (h us hl)
def Passes(CX:CXT)(X:Cx)(E:XK):Prop:=∀ (pins:PN) (σ:St) (H:Hp) (s:Shared) (e:Value) (s':Shared),Inv X pins σ H s->CX X.stack H s E e s'->X.xe e s'
section
variable {X:Cx}{CX:CXT}{k:Nat}{f C:Addr}{fd:FuncData}{ps:List Str}{sp:Sp}{dvs:List V}{ds:List Value}{E:XK}{x m:Str}{p pos apos:Pos}{e o:Expr}{es:List Expr}{ta:TE}{t:TA}
theorem pz{pins:PN}{σ:St}{H:Hp}{s:Shared}{Q:VK}{us:List Value}{vs:List V}(F:cL X.prog X.w X.K X.mg X.base CX k f fd ps sp)(hr:b9 k X.A)(hb:Binds X.K fd ps ds)(hd:Vals dvs ds)(hx:Passes CX X E)
  (I:Inv X pins σ H s)(r:Vals vs us)(h:sp (vs++dvs) H Q E):wpAny (model X.prog X.w) X.A (call (.ref f) us) (EP X pins σ Q) X.xe s:=by
 have r2:Vals (vs++dvs) (us++ds):=r.append hd;have hl:(us++ds).length=ps.length:=by rw[<- r2.length];exact F.len _ _ _ _ h
 refine wpAny_call (codeAny_mono (F.run X.A X.stack s H ⟨us,[]⟩ (us++ds) (vs++dvs) Q E hr I.xc (hb s us I.kIn hl) r2 h) λ r s' hq=>?_);cases r with
 | error e=>exact hx pins σ H s e s' I hq
 | ok fl =>
  cases fl with
  | ret u=>exact I.after hq
  | next=>exact False.elim hq
  | brk=>exact False.elim hq
  | cont=>exact False.elim hq
theorem sr(F:cL X.prog X.w X.K X.mg X.base CX k f fd ps sp)(hr:b9 k X.A)(hg:Gl X x)(hm:X.mg x=some (.ref f))(hk:W.keepIn X.K (.ref f)=true)(hb:Binds X.K fd ps ds)(hd:Vals dvs ds)(hx:Passes CX X E)
  (ha:PA X (e::es) t)(hdb:ND x:=by decide)(he:starEach (e::es) X.env=(false,eval e X.env)::starEach es X.env:=by rfl)(hpl:(backTo pos (starEach es X.env)).any (·.1)=false:=by rfl) :
  PE X (.Call (.Name x p) (e::es) [] pos) (vN sp dvs E t):=by
 intro pins s σ H Q I h;refine wpAny_Call_Name_kw (my I hg hm ?_ hdb);refine W.callWith_K (h₀:=X.base) I.ok.mod.kin hk (thn (ha pos pins s σ H _ I h) λ us s1 ⟨vs,H1,I1,r,q⟩=>⟨I1.kIn,?_⟩) he hpl;exact pz F hr hb hd hx I1 r q
theorem sd{pl:Sem Bool}(he:PE X o ta)(c:Cls X.K C)(hm:Meth X.K C m f)(F:cL X.prog X.w X.K X.mg X.base CX k f fd ps sp)(hr:b9 k X.A)(hb:Binds X.K fd ps ds)(hd:Vals dvs ds)(hx:Passes CX X E)(ha:PA X (e::es) t)
  (hst:starEach (e::es) X.env=(false,eval e X.env)::starEach es X.env:=by rfl)(hpl:(backTo pos (starEach es X.env)).any (·.1)=false:=by rfl)
  (ht:eval (.Call (.Attribute o m apos) (e::es) [] pos) X.env=(do
   let ov <- eval o X.env
   standAt apos.atName
   let (f,first) <- holding [ov] (getMethod ov m pl)
   callWith pos f first (backTo pos (starEach (e::es) X.env)) (backToKw pos (keywordEach [] X.env))):=by rfl) :
  PE X (.Call (.Attribute o m apos) (e::es) [] pos) (uQ C m sp dvs E ta t):=by
 intro pins s σ H Q I h;refine W.methodCall_KW (pl:=pl) (thn (he pins s σ H _ I h) λ u s1 ⟨x,H1,I1,rx,a,dx,fs,ex,ea,l,q⟩=>?_) ht;subst ex;obtain rfl:u=Value.ref a:=rx;refine ko I1 ea c hm l ?_;refine W.callWith_K (first:=[.ref a]) (h₀:=X.base) I.ok.mod.kin hm.kp (thn (ha pos pins s1 σ H1 _ I1 q) λ us s2 ⟨vs,H2,I2,r,q2⟩=>⟨I2.kIn,?_⟩) hst hpl
 exact pz (us:=.ref a::us) (vs:=.ref a::vs) F hr hb hd hx I2 (.cons rfl r) q2
structure Mk(K:FG)(C f:Addr):Prop where
 makes:W.makesIn K C=true
 init:W.findIn K (.ref C) "__init__" = some (some (.ref f))
 fn:W.isFn K (.ref f)=true
 kp:W.keepIn K (.ref C)=true
theorem oS{pins:PN}{σ:St}{H:Hp}{s:Shared}{Q:VK}{us:List Value}{vs:List V}(M:Mk X.K C f)(F:cL X.prog X.w X.K X.mg X.base CX k f fd ps sp)(hr:b9 (k+1) X.A)(hb:Binds X.K fd ps ds)(hd:Vals dvs ds)
  (hx:Passes CX X E)(I:Inv X pins σ H s)(r:Vals vs us)
  (h:∀ x dx,H x=none->H dx=none->dx≠x->sp (.ref x::(vs++dvs)) (upd (upd H dx (.own x)) x (.ins C dx [])) (λ v H2=>v=.non/\Q (.ref x) H2) E) :
  wpAny (model X.prog X.w) X.A (call (.ref C) us) (EP X pins σ Q) X.xe s:=by
 have hq:=h (s.heap.objs.size+1) s.heap.objs.size (I.hok.fresh (Nat.le_succ _)) (I.hok.fresh (Nat.le_refl _)) (Nat.ne_of_lt (Nat.lt_succ_self _));have I2:=Inv.made (C:=C) I;have r2:Vals (V.ref (s.heap.objs.size+1)::(vs++dvs)) (Value.ref (s.heap.objs.size+1)::(us++ds)):=.cons rfl (r.append hd);have hl:(Value.ref (s.heap.objs.size+1)::us++ds).length=ps.length:=by have e:=r2.length;rw[F.len _ _ _ _ hq] at e;exact e.symm
 refine wpAny_call (oy (f:=f) I.kIn M.makes M.init (beq_iff_eq.mp M.fn) (codeAny_mono (F.run _ X.stack _ _ ⟨Value.ref (s.heap.objs.size+1)::us,[]⟩ (Value.ref (s.heap.objs.size+1)::(us++ds)) _ _ E (hr.make C us [])
  (I2.xc.make C us []) (hb _ (Value.ref (s.heap.objs.size+1)::us) I2.kIn hl) r2 hq) λ r s' hq'=>?_))
 cases r with
 | error e=>exact hx pins σ _ _ e s' I2 hq'
 | ok fl =>
  cases fl with
  | ret u =>
   obtain⟨v,H',I3,rv,ev,q3⟩:=I2.after hq';subst ev;exact⟨rv,⟨V.ref (s.heap.objs.size+1),H',I3,rfl,q3⟩⟩
  | next=>exact False.elim hq'
  | brk=>exact False.elim hq'
  | cont=>exact False.elim hq'
theorem nR(M:Mk X.K C f)(F:cL X.prog X.w X.K X.mg X.base CX k f fd ps sp)(hr:b9 (k+1) X.A)(hg:Gl X x)(hm:X.mg x=some (.ref C))(hb:Binds X.K fd ps ds)(hd:Vals dvs ds)(hx:Passes CX X E)
  (hdb:ND x:=by decide):PE X (.Call (.Name x p) [] [] pos) (vX C sp dvs E wu):=by
 intro pins s σ H Q I h;refine wpAny_Call_Name_kw (my I hg hm ?_ hdb);exact W.callWith_K0 I.kIn M.kp (oS (us:=[]) M F hr hb hd hx I .nil h)
end
section
variable {X:Cx}{CX:CXT}{k:Nat}{f C:Addr}{fd:FuncData}{ps ks:List Str}{sp:Sp}{E:XK}{x m:Str}{p pos apos kpos:Pos}{e o:Expr}{es:List Expr}{kws:List Keyword}{te ta:TE}{t tk:TA}{nm:Option Str}
variable {g:List Value->List Value->List Value}{gV:List V->List V->List V}
end
structure bp(N P:List Str)(sc:Scope):Prop where
 kind:sc.kind=.function
 co:sc.isCoroutine=false
 gen:sc.isGenerator=false
 nd:N.Nodup
 pre:N.take P.length=P
 par:∀ x∈P,sc.names.lookup x=some .local\/sc.names.lookup x=some .cell
 nofree:∀ y∈sc.names,y.2 ≠ .free
theorem hW{kindOf:Str->Option NameKind}{x:Str}:∀ {binds:List (Str×Value)} {m:Str->Option Value},(∀ v,(x,v) ∉ binds)->bindL kindOf binds m x=m x
 | [],_,_=>rfl
 | (n,v)::r,m,h=>by
  unfold bindL;rw[hW λ w hw=>h w (List.mem_cons_of_mem _ hw)]
  split
  ·have:x≠n:=by rintro rfl;exact h v List.mem_cons_self
   simp[this]
  ·rfl
theorem g6{kindOf:Str->Option NameKind}{x:Str}:∀ {binds:List (Str×Value)} {m:Str->Option Value},(∀ v,(x,v) ∉ binds)->bindC kindOf binds m x=m x
 | [],_,_=>rfl
 | (n,v)::r,m,h=>by
  unfold bindC;rw[g6 λ w hw=>h w (List.mem_cons_of_mem _ hw)]
  split
  ·rfl
  ·have:x≠n:=by rintro rfl;exact h v List.mem_cons_self
   simp[this]
theorem gH{kindOf:Str->Option NameKind}{x:Str}{v:Value}:∀ {P:List Str} {vs:List Value} {i:Nat} {m:Str->Option Value},P.Nodup->P[i]? =some x->vs[i]? =some v->kindOf x=some .local ->
  bindL kindOf (P.zip vs) m x=some v
 | [],_,_,_,_,h,_,_=>by simp at h
 | _::_,[],_,_,_,_,h,_=>by simp at h
 | p::P,w::vs,0,m,nd,h1,h2,hk=>by simp at h1 h2;subst h1;subst h2;show bindL kindOf ((p,w)::P.zip vs) m p=_;unfold bindL;rw[hW λ v hv=>(List.nodup_cons.mp nd).1 (List.of_mem_zip hv).1,if_pos hk];simp
 | p::P,w::vs,i+1,m,nd,h1,h2,hk=>by show bindL kindOf ((p,w)::P.zip vs) m x=_;unfold bindL;exact gH (i:=i) (List.nodup_cons.mp nd).2 (by simpa using h1) (by simpa using h2) hk
theorem gy{kindOf:Str->Option NameKind}{x:Str}{v:Value}:∀ {P:List Str} {vs:List Value} {i:Nat} {m:Str->Option Value},P.Nodup->P[i]? =some x->vs[i]? =some v->kindOf x≠some .local ->
  bindC kindOf (P.zip vs) m x=some v
 | [],_,_,_,_,h,_,_=>by simp at h
 | _::_,[],_,_,_,_,h,_=>by simp at h
 | p::P,w::vs,0,m,nd,h1,h2,hk=>by simp at h1 h2;subst h1;subst h2;show bindC kindOf ((p,w)::P.zip vs) m p=_;unfold bindC;rw[g6 λ v hv=>(List.nodup_cons.mp nd).1 (List.of_mem_zip hv).1,if_neg hk];simp
 | p::P,w::vs,i+1,m,nd,h1,h2,hk=>by show bindC kindOf ((p,w)::P.zip vs) m x=_;unfold bindC;exact gy (i:=i) (List.nodup_cons.mp nd).2 (by simpa using h1) (by simpa using h2) hk
def start(N:List Str)(vs:List V):St:=vs.map some++List.replicate (N.length-vs.length) none
def qt(CX:CXT)(P:Program)(w:World)(K:FG)(mg:Str->Option Value)(base:Heap)(N:List Str)(qual:Str)(scope:Scope)(f:Addr)(cd:Value)(A:Around)(outer:List Env)(s:Shared)(H:Hp)(E:XK):Cx where
 prog:=P
 w:=w
 K:=K
 mg:=mg
 base:=base
 A:=A.deeper (envOfC qual scope s.heap.objs.size f cd)
 N:=N
 s₀:=s
 H₀:=H
 env:=envOfC qual scope s.heap.objs.size f cd
 outer:=outer
 stack:=envOfC qual scope s.heap.objs.size f cd::outer
 ex:=[]
 calm:=true
 fn:=λ _=>true
 pn:=[]
 xe:=λ e s'=>wpAny (model P w) (A.deeper (envOfC qual scope s.heap.objs.size f cd)) (leaving (envOfC qual scope s.heap.objs.size f cd) e) (λ _ s''=>CX outer H s E e s'') (λ e' s''=>CX outer H s E e' s'') s'
theorem jI{sc:Scope}{n:Nat}{x:Str}(h:sc.names.lookup x=some .cell):∃ c,(cellsFrom n sc.names []).lookup x=some c:=by have q:=W.cellsFrom_some sc.names n [] (.inl h);exact Option.isSome_iff_exists.mp q
theorem ng{CX:CXT}{P:Program}{w:World}{K:FG}{mg:Str->Option Value}{base:Heap}{N ps:List Str}{qual:Str}{scope:Scope}{f:Addr}{cd:Value}{A:Around}{outer:List Env}{s s1:Shared}{H:Hp}{E:XK}{us:List Value}{vs:List V}
  (S:bp N ps scope)(hd:A.handled=none)(e0:q9 P w K mg base A outer s H)(hl:vs.length=ps.length)(r:Vals vs us)
  (x:InCallC s s.heap.objs.size (bindL (envOfC qual scope s.heap.objs.size f cd).kindOf (ps.zip us) λ _=>none) (cellsFrom (s.heap.objs.size+1) scope.names []) (bindC (envOfC qual scope s.heap.objs.size f cd).kindOf (ps.zip us) λ _=>none) s1) :
  Inv (qt CX P w K mg base N qual scope f cd A outer s H E) [] (start N vs) H s1:=by
 have hpl:ps.length<=N.length:=by have:=congrArg List.length S.pre;rw[List.length_take] at this;omega
 obtain⟨h1,tk,rfl,hk⟩:=x.done;have noA:∀ b:Addr,b ∉ (qt CX P w K mg base N qual scope f cd A outer s H E).ex:=λ b z=>absurd (show b∈([]:List Addr) from z) (by simp);refine⟨⟨e0.mod,S.kind,rfl,rfl,Nat.le_refl _,λ y z c h1 h2=>?_,λ y hy=>?_,λ y c _ h=>?_,λ _=>hd,Around.frames_deeper e0.frames,.inr ⟨rfl,rfl⟩,λ b z=>absurd z (noA b),e0.bs,e0.bsz,λ b _ _=>noA b,λ b z=>absurd z (noA b),e0.jP,e0.frf⟩,
  rfl,e0.bare,Un.kept hk,⟨_,x.toInCall.ns,λ i y v h1 h2 h3=>?_⟩,λ y c h=>⟨_,x.cell y c h⟩,e0.hok.fresh (Nat.le_refl _),λ y c h=>?_,λ p hp=>absurd (show p∈([]:PN) from hp) (by simp),e0.hok.kept hk,?_⟩
 ·exact name_of_addr x.apart (PySem.mem_of_lookup h1) (PySem.mem_of_lookup h2)
 ·have hy:scope.names.lookup y=some .cell\/scope.names.lookup y=some .free:=hy;rcases hy with hy | hy
  ·exact jI hy
  ·exact absurd rfl (S.nofree _ (PySem.mem_of_lookup hy))
 ·exact Nat.le_of_lt (x.above y c (PySem.mem_of_lookup h))
 ·have hi:i<vs.length:=by
   unfold start at h2
   by_cases hi:i<vs.length
   ·exact hi
   ·rw[List.getElem?_append_right (by simpa using hi)] at h2;rw[List.getElem?_replicate] at h2
    split at h2<;>cases h2
  have ha:vs[i]? =some v:=by
   unfold start at h2;rw[List.getElem?_append_left (by simpa using hi),List.getElem?_map] at h2;cases e:vs[i]? with
   | none=>rw[e] at h2;cases h2
   | some a=>rw[e] at h2;cases h2;rfl
  obtain⟨u,hu,rv⟩:=r.get ha;have hp:ps[i]? =some y:=by rw[<- S.pre,List.getElem?_take_of_lt (by omega)];exact h1
  have ndP:ps.Nodup:=by rw[<- S.pre];exact S.nd.sublist (List.take_sublist _ _)
  refine⟨u,rv,?_⟩;rcases S.par y (List.mem_of_getElem? hp) with k | k
  ·exact .inl ⟨k,gH ndP hp hu k⟩
  ·obtain⟨c,e⟩:=jI (n:=s.heap.objs.size+1) k;refine .inr ⟨.inl k,c,e,?_⟩;have q:=x.cell y c e;rw[gy ndP hp hu (by show scope.names.lookup y≠_;rw[k];decide)] at q;exact q
 ·exact e0.hok.fresh (Nat.le_of_lt (x.above y c (PySem.mem_of_lookup h)))
 ·unfold start;show _=N.length;rw[List.length_append,List.length_map,List.length_replicate];omega
theorem wU{CX:CXT}{P:Program}{w:World}{K:FG}{mg:Str->Option Value}{base:Heap}{k:Nat}{f:Addr}{name qual:Str}{params:Arguments}{body:List Stmt}{scope:Scope}{dV kV doc pm cdv ct oc:Value}{an od:Option Addr}
  {osl:Array (Option Value)}{N ps:List Str}{sp:Sp}(lk:K.lookup f=some ⟨oc,od,.func (W.fnOf name qual params body scope dV kV doc pm an cdv ct),osl⟩)(hcd:W.codeIn K cdv qual=true)(S:bp N ps scope)
  (len:∀ vs H Q E,sp vs H Q E->vs.length=ps.length)
  (hbody:∀ (A:Around) (outer:List Env) (s:Shared) (H:Hp) (vs:List V) (Q:VK) (E:XK),b9 k (A.deeper (envOfC qual scope s.heap.objs.size f cdv))->sp vs H Q E ->
   ∃ t,PSs (qt CX P w K mg base N qual scope f cdv A outer s H E) body t/\t {nx:=λ _ H'=>Q .non H',rt:=Q} (start N vs) H) :
  cL P w K mg base CX (k+1) f (W.fnOf name qual params body scope dV kV doc pm an cdv ct) ps sp:=by
 refine⟨len,λ A outer s H args us vs Q E hr e0 hb r hsp=>?_⟩;have hl:=len _ _ _ _ hsp;have KX:K.In s.heap:=e0.mod.kin.keeps λ b o e=>(e0.bs b o e).1;have lim:s.heap.NoLimit:=e0.mod.nolimit.keeps λ b o e=>(e0.bs b o e).1;have hkind:∀ y∈ps.zip us,scope.names.lookup y.1=some .local\/(scope.names.lookup y.1=some .cell/\((cellsFrom (s.heap.objs.size+1) scope.names []).lookup y.1).isSome=true):=λ⟨n,v⟩ hy=>by
  rcases S.par n (List.of_mem_zip hy).1 with q | q
  ·exact .inl q
  ·exact .inr ⟨q,W.cellsFrom_some _ _ _ (.inl q)⟩
 refine codeAny_call_function hr.depth (KX _ _ lk) rfl S.co S.gen rfl (W.codeRec_of KX hcd) (hb _ _ _ _ ?_);refine wpAny_newFunctionEnv_cells S.kind hkind λ env he s1 x=>?_;subst he;refine⟨lim.keeps x.toInCall.keep,codeAny_func ?_⟩;obtain⟨t,ht,hq⟩:=hbody A outer s H vs Q E (hr.deeper _) hsp;have I:Inv (qt CX P w K mg base N qual scope f cdv A outer s H E) [] (start N vs) H s1:=ng S hr.hd e0 hl r x;refine wpAny_mono (ht [] s1 (start N vs) H _ I hq) (λ fl s' hs=>?_) λ e s' hs=>hs;have fin:∀ {σ':St} {H':Hp} {v:V} {u:Value},Inv (qt CX P w K mg base N qual scope f cdv A outer s H E) [] σ' H' s'->RelV v u->Q v H'->CE outer P w H s Q u s':=
  λ {σ' H' v u} J rv q=>⟨v,H',J.os,J.bare,J.base,J.hok,rv,q⟩
 cases fl with
 | ret u =>
  obtain⟨v,σ',H',J,rv,q⟩:=hs;exact fin J rv q
 | next =>
  obtain⟨σ',H',J,q⟩:=hs;exact fin (v:=V.non) (u:=Value.none) J rfl q
 | brk =>
  obtain⟨_,_,_,q⟩:=hs;exact False.elim q
 | cont =>
  obtain⟨_,_,_,q⟩:=hs;exact False.elim q
section
variable {X:Cx}{x:Str}{p pos:Pos}{e:Expr}{es:List Expr}{t:TA}{id T:String}{r:List V->Hp->VK->Prop}
def tCB(r:List V->Hp->VK->Prop)(t:TA):TE:=λ σ H Q=>t σ H λ vs H1=>r vs H1 Q
theorem oO(hc:cJ X (.builtin id) r)(hg:Gl X x)(hm:X.mg x=none)(hv:bootBuiltins x=some (.builtin id))(ha:PA X (e::es) t)(hn:x ≠ "__name__":= by decide)(hdb:ND x:=by decide)
  (he:starEach (e::es) X.env=(false,eval e X.env)::starEach es X.env:=by rfl)(hpl:(backTo pos (starEach es X.env)).any (·.1)=false:=by rfl):PE X (.Call (.Name x p) (e::es) [] pos) (tCB r t):=by
 intro pins s σ H Q I h;refine wpAny_Call_Name_kw (gZ I hg hm hv ?_ hn hdb);exact PyProof.Rows.callWith_builtin1 (thn (ha pos pins s σ H _ I h) λ us s1 ⟨vs,H1,I1,r1,q1⟩=>hc pins s1 σ H1 vs us Q I1 r1 q1) he hpl
theorem mD(hc:cJ X (.type T) r)(hg:Gl X x)(hm:X.mg x=none)(hv:bootBuiltins x=some (.type T))(ha:PA X (e::es) t)(hn:x ≠ "__name__":= by decide)(hdb:ND x:=by decide)
  (he:starEach (e::es) X.env=(false,eval e X.env)::starEach es X.env:=by rfl)(hpl:(backTo pos (starEach es X.env)).any (·.1)=false:=by rfl):PE X (.Call (.Name x p) (e::es) [] pos) (tCB r t):=by
 intro pins s σ H Q I h;refine wpAny_Call_Name_kw (gZ I hg hm hv ?_ hn hdb);exact PyProof.Rows.callWith_type1 (thn (ha pos pins s σ H _ I h) λ us s1 ⟨vs,H1,I1,r1,q1⟩=>hc pins s1 σ H1 vs us Q I1 r1 q1) he hpl
end
end L2
namespace HT
open PySem PyProof.Rows
section
open PySem.SeqAt
open PySem.AutoSeq1 (wpAny_loadPart')
open PySem.MeetsSeq PySem.MeetsSeq2 PySem.MeetsSeq3
end
section
variable {prog:Program}{w:World}{A:Around}{E:VP}{s:Shared}
def sIx(n d:Nat):Option Int->Nat
 | none=>d
 | some v=>if v<0 then (v+(n:Int)).toNat else min v.toNat n
theorem tQ(n d:Nat)(hd:d<=n)(o:Option Int):sIx n d o<=n:=by
 cases o with
 | none=>exact hd
 | some v =>
  show(if v<0 then (v+(n:Int)).toNat else min v.toNat n)<=n
  by_cases hv:v<0
  ·rw[if_pos hv];omega
  ·rw[if_neg hv];exact Nat.min_le_right _ _
theorem m9(v:Int)(n d:Nat):(if v<0 then max (v+(n:Int)) 0 else min v (n:Int))=((sIx n d (some v):Nat):Int):=by
 show(if v<0 then max (v+(n:Int)) 0 else min v (n:Int))=(((if v<0 then (v+(n:Int)).toNat else min v.toNat n):Nat):Int)
 by_cases hv:v<0
 ·simp only[if_pos hv];omega
 ·simp only[if_neg hv];omega
theorem jO(lo hi:Option Int)(n:Nat):Builtin.Slice.sliceAdjust lo hi 1 (n:Int)=(((sIx n 0 lo:Nat):Int),((sIx n n hi:Nat):Int)):=by
 have h1:¬ ((1:Int)<0):=by omega
 unfold Builtin.Slice.sliceAdjust;simp only[h1,if_false];refine Prod.ext ?_ ?_
 ·cases lo with
  | none=>rfl
  | some v=>exact m9 v n 0
 ·cases hi with
  | none=>rfl
  | some v=>exact m9 v n n
theorem kC(i j:Nat):Builtin.Slice.slicePlaces (i:Int) (j:Int) 1=j-i:=by
 unfold Builtin.Slice.slicePlaces;have h1:(1:Int) > 0:=by omega
 simp only[h1,if_true,Int.ediv_one]
 split<;>omega
theorem fi{v:Value}{o:Option Int}{Q:Option Int->Shared->Prop}(p:IsPart v o)(h:Q o s):wpAny (model prog w) A (Builtin.Slice.slicePartIndex v) Q E s:=by
 cases p with
 | none=>exact slicePart_none h
 | int i t=>exact slicePart_int h
theorem dG{sl:Addr}{vl vu:Value}{lo hi:Option Int}{n:Nat}{Q:Int×Int×Nat->Shared->Prop}(hs:s.heap.IsSliceOf sl vl vu .none)(pl:IsPart vl lo)(pu:IsPart vu hi)
  (h:Q (((sIx n 0 lo:Nat):Int),1,sIx n n hi-sIx n 0 lo) s):wpAny (model prog w) A (Builtin.Slice.sliceApplied (.ref sl) (pure (n:Int))) Q E s:=by
 obtain⟨os,hos,hcs,hds⟩:=id hs;unfold Builtin.Slice.sliceApplied Builtin.Slice.sliceFields;refine wpAny_bind (wpAny_bind (wpAny_field hos hds (x:=vl) rfl (wpAny_bind (wpAny_field hos hds (x:=vu) rfl (wpAny_bind (wpAny_field hos hds (x:=.none) rfl (wpAny_pure ?_)))))));refine wpAny_bind (slicePart_none ?_);show wpAny _ _ (if ((1:Int)==0)=true then _ else _) _ _ s;rw[if_neg (by decide)];refine wpAny_bind (fi pl (wpAny_bind (fi pu (wpAny_bind (wpAny_pure ?_)))));show wpAny _ _ (match Builtin.Slice.sliceAdjust lo hi 1 (n:Int) with | (lo,hi)=>pure (lo,(1:Int),Builtin.Slice.slicePlaces lo hi 1)) _ _ s
 rw[jO lo hi n];show wpAny _ _ (pure (((sIx n 0 lo:Nat):Int),(1:Int),Builtin.Slice.slicePlaces ((sIx n 0 lo:Nat):Int) ((sIx n n hi:Nat):Int) 1)) _ _ s;rw[kC];exact wpAny_pure h
theorem oo(xs:Array Value)(i k:Nat):((List.range k).filterMap λ(m:Nat)=>xs[((i:Int)+(m:Int) * 1).toNat]?).toArray=((xs.toList.drop i).take k).toArray:=by
 have e:(λ(m:Nat)=>xs[((i:Int)+(m:Int) * 1).toNat]?)=λ m=>xs[i+m]?:=by
  funext m;have:((i:Int)+(m:Int) * 1).toNat=i+m:=by omega
  rw[this]
 rw[e];have:=pick_run xs i k;rw[List.filterMap_map] at this;have e2:((λ x=>xs[x]?) ∘ λ x=>i+x)=λ m=>xs[i+m]?:=rfl;rw[e2] at this;rw[this]
theorem dt{t sl:Addr}{items:Array Value}{vl vu:Value}{lo hi:Option Int}{Q:VP}(ht:IsTup s.heap t items)(hs:s.heap.IsSliceOf sl vl vu .none)(pl:IsPart vl lo)(pu:IsPart vu hi)
  (hw:¬ (sIx items.size 0 lo=0/\sIx items.size items.size hi=items.size))
  (h:Q (.ref s.heap.objs.size) {s with heap:=s.heap.push {cls:=.type "tuple",data:=.seq ((items.toList.drop (sIx items.size 0 lo)).take (sIx items.size items.size hi-sIx items.size 0 lo)).toArray}})
  (hsz:items.size<=sizeLine):wpAny (model prog w) A (getItem (.ref t) (.ref sl)) Q E s:=by
 have htake:sizeOk (.seq ((items.toList.drop (sIx items.size 0 lo)).take (sIx items.size items.size hi-sIx items.size 0 lo)).toArray):=by show((items.toList.drop (sIx items.size 0 lo)).take (sIx items.size items.size hi-sIx items.size 0 lo)).toArray.size<=sizeLine;rw[List.size_toArray,List.length_take,List.length_drop,Array.length_toList];omega
 have hj:sIx items.size items.size hi<=items.size:=tQ _ _ (Nat.le_refl _) hi;obtain⟨os,hos,hcs,hds⟩:=id hs;have hTs:s.TypeIs (.ref sl) "slice":= ⟨os,hos,hcs⟩;unfold getItem
 try with_reducible refine wpAny_holding ?_
 first | refine wpAny_bind (wpAny_pure ?_) | skip
 refine wpAny_bind (wpAny_sequenceKey ht.typeIs (by decide) ?_);refine wpAny_bind (wpAny_callSpecial?_slot (name:=Str.ofString "__getitem__") ht.typeIs PyProof.Rows.slot_tuple_getitem
  (wpAny_call_entry PyProof.Rows.slot_tuple_getitem ht.typeIs entry_tuple_getitem ?_ (args_tuple_getitem _ _)))
 show wpAny _ _ (Builtin.Tuple.tupleItemsOf (.ref t) >>= _) _ _ s;refine wpAny_bind (tupleItemsOf_ ht ?_);refine wpAny_bind (wpAny_typeOf hTs ?_);rw[if_pos (by decide)];refine wpAny_bind (dG hs pl pu ?_);have hno:¬ ((((sIx items.size 0 lo:Nat):Int)==0&&(1:Int)==1&&(sIx items.size items.size hi-sIx items.size 0 lo)==items.size)=true):=by intro q;rw[Bool.and_eq_true,Bool.and_eq_true] at q;have q1:((sIx items.size 0 lo:Nat):Int)=0:=eq_of_beq q.1.1;have q2:sIx items.size items.size hi-sIx items.size 0 lo=items.size:=eq_of_beq q.2;exact hw ⟨by omega,by omega⟩
 show wpAny _ _ (if (((sIx items.size 0 lo:Nat):Int)==0&&(1:Int)==1&&(sIx items.size items.size hi-sIx items.size 0 lo)==items.size)=true then _ else _) _ _ s;rw[if_neg hno,oo]
 first
  | exact wpAny_bind (m:=Builtin.Tuple.tupleExact _) (wpAny_newObj_type (wpAny_pure ⟨_,rfl,wpAny_pure h⟩) htake)
  | exact wpAny_bind (m:=Builtin.Tuple.tupleExact _) (wpAny_newObj_type (wpAny_bind (wpAny_pure (wpAny_pure ⟨_,rfl,wpAny_pure h⟩))) htake)
  | exact wpAny_bind (wpAny_bind (m:=Builtin.Tuple.tupleExact _) (wpAny_newObj_type (wpAny_pure (wpAny_pure ⟨_,rfl,wpAny_pure h⟩)) htake))
  | exact wpAny_bind (wpAny_bind (m:=Builtin.Tuple.tupleExact _) (wpAny_newObj_type (wpAny_pure ⟨_,rfl,wpAny_pure h⟩) htake))
end
end HT
namespace L2
abbrev TO:=St->Hp->(Option Int->Hp->Prop)->Prop
def PO(X:Cx)(e:Option Expr)(t:TO):Prop:=
 ∀ (pins:PN) (s:Shared) (σ:St) (H:Hp) (Q:Option Int->Hp->Prop),Inv X pins σ H s->t σ H Q ->
  wpAny (model X.prog X.w) X.A (evalPart e X.env) (λ u s'=>∃ o H',Inv X pins σ H' s'/\IsPart u o/\Q o H') X.xe s
def rg:TO:=λ _ H Q=>Q none H
def vZ(t:TE):TO:=λ σ H Q=>t σ H λ x H1=>∃ i,x=.int i/\Q (some i) H1
theorem intsAre_of{ns:List Int}:∀ {us:List Value},Vals (ns.map V.int) us->IntsAre us ns:=by
 induction ns with
 | nil=>intro us r;rw[List.map_nil] at r;cases r;exact .nil
 | cons n ns ih =>
  intro us r;rw[List.map_cons] at r;cases r with
  | cons r1 r2 =>
   obtain⟨t,e⟩:=r1;subst e;exact .cons n t (ih r2)
section
variable {X:Cx}{e:Expr}{te:TE}{lo hi:Option Expr}{tl th:TO}{pos p2:Pos}
theorem qe:PO X none rg:=by intro pins s σ H Q I h;rw[evalPart_none];exact wpAny_pure ⟨none,H,I,.none,h⟩
theorem qL(h:PE X e te):PO X (some e) (vZ te):=by intro pins s σ H Q I hw;rw[evalPart_some];refine thn (h pins s σ H _ I hw) λ u s1 hq19=>?_;obtain⟨x,H1,I1,r1,q1⟩:=hq19;obtain⟨i,rfl,q⟩:=q1;obtain⟨t,rfl⟩:=r1;exact⟨some i,H1,I1,.int i t,q⟩
def SlR(X:Cx)(r:V->Option Int->Option Int->Hp->VK->Prop):Prop:=
 ∀ (pins:PN) (s:Shared) (σ:St) (H:Hp) (x:V) (v vl vu:Value) (lo hi:Option Int) (sl:Addr) (Q:VK),Inv X pins σ H s->RelV x v->s.heap.IsSliceOf sl vl vu .none->IsPart vl lo->IsPart vu hi->r x lo hi H Q ->
  ∃ T id,typeLookup (.type T) "__getitem__" = pure (some (.builtin id))/\s.TypeIs v T/\wpAny (model X.prog X.w) X.A (getItem v (.ref sl)) (EP X pins σ Q) X.xe s
theorem SlR.or{r r':V->Option Int->Option Int->Hp->VK->Prop}(h:SlR X r)(h':SlR X r'):SlR X (λ x lo hi H Q=>r x lo hi H Q\/r' x lo hi H Q):=by
 intro pins s σ H x v vl vu lo hi sl Q I rx hs pl pu q;rcases q with q | q
 ·exact h pins s σ H x v vl vu lo hi sl Q I rx hs pl pu q
 ·exact h' pins s σ H x v vl vu lo hi sl Q I rx hs pl pu q
def tSl(r:V->Option Int->Option Int->Hp->VK->Prop)(te:TE)(tl th:TO):TE:=λ σ H Q=>te σ H λ x H1=>tl σ H1 λ l H2=>th σ H2 λ u H3=>r x l u H3 Q
theorem nP{r:V->Option Int->Option Int->Hp->VK->Prop}(hr:SlR X r)(he:PE X e te)(hl:PO X lo tl)(hu:PO X hi th):PE X (.Subscript e (.Slice lo hi none p2) pos) (tSl r te tl th):=by intro pins s σ H Q I h;refine Subscript_ (thn (he pins s σ H _ I h) λ v s1 hq20=>?_);obtain⟨x,H1,I1,r1,q1⟩:=hq20;refine wpAny_Slice (thn (hl pins s1 σ H1 _ I1 q1) λ vl s2 ⟨l,H2,I2,pl,q2⟩=>thn (hu pins s2 σ H2 _ I2 q2) λ vu s3 hq21=>?_);obtain⟨u,H3,I3,pu,q3⟩:=hq21;rw[evalPart_none];refine wpAny_pure ?_;have I4:Inv X pins σ H3 {s3 with heap:=s3.heap.push {cls:=.type "slice",data:=.fields #[vl,vu,.none]}}:=I3.kept (t':=s3.toks) λ b ob q=>Heap.get?_push_of_some _ q;obtain⟨T,id,hT,ht,hg⟩:=hr pins {s3 with heap:=s3.heap.push {cls:=.type "slice",data:=.fields #[vl,vu,.none]}} σ H3 x v vl vu l u s3.heap.objs.size Q I4 r1 (Heap.IsSliceOf.new ..) pl pu q3;show wpAny (model X.prog X.w) X.A (subscriptTail e (.Slice lo hi none p2) v (.ref s3.heap.objs.size)) (EP X pins σ Q) X.xe {s3 with heap:=s3.heap.push {cls:=.type "slice",data:=.fields #[vl,vu,.none]}};exact tail_any (ops:=[.ref s3.heap.objs.size,v]) ht hT hg (by with_unfolding_all rfl)
def qb(xs:List V)(lo hi:Option Int):List V:=(xs.drop (HT.sIx xs.length 0 lo)).take (HT.sIx xs.length xs.length hi-HT.sIx xs.length 0 lo)
theorem eN(xs:List V)(lo hi:Option Int):(qb xs lo hi).length<=xs.length:=by
 unfold qb;rw[List.length_take,List.length_drop];omega
def xl(K:FG):V->Option Int->Option Int->Hp->VK->Prop:=λ x lo hi H Q=>∃ a xs,x=.ref a/\SqT K H a xs /\
 ¬ (HT.sIx xs.length 0 lo=0/\HT.sIx xs.length xs.length hi=xs.length)/\∀ p,H p=none->Q (.ref p) (upd H p (.tup (qb xs lo hi)))
theorem uc:SlR X (xl X.K):=by
 intro pins s σ H x v vl vu lo hi sl Q I rx hs pl pu h;obtain⟨a,xs,rfl,hx,hw,q⟩:=h;cases rx;obtain⟨its,r,ht,hz⟩:=I.tuple hx;have hlen:its.toArray.size=xs.length:=by rw[List.size_toArray];exact r.length.symm
 refine⟨"tuple",_,PyProof.Rows.slot_tuple_getitem.lookup,ht.typeIs,?_⟩;refine HT.dt ht hs pl pu (by rw[hlen];exact hw) ?_ (by rw[hlen];exact hz);rw[hlen];refine⟨.ref s.heap.objs.size,_,I.laid (t':=s.toks) (o:=.tup (qb xs lo hi)) (λ b ob q=>Heap.get?_push_of_some _ q) (Nat.le_refl _) ?_,rfl,q _ (I.hok.fresh (Nat.le_refl _))⟩;exact⟨Nat.le_trans (eN xs lo hi) hz,_,(r.drop (HT.sIx xs.length 0 lo)).take (HT.sIx xs.length xs.length hi-HT.sIx xs.length 0 lo),pU.new _ _⟩
end
def ixN(n:Nat)(i:Int):Option Nat:=if 0<=i then (if i<n then some i.toNat else none) else if -(n:Int)<=i then some (i+n).toNat else none
def atI{α:Type}(xs:List α)(i:Int):Option α:=(ixN xs.length i).bind λ j=>xs[j]?
theorem lJ{n:Nat}{i:Int}{j:Nat}(h:ixN n i=some j):seqIndex? i n=some j/\j<n/\-(n:Int)<=i/\i<n:=by
 unfold ixN at h
 by_cases h0:0<=i
 ·rw[if_pos h0] at h
  by_cases h1:i<n
  ·rw[if_pos h1] at h;have e:i.toNat=j:=Option.some.inj h;exact⟨by rw[seqIndex_of h0 h1,e],by omega,by omega,h1⟩
  ·rw[if_neg h1] at h;cases h
 ·rw[if_neg h0] at h
  by_cases h1:-(n:Int)<=i
  ·rw[if_pos h1] at h;have e:(i+n).toNat=j:=Option.some.inj h;exact⟨by rw[seqIndex_neg (by omega) h1,e],by omega,h1,by omega⟩
  ·rw[if_neg h1] at h;cases h
theorem gg{α:Type}{xs:List α}{i:Int}{v:α}(h:atI xs i=some v):∃ j,seqIndex? i xs.length=some j/\xs[j]? =some v/\j<xs.length/\-(xs.length:Int)<=i/\i<xs.length:=by
 unfold atI at h;cases e:ixN xs.length i with
 | none=>rw[e] at h;cases h
 | some j =>
  rw[e] at h;obtain⟨h1,h2,h3,h4⟩:=lJ e;exact⟨j,h1,h,h2,h3,h4⟩
def iI(b:Expr):Prop:=∀ o i,subscripted b false o i=operate [o,i] (getItem o i)
def IxR(X:Cx)(r:R2):Prop:=
 ∀ (value slice:Expr) (pins:PN) (s:Shared) (σ:St) (H:Hp) (x y:V) (v u:Value) (Q:VK),Inv X pins σ H s->RelV x v->RelV y u->r x y H Q ->
  subscripted slice false v u=operate [v,u] (getItem v u)->wpAny (model X.prog X.w) X.A (subscriptTail value slice v u) (EP X pins σ Q) X.xe s
def MtR(X:Cx)(id:String)(r:V->List V->Hp->VK->Prop):Prop:=
 ∀ (pins:PN) (s:Shared) (σ:St) (H:Hp) (x:V) (xs:List V) (v:Value) (us:List Value) (Q:VK),Inv X pins σ H s->RelV x v->Vals xs us->r x xs H Q ->
  wpAny (model X.prog X.w) X.A (call (.builtin id) (v::us)) (EP X pins σ Q) X.xe s
section
variable {X:Cx}{a b:Expr}{ta tb:TE}{pos:Pos}
theorem IxR.or{r r':R2}(h:IxR X r)(h':IxR X r'):IxR X (λ x y H Q=>r x y H Q\/r' x y H Q):=by
 intro value slice pins s σ H x y v u Q I rx ry q hs;rcases q with q | q
 ·exact h value slice pins s σ H x y v u Q I rx ry q hs
 ·exact h' value slice pins s σ H x y v u Q I rx ry q hs
theorem wB{r:R2}(hr:IxR X r)(ha:PE X a ta)(hb:PE X b tb)(hs:iI b):PE X (.Subscript a b pos) (tOp r ta tb):=by intro pins s σ H Q I h;exact Subscript_ (vv ha hb I h λ v u s2 x y H2 I2 rx ry q=>hr a b pins s2 σ H2 x y v u Q I2 rx ry q (hs _ _))
def wd(K:FG):R2:=λ x y H Q=>∃ p xs i v,x=.ref p/\y=.int i/\SqL K H p xs/\atI xs i=some v/\Q v H
def xu(K:FG):R2:=λ x y H Q=>∃ p xs i v,x=.ref p/\y=.int i/\SqT K H p xs/\atI xs i=some v/\Q v H
def wW:R2:=λ x y H Q=>∃ z i c,x=.str z/\y=.int i/\z.length<=sizeLine/\atI z.cps.toList i=some c/\Q (.str ⟨#[c]⟩) H
theorem rY:IxR X (wd X.K):=by
 intro value slice pins s σ H x y v u Q I rx ry h hs;obtain⟨p,xs,i,z,rfl,rfl,hq,he,q⟩:=h;cases rx;obtain⟨t,rfl⟩:=ry;obtain⟨its,r,pl,hz⟩:=I.list hq;obtain⟨j,h1,h2,h3,h4,h5⟩:=gg he;obtain⟨w,ew,rw'⟩:=r.get h2;have hl:=r.length;have hn:=eJ;have fin:EP X pins σ Q w s:=⟨z,H,I,rw',q⟩
 by_cases h0:0<=i
 ·have hj:i.toNat=j:=by rw[seqIndex_of h0 h5] at h1;exact Option.some.inj h1
  exact item_listR pl.isList h0 (by omega) (by rw[hj];simpa using ew) fin hs
 ·have hj:(i+(its.toArray.size:Int)).toNat=j:=by rw[seqIndex_neg (by omega) h4] at h1;rw[List.size_toArray,<- hl];exact Option.some.inj h1
  exact subscriptTail_builtinR (x:=w) pl.isList.typeIs slot_list_getitem.lookup
   (wpAny_getItem_list_neg (Q:=λ r s'=>r=w/\EP X pins σ Q r s') pl.isList (by omega) (by rw[List.size_toArray]<;>omega) (by omega) (by rw[hj];simpa using ew) ⟨rfl,fin⟩) hs
theorem tG:IxR X (xu X.K):=by
 intro value slice pins s σ H x y v u Q I rx ry h hs;obtain⟨p,xs,i,z,rfl,rfl,hq,he,q⟩:=h;cases rx;obtain⟨t,rfl⟩:=ry;obtain⟨its,r,pl,hz⟩:=I.tuple hq;obtain⟨j,h1,h2,h3,h4,h5⟩:=gg he;obtain⟨w,ew,rw'⟩:=r.get h2;have hl:=r.length;have hn:=eJ;have fin:EP X pins σ Q w s:=⟨z,H,I,rw',q⟩;exact subscriptTail_builtinR (x:=w) pl.typeIs slot_tuple_getitem.lookup
  (getItem_tuple (j:=j) (Q:=λ r s'=>r=w/\EP X pins σ Q r s') pl (by omega) (by omega) (by rw[List.size_toArray,<- hl];exact h1) (by simpa using ew) ⟨rfl,fin⟩) hs
theorem t5:IxR X wW:=by
 intro value slice pins s σ H x y v u Q I rx ry h hs;obtain⟨z,i,c,rfl,rfl,hz,he,q⟩:=h;obtain⟨t,rfl⟩:=rx;obtain⟨t',rfl⟩:=ry;obtain⟨j,h1,h2,h3,h4,h5⟩:=gg he;have hl:z.cps.toList.length=z.length:=by simp[Str.length]
 rw[hl] at h1 h4 h5;have hn:=eJ;exact tail_any (typeIs_str s z t) slot_str_getitem.lookup (getItem_str (c:=c) (by have e1:decide (i < -(2 ^ 63:Int))=false:=decide_eq_false (by omega);have e2:decide (i >= 2 ^ 63)=false:=decide_eq_false (by omega);rw[e1,e2,Bool.or_false]) (by rw[h1];simpa using h2) ⟨.str ⟨#[c]⟩,H,I.tok _,⟨_,rfl⟩,q⟩) hs
def rIx(K:FG):R2:=λ x y H Q=>wd K x y H Q\/xu K x y H Q\/wW x y H Q
theorem aR:IxR X (rIx X.K):=rY.or (tG.or t5)
theorem ky(its:List Value)(n j:Nat)(u:Value):Obj.mapSeq (·.setIfInBounds j u) {cls:=.type "list",data:=.seq its.toArray n}={cls:=.type "list",data:=.seq (its.set j u).toArray n}:=by simp[Obj.mapSeq]
theorem Inv.lst{pins:PN}{σ:St}{H:Hp}{s:Shared}{p:Addr}{xs:List V}(I:Inv X pins σ H s)(h:H p=some (.lst xs)) :
  ∃ (its:List Value) (n:Nat),Vals xs its/\s.heap.get? p=some {cls:=.type "list",data:=.seq its.toArray n}/\xs.length<=sizeLine:=by
 obtain⟨z,its,n,r,e⟩:=I.hok p _ h;exact⟨its,n,r,e,z⟩
theorem Inv.uO{pins:PN}{σ:St}{H:Hp}{s:Shared}{p:Addr}{xs ys:List V}{its its':List Value}{n n':Nat}{f:Obj->Obj}(I:Inv X pins σ H s)(h:H p=some (.lst xs))
  (ho:s.heap.get? p=some {cls:=.type "list",data:=.seq its.toArray n})(hf:f {cls:=.type "list",data:=.seq its.toArray n}={cls:=.type "list",data:=.seq its'.toArray n'})(r:Vals ys its')(hz:ys.length<=sizeLine)(t:Nat) :
  Inv X pins σ (upd H p (.lst ys)) {s with heap:=s.heap.update p f,toks:=t}:=by
 have e:(s.heap.update p f).get? p=some {cls:=.type "list",data:=.seq its'.toArray n'}:=by rw[Heap.get?_update_self f ho (by rw[hf]<;>rfl),hf]
 refine I.write (x:=p) (e:=p) (by rw[h];trivial) (.inl rfl) (λ b u hb q=>(Heap.get?_update_other _ _ (Ne.symm hb)).trans q) ⟨_,e⟩ ?_;exact⟨hz,its',n',r,e⟩
def vA:V->V->V->Hp->(Hp->Prop)->Prop:=λ o i v H Q=>∃ p xs k j,o=.ref p/\i=.int k/\H p=some (.lst xs)/\ixN xs.length k=some j/\Q (upd H p (.lst (xs.set j v)))
theorem set_list:vM X vA:=by
 intro pins s σ H o i v ov iv u Q I ro ri rv h;obtain⟨p,xs,k,j,rfl,rfl,hp,hj,q⟩:=h;cases ro;obtain⟨t,rfl⟩:=ri;obtain⟨its,n,r,ho,hz⟩:=I.lst hp;obtain⟨h1,h2,h3,h4⟩:=lJ hj;have hl:=r.length;have hn:=eJ;have I':Inv X pins σ (upd H p (.lst (xs.set j v))) {s with heap:=s.heap.update p (Obj.mapSeq (·.setIfInBounds j u))}:=
  I.uO hp ho (ky its n j u) (r.set rv j) (by rw[List.length_set];exact hz) s.toks
 by_cases h0:0<=k
 ·have hk:k.toNat=j:=by rw[seqIndex_of h0 h4] at h1;exact Option.some.inj h1
  exact W.ki_setAt ho h0 (by omega) (by rw[List.size_toArray,<- hl];exact h4) (by rw[hk];exact⟨_,I',q⟩)
 ·have hk:(k+(its.toArray.size:Int)).toNat=j:=by rw[seqIndex_neg (by omega) h3] at h1;rw[List.size_toArray,<- hl];exact Option.some.inj h1
  exact W.ki_setBack ho (by omega) (by rw[List.size_toArray,<- hl];exact h3) (by omega) (by rw[hk];exact⟨_,I',q⟩)
theorem iu(lo hi:Option Int)(n:Nat):(sliceBounds lo hi none n).1=((HT.sIx n 0 lo:Nat):Int)/\(sliceBounds lo hi none n).2.1=((HT.sIx n n hi:Nat):Int)/\(sliceBounds lo hi none n).2.2=1:=by
 refine⟨?_,?_,rfl⟩
 ·cases lo with
  | none=>simp[sliceBounds,HT.sIx]
  | some i =>
   simp only[sliceBounds,HT.sIx,Option.getD_none,show(1:Int) > 0 by decide,if_true]
   by_cases h:i<0
   ·simp only[h,if_true]<;>omega
   ·simp only[h,if_false]<;>omega
 ·cases hi with
  | none=>simp[sliceBounds,HT.sIx]
  | some i =>
   simp only[sliceBounds,HT.sIx,Option.getD_none,show(1:Int) > 0 by decide,if_true]
   by_cases h:i<0
   ·simp only[h,if_true]<;>omega
   ·simp only[h,if_false]<;>omega
theorem fW(its:List Value)(lo hi:Option Int):slicePick its.toArray lo hi none=((its.drop (HT.sIx its.length 0 lo)).take (HT.sIx its.length its.length hi-HT.sIx its.length 0 lo)).toArray:=by obtain⟨h1,h2,h3⟩:=iu lo hi its.toArray.size;unfold slicePick;rw[h1,h2,h3];simp only[sliceRange_one,pick_run,List.size_toArray]<;>rfl
def xf(K:FG):V->Option Int->Option Int->Hp->VK->Prop:=λ x lo hi H Q=>∃ a xs,x=.ref a/\SqL K H a xs/\∀ p,H p=none->Q (.ref p) (upd H p (.lst (qb xs lo hi)))
theorem qA:SlR X (xf X.K):=by intro pins s σ H x v vl vu lo hi sl Q I rx hs pl pu h;obtain⟨a,xs,rfl,hx,q⟩:=h;cases rx;obtain⟨its,r,ht,hz⟩:=I.list hx;have hlen:=r.length;refine⟨"list",_,slot_list_getitem.lookup,ht.isList.typeIs,?_⟩;refine wpAny_getItem_list_slice ht.isList hs pl pu .none (by simp) ?_ (by rw[List.size_toArray]<;>omega);rw[fW,<- hlen];refine⟨.ref s.heap.objs.size,_,I.laid (t':=s.toks) (o:=.lst (qb xs lo hi)) (λ b ob q=>Heap.get?_push_of_some _ q) (Nat.le_refl _) ?_,rfl,q _ (I.hok.fresh (Nat.le_refl _))⟩;exact⟨Nat.le_trans (eN xs lo hi) hz,_,0,(r.drop (HT.sIx xs.length 0 lo)).take (HT.sIx xs.length xs.length hi-HT.sIx xs.length 0 lo),Heap.get?_push_size _ rfl⟩
def ff:V->Bool
 | .non=>true
 | .bl _=>true
 | .int _=>true
 | .str _=>true
 | _=>false
def eqV:V->V->Bool
 | .non,.non=>true
 | .bl a,.bl b=>a==b
 | .bl a,.int b=>(if a then 1 else 0)==b
 | .int a,.bl b=>a==(if b then 1 else 0)
 | .int a,.int b=>a==b
 | .str a,.str b=>a==b
 | _,_=>false
theorem uC{A:Around}{s:Shared}{y x:V}{u v:Value}(ry:RelV y u)(rx:RelV x v)(fy:ff y=true)(fx:ff x=true):SeqAt.EqAt A s u v (eqV y x):=by
 cases y with
 | non =>
  cases ry;cases x with
  | non=>cases rx;exact SeqAt.EqAt.same _
  | bl b=>cases rx;exact SeqAt.EqAt.none_bool b
  | int b=>obtain⟨t,rfl⟩:=rx;exact SeqAt.EqAt.none_int b t
  | str b=>obtain⟨t,rfl⟩:=rx;exact SeqAt.EqAt.none_str b t
  | _=>exact absurd (show false=true from fx) Bool.false_ne_true
 | bl a =>
  cases ry;cases x with
  | non=>cases rx;exact SeqAt.EqAt.bool_none a
  | bl b=>cases rx;exact SeqAt.EqAt.bool_bool a b
  | int b=>obtain⟨t,rfl⟩:=rx;exact SeqAt.EqAt.bool_int a b t
  | str b=>obtain⟨t,rfl⟩:=rx;exact SeqAt.EqAt.bool_str a b t
  | _=>exact absurd (show false=true from fx) Bool.false_ne_true
 | int a =>
  obtain⟨t',rfl⟩:=ry;cases x with
  | non=>cases rx;exact SeqAt.EqAt.int_none a t'
  | bl b=>cases rx;exact SeqAt.EqAt.int_bool a t' b
  | int b=>obtain⟨t,rfl⟩:=rx;exact SeqAt.EqAt.int_int a t' b t
  | str b=>obtain⟨t,rfl⟩:=rx;exact SeqAt.EqAt.int_str a t' b t
  | _=>exact absurd (show false=true from fx) Bool.false_ne_true
 | str a =>
  obtain⟨t',rfl⟩:=ry;cases x with
  | non=>cases rx;exact SeqAt.EqAt.str_none a t'
  | bl b=>cases rx;exact SeqAt.EqAt.str_bool a t' b
  | int b=>obtain⟨t,rfl⟩:=rx;exact SeqAt.EqAt.str_int a t' b t
  | str b=>obtain⟨t,rfl⟩:=rx;exact SeqAt.EqAt.str_str a t' b t
  | _=>exact absurd (show false=true from fx) Bool.false_ne_true
 | _=>exact absurd (show false=true from fy) Bool.false_ne_true
def eqU(x:V)(u:Value):Bool:=match u with
 | .none=>eqV .non x
 | .bool b=>eqV (.bl b) x
 | .int i _=>eqV (.int i) x
 | .str z _=>eqV (.str z) x
 | _=>false
theorem pA{x y:V}{u:Value}(r:RelV y u)(f:ff y=true):eqU x u=eqV y x:=by
 cases y with
 | non=>cases r;rfl
 | bl b=>cases r;rfl
 | int i=>obtain⟨t,rfl⟩:=r;rfl
 | str z=>obtain⟨t,rfl⟩:=r;rfl
 | _=>exact absurd (show false=true from f) Bool.false_ne_true
theorem iT{x:V}:∀ {xs:List V} {us:List Value},Vals xs us->xs.all ff=true->us.any (eqU x)=xs.any λ y=>eqV y x
 | _,_,.nil,_=>rfl
 | y::xs,u::us,.cons r t,f=>by rw[List.all_cons,Bool.and_eq_true] at f;rw[List.any_cons,List.any_cons,pA r f.1,iT t f.2]
theorem fM{A:Around}{s:Shared}{x:V}{v:Value}(rx:RelV x v)(fx:ff x=true):∀ {xs:List V} {us:List Value},Vals xs us->xs.all ff=true->∀ u∈us,SeqAt.EqAt A s u v (eqU x u)
 | _,_,.nil,_=>λ u hu=>by cases hu
 | y::xs,u::us,.cons r t,f=>λ u' hu=>by
  rw[List.all_cons,Bool.and_eq_true] at f;rcases List.mem_cons.mp hu with rfl | hu
  ·rw[pA r f.1];exact uC r rx f.1 fx
  ·exact fM rx fx t f.2 u' hu
def inV(x:V)(xs:List V):Bool:=xs.any λ y=>eqV y x
def rIn(K:FG)(neg:Bool):R2:=λ x y H Q=>∃ p xs,y=.ref p/\(SqL K H p xs\/SqT K H p xs)/\ff x=true/\xs.all ff=true/\Q (.bl (if neg then !inV x xs else inV x xs)) H
theorem dw:OpR X (compareOp .NotIn) (rIn X.K true):=by
 intro pins s σ H x y v u Q I rx ry h;obtain⟨p,xs,rfl,hq,fx,fs,q⟩:=h;cases ry;rcases hq with hq | hq
 ·obtain⟨its,r,pl,hz⟩:=I.list hq;refine SeqAt.notIn_listAt (eqU x) pl.isList (λ w hw=>fM rx fx r fs w (by simpa using hw)) ⟨.bl _,H,I,rfl,?_⟩;rw[show its.toArray.any (eqU x)=its.any (eqU x) by simp,iT r fs];exact q
 ·obtain⟨its,r,pl,hz⟩:=I.tuple hq;refine SeqAt.notIn_tupleAt (eqU x) pl (λ w hw=>fM rx fx r fs w (by simpa using hw)) ⟨.bl _,H,I,rfl,?_⟩;rw[show its.toArray.any (eqU x)=its.any (eqU x) by simp,iT r fs];exact q
theorem hG:cJ X (.type "list") (λ xs H Q=>∃ p ys,xs=[.ref p]/\(SqL X.K H p ys\/SqT X.K H p ys)/\∀ l,H l=none->Q (.ref l) (upd H l (.lst ys))):=by
 intro pins s σ H xs us Q I r h;obtain⟨p,ys,rfl,hq,q⟩:=h;obtain⟨u,rfl,rx⟩:=vals1 r;cases rx;have fin:∀ (its:List Value),Vals ys its->ys.length<=sizeLine->∀ (h':Heap) (c':Nat),(∀ b o',s.heap.get? b=some o'->h'.get? b=some o') ->
   h'.get? s.heap.objs.size=some {cls:=.type "list",dict:=none,data:=.seq its.toArray c',slots:=#[]}->EP X pins σ Q (.ref s.heap.objs.size) {s with heap:=h'}:=λ its r' hz h' c' kp e =>
  ⟨.ref s.heap.objs.size,_,I.laid (t':=s.toks) kp (Nat.le_refl _) (show bx X.prog X.w _ h' _ (.lst ys) from⟨hz,its,c',r',e⟩),rfl,q _ (I.hok.fresh (Nat.le_refl _))⟩
 rcases hq with hq | hq
 ·obtain⟨its,r',pl,hz⟩:=I.list hq;have hlen:=r'.length;obtain⟨o,ho,hc,n,hd⟩:=pl.isList;exact call_list_seq p (.inl rfl) ho hc hd (λ h' c' kp e=>fin its r' hz h' c' kp e) (by simp only[List.size_toArray]<;>omega)
 ·obtain⟨its,r',pl,hz⟩:=I.tuple hq;have hlen:=r'.length;obtain⟨o,ho,hc,n,hd⟩:=pl;exact call_list_seq p (.inr rfl) ho hc hd (λ h' c' kp e=>fin its r' hz h' c' kp e) (by simp only[List.size_toArray]<;>omega)
def tyV(K:FG)(T:String)(x:V)(H:Hp):Prop:=match x with
 | .str _=>T = "str"
 | .int _=>T = "int"
 | .ref p=>(T = "list" /\ ∃ xs,SqL K H p xs)\/(T = "tuple" /\ ∃ xs,SqT K H p xs) \/
   (T = "dict" /\ ((∃ kvs,H p=some (.dK kvs))\/∃ kvs,H p=some (.dT kvs)))\/(T = "set" /\ ∃ S n,H p=some (.set S n))
 | _=>False
theorem tS{pins:PN}{σ:St}{H:Hp}{s:Shared}{T:String}{x:V}{v:Value}(I:Inv X pins σ H s)(r:RelV x v)(ty:tyV X.K T x H) :
  s.TypeIs v T/\∀ a,v=.ref a->∃ ob,s.heap.get? a=some ob/\ob.dict=none:=by
 cases x with
 | str z =>
  obtain⟨t,rfl⟩:=r;cases (show T = "str" from ty);exact⟨typeIs_str s z t,λ _ e=>nomatch e⟩
 | int i =>
  obtain⟨t,rfl⟩:=r;cases (show T = "int" from ty);exact⟨typeIs_int s i t,λ _ e=>nomatch e⟩
 | ref p =>
  cases r;rcases ty with ⟨rfl,xs,hq⟩ | ⟨rfl,xs,hq⟩ | ⟨rfl,hk⟩ | ⟨rfl,S,n,hk⟩
  ·obtain⟨its,_,pl,_⟩:=I.list hq;refine⟨pl.isList.typeIs,λ a e=>?_⟩;cases e;obtain⟨o,n,e,c,hd,_⟩:=pl;exact⟨o,e,hd⟩
  ·obtain⟨its,_,⟨o,h1,h2,h3,_⟩,_⟩:=I.xt hq;refine⟨⟨o,h1,h2⟩,λ a e=>?_⟩;cases e;exact⟨o,h1,h3⟩
  ·have z:∃ o,s.heap.get? p=some o/\o.ExactDict:=by
    rcases hk with ⟨kvs,hk⟩ | ⟨kvs,hk⟩
    ·obtain⟨_,_,_,_,o,_,_,e,ex,_⟩:=I.hok p _ hk;exact⟨o,e,ex⟩
    ·obtain⟨_,_,_,_,o,_,_,e,ex,_⟩:=I.hok p _ hk;exact⟨o,e,ex⟩
   obtain⟨o,e,ex⟩:=z;refine⟨⟨o,e,ex.1⟩,λ a e2=>?_⟩;cases e2;exact⟨o,e,ex.2.1⟩
  ·obtain⟨o,_,_,_,e,ex,_⟩:=I.hok p _ hk;refine⟨⟨o,e,ex.1⟩,λ a e2=>?_⟩;cases e2;exact⟨o,e,ex.2.1⟩
 | _=>exact False.elim ty
def tBM(K:FG)(T:String)(r:V->List V->Hp->VK->Prop)(to:TE)(t:TA):TE:=λ σ H Q=>to σ H λ x H1=>tyV K T x H1/\t σ H1 λ xs H2=>r x xs H2 Q
variable {o e:Expr}{es:List Expr}{to:TE}{t:TA}{name:Str}{apos cpos:Pos}{T id:String}{r:V->List V->Hp->VK->Prop}
theorem uz(pa:PlainAttrs T)(slot:Slot T name id)(hty:typeOf (.builtin id)=pure (.type "method_descriptor"))(hm:MtR X id r)(ho:PE X o to)(ha:PA X (e::es) t)
  (hbase:attributeBase o name X.env (eval o X.env)=eval o X.env:=by rfl)
  (hfew:((backTo cpos (starEach (e::es) X.env)).all (λ x=>!x.1)&&(backToKw cpos (keywordEach [] X.env)).all (λ x=>x.1.isSome)
   && decide ((e::es).length+([]:List Keyword).length+(if ([]:List Keyword).isEmpty then 0 else 1)<30))=true:=by rfl)
  (hline:(apos.endLine==cpos.line)=true:=by rfl)(hs:starEach (e::es) X.env=(false,eval e X.env)::starEach es X.env:=by rfl)(hplain:(backTo cpos (starEach es X.env)).any (·.1)=false:=by rfl) :
  PE X (.Call (.Attribute o name apos) (e::es) [] cpos) (tBM X.K T r to t):=by
 intro pins s σ H Q I h;refine wpAny_Call_method_late hbase hfew hline rfl (thn (ho pins s σ H _ I h) λ v s1 hq22=>?_);obtain⟨x,H1,I1,r1,ty,q1⟩:=hq22;obtain⟨h1,h2⟩:=tS I1 r1 ty;refine⟨T,id,pa,slot,hty,h1,h2,?_⟩;have hA:=ha cpos pins s1 σ H1 _ I1 q1;rw[hs] at hA ⊢;refine Calls.callWith_builtin (by show(false || (backTo cpos (starEach es X.env)).any (·.1))=false;rw[hplain]<;>rfl) (Calls.evalArgs_plain ?_);exact thn hA λ us s2 ⟨vs,H2,I2,r2,q2⟩=>hm pins s2 σ H2 x vs v us Q I2 r1 r2 q2
end
def MtM(X:Cx)(id:String)(r:V->List V->Hp->VK->Prop):Prop:=
 ∀ (pins:PN) (s:Shared) (σ:St) (H:Hp) (x:V) (xs:List V) (v:Value) (us:List Value) (Q:VK),Inv X pins σ H s->RelV x v->Vals xs us->r x xs H Q ->
  wpAny (model X.prog X.w) X.A (call (.builtin id) (v::us)) (EP X pins σ Q) X.xe s
theorem Vals.one:∀ {x:V} {us:List Value},Vals [x] us->∃ u,us=[u]/\RelV x u
 | _,_,.cons r .nil=>⟨_,rfl,r⟩
section
variable {X:Cx}{pins:PN}{σ:St}{H:Hp}{s:Shared}{l b:Addr}{xs ys zs:List V}
theorem Inv.xY{its its':List Value}{n:Nat}{f:Array Value->Array Value}{t':Nat}(I:Inv X pins σ H s)(hH:H l=some (.lst xs))
  (e:s.heap.get? l=some {cls:=.type "list",data:=.seq its.toArray n})(hf:f its.toArray=its'.toArray)(hv:Vals ys its')(hz:ys.length<=sizeLine) :
  Inv X pins σ (upd H l (.lst ys)) {s with heap:=s.heap.update l (Obj.mapSeq f),toks:=t'}:=by
 have q:=PySem.IsL.update e f;rw[hf] at q;refine I.write (x:=l) (e:=l) (by rw[hH];exact trivial) (.inl rfl) (λ b' u hb hu=>(Heap.get?_update_other s.heap (Obj.mapSeq f) (Ne.symm hb)).trans hu) ⟨_,q⟩ ?_;exact⟨hz,its',_,hv,q⟩
theorem Inv.xV{its:List Value}{t':Nat}(I:Inv X pins σ H s)(hv:Vals ys its)(hz:ys.length<=sizeLine) :
  Inv X pins σ (upd H s.heap.objs.size (.lst ys)) {s with heap:=s.heap.push {cls:=.type "list",data:=.seq its.toArray},toks:=t'}:=
 I.laid (λ _ _ q=>Heap.get?_push_of_some _ q) (Nat.le_refl _) ⟨hz,its,0,hv,Heap.get?_push_size _ rfl⟩
theorem Inv.fresh(I:Inv X pins σ H s):H s.heap.objs.size=none:=I.hok.fresh (Nat.le_refl _)
theorem Inv.xG(I:Inv X pins σ H s)(hH:H l=some (.lst xs)):xs.length<=sizeLine/\∃ (its:List Value) (n:Nat),Vals xs its/\xs.length=its.length/\s.heap.get? l=some {cls:=.type "list",data:=.seq its.toArray n}:=by obtain⟨z,its,n,r,e⟩:=I.hok l _ hH;exact⟨z,its,n,r,r.length,e⟩
end
section
variable {X:Cx}
def rK:V->List V->Hp->VK->Prop:=λ x vs H Q=>∃ l xs y,x=.ref l/\vs=[y]/\H l=some (.lst xs)/\xs.length<sizeLine/\Q .non (upd H l (.lst (xs++[y])))
theorem m7:MtM X "list.append" rK:=by intro pins s σ H x vs v us Q I rx rv h;obtain⟨l,xs,y,rfl,rfl,hH,hz,q⟩:=h;cases rx;obtain⟨u,rfl,ru⟩:=rv.one;obtain⟨z,its,n,r,hl,e⟩:=I.xG hH;refine call_meets F.slot_list_append ⟨_,e,rfl⟩ F.entry_list_append (F.args_list_append_2 _ _) (PySem.list_append l its.toArray n u (by rw[List.size_toArray];omega)) ⟨e,?_⟩;refine⟨.non,_,I.xY (its':=its++[u]) hH e (by simp) (r.append (.cons ru .nil)) ?_,rfl,q⟩;rw[List.length_append,List.length_singleton];omega
end
section
variable {prog:Program}{w:World}{A:Around}{E:VP}{s:Shared}
end
section
variable {X:Cx}
end
end L2
namespace Att
open PySem PySem.W PySem.Calls PyProof.Rows
theorem eQ{P:Params}{h:Heap}:∀ (ns:List Int) (vs:List Value),WellAll P h vs (ns.map WData.int)->IntsAre vs ns:=by
 intro ns
 induction ns with
 | nil =>
  intro vs w;rw[List.map_nil] at w;cases w;exact .nil
 | cons n ns ih =>
  intro vs w;rw[List.map_cons] at w;cases w with
  | cons a b =>
   cases a;exact .cons _ _ (ih _ b)
theorem mR{l:OpenLaw}{n:Nat}(hn:l.most=some n){P:Params}{h:Heap}{args:List WData}{vals:List Value}
  (hpre:l.row.toRowW.claim.pre args=true)(hwl:WellAll P h vals args) :
  ∃ a vs ns,vals=[Value.ref a]/\args=[WData.list (ns.map WData.int)]/\h.get? a=some {cls:=.type "list",data:=.seq vs.toArray}/\IntsAre vs ns/\ns.length<=n:=by
 have hsh:WShape.hasAll [] args [.list .int]=true:=(pre_splitW hpre).1;have hc:l.pre.holds [] {args:=args}=true:=(pre_splitW hpre).2;obtain⟨d,r,rfl,h1,h2⟩:=hasAllW_cons hsh;obtain rfl:=hasAllW_nil h2;obtain⟨xs,rfl,h3⟩:=hasW_list h1;obtain⟨ns,rfl⟩:=items_int h3;have hlen:ns.length<=n:=by
  unfold OpenLaw.pre at hc;have h4:(WTm.not (.lt (.lit (.int (n:Int))) (.len (.arg 0)))).holds [] {args:=[.list (ns.map .int)]}=true:=by have h4:=(holds_andW hc).1;rw[hn] at h4;exact h4
  have h5:=condW_of h4 (w_not (w_lt w_lit (w_len_list (w_arg rfl))));rw[List.length_map] at h5;refine Nat.le_of_not_lt λ q=>?_;have q':(n:Int)<((ns.length:Nat):Int):=by omega
  first
   | (rw[decide_eq_true q'] at h5;exact absurd h5 (by decide))
   | (simp at h5;omega)
 cases hwl with
 | cons w1 w2 =>
  cases w2;cases w1 with
  | list ho hall=>exact⟨_,_,ns,rfl,rfl,ho,eQ ns _ hall,hlen⟩
theorem l3(l:OpenLaw)(args:List WData):l.row.toRowW.claim.post args (.bool true) args=true:=
 postW_of (r:=l.row.toRowW) (X:=(true==true))
  (show WShape.has [] (.bool true) .bool=true by first | rfl | decide | simp[WShape.has,WShape.arms,WShape.armsAll])
  (show(WTm.eq .res (.lit (.bool true))).value [] {args:=args,res:=some (.bool true),after:=args}=some (.bool (true==true)) from w_eq_bool (w_res rfl) w_lit) rfl
theorem iZ{l:OpenLaw}{n:Nat}{q:Program}{loose:List Str}{XP:(Str->Option Value)->Heap->Prop}{YP:World->Heap->Prop}{d:DefRec}
  (hn:l.most=some n)(hdf:d.params.defaults=[])
  (call:∀ (w:World) (s₀ s₁:Shared) (mg mb:Str->Option Value) (fa:Addr) (o:Obj) (pm cd doc:Value) (a:Addr) (vs:List Value) (ns:List Int),
   Ground q loose [] XP w s₀ mg mb s₁.heap->YP w s₁.heap ->
   s₁.heap.get? fa=some o->o.data=.func (docDef d.name d.params d.body d.scope pm cd doc)->s₁.heap.CodeRec cd d.name->mg d.name=some (.ref fa) ->
   s₁.heap.get? a=some {cls:=.type "list",data:=.seq vs.toArray}->IntsAre vs ns->ns.length<=n->s₁.gens = #[] ->
   codeAny (model l.prog w) callerA (.call (.ref fa) ⟨[.ref a],[]⟩) (λ r s'=>r=.ok (.ret (.bool true))/\OldK s₁.heap s'.heap/\s'.os=s₁.os/\AllBare s'.gens) s₁) :
  WalkO q loose XP YP l.row.toRowW d [] (λ f vs=>PySem.call f vs):=by
 intro w s₀ s₁ mg mb G Y fa o pm cd doc dV kV ho hd hcd hD hmg hg args vals as hpre hlay hrd hwl hlo;obtain rfl:dV=.none:=Dflts.none hD hdf;obtain rfl:kV=.none:=Dflts.noKw hD;obtain⟨a,vs,ns,rfl,rfl,hobj,hints,hlen⟩:=mR hn hpre hwl;refine enter_call (codeAny_mono (call w s₀ s₁ mg mb fa o pm cd doc a vs ns G Y ho (fd_plain hd) hcd hmg hobj hints hlen hg) λ r s' hq=>?_);obtain⟨rfl,h2,h3,h4⟩:=hq;exact⟨.inl ⟨.bool true,.bool true,[],rfl,λ _=>rfl,.bool true,l3 l _,λ _=>⟨List.Pairwise.nil,λ _ hm=>(nomatch hm)⟩⟩,h2,h3,h4⟩
section
variable {prog:Program}{w:World}{A:Around}{E:VP}{s:Shared}{K:Frag}
end
end Att
namespace L2
theorem gI:∀ {vs:List Value} {ns:List Int},IntsAre vs ns->Vals (ns.map V.int) vs
 | _,_,.nil=>.nil
 | _,_,.cons n t h=>.cons ⟨t,rfl⟩ (gI h)
def vo(H:Hp):Prop:=∀ b,H b=none\/∃ o xs,H b=some (.frz o (.lst xs))
theorem nY{P:Program}{w:World}{K:FG}{mg mb:Str->Option Value}{CX:CXT}{k:Nat}{fa a:Addr}{fd:FuncData}{x:Str}{sp:Sp}{s₁:Shared}{vs:List Value}{ns:List Int}
  (KX:K.In s₁.heap)(hns:s₁.heap.Ns mainGlobals mg)(hb:s₁.heap.Ns builtinsNs mb)(hbb:∀ x:Str,x ≠ "__name__" -> mb x=bootBuiltins x)(hlim:s₁.heap.NoLimit)(hbm:BM mg s₁.heap)(hg:s₁.gens = #[])
  (ha:s₁.heap.get? a=some {cls:=.type "list",data:=.seq vs.toArray})(hi:IntsAre vs ns)(hl:ns.length<=sizeLine)(hr:b9 k callerA)
  (F:∀ base:Heap,K.In base->base.Ns mainGlobals mg->cL P w K mg base CX k fa fd [x] sp)(hbind:∀ (s:Shared) (u:Value),BindsTo s fd ⟨[u],[]⟩ [(x,u)])
  (hsp:∀ H:Hp,vo H->SqL K H a (ns.map V.int)->sp [.ref a] H (λ v _=>v=.bl true) λ _ _ _=>False)
  (hCX:∀ H e s',CX [] H s₁ (λ _ _ _=>False) e s'->False) :
  codeAny (model P w) callerA (.call (.ref fa) ⟨[.ref a],[]⟩) (λ r s'=>r=.ok (.ret (.bool true))/\OldK s₁.heap s'.heap/\s'.os=s₁.os/\AllBare s'.gens) s₁:=by
 have rv:=gI hi;have lenV:=hi.length;have core:∀ H:Hp,vo H->SqL K H a (ns.map V.int)->HOk P w H s₁.heap->(∀ b,H b≠none->b=a)->(H a≠none->K.lookup a=none) ->
   codeAny (model P w) callerA (.call (.ref fa) ⟨[.ref a],[]⟩) (λ r s'=>r=.ok (.ret (.bool true))/\OldK s₁.heap s'.heap/\s'.os=s₁.os/\AllBare s'.gens) s₁:=by
  intro H hO hS hok hA hK;have base_of:∀ {b:Addr} {o:Obj},s₁.heap.get? b=some o->H b=none->(oJ s₁.heap H).get? b=some o:=λ e n=>om e n;have noA:∀ {b:Addr} {o:Obj} {es:Array DictEntry} {ep:Nat},s₁.heap.get? b=some o->o.data=.dict es ep->H b=none:=λ {b o es ep} e d=>by
   cases q:H b with
   | none=>rfl
   | some u =>
    have e':b=a:=hA b (by rw[q];simp);subst e';rw[ha] at e;cases e;have d':Data.seq vs.toArray _=Data.dict es ep:=d;cases d'
  have nsK:∀ {b:Addr} {m:Str->Option Value},s₁.heap.Ns b m->(oJ s₁.heap H).Ns b m:=λ {b m} ⟨o,es,ep,e,d,r⟩=>⟨o,es,ep,base_of e (noA e d),d,r⟩;have hKb:K.In (oJ s₁.heap H):=λ b o e=>base_of (KX b o e) (by
   cases q:H b with
   | none=>rfl
   | some u =>
    have e':b=a:=hA b (by rw[q];simp);subst e';rw[hK (by rw[q];simp)] at e;cases e)
  have hM:Mod K mg (oJ s₁.heap H):=⟨hKb,nsK hns,⟨mb,nsK hb,hbb⟩,let ⟨mc,h1,h2⟩:=hlim; ⟨mc,nsK h1,h2⟩,let ⟨⟨b,o,h1,h2,h3,h4,h5,h6⟩,mm,hmm⟩:=hbm; ⟨⟨b,o,h1,h2,base_of h3 (by cases q:H b with | none=>rfl | some u=>(have e':b=a:=hA b (by rw[q];simp);subst e';rw[ha] at h3;cases h3;cases h6)),h4,h5,h6⟩,mm,nsK hmm⟩⟩;have e0:q9 P w K mg (oJ s₁.heap H) callerA [] s₁ H:=⟨rfl,hM,λ b o e=>rW e,Nat.le_of_eq (mS _ _),trivial,λ b hb=>absurd (show b∈([]:List Addr) from hb) (by simp),hok,.of_eq hg⟩;refine codeAny_mono ((F _ hKb (nsK hns)).run callerA [] s₁ H ⟨[.ref a],[]⟩ [.ref a] [.ref a] _ _ hr e0 (hbind s₁ (.ref a)) (.cons rfl .nil) (hsp H hO hS)) λ r s' h=>?_;cases r with
  | error e=>exact(hCX H e s' h).elim
  | ok fl =>
   cases fl with
   | next=>exact False.elim h
   | brk=>exact False.elim h
   | cont=>exact False.elim h
   | ret u =>
    obtain⟨v,H',os,bare,un,hok',r',q⟩:=h;have q':v=.bl true:=q;subst q';obtain rfl:u=Value.bool true:=r';refine⟨rfl,OldK.of_keep λ b o e=>?_,os,bare⟩;cases q:H b with
    | none=>exact un.keep b o e q (by intro z;exact absurd (show b∈([]:List Addr) from z) (by simp)) (by simp)
    | some u =>
     rcases hO b with z | ⟨ob,xs,z⟩
     ·rw[q] at z;cases z
     ·have z2:=un.frzs b ob _ z;obtain⟨e1,_⟩:=hok b _ z;obtain⟨e2,_⟩:=hok' b _ z2;rw[e] at e1;cases e1;exact e2
 cases hk:K.lookup a with
 | some o =>
  have e:=KX a o hk;rw[ha] at e;cases e;refine core (λ _=>none) (λ _=>.inl rfl) (.inr ⟨_,vs.toArray,_,hk,rfl,rfl,rfl,by rw[List.size_toArray,lenV];exact hl,by simpa using rv⟩) (λ b u z=>by have z':(none:Option HO)=some u:=z;cases z') (λ b z=>absurd rfl z) λ z=>absurd rfl z
 | none =>
  refine core (λ b=>if b=a then some (.frz {cls:=.type "list",data:=.seq vs.toArray} (.lst (ns.map V.int))) else none) (λ b=>?_) (.inl (.inr ⟨{cls:=.type "list",data:=.seq vs.toArray},if_pos rfl⟩)) (λ b u z=>?_) (λ b z=>?_) λ _=>hk
  ·by_cases hb:b=a
   ·exact .inr ⟨_,_,if_pos hb⟩
   ·exact .inl (if_neg hb)
  ·by_cases hb:b=a
   ·have z':=(if_pos hb).symm.trans z;cases z';subst hb;exact⟨ha,by rw[List.length_map];exact hl,vs,_,rv,ha⟩
   ·have z':=(if_neg hb).symm.trans z;cases z'
  ·by_cases hb:b=a
   ·exact hb
   ·exact absurd (if_neg hb) z
theorem qJ{l:W.OpenLaw}{n k:Nat}{q:Program}{loose:List Str}{XP:(Str->Option Value)->Heap->Prop}{YP:World->Heap->Prop}{d:DefRec}{K:Params->FG}{CX:World->CXT}{sp:World->Sp}{x:Str}
  (hq:importsNone q=true)(hn:l.most=some n)(hn2:n<=sizeLine)(hdf:d.params.defaults=[])(hr:b9 k callerA)
  (hY:∀ (w:World) (h:Heap),YP w h->(K w.params).In h)
  (F:∀ (w:World) (mg:Str->Option Value) (fa:Addr) (h:Heap),(K w.params).In h->h.Ns mainGlobals mg->mg d.name=some (.ref fa) ->
   ∃ fd:FuncData,(∀ (s:Shared) (u:Value),BindsTo s fd ⟨[u],[]⟩ [(x,u)]) /\
    ∀ base:Heap,(K w.params).In base->base.Ns mainGlobals mg->cL l.prog w (K w.params) mg base (CX w) k fa fd [x] (sp w))
  (hsp:∀ (w:World) (H:Hp) (a:Addr) (ns:List Int),ns.length<=n->vo H->SqL (K w.params) H a (ns.map V.int)->sp w [.ref a] H (λ v _=>v=.bl true) λ _ _ _=>False)
  (hCX:∀ (w:World) (H:Hp) (s:Shared) (e:Value) (s':Shared),CX w [] H s (λ _ _ _=>False) e s'->False) :
  W.WalkO q loose XP YP l.row.toRowW d [] (λ f vs=>PySem.call f vs):=by
 refine Att.iZ hn hdf λ w s₀ s₁ mg mb fa o pm cd doc a vs ns G Y ho hd hcd hmg hobj hints hlen hg=>?_;have KX:=hY w _ Y;obtain⟨fd,hb,hF⟩:=F w mg fa _ KX G.T.g hmg;exact nY KX G.T.g G.T.b G.T.builtins G.T.nolimit (let ⟨bm,ob,b1,b2,b3,b4,b5,b6⟩:=G.T.bmain;let ⟨mm,hmm,_⟩:=(G.T.seer hq).mods; ⟨⟨bm,ob,b1,b2,b3,b4,b5,b6⟩,mm,hmm⟩) hg hobj hints (Nat.le_trans hlen hn2) hr hF hb (λ H hO hS=>hsp w H a ns hlen hO hS) λ H e s'=>hCX w H s₁ e s'
def inClass(s:Stmt)(j:Nat):Stmt:=match s with
 | .ClassDef _ _ _ body _ _ _ _ _ _ _=>body.getD j (.Pass ⟨0,0,0,0⟩)
 | _=>.Pass ⟨0,0,0,0⟩
def aL(s:Stmt):Arguments:=match s with
 | .FunctionDef _ a _ _ _ _ _ _ _ _=>a
 | _=>{posonlyargs:=[],args:=[],vararg:=none,kwonlyargs:=[],kw_defaults:=[],kwarg:=none,defaults:=[]}
def aG(s:Stmt):List Stmt:=match s with
 | .FunctionDef _ _ b _ _ _ _ _ _ _=>b
 | _=>[]
def ao(s:Stmt):Scope:=match s with
 | .FunctionDef _ _ _ _ _ _ sc _ _ _=>sc
 | _=>{kind:=.function,names:=[],isGenerator:=false,isCoroutine:=false}
abbrev CX0:CXT:=λ _ _ _ _ _ _=>False
abbrev E0:XK:=λ _ _ _=>False
theorem qo{X:Cx}:Passes CX0 X E0:=λ _ _ _ _ _ _ _ h=>h.elim
structure Fun(K:FG)(x qual:Str)(st:Stmt)(f:Addr)(fd:FuncData):Prop where
 ex:∃ (oc:Value) (od:Option Addr) (kV doc pm:Value) (an:Option Addr) (cdv ct:Value) (osl:Array (Option Value)),
  fd=W.fnOf x qual (aL st) (aG st) (ao st) .none kV doc pm an cdv ct/\K.lookup f=some ⟨oc,od,.func fd,osl⟩/\W.codeIn K cdv qual=true
 kp:W.keepIn K (.ref f)=true
section
variable {P:Program}{w:World}{K:FG}{mg:Str->Option Value}{base:Heap}
theorem Fun.ok{x qual:Str}{st:Stmt}{f:Addr}{fd:FuncData}{N ps:List Str}{k:Nat}{sp:Sp}(F:Fun K x qual st f fd)(S:bp N ps (ao st))(len:∀ vs H Q E,sp vs H Q E->vs.length=ps.length)
  (hbody:∀ (cdv:Value) (A:Around) (outer:List Env) (s:Shared) (H:Hp) (vs:List V) (Q:VK) (E:XK),b9 k (A.deeper (envOfC qual (ao st) s.heap.objs.size f cdv))->sp vs H Q E ->
   ∃ t,PSs (qt CX0 P w K mg base N qual (ao st) f cdv A outer s H E).nox (aG st) t/\t {nx:=λ _ H'=>Q .non H',rt:=Q} (start N vs) H):cL P w K mg base CX0 (k+1) f fd ps sp:=by
 obtain⟨oc,od,kV,doc,pm,an,cdv,ct,osl,rfl,lk,hcd⟩:=F.ex;refine wU lk hcd S len λ A outer s H vs Q E hr hsp=>?_;obtain⟨t,h,q⟩:=hbody cdv A outer s H vs Q E hr hsp;exact⟨t,h.nox,q⟩
theorem Fun.binds{x qual:Str}{st:Stmt}{f:Addr}{fd:FuncData}{ps:List Str}(F:Fun K x qual st f fd)
  (h:∀ (kV doc pm:Value) (an:Option Addr) (cdv ct:Value) (us:List Value),us.length=ps.length->bindArgs (W.fnOf x qual (aL st) (aG st) (ao st) .none kV doc pm an cdv ct) ⟨us,[]⟩=pure (ps.zip us)):Binds K fd ps []:=by
 obtain⟨oc,od,kV,doc,pm,an,cdv,ct,osl,rfl,lk,hcd⟩:=F.ex;exact .all (h kV doc pm an cdv ct)
theorem lg{x qual:Str}{st:Stmt}{f:Addr}{oc:Value}{od an:Option Addr}{osl:Array (Option Value)}{kV doc pm cdv ct:Value}(l:K.lookup f=some ⟨oc,od,.func (W.fnOf x qual (aL st) (aG st) (ao st) .none kV doc pm an cdv ct),osl⟩)
  (c:W.codeIn K cdv qual=true)(k:W.keepIn K (.ref f)=true):Fun K x qual st f (W.fnOf x qual (aL st) (aG st) (ao st) .none kV doc pm an cdv ct):=⟨⟨oc,od,kV,doc,pm,an,cdv,ct,osl,rfl,l,c⟩,k⟩
end
theorem eM{A:Around}{k:Nat}(hr:b9 k A):A.units+1<cLine:=Nat.lt_of_le_of_lt (Nat.add_le_add_left (by decide:1<=64) _) hr.units
section
variable {X:Cx}
end
theorem oM{A B:Prop}(h:B):if false=true then A else B:=by rw[if_neg Bool.false_ne_true];exact h
theorem xW{A B:Prop}(h:A):if true=true then A else B:=by rw[if_pos rfl];exact h
section
variable {κ:Type}[DecidableEq κ]
def iA(kvs:List (κ×V))(k:κ):Option V:=(kvs.find? λ kv=>decide (kv.1=k)).map (·.2)
def putK(kvs:List (κ×V))(k:κ)(v:V):List (κ×V):=
 if (kvs.any λ kv=>decide (kv.1=k))=true then kvs.map (λ kv=>if kv.1=k then (kv.1,v) else kv) else kvs++[(k,v)]
theorem dO{p:κ×V}{r:List (κ×V)}{k:κ}(e:p.1=k):iA (p::r) k=some p.2:=by simp[iA,List.find?_cons,e]
theorem dQ{p:κ×V}{r:List (κ×V)}{k:κ}(e:¬ p.1=k):iA (p::r) k=iA r k:=by simp[iA,List.find?_cons,e]
theorem jE(k:κ):∀ kvs:List (κ×V),(kvs.any λ kv=>decide (kv.1=k))=(iA kvs k).isSome
 | []=>rfl
 | p::r=>by
  rw[List.any_cons]
  by_cases e:p.1=k
  ·simp only[dO e,decide_eq_true e,Bool.true_or,Option.isSome_some]
  ·rw[dQ e,decide_eq_false e,Bool.false_or];exact jE k r
theorem cI(kvs:List (κ×V))(k:κ)(v:V):(putK kvs k v).length<=kvs.length+1:=by
 unfold putK
 split
 ·rw[List.length_map];omega
 ·rw[List.length_append,List.length_cons,List.length_nil];omega
theorem iy.eU{o:Option V}{u:Option Value}(r:iy o u):o.isSome=u.isSome:=by
 cases o with
 | none=>cases u with
  | none=>rfl
  | some _=>exact(show False from r).elim
 | some _=>cases u with
  | none=>exact(show False from r).elim
  | some _=>rfl
theorem iy.getD{o:Option V}{u:Option Value}{d:V}{d':Value}(r:iy o u)(rd:RelV d d'):RelV (o.getD d) (u.getD d'):=by
 cases o with
 | none=>cases u with
  | none=>exact rd
  | some _=>exact(show False from r).elim
 | some _=>cases u with
  | none=>exact(show False from r).elim
  | some _=>exact r
theorem KV.val{kvs:List (κ×V)}{vs:List (κ×Value)}(r:KV kvs vs)(k:κ):iy (iA kvs k) (valueAt vs k):=by
 unfold KV at r
 induction r with
 | nil=>exact True.intro
 | @cons p q ps qs h t ih =>
  obtain⟨h1,h2⟩:=h
  by_cases e:p.1=k
  ·have e':q.1=k:=h1.symm.trans e;have b:valueAt (q::qs) k=some q.2:=by simp[valueAt,List.find?_cons,e']
   rw[dO e,b];exact h2
  ·have e':¬ q.1=k:=λ z=>e (h1.trans z);have b:valueAt (q::qs) k=valueAt qs k:=by simp[valueAt,List.find?_cons,e']
   rw[dQ e,b];exact ih
theorem KV.any{kvs:List (κ×V)}{vs:List (κ×Value)}(r:KV kvs vs)(k:κ):(kvs.any λ kv=>decide (kv.1=k))=vs.any λ kv=>decide (kv.1=k):=by
 unfold KV at r
 induction r with
 | nil=>rfl
 | cons h t ih=>rw[List.any_cons,List.any_cons,ih,h.1]
theorem KV.vC{kvs:List (κ×V)}{vs:List (κ×Value)}(r:KV kvs vs)(k:κ){y:V}{u:Value}(ry:RelV y u) :
  KV (kvs.map λ kv=>if kv.1=k then (kv.1,y) else kv) (vs.map λ kv=>if kv.1=k then (kv.1,u) else kv):=by
 unfold KV at r ⊢
 induction r with
 | nil=>exact .nil
 | @cons p q ps qs h t ih =>
  rw[List.map_cons,List.map_cons];refine .cons ?_ ih;obtain⟨h1,h2⟩:=h
  by_cases e:p.1=k
  ·rw[if_pos e,if_pos (h1.symm.trans e)];exact⟨h1,ry⟩
  ·rw[if_neg e,if_neg (λ z=>e (h1.trans z))];exact⟨h1,h2⟩
theorem KV.put{kvs:List (κ×V)}{vs:List (κ×Value)}(r:KV kvs vs)(k:κ){y:V}{u:Value}(ry:RelV y u):KV (putK kvs k y) (stored vs k u):=by
 unfold putK stored;rw[r.any k]
 by_cases e:(vs.any λ kv=>decide (kv.1=k))=true
 ·rw[if_pos e,if_pos e];exact r.vC k ry
 ·rw[if_neg e,if_neg e];exact Paired.snoc r ⟨rfl,ry⟩
theorem KV.length{kvs:List (κ×V)}{vs:List (κ×Value)}(r:KV kvs vs):kvs.length=vs.length:=Paired.length r
end
theorem ka{P:Program}{w:World}{k:Key}{u:Value}(r:RelV (kV k) u):(aP P w).is k u=true:=by
 cases k with
 | inl i=>obtain⟨t,e⟩:=(show ∃ t,u=Value.int i t from r);subst e;exact iP P w i t
 | inr x=>obtain⟨t,e⟩:=(show ∃ t,u=Value.str x t from r);subst e;exact i7 P w x t
theorem ee{P:Program}{w:World}:∀ {ks:List Key} {us:List Value},Vals (ks.map kV) us->ItemsAre (aP P w) ks us
 | [],_,r=>by rw[List.map_nil] at r;cases r;exact .nil
 | k::ks,_,r=>by
  rw[List.map_cons] at r;cases r with
  | cons h t=>exact .cons (ka h) (ee t)
abbrev KT(H:Hp):List (List Key×V)->List (List Key×Addr×Value)->Prop:=Paired λ p q=>p.1=q.1/\H q.2.1=some (.tup (p.1.map kV))/\RelV p.2 q.2.2
theorem KT.val{H:Hp}{kvs:List (List Key×V)}{xs:List (List Key×Addr×Value)}(r:KT H kvs xs)(k:List Key):iy (iA kvs k) ((atKey xs k).map (·.2)):=by
 induction r with
 | nil=>exact True.intro
 | @cons p q ps qs h t ih =>
  obtain⟨h1,_,h2⟩:=h
  by_cases e:p.1=k
  ·have e':q.1=k:=h1.symm.trans e;have b:atKey (q::qs) k=some q.2:=by simp[atKey,List.find?_cons,e']
   rw[dO e,b];exact h2
  ·have e':¬ q.1=k:=λ z=>e (h1.trans z);have b:atKey (q::qs) k=atKey qs k:=by simp[atKey,List.find?_cons,e']
   rw[dQ e,b];exact ih
theorem KT.vC{H:Hp}{kvs:List (List Key×V)}{xs:List (List Key×Addr×Value)}(r:KT H kvs xs)(k:List Key){y:V}{u:Value}(ry:RelV y u) :
  KT H (kvs.map λ kv=>if kv.1=k then (kv.1,y) else kv) (xs.map (putAt k u)):=by
 induction r with
 | nil=>exact .nil
 | @cons p q ps qs h t ih =>
  rw[List.map_cons,List.map_cons];refine .cons ?_ ih;obtain⟨h1,h2,h3⟩:=h;unfold putAt
  by_cases e:p.1=k
  ·rw[if_pos e,if_pos (h1.symm.trans e)];exact⟨h1,h2,ry⟩
  ·rw[if_neg e,if_neg (λ z=>e (h1.trans z))];exact⟨h1,h2,h3⟩
theorem KT.put{H:Hp}{kvs:List (List Key×V)}{xs:List (List Key×Addr×Value)}(r:KT H kvs xs)(k:List Key){b:Addr}{y:V}{u:Value}(hb:H b=some (.tup (k.map kV)))(ry:RelV y u) :
  KT H (putK kvs k y) (storedH xs k b u):=by
 have e:(kvs.any λ kv=>decide (kv.1=k))=(atKey xs k).isSome:=by rw[jE,(r.val k).eU,Option.isSome_map]
 unfold putK storedH;rw[e]
 by_cases q:(atKey xs k).isSome=true
 ·rw[if_pos q,if_pos q];exact r.vC k ry
 ·rw[if_neg q,if_neg q];exact Paired.snoc r ⟨rfl,hb,ry⟩
theorem KT.keeps{H H':Hp}{kvs:List (List Key×V)}{xs:List (List Key×Addr×Value)}(r:KT H kvs xs)(ht:∀ b ys,H b=some (.tup ys)->H' b=some (.tup ys)):KT H' kvs xs:=
 Paired.kd r λ _ _ z=>⟨z.1,ht _ _ z.2.1,z.2.2⟩
section
variable {P:Program}{w:World}{H:Hp}{h:Heap}{a:Addr}
theorem tJ{u:HO}(ok:HOk P w H h)(e:Rd H a u):bx P w H h a u:=e.ok ok
theorem qR{kvs:List (Key×V)}(ok:HOk P w H h)(e:Rd H a (.dK kvs)):kvs.length<=sizeLine/\(a==sysModules)=false/\∃ vs,KV kvs vs/\h.DictOf (aP P w) a vs:=
 show bx P w H h a (.dK kvs) from tJ ok e
theorem tU{kvs:List (Key×V)}(ok:HOk P w H h)(e:H a=some (.dK kvs)):kvs.length<=sizeLine/\(a==sysModules)=false/\∃ vs,KV kvs vs/\h.DictOf (aP P w) a vs:=qR ok (.inl e)
theorem pP{ks:List Key}(ok:HOk P w H h)(e:H a=some (.tup (ks.map kV))):(tupleKind (aP P w)).is h ks a:=by obtain⟨_,its,r,o,h1,h2,_,n,h3⟩:=(show bx P w H h a (.tup (ks.map kV)) from ok a _ e);exact⟨o,its.toArray,n,h1,h2,h3,by simpa using ee r⟩
theorem ma{kvs:List (List Key×V)}(ok:HOk P w H h)(e:Rd H a (.dT kvs)):kvs.length<=sizeLine/\(a==sysModules)=false /\
  ∃ xs,KT H kvs xs/\h.DictOfH (tupleKind (aP P w)) a xs:=by
 obtain⟨z,y,xs,r,o,es,ep,h1,h2,h3,h4,h5⟩:=(show bx P w H h a (.dT kvs) from tJ ok e);refine⟨z,y,xs,r,o,es,ep,h1,h2,h3,h4,λ x hx=>?_,h5⟩;have all:∀ {l:List (List Key×V)} {m:List (List Key×Addr×Value)},KT H l m->∀ x∈m,(tupleKind (aP P w)).is h x.1 x.2.1:=by
  intro l m q
  induction q with
  | nil=>intro x hx;exact nomatch hx
  | @cons p q ps qs hq t ih =>
   intro x hx;rcases List.mem_cons.mp hx with e | hx
   ·subst e;exact pP ok (by rw[<- hq.1];exact hq.2.1)
   ·exact ih x hx
 exact all r x hx
theorem wm{kvs:List (List Key×V)}(ok:HOk P w H h)(e:H a=some (.dT kvs)):kvs.length<=sizeLine/\(a==sysModules)=false /\
  ∃ xs,KT H kvs xs/\h.DictOfH (tupleKind (aP P w)) a xs:=ma ok (.inl e)
end
def xr(H:Hp)(a:Addr)(y v:V)(H':Hp):Prop:=
 (∃ kvs k,H a=some (.dK kvs)/\y=kV k/\kvs.length<sizeLine/\H'=upd H a (.dK (putK kvs k v))) \/
 ∃ kvs k b,H a=some (.dT kvs)/\y=.ref b/\H b=some (.tup (k.map kV))/\kvs.length<sizeLine/\H'=upd H a (.dT (putK kvs k v))
section
variable {X:Cx}{pins:PN}{σ:St}{H:Hp}{s:Shared}{a:Addr}{y v:V}{u r:Value}{o:Option V}{A:Around}{E:VP}
theorem Inv.big(I:Inv X pins σ H s):sysModules<s.heap.objs.size:=by have h:mainGlobals<s.heap.objs.size:=(I.mod.glob.keeps I.bk).lt;exact Nat.lt_trans (by decide) h
theorem iM{h':Heap}{t':Nat}{ob:HO}(I:Inv X pins σ H s)(mu:Mut (H a))(hs:Heap.SameBut a s.heap h')(he:∃ q,h'.get? a=some q)(new:bx X.prog X.w (upd H a ob) h' a ob) :
  Inv X pins σ (upd H a ob) {s with heap:=h',toks:=t'}:=
 I.write (x:=a) (e:=a) mu (.inl rfl) (λ b q hb z=>(hs.2 b hb).trans z) he new
theorem pG{P:Program}{w:World}{H':Hp}{h':Heap}{kvs:List (Key×V)}{vs:List (Key×Value)}(z:kvs.length<=sizeLine)(hd:(a==sysModules)=false)(rel:KV kvs vs)(dd:h'.DictOf (aP P w) a vs) :
  bx P w H' h' a (.dK kvs):=⟨z,hd,vs,rel,dd⟩
theorem lh{H':Hp}{Q:Unit->Shared->Prop}(hu:A.units+1<cLine)(I:Inv X pins σ H s)(g:xr H a y v H')(ry:RelV y u)(rv:RelV v r)(h:∀ s',Inv X pins σ H' s'->Q () s') :
  wpAny (model X.prog X.w) A (setItem (.ref a) u r) Q E s:=by
 rcases g with ⟨kvs,k,e,ey,l,eH⟩ | ⟨kvs,k,b,e,ey,eb,l,eH⟩
 ·subst ey eH;obtain⟨z,hd,vs,rel,dd⟩:=tU I.hok e;have hz:vs.length<=sizeLine:=by rw[<- rel.length];exact z
  have hl:(putK kvs k v).length<=sizeLine:=by have:=cI kvs k v;omega
  refine wpAny_setItem_pairs (hsz:=hz) (ka ry) dd λ h' dd' hs=>h _ ?_;have he:∃ q,h'.get? a=some q:=let ⟨q,_,_,hq,_⟩:=dd'; ⟨q,hq⟩;exact iM I (by rw[e];exact True.intro) hs he (pG hl hd (rel.put k rv) dd')
 ·subst ey eH;cases (show u=Value.ref b from ry);obtain⟨z,hd,xs,rel,dd⟩:=wm I.hok e;have hz:xs.length<=sizeLine:=by rw[<- Paired.length rel];exact z
  have hl:(putK kvs k v).length<=sizeLine:=by have:=cI kvs k v;omega
  refine wpAny_setItem_heap (hsz:=hz) (tupleKind_room_in1 hu) (pP I.hok eb) dd λ h' dd' hs=>h _ ?_;obtain⟨q,es,ep,hq,h2,h3,h4,_,h5⟩:=dd';refine iM I (by rw[e];exact True.intro) hs ⟨q,hq⟩ ⟨hl,hd,_,(rel.put k eb rv).keeps λ c ys ec=>?_,q,es,ep,hq,h2,h3,h4,h5⟩;rw[ay (qZ ec e (λ z=>nomatch z))];exact ec
end
section
variable {X:Cx}{pins:PN}{σ:St}{H:Hp}{s:Shared}{a:Addr}{kvs:List (Key×V)}{k:Key}{u:Value}{A:Around}{E:VP}
end
def vI(td ty tv:TE):TS:=λ D σ H=>tv σ H λ v H1=>td σ H1 λ x H2=>ty σ H2 λ y H3=>∃ a H4,x=.ref a/\xr H3 a y v H4/\D.nx σ H4
section
variable {X:Cx}{o i e value:Expr}{pos pos' tpos:Pos}{td ty tv:TE}
theorem kJ(hu:X.A.units+1<cLine)(ho:PE X o td)(hi:PE X i ty)(hv:PE X value tv)(hs:swapsWith value (some (.Subscript o i pos')) pos.line X.env=pure false) :
  PS X (.Assign [.Subscript o i pos'] value pos) (vI td ty tv):=by
 intro pins s σ H D I h;refine wpAny_Assign_Subscript (thn (hv pins s σ H _ I h) λ r s1 ⟨v,H1,I1,rv,q1⟩=>thn (ho pins s1 σ H1 _ I1 q1) λ u s2 ⟨x,H2,I2,rx,q2⟩=>thn (hi pins s2 σ H2 _ I2 q2) λ iv s3 ⟨y,H3,I3,ry,a,H4,ex,g,q3⟩=>?_) hs;subst ex;obtain rfl:u=Value.ref a:=rx;exact lh hu I3 g ry rv λ s4 I4=>⟨σ,H4,I4,q3⟩
end
theorem n6{P:Program}{w:World}{H:Hp}(h:Heap)(hb:sysModules<h.objs.size):bx P w H (h.push {cls:=.type "dict",data:=.dict #[]}) h.objs.size (.dK []):=
 ⟨Nat.zero_le _,beq_eq_false_iff_ne.mpr (Ne.symm (Nat.ne_of_lt hb)),[],.nil,Heap.DictOf.new h⟩
theorem nO{P:Program}{w:World}{H:Hp}(h:Heap)(hb:sysModules<h.objs.size):bx P w H (h.push {cls:=.type "dict",data:=.dict #[]}) h.objs.size (.dT []):=
 ⟨Nat.zero_le _,beq_eq_false_iff_ne.mpr (Ne.symm (Nat.ne_of_lt hb)),[],.nil,_,#[],0,Heap.get?_push_size _ rfl,⟨rfl,rfl,rfl⟩,rfl,rfl,List.nodup_nil⟩
def t4:TE:=λ _ H Q=>∀ p,H p=none->Q (.ref p) (upd H p (.dK []))
def sQ:TE:=λ _ H Q=>∀ p,H p=none->Q (.ref p) (upd H p (.dT []))
section
variable {X:Cx}{pos:Pos}
theorem ow:PE X (.Dict [] [] pos) t4:=λ pins s σ H Q I h =>
 wpAny_Dict_empty ⟨.ref s.heap.objs.size,_,I.laid (a:=s.heap.objs.size) (o:=.dK []) (t':=s.toks) (λ _ _ q=>Heap.get?_push_of_some _ q) (Nat.le_refl _) (n6 s.heap I.big),rfl,h _ (I.hok.fresh (Nat.le_refl _))⟩
theorem oZ:PE X (.Dict [] [] pos) sQ:=λ pins s σ H Q I h =>
 wpAny_Dict_empty ⟨.ref s.heap.objs.size,_,I.laid (a:=s.heap.objs.size) (o:=.dT []) (t':=s.toks) (λ _ _ q=>Heap.get?_push_of_some _ q) (Nat.le_refl _) (nO s.heap I.big),rfl,h _ (I.hok.fresh (Nat.le_refl _))⟩
end
structure M1(X:Cx)(o:Expr)(m:Str)(apos:Pos)(e:Expr)(cpos:Pos):Prop where
 base:attributeBase o m X.env (eval o X.env)=eval o X.env
 few:((backTo cpos (starEach [e] X.env)).all (λ x=>!x.1)&&(backToKw cpos (keywordEach [] X.env)).all (λ x=>x.1.isSome)
  && decide (([e]:List Expr).length+([]:List Keyword).length+(if ([]:List Keyword).isEmpty then 0 else 1)<30))=true
 line:(apos.endLine==cpos.line)=true
 trees:backTo cpos (starEach [e] X.env)=[(false,eval e X.env)]
structure M2(X:Cx)(o:Expr)(m:Str)(apos:Pos)(e f:Expr)(cpos:Pos):Prop where
 base:attributeBase o m X.env (eval o X.env)=eval o X.env
 few:((backTo cpos (starEach [e,f] X.env)).all (λ x=>!x.1)&&(backToKw cpos (keywordEach [] X.env)).all (λ x=>x.1.isSome)
  && decide (([e,f]:List Expr).length+([]:List Keyword).length+(if ([]:List Keyword).isEmpty then 0 else 1)<30))=true
 line:(apos.endLine==cpos.line)=true
 trees:backTo cpos (starEach [e,f] X.env)=[(false,eval e X.env),(false,eval f X.env)]
def IsD(H:Hp)(a:Addr):Prop:=(∃ kvs,Rd H a (.dK kvs))\/∃ kvs,Rd H a (.dT kvs)
theorem lM{X:Cx}{pins:PN}{σ:St}{H:Hp}{s:Shared}{a:Addr}(I:Inv X pins σ H s)(d:IsD H a) :
  s.TypeIs (.ref a) "dict" /\ (∀ b,Value.ref a=.ref b->∃ ob,s.heap.get? b=some ob/\ob.dict=none)/\(a==sysModules)=false:=by
 rcases d with ⟨kvs,e⟩ | ⟨kvs,e⟩
 ·obtain⟨_,hd,vs,_,dd⟩:=qR I.hok e;refine⟨dd.typeIs,λ b q=>?_,hd⟩;cases q;obtain⟨ob,_,_,h1,h2,_⟩:=dd;exact⟨ob,h1,h2.2.1⟩
 ·obtain⟨_,hd,xs,_,dd⟩:=ma I.hok e;refine⟨dd.typeIs,λ b q=>?_,hd⟩;cases q;obtain⟨ob,_,_,h1,h2,_⟩:=dd;exact⟨ob,h1,h2.2.1⟩
section
variable {X:Cx}{pins:PN}{σ:St}{H:Hp}{s:Shared}{a:Addr}{y d:V}{u r:Value}{o:Option V}{A:Around}{E:VP}
end
section
variable {X:Cx}{o e f:Expr}{apos cpos:Pos}{td ty tx:TE}
end
section
variable {X:Cx}{pins:PN}{σ:St}{H:Hp}{s:Shared}{a:Addr}{kvs:List (Key×V)}{A:Around}{E:VP}
end
section
variable {X:Cx}{pins:PN}{σ:St}{H:Hp}{s:Shared}{a:Addr}{y:V}{u:Value}{A:Around}{E:VP}
end
end L2
set_option maxHeartbeats 0
namespace L2
def Fz:HO->Prop
 | .lst _=>True
 | .dK _=>True
 | _=>False
theorem uy(e:H p=some u)(f:Fz u):Un fs ex H (upd H p (.frz o u)) h h where
 keep:=λ b ob q _ _ _=>q
 slot:=λ b ob q _ _ _=>⟨ob.slots,q⟩
 free:=λ b ob _ n _=>by rw[ay (Ne.symm (aX e n))];exact n
 there:=λ b ob q _=>⟨ob,q⟩
 tups:=λ b xs q=>by
  have:b≠p:=λ z=>by subst z;rw[e] at q;cases q;exact f
  rw[ay this];exact q
 frzs:=λ b ob v q=>by
  have:b≠p:=λ z=>by subst z;rw[e] at q;cases q;exact f
  rw[ay this];exact q
 tbls:=λ b ps q=>by
  have:b≠p:=λ z=>by subst z;rw[e] at q;cases q;exact f
  exact⟨#[],by rw[ay this,q];simp⟩
theorem bx.xO(f:Fz u)(x:bx P w H h a u):bx P w H' h a u:=by
 cases u with
 | lst xs=>exact x
 | dK kvs=>exact x
 | _=>exact f.elim
theorem bx.obj(f:Fz u)(x:bx P w H h a u):∃ o,h.get? a=some o:=by
 cases u with
 | lst xs=>obtain⟨_,_,_,_,e⟩:=x;exact⟨_,e⟩
 | dK kvs=>obtain⟨_,_,_,_,o,_,_,e,_⟩:=x;exact⟨o,e⟩
 | _=>exact f.elim
theorem Inv.freeze(I:Inv X pins σ H s)(e:H p=some u)(f:Fz u):∃ o,Inv X pins σ (upd H p (.frz o u)) s:=by
 obtain⟨o,ho⟩:=(I.hok p u e).obj f;refine⟨o,I.un (h':=s.heap) (t':=s.toks) (uy e f) λ b v q=>?_⟩
 by_cases hb:b=p
 ·subst hb;rw[ax] at q;cases q;exact⟨ho,(I.hok b u e).xO f⟩
 ·rw[ay hb] at q;refine(I.hok b v q).qi (λ _ _ _ q=>q) (λ c r=>?_) λ c xs r=>?_
  ·have:c≠p:=λ z=>by subst z;rw[e] at r;cases r;exact f
   rw[ay this];exact r
  ·have:c≠p:=λ z=>by subst z;rw[e] at r;cases r;exact f
   rw[ay this];exact r
def wZ(t:TE):TE:=λ σ H Q=>t σ H λ v H1=>∃ p u,v=.ref p/\H1 p=some u/\Fz u/\∀ o,Q v (upd H1 p (.frz o u))
theorem jJ(h:PE X e t):PE X e (wZ t):=by intro pins s σ H Q I hq;refine thn (h pins s σ H _ I hq) λ v s1 hq23=>?_;obtain⟨x,H1,I1,r1,p,u,e1,e2,f,q⟩:=hq23;obtain⟨o,I2⟩:=I1.freeze e2 f;exact⟨x,_,I2,r1,q o⟩
theorem Inv.tu(I:Inv X pins σ H s)(e:s.heap.get? D=some {cls:=.type "list",data:=.seq us.toArray n})(hn:H D=none)(hv:Vals ys us)(hz:ys.length<=sizeLine)
  (h0:X.s₀.heap.objs.size<=D)(hL:D≠X.env.locals)(hc:∀ x c,X.env.cells.lookup x=some c->c≠D)(hp:∀ p∈X.pn++pins,p.1≠D):Inv X pins σ (upd H D (.lst ys)) s:=by
 have ne:∀ b u,H b=some u->b≠D:=λ b u q=>aX q hn;refine I.step (h':=s.heap) (g':=s.gens) (d':=s.drawn) (t':=s.toks) (ch:=[D]) (λ b hb=>?_) (λ b o _ _ _ q _=>q) (λ b o _ _ _ q _=>⟨o.slots,q⟩) (λ b o hb q n=>?_) (λ b o _ q=>⟨o,q⟩)
  (λ b xs q=>by rw[ay (ne b _ q)];exact q) (λ b o u q=>by rw[ay (ne b _ q)];exact q) (λ b ps q=>⟨#[],by rw[ay (ne b _ q),q];simp⟩) (λ m hm=>hm) (λ b u q=>?_) I.bare
 ·have e:b=D:=by simpa using hb
  subst e;exact⟨.inr h0,hL,hc,hp⟩
 ·rw[ay (λ z=>hb (by simp[z]))];exact n
 ·by_cases hb:b=D
  ·subst hb;rw[ax] at q;cases q;exact⟨hz,us,n,hv,e⟩
  ·rw[ay hb] at q;exact(I.hok b u q).qi (λ _ _ _ q=>q) (λ c r=>by rw[ay (ne c _ r)];exact r) λ c xs r=>by rw[ay (ne c _ r)];exact r
abbrev lO(ifs:List Expr)(env:Env):Sem Bool:=forIn ifs true λ c r=>if r=true then do let ok <- isTrue c env (eval c env);pure (ForInStep.yield ok) else pure (ForInStep.yield r)
theorem gL(I:Nat->Shared->Prop)
  (turn:∀ n s,I n s->wpAny (model prog w) A (pyNext it) (λ r s₁=>match r with
   | none=>R (.ok .next) s₁
   | some v=>wpAny (model prog w) A (letOwnedTupleGo target it v) (λ _ s₁'=>wpAny (model prog w) A (assign target env v) (λ _ s₂ =>
     wpAny (model prog w) A (lO ifs env) (λ ok s₃ =>
      if ok=true then wpAny (model prog w) A (eval elt env) (λ x s₄ =>
       wpAny (model prog w) A (call (.builtin "list.append") [acc,x]) (λ _ s₅=>∃ m,m<n/\I m s₅) (λ _ _=>False) s₄) (λ _ _=>False) s₃
      else ∃ m,m<n/\I m s₃) (λ _ _=>False) s₂) (λ _ _=>False) s₁') (λ _ _=>False) s₁) (λ _ _=>False) s)
  (n:Nat)(h:I n s) :
  codeAny (model prog w) A (.compLoop (.ListComp elt [⟨target,iter,ifs,0⟩] scope pos) 0 it acc env) R s:=by
 refine codeAny_loop rfl I (λ n s hI=>?_) n h;show wpAny _ A ((compTurn (.ListComp elt [⟨target,iter,ifs,0⟩] scope pos) 0 it acc env).onRaise (λ x=>do noteFrame x env;theTreesLotGoes x)) _ _ s;refine wpAny_noted ?_;rw[compTurn_list];refine wpAny_bind (wpAny_standAt (wpAny_bind (wpAny_mono (turn n s hI) (λ r s₁ h₁=>?_) λ _ _ h'=>h'.elim)));cases r with
 | none=>exact wpAny_pure h₁
 | some v =>
  refine wpAny_bind (wpAny_mono h₁ (λ _ s₁' h₁'=>?_) λ _ _ h'=>h'.elim);refine wpAny_bind (wpAny_mono h₁' (λ _ s₂ h₂=>wpAny_bind (wpAny_mono h₂ (λ ok s₃ h₃=>?_) λ _ _ h'=>h'.elim)) λ _ _ h'=>h'.elim);cases ok with
  | false=>exact wpAny_pure ⟨rfl,h₃⟩
  | true =>
   exact wpAny_bind (wpAny_bind (wpAny_mono h₃ (λ x s₄ h₄=>wpAny_bind (wpAny_mono h₄ (λ _ s₅ h₅=>wpAny_pure (wpAny_pure ⟨rfl,h₅⟩)) λ _ _ h'=>h'.elim)) λ _ _ h'=>h'.elim))
theorem gW(h:∀ x∈scope.names,x.2=.free->∃ c,env.cells.lookup x.1=some c) :
  ∃ cl,closureFor scope env=pure cl/\(∀ n c,cl.lookup n=some c->env.cells.lookup n=some c)/\(∀ n,(n,NameKind.free)∈scope.names->∃ c,cl.lookup n=some c):=by
 have key:∀ (l:List (Str×NameKind)) (cs:List (Str×Addr)),(∀ x∈l,x.2=.free->∃ c,env.cells.lookup x.1=some c)->(∀ n c,cs.lookup n=some c->env.cells.lookup n=some c) ->
   ∃ cl:List (Str×Addr),(forIn l cs λ x r=>match x with
    | (name,kind)=>if (kind==NameKind.free)=true then do let a <- cellOf env name;pure (ForInStep.yield ((name,a)::r)) else pure (ForInStep.yield r):Sem (List (Str×Addr)))=pure cl /\
    (∀ n c,cl.lookup n=some c->env.cells.lookup n=some c)/\(∀ n c,cs.lookup n=some c->∃ c,cl.lookup n=some c)/\(∀ n,(n,NameKind.free)∈l->∃ c,cl.lookup n=some c):=by
  intro l
  induction l with
  | nil=>intro cs _ hc;exact⟨cs,rfl,hc,λ n c e=>⟨c,e⟩,λ n hn=>nomatch hn⟩
  | cons x l ih =>
   intro cs hl hc;obtain⟨name,kind⟩:=x
   by_cases hk:kind=.free
   ·subst hk;obtain⟨c,e⟩:=hl (name,.free) List.mem_cons_self rfl;obtain⟨cl,h1,h2,h3,h4⟩:=ih ((name,c)::cs) (λ y hy=>hl y (List.mem_cons_of_mem _ hy)) (λ n d q=>by
     rw[List.lookup_cons] at q;cases hb:n==name with
     | true =>
      rw[hb] at q;cases q;rw[eq_of_beq hb];exact e
     | false =>
      rw[hb] at q;exact hc n d q)
    refine⟨cl,?_,h2,λ n d q=>?_,λ n hn=>?_⟩
    ·rw[List.forIn_cons];simp only[beq_self_eq_true,if_true,cellOf,e,pure_bind];exact h1
    ·cases hb:n==name with
     | true=>exact h3 n c (by rw[List.lookup_cons,hb])
     | false=>exact h3 n d (by rw[List.lookup_cons,hb];exact q)
    ·rcases List.mem_cons.mp hn with z | z
     ·cases z;exact h3 name c (by rw[List.lookup_cons];simp)
     ·exact h4 n z
   ·obtain⟨cl,h1,h2,h3,h4⟩:=ih cs (λ y hy=>hl y (List.mem_cons_of_mem _ hy)) hc;refine⟨cl,?_,h2,h3,λ n hn=>?_⟩
    ·rw[List.forIn_cons];have:(kind==NameKind.free)=false:=by simpa using hk
     simp only[this,Bool.false_eq_true,if_false,pure_bind];exact h1
    ·rcases List.mem_cons.mp hn with z | z
     ·cases z;exact absurd rfl hk
     ·exact h4 n z
 obtain⟨cl,h1,h2,_,h4⟩:=key scope.names [] h (λ n c e=>by simp at e);refine⟨cl,?_,h2,h4⟩;unfold closureFor;simp only[bind_pure];exact h1
theorem dE{sc:Scope}{env:Env}{x:Str}:∀ {names:List (Str×NameKind)},(names.map λ(n,k)=>if (k==NameKind.free&&env.scope.kind==.function&&env.kindOf n==some .cell) then (n,NameKind.cell) else (n,k)).lookup x=some .cell \/
  (names.map λ(n,k)=>if (k==NameKind.free&&env.scope.kind==.function&&env.kindOf n==some .cell) then (n,NameKind.cell) else (n,k)).lookup x=some .free->(∀ y∈names,y.2 ≠ .cell)->(x,NameKind.free)∈names
 | [],h,_=>by simp at h
 | (n,k)::r,h,hc=>by
  have ih:=@dE sc env x r
  by_cases hk:(k==NameKind.free&&env.scope.kind==.function&&env.kindOf n==some .cell)=true
  ·simp only[List.map_cons,if_pos hk,List.lookup_cons] at h;cases hx:x==n with
   | true =>
    have e:=eq_of_beq hx;subst e;simp only[Bool.and_eq_true] at hk;have:=eq_of_beq hk.1.1;subst this;exact List.mem_cons_self
   | false =>
    rw[hx] at h;exact List.mem_cons_of_mem _ (ih h λ y hy=>hc y (List.mem_cons_of_mem _ hy))
  ·simp only[List.map_cons,if_neg hk,List.lookup_cons] at h;cases hx:x==n with
   | true =>
    rw[hx] at h;have e:=eq_of_beq hx;subst e;rcases h with h | h
    ·cases h;exact absurd rfl (hc (x,.cell) List.mem_cons_self)
    ·cases h;exact List.mem_cons_self
   | false =>
    rw[hx] at h;exact List.mem_cons_of_mem _ (ih h λ y hy=>hc y (List.mem_cons_of_mem _ hy))
theorem bJ{env:Env}{x:Str}:∀ {names:List (Str×NameKind)},names.lookup x=some .free ->
  (names.map λ(n,k)=>if (k==NameKind.free&&env.scope.kind==.function&&env.kindOf n==some .cell) then (n,NameKind.cell) else (n,k)).lookup x=some .cell \/
  (names.map λ(n,k)=>if (k==NameKind.free&&env.scope.kind==.function&&env.kindOf n==some .cell) then (n,NameKind.cell) else (n,k)).lookup x=some .free
 | [],h=>by simp at h
 | (n,k)::r,h=>by
  have ih:=@bJ env x r
  by_cases hk:(k==NameKind.free&&env.scope.kind==.function&&env.kindOf n==some .cell)=true
  ·simp only[List.map_cons,if_pos hk,List.lookup_cons];cases hx:x==n with
   | true=>exact .inl rfl
   | false=>rw[List.lookup_cons,hx] at h;exact ih h
  ·simp only[List.map_cons,if_neg hk,List.lookup_cons];cases hx:x==n with
   | true=>rw[List.lookup_cons,hx] at h;exact .inr h
   | false=>rw[List.lookup_cons,hx] at h;exact ih h
def blk(X:Cx)(sc:Scope)(N':List Str)(cl:List (Str×Addr))(C:Addr)(s:Shared)(H:Hp)(ex:List Addr)(pins:PN):Cx:=
 {X with N:=N',s₀:=s,H₀:=H,env:=compEnvC sc cl C X.env,outer:=X.stack,ex:=ex,fn:=λ _=>false,pn:=X.pn++pins,xe:=λ _ _=>False}
def lcN(X:Cx)(own:List Str)(fr:List Nat):List Str:=own++fr.map λ j=>X.N.getD j Str.empty
def lcS(k:Nat)(fr:List Nat)(σ:St):St:=List.replicate k none++fr.map λ j=>(σ[j]?).getD none
def vB(N:List Str)(sc:Scope)(fr:List Nat):Bool:=fr.all λ j=>match N[j]? with
 | some x=>sc.names.lookup x==some .free
 | none=>false
structure lz(X:Cx)(sc:Scope)(own:List Str)(fr:List Nat):Prop where
 kind:sc.kind=.function
 cell:∀ y∈sc.names,y.2 ≠ .cell
 free:∀ y∈sc.names,y.2=.free->(X.env.kindOf y.1=some .cell\/X.env.kindOf y.1=some .free)
 names:∀ y∈sc.names,y.2=.local->sc.names.lookup y.1=some .local
 fr:vB X.N sc fr=true
def PTs(X:Cx)(ifs:List Expr)(t:TT):Prop:=
 ∀ (pins:PN) (s:Shared) (σ:St) (H:Hp) (Q:Bool->Hp->Prop),Inv X pins σ H s->t σ H Q->wpAny (model X.prog X.w) X.A (lO ifs X.env) (TP X pins σ Q) X.xe s
def xE:TT:=λ _ H Q=>Q true H
theorem sv:PTs X [] xE:=λ _ _ _ H _ I h=>wpAny_tests_nil ⟨H,I,h⟩
theorem oW(h:vB N sc fr=true)(hj:j∈fr):∃ x,N[j]? =some x/\sc.names.lookup x=some .free:=by
 have q:=List.all_eq_true.mp h j hj;cases e:N[j]? with
 | none=>simp[e] at q
 | some x =>
  simp only[e] at q;exact⟨x,rfl,eq_of_beq q⟩
theorem u3(L:lz X sc own fr)(I:Inv X pins σ H s)(hf:∀ b∈fp,nr X pins H b)(hb:∀ b∈fp,b<s.heap.objs.size)(hC:s.heap.objs.size<=C)
  (c1:∀ n c,cl.lookup n=some c->X.env.cells.lookup n=some c)(c2:∀ n,(n,NameKind.free)∈sc.names->∃ c,cl.lookup n=some c):(blk X sc (lcN X own fr) cl C s H fp pins).Ok where
 mod:=I.ok.mod
 kind:=L.kind
 glob:=I.ok.glob
 blt:=I.ok.blt
 above:=hC
 inj:=λ x y c a b=>I.ok.inj x y c (c1 _ _ a) (c1 _ _ b)
 has:=λ x hx=>c2 x (dE (sc:=sc) (env:=X.env) hx L.cell)
 cab:=λ x c z=>absurd (show false=true from z) Bool.false_ne_true
 hd:=I.ok.hd
 frames:=I.ok.frames
 stk:=.inl rfl
 exf:=λ b z=>⟨Nat.ne_of_lt (Nat.lt_of_lt_of_le (hb b z) hC),λ x c e=>(hf b z).2.2.2.2.1 x c (c1 _ _ e)⟩
 bs:=I.bs
 bsz:=Nat.le_trans I.ok.bsz I.sz
 noex:=λ b o e z=>by
  rcases(hf b z).2.2.2.1 with q | q
  ·exact I.ok.noex b o e q
  ·exact absurd (Nat.lt_of_lt_of_le (Heap.lt_size e) (Nat.le_trans I.ok.bsz q)) (Nat.lt_irrefl _)
 exfs:=λ b z q=>by
  rcases List.mem_cons.mp (I.fm b q) with e | e
  ·exact(hf b z).2.1 e
  ·exact(hf b z).2.2.1 e
 jP:=I.stack
 frf:=I.mj
theorem rp(L:lz X sc own fr)(I:Inv X pins σ H s)(hf:∀ b∈fp,nr X pins H b)(hb:∀ b∈fp,b<s.heap.objs.size)(hC:s.heap.objs.size<=C)
  (c1:∀ n c,cl.lookup n=some c->X.env.cells.lookup n=some c)(c2:∀ n,(n,NameKind.free)∈sc.names->∃ c,cl.lookup n=some c)
(hn:h1.Ns C m) (k:∀ b o,s.heap.get? b=some o->h1.get? b=some o) :
  Inv (blk X sc (lcN X own fr) cl C s H fp pins) [] (lcS own.length fr σ) H {s with heap:=h1,toks:=tk}:=by
 have ok:=u3 L I hf hb hC c1 c2;refine⟨ok,rfl,I.bare,Un.kept k,⟨m,hn,λ i x v e1 e2 e3=>?_⟩,λ x c e=>?_,I.hok.fresh hC,λ x c e=>I.freeC x c (c1 _ _ e),λ p hp=>?_,I.hok.kept k,?_⟩
 ·-- one of the names around
  have hi:¬ i<own.length:=λ hi=>by
   unfold lcS at e2;rw[List.getElem?_append_left (by simpa using hi),List.getElem?_replicate] at e2
   split at e2<;>cases e2
  have e1':(lcN X own fr)[i]? =some x:=e1;unfold lcN at e1';unfold lcS at e2;rw[List.getElem?_append_right (by omega),List.getElem?_map] at e1';rw[List.getElem?_append_right (by simpa using hi),List.getElem?_map,List.length_replicate] at e2;cases q:fr[i-own.length]? with
  | none=>rw[q] at e1';cases e1'
  | some j =>
   rw[q] at e1' e2;obtain⟨y,hy,hyf⟩:=oW L.fr (List.mem_of_getElem? q);have ex:y=x:=by have:=Option.some.inj e1';rw[<- this];simp[List.getD,hy]
   subst ex;have ev:σ[j]? =some (some v):=by
    have z:(σ[j]?).getD none=some v:=Option.some.inj e2;cases w:σ[j]? with
    | none=>rw[w] at z;cases z
    | some o=>rw[w] at z;exact congrArg some z
   have hm:(y,NameKind.free)∈sc.names:=PySem.mem_of_lookup hyf;have hk:=L.free _ hm rfl;have vis:Vis X.env.scope y:=by
    rcases hk with z | z
    ·exact .inr (.inl z)
    ·exact .inr (.inr z)
   obtain⟨m0,hn0,hl⟩:=I.loc;obtain⟨u,r,l⟩:=hl j y v hy ev vis;refine⟨u,r,.inr ⟨?_,?_⟩⟩
   ·exact bJ (env:=X.env) hyf
   ·obtain⟨c,hc⟩:=c2 y hm;rcases l with ⟨z,_⟩ | ⟨_,c',hc',hcell⟩
    ·rcases hk with q | q
     ·exact absurd (show X.env.kindOf y=some .local from z) (by rw[q];decide)
     ·exact absurd (show X.env.kindOf y=some .local from z) (by rw[q];decide)
    ·have:c=c':=Option.some.inj ((c1 _ _ hc).symm.trans hc');subst this;obtain⟨o,ho,hd⟩:=hcell;exact⟨c,hc,o,k _ _ ho,hd⟩
 ·obtain⟨v,o,ho,hd⟩:=I.cell x c (c1 _ _ e);exact⟨v,o,k _ _ ho,hd⟩
 ·have hp':p∈X.pn++pins:=by simpa [blk] using hp
  obtain⟨a1,a2,a3,a4,a5⟩:=I.pin p hp';refine⟨k _ _ a1,a2,Nat.ne_of_lt (Nat.lt_of_lt_of_le (Heap.lt_size a1) hC),λ q=>?_,a5⟩;rcases List.mem_cons.mp (I.fm _ q) with e | e
  ·exact a3 e
  ·exact a4 e
 ·show(lcS own.length fr σ).length=(lcN X own fr).length;simp[lcS,lcN]
abbrev LcW:=Nat->Nat->List V->St->Hp->Prop
def pj(J:It)(g:TG)(tt:TT)(te:TE)(W:LcW)(Fin:List V->Hp->Prop):Prop:=∀ i m ys τ H,W i m ys τ H ->
 (J.stop i H/\Fin ys H)\/(J.go i H/\ys.length<sizeLine/\∀ x H',J.yld i H x H'->g x τ H' λ τ2 H2=>tt τ2 H2 λ b H3 =>
  if b=true then te τ2 H3 λ y H4=>∃ m',m'<m/\W (i+1) m' (ys++[y]) τ2 H4 else ∃ m',m'<m/\W (i+1) m' ys τ2 H3)
section
variable {X:Cx}{pins:PN}{σ:St}{H:Hp}{s:Shared}{sc:Scope}{own:List Str}{fr:List Nat}{cl:List (Str×Addr)}{fp:List Addr}{it:Addr}{J:It}{tn:Nat->Heap->Prop}{g:TG}{tt:TT}{te:TE}{W:LcW}{Fin:List V->Hp->Prop}
 {elt tg iter:Expr}{ifs:List Expr}{pos:Pos}{E:VP}
theorem lx{RR:Value->Addr->Result->Shared->Prop}(hc:X.calm=true)(L:lz X sc own fr)(hcl1:∀ n c,cl.lookup n=some c->X.env.cells.lookup n=some c)(hcl2:∀ n,(n,NameKind.free)∈sc.names->∃ c,cl.lookup n=some c)
  (hg:∀ C s H ex pl,PG (blk X sc (lcN X own fr) cl C s H ex pl) tg g)(ht:∀ C s H ex pl,PTs (blk X sc (lcN X own fr) cl C s H ex pl) ifs tt)(he:∀ C s H ex pl,PE (blk X sc (lcN X own fr) cl C s H ex pl) elt te)
  (I:Inv X pins σ H s)(T:Turn X.prog X.w X.K tg J fp it tn)(st:tn 0 s.heap)(hf:∀ b∈fp,nr X pins H b)(w0:∃ m,W 0 m [] (lcS own.length fr σ) H)(turn:pj J g tt te W Fin)
  (hRR:∀ (D C:Addr) (s':Shared) (H':Hp) (ys:List V) (us:List Value) (n:Nat) (m:Str->Option Value),Inv X pins σ H' s'->s'.heap.get? D=some {cls:=.type "list",data:=.seq us.toArray n}->Vals ys us->ys.length<=sizeLine->H' D=none->H' C=none ->
   s.heap.objs.size<=D->s.heap.objs.size<=C->D≠C->s'.heap.Ns C m->Fin ys H'->RR (.ref D) C (.ok .next) s') :
  wpAny (model X.prog X.w) X.A (newList []) (λ acc s₃=>wpAny (model X.prog X.w) X.A (newFunctionEnv sc X.env.globals cl [] X.env.qual none .none (some X.env)) (λ cenv s₄ =>
   codeAny (model X.prog X.w) X.A (.compStart (.ListComp elt [⟨tg,iter,ifs,0⟩] sc pos) 0 (.ref it) acc {cenv with scope:=relabel sc X.env}) (RR acc cenv.locals) s₄) E s₃) E s:=by
 refine wpAny_newObj_type (wpAny_newFunctionEnv L.cell (by intro y hy;simp at hy) (λ h₁ hns₁ hsb₁=>?_) L.kind);dsimp only at hns₁ hsb₁ ⊢;generalize hH2:s.heap.push {cls:=.type "list",dict:=none,data:=.seq ([]:List Value).toArray}=H2 at hns₁ hsb₁ ⊢;have hCs:H2.objs.size=s.heap.objs.size+1:=by rw[<- hH2,Heap.size_push]
 have hD0:s.heap.objs.size≠H2.objs.size:=by rw[hCs];exact Nat.ne_of_lt (Nat.lt_succ_self _)
 have hCle:s.heap.objs.size<=H2.objs.size:=by rw[hCs];exact Nat.le_succ _
 have below:∀ b,b<s.heap.objs.size->b≠H2.objs.size/\b≠s.heap.objs.size:=λ b hb=>⟨by rw[hCs];exact Nat.ne_of_lt (Nat.lt_succ_of_lt hb),Nat.ne_of_lt hb⟩;have old:∀ b o,s.heap.get? b=some o->h₁.get? b=some o:=λ b o e=>hsb₁.extBut b o (below b (Heap.lt_size e)).1 (Heap.get?_push_of_some _ (hH2 ▸ Heap.get?_push_of_some _ e));have hacc:h₁.get? s.heap.objs.size=some {cls:=.type "list",data:=.seq ([]:List Value).toArray 0}:=hsb₁.extBut _ _ hD0 (Heap.get?_push_of_some _ (hH2 ▸ Heap.get?_push_size _ rfl));have hfb:∀ b∈fp,b<s.heap.objs.size:=λ b hb=>by obtain⟨o,e,_⟩:=T.obj 0 _ st b hb;exact Heap.lt_size e
 have I1:Inv (blk X sc (lcN X own fr) cl H2.objs.size s H fp pins) [] (lcS own.length fr σ) H {s with heap:=h₁,toks:=s.toks+([]:List (Str×Value)).length}:=rp L I hf hfb hCle hcl1 hcl2 hns₁ old;have st1:tn 0 h₁:=T.keep 0 _ _ st λ b _ o e=>old b o e;generalize hY:blk X sc (lcN X own fr) cl H2.objs.size s H fp pins=Y at I1;have hYp:Y.prog=X.prog:=by rw[<- hY];rfl
 have hYw:Y.w=X.w:=by rw[<- hY];rfl
 have hYK:Y.K=X.K:=by rw[<- hY];rfl
 have hYA:Y.A=X.A:=by rw[<- hY];rfl
 have hYc:Y.calm=true:=by rw[<- hY];exact hc
 have hYe:Y.env=compEnvC sc cl H2.objs.size X.env:=by rw[<- hY];rfl
 have hYx:Y.xe=λ _ _=>False:=by rw[<- hY];rfl
 have hYpn:Y.pn=X.pn++pins:=by rw[<- hY];rfl
 have hYs:Y.s₀=s:=by rw[<- hY];rfl
 have hYH:Y.H₀=H:=by rw[<- hY];rfl
 have hYex:Y.ex=fp:=by rw[<- hY];rfl
 have hYfs:Y.fs=frs X.stack:=by rw[<- hY];rfl
 have gY:=hg H2.objs.size s H fp pins;have tY:=ht H2.objs.size s H fp pins;have eY:=he H2.objs.size s H fp pins;rw[hY] at gY tY eY;have D_pin:∀ p∈Y.pn++([]:PN),p.1≠s.heap.objs.size:=λ p hp=>by rw[hYpn,List.append_nil] at hp;exact(below _ (Heap.lt_size (I.pin p hp).1)).2
 have D_cell:∀ x c,Y.env.cells.lookup x=some c->c≠s.heap.objs.size:=λ x c e=>by rw[hYe] at e;obtain⟨v,z⟩:=I.cell x c (hcl1 _ _ e);exact(below _ z.lt).2
 have D_loc:s.heap.objs.size≠Y.env.locals:=by rw[hYe];exact hD0
 have D_fs:s.heap.objs.size ∉ Y.fs:=by
  rw[hYfs];intro z;rcases List.mem_cons.mp (I.fm _ z) with e | e
  ·exact absurd I.lt (by rw[<- e];exact Nat.lt_irrefl _)
  ·exact I.xj (Nat.le_refl _) e
 have fpY:∀ {H':Hp} (pl:PN),(∀ b∈fp,H' b=none)->(∀ p∈pl,p.1=s.heap.objs.size)->∀ b∈fp,nr Y pl H' b:=λ {H'} pl hn hp b hb=>by
  obtain⟨_,f1,f2,f3,f4,f5⟩:=hf b hb;refine⟨hn b hb,by rw[hYe];exact(below b (hfb b hb)).1,?_,.inl (by rw[hYex];exact hb),λ x c e=>?_,λ p q=>?_⟩
  ·rw[hYfs];intro z;rcases List.mem_cons.mp (I.fm _ z) with e | e
   ·exact f1 e
   ·exact f2 e
  ·rw[hYe] at e;exact f4 x c (hcl1 _ _ e)
  ·rcases List.mem_append.mp q with z | z
   ·rw[hYpn] at z;exact f5 p z
   ·rw[hp p z];exact Ne.symm (below b (hfb b hb)).2
 have loop:∀ s₃:Shared,s₃={s with heap:=h₁,toks:=s.toks+([]:List (Str×Value)).length} ->
   codeAny (model X.prog X.w) X.A (.compLoop (.ListComp elt [⟨tg,iter,ifs,0⟩] sc pos) 0 (.ref it) (.ref s.heap.objs.size) (compEnvC sc cl H2.objs.size X.env)) (RR (.ref s.heap.objs.size) H2.objs.size) s₃:=by
  rintro s₃ rfl;obtain⟨m0,w0⟩:=w0;refine gL (λ n s'=>∃ i ys τ H' us k,Inv Y [] τ H' s'/\tn i s'.heap/\(∀ b∈fp,H' b=none)/\H' s.heap.objs.size=none/\s'.heap.get? s.heap.objs.size=some {cls:=.type "list",data:=.seq us.toArray k}/\Vals ys us/\ys.length<=sizeLine/\W i n ys τ H') ?_ m0
   ⟨0,[],_,H,[],0,I1,st1,λ b hb=>(hf b hb).1,I.hok.fresh (Nat.le_refl _),hacc,.nil,Nat.zero_le _,w0⟩
  rintro n s' ⟨i,ys,τ,H',us,k,I',st',hn',hD',ha',hv',hz',w'⟩;have Ip:Inv Y [(s.heap.objs.size,{cls:=.type "list",data:=.seq us.toArray k})] τ H' s':=I'.df λ p hp=>by
   have e:p=(s.heap.objs.size,{cls:=.type "list",data:=.seq us.toArray k}):=by simpa using hp
   subst e;exact⟨ha',hD',D_loc,D_fs,λ v z=>nomatch (show Data.seq _ _=Data.cell v from z)⟩
  have onlyD:∀ p∈[((s.heap.objs.size,{cls:=.type "list",data:=.seq us.toArray k}):Addr×Obj)],p.1=s.heap.objs.size:=λ p hp=>by
   have e:p=(s.heap.objs.size,{cls:=.type "list",data:=.seq us.toArray k}):=by simpa using hp
   subst e;rfl
  rcases turn i n ys τ H' w' with ⟨stop,fin⟩ | ⟨go,hlen,step⟩
  ·have q:=T.done Y hYp hYw hYK hYc i _ s' τ H' (λ _ _=>False) Ip (fpY _ hn' onlyD) st' stop;rw[hYA] at q;refine thn q λ r s4 hq24=>?_;obtain⟨hr,I4⟩:=hq24;subst hr;have un:Un (frs X.stack) fp H H' s.heap s4.heap:=by have z:=I4.base;rw[hYfs,hYex,hYH,hYs] at z;exact z
   have os4:s4.os=s.os:=by have z:=I4.os;rw[hYs] at z;exact z
   have hok4:HOk X.prog X.w H' s4.heap:=by have z:=I4.hok;rw[hYp,hYw] at z;exact z
   have hch:∀ b∈fp,(b∈X.ex\/X.s₀.heap.objs.size<=b)/\b≠X.env.locals/\(∀ x c,X.env.cells.lookup x=some c->c≠b)/\∀ p∈X.pn++pins,p.1≠b:=λ b hb=>by obtain⟨_,f1,f2,f3,f4,f5⟩:=hf b hb;exact⟨f3,f1,f4,f5⟩
   have IX:Inv X pins σ H' s4:=I.vU os4 un hok4 I4.bare hch;obtain⟨mC,hmC,_⟩:=I4.loc;have hCf:=I4.free;rw[hYe] at hmC hCf;have pD:=I4.pin (s.heap.objs.size,{cls:=.type "list",data:=.seq us.toArray k}) (List.mem_append_right _ (List.mem_singleton.mpr rfl));exact hRR _ _ s4 H' ys us k mC IX pD.1 hv' hz' pD.2.1 hCf (Nat.le_refl _) hCle hD0 hmC fin
  ·have q:=T.item Y hYp hYw hYK hYc i _ s' τ H' (λ _ _=>False) Ip (fpY _ hn' onlyD) st' go;rw[hYA] at q;refine thn q λ r s4 hq25=>?_;obtain⟨u,hr,h4⟩:=hq25;subst hr;refine thn h4 λ _ s5 hq26=>?_;obtain⟨x,H5,I5,r5,y5,st5,fr5⟩:=hq26;have I5':=I5.pinned (fpY _ fr5 onlyD) (T.obj _ _ st5);have g5:=gY _ s5 τ H5 x u _ I5' r5 (step x H5 y5);rw[hYp,hYw,hYA,hYe,hYx] at g5;refine thn g5 λ _ s6 hq27=>?_;obtain⟨σ6,H6,I6,q6⟩:=hq27;have t6:=tY _ s6 σ6 H6 _ I6 q6;rw[hYp,hYw,hYA,hYe,hYx] at t6;refine thn t6 λ ok s7 hq28=>?_;obtain⟨H7,I7,q7⟩:=hq28;have keepD:∀ {σ8:St} {H8:Hp} {s8:Shared},Inv Y ([(s.heap.objs.size,{cls:=.type "list",data:=.seq us.toArray k})]++fF fp s5.heap) σ8 H8 s8->s8.heap.get? s.heap.objs.size=some {cls:=.type "list",data:=.seq us.toArray k}/\H8 s.heap.objs.size=none:=
    λ {σ8 H8 s8} I8=>by have pD:=I8.pin (s.heap.objs.size,{cls:=.type "list",data:=.seq us.toArray k}) (List.mem_append_right _ (List.mem_append_left _ (List.mem_singleton.mpr rfl)));exact⟨pD.1,pD.2.1⟩
   have keepI:∀ {σ8:St} {H8:Hp} {s8:Shared},Inv Y ([(s.heap.objs.size,{cls:=.type "list",data:=.seq us.toArray k})]++fF fp s5.heap) σ8 H8 s8->tn (i+1) s8.heap/\∀ b∈fp,H8 b=none:=
    λ {σ8 H8 s8} I8=>by refine⟨T.keep _ _ _ st5 λ b hb o e=>(I8.pin (b,o) (List.mem_append_right _ (List.mem_append_right _ (cy hb e)))).1,λ b hb=>?_⟩;obtain⟨o,e,d⟩:=T.obj _ _ st5 b hb;exact(I8.pin (b,o) (List.mem_append_right _ (List.mem_append_right _ (cy hb e)))).2.1
   cases ok with
   | false =>
    rw[if_neg Bool.false_ne_true] at q7 ⊢;obtain⟨m',hm',w7⟩:=q7;obtain⟨a7,b7⟩:=keepD I7;obtain⟨c7,d7⟩:=keepI I7;exact⟨m',hm',i+1,ys,σ6,H7,us,k,I7.df (λ p hp=>(nomatch hp)),c7,d7,b7,a7,hv',hz',w7⟩
   | true =>
    rw[if_pos rfl] at q7 ⊢;have e7:=eY _ s7 σ6 H7 _ I7 q7;rw[hYp,hYw,hYA,hYe,hYx] at e7;refine thn e7 λ v s8 hq29=>?_;obtain⟨y,H8,I8,r8,m',hm',w8⟩:=hq29;obtain⟨a8,b8⟩:=keepD I8;obtain⟨c8,d8⟩:=keepI I8;have hl:=hv'.length;refine call_meets F.slot_list_append ⟨_,a8,rfl⟩ F.entry_list_append (F.args_list_append_2 _ _) (PySem.list_append s.heap.objs.size us.toArray k v (by rw[List.size_toArray];omega)) ⟨a8,?_⟩;have qu:=PySem.IsL.update a8 (λ xs=>xs.push v);have I9:=(I8.df (pins':=[]) λ p hp=>nomatch hp).turned (it:=s.heap.objs.size) (t':=s8.toks) (h':=s8.heap.update s.heap.objs.size (Obj.mapSeq λ xs=>xs.push v)) (λ b o hb e=>(Heap.get?_update_other s8.heap _ (Ne.symm hb)).trans e) b8 D_loc (.inr (by rw[hYs];exact Nat.le_refl _)) D_cell D_pin;have ep:us.toArray.push v=(us++[v]).toArray:=by simp
    rw[ep] at qu;refine⟨m',hm',i+1,ys++[y],σ6,H8,us++[v],(if (us++[v]).toArray.size==us.toArray.size then k else k+1),I9,T.keep _ _ _ c8 λ b hb o e=>(Heap.get?_update_other s8.heap _ (Ne.symm (below b (hfb b hb)).2)).trans e,d8,b8,?_,hv'.append (.cons r8 .nil),?_,w8⟩
    ·exact qu
    ·rw[List.length_append,List.length_singleton];omega
 exact codeAny_compStart_list (loop _ rfl) (T.self _ 0 _ _ _ st1 (loop _ rfl))
def tLC(wi:TI)(g:TG)(tt:TT)(te:TE)(k:Nat)(fr:List Nat):TE:=λ σ H Q=>wi σ H λ J H1=>∃ W:LcW,(∃ m,W 0 m [] (lcS k fr σ) H1)/\pj J g tt te W λ ys H2=>∀ p,H2 p=none->Q (.ref p) (upd H2 p (.lst ys))
theorem fw(L:lz X sc own fr)(ok:X.Ok):∃ cl,closureFor sc X.env=pure cl/\(∀ n c,cl.lookup n=some c->X.env.cells.lookup n=some c)/\(∀ n,(n,NameKind.free)∈sc.names->∃ c,cl.lookup n=some c):=
 gW λ x hx hf=>ok.has x.1 (L.free x hx hf)
theorem wa(hc:X.calm=true)(L:lz X sc own fr)(hi:PI X tg iter wi)
  (hg:∀ cl C s H ex pl,PG (blk X sc (lcN X own fr) cl C s H ex pl) tg g)(ht:∀ cl C s H ex pl,PTs (blk X sc (lcN X own fr) cl C s H ex pl) ifs tt)(he:∀ cl C s H ex pl,PE (blk X sc (lcN X own fr) cl C s H ex pl) elt te)
  (hs:∀ x,foldedSetIterable iter X.env x=pure x:=by intro _;rfl):PE X (.ListComp elt [⟨tg,iter,ifs,0⟩] sc pos) (tLC wi g tt te own.length fr):=by
 intro pins s σ H Q I h;obtain⟨cl,hcl,c1,c2⟩:=fw L I.ok;rw[eval_ListComp];refine wpAny_comprehension_free (use:=none) (g:=⟨tg,iter,ifs,0⟩) (gs:=[]) rfl hs hcl L.kind L.names ?_;refine thn (hi pins s σ H _ I h) λ v s1 h1=>thn h1 λ itv s2 h2=>?_;obtain⟨it,fp,tn,J,H2,e,I2,T,st2,f2,W,w0,turn⟩:=h2;subst e;refine lx (cl:=cl) hc L c1 c2 (hg cl) (ht cl) (he cl) I2 T st2 f2 w0 turn λ D C s' H' ys us n m I' a' hv hz hD hC dD dC hDC hns fin=>?_;refine⟨m,hns,λ h' sb=>?_⟩;have far:∀ b,s2.heap.objs.size<=b->(X.s₀.heap.objs.size<=b)/\b≠X.env.locals/\(∀ x c,X.env.cells.lookup x=some c->c≠b)/\∀ p∈X.pn++pins,p.1≠b:=λ b hb=>by obtain⟨_,f1,_,f3,f4,f5⟩:=I2.rX (H':=λ _=>none) hb rfl;refine⟨Nat.le_trans I2.sz hb,f1,f4,f5⟩
 obtain⟨z1,z2,z3,z4⟩:=far C dC;obtain⟨y1,y2,y3,y4⟩:=far D dD;have I3:Inv X pins σ H' {s' with heap:=h'}:=I'.turned (t':=s'.toks) (λ b o hb e=>sb.extBut b o hb e) hC z2 (.inr z1) z3 z4;exact⟨.ref D,_,I3.tu (sb.extBut _ _ hDC a') hD hv hz y1 y2 y3 y4,rfl,fin D hD⟩
theorem nM(hN:X.N.Nodup)(hi':X.N[i]? =some x)(hx:Loc X.env.scope x)(hc:X.calm=true)(L:lz X sc own fr)(hi:PI X tg iter wi)
  (hg:∀ cl C s H ex pl,PG (blk X sc (lcN X own fr) cl C s H ex pl) tg g)(ht:∀ cl C s H ex pl,PTs (blk X sc (lcN X own fr) cl C s H ex pl) ifs tt)(he:∀ cl C s H ex pl,PE (blk X sc (lcN X own fr) cl C s H ex pl) elt te)
  (hsw:swapsWith (.ListComp elt [⟨tg,iter,ifs,0⟩] sc pos) (some (.Name x pos')) spos.line X.env=pure true:=by rfl)
  (hs:∀ x,foldedSetIterable iter X.env x=pure x:=by intro _;rfl)(hf:X.fn x=true\/X.env.scope.names.lookup x=some .local:=by first | exact .inl rfl | exact .inr rfl | assumption) :
  PS X (.Assign [.Name x pos'] (.ListComp elt [⟨tg,iter,ifs,0⟩] sc pos) spos) (vi (tLC wi g tt te own.length fr) (q0 i)):=by
 intro pins s σ H D' I h;obtain⟨cl,hcl,c1,c2⟩:=fw L I.ok;rw[exec_Assign_Name_used _ _ _ _ hsw];refine wpAny_bind (wpAny_standAt (wpAny_bind ?_));show wpAny _ _ (evalThenUse (.ListComp elt [⟨tg,iter,ifs,0⟩] sc pos) X.env (assign (.Name x pos') X.env)) _ _ _;unfold evalThenUse;refine wpAny_bind ?_;refine wpAny_comprehension_free (use:=some (assign (.Name x pos') X.env)) (g:=⟨tg,iter,ifs,0⟩) (gs:=[]) rfl hs hcl L.kind L.names ?_;refine thn (hi pins s σ H _ I h) λ v s1 h1=>thn h1 λ itv s2 h2=>?_;obtain⟨it,fp,tn,J,H2,e,I2,T,st2,f2,W,w0,turn⟩:=h2;subst e;refine lx (cl:=cl) hc L c1 c2 (hg cl) (ht cl) (he cl) I2 T st2 f2 w0 turn λ D C s' H' ys us n m I' a' hv hz hD hC dD dC hDC hns fin=>?_;have far:∀ b,s2.heap.objs.size<=b->(X.s₀.heap.objs.size<=b)/\b≠X.env.locals/\(∀ x c,X.env.cells.lookup x=some c->c≠b)/\(b ∉ X.fs)/\∀ p∈X.pn++pins,p.1≠b:=λ b hb=>by obtain⟨_,f1,f2,f3,f4,f5⟩:=I2.rX (H':=λ _=>none) hb rfl;refine⟨Nat.le_trans I2.sz hb,f1,f4,f2,f5⟩
 obtain⟨z1,z2,z3,z0,z4⟩:=far C dC;obtain⟨y1,y2,y3,_,y4⟩:=far D dD;have I3:=I'.tu a' hD hv hz y1 y2 y3 y4;obtain⟨oC,hoC,nsC⟩:∃ o,s'.heap.get? C=some o/\∃ es ep,o.data=.dict es ep:=by obtain⟨o,es,ep,e1,e2,_⟩:=hns;exact⟨o,e1,es,ep,e2⟩
 have hCt:(upd H' D (.lst ys)) C=none:=by rw[ay (Ne.symm hDC)];exact hC
 have I4:Inv X (pins++[(C,oC)]) σ (upd H' D (.lst ys)) s':=I3.df λ p hp=>by
  rcases List.mem_append.mp hp with z | z
  ·exact I3.pin p (List.mem_append_right _ z)
  ·have e:p=(C,oC):=by simpa using z
   subst e;obtain⟨es,ep,hd⟩:=nsC;exact⟨hoC,hCt,z2,z0,λ v z=>by have z':oC.data=.cell v:=z;rw[hd] at z';cases z'⟩
 refine thn (lj (pos:=pos') hN hi' hx hf _ s' σ _ (.ref D) (.ref D) _ I4 rfl (fin D hD)) λ _ s5 hq30=>?_;obtain⟨σ5,H5,I5,q5⟩:=hq30;have pC:=I5.pin (C,oC) (List.mem_append_right _ (List.mem_append_right _ (List.mem_singleton.mpr rfl)));obtain⟨o,es,ep,e1,e2,e3⟩:=hns;rw[hoC] at e1;cases e1;refine⟨m,⟨oC,es,ep,pC.1,e2,e3⟩,λ h' sb=>?_⟩;have I6:Inv X pins σ5 H5 {s5 with heap:=h'}:=(I5.dZ).turned (t':=s5.toks) (λ b o hb e=>sb.extBut b o hb e) pC.2.1 z2 (.inr z1) z3 z4;exact wpAny_pure (wpAny_pure ⟨σ5,H5,I6,q5⟩)
end
end L2
namespace D
open L2
abbrev St:=L2.St
structure Kp(H H':Hp):Prop where
 tup:∀ b xs,H b=some (.tup xs)->H' b=some (.tup xs)
 frz:∀ b o u,H b=some (.frz o u)->H' b=some (.frz o u)
theorem Kp.refl(H:Hp):Kp H H:=⟨λ _ _ e=>e,λ _ _ _ e=>e⟩
theorem Kp.trans(a:Kp H H1)(b:Kp H1 H2):Kp H H2:=⟨λ c xs e=>b.tup c xs (a.tup c xs e),λ c o u e=>b.frz c o u (a.frz c o u e)⟩
theorem Kp.new(h:H p=none):Kp H (upd H p o):=⟨λ b xs e=>by rw[ay (aX e h)];exact e,λ b ob u e=>by rw[ay (aX e h)];exact e⟩
theorem Kp.set(h:H p=some u)(ht:∀ xs,u ≠ .tup xs)(hf:∀ ob v,u ≠ .frz ob v):Kp H (upd H p o):=
 ⟨λ b xs e=>by rw[ay (qZ e h λ z=>ht _ z.symm)];exact e,λ b ob v e=>by rw[ay (qZ e h λ z=>hf _ _ z.symm)];exact e⟩
def SqF(K:FG)(H:Hp)(a:Addr)(xs:List V):Prop:=
 (∃ o,H a=some (.frz o (.lst xs)))\/∃ (o:Obj) (its:Array Value) (n:Nat),K.lookup a=some o/\o.cls=.type "list" /\ o.dict=none/\o.data=.seq its n/\its.size<=sizeLine/\Vals xs its.toList
theorem SqF.sq{K:FG}{H:Hp}{a:Addr}{xs:List V}(h:SqF K H a xs):SqL K H a xs:=by
 rcases h with h | h
 ·exact .inl (.inr h)
 ·exact .inr h
theorem SqF.keep{K:FG}{H H':Hp}{a:Addr}{xs:List V}(k:Kp H H')(h:SqF K H a xs):SqF K H' a xs:=by
 rcases h with ⟨o,h⟩ | h
 ·exact .inl ⟨o,k.frz _ _ _ h⟩
 ·exact .inr h
theorem SqT.keep{K:FG}{H H':Hp}{a:Addr}{xs:List V}(k:Kp H H')(h:SqT K H a xs):SqT K H' a xs:=by
 rcases h with (h | ⟨o,h⟩) | h
 ·exact .inl (.inl (k.tup _ _ h))
 ·exact .inl (.inr ⟨o,k.frz _ _ _ h⟩)
 ·exact .inr h
def kE:Key->PyData
 | .inl i=>.int i
 | .inr x=>.str x
mutual
def au(K:FG)(H:Hp):PyData->V->Prop
 | .none,v=>v=.non
 | .bool b,v=>v=.bl b
 | .int i,v=>v=.int i
 | .str x,v=>v=.str x
 | .list ds,v=>∃ a vs,v=.ref a/\SqF K H a vs/\aJ K H ds vs
 | .tuple ds,v=>∃ a vs,v=.ref a/\SqT K H a vs/\aJ K H ds vs
 | .dict kvs,v=>∃ a o l,v=.ref a/\H a=some (.frz o (.dK l))/\kD K H kvs l
def aJ(K:FG)(H:Hp):List PyData->List V->Prop
 | [],vs=>vs=[]
 | d::ds,vs=>∃ v r,vs=v::r/\au K H d v/\aJ K H ds r
def kD(K:FG)(H:Hp):List (PyData×PyData)->List (Key×V)->Prop
 | [],l=>l=[]
 | (k,d)::ds,l=>∃ key v r,l=(key,v)::r/\k=kE key/\au K H d v/\kD K H ds r
end
mutual
theorem au.keep{K:FG}{H H':Hp}(k:Kp H H'):∀ {d:PyData} {v:V},au K H d v->au K H' d v
 | .none,v,h=>by simp only[au] at h ⊢;exact h
 | .bool b,v,h=>by simp only[au] at h ⊢;exact h
 | .int i,v,h=>by simp only[au] at h ⊢;exact h
 | .str x,v,h=>by simp only[au] at h ⊢;exact h
 | .list ds,v,h=>by simp only[au] at h ⊢;obtain⟨a,vs,e,s,r⟩:=h;exact⟨a,vs,e,s.keep k,aJ.keep k r⟩
 | .tuple ds,v,h=>by simp only[au] at h ⊢;obtain⟨a,vs,e,s,r⟩:=h;exact⟨a,vs,e,SqT.keep k s,aJ.keep k r⟩
 | .dict kvs,v,h=>by simp only[au] at h ⊢;obtain⟨a,o,l,e,s,r⟩:=h;exact⟨a,o,l,e,k.frz _ _ _ s,kD.keep k r⟩
theorem aJ.keep{K:FG}{H H':Hp}(k:Kp H H'):∀ {ds:List PyData} {vs:List V},aJ K H ds vs->aJ K H' ds vs
 | [],vs,h=>by simp only[aJ] at h ⊢;exact h
 | d::ds,vs,h=>by simp only[aJ] at h ⊢;obtain⟨v,r,e,h1,h2⟩:=h;exact⟨v,r,e,au.keep k h1,aJ.keep k h2⟩
theorem kD.keep{K:FG}{H H':Hp}(k:Kp H H'):∀ {ds:List (PyData×PyData)} {l:List (Key×V)},kD K H ds l->kD K H' ds l
 | [],l,h=>by simp only[kD] at h ⊢;exact h
 | (key,d)::ds,l,h=>by simp only[kD] at h ⊢;obtain⟨k',v,r,e,ek,h1,h2⟩:=h;exact⟨k',v,r,e,ek,au.keep k h1,kD.keep k h2⟩
end
theorem aJ.length{K:FG}{H:Hp}:∀ {ds:List PyData} {vs:List V},aJ K H ds vs->vs.length=ds.length
 | [],vs,h=>by simp only[aJ] at h;rw[h];rfl
 | d::ds,vs,h=>by simp only[aJ] at h;obtain⟨v,r,e,_,h2⟩:=h;rw[e,List.length_cons,List.length_cons,aJ.length h2]
theorem aJ.get{K:FG}{H:Hp}:∀ {ds:List PyData} {vs:List V} {i:Nat} {d:PyData},aJ K H ds vs->ds[i]? =some d->∃ v,vs[i]? =some v/\au K H d v
 | [],_,_,_,_,e=>by simp at e
 | d::ds,vs,0,d',h,e=>by simp only[aJ] at h;obtain⟨v,r,ev,h1,_⟩:=h;simp at e;subst e;exact⟨v,by rw[ev];rfl,h1⟩
 | d::ds,vs,i+1,d',h,e=>by simp only[aJ] at h;obtain⟨v,r,ev,_,h2⟩:=h;obtain⟨v',e1,e2⟩:=aJ.get (i:=i) h2 (by simpa using e);exact⟨v',by rw[ev];simpa using e1,e2⟩
theorem aJ.get'{K:FG}{H:Hp}{ds:List PyData}{vs:List V}{i:Nat}{v:V}(h:aJ K H ds vs)(e:vs[i]? =some v):∃ d,ds[i]? =some d/\au K H d v:=by
 have hi:i<ds.length:=by have:=(List.getElem?_eq_some_iff.mp e).1;rw[h.length] at this;exact this
 obtain⟨v',e1,r⟩:=h.get (i:=i) (d:=ds[i]) (by simp[hi]);rw[e] at e1;cases e1;exact⟨ds[i],by simp[hi],r⟩
theorem aJ.ints{K:FG}{H:Hp}:∀ (ns:List Int),aJ K H (ns.map PyData.int) (ns.map V.int)
 | []=>by simp[aJ]
 | n::ns=>by simp only[List.map_cons,aJ];exact⟨_,_,rfl,by simp[au],aJ.ints ns⟩
theorem aJ.append{K:FG}{H:Hp}:∀ {ds es:List PyData} {vs us:List V},aJ K H ds vs->aJ K H es us->aJ K H (ds++es) (vs++us)
 | [],es,vs,us,h,q=>by simp only[aJ] at h;subst h;exact q
 | d::ds,es,vs,us,h,q=>by simp only[aJ] at h;obtain⟨v,r,e,h1,h2⟩:=h;subst e;simp only[List.cons_append,aJ];exact⟨v,r++us,rfl,h1,aJ.append h2 q⟩
theorem aJ.drop{K:FG}{H:Hp}:∀ {ds:List PyData} {vs:List V} (n:Nat),aJ K H ds vs->aJ K H (ds.drop n) (vs.drop n)
 | ds,vs,0,h=>by simpa using h
 | [],vs,n+1,h=>by simp only[aJ] at h;subst h;simp[aJ]
 | d::ds,vs,n+1,h=>by
  simp only[aJ] at h;obtain⟨v,r,e,_,h2⟩:=h;subst e
  simpa using aJ.drop n h2
theorem aJ.take{K:FG}{H:Hp}:∀ {ds:List PyData} {vs:List V} (n:Nat),aJ K H ds vs->aJ K H (ds.take n) (vs.take n)
 | ds,vs,0,h=>by simp[aJ]
 | [],vs,n+1,h=>by simp only[aJ] at h;subst h;simp[aJ]
 | d::ds,vs,n+1,h=>by simp only[aJ] at h;obtain⟨v,r,e,h1,h2⟩:=h;subst e;simp only[List.take_succ_cons,aJ];exact⟨v,_,rfl,h1,aJ.take n h2⟩
inductive W where
 | d (x:PyData)
 | m (a:Addr)
 | t (n:String)
inductive MO where
 | lst (ws:List W)
 | dic (kvs:List (Key×W))
 | dct (kvs:List (List Key×W))
 | fdic (kvs:List (Key×W))
 | ins (C:Addr) (fs:List (Str×W))
 | tup (ws:List W)
 | flst (ws:List W)
 | exc (C:Addr) (fs:List (Str×W))
 | code (q:Str) (pos:Pos)
abbrev MH:=Addr->Option MO
def bG(M:MH)(a:Addr)(o:MO):MH:=λ b=>if b=a then some o else M b
theorem aj:bG M a o a=some o:=if_pos rfl
theorem ah(h:b≠a):bG M a o b=M b:=if_neg h
abbrev DS:=List (Option W)
def aw(K:FG)(H:Hp):W->V->Prop
 | .d x,v=>au K H x v
 | .m a,v=>v=.ref a
 | .t n,v=>v=.ty n
theorem aw.keep{K:FG}{H H':Hp}(k:Kp H H'):∀ {w:W} {v:V},aw K H w v->aw K H' w v
 | .d _,_,h=>au.keep k h
 | .m _,_,h=>h
 | .t _,_,h=>h
def aT(K:FG)(H:Hp):List W->List V->Prop:=Paired (aw K H)
theorem aT.keep{K:FG}{H H':Hp}(k:Kp H H'){ws:List W}{vs:List V}(h:aT K H ws vs):aT K H' ws vs:=Paired.kd h λ _ _ r=>r.keep k
theorem aT.length{K:FG}{H:Hp}{ws:List W}{vs:List V}(h:aT K H ws vs):ws.length=vs.length:=Paired.length h
theorem aT.get{K:FG}{H:Hp}:∀ {ws:List W} {vs:List V} {i:Nat} {w:W},aT K H ws vs->ws[i]? =some w->∃ v,vs[i]? =some v/\aw K H w v
 | _,_,_,_,.nil,e=>by simp at e
 | _,_,0,_,.cons r _,e=>by simp at e;subst e;exact⟨_,rfl,r⟩
 | _,_,i+1,_,.cons _ t,e=>by obtain⟨u,h1,h2⟩:=aT.get (i:=i) t (by simpa using e);exact⟨u,by simpa using h1,h2⟩
theorem aT.set{K:FG}{H:Hp}{w:W}{v:V}(r:aw K H w v):∀ {ws:List W} {vs:List V} (i:Nat),aT K H ws vs->aT K H (ws.set i w) (vs.set i v)
 | _,_,_,.nil=>.nil
 | _,_,0,.cons _ t=>.cons r t
 | _,_,i+1,.cons q t=>.cons q (aT.set r i t)
theorem aT.append{K:FG}{H:Hp}:∀ {ws ws':List W} {vs vs':List V},aT K H ws vs->aT K H ws' vs'->aT K H (ws++ws') (vs++vs')
 | _,_,_,_,.nil,s=>s
 | _,_,_,_,.cons r t,s=>.cons r (aT.append t s)
theorem aT.data{K:FG}{H:Hp}:∀ {ds:List PyData} {vs:List V},aT K H (ds.map W.d) vs->aJ K H ds vs
 | [],_,h=>by cases h;simp[aJ]
 | d::ds,_,h=>by
  cases h with
  | cons r t=>simp only[aJ];exact⟨_,_,rfl,r,aT.data t⟩
theorem aJ.ws{K:FG}{H:Hp}:∀ {ds:List PyData} {vs:List V},aJ K H ds vs->aT K H (ds.map W.d) vs
 | [],vs,h=>by simp only[aJ] at h;subst h;exact .nil
 | d::ds,vs,h=>by simp only[aJ] at h;obtain⟨v,r,e,h1,h2⟩:=h;subst e;exact .cons h1 (aJ.ws h2)
def rh(K:FG)(H:Hp)(a:Addr):MO->Prop
 | .lst ws=>∃ vs,H a=some (.lst vs)/\aT K H ws vs
 | .dic kvs=>∃ l,H a=some (.dK l)/\Paired (λ(p:Key×W) (q:Key×V)=>p.1=q.1/\aw K H p.2 q.2) kvs l
 | .fdic kvs=>∃ o l,H a=some (.frz o (.frz o (.dK l)))/\Paired (λ(p:Key×W) (q:Key×V)=>p.1=q.1/\aw K H p.2 q.2) kvs l
 | .dct kvs=>∃ l,H a=some (.dT l)/\Paired (λ(p:List Key×W) (q:List Key×V)=>p.1=q.1/\aw K H p.2 q.2) kvs l
 | .ins C fs=>∃ dx l,H a=some (.ins C dx l)/\Paired (λ(p:Str×W) (q:Str×V)=>p.1=q.1/\aw K H p.2 q.2) fs l
 | .tup ws=>∃ vs,H a=some (.tup vs)/\aT K H ws vs
 | .flst ws=>∃ o vs,H a=some (.frz o (.frz o (.lst vs)))/\aT K H ws vs
 | .exc C fs=>∃ φ dct,H a=some (.ext φ)/\(∀ h,φ h->∃ vs,h.get? a=some {cls:=.ref C,dict:=dct,data:=.fields vs}/\(fs=[]->vs[2]? =some .none)) /\
   ((dct=none/\fs=[])\/∃ dx o l,dct=some dx/\H dx=some (.frz o (.xd l))/\Paired (λ(p:Str×W) (q:Str×V)=>p.1=q.1/\aw K H p.2 q.2) fs l)
 | .code q pos=>∃ ps,H a=some (.tbl ps)/\TriplesOk ps.toList/\(codeAmong pos ps.toList=none\/∃ c o vs t,codeAmong pos ps.toList=some (.ref c)/\H c=some (.frz o (.own 0))/\o.data=.fields vs/\vs[1]? =some (.str q t))
def bV(K:FG)(H:Hp)(M:MH):Prop:=∀ a o,M a=some o->rh K H a o
theorem rh.is{K:FG}{H:Hp}{a:Addr}{o:MO}(h:rh K H a o):∃ u,H a=some u:=by
 cases o with
 | lst ws=>obtain⟨vs,e,_⟩:=h;exact⟨_,e⟩
 | dic kvs=>obtain⟨l,e,_⟩:=h;exact⟨_,e⟩
 | dct kvs=>obtain⟨l,e,_⟩:=h;exact⟨_,e⟩
 | fdic kvs=>obtain⟨o,l,e,_⟩:=h;exact⟨_,e⟩
 | ins C fs=>obtain⟨dx,l,e,_⟩:=h;exact⟨_,e⟩
 | tup ws=>obtain⟨vs,e,_⟩:=h;exact⟨_,e⟩
 | flst ws=>obtain⟨o,vs,e,_⟩:=h;exact⟨_,e⟩
 | exc C fs=>obtain⟨φ,dct,e,_⟩:=h;exact⟨_,e⟩
 | code q pos=>obtain⟨ps,e,_⟩:=h;exact⟨_,e⟩
theorem bV.free{K:FG}{H:Hp}{M:MH}(h:bV K H M){p:Addr}(e:H p=none):M p=none:=by
 cases q:M p with
 | none=>rfl
 | some o =>
  obtain⟨u,z⟩:=(h p o q).is;rw[e] at z;cases z
theorem rh.keep{K:FG}{H H':Hp}{a:Addr}{o:MO}(k:Kp H H')(s:∀ u,H a=some u->H' a=some u)(h:rh K H a o):rh K H' a o:=by
 cases o with
 | lst ws=>obtain⟨vs,e,r⟩:=h;exact⟨vs,s _ e,r.keep k⟩
 | dic kvs=>obtain⟨l,e,r⟩:=h;exact⟨l,s _ e,Paired.kd r λ p q z=>⟨z.1,z.2.keep k⟩⟩
 | dct kvs=>obtain⟨l,e,r⟩:=h;exact⟨l,s _ e,Paired.kd r λ p q z=>⟨z.1,z.2.keep k⟩⟩
 | fdic kvs=>obtain⟨o,l,e,r⟩:=h;exact⟨o,l,s _ e,Paired.kd r λ p q z=>⟨z.1,z.2.keep k⟩⟩
 | ins C fs=>obtain⟨dx,l,e,r⟩:=h;exact⟨dx,l,s _ e,Paired.kd r λ p q z=>⟨z.1,z.2.keep k⟩⟩
 | tup ws=>obtain⟨vs,e,r⟩:=h;exact⟨vs,s _ e,r.keep k⟩
 | flst ws=>obtain⟨o,vs,e,r⟩:=h;exact⟨o,vs,s _ e,r.keep k⟩
 | exc C fs =>
  obtain⟨φ,dct,e,p,r⟩:=h;refine⟨φ,dct,s _ e,p,?_⟩;rcases r with r | ⟨dx,o,l,e1,e2,r⟩
  ·exact .inl r
  ·exact .inr ⟨dx,o,l,e1,k.frz _ _ _ e2,Paired.kd r λ p q z=>⟨z.1,z.2.keep k⟩⟩
 | code q pos =>
  obtain⟨ps,e,ht,hc⟩:=h;refine⟨ps,s _ e,ht,?_⟩;rcases hc with hc | ⟨c,o,vs,t,e1,e2,e3⟩
  ·exact .inl hc
  ·exact .inr ⟨c,o,vs,t,e1,k.frz _ _ _ e2,e3⟩
theorem bV.new{K:FG}{H:Hp}{M:MH}{p:Addr}{o:HO}(h:bV K H M)(e:H p=none):bV K (upd H p o) M:=λ a mo q =>
 (h a mo q).keep (Kp.new e) λ u z=>by rw[ay (aX z e)];exact z
theorem bV.put{K:FG}{H:Hp}{M:MH}{p:Addr}{o:HO}{mo:MO}(h:bV K H M)(k:Kp H (upd H p o))(r:rh K (upd H p o) p mo):bV K (upd H p o) (bG M p mo):=λ a mo' q=>by
 by_cases e:a=p
 ·subst e;rw[aj] at q;cases q;exact r
 ·rw[ah e] at q;exact(h a mo' q).keep k λ u z=>by rw[ay e];exact z
structure Abs(K:FG)(H:Hp)(σ:St)(τ:DS)(M:MH):Prop where
 len:σ.length=τ.length
 val:∀ (i:Nat) w,τ[i]? =some (some w)->∃ v,σ[i]? =some (some v)/\aw K H w v
 mem:bV K H M
theorem Abs.go{K:FG}{H H':Hp}{σ:St}{τ:DS}{M M':MH}(h:Abs K H σ τ M)(k:Kp H H')(m:bV K H' M'):Abs K H' σ τ M':=
 ⟨h.len,λ i w e=>let ⟨v,q,r⟩:=h.val i w e; ⟨v,q,r.keep k⟩,m⟩
theorem Abs.set{K:FG}{H:Hp}{σ:St}{τ:DS}{M:MH}{w:W}{v:V}(h:Abs K H σ τ M)(i:Nat)(r:aw K H w v):Abs K H (σ.set i (some v)) (τ.set i (some w)) M:=by
 refine⟨by rw[List.length_set,List.length_set];exact h.len,λ j w' e=>?_,h.mem⟩
 by_cases hj:i=j
 ·subst hj;have hl:i<τ.length:=by
   have:=(List.getElem?_eq_some_iff.mp e).1
   rwa[List.length_set] at this
  rw[List.getElem?_set_self hl] at e;cases e;exact⟨v,List.getElem?_set_self (by rw[h.len];exact hl),r⟩
 ·rw[List.getElem?_set_ne hj] at e;obtain⟨v',q,r'⟩:=h.val j w' e;exact⟨v',by rw[List.getElem?_set_ne hj];exact q,r'⟩
abbrev QD:=W->MH->Prop
abbrev TD:=DS->MH->QD->Prop
abbrev TTd:=DS->MH->(Bool->MH->Prop)->Prop
abbrev TAd:=DS->MH->(List W->MH->Prop)->Prop
structure Ed where
 nx:DS->MH->Prop
 rt:QD
 bk:DS->MH->Prop:=λ _ _=>False
 ct:DS->MH->Prop:=λ _ _=>False
abbrev TSd:=Ed->DS->MH->Prop
def up(K:FG)(t:TD):TE:=λ σ H Q=>∃ τ M Qd,Abs K H σ τ M/\t τ M Qd/\∀ v H' w M',Kp H H'->aw K H' w v->bV K H' M'->Qd w M'->Q v H'
def upT(K:FG)(t:TTd):TT:=λ σ H Q=>∃ τ M Qd,Abs K H σ τ M/\t τ M Qd/\∀ b H' M',Kp H H'->bV K H' M'->Qd b M'->Q b H'
def upA(K:FG)(t:TAd):TA:=λ σ H Q=>∃ τ M Qd,Abs K H σ τ M/\t τ M Qd/\∀ vs H' ws M',Kp H H'->aT K H' ws vs->bV K H' M'->Qd ws M'->Q vs H'
def upS(K:FG)(t:TSd):TS:=λ D σ H=>∃ τ M Dd,Abs K H σ τ M/\t Dd τ M /\
 (∀ σ' H' τ' M',Kp H H'->Abs K H' σ' τ' M'->Dd.nx τ' M'->D.nx σ' H')/\(∀ v H' w M',Kp H H'->aw K H' w v->bV K H' M'->Dd.rt w M'->D.rt v H') /\
 (∀ σ' H' τ' M',Kp H H'->Abs K H' σ' τ' M'->Dd.bk τ' M'->D.bk σ' H')/\(∀ σ' H' τ' M',Kp H H'->Abs K H' σ' τ' M'->Dd.ct τ' M'->D.ct σ' H')
abbrev PD(X:Cx)(e:Expr)(t:TD):Prop:=PE X e (up X.K t)
abbrev PTd(X:Cx)(e:Expr)(t:TTd):Prop:=PT X e (upT X.K t)
abbrev PAd(X:Cx)(es:List Expr)(t:TAd):Prop:=PA X es (upA X.K t)
abbrev PSd(X:Cx)(st:Stmt)(t:TSd):Prop:=PS X st (upS X.K t)
abbrev ja(X:Cx)(st:List Stmt)(t:TSd):Prop:=PSs X st (upS X.K t)
theorem dg(h:PE X e t)(k:∀ σ H Q,t' σ H Q->t σ H Q):PE X e t':=λ pins s σ H Q I q=>h pins s σ H Q I (k σ H Q q)
theorem sV(h:PT X e t)(k:∀ σ H Q,t' σ H Q->t σ H Q):PT X e t':=λ pins s σ H Q I q=>h pins s σ H Q I (k σ H Q q)
theorem xn(h:PA X es t)(k:∀ σ H Q,t' σ H Q->t σ H Q):PA X es t':=λ pos pins s σ H Q I q=>h pos pins s σ H Q I (k σ H Q q)
theorem kF{st:Stmt}{t t':TS}(h:PS X st t)(k:∀ D σ H,t' D σ H->t D σ H):PS X st t':=λ pins s σ H D I q=>h pins s σ H D I (k D σ H q)
theorem uL{st:List Stmt}{t t':TS}(h:PSs X st t)(k:∀ D σ H,t' D σ H->t D σ H):PSs X st t':=λ pins s σ H D I q=>h pins s σ H D I (k D σ H q)
end D
namespace D
open L2
section
variable {X:Cx}{pos:Pos}{a b c e:Expr}{ta tb tc te:TD}{K:FG}
abbrev Kont(K:FG)(H:Hp)(Qd:QD)(Q:VK):Prop:=∀ v H' w M',Kp H H'->aw K H' w v->bV K H' M'->Qd w M'->Q v H'
theorem kgo(k:Kont K H Qd Q)(kp:Kp H H1):Kont K H1 Qd Q:=λ v H' w M' k2 r m q=>k v H' w M' (kp.trans k2) r m q
inductive xq(i:Nat) (τ:DS) (M:MH) (Q:QD):Prop
 | mk (w:W) (z:τ[i]? =some (some w)) (q:Q w M):xq i τ M Q
def ag(i:Nat)(τ:DS)(M:MH)(Q:QD):Prop:=xq i τ M Q
theorem sR(h:PE X e (w5 i)):PD X e (ag i):=dg h λ σ H Q hq31=>by obtain⟨τ,M,Qd,A,⟨w,e,q⟩,k⟩:=hq31;obtain⟨v,e',r⟩:=A.val i w e;exact⟨v,e',k v H w M (Kp.refl H) r A.mem q⟩
def dC(w:W)(_:DS)(M:MH)(Q:QD):Prop:=Q w M
theorem vG(h:PE X e (tC v))(r:∀ H,aw X.K H w v):PD X e (dC w):=dg h λ σ H Q ⟨τ,M,Qd,A,q,k⟩=>k v H w M (Kp.refl H) (r H) A.mem q
def OpD(K:FG)(r:R2)(rd:W->W->MH->QD->Prop):Prop:=∀ x y H w w' M Qd Q,aw K H w x->aw K H w' y->bV K H M->rd w w' M Qd->Kont K H Qd Q->r x y H Q
def dOp(rd:W->W->MH->QD->Prop)(ta tb:TD)(τ:DS)(M:MH)(Q:QD):Prop:=ta τ M λ w M1=>tb τ M1 λ w' M2=>rd w w' M2 Q
theorem jy(hd:OpD K r rd)(h:up K (dOp rd ta tb) σ H Q):tOp r (up K ta) (up K tb) σ H Q:=by obtain⟨τ,M,Qd,A,h,k⟩:=h;refine⟨τ,M,_,A,h,λ x H1 w M1 kp r1 m1 q1=>⟨τ,M1,_,A.go kp m1,q1,λ y H2 w' M2 kp2 r2 m2 q2=>?_⟩⟩;exact hd x y H2 w w' M2 Qd Q (r1.keep kp2) r2 m2 q2 (kgo k (kp.trans kp2))
theorem wH(ho:OpR X (binaryOp op) r)(hd:OpD X.K r rd)(ha:PD X a ta)(hb:PD X b tb):PD X (.BinOp a op b pos) (dOp rd ta tb):=dg (tP ho ha hb) λ σ H Q h=>jy hd h
theorem uJ(ho:OpR X (compareOp op) r)(hd:OpD X.K r rd)(ha:PD X a ta)(hb:PD X b tb)(hm:behindInMarks op b=false:=by first | exact cY _ (by decide) (by decide) | rfl) :
  PD X (.Compare a [op] [b] pos) (dOp rd ta tb):=dg (rJ ho ha hb hm) λ σ H Q h=>jy hd h
theorem wD(hr:IxR X r)(hd:OpD X.K r rd)(ha:PD X a ta)(hb:PD X b tb)(hs:iI b:=by intro _ _;rfl):PD X (.Subscript a b pos) (dOp rd ta tb):=dg (wB hr ha hb hs) λ σ H Q h=>jy hd h
def aY(t:TD)(τ:DS)(M:MH)(Q:Bool->MH->Prop):Prop:=t τ M λ w M1=>∃ k,w=.d (.bool k)/\Q k M1
theorem fT(hi:∀ σ H Q,up K ta σ H Q->t' σ H Q)(h:upT K (aY ta) σ H Q):sO t' σ H Q:=by obtain⟨τ,M,Qd,A,h,k⟩:=h;refine hi σ H _ ⟨τ,M,_,A,h,λ v H' w M' kp r m hq32=>?_⟩;obtain⟨b,e,q⟩:=hq32;subst e;simp only[aw,au] at r;exact⟨b,r,k b H' M' kp m q⟩
theorem sm(ho:OpR X (compareOp op) r)(hd:OpD X.K r rd)(ha:PD X a ta)(hb:PD X b tb)(hm:behindInMarks op b=false:=by first | exact cY _ (by decide) (by decide) | rfl) :
  PTd X (.Compare a [op] [b] pos) (aY (dOp rd ta tb)):=sV (qF ho ha hb hm) λ σ H Q h=>fT (λ _ _ _ q=>jy hd q) h
theorem rM(h:PD X e te)(he:∀ whole,isTrue e X.env whole=(do let v <- whole;standAt e.pos;holding [v] (truthy v)):=by intro _;rfl):PTd X e (aY te):=sV (uK h he) λ σ H Q q=>fT (λ _ _ _ z=>z) q
def UnD(K:FG)(r:V->Hp->VK->Prop)(rd:W->MH->QD->Prop):Prop:=∀ x H w M Qd Q,aw K H w x->bV K H M->rd w M Qd->Kont K H Qd Q->r x H Q
def dUn(rd:W->MH->QD->Prop)(ta:TD)(τ:DS)(M:MH)(Q:QD):Prop:=ta τ M λ w M1=>rd w M1 Q
theorem wA(ho:UnR X (unaryOp op) r)(hd:UnD X.K r rd)(ha:PD X a ta):PD X (.UnaryOp op a pos) (dUn rd ta):=dg (wq ho ha) λ σ H Q h=>by obtain⟨τ,M,Qd,A,h,k⟩:=h;exact⟨τ,M,_,A,h,λ x H1 w M1 kp r1 m1 q1=>hd x H1 w M1 Qd Q r1 m1 q1 (kgo k kp)⟩
variable {tA tB:TTd}{rest:List Expr}
def vf(t u:TTd)(τ:DS)(M:MH)(Q:Bool->MH->Prop):Prop:=t τ M λ k M1=>if k=true then u τ M1 Q else Q false M1
def dOr(t u:TTd)(τ:DS)(M:MH)(Q:Bool->MH->Prop):Prop:=t τ M λ k M1=>if k=true then Q true M1 else u τ M1 Q
def uM(t:TTd)(τ:DS)(M:MH)(Q:Bool->MH->Prop):Prop:=t τ M λ k M1=>Q (!k) M1
abbrev PWd(X:Cx)(e:Expr)(t:TTd):Prop:=PW X e (upT X.K t)
theorem pw_w(h:PW X e t)(k:∀ σ H Q,t' σ H Q->t σ H Q):PW X e t':=λ w pins s σ H Q I q=>h w pins s σ H Q I (k σ H Q q)
theorem oA(ha:PTd X a tA):PWd X (.BoolOp .And [a] pos) tA:=pw_and1 ha
theorem sC(ha:PTd X a tA):PWd X (.BoolOp .Or [a] pos) tA:=pw_or1 ha
theorem qK(ha:PTd X a tA)(hb:PWd X (.BoolOp .And (b::rest) pos) tB):PWd X (.BoolOp .And (a::b::rest) pos) (vf tA tB):=pw_w (pw_and ha hb) λ σ H Q h=>by
 obtain⟨τ,M,Qd,A,h,k⟩:=h;refine⟨τ,M,_,A,h,λ b H1 M1 kp m1 q1=>?_⟩;cases b with
 | true=>rw[if_pos rfl] at q1 ⊢;exact⟨τ,M1,Qd,A.go kp m1,q1,λ b H2 M2 kp2 m2 q2=>k b H2 M2 (kp.trans kp2) m2 q2⟩
 | false=>rw[if_neg Bool.false_ne_true] at q1 ⊢;exact k _ H1 M1 kp m1 q1
theorem uV(ha:PTd X a tA)(hb:PWd X (.BoolOp .Or (b::rest) pos) tB):PWd X (.BoolOp .Or (a::b::rest) pos) (dOr tA tB):=pw_w (pw_or ha hb) λ σ H Q h=>by
 obtain⟨τ,M,Qd,A,h,k⟩:=h;refine⟨τ,M,_,A,h,λ b H1 M1 kp m1 q1=>?_⟩;cases b with
 | false=>rw[if_neg Bool.false_ne_true] at q1 ⊢;exact⟨τ,M1,Qd,A.go kp m1,q1,λ b H2 M2 kp2 m2 q2=>k b H2 M2 (kp.trans kp2) m2 q2⟩
 | true=>rw[if_pos rfl] at q1 ⊢;exact k _ H1 M1 kp m1 q1
theorem wL(h:PWd X e tA):PTd X e tA:=h.pt
theorem sg(ha:PTd X a tA):PTd X (.UnaryOp .Not a pos) (uM tA):=sV (uq ha) λ σ H Q h=>by obtain⟨τ,M,Qd,A,h,k⟩:=h;exact⟨τ,M,_,A,h,λ b H1 M1 kp m1 q1=>k (!b) H1 M1 kp m1 q1⟩
variable {es:List Expr}{t:TAd}
def aH(_:DS)(M:MH)(Q:List W->MH->Prop):Prop:=Q [] M
def ae(ta:TD)(tr:TAd)(τ:DS)(M:MH)(Q:List W->MH->Prop):Prop:=ta τ M λ w M1=>tr τ M1 λ ws M2=>Q (w::ws) M2
theorem iG:PAd X [] aH:=xn pS λ σ H Q ⟨τ,M,Qd,A,h,k⟩=>k [] H [] M (Kp.refl H) .nil A.mem h
theorem jG(ha:PD X e te)(hr:PAd X es t)(hs:starEach (e::es) X.env=(false,eval e X.env)::starEach es X.env:=by rfl):PAd X (e::es) (ae te t):=xn (mZ ha hr hs) λ σ H Q h=>by obtain⟨τ,M,Qd,A,h,k⟩:=h;exact⟨τ,M,_,A,h,λ x H1 w M1 kp r1 m1 q1=>⟨τ,M1,_,A.go kp m1,q1,λ xs H2 ws M2 kp2 r2 m2 q2=>k _ H2 _ M2 (kp.trans kp2) (.cons (r1.keep kp2) r2) m2 q2⟩⟩
def fV:List W->Option (List PyData)
 | []=>some []
 | .d x::r=>(fV r).map (x::·)
 | _::_=>none
theorem gc:∀ {ws:List W} {ds:List PyData},fV ws=some ds->ws=ds.map W.d
 | [],ds,h=>by simp only[fV] at h;cases h;rfl
 | .d x::r,ds,h=>by
  simp only[fV] at h;cases q:fV r with
  | none=>rw[q] at h;cases h
  | some l=>rw[q] at h;cases h;rw[gc q];rfl
 | .m _::_,ds,h=>by simp[fV] at h
 | .t _::_,ds,h=>by simp[fV] at h
def gv(t:TAd)(τ:DS)(M:MH)(Q:QD):Prop:=t τ M λ ws M1=>∃ ds,fV ws=some ds/\ds.length<=sizeLine/\Q (.d (.list ds)) M1
theorem qM(hp:H p=none)(r:aJ K H ds vs):au K (upd H p (.frz o (.lst vs))) (.list ds) (.ref p):=by simp only[au];exact⟨p,vs,rfl,.inl ⟨o,ax⟩,r.keep (Kp.new hp)⟩
theorem fJ(hp:H p=none)(r:aJ K H ds vs)(m:bV K H M)(q:Qd (.d (.list ds)) M)(k:Kont K H Qd Q) :
  ∃ p' u,V.ref p=.ref p'/\(upd H p (.lst vs)) p'=some u/\Fz u/\∀ o,Q (.ref p) (upd (upd H p (.lst vs)) p' (.frz o u)):=by
 refine⟨p,_,rfl,ax,trivial,λ o=>?_⟩;rw[qg];exact k _ _ (.d (.list ds)) M (Kp.new hp) (qM hp r) (m.new hp) q
theorem um(h:PAd X es t):PD X (.List es pos) (gv t):=dg (jJ (pJ h)) λ σ H Q h=>by obtain⟨τ,M,Qd,A,h,k⟩:=h;refine⟨τ,M,_,A,h,λ vs H1 ws M1 kp r1 m1 hq33=>?_⟩;obtain⟨ds,e,hz,q1⟩:=hq33;have e':=gc e;subst e';have rA:=r1.data;exact⟨by rw[rA.length];exact hz,λ p hp=>fJ hp rA m1 q1 (kgo k kp)⟩
def kP(t:TAd)(τ:DS)(M:MH)(Q:QD):Prop:=t τ M λ ws M1=>ws.length<=sizeLine/\∀ p,M1 p=none->Q (.m p) (bG M1 p (.lst ws))
theorem rT(h:PAd X es t):PD X (.List es pos) (kP t):=dg (pJ h) λ σ H Q h=>by obtain⟨τ,M,Qd,A,h,k⟩:=h;refine⟨τ,M,_,A,h,λ vs H1 ws M1 kp r1 m1 ⟨hz,q1⟩=>⟨by rw[<- r1.length];exact hz,λ p hp=>?_⟩⟩;exact k _ _ (.m p) (bG M1 p (.lst ws)) (kp.trans (Kp.new hp)) rfl (m1.put (mo:=.lst ws) (Kp.new hp) ⟨vs,ax,r1.keep (Kp.new hp)⟩) (q1 p (m1.free hp))
def nj(t:TAd)(τ:DS)(M:MH)(Q:QD):Prop:=t τ M λ ws M1=>∃ ds,fV ws=some ds/\ds.length<=sizeLine/\Q (.d (.tuple ds)) M1
theorem uE{x1}(h:PAd X es t):PD X (.Tuple es x1 pos) (nj t):=dg (p4 h) λ σ H Q h=>by obtain⟨τ,M,Qd,A,h,k⟩:=h;refine⟨τ,M,_,A,h,λ vs H1 ws M1 kp r1 m1 hq34=>?_⟩;obtain⟨ds,e,hz,q1⟩:=hq34;have e':=gc e;subst e';have rA:=r1.data;refine⟨by rw[rA.length];exact hz,λ p hp=>k _ _ (.d (.tuple ds)) M1 (kp.trans (Kp.new hp)) ?_ (m1.new hp) q1⟩;simp only[aw,au];exact⟨p,vs,rfl,.inl (.inl ax),rA.keep (Kp.new hp)⟩
variable {x:Str}{p:Pos}{id T:String}{r:List V->Hp->VK->Prop}{rd:List W->MH->QD->Prop}
def cX(K:FG)(r:List V->Hp->VK->Prop)(rd:List W->MH->QD->Prop):Prop:=∀ vs H ws M Qd Q,aT K H ws vs->bV K H M->rd ws M Qd->Kont K H Qd Q->r vs H Q
def dCB(rd:List W->MH->QD->Prop)(t:TAd)(τ:DS)(M:MH)(Q:QD):Prop:=t τ M λ ws M1=>rd ws M1 Q
theorem pN(hd:cX K r rd)(h:up K (dCB rd t) σ H Q):tCB r (upA K t) σ H Q:=by obtain⟨τ,M,Qd,A,h,k⟩:=h;exact⟨τ,M,_,A,h,λ vs H1 ws M1 kp r1 m1 q1=>hd vs H1 ws M1 Qd Q r1 m1 q1 (kgo k kp)⟩
theorem oU(hc:cJ X (.builtin id) r)(hd:cX X.K r rd)(hg:Gl X x)(hm:X.mg x=none)(hv:bootBuiltins x=some (.builtin id))(ha:PAd X (e::es) t)(hn:x ≠ "__name__":= by decide)(hdb:ND x:=by decide)
  (he:starEach (e::es) X.env=(false,eval e X.env)::starEach es X.env:=by rfl)(hpl:(backTo pos (starEach es X.env)).any (·.1)=false:=by rfl):PD X (.Call (.Name x p) (e::es) [] pos) (dCB rd t):=
 dg (oO hc hg hm hv ha hn hdb he hpl) λ σ H Q h=>pN hd h
theorem mH(hc:cJ X (.type T) r)(hd:cX X.K r rd)(hg:Gl X x)(hm:X.mg x=none)(hv:bootBuiltins x=some (.type T))(ha:PAd X (e::es) t)(hn:x ≠ "__name__":= by decide)(hdb:ND x:=by decide)
  (he:starEach (e::es) X.env=(false,eval e X.env)::starEach es X.env:=by rfl)(hpl:(backTo pos (starEach es X.env)).any (·.1)=false:=by rfl):PD X (.Call (.Name x p) (e::es) [] pos) (dCB rd t):=
 dg (mD hc hg hm hv ha hn hdb he hpl) λ σ H Q h=>pN hd h
end
section
variable {X:Cx}{pos:Pos}{st:Stmt}{sts:List Stmt}{t u:TSd}{e:Expr}{te:TD}{K:FG}
def bu(D:Ed)(τ:DS)(M:MH):Prop:=D.nx τ M
def aV(t u:TSd)(D:Ed)(τ:DS)(M:MH):Prop:=t {D with nx:=u D} τ M
theorem mL(h1:PSd X st t)(h2:ja X sts u):ja X (st::sts) (aV t u):=uL (nV h1 h2) λ D σ H ⟨τ,M,Dd,A,h,k1,k2,k3,k4⟩ =>
 ⟨τ,M,{Dd with nx:=u Dd},A,h,λ σ' H' τ' M' kp A' q=>⟨τ',M',Dd,A',q,λ σ2 H2 τ2 M2 kp2=>k1 σ2 H2 τ2 M2 (kp.trans kp2),λ v H2 w M2 kp2=>k2 v H2 w M2 (kp.trans kp2),λ σ2 H2 τ2 M2 kp2=>k3 σ2 H2 τ2 M2 (kp.trans kp2),λ σ2 H2 τ2 M2 kp2=>k4 σ2 H2 τ2 M2 (kp.trans kp2)⟩,k2,k3,k4⟩
theorem nG(h1:PSd X st t):ja X [st] t:=sj h1
def fK(te:TD)(D:Ed)(τ:DS)(M:MH):Prop:=te τ M λ _ M1=>D.nx τ M1
theorem oq(he:PD X e te)(hs:swapsWith e none pos.line X.env=pure false:=by rfl):PSd X (.Expr e pos) (fK te):=kF (sG he hs) λ D σ H ⟨τ,M,Dd,A,h,k1,_⟩ =>
 ⟨τ,M,_,A,h,λ v H1 w M1 kp r m q=>k1 σ H1 τ M1 kp (A.go kp m) q⟩
def cA(te:TD)(D:Ed)(τ:DS)(M:MH):Prop:=te τ M D.rt
theorem qG(he:PD X e te):PSd X (.Return (some e) pos) (cA te):=kF (sY he) λ D σ H ⟨τ,M,Dd,A,h,k1,k2,_⟩=>⟨τ,M,_,A,h,λ v H1 w M1 kp r m q=>k2 v H1 w M1 kp r m q⟩
def dIf(c:TTd)(t u:TSd)(D:Ed)(τ:DS)(M:MH):Prop:=c τ M λ b M1=>if b=true then t D τ M1 else u D τ M1
theorem u5(hc:PTd X c tc)(ha:ja X a t)(hb:ja X b u):PSd X (.If c a b pos) (dIf tc t u):=kF (wV hc ha hb) λ D σ H hq35=>by
 obtain⟨τ,M,Dd,A,h,k1,k2,k3,k4⟩:=hq35;refine⟨τ,M,_,A,h,λ b H1 M1 kp m q=>?_⟩;have go:∀ {t':TSd},t' Dd τ M1->upS X.K t' D σ H1:=λ {t'} q=>⟨τ,M1,Dd,A.go kp m,q,λ σ2 H2 τ2 M2 kp2=>k1 σ2 H2 τ2 M2 (kp.trans kp2),λ v H2 w M2 kp2=>k2 v H2 w M2 (kp.trans kp2),λ σ2 H2 τ2 M2 kp2=>k3 σ2 H2 τ2 M2 (kp.trans kp2),λ σ2 H2 τ2 M2 kp2=>k4 σ2 H2 τ2 M2 (kp.trans kp2)⟩;cases b with
 | true=>rw[if_pos rfl] at q;show(if true=true then upS X.K t D σ H1 else upS X.K u D σ H1);rw[if_pos rfl];exact go q
 | false=>rw[if_neg Bool.false_ne_true] at q;show(if false=true then upS X.K t D σ H1 else upS X.K u D σ H1);rw[if_neg Bool.false_ne_true];exact go q
abbrev TGd:=W->DS->MH->(DS->MH->Prop)->Prop
def upG(K:FG)(g:TGd):TG:=λ v σ H Q=>∃ w τ M Qd,aw K H w v/\Abs K H σ τ M/\g w τ M Qd/\∀ σ' H' τ' M',Kp H H'->Abs K H' σ' τ' M'->Qd τ' M'->Q σ' H'
abbrev PGd(X:Cx)(e:Expr)(g:TGd):Prop:=PG X e (upG X.K g)
theorem wg(h:PG X e g)(k:∀ v σ H Q,g' v σ H Q->g v σ H Q):PG X e g':=λ pins s σ H v u Q I r q=>h pins s σ H v u Q I r (k v σ H Q q)
def gN(i:Nat)(w:W)(τ:DS)(M:MH)(Q:DS->MH->Prop):Prop:=Q (τ.set i (some w)) M
def bB(te:TD)(g:TGd)(D:Ed)(τ:DS)(M:MH):Prop:=te τ M λ w M1=>g w τ M1 D.nx
theorem qC(h:upS K (bB te g) D σ H):vi (up K te) (upG K g) D σ H:=by obtain⟨τ,M,Dd,A,h,k1,_⟩:=h;exact⟨τ,M,_,A,h,λ v H1 w M1 kp r m q=>⟨w,τ,M1,_,r,A.go kp m,q,λ σ2 H2 τ2 M2 kp2 A2 q2=>k1 σ2 H2 τ2 M2 (kp.trans kp2) A2 q2⟩⟩
theorem rN(he:PD X e te)(hg:PGd X tg g)(hs:swapsWithSole [tg] e pos.line X.env=pure false:=by rfl)(hw:swappedStores [tg] e X.env=pure none:=by rfl)
  (h1:(assignEach [tg] X.env).map (·.2)=[assign tg X.env]:=by rfl):PSd X (.Assign [tg] e pos) (bB te g):=kF (sS he hg hs hw h1) λ D σ H h=>qC h
theorem rm(hN:X.N.Nodup)(hi:X.N[i]? =some x)(hx:Loc X.env.scope x)(he:PD X e te)(hs:swapsWith e (some (.Name x pos')) pos.line X.env=pure false:=by rfl)(hf:X.fn x=true\/X.env.scope.names.lookup x=some .local:=by first | exact .inl rfl | exact .inr rfl | assumption) :
  PSd X (.Assign [.Name x pos'] e pos) (bB te (gN i)):=kF (va hN hi hx he hs hf) λ D σ H ⟨τ,M,Dd,A,h,k1,_⟩ =>
 ⟨τ,M,_,A,h,λ v H1 w M1 kp r m q=>k1 _ H1 _ M1 kp ((A.go kp m).set i r) q⟩
end
abbrev SpD:=List W->MH->QD->Prop
def dY(K:FG)(sp:SpD):Sp:=λ vs H Q _=>∃ ws M Qd,aT K H ws vs/\bV K H M/\sp ws M Qd/\Kont K H Qd Q
def bj(sp:SpD)(t:TAd)(τ:DS)(M:MH)(Q:QD):Prop:=t τ M λ ws M1=>sp ws M1 Q
theorem sF(F:cL X.prog X.w X.K X.mg X.base CX0 k f fd ps (dY X.K sp))(hr:b9 k X.A)(hg:Gl X x)(hm:X.mg x=some (.ref f))(hk:W.keepIn X.K (.ref f)=true)(hb:Binds X.K fd ps [])
  (ha:PAd X (e::es) t)(hdb:ND x:=by decide)(he:starEach (e::es) X.env=(false,eval e X.env)::starEach es X.env:=by rfl)(hpl:(backTo pos (starEach es X.env)).any (·.1)=false:=by rfl) :
  PD X (.Call (.Name x p) (e::es) [] pos) (bj sp t):=dg (sr (E:=E0) (dvs:=[]) F hr hg hm hk hb .nil qo ha hdb he hpl) λ σ H Q h=>by
 obtain⟨τ,M,Qd,A,h,k⟩:=h;exact⟨τ,M,_,A,h,λ vs H1 ws M1 kp r1 m1 q1=>⟨ws,M1,Qd,by rw[List.append_nil];exact r1,m1,q1,kgo k kp⟩⟩
def bD(N:List Str)(ws:List W):DS:=ws.map some++List.replicate (N.length-ws.length) none
section
variable {P:Program}{w:World}{K:FG}{mg:Str->Option Value}{base:Heap}
theorem kU(r:aT K H ws vs)(m:bV K H M):Abs K H (start N vs) (bD N ws) M:=by
 have hl:=r.length;refine⟨?_,λ i w e=>?_,m⟩
 ·simp[L2.start,bD,hl]
 ·unfold bD at e
  by_cases hi:i<ws.length
  ·rw[List.getElem?_append_left (by simpa using hi),List.getElem?_map] at e;cases q:ws[i]? with
   | none=>rw[q] at e;cases e
   | some w' =>
    rw[q] at e;cases e;obtain⟨v,e1,r1⟩:=r.get q;refine⟨v,?_,r1⟩;unfold L2.start;rw[List.getElem?_append_left (by rw[List.length_map,<- hl];exact hi),List.getElem?_map,e1];rfl
  ·rw[List.getElem?_append_right (by simpa using hi),List.getElem?_replicate] at e
   split at e<;>cases e
theorem cn{x qual:Str}{st:Stmt}{N ps:List Str}{k:Nat}{sp:SpD}{t:TSd}(F:Fun K x qual st f fd)(S:bp N ps (ao st))(len:∀ ws M Q,sp ws M Q->ws.length=ps.length)
  (hbody:∀ (cdv:Value) (A:Around) (outer:List Env) (s:Shared) (H:Hp) (E:XK),b9 k (A.deeper (envOfC qual (ao st) s.heap.objs.size f cdv)) ->
   ja (qt CX0 P w K mg base N qual (ao st) f cdv A outer s H E).nox (aG st) t)
  (read:∀ ws M Q,sp ws M Q->t {nx:=λ _ M'=>Q (.d .none) M',rt:=Q} (bD N ws) M):cL P w K mg base CX0 (k+1) f fd ps (dY K sp):=by
 refine F.ok S (λ vs H Q E h=>?_) (λ cdv A outer s H vs Q E hr h=>?_)
 ·obtain⟨ws,M,Qd,r,_,q,_⟩:=h;rw[<- r.length];exact len _ _ _ q
 ·obtain⟨ws,M,Qd,r,m,q,kk⟩:=h;refine⟨_,hbody cdv A outer s H E hr,bD N ws,M,_,kU r m,read ws M Qd q,λ σ' H' τ' M' kp A' q'=>?_,λ v H' w' M' kp r' m' q'=>?_,λ σ' H' τ' M' kp A' q'=>q'.elim,λ σ' H' τ' M' kp A' q'=>q'.elim⟩
  ·exact kk _ H' _ M' kp (by simp[aw,au]) A'.mem q'
  ·exact kk v H' w' M' kp r' m' q'
end
end D
namespace L2
structure iH(k:Nat)(A:Around):Prop where
 gd:A.guards=some []
 dp:A.depth+3 * k+5<recursionLimit
 un:A.units+16 * k+200<cLine
theorem iH.units(r:iH k A):A.units+64<cLine:=by have:=r.un;omega
theorem b9.h(r:b9 k A):iH k A:=⟨r.gd,r.dp,r.un⟩
end L2
namespace D
open L2
mutual
theorem cB(I:Inv X pins σ H s):∀ (d:PyData) {x:V} {u:Value},au X.K H d x->RelV x u->d.hasDict=false->∃ as,Reads s.heap u d as
 | .none,x,u,h,r,_=>by simp only[au] at h;subst h;cases (show u=Value.none from r);exact⟨_,.none⟩
 | .bool b,x,u,h,r,_=>by simp only[au] at h;subst h;cases (show u=Value.bool b from r);exact⟨_,.bool b⟩
 | .int i,x,u,h,r,_=>by simp only[au] at h;subst h;obtain⟨t,e⟩:=(show ∃ t,u=Value.int i t from r);subst e;exact⟨_,.int i t⟩
 | .str z,x,u,h,r,_=>by simp only[au] at h;subst h;obtain⟨t,e⟩:=(show ∃ t,u=Value.str z t from r);subst e;exact⟨_,.str z t⟩
 | .list ds,x,u,h,r,hd=>by simp only[au] at h;obtain⟨a,vs,e,hs,ra⟩:=h;subst e;cases (show u=Value.ref a from r);obtain⟨its,rv,⟨o,n,e1,e2,e3,e4⟩,hz⟩:=I.list hs.sq;obtain⟨as,q⟩:=eX I ds ra rv (by simpa [PyData.hasDict] using hd);exact⟨_,.list e1 e2 e4 (by simpa using q)⟩
 | .tuple ds,x,u,h,r,hd=>by simp only[au] at h;obtain⟨a,vs,e,hs,ra⟩:=h;subst e;cases (show u=Value.ref a from r);obtain⟨its,rv,⟨o,e1,e2,n,e4⟩,hz⟩:=I.tuple hs;obtain⟨as,q⟩:=eX I ds ra rv (by simpa [PyData.hasDict] using hd);exact⟨_,.tuple e1 e2 e4 (by simpa using q)⟩
 | .dict kvs,x,u,h,r,hd=>by simp[PyData.hasDict] at hd
theorem eX(I:Inv X pins σ H s):∀ (ds:List PyData) {xs:List V} {us:List Value},aJ X.K H ds xs->Vals xs us->PyData.hasDictAll ds=false->∃ as,ReadsAll s.heap us ds as
 | [],xs,us,h,r,_=>by simp only[aJ] at h;subst h;cases r;exact⟨_,.nil⟩
 | d::ds,xs,us,h,r,hd=>by
  simp only[aJ] at h;obtain⟨v,vr,e,h1,h2⟩:=h;subst e;simp only[PyData.hasDictAll,Bool.or_eq_false_iff] at hd;cases r with
  | cons r1 r2 =>
   obtain⟨as,q1⟩:=cB I d h1 r1 hd.1;obtain⟨bs,q2⟩:=eX I ds h2 r2 hd.2;exact⟨_,.cons q1 q2⟩
end
def iz(d:PyData):Bool:=SeqAt.shaped d&&!d.hasDict
def cu:PyData->PyData->Bool
 | .str _,.str _=>true
 | d,d'=>iz d&&iz d'
theorem bX(h:cu d d'=true):(∃ x y,d=.str x/\d'=.str y)\/(iz d=true/\iz d'=true):=by
 cases d with
 | str x =>
  cases d' with
  | str y=>exact .inl ⟨x,y,rfl,rfl⟩
  | _=>exact .inr (by simpa [cu] using h)
 | _=>exact .inr (by simpa [cu] using h)
theorem iS(x y:Str):decide (V.str x=V.str y)=PyData.eqv (.str x) (.str y):=by
 rw[PyData.eqv]
 by_cases e:x=y
 ·subst e;simp
 ·rw[decide_eq_false (λ z=>e (V.str.inj z))];exact(beq_eq_false_iff_ne.mpr e).symm
theorem pQ(hr:iH k X.A):OpR X (compareOp .Eq) (λ x y H Q=>∃ d d',au X.K H d x/\au X.K H d' y/\cu d d'=true/\Q (.bl (PyData.eqv d d')) H):=by
 intro pins s σ H x y v u Q I rx ry h;obtain⟨d,d',h1,h2,o,q⟩:=h;rcases bX o with ⟨a,b,e1,e2⟩ | ⟨o1,o2⟩
 ·subst e1;subst e2;simp only[au] at h1 h2;subst h1;subst h2;exact vL pins s σ H _ _ v u Q I rx ry ⟨rfl,by rw[iS];exact q⟩
 simp only[iz,Bool.and_eq_true,Bool.not_eq_true'] at o1 o2;obtain⟨as,r1⟩:=cB I d h1 rx o1.2;obtain⟨bs,r2⟩:=cB I d' h2 ry o2.2;exact eq_dataH r1 r2 o1.1 o2.1 hr.units ⟨.bl _,H,I,rfl,q⟩
theorem uo(hr:iH k X.A):OpR X (compareOp .NotEq) (λ x y H Q=>∃ d d',au X.K H d x/\au X.K H d' y/\cu d d'=true/\Q (.bl (!PyData.eqv d d')) H):=by
 intro pins s σ H x y v u Q I rx ry h;obtain⟨d,d',h1,h2,o,q⟩:=h;rcases bX o with ⟨a,b,e1,e2⟩ | ⟨o1,o2⟩
 ·subst e1;subst e2;simp only[au] at h1 h2;subst h1;subst h2;exact wG pins s σ H _ _ v u Q I rx ry ⟨rfl,by rw[iS];exact q⟩
 simp only[iz,Bool.and_eq_true,Bool.not_eq_true'] at o1 o2;obtain⟨as,r1⟩:=cB I d h1 rx o1.2;obtain⟨bs,r2⟩:=cB I d' h2 ry o2.2;exact ne_dataH r1 r2 o1.1 o2.1 hr.units ⟨.bl _,H,I,rfl,q⟩
end D
namespace D
open L2
section
variable {X:Cx}{K:FG}
theorem OpR.or(h:OpR X f r)(h':OpR X f r'):OpR X f (λ x y H Q=>r x y H Q\/r' x y H Q):=by
 intro pins s σ H x y v u Q I rx ry q;rcases q with q | q
 ·exact h pins s σ H x y v u Q I rx ry q
 ·exact h' pins s σ H x y v u Q I rx ry q
theorem OpD.or(h:OpD K r rd)(h':OpD K r' rd'):OpD K (λ x y H Q=>r x y H Q\/r' x y H Q) (λ w w' M Q=>rd w w' M Q\/rd' w w' M Q):=by
 intro x y H w w' M Qd Q r1 r2 m q k;rcases q with q | q
 ·exact .inl (h x y H w w' M Qd Q r1 r2 m q k)
 ·exact .inr (h' x y H w w' M Qd Q r1 r2 m q k)
def sN(g:Int->Int->PyData)(w:W)(w':W)(M:MH)(Q:QD):Prop:=∃ i j,w=.d (.int i)/\w'=.d (.int j)/\Q (.d (g i j)) M
def rdI(C:Int->Int->Prop)(g:Int->Int->PyData)(w:W)(w':W)(M:MH)(Q:QD):Prop:=∃ i j,w=.d (.int i)/\w'=.d (.int j)/\C i j/\Q (.d (g i j)) M
theorem hZ(hg:∀ i j H,au K H (gd i j) (g i j)):OpD K (rI0 g) (sN gd):=by intro x y H w w' M Qd Q r1 r2 m ⟨i,j,e1,e2,q⟩ k;subst e1;subst e2;simp only[aw,au] at r1 r2;exact⟨i,j,r1,r2,k _ H (.d (gd i j)) M (Kp.refl H) (hg i j H) m q⟩
theorem rj(hg:∀ i j H,au K H (gd i j) (g i j)):OpD K (rI C g) (rdI C gd):=by intro x y H w w' M Qd Q r1 r2 m ⟨i,j,e1,e2,c,q⟩ k;subst e1;subst e2;simp only[aw,au] at r1 r2;exact⟨i,j,r1,r2,c,k _ H (.d (gd i j)) M (Kp.refl H) (hg i j H) m q⟩
def rq(w w':W)(M:MH)(Q:QD):Prop:=sN (λ i j=>.int (i-j)) w w' M Q
def cC(w w':W)(M:MH)(Q:QD):Prop:=rdI uT (λ i j=>.int (i * j)) w w' M Q
def bR(w w':W)(M:MH)(Q:QD):Prop:=rdI (λ _ j=>0<j) (λ i j=>.int (i % j)) w w' M Q
def iO(w w':W)(M:MH)(Q:QD):Prop:=rdI wM (λ i j=>.int (i / j)) w w' M Q
def bW(w:W)(w':W)(M:MH)(Q:QD):Prop:=sN (λ i j=>.int (i+j)) w w' M Q\/∃ x y,w=.d (.str x)/\w'=.d (.str y)/\x.length+y.length<=sizeLine/\Q (.d (.str (x++y))) M
theorem mF:OpD K (rI0 λ i j=>.int (i-j)) rq:=hZ λ _ _ _=>by simp[au]
theorem cK:OpD K (rI uT λ i j=>.int (i * j)) cC:=rj λ _ _ _=>by simp[au]
theorem bU:OpD K (rI (λ _ j=>0<j) λ i j=>.int (i % j)) bR:=rj λ _ _ _=>by simp[au]
theorem gr:OpD K (rI wM λ i j=>.int (i / j)) iO:=rj λ _ _ _=>by simp[au]
def qm:R2:=λ x y H Q=>∃ i j,x=.str i/\y=.str j/\i.length+j.length<=sizeLine/\Q (.str (i++j)) H
theorem nJ:OpD K qm (λ w w' M Q=>∃ x y,w=.d (.str x)/\w'=.d (.str y)/\x.length+y.length<=sizeLine/\Q (.d (.str (x++y))) M):=by intro x y H w w' M Qd Q r1 r2 m ⟨i,j,e1,e2,c,q⟩ k;subst e1;subst e2;simp only[aw,au] at r1 r2;exact⟨i,j,r1,r2,c,k _ H (.d (.str (i++j))) M (Kp.refl H) (by simp[aw,au]) m q⟩
theorem bC:OpR X (binaryOp .Add) (λ x y H Q=>rI0 (λ i j=>.int (i+j)) x y H Q\/qm x y H Q):=OpR.or uN jQ
theorem bo:OpD K (λ x y H Q=>rI0 (λ i j=>.int (i+j)) x y H Q\/qm x y H Q) bW:=OpD.or (hZ λ _ _ _=>by simp[au]) nJ
def vq(w w':W)(M:MH)(Q:QD):Prop:=sN (λ i j=>.bool (decide (i<j))) w w' M Q
def rL(w w':W)(M:MH)(Q:QD):Prop:=sN (λ i j=>.bool (decide (j<i))) w w' M Q
def we(w w':W)(M:MH)(Q:QD):Prop:=sN (λ i j=>.bool (decide (j<=i))) w w' M Q
theorem pO:OpD K (rI0 λ i j=>.bl (decide (i<j))) vq:=hZ λ _ _ _=>by simp[au]
theorem jv:OpD K (rI0 λ i j=>.bl (decide (j<i))) rL:=hZ λ _ _ _=>by simp[au]
theorem tp:OpD K (rI0 λ i j=>.bl (decide (j<=i))) we:=hZ λ _ _ _=>by simp[au]
def w6(w:W)(w':W)(M:MH)(Q:QD):Prop:=∃ d d',w=.d d/\w'=.d d'/\cu d d'=true/\Q (.d (.bool (PyData.eqv d d'))) M
theorem ug:OpD K (λ x y H Q=>∃ d d',au K H d x/\au K H d' y/\cu d d'=true/\Q (.bl (PyData.eqv d d')) H) w6:=by intro x y H w w' M Qd Q r1 r2 m ⟨d,d',e1,e2,o1,q⟩ k;subst e1;subst e2;exact⟨d,d',r1,r2,o1,k _ H (.d (.bool _)) M (Kp.refl H) (by simp[aw,au]) m q⟩
def oi(w:W)(M:MH)(Q:QD):Prop:=∃ i,w=.d (.int i)/\Q (.d (.int (-i))) M
theorem mO:UnD K (rU λ i=>.int (-i)) oi:=by intro x H w M Qd Q r m ⟨i,e,q⟩ k;subst e;simp only[aw,au] at r;exact⟨i,r,k _ H (.d (.int (-i))) M (Kp.refl H) (by simp[aw,au]) m q⟩
def sf:W->Bool
 | .d (.str z)=>decide (z.length<=sizeLine)
 | _=>true
def ixW(M:MH):W->Int->Option W
 | .d (.list ds),i=>(atI ds i).map W.d
 | .d (.tuple ds),i=>(atI ds i).map W.d
 | .d (.str z),i=>(atI z.cps.toList i).map λ c=>W.d (.str ⟨#[c]⟩)
 | .m a,i=>match M a with
  | some (.lst ws)=>atI ws i
  | some (.tup ws)=>atI ws i
  | _=>none
 | _,_=>none
inductive RIx(w:W) (w':W) (M:MH) (Q:QD):Prop
 | mk (i:Int) (x:W) (z0:w'=.d (.int i)) (z1:ixW M w i=some x) (z2:sf w=true) (q:Q x M):RIx w w' M Q
def bK(w:W)(w':W)(M:MH)(Q:QD):Prop:=RIx w w' M Q
theorem jg(r:aJ K H ds vs)(e:atI ds i=some d):∃ v,atI vs i=some v/\au K H d v:=by
 unfold atI at e ⊢;rw[r.length];cases q:ixN ds.length i with
 | none=>rw[q] at e;cases e
 | some j =>
  rw[q] at e;exact r.get e
theorem gG(r:aT K H ds vs)(e:atI ds i=some d):∃ v,atI vs i=some v/\aw K H d v:=by
 unfold atI at e ⊢;rw[<- r.length];cases q:ixN ds.length i with
 | none=>rw[q] at e;cases e
 | some j =>
  rw[q] at e;exact r.get e
theorem aS:OpD K (rIx K) bK:=by
 intro x y H w w' M Qd Q r1 r2 m ⟨i,z,e2,ei,hf,q⟩ k;subst e2;simp only[aw,au] at r2;cases w with
 | t n=>simp[ixW] at ei
 | m a =>
  simp only[aw] at r1;simp only[ixW] at ei;cases hm:M a with
  | none=>rw[hm] at ei;cases ei
  | some mo =>
   rw[hm] at ei;cases mo with
   | lst ws =>
    obtain⟨vs,e1,rw1⟩:=m a _ hm;obtain⟨v,e3,rv⟩:=gG rw1 ei;exact .inl ⟨a,vs,i,v,r1,r2,SqL.of e1,e3,k v H z M (Kp.refl H) rv m q⟩
   | dic _=>cases ei
   | dct _=>cases ei
   | fdic _=>cases ei
   | ins _ _=>cases ei
   | tup ws =>
    obtain⟨vs,e1,rw1⟩:=m a _ hm;obtain⟨v,e3,rv⟩:=gG rw1 ei;exact .inr (.inl ⟨a,vs,i,v,r1,r2,.inl (.inl e1),e3,k v H z M (Kp.refl H) rv m q⟩)
   | flst _=>cases ei
   | exc _ _=>cases ei
   | code _ _=>cases ei
 | d d =>
  cases d with
  | list ds =>
   simp only[aw,au] at r1;obtain⟨a,vs,e1,hs,ra⟩:=r1;simp only[ixW] at ei;cases h:atI ds i with
   | none=>rw[h] at ei;cases ei
   | some d =>
    rw[h] at ei;cases ei;obtain⟨v,e3,rv⟩:=jg ra h;exact .inl ⟨a,vs,i,v,e1,r2,hs.sq,e3,k v H (.d d) M (Kp.refl H) rv m q⟩
  | tuple ds =>
   simp only[aw,au] at r1;obtain⟨a,vs,e1,hs,ra⟩:=r1;simp only[ixW] at ei;cases h:atI ds i with
   | none=>rw[h] at ei;cases ei
   | some d =>
    rw[h] at ei;cases ei;obtain⟨v,e3,rv⟩:=jg ra h;exact .inr (.inl ⟨a,vs,i,v,e1,r2,hs,e3,k v H (.d d) M (Kp.refl H) rv m q⟩)
  | str s =>
   simp only[aw,au] at r1;simp only[ixW] at ei;cases h:atI s.cps.toList i with
   | none=>rw[h] at ei;cases ei
   | some c =>
    rw[h] at ei;cases ei;exact .inr (.inr ⟨s,i,c,r1,r2,of_decide_eq_true hf,h,k _ H (.d (.str ⟨#[c]⟩)) M (Kp.refl H) (by simp[aw,au]) m q⟩)
  | _=>simp[ixW] at ei
theorem qX(h:PE X e t):PE X e (λ σ H Q=>t σ H λ v H1=>Q v H1\/∃ p u,v=.ref p/\H1 p=some u/\Fz u/\∀ o,Q v (upd H1 p (.frz o u))):=by
 intro pins s σ H Q I hq;refine thn (h pins s σ H _ I hq) λ v s1 hq36=>?_;obtain⟨x,H1,I1,r1,q⟩:=hq36;rcases q with q | ⟨p,u,e1,e2,f,q⟩
 ·exact⟨x,_,I1,r1,q⟩
 ·obtain⟨o,I2⟩:=I1.freeze e2 f;exact⟨x,_,I2,r1,q o⟩
def xi:V->Option Int->Option Int->Hp->VK->Prop:=λ x lo hi H Q=>∃ z,x=.str z/\z.length<=sizeLine/\Q (.str (Txt.slice z lo hi)) H
theorem tq:SlR X xi:=by
 intro pins s σ H x v vl vu lo hi sl Q I rx hs pl pu h;obtain⟨z,rfl,hz,q⟩:=h;obtain⟨t,rfl⟩:=rx;have fin:∀ t' k,EP X pins σ Q (.str (Txt.slice z lo hi) t') {s with toks:=k}:=λ t' k=>⟨.str _,H,I.tok _,⟨_,rfl⟩,q⟩;refine⟨"str",_,F.slot_str_getitem.lookup,typeIs_str _ _ _,?_⟩;cases pl with
 | none =>
  cases pu with
  | none=>exact wpAny_getItem_str_slice (l:=none) (u:=none) (st:=none) hs rfl (post_val_or_str ⟨Nat.le_trans (Txt.slice_le z _ _) hz,fin⟩)
  | int j uj=>exact wpAny_getItem_str_slice (l:=none) (u:=some (j,uj)) (st:=none) hs rfl (post_val_or_str ⟨Nat.le_trans (Txt.slice_le z _ _) hz,fin⟩)
 | int i ui =>
  cases pu with
  | none=>exact wpAny_getItem_str_slice (l:=some (i,ui)) (u:=none) (st:=none) hs rfl (post_val_or_str ⟨Nat.le_trans (Txt.slice_le z _ _) hz,fin⟩)
  | int j uj=>exact wpAny_getItem_str_slice (l:=some (i,ui)) (u:=some (j,uj)) (st:=none) hs rfl (post_val_or_str ⟨Nat.le_trans (Txt.slice_le z _ _) hz,fin⟩)
abbrev TOd:=DS->MH->(Option Int->MH->Prop)->Prop
def upO(K:FG)(t:TOd):TO:=λ σ H Q=>∃ τ M Qd,Abs K H σ τ M/\t τ M Qd/\∀ b H' M',Kp H H'->bV K H' M'->Qd b M'->Q b H'
abbrev POd(X:Cx)(e:Option Expr)(t:TOd):Prop:=PO X e (upO X.K t)
theorem xh(h:PO X e t)(k:∀ σ H Q,t' σ H Q->t σ H Q):PO X e t':=λ pins s σ H Q I q=>h pins s σ H Q I (k σ H Q q)
def c6(_:DS)(M:MH)(Q:Option Int->MH->Prop):Prop:=Q none M
def gk(t:TD)(τ:DS)(M:MH)(Q:Option Int->MH->Prop):Prop:=t τ M λ w M1=>∃ i,w=.d (.int i)/\Q (some i) M1
theorem o3(h:PD X e te):POd X (some e) (gk te):=xh (qL h) λ σ H Q ⟨τ,M,Qd,A,q,k⟩=>⟨τ,M,_,A,q,λ v H1 w M1 kp r m hq37=>by obtain⟨i,e,q1⟩:=hq37;subst e;simp only[aw,au] at r;exact⟨i,r,k _ H1 M1 kp m q1⟩⟩
def cutD(xs:List α)(lo hi:Option Int):List α:=(xs.drop (HT.sIx xs.length 0 lo)).take (HT.sIx xs.length xs.length hi-HT.sIx xs.length 0 lo)
def pV(n:Nat)(lo hi:Option Int):Bool:=decide (HT.sIx n 0 lo=0/\HT.sIx n n hi=n)
def slW:W->Option Int->Option Int->Option W
 | .d (.list ds),lo,hi=>some (.d (.list (cutD ds lo hi)))
 | .d (.tuple ds),lo,hi=>if pV ds.length lo hi then none else some (.d (.tuple (cutD ds lo hi)))
 | .d (.str z),lo,hi=>some (.d (.str (Txt.slice z lo hi)))
 | _,_,_=>none
def dSl(te:TD)(tl th:TOd)(τ:DS)(M:MH)(Q:QD):Prop:=te τ M λ w M1=>tl τ M1 λ lo M2=>th τ M2 λ hi M3=>∃ z,slW w lo hi=some z/\sf w=true/\Q z M3
theorem tO:SlR X (λ x lo hi H Q=>xf X.K x lo hi H Q\/xl X.K x lo hi H Q\/xi x lo hi H Q):=qA.or (uc.or tq)
theorem aJ.cut(r:aJ K H ds vs)(lo hi:Option Int):aJ K H (cutD ds lo hi) (qb vs lo hi):=by
 unfold cutD qb;rw[r.length];exact(r.drop _).take _
theorem oB{te:TD}{lo hi:Option Expr}{tl th:TOd}{pos p2:Pos}(he:PD X e te)(hl:POd X lo tl)(hu:POd X hi th):PD X (.Subscript e (.Slice lo hi none p2) pos) (dSl te tl th):=
 dg (qX (nP tO he hl hu)) λ σ H Q h=>by
  obtain⟨τ,M,Qd,A,h,k⟩:=h;refine⟨τ,M,_,A,h,λ v H1 w M1 kp1 r1 m1 q1=>⟨τ,M1,_,A.go kp1 m1,q1,λ lo H2 M2 kp2 m2 q2=>⟨τ,M2,_,A.go (kp1.trans kp2) m2,q2,λ hi H3 M3 kp3 m3 q3=>?_⟩⟩⟩;obtain⟨z,ez,hf,q⟩:=q3;have kp:=(kp1.trans kp2).trans kp3;have r:=r1.keep (kp2.trans kp3);cases w with
  | t n=>simp[slW] at ez
  | m a=>simp[slW] at ez
  | d d =>
   cases d with
   | list ds =>
    simp only[slW] at ez;cases ez;simp only[aw,au] at r;obtain⟨a,vs,e1,hs,ra⟩:=r;exact .inl ⟨a,vs,e1,hs.sq,λ p hp=>.inr (fJ hp (aJ.cut ra lo hi) m3 q (kgo k kp))⟩
   | tuple ds =>
    simp only[slW] at ez
    split at ez
    ·cases ez
    ·rename_i hw
     cases ez;simp only[aw,au] at r;obtain⟨a,vs,e1,hs,ra⟩:=r;refine .inr (.inl ⟨a,vs,e1,hs,?_,λ p hp=>.inl ?_⟩)
     ·rw[ra.length]
      simpa [pV] using hw
     ·refine k _ _ (.d (.tuple _)) M3 (kp.trans (Kp.new hp)) ?_ (m3.new hp) q;simp only[aw,au];exact⟨p,_,rfl,.inl (.inl ax),(aJ.cut ra lo hi).keep (Kp.new hp)⟩
   | str s =>
    simp only[slW] at ez;cases ez;simp only[aw,au] at r;exact .inr (.inr ⟨s,r,of_decide_eq_true hf,.inl (k _ H3 (.d (.str _)) M3 kp (by simp[aw,au]) m3 q)⟩)
   | _=>simp[slW] at ez
def nu(to ti:TD)(v:W)(τ:DS)(M:MH)(Q:DS->MH->Prop):Prop:=to τ M λ w M1=>ti τ M1 λ w' M2=>∃ a ws i j,w=.m a/\w'=.d (.int i)/\M2 a=some (.lst ws)/\ixN ws.length i=some j/\Q τ (bG M2 a (.lst (ws.set j v)))
theorem l6(m:bV K H M)(e:H a=some (.lst vs))(rw1:aT K H ws vs)(rv:aw K H w v) :
  Kp H (upd H a (.lst (vs.set j v)))/\bV K (upd H a (.lst (vs.set j v))) (bG M a (.lst (ws.set j w))):=by
 have kp:Kp H (upd H a (.lst (vs.set j v))):=Kp.set e (λ xs z=>nomatch z) λ _ _ z=>nomatch z;exact⟨kp,m.put kp ⟨_,ax,(aT.set rv j rw1).keep kp⟩⟩
theorem rV(ho:PD X o to)(hi:PD X i ti)
  (ha:∀ v,assign (.Subscript o i pos) X.env v=(do
   let ov <- holding [v] (eval o X.env)
   let iv <- holding [v,ov] (eval i X.env)
   standAt pos
   holding [v,ov,iv] (setItem ov iv v)
   release [v,ov,iv] []):=by intro _;rfl):PGd X (.Subscript o i pos) (nu to ti):=wg (tR ho hi set_list ha) λ v σ H Q h=>by
 obtain⟨w,τ,M,Qd,rv,A,h,k⟩:=h;refine⟨τ,M,_,A,h,λ x H1 wo M1 kp1 r1 m1 q1=>⟨τ,M1,_,A.go kp1 m1,q1,λ y H2 wi M2 kp2 r2 m2 q2=>?_⟩⟩;obtain⟨a,ws,i,j,e1,e2,hm,hj,q⟩:=q2;subst e1;subst e2;simp only[aw,au] at r1 r2;obtain⟨vs,e3,rw1⟩:=m2 a _ hm;have kp:=kp1.trans kp2;obtain⟨kp3,m3⟩:=l6 (j:=j) m2 e3 rw1 (rv.keep kp);exact⟨a,vs,i,j,r1,r2,e3,by rw[<- rw1.length];exact hj,k σ _ τ _ (kp.trans kp3) (A.go (kp.trans kp3) m3) q⟩
theorem nB:xg X (wd X.K):=by
 intro pins s σ H o i ov iv Q I ro ri h;obtain⟨p,xs,k,z,rfl,rfl,hq,he,q⟩:=h;cases ro;obtain⟨t,rfl⟩:=ri;obtain⟨its,r,pl,hz⟩:=I.list hq;obtain⟨j,h1,h2,h3,h4,h5⟩:=gg he;obtain⟨w,ew,rw'⟩:=r.get h2;have hl:=r.length;have hn:=eJ;have fin:EP X pins σ Q w s:=⟨z,H,I,rw',q⟩
 by_cases h0:0<=k
 ·have hj:k.toNat=j:=by rw[seqIndex_of h0 h5] at h1;exact Option.some.inj h1
  exact wpAny_getItem_list pl.isList h0 (by omega) (by rw[hj];simpa using ew) fin
 ·have hj:(k+(its.toArray.size:Int)).toNat=j:=by rw[seqIndex_neg (by omega) h4] at h1;rw[List.size_toArray,<- hl];exact Option.some.inj h1
  exact wpAny_getItem_list_neg pl.isList (by omega) (by rw[List.size_toArray]<;>omega) (by omega) (by rw[hj];simpa using ew) fin
def o8(to ti te:TD)(f:Int->Int->Int)(D:Ed)(τ:DS)(M:MH):Prop:=to τ M λ w M1=>ti τ M1 λ w' M2=>∃ a ws i j n,w=.m a/\w'=.d (.int i)/\M2 a=some (.lst ws)/\ixN ws.length i=some j/\ws[j]? =some (.d (.int n)) /\
 te τ M2 λ y M3=>∃ n',y=.d (.int n')/\M3=M2/\D.nx τ (bG M3 a (.lst (ws.set j (.d (.int (f n n'))))))
theorem nF(ho:PD X o to)(hi:PD X i ti)(he:PD X e te)(hp:PIp X op (ipI f))
  (ha:∀ ov iv new,augStore i ov iv new=(do holding [new,ov,iv] (setItem ov iv new);release [new,ov,iv] [];pure .next):=by intros;rfl):PSd X (.AugAssign (.Subscript o i tpos) op e pos) (o8 to ti te f):=
 kF (r9 ho hi nB he hp set_list ha) λ D σ H h=>by
  obtain⟨τ,M,Dd,A,h,k1,_⟩:=h;refine⟨τ,M,_,A,h,λ x H1 wo M1 kp1 r1 m1 q1=>⟨τ,M1,_,A.go kp1 m1,q1,λ y H2 wi M2 kp2 r2 m2 q2=>?_⟩⟩;obtain⟨a,ws,i,j,n,e1,e2,hm,hj,hn,q⟩:=q2;subst e1;subst e2;simp only[aw,au] at r1 r2;obtain⟨vs,e3,rw1⟩:=m2 a _ hm;obtain⟨v,e4,rv⟩:=rw1.get hn;simp only[aw,au] at rv;have hj':ixN vs.length i=some j:=by rw[<- rw1.length];exact hj
  refine⟨a,vs,i,v,r1,r2,SqL.of e3,by unfold atI;rw[hj'];exact e4,?_⟩;refine⟨τ,M2,_,A.go (kp1.trans kp2) m2,q,λ z H3 wz M3 kp3 r3 m3 q3=>?_⟩;obtain⟨n',e5,e6,qn⟩:=q3;subst e5;subst e6;simp only[aw,au] at r3;refine⟨n,n',rv,r3,?_⟩;obtain⟨vs',e3',rw2⟩:=m3 a _ hm;have kp:=(kp1.trans kp2).trans kp3;obtain⟨kp4,m4⟩:=l6 (j:=j) (v:=.int (f n n')) (w:=.d (.int (f n n'))) m3 e3' rw2 (by simp[aw,au]);exact⟨a,vs',i,j,r1,r2,e3',by rw[<- rw2.length];exact hj,k1 σ _ τ _ (kp.trans kp4) (A.go (kp.trans kp4) m4) qn⟩
end
section
variable {X:Cx}{K:FG}{tg:Expr}
def Its(z:Str):It:=⟨λ i _=>i<z.cps.size,λ i H x H'=>H'=H/\∃ c,z.cps[i]? =some c/\x=.str ⟨#[c]⟩,λ i _=>z.cps.size<=i⟩
theorem jK(it:Addr)(T:String)(z:Str)(t:Tok)
  (hT:["enumerate", "zip", "dict_itemiterator", "dict_reverseitemiterator", "odict_iterator", "itertools.zip_longest", "itertools.pairwise"].contains T=false)
  (W:∀ A:Around,A.handled=none->Walks P w A it [it] [it] z.cps.size (SignAt z) (λ i h=>h.IsStrIter it T z t i))(hself:∀ (A:Around) (i:Nat) (s:Shared) (Q:VP) (E:VP),s.heap.IsStrIter it T z t i->Q (.ref it) s->wpAny (model P w) A (pyIter (.ref it)) Q E s)
  (hend:∀ (A:Around) (i:Nat) (s:Shared) (Q:Option Value->Shared->Prop) (E:VP),A.handled=none->s.heap.IsStrIter it T z t i->z.cps[i]? =none->(∀ h',Heap.ExtBut it s.heap h'->Q none {s with heap:=h'})->wpAny (model P w) A (pyNext (.ref it)) Q E s) :
  Turn P w K tg (Its z) [it] it (λ i h=>h.IsStrIter it T z t i) where
 mem:=by simp
 obj:=λ i h st b hb=>by
  have e:b=it:=by simpa using hb
  subst e;obtain⟨o,e,c,d⟩:=st;exact⟨o,e,λ v q=>by rw[d] at q;cases q⟩
 keep:=λ i h h' st k=>by obtain⟨o,e,r⟩:=st;exact⟨o,k it (by simp) o e,r⟩
 item:=by intro X hP hw hK hc i pins s σ H E I hf st hg;subst hP hw hK;obtain⟨f0,f1,f2,f3,f4,f5⟩:=hf it (by simp);refine(W X.A (I.ok.hd hc)).item i s _ _ hg st λ v h' tk hv st' kk=>?_;obtain⟨c,u,hc',rfl⟩:=hv;have I1:Inv X pins σ H {s with heap:=h',toks:=tk}:=I.turned (λ b o hb e=>kk b o (by simpa using hb) e) f0 f1 f3 f4 f5;obtain⟨o,e,cl,d⟩:=id st';exact⟨_,rfl,nH (s:={s with heap:=h',toks:=tk}) e cl d hT ⟨.str ⟨#[c]⟩,H,I1,⟨u,rfl⟩,⟨rfl,c,hc',rfl⟩,st',λ b hb=>(hf b hb).1⟩⟩
 done:=by intro X hP hw hK hc i pins s σ H E I hf st hg;subst hP hw hK;obtain⟨f0,f1,f2,f3,f4,f5⟩:=hf it (by simp);have hn:z.cps.size<=i:=hg;exact hend X.A i s _ E (I.ok.hd hc) st (by simp[hn]) λ h' eb=>⟨rfl,I.turned (t':=s.toks) (λ b o hb e=>eb b o hb e) f0 f1 f3 f4 f5⟩
 self:=hself
section
variable {pins:PN}{σ:St}{H:Hp}{s:Shared}{R:It->Hp->Prop}{E:VP}
theorem uB(I:Inv X pins σ H s)(q:R (Its z) H):wpAny (model X.prog X.w) X.A (pyIter (.str z t)) (PIE X pins σ tg R) E s:=by
 cases ha:z.cps.all (·<128)
 ·refine wpAny_pyIter_wide ha ?_;refine⟨s.heap.objs.size,[s.heap.objs.size],_,_,H,rfl,I.kept (t':=s.toks) λ b o e=>Heap.get?_push_of_some _ e,
   jK _ "str_iterator" z t (by decide) (λ A hA=>Walks.strWide hA _ z t) (λ A i s Q E st h=>wpAny_pyIter_striter_wide st h) (λ A i s Q E hh st hx hQ=>wpAny_pyNext_wide_end hh st hx hQ),⟨_,Heap.get?_push_size _ rfl,rfl,rfl⟩,λ b hb=>?_,q⟩
  have e:b=s.heap.objs.size:=by simpa using hb
  subst e;exact I.rX (Nat.le_refl _) (I.hok.fresh (Nat.le_refl _))
 ·refine wpAny_pyIter_ascii ha ?_;refine⟨s.heap.objs.size,[s.heap.objs.size],_,_,H,rfl,I.kept (t':=s.toks) λ b o e=>Heap.get?_push_of_some _ e,
   jK _ "str_ascii_iterator" z t (by decide) (λ A hA=>Walks.strAscii hA _ z t) (λ A i s Q E st h=>wpAny_pyIter_striter_ascii st h) (λ A i s Q E hh st hx hQ=>wpAny_pyNext_ascii_end hh st hx hQ),⟨_,Heap.get?_push_size _ rfl,rfl,rfl⟩,λ b hb=>?_,q⟩
  have e:b=s.heap.objs.size:=by simpa using hb
  subst e;exact I.rX (Nat.le_refl _) (I.hok.fresh (Nat.le_refl _))
theorem rQ(I:Inv X pins σ H s)(hq:SqL X.K H a xs)(q:R (Itl X.K a) H):wpAny (model X.prog X.w) X.A (pyIter (.ref a)) (PIE X pins σ tg R) E s:=by
 obtain⟨its,rv,p,hz⟩:=I.list hq;refine wpAny_pyIter_list p.isList ?_;refine⟨s.heap.objs.size,[s.heap.objs.size],_,_,H,rfl,I.kept (t':=s.toks) λ b o e=>Heap.get?_push_of_some _ e,mz a _,⟨_,Heap.get?_push_size _ rfl,rfl,rfl⟩,λ b hb=>?_,q⟩;have e:b=s.heap.objs.size:=by simpa using hb
 subst e;exact I.rX (Nat.le_refl _) (I.hok.fresh (Nat.le_refl _))
theorem ux(I:Inv X pins σ H s)(hq:SqT X.K H a xs)(q:R (Itt X.K a) H):wpAny (model X.prog X.w) X.A (pyIter (.ref a)) (PIE X pins σ tg R) E s:=by
 obtain⟨its,rv,p,hz⟩:=I.tuple hq;refine wpAny_pyIter_tuple (show s.heap.IsTuple a its.toArray from p) ?_;refine⟨s.heap.objs.size,[s.heap.objs.size],_,_,H,rfl,I.kept (t':=s.toks) λ b o e=>Heap.get?_push_of_some _ e,jW a _,⟨_,Heap.get?_push_size _ rfl,rfl,rfl⟩,λ b hb=>?_,q⟩;have e:b=s.heap.objs.size:=by simpa using hb
 subst e;exact I.rX (Nat.le_refl _) (I.hok.fresh (Nat.le_refl _))
end
def xI(K:FG)(tl:TE):TI:=λ σ H R=>tl σ H λ x H1=>(∃ a xs,x=.ref a/\SqL K H1 a xs/\R (Itl K a) H1)\/(∃ a xs,x=.ref a/\SqT K H1 a xs/\R (Itt K a) H1)\/∃ z,x=.str z/\R (Its z) H1
theorem vc(hl:PE X l tl):PI X tg l (xI X.K tl):=by
 intro pins s σ H R I h;refine thn (hl pins s σ H _ I h) λ v s1 hq38=>?_;obtain⟨x,H1,I1,r1,q1⟩:=hq38;rcases q1 with ⟨a,xs,e,hq,q⟩ | ⟨a,xs,e,hq,q⟩ | ⟨z,e,q⟩
 ·subst e;cases r1;exact rQ I1 hq q
 ·subst e;cases r1;exact ux I1 hq q
 ·subst e;obtain⟨t,rfl⟩:=r1;exact uB I1 q
def ItD(K:FG)(J:It)(H0:Hp)(ws:List W):Prop:=∀ H,Kp H0 H->∀ i:Nat,(i<ws.length->J.go i H)/\(ws.length<=i->J.stop i H) /\
 ∀ x H',i<ws.length->J.yld i H x H'->Kp H H'/\(∀ M,bV K H M->bV K H' M)/\∃ w,ws[i]? =some w/\aw K H' w x
abbrev TId:=DS->MH->(List W->MH->Prop)->Prop
def upI(K:FG)(t:TId):TI:=λ σ H R=>∃ τ M Rd,Abs K H σ τ M/\t τ M Rd/\∀ J H' ws M',Kp H H'->bV K H' M'->ItD K J H' ws->Rd ws M'->R J H'
abbrev PId(X:Cx)(tg iter:Expr)(t:TId):Prop:=PI X tg iter (upI X.K t)
theorem xo(h:PI X tg iter t)(k:∀ σ H R,t' σ H R->t σ H R):PI X tg iter t':=λ pins s σ H R I q=>h pins s σ H R I (k σ H R q)
def eh:W->Option (List W)
 | .d (.list ds)=>some (ds.map W.d)
 | .d (.tuple ds)=>some (ds.map W.d)
 | .d (.str z)=>some (z.cps.toList.map λ c=>W.d (.str ⟨#[c]⟩))
 | _=>none
def e9(te:TD)(τ:DS)(M:MH)(R:List W->MH->Prop):Prop:=te τ M λ w M1=>∃ ws,eh w=some ws/\R ws M1
theorem ql(hs:SqT K H a vs)(ra:aJ K H ds vs):ItD K (Itt K a) H (ds.map W.d):=λ H1 kp i=>by
 have hl:=ra.length;refine⟨λ hi=>?_,λ hi=>⟨vs,SqT.keep kp hs,by rw[List.length_map] at hi;omega⟩,λ x H' hi y=>?_⟩
 ·rw[List.length_map] at hi;exact⟨vs,vs[i]'(by omega),SqT.keep kp hs,by simp⟩
 ·obtain⟨e,y⟩:=y;subst e;have ev:=y vs (SqT.keep kp hs);obtain⟨d,e1,rd⟩:=(ra.keep kp).get' ev;exact⟨Kp.refl _,λ M m=>m,.d d,by simp[e1],rd⟩
theorem q8(z:Str):ItD K (Its z) H (z.cps.toList.map λ c=>W.d (.str ⟨#[c]⟩)):=λ H1 kp i=>by refine⟨λ hi=>(show i<z.cps.size by simpa using hi),λ hi=>(show z.cps.size<=i by simpa using hi),λ x H' hi y=>?_⟩;obtain⟨e,c,hc,ex⟩:=y;subst e;subst ex;exact⟨Kp.refl _,λ M m=>m,.d (.str ⟨#[c]⟩),by simp[hc],by simp[aw,au]⟩
theorem qW(lo:Int)(n:Nat):ItD K (Itr lo n) H ((List.range n).map λ i:Nat=>W.d (.int (lo+(i:Int)))):=λ H1 kp i=>by refine⟨λ hi=>(show i<n by simpa using hi),λ hi=>(show n<=i by simpa using hi),λ x H' hi y=>?_⟩;obtain⟨e,ex⟩:=y;subst e;subst ex;simp at hi;exact⟨Kp.refl _,λ M m=>m,.d (.int (lo+i)),by simp[hi],by simp[aw,au]⟩
theorem ll(h:PD X l te):PId X tg l (e9 te):=xo (vc h) λ σ H R hq39=>by
 obtain⟨τ,M,Rd,A,h,k⟩:=hq39;refine⟨τ,M,_,A,h,λ v H1 w M1 kp r m hq40=>?_⟩;obtain⟨ws,e,q⟩:=hq40;cases w with
 | t n=>simp[eh] at e
 | m a=>simp[eh] at e
 | d d =>
  cases d with
  | list ds =>
   simp only[eh] at e;cases e;simp only[aw,au] at r;obtain⟨a,vs,e1,hs,ra⟩:=r;refine .inl ⟨a,vs,e1,hs.sq,k _ H1 _ M1 kp m ?_ q⟩;intro H2 kp2 i;have hl:=ra.length;have hs2:=(hs.keep kp2).sq;refine⟨λ hi=>?_,λ hi=>⟨vs,hs2,by rw[List.length_map] at hi;omega⟩,λ x H' hi y=>?_⟩
   ·rw[List.length_map] at hi;exact⟨vs,vs[i]'(by omega),hs2,by simp⟩
   ·obtain⟨e,y⟩:=y;subst e;have ev:=y vs hs2;obtain⟨d,e1,rd⟩:=(ra.keep kp2).get' ev;exact⟨Kp.refl _,λ M m=>m,.d d,by simp[e1],rd⟩
  | tuple ds =>
   simp only[eh] at e;cases e;simp only[aw,au] at r;obtain⟨a,vs,e1,hs,ra⟩:=r;exact .inr (.inl ⟨a,vs,e1,hs,k _ H1 _ M1 kp m (ql hs ra) q⟩)
  | str z =>
   simp only[eh] at e;cases e;simp only[aw,au] at r;exact .inr (.inr ⟨z,r,k _ H1 _ M1 kp m (q8 z) q⟩)
  | _=>simp[eh] at e
def dv(lo:Int)(n:Nat):List W:=(List.range n).map λ i:Nat=>W.d (.int (lo+(i:Int)))
def iD(ta:TAd)(τ:DS)(M:MH)(R:List W->MH->Prop):Prop:=ta τ M λ ws M1=>∃ j:Int,ws=[.d (.int j)]/\-(2 ^ 62)<=j/\j<2 ^ 62/\R (dv 0 j.toNat) M1
theorem c5(r:aT K H [w] vs):∃ v,vs=[v]/\aw K H w v:=by
 cases r with
 | cons r1 r2=>cases r2;exact⟨_,rfl,r1⟩
theorem kQ(r:aT K H [w,w'] vs):∃ v v',vs=[v,v']/\aw K H w v/\aw K H w' v':=by
 cases r with
 | cons r1 r2 =>
  cases r2 with
  | cons r3 r4=>cases r4;exact⟨_,_,rfl,r1,r3⟩
theorem j9(hg:Gl X "range")(hm:X.mg "range" = none)(ha:PAd X [a] ta)(hs:starEach [a] X.env=[(false,eval a X.env)]:=by rfl):PId X tg (.Call (.Name "range" p) [a] [] pos) (iD ta):=
 xo (lI hg hm ha hs) λ σ H R ⟨τ,M,Rd,A,h,k⟩=>⟨τ,M,_,A,h,λ vs H1 ws M1 kp r m hq41=>by obtain⟨j,e,h1,h2,q⟩:=hq41;subst e;obtain⟨v,e1,r1⟩:=c5 r;simp only[aw,au] at r1;subst r1;exact⟨j,e1,h1,h2,k _ H1 _ M1 kp m (qW 0 j.toNat) q⟩⟩
def sL(di:TId)(g:TGd)(tb:TSd)(D:Ed)(τ:DS)(M:MH):Prop:=di τ M λ ws M1=>∃ P:Nat->DS->MH->Prop,P 0 τ M1 /\
 (∀ i w τ M,ws[i]? =some w->P i τ M->g w τ M λ τ2 M2=>tb {D with nx:=P (i+1),ct:=P (i+1),bk:=D.nx} τ2 M2)/\∀ τ M,P ws.length τ M->D.nx τ M
theorem rF(hp:PassesOwn (model X.prog X.w) X.A X.env X.xe)(hc:X.calm=true)(hi:PId X tg iter di)(hg:PGd X tg g)(hb:ja X body tb)
  (hs:∀ x,foldedSetIterable iter X.env x=pure x:=by intro _;rfl):PSd X (.For tg iter body [] pos) (sL di g tb):=kF (vb hp hc hi hg hb hs) λ D σ H hq42=>by
 obtain⟨τ,M,Dd,A,h,k1,k2,k3,k4⟩:=hq42;refine⟨τ,M,_,A,h,λ J H1 ws M1 kp m1 it hq43=>?_⟩;obtain⟨P,p0,pt,pe⟩:=hq43;refine⟨λ i n σ H'=>n=ws.length-i/\i<=ws.length/\Kp H1 H'/\∃ τ M,Abs X.K H' σ τ M/\P i τ M,⟨ws.length,by simp,Nat.zero_le _,Kp.refl _,τ,M1,A.go kp m1,p0⟩,?_⟩;rintro i n σ2 H2 ⟨rfl,hi,kp2,τ2,M2,A2,p2⟩;obtain⟨go,stop,yld⟩:=it H2 kp2 i
 by_cases hlt:i<ws.length
 ·refine .inr ⟨go hlt,λ σ3 H3=>Kp H2 H3/\∃ τ M,Abs X.K H3 σ3 τ M/\P (i+1) τ M,λ σ3 H3 ⟨kp3,τ3,M3,A3,p3⟩=>⟨ws.length-(i+1),by omega,rfl,hlt,kp2.trans kp3,τ3,M3,A3,p3⟩,λ x H3 y=>?_⟩;obtain⟨kp3,mk,w,ew,rw⟩:=yld x H3 hlt y;refine⟨w,τ2,M2,_,rw,A2.go kp3 (mk _ A2.mem),pt i w τ2 M2 ew p2,λ σ4 H4 τ4 M4 kp4 A4 q4=>?_⟩;have kq:=kp3.trans kp4;have kr:=(kp.trans kp2).trans kq;exact⟨τ4,M4,_,A4,q4,λ σ5 H5 τ5 M5 kp5 A5 q5=>⟨kq.trans kp5,τ5,M5,A5,q5⟩,λ v H5 w M5 kp5=>k2 v H5 w M5 (kr.trans kp5),λ σ5 H5 τ5 M5 kp5=>k1 σ5 H5 τ5 M5 (kr.trans kp5),λ σ5 H5 τ5 M5 kp5 A5 q5=>⟨kq.trans kp5,τ5,M5,A5,q5⟩⟩
 ·have hl:i=ws.length:=by omega
  subst hl;exact .inl ⟨stop (Nat.le_refl _),k1 σ2 H2 τ2 M2 (kp.trans kp2) A2 (pe τ2 M2 p2)⟩
def rO(k:Nat)(fr:List Nat)(τ:DS):DS:=List.replicate k none++fr.map λ j=>(τ[j]?).getD none
theorem uR(A:Abs K H σ τ M)(k:Nat)(fr:List Nat):Abs K H (lcS k fr σ) (rO k fr τ) M:=by
 refine⟨by simp[lcS,rO],λ i w e=>?_,A.mem⟩;unfold rO at e
 by_cases hi:i<k
 ·rw[List.getElem?_append_left (by simpa using hi),List.getElem?_replicate] at e
  split at e<;>cases e
 ·rw[List.getElem?_append_right (by simpa using hi),List.getElem?_map,List.length_replicate] at e;cases q:fr[i-k]? with
  | none=>rw[q] at e;cases e
  | some j =>
   rw[q] at e;have e':(τ[j]?).getD none=some w:=Option.some.inj e;have e2:τ[j]? =some (some w):=by
    cases z:τ[j]? with
    | none=>rw[z] at e';cases e'
    | some o=>rw[z] at e';exact congrArg some e'
   obtain⟨v,q1,r⟩:=A.val j w e2;refine⟨v,?_,r⟩;unfold lcS;rw[List.getElem?_append_right (by simpa using hi),List.getElem?_map,List.length_replicate,q];simp[q1]
def dLC(di:TId)(g:TGd)(tt:TTd)(te:TD)(k:Nat)(fr:List Nat)(τ:DS)(M:MH)(Q:QD):Prop:=di τ M λ ws M1=>∃ P:Nat->List PyData->DS->MH->Prop,P 0 [] (rO k fr τ) M1 /\
 (∀ i w acc τ M,ws[i]? =some w->P i acc τ M->acc.length<sizeLine/\g w τ M λ τ2 M2=>tt τ2 M2 λ b M3=>if b=true then te τ2 M3 λ y M4=>∃ d,y=.d d/\P (i+1) (acc++[d]) τ2 M4 else P (i+1) acc τ2 M3) /\
 ∀ acc τ M,P ws.length acc τ M->Q (.d (.list acc)) M
theorem pI(h:up K (dLC di g tt te k fr) σ H Q) :
  wZ (tLC (upI K di) (upG K g) (upT K tt) (up K te) k fr) σ H Q:=by
 obtain⟨τ,M,Qd,A,h,kk⟩:=h;refine⟨τ,M,_,A,h,λ J H1 ws M1 kp m1 it hq44=>?_⟩;obtain⟨P,p0,pt,pe⟩:=hq44;refine⟨λ i n ys σ' H'=>n=ws.length-i/\i<=ws.length/\Kp H1 H'/\∃ acc τ M,aJ K H' acc ys/\Abs K H' σ' τ M/\P i acc τ M,⟨ws.length,by simp,Nat.zero_le _,Kp.refl _,[],_,M1,by simp[aJ],uR (A.go kp m1) k fr,p0⟩,?_⟩;rintro i n ys σ2 H2 ⟨rfl,hi,kp2,acc,τ2,M2,ra,A2,p2⟩;obtain⟨go,stop,yld⟩:=it H2 kp2 i
 by_cases hlt:i<ws.length
 ·have hlen:=ra.length;refine .inr ⟨go hlt,?_,λ x H3 y=>?_⟩
  ·obtain⟨w,hw⟩:∃ w,ws[i]? =some w:=⟨ws[i],by simp[hlt]⟩;have:=(pt i w acc τ2 M2 hw p2).1;omega
  obtain⟨kp3,mk,w,ew,rw⟩:=yld x H3 hlt y;refine⟨w,τ2,M2,_,rw,A2.go kp3 (mk _ A2.mem),(pt i w acc τ2 M2 ew p2).2,λ σ4 H4 τ4 M4 kp4 A4 q4=>⟨τ4,M4,_,A4,q4,λ b H5 M5 kp5 m5 q5=>?_⟩⟩;have kq:=(kp3.trans kp4).trans kp5;cases b with
  | false =>
   rw[if_neg Bool.false_ne_true] at q5;show(if false=true then _ else _);rw[if_neg Bool.false_ne_true];exact⟨ws.length-(i+1),by omega,rfl,hlt,kp2.trans kq,acc,τ4,M5,ra.keep kq,A4.go kp5 m5,q5⟩
  | true =>
   rw[if_pos rfl] at q5;show(if true=true then _ else _);rw[if_pos rfl];refine⟨τ4,M5,_,A4.go kp5 m5,q5,λ v H6 wv M6 kp6 r6 m6 hq45=>?_⟩;obtain⟨d,e6,q6⟩:=hq45;subst e6;refine⟨ws.length-(i+1),by omega,rfl,hlt,kp2.trans (kq.trans kp6),acc++[d],τ4,M6,aJ.append (ra.keep (kq.trans kp6)) ?_,A4.go (kp5.trans kp6) m6,q6⟩;simp only[aJ];exact⟨v,[],rfl,r6,rfl⟩
 ·have hl:i=ws.length:=by omega
  subst hl;exact .inl ⟨stop (Nat.le_refl _),λ p hp=>fJ hp ra A2.mem (pe acc τ2 M2 p2) (kgo kk (kp.trans kp2))⟩
section
variable {sc:Scope}{own:List Str}{fr:List Nat}{elt iter:Expr}{ifs:List Expr}{pos:Pos}{di:TId}{g:TGd}{tt:TTd}{te:TD}
abbrev t8(X:Cx)(ifs:List Expr)(t:TTd):Prop:=PTs X ifs (upT X.K t)
def pF(_:DS)(M:MH)(Q:Bool->MH->Prop):Prop:=Q true M
theorem vt(hc:X.calm=true)(L:lz X sc own fr)(hi:PId X tg iter di)
  (hg:∀ cl C s H ex pl,PGd (blk X sc (lcN X own fr) cl C s H ex pl) tg g)(ht:∀ cl C s H ex pl,t8 (blk X sc (lcN X own fr) cl C s H ex pl) ifs tt)(he:∀ cl C s H ex pl,PD (blk X sc (lcN X own fr) cl C s H ex pl) elt te)
  (hs:∀ x,foldedSetIterable iter X.env x=pure x:=by intro _;rfl):PD X (.ListComp elt [⟨tg,iter,ifs,0⟩] sc pos) (dLC di g tt te own.length fr):=
 dg (jJ (wa hc L hi hg ht he hs)) λ σ H Q h=>pI h
theorem ub{st:Stmt}{t:TS}(h:PS X st t):PS X st (λ D σ H=>t {D with nx:=λ σ' H'=>∃ p u,H' p=some u/\Fz u/\∀ o,D.nx σ' (upd H' p (.frz o u))} σ H):=by
 intro pins s σ H D I hq;refine thn (h pins s σ H _ I hq) λ f s1 q=>?_;cases f with
 | next =>
  obtain⟨σ',H',I',p,u,e,fz,q⟩:=q;obtain⟨o,I2⟩:=I'.freeze e fz;exact⟨σ',_,I2,q o⟩
 | brk=>exact q
 | cont=>exact q
 | ret v=>exact q
theorem mq{i:Nat}{pos' spos:Pos}(hN:X.N.Nodup)(hi':X.N[i]? =some x)(hx:Loc X.env.scope x)(hc:X.calm=true)(L:lz X sc own fr)(hi:PId X tg iter di)
  (hg:∀ cl C s H ex pl,PGd (blk X sc (lcN X own fr) cl C s H ex pl) tg g)(ht:∀ cl C s H ex pl,t8 (blk X sc (lcN X own fr) cl C s H ex pl) ifs tt)(he:∀ cl C s H ex pl,PD (blk X sc (lcN X own fr) cl C s H ex pl) elt te)
  (hsw:swapsWith (.ListComp elt [⟨tg,iter,ifs,0⟩] sc pos) (some (.Name x pos')) spos.line X.env=pure true:=by rfl)
  (hs:∀ x,foldedSetIterable iter X.env x=pure x:=by intro _;rfl)(hf:X.fn x=true\/X.env.scope.names.lookup x=some .local:=by first | exact .inl rfl | exact .inr rfl | assumption) :
  PSd X (.Assign [.Name x pos'] (.ListComp elt [⟨tg,iter,ifs,0⟩] sc pos) spos) (bB (dLC di g tt te own.length fr) (gN i)):=kF (ub (nM hN hi' hx hc L hi hg ht he hsw hs hf)) λ D σ H hq46=>by
 obtain⟨τ,M,Dd,A,h,k1,_⟩:=hq46;have z:up X.K (dLC di g tt te own.length fr) σ H (λ v H'=>D.nx (σ.set i (some v)) H'):=⟨τ,M,_,A,h,λ v H1 w M1 kp r m q=>k1 _ H1 _ M1 kp ((A.go kp m).set i r) q⟩;obtain⟨τ',M',R',A',h',k'⟩:=pI z;refine⟨τ',M',R',A',h',λ J H1 ws M1 kp m1 it q=>?_⟩;obtain⟨W,w0,st⟩:=k' J H1 ws M1 kp m1 it q;refine⟨W,w0,λ i m ys τ H w=>?_⟩;rcases st i m ys τ H w with ⟨s1,s2⟩ | r
 ·refine .inl ⟨s1,λ p hp=>?_⟩;obtain⟨p',u,e1,e2,f,q⟩:=s2 p hp;cases e1;exact⟨p,u,e2,f,q⟩
 ·exact .inr r
end
end
section
variable {X:Cx}{K:FG}
def t9(ws:List W)(M:MH)(Q:QD):Prop:=∃ i:Int,ws=[.d (.int i)]/\Q (.d (.int (if i<0 then -i else i))) M
theorem tF:cX K (λ xs H Q=>∃ i,xs=[.int i]/\Q (.int (if i<0 then -i else i)) H) t9:=by intro vs H ws M Qd Q r m ⟨i,e,q⟩ k;subst e;obtain⟨v,e1,r1⟩:=c5 r;simp only[aw,au] at r1;subst r1;exact⟨i,e1,k _ H (.d (.int _)) M (Kp.refl H) (by simp[aw,au]) m q⟩
def nT(M:MH):W->Option Nat
 | .d (.list ds)=>some ds.length
 | .d (.tuple ds)=>some ds.length
 | .d (.str z)=>some z.length
 | .m a=>match M a with
  | some (.lst ws)=>some ws.length
  | _=>none
 | _=>none
def gj(ws:List W)(M:MH)(Q:QD):Prop:=∃ w n,ws=[w]/\nT M w=some n/\sf w=true/\Q (.d (.int (n:Nat))) M
theorem fA:cX K (λ xs H Q=>∃ x n,xs=[x]/\xb K x H n/\Q (.int n) H) gj:=by
 intro vs H ws M Qd Q r m ⟨w,n,e,hn,hf,q⟩ k;subst e;obtain⟨v,e1,r1⟩:=c5 r;refine⟨v,n,e1,?_,k _ H (.d (.int _)) M (Kp.refl H) (by simp[aw,au]) m q⟩;cases w with
 | t _=>simp[nT] at hn
 | m a =>
  simp only[aw] at r1;subst r1;simp only[nT] at hn;cases hm:M a with
  | none=>rw[hm] at hn;cases hn
  | some mo =>
   rw[hm] at hn;cases mo with
   | lst l=>cases hn;obtain⟨us,e2,rw1⟩:=m a _ hm;exact .inl ⟨us,SqL.of e2,rw1.length⟩
   | dic _=>cases hn
   | dct _=>cases hn
   | fdic _=>cases hn
   | ins _ _=>cases hn
   | tup _=>cases hn
   | flst _=>cases hn
   | exc _ _=>cases hn
   | code _ _=>cases hn
 | d d =>
  cases d with
  | list ds=>simp only[nT] at hn;cases hn;simp only[aw,au] at r1;obtain⟨a,us,e2,hs,ra⟩:=r1;subst e2;exact .inl ⟨us,hs.sq,ra.length.symm⟩
  | tuple ds=>simp only[nT] at hn;cases hn;simp only[aw,au] at r1;obtain⟨a,us,e2,hs,ra⟩:=r1;subst e2;exact .inr ⟨us,hs,ra.length.symm⟩
  | str z=>simp only[nT] at hn;cases hn;simp only[aw,au] at r1;subst r1;exact⟨of_decide_eq_true hf,rfl⟩
  | _=>simp[nT] at hn
theorem jd:∀ {ys:List Str} {vs:List V} {us:List Value},aJ K H (ys.map PyData.str) vs->Vals vs us->StrsAre us ys
 | [],vs,us,h,r=>by simp only[List.map_nil,aJ] at h;subst h;cases r;exact .nil
 | y::ys,vs,us,h,r=>by
  simp only[List.map_cons,aJ] at h;obtain⟨v,vr,e,h1,h2⟩:=h;subst e;simp only[au] at h1;subst h1;cases r with
  | cons r1 r2 =>
   obtain⟨t,e⟩:=(show ∃ t,_=Value.str y t from r1);subst e;exact .cons _ _ (jd h2 r2)
def MtD(K:FG)(r:V->List V->Hp->VK->Prop)(rd:W->List W->MH->QD->Prop):Prop:=∀ x vs H w ws M Qd Q,aw K H w x->aT K H ws vs->bV K H M->rd w ws M Qd->Kont K H Qd Q->r x vs H Q
def dMS(rd:W->List W->MH->QD->Prop)(to:TD)(t:TAd)(τ:DS)(M:MH)(Q:QD):Prop:=to τ M λ w M1=>(∃ z,w=.d (.str z))/\t τ M1 λ ws M2=>rd w ws M2 Q
theorem vF{o e:Expr}{to:TD}{t:TAd}{name:Str}{apos cpos:Pos}{id:String}{r:V->List V->Hp->VK->Prop}{rd:W->List W->MH->QD->Prop}(slot:Slot "str" name id)(hty:typeOf (.builtin id)=pure (.type "method_descriptor"))(hm:MtR X id r)(hd:MtD X.K r rd)(ho:PD X o to)(ha:PAd X (e::es) t)
  (hbase:attributeBase o name X.env (eval o X.env)=eval o X.env:=by rfl)
  (hfew:((backTo cpos (starEach (e::es) X.env)).all (λ x=>!x.1)&&(backToKw cpos (keywordEach [] X.env)).all (λ x=>x.1.isSome)
   && decide ((e::es).length+([]:List Keyword).length+(if ([]:List Keyword).isEmpty then 0 else 1)<30))=true:=by rfl)
  (hline:(apos.endLine==cpos.line)=true:=by rfl)(hs:starEach (e::es) X.env=(false,eval e X.env)::starEach es X.env:=by rfl)(hplain:(backTo cpos (starEach es X.env)).any (·.1)=false:=by rfl) :
  PD X (.Call (.Attribute o name apos) (e::es) [] cpos) (dMS rd to t):=dg (uz PySem.F.plainAttrs_str slot hty hm ho ha hbase hfew hline hs hplain) λ σ H Q hq47=>by
 obtain⟨τ,M,Qd,A,h,k⟩:=hq47;refine⟨τ,M,_,A,h,λ x H1 w M1 kp1 r1 m1 hq48=>?_⟩;obtain⟨⟨z,ez⟩,q1⟩:=hq48;subst ez;have r1':=r1;simp only[aw,au] at r1';subst r1';exact⟨rfl,τ,M1,_,A.go kp1 m1,q1,λ vs H2 ws M2 kp2 r2 m2 q2=>hd _ vs H2 _ ws M2 Qd Q (r1.keep kp2) r2 m2 q2 (kgo k (kp1.trans kp2))⟩
def rJoin(K:FG):V->List V->Hp->VK->Prop:=λ x vs H Q=>∃ (sep:Str) (v:V) (ys:List Str),x=.str sep/\vs=[v]/\au K H (.list (ys.map PyData.str)) v/\(ys.map (·.length)).sum+ys.length * sep.length<=16777216/\Q (.str (Txt.join sep ys)) H
theorem qE:MtR X "str.join" (rJoin X.K):=by intro pins s σ H x vs v us Q I rx rv h;obtain⟨sep,y,ys,rfl,rfl,rd,hz,q⟩:=h;obtain⟨t,rfl⟩:=rx;obtain⟨u,rfl,ru⟩:=vals1 rv;simp only[au] at rd;obtain⟨a,xs,e,hs,ra⟩:=rd;subst e;cases (show u=Value.ref a from ru);obtain⟨its,r,pl,hz'⟩:=I.list hs.sq;exact join_list pl.isList (by simpa using jd ra r) hz λ t' k=>⟨.str _,H,I.tok _,⟨_,rfl⟩,q⟩
def fk(w:W)(ws:List W)(M:MH)(Q:QD):Prop:=∃ (sep:Str) (ys:List Str),w=.d (.str sep)/\ws=[.d (.list (ys.map PyData.str))]/\(ys.map (·.length)).sum+ys.length * sep.length<=16777216/\Q (.d (.str (Txt.join sep ys))) M
theorem qT:MtD K (rJoin K) fk:=by intro x vs H w ws M Qd Q r1 r2 m ⟨sep,ys,e1,e2,hz,q⟩ k;subst e1;subst e2;obtain⟨v,e3,r3⟩:=c5 r2;simp only[aw,au] at r1;exact⟨sep,v,ys,r1,e3,r3,hz,k _ H (.d (.str _)) M (Kp.refl H) (by simp[aw,au]) m q⟩
theorem rZ(ho:PD X o to)(ha:PD X e te)
  (hbase:attributeBase o "join" X.env (eval o X.env)=eval o X.env:=by rfl)(hs:starEach [e] X.env=[(false,eval e X.env)]:=by rfl)
  (hfew:((backTo cpos (starEach [e] X.env)).all (λ x=>!x.1)&&(backToKw cpos (keywordEach [] X.env)).all (λ x=>x.1.isSome)
   && decide (([e]:List Expr).length+([]:List Keyword).length+(if ([]:List Keyword).isEmpty then 0 else 1)<30))=true:=by rfl)
  (hline:(apos.endLine==cpos.line)=true:=by rfl) :
  PD X (.Call (.Attribute o "join" apos) [e] [] cpos) (dMS fk to (ae te aH)):=vF PySem.F.slot_str_join PySem.F.type_str_join qE qT ho (jG ha iG hs) hbase hfew hline hs
theorem lP(r:au K H (kE key) v):v=kV key:=by
 cases key<;>(simp only[kE,au] at r;exact r)
end
structure Fn(K:FG)(mg:Str->Option Value)(x:Str)(st:Stmt)(ps:List Str)(f:Addr)(fd:FuncData):Prop where
 fn:Fun K x x st f fd
 mg:mg x=some (.ref f)
 bd:Binds K fd ps []
section
variable {K:FG}{mg:Str->Option Value}{h:Heap}
theorem u4{st:Stmt}{ps:List Str}{oc:Value}{od an:Option Addr}{osl:Array (Option Value)}{kV doc pm cdv ct:Value}(X:K.In h)(G:h.Ns mainGlobals mg)(a:W.nsIn K mainGlobals x=some (some (.ref f)))
  (l:K.lookup f=some ⟨oc,od,.func (W.fnOf x x (aL st) (aG st) (ao st) .none kV doc pm an cdv ct),osl⟩)(c:W.codeIn K cdv x=true)(k:W.keepIn K (.ref f)=true)
  (b:∀ (kV doc pm:Value) (an:Option Addr) (cdv ct:Value) (us:List Value),us.length=ps.length->bindArgs (W.fnOf x x (aL st) (aG st) (ao st) .none kV doc pm an cdv ct) ⟨us,[]⟩=pure (ps.zip us)) :
  Fn K mg x st ps f (W.fnOf x x (aL st) (aG st) (ao st) .none kV doc pm an cdv ct):=
 have F:=lg (st:=st) l c k
 ⟨F,W.mg_of X G a,F.binds b⟩
end
def tZ(sc scX:Scope)(N:List Str)(fr:List Nat):Bool:=
 (sc.kind==.function)&&sc.names.all (λ y=>!(y.2==.cell))&&sc.names.all (λ y=>!(y.2==.free) || scX.names.lookup y.1==some .cell || scX.names.lookup y.1==some .free) &&
  sc.names.all (λ y=>!(y.2==.local) || sc.names.lookup y.1==some .local)&&vB N sc fr
theorem uH(h:tZ sc X.env.scope X.N fr=true):lz X sc own fr:=by
 simp only[tZ,Bool.and_eq_true] at h;obtain⟨⟨⟨⟨h1,h2⟩,h3⟩,h4⟩,h5⟩:=h;refine⟨eq_of_beq h1,λ y hy e=>?_,λ y hy e=>?_,λ y hy e=>?_,h5⟩
 ·have:=List.all_eq_true.mp h2 y hy;simp[e] at this
 ·have:=List.all_eq_true.mp h3 y hy;simp only[e,beq_self_eq_true,Bool.not_true,Bool.false_or,Bool.or_eq_true] at this;rcases this with z | z
  ·exact .inl (eq_of_beq z)
  ·exact .inr (eq_of_beq z)
 ·have:=List.all_eq_true.mp h4 y hy;simp only[e,beq_self_eq_true,Bool.not_true,Bool.false_or] at this;exact eq_of_beq this
theorem jc:bootBuiltins "int" = some (.type "int"):=by decide +kernel
theorem qj:bootBuiltins "list" = some (.type "list"):=by decide +kernel
theorem fo:bootBuiltins "len" = some (.builtin "len"):=by decide +kernel
theorem uP:bootBuiltins "abs" = some (.builtin "abs"):=by decide +kernel
def dX:Expr->Bool
 | .Starred ..=>true
 | _=>false
theorem cj(e:Expr)(es:List Expr)(env:PySem.Env)(h:dX e=false):starEach (e::es) env=(false,eval e env)::starEach es env:=by
 cases e<;>first | rfl | (exact absurd h (by simp[dX]))
theorem cV(pos:Pos)(env:PySem.Env):∀ es:List Expr,(es.all λ e=>!dX e)=true->(backTo pos (starEach es env)).any (·.1)=false
 | [],_=>rfl
 | e::es,h=>by rw[List.all_cons,Bool.and_eq_true,Bool.not_eq_true'] at h;rw[cj e es env h.1];show(false || (backTo pos (starEach es env)).any (·.1))=false;rw[cV pos env es h.2];rfl
section
variable {X:Cx}{pos p:Pos}{e:Expr}{es:List Expr}{te:TD}{t:TAd}{x:Str}{id T:String}{r:List V->Hp->VK->Prop}{rd:List W->MH->QD->Prop}{k:Nat}{f:Addr}{fd:FuncData}{ps:List Str}{sp:SpD}
theorem pac(ha:PD X e te)(hr:PAd X es t)(h:dX e=false:=by rfl):PAd X (e::es) (ae te t):=jG ha hr (cj e es X.env h)
theorem pcB(hc:cJ X (.builtin id) r)(hd:cX X.K r rd)(hg:Gl X x)(hm:X.mg x=none)(hv:bootBuiltins x=some (.builtin id))(ha:PAd X (e::es) t)(hn:x ≠ "__name__":= by decide)(hdb:ND x:=by decide)
  (h1:dX e=false:=by rfl)(h2:(es.all λ e=>!dX e)=true:=by rfl):PD X (.Call (.Name x p) (e::es) [] pos) (dCB rd t):=oU hc hd hg hm hv ha hn hdb (cj e es X.env h1) (cV pos X.env es h2)
theorem pcF(F:cL X.prog X.w X.K X.mg X.base CX0 k f fd ps (dY X.K sp))(hr:b9 k X.A)(hg:Gl X x)(hm:X.mg x=some (.ref f))(hk:W.keepIn X.K (.ref f)=true)(hb:Binds X.K fd ps [])
  (ha:PAd X (e::es) t)(hdb:ND x:=by decide)(h1:dX e=false:=by rfl)(h2:(es.all λ e=>!dX e)=true:=by rfl) :
  PD X (.Call (.Name x p) (e::es) [] pos) (bj sp t):=sF F hr hg hm hk hb ha hdb (cj e es X.env h1) (cV pos X.env es h2)
end
structure Jd(p:Prop):Prop where
 h:p
section
variable {X:Cx}{pos:Pos}{a b c e:Expr}{ta tb tc te:TD}{K:FG}
theorem dvQ(i:Nat)(hN:X.N[i]? =some x:=by rfl)(hv:Vis X.env.scope x:=by first | exact Or.inl rfl | exact Or.inr (Or.inl rfl) | exact Or.inr (Or.inr rfl))(hd:ND x:=by decide)(hcd:(x==("__classdict__" : Str))=false:=by decide):Jd (PD X (.Name x pos) (ag i)):=⟨sR (ue hN hv hd hcd)⟩
theorem aa{i j pos}:Jd (PD X (.Constant (.int i) j pos) (dC (.d (.int i)))):=⟨vG tm λ H=>by simp[aw,au]⟩
theorem eI{b j pos}:Jd (PD X (.Constant (.bool b) j pos) (dC (.d (.bool b)))):=⟨vG vz λ H=>by simp[aw,au]⟩
theorem aZ{x j pos}:Jd (PD X (.Constant (.str x) j pos) (dC (.d (.str x)))):=⟨vG uI λ H=>by simp[aw,au]⟩
theorem aE(ho:OpR X (binaryOp op) r)(hd:OpD X.K r rd)(ha:Jd (PD X a ta))(hb:Jd (PD X b tb)):Jd (PD X (.BinOp a op b pos) (dOp rd ta tb)):=⟨D.wH (ho:=ho) (hd:=hd) (ha:=ha.h) (hb:=hb.h)⟩
theorem d5(ho:OpR X (compareOp op) r)(hd:OpD X.K r rd)(ha:Jd (PD X a ta))(hb:Jd (PD X b tb))(hm:behindInMarks op b=false:=by first | exact cY _ (by decide) (by decide) | rfl):Jd (PD X (.Compare a [op] [b] pos) (dOp rd ta tb)):=⟨D.uJ (ho:=ho) (hd:=hd) (ha:=ha.h) (hb:=hb.h) (hm:=hm)⟩
theorem aQ(hr:IxR X r)(hd:OpD X.K r rd)(ha:Jd (PD X a ta))(hb:Jd (PD X b tb))(hs:iI b:=by intro _ _;rfl):Jd (PD X (.Subscript a b pos) (dOp rd ta tb)):=⟨D.wD (hr:=hr) (hd:=hd) (ha:=ha.h) (hb:=hb.h) (hs:=hs)⟩
theorem aM(ho:OpR X (compareOp op) r)(hd:OpD X.K r rd)(ha:Jd (PD X a ta))(hb:Jd (PD X b tb))(hm:behindInMarks op b=false:=by first | exact cY _ (by decide) (by decide) | rfl):Jd (PTd X (.Compare a [op] [b] pos) (aY (dOp rd ta tb))):=⟨D.sm (ho:=ho) (hd:=hd) (ha:=ha.h) (hb:=hb.h) (hm:=hm)⟩
theorem jD(h:Jd (PD X e te))(he:∀ whole,isTrue e X.env whole=(do let v <- whole;standAt e.pos;holding [v] (truthy v)):=by intro _;rfl):Jd (PTd X e (aY te)):=⟨D.rM (h:=h.h) (he:=he)⟩
theorem pf(ho:UnR X (unaryOp op) r)(hd:UnD X.K r rd)(ha:Jd (PD X a ta)):Jd (PD X (.UnaryOp op a pos) (dUn rd ta)):=⟨D.wA (ho:=ho) (hd:=hd) (ha:=ha.h)⟩
variable {tA tB:TTd}{rest:List Expr}
theorem lW(ha:Jd (PTd X a tA)):Jd (PWd X (.BoolOp .And [a] pos) tA):=⟨D.oA (ha:=ha.h)⟩
theorem jj(ha:Jd (PTd X a tA)):Jd (PWd X (.BoolOp .Or [a] pos) tA):=⟨D.sC (ha:=ha.h)⟩
theorem nI(ha:Jd (PTd X a tA))(hb:Jd (PWd X (.BoolOp .And (b::rest) pos) tB)):Jd (PWd X (.BoolOp .And (a::b::rest) pos) (vf tA tB)):=⟨D.qK (ha:=ha.h) (hb:=hb.h)⟩
theorem kI(ha:Jd (PTd X a tA))(hb:Jd (PWd X (.BoolOp .Or (b::rest) pos) tB)):Jd (PWd X (.BoolOp .Or (a::b::rest) pos) (dOr tA tB)):=⟨D.uV (ha:=ha.h) (hb:=hb.h)⟩
theorem lA(h:Jd (PWd X e tA)):Jd (PTd X e tA):=⟨D.wL (h:=h.h)⟩
theorem nN(ha:Jd (PTd X a tA)):Jd (PTd X (.UnaryOp .Not a pos) (uM tA)):=⟨D.sg (ha:=ha.h)⟩
variable {es:List Expr}{t:TAd}
theorem af  : Jd (PAd X [] aH):=⟨D.iG ⟩
theorem bH(h:Jd (PAd X es t)):Jd (PD X (.List es pos) (gv t)):=⟨D.um (h:=h.h)⟩
theorem fQ(h:Jd (PAd X es t)):Jd (PD X (.List es pos) (kP t)):=⟨D.rT (h:=h.h)⟩
theorem ef{x1}(h:Jd (PAd X es t)):Jd (PD X (.Tuple es x1 pos) (nj t)):=⟨D.uE (h:=h.h)⟩
variable {x:Str}{p:Pos}{id T:String}{r:List V->Hp->VK->Prop}{rd:List W->MH->QD->Prop}
end
section
variable {X:Cx}{pos:Pos}{st:Stmt}{sts:List Stmt}{t u:TSd}{e:Expr}{te:TD}{K:FG}
theorem aB  : Jd (ja X [] bu):=⟨uL qh λ D σ H ⟨τ,M,Dd,A,h,k1,_⟩=>k1 σ H τ M (Kp.refl H) A h⟩
theorem ab(h1:Jd (PSd X st t))(h2:Jd (ja X sts u)):Jd (ja X (st::sts) (aV t u)):=⟨D.mL (h1:=h1.h) (h2:=h2.h)⟩
theorem ak(h1:Jd (PSd X st t)):Jd (ja X [st] t):=⟨D.nG (h1:=h1.h)⟩
theorem eT(he:Jd (PD X e te))(hs:swapsWith e none pos.line X.env=pure false:=by rfl):Jd (PSd X (.Expr e pos) (fK te)):=⟨D.oq (he:=he.h) (hs:=hs)⟩
theorem aF(he:Jd (PD X e te)):Jd (PSd X (.Return (some e) pos) (cA te)):=⟨D.qG (he:=he.h)⟩
theorem a6(hc:Jd (PTd X c tc))(ha:Jd (ja X a t))(hb:Jd (ja X b u)):Jd (PSd X (.If c a b pos) (dIf tc t u)):=⟨D.u5 (hc:=hc.h) (ha:=ha.h) (hb:=hb.h)⟩
theorem aC(hN:X.N.Nodup)(hi:X.N[i]? =some x)(hx:Loc X.env.scope x)(hf:X.fn x=true\/X.env.scope.names.lookup x=some .local:=by first | exact .inl rfl | exact .inr rfl | assumption):Jd (PGd X (.Name x pos) (gN i)):=⟨
 wg (lj hN hi hx hf) λ v σ H Q ⟨w,τ,M,Qd,r,A,h,k⟩=>k _ H _ M (Kp.refl H) (A.set i r) h⟩
theorem dW(he:Jd (PD X e te))(hg:Jd (PGd X tg g))(hs:swapsWithSole [tg] e pos.line X.env=pure false:=by rfl)(hw:swappedStores [tg] e X.env=pure none:=by rfl)(h1:(assignEach [tg] X.env).map (·.2)=[assign tg X.env]:=by rfl):Jd (PSd X (.Assign [tg] e pos) (bB te g)):=⟨D.rN (he:=he.h) (hg:=hg.h) (hs:=hs) (hw:=hw) (h1:=h1)⟩
theorem ar(hN:X.N.Nodup)(hi:X.N[i]? =some x)(hx:Loc X.env.scope x)(he:Jd (PD X e te))(hs:swapsWith e (some (.Name x pos')) pos.line X.env=pure false:=by rfl)(hf:X.fn x=true\/X.env.scope.names.lookup x=some .local:=by first | exact .inl rfl | exact .inr rfl | assumption):Jd (PSd X (.Assign [.Name x pos'] e pos) (bB te (gN i))):=⟨D.rm (hN:=hN) (hi:=hi) (hx:=hx) (he:=he.h) (hs:=hs) (hf:=hf)⟩
end
theorem cU  : Jd (POd X none c6):=⟨xh qe λ σ H Q ⟨τ,M,Qd,A,q,k⟩=>k none H M (Kp.refl H) A.mem q⟩
theorem bP(h:Jd (PD X e te)):Jd (POd X (some e) (gk te)):=⟨D.o3 (h:=h.h)⟩
theorem cm{te:TD}{lo hi:Option Expr}{tl th:TOd}{pos p2:Pos}(he:Jd (PD X e te))(hl:Jd (POd X lo tl))(hu:Jd (POd X hi th)):Jd (PD X (.Subscript e (.Slice lo hi none p2) pos) (dSl te tl th)):=⟨D.oB (he:=he.h) (hl:=hl.h) (hu:=hu.h)⟩
theorem gh(ho:Jd (PD X o to))(hi:Jd (PD X i ti))(ha:∀ v,assign (.Subscript o i pos) X.env v=(do
   let ov <- holding [v] (eval o X.env)
   let iv <- holding [v,ov] (eval i X.env)
   standAt pos
   holding [v,ov,iv] (setItem ov iv v)
   release [v,ov,iv] []):=by intro _;rfl):Jd (PGd X (.Subscript o i pos) (nu to ti)):=⟨D.rV (ho:=ho.h) (hi:=hi.h) (ha:=ha)⟩
theorem mP(ho:Jd (PD X o to))(hi:Jd (PD X i ti))(he:Jd (PD X e te))(hp:PIp X op (ipI f))(ha:∀ ov iv new,augStore i ov iv new=(do holding [new,ov,iv] (setItem ov iv new);release [new,ov,iv] [];pure .next):=by intros;rfl):Jd (PSd X (.AugAssign (.Subscript o i tpos) op e pos) (o8 to ti te f)):=⟨D.nF (ho:=ho.h) (hi:=hi.h) (he:=he.h) (hp:=hp) (ha:=ha)⟩
theorem bQ(h:Jd (PD X l te)):Jd (PId X tg l (e9 te)):=⟨D.ll (h:=h.h)⟩
theorem bS(hg:Gl X "range")(hm:X.mg "range" = none)(ha:Jd (PAd X [a] ta))(hs:starEach [a] X.env=[(false,eval a X.env)]:=by rfl):Jd (PId X tg (.Call (.Name "range" p) [a] [] pos) (iD ta)):=⟨D.j9 (hg:=hg) (hm:=hm) (ha:=ha.h) (hs:=hs)⟩
theorem dU(hp:PassesOwn (model X.prog X.w) X.A X.env X.xe)(hc:X.calm=true)(hi:Jd (PId X tg iter di))(hg:Jd (PGd X tg g))(hb:Jd (ja X body tb))(hs:∀ x,foldedSetIterable iter X.env x=pure x:=by intro _;rfl):Jd (PSd X (.For tg iter body [] pos) (sL di g tb)):=⟨D.rF (hp:=hp) (hc:=hc) (hi:=hi.h) (hg:=hg.h) (hb:=hb.h) (hs:=hs)⟩
theorem ck  : Jd (t8 X [] pF):=⟨λ pins s σ H Q I ⟨τ,M,Qd,A,q,k⟩=>sv pins s σ H Q I (k true H M (Kp.refl H) A.mem q)⟩
theorem jl(hc:X.calm=true)(L:lz X sc own fr)(hi:Jd (PId X tg iter di))(hg:∀ cl C s H ex pl,Jd (PGd (blk X sc (lcN X own fr) cl C s H ex pl) tg g))(ht:∀ cl C s H ex pl,Jd (t8 (blk X sc (lcN X own fr) cl C s H ex pl) ifs tt))(he:∀ cl C s H ex pl,Jd (PD (blk X sc (lcN X own fr) cl C s H ex pl) elt te))(hs:∀ x,foldedSetIterable iter X.env x=pure x:=by intro _;rfl):Jd (PD X (.ListComp elt [⟨tg,iter,ifs,0⟩] sc pos) (dLC di g tt te own.length fr)):=⟨D.vt (hc:=hc) (L:=L) (hi:=hi.h) (hg:=λ cl C s H ex pl=>(hg cl C s H ex pl).h) (ht:=λ cl C s H ex pl=>(ht cl C s H ex pl).h) (he:=λ cl C s H ex pl=>(he cl C s H ex pl).h) (hs:=hs)⟩
theorem jU(hN:X.N.Nodup)(hi':X.N[i]? =some x)(hx:Loc X.env.scope x)(hc:X.calm=true)(L:lz X sc own fr)(hi:Jd (PId X tg iter di))(hg:∀ cl C s H ex pl,Jd (PGd (blk X sc (lcN X own fr) cl C s H ex pl) tg g))(ht:∀ cl C s H ex pl,Jd (t8 (blk X sc (lcN X own fr) cl C s H ex pl) ifs tt))(he:∀ cl C s H ex pl,Jd (PD (blk X sc (lcN X own fr) cl C s H ex pl) elt te))(hsw:swapsWith (.ListComp elt [⟨tg,iter,ifs,0⟩] sc pos) (some (.Name x pos')) spos.line X.env=pure true:=by rfl)(hs:∀ x,foldedSetIterable iter X.env x=pure x:=by intro _;rfl)(hf:X.fn x=true\/X.env.scope.names.lookup x=some .local:=by first | exact .inl rfl | exact .inr rfl | assumption):Jd (PSd X (.Assign [.Name x pos'] (.ListComp elt [⟨tg,iter,ifs,0⟩] sc pos) spos) (bB (dLC di g tt te own.length fr) (gN i))):=⟨D.mq (hN:=hN) (hi':=hi') (hx:=hx) (hc:=hc) (L:=L) (hi:=hi.h) (hg:=λ cl C s H ex pl=>(hg cl C s H ex pl).h) (ht:=λ cl C s H ex pl=>(ht cl C s H ex pl).h) (he:=λ cl C s H ex pl=>(he cl C s H ex pl).h) (hsw:=hsw) (hs:=hs) (hf:=hf)⟩
theorem jz(ho:Jd (PD X o to))(ha:Jd (PD X e te))(hbase:attributeBase o "join" X.env (eval o X.env)=eval o X.env:=by rfl)(hs:starEach [e] X.env=[(false,eval e X.env)]:=by rfl)(hfew:((backTo cpos (starEach [e] X.env)).all (λ x=>!x.1)&&(backToKw cpos (keywordEach [] X.env)).all (λ x=>x.1.isSome)
   && decide (([e]:List Expr).length+([]:List Keyword).length+(if ([]:List Keyword).isEmpty then 0 else 1)<30))=true:=by rfl)(hline:(apos.endLine==cpos.line)=true:=by rfl):Jd (PD X (.Call (.Attribute o "join" apos) [e] [] cpos) (dMS fk to (ae te aH))):=⟨D.rZ (ho:=ho.h) (ha:=ha.h) (hbase:=hbase) (hs:=hs) (hfew:=hfew) (hline:=hline)⟩
section
variable {X:Cx}{pos p:Pos}{e:Expr}{es:List Expr}{te:TD}{t:TAd}{x:Str}{id T:String}{r:List V->Hp->VK->Prop}{rd:List W->MH->QD->Prop}{k:Nat}{f:Addr}{fd:FuncData}{ps:List Str}{sp:SpD}
theorem av(ha:Jd (PD X e te))(hr:Jd (PAd X es t))(h:dX e=false:=by rfl):Jd (PAd X (e::es) (ae te t)):=⟨D.pac (ha:=ha.h) (hr:=hr.h) (h:=h)⟩
theorem nq(hc:cJ X (.builtin id) r)(hd:cX X.K r rd)(hg:Gl X x)(hm:X.mg x=none)(hv:bootBuiltins x=some (.builtin id))(ha:Jd (PAd X (e::es) t))(hn:x ≠ "__name__":= by decide)(hdb:ND x:=by decide)(h1:dX e=false:=by rfl)(h2:(es.all λ e=>!dX e)=true:=by rfl):Jd (PD X (.Call (.Name x p) (e::es) [] pos) (dCB rd t)):=⟨D.pcB (hc:=hc) (hd:=hd) (hg:=hg) (hm:=hm) (hv:=hv) (ha:=ha.h) (hn:=hn) (hdb:=hdb) (h1:=h1) (h2:=h2)⟩
theorem dF(F:cL X.prog X.w X.K X.mg X.base CX0 k f fd ps (dY X.K sp))(hr:b9 k X.A)(hg:Gl X x)(hm:X.mg x=some (.ref f))(hk:W.keepIn X.K (.ref f)=true)(hb:Binds X.K fd ps [])(ha:Jd (PAd X (e::es) t))(hdb:ND x:=by decide)(h1:dX e=false:=by rfl)(h2:(es.all λ e=>!dX e)=true:=by rfl):Jd (PD X (.Call (.Name x p) (e::es) [] pos) (bj sp t)):=⟨D.pcF (F:=F) (hr:=hr) (hg:=hg) (hm:=hm) (hk:=hk) (hb:=hb) (ha:=ha.h) (hdb:=hdb) (h1:=h1) (h2:=h2)⟩
end
section
variable {κ α:Type}[DecidableEq κ]
def bF(t:List (κ×α))(k:κ):Option α:=(t.find? λ p=>decide (p.1=k)).map (·.2)
def eS(t:List (κ×α))(k:κ)(v:α):List (κ×α):=if (t.any λ p=>decide (p.1=k))=true then t.map (λ p=>if p.1=k then (p.1,v) else p) else t++[(k,v)]
def OR(R:β->γ->Prop):Option β->Option γ->Prop
 | some a,some b=>R a b
 | none,none=>True
 | _,_=>False
theorem OR.some_of(h:OR R (some a) o):∃ b,o=some b/\R a b:=by
 cases o with
 | none=>exact h.elim
 | some b=>exact⟨b,rfl,h⟩
theorem OR.none_of(h:OR R none o):o=none:=by
 cases o with
 | none=>rfl
 | some b=>exact h.elim
theorem OR.isSome:∀ {a:Option β} {o:Option γ},OR R a o->a.isSome=o.isSome
 | some _,some _,_=>rfl
 | none,none,_=>rfl
 | some _,none,h=>h.elim
 | none,some _,h=>h.elim
theorem fC(k:κ):∀ {t:List (κ×α)} {l:List (κ×V)},Paired (λ p q=>p.1=q.1/\R p.2 q.2) t l->OR R (bF t k) (iA l k)
 | _,_,.nil=>True.intro
 | _,_,.cons (a:=p) (b:=q) (l₁:=t1) h t=>by
  obtain⟨h1,h2⟩:=h
  by_cases e:p.1=k
  ·rw[dO (h1.symm.trans e),show bF (p::t1) k=some p.2 by simp[bF,List.find?_cons,e]];exact h2
  ·rw[dQ (λ z=>e (h1.trans z)),show bF (p::t1) k=bF t1 k by simp[bF,List.find?_cons,e]];exact fC k t
theorem pw{R:α->V->Prop}(k:κ):∀ {t:List (κ×α)} {l:List (κ×V)},Paired (λ p q=>p.1=q.1/\R p.2 q.2) t l->(t.any λ p=>decide (p.1=k))=(l.any λ p=>decide (p.1=k))
 | _,_,.nil=>rfl
 | _,_,.cons (a:=p) (b:=q) h t=>by simp only[List.any_cons];rw[pw k t,h.1]
theorem qc{R:α->V->Prop}(k:κ){v:V}(r:R a v):∀ {t:List (κ×α)} {l:List (κ×V)},Paired (λ p q=>p.1=q.1/\R p.2 q.2) t l ->
  Paired (λ p q=>p.1=q.1/\R p.2 q.2) (t.map λ p=>if p.1=k then (p.1,a) else p) (l.map λ p=>if p.1=k then (p.1,v) else p)
 | _,_,.nil=>.nil
 | _,_,.cons (a:=p) (b:=q) h t=>by
  simp only[List.map_cons];refine .cons ?_ (qc k r t)
  by_cases e:p.1=k
  ·rw[if_pos e,if_pos (h.1.symm.trans e)];exact⟨h.1,r⟩
  ·rw[if_neg e,if_neg (λ z=>e (h.1.trans z))];exact h
theorem mT(r:P p q):∀ {t:List (κ×α)} {l:List (κ×V)},Paired P t l->Paired P (t++[p]) (l++[q])
 | _,_,.nil=>.cons r .nil
 | _,_,.cons h t=>.cons h (mT r t)
theorem mU{R:α->V->Prop}(k:κ){v:V}(r:R a v){t:List (κ×α)}{l:List (κ×V)}(h:Paired (λ p q=>p.1=q.1/\R p.2 q.2) t l) :
  Paired (λ p q=>p.1=q.1/\R p.2 q.2) (eS t k a) (putK l k v):=by
 unfold eS putK;rw[pw k h]
 split
 ·exact qc k r h
 ·exact mT ⟨rfl,r⟩ h
theorem hE:∀ {t:List (κ×α)} {l:List (κ×V)},Paired P t l->t.length=l.length
 | _,_,.nil=>rfl
 | _,_,.cons _ t=>by simp[hE t]
theorem n5:bF ([]:List (κ×α)) k=none:=rfl
theorem bI{t:List (κ×α)}{k:κ}:bF (p::t) k=if p.1=k then some p.2 else bF t k:=by
 by_cases e:p.1=k<;>simp[bF,List.find?_cons,e]
theorem jk(k:κ):∀ t:List (κ×α),(t.any λ p=>decide (p.1=k))=(bF t k).isSome
 | []=>rfl
 | p::t=>by
  rw[List.any_cons,jk k t,bI]
  by_cases e:p.1=k<;>simp[e]
theorem ig(k j:κ)(y:α):∀ t:List (κ×α),bF t k=none->bF (t++[(k,y)]) j=if j=k then some y else bF t j
 | [],_=>by
  rw[List.nil_append,bI,n5]
  by_cases e:j=k
  ·subst e;simp
  ·simp[e,Ne.symm e]
 | p::t,h=>by
  rw[bI] at h
  by_cases e:p.1=k
  ·simp[e] at h
  ·rw[if_neg e] at h;rw[List.cons_append,bI,bI,ig k j y t h]
   by_cases f:p.1=j
   ·rw[if_pos f,if_pos f]
    by_cases g:j=k
    ·exact absurd (f.trans g) e
    ·rw[if_neg g]
   ·rw[if_neg f,if_neg f]
theorem ji(k j:κ)(y:α):∀ t:List (κ×α),bF (t.map λ p=>if p.1=k then (p.1,y) else p) j=(bF t j).map λ x=>if j=k then y else x
 | []=>rfl
 | p::t=>by
  rw[List.map_cons,bI,bI,ji k j y t]
  by_cases e:p.1=k
  ·rw[if_pos e]
   by_cases f:p.1=j
   ·have g:j=k:=f.symm.trans e;rw[if_pos f,if_pos f,Option.map_some,if_pos g]
   ·rw[if_neg f,if_neg f]
  ·rw[if_neg e]
   by_cases f:p.1=j
   ·have g:¬ j=k:=λ z=>e (f.trans z);simp[f,g]
   ·simp[f]
theorem gm(t:List (κ×α))(k j:κ)(y:α):bF (eS t k y) j=if j=k then some y else bF t j:=by
 unfold eS;have h:=jk k t;cases q:bF t k with
 | none =>
  rw[q] at h;rw[h,if_neg (by simp)];exact ig k j y t q
 | some z =>
  rw[q] at h;rw[h,if_pos (by rfl),ji]
  by_cases e:j=k
  ·subst e;rw[q];simp
  ·rw[if_neg e];cases bF t j<;>simp[e]
theorem iR(t:List (κ×α))(k:κ)(y:α):(eS t k y).length<=t.length+1:=by
 unfold eS
 split<;>simp
end
def kW(k:Key):W:=.d (kE k)
theorem gP{K:FG}{H:Hp}{k:Key}{v:V}(r:aw K H (kW k) v):v=kV k:=lP r
def tkW(ks:List Key):W:=.d (.tuple (ks.map kE))
theorem rG{K:FG}{H:Hp}:∀ {ks:List Key} {vs:List V},aJ K H (ks.map kE) vs->vs=ks.map kV
 | [],vs,h=>by simpa [aJ] using h
 | k::ks,vs,h=>by simp only[List.map_cons,aJ] at h;obtain⟨v,r,e,h1,h2⟩:=h;rw[e,lP h1,rG h2];rfl
theorem vD{K:FG}{H:Hp}{ks:List Key}{vs:List V}(h:aT K H (ks.map kW) vs):vs=ks.map kV:=by
 refine rG (K:=K) (H:=H) ?_;have e:ks.map kW=(ks.map kE).map W.d:=by simp[kW]
 rw[e] at h;exact h.data
def Rd2(H:Hp)(a:Addr)(u:HO):Prop:=Rd H a u\/∃ o,H a=some (.frz o (.frz o u))
theorem kL(ok:HOk P w H h)(e:Rd2 H a (.dK kvs)):kvs.length<=sizeLine/\(a==sysModules)=false/\∃ vs,KV kvs vs/\h.DictOf (aP P w) a vs:=by
 rcases e with e | ⟨o,e⟩
 ·exact qR ok e
 ·exact(ok a _ e).2.2
def iJ(K:FG)(H:Hp)(a:Addr)(y:V)(r:Option V):Prop:=
 (∃ kvs k,Rd2 H a (.dK kvs)/\y=kV k/\r=iA kvs k)\/∃ kvs k b,Rd H a (.dT kvs)/\y=.ref b/\SqT K H b (k.map kV)/\r=iA kvs k
theorem mh(I:Inv X pins σ H s)(h:SqT X.K H b (ks.map kV)):(tupleKind (aP X.prog X.w)).is s.heap ks b:=by obtain⟨its,r,⟨o,h1,h2,n,h3⟩,_⟩:=I.tuple h;exact⟨o,its.toArray,n,h1,h2,h3,by simpa using ee r⟩
theorem wJ(hu:A.units+1<cLine)(I:Inv X pins σ H s)(g:iJ X.K H a y o)(ry:RelV y u)(h:∀ s',Inv X pins σ H s'->Q (.bool o.isSome) s') :
  wpAny (model X.prog X.w) A (compareOp .In u (.ref a)) Q E s:=by
 rcases g with ⟨kvs,k,e,ey,l⟩ | ⟨kvs,k,b,e,ey,eb,l⟩
 ·subst ey;obtain⟨z,hd,vs,rel,dd⟩:=kL I.hok e;refine wpAny_in_of (ka ry) hd dd.mapOf ?_;rw[<- (rel.val k).eU,<- l];exact h _ (I.tok _)
 ·subst ey;cases (show u=Value.ref b from ry);obtain⟨z,hd,xs,rel,dd⟩:=ma I.hok e;refine wpAny_in_heap (tupleKind_room_in1 hu) (mh I eb) hd dd ?_;have q:=(rel.val k).eU;rw[Option.isSome_map] at q;rw[<- q,<- l];exact h _ (I.tok _)
theorem qQ(hu:A.units+1<cLine)(I:Inv X pins σ H s)(g:iJ X.K H a y o)(ry:RelV y u)(h:∀ w' s',Inv X pins σ H s'->RelV (o.getD .non) w'->Q w' s') :
  wpAny (model X.prog X.w) A (call (.builtin "dict.get") [.ref a,u]) Q E s:=by
 rcases g with ⟨kvs,k,e,ey,l⟩ | ⟨kvs,k,b,e,ey,eb,l⟩
 ·subst ey;obtain⟨z,hd,vs,rel,dd⟩:=kL I.hok e;refine call_meetsIn PySem.F.slot_dict_get dd.typeIs PySem.F.entry_dict_get (PySem.F.args_dict_get_2 _ _) (meets_dict_get (aP X.prog X.w) a (ka ry) hd) ⟨_,dd.mapOf,h _ _ (I.tok _) ?_⟩;rw[l];exact(rel.val k).getD rfl
 ·subst ey;cases (show u=Value.ref b from ry);obtain⟨z,hd,xs,rel,dd⟩:=ma I.hok e;refine call_meetsIn PySem.F.slot_dict_get dd.typeIs PySem.F.entry_dict_get (PySem.F.args_dict_get_2 _ _) (meetsH_dict_get (tupleKind (aP X.prog X.w)) a b hd) ⟨tupleKind_room_in1 hu,k,xs,mh I eb,dd,h _ _ (I.tok _) ?_⟩;rw[l];exact(rel.val k).getD rfl
theorem qd(hu:A.units+1<cLine)(I:Inv X pins σ H s)(g:iJ X.K H a y o)(ry:RelV y u)(rd:RelV d r)(h:∀ w' s',Inv X pins σ H s'->RelV (o.getD d) w'->Q w' s') :
  wpAny (model X.prog X.w) A (call (.builtin "dict.get") [.ref a,u,r]) Q E s:=by
 rcases g with ⟨kvs,k,e,ey,l⟩ | ⟨kvs,k,b,e,ey,eb,l⟩
 ·subst ey;obtain⟨z,hd,vs,rel,dd⟩:=kL I.hok e;refine call_meetsIn PySem.F.slot_dict_get dd.typeIs PySem.F.entry_dict_get (PySem.F.args_dict_get_3 _ _ _) (meets_dict_get_default (aP X.prog X.w) a (ka ry) hd r) ⟨_,dd.mapOf,h _ _ (I.tok _) ?_⟩;rw[l];exact(rel.val k).getD rd
 ·subst ey;cases (show u=Value.ref b from ry);obtain⟨z,hd,xs,rel,dd⟩:=ma I.hok e;refine call_meetsIn PySem.F.slot_dict_get dd.typeIs PySem.F.entry_dict_get (PySem.F.args_dict_get_3 _ _ _) (meetsH_dict_get_default (tupleKind (aP X.prog X.w)) a b hd r) ⟨tupleKind_room_in1 hu,k,xs,mh I eb,dd,h _ _ (I.tok _) ?_⟩;rw[l];exact(rel.val k).getD rd
inductive fZ(M:MH):W->W->Option W->Prop
 | k {a:Addr} {kvs:List (Key×W)} {k:Key} (h:M a=some (.dic kvs)):fZ M (.m a) (kW k) (bF kvs k)
 | t {a:Addr} {kvs:List (List Key×W)} {ks:List Key} (h:M a=some (.dct kvs)):fZ M (.m a) (tkW ks) (bF kvs ks)
 | f {a:Addr} {kvs:List (Key×W)} {k:Key} (h:M a=some (.fdic kvs)):fZ M (.m a) (kW k) (bF kvs k)
 | d {kvs:List (Key×PyData)} {k:Key}:fZ M (.d (.dict (kvs.map λ p=>(kE p.1,p.2)))) (kW k) ((bF kvs k).map W.d)
inductive DIs(M:MH):W->Prop
 | k {a:Addr} {kvs:List (Key×W)} (h:M a=some (.dic kvs)):DIs M (.m a)
 | t {a:Addr} {kvs:List (List Key×W)} (h:M a=some (.dct kvs)):DIs M (.m a)
 | d {kvs:List (PyData×PyData)}:DIs M (.d (.dict kvs))
theorem nD(h:kE a=kE b):a=b:=by
 cases a<;>cases b<;>simp[kE] at h<;>rw[h]
theorem eZ{K:FG}{H:Hp}:∀ {kvs:List (Key×PyData)} {l:List (Key×V)},kD K H (kvs.map λ p=>(kE p.1,p.2)) l->Paired (λ(p:Key×PyData) (q:Key×V)=>p.1=q.1/\au K H p.2 q.2) kvs l
 | [],l,h=>by simp only[List.map_nil,kD] at h;subst h;exact .nil
 | p::kvs,l,h=>by simp only[List.map_cons,kD] at h;obtain⟨key,v,r,e,ek,h1,h2⟩:=h;subst e;exact .cons ⟨nD ek,h1⟩ (eZ h2)
theorem DIs.sound{K:FG}{H:Hp}{M:MH}{w:W}{x:V}(g:DIs M w)(r:aw K H w x)(m:bV K H M):∃ a,x=.ref a/\IsD H a:=by
 cases g with
 | k h =>
  obtain⟨l,e,_⟩:=m _ _ h;exact⟨_,r,.inl ⟨l,.inl e⟩⟩
 | t h =>
  obtain⟨l,e,_⟩:=m _ _ h;exact⟨_,r,.inr ⟨l,.inl e⟩⟩
 | d =>
  simp only[aw,au] at r;obtain⟨a,o,l,e,h,_⟩:=r;exact⟨a,e,.inl ⟨l,.inr ⟨o,h⟩⟩⟩
theorem fZ.sound{K:FG}{H:Hp}{M:MH}{w y:W}{o:Option W}{x v:V}(g:fZ M w y o)(r:aw K H w x)(ry:aw K H y v)(m:bV K H M) :
  ∃ a p,x=.ref a/\iJ K H a v p/\OR (aw K H) o p:=by
 cases g with
 | @k a kvs k h =>
  obtain⟨l,e,pr⟩:=m _ _ h;exact⟨_,_,r,.inl ⟨l,k,.inl (.inl e),gP ry,rfl⟩,fC k pr⟩
 | @f a kvs k h =>
  obtain⟨ob,l,e,pr⟩:=m _ _ h;exact⟨_,_,r,.inl ⟨l,k,.inr ⟨ob,e⟩,gP ry,rfl⟩,fC k pr⟩
 | @t a kvs ks h =>
  obtain⟨l,e,pr⟩:=m _ _ h;simp only[tkW,aw,au] at ry;obtain⟨b,vs,eb,hs,ra⟩:=ry;rw[rG ra] at hs;exact⟨_,_,r,.inr ⟨l,ks,b,.inl e,eb,hs,rfl⟩,fC ks pr⟩
 | @d kvs k =>
  simp only[aw,au] at r;obtain⟨a,ob,l,e,h,rk⟩:=r;refine⟨a,_,e,.inl ⟨l,k,.inl (.inr ⟨ob,h⟩),gP ry,rfl⟩,?_⟩;have g:=fC (R:=λ d q=>au K H d q) k (eZ rk);cases q:bF kvs k with
  | none=>rw[q] at g;rw[OR.none_of g];exact True.intro
  | some z =>
   rw[q] at g;obtain⟨b,eb,rb⟩:=OR.some_of g;rw[eb];exact rb
def tN(K:FG)(ty td:TE):TE:=λ σ H Q=>ty σ H λ y H1=>td σ H1 λ x H2=>∃ a o,x=.ref a/\iJ K H2 a y o/\Q (.bl o.isSome) H2
theorem rC(hu:X.A.units+1<cLine)(hi:PE X i ty)(ho:PE X o td):PC X .In i o (tN X.K ty td):=by intro pins s σ H Q I h;refine thn (hi pins s σ H _ I h) λ iv s1 ⟨y,H1,I1,ry,q1⟩=>thn (ho pins s1 σ H1 _ I1 q1) λ u s2 hq49=>?_;obtain⟨x,H2,I2,rx,a,ov,ex,g,q2⟩:=hq49;subst ex;obtain rfl:u=Value.ref a:=rx;exact wJ hu I2 g ry λ s3 I3=>⟨.bl ov.isSome,H2,I3,rfl,q2⟩
def qf(K:FG)(td ty:TE):TE:=λ σ H Q=>td σ H λ x H1=>∃ a,x=.ref a/\IsD H1 a/\ty σ H1 λ y H2=>∃ o,iJ K H2 a y o/\Q (o.getD .non) H2
def sk(K:FG)(td ty tx:TE):TE:=λ σ H Q=>td σ H λ x H1=>∃ a,x=.ref a/\IsD H1 a/\ty σ H1 λ y H2=>tx σ H2 λ z H3=>∃ o,iJ K H3 a y o/\Q (o.getD z) H3
theorem mX(hu:X.A.units+1<cLine)(ho:PE X o td)(he:PE X e ty)(m:M1 X o "get" apos e cpos):PE X (.Call (.Attribute o "get" apos) [e] [] cpos) (qf X.K td ty):=by intro pins s σ H Q I h;refine wpAny_Call_method m.base m.few m.line PySem.F.plainAttrs_dict PySem.F.slot_dict_get PySem.F.type_dict_get (thn (ho pins s σ H _ I h) λ u s1 hq50=>?_);obtain⟨x,H1,I1,rx,a,ex,d,q1⟩:=hq50;subst ex;obtain rfl:u=Value.ref a:=rx;obtain⟨t1,t2,_⟩:=lM I1 d;refine⟨t1,t2,?_⟩;rw[m.trees];refine Calls.callWith_builtin rfl (Calls.evalArgs_plain (Calls.spliced_cons (thn (he pins s1 σ H1 _ I1 q1) λ iv s2 ⟨y,H2,I2,ry,ov,g,q2⟩=>Calls.spliced_nil ?_)));exact qQ hu I2 g ry λ w' s3 I3 rw'=>⟨_,H2,I3,rw',q2⟩
theorem mV(hu:X.A.units+1<cLine)(ho:PE X o td)(he:PE X e ty)(hf:PE X f tx)(m:M2 X o "get" apos e f cpos):PE X (.Call (.Attribute o "get" apos) [e,f] [] cpos) (sk X.K td ty tx):=by
 intro pins s σ H Q I h;refine wpAny_Call_method m.base m.few m.line PySem.F.plainAttrs_dict PySem.F.slot_dict_get PySem.F.type_dict_get (thn (ho pins s σ H _ I h) λ u s1 hq51=>?_);obtain⟨x,H1,I1,rx,a,ex,d,q1⟩:=hq51;subst ex;obtain rfl:u=Value.ref a:=rx;obtain⟨t1,t2,_⟩:=lM I1 d;refine⟨t1,t2,?_⟩;rw[m.trees];refine Calls.callWith_builtin rfl (Calls.evalArgs_plain (Calls.spliced_cons (thn (he pins s1 σ H1 _ I1 q1) λ iv s2 ⟨y,H2,I2,ry,q2⟩ =>
  Calls.spliced_cons (thn (hf pins s2 σ H2 _ I2 q2) λ fv s3 ⟨z,H3,I3,rz,ov,g,q3⟩=>Calls.spliced_nil ?_))))
 exact qd hu I3 g ry rz λ w' s4 I4 rw'=>⟨_,H3,I4,rw',q3⟩
def wI(td ty tx:TE):TE:=λ σ H Q=>td σ H λ x H1=>∃ a,x=.ref a/\IsD H1 a/\ty σ H1 λ y H2=>tx σ H2 λ z H3=>∃ kvs k,H3 a=some (.dK kvs)/\y=kV k/\kvs.length<sizeLine /\
 (∀ v,iA kvs k=some v->Q v H3)/\(iA kvs k=none->Q z (upd H3 a (.dK (putK kvs k z))))
theorem kj(ho:PE X o td)(he:PE X e ty)(hf:PE X f tx)(m:M2 X o "setdefault" apos e f cpos):PE X (.Call (.Attribute o "setdefault" apos) [e,f] [] cpos) (wI td ty tx):=by
 intro pins s σ H Q I h;refine wpAny_Call_method m.base m.few m.line PySem.F.plainAttrs_dict PySem.F.slot_dict_setdefault PySem.F.type_dict_setdefault (thn (ho pins s σ H _ I h) λ u s1 hq52=>?_);obtain⟨x,H1,I1,rx,a,ex,d,q1⟩:=hq52;subst ex;obtain rfl:u=Value.ref a:=rx;obtain⟨t1,t2,_⟩:=lM I1 d;refine⟨t1,t2,?_⟩;rw[m.trees];refine Calls.callWith_builtin rfl (Calls.evalArgs_plain (Calls.spliced_cons (thn (he pins s1 σ H1 _ I1 q1) λ iv s2 ⟨y,H2,I2,ry,q2⟩ =>
  Calls.spliced_cons (thn (hf pins s2 σ H2 _ I2 q2) λ fv s3 ⟨z,H3,I3,rz,kvs,k,ea,ey,hl,q3,q4⟩=>Calls.spliced_nil ?_))))
 subst ey;obtain⟨zz,hd,vs,rel,dd⟩:=tU I3.hok ea;refine call_meetsIn PySem.F.slot_dict_setdefault dd.typeIs PySem.F.entry_dict_setdefault (PySem.F.args_dict_setdefault_3 _ _ _) (kt_meets_setdefault (aP X.prog X.w) a (ka ry) hd fv) ⟨vs,dd,by rw[<- rel.length];exact zz,λ v ev=>?_,λ en h' dd' hs=>?_⟩
 ·have g:=rel.val k;rw[ev] at g;cases q:iA kvs k with
  | none=>rw[q] at g;exact g.elim
  | some v' =>
   rw[q] at g;exact⟨v',H3,I3.tok _,g,q3 v' q⟩
 ·have g:=rel.val k;rw[en] at g;cases q:iA kvs k with
  | some v'=>rw[q] at g;exact g.elim
  | none =>
   have he:∃ q,h'.get? a=some q:=let ⟨q,_,_,hq,_⟩:=dd'; ⟨q,hq⟩;have hl2:(putK kvs k z).length<=sizeLine:=by have:=cI kvs k z;omega
   exact⟨z,_,iM I3 (by rw[ea];exact True.intro) hs he (pG hl2 hd (rel.put k rz) dd'),rz,q4 q⟩
section
variable {X:Cx}{o i e f value:Expr}{es:List Expr}{pos pos' apos cpos:Pos}{td ti tx tv:TD}{t:TAd}
def fP(_:DS)(M:MH)(Q:QD):Prop:=∀ p,M p=none->Q (.m p) (bG M p (.dic []))
def mw(_:DS)(M:MH)(Q:QD):Prop:=∀ p,M p=none->Q (.m p) (bG M p (.dct []))
def vg(ti td:TD)(τ:DS)(M:MH)(Q:QD):Prop:=ti τ M λ y M1=>td τ M1 λ w M2=>∃ o,fZ M2 w y o/\Q (.d (.bool o.isSome)) M2
theorem rH{σ:St}{H:Hp}{Q:VK}(h:up X.K (vg ti td) σ H Q):tN X.K (up X.K ti) (up X.K td) σ H Q:=by obtain⟨τ,M,Qd,A,h,k⟩:=h;refine⟨τ,M,_,A,h,λ y H1 wy M1 kp1 r1 m1 q1=>⟨τ,M1,_,A.go kp1 m1,q1,λ x H2 w M2 kp2 r2 m2 hq53=>?_⟩⟩;obtain⟨o,g,q2⟩:=hq53;obtain⟨a,p,e,g',ro⟩:=g.sound r2 (r1.keep kp2) m2;refine⟨a,p,e,g',?_⟩;rw[<- ro.isSome];exact k _ H2 (.d (.bool _)) M2 (kp1.trans kp2) (by simp[aw,au]) m2 q2
theorem se(hu:X.A.units+1<cLine)(hi:PD X i ti)(ho:PD X o td)(hm:behindInMarks .In o=false:=by rfl):PTd X (.Compare i [.In] [o] pos) (aY (vg ti td)):=sV (ua (rC hu hi ho) hm) λ σ H Q h=>fT (λ σ H Q h=>rH h) h
def qx(td ti:TD)(τ:DS)(M:MH)(Q:QD):Prop:=td τ M λ w M1=>DIs M1 w/\ti τ M1 λ y M2=>∃ o,fZ M2 w y o/\Q (o.getD (.d .none)) M2
def gB(td ti tx:TD)(τ:DS)(M:MH)(Q:QD):Prop:=td τ M λ w M1=>DIs M1 w/\ti τ M1 λ y M2=>tx τ M2 λ z M3=>∃ o,fZ M3 w y o/\Q (o.getD z) M3
theorem OR.getD{K:FG}{H:Hp}{o:Option W}{p:Option V}{z:W}{v:V}(h:OR (aw K H) o p)(r:aw K H z v):aw K H (o.getD z) (p.getD v):=by
 cases o with
 | none=>rw[OR.none_of h];exact r
 | some a=>obtain⟨b,e,q⟩:=OR.some_of h;rw[e];exact q
theorem rP(hu:X.A.units+1<cLine)(ho:PD X o td)(he:PD X e ti)(m:M1 X o "get" apos e cpos:=by exact⟨rfl,rfl,rfl,rfl⟩):PD X (.Call (.Attribute o "get" apos) [e] [] cpos) (qx td ti):=dg (mX hu ho he m) λ σ H Q h=>by obtain⟨τ,M,Qd,A,h,k⟩:=h;refine⟨τ,M,_,A,h,λ x H1 w M1 kp1 r1 m1 hq54=>?_⟩;obtain⟨di,q1⟩:=hq54;obtain⟨a,ea,isd⟩:=di.sound r1 m1;refine⟨a,ea,isd,τ,M1,_,A.go kp1 m1,q1,λ y H2 wy M2 kp2 r2 m2 hq55=>?_⟩;obtain⟨o,g,q2⟩:=hq55;obtain⟨a',p,e',g',ro⟩:=g.sound (r1.keep kp2) r2 m2;rw[ea] at e';cases e';exact⟨p,g',k _ H2 _ M2 (kp1.trans kp2) (ro.getD (v:=.non) (by simp[aw,au])) m2 q2⟩
theorem sA(hu:X.A.units+1<cLine)(ho:PD X o td)(he:PD X e ti)(hf:PD X f tx)(m:M2 X o "get" apos e f cpos:=by exact⟨rfl,rfl,rfl,rfl⟩):PD X (.Call (.Attribute o "get" apos) [e,f] [] cpos) (gB td ti tx):=dg (mV hu ho he hf m) λ σ H Q h=>by obtain⟨τ,M,Qd,A,h,k⟩:=h;refine⟨τ,M,_,A,h,λ x H1 w M1 kp1 r1 m1 hq56=>?_⟩;obtain⟨di,q1⟩:=hq56;obtain⟨a,ea,isd⟩:=di.sound r1 m1;refine⟨a,ea,isd,τ,M1,_,A.go kp1 m1,q1,λ y H2 wy M2 kp2 r2 m2 q2=>⟨τ,M2,_,A.go (kp1.trans kp2) m2,q2,λ z H3 wz M3 kp3 r3 m3 hq57=>?_⟩⟩;obtain⟨o,g,q3⟩:=hq57;obtain⟨a',p,e',g',ro⟩:=g.sound (r1.keep (kp2.trans kp3)) (r2.keep kp3) m3;rw[ea] at e';cases e';exact⟨p,g',k _ H3 _ M3 ((kp1.trans kp2).trans kp3) (ro.getD r3) m3 q3⟩
def iU(td ti tx:TD)(τ:DS)(M:MH)(Q:QD):Prop:=td τ M λ w M1=>DIs M1 w/\ti τ M1 λ y M2=>tx τ M2 λ z M3=>∃ a kvs k,w=.m a/\M3 a=some (.dic kvs)/\y=kW k/\kvs.length<sizeLine /\
 (∀ v,bF kvs k=some v->Q v M3)/\(bF kvs k=none->Q z (bG M3 a (.dic (eS kvs k z))))
theorem k9(ho:PD X o td)(he:PD X e ti)(hf:PD X f tx)(m:M2 X o "setdefault" apos e f cpos:=by exact⟨rfl,rfl,rfl,rfl⟩):PD X (.Call (.Attribute o "setdefault" apos) [e,f] [] cpos) (iU td ti tx):=dg (kj ho he hf m) λ σ H Q h=>by
 obtain⟨τ,M,Qd,A,h,k⟩:=h;refine⟨τ,M,_,A,h,λ x H1 w M1 kp1 r1 m1 hq58=>?_⟩;obtain⟨di,q1⟩:=hq58;obtain⟨a,ea,isd⟩:=di.sound r1 m1;refine⟨a,ea,isd,τ,M1,_,A.go kp1 m1,q1,λ y H2 wy M2 kp2 r2 m2 q2=>⟨τ,M2,_,A.go (kp1.trans kp2) m2,q2,λ z H3 wz M3 kp3 r3 m3 hq59=>?_⟩⟩;obtain⟨a',kvs,key,ew,hm,ey,hl,qs,qn⟩:=hq59;subst ew ey;have e2:V.ref a=V.ref a':=ea.symm.trans r1;cases e2;obtain⟨l,e,pr⟩:=m3 _ _ hm;have g:=fC key pr;have kk:=(kp1.trans kp2).trans kp3;refine⟨l,key,e,gP r2,by rw[<- hE pr];exact hl,λ v ev=>?_,λ en=>?_⟩
 ·cases q:bF kvs key with
  | none=>rw[q,ev] at g;exact g.elim
  | some v' =>
   rw[q,ev] at g;exact k _ H3 v' M3 kk g m3 (qs v' q)
 ·cases q:bF kvs key with
  | some v'=>rw[q,en] at g;exact g.elim
  | none =>
   have kp4:Kp H3 (upd H3 a (.dK (putK l key z))):=Kp.set e (λ _ z=>nomatch z) (λ _ _ z=>nomatch z);refine k _ _ wz (bG M3 a (.dic (eS kvs key wz))) (kk.trans kp4) (r3.keep kp4) (m3.put (mo:=.dic (eS kvs key wz)) kp4 ⟨_,ax,?_⟩) (qn q);exact Paired.kd (mU key r3 pr) λ p q z=>⟨z.1,z.2.keep kp4⟩
def lL(td ti tv:TD)(D:Ed)(τ:DS)(M:MH):Prop:=tv τ M λ v M1=>td τ M1 λ w M2=>ti τ M2 λ y M3=>∃ a kvs k,w=.m a/\M3 a=some (.dic kvs)/\y=kW k/\kvs.length<sizeLine/\D.nx τ (bG M3 a (.dic (eS kvs k v)))
theorem o7(hu:X.A.units+1<cLine)(ho:PD X o td)(hi:PD X i ti)(hv:PD X value tv)(hs:swapsWith value (some (.Subscript o i pos')) pos.line X.env=pure false:=by rfl) :
  PSd X (.Assign [.Subscript o i pos'] value pos) (lL td ti tv):=kF (kJ hu ho hi hv hs) λ D σ H h=>by
 obtain⟨τ,M,Dd,A,h,k1,_⟩:=h;refine⟨τ,M,_,A,h,λ v H1 wv M1 kp1 r1 m1 q1=>⟨τ,M1,_,A.go kp1 m1,q1,λ x H2 w M2 kp2 r2 m2 q2=>⟨τ,M2,_,A.go (kp1.trans kp2) m2,q2,λ y H3 wy M3 kp3 r3 m3 hq60=>?_⟩⟩⟩;obtain⟨a,kvs,key,ew,hm,ey,hl,q3⟩:=hq60;subst ew ey;obtain⟨l,e,pr⟩:=m3 _ _ hm;have kp4:Kp H3 (upd H3 a (.dK (putK l key v))):=Kp.set e (λ _ z=>nomatch z) (λ _ _ z=>nomatch z);refine⟨a,_,r2,.inl ⟨l,key,e,gP r3,by rw[<- hE pr];exact hl,rfl⟩,?_⟩;have rv:aw X.K H3 wv v:=(r1.keep kp2).keep kp3;refine k1 _ _ _ _ (((kp1.trans kp2).trans kp3).trans kp4) (A.go (((kp1.trans kp2).trans kp3).trans kp4) (m3.put (mo:=.dic (eS kvs key wv)) kp4 ⟨_,ax,?_⟩)) q3;exact Paired.kd (mU key rv pr) λ p q z=>⟨z.1,z.2.keep kp4⟩
def d6(td:TD)(t:TAd)(tv:TD)(D:Ed)(τ:DS)(M:MH):Prop:=tv τ M λ v M1=>td τ M1 λ w M2=>t τ M2 λ ws M3=>∃ a kvs ks,w=.m a/\M3 a=some (.dct kvs)/\ws=ks.map kW/\kvs.length<sizeLine/\ks.length<=sizeLine/\D.nx τ (bG M3 a (.dct (eS kvs ks v)))
theorem lH(hu:X.A.units+1<cLine)(ho:PD X o td)(hi:PAd X es t)(hv:PD X value tv)(hs:swapsWith value (some (.Subscript o (.Tuple es x1 p2) pos')) pos.line X.env=pure false:=by rfl) :
  PSd X (.Assign [.Subscript o (.Tuple es x1 p2) pos'] value pos) (d6 td t tv):=kF (kJ hu ho (p4 hi) hv hs) λ D σ H h=>by
 obtain⟨τ,M,Dd,A,h,k1,_⟩:=h;refine⟨τ,M,_,A,h,λ v H1 wv M1 kp1 r1 m1 q1=>⟨τ,M1,_,A.go kp1 m1,q1,λ x H2 w M2 kp2 r2 m2 q2=>⟨τ,M2,_,A.go (kp1.trans kp2) m2,q2,λ vs H3 ws M3 kp3 r3 m3 hq61=>?_⟩⟩⟩;obtain⟨a,kvs,ks,ew,hm,ey,hl,hk,q3⟩:=hq61;subst ew ey;have evs:=vD r3;subst evs;refine⟨by simpa using hk,λ p hp=>?_⟩;have kp5:Kp H3 (upd H3 p (.tup (ks.map kV))):=Kp.new hp;have m5:=m3.new (o:=.tup (ks.map kV)) hp;obtain⟨l,e,pr⟩:=m5 _ _ hm;have kp4:Kp (upd H3 p (.tup (ks.map kV))) (upd (upd H3 p (.tup (ks.map kV))) a (.dT (putK l ks v))):=Kp.set e (λ _ z=>nomatch z) (λ _ _ z=>nomatch z);refine⟨a,_,r2,.inr ⟨l,ks,p,e,rfl,ax,by rw[<- hE pr];exact hl,rfl⟩,?_⟩;have rv:aw X.K (upd H3 p (.tup (ks.map kV))) wv v:=((r1.keep kp2).keep kp3).keep kp5;have kk:=(((kp1.trans kp2).trans kp3).trans kp5).trans kp4;refine k1 _ _ _ _ kk (A.go kk (m5.put (mo:=.dct (eS kvs ks wv)) kp4 ⟨_,ax,?_⟩)) q3;exact Paired.kd (mU ks rv pr) λ p q z=>⟨z.1,z.2.keep kp4⟩
end
def sM(f:Str)(v:W):List (Str×W)->List (Str×W)
 | []=>[(f,v)]
 | (g,x)::r=>if g=f then (g,v)::r else (g,x)::sM f v r
abbrev nQ(K:FG)(H:Hp):List (Str×W)->List (Str×V)->Prop:=Paired (λ(p:Str×W) (q:Str×V)=>p.1=q.1/\aw K H p.2 q.2)
theorem eB{K:FG}{H:Hp}(f:Str):∀ {fs:List (Str×W)} {l:List (Str×V)},nQ K H fs l->OR (aw K H) (fs.lookup f) (l.lookup f)
 | _,_,.nil=>True.intro
 | _,_,.cons (a:=p) (b:=q) (l₁:=t1) (l₂:=t2) h t=>by
  obtain⟨pk,pv⟩:=p;obtain⟨qk,qv⟩:=q;obtain⟨h1,h2⟩:=h;have h1':pk=qk:=h1;subst h1';rw[List.lookup_cons,List.lookup_cons];cases e:(f==pk) with
  | true=>exact h2
  | false=>exact eB f t
theorem pK{K:FG}{H:Hp}(f:Str){w:W}{v:V}(r:aw K H w v):∀ {fs:List (Str×W)} {l:List (Str×V)},nQ K H fs l->nQ K H (sM f w fs) (gf f v l)
 | _,_,.nil=>.cons ⟨rfl,r⟩ .nil
 | _,_,.cons (a:=p) (b:=q) (l₁:=t1) (l₂:=t2) h t=>by
  obtain⟨pk,pv⟩:=p;obtain⟨qk,qv⟩:=q;obtain⟨h1,h2⟩:=h;have h1':pk=qk:=h1;subst h1';show nQ K H (if pk=f then (pk,w)::t1 else (pk,pv)::sM f w t1) (if pk=f then (pk,v)::t2 else (pk,qv)::gf f v t2)
  by_cases e:pk=f
  ·rw[if_pos e,if_pos e];exact .cons ⟨rfl,r⟩ t
  ·rw[if_neg e,if_neg e];exact .cons ⟨rfl,h2⟩ (pK f r t)
theorem pR{K:FG}{H:Hp}:∀ {fs:List (Str×W)} {l:List (Str×V)},nQ K H fs l->fs.length=l.length
 | _,_,.nil=>rfl
 | _,_,.cons _ t=>by simp[pR t]
theorem nQ.keep{K:FG}{H H':Hp}(kp:Kp H H'){fs:List (Str×W)}{l:List (Str×V)}(h:nQ K H fs l):nQ K H' fs l:=Paired.kd h λ p q z=>⟨z.1,z.2.keep kp⟩
section
variable {X:Cx}{C f:Addr}{o e value:Expr}{es:List Expr}{fn m x:Str}{pos pos' apos p:Pos}{td tv te:TD}{t:TAd}{k:Nat}{fd:FuncData}{ps:List Str}{sp:SpD}
inductive w4(C:Addr) (fn:Str) (M1:MH) (w:W) (Q:QD):Prop
 | mk (a:Addr) (fs:List (Str×W)) (v:W) (z0:w=.m a) (z1:M1 a=some (.ins C fs)) (z2:fs.lookup fn=some v) (q:Q v M1):w4 C fn M1 w Q
def lZ(C:Addr)(td:TD)(fn:Str)(τ:DS)(M:MH)(Q:QD):Prop:=td τ M λ w M1=>w4 C fn M1 w Q
theorem tE(c:Cls X.K C)(n:bZ X.K C fn)(he:PD X e td)(hb:attributeBase e fn X.env (eval e X.env)=eval e X.env:=by rfl):PD X (.Attribute e fn pos) (lZ C td fn):=dg (tj he hb) λ σ H Q h=>by obtain⟨τ,M,Qd,A,h,k⟩:=h;refine⟨τ,M,_,A,h,λ x H1 w M1 kp1 r1 m1 hq62=>?_⟩;obtain⟨a,fs,v,ew,hm,hl,q⟩:=hq62;subst ew;obtain⟨dx,l,e,pr⟩:=m1 _ _ hm;have g:=eB fn pr;rw[hl] at g;obtain⟨b,eb,rb⟩:=OR.some_of g;exact⟨a,C,dx,l,b,r1,e,c,n,eb,k _ H1 v M1 kp1 rb m1 q⟩
def fS(C:Addr)(td tv:TD)(fn:Str)(D:Ed)(τ:DS)(M:MH):Prop:=tv τ M λ v M1=>td τ M1 λ w M2=>∃ a fs,w=.m a/\M2 a=some (.ins C fs)/\fs.length<1000/\D.nx τ (bG M2 a (.ins C (sM fn v fs)))
theorem qI(c:Cls X.K C)(n:bZ X.K C fn)(ha:PD X o td)(hv:PD X value tv)(hs:swapsWith value (some (.Attribute o fn pos')) pos.line X.env=pure false:=by rfl):PSd X (.Assign [.Attribute o fn pos'] value pos) (fS C td tv fn):=kF (t7 ha hv hs) λ D σ H h=>by obtain⟨τ,M,Dd,A,h,k1,_⟩:=h;refine⟨τ,M,_,A,h,λ v H1 wv M1 kp1 r1 m1 q1=>⟨τ,M1,_,A.go kp1 m1,q1,λ x H2 w M2 kp2 r2 m2 hq63=>?_⟩⟩;obtain⟨a,fs,ew,hm,hl,q2⟩:=hq63;subst ew;obtain⟨dx,l,e,pr⟩:=m2 _ _ hm;have kp4:Kp H2 (upd H2 a (.ins C dx (gf fn v l))):=Kp.set e (λ _ z=>nomatch z) (λ _ _ z=>nomatch z);refine⟨a,C,dx,l,r2,e,c,n,by rw[<- pR pr];exact hl,?_⟩;refine k1 _ _ _ _ ((kp1.trans kp2).trans kp4) (A.go ((kp1.trans kp2).trans kp4) (m2.put (mo:=.ins C (sM fn wv fs)) kp4 ⟨dx,_,ax,?_⟩)) q2;exact nQ.keep kp4 (pK fn (r1.keep kp2) pr)
inductive tD(C:Addr) (m:Str) (M1:MH) (w:W) (q:Prop):Prop
 | mk (a:Addr) (fs:List (Str×W)) (z0:w=.m a) (z1:M1 a=some (.ins C fs)) (z2:fs.lookup m=none) (z3:q):tD C m M1 w q
def iB(C:Addr)(m:Str)(sp:SpD)(td:TD)(t:TAd)(τ:DS)(M:MH)(Q:QD):Prop:=td τ M λ w M1=>tD C m M1 w (t τ M1 λ ws M2=>sp (w::ws) M2 Q)
theorem oN{σ:St}{H:Hp}{Q:VK}(h:up X.K (iB C m sp td t) σ H Q):uQ C m (dY X.K sp) [] E0 (up X.K td) (upA X.K t) σ H Q:=by obtain⟨τ,M,Qd,A,h,k⟩:=h;refine⟨τ,M,_,A,h,λ x H1 w M1 kp1 r1 m1 hq64=>?_⟩;obtain⟨a,fs,ew,hm,hl,q1⟩:=hq64;subst ew;obtain⟨dx,l,e,pr⟩:=m1 _ _ hm;have g:=eB m pr;rw[hl] at g;refine⟨a,dx,l,r1,e,OR.none_of g,τ,M1,_,A.go kp1 m1,q1,λ vs H2 ws M2 kp2 r2 m2 q2=>?_⟩;exact⟨.m a::ws,M2,Qd,by rw[List.append_nil];exact .cons r1 r2,m2,q2,kgo (kgo k kp1) kp2⟩
theorem qU(he:PD X o td)(c:Cls X.K C)(hm:Meth X.K C m f)(F:cL X.prog X.w X.K X.mg X.base CX0 k f fd ps (dY X.K sp))(hr:b9 k X.A)(hb:Binds X.K fd ps [])(ha:PAd X (e::es) t)
  (ht:eval (.Call (.Attribute o m apos) (e::es) [] pos) X.env=(do
   let ov <- eval o X.env
   standAt apos.atName
   let (f,first) <- holding [ov] (getMethod ov m pl)
   callWith pos f first (backTo pos (starEach (e::es) X.env)) (backToKw pos (keywordEach [] X.env))):=by rfl)
  (h1:dX e=false:=by rfl)(h2:(es.all λ e=>!dX e)=true:=by rfl):PD X (.Call (.Attribute o m apos) (e::es) [] pos) (iB C m sp td t):=
 dg (sd (E:=E0) (dvs:=[]) he c hm F hr hb .nil qo ha (cj e es X.env h1) (cV pos X.env es h2) ht) λ σ H Q h=>oN h
def u7(C:Addr)(sp:SpD)(t:TAd)(τ:DS)(M:MH)(Q:QD):Prop:=t τ M λ ws M1=>∀ a,M1 a=none->sp (.m a::ws) (bG M1 a (.ins C [])) (λ v M2=>v=.d .none/\Q (.m a) M2)
theorem oa{H1:Hp}{M1:MH}{a dx:Addr}(m1:bV X.K H1 M1)(ha:H1 a=none)(hd:H1 dx=none)(hn:dx≠a):Kp H1 (upd (upd H1 dx (.own a)) a (.ins C dx []))/\bV X.K (upd (upd H1 dx (.own a)) a (.ins C dx [])) (bG M1 a (.ins C [])):=by
 have k1:Kp H1 (upd H1 dx (.own a)):=Kp.new hd;have ha2:(upd H1 dx (.own a)) a=none:=by rw[ay (Ne.symm hn)];exact ha
 have k2:Kp (upd H1 dx (.own a)) (upd (upd H1 dx (.own a)) a (.ins C dx [])):=Kp.new ha2;exact⟨k1.trans k2,(m1.new hd).put (mo:=.ins C []) k2 ⟨dx,[],ax,.nil⟩⟩
end
def pH(M:MH)(a:Addr):MH:=λ b=>if b=a then none else M b
theorem iN(h:b≠a):pH M a b=M b:=if_neg h
theorem bV.del{K:FG}{H:Hp}{M:MH}{a:Addr}{o:HO}(m:bV K H M)(kp:Kp H (upd H a o)):bV K (upd H a o) (pH M a):=λ b mo hm=>by
 by_cases e:b=a
 ·subst e;simp[pH] at hm
 ·rw[iN e] at hm;exact(m b mo hm).keep kp λ u z=>by rw[ay e];exact z
def wY(R:W->MH->Prop)(ws:List W)(M:MH):Prop:=match ws with
 | [y]=>R y M
 | _=>False
theorem qB(h:wY R ws M):∃ y,ws=[y]/\R y M:=by
 match ws,h with
 | [y],h=>exact⟨y,rfl,h⟩
def gx(td:TD)(τ:DS)(M:MH)(Q:QD):Prop:=td τ M λ w M1=>∃ a ds,w=.m a/\M1 a=some (.lst (ds.map W.d))/\Q (.d (.list ds)) (pH M1 a)
theorem qO(h:PD X e td):PD X e (gx td):=dg (jJ h) λ σ H Q h=>by obtain⟨τ,M,Qd,A,h,k⟩:=h;refine⟨τ,M,_,A,h,λ x H1 w M1 kp1 r1 m1 hq66=>?_⟩;obtain⟨a,ds,ew,hm,q⟩:=hq66;subst ew;obtain⟨vs,e,ra⟩:=m1 _ _ hm;refine⟨a,_,r1,e,trivial,λ ob=>?_⟩;have kp2:Kp H1 (upd H1 a (.frz ob (.lst vs))):=Kp.set e (λ _ z=>nomatch z) (λ _ _ z=>nomatch z);refine k _ _ (.d (.list ds)) (pH M1 a) (kp1.trans kp2) ?_ (m1.del kp2) q;simp only[aw,au];exact⟨a,vs,r1,.inl ⟨ob,ax⟩,ra.data.keep kp2⟩
def bT(td te:TD)(τ:DS)(M:MH)(Q:QD):Prop:=td τ M λ w M1=>∃ a ws,w=.m a/\M1 a=some (.lst ws)/\te τ M1 λ y M2=>∃ ws',M2 a=some (.lst ws')/\ws'.length<sizeLine/\Q (.d .none) (bG M2 a (.lst (ws'++[y])))
theorem lB(ho:PD X o td)(he:PD X e te)
  (hbase:attributeBase o "append" X.env (eval o X.env)=eval o X.env:=by rfl)
  (hfew:((backTo cpos (starEach [e] X.env)).all (λ x=>!x.1)&&(backToKw cpos (keywordEach [] X.env)).all (λ x=>x.1.isSome)
   && decide (([e]:List Expr).length+([]:List Keyword).length+(if ([]:List Keyword).isEmpty then 0 else 1)<30))=true:=by rfl)
  (hline:(apos.endLine==cpos.line)=true:=by rfl)(hs:dX e=false:=by rfl):PD X (.Call (.Attribute o "append" apos) [e] [] cpos) (bT td te):=
 dg (uz PySem.F.plainAttrs_list PySem.F.slot_list_append PySem.F.type_list_append m7 ho (pac he iG hs) hbase hfew hline (cj e [] X.env hs) rfl) λ σ H Q h=>by obtain⟨τ,M,Qd,A,h,k⟩:=h;refine⟨τ,M,_,A,h,λ x H1 w M1 kp1 r1 m1 hq67=>?_⟩;obtain⟨a,ws,ew,hm,q1⟩:=hq67;subst ew;obtain⟨vs,ea,ra⟩:=m1 _ _ hm;have r1':x=.ref a:=r1;subst r1';refine⟨.inl ⟨rfl,vs,.inl (.inl ea)⟩,τ,M1,wY (λ y M2=>∃ ws',M2 a=some (.lst ws')/\ws'.length<sizeLine/\Qd (.d .none) (bG M2 a (.lst (ws'++[y])))),A.go kp1 m1,q1,λ ys H2 wys M2 kp2 r2 m2 q2=>?_⟩;obtain⟨y,ey,ws',hm2,hl,q4⟩:=qB q2;subst ey;obtain⟨v,ev,rv⟩:=c5 r2;subst ev;obtain⟨vs2,ea2,ra2⟩:=m2 _ _ hm2;have kp4:Kp H2 (upd H2 a (.lst (vs2++[v]))):=Kp.set ea2 (λ _ z=>nomatch z) (λ _ _ z=>nomatch z);refine⟨a,vs2,v,rfl,rfl,ea2,by rw[<- ra2.length];exact hl,?_⟩;exact k _ _ (.d .none) _ ((kp1.trans kp2).trans kp4) (by simp[aw,au]) (m2.put (mo:=.lst (ws'++[y])) kp4 ⟨_,ax,(aT.append ra2 (.cons rv .nil)).keep kp4⟩) q4
def ml(K:FG)(H:Hp)(d:PyData)(x:V):Prop:=au K H d x\/∃ a vs ds,d=.list ds/\x=.ref a/\H a=some (.lst vs)/\aJ K H ds vs
inductive pY(M:MH):W->PyData->Prop
 | d {x:PyData}:pY M (.d x) x
 | l {a:Addr} {ds:List PyData} (h:M a=some (.lst (ds.map W.d))):pY M (.m a) (.list ds)
theorem pY.sound{K:FG}{H:Hp}{M:MH}{w:W}{d:PyData}{x:V}(g:pY M w d)(r:aw K H w x)(m:bV K H M):ml K H d x:=by
 cases g with
 | d=>exact .inl r
 | l h =>
  obtain⟨vs,e,ra⟩:=m _ _ h;exact .inr ⟨_,vs,_,rfl,r,e,ra.data⟩
theorem xy(I:Inv X pins σ H s)(h:ml X.K H d x):∃ H',Inv X pins σ H' s/\au X.K H' d x:=by
 rcases h with h | ⟨a,vs,ds,rfl,rfl,e,ra⟩
 ·exact⟨H,I,h⟩
 ·obtain⟨o,I2⟩:=I.freeze e trivial;have kp:Kp H (upd H a (.frz o (.lst vs))):=Kp.set e (λ _ z=>nomatch z) (λ _ _ z=>nomatch z);refine⟨_,I2,?_⟩;simp only[au];exact⟨a,vs,rfl,.inl ⟨o,ax⟩,ra.keep kp⟩
theorem cZ(I:Inv X pins σ H s)(d:PyData)(h:ml X.K H d x)(r:RelV x u)(hd:d.hasDict=false):∃ as,Reads s.heap u d as:=by obtain⟨H',I',h'⟩:=xy I h;exact cB I' d h' r hd
theorem fb(hr:iH k X.A):OpR X (compareOp .Eq) (λ x y H Q=>∃ d d',ml X.K H d x/\ml X.K H d' y/\cu d d'=true/\Q (.bl (PyData.eqv d d')) H):=by
 intro pins s σ H x y v u Q I rx ry h;obtain⟨d,d',h1,h2,o,q⟩:=h;rcases bX o with ⟨a,b,e1,e2⟩ | ⟨o1,o2⟩
 ·subst e1;subst e2;rcases h1 with h1 | ⟨_,_,_,z,_⟩
  ·rcases h2 with h2 | ⟨_,_,_,z,_⟩
   ·exact pQ hr pins s σ H x y v u Q I rx ry ⟨_,_,h1,h2,o,q⟩
   ·cases z
  ·cases z
 simp only[iz,Bool.and_eq_true,Bool.not_eq_true'] at o1 o2;obtain⟨as,r1⟩:=cZ I d h1 rx o1.2;obtain⟨bs,r2⟩:=cZ I d' h2 ry o2.2;exact eq_dataH r1 r2 o1.1 o2.1 hr.units ⟨.bl _,H,I,rfl,q⟩
theorem gD(hr:iH k X.A):OpR X (compareOp .NotEq) (λ x y H Q=>∃ d d',ml X.K H d x/\ml X.K H d' y/\cu d d'=true/\Q (.bl (!PyData.eqv d d')) H):=by
 intro pins s σ H x y v u Q I rx ry h;obtain⟨d,d',h1,h2,o,q⟩:=h;rcases bX o with ⟨a,b,e1,e2⟩ | ⟨o1,o2⟩
 ·subst e1;subst e2;rcases h1 with h1 | ⟨_,_,_,z,_⟩
  ·rcases h2 with h2 | ⟨_,_,_,z,_⟩
   ·exact uo hr pins s σ H x y v u Q I rx ry ⟨_,_,h1,h2,o,q⟩
   ·cases z
  ·cases z
 simp only[iz,Bool.and_eq_true,Bool.not_eq_true'] at o1 o2;obtain⟨as,r1⟩:=cZ I d h1 rx o1.2;obtain⟨bs,r2⟩:=cZ I d' h2 ry o2.2;exact ne_dataH r1 r2 o1.1 o2.1 hr.units ⟨.bl _,H,I,rfl,q⟩
section
variable {X:Cx}{K:FG}
def eD(w w':W)(M:MH)(Q:QD):Prop:=∃ d d',pY M w d/\pY M w' d'/\cu d d'=true/\Q (.d (.bool (PyData.eqv d d'))) M
def jM(w w':W)(M:MH)(Q:QD):Prop:=∃ d d',pY M w d/\pY M w' d'/\cu d d'=true/\Q (.d (.bool (!PyData.eqv d d'))) M
theorem cH:OpD K (λ x y H Q=>∃ d d',ml K H d x/\ml K H d' y/\cu d d'=true/\Q (.bl (PyData.eqv d d')) H) eD:=by intro x y H w w' M Qd Q r1 r2 m ⟨d,d',g1,g2,o1,q⟩ k;exact⟨d,d',g1.sound r1 m,g2.sound r2 m,o1,k _ H (.d (.bool _)) M (Kp.refl H) (by simp[aw,au]) m q⟩
theorem eL:OpD K (λ x y H Q=>∃ d d',ml K H d x/\ml K H d' y/\cu d d'=true/\Q (.bl (!PyData.eqv d d')) H) jM:=by intro x y H w w' M Qd Q r1 r2 m ⟨d,d',g1,g2,o1,q⟩ k;exact⟨d,d',g1.sound r1 m,g2.sound r2 m,o1,k _ H (.d (.bool _)) M (Kp.refl H) (by simp[aw,au]) m q⟩
inductive rB(M:MH):W->List W->Prop
 | l {ds:List PyData}:rB M (.d (.list ds)) (ds.map W.d)
 | t {ds:List PyData}:rB M (.d (.tuple ds)) (ds.map W.d)
 | m {a:Addr} {ws:List W} (h:M a=some (.lst ws)):rB M (.m a) ws
theorem rB.sound(g:rB M w ws)(r:aw K H w x)(m:bV K H M):∃ p ys,x=.ref p/\(SqL K H p ys\/SqT K H p ys)/\aT K H ws ys:=by
 cases g with
 | l =>
  simp only[aw,au] at r;obtain⟨a,vs,e,hs,ra⟩:=r;exact⟨a,vs,e,.inl hs.sq,ra.ws⟩
 | t =>
  simp only[aw,au] at r;obtain⟨a,vs,e,hs,ra⟩:=r;exact⟨a,vs,e,.inr hs,ra.ws⟩
 | m h =>
  obtain⟨vs,e,ra⟩:=m _ _ h;exact⟨_,vs,r,.inl (.inl (.inl e)),ra⟩
def jq(ws:List W)(M:MH)(Q:QD):Prop:=∃ w xs,ws=[w]/\rB M w xs/\∀ p,M p=none->Q (.m p) (bG M p (.lst xs))
theorem lC:cX K (λ xs H Q=>∃ p ys,xs=[.ref p]/\(SqL K H p ys\/SqT K H p ys)/\∀ l,H l=none->Q (.ref l) (upd H l (.lst ys))) jq:=by intro vs H ws M Qd Q r m ⟨w,xs,e,g,q⟩ k;subst e;obtain⟨v,e1,r1⟩:=c5 r;obtain⟨p,ys,ev,hs,rs⟩:=g.sound r1 m;subst ev;refine⟨p,ys,e1,hs,λ l hl=>?_⟩;have kp:Kp H (upd H l (.lst ys)):=Kp.new hl;exact k _ _ (.m l) _ kp rfl (m.put (mo:=.lst xs) kp ⟨ys,ax,rs.keep kp⟩) (q l (m.free hl))
def cG(zs:List Str):List W:=zs.map λ z=>.d (.str z)
theorem jB:∀ {zs:List Str} {vs:List V},aT K H (cG zs) vs->vs=zs.map V.str
 | [],_,h=>by cases h;rfl
 | z::zs,_,h=>by
  cases h with
  | cons r t =>
   simp only[aw,au] at r;rw[r,jB t];rfl
theorem mJ(z:Str):∀ zs:List Str,inV (.str z) (zs.map V.str)=decide (z∈zs)
 | []=>rfl
 | y::zs=>by
  have h:inV (.str z) ((y::zs).map V.str)=((y==z) || inV (.str z) (zs.map V.str)):=rfl;rw[h,mJ z zs]
  by_cases e:z=y
  ·subst e;simp
  ·have e':(y==z)=false:=by
    cases q:(y==z) with
    | false=>rfl
    | true=>exact absurd (eq_of_beq q).symm e
   rw[e'];simp[e]
theorem lQ:∀ zs:List Str,(zs.map V.str).all ff=true
 | []=>rfl
 | _::zs=>by simp[ff]
def kX(neg:Bool)(w w':W)(M:MH)(Q:QD):Prop:=∃ z zs,w=.d (.str z)/\rB M w' (cG zs)/\Q (.d (.bool (if neg then !decide (z∈zs) else decide (z∈zs)))) M
theorem jf(neg:Bool):OpD K (rIn K neg) (kX neg):=by intro x y H w w' M Qd Q r1 r2 m ⟨z,zs,ew,g,q⟩ k;subst ew;simp only[aw,au] at r1;subst r1;obtain⟨p,ys,ey,hs,rs⟩:=g.sound r2 m;have e:=jB rs;subst e;refine⟨p,_,ey,hs,rfl,lQ zs,?_⟩;rw[mJ];exact k _ H (.d (.bool _)) M (Kp.refl H) (by simp[aw,au]) m q
inductive mG(M:MH):W->Bool->Prop
 | n:mG M (.d .none) false
 | b {k:Bool}:mG M (.d (.bool k)) k
 | i {k:Int}:mG M (.d (.int k)) (k != 0)
 | s {z:Str} (h:z.length<=sizeLine):mG M (.d (.str z)) ((z.length:Int) != 0)
 | l {ds:List PyData}:mG M (.d (.list ds)) (!ds.isEmpty)
 | t {ds:List PyData}:mG M (.d (.tuple ds)) (!ds.isEmpty)
 | m {a:Addr} {ws:List W} (h:M a=some (.lst ws)):mG M (.m a) (!ws.isEmpty)
 | dk {a:Addr} {kvs:List (Key×W)} (h:M a=some (.dic kvs)):mG M (.m a) (!kvs.isEmpty)
theorem c3{α β:Type}{xs:List α}{ys:List β}(h:xs.length=ys.length):xs.isEmpty=ys.isEmpty:=by
 cases xs<;>cases ys<;>simp at h ⊢
theorem mG.sound{b:Bool}(g:mG M w b)(r:aw K H w x)(m:bV K H M):vO K x H b:=by
 cases g with
 | n=>simp only[aw,au] at r;subst r;rfl
 | b=>simp only[aw,au] at r;subst r;rfl
 | i=>simp only[aw,au] at r;subst r;rfl
 | s h=>simp only[aw,au] at r;subst r;exact⟨h,rfl⟩
 | l =>
  simp only[aw,au] at r;obtain⟨a,vs,e,hs,ra⟩:=r;subst e;exact .inl ⟨vs,hs.sq,by rw[c3 ra.length]⟩
 | t =>
  simp only[aw,au] at r;obtain⟨a,vs,e,hs,ra⟩:=r;subst e;exact .inr (.inl ⟨vs,hs,by rw[c3 ra.length]⟩)
 | m h =>
  obtain⟨vs,e,ra⟩:=m _ _ h;have r':x=.ref _:=r;subst r';exact .inl ⟨vs,.inl (.inl e),by rw[c3 ra.length]⟩
 | dk h =>
  obtain⟨l,e,pr⟩:=m _ _ h;have r':x=.ref _:=r;subst r';exact .inr (.inr ⟨l,e,by rw[c3 (hE pr)]⟩)
def vp(ta:TD)(τ:DS)(M:MH)(Q:Bool->MH->Prop):Prop:=ta τ M λ w M1=>∃ b,mG M1 w b/\Q b M1
theorem mN(ha:PD X a ta)(he:∀ whole:Sem Value,PySem.isTrue a X.env whole=(do let v <- whole;standAt a.pos;holding [v] (truthy v)):=by intro _;rfl):PTd X a (vp ta):=
 sV (oG ha he) λ σ H Q h=>by obtain⟨τ,M,Qd,A,h,k⟩:=h;exact⟨τ,M,_,A,h,λ v H' w M' kp r m ⟨b,g,q⟩=>⟨b,g.sound r m,k b H' M' kp m q⟩⟩
def jT(ws:List W)(M:MH)(Q:QD):Prop:=(∃ i,ws=[.d (.int i)]/\Q (.d (.int i)) M)\/∃ b,ws=[.d (.bool b)]/\Q (.d (.int (if b then 1 else 0))) M
theorem jw:cX K (λ xs H Q=>(∃ i,xs=[.int i]/\Q (.int i) H)\/∃ k,xs=[.bl k]/\Q (.int (if k then 1 else 0)) H) jT:=by
 intro vs H ws M Qd Q r m h k;rcases h with ⟨i,e,q⟩ | ⟨b,e,q⟩
 ·subst e;obtain⟨v,e1,r1⟩:=c5 r;simp only[aw,au] at r1;subst r1;exact .inl ⟨i,e1,k _ H (.d (.int i)) M (Kp.refl H) (by simp[aw,au]) m q⟩
 ·subst e;obtain⟨v,e1,r1⟩:=c5 r;simp only[aw,au] at r1;subst r1;exact .inr ⟨b,e1,k _ H (.d (.int _)) M (Kp.refl H) (by simp[aw,au]) m q⟩
def pE(ws:List W)(M:MH)(Q:QD):Prop:=∃ i j,ws=[.d (.int i),.d (.int j)]/\Q (.d (.int (if j > i then j else i))) M
theorem qP:cX K (λ xs H Q=>∃ i j,xs=[V.int i,V.int j]/\Q (V.int (if j > i then j else i)) H) pE:=by intro vs H ws M Qd Q r m ⟨i,j,e,q⟩ k;subst e;obtain⟨v,v',e1,r1,r2⟩:=kQ r;simp only[aw,au] at r1 r2;subst r1 r2;exact⟨i,j,e1,k _ H (.d (.int _)) M (Kp.refl H) (by simp[aw,au]) m q⟩
end
section
variable {X:Cx}{K:FG}
def vY(K:FG):R2:=λ x y H Q=>∃ l b xs zs,x=.ref l/\y=.ref b/\SqL K H l xs/\SqL K H b zs/\xs.length+zs.length<=sizeLine/\∀ p,H p=none->Q (.ref p) (upd H p (.lst (xs++zs)))
theorem qw:OpR X (binaryOp .Add) (vY X.K):=by
 intro pins s σ H x y v u Q I rx ry h;obtain⟨l,b,xs,zs,rfl,rfl,h1,h2,hz,q⟩:=h;cases rx;cases ry;obtain⟨its,r1,p1,_⟩:=I.list h1;obtain⟨its2,r2,p2,_⟩:=I.list h2;have t1:=p1.isList.typeIs (s:=s);have t2:=p2.isList.typeIs (s:=s);obtain⟨⟨oc,od,odt,osl⟩,n,e1,c1,d1,g1⟩:=p1;obtain⟨⟨oc2,od2,odt2,osl2⟩,n2,e2,c2,d2,g2⟩:=p2;dsimp only at c1 d1 g1 c2 d2 g2;subst c1 d1 g1 c2 d2 g2;have hl1:=r1.length;have hl2:=r2.length;refine wpAny_binaryOp_concat (T:= "list") t1 t2 noFill_list_add seq_list_add ?_;refine call_meets PySem.F.slot_list_add t1 PySem.F.entry_list_add (PySem.F.args_list_add_2 _ _) (list_addW l b its.toArray its2.toArray n n2 none none osl osl2 (by simp only[List.size_toArray];omega)) ⟨e1,e2,?_⟩;have ea:its.toArray++its2.toArray=(its++its2).toArray:=by simp
 rw[ea];exact⟨.ref _,_,I.xV (t':=s.toks) (r1.append r2) (by rw[List.length_append];omega),rfl,q _ I.fresh⟩
inductive pM(M:MH):W->List PyData->Prop
 | d {ds:List PyData}:pM M (.d (.list ds)) ds
 | m {a:Addr} {ds:List PyData} (h:M a=some (.lst (ds.map W.d))):pM M (.m a) ds
theorem pM.sound(g:pM M w ds)(r:aw K H w x)(m:bV K H M):∃ p ys,x=.ref p/\SqL K H p ys/\aJ K H ds ys:=by
 cases g with
 | d =>
  simp only[aw,au] at r;obtain⟨a,vs,e,hs,ra⟩:=r;exact⟨a,vs,e,hs.sq,ra⟩
 | m h =>
  obtain⟨vs,e,ra⟩:=m _ _ h;exact⟨_,vs,r,.inl (.inl e),ra.data⟩
def vk(ta tb:TD)(τ:DS)(M:MH)(Q:QD):Prop:=ta τ M λ w M1=>tb τ M1 λ w' M2=>∃ xs ys,pM M2 w xs/\pM M2 w' ys/\xs.length+ys.length<=sizeLine/\Q (.d (.list (xs++ys))) M2
theorem uZ(ha:PD X a ta)(hb:PD X b tb):PD X (.BinOp a .Add b pos) (vk ta tb):=dg (jJ (tP qw ha hb)) λ σ H Q h=>by obtain⟨τ,M,Qd,A,h,k⟩:=h;refine⟨τ,M,_,A,h,λ x H1 w M1 kp1 r1 m1 q1=>⟨τ,M1,_,A.go kp1 m1,q1,λ y H2 w' M2 kp2 r2 m2 hq68=>?_⟩⟩;obtain⟨xs,ys,g1,g2,hz,q⟩:=hq68;obtain⟨p,vs,e1,s1,ra1⟩:=g1.sound (r1.keep kp2) m2;obtain⟨p',vs',e2,s2,ra2⟩:=g2.sound r2 m2;refine⟨p,p',vs,vs',e1,e2,s1,s2,by rw[ra1.length,ra2.length];exact hz,λ c hc=>?_⟩;exact fJ hc (ra1.append ra2) m2 q (kgo (kgo k kp1) kp2)
theorem gK:∀ {ns:List Int} {vs:List V},aJ K H (ns.map PyData.int) vs->vs=ns.map V.int
 | [],vs,h=>by simpa [aJ] using h
 | n::ns,vs,h=>by simp only[List.map_cons,aJ] at h;obtain⟨v,r,e,h1,h2⟩:=h;simp only[au] at h1;rw[e,h1,gK h2];rfl
end
abbrev vh:=List W->DS->MH->(DS->MH->Prop)->Prop
def xN(K:FG)(g:vh):TGs:=λ vs σ H Q=>∃ ws τ M Qd,aT K H ws vs/\Abs K H σ τ M/\g ws τ M Qd/\∀ σ' H' τ' M',Kp H H'->Abs K H' σ' τ' M'->Qd τ' M'->Q σ' H'
abbrev qS(X:Cx)(es:List Expr)(g:vh):Prop:=PGs X es (xN X.K g)
theorem tw(h:PGs X es g)(k:∀ v σ H Q,g' v σ H Q->g v σ H Q):PGs X es g':=λ pins s σ H v u Q I r q=>h pins s σ H v u Q I r (k v σ H Q q)
def so(ws:List W)(τ:DS)(M:MH)(Q:DS->MH->Prop):Prop:=ws=[]/\Q τ M
def cb(g:TGd)(gs:vh)(ws:List W)(τ:DS)(M:MH)(Q:DS->MH->Prop):Prop:=∃ w r,ws=w::r/\g w τ M λ τ' M'=>gs r τ' M' Q
theorem mW(h1:PGd X e g)(h2:qS X es gs)(hs:(assignEach (e::es) X.env).map (·.2)=assign e X.env::(assignEach es X.env).map (·.2):=by rfl):qS X (e::es) (cb g gs):=
 tw (nK h1 h2 hs) λ vs σ H Q hq70=>by
  obtain⟨ws,τ,M,Qd,r,A,⟨w,wr,ew,q⟩,k⟩:=hq70;subst ew;cases r with
  | cons r1 r2 =>
   refine⟨_,_,rfl,w,τ,M,_,r1,A,q,λ σ1 H1 τ1 M1 kp1 A1 q1=>?_⟩;exact⟨wr,τ1,M1,Qd,aT.keep kp1 r2,A1,q1,λ σ2 H2 τ2 M2 kp2 A2 q2=>k σ2 H2 τ2 M2 (kp1.trans kp2) A2 q2⟩
def gT(n:Nat)(gs:vh)(w:W)(τ:DS)(M:MH)(Q:DS->MH->Prop):Prop:=∃ ds,w=.d (.tuple ds)/\ds.length=n/\gs (ds.map W.d) τ M Q
theorem si(hc:X.calm=true)(h:qS X es gs)(hn:(assignEach es X.env).length=n:=by rfl)(hst:(assignEach es X.env).findIdx? (·.1)=none:=by rfl):PGd X (.Tuple es k pos) (gT n gs):=
 wg (tI hc h hn hst) λ v σ H Q hq71=>by obtain⟨w,τ,M,Qd,r,A,⟨ds,ew,hl,q⟩,kk⟩:=hq71;subst ew;simp only[aw,au] at r;obtain⟨a,vs,ev,hs,ra⟩:=r;exact⟨a,vs,ev,hs,by rw[ra.length];exact hl,ds.map W.d,τ,M,Qd,ra.ws,A,q,kk⟩
def vE(i j:Nat)(t:TAd)(D:Ed)(τ:DS)(M:MH):Prop:=t τ M λ ws M1=>∃ v w,ws=[v,w]/\D.nx ((τ.set i (some v)).set j (some w)) M1
theorem sE{kt k2 pt2}(hc:X.calm=true)(hN:X.N.Nodup)(hi:X.N[i]? =some x)(hj:X.N[j]? =some y)(hij:i≠j)
  (hx:X.env.scope.names.lookup x=some .local)(hy:X.env.scope.names.lookup y=some .local)(ha:PAd X [a,b] t)
  (hw:swappedStores [.Tuple [.Name x px,.Name y py] kt pt] (.Tuple [a,b] k2 pt2) X.env=pure (some [x,y]):=by rfl)
  (hs:swapsWithSole [.Tuple [.Name x px,.Name y py] kt pt] (.Tuple [a,b] k2 pt2) pos.line X.env=pure false:=by rfl) :
  PSd X (.Assign [.Tuple [.Name x px,.Name y py] kt pt] (.Tuple [a,b] k2 pt2) pos) (vE i j t):=kF (uX hc hN hi hj hij hx hy ha hw hs) λ D σ H h=>by
 obtain⟨τ,M,Dd,A,h,k1,_⟩:=h;refine⟨τ,M,_,A,h,λ vs H1 ws M1 kp1 r1 m1 hq72=>?_⟩;obtain⟨v,w,ew,q⟩:=hq72;subst ew;obtain⟨u1,u2,e1,r2,r3⟩:=kQ r1;exact⟨u1,u2,e1,k1 _ H1 _ M1 kp1 (((A.go kp1 m1).set i r2).set j r3) q⟩
structure Mf(K:FG)(C:Addr)(x qual:Str)(st:Stmt)(ps:List Str)(f:Addr)(fd:FuncData):Prop where
 fn:Fun K x qual st f fd
 me:Meth K C x f
 bd:Binds K fd ps []
structure Mi(K:FG)(C:Addr)(qual:Str)(st:Stmt)(ps:List Str)(f:Addr)(fd:FuncData):Prop where
 fn:Fun K "__init__" qual st f fd
 mi:Mk K C f
 bd:Binds K fd ps []
section
variable {K:FG}{C:Addr}
theorem vS{x qual:Str}{st:Stmt}{ps:List Str}{oc:Value}{od an:Option Addr}{osl:Array (Option Value)}{kV doc pm cdv ct:Value}(a:W.findIn K (.ref C) x=some (some (.ref f)))(i:W.isFn K (.ref f)=true)
  (l:K.lookup f=some ⟨oc,od,.func (W.fnOf x qual (aL st) (aG st) (ao st) .none kV doc pm an cdv ct),osl⟩)(c:W.codeIn K cdv qual=true)(k:W.keepIn K (.ref f)=true)
  (b:∀ (kV doc pm:Value) (an:Option Addr) (cdv ct:Value) (us:List Value),us.length=ps.length->bindArgs (W.fnOf x qual (aL st) (aG st) (ao st) .none kV doc pm an cdv ct) ⟨us,[]⟩=pure (ps.zip us)) :
  Mf K C x qual st ps f (W.fnOf x qual (aL st) (aG st) (ao st) .none kV doc pm an cdv ct):=
 have F:=lg (st:=st) l c k
 ⟨F,⟨a,i,k⟩,F.binds b⟩
theorem wK{qual:Str}{st:Stmt}{ps:List Str}{oc:Value}{od an:Option Addr}{osl:Array (Option Value)}{kV doc pm cdv ct:Value}(a:W.findIn K (.ref C) "__init__" = some (some (.ref f)))(i:W.isFn K (.ref f)=true)
  (l:K.lookup f=some ⟨oc,od,.func (W.fnOf "__init__" qual (aL st) (aG st) (ao st) .none kV doc pm an cdv ct),osl⟩)(c:W.codeIn K cdv qual=true)(k:W.keepIn K (.ref f)=true)
  (mk:W.makesIn K C=true)(kc:W.keepIn K (.ref C)=true)
  (b:∀ (kV doc pm:Value) (an:Option Addr) (cdv ct:Value) (us:List Value),us.length=ps.length->bindArgs (W.fnOf "__init__" qual (aL st) (aG st) (ao st) .none kV doc pm an cdv ct) ⟨us,[]⟩=pure (ps.zip us)) :
  Mi K C qual st ps f (W.fnOf "__init__" qual (aL st) (aG st) (ao st) .none kV doc pm an cdv ct):=
 have F:=lg (st:=st) l c k
 ⟨F,⟨mk,a,i,kc⟩,F.binds b⟩
end
theorem pcT(hc:cJ X (.type T) r)(hd:cX X.K r rd)(hg:Gl X x)(hm:X.mg x=none)(hv:bootBuiltins x=some (.type T))(ha:PAd X (e::es) t)(hn:x ≠ "__name__":= by decide)(hdb:ND x:=by decide)
  (h1:dX e=false:=by rfl)(h2:(es.all λ e=>!dX e)=true:=by rfl):PD X (.Call (.Name x p) (e::es) [] pos) (dCB rd t):=mH hc hd hg hm hv ha hn hdb (cj e es X.env h1) (cV pos X.env es h2)
theorem ud:bootBuiltins "max" = some (.builtin "max"):=by decide +kernel
theorem dq  : Jd (PD X (.Dict [] [] pos) fP):=⟨dg ow λ σ H Q ⟨τ,M,Qd,A,h,k⟩ p hp =>
 k (.ref p) _ (.m p) (bG M p (.dic [])) (Kp.new hp) rfl (A.mem.put (mo:=.dic []) (Kp.new hp) ⟨[],ax,.nil⟩) (h p (A.mem.free hp))⟩
theorem jL  : Jd (PD X (.Dict [] [] pos) mw):=⟨dg oZ λ σ H Q ⟨τ,M,Qd,A,h,k⟩ p hp =>
 k (.ref p) _ (.m p) (bG M p (.dct [])) (Kp.new hp) rfl (A.mem.put (mo:=.dct []) (Kp.new hp) ⟨[],ax,.nil⟩) (h p (A.mem.free hp))⟩
theorem ot(hu:X.A.units+1<cLine)(hi:Jd (PD X i ti))(ho:Jd (PD X o td))(hm:behindInMarks .In o=false:=by rfl):Jd (PTd X (.Compare i [.In] [o] pos) (aY (vg ti td))):=⟨D.se (hu:=hu) (hi:=hi.h) (ho:=ho.h) (hm:=hm)⟩
theorem nS(hu:X.A.units+1<cLine)(ho:Jd (PD X o td))(he:Jd (PD X e ti))(m:M1 X o "get" apos e cpos:=by exact⟨rfl,rfl,rfl,rfl⟩):Jd (PD X (.Call (.Attribute o "get" apos) [e] [] cpos) (qx td ti)):=⟨D.rP (hu:=hu) (ho:=ho.h) (he:=he.h) (m:=m)⟩
theorem cR(hu:X.A.units+1<cLine)(ho:Jd (PD X o td))(he:Jd (PD X e ti))(hf:Jd (PD X f tx))(m:M2 X o "get" apos e f cpos:=by exact⟨rfl,rfl,rfl,rfl⟩):Jd (PD X (.Call (.Attribute o "get" apos) [e,f] [] cpos) (gB td ti tx)):=⟨D.sA (hu:=hu) (ho:=ho.h) (he:=he.h) (hf:=hf.h) (m:=m)⟩
theorem jN(ho:Jd (PD X o td))(he:Jd (PD X e ti))(hf:Jd (PD X f tx))(m:M2 X o "setdefault" apos e f cpos:=by exact⟨rfl,rfl,rfl,rfl⟩):Jd (PD X (.Call (.Attribute o "setdefault" apos) [e,f] [] cpos) (iU td ti tx)):=⟨D.k9 (ho:=ho.h) (he:=he.h) (hf:=hf.h) (m:=m)⟩
theorem gJ(hu:X.A.units+1<cLine)(ho:Jd (PD X o td))(hi:Jd (PD X i ti))(hv:Jd (PD X value tv))(hs:swapsWith value (some (.Subscript o i pos')) pos.line X.env=pure false:=by rfl):Jd (PSd X (.Assign [.Subscript o i pos'] value pos) (lL td ti tv)):=⟨D.o7 (hu:=hu) (ho:=ho.h) (hi:=hi.h) (hv:=hv.h) (hs:=hs)⟩
theorem fg(hu:X.A.units+1<cLine)(ho:Jd (PD X o td))(hi:Jd (PAd X es t))(hv:Jd (PD X value tv))(hs:swapsWith value (some (.Subscript o (.Tuple es x1 p2) pos')) pos.line X.env=pure false:=by rfl):Jd (PSd X (.Assign [.Subscript o (.Tuple es x1 p2) pos'] value pos) (d6 td t tv)):=⟨D.lH (hu:=hu) (ho:=ho.h) (hi:=hi.h) (hv:=hv.h) (hs:=hs)⟩
theorem dn(c:Cls X.K C)(n:bZ X.K C fn)(he:Jd (PD X e td))(hb:attributeBase e fn X.env (eval e X.env)=eval e X.env:=by rfl):Jd (PD X (.Attribute e fn pos) (lZ C td fn)):=⟨D.tE (c:=c) (n:=n) (he:=he.h) (hb:=hb)⟩
theorem jH(c:Cls X.K C)(n:bZ X.K C fn)(ha:Jd (PD X o td))(hv:Jd (PD X value tv))(hs:swapsWith value (some (.Attribute o fn pos')) pos.line X.env=pure false:=by rfl):Jd (PSd X (.Assign [.Attribute o fn pos'] value pos) (fS C td tv fn)):=⟨D.qI (c:=c) (n:=n) (ha:=ha.h) (hv:=hv.h) (hs:=hs)⟩
theorem gn(he:Jd (PD X o td))(c:Cls X.K C)(hm:Meth X.K C m f)(F:cL X.prog X.w X.K X.mg X.base CX0 k f fd ps (dY X.K sp))(hr:b9 k X.A)(hb:Binds X.K fd ps [])(ha:Jd (PAd X (e::es) t))(ht:eval (.Call (.Attribute o m apos) (e::es) [] pos) X.env=(do
   let ov <- eval o X.env
   standAt apos.atName
   let (f,first) <- holding [ov] (getMethod ov m pl)
   callWith pos f first (backTo pos (starEach (e::es) X.env)) (backToKw pos (keywordEach [] X.env))):=by rfl)(h1:dX e=false:=by rfl)(h2:(es.all λ e=>!dX e)=true:=by rfl):Jd (PD X (.Call (.Attribute o m apos) (e::es) [] pos) (iB C m sp td t)):=⟨D.qU (he:=he.h) (c:=c) (hm:=hm) (F:=F) (hr:=hr) (hb:=hb) (ha:=ha.h) (ht:=ht) (h1:=h1) (h2:=h2)⟩
theorem kM(Mk':Mk X.K C f)(F:cL X.prog X.w X.K X.mg X.base CX0 k f fd ps (dY X.K sp))(hr:b9 (k+1) X.A)(hg:Gl X x)(hm:X.mg x=some (.ref C))(hb:Binds X.K fd ps [])(hdb:ND x:=by decide):Jd (PD X (.Call (.Name x p) [] [] pos) (u7 C sp aH)):=⟨
 dg (nR (E:=E0) (dvs:=[]) Mk' F hr hg hm hb .nil qo hdb) λ σ H Q h=>by
  obtain⟨τ,M,Qd,A,h,k⟩:=h;intro a dx ha hd hn;obtain⟨kp2,m2⟩:=oa (X:=X) (C:=C) A.mem ha hd hn;exact⟨.m a::[],_,_,.cons rfl .nil,m2,h a (A.mem.free ha),λ v H' w M' kp3 r3 m3 hq65=>by obtain⟨e3,q3⟩:=hq65;subst e3;simp only[aw,au] at r3;exact⟨r3,k _ H' (.m a) M' (kp2.trans kp3) rfl m3 q3⟩⟩⟩
theorem fR(h:Jd (PD X e td)):Jd (PD X e (gx td)):=⟨D.qO (h:=h.h)⟩
theorem da(ho:Jd (PD X o td))(he:Jd (PD X e te))(hbase:attributeBase o "append" X.env (eval o X.env)=eval o X.env:=by rfl)(hfew:((backTo cpos (starEach [e] X.env)).all (λ x=>!x.1)&&(backToKw cpos (keywordEach [] X.env)).all (λ x=>x.1.isSome)
   && decide (([e]:List Expr).length+([]:List Keyword).length+(if ([]:List Keyword).isEmpty then 0 else 1)<30))=true:=by rfl)(hline:(apos.endLine==cpos.line)=true:=by rfl)(hs:dX e=false:=by rfl):Jd (PD X (.Call (.Attribute o "append" apos) [e] [] cpos) (bT td te)):=⟨D.lB (ho:=ho.h) (he:=he.h) (hbase:=hbase) (hfew:=hfew) (hline:=hline) (hs:=hs)⟩
theorem j7(ha:Jd (PD X a ta))(he:∀ whole:Sem Value,PySem.isTrue a X.env whole=(do let v <- whole;standAt a.pos;holding [v] (truthy v)):=by intro _;rfl):Jd (PTd X a (vp ta)):=⟨D.mN (ha:=ha.h) (he:=he)⟩
theorem qq(ha:Jd (PD X a ta))(hb:Jd (PD X b tb)):Jd (PD X (.BinOp a .Add b pos) (vk ta tb)):=⟨D.uZ (ha:=ha.h) (hb:=hb.h)⟩
theorem gU  : Jd (qS X [] so):=⟨tw sy λ vs σ H Q hq69=>by obtain⟨ws,τ,M,Qd,r,A,⟨e,q⟩,k⟩:=hq69;subst e;cases r;exact⟨rfl,k σ H τ M (Kp.refl H) A q⟩⟩
theorem bh(h1:Jd (PGd X e g))(h2:Jd (qS X es gs))(hs:(assignEach (e::es) X.env).map (·.2)=assign e X.env::(assignEach es X.env).map (·.2):=by rfl):Jd (qS X (e::es) (cb g gs)):=⟨D.mW (h1:=h1.h) (h2:=h2.h) (hs:=hs)⟩
theorem jC(hc:X.calm=true)(h:Jd (qS X es gs))(hn:(assignEach es X.env).length=n:=by rfl)(hst:(assignEach es X.env).findIdx? (·.1)=none:=by rfl):Jd (PGd X (.Tuple es k pos) (gT n gs)):=⟨D.si (hc:=hc) (h:=h.h) (hn:=hn) (hst:=hst)⟩
theorem oj{kt k2 pt2}(hc:X.calm=true)(hN:X.N.Nodup)(hi:X.N[i]? =some x)(hj:X.N[j]? =some y)(hij:i≠j)(hx:X.env.scope.names.lookup x=some .local)(hy:X.env.scope.names.lookup y=some .local)(ha:Jd (PAd X [a,b] t))(hw:swappedStores [.Tuple [.Name x px,.Name y py] kt pt] (.Tuple [a,b] k2 pt2) X.env=pure (some [x,y]):=by rfl)(hs:swapsWithSole [.Tuple [.Name x px,.Name y py] kt pt] (.Tuple [a,b] k2 pt2) pos.line X.env=pure false:=by rfl):Jd (PSd X (.Assign [.Tuple [.Name x px,.Name y py] kt pt] (.Tuple [a,b] k2 pt2) pos) (vE i j t)):=⟨D.sE (hc:=hc) (hN:=hN) (hi:=hi) (hj:=hj) (hij:=hij) (hx:=hx) (hy:=hy) (ha:=ha.h) (hw:=hw) (hs:=hs)⟩
theorem uh(hc:cJ X (.type T) r)(hd:cX X.K r rd)(hg:Gl X x)(hm:X.mg x=none)(hv:bootBuiltins x=some (.type T))(ha:Jd (PAd X (e::es) t))(hn:x ≠ "__name__":= by decide)(hdb:ND x:=by decide)(h1:dX e=false:=by rfl)(h2:(es.all λ e=>!dX e)=true:=by rfl):Jd (PD X (.Call (.Name x p) (e::es) [] pos) (dCB rd t)):=⟨D.pcT (hc:=hc) (hd:=hd) (hg:=hg) (hm:=hm) (hv:=hv) (ha:=ha.h) (hn:=hn) (hdb:=hdb) (h1:=h1) (h2:=h2)⟩
@[simp] theorem tT (i j:Int):cu (.int i) (.int j)=true:=rfl
@[simp] theorem uY (x y:Str):cu (.str x) (.str y)=true:=rfl
@[simp] theorem sH (x y:Bool):cu (.bool x) (.bool y)=true:=rfl
@[simp] theorem wN (i j:Int):PyData.eqv (.int i) (.int j)=(i==j):=by rw[PyData.eqv]
@[simp] theorem vw (i j:Str):PyData.eqv (.str i) (.str j)=(i==j):=by rw[PyData.eqv]
@[simp] theorem w9 (a:Addr):sf (.m a)=true:=rfl
@[simp] theorem vd (ds:List PyData):sf (.d (.list ds))=true:=rfl
@[simp] theorem sI (ds:List PyData):sf (.d (.tuple ds))=true:=rfl
@[simp] theorem vn (n:Nat):ixN (n+1) 0=some 0:=by unfold ixN;simp
theorem pB{α:Type}{xs:List α}{i:Int}(h0:0<=i)(h1:i<xs.length):atI xs i=some (xs[i.toNat]'(by omega)):=by
 unfold atI ixN;rw[if_pos h0,if_pos h1];simp
inductive Bag(M:MH) (p:Addr):Prop
 | mk (a b c:Int) (ns:List Int) (e:M p=some (.lst [.d (.int a),.d (.int b),.d (.int c),.d (.list (ns.map PyData.int))])) (z:0<=a/\0<=b/\b<2147483647/\0<=c/\(∀ n∈ns,0<=n)):Bag M p
def bN:SpD:=λ ws M Q=>∃ ns:List Int,ws=[.d (.list (ns.map PyData.int))]/\ns.length<=1000/\∀ p M',M p=none->(∀ q,q≠p->M' q=M q)->Bag M' p->Q (.m p) M'
inductive ip(ws:List W) (M:MH) (Q:QD):Prop
 | mk (p:Addr) (n:Int) (z0:ws=[.m p,.d (.int n)]) (z1:Bag M p) (z2:0<n) (z3:n<1073741824) (z4:∀ (r:Int) M',0<=r->r<n->Bag M' p->(∀ q,q≠p->M' q=M q)->Q (.d (.int r)) M'):ip ws M Q
def ai:SpD:=ip
theorem k7:∀ ws M Q,bN ws M Q->ws.length=1:=by rintro ws M Q ⟨ns,rfl,_⟩;rfl
theorem kz:∀ ws M Q,ai ws M Q->ws.length=2:=by rintro ws M Q ⟨p,n,rfl,_⟩;rfl
theorem qH{n:Nat}{i:Int}(h0:0<=i)(h1:i<n):ixN n i=some i.toNat:=by unfold ixN;rw[if_pos h0,if_pos h1]
theorem pL(hm:M p=some (.lst ws))(h:atI ws i=some x):ixW M (.m p) i=some x:=by simp only[ixW,hm];exact h
theorem dm{c:Bool}{A B:Prop}(h1:c=true->A)(h2:c=false->B):if c=true then A else B:=by
 cases c with
 | true=>rw[if_pos rfl];exact h1 rfl
 | false=>rw[if_neg Bool.false_ne_true];exact h2 rfl
abbrev lG:List Str:=["_law_script"]
def lu:TSd:=
  cA (kP (ae (dC (.d (.int 0))) (ae (dC (.d (.int 1234567891))) (ae (dC (.d (.int 0))) (ae (dLC (e9 (dSl (ag 0) (c6) (gk (dC (.d (.int 63)))))) (gN 0) (pF) (dCB t9 (ae (ag 0) (aH))) 1 []) (aH))))))
abbrev jh:List Str:=["_law_bag_here", "_law_many", "_law_cell", "_law_value", "_law_first", "_law_second"]
def jr:TSd:=
  aV (dIf (aY (dOp w6 (dOp bK (ag 0) (dC (.d (.int 0)))) (dC (.d (.int 0)))))
   (aV (bB (dC (.d (.int 0))) (gN 2)) <|
   aV (dIf (aY (dOp vq (dOp bK (ag 0) (dC (.d (.int 2)))) (dCB gj (ae (dOp bK (ag 0) (dC (.d (.int 3)))) (aH)))))
    (bB (dOp bK (dOp bK (ag 0) (dC (.d (.int 3)))) (dOp bK (ag 0) (dC (.d (.int 2))))) (gN 2))
    (bu)) <|
   aV (o8 (ag 0) (dC (.d (.int 2))) (dC (.d (.int 1))) (λ i j=>i+j)) <|
   aV (dIf (aY (dOp we (ag 2) (dC (.d (.int 1000000000000000000)))))
    (bB (ag 2) (nu (ag 0) (dC (.d (.int 0)))))
    (bu)) <|
   bB (dOp bR (dOp bW (dOp bW (dOp cC (dOp bK (ag 0) (dC (.d (.int 1)))) (dC (.d (.int 48271)))) (dOp bR (ag 2) (dC (.d (.int 2147483647))))) (dOp cC (dC (.d (.int 7919))) (dOp bK (ag 0) (dC (.d (.int 2)))))) (dC (.d (.int 2147483647)))) (nu (ag 0) (dC (.d (.int 1)))))
   (bu)) <|
  aV (dIf (aY (dOp rL (dOp bK (ag 0) (dC (.d (.int 0)))) (dC (.d (.int 0)))))
   (aV (bB (dOp bR (dOp bK (ag 0) (dC (.d (.int 0)))) (ag 1)) (gN 3)) <|
   aV (bB (dOp iO (dOp bK (ag 0) (dC (.d (.int 0)))) (ag 1)) (nu (ag 0) (dC (.d (.int 0))))) <|
   cA (ag 3))
   (bu)) <|
  aV (bB (dOp bR (dOp cC (dOp bW (dOp bK (ag 0) (dC (.d (.int 1)))) (dC (.d (.int 1)))) (dC (.d (.int 39373)))) (dC (.d (.int 1000000007)))) (gN 4)) <|
  aV (bB (dOp bR (dOp cC (dOp bR (dOp cC (ag 4) (ag 4)) (dC (.d (.int 998244353)))) (dC (.d (.int 30011)))) (dC (.d (.int 998244353)))) (gN 5)) <|
  aV (dIf (aY (dOp rL (ag 1) (dC (.d (.int 1000000)))))
   (cA (dOp bR (dOp bW (dOp cC (ag 5) (dC (.d (.int 1000000007)))) (ag 4)) (ag 1)))
   (bu)) <|
  cA (dOp bR (dOp iO (ag 5) (dC (.d (.int 7)))) (ag 1))
abbrev oF(a b c:Int)(ns:List Int):List W:=[.d (.int a),.d (.int b),.d (.int c),.d (.list (ns.map PyData.int))]
theorem dr(hm:M p=some (.lst (oF a b c ns)))(ha:0<=a)(hb:0<=b)(hb2:b<2147483647)(hc:0<=c)(hns:∀ n∈ns,0<=n)(hn:0<n)(hn2:n<1073741824)
  (k:∀ (r:Int) M',0<=r->r<n->Bag M' p->(∀ q,q≠p->M' q=M q)->Q (.d (.int r)) M')(hD:D.rt=Q) :
  (aV (dIf (aY (dOp rL (dOp bK (ag 0) (dC (.d (.int 0)))) (dC (.d (.int 0)))))
   (aV (bB (dOp bR (dOp bK (ag 0) (dC (.d (.int 0)))) (ag 1)) (gN 3)) <|
   aV (bB (dOp iO (dOp bK (ag 0) (dC (.d (.int 0)))) (ag 1)) (nu (ag 0) (dC (.d (.int 0))))) <|
   cA (ag 3))
   (bu)) <|
  aV (bB (dOp bR (dOp cC (dOp bW (dOp bK (ag 0) (dC (.d (.int 1)))) (dC (.d (.int 1)))) (dC (.d (.int 39373)))) (dC (.d (.int 1000000007)))) (gN 4)) <|
  aV (bB (dOp bR (dOp cC (dOp bR (dOp cC (ag 4) (ag 4)) (dC (.d (.int 998244353)))) (dC (.d (.int 30011)))) (dC (.d (.int 998244353)))) (gN 5)) <|
  aV (dIf (aY (dOp rL (ag 1) (dC (.d (.int 1000000)))))
   (cA (dOp bR (dOp bW (dOp cC (ag 5) (dC (.d (.int 1000000007)))) (ag 4)) (ag 1)))
   (bu)) <|
  cA (dOp bR (dOp iO (ag 5) (dC (.d (.int 7)))) (ag 1))) D [some (.m p),some (.d (.int n)),x,none,none,none] M:=by
 subst hD;have i0:ixW M (.m p) 0=some (.d (.int a)):=pL hm rfl;have i1:ixW M (.m p) 1=some (.d (.int b)):=pL hm rfl;have same:Bag M p:=⟨a,b,c,ns,hm,ha,hb,hb2,hc,hns⟩;refine⟨_,rfl,_,_,rfl,i0,rfl,_,_,rfl,rfl,_,rfl,?_⟩;refine dm (λ h=>?_) (λ h=>?_)
 ·have h0:0<a:=of_decide_eq_true h;refine⟨_,rfl,_,_,rfl,i0,rfl,_,rfl,_,_,rfl,rfl,hn,?_⟩;refine⟨_,rfl,_,_,rfl,i0,rfl,_,rfl,_,_,rfl,rfl,⟨hn,hn2⟩,?_⟩;refine⟨_,rfl,_,_,_,_,rfl,rfl,hm,rfl,?_⟩;refine⟨_,rfl,?_⟩;refine k _ _ (Int.emod_nonneg _ (by omega)) (Int.emod_lt_of_pos _ hn) ⟨a / n,b,c,ns,aj,Int.ediv_nonneg ha (by omega),hb,hb2,hc,hns⟩ λ q hq=>ah hq
 ·refine⟨_,rfl,_,_,rfl,i1,rfl,.inl ?_⟩;refine⟨_,_,rfl,rfl,_,_,rfl,rfl,.inl ⟨by omega,by omega⟩,_,_,rfl,rfl,(by decide:(0:Int)<1000000007),?_⟩;have f0:0<=(b+1) * 39373 % 1000000007:=Int.emod_nonneg _ (by decide);have f1:(b+1) * 39373 % 1000000007<1000000007:=Int.emod_lt_of_pos _ (by decide);refine⟨_,rfl,_,rfl,_,_,rfl,rfl,.inl ⟨by omega,by omega⟩,_,_,rfl,rfl,(by decide:(0:Int)<998244353),?_⟩;have g0:0<=(b+1) * 39373 % 1000000007 * ((b+1) * 39373 % 1000000007) % 998244353:=Int.emod_nonneg _ (by decide);have g1:(b+1) * 39373 % 1000000007 * ((b+1) * 39373 % 1000000007) % 998244353<998244353:=Int.emod_lt_of_pos _ (by decide);refine⟨_,_,rfl,rfl,.inl ⟨by omega,by omega⟩,_,_,rfl,rfl,(by decide:(0:Int)<998244353),?_⟩;have e0:0<=(b+1) * 39373 % 1000000007 * ((b+1) * 39373 % 1000000007) % 998244353 * 30011 % 998244353:=Int.emod_nonneg _ (by decide);have e1:(b+1) * 39373 % 1000000007 * ((b+1) * 39373 % 1000000007) % 998244353 * 30011 % 998244353<998244353:=Int.emod_lt_of_pos _ (by decide);refine⟨_,rfl,_,_,rfl,rfl,_,rfl,?_⟩;refine dm (λ h=>?_) (λ h=>?_)
  ·refine⟨_,rfl,_,_,rfl,rfl,.inl ⟨by omega,by omega⟩,_,rfl,.inl ⟨_,_,rfl,rfl,_,rfl,_,_,rfl,rfl,hn,?_⟩⟩;exact k _ _ (Int.emod_nonneg _ (by omega)) (Int.emod_lt_of_pos _ hn) same λ q _=>rfl
  ·refine⟨_,rfl,_,_,rfl,rfl,⟨by decide,by decide⟩,_,rfl,_,_,rfl,rfl,hn,?_⟩;exact k _ _ (Int.emod_nonneg _ (by omega)) (Int.emod_lt_of_pos _ hn) same λ q _=>rfl
theorem fH(hm:M p=some (.lst (oF a b c ns)))(ha:0<=a)(hb:0<=b)(hb2:b<2147483647)(hc:0<=c)(hcell:0<=cell)
  (k:∀ a' b' c' M',0<=a'->0<=b'->b'<2147483647->0<=c'->M' p=some (.lst (oF a' b' c' ns))->(∀ q,q≠p->M' q=M q)->D.nx [some (.m p),some (.d (.int n)),some (.d (.int cell)),none,none,none] M') :
  (aV (o8 (ag 0) (dC (.d (.int 2))) (dC (.d (.int 1))) (λ i j=>i+j)) <|
   aV (dIf (aY (dOp we (ag 2) (dC (.d (.int 1000000000000000000)))))
    (bB (ag 2) (nu (ag 0) (dC (.d (.int 0)))))
    (bu)) <|
   bB (dOp bR (dOp bW (dOp bW (dOp cC (dOp bK (ag 0) (dC (.d (.int 1)))) (dC (.d (.int 48271)))) (dOp bR (ag 2) (dC (.d (.int 2147483647))))) (dOp cC (dC (.d (.int 7919))) (dOp bK (ag 0) (dC (.d (.int 2)))))) (dC (.d (.int 2147483647)))) (nu (ag 0) (dC (.d (.int 1)))))
   D [some (.m p),some (.d (.int n)),some (.d (.int cell)),none,none,none] M:=by
 refine⟨_,rfl,_,_,_,_,_,rfl,rfl,hm,rfl,rfl,_,rfl,rfl,?_⟩;have m1:bG M p (.lst (oF a b (c+1) ns)) p=some (.lst (oF a b (c+1) ns)):=aj;have f1:∀ q,q≠p->bG M p (.lst (oF a b (c+1) ns)) q=M q:=λ q hq=>ah hq;show(aV _ _) D _ (bG M p (.lst (oF a b (c+1) ns)));generalize bG M p (.lst (oF a b (c+1) ns))=M1 at m1 f1;have fin:∀ (a':Int) (M2:MH),0<=a'->M2 p=some (.lst (oF a' b (c+1) ns))->(∀ q,q≠p->M2 q=M q) ->
   bB (dOp bR (dOp bW (dOp bW (dOp cC (dOp bK (ag 0) (dC (.d (.int 1)))) (dC (.d (.int 48271)))) (dOp bR (ag 2) (dC (.d (.int 2147483647))))) (dOp cC (dC (.d (.int 7919))) (dOp bK (ag 0) (dC (.d (.int 2)))))) (dC (.d (.int 2147483647)))) (nu (ag 0) (dC (.d (.int 1)))) D [some (.m p),some (.d (.int n)),some (.d (.int cell)),none,none,none] M2:=by
  intro a' M2 ha' m2 f2;have i1:ixW M2 (.m p) 1=some (.d (.int b)):=pL m2 rfl;have i2:ixW M2 (.m p) 2=some (.d (.int (c+1))):=pL m2 rfl;refine⟨_,rfl,_,_,rfl,i1,rfl,_,_,rfl,rfl,.inl ⟨by omega,by omega⟩,_,rfl,_,_,rfl,rfl,(by decide:(0:Int)<2147483647),.inl ?_⟩;refine⟨_,_,rfl,rfl,_,rfl,_,_,rfl,i2,rfl,_,_,rfl,rfl,.inl ⟨by decide,by decide⟩,.inl ?_⟩;refine⟨_,_,rfl,rfl,_,_,rfl,rfl,(by decide:(0:Int)<2147483647),_,rfl,_,_,_,_,rfl,rfl,m2,rfl,?_⟩;exact k a' _ (c+1) _ ha' (Int.emod_nonneg _ (by decide)) (Int.emod_lt_of_pos _ (by decide)) (by omega) aj λ q hq=>(ah hq).trans (f2 q hq)
 refine⟨_,rfl,_,_,rfl,rfl,_,rfl,?_⟩;refine dm (λ h=>?_) (λ h=>?_)
 ·refine⟨_,rfl,_,rfl,_,_,_,_,rfl,rfl,m1,rfl,?_⟩;exact fin cell _ hcell aj λ q hq=>(ah hq).trans (f1 q hq)
 ·exact fin a M1 ha m1 f1
theorem iC:∀ ws M Q,ai ws M Q->jr {nx:=λ _ M'=>Q (.d .none) M',rt:=Q} (bD jh ws) M:=by
 rintro ws M Q ⟨p,n,rfl,⟨a,b,c,ns,hm,ha,hb,hb2,hc,hns⟩,hn,hn2,k⟩;have i0:ixW M (.m p) 0=some (.d (.int a)):=pL hm rfl;have i2:ixW M (.m p) 2=some (.d (.int c)):=pL hm rfl;have i3:ixW M (.m p) 3=some (.d (.list (ns.map PyData.int))):=pL hm rfl;refine⟨_,rfl,_,_,rfl,i0,rfl,_,_,rfl,rfl,rfl,_,rfl,?_⟩;refine dm (λ h=>?_) (λ h=>?_)
 ·refine⟨_,rfl,_,_,rfl,i2,rfl,_,rfl,_,_,rfl,i3,rfl,_,_,rfl,rfl,rfl,_,_,rfl,rfl,_,rfl,?_⟩;refine dm (λ h=>?_) (λ h=>?_)
  ·have hlt:c<((ns.map PyData.int).length:Nat):=of_decide_eq_true h;have hlt':c.toNat<ns.length:=by rw[List.length_map] at hlt;omega
   have ic:ixW M (.d (.list (ns.map PyData.int))) c=some (.d (.int (ns[c.toNat]'hlt'))):=by simp only[ixW];rw[pB hc hlt];simp
   refine⟨_,rfl,_,_,rfl,i3,rfl,_,rfl,_,_,rfl,i2,rfl,_,_,rfl,ic,rfl,?_⟩;refine fH (cell:=ns[c.toNat]'hlt') hm ha hb hb2 hc (hns _ (List.getElem_mem _)) λ a' b' c' M' h1 h2 h3 h4 h5 h6=>?_;exact dr (x:=some (.d (.int (ns[c.toNat]'hlt')))) h5 h1 h2 h3 h4 hns hn hn2 (λ r M'' r0 r1 bg fr=>k r M'' r0 r1 bg λ q hq=>(fr q hq).trans (h6 q hq)) rfl
  ·refine fH (cell:=0) hm ha hb hb2 hc (Int.le_refl 0) λ a' b' c' M' h1 h2 h3 h4 h5 h6=>?_;exact dr (x:=some (.d (.int 0))) h5 h1 h2 h3 h4 hns hn hn2 (λ r M'' r0 r1 bg fr=>k r M'' r0 r1 bg λ q hq=>(fr q hq).trans (h6 q hq)) rfl
 ·exact dr (x:=none) hm ha hb hb2 hc hns hn hn2 k rfl
theorem lV{ws:List W}{i:Nat}(h:ws[i]? =some w):(ws.take (i+1)).filterMap f=(ws.take i).filterMap f++(f w).toList:=by rw[List.take_add_one,h,List.filterMap_append];cases e:f w<;>simp[e]
theorem qD{tt:TTd}{te:TD}{fr:List Nat}{τ:DS}{M:MH}{Q:List PyData->MH->Prop}{ws:List W}(f:W->Option PyData)(hl:ws.length<=sizeLine)
  (step:∀ w∈ws,∀ P':Option PyData->Prop,P' (f w)->tt (some w::fr.map λ j=>(τ[j]?).getD none) M λ b M3=>if b=true then te (some w::fr.map λ j=>(τ[j]?).getD none) M3 λ y M4=>∃ d,y=.d d/\M4=M/\P' (some d) else M3=M/\P' none)
  (q:Q (ws.filterMap f) M):∃ P:Nat->List PyData->DS->MH->Prop,P 0 [] (rO 1 fr τ) M /\
   (∀ i w acc τ M,ws[i]? =some w->P i acc τ M->acc.length<sizeLine/\gN 0 w τ M λ τ2 M2=>tt τ2 M2 λ b M3=>if b=true then te τ2 M3 λ y M4=>∃ d,y=.d d/\P (i+1) (acc++[d]) τ2 M4 else P (i+1) acc τ2 M3) /\
   ∀ acc τ M,P ws.length acc τ M->Q acc M:=by
 let Pk:Nat->List PyData->DS->Prop:=λ i acc τ'=>i<=ws.length/\acc=(ws.take i).filterMap f/\∃ x,τ'=x::fr.map λ j=>(τ[j]?).getD none
 refine⟨λ i acc τ' M'=>M'=M/\Pk i acc τ',⟨rfl,Nat.zero_le _,rfl,none,rfl⟩,λ i w acc τ' M' hw hp=>?_,λ acc τ' M' hp=>?_⟩
 ·obtain⟨rfl,hi,rfl,x,rfl⟩:=hp;have hlt:i<ws.length:=(List.getElem?_eq_some_iff.mp hw).1;refine⟨?_,step w (List.mem_of_getElem? hw) (λ o=>match o with
   | some d=>Pk (i+1) ((ws.take i).filterMap f++[d]) (some w::fr.map λ j=>(τ[j]?).getD none)
   | none=>Pk (i+1) ((ws.take i).filterMap f) (some w::fr.map λ j=>(τ[j]?).getD none)) ?_⟩
  ·have h1:=List.length_filterMap_le f (ws.take i);rw[List.length_take] at h1;omega
  ·cases e:f w with
   | some d=>exact⟨hlt,by rw[lV hw,e];rfl,_,rfl⟩
   | none=>exact⟨hlt,by rw[lV hw,e];simp,_,rfl⟩
 ·obtain⟨rfl,hi,rfl,x,rfl⟩:=hp;rw[List.take_of_length_le (Nat.le_refl _)];exact q
theorem ve{tt:TTd}{te:TD}{fr:List Nat}{τ:DS}{M:MH}{Q:List PyData->MH->Prop}{ws:List W}(J:MH->Prop)(G:PyData->Prop)(hl:ws.length<=sizeLine)(j0:J M)
  (step:∀ w∈ws,∀ M',J M'->∀ P':Option PyData->MH->Prop,(∀ d M'',G d->J M''->P' (some d) M'')->(∀ M'',J M''->P' none M'') ->
   tt (some w::fr.map λ j=>(τ[j]?).getD none) M' λ b M3=>if b=true then te (some w::fr.map λ j=>(τ[j]?).getD none) M3 λ y M4=>∃ d,y=.d d/\P' (some d) M4 else P' none M3)
  (q:∀ acc M',J M'->(∀ d∈acc,G d)->acc.length<=ws.length->Q acc M'):∃ P:Nat->List PyData->DS->MH->Prop,P 0 [] (rO 1 fr τ) M /\
   (∀ i w acc τ M,ws[i]? =some w->P i acc τ M->acc.length<sizeLine/\gN 0 w τ M λ τ2 M2=>tt τ2 M2 λ b M3=>if b=true then te τ2 M3 λ y M4=>∃ d,y=.d d/\P (i+1) (acc++[d]) τ2 M4 else P (i+1) acc τ2 M3) /\
   ∀ acc τ M,P ws.length acc τ M->Q acc M:=by
 let Pk:Nat->List PyData->DS->MH->Prop:=λ i acc τ' M'=>acc.length<=i/\(∀ d∈acc,G d)/\J M'/\∃ x,τ'=x::fr.map λ j=>(τ[j]?).getD none
 refine⟨Pk,⟨Nat.le_refl _,λ d h=>(nomatch h),j0,none,rfl⟩,λ i w acc τ' M' hw hp=>?_,λ acc τ' M' hp=>?_⟩
 ·obtain⟨hi,hg,hj,x,rfl⟩:=hp;have hlt:i<ws.length:=(List.getElem?_eq_some_iff.mp hw).1;refine⟨by omega,step w (List.mem_of_getElem? hw) M' hj (λ o M2=>match o with
   | some d=>Pk (i+1) (acc++[d]) (some w::fr.map λ j=>(τ[j]?).getD none) M2
   | none=>Pk (i+1) acc (some w::fr.map λ j=>(τ[j]?).getD none) M2) (λ d M2 gd j2=>?_) λ M2 j2=>?_⟩
  ·refine⟨by rw[List.length_append,List.length_singleton];omega,λ d' hd'=>?_,j2,_,rfl⟩;rcases List.mem_append.mp hd' with z | z
   ·exact hg d' z
   ·rw[List.mem_singleton.mp z];exact gd
  ·exact⟨by omega,hg,j2,_,rfl⟩
 ·obtain⟨hi,hg,hj,x,rfl⟩:=hp;exact q acc M' hj hg hi
theorem uG{α:Type}(g:α->W)(f:W->Option PyData)(h:α->PyData)(e:∀ a,f (g a)=some (h a))(l:List α):(l.map g).filterMap f=l.map h:=by
 induction l with
 | nil=>rfl
 | cons a l ih=>rw[List.map_cons,List.filterMap_cons,e,ih];rfl
theorem kh:∀ ws M Q,bN ws M Q->lu {nx:=λ _ M'=>Q (.d .none) M',rt:=Q} (bD lG ws) M:=by
 rintro ws M Q ⟨ns,rfl,hl,k⟩;refine⟨_,rfl,_,rfl,_,rfl,rfl,_,rfl,?_⟩;have ec:cutD (ns.map PyData.int) none (some 63)=(cutD ns none (some 63)).map PyData.int:=by simp only[cutD,List.length_map,List.map_take,List.map_drop]
 have hlen:(cutD ns none (some 63)).length<=ns.length:=by simp only[cutD,List.length_take,List.length_drop];omega
 have h1000:(1000:Nat)<=sizeLine:=by rw[sizeLine_eq];decide
 dsimp only;refine qD (λ w=>match w with
  | .d (.int n)=>some (.int (if n<0 then -n else n))
  | _=>none) ?hl (λ w hw P' hp=>?_) ?_
 case hl=>rw[List.length_map,ec,List.length_map];omega
 ·rw[ec,List.map_map] at hw;obtain⟨n,_,rfl⟩:=List.mem_map.mp hw;exact⟨_,rfl,_,rfl,_,rfl,rfl,hp⟩
 ·have e2:(List.map W.d (cutD (ns.map PyData.int) none (some 63))).filterMap (λ w=>match w with
    | .d (.int n)=>some (PyData.int (if n<0 then -n else n))
    | _=>none)=((cutD ns none (some 63)).map λ n=>if n<0 then -n else n).map PyData.int:=by
   rw[ec,List.map_map,uG (W.d ∘ PyData.int) _ (λ n=>PyData.int (if n<0 then -n else n)) (λ n=>rfl),List.map_map];rfl
  rw[e2];refine⟨by simp[sizeLine_eq],λ p hp=>k p _ hp (λ q hq=>ah hq) ⟨0,1234567891,0,_,aj,Int.le_refl 0,by decide,by decide,Int.le_refl 0,λ n hn=>?_⟩⟩;obtain⟨m,_,rfl⟩:=List.mem_map.mp hn
  split<;>omega
theorem lb{K:FG}{H:Hp}{a:Addr}{ns:List Int}{sp:SpD}(hl:ns.length<=63)(hO:L2.vo H)(hS:L2.SqL K H a (ns.map V.int))(h:∀ ns:List Int,ns.length<=63->sp [.d (.list (ns.map PyData.int))] (λ _=>none) (λ w _=>w=.d (.bool true))) :
  dY K sp [.ref a] H (λ v _=>v=.bl true) λ _ _ _=>False:=by
 refine⟨[.d (.list (ns.map PyData.int))],λ _=>none,_,.cons ?_ .nil,λ a o z=>(nomatch z),h ns hl,λ v H' w M' kp r m q=>?_⟩
 ·simp only[aw,au];refine⟨a,_,rfl,?_,aJ.ints ns⟩;rcases hS with (h | h) | h
  ·rcases hO a with z | ⟨ob,xs,z⟩
   ·rw[h] at z;cases z
   ·rw[h] at z;cases z
  ·exact .inl h
  ·exact .inr h
 ·subst q;simp only[aw,au] at r;exact r
theorem s16:(1000000:Nat)<=sizeLine:=by rw[sizeLine_eq];decide
def Asc(z:Str):Prop:=∀ c∈z.cps.toList,c<128
theorem str_len(z:Str):z.cps.toList.length=z.length:=by simp[Str.length]
theorem su(hx:Asc x)(hy:Asc y):Asc (x++y):=by
 intro c hc;have e:(x++y).cps.toList=x.cps.toList++y.cps.toList:=by show(x.cps++y.cps).toList=_;simp
 rw[e] at hc;rcases List.mem_append.mp hc with h | h
 ·exact hx c h
 ·exact hy c h
theorem len_app(x y:Str):(x++y).length=x.length+y.length:=by show(x.cps++y.cps).size=_;simp[Str.length]
theorem nh(h:Asc z)(lo hi:Option Int):Asc (Txt.slice z lo hi):=by
 unfold Txt.slice
 split
 ·exact h
 ·intro c hc;have hc':c∈(Builtin.Str.strSliceIndices lo hi 1 z.length).filterMap (z.cps[·]?):=by simpa using hc
  obtain⟨i,_,e⟩:=List.mem_filterMap.mp hc';exact h c (by simpa using Array.mem_of_getElem? e)
theorem g8(g:Array Nat)(hg:∀ c∈g.toList,c<128):∀ (l:List Str) (acc:Array Nat),(∀ c∈acc.toList,c<128)->(∀ p∈l,Asc p) ->
  (∀ c∈(l.foldl (λ acc p=>acc++g++p.cps) acc).toList,c<128)/\(l.foldl (λ acc p=>acc++g++p.cps) acc).size=acc.size+(l.map λ p=>g.size+p.length).sum
 | [],acc,ha,_=>⟨ha,by simp⟩
 | p::l,acc,ha,hl=>by
  have h:=g8 g hg l (acc++g++p.cps) (λ c hc=>by
   simp only[Array.toList_append,List.mem_append] at hc;rcases hc with (h | h) | h
   ·exact ha c h
   ·exact hg c h
   ·exact hl p List.mem_cons_self c h) λ q hq=>hl q (List.mem_cons_of_mem _ hq)
  refine⟨h.1,?_⟩;rw[List.foldl_cons,h.2];simp only[Array.size_append,List.map_cons,List.sum_cons,Str.length];omega
theorem oT(hs:Asc sep)(hy:∀ y∈ys,Asc y):Asc (Txt.join sep ys)/\(Txt.join sep ys).length<=(ys.map λ p=>sep.length+p.length).sum:=by
 cases ys with
 | nil=>exact⟨λ c hc=>by simp[Txt.join,Builtin.Str.glued,Str.empty] at hc,by simp[Txt.join,Builtin.Str.glued,Str.empty,Str.length]⟩
 | cons y ys =>
  have h:=g8 sep.cps hs ys y.cps (hy y List.mem_cons_self) λ p hp=>hy p (List.mem_cons_of_mem _ hp);refine⟨h.1,?_⟩;show(ys.foldl (λ acc p=>acc++sep.cps++p.cps) y.cps).size<=_;rw[h.2];simp only[List.map_cons,List.sum_cons,Str.length];omega
theorem kR{l:List Str}{n:Nat}(h:∀ y∈l,y.length<=n)(k:Nat):(l.map λ p=>k+p.length).sum<=l.length * (k+n):=by
 induction l with
 | nil=>simp
 | cons y l ih =>
  have h1:=h y List.mem_cons_self;have h2:=ih λ z hz=>h z (List.mem_cons_of_mem _ hz);simp only[List.map_cons,List.sum_cons,List.length_cons,Nat.add_mul,Nat.one_mul];omega
def Tx(n:Nat)(d:PyData):Prop:=∃ z:Str,d=.str z/\z.length<=n/\Asc z
theorem kG:∀ {ds:List PyData},(∀ d∈ds,Tx n d)->∃ ys:List Str,ds=ys.map PyData.str/\∀ y∈ys,y.length<=n/\Asc y
 | [],_=>⟨[],rfl,λ y h=>(nomatch h)⟩
 | d::ds,h=>by
  obtain⟨z,e,h1,h2⟩:=h d List.mem_cons_self;obtain⟨ys,e2,h3⟩:=kG λ d' hd'=>h d' (List.mem_cons_of_mem _ hd');refine⟨z::ys,by rw[e,e2];rfl,λ y hy=>?_⟩;rcases List.mem_cons.mp hy with rfl | hy
  ·exact⟨h1,h2⟩
  ·exact h3 y hy
theorem d4(h:z.cps.all (·<128)=true):Asc z:=by
 intro c hc;have:=Array.all_eq_true_iff_forall_mem.mp h c (by simpa using hc)
 simpa using this
theorem nc(h:Asc z)(hc:c∈z.cps.toList):Asc ⟨#[c]⟩:=by
 intro d hd;have:d=c:=by simpa using hd
 rw[this];exact h c hc
theorem eG(h0:0<=r)(h1:r<z.length):∃ c,ixW M (.d (.str z)) r=some (.d (.str ⟨#[c]⟩))/\c∈z.cps.toList:=by
 have hl:r<(z.cps.toList.length:Nat):=by rw[str_len];exact h1
 refine⟨z.cps.toList[r.toNat]'(by omega),?_,List.getElem_mem _⟩;simp only[ixW];rw[pB h0 hl];rfl
abbrev iw:Str:= "abcdefghijklmnopqrstuvwxyz"
theorem jt:iw.length=26:=by decide +kernel
theorem pX:Asc iw:=d4 (by decide +kernel)
theorem few(h:n<=1000):n<=sizeLine:=by have:=s16;omega
section
variable {K:FG}{H:Hp}{a:Addr}{o:Obj}{l:List (Key×V)}
end
section
variable {X:Cx}{K:FG}{tg o:Expr}{apos cpos:Pos}{td:TD}
end
theorem kN:bootBuiltins "sorted" = some (.builtin "sorted"):=by decide +kernel
section
variable {X:Cx}{K:FG}
end
section
variable {X:Cx}{K:FG}
end
end D
namespace S
open PySem PySem.W PyProof.Rows
end S
namespace D
open L2 S
section
variable {K:FG}
end
section
variable {X:Cx}{K:FG}
end
section
variable {X:Cx}{K:FG}
end
theorem uf:bootBuiltins "min" = some (.builtin "min"):=by decide +kernel
section
variable {X:Cx}{K:FG}
def qa(ws:List W)(M:MH)(Q:QD):Prop:=∃ i j,ws=[.d (.int i),.d (.int j)]/\Q (.d (.int (if j<i then j else i))) M
theorem rn:cX K (λ xs H Q=>∃ i j,xs=[V.int i,V.int j]/\Q (V.int (if j<i then j else i)) H) qa:=by intro vs H ws M Qd Q r m ⟨i,j,e,q⟩ k;subst e;obtain⟨v,v',e1,r1,r2⟩:=kQ r;simp only[aw,au] at r1 r2;subst r1 r2;exact⟨i,j,e1,k _ H (.d (.int _)) M (Kp.refl H) (by simp[aw,au]) m q⟩
end
end D
namespace Rc
open L2 D
section
variable {α:Type}(nm:α->Str)
variable {nm}
end
theorem jx(x y:Str):PyData.eqv (.str x) (.str y)=decide (x=y):=by
 rw[<- iS]
 by_cases e:x=y
 ·subst e;simp
 ·simp[e]
theorem d0(x y:Int):PyData.eqv (.int x) (.int y)=decide (x=y):=by
 rw[PyData.eqv]
 by_cases e:x=y
 ·subst e;simp
 ·simp[e]
end Rc
namespace Stc
open L2 D Rc
abbrev js:List Str:=["_law_bag_here", "_law_letters"]
def jb(ai:SpD):TSd:=
  aV (bB (dC (.d (.str "abcdefghijklmnopqrstuvwxyz"))) (gN 1)) <|
  cA (dMS fk (dC (.d (.str ""))) (ae (dLC (iD (ae (dOp bW (dC (.d (.int 1))) (bj ai (ae (ag 0) (ae (dC (.d (.int 8))) (aH))))) (aH))) (gN 0) (pF) (dOp bK (ag 1) (bj ai (ae (ag 2) (ae (dC (.d (.int 26))) (aH))))) 1 [1,0]) aH))
abbrev fG:List Str:=["_law_bag_here", "_law_word_here", "_law_many", "_law_near", "_law_turn", "_law_found", "_law_k", "_law_other"]
def fh(br ai:SpD):TSd:=
  aV (bB (bj br (ae (ag 0) (aH))) (gN 1)) <|
  aV (bB (dOp bW (dC (.d (.int 2))) (bj ai (ae (ag 0) (ae (dC (.d (.int 3))) (aH))))) (gN 2)) <|
  aV (bB (bj ai (ae (ag 0) (ae (dC (.d (.int 2))) (aH)))) (gN 3)) <|
  aV (bB (bj ai (ae (ag 0) (ae (dC (.d (.int 26))) (aH)))) (gN 4)) <|
  aV (bB (kP (ae (ag 1) (aH))) (gN 5)) <|
  aV (sL (iD (ae (ag 2) (aH))) (gN 6)
   (aV (bB (dOp bW (dSl (ag 1) (c6) (gk (dUn oi (dC (.d (.int 1)))))) (dOp bK (dC (.d (.str "abcdefghijklmnopqrstuvwxyz"))) (dOp bR (dOp bW (ag 4) (ag 6)) (dC (.d (.int 26)))))) (gN 7)) <|
   aV (dIf (aY (dOp eD (ag 3) (dC (.d (.int 0)))))
    (bB (bj br (ae (ag 0) (aH))) (gN 7))
    (bu)) <|
   dIf (aY (dOp (kX true) (ag 7) (ag 5)))
    (fK (bT (ag 5) (ag 7)))
    (bu))) <|
  aV (dIf (aY (dOp eD (dCB gj (ae (ag 5) (aH))) (dC (.d (.int 1)))))
   (fK (bT (ag 5) (dOp bK (gv (ae (dC (.d (.str "store"))) (ae (dC (.d (.str "shelf"))) (aH)))) (dCB jT (ae (dOp eD (ag 1) (dC (.d (.str "store")))) (aH))))))
   (bu)) <|
  cA (gx (ag 5))
def Wd(z:Str):Prop:=z.length<=9/\Asc z
def br:SpD:=λ ws M Q=>∃ p:Addr,ws=[.m p]/\Bag M p/\∀ (z:Str) M',(z.length<=8/\Asc z)->Bag M' p->(∀ q,q≠p->M' q=M q)->Q (.d (.str z)) M'
theorem jV:∀ ws M Q,br ws M Q->ws.length=1:=by rintro ws M Q ⟨p,rfl,_⟩;rfl
theorem drawn{z:Str}(hz:Asc z)(hz0:0<z.length)(hz1:z.length<=1000){p:Addr}{M M1:MH}{ws:List W}{fr:List Nat}{τ:DS}{te:TD}{k:Nat}{Q:List PyData->MH->Prop}(hk:ws.length=k)(hs:k<=1000)(b1:Bag M1 p)(f1:∀ q,q≠p->M1 q=M q)
  (hte:∀ w∈ws,∀ (M':MH),Bag M' p->∀ R:W->MH->Prop,(∀ (r:Int) M'' (c:Nat),c∈z.cps.toList->Bag M'' p->(∀ q,q≠p->M'' q=M' q)->R (.d (.str ⟨#[c]⟩)) M'')->te (some w::fr.map λ j=>(τ[j]?).getD none) M' R)
  (q:∀ (ys:List Str) M',(∀ y∈ys,y.length<=1/\Asc y)->ys.length<=k->Bag M' p->(∀ q,q≠p->M' q=M q)->Q (ys.map PyData.str) M') :
  ∃ P:Nat->List PyData->DS->MH->Prop,P 0 [] (rO 1 fr τ) M1 /\
   (∀ i w acc τ M,ws[i]? =some w->P i acc τ M->acc.length<sizeLine/\gN 0 w τ M λ τ2 M2=>pF τ2 M2 λ b M3=>if b=true then te τ2 M3 λ y M4=>∃ d,y=.d d/\P (i+1) (acc++[d]) τ2 M4 else P (i+1) acc τ2 M3) /\
   ∀ acc τ M,P ws.length acc τ M->Q acc M:=by
 refine ve (λ M'=>Bag M' p/\∀ q,q≠p->M' q=M q) (Tx 1) (by have:=s16;omega) ⟨b1,f1⟩ (λ w hw M' hj P' hp _=>?_) (λ acc M2 hj hg hlen=>?_)
 ·exact hte w hw M' hj.1 _ λ r M'' c hc b f=>⟨_,rfl,hp _ _ ⟨_,rfl,Nat.le_refl _,nc hz hc⟩ ⟨b,λ q hq=>(f q hq).trans (hj.2 q hq)⟩⟩
 ·obtain⟨ys,e,hy⟩:=kG hg;subst e;exact q ys M2 hy (by simpa [hk] using hlen) hj.1 hj.2
theorem s9{ys:List Str}(hy:∀ y∈ys,y.length<=1/\Asc y):Asc (Txt.join "" ys)/\(Txt.join "" ys).length<=ys.length:=by
 have hj1:=oT (sep:=("" : Str)) (d4 (by decide +kernel)) λ y hy'=>(hy y hy').2;have e0:("" : Str).length=0:=by decide +kernel
 have hsum:=kR (λ y hy'=>(hy y hy').1) 0;simp only[Nat.zero_add,e0] at hsum hj1;exact⟨hj1.1,by omega⟩
theorem iK:∀ ws M Q,br ws M Q->jb ai {nx:=λ _ M'=>Q (.d .none) M',rt:=Q} (bD js ws) M:=by
 rintro ws M Q ⟨p,rfl,hb,k⟩;refine⟨⟨_,rfl⟩,_,rfl,p,8,rfl,hb,by decide,by decide,λ n M1 n0 n1 b1 f1=>?_⟩;refine .inl ⟨_,_,rfl,rfl,1+n,rfl,by omega,by omega,?_⟩;dsimp only;refine drawn (z:=iw) pX (by rw[jt];decide) (by rw[jt];decide) (k:=(1+n).toNat) ?_ (by omega) b1 f1 (λ w hw M' b R h=>?_) (λ ys M' hy hlen b f=>?_)
 ·simp only[dv,List.length_map,List.length_range]
 ·refine⟨_,rfl,_,rfl,p,26,rfl,b,by decide,by decide,λ r M3 r0 r1 b3 f3=>?_⟩;obtain⟨c,hc,hm⟩:=eG (M:=M3) (z:=iw) r0 (by rw[jt];exact r1);exact⟨r,_,rfl,hc,by decide +kernel,h r M3 c hm b3 f3⟩
 ·obtain⟨ha,hl⟩:=s9 hy;have e0:("" : Str).length=0:=by decide +kernel
  have hsum:=kR (λ y hy'=>(hy y hy').1) 0;refine⟨"",ys,rfl,rfl,?_,k _ M' ⟨by omega,ha⟩ b f⟩;rw[e0];simp only[Nat.mul_zero,Nat.zero_add] at hsum ⊢;have:=s16;omega
theorem tH(h0:0<=r)(h1:r<ds.length):∃ d,ixW M (.d (.list ds)) r=some (.d d)/\d∈ds:=by
 have hn:r.toNat<ds.length:=by omega
 refine⟨ds[r.toNat],?_,List.getElem_mem hn⟩;simp only[ixW,atI,qH h0 h1,Option.bind_some,List.getElem?_eq_getElem hn,Option.map_some]
theorem gQ{ns:List Int}{r:Int}(h0:0<=r)(h1:r<ns.length):∃ i,ixW M (.d (.list (ns.map PyData.int))) r=some (.d (.int i))/\i∈ns:=by obtain⟨d,e,hd⟩:=tH (M:=M) (ds:=ns.map PyData.int) h0 (by simpa using h1);obtain⟨i,hi,rfl⟩:=List.mem_map.mp hd;exact⟨i,e,hi⟩
theorem mI{zs:List Str}{r:Int}(h0:0<=r)(h1:r<zs.length):∃ z,ixW M (.d (.list (zs.map PyData.str))) r=some (.d (.str z))/\z∈zs:=by obtain⟨d,e,hd⟩:=tH (M:=M) (ds:=zs.map PyData.str) h0 (by simpa using h1);obtain⟨i,hi,rfl⟩:=List.mem_map.mp hd;exact⟨i,e,hi⟩
def Sts(zs:List Str):Prop:=2<=zs.length/\zs.length<=10/\(∀ z∈zs,Wd z)/\zs.Nodup
def j1(zs:List Str):PyData:=.list (zs.map PyData.str)
theorem wC(h:M a=some (.lst ws)):nT M (.m a)=some ws.length:=by simp only[nT,h]
theorem pW(h:Bag M p):∃ o,M p=some o:=by obtain⟨a,b,c,ns,e,_⟩:=h;exact⟨_,e⟩
theorem bE(h:Bag M p)(e:M' p=M p):Bag M' p:=by obtain⟨a,b,c,ns,h1,h2⟩:=h;exact⟨a,b,c,ns,e.trans h1,h2⟩
def bb:SpD:=λ ws M Q=>∃ p:Addr,ws=[.m p]/\Bag M p/\∀ (zs:List Str) M',Sts zs->Bag M' p->(∀ q,q≠p->M' q=M q)->Q (.d (j1 zs)) M'
theorem gC:∀ ws M Q,bb ws M Q->ws.length=1:=by rintro ws M Q ⟨p,rfl,_⟩;rfl
theorem j5(zs:List Str)(z:Str):cG zs++[.d (.str z)]=cG (zs++[z]):=by simp[cG]
theorem gq:∀ ws M Q,bb ws M Q->fh br ai {nx:=λ _ M'=>Q (.d .none) M',rt:=Q} (bD fG ws) M:=by
 rintro ws M Q ⟨p,rfl,hb,k⟩;have s16':=s16;refine⟨_,rfl,p,rfl,hb,λ z0 M1 hz0 b1 f1=>?_⟩;refine⟨_,rfl,p,3,rfl,b1,by decide,by decide,λ n2 M2 n20 n21 b2 f2=>.inl ⟨_,_,rfl,rfl,?_⟩⟩;refine⟨_,rfl,p,2,rfl,b2,by decide,by decide,λ near M3 r0 r1 b3 f3=>?_⟩;refine⟨_,rfl,p,26,rfl,b3,by decide,by decide,λ turn M4 t0 t1 b4 f4=>?_⟩;refine⟨_,rfl,few (by simp),λ a ha=>?_⟩;obtain⟨ob,hob⟩:=pW b4;have pa:p≠a:=λ e=>by rw[e,ha] at hob;cases hob
 have fr4:∀ q,q≠p->M4 q=M q:=λ q hq=>by rw[f4 q hq,f3 q hq,f2 q hq,f1 q hq]
 have haM:M a=none:=by rw[<- fr4 a pa.symm];exact ha
 refine⟨_,rfl,2+n2,rfl,by omega,by omega,?_⟩;dsimp only
 let I:MH->List Str->Prop:=λ M' zs=>M' a=some (.lst (cG zs))/\Bag M' p/\(∀ q,q≠p->q≠a->M' q=M q)/\zs.head? =some z0/\(∀ z∈zs,Wd z)/\zs.Nodup
 refine⟨λ i τ M'=>∃ zs x6 x7,I M' zs/\zs.length<=i+1/\τ=[some (.m p),some (.d (.str z0)),some (.d (.int (2+n2))),some (.d (.int near)),some (.d (.int turn)),some (.m a),x6,x7],?_,?_,?_⟩
 ·refine⟨[z0],_,_,⟨aj,bE b4 (ah pa),λ q h1 h2=>by rw[ah h2];exact fr4 q h1,rfl,λ z hz=>?_,by simp⟩,by simp,rfl⟩;simp at hz;rw[hz];exact⟨by have:=hz0.1;omega,hz0.2⟩
 ·rintro i w τ M' hw ⟨zs,x6,x7,⟨h1,h2,h3,h4,h5,h6⟩,hlen,rfl⟩;obtain⟨j,rfl,hj⟩:∃ j:Nat,w=.d (.int (0+(j:Int)))/\j<(2+n2).toNat:=by have hm:=List.mem_of_getElem? hw;simp only[dv,List.mem_map,List.mem_range] at hm;obtain⟨j,hj,e⟩:=hm;exact⟨j,e.symm,hj⟩
  have hi:i<(2+n2).toNat:=by
   have:=(List.getElem?_eq_some_iff.mp hw).1
   simpa [dv] using this
  have hfit:sf (.d (.str z0))=true:=decide_eq_true (by have:=hz0.1;omega);have rest:∀ (z:Str) (M5:MH),Wd z->M5 a=some (.lst (cG zs))->Bag M5 p->(∀ q,q≠p->q≠a->M5 q=M q) ->
    dIf (aY (dOp (kX true) (ag 7) (ag 5))) (fK (bT (ag 5) (ag 7))) (bu)
     {nx:=λ τ M'=>∃ zs x6 x7,I M' zs/\zs.length<=i+1+1/\τ=[some (.m p),some (.d (.str z0)),some (.d (.int (2+n2))),some (.d (.int near)),some (.d (.int turn)),some (.m a),x6,x7],rt:=Q,
      bk:=λ τ M'=>(aV (dIf (aY (dOp eD (dCB gj (ae (ag 5) (aH))) (dC (.d (.int 1)))))
       (fK (bT (ag 5) (dOp bK (gv (ae (dC (.d (.str "store"))) (ae (dC (.d (.str "shelf"))) (aH)))) (dCB jT (ae (dOp eD (ag 1) (dC (.d (.str "store")))) (aH))))))
       (bu)) <| cA (gx (ag 5))) {nx:=λ _ M'=>Q (.d .none) M',rt:=Q} τ M',
      ct:=λ τ M'=>∃ zs x6 x7,I M' zs/\zs.length<=i+1+1/\τ=[some (.m p),some (.d (.str z0)),some (.d (.int (2+n2))),some (.d (.int near)),some (.d (.int turn)),some (.m a),x6,x7]}
     [some (.m p),some (.d (.str z0)),some (.d (.int (2+n2))),some (.d (.int near)),some (.d (.int turn)),some (.m a),some (.d (.int (0+(j:Int)))),some (.d (.str z))] M5:=by
   intro z M5 hz g1 g2 g3;refine⟨_,rfl,_,rfl,z,zs,rfl,.m g1,_,rfl,?_⟩;refine dm (λ hin=>?_) (λ hin=>?_)
   ·have hnot:z ∉ zs:=by simpa using hin
    refine⟨_,rfl,a,_,rfl,g1,_,rfl,_,g1,by simp only[cG,List.length_map];omega,?_⟩;refine⟨zs++[z],_,_,⟨by rw[aj,j5],bE g2 (ah pa),λ q q1 q2=>by rw[ah q2];exact g3 q q1 q2,?_,λ y hy=>?_,?_⟩,by rw[List.length_append,List.length_singleton];omega,rfl⟩
    ·cases zs with
     | nil=>cases h4
     | cons y ys=>exact h4
    ·rcases List.mem_append.mp hy with h | h
     ·exact h5 y h
     ·simp at h;rw[h];exact hz
    ·rw[List.nodup_append];refine⟨h6,by simp,λ y hy c hc=>?_⟩;simp at hc;rw[hc];exact λ e=>hnot (e ▸ hy)
   ·exact⟨zs,_,_,⟨g1,g2,g3,h4,h5,h6⟩,by omega,rfl⟩
  refine⟨_,rfl,_,rfl,_,rfl,_,rfl,hfit,?_⟩;have h26:0<=(turn+(0+(j:Int))) % 26/\(turn+(0+(j:Int))) % 26<26:=⟨Int.emod_nonneg _ (by decide),Int.emod_lt_of_pos _ (by decide)⟩;obtain⟨c,hc,hm⟩:=eG (M:=M') (z:=iw) h26.1 (by rw[jt];exact h26.2);have hl1:=Txt.slice_le z0 none (some (-1));have hc1:(⟨#[c]⟩:Str).length=1:=rfl;refine⟨_,rfl,_,rfl,.inl ⟨_,_,rfl,rfl,_,_,rfl,rfl,(by show(0:Int)<26;decide),_,_,rfl,hc,by decide +kernel,.inr ⟨_,_,rfl,rfl,by have:=hz0.1;omega,?_⟩⟩⟩;refine⟨_,rfl,_,_,.d,.d,rfl,_,rfl,?_⟩;refine dm (λ _=>?_) (λ _=>?_)
  ·refine⟨_,rfl,p,rfl,h2,λ z M5 hz b5 f5=>?_⟩;exact rest z M5 ⟨by have:=hz.1;omega,hz.2⟩ (by rw[f5 a pa.symm];exact h1) b5 λ q q1 q2=>by rw[f5 q q1];exact h3 q q1 q2
  ·refine rest _ M' ⟨?_,su (nh hz0.2 _ _) (nc pX hm)⟩ h1 h2 h3;rw[len_app];have:=hz0.1;omega
 ·rintro τ M' ⟨zs,x6,x7,⟨h1,h2,h3,h4,h5,h6⟩,hlen,rfl⟩;simp only[dv,List.length_map,List.length_range] at hlen;have fin:∀ (zs:List Str) M',M' a=some (.lst (cG zs))->Bag M' p->(∀ q,q≠p->q≠a->M' q=M q)->Sts zs->cA (gx (ag 5)) {nx:=λ _ M'=>Q (.d .none) M',rt:=Q} [some (.m p),some (.d (.str z0)),some (.d (.int (2+n2))),some (.d (.int near)),some (.d (.int turn)),some (.m a),x6,x7] M':=by
   intro zs M' g1 g2 g3 g4;refine⟨_,rfl,a,zs.map PyData.str,rfl,?_,?_⟩
   ·rw[g1];simp[cG]
   ·refine k zs _ g4 (bE g2 (iN pa)) λ q hq=>?_
    by_cases e:q=a
    ·rw[e,haM];simp[pH]
    ·rw[iN e];exact g3 q hq e
  refine⟨_,rfl,_,_,rfl,wC h1,rfl,_,_,.d,.d,rfl,_,rfl,?_⟩;have hpos:1<=zs.length:=by
   cases zs with
   | nil=>cases h4
   | cons y ys=>simp
  refine dm (λ h=>?_) (λ h=>?_)
  ·have hl1:zs.length=1:=by rw[d0] at h;have:=of_decide_eq_true h;simp only[cG,List.length_map] at this;omega
   have hone:zs=[z0]:=by
    match zs,hl1,h4 with
    | [y],_,h4 =>
     have:y=z0:=by simpa using h4
     rw[this]
   subst hone;refine⟨_,rfl,a,_,rfl,h1,_,rfl,few (by simp),_,rfl,_,_,.d,.d,rfl,.inr ⟨_,rfl,?_⟩⟩;rw[jx];have two:∀ y:Str,Wd y->y≠z0->∀ M2,M2=bG M' a (.lst (cG [z0]++[.d (.str y)]))->cA (gx (ag 5)) {nx:=λ _ M'=>Q (.d .none) M',rt:=Q} [some (.m p),some (.d (.str z0)),some (.d (.int (2+n2))),some (.d (.int near)),some (.d (.int turn)),some (.m a),x6,x7] M2:=by
    rintro y hy hne M2 rfl;refine fin [z0,y] _ (by rw[aj];rfl) (bE h2 (ah pa)) (λ q q1 q2=>by rw[ah q2];exact h3 q q1 q2) ⟨by simp,by simp,λ z hz=>?_,?_⟩
    ·simp at hz;rcases hz with rfl | rfl
     ·exact⟨by have:=hz0.1;omega,hz0.2⟩
     ·exact hy
    ·simp[Ne.symm hne]
   by_cases e:z0=("store" : Str)
   ·rw[decide_eq_true e];refine⟨1,_,rfl,rfl,rfl,_,h1,by simp only[cG,List.length_map,List.length_singleton];omega,?_⟩;exact two _ ⟨by decide +kernel,d4 (by decide +kernel)⟩ (by rw[e];decide +kernel) _ rfl
   ·rw[decide_eq_false e];refine⟨0,_,rfl,rfl,rfl,_,h1,by simp only[cG,List.length_map,List.length_singleton];omega,?_⟩;exact two _ ⟨by decide +kernel,d4 (by decide +kernel)⟩ (λ z=>e z.symm) _ rfl
  ·refine fin zs M' h1 h2 h3 ⟨?_,by omega,h5,h6⟩;rw[d0] at h;have:=of_decide_eq_false h;simp only[cG,List.length_map] at this;omega
end Stc
namespace D
open L2
section
variable {K:FG}
variable {X:Cx}{sc:Scope}{own:List Str}{fr:List Nat}{di:TId}{g:TGd}{tt:TTd}{te:TD}{tg iter elt:Expr}{ifs:List Expr}{pos:Pos}
end
section
variable {X:Cx}{K:FG}
end
theorem fE:∀ {ns:List Int} {us:List Value},IntsAre us ns->Vals (ns.map V.int) us
 | _,_,.nil=>.nil
 | _,_,.cons n t h=>.cons ⟨t,rfl⟩ (fE h)
def oY(ns:List Int):List W:=ns.map λ n=>.d (.int n)
theorem gF{K:FG}{H:Hp}:∀ (ns:List Int),aT K H (oY ns) (ns.map V.int)
 | []=>.nil
 | n::ns=>.cons (by simp[aw,au]) (gF ns)
section
variable {P:Program}{w:World}{K:FG}{mg:Str->Option Value}{base h:Heap}
end
end D
open L2 D
namespace Stc
open L2 D Rc
theorem jA{α β:Type}{L:List α}{f:α->β}{i:Nat}{w:β}(h:(L.map f)[i]? =some w):∃ a,L[i]? =some a/\w=f a:=by
 rw[List.getElem?_map] at h;cases e:L[i]? with
 | none=>rw[e] at h;cases h
 | some a=>rw[e] at h;cases h;exact⟨a,rfl,rfl⟩
theorem uW{lo:Int}{n i:Nat}{w:W}(h:(dv lo n)[i]? =some w):i<n/\w=.d (.int (lo+(i:Int))):=by
 unfold dv at h;obtain⟨j,hj,rfl⟩:=jA h;obtain⟨h1,h2⟩:=List.getElem?_eq_some_iff.mp hj;simp at h1 h2;subst h2;exact⟨h1,rfl⟩
theorem ou{α:Type}{xs:List α}{i:Nat}(hi:i<=xs.length):D.cutD xs none (some (i:Int))=xs.take i:=by
 unfold D.cutD;have e:HT.sIx xs.length 0 none=0:=rfl;have e2:HT.sIx xs.length xs.length (some (i:Int))=i:=by
  unfold HT.sIx;simp;rw[if_neg (by omega)];omega
 rw[e,e2];simp
end Stc
namespace HT
open PySem PyProof.Rows
section
open PySem.SeqAt
open PySem.MeetsSeq PySem.MeetsSeq2 PySem.MeetsSeq3
end
end HT
namespace D
open L2
section
variable {X:Cx}{K:FG}
end
end D
namespace Stc
open L2 D Rc
end Stc
namespace D
open L2
end D
open L2 D
namespace L2
section
variable {X:Cx}{pins:PN}{σ:St}{H:Hp}{s:Shared}{sc:Scope}{own:List Str}{fr:List Nat}{cl:List (Str×Addr)}{fp:List Addr}{it D:Addr}{J:It}{tn:Nat->Heap->Prop}{g:TG}{tt:TT}{tk tv:TE}{W:DcW}{Fin:Hp->Prop}
 {kx vx tg iter:Expr}{ifs:List Expr}{pos:Pos}{E:VP}
end
end L2
namespace D
open L2
section
variable {K:FG}
variable {X:Cx}{sc:Scope}{own:List Str}{fr:List Nat}{di:TId}{g:TGd}{tt:TTd}{tk tv:TD}{tg iter kx vx:Expr}{ifs:List Expr}{pos:Pos}
end
end D
open L2 D
namespace L2
end L2
namespace D
open L2
end D
open L2 D
namespace D
open L2
end D
open L2 D
namespace D
open L2
end D
open L2 D
namespace D
open L2
section
variable {X:Cx}{K:FG}
end
end D
namespace PySem
namespace Dp
section
variable {prog:Program}{w:World}{A:Around}{E:VP}{s:Shared}
variable {K:Type}[DecidableEq K]{knd:KeyKind prog w K}
end
end Dp
end PySem
namespace D
open L2
section
variable {X:Cx}{K:FG}
end
end D
namespace Stc
open L2 D Rc
end Stc
namespace D
open L2
section
variable {X:Cx}{K:FG}
end
end D
namespace S
open PySem PySem.W PyProof.Rows
end S
namespace D
open L2 S
section
variable {X:Cx}{K:FG}
end
def vj(M:MH):Nat->W->PyData->Prop
 | 0,w,d=>w=.d d
 | n+1,w,d=>w=.d d\/(∃ a ws ds,w=.m a/\M a=some (.lst ws)/\d=.list ds/\Paired (vj M n) ws ds)\/∃ a ws ds,w=.m a/\M a=some (.tup ws)/\d=.tuple ds/\Paired (vj M n) ws ds
theorem vj.d:∀ {n:Nat},vj M n (.d x) x
 | 0=>rfl
 | _+1=>.inl rfl
section
variable {X:Cx}{K:FG}
end
section
variable {K:FG}{H:Hp}{a:Addr}{o:Obj}{l:List V}
end
theorem vQ(h:us.length=0):us=[]:=by exact List.eq_nil_of_length_eq_zero h
theorem oK(h:us.length=1):∃ a1:Value,us=[a1]:=by
 cases us with
 | nil=>simp at h
 | cons a r =>
  have e:r=[]:=vQ (by simpa using h);subst e;exact⟨a,rfl⟩
theorem uA(h:us.length=2):∃ a1 a2:Value,us=[a1,a2]:=by
 cases us with
 | nil=>simp at h
 | cons a r =>
  obtain⟨b1,e⟩:=oK (us:=r) (by simpa using h);subst e;exact⟨a,b1,rfl⟩
theorem tV(h:us.length=3):∃ a1 a2 a3:Value,us=[a1,a2,a3]:=by
 cases us with
 | nil=>simp at h
 | cons a r =>
  obtain⟨b1,b2,e⟩:=uA (us:=r) (by simpa using h);subst e;exact⟨a,b1,b2,rfl⟩
theorem vT(h:us.length=4):∃ a1 a2 a3 a4:Value,us=[a1,a2,a3,a4]:=by
 cases us with
 | nil=>simp at h
 | cons a r =>
  obtain⟨b1,b2,b3,e⟩:=tV (us:=r) (by simpa using h);subst e;exact⟨a,b1,b2,b3,rfl⟩
section
variable {X:Cx}{K:FG}
end
section
variable {X:Cx}{K:FG}
end
section
variable {X:Cx}{K:FG}
end
section
variable {K:FG}
variable {X:Cx}{sc:Scope}{own:List Str}{fr:List Nat}{di:TId}{g:TGd}{tt:TTd}{te:TD}{tg iter elt:Expr}{ifs:List Expr}{pos:Pos}
end
section
variable {X:Cx}{tg iter elt:Expr}{pos:Pos}{sc:Scope}{own:List Str}{fr:List Nat}{di:TId}{g:TGd}{tt:TTd}{te:TD}{ifs:List Expr}
end
end D
namespace XO
open PySem.W Builtin.ObjectAttr
section
variable {prog:Program}{w:World}{A:Around}{E:VP}{s:Shared}{K:Frag}{x C:Addr}{name:Str}{v:Value}
end
section
variable {prog:Program}{w:World}{A:Around}{E:VP}{s:Shared}{K:Frag}{x C:Addr}{name:Str}{v:Value}{ox:Obj}{od:Option Obj}
end
section
variable {prog:Program}{w:World}{A:Around}{E:VP}{K:Frag}{C f:Addr}{h:Heap}{g:Array GenState}{d:Drawn}{t:Nat}{os:OsState}
end
end XO
namespace L2
open XO
end L2
namespace D
open L2 XO
section
variable {P:Program}{w:World}{K:FG}{mg:Str->Option Value}{base:Heap}
end
end D
namespace XO
open PySem.W
section
variable {prog:Program}{w:World}{A:Around}{E:VP}{s:Shared}{K:Frag}{env:PySem.Env}
end
end XO
namespace L2
open XO
section
variable {P:Program}{w:World}{K:FG}{mg:Str->Option Value}{base:Heap}{C f:Addr}{fd:FuncData}{qual:Str}{st:Stmt}
end
end L2
namespace D
open L2 XO
end D
namespace L2
open XO
end L2
namespace D
open L2 XO
section
variable {X:Cx}{pos np hpos:Pos}{body suite:List Stmt}{b0:Stmt}{hs:List ExceptHandler}{h0:ExceptHandler}{tb:XE->TSd}{th rest:Addr->TSd}{ts:TSd}
end
section
variable {X:Cx}{pos p p' apos cpos np hpos:Pos}{k:Nat}{f C:Addr}{fd:FuncData}{ps fs:List Str}{sp:SpX}{x m n:Str}{e o:Expr}{es:List Expr}{t:TAd}{td:TD}{E:XE}
variable {body suite:List Stmt}{b0:Stmt}{hs:List ExceptHandler}{h0:ExceptHandler}{tb:XE->TSd}{th rest:Addr->TSd}{ts:TSd}
end
section
variable {X:Cx}{K:FG}
end
section
variable {X:Cx}{K:FG}
end
end D
namespace PySem.SeqAt
open MeetsSeq MeetsSeq2 MeetsSeq3 SeqRoads2
end PySem.SeqAt
namespace ZT
end ZT
namespace D
open L2
section
variable {X:Cx}{K:FG}{a b:Expr}{p pos:Pos}{t:TAd}
end
section
variable {X:Cx}{K:FG}
end
section
variable {X:Cx}{K:FG}
end
section
variable {X:Cx}{e st:Expr}{te:TE}{ts:TO}{pos p2:Pos}
end
section
variable {X:Cx}{K:FG}{e st:Expr}{te:TD}{ts:TOd}{pos p2:Pos}
end
section
variable {X:Cx}{e st:Expr}{a:Addr}{x:Str}{kvs:List (Str×PyData)}{pos p p2:Pos}{te:TD}{ts:TOd}
end
end D
namespace XO
open PySem.W
section
variable {prog:Program}{w:World}{A:Around}{E:VP}{K:Frag}{C:Addr}{h:Heap}{g:Array GenState}{d:Drawn}{t:Nat}{os:OsState}
end
end XO
namespace D
open L2 XO
section
variable {X:Cx}{pos p cpos np hpos:Pos}{k:Nat}{f C:Addr}{x:Str}{e:Expr}{es:List Expr}{t:TAd}{E:XE}
variable {body suite:List Stmt}{b0:Stmt}{hs:List ExceptHandler}{th rest:Addr->TSd}{ts:TSd}
end
section
variable {X:Cx}{K:FG}
variable {o e:Expr}{td te:TD}{apos cpos:Pos}
end
section
variable {X:Cx}{e st:Expr}{te:TE}{ts:TO}{pos p2:Pos}
end
section
variable {X:Cx}{e st:Expr}{te:TD}{ts:TOd}{pos p2:Pos}
end
section
variable {X:Cx}{K:FG}
end
section
variable {X:Cx}{pos p cpos apos np hpos p2:Pos}{k:Nat}{f C:Addr}{x y:Str}{e o st:Expr}{es:List Expr}{t:TAd}{E:XE}{body suite:List Stmt}{b0:Stmt}{hs:List ExceptHandler}{rest:Addr->TSd}{ts:TSd}{fd:FuncData}{ps:List Str}{sp:SpX}{td te:TD}{to:TOd}
end
end D
namespace ZS
end ZS
namespace D
open L2
section
variable {X:Cx}{K:FG}
end
end D
namespace RT
end RT
namespace D
open L2
section
variable {X:Cx}{K:FG}
variable {o e:Expr}{td:TD}{apos cpos:Pos}
variable {a:Expr}{ta:TA}{p p2 pos pos2:Pos}
end
end D
namespace L2
open PySem.W (envX kla_obj kla_fn)
section
variable {X:Cx}{pins:PN}{σ:St}{H:Hp}{s:Shared}{sc:Scope}{x q:Str}{fr:List Nat}{cl:List (Str×Addr)}{f c:Addr}
end
section
variable {X:Cx}{pins:PN}{σ:St}{H:Hp}{s:Shared}
end
end L2
namespace D
open L2
open PySem.W (kla_obj kla_fn)
section
variable {X:Cx}{K:FG}
variable {P cd:Addr}{q x:Str}{lpos pos p kpos:Pos}{params:Arguments}{body o:Expr}{sc:Scope}{fr:List Nat}{to tb:TD}{k:Nat}
end
end D
namespace L2
end L2
namespace D
open L2
section
variable {P:Program}{w:World}{K:FG}{mg:Str->Option Value}{base:Heap}
end
section
variable {X:Cx}{K:FG}
variable {o e:Expr}{to:TE}{td te:TD}{apos cpos p pos:Pos}
end
end D
set_option maxHeartbeats 0
namespace D
open L2
section
variable {X:Cx}{a b:Expr}{rest:List Expr}{pos:Pos}{ta tb:TE}
end
section
variable {X:Cx}{K:FG}{e:Expr}{te:TE}{p pos kpos kp:Pos}{j:Nat}
end
section
variable {X:Cx}{a b o e:Expr}{rest:List Expr}{ta tb td te:TD}{apos cpos p pos kpos kp:Pos}{j:Nat}
end
section
variable {X:Cx}{K:FG}{pins:PN}{σ:St}{H:Hp}{s:Shared}
end
section
variable {K:FG}
end
abbrev PFn(K:FG)(x:Str)(st:Stmt):Prop:=∃ (f:Addr) (oc kV dc pm cd ct:Value) (od an:Option Addr) (sl:Array (Option Value)),W.nsIn K mainGlobals x=some (some (.ref f))/\K.lookup f=some ⟨oc,od,.func (W.fnOf x x (aL st) (aG st) (ao st) .none kV dc pm an cd ct),sl⟩/\W.codeIn K cd x=true/\W.keepIn K (.ref f)=true
abbrev PMf(K:FG)(C:Addr)(m x:Str)(st:Stmt):Prop:=∃ (f:Addr) (oc kV dc pm cd ct:Value) (od an:Option Addr) (sl:Array (Option Value)),W.findIn K (.ref C) m=some (some (.ref f))/\W.isFn K (.ref f)=true/\K.lookup f=some ⟨oc,od,.func (W.fnOf m x (aL st) (aG st) (ao st) .none kV dc pm an cd ct),sl⟩/\W.codeIn K cd x=true/\W.keepIn K (.ref f)=true
theorem u6{K:FG}{x:Str}{st:Stmt}{f:Addr}{oc kV dc pm cd ct:Value}{od an:Option Addr}{sl:Array (Option Value)}(a:W.nsIn K mainGlobals x=some (some (.ref f)))(l:K.lookup f=some ⟨oc,od,.func (W.fnOf x x (aL st) (aG st) (ao st) .none kV dc pm an cd ct),sl⟩)(c:W.codeIn K cd x=true)(k:W.keepIn K (.ref f)=true):PFn K x st:=⟨_,_,_,_,_,_,_,_,_,_,a,l,c,k⟩
theorem uw{K:FG}{C:Addr}{m x:Str}{st:Stmt}{f:Addr}{oc kV dc pm cd ct:Value}{od an:Option Addr}{sl:Array (Option Value)}(a:W.findIn K (.ref C) m=some (some (.ref f)))(i:W.isFn K (.ref f)=true)(l:K.lookup f=some ⟨oc,od,.func (W.fnOf m x (aL st) (aG st) (ao st) .none kV dc pm an cd ct),sl⟩)(c:W.codeIn K cd x=true)(k:W.keepIn K (.ref f)=true):PMf K C m x st:=⟨_,_,_,_,_,_,_,_,_,_,a,i,l,c,k⟩
theorem PFn.fn{K:FG}{h:Heap}{mg:Str->Option Value}{x:Str}{st:Stmt}{ps:List Str}(p:PFn K x st)(X:K.In h)(G:h.Ns mainGlobals mg)
  (b:∀ (kV doc pm:Value) (an:Option Addr) (cdv ct:Value) (us:List Value),us.length=ps.length->bindArgs (W.fnOf x x (aL st) (aG st) (ao st) .none kV doc pm an cdv ct) ⟨us,[]⟩=pure (ps.zip us)):∃ f fd,Fn K mg x st ps f fd:=
 let ⟨f,_,_,_,_,_,_,_,_,_,a,l,c,k⟩:=p; ⟨f,_,u4 X G a l c k b⟩
theorem PMf.mf{K:FG}{C:Addr}{m x:Str}{st:Stmt}{ps:List Str}(p:PMf K C m x st)
  (b:∀ (kV doc pm:Value) (an:Option Addr) (cdv ct:Value) (us:List Value),us.length=ps.length->bindArgs (W.fnOf m x (aL st) (aG st) (ao st) .none kV doc pm an cdv ct) ⟨us,[]⟩=pure (ps.zip us)):∃ f fd,Mf K C m x st ps f fd:=
 let ⟨f,_,_,_,_,_,_,_,_,_,a,i,l,c,k⟩:=p; ⟨f,_,vS a i l c k b⟩
abbrev ZZ(P:Program)(w:World)(K:FG)(mg:Str->Option Value)(base:Heap)(F:Addr->FuncData->Prop)(n:Nat)(ps:List Str)(sp:SpD):Prop:=∃ f fd,F f fd/\cL P w K mg base CX0 n f fd ps (dY K sp)
end D
namespace L2
section
variable {P:Program}{w:World}{K:FG}{mg:Str->Option Value}{base:Heap}
end
end L2
namespace D
open L2
section
variable {P:Program}{w:World}{K:FG}{mg:Str->Option Value}{base:Heap}
end
open XO
section
variable {X:Cx}{K:FG}
end
end D
namespace PySem.AutoSeq1
open PySem.MeetsSeq PySem.MeetsSeq2 PySem.MeetsSeq3 PyProof.Rows
end PySem.AutoSeq1
namespace D
open L2
section
variable {P:Program}{w:World}{K:FG}{mg:Str->Option Value}{base:Heap}
end
end D
namespace PySem.AutoSeq1
open PySem.MeetsSeq PySem.MeetsSeq2 PySem.MeetsSeq3 PyProof.Rows
end PySem.AutoSeq1
namespace D
open L2
section
variable {X:Cx}{K:FG}
end
end D
namespace XO
open PySem.W
section
variable {prog:Program}{w:World}{A:Around}{E:VP}{s:Shared}{K:Frag}{env:PySem.Env}{e h0 C0:Addr}{dct0:Option Addr}{vs0:Array Value}
end
end XO
namespace L2
open XO
section
variable {P:Program}{w:World}{K:FG}{mg:Str->Option Value}{base:Heap}{C f:Addr}{fd:FuncData}{qual:Str}{st:Stmt}
end
end L2
namespace D
open L2 XO
section
variable {X:Cx}{pos p cpos:Pos}{k:Nat}{f C:Addr}{fd:FuncData}{ps fs:List Str}{x:Str}{e:Expr}{es:List Expr}{t:TAd}{E:XE}
variable {body suite:List Stmt}{b0:Stmt}{hs:List ExceptHandler}{th rest:Addr->TSd}{np hpos:Pos}
end
section
variable {X:Cx}{pos p cpos:Pos}{k:Nat}{f C:Addr}{fd:FuncData}{ps fs:List Str}{x:Str}{e:Expr}{es:List Expr}{t:TAd}{E:XE}
variable {suite:List Stmt}{b0:Stmt}{hs:List ExceptHandler}{rest:Addr->TSd}{np hpos:Pos}
end
section
variable {X:Cx}{K:FG}
variable {o e:Expr}{td te:TD}{apos cpos:Pos}
end
section
variable {X:Cx}{o i:Expr}{td ti:TD}{tpos pos:Pos}
end
end D
namespace L2
section
variable {X:Cx}{CX:CXT}{k:Nat}{f C:Addr}{fd:FuncData}{ps:List Str}{sp:Sp}{E:XK}{pins:PN}{σ:St}{H:Hp}{s:Shared}{Q:VK}{us:List Value}{vs:List V}{dvs:List V}{ds:List Value}
end
end L2
namespace D
open L2 XO
section
variable {X:Cx}{pins:PN}{σ:St}{H:Hp}{s:Shared}{a:Addr}{kvs:List (Str×Addr)}
end
section
variable {X:Cx}{e:Expr}{a:Addr}{x:Str}{kvs:List (Str×Addr)}{pos p apos cpos:Pos}{ty:TE}{te:TD}
end
section
variable {X:Cx}{pos p apos:Pos}{k:Nat}{f C:Addr}{fd:FuncData}{ps:List Str}{sp:SpX}{x m dz:Str}{e o:Expr}{es:List Expr}{t:TAd}{td:TD}{E:XE}
end
section
variable {X:Cx}{e o i:Expr}{a:Addr}{x m dz:Str}{kvs:List (Str×Addr)}{pos p apos cpos tpos:Pos}{te td ti:TD}{k:Nat}{f C:Addr}{fd:FuncData}{ps:List Str}{sp:SpX}{es:List Expr}{t:TAd}{E:XE}
end
end D
namespace L2
section
variable {X:Cx}{CX:CXT}{k:Nat}{f C:Addr}{fd:FuncData}{ps:List Str}{sp:Sp}{E:XK}{pins:PN}{σ:St}{H:Hp}{s:Shared}{Q:VK}{us:List Value}{vs:List V}{v:V}{u:Value}{kn:Str}
end
end L2
namespace D
open L2 XO
section
variable {X:Cx}{pos p apos kpos:Pos}{k:Nat}{f C:Addr}{fd:FuncData}{ps:List Str}{sp:SpX}{m kn:Str}{e o g:Expr}{es:List Expr}{t:TAd}{td tk:TD}{E:XE}
end
section
variable {X:Cx}{pos p apos kpos:Pos}{k:Nat}{f C:Addr}{fd:FuncData}{ps:List Str}{sp:SpX}{m kn:Str}{e o g:Expr}{es:List Expr}{t:TAd}{td tk:TD}{E:XE}
end
open S
section
variable {X:Cx}{pins:PN}{σ:St}{H H':Hp}{s:Shared}{h':Heap}
end
section
variable {X:Cx}{o:Expr}{to:TE}{apos cpos p pos:Pos}
end
section
variable {X:Cx}{o:Expr}{td:TD}{apos cpos p pos:Pos}
end
end D
namespace L2
theorem b9.m{j k:Nat}{A:PySem.Around}(r:b9 k A)(h:j<=k:=by decide):b9 j A:=r.mono h
end L2
namespace D
open L2
abbrev dS(z:Str):TD:=dC (.d (.str z))
abbrev dI(n:Int):TD:=dC (.d (.int n))
section
variable {prog:Program}{w:World}{A:Around}{E:VP}{s:Shared}{x y:Str}{t u v:Tok}{k:Int}{Q:VP}
end
section
variable {X:Cx}{K:FG}
variable {o e e':Expr}{td te tn:TD}{apos cpos:Pos}
end
section
variable {X:Cx}{e f:Expr}{a:Addr}{x:Str}{kvs:List (Str×PyData)}{pos p apos cpos:Pos}{ty tx:TE}{te tf:TD}
end
end D
namespace XO
open PySem.W
section
variable {M:Model}{A:Around}{E:VP}{s:Shared}{base:Heap}{env:PySem.Env}{outer:List PySem.Env}{L e C T:Addr}{dct:Option Addr}{vs:Array Value}
end
end XO
namespace D
open L2 XO
section
variable {X:Cx}{pins:PN}{σ:St}{H:Hp}{s:Shared}{a T:Addr}
end
section
variable {P:Program}{w:World}{K:FG}{mg:Str->Option Value}{base:Heap}
end
end D
namespace L2
open XO D
section
variable {prog:Program}{w:World}{A:Around}{E:VP}{R:Result->Shared->Prop}{s:Shared}
end
section
variable {X:Cx}{pins:PN}{σ:St}{H:Hp}{s:Shared}
end
section
variable {X:Cx}{pins:PN}{σ:St}{H:Hp}{s:Shared}{sc:Scope}{own:List Str}{fr:List Nat}{cl:List (Str×Addr)}{fp:List Addr}{it:Addr}{J:It}{tn:Nat->Heap->Prop}{g:TG}{tt:TT}{te:TE}{W:LcW}{Fin:List V->Hp->Prop}
 {elt tg iter:Expr}{ifs:List Expr}{pos:Pos}{E:VP}
end
end L2
namespace D
open L2 XO
section
variable {K:FG}
end
section
variable {X:Cx}{sc:Scope}{own:List Str}{fr:List Nat}{tg elt iter:Expr}{ifs:List Expr}{pos:Pos}{di:TId}{g:TGd}{tt:TTd}{te:XE->TD}{E:XE}
end
section
variable {P:Program}{w:World}{K:FG}{mg:Str->Option Value}{base:Heap}
end
variable {X:Cx}{sc:Scope}{own:List Str}{fr:List Nat}{tg elt iter:Expr}{ifs:List Expr}{pos:Pos}{di:TId}{g:TGd}{tt:TTd}{te:XE->TD}{E:XE}
end D
namespace D
open L2 S PySem.W
section
variable {X:Cx}{pins:PN}{σ:St}{f a kS:Addr}{xs:List V}{us:List Value}{e1:Nat}
end
section
variable {X:Cx}{pins:PN}{σ:St}{f d:Addr}
end
open PySem.W (kla_obj kla_fn)
section
variable {X:Cx}{K:FG}
variable {P cd:Addr}{q x:Str}{lpos pos p kpos:Pos}{params:Arguments}{body o:Expr}{sc:Scope}{fr:List Nat}{to tb:TD}{k:Nat}
end
section
variable {X:Cx}{K:FG}
end
open XO
section
variable {X:Cx}{pins:PN}{σ:St}{H:Hp}{s:Shared}{CX:List Env->Hp->Shared->XK->VP}{k:Nat}{f:Addr}{fd:FuncData}{ps:List Str}
end
section
variable {X:Cx}{pos p:Pos}{k:Nat}{f:Addr}{fd:FuncData}{ps:List Str}{sp:SpX}{x:Str}{e:Expr}{es:List Expr}{t:TAd}{E:XE}{d:Int}
end
section
variable {X:Cx}{K:FG}
end
section
variable {X:Cx}{K:FG}
end
section
variable {X:Cx}{o e:Expr}{td te:TD}{apos cpos:Pos}
end
section
variable {X:Cx}{K:FG}
end
section
variable {prog:Program}{w:World}{A:Around}{R:Result->Shared->Prop}{I:Addr}{fp wr:List Addr}{G:Array GenState->Array GenState->Prop}{ks:List Str}{P:Nat->Value->Prop}{St:Nat->Shared->Prop}
end
section
variable {prog:Program}{w:World}{A:Around}{E:VP}{s:Shared}
abbrev nk(led:Bool):Obj:={cls:=.type "set",dict:=none,data:=.set #[] 0 (.fresh 0 0 led)}
end
open L2
section
variable {X:Cx}{K:FG}{e:Expr}{to:TE}{td:TD}{p1 p2 pos1 pos2:Pos}
def qN(Q:V->Hp->Prop)(vs:List V)(H:Hp):Prop:=match vs with
 | [x]=>Q x H
 | _=>False
theorem oP{Q:V->Hp->Prop}{vs:List V}{H:Hp}(h:qN Q vs H):∃ x,vs=[x]/\Q x H:=by
 match vs,h with
 | [x],h=>exact⟨x,rfl,h⟩
end
section
variable {prog:Program}{w:World}{A:Around}{E:VP}{s:Shared}{a₀:Array Keyed}
theorem g9:∀ f n r:Nat,r<=1->minRun' f n r<=n+r
 | 0,_,_,_=>Nat.le_refl _
 | f+1,n,r,h=>by
  rw[minRun'_succ]
  split
  ·exact Nat.le_refl _
  ·have:=g9 f (n / 2) (max r (n % 2)) (by omega);omega
theorem ie{st:SortSt}{Q:Option Nat->SortSt->Prop}(h0:IntKeys a₀)(h1:1<=a₀.size)(hB:SBase a₀ st)(hs:SortedTo (arrOf st) a₀.size)(q:Q (some a₀.size) st):wpS (model prog w) A E s (countRun' 0 a₀.size) Q st:=by
 rw[countRun0_eq];refine wpS_bind (wpS_ascLoop h0 (Nat.le_refl _) (Nat.le_refl 1) h1 hB (λ i j _ hj=>hs i j (by omega) (by omega)) λ n n1 n2 _ hor=>?_);have e:n=a₀.size:=by
  rcases hor with e | e
  ·exact e
  ·by_cases z:n=a₀.size
   ·exact z
   ·have:=hs (n-1) n (by omega) (by omega);omega
 subst e;dsimp only;rw[if_pos (by simp)];exact wpS_pure q
theorem oQ{st:SortSt}{Q:Unit->SortSt->Prop}(h0:IntKeys a₀)(hB:SBase a₀ st)(h2:2<=a₀.size)(hs:SortedTo (arrOf st) a₀.size)(q:∀ st',arrOf st'=arrOf st->failedOf st'=none->Q () st'):wpS (model prog w) A E s sortRuns' Q st:=by
 rw[sortRuns'_eq];refine wpS_bind (wpS_get ?_);dsimp only;have hm:minRun' a₀.size a₀.size 0<=a₀.size:=g9 _ _ 0 (by omega);rw[hB.size];generalize minRun' a₀.size a₀.size 0=mr at hm;refine wpS_bind (wpS_mono (wpS_forRange
  (I:=λ x c t=>(x=0/\c=(none,0)/\t=st)\/(0<x/\c=(none,a₀.size)/\arrOf t=arrOf st/\failedOf t=none/\pendingOf t = #[(0,a₀.size,0)]))
  (Q:=λ c t=>c=(none,a₀.size)/\arrOf t=arrOf st/\failedOf t=none/\pendingOf t = #[(0,a₀.size,0)]) ?a ?b (.inl ⟨rfl,rfl,rfl⟩)) ?c)
 case b =>
  rintro c t (⟨hx,_,_⟩ | ⟨_,hc⟩)
  ·omega
  ·exact hc
 case a =>
  rintro x c t _ hx (⟨rfl,rfl,rfl⟩ | ⟨_,rfl,hd⟩)
  ·dsimp only;rw[if_neg (by omega),Nat.sub_zero];refine wpS_bind (ie h0 (by omega) hB hs ?_);dsimp only;rw[if_neg (by omega)];refine wpS_bind (wpS_get ?_);rw[show(pendingOf t).back? =none from by rw[hB.pend];rfl];dsimp only;rw[Nat.zero_add];exact wpS_bind (wpS_modify (wpS_pure (.inr ⟨by omega,rfl,rfl,hB.failed,by show(pendingOf t).push _=_;rw[hB.pend];rfl⟩)))
  ·dsimp only;rw[if_pos (Nat.le_refl _)];exact wpS_pure ⟨rfl,hd⟩
 case c =>
  rintro c t ⟨rfl,ha,hf,hp⟩;dsimp only;refine wpS_bind (wpS_mono (wpS_forRange (I:=λ _ c t'=>t'=t/\c=(none,())) (Q:=λ c t'=>t'=t/\c=(none,())) ?_ (λ _ _ z=>z) ⟨rfl,rfl⟩) ?_)
  ·rintro x c t' _ _ ⟨rfl,rfl⟩;refine wpS_bind (wpS_get ?_);rw[if_pos (by rw[hp];exact Nat.le_refl 1)];exact wpS_pure ⟨rfl,rfl⟩
  ·rintro c t' ⟨rfl,rfl⟩;exact wpS_pure (q _ ha hf)
theorem oh{vs:List Value}{ns:List Int}(h:IntsAre vs ns):∀ (i:Nat) (n:Int),ns[i]? =some n->∃ t,vs[i]? =some (.int n t):=by
 induction h with
 | nil=>intro i n e;simp at e
 | cons _ _ _ ih =>
  intro i n e;cases i with
  | zero=>cases e;exact⟨_,rfl⟩
  | succ i=>exact ih i n (by simpa using e)
theorem lS{vs:List Value}{ns:List Int}(h:IntsAre vs ns):vs.length=ns.length:=by
 induction h with
 | nil=>rfl
 | cons _ _ _ ih=>rw[List.length_cons,List.length_cons,ih]
theorem lF{vs:List Value}{ns:List Int}(h:IntsAre vs ns){i:Nat}{n:Int}(e:ns[i]? =some n):K (pairsOf vs) i=n:=by
 obtain⟨t,ht⟩:=oh h i n e;unfold K pairsOf;have:(vs.toArray.zip vs.toArray)[i]? =some (Value.int n t,Value.int n t):=by rw[<- Array.getElem?_toList,Array.toList_zip,List.getElem?_zip_eq_some];exact⟨ht,ht⟩
 rw[this];rfl
theorem gA{vs:List Value}{ns:List Int}(h:IntsAre vs ns)(hs:ns.Pairwise (· <= ·)):SortedTo (pairsOf vs) (pairsOf vs).size:=by
 intro i j hij hj;rw[pairsOf_size,lS h] at hj;rw[lF h (List.getElem?_eq_getElem (by omega:i<ns.length)),lF h (List.getElem?_eq_getElem hj)]
 by_cases e:i=j
 ·subst e;exact Int.le_refl _
 ·exact List.pairwise_iff_getElem.mp hs i j _ hj (by omega)
theorem nW{a:Addr}{vs:List Value}{ns:List Int}{n:Nat}{P:Fin->Shared->Prop}(ho:s.heap.get? a=some (seqObj "list" vs.toArray n))(hI:IntsAre vs ns)(hs:ns.Pairwise (· <= ·))(hl:vs.length<=1000)
  (q:∀ out:Array Value,IntsAre out.toList ns->P (.done (.ret .none)) {s with heap:=sortedHeap s.heap a vs out}):wpAny (model prog w) A (Builtin.«list.sort» ⟨[.ref a],[]⟩) P E s:=by
 by_cases h64:vs.length<64
 ·exact list_sort_tree ho hI h64 λ out ns' a1 a2 a3=>q out (by have:ns'=ns:=List.Perm.eq_of_pairwise (λ x y _ _ p r=>Int.le_antisymm p r) a3 hs a2;rw[<- this];exact a1)
 rw[list_sort_plain];have lt:=Heap.lt_size ho;have s16':=s16;refine wpAny_bind (listItems_at ho rfl (wpAny_bind (listUpdate_at ho rfl ?_)));obtain⟨e1,h1⟩:∃ e1,(s.heap.update a (Obj.mapSeq λ _=>#[])).get? a=some (seqObj "list" #[] e1):=⟨_,get?_update_seq ho (λ _=>#[])⟩;refine wpAny_bind (seqEpoch_at h1 rfl (wpAny_bind (wpAny_newTuple (wpAny_bind (wpAny_newList (wpAny_holding ?_))))));have h6:(((s.heap.update a (Obj.mapSeq λ _=>#[])).push (seqObj "tuple" vs.toArray 0)).push (seqObj "list" #[] 0)).get? a=some (seqObj "list" #[] e1):=by rw[Heap.get?_push_ne _ _ _ (by rw[size_push',Heap.size_update];exact Nat.ne_of_lt (Nat.lt_succ_of_lt lt)),Heap.get?_push_ne _ _ _ (by rw[Heap.size_update];exact Nat.ne_of_lt lt)];exact h1
 show wpAny (model prog w) A _ P E {s with heap:=((s.heap.update a (Obj.mapSeq λ _=>#[])).push (seqObj "tuple" vs.toArray 0)).push (seqObj "list" #[] 0)};dsimp only;have hz:¬ vs.toArray.size<2:=by rw[List.size_toArray];omega
 rw[if_neg hz,if_neg hz];obtain⟨v1,v2,r,rfl⟩:∃ v1 v2 r,vs=v1::v2::r:=by
  cases vs with
  | nil=>simp at h64
  | cons v1 vs =>
   cases vs with
   | nil=>simp at h64
   | cons v2 r=>exact⟨v1,v2,r,rfl⟩
 rw[keyKind_ints hI];refine wpAny_bind (wpAny_pure (wpAny_bind (wpAny_mono (oQ (a₀:=pairsOf (v1::v2::r)) (st:=SortSt.mk' oneType' (pairsOf (v1::v2::r)) #[] 7 none)
  (Q:=λ _ t=>arrOf t=pairsOf (v1::v2::r)/\failedOf t=none) hI.intKeys ⟨Array.Perm.refl _,rfl,rfl,rfl⟩ (by rw[pairsOf_size];simp) (gA hI hs) λ t a1 a2=>⟨a1,a2⟩) ?_ λ _ _ e=>e)))
 rintro⟨⟨⟩,t⟩ s' ⟨rfl,ha,hf⟩;dsimp only;rw[ha];have em:(pairsOf (v1::v2::r)).map (·.2)=(v1::v2::r).toArray:=by
  apply Array.toList_inj.mp;rw[Array.toList_map,pairsOf_toList,<- List.unzip_snd,List.unzip_zip rfl]
 rw[em];refine wpAny_bind (seqEpoch_at h6 rfl (wpAny_bind (listUpdate_at h6 rfl ?_ (hsz2:=by show(v1::v2::r).toArray.size<=_;rw[List.size_toArray];omega))));rw[hf];simp only[bne_self_eq_false,Bool.false_eq_true,if_false];exact wpAny_pure (q (v1::v2::r).toArray (by simpa using hI))
theorem km{l:Addr}{vs:List Value}{ns:List Int}{Q:VP}(hl:s.heap.IsList l vs.toArray)(hI:IntsAre vs ns)(hs:ns.Pairwise (· <= ·))(hn:vs.length<=1000)
  (q:∀ out:Array Value,IntsAre out.toList ns->Q (.ref (s.heap.objs.size+1)) {s with heap:=sortedAll s.heap vs out}):wpAny (model prog w) A (call (.builtin "sorted") [.ref l]) Q E s:=by
 have s16':=s16;refine Calls.call_function_entry kind_sorted plain_sorted entry_sorted (args_sorted1 _) ?_;unfold Builtin.«sorted»;refine wpAny_bind (m:=checkCount "sorted" 1 1 _) (wpAny_pure (wpAny_bind (collect_list hl (wpAny_bind (wpAny_newList ?_)) (by omega))));have z:((s.heap.push (seqObj "list" #[] 0)).update s.heap.objs.size (Obj.mapSeq (· ++ vs.toArray))).objs.size=s.heap.objs.size+1:=by rw[Heap.size_update,size_push']
 have g:(((s.heap.push (seqObj "list" #[] 0)).update s.heap.objs.size (Obj.mapSeq (· ++ vs.toArray))).push (seqObj "list" vs.toArray 0)).get? (s.heap.objs.size+1)=some (seqObj "list" vs.toArray 0):=by rw[<- z];exact Heap.get?_push_size _ rfl
 show wpAny _ _ _ _ _ {s with heap:=((s.heap.push (seqObj "list" #[] 0)).update s.heap.objs.size (Obj.mapSeq (· ++ vs.toArray))).push (seqObj "list" vs.toArray 0)};rw[z];refine wpAny_bind (wpAny_holding (wpAny_call_entry slot_list_sort ⟨_,g,rfl⟩ entry_list_sort (nW g hI hs hn λ out a1=>⟨_,rfl,?_⟩) (args_list_sort _)));exact wpAny_pure ⟨_,rfl,q out a1⟩
end
section
variable {X:Cx}{K:FG}
theorem ij:cJ X (.builtin "sorted") (λ xs H Q=>∃ p,∃ ns:List Int,xs=[.ref p]/\SqL X.K H p (ns.map V.int)/\ns.length<=1000/\ns.Pairwise (· <= ·)/\∀ l,H l=none->Q (.ref l) (upd H l (.lst (ns.map V.int)))):=by
 intro pins s σ H xs us Q I r h;obtain⟨p,ns,rfl,hq,hz,hs,q⟩:=h;obtain⟨u,rfl,rx⟩:=vals1 r;cases rx;obtain⟨its,rv,pl,_⟩:=I.list hq;have hl:=rv.length;rw[List.length_map] at hl;have hI:IntsAre its ns:=by have:=intsAre_of rv;simpa using this
 refine km pl.isList hI hs (by omega) λ out ho=>?_;obtain⟨n,e⟩:=sortedAll_at s.heap its out;have hfr:H (s.heap.objs.size+1)=none:=I.hok.fresh (Nat.le_succ _);refine⟨.ref _,_,I.laid (a:=s.heap.objs.size+1) (o:=.lst (ns.map V.int)) (t':=s.toks) (λ b o z=>sortedAll_old z) (Nat.le_succ _) ⟨?_,out.toList,n,fE ho,?_⟩,rfl,q _ hfr⟩
 ·rw[List.length_map];have:=s16;omega
 ·simpa using e
def kZ(ws:List W)(M:MH)(Q:QD):Prop:=∃ w,∃ ns:List Int,ws=[w]/\pM M w (ns.map PyData.int)/\ns.length<=1000/\ns.Pairwise (· <= ·)/\∀ p,M p=none->Q (.m p) (bG M p (.lst (oY ns)))
theorem oV:cX K (λ xs H Q=>∃ p,∃ ns:List Int,xs=[.ref p]/\SqL K H p (ns.map V.int)/\ns.length<=1000/\ns.Pairwise (· <= ·)/\∀ l,H l=none->Q (.ref l) (upd H l (.lst (ns.map V.int)))) kZ:=by intro vs H ws M Qd Q r m ⟨w,ns,e,g,hz,hs,q⟩ k;subst e;obtain⟨v,e1,r1⟩:=c5 r;obtain⟨p,ys,ev,hq,ra⟩:=g.sound r1 m;have ey:=gK ra;subst ev ey;refine⟨p,ns,e1,hq,hz,hs,λ l hl=>?_⟩;have kp:Kp H (upd H l (.lst (ns.map V.int))):=Kp.new hl;exact k _ _ (.m l) _ kp rfl (m.put (mo:=.lst (oY ns)) kp ⟨_,ax,gF ns⟩) (q l (m.free hl))
end
local macro_rules | `(tactic| walk_at "op_gallop")=>`(tactic| unfold $(Lean.mkIdent (Lean.mkPrivateNameCore `PySem.Builtin.List.W1All `PySem.Builtin.gallop)):ident)
section
variable {prog:Program}{w:World}{A:Around}{E:VP}{s:Shared}{st:SortSt}
end
section
variable {α:Type}{bf:α->α->Prop}{as bs out:List α}{ia ib:Nat}
end
end D
namespace Sw
open D
open L2 S PySem.W
local macro_rules | `(tactic| walk_at "op_setMinGallop")=>`(tactic| unfold $(Lean.mkIdent (Lean.mkPrivateNameCore `PySem.Builtin.List.W1All `PySem.Builtin.setMinGallop)):ident)
section
variable {it:Array Keyed}{l m:List Nat}{i k:Nat}
end
section
variable {prog:Program}{w:World}{A:Around}{E:VP}{s:Shared}{st:SortSt}{κ:SortKind}{it:Array Keyed}{lt:Nat->Nat->Bool}{N:Nat}
end
open L2 S PySem.W
local macro_rules | `(tactic| walk_at "op_mergeLo")=>`(tactic| unfold $(Lean.mkIdent (Lean.mkPrivateNameCore `PySem.Builtin.List.W1All `PySem.Builtin.mergeLo)):ident)
local macro_rules | `(tactic| walk_at "whr")=>`(tactic| ((repeat (extract_lets +onlyGivenNames -underBinder -merge a; (fail_if_success (have:_->_:=a));subst a)); (try dsimp (config:={zeta:=false,zetaHave:=false}) only); (repeat (extract_lets +onlyGivenNames -underBinder -merge a; (fail_if_success (have:_->_:=a));subst a))))
section
variable {it:Array Keyed}{lt:Nat->Nat->Bool}{N:Nat}{as bs:List Nat}{out:Array Keyed}{ia ib k:Nat}
end
section
variable {prog:Program}{w:World}{A:Around}{E:VP}{s:Shared}{st:SortSt}{κ:SortKind}{it:Array Keyed}{lt:Nat->Nat->Bool}{N:Nat}{as bs:List Nat}
end
open L2 S PySem.W
local macro_rules | `(tactic| walk_at "op_mergeHi")=>`(tactic| unfold $(Lean.mkIdent (Lean.mkPrivateNameCore `PySem.Builtin.List.W1All `PySem.Builtin.mergeHi)):ident)
local macro_rules | `(tactic| walk_at "whr")=>`(tactic| ((repeat (extract_lets +onlyGivenNames -underBinder -merge a; (fail_if_success (have:_->_:=a));subst a)); (try dsimp (config:={zeta:=false,zetaHave:=false}) only); (repeat (extract_lets +onlyGivenNames -underBinder -merge a; (fail_if_success (have:_->_:=a));subst a))))
section
variable {it:Array Keyed}{l:List Nat}{i k:Nat}
end
section
variable {it:Array Keyed}{lt:Nat->Nat->Bool}{N:Nat}{as bs:List Nat}{out:Array Keyed}{na nb k:Nat}
end
section
variable {prog:Program}{w:World}{A:Around}{E:VP}{s:Shared}{st:SortSt}{κ:SortKind}{it:Array Keyed}{lt:Nat->Nat->Bool}{N:Nat}{as bs:List Nat}
end
open L2 S PySem.W
section
variable {α:Type}{pre xs:Array α}{lo:Nat}
end
section
variable {prog:Program}{w:World}{A:Around}{E:VP}{s:Shared}{st:SortSt}{κ:SortKind}{f:Nat->Keyed}{lt:Nat->Nat->Bool}{N lo:Nat}{pre:Array Keyed}{p:Array Nat}
end
open L2 S PySem.W
local macro_rules | `(tactic| walk_at "whr")=>`(tactic| ((repeat (extract_lets +onlyGivenNames -underBinder -merge a; (fail_if_success (have:_->_:=a));subst a)); (try dsimp (config:={zeta:=false,zetaHave:=false}) only); (repeat (extract_lets +onlyGivenNames -underBinder -merge a; (fail_if_success (have:_->_:=a));subst a))))
section
variable {prog:Program}{w:World}{A:Around}{E:VP}{s:Shared}{st:SortSt}{κ:SortKind}{f:Nat->Keyed}{lt:Nat->Nat->Bool}{N lo:Nat}{pre:Array Keyed}{p:Array Nat}
end
open L2 S PySem.W
local macro_rules | `(tactic| walk_at "op_mergeAt")=>`(tactic| unfold $(Lean.mkIdent (Lean.mkPrivateNameCore `PySem.Builtin.List.W1All `PySem.Builtin.mergeAt)):ident)
local macro_rules | `(tactic| walk_at "whr")=>`(tactic| ((repeat (extract_lets +onlyGivenNames -underBinder -merge a; (fail_if_success (have:_->_:=a));subst a)); (try dsimp (config:={zeta:=false,zetaHave:=false}) only); (repeat (extract_lets +onlyGivenNames -underBinder -merge a; (fail_if_success (have:_->_:=a));subst a))))
section
variable {α:Type}
end
section
variable {prog:Program}{w:World}{A:Around}{E:VP}{s:Shared}{st:SortSt}{κ:SortKind}{it:Array Keyed}{lt:Nat->Nat->Bool}{N:Nat}{L as bs R:List Nat}
end
open L2 S PySem.W
section
variable {prog:Program}{w:World}{A:Around}{E:VP}{s:Shared}{st:SortSt}{κ:SortKind}{it:Array Keyed}{lt:Nat->Nat->Bool}{N:Nat}{rs:List (List Nat)}{T:List Nat}
end
open L2 S PySem.W
local macro_rules | `(tactic| walk_at "whr")=>`(tactic| ((repeat (extract_lets +onlyGivenNames -underBinder -merge a; (fail_if_success (have:_->_:=a));subst a)); (try dsimp (config:={zeta:=false,zetaHave:=false}) only); (repeat (extract_lets +onlyGivenNames -underBinder -merge a; (fail_if_success (have:_->_:=a));subst a))))
section
variable {prog:Program}{w:World}{A:Around}{E:VP}{s:Shared}{st:SortSt}{κ:SortKind}{it:Array Keyed}{lt:Nat->Nat->Bool}{N:Nat}{rs:List (List Nat)}{T:List Nat}
end
end Sw
namespace S
open PySem PySem.W PyProof.Rows
section
variable {prog:Program}{w:World}{A:Around}{E:VP}{s:Shared}
end
end S
namespace D
open L2 S
section
variable {X:Cx}{K:FG}
end
open PySem.W
section
variable {X:Cx}{pins:PN}{σ:St}{f a kS:Addr}{xs:List V}{us:List Value}{e1:Nat}
end
section
variable {X:Cx}{pins:PN}{σ:St}{f d:Addr}
end
open PySem.W (kla_obj kla_fn)
section
variable {X:Cx}{K:FG}
variable {P cd:Addr}{q x:Str}{lpos pos p kpos:Pos}{params:Arguments}{body o:Expr}{sc:Scope}{fr:List Nat}{to tb:TD}{k:Nat}
end
section
variable {X:Cx}{K:FG}
end
open Rc Stc
section
variable {R:Type}[DecidableEq R]
variable {M M':MH}{b:Addr}{C:R->Option (Addr×MO)}
end
def kf(N:List Str)(f:Str->W):List (Key×W):=N.map λ z=>(.inr z,f z)
section
variable {prog:Program}{w:World}{A:Around}{s:Shared}{vs:List Value}{zs:List Str}
end
section
variable {X:Cx}{K:FG}
end
end D
namespace HT
open PySem PyProof.Rows
open PySem.SeqAt
section
open PySem.MeetsSeq PySem.MeetsSeq2 PySem.MeetsSeq3
end
open PySem.SeqAt
section
variable {prog:Program}{w:World}{A:Around}{R:Result->Shared->Prop}{I:Addr}{fp wr:List Addr}{n:Nat}{P:Nat->Value->Prop}{St:Nat->Heap->Prop}{h0:Heap}
end
section
variable {prog:Program}{w:World}{A:Around}{E:VP}{s:Shared}{Q:VP}{bt:Nat->Nat->Bool}
end
end HT
namespace D
open L2 HT
section
variable {lt:List PyData->List PyData->Bool}{rows:List (List PyData)}
end
section
variable {X:Cx}{K:FG}{pins:PN}{σ:St}{H:Hp}{s:Shared}
end
open PySem.W (kla_fn)
section
variable {X:Cx}{pins:PN}{σ:St}{H:Hp}{s:Shared}{l f it S:Addr}{xs:List V}{R:Result->Shared->Prop}{k:Nat}
end
section
variable {X:Cx}{P cd:Addr}{q x:Str}{lpos pos p kpos kpos2 kp:Pos}{j:Nat}{params:Arguments}{body o:Expr}{sc:Scope}{fr:List Nat}{to tb:TD}{k:Nat}
end
end D
namespace L2
end L2
namespace D
open L2
end D
namespace L2
section
variable {M:Model}{A:Around}{E:VP}{s:Shared}
end
section
variable {X:Cx}{pins:PN}{σ:St}{H:Hp}{s:Shared}{sc:Scope}{own:List Str}{fr:List Nat}{cl cc:List (Str×Addr)}{fp:List Addr}{C:Addr}
end
section
variable {X:Cx}{pins:PN}{σ:St}{H:Hp}{s:Shared}{sc:Scope}{own:List Str}{fr:List Nat}{cl cc:List (Str×Addr)}{fp:List Addr}{C:Addr}{h1:Heap}
end
section
variable {X:Cx}{pins:PN}{σ:St}{H:Hp}{s:Shared}{sc:Scope}{own:List Str}{fr:List Nat}{cl cc:List (Str×Addr)}{fp:List Addr}{C:Addr}{h1:Heap}
end
section
variable {X:Cx}{pins:PN}{σ:St}{H:Hp}{s:Shared}{sc:Scope}{own:List Str}{fr:List Nat}{cl:List (Str×Addr)}{fp:List Addr}{it:Addr}{J:It}{tn:Nat->Heap->Prop}{g:TG}{tt:TT}{te:TE}{W:LcW}{Fin:List V->Hp->Prop}
 {elt tg iter:Expr}{ifs:List Expr}{pos:Pos}{E:VP}
end
end L2
namespace D
open L2
section
variable {X:Cx}{sc:Scope}{own:List Str}{fr:List Nat}{di:TId}{g:TGd}{tt:TTd}{te:TD}{tg iter elt:Expr}{ifs:List Expr}{pos:Pos}
end
open HT
section
variable {X:Cx}{tg a b c:Expr}{p pos:Pos}
end
section
variable {P:Program}{w:World}{A:Around}{R:Result->Shared->Prop}{it l S:Addr}{its:List Value}{ns:List Int}{kw:List (Str×Value)}
end
section
variable {X:Cx}{K:FG}{e:Expr}{te:TE}{p pos kpos kp:Pos}{j:Nat}{i:Int}
end
section
variable {prog:Program}{w:World}{A:Around}{E:VP}{s:Shared}
end
section
variable {X:Cx}{e:Expr}{te:TE}{j:Nat}{cp pos p2:Pos}
end
section
variable {X:Cx}{K:FG}{e:Expr}{te:TD}{j:Nat}{cp pos p2:Pos}
end
section
variable {X:Cx}{tg a b c e:Expr}{td te:TD}{p pos kpos kp cp p2:Pos}{j:Nat}{i:Int}
end
section
variable {prog:Program}{w:World}{A:Around}{E:VP}{s:Shared}
end
open L2
section
variable {X:Cx}{K:FG}{e:Expr}{to:TE}{td:TD}{p1 p2 pos1 pos2:Pos}
end
def lpN(mask:Nat):Nat->Nat×Nat->Nat×Nat
 | 0,s=>s
 | n+1,s=>lpN mask n (SetTable.leap mask s.1 s.2)
theorem kT(mask:Nat):∀ (a b:Nat) (s:Nat×Nat),lpN mask (a+b) s=lpN mask b (lpN mask a s)
 | 0,b,s=>by rw[Nat.zero_add];rfl
 | a+1,b,s=>by rw[Nat.succ_add];exact kT mask a b _
theorem mK(mask:Nat):∀ (n:Nat) (s:Nat×Nat),(lpN mask n s).2=s.2 / 32 ^ n
 | 0,s=>by simp[lpN]
 | n+1,s=>by show(lpN mask n (SetTable.leap mask s.1 s.2)).2=_;rw[mK mask n];show s.2 / 32 / 32 ^ n=_;rw[Nat.div_div_eq_div_mul,Nat.pow_succ,Nat.mul_comm]
theorem u9(mask:Nat):∀ (n:Nat) (s:Nat×Nat),s.1<=mask->(lpN mask n s).1<=mask
 | 0,_,h=>h
 | n+1,s,_=>u9 mask n _ (Nat.le_of_lt_succ (Nat.mod_lt _ (Nat.succ_pos _)))
def cyc(N:Nat):Nat->Nat->Nat
 | 0,i=>i
 | n+1,i=>cyc N n ((i * 5+1) % N)
theorem fY(N:Nat):∀ (a b i:Nat),cyc N (a+b) i=cyc N b (cyc N a i)
 | 0,b,i=>by rw[Nat.zero_add];rfl
 | a+1,b,i=>by rw[Nat.succ_add];exact fY N a b _
theorem pZ(mask:Nat):∀ (n i:Nat),(lpN mask n (i,0)).1=cyc (mask+1) n i
 | 0,i=>rfl
 | n+1,i=>by show(lpN mask n (SetTable.leap mask i 0)).1=cyc (mask+1) n ((i * 5+1) % (mask+1));rw[<- pZ mask n];rfl
def vH(N:Nat):Nat->Nat->List Nat
 | 0,_=>[]
 | n+1,i=>i::vH N n ((i * 5+1) % N)
theorem k0(N:Nat){x:Nat}:∀ (n i:Nat),x∈vH N n i->∃ t<n,cyc N t i=x
 | 0,_,h=>by cases h
 | n+1,i,h=>by
  rcases List.mem_cons.mp h with e | h
  ·exact⟨0,Nat.succ_pos _,e.symm⟩
  ·obtain⟨t,h1,h2⟩:=k0 N n _ h;exact⟨t+1,Nat.succ_lt_succ h1,h2⟩
def ya(l:List Nat)(N:Nat):Bool:=(List.range N).all λ x=>l.contains x
structure gu(N:Nat):Prop where
 all:ya (vH N N 0) N=true
 back:cyc N N 0=0
theorem xP:gu 8:=⟨by decide +kernel,by decide +kernel⟩
theorem vP:gu 32:=⟨by decide +kernel,by decide +kernel⟩
theorem sU:gu 128:=⟨by decide +kernel,by decide +kernel⟩
theorem uv:gu 512:=⟨by decide +kernel,by decide +kernel⟩
theorem gu.at0{N:Nat}(h:gu N){x:Nat}(hx:x<N):∃ t<N,cyc N t 0=x:=by have:=List.all_eq_true.mp h.all x (List.mem_range.mpr hx);exact k0 N N 0 (List.contains_iff_mem.mp this)
theorem gu.hit{N:Nat}(h:gu N){i x:Nat}(hi:i<N)(hx:x<N):∃ t<N,cyc N t i=x:=by
 obtain⟨a,ha,ea⟩:=h.at0 hi;obtain⟨b,hb,eb⟩:=h.at0 hx
 by_cases q:a<=b
 ·refine⟨b-a,by omega,?_⟩;rw[<- ea,<- fY,show a+(b-a)=b by omega,eb]
 ·refine⟨N-a+b,by omega,?_⟩;rw[<- ea,<- fY,show a+(N-a+b)=N+b by omega,fY,h.back,eb]
def cq(mask:Nat):Prop:=mask=7\/mask=31\/mask=127\/mask=511
theorem cq.cyc{mask:Nat}(h:cq mask):gu (mask+1):=by
 rcases h with e | e | e | e<;>subst e
 ·exact xP
 ·exact vP
 ·exact sU
 ·exact uv
theorem gw{mask:Nat}(h:cq mask){i p x:Nat}(hi:i<=mask)(hp:p<2 ^ 64)(hx:x<=mask):∃ m,m<=mask+13/\1<=m/\(lpN mask m (i,p)).1=x:=by have h1:=u9 mask 13 (i,p) hi;have h2:=mK mask 13 (i,p);have h3:p / 32 ^ 13=0:=Nat.div_eq_of_lt (Nat.lt_of_lt_of_le hp (by decide));obtain⟨t,ht,e⟩:=h.cyc.hit (i:=(lpN mask 13 (i,p)).1) (x:=x) (by omega) (by omega);refine⟨13+t,by omega,by omega,?_⟩;rw[kT];have e2:lpN mask 13 (i,p)=((lpN mask 13 (i,p)).1,0):=Prod.ext rfl (by rw[h2];exact h3);rw[e2,pZ];exact e
theorem md{mask:Nat}{owner:Array (Option Nat)}:∀ (m fuel i p:Nat),m<fuel->(owner.getD (lpN mask m (i,p)).1 (some 0)).isNone=true->∃ j,SetTable.layClean.free mask owner fuel i p=some j/\(owner.getD j (some 0)).isNone=true:=by
 intro m
 induction m with
 | zero =>
  intro fuel i p hf h;obtain⟨f,rfl⟩:∃ f,fuel=f+1:=⟨fuel-1,by omega⟩;unfold SetTable.layClean.free;cases e:(List.range (SetTable.runEnd mask i+1-i)).find? λ k=>(owner.getD (i+k) (some 0)).isNone with
  | some k=>exact⟨i+k,rfl,by have:=List.find?_some e;exact this⟩
  | none =>
   have:=List.find?_eq_none.mp e 0 (List.mem_range.mpr (by unfold SetTable.runEnd;split<;>omega));exact absurd h this
 | succ m ih =>
  intro fuel i p hf h;obtain⟨f,rfl⟩:∃ f,fuel=f+1:=⟨fuel-1,by omega⟩;unfold SetTable.layClean.free;cases e:(List.range (SetTable.runEnd mask i+1-i)).find? λ k=>(owner.getD (i+k) (some 0)).isNone with
  | some k=>exact⟨i+k,rfl,by have:=List.find?_some e;exact this⟩
  | none=>exact ih f _ _ (by omega) h
theorem mx(h:Int):SetTable.bits h<2 ^ 64:=by
 unfold SetTable.bits;have h1:=Int.emod_nonneg h (show(2 ^ 64:Int)≠0 by decide);have h2:=Int.emod_lt_of_pos h (show(0:Int)<2 ^ 64 by decide);omega
structure Ow(mask:Nat)(owner:Array (Option Nat))(k:Nat):Prop where
 size:owner.size=mask+1
 cnt:owner.toList.countP Option.isSome=k
 vals:∀ v,some v∈owner.toList->v<k
theorem cnt_none:∀ (l:List (Option Nat)),l.countP Option.isSome<l.length->∃ j,j<l.length/\l[j]? =some none
 | [],h=>by simp at h
 | none::l,_=>⟨0,by simp,rfl⟩
 | some x::l,h=>by rw[List.countP_cons_of_pos rfl,List.length_cons] at h;obtain⟨j,h1,h2⟩:=cnt_none l (by omega);exact⟨j+1,by rw[List.length_cons];omega,h2⟩
theorem lK(v:Nat):∀ (l:List (Option Nat)) (j:Nat),l[j]? =some none->(l.set j (some v)).countP Option.isSome=l.countP Option.isSome+1
 | [],j,h=>by simp at h
 | x::l,0,h=>by
  have:x=none:=by simpa using h
  subst this;rw[List.set_cons_zero,List.countP_cons_of_pos rfl,List.countP_cons_of_neg (by simp)]
 | x::l,j+1,h=>by
  have ih:=lK v l j h;rw[List.set_cons_succ];cases x with
  | none=>rw[List.countP_cons_of_neg (by simp),List.countP_cons_of_neg (by simp),ih]
  | some y=>rw[List.countP_cons_of_pos rfl,List.countP_cons_of_pos rfl,ih]
theorem Ow.new(mask:Nat):Ow mask (Array.replicate (mask+1) none) 0:=
 ⟨by simp,by rw[Array.toList_replicate,List.countP_replicate];rfl,λ v hv=>by rw[Array.toList_replicate] at hv;have:=(List.mem_replicate.mp hv).2;cases this⟩
theorem Ow.next{mask:Nat}(hm:cq mask){owner:Array (Option Nat)}{k:Nat}(h:Ow mask owner k)(hk:k<=mask)(hash:Int):∃ j,SetTable.layClean.free mask owner (SetTable.turns mask) (SetTable.bits hash % (mask+1)) (SetTable.bits hash)=some j/\Ow mask (owner.setIfInBounds j (some k)) (k+1):=by
 obtain⟨x,hx,ex⟩:=cnt_none owner.toList (by rw[h.cnt,Array.length_toList,h.size];omega);rw[Array.length_toList,h.size] at hx;obtain⟨m,h1,_,h2⟩:=gw hm (i:=SetTable.bits hash % (mask+1)) (p:=SetTable.bits hash) (x:=x) (Nat.le_of_lt_succ (Nat.mod_lt _ (Nat.succ_pos _))) (mx hash) (by omega);have hd:∀ j,(owner.getD j (some 0)).isNone=true->owner.toList[j]? =some none:=λ j e=>by
  rw[Array.getElem?_toList];rw[Array.getD_eq_getD_getElem?] at e;cases z:owner[j]? with
  | none=>rw[z] at e;cases e
  | some o =>
   rw[z] at e;cases o with
   | none=>rfl
   | some v=>cases e
 obtain⟨j,e1,e2⟩:=md m (SetTable.turns mask) (SetTable.bits hash % (mask+1)) (SetTable.bits hash) (by unfold SetTable.turns;omega) (by rw[h2,Array.getD_eq_getD_getElem?,<- Array.getElem?_toList,ex];rfl)
 have e3:=hd j e2;refine⟨j,e1,by rw[Array.size_setIfInBounds];exact h.size,?_,λ v hv=>?_⟩
 ·rw[Array.toList_setIfInBounds,lK k _ j e3,h.cnt]
 ·rw[Array.toList_setIfInBounds] at hv;rcases List.mem_or_eq_of_mem_set hv with hv | hv
  ·have:=h.vals v hv;omega
  ·injection hv with hv;omega
theorem ki{mask:Nat}(hm:cq mask)(hashes:Array Int)(hn:hashes.size<=mask+1):∃ owner,SetTable.layClean mask hashes=some owner/\Ow mask owner hashes.size:=by
 have:∀ (l:List Int) (owner:Array (Option Nat)) (k:Nat),Ow mask owner k->k+l.length<=mask+1->∃ owner',l.foldl (init:=some (owner,k)) (λ acc h=>do
   let (owner,k) <- acc
   let j <- SetTable.layClean.free mask owner (SetTable.turns mask) (SetTable.bits h % (mask+1)) (SetTable.bits h)
   pure (owner.setIfInBounds j (some k),k+1))=some (owner',k+l.length)/\Ow mask owner' (k+l.length):=by
  intro l
  induction l with
  | nil=>intro owner k h _;exact⟨owner,rfl,h⟩
  | cons x l ih =>
   intro owner k h hl;rw[List.length_cons] at hl;obtain⟨j,e1,h2⟩:=h.next hm (by omega) x;obtain⟨o,e2,h3⟩:=ih _ _ h2 (by omega);rw[List.length_cons,show k+(l.length+1)=k+1+l.length by omega];refine⟨o,?_,h3⟩;rw[List.foldl_cons,<- e2];congr 1;show(do let j <- SetTable.layClean.free mask owner (SetTable.turns mask) (SetTable.bits x % (mask+1)) (SetTable.bits x);pure (owner.setIfInBounds j (some k),k+1))=_;rw[e1];rfl
 obtain⟨o,e,h⟩:=this hashes.toList _ 0 (Ow.new mask) (by rw[Array.length_toList];omega);rw[Nat.zero_add,Array.length_toList] at e h;refine⟨o,?_,h⟩;unfold SetTable.layClean;rw[<- Array.foldl_toList,e];rfl
theorem ny(owner:Array (Option Nat)){mask:Nat}(hs:owner.size=mask+1):((List.range (mask+1)).filterMap λ j=>(owner.getD j none).map (j,·)).length=owner.toList.countP Option.isSome:=by
 have e:owner.toList=(List.range (mask+1)).map λ j=>owner.getD j none:=by
  refine List.ext_getElem? λ j=>?_;rw[Array.getElem?_toList,List.getElem?_map]
  by_cases h:j<mask+1
  ·rw[List.getElem?_range h,Array.getElem?_eq_getElem (by omega)];simp[Array.getD_eq_getD_getElem?,Array.getElem?_eq_getElem (show j<owner.size by omega)]
  ·rw[List.getElem?_eq_none (by simpa using h),Array.getElem?_eq_none (by omega)];rfl
 rw[e,List.countP_map];have:∀ l:List Nat,(l.filterMap λ j=>(owner.getD j none).map (j,·)).length=l.countP (Option.isSome ∘ λ j=>owner.getD j none):=λ l=>by
  induction l with
  | nil=>rfl
  | cons x l ih =>
   cases q:owner.getD x none with
   | none=>rw[List.filterMap_cons_none (by rw[q];rfl),List.countP_cons_of_neg (by show ¬ ((owner.getD x none).isSome=true);rw[q];decide),ih]
   | some v=>rw[List.filterMap_cons_some (b:=(x,v)) (by rw[q];rfl),List.countP_cons_of_pos (by show(owner.getD x none).isSome=true;rw[q];rfl),List.length_cons,ih]
 exact this _
theorem lX{mask finger moves:Nat}{led plain:Bool}(hm:cq mask)(hashes:Array Int)(hn:hashes.size<=mask+1):∃ pl order,SetTable.laid mask finger moves led plain hashes=some ({mask,place:=pl,dummies:=#[],finger,led,moves,plain},order)/\pl.size=hashes.size/\order.size=hashes.size/\∀ k∈order.toList,k<hashes.size:=by
 obtain⟨owner,e,h⟩:=ki hm hashes hn;have hl:=ny owner h.size;rw[h.cnt] at hl;refine⟨_,_,by unfold SetTable.laid;rw[e];rfl,?_,?_,λ k hk=>?_⟩
 ·rw[List.size_toArray,List.length_map];exact hl
 ·rw[List.size_toArray,List.length_map];exact hl
 ·simp only[List.mem_map,List.mem_filterMap,List.mem_range] at hk;obtain⟨⟨j,v⟩,⟨j',hj',e1⟩,rfl⟩:=hk;rw[Array.getD_eq_getD_getElem?,Array.getElem?_eq_getElem (by rw[h.size];exact hj')] at e1;refine h.vals v ?_;have e2:owner[j']'(by rw[h.size];exact hj')=some v:=by
   cases q:owner[j']'(by rw[h.size];exact hj') with
   | none=>rw[q] at e1;cases e1
   | some u=>rw[q] at e1;injection e1 with e1;injection e1 with _ e1;rw[e1]
  rw[<- e2];exact Array.getElem_mem_toList ..
structure Tb(t:SetTable)(n:Nat):Prop where
 mask:cq t.mask
 size:t.place.size=n
 room:n<=t.mask
 dum:t.dummies = #[]
theorem has_none(j:Nat):SetTable.has #[] j=false:=rfl
theorem Tb.wb{t:SetTable}{n:Nat}(h:Tb t n)(j:Nat):t.slot j ≠ .dummy:=by
 unfold SetTable.slot;dsimp only;rw[h.dum,has_none]
 split
 ·exact nofun
 ·exact nofun
theorem Tb.hole{t:SetTable}{n:Nat}(h:Tb t n):∃ x,x<=t.mask/\t.slot x=.empty:=by
 have:∃ x,x<=t.mask/\x ∉ t.place.toList:=by
  apply Classical.byContradiction;intro hno;have sub:List.range (t.mask+1) ⊆ t.place.toList:=λ x hx=>by
   apply Classical.byContradiction;intro hx2;exact hno ⟨x,by have:=List.mem_range.mp hx;omega,hx2⟩
  have:=List.nodup_range.length_le_of_subset sub;rw[List.length_range,Array.length_toList,h.size] at this;have:=h.room;omega
 obtain⟨x,hx,hn⟩:=this;refine⟨x,hx,?_⟩;unfold SetTable.slot;dsimp only;rw[h.dum,has_none,if_neg λ e=>hn ?_]
 ·rfl
 ·have e:=eq_of_beq e;rw[<- Array.getElem?_toList] at e;exact List.mem_of_getElem? e
def fD(t:SetTable):Nat->SetTable.Probe->SetTable.Probe
 | 0,p=>p
 | n+1,p=>fD t n (t.advance p)
theorem jm(t:SetTable):∀ (a b:Nat) (p:SetTable.Probe),fD t (a+b) p=fD t b (fD t a p)
 | 0,b,p=>by rw[Nat.zero_add];rfl
 | a+1,b,p=>by rw[Nat.succ_add];exact jm t a b _
theorem mY(t:SetTable):∀ (r:Nat) (p:SetTable.Probe),p.more=r->∃ k,1<=k/\k<=r+1/\(fD t k p).i=(SetTable.leap t.mask p.i p.perturb).1/\(fD t k p).perturb=(SetTable.leap t.mask p.i p.perturb).2/\(fD t k p).j=(SetTable.leap t.mask p.i p.perturb).1/\(fD t k p).more<=9
 | 0,p,h=>by
  refine⟨1,Nat.le_refl _,Nat.le_refl _,?_⟩;show(t.advance p).i=_/\(t.advance p).perturb=_/\(t.advance p).j=_/\(t.advance p).more<=9;unfold SetTable.advance;rw[if_neg (by omega)];refine⟨rfl,rfl,rfl,?_⟩;dsimp only;unfold SetTable.runEnd
  split<;>omega
 | r+1,p,h=>by
  obtain⟨k,h1,h2,h3,h4,h5,h6⟩:=mY t r {p with j:=p.j+1,more:=p.more-1} (by dsimp only;omega);have e:t.advance p={p with j:=p.j+1,more:=p.more-1}:=by
   unfold SetTable.advance;rw[if_pos (by omega)]
  refine⟨k+1,by omega,by omega,?_⟩;show(fD t k (t.advance p)).i=_/\(fD t k (t.advance p)).perturb=_/\(fD t k (t.advance p)).j=_/\(fD t k (t.advance p)).more<=9;rw[e];exact⟨h3,h4,h5,h6⟩
theorem g7(t:SetTable):∀ (m:Nat) (p:SetTable.Probe),p.more<=9->1<=m->∃ k,k<=10 * m/\(fD t k p).j=(lpN t.mask m (p.i,p.perturb)).1
 | 0,_,_,h=>by omega
 | m+1,p,hp,_=>by
  obtain⟨k,h1,h2,h3,h4,h5,h6⟩:=mY t p.more p rfl;rcases Nat.eq_zero_or_pos m with e | e
  ·subst e;exact⟨k,by omega,h5⟩
  ·obtain⟨k',h7,h8⟩:=g7 t m (fD t k p) h6 e;refine⟨k+k',by omega,?_⟩;rw[jm,h8,h3,h4];rfl
theorem Tb.meets{t:SetTable}{n:Nat}(h:Tb t n)(hash:Int):∃ d,d<=10 * (t.mask+13)/\t.slot (fD t d (t.probeStart hash)).j=.empty:=by obtain⟨x,hx,e⟩:=h.hole;obtain⟨m,h1,h2,h3⟩:=gw h.mask (i:=SetTable.bits hash % (t.mask+1)) (p:=SetTable.bits hash) (x:=x) (Nat.le_of_lt_succ (Nat.mod_lt _ (Nat.succ_pos _))) (mx hash) hx;obtain⟨k,h4,h5⟩:=g7 t m (t.probeStart hash) (by unfold SetTable.probeStart;dsimp only;unfold SetTable.runEnd;split<;>omega) h2;refine⟨k,by omega,?_⟩;rw[h5];show t.slot (lpN t.mask m (SetTable.bits hash % (t.mask+1),SetTable.bits hash)).1=_;rw[h3,e]
theorem gO(t:SetTable)(p:SetTable.Probe):(t.advance p).dummy=p.dummy:=by
 unfold SetTable.advance
 split<;>rfl
inductive Mt(t:SetTable) (hashAt:Nat->Int) (hash:Int) (d:Nat):SetTable.Met->Prop
 | empty (j:Nat):Mt t hashAt hash d (.empty j none)
 | cand (j i:Nat) (p:SetTable.Probe) (d':Nat) (hs:t.slot j=.live i) (he:hashAt i=hash) (hd:d'<d) (h:t.slot (fD t d' p).j=.empty) (hn:p.dummy=none):Mt t hashAt hash d (.candidate j i p)
theorem nt{t:SetTable}{n:Nat}(h:Tb t n)(hashAt:Nat->Int)(hash:Int):∀ (d fuel:Nat) (p:SetTable.Probe),d<fuel->t.slot (fD t d p).j=.empty->p.dummy=none->∃ r,SetTable.probe.go t hashAt hash fuel p=some r/\Mt t hashAt hash d r:=by
 intro d
 induction d with
 | zero =>
  intro fuel p hf he hn;obtain⟨f,rfl⟩:∃ f,fuel=f+1:=⟨fuel-1,by omega⟩;have he:t.slot p.j=.empty:=he;unfold SetTable.probe.go;rw[he];exact⟨_,rfl,by rw[hn];exact .empty _⟩
 | succ d ih =>
  intro fuel p hf he hn;obtain⟨f,rfl⟩:∃ f,fuel=f+1:=⟨fuel-1,by omega⟩;have he:t.slot (fD t d (t.advance p)).j=.empty:=he;unfold SetTable.probe.go;cases e:t.slot p.j with
  | empty=>exact⟨_,rfl,by rw[hn];exact .empty _⟩
  | dummy=>exact absurd e (h.wb _)
  | live i =>
   dsimp only;cases q:hashAt i==hash with
   | true=>exact⟨_,rfl,.cand _ _ _ d e (eq_of_beq q) (Nat.lt_succ_self _) he (by rw[gO];exact hn)⟩
   | false =>
    obtain⟨r,e1,m1⟩:=ih f (t.advance p) (by omega) he (by rw[gO];exact hn);refine⟨r,e1,?_⟩;cases m1 with
    | empty j=>exact .empty j
    | cand j i p d' hs hh hd h' hn'=>exact .cand j i p d' hs hh (by omega) h' hn'
theorem oH{t:SetTable}{n:Nat}(h:Tb t n)(hashAt:Nat->Int)(hash:Int){d:Nat}{p:SetTable.Probe}(hd:d<=10 * (t.mask+13))(he:t.slot (fD t d p).j=.empty)(hn:p.dummy=none):∃ r,t.probe hashAt hash p=some r/\Mt t hashAt hash d r:=
 nt h hashAt hash d _ p (by unfold SetTable.turns;omega) he hn
section
variable {prog:Program}{w:World}{A:Around}{E:VP}{s:Shared}
abbrev dN(prog:Program)(w:World)(h:Heap)(ks:List Int)(a:Addr):Prop:=IsTupleKey (intKind prog w) h ks a
theorem fL(n:Nat){v:Value}(h:carriedByValue v=true):ofAClassStatement n v=pure false:=by
 cases v with
 | ref a=>simp[carriedByValue] at h
 | _=>first | rfl | (unfold ofAClassStatement;rfl)
theorem eK{ks:List Int}{a:Addr}{Q:Bool->Shared->Prop}(hk:dN prog w s.heap ks a)(h:Q false s):wpAny (model prog w) A (ofAClassStatement 8 (.ref a)) Q E s:=by
 have hT:=hk.typeIs;obtain⟨o,items,n,ho,_,hd,hi⟩:=hk;unfold ofAClassStatement;refine wpAny_bind (wpAny_typeOf hT ?_);show wpAny _ _ (pure true >>= _) _ _ s;refine wpAny_bind (wpAny_pure ?_);simp only[Bool.not_true,Bool.false_eq_true,if_false];refine wpAny_bind (wpAny_seqItems ho hd ?_);dsimp only;refine wpAny_bind ?_;show wpAny _ _ (forIn items _ _) _ _ s;rw[<- Array.forIn_toList];refine wpAny_forIn_list _ (λ rest r s'=>r.1=none/\s'=s/\∀ v∈rest,carriedByValue v=true) _ ?_ ?_ _ _ ⟨rfl,rfl,hi.byValue⟩
 ·rintro v rest r s' ⟨hr,rfl,hall⟩;rw[fL _ (hall v List.mem_cons_self)];refine wpAny_bind (wpAny_pure ?_);simp only[Bool.false_eq_true,if_false];exact wpAny_pure ⟨rfl,rfl,λ u hu'=>hall u (List.mem_cons_of_mem _ hu')⟩
 ·rintro⟨r1,r2⟩ s' ⟨hr,rfl,_⟩;simp only at hr;subst hr;exact wpAny_pure h
theorem iQ{ks:List Int}{a:Addr}{stored:List Value}{Q:Bool->Shared->Prop}(hk:dN prog w s.heap ks a)(hs:∀ v∈stored,∃ k b,v=.ref b/\dN prog w s.heap k b)(h:Q false s):wpAny (model prog w) A (searchCouldBeSeen (.ref a) stored) Q E s:=by
 unfold searchCouldBeSeen;refine wpAny_bind ?_;refine wpAny_forIn_list _ (λ rest r s'=>r.1=none/\s'=s/\∀ v∈rest,∃ k b,v=.ref b/\dN prog w s.heap k b) _ ?_ ?_ _ _ ⟨rfl,rfl,hs⟩
 ·rintro v rest r s' ⟨hr,rfl,hall⟩;obtain⟨k,b,rfl,hb⟩:=hall v List.mem_cons_self;have nx:∀ v∈rest,∃ k b,v=.ref b/\dN prog w s'.heap k b:=λ u hu=>hall u (List.mem_cons_of_mem _ hu);dsimp only;cases e:a==b with
  | true => 
   simp only[Bool.true_or,if_true];exact wpAny_pure ⟨rfl,rfl,nx⟩
  | false =>
   simp only[carriedByValue,Bool.and_false,Bool.or_false,Bool.false_eq_true,if_false];refine wpAny_bind (wpAny_eqIsQuiet_tuple hk ?_);simp only[Bool.not_true,Bool.false_eq_true,if_false];refine wpAny_bind (wpAny_eqIsQuiet_tuple hb ?_);simp only[Bool.not_true,Bool.false_eq_true,if_false];refine wpAny_bind (eK hk ?_);simp only[Bool.not_true,Bool.false_eq_true,if_false];refine wpAny_bind (eK hb ?_);simp only[Bool.not_true,Bool.false_eq_true,if_false];exact wpAny_pure ⟨rfl,rfl,nx⟩
 ·rintro⟨r1,r2⟩ s' ⟨hr,rfl,_⟩;simp only at hr;subst hr;exact wpAny_pure h
structure StP(prog:Program)(w:World)(h:Heap)(S:Addr)(o:Obj)(es:Array (Int×Value))(ep:Nat)(t:SetTable)(n:Nat)(k:List Int):Prop where
 at':h.get? S=some o
 data:o.data=.set es ep t
 tb:Tb t n
 size:es.size=n
 less:n * 5<t.mask * 3
 all:∀ e∈es.toList,∃ k' b,e=(tupleKeyHash (intKind prog w) k',.ref b)/\dN prog w h k' b/\k'≠k
theorem StP.fits{h:Heap}{S:Addr}{o:Obj}{es:Array (Int×Value)}{ep:Nat}{t:SetTable}{n:Nat}{k:List Int}(x:StP prog w h S o es ep t n k):t.fits es.size=true:=by
 unfold SetTable.fits SetTable.fill;rw[x.tb.size,x.tb.dum,x.size];have:=x.tb.room;simp;omega
theorem oR{t:SetTable}(h:cq t.mask):t.gaveWay=false:=by
 unfold SetTable.gaveWay;rcases h with e | e | e | e<;>rw[e]<;>rfl
theorem l7{S:Addr}{o:Obj}{es:Array (Int×Value)}{ep:Nat}{t:SetTable}{n:Nat}{k:List Int}{a:Addr}{Q:SetFound->Shared->Prop}(hu:A.units<cLine)(x:StP prog w s.heap S o es ep t n k)(hk:dN prog w s.heap k a)(h:∀ j,Q (.free j false) s) :
  ∀ (d fuel:Nat) (stand:Option SetTable.Probe),d<fuel->d<=10 * (t.mask+13)->t.slot (fD t d (stand.getD (t.probeStart (tupleKeyHash (intKind prog w) k)))).j=.empty->(stand.getD (t.probeStart (tupleKeyHash (intKind prog w) k))).dummy=none->wpAny (model prog w) A (setSearchFrom S (.ref a) (tupleKeyHash (intKind prog w) k) true fuel stand) Q E s:=by
 intro d
 induction d using Nat.strongRecOn with
 | ind d ih =>
  intro fuel stand hf hd he hn;obtain⟨f,rfl⟩:∃ f,fuel=f+1:=⟨fuel-1,by omega⟩;unfold setSearchFrom;refine wpAny_bind (wpAny_setState_of x.at' x.data x.fits ?_);dsimp only;rw[oR x.tb.mask];simp only[Bool.false_eq_true,if_false];have hp:=λ hashAt=>oH x.tb hashAt (tupleKeyHash (intKind prog w) k) hd he hn;generalize hpr:SetTable.probe t _ _ _=pr;obtain⟨r,hr,hm⟩:=hp _;rw[hr] at hpr;subst hpr;dsimp only;cases hm with
  | empty j=>exact wpAny_pure (h j)
  | cand j i p d' hs hh hlt h' hn' =>
   have hi:i<es.size:=by
    unfold SetTable.slot at hs;dsimp only at hs
    split at hs
    ·rename_i hq
     injection hs with hs
     subst hs;have hq:=eq_of_beq hq;rw[x.size,<- x.tb.size];exact(Array.getElem?_eq_some_iff.mp hq).1
    ·split at hs<;>cases hs
   have hmem:es[i]∈es.toList:=Array.getElem_mem_toList ..;obtain⟨k',b,eb,hb,hne⟩:=x.all _ hmem;have ei:es[i]? =some (tupleKeyHash (intKind prog w) k',Value.ref b):=by rw[Array.getElem?_eq_getElem hi,eb]
   have same:t.sameMemory t.moves t.mask=some true:=by unfold SetTable.sameMemory;simp
   have done:wpAny (model prog w) A (setSearchFrom S (Value.ref a) (tupleKeyHash (intKind prog w) k) true f (some p)) Q E s:=ih d' hlt f (some p) (by omega) (by omega) h' hn';dsimp only
   split
   ·refine wpAny_bind (iQ hk (λ v hv=>?_) ?_)
    ·obtain⟨e,he,rfl⟩:=List.mem_map.mp hv;have he:=(Array.mem_filter.mp (Array.mem_toList_iff.mp he)).1;obtain⟨k2,b2,e2,hb2,_⟩:=x.all e (Array.mem_toList_iff.mpr he);exact⟨k2,b2,by rw[e2],hb2⟩
    simp only[Bool.false_eq_true,if_false];rw[ei];dsimp only;refine wpAny_bind (wpAny_holding (wpAny_eqBool_tuple hu hb hk ?_));rw[decide_eq_false hne];refine wpAny_bind (wpAny_setState_of x.at' x.data x.fits ?_);simp only[Bool.and_false,Bool.false_eq_true,if_false];rw[same];simp only[if_true];rw[hs];dsimp only;rw[ei];dsimp only;refine wpAny_bind (wpAny_isSame_ref_self ?_);simp only[if_true];exact wpAny_bind (wpAny_pure done)
   ·rw[ei];dsimp only;refine wpAny_bind (wpAny_holding (wpAny_eqBool_tuple hu hb hk ?_));rw[decide_eq_false hne];refine wpAny_bind (wpAny_setState_of x.at' x.data x.fits ?_);simp only[Bool.and_false,Bool.false_eq_true,if_false];rw[same];simp only[if_true];rw[hs];dsimp only;rw[ei];dsimp only;refine wpAny_bind (wpAny_isSame_ref_self ?_);simp only[if_true];exact wpAny_bind (wpAny_pure done)
end
section
variable {prog:Program}{w:World}{A:Around}{E:VP}{s:Shared}
theorem nL{n:Nat}{k:Int}{v:Value}(h:(intKind prog w).is k v=true):hashByValue n v=pure true:=by obtain⟨t,rfl⟩:=Value.isInt_shape h;cases n<;>rfl
theorem jR{ks:List Int}{vs:List Value}(h:ItemsAre (intKind prog w) ks vs):∀ v∈vs,∀ n,hashByValue n v=pure true:=by
 induction h with
 | nil=>intro v hv;cases hv
 | cons h1 _ ih =>
  intro v hv n;rcases List.mem_cons.mp hv with rfl | hv
  ·exact nL h1
  ·exact ih v hv n
theorem jX{ks:List Int}{a:Addr}{Q:Bool->Shared->Prop}(hk:dN prog w s.heap ks a)(h:Q true s):wpAny (model prog w) A (hashByValue 8 (.ref a)) Q E s:=by
 have hT:=hk.typeIs;obtain⟨o,items,n,ho,_,hd,hi⟩:=hk;unfold hashByValue;refine wpAny_bind (wpAny_specialOf hT PySem.F.slot_tuple_hash.lookup ?_);dsimp only;refine wpAny_bind (wpAny_seqItems ho hd ?_);refine wpAny_bind ?_;show wpAny _ _ (forIn items _ _) _ _ s;rw[<- Array.forIn_toList];refine wpAny_forIn_list _ (λ rest r s'=>r.1=none/\s'=s/\∀ v∈rest,∀ n,hashByValue n v=pure true) _ ?_ ?_ _ _ ⟨rfl,rfl,jR hi⟩
 ·rintro v rest r s' ⟨hr,rfl,hall⟩;rw[hall v List.mem_cons_self _];refine wpAny_bind (wpAny_pure ?_);simp only[Bool.not_true,Bool.false_eq_true,if_false];exact wpAny_pure ⟨rfl,rfl,λ u hu'=>hall u (List.mem_cons_of_mem _ hu')⟩
 ·rintro⟨r1,r2⟩ s' ⟨hr,rfl,_⟩;simp only at hr;subst hr;exact wpAny_pure h
theorem je{α:Type}(xs:Array α)(p:Nat)(x:α):(SetTable.insertAt xs p x).size=xs.size+1:=by
 unfold SetTable.insertAt;simp only[Array.size_append,Array.size_push,Array.size_extract];omega
theorem qY{α:Type}{xs:Array α}{p:Nat}{x e:α}(h:e∈(SetTable.insertAt xs p x).toList):e=x\/e∈xs.toList:=by
 unfold SetTable.insertAt at h;rw[Array.mem_toList_iff] at h ⊢;simp only[Array.mem_append,Array.mem_push] at h;have ex:∀ a b,e∈xs.extract a b->e∈xs:=λ a b h=>by rw[<- Array.mem_toList_iff,Array.toList_extract] at h;exact Array.mem_toList_iff.mp (List.mem_of_mem_drop (List.mem_of_mem_take h))
 rcases h with (h | h) | h
 ·exact .inr (ex _ _ h)
 ·exact .inl h
 ·exact .inr (ex _ _ h)
theorem dN.keeps{h h':Heap}{S:Addr}{k:List Int}{b:Addr}{o:Obj}{es:Array (Int×Value)}{ep:Nat}{t:SetTable}(x:dN prog w h k b)(ho:h.get? S=some o)(hd:o.data=.set es ep t)(hs:Heap.SameBut S h h'):dN prog w h' k b:=by
 obtain⟨o',items,n,ho',hc,hd',hi⟩:=x;have hne:b≠S:=by
  rintro rfl;obtain rfl:o'=o:=Option.some.inj (ho'.symm.trans ho);rw[hd] at hd';exact nomatch hd'
 exact⟨o',items,n,(hs.2 b hne).trans ho',hc,hd',hi⟩
def StS(prog:Program)(w:World)(h:Heap)(W:List Addr)(S:Addr)(ks:List (List Int))(i:Nat):Prop:=∃ o es ep t,h.get? S=some o/\o.ExactSet/\o.data=.set es ep t/\Tb t i/\es.size=i/\i * 5<t.mask * 3/\∀ e∈es.toList,∃ j<i,∃ b,e=(tupleKeyHash (intKind prog w) (ks.getD j []),.ref b)/\b ∉ W/\dN prog w h (ks.getD j []) b
theorem ir{α:Type}(es:Array α):∀ (l:List Nat),(∀ k∈l,k<es.size)->(l.filterMap λ k=>es[k]?).length=l.length
 | [],_=>rfl
 | k::l,h=>by have hk:=h k List.mem_cons_self;rw[List.filterMap_cons_some (b:=es[k]) (Array.getElem?_eq_getElem hk),List.length_cons,List.length_cons,ir es l λ x hx=>h x (List.mem_cons_of_mem _ hx)]
theorem qy{mask n:Nat}(hm:cq mask)(h1:n * 5<mask * 3)(h2:mask * 3<=(n+1) * 5)(h3:n+1<=300):cq (SetTable.sizeAbove (SetTable.grown (n+1))-1)/\n+1<=SetTable.sizeAbove (SetTable.grown (n+1))-1/\(n+1) * 5<(SetTable.sizeAbove (SetTable.grown (n+1))-1) * 3/\SetTable.sizeAbove (SetTable.grown (n+1))<=1000:=by
 rcases hm with e | e | e | e
 ·have:n+1=5:=by omega
  rw[this];exact⟨.inr (.inl (by decide)),by decide,by decide,by decide⟩
 ·have:n+1=19:=by omega
  rw[this];exact⟨.inr (.inr (.inl (by decide))),by decide,by decide,by decide⟩
 ·have:n+1=77:=by omega
  rw[this];exact⟨.inr (.inr (.inr (by decide))),by decide,by decide,by decide⟩
 ·omega
theorem i8{W:List Addr}{S:Addr}{ks:List (List Int)}{n:Nat}{o:Obj}{es0 es1:Array (Int×Value)}{ep:Nat}{t0 t1:SetTable}{Q:Bool->Shared->Prop}(h300:n<=299)(ho:s.heap.get? S=some o)(hex:o.ExactSet)(hd:o.data=.set es0 ep t0)
  (hm:cq t1.mask)(hp:t1.place.size=n+1)(hdm:t1.dummies = #[])(hz:es1.size=n+1)(hl:n * 5<t1.mask * 3)(hr:n+1<=t1.mask)(hall:∀ e∈es1.toList,∃ j<n+1,∃ b,e=(tupleKeyHash (intKind prog w) (ks.getD j []),.ref b)/\b ∉ W/\dN prog w s.heap (ks.getD j []) b)
  (h:∀ h',Heap.SameBut S s.heap h'->StS prog w h' W S ks (n+1)->Q true {s with heap:=h'}) :
  wpAny (model prog w) A (do
    storeSet S es1 t1
    if (!false&&t1.tooFull)=true then do
      setRelay S (SetTable.grown (n+1))
      pure true
     else pure true) Q E s:=by
 have sz:es1.size<=sizeLine:=by rw[hz,sizeLine_eq];omega
 refine wpAny_bind (wpAny_storeSet_of ho hd ?_ sz);have hg:(s.heap.update S (Obj.putSet es1 t1)).get? S=some {o with data:=.set es1 (ep+1) t1}:=by have:=Heap.get?_update_self (Obj.putSet es1 t1) ho (by rw[putSet_of es1 t1 hd];rfl);rw[putSet_of es1 t1 hd] at this;exact this
 have sb:=Heap.SameBut.update s.heap S (Obj.putSet es1 t1);have hall1:∀ e∈es1.toList,∃ j<n+1,∃ b,e=(tupleKeyHash (intKind prog w) (ks.getD j []),.ref b)/\b ∉ W/\dN prog w (s.heap.update S (Obj.putSet es1 t1)) (ks.getD j []) b:=λ e he=>by obtain⟨j,hj,b,e1,hw,hb⟩:=hall e he;exact⟨j,hj,b,e1,hw,hb.keeps ho hd sb⟩
 have hfill:t1.fill=n+1:=by unfold SetTable.fill;rw[hp,hdm];rfl
 have hfits:t1.fits es1.size=true:=by
  unfold SetTable.fits;rw[hfill,hp,hz];simp;exact hr
 by_cases q:t1.tooFull=true
 ·rw[q];simp only[Bool.not_false,Bool.and_self,if_true];have q2:t1.mask * 3<=(n+1) * 5:=by
   unfold SetTable.tooFull at q;rw[hfill] at q;exact of_decide_eq_true q
  obtain⟨g1,g2,g3,g4⟩:=qy hm hl q2 (by omega);refine wpAny_bind ?_;unfold setRelay;refine wpAny_bind (wpAny_setState_of hg rfl hfits ?_);dsimp only;rw[if_neg (by rw[sizeLine_eq];omega)];obtain⟨pl,order,e1,e2,e3,e4⟩:=lX (finger:=t1.finger) (moves:=t1.movedTo (SetTable.sizeAbove (SetTable.grown (n+1))-1)) (led:=t1.led) (plain:=t1.plain) g1 (es1.map (·.1)) (by rw[Array.size_map,hz];omega);rw[Array.size_map,hz] at e2 e3 e4;rw[show t1.relaid (es1.map (·.1)) (SetTable.grown (n+1))=_ from e1];have fz:(order.filterMap λ k=>es1[k]?).size=es1.size:=by rw[<- Array.length_toList,Array.toList_filterMap,ir es1 order.toList λ k hk=>by rw[hz];exact e4 k hk,Array.length_toList,e3,hz]
  refine wpAny_bind ?_;generalize ht2:({mask:=SetTable.sizeAbove (SetTable.grown (n+1))-1,place:=pl,dummies:=#[],finger:=t1.finger,led:=t1.led,moves:=t1.movedTo (SetTable.sizeAbove (SetTable.grown (n+1))-1),plain:=t1.plain}:SetTable)=t2;show wpAny (model prog w) A (if ((order.filterMap λ k=>es1[k]?).size != es1.size)=true then (unsupported "internal:set-table-lost-an-element" >>= λ _=>pure (order.filterMap λ k=>es1[k]?,t2)) else pure (order.filterMap λ k=>es1[k]?,t2)) _ E _;rw[fz,bne_self_eq_false];simp only[Bool.false_eq_true,if_false];refine wpAny_pure ?_;have m2:t2.mask=SetTable.sizeAbove (SetTable.grown (n+1))-1:=by rw[<- ht2]
  have hsz2:(order.filterMap λ k=>es1[k]?).size<=sizeLine:=by rw[fz];exact sz
  refine wpAny_storeSet_of hg rfl ?_ hsz2;have mem2:∀ e∈(order.filterMap λ k=>es1[k]?).toList,e∈es1.toList:=λ e he=>by rw[Array.toList_filterMap] at he;obtain⟨k,_,hk⟩:=List.mem_filterMap.mp he;rw[<- Array.getElem?_toList] at hk;exact List.mem_of_getElem? hk
  have hg2:=Heap.get?_update_self (Obj.putSet (order.filterMap λ k=>es1[k]?) t2) hg (by rw[putSet_of _ t2 rfl];rfl);rw[putSet_of _ t2 rfl] at hg2;have sb2:=Heap.SameBut.update (s.heap.update S (Obj.putSet es1 t1)) S (Obj.putSet (order.filterMap λ k=>es1[k]?) t2);refine wpAny_pure (h _ (sb.trans sb2) ⟨_,_,_,t2,hg2,hex,rfl,⟨by rw[m2];exact g1,by rw[<- ht2];exact e2,by rw[m2];exact g2,by rw[<- ht2]⟩,by rw[fz,hz],by rw[m2];exact g3,λ e he=>?_⟩);obtain⟨j,hj,b,e5,hw,hb⟩:=hall1 e (mem2 e he);exact⟨j,hj,b,e5,hw,hb.keeps hg rfl sb2⟩
 ·rw[Bool.eq_false_iff.mpr q];simp only[Bool.not_false,Bool.and_false,Bool.false_eq_true,if_false];have q2:(n+1) * 5<t1.mask * 3:=by
   unfold SetTable.tooFull at q;rw[hfill] at q;have:=q;simp at this;omega
  exact wpAny_pure (h _ sb ⟨_,es1,ep+1,t1,hg,hex,rfl,⟨hm,hp,hr,hdm⟩,hz,q2,hall1⟩)
theorem sW{W:List Addr}{S:Addr}{ks:List (List Int)}{i:Nat}{a:Addr}{Q:Bool->Shared->Prop}(hu:A.units<cLine)(hi:i<ks.length)(nd:ks.Nodup)(h300:ks.length<=300)(x:StS prog w s.heap W S ks i)(hk:dN prog w s.heap (ks.getD i []) a)(ha:a ∉ W)
  (h:∀ h',Heap.SameBut S s.heap h'->StS prog w h' W S ks (i+1)->Q true {s with heap:=h'}):wpAny (model prog w) A (setAddHashed S (.ref a) (tupleKeyHash (intKind prog w) (ks.getD i []))) Q E s:=by
 obtain⟨o,es,ep,t,ho,hex,hd,tb,hs,hless,hall⟩:=x;have xp:StP prog w s.heap S o es ep t i (ks.getD i []):=⟨ho,hd,tb,hs,hless,λ e he=>by
  obtain⟨j,hj,b,e1,_,hb⟩:=hall e he;refine⟨_,b,e1,hb,λ e2=>?_⟩;have a1:ks[j]? =some (ks.getD j []):=by simp[List.getD,List.getElem?_eq_getElem (show j<ks.length by omega)]
  have a2:ks[i]? =some (ks.getD i []):=by simp[List.getD,List.getElem?_eq_getElem hi]
  rw[e2] at a1;obtain⟨p1,q1⟩:=List.getElem?_eq_some_iff.mp a1;obtain⟨p2,q2⟩:=List.getElem?_eq_some_iff.mp a2;exact List.pairwise_iff_getElem.mp nd j i p1 p2 hj (by rw[q1,q2])⟩
 unfold setAddHashed setAddHashedIn;refine wpAny_holding (wpAny_bind (wpAny_setState_of ho hd xp.fits ?_));dsimp only;rw[show byScan (.ref a) es=false by simp[byScan,Value.scannable]];simp only[Bool.false_eq_true,if_false];unfold setSearch;obtain⟨d,hd1,hd2⟩:=tb.meets (tupleKeyHash (intKind prog w) (ks.getD i []));have hmask:t.mask<=511:=by rcases tb.mask with e | e | e | e<;>omega
 refine wpAny_bind (l7 hu xp hk (λ j=>?_) d 100000 none (by omega) hd1 hd2 rfl);dsimp only;refine wpAny_bind (wpAny_setState_of ho hd xp.fits ?_);dsimp only;generalize hp:SetTable.below t.place j=p;have et:t.put j=({t with place:=SetTable.insertAt t.place p j},p):=by
  unfold SetTable.put;rw[hp,tb.dum,has_none];simp only[Bool.false_eq_true,if_false]
 rw[et];dsimp only;have p1:(SetTable.insertAt t.place p j).size=i+1:=by rw[je,tb.size]
 have room1:i+1<=t.mask:=by rcases tb.mask with e | e | e | e<;>omega
 have hz1:=je es p (tupleKeyHash (intKind prog w) (ks.getD i []),Value.ref a);have mem1:=λ e=>qY (xs:=es) (p:=p) (x:=(tupleKeyHash (intKind prog w) (ks.getD i []),Value.ref a)) (e:=e);rw[hs] at hz1;have hall1:∀ e∈(SetTable.insertAt es p (tupleKeyHash (intKind prog w) (ks.getD i []),Value.ref a)).toList,∃ j<i+1,∃ b,e=(tupleKeyHash (intKind prog w) (ks.getD j []),.ref b)/\b ∉ W/\dN prog w s.heap (ks.getD j []) b:=λ e he=>by
  rcases mem1 e he with e1 | he
  ·exact⟨i,Nat.lt_succ_self _,a,e1,ha,hk⟩
  ·obtain⟨j,hj,b,e1,hw,hb⟩:=hall e he;exact⟨j,by omega,b,e1,hw,hb⟩
 generalize SetTable.insertAt es p (tupleKeyHash (intKind prog w) (ks.getD i []),Value.ref a)=es1 at *;rw[hs]
 split
 ·refine wpAny_bind (jX hk ?_);simp only[if_true];exact i8 (t1:={t with place:=SetTable.insertAt t.place p j}) (by omega) ho hex hd tb.mask p1 tb.dum hz1 hless room1 hall1 h
 ·refine wpAny_bind (wpAny_pure ?_);simp only[if_true];exact i8 (t1:={t with place:=SetTable.insertAt t.place p j}) (by omega) ho hex hd tb.mask p1 tb.dum hz1 hless room1 hall1 h
end
section
variable {prog:Program}{w:World}{A:Around}{R:Result->Shared->Prop}{I:Addr}{fp wr:List Addr}{G:Array GenState->Array GenState->Prop}{ks:List (List Int)}{P:Nat->Value->Prop}{St:Nat->Shared->Prop}
theorem dN.at'{h h':Heap}{k:List Int}{a:Addr}(x:dN prog w h k a)(e:∀ o,h.get? a=some o->h'.get? a=some o):dN prog w h' k a:=
 let ⟨o,its,n,h1,h2,h3,h4⟩:=x
 ⟨o,its,n,e o h1,h2,h3,h4⟩
theorem dN.lt{h:Heap}{k:List Int}{a:Addr}(x:dN prog w h k a):a<h.objs.size:=let ⟨_,_,_,h1,_⟩:=x; Heap.lt_size h1
def xB(prog:Program)(w:World)(h0:Heap)(W:List Addr)(ks:List (List Int))(i:Nat)(v:Value):Prop:=∃ a,v=.ref a/\a ∉ W/\dN prog w h0 (ks.getD i []) a
theorem lD{h0:Heap}(hu:A.in1.units<cLine)(Wk:WalksS prog w A.in1 I fp wr G ks.length P St)(S:Addr)(hS:S ∉ fp)(hP:∀ i v,P i v->xB prog w h0 (S::wr) ks i v)(nd:ks.Nodup)(hb:ks.length<=300) :
  ∀ (n i:Nat) (s:Shared),i+n=ks.length->St i s->(∀ b o,b ∉ S::wr->h0.get? b=some o->s.heap.get? b=some o)->StS prog w s.heap wr S ks i->(∀ s',Moved (S::wr) G s s'->StS prog w s'.heap wr S ks ks.length->R (.ok (.ret .none)) s') ->
   codeAny (model prog w) A (.builtin "set.update.loop" ⟨[.ref S,.ref I],[]⟩) R s:=by
 have hw:S ∉ wr:=λ h=>hS (Wk.sub _ h);have up:∀ b∈wr,b∈S::wr:=λ b h=>List.mem_cons_of_mem _ h;have still:∀ {s s':Shared} {i:Nat},Moved wr G s s'->StS prog w s.heap wr S ks i->StS prog w s'.heap wr S ks i:=λ hm h=>by obtain⟨o,es,ep,t,ho,h1,h2,h3,h4,h5,h6⟩:=h;refine⟨o,es,ep,t,hm.heap S _ hw ho,h1,h2,h3,h4,h5,λ x hx=>?_⟩;obtain⟨j,hj,b,e1,hn,hb⟩:=h6 x hx;exact⟨j,hj,b,e1,hn,hb.at' λ o e=>hm.heap b o hn e⟩
 intro n
 induction n with
 | zero =>
  intro i s hi hst h00 hs k;cases (show i=ks.length by omega);refine codeAny_builtin PyProof.Rows.F.entry_set_update_loop ?_;rw[Around.under_plainId PyProof.Rows.F.plain_set_update_loop _];show wpAny _ A.in1 (pyNext (.ref I) >>= _) _ _ s;exact wpAny_bind (Wk.done s _ _ hst λ s' hm=>wpAny_pure (k s' (hm.mono up) (still hm hs)))
 | succ n ih =>
  intro i s hi hst h00 hs k;have hlt:i<ks.length:=by omega
  refine codeAny_builtin PyProof.Rows.F.entry_set_update_loop ?_;rw[Around.under_plainId PyProof.Rows.F.plain_set_update_loop _];show wpAny _ A.in1 (pyNext (.ref I) >>= _) _ _ s;refine wpAny_bind (Wk.item i s _ _ hlt hst λ v s1 hv hst1 hm=>?_);obtain⟨a,rfl,ha,hk⟩:=hP i v hv;have hs1:=still hm hs;have h01:∀ b o,b ∉ S::wr->h0.get? b=some o->s1.heap.get? b=some o:=λ b o hb e=>hm.heap b o (λ z=>hb (up _ z)) (h00 b o hb e);show wpAny _ A.in1 (holding [Value.ref a] (setAdd S (.ref a)) >>= _) _ _ s1;refine wpAny_bind (wpAny_holding ?_);unfold setAdd;have hk1:dN prog w s1.heap (ks.getD i []) a:=hk.at' λ o e=>h01 a o ha e;refine wpAny_holding (wpAny_bind (wpAny_pyHash_tuple hu hk1 ?_));refine sW (s:={s1 with toks:=s1.toks+((ks.getD i []).length+1)}) hu hlt nd hb hs1 hk1 (λ z=>ha (up _ z)) λ h' hsb hs2=>?_;refine wpAny_pure ⟨plainId_quiet PyProof.Rows.F.plain_set_update_loop _,ih (i+1) _ (by omega) (Wk.frame _ s1 _ _ hst1 (Nat.le_add_right _ _) λ b hb o e=>?_) (λ b o hb e=>?_) hs2 λ s2 hm2 hf=>?_⟩
  ·rw[hsb.2 b λ z=>hS (by rw[<- z];exact hb)];exact e
  ·show h'.get? b=some o;rw[hsb.2 b λ z=>hb (by rw[z];exact List.mem_cons_self)];exact h01 b o hb e
  ·refine k s2 (Moved.trans Wk.gtrans ((hm.mono up).then_heap (Nat.le_add_right _ _) λ b o hb e=>?_) hm2) hf;rw[hsb.2 b λ z=>hb (by rw[z];exact List.mem_cons_self)];exact e
end
section
variable {prog:Program}{w:World}{A:Around}{E:VP}{s:Shared}
theorem ly{l:Addr}{items:Array Value}{ks:List (List Int)}{led:Bool}(hh:A.handled=none)(hl:s.heap.IsList l items)(hn:items.size=ks.length)(hi:∀ (i:Nat) (v:Value),items[i]? =some v->∃ a,v=.ref a/\dN prog w s.heap (ks.getD i []) a)(nd:ks.Nodup)(hb:ks.length<=300)(hu:A.units+20<cLine)
  {Q:VP}(h:∀ (h':Heap) (tk:Nat),(∃ W,StS prog w h' W s.heap.objs.size ks ks.length)->(∀ b o,b<s.heap.objs.size->s.heap.get? b=some o->h'.get? b=some o)->Q .none {s with heap:=h',toks:=tk}) :
  codeAny (model prog w) A (.call (.builtin "set.__init__") ⟨[.ref s.heap.objs.size,.ref l],[]⟩) (wants Q E) {s with heap:=s.heap.push (nk led)}:=by
 have hS:(s.heap.push (nk led)).get? s.heap.objs.size=some (nk led):=Heap.get?_push_size _ rfl;refine codeAny_call_builtin PySem.F.called_set.init.plain PySem.F.entry_set_init (check_set_init_1 ⟨_,hS,rfl⟩ ?_);obtain⟨⟨ocls,odict,odata,oslots⟩,hol,hcl,nl,hdl⟩:=hl;simp only at hcl hdl;subst hcl hdl;have hol':=Heap.get?_push_of_some (nk led) hol;have hsls:=PySem.F.sub_list_set;have hslf:=PySem.F.sub_list_frozenset;have hne:(Value.type "list" == Value.type "dict")=false:=by decide
 have hl1:(s.heap.push (nk led)).IsList l items:=⟨_,hol',rfl,nl,rfl⟩;have hlS:l<s.heap.objs.size:=Heap.lt_size hol;unfold Builtin.«set.__init__» noKeywords Builtin.Frozenset.updateFrom;generalize hPI:pyIter=PI
 wp_walk
 subst hPI;refine wpAny_pyIter_list hl1 (wpAny_bind (wpAny_runValue ?_));have hz:(s.heap.push (nk led)).objs.size=s.heap.objs.size+1:=Heap.size_push _ _;have h1:l≠(s.heap.push (nk led)).objs.size:=by rw[hz];exact Nat.ne_of_lt (Nat.lt_succ_of_lt hlS)
 have h2:s.heap.objs.size ∉ [(s.heap.push (nk led)).objs.size,l]:=by rw[hz];simp only[List.mem_cons,List.not_mem_nil,or_false,not_or];exact⟨Nat.ne_of_lt (Nat.lt_succ_self _),Nat.ne_of_gt hlS⟩
 have Wk:=(Walks.list (prog:=prog) (w:=w) (A:=A.in1.in1) (by simp[hh]) _ l h1 items).toS;rw[hn] at Wk;refine lD (h0:=s.heap) (by show A.units+1+1<cLine;omega) Wk s.heap.objs.size h2 (λ i v hv=>?_) nd hb ks.length 0 _ (by omega) ?_ ?_ ?_ ?_
 ·obtain⟨a,e,hk⟩:=hi i v hv;refine⟨a,e,?_,hk⟩;have:=hk.lt;simp only[List.mem_cons,List.not_mem_nil,or_false,not_or];exact⟨Nat.ne_of_lt this,by rw[hz];exact Nat.ne_of_lt (Nat.lt_succ_of_lt this)⟩
 ·exact⟨⟨_,Heap.get?_push_size _ rfl,rfl,rfl⟩,hl1.push _⟩
 ·exact λ b o _ e=>Heap.get?_push_of_some _ (Heap.get?_push_of_some _ e)
 ·exact⟨_,#[],0,.fresh 0 0 led,Heap.get?_push_of_some _ hS,⟨rfl,rfl,rfl⟩,rfl,⟨.inl rfl,rfl,Nat.zero_le _,rfl⟩,rfl,(show 0 * 5<7 * 3 by decide),λ e he=>by simp at he⟩
 ·intro s' hm hs;obtain⟨h',g',d',tk',os'⟩:=s';have e1:g'=s.gens:=hm.gens;have e2:d'=s.drawn:=hm.drawn;have e3:os'=s.os:=hm.os;subst e1 e2 e3;refine wpAny_pure (wpAny_pure (h h' tk' ⟨_,hs⟩ λ b o hb e=>?_));refine hm.heap b o ?_ (Heap.get?_push_of_some _ (Heap.get?_push_of_some _ e));simp only[List.mem_cons,List.not_mem_nil,or_false,not_or];exact⟨Nat.ne_of_lt hb,by rw[hz];exact Nat.ne_of_lt (Nat.lt_succ_of_lt hb)⟩
theorem l5{l:Addr}{items:Array Value}{ks:List (List Int)}(hh:A.handled=none)(hl:s.heap.IsList l items)(hn:items.size=ks.length)(hi:∀ (i:Nat) (v:Value),items[i]? =some v->∃ a,v=.ref a/\dN prog w s.heap (ks.getD i []) a)(nd:ks.Nodup)(hb:ks.length<=300)(hu:A.units+30<cLine)
  {Q:VP}(h:∀ (h':Heap) (tk:Nat),(∃ W,StS prog w h' W s.heap.objs.size ks ks.length)->(∀ b o,b<s.heap.objs.size->s.heap.get? b=some o->h'.get? b=some o)->Q (.ref s.heap.objs.size) {s with heap:=h',toks:=tk}) :
  wpAny (model prog w) A (call (.type "set") [.ref l]) Q E s:=by
 obtain⟨c,tl,hmro⟩:=PySem.F.called_set.mro;have hmade:=PySem.F.called_set.made;have hsub:=PySem.F.called_set.sub;have h1:=PySem.F.called_set.notType;have h2:=PySem.F.called_set.canCreate;have hct:=PySem.F.typeCall_set_1 (.ref l);refine wpAny_call (codeAny_of_tree ?_);show wpAny _ _ (callAny (.type "set") _) _ _ _;refine wpAny_pure ⟨Code.quiet_builtin _ (by decide +kernel),codeAny_builtin PySem.F.entry_type_call ?_⟩;rw[Around.under_plain (weight_type_call_type "set" [.ref l] []) rfl]
 repeat (any_goals (first | assumption | wp_step))
 refine codeAny_mono (code_set_new_1 (.ref l) (E:=E) (Q₁:=λ x s1=>∃ led:Bool,x=.ref s.heap.objs.size/\s1={s with heap:=s.heap.push (nk led)}) λ led=>⟨led,rfl,rfl⟩) λ r s1 hr=>?_
 match r,hr with
 | .ok (.ret _),⟨led,e1,e2⟩ =>
  subst e1 e2;have hT:Shared.TypeIs {s with heap:=s.heap.push (nk led)} (.ref s.heap.objs.size) "set":= ⟨_,Heap.get?_push_size _ rfl,rfl⟩;have hli:=PySem.F.called_set.init.lookup;have hbi:=PySem.F.called_set.init.bind (.ref s.heap.objs.size)
  repeat (any_goals (first | assumption | wp_step))
  refine codeAny_mono (ly (E:=E) (Q:=λ x s2=>x=.none/\∃ h' tk,s2={s with heap:=h',toks:=tk}/\(∃ W,StS prog w h' W s.heap.objs.size ks ks.length)/\∀ b o,b<s.heap.objs.size->s.heap.get? b=some o->h'.get? b=some o) (by simp[hh]) hl hn hi nd hb (by simp;omega) λ h' tk a b=>⟨rfl,h',tk,rfl,a,b⟩) λ r2 s2 hr2=>?_
  match r2,hr2 with
  | .ok (.ret _),⟨e3,h',tk,e4,a,b⟩ =>
   subst e3 e4
   repeat (any_goals (first | assumption | wp_step))
   exact h h' tk a b
  | .error _,q=>exact q
 | .error _,q=>exact q
end
open L2
section
variable {X:Cx}{K:FG}{e:Expr}{to:TE}{td:TD}{p1 p2 pos1 pos2:Pos}
inductive nZ(K:FG) (H:Hp):List (List Int)->List V->Prop
 | nil:nZ K H [] []
 | cons {r:List Int} {rs:List (List Int)} {b:Addr} {vs:List V} (h:SqT K H b (r.map V.int)) (t:nZ K H rs vs):nZ K H (r::rs) (.ref b::vs)
theorem nZ.len{H:Hp}{rs:List (List Int)}{vs:List V}(h:nZ K H rs vs):vs.length=rs.length:=by
 induction h with
 | nil=>rfl
 | cons _ _ ih=>rw[List.length_cons,List.length_cons,ih]
theorem nZ.at'{H:Hp}{rs:List (List Int)}{vs:List V}(h:nZ K H rs vs):∀ {its:List Value},Vals vs its->∀ (i:Nat) (v:Value),its[i]? =some v->∃ b,v=.ref b/\SqT K H b ((rs.getD i []).map V.int):=by
 induction h with
 | nil=>intro its r i v hv;cases r;simp at hv
 | @cons r rs b vs h t ih =>
  intro its rv i v hv;cases rv with
  | cons a rv =>
   cases i with
   | zero =>
    simp only[List.getElem?_cons_zero,Option.some.injEq] at hv;subst hv;cases a;exact⟨b,rfl,h⟩
   | succ i =>
    simp only[List.getElem?_cons_succ] at hv;exact ih rv i v hv
theorem items_int{prog:Program}{w:World}:∀ {r:List Int} {its:List Value},Vals (r.map V.int) its->ItemsAre (intKind prog w) r its
 | [],_,.nil=>.nil
 | k::r,_,.cons a t=>by obtain⟨tk,rfl⟩:=a;exact .cons (by simp[intKind,Value.isInt]) (items_int t)
def qp(K:FG)(Q:VK)(x:V)(H1:Hp):Prop:=∃ (a:Addr) (rs:List (List Int)) (vs:List V),x=.ref a/\SqL K H1 a vs/\nZ K H1 rs vs/\rs.Nodup/\rs.length<=300/\Q (.int (rs.length:Nat)) H1
def nz(K:FG)(to:TE):TE:=λ σ H Q=>to σ H (qp K Q)
theorem kb(hc:X.calm=true)(hu:X.A.units+64<cLine)(hg1:Gl X "len")(hm1:X.mg "len" = none)(hg2:Gl X "set")(hm2:X.mg "set" = none)(he:PE X e to)(hs:starEach [e] X.env=(false,eval e X.env)::starEach [] X.env:=by rfl)(hpl:(backTo pos2 (starEach [] X.env)).any (·.1)=false:=by rfl) :
  PE X (.Call (.Name "len" p1) [.Call (.Name "set" p2) [e] [] pos2] [] pos1) (nz X.K to):=by
 intro pins s σ H Q I h;refine wpAny_Call_Name_kw (gZ I hg1 hm1 (u:=.builtin "len") rfl ?_);refine PyProof.Rows.callWith_builtin1 ?_;show wpAny _ _ (spliced ((false,eval (.Call (.Name "set" p2) [e] [] pos2) X.env)::backTo pos1 (starEach [] X.env))) _ _ s;refine Calls.spliced_cons ?_;refine wpAny_Call_Name_kw (gZ I hg2 hm2 (u:=.type "set") rfl ?_);refine PyProof.Rows.callWith_type1 (thn (mZ he pS hs pos2 pins s σ H (qN (qp X.K Q)) I (show uF to wu σ H (qN (qp X.K Q)) from h)) λ us s1 ⟨vs,H1,I1,r1,q1⟩=>?_) hs hpl;obtain⟨x,rfl,a,rs,vs,rfl,hsq,hr,nd,hl,q⟩:=oP q1;obtain⟨u,rfl,rx⟩:=vals1 r1;cases rx;obtain⟨its,rv,pl,_⟩:=I1.list hsq;have hn:its.toArray.size=rs.length:=by have:=rv.length;have:=hr.len;simp only[List.size_toArray];omega
 refine l5 (I1.ok.hd hc) pl.isList hn (λ i v hv=>?_) nd hl (by omega) λ h' tk hS hk=>?_
 ·obtain⟨b,e1,hb⟩:=hr.at' rv i v (by simpa using hv);obtain⟨its2,rv2,⟨o,h1,h2,n,h3⟩,_⟩:=I1.tuple hb;exact⟨b,e1,o,its2.toArray,n,h1,h2,h3,by simpa using items_int rv2⟩
 have I2:Inv X pins σ H1 {s1 with heap:=h',toks:=tk}:=I1.kept λ b o e=>hk b o (Heap.lt_size e) e;refine Calls.spliced_nil ?_;obtain⟨W,o,es,ep,t,ho,hex,hd,tb,hz,_,_⟩:=hS;have hf:t.fits es.size=true:=by
  unfold SetTable.fits SetTable.fill;rw[tb.size,tb.dum,hz];have:=tb.room;simp;omega
 refine call_len_set ho hex hd hf (by rw[hz];omega) ⟨.int (rs.length:Nat),H1,I2.tok _,⟨_,by rw[hz]⟩,q⟩
def kB(rs:List (List Int)):List PyData:=rs.map λ r=>.tuple (r.map PyData.int)
theorem fu{H:Hp}:∀ {r:List Int} {vs:List V},aJ K H (r.map PyData.int) vs->vs=r.map V.int
 | [],_,h=>by simp only[List.map_nil,aJ] at h;rw[h];rfl
 | z::zs,_,h=>by simp only[List.map_cons,aJ] at h;obtain⟨v,vs,rfl,h1,h2⟩:=h;simp only[au] at h1;rw[h1,fu h2];rfl
theorem hJ{H:Hp}:∀ {rs:List (List Int)} {vs:List V},aJ K H (kB rs) vs->nZ K H rs vs
 | [],_,h=>by simp only[kB,List.map_nil,aJ] at h;rw[h];exact .nil
 | r::rs,_,h=>by simp only[kB,List.map_cons,aJ] at h;obtain⟨v,vs,rfl,h1,h2⟩:=h;simp only[au] at h1;obtain⟨b,us,rfl,hb,h3⟩:=h1;rw[fu h3] at hb;exact .cons hb (hJ h2)
def jF(td:TD)(τ:DS)(M:MH)(Q:QD):Prop:=td τ M λ w M1=>∃ rs:List (List Int),pM M1 w (kB rs)/\rs.Nodup/\rs.length<=300/\Q (.d (.int (rs.length:Nat))) M1
end
theorem iY{X:Cx}{e:Expr}{td:TD}{p1 p2 pos1 pos2:Pos}(hc:X.calm=true)(hu:X.A.units+64<cLine)(hg1:Gl X "len")(hm1:X.mg "len" = none)(hg2:Gl X "set")(hm2:X.mg "set" = none)(he:Jd (PD X e td))(hs:dX e=false:=by rfl) :
  Jd (PD X (.Call (.Name "len" p1) [.Call (.Name "set" p2) [e] [] pos2] [] pos1) (jF td)):=⟨have he:=he.h;dg (kb hc hu hg1 hm1 hg2 hm2 he (cj e [] X.env hs)) λ σ H Q hq73=>by
 obtain⟨τ,M,Qd,A,h,k⟩:=hq73;refine⟨τ,M,_,A,h,λ x H1 w M1 kp1 r1 m1 hq74=>?_⟩;obtain⟨rs,g,nd,hl,q⟩:=hq74;obtain⟨a,vs,e1,hsq,ra⟩:=g.sound r1 m1;exact⟨a,rs,vs,e1,hsq,hJ ra,nd,hl,k _ H1 (.d (.int _)) M1 kp1 (by simp[aw,au]) m1 q⟩⟩
end D
namespace K75
open L2 D Rc Stc
abbrev aq:Addr:=52
abbrev dA:List Str:=["self"]
def du:TSd:=
  aV (fS aq (ag 0) (fP) "shelved") <|
  fS aq (ag 0) (mw) "fates"
abbrev il:List Str:=["_law_bag_here", "_law_stores_here", "_law_most", "_law_store", "_law_token", "_law_turn", "_law_many", "_law_signs", "_law_letters"]
def gE(ai:SpD):TSd:=
  aV (bB (dOp bK (ag 1) (bj ai (ae (ag 0) (ae (dCB gj (ae (ag 1) (aH))) (aH))))) (gN 3)) <|
  aV (bB (bj ai (ae (ag 0) (ae (dOp bW (ag 2) (dI 1)) (aH)))) (gN 4)) <|
  aV (bB (dOp bK (gv (ae (dI 0) (ae (dI 1) (ae (dI 2) (ae (dI 3) (ae (dI 5) (ae (dI 11) (ae (dI 12) (ae (dI 21) (ae (dI 111) (aH))))))))))) (bj ai (ae (ag 0) (ae (dI 9) (aH))))) (gN 5)) <|
  aV (bB (dOp bK (gv (ae (bj ai (ae (ag 0) (ae (dI 4) (aH)))) (ae (dI 12) (aH)))) (dCB jT (ae (dOp eD (bj ai (ae (ag 0) (ae (dI 9) (aH)))) (dI 0)) (aH)))) (gN 6)) <|
  aV (bB (dS " !~abz09,;AZ_$[#&'()*+-./:<=>?\x40]^`{|}GMgm5") (gN 7)) <|
  aV (bB (dMS fk (dS "") (ae (dLC (iD (ae (ag 6) (aH))) (gN 0) (pF) (dOp bK (ag 1) (bj ai (ae (ag 2) (ae (dCB gj (ae (ag 1) (aH))) (aH))))) 1 [7, 0]) aH)) (gN 8)) <|
  cA (nj (ae (ag 3) (ae (ag 4) (ae (ag 5) (ae (dOp bK (gv (ae (dI 0) (ae (dI 1) (ae (dI 2) (ae (dI 11) (ae (dI 12) (ae (dI 21) (aH)))))))) (bj ai (ae (ag 0) (ae (dI 6) (aH))))) (ae (ag 8) (aH)))))))
abbrev d9:List Str:=["self", "write", "store", "token", "turn", "place", "letters", "rows"]
def eV:TSd:=
  aV (bB (ag 1) (gT 5 (cb (gN 2) (cb (gN 3) (cb (gN 4) (cb (gN 5) (cb (gN 6) (so)))))))) <|
  aV (dIf (aY (vg (nj (ae (ag 2) (ae (ag 4) (ae (ag 5) (aH))))) (lZ aq (ag 0) "fates")))
   (cA (dS "again"))
   (bu)) <|
  aV (bB (iU (lZ aq (ag 0) "shelved") (ag 2) (kP (aH))) (gN 7)) <|
  aV (dIf (vf (vp (ag 7)) (aY (dOp vq (ag 3) (dOp bK (dOp bK (ag 7) (dUn oi (dI 1))) (dI 0)))))
   (aV (d6 (lZ aq (ag 0) "fates") (ae (ag 2) (ae (ag 4) (ae (ag 5) (aH)))) (dS "stale")) <|
   cA (dS "stale"))
   (bu)) <|
  aV (fK (bT (ag 7) (nj (ae (ag 3) (ae (ag 4) (ae (ag 5) (ae (ag 6) (aH)))))))) <|
  aV (d6 (lZ aq (ag 0) "fates") (ae (ag 2) (ae (ag 4) (ae (ag 5) (aH)))) (dS "done")) <|
  cA (dS "done")
abbrev cv:List Str:=["self", "store"]
def cf:TSd:=
  cA (dCB jq (ae (gB (lZ aq (ag 0) "shelved") (ag 1) (gv (aH))) (aH)))
abbrev cD:List Str:=["self", "store", "turn", "place"]
def cE:TSd:=
  cA (qx (lZ aq (ag 0) "fates") (nj (ae (ag 1) (ae (ag 2) (ae (ag 3) (aH))))))
abbrev gR:List Str:=["_law_shelf", "_law_stores_here", "_law_done", "_law_elder", "_law_store", "_law_rows", "_law_tokens", "_law_token", "_law_turn", "_law_place", "_law_letters"]
def hV(az aD:SpD):TSd:=
  aV (sL (e9 (ag 1)) (gN 4)
   (aV (bB (gx (iB aq "rows_of" az (ag 0) (ae (ag 4) (aH)))) (gN 5)) <|
   aV (dIf (dOr (aY (dOp jM (dSl (ag 5) (c6) (gk (dCB gj (ae (gB (ag 3) (ag 4) (gv (aH))) (aH))))) (gB (ag 3) (ag 4) (gv (aH))))) (aY (dOp jM (ag 5) (gB (ag 2) (ag 4) (gv (aH))))))
    (cA (dC (.d (.bool false))))
    (bu)) <|
   aV (bB (dLC (e9 (ag 5)) (gN 0) (pF) (dOp bK (ag 0) (dI 0)) 1 []) (gN 6)) <|
   aV (dIf (dOr (aY (dOp jM (ag 6) (gx (dCB kZ (ae (ag 6) (aH)))))) (aY (dOp jM (jF (dLC (e9 (ag 5)) (gN 0) (pF) (dSl (ag 0) (gk (dI 1)) (gk (dI 3))) 1 [])) (dCB gj (ae (ag 5) (aH))))))
    (cA (dC (.d (.bool false))))
    (bu)) <|
   aV (sL (e9 (ag 5)) (gT 4 (cb (gN 7) (cb (gN 8) (cb (gN 9) (cb (gN 10) (so))))))
    (dIf (aY (dOp jM (iB aq "became" aD (ag 0) (ae (ag 4) (ae (ag 8) (ae (ag 9) (aH))))) (dS "done")))
     (cA (dC (.d (.bool false))))
     (bu))) <|
   lL (ag 3) (ag 4) (ag 5))) <|
  cA (dC (.d (.bool true)))
abbrev uk:List Str:=["_law_script", "_law_bag_here", "_law_stores_here", "_law_shelf", "_law_done", "_law_elder", "_law_rising", "_law_token", "_law_write_here", "_law_k", "_law_late", "_law_word_here"]
def tL(bN bb aN ai bc aA aI:SpD):TSd:=
  aV (bB (bj bN (ae (ag 0) (aH))) (gN 1)) <|
  aV (bB (bj bb (ae (ag 1) (aH))) (gN 2)) <|
  aV (bB (u7 aq aN aH) (gN 3)) <|
  aV (vE 4 5 (ae (fP) (ae (fP) (aH)))) <|
  aV (bB (dOp rL (bj ai (ae (ag 1) (ae (dI 4) (aH)))) (dI 0)) (gN 6)) <|
  aV (bB (dI 1) (gN 7)) <|
  aV (bB (bj bc (ae (ag 1) (ae (ag 2) (ae (dI 6) (aH))))) (gN 8)) <|
  aV (sL (iD (ae (dOp bW (dI 10) (bj ai (ae (ag 1) (ae (dI 71) (aH))))) (aH))) (gN 9)
   (aV (dIf (aY (dOp rL (bj ai (ae (ag 1) (ae (dI 6) (aH)))) (dI 0)))
    (aV (bB (bj bc (ae (ag 1) (ae (ag 2) (ae (dI 6) (aH))))) (gN 8)) <|
    dIf (aY (ag 6))
     (aV (bB (dOp bW (ag 7) (dCB jT (ae (dOp eD (bj ai (ae (ag 1) (ae (dI 5) (aH)))) (dI 0)) (aH)))) (gN 7)) <|
     aV (bB (dOp cC (bj ai (ae (ag 1) (ae (dI 4) (aH)))) (dCB jT (ae (dOp eD (bj ai (ae (ag 1) (ae (dI 4) (aH)))) (dI 0)) (aH)))) (gN 10)) <|
     bB (nj (ae (dOp bK (ag 8) (dI 0)) (ae (dCB pE (ae (dI 1) (ae (dOp rq (ag 7) (ag 10)) (aH)))) (ae (dOp rq (dOp bW (dI 1) (dOp iO (ag 9) (dI 2))) (dCB qa (ae (dOp iO (ag 9) (dI 2)) (ae (ag 10) (aH))))) (ae (dOp bK (ag 8) (dI 3)) (ae (dOp bK (ag 8) (dI 4)) (aH))))))) (gN 8))
     (bu))
    (bu)) <|
   aV (bB (iB aq "put" aA (ag 3) (ae (ag 8) (aH))) (gN 11)) <|
   aV (dIf (aY (dOp (kX true) (ag 11) (gv (ae (dS "done") (ae (dS "stale") (ae (dS "again") (aH)))))))
    (cA (dC (.d (.bool false))))
    (bu)) <|
   aV (dIf (aY (dOp eD (ag 11) (dS "done")))
    (lL (ag 4) (dOp bK (ag 8) (dI 0)) (vk (gB (ag 4) (dOp bK (ag 8) (dI 0)) (gv (aH))) (gv (ae (dSl (ag 8) (gk (dI 1)) (c6)) (aH)))))
    (bu)) <|
   dIf (uM (aY (bj aI (ae (ag 3) (ae (ag 2) (ae (ag 4) (ae (ag 5) (aH))))))))
    (cA (dC (.d (.bool false))))
    (bu))) <|
  cA (dC (.d (.bool true)))
structure Row where
 tok:Int
 turn:Int
 place:Int
 txt:Str
def jS(r:Row):PyData:=.tuple [.int r.tok, .int r.turn, .int r.place, .str r.txt]
def aO(rs:List Row):List PyData:=rs.map jS
def wrD(st:Str)(r:Row):PyData:=.tuple [.str st, .int r.tok, .int r.turn, .int r.place, .str r.txt]
abbrev K3:=Str×Int×Int
def k3(k:K3):List Key:=[.inr k.1, .inl k.2.1, .inl k.2.2]
theorem uD{a b:K3}(h:k3 a=k3 b):a=b:=by obtain⟨a1, a2, a3⟩:=a;obtain⟨b1, b2, b3⟩:=b;simp only[k3, List.cons.injEq, Sum.inr.injEq, Sum.inl.injEq, and_true] at h;obtain⟨h1, h2, h3⟩:=h;rw[h1, h2, h3]
def cN(st:Str)(r:Row):K3:=(st, r.turn, r.place)
abbrev qr(d1 d2:Addr):List (Str×W):=[("shelved", .m d1), ("fates", .m d2)]
theorem xk{d1 d2:Addr}:(qr d1 d2).lookup ("shelved" : Str)=some (.m d1):=rfl
theorem vm{d1 d2:Addr}:(qr d1 d2).lookup ("fates" : Str)=some (.m d2):=rfl
theorem sT{d1 d2:Addr}:(qr d1 d2).lookup ("put" : Str)=none:=rfl
theorem rS{d1 d2:Addr}:(qr d1 d2).lookup ("rows_of" : Str)=none:=rfl
theorem ur{d1 d2:Addr}:(qr d1 d2).lookup ("became" : Str)=none:=rfl
structure Sh(M:MH)(O:Addr->Prop)(s:Addr)(R:Str->List Row)(F:K3->Option Str)(n:Nat)(d1 d2:Addr)(kvs:List (Key×W))(fs:List (List Key×W)):Prop where
 hs:M s=some (.ins aq (qr d1 d2))
 h1:M d1=some (.dic kvs)
 h2:M d2=some (.dct fs)
 os:O s
 o1:O d1
 o2:O d2
 kl:kvs.length<=n
 fl:fs.length<=n
 rows:∀ st,(bF kvs (.inr st)=none/\R st=[])\/∃ l,bF kvs (.inr st)=some (.m l)/\M l=some (.lst ((aO (R st)).map W.d))/\O l/\(R st).length<=n
 inj:∀ st st' l,bF kvs (.inr st)=some (.m l)->bF kvs (.inr st')=some (.m l)->st=st'
 fate:∀ k,bF fs (k3 k)=(F k).map λ z=>.d (.str z)
 live:∀ q,O q->M q≠none
def ShE(M:MH)(O:Addr->Prop)(s:Addr)(R:Str->List Row)(F:K3->Option Str)(n:Nat):Prop:=∃ d1 d2 kvs fs,Sh M O s R F n d1 d2 kvs fs
theorem ShE.keep{M M':MH}{O:Addr->Prop}{s:Addr}{R:Str->List Row}{F:K3->Option Str}{n:Nat}(h:ShE M O s R F n)(k:∀ q,O q->M' q=M q):ShE M' O s R F n:=by
 obtain⟨d1,d2,kvs,fs,h⟩:=h;refine⟨d1,d2,kvs,fs,by rw[k _ h.os];exact h.hs,by rw[k _ h.o1];exact h.h1,by rw[k _ h.o2];exact h.h2,h.os,h.o1,h.o2,h.kl,h.fl,λ st=>?_,h.inj,h.fate,λ q hq=>by rw[k q hq];exact h.live q hq⟩;rcases h.rows st with z | ⟨l,e1,e2,e3,e4⟩
 ·exact .inl z
 ·exact .inr ⟨l,e1,by rw[k _ e3];exact e2,e3,e4⟩
def bL(rs:List Row)(t:Int):Bool:=match rs.getLast? with
 | none=>false
 | some l=>decide (t<l.tok)
def wordOf(R:Str->List Row)(F:K3->Option Str)(st:Str)(r:Row):Str:=if (F (cN st r)).isSome then "again" else if bL (R st) r.tok then "stale" else "done"
def ej(R:Str->List Row)(F:K3->Option Str)(st:Str)(r:Row):Str->List Row:=λ st'=>if st'=st/\(F (cN st r)).isSome=false/\bL (R st) r.tok=false then R st++[r] else R st'
def iF(R:Str->List Row)(F:K3->Option Str)(st:Str)(r:Row):K3->Option Str:=λ k=>if k=cN st r/\(F (cN st r)).isSome=false then some (wordOf R F st r) else F k
def aN:SpD:=λ ws M Q=>∃ s,ws=[.m s]/\M s=some (.ins aq [])/\∀ (O:Addr->Prop) M',ShE M' O s (λ _=>[]) (λ _=>none) 0->(∀ q,¬ O q->M' q=M q)->(∀ q,O q->q=s\/M q=none)->Q (.d .none) M'
theorem fc:∀ ws M Q,aN ws M Q->ws.length=1:=by rintro ws M Q ⟨s,rfl,_⟩;rfl
theorem iW{M:MH}{a b:Addr}{o u:MO}(h:M a=some o)(hb:M b=none):bG M b u a=some o:=by
 have:a≠b:=λ e=>by rw[e,hb] at h;cases h
 rw[ah this];exact h
theorem eP:∀ ws M Q,aN ws M Q->du {nx:=λ _ M'=>Q (.d .none) M',rt:=Q} (bD dA ws) M:=by
 rintro ws M Q ⟨s,rfl,hs,k⟩;refine λ d1 hd1=>⟨_,rfl,s,_,rfl,iW hs hd1,by decide,λ d2 hd2=>⟨_,rfl,s,_,rfl,iW aj hd2,(by show 1<1000;decide),?_⟩⟩
 ·have n1:s≠d1:=λ e=>by rw[e,hd1] at hs;cases hs
  have hd2':bG (bG M d1 (.dic [])) s (.ins aq (sM "shelved" (.m d1) [])) d2=none:=hd2;have n2:d2≠s:=λ e=>by rw[e,aj] at hd2';cases hd2'
  have n3:d2≠d1:=λ e=>by rw[ah (e ▸ n1.symm),e,aj] at hd2';cases hd2'
  have hd2M:M d2=none:=by rw[ah n2,ah n3] at hd2';exact hd2'
  refine k (λ q=>q=s\/q=d1\/q=d2) _ ⟨d1,d2,[],[],?_,?_,?_,.inl rfl,.inr (.inl rfl),.inr (.inr rfl),by decide,by decide,λ st=>.inl ⟨rfl,rfl⟩,λ st st' l z=>by simp[bF] at z,λ k=>rfl,λ q hq=>?_⟩ (λ q hq=>?_) (λ q hq=>?_)
  ·rw[aj];rfl
  ·rw[ah n1.symm,ah n3.symm,ah n1.symm,aj]
  ·rw[ah n2,aj]
  ·rcases hq with rfl | rfl | rfl
   ·rw[aj];simp
   ·rw[ah n1.symm,ah n3.symm,ah n1.symm,aj];simp
   ·rw[ah n2,aj];simp
  ·have q1:q≠s:=λ e=>hq (.inl e);have q2:q≠d1:=λ e=>hq (.inr (.inl e));have q3:q≠d2:=λ e=>hq (.inr (.inr e));rw[ah q1,ah q3,ah q1,ah q2]
  ·rcases hq with rfl | rfl | rfl
   ·exact .inl rfl
   ·exact .inr hd1
   ·exact .inr hd2M
def aA:SpD:=λ ws M Q=>∃ (s:Addr) (O:Addr->Prop) (st:Str) (r:Row) (R:Str->List Row) (F:K3->Option Str) (n:Nat),ws=[.m s,.d (wrD st r)]/\ShE M O s R F n/\n<=1000 /\
 ∀ (O':Addr->Prop) M',ShE M' O' s (ej R F st r) (iF R F st r) (n+3)->(∀ q,¬ O' q->M' q=M q)->(∀ q,O q->O' q)->(∀ q,O' q->O q\/M q=none)->Q (.d (.str (wordOf R F st r))) M'
theorem fN:∀ ws M Q,aA ws M Q->ws.length=2:=by rintro ws M Q ⟨s,O,st,r,R,F,n,rfl,_⟩;rfl
theorem ke{α:Type}:∀ (l:List α) (x:α),l.getLast? =some x->atI l (-1)=some x:=by
 intro l x h;have hne:l≠[]:=λ e=>by rw[e] at h;cases h
 have hl:0<l.length:=List.length_pos_iff.mpr hne;unfold atI ixN;rw[if_neg (by decide),if_pos (by omega)];have e:((l.length:Int) + -1).toNat=l.length-1:=by omega
 rw[List.getLast?_eq_getElem?] at h;show l[((-1:Int)+l.length).toNat]? =some x;have e2:((-1:Int)+l.length).toNat=l.length-1:=by omega
 rw[e2];exact h
theorem e8{R:Str->List Row}{F:K3->Option Str}{st:Str}{r:Row}(h:(F (cN st r)).isSome=true\/bL (R st) r.tok=true):ej R F st r=R:=by
 funext st';unfold ej;rw[if_neg];rintro⟨_,h1,h2⟩;rcases h with h | h
 ·rw[h] at h1;cases h1
 ·rw[h] at h2;cases h2
theorem k6{R:Str->List Row}{F:K3->Option Str}{st:Str}{r:Row}(h:(F (cN st r)).isSome=true):iF R F st r=F:=by
 funext k;unfold iF;rw[if_neg];rintro⟨_,h1⟩;rw[h] at h1;cases h1
theorem jo{fs:List (List Key×W)}{R:Str->List Row}{F:K3->Option Str}{st:Str}{r:Row}(hf:∀ k,bF fs (k3 k)=(F k).map λ z=>W.d (.str z))(hn:(F (cN st r)).isSome=false) :
  ∀ k,bF (eS fs (k3 (cN st r)) (.d (.str (wordOf R F st r)))) (k3 k)=(iF R F st r k).map λ z=>W.d (.str z):=by
 intro k;rw[gm];unfold iF
 by_cases e:k=cN st r
 ·rw[if_pos (by rw[e]),if_pos ⟨e,hn⟩];rfl
 ·rw[if_neg (λ z=>e (uD z)),if_neg (λ z=>e z.1)];exact hf k
theorem oE{M:MH}{a b:Addr}{o u:MO}(ha:M a=some o)(hb:M b=some u)(h:o≠u):a≠b:=λ e=>h (by rw[e,hb] at ha;exact(Option.some.inj ha).symm)
theorem Sh.l8{M:MH}{O:Addr->Prop}{s:Addr}{R:Str->List Row}{F F':K3->Option Str}{n:Nat}{d1 d2:Addr}{kvs:List (Key×W)}{fs:List (List Key×W)}{key:List Key}{w:W}(S:Sh M O s R F n d1 d2 kvs fs)
  (hF:∀ k,bF (eS fs key w) (k3 k)=(F' k).map λ z=>W.d (.str z)):Sh (bG M d2 (.dct (eS fs key w))) O s R F' (n+1) d1 d2 kvs (eS fs key w):=by
 have n1:s≠d2:=oE S.hs S.h2 nofun;have n2:d1≠d2:=oE S.h1 S.h2 nofun;refine⟨by rw[ah n1];exact S.hs,by rw[ah n2];exact S.h1,aj,S.os,S.o1,S.o2,by have:=S.kl;omega,by have:=iR fs key w;have:=S.fl;omega,λ st=>?_,S.inj,hF,λ q hq=>?_⟩
 ·rcases S.rows st with z | ⟨l,e1,e2,e3,e4⟩
  ·exact .inl z
  ·exact .inr ⟨l,e1,by rw[ah (oE e2 S.h2 nofun)];exact e2,e3,by omega⟩
 ·by_cases e:q=d2
  ·rw[e,aj];simp
  ·rw[ah e];exact S.live q hq
theorem Sh.uU{M:MH}{O:Addr->Prop}{s l:Addr}{R:Str->List Row}{F:K3->Option Str}{n:Nat}{d1 d2:Addr}{kvs:List (Key×W)}{fs:List (List Key×W)}{st:Str}{r:Row}(S:Sh M O s R F n d1 d2 kvs fs)
  (hl:bF kvs (.inr st)=some (.m l))(hM:M l=some (.lst ((aO (R st)).map W.d)))(ol:O l)(hn:(R st).length<=n) :
  Sh (bG M l (.lst ((aO (R st)).map W.d++[.d (jS r)]))) O s (λ st'=>if st'=st then R st++[r] else R st') F (n+1) d1 d2 kvs fs:=by
 have n0:s≠l:=oE S.hs hM nofun;have n1:d1≠l:=oE S.h1 hM nofun;have n2:d2≠l:=oE S.h2 hM nofun;refine⟨by rw[ah n0];exact S.hs,by rw[ah n1];exact S.h1,by rw[ah n2];exact S.h2,S.os,S.o1,S.o2,by have:=S.kl;omega,by have:=S.fl;omega,λ st'=>?_,S.inj,S.fate,λ q hq=>?_⟩
 ·by_cases e:st'=st
  ·subst e;refine .inr ⟨l,hl,?_,ol,?_⟩
   ·rw[aj,if_pos rfl];simp[aO]
   ·rw[if_pos rfl,List.length_append,List.length_singleton];omega
  ·rw[if_neg e];rcases S.rows st' with z | ⟨l',e1,e2,e3,e4⟩
   ·exact .inl z
   ·have:l'≠l:=λ z=>e (S.inj st' st l (by rw[e1,z]) hl);exact .inr ⟨l',e1,by rw[ah this];exact e2,e3,by omega⟩
 ·by_cases e:q=l
  ·rw[e,aj];simp
  ·rw[ah e];exact S.live q hq
theorem Sh.mono{M:MH}{O:Addr->Prop}{s:Addr}{R:Str->List Row}{F:K3->Option Str}{n n':Nat}{d1 d2:Addr}{kvs:List (Key×W)}{fs:List (List Key×W)}(S:Sh M O s R F n d1 d2 kvs fs)(h:n<=n'):Sh M O s R F n' d1 d2 kvs fs:=
 ⟨S.hs,S.h1,S.h2,S.os,S.o1,S.o2,Nat.le_trans S.kl h,Nat.le_trans S.fl h,λ st=>(S.rows st).imp id λ⟨l,a,b,c,d⟩=>⟨l,a,b,c,Nat.le_trans d h⟩,S.inj,S.fate,S.live⟩
theorem ShE.mono{M:MH}{O:Addr->Prop}{s:Addr}{R:Str->List Row}{F:K3->Option Str}{n n':Nat}(S:ShE M O s R F n)(h:n<=n'):ShE M O s R F n':=by obtain⟨d1,d2,kvs,fs,S⟩:=S;exact⟨d1,d2,kvs,fs,S.mono h⟩
theorem eu{R:Str->List Row}{F:K3->Option Str}{st:Str}{r:Row}(h:(F (cN st r)).isSome=false):wordOf R F st r=if bL (R st) r.tok then ("stale" : Str) else ("done" : Str):=by
 unfold wordOf;rw[h];rfl
theorem jn{M2:MH}{Q:QD}{O2:Addr->Prop}{s l:Addr}{R:Str->List Row}{F:K3->Option Str}{n:Nat}{d1 d2:Addr}{kvs:List (Key×W)}{fs:List (List Key×W)}{st:Str}{r:Row}(S:Sh M2 O2 s R F n d1 d2 kvs fs)(hn:n<=1001)
  (hl:bF kvs (.inr st)=some (.m l))(hM:M2 l=some (.lst ((aO (R st)).map W.d)))(ol:O2 l)(hR:(R st).length<=n)(h':(F (cN st r)).isSome=false)
  (k:∀ M',ShE M' O2 s (ej R F st r) (iF R F st r) (n+2)->(∀ q,¬ O2 q->M' q=M2 q)->Q (.d (.str (wordOf R F st r))) M') :
  (aV (dIf (vf (vp (ag 7)) (aY (dOp vq (ag 3) (dOp bK (dOp bK (ag 7) (dUn oi (dC (.d (.int 1))))) (dC (.d (.int 0)))))))
   (aV (d6 (lZ aq (ag 0) "fates") (ae (ag 2) (ae (ag 4) (ae (ag 5) (aH)))) (dC (.d (.str "stale")))) <|
   cA (dC (.d (.str "stale"))))
   (bu)) <|
  aV (fK (bT (ag 7) (nj (ae (ag 3) (ae (ag 4) (ae (ag 5) (ae (ag 6) (aH)))))))) <|
  aV (d6 (lZ aq (ag 0) "fates") (ae (ag 2) (ae (ag 4) (ae (ag 5) (aH)))) (dC (.d (.str "done")))) <|
  cA (dC (.d (.str "done")))) {nx:=λ _ M'=>Q (.d .none) M',rt:=Q}
   [some (.m s),some (.d (wrD st r)),some (.d (.str st)),some (.d (.int r.tok)),some (.d (.int r.turn)),some (.d (.int r.place)),some (.d (.str r.txt)),some (.m l)] M2:=by
 have s16':=s16;have hfl:=S.fl;have hkl:=S.kl;have hlen:((aO (R st)).map W.d).length<=n:=by simp only[List.length_map,aO];exact hR
 have done:bL (R st) r.tok=false->(aV (fK (bT (ag 7) (nj (ae (ag 3) (ae (ag 4) (ae (ag 5) (ae (ag 6) (aH)))))))) <|
  aV (d6 (lZ aq (ag 0) "fates") (ae (ag 2) (ae (ag 4) (ae (ag 5) (aH)))) (dC (.d (.str "done")))) <|
  cA (dC (.d (.str "done")))) {nx:=λ _ M'=>Q (.d .none) M',rt:=Q}
   [some (.m s),some (.d (wrD st r)),some (.d (.str st)),some (.d (.int r.tok)),some (.d (.int r.turn)),some (.d (.int r.place)),some (.d (.str r.txt)),some (.m l)] M2:=by
  intro hst;have ew:wordOf R F st r = "done":= by rw[eu h',hst];rfl
  have S3:=S.uU (r:=r) hl hM ol hR;refine⟨_,rfl,l,_,rfl,hM,_,rfl,_,rfl,_,rfl,_,rfl,_,rfl,few (by simp),_,hM,by omega,?_⟩;refine⟨_,rfl,s,_,_,rfl,S3.hs,vm,_,rfl,_,rfl,_,rfl,d2,fs,k3 (cN st r),rfl,S3.h2,rfl,by omega,few (by simp[k3]),?_⟩;have eR:(λ st'=>if st'=st then R st++[r] else R st')=ej R F st r:=by
   funext st';unfold ej
   by_cases e:st'=st
   ·rw[if_pos e,if_pos ⟨e,h',hst⟩]
   ·rw[if_neg e,if_neg (λ z=>e z.1)]
  have S4:=S3.l8 (F':=iF R F st r) (key:=k3 (cN st r)) (w:=.d (.str (wordOf R F st r))) (jo S.fate h');rw[eR,ew] at S4;have:=k _ ⟨d1,d2,kvs,_,S4⟩ λ q hq=>by rw[ah (λ e=>hq (by rw[e];exact S.o2)),ah (λ e=>hq (by rw[e];exact ol))]
  rw[ew] at this;exact this
 refine⟨_,rfl,_,.m hM,?_⟩;refine dm (λ ne=>?_) (λ em=>?_)
 ·obtain⟨lr,hlr⟩:∃ lr,(R st).getLast? =some lr:=by
   cases e:(R st).getLast? with
   | some x=>exact⟨x,rfl⟩
   | none =>
    rw[List.getLast?_eq_none_iff] at e;rw[e] at ne;cases ne
  have hlast:((aO (R st)).map W.d).getLast? =some (.d (jS lr)):=by simp only[aO,List.map_map,List.getLast?_map,hlr,Option.map_some];rfl
  have hsb:bL (R st) r.tok=decide (r.tok<lr.tok):=by unfold bL;rw[hlr]
  refine⟨_,rfl,_,rfl,_,rfl,_,_,rfl,pL hM (ke _ _ hlast),rfl,_,_,rfl,rfl,rfl,_,_,rfl,rfl,_,rfl,?_⟩;refine dm (λ lt=>?_) (λ ge=>?_)
  ·have hst:bL (R st) r.tok=true:=hsb.trans lt;have ew:wordOf R F st r = "stale":= by rw[eu h',hst];rfl
   refine⟨_,rfl,s,_,_,rfl,S.hs,vm,_,rfl,_,rfl,_,rfl,d2,fs,k3 (cN st r),rfl,S.h2,rfl,by omega,few (by simp[k3]),?_⟩;have S4:=S.l8 (F':=iF R F st r) (key:=k3 (cN st r)) (w:=.d (.str (wordOf R F st r))) (jo S.fate h');rw[ew] at S4;have S5:ShE (bG M2 d2 (.dct (eS fs (k3 (cN st r)) (.d (.str "stale"))))) O2 s (ej R F st r) (iF R F st r) (n+2):=by rw[e8 (.inr hst)];exact⟨d1,d2,kvs,_,S4.mono (by omega)⟩
   have:=k _ S5 λ q hq=>by rw[ah (λ e=>hq (by rw[e];exact S.o2))]
   rw[ew] at this;exact this
  ·exact done (hsb.trans ge)
 ·refine oM ?_;have e:R st=[]:=by
   cases q:R st with
   | nil=>rfl
   | cons a b=>rw[q] at em;cases em
  exact done (by rw[e];rfl)
theorem fe:∀ ws M Q,aA ws M Q->eV {nx:=λ _ M'=>Q (.d .none) M',rt:=Q} (bD d9 ws) M:=by
 rintro ws M Q ⟨s,O,st,r,R,F,n,rfl,⟨d1,d2,kvs,fs,S⟩,hn,k⟩;have s16':=s16;refine⟨_,rfl,_,rfl,rfl,_,_,rfl,_,_,rfl,_,_,rfl,_,_,rfl,_,_,rfl,rfl,?_⟩;refine⟨_,rfl,_,rfl,_,rfl,_,rfl,few (by simp),_,rfl,s,_,_,rfl,S.hs,vm,_,.t (ks:=k3 (cN st r)) S.h2,_,rfl,?_⟩;rw[S.fate];refine dm (λ h=>?_) (λ h=>?_)
 ·have h':(F (cN st r)).isSome=true:=by simpa using h
  have:=k O M (by rw[e8 (.inl h'),k6 h'];exact⟨d1,d2,kvs,fs,S.mono (by omega)⟩) (λ _ _=>rfl) (λ _ h=>h) (λ _ h=>.inl h);unfold wordOf at this;rw[if_pos h'] at this;exact this
 have h':(F (cN st r)).isSome=false:=by simpa using h
 refine⟨_,rfl,s,_,_,rfl,S.hs,xk,.k S.h1,_,rfl,Nat.zero_le _,λ p hp=>⟨d1,kvs,.inr st,rfl,iW S.h1 hp,rfl,by have:=S.kl;omega,λ v hv=>?_,λ hv=>?_⟩⟩
 ·rcases S.rows st with ⟨z,_⟩ | ⟨l,e1,e2,e3,e4⟩
  ·rw[z] at hv;cases hv
  rw[e1] at hv;cases hv;have kp:∀ q,O q->bG M p (.lst []) q=M q:=λ q hq=>ah λ e=>S.live q hq (by rw[e];exact hp);have S2:Sh (bG M p (.lst [])) (λ q=>O q\/q=p) s R F n d1 d2 kvs fs:=by
   refine⟨by rw[kp _ S.os];exact S.hs,by rw[kp _ S.o1];exact S.h1,by rw[kp _ S.o2];exact S.h2,.inl S.os,.inl S.o1,.inl S.o2,S.kl,S.fl,λ st=>?_,S.inj,S.fate,λ q hq=>?_⟩
   ·rcases S.rows st with z | ⟨l,e1,e2,e3,e4⟩
    ·exact .inl z
    ·exact .inr ⟨l,e1,by rw[kp _ e3];exact e2,.inl e3,e4⟩
   ·rcases hq with hq | rfl
    ·rw[kp _ hq];exact S.live q hq
    ·rw[aj];simp
  refine jn S2 (by omega) e1 (by rw[kp _ e3];exact e2) (.inl e3) e4 h' λ M' S3 fr=>k (λ q=>O q\/q=p) M' ?_ (λ q hq=>?_) (λ q hq=>.inl hq) (λ q hq=>?_)
  ·exact S3.mono (by omega)
  ·rw[fr q hq,ah (λ e=>hq (.inr e))]
  ·rcases hq with hq | rfl
   ·exact .inl hq
   ·exact .inr hp
 ·have eR:R st=[]:=by
   rcases S.rows st with ⟨_,z⟩ | ⟨l,e1,_⟩
   ·exact z
   ·rw[e1] at hv;cases hv
  have np1:d1≠p:=λ e=>by have:=S.h1;rw[e,hp] at this;cases this
  have kp:∀ q,O q->q≠d1->bG (bG M p (.lst [])) d1 (.dic (eS kvs (.inr st) (.m p))) q=M q:=λ q hq hd=>by rw[ah hd,ah (λ e=>S.live q hq (by rw[e];exact hp))]
  have n1:s≠d1:=oE S.hs S.h1 nofun;have n2:d2≠d1:=oE S.h2 S.h1 nofun;have gp:∀ st',bF (eS kvs (.inr st) (.m p)) (.inr st')=if st'=st then some (.m p) else bF kvs (.inr st'):=λ st'=>by
   rw[gm]
   by_cases e:st'=st
   ·rw[if_pos e,if_pos (by rw[e])]
   ·rw[if_neg e,if_neg (λ z=>e (Sum.inr.inj z))]
  have S2:Sh (bG (bG M p (.lst [])) d1 (.dic (eS kvs (.inr st) (.m p)))) (λ q=>O q\/q=p) s R F (n+1) d1 d2 (eS kvs (.inr st) (.m p)) fs:=by
   refine⟨by rw[kp _ S.os n1];exact S.hs,aj,by rw[kp _ S.o2 n2];exact S.h2,.inl S.os,.inl S.o1,.inl S.o2,by have:=iR kvs (.inr st) (W.m p);have:=S.kl;omega,by have:=S.fl;omega,λ st'=>?_,λ st1 st2 l z1 z2=>?_,S.fate,λ q hq=>?_⟩
   ·rw[gp st']
    by_cases e:st'=st
    ·subst e;refine .inr ⟨p,if_pos rfl,?_,.inr rfl,by rw[eR];exact Nat.zero_le _⟩;rw[ah np1.symm,aj,eR];rfl
    ·rw[if_neg e];rcases S.rows st' with z | ⟨l,e1,e2,e3,e4⟩
     ·exact .inl z
     ·exact .inr ⟨l,e1,by rw[kp _ e3 (oE e2 S.h1 nofun)];exact e2,.inl e3,by omega⟩
   ·rw[gp] at z1 z2
    by_cases e1:st1=st
    ·by_cases e2:st2=st
     ·rw[e1,e2]
     ·rw[if_pos e1] at z1;rw[if_neg e2] at z2;cases z1;rcases S.rows st2 with ⟨z,_⟩ | ⟨l,f1,f2,f3,f4⟩
      ·rw[z] at z2;cases z2
      ·rw[f1] at z2;cases z2;rw[hp] at f2;cases f2
    ·rw[if_neg e1] at z1
     by_cases e2:st2=st
     ·rw[if_pos e2] at z2;cases z2;rcases S.rows st1 with ⟨z,_⟩ | ⟨l,f1,f2,f3,f4⟩
      ·rw[z] at z1;cases z1
      ·rw[f1] at z1;cases z1;rw[hp] at f2;cases f2
     ·rw[if_neg e2] at z2;exact S.inj st1 st2 l z1 z2
   ·by_cases e:q=d1
    ·rw[e,aj];simp
    ·rcases hq with hq | rfl
     ·rw[kp _ hq e];exact S.live q hq
     ·rw[ah e,aj];simp
  refine jn S2 (by omega) (by rw[gp,if_pos rfl]) (by rw[ah np1.symm,aj,eR];rfl) (.inr rfl) (by rw[eR];exact Nat.zero_le _) h' λ M' S3 fr=>k (λ q=>O q\/q=p) M' ?_ (λ q hq=>?_) (λ q hq=>.inl hq) (λ q hq=>?_)
  ·exact S3.mono (by omega)
  ·rw[fr q hq,ah (λ e=>hq (.inl (by rw[e];exact S.o1))),ah (λ e=>hq (.inr e))]
  ·rcases hq with hq | rfl
   ·exact .inl hq
   ·exact .inr hp
def sx:Option Str->PyData
 | none=>.none
 | some z=>.str z
def az:SpD:=λ ws M Q=>∃ (s:Addr) (O:Addr->Prop) (st:Str) (R:Str->List Row) (F:K3->Option Str) (n:Nat),ws=[.m s,.d (.str st)]/\ShE M O s R F n/\∀ a,M a=none->Q (.m a) (bG M a (.lst ((aO (R st)).map W.d)))
theorem dh:∀ ws M Q,az ws M Q->ws.length=2:=by rintro ws M Q ⟨s,O,st,R,F,n,rfl,_⟩;rfl
theorem cQ:∀ ws M Q,az ws M Q->cf {nx:=λ _ M'=>Q (.d .none) M',rt:=Q} (bD cv ws) M:=by
 rintro ws M Q ⟨s,O,st,R,F,n,rfl,⟨d1,d2,kvs,fs,S⟩,k⟩;refine⟨_,rfl,s,_,_,rfl,S.hs,xk,.k S.h1,_,rfl,_,rfl,Nat.zero_le _,_,.k (k:=.inr st) S.h1,?_⟩;rcases S.rows st with ⟨e1,e2⟩ | ⟨l,e1,e2,e3,e4⟩
 ·rw[e1];refine⟨_,_,rfl,.l,λ a ha=>?_⟩;have:=k a ha;rw[e2] at this;exact this
 ·rw[e1];exact⟨_,_,rfl,.m e2,λ a ha=>k a ha⟩
def aD:SpD:=λ ws M Q=>∃ (s:Addr) (O:Addr->Prop) (kk:K3) (R:Str->List Row) (F:K3->Option Str) (n:Nat),ws=[.m s,.d (.str kk.1),.d (.int kk.2.1),.d (.int kk.2.2)]/\ShE M O s R F n/\Q (.d (sx (F kk))) M
theorem dJ:∀ ws M Q,aD ws M Q->ws.length=4:=by rintro ws M Q ⟨s,O,st,R,F,n,rfl,_⟩;rfl
theorem sX{o:Option Str}:(o.map λ z=>W.d (.str z)).getD (.d .none)=.d (sx o):=by cases o<;>rfl
theorem dj:∀ ws M Q,aD ws M Q->cE {nx:=λ _ M'=>Q (.d .none) M',rt:=Q} (bD cD ws) M:=by
 rintro ws M Q ⟨s,O,kk,R,F,n,rfl,⟨d1,d2,kvs,fs,S⟩,k⟩;refine⟨_,rfl,s,_,_,rfl,S.hs,vm,.t S.h2,_,rfl,_,rfl,_,rfl,_,rfl,few (by simp),_,.t (ks:=k3 kk) S.h2,?_⟩;rw[S.fate,sX];exact k
def Srt(rs:List Row):Prop:=rs.Pairwise λ a b=>a.tok<=b.tok
theorem o9:∀ {rs:List Row} {l:Row},Srt rs->rs.getLast? =some l->∀ a∈rs,a.tok<=l.tok:=by
 intro rs l hs hl a ha;obtain⟨ys,rfl⟩:=List.getLast?_eq_some_iff.mp hl;rcases List.mem_append.mp ha with h | h
 ·exact(List.pairwise_append.mp hs).2.2 a h l (by simp)
 ·simp at h;rw[h];exact Int.le_refl _
theorem l9{z:Str}(h:Asc z):PyData.strOk z=true:=by
 unfold PyData.strOk;rw[Array.all_eq_true_iff_forall_mem];intro c hc;exact decide_eq_true (by have:=h c (by simpa using hc);omega)
def ROk(r:Row):Prop:=Asc r.txt/\r.txt.length<=12/\r.tok.natAbs<2 ^ 64/\r.turn.natAbs<2 ^ 64/\r.place.natAbs<2 ^ 64
theorem nE{r:Row}(h:ROk r):PyData.canLay0 (jS r)=true:=by simp[jS,PyData.canLay0,PyData.canLayAll0,l9 h.1]
theorem f9:∀ {rs:List Row},(∀ r∈rs,ROk r)->PyData.canLayAll0 (aO rs)=true
 | [],_=>by simp[aO,PyData.canLayAll0]
 | r::rs,h=>by have h1:=nE (h r (by simp));have h2:=f9 (rs:=rs) λ x hx=>h x (by simp[hx]);simp only[aO,List.map_cons,PyData.canLayAll0,Bool.and_eq_true];exact⟨h1,h2⟩
theorem fB:∀ (rs:List Row),PyData.depthAll (aO rs)<=2
 | []=>by simp[aO,PyData.depthAll]
 | r::rs=>by have h2:=fB rs;simp only[aO] at h2;simp only[aO,List.map_cons,PyData.depthAll,jS,PyData.depth];omega
theorem kO:∀ (rs:List Row),PyData.hasDictAll (aO rs)=false
 | []=>by simp[aO,PyData.hasDictAll]
 | r::rs=>by have h2:=kO rs;simp only[aO] at h2;simp[aO,PyData.hasDictAll,jS,PyData.hasDict,h2]
theorem iq{rs:List Row}(h:∀ r∈rs,ROk r):iz (.list (aO rs))=true:=by
 have h1:=f9 h;have h2:=fB rs;have h3:=kO rs;have h4:PyData.depth (.list (aO rs))<=64:=by rw[PyData.depth];omega
 simp only[iz,SeqAt.shaped,PyData.canLay0,PyData.hasDict,h1,h3,Bool.true_and,Bool.not_false,Bool.and_true];exact decide_eq_true h4
theorem gM{rs:List Row}(h:∀ r∈rs,ROk r):PyData.eqv (.list (aO rs)) (.list (aO rs))=true:=SeqAt.eqv_refl _ (by rw[PyData.canLay0];exact f9 h)
theorem k5:∀ ns:List Int,PyData.hasDictAll (ns.map PyData.int)=false
 | []=>by simp[PyData.hasDictAll]
 | n::ns=>by simp[PyData.hasDictAll,PyData.hasDict,k5 ns]
theorem gS(ns:List Int):iz (.list (ns.map PyData.int))=true:=by have h1:=W.shaped_ints ns;have h2:=k5 ns;simp[iz,h1,PyData.hasDict,h2]
theorem c9{xs ys:List PyData}(h1:iz (.list xs)=true)(h2:iz (.list ys)=true):cu (.list xs) (.list ys)=true:=by show(iz (.list xs)&&iz (.list ys))=true;rw[h1,h2];rfl
abbrev la:Str:= " !~abz09,;AZ_$[#&'()*+-./:<=>?\x40]^`{|}GMgm5"
theorem n4:la.length=42:=by decide +kernel
theorem wk:Asc la:=d4 (by decide +kernel)
def bc:SpD:=λ ws M Q=>∃ (p:Addr) (zs:List Str) (most:Int),ws=[.m p,.d (j1 zs),.d (.int most)]/\Bag M p/\Sts zs/\0<=most/\most<=100 /\
 ∀ (st:Str) (r:Row) M',st∈zs->ROk r->Bag M' p->(∀ q,q≠p->M' q=M q)->Q (.d (wrD st r)) M'
theorem iX:∀ ws M Q,bc ws M Q->ws.length=3:=by rintro ws M Q ⟨p,zs,most,rfl,_⟩;rfl
theorem rl:∀ i∈([0,1,2,3,5,11,12,21,111]:List Int),i.natAbs<2 ^ 64:=by decide
theorem oI:∀ i∈([0,1,2,11,12,21]:List Int),i.natAbs<2 ^ 64:=by decide
theorem ik:∀ ws M Q,bc ws M Q->gE ai {nx:=λ _ M'=>Q (.d .none) M',rt:=Q} (bD il ws) M:=by
 rintro ws M Q ⟨p,zs,most,rfl,hb,⟨hz2,hz10,hzw,_⟩,hm0,hm1,k⟩;have s16':=s16;refine⟨_,rfl,_,rfl,_,rfl,_,_,rfl,rfl,rfl,p,((zs.map PyData.str).length:Nat),rfl,hb,by simp only[List.length_map];omega,by simp only[List.length_map];omega,λ i1 M1 i10 i11 b1 f1=>?_⟩;obtain⟨st,est,hst⟩:=mI (M:=M1) (zs:=zs) i10 (by simpa using i11);refine⟨i1,_,rfl,est,rfl,?_⟩;refine⟨_,rfl,_,rfl,.inl ⟨_,_,rfl,rfl,p,most+1,rfl,b1,by omega,by omega,λ tok M2 t0 t1 b2 f2=>?_⟩⟩;refine⟨_,rfl,few (by simp),_,rfl,p,9,rfl,b2,by decide,by decide,λ i3 M3 i30 i31 b3 f3=>?_⟩;obtain⟨turn,etu,htu⟩:=gQ (M:=M3) (ns:=[0,1,2,3,5,11,12,21,111]) i30 i31;refine⟨i3,_,rfl,etu,rfl,?_⟩;refine⟨_,rfl,p,4,rfl,b3,by decide,by decide,λ m4 M4 m40 m41 b4 f4=>?_⟩;refine⟨_,rfl,few (by simp),_,rfl,p,9,rfl,b4,by decide,by decide,λ i5 M5 i50 i51 b5 f5=>?_⟩;refine⟨_,_,.d,.d,rfl,.inr ⟨_,rfl,?_⟩⟩;have fr5:∀ q,q≠p->M5 q=M q:=λ q hq=>by rw[f5 q hq,f4 q hq,f3 q hq,f2 q hq,f1 q hq]
 have rest:∀ many:Int,0<=many->many<=12->(aV (bB (dC (.d (.str " !~abz09,;AZ_$[#&'()*+-./:<=>?\x40]^`{|}GMgm5"))) (gN 7)) <|
  aV (bB (dMS fk (dC (.d (.str ""))) (ae (dLC (iD (ae (ag 6) (aH))) (gN 0) (pF) (dOp bK (ag 1) (bj ai (ae (ag 2) (ae (dCB gj (ae (ag 1) (aH))) (aH))))) 1 [7, 0]) aH)) (gN 8)) <|
  cA (nj (ae (ag 3) (ae (ag 4) (ae (ag 5) (ae (dOp bK (gv (ae (dC (.d (.int 0))) (ae (dC (.d (.int 1))) (ae (dC (.d (.int 2))) (ae (dC (.d (.int 11))) (ae (dC (.d (.int 12))) (ae (dC (.d (.int 21))) (aH)))))))) (bj ai (ae (ag 0) (ae (dC (.d (.int 6))) (aH))))) (ae (ag 8) (aH)))))))) {nx:=λ _ M'=>Q (.d .none) M', rt:=Q}
   [some (.m p), some (.d (j1 zs)), some (.d (.int most)), some (.d (.str st)), some (.d (.int tok)), some (.d (.int turn)), some (.d (.int many)), none, none] M5:=by
  intro many g0 g1;refine⟨⟨_, rfl⟩, _, rfl, many, rfl, by omega, by omega, ?_⟩;dsimp only;refine drawn (z:=la) wk (by rw[n4];decide) (by rw[n4];decide) (k:=many.toNat) ?_ (by omega) b5 fr5 (λ w hw M' b R h=>?_) (λ ys M' hy hlen b f=>?_)
  ·simp only[dv, List.length_map, List.length_range]
  ·refine⟨_, rfl, _, rfl, _, rfl, _, _, rfl, rfl, by decide +kernel, p, (la.length:Int), rfl, b, by rw[n4];decide, by rw[n4];decide, λ r M3 r0 r1 b3 f3=>?_⟩;obtain⟨c, hc, hm⟩:=eG (M:=M3) (z:=la) r0 r1;exact⟨r, _, rfl, hc, by decide +kernel, h r M3 c hm b3 f3⟩
  ·obtain⟨ha, hl⟩:=s9 hy;have e0:("" : Str).length=0:=by decide +kernel
   have hsum:=kR (λ y hy'=>(hy y hy').1) 0;refine⟨"", ys, rfl, rfl, ?_, ?_⟩
   ·rw[e0];simp only[Nat.mul_zero, Nat.zero_add] at hsum ⊢;omega
   refine⟨_, rfl, _, rfl, _, rfl, _, rfl, few (by simp), _, rfl, p, 6, rfl, b, by decide, by decide, λ i6 M6 i60 i61 b6 f6=>?_⟩;obtain⟨pl, epl, hpl⟩:=gQ (M:=M6) (ns:=[0, 1, 2, 11, 12, 21]) i60 i61;refine⟨i6, _, rfl, epl, rfl, _, rfl, _, rfl, few (by simp), ?_⟩;exact k st ⟨tok, turn, pl, Txt.join "" ys⟩ M6 hst ⟨ha, by show(Txt.join "" ys).length<=12;omega,by show tok.natAbs<2 ^ 64;omega,rl _ htu,oI _ hpl⟩ b6 λ q hq=>(f6 q hq).trans (f q hq)
 cases hbq:(PyData.eqv (.int i5) (.int 0)) with
 | true=>exact⟨1,_,rfl,rfl,rfl,rest 12 (by decide) (by decide)⟩
 | false=>exact⟨0,_,rfl,rfl,rfl,rest m4 m40 (by omega)⟩
theorem ShE.live{M:MH}{O:Addr->Prop}{s:Addr}{R:Str->List Row}{F:K3->Option Str}{n:Nat}(h:ShE M O s R F n):∀ q,O q->M q≠none:=by obtain⟨d1,d2,kvs,fs,S⟩:=h;exact S.live
theorem ShE.at{M:MH}{O:Addr->Prop}{s:Addr}{R:Str->List Row}{F:K3->Option Str}{n:Nat}(h:ShE M O s R F n):∃ d1 d2,M s=some (.ins aq (qr d1 d2)):=by obtain⟨d1,d2,kvs,fs,S⟩:=h;exact⟨d1,d2,S.hs⟩
theorem cP{M:MH}{p:Addr}(h:Bag M p):M p≠none:=by obtain⟨o,e⟩:=pW h;rw[e];simp
theorem nU{R:Str->List Row}{F:K3->Option Str}{st:Str}{r:Row}(h:∀ st,Srt (R st)):∀ st',Srt (ej R F st r st'):=by
 intro st';unfold ej
 split
 ·rename_i hc
  obtain⟨rfl,_,hs⟩:=hc;unfold Srt;rw[List.pairwise_append];refine⟨h st',by simp,λ a ha b hb=>?_⟩;simp at hb;rw[hb];cases e:(R st').getLast? with
  | none =>
   rw[List.getLast?_eq_none_iff] at e;rw[e] at ha;cases ha
  | some l =>
   have h1:=o9 (h st') e a ha;unfold bL at hs;rw[e] at hs;have:=of_decide_eq_false hs;omega
 ·exact h st'
theorem n9{R:Str->List Row}{F:K3->Option Str}{st:Str}{r:Row}(h:∀ st,∀ ro∈R st,ROk ro)(hr:ROk r):∀ st',∀ ro∈ej R F st r st',ROk ro:=by
 intro st' ro hro;unfold ej at hro
 split at hro
 ·rcases List.mem_append.mp hro with h1 | h1
  ·exact h _ ro h1
  ·simp at h1;rw[h1];exact hr
 ·exact h st' ro hro
theorem mn{α:Type}{gt:TGd}{tt:TTd}{te:TD}{Q:List PyData->DS->MH->Prop}{τ0:DS}{M0:MH}(L:List α)(g:α->W)(f:α->PyData)(pr:α->Bool)(S:DS->Prop)(J:MH->Prop)(hL:L.length<=900000)(h0:S τ0)(j0:J M0)
  (step:∀ a∈L,∀ τ M,S τ->J M->∀ R:Option PyData->DS->MH->Prop,(∀ τ2 M2,S τ2->J M2->R (if pr a=true then some (f a) else none) τ2 M2)->gt (g a) τ M λ τ2 M2=>tt τ2 M2 λ b M3=>if b=true then te τ2 M3 λ y M4=>∃ d,y=.d d/\R (some d) τ2 M4 else R none τ2 M3)
  (q:∀ τ M,J M->Q ((L.filter pr).map f) τ M) :
  ∃ P:Nat->List PyData->DS->MH->Prop,P 0 [] τ0 M0 /\
   (∀ i w acc τ M,(L.map g)[i]? =some w->P i acc τ M->acc.length<sizeLine/\gt w τ M λ τ2 M2=>tt τ2 M2 λ b M3=>if b=true then te τ2 M3 λ y M4=>∃ d,y=.d d/\P (i+1) (acc++[d]) τ2 M4 else P (i+1) acc τ2 M3) /\
   ∀ acc τ M,P (L.map g).length acc τ M->Q acc τ M:=by
 refine⟨λ i acc τ M=>acc=((L.take i).filter pr).map f/\S τ/\J M,⟨rfl,h0,j0⟩,?_,?_⟩
 ·rintro i w acc τ M hw ⟨rfl,hs,hj⟩;obtain⟨a,e,rfl⟩:=jA hw;have hi:=(List.getElem?_eq_some_iff.mp e).1;refine⟨?_,?_⟩
  ·have h1:=List.length_filter_le pr (L.take i);rw[List.length_map];rw[List.length_take] at h1;have:1000000<=sizeLine:=by decide
   omega
  ·have et:((L.take (i+1)).filter pr).map f=((L.take i).filter pr).map f++(if pr a=true then [f a] else []):=by
    rw[List.take_succ,e,List.filter_append,List.map_append];congr 1
    by_cases z:pr a=true
    ·simp[z]
    ·simp[z]
   refine step a (List.mem_of_getElem? e) τ M hs hj (λ o τ2 M2=>match o with
    | some d=>((L.take i).filter pr).map f++[d]=((L.take (i+1)).filter pr).map f/\S τ2/\J M2
    | none=>((L.take i).filter pr).map f=((L.take (i+1)).filter pr).map f/\S τ2/\J M2) λ τ2 M2 h2 j2=>?_
   by_cases z:pr a=true
   ·rw[if_pos z] at et ⊢;exact⟨et.symm,h2,j2⟩
   ·rw[if_neg z] at et ⊢;exact⟨by rw[et,List.append_nil],h2,j2⟩
 ·rintro acc τ M ⟨rfl,hs,hj⟩;rw[List.length_map,List.take_length];exact q τ M hj
def Lk(M:MH)(a:Addr)(R:Str->List Row)(n:Nat):Prop:=∃ kvs,M a=some (.dic kvs)/\kvs.length<=n/\∀ st,(bF kvs (.inr st)).getD (.d (.list []))=.d (.list (aO (R st)))
theorem Lk.keep{M M':MH}{a:Addr}{R:Str->List Row}{n:Nat}(h:Lk M a R n)(e:M' a=M a):Lk M' a R n:=by obtain⟨kvs,h1,h2,h3⟩:=h;exact⟨kvs,by rw[e];exact h1,h2,h3⟩
theorem Lk.put{M:MH}{a:Addr}{R:Str->List Row}{n:Nat}{kvs:List (Key×W)}(h2:kvs.length<=n)(h3:∀ st,(bF kvs (.inr st)).getD (.d (.list []))=.d (.list (aO (R st))))(st:Str)(rs:List Row):Lk (bG M a (.dic (eS kvs (.inr st) (.d (.list (aO rs)))))) a (λ st'=>if st'=st then rs else R st') (n+1):=by
 refine⟨_,aj,?_,λ st'=>?_⟩
 ·have:=iR kvs (.inr st) (W.d (.list (aO rs)));omega
 ·rw[gm]
  by_cases e:st'=st
  ·subst e;simp
  ·rw[if_neg λ z=>e (Sum.inr.inj z)];show _=W.d (.list (aO (if st'=st then rs else R st')));rw[if_neg e];exact h3 st'
structure Iv(R:Str->List Row)(F:K3->Option Str)(k:Nat):Prop where
 srt:∀ st,Srt (R st)
 ok:∀ st,∀ r∈R st,ROk r
 done:∀ st,∀ r∈R st,F (cN st r)=some ("done" : Str)
 nd:∀ st,((R st).map λ r=>[r.turn,r.place]).Nodup
 len:∀ st,(R st).length<=k
def aI:SpD:=λ ws M Q=>∃ (s d e:Addr) (O:Addr->Prop) (zs:List Str) (R Re:Str->List Row) (F:K3->Option Str) (n nd ne:Nat),ws=[.m s,.d (j1 zs),.m d,.m e]/\ShE M O s R F n/\Sts zs/\Iv R F 90/\Lk M d R nd/\Lk M e Re ne/\(∀ st,∃ X,R st=Re st++X)/\¬ O e/\d≠e/\ne<=5000 /\
 ∀ M' Re',Lk M' e Re' (ne+10)->(∀ st,∃ X,R st=Re' st++X)->(∀ q,q≠e->M' q=M q)->Q (.d (.bool true)) M'
theorem iL:∀ ws M Q,aI ws M Q->ws.length=4:=by rintro ws M Q ⟨s,d,e,O,zs,R,Re,F,n,nd,ne,rfl,_⟩;rfl
theorem mM{M:MH}{l:Addr}{o:MO}(h:M l=none):pH (bG M l o) l=M:=by
 funext b;unfold pH bG
 by_cases e:b=l
 ·subst e;simp[h]
 ·simp[e]
theorem fj:∀ ns:List Int,PyData.eqvAll (ns.map PyData.int) (ns.map PyData.int)=true
 | []=>rfl
 | n::ns=>by rw[List.map_cons,PyData.eqvAll,fj ns,d0,decide_eq_true rfl];rfl
theorem lE(ns:List Int):PyData.eqv (.list (ns.map PyData.int)) (.list (ns.map PyData.int))=true:=by rw[PyData.eqv];exact fj ns
def xa(s d e:Addr)(zs:List Str)(x4 x5 x6 x7 x8 x9 x10:Option W):DS:=[some (.m s),some (.d (j1 zs)),some (.m d),some (.m e),x4,x5,x6,x7,x8,x9,x10]
theorem ix:∀ ws M Q,aI ws M Q->hV az aD {nx:=λ _ M'=>Q (.d .none) M',rt:=Q} (bD gR ws) M:=by
 rintro ws M Q ⟨s,d,e,O,zs,R,Re,F,n,nd,ne,rfl,hS,hz,I,hd,he,hp,hOe,de,ne5,k⟩;have s16':=s16;obtain⟨hz2,hz10,hzw,_⟩:=hz;refine⟨_,rfl,_,rfl,?_⟩;refine⟨λ i τ M'=>i<=zs.length/\(∃ Re',Lk M' e Re' (ne+i)/\∀ st,∃ X,R st=Re' st++X)/\(∀ q,q≠e->M' q=M q)/\∃ x4 x5 x6 x7 x8 x9 x10,τ=xa s d e zs x4 x5 x6 x7 x8 x9 x10,⟨Nat.zero_le _,⟨Re,he,hp⟩,λ _ _=>rfl,_,_,_,_,_,_,_,rfl⟩,?_,?_⟩
 ·rintro i wv τ M' hw ⟨hi,⟨Re',⟨kve,he1,he2,he3⟩,hp'⟩,fr,x4,x5,x6,x7,x8,x9,x10,rfl⟩;rw[List.map_map] at hw;obtain⟨st,hst,rfl⟩:=jA hw;have hlt:=(List.getElem?_eq_some_iff.mp hst).1;obtain⟨d1,d2,kvs1,fs1,S⟩:=hS.keep (M':=M') λ q hq=>fr q λ z=>hOe (z ▸ hq);obtain⟨kvd,hd1,hd2,hd3⟩:=hd.keep (M':=M') (fr d de);have hlen:=I.len st;refine⟨_,rfl,s,_,rfl,S.hs,rS,_,rfl,s,O,st,R,F,n,rfl,⟨d1,d2,kvs1,fs1,S⟩,λ a ha=>⟨a,aO (R st),rfl,aj,?_⟩⟩;rw[mM ha];obtain⟨X,hX⟩:=hp' st;have lenE:(Re' st).length<=(R st).length:=by rw[hX,List.length_append];omega
  have okE:∀ r∈Re' st,ROk r:=λ r hr=>I.ok st r (by rw[hX];exact List.mem_append_left _ hr);refine⟨_,rfl,_,rfl,.k he1,_,rfl,_,rfl,Nat.zero_le _,_,.k (k:=.inr st) he1,?_⟩;rw[he3 st];refine⟨_,_,rfl,rfl,rfl,_,rfl,_,rfl,rfl,?_⟩;refine⟨_,rfl,.k he1,_,rfl,_,rfl,Nat.zero_le _,_,.k (k:=.inr st) he1,?_⟩;rw[he3 st];have ec:cutD (aO (R st)) none (some ((aO (Re' st)).length:Nat))=aO (Re' st):=by rw[ou (by unfold aO;rw[List.length_map,List.length_map];exact lenE),hX];unfold aO;rw[List.map_append,List.take_left]
  rw[ec];have rE:=iq okE;have rR:=iq (I.ok st);refine⟨_,_,.d,.d,c9 rE rE,_,rfl,?_⟩;rw[gM okE];refine oM ⟨_,rfl,_,rfl,.k hd1,_,rfl,_,rfl,Nat.zero_le _,_,.k (k:=.inr st) hd1,?_⟩;rw[hd3 st];refine⟨_,_,.d,.d,c9 rR rR,_,rfl,?_⟩;rw[gM (I.ok st)];refine oM ⟨_,rfl,_,rfl,?_⟩;have eW:(aO (R st)).map W.d=(R st).map (W.d ∘ jS):=by unfold aO;rw[List.map_map]
  rw[eW];refine mn (R st) (W.d ∘ jS) (λ r=>.int r.tok) (λ _=>true) (λ τ=>∃ x,τ=[x]) (λ M2=>M2=M') (by omega) ⟨_,rfl⟩ rfl (λ r hr τ M2 hτ hM R' h=>?_) λ τ M2 hM=>?_
  ·obtain⟨x,rfl⟩:=hτ;subst hM;exact⟨_,rfl,0,_,rfl,rfl,rfl,_,rfl,h [some (.d (jS r))] M2 ⟨_,rfl⟩ rfl⟩
  subst hM;rw[List.filter_eq_self.mpr λ _ _=>rfl];have et:(R st).map (λ r=>PyData.int r.tok)=((R st).map (·.tok)).map PyData.int:=by rw[List.map_map];rfl
  rw[et];refine⟨_,rfl,_,rfl,_,_,rfl,.d,by rw[List.length_map];omega,List.pairwise_map.mpr (I.srt st),λ a2 ha2=>⟨a2,((R st).map (·.tok)).map PyData.int,rfl,by rw[aj];unfold oY;rw[List.map_map,List.map_map,List.map_map];rfl,?_⟩⟩;rw[mM ha2];refine⟨_,_,.d,.d,c9 (gS _) (gS _),_,rfl,?_⟩;rw[lE];refine oM ⟨_,rfl,_,rfl,?_⟩;rw[eW];refine mn (R st) (W.d ∘ jS) (λ r=>.tuple ([r.turn,r.place].map PyData.int)) (λ _=>true) (λ τ=>∃ x,τ=[x]) (λ M3=>M3=M2) (by omega) ⟨_,rfl⟩ rfl (λ r hr τ M3 hτ hM R' h=>?_) λ τ M3 hM=>?_
  ·obtain⟨x,rfl⟩:=hτ;subst hM;exact⟨_,rfl,_,rfl,_,rfl,_,rfl,rfl,_,rfl,h [some (.d (jS r))] M3 ⟨_,rfl⟩ rfl⟩
  subst hM;rw[List.filter_eq_self.mpr λ _ _=>rfl];have er:(R st).map (λ r=>PyData.tuple ([r.turn,r.place].map PyData.int))=kB ((R st).map λ r=>[r.turn,r.place]):=by unfold kB;rw[List.map_map];rfl
  rw[er];refine⟨_,.d,I.nd st,by rw[List.length_map];omega,_,rfl,_,_,rfl,rfl,rfl,_,_,.d,.d,rfl,_,rfl,?_⟩;rw[d0,decide_eq_true (by unfold aO;rw[List.length_map,List.length_map])];refine oM ⟨_,rfl,_,rfl,?_⟩;rw[eW];refine⟨λ j τ M4=>M4=M3/\∃ x6 x7 x8 x9 x10,τ=xa s d e zs (some (.d (.str st))) (some (.d (.list (aO (R st))))) x6 x7 x8 x9 x10,⟨rfl,_,_,_,_,_,rfl⟩,?_,?_⟩
  ·rintro j wj τ M4 hwj ⟨e4,y6,y7,y8,y9,y10,rfl⟩;subst e4;obtain⟨r,hr,rfl⟩:=jA hwj;have hrR:=List.mem_of_getElem? hr;refine⟨_,rfl,rfl,_,_,rfl,_,_,rfl,_,_,rfl,_,_,rfl,rfl,?_⟩;refine⟨_,rfl,s,_,rfl,S.hs,ur,_,rfl,_,rfl,_,rfl,s,O,(st,r.turn,r.place),R,F,n,rfl,⟨d1,d2,kvs1,fs1,S⟩,?_⟩;rw[show F (st,r.turn,r.place)=some ("done" : Str) from I.done st r hrR];refine⟨_,_,.d,.d,rfl,_,rfl,?_⟩;dsimp only;rw[show(!PyData.eqv (sx (some ("done" : Str))) (.str "done"))=false by decide +kernel];exact oM ⟨rfl,_,_,_,_,_,rfl⟩
  ·rintro τ M4 ⟨e4,y6,y7,y8,y9,y10,rfl⟩;subst e4;refine⟨_,rfl,_,rfl,_,rfl,e,kve,.inr st,rfl,he1,rfl,by omega,by omega,⟨_,Lk.put he2 he3 st (R st),λ st'=>?_⟩,λ q hq=>by rw[ah hq];exact fr q hq,_,_,_,_,_,_,_,rfl⟩
   by_cases es:st'=st
   ·subst es;exact⟨[],by rw[if_pos rfl];simp⟩
   ·rw[if_neg es];exact hp' st'
 ·rintro τ M' ⟨hi,⟨Re',he',hp'⟩,fr,x4,x5,x6,x7,x8,x9,x10,rfl⟩;obtain⟨kve,he1,he2,he3⟩:=he';exact k M' Re' ⟨kve,he1,by omega,he3⟩ hp' fr
theorem cz(R:Str->List Row)(F:K3->Option Str)(st:Str)(r:Row)(st':Str):ej R F st r st'=R st'\/(st'=st/\(F (cN st r)).isSome=false/\bL (R st) r.tok=false/\ej R F st r st'=R st++[r]):=by
 unfold ej
 by_cases h:st'=st/\(F (cN st r)).isSome=false/\bL (R st) r.tok=false
 ·rw[if_pos h];exact .inr ⟨h.1,h.2.1,h.2.2,rfl⟩
 ·rw[if_neg h];exact .inl rfl
theorem oX(R:Str->List Row)(F:K3->Option Str)(st:Str)(r:Row)(st':Str):∃ X,ej R F st r st'=R st'++X:=by
 rcases cz R F st r st' with h | ⟨e,_,_,h⟩
 ·exact⟨[],by rw[h,List.append_nil]⟩
 ·exact⟨[r],by rw[h,e]⟩
theorem Iv.step{R:Str->List Row}{F:K3->Option Str}{k:Nat}(I:Iv R F k){st:Str}{r:Row}(hr:ROk r):Iv (ej R F st r) (iF R F st r) (k+1) where
 srt:=nU I.srt
 ok:=n9 I.ok hr
 done:=λ st' r' h=>by
  have old:∀ ro∈R st',iF R F st r (cN st' ro)=some ("done" : Str):=λ ro hro=>by
   have hd:=I.done st' ro hro;unfold iF;rw[if_neg λ z=>?_]
   ·exact hd
   ·rw[<- z.1,hd] at z;exact absurd z.2 (by decide)
  rcases cz R F st r st' with e | ⟨e,h1,h2,e2⟩
  ·rw[e] at h;exact old r' h
  ·rw[e2,<- e] at h;rcases List.mem_append.mp h with h | h
   ·exact old r' h
   ·rw[List.mem_singleton.mp h,e];unfold iF;rw[if_pos ⟨rfl,h1⟩,eu h1,h2];rfl
 nd:=λ st'=>by
  rcases cz R F st r st' with e | ⟨e,h1,h2,e2⟩
  ·rw[e];exact I.nd st'
  ·rw[e2,List.map_append];refine List.nodup_append.mpr ⟨I.nd st,by simp,λ a ha b hb eab=>?_⟩;obtain⟨ro,hro,rfl⟩:=List.mem_map.mp ha;rw[List.mem_singleton.mp hb] at eab
   injection eab with e3 e4
   injection e4 with e4 _
   have hd:=I.done st ro hro;have:cN st ro=cN st r:=by unfold cN;rw[e3,e4]
   rw[this] at hd;rw[hd] at h1;cases h1
 len:=λ st'=>by
  have:=I.len st';have:=I.len st;rcases cz R F st r st' with e | ⟨e,h1,h2,e2⟩
  ·rw[e];omega
  ·rw[e2,List.length_append,List.length_singleton];omega
structure St(M:MH)(p s d e:Addr)(O:Addr->Prop)(R Re:Str->List Row)(F:K3->Option Str)(i:Nat):Prop where
 bag:Bag M p
 sh:ShE M O s R F (3 * i)
 hd:Lk M d R i
 he:Lk M e Re (10 * i)
 pre:∀ st,∃ X,R st=Re st++X
 iv:Iv R F i
 op:¬ O p
 od:¬ O d
 oe:¬ O e
 pd:p≠d
 pe:p≠e
 de:d≠e
theorem St.take{M M':MH}{p s d e:Addr}{O:Addr->Prop}{R Re:Str->List Row}{F:K3->Option Str}{i:Nat}(h:St M p s d e O R Re F i)(b:Bag M' p)(f:∀ q,q≠p->M' q=M q):St M' p s d e O R Re F i:=
 ⟨b,h.sh.keep λ q hq=>f q λ z=>h.op (z ▸ hq),h.hd.keep (f d h.pd.symm),h.he.keep (f e h.pe.symm),h.pre,h.iv,h.op,h.od,h.oe,h.pd,h.pe,h.de⟩
def sJ(x0:Option W)(p:Addr)(zs:List Str)(s d e:Addr)(ris:Bool)(tok:Int)(st:Str)(r:Row)(x9 x10 x11:Option W):DS:=[x0,some (.m p),some (.d (j1 zs)),some (.m s),some (.m d),some (.m e),some (.d (.bool ris)),some (.d (.int tok)),some (.d (wrD st r)),x9,x10,x11]
def pq(aA aI:SpD):TSd:=
   aV (bB (iB aq "put" aA (ag 3) (ae (ag 8) (aH))) (gN 11)) <|
   aV (dIf (aY (dOp (kX true) (ag 11) (gv (ae (dS "done") (ae (dS "stale") (ae (dS "again") (aH)))))))
    (cA (dC (.d (.bool false))))
    (bu)) <|
   aV (dIf (aY (dOp eD (ag 11) (dS "done")))
    (lL (ag 4) (dOp bK (ag 8) (dI 0)) (vk (gB (ag 4) (dOp bK (ag 8) (dI 0)) (gv (aH))) (gv (ae (dSl (ag 8) (gk (dI 1)) (c6)) (aH)))))
    (bu)) <|
   dIf (uM (aY (bj aI (ae (ag 3) (ae (ag 2) (ae (ag 4) (ae (ag 5) (aH))))))))
    (cA (dC (.d (.bool false))))
    (bu)
theorem qV(R:Str->List Row)(F:K3->Option Str)(st:Str)(r:Row):wordOf R F st r∈(["done", "stale", "again"]:List Str):=by
 unfold wordOf
 split
 ·simp
 ·split<;>simp
theorem og{M:MH}{D:Ed}{x0:Option W}{p:Addr}{zs:List Str}{s d e:Addr}{ris:Bool}{tok:Int}{st:Str}{r:Row}{x9 x10 x11:Option W}{O:Addr->Prop}{R Re:Str->List Row}{F:K3->Option Str}{i:Nat}(I:St M p s d e O R Re F i)(hi:i<=85)(hz:Sts zs)(hr:ROk r)
  (nx:∀ M' O' R' Re' F' x11,St M' p s d e O' R' Re' F' (i+1)->D.nx (sJ x0 p zs s d e ris tok st r x9 x10 x11) M'):pq aA aI D (sJ x0 p zs s d e ris tok st r x9 x10 x11) M:=by
 have s16':=s16;obtain⟨d1,d2,hs⟩:=I.sh.at;refine⟨_,rfl,s,_,rfl,hs,sT,_,rfl,s,O,st,r,R,F,3 * i,rfl,I.sh,by omega,λ O' M' S' fr mono sub=>?_⟩;have lp:M p≠none:=cP I.bag;obtain⟨kvd,hd1,hd2,hd3⟩:=I.hd;obtain⟨kve,he1,he2,he3⟩:=I.he;have np:¬ O' p:=λ z=>(sub p z).elim I.op lp;have nd:¬ O' d:=λ z=>(sub d z).elim I.od λ y=>by rw[hd1] at y;cases y
 have ne:¬ O' e:=λ z=>(sub e z).elim I.oe λ y=>by rw[he1] at y;cases y
 have b1:Bag M' p:=bE I.bag (fr p np);have hd1':M' d=some (.dic kvd):=by rw[fr d nd];exact hd1
 have he':Lk M' e Re (10 * i):=⟨kve,by rw[fr e ne];exact he1,he2,he3⟩;have pre':∀ st',∃ X,ej R F st r st'=Re st'++X:=λ st'=>by obtain⟨X,hX⟩:=I.pre st';obtain⟨Y,hY⟩:=oX R F st r st';exact⟨X++Y,by rw[hY,hX,List.append_assoc]⟩
 have iv':=I.iv.step (st:=st) hr;refine⟨_,rfl,[_,_,_],rfl,few (by simp),_,["done", "stale", "again"],rfl,.l,_,rfl,?_⟩;rw[if_pos rfl,decide_eq_true (qV R F st r)];refine oM ⟨_,rfl,_,_,.d,.d,rfl,_,rfl,?_⟩;have fin:∀ M2,Lk M2 d (ej R F st r) (i+1)->(∀ q,q≠d->M2 q=M' q)->∀ x11,(dIf (uM (aY (bj aI (ae (ag 3) (ae (ag 2) (ae (ag 4) (ae (ag 5) (aH))))))))
    (cA (dC (.d (.bool false))))
    (bu)) D (sJ x0 p zs s d e ris tok st r x9 x10 x11) M2:=λ M2 h2 f2 x11=>by
  have S2:ShE M2 O' s (ej R F st r) (iF R F st r) (3 * i+3):=S'.keep λ q hq=>f2 q λ z=>nd (z ▸ hq);have b2:Bag M2 p:=bE b1 (f2 p I.pd);have he2':Lk M2 e Re (10 * i):=he'.keep (f2 e I.de.symm);have iv90:Iv (ej R F st r) (iF R F st r) 90:=⟨iv'.srt,iv'.ok,iv'.done,iv'.nd,λ st=>by have:=iv'.len st;omega⟩;refine⟨_,rfl,_,rfl,_,rfl,_,rfl,s,d,e,O',zs,_,Re,_,3 * i+3,i+1,10 * i,rfl,S2,hz,iv90,h2,he2',pre',ne,I.de,by omega,λ M3 Re' h3 p3 f3=>⟨_,rfl,oM (nx M3 O' _ Re' _ _ ⟨?_,?_,?_,?_,p3,iv',np,nd,ne,I.pd,I.pe,I.de⟩)⟩⟩
  ·exact bE b2 (f3 p I.pe)
  ·rw[show 3 * (i+1)=3 * i+3 by omega];exact S2.keep λ q hq=>f3 q λ z=>ne (z ▸ hq)
  ·exact h2.keep (f3 d I.de)
  ·rw[show 10 * (i+1)=10 * i+10 by omega];exact h3
 rw[jx]
 by_cases hw:wordOf R F st r=("done" : Str)
 ·rw[decide_eq_true hw];have hF:(F (cN st r)).isSome=false:=by
   cases z:(F (cN st r)).isSome with
   | false=>rfl
   | true=>unfold wordOf at hw;rw[if_pos z] at hw;exact absurd hw (by decide +kernel)
  have hst:bL (R st) r.tok=false:=by
   cases z:bL (R st) r.tok with
   | false=>rfl
   | true=>rw[eu hF,z] at hw;exact absurd hw (by decide +kernel)
  refine xW ⟨_,rfl,.k hd1',_,rfl,0,_,rfl,rfl,rfl,_,rfl,Nat.zero_le _,_,.k (k:=.inr st) hd1',?_⟩;rw[hd3 st];have lenR:=I.iv.len st;refine⟨_,rfl,_,rfl,_,rfl,rfl,[_],rfl,few (by simp),_,_,.d,.d,by simp only[aO,List.length_map,List.length_singleton];omega,_,rfl,_,rfl,0,_,rfl,rfl,rfl,d,kvd,.inr st,rfl,hd1',rfl,by omega,?_⟩;have eR:(λ st'=>if st'=st then R st++[r] else R st')=ej R F st r:=by
   funext st';unfold ej
   by_cases e:st'=st
   ·rw[if_pos e,if_pos ⟨e,hF,hst⟩]
   ·rw[if_neg e,if_neg (λ z=>e z.1)]
  have hk:=Lk.put (M:=M') (a:=d) hd2 hd3 st (R st++[r]);rw[eR] at hk;have er:aO (R st++[r])=aO (R st)++[jS r]:=by simp[aO]
  rw[er] at hk;exact fin _ hk (λ q hq=>ah hq) _
 ·rw[decide_eq_false hw];have same:ej R F st r=R:=e8 (by
   cases z:(F (cN st r)).isSome with
   | true=>exact .inl rfl
   | false =>
    refine .inr ?_;cases y:bL (R st) r.tok with
    | true=>rfl
    | false=>rw[eu z,y] at hw;exact absurd rfl hw)
  refine oM (fin M' ⟨kvd,hd1',by omega,λ st'=>by rw[same];exact hd3 st'⟩ (λ _ _=>rfl) _)
def eO:SpD:=λ ws M Q=>∃ ns:List Int,ws=[.d (.list (ns.map PyData.int))]/\ns.length<=63/\M=(λ _=>none)/\∀ M',Q (.d (.bool true)) M'
theorem sD:∀ ws M Q,eO ws M Q->ws.length=1:=by rintro ws M Q ⟨d,rfl,_⟩;rfl
theorem o5:∀ ns:List Int,ns.length<=63->eO [.d (.list (ns.map PyData.int))] (λ _=>none) (λ w _=>w=.d (.bool true)):=λ ns h=>⟨ns,rfl,h,rfl,λ _=>rfl⟩
theorem o6:∀ ws M Q,eO ws M Q->tL bN bb aN ai bc aA aI {nx:=λ _ M'=>Q (.d .none) M',rt:=Q} (bD uk ws) M:=by
 rintro ws M Q ⟨ns,rfl,hl,rfl,k⟩;have s16':=s16;refine⟨_,rfl,ns,rfl,by omega,λ p M1 _ f1 b1=>?_⟩;refine⟨_,rfl,p,rfl,b1,λ zs M2 hz b2 f2=>?_⟩;refine λ s hs=>⟨s,rfl,aj,λ O M3 S1 fr1 sub1=>⟨rfl,λ d hd=>λ e he=>⟨_,_,rfl,?_⟩⟩⟩;have ps:p≠s:=λ e=>cP b2 (e ▸ hs);have np1:¬ O p:=λ z=>(sub1 p z).elim ps λ y=>cP b2 (by rw[ah ps] at y;exact y);have b3:Bag M3 p:=bE b2 (by rw[fr1 p np1,ah ps]);have ed:e≠d:=λ z=>by rw[z,aj] at he;cases he
 have he3:M3 e=none:=by rw[ah ed] at he;exact he
 have pd:p≠d:=λ z=>cP b3 (z ▸ hd);have pe:p≠e:=λ z=>cP b3 (z ▸ he3);have I0:St (bG (bG M3 d (.dic [])) e (.dic [])) p s d e O (λ _=>[]) (λ _=>[]) (λ _=>none) 0:=
  {bag:=bE b3 (by rw[ah pe,ah pd])
   sh:=S1.keep λ q hq=>by have h1:=S1.live q hq;rw[ah λ z:q=e=>h1 (by rw[z];exact he3),ah λ z:q=d=>h1 (by rw[z];exact hd)]
   hd:=⟨[],by rw[ah ed.symm,aj],Nat.zero_le _,λ _=>rfl⟩
   he:=⟨[],aj,Nat.zero_le _,λ _=>rfl⟩
   pre:=λ _=>⟨[],rfl⟩
   iv:=⟨λ _=>List.Pairwise.nil,λ _ _ h=>(by cases h),λ _ _ h=>(by cases h),λ _=>List.nodup_nil,λ _=>Nat.zero_le _⟩
   op:=np1
   od:=λ z=>S1.live d z hd
   oe:=λ z=>S1.live e z he3
   pd:=pd
   pe:=pe
   de:=ed.symm}
 generalize bG (bG M3 d (.dic [])) e (.dic [])=M5 at I0 ⊢;refine⟨_,rfl,p,4,rfl,I0.bag,by decide,by decide,λ ri M6 r0 r1 b6 f6=>⟨_,_,rfl,rfl,?_⟩⟩;have I6:=I0.take b6 f6;refine⟨_,rfl,_,rfl,p,zs,6,rfl,b6,hz,by decide,by decide,λ st r M7 hst hr b7 f7=>?_⟩;have I7:=I6.take b7 f7;refine⟨_,rfl,p,71,rfl,b7,by decide,by decide,λ m M8 m0 m1 b8 f8=>.inl ⟨_,_,rfl,rfl,_,rfl,by omega,by omega,?_⟩⟩;have I8:=I7.take b8 f8;refine⟨λ i τ M'=>i<=81/\∃ O R Re F st r tok x9 x10 x11,St M' p s d e O R Re F i/\ROk r/\1<=tok/\tok<=1+(i:Int)/\τ=sJ (some (.d (.list (ns.map PyData.int)))) p zs s d e (decide ((0:Int)<ri)) tok st r x9 x10 x11,⟨Nat.zero_le _,O,_,_,_,st,r,1,_,_,_,I8,hr,by decide,by decide,rfl⟩,?_,?_⟩
 ·rintro i w τ M9 hw ⟨hi,O,R,Re,F,st,r,tok,x9,x10,x11,I9,hr,t0,t1,rfl⟩;obtain⟨hlt,rfl⟩:=uW hw;have hi80:i<81:=by omega
  have fin:∀ M' (st:Str) (r:Row) tok y10,St M' p s d e O R Re F i->ROk r->1<=tok->tok<=1+((i+1:Nat):Int)->pq aA aI {nx:=λ τ M'=>i+1<=81/\∃ O R Re F st r tok x9 x10 x11,St M' p s d e O R Re F (i+1)/\ROk r/\1<=tok/\tok<=1+((i+1:Nat):Int)/\τ=sJ (some (.d (.list (ns.map PyData.int)))) p zs s d e (decide ((0:Int)<ri)) tok st r x9 x10 x11,rt:=Q} (sJ (some (.d (.list (ns.map PyData.int)))) p zs s d e (decide ((0:Int)<ri)) tok st r (some (.d (.int (0+(i:Int))))) y10 x11) M':=λ M' st r tok y10 I' hr' a b =>
   og I' (by omega) hz hr' λ M2 O' R' Re' F' y I2=>⟨by omega,O',R',Re',F',st,r,tok,_,_,_,I2,hr',a,b,rfl⟩
  refine⟨_,rfl,p,6,rfl,I9.bag,by decide,by decide,λ a M10 a0 a1 b10 f10=>⟨_,_,rfl,rfl,_,rfl,?_⟩⟩;have I10:=I9.take b10 f10;refine dm (λ _=>?_) λ _=>fin M10 st r tok _ I10 hr t0 (by omega);refine⟨_,rfl,_,rfl,p,zs,6,rfl,b10,hz,by decide,by decide,λ st2 r2 M11 hst2 hr2 b11 f11=>?_⟩;have I11:=I10.take b11 f11;refine⟨_,rfl,_,rfl,?_⟩;refine dm (λ _=>?_) λ _=>fin M11 st2 r2 tok _ I11 hr2 t0 (by omega);refine⟨_,rfl,_,rfl,p,5,rfl,b11,by decide,by decide,λ c M12 c0 c1 b12 f12=>⟨_,_,.d,.d,rfl,.inr ⟨_,rfl,.inl ⟨_,_,rfl,rfl,?_⟩⟩⟩⟩;have I12:=I11.take b12 f12;obtain⟨tk,ht,ht0,ht1⟩:∃ tk:Int,tok+(if PyData.eqv (.int c) (.int 0)=true then 1 else 0)=tk/\1<=tk/\tk<=1+((i+1:Nat):Int):=⟨_,rfl,by split<;>omega,by split<;>omega⟩;dsimp only;rw[ht];refine⟨_,rfl,p,4,rfl,b12,by decide,by decide,λ l1 M13 l0 l4 b13 f13=>?_⟩;have I13:=I12.take b13 f13;refine⟨_,rfl,p,4,rfl,b13,by decide,by decide,λ l2 M14 l20 l24 b14 f14=>⟨_,_,.d,.d,rfl,.inr ⟨_,rfl,_,_,rfl,rfl,.inr ⟨by split<;>decide,by split<;>decide⟩,?_⟩⟩⟩;have I14:=I13.take b14 f14;obtain⟨lt,hlt2,lt0,lt3⟩:∃ lt:Int,l1 * (if PyData.eqv (.int l2) (.int 0)=true then 1 else 0)=lt/\0<=lt/\lt<=3:=⟨_,rfl,by split<;>omega,by split<;>omega⟩;dsimp only;rw[hlt2];refine⟨_,rfl,0,_,rfl,rfl,rfl,_,rfl,_,rfl,_,_,rfl,rfl,_,_,rfl,?_⟩;refine⟨_,rfl,_,_,rfl,rfl,(⟨by decide,by decide⟩:(0:Int)<2/\(2:Int)<1073741824),.inl ⟨_,_,rfl,rfl,_,rfl,_,_,rfl,rfl,(⟨by decide,by decide⟩:(0:Int)<2/\(2:Int)<1073741824),_,rfl,_,_,rfl,_,_,rfl,rfl,_,rfl,3,_,rfl,rfl,rfl,_,rfl,4,_,rfl,rfl,rfl,[_,_,_,_,_],rfl,few (by simp),?_⟩⟩;refine fin M14 st2 ⟨if tk-lt > 1 then tk-lt else 1,1+(0+(i:Int)) / 2-(if lt<(0+(i:Int)) / 2 then lt else (0+(i:Int)) / 2),r2.place,r2.txt⟩ tk _ I14 ⟨hr2.1,hr2.2.1,?_,?_,hr2.2.2.2.2⟩ ht0 ht1
  ·dsimp only
   split<;>omega
  ·dsimp only
   split<;>omega
 ·rintro τ M9 ⟨hi,O,R,Re,F,st,r,tok,x9,x10,x11,I9,hr,t0,t1,rfl⟩;exact k M9
abbrev q_0:List Str:=["_law_script"]
abbrev q_1:List Str:=["_law_bag_here", "_law_many"]
abbrev q_2:List Str:=["_law_bag_here"]
abbrev q_3:List Str:=["self"]
abbrev q_4:List Str:=["_law_bag_here", "_law_stores_here", "_law_most"]
abbrev q_5:List Str:=["self", "write"]
abbrev q_6:List Str:=["self", "store"]
abbrev q_7:List Str:=["self", "store", "turn", "place"]
abbrev q_8:List Str:=["_law_shelf", "_law_stores_here", "_law_done", "_law_elder"]
local macro_rules | `(tactic| walk_at "sc")=>`(tactic| exact⟨rfl,rfl,rfl,by decide +kernel,rfl,by decide +kernel,by decide +kernel⟩)
local macro_rules | `(tactic| walk_at "b4")=>`(tactic| (intro _ _ _ _ _ _ us hl;obtain⟨_,_,_,_,e⟩:=D.vT hl;subst e;rfl))
local macro_rules | `(tactic| walk_at "b3")=>`(tactic| (intro _ _ _ _ _ _ us hl;obtain⟨_,_,_,e⟩:=D.tV hl;subst e;rfl))
local macro_rules | `(tactic| walk_at "b2")=>`(tactic| (intro _ _ _ _ _ _ us hl;obtain⟨_,_,e⟩:=D.uA hl;subst e;rfl))
local macro_rules | `(tactic| walk_at "b1")=>`(tactic| (intro _ _ _ _ _ _ us hl;obtain⟨_,e⟩:=D.oK hl;subst e;rfl))
def top(i:Nat):Stmt:=PySem.Challenge.pw_placedworks_k75_whole_shelf_rows_kept.main.body.getD i (.Pass ⟨0,0,0,0⟩)
abbrev gb:Stmt:=top 3
abbrev dR:Stmt:=top 4
abbrev d3:Stmt:=top 5
abbrev cx:Stmt:=top 6
abbrev a9:Stmt:=inClass (top 1) 0
abbrev cM:Stmt:=top 7
abbrev bY:Stmt:=inClass (top 1) 1
abbrev bw:Stmt:=inClass (top 1) 2
abbrev bA:Stmt:=inClass (top 1) 3
abbrev cT:Stmt:=top 8
abbrev fX:Stmt:=top 9
structure Env(K:FG)(mg:Str->Option Value):Prop where
 k_Shelf:Cls K aq
 m_Shelf:mg "Shelf" = some (.ref aq)
 n_Shelf_fates:bZ K aq "fates"
 n_Shelf_shelved:bZ K aq "shelved"
 b_abs:mg "abs" = none
 b_int:mg "int" = none
 b_len:mg "len" = none
 b_list:mg "list" = none
 b_max:mg "max" = none
 b_min:mg "min" = none
 b_range:mg "range" = none
 b_set:mg "set" = none
 b_sorted:mg "sorted" = none
section
variable (P:Program)(w:World)(K:FG)(mg:Str->Option Value)(base:Heap)
abbrev mQ:=ZZ P w K mg base (Fn K mg "_law_bag" gb q_0) 1 q_0 bN
abbrev cO:=ZZ P w K mg base (Fn K mg "_law_take" dR q_1) 1 q_1 ai
abbrev ju:=ZZ P w K mg base (Fn K mg "_law_word" d3 q_2) 2 q_2 br
abbrev ft:=ZZ P w K mg base (Fn K mg "_law_stores" cx q_2) 3 q_2 bb
abbrev dB:=ZZ P w K mg base (Mi K aq "Shelf.__init__" a9 q_3) 1 q_3 aN
abbrev hU:=ZZ P w K mg base (Fn K mg "_law_write" cM q_4) 2 q_4 bc
abbrev eC:=ZZ P w K mg base (Mf K aq "put" "Shelf.put" bY q_5) 1 q_5 aA
abbrev cg:=ZZ P w K mg base (Mf K aq "rows_of" "Shelf.rows_of" bw q_6) 1 q_6 az
abbrev cF:=ZZ P w K mg base (Mf K aq "became" "Shelf.became" bA q_7) 1 q_7 aD
abbrev h9:=ZZ P w K mg base (Fn K mg "_law_right" cT q_8) 2 q_8 aI
end
section
variable {P:Program}{w:World}{K:FG}{mg:Str->Option Value}{base:Heap}
theorem vy:(["_law_cell"]:List Str).Nodup:=by decide +kernel
theorem nv:bp lG q_0 (ao gb):=by walk_at "sc"
theorem nA(E:Env K mg)(F:Fn K mg "_law_bag" gb q_0 f fq) :
  cL P w K mg base CX0 1 f fq q_0 (dY K bN):=by
 refine cn (t:=lu) F.fn nv k7 (λ cdv A outer s H E' hr=>?_) kh;refine Jd.h ?_;exact ak (aF (fQ (av (aa) (av (aa) (av (aa) (av (jl rfl (uH (own:=(["_law_cell"]:List Str)) (fr:=[]) rfl) (bQ (cm (dvQ 0) (cU) (bP (aa)))) (λ _ _ _ _ _ _=>aC (i:=0) vy rfl (Or.inl rfl)) (λ _ _ _ _ _ _=>ck) (λ _ _ _ _ _ _=>nq o4 tF rfl E.b_abs uP (av (dvQ 0) (af)))) (af)))))))
theorem bO:bp jh q_1 (ao dR):=by walk_at "sc"
theorem mE(E:Env K mg)(F:Fn K mg "_law_take" dR q_1 f fq) :
  cL P w K mg base CX0 1 f fq q_1 (dY K ai):=by
 refine cn (t:=jr) F.fn bO kz (λ cdv A outer s H E' hr=>?_) iC;refine Jd.h ?_;exact ab (a6 (aM (pQ hr.h) ug (aQ aR aS (dvQ 0) (aa)) (aa))
   (ab (ar (i:=2) bO.nd rfl (Or.inl rfl) (aa)) <|
   ab (a6 (aM uu pO (aQ aR aS (dvQ 0) (aa)) (nq cw fA rfl E.b_len fo (av (aQ aR aS (dvQ 0) (aa)) (af))))
    (ak (ar (i:=2) bO.nd rfl (Or.inl rfl) (aQ aR aS (aQ aR aS (dvQ 0) (aa)) (aQ aR aS (dvQ 0) (aa)))))
    (aB)) <|
   ab (mP (dvQ 0) (aa) (aa) tK) <|
   ab (a6 (aM wF tp (dvQ 2) (aa))
    (ak (dW (dvQ 2) (gh (dvQ 0) (aa))))
    (aB)) <|
   ak (dW (aE cS bU (aE bC bo (aE bC bo (aE el cK (aQ aR aS (dvQ 0) (aa)) (aa)) (aE cS bU (dvQ 2) (aa))) (aE el cK (aa) (aQ aR aS (dvQ 0) (aa)))) (aa)) (gh (dvQ 0) (aa))))
   (aB)) <|
  ab (a6 (aM nX jv (aQ aR aS (dvQ 0) (aa)) (aa))
   (ab (ar (i:=3) bO.nd rfl (Or.inl rfl) (aE cS bU (aQ aR aS (dvQ 0) (aa)) (dvQ 1))) <|
   ab (dW (aE gi gr (aQ aR aS (dvQ 0) (aa)) (dvQ 1)) (gh (dvQ 0) (aa))) <|
   ak (aF (dvQ 3)))
   (aB)) <|
  ab (ar (i:=4) bO.nd rfl (Or.inl rfl) (aE cS bU (aE el cK (aE bC bo (aQ aR aS (dvQ 0) (aa)) (aa)) (aa)) (aa))) <|
  ab (ar (i:=5) bO.nd rfl (Or.inl rfl) (aE cS bU (aE el cK (aE cS bU (aE el cK (dvQ 4) (dvQ 4)) (aa)) (aa)) (aa))) <|
  ab (a6 (aM nX jv (dvQ 1) (aa))
   (ak (aF (aE cS bU (aE bC bo (aE el cK (dvQ 5) (aa)) (dvQ 4)) (dvQ 1))))
   (aB)) <|
  ak (aF (aE cS bU (aE gi gr (dvQ 5) (aa)) (dvQ 1)))
theorem vK:(["_law_k", "_law_letters", "_law_bag_here"]:List Str).Nodup:=by decide +kernel
theorem gX:bp js q_2 (ao d3):=by walk_at "sc"
theorem mv(E:Env K mg)(F:Fn K mg "_law_word" d3 q_2 f fq)(z1:cO P w K mg base) :
  cL P w K mg base CX0 2 f fq q_2 (dY K br):=by
 obtain⟨_,_,G1,O1⟩:=z1;refine cn (t:=jb ai) F.fn gX jV (λ cdv A outer s H E' hr=>?_) iK;refine Jd.h ?_;exact ab (ar (i:=1) gX.nd rfl (Or.inr rfl) (aZ)) <|
  ak (aF (jz (aZ) (jl rfl (uH (own:=(["_law_k"]:List Str)) (fr:=[1,0]) rfl) (bS rfl E.b_range (av (aE bC bo (aa) (dF O1 hr.m rfl G1.mg G1.fn.kp G1.bd (av (dvQ 0) (av (aa) (af))))) (af))) (λ _ _ _ _ _ _=>aC (i:=0) vK rfl (Or.inl rfl)) (λ _ _ _ _ _ _=>ck) (λ _ _ _ _ _ _=>aQ aR aS (dvQ 1) (dF O1 hr.m rfl G1.mg G1.fn.kp G1.bd (av (dvQ 2) (av (aa) (af))))))))
theorem aW:bp fG q_2 (ao cx):=by walk_at "sc"
theorem iV(E:Env K mg)(F:Fn K mg "_law_stores" cx q_2 f fq)(z2:ju P w K mg base)(z1:cO P w K mg base) :
  cL P w K mg base CX0 3 f fq q_2 (dY K bb):=by
 obtain⟨_,_,G2,O2⟩:=z2;obtain⟨_,_,G1,O1⟩:=z1;refine cn (t:=fh br ai) F.fn aW gC (λ cdv A outer s H E' hr=>?_) gq;refine Jd.h ?_;exact ab (ar (i:=1) aW.nd rfl (Or.inl rfl) (dF O2 hr.m rfl G2.mg G2.fn.kp G2.bd (av (dvQ 0) (af)))) <|
  ab (ar (i:=2) aW.nd rfl (Or.inl rfl) (aE bC bo (aa) (dF O1 hr.m rfl G1.mg G1.fn.kp G1.bd (av (dvQ 0) (av (aa) (af)))))) <|
  ab (ar (i:=3) aW.nd rfl (Or.inl rfl) (dF O1 hr.m rfl G1.mg G1.fn.kp G1.bd (av (dvQ 0) (av (aa) (af))))) <|
  ab (ar (i:=4) aW.nd rfl (Or.inl rfl) (dF O1 hr.m rfl G1.mg G1.fn.kp G1.bd (av (dvQ 0) (av (aa) (af))))) <|
  ab (ar (i:=5) aW.nd rfl (Or.inl rfl) (fQ (av (dvQ 1) (af)))) <|
  ab (dU PassesOwn.never rfl (bS rfl E.b_range (av (dvQ 2) (af))) (aC (i:=6) aW.nd rfl (Or.inl rfl))
   (ab (ar (i:=7) aW.nd rfl (Or.inl rfl) (aE bC bo (cm (dvQ 1) (cU) (bP (pf pT mO (aa)))) (aQ aR aS (aZ) (aE cS bU (aE bC bo (dvQ 4) (dvQ 6)) (aa))))) <|
   ab (a6 (aM (fb hr.h) cH (dvQ 3) (aa))
    (ak (ar (i:=7) aW.nd rfl (Or.inl rfl) (dF O2 hr.m rfl G2.mg G2.fn.kp G2.bd (av (dvQ 0) (af)))))
    (aB)) <|
   ak (a6 (aM dw (jf true) (dvQ 7) (dvQ 5))
    (ak (eT (da (dvQ 5) (dvQ 7))))
    (aB)))) <|
  ab (a6 (aM (fb hr.h) cH (nq cw fA rfl E.b_len fo (av (dvQ 5) (af))) (aa))
   (ak (eT (da (dvQ 5) (aQ aR aS (bH (av (aZ) (av (aZ) (af)))) (uh cW jw rfl E.b_int jc (av (d5 (fb hr.h) cH (dvQ 1) (aZ)) (af)))))))
   (aB)) <|
  ak (aF (fR (dvQ 5)))
theorem fU:bp dA q_3 (ao a9):=by walk_at "sc"
theorem fO(E:Env K mg)(F:Mi K aq "Shelf.__init__" a9 q_3 f fq) :
  cL P w K mg base CX0 1 f fq q_3 (dY K aN):=by
 refine cn (t:=du) F.fn fU fc (λ cdv A outer s H E' hr=>?_) eP;refine Jd.h ?_;exact ab (jH E.k_Shelf E.n_Shelf_shelved (dvQ 0) (dq)) <|
  ak (jH E.k_Shelf E.n_Shelf_fates (dvQ 0) (jL))
theorem vV:(["_law_k", "_law_signs", "_law_bag_here"]:List Str).Nodup:=by decide +kernel
theorem bz:bp il q_4 (ao cM):=by walk_at "sc"
theorem kg(E:Env K mg)(F:Fn K mg "_law_write" cM q_4 f fq)(z1:cO P w K mg base) :
  cL P w K mg base CX0 2 f fq q_4 (dY K bc):=by
 obtain⟨_,_,G1,O1⟩:=z1;refine cn (t:=gE ai) F.fn bz iX (λ cdv A outer s H E' hr=>?_) ik;refine Jd.h ?_;exact ab (ar (i:=3) bz.nd rfl (Or.inl rfl) (aQ aR aS (dvQ 1) (dF O1 hr.m rfl G1.mg G1.fn.kp G1.bd (av (dvQ 0) (av (nq cw fA rfl E.b_len fo (av (dvQ 1) (af))) (af)))))) <|
  ab (ar (i:=4) bz.nd rfl (Or.inl rfl) (dF O1 hr.m rfl G1.mg G1.fn.kp G1.bd (av (dvQ 0) (av (aE bC bo (dvQ 2) (aa)) (af))))) <|
  ab (ar (i:=5) bz.nd rfl (Or.inl rfl) (aQ aR aS (bH (av (aa) (av (aa) (av (aa) (av (aa) (av (aa) (av (aa) (av (aa) (av (aa) (av (aa) (af))))))))))) (dF O1 hr.m rfl G1.mg G1.fn.kp G1.bd (av (dvQ 0) (av (aa) (af)))))) <|
  ab (ar (i:=6) bz.nd rfl (Or.inl rfl) (aQ aR aS (bH (av (dF O1 hr.m rfl G1.mg G1.fn.kp G1.bd (av (dvQ 0) (av (aa) (af)))) (av (aa) (af)))) (uh cW jw rfl E.b_int jc (av (d5 (fb hr.h) cH (dF O1 hr.m rfl G1.mg G1.fn.kp G1.bd (av (dvQ 0) (av (aa) (af)))) (aa)) (af))))) <|
  ab (ar (i:=7) bz.nd rfl (Or.inr rfl) (aZ)) <|
  ab (ar (i:=8) bz.nd rfl (Or.inl rfl) (jz (aZ) (jl rfl (uH (own:=(["_law_k"]:List Str)) (fr:=[7,0]) rfl) (bS rfl E.b_range (av (dvQ 6) (af))) (λ _ _ _ _ _ _=>aC (i:=0) vV rfl (Or.inl rfl)) (λ _ _ _ _ _ _=>ck) (λ _ _ _ _ _ _=>aQ aR aS (dvQ 1) (dF O1 hr.m rfl G1.mg G1.fn.kp G1.bd (av (dvQ 2) (av (nq cw fA rfl E.b_len fo (av (dvQ 1) (af))) (af)))))))) <|
  ak (aF (ef (av (dvQ 3) (av (dvQ 4) (av (dvQ 5) (av (aQ aR aS (bH (av (aa) (av (aa) (av (aa) (av (aa) (av (aa) (av (aa) (af)))))))) (dF O1 hr.m rfl G1.mg G1.fn.kp G1.bd (av (dvQ 0) (av (aa) (af))))) (av (dvQ 8) (af))))))))
theorem ba:bp d9 q_5 (ao bY):=by walk_at "sc"
theorem gz(E:Env K mg)(F:Mf K aq "put" "Shelf.put" bY q_5 f fq) :
  cL P w K mg base CX0 1 f fq q_5 (dY K aA):=by
 refine cn (t:=eV) F.fn ba fN (λ cdv A outer s H E' hr=>?_) fe;refine Jd.h ?_;exact ab (dW (dvQ 1) (jC rfl (bh (aC (i:=2) ba.nd rfl (Or.inl rfl)) (bh (aC (i:=3) ba.nd rfl (Or.inl rfl)) (bh (aC (i:=4) ba.nd rfl (Or.inl rfl)) (bh (aC (i:=5) ba.nd rfl (Or.inl rfl)) (bh (aC (i:=6) ba.nd rfl (Or.inl rfl)) (gU)))))))) <|
  ab (a6 (ot (eM hr) (ef (av (dvQ 2) (av (dvQ 4) (av (dvQ 5) (af))))) (dn E.k_Shelf E.n_Shelf_fates (dvQ 0)))
   (ak (aF (aZ)))
   (aB)) <|
  ab (ar (i:=7) ba.nd rfl (Or.inl rfl) (jN (dn E.k_Shelf E.n_Shelf_shelved (dvQ 0)) (dvQ 2) (fQ (af)))) <|
  ab (a6 (lA (nI (j7 (dvQ 7)) (lW (aM uu pO (dvQ 3) (aQ aR aS (aQ aR aS (dvQ 7) (pf pT mO (aa))) (aa))))))
   (ab (fg (eM hr) (dn E.k_Shelf E.n_Shelf_fates (dvQ 0)) (av (dvQ 2) (av (dvQ 4) (av (dvQ 5) (af)))) (aZ)) <|
   ak (aF (aZ)))
   (aB)) <|
  ab (eT (da (dvQ 7) (ef (av (dvQ 3) (av (dvQ 4) (av (dvQ 5) (av (dvQ 6) (af)))))))) <|
  ab (fg (eM hr) (dn E.k_Shelf E.n_Shelf_fates (dvQ 0)) (av (dvQ 2) (av (dvQ 4) (av (dvQ 5) (af)))) (aZ)) <|
  ak (aF (aZ))
theorem dH:bp cv q_6 (ao bw):=by walk_at "sc"
theorem dM(E:Env K mg)(F:Mf K aq "rows_of" "Shelf.rows_of" bw q_6 f fq) :
  cL P w K mg base CX0 1 f fq q_6 (dY K az):=by
 refine cn (t:=cf) F.fn dH dh (λ cdv A outer s H E' hr=>?_) cQ;refine Jd.h ?_;exact ak (aF (uh hG lC rfl E.b_list qj (av (cR (eM hr) (dn E.k_Shelf E.n_Shelf_shelved (dvQ 0)) (dvQ 1) (bH (af))) (af))))
theorem eg:bp cD q_7 (ao bA):=by walk_at "sc"
theorem eo(E:Env K mg)(F:Mf K aq "became" "Shelf.became" bA q_7 f fq) :
  cL P w K mg base CX0 1 f fq q_7 (dY K aD):=by
 refine cn (t:=cE) F.fn eg dJ (λ cdv A outer s H E' hr=>?_) dj;refine Jd.h ?_;exact ak (aF (nS (eM hr) (dn E.k_Shelf E.n_Shelf_fates (dvQ 0)) (ef (av (dvQ 1) (av (dvQ 2) (av (dvQ 3) (af)))))))
theorem wx:(["_law_row"]:List Str).Nodup:=by decide +kernel
theorem wc:(["_law_row"]:List Str).Nodup:=by decide +kernel
theorem bq:bp gR q_8 (ao cT):=by walk_at "sc"
theorem kA(E:Env K mg)(F:Fn K mg "_law_right" cT q_8 f fq)(z7:cg P w K mg base)(z8:cF P w K mg base) :
  cL P w K mg base CX0 2 f fq q_8 (dY K aI):=by
 obtain⟨_,_,G7,O7⟩:=z7;obtain⟨_,_,G8,O8⟩:=z8;refine cn (t:=hV az aD) F.fn bq iL (λ cdv A outer s H E' hr=>?_) ix;refine Jd.h ?_;exact ab (dU PassesOwn.never rfl (bQ (dvQ 1)) (aC (i:=4) bq.nd rfl (Or.inl rfl))
   (ab (ar (i:=5) bq.nd rfl (Or.inl rfl) (fR (gn (dvQ 0) E.k_Shelf G7.me O7 hr.m G7.bd (av (dvQ 4) (af))))) <|
   ab (a6 (lA (kI (aM (gD hr.h) eL (cm (dvQ 5) (cU) (bP (nq cw fA rfl E.b_len fo (av (cR (eM hr) (dvQ 3) (dvQ 4) (bH (af))) (af))))) (cR (eM hr) (dvQ 3) (dvQ 4) (bH (af)))) (jj (aM (gD hr.h) eL (dvQ 5) (cR (eM hr) (dvQ 2) (dvQ 4) (bH (af)))))))
    (ak (aF (eI)))
    (aB)) <|
   ab (jU (i:=6) bq.nd rfl (Or.inl rfl) rfl (uH (own:=(["_law_row"]:List Str)) (fr:=[]) rfl) (bQ (dvQ 5)) (λ _ _ _ _ _ _=>aC (i:=0) wx rfl (Or.inl rfl)) (λ _ _ _ _ _ _=>ck) (λ _ _ _ _ _ _=>aQ aR aS (dvQ 0) (aa))) <|
   ab (a6 (lA (kI (aM (gD hr.h) eL (dvQ 6) (fR (nq ij oV rfl E.b_sorted kN (av (dvQ 6) (af))))) (jj (aM (gD hr.h) eL (iY rfl hr.units rfl E.b_len rfl E.b_set (jl rfl (uH (own:=(["_law_row"]:List Str)) (fr:=[]) rfl) (bQ (dvQ 5)) (λ _ _ _ _ _ _=>aC (i:=0) wc rfl (Or.inl rfl)) (λ _ _ _ _ _ _=>ck) (λ _ _ _ _ _ _=>cm (dvQ 0) (bP (aa)) (bP (aa))))) (nq cw fA rfl E.b_len fo (av (dvQ 5) (af)))))))
    (ak (aF (eI)))
    (aB)) <|
   ab (dU PassesOwn.never rfl (bQ (dvQ 5)) (jC rfl (bh (aC (i:=7) bq.nd rfl (Or.inl rfl)) (bh (aC (i:=8) bq.nd rfl (Or.inl rfl)) (bh (aC (i:=9) bq.nd rfl (Or.inl rfl)) (bh (aC (i:=10) bq.nd rfl (Or.inl rfl)) (gU))))))
    (ak (a6 (aM (gD hr.h) eL (gn (dvQ 0) E.k_Shelf G8.me O8 hr.m G8.bd (av (dvQ 4) (av (dvQ 8) (av (dvQ 9) (af))))) (aZ))
     (ak (aF (eI)))
     (aB)))) <|
   ak (gJ (eM hr) (dvQ 3) (dvQ 4) (dvQ 5)))) <|
  ak (aF (eI))
theorem bM:bp uk q_0 (ao fX):=by walk_at "sc"
theorem sZ(E:Env K mg)(F:Fn K mg "law" fX q_0 f fq)(z0:mQ P w K mg base)(z3:ft P w K mg base)(z4:dB P w K mg base)(z1:cO P w K mg base)(z5:hU P w K mg base)(z6:eC P w K mg base)(z9:h9 P w K mg base) :
  cL P w K mg base CX0 4 f fq q_0 (dY K eO):=by
 obtain⟨_,_,G0,O0⟩:=z0;obtain⟨_,_,G3,O3⟩:=z3;obtain⟨_,_,G4,O4⟩:=z4;obtain⟨_,_,G1,O1⟩:=z1;obtain⟨_,_,G5,O5⟩:=z5;obtain⟨_,_,G6,O6⟩:=z6;obtain⟨_,_,G9,O9⟩:=z9;refine cn (t:=tL bN bb aN ai bc aA aI) F.fn bM sD (λ cdv A outer s H E' hr=>?_) o6;refine Jd.h ?_;exact ab (ar (i:=1) bM.nd rfl (Or.inl rfl) (dF O0 hr.m rfl G0.mg G0.fn.kp G0.bd (av (dvQ 0) (af)))) <|
  ab (ar (i:=2) bM.nd rfl (Or.inl rfl) (dF O3 hr.m rfl G3.mg G3.fn.kp G3.bd (av (dvQ 1) (af)))) <|
  ab (ar (i:=3) bM.nd rfl (Or.inl rfl) (kM G4.mi O4 hr.m rfl E.m_Shelf G4.bd)) <|
  ab (oj (i:=4) (j:=5) rfl bM.nd rfl rfl (by decide) rfl rfl (av (dq) (av (dq) (af)))) <|
  ab (ar (i:=6) bM.nd rfl (Or.inl rfl) (d5 nX jv (dF O1 hr.m rfl G1.mg G1.fn.kp G1.bd (av (dvQ 1) (av (aa) (af)))) (aa))) <|
  ab (ar (i:=7) bM.nd rfl (Or.inl rfl) (aa)) <|
  ab (ar (i:=8) bM.nd rfl (Or.inl rfl) (dF O5 hr.m rfl G5.mg G5.fn.kp G5.bd (av (dvQ 1) (av (dvQ 2) (av (aa) (af)))))) <|
  ab (dU PassesOwn.never rfl (bS rfl E.b_range (av (aE bC bo (aa) (dF O1 hr.m rfl G1.mg G1.fn.kp G1.bd (av (dvQ 1) (av (aa) (af))))) (af))) (aC (i:=9) bM.nd rfl (Or.inl rfl))
   (ab (a6 (aM nX jv (dF O1 hr.m rfl G1.mg G1.fn.kp G1.bd (av (dvQ 1) (av (aa) (af)))) (aa))
    (ab (ar (i:=8) bM.nd rfl (Or.inl rfl) (dF O5 hr.m rfl G5.mg G5.fn.kp G5.bd (av (dvQ 1) (av (dvQ 2) (av (aa) (af)))))) <|
    ak (a6 (jD (dvQ 6))
     (ab (ar (i:=7) bM.nd rfl (Or.inl rfl) (aE bC bo (dvQ 7) (uh cW jw rfl E.b_int jc (av (d5 (fb hr.h) cH (dF O1 hr.m rfl G1.mg G1.fn.kp G1.bd (av (dvQ 1) (av (aa) (af)))) (aa)) (af))))) <|
     ab (ar (i:=10) bM.nd rfl (Or.inl rfl) (aE el cK (dF O1 hr.m rfl G1.mg G1.fn.kp G1.bd (av (dvQ 1) (av (aa) (af)))) (uh cW jw rfl E.b_int jc (av (d5 (fb hr.h) cH (dF O1 hr.m rfl G1.mg G1.fn.kp G1.bd (av (dvQ 1) (av (aa) (af)))) (aa)) (af))))) <|
     ak (ar (i:=8) bM.nd rfl (Or.inl rfl) (ef (av (aQ aR aS (dvQ 8) (aa)) (av (nq (k8 rfl) qP rfl E.b_max ud (av (aa) (av (aE ph mF (dvQ 7) (dvQ 10)) (af)))) (av (aE ph mF (aE bC bo (aa) (aE gi gr (dvQ 9) (aa))) (nq (lT rfl) rn rfl E.b_min uf (av (aE gi gr (dvQ 9) (aa)) (av (dvQ 10) (af))))) (av (aQ aR aS (dvQ 8) (aa)) (av (aQ aR aS (dvQ 8) (aa)) (af)))))))))
     (aB)))
    (aB)) <|
   ab (ar (i:=11) bM.nd rfl (Or.inl rfl) (gn (dvQ 3) E.k_Shelf G6.me O6 hr.m G6.bd (av (dvQ 8) (af)))) <|
   ab (a6 (aM dw (jf true) (dvQ 11) (bH (av (aZ) (av (aZ) (av (aZ) (af))))))
    (ak (aF (eI)))
    (aB)) <|
   ab (a6 (aM (fb hr.h) cH (dvQ 11) (aZ))
    (ak (gJ (eM hr) (dvQ 4) (aQ aR aS (dvQ 8) (aa)) (qq (cR (eM hr) (dvQ 4) (aQ aR aS (dvQ 8) (aa)) (bH (af))) (bH (av (cm (dvQ 8) (bP (aa)) (cU)) (af))))))
    (aB)) <|
   ak (a6 (nN (jD (dF O9 hr.m rfl G9.mg G9.fn.kp G9.bd (av (dvQ 3) (av (dvQ 2) (av (dvQ 4) (av (dvQ 5) (af))))))))
    (ak (aF (eI)))
    (aB)))) <|
  ak (aF (eI))
theorem all_mk{l:W.OpenLaw}{w:World}{K:FG}{h:Heap}{mg:Str->Option Value}{fa:Addr}(X:K.In h)(G:h.Ns mainGlobals mg)(hfa:mg "law" = some (.ref fa))
  (p0:PFn K "_law_bag" gb)
  (p1:PFn K "_law_take" dR)
  (p2:PFn K "_law_word" d3)
  (p3:PFn K "_law_stores" cx)
  {f4:Addr}{oc4 kV4 dc4 pm4 cd4 ct4:Value}{od4 an4:Option Addr}{sl4:Array (Option Value)}
  (a4:W.findIn K (.ref aq) "__init__" = some (some (.ref f4)))(i4:W.isFn K (.ref f4)=true)(l4:K.lookup f4=some ⟨oc4,od4,.func (W.fnOf "__init__" "Shelf.__init__" (aL a9) (aG a9) (ao a9) .none kV4 dc4 pm4 an4 cd4 ct4),sl4⟩)(c4:W.codeIn K cd4 "Shelf.__init__" = true)(k4:W.keepIn K (.ref f4)=true)
  (p5:PFn K "_law_write" cM)
  (p6:PMf K aq "put" "Shelf.put" bY)
  (p7:PMf K aq "rows_of" "Shelf.rows_of" bw)
  (p8:PMf K aq "became" "Shelf.became" bA)
  (p9:PFn K "_law_right" cT)
  {f10:Addr}{oc10 kV10 dc10 pm10 cd10 ct10:Value}{od10 an10:Option Addr}{sl10:Array (Option Value)}
  (a10:W.nsIn K mainGlobals "law" = some (some (.ref f10)))(l10:K.lookup f10=some ⟨oc10,od10,.func (W.fnOf "law" "law" (aL fX) (aG fX) (ao fX) .none kV10 dc10 pm10 an10 cd10 ct10),sl10⟩)(c10:W.codeIn K cd10 "law" = true)(k10:W.keepIn K (.ref f10)=true)
  (aC_Shelf:W.nsIn K mainGlobals "Shelf" = some (some (.ref aq)))(pg_Shelf:W.plainGet K aq Str.empty=true)(hd_Shelf:W.hasDictIn K aq=true)(po_Shelf:W.plainOver K aq=true)(sa_Shelf:W.findIn K (.ref aq) "__setattr__" = some (some (.builtin "object.__setattr__")))(mk_Shelf:W.makesIn K aq=true)(kc_Shelf:W.keepIn K (.ref aq)=true)
  (n_Shelf_fates:W.findIn K (.ref aq) "fates" = some none)
  (n_Shelf_shelved:W.findIn K (.ref aq) "shelved" = some none)
  (b_abs:W.nsIn K mainGlobals "abs" = some none)
  (b_int:W.nsIn K mainGlobals "int" = some none)
  (b_len:W.nsIn K mainGlobals "len" = some none)
  (b_list:W.nsIn K mainGlobals "list" = some none)
  (b_max:W.nsIn K mainGlobals "max" = some none)
  (b_min:W.nsIn K mainGlobals "min" = some none)
  (b_range:W.nsIn K mainGlobals "range" = some none)
  (b_set:W.nsIn K mainGlobals "set" = some none)
  (b_sorted:W.nsIn K mainGlobals "sorted" = some none) :
  ∃ fq:FuncData,(∀ (s:Shared) (v:Value),BindsTo s fq ⟨[v],[]⟩ [("_law_script",v)])/\∀ base:Heap,K.In base->base.Ns mainGlobals mg->cL l.prog w K mg base CX0 4 fa fq q_0 (dY K eO):=by
 have e:=hfa.symm.trans (W.mg_of X G a10);cases e;have E:Env K mg:=⟨⟨pg_Shelf,hd_Shelf,po_Shelf,sa_Shelf⟩,W.mg_of X G aC_Shelf,n_Shelf_fates,n_Shelf_shelved,W.mg_none_of X G b_abs,W.mg_none_of X G b_int,W.mg_none_of X G b_len,W.mg_none_of X G b_list,W.mg_none_of X G b_max,W.mg_none_of X G b_min,W.mg_none_of X G b_range,W.mg_none_of X G b_set,W.mg_none_of X G b_sorted⟩;obtain⟨_,_,G0⟩:=p0.fn (ps:=q_0) X G (by walk_at "b1");obtain⟨_,_,G1⟩:=p1.fn (ps:=q_1) X G (by walk_at "b2");obtain⟨_,_,G2⟩:=p2.fn (ps:=q_2) X G (by walk_at "b1");obtain⟨_,_,G3⟩:=p3.fn (ps:=q_2) X G (by walk_at "b1");have G4:Mi K aq "Shelf.__init__" a9 q_3 _ _:=wK a4 i4 l4 c4 k4 mk_Shelf kc_Shelf (λ _ _ _ _ _ _ us hl=>by obtain⟨_,rfl⟩:=D.oK hl;rfl);obtain⟨_,_,G5⟩:=p5.fn (ps:=q_4) X G (by walk_at "b3");obtain⟨_,_,G6⟩:=p6.mf (ps:=q_5) (by walk_at "b2");obtain⟨_,_,G7⟩:=p7.mf (ps:=q_6) (by walk_at "b2");obtain⟨_,_,G8⟩:=p8.mf (ps:=q_7) (by walk_at "b4");obtain⟨_,_,G9⟩:=p9.fn (ps:=q_8) X G (by walk_at "b4");have G10:Fn K mg "law" fX q_0 _ _:=u4 X G a10 l10 c10 k10 (λ _ _ _ _ _ _ us hl=>by obtain⟨_,rfl⟩:=D.oK hl;rfl);refine⟨W.fnOf "law" "law" (aL fX) (aG fX) (ao fX) .none kV10 dc10 pm10 an10 cd10 ct10,λ s v=>.of_eq rfl,λ base _ _=>?_⟩;have z0:mQ l.prog w K mg base:=⟨_,_,G0,nA E G0⟩;have z1:cO l.prog w K mg base:=⟨_,_,G1,mE E G1⟩;have z2:ju l.prog w K mg base:=⟨_,_,G2,mv E G2 z1⟩;have z3:ft l.prog w K mg base:=⟨_,_,G3,iV E G3 z2 z1⟩;have z4:dB l.prog w K mg base:=⟨_,_,G4,fO E G4⟩;have z5:hU l.prog w K mg base:=⟨_,_,G5,kg E G5 z1⟩;have z6:eC l.prog w K mg base:=⟨_,_,G6,gz E G6⟩;have z7:cg l.prog w K mg base:=⟨_,_,G7,dM E G7⟩;have z8:cF l.prog w K mg base:=⟨_,_,G8,eo E G8⟩;have z9:h9 l.prog w K mg base:=⟨_,_,G9,kA E G9 z7 z8⟩;have O10:=sZ (P:=l.prog) (w:=w) (base:=base) E G10 z0 z3 z4 z1 z5 z6 z9;exact O10
end
theorem walk{l:W.OpenLaw}{q:Program}{loose:List Str}{XP:(Str->Option Value)->Heap->Prop}{YP:World->Heap->Prop}{d:DefRec}{K:Params->FG}(hq:PyProof.Rows.importsNone q=true)(hn:l.most=some 63)(hdf:d.params.defaults=[])
  (hY:∀ (w:World) (h:Heap),YP w h->(K w.params).In h)
  (F:∀ (w:World) (mg:Str->Option Value) (fa:Addr) (h:Heap),(K w.params).In h->h.Ns mainGlobals mg->mg d.name=some (.ref fa) ->
   ∃ fq:FuncData,(∀ (s:Shared) (u:Value),BindsTo s fq ⟨[u],[]⟩ [("_law_script",u)])/\∀ base:Heap,(K w.params).In base->base.Ns mainGlobals mg->cL l.prog w (K w.params) mg base CX0 4 fa fq q_0 (dY (K w.params) eO)) :
  W.WalkO q loose XP YP l.row.toRowW d [] (λ f vs=>PySem.call f vs):=
 L2.qJ (n:=63) (k:=4) (x:= "_law_script") (CX:=λ _=>CX0) (sp:=λ w=>dY (K w.params) eO) hq hn (by decide) hdf ⟨rfl,rfl,by decide,by decide⟩ hY F (λ _ H a ns hl hO hS=>D.lb hl hO hS o5) λ _ _ _ _ _ z=>z
end K75
end
namespace PySem.W.Fast
def tw1050795326244429405:=0
def tw6897275202198412028:=0
def tw703362068974337807:=0
def tw9005002847013917258:=0
def tw1212602578420492869:=0
def tw15470161563047197668:=0
def tw10989160202976427456:=0
def tw14773881415862211064:=0
end PySem.W.Fast
open PySem PySem.W PyProof.Rows
local macro_rules | `(tactic| walk_at "kf")=>`(tactic| (refine' D.u6 ?a ?l ?c ?k; (case a=>k_is); (case l=>k_is); (case c=>k_is); (case k=>k_is)))
local macro_rules | `(tactic| walk_at "km")=>`(tactic| (refine' D.uw ?a ?i ?l ?c ?k; (case a=>k_is); (case i=>k_is); (case l=>k_is); (case c=>k_is); (case k=>k_is)))
local macro_rules | `(tactic| walk_at "kx")=>`(tactic| (refine' D.pxi_mk ?a ?i ?l ?c ?k ?m ?t ?n; (case a=>k_is); (case i=>k_is); (case l=>k_is); (case c=>k_is); (case k=>k_is); (case m=>kernel_rfl); (case t=>k_is); (case n=>k_is)))
local macro_rules | `(tactic| walk_at "ke")=>`(tactic| (refine' ⟨?a,?b,?c,?d,?e⟩; (case a=>kernel_rfl); (case b=>k_is); (case c=>k_is); (case d=>k_is); (case e=>k_is)))
set_option maxRecDepth 100000
set_option maxHeartbeats 0
theorem PySem.Challenge.cw_placedworks_k75_whole_shelf_rows_kept_holds : PySem.Challenge.rw_placedworks_k75_whole_shelf_rows_kept.Holds := by
 w_on;o_law;k_head; (case hw=>w_witness2)
 k_fill
 refine K75.walk (l:=PySem.Challenge.rw_placedworks_k75_whole_shelf_rows_kept) ?Q rfl rfl (λ w h Y=>PySem.W.kIn_of Y) ?F
 case Q=>kernel_rfl
 case F =>
  intro w mg fa h KX G hmg;refine' K75.all_mk KX G hmg ?v0 ?v1 ?v2 ?v3 ?v4 ?v5 ?v6 ?v7 ?v8 ?v9 ?v10 ?v11 ?v12 ?v13 ?v14 ?v15 ?v16 ?v17 ?v18 ?v19 ?v20 ?v21 ?v22 ?v23 ?v24 ?v25 ?v26 ?v27 ?v28 ?v29 ?v30 ?v31 ?v32 ?v33 ?v34 ?v35
  (case v0 | v1 | v2 | v3 | v9 | v13=>walk_at "kf")
  (case v4 | v5 | v6 | v7 | v8 | v14 | v15 | v16 | v17 | v18 | v19 | v20 | v21 | v22 | v23 | v24 | v25 | v26 | v27 | v28 | v29 | v30 | v31 | v32 | v33 | v34 | v35=>k_is)
  (case v10 | v11 | v12=>walk_at "km")
