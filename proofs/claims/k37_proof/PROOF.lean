import PyProof.Rows.All
import Wide.All
import OpenK.AllK
import Wide.FinOn
import Lean
import PyProof.EqAt
import PyProof.EqKinds
import PyProof.TupleCall
import KE.KSortTup
import KE.KDictSum
import PyProof.Rows.Range3
import PyProof.Rows.SortRev
import PyProof.StrBlock2
import PyProof.ZipIter
import PyProof.Rows.ZipGen
import PyProof.NeKinds
import PyProof.DictCompW
import PyProof.DictWalks
import PyProof.AttrMissHeap
import PyProof.WalksS
import KE.KDictOf
import KE.KListMore
import KE.KEqDict
import PyProof.StationsW
import PyProof.InstStoreFacts
import PyProof.ExcBaseAll.ValueError
import PyProof.ExcClass2
import PyProof.RulesAs
import KE.KTryMore
import PyProof.ExcArgs
import KE.KIsAll
import OpenK.KOwn
import PyProof.P3In
import PyProof.DictUpdate
import PyProof.MeetsSeq2
import KE.KIntText
import KE.KRevSl
import PyProof.Rows.StrLawsPart
import PyProof.EnumMake
import PyProof.Draws
import PyProof.ListRange
import PyProof.TupleOfStr
import KE.KLam
import KE.KNestM
import KE.KMinKey
import PyProof.Rows.StrSplitMax
import PyProof.StrLawsOccR
import PyProof.Rows.SetFrom
import PySem.Challenge.RW_placedworks_k37_whole_ways_carried_out
set_option genSizeOf false
set_option genSizeOfSpec false
set_option bootstrap.genMatcherCode false
set_option Elab.async false
set_option linter.all false
set_option maxRecDepth 100000
abbrev FG:=PySem.W.Frag
abbrev PN:=List (PySem.Addr×PySem.Obj)
abbrev VP:=PySem.Value->PySem.Shared->Prop
abbrev ND(x:PySem.Str):Prop:=(x==("__debug__" : PySem.Str))=false
section
open PySem PySem.Spec PyProof.Rows
namespace L2
abbrev Key:=Sum Int Str
def qO:Key->Value->Bool
 | .inl k,v=>Value.isInt k v
 | .inr x,v=>Value.isStrOf x v
def ajz(w:World):Key->Int
 | .inl k=>hashInt k
 | .inr x=>hashStr w x
theorem bK:∀ {k:Key} {v:Value},qO k v=true->(∃ i t,k=Sum.inl i/\v=Value.int i t)\/(∃ x t,k=Sum.inr x/\v=Value.str x t)
 | .inl i,v,h=>by obtain⟨t,e⟩:=Value.isInt_shape (k:=i) (v:=v) h;exact .inl ⟨i,t,rfl,e⟩
 | .inr x,v,h=>by obtain⟨t,e⟩:=Value.isStrOf_shape (x:=x) (v:=v) h;exact .inr ⟨x,t,rfl,e⟩
theorem xO(i:Int)(t:Tok):qO (.inl i) (.int i t)=true:=by simp[qO,Value.isInt]
theorem ye(x:Str)(t:Tok):qO (.inr x) (.str x t)=true:=by simp[qO,Value.isStrOf]
theorem afF(a b:Int):decide ((Sum.inl a:Key)=Sum.inl b)=(a==b):=by
 by_cases e:a=b
 ·subst e;simp
 ·have h:¬ (Sum.inl a:Key)=Sum.inl b:=λ q=>e (Sum.inl.inj q);rw[decide_eq_false h];exact(beq_eq_false_iff_ne.mpr e).symm
theorem agW(a b:Str):decide ((Sum.inr a:Key)=Sum.inr b)=decide (a=b):=by
 by_cases e:a=b
 ·subst e;simp
 ·have h:¬ (Sum.inr a:Key)=Sum.inr b:=λ q=>e (Sum.inr.inj q);rw[decide_eq_false h,decide_eq_false e]
theorem agq(a:Int)(b:Str):decide ((Sum.inl a:Key)=Sum.inr b)=false:=decide_eq_false (λ q=>nomatch q)
theorem ae6(a:Str)(b:Int):decide ((Sum.inr a:Key)=Sum.inl b)=false:=decide_eq_false (λ q=>nomatch q)
def aR(prog:Program)(w:World):PySem.KeyKind prog w Key where
 is:=qO
 hash:=ajz w
 inj:=λ v a b ha hb=>by
  rcases bK ha with ⟨i,t,rfl,rfl⟩ | ⟨x,t,rfl,rfl⟩
  ·rcases bK hb with ⟨j,u,rfl,e⟩ | ⟨y,u,rfl,e⟩
   ·injection e with e1 _;rw[e1]
   ·exact nomatch e
  ·rcases bK hb with ⟨j,u,rfl,e⟩ | ⟨y,u,rfl,e⟩
   ·exact nomatch e
   ·injection e with e1 _;rw[e1]
 byValue:=λ k v h=>by
  rcases bK h with ⟨i,t,rfl,rfl⟩ | ⟨x,t,rfl,rfl⟩<;>rfl
 pyHash:=λ hv h=>by
  rcases bK hv with ⟨i,t,rfl,rfl⟩ | ⟨x,t,rfl,rfl⟩
  ·exact wpAny_pyHash_int h
  ·exact wpAny_pyHash_str h
 eqBool:=λ hu hv h=>by
  rcases bK hu with ⟨i,t,rfl,rfl⟩ | ⟨x,t,rfl,rfl⟩
  ·rcases bK hv with ⟨j,u,rfl,rfl⟩ | ⟨y,u,rfl,rfl⟩
   ·rw[afF] at h;exact wpAny_eqBool_int h
   ·rw[agq] at h;exact SeqAt.EqAt.int_str i t y u _ _ _ _ h
  ·rcases bK hv with ⟨j,u,rfl,rfl⟩ | ⟨y,u,rfl,rfl⟩
   ·rw[ae6] at h;exact SeqAt.EqAt.str_int x t j u _ _ _ _ h
   ·rw[agW] at h;exact wpAny_eqBool_str h
 «strs»:=λ k x t v h=>by
  rcases bK h with ⟨i,u,rfl,e⟩ | ⟨y,u,rfl,e⟩
  ·exact nomatch e
  ·injection e with e1 _
   subst e1;cases v<;>rfl
theorem uJ(prog:Program)(w:World)(k:Key)(v:Value):(aR prog w).is k v=qO k v:=rfl
theorem qL(prog:Program)(w:World)(i:Int)(t:Tok):(aR prog w).is (.inl i) (.int i t)=true:=xO i t
theorem rW(prog:Program)(w:World)(x:Str)(t:Tok):(aR prog w).is (.inr x) (.str x t)=true:=ye x t
inductive V where
 | non | bl (b:Bool) | int (i:Int) | str (x:Str) | byt (b:Array UInt8) | flt (b:UInt64) | ref (a:Addr) | ty (n:String)
 deriving DecidableEq
def RelV:V->Value->Prop
 | .non,u=>u=Value.none
 | .bl b,u=>u=Value.bool b
 | .int i,u=>∃ t,u=Value.int i t
 | .str x,u=>∃ t,u=Value.str x t
 | .byt b,u=>∃ t,u=Value.bytes b t
 | .flt b,u=>∃ t,u=Value.float b t
 | .ref a,u=>u=Value.ref a
 | .ty n,u=>u=Value.type n
abbrev Vals:List V->List Value->Prop:=Paired RelV
theorem Vals.length{xs:List V}{us:List Value}(r:Vals xs us):xs.length=us.length:=Paired.length r
theorem Vals.get:∀ {xs:List V} {us:List Value} {i:Nat} {x:V},Vals xs us->xs[i]? =some x->∃ u,us[i]? =some u/\RelV x u
 | _,_,_,_,.nil,e=>by simp at e
 | _,_,0,_,.cons r _,e=>by simp at e;subst e;exact⟨_,rfl,r⟩
 | _,_,i+1,x,.cons _ t,e=>by obtain⟨u,h1,h2⟩:=Vals.get (i:=i) (x:=x) t (by simpa using e);exact⟨u,by simpa using h1,h2⟩
theorem Vals.set{x:V}{u:Value}(r:RelV x u):∀ {xs:List V} {us:List Value} (i:Nat),Vals xs us->Vals (xs.set i x) (us.set i u)
 | _,_,_,.nil=>.nil
 | _,_,0,.cons _ t=>.cons r t
 | _,_,i+1,.cons q t=>.cons q (Vals.set r i t)
theorem Vals.append:∀ {xs ys:List V} {us ws:List Value},Vals xs us->Vals ys ws->Vals (xs++ys) (us++ws)
 | _,_,_,_,.nil,s=>s
 | _,_,_,_,.cons r t,s=>.cons r (Vals.append t s)
theorem Vals.take:∀ {xs:List V} {us:List Value} (n:Nat),Vals xs us->Vals (xs.take n) (us.take n)
 | _,_,0,_=>.nil
 | _,_,_+1,.nil=>.nil
 | _,_,n+1,.cons r t=>.cons r (Vals.take n t)
theorem Vals.drop:∀ {xs:List V} {us:List Value} (n:Nat),Vals xs us->Vals (xs.drop n) (us.drop n)
 | _,_,0,r=>r
 | _,_,_+1,.nil=>.nil
 | _,_,n+1,.cons _ t=>Vals.drop n t
def yg:Option V->Option Value->Prop
 | some v,some u=>RelV v u
 | none,none=>True
 | _,_=>False
def KV{κ:Type}:List (κ×V)->List (κ×Value)->Prop:=Paired λ(p:κ×V) (q:κ×Value)=>p.1=q.1/\RelV p.2 q.2
def kV:Key->V
 | .inl i=>.int i
 | .inr x=>.str x
inductive HO where
 | lst (xs:List V)
 | tup (xs:List V)
 | dK (kvs:List (Key×V)) | dT (kvs:List (List Key×V))
 | set (S:Int->Bool) (n:Nat)
 | ins (C dx:Addr) (fs:List (Str×V))
 | own (x:Addr)
 | xd (fs:List (Str×V))
 | met (f x:Addr)
 | rng (lo hi:Int)
 | frz (o:Obj) (u:HO)
 | tbl (ps:Array Value)
 | ext (φ:Heap->Prop)
abbrev Hp:=Addr->Option HO
def upd(H:Hp)(a:Addr)(o:HO):Hp:=λ b=>if b=a then some o else H b
theorem aq{H:Hp}{a:Addr}{o:HO}:upd H a o a=some o:=by unfold upd;rw[if_pos rfl]
theorem aj{H:Hp}{a b:Addr}{o:HO}(h:b≠a):upd H a o b=H b:=by unfold upd;rw[if_neg h]
theorem aej{H:Hp}{a:Addr}{o u:HO}:upd (upd H a o) a u=upd H a u:=by
 funext b;unfold upd;split<;>rfl
theorem uA{H:Hp}{a b:Addr}{o u:HO}(h:H a=some o)(h':H b=some u)(d:o≠u):a≠b:=by intro e;subst e;rw[h] at h';exact d (Option.some.inj h')
theorem aH{H:Hp}{a b:Addr}{o:HO}(h:H a=some o)(h':H b=none):a≠b:=by intro e;subst e;rw[h] at h';cases h'
def yY(h:Heap)(a:Addr)(items:Array Value):Prop:=∃ o,h.get? a=some o/\o.cls=.type "tuple" /\ o.dict=none/\∃ n,o.data=.seq items n
theorem yY.tup{h:Heap}{a:Addr}{items:Array Value}(x:yY h a items):IsTup h a items:=let ⟨o,h1,h2,_,h3⟩:=x; ⟨o,h1,h2,h3⟩
theorem yY.new(h:Heap)(items:Array Value):yY (h.push {cls:=.type "tuple",data:=.seq items}) h.objs.size items:=⟨_,Heap.get?_push_size _ rfl,rfl,rfl,_,rfl⟩
section
variable (P:Program)(w:World)
def c4(H:Hp)(h:Heap)(a:Addr):HO->Prop
 | .lst xs=>xs.length<=sizeLine/\∃ (its:List Value) (n:Nat),Vals xs its/\h.get? a=some {cls:=.type "list",data:=.seq its.toArray n}
 | .tup xs=>xs.length<=sizeLine/\∃ its:List Value,Vals xs its/\yY h a its.toArray
 | .dK kvs=>kvs.length<=sizeLine/\(a==sysModules)=false/\∃ vs,KV kvs vs/\h.DictOf (aR P w) a vs
 | .dT kvs=>kvs.length<=sizeLine/\(a==sysModules)=false/\∃ xs:List (List Key×Addr×Value),
   Paired (λ(p:List Key×V) (q:List Key×Addr×Value)=>p.1=q.1/\H q.2.1=some (.tup (p.1.map kV))/\RelV p.2 q.2.2) kvs xs /\
   ∃ o es ep,h.get? a=some o/\o.ExactDict/\o.data=.dict es ep/\es.toList=xs.map (entryOfKey (tupleKind (aR P w)))/\(xs.map (·.1)).Nodup
 | .set S n=>h.SetOf (intKind P w) a S n
 | .ins C dx fs=>H dx=some (.own a)/\fs.length<=1000/\dx≠a/\h.get? a=some (W.instObj C dx) /\
   ∃ mA,h.Ns1 dx mA/\(∀ f,yg (fs.lookup f) (mA f))/\PySem.Within mA (fs.map (·.1))
 | .own _=>∃ o,h.get? a=some o
 | .xd fs=>∃ mA,h.Ns1 a mA/\∀ f,yg (fs.lookup f) (mA f)
 | .rng lo hi=>∃ t u v,h.get? a=some {cls:=.type "range",data:=.fields #[.int lo t,.int hi u,.int 1 v]}
 | .frz o u=>h.get? a=some o/\c4 H h a u
 | .tbl ps=>h.get? a=some {cls:=.none,data:=.fields ps}
 | .met f x=>h.get? a=some (W.methodObj (.ref f) (.ref x))
 | .ext φ=>φ h/\(∃ o,h.get? a=some o)/\∀ h1 h2:Heap,φ h1->(∀ o,h1.get? a=some o->h2.get? a=some o)->φ h2
def HOk(H:Hp)(h:Heap):Prop:=∀ a o,H a=some o->c4 P w H h a o
end
section
variable {P:Program}{w:World}{H H':Hp}{h h':Heap}{a:Addr}{o:HO}
theorem c4.lt(x:c4 P w H h a o):a<h.objs.size:=by
 cases o with
 | lst xs=>obtain⟨_,_,_,_,e⟩:=x;exact Heap.lt_size e
 | tup xs=>obtain⟨_,_,_,p⟩:=x;exact p.tup.lt
 | dK kvs=>obtain⟨_,_,_,_,o,_,_,e,_⟩:=x;exact Heap.lt_size e
 | dT kvs=>obtain⟨_,_,_,_,o,_,_,e,_⟩:=x;exact Heap.lt_size e
 | set S n=>obtain⟨o,_,_,_,e,_⟩:=x;exact Heap.lt_size e
 | ins C dx fs=>obtain⟨_,_,_,e,_⟩:=x;exact Heap.lt_size e
 | own y=>obtain⟨_,e⟩:=x;exact Heap.lt_size e
 | xd fs=>obtain⟨_,⟨_,_,_,e,_⟩,_⟩:=x;exact Heap.lt_size e
 | rng lo hi=>obtain⟨_,_,_,e⟩:=x;exact Heap.lt_size e
 | frz ob u=>obtain⟨e,_⟩:=x;exact Heap.lt_size e
 | tbl ps=>exact Heap.lt_size (show h.get? a=some _ from x)
 | met f y=>exact Heap.lt_size (show h.get? a=some _ from x)
 | ext φ=>obtain⟨_,⟨_,e⟩,_⟩:=x;exact Heap.lt_size e
theorem Paired.gu{α β:Type}{F G:α->β->Prop}:∀ {l₁:List α} {l₂:List β},Paired F l₁ l₂->(∀ a b,F a b->G a b)->Paired G l₁ l₂
 | _,_,.nil,_=>.nil
 | _,_,.cons r t,f=>.cons (f _ _ r) (Paired.gu t f)
theorem c4.ua(x:c4 P w H h a o)(k:∀ b u,(b=a\/H b=some (.own a))->h.get? b=some u->h'.get? b=some u)
  (ho:∀ b,H b=some (.own a)->H' b=some (.own a))(ht:∀ b xs,H b=some (.tup xs)->H' b=some (.tup xs)):c4 P w H' h' a o:=by
 induction o with
 | lst xs=>obtain⟨z,its,n,r,e⟩:=x;exact⟨z,its,n,r,k _ _ (.inl rfl) e⟩
 | tup xs=>obtain⟨z,its,r,ob,e,c⟩:=x;exact⟨z,its,r,ob,k _ _ (.inl rfl) e,c⟩
 | dK kvs=>obtain⟨z,y,vs,r,ob,es,ep,e,c⟩:=x;exact⟨z,y,vs,r,ob,es,ep,k _ _ (.inl rfl) e,c⟩
 | dT kvs =>
  obtain⟨z,y,xs,r,ob,es,ep,e,c⟩:=x;exact⟨z,y,xs,Paired.gu r λ p q z=>⟨z.1,ht _ _ z.2.1,z.2.2⟩,ob,es,ep,k _ _ (.inl rfl) e,c⟩
 | set S n=>obtain⟨ob,es,ep,t,e,c⟩:=x;exact⟨ob,es,ep,t,k _ _ (.inl rfl) e,c⟩
 | ins C dx fs =>
  obtain⟨d,z,ne,e,mA,⟨od,es,ep,e2,c⟩,r⟩:=x;exact⟨ho _ d,z,ne,k _ _ (.inl rfl) e,mA,⟨od,es,ep,k _ _ (.inr d) e2,c⟩,r⟩
 | own y=>obtain⟨ob,e⟩:=x;exact⟨ob,k _ _ (.inl rfl) e⟩
 | xd fs=>obtain⟨mA,⟨od,es,ep,e,c⟩,r⟩:=x;exact⟨mA,⟨od,es,ep,k _ _ (.inl rfl) e,c⟩,r⟩
 | rng lo hi=>obtain⟨t,u,v,e⟩:=x;exact⟨t,u,v,k _ _ (.inl rfl) e⟩
 | frz ob u ih=>obtain⟨e,q⟩:=x;exact⟨k _ _ (.inl rfl) e,ih q⟩
 | tbl ps =>
  have e:h.get? a=some {cls:=.none,data:=.fields ps}:=x;show h'.get? a=some {cls:=.none,data:=.fields ps};exact k a _ (.inl rfl) e
 | met f y =>
  have e:h.get? a=some (W.methodObj (.ref f) (.ref y)):=x;show h'.get? a=some (W.methodObj (.ref f) (.ref y));exact k a _ (.inl rfl) e
 | ext φ=>obtain⟨p,⟨o,e⟩,st⟩:=x;exact⟨st _ _ p λ o q=>k _ _ (.inl rfl) q,⟨o,k _ _ (.inl rfl) e⟩,st⟩
theorem HOk.lt(x:HOk P w H h)(e:H a=some o):a<h.objs.size:=(x a o e).lt
theorem HOk.fresh(x:HOk P w H h)(e:h.objs.size<=a):H a=none:=by
 cases q:H a with
 | none=>rfl
 | some u=>exact absurd (Nat.lt_of_lt_of_le (x.lt q) e) (Nat.lt_irrefl _)
theorem HOk.kept(x:HOk P w H h)(k:∀ b u,h.get? b=some u->h'.get? b=some u):HOk P w H h':=λ a o e =>
 (x a o e).ua (λ b u _ q=>k b u q) (λ _ q=>q) λ _ _ q=>q
theorem HOk.laid(x:HOk P w H h)(k:∀ b u,h.get? b=some u->h'.get? b=some u)(hp:h.objs.size<=a)(new:c4 P w (upd H a o) h' a o):HOk P w (upd H a o) h':=λ b u e=>by
 have hn:=x.fresh hp
 by_cases hb:b=a
 ·subst hb;rw[aq] at e;cases e;exact new
 ·rw[aj hb] at e;exact(x b u e).ua (λ c v _ q=>k c v q) (λ c q=>by rw[aj (aH q hn)];exact q) λ c xs q=>by rw[aj (aH q hn)];exact q
end
def Rd(H:Hp)(a:Addr)(u:HO):Prop:=H a=some u\/∃ o,H a=some (.frz o u)
theorem Rd.ok{P:Program}{w:World}{H:Hp}{h:Heap}{a:Addr}{u:HO}(r:Rd H a u)(x:HOk P w H h):c4 P w H h a u:=by
 rcases r with r | ⟨o,r⟩
 ·exact x a u r
 ·obtain⟨_,q⟩:=x a _ r;exact q
def Mut:Option HO->Prop
 | some (.lst _)=>True
 | some (.dK _)=>True
 | some (.dT _)=>True
 | some (.set _ _)=>True
 | some (.ins _ _ _)=>True
 | some (.ext _)=>True
 | _=>False
section
variable {P:Program}{w:World}{H:Hp}{h h':Heap}{x e:Addr}{o':HO}
theorem HOk.write(ok:HOk P w H h)(mu:Mut (H x))(he:e=x\/H e=some (.own x))(k:∀ b u,b≠e->h.get? b=some u->h'.get? b=some u)(heo:∃ u,h'.get? e=some u)
  (new:c4 P w (upd H x o') h' x o'):HOk P w (upd H x o') h':=λ b u q=>by
 have nown:∀ c y,H c=some (.own y)->c≠x:=λ c y r z=>by subst z;rw[r] at mu;exact mu
 have ntup:∀ c xs,H c=some (.tup xs)->c≠x:=λ c xs r z=>by subst z;rw[r] at mu;exact mu
 by_cases hb:b=x
 ·subst hb;rw[aq] at q;cases q;exact new
 ·rw[aj hb] at q
  by_cases hbe:b=e
  ·have q':H b=some (.own x):=by
    rcases he with z | z
    ·exact absurd (hbe.trans z) hb
    ·rw[hbe];exact z
   rw[q] at q';cases q';obtain⟨v,hv⟩:=heo;exact⟨v,by rw[hbe];exact hv⟩
  ·refine(ok b u q).ua (λ c v hc r=>k c v ?_ r) (λ c r=>by rw[aj (nown c b r)];exact r) λ c xs r=>by rw[aj (ntup c xs r)];exact r
   rcases hc with rfl | hc
   ·exact hbe
   ·rintro rfl;rcases he with z | z
    ·exact nown c b hc z
    ·rw[hc] at z;cases z;exact hb rfl
end
structure Un(fs ex:List Addr)(H H':Hp)(h h':Heap):Prop where
 keep:∀ b o,h.get? b=some o->H b=none->b ∉ fs->b ∉ ex->h'.get? b=some o
 slot:∀ b o,h.get? b=some o->H b=none->b∈fs->b ∉ ex->∃ sl,h'.get? b=some {o with slots:=sl}
 free:∀ b o,h.get? b=some o->H b=none->b ∉ ex->H' b=none
 there:∀ b o,h.get? b=some o->b ∉ ex->∃ o',h'.get? b=some o'
 tups:∀ b xs,H b=some (.tup xs)->H' b=some (.tup xs)
 frzs:∀ b o u,H b=some (.frz o u)->H' b=some (.frz o u)
 tbls:∀ b ps,H b=some (.tbl ps)->∃ more,H' b=some (.tbl (ps++more))
section
variable {fs fs' ex ex':List Addr}{H H1 H2:Hp}{h h1 h2 h':Heap}{a x e:Addr}{o:HO}
theorem Un.any(u:Un fs ex H H1 h h1){b:Addr}{ob:Obj}(q:h.get? b=some ob)(n:H b=none)(hx:b ∉ ex):∃ sl,h1.get? b=some {ob with slots:=sl}:=by
 by_cases hb:b∈fs
 ·exact u.slot b ob q n hb hx
 ·exact⟨ob.slots,u.keep b ob q n hb hx⟩
theorem Un.kept(k:∀ b u,h.get? b=some u->h'.get? b=some u):Un fs ex H H h h':=
 ⟨λ b ob q _ _ _=>k b ob q,λ b ob q _ _ _=>⟨ob.slots,k b ob q⟩,λ _ _ _ n _=>n,λ b ob q _=>⟨ob,k b ob q⟩,λ _ _ q=>q,λ _ _ _ q=>q,λ _ ps q=>⟨#[],by rw[q];simp⟩⟩
theorem Un.refl:Un fs ex H H h h:=Un.kept λ _ _ q=>q
theorem Un.laid(k:∀ b u,h.get? b=some u->h'.get? b=some u)(hp:h.objs.size<=a)(hn:H a=none):Un fs ex H (upd H a o) h h' where
 keep:=λ b u q _ _ _=>k b u q
 slot:=λ b u q _ _ _=>⟨u.slots,k b u q⟩
 free:=λ b u q n _=>by rw[aj (Nat.ne_of_lt (Nat.lt_of_lt_of_le (Heap.lt_size q) hp))];exact n
 there:=λ b u q _=>⟨u,k b u q⟩
 tups:=λ b xs q=>by rw[aj (aH q hn)];exact q
 frzs:=λ b u xs q=>by rw[aj (aH q hn)];exact q
 tbls:=λ b ps q=>⟨#[],by rw[aj (aH q hn),q];simp⟩
theorem Un.write(mu:Mut (H x))(he:e=x\/H e=some (.own x))(k:∀ b u,b≠e->h.get? b=some u->h'.get? b=some u)(heo:∃ u,h'.get? e=some u):Un fs ex H (upd H x o) h h':=by
 have hx:∀ b,H b=none->b≠x:=λ b n z=>by subst z;rw[n] at mu;exact mu
 have hb:∀ b,H b=none->b≠e:=λ b n z=>by
  subst z;rcases he with r | r
  ·exact hx b n r
  ·rw[n] at r;cases r
 have hm:∀ b u,H b=some u->¬ Mut (some u)->b≠x:=λ b u q nm z=>by subst z;rw[q] at mu;exact nm mu
 refine⟨λ b u q n _ _=>k b u (hb b n) q,λ b u q n _ _=>⟨u.slots,k b u (hb b n) q⟩,λ b u q n _=>by rw[aj (hx b n)];exact n,λ b u q _=>?_,
  λ b xs q=>by rw[aj (hm b _ q λ z=>z)];exact q,λ b u xs q=>by rw[aj (hm b _ q λ z=>z)];exact q,λ b ps q=>⟨#[],by rw[aj (hm b _ q λ z=>z),q];simp⟩⟩
 by_cases hbe:b=e
 ·subst hbe;exact heo
 ·exact⟨u,k b u hbe q⟩
end
def trk(h:Heap)(H:Hp):List Addr:=(List.range h.objs.size).filter λ a=>(H a).isSome
def zj(h:Heap)(H:Hp):Heap:=W.hideAll h (trk h H)
theorem vT(h:Heap)(H:Hp):(zj h H).objs.size=h.objs.size:=W.hideAll_size _ _
theorem zI{h:Heap}{H:Hp}{b:Addr}{o:Obj}(e:h.get? b=some o)(n:H b=none):(zj h H).get? b=some o:=
 W.hideAll_get _ e λ hm=>by have q:(H b).isSome=true:=(List.mem_filter.mp hm).2;rw[n] at q;simp at q
theorem ac6{h:Heap}{H:Hp}{b:Addr}{o:Obj}(e:(zj h H).get? b=some o):h.get? b=some o/\H b=none:=by
 have e':h.get? b=some o:=W.of_hideAll (trk h H) e;refine⟨e',?_⟩;cases q:H b with
 | none=>rfl
 | some x =>
  have hm:b∈trk h H:=List.mem_filter.mpr ⟨List.mem_range.mpr (Heap.lt_size e'),by simp[q]⟩;have z:(zj h H).get? b=none:=W.hideAll_none (trk h H) hm;rw[z] at e;cases e
def BM(mg:Str->Option Value)(h:Heap):Prop:=(∃ bm o,mg "__builtins__" = some (.ref bm)/\bm≠builtinsNs/\h.get? bm=some o/\o.cls=.type "module" /\ o.dict=some builtinsNs/\o.data=.plain)/\∃ mm,h.Ns sysModules mm
structure Mod(K:FG)(mg:Str->Option Value)(base:Heap):Prop where
 kin:K.In base
 glob:base.Ns mainGlobals mg
 blt:∃ mb,base.Ns builtinsNs mb/\∀ x:Str,x ≠ "__name__" -> mb x=bootBuiltins x
 nolimit:base.NoLimit
 bm:BM mg base
structure Cx where
 prog:Program
 w:World
 K:FG
 mg:Str->Option Value
 base:Heap
 A:Around
 N:List Str
 s₀:Shared
 H₀:Hp
 env:Env
 outer:List Env
 stack:List Env
 ex:List Addr
 fn:Str->Bool
 calm:Bool
 pn:PN
 xe:VP
def frs(l:List Env):List Addr:=l.filterMap (·.frame)
abbrev Cx.fs(X:Cx):List Addr:=frs X.outer
def Vis(sc:Scope)(x:Str):Prop:=sc.names.lookup x=some .local\/sc.names.lookup x=some .cell\/sc.names.lookup x=some .free
def Loc(sc:Scope)(x:Str):Prop:=sc.names.lookup x=some .local\/sc.names.lookup x=some .cell
def Look(env:Env)(h:Heap)(m:Str->Option Value)(x:Str)(u:Value):Prop:=
 (env.kindOf x=some .local/\m x=some u)\/((env.kindOf x=some .cell\/env.kindOf x=some .free)/\∃ c,env.cells.lookup x=some c/\h.IsCell c (some u))
structure Cx.Ok(X:Cx):Prop where
 mod:Mod X.K X.mg X.base
 kind:X.env.scope.kind=.function
 glob:X.env.globals=mainGlobals
 blt:X.env.builtins=builtinsNs
 above:X.s₀.heap.objs.size<=X.env.locals
 inj:∀ x y c,X.env.cells.lookup x=some c->X.env.cells.lookup y=some c->x=y
 has:∀ x,(X.env.kindOf x=some .cell\/X.env.kindOf x=some .free)->∃ c,X.env.cells.lookup x=some c
 cab:∀ x c,X.fn x=true->X.env.cells.lookup x=some c->X.s₀.heap.objs.size<=c
 hd:X.calm=true->X.A.handled=none
 frames:X.A.frames=some X.stack
 stk:X.stack=X.outer\/(X.stack=X.env::X.outer/\X.env.frame=some X.env.locals)
 exf:∀ b∈X.ex,b≠X.env.locals/\∀ x c,X.env.cells.lookup x=some c->c≠b
 bs:∀ b o,X.base.get? b=some o->X.s₀.heap.get? b=some o/\X.H₀ b=none
 bsz:X.base.objs.size<=X.s₀.heap.objs.size
 noex:∀ b o,X.base.get? b=some o->b ∉ X.ex
 exfs:∀ b∈X.ex,b ∉ X.fs
 qo:X.s₀.heap.FunFrames X.base X.outer
 frf:∀ b∈X.fs,X.H₀ b=none
structure Inv(X:Cx)(pins:PN)(σ:List (Option V))(H:Hp)(s:Shared):Prop where
 ok:X.Ok
 os:s.os=X.s₀.os
 bare:AllBare s.gens
 base:Un X.fs X.ex X.H₀ H X.s₀.heap s.heap
 loc:∃ m,s.heap.Ns X.env.locals m/\∀ (i:Nat) (x:Str) (v:V),X.N[i]? =some x->σ[i]? =some (some v)->Vis X.env.scope x->∃ u,RelV v u/\Look X.env s.heap m x u
 cell:∀ x c,X.env.cells.lookup x=some c->∃ v,s.heap.IsCell c v
 free:H X.env.locals=none
 freeC:∀ x c,X.env.cells.lookup x=some c->H c=none
 pin:∀ p∈X.pn++pins,s.heap.get? p.1=some p.2/\H p.1=none/\p.1≠X.env.locals/\p.1 ∉ X.fs/\∀ v,p.2.data ≠ .cell v
 hok:HOk X.prog X.w H s.heap
 len:σ.length=X.N.length
section
variable {X:Cx}{pins:PN}{σ:List (Option V)}{H H':Hp}{s:Shared}{h':Heap}
theorem Cx.Ok.ajp(ok:X.Ok){b:Addr}{o:Obj}(e:X.base.get? b=some o):b ∉ X.fs:=λ hb=>by have:=(ok.qo.mem hb).1;rw[e] at this;cases this
theorem Inv.bs(I:Inv X pins σ H s):∀ b o,X.base.get? b=some o->s.heap.get? b=some o/\H b=none:=λ b o e =>
 ⟨I.base.keep b o (I.ok.bs b o e).1 (I.ok.bs b o e).2 (I.ok.ajp e) (I.ok.noex b o e),I.base.free b o (I.ok.bs b o e).1 (I.ok.bs b o e).2 (I.ok.noex b o e)⟩
theorem Inv.bk(I:Inv X pins σ H s):∀ b o,X.base.get? b=some o->s.heap.get? b=some o:=λ b o e=>(I.bs b o e).1
theorem Inv.mod(I:Inv X pins σ H s):Mod X.K X.mg X.base:=I.ok.mod
theorem Inv.kIn(I:Inv X pins σ H s):X.K.In s.heap:=I.ok.mod.kin.keeps I.bk
theorem Inv.nolimit(I:Inv X pins σ H s):s.heap.NoLimit:=I.ok.mod.nolimit.keeps I.bk
theorem Inv.fr(I:Inv X pins σ H s):∃ m,Fr X.base X.env.locals s.heap m:=
 let ⟨m,hn,_⟩:=I.loc
 ⟨m,hn,I.bk,Nat.le_trans I.ok.bsz I.ok.above⟩
theorem Inv.lt(I:Inv X pins σ H s):X.env.locals<s.heap.objs.size:=let ⟨_,hn,_⟩:=I.loc;hn.lt
theorem Inv.sz(I:Inv X pins σ H s):X.s₀.heap.objs.size<=s.heap.objs.size:=Nat.le_trans I.ok.above (Nat.le_of_lt I.lt)
theorem Inv.ahE(I:Inv X pins σ H s){a:Addr}(h:s.heap.objs.size<=a):a ∉ X.fs:=λ hb=>by obtain⟨_,o,ho,_⟩:=I.ok.qo.mem hb;exact absurd (Nat.lt_of_lt_of_le (Heap.lt_size ho) (Nat.le_trans I.sz h)) (Nat.lt_irrefl _)
theorem Inv.cne(I:Inv X pins σ H s):∀ x c,X.env.cells.lookup x=some c->c≠X.env.locals:=λ x c e z=>by obtain⟨v,o,ho,hd⟩:=I.cell x c e;obtain⟨m,⟨o',es,ep,ho',hd',_⟩,_⟩:=I.loc;rw[z,ho'] at ho;cases ho;rw[hd'] at hd;cases hd
theorem Inv.qo(I:Inv X pins σ H s):s.heap.FunFrames X.base X.outer:=by
 have all:∀ (l:List Env),(∀ b∈frs l,b∈X.fs)->X.s₀.heap.FunFrames X.base l->s.heap.FunFrames X.base l:=by
  intro l
  induction l with
  | nil=>intro _ _;trivial
  | cons env r ih =>
   intro hs hl;obtain⟨hk,⟨L,o,hf,hn,ho,hd⟩,hr⟩:=hl;have hL:L∈X.fs:=hs L (by unfold frs;rw[List.filterMap_cons,hf];exact List.mem_cons_self);obtain⟨sl,e⟩:=I.base.slot L o ho (I.ok.frf L hL) hL λ z=>I.ok.exfs L z hL;exact⟨hk,⟨L,_,hf,hn,e,hd⟩,ih (λ b hb=>hs b (by unfold frs;rw[List.filterMap_cons,hf];exact List.mem_cons_of_mem _ hb)) hr⟩
 exact all X.outer (λ _ hb=>hb) I.ok.qo
theorem Inv.stack(I:Inv X pins σ H s):s.heap.FunFrames X.base X.stack:=by
 rcases I.ok.stk with e | ⟨e,hf⟩
 ·rw[e];exact I.qo
 ·rw[e];obtain⟨m,hn,_⟩:=I.loc;refine .cons (by rw[I.ok.kind];decide) hf hn ?_ I.qo;exact Heap.get?_none_of_le (Nat.le_trans I.ok.bsz I.ok.above)
theorem Inv.fF(I:Inv X pins σ H s):∀ b∈frs X.stack,b∈X.env.locals::X.fs:=λ b hb=>by
 rcases I.ok.stk with e | ⟨e,hf⟩
 ·rw[e] at hb;exact List.mem_cons_of_mem _ hb
 ·rw[e] at hb;unfold frs at hb;rw[List.filterMap_cons,hf] at hb;exact hb
theorem Inv.nG(I:Inv X pins σ H s):∀ b∈frs X.stack,H b=none:=λ b hb=>by
 rcases List.mem_cons.mp (I.fF b hb) with e | hb
 ·rw[e];exact I.free
 ·obtain⟨_,o,ho,_⟩:=I.ok.qo.mem hb;exact I.base.free b o ho (I.ok.frf b hb) λ z=>I.ok.exfs b z hb
theorem Inv.step{g':Array GenState}{t':Nat}{d':Drawn}{ch:List Addr}(I:Inv X pins σ H s)
  (hch:∀ b∈ch,(b∈X.ex\/X.s₀.heap.objs.size<=b)/\b≠X.env.locals/\(∀ x c,X.env.cells.lookup x=some c->c≠b)/\∀ p∈X.pn++pins,p.1≠b)
  (keep:∀ b o,b≠X.env.locals->b ∉ X.fs->b ∉ ch->s.heap.get? b=some o->H b=none->h'.get? b=some o)
  (slot:∀ b o,b≠X.env.locals->b∈X.fs->b ∉ ch->s.heap.get? b=some o->H b=none->∃ sl,h'.get? b=some {o with slots:=sl})(free:∀ b o,b ∉ ch->s.heap.get? b=some o->H b=none->H' b=none)
  (there:∀ b o,b ∉ ch->s.heap.get? b=some o->∃ o',h'.get? b=some o')
  (tups:∀ b xs,H b=some (.tup xs)->H' b=some (.tup xs))(frzs:∀ b o u,H b=some (.frz o u)->H' b=some (.frz o u))(tbls:∀ b ps,H b=some (.tbl ps)->∃ more,H' b=some (.tbl (ps++more)))
  (ns:∀ m,s.heap.Ns X.env.locals m->h'.Ns X.env.locals m)(hok:HOk X.prog X.w H' h')(hg:AllBare g') :
  Inv X pins σ H' {s with heap:=h',gens:=g',drawn:=d',toks:=t'}:=by
 have neL:∀ b o,X.s₀.heap.get? b=some o->b≠X.env.locals:=λ b o e=>Nat.ne_of_lt (Nat.lt_of_lt_of_le (Heap.lt_size e) I.ok.above);have neC:∀ b o,X.s₀.heap.get? b=some o->b ∉ X.ex->b ∉ ch:=λ b o e hx hb=>by
  rcases(hch b hb).1 with z | z
  ·exact hx z
  ·exact absurd (Nat.lt_of_lt_of_le (Heap.lt_size e) z) (Nat.lt_irrefl _)
 have cellK:∀ x c,X.env.cells.lookup x=some c->∀ v,s.heap.IsCell c v->h'.IsCell c v:=λ x c e v hq0=>by
  obtain⟨o,ho,hd⟩:=hq0;have nch:c ∉ ch:=λ z=>(hch c z).2.2.1 x c e rfl
  by_cases hc:c∈X.fs
  ·obtain⟨sl,q⟩:=slot c o (I.cne x c e) hc nch ho (I.freeC x c e);exact⟨_,q,hd⟩
  ·exact⟨o,keep c o (I.cne x c e) hc nch ho (I.freeC x c e),hd⟩
 refine⟨I.ok,I.os,hg,⟨λ b o e n hb hx=>?_,λ b o e n hb hx=>?_,λ b o e n hx=>?_,λ b o e hx=>?_,λ b xs e=>tups b xs (I.base.tups b xs e),λ b o xs e=>frzs b o xs (I.base.frzs b o xs e),λ b ps e=>?_⟩,?_,λ x c e=>?_,?_,λ x c e=>?_,λ p hp=>?_,hok,I.len⟩
 ·exact keep b o (neL b o e) hb (neC b o e hx) (I.base.keep b o e n hb hx) (I.base.free b o e n hx)
 ·obtain⟨sl,e1⟩:=I.base.slot b o e n hb hx;obtain⟨sl',e2⟩:=slot b _ (neL b o e) hb (neC b o e hx) e1 (I.base.free b o e n hx);exact⟨sl',e2⟩
 ·obtain⟨o',e1⟩:=I.base.there b o e hx;exact free b o' (neC b o e hx) e1 (I.base.free b o e n hx)
 ·obtain⟨o',e1⟩:=I.base.there b o e hx;exact there b o' (neC b o e hx) e1
 ·obtain⟨m1,e1⟩:=I.base.tbls b ps e;obtain⟨m2,e2⟩:=tbls b _ e1;exact⟨m1++m2,by rw[e2,Array.append_assoc]⟩
 ·obtain⟨m,hn,hl⟩:=I.loc;refine⟨m,ns m hn,λ i x v e1 e2 e3=>?_⟩;obtain⟨u,r,l⟩:=hl i x v e1 e2 e3;refine⟨u,r,?_⟩;rcases l with l | ⟨k,c,e,z⟩
  ·exact .inl l
  ·exact .inr ⟨k,c,e,cellK x c e _ z⟩
 ·obtain⟨v,z⟩:=I.cell x c e;exact⟨v,cellK x c e v z⟩
 ·obtain⟨m,⟨o,_,_,ho,_⟩,_⟩:=I.loc;exact free _ o (λ z=>(hch _ z).2.1 rfl) ho I.free
 ·obtain⟨v,o,ho,hd⟩:=I.cell x c e;exact free c o (λ z=>(hch c z).2.2.1 x c e rfl) ho (I.freeC x c e)
 ·obtain⟨e,n,ne,nf,d⟩:=I.pin p hp;have nch:p.1 ∉ ch:=λ z=>(hch p.1 z).2.2.2 p hp rfl;exact⟨keep p.1 p.2 ne nf nch e n,free p.1 p.2 nch e n,ne,nf,d⟩
theorem Inv.un{t':Nat}(I:Inv X pins σ H s)(u:Un X.fs [] H H' s.heap h')(hok:HOk X.prog X.w H' h'):Inv X pins σ H' {s with heap:=h',toks:=t'}:=by
 obtain⟨m,⟨o,es,ep,ho,r⟩,_⟩:=id I.loc;obtain⟨sl,hL⟩:=u.any ho I.free (by simp);exact I.step (g':=s.gens) (d':=s.drawn) (ch:=[]) (λ _ z=>nomatch z) (λ b o _ hb _ e n=>u.keep b o e n hb (by simp)) (λ b o _ hb _ e n=>u.slot b o e n hb (by simp)) (λ b o _ e n=>u.free b o e n (by simp)) (λ b o _ e=>u.there b o e (by simp)) u.tups u.frzs u.tbls (λ m' hm=>by obtain⟨o',es',ep',ho',r'⟩:=hm;rw[ho] at ho';cases ho';exact⟨_,es',ep',hL,r'⟩) hok I.bare
theorem Inv.call{g':Array GenState}{t':Nat}{d':Drawn}{ch:List Addr}(I:Inv X pins σ H s)(u:Un (frs X.stack) ch H H' s.heap h')(hok:HOk X.prog X.w H' h')(hg:AllBare g')
  (hch:∀ b∈ch,(b∈X.ex\/X.s₀.heap.objs.size<=b)/\b≠X.env.locals/\(∀ x c,X.env.cells.lookup x=some c->c≠b)/\∀ p∈X.pn++pins,p.1≠b) :
  Inv X pins σ H' {s with heap:=h',gens:=g',drawn:=d',toks:=t'}:=by
 obtain⟨m,⟨o,es,ep,ho,r⟩,_⟩:=id I.loc;obtain⟨sl,hL⟩:=u.any ho I.free λ z=>(hch _ z).2.1 rfl;exact I.step (ch:=ch) hch (λ b o hL hb hc e n=>u.keep b o e n (λ z=>(List.mem_cons.mp (I.fF b z)).elim hL hb) hc) (λ b o _ _ hc e n=>u.any e n hc) (λ b o hc e n=>u.free b o e n hc) (λ b o hc e=>u.there b o e hc) u.tups u.frzs u.tbls (λ m' hm=>by obtain⟨o',es',ep',ho',r'⟩:=hm;rw[ho] at ho';cases ho';exact⟨_,es',ep',hL,r'⟩) hok hg
theorem Inv.turned{t':Nat}{it:Addr}(I:Inv X pins σ H s)(k:∀ b o,b≠it->s.heap.get? b=some o->h'.get? b=some o)(hn:H it=none)(hL:it≠X.env.locals)
  (h1:it∈X.ex\/X.s₀.heap.objs.size<=it)(h2:∀ x c,X.env.cells.lookup x=some c->c≠it)(h3:∀ p∈X.pn++pins,p.1≠it):Inv X pins σ H {s with heap:=h',toks:=t'}:=by
 have nit:∀ b u,H b=some u->b≠it:=λ b u e z=>by rw[z,hn] at e;cases e
 refine I.step (g':=s.gens) (d':=s.drawn) (ch:=[it]) (λ b hb=>?_) (λ b o _ _ hc e _=>k b o (λ z=>hc (by simp[z])) e) (λ b o _ _ hc e _=>⟨o.slots,k b o (λ z=>hc (by simp[z])) e⟩) (λ _ _ _ _ n=>n)
  (λ b o hc e=>⟨o,k b o (λ z=>hc (by simp[z])) e⟩) (λ _ _ e=>e) (λ _ _ _ e=>e) (λ b ps e=>⟨#[],by rw[e];simp⟩) (λ m hm=>?_) (λ b u e=>?_) I.bare
 ·have e:b=it:=by simpa using hb
  subst e;exact⟨h1,hL,h2,h3⟩
 ·obtain⟨o,es,ep,ho,r⟩:=hm;exact⟨o,es,ep,k _ o (Ne.symm hL) ho,r⟩
 ·refine(I.hok b u e).ua (λ c v hc q=>k c v ?_ q) (λ _ q=>q) λ _ _ q=>q;rcases hc with z | z
  ·rw[z];exact nit b u e
  ·exact nit c _ z
theorem Inv.tok(I:Inv X pins σ H s)(t:Nat):Inv X pins σ H {s with toks:=t}:=I.un (h':=s.heap) (t':=t) Un.refl I.hok
theorem Inv.kept{t':Nat}(I:Inv X pins σ H s)(k:∀ b u,s.heap.get? b=some u->h'.get? b=some u):Inv X pins σ H {s with heap:=h',toks:=t'}:=I.un (Un.kept k) (I.hok.kept k)
theorem Inv.laid{a:Addr}{o:HO}{t':Nat}(I:Inv X pins σ H s)(k:∀ b u,s.heap.get? b=some u->h'.get? b=some u)(hp:s.heap.objs.size<=a)(new:c4 X.prog X.w (upd H a o) h' a o) :
  Inv X pins σ (upd H a o) {s with heap:=h',toks:=t'}:=I.un (Un.laid k hp (I.hok.fresh hp)) (I.hok.laid k hp new)
theorem Inv.write{x e:Addr}{o:HO}{t':Nat}(I:Inv X pins σ H s)(mu:Mut (H x))(he:e=x\/H e=some (.own x))(k:∀ b u,b≠e->s.heap.get? b=some u->h'.get? b=some u)(heo:∃ u,h'.get? e=some u)
  (new:c4 X.prog X.w (upd H x o) h' x o):Inv X pins σ (upd H x o) {s with heap:=h',toks:=t'}:=I.un (Un.write mu he k heo) (I.hok.write mu he k heo new)
theorem Inv.dh{pins':PN}(I:Inv X pins σ H s)(h:∀ p∈pins',s.heap.get? p.1=some p.2/\H p.1=none/\p.1≠X.env.locals/\p.1 ∉ X.fs/\∀ v,p.2.data ≠ .cell v):Inv X pins' σ H s:=
 ⟨I.ok,I.os,I.bare,I.base,I.loc,I.cell,I.free,I.freeC,λ p hp=>(List.mem_append.mp hp).elim (λ z=>I.pin p (List.mem_append_left _ z)) (h p),I.hok,I.len⟩
theorem sD{N:List Str}(hN:N.Nodup){i j:Nat}{x:Str}(a:N[i]? =some x)(b:N[j]? =some x):i=j:=by obtain⟨h1,e1⟩:=List.getElem?_eq_some_iff.mp a;obtain⟨h2,e2⟩:=List.getElem?_eq_some_iff.mp b;exact(List.getElem_inj hN).mp (e1.trans e2.symm)
theorem vy{M:Model}{A:Around}{E:VP}{i:Nat}{x:Str}{v:V}{u:Value}{Q:Unit->Shared->Prop}(I:Inv X pins σ H s)(hN:X.N.Nodup)(hi:X.N[i]? =some x)(hx:Loc X.env.scope x)(r:RelV v u)
  (h:∀ s',Inv X pins (σ.set i (some v)) H s'->(∃ a,Heap.SameBut a s.heap s'.heap/\(a=X.env.locals\/X.env.cells.lookup x=some a))->Q () s')(hf:X.fn x=true\/X.env.scope.names.lookup x=some .local:=by first | exact .inl rfl | exact .inr rfl | assumption):wpAny M A (storeName X.env x u) Q E s:=by
 obtain⟨m,hn,hl⟩:=id I.loc;have hcls:(X.env.scope.kind==.class || (X.env.scope.kind==.module&&X.env.locals != X.env.globals))=false:=by rw[I.ok.kind];rfl
 have hiσ:i<σ.length:=by rw[I.len];exact(List.getElem?_eq_some_iff.mp hi).1
 have cne:=I.cne;have tracked:∀ {a:Addr} {h':Heap},(∃ o,s.heap.get? a=some o/\H a=none)->Heap.SameBut a s.heap h'->HOk X.prog X.w H h':=λ {a h'} ha hs b ob e=>by
  obtain⟨_,_,hfree⟩:=ha;refine(I.hok b ob e).ua (λ c w' hc q=>(hs.2 c ?_).trans q) (λ _ q=>q) λ _ _ q=>q;rintro rfl;rcases hc with rfl | hc
  ·rw[hfree] at e;cases e
  ·rw[hfree] at hc;cases hc
 rcases hx with hk | hk
 ·refine wpAny_storeName_local hk hn (λ h' hn' hs=>?_) hcls;obtain⟨oL,_,_,hoL,_⟩:=id hn;refine h _ ⟨I.ok,I.os,I.bare,⟨λ b o e n hb hx=>?_,λ b o e n hb hx=>?_,I.base.free,λ b o e hx=>?_,I.base.tups,I.base.frzs,I.base.tbls⟩,⟨_,hn',λ j y v' e1 e2 e3=>?_⟩,λ y c e=>?_,I.free,I.freeC,λ p hp=>?_,tracked ⟨oL,hoL,I.free⟩ hs,by simpa using I.len⟩ ⟨_,hs,.inl rfl⟩
  ·exact(hs.2 b (Nat.ne_of_lt (Nat.lt_of_lt_of_le (Heap.lt_size e) I.ok.above))).trans (I.base.keep b o e n hb hx)
  ·obtain⟨sl,e1⟩:=I.base.slot b o e n hb hx;exact⟨sl,(hs.2 b (Nat.ne_of_lt (Nat.lt_of_lt_of_le (Heap.lt_size e) I.ok.above))).trans e1⟩
  ·obtain⟨o',e1⟩:=I.base.there b o e hx;exact⟨o',(hs.2 b (Nat.ne_of_lt (Nat.lt_of_lt_of_le (Heap.lt_size e) I.ok.above))).trans e1⟩
  ·by_cases hj:j=i
   ·subst hj;rw[hi] at e1;cases e1;rw[List.getElem?_set_self hiσ] at e2;cases e2;exact⟨u,r,.inl ⟨hk,by simp⟩⟩
   ·rw[List.getElem?_set_ne (Ne.symm hj)] at e2;obtain⟨u',r',q⟩:=hl j y v' e1 e2 e3;refine⟨u',r',?_⟩;rcases q with ⟨k,e⟩ | ⟨k,c,e,z⟩
    ·refine .inl ⟨k,?_⟩;have:y≠x:=λ e=>hj (sD hN e1 (e ▸ hi));simp[this,e]
    ·exact .inr ⟨k,c,e,z.sameBut hs (cne y c e)⟩
  ·obtain⟨w',z⟩:=I.cell y c e;exact⟨w',z.sameBut hs (cne y c e)⟩
  ·obtain⟨e,n,ne,nf,d⟩:=I.pin p hp;exact⟨(hs.2 p.1 ne).trans e,n,ne,nf,d⟩
 ·have hfn:X.fn x=true:=by
   rcases hf with z | z
   ·exact z
   ·rw[z] at hk;cases hk
  obtain⟨c,hc⟩:=I.ok.has x (.inl hk);obtain⟨w',z⟩:=I.cell x c hc;refine wpAny_storeName_cell I.ok.kind hk hc z (λ h' hc' hs=>?_);obtain⟨oc,hoc,hocd⟩:=id z;refine h {s with heap:=h'} ⟨I.ok,I.os,I.bare,⟨λ b o e n hb hx=>?_,λ b o e n hb hx=>?_,I.base.free,λ b o e hx=>?_,I.base.tups,I.base.frzs,I.base.tbls⟩,⟨m,hn.sameBut hs (Ne.symm (cne x c hc)),λ j y v' e1 e2 e3=>?_⟩,λ y c' e=>?_,I.free,I.freeC,λ p hp=>?_,tracked ⟨oc,hoc,I.freeC x c hc⟩ hs,by simpa using I.len⟩ ⟨c,hs,.inr hc⟩
  ·exact(hs.2 b (Nat.ne_of_lt (Nat.lt_of_lt_of_le (Heap.lt_size e) (I.ok.cab x c hfn hc)))).trans (I.base.keep b o e n hb hx)
  ·obtain⟨sl,e1⟩:=I.base.slot b o e n hb hx;exact⟨sl,(hs.2 b (Nat.ne_of_lt (Nat.lt_of_lt_of_le (Heap.lt_size e) (I.ok.cab x c hfn hc)))).trans e1⟩
  ·obtain⟨o',e1⟩:=I.base.there b o e hx;exact⟨o',(hs.2 b (Nat.ne_of_lt (Nat.lt_of_lt_of_le (Heap.lt_size e) (I.ok.cab x c hfn hc)))).trans e1⟩
  ·by_cases hj:j=i
   ·subst hj;rw[hi] at e1;cases e1;rw[List.getElem?_set_self hiσ] at e2;cases e2;exact⟨u,r,.inr ⟨.inl hk,c,hc,hc'⟩⟩
   ·rw[List.getElem?_set_ne (Ne.symm hj)] at e2;obtain⟨u',r',q⟩:=hl j y v' e1 e2 e3;refine⟨u',r',?_⟩;rcases q with q | ⟨k,c',e,z'⟩
    ·exact .inl q
    ·refine .inr ⟨k,c',e,z'.sameBut hs ?_⟩;rintro rfl;exact hj (sD hN e1 (I.ok.inj _ _ _ e hc ▸ hi))
  ·by_cases hcc:c'=c
   ·subst hcc;exact⟨_,hc'⟩
   ·obtain⟨w2,z2⟩:=I.cell y c' e;exact⟨w2,z2.sameBut hs hcc⟩
  ·obtain⟨e,n,ne,nf,d⟩:=I.pin p hp;refine⟨(hs.2 p.1 ?_).trans e,n,ne,nf,d⟩;intro q;rw[q,hoc] at e;have q':oc=p.2:=Option.some.inj e;exact d w' (by rw[<- q'];exact hocd)
theorem nB{M:Model}{A:Around}{E:VP}{i:Nat}{x:Str}{v:V}{u:Value}{Q:Unit->Shared->Prop}(I:Inv X pins σ H s)(hN:X.N.Nodup)(hi:X.N[i]? =some x)(hx:Loc X.env.scope x)(r:RelV v u)
  (h:∀ s',Inv X pins (σ.set i (some v)) H s'->Q () s')(hf:X.fn x=true\/X.env.scope.names.lookup x=some .local:=by first | exact .inl rfl | exact .inr rfl | assumption):wpAny M A (storeName X.env x u) Q E s:=
 vy I hN hi hx r (λ s' I' _=>h s' I') hf
theorem Inv.adV{s':Shared}{ch:List Addr}(I:Inv X pins σ H s)(ho:s'.os=s.os)(u:Un (frs X.stack) ch H H' s.heap s'.heap)(hok:HOk X.prog X.w H' s'.heap)(hg:AllBare s'.gens)
  (hch:∀ b∈ch,(b∈X.ex\/X.s₀.heap.objs.size<=b)/\b≠X.env.locals/\(∀ x c,X.env.cells.lookup x=some c->c≠b)/\∀ p∈X.pn++pins,p.1≠b):Inv X pins σ H' s':=by
 obtain⟨h',g',d',t',o'⟩:=s';have e:o'=s.os:=ho;subst e;exact I.call (g':=g') (t':=t') (d':=d') u hok hg hch
end
abbrev XK:=Value->Option Addr->Hp->Prop
abbrev St:=List (Option V)
abbrev VK:=V->Hp->Prop
abbrev TE:=St->Hp->VK->Prop
abbrev TT:=St->Hp->(Bool->Hp->Prop)->Prop
abbrev TA:=St->Hp->(List V->Hp->Prop)->Prop
structure Ends where
 nx:St->Hp->Prop
 rt:VK
 bk:St->Hp->Prop:=λ _ _=>False
 ct:St->Hp->Prop:=λ _ _=>False
abbrev TS:=Ends->St->Hp->Prop
def EP(X:Cx)(pins:PN)(σ:St)(Q:VK)(u:Value)(s':Shared):Prop:=∃ v H',Inv X pins σ H' s'/\RelV v u/\Q v H'
def TP(X:Cx)(pins:PN)(σ:St)(Q:Bool->Hp->Prop)(b:Bool)(s':Shared):Prop:=∃ H',Inv X pins σ H' s'/\Q b H'
def AP(X:Cx)(pins:PN)(σ:St)(Q:List V->Hp->Prop)(us:List Value)(s':Shared):Prop:=∃ vs H',Inv X pins σ H' s'/\Vals vs us/\Q vs H'
def SP(X:Cx)(pins:PN)(D:Ends)(f:Flow)(s':Shared):Prop:=
 match f with
 | .next=>∃ σ' H',Inv X pins σ' H' s'/\D.nx σ' H'
 | .brk=>∃ σ' H',Inv X pins σ' H' s'/\D.bk σ' H'
 | .cont=>∃ σ' H',Inv X pins σ' H' s'/\D.ct σ' H'
 | .ret u=>∃ v σ' H',Inv X pins σ' H' s'/\RelV v u/\D.rt v H'
def PE(X:Cx)(e:Expr)(t:TE):Prop:=
 ∀ (pins:PN) (s:Shared) (σ:St) (H:Hp) (Q:VK),Inv X pins σ H s->t σ H Q->wpAny (model X.prog X.w) X.A (eval e X.env) (EP X pins σ Q) X.xe s
def PT(X:Cx)(e:Expr)(t:TT):Prop:=
 ∀ (pins:PN) (s:Shared) (σ:St) (H:Hp) (Q:Bool->Hp->Prop),Inv X pins σ H s->t σ H Q->wpAny (model X.prog X.w) X.A (isTrue e X.env (eval e X.env)) (TP X pins σ Q) X.xe s
def PW(X:Cx)(e:Expr)(t:TT):Prop:=
 ∀ (whole:Sem Value) (pins:PN) (s:Shared) (σ:St) (H:Hp) (Q:Bool->Hp->Prop),Inv X pins σ H s->t σ H Q->wpAny (model X.prog X.w) X.A (isTrue e X.env whole) (TP X pins σ Q) X.xe s
theorem PW.pt{X:Cx}{e:Expr}{t:TT}(h:PW X e t):PT X e t:=h _
def PA(X:Cx)(es:List Expr)(t:TA):Prop:=
 ∀ (pos:Pos) (pins:PN) (s:Shared) (σ:St) (H:Hp) (Q:List V->Hp->Prop),Inv X pins σ H s->t σ H Q->wpAny (model X.prog X.w) X.A (spliced (backTo pos (starEach es X.env))) (AP X pins σ Q) X.xe s
def PS(X:Cx)(st:Stmt)(t:TS):Prop:=
 ∀ (pins:PN) (s:Shared) (σ:St) (H:Hp) (D:Ends),Inv X pins σ H s->t D σ H->wpAny (model X.prog X.w) X.A (exec st X.env) (SP X pins D) X.xe s
def PSs(X:Cx)(st:List Stmt)(t:TS):Prop:=
 ∀ (pins:PN) (s:Shared) (σ:St) (H:Hp) (D:Ends),Inv X pins σ H s->t D σ H->wpAny (model X.prog X.w) X.A (execs st X.env) (SP X pins D) X.xe s
theorem thn{α:Type}{t:Sem α}{Q Q':α->Shared->Prop}{M:Model}{A:Around}{E:VP}{s:Shared}(h:wpAny M A t Q E s)(hQ:∀ a s,Q a s->Q' a s):wpAny M A t Q' E s:=wpAny_mono h hQ λ _ _ x=>x
section
variable {X:Cx}
def aiE(i:Nat):TE:=λ σ H Q=>∃ v,σ[i]? =some (some v)/\Q v H
def tC(v:V):TE:=λ _ H Q=>Q v H
theorem agn{i:Nat}{x:Str}{pos:Pos}(hN:X.N[i]? =some x)(hv:Vis X.env.scope x)(hd:ND x:=by decide)(hcd:(x==("__classdict__" : Str))=false:=by decide):PE X (.Name x pos) (aiE i):=by
 intro pins s σ H Q I h;obtain⟨v,e,h⟩:=h;obtain⟨m,hn,hl⟩:=I.loc;obtain⟨u,r,l⟩:=hl i x v hN e hv;have fin:EP X pins σ Q u s:=⟨v,H,I,r,h⟩;rcases l with ⟨hk,hm⟩ | ⟨hk,c,hc,hcell⟩
 ·exact wpAny_Name (wpAny_loadName_local I.ok.kind hk hn hm fin) hd
 ·rcases hk with hk | hk
  ·exact wpAny_Name (wpAny_loadName_cell I.ok.kind hk hc hcell fin) hd
  ·exact wpAny_Name (wpAny_loadName_free I.ok.kind hk hc hcell fin hcd) hd
theorem yb{i j pos}:PE X (.Constant (.int i) j pos) (tC (.int i)):=λ _ _ _ H _ I h=>wpAny_Constant_int ⟨.int i,H,I.tok _,⟨_,rfl⟩,h⟩
theorem aga{b j pos}:PE X (.Constant (.bool b) j pos) (tC (.bl b)):=λ _ _ _ H _ I h=>Constant_bool ⟨.bl b,H,I,rfl,h⟩
theorem abY{j pos}:PE X (.Constant .none j pos) (tC .non):=λ _ _ _ H _ I h=>Constant_none ⟨.non,H,I,rfl,h⟩
theorem afM{x j pos}:PE X (.Constant (.str x) j pos) (tC (.str x)):=λ _ _ _ H _ I h=>Calls.Constant_str ⟨.str x,H,I.tok _,⟨_,rfl⟩,h⟩
def Gl(X:Cx)(x:Str):Prop:=X.env.kindOf x=some .globalImplicit
theorem wa{E:VP}{pins:PN}{s:Shared}{σ:St}{H:Hp}{x:Str}{u:Value}{pos:Pos}{Q:VP}(I:Inv X pins σ H s)(hg:Gl X x)(hm:X.mg x=some u)(h:Q u s)
  (hd:ND x:=by decide):wpAny (model X.prog X.w) X.A (eval (.Name x pos) X.env) Q E s:=
 Calls.Name_function_global I.ok.kind hg (Calls.loadGlobal_global (by rw[I.ok.glob];exact I.mod.glob.keeps I.bk) hm h) hd
theorem eP{E:VP}{pins:PN}{s:Shared}{σ:St}{H:Hp}{x:Str}{u:Value}{pos:Pos}{Q:VP}(I:Inv X pins σ H s)(hg:Gl X x)(hm:X.mg x=none)(hv:bootBuiltins x=some u)(h:Q u s)
  (hn:x ≠ "__name__":= by decide)(hd:ND x:=by decide):wpAny (model X.prog X.w) X.A (eval (.Name x pos) X.env) Q E s:=by
 obtain⟨mb,h1,h2⟩:=I.mod.blt;exact Calls.Name_function_global I.ok.kind hg (Calls.loadGlobal_builtin (by rw[I.ok.glob];exact I.mod.glob.keeps I.bk) hm (by rw[I.ok.blt];exact h1.keeps I.bk) ((h2 x hn).trans hv) h) hd
theorem acf{x:Str}{v:V}{u:Value}{pos:Pos}(hg:Gl X x)(hm:X.mg x=some u)(r:RelV v u)(hd:ND x:=by decide):PE X (.Name x pos) (tC v):=
 λ _ _ _ H _ I h=>wa I hg hm ⟨v,H,I,r,h⟩ hd
theorem aed{x:Str}{v:V}{u:Value}{pos:Pos}(hg:Gl X x)(hm:X.mg x=none)(hv:bootBuiltins x=some u)(r:RelV v u)(hn:x ≠ "__name__":= by decide)(hd:ND x:=by decide):PE X (.Name x pos) (tC v):=
 λ _ _ _ H _ I h=>eP I hg hm hv ⟨v,H,I,r,h⟩ hn hd
variable {a b:Expr}{ta tb:TE}{pos:Pos}
def PC(X:Cx)(op:CmpOp)(a b:Expr)(t:TE):Prop:=
 ∀ (pins:PN) (s:Shared) (σ:St) (H:Hp) (Q:VK),Inv X pins σ H s->t σ H Q ->
  wpAny (model X.prog X.w) X.A (eval a X.env) (λ v s₁=>wpAny (model X.prog X.w) X.A (eval b X.env) (λ u s₂=>wpAny (model X.prog X.w) X.A (compareOp op v u) (EP X pins σ Q) X.xe s₂) X.xe s₁) X.xe s
theorem iI(b:Expr){op:CmpOp}(h:op ≠ .In)(h2:op ≠ .NotIn):behindInMarks op b=false:=by
 have e1:(op==CmpOp.In)=false:=by cases op<;>first | rfl | exact absurd rfl h
 have e2:(op==CmpOp.NotIn)=false:=by cases op<;>first | rfl | exact absurd rfl h2
 cases b<;>simp[behindInMarks,e1,e2]
def tB(t:TE):TT:=λ σ H Q=>t σ H λ x H1=>∃ c,x=.bl c/\Q c H1
theorem abt{op:CmpOp}{t:TE}(h:PC X op a b t)(h1:behindInMarks op b=false:=by first | exact iI _ (by decide) (by decide) | rfl):PT X (.Compare a [op] [b] pos) (tB t):=by intro pins s σ H Q I hw;refine wpAny_isTrue_Compare1 (thn (h pins s σ H _ I hw) λ v s1 h1=>thn h1 λ u s2 h2=>thn h2 λ c s3 ⟨x,H1,I1,r1,q1⟩=>?_) h1;obtain⟨d,rfl,q⟩:=q1;cases r1;exact wpAny_truthy_bool ⟨H1,I1,q⟩
theorem agj{e:Expr}{t:TE}(h:PE X e t)(he:∀ whole,isTrue e X.env whole=(do let v <- whole;standAt e.pos;holding [v] (truthy v)):=by intro _;rfl):PT X e (tB t):=by intro pins s σ H Q I hw;refine isTrue_plain (thn (h pins s σ H _ I hw) λ v s1 ⟨x,H1,I1,r1,q1⟩=>?_) (he _);obtain⟨d,rfl,q⟩:=q1;cases r1;exact wpAny_truthy_bool ⟨H1,I1,q⟩
variable {tA tB':TT}{rest:List Expr}
def ajy(t u:TT):TT:=λ σ H Q=>t σ H λ c H1=>if c=true then u σ H1 Q else Q false H1
def tOr(t u:TT):TT:=λ σ H Q=>t σ H λ c H1=>if c=true then Q true H1 else u σ H1 Q
def ai8(t:TT):TT:=λ σ H Q=>t σ H λ c H1=>Q (!c) H1
theorem pw_and1(ha:PT X a tA):PW X (.BoolOp .And [a] pos) tA:=by
 intro wh pins s σ H Q I h;refine isTrue_and (thn (ha pins s σ H Q I h) λ c s1 e=>?_);cases c with
 | true=>exact isTrue_and_nil e
 | false=>exact e
theorem pw_or1(ha:PT X a tA):PW X (.BoolOp .Or [a] pos) tA:=by
 intro wh pins s σ H Q I h;refine isTrue_or (thn (ha pins s σ H Q I h) λ c s1 e=>?_);cases c with
 | false=>exact isTrue_or_nil e
 | true=>exact e
theorem pw_and(ha:PT X a tA)(hb:PW X (.BoolOp .And (b::rest) pos) tB'):PW X (.BoolOp .And (a::b::rest) pos) (ajy tA tB'):=by
 intro wh pins s σ H Q I h;refine isTrue_and (thn (ha pins s σ H _ I h) λ c s1 hq1=>?_);obtain⟨H1,I1,q1⟩:=hq1;cases c with
 | true=>exact hb wh pins s1 σ H1 Q I1 q1
 | false=>exact⟨H1,I1,q1⟩
theorem pw_or(ha:PT X a tA)(hb:PW X (.BoolOp .Or (b::rest) pos) tB'):PW X (.BoolOp .Or (a::b::rest) pos) (tOr tA tB'):=by
 intro wh pins s σ H Q I h;refine isTrue_or (thn (ha pins s σ H _ I h) λ c s1 hq2=>?_);obtain⟨H1,I1,q1⟩:=hq2;cases c with
 | true=>exact⟨H1,I1,q1⟩
 | false=>exact hb wh pins s1 σ H1 Q I1 q1
theorem ag3(ha:PT X a tA):PT X (.UnaryOp .Not a pos) (ai8 tA):=by intro pins s σ H Q I h;exact isTrue_not (ha pins s σ H (λ c H1=>Q (!c) H1) I h)
def ahz(ta tb:TE):TE:=λ σ H Q=>ta σ H λ x H1=>∃ c,x=.bl c/\if c=true then tb σ H1 Q else Q (.bl false) H1
def ahW(ta:TE):TE:=λ σ H Q=>ta σ H λ x H1=>∃ c,x=.bl c/\Q (.bl (!c)) H1
theorem agf{op}{t:TE}(h:PE X a t):PE X (.BoolOp op [a] pos) t:=λ pins s σ H Q I hw=>BoolOp_one (h pins s σ H Q I hw)
theorem ae2(ha:PE X a ta)(hb:PE X (.BoolOp .And (b::rest) pos) tb):PE X (.BoolOp .And (a::b::rest) pos) (ahz ta tb):=by
 intro pins s σ H Q I h;refine BoolOp_and (thn (ha pins s σ H _ I h) λ v s1 hq3=>?_);obtain⟨x,H1,I1,r1,q1⟩:=hq3;obtain⟨c,rfl,q1⟩:=q1;cases r1;refine wpAny_truthy_bool ?_;cases c with
 | true=>exact hb pins s1 σ H1 Q I1 q1
 | false=>exact⟨.bl false,H1,I1,rfl,q1⟩
theorem agh(ha:PE X a ta):PE X (.UnaryOp .Not a pos) (ahW ta):=by intro pins s σ H Q I h;refine UnaryOp_ (thn (ha pins s σ H _ I h) λ v s1 hq4=>?_);obtain⟨x,H1,I1,r1,q1⟩:=hq4;obtain⟨c,rfl,q1⟩:=q1;cases r1;exact not_of (wpAny_truthy_bool ⟨.bl (!c),H1,I1,rfl,q1⟩)
end
def SqL(K:FG)(H:Hp)(a:Addr)(xs:List V):Prop:=
 Rd H a (.lst xs) \/
  ∃ (o:Obj) (its:Array Value) (n:Nat),K.lookup a=some o/\o.cls=.type "list" /\ o.dict=none/\o.data=.seq its n/\its.size<=sizeLine/\Vals xs its.toList
def SqT(K:FG)(H:Hp)(a:Addr)(xs:List V):Prop:=
 Rd H a (.tup xs) \/
  ∃ (o:Obj) (its:Array Value) (n:Nat),K.lookup a=some o/\o.cls=.type "tuple" /\ o.dict=none/\o.data=.seq its n/\its.size<=sizeLine/\Vals xs its.toList
def ajq:Value->Option V
 | .none=>some .non
 | .bool b=>some (.bl b)
 | .int i _=>some (.int i)
 | .str x _=>some (.str x)
 | .bytes b _=>some (.byt b)
 | .float b _=>some (.flt b)
 | .ref a=>some (.ref a)
 | .type n=>some (.ty n)
 | _=>none
theorem RelV.abs{x:V}{u:Value}(r:RelV x u):ajq u=some x:=by
 cases x with
 | non=>cases r;rfl
 | bl _=>cases r;rfl
 | int _=>obtain⟨t,rfl⟩:=r;rfl
 | str _=>obtain⟨t,rfl⟩:=r;rfl
 | byt _=>obtain⟨t,rfl⟩:=r;rfl
 | flt _=>obtain⟨t,rfl⟩:=r;rfl
 | ref _=>cases r;rfl
 | ty _=>cases r;rfl
theorem RelV.inj{x y:V}{u:Value}(r:RelV x u)(q:RelV y u):x=y:=Option.some.inj (r.abs.symm.trans q.abs)
theorem Vals.inj:∀ {xs ys:List V} {us:List Value},Vals xs us->Vals ys us->xs=ys
 | _,_,_,.nil,.nil=>rfl
 | _,_,_,.cons r t,.cons r' t'=>by rw[r.inj r',Vals.inj t t']
section
variable {X:Cx}{pins:PN}{σ:St}{H:Hp}{s:Shared}{a:Addr}{xs ys:List V}
theorem SqL.of{K:FG}(h:H a=some (.lst xs)):SqL K H a xs:=.inl (.inl h)
theorem Inv.list(I:Inv X pins σ H s)(h:SqL X.K H a xs):∃ its:List Value,Vals xs its/\PlainL s.heap a its.toArray/\xs.length<=sizeLine:=by
 rcases h with h | ⟨o,its,n,hk,hc,hd,hs,hz,r⟩
 ·obtain⟨z,its,n,r,e⟩:=h.ok I.hok;exact⟨its,r,⟨_,n,e,rfl,rfl,rfl⟩,z⟩
 ·refine⟨its.toList,r,⟨o,n,I.kIn a o hk,hc,hd,by simpa using hs⟩,?_⟩;have e:=r.length;simp only[Array.length_toList] at e;omega
theorem Inv.aiX(I:Inv X pins σ H s)(h:SqT X.K H a xs):∃ its:List Value,Vals xs its/\yY s.heap a its.toArray/\xs.length<=sizeLine:=by
 rcases h with h | ⟨o,its,n,hk,hc,hd,hs,hz,r⟩
 ·obtain⟨z,its,r,p⟩:=h.ok I.hok;exact⟨its,r,p,z⟩
 ·refine⟨its.toList,r,⟨o,I.kIn a o hk,hc,hd,n,by simpa using hs⟩,?_⟩;have e:=r.length;simp only[Array.length_toList] at e;omega
theorem Inv.tuple(I:Inv X pins σ H s)(h:SqT X.K H a xs):∃ its:List Value,Vals xs its/\IsTup s.heap a its.toArray/\xs.length<=sizeLine:=by obtain⟨its,r,p,z⟩:=I.aiX h;exact⟨its,r,p.tup,z⟩
theorem Inv.rZ(I:Inv X pins σ H s)(h:SqL X.K H a xs)(h':SqL X.K H a ys):xs=ys:=by
 obtain⟨its,r,⟨o,n,e,_,_,d⟩,_⟩:=I.list h;obtain⟨its',r',⟨o',n',e',_,_,d'⟩,_⟩:=I.list h';rw[e] at e';cases e';rw[d] at d'
 injection d' with d1 _
 have:its=its':=by simpa using congrArg Array.toList d1
 subst this;exact r.inj r'
theorem Inv.xP(I:Inv X pins σ H s)(h:SqT X.K H a xs)(h':SqT X.K H a ys):xs=ys:=by
 obtain⟨its,r,⟨o,e,_,n,d⟩,_⟩:=I.tuple h;obtain⟨its',r',⟨o',e',_,n',d'⟩,_⟩:=I.tuple h';rw[e] at e';cases e';rw[d] at d'
 injection d' with d1 _
 have:its=its':=by simpa using congrArg Array.toList d1
 subst this;exact r.inj r'
end
abbrev Cx.zf(X:Cx)(E:VP):Cx:={X with xe:=E}
abbrev Cx.nox(X:Cx):Cx:=X.zf λ _ _=>False
theorem Cx.Ok.zf{X:Cx}(ok:X.Ok)(E:VP):(X.zf E).Ok:=
 ⟨ok.mod,ok.kind,ok.glob,ok.blt,ok.above,ok.inj,ok.has,ok.cab,ok.hd,ok.frames,ok.stk,ok.exf,ok.bs,ok.bsz,ok.noex,ok.exfs,ok.qo,ok.frf⟩
theorem Cx.Ok.jl{X:Cx}{E:VP}(ok:(X.zf E).Ok):X.Ok:=
 ⟨ok.mod,ok.kind,ok.glob,ok.blt,ok.above,ok.inj,ok.has,ok.cab,ok.hd,ok.frames,ok.stk,ok.exf,ok.bs,ok.bsz,ok.noex,ok.exfs,ok.qo,ok.frf⟩
section
variable {X:Cx}{pins:PN}{σ:St}{H:Hp}{s:Shared}{E:VP}
theorem Inv.zf(I:Inv X pins σ H s)(E:VP):Inv (X.zf E) pins σ H s:=⟨I.ok.zf E,I.os,I.bare,I.base,I.loc,I.cell,I.free,I.freeC,I.pin,I.hok,I.len⟩
theorem Inv.jl(I:Inv (X.zf E) pins σ H s):Inv X pins σ H s:=⟨I.ok.jl,I.os,I.bare,I.base,I.loc,I.cell,I.free,I.freeC,I.pin,I.hok,I.len⟩
theorem SP.jl{D:Ends}{f:Flow}{s':Shared}(h:SP (X.zf E) pins D f s'):SP X pins D f s':=by
 cases f with
 | next=>obtain⟨σ',H',I,q⟩:=h;exact⟨σ',H',I.jl,q⟩
 | brk=>obtain⟨σ',H',I,q⟩:=h;exact⟨σ',H',I.jl,q⟩
 | cont=>obtain⟨σ',H',I,q⟩:=h;exact⟨σ',H',I.jl,q⟩
 | ret u=>obtain⟨v,σ',H',I,r,q⟩:=h;exact⟨v,σ',H',I.jl,r,q⟩
theorem PSs.nox{st:List Stmt}{t:TS}(h:PSs X.nox st t):PSs X st t:=λ pins s σ H D I hw =>
 wpAny_mono (h pins s σ H D (I.zf _) hw) (λ _ _ q=>q.jl) λ _ _ z=>False.elim z
end
section
variable {X:Cx}{st:Stmt}{rest:List Stmt}{t u:TS}{e:Expr}{te:TE}{pos:Pos}
def aiu:TS:=λ D σ H=>D.nx σ H
def ajm(t u:TS):TS:=λ D σ H=>t {D with nx:=u D} σ H
theorem acp:PSs X [] aiu:=λ _ _ σ H _ I h=>wpAny_execs_nil ⟨σ,H,I,h⟩
theorem aaC(h1:PS X st t)(h2:PSs X rest u):PSs X (st::rest) (ajm t u):=by
 intro pins s σ H D I h;refine wpAny_execs_cons (thn (h1 pins s σ H {D with nx:=u D} I h) λ f s1 q=>?_);cases f with
 | next =>
  obtain⟨σ',H',I',q⟩:=q;exact h2 pins s1 σ' H' D I' q
 | ret v=>exact q
 | brk=>exact q
 | cont=>exact q
theorem acj(h1:PS X st t):PSs X [st] t:=by
 intro pins s σ H D I h;refine wpAny_execs_cons (thn (h1 pins s σ H D I h) λ f s1 q=>?_);cases f with
 | next=>exact wpAny_execs_nil q
 | ret v=>exact q
 | brk=>exact q
 | cont=>exact q
theorem Inv.quiet{pins:PN}{σ:St}{H:Hp}{s:Shared}(I:Inv X pins σ H s):interactive X.env=false:=by simp[interactive,I.ok.kind]
def aia(te:TE):TS:=λ D σ H=>te σ H λ _ H1=>D.nx σ H1
theorem adm(he:PE X e te)(hs:swapsWith e none pos.line X.env=pure false:=by rfl):PS X (.Expr e pos) (aia te):=by intro pins s σ H D I h;exact wpAny_Expr_any (thn (he pins s σ H _ I h) λ v s1 ⟨x,H1,I1,r1,q1⟩=>⟨σ,H1,I1,q1⟩) I.quiet hs
def ajb(te:TE):TS:=λ D σ H=>te σ H D.rt
theorem afu(he:PE X e te):PS X (.Return (some e) pos) (ajb te):=by intro pins s σ H D I h;exact wpAny_Return_some (thn (he pins s σ H _ I h) λ v s1 ⟨x,H1,I1,r1,q1⟩=>⟨x,σ,H1,I1,r1,q1⟩)
def ajB(c:TT)(t u:TS):TS:=λ D σ H=>c σ H λ b H1=>if b=true then t D σ H1 else u D σ H1
theorem ahU{c:Expr}{a b:List Stmt}{tc:TT}(hc:PT X c tc)(ha:PSs X a t)(hb:PSs X b u):PS X (.If c a b pos) (ajB tc t u):=by
 intro pins s σ H D I h;refine wpAny_If (thn (hc pins s σ H _ I h) λ d s1 hq5=>?_);obtain⟨H1,I1,q1⟩:=hq5;cases d with
 | true=>exact ha pins s1 σ H1 D I1 q1
 | false=>exact hb pins s1 σ H1 D I1 q1
end
abbrev TG:=V->St->Hp->(St->Hp->Prop)->Prop
abbrev TGs:=List V->St->Hp->(St->Hp->Prop)->Prop
def PG(X:Cx)(target:Expr)(t:TG):Prop:=
 ∀ (pins:PN) (s:Shared) (σ:St) (H:Hp) (v:V) (u:Value) (Q:St->Hp->Prop),Inv X pins σ H s->RelV v u->t v σ H Q ->
  wpAny (model X.prog X.w) X.A (assign target X.env u) (λ _ s'=>∃ σ' H',Inv X pins σ' H' s'/\Q σ' H') X.xe s
def PGs(X:Cx)(ts:List Expr)(t:TGs):Prop:=
 ∀ (pins:PN) (s:Shared) (σ:St) (H:Hp) (vs:List V) (us:List Value) (Q:St->Hp->Prop),Inv X pins σ H s->Vals vs us->t vs σ H Q ->
  wpAny (model X.prog X.w) X.A (assignInOrder ((assignEach ts X.env).map (·.2)) us) (λ _ s'=>∃ σ' H',Inv X pins σ' H' s'/\Q σ' H') X.xe s
abbrev af8:=V->V->V->Hp->(Hp->Prop)->Prop
def ahD(X:Cx)(t:af8):Prop:=
 ∀ (pins:PN) (s:Shared) (σ:St) (H:Hp) (o i v:V) (ov iv u:Value) (Q:Hp->Prop),Inv X pins σ H s->RelV o ov->RelV i iv->RelV v u->t o i v H Q ->
  wpAny (model X.prog X.w) X.A (setItem ov iv u) (λ _ s'=>∃ H',Inv X pins σ H' s'/\Q H') X.xe s
abbrev TIp:=V->V->Hp->VK->Prop
def PIp(X:Cx)(op:Operator)(t:TIp):Prop:=
 ∀ (pins:PN) (s:Shared) (σ:St) (H:Hp) (x y:V) (v u:Value) (Q:VK),Inv X pins σ H s->RelV x v->RelV y u->t x y H Q ->
  wpAny (model X.prog X.w) X.A (inplaceOp op v u) (EP X pins σ Q) X.xe s
section
variable {X:Cx}{pos:Pos}
def adk(i:Nat):TG:=λ v σ H Q=>Q (σ.set i (some v)) H
theorem xt{i:Nat}{x:Str}(hN:X.N.Nodup)(hi:X.N[i]? =some x)(hx:Loc X.env.scope x)(hf:X.fn x=true\/X.env.scope.names.lookup x=some .local:=by first | exact .inl rfl | exact .inr rfl | assumption):PG X (.Name x pos) (adk i):=by intro pins s σ H v u Q I r h;exact wpAny_assign_Name (nB I hN hi hx r (λ s' I'=>⟨_,H,I',h⟩) hf)
def ajc:TGs:=λ vs σ H Q=>vs=[]/\Q σ H
def aib(t:TG)(u:TGs):TGs:=λ vs σ H Q=>∃ v r,vs=v::r/\t v σ H λ σ' H'=>u r σ' H' Q
theorem adP:PGs X [] ajc:=by intro pins s σ H vs us Q I r h;obtain⟨e,h⟩:=h;subst e;cases r;exact assignInOrder_nil ⟨σ,H,I,h⟩
theorem zA{e:Expr}{es:List Expr}{t:TG}{u:TGs}(h1:PG X e t)(h2:PGs X es u)
  (hs:(assignEach (e::es) X.env).map (·.2)=assign e X.env::(assignEach es X.env).map (·.2):=by rfl):PGs X (e::es) (aib t u):=by
 intro pins s σ H vs us Q I r h;obtain⟨v,vr,e1,h⟩:=h;subst e1;cases r with
 | cons r rr =>
  rw[hs];refine assignInOrder_cons (thn (h1 pins s σ H _ _ _ I r h) λ _ s1 hq6=>?_);obtain⟨σ1,H1,I1,q1⟩:=hq6;exact h2 pins s1 σ1 H1 _ _ Q I1 rr q1
def ai9(K:FG)(n:Nat)(t:TGs):TG:=λ v σ H Q=>∃ a xs,v=.ref a/\SqT K H a xs/\xs.length=n/\t xs σ H Q
theorem abn{es:List Expr}{k:Nat}{t:TGs}{n:Nat}(hc:X.calm=true)(h:PGs X es t)
  (hn:(assignEach es X.env).length=n:=by rfl)(hst:(assignEach es X.env).findIdx? (·.1)=none:=by rfl):PG X (.Tuple es k pos) (ai9 X.K n t):=by
 intro pins s σ H v u Q I r hw;obtain⟨a,xs,e1,hq,hl,hw⟩:=hw;subst e1;cases r;obtain⟨its,rv,ht,hz⟩:=I.tuple hq;refine assign_Tuple_tuple (I.ok.hd hc) ht (by simp[hn,<- hl,rv.length]) hst λ h' hx=>?_;have I1:Inv X pins σ H {s with heap:=h'}:=I.kept (t':=s.toks) λ b o e=>hx b o (Nat.ne_of_lt (Heap.lt_size e)) e;exact h pins _ σ H xs _ Q I1 (by simpa using rv) hw
def ajn(to ti:TE)(t:af8):TG:=λ v σ H Q=>to σ H λ o H1=>ti σ H1 λ i H2=>t o i v H2 λ H3=>Q σ H3
theorem aeU{o i:Expr}{to ti:TE}{t:af8}(ho:PE X o to)(hi:PE X i ti)(hs:ahD X t)
  (ha:∀ v,assign (.Subscript o i pos) X.env v=(do
   let ov <- holding [v] (eval o X.env)
   let iv <- holding [v,ov] (eval i X.env)
   standAt pos
   holding [v,ov,iv] (setItem ov iv v)
   release [v,ov,iv] []):=by intro _;rfl):PG X (.Subscript o i pos) (ajn to ti t):=by
 intro pins s σ H v u Q I r h;rw[ha];refine wpAny_bind (wpAny_holding (thn (ho pins s σ H _ I h) λ ov s1 hq7=>?_));obtain⟨x,H1,I1,r1,q1⟩:=hq7;refine wpAny_bind (wpAny_holding (thn (hi pins s1 σ H1 _ I1 q1) λ iv s2 hq8=>?_));obtain⟨y,H2,I2,r2,q2⟩:=hq8;refine wpAny_bind (wpAny_standAt (wpAny_bind (wpAny_holding (thn (hs pins s2 σ H2 x y v ov iv u _ I2 r1 r2 r q2) λ _ s3 hq9=>?_))));obtain⟨H3,I3,q3⟩:=hq9;exact wpAny_release ⟨σ,H3,I3,q3⟩
def ahj(te:TE)(g:TG):TS:=λ D σ H=>te σ H λ x H1=>g x σ H1 D.nx
theorem abC{tg e:Expr}{te:TE}{g:TG}(he:PE X e te)(hg:PG X tg g)(hs:swapsWithSole [tg] e pos.line X.env=pure false:=by rfl)(hw:swappedStores [tg] e X.env=pure none:=by rfl)
  (h1:(assignEach [tg] X.env).map (·.2)=[assign tg X.env]:=by rfl):PS X (.Assign [tg] e pos) (ahj te g):=by
 intro pins s σ H D I h;refine wpAny_Assign_stores (thn (he pins s σ H _ I h) λ v s1 ⟨x,H1,I1,r1,q1⟩=>?_) hs hw;rw[h1];exact thn (hg pins s1 σ H1 x v _ I1 r1 q1) λ _ s2 q=>q
theorem afa{i:Nat}{x:Str}{e:Expr}{te:TE}{pos':Pos}(hN:X.N.Nodup)(hi:X.N[i]? =some x)(hx:Loc X.env.scope x)(he:PE X e te)(hs:swapsWith e (some (.Name x pos')) pos.line X.env=pure false:=by rfl)(hf:X.fn x=true\/X.env.scope.names.lookup x=some .local:=by first | exact .inl rfl | exact .inr rfl | assumption) :
  PS X (.Assign [.Name x pos'] e pos) (ahj te (adk i)):=by
 intro pins s σ H D I h;refine wpAny_Assign_Name (thn (he pins s σ H _ I h) λ v s1 ⟨y,H1,I1,r1,q1⟩=>?_) hs;exact nB I1 hN hi hx r1 (λ s2 I2=>⟨_,H1,I2,q1⟩) hf
def ajw(i:Nat)(te:TE)(ti:TIp):TS:=λ D σ H=>∃ x,σ[i]? =some (some x)/\te σ H λ y H1=>ti x y H1 λ z H2=>D.nx (σ.set i (some z)) H2
theorem afH{i:Nat}{x:Str}{e:Expr}{te:TE}{op:Operator}{ti:TIp}{pos':Pos}(hN:X.N.Nodup)(hi:X.N[i]? =some x)(hx:Loc X.env.scope x)(he:PE X e te)(ho:PIp X op ti)(hf:X.fn x=true\/X.env.scope.names.lookup x=some .local:=by first | exact .inl rfl | exact .inr rfl | assumption) :
  PS X (.AugAssign (.Name x pos') op e pos) (ajw i te ti):=by
 intro pins s σ H D I h;obtain⟨v,e1,h⟩:=h;obtain⟨m,hn,hl⟩:=I.loc;have vis:Vis X.env.scope x:=by rcases hx with k | k;exact .inl k;exact .inr (.inl k)
 obtain⟨u,r,l⟩:=hl i x v hi e1 vis;refine wpAny_AugAssign_Name ?_;have go:wpAny (model X.prog X.w) X.A (eval e X.env) (λ w s₂=>wpAny (model X.prog X.w) X.A (inplaceOp op u w) (λ r s₃=>wpAny (model X.prog X.w) X.A (storeName X.env x r) (λ _=>SP X pins D .next) X.xe s₃) X.xe s₂) X.xe s:=by refine thn (he pins s σ H _ I h) λ w s1 hq10=>?_;obtain⟨y,H1,I1,r1,q1⟩:=hq10;refine thn (ho pins s1 σ H1 v y u w _ I1 r r1 q1) λ z s2 hq11=>?_;obtain⟨zv,H2,I2,r2,q2⟩:=hq11;exact nB I2 hN hi hx r2 (λ s3 I3=>⟨_,H2,I3,q2⟩) hf
 rcases l with ⟨hk,hm⟩ | ⟨hk,c,hc,hcell⟩
 ·exact wpAny_loadName_local I.ok.kind hk hn hm go
 ·rcases hk with hk | hk
  ·exact wpAny_loadName_cell I.ok.kind hk hc hcell go
  ·rcases hx with k | k
   ·have:X.env.scope.names.lookup x=some .free:=hk;rw[k] at this;cases this
   ·have:X.env.scope.names.lookup x=some .free:=hk;rw[k] at this;cases this
def ahZ(to ti te:TE)(iQ:V->V->Hp->VK->Prop)(tip:TIp)(tset:af8):TS:=λ D σ H=>to σ H λ o H1=>ti σ H1 λ i H2=>iQ o i H2 λ x H3=>te σ H3 λ y H4=>tip x y H4 λ z H5=>tset o i z H5 λ H6=>D.nx σ H6
def ai0(X:Cx)(t:V->V->Hp->VK->Prop):Prop:=
 ∀ (pins:PN) (s:Shared) (σ:St) (H:Hp) (o i:V) (ov iv:Value) (Q:VK),Inv X pins σ H s->RelV o ov->RelV i iv->t o i H Q ->
  wpAny (model X.prog X.w) X.A (getItem ov iv) (EP X pins σ Q) X.xe s
theorem adg{o i e:Expr}{to ti te:TE}{iQ:V->V->Hp->VK->Prop}{tip:TIp}{tset:af8}{op:Operator}{tpos:Pos}(ho:PE X o to)(hi:PE X i ti)(hg:ai0 X iQ)(he:PE X e te)(hp:PIp X op tip)(hs:ahD X tset)
  (ha:∀ ov iv new,augStore i ov iv new=(do holding [new,ov,iv] (setItem ov iv new);release [new,ov,iv] [];pure .next):=by intros;rfl):PS X (.AugAssign (.Subscript o i tpos) op e pos) (ahZ to ti te iQ tip tset):=by
 intro pins s σ H D I h;refine wpAny_AugAssign_SubscriptAny (thn (ho pins s σ H _ I h) λ ov s1 ⟨x1,H1,I1,r1,q1⟩=>?_) ha;refine thn (hi pins s1 σ H1 _ I1 q1) λ iv s2 hq12=>?_;obtain⟨x2,H2,I2,r2,q2⟩:=hq12;refine thn (hg pins s2 σ H2 x1 x2 ov iv _ I2 r1 r2 q2) λ old s3 hq13=>?_;obtain⟨x3,H3,I3,r3,q3⟩:=hq13;refine thn (he pins s3 σ H3 _ I3 q3) λ v s4 hq14=>?_;obtain⟨x4,H4,I4,r4,q4⟩:=hq14;refine thn (hp pins s4 σ H4 x3 x4 old v _ I4 r3 r4 q4) λ new s5 hq15=>?_;obtain⟨x5,H5,I5,r5,q5⟩:=hq15;exact thn (hs pins s5 σ H5 x1 x2 x5 ov iv new _ I5 r1 r2 r5 q5) λ _ s6 ⟨H6,I6,q6⟩=>⟨σ,H6,I6,q6⟩
def ipI(f:Int->Int->Int):TIp:=λ x y H Q=>∃ i j,x=.int i/\y=.int j/\Q (.int (f i j)) H
theorem abh:PIp X .Add (ipI λ i j=>i+j):=by intro pins s σ H x y v u Q I r1 r2 h;obtain⟨i,j,e1,e2,q⟩:=h;subst e1;subst e2;obtain⟨t,rfl⟩:=r1;obtain⟨t',rfl⟩:=r2;exact iadd_int ⟨.int _,H,I.tok _,⟨_,rfl⟩,q⟩
end
section
variable {X:Cx}{pos:Pos}
def af5(c:TT)(tb:TS):TS:=λ D σ H=>∃ W:Nat->St->Hp->Prop,(∃ m,W m σ H)/\∀ m σ H,W m σ H ->
 c σ H λ b H1=>if b=true then ∃ N:St->Hp->Prop,(∀ σ' H',N σ' H'->∃ m',m'<m/\W m' σ' H')/\tb {D with nx:=N,ct:=N,bk:=D.nx} σ H1 else D.nx σ H1
theorem aam{c:Expr}{body:List Stmt}{tc:TT}{tb:TS}(hp:PassesOwn (model X.prog X.w) X.A X.env X.xe)(hc:PT X c tc)(hb:PSs X body tb):PS X (.While c body [] pos) (af5 tc tb):=by
 intro pins s σ H D I h;obtain⟨W,⟨m0,w0⟩,turn⟩:=h;refine wpAny_While (codeAny_whileLoop (λ n s'=>∃ σ' H',Inv X pins σ' H' s'/\W n σ' H') ?_ m0 ⟨σ,H,I,w0⟩);rintro n s1 ⟨σ1,H1,I1,w1⟩;refine wpAny_passesOwn hp (thn (hc pins s1 σ1 H1 _ I1 (turn n σ1 H1 w1)) λ b s2 hq16=>?_);obtain⟨H2,I2,q2⟩:=hq16;cases b with
 | true =>
  obtain⟨N,hN,q2⟩:=q2;rw[if_pos rfl];refine wpAny_passesOwn hp (thn (hb pins s2 σ1 H2 _ I2 q2) λ f s3 q3=>?_);cases f with
  | next =>
   obtain⟨σ3,H3,I3,n3⟩:=q3;obtain⟨m',hm,w3⟩:=hN σ3 H3 n3;exact⟨m',hm,σ3,H3,I3,w3⟩
  | cont =>
   obtain⟨σ3,H3,I3,n3⟩:=q3;obtain⟨m',hm,w3⟩:=hN σ3 H3 n3;exact⟨m',hm,σ3,H3,I3,w3⟩
  | brk=>exact q3
  | ret v=>exact q3
 | false =>
  rw[if_neg Bool.false_ne_true];exact wpAny_execs_nil ⟨σ1,H2,I2,q2⟩
end
structure It where
 go:Nat->Hp->Prop
 yld:Nat->Hp->V->Hp->Prop
 stop:Nat->Hp->Prop
def jm(X:Cx)(pins:PN)(H:Hp)(b:Addr):Prop:=
 H b=none/\b≠X.env.locals/\b ∉ X.fs/\(b∈X.ex\/X.s₀.heap.objs.size<=b)/\(∀ x c,X.env.cells.lookup x=some c->c≠b)/\∀ p∈X.pn++pins,p.1≠b
theorem Inv.n4{X:Cx}{pins:PN}{σ:St}{H H':Hp}{s:Shared}{b:Addr}(I:Inv X pins σ H s)(hb:s.heap.objs.size<=b)(hn:H' b=none):jm X pins H' b:=by
 refine⟨hn,Nat.ne_of_gt (Nat.lt_of_lt_of_le I.lt hb),I.ahE hb,.inr (Nat.le_trans I.sz hb),λ x c e z=>?_,λ p hp z=>?_⟩
 ·obtain⟨v,q⟩:=I.cell x c e;exact absurd (Nat.lt_of_lt_of_le q.lt (by rw[z];exact hb)) (Nat.lt_irrefl _)
 ·exact absurd (Nat.lt_of_lt_of_le (Heap.lt_size (I.pin p hp).1) (by rw[z];exact hb)) (Nat.lt_irrefl _)
structure Turn(P:Program)(w:World)(K:FG)(tg:Expr)(J:It)(fp:List Addr)(it:Addr)(tn:Nat->Heap->Prop):Prop where
 mem:it∈fp
 obj:∀ i h,tn i h->∀ b∈fp,∃ o,h.get? b=some o/\∀ v,o.data ≠ .cell v
 keep:∀ i h h',tn i h->(∀ b∈fp,∀ o,h.get? b=some o->h'.get? b=some o)->tn i h'
 item:∀ (X:Cx),X.prog=P->X.w=w->X.K=K->X.calm=true->∀ (i:Nat) (pins:PN) (s:Shared) (σ:St) (H:Hp) (E:VP),Inv X pins σ H s->(∀ b∈fp,jm X pins H b)->tn i s.heap->J.go i H ->
  wpAny (model P w) X.A (pyNext (.ref it)) (λ r s1=>∃ u,r=some u /\
   wpAny (model P w) X.A (letOwnedTupleGo tg (.ref it) u) (λ _ s2=>∃ x H',Inv X pins σ H' s2/\RelV x u/\J.yld i H x H'/\tn (i+1) s2.heap/\∀ b∈fp,H' b=none) E s1) E s
 done:∀ (X:Cx),X.prog=P->X.w=w->X.K=K->X.calm=true->∀ (i:Nat) (pins:PN) (s:Shared) (σ:St) (H:Hp) (E:VP),Inv X pins σ H s->(∀ b∈fp,jm X pins H b)->tn i s.heap->J.stop i H ->
  wpAny (model P w) X.A (pyNext (.ref it)) (λ r s1=>r=none/\Inv X pins σ H s1) E s
 self:∀ (A:Around) (i:Nat) (s:Shared) (Q:VP) (E:VP),tn i s.heap->Q (.ref it) s->wpAny (model P w) A (pyIter (.ref it)) Q E s
abbrev TI:=St->Hp->(It->Hp->Prop)->Prop
def PIE(X:Cx)(pins:PN)(σ:St)(tg:Expr)(R:It->Hp->Prop)(itv:Value)(s2:Shared):Prop:=
 ∃ (it:Addr) (fp:List Addr) (tn:Nat->Heap->Prop) (J:It) (H':Hp),itv=.ref it/\Inv X pins σ H' s2/\Turn X.prog X.w X.K tg J fp it tn/\tn 0 s2.heap/\(∀ b∈fp,jm X pins H' b)/\R J H'
def PI(X:Cx)(tg iter:Expr)(wi:TI):Prop:=
 ∀ (pins:PN) (s:Shared) (σ:St) (H:Hp) (R:It->Hp->Prop),Inv X pins σ H s->wi σ H R ->
  wpAny (model X.prog X.w) X.A (eval iter X.env) (λ v s1=>wpAny (model X.prog X.w) X.A (pyIter v) (PIE X pins σ tg R) X.xe s1) X.xe s
theorem qi{M:Model}{A:Around}{E:VP}{s:Shared}{tg:Expr}{it:Addr}{u:Value}{o:Obj}{n:String}{vs:Array Value}{Q:Unit->Shared->Prop}(ho:s.heap.get? it=some o)(hc:o.cls=.type n)(hd:o.data=.fields vs)
  (hn:["enumerate", "zip", "dict_itemiterator", "dict_reverseitemiterator", "odict_iterator", "itertools.zip_longest", "itertools.pairwise"].contains n=false)(hQ:Q () s):wpAny M A (letOwnedTupleGo tg (.ref it) u) Q E s:=by
 unfold letOwnedTupleGo;cases tg<;>first
  | exact wpAny_pure hQ
  | (cases u<;>first
    | exact wpAny_pure hQ
    | (refine wpAny_bind (wpAny_load ho ?_)
       rw[hc,hd];show wpAny M A (if (["enumerate", "zip", "dict_itemiterator", "dict_reverseitemiterator", "odict_iterator", "itertools.zip_longest", "itertools.pairwise"].contains n&&vs[0]? == some (rawInt _))=true then _ else _) Q E s;rw[if_neg (by intro h;rw[hn,Bool.false_and] at h;cases h)];exact wpAny_pure hQ))
def Itl(K:FG)(a:Addr):It:=
 ⟨λ i H=>∃ xs x,SqL K H a xs/\xs[i]? =some x,λ i H x H'=>H'=H/\∀ xs,SqL K H a xs->xs[i]? =some x,λ i H=>∃ xs,SqL K H a xs/\xs.length<=i⟩
def Itt(K:FG)(a:Addr):It:=
 ⟨λ i H=>∃ xs x,SqT K H a xs/\xs[i]? =some x,λ i H x H'=>H'=H/\∀ xs,SqT K H a xs->xs[i]? =some x,λ i H=>∃ xs,SqT K H a xs/\xs.length<=i⟩
def Itr(lo:Int)(n:Nat):It:=⟨λ i _=>i<n,λ i H x H'=>H'=H/\x=.int (lo+i),λ i _=>n<=i⟩
theorem vR{P:Program}{w:World}{K:FG}{tg:Expr}(a it:Addr):Turn P w K tg (Itl K a) [it] it (λ i h=>h.IsListIter it a i) where
 mem:=by simp
 obj:=λ i h st b hb=>by
  have e:b=it:=by simpa using hb
  subst e;obtain⟨o,e,c,d⟩:=st;exact⟨o,e,λ v z=>by rw[d] at z;cases z⟩
 keep:=λ i h h' st k=>st.at λ o e=>k it (by simp) o e
 item:=by intro X hP hw hK hc i pins s σ H E I hf st hg;subst hP hw hK;obtain⟨xs,x,hq,hx⟩:=hg;obtain⟨its,rv,p,hz⟩:=I.list hq;obtain⟨u,hu,ru⟩:=rv.get hx;obtain⟨f0,f1,f2,f3,f4,f5⟩:=hf it (by simp);refine wpAny_pyNext_list_item st p.isList (x:=u) (by simpa using hu) λ h' st' sb=>?_;have I1:Inv X pins σ H {s with heap:=h'}:=I.turned (t':=s.toks) (λ b o hb e=>(sb.2 b hb).trans e) f0 f1 f3 f4 f5;obtain⟨o,e,c,d⟩:=id st';exact⟨u,rfl,qi (s:={s with heap:=h'}) e c d (by decide) ⟨x,H,I1,ru,⟨rfl,λ ys hy=>by rw[I.rZ hy hq];exact hx⟩,st',λ b hb=>(hf b hb).1⟩⟩
 done:=by intro X hP hw hK hc i pins s σ H E I hf st hg;subst hP hw hK;obtain⟨xs,hq,hx⟩:=hg;obtain⟨its,rv,p,hz⟩:=I.list hq;obtain⟨f0,f1,f2,f3,f4,f5⟩:=hf it (by simp);have hl:=rv.length;exact wpAny_pyNext_list_end (I.ok.hd hc) st p.isList (by simp;omega) λ h' eb=>⟨rfl,I.turned (t':=s.toks) (λ b o hb e=>eb b o hb e) f0 f1 f3 f4 f5⟩
 self:=λ _ _ _ _ _ st h=>wpAny_pyIter_listiter st h
theorem tX{P:Program}{w:World}{K:FG}{tg:Expr}(a it:Addr):Turn P w K tg (Itt K a) [it] it (λ i h=>h.IsTupleIter it a i) where
 mem:=by simp
 obj:=λ i h st b hb=>by
  have e:b=it:=by simpa using hb
  subst e;obtain⟨o,e,c,d⟩:=st;exact⟨o,e,λ v z=>by rw[d] at z;cases z⟩
 keep:=λ i h h' st k=>st.at λ o e=>k it (by simp) o e
 item:=by intro X hP hw hK hc i pins s σ H E I hf st hg;subst hP hw hK;obtain⟨xs,x,hq,hx⟩:=hg;obtain⟨its,rv,p,hz⟩:=I.tuple hq;obtain⟨u,hu,ru⟩:=rv.get hx;obtain⟨f0,f1,f2,f3,f4,f5⟩:=hf it (by simp);refine wpAny_pyNext_tuple_item st (show s.heap.IsTuple a its.toArray from p) (x:=u) (by simpa using hu) λ h' st' sb=>?_;have I1:Inv X pins σ H {s with heap:=h'}:=I.turned (t':=s.toks) (λ b o hb e=>(sb.2 b hb).trans e) f0 f1 f3 f4 f5;obtain⟨o,e,c,d⟩:=id st';exact⟨u,rfl,qi (s:={s with heap:=h'}) e c d (by decide) ⟨x,H,I1,ru,⟨rfl,λ ys hy=>by rw[I.xP hy hq];exact hx⟩,st',λ b hb=>(hf b hb).1⟩⟩
 done:=by intro X hP hw hK hc i pins s σ H E I hf st hg;subst hP hw hK;obtain⟨xs,hq,hx⟩:=hg;obtain⟨its,rv,p,hz⟩:=I.tuple hq;obtain⟨f0,f1,f2,f3,f4,f5⟩:=hf it (by simp);have hl:=rv.length;exact wpAny_pyNext_tuple_end (I.ok.hd hc) st (show s.heap.IsTuple a its.toArray from p) (by simp;omega) λ h' eb=>⟨rfl,I.turned (t':=s.toks) (λ b o hb e=>eb b o hb e) f0 f1 f3 f4 f5⟩
 self:=λ _ _ _ _ _ st h=>wpAny_pyIter_tupleiter st h
theorem uK{P:Program}{w:World}{K:FG}{tg:Expr}(it:Addr)(lo:Int)(n:Nat):Turn P w K tg (Itr lo n) [it] it (λ i h=>IsRangeIter h it (lo+(i:Nat) * 1) ((n:Int)-(i:Nat)) 1) where
 mem:=by simp
 obj:=λ i h st b hb=>by
  have e:b=it:=by simpa using hb
  subst e;exact⟨_,st,λ v z=>by have z':Data.fields _=Data.cell v:=z;cases z'⟩
 keep:=λ i h h' st k=>k it (by simp) _ st
 item:=by intro X hP hw hK hc i pins s σ H E I hf st hg;subst hP hw hK;obtain⟨f0,f1,f2,f3,f4,f5⟩:=hf it (by simp);have W:=Walks.range (prog:=X.prog) (w:=X.w) (I.ok.hd hc) it lo 1 n;refine W.item i s _ _ hg st λ v h' tk hv st' kk=>?_;obtain⟨t,rfl⟩:=hv;have I1:Inv X pins σ H {s with heap:=h',toks:=tk}:=I.turned (λ b o hb e=>kk b o (by simpa using hb) e) f0 f1 f3 f4 f5;refine⟨_,rfl,qi (s:={s with heap:=h',toks:=tk}) (n:= "range_iterator") st' rfl rfl (by decide) ⟨.int (lo+i),H,I1,⟨t,?_⟩,⟨rfl,rfl⟩,st',λ b hb=>(hf b hb).1⟩⟩;rw[Int.mul_one]
 done:=by intro X hP hw hK hc i pins s σ H E I hf st hg;subst hP hw hK;obtain⟨f0,f1,f2,f3,f4,f5⟩:=hf it (by simp);exact wpAny_pyNext_range_end (I.ok.hd hc) st (by have:n<=i:=hg;omega) λ h' eb=>⟨rfl,I.turned (t':=s.toks) (λ b o hb e=>eb b o hb e) f0 f1 f3 f4 f5⟩
 self:=λ _ _ _ _ _ st h=>wpAny_pyIter_rangeiter st h
section
variable {X:Cx}{tg:Expr}
theorem zL{pins:PN}{σ:St}{H:Hp}{s:Shared}{R:It->Hp->Prop}{E:VP}{lo hi:Int}{t u v:Tok}{tk:Nat}(I:Inv X pins σ H s)(h1:-(2 ^ 62)<=lo)(h2:lo<2 ^ 62)(h3:-(2 ^ 62)<=hi)(h4:hi<2 ^ 62)
  (q:R (Itr lo (hi-lo).toNat) H):wpAny (model X.prog X.w) X.A (pyIter (.ref s.heap.objs.size)) (PIE X pins σ tg R) E {s with heap:=s.heap.push {cls:=.type "range",data:=.fields #[.int lo t,.int hi u,.int 1 v]},toks:=tk}:=by
 refine wpAny_pyIter_range (IsRange.new ..) (small_one h1 h2 h3 h4) ?_;have I1:Inv X pins σ H {s with heap:=s.heap.push {cls:=.type "range",data:=.fields #[.int lo t,.int hi u,.int 1 v]},toks:=tk}:=I.kept λ b o e=>Heap.get?_push_of_some _ e;refine⟨(s.heap.push {cls:=.type "range",data:=.fields #[.int lo t,.int hi u,.int 1 v]}).objs.size,[(s.heap.push {cls:=.type "range",data:=.fields #[.int lo t,.int hi u,.int 1 v]}).objs.size],_,_,H,rfl,
  I1.kept (t':=tk) λ b o e=>Heap.get?_push_of_some _ e,uK _ lo (hi-lo).toNat,?_,λ b hb=>?_,q⟩
 ·have e1:lo+((0:Nat):Int) * 1=lo:=by simp
  have e2:(((hi-lo).toNat:Nat):Int)-((0:Nat):Int)=Builtin.Range.rangeSize lo hi 1:=by rw[rangeSize_one];split<;>omega
  show IsRangeIter _ _ (lo+((0:Nat):Int) * 1) ((((hi-lo).toNat:Nat):Int)-((0:Nat):Int)) 1;rw[e1,e2];exact Heap.get?_push_size _ rfl
 ·have e:b=(s.heap.push {cls:=.type "range",data:=.fields #[.int lo t,.int hi u,.int 1 v]}).objs.size:=by simpa using hb
  subst e;exact I1.n4 (Nat.le_refl _) (I1.hok.fresh (Nat.le_refl _))
def ah2(ta:TA):TI:=λ σ H R=>ta σ H λ vs H1=>∃ j:Int,vs=[.int j]/\-(2 ^ 62)<=j/\j<2 ^ 62/\R (Itr 0 j.toNat) H1
theorem yc{a:Expr}{ta:TA}{p pos:Pos}(hg:Gl X "range")(hm:X.mg "range" = none)(ha:PA X [a] ta)(hs:starEach [a] X.env=[(false,eval a X.env)]:=by rfl):PI X tg (.Call (.Name "range" p) [a] [] pos) (ah2 ta):=by
 intro pins s σ H R I h;refine Call_ (eP I hg hm boot_range (PyProof.Rows.callWith_type1 (thn (ha pos pins s σ H _ I h) λ us s1 ⟨vs,H1,I1,r1,q1⟩=>?_) hs rfl));obtain⟨j,e,q1,q2,q⟩:=q1;subst e;cases r1 with
 | cons r rr =>
  cases rr;obtain⟨t,rfl⟩:=r;exact call_range_1 (zL I1 (by omega) (by omega) q1 q2 (by simpa using q))
def ajA(wi:TI)(g:TG)(tb:TS):TS:=λ D σ H=>wi σ H λ J H1=>∃ W:Nat->Nat->St->Hp->Prop,(∃ m,W 0 m σ H1)/\∀ i m σ H,W i m σ H ->
 (J.stop i H/\D.nx σ H)\/(J.go i H/\∃ N:St->Hp->Prop,(∀ σ' H',N σ' H'->∃ m',m'<m/\W (i+1) m' σ' H')/\∀ x H',J.yld i H x H'->g x σ H' λ σ2 H2=>tb {D with nx:=N,ct:=N,bk:=D.nx} σ2 H2)
def iO(fp:List Addr)(h:Heap):PN:=fp.filterMap λ b=>(h.get? b).map λ o=>(b,o)
theorem cL{fp:List Addr}{h:Heap}{b:Addr}{o:Obj}(hb:b∈fp)(e:h.get? b=some o):(b,o)∈iO fp h:=List.mem_filterMap.mpr ⟨b,hb,by rw[e];rfl⟩
theorem wD{fp:List Addr}{h:Heap}{p:Addr×Obj}(hp:p∈iO fp h):p.1∈fp/\h.get? p.1=some p.2:=by
 obtain⟨b,hb,e⟩:=List.mem_filterMap.mp hp;cases q:h.get? b with
 | none=>rw[q] at e;cases e
 | some o =>
  rw[q] at e;have e':(b,o)=p:=Option.some.inj e;subst e';exact⟨hb,q⟩
theorem Inv.pinned{pins:PN}{σ:St}{H:Hp}{s:Shared}{fp:List Addr}(I:Inv X pins σ H s)(hf:∀ b∈fp,jm X pins H b)(ho:∀ b∈fp,∃ o,s.heap.get? b=some o/\∀ v,o.data ≠ .cell v):Inv X (pins++iO fp s.heap) σ H s:=
 I.dh λ p hp=>(List.mem_append.mp hp).elim (λ z=>I.pin p (List.mem_append_right _ z)) λ z=>by obtain⟨hb,e⟩:=wD z;obtain⟨f0,f1,f2,_⟩:=hf p.1 hb;obtain⟨o,e',d⟩:=ho p.1 hb;rw[e] at e';cases e';exact⟨e,f0,f1,f2,d⟩
theorem Inv.jJ{pins pl:PN}{σ:St}{H:Hp}{s:Shared}(I:Inv X (pins++pl) σ H s):Inv X pins σ H s:=I.dh λ p hp=>I.pin p (List.mem_append_right _ (List.mem_append_left _ hp))
theorem aeZ{iter:Expr}{body:List Stmt}{wi:TI}{g:TG}{tb:TS}{pos:Pos}(hp:PassesOwn (model X.prog X.w) X.A X.env X.xe)(hc:X.calm=true)(hi:PI X tg iter wi)(hg:PG X tg g)(hb:PSs X body tb)
  (hs:∀ x,foldedSetIterable iter X.env x=pure x:=by intro _;rfl):PS X (.For tg iter body [] pos) (ajA wi g tb):=by
 intro pins s σ H D I h;refine wpAny_For (thn (hi pins s σ H _ I h) λ v s1 h1=>thn h1 λ itv s2 h2=>?_) hs;obtain⟨it,fp,tn,J,H2,e,I2,T,st2,f2,W,⟨m0,w0⟩,turn⟩:=h2;subst e;have stat:∀ {H':Hp},(∀ b∈fp,H' b=none)->∀ b∈fp,jm X pins H' b:=λ hn b hb=>⟨hn b hb,(f2 b hb).2⟩;refine codeAny_forLoop_any (λ n s'=>∃ i σ' H',Inv X pins σ' H' s'/\tn i s'.heap/\(∀ b∈fp,H' b=none)/\W i n σ' H') ?_ m0 ⟨0,σ,H2,I2,st2,λ b hb=>(f2 b hb).1,w0⟩;rintro n s3 ⟨i,σ3,H3,I3,st3,fr3,w3⟩;rcases turn i n σ3 H3 w3 with ⟨stop,qn⟩ | ⟨go,N,hN,step⟩
 ·refine wpAny_passesOwn hp (thn (T.done X rfl rfl rfl hc i pins s3 σ3 H3 X.xe I3 (stat fr3) st3 stop) λ r s4 ⟨hr,I4⟩=>?_);subst hr;exact wpAny_execs_nil ⟨σ3,H3,I4,qn⟩
 ·refine wpAny_passesOwn hp (thn (T.item X rfl rfl rfl hc i pins s3 σ3 H3 X.xe I3 (stat fr3) st3 go) λ r s4 ⟨u,hr,h4⟩=>?_);subst hr;refine wpAny_passesOwn hp (thn h4 λ _ s5 hq17=>?_);obtain⟨x,H5,I5,r5,y5,st5,fr5⟩:=hq17;have I5':=I5.pinned (stat fr5) (T.obj _ _ st5);refine wpAny_passesOwn hp (thn (hg _ s5 σ3 H5 x u _ I5' r5 (step x H5 y5)) λ _ s6 hq18=>?_);obtain⟨σ6,H6,I6,q6⟩:=hq18;refine wpAny_passesOwn hp (thn (hb _ s6 σ6 H6 _ I6 q6) λ f s7 q7=>?_);have again:∀ {σ7:St} {H7:Hp},Inv X (pins++iO fp s5.heap) σ7 H7 s7->N σ7 H7->∃ m,m<n/\∃ i σ' H',Inv X pins σ' H' s7/\tn i s7.heap/\(∀ b∈fp,H' b=none)/\W i m σ' H':=λ {σ7 H7} I7 n7=>by obtain⟨m',hm,w7⟩:=hN σ7 H7 n7;refine⟨m',hm,i+1,σ7,H7,I7.jJ,T.keep _ _ _ st5 λ b hb o e=>(I7.pin (b,o) (List.mem_append_right _ (List.mem_append_right _ (cL hb e)))).1,λ b hb=>?_,w7⟩;obtain⟨o,e,d⟩:=T.obj _ _ st5 b hb;exact(I7.pin (b,o) (List.mem_append_right _ (List.mem_append_right _ (cL hb e)))).2.1
  cases f with
  | next=>obtain⟨σ7,H7,I7,n7⟩:=q7;exact again I7 n7
  | cont=>obtain⟨σ7,H7,I7,n7⟩:=q7;exact again I7 n7
  | brk=>obtain⟨σ7,H7,I7,q7⟩:=q7;exact⟨σ7,H7,I7.jJ,q7⟩
  | ret v=>obtain⟨x7,σ7,H7,I7,r7,q7⟩:=q7;exact⟨x7,σ7,H7,I7.jJ,r7,q7⟩
end
abbrev R2:=V->V->Hp->VK->Prop
def OpR(X:Cx)(f:Value->Value->Sem Value)(r:R2):Prop:=
 ∀ (pins:PN) (s:Shared) (σ:St) (H:Hp) (x y:V) (v u:Value) (Q:VK),Inv X pins σ H s->RelV x v->RelV y u->r x y H Q ->
  wpAny (model X.prog X.w) X.A (f v u) (EP X pins σ Q) X.xe s
def UnR(X:Cx)(f:Value->Sem Value)(r:V->Hp->VK->Prop):Prop:=
 ∀ (pins:PN) (s:Shared) (σ:St) (H:Hp) (x:V) (v:Value) (Q:VK),Inv X pins σ H s->RelV x v->r x H Q ->
  wpAny (model X.prog X.w) X.A (f v) (EP X pins σ Q) X.xe s
def d6(X:Cx)(f:Value)(r:List V->Hp->VK->Prop):Prop:=
 ∀ (pins:PN) (s:Shared) (σ:St) (H:Hp) (xs:List V) (us:List Value) (Q:VK),Inv X pins σ H s->Vals xs us->r xs H Q ->
  wpAny (model X.prog X.w) X.A (call f us) (EP X pins σ Q) X.xe s
def aje(X:Cx)(r:V->Hp->(Bool->Hp->Prop)->Prop):Prop:=
 ∀ (pins:PN) (s:Shared) (σ:St) (H:Hp) (x:V) (v:Value) (Q:Bool->Hp->Prop),Inv X pins σ H s->RelV x v->r x H Q ->
  wpAny (model X.prog X.w) X.A (truthy v) (TP X pins σ Q) X.xe s
def tOp(r:R2)(ta tb:TE):TE:=λ σ H Q=>ta σ H λ x H1=>tb σ H1 λ y H2=>r x y H2 Q
def tUn(r:V->Hp->VK->Prop)(ta:TE):TE:=λ σ H Q=>ta σ H λ x H1=>r x H1 Q
def rI(C:Int->Int->Prop)(g:Int->Int->V):R2:=λ x y H Q=>∃ i j,x=.int i/\y=.int j/\C i j/\Q (g i j) H
def rI0(g:Int->Int->V):R2:=λ x y H Q=>∃ i j,x=.int i/\y=.int j/\Q (g i j) H
def rU(g:Int->V):V->Hp->VK->Prop:=λ x H Q=>∃ i,x=.int i/\Q (g i) H
section
variable {X:Cx}{a b c:Expr}{ta tb tc:TE}{pos:Pos}
theorem ah8(ha:PE X a ta)(hb:PE X b tb){pins:PN}{s:Shared}{σ:St}{H:Hp}{R:V->V->Hp->Prop}(I:Inv X pins σ H s)
  (h:ta σ H λ x H1=>tb σ H1 λ y H2=>R x y H2){Q:VP}{f:Value->Value->Sem Value}
  (hf:∀ v u s2 x y H2,Inv X pins σ H2 s2->RelV x v->RelV y u->R x y H2->wpAny (model X.prog X.w) X.A (f v u) Q X.xe s2) :
  wpAny (model X.prog X.w) X.A (eval a X.env) (λ v s₁=>wpAny (model X.prog X.w) X.A (eval b X.env) (λ u s₂=>wpAny (model X.prog X.w) X.A (f v u) Q X.xe s₂) X.xe s₁) X.xe s:=by
 refine thn (ha pins s σ H _ I h) λ v s1 hq19=>?_;obtain⟨x,H1,I1,r1,q1⟩:=hq19;refine thn (hb pins s1 σ H1 _ I1 q1) λ u s2 hq20=>?_;obtain⟨y,H2,I2,r2,q2⟩:=hq20;exact hf v u s2 x y H2 I2 r1 r2 q2
theorem agt{op:Operator}{r:R2}(ho:OpR X (binaryOp op) r)(ha:PE X a ta)(hb:PE X b tb):PE X (.BinOp a op b pos) (tOp r ta tb):=by intro pins s σ H Q I h;exact wpAny_BinOp (ah8 ha hb I h λ v u s2 x y H2 I2 rx ry q=>ho pins s2 σ H2 x y v u Q I2 rx ry q)
theorem aiB{op:UnaryOp}{r:V->Hp->VK->Prop}(ho:UnR X (unaryOp op) r)(ha:PE X a ta):PE X (.UnaryOp op a pos) (tUn r ta):=by intro pins s σ H Q I h;exact UnaryOp_ (thn (ha pins s σ H _ I h) λ v s1 ⟨x,H1,I1,r1,q1⟩=>ho pins s1 σ H1 x v Q I1 r1 q1)
theorem opI{f:Value->Value->Sem Value}{C:Int->Int->Prop}{g:Int->Int->Int}
  (rule:∀ (i j:Int) (t u:Tok) (s:Shared) (Q:VP) (E:VP),C i j->Q (.int (g i j) s.toks) {s with toks:=s.toks+1}->wpAny (model X.prog X.w) X.A (f (.int i t) (.int j u)) Q E s) :
  OpR X f (rI C λ i j=>.int (g i j)):=by
 intro pins s σ H x y v u Q I rx ry h;obtain⟨i,j,rfl,rfl,hc,q⟩:=h;obtain⟨t,rfl⟩:=rx;obtain⟨t',rfl⟩:=ry;exact rule i j t t' s _ _ hc ⟨.int (g i j),H,I.tok _,⟨_,rfl⟩,q⟩
theorem aiR{f:Value->Value->Sem Value}{g:Int->Int->Int}
  (rule:∀ (i j:Int) (t u:Tok) (s:Shared) (Q:VP) (E:VP),Q (.int (g i j) s.toks) {s with toks:=s.toks+1}->wpAny (model X.prog X.w) X.A (f (.int i t) (.int j u)) Q E s) :
  OpR X f (rI0 λ i j=>.int (g i j)):=by
 intro pins s σ H x y v u Q I rx ry h;obtain⟨i,j,rfl,rfl,q⟩:=h;obtain⟨t,rfl⟩:=rx;obtain⟨t',rfl⟩:=ry;exact rule i j t t' s _ _ ⟨.int (g i j),H,I.tok _,⟨_,rfl⟩,q⟩
theorem ahr{f:Value->Value->Sem Value}{g:Int->Int->Bool}
  (rule:∀ (i j:Int) (t u:Tok) (s:Shared) (Q:VP) (E:VP),Q (.bool (g i j)) s->wpAny (model X.prog X.w) X.A (f (.int i t) (.int j u)) Q E s) :
  OpR X f (rI0 λ i j=>.bl (g i j)):=by
 intro pins s σ H x y v u Q I rx ry h;obtain⟨i,j,rfl,rfl,q⟩:=h;obtain⟨t,rfl⟩:=rx;obtain⟨t',rfl⟩:=ry;exact rule i j t t' s _ _ ⟨.bl (g i j),H,I,rfl,q⟩
def aix(i j:Int):Prop:=0<j/\j<1073741824
def agR(i j:Int):Prop:=(-(2 ^ 64)<i/\i<2 ^ 64)\/(-(2 ^ 64)<j/\j<2 ^ 64)
theorem agR.ok{i j:Int}(h:agR i j):IntMulOk i j:=by
 rcases h with ⟨h1,h2⟩ | ⟨h1,h2⟩
 ·exact .of_left (intBits_le_64 h1 h2)
 ·exact .of_right (intBits_le_64 h1 h2)
theorem aft:OpR X (binaryOp .Add) (rI0 λ i j=>.int (i+j)):=aiR λ _ _ _ _ _ _ _ q=>add_int q
theorem tL:OpR X (binaryOp .Sub) (rI0 λ i j=>.int (i-j)):=aiR λ _ _ _ _ _ _ _ q=>sub_int q
theorem lJ:OpR X (binaryOp .Mult) (rI agR λ i j=>.int (i * j)):=opI λ _ _ _ _ _ _ _ hc q=>mul_int q hc.ok
theorem vg:OpR X (binaryOp .FloorDiv) (rI aix λ i j=>.int (i / j)):=opI λ i j _ _ _ _ _ hc q=>by have h1:(0:Int)<j:=hc.1;have h2:j<1073741824:=hc.2;exact floordiv_int (by omega) (by rw[Int.fdiv_eq_ediv_of_nonneg i (by omega)];exact q) (.inl (PyProof.noPylong_small (by omega)))
theorem gf:OpR X (binaryOp .Mod) (rI (λ _ j=>0<j) λ i j=>.int (i % j)):=opI λ i j _ _ _ _ _ hc q=>by have h1:(0:Int)<j:=hc;exact mod_int' (by omega) (by rw[Int.fmod_eq_emod_of_nonneg i (by omega)];exact q)
theorem unI{f:Value->Sem Value}{g:Int->Int}
  (rule:∀ (i:Int) (t:Tok) (s:Shared) (Q:VP) (E:VP),Q (.int (g i) s.toks) {s with toks:=s.toks+1}->wpAny (model X.prog X.w) X.A (f (.int i t)) Q E s) :
  UnR X f (rU λ i=>.int (g i)):=by
 intro pins s σ H x v Q I rx h;obtain⟨i,rfl,q⟩:=h;obtain⟨t,rfl⟩:=rx;exact rule i t s _ _ ⟨.int (g i),H,I.tok _,⟨_,rfl⟩,q⟩
theorem abc:UnR X (unaryOp .USub) (rU λ i=>.int (-i)):=unI λ _ _ _ _ _ q=>neg_int q
end
def aiT:V->V->Bool
 | .non,.non=>true | .non,.int _=>true | .int _,.non=>true | .non,.bl _=>true | .bl _,.non=>true | .non,.str _=>true | .str _,.non=>true
 | .int _,.int _=>true | .bl _,.bl _=>true | .str _,.str _=>true | .byt _,.byt _=>true
 | .int _,.str _=>true | .str _,.int _=>true | .bl _,.str _=>true | .str _,.bl _=>true
 | _,_=>false
def rEq:R2:=λ x y H Q=>aiT x y=true/\Q (.bl (decide (x=y))) H
def rNe:R2:=λ x y H Q=>aiT x y=true/\Q (.bl (!decide (x=y))) H
theorem xh{i j:Int}:decide (V.int i=V.int j)=(i==j):=by rw[Bool.eq_iff_iff];simp
theorem abu{i j:Bool}:decide (V.bl i=V.bl j)=(i==j):=by rw[Bool.eq_iff_iff];simp
theorem wA{i j:Str}:decide (V.str i=V.str j)=(i==j):=by rw[Bool.eq_iff_iff];simp
theorem yH{i j:Array UInt8}:decide (V.byt i=V.byt j)=(i.toList==j.toList):=by rw[Bool.eq_iff_iff];cases i;cases j;simp
section
variable {X:Cx}{a b c:Expr}{ta tb tc:TE}{pos:Pos}
theorem bw{pins:PN}{σ:St}{H:Hp}{s:Shared}{Q:VK}{k k':Bool}(I:Inv X pins σ H s)(q:Q (.bl k) H)(e:k=k'):EP X pins σ Q (.bool k') s:=by subst e;exact⟨.bl k,H,I,rfl,q⟩
theorem ahS:OpR X (compareOp .Eq) rEq:=by
 intro pins s σ H x y v u Q I rx ry h;obtain⟨hs,q⟩:=h;cases x with
 | non =>
  cases rx;cases y with
  | non=>cases ry;exact PySem.EqNone.eq_none_none (bw I q (by simp))
  | bl j=>cases ry;exact PySem.EqNone.eq_none_bool (bw I q (by simp))
  | int j=>obtain⟨t',rfl⟩:=ry;exact PySem.EqNone.eq_none_int (bw I q (by simp))
  | str j=>obtain⟨t',rfl⟩:=ry;exact PySem.EqNone.eq_none_str (bw I q (by simp))
  | _=>exact absurd (show false=true from hs) Bool.false_ne_true
 | bl i =>
  cases rx;cases y with
  | non=>cases ry;exact PySem.EqNone.eq_bool_none (bw I q (by simp))
  | bl j=>cases ry;exact eq_bool (bw I q abu)
  | str j=>obtain⟨t',rfl⟩:=ry;exact PySem.EqMixed.eq_bool_str (bw I q (by simp))
  | _=>exact absurd (show false=true from hs) Bool.false_ne_true
 | int i =>
  obtain⟨t,rfl⟩:=rx;cases y with
  | non=>cases ry;exact PySem.EqNone.eq_int_none (bw I q (by simp))
  | int j=>obtain⟨t',rfl⟩:=ry;exact eq_int (bw I q xh)
  | str j=>obtain⟨t',rfl⟩:=ry;exact PySem.EqMixed.eq_int_str (bw I q (by simp))
  | _=>exact absurd (show false=true from hs) Bool.false_ne_true
 | str i =>
  obtain⟨t,rfl⟩:=rx;cases y with
  | non=>cases ry;exact PySem.EqNone.eq_str_none (bw I q (by simp))
  | bl j=>cases ry;exact PySem.EqMixed.eq_str_bool (bw I q (by simp))
  | int j=>obtain⟨t',rfl⟩:=ry;exact PySem.EqMixed.eq_str_int (bw I q (by simp))
  | str j=>obtain⟨t',rfl⟩:=ry;exact eq_str (bw I q wA)
  | _=>exact absurd (show false=true from hs) Bool.false_ne_true
 | byt i =>
  obtain⟨t,rfl⟩:=rx;cases y with
  | byt j=>obtain⟨t',rfl⟩:=ry;exact W.eq_bytes (bw I q yH)
  | _=>exact absurd (show false=true from hs) Bool.false_ne_true
 | _=>cases y<;>exact absurd (show false=true from hs) Bool.false_ne_true
theorem ahw:OpR X (compareOp .NotEq) rNe:=by
 intro pins s σ H x y v u Q I rx ry h;obtain⟨hs,q⟩:=h;cases x with
 | non =>
  cases rx;cases y with
  | non=>cases ry;exact PySem.EqNone.ne_none_none (bw I q (by simp))
  | bl j=>cases ry;exact PySem.EqNone.ne_none_bool (bw I q (by simp))
  | int j=>obtain⟨t',rfl⟩:=ry;exact PySem.EqNone.ne_none_int (bw I q (by simp))
  | str j=>obtain⟨t',rfl⟩:=ry;exact PySem.EqNone.ne_none_str (bw I q (by simp))
  | _=>exact absurd (show false=true from hs) Bool.false_ne_true
 | bl i =>
  cases rx;cases y with
  | non=>cases ry;exact PySem.EqNone.ne_bool_none (bw I q (by simp))
  | bl j=>cases ry;exact ne_bool (bw I q (congrArg not abu))
  | str j=>obtain⟨t',rfl⟩:=ry;exact PySem.EqMixed.ne_bool_str (bw I q (by simp))
  | _=>exact absurd (show false=true from hs) Bool.false_ne_true
 | int i =>
  obtain⟨t,rfl⟩:=rx;cases y with
  | non=>cases ry;exact PySem.EqNone.ne_int_none (bw I q (by simp))
  | int j=>obtain⟨t',rfl⟩:=ry;exact ne_int (bw I q (congrArg not xh))
  | str j=>obtain⟨t',rfl⟩:=ry;exact PySem.EqMixed.ne_int_str (bw I q (by simp))
  | _=>exact absurd (show false=true from hs) Bool.false_ne_true
 | str i =>
  obtain⟨t,rfl⟩:=rx;cases y with
  | non=>cases ry;exact PySem.EqNone.ne_str_none (bw I q (by simp))
  | bl j=>cases ry;exact PySem.EqMixed.ne_str_bool (bw I q (by simp))
  | int j=>obtain⟨t',rfl⟩:=ry;exact PySem.EqMixed.ne_str_int (bw I q (by simp))
  | str j=>obtain⟨t',rfl⟩:=ry;exact ne_str (bw I q (congrArg not wA))
  | _=>exact absurd (show false=true from hs) Bool.false_ne_true
 | byt i =>
  obtain⟨t,rfl⟩:=rx;cases y with
  | byt j=>obtain⟨t',rfl⟩:=ry;exact W.ne_bytes (bw I q (congrArg not yH))
  | _=>exact absurd (show false=true from hs) Bool.false_ne_true
 | _=>cases y<;>exact absurd (show false=true from hs) Bool.false_ne_true
theorem om:OpR X (compareOp .Lt) (rI0 λ i j=>.bl (decide (i<j))):=ahr λ _ _ _ _ _ _ _ q=>lt_int q
theorem aiw:OpR X (compareOp .LtE) (rI0 λ i j=>.bl (decide (i<=j))):=ahr λ _ _ _ _ _ _ _ q=>le_int q
theorem vp:OpR X (compareOp .Gt) (rI0 λ i j=>.bl (decide (j<i))):=ahr λ _ _ _ _ _ _ _ q=>gt_int q
theorem ads:OpR X (compareOp .GtE) (rI0 λ i j=>.bl (decide (j<=i))):=ahr λ _ _ _ _ _ _ _ q=>ge_int q
theorem wg:OpR X (compareOp .Is) (λ x y H Q=>y=.non/\Q (.bl (decide (x=.non))) H):=by
 intro pins s σ H x y v u Q I rx ry h;obtain⟨rfl,q⟩:=h;cases ry;refine is_none_gen (bw I q ?_);cases x<;>first
  | (cases rx;rfl)
  | (obtain⟨t,rfl⟩:=rx;rfl)
theorem ac1:OpR X (compareOp .IsNot) (λ x y H Q=>y=.non/\Q (.bl (!decide (x=.non))) H):=by
 intro pins s σ H x y v u Q I rx ry h;obtain⟨rfl,q⟩:=h;cases ry;refine isnot_none_gen (bw I q ?_);cases x<;>first
  | (cases rx;rfl)
  | (obtain⟨t,rfl⟩:=rx;rfl)
theorem acW{op:CmpOp}{r:R2}(ho:OpR X (compareOp op) r)(ha:PE X a ta)(hb:PE X b tb)(hm:behindInMarks op b=false):PE X (.Compare a [op] [b] pos) (tOp r ta tb):=by intro pins s σ H Q I h;exact wpAny_Compare1 (ah8 ha hb I h λ v u s2 x y H2 I2 rx ry q=>ho pins s2 σ H2 x y v u Q I2 rx ry q) hm
def ab9(t:TE):TT:=λ σ H Q=>t σ H λ x H'=>∃ k,x=.bl k/\Q k H'
theorem aeq{op:CmpOp}{r:R2}(ho:OpR X (compareOp op) r)(ha:PE X a ta)(hb:PE X b tb)(hm:behindInMarks op b=false):PT X (.Compare a [op] [b] pos) (ab9 (tOp r ta tb)):=by
 intro pins s σ H Q I h;refine wpAny_isTrue_Compare1 (thn (ha pins s σ H _ I h) λ v s1 ⟨x,H1,I1,r1,q1⟩=>thn (hb pins s1 σ H1 _ I1 q1) λ u s2 ⟨y,H2,I2,r2,q2⟩ =>
  thn (ho pins s2 σ H2 x y v u _ I2 r1 r2 q2) λ c s3 ⟨z,H3,I3,r3,k,e,q3⟩=>?_) hm
 subst e;cases r3;exact wpAny_truthy_bool ⟨H3,I3,q3⟩
def yT(r r':R2)(ta tb tc:TE):TE:=λ σ H Q=>ta σ H λ x H1=>tb σ H1 λ y H2=>r x y H2 λ z H3=>∃ k,z=.bl k /\
 (if k=true then tc σ H3 λ w' H4=>r' y w' H4 Q else Q (.bl false) H3)
theorem aaf{op op':CmpOp}{r r':R2}(ho:OpR X (compareOp op) r)(ho':OpR X (compareOp op') r')(ha:PE X a ta)(hb:PE X b tb)(hc:PE X c tc)
  (hm:lastMarks [op,op'] [b,c]=false:=by with_unfolding_all rfl):PE X (.Compare a [op,op'] [b,c] pos) (yT r r' ta tb tc):=by
 intro pins s σ H Q I h;refine Compare_chain (thn (ha pins s σ H _ I h) λ v s1 ⟨x,H1,I1,r1,q1⟩=>chain_link (thn (hb pins s1 σ H1 _ I1 q1) λ u s2 ⟨y,H2,I2,r2,q2⟩ =>
  thn (ho pins s2 σ H2 x y v u _ I2 r1 r2 q2) λ d s3 ⟨z,H3,I3,r3,k,e,q3⟩=>?_)) hm
 subst e;cases r3;refine wpAny_truthy_bool ?_;cases k with
 | false=>exact ite_ff ⟨.bl false,H3,I3,rfl,q3⟩
 | true=>exact ite_tt (chain_last (thn (hc pins s3 σ H3 _ I3 q3) λ w' s4 ⟨z',H4,I4,r4,q4⟩=>ho' pins s4 σ H4 y z' u w' Q I4 r2 r4 q4))
theorem zp{op op':CmpOp}{r r':R2}(ho:OpR X (compareOp op) r)(ho':OpR X (compareOp op') r')(ha:PE X a ta)(hb:PE X b tb)(hc:PE X c tc)
  (hm:lastMarks [op,op'] [b,c]=false:=by with_unfolding_all rfl):PT X (.Compare a [op,op'] [b,c] pos) (ab9 (yT r r' ta tb tc)):=by
 intro pins s σ H Q I h;refine isTrue_chain (thn (ha pins s σ H _ I h) λ v s1 ⟨x,H1,I1,r1,q1⟩=>test_link (thn (hb pins s1 σ H1 _ I1 q1) λ u s2 ⟨y,H2,I2,r2,q2⟩ =>
  thn (ho pins s2 σ H2 x y v u _ I2 r1 r2 q2) λ d s3 ⟨z,H3,I3,r3,k,e,q3⟩=>?_)) hm
 subst e;cases r3;refine wpAny_truthy_bool ?_;cases k with
 | false =>
  obtain⟨k',e',q'⟩:=q3;cases e';exact ite_ff ⟨H3,I3,q'⟩
 | true =>
  refine ite_tt (test_last (thn (hc pins s3 σ H3 _ I3 q3) λ w' s4 ⟨z',H4,I4,r4,q4⟩=>thn (ho' pins s4 σ H4 y z' u w' _ I4 r2 r4 q4) λ d' s5 hq21=>?_));obtain⟨z2,H5,I5,r5,k2,e2,q5⟩:=hq21;subst e2;cases r5;exact wpAny_truthy_bool ⟨H5,I5,q5⟩
def ahR(K:FG)(x:V)(H:Hp)(k:Bool):Prop:=
 match x with
 | .non=>k=false
 | .bl b=>k=b
 | .int i=>k=(i != 0)
 | .str y=>y.length<=sizeLine/\k=((y.length:Int) != 0)
 | .byt y=>y.size<=sizeLine/\k=((y.size:Int) != 0)
 | .ref p=>(∃ xs,SqL K H p xs/\k=!xs.isEmpty)\/(∃ xs,SqT K H p xs/\k=!xs.isEmpty)\/∃ kvs,H p=some (.dK kvs)/\k=!kvs.isEmpty
 | _=>False
theorem uN{κ:Type}{kvs:List (κ×V)}{vs:List (κ×Value)}(r:KV kvs vs):(!vs.isEmpty)=!kvs.isEmpty:=by
 cases r<;>rfl
theorem l6{xs:List V}{its:List Value}(r:Vals xs its):(!its.toArray.isEmpty)=!xs.isEmpty:=by
 cases r<;>simp
theorem kG:(sizeLine:Nat)<2 ^ 63:=by rw[sizeLine_eq];decide
theorem afG:aje X (λ x H Q=>∃ k,ahR X.K x H k/\Q k H):=by
 intro pins s σ H x v Q I rx h;obtain⟨k,e,q⟩:=h;have hl:=kG;have hs:sizeLine=16777216:=sizeLine_eq;cases x with
 | non =>
  cases rx;have e':k=false:=e;subst e';exact truthy_none ⟨H,I,q⟩
 | bl b =>
  cases rx;have e':k=b:=e;subst e';exact wpAny_truthy_bool ⟨H,I,q⟩
 | int i =>
  obtain⟨t,rfl⟩:=rx;have e':k=(i != 0):=e;subst e';exact PySem.P.truthy_int ⟨H,I,q⟩
 | str y =>
  obtain⟨t,rfl⟩:=rx;obtain⟨hy,e'⟩:y.length<=sizeLine/\k=((y.length:Int) != 0):=e;subst e';exact PySem.P.truthy_str (by omega) ⟨H,I.tok _,q⟩
 | byt y =>
  obtain⟨t,rfl⟩:=rx;obtain⟨hy,e'⟩:y.size<=sizeLine/\k=((y.size:Int) != 0):=e;subst e';exact W.truthy_bytes (by omega) ⟨H,I.tok _,q⟩
 | ref p =>
  cases rx;have e':(∃ xs,SqL X.K H p xs/\k=!xs.isEmpty)\/(∃ xs,SqT X.K H p xs/\k=!xs.isEmpty)\/∃ kvs,H p=some (.dK kvs)/\k=!kvs.isEmpty:=e;rcases e' with ⟨xs,hx,e'⟩ | ⟨xs,hx,e'⟩ | ⟨kvs,hx,e'⟩
  ·subst e';obtain⟨its,r,pl,hz⟩:=I.list hx;have hlen:=r.length;exact wpAny_truthy_list pl.isList (by simp only[List.size_toArray];omega) ⟨H,I.tok _,by rw[l6 r];exact q⟩
  ·subst e';obtain⟨its,r,pl,hz⟩:=I.tuple hx;have hlen:=r.length;exact truthy_tuple pl (by simp only[List.size_toArray];omega) ⟨H,I.tok _,by rw[l6 r];exact q⟩
  ·subst e';obtain⟨hz,hS,vs,r,m⟩:kvs.length<=sizeLine/\(p==sysModules)=false/\∃ vs,KV kvs vs/\s.heap.DictOf (aR X.prog X.w) p vs:=I.hok p _ hx;have hlen:kvs.length=vs.length:=Paired.length r;exact wpAny_truthy_dict hS m (by omega) ⟨H,I.tok _,by rw[uN r];exact q⟩
 | _=>exact(show False from e).elim
theorem aaE(ha:PE X a ta)(he:∀ whole,isTrue a X.env whole=(do let v <- whole;standAt a.pos;holding [v] (truthy v))) :
  PT X a (λ σ H Q=>ta σ H λ x H'=>∃ k,ahR X.K x H' k/\Q k H'):=by
 intro pins s σ H Q I h;exact isTrue_plain (thn (ha pins s σ H _ I h) λ v s1 ⟨x,H1,I1,r1,q1⟩=>afG pins s1 σ H1 x v Q I1 r1 q1) (he _)
theorem uM:OpR X (binaryOp .Add) (λ x y H Q=>∃ i j,x=.str i/\y=.str j/\i.length+j.length<=sizeLine/\Q (.str (i++j)) H):=by intro pins s σ H x y v u Q I rx ry h;obtain⟨i,j,rfl,rfl,hz,q⟩:=h;obtain⟨t,rfl⟩:=rx;obtain⟨t',rfl⟩:=ry;exact add_str (λ t' tk=>⟨.str (i++j),H,I.tok _,⟨_,rfl⟩,q⟩) hz
theorem vals1{x:V}{us:List Value}(r:Vals [x] us):∃ u,us=[u]/\RelV x u:=by
 cases r with
 | cons r1 r2=>cases r2;exact⟨_,rfl,r1⟩
theorem vals2{x y:V}{us:List Value}(r:Vals [x,y] us):∃ u w',us=[u,w']/\RelV x u/\RelV y w':=by
 cases r with
 | cons r1 r2 =>
  cases r2 with
  | cons r3 r4=>cases r4;exact⟨_,_,rfl,r1,r3⟩
theorem zU:d6 X (.builtin "abs") (λ xs H Q=>∃ i,xs=[.int i]/\Q (.int (if i<0 then -i else i)) H):=by intro pins s σ H xs us Q I r h;obtain⟨i,rfl,q⟩:=h;obtain⟨u,rfl,t,rfl⟩:=vals1 r;exact call_abs_int λ u tk=>⟨.int (if i<0 then -i else i),H,I.tok _,⟨_,rfl⟩,q⟩
theorem xW(hc:X.calm=true):d6 X (.builtin "min") (λ xs H Q=>∃ i j,xs=[.int i,.int j]/\Q (.int (if j<i then j else i)) H):=by
 intro pins s σ H xs us Q I r h;obtain⟨i,j,rfl,q⟩:=h;obtain⟨u,w',rfl,⟨t,rfl⟩,⟨t',rfl⟩⟩:=vals2 r;refine min_two_ints (I.ok.hd hc) λ h' tk k=>⟨_,H,I.kept k,?_,q⟩
 by_cases hj:j<i
 ·rw[if_pos hj,if_pos hj];exact⟨_,rfl⟩
 ·rw[if_neg hj,if_neg hj];exact⟨_,rfl⟩
theorem oM:d6 X (.type "int") (λ xs H Q=>(∃ i,xs=[.int i]/\Q (.int i) H)\/∃ k,xs=[.bl k]/\Q (.int (if k then 1 else 0)) H):=by
 intro pins s σ H xs us Q I r h;rcases h with ⟨i,rfl,q⟩ | ⟨k,rfl,q⟩
 ·obtain⟨u,rfl,t,rfl⟩:=vals1 r;exact call_int_int ⟨.int i,H,I,⟨_,rfl⟩,q⟩
 ·obtain⟨u,rfl,r1⟩:=vals1 r;cases r1;exact call_int_bool ⟨.int (if k then 1 else 0),H,I.tok _,⟨_,rfl⟩,q⟩
def ai2(K:FG)(x:V)(H:Hp)(n:Nat):Prop:=
 match x with
 | .str y=>y.length<=sizeLine/\n=y.length
 | .byt y=>y.size<=sizeLine/\n=y.size
 | .ref p=>(∃ xs,SqL K H p xs/\n=xs.length)\/∃ xs,SqT K H p xs/\n=xs.length
 | _=>False
theorem aX:d6 X (.builtin "len") (λ xs H Q=>∃ x n,xs=[x]/\ai2 X.K x H n/\Q (.int n) H):=by
 intro pins s σ H xs us Q I r h;obtain⟨x,n,rfl,e,q⟩:=h;obtain⟨u,rfl,rx⟩:=vals1 r;have hl:=kG;have hs:sizeLine=16777216:=sizeLine_eq;cases x with
 | str y =>
  obtain⟨t,rfl⟩:=rx;obtain⟨hy,e'⟩:y.length<=sizeLine/\n=y.length:=e;subst e';exact len_str (by omega) ⟨.int _,H,I.tok _,⟨_,rfl⟩,q⟩
 | byt y =>
  obtain⟨t,rfl⟩:=rx;obtain⟨hy,e'⟩:y.size<=sizeLine/\n=y.size:=e;subst e';exact W.len_bytes (by omega) ⟨.int _,H,I.tok _,⟨_,rfl⟩,q⟩
 | ref p =>
  cases rx;have e':(∃ xs,SqL X.K H p xs/\n=xs.length)\/∃ xs,SqT X.K H p xs/\n=xs.length:=e;rcases e' with ⟨xs,hx,e'⟩ | ⟨xs,hx,e'⟩
  ·subst e';obtain⟨its,r',pl,hz⟩:=I.list hx;have hlen:=r'.length;exact Calls.call_len_list pl.isList (by simp only[List.size_toArray];omega) ⟨.int xs.length,H,I.tok _,⟨_,by simp only[List.size_toArray];rw[hlen]⟩,q⟩
  ·subst e';obtain⟨its,r',pl,hz⟩:=I.tuple hx;have hlen:=r'.length;exact len_tuple pl (by simp only[List.size_toArray];omega) ⟨.int xs.length,H,I.tok _,⟨_,by simp only[List.size_toArray];rw[hlen]⟩,q⟩
 | _=>exact(show False from e).elim
end
section
variable {prog:Program}{w:World}{A:Around}{E:VP}{s:Shared}{K:FG}{x dx C f:Addr}{mA:Str->Option Value}{name:Str}{v:Value}
end
theorem yg.some_of{v:V}{o:Option Value}(r:yg (some v) o):∃ u,o=some u/\RelV v u:=by
 cases o with
 | none=>exact(show False from r).elim
 | some u=>exact⟨u,rfl,r⟩
section
variable {P:Program}{w:World}{H H':Hp}{h h':Heap}{a C dx:Addr}{fs fs':List (Str×V)}
end
section
variable {X:Cx}{pins:PN}{σ:St}{H:Hp}{s:Shared}{a C dx:Addr}{fs:List (Str×V)}{f:Str}{v:V}{A:Around}{E:VP}
end
section
variable {X:Cx}{o e value:Expr}{f:Str}{pos pos' tpos:Pos}{ta tv:TE}
end
section
variable {X:Cx}{pins:PN}{σ:St}{H:Hp}{s:Shared}{A:Around}{E:VP}{Q:VP}{c:Value}{b:Bool}
end
structure eQ(k:Nat)(A:Around):Prop where
 hd:A.handled=none
 gd:A.guards=some []
 dp:A.depth+3 * k+5<recursionLimit
 un:A.units+16 * k+200<cLine
theorem eQ.mono{j k:Nat}{A:Around}(r:eQ k A)(h:j<=k):eQ j A:=⟨r.hd,r.gd,by have:=r.dp;omega,by have:=r.un;omega⟩
theorem eQ.deeper{k:Nat}{A:Around}(r:eQ (k+1) A)(env:Env):eQ k (A.deeper env):=
 ⟨r.hd,r.gd,by have:=r.dp;show A.depth+1+3 * k+5<_;omega,by have:=r.un;show A.units+3+16 * k+200<_;omega⟩
theorem eQ.in1{k:Nat}{A:Around}(r:eQ (k+1) A):eQ k A.in1:=
 ⟨r.hd,r.gd,by have:=r.dp;show A.depth+3 * k+5<_;omega,by have:=r.un;show A.units+1+16 * k+200<_;omega⟩
theorem eQ.depth{k:Nat}{A:Around}(r:eQ k A):A.depth<recursionLimit:=by have:=r.dp;omega
theorem eQ.units{k:Nat}{A:Around}(r:eQ k A):A.units+64<cLine:=by have:=r.un;omega
def yZ:TA:=λ _ H Q=>Q [] H
def kI(ta:TE)(tr:TA):TA:=λ σ H Q=>ta σ H λ x H1=>tr σ H1 λ xs H2=>Q (x::xs) H2
section
variable {X:Cx}{e:Expr}{es:List Expr}{te:TE}{t:TA}{pos:Pos}
theorem lQ:PA X [] yZ:=λ _ _ _ _ H Q I h=>Calls.spliced_nil ⟨[],H,I,.nil,h⟩
theorem iS(ha:PE X e te)(hr:PA X es t)(hs:starEach (e::es) X.env=(false,eval e X.env)::starEach es X.env:=by rfl):PA X (e::es) (kI te t):=by intro pos pins s σ H Q I h;rw[hs];show wpAny _ _ (spliced ((false,eval e X.env)::backTo pos (starEach es X.env))) _ _ s;refine Calls.spliced_cons (thn (ha pins s σ H _ I h) λ u s1 hq22=>?_);obtain⟨x,H1,I1,r1,q1⟩:=hq22;exact thn (hr pos pins s1 σ H1 _ I1 q1) λ us s2 ⟨xs,H2,I2,r2,q2⟩=>⟨x::xs,H2,I2,.cons r1 r2,q2⟩
def ajf(t:TA):TE:=λ σ H Q=>t σ H λ xs H1=>xs.length<=sizeLine/\∀ p,H1 p=none->Q (.ref p) (upd H1 p (.tup xs))
def ajg(t:TA):TE:=λ σ H Q=>t σ H λ xs H1=>xs.length<=sizeLine/\∀ p,H1 p=none->Q (.ref p) (upd H1 p (.lst xs))
theorem abL{x1}(h:PA X es t):PE X (.Tuple es x1 pos) (ajf t):=by intro pins s σ H Q I hq;refine wpAny_Tuple_spliced (thn (h pos pins s σ H _ I hq) λ us s1 ⟨xs,H1,I1,r,z,q⟩=>⟨by rw[<- r.length];exact z,?_⟩);have hf:H1 s1.heap.objs.size=none:=I1.hok.fresh (Nat.le_refl _);refine⟨.ref s1.heap.objs.size,upd H1 s1.heap.objs.size (.tup xs),I1.laid (t':=s1.toks) (λ b u e=>Heap.get?_push_of_some _ e) (Nat.le_refl _) ?_,rfl,q _ hf⟩;exact⟨z,us,r,yY.new _ _⟩
theorem aby(h:PA X es t):PE X (.List es pos) (ajg t):=by intro pins s σ H Q I hq;refine wpAny_List_spliced (thn (h pos pins s σ H _ I hq) λ us s1 ⟨xs,H1,I1,r,z,q⟩=>⟨by rw[<- r.length];exact z,?_⟩);have hf:H1 s1.heap.objs.size=none:=I1.hok.fresh (Nat.le_refl _);refine⟨.ref s1.heap.objs.size,upd H1 s1.heap.objs.size (.lst xs),I1.laid (t':=s1.toks) (λ b u e=>Heap.get?_push_of_some _ e) (Nat.le_refl _) ?_,rfl,q _ hf⟩;exact⟨z,us,0,r,Heap.get?_push_size _ rfl⟩
end
abbrev Sp:=List V->Hp->VK->XK->Prop
abbrev CXT:=List Env->Hp->Shared->XK->VP
structure aht(P:Program)(w:World)(K:FG)(mg:Str->Option Value)(base:Heap)(A:Around)(outer:List Env)(s:Shared)(H:Hp):Prop where
 frames:A.frames=some outer
 mod:Mod K mg base
 bs:∀ b o,base.get? b=some o->s.heap.get? b=some o/\H b=none
 bsz:base.objs.size<=s.heap.objs.size
 qo:s.heap.FunFrames base outer
 frf:∀ b∈frs outer,H b=none
 hok:HOk P w H s.heap
 bare:AllBare s.gens
def CE(outer:List Env)(P:Program)(w:World)(H:Hp)(s:Shared)(Q:VK)(u:Value)(s':Shared):Prop:=
 ∃ v H',s'.os=s.os/\AllBare s'.gens/\Un (frs outer) [] H H' s.heap s'.heap/\HOk P w H' s'.heap/\RelV v u/\Q v H'
def CR(CX:CXT)(outer:List Env)(P:Program)(w:World)(H:Hp)(s:Shared)(Q:VK)(E:XK)(r:Result)(s':Shared):Prop:=
 match r with
 | .ok (.ret u)=>CE outer P w H s Q u s'
 | .ok _=>False
 | .error e=>CX outer H s E e s'
structure eB(P:Program)(w:World)(K:FG)(mg:Str->Option Value)(base:Heap)(CX:CXT)(k:Nat)(f:Addr)(fd:FuncData)(ps:List Str)(sp:Sp):Prop where
 len:∀ vs H Q E,sp vs H Q E->vs.length=ps.length
 run:∀ (A:Around) (outer:List Env) (s:Shared) (H:Hp) (args:Args) (us:List Value) (vs:List V) (Q:VK) (E:XK),eQ k A->aht P w K mg base A outer s H->BindsTo s fd args (ps.zip us)->Vals vs us->sp vs H Q E ->
  codeAny (model P w) A (.call (.ref f) args) (CR CX outer P w H s Q E) s
section
variable {X:Cx}{pins:PN}{σ:St}{H:Hp}{s s':Shared}
theorem Inv.ajr(I:Inv X pins σ H s):aht X.prog X.w X.K X.mg X.base X.A X.stack s H:=
 ⟨I.ok.frames,I.ok.mod,I.bs,Nat.le_trans I.ok.bsz I.sz,I.stack,I.nG,I.hok,I.bare⟩
theorem Inv.after{Q:VK}{u:Value}(I:Inv X pins σ H s)(h:CE X.stack X.prog X.w H s Q u s'):EP X pins σ Q u s':=by obtain⟨v,H',os,bare,un,hok,r,q⟩:=h;obtain⟨hh,g,d,t,os'⟩:=s';obtain rfl:os'=s.os:=os;exact⟨v,H',I.call (h':=hh) (g':=g) (d':=d) (t':=t) (ch:=[]) un hok bare (λ b z=>absurd z (by simp)),r,q⟩
end
def ahy(sp:Sp)(dvs:List V)(E:XK)(t:TA):TE:=λ σ H Q=>t σ H λ vs H1=>sp (vs++dvs) H1 Q E
def Binds(K:FG)(fd:FuncData)(ps:List Str)(ds:List Value):Prop:=
 ∀ (s:Shared) (us:List Value),K.In s.heap->(us++ds).length=ps.length->BindsTo s fd ⟨us,[]⟩ (ps.zip (us++ds))
theorem Binds.all{K:FG}{fd:FuncData}{ps:List Str}(h:∀ us:List Value,us.length=ps.length->bindArgs fd ⟨us,[]⟩=pure (ps.zip us)):Binds K fd ps []:=λ s us _ hl=>by rw[List.append_nil] at hl ⊢;exact .of_eq (h us hl)
def Passes(CX:CXT)(X:Cx)(E:XK):Prop:=∀ (pins:PN) (σ:St) (H:Hp) (s:Shared) (e:Value) (s':Shared),Inv X pins σ H s->CX X.stack H s E e s'->X.xe e s'
section
variable {X:Cx}{CX:CXT}{k:Nat}{f C:Addr}{fd:FuncData}{ps:List Str}{sp:Sp}{dvs:List V}{ds:List Value}{E:XK}{x m:Str}{p pos apos:Pos}{e o:Expr}{es:List Expr}{ta:TE}{t:TA}
theorem agX{pins:PN}{σ:St}{H:Hp}{s:Shared}{Q:VK}{us:List Value}{vs:List V}(F:eB X.prog X.w X.K X.mg X.base CX k f fd ps sp)(hr:eQ k X.A)(hb:Binds X.K fd ps ds)(hd:Vals dvs ds)(hx:Passes CX X E)
  (I:Inv X pins σ H s)(r:Vals vs us)(h:sp (vs++dvs) H Q E):wpAny (model X.prog X.w) X.A (call (.ref f) us) (EP X pins σ Q) X.xe s:=by
 have r2:Vals (vs++dvs) (us++ds):=r.append hd;have hl:(us++ds).length=ps.length:=by rw[<- r2.length];exact F.len _ _ _ _ h
 refine wpAny_call (codeAny_mono (F.run X.A X.stack s H ⟨us,[]⟩ (us++ds) (vs++dvs) Q E hr I.ajr (hb s us I.kIn hl) r2 h) λ r s' hq=>?_);cases r with
 | error e=>exact hx pins σ H s e s' I hq
 | ok fl =>
  cases fl with
  | ret u=>exact I.after hq
  | next=>exact False.elim hq
  | brk=>exact False.elim hq
  | cont=>exact False.elim hq
theorem xD(F:eB X.prog X.w X.K X.mg X.base CX k f fd ps sp)(hr:eQ k X.A)(hg:Gl X x)(hm:X.mg x=some (.ref f))(hk:W.keepIn X.K (.ref f)=true)(hb:Binds X.K fd ps ds)(hd:Vals dvs ds)(hx:Passes CX X E)
  (ha:PA X (e::es) t)(hdb:ND x:=by decide)(he:starEach (e::es) X.env=(false,eval e X.env)::starEach es X.env:=by rfl)(hpl:(backTo pos (starEach es X.env)).any (·.1)=false:=by rfl) :
  PE X (.Call (.Name x p) (e::es) [] pos) (ahy sp dvs E t):=by
 intro pins s σ H Q I h;refine wpAny_Call_Name_kw (wa I hg hm ?_ hdb);refine W.callWith_K (h₀:=X.base) I.ok.mod.kin hk (thn (ha pos pins s σ H _ I h) λ us s1 ⟨vs,H1,I1,r,q⟩=>⟨I1.kIn,?_⟩) he hpl;exact agX F hr hb hd hx I1 r q
end
def PK(X:Cx)(kws:List Keyword)(t:TA):Prop:=
 ∀ (pos:Pos) (pins:PN) (s:Shared) (σ:St) (H:Hp) (Q:List V->Hp->Prop),Inv X pins σ H s->t σ H Q->wpAny (model X.prog X.w) X.A (evalAll ((backToKw pos (keywordEach kws X.env)).map (·.2))) (AP X pins σ Q) X.xe s
section
variable {X:Cx}{CX:CXT}{k:Nat}{f C:Addr}{fd:FuncData}{ps ks:List Str}{sp:Sp}{E:XK}{x m:Str}{p pos apos kpos:Pos}{e o:Expr}{es:List Expr}{kws:List Keyword}{te ta:TE}{t tk:TA}{nm:Option Str}
theorem wk:PK X [] yZ:=λ _ _ _ _ H Q I h=>wpAny_evalAll_nil ⟨[],H,I,.nil,h⟩
theorem ni(ha:PE X e te)(hr:PK X kws t):PK X (⟨nm,e,kpos⟩::kws) (kI te t):=by intro pos pins s σ H Q I h;show wpAny _ _ (evalAll ((do let v <- eval e X.env;standAt pos;pure v)::(backToKw pos (keywordEach kws X.env)).map (·.2))) _ _ s;refine wpAny_evalAll_cons (wpAny_bind (thn (ha pins s σ H _ I h) λ u s1 ⟨x,H1,I1,r1,q1⟩=>wpAny_bind (wpAny_standAt (wpAny_pure ?_))));exact thn (hr pos pins s1 σ H1 _ I1 q1) λ us s2 ⟨xs,H2,I2,r2,q2⟩=>⟨x::xs,H2,I2,.cons r1 r2,q2⟩
variable {g:List Value->List Value->List Value}{gV:List V->List V->List V}
end
structure aN(N P:List Str)(sc:Scope):Prop where
 kind:sc.kind=.function
 co:sc.isCoroutine=false
 gen:sc.isGenerator=false
 nd:N.Nodup
 pre:N.take P.length=P
 par:∀ x∈P,sc.names.lookup x=some .local\/sc.names.lookup x=some .cell
 nofree:∀ y∈sc.names,y.2 ≠ .free
theorem pQ{kindOf:Str->Option NameKind}{x:Str}:∀ {binds:List (Str×Value)} {m:Str->Option Value},(∀ v,(x,v) ∉ binds)->bindL kindOf binds m x=m x
 | [],_,_=>rfl
 | (n,v)::r,m,h=>by
  unfold bindL;rw[pQ λ w hw=>h w (List.mem_cons_of_mem _ hw)]
  split
  ·have:x≠n:=by rintro rfl;exact h v List.mem_cons_self
   simp[this]
  ·rfl
theorem pM{kindOf:Str->Option NameKind}{x:Str}:∀ {binds:List (Str×Value)} {m:Str->Option Value},(∀ v,(x,v) ∉ binds)->bindC kindOf binds m x=m x
 | [],_,_=>rfl
 | (n,v)::r,m,h=>by
  unfold bindC;rw[pM λ w hw=>h w (List.mem_cons_of_mem _ hw)]
  split
  ·rfl
  ·have:x≠n:=by rintro rfl;exact h v List.mem_cons_self
   simp[this]
theorem oZ{kindOf:Str->Option NameKind}{x:Str}{v:Value}:∀ {P:List Str} {vs:List Value} {i:Nat} {m:Str->Option Value},P.Nodup->P[i]? =some x->vs[i]? =some v->kindOf x=some .local ->
  bindL kindOf (P.zip vs) m x=some v
 | [],_,_,_,_,h,_,_=>by simp at h
 | _::_,[],_,_,_,_,h,_=>by simp at h
 | p::P,w::vs,0,m,nd,h1,h2,hk=>by simp at h1 h2;subst h1;subst h2;show bindL kindOf ((p,w)::P.zip vs) m p=_;unfold bindL;rw[pQ λ v hv=>(List.nodup_cons.mp nd).1 (List.of_mem_zip hv).1,if_pos hk];simp
 | p::P,w::vs,i+1,m,nd,h1,h2,hk=>by show bindL kindOf ((p,w)::P.zip vs) m x=_;unfold bindL;exact oZ (i:=i) (List.nodup_cons.mp nd).2 (by simpa using h1) (by simpa using h2) hk
theorem pw{kindOf:Str->Option NameKind}{x:Str}{v:Value}:∀ {P:List Str} {vs:List Value} {i:Nat} {m:Str->Option Value},P.Nodup->P[i]? =some x->vs[i]? =some v->kindOf x≠some .local ->
  bindC kindOf (P.zip vs) m x=some v
 | [],_,_,_,_,h,_,_=>by simp at h
 | _::_,[],_,_,_,_,h,_=>by simp at h
 | p::P,w::vs,0,m,nd,h1,h2,hk=>by simp at h1 h2;subst h1;subst h2;show bindC kindOf ((p,w)::P.zip vs) m p=_;unfold bindC;rw[pM λ v hv=>(List.nodup_cons.mp nd).1 (List.of_mem_zip hv).1,if_neg hk];simp
 | p::P,w::vs,i+1,m,nd,h1,h2,hk=>by show bindC kindOf ((p,w)::P.zip vs) m x=_;unfold bindC;exact pw (i:=i) (List.nodup_cons.mp nd).2 (by simpa using h1) (by simpa using h2) hk
def start(N:List Str)(vs:List V):St:=vs.map some++List.replicate (N.length-vs.length) none
def zQ(CX:CXT)(P:Program)(w:World)(K:FG)(mg:Str->Option Value)(base:Heap)(N:List Str)(qual:Str)(scope:Scope)(f:Addr)(cd:Value)(A:Around)(outer:List Env)(s:Shared)(H:Hp)(E:XK):Cx where
 prog:=P
 w:=w
 K:=K
 mg:=mg
 base:=base
 A:=A.deeper (envOfC qual scope s.heap.objs.size f cd)
 N:=N
 s₀:=s
 H₀:=H
 env:=envOfC qual scope s.heap.objs.size f cd
 outer:=outer
 stack:=envOfC qual scope s.heap.objs.size f cd::outer
 ex:=[]
 calm:=true
 fn:=λ _=>true
 pn:=[]
 xe:=λ e s'=>wpAny (model P w) (A.deeper (envOfC qual scope s.heap.objs.size f cd)) (leaving (envOfC qual scope s.heap.objs.size f cd) e) (λ _ s''=>CX outer H s E e s'') (λ e' s''=>CX outer H s E e' s'') s'
theorem tM{sc:Scope}{n:Nat}{x:Str}(h:sc.names.lookup x=some .cell):∃ c,(cellsFrom n sc.names []).lookup x=some c:=by have q:=W.cellsFrom_some sc.names n [] (.inl h);exact Option.isSome_iff_exists.mp q
theorem va{CX:CXT}{P:Program}{w:World}{K:FG}{mg:Str->Option Value}{base:Heap}{N ps:List Str}{qual:Str}{scope:Scope}{f:Addr}{cd:Value}{A:Around}{outer:List Env}{s s1:Shared}{H:Hp}{E:XK}{us:List Value}{vs:List V}
  (S:aN N ps scope)(hd:A.handled=none)(e0:aht P w K mg base A outer s H)(hl:vs.length=ps.length)(r:Vals vs us)
  (x:InCallC s s.heap.objs.size (bindL (envOfC qual scope s.heap.objs.size f cd).kindOf (ps.zip us) λ _=>none) (cellsFrom (s.heap.objs.size+1) scope.names []) (bindC (envOfC qual scope s.heap.objs.size f cd).kindOf (ps.zip us) λ _=>none) s1) :
  Inv (zQ CX P w K mg base N qual scope f cd A outer s H E) [] (start N vs) H s1:=by
 have hpl:ps.length<=N.length:=by have:=congrArg List.length S.pre;rw[List.length_take] at this;omega
 obtain⟨h1,tk,rfl,hk⟩:=x.done;have noA:∀ b:Addr,b ∉ (zQ CX P w K mg base N qual scope f cd A outer s H E).ex:=λ b z=>absurd (show b∈([]:List Addr) from z) (by simp);refine⟨⟨e0.mod,S.kind,rfl,rfl,Nat.le_refl _,λ y z c h1 h2=>?_,λ y hy=>?_,λ y c _ h=>?_,λ _=>hd,Around.frames_deeper e0.frames,.inr ⟨rfl,rfl⟩,λ b z=>absurd z (noA b),e0.bs,e0.bsz,λ b _ _=>noA b,λ b z=>absurd z (noA b),e0.qo,e0.frf⟩,
  rfl,e0.bare,Un.kept hk,⟨_,x.toInCall.ns,λ i y v h1 h2 h3=>?_⟩,λ y c h=>⟨_,x.cell y c h⟩,e0.hok.fresh (Nat.le_refl _),λ y c h=>?_,λ p hp=>absurd (show p∈([]:PN) from hp) (by simp),e0.hok.kept hk,?_⟩
 ·exact name_of_addr x.apart (PySem.mem_of_lookup h1) (PySem.mem_of_lookup h2)
 ·have hy:scope.names.lookup y=some .cell\/scope.names.lookup y=some .free:=hy;rcases hy with hy | hy
  ·exact tM hy
  ·exact absurd rfl (S.nofree _ (PySem.mem_of_lookup hy))
 ·exact Nat.le_of_lt (x.above y c (PySem.mem_of_lookup h))
 ·have hi:i<vs.length:=by
   unfold start at h2
   by_cases hi:i<vs.length
   ·exact hi
   ·rw[List.getElem?_append_right (by simpa using hi)] at h2;rw[List.getElem?_replicate] at h2
    split at h2<;>cases h2
  have ha:vs[i]? =some v:=by
   unfold start at h2;rw[List.getElem?_append_left (by simpa using hi),List.getElem?_map] at h2;cases e:vs[i]? with
   | none=>rw[e] at h2;cases h2
   | some a=>rw[e] at h2;cases h2;rfl
  obtain⟨u,hu,rv⟩:=r.get ha;have hp:ps[i]? =some y:=by rw[<- S.pre,List.getElem?_take_of_lt (by omega)];exact h1
  have ndP:ps.Nodup:=by rw[<- S.pre];exact S.nd.sublist (List.take_sublist _ _)
  refine⟨u,rv,?_⟩;rcases S.par y (List.mem_of_getElem? hp) with k | k
  ·exact .inl ⟨k,oZ ndP hp hu k⟩
  ·obtain⟨c,e⟩:=tM (n:=s.heap.objs.size+1) k;refine .inr ⟨.inl k,c,e,?_⟩;have q:=x.cell y c e;rw[pw ndP hp hu (by show scope.names.lookup y≠_;rw[k];decide)] at q;exact q
 ·exact e0.hok.fresh (Nat.le_of_lt (x.above y c (PySem.mem_of_lookup h)))
 ·unfold start;show _=N.length;rw[List.length_append,List.length_map,List.length_replicate];omega
theorem adL{CX:CXT}{P:Program}{w:World}{K:FG}{mg:Str->Option Value}{base:Heap}{k:Nat}{f:Addr}{name qual:Str}{params:Arguments}{body:List Stmt}{scope:Scope}{dV kV doc pm cdv ct oc:Value}{an od:Option Addr}
  {osl:Array (Option Value)}{N ps:List Str}{sp:Sp}(lk:K.lookup f=some ⟨oc,od,.func (W.fnOf name qual params body scope dV kV doc pm an cdv ct),osl⟩)(hcd:W.codeIn K cdv qual=true)(S:aN N ps scope)
  (len:∀ vs H Q E,sp vs H Q E->vs.length=ps.length)
  (hbody:∀ (A:Around) (outer:List Env) (s:Shared) (H:Hp) (vs:List V) (Q:VK) (E:XK),eQ k (A.deeper (envOfC qual scope s.heap.objs.size f cdv))->sp vs H Q E ->
   ∃ t,PSs (zQ CX P w K mg base N qual scope f cdv A outer s H E) body t/\t {nx:=λ _ H'=>Q .non H',rt:=Q} (start N vs) H) :
  eB P w K mg base CX (k+1) f (W.fnOf name qual params body scope dV kV doc pm an cdv ct) ps sp:=by
 refine⟨len,λ A outer s H args us vs Q E hr e0 hb r hsp=>?_⟩;have hl:=len _ _ _ _ hsp;have KX:K.In s.heap:=e0.mod.kin.keeps λ b o e=>(e0.bs b o e).1;have lim:s.heap.NoLimit:=e0.mod.nolimit.keeps λ b o e=>(e0.bs b o e).1;have hkind:∀ y∈ps.zip us,scope.names.lookup y.1=some .local\/(scope.names.lookup y.1=some .cell/\((cellsFrom (s.heap.objs.size+1) scope.names []).lookup y.1).isSome=true):=λ⟨n,v⟩ hy=>by
  rcases S.par n (List.of_mem_zip hy).1 with q | q
  ·exact .inl q
  ·exact .inr ⟨q,W.cellsFrom_some _ _ _ (.inl q)⟩
 refine codeAny_call_function hr.depth (KX _ _ lk) rfl S.co S.gen rfl (W.codeRec_of KX hcd) (hb _ _ _ _ ?_);refine wpAny_newFunctionEnv_cells S.kind hkind λ env he s1 x=>?_;subst he;refine⟨lim.keeps x.toInCall.keep,codeAny_func ?_⟩;obtain⟨t,ht,hq⟩:=hbody A outer s H vs Q E (hr.deeper _) hsp;have I:Inv (zQ CX P w K mg base N qual scope f cdv A outer s H E) [] (start N vs) H s1:=va S hr.hd e0 hl r x;refine wpAny_mono (ht [] s1 (start N vs) H _ I hq) (λ fl s' hs=>?_) λ e s' hs=>hs;have fin:∀ {σ':St} {H':Hp} {v:V} {u:Value},Inv (zQ CX P w K mg base N qual scope f cdv A outer s H E) [] σ' H' s'->RelV v u->Q v H'->CE outer P w H s Q u s':=
  λ {σ' H' v u} J rv q=>⟨v,H',J.os,J.bare,J.base,J.hok,rv,q⟩
 cases fl with
 | ret u =>
  obtain⟨v,σ',H',J,rv,q⟩:=hs;exact fin J rv q
 | next =>
  obtain⟨σ',H',J,q⟩:=hs;exact fin (v:=V.non) (u:=Value.none) J rfl q
 | brk =>
  obtain⟨_,_,_,q⟩:=hs;exact False.elim q
 | cont =>
  obtain⟨_,_,_,q⟩:=hs;exact False.elim q
section
variable {X:Cx}{x:Str}{p pos:Pos}{e:Expr}{es:List Expr}{t:TA}{id T:String}{r:List V->Hp->VK->Prop}
def tCB(r:List V->Hp->VK->Prop)(t:TA):TE:=λ σ H Q=>t σ H λ vs H1=>r vs H1 Q
theorem zi(hc:d6 X (.builtin id) r)(hg:Gl X x)(hm:X.mg x=none)(hv:bootBuiltins x=some (.builtin id))(ha:PA X (e::es) t)(hn:x ≠ "__name__":= by decide)(hdb:ND x:=by decide)
  (he:starEach (e::es) X.env=(false,eval e X.env)::starEach es X.env:=by rfl)(hpl:(backTo pos (starEach es X.env)).any (·.1)=false:=by rfl):PE X (.Call (.Name x p) (e::es) [] pos) (tCB r t):=by
 intro pins s σ H Q I h;refine wpAny_Call_Name_kw (eP I hg hm hv ?_ hn hdb);exact PyProof.Rows.callWith_builtin1 (thn (ha pos pins s σ H _ I h) λ us s1 ⟨vs,H1,I1,r1,q1⟩=>hc pins s1 σ H1 vs us Q I1 r1 q1) he hpl
theorem yQ(hc:d6 X (.type T) r)(hg:Gl X x)(hm:X.mg x=none)(hv:bootBuiltins x=some (.type T))(ha:PA X (e::es) t)(hn:x ≠ "__name__":= by decide)(hdb:ND x:=by decide)
  (he:starEach (e::es) X.env=(false,eval e X.env)::starEach es X.env:=by rfl)(hpl:(backTo pos (starEach es X.env)).any (·.1)=false:=by rfl):PE X (.Call (.Name x p) (e::es) [] pos) (tCB r t):=by
 intro pins s σ H Q I h;refine wpAny_Call_Name_kw (eP I hg hm hv ?_ hn hdb);exact PyProof.Rows.callWith_type1 (thn (ha pos pins s σ H _ I h) λ us s1 ⟨vs,H1,I1,r1,q1⟩=>hc pins s1 σ H1 vs us Q I1 r1 q1) he hpl
end
end L2
namespace HT
open PySem PyProof.Rows
section
open PySem.SeqAt
open PySem.AutoSeq1 (wpAny_loadPart')
open PySem.MeetsSeq PySem.MeetsSeq2 PySem.MeetsSeq3
end
section
variable {prog:Program}{w:World}{A:Around}{E:VP}{s:Shared}
theorem acN{t b:Addr}{vs ws:List Value}{Q:VP}(ht:IsTup s.heap t vs.toArray)(hb:IsTup s.heap b ws.toArray)(hv:vs≠[])
  (h1:ws=[]->Q (.ref t) s)(h2:ws≠[]->Q (.ref s.heap.objs.size) {s with heap:=s.heap.push {cls:=.type "tuple",data:=.seq (vs++ws).toArray}})
  (hsz:vs.length+ws.length<=sizeLine):wpAny (model prog w) A (binaryOp .Add (.ref t) (.ref b)) Q E s:=by
 obtain⟨⟨cls,dd,data,sl⟩,ho,hc,n,hd⟩:=id ht;obtain⟨⟨cls2,dd2,data2,sl2⟩,ho2,hc2,n2,hd2⟩:=id hb;simp only at hc hd hc2 hd2;subst hc hd hc2 hd2;have e:vs.toArray++ws.toArray=(vs++ws).toArray:=by simp
 by_cases hw:ws=[]
 ·exact concat_meets ⟨_,ho,rfl⟩ ⟨_,ho2,rfl⟩ noFill_tuple_add seq_tuple_add PySem.F.slot_tuple_add PySem.F.entry_tuple_add (PySem.F.args_tuple_add_2 _ _)
   (tuple_addW1 t b vs.toArray ws.toArray n n2 dd dd2 sl sl2 (by simpa using hv) (by simp[hw])) ⟨ho,ho2,h1 hw⟩
 ·refine concat_meets ⟨_,ho,rfl⟩ ⟨_,ho2,rfl⟩ noFill_tuple_add seq_tuple_add PySem.F.slot_tuple_add PySem.F.entry_tuple_add (PySem.F.args_tuple_add_2 _ _)
   (tuple_addW2 t b vs.toArray ws.toArray n n2 dd dd2 sl sl2 (by simpa using hv) (by simpa using hw) (by rw[List.size_toArray,List.size_toArray];exact hsz)) ⟨ho,ho2,?_⟩
  rw[e];exact h2 hw
def sIx(n d:Nat):Option Int->Nat
 | none=>d
 | some v=>if v<0 then (v+(n:Int)).toNat else min v.toNat n
theorem ag9(n d:Nat)(hd:d<=n)(o:Option Int):sIx n d o<=n:=by
 cases o with
 | none=>exact hd
 | some v =>
  show(if v<0 then (v+(n:Int)).toNat else min v.toNat n)<=n
  by_cases hv:v<0
  ·rw[if_pos hv];omega
  ·rw[if_neg hv];exact Nat.min_le_right _ _
theorem yE(v:Int)(n d:Nat):(if v<0 then max (v+(n:Int)) 0 else min v (n:Int))=((sIx n d (some v):Nat):Int):=by
 show(if v<0 then max (v+(n:Int)) 0 else min v (n:Int))=(((if v<0 then (v+(n:Int)).toNat else min v.toNat n):Nat):Int)
 by_cases hv:v<0
 ·simp only[if_pos hv];omega
 ·simp only[if_neg hv];omega
theorem uV(lo hi:Option Int)(n:Nat):Builtin.Slice.sliceAdjust lo hi 1 (n:Int)=(((sIx n 0 lo:Nat):Int),((sIx n n hi:Nat):Int)):=by
 have h1:¬ ((1:Int)<0):=by omega
 unfold Builtin.Slice.sliceAdjust;simp only[h1,if_false];refine Prod.ext ?_ ?_
 ·cases lo with
  | none=>rfl
  | some v=>exact yE v n 0
 ·cases hi with
  | none=>rfl
  | some v=>exact yE v n n
theorem uE(i j:Nat):Builtin.Slice.slicePlaces (i:Int) (j:Int) 1=j-i:=by
 unfold Builtin.Slice.slicePlaces;have h1:(1:Int) > 0:=by omega
 simp only[h1,if_true,Int.ediv_one]
 split<;>omega
theorem lU{v:Value}{o:Option Int}{Q:Option Int->Shared->Prop}(p:IsPart v o)(h:Q o s):wpAny (model prog w) A (Builtin.Slice.slicePartIndex v) Q E s:=by
 cases p with
 | none=>exact slicePart_none h
 | int i t=>exact slicePart_int h
theorem jr{sl:Addr}{vl vu:Value}{lo hi:Option Int}{n:Nat}{Q:Int×Int×Nat->Shared->Prop}(hs:s.heap.IsSliceOf sl vl vu .none)(pl:IsPart vl lo)(pu:IsPart vu hi)
  (h:Q (((sIx n 0 lo:Nat):Int),1,sIx n n hi-sIx n 0 lo) s):wpAny (model prog w) A (Builtin.Slice.sliceApplied (.ref sl) (pure (n:Int))) Q E s:=by
 obtain⟨os,hos,hcs,hds⟩:=id hs;unfold Builtin.Slice.sliceApplied Builtin.Slice.sliceFields;refine wpAny_bind (wpAny_bind (wpAny_field hos hds (x:=vl) rfl (wpAny_bind (wpAny_field hos hds (x:=vu) rfl (wpAny_bind (wpAny_field hos hds (x:=.none) rfl (wpAny_pure ?_)))))));refine wpAny_bind (slicePart_none ?_);show wpAny _ _ (if ((1:Int)==0)=true then _ else _) _ _ s;rw[if_neg (by decide)];refine wpAny_bind (lU pl (wpAny_bind (lU pu (wpAny_bind (wpAny_pure ?_)))));show wpAny _ _ (match Builtin.Slice.sliceAdjust lo hi 1 (n:Int) with | (lo,hi)=>pure (lo,(1:Int),Builtin.Slice.slicePlaces lo hi 1)) _ _ s
 rw[uV lo hi n];show wpAny _ _ (pure (((sIx n 0 lo:Nat):Int),(1:Int),Builtin.Slice.slicePlaces ((sIx n 0 lo:Nat):Int) ((sIx n n hi:Nat):Int) 1)) _ _ s;rw[uE];exact wpAny_pure h
theorem aan(xs:Array Value)(i k:Nat):((List.range k).filterMap λ(m:Nat)=>xs[((i:Int)+(m:Int) * 1).toNat]?).toArray=((xs.toList.drop i).take k).toArray:=by
 have e:(λ(m:Nat)=>xs[((i:Int)+(m:Int) * 1).toNat]?)=λ m=>xs[i+m]?:=by
  funext m;have:((i:Int)+(m:Int) * 1).toNat=i+m:=by omega
  rw[this]
 rw[e];have:=pick_run xs i k;rw[List.filterMap_map] at this;have e2:((λ x=>xs[x]?) ∘ λ x=>i+x)=λ m=>xs[i+m]?:=rfl;rw[e2] at this;rw[this]
theorem ja{t sl:Addr}{items:Array Value}{vl vu:Value}{lo hi:Option Int}{Q:VP}(ht:IsTup s.heap t items)(hs:s.heap.IsSliceOf sl vl vu .none)(pl:IsPart vl lo)(pu:IsPart vu hi)
  (hw:¬ (sIx items.size 0 lo=0/\sIx items.size items.size hi=items.size))
  (h:Q (.ref s.heap.objs.size) {s with heap:=s.heap.push {cls:=.type "tuple",data:=.seq ((items.toList.drop (sIx items.size 0 lo)).take (sIx items.size items.size hi-sIx items.size 0 lo)).toArray}})
  (hsz:items.size<=sizeLine):wpAny (model prog w) A (getItem (.ref t) (.ref sl)) Q E s:=by
 have htake:sizeOk (.seq ((items.toList.drop (sIx items.size 0 lo)).take (sIx items.size items.size hi-sIx items.size 0 lo)).toArray):=by show((items.toList.drop (sIx items.size 0 lo)).take (sIx items.size items.size hi-sIx items.size 0 lo)).toArray.size<=sizeLine;rw[List.size_toArray,List.length_take,List.length_drop,Array.length_toList];omega
 have hj:sIx items.size items.size hi<=items.size:=ag9 _ _ (Nat.le_refl _) hi;obtain⟨os,hos,hcs,hds⟩:=id hs;have hTs:s.TypeIs (.ref sl) "slice":= ⟨os,hos,hcs⟩;unfold getItem
 try with_reducible refine wpAny_holding ?_
 first | refine wpAny_bind (wpAny_pure ?_) | skip
 refine wpAny_bind (wpAny_sequenceKey ht.typeIs (by decide) ?_);refine wpAny_bind (wpAny_callSpecial?_slot (name:=Str.ofString "__getitem__") ht.typeIs PyProof.Rows.slot_tuple_getitem
  (wpAny_call_entry PyProof.Rows.slot_tuple_getitem ht.typeIs entry_tuple_getitem ?_ (args_tuple_getitem _ _)))
 show wpAny _ _ (Builtin.Tuple.tupleItemsOf (.ref t) >>= _) _ _ s;refine wpAny_bind (tupleItemsOf_ ht ?_);refine wpAny_bind (wpAny_typeOf hTs ?_);rw[if_pos (by decide)];refine wpAny_bind (jr hs pl pu ?_);have hno:¬ ((((sIx items.size 0 lo:Nat):Int)==0&&(1:Int)==1&&(sIx items.size items.size hi-sIx items.size 0 lo)==items.size)=true):=by intro q;rw[Bool.and_eq_true,Bool.and_eq_true] at q;have q1:((sIx items.size 0 lo:Nat):Int)=0:=eq_of_beq q.1.1;have q2:sIx items.size items.size hi-sIx items.size 0 lo=items.size:=eq_of_beq q.2;exact hw ⟨by omega,by omega⟩
 show wpAny _ _ (if (((sIx items.size 0 lo:Nat):Int)==0&&(1:Int)==1&&(sIx items.size items.size hi-sIx items.size 0 lo)==items.size)=true then _ else _) _ _ s;rw[if_neg hno,aan]
 first
  | exact wpAny_bind (m:=Builtin.Tuple.tupleExact _) (wpAny_newObj_type (wpAny_pure ⟨_,rfl,wpAny_pure h⟩) htake)
  | exact wpAny_bind (m:=Builtin.Tuple.tupleExact _) (wpAny_newObj_type (wpAny_bind (wpAny_pure (wpAny_pure ⟨_,rfl,wpAny_pure h⟩))) htake)
  | exact wpAny_bind (wpAny_bind (m:=Builtin.Tuple.tupleExact _) (wpAny_newObj_type (wpAny_pure (wpAny_pure ⟨_,rfl,wpAny_pure h⟩)) htake))
  | exact wpAny_bind (wpAny_bind (m:=Builtin.Tuple.tupleExact _) (wpAny_newObj_type (wpAny_pure ⟨_,rfl,wpAny_pure h⟩) htake))
end
end HT
namespace L2
abbrev TO:=St->Hp->(Option Int->Hp->Prop)->Prop
def PO(X:Cx)(e:Option Expr)(t:TO):Prop:=
 ∀ (pins:PN) (s:Shared) (σ:St) (H:Hp) (Q:Option Int->Hp->Prop),Inv X pins σ H s->t σ H Q ->
  wpAny (model X.prog X.w) X.A (evalPart e X.env) (λ u s'=>∃ o H',Inv X pins σ H' s'/\IsPart u o/\Q o H') X.xe s
def ady:TO:=λ _ H Q=>Q none H
def ahG(t:TE):TO:=λ σ H Q=>t σ H λ x H1=>∃ i,x=.int i/\Q (some i) H1
section
variable {X:Cx}{e:Expr}{te:TE}{lo hi:Option Expr}{tl th:TO}{pos p2:Pos}
theorem ace:PO X none ady:=by intro pins s σ H Q I h;rw[evalPart_none];exact wpAny_pure ⟨none,H,I,.none,h⟩
theorem wR(h:PE X e te):PO X (some e) (ahG te):=by intro pins s σ H Q I hw;rw[evalPart_some];refine thn (h pins s σ H _ I hw) λ u s1 hq23=>?_;obtain⟨x,H1,I1,r1,q1⟩:=hq23;obtain⟨i,rfl,q⟩:=q1;obtain⟨t,rfl⟩:=r1;exact⟨some i,H1,I1,.int i t,q⟩
def SlR(X:Cx)(r:V->Option Int->Option Int->Hp->VK->Prop):Prop:=
 ∀ (pins:PN) (s:Shared) (σ:St) (H:Hp) (x:V) (v vl vu:Value) (lo hi:Option Int) (sl:Addr) (Q:VK),Inv X pins σ H s->RelV x v->s.heap.IsSliceOf sl vl vu .none->IsPart vl lo->IsPart vu hi->r x lo hi H Q ->
  ∃ T id,typeLookup (.type T) "__getitem__" = pure (some (.builtin id))/\s.TypeIs v T/\wpAny (model X.prog X.w) X.A (getItem v (.ref sl)) (EP X pins σ Q) X.xe s
theorem SlR.or{r r':V->Option Int->Option Int->Hp->VK->Prop}(h:SlR X r)(h':SlR X r'):SlR X (λ x lo hi H Q=>r x lo hi H Q\/r' x lo hi H Q):=by
 intro pins s σ H x v vl vu lo hi sl Q I rx hs pl pu q;rcases q with q | q
 ·exact h pins s σ H x v vl vu lo hi sl Q I rx hs pl pu q
 ·exact h' pins s σ H x v vl vu lo hi sl Q I rx hs pl pu q
def tSl(r:V->Option Int->Option Int->Hp->VK->Prop)(te:TE)(tl th:TO):TE:=λ σ H Q=>te σ H λ x H1=>tl σ H1 λ l H2=>th σ H2 λ u H3=>r x l u H3 Q
theorem zF{r:V->Option Int->Option Int->Hp->VK->Prop}(hr:SlR X r)(he:PE X e te)(hl:PO X lo tl)(hu:PO X hi th):PE X (.Subscript e (.Slice lo hi none p2) pos) (tSl r te tl th):=by intro pins s σ H Q I h;refine Subscript_ (thn (he pins s σ H _ I h) λ v s1 hq24=>?_);obtain⟨x,H1,I1,r1,q1⟩:=hq24;refine wpAny_Slice (thn (hl pins s1 σ H1 _ I1 q1) λ vl s2 ⟨l,H2,I2,pl,q2⟩=>thn (hu pins s2 σ H2 _ I2 q2) λ vu s3 hq25=>?_);obtain⟨u,H3,I3,pu,q3⟩:=hq25;rw[evalPart_none];refine wpAny_pure ?_;have I4:Inv X pins σ H3 {s3 with heap:=s3.heap.push {cls:=.type "slice",data:=.fields #[vl,vu,.none]}}:=I3.kept (t':=s3.toks) λ b ob q=>Heap.get?_push_of_some _ q;obtain⟨T,id,hT,ht,hg⟩:=hr pins {s3 with heap:=s3.heap.push {cls:=.type "slice",data:=.fields #[vl,vu,.none]}} σ H3 x v vl vu l u s3.heap.objs.size Q I4 r1 (Heap.IsSliceOf.new ..) pl pu q3;show wpAny (model X.prog X.w) X.A (subscriptTail e (.Slice lo hi none p2) v (.ref s3.heap.objs.size)) (EP X pins σ Q) X.xe {s3 with heap:=s3.heap.push {cls:=.type "slice",data:=.fields #[vl,vu,.none]}};exact tail_any (ops:=[.ref s3.heap.objs.size,v]) ht hT hg (by with_unfolding_all rfl)
def abd(xs:List V)(lo hi:Option Int):List V:=(xs.drop (HT.sIx xs.length 0 lo)).take (HT.sIx xs.length xs.length hi-HT.sIx xs.length 0 lo)
theorem j9(xs:List V)(lo hi:Option Int):(abd xs lo hi).length<=xs.length:=by
 unfold abd;rw[List.length_take,List.length_drop];omega
def aiF(K:FG):V->Option Int->Option Int->Hp->VK->Prop:=λ x lo hi H Q=>∃ a xs,x=.ref a/\SqT K H a xs /\
 ¬ (HT.sIx xs.length 0 lo=0/\HT.sIx xs.length xs.length hi=xs.length)/\∀ p,H p=none->Q (.ref p) (upd H p (.tup (abd xs lo hi)))
theorem afP:SlR X (aiF X.K):=by
 intro pins s σ H x v vl vu lo hi sl Q I rx hs pl pu h;obtain⟨a,xs,rfl,hx,hw,q⟩:=h;cases rx;obtain⟨its,r,ht,hz⟩:=I.tuple hx;have hlen:its.toArray.size=xs.length:=by rw[List.size_toArray];exact r.length.symm
 refine⟨"tuple",_,PyProof.Rows.slot_tuple_getitem.lookup,ht.typeIs,?_⟩;refine HT.ja ht hs pl pu (by rw[hlen];exact hw) ?_ (by rw[hlen];exact hz);rw[hlen];refine⟨.ref s.heap.objs.size,_,I.laid (t':=s.toks) (o:=.tup (abd xs lo hi)) (λ b ob q=>Heap.get?_push_of_some _ q) (Nat.le_refl _) ?_,rfl,q _ (I.hok.fresh (Nat.le_refl _))⟩;exact⟨Nat.le_trans (j9 xs lo hi) hz,_,(r.drop (HT.sIx xs.length 0 lo)).take (HT.sIx xs.length xs.length hi-HT.sIx xs.length 0 lo),yY.new _ _⟩
def afx(K:FG):R2:=λ x y H Q=>∃ a b xs ys,x=.ref a/\y=.ref b/\SqT K H a xs/\SqT K H b ys/\xs≠[]/\xs.length+ys.length<=sizeLine /\
 (ys=[]->Q (.ref a) H)/\(ys≠[]->∀ p,H p=none->Q (.ref p) (upd H p (.tup (xs++ys))))
theorem Vals.qR{xs:List V}{us:List Value}(r:Vals xs us):us=[] ↔ xs=[]:=by
 cases r with
 | nil=>simp
 | cons _ _=>simp
theorem adb:OpR X (binaryOp .Add) (afx X.K):=by intro pins s σ H x y v u Q I rx ry h;obtain⟨a,b,xs,ys,rfl,rfl,ha,hb,hx,hz,q1,q2⟩:=h;cases rx;cases ry;obtain⟨its,r1,p1,_⟩:=I.tuple ha;obtain⟨its2,r2,p2,_⟩:=I.tuple hb;refine HT.acN p1 p2 (λ z=>hx (r1.qR.mp z)) (λ z=>⟨.ref a,H,I,rfl,q1 (r2.qR.mp z)⟩) (λ z=>?_) (by rw[<- r1.length,<- r2.length];exact hz);refine⟨.ref s.heap.objs.size,_,I.laid (t':=s.toks) (o:=.tup (xs++ys)) (λ b ob q=>Heap.get?_push_of_some _ q) (Nat.le_refl _) ?_,rfl,q2 (λ w=>z (r2.qR.mpr w)) _ (I.hok.fresh (Nat.le_refl _))⟩;exact⟨by rw[List.length_append];exact hz,_,r1.append r2,yY.new _ _⟩
end
def ixN(n:Nat)(i:Int):Option Nat:=if 0<=i then (if i<n then some i.toNat else none) else if -(n:Int)<=i then some (i+n).toNat else none
def atI{α:Type}(xs:List α)(i:Int):Option α:=(ixN xs.length i).bind λ j=>xs[j]?
theorem wt{n:Nat}{i:Int}{j:Nat}(h:ixN n i=some j):seqIndex? i n=some j/\j<n/\-(n:Int)<=i/\i<n:=by
 unfold ixN at h
 by_cases h0:0<=i
 ·rw[if_pos h0] at h
  by_cases h1:i<n
  ·rw[if_pos h1] at h;have e:i.toNat=j:=Option.some.inj h;exact⟨by rw[seqIndex_of h0 h1,e],by omega,by omega,h1⟩
  ·rw[if_neg h1] at h;cases h
 ·rw[if_neg h0] at h
  by_cases h1:-(n:Int)<=i
  ·rw[if_pos h1] at h;have e:(i+n).toNat=j:=Option.some.inj h;exact⟨by rw[seqIndex_neg (by omega) h1,e],by omega,h1,by omega⟩
  ·rw[if_neg h1] at h;cases h
theorem mB{α:Type}{xs:List α}{i:Int}{v:α}(h:atI xs i=some v):∃ j,seqIndex? i xs.length=some j/\xs[j]? =some v/\j<xs.length/\-(xs.length:Int)<=i/\i<xs.length:=by
 unfold atI at h;cases e:ixN xs.length i with
 | none=>rw[e] at h;cases h
 | some j =>
  rw[e] at h;obtain⟨h1,h2,h3,h4⟩:=wt e;exact⟨j,h1,h,h2,h3,h4⟩
theorem yf{α:Type}{xs:List α}{j:Nat}{v:α}(h:xs[j]? =some v):atI xs (j:Int)=some v:=by
 have hj:j<xs.length:=(List.getElem?_eq_some_iff.mp h).1;have e:ixN xs.length (j:Int)=some j:=by
  unfold ixN;rw[if_pos (by omega),if_pos (by omega)];simp
 unfold atI;rw[e];exact h
def qA(b:Expr):Prop:=∀ o i,subscripted b false o i=operate [o,i] (getItem o i)
def IxR(X:Cx)(r:R2):Prop:=
 ∀ (value slice:Expr) (pins:PN) (s:Shared) (σ:St) (H:Hp) (x y:V) (v u:Value) (Q:VK),Inv X pins σ H s->RelV x v->RelV y u->r x y H Q ->
  subscripted slice false v u=operate [v,u] (getItem v u)->wpAny (model X.prog X.w) X.A (subscriptTail value slice v u) (EP X pins σ Q) X.xe s
def MtR(X:Cx)(id:String)(r:V->List V->Hp->VK->Prop):Prop:=
 ∀ (pins:PN) (s:Shared) (σ:St) (H:Hp) (x:V) (xs:List V) (v:Value) (us:List Value) (Q:VK),Inv X pins σ H s->RelV x v->Vals xs us->r x xs H Q ->
  wpAny (model X.prog X.w) X.A (call (.builtin id) (v::us)) (EP X pins σ Q) X.xe s
section
variable {X:Cx}{a b:Expr}{ta tb:TE}{pos:Pos}
theorem IxR.or{r r':R2}(h:IxR X r)(h':IxR X r'):IxR X (λ x y H Q=>r x y H Q\/r' x y H Q):=by
 intro value slice pins s σ H x y v u Q I rx ry q hs;rcases q with q | q
 ·exact h value slice pins s σ H x y v u Q I rx ry q hs
 ·exact h' value slice pins s σ H x y v u Q I rx ry q hs
theorem ahK{r:R2}(hr:IxR X r)(ha:PE X a ta)(hb:PE X b tb)(hs:qA b):PE X (.Subscript a b pos) (tOp r ta tb):=by intro pins s σ H Q I h;exact Subscript_ (ah8 ha hb I h λ v u s2 x y H2 I2 rx ry q=>hr a b pins s2 σ H2 x y v u Q I2 rx ry q (hs _ _))
def aif(K:FG):R2:=λ x y H Q=>∃ p xs i v,x=.ref p/\y=.int i/\SqL K H p xs/\atI xs i=some v/\Q v H
def aiH(K:FG):R2:=λ x y H Q=>∃ p xs i v,x=.ref p/\y=.int i/\SqT K H p xs/\atI xs i=some v/\Q v H
def aiS:R2:=λ x y H Q=>∃ z i c,x=.str z/\y=.int i/\z.length<=sizeLine/\atI z.cps.toList i=some c/\Q (.str ⟨#[c]⟩) H
theorem aee:IxR X (aif X.K):=by
 intro value slice pins s σ H x y v u Q I rx ry h hs;obtain⟨p,xs,i,z,rfl,rfl,hq,he,q⟩:=h;cases rx;obtain⟨t,rfl⟩:=ry;obtain⟨its,r,pl,hz⟩:=I.list hq;obtain⟨j,h1,h2,h3,h4,h5⟩:=mB he;obtain⟨w,ew,rw'⟩:=r.get h2;have hl:=r.length;have hn:=kG;have fin:EP X pins σ Q w s:=⟨z,H,I,rw',q⟩
 by_cases h0:0<=i
 ·have hj:i.toNat=j:=by rw[seqIndex_of h0 h5] at h1;exact Option.some.inj h1
  exact item_listR pl.isList h0 (by omega) (by rw[hj];simpa using ew) fin hs
 ·have hj:(i+(its.toArray.size:Int)).toNat=j:=by rw[seqIndex_neg (by omega) h4] at h1;rw[List.size_toArray,<- hl];exact Option.some.inj h1
  exact subscriptTail_builtinR (x:=w) pl.isList.typeIs slot_list_getitem.lookup
   (wpAny_getItem_list_neg (Q:=λ r s'=>r=w/\EP X pins σ Q r s') pl.isList (by omega) (by rw[List.size_toArray]<;>omega) (by omega) (by rw[hj];simpa using ew) ⟨rfl,fin⟩) hs
theorem agE:IxR X (aiH X.K):=by
 intro value slice pins s σ H x y v u Q I rx ry h hs;obtain⟨p,xs,i,z,rfl,rfl,hq,he,q⟩:=h;cases rx;obtain⟨t,rfl⟩:=ry;obtain⟨its,r,pl,hz⟩:=I.tuple hq;obtain⟨j,h1,h2,h3,h4,h5⟩:=mB he;obtain⟨w,ew,rw'⟩:=r.get h2;have hl:=r.length;have hn:=kG;have fin:EP X pins σ Q w s:=⟨z,H,I,rw',q⟩;exact subscriptTail_builtinR (x:=w) pl.typeIs slot_tuple_getitem.lookup
  (getItem_tuple (j:=j) (Q:=λ r s'=>r=w/\EP X pins σ Q r s') pl (by omega) (by omega) (by rw[List.size_toArray,<- hl];exact h1) (by simpa using ew) ⟨rfl,fin⟩) hs
theorem agH:IxR X aiS:=by
 intro value slice pins s σ H x y v u Q I rx ry h hs;obtain⟨z,i,c,rfl,rfl,hz,he,q⟩:=h;obtain⟨t,rfl⟩:=rx;obtain⟨t',rfl⟩:=ry;obtain⟨j,h1,h2,h3,h4,h5⟩:=mB he;have hl:z.cps.toList.length=z.length:=by simp[Str.length]
 rw[hl] at h1 h4 h5;have hn:=kG;exact tail_any (typeIs_str s z t) slot_str_getitem.lookup (getItem_str (c:=c) (by have e1:decide (i < -(2 ^ 63:Int))=false:=decide_eq_false (by omega);have e2:decide (i >= 2 ^ 63)=false:=decide_eq_false (by omega);rw[e1,e2,Bool.or_false]) (by rw[h1];simpa using h2) ⟨.str ⟨#[c]⟩,H,I.tok _,⟨_,rfl⟩,q⟩) hs
def rIx(K:FG):R2:=λ x y H Q=>aif K x y H Q\/aiH K x y H Q\/aiS x y H Q
theorem aC:IxR X (rIx X.K):=aee.or (agE.or agH)
theorem uD(its:List Value)(n j:Nat)(u:Value):Obj.mapSeq (·.setIfInBounds j u) {cls:=.type "list",data:=.seq its.toArray n}={cls:=.type "list",data:=.seq (its.set j u).toArray n}:=by simp[Obj.mapSeq]
theorem Inv.lst{pins:PN}{σ:St}{H:Hp}{s:Shared}{p:Addr}{xs:List V}(I:Inv X pins σ H s)(h:H p=some (.lst xs)) :
  ∃ (its:List Value) (n:Nat),Vals xs its/\s.heap.get? p=some {cls:=.type "list",data:=.seq its.toArray n}/\xs.length<=sizeLine:=by
 obtain⟨z,its,n,r,e⟩:=I.hok p _ h;exact⟨its,n,r,e,z⟩
theorem Inv.ahe{pins:PN}{σ:St}{H:Hp}{s:Shared}{p:Addr}{xs ys:List V}{its its':List Value}{n n':Nat}{f:Obj->Obj}(I:Inv X pins σ H s)(h:H p=some (.lst xs))
  (ho:s.heap.get? p=some {cls:=.type "list",data:=.seq its.toArray n})(hf:f {cls:=.type "list",data:=.seq its.toArray n}={cls:=.type "list",data:=.seq its'.toArray n'})(r:Vals ys its')(hz:ys.length<=sizeLine)(t:Nat) :
  Inv X pins σ (upd H p (.lst ys)) {s with heap:=s.heap.update p f,toks:=t}:=by
 have e:(s.heap.update p f).get? p=some {cls:=.type "list",data:=.seq its'.toArray n'}:=by rw[Heap.get?_update_self f ho (by rw[hf]<;>rfl),hf]
 refine I.write (x:=p) (e:=p) (by rw[h];trivial) (.inl rfl) (λ b u hb q=>(Heap.get?_update_other _ _ (Ne.symm hb)).trans q) ⟨_,e⟩ ?_;exact⟨hz,its',n',r,e⟩
def ahA:V->V->V->Hp->(Hp->Prop)->Prop:=λ o i v H Q=>∃ p xs k j,o=.ref p/\i=.int k/\H p=some (.lst xs)/\ixN xs.length k=some j/\Q (upd H p (.lst (xs.set j v)))
theorem set_list:ahD X ahA:=by
 intro pins s σ H o i v ov iv u Q I ro ri rv h;obtain⟨p,xs,k,j,rfl,rfl,hp,hj,q⟩:=h;cases ro;obtain⟨t,rfl⟩:=ri;obtain⟨its,n,r,ho,hz⟩:=I.lst hp;obtain⟨h1,h2,h3,h4⟩:=wt hj;have hl:=r.length;have hn:=kG;have I':Inv X pins σ (upd H p (.lst (xs.set j v))) {s with heap:=s.heap.update p (Obj.mapSeq (·.setIfInBounds j u))}:=
  I.ahe hp ho (uD its n j u) (r.set rv j) (by rw[List.length_set];exact hz) s.toks
 by_cases h0:0<=k
 ·have hk:k.toNat=j:=by rw[seqIndex_of h0 h4] at h1;exact Option.some.inj h1
  exact W.ki_setAt ho h0 (by omega) (by rw[List.size_toArray,<- hl];exact h4) (by rw[hk];exact⟨_,I',q⟩)
 ·have hk:(k+(its.toArray.size:Int)).toNat=j:=by rw[seqIndex_neg (by omega) h3] at h1;rw[List.size_toArray,<- hl];exact Option.some.inj h1
  exact W.ki_setBack ho (by omega) (by rw[List.size_toArray,<- hl];exact h3) (by omega) (by rw[hk];exact⟨_,I',q⟩)
theorem ph(lo hi:Option Int)(n:Nat):(sliceBounds lo hi none n).1=((HT.sIx n 0 lo:Nat):Int)/\(sliceBounds lo hi none n).2.1=((HT.sIx n n hi:Nat):Int)/\(sliceBounds lo hi none n).2.2=1:=by
 refine⟨?_,?_,rfl⟩
 ·cases lo with
  | none=>simp[sliceBounds,HT.sIx]
  | some i =>
   simp only[sliceBounds,HT.sIx,Option.getD_none,show(1:Int) > 0 by decide,if_true]
   by_cases h:i<0
   ·simp only[h,if_true]<;>omega
   ·simp only[h,if_false]<;>omega
 ·cases hi with
  | none=>simp[sliceBounds,HT.sIx]
  | some i =>
   simp only[sliceBounds,HT.sIx,Option.getD_none,show(1:Int) > 0 by decide,if_true]
   by_cases h:i<0
   ·simp only[h,if_true]<;>omega
   ·simp only[h,if_false]<;>omega
theorem mO(its:List Value)(lo hi:Option Int):slicePick its.toArray lo hi none=((its.drop (HT.sIx its.length 0 lo)).take (HT.sIx its.length its.length hi-HT.sIx its.length 0 lo)).toArray:=by obtain⟨h1,h2,h3⟩:=ph lo hi its.toArray.size;unfold slicePick;rw[h1,h2,h3];simp only[sliceRange_one,pick_run,List.size_toArray]<;>rfl
def aiJ(K:FG):V->Option Int->Option Int->Hp->VK->Prop:=λ x lo hi H Q=>∃ a xs,x=.ref a/\SqL K H a xs/\∀ p,H p=none->Q (.ref p) (upd H p (.lst (abd xs lo hi)))
theorem acH:SlR X (aiJ X.K):=by intro pins s σ H x v vl vu lo hi sl Q I rx hs pl pu h;obtain⟨a,xs,rfl,hx,q⟩:=h;cases rx;obtain⟨its,r,ht,hz⟩:=I.list hx;have hlen:=r.length;refine⟨"list",_,slot_list_getitem.lookup,ht.isList.typeIs,?_⟩;refine wpAny_getItem_list_slice ht.isList hs pl pu .none (by simp) ?_ (by rw[List.size_toArray]<;>omega);rw[mO,<- hlen];refine⟨.ref s.heap.objs.size,_,I.laid (t':=s.toks) (o:=.lst (abd xs lo hi)) (λ b ob q=>Heap.get?_push_of_some _ q) (Nat.le_refl _) ?_,rfl,q _ (I.hok.fresh (Nat.le_refl _))⟩;exact⟨Nat.le_trans (j9 xs lo hi) hz,_,0,(r.drop (HT.sIx xs.length 0 lo)).take (HT.sIx xs.length xs.length hi-HT.sIx xs.length 0 lo),Heap.get?_push_size _ rfl⟩
def ll:V->Bool
 | .non=>true
 | .bl _=>true
 | .int _=>true
 | .str _=>true
 | _=>false
def eqV:V->V->Bool
 | .non,.non=>true
 | .bl a,.bl b=>a==b
 | .bl a,.int b=>(if a then 1 else 0)==b
 | .int a,.bl b=>a==(if b then 1 else 0)
 | .int a,.int b=>a==b
 | .str a,.str b=>a==b
 | _,_=>false
theorem agr{A:Around}{s:Shared}{y x:V}{u v:Value}(ry:RelV y u)(rx:RelV x v)(fy:ll y=true)(fx:ll x=true):SeqAt.EqAt A s u v (eqV y x):=by
 cases y with
 | non =>
  cases ry;cases x with
  | non=>cases rx;exact SeqAt.EqAt.same _
  | bl b=>cases rx;exact SeqAt.EqAt.none_bool b
  | int b=>obtain⟨t,rfl⟩:=rx;exact SeqAt.EqAt.none_int b t
  | str b=>obtain⟨t,rfl⟩:=rx;exact SeqAt.EqAt.none_str b t
  | _=>exact absurd (show false=true from fx) Bool.false_ne_true
 | bl a =>
  cases ry;cases x with
  | non=>cases rx;exact SeqAt.EqAt.bool_none a
  | bl b=>cases rx;exact SeqAt.EqAt.bool_bool a b
  | int b=>obtain⟨t,rfl⟩:=rx;exact SeqAt.EqAt.bool_int a b t
  | str b=>obtain⟨t,rfl⟩:=rx;exact SeqAt.EqAt.bool_str a b t
  | _=>exact absurd (show false=true from fx) Bool.false_ne_true
 | int a =>
  obtain⟨t',rfl⟩:=ry;cases x with
  | non=>cases rx;exact SeqAt.EqAt.int_none a t'
  | bl b=>cases rx;exact SeqAt.EqAt.int_bool a t' b
  | int b=>obtain⟨t,rfl⟩:=rx;exact SeqAt.EqAt.int_int a t' b t
  | str b=>obtain⟨t,rfl⟩:=rx;exact SeqAt.EqAt.int_str a t' b t
  | _=>exact absurd (show false=true from fx) Bool.false_ne_true
 | str a =>
  obtain⟨t',rfl⟩:=ry;cases x with
  | non=>cases rx;exact SeqAt.EqAt.str_none a t'
  | bl b=>cases rx;exact SeqAt.EqAt.str_bool a t' b
  | int b=>obtain⟨t,rfl⟩:=rx;exact SeqAt.EqAt.str_int a t' b t
  | str b=>obtain⟨t,rfl⟩:=rx;exact SeqAt.EqAt.str_str a t' b t
  | _=>exact absurd (show false=true from fx) Bool.false_ne_true
 | _=>exact absurd (show false=true from fy) Bool.false_ne_true
def eqU(x:V)(u:Value):Bool:=match u with
 | .none=>eqV .non x
 | .bool b=>eqV (.bl b) x
 | .int i _=>eqV (.int i) x
 | .str z _=>eqV (.str z) x
 | _=>false
theorem abm{x y:V}{u:Value}(r:RelV y u)(f:ll y=true):eqU x u=eqV y x:=by
 cases y with
 | non=>cases r;rfl
 | bl b=>cases r;rfl
 | int i=>obtain⟨t,rfl⟩:=r;rfl
 | str z=>obtain⟨t,rfl⟩:=r;rfl
 | _=>exact absurd (show false=true from f) Bool.false_ne_true
theorem jX{x:V}:∀ {xs:List V} {us:List Value},Vals xs us->xs.all ll=true->us.any (eqU x)=xs.any λ y=>eqV y x
 | _,_,.nil,_=>rfl
 | y::xs,u::us,.cons r t,f=>by rw[List.all_cons,Bool.and_eq_true] at f;rw[List.any_cons,List.any_cons,abm r f.1,jX t f.2]
theorem iE{A:Around}{s:Shared}{x:V}{v:Value}(rx:RelV x v)(fx:ll x=true):∀ {xs:List V} {us:List Value},Vals xs us->xs.all ll=true->∀ u∈us,SeqAt.EqAt A s u v (eqU x u)
 | _,_,.nil,_=>λ u hu=>by cases hu
 | y::xs,u::us,.cons r t,f=>λ u' hu=>by
  rw[List.all_cons,Bool.and_eq_true] at f;rcases List.mem_cons.mp hu with rfl | hu
  ·rw[abm r f.1];exact agr r rx f.1 fx
  ·exact iE rx fx t f.2 u' hu
def inV(x:V)(xs:List V):Bool:=xs.any λ y=>eqV y x
def rIn(K:FG)(neg:Bool):R2:=λ x y H Q=>∃ p xs,y=.ref p/\(SqL K H p xs\/SqT K H p xs)/\ll x=true/\xs.all ll=true/\Q (.bl (if neg then !inV x xs else inV x xs)) H
theorem oJ:OpR X (compareOp .In) (rIn X.K false):=by
 intro pins s σ H x y v u Q I rx ry h;obtain⟨p,xs,rfl,hq,fx,fs,q⟩:=h;cases ry;rcases hq with hq | hq
 ·obtain⟨its,r,pl,hz⟩:=I.list hq;refine SeqAt.in_listAt (eqU x) pl.isList (λ w hw=>iE rx fx r fs w (by simpa using hw)) ⟨.bl _,H,I,rfl,?_⟩;rw[show its.toArray.any (eqU x)=its.any (eqU x) by simp,jX r fs];exact q
 ·obtain⟨its,r,pl,hz⟩:=I.tuple hq;refine SeqAt.in_tupleAt (eqU x) pl (λ w hw=>iE rx fx r fs w (by simpa using hw)) ⟨.bl _,H,I,rfl,?_⟩;rw[show its.toArray.any (eqU x)=its.any (eqU x) by simp,jX r fs];exact q
theorem eO:OpR X (compareOp .NotIn) (rIn X.K true):=by
 intro pins s σ H x y v u Q I rx ry h;obtain⟨p,xs,rfl,hq,fx,fs,q⟩:=h;cases ry;rcases hq with hq | hq
 ·obtain⟨its,r,pl,hz⟩:=I.list hq;refine SeqAt.notIn_listAt (eqU x) pl.isList (λ w hw=>iE rx fx r fs w (by simpa using hw)) ⟨.bl _,H,I,rfl,?_⟩;rw[show its.toArray.any (eqU x)=its.any (eqU x) by simp,jX r fs];exact q
 ·obtain⟨its,r,pl,hz⟩:=I.tuple hq;refine SeqAt.notIn_tupleAt (eqU x) pl (λ w hw=>iE rx fx r fs w (by simpa using hw)) ⟨.bl _,H,I,rfl,?_⟩;rw[show its.toArray.any (eqU x)=its.any (eqU x) by simp,jX r fs];exact q
theorem dG:d6 X (.type "list") (λ xs H Q=>∃ p ys,xs=[.ref p]/\(SqL X.K H p ys\/SqT X.K H p ys)/\∀ l,H l=none->Q (.ref l) (upd H l (.lst ys))):=by
 intro pins s σ H xs us Q I r h;obtain⟨p,ys,rfl,hq,q⟩:=h;obtain⟨u,rfl,rx⟩:=vals1 r;cases rx;have fin:∀ (its:List Value),Vals ys its->ys.length<=sizeLine->∀ (h':Heap) (c':Nat),(∀ b o',s.heap.get? b=some o'->h'.get? b=some o') ->
   h'.get? s.heap.objs.size=some {cls:=.type "list",dict:=none,data:=.seq its.toArray c',slots:=#[]}->EP X pins σ Q (.ref s.heap.objs.size) {s with heap:=h'}:=λ its r' hz h' c' kp e =>
  ⟨.ref s.heap.objs.size,_,I.laid (t':=s.toks) kp (Nat.le_refl _) (show c4 X.prog X.w _ h' _ (.lst ys) from⟨hz,its,c',r',e⟩),rfl,q _ (I.hok.fresh (Nat.le_refl _))⟩
 rcases hq with hq | hq
 ·obtain⟨its,r',pl,hz⟩:=I.list hq;have hlen:=r'.length;obtain⟨o,ho,hc,n,hd⟩:=pl.isList;exact call_list_seq p (.inl rfl) ho hc hd (λ h' c' kp e=>fin its r' hz h' c' kp e) (by simp only[List.size_toArray]<;>omega)
 ·obtain⟨its,r',pl,hz⟩:=I.tuple hq;have hlen:=r'.length;obtain⟨o,ho,hc,n,hd⟩:=pl;exact call_list_seq p (.inr rfl) ho hc hd (λ h' c' kp e=>fin its r' hz h' c' kp e) (by simp only[List.size_toArray]<;>omega)
def tyV(K:FG)(T:String)(x:V)(H:Hp):Prop:=match x with
 | .str _=>T = "str"
 | .int _=>T = "int"
 | .ref p=>(T = "list" /\ ∃ xs,SqL K H p xs)\/(T = "tuple" /\ ∃ xs,SqT K H p xs) \/
   (T = "dict" /\ ((∃ kvs,H p=some (.dK kvs))\/∃ kvs,H p=some (.dT kvs)))\/(T = "set" /\ ∃ S n,H p=some (.set S n))
 | _=>False
theorem aeQ{pins:PN}{σ:St}{H:Hp}{s:Shared}{T:String}{x:V}{v:Value}(I:Inv X pins σ H s)(r:RelV x v)(ty:tyV X.K T x H) :
  s.TypeIs v T/\∀ a,v=.ref a->∃ ob,s.heap.get? a=some ob/\ob.dict=none:=by
 cases x with
 | str z =>
  obtain⟨t,rfl⟩:=r;cases (show T = "str" from ty);exact⟨typeIs_str s z t,λ _ e=>nomatch e⟩
 | int i =>
  obtain⟨t,rfl⟩:=r;cases (show T = "int" from ty);exact⟨typeIs_int s i t,λ _ e=>nomatch e⟩
 | ref p =>
  cases r;rcases ty with ⟨rfl,xs,hq⟩ | ⟨rfl,xs,hq⟩ | ⟨rfl,hk⟩ | ⟨rfl,S,n,hk⟩
  ·obtain⟨its,_,pl,_⟩:=I.list hq;refine⟨pl.isList.typeIs,λ a e=>?_⟩;cases e;obtain⟨o,n,e,c,hd,_⟩:=pl;exact⟨o,e,hd⟩
  ·obtain⟨its,_,⟨o,h1,h2,h3,_⟩,_⟩:=I.aiX hq;refine⟨⟨o,h1,h2⟩,λ a e=>?_⟩;cases e;exact⟨o,h1,h3⟩
  ·have z:∃ o,s.heap.get? p=some o/\o.ExactDict:=by
    rcases hk with ⟨kvs,hk⟩ | ⟨kvs,hk⟩
    ·obtain⟨_,_,_,_,o,_,_,e,ex,_⟩:=I.hok p _ hk;exact⟨o,e,ex⟩
    ·obtain⟨_,_,_,_,o,_,_,e,ex,_⟩:=I.hok p _ hk;exact⟨o,e,ex⟩
   obtain⟨o,e,ex⟩:=z;refine⟨⟨o,e,ex.1⟩,λ a e2=>?_⟩;cases e2;exact⟨o,e,ex.2.1⟩
  ·obtain⟨o,_,_,_,e,ex,_⟩:=I.hok p _ hk;refine⟨⟨o,e,ex.1⟩,λ a e2=>?_⟩;cases e2;exact⟨o,e,ex.2.1⟩
 | _=>exact False.elim ty
def tBM(K:FG)(T:String)(r:V->List V->Hp->VK->Prop)(to:TE)(t:TA):TE:=λ σ H Q=>to σ H λ x H1=>tyV K T x H1/\t σ H1 λ xs H2=>r x xs H2 Q
variable {o e:Expr}{es:List Expr}{to:TE}{t:TA}{name:Str}{apos cpos:Pos}{T id:String}{r:V->List V->Hp->VK->Prop}
theorem ahO(pa:PlainAttrs T)(slot:Slot T name id)(hty:typeOf (.builtin id)=pure (.type "method_descriptor"))(hm:MtR X id r)(ho:PE X o to)(ha:PA X (e::es) t)
  (hbase:attributeBase o name X.env (eval o X.env)=eval o X.env:=by rfl)
  (hfew:((backTo cpos (starEach (e::es) X.env)).all (λ x=>!x.1)&&(backToKw cpos (keywordEach [] X.env)).all (λ x=>x.1.isSome)
   && decide ((e::es).length+([]:List Keyword).length+(if ([]:List Keyword).isEmpty then 0 else 1)<30))=true:=by rfl)
  (hline:(apos.endLine==cpos.line)=true:=by rfl)(hs:starEach (e::es) X.env=(false,eval e X.env)::starEach es X.env:=by rfl)(hplain:(backTo cpos (starEach es X.env)).any (·.1)=false:=by rfl) :
  PE X (.Call (.Attribute o name apos) (e::es) [] cpos) (tBM X.K T r to t):=by
 intro pins s σ H Q I h;refine wpAny_Call_method_late hbase hfew hline rfl (thn (ho pins s σ H _ I h) λ v s1 hq26=>?_);obtain⟨x,H1,I1,r1,ty,q1⟩:=hq26;obtain⟨h1,h2⟩:=aeQ I1 r1 ty;refine⟨T,id,pa,slot,hty,h1,h2,?_⟩;have hA:=ha cpos pins s1 σ H1 _ I1 q1;rw[hs] at hA ⊢;refine Calls.callWith_builtin (by show(false || (backTo cpos (starEach es X.env)).any (·.1))=false;rw[hplain]<;>rfl) (Calls.evalArgs_plain ?_);exact thn hA λ us s2 ⟨vs,H2,I2,r2,q2⟩=>hm pins s2 σ H2 x vs v us Q I2 r1 r2 q2
end
def MtM(X:Cx)(id:String)(r:V->List V->Hp->VK->Prop):Prop:=
 ∀ (pins:PN) (s:Shared) (σ:St) (H:Hp) (x:V) (xs:List V) (v:Value) (us:List Value) (Q:VK),Inv X pins σ H s->RelV x v->Vals xs us->r x xs H Q ->
  wpAny (model X.prog X.w) X.A (call (.builtin id) (v::us)) (EP X pins σ Q) X.xe s
theorem Vals.one:∀ {x:V} {us:List Value},Vals [x] us->∃ u,us=[u]/\RelV x u
 | _,_,.cons r .nil=>⟨_,rfl,r⟩
section
variable {X:Cx}{pins:PN}{σ:St}{H:Hp}{s:Shared}{l b:Addr}{xs ys zs:List V}
theorem Inv.aji{its its':List Value}{n:Nat}{f:Array Value->Array Value}{t':Nat}(I:Inv X pins σ H s)(hH:H l=some (.lst xs))
  (e:s.heap.get? l=some {cls:=.type "list",data:=.seq its.toArray n})(hf:f its.toArray=its'.toArray)(hv:Vals ys its')(hz:ys.length<=sizeLine) :
  Inv X pins σ (upd H l (.lst ys)) {s with heap:=s.heap.update l (Obj.mapSeq f),toks:=t'}:=by
 have q:=PySem.IsL.update e f;rw[hf] at q;refine I.write (x:=l) (e:=l) (by rw[hH];exact trivial) (.inl rfl) (λ b' u hb hu=>(Heap.get?_update_other s.heap (Obj.mapSeq f) (Ne.symm hb)).trans hu) ⟨_,q⟩ ?_;exact⟨hz,its',_,hv,q⟩
theorem Inv.ajj{its:List Value}{t':Nat}(I:Inv X pins σ H s)(hv:Vals ys its)(hz:ys.length<=sizeLine) :
  Inv X pins σ (upd H s.heap.objs.size (.lst ys)) {s with heap:=s.heap.push {cls:=.type "list",data:=.seq its.toArray},toks:=t'}:=
 I.laid (λ _ _ q=>Heap.get?_push_of_some _ q) (Nat.le_refl _) ⟨hz,its,0,hv,Heap.get?_push_size _ rfl⟩
theorem Inv.fresh(I:Inv X pins σ H s):H s.heap.objs.size=none:=I.hok.fresh (Nat.le_refl _)
theorem Inv.ajC(I:Inv X pins σ H s)(hH:H l=some (.lst xs)):xs.length<=sizeLine/\∃ (its:List Value) (n:Nat),Vals xs its/\xs.length=its.length/\s.heap.get? l=some {cls:=.type "list",data:=.seq its.toArray n}:=by obtain⟨z,its,n,r,e⟩:=I.hok l _ hH;exact⟨z,its,n,r,r.length,e⟩
end
section
variable {X:Cx}
def adW:V->List V->Hp->VK->Prop:=λ x vs H Q=>∃ l xs y,x=.ref l/\vs=[y]/\H l=some (.lst xs)/\xs.length<sizeLine/\Q .non (upd H l (.lst (xs++[y])))
theorem wK:MtM X "list.append" adW:=by intro pins s σ H x vs v us Q I rx rv h;obtain⟨l,xs,y,rfl,rfl,hH,hz,q⟩:=h;cases rx;obtain⟨u,rfl,ru⟩:=rv.one;obtain⟨z,its,n,r,hl,e⟩:=I.ajC hH;refine call_meets F.slot_list_append ⟨_,e,rfl⟩ F.entry_list_append (F.args_list_append_2 _ _) (PySem.list_append l its.toArray n u (by rw[List.size_toArray];omega)) ⟨e,?_⟩;refine⟨.non,_,I.aji (its':=its++[u]) hH e (by simp) (r.append (.cons ru .nil)) ?_,rfl,q⟩;rw[List.length_append,List.length_singleton];omega
end
section
variable {prog:Program}{w:World}{A:Around}{E:VP}{s:Shared}
end
section
variable {X:Cx}
end
end L2
namespace Att
open PySem PySem.W PySem.Calls PyProof.Rows
theorem kM{P:Params}{h:Heap}:∀ (ns:List Int) (vs:List Value),WellAll P h vs (ns.map WData.int)->IntsAre vs ns:=by
 intro ns
 induction ns with
 | nil =>
  intro vs w;rw[List.map_nil] at w;cases w;exact .nil
 | cons n ns ih =>
  intro vs w;rw[List.map_cons] at w;cases w with
  | cons a b =>
   cases a;exact .cons _ _ (ih _ b)
theorem yo{l:OpenLaw}{n:Nat}(hn:l.most=some n){P:Params}{h:Heap}{args:List WData}{vals:List Value}
  (hpre:l.row.toRowW.claim.pre args=true)(hwl:WellAll P h vals args) :
  ∃ a vs ns,vals=[Value.ref a]/\args=[WData.list (ns.map WData.int)]/\h.get? a=some {cls:=.type "list",data:=.seq vs.toArray}/\IntsAre vs ns/\ns.length<=n:=by
 have hsh:WShape.hasAll [] args [.list .int]=true:=(pre_splitW hpre).1;have hc:l.pre.holds [] {args:=args}=true:=(pre_splitW hpre).2;obtain⟨d,r,rfl,h1,h2⟩:=hasAllW_cons hsh;obtain rfl:=hasAllW_nil h2;obtain⟨xs,rfl,h3⟩:=hasW_list h1;obtain⟨ns,rfl⟩:=items_int h3;have hlen:ns.length<=n:=by
  unfold OpenLaw.pre at hc;have h4:(WTm.not (.lt (.lit (.int (n:Int))) (.len (.arg 0)))).holds [] {args:=[.list (ns.map .int)]}=true:=by have h4:=(holds_andW hc).1;rw[hn] at h4;exact h4
  have h5:=condW_of h4 (w_not (w_lt w_lit (w_len_list (w_arg rfl))));rw[List.length_map] at h5;refine Nat.le_of_not_lt λ q=>?_;have q':(n:Int)<((ns.length:Nat):Int):=by omega
  first
   | (rw[decide_eq_true q'] at h5;exact absurd h5 (by decide))
   | (simp at h5;omega)
 cases hwl with
 | cons w1 w2 =>
  cases w2;cases w1 with
  | list ho hall=>exact⟨_,_,ns,rfl,rfl,ho,kM ns _ hall,hlen⟩
theorem wG(l:OpenLaw)(args:List WData):l.row.toRowW.claim.post args (.bool true) args=true:=
 postW_of (r:=l.row.toRowW) (X:=(true==true))
  (show WShape.has [] (.bool true) .bool=true by first | rfl | decide | simp[WShape.has,WShape.arms,WShape.armsAll])
  (show(WTm.eq .res (.lit (.bool true))).value [] {args:=args,res:=some (.bool true),after:=args}=some (.bool (true==true)) from w_eq_bool (w_res rfl) w_lit) rfl
theorem qB{l:OpenLaw}{n:Nat}{q:Program}{loose:List Str}{XP:(Str->Option Value)->Heap->Prop}{YP:World->Heap->Prop}{d:DefRec}
  (hn:l.most=some n)(hdf:d.params.defaults=[])
  (call:∀ (w:World) (s₀ s₁:Shared) (mg mb:Str->Option Value) (fa:Addr) (o:Obj) (pm cd doc:Value) (a:Addr) (vs:List Value) (ns:List Int),
   Ground q loose [] XP w s₀ mg mb s₁.heap->YP w s₁.heap ->
   s₁.heap.get? fa=some o->o.data=.func (docDef d.name d.params d.body d.scope pm cd doc)->s₁.heap.CodeRec cd d.name->mg d.name=some (.ref fa) ->
   s₁.heap.get? a=some {cls:=.type "list",data:=.seq vs.toArray}->IntsAre vs ns->ns.length<=n->s₁.gens = #[] ->
   codeAny (model l.prog w) callerA (.call (.ref fa) ⟨[.ref a],[]⟩) (λ r s'=>r=.ok (.ret (.bool true))/\OldK s₁.heap s'.heap/\s'.os=s₁.os/\AllBare s'.gens) s₁) :
  WalkO q loose XP YP l.row.toRowW d [] (λ f vs=>PySem.call f vs):=by
 intro w s₀ s₁ mg mb G Y fa o pm cd doc dV kV ho hd hcd hD hmg hg args vals as hpre hlay hrd hwl hlo;obtain rfl:dV=.none:=Dflts.none hD hdf;obtain rfl:kV=.none:=Dflts.noKw hD;obtain⟨a,vs,ns,rfl,rfl,hobj,hints,hlen⟩:=yo hn hpre hwl;refine enter_call (codeAny_mono (call w s₀ s₁ mg mb fa o pm cd doc a vs ns G Y ho (fd_plain hd) hcd hmg hobj hints hlen hg) λ r s' hq=>?_);obtain⟨rfl,h2,h3,h4⟩:=hq;exact⟨.inl ⟨.bool true,.bool true,[],rfl,λ _=>rfl,.bool true,wG l _,λ _=>⟨List.Pairwise.nil,λ _ hm=>(nomatch hm)⟩⟩,h2,h3,h4⟩
section
variable {prog:Program}{w:World}{A:Around}{E:VP}{s:Shared}{K:Frag}
end
end Att
namespace L2
theorem gh:∀ {vs:List Value} {ns:List Int},IntsAre vs ns->Vals (ns.map V.int) vs
 | _,_,.nil=>.nil
 | _,_,.cons n t h=>.cons ⟨t,rfl⟩ (gh h)
def bM(s:Stmt):Arguments:=match s with
 | .FunctionDef _ a _ _ _ _ _ _ _ _=>a
 | _=>{posonlyargs:=[],args:=[],vararg:=none,kwonlyargs:=[],kw_defaults:=[],kwarg:=none,defaults:=[]}
def bu(s:Stmt):List Stmt:=match s with
 | .FunctionDef _ _ b _ _ _ _ _ _ _=>b
 | _=>[]
def ao(s:Stmt):Scope:=match s with
 | .FunctionDef _ _ _ _ _ _ sc _ _ _=>sc
 | _=>{kind:=.function,names:=[],isGenerator:=false,isCoroutine:=false}
abbrev CX0:CXT:=λ _ _ _ _ _ _=>False
abbrev E0:XK:=λ _ _ _=>False
theorem afT{X:Cx}:Passes CX0 X E0:=λ _ _ _ _ _ _ _ h=>h.elim
structure Fun(K:FG)(x qual:Str)(st:Stmt)(f:Addr)(fd:FuncData):Prop where
 ex:∃ (oc:Value) (od:Option Addr) (kV doc pm:Value) (an:Option Addr) (cdv ct:Value) (osl:Array (Option Value)),
  fd=W.fnOf x qual (bM st) (bu st) (ao st) .none kV doc pm an cdv ct/\K.lookup f=some ⟨oc,od,.func fd,osl⟩/\W.codeIn K cdv qual=true
 kp:W.keepIn K (.ref f)=true
section
variable {P:Program}{w:World}{K:FG}{mg:Str->Option Value}{base:Heap}
theorem Fun.ok{x qual:Str}{st:Stmt}{f:Addr}{fd:FuncData}{N ps:List Str}{k:Nat}{sp:Sp}(F:Fun K x qual st f fd)(S:aN N ps (ao st))(len:∀ vs H Q E,sp vs H Q E->vs.length=ps.length)
  (hbody:∀ (cdv:Value) (A:Around) (outer:List Env) (s:Shared) (H:Hp) (vs:List V) (Q:VK) (E:XK),eQ k (A.deeper (envOfC qual (ao st) s.heap.objs.size f cdv))->sp vs H Q E ->
   ∃ t,PSs (zQ CX0 P w K mg base N qual (ao st) f cdv A outer s H E).nox (bu st) t/\t {nx:=λ _ H'=>Q .non H',rt:=Q} (start N vs) H):eB P w K mg base CX0 (k+1) f fd ps sp:=by
 obtain⟨oc,od,kV,doc,pm,an,cdv,ct,osl,rfl,lk,hcd⟩:=F.ex;refine adL lk hcd S len λ A outer s H vs Q E hr hsp=>?_;obtain⟨t,h,q⟩:=hbody cdv A outer s H vs Q E hr hsp;exact⟨t,h.nox,q⟩
theorem Fun.binds{x qual:Str}{st:Stmt}{f:Addr}{fd:FuncData}{ps:List Str}(F:Fun K x qual st f fd)
  (h:∀ (kV doc pm:Value) (an:Option Addr) (cdv ct:Value) (us:List Value),us.length=ps.length->bindArgs (W.fnOf x qual (bM st) (bu st) (ao st) .none kV doc pm an cdv ct) ⟨us,[]⟩=pure (ps.zip us)):Binds K fd ps []:=by
 obtain⟨oc,od,kV,doc,pm,an,cdv,ct,osl,rfl,lk,hcd⟩:=F.ex;exact .all (h kV doc pm an cdv ct)
theorem aeV{x qual:Str}{st:Stmt}{f:Addr}{oc:Value}{od an:Option Addr}{osl:Array (Option Value)}{kV doc pm cdv ct:Value}(l:K.lookup f=some ⟨oc,od,.func (W.fnOf x qual (bM st) (bu st) (ao st) .none kV doc pm an cdv ct),osl⟩)
  (c:W.codeIn K cdv qual=true)(k:W.keepIn K (.ref f)=true):Fun K x qual st f (W.fnOf x qual (bM st) (bu st) (ao st) .none kV doc pm an cdv ct):=⟨⟨oc,od,kV,doc,pm,an,cdv,ct,osl,rfl,l,c⟩,k⟩
end
theorem fh{A:Around}{k:Nat}(hr:eQ k A):A.units+1<cLine:=Nat.lt_of_le_of_lt (Nat.add_le_add_left (by decide:1<=64) _) hr.units
section
variable {X:Cx}
end
theorem dP{A B:Prop}(h:B):if false=true then A else B:=by rw[if_neg Bool.false_ne_true];exact h
theorem gE{A B:Prop}(h:A):if true=true then A else B:=by rw[if_pos rfl];exact h
section
variable {κ:Type}[DecidableEq κ]
def qm(kvs:List (κ×V))(k:κ):Option V:=(kvs.find? λ kv=>decide (kv.1=k)).map (·.2)
def putK(kvs:List (κ×V))(k:κ)(v:V):List (κ×V):=
 if (kvs.any λ kv=>decide (kv.1=k))=true then kvs.map (λ kv=>if kv.1=k then (kv.1,v) else kv) else kvs++[(k,v)]
theorem jK{p:κ×V}{r:List (κ×V)}{k:κ}(e:p.1=k):qm (p::r) k=some p.2:=by simp[qm,List.find?_cons,e]
theorem jG{p:κ×V}{r:List (κ×V)}{k:κ}(e:¬ p.1=k):qm (p::r) k=qm r k:=by simp[qm,List.find?_cons,e]
theorem jA(k:κ):∀ kvs:List (κ×V),(kvs.any λ kv=>decide (kv.1=k))=(qm kvs k).isSome
 | []=>rfl
 | p::r=>by
  rw[List.any_cons]
  by_cases e:p.1=k
  ·simp only[jK e,decide_eq_true e,Bool.true_or,Option.isSome_some]
  ·rw[jG e,decide_eq_false e,Bool.false_or];exact jA k r
theorem fE(kvs:List (κ×V))(k:κ)(v:V):(putK kvs k v).length<=kvs.length+1:=by
 unfold putK
 split
 ·rw[List.length_map];omega
 ·rw[List.length_append,List.length_cons,List.length_nil];omega
theorem zr{kvs:List (κ×V)}{k:κ}(v:V)(h:qm kvs k=none):putK kvs k v=kvs++[(k,v)]:=by
 unfold putK;rw[jA,h];exact if_neg (by decide)
theorem yg.fU{o:Option V}{u:Option Value}(r:yg o u):o.isSome=u.isSome:=by
 cases o with
 | none=>cases u with
  | none=>rfl
  | some _=>exact(show False from r).elim
 | some _=>cases u with
  | none=>exact(show False from r).elim
  | some _=>rfl
theorem yg.getD{o:Option V}{u:Option Value}{d:V}{d':Value}(r:yg o u)(rd:RelV d d'):RelV (o.getD d) (u.getD d'):=by
 cases o with
 | none=>cases u with
  | none=>exact rd
  | some _=>exact(show False from r).elim
 | some _=>cases u with
  | none=>exact(show False from r).elim
  | some _=>exact r
theorem KV.val{kvs:List (κ×V)}{vs:List (κ×Value)}(r:KV kvs vs)(k:κ):yg (qm kvs k) (valueAt vs k):=by
 unfold KV at r
 induction r with
 | nil=>exact True.intro
 | @cons p q ps qs h t ih =>
  obtain⟨h1,h2⟩:=h
  by_cases e:p.1=k
  ·have e':q.1=k:=h1.symm.trans e;have b:valueAt (q::qs) k=some q.2:=by simp[valueAt,List.find?_cons,e']
   rw[jK e,b];exact h2
  ·have e':¬ q.1=k:=λ z=>e (h1.trans z);have b:valueAt (q::qs) k=valueAt qs k:=by simp[valueAt,List.find?_cons,e']
   rw[jG e,b];exact ih
theorem KV.any{kvs:List (κ×V)}{vs:List (κ×Value)}(r:KV kvs vs)(k:κ):(kvs.any λ kv=>decide (kv.1=k))=vs.any λ kv=>decide (kv.1=k):=by
 unfold KV at r
 induction r with
 | nil=>rfl
 | cons h t ih=>rw[List.any_cons,List.any_cons,ih,h.1]
theorem KV.aic{kvs:List (κ×V)}{vs:List (κ×Value)}(r:KV kvs vs)(k:κ){y:V}{u:Value}(ry:RelV y u) :
  KV (kvs.map λ kv=>if kv.1=k then (kv.1,y) else kv) (vs.map λ kv=>if kv.1=k then (kv.1,u) else kv):=by
 unfold KV at r ⊢
 induction r with
 | nil=>exact .nil
 | @cons p q ps qs h t ih =>
  rw[List.map_cons,List.map_cons];refine .cons ?_ ih;obtain⟨h1,h2⟩:=h
  by_cases e:p.1=k
  ·rw[if_pos e,if_pos (h1.symm.trans e)];exact⟨h1,ry⟩
  ·rw[if_neg e,if_neg (λ z=>e (h1.trans z))];exact⟨h1,h2⟩
theorem KV.put{kvs:List (κ×V)}{vs:List (κ×Value)}(r:KV kvs vs)(k:κ){y:V}{u:Value}(ry:RelV y u):KV (putK kvs k y) (stored vs k u):=by
 unfold putK stored;rw[r.any k]
 by_cases e:(vs.any λ kv=>decide (kv.1=k))=true
 ·rw[if_pos e,if_pos e];exact r.aic k ry
 ·rw[if_neg e,if_neg e];exact Paired.snoc r ⟨rfl,ry⟩
theorem KV.length{kvs:List (κ×V)}{vs:List (κ×Value)}(r:KV kvs vs):kvs.length=vs.length:=Paired.length r
end
theorem mz{P:Program}{w:World}{k:Key}{u:Value}(r:RelV (kV k) u):(aR P w).is k u=true:=by
 cases k with
 | inl i=>obtain⟨t,e⟩:=(show ∃ t,u=Value.int i t from r);subst e;exact qL P w i t
 | inr x=>obtain⟨t,e⟩:=(show ∃ t,u=Value.str x t from r);subst e;exact rW P w x t
theorem kH{P:Program}{w:World}:∀ {ks:List Key} {us:List Value},Vals (ks.map kV) us->ItemsAre (aR P w) ks us
 | [],_,r=>by rw[List.map_nil] at r;cases r;exact .nil
 | k::ks,_,r=>by
  rw[List.map_cons] at r;cases r with
  | cons h t=>exact .cons (mz h) (kH t)
abbrev KT(H:Hp):List (List Key×V)->List (List Key×Addr×Value)->Prop:=Paired λ p q=>p.1=q.1/\H q.2.1=some (.tup (p.1.map kV))/\RelV p.2 q.2.2
theorem KT.val{H:Hp}{kvs:List (List Key×V)}{xs:List (List Key×Addr×Value)}(r:KT H kvs xs)(k:List Key):yg (qm kvs k) ((atKey xs k).map (·.2)):=by
 induction r with
 | nil=>exact True.intro
 | @cons p q ps qs h t ih =>
  obtain⟨h1,_,h2⟩:=h
  by_cases e:p.1=k
  ·have e':q.1=k:=h1.symm.trans e;have b:atKey (q::qs) k=some q.2:=by simp[atKey,List.find?_cons,e']
   rw[jK e,b];exact h2
  ·have e':¬ q.1=k:=λ z=>e (h1.trans z);have b:atKey (q::qs) k=atKey qs k:=by simp[atKey,List.find?_cons,e']
   rw[jG e,b];exact ih
theorem KT.aic{H:Hp}{kvs:List (List Key×V)}{xs:List (List Key×Addr×Value)}(r:KT H kvs xs)(k:List Key){y:V}{u:Value}(ry:RelV y u) :
  KT H (kvs.map λ kv=>if kv.1=k then (kv.1,y) else kv) (xs.map (putAt k u)):=by
 induction r with
 | nil=>exact .nil
 | @cons p q ps qs h t ih =>
  rw[List.map_cons,List.map_cons];refine .cons ?_ ih;obtain⟨h1,h2,h3⟩:=h;unfold putAt
  by_cases e:p.1=k
  ·rw[if_pos e,if_pos (h1.symm.trans e)];exact⟨h1,h2,ry⟩
  ·rw[if_neg e,if_neg (λ z=>e (h1.trans z))];exact⟨h1,h2,h3⟩
theorem KT.put{H:Hp}{kvs:List (List Key×V)}{xs:List (List Key×Addr×Value)}(r:KT H kvs xs)(k:List Key){b:Addr}{y:V}{u:Value}(hb:H b=some (.tup (k.map kV)))(ry:RelV y u) :
  KT H (putK kvs k y) (storedH xs k b u):=by
 have e:(kvs.any λ kv=>decide (kv.1=k))=(atKey xs k).isSome:=by rw[jA,(r.val k).fU,Option.isSome_map]
 unfold putK storedH;rw[e]
 by_cases q:(atKey xs k).isSome=true
 ·rw[if_pos q,if_pos q];exact r.aic k ry
 ·rw[if_neg q,if_neg q];exact Paired.snoc r ⟨rfl,hb,ry⟩
theorem KT.keeps{H H':Hp}{kvs:List (List Key×V)}{xs:List (List Key×Addr×Value)}(r:KT H kvs xs)(ht:∀ b ys,H b=some (.tup ys)->H' b=some (.tup ys)):KT H' kvs xs:=
 Paired.gu r λ _ _ z=>⟨z.1,ht _ _ z.2.1,z.2.2⟩
section
variable {P:Program}{w:World}{H:Hp}{h:Heap}{a:Addr}
theorem ae3{u:HO}(ok:HOk P w H h)(e:Rd H a u):c4 P w H h a u:=e.ok ok
theorem yJ{kvs:List (Key×V)}(ok:HOk P w H h)(e:Rd H a (.dK kvs)):kvs.length<=sizeLine/\(a==sysModules)=false/\∃ vs,KV kvs vs/\h.DictOf (aR P w) a vs:=
 show c4 P w H h a (.dK kvs) from ae3 ok e
theorem zY{kvs:List (Key×V)}(ok:HOk P w H h)(e:H a=some (.dK kvs)):kvs.length<=sizeLine/\(a==sysModules)=false/\∃ vs,KV kvs vs/\h.DictOf (aR P w) a vs:=yJ ok (.inl e)
theorem abR{ks:List Key}(ok:HOk P w H h)(e:H a=some (.tup (ks.map kV))):(tupleKind (aR P w)).is h ks a:=by obtain⟨_,its,r,o,h1,h2,_,n,h3⟩:=(show c4 P w H h a (.tup (ks.map kV)) from ok a _ e);exact⟨o,its.toArray,n,h1,h2,h3,by simpa using kH r⟩
theorem vU{kvs:List (List Key×V)}(ok:HOk P w H h)(e:Rd H a (.dT kvs)):kvs.length<=sizeLine/\(a==sysModules)=false /\
  ∃ xs,KT H kvs xs/\h.DictOfH (tupleKind (aR P w)) a xs:=by
 obtain⟨z,y,xs,r,o,es,ep,h1,h2,h3,h4,h5⟩:=(show c4 P w H h a (.dT kvs) from ae3 ok e);refine⟨z,y,xs,r,o,es,ep,h1,h2,h3,h4,λ x hx=>?_,h5⟩;have all:∀ {l:List (List Key×V)} {m:List (List Key×Addr×Value)},KT H l m->∀ x∈m,(tupleKind (aR P w)).is h x.1 x.2.1:=by
  intro l m q
  induction q with
  | nil=>intro x hx;exact nomatch hx
  | @cons p q ps qs hq t ih =>
   intro x hx;rcases List.mem_cons.mp hx with e | hx
   ·subst e;exact abR ok (by rw[<- hq.1];exact hq.2.1)
   ·exact ih x hx
 exact all r x hx
theorem aiv{kvs:List (List Key×V)}(ok:HOk P w H h)(e:H a=some (.dT kvs)):kvs.length<=sizeLine/\(a==sysModules)=false /\
  ∃ xs,KT H kvs xs/\h.DictOfH (tupleKind (aR P w)) a xs:=vU ok (.inl e)
end
def aiN(H:Hp)(a:Addr)(y v:V)(H':Hp):Prop:=
 (∃ kvs k,H a=some (.dK kvs)/\y=kV k/\kvs.length<sizeLine/\H'=upd H a (.dK (putK kvs k v))) \/
 ∃ kvs k b,H a=some (.dT kvs)/\y=.ref b/\H b=some (.tup (k.map kV))/\kvs.length<sizeLine/\H'=upd H a (.dT (putK kvs k v))
section
variable {X:Cx}{pins:PN}{σ:St}{H:Hp}{s:Shared}{a:Addr}{y v:V}{u r:Value}{o:Option V}{A:Around}{E:VP}
theorem Inv.big(I:Inv X pins σ H s):sysModules<s.heap.objs.size:=by have h:mainGlobals<s.heap.objs.size:=(I.mod.glob.keeps I.bk).lt;exact Nat.lt_trans (by decide) h
theorem nP{h':Heap}{t':Nat}{ob:HO}(I:Inv X pins σ H s)(mu:Mut (H a))(hs:Heap.SameBut a s.heap h')(he:∃ q,h'.get? a=some q)(new:c4 X.prog X.w (upd H a ob) h' a ob) :
  Inv X pins σ (upd H a ob) {s with heap:=h',toks:=t'}:=
 I.write (x:=a) (e:=a) mu (.inl rfl) (λ b q hb z=>(hs.2 b hb).trans z) he new
theorem pI{P:Program}{w:World}{H':Hp}{h':Heap}{kvs:List (Key×V)}{vs:List (Key×Value)}(z:kvs.length<=sizeLine)(hd:(a==sysModules)=false)(rel:KV kvs vs)(dd:h'.DictOf (aR P w) a vs) :
  c4 P w H' h' a (.dK kvs):=⟨z,hd,vs,rel,dd⟩
theorem yW{H':Hp}{Q:Unit->Shared->Prop}(hu:A.units+1<cLine)(I:Inv X pins σ H s)(g:aiN H a y v H')(ry:RelV y u)(rv:RelV v r)(h:∀ s',Inv X pins σ H' s'->Q () s') :
  wpAny (model X.prog X.w) A (setItem (.ref a) u r) Q E s:=by
 rcases g with ⟨kvs,k,e,ey,l,eH⟩ | ⟨kvs,k,b,e,ey,eb,l,eH⟩
 ·subst ey eH;obtain⟨z,hd,vs,rel,dd⟩:=zY I.hok e;have hz:vs.length<=sizeLine:=by rw[<- rel.length];exact z
  have hl:(putK kvs k v).length<=sizeLine:=by have:=fE kvs k v;omega
  refine wpAny_setItem_pairs (hsz:=hz) (mz ry) dd λ h' dd' hs=>h _ ?_;have he:∃ q,h'.get? a=some q:=let ⟨q,_,_,hq,_⟩:=dd'; ⟨q,hq⟩;exact nP I (by rw[e];exact True.intro) hs he (pI hl hd (rel.put k rv) dd')
 ·subst ey eH;cases (show u=Value.ref b from ry);obtain⟨z,hd,xs,rel,dd⟩:=aiv I.hok e;have hz:xs.length<=sizeLine:=by rw[<- Paired.length rel];exact z
  have hl:(putK kvs k v).length<=sizeLine:=by have:=fE kvs k v;omega
  refine wpAny_setItem_heap (hsz:=hz) (tupleKind_room_in1 hu) (abR I.hok eb) dd λ h' dd' hs=>h _ ?_;obtain⟨q,es,ep,hq,h2,h3,h4,_,h5⟩:=dd';refine nP I (by rw[e];exact True.intro) hs ⟨q,hq⟩ ⟨hl,hd,_,(rel.put k eb rv).keeps λ c ys ec=>?_,q,es,ep,hq,h2,h3,h4,h5⟩;rw[aj (uA ec e (λ z=>nomatch z))];exact ec
end
section
variable {X:Cx}{pins:PN}{σ:St}{H:Hp}{s:Shared}{a:Addr}{kvs:List (Key×V)}{k:Key}{u:Value}{A:Around}{E:VP}
end
def aho(i:Expr):Prop:=∀ ov iv,subscripted i false ov iv=operate [ov,iv] (getItem ov iv)
theorem ac9{prog:Program}{w:World}{A:Around}{E:VP}{s:Shared}{env:Env}{value slice:Expr}{pos:Pos}{T id:String}{Q:VP}
  (hl:typeLookup (.type T) "__getitem__" = pure (some (.builtin id)))(hs:aho slice)
  (h:wpAny (model prog w) A (eval value env) (λ o s₁=>wpAny (model prog w) A (eval slice env) (λ i s₂=>s₂.TypeIs o T/\wpAny (model prog w) A (getItem o i) Q E s₂) E s₁) E s) :
  wpAny (model prog w) A (eval (.Subscript value slice pos) env) Q E s:=by
 refine Subscript_ (wpAny_mono h (λ o s₁ h₁=>wpAny_mono h₁ (λ i s₂ h₂=>?_) λ _ _ x=>x) λ _ _ x=>x);obtain⟨hT,h₂⟩:=h₂;unfold subscriptTail;refine wpAny_bind ?_;rw[getitemInPython_of_ne hT.not_modules];refine wpAny_bind (wpAny_specialOf hT hl ?_);have fin:wpAny (model prog w) A (subscripted slice false o i) (λ r s₃=>wpAny (model prog w) A (letTemporaryGo value o r >>= λ _=>pure r) Q E s₃) E s₂:=by rw[hs o i];exact wpAny_operating (wpAny_mono h₂ (λ r s₃ h₃=>wpAny_bind (wpAny_letTemporaryGo (wpAny_pure h₃))) λ _ _ x=>x)
 first
  | exact wpAny_pure (wpAny_bind fin)
  | exact wpAny_bind (wpAny_pure (wpAny_bind fin))
  | exact wpAny_bind fin
def aio(td ty tv:TE):TS:=λ D σ H=>tv σ H λ v H1=>td σ H1 λ x H2=>ty σ H2 λ y H3=>∃ a H4,x=.ref a/\aiN H3 a y v H4/\D.nx σ H4
section
variable {X:Cx}{o i e value:Expr}{pos pos' tpos:Pos}{td ty tv:TE}
theorem acD(hu:X.A.units+1<cLine)(ho:PE X o td)(hi:PE X i ty)(hv:PE X value tv)(hs:swapsWith value (some (.Subscript o i pos')) pos.line X.env=pure false) :
  PS X (.Assign [.Subscript o i pos'] value pos) (aio td ty tv):=by
 intro pins s σ H D I h;refine wpAny_Assign_Subscript (thn (hv pins s σ H _ I h) λ r s1 ⟨v,H1,I1,rv,q1⟩=>thn (ho pins s1 σ H1 _ I1 q1) λ u s2 ⟨x,H2,I2,rx,q2⟩=>thn (hi pins s2 σ H2 _ I2 q2) λ iv s3 ⟨y,H3,I3,ry,a,H4,ex,g,q3⟩=>?_) hs;subst ex;obtain rfl:u=Value.ref a:=rx;exact yW hu I3 g ry rv λ s4 I4=>⟨σ,H4,I4,q3⟩
end
theorem mJ{P:Program}{w:World}{H:Hp}(h:Heap)(hb:sysModules<h.objs.size):c4 P w H (h.push {cls:=.type "dict",data:=.dict #[]}) h.objs.size (.dK []):=
 ⟨Nat.zero_le _,beq_eq_false_iff_ne.mpr (Ne.symm (Nat.ne_of_lt hb)),[],.nil,Heap.DictOf.new h⟩
def afK:TE:=λ _ H Q=>∀ p,H p=none->Q (.ref p) (upd H p (.dK []))
section
variable {X:Cx}{pos:Pos}
theorem aa3:PE X (.Dict [] [] pos) afK:=λ pins s σ H Q I h =>
 wpAny_Dict_empty ⟨.ref s.heap.objs.size,_,I.laid (a:=s.heap.objs.size) (o:=.dK []) (t':=s.toks) (λ _ _ q=>Heap.get?_push_of_some _ q) (Nat.le_refl _) (mJ s.heap I.big),rfl,h _ (I.hok.fresh (Nat.le_refl _))⟩
end
def tq:List (TE×TE)->St->Hp->(List (V×V)->Hp->Prop)->Prop
 | [],_,H,Q=>Q [] H
 | (tk,tv)::r,σ,H,Q=>tk σ H λ x H1=>tv σ H1 λ y H2=>tq r σ H2 λ ps H3=>Q ((x,y)::ps) H3
abbrev VV:List (V×V)->List (Value×Value)->Prop:=Paired λ p q=>RelV p.1 q.1/\RelV p.2 q.2
def PPs(X:Cx)(pos:Pos)(keys:List (Option Expr))(values:List Expr)(trs:List (TE×TE)):Prop:=
 ∀ (pins:PN) (s:Shared) (σ:St) (H:Hp) (Q:List (V×V)->Hp->Prop),Inv X pins σ H s->tq trs σ H Q ->
  wpAny (model X.prog X.w) X.A (evalPairs (pairTrees keys values X.env pos)) (λ vs s'=>∃ ps H',Inv X pins σ H' s'/\VV ps vs/\Q ps H') X.xe s
theorem adl{X:Cx}{pos:Pos}:PPs X pos [] [] []:=λ pins s σ H Q I h=>pairTrees_nil_walk ⟨[],H,I,.nil,h⟩
theorem zZ{X:Cx}{pos:Pos}{k v:Expr}{ks:List (Option Expr)}{vs:List Expr}{tk tv:TE}{trs:List (TE×TE)}(hk:PE X k tk)(hv:PE X v tv)(hr:PPs X pos ks vs trs) :
  PPs X pos (some k::ks) (v::vs) ((tk,tv)::trs):=λ pins s σ H Q I h =>
 pairTrees_cons_walk (thn (hk pins s σ H _ I h) λ u s1 ⟨x,H1,I1,rx,q1⟩=>thn (hv pins s1 σ H1 _ I1 q1) λ w2 s2 ⟨y,H2,I2,ry,q2⟩ =>
  thn (hr pins s2 σ H2 _ I2 q2) λ ws s3 ⟨ps,H3,I3,rel,q3⟩=>⟨(x,y)::ps,H3,I3,.cons ⟨rx,ry⟩ rel,q3⟩)
def iH(kvs more:List (Key×V)):List (Key×V):=more.foldl (λ acc kv=>putK acc kv.1 kv.2) kvs
theorem KV.merge:∀ {more:List (Key×V)} {rs:List (Key×Value)} {kvs:List (Key×V)} {vs:List (Key×Value)},KV more rs->KV kvs vs->KV (iH kvs more) (merged vs rs):=by
 intro more rs kvs vs r;unfold KV at r
 induction r generalizing kvs vs with
 | nil=>intro q;exact q
 | @cons p q ps qs h t ih =>
  intro r0;have e:KV (putK kvs p.1 p.2) (stored vs q.1 q.2):=by have:=r0.put p.1 h.2;rw[<- h.1];exact this
  exact ih e
theorem ix:∀ (more kvs:List (Key×V)),(iH kvs more).length<=kvs.length+more.length
 | [],kvs=>by show kvs.length<=kvs.length+0;omega
 | p::r,kvs=>by have h1:=ix r (putK kvs p.1 p.2);have h2:=fE kvs p.1 p.2;show(iH (putK kvs p.1 p.2) r).length<=_;rw[List.length_cons];omega
theorem l5{P:Program}{w:World}:∀ {kvs:List (Key×V)} {ws:List (Value×Value)},VV (kvs.map λ kv=>(kV kv.1,kv.2)) ws->∃ rs,Carries (aR P w) ws rs/\KV kvs rs
 | [],_,r=>by rw[List.map_nil] at r;cases r;exact⟨[],True.intro,.nil⟩
 | p::kvs,_,r=>by
  rw[List.map_cons] at r;cases r with
  | @cons a b as bs h t =>
   obtain⟨rs,c,q⟩:=l5 (P:=P) (w:=w) t;obtain⟨b1,b2⟩:=b;exact⟨(p.1,b2)::rs,⟨mz h.1,rfl,c⟩,.cons ⟨rfl,h.2⟩ q⟩
def aih(trs:List (TE×TE)):TE:=λ σ H Q=>∀ p,H p=none->tq trs σ (upd H p (.dK [])) λ ps H2=>H2 p=some (.dK [])/\∃ kvs:List (Key×V),ps=kvs.map (λ kv=>(kV kv.1,kv.2))/\kvs.length<=15/\Q (.ref p) (upd H2 p (.dK (iH [] kvs)))
theorem acS{X:Cx}{pos:Pos}{keys:List (Option Expr)}{values:List Expr}{trs:List (TE×TE)}(h:PPs X pos keys values trs)(hall:keys.all (·.isSome)=true)(hl:keys.length=values.length)(h0:keys≠[])
  (h15:keys.length<=15):PE X (.Dict keys values pos) (aih trs):=by
 intro pins s σ H Q I q;have hn:=I.hok.fresh (Nat.le_refl s.heap.objs.size);have I1:=I.laid (a:=s.heap.objs.size) (o:=.dK []) (h':=s.heap.push {cls:=.type "dict",data:=.dict #[]}) (t':=s.toks) (λ _ _ q=>Heap.get?_push_of_some _ q) (Nat.le_refl _) (mJ s.heap I.big);refine wpAny_Dict_walk (knd:=aR X.prog X.w) hall hl h0 h15 (thn (h pins _ σ _ _ I1 (q _ hn)) λ ws s2 hq27=>?_);obtain⟨ps,H2,I2,rel,e,kvs,ep,lk,q2⟩:=hq27;subst ep;obtain⟨rs,c,rk⟩:=l5 (P:=X.prog) (w:=X.w) rel;obtain⟨z,hd,vs0,r0,dd⟩:=zY I2.hok e;cases r0;refine⟨rs,c,dd,λ h' dd' hs=>⟨.ref s.heap.objs.size,_,?_,rfl,q2⟩⟩;have hz:(iH [] kvs).length<=sizeLine:=by have h1:=ix kvs [];rw[List.length_nil] at h1;rw[sizeLine_eq];omega
 have he:∃ q,h'.get? s.heap.objs.size=some q:=let ⟨q,_,_,hq,_⟩:=dd'; ⟨q,hq⟩;exact nP I2 (by rw[e];exact True.intro) hs he (pI hz hd (rk.merge .nil) dd')
structure M2(X:Cx)(o:Expr)(m:Str)(apos:Pos)(e f:Expr)(cpos:Pos):Prop where
 base:attributeBase o m X.env (eval o X.env)=eval o X.env
 few:((backTo cpos (starEach [e,f] X.env)).all (λ x=>!x.1)&&(backToKw cpos (keywordEach [] X.env)).all (λ x=>x.1.isSome)
  && decide (([e,f]:List Expr).length+([]:List Keyword).length+(if ([]:List Keyword).isEmpty then 0 else 1)<30))=true
 line:(apos.endLine==cpos.line)=true
 trees:backTo cpos (starEach [e,f] X.env)=[(false,eval e X.env),(false,eval f X.env)]
def IsD(H:Hp)(a:Addr):Prop:=(∃ kvs,Rd H a (.dK kvs))\/∃ kvs,Rd H a (.dT kvs)
theorem ag7{X:Cx}{pins:PN}{σ:St}{H:Hp}{s:Shared}{a:Addr}(I:Inv X pins σ H s)(d:IsD H a) :
  s.TypeIs (.ref a) "dict" /\ (∀ b,Value.ref a=.ref b->∃ ob,s.heap.get? b=some ob/\ob.dict=none)/\(a==sysModules)=false:=by
 rcases d with ⟨kvs,e⟩ | ⟨kvs,e⟩
 ·obtain⟨_,hd,vs,_,dd⟩:=yJ I.hok e;refine⟨dd.typeIs,λ b q=>?_,hd⟩;cases q;obtain⟨ob,_,_,h1,h2,_⟩:=dd;exact⟨ob,h1,h2.2.1⟩
 ·obtain⟨_,hd,xs,_,dd⟩:=vU I.hok e;refine⟨dd.typeIs,λ b q=>?_,hd⟩;cases q;obtain⟨ob,_,_,h1,h2,_⟩:=dd;exact⟨ob,h1,h2.2.1⟩
section
variable {X:Cx}{pins:PN}{σ:St}{H:Hp}{s:Shared}{a:Addr}{y d:V}{u r:Value}{o:Option V}{A:Around}{E:VP}
end
section
variable {X:Cx}{o e f:Expr}{apos cpos:Pos}{td ty tx:TE}
end
section
variable {X:Cx}{pins:PN}{σ:St}{H:Hp}{s:Shared}{a:Addr}{kvs:List (Key×V)}{A:Around}{E:VP}
theorem aap{Q:VP}(I:Inv X pins σ H s)(e:Rd H a (.dK kvs))(h:∀ p s',H p=none->Inv X pins σ (upd H p (.dK kvs)) s'->Q (.ref p) s'):wpAny (model X.prog X.w) A (call (.type "dict") [.ref a]) Q E s:=by obtain⟨z,hd,vs,rel,dd⟩:=yJ I.hok e;refine kt_call_dict hd dd (by rw[<- rel.length];exact z) λ h' dd' hs=>?_;refine h _ _ (I.hok.fresh (Nat.le_refl _)) (I.laid (a:=s.heap.objs.size) (o:=.dK kvs) (t':=s.toks) (λ b q hq=>?_) (Nat.le_refl _) (pI z (beq_eq_false_iff_ne.mpr (Ne.symm (Nat.ne_of_lt I.big))) rel dd'));exact(hs.2 b (Nat.ne_of_lt (Heap.lt_size hq))).trans (Heap.get?_push_of_some _ hq)
end
section
variable {X:Cx}{pins:PN}{σ:St}{H:Hp}{s:Shared}{a:Addr}{y:V}{u:Value}{A:Around}{E:VP}
end
end L2
set_option maxHeartbeats 0
namespace L2
def Fz:HO->Prop
 | .lst _=>True
 | .dK _=>True
 | _=>False
theorem ahf(e:H p=some u)(f:Fz u):Un fs ex H (upd H p (.frz o u)) h h where
 keep:=λ b ob q _ _ _=>q
 slot:=λ b ob q _ _ _=>⟨ob.slots,q⟩
 free:=λ b ob _ n _=>by rw[aj (Ne.symm (aH e n))];exact n
 there:=λ b ob q _=>⟨ob,q⟩
 tups:=λ b xs q=>by
  have:b≠p:=λ z=>by subst z;rw[e] at q;cases q;exact f
  rw[aj this];exact q
 frzs:=λ b ob v q=>by
  have:b≠p:=λ z=>by subst z;rw[e] at q;cases q;exact f
  rw[aj this];exact q
 tbls:=λ b ps q=>by
  have:b≠p:=λ z=>by subst z;rw[e] at q;cases q;exact f
  exact⟨#[],by rw[aj this,q];simp⟩
theorem c4.afR(f:Fz u)(x:c4 P w H h a u):c4 P w H' h a u:=by
 cases u with
 | lst xs=>exact x
 | dK kvs=>exact x
 | _=>exact f.elim
theorem c4.obj(f:Fz u)(x:c4 P w H h a u):∃ o,h.get? a=some o:=by
 cases u with
 | lst xs=>obtain⟨_,_,_,_,e⟩:=x;exact⟨_,e⟩
 | dK kvs=>obtain⟨_,_,_,_,o,_,_,e,_⟩:=x;exact⟨o,e⟩
 | _=>exact f.elim
theorem Inv.freeze(I:Inv X pins σ H s)(e:H p=some u)(f:Fz u):∃ o,Inv X pins σ (upd H p (.frz o u)) s:=by
 obtain⟨o,ho⟩:=(I.hok p u e).obj f;refine⟨o,I.un (h':=s.heap) (t':=s.toks) (ahf e f) λ b v q=>?_⟩
 by_cases hb:b=p
 ·subst hb;rw[aq] at q;cases q;exact⟨ho,(I.hok b u e).afR f⟩
 ·rw[aj hb] at q;refine(I.hok b v q).ua (λ _ _ _ q=>q) (λ c r=>?_) λ c xs r=>?_
  ·have:c≠p:=λ z=>by subst z;rw[e] at r;cases r;exact f
   rw[aj this];exact r
  ·have:c≠p:=λ z=>by subst z;rw[e] at r;cases r;exact f
   rw[aj this];exact r
def aiK(t:TE):TE:=λ σ H Q=>t σ H λ v H1=>∃ p u,v=.ref p/\H1 p=some u/\Fz u/\∀ o,Q v (upd H1 p (.frz o u))
theorem oY(h:PE X e t):PE X e (aiK t):=by intro pins s σ H Q I hq;refine thn (h pins s σ H _ I hq) λ v s1 hq28=>?_;obtain⟨x,H1,I1,r1,p,u,e1,e2,f,q⟩:=hq28;obtain⟨o,I2⟩:=I1.freeze e2 f;exact⟨x,_,I2,r1,q o⟩
theorem Inv.adI(I:Inv X pins σ H s)(e:s.heap.get? D=some {cls:=.type "list",data:=.seq us.toArray n})(hn:H D=none)(hv:Vals ys us)(hz:ys.length<=sizeLine)
  (h0:X.s₀.heap.objs.size<=D)(hL:D≠X.env.locals)(hc:∀ x c,X.env.cells.lookup x=some c->c≠D)(hp:∀ p∈X.pn++pins,p.1≠D):Inv X pins σ (upd H D (.lst ys)) s:=by
 have ne:∀ b u,H b=some u->b≠D:=λ b u q=>aH q hn;refine I.step (h':=s.heap) (g':=s.gens) (d':=s.drawn) (t':=s.toks) (ch:=[D]) (λ b hb=>?_) (λ b o _ _ _ q _=>q) (λ b o _ _ _ q _=>⟨o.slots,q⟩) (λ b o hb q n=>?_) (λ b o _ q=>⟨o,q⟩)
  (λ b xs q=>by rw[aj (ne b _ q)];exact q) (λ b o u q=>by rw[aj (ne b _ q)];exact q) (λ b ps q=>⟨#[],by rw[aj (ne b _ q),q];simp⟩) (λ m hm=>hm) (λ b u q=>?_) I.bare
 ·have e:b=D:=by simpa using hb
  subst e;exact⟨.inr h0,hL,hc,hp⟩
 ·rw[aj (λ z=>hb (by simp[z]))];exact n
 ·by_cases hb:b=D
  ·subst hb;rw[aq] at q;cases q;exact⟨hz,us,n,hv,e⟩
  ·rw[aj hb] at q;exact(I.hok b u q).ua (λ _ _ _ q=>q) (λ c r=>by rw[aj (ne c _ r)];exact r) λ c xs r=>by rw[aj (ne c _ r)];exact r
abbrev qp(ifs:List Expr)(env:Env):Sem Bool:=forIn ifs true λ c r=>if r=true then do let ok <- isTrue c env (eval c env);pure (ForInStep.yield ok) else pure (ForInStep.yield r)
theorem ji(I:Nat->Shared->Prop)
  (turn:∀ n s,I n s->wpAny (model prog w) A (pyNext it) (λ r s₁=>match r with
   | none=>R (.ok .next) s₁
   | some v=>wpAny (model prog w) A (letOwnedTupleGo target it v) (λ _ s₁'=>wpAny (model prog w) A (assign target env v) (λ _ s₂ =>
     wpAny (model prog w) A (qp ifs env) (λ ok s₃ =>
      if ok=true then wpAny (model prog w) A (eval elt env) (λ x s₄ =>
       wpAny (model prog w) A (call (.builtin "list.append") [acc,x]) (λ _ s₅=>∃ m,m<n/\I m s₅) (λ _ _=>False) s₄) (λ _ _=>False) s₃
      else ∃ m,m<n/\I m s₃) (λ _ _=>False) s₂) (λ _ _=>False) s₁') (λ _ _=>False) s₁) (λ _ _=>False) s)
  (n:Nat)(h:I n s) :
  codeAny (model prog w) A (.compLoop (.ListComp elt [⟨target,iter,ifs,0⟩] scope pos) 0 it acc env) R s:=by
 refine codeAny_loop rfl I (λ n s hI=>?_) n h;show wpAny _ A ((compTurn (.ListComp elt [⟨target,iter,ifs,0⟩] scope pos) 0 it acc env).onRaise (λ x=>do noteFrame x env;theTreesLotGoes x)) _ _ s;refine wpAny_noted ?_;rw[compTurn_list];refine wpAny_bind (wpAny_standAt (wpAny_bind (wpAny_mono (turn n s hI) (λ r s₁ h₁=>?_) λ _ _ h'=>h'.elim)));cases r with
 | none=>exact wpAny_pure h₁
 | some v =>
  refine wpAny_bind (wpAny_mono h₁ (λ _ s₁' h₁'=>?_) λ _ _ h'=>h'.elim);refine wpAny_bind (wpAny_mono h₁' (λ _ s₂ h₂=>wpAny_bind (wpAny_mono h₂ (λ ok s₃ h₃=>?_) λ _ _ h'=>h'.elim)) λ _ _ h'=>h'.elim);cases ok with
  | false=>exact wpAny_pure ⟨rfl,h₃⟩
  | true =>
   exact wpAny_bind (wpAny_bind (wpAny_mono h₃ (λ x s₄ h₄=>wpAny_bind (wpAny_mono h₄ (λ _ s₅ h₅=>wpAny_pure (wpAny_pure ⟨rfl,h₅⟩)) λ _ _ h'=>h'.elim)) λ _ _ h'=>h'.elim))
theorem gc(h:∀ x∈scope.names,x.2=.free->∃ c,env.cells.lookup x.1=some c) :
  ∃ cl,closureFor scope env=pure cl/\(∀ n c,cl.lookup n=some c->env.cells.lookup n=some c)/\(∀ n,(n,NameKind.free)∈scope.names->∃ c,cl.lookup n=some c):=by
 have key:∀ (l:List (Str×NameKind)) (cs:List (Str×Addr)),(∀ x∈l,x.2=.free->∃ c,env.cells.lookup x.1=some c)->(∀ n c,cs.lookup n=some c->env.cells.lookup n=some c) ->
   ∃ cl:List (Str×Addr),(forIn l cs λ x r=>match x with
    | (name,kind)=>if (kind==NameKind.free)=true then do let a <- cellOf env name;pure (ForInStep.yield ((name,a)::r)) else pure (ForInStep.yield r):Sem (List (Str×Addr)))=pure cl /\
    (∀ n c,cl.lookup n=some c->env.cells.lookup n=some c)/\(∀ n c,cs.lookup n=some c->∃ c,cl.lookup n=some c)/\(∀ n,(n,NameKind.free)∈l->∃ c,cl.lookup n=some c):=by
  intro l
  induction l with
  | nil=>intro cs _ hc;exact⟨cs,rfl,hc,λ n c e=>⟨c,e⟩,λ n hn=>nomatch hn⟩
  | cons x l ih =>
   intro cs hl hc;obtain⟨name,kind⟩:=x
   by_cases hk:kind=.free
   ·subst hk;obtain⟨c,e⟩:=hl (name,.free) List.mem_cons_self rfl;obtain⟨cl,h1,h2,h3,h4⟩:=ih ((name,c)::cs) (λ y hy=>hl y (List.mem_cons_of_mem _ hy)) (λ n d q=>by
     rw[List.lookup_cons] at q;cases hb:n==name with
     | true =>
      rw[hb] at q;cases q;rw[eq_of_beq hb];exact e
     | false =>
      rw[hb] at q;exact hc n d q)
    refine⟨cl,?_,h2,λ n d q=>?_,λ n hn=>?_⟩
    ·rw[List.forIn_cons];simp only[beq_self_eq_true,if_true,cellOf,e,pure_bind];exact h1
    ·cases hb:n==name with
     | true=>exact h3 n c (by rw[List.lookup_cons,hb])
     | false=>exact h3 n d (by rw[List.lookup_cons,hb];exact q)
    ·rcases List.mem_cons.mp hn with z | z
     ·cases z;exact h3 name c (by rw[List.lookup_cons];simp)
     ·exact h4 n z
   ·obtain⟨cl,h1,h2,h3,h4⟩:=ih cs (λ y hy=>hl y (List.mem_cons_of_mem _ hy)) hc;refine⟨cl,?_,h2,h3,λ n hn=>?_⟩
    ·rw[List.forIn_cons];have:(kind==NameKind.free)=false:=by simpa using hk
     simp only[this,Bool.false_eq_true,if_false,pure_bind];exact h1
    ·rcases List.mem_cons.mp hn with z | z
     ·cases z;exact absurd rfl hk
     ·exact h4 n z
 obtain⟨cl,h1,h2,_,h4⟩:=key scope.names [] h (λ n c e=>by simp at e);refine⟨cl,?_,h2,h4⟩;unfold closureFor;simp only[bind_pure];exact h1
theorem jd{sc:Scope}{env:Env}{x:Str}:∀ {names:List (Str×NameKind)},(names.map λ(n,k)=>if (k==NameKind.free&&env.scope.kind==.function&&env.kindOf n==some .cell) then (n,NameKind.cell) else (n,k)).lookup x=some .cell \/
  (names.map λ(n,k)=>if (k==NameKind.free&&env.scope.kind==.function&&env.kindOf n==some .cell) then (n,NameKind.cell) else (n,k)).lookup x=some .free->(∀ y∈names,y.2 ≠ .cell)->(x,NameKind.free)∈names
 | [],h,_=>by simp at h
 | (n,k)::r,h,hc=>by
  have ih:=@jd sc env x r
  by_cases hk:(k==NameKind.free&&env.scope.kind==.function&&env.kindOf n==some .cell)=true
  ·simp only[List.map_cons,if_pos hk,List.lookup_cons] at h;cases hx:x==n with
   | true =>
    have e:=eq_of_beq hx;subst e;simp only[Bool.and_eq_true] at hk;have:=eq_of_beq hk.1.1;subst this;exact List.mem_cons_self
   | false =>
    rw[hx] at h;exact List.mem_cons_of_mem _ (ih h λ y hy=>hc y (List.mem_cons_of_mem _ hy))
  ·simp only[List.map_cons,if_neg hk,List.lookup_cons] at h;cases hx:x==n with
   | true =>
    rw[hx] at h;have e:=eq_of_beq hx;subst e;rcases h with h | h
    ·cases h;exact absurd rfl (hc (x,.cell) List.mem_cons_self)
    ·cases h;exact List.mem_cons_self
   | false =>
    rw[hx] at h;exact List.mem_cons_of_mem _ (ih h λ y hy=>hc y (List.mem_cons_of_mem _ hy))
theorem cJ{env:Env}{x:Str}:∀ {names:List (Str×NameKind)},names.lookup x=some .free ->
  (names.map λ(n,k)=>if (k==NameKind.free&&env.scope.kind==.function&&env.kindOf n==some .cell) then (n,NameKind.cell) else (n,k)).lookup x=some .cell \/
  (names.map λ(n,k)=>if (k==NameKind.free&&env.scope.kind==.function&&env.kindOf n==some .cell) then (n,NameKind.cell) else (n,k)).lookup x=some .free
 | [],h=>by simp at h
 | (n,k)::r,h=>by
  have ih:=@cJ env x r
  by_cases hk:(k==NameKind.free&&env.scope.kind==.function&&env.kindOf n==some .cell)=true
  ·simp only[List.map_cons,if_pos hk,List.lookup_cons];cases hx:x==n with
   | true=>exact .inl rfl
   | false=>rw[List.lookup_cons,hx] at h;exact ih h
  ·simp only[List.map_cons,if_neg hk,List.lookup_cons];cases hx:x==n with
   | true=>rw[List.lookup_cons,hx] at h;exact .inr h
   | false=>rw[List.lookup_cons,hx] at h;exact ih h
def blk(X:Cx)(sc:Scope)(N':List Str)(cl:List (Str×Addr))(C:Addr)(s:Shared)(H:Hp)(ex:List Addr)(pins:PN):Cx:=
 {X with N:=N',s₀:=s,H₀:=H,env:=compEnvC sc cl C X.env,outer:=X.stack,ex:=ex,fn:=λ _=>false,pn:=X.pn++pins,xe:=λ _ _=>False}
def lcN(X:Cx)(own:List Str)(fr:List Nat):List Str:=own++fr.map λ j=>X.N.getD j Str.empty
def lcS(k:Nat)(fr:List Nat)(σ:St):St:=List.replicate k none++fr.map λ j=>(σ[j]?).getD none
def acY(N:List Str)(sc:Scope)(fr:List Nat):Bool:=fr.all λ j=>match N[j]? with
 | some x=>sc.names.lookup x==some .free
 | none=>false
structure oE(X:Cx)(sc:Scope)(own:List Str)(fr:List Nat):Prop where
 kind:sc.kind=.function
 cell:∀ y∈sc.names,y.2 ≠ .cell
 free:∀ y∈sc.names,y.2=.free->(X.env.kindOf y.1=some .cell\/X.env.kindOf y.1=some .free)
 names:∀ y∈sc.names,y.2=.local->sc.names.lookup y.1=some .local
 fr:acY X.N sc fr=true
def PTs(X:Cx)(ifs:List Expr)(t:TT):Prop:=
 ∀ (pins:PN) (s:Shared) (σ:St) (H:Hp) (Q:Bool->Hp->Prop),Inv X pins σ H s->t σ H Q->wpAny (model X.prog X.w) X.A (qp ifs X.env) (TP X pins σ Q) X.xe s
def aja:TT:=λ _ H Q=>Q true H
theorem ad7:PTs X [] aja:=λ _ _ _ H _ I h=>wpAny_tests_nil ⟨H,I,h⟩
theorem acG(h:PT X c t):PTs X [c] t:=λ pins s σ H Q I q=>wpAny_tests_one (h pins s σ H Q I q)
theorem mT(h:acY N sc fr=true)(hj:j∈fr):∃ x,N[j]? =some x/\sc.names.lookup x=some .free:=by
 have q:=List.all_eq_true.mp h j hj;cases e:N[j]? with
 | none=>simp[e] at q
 | some x =>
  simp only[e] at q;exact⟨x,rfl,eq_of_beq q⟩
theorem aeO(L:oE X sc own fr)(I:Inv X pins σ H s)(hf:∀ b∈fp,jm X pins H b)(hb:∀ b∈fp,b<s.heap.objs.size)(hC:s.heap.objs.size<=C)
  (c1:∀ n c,cl.lookup n=some c->X.env.cells.lookup n=some c)(c2:∀ n,(n,NameKind.free)∈sc.names->∃ c,cl.lookup n=some c):(blk X sc (lcN X own fr) cl C s H fp pins).Ok where
 mod:=I.ok.mod
 kind:=L.kind
 glob:=I.ok.glob
 blt:=I.ok.blt
 above:=hC
 inj:=λ x y c a b=>I.ok.inj x y c (c1 _ _ a) (c1 _ _ b)
 has:=λ x hx=>c2 x (jd (sc:=sc) (env:=X.env) hx L.cell)
 cab:=λ x c z=>absurd (show false=true from z) Bool.false_ne_true
 hd:=I.ok.hd
 frames:=I.ok.frames
 stk:=.inl rfl
 exf:=λ b z=>⟨Nat.ne_of_lt (Nat.lt_of_lt_of_le (hb b z) hC),λ x c e=>(hf b z).2.2.2.2.1 x c (c1 _ _ e)⟩
 bs:=I.bs
 bsz:=Nat.le_trans I.ok.bsz I.sz
 noex:=λ b o e z=>by
  rcases(hf b z).2.2.2.1 with q | q
  ·exact I.ok.noex b o e q
  ·exact absurd (Nat.lt_of_lt_of_le (Heap.lt_size e) (Nat.le_trans I.ok.bsz q)) (Nat.lt_irrefl _)
 exfs:=λ b z q=>by
  rcases List.mem_cons.mp (I.fF b q) with e | e
  ·exact(hf b z).2.1 e
  ·exact(hf b z).2.2.1 e
 qo:=I.stack
 frf:=I.nG
theorem ya(L:oE X sc own fr)(I:Inv X pins σ H s)(hf:∀ b∈fp,jm X pins H b)(hb:∀ b∈fp,b<s.heap.objs.size)(hC:s.heap.objs.size<=C)
  (c1:∀ n c,cl.lookup n=some c->X.env.cells.lookup n=some c)(c2:∀ n,(n,NameKind.free)∈sc.names->∃ c,cl.lookup n=some c)
(hn:h1.Ns C m) (k:∀ b o,s.heap.get? b=some o->h1.get? b=some o) :
  Inv (blk X sc (lcN X own fr) cl C s H fp pins) [] (lcS own.length fr σ) H {s with heap:=h1,toks:=tk}:=by
 have ok:=aeO L I hf hb hC c1 c2;refine⟨ok,rfl,I.bare,Un.kept k,⟨m,hn,λ i x v e1 e2 e3=>?_⟩,λ x c e=>?_,I.hok.fresh hC,λ x c e=>I.freeC x c (c1 _ _ e),λ p hp=>?_,I.hok.kept k,?_⟩
 ·-- one of the names around
  have hi:¬ i<own.length:=λ hi=>by
   unfold lcS at e2;rw[List.getElem?_append_left (by simpa using hi),List.getElem?_replicate] at e2
   split at e2<;>cases e2
  have e1':(lcN X own fr)[i]? =some x:=e1;unfold lcN at e1';unfold lcS at e2;rw[List.getElem?_append_right (by omega),List.getElem?_map] at e1';rw[List.getElem?_append_right (by simpa using hi),List.getElem?_map,List.length_replicate] at e2;cases q:fr[i-own.length]? with
  | none=>rw[q] at e1';cases e1'
  | some j =>
   rw[q] at e1' e2;obtain⟨y,hy,hyf⟩:=mT L.fr (List.mem_of_getElem? q);have ex:y=x:=by have:=Option.some.inj e1';rw[<- this];simp[List.getD,hy]
   subst ex;have ev:σ[j]? =some (some v):=by
    have z:(σ[j]?).getD none=some v:=Option.some.inj e2;cases w:σ[j]? with
    | none=>rw[w] at z;cases z
    | some o=>rw[w] at z;exact congrArg some z
   have hm:(y,NameKind.free)∈sc.names:=PySem.mem_of_lookup hyf;have hk:=L.free _ hm rfl;have vis:Vis X.env.scope y:=by
    rcases hk with z | z
    ·exact .inr (.inl z)
    ·exact .inr (.inr z)
   obtain⟨m0,hn0,hl⟩:=I.loc;obtain⟨u,r,l⟩:=hl j y v hy ev vis;refine⟨u,r,.inr ⟨?_,?_⟩⟩
   ·exact cJ (env:=X.env) hyf
   ·obtain⟨c,hc⟩:=c2 y hm;rcases l with ⟨z,_⟩ | ⟨_,c',hc',hcell⟩
    ·rcases hk with q | q
     ·exact absurd (show X.env.kindOf y=some .local from z) (by rw[q];decide)
     ·exact absurd (show X.env.kindOf y=some .local from z) (by rw[q];decide)
    ·have:c=c':=Option.some.inj ((c1 _ _ hc).symm.trans hc');subst this;obtain⟨o,ho,hd⟩:=hcell;exact⟨c,hc,o,k _ _ ho,hd⟩
 ·obtain⟨v,o,ho,hd⟩:=I.cell x c (c1 _ _ e);exact⟨v,o,k _ _ ho,hd⟩
 ·have hp':p∈X.pn++pins:=by simpa [blk] using hp
  obtain⟨a1,a2,a3,a4,a5⟩:=I.pin p hp';refine⟨k _ _ a1,a2,Nat.ne_of_lt (Nat.lt_of_lt_of_le (Heap.lt_size a1) hC),λ q=>?_,a5⟩;rcases List.mem_cons.mp (I.fF _ q) with e | e
  ·exact a3 e
  ·exact a4 e
 ·show(lcS own.length fr σ).length=(lcN X own fr).length;simp[lcS,lcN]
abbrev LcW:=Nat->Nat->List V->St->Hp->Prop
def vS(J:It)(g:TG)(tt:TT)(te:TE)(W:LcW)(Fin:List V->Hp->Prop):Prop:=∀ i m ys τ H,W i m ys τ H ->
 (J.stop i H/\Fin ys H)\/(J.go i H/\ys.length<sizeLine/\∀ x H',J.yld i H x H'->g x τ H' λ τ2 H2=>tt τ2 H2 λ b H3 =>
  if b=true then te τ2 H3 λ y H4=>∃ m',m'<m/\W (i+1) m' (ys++[y]) τ2 H4 else ∃ m',m'<m/\W (i+1) m' ys τ2 H3)
section
variable {X:Cx}{pins:PN}{σ:St}{H:Hp}{s:Shared}{sc:Scope}{own:List Str}{fr:List Nat}{cl:List (Str×Addr)}{fp:List Addr}{it:Addr}{J:It}{tn:Nat->Heap->Prop}{g:TG}{tt:TT}{te:TE}{W:LcW}{Fin:List V->Hp->Prop}
 {elt tg iter:Expr}{ifs:List Expr}{pos:Pos}{E:VP}
theorem vZ{RR:Value->Addr->Result->Shared->Prop}(hc:X.calm=true)(L:oE X sc own fr)(hcl1:∀ n c,cl.lookup n=some c->X.env.cells.lookup n=some c)(hcl2:∀ n,(n,NameKind.free)∈sc.names->∃ c,cl.lookup n=some c)
  (hg:∀ C s H ex pl,PG (blk X sc (lcN X own fr) cl C s H ex pl) tg g)(ht:∀ C s H ex pl,PTs (blk X sc (lcN X own fr) cl C s H ex pl) ifs tt)(he:∀ C s H ex pl,PE (blk X sc (lcN X own fr) cl C s H ex pl) elt te)
  (I:Inv X pins σ H s)(T:Turn X.prog X.w X.K tg J fp it tn)(st:tn 0 s.heap)(hf:∀ b∈fp,jm X pins H b)(w0:∃ m,W 0 m [] (lcS own.length fr σ) H)(turn:vS J g tt te W Fin)
  (hRR:∀ (D C:Addr) (s':Shared) (H':Hp) (ys:List V) (us:List Value) (n:Nat) (m:Str->Option Value),Inv X pins σ H' s'->s'.heap.get? D=some {cls:=.type "list",data:=.seq us.toArray n}->Vals ys us->ys.length<=sizeLine->H' D=none->H' C=none ->
   s.heap.objs.size<=D->s.heap.objs.size<=C->D≠C->s'.heap.Ns C m->Fin ys H'->RR (.ref D) C (.ok .next) s') :
  wpAny (model X.prog X.w) X.A (newList []) (λ acc s₃=>wpAny (model X.prog X.w) X.A (newFunctionEnv sc X.env.globals cl [] X.env.qual none .none (some X.env)) (λ cenv s₄ =>
   codeAny (model X.prog X.w) X.A (.compStart (.ListComp elt [⟨tg,iter,ifs,0⟩] sc pos) 0 (.ref it) acc {cenv with scope:=relabel sc X.env}) (RR acc cenv.locals) s₄) E s₃) E s:=by
 refine wpAny_newObj_type (wpAny_newFunctionEnv L.cell (by intro y hy;simp at hy) (λ h₁ hns₁ hsb₁=>?_) L.kind);dsimp only at hns₁ hsb₁ ⊢;generalize hH2:s.heap.push {cls:=.type "list",dict:=none,data:=.seq ([]:List Value).toArray}=H2 at hns₁ hsb₁ ⊢;have hCs:H2.objs.size=s.heap.objs.size+1:=by rw[<- hH2,Heap.size_push]
 have hD0:s.heap.objs.size≠H2.objs.size:=by rw[hCs];exact Nat.ne_of_lt (Nat.lt_succ_self _)
 have hCle:s.heap.objs.size<=H2.objs.size:=by rw[hCs];exact Nat.le_succ _
 have below:∀ b,b<s.heap.objs.size->b≠H2.objs.size/\b≠s.heap.objs.size:=λ b hb=>⟨by rw[hCs];exact Nat.ne_of_lt (Nat.lt_succ_of_lt hb),Nat.ne_of_lt hb⟩;have old:∀ b o,s.heap.get? b=some o->h₁.get? b=some o:=λ b o e=>hsb₁.extBut b o (below b (Heap.lt_size e)).1 (Heap.get?_push_of_some _ (hH2 ▸ Heap.get?_push_of_some _ e));have hacc:h₁.get? s.heap.objs.size=some {cls:=.type "list",data:=.seq ([]:List Value).toArray 0}:=hsb₁.extBut _ _ hD0 (Heap.get?_push_of_some _ (hH2 ▸ Heap.get?_push_size _ rfl));have hfb:∀ b∈fp,b<s.heap.objs.size:=λ b hb=>by obtain⟨o,e,_⟩:=T.obj 0 _ st b hb;exact Heap.lt_size e
 have I1:Inv (blk X sc (lcN X own fr) cl H2.objs.size s H fp pins) [] (lcS own.length fr σ) H {s with heap:=h₁,toks:=s.toks+([]:List (Str×Value)).length}:=ya L I hf hfb hCle hcl1 hcl2 hns₁ old;have st1:tn 0 h₁:=T.keep 0 _ _ st λ b _ o e=>old b o e;generalize hY:blk X sc (lcN X own fr) cl H2.objs.size s H fp pins=Y at I1;have hYp:Y.prog=X.prog:=by rw[<- hY];rfl
 have hYw:Y.w=X.w:=by rw[<- hY];rfl
 have hYK:Y.K=X.K:=by rw[<- hY];rfl
 have hYA:Y.A=X.A:=by rw[<- hY];rfl
 have hYc:Y.calm=true:=by rw[<- hY];exact hc
 have hYe:Y.env=compEnvC sc cl H2.objs.size X.env:=by rw[<- hY];rfl
 have hYx:Y.xe=λ _ _=>False:=by rw[<- hY];rfl
 have hYpn:Y.pn=X.pn++pins:=by rw[<- hY];rfl
 have hYs:Y.s₀=s:=by rw[<- hY];rfl
 have hYH:Y.H₀=H:=by rw[<- hY];rfl
 have hYex:Y.ex=fp:=by rw[<- hY];rfl
 have hYfs:Y.fs=frs X.stack:=by rw[<- hY];rfl
 have gY:=hg H2.objs.size s H fp pins;have tY:=ht H2.objs.size s H fp pins;have eY:=he H2.objs.size s H fp pins;rw[hY] at gY tY eY;have D_pin:∀ p∈Y.pn++([]:PN),p.1≠s.heap.objs.size:=λ p hp=>by rw[hYpn,List.append_nil] at hp;exact(below _ (Heap.lt_size (I.pin p hp).1)).2
 have D_cell:∀ x c,Y.env.cells.lookup x=some c->c≠s.heap.objs.size:=λ x c e=>by rw[hYe] at e;obtain⟨v,z⟩:=I.cell x c (hcl1 _ _ e);exact(below _ z.lt).2
 have D_loc:s.heap.objs.size≠Y.env.locals:=by rw[hYe];exact hD0
 have D_fs:s.heap.objs.size ∉ Y.fs:=by
  rw[hYfs];intro z;rcases List.mem_cons.mp (I.fF _ z) with e | e
  ·exact absurd I.lt (by rw[<- e];exact Nat.lt_irrefl _)
  ·exact I.ahE (Nat.le_refl _) e
 have fpY:∀ {H':Hp} (pl:PN),(∀ b∈fp,H' b=none)->(∀ p∈pl,p.1=s.heap.objs.size)->∀ b∈fp,jm Y pl H' b:=λ {H'} pl hn hp b hb=>by
  obtain⟨_,f1,f2,f3,f4,f5⟩:=hf b hb;refine⟨hn b hb,by rw[hYe];exact(below b (hfb b hb)).1,?_,.inl (by rw[hYex];exact hb),λ x c e=>?_,λ p q=>?_⟩
  ·rw[hYfs];intro z;rcases List.mem_cons.mp (I.fF _ z) with e | e
   ·exact f1 e
   ·exact f2 e
  ·rw[hYe] at e;exact f4 x c (hcl1 _ _ e)
  ·rcases List.mem_append.mp q with z | z
   ·rw[hYpn] at z;exact f5 p z
   ·rw[hp p z];exact Ne.symm (below b (hfb b hb)).2
 have loop:∀ s₃:Shared,s₃={s with heap:=h₁,toks:=s.toks+([]:List (Str×Value)).length} ->
   codeAny (model X.prog X.w) X.A (.compLoop (.ListComp elt [⟨tg,iter,ifs,0⟩] sc pos) 0 (.ref it) (.ref s.heap.objs.size) (compEnvC sc cl H2.objs.size X.env)) (RR (.ref s.heap.objs.size) H2.objs.size) s₃:=by
  rintro s₃ rfl;obtain⟨m0,w0⟩:=w0;refine ji (λ n s'=>∃ i ys τ H' us k,Inv Y [] τ H' s'/\tn i s'.heap/\(∀ b∈fp,H' b=none)/\H' s.heap.objs.size=none/\s'.heap.get? s.heap.objs.size=some {cls:=.type "list",data:=.seq us.toArray k}/\Vals ys us/\ys.length<=sizeLine/\W i n ys τ H') ?_ m0
   ⟨0,[],_,H,[],0,I1,st1,λ b hb=>(hf b hb).1,I.hok.fresh (Nat.le_refl _),hacc,.nil,Nat.zero_le _,w0⟩
  rintro n s' ⟨i,ys,τ,H',us,k,I',st',hn',hD',ha',hv',hz',w'⟩;have Ip:Inv Y [(s.heap.objs.size,{cls:=.type "list",data:=.seq us.toArray k})] τ H' s':=I'.dh λ p hp=>by
   have e:p=(s.heap.objs.size,{cls:=.type "list",data:=.seq us.toArray k}):=by simpa using hp
   subst e;exact⟨ha',hD',D_loc,D_fs,λ v z=>nomatch (show Data.seq _ _=Data.cell v from z)⟩
  have onlyD:∀ p∈[((s.heap.objs.size,{cls:=.type "list",data:=.seq us.toArray k}):Addr×Obj)],p.1=s.heap.objs.size:=λ p hp=>by
   have e:p=(s.heap.objs.size,{cls:=.type "list",data:=.seq us.toArray k}):=by simpa using hp
   subst e;rfl
  rcases turn i n ys τ H' w' with ⟨stop,fin⟩ | ⟨go,hlen,step⟩
  ·have q:=T.done Y hYp hYw hYK hYc i _ s' τ H' (λ _ _=>False) Ip (fpY _ hn' onlyD) st' stop;rw[hYA] at q;refine thn q λ r s4 hq29=>?_;obtain⟨hr,I4⟩:=hq29;subst hr;have un:Un (frs X.stack) fp H H' s.heap s4.heap:=by have z:=I4.base;rw[hYfs,hYex,hYH,hYs] at z;exact z
   have os4:s4.os=s.os:=by have z:=I4.os;rw[hYs] at z;exact z
   have hok4:HOk X.prog X.w H' s4.heap:=by have z:=I4.hok;rw[hYp,hYw] at z;exact z
   have hch:∀ b∈fp,(b∈X.ex\/X.s₀.heap.objs.size<=b)/\b≠X.env.locals/\(∀ x c,X.env.cells.lookup x=some c->c≠b)/\∀ p∈X.pn++pins,p.1≠b:=λ b hb=>by obtain⟨_,f1,f2,f3,f4,f5⟩:=hf b hb;exact⟨f3,f1,f4,f5⟩
   have IX:Inv X pins σ H' s4:=I.adV os4 un hok4 I4.bare hch;obtain⟨mC,hmC,_⟩:=I4.loc;have hCf:=I4.free;rw[hYe] at hmC hCf;have pD:=I4.pin (s.heap.objs.size,{cls:=.type "list",data:=.seq us.toArray k}) (List.mem_append_right _ (List.mem_singleton.mpr rfl));exact hRR _ _ s4 H' ys us k mC IX pD.1 hv' hz' pD.2.1 hCf (Nat.le_refl _) hCle hD0 hmC fin
  ·have q:=T.item Y hYp hYw hYK hYc i _ s' τ H' (λ _ _=>False) Ip (fpY _ hn' onlyD) st' go;rw[hYA] at q;refine thn q λ r s4 hq30=>?_;obtain⟨u,hr,h4⟩:=hq30;subst hr;refine thn h4 λ _ s5 hq31=>?_;obtain⟨x,H5,I5,r5,y5,st5,fr5⟩:=hq31;have I5':=I5.pinned (fpY _ fr5 onlyD) (T.obj _ _ st5);have g5:=gY _ s5 τ H5 x u _ I5' r5 (step x H5 y5);rw[hYp,hYw,hYA,hYe,hYx] at g5;refine thn g5 λ _ s6 hq32=>?_;obtain⟨σ6,H6,I6,q6⟩:=hq32;have t6:=tY _ s6 σ6 H6 _ I6 q6;rw[hYp,hYw,hYA,hYe,hYx] at t6;refine thn t6 λ ok s7 hq33=>?_;obtain⟨H7,I7,q7⟩:=hq33;have keepD:∀ {σ8:St} {H8:Hp} {s8:Shared},Inv Y ([(s.heap.objs.size,{cls:=.type "list",data:=.seq us.toArray k})]++iO fp s5.heap) σ8 H8 s8->s8.heap.get? s.heap.objs.size=some {cls:=.type "list",data:=.seq us.toArray k}/\H8 s.heap.objs.size=none:=
    λ {σ8 H8 s8} I8=>by have pD:=I8.pin (s.heap.objs.size,{cls:=.type "list",data:=.seq us.toArray k}) (List.mem_append_right _ (List.mem_append_left _ (List.mem_singleton.mpr rfl)));exact⟨pD.1,pD.2.1⟩
   have keepI:∀ {σ8:St} {H8:Hp} {s8:Shared},Inv Y ([(s.heap.objs.size,{cls:=.type "list",data:=.seq us.toArray k})]++iO fp s5.heap) σ8 H8 s8->tn (i+1) s8.heap/\∀ b∈fp,H8 b=none:=
    λ {σ8 H8 s8} I8=>by refine⟨T.keep _ _ _ st5 λ b hb o e=>(I8.pin (b,o) (List.mem_append_right _ (List.mem_append_right _ (cL hb e)))).1,λ b hb=>?_⟩;obtain⟨o,e,d⟩:=T.obj _ _ st5 b hb;exact(I8.pin (b,o) (List.mem_append_right _ (List.mem_append_right _ (cL hb e)))).2.1
   cases ok with
   | false =>
    rw[if_neg Bool.false_ne_true] at q7 ⊢;obtain⟨m',hm',w7⟩:=q7;obtain⟨a7,b7⟩:=keepD I7;obtain⟨c7,d7⟩:=keepI I7;exact⟨m',hm',i+1,ys,σ6,H7,us,k,I7.dh (λ p hp=>(nomatch hp)),c7,d7,b7,a7,hv',hz',w7⟩
   | true =>
    rw[if_pos rfl] at q7 ⊢;have e7:=eY _ s7 σ6 H7 _ I7 q7;rw[hYp,hYw,hYA,hYe,hYx] at e7;refine thn e7 λ v s8 hq34=>?_;obtain⟨y,H8,I8,r8,m',hm',w8⟩:=hq34;obtain⟨a8,b8⟩:=keepD I8;obtain⟨c8,d8⟩:=keepI I8;have hl:=hv'.length;refine call_meets F.slot_list_append ⟨_,a8,rfl⟩ F.entry_list_append (F.args_list_append_2 _ _) (PySem.list_append s.heap.objs.size us.toArray k v (by rw[List.size_toArray];omega)) ⟨a8,?_⟩;have qu:=PySem.IsL.update a8 (λ xs=>xs.push v);have I9:=(I8.dh (pins':=[]) λ p hp=>nomatch hp).turned (it:=s.heap.objs.size) (t':=s8.toks) (h':=s8.heap.update s.heap.objs.size (Obj.mapSeq λ xs=>xs.push v)) (λ b o hb e=>(Heap.get?_update_other s8.heap _ (Ne.symm hb)).trans e) b8 D_loc (.inr (by rw[hYs];exact Nat.le_refl _)) D_cell D_pin;have ep:us.toArray.push v=(us++[v]).toArray:=by simp
    rw[ep] at qu;refine⟨m',hm',i+1,ys++[y],σ6,H8,us++[v],(if (us++[v]).toArray.size==us.toArray.size then k else k+1),I9,T.keep _ _ _ c8 λ b hb o e=>(Heap.get?_update_other s8.heap _ (Ne.symm (below b (hfb b hb)).2)).trans e,d8,b8,?_,hv'.append (.cons r8 .nil),?_,w8⟩
    ·exact qu
    ·rw[List.length_append,List.length_singleton];omega
 exact codeAny_compStart_list (loop _ rfl) (T.self _ 0 _ _ _ st1 (loop _ rfl))
def tLC(wi:TI)(g:TG)(tt:TT)(te:TE)(k:Nat)(fr:List Nat):TE:=λ σ H Q=>wi σ H λ J H1=>∃ W:LcW,(∃ m,W 0 m [] (lcS k fr σ) H1)/\vS J g tt te W λ ys H2=>∀ p,H2 p=none->Q (.ref p) (upd H2 p (.lst ys))
theorem iZ(L:oE X sc own fr)(ok:X.Ok):∃ cl,closureFor sc X.env=pure cl/\(∀ n c,cl.lookup n=some c->X.env.cells.lookup n=some c)/\(∀ n,(n,NameKind.free)∈sc.names->∃ c,cl.lookup n=some c):=
 gc λ x hx hf=>ok.has x.1 (L.free x hx hf)
theorem ahi(hc:X.calm=true)(L:oE X sc own fr)(hi:PI X tg iter wi)
  (hg:∀ cl C s H ex pl,PG (blk X sc (lcN X own fr) cl C s H ex pl) tg g)(ht:∀ cl C s H ex pl,PTs (blk X sc (lcN X own fr) cl C s H ex pl) ifs tt)(he:∀ cl C s H ex pl,PE (blk X sc (lcN X own fr) cl C s H ex pl) elt te)
  (hs:∀ x,foldedSetIterable iter X.env x=pure x:=by intro _;rfl):PE X (.ListComp elt [⟨tg,iter,ifs,0⟩] sc pos) (tLC wi g tt te own.length fr):=by
 intro pins s σ H Q I h;obtain⟨cl,hcl,c1,c2⟩:=iZ L I.ok;rw[eval_ListComp];refine wpAny_comprehension_free (use:=none) (g:=⟨tg,iter,ifs,0⟩) (gs:=[]) rfl hs hcl L.kind L.names ?_;refine thn (hi pins s σ H _ I h) λ v s1 h1=>thn h1 λ itv s2 h2=>?_;obtain⟨it,fp,tn,J,H2,e,I2,T,st2,f2,W,w0,turn⟩:=h2;subst e;refine vZ (cl:=cl) hc L c1 c2 (hg cl) (ht cl) (he cl) I2 T st2 f2 w0 turn λ D C s' H' ys us n m I' a' hv hz hD hC dD dC hDC hns fin=>?_;refine⟨m,hns,λ h' sb=>?_⟩;have far:∀ b,s2.heap.objs.size<=b->(X.s₀.heap.objs.size<=b)/\b≠X.env.locals/\(∀ x c,X.env.cells.lookup x=some c->c≠b)/\∀ p∈X.pn++pins,p.1≠b:=λ b hb=>by obtain⟨_,f1,_,f3,f4,f5⟩:=I2.n4 (H':=λ _=>none) hb rfl;refine⟨Nat.le_trans I2.sz hb,f1,f4,f5⟩
 obtain⟨z1,z2,z3,z4⟩:=far C dC;obtain⟨y1,y2,y3,y4⟩:=far D dD;have I3:Inv X pins σ H' {s' with heap:=h'}:=I'.turned (t':=s'.toks) (λ b o hb e=>sb.extBut b o hb e) hC z2 (.inr z1) z3 z4;exact⟨.ref D,_,I3.adI (sb.extBut _ _ hDC a') hD hv hz y1 y2 y3 y4,rfl,fin D hD⟩
theorem aad(hN:X.N.Nodup)(hi':X.N[i]? =some x)(hx:Loc X.env.scope x)(hc:X.calm=true)(L:oE X sc own fr)(hi:PI X tg iter wi)
  (hg:∀ cl C s H ex pl,PG (blk X sc (lcN X own fr) cl C s H ex pl) tg g)(ht:∀ cl C s H ex pl,PTs (blk X sc (lcN X own fr) cl C s H ex pl) ifs tt)(he:∀ cl C s H ex pl,PE (blk X sc (lcN X own fr) cl C s H ex pl) elt te)
  (hsw:swapsWith (.ListComp elt [⟨tg,iter,ifs,0⟩] sc pos) (some (.Name x pos')) spos.line X.env=pure true:=by rfl)
  (hs:∀ x,foldedSetIterable iter X.env x=pure x:=by intro _;rfl)(hf:X.fn x=true\/X.env.scope.names.lookup x=some .local:=by first | exact .inl rfl | exact .inr rfl | assumption) :
  PS X (.Assign [.Name x pos'] (.ListComp elt [⟨tg,iter,ifs,0⟩] sc pos) spos) (ahj (tLC wi g tt te own.length fr) (adk i)):=by
 intro pins s σ H D' I h;obtain⟨cl,hcl,c1,c2⟩:=iZ L I.ok;rw[exec_Assign_Name_used _ _ _ _ hsw];refine wpAny_bind (wpAny_standAt (wpAny_bind ?_));show wpAny _ _ (evalThenUse (.ListComp elt [⟨tg,iter,ifs,0⟩] sc pos) X.env (assign (.Name x pos') X.env)) _ _ _;unfold evalThenUse;refine wpAny_bind ?_;refine wpAny_comprehension_free (use:=some (assign (.Name x pos') X.env)) (g:=⟨tg,iter,ifs,0⟩) (gs:=[]) rfl hs hcl L.kind L.names ?_;refine thn (hi pins s σ H _ I h) λ v s1 h1=>thn h1 λ itv s2 h2=>?_;obtain⟨it,fp,tn,J,H2,e,I2,T,st2,f2,W,w0,turn⟩:=h2;subst e;refine vZ (cl:=cl) hc L c1 c2 (hg cl) (ht cl) (he cl) I2 T st2 f2 w0 turn λ D C s' H' ys us n m I' a' hv hz hD hC dD dC hDC hns fin=>?_;have far:∀ b,s2.heap.objs.size<=b->(X.s₀.heap.objs.size<=b)/\b≠X.env.locals/\(∀ x c,X.env.cells.lookup x=some c->c≠b)/\(b ∉ X.fs)/\∀ p∈X.pn++pins,p.1≠b:=λ b hb=>by obtain⟨_,f1,f2,f3,f4,f5⟩:=I2.n4 (H':=λ _=>none) hb rfl;refine⟨Nat.le_trans I2.sz hb,f1,f4,f2,f5⟩
 obtain⟨z1,z2,z3,z0,z4⟩:=far C dC;obtain⟨y1,y2,y3,_,y4⟩:=far D dD;have I3:=I'.adI a' hD hv hz y1 y2 y3 y4;obtain⟨oC,hoC,nsC⟩:∃ o,s'.heap.get? C=some o/\∃ es ep,o.data=.dict es ep:=by obtain⟨o,es,ep,e1,e2,_⟩:=hns;exact⟨o,e1,es,ep,e2⟩
 have hCt:(upd H' D (.lst ys)) C=none:=by rw[aj (Ne.symm hDC)];exact hC
 have I4:Inv X (pins++[(C,oC)]) σ (upd H' D (.lst ys)) s':=I3.dh λ p hp=>by
  rcases List.mem_append.mp hp with z | z
  ·exact I3.pin p (List.mem_append_right _ z)
  ·have e:p=(C,oC):=by simpa using z
   subst e;obtain⟨es,ep,hd⟩:=nsC;exact⟨hoC,hCt,z2,z0,λ v z=>by have z':oC.data=.cell v:=z;rw[hd] at z';cases z'⟩
 refine thn (xt (pos:=pos') hN hi' hx hf _ s' σ _ (.ref D) (.ref D) _ I4 rfl (fin D hD)) λ _ s5 hq35=>?_;obtain⟨σ5,H5,I5,q5⟩:=hq35;have pC:=I5.pin (C,oC) (List.mem_append_right _ (List.mem_append_right _ (List.mem_singleton.mpr rfl)));obtain⟨o,es,ep,e1,e2,e3⟩:=hns;rw[hoC] at e1;cases e1;refine⟨m,⟨oC,es,ep,pC.1,e2,e3⟩,λ h' sb=>?_⟩;have I6:Inv X pins σ5 H5 {s5 with heap:=h'}:=(I5.jJ).turned (t':=s5.toks) (λ b o hb e=>sb.extBut b o hb e) pC.2.1 z2 (.inr z1) z3 z4;exact wpAny_pure (wpAny_pure ⟨σ5,H5,I6,q5⟩)
end
end L2
namespace D
open L2
abbrev St:=L2.St
structure Kp(H H':Hp):Prop where
 tup:∀ b xs,H b=some (.tup xs)->H' b=some (.tup xs)
 frz:∀ b o u,H b=some (.frz o u)->H' b=some (.frz o u)
theorem Kp.refl(H:Hp):Kp H H:=⟨λ _ _ e=>e,λ _ _ _ e=>e⟩
theorem Kp.trans(a:Kp H H1)(b:Kp H1 H2):Kp H H2:=⟨λ c xs e=>b.tup c xs (a.tup c xs e),λ c o u e=>b.frz c o u (a.frz c o u e)⟩
theorem Kp.new(h:H p=none):Kp H (upd H p o):=⟨λ b xs e=>by rw[aj (aH e h)];exact e,λ b ob u e=>by rw[aj (aH e h)];exact e⟩
theorem Kp.set(h:H p=some u)(ht:∀ xs,u ≠ .tup xs)(hf:∀ ob v,u ≠ .frz ob v):Kp H (upd H p o):=
 ⟨λ b xs e=>by rw[aj (uA e h λ z=>ht _ z.symm)];exact e,λ b ob v e=>by rw[aj (uA e h λ z=>hf _ _ z.symm)];exact e⟩
def SqF(K:FG)(H:Hp)(a:Addr)(xs:List V):Prop:=
 (∃ o,H a=some (.frz o (.lst xs)))\/∃ (o:Obj) (its:Array Value) (n:Nat),K.lookup a=some o/\o.cls=.type "list" /\ o.dict=none/\o.data=.seq its n/\its.size<=sizeLine/\Vals xs its.toList
theorem SqF.sq{K:FG}{H:Hp}{a:Addr}{xs:List V}(h:SqF K H a xs):SqL K H a xs:=by
 rcases h with h | h
 ·exact .inl (.inr h)
 ·exact .inr h
theorem SqF.keep{K:FG}{H H':Hp}{a:Addr}{xs:List V}(k:Kp H H')(h:SqF K H a xs):SqF K H' a xs:=by
 rcases h with ⟨o,h⟩ | h
 ·exact .inl ⟨o,k.frz _ _ _ h⟩
 ·exact .inr h
theorem SqT.keep{K:FG}{H H':Hp}{a:Addr}{xs:List V}(k:Kp H H')(h:SqT K H a xs):SqT K H' a xs:=by
 rcases h with (h | ⟨o,h⟩) | h
 ·exact .inl (.inl (k.tup _ _ h))
 ·exact .inl (.inr ⟨o,k.frz _ _ _ h⟩)
 ·exact .inr h
def sU:Key->PyData
 | .inl i=>.int i
 | .inr x=>.str x
mutual
def au(K:FG)(H:Hp):PyData->V->Prop
 | .none,v=>v=.non
 | .bool b,v=>v=.bl b
 | .int i,v=>v=.int i
 | .str x,v=>v=.str x
 | .list ds,v=>∃ a vs,v=.ref a/\SqF K H a vs/\aO K H ds vs
 | .tuple ds,v=>∃ a vs,v=.ref a/\SqT K H a vs/\aO K H ds vs
 | .dict kvs,v=>∃ a o l,v=.ref a/\H a=some (.frz o (.dK l))/\jh K H kvs l
def aO(K:FG)(H:Hp):List PyData->List V->Prop
 | [],vs=>vs=[]
 | d::ds,vs=>∃ v r,vs=v::r/\au K H d v/\aO K H ds r
def jh(K:FG)(H:Hp):List (PyData×PyData)->List (Key×V)->Prop
 | [],l=>l=[]
 | (k,d)::ds,l=>∃ key v r,l=(key,v)::r/\k=sU key/\au K H d v/\jh K H ds r
end
mutual
theorem au.keep{K:FG}{H H':Hp}(k:Kp H H'):∀ {d:PyData} {v:V},au K H d v->au K H' d v
 | .none,v,h=>by simp only[au] at h ⊢;exact h
 | .bool b,v,h=>by simp only[au] at h ⊢;exact h
 | .int i,v,h=>by simp only[au] at h ⊢;exact h
 | .str x,v,h=>by simp only[au] at h ⊢;exact h
 | .list ds,v,h=>by simp only[au] at h ⊢;obtain⟨a,vs,e,s,r⟩:=h;exact⟨a,vs,e,s.keep k,aO.keep k r⟩
 | .tuple ds,v,h=>by simp only[au] at h ⊢;obtain⟨a,vs,e,s,r⟩:=h;exact⟨a,vs,e,SqT.keep k s,aO.keep k r⟩
 | .dict kvs,v,h=>by simp only[au] at h ⊢;obtain⟨a,o,l,e,s,r⟩:=h;exact⟨a,o,l,e,k.frz _ _ _ s,jh.keep k r⟩
theorem aO.keep{K:FG}{H H':Hp}(k:Kp H H'):∀ {ds:List PyData} {vs:List V},aO K H ds vs->aO K H' ds vs
 | [],vs,h=>by simp only[aO] at h ⊢;exact h
 | d::ds,vs,h=>by simp only[aO] at h ⊢;obtain⟨v,r,e,h1,h2⟩:=h;exact⟨v,r,e,au.keep k h1,aO.keep k h2⟩
theorem jh.keep{K:FG}{H H':Hp}(k:Kp H H'):∀ {ds:List (PyData×PyData)} {l:List (Key×V)},jh K H ds l->jh K H' ds l
 | [],l,h=>by simp only[jh] at h ⊢;exact h
 | (key,d)::ds,l,h=>by simp only[jh] at h ⊢;obtain⟨k',v,r,e,ek,h1,h2⟩:=h;exact⟨k',v,r,e,ek,au.keep k h1,jh.keep k h2⟩
end
theorem aO.length{K:FG}{H:Hp}:∀ {ds:List PyData} {vs:List V},aO K H ds vs->vs.length=ds.length
 | [],vs,h=>by simp only[aO] at h;rw[h];rfl
 | d::ds,vs,h=>by simp only[aO] at h;obtain⟨v,r,e,_,h2⟩:=h;rw[e,List.length_cons,List.length_cons,aO.length h2]
theorem aO.get{K:FG}{H:Hp}:∀ {ds:List PyData} {vs:List V} {i:Nat} {d:PyData},aO K H ds vs->ds[i]? =some d->∃ v,vs[i]? =some v/\au K H d v
 | [],_,_,_,_,e=>by simp at e
 | d::ds,vs,0,d',h,e=>by simp only[aO] at h;obtain⟨v,r,ev,h1,_⟩:=h;simp at e;subst e;exact⟨v,by rw[ev];rfl,h1⟩
 | d::ds,vs,i+1,d',h,e=>by simp only[aO] at h;obtain⟨v,r,ev,_,h2⟩:=h;obtain⟨v',e1,e2⟩:=aO.get (i:=i) h2 (by simpa using e);exact⟨v',by rw[ev];simpa using e1,e2⟩
theorem aO.get'{K:FG}{H:Hp}{ds:List PyData}{vs:List V}{i:Nat}{v:V}(h:aO K H ds vs)(e:vs[i]? =some v):∃ d,ds[i]? =some d/\au K H d v:=by
 have hi:i<ds.length:=by have:=(List.getElem?_eq_some_iff.mp e).1;rw[h.length] at this;exact this
 obtain⟨v',e1,r⟩:=h.get (i:=i) (d:=ds[i]) (by simp[hi]);rw[e] at e1;cases e1;exact⟨ds[i],by simp[hi],r⟩
theorem aO.ints{K:FG}{H:Hp}:∀ (ns:List Int),aO K H (ns.map PyData.int) (ns.map V.int)
 | []=>by simp[aO]
 | n::ns=>by simp only[List.map_cons,aO];exact⟨_,_,rfl,by simp[au],aO.ints ns⟩
theorem aO.append{K:FG}{H:Hp}:∀ {ds es:List PyData} {vs us:List V},aO K H ds vs->aO K H es us->aO K H (ds++es) (vs++us)
 | [],es,vs,us,h,q=>by simp only[aO] at h;subst h;exact q
 | d::ds,es,vs,us,h,q=>by simp only[aO] at h;obtain⟨v,r,e,h1,h2⟩:=h;subst e;simp only[List.cons_append,aO];exact⟨v,r++us,rfl,h1,aO.append h2 q⟩
theorem aO.drop{K:FG}{H:Hp}:∀ {ds:List PyData} {vs:List V} (n:Nat),aO K H ds vs->aO K H (ds.drop n) (vs.drop n)
 | ds,vs,0,h=>by simpa using h
 | [],vs,n+1,h=>by simp only[aO] at h;subst h;simp[aO]
 | d::ds,vs,n+1,h=>by
  simp only[aO] at h;obtain⟨v,r,e,_,h2⟩:=h;subst e
  simpa using aO.drop n h2
theorem aO.take{K:FG}{H:Hp}:∀ {ds:List PyData} {vs:List V} (n:Nat),aO K H ds vs->aO K H (ds.take n) (vs.take n)
 | ds,vs,0,h=>by simp[aO]
 | [],vs,n+1,h=>by simp only[aO] at h;subst h;simp[aO]
 | d::ds,vs,n+1,h=>by simp only[aO] at h;obtain⟨v,r,e,h1,h2⟩:=h;subst e;simp only[List.take_succ_cons,aO];exact⟨v,_,rfl,h1,aO.take n h2⟩
inductive W where
 | d (x:PyData)
 | m (a:Addr)
 | t (n:String)
inductive MO where
 | lst (ws:List W)
 | dic (kvs:List (Key×W))
 | dct (kvs:List (List Key×W))
 | fdic (kvs:List (Key×W))
 | ins (C:Addr) (fs:List (Str×W))
 | tup (ws:List W)
 | flst (ws:List W)
 | exc (C:Addr) (fs:List (Str×W))
 | code (q:Str) (pos:Pos)
abbrev MH:=Addr->Option MO
def bH(M:MH)(a:Addr)(o:MO):MH:=λ b=>if b=a then some o else M b
theorem ak:bH M a o a=some o:=if_pos rfl
theorem aI(h:b≠a):bH M a o b=M b:=if_neg h
theorem dE:bH (bH M a o) a u=bH M a u:=by funext b;unfold bH;split<;>rfl
abbrev DS:=List (Option W)
def ay(K:FG)(H:Hp):W->V->Prop
 | .d x,v=>au K H x v
 | .m a,v=>v=.ref a
 | .t n,v=>v=.ty n
theorem ay.keep{K:FG}{H H':Hp}(k:Kp H H'):∀ {w:W} {v:V},ay K H w v->ay K H' w v
 | .d _,_,h=>au.keep k h
 | .m _,_,h=>h
 | .t _,_,h=>h
def bB(K:FG)(H:Hp):List W->List V->Prop:=Paired (ay K H)
theorem bB.keep{K:FG}{H H':Hp}(k:Kp H H'){ws:List W}{vs:List V}(h:bB K H ws vs):bB K H' ws vs:=Paired.gu h λ _ _ r=>r.keep k
theorem bB.length{K:FG}{H:Hp}{ws:List W}{vs:List V}(h:bB K H ws vs):ws.length=vs.length:=Paired.length h
theorem bB.get{K:FG}{H:Hp}:∀ {ws:List W} {vs:List V} {i:Nat} {w:W},bB K H ws vs->ws[i]? =some w->∃ v,vs[i]? =some v/\ay K H w v
 | _,_,_,_,.nil,e=>by simp at e
 | _,_,0,_,.cons r _,e=>by simp at e;subst e;exact⟨_,rfl,r⟩
 | _,_,i+1,_,.cons _ t,e=>by obtain⟨u,h1,h2⟩:=bB.get (i:=i) t (by simpa using e);exact⟨u,by simpa using h1,h2⟩
theorem bB.set{K:FG}{H:Hp}{w:W}{v:V}(r:ay K H w v):∀ {ws:List W} {vs:List V} (i:Nat),bB K H ws vs->bB K H (ws.set i w) (vs.set i v)
 | _,_,_,.nil=>.nil
 | _,_,0,.cons _ t=>.cons r t
 | _,_,i+1,.cons q t=>.cons q (bB.set r i t)
theorem bB.append{K:FG}{H:Hp}:∀ {ws ws':List W} {vs vs':List V},bB K H ws vs->bB K H ws' vs'->bB K H (ws++ws') (vs++vs')
 | _,_,_,_,.nil,s=>s
 | _,_,_,_,.cons r t,s=>.cons r (bB.append t s)
theorem bB.data{K:FG}{H:Hp}:∀ {ds:List PyData} {vs:List V},bB K H (ds.map W.d) vs->aO K H ds vs
 | [],_,h=>by cases h;simp[aO]
 | d::ds,_,h=>by
  cases h with
  | cons r t=>simp only[aO];exact⟨_,_,rfl,r,bB.data t⟩
theorem aO.ws{K:FG}{H:Hp}:∀ {ds:List PyData} {vs:List V},aO K H ds vs->bB K H (ds.map W.d) vs
 | [],vs,h=>by simp only[aO] at h;subst h;exact .nil
 | d::ds,vs,h=>by simp only[aO] at h;obtain⟨v,r,e,h1,h2⟩:=h;subst e;exact .cons h1 (aO.ws h2)
def ab6(K:FG)(H:Hp)(a:Addr):MO->Prop
 | .lst ws=>∃ vs,H a=some (.lst vs)/\bB K H ws vs
 | .dic kvs=>∃ l,H a=some (.dK l)/\Paired (λ(p:Key×W) (q:Key×V)=>p.1=q.1/\ay K H p.2 q.2) kvs l
 | .fdic kvs=>∃ o l,H a=some (.frz o (.frz o (.dK l)))/\Paired (λ(p:Key×W) (q:Key×V)=>p.1=q.1/\ay K H p.2 q.2) kvs l
 | .dct kvs=>∃ l,H a=some (.dT l)/\Paired (λ(p:List Key×W) (q:List Key×V)=>p.1=q.1/\ay K H p.2 q.2) kvs l
 | .ins C fs=>∃ dx l,H a=some (.ins C dx l)/\Paired (λ(p:Str×W) (q:Str×V)=>p.1=q.1/\ay K H p.2 q.2) fs l
 | .tup ws=>∃ vs,H a=some (.tup vs)/\bB K H ws vs
 | .flst ws=>∃ o vs,H a=some (.frz o (.frz o (.lst vs)))/\bB K H ws vs
 | .exc C fs=>∃ φ dct,H a=some (.ext φ)/\(∀ h,φ h->∃ vs,h.get? a=some {cls:=.ref C,dict:=dct,data:=.fields vs}/\(fs=[]->vs[2]? =some .none)) /\
   ((dct=none/\fs=[])\/∃ dx o l,dct=some dx/\H dx=some (.frz o (.xd l))/\Paired (λ(p:Str×W) (q:Str×V)=>p.1=q.1/\ay K H p.2 q.2) fs l)
 | .code q pos=>∃ ps,H a=some (.tbl ps)/\TriplesOk ps.toList/\(codeAmong pos ps.toList=none\/∃ c o vs t,codeAmong pos ps.toList=some (.ref c)/\H c=some (.frz o (.own 0))/\o.data=.fields vs/\vs[1]? =some (.str q t))
def c5(K:FG)(H:Hp)(M:MH):Prop:=∀ a o,M a=some o->ab6 K H a o
theorem ab6.is{K:FG}{H:Hp}{a:Addr}{o:MO}(h:ab6 K H a o):∃ u,H a=some u:=by
 cases o with
 | lst ws=>obtain⟨vs,e,_⟩:=h;exact⟨_,e⟩
 | dic kvs=>obtain⟨l,e,_⟩:=h;exact⟨_,e⟩
 | dct kvs=>obtain⟨l,e,_⟩:=h;exact⟨_,e⟩
 | fdic kvs=>obtain⟨o,l,e,_⟩:=h;exact⟨_,e⟩
 | ins C fs=>obtain⟨dx,l,e,_⟩:=h;exact⟨_,e⟩
 | tup ws=>obtain⟨vs,e,_⟩:=h;exact⟨_,e⟩
 | flst ws=>obtain⟨o,vs,e,_⟩:=h;exact⟨_,e⟩
 | exc C fs=>obtain⟨φ,dct,e,_⟩:=h;exact⟨_,e⟩
 | code q pos=>obtain⟨ps,e,_⟩:=h;exact⟨_,e⟩
theorem c5.free{K:FG}{H:Hp}{M:MH}(h:c5 K H M){p:Addr}(e:H p=none):M p=none:=by
 cases q:M p with
 | none=>rfl
 | some o =>
  obtain⟨u,z⟩:=(h p o q).is;rw[e] at z;cases z
theorem ab6.keep{K:FG}{H H':Hp}{a:Addr}{o:MO}(k:Kp H H')(s:∀ u,H a=some u->H' a=some u)(h:ab6 K H a o):ab6 K H' a o:=by
 cases o with
 | lst ws=>obtain⟨vs,e,r⟩:=h;exact⟨vs,s _ e,r.keep k⟩
 | dic kvs=>obtain⟨l,e,r⟩:=h;exact⟨l,s _ e,Paired.gu r λ p q z=>⟨z.1,z.2.keep k⟩⟩
 | dct kvs=>obtain⟨l,e,r⟩:=h;exact⟨l,s _ e,Paired.gu r λ p q z=>⟨z.1,z.2.keep k⟩⟩
 | fdic kvs=>obtain⟨o,l,e,r⟩:=h;exact⟨o,l,s _ e,Paired.gu r λ p q z=>⟨z.1,z.2.keep k⟩⟩
 | ins C fs=>obtain⟨dx,l,e,r⟩:=h;exact⟨dx,l,s _ e,Paired.gu r λ p q z=>⟨z.1,z.2.keep k⟩⟩
 | tup ws=>obtain⟨vs,e,r⟩:=h;exact⟨vs,s _ e,r.keep k⟩
 | flst ws=>obtain⟨o,vs,e,r⟩:=h;exact⟨o,vs,s _ e,r.keep k⟩
 | exc C fs =>
  obtain⟨φ,dct,e,p,r⟩:=h;refine⟨φ,dct,s _ e,p,?_⟩;rcases r with r | ⟨dx,o,l,e1,e2,r⟩
  ·exact .inl r
  ·exact .inr ⟨dx,o,l,e1,k.frz _ _ _ e2,Paired.gu r λ p q z=>⟨z.1,z.2.keep k⟩⟩
 | code q pos =>
  obtain⟨ps,e,ht,hc⟩:=h;refine⟨ps,s _ e,ht,?_⟩;rcases hc with hc | ⟨c,o,vs,t,e1,e2,e3⟩
  ·exact .inl hc
  ·exact .inr ⟨c,o,vs,t,e1,k.frz _ _ _ e2,e3⟩
theorem c5.new{K:FG}{H:Hp}{M:MH}{p:Addr}{o:HO}(h:c5 K H M)(e:H p=none):c5 K (upd H p o) M:=λ a mo q =>
 (h a mo q).keep (Kp.new e) λ u z=>by rw[aj (aH z e)];exact z
theorem c5.put{K:FG}{H:Hp}{M:MH}{p:Addr}{o:HO}{mo:MO}(h:c5 K H M)(k:Kp H (upd H p o))(r:ab6 K (upd H p o) p mo):c5 K (upd H p o) (bH M p mo):=λ a mo' q=>by
 by_cases e:a=p
 ·subst e;rw[ak] at q;cases q;exact r
 ·rw[aI e] at q;exact(h a mo' q).keep k λ u z=>by rw[aj e];exact z
structure Abs(K:FG)(H:Hp)(σ:St)(τ:DS)(M:MH):Prop where
 len:σ.length=τ.length
 val:∀ (i:Nat) w,τ[i]? =some (some w)->∃ v,σ[i]? =some (some v)/\ay K H w v
 mem:c5 K H M
theorem Abs.go{K:FG}{H H':Hp}{σ:St}{τ:DS}{M M':MH}(h:Abs K H σ τ M)(k:Kp H H')(m:c5 K H' M'):Abs K H' σ τ M':=
 ⟨h.len,λ i w e=>let ⟨v,q,r⟩:=h.val i w e; ⟨v,q,r.keep k⟩,m⟩
theorem Abs.set{K:FG}{H:Hp}{σ:St}{τ:DS}{M:MH}{w:W}{v:V}(h:Abs K H σ τ M)(i:Nat)(r:ay K H w v):Abs K H (σ.set i (some v)) (τ.set i (some w)) M:=by
 refine⟨by rw[List.length_set,List.length_set];exact h.len,λ j w' e=>?_,h.mem⟩
 by_cases hj:i=j
 ·subst hj;have hl:i<τ.length:=by
   have:=(List.getElem?_eq_some_iff.mp e).1
   rwa[List.length_set] at this
  rw[List.getElem?_set_self hl] at e;cases e;exact⟨v,List.getElem?_set_self (by rw[h.len];exact hl),r⟩
 ·rw[List.getElem?_set_ne hj] at e;obtain⟨v',q,r'⟩:=h.val j w' e;exact⟨v',by rw[List.getElem?_set_ne hj];exact q,r'⟩
abbrev QD:=W->MH->Prop
abbrev TD:=DS->MH->QD->Prop
abbrev TTd:=DS->MH->(Bool->MH->Prop)->Prop
abbrev TAd:=DS->MH->(List W->MH->Prop)->Prop
structure Ed where
 nx:DS->MH->Prop
 rt:QD
 bk:DS->MH->Prop:=λ _ _=>False
 ct:DS->MH->Prop:=λ _ _=>False
abbrev TSd:=Ed->DS->MH->Prop
def up(K:FG)(t:TD):TE:=λ σ H Q=>∃ τ M Qd,Abs K H σ τ M/\t τ M Qd/\∀ v H' w M',Kp H H'->ay K H' w v->c5 K H' M'->Qd w M'->Q v H'
def upT(K:FG)(t:TTd):TT:=λ σ H Q=>∃ τ M Qd,Abs K H σ τ M/\t τ M Qd/\∀ b H' M',Kp H H'->c5 K H' M'->Qd b M'->Q b H'
def upA(K:FG)(t:TAd):TA:=λ σ H Q=>∃ τ M Qd,Abs K H σ τ M/\t τ M Qd/\∀ vs H' ws M',Kp H H'->bB K H' ws vs->c5 K H' M'->Qd ws M'->Q vs H'
def upS(K:FG)(t:TSd):TS:=λ D σ H=>∃ τ M Dd,Abs K H σ τ M/\t Dd τ M /\
 (∀ σ' H' τ' M',Kp H H'->Abs K H' σ' τ' M'->Dd.nx τ' M'->D.nx σ' H')/\(∀ v H' w M',Kp H H'->ay K H' w v->c5 K H' M'->Dd.rt w M'->D.rt v H') /\
 (∀ σ' H' τ' M',Kp H H'->Abs K H' σ' τ' M'->Dd.bk τ' M'->D.bk σ' H')/\(∀ σ' H' τ' M',Kp H H'->Abs K H' σ' τ' M'->Dd.ct τ' M'->D.ct σ' H')
abbrev PD(X:Cx)(e:Expr)(t:TD):Prop:=PE X e (up X.K t)
abbrev PTd(X:Cx)(e:Expr)(t:TTd):Prop:=PT X e (upT X.K t)
abbrev PAd(X:Cx)(es:List Expr)(t:TAd):Prop:=PA X es (upA X.K t)
abbrev PSd(X:Cx)(st:Stmt)(t:TSd):Prop:=PS X st (upS X.K t)
abbrev oN(X:Cx)(st:List Stmt)(t:TSd):Prop:=PSs X st (upS X.K t)
theorem gp(h:PE X e t)(k:∀ σ H Q,t' σ H Q->t σ H Q):PE X e t':=λ pins s σ H Q I q=>h pins s σ H Q I (k σ H Q q)
theorem aci(h:PT X e t)(k:∀ σ H Q,t' σ H Q->t σ H Q):PT X e t':=λ pins s σ H Q I q=>h pins s σ H Q I (k σ H Q q)
theorem aiO(h:PA X es t)(k:∀ σ H Q,t' σ H Q->t σ H Q):PA X es t':=λ pos pins s σ H Q I q=>h pos pins s σ H Q I (k σ H Q q)
theorem sX{st:Stmt}{t t':TS}(h:PS X st t)(k:∀ D σ H,t' D σ H->t D σ H):PS X st t':=λ pins s σ H D I q=>h pins s σ H D I (k D σ H q)
theorem afU{st:List Stmt}{t t':TS}(h:PSs X st t)(k:∀ D σ H,t' D σ H->t D σ H):PSs X st t':=λ pins s σ H D I q=>h pins s σ H D I (k D σ H q)
end D
namespace D
open L2
section
variable {X:Cx}{pos:Pos}{a b c e:Expr}{ta tb tc te:TD}{K:FG}
abbrev Kont(K:FG)(H:Hp)(Qd:QD)(Q:VK):Prop:=∀ v H' w M',Kp H H'->ay K H' w v->c5 K H' M'->Qd w M'->Q v H'
theorem kgo(k:Kont K H Qd Q)(kp:Kp H H1):Kont K H1 Qd Q:=λ v H' w M' k2 r m q=>k v H' w M' (kp.trans k2) r m q
inductive ai4(i:Nat) (τ:DS) (M:MH) (Q:QD):Prop
 | mk (w:W) (z:τ[i]? =some (some w)) (q:Q w M):ai4 i τ M Q
def ag(i:Nat)(τ:DS)(M:MH)(Q:QD):Prop:=ai4 i τ M Q
theorem afC(h:PE X e (aiE i)):PD X e (ag i):=gp h λ σ H Q hq36=>by obtain⟨τ,M,Qd,A,⟨w,e,q⟩,k⟩:=hq36;obtain⟨v,e',r⟩:=A.val i w e;exact⟨v,e',k v H w M (Kp.refl H) r A.mem q⟩
def dC(w:W)(_:DS)(M:MH)(Q:QD):Prop:=Q w M
theorem aeH(h:PE X e (tC v))(r:∀ H,ay X.K H w v):PD X e (dC w):=gp h λ σ H Q ⟨τ,M,Qd,A,q,k⟩=>k v H w M (Kp.refl H) (r H) A.mem q
def OpD(K:FG)(r:R2)(rd:W->W->MH->QD->Prop):Prop:=∀ x y H w w' M Qd Q,ay K H w x->ay K H w' y->c5 K H M->rd w w' M Qd->Kont K H Qd Q->r x y H Q
def dOp(rd:W->W->MH->QD->Prop)(ta tb:TD)(τ:DS)(M:MH)(Q:QD):Prop:=ta τ M λ w M1=>tb τ M1 λ w' M2=>rd w w' M2 Q
theorem sj(hd:OpD K r rd)(h:up K (dOp rd ta tb) σ H Q):tOp r (up K ta) (up K tb) σ H Q:=by obtain⟨τ,M,Qd,A,h,k⟩:=h;refine⟨τ,M,_,A,h,λ x H1 w M1 kp r1 m1 q1=>⟨τ,M1,_,A.go kp m1,q1,λ y H2 w' M2 kp2 r2 m2 q2=>?_⟩⟩;exact hd x y H2 w w' M2 Qd Q (r1.keep kp2) r2 m2 q2 (kgo k (kp.trans kp2))
theorem aim(ho:OpR X (binaryOp op) r)(hd:OpD X.K r rd)(ha:PD X a ta)(hb:PD X b tb):PD X (.BinOp a op b pos) (dOp rd ta tb):=gp (agt ho ha hb) λ σ H Q h=>sj hd h
theorem agT(ho:OpR X (compareOp op) r)(hd:OpD X.K r rd)(ha:PD X a ta)(hb:PD X b tb)(hm:behindInMarks op b=false:=by first | exact iI _ (by decide) (by decide) | rfl) :
  PD X (.Compare a [op] [b] pos) (dOp rd ta tb):=gp (acW ho ha hb hm) λ σ H Q h=>sj hd h
theorem aiy(hr:IxR X r)(hd:OpD X.K r rd)(ha:PD X a ta)(hb:PD X b tb)(hs:qA b:=by intro _ _;rfl):PD X (.Subscript a b pos) (dOp rd ta tb):=gp (ahK hr ha hb hs) λ σ H Q h=>sj hd h
def aJ(t:TD)(τ:DS)(M:MH)(Q:Bool->MH->Prop):Prop:=t τ M λ w M1=>∃ k,w=.d (.bool k)/\Q k M1
theorem iL(hi:∀ σ H Q,up K ta σ H Q->t' σ H Q)(h:upT K (aJ ta) σ H Q):ab9 t' σ H Q:=by obtain⟨τ,M,Qd,A,h,k⟩:=h;refine hi σ H _ ⟨τ,M,_,A,h,λ v H' w M' kp r m hq37=>?_⟩;obtain⟨b,e,q⟩:=hq37;subst e;simp only[ay,au] at r;exact⟨b,r,k b H' M' kp m q⟩
theorem acn(ho:OpR X (compareOp op) r)(hd:OpD X.K r rd)(ha:PD X a ta)(hb:PD X b tb)(hm:behindInMarks op b=false:=by first | exact iI _ (by decide) (by decide) | rfl) :
  PTd X (.Compare a [op] [b] pos) (aJ (dOp rd ta tb)):=aci (aeq ho ha hb hm) λ σ H Q h=>iL (λ _ _ _ q=>sj hd q) h
theorem acq(h:PD X e te)(he:∀ whole,isTrue e X.env whole=(do let v <- whole;standAt e.pos;holding [v] (truthy v)):=by intro _;rfl):PTd X e (aJ te):=aci (agj h he) λ σ H Q q=>iL (λ _ _ _ z=>z) q
def jk(r r':W->W->MH->QD->Prop)(ta tb tc:TD)(τ:DS)(M:MH)(Q:QD):Prop:=ta τ M λ x M1=>tb τ M1 λ y M2=>r x y M2 λ z M3=>∃ k,z=.d (.bool k)/\(if k=true then tc τ M3 λ w' M4=>r' y w' M4 Q else Q (.d (.bool false)) M3)
theorem p7(hd:OpD K r rd)(hd':OpD K r' rd')(h:up K (jk rd rd' ta tb tc) σ H Q):yT r r' (up K ta) (up K tb) (up K tc) σ H Q:=by
 obtain⟨τ,M,Qd,A,h,k⟩:=h;refine⟨τ,M,_,A,h,λ x H1 w M1 kp r1 m1 q1=>⟨τ,M1,_,A.go kp m1,q1,λ y H2 w' M2 kp2 r2 m2 q2=>?_⟩⟩;have kq:=kp.trans kp2;refine hd x y H2 w w' M2 _ _ (r1.keep kp2) r2 m2 q2 λ v H3 w'' M3 kp3 r3 m3 hq38=>?_;obtain⟨b,e,q3⟩:=hq38;subst e;simp only[ay,au] at r3;refine⟨b,r3,?_⟩;have kr:=kq.trans kp3;cases b with
 | false =>
  rw[if_neg Bool.false_ne_true] at q3 ⊢;exact k _ H3 _ M3 kr (by simp[ay,au]) m3 q3
 | true =>
  rw[if_pos rfl] at q3 ⊢;exact⟨τ,M3,_,A.go kr m3,q3,λ u H4 w4 M4 kp4 r4 m4 q4=>hd' y u H4 w' w4 M4 Qd Q (r2.keep (kp3.trans kp4)) r4 m4 q4 (kgo k (kr.trans kp4))⟩
theorem aa2(ho:OpR X (compareOp op) r)(hd:OpD X.K r rd)(ho':OpR X (compareOp op') r')(hd':OpD X.K r' rd')(ha:PD X a ta)(hb:PD X b tb)(hc:PD X c tc)
  (hm:lastMarks [op,op'] [b,c]=false:=by with_unfolding_all rfl):PD X (.Compare a [op,op'] [b,c] pos) (jk rd rd' ta tb tc):=gp (aaf ho ho' ha hb hc hm) λ σ H Q h=>p7 hd hd' h
theorem wF(ho:OpR X (compareOp op) r)(hd:OpD X.K r rd)(ho':OpR X (compareOp op') r')(hd':OpD X.K r' rd')(ha:PD X a ta)(hb:PD X b tb)(hc:PD X c tc)
  (hm:lastMarks [op,op'] [b,c]=false:=by with_unfolding_all rfl):PTd X (.Compare a [op,op'] [b,c] pos) (aJ (jk rd rd' ta tb tc)):=aci (zp ho ho' ha hb hc hm) λ σ H Q h=>iL (λ _ _ _ q=>p7 hd hd' q) h
def UnD(K:FG)(r:V->Hp->VK->Prop)(rd:W->MH->QD->Prop):Prop:=∀ x H w M Qd Q,ay K H w x->c5 K H M->rd w M Qd->Kont K H Qd Q->r x H Q
def dUn(rd:W->MH->QD->Prop)(ta:TD)(τ:DS)(M:MH)(Q:QD):Prop:=ta τ M λ w M1=>rd w M1 Q
theorem ah0(ho:UnR X (unaryOp op) r)(hd:UnD X.K r rd)(ha:PD X a ta):PD X (.UnaryOp op a pos) (dUn rd ta):=gp (aiB ho ha) λ σ H Q h=>by obtain⟨τ,M,Qd,A,h,k⟩:=h;exact⟨τ,M,_,A,h,λ x H1 w M1 kp r1 m1 q1=>hd x H1 w M1 Qd Q r1 m1 q1 (kgo k kp)⟩
variable {tA tB:TTd}{rest:List Expr}
def adw(t u:TTd)(τ:DS)(M:MH)(Q:Bool->MH->Prop):Prop:=t τ M λ k M1=>if k=true then u τ M1 Q else Q false M1
def dOr(t u:TTd)(τ:DS)(M:MH)(Q:Bool->MH->Prop):Prop:=t τ M λ k M1=>if k=true then Q true M1 else u τ M1 Q
def xB(t:TTd)(τ:DS)(M:MH)(Q:Bool->MH->Prop):Prop:=t τ M λ k M1=>Q (!k) M1
abbrev PWd(X:Cx)(e:Expr)(t:TTd):Prop:=PW X e (upT X.K t)
theorem pw_w(h:PW X e t)(k:∀ σ H Q,t' σ H Q->t σ H Q):PW X e t':=λ w pins s σ H Q I q=>h w pins s σ H Q I (k σ H Q q)
theorem zX(ha:PTd X a tA):PWd X (.BoolOp .And [a] pos) tA:=pw_and1 ha
theorem aek(ha:PTd X a tA):PWd X (.BoolOp .Or [a] pos) tA:=pw_or1 ha
theorem aef(ha:PTd X a tA)(hb:PWd X (.BoolOp .And (b::rest) pos) tB):PWd X (.BoolOp .And (a::b::rest) pos) (adw tA tB):=pw_w (pw_and ha hb) λ σ H Q h=>by
 obtain⟨τ,M,Qd,A,h,k⟩:=h;refine⟨τ,M,_,A,h,λ b H1 M1 kp m1 q1=>?_⟩;cases b with
 | true=>rw[if_pos rfl] at q1 ⊢;exact⟨τ,M1,Qd,A.go kp m1,q1,λ b H2 M2 kp2 m2 q2=>k b H2 M2 (kp.trans kp2) m2 q2⟩
 | false=>rw[if_neg Bool.false_ne_true] at q1 ⊢;exact k _ H1 M1 kp m1 q1
theorem agk(ha:PTd X a tA)(hb:PWd X (.BoolOp .Or (b::rest) pos) tB):PWd X (.BoolOp .Or (a::b::rest) pos) (dOr tA tB):=pw_w (pw_or ha hb) λ σ H Q h=>by
 obtain⟨τ,M,Qd,A,h,k⟩:=h;refine⟨τ,M,_,A,h,λ b H1 M1 kp m1 q1=>?_⟩;cases b with
 | false=>rw[if_neg Bool.false_ne_true] at q1 ⊢;exact⟨τ,M1,Qd,A.go kp m1,q1,λ b H2 M2 kp2 m2 q2=>k b H2 M2 (kp.trans kp2) m2 q2⟩
 | true=>rw[if_pos rfl] at q1 ⊢;exact k _ H1 M1 kp m1 q1
theorem aii(h:PWd X e tA):PTd X e tA:=h.pt
theorem aeb(ha:PTd X a tA):PTd X (.UnaryOp .Not a pos) (xB tA):=aci (ag3 ha) λ σ H Q h=>by obtain⟨τ,M,Qd,A,h,k⟩:=h;exact⟨τ,M,_,A,h,λ b H1 M1 kp m1 q1=>k (!b) H1 M1 kp m1 q1⟩
def mI(ta tb:TD)(τ:DS)(M:MH)(Q:QD):Prop:=ta τ M λ x M1=>∃ k,x=.d (.bool k)/\if k=true then tb τ M1 Q else Q (.d (.bool false)) M1
def acw(ta:TD)(τ:DS)(M:MH)(Q:QD):Prop:=ta τ M λ x M1=>∃ k,x=.d (.bool k)/\Q (.d (.bool (!k))) M1
theorem ago{op}(h:PD X a ta):PD X (.BoolOp op [a] pos) ta:=agf h
theorem age(ha:PD X a ta)(hb:PD X (.BoolOp .And (b::rest) pos) tb):PD X (.BoolOp .And (a::b::rest) pos) (mI ta tb):=gp (ae2 ha hb) λ σ H Q h=>by
 obtain⟨τ,M,Qd,A,h,k⟩:=h;refine⟨τ,M,_,A,h,λ x H1 w M1 kp r1 m1 hq39=>?_⟩;obtain⟨b,e,q1⟩:=hq39;subst e;simp only[ay,au] at r1;refine⟨b,r1,?_⟩;cases b with
 | true=>rw[if_pos rfl] at q1 ⊢;exact⟨τ,M1,Qd,A.go kp m1,q1,kgo k kp⟩
 | false=>rw[if_neg Bool.false_ne_true] at q1 ⊢;exact k _ H1 _ M1 kp (by simp[ay,au]) m1 q1
theorem agQ(ha:PD X a ta):PD X (.UnaryOp .Not a pos) (acw ta):=gp (agh ha) λ σ H Q h=>by obtain⟨τ,M,Qd,A,h,k⟩:=h;refine⟨τ,M,_,A,h,λ x H1 w M1 kp r1 m1 hq40=>?_⟩;obtain⟨b,e,q1⟩:=hq40;subst e;simp only[ay,au] at r1;exact⟨b,r1,k _ H1 _ M1 kp (by simp[ay,au]) m1 q1⟩
variable {es:List Expr}{t:TAd}
def aK(_:DS)(M:MH)(Q:List W->MH->Prop):Prop:=Q [] M
def ae(ta:TD)(tr:TAd)(τ:DS)(M:MH)(Q:List W->MH->Prop):Prop:=ta τ M λ w M1=>tr τ M1 λ ws M2=>Q (w::ws) M2
theorem xJ:PAd X [] aK:=aiO lQ λ σ H Q ⟨τ,M,Qd,A,h,k⟩=>k [] H [] M (Kp.refl H) .nil A.mem h
theorem aaO(ha:PD X e te)(hr:PAd X es t)(hs:starEach (e::es) X.env=(false,eval e X.env)::starEach es X.env:=by rfl):PAd X (e::es) (ae te t):=aiO (iS ha hr hs) λ σ H Q h=>by obtain⟨τ,M,Qd,A,h,k⟩:=h;exact⟨τ,M,_,A,h,λ x H1 w M1 kp r1 m1 q1=>⟨τ,M1,_,A.go kp m1,q1,λ xs H2 ws M2 kp2 r2 m2 q2=>k _ H2 _ M2 (kp.trans kp2) (.cons (r1.keep kp2) r2) m2 q2⟩⟩
def mM:List W->Option (List PyData)
 | []=>some []
 | .d x::r=>(mM r).map (x::·)
 | _::_=>none
theorem nH:∀ {ws:List W} {ds:List PyData},mM ws=some ds->ws=ds.map W.d
 | [],ds,h=>by simp only[mM] at h;cases h;rfl
 | .d x::r,ds,h=>by
  simp only[mM] at h;cases q:mM r with
  | none=>rw[q] at h;cases h
  | some l=>rw[q] at h;cases h;rw[nH q];rfl
 | .m _::_,ds,h=>by simp[mM] at h
 | .t _::_,ds,h=>by simp[mM] at h
def u6(t:TAd)(τ:DS)(M:MH)(Q:QD):Prop:=t τ M λ ws M1=>∃ ds,mM ws=some ds/\ds.length<=sizeLine/\Q (.d (.list ds)) M1
theorem acC(hp:H p=none)(r:aO K H ds vs):au K (upd H p (.frz o (.lst vs))) (.list ds) (.ref p):=by simp only[au];exact⟨p,vs,rfl,.inl ⟨o,aq⟩,r.keep (Kp.new hp)⟩
theorem mq(hp:H p=none)(r:aO K H ds vs)(m:c5 K H M)(q:Qd (.d (.list ds)) M)(k:Kont K H Qd Q) :
  ∃ p' u,V.ref p=.ref p'/\(upd H p (.lst vs)) p'=some u/\Fz u/\∀ o,Q (.ref p) (upd (upd H p (.lst vs)) p' (.frz o u)):=by
 refine⟨p,_,rfl,aq,trivial,λ o=>?_⟩;rw[aej];exact k _ _ (.d (.list ds)) M (Kp.new hp) (acC hp r) (m.new hp) q
theorem ae8(h:PAd X es t):PD X (.List es pos) (u6 t):=gp (oY (aby h)) λ σ H Q h=>by obtain⟨τ,M,Qd,A,h,k⟩:=h;refine⟨τ,M,_,A,h,λ vs H1 ws M1 kp r1 m1 hq41=>?_⟩;obtain⟨ds,e,hz,q1⟩:=hq41;have e':=nH e;subst e';have rA:=r1.data;exact⟨by rw[rA.length];exact hz,λ p hp=>mq hp rA m1 q1 (kgo k kp)⟩
def qg(t:TAd)(τ:DS)(M:MH)(Q:QD):Prop:=t τ M λ ws M1=>ws.length<=sizeLine/\∀ p,M1 p=none->Q (.m p) (bH M1 p (.lst ws))
theorem adn(h:PAd X es t):PD X (.List es pos) (qg t):=gp (aby h) λ σ H Q h=>by obtain⟨τ,M,Qd,A,h,k⟩:=h;refine⟨τ,M,_,A,h,λ vs H1 ws M1 kp r1 m1 ⟨hz,q1⟩=>⟨by rw[<- r1.length];exact hz,λ p hp=>?_⟩⟩;exact k _ _ (.m p) (bH M1 p (.lst ws)) (kp.trans (Kp.new hp)) rfl (m1.put (mo:=.lst ws) (Kp.new hp) ⟨vs,aq,r1.keep (Kp.new hp)⟩) (q1 p (m1.free hp))
def pz(t:TAd)(τ:DS)(M:MH)(Q:QD):Prop:=t τ M λ ws M1=>∃ ds,mM ws=some ds/\ds.length<=sizeLine/\Q (.d (.tuple ds)) M1
theorem afW{x1}(h:PAd X es t):PD X (.Tuple es x1 pos) (pz t):=gp (abL h) λ σ H Q h=>by obtain⟨τ,M,Qd,A,h,k⟩:=h;refine⟨τ,M,_,A,h,λ vs H1 ws M1 kp r1 m1 hq42=>?_⟩;obtain⟨ds,e,hz,q1⟩:=hq42;have e':=nH e;subst e';have rA:=r1.data;refine⟨by rw[rA.length];exact hz,λ p hp=>k _ _ (.d (.tuple ds)) M1 (kp.trans (Kp.new hp)) ?_ (m1.new hp) q1⟩;simp only[ay,au];exact⟨p,vs,rfl,.inl (.inl aq),rA.keep (Kp.new hp)⟩
variable {x:Str}{p:Pos}{id T:String}{r:List V->Hp->VK->Prop}{rd:List W->MH->QD->Prop}
def eU(K:FG)(r:List V->Hp->VK->Prop)(rd:List W->MH->QD->Prop):Prop:=∀ vs H ws M Qd Q,bB K H ws vs->c5 K H M->rd ws M Qd->Kont K H Qd Q->r vs H Q
def dCB(rd:List W->MH->QD->Prop)(t:TAd)(τ:DS)(M:MH)(Q:QD):Prop:=t τ M λ ws M1=>rd ws M1 Q
theorem abv(hd:eU K r rd)(h:up K (dCB rd t) σ H Q):tCB r (upA K t) σ H Q:=by obtain⟨τ,M,Qd,A,h,k⟩:=h;exact⟨τ,M,_,A,h,λ vs H1 ws M1 kp r1 m1 q1=>hd vs H1 ws M1 Qd Q r1 m1 q1 (kgo k kp)⟩
theorem aaA(hc:d6 X (.builtin id) r)(hd:eU X.K r rd)(hg:Gl X x)(hm:X.mg x=none)(hv:bootBuiltins x=some (.builtin id))(ha:PAd X (e::es) t)(hn:x ≠ "__name__":= by decide)(hdb:ND x:=by decide)
  (he:starEach (e::es) X.env=(false,eval e X.env)::starEach es X.env:=by rfl)(hpl:(backTo pos (starEach es X.env)).any (·.1)=false:=by rfl):PD X (.Call (.Name x p) (e::es) [] pos) (dCB rd t):=
 gp (zi hc hg hm hv ha hn hdb he hpl) λ σ H Q h=>abv hd h
theorem we(hc:d6 X (.type T) r)(hd:eU X.K r rd)(hg:Gl X x)(hm:X.mg x=none)(hv:bootBuiltins x=some (.type T))(ha:PAd X (e::es) t)(hn:x ≠ "__name__":= by decide)(hdb:ND x:=by decide)
  (he:starEach (e::es) X.env=(false,eval e X.env)::starEach es X.env:=by rfl)(hpl:(backTo pos (starEach es X.env)).any (·.1)=false:=by rfl):PD X (.Call (.Name x p) (e::es) [] pos) (dCB rd t):=
 gp (yQ hc hg hm hv ha hn hdb he hpl) λ σ H Q h=>abv hd h
end
section
variable {X:Cx}{pos:Pos}{st:Stmt}{sts:List Stmt}{t u:TSd}{e:Expr}{te:TD}{K:FG}
def cF(D:Ed)(τ:DS)(M:MH):Prop:=D.nx τ M
def bp(t u:TSd)(D:Ed)(τ:DS)(M:MH):Prop:=t {D with nx:=u D} τ M
theorem vN(h1:PSd X st t)(h2:oN X sts u):oN X (st::sts) (bp t u):=afU (aaC h1 h2) λ D σ H ⟨τ,M,Dd,A,h,k1,k2,k3,k4⟩ =>
 ⟨τ,M,{Dd with nx:=u Dd},A,h,λ σ' H' τ' M' kp A' q=>⟨τ',M',Dd,A',q,λ σ2 H2 τ2 M2 kp2=>k1 σ2 H2 τ2 M2 (kp.trans kp2),λ v H2 w M2 kp2=>k2 v H2 w M2 (kp.trans kp2),λ σ2 H2 τ2 M2 kp2=>k3 σ2 H2 τ2 M2 (kp.trans kp2),λ σ2 H2 τ2 M2 kp2=>k4 σ2 H2 τ2 M2 (kp.trans kp2)⟩,k2,k3,k4⟩
theorem zM(h1:PSd X st t):oN X [st] t:=acj h1
def lh(te:TD)(D:Ed)(τ:DS)(M:MH):Prop:=te τ M λ _ M1=>D.nx τ M1
theorem aay(he:PD X e te)(hs:swapsWith e none pos.line X.env=pure false:=by rfl):PSd X (.Expr e pos) (lh te):=sX (adm he hs) λ D σ H ⟨τ,M,Dd,A,h,k1,_⟩ =>
 ⟨τ,M,_,A,h,λ v H1 w M1 kp r m q=>k1 σ H1 τ M1 kp (A.go kp m) q⟩
def dY(te:TD)(D:Ed)(τ:DS)(M:MH):Prop:=te τ M D.rt
theorem aen(he:PD X e te):PSd X (.Return (some e) pos) (dY te):=sX (afu he) λ D σ H ⟨τ,M,Dd,A,h,k1,k2,_⟩=>⟨τ,M,_,A,h,λ v H1 w M1 kp r m q=>k2 v H1 w M1 kp r m q⟩
def dIf(c:TTd)(t u:TSd)(D:Ed)(τ:DS)(M:MH):Prop:=c τ M λ b M1=>if b=true then t D τ M1 else u D τ M1
theorem aeT(hc:PTd X c tc)(ha:oN X a t)(hb:oN X b u):PSd X (.If c a b pos) (dIf tc t u):=sX (ahU hc ha hb) λ D σ H hq43=>by
 obtain⟨τ,M,Dd,A,h,k1,k2,k3,k4⟩:=hq43;refine⟨τ,M,_,A,h,λ b H1 M1 kp m q=>?_⟩;have go:∀ {t':TSd},t' Dd τ M1->upS X.K t' D σ H1:=λ {t'} q=>⟨τ,M1,Dd,A.go kp m,q,λ σ2 H2 τ2 M2 kp2=>k1 σ2 H2 τ2 M2 (kp.trans kp2),λ v H2 w M2 kp2=>k2 v H2 w M2 (kp.trans kp2),λ σ2 H2 τ2 M2 kp2=>k3 σ2 H2 τ2 M2 (kp.trans kp2),λ σ2 H2 τ2 M2 kp2=>k4 σ2 H2 τ2 M2 (kp.trans kp2)⟩;cases b with
 | true=>rw[if_pos rfl] at q;show(if true=true then upS X.K t D σ H1 else upS X.K u D σ H1);rw[if_pos rfl];exact go q
 | false=>rw[if_neg Bool.false_ne_true] at q;show(if false=true then upS X.K t D σ H1 else upS X.K u D σ H1);rw[if_neg Bool.false_ne_true];exact go q
abbrev TGd:=W->DS->MH->(DS->MH->Prop)->Prop
def upG(K:FG)(g:TGd):TG:=λ v σ H Q=>∃ w τ M Qd,ay K H w v/\Abs K H σ τ M/\g w τ M Qd/\∀ σ' H' τ' M',Kp H H'->Abs K H' σ' τ' M'->Qd τ' M'->Q σ' H'
abbrev PGd(X:Cx)(e:Expr)(g:TGd):Prop:=PG X e (upG X.K g)
theorem aij(h:PG X e g)(k:∀ v σ H Q,g' v σ H Q->g v σ H Q):PG X e g':=λ pins s σ H v u Q I r q=>h pins s σ H v u Q I r (k v σ H Q q)
def gN(i:Nat)(w:W)(τ:DS)(M:MH)(Q:DS->MH->Prop):Prop:=Q (τ.set i (some w)) M
def bW(te:TD)(g:TGd)(D:Ed)(τ:DS)(M:MH):Prop:=te τ M λ w M1=>g w τ M1 D.nx
theorem ac5(h:upS K (bW te g) D σ H):ahj (up K te) (upG K g) D σ H:=by obtain⟨τ,M,Dd,A,h,k1,_⟩:=h;exact⟨τ,M,_,A,h,λ v H1 w M1 kp r m q=>⟨w,τ,M1,_,r,A.go kp m,q,λ σ2 H2 τ2 M2 kp2 A2 q2=>k1 σ2 H2 τ2 M2 (kp.trans kp2) A2 q2⟩⟩
theorem adG(he:PD X e te)(hg:PGd X tg g)(hs:swapsWithSole [tg] e pos.line X.env=pure false:=by rfl)(hw:swappedStores [tg] e X.env=pure none:=by rfl)
  (h1:(assignEach [tg] X.env).map (·.2)=[assign tg X.env]:=by rfl):PSd X (.Assign [tg] e pos) (bW te g):=sX (abC he hg hs hw h1) λ D σ H h=>ac5 h
theorem ac2(hN:X.N.Nodup)(hi:X.N[i]? =some x)(hx:Loc X.env.scope x)(he:PD X e te)(hs:swapsWith e (some (.Name x pos')) pos.line X.env=pure false:=by rfl)(hf:X.fn x=true\/X.env.scope.names.lookup x=some .local:=by first | exact .inl rfl | exact .inr rfl | assumption) :
  PSd X (.Assign [.Name x pos'] e pos) (bW te (gN i)):=sX (afa hN hi hx he hs hf) λ D σ H ⟨τ,M,Dd,A,h,k1,_⟩ =>
 ⟨τ,M,_,A,h,λ v H1 w M1 kp r m q=>k1 _ H1 _ M1 kp ((A.go kp m).set i r) q⟩
end
abbrev SpD:=List W->MH->QD->Prop
def eW(K:FG)(sp:SpD):Sp:=λ vs H Q _=>∃ ws M Qd,bB K H ws vs/\c5 K H M/\sp ws M Qd/\Kont K H Qd Q
def bq(sp:SpD)(t:TAd)(τ:DS)(M:MH)(Q:QD):Prop:=t τ M λ ws M1=>sp ws M1 Q
theorem adS(F:eB X.prog X.w X.K X.mg X.base CX0 k f fd ps (eW X.K sp))(hr:eQ k X.A)(hg:Gl X x)(hm:X.mg x=some (.ref f))(hk:W.keepIn X.K (.ref f)=true)(hb:Binds X.K fd ps [])
  (ha:PAd X (e::es) t)(hdb:ND x:=by decide)(he:starEach (e::es) X.env=(false,eval e X.env)::starEach es X.env:=by rfl)(hpl:(backTo pos (starEach es X.env)).any (·.1)=false:=by rfl) :
  PD X (.Call (.Name x p) (e::es) [] pos) (bq sp t):=gp (xD (E:=E0) (dvs:=[]) F hr hg hm hk hb .nil afT ha hdb he hpl) λ σ H Q h=>by
 obtain⟨τ,M,Qd,A,h,k⟩:=h;exact⟨τ,M,_,A,h,λ vs H1 ws M1 kp r1 m1 q1=>⟨ws,M1,Qd,by rw[List.append_nil];exact r1,m1,q1,kgo k kp⟩⟩
def aY(N:List Str)(ws:List W):DS:=ws.map some++List.replicate (N.length-ws.length) none
section
variable {P:Program}{w:World}{K:FG}{mg:Str->Option Value}{base:Heap}
theorem kR(r:bB K H ws vs)(m:c5 K H M):Abs K H (start N vs) (aY N ws) M:=by
 have hl:=r.length;refine⟨?_,λ i w e=>?_,m⟩
 ·simp[L2.start,aY,hl]
 ·unfold aY at e
  by_cases hi:i<ws.length
  ·rw[List.getElem?_append_left (by simpa using hi),List.getElem?_map] at e;cases q:ws[i]? with
   | none=>rw[q] at e;cases e
   | some w' =>
    rw[q] at e;cases e;obtain⟨v,e1,r1⟩:=r.get q;refine⟨v,?_,r1⟩;unfold L2.start;rw[List.getElem?_append_left (by rw[List.length_map,<- hl];exact hi),List.getElem?_map,e1];rfl
  ·rw[List.getElem?_append_right (by simpa using hi),List.getElem?_replicate] at e
   split at e<;>cases e
theorem bX{x qual:Str}{st:Stmt}{N ps:List Str}{k:Nat}{sp:SpD}{t:TSd}(F:Fun K x qual st f fd)(S:aN N ps (ao st))(len:∀ ws M Q,sp ws M Q->ws.length=ps.length)
  (hbody:∀ (cdv:Value) (A:Around) (outer:List Env) (s:Shared) (H:Hp) (E:XK),eQ k (A.deeper (envOfC qual (ao st) s.heap.objs.size f cdv)) ->
   oN (zQ CX0 P w K mg base N qual (ao st) f cdv A outer s H E).nox (bu st) t)
  (read:∀ ws M Q,sp ws M Q->t {nx:=λ _ M'=>Q (.d .none) M',rt:=Q} (aY N ws) M):eB P w K mg base CX0 (k+1) f fd ps (eW K sp):=by
 refine F.ok S (λ vs H Q E h=>?_) (λ cdv A outer s H vs Q E hr h=>?_)
 ·obtain⟨ws,M,Qd,r,_,q,_⟩:=h;rw[<- r.length];exact len _ _ _ q
 ·obtain⟨ws,M,Qd,r,m,q,kk⟩:=h;refine⟨_,hbody cdv A outer s H E hr,aY N ws,M,_,kR r m,read ws M Qd q,λ σ' H' τ' M' kp A' q'=>?_,λ v H' w' M' kp r' m' q'=>?_,λ σ' H' τ' M' kp A' q'=>q'.elim,λ σ' H' τ' M' kp A' q'=>q'.elim⟩
  ·exact kk _ H' _ M' kp (by simp[ay,au]) A'.mem q'
  ·exact kk v H' w' M' kp r' m' q'
end
end D
namespace L2
structure lu(k:Nat)(A:Around):Prop where
 gd:A.guards=some []
 dp:A.depth+3 * k+5<recursionLimit
 un:A.units+16 * k+200<cLine
theorem lu.units(r:lu k A):A.units+64<cLine:=by have:=r.un;omega
theorem eQ.h(r:eQ k A):lu k A:=⟨r.gd,r.dp,r.un⟩
end L2
namespace D
open L2
mutual
theorem eD(I:Inv X pins σ H s):∀ (d:PyData) {x:V} {u:Value},au X.K H d x->RelV x u->d.hasDict=false->∃ as,Reads s.heap u d as
 | .none,x,u,h,r,_=>by simp only[au] at h;subst h;cases (show u=Value.none from r);exact⟨_,.none⟩
 | .bool b,x,u,h,r,_=>by simp only[au] at h;subst h;cases (show u=Value.bool b from r);exact⟨_,.bool b⟩
 | .int i,x,u,h,r,_=>by simp only[au] at h;subst h;obtain⟨t,e⟩:=(show ∃ t,u=Value.int i t from r);subst e;exact⟨_,.int i t⟩
 | .str z,x,u,h,r,_=>by simp only[au] at h;subst h;obtain⟨t,e⟩:=(show ∃ t,u=Value.str z t from r);subst e;exact⟨_,.str z t⟩
 | .list ds,x,u,h,r,hd=>by simp only[au] at h;obtain⟨a,vs,e,hs,ra⟩:=h;subst e;cases (show u=Value.ref a from r);obtain⟨its,rv,⟨o,n,e1,e2,e3,e4⟩,hz⟩:=I.list hs.sq;obtain⟨as,q⟩:=kJ I ds ra rv (by simpa [PyData.hasDict] using hd);exact⟨_,.list e1 e2 e4 (by simpa using q)⟩
 | .tuple ds,x,u,h,r,hd=>by simp only[au] at h;obtain⟨a,vs,e,hs,ra⟩:=h;subst e;cases (show u=Value.ref a from r);obtain⟨its,rv,⟨o,e1,e2,n,e4⟩,hz⟩:=I.tuple hs;obtain⟨as,q⟩:=kJ I ds ra rv (by simpa [PyData.hasDict] using hd);exact⟨_,.tuple e1 e2 e4 (by simpa using q)⟩
 | .dict kvs,x,u,h,r,hd=>by simp[PyData.hasDict] at hd
theorem kJ(I:Inv X pins σ H s):∀ (ds:List PyData) {xs:List V} {us:List Value},aO X.K H ds xs->Vals xs us->PyData.hasDictAll ds=false->∃ as,ReadsAll s.heap us ds as
 | [],xs,us,h,r,_=>by simp only[aO] at h;subst h;cases r;exact⟨_,.nil⟩
 | d::ds,xs,us,h,r,hd=>by
  simp only[aO] at h;obtain⟨v,vr,e,h1,h2⟩:=h;subst e;simp only[PyData.hasDictAll,Bool.or_eq_false_iff] at hd;cases r with
  | cons r1 r2 =>
   obtain⟨as,q1⟩:=eD I d h1 r1 hd.1;obtain⟨bs,q2⟩:=kJ I ds h2 r2 hd.2;exact⟨_,.cons q1 q2⟩
end
def sR(d:PyData):Bool:=SeqAt.shaped d&&!d.hasDict
def eX:PyData->PyData->Bool
 | .str _,.str _=>true
 | d,d'=>sR d&&sR d'
theorem fw(h:eX d d'=true):(∃ x y,d=.str x/\d'=.str y)\/(sR d=true/\sR d'=true):=by
 cases d with
 | str x =>
  cases d' with
  | str y=>exact .inl ⟨x,y,rfl,rfl⟩
  | _=>exact .inr (by simpa [eX] using h)
 | _=>exact .inr (by simpa [eX] using h)
theorem yL(x y:Str):decide (V.str x=V.str y)=PyData.eqv (.str x) (.str y):=by
 rw[PyData.eqv]
 by_cases e:x=y
 ·subst e;simp
 ·rw[decide_eq_false (λ z=>e (V.str.inj z))];exact(beq_eq_false_iff_ne.mpr e).symm
theorem abb(hr:lu k X.A):OpR X (compareOp .Eq) (λ x y H Q=>∃ d d',au X.K H d x/\au X.K H d' y/\eX d d'=true/\Q (.bl (PyData.eqv d d')) H):=by
 intro pins s σ H x y v u Q I rx ry h;obtain⟨d,d',h1,h2,o,q⟩:=h;rcases fw o with ⟨a,b,e1,e2⟩ | ⟨o1,o2⟩
 ·subst e1;subst e2;simp only[au] at h1 h2;subst h1;subst h2;exact ahS pins s σ H _ _ v u Q I rx ry ⟨rfl,by rw[yL];exact q⟩
 simp only[sR,Bool.and_eq_true,Bool.not_eq_true'] at o1 o2;obtain⟨as,r1⟩:=eD I d h1 rx o1.2;obtain⟨bs,r2⟩:=eD I d' h2 ry o2.2;exact eq_dataH r1 r2 o1.1 o2.1 hr.units ⟨.bl _,H,I,rfl,q⟩
theorem ahh(hr:lu k X.A):OpR X (compareOp .NotEq) (λ x y H Q=>∃ d d',au X.K H d x/\au X.K H d' y/\eX d d'=true/\Q (.bl (!PyData.eqv d d')) H):=by
 intro pins s σ H x y v u Q I rx ry h;obtain⟨d,d',h1,h2,o,q⟩:=h;rcases fw o with ⟨a,b,e1,e2⟩ | ⟨o1,o2⟩
 ·subst e1;subst e2;simp only[au] at h1 h2;subst h1;subst h2;exact ahw pins s σ H _ _ v u Q I rx ry ⟨rfl,by rw[yL];exact q⟩
 simp only[sR,Bool.and_eq_true,Bool.not_eq_true'] at o1 o2;obtain⟨as,r1⟩:=eD I d h1 rx o1.2;obtain⟨bs,r2⟩:=eD I d' h2 ry o2.2;exact ne_dataH r1 r2 o1.1 o2.1 hr.units ⟨.bl _,H,I,rfl,q⟩
def tyD:PyData->String
 | .none => "NoneType"
 | .bool _ => "bool"
 | .int _ => "int"
 | .str _ => "str"
 | .list _ => "list"
 | .tuple _ => "tuple"
 | .dict _ => "dict"
inductive Ty6:String->Prop where
 | int:Ty6 "int" | bool:Ty6 "bool" | str:Ty6 "str" | list:Ty6 "list" | tuple:Ty6 "tuple" | dict:Ty6 "dict"
def jw(d:PyData)(T:String):Bool:=tyD d==T || (T == "int" && tyD d == "bool")
theorem yr{K:FG}(d:PyData){T:String}(h:Ty6 T):W.kitOne K (.type (tyD d)) (.type T)=some (jw d T):=by
 cases h<;>cases d<;>rfl
theorem ve:d6 X (.builtin "isinstance") (λ xs H Q=>∃ x d T,xs=[x,.ty T]/\au X.K H d x/\Ty6 T/\Q (.bl (jw d T)) H):=by
 intro pins s σ H xs us Q I r h;obtain⟨x,d,T,rfl,rd,h6,q⟩:=h;obtain⟨u,w',rfl,rx,ry⟩:=vals2 r;cases (show w'=Value.type T from ry);have e:=yr (K:=X.K) d h6;have fin:∀ tk,EP X pins σ Q (.bool (jw d T)) {s with toks:=tk}:=λ tk=>⟨.bl _,H,I.tok _,rfl,q⟩;generalize jw d T=b at e fin;cases d with
 | none=>simp only[au] at rd;subst rd;cases (show u=Value.none from rx);exact W.kia_one W.kitx_none I.kIn True.intro e (λ z=>nomatch z) fin
 | bool y=>simp only[au] at rd;subst rd;cases (show u=Value.bool y from rx);exact W.kia_one W.kitx_bool I.kIn True.intro e (λ z=>nomatch z) fin
 | int i=>simp only[au] at rd;subst rd;obtain⟨t,z⟩:=(show ∃ t,u=Value.int i t from rx);subst z;exact W.kia_one W.kitx_int I.kIn True.intro e (λ z=>nomatch z) fin
 | str y=>simp only[au] at rd;subst rd;obtain⟨t,z⟩:=(show ∃ t,u=Value.str y t from rx);subst z;exact W.kia_one W.kitx_str I.kIn True.intro e (λ z=>nomatch z) fin
 | list ds =>
  simp only[au] at rd;obtain⟨a,vs,z,hs,_⟩:=rd;subst z;cases (show u=Value.ref a from rx);obtain⟨its,rv,⟨o,n,e1,e2,e3,e4⟩,hz⟩:=I.list hs.sq;exact W.kia_one W.kitx_list I.kIn ⟨_,e1,e2⟩ e (λ z=>nomatch z) fin
 | tuple ds =>
  simp only[au] at rd;obtain⟨a,vs,z,hs,_⟩:=rd;subst z;cases (show u=Value.ref a from rx);obtain⟨its,rv,⟨o,e1,e2,e3⟩,hz⟩:=I.tuple hs;exact W.kia_one W.kitx_tuple I.kIn ⟨_,e1,e2⟩ e (λ z=>nomatch z) fin
 | dict kvs =>
  simp only[au] at rd;obtain⟨a,o,l,z,ha,_⟩:=rd;subst z;cases (show u=Value.ref a from rx);obtain⟨_,hs,vs,kv,o',es,ep,e1,e2,_⟩:=yJ I.hok (.inr ⟨o,ha⟩);exact W.kia_one W.kitx_dict I.kIn ⟨_,e1,e2.1⟩ e (λ z=>nomatch z) fin
theorem oR{K:FG}{H:Hp}:∀ {bs:List Bool} {vs:List V} {us:List Value},aO K H (bs.map PyData.bool) vs->Vals vs us->LSm.BoolsAre us bs
 | [],vs,us,h,r=>by simp only[List.map_nil,aO] at h;subst h;cases r;exact .nil
 | b::bs,vs,us,h,r=>by
  simp only[List.map_cons,aO] at h;obtain⟨v,vr,e,h1,h2⟩:=h;subst e;simp only[au] at h1;subst h1;cases r with
  | cons r1 r2=>cases (show _=Value.bool b from r1);exact .cons b (oR h2 r2)
theorem pB(hc:X.calm=true):d6 X (.builtin "all") (λ xs H Q=>∃ (x:V) (bs:List Bool),xs=[x]/\au X.K H (.list (bs.map PyData.bool)) x/\Q (.bl (bs.all id)) H):=by
 intro pins s σ H xs us Q I r h;obtain⟨x,bs,rfl,rd,q⟩:=h;obtain⟨u,rfl,rx⟩:=vals1 r;simp only[au] at rd;obtain⟨a,vs,z,hs,ra⟩:=rd;subst z;cases (show u=Value.ref a from rx);obtain⟨its,rv,pl,hz⟩:=I.list hs.sq;obtain⟨m,F⟩:=I.fr;have N:News X.base X.env.locals s.heap []:=λ p hp=>nomatch hp;have hb:=oR ra rv;have hl:s.heap.IsList a its.toArray:=pl.isList;have hlt:a<s.heap.objs.size:=by obtain⟨_,e,_⟩:=hl;exact Heap.lt_size e
 refine call_all_walk (wpAny_pyIter_list hl ?_);refine⟨s.heap.objs.size,[s.heap.objs.size,a],[s.heap.objs.size],its.toArray.size,_,_,λ i=>(bs[i]?).getD true,rfl,Walks.list (A:=X.A.in1) (I.ok.hd hc) _ a (Nat.ne_of_lt hlt) its.toArray,
  ⟨⟨_,Heap.get?_push_size _ rfl,rfl,rfl⟩,hl.push _⟩,λ i v s' Q' E' hP hQ=>?_,λ h' tk hk=>?_⟩
 ·obtain⟨b,e,rfl⟩:=hb.get i v (by simpa using hP);simp only[e,Option.getD_some] at hQ;exact wpAny_truthy_bool hQ
 ·have e:((List.range its.toArray.size).all λ i=>(bs[i]?).getD true)=bs.all id:=by rw[List.size_toArray,hb.length];exact LSm.range_all bs
  rw[e];exact⟨.bl _,H,I.kept (LSm.kept_iter hk),rfl,q⟩
end D
namespace D
open L2
section
variable {X:Cx}{K:FG}
theorem OpR.or(h:OpR X f r)(h':OpR X f r'):OpR X f (λ x y H Q=>r x y H Q\/r' x y H Q):=by
 intro pins s σ H x y v u Q I rx ry q;rcases q with q | q
 ·exact h pins s σ H x y v u Q I rx ry q
 ·exact h' pins s σ H x y v u Q I rx ry q
theorem OpD.or(h:OpD K r rd)(h':OpD K r' rd'):OpD K (λ x y H Q=>r x y H Q\/r' x y H Q) (λ w w' M Q=>rd w w' M Q\/rd' w w' M Q):=by
 intro x y H w w' M Qd Q r1 r2 m q k;rcases q with q | q
 ·exact .inl (h x y H w w' M Qd Q r1 r2 m q k)
 ·exact .inr (h' x y H w w' M Qd Q r1 r2 m q k)
def adZ(g:Int->Int->PyData)(w:W)(w':W)(M:MH)(Q:QD):Prop:=∃ i j,w=.d (.int i)/\w'=.d (.int j)/\Q (.d (g i j)) M
def rdI(C:Int->Int->Prop)(g:Int->Int->PyData)(w:W)(w':W)(M:MH)(Q:QD):Prop:=∃ i j,w=.d (.int i)/\w'=.d (.int j)/\C i j/\Q (.d (g i j)) M
theorem mh(hg:∀ i j H,au K H (gd i j) (g i j)):OpD K (rI0 g) (adZ gd):=by intro x y H w w' M Qd Q r1 r2 m ⟨i,j,e1,e2,q⟩ k;subst e1;subst e2;simp only[ay,au] at r1 r2;exact⟨i,j,r1,r2,k _ H (.d (gd i j)) M (Kp.refl H) (hg i j H) m q⟩
theorem adY(hg:∀ i j H,au K H (gd i j) (g i j)):OpD K (rI C g) (rdI C gd):=by intro x y H w w' M Qd Q r1 r2 m ⟨i,j,e1,e2,c,q⟩ k;subst e1;subst e2;simp only[ay,au] at r1 r2;exact⟨i,j,r1,r2,c,k _ H (.d (gd i j)) M (Kp.refl H) (hg i j H) m q⟩
def uy(w w':W)(M:MH)(Q:QD):Prop:=adZ (λ i j=>.int (i-j)) w w' M Q
def hJ(w w':W)(M:MH)(Q:QD):Prop:=rdI agR (λ i j=>.int (i * j)) w w' M Q
def er(w w':W)(M:MH)(Q:QD):Prop:=rdI (λ _ j=>0<j) (λ i j=>.int (i % j)) w w' M Q
def xr(w w':W)(M:MH)(Q:QD):Prop:=rdI aix (λ i j=>.int (i / j)) w w' M Q
def cX(w:W)(w':W)(M:MH)(Q:QD):Prop:=adZ (λ i j=>.int (i+j)) w w' M Q\/∃ x y,w=.d (.str x)/\w'=.d (.str y)/\x.length+y.length<=sizeLine/\Q (.d (.str (x++y))) M
theorem mx:OpD K (rI0 λ i j=>.int (i-j)) uy:=mh λ _ _ _=>by simp[au]
theorem iR:OpD K (rI agR λ i j=>.int (i * j)) hJ:=adY λ _ _ _=>by simp[au]
theorem eg:OpD K (rI (λ _ j=>0<j) λ i j=>.int (i % j)) er:=adY λ _ _ _=>by simp[au]
theorem wb:OpD K (rI aix λ i j=>.int (i / j)) xr:=adY λ _ _ _=>by simp[au]
def ado:R2:=λ x y H Q=>∃ i j,x=.str i/\y=.str j/\i.length+j.length<=sizeLine/\Q (.str (i++j)) H
theorem aau:OpD K ado (λ w w' M Q=>∃ x y,w=.d (.str x)/\w'=.d (.str y)/\x.length+y.length<=sizeLine/\Q (.d (.str (x++y))) M):=by intro x y H w w' M Qd Q r1 r2 m ⟨i,j,e1,e2,c,q⟩ k;subst e1;subst e2;simp only[ay,au] at r1 r2;exact⟨i,j,r1,r2,c,k _ H (.d (.str (i++j))) M (Kp.refl H) (by simp[ay,au]) m q⟩
theorem bJ:OpR X (binaryOp .Add) (λ x y H Q=>rI0 (λ i j=>.int (i+j)) x y H Q\/ado x y H Q):=OpR.or aft uM
theorem a9:OpD K (λ x y H Q=>rI0 (λ i j=>.int (i+j)) x y H Q\/ado x y H Q) cX:=OpD.or (mh λ _ _ _=>by simp[au]) aau
def rS(g:Str->Str->Bool):R2:=λ x y H Q=>∃ i j,x=.str i/\y=.str j/\Q (.bl (g i j)) H
def rdS(g:Str->Str->Bool)(w:W)(w':W)(M:MH)(Q:QD):Prop:=∃ i j,w=.d (.str i)/\w'=.d (.str j)/\Q (.d (.bool (g i j))) M
theorem aiz:OpD K (rS g) (rdS g):=by intro x y H w w' M Qd Q r1 r2 m ⟨i,j,e1,e2,q⟩ k;subst e1;subst e2;simp only[ay,au] at r1 r2;exact⟨i,j,r1,r2,k _ H (.d (.bool (g i j))) M (Kp.refl H) (by simp[ay,au]) m q⟩
theorem xm:OpR X (compareOp .LtE) (rS λ x y=>!decide (y.cps.toList<x.cps.toList)):=by intro pins s σ H x y v u Q I rx ry h;obtain⟨i,j,rfl,rfl,q⟩:=h;obtain⟨t,rfl⟩:=rx;obtain⟨t',rfl⟩:=ry;exact PySem.P.le_str ⟨.bl _,H,I,rfl,q⟩
def ab4(w:W)(w':W)(M:MH)(Q:QD):Prop:=adZ (λ i j=>.bool (decide (i<=j))) w w' M Q\/rdS (λ x y=>!decide (y.cps.toList<x.cps.toList)) w w' M Q
theorem kz:OpR X (compareOp .LtE) (λ x y H Q=>rI0 (λ i j=>.bl (decide (i<=j))) x y H Q\/rS (λ x y=>!decide (y.cps.toList<x.cps.toList)) x y H Q):=OpR.or aiw xm
theorem hG:OpD K (λ x y H Q=>rI0 (λ i j=>.bl (decide (i<=j))) x y H Q\/rS (λ x y=>!decide (y.cps.toList<x.cps.toList)) x y H Q) ab4:=OpD.or (mh λ _ _ _=>by simp[au]) aiz
def zc(w w':W)(M:MH)(Q:QD):Prop:=adZ (λ i j=>.bool (decide (i<j))) w w' M Q
def aar(w w':W)(M:MH)(Q:QD):Prop:=adZ (λ i j=>.bool (decide (j<i))) w w' M Q
def agN(w w':W)(M:MH)(Q:QD):Prop:=adZ (λ i j=>.bool (decide (j<=i))) w w' M Q
theorem je:OpD K (rI0 λ i j=>.bl (decide (i<j))) zc:=mh λ _ _ _=>by simp[au]
theorem oB:OpD K (rI0 λ i j=>.bl (decide (j<i))) aar:=mh λ _ _ _=>by simp[au]
theorem wm:OpD K (rI0 λ i j=>.bl (decide (j<=i))) agN:=mh λ _ _ _=>by simp[au]
def ai5(w:W)(w':W)(M:MH)(Q:QD):Prop:=∃ d d',w=.d d/\w'=.d d'/\eX d d'=true/\Q (.d (.bool (PyData.eqv d d'))) M
theorem ags:OpD K (λ x y H Q=>∃ d d',au K H d x/\au K H d' y/\eX d d'=true/\Q (.bl (PyData.eqv d d')) H) ai5:=by intro x y H w w' M Qd Q r1 r2 m ⟨d,d',e1,e2,o1,q⟩ k;subst e1;subst e2;exact⟨d,d',r1,r2,o1,k _ H (.d (.bool _)) M (Kp.refl H) (by simp[ay,au]) m q⟩
def aer(w:W)(M:MH)(Q:QD):Prop:=∃ i,w=.d (.int i)/\Q (.d (.int (-i))) M
theorem vC:UnD K (rU λ i=>.int (-i)) aer:=by intro x H w M Qd Q r m ⟨i,e,q⟩ k;subst e;simp only[ay,au] at r;exact⟨i,r,k _ H (.d (.int (-i))) M (Kp.refl H) (by simp[ay,au]) m q⟩
def adz:W->Bool
 | .d (.str z)=>decide (z.length<=sizeLine)
 | _=>true
def ixW(M:MH):W->Int->Option W
 | .d (.list ds),i=>(atI ds i).map W.d
 | .d (.tuple ds),i=>(atI ds i).map W.d
 | .d (.str z),i=>(atI z.cps.toList i).map λ c=>W.d (.str ⟨#[c]⟩)
 | .m a,i=>match M a with
  | some (.lst ws)=>atI ws i
  | some (.tup ws)=>atI ws i
  | _=>none
 | _,_=>none
inductive RIx(w:W) (w':W) (M:MH) (Q:QD):Prop
 | mk (i:Int) (x:W) (z0:w'=.d (.int i)) (z1:ixW M w i=some x) (z2:adz w=true) (q:Q x M):RIx w w' M Q
def cj(w:W)(w':W)(M:MH)(Q:QD):Prop:=RIx w w' M Q
theorem tN(r:aO K H ds vs)(e:atI ds i=some d):∃ v,atI vs i=some v/\au K H d v:=by
 unfold atI at e ⊢;rw[r.length];cases q:ixN ds.length i with
 | none=>rw[q] at e;cases e
 | some j =>
  rw[q] at e;exact r.get e
theorem oe(r:bB K H ds vs)(e:atI ds i=some d):∃ v,atI vs i=some v/\ay K H d v:=by
 unfold atI at e ⊢;rw[<- r.length];cases q:ixN ds.length i with
 | none=>rw[q] at e;cases e
 | some j =>
  rw[q] at e;exact r.get e
theorem aF:OpD K (rIx K) cj:=by
 intro x y H w w' M Qd Q r1 r2 m ⟨i,z,e2,ei,hf,q⟩ k;subst e2;simp only[ay,au] at r2;cases w with
 | t n=>simp[ixW] at ei
 | m a =>
  simp only[ay] at r1;simp only[ixW] at ei;cases hm:M a with
  | none=>rw[hm] at ei;cases ei
  | some mo =>
   rw[hm] at ei;cases mo with
   | lst ws =>
    obtain⟨vs,e1,rw1⟩:=m a _ hm;obtain⟨v,e3,rv⟩:=oe rw1 ei;exact .inl ⟨a,vs,i,v,r1,r2,SqL.of e1,e3,k v H z M (Kp.refl H) rv m q⟩
   | dic _=>cases ei
   | dct _=>cases ei
   | fdic _=>cases ei
   | ins _ _=>cases ei
   | tup ws =>
    obtain⟨vs,e1,rw1⟩:=m a _ hm;obtain⟨v,e3,rv⟩:=oe rw1 ei;exact .inr (.inl ⟨a,vs,i,v,r1,r2,.inl (.inl e1),e3,k v H z M (Kp.refl H) rv m q⟩)
   | flst _=>cases ei
   | exc _ _=>cases ei
   | code _ _=>cases ei
 | d d =>
  cases d with
  | list ds =>
   simp only[ay,au] at r1;obtain⟨a,vs,e1,hs,ra⟩:=r1;simp only[ixW] at ei;cases h:atI ds i with
   | none=>rw[h] at ei;cases ei
   | some d =>
    rw[h] at ei;cases ei;obtain⟨v,e3,rv⟩:=tN ra h;exact .inl ⟨a,vs,i,v,e1,r2,hs.sq,e3,k v H (.d d) M (Kp.refl H) rv m q⟩
  | tuple ds =>
   simp only[ay,au] at r1;obtain⟨a,vs,e1,hs,ra⟩:=r1;simp only[ixW] at ei;cases h:atI ds i with
   | none=>rw[h] at ei;cases ei
   | some d =>
    rw[h] at ei;cases ei;obtain⟨v,e3,rv⟩:=tN ra h;exact .inr (.inl ⟨a,vs,i,v,e1,r2,hs,e3,k v H (.d d) M (Kp.refl H) rv m q⟩)
  | str s =>
   simp only[ay,au] at r1;simp only[ixW] at ei;cases h:atI s.cps.toList i with
   | none=>rw[h] at ei;cases ei
   | some c =>
    rw[h] at ei;cases ei;exact .inr (.inr ⟨s,i,c,r1,r2,of_decide_eq_true hf,h,k _ H (.d (.str ⟨#[c]⟩)) M (Kp.refl H) (by simp[ay,au]) m q⟩)
  | _=>simp[ixW] at ei
theorem ad1(h:PE X e t):PE X e (λ σ H Q=>t σ H λ v H1=>Q v H1\/∃ p u,v=.ref p/\H1 p=some u/\Fz u/\∀ o,Q v (upd H1 p (.frz o u))):=by
 intro pins s σ H Q I hq;refine thn (h pins s σ H _ I hq) λ v s1 hq44=>?_;obtain⟨x,H1,I1,r1,q⟩:=hq44;rcases q with q | ⟨p,u,e1,e2,f,q⟩
 ·exact⟨x,_,I1,r1,q⟩
 ·obtain⟨o,I2⟩:=I1.freeze e2 f;exact⟨x,_,I2,r1,q o⟩
def aiD:V->Option Int->Option Int->Hp->VK->Prop:=λ x lo hi H Q=>∃ z,x=.str z/\z.length<=sizeLine/\Q (.str (Txt.slice z lo hi)) H
theorem aeS:SlR X aiD:=by
 intro pins s σ H x v vl vu lo hi sl Q I rx hs pl pu h;obtain⟨z,rfl,hz,q⟩:=h;obtain⟨t,rfl⟩:=rx;have fin:∀ t' k,EP X pins σ Q (.str (Txt.slice z lo hi) t') {s with toks:=k}:=λ t' k=>⟨.str _,H,I.tok _,⟨_,rfl⟩,q⟩;refine⟨"str",_,F.slot_str_getitem.lookup,typeIs_str _ _ _,?_⟩;cases pl with
 | none =>
  cases pu with
  | none=>exact wpAny_getItem_str_slice (l:=none) (u:=none) (st:=none) hs rfl (post_val_or_str ⟨Nat.le_trans (Txt.slice_le z _ _) hz,fin⟩)
  | int j uj=>exact wpAny_getItem_str_slice (l:=none) (u:=some (j,uj)) (st:=none) hs rfl (post_val_or_str ⟨Nat.le_trans (Txt.slice_le z _ _) hz,fin⟩)
 | int i ui =>
  cases pu with
  | none=>exact wpAny_getItem_str_slice (l:=some (i,ui)) (u:=none) (st:=none) hs rfl (post_val_or_str ⟨Nat.le_trans (Txt.slice_le z _ _) hz,fin⟩)
  | int j uj=>exact wpAny_getItem_str_slice (l:=some (i,ui)) (u:=some (j,uj)) (st:=none) hs rfl (post_val_or_str ⟨Nat.le_trans (Txt.slice_le z _ _) hz,fin⟩)
abbrev TOd:=DS->MH->(Option Int->MH->Prop)->Prop
def upO(K:FG)(t:TOd):TO:=λ σ H Q=>∃ τ M Qd,Abs K H σ τ M/\t τ M Qd/\∀ b H' M',Kp H H'->c5 K H' M'->Qd b M'->Q b H'
abbrev POd(X:Cx)(e:Option Expr)(t:TOd):Prop:=PO X e (upO X.K t)
theorem aiV(h:PO X e t)(k:∀ σ H Q,t' σ H Q->t σ H Q):PO X e t':=λ pins s σ H Q I q=>h pins s σ H Q I (k σ H Q q)
def fT(_:DS)(M:MH)(Q:Option Int->MH->Prop):Prop:=Q none M
def mK(t:TD)(τ:DS)(M:MH)(Q:Option Int->MH->Prop):Prop:=t τ M λ w M1=>∃ i,w=.d (.int i)/\Q (some i) M1
theorem aaJ(h:PD X e te):POd X (some e) (mK te):=aiV (wR h) λ σ H Q ⟨τ,M,Qd,A,q,k⟩=>⟨τ,M,_,A,q,λ v H1 w M1 kp r m hq45=>by obtain⟨i,e,q1⟩:=hq45;subst e;simp only[ay,au] at r;exact⟨i,r,k _ H1 M1 kp m q1⟩⟩
def cutD(xs:List α)(lo hi:Option Int):List α:=(xs.drop (HT.sIx xs.length 0 lo)).take (HT.sIx xs.length xs.length hi-HT.sIx xs.length 0 lo)
def abz(n:Nat)(lo hi:Option Int):Bool:=decide (HT.sIx n 0 lo=0/\HT.sIx n n hi=n)
def slW:W->Option Int->Option Int->Option W
 | .d (.list ds),lo,hi=>some (.d (.list (cutD ds lo hi)))
 | .d (.tuple ds),lo,hi=>if abz ds.length lo hi then none else some (.d (.tuple (cutD ds lo hi)))
 | .d (.str z),lo,hi=>some (.d (.str (Txt.slice z lo hi)))
 | _,_,_=>none
def dSl(te:TD)(tl th:TOd)(τ:DS)(M:MH)(Q:QD):Prop:=te τ M λ w M1=>tl τ M1 λ lo M2=>th τ M2 λ hi M3=>∃ z,slW w lo hi=some z/\adz w=true/\Q z M3
theorem aeY:SlR X (λ x lo hi H Q=>aiJ X.K x lo hi H Q\/aiF X.K x lo hi H Q\/aiD x lo hi H Q):=acH.or (afP.or aeS)
theorem aO.cut(r:aO K H ds vs)(lo hi:Option Int):aO K H (cutD ds lo hi) (abd vs lo hi):=by
 unfold cutD abd;rw[r.length];exact(r.drop _).take _
theorem aax{te:TD}{lo hi:Option Expr}{tl th:TOd}{pos p2:Pos}(he:PD X e te)(hl:POd X lo tl)(hu:POd X hi th):PD X (.Subscript e (.Slice lo hi none p2) pos) (dSl te tl th):=
 gp (ad1 (zF aeY he hl hu)) λ σ H Q h=>by
  obtain⟨τ,M,Qd,A,h,k⟩:=h;refine⟨τ,M,_,A,h,λ v H1 w M1 kp1 r1 m1 q1=>⟨τ,M1,_,A.go kp1 m1,q1,λ lo H2 M2 kp2 m2 q2=>⟨τ,M2,_,A.go (kp1.trans kp2) m2,q2,λ hi H3 M3 kp3 m3 q3=>?_⟩⟩⟩;obtain⟨z,ez,hf,q⟩:=q3;have kp:=(kp1.trans kp2).trans kp3;have r:=r1.keep (kp2.trans kp3);cases w with
  | t n=>simp[slW] at ez
  | m a=>simp[slW] at ez
  | d d =>
   cases d with
   | list ds =>
    simp only[slW] at ez;cases ez;simp only[ay,au] at r;obtain⟨a,vs,e1,hs,ra⟩:=r;exact .inl ⟨a,vs,e1,hs.sq,λ p hp=>.inr (mq hp (aO.cut ra lo hi) m3 q (kgo k kp))⟩
   | tuple ds =>
    simp only[slW] at ez
    split at ez
    ·cases ez
    ·rename_i hw
     cases ez;simp only[ay,au] at r;obtain⟨a,vs,e1,hs,ra⟩:=r;refine .inr (.inl ⟨a,vs,e1,hs,?_,λ p hp=>.inl ?_⟩)
     ·rw[ra.length]
      simpa [abz] using hw
     ·refine k _ _ (.d (.tuple _)) M3 (kp.trans (Kp.new hp)) ?_ (m3.new hp) q;simp only[ay,au];exact⟨p,_,rfl,.inl (.inl aq),(aO.cut ra lo hi).keep (Kp.new hp)⟩
   | str s =>
    simp only[slW] at ez;cases ez;simp only[ay,au] at r;exact .inr (.inr ⟨s,r,of_decide_eq_true hf,.inl (k _ H3 (.d (.str _)) M3 kp (by simp[ay,au]) m3 q)⟩)
   | _=>simp[slW] at ez
def zz(to ti:TD)(v:W)(τ:DS)(M:MH)(Q:DS->MH->Prop):Prop:=to τ M λ w M1=>ti τ M1 λ w' M2=>∃ a ws i j,w=.m a/\w'=.d (.int i)/\M2 a=some (.lst ws)/\ixN ws.length i=some j/\Q τ (bH M2 a (.lst (ws.set j v)))
theorem yM(m:c5 K H M)(e:H a=some (.lst vs))(rw1:bB K H ws vs)(rv:ay K H w v) :
  Kp H (upd H a (.lst (vs.set j v)))/\c5 K (upd H a (.lst (vs.set j v))) (bH M a (.lst (ws.set j w))):=by
 have kp:Kp H (upd H a (.lst (vs.set j v))):=Kp.set e (λ xs z=>nomatch z) λ _ _ z=>nomatch z;exact⟨kp,m.put kp ⟨_,aq,(bB.set rv j rw1).keep kp⟩⟩
theorem adD(ho:PD X o to)(hi:PD X i ti)
  (ha:∀ v,assign (.Subscript o i pos) X.env v=(do
   let ov <- holding [v] (eval o X.env)
   let iv <- holding [v,ov] (eval i X.env)
   standAt pos
   holding [v,ov,iv] (setItem ov iv v)
   release [v,ov,iv] []):=by intro _;rfl):PGd X (.Subscript o i pos) (zz to ti):=aij (aeU ho hi set_list ha) λ v σ H Q h=>by
 obtain⟨w,τ,M,Qd,rv,A,h,k⟩:=h;refine⟨τ,M,_,A,h,λ x H1 wo M1 kp1 r1 m1 q1=>⟨τ,M1,_,A.go kp1 m1,q1,λ y H2 wi M2 kp2 r2 m2 q2=>?_⟩⟩;obtain⟨a,ws,i,j,e1,e2,hm,hj,q⟩:=q2;subst e1;subst e2;simp only[ay,au] at r1 r2;obtain⟨vs,e3,rw1⟩:=m2 a _ hm;have kp:=kp1.trans kp2;obtain⟨kp3,m3⟩:=yM (j:=j) m2 e3 rw1 (rv.keep kp);exact⟨a,vs,i,j,r1,r2,e3,by rw[<- rw1.length];exact hj,k σ _ τ _ (kp.trans kp3) (A.go (kp.trans kp3) m3) q⟩
theorem aa4:ai0 X (aif X.K):=by
 intro pins s σ H o i ov iv Q I ro ri h;obtain⟨p,xs,k,z,rfl,rfl,hq,he,q⟩:=h;cases ro;obtain⟨t,rfl⟩:=ri;obtain⟨its,r,pl,hz⟩:=I.list hq;obtain⟨j,h1,h2,h3,h4,h5⟩:=mB he;obtain⟨w,ew,rw'⟩:=r.get h2;have hl:=r.length;have hn:=kG;have fin:EP X pins σ Q w s:=⟨z,H,I,rw',q⟩
 by_cases h0:0<=k
 ·have hj:k.toNat=j:=by rw[seqIndex_of h0 h5] at h1;exact Option.some.inj h1
  exact wpAny_getItem_list pl.isList h0 (by omega) (by rw[hj];simpa using ew) fin
 ·have hj:(k+(its.toArray.size:Int)).toNat=j:=by rw[seqIndex_neg (by omega) h4] at h1;rw[List.size_toArray,<- hl];exact Option.some.inj h1
  exact wpAny_getItem_list_neg pl.isList (by omega) (by rw[List.size_toArray]<;>omega) (by omega) (by rw[hj];simpa using ew) fin
def zk(to ti te:TD)(f:Int->Int->Int)(D:Ed)(τ:DS)(M:MH):Prop:=to τ M λ w M1=>ti τ M1 λ w' M2=>∃ a ws i j n,w=.m a/\w'=.d (.int i)/\M2 a=some (.lst ws)/\ixN ws.length i=some j/\ws[j]? =some (.d (.int n)) /\
 te τ M2 λ y M3=>∃ n',y=.d (.int n')/\M3=M2/\D.nx τ (bH M3 a (.lst (ws.set j (.d (.int (f n n'))))))
theorem aaN(ho:PD X o to)(hi:PD X i ti)(he:PD X e te)(hp:PIp X op (ipI f))
  (ha:∀ ov iv new,augStore i ov iv new=(do holding [new,ov,iv] (setItem ov iv new);release [new,ov,iv] [];pure .next):=by intros;rfl):PSd X (.AugAssign (.Subscript o i tpos) op e pos) (zk to ti te f):=
 sX (adg ho hi aa4 he hp set_list ha) λ D σ H h=>by
  obtain⟨τ,M,Dd,A,h,k1,_⟩:=h;refine⟨τ,M,_,A,h,λ x H1 wo M1 kp1 r1 m1 q1=>⟨τ,M1,_,A.go kp1 m1,q1,λ y H2 wi M2 kp2 r2 m2 q2=>?_⟩⟩;obtain⟨a,ws,i,j,n,e1,e2,hm,hj,hn,q⟩:=q2;subst e1;subst e2;simp only[ay,au] at r1 r2;obtain⟨vs,e3,rw1⟩:=m2 a _ hm;obtain⟨v,e4,rv⟩:=rw1.get hn;simp only[ay,au] at rv;have hj':ixN vs.length i=some j:=by rw[<- rw1.length];exact hj
  refine⟨a,vs,i,v,r1,r2,SqL.of e3,by unfold atI;rw[hj'];exact e4,?_⟩;refine⟨τ,M2,_,A.go (kp1.trans kp2) m2,q,λ z H3 wz M3 kp3 r3 m3 q3=>?_⟩;obtain⟨n',e5,e6,qn⟩:=q3;subst e5;subst e6;simp only[ay,au] at r3;refine⟨n,n',rv,r3,?_⟩;obtain⟨vs',e3',rw2⟩:=m3 a _ hm;have kp:=(kp1.trans kp2).trans kp3;obtain⟨kp4,m4⟩:=yM (j:=j) (v:=.int (f n n')) (w:=.d (.int (f n n'))) m3 e3' rw2 (by simp[ay,au]);exact⟨a,vs',i,j,r1,r2,e3',by rw[<- rw2.length];exact hj,k1 σ _ τ _ (kp.trans kp4) (A.go (kp.trans kp4) m4) qn⟩
end
section
variable {X:Cx}{K:FG}{tg:Expr}
def Its(z:Str):It:=⟨λ i _=>i<z.cps.size,λ i H x H'=>H'=H/\∃ c,z.cps[i]? =some c/\x=.str ⟨#[c]⟩,λ i _=>z.cps.size<=i⟩
theorem sv(it:Addr)(T:String)(z:Str)(t:Tok)
  (hT:["enumerate", "zip", "dict_itemiterator", "dict_reverseitemiterator", "odict_iterator", "itertools.zip_longest", "itertools.pairwise"].contains T=false)
  (W:∀ A:Around,A.handled=none->Walks P w A it [it] [it] z.cps.size (SignAt z) (λ i h=>h.IsStrIter it T z t i))(hself:∀ (A:Around) (i:Nat) (s:Shared) (Q:VP) (E:VP),s.heap.IsStrIter it T z t i->Q (.ref it) s->wpAny (model P w) A (pyIter (.ref it)) Q E s)
  (hend:∀ (A:Around) (i:Nat) (s:Shared) (Q:Option Value->Shared->Prop) (E:VP),A.handled=none->s.heap.IsStrIter it T z t i->z.cps[i]? =none->(∀ h',Heap.ExtBut it s.heap h'->Q none {s with heap:=h'})->wpAny (model P w) A (pyNext (.ref it)) Q E s) :
  Turn P w K tg (Its z) [it] it (λ i h=>h.IsStrIter it T z t i) where
 mem:=by simp
 obj:=λ i h st b hb=>by
  have e:b=it:=by simpa using hb
  subst e;obtain⟨o,e,c,d⟩:=st;exact⟨o,e,λ v q=>by rw[d] at q;cases q⟩
 keep:=λ i h h' st k=>by obtain⟨o,e,r⟩:=st;exact⟨o,k it (by simp) o e,r⟩
 item:=by intro X hP hw hK hc i pins s σ H E I hf st hg;subst hP hw hK;obtain⟨f0,f1,f2,f3,f4,f5⟩:=hf it (by simp);refine(W X.A (I.ok.hd hc)).item i s _ _ hg st λ v h' tk hv st' kk=>?_;obtain⟨c,u,hc',rfl⟩:=hv;have I1:Inv X pins σ H {s with heap:=h',toks:=tk}:=I.turned (λ b o hb e=>kk b o (by simpa using hb) e) f0 f1 f3 f4 f5;obtain⟨o,e,cl,d⟩:=id st';exact⟨_,rfl,qi (s:={s with heap:=h',toks:=tk}) e cl d hT ⟨.str ⟨#[c]⟩,H,I1,⟨u,rfl⟩,⟨rfl,c,hc',rfl⟩,st',λ b hb=>(hf b hb).1⟩⟩
 done:=by intro X hP hw hK hc i pins s σ H E I hf st hg;subst hP hw hK;obtain⟨f0,f1,f2,f3,f4,f5⟩:=hf it (by simp);have hn:z.cps.size<=i:=hg;exact hend X.A i s _ E (I.ok.hd hc) st (by simp[hn]) λ h' eb=>⟨rfl,I.turned (t':=s.toks) (λ b o hb e=>eb b o hb e) f0 f1 f3 f4 f5⟩
 self:=hself
section
variable {pins:PN}{σ:St}{H:Hp}{s:Shared}{R:It->Hp->Prop}{E:VP}
theorem afY(I:Inv X pins σ H s)(q:R (Its z) H):wpAny (model X.prog X.w) X.A (pyIter (.str z t)) (PIE X pins σ tg R) E s:=by
 cases ha:z.cps.all (·<128)
 ·refine wpAny_pyIter_wide ha ?_;refine⟨s.heap.objs.size,[s.heap.objs.size],_,_,H,rfl,I.kept (t':=s.toks) λ b o e=>Heap.get?_push_of_some _ e,
   sv _ "str_iterator" z t (by decide) (λ A hA=>Walks.strWide hA _ z t) (λ A i s Q E st h=>wpAny_pyIter_striter_wide st h) (λ A i s Q E hh st hx hQ=>wpAny_pyNext_wide_end hh st hx hQ),⟨_,Heap.get?_push_size _ rfl,rfl,rfl⟩,λ b hb=>?_,q⟩
  have e:b=s.heap.objs.size:=by simpa using hb
  subst e;exact I.n4 (Nat.le_refl _) (I.hok.fresh (Nat.le_refl _))
 ·refine wpAny_pyIter_ascii ha ?_;refine⟨s.heap.objs.size,[s.heap.objs.size],_,_,H,rfl,I.kept (t':=s.toks) λ b o e=>Heap.get?_push_of_some _ e,
   sv _ "str_ascii_iterator" z t (by decide) (λ A hA=>Walks.strAscii hA _ z t) (λ A i s Q E st h=>wpAny_pyIter_striter_ascii st h) (λ A i s Q E hh st hx hQ=>wpAny_pyNext_ascii_end hh st hx hQ),⟨_,Heap.get?_push_size _ rfl,rfl,rfl⟩,λ b hb=>?_,q⟩
  have e:b=s.heap.objs.size:=by simpa using hb
  subst e;exact I.n4 (Nat.le_refl _) (I.hok.fresh (Nat.le_refl _))
theorem aeo(I:Inv X pins σ H s)(hq:SqL X.K H a xs)(q:R (Itl X.K a) H):wpAny (model X.prog X.w) X.A (pyIter (.ref a)) (PIE X pins σ tg R) E s:=by
 obtain⟨its,rv,p,hz⟩:=I.list hq;refine wpAny_pyIter_list p.isList ?_;refine⟨s.heap.objs.size,[s.heap.objs.size],_,_,H,rfl,I.kept (t':=s.toks) λ b o e=>Heap.get?_push_of_some _ e,vR a _,⟨_,Heap.get?_push_size _ rfl,rfl,rfl⟩,λ b hb=>?_,q⟩;have e:b=s.heap.objs.size:=by simpa using hb
 subst e;exact I.n4 (Nat.le_refl _) (I.hok.fresh (Nat.le_refl _))
theorem agD(I:Inv X pins σ H s)(hq:SqT X.K H a xs)(q:R (Itt X.K a) H):wpAny (model X.prog X.w) X.A (pyIter (.ref a)) (PIE X pins σ tg R) E s:=by
 obtain⟨its,rv,p,hz⟩:=I.tuple hq;refine wpAny_pyIter_tuple (show s.heap.IsTuple a its.toArray from p) ?_;refine⟨s.heap.objs.size,[s.heap.objs.size],_,_,H,rfl,I.kept (t':=s.toks) λ b o e=>Heap.get?_push_of_some _ e,tX a _,⟨_,Heap.get?_push_size _ rfl,rfl,rfl⟩,λ b hb=>?_,q⟩;have e:b=s.heap.objs.size:=by simpa using hb
 subst e;exact I.n4 (Nat.le_refl _) (I.hok.fresh (Nat.le_refl _))
end
def ajk(K:FG)(tl:TE):TI:=λ σ H R=>tl σ H λ x H1=>(∃ a xs,x=.ref a/\SqL K H1 a xs/\R (Itl K a) H1)\/(∃ a xs,x=.ref a/\SqT K H1 a xs/\R (Itt K a) H1)\/∃ z,x=.str z/\R (Its z) H1
theorem agG(hl:PE X l tl):PI X tg l (ajk X.K tl):=by
 intro pins s σ H R I h;refine thn (hl pins s σ H _ I h) λ v s1 hq46=>?_;obtain⟨x,H1,I1,r1,q1⟩:=hq46;rcases q1 with ⟨a,xs,e,hq,q⟩ | ⟨a,xs,e,hq,q⟩ | ⟨z,e,q⟩
 ·subst e;cases r1;exact aeo I1 hq q
 ·subst e;cases r1;exact agD I1 hq q
 ·subst e;obtain⟨t,rfl⟩:=r1;exact afY I1 q
def ItD(K:FG)(J:It)(H0:Hp)(ws:List W):Prop:=∀ H,Kp H0 H->∀ i:Nat,(i<ws.length->J.go i H)/\(ws.length<=i->J.stop i H) /\
 ∀ x H',i<ws.length->J.yld i H x H'->Kp H H'/\(∀ M,c5 K H M->c5 K H' M)/\∃ w,ws[i]? =some w/\ay K H' w x
abbrev TId:=DS->MH->(List W->MH->Prop)->Prop
def upI(K:FG)(t:TId):TI:=λ σ H R=>∃ τ M Rd,Abs K H σ τ M/\t τ M Rd/\∀ J H' ws M',Kp H H'->c5 K H' M'->ItD K J H' ws->Rd ws M'->R J H'
abbrev PId(X:Cx)(tg iter:Expr)(t:TId):Prop:=PI X tg iter (upI X.K t)
theorem abi(h:PI X tg iter t)(k:∀ σ H R,t' σ H R->t σ H R):PI X tg iter t':=λ pins s σ H R I q=>h pins s σ H R I (k σ H R q)
def k5:W->Option (List W)
 | .d (.list ds)=>some (ds.map W.d)
 | .d (.tuple ds)=>some (ds.map W.d)
 | .d (.str z)=>some (z.cps.toList.map λ c=>W.d (.str ⟨#[c]⟩))
 | _=>none
def bj(te:TD)(τ:DS)(M:MH)(R:List W->MH->Prop):Prop:=te τ M λ w M1=>∃ ws,k5 w=some ws/\R ws M1
theorem ab7(hs:SqT K H a vs)(ra:aO K H ds vs):ItD K (Itt K a) H (ds.map W.d):=λ H1 kp i=>by
 have hl:=ra.length;refine⟨λ hi=>?_,λ hi=>⟨vs,SqT.keep kp hs,by rw[List.length_map] at hi;omega⟩,λ x H' hi y=>?_⟩
 ·rw[List.length_map] at hi;exact⟨vs,vs[i]'(by omega),SqT.keep kp hs,by simp⟩
 ·obtain⟨e,y⟩:=y;subst e;have ev:=y vs (SqT.keep kp hs);obtain⟨d,e1,rd⟩:=(ra.keep kp).get' ev;exact⟨Kp.refl _,λ M m=>m,.d d,by simp[e1],rd⟩
theorem acK(z:Str):ItD K (Its z) H (z.cps.toList.map λ c=>W.d (.str ⟨#[c]⟩)):=λ H1 kp i=>by refine⟨λ hi=>(show i<z.cps.size by simpa using hi),λ hi=>(show z.cps.size<=i by simpa using hi),λ x H' hi y=>?_⟩;obtain⟨e,c,hc,ex⟩:=y;subst e;subst ex;exact⟨Kp.refl _,λ M m=>m,.d (.str ⟨#[c]⟩),by simp[hc],by simp[ay,au]⟩
theorem aes(lo:Int)(n:Nat):ItD K (Itr lo n) H ((List.range n).map λ i:Nat=>W.d (.int (lo+(i:Int)))):=λ H1 kp i=>by refine⟨λ hi=>(show i<n by simpa using hi),λ hi=>(show n<=i by simpa using hi),λ x H' hi y=>?_⟩;obtain⟨e,ex⟩:=y;subst e;subst ex;simp at hi;exact⟨Kp.refl _,λ M m=>m,.d (.int (lo+i)),by simp[hi],by simp[ay,au]⟩
theorem xn(h:PD X l te):PId X tg l (bj te):=abi (agG h) λ σ H R hq47=>by
 obtain⟨τ,M,Rd,A,h,k⟩:=hq47;refine⟨τ,M,_,A,h,λ v H1 w M1 kp r m hq48=>?_⟩;obtain⟨ws,e,q⟩:=hq48;cases w with
 | t n=>simp[k5] at e
 | m a=>simp[k5] at e
 | d d =>
  cases d with
  | list ds =>
   simp only[k5] at e;cases e;simp only[ay,au] at r;obtain⟨a,vs,e1,hs,ra⟩:=r;refine .inl ⟨a,vs,e1,hs.sq,k _ H1 _ M1 kp m ?_ q⟩;intro H2 kp2 i;have hl:=ra.length;have hs2:=(hs.keep kp2).sq;refine⟨λ hi=>?_,λ hi=>⟨vs,hs2,by rw[List.length_map] at hi;omega⟩,λ x H' hi y=>?_⟩
   ·rw[List.length_map] at hi;exact⟨vs,vs[i]'(by omega),hs2,by simp⟩
   ·obtain⟨e,y⟩:=y;subst e;have ev:=y vs hs2;obtain⟨d,e1,rd⟩:=(ra.keep kp2).get' ev;exact⟨Kp.refl _,λ M m=>m,.d d,by simp[e1],rd⟩
  | tuple ds =>
   simp only[k5] at e;cases e;simp only[ay,au] at r;obtain⟨a,vs,e1,hs,ra⟩:=r;exact .inr (.inl ⟨a,vs,e1,hs,k _ H1 _ M1 kp m (ab7 hs ra) q⟩)
  | str z =>
   simp only[k5] at e;cases e;simp only[ay,au] at r;exact .inr (.inr ⟨z,r,k _ H1 _ M1 kp m (acK z) q⟩)
  | _=>simp[k5] at e
def lT(lo:Int)(n:Nat):List W:=(List.range n).map λ i:Nat=>W.d (.int (lo+(i:Int)))
def qQ(ta:TAd)(τ:DS)(M:MH)(R:List W->MH->Prop):Prop:=ta τ M λ ws M1=>∃ j:Int,ws=[.d (.int j)]/\-(2 ^ 62)<=j/\j<2 ^ 62/\R (lT 0 j.toNat) M1
theorem d4(r:bB K H [w] vs):∃ v,vs=[v]/\ay K H w v:=by
 cases r with
 | cons r1 r2=>cases r2;exact⟨_,rfl,r1⟩
theorem xQ(r:bB K H [w,w'] vs):∃ v v',vs=[v,v']/\ay K H w v/\ay K H w' v':=by
 cases r with
 | cons r1 r2 =>
  cases r2 with
  | cons r3 r4=>cases r4;exact⟨_,_,rfl,r1,r3⟩
theorem uC(hg:Gl X "range")(hm:X.mg "range" = none)(ha:PAd X [a] ta)(hs:starEach [a] X.env=[(false,eval a X.env)]:=by rfl):PId X tg (.Call (.Name "range" p) [a] [] pos) (qQ ta):=
 abi (yc hg hm ha hs) λ σ H R ⟨τ,M,Rd,A,h,k⟩=>⟨τ,M,_,A,h,λ vs H1 ws M1 kp r m hq49=>by obtain⟨j,e,h1,h2,q⟩:=hq49;subst e;obtain⟨v,e1,r1⟩:=d4 r;simp only[ay,au] at r1;subst r1;exact⟨j,e1,h1,h2,k _ H1 _ M1 kp m (aes 0 j.toNat) q⟩⟩
def j6(di:TId)(g:TGd)(tb:TSd)(D:Ed)(τ:DS)(M:MH):Prop:=di τ M λ ws M1=>∃ P:Nat->DS->MH->Prop,P 0 τ M1 /\
 (∀ i w τ M,ws[i]? =some w->P i τ M->g w τ M λ τ2 M2=>tb {D with nx:=P (i+1),ct:=P (i+1),bk:=D.nx} τ2 M2)/\∀ τ M,P ws.length τ M->D.nx τ M
theorem acR(hp:PassesOwn (model X.prog X.w) X.A X.env X.xe)(hc:X.calm=true)(hi:PId X tg iter di)(hg:PGd X tg g)(hb:oN X body tb)
  (hs:∀ x,foldedSetIterable iter X.env x=pure x:=by intro _;rfl):PSd X (.For tg iter body [] pos) (j6 di g tb):=sX (aeZ hp hc hi hg hb hs) λ D σ H hq50=>by
 obtain⟨τ,M,Dd,A,h,k1,k2,k3,k4⟩:=hq50;refine⟨τ,M,_,A,h,λ J H1 ws M1 kp m1 it hq51=>?_⟩;obtain⟨P,p0,pt,pe⟩:=hq51;refine⟨λ i n σ H'=>n=ws.length-i/\i<=ws.length/\Kp H1 H'/\∃ τ M,Abs X.K H' σ τ M/\P i τ M,⟨ws.length,by simp,Nat.zero_le _,Kp.refl _,τ,M1,A.go kp m1,p0⟩,?_⟩;rintro i n σ2 H2 ⟨rfl,hi,kp2,τ2,M2,A2,p2⟩;obtain⟨go,stop,yld⟩:=it H2 kp2 i
 by_cases hlt:i<ws.length
 ·refine .inr ⟨go hlt,λ σ3 H3=>Kp H2 H3/\∃ τ M,Abs X.K H3 σ3 τ M/\P (i+1) τ M,λ σ3 H3 ⟨kp3,τ3,M3,A3,p3⟩=>⟨ws.length-(i+1),by omega,rfl,hlt,kp2.trans kp3,τ3,M3,A3,p3⟩,λ x H3 y=>?_⟩;obtain⟨kp3,mk,w,ew,rw⟩:=yld x H3 hlt y;refine⟨w,τ2,M2,_,rw,A2.go kp3 (mk _ A2.mem),pt i w τ2 M2 ew p2,λ σ4 H4 τ4 M4 kp4 A4 q4=>?_⟩;have kq:=kp3.trans kp4;have kr:=(kp.trans kp2).trans kq;exact⟨τ4,M4,_,A4,q4,λ σ5 H5 τ5 M5 kp5 A5 q5=>⟨kq.trans kp5,τ5,M5,A5,q5⟩,λ v H5 w M5 kp5=>k2 v H5 w M5 (kr.trans kp5),λ σ5 H5 τ5 M5 kp5=>k1 σ5 H5 τ5 M5 (kr.trans kp5),λ σ5 H5 τ5 M5 kp5 A5 q5=>⟨kq.trans kp5,τ5,M5,A5,q5⟩⟩
 ·have hl:i=ws.length:=by omega
  subst hl;exact .inl ⟨stop (Nat.le_refl _),k1 σ2 H2 τ2 M2 (kp.trans kp2) A2 (pe τ2 M2 p2)⟩
def abX(k:Nat)(fr:List Nat)(τ:DS):DS:=List.replicate k none++fr.map λ j=>(τ[j]?).getD none
theorem tG(A:Abs K H σ τ M)(k:Nat)(fr:List Nat):Abs K H (lcS k fr σ) (abX k fr τ) M:=by
 refine⟨by simp[lcS,abX],λ i w e=>?_,A.mem⟩;unfold abX at e
 by_cases hi:i<k
 ·rw[List.getElem?_append_left (by simpa using hi),List.getElem?_replicate] at e
  split at e<;>cases e
 ·rw[List.getElem?_append_right (by simpa using hi),List.getElem?_map,List.length_replicate] at e;cases q:fr[i-k]? with
  | none=>rw[q] at e;cases e
  | some j =>
   rw[q] at e;have e':(τ[j]?).getD none=some w:=Option.some.inj e;have e2:τ[j]? =some (some w):=by
    cases z:τ[j]? with
    | none=>rw[z] at e';cases e'
    | some o=>rw[z] at e';exact congrArg some e'
   obtain⟨v,q1,r⟩:=A.val j w e2;refine⟨v,?_,r⟩;unfold lcS;rw[List.getElem?_append_right (by simpa using hi),List.getElem?_map,List.length_replicate,q];simp[q1]
def dLC(di:TId)(g:TGd)(tt:TTd)(te:TD)(k:Nat)(fr:List Nat)(τ:DS)(M:MH)(Q:QD):Prop:=di τ M λ ws M1=>∃ P:Nat->List PyData->DS->MH->Prop,P 0 [] (abX k fr τ) M1 /\
 (∀ i w acc τ M,ws[i]? =some w->P i acc τ M->acc.length<sizeLine/\g w τ M λ τ2 M2=>tt τ2 M2 λ b M3=>if b=true then te τ2 M3 λ y M4=>∃ d,y=.d d/\P (i+1) (acc++[d]) τ2 M4 else P (i+1) acc τ2 M3) /\
 ∀ acc τ M,P ws.length acc τ M->Q (.d (.list acc)) M
theorem yU(h:up K (dLC di g tt te k fr) σ H Q) :
  aiK (tLC (upI K di) (upG K g) (upT K tt) (up K te) k fr) σ H Q:=by
 obtain⟨τ,M,Qd,A,h,kk⟩:=h;refine⟨τ,M,_,A,h,λ J H1 ws M1 kp m1 it hq52=>?_⟩;obtain⟨P,p0,pt,pe⟩:=hq52;refine⟨λ i n ys σ' H'=>n=ws.length-i/\i<=ws.length/\Kp H1 H'/\∃ acc τ M,aO K H' acc ys/\Abs K H' σ' τ M/\P i acc τ M,⟨ws.length,by simp,Nat.zero_le _,Kp.refl _,[],_,M1,by simp[aO],tG (A.go kp m1) k fr,p0⟩,?_⟩;rintro i n ys σ2 H2 ⟨rfl,hi,kp2,acc,τ2,M2,ra,A2,p2⟩;obtain⟨go,stop,yld⟩:=it H2 kp2 i
 by_cases hlt:i<ws.length
 ·have hlen:=ra.length;refine .inr ⟨go hlt,?_,λ x H3 y=>?_⟩
  ·obtain⟨w,hw⟩:∃ w,ws[i]? =some w:=⟨ws[i],by simp[hlt]⟩;have:=(pt i w acc τ2 M2 hw p2).1;omega
  obtain⟨kp3,mk,w,ew,rw⟩:=yld x H3 hlt y;refine⟨w,τ2,M2,_,rw,A2.go kp3 (mk _ A2.mem),(pt i w acc τ2 M2 ew p2).2,λ σ4 H4 τ4 M4 kp4 A4 q4=>⟨τ4,M4,_,A4,q4,λ b H5 M5 kp5 m5 q5=>?_⟩⟩;have kq:=(kp3.trans kp4).trans kp5;cases b with
  | false =>
   rw[if_neg Bool.false_ne_true] at q5;show(if false=true then _ else _);rw[if_neg Bool.false_ne_true];exact⟨ws.length-(i+1),by omega,rfl,hlt,kp2.trans kq,acc,τ4,M5,ra.keep kq,A4.go kp5 m5,q5⟩
  | true =>
   rw[if_pos rfl] at q5;show(if true=true then _ else _);rw[if_pos rfl];refine⟨τ4,M5,_,A4.go kp5 m5,q5,λ v H6 wv M6 kp6 r6 m6 hq53=>?_⟩;obtain⟨d,e6,q6⟩:=hq53;subst e6;refine⟨ws.length-(i+1),by omega,rfl,hlt,kp2.trans (kq.trans kp6),acc++[d],τ4,M6,aO.append (ra.keep (kq.trans kp6)) ?_,A4.go (kp5.trans kp6) m6,q6⟩;simp only[aO];exact⟨v,[],rfl,r6,rfl⟩
 ·have hl:i=ws.length:=by omega
  subst hl;exact .inl ⟨stop (Nat.le_refl _),λ p hp=>mq hp ra A2.mem (pe acc τ2 M2 p2) (kgo kk (kp.trans kp2))⟩
section
variable {sc:Scope}{own:List Str}{fr:List Nat}{elt iter:Expr}{ifs:List Expr}{pos:Pos}{di:TId}{g:TGd}{tt:TTd}{te:TD}
abbrev ud(X:Cx)(ifs:List Expr)(t:TTd):Prop:=PTs X ifs (upT X.K t)
def ql(_:DS)(M:MH)(Q:Bool->MH->Prop):Prop:=Q true M
theorem aaB(h:PTd X c t):ud X [c] t:=acG h
theorem ahQ(hc:X.calm=true)(L:oE X sc own fr)(hi:PId X tg iter di)
  (hg:∀ cl C s H ex pl,PGd (blk X sc (lcN X own fr) cl C s H ex pl) tg g)(ht:∀ cl C s H ex pl,ud (blk X sc (lcN X own fr) cl C s H ex pl) ifs tt)(he:∀ cl C s H ex pl,PD (blk X sc (lcN X own fr) cl C s H ex pl) elt te)
  (hs:∀ x,foldedSetIterable iter X.env x=pure x:=by intro _;rfl):PD X (.ListComp elt [⟨tg,iter,ifs,0⟩] sc pos) (dLC di g tt te own.length fr):=
 gp (oY (ahi hc L hi hg ht he hs)) λ σ H Q h=>yU h
theorem aeN{st:Stmt}{t:TS}(h:PS X st t):PS X st (λ D σ H=>t {D with nx:=λ σ' H'=>∃ p u,H' p=some u/\Fz u/\∀ o,D.nx σ' (upd H' p (.frz o u))} σ H):=by
 intro pins s σ H D I hq;refine thn (h pins s σ H _ I hq) λ f s1 q=>?_;cases f with
 | next =>
  obtain⟨σ',H',I',p,u,e,fz,q⟩:=q;obtain⟨o,I2⟩:=I'.freeze e fz;exact⟨σ',_,I2,q o⟩
 | brk=>exact q
 | cont=>exact q
 | ret v=>exact q
theorem yt{i:Nat}{pos' spos:Pos}(hN:X.N.Nodup)(hi':X.N[i]? =some x)(hx:Loc X.env.scope x)(hc:X.calm=true)(L:oE X sc own fr)(hi:PId X tg iter di)
  (hg:∀ cl C s H ex pl,PGd (blk X sc (lcN X own fr) cl C s H ex pl) tg g)(ht:∀ cl C s H ex pl,ud (blk X sc (lcN X own fr) cl C s H ex pl) ifs tt)(he:∀ cl C s H ex pl,PD (blk X sc (lcN X own fr) cl C s H ex pl) elt te)
  (hsw:swapsWith (.ListComp elt [⟨tg,iter,ifs,0⟩] sc pos) (some (.Name x pos')) spos.line X.env=pure true:=by rfl)
  (hs:∀ x,foldedSetIterable iter X.env x=pure x:=by intro _;rfl)(hf:X.fn x=true\/X.env.scope.names.lookup x=some .local:=by first | exact .inl rfl | exact .inr rfl | assumption) :
  PSd X (.Assign [.Name x pos'] (.ListComp elt [⟨tg,iter,ifs,0⟩] sc pos) spos) (bW (dLC di g tt te own.length fr) (gN i)):=sX (aeN (aad hN hi' hx hc L hi hg ht he hsw hs hf)) λ D σ H hq54=>by
 obtain⟨τ,M,Dd,A,h,k1,_⟩:=hq54;have z:up X.K (dLC di g tt te own.length fr) σ H (λ v H'=>D.nx (σ.set i (some v)) H'):=⟨τ,M,_,A,h,λ v H1 w M1 kp r m q=>k1 _ H1 _ M1 kp ((A.go kp m).set i r) q⟩;obtain⟨τ',M',R',A',h',k'⟩:=yU z;refine⟨τ',M',R',A',h',λ J H1 ws M1 kp m1 it q=>?_⟩;obtain⟨W,w0,st⟩:=k' J H1 ws M1 kp m1 it q;refine⟨W,w0,λ i m ys τ H w=>?_⟩;rcases st i m ys τ H w with ⟨s1,s2⟩ | r
 ·refine .inl ⟨s1,λ p hp=>?_⟩;obtain⟨p',u,e1,e2,f,q⟩:=s2 p hp;cases e1;exact⟨p,u,e2,f,q⟩
 ·exact .inr r
end
end
section
variable {X:Cx}{K:FG}
def agK(ws:List W)(M:MH)(Q:QD):Prop:=∃ i:Int,ws=[.d (.int i)]/\Q (.d (.int (if i<0 then -i else i))) M
theorem af1:eU K (λ xs H Q=>∃ i,xs=[.int i]/\Q (.int (if i<0 then -i else i)) H) agK:=by intro vs H ws M Qd Q r m ⟨i,e,q⟩ k;subst e;obtain⟨v,e1,r1⟩:=d4 r;simp only[ay,au] at r1;subst r1;exact⟨i,e1,k _ H (.d (.int _)) M (Kp.refl H) (by simp[ay,au]) m q⟩
def abN(M:MH):W->Option Nat
 | .d (.list ds)=>some ds.length
 | .d (.tuple ds)=>some ds.length
 | .d (.str z)=>some z.length
 | .m a=>match M a with
  | some (.lst ws)=>some ws.length
  | _=>none
 | _=>none
def df(ws:List W)(M:MH)(Q:QD):Prop:=∃ w n,ws=[w]/\abN M w=some n/\adz w=true/\Q (.d (.int (n:Nat))) M
theorem cD:eU K (λ xs H Q=>∃ x n,xs=[x]/\ai2 K x H n/\Q (.int n) H) df:=by
 intro vs H ws M Qd Q r m ⟨w,n,e,hn,hf,q⟩ k;subst e;obtain⟨v,e1,r1⟩:=d4 r;refine⟨v,n,e1,?_,k _ H (.d (.int _)) M (Kp.refl H) (by simp[ay,au]) m q⟩;cases w with
 | t _=>simp[abN] at hn
 | m a =>
  simp only[ay] at r1;subst r1;simp only[abN] at hn;cases hm:M a with
  | none=>rw[hm] at hn;cases hn
  | some mo =>
   rw[hm] at hn;cases mo with
   | lst l=>cases hn;obtain⟨us,e2,rw1⟩:=m a _ hm;exact .inl ⟨us,SqL.of e2,rw1.length⟩
   | dic _=>cases hn
   | dct _=>cases hn
   | fdic _=>cases hn
   | ins _ _=>cases hn
   | tup _=>cases hn
   | flst _=>cases hn
   | exc _ _=>cases hn
   | code _ _=>cases hn
 | d d =>
  cases d with
  | list ds=>simp only[abN] at hn;cases hn;simp only[ay,au] at r1;obtain⟨a,us,e2,hs,ra⟩:=r1;subst e2;exact .inl ⟨us,hs.sq,ra.length.symm⟩
  | tuple ds=>simp only[abN] at hn;cases hn;simp only[ay,au] at r1;obtain⟨a,us,e2,hs,ra⟩:=r1;subst e2;exact .inr ⟨us,hs,ra.length.symm⟩
  | str z=>simp only[abN] at hn;cases hn;simp only[ay,au] at r1;subst r1;exact⟨of_decide_eq_true hf,rfl⟩
  | _=>simp[abN] at hn
def aav(ws:List W)(M:MH)(Q:QD):Prop:=∃ bs:List Bool,ws=[.d (.list (bs.map PyData.bool))]/\Q (.d (.bool (bs.all id))) M
theorem abD:eU K (λ xs H Q=>∃ (x:V) (bs:List Bool),xs=[x]/\au K H (.list (bs.map PyData.bool)) x/\Q (.bl (bs.all id)) H) aav:=by intro vs H ws M Qd Q r m ⟨bs,e,q⟩ k;subst e;obtain⟨v,e1,r1⟩:=d4 r;exact⟨v,bs,e1,r1,k _ H (.d (.bool _)) M (Kp.refl H) (by simp[ay,au]) m q⟩
def vE:List (TD×TD)->DS->MH->(List (W×W)->MH->Prop)->Prop
 | [],_,M,Q=>Q [] M
 | (tk,tv)::r,τ,M,Q=>tk τ M λ x M1=>tv τ M1 λ y M2=>vE r τ M2 λ ps M3=>Q ((x,y)::ps) M3
theorem qj:∀ {trs:List (TD×TD)} {σ:St} {H:Hp} {τ:DS} {M:MH} {Qd:List (W×W)->MH->Prop} {Q:List (V×V)->Hp->Prop},Abs K H σ τ M->vE trs τ M Qd ->
  (∀ ps H' ws M',Kp H H'->Paired (λ(p:W×W) (q:V×V)=>ay K H' p.1 q.1/\ay K H' p.2 q.2) ws ps->c5 K H' M'->Qd ws M'->Q ps H')->tq (trs.map λ p=>(up K p.1,up K p.2)) σ H Q
 | [],σ,H,τ,M,Qd,Q,A,h,k=>k [] H [] M (Kp.refl H) .nil A.mem h
 | (tk,tv)::r,σ,H,τ,M,Qd,Q,A,h,k=>by show(up K tk) σ H _;refine⟨τ,M,_,A,h,λ x H1 w M1 kp1 r1 m1 q1=>⟨τ,M1,_,A.go kp1 m1,q1,λ y H2 w' M2 kp2 r2 m2 q2=>?_⟩⟩;refine qj (A.go (kp1.trans kp2) m2) q2 λ ps H3 ws M3 kp3 r3 m3 q3=>?_;exact k _ H3 _ M3 ((kp1.trans kp2).trans kp3) (.cons ⟨r1.keep (kp2.trans kp3),r2.keep kp3⟩ r3) m3 q3
theorem lI:∀ {more kvs:List (Key×V)},((kvs++more).map (·.1)).Nodup->iH kvs more=kvs++more
 | [],kvs,_=>by simp[iH]
 | p::r,kvs,h=>by
  have hn:qm kvs p.1=none:=by
   cases e:qm kvs p.1 with
   | none=>rfl
   | some v =>
    have q:(kvs.any λ kv=>decide (kv.1=p.1))=true:=by rw[jA,e];rfl
    obtain⟨z,hz,ez⟩:=List.any_eq_true.mp q;rw[List.map_append,List.nodup_append] at h;exact absurd (of_decide_eq_true ez) (h.2.2 _ (List.mem_map_of_mem hz) _ (by simp))
  show iH (putK kvs p.1 p.2) r=_;rw[zr _ hn,lI (by simpa using h)];simp
theorem qF(r:au K H (sU key) v):v=kV key:=by
 cases key<;>(simp only[sU,au] at r;exact r)
end
structure Fn(K:FG)(mg:Str->Option Value)(x:Str)(st:Stmt)(ps:List Str)(f:Addr)(fd:FuncData):Prop where
 fn:Fun K x x st f fd
 mg:mg x=some (.ref f)
 bd:Binds K fd ps []
section
variable {K:FG}{mg:Str->Option Value}{h:Heap}
theorem adx{st:Stmt}{ps:List Str}{oc:Value}{od an:Option Addr}{osl:Array (Option Value)}{kV doc pm cdv ct:Value}(X:K.In h)(G:h.Ns mainGlobals mg)(a:W.nsIn K mainGlobals x=some (some (.ref f)))
  (l:K.lookup f=some ⟨oc,od,.func (W.fnOf x x (bM st) (bu st) (ao st) .none kV doc pm an cdv ct),osl⟩)(c:W.codeIn K cdv x=true)(k:W.keepIn K (.ref f)=true)
  (b:∀ (kV doc pm:Value) (an:Option Addr) (cdv ct:Value) (us:List Value),us.length=ps.length->bindArgs (W.fnOf x x (bM st) (bu st) (ao st) .none kV doc pm an cdv ct) ⟨us,[]⟩=pure (ps.zip us)) :
  Fn K mg x st ps f (W.fnOf x x (bM st) (bu st) (ao st) .none kV doc pm an cdv ct):=
 have F:=aeV (st:=st) l c k
 ⟨F,W.mg_of X G a,F.binds b⟩
end
def afi(sc scX:Scope)(N:List Str)(fr:List Nat):Bool:=
 (sc.kind==.function)&&sc.names.all (λ y=>!(y.2==.cell))&&sc.names.all (λ y=>!(y.2==.free) || scX.names.lookup y.1==some .cell || scX.names.lookup y.1==some .free) &&
  sc.names.all (λ y=>!(y.2==.local) || sc.names.lookup y.1==some .local)&&acY N sc fr
theorem kU(h:afi sc X.env.scope X.N fr=true):oE X sc own fr:=by
 simp only[afi,Bool.and_eq_true] at h;obtain⟨⟨⟨⟨h1,h2⟩,h3⟩,h4⟩,h5⟩:=h;refine⟨eq_of_beq h1,λ y hy e=>?_,λ y hy e=>?_,λ y hy e=>?_,h5⟩
 ·have:=List.all_eq_true.mp h2 y hy;simp[e] at this
 ·have:=List.all_eq_true.mp h3 y hy;simp only[e,beq_self_eq_true,Bool.not_true,Bool.false_or,Bool.or_eq_true] at this;rcases this with z | z
  ·exact .inl (eq_of_beq z)
  ·exact .inr (eq_of_beq z)
 ·have:=List.all_eq_true.mp h4 y hy;simp only[e,beq_self_eq_true,Bool.not_true,Bool.false_or] at this;exact eq_of_beq this
theorem wO:bootBuiltins "int" = some (.type "int"):=by decide +kernel
theorem af2:bootBuiltins "str" = some (.type "str"):=by decide +kernel
theorem ad4:bootBuiltins "bool" = some (.type "bool"):=by decide +kernel
theorem hZ:bootBuiltins "list" = some (.type "list"):=by decide +kernel
theorem mQ:bootBuiltins "tuple" = some (.type "tuple"):=by decide +kernel
theorem ym:bootBuiltins "dict" = some (.type "dict"):=by decide +kernel
theorem cw:bootBuiltins "len" = some (.builtin "len"):=by decide +kernel
theorem agY:bootBuiltins "abs" = some (.builtin "abs"):=by decide +kernel
theorem abE:bootBuiltins "all" = some (.builtin "all"):=by decide +kernel
theorem bE:bootBuiltins "isinstance" = some (.builtin "isinstance"):=by decide +kernel
def gB:Expr->Bool
 | .Starred ..=>true
 | _=>false
theorem cE(e:Expr)(es:List Expr)(env:PySem.Env)(h:gB e=false):starEach (e::es) env=(false,eval e env)::starEach es env:=by
 cases e<;>first | rfl | (exact absurd h (by simp[gB]))
theorem eF(pos:Pos)(env:PySem.Env):∀ es:List Expr,(es.all λ e=>!gB e)=true->(backTo pos (starEach es env)).any (·.1)=false
 | [],_=>rfl
 | e::es,h=>by rw[List.all_cons,Bool.and_eq_true,Bool.not_eq_true'] at h;rw[cE e es env h.1];show(false || (backTo pos (starEach es env)).any (·.1))=false;rw[eF pos env es h.2];rfl
section
variable {X:Cx}{pos p:Pos}{e:Expr}{es:List Expr}{te:TD}{t:TAd}{x:Str}{id T:String}{r:List V->Hp->VK->Prop}{rd:List W->MH->QD->Prop}{k:Nat}{f:Addr}{fd:FuncData}{ps:List Str}{sp:SpD}
theorem pac(ha:PD X e te)(hr:PAd X es t)(h:gB e=false:=by rfl):PAd X (e::es) (ae te t):=aaO ha hr (cE e es X.env h)
theorem pcB(hc:d6 X (.builtin id) r)(hd:eU X.K r rd)(hg:Gl X x)(hm:X.mg x=none)(hv:bootBuiltins x=some (.builtin id))(ha:PAd X (e::es) t)(hn:x ≠ "__name__":= by decide)(hdb:ND x:=by decide)
  (h1:gB e=false:=by rfl)(h2:(es.all λ e=>!gB e)=true:=by rfl):PD X (.Call (.Name x p) (e::es) [] pos) (dCB rd t):=aaA hc hd hg hm hv ha hn hdb (cE e es X.env h1) (eF pos X.env es h2)
theorem pcF(F:eB X.prog X.w X.K X.mg X.base CX0 k f fd ps (eW X.K sp))(hr:eQ k X.A)(hg:Gl X x)(hm:X.mg x=some (.ref f))(hk:W.keepIn X.K (.ref f)=true)(hb:Binds X.K fd ps [])
  (ha:PAd X (e::es) t)(hdb:ND x:=by decide)(h1:gB e=false:=by rfl)(h2:(es.all λ e=>!gB e)=true:=by rfl) :
  PD X (.Call (.Name x p) (e::es) [] pos) (bq sp t):=adS F hr hg hm hk hb ha hdb (cE e es X.env h1) (eF pos X.env es h2)
end
structure Jd(p:Prop):Prop where
 h:p
abbrev pm(K:FG)(p:TD×TD):TE×TE:=(up K p.1,up K p.2)
section
variable {X:Cx}{pos:Pos}{a b c e:Expr}{ta tb tc te:TD}{K:FG}
theorem dvQ(i:Nat)(hN:X.N[i]? =some x:=by rfl)(hv:Vis X.env.scope x:=by first | exact Or.inl rfl | exact Or.inr (Or.inl rfl) | exact Or.inr (Or.inr rfl))(hd:ND x:=by decide)(hcd:(x==("__classdict__" : Str))=false:=by decide):Jd (PD X (.Name x pos) (ag i)):=⟨afC (agn hN hv hd hcd)⟩
theorem af{i j pos}:Jd (PD X (.Constant (.int i) j pos) (dC (.d (.int i)))):=⟨aeH yb λ H=>by simp[ay,au]⟩
theorem lM{b j pos}:Jd (PD X (.Constant (.bool b) j pos) (dC (.d (.bool b)))):=⟨aeH aga λ H=>by simp[ay,au]⟩
theorem eh{j pos}:Jd (PD X (.Constant .none j pos) (dC (.d .none))):=⟨aeH abY λ H=>by simp[ay,au]⟩
theorem bZ{x j pos}:Jd (PD X (.Constant (.str x) j pos) (dC (.d (.str x)))):=⟨aeH afM λ H=>by simp[ay,au]⟩
theorem gg(hg:Gl X x)(hm:X.mg x=some (.int i t))(hd:ND x:=by decide):Jd (PD X (.Name x pos) (dC (.d (.int i)))):=⟨aeH (acf (v:=.int i) hg hm ⟨t,rfl⟩ hd) λ H=>by simp[ay,au]⟩
theorem eN(hg:Gl X x)(hm:X.mg x=none)(hv:bootBuiltins x=some (.type n))(hn:x ≠ "__name__":= by decide)(hd:ND x:=by decide):Jd (PD X (.Name x pos) (dC (.t n))):=⟨
 aeH (aed (v:=.ty n) hg hm hv rfl hn hd) λ H=>by simp[ay]⟩
theorem aL(ho:OpR X (binaryOp op) r)(hd:OpD X.K r rd)(ha:Jd (PD X a ta))(hb:Jd (PD X b tb)):Jd (PD X (.BinOp a op b pos) (dOp rd ta tb)):=⟨D.aim (ho:=ho) (hd:=hd) (ha:=ha.h) (hb:=hb.h)⟩
theorem kl(ho:OpR X (compareOp op) r)(hd:OpD X.K r rd)(ha:Jd (PD X a ta))(hb:Jd (PD X b tb))(hm:behindInMarks op b=false:=by first | exact iI _ (by decide) (by decide) | rfl):Jd (PD X (.Compare a [op] [b] pos) (dOp rd ta tb)):=⟨D.agT (ho:=ho) (hd:=hd) (ha:=ha.h) (hb:=hb.h) (hm:=hm)⟩
theorem aE(hr:IxR X r)(hd:OpD X.K r rd)(ha:Jd (PD X a ta))(hb:Jd (PD X b tb))(hs:qA b:=by intro _ _;rfl):Jd (PD X (.Subscript a b pos) (dOp rd ta tb)):=⟨D.aiy (hr:=hr) (hd:=hd) (ha:=ha.h) (hb:=hb.h) (hs:=hs)⟩
theorem ax(ho:OpR X (compareOp op) r)(hd:OpD X.K r rd)(ha:Jd (PD X a ta))(hb:Jd (PD X b tb))(hm:behindInMarks op b=false:=by first | exact iI _ (by decide) (by decide) | rfl):Jd (PTd X (.Compare a [op] [b] pos) (aJ (dOp rd ta tb))):=⟨D.acn (ho:=ho) (hd:=hd) (ha:=ha.h) (hb:=hb.h) (hm:=hm)⟩
theorem dw(h:Jd (PD X e te))(he:∀ whole,isTrue e X.env whole=(do let v <- whole;standAt e.pos;holding [v] (truthy v)):=by intro _;rfl):Jd (PTd X e (aJ te)):=⟨D.acq (h:=h.h) (he:=he)⟩
theorem o4(ho:OpR X (compareOp op) r)(hd:OpD X.K r rd)(ho':OpR X (compareOp op') r')(hd':OpD X.K r' rd')(ha:Jd (PD X a ta))(hb:Jd (PD X b tb))(hc:Jd (PD X c tc))(hm:lastMarks [op,op'] [b,c]=false:=by with_unfolding_all rfl):Jd (PD X (.Compare a [op,op'] [b,c] pos) (jk rd rd' ta tb tc)):=⟨D.aa2 (ho:=ho) (hd:=hd) (ho':=ho') (hd':=hd') (ha:=ha.h) (hb:=hb.h) (hc:=hc.h) (hm:=hm)⟩
theorem ug(ho:OpR X (compareOp op) r)(hd:OpD X.K r rd)(ho':OpR X (compareOp op') r')(hd':OpD X.K r' rd')(ha:Jd (PD X a ta))(hb:Jd (PD X b tb))(hc:Jd (PD X c tc))(hm:lastMarks [op,op'] [b,c]=false:=by with_unfolding_all rfl):Jd (PTd X (.Compare a [op,op'] [b,c] pos) (aJ (jk rd rd' ta tb tc))):=⟨D.wF (ho:=ho) (hd:=hd) (ho':=ho') (hd':=hd') (ha:=ha.h) (hb:=hb.h) (hc:=hc.h) (hm:=hm)⟩
theorem abO(ho:UnR X (unaryOp op) r)(hd:UnD X.K r rd)(ha:Jd (PD X a ta)):Jd (PD X (.UnaryOp op a pos) (dUn rd ta)):=⟨D.ah0 (ho:=ho) (hd:=hd) (ha:=ha.h)⟩
variable {tA tB:TTd}{rest:List Expr}
theorem iq(ha:Jd (PTd X a tA)):Jd (PWd X (.BoolOp .And [a] pos) tA):=⟨D.zX (ha:=ha.h)⟩
theorem eG(ha:Jd (PTd X a tA)):Jd (PWd X (.BoolOp .Or [a] pos) tA):=⟨D.aek (ha:=ha.h)⟩
theorem ik(ha:Jd (PTd X a tA))(hb:Jd (PWd X (.BoolOp .And (b::rest) pos) tB)):Jd (PWd X (.BoolOp .And (a::b::rest) pos) (adw tA tB)):=⟨D.aef (ha:=ha.h) (hb:=hb.h)⟩
theorem dq(ha:Jd (PTd X a tA))(hb:Jd (PWd X (.BoolOp .Or (b::rest) pos) tB)):Jd (PWd X (.BoolOp .Or (a::b::rest) pos) (dOr tA tB)):=⟨D.agk (ha:=ha.h) (hb:=hb.h)⟩
theorem fK(h:Jd (PWd X e tA)):Jd (PTd X e tA):=⟨D.aii (h:=h.h)⟩
theorem dU(ha:Jd (PTd X a tA)):Jd (PTd X (.UnaryOp .Not a pos) (xB tA)):=⟨D.aeb (ha:=ha.h)⟩
theorem mw{op}(h:Jd (PD X a ta)):Jd (PD X (.BoolOp op [a] pos) ta):=⟨D.ago (h:=h.h)⟩
theorem g8(ha:Jd (PD X a ta))(hb:Jd (PD X (.BoolOp .And (b::rest) pos) tb)):Jd (PD X (.BoolOp .And (a::b::rest) pos) (mI ta tb)):=⟨D.age (ha:=ha.h) (hb:=hb.h)⟩
theorem aeh(ha:Jd (PD X a ta)):Jd (PD X (.UnaryOp .Not a pos) (acw ta)):=⟨D.agQ (ha:=ha.h)⟩
variable {es:List Expr}{t:TAd}
theorem aa  : Jd (PAd X [] aK):=⟨D.xJ ⟩
theorem fB(h:Jd (PAd X es t)):Jd (PD X (.List es pos) (u6 t)):=⟨D.ae8 (h:=h.h)⟩
theorem gm(h:Jd (PAd X es t)):Jd (PD X (.List es pos) (qg t)):=⟨D.adn (h:=h.h)⟩
theorem dr{x1}(h:Jd (PAd X es t)):Jd (PD X (.Tuple es x1 pos) (pz t)):=⟨D.afW (h:=h.h)⟩
variable {x:Str}{p:Pos}{id T:String}{r:List V->Hp->VK->Prop}{rd:List W->MH->QD->Prop}
end
section
variable {X:Cx}{pos:Pos}{st:Stmt}{sts:List Stmt}{t u:TSd}{e:Expr}{te:TD}{K:FG}
theorem aG  : Jd (oN X [] cF):=⟨afU acp λ D σ H ⟨τ,M,Dd,A,h,k1,_⟩=>k1 σ H τ M (Kp.refl H) A h⟩
theorem ab(h1:Jd (PSd X st t))(h2:Jd (oN X sts u)):Jd (oN X (st::sts) (bp t u)):=⟨D.vN (h1:=h1.h) (h2:=h2.h)⟩
theorem ah(h1:Jd (PSd X st t)):Jd (oN X [st] t):=⟨D.zM (h1:=h1.h)⟩
theorem dJ(he:Jd (PD X e te))(hs:swapsWith e none pos.line X.env=pure false:=by rfl):Jd (PSd X (.Expr e pos) (lh te)):=⟨D.aay (he:=he.h) (hs:=hs)⟩
theorem aA(he:Jd (PD X e te)):Jd (PSd X (.Return (some e) pos) (dY te)):=⟨D.aen (he:=he.h)⟩
theorem aZ(hc:Jd (PTd X c tc))(ha:Jd (oN X a t))(hb:Jd (oN X b u)):Jd (PSd X (.If c a b pos) (dIf tc t u)):=⟨D.aeT (hc:=hc.h) (ha:=ha.h) (hb:=hb.h)⟩
theorem ai(hN:X.N.Nodup)(hi:X.N[i]? =some x)(hx:Loc X.env.scope x)(hf:X.fn x=true\/X.env.scope.names.lookup x=some .local:=by first | exact .inl rfl | exact .inr rfl | assumption):Jd (PGd X (.Name x pos) (gN i)):=⟨
 aij (xt hN hi hx hf) λ v σ H Q ⟨w,τ,M,Qd,r,A,h,k⟩=>k _ H _ M (Kp.refl H) (A.set i r) h⟩
theorem jy(he:Jd (PD X e te))(hg:Jd (PGd X tg g))(hs:swapsWithSole [tg] e pos.line X.env=pure false:=by rfl)(hw:swappedStores [tg] e X.env=pure none:=by rfl)(h1:(assignEach [tg] X.env).map (·.2)=[assign tg X.env]:=by rfl):Jd (PSd X (.Assign [tg] e pos) (bW te g)):=⟨D.adG (he:=he.h) (hg:=hg.h) (hs:=hs) (hw:=hw) (h1:=h1)⟩
theorem av(hN:X.N.Nodup)(hi:X.N[i]? =some x)(hx:Loc X.env.scope x)(he:Jd (PD X e te))(hs:swapsWith e (some (.Name x pos')) pos.line X.env=pure false:=by rfl)(hf:X.fn x=true\/X.env.scope.names.lookup x=some .local:=by first | exact .inl rfl | exact .inr rfl | assumption):Jd (PSd X (.Assign [.Name x pos'] e pos) (bW te (gN i))):=⟨D.ac2 (hN:=hN) (hi:=hi) (hx:=hx) (he:=he.h) (hs:=hs) (hf:=hf)⟩
end
theorem fW  : Jd (POd X none fT):=⟨aiV ace λ σ H Q ⟨τ,M,Qd,A,q,k⟩=>k none H M (Kp.refl H) A.mem q⟩
theorem fZ(h:Jd (PD X e te)):Jd (POd X (some e) (mK te)):=⟨D.aaJ (h:=h.h)⟩
theorem gb{te:TD}{lo hi:Option Expr}{tl th:TOd}{pos p2:Pos}(he:Jd (PD X e te))(hl:Jd (POd X lo tl))(hu:Jd (POd X hi th)):Jd (PD X (.Subscript e (.Slice lo hi none p2) pos) (dSl te tl th)):=⟨D.aax (he:=he.h) (hl:=hl.h) (hu:=hu.h)⟩
theorem my(ho:Jd (PD X o to))(hi:Jd (PD X i ti))(ha:∀ v,assign (.Subscript o i pos) X.env v=(do
   let ov <- holding [v] (eval o X.env)
   let iv <- holding [v,ov] (eval i X.env)
   standAt pos
   holding [v,ov,iv] (setItem ov iv v)
   release [v,ov,iv] []):=by intro _;rfl):Jd (PGd X (.Subscript o i pos) (zz to ti)):=⟨D.adD (ho:=ho.h) (hi:=hi.h) (ha:=ha)⟩
theorem wH(ho:Jd (PD X o to))(hi:Jd (PD X i ti))(he:Jd (PD X e te))(hp:PIp X op (ipI f))(ha:∀ ov iv new,augStore i ov iv new=(do holding [new,ov,iv] (setItem ov iv new);release [new,ov,iv] [];pure .next):=by intros;rfl):Jd (PSd X (.AugAssign (.Subscript o i tpos) op e pos) (zk to ti te f)):=⟨D.aaN (ho:=ho.h) (hi:=hi.h) (he:=he.h) (hp:=hp) (ha:=ha)⟩
theorem aB(h:Jd (PD X l te)):Jd (PId X tg l (bj te)):=⟨D.xn (h:=h.h)⟩
theorem fA(hg:Gl X "range")(hm:X.mg "range" = none)(ha:Jd (PAd X [a] ta))(hs:starEach [a] X.env=[(false,eval a X.env)]:=by rfl):Jd (PId X tg (.Call (.Name "range" p) [a] [] pos) (qQ ta)):=⟨D.uC (hg:=hg) (hm:=hm) (ha:=ha.h) (hs:=hs)⟩
theorem bF(hp:PassesOwn (model X.prog X.w) X.A X.env X.xe)(hc:X.calm=true)(hi:Jd (PId X tg iter di))(hg:Jd (PGd X tg g))(hb:Jd (oN X body tb))(hs:∀ x,foldedSetIterable iter X.env x=pure x:=by intro _;rfl):Jd (PSd X (.For tg iter body [] pos) (j6 di g tb)):=⟨D.acR (hp:=hp) (hc:=hc) (hi:=hi.h) (hg:=hg.h) (hb:=hb.h) (hs:=hs)⟩
theorem bU  : Jd (ud X [] ql):=⟨λ pins s σ H Q I ⟨τ,M,Qd,A,q,k⟩=>ad7 pins s σ H Q I (k true H M (Kp.refl H) A.mem q)⟩
theorem bL(h:Jd (PTd X c t)):Jd (ud X [c] t):=⟨D.aaB (h:=h.h)⟩
theorem fJ(hc:X.calm=true)(L:oE X sc own fr)(hi:Jd (PId X tg iter di))(hg:∀ cl C s H ex pl,Jd (PGd (blk X sc (lcN X own fr) cl C s H ex pl) tg g))(ht:∀ cl C s H ex pl,Jd (ud (blk X sc (lcN X own fr) cl C s H ex pl) ifs tt))(he:∀ cl C s H ex pl,Jd (PD (blk X sc (lcN X own fr) cl C s H ex pl) elt te))(hs:∀ x,foldedSetIterable iter X.env x=pure x:=by intro _;rfl):Jd (PD X (.ListComp elt [⟨tg,iter,ifs,0⟩] sc pos) (dLC di g tt te own.length fr)):=⟨D.ahQ (hc:=hc) (L:=L) (hi:=hi.h) (hg:=λ cl C s H ex pl=>(hg cl C s H ex pl).h) (ht:=λ cl C s H ex pl=>(ht cl C s H ex pl).h) (he:=λ cl C s H ex pl=>(he cl C s H ex pl).h) (hs:=hs)⟩
theorem cA(hN:X.N.Nodup)(hi':X.N[i]? =some x)(hx:Loc X.env.scope x)(hc:X.calm=true)(L:oE X sc own fr)(hi:Jd (PId X tg iter di))(hg:∀ cl C s H ex pl,Jd (PGd (blk X sc (lcN X own fr) cl C s H ex pl) tg g))(ht:∀ cl C s H ex pl,Jd (ud (blk X sc (lcN X own fr) cl C s H ex pl) ifs tt))(he:∀ cl C s H ex pl,Jd (PD (blk X sc (lcN X own fr) cl C s H ex pl) elt te))(hsw:swapsWith (.ListComp elt [⟨tg,iter,ifs,0⟩] sc pos) (some (.Name x pos')) spos.line X.env=pure true:=by rfl)(hs:∀ x,foldedSetIterable iter X.env x=pure x:=by intro _;rfl)(hf:X.fn x=true\/X.env.scope.names.lookup x=some .local:=by first | exact .inl rfl | exact .inr rfl | assumption):Jd (PSd X (.Assign [.Name x pos'] (.ListComp elt [⟨tg,iter,ifs,0⟩] sc pos) spos) (bW (dLC di g tt te own.length fr) (gN i))):=⟨D.yt (hN:=hN) (hi':=hi') (hx:=hx) (hc:=hc) (L:=L) (hi:=hi.h) (hg:=λ cl C s H ex pl=>(hg cl C s H ex pl).h) (ht:=λ cl C s H ex pl=>(ht cl C s H ex pl).h) (he:=λ cl C s H ex pl=>(he cl C s H ex pl).h) (hsw:=hsw) (hs:=hs) (hf:=hf)⟩
section
variable {X:Cx}{pos p:Pos}{e:Expr}{es:List Expr}{te:TD}{t:TAd}{x:Str}{id T:String}{r:List V->Hp->VK->Prop}{rd:List W->MH->QD->Prop}{k:Nat}{f:Addr}{fd:FuncData}{ps:List Str}{sp:SpD}
theorem aw(ha:Jd (PD X e te))(hr:Jd (PAd X es t))(h:gB e=false:=by rfl):Jd (PAd X (e::es) (ae te t)):=⟨D.pac (ha:=ha.h) (hr:=hr.h) (h:=h)⟩
theorem fc(hc:d6 X (.builtin id) r)(hd:eU X.K r rd)(hg:Gl X x)(hm:X.mg x=none)(hv:bootBuiltins x=some (.builtin id))(ha:Jd (PAd X (e::es) t))(hn:x ≠ "__name__":= by decide)(hdb:ND x:=by decide)(h1:gB e=false:=by rfl)(h2:(es.all λ e=>!gB e)=true:=by rfl):Jd (PD X (.Call (.Name x p) (e::es) [] pos) (dCB rd t)):=⟨D.pcB (hc:=hc) (hd:=hd) (hg:=hg) (hm:=hm) (hv:=hv) (ha:=ha.h) (hn:=hn) (hdb:=hdb) (h1:=h1) (h2:=h2)⟩
theorem eC(F:eB X.prog X.w X.K X.mg X.base CX0 k f fd ps (eW X.K sp))(hr:eQ k X.A)(hg:Gl X x)(hm:X.mg x=some (.ref f))(hk:W.keepIn X.K (.ref f)=true)(hb:Binds X.K fd ps [])(ha:Jd (PAd X (e::es) t))(hdb:ND x:=by decide)(h1:gB e=false:=by rfl)(h2:(es.all λ e=>!gB e)=true:=by rfl):Jd (PD X (.Call (.Name x p) (e::es) [] pos) (bq sp t)):=⟨D.pcF (F:=F) (hr:=hr) (hg:=hg) (hm:=hm) (hk:=hk) (hb:=hb) (ha:=ha.h) (hdb:=hdb) (h1:=h1) (h2:=h2)⟩
end
theorem sQ:Jd (PPs X pos [] [] (([]:List (TD×TD)).map (pm X.K))):=⟨L2.adl⟩
theorem o6(hk:Jd (PD X k tk))(hv:Jd (PD X v tv))(hr:Jd (PPs X pos ks vs (trs.map (pm X.K)))):Jd (PPs X pos (some k::ks) (v::vs) (((tk,tv)::trs).map (pm X.K))):=⟨L2.zZ hk.h hv.h hr.h⟩
section
variable {κ α:Type}[DecidableEq κ]
def iQ(t:List (κ×α))(k:κ):Option α:=(t.find? λ p=>decide (p.1=k)).map (·.2)
def uZ(t:List (κ×α))(k:κ)(v:α):List (κ×α):=if (t.any λ p=>decide (p.1=k))=true then t.map (λ p=>if p.1=k then (p.1,v) else p) else t++[(k,v)]
def OR(R:β->γ->Prop):Option β->Option γ->Prop
 | some a,some b=>R a b
 | none,none=>True
 | _,_=>False
theorem OR.some_of(h:OR R (some a) o):∃ b,o=some b/\R a b:=by
 cases o with
 | none=>exact h.elim
 | some b=>exact⟨b,rfl,h⟩
theorem OR.none_of(h:OR R none o):o=none:=by
 cases o with
 | none=>rfl
 | some b=>exact h.elim
theorem OR.isSome:∀ {a:Option β} {o:Option γ},OR R a o->a.isSome=o.isSome
 | some _,some _,_=>rfl
 | none,none,_=>rfl
 | some _,none,h=>h.elim
 | none,some _,h=>h.elim
theorem lN(k:κ):∀ {t:List (κ×α)} {l:List (κ×V)},Paired (λ p q=>p.1=q.1/\R p.2 q.2) t l->OR R (iQ t k) (qm l k)
 | _,_,.nil=>True.intro
 | _,_,.cons (a:=p) (b:=q) (l₁:=t1) h t=>by
  obtain⟨h1,h2⟩:=h
  by_cases e:p.1=k
  ·rw[jK (h1.symm.trans e),show iQ (p::t1) k=some p.2 by simp[iQ,List.find?_cons,e]];exact h2
  ·rw[jG (λ z=>e (h1.trans z)),show iQ (p::t1) k=iQ t1 k by simp[iQ,List.find?_cons,e]];exact lN k t
theorem abk{R:α->V->Prop}(k:κ):∀ {t:List (κ×α)} {l:List (κ×V)},Paired (λ p q=>p.1=q.1/\R p.2 q.2) t l->(t.any λ p=>decide (p.1=k))=(l.any λ p=>decide (p.1=k))
 | _,_,.nil=>rfl
 | _,_,.cons (a:=p) (b:=q) h t=>by simp only[List.any_cons];rw[abk k t,h.1]
theorem abl{R:α->V->Prop}(k:κ){v:V}(r:R a v):∀ {t:List (κ×α)} {l:List (κ×V)},Paired (λ p q=>p.1=q.1/\R p.2 q.2) t l ->
  Paired (λ p q=>p.1=q.1/\R p.2 q.2) (t.map λ p=>if p.1=k then (p.1,a) else p) (l.map λ p=>if p.1=k then (p.1,v) else p)
 | _,_,.nil=>.nil
 | _,_,.cons (a:=p) (b:=q) h t=>by
  simp only[List.map_cons];refine .cons ?_ (abl k r t)
  by_cases e:p.1=k
  ·rw[if_pos e,if_pos (h.1.symm.trans e)];exact⟨h.1,r⟩
  ·rw[if_neg e,if_neg (λ z=>e (h.1.trans z))];exact h
theorem vt(r:P p q):∀ {t:List (κ×α)} {l:List (κ×V)},Paired P t l->Paired P (t++[p]) (l++[q])
 | _,_,.nil=>.cons r .nil
 | _,_,.cons h t=>.cons h (vt r t)
theorem abg{R:α->V->Prop}(k:κ){v:V}(r:R a v){t:List (κ×α)}{l:List (κ×V)}(h:Paired (λ p q=>p.1=q.1/\R p.2 q.2) t l) :
  Paired (λ p q=>p.1=q.1/\R p.2 q.2) (uZ t k a) (putK l k v):=by
 unfold uZ putK;rw[abk k h]
 split
 ·exact abl k r h
 ·exact vt ⟨rfl,r⟩ h
theorem su:∀ {t:List (κ×α)} {l:List (κ×V)},Paired P t l->t.length=l.length
 | _,_,.nil=>rfl
 | _,_,.cons _ t=>by simp[su t]
theorem iy{t:List (κ×α)}{k:κ}:iQ (p::t) k=if p.1=k then some p.2 else iQ t k:=by
 by_cases e:p.1=k<;>simp[iQ,List.find?_cons,e]
theorem mY(k:κ):∀ t:List (κ×α),(t.any λ p=>decide (p.1=k))=(iQ t k).isSome
 | []=>rfl
 | p::t=>by
  rw[List.any_cons,mY k t,iy]
  by_cases e:p.1=k<;>simp[e]
end
def kW(k:Key):W:=.d (sU k)
theorem kN{K:FG}{H:Hp}{k:Key}{v:V}(r:ay K H (kW k) v):v=kV k:=qF r
def tkW(ks:List Key):W:=.d (.tuple (ks.map sU))
theorem aeP{K:FG}{H:Hp}:∀ {ks:List Key} {vs:List V},aO K H (ks.map sU) vs->vs=ks.map kV
 | [],vs,h=>by simpa [aO] using h
 | k::ks,vs,h=>by simp only[List.map_cons,aO] at h;obtain⟨v,r,e,h1,h2⟩:=h;rw[e,qF h1,aeP h2];rfl
def Rd2(H:Hp)(a:Addr)(u:HO):Prop:=Rd H a u\/∃ o,H a=some (.frz o (.frz o u))
theorem tK(ok:HOk P w H h)(e:Rd2 H a (.dK kvs)):kvs.length<=sizeLine/\(a==sysModules)=false/\∃ vs,KV kvs vs/\h.DictOf (aR P w) a vs:=by
 rcases e with e | ⟨o,e⟩
 ·exact yJ ok e
 ·exact(ok a _ e).2.2
def rX(K:FG)(H:Hp)(a:Addr)(y:V)(r:Option V):Prop:=
 (∃ kvs k,Rd2 H a (.dK kvs)/\y=kV k/\r=qm kvs k)\/∃ kvs k b,Rd H a (.dT kvs)/\y=.ref b/\SqT K H b (k.map kV)/\r=qm kvs k
theorem xp(I:Inv X pins σ H s)(h:SqT X.K H b (ks.map kV)):(tupleKind (aR X.prog X.w)).is s.heap ks b:=by obtain⟨its,r,⟨o,h1,h2,n,h3⟩,_⟩:=I.tuple h;exact⟨o,its.toArray,n,h1,h2,h3,by simpa using kH r⟩
theorem ahH(hu:A.units+1<cLine)(I:Inv X pins σ H s)(g:rX X.K H a y o)(ry:RelV y u)(h:∀ s',Inv X pins σ H s'->Q (.bool o.isSome) s') :
  wpAny (model X.prog X.w) A (compareOp .In u (.ref a)) Q E s:=by
 rcases g with ⟨kvs,k,e,ey,l⟩ | ⟨kvs,k,b,e,ey,eb,l⟩
 ·subst ey;obtain⟨z,hd,vs,rel,dd⟩:=tK I.hok e;refine wpAny_in_of (mz ry) hd dd.mapOf ?_;rw[<- (rel.val k).fU,<- l];exact h _ (I.tok _)
 ·subst ey;cases (show u=Value.ref b from ry);obtain⟨z,hd,xs,rel,dd⟩:=vU I.hok e;refine wpAny_in_heap (tupleKind_room_in1 hu) (xp I eb) hd dd ?_;have q:=(rel.val k).fU;rw[Option.isSome_map] at q;rw[<- q,<- l];exact h _ (I.tok _)
theorem aa0(hu:A.units+1<cLine)(I:Inv X pins σ H s)(g:rX X.K H a y o)(ry:RelV y u)(h:∀ s',Inv X pins σ H s'->Q (.bool (!o.isSome)) s') :
  wpAny (model X.prog X.w) A (compareOp .NotIn u (.ref a)) Q E s:=by
 rcases g with ⟨kvs,k,e,ey,l⟩ | ⟨kvs,k,b,e,ey,eb,l⟩
 ·subst ey;obtain⟨z,hd,vs,rel,dd⟩:=tK I.hok e;refine wpAny_notIn_of (mz ry) hd dd.mapOf ?_;rw[<- (rel.val k).fU,<- l];exact h _ (I.tok _)
 ·subst ey;cases (show u=Value.ref b from ry);obtain⟨z,hd,xs,rel,dd⟩:=vU I.hok e;refine wpAny_notIn_heap (tupleKind_room_in1 hu) (xp I eb) hd dd ?_;have q:=(rel.val k).fU;rw[Option.isSome_map] at q;rw[<- q,<- l];exact h _ (I.tok _)
theorem ada(hu:A.units+1<cLine)(I:Inv X pins σ H s)(g:rX X.K H a y o)(ry:RelV y u)(rd:RelV d r)(h:∀ w' s',Inv X pins σ H s'->RelV (o.getD d) w'->Q w' s') :
  wpAny (model X.prog X.w) A (call (.builtin "dict.get") [.ref a,u,r]) Q E s:=by
 rcases g with ⟨kvs,k,e,ey,l⟩ | ⟨kvs,k,b,e,ey,eb,l⟩
 ·subst ey;obtain⟨z,hd,vs,rel,dd⟩:=tK I.hok e;refine call_meetsIn PySem.F.slot_dict_get dd.typeIs PySem.F.entry_dict_get (PySem.F.args_dict_get_3 _ _ _) (meets_dict_get_default (aR X.prog X.w) a (mz ry) hd r) ⟨_,dd.mapOf,h _ _ (I.tok _) ?_⟩;rw[l];exact(rel.val k).getD rd
 ·subst ey;cases (show u=Value.ref b from ry);obtain⟨z,hd,xs,rel,dd⟩:=vU I.hok e;refine call_meetsIn PySem.F.slot_dict_get dd.typeIs PySem.F.entry_dict_get (PySem.F.args_dict_get_3 _ _ _) (meetsH_dict_get_default (tupleKind (aR X.prog X.w)) a b hd r) ⟨tupleKind_room_in1 hu,k,xs,xp I eb,dd,h _ _ (I.tok _) ?_⟩;rw[l];exact(rel.val k).getD rd
theorem uR(hu:A.units+1<cLine)(I:Inv X pins σ H s)(e:Rd2 H a (.dK kvs))(l:qm kvs k=some v)(ry:RelV (kV k) u)(h:∀ w' s',Inv X pins σ H s'->RelV v w'->Q w' s') :
  s.TypeIs (.ref a) "dict" /\ wpAny (model X.prog X.w) A (getItem (.ref a) u) Q E s:=by
 obtain⟨z,hd,vs,rel,dd⟩:=tK I.hok e;obtain⟨w',hw,rw'⟩:=yg.some_of (v:=v) (o:=valueAt vs k) (by rw[<- l];exact rel.val k);exact⟨dd.typeIs,wpAny_getItem_of (mz ry) dd.mapOf hw (h w' _ (I.tok _) rw')⟩
inductive lE(M:MH):W->W->Option W->Prop
 | k {a:Addr} {kvs:List (Key×W)} {k:Key} (h:M a=some (.dic kvs)):lE M (.m a) (kW k) (iQ kvs k)
 | t {a:Addr} {kvs:List (List Key×W)} {ks:List Key} (h:M a=some (.dct kvs)):lE M (.m a) (tkW ks) (iQ kvs ks)
 | f {a:Addr} {kvs:List (Key×W)} {k:Key} (h:M a=some (.fdic kvs)):lE M (.m a) (kW k) (iQ kvs k)
 | d {kvs:List (Key×PyData)} {k:Key}:lE M (.d (.dict (kvs.map λ p=>(sU p.1,p.2)))) (kW k) ((iQ kvs k).map W.d)
inductive DIs(M:MH):W->Prop
 | k {a:Addr} {kvs:List (Key×W)} (h:M a=some (.dic kvs)):DIs M (.m a)
 | t {a:Addr} {kvs:List (List Key×W)} (h:M a=some (.dct kvs)):DIs M (.m a)
 | d {kvs:List (PyData×PyData)}:DIs M (.d (.dict kvs))
theorem zx(h:sU a=sU b):a=b:=by
 cases a<;>cases b<;>simp[sU] at h<;>rw[h]
theorem jN{K:FG}{H:Hp}:∀ {kvs:List (Key×PyData)} {l:List (Key×V)},jh K H (kvs.map λ p=>(sU p.1,p.2)) l->Paired (λ(p:Key×PyData) (q:Key×V)=>p.1=q.1/\au K H p.2 q.2) kvs l
 | [],l,h=>by simp only[List.map_nil,jh] at h;subst h;exact .nil
 | p::kvs,l,h=>by simp only[List.map_cons,jh] at h;obtain⟨key,v,r,e,ek,h1,h2⟩:=h;subst e;exact .cons ⟨zx ek,h1⟩ (jN h2)
theorem DIs.sound{K:FG}{H:Hp}{M:MH}{w:W}{x:V}(g:DIs M w)(r:ay K H w x)(m:c5 K H M):∃ a,x=.ref a/\IsD H a:=by
 cases g with
 | k h =>
  obtain⟨l,e,_⟩:=m _ _ h;exact⟨_,r,.inl ⟨l,.inl e⟩⟩
 | t h =>
  obtain⟨l,e,_⟩:=m _ _ h;exact⟨_,r,.inr ⟨l,.inl e⟩⟩
 | d =>
  simp only[ay,au] at r;obtain⟨a,o,l,e,h,_⟩:=r;exact⟨a,e,.inl ⟨l,.inr ⟨o,h⟩⟩⟩
theorem lE.sound{K:FG}{H:Hp}{M:MH}{w y:W}{o:Option W}{x v:V}(g:lE M w y o)(r:ay K H w x)(ry:ay K H y v)(m:c5 K H M) :
  ∃ a p,x=.ref a/\rX K H a v p/\OR (ay K H) o p:=by
 cases g with
 | @k a kvs k h =>
  obtain⟨l,e,pr⟩:=m _ _ h;exact⟨_,_,r,.inl ⟨l,k,.inl (.inl e),kN ry,rfl⟩,lN k pr⟩
 | @f a kvs k h =>
  obtain⟨ob,l,e,pr⟩:=m _ _ h;exact⟨_,_,r,.inl ⟨l,k,.inr ⟨ob,e⟩,kN ry,rfl⟩,lN k pr⟩
 | @t a kvs ks h =>
  obtain⟨l,e,pr⟩:=m _ _ h;simp only[tkW,ay,au] at ry;obtain⟨b,vs,eb,hs,ra⟩:=ry;rw[aeP ra] at hs;exact⟨_,_,r,.inr ⟨l,ks,b,.inl e,eb,hs,rfl⟩,lN ks pr⟩
 | @d kvs k =>
  simp only[ay,au] at r;obtain⟨a,ob,l,e,h,rk⟩:=r;refine⟨a,_,e,.inl ⟨l,k,.inl (.inr ⟨ob,h⟩),kN ry,rfl⟩,?_⟩;have g:=lN (R:=λ d q=>au K H d q) k (jN rk);cases q:iQ kvs k with
  | none=>rw[q] at g;rw[OR.none_of g];exact True.intro
  | some z =>
   rw[q] at g;obtain⟨b,eb,rb⟩:=OR.some_of g;rw[eb];exact rb
def agg(K:FG)(ty td:TE):TE:=λ σ H Q=>ty σ H λ y H1=>td σ H1 λ x H2=>∃ a o,x=.ref a/\rX K H2 a y o/\Q (.bl o.isSome) H2
def sS(K:FG)(ty td:TE):TE:=λ σ H Q=>ty σ H λ y H1=>td σ H1 λ x H2=>∃ a o,x=.ref a/\rX K H2 a y o/\Q (.bl (!o.isSome)) H2
theorem adR(hu:X.A.units+1<cLine)(hi:PE X i ty)(ho:PE X o td):PC X .In i o (agg X.K ty td):=by intro pins s σ H Q I h;refine thn (hi pins s σ H _ I h) λ iv s1 ⟨y,H1,I1,ry,q1⟩=>thn (ho pins s1 σ H1 _ I1 q1) λ u s2 hq55=>?_;obtain⟨x,H2,I2,rx,a,ov,ex,g,q2⟩:=hq55;subst ex;obtain rfl:u=Value.ref a:=rx;exact ahH hu I2 g ry λ s3 I3=>⟨.bl ov.isSome,H2,I3,rfl,q2⟩
theorem uF(hu:X.A.units+1<cLine)(hi:PE X i ty)(ho:PE X o td):PC X .NotIn i o (sS X.K ty td):=by intro pins s σ H Q I h;refine thn (hi pins s σ H _ I h) λ iv s1 ⟨y,H1,I1,ry,q1⟩=>thn (ho pins s1 σ H1 _ I1 q1) λ u s2 hq56=>?_;obtain⟨x,H2,I2,rx,a,ov,ex,g,q2⟩:=hq56;subst ex;obtain rfl:u=Value.ref a:=rx;exact aa0 hu I2 g ry λ s3 I3=>⟨.bl (!ov.isSome),H2,I3,rfl,q2⟩
def acI(K:FG)(td ty tx:TE):TE:=λ σ H Q=>td σ H λ x H1=>∃ a,x=.ref a/\IsD H1 a/\ty σ H1 λ y H2=>tx σ H2 λ z H3=>∃ o,rX K H3 a y o/\Q (o.getD z) H3
theorem yq(hu:X.A.units+1<cLine)(ho:PE X o td)(he:PE X e ty)(hf:PE X f tx)(m:M2 X o "get" apos e f cpos):PE X (.Call (.Attribute o "get" apos) [e,f] [] cpos) (acI X.K td ty tx):=by
 intro pins s σ H Q I h;refine wpAny_Call_method m.base m.few m.line PySem.F.plainAttrs_dict PySem.F.slot_dict_get PySem.F.type_dict_get (thn (ho pins s σ H _ I h) λ u s1 hq57=>?_);obtain⟨x,H1,I1,rx,a,ex,d,q1⟩:=hq57;subst ex;obtain rfl:u=Value.ref a:=rx;obtain⟨t1,t2,_⟩:=ag7 I1 d;refine⟨t1,t2,?_⟩;rw[m.trees];refine Calls.callWith_builtin rfl (Calls.evalArgs_plain (Calls.spliced_cons (thn (he pins s1 σ H1 _ I1 q1) λ iv s2 ⟨y,H2,I2,ry,q2⟩ =>
  Calls.spliced_cons (thn (hf pins s2 σ H2 _ I2 q2) λ fv s3 ⟨z,H3,I3,rz,ov,g,q3⟩=>Calls.spliced_nil ?_))))
 exact ada hu I3 g ry rz λ w' s4 I4 rw'=>⟨_,H3,I4,rw',q3⟩
def afm(td ty:TE):TE:=λ σ H Q=>td σ H λ x H1=>ty σ H1 λ y H2=>∃ a kvs k v,x=.ref a/\Rd2 H2 a (.dK kvs)/\y=kV k/\qm kvs k=some v/\Q v H2
theorem aae(hu:X.A.units+1<cLine)(ho:PE X o td)(hi:PE X i ty)(hs:aho i):PE X (.Subscript o i pos) (afm td ty):=by intro pins s σ H Q I h;refine ac9 PySem.F.slot_dict_getitem.lookup hs (thn (ho pins s σ H _ I h) λ u s1 ⟨x,H1,I1,rx,q1⟩=>thn (hi pins s1 σ H1 _ I1 q1) λ iv s2 hq58=>?_);obtain⟨y,H2,I2,ry,a,kvs,k,v,ex,g,ey,l,q2⟩:=hq58;subst ex ey;obtain rfl:u=Value.ref a:=rx;exact uR hu I2 g l ry λ w' s3 I3 rw'=>⟨v,H2,I3,rw',q2⟩
section
variable {X:Cx}{o i e f value:Expr}{es:List Expr}{pos pos' apos cpos:Pos}{td ti tx tv:TD}{t:TAd}
def kc(_:DS)(M:MH)(Q:QD):Prop:=∀ p,M p=none->Q (.m p) (bH M p (.dic []))
def ahl(ti td:TD)(τ:DS)(M:MH)(Q:QD):Prop:=ti τ M λ y M1=>td τ M1 λ w M2=>∃ o,lE M2 w y o/\Q (.d (.bool o.isSome)) M2
def m9(ti td:TD)(τ:DS)(M:MH)(Q:QD):Prop:=ti τ M λ y M1=>td τ M1 λ w M2=>∃ o,lE M2 w y o/\Q (.d (.bool (!o.isSome))) M2
theorem aeu{σ:St}{H:Hp}{Q:VK}(h:up X.K (ahl ti td) σ H Q):agg X.K (up X.K ti) (up X.K td) σ H Q:=by obtain⟨τ,M,Qd,A,h,k⟩:=h;refine⟨τ,M,_,A,h,λ y H1 wy M1 kp1 r1 m1 q1=>⟨τ,M1,_,A.go kp1 m1,q1,λ x H2 w M2 kp2 r2 m2 hq59=>?_⟩⟩;obtain⟨o,g,q2⟩:=hq59;obtain⟨a,p,e,g',ro⟩:=g.sound r2 (r1.keep kp2) m2;refine⟨a,p,e,g',?_⟩;rw[<- ro.isSome];exact k _ H2 (.d (.bool _)) M2 (kp1.trans kp2) (by simp[ay,au]) m2 q2
theorem t9{σ:St}{H:Hp}{Q:VK}(h:up X.K (m9 ti td) σ H Q):sS X.K (up X.K ti) (up X.K td) σ H Q:=by obtain⟨τ,M,Qd,A,h,k⟩:=h;refine⟨τ,M,_,A,h,λ y H1 wy M1 kp1 r1 m1 q1=>⟨τ,M1,_,A.go kp1 m1,q1,λ x H2 w M2 kp2 r2 m2 hq60=>?_⟩⟩;obtain⟨o,g,q2⟩:=hq60;obtain⟨a,p,e,g',ro⟩:=g.sound r2 (r1.keep kp2) m2;refine⟨a,p,e,g',?_⟩;rw[<- ro.isSome];exact k _ H2 (.d (.bool _)) M2 (kp1.trans kp2) (by simp[ay,au]) m2 q2
theorem adu(hu:X.A.units+1<cLine)(hi:PD X i ti)(ho:PD X o td)(hm:behindInMarks .In o=false:=by rfl):PTd X (.Compare i [.In] [o] pos) (aJ (ahl ti td)):=aci (abt (adR hu hi ho) hm) λ σ H Q h=>iL (λ σ H Q h=>aeu h) h
theorem ue(hu:X.A.units+1<cLine)(hi:PD X i ti)(ho:PD X o td)(hm:behindInMarks .NotIn o=false:=by rfl):PTd X (.Compare i [.NotIn] [o] pos) (aJ (m9 ti td)):=aci (abt (uF hu hi ho) hm) λ σ H Q h=>iL (λ σ H Q h=>t9 h) h
inductive afS(M2:MH) (w y:W) (Q:QD):Prop
 | mk (a:Addr) (kvs:List (Key×W)) (k:Key) (v:W) (z0:w=.m a) (z1:M2 a=some (.dic kvs)\/M2 a=some (.fdic kvs)) (z2:y=kW k) (z3:iQ kvs k=some v) (q:Q v M2):afS M2 w y Q
def iJ(td ti:TD)(τ:DS)(M:MH)(Q:QD):Prop:=td τ M λ w M1=>ti τ M1 λ y M2=>afS M2 w y Q
theorem adX(hu:X.A.units+1<cLine)(ho:PD X o td)(hi:PD X i ti)(hs:aho i:=by exact λ _ _=>rfl):PD X (.Subscript o i pos) (iJ td ti):=gp (aae hu ho hi hs) λ σ H Q h=>by
 obtain⟨τ,M,Qd,A,h,k⟩:=h;refine⟨τ,M,_,A,h,λ x H1 w M1 kp1 r1 m1 q1=>⟨τ,M1,_,A.go kp1 m1,q1,λ y H2 wy M2 kp2 r2 m2 hq61=>?_⟩⟩;obtain⟨a,kvs,key,v,ew,hm,ey,hv,q2⟩:=hq61;subst ew ey;obtain⟨l,e,pr⟩:∃ l,Rd2 H2 a (.dK l)/\Paired (λ(p:Key×W) (q:Key×V)=>p.1=q.1/\ay X.K H2 p.2 q.2) kvs l:=by
  rcases hm with hm | hm
  ·obtain⟨l,e,pr⟩:=m2 _ _ hm;exact⟨l,.inl (.inl e),pr⟩
  ·obtain⟨ob,l,e,pr⟩:=m2 _ _ hm;exact⟨l,.inr ⟨ob,e⟩,pr⟩
 have g:=lN key pr;rw[hv] at g;obtain⟨b,eb,rb⟩:=OR.some_of g;refine⟨a,l,key,b,r1,e,kN r2,eb,?_⟩;exact k _ H2 v M2 (kp1.trans kp2) rb m2 q2
def uo(td ti tx:TD)(τ:DS)(M:MH)(Q:QD):Prop:=td τ M λ w M1=>DIs M1 w/\ti τ M1 λ y M2=>tx τ M2 λ z M3=>∃ o,lE M3 w y o/\Q (o.getD z) M3
theorem OR.getD{K:FG}{H:Hp}{o:Option W}{p:Option V}{z:W}{v:V}(h:OR (ay K H) o p)(r:ay K H z v):ay K H (o.getD z) (p.getD v):=by
 cases o with
 | none=>rw[OR.none_of h];exact r
 | some a=>obtain⟨b,e,q⟩:=OR.some_of h;rw[e];exact q
theorem adp(hu:X.A.units+1<cLine)(ho:PD X o td)(he:PD X e ti)(hf:PD X f tx)(m:M2 X o "get" apos e f cpos:=by exact⟨rfl,rfl,rfl,rfl⟩):PD X (.Call (.Attribute o "get" apos) [e,f] [] cpos) (uo td ti tx):=gp (yq hu ho he hf m) λ σ H Q h=>by obtain⟨τ,M,Qd,A,h,k⟩:=h;refine⟨τ,M,_,A,h,λ x H1 w M1 kp1 r1 m1 hq62=>?_⟩;obtain⟨di,q1⟩:=hq62;obtain⟨a,ea,isd⟩:=di.sound r1 m1;refine⟨a,ea,isd,τ,M1,_,A.go kp1 m1,q1,λ y H2 wy M2 kp2 r2 m2 q2=>⟨τ,M2,_,A.go (kp1.trans kp2) m2,q2,λ z H3 wz M3 kp3 r3 m3 hq63=>?_⟩⟩;obtain⟨o,g,q3⟩:=hq63;obtain⟨a',p,e',g',ro⟩:=g.sound (r1.keep (kp2.trans kp3)) (r2.keep kp3) m3;rw[ea] at e';cases e';exact⟨p,g',k _ H3 _ M3 ((kp1.trans kp2).trans kp3) (ro.getD r3) m3 q3⟩
def qW(td ti tv:TD)(D:Ed)(τ:DS)(M:MH):Prop:=tv τ M λ v M1=>td τ M1 λ w M2=>ti τ M2 λ y M3=>∃ a kvs k,w=.m a/\M3 a=some (.dic kvs)/\y=kW k/\kvs.length<sizeLine/\D.nx τ (bH M3 a (.dic (uZ kvs k v)))
theorem aaZ(hu:X.A.units+1<cLine)(ho:PD X o td)(hi:PD X i ti)(hv:PD X value tv)(hs:swapsWith value (some (.Subscript o i pos')) pos.line X.env=pure false:=by rfl) :
  PSd X (.Assign [.Subscript o i pos'] value pos) (qW td ti tv):=sX (acD hu ho hi hv hs) λ D σ H h=>by
 obtain⟨τ,M,Dd,A,h,k1,_⟩:=h;refine⟨τ,M,_,A,h,λ v H1 wv M1 kp1 r1 m1 q1=>⟨τ,M1,_,A.go kp1 m1,q1,λ x H2 w M2 kp2 r2 m2 q2=>⟨τ,M2,_,A.go (kp1.trans kp2) m2,q2,λ y H3 wy M3 kp3 r3 m3 hq64=>?_⟩⟩⟩;obtain⟨a,kvs,key,ew,hm,ey,hl,q3⟩:=hq64;subst ew ey;obtain⟨l,e,pr⟩:=m3 _ _ hm;have kp4:Kp H3 (upd H3 a (.dK (putK l key v))):=Kp.set e (λ _ z=>nomatch z) (λ _ _ z=>nomatch z);refine⟨a,_,r2,.inl ⟨l,key,e,kN r3,by rw[<- su pr];exact hl,rfl⟩,?_⟩;have rv:ay X.K H3 wv v:=(r1.keep kp2).keep kp3;refine k1 _ _ _ _ (((kp1.trans kp2).trans kp3).trans kp4) (A.go (((kp1.trans kp2).trans kp3).trans kp4) (m3.put (mo:=.dic (uZ kvs key wv)) kp4 ⟨_,aq,?_⟩)) q3;exact Paired.gu (abg key rv pr) λ p q z=>⟨z.1,z.2.keep kp4⟩
end
section
variable {X:Cx}{C f:Addr}{o e value:Expr}{es:List Expr}{fn m x:Str}{pos pos' apos p:Pos}{td tv te:TD}{t:TAd}{k:Nat}{fd:FuncData}{ps:List Str}{sp:SpD}
end
def lD(M:MH)(a:Addr):MH:=λ b=>if b=a then none else M b
theorem vD(h:b≠a):lD M a b=M b:=if_neg h
theorem c5.del{K:FG}{H:Hp}{M:MH}{a:Addr}{o:HO}(m:c5 K H M)(kp:Kp H (upd H a o)):c5 K (upd H a o) (lD M a):=λ b mo hm=>by
 by_cases e:b=a
 ·subst e;simp[lD] at hm
 ·rw[vD e] at hm;exact(m b mo hm).keep kp λ u z=>by rw[aj e];exact z
def ai3(R:W->MH->Prop)(ws:List W)(M:MH):Prop:=match ws with
 | [y]=>R y M
 | _=>False
theorem adK(h:ai3 R ws M):∃ y,ws=[y]/\R y M:=by
 match ws,h with
 | [y],h=>exact⟨y,rfl,h⟩
def i4(td:TD)(τ:DS)(M:MH)(Q:QD):Prop:=td τ M λ w M1=>∃ a ds,w=.m a/\M1 a=some (.lst (ds.map W.d))/\Q (.d (.list ds)) (lD M1 a)
theorem ac3(h:PD X e td):PD X e (i4 td):=gp (oY h) λ σ H Q h=>by obtain⟨τ,M,Qd,A,h,k⟩:=h;refine⟨τ,M,_,A,h,λ x H1 w M1 kp1 r1 m1 hq65=>?_⟩;obtain⟨a,ds,ew,hm,q⟩:=hq65;subst ew;obtain⟨vs,e,ra⟩:=m1 _ _ hm;refine⟨a,_,r1,e,trivial,λ ob=>?_⟩;have kp2:Kp H1 (upd H1 a (.frz ob (.lst vs))):=Kp.set e (λ _ z=>nomatch z) (λ _ _ z=>nomatch z);refine k _ _ (.d (.list ds)) (lD M1 a) (kp1.trans kp2) ?_ (m1.del kp2) q;simp only[ay,au];exact⟨a,vs,r1,.inl ⟨ob,aq⟩,ra.data.keep kp2⟩
def g9(td te:TD)(τ:DS)(M:MH)(Q:QD):Prop:=td τ M λ w M1=>∃ a ws,w=.m a/\M1 a=some (.lst ws)/\te τ M1 λ y M2=>∃ ws',M2 a=some (.lst ws')/\ws'.length<sizeLine/\Q (.d .none) (bH M2 a (.lst (ws'++[y])))
theorem vz(ho:PD X o td)(he:PD X e te)
  (hbase:attributeBase o "append" X.env (eval o X.env)=eval o X.env:=by rfl)
  (hfew:((backTo cpos (starEach [e] X.env)).all (λ x=>!x.1)&&(backToKw cpos (keywordEach [] X.env)).all (λ x=>x.1.isSome)
   && decide (([e]:List Expr).length+([]:List Keyword).length+(if ([]:List Keyword).isEmpty then 0 else 1)<30))=true:=by rfl)
  (hline:(apos.endLine==cpos.line)=true:=by rfl)(hs:gB e=false:=by rfl):PD X (.Call (.Attribute o "append" apos) [e] [] cpos) (g9 td te):=
 gp (ahO PySem.F.plainAttrs_list PySem.F.slot_list_append PySem.F.type_list_append wK ho (pac he xJ hs) hbase hfew hline (cE e [] X.env hs) rfl) λ σ H Q h=>by obtain⟨τ,M,Qd,A,h,k⟩:=h;refine⟨τ,M,_,A,h,λ x H1 w M1 kp1 r1 m1 hq66=>?_⟩;obtain⟨a,ws,ew,hm,q1⟩:=hq66;subst ew;obtain⟨vs,ea,ra⟩:=m1 _ _ hm;have r1':x=.ref a:=r1;subst r1';refine⟨.inl ⟨rfl,vs,.inl (.inl ea)⟩,τ,M1,ai3 (λ y M2=>∃ ws',M2 a=some (.lst ws')/\ws'.length<sizeLine/\Qd (.d .none) (bH M2 a (.lst (ws'++[y])))),A.go kp1 m1,q1,λ ys H2 wys M2 kp2 r2 m2 q2=>?_⟩;obtain⟨y,ey,ws',hm2,hl,q4⟩:=adK q2;subst ey;obtain⟨v,ev,rv⟩:=d4 r2;subst ev;obtain⟨vs2,ea2,ra2⟩:=m2 _ _ hm2;have kp4:Kp H2 (upd H2 a (.lst (vs2++[v]))):=Kp.set ea2 (λ _ z=>nomatch z) (λ _ _ z=>nomatch z);refine⟨a,vs2,v,rfl,rfl,ea2,by rw[<- ra2.length];exact hl,?_⟩;exact k _ _ (.d .none) _ ((kp1.trans kp2).trans kp4) (by simp[ay,au]) (m2.put (mo:=.lst (ws'++[y])) kp4 ⟨_,aq,(bB.append ra2 (.cons rv .nil)).keep kp4⟩) q4
def t8(K:FG)(H:Hp)(d:PyData)(x:V):Prop:=au K H d x\/∃ a vs ds,d=.list ds/\x=.ref a/\H a=some (.lst vs)/\aO K H ds vs
inductive aag(M:MH):W->PyData->Prop
 | d {x:PyData}:aag M (.d x) x
 | l {a:Addr} {ds:List PyData} (h:M a=some (.lst (ds.map W.d))):aag M (.m a) (.list ds)
theorem aag.sound{K:FG}{H:Hp}{M:MH}{w:W}{d:PyData}{x:V}(g:aag M w d)(r:ay K H w x)(m:c5 K H M):t8 K H d x:=by
 cases g with
 | d=>exact .inl r
 | l h =>
  obtain⟨vs,e,ra⟩:=m _ _ h;exact .inr ⟨_,vs,_,rfl,r,e,ra.data⟩
theorem ajh(I:Inv X pins σ H s)(h:t8 X.K H d x):∃ H',Inv X pins σ H' s/\au X.K H' d x:=by
 rcases h with h | ⟨a,vs,ds,rfl,rfl,e,ra⟩
 ·exact⟨H,I,h⟩
 ·obtain⟨o,I2⟩:=I.freeze e trivial;have kp:Kp H (upd H a (.frz o (.lst vs))):=Kp.set e (λ _ z=>nomatch z) (λ _ _ z=>nomatch z);refine⟨_,I2,?_⟩;simp only[au];exact⟨a,vs,rfl,.inl ⟨o,aq⟩,ra.keep kp⟩
theorem ir(I:Inv X pins σ H s)(d:PyData)(h:t8 X.K H d x)(r:RelV x u)(hd:d.hasDict=false):∃ as,Reads s.heap u d as:=by obtain⟨H',I',h'⟩:=ajh I h;exact eD I' d h' r hd
theorem dH(hr:lu k X.A):OpR X (compareOp .Eq) (λ x y H Q=>∃ d d',t8 X.K H d x/\t8 X.K H d' y/\eX d d'=true/\Q (.bl (PyData.eqv d d')) H):=by
 intro pins s σ H x y v u Q I rx ry h;obtain⟨d,d',h1,h2,o,q⟩:=h;rcases fw o with ⟨a,b,e1,e2⟩ | ⟨o1,o2⟩
 ·subst e1;subst e2;rcases h1 with h1 | ⟨_,_,_,z,_⟩
  ·rcases h2 with h2 | ⟨_,_,_,z,_⟩
   ·exact abb hr pins s σ H x y v u Q I rx ry ⟨_,_,h1,h2,o,q⟩
   ·cases z
  ·cases z
 simp only[sR,Bool.and_eq_true,Bool.not_eq_true'] at o1 o2;obtain⟨as,r1⟩:=ir I d h1 rx o1.2;obtain⟨bs,r2⟩:=ir I d' h2 ry o2.2;exact eq_dataH r1 r2 o1.1 o2.1 hr.units ⟨.bl _,H,I,rfl,q⟩
theorem tp(hr:lu k X.A):OpR X (compareOp .NotEq) (λ x y H Q=>∃ d d',t8 X.K H d x/\t8 X.K H d' y/\eX d d'=true/\Q (.bl (!PyData.eqv d d')) H):=by
 intro pins s σ H x y v u Q I rx ry h;obtain⟨d,d',h1,h2,o,q⟩:=h;rcases fw o with ⟨a,b,e1,e2⟩ | ⟨o1,o2⟩
 ·subst e1;subst e2;rcases h1 with h1 | ⟨_,_,_,z,_⟩
  ·rcases h2 with h2 | ⟨_,_,_,z,_⟩
   ·exact ahh hr pins s σ H x y v u Q I rx ry ⟨_,_,h1,h2,o,q⟩
   ·cases z
  ·cases z
 simp only[sR,Bool.and_eq_true,Bool.not_eq_true'] at o1 o2;obtain⟨as,r1⟩:=ir I d h1 rx o1.2;obtain⟨bs,r2⟩:=ir I d' h2 ry o2.2;exact ne_dataH r1 r2 o1.1 o2.1 hr.units ⟨.bl _,H,I,rfl,q⟩
section
variable {X:Cx}{K:FG}
def eo(w w':W)(M:MH)(Q:QD):Prop:=∃ d d',aag M w d/\aag M w' d'/\eX d d'=true/\Q (.d (.bool (PyData.eqv d d'))) M
def xT(w w':W)(M:MH)(Q:QD):Prop:=∃ d d',aag M w d/\aag M w' d'/\eX d d'=true/\Q (.d (.bool (!PyData.eqv d d'))) M
theorem cu:OpD K (λ x y H Q=>∃ d d',t8 K H d x/\t8 K H d' y/\eX d d'=true/\Q (.bl (PyData.eqv d d')) H) eo:=by intro x y H w w' M Qd Q r1 r2 m ⟨d,d',g1,g2,o1,q⟩ k;exact⟨d,d',g1.sound r1 m,g2.sound r2 m,o1,k _ H (.d (.bool _)) M (Kp.refl H) (by simp[ay,au]) m q⟩
theorem nR:OpD K (λ x y H Q=>∃ d d',t8 K H d x/\t8 K H d' y/\eX d d'=true/\Q (.bl (!PyData.eqv d d')) H) xT:=by intro x y H w w' M Qd Q r1 r2 m ⟨d,d',g1,g2,o1,q⟩ k;exact⟨d,d',g1.sound r1 m,g2.sound r2 m,o1,k _ H (.d (.bool _)) M (Kp.refl H) (by simp[ay,au]) m q⟩
inductive zd(M:MH):W->List W->Prop
 | l {ds:List PyData}:zd M (.d (.list ds)) (ds.map W.d)
 | t {ds:List PyData}:zd M (.d (.tuple ds)) (ds.map W.d)
 | m {a:Addr} {ws:List W} (h:M a=some (.lst ws)):zd M (.m a) ws
theorem zd.sound(g:zd M w ws)(r:ay K H w x)(m:c5 K H M):∃ p ys,x=.ref p/\(SqL K H p ys\/SqT K H p ys)/\bB K H ws ys:=by
 cases g with
 | l =>
  simp only[ay,au] at r;obtain⟨a,vs,e,hs,ra⟩:=r;exact⟨a,vs,e,.inl hs.sq,ra.ws⟩
 | t =>
  simp only[ay,au] at r;obtain⟨a,vs,e,hs,ra⟩:=r;exact⟨a,vs,e,.inr hs,ra.ws⟩
 | m h =>
  obtain⟨vs,e,ra⟩:=m _ _ h;exact⟨_,vs,r,.inl (.inl (.inl e)),ra⟩
def gw(ws:List W)(M:MH)(Q:QD):Prop:=∃ w xs,ws=[w]/\zd M w xs/\∀ p,M p=none->Q (.m p) (bH M p (.lst xs))
theorem fX:eU K (λ xs H Q=>∃ p ys,xs=[.ref p]/\(SqL K H p ys\/SqT K H p ys)/\∀ l,H l=none->Q (.ref l) (upd H l (.lst ys))) gw:=by intro vs H ws M Qd Q r m ⟨w,xs,e,g,q⟩ k;subst e;obtain⟨v,e1,r1⟩:=d4 r;obtain⟨p,ys,ev,hs,rs⟩:=g.sound r1 m;subst ev;refine⟨p,ys,e1,hs,λ l hl=>?_⟩;have kp:Kp H (upd H l (.lst ys)):=Kp.new hl;exact k _ _ (.m l) _ kp rfl (m.put (mo:=.lst xs) kp ⟨ys,aq,rs.keep kp⟩) (q l (m.free hl))
def gD(zs:List Str):List W:=zs.map λ z=>.d (.str z)
theorem so:∀ {zs:List Str} {vs:List V},bB K H (gD zs) vs->vs=zs.map V.str
 | [],_,h=>by cases h;rfl
 | z::zs,_,h=>by
  cases h with
  | cons r t =>
   simp only[ay,au] at r;rw[r,so t];rfl
theorem yw(z:Str):∀ zs:List Str,inV (.str z) (zs.map V.str)=decide (z∈zs)
 | []=>rfl
 | y::zs=>by
  have h:inV (.str z) ((y::zs).map V.str)=((y==z) || inV (.str z) (zs.map V.str)):=rfl;rw[h,yw z zs]
  by_cases e:z=y
  ·subst e;simp
  ·have e':(y==z)=false:=by
    cases q:(y==z) with
    | false=>rfl
    | true=>exact absurd (eq_of_beq q).symm e
   rw[e'];simp[e]
theorem yd:∀ zs:List Str,(zs.map V.str).all ll=true
 | []=>rfl
 | _::zs=>by simp[ll]
def qz(neg:Bool)(w w':W)(M:MH)(Q:QD):Prop:=∃ z zs,w=.d (.str z)/\zd M w' (gD zs)/\Q (.d (.bool (if neg then !decide (z∈zs) else decide (z∈zs)))) M
theorem gx(neg:Bool):OpD K (rIn K neg) (qz neg):=by intro x y H w w' M Qd Q r1 r2 m ⟨z,zs,ew,g,q⟩ k;subst ew;simp only[ay,au] at r1;subst r1;obtain⟨p,ys,ey,hs,rs⟩:=g.sound r2 m;have e:=so rs;subst e;refine⟨p,_,ey,hs,rfl,yd zs,?_⟩;rw[yw];exact k _ H (.d (.bool _)) M (Kp.refl H) (by simp[ay,au]) m q
inductive vH(M:MH):W->Bool->Prop
 | n:vH M (.d .none) false
 | b {k:Bool}:vH M (.d (.bool k)) k
 | i {k:Int}:vH M (.d (.int k)) (k != 0)
 | s {z:Str} (h:z.length<=sizeLine):vH M (.d (.str z)) ((z.length:Int) != 0)
 | l {ds:List PyData}:vH M (.d (.list ds)) (!ds.isEmpty)
 | t {ds:List PyData}:vH M (.d (.tuple ds)) (!ds.isEmpty)
 | m {a:Addr} {ws:List W} (h:M a=some (.lst ws)):vH M (.m a) (!ws.isEmpty)
 | dk {a:Addr} {kvs:List (Key×W)} (h:M a=some (.dic kvs)):vH M (.m a) (!kvs.isEmpty)
theorem iM{α β:Type}{xs:List α}{ys:List β}(h:xs.length=ys.length):xs.isEmpty=ys.isEmpty:=by
 cases xs<;>cases ys<;>simp at h ⊢
theorem vH.sound{b:Bool}(g:vH M w b)(r:ay K H w x)(m:c5 K H M):ahR K x H b:=by
 cases g with
 | n=>simp only[ay,au] at r;subst r;rfl
 | b=>simp only[ay,au] at r;subst r;rfl
 | i=>simp only[ay,au] at r;subst r;rfl
 | s h=>simp only[ay,au] at r;subst r;exact⟨h,rfl⟩
 | l =>
  simp only[ay,au] at r;obtain⟨a,vs,e,hs,ra⟩:=r;subst e;exact .inl ⟨vs,hs.sq,by rw[iM ra.length]⟩
 | t =>
  simp only[ay,au] at r;obtain⟨a,vs,e,hs,ra⟩:=r;subst e;exact .inr (.inl ⟨vs,hs,by rw[iM ra.length]⟩)
 | m h =>
  obtain⟨vs,e,ra⟩:=m _ _ h;have r':x=.ref _:=r;subst r';exact .inl ⟨vs,.inl (.inl e),by rw[iM ra.length]⟩
 | dk h =>
  obtain⟨l,e,pr⟩:=m _ _ h;have r':x=.ref _:=r;subst r';exact .inr (.inr ⟨l,e,by rw[iM (su pr)]⟩)
def ahn(ta:TD)(τ:DS)(M:MH)(Q:Bool->MH->Prop):Prop:=ta τ M λ w M1=>∃ b,vH M1 w b/\Q b M1
theorem xS(ha:PD X a ta)(he:∀ whole:Sem Value,PySem.isTrue a X.env whole=(do let v <- whole;standAt a.pos;holding [v] (truthy v)):=by intro _;rfl):PTd X a (ahn ta):=
 aci (aaE ha he) λ σ H Q h=>by obtain⟨τ,M,Qd,A,h,k⟩:=h;exact⟨τ,M,_,A,h,λ v H' w M' kp r m ⟨b,g,q⟩=>⟨b,g.sound r m,k b H' M' kp m q⟩⟩
def acO(ws:List W)(M:MH)(Q:QD):Prop:=(∃ i,ws=[.d (.int i)]/\Q (.d (.int i)) M)\/∃ b,ws=[.d (.bool b)]/\Q (.d (.int (if b then 1 else 0))) M
theorem abZ:eU K (λ xs H Q=>(∃ i,xs=[.int i]/\Q (.int i) H)\/∃ k,xs=[.bl k]/\Q (.int (if k then 1 else 0)) H) acO:=by
 intro vs H ws M Qd Q r m h k;rcases h with ⟨i,e,q⟩ | ⟨b,e,q⟩
 ·subst e;obtain⟨v,e1,r1⟩:=d4 r;simp only[ay,au] at r1;subst r1;exact .inl ⟨i,e1,k _ H (.d (.int i)) M (Kp.refl H) (by simp[ay,au]) m q⟩
 ·subst e;obtain⟨v,e1,r1⟩:=d4 r;simp only[ay,au] at r1;subst r1;exact .inr ⟨b,e1,k _ H (.d (.int _)) M (Kp.refl H) (by simp[ay,au]) m q⟩
end
theorem ny:∀ {ns:List Int} {its:List Value},Vals (ns.map V.int) its->∃ xs:List (Int×Tok),its=xs.map (λ p=>Value.int p.1 p.2)/\xs.map (·.1)=ns
 | [],its,h=>by cases h;exact⟨[],rfl,rfl⟩
 | n::ns,its,h=>by
  cases h with
  | cons r t =>
   obtain⟨tk,e⟩:=(show ∃ t,_=Value.int n t from r);obtain⟨xs,e1,e2⟩:=ny t;exact⟨(n,tk)::xs,by rw[e,e1];rfl,by rw[List.map_cons,e2]⟩
section
variable {X:Cx}{K:FG}
def ahP(K:FG):R2:=λ x y H Q=>∃ l b xs zs,x=.ref l/\y=.ref b/\SqL K H l xs/\SqL K H b zs/\xs.length+zs.length<=sizeLine/\∀ p,H p=none->Q (.ref p) (upd H p (.lst (xs++zs)))
theorem acF:OpR X (binaryOp .Add) (ahP X.K):=by
 intro pins s σ H x y v u Q I rx ry h;obtain⟨l,b,xs,zs,rfl,rfl,h1,h2,hz,q⟩:=h;cases rx;cases ry;obtain⟨its,r1,p1,_⟩:=I.list h1;obtain⟨its2,r2,p2,_⟩:=I.list h2;have t1:=p1.isList.typeIs (s:=s);have t2:=p2.isList.typeIs (s:=s);obtain⟨⟨oc,od,odt,osl⟩,n,e1,c1,d1,g1⟩:=p1;obtain⟨⟨oc2,od2,odt2,osl2⟩,n2,e2,c2,d2,g2⟩:=p2;dsimp only at c1 d1 g1 c2 d2 g2;subst c1 d1 g1 c2 d2 g2;have hl1:=r1.length;have hl2:=r2.length;refine wpAny_binaryOp_concat (T:= "list") t1 t2 noFill_list_add seq_list_add ?_;refine call_meets PySem.F.slot_list_add t1 PySem.F.entry_list_add (PySem.F.args_list_add_2 _ _) (list_addW l b its.toArray its2.toArray n n2 none none osl osl2 (by simp only[List.size_toArray];omega)) ⟨e1,e2,?_⟩;have ea:its.toArray++its2.toArray=(its++its2).toArray:=by simp
 rw[ea];exact⟨.ref _,_,I.ajj (t':=s.toks) (r1.append r2) (by rw[List.length_append];omega),rfl,q _ I.fresh⟩
inductive ze(M:MH):W->List PyData->Prop
 | d {ds:List PyData}:ze M (.d (.list ds)) ds
 | m {a:Addr} {ds:List PyData} (h:M a=some (.lst (ds.map W.d))):ze M (.m a) ds
theorem ze.sound(g:ze M w ds)(r:ay K H w x)(m:c5 K H M):∃ p ys,x=.ref p/\SqL K H p ys/\aO K H ds ys:=by
 cases g with
 | d =>
  simp only[ay,au] at r;obtain⟨a,vs,e,hs,ra⟩:=r;exact⟨a,vs,e,hs.sq,ra⟩
 | m h =>
  obtain⟨vs,e,ra⟩:=m _ _ h;exact⟨_,vs,r,.inl (.inl e),ra.data⟩
def ad0(ta tb:TD)(τ:DS)(M:MH)(Q:QD):Prop:=ta τ M λ w M1=>tb τ M1 λ w' M2=>∃ xs ys,ze M2 w xs/\ze M2 w' ys/\xs.length+ys.length<=sizeLine/\Q (.d (.list (xs++ys))) M2
theorem afA(ha:PD X a ta)(hb:PD X b tb):PD X (.BinOp a .Add b pos) (ad0 ta tb):=gp (oY (agt acF ha hb)) λ σ H Q h=>by obtain⟨τ,M,Qd,A,h,k⟩:=h;refine⟨τ,M,_,A,h,λ x H1 w M1 kp1 r1 m1 q1=>⟨τ,M1,_,A.go kp1 m1,q1,λ y H2 w' M2 kp2 r2 m2 hq67=>?_⟩⟩;obtain⟨xs,ys,g1,g2,hz,q⟩:=hq67;obtain⟨p,vs,e1,s1,ra1⟩:=g1.sound (r1.keep kp2) m2;obtain⟨p',vs',e2,s2,ra2⟩:=g2.sound r2 m2;refine⟨p,p',vs,vs',e1,e2,s1,s2,by rw[ra1.length,ra2.length];exact hz,λ c hc=>?_⟩;exact mq hc (ra1.append ra2) m2 q (kgo (kgo k kp1) kp2)
theorem n8:∀ {ns:List Int} {vs:List V},aO K H (ns.map PyData.int) vs->vs=ns.map V.int
 | [],vs,h=>by simpa [aO] using h
 | n::ns,vs,h=>by simp only[List.map_cons,aO] at h;obtain⟨v,r,e,h1,h2⟩:=h;simp only[au] at h1;rw[e,h1,n8 h2];rfl
end
abbrev afZ:=List W->DS->MH->(DS->MH->Prop)->Prop
def ai7(K:FG)(g:afZ):TGs:=λ vs σ H Q=>∃ ws τ M Qd,bB K H ws vs/\Abs K H σ τ M/\g ws τ M Qd/\∀ σ' H' τ' M',Kp H H'->Abs K H' σ' τ' M'->Qd τ' M'->Q σ' H'
abbrev abr(X:Cx)(es:List Expr)(g:afZ):Prop:=PGs X es (ai7 X.K g)
theorem afI(h:PGs X es g)(k:∀ v σ H Q,g' v σ H Q->g v σ H Q):PGs X es g':=λ pins s σ H v u Q I r q=>h pins s σ H v u Q I r (k v σ H Q q)
def fD(ws:List W)(τ:DS)(M:MH)(Q:DS->MH->Prop):Prop:=ws=[]/\Q τ M
def aM(g:TGd)(gs:afZ)(ws:List W)(τ:DS)(M:MH)(Q:DS->MH->Prop):Prop:=∃ w r,ws=w::r/\g w τ M λ τ' M'=>gs r τ' M' Q
theorem vA(h1:PGd X e g)(h2:abr X es gs)(hs:(assignEach (e::es) X.env).map (·.2)=assign e X.env::(assignEach es X.env).map (·.2):=by rfl):abr X (e::es) (aM g gs):=
 afI (zA h1 h2 hs) λ vs σ H Q hq69=>by
  obtain⟨ws,τ,M,Qd,r,A,⟨w,wr,ew,q⟩,k⟩:=hq69;subst ew;cases r with
  | cons r1 r2 =>
   refine⟨_,_,rfl,w,τ,M,_,r1,A,q,λ σ1 H1 τ1 M1 kp1 A1 q1=>?_⟩;exact⟨wr,τ1,M1,Qd,bB.keep kp1 r2,A1,q1,λ σ2 H2 τ2 M2 kp2 A2 q2=>k σ2 H2 τ2 M2 (kp1.trans kp2) A2 q2⟩
def gT(n:Nat)(gs:afZ)(w:W)(τ:DS)(M:MH)(Q:DS->MH->Prop):Prop:=∃ ds,w=.d (.tuple ds)/\ds.length=n/\gs (ds.map W.d) τ M Q
theorem ach(hc:X.calm=true)(h:abr X es gs)(hn:(assignEach es X.env).length=n:=by rfl)(hst:(assignEach es X.env).findIdx? (·.1)=none:=by rfl):PGd X (.Tuple es k pos) (gT n gs):=
 aij (abn hc h hn hst) λ v σ H Q hq70=>by obtain⟨w,τ,M,Qd,r,A,⟨ds,ew,hl,q⟩,kk⟩:=hq70;subst ew;simp only[ay,au] at r;obtain⟨a,vs,ev,hs,ra⟩:=r;exact⟨a,vs,ev,hs,by rw[ra.length];exact hl,ds.map W.d,τ,M,Qd,ra.ws,A,q,kk⟩
def sJ(trs:List (TD×TD))(τ:DS)(M:MH)(Q:QD):Prop:=∀ p,M p=none->vE trs τ (bH M p (.dic [])) λ ps M2=>M2 p=some (.dic [])/\∃ kvs:List (Key×W),ps=kvs.map (λ q=>(kW q.1,q.2))/\kvs.length<=15/\(kvs.map (·.1)).Nodup /\
 Q (.m p) (bH M2 p (.dic kvs))
theorem mf{K:FG}{H:Hp}:∀ {kvs:List (Key×W)} {ps:List (V×V)},Paired (λ(p:W×W) (q:V×V)=>ay K H p.1 q.1/\ay K H p.2 q.2) (kvs.map λ q=>(kW q.1,q.2)) ps ->
  ∃ l:List (Key×V),ps=l.map (λ kv=>(kV kv.1,kv.2))/\l.map (·.1)=kvs.map (·.1)/\Paired (λ(p:Key×W) (q:Key×V)=>p.1=q.1/\ay K H p.2 q.2) kvs l
 | [],ps,h=>by cases h;exact⟨[],rfl,rfl,.nil⟩
 | (k,d)::kvs,ps,h=>by
  cases h with
  | cons r t =>
   rename_i q qs
   obtain⟨x,y⟩:=q;obtain⟨l,e1,e2,e3⟩:=mf t;refine⟨(k,y)::l,?_,by simp[e2],.cons ⟨rfl,r.2⟩ e3⟩;rw[List.map_cons,<- e1,<- kN r.1]
theorem aah(h:PPs X pos keys values (trs.map λ p=>(up X.K p.1,up X.K p.2)))(hall:keys.all (·.isSome)=true:=by rfl)(hl:keys.length=values.length:=by rfl)(h0:keys≠[]:=by simp)
  (h15:keys.length<=15:=by decide):PD X (.Dict keys values pos) (sJ trs):=gp (acS h hall hl h0 h15) λ σ H Q ⟨τ,M,Qd,A,q,k⟩=>λ p hp=>by
 have kp0:Kp H (upd H p (.dK [])):=Kp.new hp;have m0:c5 X.K (upd H p (.dK [])) (bH M p (.dic [])):=A.mem.put (mo:=.dic []) kp0 ⟨[],aq,.nil⟩;have hM:=A.mem.free hp;refine qj (A.go kp0 m0) (q p hM) λ ps H2 ws M2 kp2 r2 m2 hq71=>?_;obtain⟨eM,kvs,ews,hlen,hnd,qq⟩:=hq71;subst ews;obtain⟨l0,e0,pr0⟩:=m2 p _ eM;have el0:l0=[]:=by cases pr0;rfl
 subst el0;obtain⟨l,e1,e2,e3⟩:=mf r2;have elen:l.length=kvs.length:=by
  have:=congrArg List.length e2
  simpa using this
 refine⟨e0,l,e1,by omega,?_⟩;have em:iH [] l=l:=by rw[lI (by simpa [e2] using hnd)];rfl
 rw[em];have kp3:Kp H2 (upd H2 p (.dK l)):=Kp.set e0 (λ xs z=>nomatch z) λ _ _ z=>nomatch z;exact k _ _ (.m p) _ ((kp0.trans kp2).trans kp3) rfl (m2.put (mo:=.dic kvs) kp3 ⟨l,aq,Paired.gu e3 λ p q z=>⟨z.1,z.2.keep kp3⟩⟩) qq
section
variable {K:FG}{C:Addr}
end
theorem pcT(hc:d6 X (.type T) r)(hd:eU X.K r rd)(hg:Gl X x)(hm:X.mg x=none)(hv:bootBuiltins x=some (.type T))(ha:PAd X (e::es) t)(hn:x ≠ "__name__":= by decide)(hdb:ND x:=by decide)
  (h1:gB e=false:=by rfl)(h2:(es.all λ e=>!gB e)=true:=by rfl):PD X (.Call (.Name x p) (e::es) [] pos) (dCB rd t):=we hc hd hg hm hv ha hn hdb (cE e es X.env h1) (eF pos X.env es h2)
theorem afc:bootBuiltins "max" = some (.builtin "max"):=by decide +kernel
theorem jb  : Jd (PD X (.Dict [] [] pos) kc):=⟨gp aa3 λ σ H Q ⟨τ,M,Qd,A,h,k⟩ p hp =>
 k (.ref p) _ (.m p) (bH M p (.dic [])) (Kp.new hp) rfl (A.mem.put (mo:=.dic []) (Kp.new hp) ⟨[],aq,.nil⟩) (h p (A.mem.free hp))⟩
theorem aaP(hu:X.A.units+1<cLine)(hi:Jd (PD X i ti))(ho:Jd (PD X o td))(hm:behindInMarks .In o=false:=by rfl):Jd (PTd X (.Compare i [.In] [o] pos) (aJ (ahl ti td))):=⟨D.adu (hu:=hu) (hi:=hi.h) (ho:=ho.h) (hm:=hm)⟩
theorem qV(hu:X.A.units+1<cLine)(hi:Jd (PD X i ti))(ho:Jd (PD X o td))(hm:behindInMarks .NotIn o=false:=by rfl):Jd (PTd X (.Compare i [.NotIn] [o] pos) (aJ (m9 ti td))):=⟨D.ue (hu:=hu) (hi:=hi.h) (ho:=ho.h) (hm:=hm)⟩
theorem dy(hu:X.A.units+1<cLine)(ho:Jd (PD X o td))(hi:Jd (PD X i ti))(hs:aho i:=by exact λ _ _=>rfl):Jd (PD X (.Subscript o i pos) (iJ td ti)):=⟨D.adX (hu:=hu) (ho:=ho.h) (hi:=hi.h) (hs:=hs)⟩
theorem nj(hu:X.A.units+1<cLine)(ho:Jd (PD X o td))(he:Jd (PD X e ti))(hf:Jd (PD X f tx))(m:M2 X o "get" apos e f cpos:=by exact⟨rfl,rfl,rfl,rfl⟩):Jd (PD X (.Call (.Attribute o "get" apos) [e,f] [] cpos) (uo td ti tx)):=⟨D.adp (hu:=hu) (ho:=ho.h) (he:=he.h) (hf:=hf.h) (m:=m)⟩
theorem iA(hu:X.A.units+1<cLine)(ho:Jd (PD X o td))(hi:Jd (PD X i ti))(hv:Jd (PD X value tv))(hs:swapsWith value (some (.Subscript o i pos')) pos.line X.env=pure false:=by rfl):Jd (PSd X (.Assign [.Subscript o i pos'] value pos) (qW td ti tv)):=⟨D.aaZ (hu:=hu) (ho:=ho.h) (hi:=hi.h) (hv:=hv.h) (hs:=hs)⟩
theorem c9(h:Jd (PD X e td)):Jd (PD X e (i4 td)):=⟨D.ac3 (h:=h.h)⟩
theorem e9(ho:Jd (PD X o td))(he:Jd (PD X e te))(hbase:attributeBase o "append" X.env (eval o X.env)=eval o X.env:=by rfl)(hfew:((backTo cpos (starEach [e] X.env)).all (λ x=>!x.1)&&(backToKw cpos (keywordEach [] X.env)).all (λ x=>x.1.isSome)
   && decide (([e]:List Expr).length+([]:List Keyword).length+(if ([]:List Keyword).isEmpty then 0 else 1)<30))=true:=by rfl)(hline:(apos.endLine==cpos.line)=true:=by rfl)(hs:gB e=false:=by rfl):Jd (PD X (.Call (.Attribute o "append" apos) [e] [] cpos) (g9 td te)):=⟨D.vz (ho:=ho.h) (he:=he.h) (hbase:=hbase) (hfew:=hfew) (hline:=hline) (hs:=hs)⟩
theorem md(ha:Jd (PD X a ta))(he:∀ whole:Sem Value,PySem.isTrue a X.env whole=(do let v <- whole;standAt a.pos;holding [v] (truthy v)):=by intro _;rfl):Jd (PTd X a (ahn ta)):=⟨D.xS (ha:=ha.h) (he:=he)⟩
theorem qG(ha:Jd (PD X a ta))(hb:Jd (PD X b tb)):Jd (PD X (.BinOp a .Add b pos) (ad0 ta tb)):=⟨D.afA (ha:=ha.h) (hb:=hb.h)⟩
theorem br  : Jd (abr X [] fD):=⟨afI adP λ vs σ H Q hq68=>by obtain⟨ws,τ,M,Qd,r,A,⟨e,q⟩,k⟩:=hq68;subst e;cases r;exact⟨rfl,k σ H τ M (Kp.refl H) A q⟩⟩
theorem ar(h1:Jd (PGd X e g))(h2:Jd (abr X es gs))(hs:(assignEach (e::es) X.env).map (·.2)=assign e X.env::(assignEach es X.env).map (·.2):=by rfl):Jd (abr X (e::es) (aM g gs)):=⟨D.vA (h1:=h1.h) (h2:=h2.h) (hs:=hs)⟩
theorem bT(hc:X.calm=true)(h:Jd (abr X es gs))(hn:(assignEach es X.env).length=n:=by rfl)(hst:(assignEach es X.env).findIdx? (·.1)=none:=by rfl):Jd (PGd X (.Tuple es k pos) (gT n gs)):=⟨D.ach (hc:=hc) (h:=h.h) (hn:=hn) (hst:=hst)⟩
theorem o5(h:Jd (PPs X pos keys values (trs.map (pm X.K))))(hall:keys.all (·.isSome)=true:=by rfl)(hl:keys.length=values.length:=by rfl)(h0:keys≠[]:=by simp)(h15:keys.length<=15:=by decide):Jd (PD X (.Dict keys values pos) (sJ trs)):=⟨D.aah (h:=h.h) (hall:=hall) (hl:=hl) (h0:=h0) (h15:=h15)⟩
theorem zS(hc:d6 X (.type T) r)(hd:eU X.K r rd)(hg:Gl X x)(hm:X.mg x=none)(hv:bootBuiltins x=some (.type T))(ha:Jd (PAd X (e::es) t))(hn:x ≠ "__name__":= by decide)(hdb:ND x:=by decide)(h1:gB e=false:=by rfl)(h2:(es.all λ e=>!gB e)=true:=by rfl):Jd (PD X (.Call (.Name x p) (e::es) [] pos) (dCB rd t)):=⟨D.pcT (hc:=hc) (hd:=hd) (hg:=hg) (hm:=hm) (hv:=hv) (ha:=ha.h) (hn:=hn) (hdb:=hdb) (h1:=h1) (h2:=h2)⟩
@[simp] theorem aff (i j:Int):eX (.int i) (.int j)=true:=rfl
@[simp] theorem agI (x y:Str):eX (.str x) (.str y)=true:=rfl
@[simp] theorem aeB (x y:Bool):eX (.bool x) (.bool y)=true:=rfl
@[simp] theorem km (i j:Int):PyData.eqv (.int i) (.int j)=(i==j):=by rw[PyData.eqv]
@[simp] theorem d3 (i j:Str):PyData.eqv (.str i) (.str j)=(i==j):=by rw[PyData.eqv]
@[simp] theorem aiW (a:Addr):adz (.m a)=true:=rfl
@[simp] theorem ag6 (ds:List PyData):adz (.d (.list ds))=true:=rfl
@[simp] theorem aeL (ds:List PyData):adz (.d (.tuple ds))=true:=rfl
@[simp] theorem ahp (n:Nat):ixN (n+1) 0=some 0:=by unfold ixN;simp
theorem abJ{α:Type}{xs:List α}{i:Int}(h0:0<=i)(h1:i<xs.length):atI xs i=some (xs[i.toNat]'(by omega)):=by
 unfold atI ixN;rw[if_pos h0,if_pos h1];simp
inductive Bag(M:MH) (p:Addr):Prop
 | mk (a b c:Int) (ns:List Int) (e:M p=some (.lst [.d (.int a),.d (.int b),.d (.int c),.d (.list (ns.map PyData.int))])) (z:0<=a/\0<=b/\b<2147483647/\0<=c/\(∀ n∈ns,0<=n)):Bag M p
def eE:SpD:=λ ws M Q=>∃ ns:List Int,ws=[.d (.list (ns.map PyData.int))]/\ns.length<=1000/\∀ p M',M p=none->(∀ q,q≠p->M' q=M q)->Bag M' p->Q (.m p) M'
inductive oU(ws:List W) (M:MH) (Q:QD):Prop
 | mk (p:Addr) (n:Int) (z0:ws=[.m p,.d (.int n)]) (z1:Bag M p) (z2:0<n) (z3:n<1073741824) (z4:∀ (r:Int) M',0<=r->r<n->Bag M' p->(∀ q,q≠p->M' q=M q)->Q (.d (.int r)) M'):oU ws M Q
def az:SpD:=oU
theorem wu:∀ ws M Q,eE ws M Q->ws.length=1:=by rintro ws M Q ⟨ns,rfl,_⟩;rfl
theorem t7:∀ ws M Q,az ws M Q->ws.length=2:=by rintro ws M Q ⟨p,n,rfl,_⟩;rfl
theorem xw{n:Nat}{i:Int}(h0:0<=i)(h1:i<n):ixN n i=some i.toNat:=by unfold ixN;rw[if_pos h0,if_pos h1]
theorem ack(hm:M p=some (.lst ws))(h:atI ws i=some x):ixW M (.m p) i=some x:=by simp only[ixW,hm];exact h
theorem jP{c:Bool}{A B:Prop}(h1:c=true->A)(h2:c=false->B):if c=true then A else B:=by
 cases c with
 | true=>rw[if_pos rfl];exact h1 rfl
 | false=>rw[if_neg Bool.false_ne_true];exact h2 rfl
abbrev xX:List Str:=["_law_script"]
def xj:TSd:=
  dY (qg (ae (dC (.d (.int 0))) (ae (dC (.d (.int 1234567891))) (ae (dC (.d (.int 0))) (ae (dLC (bj (dSl (ag 0) (fT) (mK (dC (.d (.int 63)))))) (gN 0) (ql) (dCB agK (ae (ag 0) (aK))) 1 []) (aK))))))
abbrev sP:List Str:=["_law_bag_here", "_law_many", "_law_cell", "_law_value", "_law_first", "_law_second"]
def sH:TSd:=
  bp (dIf (aJ (dOp ai5 (dOp cj (ag 0) (dC (.d (.int 0)))) (dC (.d (.int 0)))))
   (bp (bW (dC (.d (.int 0))) (gN 2)) <|
   bp (dIf (aJ (dOp zc (dOp cj (ag 0) (dC (.d (.int 2)))) (dCB df (ae (dOp cj (ag 0) (dC (.d (.int 3)))) (aK)))))
    (bW (dOp cj (dOp cj (ag 0) (dC (.d (.int 3)))) (dOp cj (ag 0) (dC (.d (.int 2))))) (gN 2))
    (cF)) <|
   bp (zk (ag 0) (dC (.d (.int 2))) (dC (.d (.int 1))) (λ i j=>i+j)) <|
   bp (dIf (aJ (dOp agN (ag 2) (dC (.d (.int 1000000000000000000)))))
    (bW (ag 2) (zz (ag 0) (dC (.d (.int 0)))))
    (cF)) <|
   bW (dOp er (dOp cX (dOp cX (dOp hJ (dOp cj (ag 0) (dC (.d (.int 1)))) (dC (.d (.int 48271)))) (dOp er (ag 2) (dC (.d (.int 2147483647))))) (dOp hJ (dC (.d (.int 7919))) (dOp cj (ag 0) (dC (.d (.int 2)))))) (dC (.d (.int 2147483647)))) (zz (ag 0) (dC (.d (.int 1)))))
   (cF)) <|
  bp (dIf (aJ (dOp aar (dOp cj (ag 0) (dC (.d (.int 0)))) (dC (.d (.int 0)))))
   (bp (bW (dOp er (dOp cj (ag 0) (dC (.d (.int 0)))) (ag 1)) (gN 3)) <|
   bp (bW (dOp xr (dOp cj (ag 0) (dC (.d (.int 0)))) (ag 1)) (zz (ag 0) (dC (.d (.int 0))))) <|
   dY (ag 3))
   (cF)) <|
  bp (bW (dOp er (dOp hJ (dOp cX (dOp cj (ag 0) (dC (.d (.int 1)))) (dC (.d (.int 1)))) (dC (.d (.int 39373)))) (dC (.d (.int 1000000007)))) (gN 4)) <|
  bp (bW (dOp er (dOp hJ (dOp er (dOp hJ (ag 4) (ag 4)) (dC (.d (.int 998244353)))) (dC (.d (.int 30011)))) (dC (.d (.int 998244353)))) (gN 5)) <|
  bp (dIf (aJ (dOp aar (ag 1) (dC (.d (.int 1000000)))))
   (dY (dOp er (dOp cX (dOp hJ (ag 5) (dC (.d (.int 1000000007)))) (ag 4)) (ag 1)))
   (cF)) <|
  dY (dOp er (dOp xr (ag 5) (dC (.d (.int 7)))) (ag 1))
abbrev zH(a b c:Int)(ns:List Int):List W:=[.d (.int a),.d (.int b),.d (.int c),.d (.list (ns.map PyData.int))]
theorem i6(hm:M p=some (.lst (zH a b c ns)))(ha:0<=a)(hb:0<=b)(hb2:b<2147483647)(hc:0<=c)(hns:∀ n∈ns,0<=n)(hn:0<n)(hn2:n<1073741824)
  (k:∀ (r:Int) M',0<=r->r<n->Bag M' p->(∀ q,q≠p->M' q=M q)->Q (.d (.int r)) M')(hD:D.rt=Q) :
  (bp (dIf (aJ (dOp aar (dOp cj (ag 0) (dC (.d (.int 0)))) (dC (.d (.int 0)))))
   (bp (bW (dOp er (dOp cj (ag 0) (dC (.d (.int 0)))) (ag 1)) (gN 3)) <|
   bp (bW (dOp xr (dOp cj (ag 0) (dC (.d (.int 0)))) (ag 1)) (zz (ag 0) (dC (.d (.int 0))))) <|
   dY (ag 3))
   (cF)) <|
  bp (bW (dOp er (dOp hJ (dOp cX (dOp cj (ag 0) (dC (.d (.int 1)))) (dC (.d (.int 1)))) (dC (.d (.int 39373)))) (dC (.d (.int 1000000007)))) (gN 4)) <|
  bp (bW (dOp er (dOp hJ (dOp er (dOp hJ (ag 4) (ag 4)) (dC (.d (.int 998244353)))) (dC (.d (.int 30011)))) (dC (.d (.int 998244353)))) (gN 5)) <|
  bp (dIf (aJ (dOp aar (ag 1) (dC (.d (.int 1000000)))))
   (dY (dOp er (dOp cX (dOp hJ (ag 5) (dC (.d (.int 1000000007)))) (ag 4)) (ag 1)))
   (cF)) <|
  dY (dOp er (dOp xr (ag 5) (dC (.d (.int 7)))) (ag 1))) D [some (.m p),some (.d (.int n)),x,none,none,none] M:=by
 subst hD;have i0:ixW M (.m p) 0=some (.d (.int a)):=ack hm rfl;have i1:ixW M (.m p) 1=some (.d (.int b)):=ack hm rfl;have same:Bag M p:=⟨a,b,c,ns,hm,ha,hb,hb2,hc,hns⟩;refine⟨_,rfl,_,_,rfl,i0,rfl,_,_,rfl,rfl,_,rfl,?_⟩;refine jP (λ h=>?_) (λ h=>?_)
 ·have h0:0<a:=of_decide_eq_true h;refine⟨_,rfl,_,_,rfl,i0,rfl,_,rfl,_,_,rfl,rfl,hn,?_⟩;refine⟨_,rfl,_,_,rfl,i0,rfl,_,rfl,_,_,rfl,rfl,⟨hn,hn2⟩,?_⟩;refine⟨_,rfl,_,_,_,_,rfl,rfl,hm,rfl,?_⟩;refine⟨_,rfl,?_⟩;refine k _ _ (Int.emod_nonneg _ (by omega)) (Int.emod_lt_of_pos _ hn) ⟨a / n,b,c,ns,ak,Int.ediv_nonneg ha (by omega),hb,hb2,hc,hns⟩ λ q hq=>aI hq
 ·refine⟨_,rfl,_,_,rfl,i1,rfl,.inl ?_⟩;refine⟨_,_,rfl,rfl,_,_,rfl,rfl,.inl ⟨by omega,by omega⟩,_,_,rfl,rfl,(by decide:(0:Int)<1000000007),?_⟩;have f0:0<=(b+1) * 39373 % 1000000007:=Int.emod_nonneg _ (by decide);have f1:(b+1) * 39373 % 1000000007<1000000007:=Int.emod_lt_of_pos _ (by decide);refine⟨_,rfl,_,rfl,_,_,rfl,rfl,.inl ⟨by omega,by omega⟩,_,_,rfl,rfl,(by decide:(0:Int)<998244353),?_⟩;have g0:0<=(b+1) * 39373 % 1000000007 * ((b+1) * 39373 % 1000000007) % 998244353:=Int.emod_nonneg _ (by decide);have g1:(b+1) * 39373 % 1000000007 * ((b+1) * 39373 % 1000000007) % 998244353<998244353:=Int.emod_lt_of_pos _ (by decide);refine⟨_,_,rfl,rfl,.inl ⟨by omega,by omega⟩,_,_,rfl,rfl,(by decide:(0:Int)<998244353),?_⟩;have e0:0<=(b+1) * 39373 % 1000000007 * ((b+1) * 39373 % 1000000007) % 998244353 * 30011 % 998244353:=Int.emod_nonneg _ (by decide);have e1:(b+1) * 39373 % 1000000007 * ((b+1) * 39373 % 1000000007) % 998244353 * 30011 % 998244353<998244353:=Int.emod_lt_of_pos _ (by decide);refine⟨_,rfl,_,_,rfl,rfl,_,rfl,?_⟩;refine jP (λ h=>?_) (λ h=>?_)
  ·refine⟨_,rfl,_,_,rfl,rfl,.inl ⟨by omega,by omega⟩,_,rfl,.inl ⟨_,_,rfl,rfl,_,rfl,_,_,rfl,rfl,hn,?_⟩⟩;exact k _ _ (Int.emod_nonneg _ (by omega)) (Int.emod_lt_of_pos _ hn) same λ q _=>rfl
  ·refine⟨_,rfl,_,_,rfl,rfl,⟨by decide,by decide⟩,_,rfl,_,_,rfl,rfl,hn,?_⟩;exact k _ _ (Int.emod_nonneg _ (by omega)) (Int.emod_lt_of_pos _ hn) same λ q _=>rfl
theorem l9(hm:M p=some (.lst (zH a b c ns)))(ha:0<=a)(hb:0<=b)(hb2:b<2147483647)(hc:0<=c)(hcell:0<=cell)
  (k:∀ a' b' c' M',0<=a'->0<=b'->b'<2147483647->0<=c'->M' p=some (.lst (zH a' b' c' ns))->(∀ q,q≠p->M' q=M q)->D.nx [some (.m p),some (.d (.int n)),some (.d (.int cell)),none,none,none] M') :
  (bp (zk (ag 0) (dC (.d (.int 2))) (dC (.d (.int 1))) (λ i j=>i+j)) <|
   bp (dIf (aJ (dOp agN (ag 2) (dC (.d (.int 1000000000000000000)))))
    (bW (ag 2) (zz (ag 0) (dC (.d (.int 0)))))
    (cF)) <|
   bW (dOp er (dOp cX (dOp cX (dOp hJ (dOp cj (ag 0) (dC (.d (.int 1)))) (dC (.d (.int 48271)))) (dOp er (ag 2) (dC (.d (.int 2147483647))))) (dOp hJ (dC (.d (.int 7919))) (dOp cj (ag 0) (dC (.d (.int 2)))))) (dC (.d (.int 2147483647)))) (zz (ag 0) (dC (.d (.int 1)))))
   D [some (.m p),some (.d (.int n)),some (.d (.int cell)),none,none,none] M:=by
 refine⟨_,rfl,_,_,_,_,_,rfl,rfl,hm,rfl,rfl,_,rfl,rfl,?_⟩;have m1:bH M p (.lst (zH a b (c+1) ns)) p=some (.lst (zH a b (c+1) ns)):=ak;have f1:∀ q,q≠p->bH M p (.lst (zH a b (c+1) ns)) q=M q:=λ q hq=>aI hq;show(bp _ _) D _ (bH M p (.lst (zH a b (c+1) ns)));generalize bH M p (.lst (zH a b (c+1) ns))=M1 at m1 f1;have fin:∀ (a':Int) (M2:MH),0<=a'->M2 p=some (.lst (zH a' b (c+1) ns))->(∀ q,q≠p->M2 q=M q) ->
   bW (dOp er (dOp cX (dOp cX (dOp hJ (dOp cj (ag 0) (dC (.d (.int 1)))) (dC (.d (.int 48271)))) (dOp er (ag 2) (dC (.d (.int 2147483647))))) (dOp hJ (dC (.d (.int 7919))) (dOp cj (ag 0) (dC (.d (.int 2)))))) (dC (.d (.int 2147483647)))) (zz (ag 0) (dC (.d (.int 1)))) D [some (.m p),some (.d (.int n)),some (.d (.int cell)),none,none,none] M2:=by
  intro a' M2 ha' m2 f2;have i1:ixW M2 (.m p) 1=some (.d (.int b)):=ack m2 rfl;have i2:ixW M2 (.m p) 2=some (.d (.int (c+1))):=ack m2 rfl;refine⟨_,rfl,_,_,rfl,i1,rfl,_,_,rfl,rfl,.inl ⟨by omega,by omega⟩,_,rfl,_,_,rfl,rfl,(by decide:(0:Int)<2147483647),.inl ?_⟩;refine⟨_,_,rfl,rfl,_,rfl,_,_,rfl,i2,rfl,_,_,rfl,rfl,.inl ⟨by decide,by decide⟩,.inl ?_⟩;refine⟨_,_,rfl,rfl,_,_,rfl,rfl,(by decide:(0:Int)<2147483647),_,rfl,_,_,_,_,rfl,rfl,m2,rfl,?_⟩;exact k a' _ (c+1) _ ha' (Int.emod_nonneg _ (by decide)) (Int.emod_lt_of_pos _ (by decide)) (by omega) ak λ q hq=>(aI hq).trans (f2 q hq)
 refine⟨_,rfl,_,_,rfl,rfl,_,rfl,?_⟩;refine jP (λ h=>?_) (λ h=>?_)
 ·refine⟨_,rfl,_,rfl,_,_,_,_,rfl,rfl,m1,rfl,?_⟩;exact fin cell _ hcell ak λ q hq=>(aI hq).trans (f1 q hq)
 ·exact fin a M1 ha m1 f1
theorem rT:∀ ws M Q,az ws M Q->sH {nx:=λ _ M'=>Q (.d .none) M',rt:=Q} (aY sP ws) M:=by
 rintro ws M Q ⟨p,n,rfl,⟨a,b,c,ns,hm,ha,hb,hb2,hc,hns⟩,hn,hn2,k⟩;have i0:ixW M (.m p) 0=some (.d (.int a)):=ack hm rfl;have i2:ixW M (.m p) 2=some (.d (.int c)):=ack hm rfl;have i3:ixW M (.m p) 3=some (.d (.list (ns.map PyData.int))):=ack hm rfl;refine⟨_,rfl,_,_,rfl,i0,rfl,_,_,rfl,rfl,rfl,_,rfl,?_⟩;refine jP (λ h=>?_) (λ h=>?_)
 ·refine⟨_,rfl,_,_,rfl,i2,rfl,_,rfl,_,_,rfl,i3,rfl,_,_,rfl,rfl,rfl,_,_,rfl,rfl,_,rfl,?_⟩;refine jP (λ h=>?_) (λ h=>?_)
  ·have hlt:c<((ns.map PyData.int).length:Nat):=of_decide_eq_true h;have hlt':c.toNat<ns.length:=by rw[List.length_map] at hlt;omega
   have ic:ixW M (.d (.list (ns.map PyData.int))) c=some (.d (.int (ns[c.toNat]'hlt'))):=by simp only[ixW];rw[abJ hc hlt];simp
   refine⟨_,rfl,_,_,rfl,i3,rfl,_,rfl,_,_,rfl,i2,rfl,_,_,rfl,ic,rfl,?_⟩;refine l9 (cell:=ns[c.toNat]'hlt') hm ha hb hb2 hc (hns _ (List.getElem_mem _)) λ a' b' c' M' h1 h2 h3 h4 h5 h6=>?_;exact i6 (x:=some (.d (.int (ns[c.toNat]'hlt')))) h5 h1 h2 h3 h4 hns hn hn2 (λ r M'' r0 r1 bg fr=>k r M'' r0 r1 bg λ q hq=>(fr q hq).trans (h6 q hq)) rfl
  ·refine l9 (cell:=0) hm ha hb hb2 hc (Int.le_refl 0) λ a' b' c' M' h1 h2 h3 h4 h5 h6=>?_;exact i6 (x:=some (.d (.int 0))) h5 h1 h2 h3 h4 hns hn hn2 (λ r M'' r0 r1 bg fr=>k r M'' r0 r1 bg λ q hq=>(fr q hq).trans (h6 q hq)) rfl
 ·exact i6 (x:=none) hm ha hb hb2 hc hns hn hn2 k rfl
theorem vI{ws:List W}{i:Nat}(h:ws[i]? =some w):(ws.take (i+1)).filterMap f=(ws.take i).filterMap f++(f w).toList:=by rw[List.take_add_one,h,List.filterMap_append];cases e:f w<;>simp[e]
theorem aet{tt:TTd}{te:TD}{fr:List Nat}{τ:DS}{M:MH}{Q:List PyData->MH->Prop}{ws:List W}(f:W->Option PyData)(hl:ws.length<=sizeLine)
  (step:∀ w∈ws,∀ P':Option PyData->Prop,P' (f w)->tt (some w::fr.map λ j=>(τ[j]?).getD none) M λ b M3=>if b=true then te (some w::fr.map λ j=>(τ[j]?).getD none) M3 λ y M4=>∃ d,y=.d d/\M4=M/\P' (some d) else M3=M/\P' none)
  (q:Q (ws.filterMap f) M):∃ P:Nat->List PyData->DS->MH->Prop,P 0 [] (abX 1 fr τ) M /\
   (∀ i w acc τ M,ws[i]? =some w->P i acc τ M->acc.length<sizeLine/\gN 0 w τ M λ τ2 M2=>tt τ2 M2 λ b M3=>if b=true then te τ2 M3 λ y M4=>∃ d,y=.d d/\P (i+1) (acc++[d]) τ2 M4 else P (i+1) acc τ2 M3) /\
   ∀ acc τ M,P ws.length acc τ M->Q acc M:=by
 let Pk:Nat->List PyData->DS->Prop:=λ i acc τ'=>i<=ws.length/\acc=(ws.take i).filterMap f/\∃ x,τ'=x::fr.map λ j=>(τ[j]?).getD none
 refine⟨λ i acc τ' M'=>M'=M/\Pk i acc τ',⟨rfl,Nat.zero_le _,rfl,none,rfl⟩,λ i w acc τ' M' hw hp=>?_,λ acc τ' M' hp=>?_⟩
 ·obtain⟨rfl,hi,rfl,x,rfl⟩:=hp;have hlt:i<ws.length:=(List.getElem?_eq_some_iff.mp hw).1;refine⟨?_,step w (List.mem_of_getElem? hw) (λ o=>match o with
   | some d=>Pk (i+1) ((ws.take i).filterMap f++[d]) (some w::fr.map λ j=>(τ[j]?).getD none)
   | none=>Pk (i+1) ((ws.take i).filterMap f) (some w::fr.map λ j=>(τ[j]?).getD none)) ?_⟩
  ·have h1:=List.length_filterMap_le f (ws.take i);rw[List.length_take] at h1;omega
  ·cases e:f w with
   | some d=>exact⟨hlt,by rw[vI hw,e];rfl,_,rfl⟩
   | none=>exact⟨hlt,by rw[vI hw,e];simp,_,rfl⟩
 ·obtain⟨rfl,hi,rfl,x,rfl⟩:=hp;rw[List.take_of_length_le (Nat.le_refl _)];exact q
theorem afl{α:Type}(g:α->W)(f:W->Option PyData)(h:α->PyData)(e:∀ a,f (g a)=some (h a))(l:List α):(l.map g).filterMap f=l.map h:=by
 induction l with
 | nil=>rfl
 | cons a l ih=>rw[List.map_cons,List.filterMap_cons,e,ih];rfl
theorem ur:∀ ws M Q,eE ws M Q->xj {nx:=λ _ M'=>Q (.d .none) M',rt:=Q} (aY xX ws) M:=by
 rintro ws M Q ⟨ns,rfl,hl,k⟩;refine⟨_,rfl,_,rfl,_,rfl,rfl,_,rfl,?_⟩;have ec:cutD (ns.map PyData.int) none (some 63)=(cutD ns none (some 63)).map PyData.int:=by simp only[cutD,List.length_map,List.map_take,List.map_drop]
 have hlen:(cutD ns none (some 63)).length<=ns.length:=by simp only[cutD,List.length_take,List.length_drop];omega
 have h1000:(1000:Nat)<=sizeLine:=by rw[sizeLine_eq];decide
 dsimp only;refine aet (λ w=>match w with
  | .d (.int n)=>some (.int (if n<0 then -n else n))
  | _=>none) ?hl (λ w hw P' hp=>?_) ?_
 case hl=>rw[List.length_map,ec,List.length_map];omega
 ·rw[ec,List.map_map] at hw;obtain⟨n,_,rfl⟩:=List.mem_map.mp hw;exact⟨_,rfl,_,rfl,_,rfl,rfl,hp⟩
 ·have e2:(List.map W.d (cutD (ns.map PyData.int) none (some 63))).filterMap (λ w=>match w with
    | .d (.int n)=>some (PyData.int (if n<0 then -n else n))
    | _=>none)=((cutD ns none (some 63)).map λ n=>if n<0 then -n else n).map PyData.int:=by
   rw[ec,List.map_map,afl (W.d ∘ PyData.int) _ (λ n=>PyData.int (if n<0 then -n else n)) (λ n=>rfl),List.map_map];rfl
  rw[e2];refine⟨by simp[sizeLine_eq],λ p hp=>k p _ hp (λ q hq=>aI hq) ⟨0,1234567891,0,_,ak,Int.le_refl 0,by decide,by decide,Int.le_refl 0,λ n hn=>?_⟩⟩;obtain⟨m,_,rfl⟩:=List.mem_map.mp hn
  split<;>omega
def m8(z:Str):Bool:=z.cps.all (·<128)
theorem s16:(1000000:Nat)<=sizeLine:=by rw[sizeLine_eq];decide
def Asc(z:Str):Prop:=∀ c∈z.cps.toList,c<128
theorem str_len(z:Str):z.cps.toList.length=z.length:=by simp[Str.length]
theorem tO{l:List Str}{n:Nat}(h:∀ y∈l,y.length<=n)(k:Nat):(l.map λ p=>k+p.length).sum<=l.length * (k+n):=by
 induction l with
 | nil=>simp
 | cons y l ih =>
  have h1:=h y List.mem_cons_self;have h2:=ih λ z hz=>h z (List.mem_cons_of_mem _ hz);simp only[List.map_cons,List.sum_cons,List.length_cons,Nat.add_mul,Nat.one_mul];omega
theorem adq(h:z.cps.all (·<128)=true):Asc z:=by
 intro c hc;have:=Array.all_eq_true_iff_forall_mem.mp h c (by simpa using hc)
 simpa using this
theorem few(h:n<=1000):n<=sizeLine:=by have:=s16;omega
theorem Inv.swap(I:Inv X pins σ H s)(h:H a=some u)(n1:∀ xs,u ≠ .tup xs)(n2:∀ x,u ≠ .own x)(b1:∀ xs,X.H₀ a≠some (.tup xs))(b2:∀ o v,X.H₀ a≠some (.frz o v))(b3:∀ ps,X.H₀ a≠some (.tbl ps))
  (new:c4 X.prog X.w (upd H a u') s.heap a u'):Inv X pins σ (upd H a u') s:=by
 have nn:∀ b,H b=none->b≠a:=λ b e z=>by rw[z,h] at e;cases e
 refine⟨I.ok,I.os,I.bare,⟨I.base.keep,I.base.slot,λ b ob q n x=>?_,I.base.there,λ b xs q=>?_,λ b ob v q=>?_,λ b ps q=>?_⟩,I.loc,I.cell,?_,λ x c q=>?_,λ p hp=>?_,λ b v q=>?_,I.len⟩
 ·have:=I.base.free b ob q n x;rw[aj (nn b this)];exact this
 ·rw[aj (λ z:b=a=>b1 xs (by rw[<- z];exact q))];exact I.base.tups b xs q
 ·rw[aj (λ z:b=a=>b2 ob v (by rw[<- z];exact q))];exact I.base.frzs b ob v q
 ·rw[aj (λ z:b=a=>b3 ps (by rw[<- z];exact q))];exact I.base.tbls b ps q
 ·rw[aj (nn _ I.free)];exact I.free
 ·have:=I.freeC x c q;rw[aj (nn c this)];exact this
 ·obtain⟨p1,p2,p3⟩:=I.pin p hp;exact⟨p1,by rw[aj (nn _ p2)];exact p2,p3⟩
 ·by_cases hb:b=a
  ·subst hb;rw[aq] at q;cases q;exact new
  ·rw[aj hb] at q;refine(I.hok b v q).ua (λ _ _ _ q=>q) (λ c r=>?_) λ c xs r=>?_
   ·rw[aj (λ z=>by rw[z,h] at r;exact n2 _ (Option.some.inj r))];exact r
   ·rw[aj (λ z=>by rw[z,h] at r;exact n1 _ (Option.some.inj r))];exact r
theorem iT(I:Inv X pins σ H s)(h:H a=some (.dK l)):(∀ xs,X.H₀ a≠some (.tup xs))/\(∀ o v,X.H₀ a≠some (.frz o v))/\∀ ps,X.H₀ a≠some (.tbl ps):=by
 refine⟨λ xs e=>?_,λ o v e=>?_,λ ps e=>?_⟩
 ·have:=I.base.tups a xs e;rw[h] at this;cases this
 ·have:=I.base.frzs a o v e;rw[h] at this;cases this
 ·obtain⟨m,this⟩:=I.base.tbls a ps e;rw[h] at this;cases this
theorem Inv.xG(I:Inv X pins σ H s)(h:H a=some (.dK l)):∃ o,Inv X pins σ (upd H a (.frz o (.frz o (.dK l)))) s:=by have f:Fz (.dK l):=trivial;obtain⟨o,ho⟩:=(I.hok a _ h).obj f;obtain⟨b1,b2,b3⟩:=iT I h;exact⟨o,Inv.swap I h (λ _ z=>nomatch z) (λ _ z=>nomatch z) b1 b2 b3 ⟨ho,ho,(I.hok a _ h).afR f⟩⟩
theorem Inv.again(I0:Inv X pins σ0 H0 s0)(h0:H0 a=some (.dK l))(I:Inv X pins σ H s)(h:H a=some (.frz o (.frz o (.dK l)))):Inv X pins σ (upd H a (.dK l)) s:=by have f:Fz (.dK l):=trivial;obtain⟨b1,b2,b3⟩:=iT I0 h0;exact Inv.swap I h (λ _ z=>nomatch z) (λ _ z=>nomatch z) b1 b2 b3 ((I.hok a _ h).2.2.afR f)
def agv(t:TE):TE:=λ σ H Q=>∃ a l,H a=some (.dK l)/\∀ o,t σ (upd H a (.frz o (.frz o (.dK l)))) λ v H'=>H' a=some (.frz o (.frz o (.dK l)))/\Q v (upd H' a (.dK l))
theorem aaz(h:PE X e t):PE X e (agv t):=by intro pins s σ H Q I ⟨a,l,ha,q⟩;obtain⟨o,I1⟩:=Inv.xG I ha;exact thn (h pins s σ _ _ I1 (q o)) λ v s1 ⟨x,H',I2,r,e,q2⟩=>⟨x,_,Inv.again I ha I2 e,r,q2⟩
section
variable {K:FG}{H:Hp}{a:Addr}{o:Obj}{l:List (Key×V)}
theorem Kp.back(h:H a=some (.frz o (.frz o (.dK l)))):(∀ b xs,H b=some (.tup xs)->upd H a (.dK l) b=some (.tup xs))/\(∀ b ob ys,H b=some (.frz ob (.lst ys))->upd H a (.dK l) b=some (.frz ob (.lst ys)))/\∀ b ob ys,H b=some (.frz ob (.dK ys))->upd H a (.dK l) b=some (.frz ob (.dK ys)):=by
 refine⟨λ b xs e=>?_,λ b ob ys e=>?_,λ b ob ys e=>?_⟩<;>
 ·rw[aj (λ z=>by rw[z,h] at e;cases e)];exact e
theorem SqT.back(h:H a=some (.frz o (.frz o (.dK l))))(r:SqT K H b vs):SqT K (upd H a (.dK l)) b vs:=by
 rcases r with (r | ⟨ob,r⟩) | r
 ·exact .inl (.inl ((Kp.back h).1 _ _ r))
 ·refine .inl (.inr ⟨ob,?_⟩);rw[aj (λ z=>by rw[z,h] at r;cases r)];exact r
 ·exact .inr r
theorem SqF.back(h:H a=some (.frz o (.frz o (.dK l))))(r:SqF K H b vs):SqF K (upd H a (.dK l)) b vs:=by
 rcases r with ⟨ob,r⟩ | r
 ·exact .inl ⟨ob,(Kp.back h).2.1 _ _ _ r⟩
 ·exact .inr r
mutual
theorem au.back(h:H a=some (.frz o (.frz o (.dK l)))):∀ {d:PyData} {v:V},au K H d v->au K (upd H a (.dK l)) d v
 | .none,v,r=>by simp only[au] at r ⊢;exact r
 | .bool b,v,r=>by simp only[au] at r ⊢;exact r
 | .int i,v,r=>by simp only[au] at r ⊢;exact r
 | .str x,v,r=>by simp only[au] at r ⊢;exact r
 | .list ds,v,r=>by simp only[au] at r ⊢;obtain⟨b,vs,e,q,r⟩:=r;exact⟨b,vs,e,SqF.back h q,aO.back h r⟩
 | .tuple ds,v,r=>by simp only[au] at r ⊢;obtain⟨b,vs,e,q,r⟩:=r;exact⟨b,vs,e,SqT.back h q,aO.back h r⟩
 | .dict kvs,v,r=>by simp only[au] at r ⊢;obtain⟨b,ob,m,e,q,r⟩:=r;exact⟨b,ob,m,e,(Kp.back h).2.2 _ _ _ q,jh.back h r⟩
theorem aO.back(h:H a=some (.frz o (.frz o (.dK l)))):∀ {ds:List PyData} {vs:List V},aO K H ds vs->aO K (upd H a (.dK l)) ds vs
 | [],vs,r=>by simp only[aO] at r ⊢;exact r
 | d::ds,vs,r=>by simp only[aO] at r ⊢;obtain⟨v,q,e,h1,h2⟩:=r;exact⟨v,q,e,au.back h h1,aO.back h h2⟩
theorem jh.back(h:H a=some (.frz o (.frz o (.dK l)))):∀ {ds:List (PyData×PyData)} {m:List (Key×V)},jh K H ds m->jh K (upd H a (.dK l)) ds m
 | [],m,r=>by simp only[jh] at r ⊢;exact r
 | (key,d)::ds,m,r=>by simp only[jh] at r ⊢;obtain⟨k',v,q,e,ek,h1,h2⟩:=r;exact⟨k',v,q,e,ek,au.back h h1,jh.back h h2⟩
end
theorem ay.back(h:H a=some (.frz o (.frz o (.dK l)))):∀ {w:W} {v:V},ay K H w v->ay K (upd H a (.dK l)) w v
 | .d _,_,r=>au.back h r
 | .m _,_,r=>r
 | .t _,_,r=>r
theorem c5.back(h:H a=some (.frz o (.frz o (.dK l))))(m:c5 K H M)(e:M a=some (.fdic kvs)):c5 K (upd H a (.dK l)) (bH M a (.dic kvs)):=λ b mo q=>by
 by_cases hb:b=a
 ·subst hb;rw[ak] at q;cases q;obtain⟨o',l',e',pr⟩:=m _ _ e;rw[h] at e';cases e';exact⟨l,aq,Paired.gu pr λ p q z=>⟨z.1,ay.back h z.2⟩⟩
 ·rw[aI hb] at q;have r:=m b mo q;cases mo with
  | lst ws=>obtain⟨vs,e,r⟩:=r;exact⟨vs,by rw[aj hb];exact e,Paired.gu r λ _ _ z=>ay.back h z⟩
  | dic kvs=>obtain⟨l,e,r⟩:=r;exact⟨l,by rw[aj hb];exact e,Paired.gu r λ p q z=>⟨z.1,ay.back h z.2⟩⟩
  | dct kvs=>obtain⟨l,e,r⟩:=r;exact⟨l,by rw[aj hb];exact e,Paired.gu r λ p q z=>⟨z.1,ay.back h z.2⟩⟩
  | fdic kvs=>obtain⟨o,l,e,r⟩:=r;exact⟨o,l,by rw[aj hb];exact e,Paired.gu r λ p q z=>⟨z.1,ay.back h z.2⟩⟩
  | ins C fs=>obtain⟨dx,l,e,r⟩:=r;exact⟨dx,l,by rw[aj hb];exact e,Paired.gu r λ p q z=>⟨z.1,ay.back h z.2⟩⟩
  | tup ws=>obtain⟨vs,e,r⟩:=r;exact⟨vs,by rw[aj hb];exact e,Paired.gu r λ _ _ z=>ay.back h z⟩
  | flst ws=>obtain⟨o,vs,e,r⟩:=r;exact⟨o,vs,by rw[aj hb];exact e,Paired.gu r λ _ _ z=>ay.back h z⟩
  | exc C fs =>
   obtain⟨φ,dct,e,p,r⟩:=r;refine⟨φ,dct,by rw[aj hb];exact e,p,?_⟩;rcases r with r | ⟨dx,o',l',e1,e2,r⟩
   ·exact .inl r
   ·exact .inr ⟨dx,o',l',e1,by rw[aj (λ z=>by rw[z,h] at e2;cases e2)];exact e2,Paired.gu r λ p q z=>⟨z.1,ay.back h z.2⟩⟩
  | code q pos =>
   obtain⟨ps,e,ht,hc⟩:=r;refine⟨ps,by rw[aj hb];exact e,ht,?_⟩;rcases hc with hc | ⟨c,o',vs,t,e1,e2,e3⟩
   ·exact .inl hc
   ·exact .inr ⟨c,o',vs,t,e1,by rw[aj (λ z=>by rw[z,h] at e2;cases e2)];exact e2,e3⟩
end
def tw(t:TD)(τ:DS)(M:MH)(Q:QD):Prop:=∃ a kvs,M a=some (.dic kvs)/\t τ (bH M a (.fdic kvs)) λ v M'=>M' a=some (.fdic kvs)/\Q v (bH M' a (.dic kvs))
theorem aat(h:PD X e t):PD X e (tw t):=gp (aaz h) λ σ H Q hq72=>by
 obtain⟨τ,M,Qd,A,⟨a,kvs,hm,q⟩,k⟩:=hq72;obtain⟨l,e,pr⟩:=A.mem _ _ hm;refine⟨a,l,e,λ o=>?_⟩;have kp:Kp H (upd H a (.frz o (.frz o (.dK l)))):=Kp.set e (λ _ z=>nomatch z) (λ _ _ z=>nomatch z);have m1:c5 X.K (upd H a (.frz o (.frz o (.dK l)))) (bH M a (.fdic kvs)):=A.mem.put (mo:=.fdic kvs) kp ⟨o,l,aq,Paired.gu pr λ p q z=>⟨z.1,z.2.keep kp⟩⟩;refine⟨τ,_,_,A.go kp m1,q,λ v H' w M' kp' r' m' hq73=>?_⟩;obtain⟨h1,q1⟩:=hq73;have e':=kp'.frz a o _ aq;refine⟨e',k _ _ w _ ⟨λ b xs z=>?_,λ b ob u z=>?_⟩ (ay.back e' r') (c5.back e' m' h1) q1⟩
 ·have hb:b≠a:=λ y=>by rw[y,e] at z;cases z
  rw[aj hb];exact kp'.tup b xs (by rw[aj hb];exact z)
 ·have hb:b≠a:=λ y=>by rw[y,e] at z;cases z
  rw[aj hb];exact kp'.frz b ob u (by rw[aj hb];exact z)
def kh(_:Ed)(_:DS)(_:MH):Prop:=False
end D
namespace D
open L2
theorem Inv.afd{D:Addr}{ys:List V}{us:List Value}{n:Nat}(I:Inv X pins σ H s)(e:s.heap.get? D=some {cls:=.type "tuple",data:=.seq us.toArray n})(hn:H D=none)(hv:Vals ys us)(hz:ys.length<=sizeLine)
  (h0:D∈X.ex\/X.s₀.heap.objs.size<=D)(hL:D≠X.env.locals)(hc:∀ x c,X.env.cells.lookup x=some c->c≠D)(hp:∀ p∈X.pn++pins,p.1≠D):Inv X pins σ (upd H D (.tup ys)) s:=by
 have ne:∀ b u,H b=some u->b≠D:=λ b u q=>aH q hn;refine I.step (h':=s.heap) (g':=s.gens) (d':=s.drawn) (t':=s.toks) (ch:=[D]) (λ b hb=>?_) (λ b o _ _ _ q _=>q) (λ b o _ _ _ q _=>⟨o.slots,q⟩) (λ b o hb q n=>?_) (λ b o _ q=>⟨o,q⟩)
  (λ b xs q=>by rw[aj (ne b _ q)];exact q) (λ b o u q=>by rw[aj (ne b _ q)];exact q) (λ b ps q=>⟨#[],by rw[aj (ne b _ q),q];simp⟩) (λ m hm=>hm) (λ b u q=>?_) I.bare
 ·have e:b=D:=by simpa using hb
  subst e;exact⟨h0,hL,hc,hp⟩
 ·rw[aj (λ z=>hb (by simp[z]))];exact n
 ·by_cases hb:b=D
  ·subst hb;rw[aq] at q;cases q;exact⟨hz,us,hv,⟨_,e,rfl,rfl,n,rfl⟩⟩
  ·rw[aj hb] at q;exact(I.hok b u q).ua (λ _ _ _ q=>q) (λ c r=>by rw[aj (ne c _ r)];exact r) λ c xs r=>by rw[aj (ne c _ r)];exact r
abbrev sV(o:Obj)(l:List (Key×V)):HO:=.frz o (.frz o (.dK l))
theorem nV{P:Program}{w:World}{H:Hp}{h:Heap}{a:Addr}{o:Obj}{l:List (Key×V)}(ok:HOk P w H h)(e:H a=some (sV o l)):(a==sysModules)=false/\∃ vs es ep,KV l vs/\o.data=.dict es ep/\h.DictAt (aR P w) a vs ep:=by obtain⟨ho,_,z,hd,vs,rel,o',es,ep,h1,h2,h3,h4⟩:=ok a _ e;rw[ho] at h1;cases h1;exact⟨hd,vs,es,ep,rel,h3,o,es,ho,h2,h3,h4⟩
def Itk(a:Addr)(o:Obj)(l:List (Key×V)):It:=
 ⟨λ i H=>H a=some (sV o l)/\i<l.length,λ i H x H'=>H'=H/\∃ kv,l[i]? =some kv/\x=kV kv.1,λ i H=>H a=some (sV o l)/\l.length<=i⟩
theorem ahx{κ:Type}[DecidableEq κ]{l:List (κ×V)}{vs:List (κ×Value)}(r:KV l vs){i:Nat}(h:i<l.length):∃ kv k v,l[i]? =some kv/\vs[i]? =some (k,v)/\kv.1=k/\RelV kv.2 v:=by
 unfold KV at r
 induction r generalizing i with
 | nil=>simp at h
 | @cons p q ps qs hp t ih =>
  cases i with
  | zero=>exact⟨p,q.1,q.2,rfl,rfl,hp.1,hp.2⟩
  | succ i =>
   obtain⟨kv,k,v,e1,e2,e3,e4⟩:=ih (i:=i) (by simpa using h);exact⟨kv,k,v,by simpa using e1,by simpa using e2,e3,e4⟩
theorem aeR{P:Program}{w:World}{k:Key}{u:Value}(h:(aR P w).is k u=true):RelV (kV k) u:=by
 cases k with
 | inl i =>
  have h':Value.isInt i u=true:=h;unfold Value.isInt at h'
  split at h'
  ·rename_i j t
   have:j=i:=by simpa using h'
   subst this;exact⟨t,rfl⟩
  ·cases h'
 | inr x =>
  have h':Value.isStrOf x u=true:=h;unfold Value.isStrOf at h'
  split at h'
  ·rename_i j t
   have:j=x:=by simpa using h'
   subst this;exact⟨t,rfl⟩
  ·cases h'
theorem uu{P:Program}{w:World}{K:FG}{tg:Expr}(a it:Addr)(o:Obj)(l:List (Key×V))(es:Array DictEntry)(ep:Nat)(ho:o.data=.dict es ep) :
  Turn P w K tg (Itk a o l) [it] it (λ i h=>h.IsKeyIter it a i l.length ep) where
 mem:=by simp
 obj:=λ i h st b hb=>by
  have e:b=it:=by simpa using hb
  subst e;obtain⟨o,e,c,d⟩:=st;exact⟨o,e,λ v z=>by rw[d] at z;cases z⟩
 keep:=λ i h h' ⟨o,e,c,d⟩ k=>⟨o,k it (by simp) _ e,c,d⟩
 item:=by intro X hP hw hK hc i pins s σ H E I hf st ⟨hg,hi⟩;subst hP hw hK;obtain⟨f0,f1,f2,f3,f4,f5⟩:=hf it (by simp);obtain⟨hd,vs,es',ep',rel,ho',da⟩:=nV I.hok hg;rw[ho] at ho';cases ho';obtain⟨kv,k,v,e1,e2,e3,e4⟩:=ahx rel hi;have hl:l.length=vs.length:=rel.length;rw[hl] at st;refine wpAny_pyNext_dict_item st da e2 λ key h' hk st' sb=>?_;have I1:Inv X pins σ H {s with heap:=h'}:=I.turned (t':=s.toks) (λ b o hb e=>(sb.2 b hb).trans e) f0 f1 f3 f4 f5;obtain⟨ob,e,c,d⟩:=id st';exact⟨_,rfl,qi (s:={s with heap:=h'}) e c d (by decide) ⟨kV kv.1,H,I1,by rw[e3];exact aeR hk,⟨rfl,kv,e1,rfl⟩,by rw[hl];exact st',λ b hb=>(hf b hb).1⟩⟩
 done:=by intro X hP hw hK hc i pins s σ H E I hf st ⟨hg,hi⟩;subst hP hw hK;obtain⟨f0,f1,f2,f3,f4,f5⟩:=hf it (by simp);obtain⟨hd,vs,es',ep',rel,ho',da⟩:=nV I.hok hg;rw[ho] at ho';cases ho';have hl:l.length=vs.length:=rel.length;rw[hl] at st hi;exact wpAny_pyNext_dict_end (I.ok.hd hc) st da (List.getElem?_eq_none hi) λ h' eb=>⟨rfl,I.turned (t':=s.toks) (λ b o hb e=>eb b o hb e) f0 f1 f3 f4 f5⟩
 self:=λ _ _ _ _ _ st h=>wpAny_pyIter_keyiter st h
def af7(td:TE):TI:=λ σ H R=>td σ H λ x H1=>∃ a o l,x=.ref a/\H1 a=some (sV o l)/\R (Itk a o l) H1
theorem sI(ho:PE X o td):PI X tg o (af7 td):=by
 intro pins s σ H R I h;refine thn (ho pins s σ H _ I h) λ v s1 hq74=>?_;obtain⟨x,H1,I1,r1,a,ob,l,ex,hg,q⟩:=hq74;subst ex;cases r1;obtain⟨hd,vs,es,ep,rel,hdat,da⟩:=nV I1.hok hg;refine wpAny_pyIter_dict hd da ?_;refine⟨_,[_],_,_,H1,rfl,I1.kept (t':=s1.toks) λ b o e=>Heap.get?_push_of_some _ e,uu a _ ob l es ep hdat,⟨_,Heap.get?_push_size _ rfl,rfl,?_⟩,λ b hb=>?_,q⟩
 ·rw[rel.length];rfl
 ·rw[List.mem_singleton] at hb;rw[hb];exact I1.n4 (Nat.le_refl _) (I1.hok.fresh (Nat.le_refl _))
section
variable {X:Cx}{K:FG}{tg o:Expr}{apos cpos:Pos}{td:TD}
def f9(kds:List (Key×PyData)):List W:=kds.map λ p=>kW p.1
def aS(kds:List (Key×PyData)):List (Key×W):=kds.map λ p=>(p.1,.d p.2)
theorem ab1{H:Hp}:∀ {kds:List (Key×PyData)} {l:List (Key×V)},Paired (λ(p:Key×W) (q:Key×V)=>p.1=q.1/\ay K H p.2 q.2) (aS kds) l->l.length=kds.length/\∀ (i:Nat) kv,l[i]? =some kv->∃ p,kds[i]? =some p/\p.1=kv.1/\au K H p.2 kv.2
 | [],l,h=>by
  cases h;exact⟨rfl,λ i kv e=>by simp at e⟩
 | p::kds,l,h=>by
  cases h with
  | cons r t =>
   obtain⟨h1,h2⟩:=ab1 t;refine⟨by simp[h1],λ i kv e=>?_⟩;cases i with
   | zero =>
    simp at e;subst e;exact⟨p,rfl,r.1,r.2⟩
   | succ i =>
    obtain⟨p',e1,e2⟩:=h2 i kv (by simpa using e);exact⟨p',by simpa using e1,e2⟩
def lG(td:TD)(τ:DS)(M:MH)(R:List W->MH->Prop):Prop:=td τ M λ w M1=>∃ a kds,w=.m a/\M1 a=some (.fdic (aS kds))/\R (f9 kds) M1
theorem vQ(ho:PD X o td):PId X tg o (lG td):=abi (sI ho) λ σ H R hq75=>by
 obtain⟨τ,M,Rd,A,h,k⟩:=hq75;refine⟨τ,M,_,A,h,λ v H1 w M1 kp r m hq76=>?_⟩;obtain⟨a,kds,ew,hm,q⟩:=hq76;subst ew;obtain⟨ob,l,e,pr⟩:=m _ _ hm;obtain⟨hlen,hget⟩:=ab1 pr;refine⟨a,ob,l,r,e,k _ H1 _ M1 kp m (λ H2 kp2 i=>?_) q⟩;have hlw:(f9 kds).length=l.length:=by rw[hlen];simp[f9]
 have e2:=kp2.frz a ob _ e;refine⟨λ hi=>⟨e2,by omega⟩,λ hi=>⟨e2,by omega⟩,λ x H' hi hq77=>?_⟩;obtain⟨eH,kv,hkv,ex⟩:=hq77;subst ex eH;obtain⟨p,e3,e4,e5⟩:=hget i kv hkv;refine⟨Kp.refl _,λ M m=>m,kW p.1,by simp[f9,e3],?_⟩;rw[e4];cases kv.1<;>simp[kW,sU,kV,ay,au]
end
theorem pA:∀ {zs:List Str} {its:List Value},StrsAre its zs->Vals (zs.map V.str) its
 | _,_,.nil=>.nil
 | _,_,.cons y t h=>.cons ⟨t,rfl⟩ (pA h)
theorem kT:bootBuiltins "sorted" = some (.builtin "sorted"):=by decide +kernel
section
variable {X:Cx}{K:FG}
theorem pL{H:Hp}:∀ (zs:List Str),bB K H (gD zs) (zs.map V.str)
 | []=>.nil
 | z::zs=>.cons (by simp[ay,au]) (pL zs)
end
section
variable {X:Cx}{K:FG}
theorem dF:d6 X (.builtin "isinstance") (λ xs H Q=>∃ x d T,xs=[x,.ty T]/\t8 X.K H d x/\Ty6 T/\Q (.bl (jw d T)) H):=by
 intro pins s σ H xs us Q I r h;obtain⟨x,d,T,rfl,rd,h6,q⟩:=h;rcases rd with rd | ⟨a,vs,ds,rfl,rfl,ha,ra⟩
 ·exact ve pins s σ H _ us Q I r ⟨x,d,T,rfl,rd,h6,q⟩
 obtain⟨u,w',rfl,rx,ry⟩:=vals2 r;cases (show w'=Value.type T from ry);have e:=yr (K:=X.K) (.list ds) h6;have fin:∀ tk,EP X pins σ Q (.bool (jw (.list ds) T)) {s with toks:=tk}:=λ tk=>⟨.bl _,H,I.tok _,rfl,q⟩;generalize jw (.list ds) T=b at e fin;cases (show u=Value.ref a from rx);obtain⟨its,rv,⟨o,n,e1,e2,e3,e4⟩,hz⟩:=I.list (.inl (.inl ha));exact W.kia_one W.kitx_list I.kIn ⟨_,e1,e2⟩ e (λ z=>nomatch z) fin
def ij(ws:List W)(M:MH)(Q:QD):Prop:=∃ w d T,ws=[w,.t T]/\aag M w d/\Ty6 T/\Q (.d (.bool (jw d T))) M
theorem fQ:eU K (λ xs H Q=>∃ x d T,xs=[x,.ty T]/\t8 K H d x/\Ty6 T/\Q (.bl (jw d T)) H) ij:=by intro vs H ws M Qd Q r m ⟨w,d,T,e,g,h6,q⟩ k;subst e;obtain⟨v,v',e1,r1,r2⟩:=xQ r;simp only[ay] at r2;subst r2;exact⟨v,d,T,e1,g.sound r1 m,h6,k _ H (.d (.bool _)) M (Kp.refl H) (by simp[ay,au]) m q⟩
end
theorem yp(h:Jd (PD X e t)):Jd (PD X e (tw t)):=⟨D.aat (h:=h.h)⟩
theorem gn{st:Stmt}:Jd (PSd X st kh):=⟨λ pins s σ H D I ⟨τ,M,Dd,A,h,_⟩=>h.elim⟩
theorem iU(ho:Jd (PD X o td)):Jd (PId X tg o (lG td)):=⟨D.vQ (ho:=ho.h)⟩
end D
namespace S
open PySem PySem.W PyProof.Rows
def Shape:List Bool->List PyData->Prop
 | [],[]=>True
 | true::bs,d::ds=>(∃ x,d=.str x)/\Shape bs ds
 | false::bs,d::ds=>(∃ i,d=.int i)/\Shape bs ds
 | _,_=>False
def sEq:PyData->PyData->Bool
 | .int x,.int y=>x==y
 | .str x,.str y=>x==y
 | _,_=>false
def sLt:PyData->PyData->Bool
 | .int x,.int y=>decide (x<y)
 | .str x,.str y=>decide (x.cps.toList<y.cps.toList)
 | _,_=>false
def cz:List PyData->List PyData->Bool
 | a::as,b::bs=>if sEq a b=true then cz as bs else sLt a b
 | [],_::_=>true
 | _,_=>false
theorem acU{x y:Str}(h:x.cps.toList=y.cps.toList):x=y:=by
 cases x;cases y;simp only[Str.mk.injEq];exact Array.toList_inj.mp h
theorem fO:∀ (xs:List PyData) {sh:List Bool},Shape sh xs->cz xs xs=false
 | [],_,_=>rfl
 | a::as,true::sh,h=>by obtain⟨⟨x,rfl⟩,h⟩:=h;simp[cz,sEq,fO as h]
 | a::as,false::sh,h=>by obtain⟨⟨x,rfl⟩,h⟩:=h;simp[cz,sEq,fO as h]
 | _::_,[],h=>by cases h
theorem dM(ha:Shape (t::sh) (a::as))(hb:Shape (t::sh) (b::bs)) :
  Shape sh as/\Shape sh bs/\((a=b/\cz (a::as) (b::bs)=cz as bs)\/(a≠b/\sLt a b=true/\sLt b a=false/\cz (a::as) (b::bs)=true)\/(a≠b/\sLt a b=false/\sLt b a=true/\cz (a::as) (b::bs)=false)):=by
 cases t with
 | true =>
  obtain⟨⟨x,rfl⟩,h⟩:=ha;obtain⟨⟨y,rfl⟩,h'⟩:=hb;refine⟨h,h',?_⟩
  by_cases e:x=y
  ·subst e;exact .inl ⟨rfl,by simp[cz,sEq]⟩
  ·have ne:PyData.str x≠PyData.str y:=λ z=>e (by injection z);have e2:sEq (.str x) (.str y)=false:=by simp[sEq,e]
   have hl:cz (.str x::as) (.str y::bs)=sLt (.str x) (.str y):=by simp[cz,e2]
   rw[hl];have nl:x.cps.toList≠y.cps.toList:=λ z=>e (acU z);simp only[sLt]
   by_cases q:x.cps.toList<y.cps.toList
   ·have:¬ y.cps.toList<x.cps.toList:=λ z=>List.lt_irrefl _ (List.lt_trans q z);exact .inr (.inl ⟨ne,by simp[q],by simp[this],by simp[q]⟩)
   ·have:y.cps.toList<x.cps.toList:=by
     apply Classical.byContradiction;intro z;exact nl (List.le_antisymm (List.not_lt.mp z) (List.not_lt.mp q))
    exact .inr (.inr ⟨ne,by simp[q],by simp[this],by simp[q]⟩)
 | false =>
  obtain⟨⟨x,rfl⟩,h⟩:=ha;obtain⟨⟨y,rfl⟩,h'⟩:=hb;refine⟨h,h',?_⟩
  by_cases e:x=y
  ·subst e;exact .inl ⟨rfl,by simp[cz,sEq]⟩
  ·have ne:PyData.int x≠PyData.int y:=λ z=>e (by injection z);have e2:sEq (.int x) (.int y)=false:=by simp[sEq,e]
   have hl:cz (.int x::as) (.int y::bs)=sLt (.int x) (.int y):=by simp[cz,e2]
   rw[hl];simp only[sLt]
   by_cases q:x<y
   ·exact .inr (.inl ⟨ne,by simp[q],by simp;omega,by simp[q]⟩)
   ·exact .inr (.inr ⟨ne,by simp[q],by simp;omega,by simp[q]⟩)
theorem afq(ha:Shape (t::sh) (a::as))(hb:Shape (t::sh) (b::bs))(hc:Shape (t::sh) (c::cs))(h1:sLt a b=true)(h2:sLt b c=true):sLt a c=true:=by
 cases t with
 | true =>
  obtain⟨⟨x,rfl⟩,_⟩:=ha;obtain⟨⟨y,rfl⟩,_⟩:=hb;obtain⟨⟨z,rfl⟩,_⟩:=hc;simp only[sLt,decide_eq_true_eq] at *;exact List.lt_trans h1 h2
 | false =>
  obtain⟨⟨x,rfl⟩,_⟩:=ha;obtain⟨⟨y,rfl⟩,_⟩:=hb;obtain⟨⟨z,rfl⟩,_⟩:=hc;simp only[sLt,decide_eq_true_eq] at *;omega
theorem h9:∀ {sh:List Bool} {xs ys:List PyData},Shape sh xs->Shape sh ys->cz xs ys=true->cz ys xs=false
 | [],[],[],_,_,h=>by simp[cz] at h
 | t::sh,a::as,b::bs,ha,hb,h=>by
  obtain⟨h1,h2,c⟩:=dM ha hb;obtain⟨_,_,c'⟩:=dM hb ha;rcases c with ⟨e,l⟩ | ⟨ne,l1,l2,l⟩ | ⟨ne,l1,l2,l⟩
  ·subst e;rcases c' with ⟨_,l'⟩ | ⟨ne,_⟩ | ⟨ne,_⟩
   ·rw[l'];rw[l] at h;exact h9 h1 h2 h
   ·exact absurd rfl ne
   ·exact absurd rfl ne
  ·rcases c' with ⟨e,_⟩ | ⟨_,l3,_,_⟩ | ⟨_,_,_,l'⟩
   ·exact absurd e.symm ne
   ·rw[l2] at l3;cases l3
   ·exact l'
  ·rw[l] at h;cases h
 | [],a::as,_,h,_,_=>by cases h
 | [],[],b::bs,_,h,_=>by cases h
 | t::sh,[],_,h,_,_=>by cases t<;>cases h
 | t::sh,a::as,[],_,h,_=>by cases t<;>cases h
theorem mD:∀ {sh:List Bool} {xs ys:List PyData},Shape sh xs->Shape sh ys->cz xs ys=false->cz ys xs=false->xs=ys
 | [],[],[],_,_,_,_=>rfl
 | t::sh,a::as,b::bs,ha,hb,h,h'=>by
  obtain⟨h1,h2,c⟩:=dM ha hb;obtain⟨_,_,c'⟩:=dM hb ha;rcases c with ⟨e,l⟩ | ⟨ne,l1,l2,l⟩ | ⟨ne,l1,l2,l⟩
  ·subst e;rcases c' with ⟨_,l'⟩ | ⟨ne,_⟩ | ⟨ne,_⟩
   ·rw[l'] at h';rw[l] at h;rw[mD h1 h2 h h']
   ·exact absurd rfl ne
   ·exact absurd rfl ne
  ·rw[l] at h;cases h
  ·rcases c' with ⟨e,_⟩ | ⟨_,_,_,l'⟩ | ⟨_,l3,_,_⟩
   ·exact absurd e.symm ne
   ·rw[l'] at h';cases h'
   ·rw[l2] at l3;cases l3
 | [],a::as,_,h,_,_,_=>by cases h
 | [],[],b::bs,_,h,_,_=>by cases h
 | t::sh,[],_,h,_,_,_=>by cases t<;>cases h
 | t::sh,a::as,[],_,h,_,_=>by cases t<;>cases h
theorem aa7:∀ {sh:List Bool} {xs ys zs:List PyData},Shape sh xs->Shape sh ys->Shape sh zs->cz xs ys=true->cz ys zs=true->cz xs zs=true
 | [],[],[],[],_,_,_,h,_=>by simp[cz] at h
 | t::sh,a::as,b::bs,c::cs,ha,hb,hc,h,h'=>by
  obtain⟨h1,h2,k1⟩:=dM ha hb;obtain⟨_,h3,k2⟩:=dM hb hc;obtain⟨_,_,k3⟩:=dM ha hc;rcases k1 with ⟨e,l⟩ | ⟨ne,l1,l2,l⟩ | ⟨ne,l1,l2,l⟩
  ·subst e;rcases k2 with ⟨e,m⟩ | ⟨ne,m1,m2,m⟩ | ⟨ne,m1,m2,m⟩
   ·subst e;rcases k3 with ⟨_,n⟩ | ⟨ne,_⟩ | ⟨ne,_⟩
    ·rw[n];rw[l] at h;rw[m] at h';exact aa7 h1 h2 h3 h h'
    ·exact absurd rfl ne
    ·exact absurd rfl ne
   ·rcases k3 with ⟨e,_⟩ | ⟨_,_,_,n⟩ | ⟨_,n1,_,_⟩
    ·exact absurd e ne
    ·exact n
    ·rw[m1] at n1;cases n1
   ·rw[m] at h';cases h'
  ·rcases k2 with ⟨e,m⟩ | ⟨ne',m1,m2,m⟩ | ⟨ne',m1,m2,m⟩
   ·subst e;rcases k3 with ⟨e,_⟩ | ⟨_,_,_,n⟩ | ⟨_,n1,_,_⟩
    ·exact absurd e ne
    ·exact n
    ·rw[l1] at n1;cases n1
   ·have q:=afq ha hb hc l1 m1;rcases k3 with ⟨e,_⟩ | ⟨_,_,_,n⟩ | ⟨_,n1,_,_⟩
    ·subst e;rw[l2] at m1;cases m1
    ·exact n
    ·rw[q] at n1;cases n1
   ·rw[m] at h';cases h'
  ·rw[l] at h;cases h
 | [],a::as,_,_,h,_,_,_,_=>by cases h
 | [],[],b::bs,_,_,h,_,_,_=>by cases h
 | [],[],[],c::cs,_,_,h,_,_=>by cases h
 | t::sh,[],_,_,h,_,_,_,_=>by cases t<;>cases h
 | t::sh,a::as,[],_,_,h,_,_,_=>by cases t<;>cases h
 | t::sh,a::as,b::bs,[],_,_,h,_,_=>by cases t<;>cases h
theorem d5(hx:Shape sh xs)(hy:Shape sh ys)(hz:Shape sh zs)(h:cz ys xs=false)(h':cz zs ys=false):cz zs xs=false:=by
 cases e:cz zs xs with
 | false=>rfl
 | true =>
  cases e2:cz xs ys with
  | true=>have:=aa7 hz hx hy e e2;rw[h'] at this;cases this
  | false =>
   have:=mD hx hy e2 h;subst this;rw[h'] at e;cases e
end S
namespace D
open L2 S
section
variable {K:FG}
end
section
variable {X:Cx}{K:FG}
end
theorem afw(x:c4 P w H h a o):∃ ob,h.get? a=some ob:=by
 induction o with
 | lst xs=>obtain⟨_,_,_,_,e⟩:=x;exact⟨_,e⟩
 | tup xs=>obtain⟨_,_,_,ob,e,_⟩:=x;exact⟨_,e⟩
 | dK kvs=>obtain⟨_,_,_,_,o,_,_,e,_⟩:=x;exact⟨_,e⟩
 | dT kvs=>obtain⟨_,_,_,_,o,_,_,e,_⟩:=x;exact⟨_,e⟩
 | set S n=>obtain⟨o,_,_,_,e,_⟩:=x;exact⟨_,e⟩
 | ins C dx fs=>obtain⟨_,_,_,e,_⟩:=x;exact⟨_,e⟩
 | own y=>obtain⟨_,e⟩:=x;exact⟨_,e⟩
 | xd fs=>obtain⟨_,⟨_,_,_,e,_⟩,_⟩:=x;exact⟨_,e⟩
 | rng lo hi=>obtain⟨_,_,_,e⟩:=x;exact⟨_,e⟩
 | frz ob u ih=>obtain⟨e,_⟩:=x;exact⟨_,e⟩
 | tbl ps=>exact⟨_,show h.get? a=some _ from x⟩
 | met f y=>exact⟨_,show h.get? a=some _ from x⟩
 | ext φ=>obtain⟨_,⟨_,e⟩,_⟩:=x;exact⟨_,e⟩
theorem qx(x:HOk P w H h)(e:h.get? a=none):H a=none:=by
 cases q:H a with
 | none=>rfl
 | some u =>
  obtain⟨ob,z⟩:=afw (x a u q);rw[e] at z;cases z
theorem Inv.af0(I:Inv X pins σ H s)(k:∀ b u,s.heap.get? b=some u->h'.get? b=some u)(hp:s.heap.get? a=none)(new:c4 X.prog X.w (upd H a o) h' a o) :
  Inv X pins σ (upd H a o) {s with heap:=h',toks:=t'}:=by
 have hn:=qx I.hok hp;have ne:∀ b u,s.heap.get? b=some u->b≠a:=λ b u e z=>by rw[z,hp] at e;cases e
 refine I.un ⟨λ b ob e _ _ _=>k b ob e,λ b ob e _ _ _=>⟨ob.slots,k b ob e⟩,λ b ob e n _=>by rw[aj (ne b ob e)];exact n,λ b ob e _=>⟨ob,k b ob e⟩,λ b xs e=>by rw[aj (aH e hn)];exact e,λ b ob u e=>by rw[aj (aH e hn)];exact e,λ b ps e=>⟨#[],by rw[aj (aH e hn),e];simp⟩⟩ λ b u e=>?_
 by_cases hb:b=a
 ·subst hb;rw[aq] at e;cases e;exact new
 ·rw[aj hb] at e;exact(I.hok b u e).ua (λ c v _ q=>k c v q) (λ c q=>by rw[aj (aH q hn)];exact q) λ c xs q=>by rw[aj (aH q hn)];exact q
section
variable {X:Cx}{K:FG}
theorem pX:∀ {zs:List Str} {vs:List (Key×Value)} {us:List Value},vs.map (·.1)=zs.map Sum.inr->us.length=vs.length->(∀ (j:Nat) v,us[j]? =some v->∃ k x,vs[j]? =some (k,x)/\(aR P w).is k v=true)->StrsAre us zs
 | [],vs,us,h,hl,hp=>by
  have e:vs=[]:=by simpa using h
  subst e;have e:us=[]:=by simpa using hl
  subst e;exact .nil
 | z::zs,vs,us,h,hl,hp=>by
  match vs,us,h,hl,hp with
  | (k,x)::vs,u::us,h,hl,hp =>
   simp only[List.map_cons,List.cons.injEq] at h;obtain⟨k',x',e,hk⟩:=hp 0 u rfl;simp at e;obtain⟨e1,e2⟩:=e;subst e1 e2;rw[h.1,uJ] at hk;obtain⟨t,e⟩:∃ t,u=.str z t:=by
    rcases bK hk with ⟨i,t,e,_⟩ | ⟨y,t,e,e'⟩
    ·cases e
    ·cases e;exact⟨t,e'⟩
   subst e;exact .cons z t (pX h.2 (by simpa using hl) λ j v hj=>by simpa using hp (j+1) v (by simpa using hj))
  | [],_,h,_,_=>simp at h
  | _::_,[],_,hl,_=>simp at hl
theorem jg(hc:X.calm=true):d6 X (.builtin "sorted") (λ xs H Q=>∃ a kvs zs,xs=[.ref a]/\Rd H a (.dK kvs)/\kvs.map (·.1)=zs.map Sum.inr/\zs.length<64/\∀ zs',zs'.Perm zs->sortedS zs'=true->∀ l,H l=none->Q (.ref l) (upd H l (.lst (zs'.map V.str)))):=by
 intro pins s σ H xs us Q I r h;obtain⟨a,kvs,zs,rfl,hq,hk,hz,q⟩:=h;obtain⟨u,rfl,rx⟩:=vals1 r;cases rx;obtain⟨hsz,hsys,vs,rel,o,es,ep,hd⟩:=hq.ok I.hok;have hvs:vs.map (·.1)=zs.map Sum.inr:=by
  rw[<- hk];clear hk hd hq hsz
  induction rel with
  | nil=>rfl
  | cons r t ih=>simp only[List.map_cons,ih,r.1]
 have hln:vs.length=zs.length:=by simpa using congrArg List.length hvs
 refine Calls.call_function_entry kind_sorted plain_sorted entry_sorted (args_sorted1 _) ?_;unfold Builtin.«sorted»;have at1:∀ (h':Heap) (l:List Value),(h'.push (seqObj "list" l.toArray 0)).get? h'.objs.size=some (seqObj "list" l.toArray 0):=λ h' l=>Heap.get?_push_size _ rfl;refine wpAny_bind (m:=checkCount "sorted" 1 1 _) (wpAny_pure (wpAny_bind (W.kdu_collect (A:=X.A.in1) (W.kdl_dict (knd:=aR X.prog X.w) (kvs:=vs) (ep:=ep) hsys) (I.ok.hd hc) ⟨o,es,hd⟩ (by rw[sizeLine_eq];omega) λ h' tk acc old hacc=>?_)));have hla:acc.toList.length=vs.length:=by rw[Array.length_toList];exact hacc.1
 have hS:StrsAre acc.toList zs:=pX hvs hla λ j v hj=>hacc.2 j v (by rw[<- Array.getElem?_toList];exact hj);refine wpAny_bind (wpAny_newList ?_ (by rw[hla,sizeLine_eq];omega));refine wpAny_bind (wpAny_holding (wpAny_call_entry slot_list_sort ⟨_,at1 h' acc.toList,rfl⟩ entry_list_sort (list_sort_treeK strKind_oneLt (s:={s with heap:=h'.push (seqObj "list" acc.toList.toArray 0),toks:=tk}) (at1 h' acc.toList) hS.keysOf (λ v₁ v₂ rest e=>keyKind_strs (by rw[<- e];exact hS)) (by omega) λ st' hp hs=>⟨_,rfl,wpAny_pure ⟨_,rfl,?_⟩⟩) (args_list_sort _)));obtain⟨zs',h1,h2,h3⟩:=sorted_out_str hS hp hs;obtain⟨n,e⟩:=sortedHeap_at (h:=h'.push (seqObj "list" acc.toList.toArray 0)) (vs:=acc.toList) (out:=(arrOf st').map (·.2)) (at1 h' acc.toList);have hge:s.heap.get? h'.objs.size=none:=by
  cases q1:s.heap.get? h'.objs.size with
  | none=>rfl
  | some ob =>
   have:=Heap.lt_size (old _ _ q1);exact absurd this (Nat.lt_irrefl _)
 have keep:∀ b ob,s.heap.get? b=some ob->(sortedHeap (h'.push (seqObj "list" acc.toList.toArray 0)) h'.objs.size acc.toList ((arrOf st').map (·.2))).get? b=some ob:=λ b ob eb=>by have l1:b<h'.objs.size:=Heap.lt_size (old b ob eb);rw[sortedHeap_old (Nat.ne_of_lt l1) (by rw[size_push'];exact Nat.lt_succ_of_lt l1),Heap.get?_push_of_some _ (old b ob eb)]
 have I':Inv X pins σ (upd H h'.objs.size (.lst (zs'.map V.str))) {s with heap:=sortedHeap (h'.push (seqObj "list" acc.toList.toArray 0)) h'.objs.size acc.toList ((arrOf st').map (·.2)),toks:=tk}:=by refine Inv.af0 I keep hge ⟨?_,((arrOf st').map (·.2)).toList,n,pA h1,by rw[Array.toArray_toList];exact e⟩;rw[List.length_map,h2.length_eq];have:=s16;omega
 exact⟨.ref _,_,I',rfl,q zs' h2 h3 _ (qx I.hok hge)⟩
def qN(ws:List W)(M:MH)(Q:QD):Prop:=∃ a kvs,∃ zs:List Str,ws=[.m a]/\M a=some (.dic kvs)/\kvs.map (·.1)=zs.map Sum.inr/\zs.length<64/\∀ zs',zs'.Perm zs->sortedS zs'=true->∀ p,M p=none->Q (.m p) (bH M p (.lst (gD zs')))
theorem tR:eU K (λ xs H Q=>∃ a kvs zs,xs=[.ref a]/\Rd H a (.dK kvs)/\kvs.map (·.1)=zs.map Sum.inr/\zs.length<64/\∀ zs',zs'.Perm zs->sortedS zs'=true->∀ l,H l=none->Q (.ref l) (upd H l (.lst (zs'.map V.str)))) qN:=by
 intro vs H ws M Qd Q r m ⟨a,kvs,zs,e,g,hk,hz,q⟩ k;subst e;obtain⟨v,e1,r1⟩:=d4 r;have ev:v=.ref a:=r1;subst ev;have go:∀ l:List (Key×V),Rd H a (.dK l)->Paired (λ(p:Key×W) (q:Key×V)=>p.1=q.1/\ay K H p.2 q.2) kvs l->∃ a' kvs' zs',[V.ref a]=[.ref a']/\Rd H a' (.dK kvs')/\kvs'.map (·.1)=zs'.map Sum.inr/\zs'.length<64/\∀ zs'',zs''.Perm zs'->sortedS zs''=true->∀ l,H l=none->Q (.ref l) (upd H l (.lst (zs''.map V.str))):=by
  intro l hr pr;refine⟨a,l,zs,rfl,hr,?_,hz,λ zs' h1 h2 p hp=>?_⟩
  ·rw[<- hk];clear hk hr g q
   induction pr with
   | nil=>rfl
   | cons r t ih=>simp only[List.map_cons,ih,r.1]
  ·have kp:Kp H (upd H p (.lst (zs'.map V.str))):=Kp.new hp;exact k _ _ (.m p) _ kp rfl (m.put (mo:=.lst (gD zs')) kp ⟨_,aq,pL zs'⟩) (q zs' h1 h2 p (m.free hp))
 subst e1;obtain⟨l,hl,pr⟩:=m _ _ g;exact go l (.inl hl) pr
def ab0(w:W)(w':W)(M:MH)(Q:QD):Prop:=∃ xs ys,w=.d (.tuple xs)/\w'=.d (.tuple ys)/\xs≠[]/\xs.length+ys.length<=sizeLine/\Q (.d (.tuple (xs++ys))) M
theorem aaL:OpD K (afx K) ab0:=by
 intro x y H w w' M Qd Q r1 r2 m ⟨xs,ys,e1,e2,hne,hz,q⟩ k;subst e1 e2;simp only[ay,au] at r1 r2;obtain⟨a,vs,ea,ha,ra⟩:=r1;obtain⟨b,us,eb,hb,rb⟩:=r2;have l1:=ra.length;have l2:=rb.length;refine⟨a,b,vs,us,ea,eb,ha,hb,λ z=>hne (by rw[z] at l1;simpa using l1.symm),by omega,λ z=>?_,λ z p hp=>?_⟩
 ·have e:ys=[]:=by rw[z] at l2;simpa using l2.symm
  subst e;rw[List.append_nil] at q;refine k _ _ (.d (.tuple xs)) M (Kp.refl _) ?_ m q;simp only[ay,au];exact⟨a,vs,rfl,ha,ra⟩
 ·refine k _ _ (.d (.tuple (xs++ys))) M (Kp.new hp) ?_ (m.new hp) q;simp only[ay,au];exact⟨p,_,rfl,.inl (.inl aq),(ra.append rb).keep (Kp.new hp)⟩
def isNone:W->Bool
 | .d .none=>true
 | _=>false
theorem ml(r:ay K H w v):decide (v=.non)=isNone w:=by
 cases w with
 | m a=>cases (show v=.ref a from r);rfl
 | t n=>cases (show v=.ty n from r);rfl
 | d x =>
  cases x<;>simp only[ay,au] at r
  ·subst r;rfl
  ·subst r;rfl
  ·subst r;rfl
  ·subst r;rfl
  all_goals first
   | (obtain⟨a,vs,e,_⟩:=r;subst e;rfl)
   | (obtain⟨a,o,l,e,_⟩:=r;subst e;rfl)
def rF(neg:Bool)(w:W)(w':W)(M:MH)(Q:QD):Prop:=w'=.d .none/\Q (.d (.bool (xor neg (isNone w)))) M
theorem qZ:OpD K (λ x y H Q=>y=.non/\Q (.bl (decide (x=.non))) H) (rF false):=by intro x y H w w' M Qd Q r1 r2 m ⟨e,q⟩ k;subst e;simp only[ay,au] at r2;refine⟨r2,k _ _ (.d (.bool (isNone w))) M (Kp.refl _) ?_ m (by simpa using q)⟩;rw[ml r1];simp[ay,au]
theorem zN:OpD K (λ x y H Q=>y=.non/\Q (.bl (!decide (x=.non))) H) (rF true):=by intro x y H w w' M Qd Q r1 r2 m ⟨e,q⟩ k;subst e;simp only[ay,au] at r2;refine⟨r2,k _ _ (.d (.bool (!isNone w))) M (Kp.refl _) ?_ m (by simpa using q)⟩;rw[ml r1];simp[ay,au]
end
theorem Inv.adE(I:Inv X pins σ H s)(k:∀ b o,b≠it->b≠e->s.heap.get? b=some o->h'.get? b=some o)(f:jm X pins H it)(g:jm X pins H e):Inv X pins σ H {s with heap:=h',toks:=t'}:=by
 obtain⟨f0,f1,f2,f3,f4,f5⟩:=f;obtain⟨g0,g1,g2,g3,g4,g5⟩:=g;have nit:∀ b u,H b=some u->b≠it:=λ b u q z=>by rw[z,f0] at q;cases q
 have ne:∀ b u,H b=some u->b≠e:=λ b u q z=>by rw[z,g0] at q;cases q
 refine I.step (g':=s.gens) (d':=s.drawn) (ch:=[it,e]) (λ b hb=>?_) (λ b o _ _ hc q _=>k b o (λ z=>hc (by simp[z])) (λ z=>hc (by simp[z])) q) (λ b o _ _ hc q _=>⟨o.slots,k b o (λ z=>hc (by simp[z])) (λ z=>hc (by simp[z])) q⟩) (λ _ _ _ _ n=>n)
  (λ b o hc q=>⟨o,k b o (λ z=>hc (by simp[z])) (λ z=>hc (by simp[z])) q⟩) (λ _ _ q=>q) (λ _ _ _ q=>q) (λ b ps q=>⟨#[],by rw[q];simp⟩) (λ m hm=>?_) (λ b u q=>?_) I.bare
 ·have z:b=it\/b=e:=by simpa using hb
  rcases z with rfl | rfl
  ·exact⟨f3,f1,f4,f5⟩
  ·exact⟨g3,g1,g4,g5⟩
 ·obtain⟨o,es,ep,ho,r⟩:=hm;exact⟨o,es,ep,k _ o (Ne.symm f1) (Ne.symm g1) ho,r⟩
 ·refine(I.hok b u q).ua (λ c v hc z=>k c v ?_ ?_ z) (λ _ z=>z) λ _ _ z=>z
  ·rcases hc with z | z
   ·rw[z];exact nit b u q
   ·exact nit c _ z
  ·rcases hc with z | z
   ·rw[z];exact ne b u q
   ·exact ne c _ z
def Ite(K:FG)(a:Addr):It:=
 ⟨λ i H=>∃ xs x,SqL K H a xs/\xs[i]? =some x,λ i H x H'=>∃ T v,H T=none/\x=.ref T/\H'=upd H T (.tup [.int i,v])/\∀ xs,SqL K H a xs->xs[i]? =some v,λ i H=>∃ xs,SqL K H a xs/\xs.length<=i⟩
theorem vO{P:Program}{w:World}{K:FG}{elts:List Expr}{x1:Nat}{tpos:Pos}(a e it:Addr)(hne:e≠it) :
  Turn P w K (.Tuple elts x1 tpos) (Ite K a) [e,it] e (λ i h=>(∃ old,IsEnum h e it (i:Nat) old)/\h.IsListIter it a i) where
 mem:=by simp
 obj:=λ i h ⟨⟨old,st⟩,⟨oi,ei,ci,di⟩⟩ b hb=>by
  have z:b=e\/b=it:=by simpa using hb
  rcases z with rfl | rfl
  ·exact⟨_,st,λ v z=>by cases z⟩
  ·exact⟨oi,ei,λ v z=>by rw[di] at z;cases z⟩
 keep:=λ i h h' ⟨⟨old,st⟩,li⟩ k=>⟨⟨old,k e (by simp) _ st⟩,li.at λ o q=>k it (by simp) o q⟩
 item:=by
  intro X hP hw hK hc i pins s σ H E I hf ⟨⟨old,st⟩,li⟩ ⟨xs,x,hq,hx⟩;subst hP hw hK;have fe:=hf e (by simp);have fi:=hf it (by simp);obtain⟨its,rv,p,hz⟩:=I.list hq;obtain⟨u,hu,ru⟩:=rv.get hx;refine wpAny_pyNext_enum_item st li p.isList (x:=u) (by simpa using hu) hne λ h' st' li' ht hsz kp=>?_;refine⟨_,rfl,wpAny_letOwnedTupleGo_enum st' λ h'' st'' sb=>?_⟩;obtain⟨t0,t1,t2,t3,t4,t5⟩:=I.n4 (Nat.le_refl _) (I.hok.fresh (Nat.le_refl _));have nT:s.heap.objs.size≠e:=Nat.ne_of_gt (Heap.lt_size st);have I1:Inv X pins σ H {s with heap:=h'',toks:=s.toks+1}:=Inv.adE I (λ b ob h1 h2 q=>(sb.2 b h2).trans (kp b ob h2 h1 q)) fi fe;have eT:h''.get? s.heap.objs.size=some {cls:=.type "tuple",data:=.seq #[.int (i:Nat) s.toks,u]}:=(sb.2 _ nT).trans ht;have I2:=Inv.afd (us:=[.int (i:Nat) s.toks,u]) (ys:=[.int i,x]) I1 eT t0 (.cons ⟨_,rfl⟩ (.cons ru .nil)) (by simp;have:=s16;omega) t3 t1 t4 t5;have li'':h''.IsListIter it a (i+1):=li'.at λ o q=>(sb.2 it hne.symm).trans q;have hit:it<s.heap.objs.size:=by obtain⟨oi,ei,_⟩:=li;exact Heap.lt_size ei
  refine⟨.ref s.heap.objs.size,_,I2,rfl,⟨_,x,t0,rfl,rfl,λ ys hy=>by rw[I.rZ hy hq];exact hx⟩,⟨⟨_,st''⟩,li''⟩,λ b hb=>?_⟩;have z:b=e\/b=it:=by simpa using hb
  rcases z with rfl | rfl
  ·rw[aj nT.symm];exact fe.1
  ·rw[aj (Nat.ne_of_lt hit)];exact fi.1
 done:=by intro X hP hw hK hc i pins s σ H E I hf ⟨⟨old,st⟩,li⟩ ⟨xs,hq,hx⟩;subst hP hw hK;obtain⟨f0,f1,f2,f3,f4,f5⟩:=hf it (by simp);obtain⟨its,rv,p,hz⟩:=I.list hq;have hl:=rv.length;exact wpAny_pyNext_enum_end (I.ok.hd hc) st li p.isList (by simp;omega) λ h' eb=>⟨rfl,I.turned (t':=s.toks) (λ b o hb q=>eb b o hb q) f0 f1 f3 f4 f5⟩
 self:=λ _ _ _ _ _ ⟨⟨old,st⟩,li⟩ h=>wpAny_pyIter_enum st h
theorem oW:bootBuiltins "enumerate" = some (.type "enumerate"):=by decide +kernel
def ahF(K:FG)(ta:TA):TI:=λ σ H R=>ta σ H λ vs H1=>∃ b xs,vs=[.ref b]/\SqL K H1 b xs/\R (Ite K b) H1
theorem acP{elts:List Expr}{x1:Nat}{tpos:Pos}(hg:Gl X "enumerate")(hm:X.mg "enumerate" = none)(ha:PA X [a] ta)(hs:starEach [a] X.env=[(false,eval a X.env)]:=by rfl) :
  PI X (.Tuple elts x1 tpos) (.Call (.Name "enumerate" p) [a] [] pos) (ahF X.K ta):=by
 intro pins s σ H R I h;refine Call_ (eP I hg hm oW (PyProof.Rows.callWith_type1 (thn (ha pos pins s σ H _ I h) λ us s1 ⟨vs,H1,I1,r1,q1⟩=>?_) hs rfl));obtain⟨b,xs,e,hq,q⟩:=q1;subst e;cases r1 with
 | cons r rr =>
  cases rr;cases (show _=Value.ref b from r);obtain⟨its,rv,pl,hz⟩:=I1.list hq;refine call_enumerate_list pl.isList λ h' st li hsz kp=>?_;have I2:Inv X pins σ H1 {s1 with heap:=h'}:=I1.kept (t':=s1.toks) kp;refine wpAny_pyIter_enum st ?_;refine⟨_,[_,_],_,_,H1,rfl,I2,vO b _ _ (Nat.succ_ne_self _),⟨⟨_,st⟩,li⟩,λ c hc=>?_,q⟩;have z:c=s1.heap.objs.size+1\/c=s1.heap.objs.size:=by simpa using hc
  rcases z with rfl | rfl
  ·exact I1.n4 (Nat.le_succ _) (I1.hok.fresh (Nat.le_succ _))
  ·exact I1.n4 (Nat.le_refl _) (I1.hok.fresh (Nat.le_refl _))
def mW(ds:List PyData):List W:=(List.range ds.length).map λ i=>.d (.tuple [.int (i:Nat),ds.getD i .none])
def z7(t:TAd)(τ:DS)(M:MH)(R:List W->MH->Prop):Prop:=t τ M λ ws M1=>∃ ds,ws=[.d (.list ds)]/\R (mW ds) M1
theorem ae1:bootBuiltins "sum" = some (.builtin "sum"):=by decide +kernel
theorem sM:bootBuiltins "min" = some (.builtin "min"):=by decide +kernel
theorem qr(f:Nat->Int)(k:Nat):preSum f (k+1)=preSum f k+f k:=rfl
theorem gX(ps:List (Int×Tok)):∀ k,k<=ps.length->preSum (numAt ps.toArray) k=((ps.map (·.1)).take k).sum
 | 0,_=>by simp[preSum]
 | k+1,h=>by
  rw[qr,gX ps k (by omega),List.take_succ,List.sum_append];have hk:k<ps.length:=by omega
  simp[numAt,List.getElem?_eq_getElem hk]
theorem sum_bound:∀ (ns:List Int),(∀ n∈ns,0<=n/\n<=1000000)->0<=ns.sum/\ns.sum<=1000000 * ns.length
 | [],_=>by simp
 | n::ns,h=>by have h1:=h n (by simp);have h2:=sum_bound ns λ x hx=>h x (by simp[hx]);simp only[List.sum_cons,List.length_cons];omega
section
variable {X:Cx}{K:FG}
theorem yv(hc:X.calm=true):d6 X (.builtin "sum") (λ xs H Q=>∃ p,∃ ns:List Int,xs=[.ref p]/\SqL X.K H p (ns.map V.int)/\ns.length<=1000/\(∀ n∈ns,0<=n/\n<=1000000)/\Q (.int ns.sum) H):=by
 intro pins s σ H xs us Q I r h;obtain⟨p,ns,rfl,hq,hlen,hb,q⟩:=h;obtain⟨u,rfl,rx⟩:=vals1 r;cases rx;obtain⟨its,rv,pl,hz⟩:=I.list hq;obtain⟨ps,e1,e2⟩:=ny rv;subst e1;have hl:s.heap.IsList p (intItems ps.toArray):=by
  have e:(ps.map λ p=>Value.int p.1 p.2).toArray=intItems ps.toArray:=by simp[intItems]
  rw[<- e];exact pl.isList
 have hpl:ps.length=ns.length:=by rw[<- e2,List.length_map]
 refine sum_intList (I.ok.hd hc) hl (λ j hj=>?_) λ h' tk t' kk=>?_
 ·have hj':j<ps.length:=by simpa using hj
  have hn:numAt ps.toArray j=(ps[j]).1:=by simp[numAt,List.getElem?_eq_getElem hj']
  have hm:(ps[j]).1∈ns:=by rw[<- e2];exact List.mem_map.mpr ⟨_,List.getElem_mem hj',rfl⟩
  have b1:=hb _ hm;have b2:=sum_bound (ns.take (j+1)) λ n hn=>hb n (List.mem_of_mem_take hn);rw[List.length_take] at b2;refine⟨by rw[hn];exact⟨by omega,by omega⟩,?_⟩;rw[gX ps (j+1) (by omega),e2];exact⟨by omega,by omega⟩
 ·refine⟨.int _,H,I.kept kk,⟨_,rfl⟩,?_⟩;have:preSum (numAt ps.toArray) ps.toArray.size=ns.sum:=by rw[List.size_toArray,gX ps ps.length (Nat.le_refl _),e2,hpl,List.take_length]
  rw[this];exact q
def af9(ws:List W)(M:MH)(Q:QD):Prop:=∃ w,∃ ns:List Int,ws=[w]/\ze M w (ns.map PyData.int)/\ns.length<=1000/\(∀ n∈ns,0<=n/\n<=1000000)/\Q (.d (.int ns.sum)) M
theorem ag5:eU K (λ xs H Q=>∃ p,∃ ns:List Int,xs=[.ref p]/\SqL K H p (ns.map V.int)/\ns.length<=1000/\(∀ n∈ns,0<=n/\n<=1000000)/\Q (.int ns.sum) H) af9:=by intro vs H ws M Qd Q r m ⟨w,ns,e,g,hl,hb,q⟩ k;subst e;obtain⟨v,e1,r1⟩:=d4 r;obtain⟨p,ys,ev,hs,ra⟩:=g.sound r1 m;have ey:=n8 ra;subst ev ey;exact⟨p,ns,e1,hs,hl,hb,k _ H (.d (.int _)) M (Kp.refl H) (by simp[ay,au]) m q⟩
def abV(ws:List W)(M:MH)(Q:QD):Prop:=∃ i j,ws=[.d (.int i),.d (.int j)]/\Q (.d (.int (if j<i then j else i))) M
theorem acs:eU K (λ xs H Q=>∃ i j,xs=[V.int i,V.int j]/\Q (V.int (if j<i then j else i)) H) abV:=by intro vs H ws M Qd Q r m ⟨i,j,e,q⟩ k;subst e;obtain⟨v,v',e1,r1,r2⟩:=xQ r;simp only[ay,au] at r1 r2;subst r1 r2;exact⟨i,j,e1,k _ H (.d (.int _)) M (Kp.refl H) (by simp[ay,au]) m q⟩
theorem rP:d6 X (.type "dict") (λ xs H Q=>∃ a kvs,xs=[.ref a]/\Rd H a (.dK kvs)/\∀ p,H p=none->Q (.ref p) (upd H p (.dK kvs))):=by intro pins s σ H xs us Q I r h;obtain⟨a,kvs,rfl,hr,q⟩:=h;obtain⟨u,rfl,rx⟩:=vals1 r;cases rx;exact aap I hr λ p s' hp I'=>⟨.ref p,_,I',rfl,q p hp⟩
def tP(ws:List W)(M:MH)(Q:QD):Prop:=∃ a kvs,ws=[.m a]/\M a=some (.dic kvs)/\∀ p,M p=none->Q (.m p) (bH M p (.dic kvs))
theorem xY:eU K (λ xs H Q=>∃ a kvs,xs=[.ref a]/\Rd H a (.dK kvs)/\∀ p,H p=none->Q (.ref p) (upd H p (.dK kvs))) tP:=by intro vs H ws M Qd Q r m ⟨a,kvs,e,hm,q⟩ k;subst e;obtain⟨v,e1,r1⟩:=d4 r;have e2:v=.ref a:=r1;subst e2;obtain⟨l,e,pr⟩:=m _ _ hm;refine⟨a,l,e1,.inl e,λ p hp=>?_⟩;have kp:Kp H (upd H p (.dK l)):=Kp.new hp;exact k _ _ (.m p) _ kp rfl (m.put (mo:=.dic kvs) kp ⟨l,aq,Paired.gu pr λ p q z=>⟨z.1,z.2.keep kp⟩⟩) (q p (m.free hp))
end
end D
namespace Rc
open L2 D
section
variable {α:Type}(nm:α->Str)
def rk(g:α->PyData)(L:List α):List (Key×PyData):=L.map λ a=>(.inr (nm a),g a)
def fd(L:List α)(n:Str):Option α:=L.find? λ a=>decide (nm a=n)
def pt(L:List α)(z:α):List α:=match fd nm L (nm z) with
 | none=>L++[z]
 | some _=>L.map λ y=>if nm y=nm z then z else y
variable {nm}
theorem nL(b:α)(L:List α)(n:Str):fd nm (b::L) n=if nm b=n then some b else fd nm L n:=by
 by_cases e:nm b=n<;>simp[fd,List.find?_cons,e]
theorem eJ(h:fd nm L n=some x):x∈L/\nm x=n:=by
 unfold fd at h;have h1:=List.find?_some h;exact⟨List.mem_of_find?_eq_some h,by simpa using h1⟩
theorem fd_none(h:fd nm L n=none):∀ b∈L,nm b≠n:=by
 unfold fd at h;intro b hb e;have:=List.find?_eq_none.mp h b hb;simp[e] at this
theorem zt(g:α->PyData)(L:List α):aS (rk nm g L)=L.map λ b=>((.inr (nm b):Key),W.d (g b)):=by simp[aS,rk]
theorem fm(g:α->PyData):∀ (L:List α) (n:Str),iQ (aS (rk nm g L)) (.inr n)=(fd nm L n).map λ b=>.d (g b):=by
 intro L n;rw[zt]
 induction L with
 | nil=>rfl
 | cons b L ih =>
  rw[List.map_cons,iy,nL,ih]
  by_cases e:nm b=n
  ·simp[e]
  ·have e':¬ (Sum.inr (nm b):Key)=.inr n:=λ z=>e (Sum.inr.inj z);simp[e,e']
theorem vJ(g:α->PyData)(L:List α)(z:α)(hn:nm z=n):uZ (aS (rk nm g L)) (.inr n) (.d (g z))=aS (rk nm g (pt nm L z)):=by
 subst hn;unfold uZ;rw[mY,fm,zt,zt];unfold pt;cases e:fd nm L (nm z) with
 | none=>rw[if_neg (by simp)];simp
 | some x =>
  rw[if_pos (by rfl),List.map_map,List.map_map];refine List.map_congr_left λ b _=>?_
  by_cases e:nm b=nm z
  ·simp[e]
  ·have e':¬ (Sum.inr (nm b):Key)=.inr (nm z):=λ z=>e (Sum.inr.inj z);simp[e,e']
theorem tJ(L:List α)(z:α):(pt nm L z).map nm=match fd nm L (nm z) with | none=>L.map nm++[nm z] | some _=>L.map nm:=by
 unfold pt;cases e:fd nm L (nm z) with
 | none=>simp
 | some x =>
  dsimp only;rw[List.map_map];refine List.map_congr_left λ b _=>?_
  by_cases e:nm b=nm z
  ·simp[e]
  ·simp[e]
theorem acA(nd:(L.map nm).Nodup):((pt nm L z).map nm).Nodup:=by
 rw[tJ];cases e:fd nm L (nm z) with
 | some x=>exact nd
 | none =>
  show(L.map nm++[nm z]).Nodup;rw[List.nodup_append];refine⟨nd,by simp,λ x hx y hy=>?_⟩;simp at hy;obtain⟨b,hb,rfl⟩:=List.mem_map.mp hx;rw[hy];exact fd_none e b hb
theorem agd(L:List α)(z:α):(pt nm L z).length<=L.length+1:=by
 unfold pt;cases fd nm L (nm z) with
 | none=>simp
 | some x=>simp
theorem vf(h:y∈pt nm L z):y=z\/y∈L:=by
 unfold pt at h;cases e:fd nm L (nm z) with
 | none =>
  rw[e] at h;rcases List.mem_append.mp h with h | h
  ·exact .inr h
  ·exact .inl (by simpa using h)
 | some x =>
  rw[e] at h;obtain⟨b,hb,eb⟩:=List.mem_map.mp h
  by_cases e:nm b=nm z
  ·rw[if_pos e] at eb;exact .inl eb.symm
  ·rw[if_neg e] at eb;exact .inr (eb ▸ hb)
theorem ag2(L:List α)(z:α)(n:Str):fd nm (pt nm L z) n=if nm z=n then some z else fd nm L n:=by
 unfold pt;cases e:fd nm L (nm z) with
 | none =>
  by_cases q:nm z=n
  ·rw[if_pos q,<- q];have:fd nm (L++[z]) (nm z)=some z:=by
    unfold fd at e ⊢;rw[List.find?_append,e];simp
   exact this
  ·rw[if_neg q];unfold fd;rw[List.find?_append];have:[z].find? (λ a=>decide (nm a=n))=none:=by simp[q]
   rw[this];simp
 | some x =>
  dsimp only;have main:∀ (L:List α),(∃ y∈L,nm y=nm z)\/nm z≠n->fd nm (L.map λ y=>if nm y=nm z then z else y) n=if nm z=n then some z else fd nm L n:=by
   intro L
   induction L with
   | nil =>
    intro h;rcases h with ⟨y,hy,_⟩ | h
    ·cases hy
    ·rw[if_neg h];rfl
   | cons y L ih =>
    intro h;rw[List.map_cons,nL,nL]
    by_cases q:nm y=nm z
    ·rw[if_pos q]
     by_cases r:nm z=n
     ·rw[if_pos r,if_pos r]
     ·rw[if_neg r,if_neg r,if_neg (λ e=>r (q ▸ e)),ih (.inr r),if_neg r]
    ·rw[if_neg q]
     by_cases r:nm z=n
     ·have ne:nm y≠n:=λ e=>q (e.trans r.symm);rw[if_neg ne,if_pos r,ih,if_pos r];rcases h with ⟨w,hw,e⟩ | h
      ·rcases List.mem_cons.mp hw with rfl | hw
       ·exact absurd e q
       ·exact .inl ⟨w,hw,e⟩
      ·exact .inr h
     ·by_cases t:nm y=n
      ·rw[if_pos t,if_neg r,if_pos t]
      ·rw[if_neg t,if_neg r,if_neg t,ih (.inr r),if_neg r]
  exact main L (.inl ⟨x,eJ e⟩)
theorem rK(nd:(L.map nm).Nodup)(h:b∈L):fd nm L (nm b)=some b:=by
 induction L with
 | nil=>cases h
 | cons x L ih =>
  rw[List.map_cons,List.nodup_cons] at nd;rw[nL];rcases List.mem_cons.mp h with rfl | h
  ·rw[if_pos rfl]
  ·have:nm x≠nm b:=λ e=>nd.1 (List.mem_map.mpr ⟨b,h,e.symm⟩);rw[if_neg this];exact ih nd.2 h
end
mutual
def okD:Nat->PyData->Bool
 | _,.none=>true
 | _,.bool _=>true
 | _,.int i=>decide (i.natAbs<2 ^ 100)
 | _,.str z=>m8 z
 | k+1,.list ds=>okA k ds
 | k+1,.tuple ds=>okA k ds
 | _,_=>false
def okA:Nat->List PyData->Bool
 | _,[]=>true
 | k,d::ds=>okD k d&&okA k ds
end
theorem kE:∀ {ds:List PyData},(∀ d∈ds,okD k d=true)->okA k ds=true
 | [],_=>by simp[okA]
 | d::ds,h=>by simp only[okA,Bool.and_eq_true];exact⟨h d (by simp),kE λ x hx=>h x (by simp[hx])⟩
theorem zm(h:m8 z=true):Asc z:=adq h
theorem xH(h:Asc z):PyData.strOk z=true:=by
 unfold PyData.strOk;rw[Array.all_eq_true_iff_forall_mem];intro c hc;exact decide_eq_true (by have:=h c (by simpa using hc);omega)
theorem acm(h:m8 z=true):PyData.strOk z=true:=xH (zm h)
mutual
theorem abS:∀ (k:Nat) (d:PyData),okD k d=true->PyData.canLay0 d=true
 | _,.none,_=>by simp[PyData.canLay0]
 | _,.bool _,_=>by simp[PyData.canLay0]
 | _,.int i,h=>by simp[PyData.canLay0]
 | _,.str z,h=>by
  cases ‹Nat› <;> simp only[okD] at h<;>simp[PyData.canLay0,acm h]
 | k+1,.list ds,h=>by simp only[okD] at h;simp only[PyData.canLay0];exact rV k ds h
 | k+1,.tuple ds,h=>by simp only[okD] at h;simp only[PyData.canLay0];exact rV k ds h
 | 0,.list ds,h=>by simp[okD] at h
 | 0,.tuple ds,h=>by simp[okD] at h
 | k,.dict kvs,h=>by cases k<;>simp[okD] at h
theorem rV:∀ (k:Nat) (ds:List PyData),okA k ds=true->PyData.canLayAll0 ds=true
 | _,[],_=>by simp[PyData.canLayAll0]
 | k,d::ds,h=>by simp only[okA,Bool.and_eq_true] at h;simp only[PyData.canLayAll0,abS k d h.1,rV k ds h.2,Bool.and_self]
end
mutual
theorem tD:∀ (k:Nat) (d:PyData),okD k d=true->PyData.depth d<=k+1
 | _,.none,_=>by simp[PyData.depth]
 | _,.bool _,_=>by simp[PyData.depth]
 | _,.int i,h=>by simp[PyData.depth]
 | _,.str z,h=>by simp[PyData.depth]
 | k+1,.list ds,h=>by simp only[okD] at h;have:=k6 k ds h;simp only[PyData.depth];omega
 | k+1,.tuple ds,h=>by simp only[okD] at h;have:=k6 k ds h;simp only[PyData.depth];omega
 | 0,.list ds,h=>by simp[okD] at h
 | 0,.tuple ds,h=>by simp[okD] at h
 | k,.dict kvs,h=>by cases k<;>simp[okD] at h
theorem k6:∀ (k:Nat) (ds:List PyData),okA k ds=true->PyData.depthAll ds<=k+1
 | _,[],_=>by simp[PyData.depthAll]
 | k,d::ds,h=>by simp only[okA,Bool.and_eq_true] at h;have h1:=tD k d h.1;have h2:=k6 k ds h.2;simp only[PyData.depthAll];omega
end
mutual
theorem abf:∀ (k:Nat) (d:PyData),okD k d=true->PyData.hasDict d=false
 | _,.none,_=>by simp[PyData.hasDict]
 | _,.bool _,_=>by simp[PyData.hasDict]
 | _,.int i,h=>by simp[PyData.hasDict]
 | _,.str z,h=>by simp[PyData.hasDict]
 | k+1,.list ds,h=>by simp only[okD] at h;simp only[PyData.hasDict];exact qY k ds h
 | k+1,.tuple ds,h=>by simp only[okD] at h;simp only[PyData.hasDict];exact qY k ds h
 | 0,.list ds,h=>by simp[okD] at h
 | 0,.tuple ds,h=>by simp[okD] at h
 | k,.dict kvs,h=>by cases k<;>simp[okD] at h
theorem qY:∀ (k:Nat) (ds:List PyData),okA k ds=true->PyData.hasDictAll ds=false
 | _,[],_=>by simp[PyData.hasDictAll]
 | k,d::ds,h=>by simp only[okA,Bool.and_eq_true] at h;simp only[PyData.hasDictAll,abf k d h.1,qY k ds h.2,Bool.or_self]
end
theorem nM(hk:k<=50)(h:okD k d=true):sR d=true:=by have h1:=abS k d h;have h2:=tD k d h;have h3:=abf k d h;simp only[sR,SeqAt.shaped,h1,h3,Bool.true_and,Bool.not_false,Bool.and_true];exact decide_eq_true (by omega)
theorem mE(hk:k<=50)(h:okD k d=true)(h':okD k d'=true):eX d d'=true:=by have h1:=nM hk h;have h2:=nM hk h';cases d<;>cases d'<;>simp[eX,h1,h2]
theorem zW(x y:Int):PyData.eqv (.int x) (.int y)=decide (x=y):=by
 rw[PyData.eqv]
 by_cases e:x=y
 ·subst e;simp
 ·simp[e]
theorem vP{M:MH}{a b:Addr}{o:MO}(ha:M a=some o)(hb:M b=none):a≠b:=λ e=>by rw[e,hb] at ha;cases ha
theorem ad6{M:MH}{a b:Addr}{o u:MO}(h:M a=some o)(hb:M b=none):bH M b u a=some o:=by rw[aI (vP h hb)];exact h
end Rc
namespace Stc
open L2 D Rc
theorem agp(h0:0<=r)(h1:r<ds.length):∃ d,ixW M (.d (.list ds)) r=some (.d d)/\d∈ds:=by
 have hn:r.toNat<ds.length:=by omega
 refine⟨ds[r.toNat],?_,List.getElem_mem hn⟩;simp only[ixW,atI,xw h0 h1,Option.bind_some,List.getElem?_eq_getElem hn,Option.map_some]
theorem jQ{zs:List Str}{r:Int}(h0:0<=r)(h1:r<zs.length):∃ z,ixW M (.d (.list (zs.map PyData.str))) r=some (.d (.str z))/\z∈zs:=by obtain⟨d,e,hd⟩:=agp (M:=M) (ds:=zs.map PyData.str) h0 (by simpa using h1);obtain⟨i,hi,rfl⟩:=List.mem_map.mp hd;exact⟨i,e,hi⟩
theorem wx(h:Bag M p):∃ o,M p=some o:=by obtain⟨a,b,c,ns,e,_⟩:=h;exact⟨_,e⟩
theorem fk(h:Bag M p)(e:M' p=M p):Bag M' p:=by obtain⟨a,b,c,ns,h1,h2⟩:=h;exact⟨a,b,c,ns,e.trans h1,h2⟩
end Stc
namespace D
open L2
def afk(i:Nat)(te:TD)(f:Int->Int->Int)(D:Ed)(τ:DS)(M:MH):Prop:=∃ a,τ[i]? =some (some (.d (.int a)))/\te τ M λ w M1=>∃ b,w=.d (.int b)/\D.nx (τ.set i (some (.d (.int (f a b))))) M1
def aiZ(lo:Int)(n:Nat):It:=⟨λ i _=>i<n,λ i H x H'=>H'=H/\x=.int (lo+i * (-1)),λ i _=>n<=i⟩
theorem rY{P:Program}{w:World}{K:FG}{tg:Expr}(it:Addr)(lo:Int)(n:Nat):Turn P w K tg (aiZ lo n) [it] it (λ i h=>IsRangeIter h it (lo+(i:Nat) * (-1)) ((n:Int)-(i:Nat)) (-1)) where
 mem:=by simp
 obj:=λ i h st b hb=>by
  have e:b=it:=by simpa using hb
  subst e;exact⟨_,st,λ v z=>by have z':Data.fields _=Data.cell v:=z;cases z'⟩
 keep:=λ i h h' st k=>k it (by simp) _ st
 item:=by intro X hP hw hK hc i pins s σ H E I hf st hg;subst hP hw hK;obtain⟨f0,f1,f2,f3,f4,f5⟩:=hf it (by simp);have W:=Walks.range (prog:=X.prog) (w:=X.w) (I.ok.hd hc) it lo (-1) n;refine W.item i s _ _ hg st λ v h' tk hv st' kk=>?_;obtain⟨t,rfl⟩:=hv;have I1:Inv X pins σ H {s with heap:=h',toks:=tk}:=I.turned (λ b o hb e=>kk b o (by simpa using hb) e) f0 f1 f3 f4 f5;exact⟨_,rfl,qi (s:={s with heap:=h',toks:=tk}) (n:= "range_iterator") st' rfl rfl (by decide) ⟨.int (lo+i * (-1)),H,I1,⟨t,rfl⟩,⟨rfl,rfl⟩,st',λ b hb=>(hf b hb).1⟩⟩
 done:=by intro X hP hw hK hc i pins s σ H E I hf st hg;subst hP hw hK;obtain⟨f0,f1,f2,f3,f4,f5⟩:=hf it (by simp);exact wpAny_pyNext_range_end (I.ok.hd hc) st (by have:n<=i:=hg;omega) λ h' eb=>⟨rfl,I.turned (t':=s.toks) (λ b o hb e=>eb b o hb e) f0 f1 f3 f4 f5⟩
 self:=λ _ _ _ _ _ st h=>wpAny_pyIter_rangeiter st h
theorem ow(h0:0<=n):Builtin.Range.rangeSize n 0 (-1)=n:=by
 unfold Builtin.Range.rangeSize;rw[if_neg (by decide)]
 split
 ·simp
 ·omega
theorem uX(h0:0<=n)(h1:n<=1000):Builtin.Range.small n 0 (-1)=true:=by
 have hm:(1000:Int)<2 ^ 62:=by decide
 unfold Builtin.Range.small;rw[ow h0];simp only[Builtin.Range.rangeFitsLong,Bool.and_eq_true,Bool.or_eq_true,decide_eq_true_eq,beq_iff_eq];exact⟨⟨⟨⟨⟨by omega,by omega⟩,by decide,by decide⟩,by decide,by decide⟩,by omega,by omega⟩,.inr (by decide)⟩
def aie(ta:TA):TI:=λ σ H R=>ta σ H λ vs H1=>∃ n:Int,vs=[.int n,.int 0,.int (-1)]/\0<=n/\n<=1000/\R (aiZ n n.toNat) H1
theorem xx(hg:Gl X "range")(hm:X.mg "range" = none)(ha:PA X [a,b,c] ta)(hs:starEach [a,b,c] X.env=(false,eval a X.env)::starEach [b,c] X.env:=by rfl)(hpl:(backTo pos (starEach [b,c] X.env)).any (·.1)=false:=by rfl) :
  PI X tg (.Call (.Name "range" p) [a,b,c] [] pos) (aie ta):=by
 intro pins s σ H R I h;refine Call_ (eP I hg hm boot_range (PyProof.Rows.callWith_type1 (thn (ha pos pins s σ H _ I h) λ us s1 ⟨vs,H1,I1,r1,q1⟩=>?_) hs hpl));obtain⟨n,e,q1,q2,q⟩:=q1;subst e;cases r1 with
 | cons r rr =>
  cases rr with
  | cons r' rr =>
   cases rr with
   | cons r'' rr =>
    cases rr;obtain⟨t,rfl⟩:=r;obtain⟨t',rfl⟩:=r';obtain⟨t'',rfl⟩:=r'';refine call_range_3 (by decide) ?_ (Or.inl (PyProof.noPylong_small (by decide)));refine wpAny_pyIter_range (IsRange.new ..) (uX q1 q2) ?_;have I2:Inv X pins σ H1 {s1 with heap:=s1.heap.push {cls:=.type "range",data:=.fields #[.int n t,.int 0 t',.int (-1) t'']}}:=I1.kept (t':=s1.toks) λ b o e=>Heap.get?_push_of_some _ e;refine⟨_,[_],_,_,H1,rfl,I2.kept (t':=s1.toks) λ b o e=>Heap.get?_push_of_some _ e,rY _ n n.toNat,?_,λ b hb=>?_,q⟩
    ·have e1:n+((0:Nat):Int) * (-1)=n:=by simp
     have e2:((n.toNat:Nat):Int)-((0:Nat):Int)=Builtin.Range.rangeSize n 0 (-1):=by rw[ow q1];omega
     show IsRangeIter _ _ (n+((0:Nat):Int) * (-1)) (((n.toNat:Nat):Int)-((0:Nat):Int)) (-1);rw[e1,e2];exact Heap.get?_push_size _ rfl
    ·rw[List.mem_singleton] at hb;rw[hb];exact I2.n4 (Nat.le_refl _) (I2.hok.fresh (Nat.le_refl _))
def pq(n:Int):List W:=(List.range n.toNat).map λ i=>.d (.int (n-(i:Nat)))
def afv(t:TAd)(τ:DS)(M:MH)(R:List W->MH->Prop):Prop:=t τ M λ ws M1=>∃ n:Int,ws=[.d (.int n),.d (.int 0),.d (.int (-1))]/\0<=n/\n<=1000/\R (pq n) M1
section
variable {K:FG}
def ahs(di:TId)(g:TGd)(tt:TTd)(te:TD)(k:Nat)(fr:List Nat)(τ:DS)(M:MH)(Q:QD):Prop:=di τ M λ ws M1=>∃ P:Nat->List PyData->DS->MH->Prop,P 0 [] (abX k fr τ) M1 /\
 (∀ i w acc τ M,ws[i]? =some w->P i acc τ M->acc.length<sizeLine/\g w τ M λ τ2 M2=>tt τ2 M2 λ b M3=>if b=true then te τ2 M3 λ y M4=>∃ d,y=.d d/\P (i+1) (acc++[d]) τ2 M4 else P (i+1) acc τ2 M3) /\
 ∀ acc τ M,P ws.length acc τ M->∀ p,M p=none->Q (.m p) (bH M p (.lst (acc.map W.d)))
theorem ad9(h:up K (ahs di g tt te k fr) σ H Q) :
  tLC (upI K di) (upG K g) (upT K tt) (up K te) k fr σ H Q:=by
 obtain⟨τ,M,Qd,A,h,kk⟩:=h;refine⟨τ,M,_,A,h,λ J H1 ws M1 kp m1 it hq85=>?_⟩;obtain⟨P,p0,pt,pe⟩:=hq85;refine⟨λ i n ys σ' H'=>n=ws.length-i/\i<=ws.length/\Kp H1 H'/\∃ acc τ M,aO K H' acc ys/\Abs K H' σ' τ M/\P i acc τ M,⟨ws.length,by simp,Nat.zero_le _,Kp.refl _,[],_,M1,by simp[aO],tG (A.go kp m1) k fr,p0⟩,?_⟩;rintro i n ys σ2 H2 ⟨rfl,hi,kp2,acc,τ2,M2,ra,A2,p2⟩;obtain⟨go,stop,yld⟩:=it H2 kp2 i
 by_cases hlt:i<ws.length
 ·have hlen:=ra.length;refine .inr ⟨go hlt,?_,λ x H3 y=>?_⟩
  ·obtain⟨w,hw⟩:∃ w,ws[i]? =some w:=⟨ws[i],by simp[hlt]⟩;have:=(pt i w acc τ2 M2 hw p2).1;omega
  obtain⟨kp3,mk,w,ew,rw⟩:=yld x H3 hlt y;refine⟨w,τ2,M2,_,rw,A2.go kp3 (mk _ A2.mem),(pt i w acc τ2 M2 ew p2).2,λ σ4 H4 τ4 M4 kp4 A4 q4=>⟨τ4,M4,_,A4,q4,λ b H5 M5 kp5 m5 q5=>?_⟩⟩;have kq:=(kp3.trans kp4).trans kp5;cases b with
  | false =>
   rw[if_neg Bool.false_ne_true] at q5;show(if false=true then _ else _);rw[if_neg Bool.false_ne_true];exact⟨ws.length-(i+1),by omega,rfl,hlt,kp2.trans kq,acc,τ4,M5,ra.keep kq,A4.go kp5 m5,q5⟩
  | true =>
   rw[if_pos rfl] at q5;show(if true=true then _ else _);rw[if_pos rfl];refine⟨τ4,M5,_,A4.go kp5 m5,q5,λ v H6 wv M6 kp6 r6 m6 hq86=>?_⟩;obtain⟨d,e6,q6⟩:=hq86;subst e6;refine⟨ws.length-(i+1),by omega,rfl,hlt,kp2.trans (kq.trans kp6),acc++[d],τ4,M6,aO.append (ra.keep (kq.trans kp6)) ?_,A4.go (kp5.trans kp6) m6,q6⟩;simp only[aO];exact⟨v,[],rfl,r6,rfl⟩
 ·have hl:i=ws.length:=by omega
  subst hl;refine .inl ⟨stop (Nat.le_refl _),λ p hp=>?_⟩;have kp9:Kp H2 (upd H2 p (.lst ys)):=Kp.new hp;exact kgo kk (kp.trans kp2) _ _ (.m p) _ kp9 rfl (A2.mem.put (mo:=.lst (acc.map W.d)) kp9 ⟨_,aq,(ra.keep kp9).ws⟩) (pe acc τ2 M2 p2 p (A2.mem.free hp))
variable {X:Cx}{sc:Scope}{own:List Str}{fr:List Nat}{di:TId}{g:TGd}{tt:TTd}{te:TD}{tg iter elt:Expr}{ifs:List Expr}{pos:Pos}
theorem adC(hc:X.calm=true)(L:oE X sc own fr)(hi:PId X tg iter di)
  (hg:∀ cl C s H ex pl,PGd (blk X sc (lcN X own fr) cl C s H ex pl) tg g)(ht:∀ cl C s H ex pl,ud (blk X sc (lcN X own fr) cl C s H ex pl) ifs tt)(he:∀ cl C s H ex pl,PD (blk X sc (lcN X own fr) cl C s H ex pl) elt te)
  (hs:∀ x,foldedSetIterable iter X.env x=pure x:=by intro _;rfl):PD X (.ListComp elt [⟨tg,iter,ifs,0⟩] sc pos) (ahs di g tt te own.length fr):=
 gp (ahi hc L hi hg ht he hs) λ σ H Q h=>ad9 h
end
section
variable {X:Cx}{K:FG}
def ahc:R2:=λ x y H Q=>∃ z n,x=.str z/\y=.int n/\z.length=1/\1<=n/\n<=1000/\Q (.str (Txt.mul z n)) H
theorem aei:OpR X (binaryOp .Mult) ahc:=by
 intro pins s σ H x y v u Q I rx ry h;obtain⟨z,n,rfl,rfl,hz,h1,h2,q⟩:=h;obtain⟨t,rfl⟩:=rx;obtain⟨t',rfl⟩:=ry;have hm:(1000:Int)<2 ^ 62:=by decide
 refine SB.mul ⟨?_,λ _ _=>?_,λ _ _=>?_⟩ λ t' k=>⟨.str (Txt.mul z n),H,I.tok _,⟨_,rfl⟩,q⟩
 ·simp;omega
 ·rw[hz];have:1<=(2 ^ 63-1:Int) / n:=by rw[Int.le_ediv_iff_mul_le (by omega)];omega
  omega
 ·rw[hz];have s16':=s16;unfold PySem.Builtin.Str.tooLong;exact decide_eq_false (by omega)
def aa6(w:W)(w':W)(M:MH)(Q:QD):Prop:=∃ z n,w=.d (.str z)/\w'=.d (.int n)/\z.length=1/\1<=n/\n<=1000/\Q (.d (.str (Txt.mul z n))) M
theorem aaS:OpD K ahc aa6:=by intro x y H w w' M Qd Q r1 r2 m ⟨z,n,e1,e2,hz,h1,h2,q⟩ k;subst e1 e2;simp only[ay,au] at r1 r2;exact⟨z,n,r1,r2,hz,h1,h2,k _ _ (.d (.str _)) M (Kp.refl _) (by simp[ay,au]) m q⟩
end
def ael(to:TE):TE:=λ σ H Q=>to σ H λ x H1=>∃ a kvs,x=.ref a/\Rd H1 a (.dK kvs)/\∀ v,H1 v=none->Q (.ref v) (upd H1 v (.ext λ h=>h.IsValuesView v a))
theorem aem(ho:PE X o to)(hbase:attributeBase o "values" X.env (eval o X.env)=eval o X.env:=by rfl)(hline:(apos.endLine==cpos.line)=true:=by rfl):PE X (.Call (.Attribute o "values" apos) [] [] cpos) (ael to):=by
 intro pins s σ H Q I h;refine wpAny_Call_method0_late hbase hline (thn (ho pins s σ H _ I h) λ v s1 hq87=>?_);obtain⟨x,H1,I1,r1,a,kvs,ex,hr,q⟩:=hq87;subst ex;cases r1;obtain⟨hsz,hsys,vs,rel,oo,es,ep,hd⟩:=hr.ok I1.hok;have dd:s1.heap.DictOf (aR X.prog X.w) a vs:=⟨oo,es,ep,hd⟩;have hnd:∀ b,Value.ref a=.ref b->∃ ob,s1.heap.get? b=some ob/\ob.dict=none:=λ b e=>by
  cases e;exact⟨oo,hd.1,hd.2.1.2.1⟩
 refine⟨"dict", "dict.values",PySem.F.plainAttrs_dict,PySem.F.slot_dict_values,PySem.F.type_dict_values,dd.typeIs,hnd,Calls.callWith_builtin rfl (PySem.evalArgs_none ?_)⟩;refine call_meetsIn PySem.F.slot_dict_values dd.typeIs PySem.F.entry_dict_values (PySem.F.args_dict_values_1 _) (meets_dict_values (aR X.prog X.w) a hsys) ⟨⟨vs,dd⟩,?_⟩;have hv:(s1.heap.push {cls:=.type "dict_values",data:=.fields #[.ref a]}).get? s1.heap.objs.size=some {cls:=.type "dict_values",data:=.fields #[.ref a]}:=Heap.get?_push_size _ rfl;refine⟨.ref _,_,I1.laid (a:=s1.heap.objs.size) (o:=.ext λ h=>h.IsValuesView s1.heap.objs.size a) (t':=s1.toks) (λ b ob e=>Heap.get?_push_of_some _ e) (Nat.le_refl _) ⟨⟨_,hv,rfl,rfl⟩,⟨_,hv⟩,λ h1 h2 ⟨ob,e1,e2⟩ k=>⟨ob,k ob e1,e2⟩⟩,rfl,q _ (I1.hok.fresh (Nat.le_refl _))⟩
theorem gh:∀ {ns:List Int} {kvs:List (Key×V)} {vs:List (Key×Value)} {us:List Value},KV kvs vs->kvs.map (·.2)=ns.map V.int->us.length=vs.length->(∀ (i:Nat) v,us[i]? =some v->∃ k,vs[i]? =some (k,v))->IntsAre us ns
 | [],kvs,vs,us,r,h,hl,hp=>by
  have e:kvs=[]:=by simpa using h
  subst e;cases r;have e:us=[]:=by simpa using hl
  subst e;exact .nil
 | n::ns,kvs,vs,us,r,h,hl,hp=>by
  match kvs,us,r,h,hl,hp with
  | (k,x)::kvs,u::us,.cons (b:=b) r1 r2,h,hl,hp =>
   simp only[List.map_cons,List.cons.injEq] at h;obtain⟨k',e⟩:=hp 0 u rfl;simp at e;have hx:=r1.2;rw[h.1,e] at hx;obtain⟨t,et⟩:=(show ∃ t,u=Value.int n t from hx);subst et;exact .cons n t (gh r2 h.2 (by simpa using hl) λ i v hi=>by simpa using hp (i+1) v (by simpa using hi))
  | [],_,r,h,_,_=>simp at h
  | _::_,[],.cons _ _,_,hl,_=>simp at hl
theorem lK:∀ {ns:List Int} {us:List Value},IntsAre us ns->Vals (ns.map V.int) us
 | _,_,.nil=>.nil
 | _,_,.cons n t h=>.cons ⟨t,rfl⟩ (lK h)
def acB(to:TE):TE:=λ σ H Q=>ael to σ H λ x H2=>∃ v a kvs,∃ ns:List Int,x=.ref v/\H2 v=some (.ext λ h=>h.IsValuesView v a)/\Rd H2 a (.dK kvs)/\kvs.map (·.2)=ns.map V.int/\ns.length<64 /\
 ∀ ns':List Int,ns'.Perm ns->(ns'.Pairwise (· >= ·))->∀ l,H2 l=none->Q (.ref l) (upd H2 l (.lst (ns'.map V.int)))
theorem vF(hc:X.calm=true)(hg:Gl X "sorted")(hm:X.mg "sorted" = none)(ho:PE X o to)(hbase:attributeBase o "values" X.env (eval o X.env)=eval o X.env:=by rfl)(hline:(apos.endLine==cpos.line)=true:=by rfl) :
  PE X (.Call (.Name "sorted" p) [.Call (.Attribute o "values" apos) [] [] cpos] [⟨some "reverse",.Constant (.bool true) j kp,kpos⟩] pos) (acB to):=by
 intro pins s σ H Q I h;have pa:PA X [.Call (.Attribute o "values" apos) [] [] cpos] (kI (ael to) yZ):=iS (aem ho hbase hline) lQ;have pk:PK X [⟨some "reverse",.Constant (.bool true) j kp,kpos⟩] (kI (tC (.bl true)) yZ):=ni aga wk;refine wpAny_Call_Name_kw (eP I hg hm kT (callWith_kw ?_));refine thn (pa pos pins s σ H (λ vs H2=>match vs with
  | [x]=>∃ v a kvs,∃ ns:List Int,x=.ref v/\H2 v=some (.ext λ h=>h.IsValuesView v a)/\Rd H2 a (.dK kvs)/\kvs.map (·.2)=ns.map V.int/\ns.length<64/\∀ ns':List Int,ns'.Perm ns->(ns'.Pairwise (· >= ·))->∀ l,H2 l=none->Q (.ref l) (upd H2 l (.lst (ns'.map V.int)))
  | _=>False) I h) λ us s1 ⟨vs,H2,I1,r1,hx⟩=>?_
 match vs,r1,hx with
 | [x],r1,⟨v,a,kvs,ns,ex,hv,hr,hk,h64,q⟩ =>
  subst ex;obtain⟨u,rfl,ru⟩:=vals1 r1;cases ru;refine thn (pk pos pins s1 σ H2 (λ ks H3=>ks=[.bl true]/\H3=H2) I1 ⟨rfl,rfl⟩) λ kus s2 hq88=>?_;obtain⟨ks,H3,I2,r2,ek,eH⟩:=hq88;subst ek eH;obtain⟨ku,rfl,rk⟩:=vals1 r2;cases (show ku=Value.bool true from rk);show wpAny _ _ (call (.builtin "sorted") [.ref v] [(Str.ofString "reverse",.bool true)]) _ _ s2;refine call_function_entry_kw kind_sorted plain_sorted entry_sorted (args_sorted_rev _ _) ?_;obtain⟨hsz,hsys,vs',rel,oo,es,ep,hd⟩:=hr.ok I2.hok;obtain⟨hview,_⟩:=(show c4 X.prog X.w H3 s2.heap v (.ext λ h=>h.IsValuesView v a) from I2.hok v _ hv);have hln:vs'.length=ns.length:=by have h1:=rel.length;have h2:=congrArg List.length hk;rw[List.length_map,List.length_map] at h2;omega
  have at1:∀ (h':Heap) (l:List Value),(h'.push (seqObj "list" l.toArray 0)).get? h'.objs.size=some (seqObj "list" l.toArray 0):=λ h' l=>Heap.get?_push_size _ rfl;unfold Builtin.«sorted»;refine wpAny_bind (m:=checkCount "sorted" 1 1 _) (wpAny_pure (wpAny_bind (W.kdu_collect (A:=X.A.in1) (W.kdl_values (knd:=aR X.prog X.w) (r:=v) (d:=a) (kvs:=vs') (ep:=ep)) (I.ok.hd hc) ⟨hview,⟨oo,es,hd⟩⟩ (by rw[sizeLine_eq];omega) λ h' tk acc old hacc=>?_)));have hla:acc.toList.length=vs'.length:=by rw[Array.length_toList];exact hacc.1
  have hI:IntsAre acc.toList ns:=gh rel hk hla λ i w hi=>hacc.2 i w (by rw[<- Array.getElem?_toList];exact hi);refine wpAny_bind (wpAny_newList ?_ (by rw[hla,sizeLine_eq];omega));refine wpAny_bind (wpAny_holding (wpAny_call_entry_kw slot_list_sort ⟨_,at1 h' acc.toList,rfl⟩ entry_list_sort (list_sort_tree_rev (s:={s2 with heap:=h'.push (seqObj "list" acc.toList.toArray 0),toks:=tk}) (at1 h' acc.toList) hI (by omega) λ out ns' a1 a2 a3=>⟨_,rfl,wpAny_pure ⟨_,rfl,?_⟩⟩) (args_list_sort_rev _ _)));obtain⟨n,e⟩:=sortedHeap_at (h:=h'.push (seqObj "list" acc.toList.toArray 0)) (vs:=acc.toList) (out:=out) (at1 h' acc.toList);have hge:s2.heap.get? h'.objs.size=none:=by
   cases q1:s2.heap.get? h'.objs.size with
   | none=>rfl
   | some ob =>
    have:=Heap.lt_size (old _ _ q1);exact absurd this (Nat.lt_irrefl _)
  have keep:∀ b ob,s2.heap.get? b=some ob->(sortedHeap (h'.push (seqObj "list" acc.toList.toArray 0)) h'.objs.size acc.toList out).get? b=some ob:=λ b ob eb=>by have l1:b<h'.objs.size:=Heap.lt_size (old b ob eb);rw[sortedHeap_old (Nat.ne_of_lt l1) (by rw[size_push'];exact Nat.lt_succ_of_lt l1),Heap.get?_push_of_some _ (old b ob eb)]
  have I':Inv X pins σ (upd H3 h'.objs.size (.lst (ns'.map V.int))) {s2 with heap:=sortedHeap (h'.push (seqObj "list" acc.toList.toArray 0)) h'.objs.size acc.toList out,toks:=tk}:=by refine Inv.af0 I2 keep hge ⟨?_,out.toList,n,lK a1,by rw[Array.toArray_toList];exact e⟩;rw[List.length_map,a2.length_eq];have:=s16;omega
  exact⟨.ref _,_,I',rfl,q ns' a2 (by unfold Ordered at a3;rw[if_pos rfl] at a3;exact a3) _ (qx I2.hok hge)⟩
 | [],_,hx=>exact hx.elim
 | _::_::_,_,hx=>exact hx.elim
def iY(ns:List Int):List W:=ns.map λ n=>.d (.int n)
def vM(td:TD)(τ:DS)(M:MH)(Q:QD):Prop:=td τ M λ w M1=>∃ a kvs,∃ ns:List Int,w=.m a/\M1 a=some (.dic kvs)/\kvs.map (·.2)=iY ns/\ns.length<64/\∀ ns':List Int,ns'.Perm ns->(ns'.Pairwise (· >= ·))->∀ l,M1 l=none->Q (.m l) (bH M1 l (.lst (iY ns')))
theorem vX{K:FG}{H:Hp}:∀ {ns:List Int} {kvs:List (Key×W)} {l:List (Key×V)},kvs.map (·.2)=iY ns->Paired (λ(p:Key×W) (q:Key×V)=>p.1=q.1/\ay K H p.2 q.2) kvs l->l.map (·.2)=ns.map V.int
 | [],kvs,l,h,pr=>by
  have e:kvs=[]:=by simpa [iY] using h
  subst e;cases pr;rfl
 | n::ns,kvs,l,h,pr=>by
  match kvs,pr,h with
  | (k,x)::kvs,.cons r t,h =>
   simp only[iY,List.map_cons,List.cons.injEq] at h;have hx:=r.2;rw[h.1] at hx;simp only[ay,au] at hx;rw[List.map_cons,hx,vX h.2 t];rfl
  | [],_,h=>simp[iY] at h
theorem oQ{K:FG}{H:Hp}:∀ (ns:List Int),bB K H (iY ns) (ns.map V.int)
 | []=>.nil
 | n::ns=>.cons (by simp[ay,au]) (oQ ns)
theorem wJ(hN:X.N.Nodup)(hi:X.N[i]? =some x)(hx:Loc X.env.scope x)(he:Jd (PD X e te))(hp:PIp X op (ipI f))(hf:X.fn x=true\/X.env.scope.names.lookup x=some .local:=by first | exact .inl rfl | exact .inr rfl | assumption) :
  Jd (PSd X (.AugAssign (.Name x pos') op e pos) (afk i te f)):=⟨have he:=he.h;sX (afH hN hi hx he hp hf) λ D σ H hq81=>by
 obtain⟨τ,M,Dd,A,⟨a,ea,h⟩,k1,_⟩:=hq81;obtain⟨v,ev,rv⟩:=A.val i _ ea;simp only[ay,au] at rv;subst rv;refine⟨_,ev,τ,M,_,A,h,λ u H1 w M1 kp r m hq82=>?_⟩;obtain⟨b,eb,q⟩:=hq82;subst eb;simp only[ay,au] at r;subst r;exact⟨a,b,rfl,rfl,k1 _ H1 _ M1 kp ((A.go kp m).set i (w:=.d (.int (f a b))) (by simp[ay,au])) q⟩⟩
theorem qk(hg:Gl X "range")(hm:X.mg "range" = none)(ha:Jd (PAd X [a,b,c] t))(h1:gB a=false:=by rfl)(h2:([b,c].all λ e=>!gB e)=true:=by rfl):Jd (PId X tg (.Call (.Name "range" p) [a,b,c] [] pos) (afv t)):=⟨have ha:=ha.h;
 abi (xx hg hm ha (cE a [b,c] X.env h1) (eF pos X.env [b,c] h2)) λ σ H R ⟨τ,M,Rd,A,h,k⟩=>⟨τ,M,_,A,h,λ vs H1 ws M1 kp r m hq83=>by
  obtain⟨n,e,q1,q2,q⟩:=hq83;subst e;obtain⟨v1,v2,v3,e1,r1,r2,r3⟩:∃ v1 v2 v3,vs=[v1,v2,v3]/\ay X.K H1 (.d (.int n)) v1/\ay X.K H1 (.d (.int 0)) v2/\ay X.K H1 (.d (.int (-1))) v3:=by
   cases r with
   | cons r1 rr =>
    cases rr with
    | cons r2 rr =>
     cases rr with
     | cons r3 rr =>
      cases rr;exact⟨_,_,_,rfl,r1,r2,r3⟩
  simp only[ay,au] at r1 r2 r3;subst r1 r2 r3;refine⟨n,e1,q1,q2,k _ H1 _ M1 kp m (λ H2 kp2 i=>?_) q⟩;have hl:(pq n).length=n.toNat:=by simp[pq]
  refine⟨λ hi=>by rw[hl] at hi;exact hi,λ hi=>by rw[hl] at hi;exact hi,λ x H' hi hq84=>?_⟩;obtain⟨eH,ex⟩:=hq84;subst ex eH;rw[hl] at hi;refine⟨Kp.refl _,λ M m=>m,.d (.int (n-(i:Nat))),by simp[pq,hi],?_⟩;simp only[ay,au];congr 1;omega⟩⟩
theorem acv(hc:X.calm=true)(L:oE X sc own fr)(hi:Jd (PId X tg iter di))
  (hg:∀ cl C s H ex pl,Jd (PGd (blk X sc (lcN X own fr) cl C s H ex pl) tg g))(ht:∀ cl C s H ex pl,Jd (ud (blk X sc (lcN X own fr) cl C s H ex pl) ifs tt))(he:∀ cl C s H ex pl,Jd (PD (blk X sc (lcN X own fr) cl C s H ex pl) elt te))
  (hs:∀ x,foldedSetIterable iter X.env x=pure x:=by intro _;rfl):Jd (PD X (.ListComp elt [⟨tg,iter,ifs,0⟩] sc pos) (ahs di g tt te own.length fr)):=
 ⟨D.adC hc L hi.h (λ cl C s H ex pl=>(hg cl C s H ex pl).h) (λ cl C s H ex pl=>(ht cl C s H ex pl).h) (λ cl C s H ex pl=>(he cl C s H ex pl).h) hs⟩
theorem uO(hc:X.calm=true)(hg:Gl X "sorted")(hm:X.mg "sorted" = none)(ho:Jd (PD X o td))(hbase:attributeBase o "values" X.env (eval o X.env)=eval o X.env:=by rfl)(hline:(apos.endLine==cpos.line)=true:=by rfl) :
  Jd (PD X (.Call (.Name "sorted" p) [.Call (.Attribute o "values" apos) [] [] cpos] [⟨some "reverse",.Constant (.bool true) j kp,kpos⟩] pos) (vM td)):=⟨have ho:=ho.h;gp (vF hc hg hm ho hbase hline) λ σ H Q hq89=>by
 obtain⟨τ,M,Qd,A,h,k⟩:=hq89;refine⟨τ,M,_,A,h,λ x H1 w M1 kp1 r1 m1 hq90=>?_⟩;obtain⟨a,kvs,ns,ew,hmm,hk,h64,q⟩:=hq90;subst ew;obtain⟨l,e,pr⟩:=m1 _ _ hmm;refine⟨a,l,r1,.inl e,λ v hv=>?_⟩;have na:a≠v:=λ z=>by rw[z,hv] at e;cases e
 refine⟨v,a,l,ns,rfl,aq,.inl (by rw[aj na];exact e),vX hk pr,h64,λ ns' h1 h2 c hcc=>?_⟩;have kp2:Kp H1 (upd H1 v (.ext λ h=>h.IsValuesView v a)):=Kp.new hv;have m2:=m1.new (o:=.ext λ h=>h.IsValuesView v a) hv;have kp3:Kp (upd H1 v (.ext λ h=>h.IsValuesView v a)) (upd (upd H1 v (.ext λ h=>h.IsValuesView v a)) c (.lst (ns'.map V.int))):=Kp.new hcc;exact kgo k kp1 _ _ (.m c) _ (kp2.trans kp3) rfl (m2.put (mo:=.lst (iY ns')) kp3 ⟨_,aq,oQ ns'⟩) (q ns' h1 h2 c (m2.free hcc))⟩
theorem ki(hg:Gl X "enumerate")(hm:X.mg "enumerate" = none)(ha:Jd (PAd X [a] t))(h1:gB a=false:=by rfl):Jd (PId X (.Tuple elts x1 tpos) (.Call (.Name "enumerate" p) [a] [] pos) (z7 t)):=⟨have ha:=ha.h;abi (acP hg hm ha (by rw[cE a [] X.env h1];rfl)) λ σ H R hq78=>by
 obtain⟨τ,M,Rd,A,h,k⟩:=hq78;refine⟨τ,M,_,A,h,λ vs H1 ws M1 kp r m hq79=>?_⟩;obtain⟨ds,ew,q⟩:=hq79;subst ew;obtain⟨v,ev,r1⟩:=d4 r;simp only[ay,au] at r1;obtain⟨b,xs,e1,hs,ra⟩:=r1;subst ev e1;have hl:=ra.length;refine⟨b,xs,rfl,hs.sq,k _ H1 _ M1 kp m (λ H2 kp2 i=>?_) q⟩;have hs2:=(hs.keep kp2).sq;have hlw:(mW ds).length=xs.length:=by simp[mW,hl]
 refine⟨λ hi=>⟨xs,xs[i]'(by omega),hs2,by simp⟩,λ hi=>⟨xs,hs2,by omega⟩,λ x H' hi hq80=>?_⟩;obtain⟨T,v,hT,ex,eH,hv⟩:=hq80;subst ex eH;have hxv:=hv xs hs2;obtain⟨d,e3,rd⟩:=(ra.keep kp2).get' hxv;have kpn:Kp H2 (upd H2 T (.tup [.int i,v])):=Kp.new hT;have hid:i<ds.length:=by rw[hlw] at hi;omega
 refine⟨kpn,λ M m=>m.new hT,.d (.tuple [.int (i:Nat),ds.getD i .none]),by simp[mW,hid],?_⟩;have ed:ds.getD i .none=d:=by simp[List.getD,e3]
 rw[ed];simp only[ay,au,aO];exact⟨T,_,rfl,.inl (.inl aq),_,_,rfl,rfl,_,_,rfl,rd.keep kpn,rfl⟩⟩
structure ai6(K:FG)(x qual:Str)(st:Stmt)(f:Addr)(fd:FuncData):Prop where
 ex:∃ (oc:Value) (od:Option Addr) (dV kV doc pm:Value) (an:Option Addr) (cdv ct:Value) (osl:Array (Option Value)),
  fd=W.fnOf x qual (bM st) (bu st) (ao st) dV kV doc pm an cdv ct/\K.lookup f=some ⟨oc,od,.func fd,osl⟩/\W.codeIn K cdv qual=true
 kp:W.keepIn K (.ref f)=true
structure FnD(K:FG)(mg:Str->Option Value)(x:Str)(st:Stmt)(ps:List Str)(d:Int)(f:Addr)(fd:FuncData):Prop where
 fn:ai6 K x x st f fd
 mg:mg x=some (.ref f)
 bd:∃ t,Binds K fd ps [.int d t]
section
variable {P:Program}{w:World}{K:FG}{mg:Str->Option Value}{base h:Heap}
theorem adO{x qual:Str}{st:Stmt}{N ps:List Str}{k:Nat}{sp:SpD}{t:TSd}(F:ai6 K x qual st f fd)(S:aN N ps (ao st))(len:∀ ws M Q,sp ws M Q->ws.length=ps.length)
  (hbody:∀ (cdv:Value) (A:Around) (outer:List Env) (s:Shared) (H:Hp) (E:XK),eQ k (A.deeper (envOfC qual (ao st) s.heap.objs.size f cdv)) ->
   oN (zQ CX0 P w K mg base N qual (ao st) f cdv A outer s H E).nox (bu st) t)
  (read:∀ ws M Q,sp ws M Q->t {nx:=λ _ M'=>Q (.d .none) M',rt:=Q} (aY N ws) M):eB P w K mg base CX0 (k+1) f fd ps (eW K sp):=by
 obtain⟨oc,od,dV,kV,doc,pm,an,cdv,ct,osl,rfl,lk,hcd⟩:=F.ex;refine adL lk hcd S (λ vs H Q E h=>?_) (λ A outer s H vs Q E hr h=>?_)
 ·obtain⟨ws,M,Qd,r,_,q,_⟩:=h;rw[<- r.length];exact len _ _ _ q
 ·obtain⟨ws,M,Qd,r,m,q,kk⟩:=h;refine⟨_,L2.PSs.nox (hbody cdv A outer s H E hr),aY N ws,M,_,kR r m,read ws M Qd q,λ σ' H' τ' M' kp A' q'=>?_,λ v H' w' M' kp r' m' q'=>?_,λ σ' H' τ' M' kp A' q'=>q'.elim,λ σ' H' τ' M' kp A' q'=>q'.elim⟩
  ·exact kk _ H' _ M' kp (by simp[ay,au]) A'.mem q'
  ·exact kk v H' w' M' kp r' m' q'
theorem afE{st:Stmt}{ps:List Str}{d:Int}{f T:Addr}{oc oc2:Value}{od od2 an:Option Addr}{osl osl2:Array (Option Value)}{kV doc pm cdv ct:Value}{tk:Tok}{n:Nat}(X:K.In h)(G:h.Ns mainGlobals mg)(a:W.nsIn K mainGlobals x=some (some (.ref f)))
  (l:K.lookup f=some ⟨oc,od,.func (W.fnOf x x (bM st) (bu st) (ao st) (.ref T) kV doc pm an cdv ct),osl⟩)(c:W.codeIn K cdv x=true)(k:W.keepIn K (.ref f)=true)
  (lt:K.lookup T=some ⟨oc2,od2,.seq #[.int d tk] n,osl2⟩)
  (b:∀ (us:List Value),us.length+1=ps.length->∃ kk:Option (Array Value)->Sem (List (Str×Value)),bindArgs (W.fnOf x x (bM st) (bu st) (ao st) (.ref T) kV doc pm an cdv ct) ⟨us,[]⟩=seqItems? (.ref T) >>= kk/\kk (some #[.int d tk])=pure (ps.zip (us++[.int d tk]))) :
  FnD K mg x st ps d f (W.fnOf x x (bM st) (bu st) (ao st) (.ref T) kV doc pm an cdv ct):=
 ⟨⟨⟨oc,od,.ref T,kV,doc,pm,an,cdv,ct,osl,rfl,l,c⟩,k⟩,W.mg_of X G a,tk,λ s us hK hl=>by obtain⟨kk,h1,h2⟩:=b us (by simpa using hl);exact BindsTo.of_defaults rfl (hK T _ lt) rfl h1 h2⟩
end
def vV(sp:SpD)(d:Int)(t:TAd)(τ:DS)(M:MH)(Q:QD):Prop:=t τ M λ ws M1=>sp (ws++[.d (.int d)]) M1 Q
theorem ajs(F:eB X.prog X.w X.K X.mg X.base CX0 k f fd ps (eW X.K sp))(hr:eQ k X.A)(hg:Gl X x)(hm:X.mg x=some (.ref f))(hk:W.keepIn X.K (.ref f)=true)(hb:∃ tk,Binds X.K fd ps [.int d tk])
  (ha:PAd X (e::es) t)(hdb:ND x:=by decide)(h1:gB e=false:=by rfl)(h2:(es.all λ e=>!gB e)=true:=by rfl) :
  PD X (.Call (.Name x p) (e::es) [] pos) (vV sp d t):=by
 obtain⟨tk,hb⟩:=hb;refine gp (xD (E:=E0) (dvs:=[.int d]) F hr hg hm hk hb (.cons ⟨tk,rfl⟩ .nil) afT ha hdb (cE e es X.env h1) (eF pos X.env es h2)) λ σ H Q h=>?_;obtain⟨τ,M,Qd,A,h,k⟩:=h;exact⟨τ,M,_,A,h,λ vs H1 ws M1 kp r1 m1 q1=>⟨ws++[.d (.int d)],M1,Qd,bB.append r1 (.cons (by simp[ay,au]) .nil),m1,q1,kgo k kp⟩⟩
theorem ajd(F:eB X.prog X.w X.K X.mg X.base CX0 k f fd ps (eW X.K sp))(hr:eQ k X.A)(hg:Gl X x)(hm:X.mg x=some (.ref f))(hk:W.keepIn X.K (.ref f)=true)(hb:∃ tk,Binds X.K fd ps [.int d tk])
  (ha:Jd (PAd X (e::es) t))(hdb:ND x:=by decide)(h1:gB e=false:=by rfl)(h2:(es.all λ e=>!gB e)=true:=by rfl) :
  Jd (PD X (.Call (.Name x p) (e::es) [] pos) (vV sp d t)):=⟨ajs F hr hg hm hk hb ha.h hdb h1 h2⟩
def abp(c:TTd)(tb:TSd)(D:Ed)(τ:DS)(M:MH):Prop:=∃ P:Nat->DS->MH->Prop,(∃ m,P m τ M)/\∀ m τ M,P m τ M ->
 c τ M λ b M1=>if b=true then tb {D with nx:=λ τ' M'=>∃ m',m'<m/\P m' τ' M',ct:=λ τ' M'=>∃ m',m'<m/\P m' τ' M',bk:=D.nx} τ M1 else D.nx τ M1
end D
open L2 D
theorem uH(hp:PassesOwn (model X.prog X.w) X.A X.env X.xe)(hc:Jd (PTd X c tc))(hb:Jd (oN X body tb)):Jd (PSd X (.While c body [] pos) (abp tc tb)):=⟨have hc:=hc.h;have hb:=hb.h;
 sX (aam hp hc hb) λ D σ H hq91=>by
  obtain⟨τ,M,Dd,A,⟨P,⟨m0,p0⟩,step⟩,k1,k2,k3,k4⟩:=hq91;refine⟨λ m σ' H'=>Kp H H'/\∃ τ' M',Abs X.K H' σ' τ' M'/\P m τ' M',⟨m0,Kp.refl _,τ,M,A,p0⟩,?_⟩;rintro m σ1 H1 ⟨kp,τ1,M1,A1,p1⟩;refine⟨τ1,M1,_,A1,step m τ1 M1 p1,λ b H2 M2 kp2 m2 q=>?_⟩;have kq:=kp.trans kp2;cases b with
  | false =>
   rw[if_neg Bool.false_ne_true] at q;exact dP (k1 _ H2 _ M2 kq (A1.go kp2 m2) q)
  | true =>
   rw[if_pos rfl] at q;refine gE ⟨λ σ' H'=>Kp H2 H'/\∃ m',m'<m/\∃ τ' M',Abs X.K H' σ' τ' M'/\P m' τ' M',λ σ' H' ⟨kp3,m',hm,τ',M',A',p'⟩=>⟨m',hm,kq.trans kp3,τ',M',A',p'⟩,?_⟩;exact⟨τ1,M2,_,A1.go kp2 m2,q,λ σ3 H3 τ3 M3 kp3 A3 ⟨m',hm,p'⟩=>⟨kp3,m',hm,τ3,M3,A3,p'⟩,λ v H3 w M3 kp3=>k2 v H3 w M3 (kq.trans kp3),λ σ3 H3 τ3 M3 kp3=>k1 σ3 H3 τ3 M3 (kq.trans kp3),λ σ3 H3 τ3 M3 kp3 A3 ⟨m',hm,p'⟩=>⟨kp3,m',hm,τ3,M3,A3,p'⟩⟩⟩
namespace Stc
open L2 D Rc
abbrev oV:List Str:=["thing"]
def pv:TSd:=
  bp (dIf (dOr (xB (aJ (dCB ij (ae (ag 0) (ae (dC (.t "str")) (aK)))))) (xB (aJ (jk ab4 ab4 (dC (.d (.int 1))) (dCB df (ae (ag 0) (aK))) (dC (.d (.int 8)))))))
   (dY (dC (.d (.bool false))))
   (cF)) <|
  dY (dCB aav (ae (dLC (bj (ag 0)) (gN 0) (ql) (jk ab4 ab4 (dC (.d (.str "a"))) (ag 0) (dC (.d (.str "z")))) 1 []) (aK)))
abbrev lO:List Str:=["thing"]
def lX:TSd:=
  dY (mI (dCB ij (ae (ag 0) (ae (dC (.t "int")) (aK)))) (acw (dCB ij (ae (ag 0) (ae (dC (.t "bool")) (aK))))))
abbrev j8:List Str:=["thing", "low", "high"]
def kB(ck:SpD):TSd:=
  dY (mI (bq ck (ae (ag 0) (aK))) (jk ab4 ab4 (ag 1) (ag 0) (ag 2)))
abbrev fL:List Str:=["row", "least"]
def fH(bz aT:SpD):TSd:=
  dY (mI (dCB ij (ae (ag 0) (ae (dC (.t "tuple")) (aK)))) (mI (dOp eo (dCB df (ae (ag 0) (aK))) (dC (.d (.int 2)))) (mI (bq bz (ae (dOp cj (ag 0) (dC (.d (.int 0)))) (aK))) (bq aT (ae (dOp cj (ag 0) (dC (.d (.int 1)))) (ae (ag 1) (ae (dC (.d (.int 6))) (aK))))))))
abbrev fM:List Str:=["berths", "least", "at", "row"]
def fR(aQ:SpD):TSd:=
  bp (dIf (xB (aJ (dCB ij (ae (ag 0) (ae (dC (.t "list")) (aK))))))
   (kh)
   (cF)) <|
  j6 (z7 (ae (ag 0) (aK))) (gT 2 (aM (gN 2) (aM (gN 3) (fD))))
   (dIf (dOr (aJ (dOp agN (ag 2) (dC (.d (.int 8))))) (dOr (xB (aJ (bq aQ (ae (ag 3) (ae (ag 1) (aK)))))) (adw (aJ (dOp aar (ag 2) (dC (.d (.int 0))))) (aJ (dOp ab4 (dOp cj (ag 3) (dC (.d (.int 0)))) (dOp cj (dOp cj (ag 0) (dOp uy (ag 2) (dC (.d (.int 1))))) (dC (.d (.int 0)))))))))
    (kh)
    (cF))
abbrev gR:List Str:=["row"]
def gF(bz aT:SpD):TSd:=
  bp (dIf (dOr (xB (aJ (dCB ij (ae (ag 0) (ae (dC (.t "tuple")) (aK)))))) (aJ (dOp xT (dCB df (ae (ag 0) (aK))) (dC (.d (.int 3))))))
   (dY (dC (.d (.bool false))))
   (cF)) <|
  dY (mI (bq bz (ae (dOp cj (ag 0) (dC (.d (.int 0)))) (aK))) (mI (bq bz (ae (dOp cj (ag 0) (dC (.d (.int 1)))) (aK))) (bq aT (ae (dOp cj (ag 0) (dC (.d (.int 2)))) (ae (dC (.d (.int 0))) (ae (dC (.d (.int 6))) (aK)))))))
abbrev gU:List Str:=["asked", "at", "row"]
def gL(bo:SpD):TSd:=
  bp (dIf (xB (aJ (dCB ij (ae (ag 0) (ae (dC (.t "list")) (aK))))))
   (kh)
   (cF)) <|
  j6 (z7 (ae (ag 0) (aK))) (gT 2 (aM (gN 1) (aM (gN 2) (fD))))
   (dIf (dOr (aJ (dOp agN (ag 1) (dC (.d (.int 8))))) (dOr (xB (aJ (bq bo (ae (ag 2) (aK))))) (aJ (dOp (qz false) (dOp cj (ag 2) (dC (.d (.int 0)))) (dLC (bj (dSl (ag 0) (fT) (mK (ag 1)))) (gN 0) (ql) (dOp cj (ag 0) (dC (.d (.int 0)))) 1 [])))))
    (kh)
    (cF))
abbrev gH:List Str:=["berths", "asked"]
def gQ(aV bb:SpD):TSd:=
  bp (lh (vV aV 0 (ae (ag 0) (aK)))) <|
  lh (bq bb (ae (ag 1) (aK)))
abbrev oO:List Str:=["rooms", "demands", "demanded", "at", "many", "room"]
def ot:TSd:=
  bp (bW (dC (.d (.int 0))) (gN 2)) <|
  bp (j6 (z7 (ae (i4 (vM (ag 1))) (aK))) (gT 2 (aM (gN 3) (aM (gN 4) (fD))))
   (bp (afk 2 (ag 4) (λ i j=>i+j)) <|
   bp (bW (dCB af9 (ae (dLC (bj (ag 0)) (gN 0) (ql) (dCB abV (ae (ag 0) (ae (dOp cX (ag 1) (dC (.d (.int 1)))) (aK)))) 1 [3]) (aK))) (gN 5)) <|
   dIf (aJ (dOp aar (ag 2) (ag 5)))
    (dY (pz (ae (dOp cX (ag 3) (dC (.d (.int 1)))) (ae (ag 2) (ae (ag 5) (aK))))))
    (cF))) <|
  dY (dC (.d .none))
abbrev kZ:List Str:=["demands", "kind", "many", "more"]
def kL:TSd:=
  bp (bW (dCB tP (ae (ag 0) (aK))) (gN 3)) <|
  bp (qW (ag 3) (ag 1) (dOp cX (uo (ag 3) (ag 1) (dC (.d (.int 0)))) (ag 2))) <|
  dY (ag 3)
abbrev gG:List Str:=["rooms", "demands", "kind", "copies", "run"]
def gK(cQ aW:SpD):TSd:=
  bp (j6 (afv (ae (ag 3) (ae (dC (.d (.int 0))) (ae (dUn aer (dC (.d (.int 1)))) (aK))))) (gN 4)
   (dIf (aJ (dOp (rF false) (bq cQ (ae (ag 0) (ae (bq aW (ae (ag 1) (ae (ag 2) (ae (ag 4) (aK))))) (aK)))) (dC (.d .none))))
    (dY (ag 4))
    (cF))) <|
  dY (dC (.d (.int 0)))
abbrev o3:List Str:=["rooms", "asked", "demands", "ran", "wish", "kind", "copies", "run"]
def pV(bh aW:SpD):TSd:=
  bp (bW (kc) (gN 2)) <|
  bp (bW (qg (aK)) (gN 3)) <|
  bp (j6 (bj (ag 1)) (gT 3 (aM (gN 4) (aM (gN 5) (aM (gN 6) (fD)))))
   (bp (bW (bq bh (ae (ag 0) (ae (ag 2) (ae (ag 5) (ae (ag 6) (aK)))))) (gN 7)) <|
   bp (bW (bq aW (ae (ag 2) (ae (ag 5) (ae (ag 7) (aK))))) (gN 2)) <|
   lh (g9 (ag 3) (pz (ae (ag 4) (ae (ag 5) (ae (ag 7) (aK)))))))) <|
  dY (ag 3)
abbrev lP:List Str:=["berths"]
def lW:TSd:=
  dY (dLC (bj (ag 0)) (gT 2 (aM (gN 0) (aM (gN 1) (fD)))) (ql) (ag 1) 2 [])
abbrev pO:List Str:=["berths", "asked"]
def oS(bc cT cv:SpD):TSd:=
  bp (lh (bq bc (ae (ag 0) (ae (ag 1) (aK))))) <|
  dY (ahs (bj (i4 (bq cT (ae (bq cv (ae (ag 0) (aK))) (ae (ag 1) (aK)))))) (gT 3 (aM (gN 0) (aM (gN 1) (aM (gN 2) (fD))))) (ql) (pz (ae (ag 0) (ae (ag 2) (aK)))) 3 [])
def Ext(M M':MH):Prop:=∀ q o,M q=some o->M' q=some o
theorem Ext.refl(M:MH):Ext M M:=λ _ _ h=>h
theorem Ext.trans(h:Ext A B)(k:Ext B C):Ext A C:=λ q o e=>k q o (h q o e)
theorem Ext.new(h:M p=none):Ext M (bH M p o):=λ q u e=>ad6 e h
theorem Ext.del(h:Ext M M')(hp:M p=none):Ext M (lD M' p):=λ q u e=>by have hq:q≠p:=vP e hp;simp only[lD,if_neg hq];exact h q u e
theorem Ext.upd(h:Ext M M')(hp:M p=none):Ext M (bH M' p o):=λ q u e=>by rw[aI (vP e hp)];exact h q u e
theorem Ext.none(h:Ext M M')(hp:M' p=none):M p=none:=by
 cases e:M p with
 | none=>rfl
 | some o=>rw[h p o e] at hp;cases hp
theorem Ext.bag(h:Ext M M')(hb:Bag M p):Bag M' p:=by obtain⟨a,b,c,ns,e,z⟩:=hb;exact⟨a,b,c,ns,h _ _ e,z⟩
theorem jZ{α:Type}{gt:TGd}{te:TD}{Q:List PyData->DS->MH->Prop}{τ0:DS}{M:MH}(L:List α)(g:α->W)(f:α->PyData)(S:DS->Prop)(hL:L.length<=1000)(h0:S τ0)
  (step:∀ a∈L,∀ τ,S τ->∀ R:PyData->DS->MH->Prop,(∀ τ2,S τ2->R (f a) τ2 M)->gt (g a) τ M λ τ2 M2=>te τ2 M2 λ y M4=>∃ d,y=.d d/\R d τ2 M4)
  (q:∀ τ,Q (L.map f) τ M) :
  ∃ P:Nat->List PyData->DS->MH->Prop,P 0 [] τ0 M /\
   (∀ i w acc τ M,(L.map g)[i]? =some w->P i acc τ M->acc.length<sizeLine/\gt w τ M λ τ2 M2=>ql τ2 M2 λ b M3=>if b=true then te τ2 M3 λ y M4=>∃ d,y=.d d/\P (i+1) (acc++[d]) τ2 M4 else P (i+1) acc τ2 M3) /\
   ∀ acc τ M,P (L.map g).length acc τ M->Q acc τ M:=by
 refine⟨λ i acc τ M'=>M'=M/\acc=(L.take i).map f/\S τ,⟨rfl,rfl,h0⟩,?_,?_⟩
 ·rintro i w acc τ M' hw ⟨rfl,rfl,hs⟩;rw[List.getElem?_map] at hw;cases e:L[i]? with
  | none=>rw[e] at hw;cases hw
  | some a =>
   rw[e] at hw;cases hw;have hi:=(List.getElem?_eq_some_iff.mp e).1;refine⟨by rw[List.length_map,List.length_take];have:=s16;omega,?_⟩;refine step a (List.mem_of_getElem? e) τ hs (λ d τ2 M4=>M4=M'/\(L.take i).map f++[d]=(L.take (i+1)).map f/\S τ2) λ τ2 h2=>⟨rfl,?_,h2⟩;rw[List.take_succ,e];simp
 ·rintro acc τ M' ⟨rfl,rfl,hs⟩;rw[List.length_map,List.take_length];exact q τ
abbrev Dm:=List (Str×Int)
def gI(r:Str×Int):PyData:=.int r.2
def Dc(M:MH)(a:Addr)(D:Dm):Prop:=M a=some (.dic (aS (rk Prod.fst gI D)))
def Sm(D:Dm)(c:Nat):Prop:=D.length<=c/\∀ r∈D,0<=r.2/\r.2<=6 * (c:Int)
def val(D:Dm)(k:Str):Int:=((fd Prod.fst D k).map (·.2)).getD 0
def more(D:Dm)(k:Str)(n:Int):Dm:=pt Prod.fst D (k,val D k+n)
theorem aik(h:Sm D c)(k:Str):0<=val D k/\val D k<=6 * (c:Int):=by
 unfold val;cases e:fd Prod.fst D k with
 | none=>simp only[Option.map_none,Option.getD_none];omega
 | some r=>exact h.2 r (eJ e).1
theorem rO(h:Sm D c)(k:Str)(n0:0<=n)(n6:n<=6):Sm (more D k n) (c+1):=by
 have hv:=aik h k;refine⟨?_,λ r hr=>?_⟩
 ·have:=agd (nm:=Prod.fst) D (k,val D k+n);have h1:=h.1;unfold more;omega
 ·rcases vf (nm:=Prod.fst) hr with e | e
  ·subst e;dsimp only;omega
  ·have:=h.2 r e;omega
def vals(D:Dm):List Int:=D.map λ r=>r.2
theorem adv(D:Dm):(aS (rk Prod.fst gI D)).map (·.2)=iY (vals D):=by rw[zt,iY,vals,List.map_map,List.map_map];rfl
theorem abK(D:Dm):(aS (rk Prod.fst gI D)).length=D.length:=by simp[aS,rk]
def dsc(ns:List Int):List Int:=ns.mergeSort λ a b=>decide (a >= b)
theorem cg(ns:List Int):(dsc ns).Perm ns:=List.mergeSort_perm _ _
theorem gz(ns:List Int):(dsc ns).Pairwise (· >= ·):=by have:=List.pairwise_mergeSort (le:=λ a b:Int=>decide (a >= b)) (λ a b c h1 h2=>by simp at *;omega) (λ a b=>by simp;omega) ns;exact this.imp λ h=>by simpa using h
theorem aa1(p:ns'.Perm ns)(h:ns'.Pairwise (· >= ·)):ns'=dsc ns:=
 List.Perm.eq_of_pairwise (λ a b _ _ h1 h2=>by omega) h (gz ns) (p.trans (cg ns).symm)
def room(rs:List Int)(i:Int):Int:=(rs.map λ m=>if i<m then i else m).sum
def uc(rs:List Int)(ns:List Int):Bool:=(List.range ns.length).all λ i=>decide ((ns.take (i+1)).sum<=room rs ((i:Int)+1))
def pf(rs:List Int)(D:Dm):Bool:=uc rs (dsc (vals D))
def OkR(rs:List Int):Prop:=rs.length<=8/\∀ m∈rs,0<=m/\m<=6
theorem afO{rs ns:List Int}{i:Nat}(hi:i<ns.length)(h:room rs ((i:Int)+1)<(ns.take (i+1)).sum):uc rs ns=false:=by
 unfold uc;rw[List.all_eq_false];exact⟨i,List.mem_range.mpr hi,by simp;omega⟩
theorem rm{rs ns:List Int}(h:∀ i<ns.length,(ns.take (i+1)).sum<=room rs ((i:Int)+1)):uc rs ns=true:=by
 unfold uc;rw[List.all_eq_true];exact λ i hi=>by simp;exact h i (List.mem_range.mp hi)
def gr(rs:List Int)(D:Dm)(k:Str):Nat->Int
 | 0=>0
 | n+1=>if pf rs (more D k ((n:Int)+1))=true then (n:Int)+1 else gr rs D k n
theorem ahq(rs:List Int)(D:Dm)(k:Str):∀ n,0<=gr rs D k n/\gr rs D k n<=n
 | 0=>by simp[gr]
 | n+1=>by
  have:=ahq rs D k n;unfold gr
  by_cases h:pf rs (more D k ((n:Int)+1))=true
  ·rw[if_pos h];omega
  ·rw[if_neg h];omega
def intD(ns:List Int):PyData:=.list (ns.map PyData.int)
theorem ints_map(ns:List Int):(ns.map PyData.int).map W.d=iY ns:=by rw[List.map_map];rfl
theorem sealed(hl:M l=none):Ext M (lD (bH M l o) l):=(Ext.new hl).del hl
theorem aaY{ns:List Int}{i:Nat}{n:Int}(h:ns[i]? =some n):(ns.take (i+1)).sum=(ns.take i).sum+n:=by rw[List.take_succ,h,List.sum_append];simp
theorem adN{ns:List Int}{i:Nat}(h:(mW (ns.map PyData.int))[i]? =some w):∃ n,ns[i]? =some n/\w=.d (.tuple [.int (i:Nat),.int n]):=by
 unfold mW at h;rw[List.getElem?_map] at h;have hi:i<ns.length:=by
  by_cases q:i<ns.length
  ·exact q
  ·rw[List.getElem?_eq_none (by simpa using q)] at h;cases h
 rw[List.getElem?_range (by simpa using hi)] at h;cases h;refine⟨ns[i],List.getElem?_eq_getElem hi,?_⟩;simp[List.getD,List.getElem?_map,List.getElem?_eq_getElem hi]
def roomOf(i:Int)(m:Int):Int:=if i<m then i else m
theorem kP(rs:List Int)(i:Int):room rs i=(rs.map (roomOf i)).sum:=rfl
def qv(rs ns:List Int)(i:Nat):Bool:=decide (room rs ((i:Int)+1)<(ns.take (i+1)).sum)
def adH(rs ns:List Int)(i:Nat):PyData:=.tuple [.int ((i:Int)+1),.int (ns.take (i+1)).sum,.int (room rs ((i:Int)+1))]
def qT(rs ns:List Int):PyData:=((List.range ns.length).find? (qv rs ns)).elim .none (adH rs ns)
def zD(rs:List Int)(D:Dm):PyData:=qT rs (dsc (vals D))
theorem ab8{rs ns:List Int}{i:Nat}(hi:i<ns.length)(h:room rs ((i:Int)+1)<(ns.take (i+1)).sum)(hf:∀ j<i,(ns.take (j+1)).sum<=room rs ((j:Int)+1)):qT rs ns=adH rs ns i:=by
 have:(List.range ns.length).find? (qv rs ns)=some i:=by rw[List.find?_range_eq_some];refine⟨decide_eq_true h,List.mem_range.mpr hi,λ j hj=>?_⟩;have:=hf j hj;simp only[qv,Bool.not_eq_true',decide_eq_false_iff_not];omega
 unfold qT;rw[this];rfl
theorem xl{rs ns:List Int}(hf:∀ j<ns.length,(ns.take (j+1)).sum<=room rs ((j:Int)+1)):qT rs ns=.none:=by
 have:(List.range ns.length).find? (qv rs ns)=none:=by rw[List.find?_eq_none];intro j hj;have:=hf j (List.mem_range.mp hj);simp only[qv,decide_eq_true_eq];omega
 unfold qT;rw[this];rfl
theorem zO(rs ns:List Int):isNone (.d (qT rs ns))=uc rs ns:=by
 unfold qT;cases e:(List.range ns.length).find? (qv rs ns) with
 | none =>
  rw[rm λ i hi=>?_]
  ·rfl
  ·have:=List.find?_eq_none.mp e i (List.mem_range.mpr hi);simp only[qv,decide_eq_true_eq] at this;omega
 | some i =>
  have h1:=List.find?_some e;have h2:=List.mem_of_find?_eq_some e;rw[afO (List.mem_range.mp h2) (of_decide_eq_true h1)];rfl
theorem yO(rs:List Int)(D:Dm):isNone (.d (zD rs D))=pf rs D:=zO rs _
def cQ:SpD:=λ ws M Q=>∃ (rs:List Int) (a:Addr) (D:Dm),ws=[.d (intD rs),.m a]/\Dc M a D/\D.length<=60/\OkR rs/\∀ M',Ext M M'->Q (.d (zD rs D)) M'
theorem qX:∀ ws M Q,cQ ws M Q->ws.length=2:=by rintro ws M Q ⟨rs,a,D,rfl,_⟩;rfl
theorem oF:∀ ws M Q,cQ ws M Q->ot {nx:=λ _ M'=>Q (.d .none) M',rt:=Q} (aY oO ws) M:=by
 rintro ws M Q ⟨rs,a,D,rfl,hd,hl,hr,k⟩;refine⟨_,rfl,a,_,vals D,rfl,hd,adv D,by rw[vals,List.length_map];omega,λ ns' p h l hl'=>?_⟩;obtain rfl:=aa1 p h;refine⟨l,(dsc (vals D)).map PyData.int,rfl,by rw[ak,ints_map],?_⟩;have x1:=sealed (o:=.lst (iY (dsc (vals D)))) hl';generalize lD (bH M l (.lst (iY (dsc (vals D))))) l=M1 at x1;refine⟨_,rfl,?_⟩;dsimp only;unfold zD at k;generalize dsc (vals D)=ns at k;refine⟨λ i τ M'=>M'=M1/\(∀ j<i,(ns.take (j+1)).sum<=room rs ((j:Int)+1))/\∃ x3 x4 x5,τ=[some (.d (intD rs)),some (.m a),some (.d (.int ((ns.take i).sum))),x3,x4,x5],⟨rfl,λ j hj=>(nomatch hj),_,_,_,rfl⟩,?_,?_⟩
 ·rintro i w τ M' hw ⟨rfl,hf,x3,x4,x5,rfl⟩;obtain⟨n,hn,rfl⟩:=adN hw;have hi:=(List.getElem?_eq_some_iff.mp hn).1;refine⟨_,rfl,rfl,_,_,rfl,_,_,rfl,rfl,?_⟩;refine⟨_,rfl,_,rfl,_,rfl,?_⟩;refine⟨_,rfl,_,rfl,?_⟩;rw[show(rs.map PyData.int).map W.d=rs.map λ n=>W.d (.int n) from ints_map rs];refine jZ rs (λ n=>W.d (.int n)) (λ m=>.int (roomOf ((i:Int)+1) m)) (λ τ=>∃ x,τ=[x,some (.d (.int (i:Nat)))]) (by have:=hr.1;omega) ⟨_,rfl⟩ (λ m hm τ hτ R h=>?_) (λ τ=>?_)
  ·obtain⟨x,rfl⟩:=hτ;exact⟨_,rfl,_,rfl,.inl ⟨_,_,rfl,rfl,_,_,rfl,_,rfl,h _ ⟨_,rfl⟩⟩⟩
  ·refine⟨_,rs.map (roomOf ((i:Int)+1)),rfl,by rw[show rs.map (λ m=>PyData.int (roomOf ((i:Int)+1) m))=(rs.map (roomOf ((i:Int)+1))).map PyData.int from by rw[List.map_map];rfl];exact .d,by rw[List.length_map];have:=hr.1;omega,λ m hm=>?_,?_⟩
   ·obtain⟨m',hm',rfl⟩:=List.mem_map.mp hm;have:=hr.2 m' hm';unfold roomOf
    split<;>omega
   ·rw[<- kP];refine⟨_,rfl,_,rfl,_,_,rfl,rfl,_,rfl,?_⟩;have ts:=aaY hn;refine jP (λ h=>?_) (λ h=>?_)
    ·have hlt:room rs ((i:Int)+1)<(ns.take (i+1)).sum:=by rw[ts];exact of_decide_eq_true h
     refine⟨_,rfl,.inl ⟨_,_,rfl,rfl,_,rfl,_,rfl,_,rfl,few (by simp),?_⟩⟩;have:=k _ x1;rw[ab8 hi hlt hf] at this;unfold adH at this;rw[ts] at this;exact this
    ·have hle:¬ room rs ((i:Int)+1)<(ns.take (i+1)).sum:=by rw[ts];exact of_decide_eq_false h
     refine⟨rfl,λ j hj=>?_,_,_,_,by rw[ts];rfl⟩
     by_cases q:j=i
     ·subst q;omega
     ·exact hf j (by omega)
 ·rintro τ M' ⟨rfl,hf,x3,x4,x5,rfl⟩;have:=k _ x1;rw[xl λ i hi=>hf i (by simpa [mW] using hi)] at this;exact this
abbrev Bs:=List (Str×Int)
abbrev As:=List (Str×Str×Int)
def bD(r:Str×Int):PyData:=.tuple [.str r.1,.int r.2]
def bsD(B:Bs):PyData:=.list (B.map bD)
def aD(r:Str×Str×Int):PyData:=.tuple [.str r.1,.str r.2.1,.int r.2.2]
def asD(A:As):PyData:=.list (A.map aD)
def rooms(B:Bs):List Int:=B.map (·.2)
theorem eZ{α β:Type}{L:List α}{f:α->β}{i:Nat}{w:β}(h:(L.map f)[i]? =some w):∃ a,L[i]? =some a/\w=f a:=by
 rw[List.getElem?_map] at h;cases e:L[i]? with
 | none=>rw[e] at h;cases h
 | some a=>rw[e] at h;cases h;exact⟨a,rfl,rfl⟩
theorem tH{lo:Int}{n i:Nat}{w:W}(h:(lT lo n)[i]? =some w):i<n/\w=.d (.int (lo+(i:Int))):=by
 unfold lT at h;obtain⟨j,hj,rfl⟩:=eZ h;obtain⟨h1,h2⟩:=List.getElem?_eq_some_iff.mp hj;simp at h1 h2;subst h2;exact⟨h1,rfl⟩
theorem mV{α:Type}{xs:List α}{i:Nat}(hi:i<=xs.length):D.cutD xs none (some (i:Int))=xs.take i:=by
 unfold D.cutD;have e:HT.sIx xs.length 0 none=0:=rfl;have e2:HT.sIx xs.length xs.length (some (i:Int))=i:=by
  unfold HT.sIx;simp;rw[if_neg (by omega)];omega
 rw[e,e2];simp
theorem aiG(h:Dc M a D)(k:Str):∃ o,lE M (.m a) (.d (.str k)) o/\o.getD (.d (.int 0))=.d (.int (val D k)):=by refine⟨_,.k (k:=.inr k) h,?_⟩;rw[fm];unfold val;cases fd Prod.fst D k<;>rfl
theorem dput(D:Dm)(k:Str)(n:Int):uZ (aS (rk Prod.fst gI D)) (.inr k) (.d (.int (val D k+n)))=aS (rk Prod.fst gI (more D k n)):=
 vJ (nm:=Prod.fst) gI D (k,val D k+n) rfl
def aW:SpD:=λ ws M Q=>∃ (a:Addr) (D:Dm) (k:Str) (n:Int),ws=[.m a,.d (.str k),.d (.int n)]/\Dc M a D/\D.length<=60/\∀ p M',M p=none->Dc M' p (more D k n)->Ext M M'->Q (.m p) M'
theorem nF:∀ ws M Q,aW ws M Q->ws.length=3:=by rintro ws M Q ⟨a,D,k,n,rfl,_⟩;rfl
theorem lq:∀ ws M Q,aW ws M Q->kL {nx:=λ _ M'=>Q (.d .none) M',rt:=Q} (aY kZ ws) M:=by
 rintro ws M Q ⟨a,D,k,n,rfl,hd,hl,K⟩;have s16':=s16;refine⟨_,rfl,a,_,rfl,hd,λ p hp=>?_⟩;have hd1:Dc (bH M p (.dic (aS (rk Prod.fst gI D)))) p D:=ak;obtain⟨o,h1,h2⟩:=aiG hd1 k;refine⟨_,rfl,.k hd1,_,rfl,o,h1,?_⟩;rw[h2];refine⟨_,rfl,.inl ⟨_,_,rfl,rfl,_,rfl,_,rfl,p,_,.inr k,rfl,hd1,rfl,by rw[abK];omega,?_⟩⟩;refine⟨_,rfl,K p _ hp ?_ ?_⟩
 ·show bH _ p _ p=_;rw[ak];exact congrArg (λ z=>some (MO.dic z)) (dput D k n)
 ·exact(Ext.new hp).upd hp
theorem xE(rs:List Int)(D:Dm)(k:Str)(n:Nat):gr rs D k (n+1)=if pf rs (more D k ((n:Int)+1))=true then (n:Int)+1 else gr rs D k n:=rfl
theorem acb{n:Int}{i:Nat}{w:W}(h:(pq n)[i]? =some w):i<n.toNat/\w=.d (.int (n-(i:Int))):=by
 unfold pq at h;obtain⟨j,hj,rfl⟩:=eZ h;obtain⟨h1,h2⟩:=List.getElem?_eq_some_iff.mp hj;simp at h1 h2;subst h2;exact⟨by omega,rfl⟩
def bh:SpD:=λ ws M Q=>∃ (rs:List Int) (a:Addr) (D:Dm) (k:Str) (c:Int),ws=[.d (intD rs),.m a,.d (.str k),.d (.int c)]/\Dc M a D/\Sm D 9/\OkR rs/\0<=c/\c<=6/\∀ M',Ext M M'->Q (.d (.int (gr rs D k c.toNat))) M'
theorem jn:∀ ws M Q,bh ws M Q->ws.length=4:=by rintro ws M Q ⟨rs,a,D,k,n,rfl,_⟩;rfl
theorem i8:∀ ws M Q,bh ws M Q->gK cQ aW {nx:=λ _ M'=>Q (.d .none) M',rt:=Q} (aY gG ws) M:=by
 rintro ws M Q ⟨rs,a,D,k,c,rfl,hd,hs,hr,c0,c6,K⟩;refine⟨_,rfl,1,rfl,c,rfl,c0,by omega,?_⟩;refine⟨λ i τ M'=>i<=c.toNat/\Ext M M'/\gr rs D k c.toNat=gr rs D k (c.toNat-i)/\∃ x,τ=[some (.d (intD rs)),some (.m a),some (.d (.str k)),some (.d (.int c)),x],⟨Nat.zero_le _,Ext.refl M,rfl,_,rfl⟩,?_,?_⟩
 ·rintro i w τ M' hw ⟨hi,x1,hg,x,rfl⟩;obtain⟨hlt,rfl⟩:=acb hw;refine⟨_,rfl,_,rfl,_,rfl,_,rfl,a,D,k,_,rfl,x1 _ _ hd,by have:=hs.1;omega,λ p M1 hp h1 x2=>?_⟩;have hm:=rO hs k (n:=c-(i:Int)) (by omega) (by omega);refine⟨rs,p,_,rfl,h1,by have:=hm.1;omega,hr,λ M2 x3=>⟨rfl,_,rfl,?_⟩⟩;have e1:c.toNat-i=(c.toNat-(i+1))+1:=by omega
  have e2:((c.toNat-(i+1):Nat):Int)+1=c-(i:Int):=by omega
  rw[e1,xE,e2] at hg;have e3:(xor false (isNone (.d (zD rs (more D k (c-(i:Int)))))))=pf rs (more D k (c-(i:Int))):=by rw[yO];simp
  refine jP (λ h=>?_) (λ h=>?_)
  ·rw[if_pos (e3.symm.trans h)] at hg;have:=K M2 ((x1.trans x2).trans x3);rw[hg] at this;exact⟨_,rfl,this⟩
  ·rw[if_neg (by rw[<- e3,h];decide)] at hg;exact⟨by omega,(x1.trans x2).trans x3,hg,_,rfl⟩
 ·rintro τ M' ⟨hi,x1,hg,x,rfl⟩;have:=K M' x1;rw[hg,show(pq c).length=c.toNat from by simp[pq],Nat.sub_self] at this;exact this
def stp(rs:List Int)(s:Dm×As)(r:Str×Str×Int):Dm×As:=
 (more s.1 r.2.1 (gr rs s.1 r.2.1 r.2.2.toNat),s.2++[(r.1,r.2.1,gr rs s.1 r.2.1 r.2.2.toNat)])
def run(rs:List Int)(A:As):Dm×As:=A.foldl (stp rs) ([],[])
theorem jE{rs:List Int}{A:As}{i:Nat}{r:Str×Str×Int}(h:A[i]? =some r):run rs (A.take (i+1))=stp rs (run rs (A.take i)) r:=by
 unfold run;rw[List.take_succ,h,List.foldl_append];rfl
def OkC(A:As):Prop:=A.length<=8/\∀ r∈A,0<=r.2.2/\r.2.2<=6
theorem xR{rs:List Int}{A:As}(h:OkC A):∀ i,i<=A.length->Sm (run rs (A.take i)).1 i/\(run rs (A.take i)).2.length=i
 | 0,_=>by simp[run,Sm]
 | i+1,hi=>by
  have hlt:i<A.length:=by omega
  have e:A[i]? =some A[i]:=List.getElem?_eq_getElem hlt;obtain⟨h1,h2⟩:=xR (rs:=rs) h i (by omega);have hc:=h.2 A[i] (List.getElem_mem hlt);have hg:=ahq rs (run rs (A.take i)).1 (A[i]).2.1 (A[i]).2.2.toNat;rw[jE e];refine⟨rO h1 _ (by omega) (by omega),?_⟩;show((run rs (A.take i)).2++[_]).length=_;rw[List.length_append,h2];rfl
theorem sm9{D:Dm}{i:Nat}(h:Sm D i)(hi:i<=9):Sm D 9:=⟨by have:=h.1;omega,λ r hr=>by have:=h.2 r hr;omega⟩
def cT:SpD:=λ ws M Q=>∃ (rs:List Int) (A:As),ws=[.d (intD rs),.d (asD A)]/\OkR rs/\OkC A/\∀ p M',M p=none->M' p=some (.lst (((run rs A).2.map aD).map W.d))->Ext M M'->Q (.m p) M'
theorem rp:∀ ws M Q,cT ws M Q->ws.length=2:=by rintro ws M Q ⟨rs,A,rfl,_⟩;rfl
theorem qf:∀ ws M Q,cT ws M Q->pV bh aW {nx:=λ _ M'=>Q (.d .none) M',rt:=Q} (aY o3 ws) M:=by
 rintro ws M Q ⟨rs,A,rfl,hr,hA,K⟩;have s16':=s16;have hA1:=hA.1;refine λ d hd=>⟨few (by simp),λ l hl=>?_⟩;have hl':bH M d (.dic []) l=none:=hl;have ld:l≠d:=λ e=>by rw[e,ak] at hl';cases hl'
 have hlM:M l=none:=by rw[aI ld] at hl';exact hl'
 have x0:Ext M (bH (bH M d (.dic [])) l (.lst [])):=((Ext.refl M).upd hd).upd hlM;refine⟨_,rfl,_,rfl,?_⟩;dsimp only;refine⟨λ i τ M'=>i<=A.length/\Ext M M'/\M' l=some (.lst (((run rs (A.take i)).2.map aD).map W.d))/\∃ a x4 x5 x6 x7,Dc M' a (run rs (A.take i)).1/\τ=[some (.d (intD rs)),some (.d (asD A)),some (.m a),some (.m l),x4,x5,x6,x7],⟨Nat.zero_le _,x0,ak,d,_,_,_,_,by unfold Dc;rw[aI ld.symm,ak];rfl,rfl⟩,?_,?_⟩
 ·rintro i w τ M' hw ⟨hi,x1,h1,a,x4,x5,x6,x7,h2,rfl⟩;obtain⟨d',hd',rfl⟩:=eZ hw;obtain⟨r,hr',rfl⟩:=eZ hd';have hlt:=(List.getElem?_eq_some_iff.mp hr').1;have hc:=hA.2 r (List.mem_of_getElem? hr');obtain⟨hsm,hlen⟩:=xR (rs:=rs) hA i (by omega);refine⟨_,rfl,rfl,_,_,rfl,_,_,rfl,_,_,rfl,rfl,?_⟩;refine⟨_,rfl,_,rfl,_,rfl,_,rfl,rs,a,_,r.2.1,r.2.2,rfl,h2,sm9 hsm (by omega),hr,hc.1,hc.2,λ M1 x2=>?_⟩;refine⟨_,rfl,_,rfl,_,rfl,a,_,r.2.1,_,rfl,x2 _ _ h2,by have:=hsm.1;omega,λ p M2 hp h3 x3=>?_⟩;have h4:=x3 _ _ (x2 _ _ h1);refine⟨_,rfl,l,_,rfl,h4,_,rfl,_,rfl,_,rfl,_,rfl,few (by simp),_,h4,by rw[List.length_map,List.length_map,hlen];omega,?_⟩;have pl:p≠l:=λ e=>by rw[e,x2 _ _ h1] at hp;cases hp
  refine⟨hlt,((x1.trans x2).trans x3).upd hlM,?_,p,_,_,_,_,?_,rfl⟩
  ·rw[ak,jE hr'];show _=some (MO.lst ((((run rs (A.take i)).2++[_]).map aD).map W.d));rw[List.map_append,List.map_append];rfl
  ·unfold Dc;rw[aI pl,jE hr'];exact h3
 ·rintro τ M' ⟨hi,x1,h1,a,x4,x5,x6,x7,h2,rfl⟩;have e1:A.take (((A.map aD).map W.d)).length=A:=by rw[List.length_map,List.length_map,List.take_length]
  rw[e1] at h1;exact⟨_,rfl,K l M' hlM h1 x1⟩
def cv:SpD:=λ ws M Q=>∃ B:Bs,ws=[.d (bsD B)]/\B.length<=8/\Q (.d (intD (rooms B))) M
theorem qh:∀ ws M Q,cv ws M Q->ws.length=1:=by rintro ws M Q ⟨B,rfl,_⟩;rfl
theorem nU:∀ ws M Q,cv ws M Q->lW {nx:=λ _ M'=>Q (.d .none) M',rt:=Q} (aY lP ws) M:=by
 rintro ws M Q ⟨B,rfl,hB,K⟩;refine⟨_,rfl,_,rfl,?_⟩;dsimp only;rw[List.map_map];refine jZ B (W.d ∘ bD) (λ r=>.int r.2) (λ τ=>∃ x y,τ=[x,y]) (by omega) ⟨_,_,rfl⟩ (λ r hr τ hτ R h=>?_) (λ τ=>?_)
 ·obtain⟨x,y,rfl⟩:=hτ;exact⟨_,rfl,rfl,_,_,rfl,_,_,rfl,rfl,_,rfl,_,rfl,h _ ⟨_,_,rfl⟩⟩
 ·unfold intD rooms at K;rw[List.map_map] at K;exact K
def due(rs:List Int)(A:As):Bs:=(run rs A).2.map λ r=>(r.1,r.2.2)
def tj(c:Nat):Bool:=decide (97<=c)&&decide (c<=122)
def wd(z:Str):Bool:=decide (1<=z.length)&&decide (z.length<=8)&&z.cps.toList.all tj
theorem abj(h:wd z=true):1<=z.length/\z.length<=8:=by simp[wd] at h;exact h.1
theorem abM(h:wd z=true):∀ c∈z.cps.toList,tj c=true:=by simp only[wd,Bool.and_eq_true,List.all_eq_true] at h;exact h.2
theorem ae0(h:wd z=true):m8 z=true:=by have:=abM h;unfold m8;rw[<- Array.all_toList,List.all_eq_true];intro c hc;have:=this c hc;simp[tj] at this;simp;omega
theorem ais{c:Bool}{A B:Prop}(e:c=true)(h:A):if c=true then A else B:=by rw[e];exact gE h
theorem ahJ{c:Bool}{A B:Prop}(e:c=false)(h:B):if c=true then A else B:=by rw[e];exact dP h
theorem lt1(a b:Nat):decide ([a] < [b])=decide (a<b):=by
 by_cases h:a<b
 ·rw[decide_eq_true h];exact decide_eq_true (List.cons_lt_cons_iff.mpr (.inl h))
 ·rw[decide_eq_false h];refine decide_eq_false λ z=>?_;rcases List.cons_lt_cons_iff.mp z with q | ⟨_,q⟩
  ·exact h q
  ·exact absurd q (by simp)
theorem ahN(i:Int):jw (.int i) "int" = true:=by simp[jw,tyD]
theorem agO(i:Int):jw (.int i) "bool" = false:=by simp[jw,tyD]
theorem ah7(z:Str):jw (.str z) "str" = true:=by simp[jw,tyD]
theorem agV(ds:List PyData):jw (.list ds) "list" = true:=by simp[jw,tyD]
theorem afX(ds:List PyData):jw (.tuple ds) "tuple" = true:=by simp[jw,tyD]
def ck:SpD:=λ ws M Q=>∃ i:Int,ws=[.d (.int i)]/\Q (.d (.bool true)) M
theorem pd:∀ ws M Q,ck ws M Q->ws.length=1:=by rintro ws M Q ⟨d,rfl,_⟩;rfl
theorem mL:∀ ws M Q,ck ws M Q->lX {nx:=λ _ M'=>Q (.d .none) M',rt:=Q} (aY lO ws) M:=by
 rintro ws M Q ⟨i,rfl,k⟩;refine⟨_,rfl,_,_,_,rfl,.d,.int,_,rfl,?_⟩;rw[ahN];refine gE ⟨_,rfl,_,_,_,rfl,.d,.bool,_,rfl,?_⟩;rw[agO];exact k
def aT:SpD:=λ ws M Q=>∃ i lo hi:Int,ws=[.d (.int i),.d (.int lo),.d (.int hi)]/\lo<=i/\i<=hi/\Q (.d (.bool true)) M
theorem nE:∀ ws M Q,aT ws M Q->ws.length=3:=by rintro ws M Q ⟨i,lo,hi,rfl,_⟩;rfl
theorem lC:∀ ws M Q,aT ws M Q->kB ck {nx:=λ _ M'=>Q (.d .none) M',rt:=Q} (aY j8 ws) M:=by
 rintro ws M Q ⟨i,lo,hi,rfl,h1,h2,k⟩;refine⟨_,rfl,i,rfl,_,rfl,gE ⟨_,rfl,_,rfl,.inl ⟨_,_,rfl,rfl,_,rfl,?_⟩⟩⟩;rw[decide_eq_true h1];refine gE ⟨_,rfl,.inl ⟨_,_,rfl,rfl,?_⟩⟩;rw[show((λ i j:Int=>PyData.bool (decide (i<=j))) i hi)=.bool true from congrArg PyData.bool (decide_eq_true h2)];exact k
def bz:SpD:=λ ws M Q=>∃ z:Str,ws=[.d (.str z)]/\wd z=true/\Q (.d (.bool true)) M
theorem rq:∀ ws M Q,bz ws M Q->ws.length=1:=by rintro ws M Q ⟨d,rfl,_⟩;rfl
theorem qd:∀ ws M Q,bz ws M Q->pv {nx:=λ _ M'=>Q (.d .none) M',rt:=Q} (aY oV ws) M:=by
 rintro ws M Q ⟨z,rfl,hz,k⟩;have hl:=abj hz;have hfit:adz (.d (.str z))=true:=decide_eq_true (few (by omega));refine⟨_,rfl,_,_,_,rfl,.d,.str,_,rfl,?_⟩;rw[ah7];refine dP ⟨_,rfl,_,_,rfl,rfl,hfit,.inl ⟨_,_,rfl,rfl,_,rfl,?_⟩⟩;rw[decide_eq_true (show(1:Int)<=(z.length:Nat) by omega)];refine gE (.inl ⟨_,_,rfl,rfl,_,rfl,?_⟩);rw[decide_eq_true (show((z.length:Nat):Int)<=8 by omega)];refine dP ⟨_,rfl,_,rfl,?_⟩;dsimp only;have ea:("a" : Str).cps.toList=[97]:=by decide +kernel
 have ez:("z" : Str).cps.toList=[122]:=by decide +kernel
 refine jZ z.cps.toList (λ c=>W.d (.str ⟨#[c]⟩)) (λ c=>.bool true) (λ τ=>∃ x,τ=[x]) (by rw[str_len];omega) ⟨_,rfl⟩ (λ c hc τ hτ R h=>?_) (λ τ=>?_)
 ·obtain⟨x,rfl⟩:=hτ;have hs:=abM hz c hc;simp[tj] at hs;have q1:(!decide ((⟨#[c]⟩:Str).cps.toList<("a" : Str).cps.toList))=true:=by rw[ea,show(⟨#[c]⟩:Str).cps.toList=[c] from rfl,lt1];simp;omega
  have q2:(!decide (("z" : Str).cps.toList<(⟨#[c]⟩:Str).cps.toList))=true:=by rw[ez,show(⟨#[c]⟩:Str).cps.toList=[c] from rfl,lt1];simp;omega
  refine⟨_,rfl,.inr ⟨_,_,rfl,rfl,_,rfl,?_⟩⟩;refine ais q1 (.inr ⟨_,_,rfl,rfl,?_⟩);refine⟨_,rfl,?_⟩;have:=h [some (.d (.str ⟨#[c]⟩))] ⟨_,rfl⟩;rw[<- q2] at this;exact this
 ·refine⟨z.cps.toList.map λ _=>true,by rw[List.map_map];rfl,?_⟩;rw[show(z.cps.toList.map λ _=>true).all id=true from by rw[List.all_eq_true];intro b hb;obtain⟨_,_,rfl⟩:=List.mem_map.mp hb;rfl];exact k
def af3(r:Str×Int):Prop:=wd r.1=true/\0<=r.2/\r.2<=6
def aQ:SpD:=λ ws M Q=>∃ r:Str×Int,ws=[.d (bD r),.d (.int 0)]/\af3 r/\Q (.d (.bool true)) M
theorem il:∀ ws M Q,aQ ws M Q->ws.length=2:=by rintro ws M Q ⟨r,rfl,_⟩;rfl
theorem aju:PyData.eqv (.int ((2:Nat):Int)) (.int 2)=true:=by decide +kernel
theorem gW:∀ ws M Q,aQ ws M Q->fH bz aT {nx:=λ _ M'=>Q (.d .none) M',rt:=Q} (aY fL ws) M:=by
 rintro ws M Q ⟨r,rfl,hr,k⟩;refine⟨_,rfl,_,_,_,rfl,.d,.tuple,_,rfl,?_⟩;rw[show jw (bD r) "tuple" = true from afX _];refine gE ⟨_,rfl,_,_,rfl,rfl,rfl,_,_,.d,.d,(show eX (.int ((2:Nat):Int)) (.int 2)=true by decide +kernel),_,rfl,?_⟩;rw[show PyData.eqv (.int (([PyData.str r.1,PyData.int r.2].length:Nat):Int)) (.int 2)=true from aju];refine gE ⟨_,rfl,0,_,rfl,rfl,rfl,r.1,rfl,hr.1,_,rfl,gE ⟨_,rfl,1,_,rfl,rfl,rfl,_,rfl,r.2,0,6,rfl,hr.2.1,hr.2.2,k⟩⟩
def lsS(a b:Str):Bool:=decide (a.cps.toList<b.cps.toList)
structure OkB(B:Bs):Prop where
 len:B.length<=8
 row:∀ r∈B,af3 r
 up:∀ i r s,B[i]? =some r->B[i+1]? =some s->lsS r.1 s.1=true
theorem sF{α:Type}{L:List α}{f:α->PyData}{i:Nat}{w:W}(h:(mW (L.map f))[i]? =some w):∃ r,L[i]? =some r/\w=.d (.tuple [.int (i:Nat),f r]):=by
 unfold mW at h;rw[List.getElem?_map] at h;have hi:i<L.length:=by
  by_cases q:i<L.length
  ·exact q
  ·rw[List.getElem?_eq_none (by simpa using q)] at h;cases h
 rw[List.getElem?_range (by simpa using hi)] at h;cases h;refine⟨L[i],List.getElem?_eq_getElem hi,?_⟩;simp[List.getD,List.getElem?_map,List.getElem?_eq_getElem hi]
theorem agu{α:Type}{M:MH}{L:List α}{f:α->PyData}{i:Nat}{r:α}{j:Int}(hj:j=(i:Int))(h:L[i]? =some r):ixW M (.d (.list (L.map f))) j=some (.d (f r)):=by subst hj;have hi:=(List.getElem?_eq_some_iff.mp h).1;simp only[ixW,atI];rw[xw (by omega) (by rw[List.length_map];omega)];simp[h]
def aV:SpD:=λ ws M Q=>∃ B:Bs,ws=[.d (bsD B),.d (.int 0)]/\OkB B/\Q (.d .none) M
theorem i7:∀ ws M Q,aV ws M Q->ws.length=2:=by rintro ws M Q ⟨r,rfl,_⟩;rfl
theorem iw:∀ ws M Q,aV ws M Q->fR aQ {nx:=λ _ M'=>Q (.d .none) M',rt:=Q} (aY fM ws) M:=by
 rintro ws M Q ⟨B,rfl,hB,k⟩;refine⟨_,rfl,_,_,_,rfl,.d,.list,_,rfl,?_⟩;rw[show jw (bsD B) "list" = true from agV _];refine dP ⟨_,rfl,_,rfl,?_⟩;refine⟨λ i τ M'=>M'=M/\∃ x2 x3,τ=[some (.d (bsD B)),some (.d (.int 0)),x2,x3],⟨rfl,_,_,rfl⟩,?_,?_⟩
 ·rintro i w τ M' hw ⟨rfl,x2,x3,rfl⟩;obtain⟨r,hr,rfl⟩:=sF hw;have hi:=(List.getElem?_eq_some_iff.mp hr).1;have h8:=hB.len;refine⟨_,rfl,rfl,_,_,rfl,_,_,rfl,rfl,?_⟩;refine⟨_,rfl,_,_,rfl,rfl,_,rfl,?_⟩;rw[decide_eq_false (show ¬ (8:Int)<=(i:Nat) by omega)];refine dP ⟨_,rfl,_,rfl,r,rfl,hB.row r (List.mem_of_getElem? hr),_,rfl,dP ⟨_,rfl,_,_,rfl,rfl,_,rfl,?_⟩⟩;cases e:decide ((0:Int)<(i:Nat)) with
  | false=>exact⟨rfl,_,_,rfl⟩
  | true =>
   have h0:(0:Int)<(i:Nat):=of_decide_eq_true e;obtain⟨j,rfl⟩:∃ j,i=j+1:=⟨i-1,by omega⟩;have hj:j<B.length:=by omega
   have hjr:B[j]? =some B[j]:=List.getElem?_eq_getElem hj;refine gE ⟨_,rfl,0,_,rfl,rfl,rfl,_,rfl,_,rfl,_,_,rfl,rfl,_,_,rfl,agu (i:=j) (by omega) hjr,rfl,0,_,rfl,rfl,rfl,.inr ⟨_,_,rfl,rfl,_,rfl,?_⟩⟩;have hup:=hB.up j _ _ hjr hr;unfold lsS at hup;exact ahJ (by show(!decide (B[j].1.cps.toList<r.1.cps.toList))=false;rw[hup];rfl) ⟨rfl,_,_,rfl⟩
 ·rintro τ M' ⟨rfl,x2,x3,rfl⟩;exact k
structure ahk(r:Str×Str×Int):Prop where
 w:wd r.1=true
 k:wd r.2.1=true
 c0:0<=r.2.2
 c6:r.2.2<=6
structure OkA(A:As):Prop where
 len:A.length<=8
 row:∀ r∈A,ahk r
 nd:(A.map λ r=>r.1).Nodup
theorem OkA.c(h:OkA A):OkC A:=⟨h.len,λ r hr=>⟨(h.row r hr).c0,(h.row r hr).c6⟩⟩
theorem OkB.r(h:OkB B):OkR (rooms B):=⟨by unfold rooms;rw[List.length_map];exact h.len,λ m hm=>by obtain⟨r,hr,rfl⟩:=List.mem_map.mp hm;exact(h.row r hr).2⟩
theorem ajt:PyData.eqv (.int ((3:Nat):Int)) (.int 3)=true:=by decide +kernel
def bo:SpD:=λ ws M Q=>∃ r:Str×Str×Int,ws=[.d (aD r)]/\ahk r/\Q (.d (.bool true)) M
theorem jq:∀ ws M Q,bo ws M Q->ws.length=1:=by rintro ws M Q ⟨r,rfl,_⟩;rfl
theorem i5:∀ ws M Q,bo ws M Q->gF bz aT {nx:=λ _ M'=>Q (.d .none) M',rt:=Q} (aY gR ws) M:=by
 rintro ws M Q ⟨r,rfl,hr,k⟩;refine⟨_,rfl,_,_,_,rfl,.d,.tuple,_,rfl,?_⟩;rw[show jw (aD r) "tuple" = true from afX _];refine dP ⟨_,rfl,_,_,rfl,rfl,rfl,_,_,.d,.d,(show eX (.int ((3:Nat):Int)) (.int 3)=true by decide +kernel),_,rfl,?_⟩;rw[show PyData.eqv (.int (([PyData.str r.1,PyData.str r.2.1,PyData.int r.2.2].length:Nat):Int)) (.int 3)=true from ajt];refine dP ⟨_,rfl,0,_,rfl,rfl,rfl,r.1,rfl,hr.w,_,rfl,gE ⟨_,rfl,1,_,rfl,rfl,rfl,r.2.1,rfl,hr.k,_,rfl,gE ⟨_,rfl,2,_,rfl,rfl,rfl,r.2.2,0,6,rfl,hr.c0,hr.c6,k⟩⟩⟩
theorem rJ{L:List Str}(h:L.Nodup){i:Nat}{z:Str}(e:L[i]? =some z):z ∉ L.take i:=by intro hm;obtain⟨j,hj,ej⟩:=List.getElem_of_mem hm;rw[List.length_take] at hj;rw[List.getElem_take] at ej;obtain⟨hi,ei⟩:=List.getElem?_eq_some_iff.mp e;have:=(List.getElem_inj (h₀:=by omega) (h₁:=hi) h).mp (ej.trans ei.symm);omega
def bb:SpD:=λ ws M Q=>∃ A:As,ws=[.d (asD A)]/\OkA A/\Q (.d .none) M
theorem jo:∀ ws M Q,bb ws M Q->ws.length=1:=by rintro ws M Q ⟨r,rfl,_⟩;rfl
theorem iV:∀ ws M Q,bb ws M Q->gL bo {nx:=λ _ M'=>Q (.d .none) M',rt:=Q} (aY gU ws) M:=by
 rintro ws M Q ⟨A,rfl,hA,k⟩;refine⟨_,rfl,_,_,_,rfl,.d,.list,_,rfl,?_⟩;rw[show jw (asD A) "list" = true from agV _];refine dP ⟨_,rfl,_,rfl,?_⟩;refine⟨λ i τ M'=>M'=M/\∃ x2 x3,τ=[some (.d (asD A)),x2,x3],⟨rfl,_,_,rfl⟩,?_,?_⟩
 ·rintro i w τ M' hw ⟨rfl,x2,x3,rfl⟩;obtain⟨r,hr,rfl⟩:=sF hw;have hi:=(List.getElem?_eq_some_iff.mp hr).1;have h8:=hA.len;refine⟨_,rfl,rfl,_,_,rfl,_,_,rfl,rfl,?_⟩;refine⟨_,rfl,_,_,rfl,rfl,_,rfl,?_⟩;rw[decide_eq_false (show ¬ (8:Int)<=(i:Nat) by omega)];refine dP ⟨_,rfl,r,rfl,hA.row r (List.mem_of_getElem? hr),_,rfl,dP ⟨_,rfl,0,_,rfl,rfl,rfl,_,rfl,_,rfl,_,rfl,_,rfl,rfl,_,rfl,?_⟩⟩;rw[mV (by rw[List.length_map];omega),<- List.map_take,List.map_map];refine jZ (A.take i) (W.d ∘ aD) (λ r=>.str r.1) (λ τ=>∃ x,τ=[x]) (by rw[List.length_take];omega) ⟨_,rfl⟩ (λ r' hr' τ hτ R h=>?_) (λ τ=>?_)
  ·obtain⟨x,rfl⟩:=hτ;exact⟨_,rfl,0,_,rfl,rfl,rfl,_,rfl,h _ ⟨_,rfl⟩⟩
  ·refine⟨r.1,(A.take i).map λ r=>r.1,rfl,?_,_,rfl,?_⟩
   ·have e:gD ((A.take i).map λ r=>r.1)=((A.take i).map λ r=>PyData.str r.1).map W.d:=by unfold gD;rw[List.map_map,List.map_map];rfl
    rw[e];exact .l
   ·have hn:r.1 ∉ (A.take i).map λ r=>r.1:=by rw[List.map_take];exact rJ hA.nd (by rw[List.getElem?_map,hr];rfl)
    rw[if_neg (by decide),decide_eq_false hn];exact⟨rfl,_,_,rfl⟩
 ·rintro τ M' ⟨rfl,x2,x3,rfl⟩;exact k
def bc:SpD:=λ ws M Q=>∃ (B:Bs) (A:As),ws=[.d (bsD B),.d (asD A)]/\OkB B/\OkA A/\Q (.d .none) M
theorem ju:∀ ws M Q,bc ws M Q->ws.length=2:=by rintro ws M Q ⟨B,A,rfl,_⟩;rfl
theorem iX:∀ ws M Q,bc ws M Q->gQ aV bb {nx:=λ _ M'=>Q (.d .none) M',rt:=Q} (aY gH ws) M:=by
 rintro ws M Q ⟨B,A,rfl,hB,hA,k⟩;exact⟨_,rfl,B,rfl,hB,_,rfl,A,rfl,hA,k⟩
def cU:SpD:=λ ws M Q=>∃ (B:Bs) (A:As),ws=[.d (bsD B),.d (asD A)]/\OkB B/\OkA A/\∀ p M',M p=none->M' p=some (.lst (((due (rooms B) A).map bD).map W.d))->Ext M M'->Q (.m p) M'
theorem qI:∀ ws M Q,cU ws M Q->ws.length=2:=by rintro ws M Q ⟨B,A,rfl,_⟩;rfl
theorem oG:∀ ws M Q,cU ws M Q->oS bc cT cv {nx:=λ _ M'=>Q (.d .none) M',rt:=Q} (aY pO ws) M:=by
 rintro ws M Q ⟨B,A,rfl,hB,hA,k⟩;refine⟨_,rfl,_,rfl,B,A,rfl,hB,hA,_,rfl,B,rfl,hB.len,_,rfl,rooms B,A,rfl,hB.r,hA.c,λ p M1 hp h1 x1=>⟨p,_,rfl,h1,_,rfl,?_⟩⟩;have x2:Ext M (lD M1 p):=x1.del hp;generalize lD M1 p=M2 at x2;have hlen:=(xR (rs:=rooms B) hA.c A.length (Nat.le_refl _)).2;rw[List.take_length] at hlen;rw[List.map_map];have h8:=hA.len;refine jZ (run (rooms B) A).2 (W.d ∘ aD) (λ r=>bD (r.1,r.2.2)) (λ τ=>∃ x y z,τ=[x,y,z]) (by omega) ⟨_,_,_,rfl⟩ (λ r hr τ hτ R h=>?_) (λ τ=>?_)
 ·obtain⟨x,y,z,rfl⟩:=hτ;exact⟨_,rfl,rfl,_,_,rfl,_,_,rfl,_,_,rfl,rfl,_,rfl,_,rfl,_,rfl,few (by simp),_,rfl,h _ ⟨_,_,_,rfl⟩⟩
 ·intro q hq;refine k q _ (x2.none hq) ?_ (x2.upd (x2.none hq));rw[ak];unfold due;simp only[List.map_map];rfl
theorem me{z:Str}{i:Nat}{j:Int}(hj:j=(i:Int))(hi:i<z.length):ixW M (.d (.str z)) j=some (.d (.str ⟨#[z.cps.toList.getD i 0]⟩)):=by
 subst hj;have hl:i<z.cps.toList.length:=by rw[str_len];exact hi
 simp only[ixW];rw[abJ (by omega) (by omega)];simp[List.getD,List.getElem?_eq_getElem hl]
def aca(w:Nat):Str:=(["m", "ab", "zz"]:List Str).getD w "m"
def adB(k:Nat):Str:=Txt.mul ⟨#[("abcdefgh" : Str).cps.toList.getD k 0]⟩ (1+(0+(k:Int)) % 2)
def nmB(w k:Nat):Str:=aca w++adB k
theorem afp:∀ w<3,∀ k<8,wd (nmB w k)=true:=by decide +kernel
theorem aeX:∀ w<3,∀ k<7,lsS (nmB w k) (nmB w (k+1))=true:=by decide +kernel
theorem acZ:∀ w<3,∀ k<8,(aca w).length+(adB k).length<=1000:=by decide +kernel
theorem agm(hw:w<3)(hl:B.length<=8)(h:∀ (j:Nat) (r:Str×Int),B[j]? =some r->r.1=nmB w j/\0<=r.2/\r.2<=6):OkB B:=by
 refine⟨hl,λ r hr=>?_,λ i r s h1 h2=>?_⟩
 ·obtain⟨j,hj,e⟩:=List.getElem_of_mem hr;obtain⟨z1,z2⟩:=h j r (by rw[List.getElem?_eq_getElem hj,e]);exact⟨by rw[z1];exact afp w hw j (by omega),z2⟩
 ·have:=(List.getElem?_eq_some_iff.mp h2).1;rw[(h i r h1).1,(h (i+1) s h2).1];exact aeX w hw i (by omega)
def nmA(t k:Nat):Str:=if k=3 then "ma" else "w" ++ ⟨#[("hgfedcba" : Str).cps.toList.getD ((k+t) % 8) 0]⟩
theorem agc:∀ t<8,∀ k<8,wd (nmA t k)=true:=by decide +kernel
theorem afy:∀ t<8,((List.range 8).map (nmA t)).Nodup:=by decide +kernel
theorem acz{t:Nat}(ht:t<8)(hl:A.length<=8)(h:∀ (j:Nat) r,A[j]? =some r->r.1=nmA t j/\ahk r):OkA A:=by
 refine⟨hl,λ r hr=>?_,?_⟩
 ·obtain⟨j,hj,e⟩:=List.getElem_of_mem hr;exact(h j r (by rw[List.getElem?_eq_getElem hj,e])).2
 ·have e:(A.map λ r=>r.1)=(List.range A.length).map (nmA t):=by
   refine List.ext_getElem? λ j=>?_;rw[List.getElem?_map,List.getElem?_map];cases q:A[j]? with
   | none =>
    have:=List.getElem?_eq_none_iff.mp q;rw[List.getElem?_eq_none (by simpa using this)];rfl
   | some r =>
    have:=(List.getElem?_eq_some_iff.mp q).1;rw[List.getElem?_range this];simp[(h j r q).1]
  rw[e];refine(afy t ht).sublist (List.Sublist.map _ ?_);rw[show(8:Nat)=A.length+(8-A.length) from by omega,List.range_add];exact List.sublist_append_left _ _
def iD:List Str:=["front", "ma", "side", "front", "k", "mbb", "aba", "back", "wish"]
theorem aak:∀ z∈iD,wd z=true:=by decide +kernel
theorem zK(h:0<=t):D.cutD xs (some t) none=xs.drop t.toNat:=by
 unfold D.cutD;have e:HT.sIx xs.length xs.length none=xs.length:=rfl;have e2:HT.sIx xs.length 0 (some t)=min t.toNat xs.length:=by
  unfold HT.sIx;dsimp only;rw[if_neg (by omega)]
 rw[e,e2]
 by_cases q:t.toNat<=xs.length
 ·rw[Nat.min_eq_left q,<- List.length_drop,List.take_length]
 ·rw[Nat.min_eq_right (by omega),List.drop_of_length_le (Nat.le_refl _),List.drop_of_length_le (by omega)];simp
end Stc
namespace HT
open PySem PyProof.Rows
section
open PySem.SeqAt
open PySem.MeetsSeq PySem.MeetsSeq2 PySem.MeetsSeq3
end
end HT
namespace D
open L2
section
variable {X:Cx}{K:FG}
end
end D
namespace Stc
open L2 D Rc
abbrev oX:List Str:=["asked", "demands", "wish", "kind", "copies"]
def n9:TSd:=
  bp (bW (kc) (gN 1)) <|
  bp (j6 (bj (ag 0)) (gT 3 (aM (gN 2) (aM (gN 3) (aM (gN 4) (fD)))))
   (qW (ag 1) (ag 3) (dOp cX (uo (ag 1) (ag 3) (dC (.d (.int 0)))) (ag 4)))) <|
  dY (ag 1)
abbrev jR:List Str:=["_law_asked_here", "_law_found", "_law_wish", "_law_kind", "_law_copies"]
def kA:TSd:=
  bp (bW (kc) (gN 1)) <|
  bp (j6 (bj (ag 0)) (gT 3 (aM (gN 2) (aM (gN 3) (aM (gN 4) (fD)))))
   (qW (ag 1) (ag 3) (dOp cX (uo (ag 1) (ag 3) (dC (.d (.int 0)))) (ag 4)))) <|
  dY (ag 1)
def exc(t:Int)(xs:List Int):Int:=(xs.map λ x=>if t<x then x-t else 0).sum
theorem bS(t x:Int)(xs:List Int):exc t (x::xs)=(if t<x then x-t else 0)+exc t xs:=rfl
theorem kF(t:Int)(xs ys:List Int):exc t (xs++ys)=exc t xs+exc t ys:=by unfold exc;rw[List.map_append,List.sum_append]
theorem wj(t:Int):∀ xs,0<=exc t xs
 | []=>by simp[exc]
 | x::xs=>by
  have:=wj t xs;rw[bS]
  split<;>omega
theorem gk(h:xs.Perm ys):exc t xs=exc t ys:=by
 induction h with
 | nil=>rfl
 | cons x _ ih=>rw[bS,bS,ih]
 | swap x y l=>rw[bS,bS,bS,bS];omega
 | trans _ _ h1 h2=>exact h1.trans h2
theorem iB(t:Int):∀ (xs:List Int) (i:Nat),i<=xs.length->(xs.take i).sum<=(i:Int) * t+exc t xs
 | xs,0,_=>by have:=wj t xs;simp;exact this
 | [],i+1,h=>by simp at h
 | x::xs,i+1,h=>by
  have ih:=iB t xs i (by simpa using h);rw[List.take_succ_cons,List.sum_cons,bS];have e:((i+1:Nat):Int) * t=(i:Int) * t+t:=by rw[Int.natCast_add,Int.add_mul];simp
  rw[e]
  split<;>omega
theorem wC:∀ {xs:List Int},(∀ x∈xs,x<=t)->exc t xs=0
 | [],_=>rfl
 | x::xs,h=>by have h1:=h x (by simp);have ih:=wC (t:=t) (xs:=xs) λ y hy=>h y (by simp[hy]);rw[bS,ih,if_neg (by omega)];rfl
theorem nW:∀ {xs:List Int},(∀ x∈xs,t<=x)->exc t xs=xs.sum-(xs.length:Int) * t
 | [],_=>by simp[exc]
 | x::xs,h=>by
  have h1:=h x (by simp);have ih:=nW (t:=t) (xs:=xs) λ y hy=>h y (by simp[hy]);rw[bS,ih,List.sum_cons,List.length_cons];have e:((xs.length+1:Nat):Int) * t=(xs.length:Int) * t+t:=by rw[Int.natCast_add,Int.add_mul];simp
  rw[e]
  split<;>omega
theorem rE{ns:List Int}{i:Nat}(hs:ns.Pairwise (· >= ·))(hi:i<ns.length):(ns.take (i+1)).sum=((i:Int)+1) * ns[i]+exc ns[i] ns:=by
 have h1:∀ x∈ns.take (i+1),ns[i]<=x:=λ x hx=>by
  obtain⟨j,hj,rfl⟩:=List.getElem_of_mem hx;rw[List.length_take] at hj;rw[List.getElem_take]
  by_cases q:j=i
  ·subst q;exact Int.le_refl _
  ·exact List.pairwise_iff_getElem.mp hs j i (by omega) hi (by omega)
 have h2:∀ x∈ns.drop (i+1),x<=ns[i]:=λ x hx=>by obtain⟨j,hj,rfl⟩:=List.getElem_of_mem hx;rw[List.length_drop] at hj;rw[List.getElem_drop];exact List.pairwise_iff_getElem.mp hs i (i+1+j) hi (by omega) (by omega)
 have e:exc ns[i] ns=exc ns[i] (ns.take (i+1))+exc ns[i] (ns.drop (i+1)):=by rw[<- kF,List.take_append_drop]
 have hl:(ns.take (i+1)).length=i+1:=by rw[List.length_take];omega
 rw[e,nW h1,wC h2,hl];have:((i+1:Nat):Int)=(i:Int)+1:=by omega
 rw[this];omega
theorem aaV{rs xs ys:List Int}(hd:∀ t,exc t xs<=exc t ys)(hl:xs.length<=ys.length)(h:uc rs (dsc ys)=true):uc rs (dsc xs)=true:=by
 have lx:(dsc xs).length=xs.length:=(cg xs).length_eq;have ly:(dsc ys).length=ys.length:=(cg ys).length_eq;refine rm λ i hi=>?_;have hi':i<(dsc ys).length:=by omega
 unfold uc at h;rw[List.all_eq_true] at h;have h1:=of_decide_eq_true (h i (List.mem_range.mpr hi'));have h2:=rE (gz ys) hi';have h3:=iB (dsc ys)[i] (dsc xs) (i+1) (by omega);have h4:=hd (dsc ys)[i];rw[gk (cg xs)] at h3;rw[gk (cg ys)] at h2;have e:((i+1:Nat):Int)=(i:Int)+1:=by omega
 rw[e] at h3;omega
theorem lY(h:a<=b)(D:Dm)(t:Int):exc t (vals (pt Prod.fst D (k,a)))<=exc t (vals (pt Prod.fst D (k,b)))/\(pt Prod.fst D (k,a)).length=(pt Prod.fst D (k,b)).length:=by
 unfold pt;dsimp only;cases e:fd Prod.fst D k with
 | none =>
  dsimp only;refine⟨?_,by simp⟩;unfold vals;rw[List.map_append,List.map_append,kF,kF];have:exc t ([(k,a)].map λ r:Str×Int=>r.2)<=exc t ([(k,b)].map λ r:Str×Int=>r.2):=by
   simp only[List.map_cons,List.map_nil,exc,List.sum_cons,List.sum_nil]
   repeat' split
   all_goals omega
  omega
 | some x =>
  dsimp only;refine⟨?_,by simp⟩;clear e;unfold vals
  induction D with
  | nil=>simp
  | cons r D ih =>
   simp only[List.map_cons,bS];have:(if t<(if r.1=k then (k,a) else r).2 then (if r.1=k then (k,a) else r).2-t else 0)<=(if t<(if r.1=k then (k,b) else r).2 then (if r.1=k then (k,b) else r).2-t else 0):=by
    by_cases q:r.1=k
    ·simp only[if_pos q]
     repeat' split
     all_goals omega
    ·simp only[if_neg q];exact Int.le_refl _
   omega
theorem wB(h:m<=n)(hf:pf rs (more D k n)=true):pf rs (more D k m)=true:=by
 unfold pf at hf ⊢;refine aaV (λ t=>(lY (by omega) D t).1) ?_ hf;have:=(lY (k:=k) (show val D k+m<=val D k+n by omega) D 0).2;unfold vals more;rw[List.length_map,List.length_map,this];exact Nat.le_refl _
theorem agS(rs:List Int)(D:Dm)(k:Str):∀ c:Nat,(∀ j:Nat,1<=j->(j:Int)<=gr rs D k c->pf rs (more D k (j:Int))=true)/\(gr rs D k c<c->pf rs (more D k (gr rs D k c+1))=false)
 | 0=>by
  constructor
  ·intro j h1 h2;simp[gr] at h2;omega
  ·intro h;simp[gr] at h
 | c+1=>by
  have ih:=agS rs D k c;have hb:=ahq rs D k c;rw[xE]
  by_cases q:pf rs (more D k ((c:Int)+1))=true
  ·rw[if_pos q];exact⟨λ j h1 h2=>wB h2 q,λ h=>by omega⟩
  ·rw[if_neg q];refine⟨ih.1,λ h=>?_⟩
   by_cases e:gr rs D k c<c
   ·exact ih.2 e
   ·have:gr rs D k c=c:=by omega
    rw[this];exact Bool.eq_false_iff.mpr q
theorem xo{D:Dm}{z x:Str×Int}(h:fd Prod.fst D z.1=some x):pt Prod.fst D z=D.map λ y=>if y.1=z.1 then z else y:=by
 unfold pt;rw[h]
def dmd(A:As):Dm:=A.foldl (λ D r=>more D r.2.1 r.2.2) []
theorem sO{A:As}{i:Nat}{r:Str×Str×Int}(h:A[i]? =some r):dmd (A.take (i+1))=more (dmd (A.take i)) r.2.1 r.2.2:=by
 unfold dmd;rw[List.take_succ,h,List.foldl_append];rfl
theorem vd{A:As}(h:OkC A):∀ i,i<=A.length->Sm (dmd (A.take i)) i
 | 0,_=>by simp[dmd,Sm]
 | i+1,hi=>by
  have hlt:i<A.length:=by omega
  have e:A[i]? =some A[i]:=List.getElem?_eq_getElem hlt;have hc:=h.2 A[i] (List.getElem_mem hlt);rw[sO e];exact rO (vd h i (by omega)) _ hc.1 hc.2
theorem wX(h:OkC A):Sm (dmd A) 9:=by have:=vd h A.length (Nat.le_refl _);rw[List.take_length] at this;exact sm9 this (by have:=h.1;omega)
def aiP:SpD:=λ ws M Q=>∃ (A:As),ws=[.d (asD A)]/\OkC A/\∀ p M',M p=none->Dc M' p (dmd A)->Ext M M'->Q (.m p) M'
def mF:SpD:=aiP
def bO:SpD:=aiP
theorem nQ:∀ ws M Q,bO ws M Q->ws.length=1:=by rintro ws M Q ⟨A,rfl,_⟩;rfl
theorem jY:∀ ws M Q,mF ws M Q->n9 {nx:=λ _ M'=>Q (.d .none) M',rt:=Q} (aY oX ws) M:=by
 rintro ws M Q ⟨A,rfl,hA,K⟩;have s16':=s16;have hA1:=hA.1;refine λ a ha=>?_;refine⟨_,rfl,_,rfl,?_⟩;dsimp only;refine⟨λ i τ M'=>i<=A.length/\Ext M M'/\Dc M' a (dmd (A.take i))/\∃ x2 x3 x4,τ=[some (.d (asD A)),some (.m a),x2,x3,x4],⟨Nat.zero_le _,Ext.new ha,ak,_,_,_,rfl⟩,?_,?_⟩
 ·rintro i w τ M' hw ⟨hi,x1,h1,x2,x3,x4,rfl⟩;obtain⟨d',hd',rfl⟩:=eZ hw;obtain⟨r,hr',rfl⟩:=eZ hd';have hlt:=(List.getElem?_eq_some_iff.mp hr').1;have hsm:=vd hA i (by omega);refine⟨_,rfl,rfl,_,_,rfl,_,_,rfl,_,_,rfl,rfl,?_⟩;obtain⟨o,g1,g2⟩:=aiG h1 r.2.1;refine⟨_,rfl,.k h1,_,rfl,o,g1,?_⟩;rw[g2];refine⟨_,rfl,.inl ⟨_,_,rfl,rfl,_,rfl,_,rfl,a,_,.inr r.2.1,rfl,h1,rfl,by rw[abK];have:=hsm.1;omega,?_⟩⟩;refine⟨hlt,x1.upd ha,?_,_,_,_,rfl⟩;unfold Dc;rw[ak,sO hr'];exact congrArg (λ z=>some (MO.dic z)) (dput _ r.2.1 _)
 ·rintro τ M' ⟨hi,x1,h1,x2,x3,x4,rfl⟩;have e1:A.take (((A.map aD).map W.d)).length=A:=by rw[List.length_map,List.length_map,List.take_length]
  rw[e1] at h1;exact⟨_,rfl,K a M' ha h1 x1⟩
theorem lB:∀ ws M Q,bO ws M Q->kA {nx:=λ _ M'=>Q (.d .none) M',rt:=Q} (aY jR ws) M:=jY
theorem agM(h:OkR rs)(hi:0<=i):0<=room rs i/\room rs i<=1000000 * 8:=by
 have h1:∀ n∈rs.map (roomOf i),0<=n/\n<=1000000:=λ n hn=>by
  obtain⟨m,hm,rfl⟩:=List.mem_map.mp hn;have:=h.2 m hm;unfold roomOf
  split<;>omega
 have:=sum_bound _ h1;rw[List.length_map] at this;have hl:=h.1;rw[kP];omega
def Dom(xs ys:List Int):Prop:=∀ t,0<=t->exc t xs<=exc t ys
theorem xC(h:i<=j):room rs i<=room rs j:=by
 unfold room
 induction rs with
 | nil=>simp
 | cons m rs ih =>
  simp only[List.map_cons,List.sum_cons];have:(if i<m then i else m)<=(if j<m then j else m):=by repeat' split<;>omega
  omega
theorem ajl(h:∀ x∈xs,0<=x):exc 0 xs=xs.sum:=by have:=nW (t:=0) h;simp at this;exact this
theorem aaW{xs ys:List Int}(h:xs.Perm ys):xs.sum=ys.sum:=by
 induction h with
 | nil=>rfl
 | cons x _ ih=>rw[List.sum_cons,List.sum_cons,ih]
 | swap x y l=>simp only[List.sum_cons];omega
 | trans _ _ h1 h2=>exact h1.trans h2
theorem aeg{rs xs ys:List Int}(hr:OkR rs)(hd:Dom xs ys)(hy:∀ y∈ys,0<=y)(h:uc rs (dsc ys)=true):uc rs (dsc xs)=true:=by
 have ly:(dsc ys).length=ys.length:=(cg ys).length_eq;have hy':∀ y∈dsc ys,0<=y:=λ y q=>hy y ((cg ys).mem_iff.mp q);unfold uc at h;rw[List.all_eq_true] at h;refine rm λ i hi=>?_
 by_cases q:i<(dsc ys).length
 ·have h1:=of_decide_eq_true (h i (List.mem_range.mpr q));have h2:=rE (gz ys) q;have h3:=iB (dsc ys)[i] (dsc xs) (i+1) (by omega);have h4:=hd (dsc ys)[i] (hy' _ (List.getElem_mem q));rw[gk (cg xs)] at h3;rw[gk (cg ys)] at h2;have e:((i+1:Nat):Int)=(i:Int)+1:=by omega
  rw[e] at h3;omega
 ·have h3:=iB 0 (dsc xs) (i+1) (by omega);have h4:=hd 0 (Int.le_refl 0);rw[gk (cg xs)] at h3;rw[ajl hy,<- aaW (cg ys)] at h4;simp only[Int.mul_zero,Int.zero_add] at h3
  by_cases z:(dsc ys).length=0
  ·have e:dsc ys=[]:=List.eq_nil_of_length_eq_zero z;rw[e] at h4;simp at h4;have:=(agM hr (i:=(i:Int)+1) (by omega)).1;omega
  ·have h1:=of_decide_eq_true (h ((dsc ys).length-1) (List.mem_range.mpr (by omega)));rw[show(dsc ys).length-1+1=(dsc ys).length from by omega,List.take_length] at h1;have hm:=xC (rs:=rs) (i:=(((dsc ys).length-1:Nat):Int)+1) (j:=(i:Int)+1) (by omega);omega
theorem Dom.refl(xs:List Int):Dom xs xs:=λ _ _=>Int.le_refl _
theorem Dom.trans(h:Dom xs ys)(k:Dom ys zs):Dom xs zs:=λ t ht=>Int.le_trans (h t ht) (k t ht)
theorem aaK(nd:(D.map Prod.fst).Nodup)(hn:0<=n)(hv:∀ r∈D,0<=r.2):Dom (vals D) (vals (more D k n)):=by
 intro t ht;unfold more;cases e:fd Prod.fst D k with
 | none =>
  have:pt Prod.fst D (k,val D k+n)=D++[(k,val D k+n)]:=by unfold pt;rw[show fd Prod.fst D (k,val D k+n).1=none from e]
  rw[this];unfold vals;rw[List.map_append,kF];have:=wj t ([(k,val D k+n)].map λ r=>r.2);omega
 | some r =>
  rw[xo (z:=(k,val D k+n)) e];have hval:val D k=r.2:=by unfold val;rw[e];rfl
  rw[hval];have main:∀ L:Dm,(L.map Prod.fst).Nodup->(∀ y∈L,y.1=k->y.2=r.2)->exc t (vals L)<=exc t (vals (L.map λ y=>if y.1=k then (k,r.2+n) else y)):=by
   intro L
   induction L with
   | nil=>intro _ _;simp[vals]
   | cons y L ih =>
    intro h1 h2;have:=ih (List.nodup_cons.mp h1).2 λ z hz=>h2 z (by simp[hz]);unfold vals at this ⊢;simp only[List.map_cons,bS];have:(if t<y.2 then y.2-t else 0)<=(if t<(if y.1=k then (k,r.2+n) else y).2 then (if y.1=k then (k,r.2+n) else y).2-t else 0):=by
     by_cases q:y.1=k
     ·simp only[if_pos q,h2 y (by simp) q]
      repeat' split<;>omega
     ·simp only[if_neg q];exact Int.le_refl _
    omega
  refine main D nd λ y hy hk=>?_;obtain⟨m1,m2⟩:=eJ e;have:y=r:=by
   obtain⟨i,hi,ei⟩:=List.getElem_of_mem hy;obtain⟨j,hj,ej⟩:=List.getElem_of_mem m1;have:(D.map Prod.fst)[i]'(by simpa using hi)=(D.map Prod.fst)[j]'(by simpa using hj):=by simp[ei,ej,hk,m2]
   have:=(List.getElem_inj nd).mp this;subst this;rw[<- ei,ej]
  rw[this]
theorem xZ(nd:(D.map Prod.fst).Nodup):Dom (vals (more D k 0)) (vals D):=by
 intro t ht;unfold more;rw[Int.add_zero];cases e:fd Prod.fst D k with
 | none =>
  have hval:val D k=0:=by unfold val;rw[e];rfl
  have:pt Prod.fst D (k,val D k)=D++[(k,val D k)]:=by unfold pt;rw[show fd Prod.fst D (k,val D k).1=none from e]
  rw[this,hval];unfold vals;rw[List.map_append,kF];have:exc t ([(k,(0:Int))].map λ r=>r.2)=0:=by simp only[List.map_cons,List.map_nil,exc,List.sum_cons,List.sum_nil];rw[if_neg (by omega)];rfl
  omega
 | some r =>
  rw[xo (z:=(k,val D k)) e];have hval:val D k=r.2:=by unfold val;rw[e];rfl
  rw[hval];have:(D.map λ y=>if y.1=k then (k,r.2) else y)=D:=by
   conv=>rhs;rw[<- List.map_id D]
   refine List.map_congr_left λ y hy=>?_
   by_cases q:y.1=k
   ·obtain⟨m1,m2⟩:=eJ e;have:y=r:=by
     obtain⟨i,hi,ei⟩:=List.getElem_of_mem hy;obtain⟨j,hj,ej⟩:=List.getElem_of_mem m1;have:(D.map Prod.fst)[i]'(by simpa using hi)=(D.map Prod.fst)[j]'(by simpa using hj):=by simp[ei,ej,q,m2]
     have:=(List.getElem_inj nd).mp this;subst this;rw[<- ei,ej]
    subst this;rw[if_pos q,<- q];rfl
   ·rw[if_neg q];rfl
  rw[this];exact Int.le_refl _
theorem acE(nd:(D.map Prod.fst).Nodup):((more D k n).map Prod.fst).Nodup:=acA (nm:=Prod.fst) nd
end Stc
namespace D
open L2
end D
open L2 D
namespace L2
theorem nK(I:Nat->Shared->Prop)
  (turn:∀ n s,I n s->wpAny (model prog w) A (pyNext it) (λ r s₁=>match r with
   | none=>R (.ok .next) s₁
   | some v=>wpAny (model prog w) A (letOwnedTupleGo target it v) (λ _ s₁'=>wpAny (model prog w) A (assign target env v) (λ _ s₂ =>
     wpAny (model prog w) A (qp ifs env) (λ ok s₃ =>
      if ok=true then wpAny (model prog w) A (eval kx env) (λ kv s₄=>wpAny (model prog w) A (eval vx env) (λ vv s₅ =>
       wpAny (model prog w) A (dictSet D kv vv) (λ _ s₆=>∃ m,m<n/\I m s₆) (λ _ _=>False) s₅) (λ _ _=>False) s₄) (λ _ _=>False) s₃
      else ∃ m,m<n/\I m s₃) (λ _ _=>False) s₂) (λ _ _=>False) s₁') (λ _ _=>False) s₁) (λ _ _=>False) s)
  (n:Nat)(h:I n s) :
  codeAny (model prog w) A (.compLoop (.DictComp kx vx [⟨target,iter,ifs,0⟩] scope pos) 0 it (.ref D) env) R s:=by
 refine codeAny_loop rfl I (λ n s hI=>?_) n h;show wpAny _ A ((compTurn (.DictComp kx vx [⟨target,iter,ifs,0⟩] scope pos) 0 it (.ref D) env).onRaise (λ x=>do noteFrame x env;theTreesLotGoes x)) _ _ s;refine wpAny_noted ?_;rw[compTurn_dict];refine wpAny_bind (wpAny_standAt (wpAny_bind (wpAny_mono (turn n s hI) (λ r s₁ h₁=>?_) λ _ _ h'=>h'.elim)));cases r with
 | none=>exact wpAny_pure h₁
 | some v =>
  refine wpAny_bind (wpAny_mono h₁ (λ _ s₁' h₁'=>?_) λ _ _ h'=>h'.elim);refine wpAny_bind (wpAny_mono h₁' (λ _ s₂ h₂=>wpAny_bind (wpAny_mono h₂ (λ ok s₃ h₃=>?_) λ _ _ h'=>h'.elim)) λ _ _ h'=>h'.elim);cases ok with
  | false=>exact wpAny_pure ⟨rfl,h₃⟩
  | true =>
   refine wpAny_bind ?_;refine wpAny_bind (wpAny_mono h₃ (λ kv s₄ h₄=>wpAny_bind (wpAny_holding (wpAny_mono h₄ (λ vv s₅ h₅=>wpAny_bind (wpAny_standAt (wpAny_holding (wpAny_mono h₅ (λ _ s₆ h₆=>wpAny_pure ⟨rfl,h₆⟩) λ _ _ h'=>h'.elim)))) λ _ _ h'=>h'.elim))) λ _ _ h'=>h'.elim)
theorem yD(I:Inv X pins σ H s)(e:H a=some (.dK kvs))(l:kvs.length<sizeLine)(ry:RelV (kV k) u)(rv:RelV v r)(h:∀ s',Inv X pins σ (upd H a (.dK (putK kvs k v))) s'->Q () s') :
  wpAny (model X.prog X.w) A (dictSet a u r) Q E s:=by
 obtain⟨z,hd,vs,rel,dd⟩:=zY I.hok e;have hz:vs.length<=sizeLine:=by rw[<- rel.length];exact z
 have hl:(putK kvs k v).length<=sizeLine:=by have:=fE kvs k v;omega
 refine wpAny_dictSet_pairs (hsz:=hz) (mz ry) dd λ h' dd' hs=>h _ ?_;have he:∃ q,h'.get? a=some q:=let ⟨q,_,_,hq,_⟩:=dd'; ⟨q,hq⟩;exact nP I (by rw[e];exact True.intro) hs he (pI hl hd (rel.put k rv) dd')
abbrev DcW:=Nat->Nat->St->Hp->Prop
def abe(J:It)(g:TG)(tt:TT)(tk tv:TE)(D:Addr)(W:DcW)(Fin:Hp->Prop):Prop:=∀ i m τ H,W i m τ H ->
 (J.stop i H/\Fin H)\/(J.go i H/\∀ x H',J.yld i H x H'->g x τ H' λ τ2 H2=>tt τ2 H2 λ b H3 =>
  if b=true then tk τ2 H3 λ y H4=>tv τ2 H4 λ z H5=>∃ kvs k,H5 D=some (.dK kvs)/\y=kV k/\kvs.length<sizeLine/\∃ m',m'<m/\W (i+1) m' τ2 (upd H5 D (.dK (putK kvs k z))) else ∃ m',m'<m/\W (i+1) m' τ2 H3)
section
variable {X:Cx}{pins:PN}{σ:St}{H:Hp}{s:Shared}{sc:Scope}{own:List Str}{fr:List Nat}{cl:List (Str×Addr)}{fp:List Addr}{it D:Addr}{J:It}{tn:Nat->Heap->Prop}{g:TG}{tt:TT}{tk tv:TE}{W:DcW}{Fin:Hp->Prop}
 {kx vx tg iter:Expr}{ifs:List Expr}{pos:Pos}{E:VP}
theorem acQ{RR:Addr->Result->Shared->Prop}(hc:X.calm=true)(L:oE X sc own fr)(hcl1:∀ n c,cl.lookup n=some c->X.env.cells.lookup n=some c)(hcl2:∀ n,(n,NameKind.free)∈sc.names->∃ c,cl.lookup n=some c)
  (hg:∀ C s H ex pl,PG (blk X sc (lcN X own fr) cl C s H ex pl) tg g)(ht:∀ C s H ex pl,PTs (blk X sc (lcN X own fr) cl C s H ex pl) ifs tt)(hk:∀ C s H ex pl,PE (blk X sc (lcN X own fr) cl C s H ex pl) kx tk)(hv:∀ C s H ex pl,PE (blk X sc (lcN X own fr) cl C s H ex pl) vx tv)
  (I:Inv X pins σ H s)(T:Turn X.prog X.w X.K tg J fp it tn)(st:tn 0 s.heap)(hf:∀ b∈fp,jm X pins H b)(w0:∃ m,W 0 m (lcS own.length fr σ) H)(turn:abe J g tt tk tv D W Fin)
  (hRR:∀ (C:Addr) (s':Shared) (H':Hp) (m:Str->Option Value),Inv X pins σ H' s'->H' C=none->s.heap.objs.size<=C->s'.heap.Ns C m->Fin H'->RR C (.ok .next) s') :
  wpAny (model X.prog X.w) X.A (newFunctionEnv sc X.env.globals cl [] X.env.qual none .none (some X.env)) (λ cenv s₄ =>
   codeAny (model X.prog X.w) X.A (.compStart (.DictComp kx vx [⟨tg,iter,ifs,0⟩] sc pos) 0 (.ref it) (.ref D) {cenv with scope:=relabel sc X.env}) (RR cenv.locals) s₄) E s:=by
 refine wpAny_newFunctionEnv L.cell (by intro y hy;simp at hy) (λ h₁ hns₁ hsb₁=>?_) L.kind
 try dsimp only at hns₁ hsb₁ ⊢
 have below:∀ b,b<s.heap.objs.size->b≠s.heap.objs.size:=λ b hb=>Nat.ne_of_lt hb;have old:∀ b o,s.heap.get? b=some o->h₁.get? b=some o:=λ b o e=>hsb₁.extBut b o (below b (Heap.lt_size e)) (Heap.get?_push_of_some _ e);have hfb:∀ b∈fp,b<s.heap.objs.size:=λ b hb=>by obtain⟨o,e,_⟩:=T.obj 0 _ st b hb;exact Heap.lt_size e
 have I1:Inv (blk X sc (lcN X own fr) cl s.heap.objs.size s H fp pins) [] (lcS own.length fr σ) H {s with heap:=h₁,toks:=s.toks+([]:List (Str×Value)).length}:=ya L I hf hfb (Nat.le_refl _) hcl1 hcl2 hns₁ old;have st1:tn 0 h₁:=T.keep 0 _ _ st λ b _ o e=>old b o e;generalize hY:blk X sc (lcN X own fr) cl s.heap.objs.size s H fp pins=Y at I1;have hYp:Y.prog=X.prog:=by rw[<- hY];rfl
 have hYw:Y.w=X.w:=by rw[<- hY];rfl
 have hYK:Y.K=X.K:=by rw[<- hY];rfl
 have hYA:Y.A=X.A:=by rw[<- hY];rfl
 have hYc:Y.calm=true:=by rw[<- hY];exact hc
 have hYe:Y.env=compEnvC sc cl s.heap.objs.size X.env:=by rw[<- hY];rfl
 have hYx:Y.xe=λ _ _=>False:=by rw[<- hY];rfl
 have hYpn:Y.pn=X.pn++pins:=by rw[<- hY];rfl
 have hYs:Y.s₀=s:=by rw[<- hY];rfl
 have hYH:Y.H₀=H:=by rw[<- hY];rfl
 have hYex:Y.ex=fp:=by rw[<- hY];rfl
 have hYfs:Y.fs=frs X.stack:=by rw[<- hY];rfl
 have gY:=hg s.heap.objs.size s H fp pins;have tY:=ht s.heap.objs.size s H fp pins;have kY:=hk s.heap.objs.size s H fp pins;have vY:=hv s.heap.objs.size s H fp pins;rw[hY] at gY tY kY vY;have fpY:∀ {H':Hp},(∀ b∈fp,H' b=none)->∀ b∈fp,jm Y [] H' b:=λ {H'} hn b hb=>by
  obtain⟨_,f1,f2,f3,f4,f5⟩:=hf b hb;refine⟨hn b hb,by rw[hYe];exact below b (hfb b hb),?_,.inl (by rw[hYex];exact hb),λ x c e=>?_,λ p q=>?_⟩
  ·rw[hYfs];intro z;rcases List.mem_cons.mp (I.fF _ z) with e | e
   ·exact f1 e
   ·exact f2 e
  ·rw[hYe] at e;exact f4 x c (hcl1 _ _ e)
  ·rw[List.append_nil,hYpn] at q;exact f5 p q
 have loop:∀ s₃:Shared,s₃={s with heap:=h₁,toks:=s.toks+([]:List (Str×Value)).length} ->
   codeAny (model X.prog X.w) X.A (.compLoop (.DictComp kx vx [⟨tg,iter,ifs,0⟩] sc pos) 0 (.ref it) (.ref D) (compEnvC sc cl s.heap.objs.size X.env)) (RR s.heap.objs.size) s₃:=by
  rintro s₃ rfl;obtain⟨m0,w0⟩:=w0;refine nK (λ n s'=>∃ i τ H',Inv Y [] τ H' s'/\tn i s'.heap/\(∀ b∈fp,H' b=none)/\W i n τ H') ?_ m0 ⟨0,_,H,I1,st1,λ b hb=>(hf b hb).1,w0⟩;rintro n s' ⟨i,τ,H',I',st',hn',w'⟩;rcases turn i n τ H' w' with ⟨stop,fin⟩ | ⟨go,step⟩
  ·have q:=T.done Y hYp hYw hYK hYc i _ s' τ H' (λ _ _=>False) I' (fpY hn') st' stop;rw[hYA] at q;refine thn q λ r s4 hq92=>?_;obtain⟨hr,I4⟩:=hq92;subst hr;have un:Un (frs X.stack) fp H H' s.heap s4.heap:=by have z:=I4.base;rw[hYfs,hYex,hYH,hYs] at z;exact z
   have os4:s4.os=s.os:=by have z:=I4.os;rw[hYs] at z;exact z
   have hok4:HOk X.prog X.w H' s4.heap:=by have z:=I4.hok;rw[hYp,hYw] at z;exact z
   have hch:∀ b∈fp,(b∈X.ex\/X.s₀.heap.objs.size<=b)/\b≠X.env.locals/\(∀ x c,X.env.cells.lookup x=some c->c≠b)/\∀ p∈X.pn++pins,p.1≠b:=λ b hb=>by obtain⟨_,f1,f2,f3,f4,f5⟩:=hf b hb;exact⟨f3,f1,f4,f5⟩
   have IX:Inv X pins σ H' s4:=I.adV os4 un hok4 I4.bare hch;obtain⟨mC,hmC,_⟩:=I4.loc;have hCf:=I4.free;rw[hYe] at hmC hCf;exact hRR _ s4 H' mC IX hCf (Nat.le_refl _) hmC fin
  ·have q:=T.item Y hYp hYw hYK hYc i _ s' τ H' (λ _ _=>False) I' (fpY hn') st' go;rw[hYA] at q;refine thn q λ r s4 hq93=>?_;obtain⟨u,hr,h4⟩:=hq93;subst hr;refine thn h4 λ _ s5 hq94=>?_;obtain⟨x,H5,I5,r5,y5,st5,fr5⟩:=hq94;have I5':=I5.pinned (fpY fr5) (T.obj _ _ st5);have g5:=gY _ s5 τ H5 x u _ I5' r5 (step x H5 y5);rw[hYp,hYw,hYA,hYe,hYx] at g5;refine thn g5 λ _ s6 hq95=>?_;obtain⟨σ6,H6,I6,q6⟩:=hq95;have t6:=tY _ s6 σ6 H6 _ I6 q6;rw[hYp,hYw,hYA,hYe,hYx] at t6;refine thn t6 λ ok s7 hq96=>?_;obtain⟨H7,I7,q7⟩:=hq96;have keepI:∀ {σ8:St} {H8:Hp} {s8:Shared},Inv Y ([]++iO fp s5.heap) σ8 H8 s8->tn (i+1) s8.heap/\∀ b∈fp,H8 b=none:=
    λ {σ8 H8 s8} I8=>by refine⟨T.keep _ _ _ st5 λ b hb o e=>(I8.pin (b,o) (List.mem_append_right _ (List.mem_append_right _ (cL hb e)))).1,λ b hb=>?_⟩;obtain⟨o,e,d⟩:=T.obj _ _ st5 b hb;exact(I8.pin (b,o) (List.mem_append_right _ (List.mem_append_right _ (cL hb e)))).2.1
   cases ok with
   | false =>
    rw[if_neg Bool.false_ne_true] at q7 ⊢;obtain⟨m',hm',w7⟩:=q7;obtain⟨c7,d7⟩:=keepI I7;exact⟨m',hm',i+1,σ6,H7,I7.dh (λ p hp=>(nomatch hp)),c7,d7,w7⟩
   | true =>
    rw[if_pos rfl] at q7 ⊢;have e7:=kY _ s7 σ6 H7 _ I7 q7;rw[hYp,hYw,hYA,hYe,hYx] at e7;refine thn e7 λ ku s8 hq97=>?_;obtain⟨y,H8,I8,r8,q8⟩:=hq97;have e8:=vY _ s8 σ6 H8 _ I8 q8;rw[hYp,hYw,hYA,hYe,hYx] at e8;refine thn e8 λ vu s9 hq98=>?_;obtain⟨z,H9,I9,r9,kvs,k,hD,ey,hlt,m',hm',w9⟩:=hq98;subst ey;have r8':RelV (kV k) ku:=r8;have q9:=yD (A:=X.A) (E:=λ _ _=>False) (Q:=λ _ s₆=>∃ m,m<n/\∃ i τ H',Inv Y [] τ H' s₆/\tn i s₆.heap/\(∀ b∈fp,H' b=none)/\W i m τ H') I9 hD hlt r8' r9 λ s10 I10=>by obtain⟨c8,d8⟩:=keepI I10;exact⟨m',hm',i+1,σ6,_,I10.dh (λ p hp=>(nomatch hp)),c8,d8,w9⟩
    rw[hYp,hYw] at q9;exact q9
 exact codeAny_compStart_dict (loop _ rfl) (T.self _ 0 _ _ _ st1 (loop _ rfl))
def tDC(wi:TI)(g:TG)(tt:TT)(tk tv:TE)(k:Nat)(fr:List Nat):TE:=λ σ H Q=>wi σ H λ J H1=>∀ p,H1 p=none->∃ W:DcW,(∃ m,W 0 m (lcS k fr σ) (upd H1 p (.dK [])))/\abe J g tt tk tv p W λ H2=>Q (.ref p) H2
theorem ahu(hc:X.calm=true)(L:oE X sc own fr)(hi:PI X tg iter wi)
  (hg:∀ cl C s H ex pl,PG (blk X sc (lcN X own fr) cl C s H ex pl) tg g)(ht:∀ cl C s H ex pl,PTs (blk X sc (lcN X own fr) cl C s H ex pl) ifs tt)(hk:∀ cl C s H ex pl,PE (blk X sc (lcN X own fr) cl C s H ex pl) kx tk)(hv:∀ cl C s H ex pl,PE (blk X sc (lcN X own fr) cl C s H ex pl) vx tv)
  (hs:∀ x,foldedSetIterable iter X.env x=pure x:=by intro _;rfl):PE X (.DictComp kx vx [⟨tg,iter,ifs,0⟩] sc pos) (tDC wi g tt tk tv own.length fr):=by
 intro pins s σ H Q I h;obtain⟨cl,hcl,c1,c2⟩:=iZ L I.ok;show wpAny _ _ (comprehension (.DictComp kx vx [⟨tg,iter,ifs,0⟩] sc pos) sc X.env _ newDict false (eval iter X.env)) _ _ _;refine wpAny_comprehension_free (use:=none) (g:=⟨tg,iter,ifs,0⟩) (gs:=[]) rfl hs hcl L.kind L.names ?_;refine thn (hi pins s σ H _ I h) λ v s1 h1=>thn h1 λ itv s2 h2=>?_;obtain⟨it,fp,tn,J,H2,e,I2,T,st2,f2,q2⟩:=h2;subst e;obtain⟨W,w0,turn⟩:=q2 _ (I2.hok.fresh (Nat.le_refl s2.heap.objs.size));refine wpAny_newObj_type ?_;have I3:=I2.laid (a:=s2.heap.objs.size) (o:=.dK []) (h':=s2.heap.push {cls:=.type "dict",data:=.dict #[]}) (t':=s2.toks) (λ _ _ q=>Heap.get?_push_of_some _ q) (Nat.le_refl _) (mJ s2.heap I2.big);have hfb:∀ b∈fp,b<s2.heap.objs.size:=λ b hb=>by obtain⟨o,e,_⟩:=T.obj 0 _ st2 b hb;exact Heap.lt_size e
 have f3:∀ b∈fp,jm X pins (upd H2 s2.heap.objs.size (.dK [])) b:=λ b hb=>by obtain⟨f0,fr⟩:=f2 b hb;exact⟨by rw[aj (Nat.ne_of_lt (hfb b hb))];exact f0,fr⟩
 have st3:tn 0 (s2.heap.push {cls:=.type "dict",data:=.dict #[]}):=T.keep 0 _ _ st2 λ b _ o e=>Heap.get?_push_of_some _ e;refine acQ (cl:=cl) hc L c1 c2 (hg cl) (ht cl) (hk cl) (hv cl) I3 T st3 f3 w0 turn λ C s' H' m I' hC dC hns fin=>?_;refine⟨m,hns,λ h' sb=>?_⟩;have hC2:s2.heap.objs.size<=C:=Nat.le_trans (by rw[Heap.size_push];exact Nat.le_succ _) dC;obtain⟨_,z2,_,_,z3,z4⟩:=I2.n4 (H':=λ _=>none) hC2 rfl;have I4:Inv X pins σ H' {s' with heap:=h'}:=I'.turned (t':=s'.toks) (λ b o hb e=>sb.extBut b o hb e) hC z2 (.inr (Nat.le_trans I2.sz hC2)) z3 z4;exact⟨.ref _,_,I4,rfl,fin⟩
end
end L2
namespace D
open L2
section
variable {K:FG}
def dDC(di:TId)(g:TGd)(tt:TTd)(tk tv:TD)(k:Nat)(fr:List Nat)(τ:DS)(M:MH)(Q:QD):Prop:=di τ M λ ws M1=>∀ p,M1 p=none->∃ P:Nat->DS->MH->Prop,P 0 (abX k fr τ) (bH M1 p (.dic [])) /\
 (∀ i w τ M,ws[i]? =some w->P i τ M->g w τ M λ τ2 M2=>tt τ2 M2 λ b M3=>if b=true then tk τ2 M3 λ y M4=>tv τ2 M4 λ z M5=>∃ kvs key,M5 p=some (.dic kvs)/\y=kW key/\kvs.length<sizeLine/\P (i+1) τ2 (bH M5 p (.dic (uZ kvs key z))) else P (i+1) τ2 M3) /\
 ∀ τ M,P ws.length τ M->Q (.m p) M
theorem ahg(h:up K (dDC di g tt tk tv k fr) σ H Q) :
  tDC (upI K di) (upG K g) (upT K tt) (up K tk) (up K tv) k fr σ H Q:=by
 obtain⟨τ,M,Qd,A,h,kk⟩:=h;refine⟨τ,M,_,A,h,λ J H1 ws M1 kp m1 it hall p hp=>?_⟩;obtain⟨P,p0,pt,pe⟩:=hall p (m1.free hp);have kpn:Kp H1 (upd H1 p (.dK [])):=Kp.new hp;have mn:c5 K (upd H1 p (.dK [])) (bH M1 p (.dic [])):=m1.put (mo:=.dic []) kpn ⟨_,aq,.nil⟩;refine⟨λ i n σ' H'=>n=ws.length-i/\i<=ws.length/\Kp (upd H1 p (.dK [])) H'/\∃ τ M,Abs K H' σ' τ M/\P i τ M,⟨ws.length,by simp,Nat.zero_le _,Kp.refl _,_,_,tG (A.go (kp.trans kpn) mn) k fr,p0⟩,?_⟩;rintro i n σ2 H2 ⟨rfl,hi,kp2,τ2,M2,A2,p2⟩;obtain⟨go,stop,yld⟩:=it H2 (kpn.trans kp2) i
 by_cases hlt:i<ws.length
 ·refine .inr ⟨go hlt,λ x H3 y=>?_⟩;obtain⟨kp3,mk,w,ew,rw⟩:=yld x H3 hlt y;refine⟨w,τ2,M2,_,rw,A2.go kp3 (mk _ A2.mem),pt i w τ2 M2 ew p2,λ σ4 H4 τ4 M4 kp4 A4 q4=>⟨τ4,M4,_,A4,q4,λ b H5 M5 kp5 m5 q5=>?_⟩⟩;have kq:=(kp3.trans kp4).trans kp5;cases b with
  | false =>
   rw[if_neg Bool.false_ne_true] at q5;exact dP ⟨ws.length-(i+1),by omega,rfl,hlt,kp2.trans kq,τ4,M5,A4.go kp5 m5,q5⟩
  | true =>
   rw[if_pos rfl] at q5;refine gE ⟨τ4,M5,_,A4.go kp5 m5,q5,λ ky H6 wy M6 kp6 r6 m6 q6=>⟨τ4,M6,_,A4.go (kp5.trans kp6) m6,q6,λ v H7 wv M7 kp7 r7 m7 hq99=>?_⟩⟩;obtain⟨kvs,key,hm,ey,hl,q7⟩:=hq99;subst ey;obtain⟨l,e,pr⟩:=m7 _ _ hm;have kp8:Kp H7 (upd H7 p (.dK (putK l key v))):=Kp.set e (λ _ z=>nomatch z) (λ _ _ z=>nomatch z);refine⟨l,key,e,kN r6,by rw[<- su pr];exact hl,ws.length-(i+1),by omega,rfl,hlt,kp2.trans (((kq.trans kp6).trans kp7).trans kp8),τ4,_,A4.go (((kp5.trans kp6).trans kp7).trans kp8) (m7.put (mo:=.dic (uZ kvs key wv)) kp8 ⟨_,aq,?_⟩),q7⟩;exact Paired.gu (abg key r7 pr) λ p q z=>⟨z.1,z.2.keep kp8⟩
 ·have hl:i=ws.length:=by omega
  subst hl;refine .inl ⟨stop (Nat.le_refl _),?_⟩;exact kk _ H2 (.m p) M2 (kp.trans (kpn.trans kp2)) rfl A2.mem (pe τ2 M2 p2)
variable {X:Cx}{sc:Scope}{own:List Str}{fr:List Nat}{di:TId}{g:TGd}{tt:TTd}{tk tv:TD}{tg iter kx vx:Expr}{ifs:List Expr}{pos:Pos}
theorem afb(hc:X.calm=true)(L:oE X sc own fr)(hi:PId X tg iter di)
  (hg:∀ cl C s H ex pl,PGd (blk X sc (lcN X own fr) cl C s H ex pl) tg g)(ht:∀ cl C s H ex pl,ud (blk X sc (lcN X own fr) cl C s H ex pl) ifs tt)(hk:∀ cl C s H ex pl,PD (blk X sc (lcN X own fr) cl C s H ex pl) kx tk)(hv:∀ cl C s H ex pl,PD (blk X sc (lcN X own fr) cl C s H ex pl) vx tv)
  (hs:∀ x,foldedSetIterable iter X.env x=pure x:=by intro _;rfl):PD X (.DictComp kx vx [⟨tg,iter,ifs,0⟩] sc pos) (dDC di g tt tk tv own.length fr):=
 gp (ahu hc L hi hg ht hk hv hs) λ σ H Q h=>ahg h
end
end D
open L2 D
theorem agy(hc:X.calm=true)(L:oE X sc own fr)(hi:Jd (PId X tg iter di))
  (hg:∀ cl C s H ex pl,Jd (PGd (blk X sc (lcN X own fr) cl C s H ex pl) tg g))(ht:∀ cl C s H ex pl,Jd (ud (blk X sc (lcN X own fr) cl C s H ex pl) ifs tt))(hk:∀ cl C s H ex pl,Jd (PD (blk X sc (lcN X own fr) cl C s H ex pl) kx tk))(hv:∀ cl C s H ex pl,Jd (PD (blk X sc (lcN X own fr) cl C s H ex pl) vx tv))
  (hs:∀ x,foldedSetIterable iter X.env x=pure x:=by intro _;rfl):Jd (PD X (.DictComp kx vx [⟨tg,iter,ifs,0⟩] sc pos) (dDC di g tt tk tv own.length fr)):=
 ⟨D.afb hc L hi.h (λ cl C s H ex pl=>(hg cl C s H ex pl).h) (λ cl C s H ex pl=>(ht cl C s H ex pl).h) (λ cl C s H ex pl=>(hk cl C s H ex pl).h) (λ cl C s H ex pl=>(hv cl C s H ex pl).h) hs⟩
namespace L2
end L2
namespace D
open L2
end D
open L2 D
namespace D
open L2
end D
open L2 D
namespace D
open L2
end D
open L2 D
namespace D
open L2
section
variable {X:Cx}{K:FG}
end
end D
namespace PySem
namespace Dp
theorem u7:typeLookup (.type "list") "keys" = pure none:=am_miss_of_fast (by decide +kernel)
theorem pF:entryFor table "dict.update.loop" = some Builtin.«dict.update.loop»:=entryFor_of_tree (by kernel_rfl)
theorem iC:plainId "dict.update.loop" = true:=by decide +kernel
section
variable {prog:Program}{w:World}{A:Around}{E:VP}{s:Shared}
set_option maxHeartbeats 1600000 in
theorem nh
  (hx:s.heap.get? a=some {cls:=.type "list",dict:=none,data:=.seq xs k,slots:=sl})(hA:A.handled=none)
  (h:∀ h' tk,(∀ b ob,s.heap.get? b=some ob->h'.get? b=some ob)->Q none {s with heap:=h',toks:=tk}) :
  wpAny (model prog w) A (getAttr? (.ref a) "keys") Q E s:=by
 obtain⟨hp,g,d,tk,os⟩:=s;have hT:∀ tk',(⟨hp,g,d,tk',os⟩:Shared).TypeIs (.ref a) "list":= λ _=>⟨_,hx,rfl⟩;have f1:=sub_AttributeError;have f3:=F.slot_list_getattribute.lookup;have f4:=F.slot_list_getattribute.bind (.ref a);have f5:=am_list_getattr_none;have hsz:("keys" : Str).length+100<=sizeLine:=by size_fits
 have hname:(["__module__", "__name__", "__qualname__", "__doc__", "__annotations__"]:List Str).contains "keys" = false:=by decide +kernel
 unfold getAttr? getAttrBy? getAttrBy
 repeat (any_goals (first | assumption | exact hT _ | ((with_reducible show wpAny _ _ (call (Value.builtin "list.__getattribute__") _ _) _ _ _);refine call_meets F.slot_list_getattribute (hT _) am_entry_list_getattribute (F.args_list_getattribute_2 _ _) (meets_getattribute_miss_list a xs k sl "keys" _ u7 hname hsz) ⟨hx,hA,λ h' tk' e hx'=>?_⟩) | wp_step))
 obtain⟨t',u',he⟩:=hx'.there;show wpAny _ _ (getattributeRaised _ _ _ _ _ _ _) _ _ _;unfold getattributeRaised
 repeat (any_goals (first | assumption | wp_step))
 exact h _ _ hx'.keeps
variable {K:Type}[DecidableEq K]{knd:KeyKind prog w K}
theorem loop{I D l:Addr}{items:Array Value}{kvs:List (K×Value)}{R:Result->Shared->Prop}{h0:Heap}(hh:A.handled=none)(hDI:D≠I)(hDl:D≠l)(hlI:l≠I)(hsz:kvs.length<=sizeLine)(hlen:items.size=kvs.length)
  (ht:∀ i (hi:i<kvs.length),∃ a key k dct sl,items[i]? =some (.ref a)/\a≠D/\a≠I/\knd.is kvs[i].1 key=true/\h0.get? a=some {cls:=.type "tuple",dict:=dct,data:=.seq #[key,kvs[i].2] k,slots:=sl}) :
  ∀ (j i:Nat) (s:Shared),kvs.length-i=j->i<=kvs.length->s.heap.IsListIter I l i->s.heap.IsList l items->s.heap.DictOf knd D (merged [] (kvs.take i))->(∀ b o,b≠D->b≠I->h0.get? b=some o->s.heap.get? b=some o) ->
   (∀ h' tk,h'.DictOf knd D (merged [] kvs)->(∀ b o,b≠D->b≠I->h0.get? b=some o->h'.get? b=some o)->R (.ok (.ret .none)) {s with heap:=h',toks:=tk}) ->
   codeAny (model prog w) A (.builtin "dict.update.loop" ⟨[.ref D,.ref I,rawInt i,.none],[]⟩) R s:=by
 intro j
 induction j with
 | zero =>
  intro i s hj hi hit hl hd hk hR;have hin:i=kvs.length:=by omega
  subst hin;refine codeAny_builtin pF ?_;rw[Around.under_plainId iC _];show wpAny _ A.in1 (pyNext (.ref I) >>= _) _ _ s;refine wpAny_bind (wpAny_pyNext_list_end (by simpa using hh) hit hl (by simp[hlen]) λ h' he'=>?_);show wpAny _ A.in1 (Builtin.Dict.addKeywords D [] >>= _) _ _ _;refine wpAny_bind (wpAny_pure (wpAny_pure ?_));rw[List.take_length] at hd;refine hR h' s.toks ?_ λ b o b1 b2 e=>he' b o b2 (hk b o b1 b2 e);obtain⟨o,es,ep,ho,rest⟩:=hd;exact⟨o,es,ep,he' D o hDI ho,rest⟩
 | succ j ih =>
  intro i s hj hi hit hl hd hk hR;have hlt:i<kvs.length:=by omega
  obtain⟨a,key,k,dct,sl,e1,a1,a2,hkey,e2⟩:=ht i hlt;refine codeAny_builtin pF ?_;rw[Around.under_plainId iC _];show wpAny _ A.in1 (pyNext (.ref I) >>= _) _ _ s;refine wpAny_bind (wpAny_pyNext_list_item hit hl e1 λ h' hit' hs'=>?_);have e3:h'.get? a=some {cls:=.type "tuple",dict:=dct,data:=.seq #[key,kvs[i].2] k,slots:=sl}:=hs'.extBut a _ a2 (hk a _ a1 a2 e2);have hT:Shared.TypeIs {s with heap:=h'} (.ref a) "tuple":= ⟨_,e3,rfl⟩;have hd':h'.DictOf knd D (merged [] (kvs.take i)):=by obtain⟨o,es,ep,ho,rest⟩:=hd;exact⟨o,es,ep,hs'.extBut D o hDI ho,rest⟩
  have hl':h'.IsList l items:=hl.extBut hs'.extBut hlI;show wpAny _ A.in1 (holding [Value.ref a] _ >>= _) _ _ _;refine wpAny_bind (wpAny_holding ?_);refine wpAny_bind (m:=tryCatch (Builtin.Dict.pairItems (.ref a)) _) (wpAny_tryCatch ?_);unfold Builtin.Dict.pairItems;refine wpAny_bind (wpAny_typeOf hT ?_);rw[if_pos (by decide)];unfold seqItems?;obtain⟨hp,g,d,tk,os⟩:=s;generalize hDS:dictSet=DS
  repeat (any_goals (first | assumption | wp_step))
  subst hDS;have hl2:(merged [] (kvs.take i)).length<=sizeLine:=by have:=merged_length_le [] (kvs.take i);simp at this;omega
  refine wpAny_dictSet_pairs (hsz:=hl2) hkey hd' λ h2 hd2 hs2=>?_;refine wpAny_pure ⟨plainId_quiet iC _,ih (i+1) _ (by omega) hlt ?_ ?_ ?_ ?_ ?_⟩
  ·exact hit'.at λ o e=>hs2.extBut I o (Ne.symm hDI) e
  ·exact hl'.extBut hs2.extBut (Ne.symm hDl)
  ·rw[merged_take_succ [] kvs i kvs[i] (List.getElem?_eq_getElem hlt)];exact hd2
  ·exact λ b o b1 b2 e=>hs2.extBut b o b1 (hs'.extBut b o b2 (hk b o b1 b2 e))
  ·exact λ h' tk d k=>hR h' tk d k
set_option maxHeartbeats 1600000 in
theorem j3{l:Addr}{items:Array Value}{kk:Nat}{sl0:Array (Option Value)}{kvs:List (K×Value)}(hh:A.handled=none)(hsz:kvs.length<=sizeLine)(hlen:items.size=kvs.length)
  (hl:s.heap.get? l=some {cls:=.type "list",dict:=none,data:=.seq items kk,slots:=sl0})
  (ht:∀ i (hi:i<kvs.length),∃ a key k dct sl,items[i]? =some (.ref a)/\knd.is kvs[i].1 key=true/\s.heap.get? a=some {cls:=.type "tuple",dict:=dct,data:=.seq #[key,kvs[i].2] k,slots:=sl})
  (h:∀ h' tk,h'.DictOf knd s.heap.objs.size (merged [] kvs)->(∀ b o,s.heap.get? b=some o->h'.get? b=some o)->Q (.ref s.heap.objs.size) {s with heap:=h',toks:=tk}) :
  wpAny (model prog w) A (call (.type "dict") [.ref l]) Q E s:=by
 refine callType_codes (Q₁:=λ obj s₁=>obj=.ref s.heap.objs.size/\s₁={s with heap:=s.heap.push {cls:=.type "dict",data:=.dict #[]}}) F.kt_called_dict (F.kt_typeCall_dict_1 _) F.entry_dict_init (kt_code_dict_new _ ⟨rfl,rfl⟩) ?_;rintro obj s₁ ⟨rfl,rfl⟩;have hnew:(s.heap.push {cls:=.type "dict",data:=.dict #[]}).DictOf knd s.heap.objs.size []:=Heap.DictOf.new s.heap;have hl1:(s.heap.push {cls:=.type "dict",data:=.dict #[]}).get? l=some {cls:=.type "list",dict:=none,data:=.seq items kk,slots:=sl0}:=Heap.get?_push_of_some _ hl;have hT:Shared.TypeIs {s with heap:=s.heap.push {cls:=.type "dict",data:=.dict #[]}} (.ref l) "list":= ⟨_,hl1,rfl⟩;refine⟨hnew.typeIs,F.args_dict_init_2 _ _,?_⟩;unfold Builtin.«dict.__init__»;refine wpAny_bind ?_;unfold Builtin.Dict.selfAndRest;refine wpAny_bind (wpAny_notOrdered_dict hnew.typeIs ?_);show wpAny _ _ (pure (s.heap.objs.size,[Value.ref l])) _ _ _;refine wpAny_pure ?_;show wpAny _ _ (Builtin.Dict.updateFrom "dict.__init__" s.heap.objs.size (.ref l) [] .none) _ _ _;unfold Builtin.Dict.updateFrom;refine wpAny_bind (wpAny_typeOf hT ?_);rw[if_pos (by decide)];refine wpAny_bind (nh hl1 (by simpa using hh) λ h2 tk2 k2=>?_);rw[if_pos (by rfl)];have hl2:h2.get? l=some {cls:=.type "list",dict:=none,data:=.seq items kk,slots:=sl0}:=k2 _ _ hl1;have il2:h2.IsList l items:=⟨_,hl2,rfl,kk,rfl⟩;refine wpAny_bind (wpAny_rule (wpAny_bind (wpAny_pyIter_list il2 ?_)));have z:s.heap.objs.size<h2.objs.size:=by obtain⟨o,_,_,ho,_⟩:=hnew;exact Heap.lt_size (k2 _ _ ho)
 have zl:l<s.heap.objs.size:=Heap.lt_size hl;have d2:h2.DictOf knd s.heap.objs.size []:=by obtain⟨o,es,ep,ho,rest⟩:=hnew;exact⟨o,es,ep,k2 _ _ ho,rest⟩
 refine wpAny_pure ⟨plainId_quiet iC _,loop (knd:=knd) (h0:=h2) (by simpa using hh) (Nat.ne_of_lt z) (Ne.symm (Nat.ne_of_lt zl)) (Nat.ne_of_lt (Nat.lt_trans zl z)) hsz hlen (λ i hi=>?_) kvs.length 0 _ (by omega) (Nat.zero_le _) ⟨_,Heap.get?_push_size _ rfl,rfl,rfl⟩ (il2.push _) ?_ (λ b o _ _ e=>Heap.get?_push_of_some _ e) λ h' tk dd keep=>?_⟩
 ·obtain⟨a,key,k,dct,sl,e1,hk,e2⟩:=ht i hi;have za:a<s.heap.objs.size:=Heap.lt_size e2;exact⟨a,key,k,dct,sl,e1,Nat.ne_of_lt za,Nat.ne_of_lt (Nat.lt_trans za z),hk,k2 _ _ (Heap.get?_push_of_some _ e2)⟩
 ·exact d2.push _
 ·refine⟨rfl,h h' tk dd λ b o e=>?_⟩;have zb:b<s.heap.objs.size:=Heap.lt_size e;exact keep b o (Nat.ne_of_lt zb) (Nat.ne_of_lt (Nat.lt_trans zb z)) (k2 _ _ (Heap.get?_push_of_some _ e))
end
end Dp
end PySem
namespace D
open L2
section
variable {X:Cx}{K:FG}
theorem pairs_at(I:Inv X pins σ H s):∀ {kvs:List (Key×V)} {vs:List V} {its:List Value},Paired (λ(v:V) (kv:Key×V)=>∃ a,v=.ref a/\SqT X.K H a [kV kv.1,kv.2]) vs kvs->Vals vs its ->
  ∃ ks:List (Key×Value),KV kvs ks/\its.length=ks.length/\∀ i (hi:i<ks.length),∃ a key k dct sl,its[i]? =some (.ref a)/\(aR X.prog X.w).is ks[i].1 key=true/\s.heap.get? a=some {cls:=.type "tuple",dict:=dct,data:=.seq #[key,ks[i].2] k,slots:=sl}
 | _,_,_,.nil,.nil=>⟨[],.nil,rfl,λ i hi=>by simp at hi⟩
 | _,_,_,.cons (b:=b) ⟨a,ea,hq⟩ t,.cons r1 r2=>by
  obtain⟨ks,h1,h2,h3⟩:=pairs_at I t r2;subst ea;cases r1;obtain⟨its,rv,⟨o,e1,e2,n,e3⟩,_⟩:=I.tuple hq;obtain⟨c,dct,dat,sl⟩:=o;simp only at e2 e3;subst e2 e3;cases rv with
  | @cons _ u1 _ _ q1 rv1 =>
  cases rv1 with
  | @cons _ u2 _ _ q2 rv2 =>
  cases rv2;refine⟨(b.1,u2)::ks,.cons ⟨rfl,q2⟩ h1,by simp[h2],λ i hi=>?_⟩;cases i with
  | zero=>exact⟨a,u1,n,dct,sl,rfl,mz q1,e1⟩
  | succ i =>
   have hi':i<ks.length:=by simpa using hi
   obtain⟨a',key,k',dct',sl',z1,z2,z3⟩:=h3 i hi';exact⟨a',key,k',dct',sl',by simpa using z1,z2,z3⟩
theorem xk:∀ {kvs:List (Key×V)} {ks:List (Key×Value)},KV kvs ks->ks.map (·.1)=kvs.map (·.1)
 | _,_,.nil=>rfl
 | _,_,.cons r t=>by rw[List.map_cons,List.map_cons,xk t,r.1]
theorem rG(hc:X.calm=true):d6 X (.type "dict") (λ xs H Q=>∃ p vs,∃ kvs:List (Key×V),xs=[.ref p]/\SqL X.K H p vs/\Paired (λ(v:V) (kv:Key×V)=>∃ a,v=.ref a/\SqT X.K H a [kV kv.1,kv.2]) vs kvs/\(kvs.map (·.1)).Nodup/\∀ l,H l=none->Q (.ref l) (upd H l (.dK kvs))):=by
 intro pins s σ H xs us Q I r h;obtain⟨p,vs,kvs,rfl,hq,pr,nd,q⟩:=h;obtain⟨u,rfl,rx⟩:=vals1 r;cases rx;obtain⟨its,rv,⟨o,n,e0,e1,e2,e3⟩,hz⟩:=I.list hq;obtain⟨c,dct,dat,sl⟩:=o;simp only at e1 e2 e3;subst e1 e2 e3;obtain⟨ks,rel,hl,hk⟩:=pairs_at I pr rv;have hz2:ks.length<=sizeLine:=by rw[<- hl];have:=rv.length;omega
 have nd2:(ks.map (·.1)).Nodup:=by rw[xk rel];exact nd
 refine Dp.j3 (knd:=aR X.prog X.w) (I.ok.hd hc) hz2 (by simpa using hl) e0 (λ i hi=>?_) λ h' tk dd keep=>?_
 ·obtain⟨a,key,k,dct,sl,z1,z2,z3⟩:=hk i hi;exact⟨a,key,k,dct,sl,by simpa using z1,z2,z3⟩
 ·rw[merged_nil_of_nodup ks nd2] at dd;exact⟨.ref _,_,I.laid (a:=s.heap.objs.size) (o:=.dK kvs) (t':=tk) keep (Nat.le_refl _) (pI (by rw[rel.length];exact hz2) (beq_eq_false_iff_ne.mpr (Ne.symm (Nat.ne_of_lt I.big))) rel dd),rfl,q _ (I.hok.fresh (Nat.le_refl _))⟩
def pairD(p:Key×PyData):PyData:=.tuple [sU p.1,p.2]
def tI(ws:List W)(M:MH)(Q:QD):Prop:=∃ w,∃ kds:List (Key×PyData),ws=[w]/\ze M w (kds.map pairD)/\(kds.map (·.1)).Nodup/\∀ p,M p=none->Q (.m p) (bH M p (.dic (aS kds)))
theorem mi:∀ {kds:List (Key×PyData)} {ys:List V},aO K H (kds.map pairD) ys->∃ kvs:List (Key×V),Paired (λ(v:V) (kv:Key×V)=>∃ a,v=.ref a/\SqT K H a [kV kv.1,kv.2]) ys kvs/\Paired (λ(p:Key×W) (q:Key×V)=>p.1=q.1/\ay K H p.2 q.2) (aS kds) kvs
 | [],ys,h=>by
  have e:ys=[]:=by simpa [aO] using h
  subst e;exact⟨[],.nil,.nil⟩
 | kd::kds,ys,h=>by simp only[List.map_cons,pairD,aO,au] at h;obtain⟨v,ys,rfl,⟨a,zs,ev,hq,v1,zs1,e1,rk,v2,zs2,e2,rx,e3⟩,rest⟩:=h;obtain⟨kvs,h1,h2⟩:=mi rest;have ek:=qF rk;subst e1 e2 e3 ek ev;exact⟨(kd.1,v2)::kvs,.cons ⟨a,rfl,hq⟩ h1,.cons ⟨rfl,rx⟩ h2⟩
theorem wM:∀ {kds:List (Key×PyData)} {kvs:List (Key×V)},Paired (λ(p:Key×W) (q:Key×V)=>p.1=q.1/\ay K H p.2 q.2) (aS kds) kvs->kvs.map (·.1)=kds.map (·.1)
 | [],_,.nil=>rfl
 | kd::kds,_,.cons r t=>by rw[List.map_cons,List.map_cons,wM t,<- r.1]
theorem xM:eU K (λ xs H Q=>∃ p vs,∃ kvs:List (Key×V),xs=[.ref p]/\SqL K H p vs/\Paired (λ(v:V) (kv:Key×V)=>∃ a,v=.ref a/\SqT K H a [kV kv.1,kv.2]) vs kvs/\(kvs.map (·.1)).Nodup/\∀ l,H l=none->Q (.ref l) (upd H l (.dK kvs))) tI:=by intro vs H ws M Qd Q r m ⟨w,kds,e,g,nd,q⟩ k;subst e;obtain⟨v,e1,r1⟩:=d4 r;obtain⟨p,ys,ev,hs,ra⟩:=g.sound r1 m;subst ev;obtain⟨kvs,h1,h2⟩:=mi ra;refine⟨p,ys,kvs,e1,hs,h1,by rw[wM h2];exact nd,λ l hl=>?_⟩;have kp:Kp H (upd H l (.dK kvs)):=Kp.new hl;exact k _ _ (.m l) _ kp rfl (m.put (mo:=.dic (aS kds)) kp ⟨kvs,aq,Paired.gu h2 λ p q z=>⟨z.1,z.2.keep kp⟩⟩) (q l (m.free hl))
end
end D
namespace Stc
open L2 D Rc
theorem ah9(m:Int)(rs:List Int)(i:Int):room (m::rs) i=roomOf i m+room rs i:=by rw[kP,kP,List.map_cons,List.sum_cons]
theorem ae4(hi:0<=i):∀ {rs:List Int},(∀ m∈rs,0<=m)->0<=room rs i
 | [],_=>by simp[room]
 | m::rs,h=>by
  have ih:=ae4 hi (rs:=rs) λ x hx=>h x (by simp[hx]);have hm:=h m (by simp);rw[ah9];have:0<=roomOf i m:=by unfold roomOf;split<;>omega
  omega
end Stc
namespace D
open L2
section
variable {X:Cx}{K:FG}
def agw(n:Nat)(t:TAd)(gs:afZ)(D:Ed)(τ:DS)(M:MH):Prop:=t τ M λ ws M1=>ws.length=n/\n<=sizeLine/\gs ws τ M1 D.nx
theorem w6:∀ {kvs:List (Key×W)} {l:List (Key×V)},Paired (λ(p:Key×W) (q:Key×V)=>p.1=q.1/\ay K H p.2 q.2) kvs l->l.length=kvs.length/\∀ (i:Nat) kv,l[i]? =some kv->∃ p,kvs[i]? =some p/\p.1=kv.1
 | _,_,.nil=>⟨rfl,λ i kv h=>by simp at h⟩
 | p::kvs,_,.cons r t=>by
  obtain⟨h1,h2⟩:=w6 t;refine⟨by simp[h1],λ i kv h=>?_⟩;cases i with
  | zero=>simp at h;subst h;exact⟨p,rfl,r.1⟩
  | succ i=>simp at h;obtain⟨p',e,e'⟩:=h2 i kv h;exact⟨p',by simpa using e,e'⟩
def rN(td:TD)(τ:DS)(M:MH)(R:List W->MH->Prop):Prop:=td τ M λ w M1=>∃ a kvs,w=.m a/\M1 a=some (.fdic kvs)/\R (kvs.map λ p=>kW p.1) M1
def afh(t:TS):TS:=λ D σ H=>∃ a l,H a=some (.dK l)/\∀ o,t
 {nx:=λ σ' H'=>H' a=some (.frz o (.frz o (.dK l)))/\D.nx σ' (upd H' a (.dK l)),rt:=λ v H'=>H' a=some (.frz o (.frz o (.dK l)))/\D.rt v (upd H' a (.dK l)),
  bk:=λ σ' H'=>H' a=some (.frz o (.frz o (.dK l)))/\D.bk σ' (upd H' a (.dK l)),ct:=λ σ' H'=>H' a=some (.frz o (.frz o (.dK l)))/\D.ct σ' (upd H' a (.dK l))} σ (upd H a (.frz o (.frz o (.dK l))))
theorem aaq{st:Stmt}{t:TS}(h:PS X st t):PS X st (afh t):=by
 intro pins s σ H D I ⟨a,l,ha,q⟩;obtain⟨o,I1⟩:=Inv.xG I ha;refine thn (h pins s σ _ _ I1 (q o)) λ f s1 hf=>?_;cases f with
 | next=>obtain⟨σ',H',I2,e,q2⟩:=hf;exact⟨σ',_,Inv.again I ha I2 e,q2⟩
 | brk=>obtain⟨σ',H',I2,e,q2⟩:=hf;exact⟨σ',_,Inv.again I ha I2 e,q2⟩
 | cont=>obtain⟨σ',H',I2,e,q2⟩:=hf;exact⟨σ',_,Inv.again I ha I2 e,q2⟩
 | ret u=>obtain⟨v,σ',H',I2,r,e,q2⟩:=hf;exact⟨v,σ',_,Inv.again I ha I2 e,r,q2⟩
def mH(t:TSd)(D:Ed)(τ:DS)(M:MH):Prop:=∃ a kvs,M a=some (.dic kvs)/\t
 {nx:=λ τ' M'=>M' a=some (.fdic kvs)/\D.nx τ' (bH M' a (.dic kvs)),rt:=λ w M'=>M' a=some (.fdic kvs)/\D.rt w (bH M' a (.dic kvs)),
  bk:=λ τ' M'=>M' a=some (.fdic kvs)/\D.bk τ' (bH M' a (.dic kvs)),ct:=λ τ' M'=>M' a=some (.fdic kvs)/\D.ct τ' (bH M' a (.dic kvs))} τ (bH M a (.fdic kvs))
theorem Abs.back(h:H a=some (.frz o (.frz o (.dK l))))(A:Abs K H σ τ M)(e:M a=some (.fdic kvs)):Abs K (upd H a (.dK l)) σ τ (bH M a (.dic kvs)):=
 ⟨A.len,λ i w q=>let ⟨v,q1,r⟩:=A.val i w q; ⟨v,q1,ay.back h r⟩,c5.back h A.mem e⟩
end
theorem wN(hc:X.calm=true)(ha:Jd (PAd X es t))(hg:Jd (abr X ts gs))(hn:(assignEach ts X.env).length=n:=by rfl)(hst:(assignEach ts X.env).findIdx? (·.1)=none:=by rfl)
  (hs:swapsWithSole [.Tuple ts k p1] (.Tuple es k2 p2) pos.line X.env=pure false:=by rfl)(hw:swappedStores [.Tuple ts k p1] (.Tuple es k2 p2) X.env=pure none:=by rfl)
  (h1:(assignEach [.Tuple ts k p1] X.env).map (·.2)=[assign (.Tuple ts k p1) X.env]:=by rfl):Jd (PSd X (.Assign [.Tuple ts k p1] (.Tuple es k2 p2) pos) (agw n t gs)):=⟨have ha:=ha.h;have hg:=hg.h;
 sX (abC (abL ha) (abn hc hg hn hst) hs hw h1) λ D σ H h=>by obtain⟨τ,M,Dd,A,h,k1,_⟩:=h;refine⟨τ,M,_,A,h,λ vs H1 ws M1 kp1 r1 m1 hq100=>?_⟩;obtain⟨el,hz,q⟩:=hq100;have hl:=r1.length;refine⟨by omega,λ p hp=>?_⟩;have kp2:Kp H1 (upd H1 p (.tup vs)):=Kp.new hp;refine⟨p,vs,rfl,.inl (.inl aq),by omega,ws,τ,M1,_,bB.keep kp2 r1,A.go (kp1.trans kp2) (m1.new hp),q,λ σ' H' τ' M' kp' A' q'=>?_⟩;exact k1 σ' H' τ' M' ((kp1.trans kp2).trans kp') A' q'⟩
theorem kK(ho:Jd (PD X o td)):Jd (PId X tg o (rN td)):=⟨have ho:=ho.h;abi (sI ho) λ σ H R hq101=>by
 obtain⟨τ,M,Rd,A,h,k⟩:=hq101;refine⟨τ,M,_,A,h,λ v H1 w M1 kp r m hq102=>?_⟩;obtain⟨a,kvs,ew,hm,q⟩:=hq102;subst ew;obtain⟨ob,l,e,pr⟩:=m _ _ hm;obtain⟨hlen,hget⟩:=w6 pr;refine⟨a,ob,l,r,e,k _ H1 _ M1 kp m (λ H2 kp2 i=>?_) q⟩;have hlw:(kvs.map λ p=>kW p.1).length=l.length:=by rw[hlen];simp
 have e2:=kp2.frz a ob _ e;refine⟨λ hi=>⟨e2,by omega⟩,λ hi=>⟨e2,by omega⟩,λ x H' hi hq103=>?_⟩;obtain⟨eH,kv,hkv,ex⟩:=hq103;subst ex eH;obtain⟨p,e3,e4⟩:=hget i kv hkv;refine⟨Kp.refl _,λ M m=>m,kW p.1,by simp[e3],?_⟩;rw[e4];cases kv.1<;>simp[kW,sU,kV,ay,au]⟩
theorem jc{st:Stmt}{t:TSd}(h:Jd (PSd X st t)):Jd (PSd X st (mH t)):=⟨have h:=h.h;sX (aaq h) λ D σ H hq104=>by
 obtain⟨τ,M,Dd,A,⟨a,kvs,hm,q⟩,k1,k2,k3,k4⟩:=hq104;obtain⟨l,e,pr⟩:=A.mem _ _ hm;refine⟨a,l,e,λ o=>?_⟩;have kp:Kp H (upd H a (.frz o (.frz o (.dK l)))):=Kp.set e (λ _ z=>nomatch z) (λ _ _ z=>nomatch z);have m1:c5 X.K (upd H a (.frz o (.frz o (.dK l)))) (bH M a (.fdic kvs)):=A.mem.put (mo:=.fdic kvs) kp ⟨o,l,aq,Paired.gu pr λ p q z=>⟨z.1,z.2.keep kp⟩⟩;have kpb:∀ H',Kp (upd H a (.frz o (.frz o (.dK l)))) H'->Kp H (upd H' a (.dK l)):=λ H' kp'=>⟨λ b xs z=>by
   have hb:b≠a:=λ y=>by rw[y,e] at z;cases z
   rw[aj hb];exact kp'.tup b xs (by rw[aj hb];exact z),λ b ob u z=>by
   have hb:b≠a:=λ y=>by rw[y,e] at z;cases z
   rw[aj hb];exact kp'.frz b ob u (by rw[aj hb];exact z)⟩
 refine⟨τ,_,_,A.go kp m1,q,?_,?_,?_,?_⟩
 ·rintro σ' H' τ' M' kp' A' ⟨h1,q1⟩;have e':=kp'.frz a o _ aq;exact⟨e',k1 _ _ _ _ (kpb H' kp') (Abs.back e' A' h1) q1⟩
 ·rintro v H' w M' kp' r' m' ⟨h1,q1⟩;have e':=kp'.frz a o _ aq;exact⟨e',k2 _ _ _ _ (kpb H' kp') (ay.back e' r') (c5.back e' m' h1) q1⟩
 ·rintro σ' H' τ' M' kp' A' ⟨h1,q1⟩;have e':=kp'.frz a o _ aq;exact⟨e',k3 _ _ _ _ (kpb H' kp') (Abs.back e' A' h1) q1⟩
 ·rintro σ' H' τ' M' kp' A' ⟨h1,q1⟩;have e':=kp'.frz a o _ aq;exact⟨e',k4 _ _ _ _ (kpb H' kp') (Abs.back e' A' h1) q1⟩⟩
end D
namespace S
open PySem PySem.W PyProof.Rows
end S
namespace D
open L2 S
section
variable {X:Cx}{K:FG}
end
def ahm(M:MH):Nat->W->PyData->Prop
 | 0,w,d=>w=.d d
 | n+1,w,d=>w=.d d\/(∃ a ws ds,w=.m a/\M a=some (.lst ws)/\d=.list ds/\Paired (ahm M n) ws ds)\/∃ a ws ds,w=.m a/\M a=some (.tup ws)/\d=.tuple ds/\Paired (ahm M n) ws ds
theorem ahm.d:∀ {n:Nat},ahm M n (.d x) x
 | 0=>rfl
 | _+1=>.inl rfl
section
variable {X:Cx}{K:FG}
end
theorem sd(I:Inv X pins σ H s)(h:H a=some (.lst l)):(∀ xs,X.H₀ a≠some (.tup xs))/\(∀ o v,X.H₀ a≠some (.frz o v))/\∀ ps,X.H₀ a≠some (.tbl ps):=by
 refine⟨λ xs e=>?_,λ o v e=>?_,λ ps e=>?_⟩
 ·have:=I.base.tups a xs e;rw[h] at this;cases this
 ·have:=I.base.frzs a o v e;rw[h] at this;cases this
 ·obtain⟨m,this⟩:=I.base.tbls a ps e;rw[h] at this;cases this
theorem Inv.af6(I:Inv X pins σ H s)(h:H a=some (.lst l)):∃ o,Inv X pins σ (upd H a (.frz o (.frz o (.lst l)))) s:=by have f:Fz (.lst l):=trivial;obtain⟨o,ho⟩:=(I.hok a _ h).obj f;obtain⟨b1,b2,b3⟩:=sd I h;exact⟨o,Inv.swap I h (λ _ z=>nomatch z) (λ _ z=>nomatch z) b1 b2 b3 ⟨ho,ho,(I.hok a _ h).afR f⟩⟩
theorem Inv.sA(I0:Inv X pins σ0 H0 s0)(h0:H0 a=some (.lst l))(I:Inv X pins σ H s)(h:H a=some (.frz o (.frz o (.lst l)))):Inv X pins σ (upd H a (.lst l)) s:=by have f:Fz (.lst l):=trivial;obtain⟨b1,b2,b3⟩:=sd I0 h0;exact Inv.swap I h (λ _ z=>nomatch z) (λ _ z=>nomatch z) b1 b2 b3 ((I.hok a _ h).2.2.afR f)
def aec(t:TS):TS:=λ D σ H=>∃ a l,H a=some (.lst l)/\∀ o,t
 {nx:=λ σ' H'=>H' a=some (.frz o (.frz o (.lst l)))/\D.nx σ' (upd H' a (.lst l)),rt:=λ v H'=>H' a=some (.frz o (.frz o (.lst l)))/\D.rt v (upd H' a (.lst l)),
  bk:=λ σ' H'=>H' a=some (.frz o (.frz o (.lst l)))/\D.bk σ' (upd H' a (.lst l)),ct:=λ σ' H'=>H' a=some (.frz o (.frz o (.lst l)))/\D.ct σ' (upd H' a (.lst l))} σ (upd H a (.frz o (.frz o (.lst l))))
theorem yB{st:Stmt}{t:TS}(h:PS X st t):PS X st (aec t):=by
 intro pins s σ H D I ⟨a,l,ha,q⟩;obtain⟨o,I1⟩:=Inv.af6 I ha;refine thn (h pins s σ _ _ I1 (q o)) λ f s1 hf=>?_;cases f with
 | next=>obtain⟨σ',H',I2,e,q2⟩:=hf;exact⟨σ',_,Inv.sA I ha I2 e,q2⟩
 | brk=>obtain⟨σ',H',I2,e,q2⟩:=hf;exact⟨σ',_,Inv.sA I ha I2 e,q2⟩
 | cont=>obtain⟨σ',H',I2,e,q2⟩:=hf;exact⟨σ',_,Inv.sA I ha I2 e,q2⟩
 | ret u=>obtain⟨v,σ',H',I2,r,e,q2⟩:=hf;exact⟨v,σ',_,Inv.sA I ha I2 e,r,q2⟩
section
variable {K:FG}{H:Hp}{a:Addr}{o:Obj}{l:List V}
theorem Kp.cf(h:H a=some (.frz o (.frz o (.lst l)))):(∀ b xs,H b=some (.tup xs)->upd H a (.lst l) b=some (.tup xs))/\(∀ b ob ys,H b=some (.frz ob (.lst ys))->upd H a (.lst l) b=some (.frz ob (.lst ys)))/\∀ b ob ys,H b=some (.frz ob (.dK ys))->upd H a (.lst l) b=some (.frz ob (.dK ys)):=by
 refine⟨λ b xs e=>?_,λ b ob ys e=>?_,λ b ob ys e=>?_⟩<;>
 ·rw[aj (λ z=>by rw[z,h] at e;cases e)];exact e
theorem SqT.cf(h:H a=some (.frz o (.frz o (.lst l))))(r:SqT K H b vs):SqT K (upd H a (.lst l)) b vs:=by
 rcases r with (r | ⟨ob,r⟩) | r
 ·exact .inl (.inl ((Kp.cf h).1 _ _ r))
 ·refine .inl (.inr ⟨ob,?_⟩);rw[aj (λ z=>by rw[z,h] at r;cases r)];exact r
 ·exact .inr r
theorem SqF.cf(h:H a=some (.frz o (.frz o (.lst l))))(r:SqF K H b vs):SqF K (upd H a (.lst l)) b vs:=by
 rcases r with ⟨ob,r⟩ | r
 ·exact .inl ⟨ob,(Kp.cf h).2.1 _ _ _ r⟩
 ·exact .inr r
mutual
theorem au.cf(h:H a=some (.frz o (.frz o (.lst l)))):∀ {d:PyData} {v:V},au K H d v->au K (upd H a (.lst l)) d v
 | .none,v,r=>by simp only[au] at r ⊢;exact r
 | .bool b,v,r=>by simp only[au] at r ⊢;exact r
 | .int i,v,r=>by simp only[au] at r ⊢;exact r
 | .str x,v,r=>by simp only[au] at r ⊢;exact r
 | .list ds,v,r=>by simp only[au] at r ⊢;obtain⟨b,vs,e,q,r⟩:=r;exact⟨b,vs,e,SqF.cf h q,aO.cf h r⟩
 | .tuple ds,v,r=>by simp only[au] at r ⊢;obtain⟨b,vs,e,q,r⟩:=r;exact⟨b,vs,e,SqT.cf h q,aO.cf h r⟩
 | .dict kvs,v,r=>by simp only[au] at r ⊢;obtain⟨b,ob,m,e,q,r⟩:=r;exact⟨b,ob,m,e,(Kp.cf h).2.2 _ _ _ q,jh.cf h r⟩
theorem aO.cf(h:H a=some (.frz o (.frz o (.lst l)))):∀ {ds:List PyData} {vs:List V},aO K H ds vs->aO K (upd H a (.lst l)) ds vs
 | [],vs,r=>by simp only[aO] at r ⊢;exact r
 | d::ds,vs,r=>by simp only[aO] at r ⊢;obtain⟨v,q,e,h1,h2⟩:=r;exact⟨v,q,e,au.cf h h1,aO.cf h h2⟩
theorem jh.cf(h:H a=some (.frz o (.frz o (.lst l)))):∀ {ds:List (PyData×PyData)} {m:List (Key×V)},jh K H ds m->jh K (upd H a (.lst l)) ds m
 | [],m,r=>by simp only[jh] at r ⊢;exact r
 | (key,d)::ds,m,r=>by simp only[jh] at r ⊢;obtain⟨k',v,q,e,ek,h1,h2⟩:=r;exact⟨k',v,q,e,ek,au.cf h h1,jh.cf h h2⟩
end
theorem ay.cf(h:H a=some (.frz o (.frz o (.lst l)))):∀ {w:W} {v:V},ay K H w v->ay K (upd H a (.lst l)) w v
 | .d _,_,r=>au.cf h r
 | .m _,_,r=>r
 | .t _,_,r=>r
theorem c5.cf(h:H a=some (.frz o (.frz o (.lst l))))(m:c5 K H M)(e:M a=some (.flst ws0)):c5 K (upd H a (.lst l)) (bH M a (.lst ws0)):=λ b mo q=>by
 by_cases hb:b=a
 ·subst hb;rw[ak] at q;cases q;obtain⟨o',l',e',pr⟩:=m _ _ e;rw[h] at e';cases e';exact⟨l,aq,Paired.gu pr λ _ _ z=>ay.cf h z⟩
 ·rw[aI hb] at q;have r:=m b mo q;cases mo with
  | lst ws=>obtain⟨vs,e,r⟩:=r;exact⟨vs,by rw[aj hb];exact e,Paired.gu r λ _ _ z=>ay.cf h z⟩
  | dic kvs=>obtain⟨l,e,r⟩:=r;exact⟨l,by rw[aj hb];exact e,Paired.gu r λ p q z=>⟨z.1,ay.cf h z.2⟩⟩
  | dct kvs=>obtain⟨l,e,r⟩:=r;exact⟨l,by rw[aj hb];exact e,Paired.gu r λ p q z=>⟨z.1,ay.cf h z.2⟩⟩
  | fdic kvs=>obtain⟨o,l,e,r⟩:=r;exact⟨o,l,by rw[aj hb];exact e,Paired.gu r λ p q z=>⟨z.1,ay.cf h z.2⟩⟩
  | ins C fs=>obtain⟨dx,l,e,r⟩:=r;exact⟨dx,l,by rw[aj hb];exact e,Paired.gu r λ p q z=>⟨z.1,ay.cf h z.2⟩⟩
  | tup ws=>obtain⟨vs,e,r⟩:=r;exact⟨vs,by rw[aj hb];exact e,Paired.gu r λ _ _ z=>ay.cf h z⟩
  | flst ws=>obtain⟨o,vs,e,r⟩:=r;exact⟨o,vs,by rw[aj hb];exact e,Paired.gu r λ _ _ z=>ay.cf h z⟩
  | exc C fs =>
   obtain⟨φ,dct,e,p,r⟩:=r;refine⟨φ,dct,by rw[aj hb];exact e,p,?_⟩;rcases r with r | ⟨dx,o',l',e1,e2,r⟩
   ·exact .inl r
   ·exact .inr ⟨dx,o',l',e1,by rw[aj (λ z=>by rw[z,h] at e2;cases e2)];exact e2,Paired.gu r λ p q z=>⟨z.1,ay.cf h z.2⟩⟩
  | code q pos =>
   obtain⟨ps,e,ht,hc⟩:=r;refine⟨ps,by rw[aj hb];exact e,ht,?_⟩;rcases hc with hc | ⟨c,o',vs,t,e1,e2,e3⟩
   ·exact .inl hc
   ·exact .inr ⟨c,o',vs,t,e1,by rw[aj (λ z=>by rw[z,h] at e2;cases e2)];exact e2,e3⟩
theorem Abs.cf(h:H a=some (.frz o (.frz o (.lst l))))(A:Abs K H σ τ M)(e:M a=some (.flst ws0)):Abs K (upd H a (.lst l)) σ τ (bH M a (.lst ws0)):=
 ⟨A.len,λ i w q=>let ⟨v,q1,r⟩:=A.val i w q; ⟨v,q1,ay.cf h r⟩,c5.cf h A.mem e⟩
end
theorem jI(e:H a=some (.lst l))(kp':Kp (upd H a (.frz o (.frz o (.lst l)))) H'):Kp H (upd H' a (.lst l)):=⟨λ b xs z=>by
  have hb:b≠a:=λ y=>by rw[y,e] at z;cases z
  rw[aj hb];exact kp'.tup b xs (by rw[aj hb];exact z),λ b ob u z=>by
  have hb:b≠a:=λ y=>by rw[y,e] at z;cases z
  rw[aj hb];exact kp'.frz b ob u (by rw[aj hb];exact z)⟩
def jz(t:TSd)(D:Ed)(τ:DS)(M:MH):Prop:=∃ a ws,M a=some (.lst ws)/\t
 {nx:=λ τ' M'=>M' a=some (.flst ws)/\D.nx τ' (bH M' a (.lst ws)),rt:=λ w M'=>M' a=some (.flst ws)/\D.rt w (bH M' a (.lst ws)),
  bk:=λ τ' M'=>M' a=some (.flst ws)/\D.bk τ' (bH M' a (.lst ws)),ct:=λ τ' M'=>M' a=some (.flst ws)/\D.ct τ' (bH M' a (.lst ws))} τ (bH M a (.flst ws))
abbrev tT(o:Obj)(l:List V):HO:=.frz o (.frz o (.lst l))
theorem lb(ok:HOk P w H h)(e:H a=some (tT o l)):∃ its:List Value,Vals l its/\h.IsList a its.toArray:=by obtain⟨ho,_,z,its,n,r,h1⟩:=ok a _ e;exact⟨its,r,⟨_,h1,rfl,n,rfl⟩⟩
def Itf(a:Addr)(o:Obj)(l:List V):It:=
 ⟨λ i H=>H a=some (tT o l)/\i<l.length,λ i H x H'=>H'=H/\l[i]? =some x,λ i H=>H a=some (tT o l)/\l.length<=i⟩
theorem uG{P:Program}{w:World}{K:FG}{tg:Expr}(a it:Addr)(o:Obj)(l:List V):Turn P w K tg (Itf a o l) [it] it (λ i h=>h.IsListIter it a i) where
 mem:=by simp
 obj:=λ i h st b hb=>by
  have e:b=it:=by simpa using hb
  subst e;obtain⟨o,e,c,d⟩:=st;exact⟨o,e,λ v z=>by rw[d] at z;cases z⟩
 keep:=λ i h h' st k=>st.at λ o e=>k it (by simp) o e
 item:=by intro X hP hw hK hc i pins s σ H E I hf st ⟨hg,hi⟩;subst hP hw hK;obtain⟨its,rv,p⟩:=lb I.hok hg;obtain⟨u,hu,ru⟩:=rv.get (List.getElem?_eq_getElem hi);obtain⟨f0,f1,f2,f3,f4,f5⟩:=hf it (by simp);refine wpAny_pyNext_list_item st p (x:=u) (by simpa using hu) λ h' st' sb=>?_;have I1:Inv X pins σ H {s with heap:=h'}:=I.turned (t':=s.toks) (λ b o hb e=>(sb.2 b hb).trans e) f0 f1 f3 f4 f5;obtain⟨o,e,c,d⟩:=id st';exact⟨u,rfl,qi (s:={s with heap:=h'}) e c d (by decide) ⟨_,H,I1,ru,⟨rfl,List.getElem?_eq_getElem hi⟩,st',λ b hb=>(hf b hb).1⟩⟩
 done:=by intro X hP hw hK hc i pins s σ H E I hf st ⟨hg,hi⟩;subst hP hw hK;obtain⟨its,rv,p⟩:=lb I.hok hg;obtain⟨f0,f1,f2,f3,f4,f5⟩:=hf it (by simp);have hl:=rv.length;exact wpAny_pyNext_list_end (I.ok.hd hc) st p (by simp;omega) λ h' eb=>⟨rfl,I.turned (t':=s.toks) (λ b o hb e=>eb b o hb e) f0 f1 f3 f4 f5⟩
 self:=λ _ _ _ _ _ st h=>wpAny_pyIter_listiter st h
def agZ(td:TE):TI:=λ σ H R=>td σ H λ x H1=>∃ a o l,x=.ref a/\H1 a=some (tT o l)/\R (Itf a o l) H1
theorem aaQ{td:TE}(ho:PE X o td):PI X tg o (agZ td):=by
 intro pins s σ H R I h;refine thn (ho pins s σ H _ I h) λ v s1 hq106=>?_;obtain⟨x,H1,I1,r1,a,ob,l,ex,hg,q⟩:=hq106;subst ex;cases r1;obtain⟨its,rv,p⟩:=lb I1.hok hg;refine wpAny_pyIter_list p ?_;refine⟨s1.heap.objs.size,[s1.heap.objs.size],_,_,H1,rfl,I1.kept (t':=s1.toks) λ b o e=>Heap.get?_push_of_some _ e,uG a _ ob l,⟨_,Heap.get?_push_size _ rfl,rfl,rfl⟩,λ b hb=>?_,q⟩;have e:b=s1.heap.objs.size:=by simpa using hb
 subst e;exact I1.n4 (Nat.le_refl _) (I1.hok.fresh (Nat.le_refl _))
def mS(td:TD)(τ:DS)(M:MH)(R:List W->MH->Prop):Prop:=td τ M λ w M1=>∃ a ws,w=.m a/\M1 a=some (.flst ws)/\R ws M1
end D
namespace D
open L2
theorem jV{st:Stmt}{t:TSd}(h:Jd (PSd X st t)):Jd (PSd X st (jz t)):=⟨have h:=h.h;sX (yB h) λ D σ H hq105=>by
 obtain⟨τ,M,Dd,A,⟨a,ws,hm,q⟩,k1,k2,k3,k4⟩:=hq105;obtain⟨l,e,pr⟩:=A.mem _ _ hm;refine⟨a,l,e,λ o=>?_⟩;have kp:Kp H (upd H a (.frz o (.frz o (.lst l)))):=Kp.set e (λ _ z=>nomatch z) (λ _ _ z=>nomatch z);have m1:c5 X.K (upd H a (.frz o (.frz o (.lst l)))) (bH M a (.flst ws)):=A.mem.put (mo:=.flst ws) kp ⟨o,l,aq,bB.keep kp pr⟩;refine⟨τ,_,_,A.go kp m1,q,?_,?_,?_,?_⟩
 ·rintro σ' H' τ' M' kp' A' ⟨h1,q1⟩;have e':=kp'.frz a o _ aq;exact⟨e',k1 _ _ _ _ (jI e kp') (Abs.cf e' A' h1) q1⟩
 ·rintro v H' w M' kp' r' m' ⟨h1,q1⟩;have e':=kp'.frz a o _ aq;exact⟨e',k2 _ _ _ _ (jI e kp') (ay.cf e' r') (c5.cf e' m' h1) q1⟩
 ·rintro σ' H' τ' M' kp' A' ⟨h1,q1⟩;have e':=kp'.frz a o _ aq;exact⟨e',k3 _ _ _ _ (jI e kp') (Abs.cf e' A' h1) q1⟩
 ·rintro σ' H' τ' M' kp' A' ⟨h1,q1⟩;have e':=kp'.frz a o _ aq;exact⟨e',k4 _ _ _ _ (jI e kp') (Abs.cf e' A' h1) q1⟩⟩
theorem jU(ho:Jd (PD X o td)):Jd (PId X tg o (mS td)):=⟨have ho:=ho.h;abi (aaQ ho) λ σ H R hq107=>by obtain⟨τ,M,Rd,A,h,k⟩:=hq107;refine⟨τ,M,_,A,h,λ v H1 w M1 kp r m hq108=>?_⟩;obtain⟨a,ws,ew,hm,q⟩:=hq108;subst ew;obtain⟨ob,l,e,pr⟩:=m _ _ hm;refine⟨a,ob,l,r,e,k _ H1 _ M1 kp m (λ H2 kp2 i=>?_) q⟩;have hl:=pr.length;have e2:=kp2.frz a ob _ e;refine⟨λ hi=>⟨e2,by omega⟩,λ hi=>⟨e2,by omega⟩,λ x H' hi hq109=>?_⟩;obtain⟨eH,ex⟩:=hq109;subst eH;have hi2:i<ws.length:=hi;obtain⟨x',ex',rx⟩:=bB.get (bB.keep kp2 pr) (List.getElem?_eq_getElem hi2);rw[ex'] at ex;cases ex;exact⟨Kp.refl _,λ M m=>m,ws[i],List.getElem?_eq_getElem hi2,rx⟩⟩
theorem ahL(h:us.length=0):us=[]:=by exact List.eq_nil_of_length_eq_zero h
theorem acy(h:us.length=1):∃ a1:Value,us=[a1]:=by
 cases us with
 | nil=>simp at h
 | cons a r =>
  have e:r=[]:=ahL (by simpa using h);subst e;exact⟨a,rfl⟩
theorem agx(h:us.length=2):∃ a1 a2:Value,us=[a1,a2]:=by
 cases us with
 | nil=>simp at h
 | cons a r =>
  obtain⟨b1,e⟩:=acy (us:=r) (by simpa using h);subst e;exact⟨a,b1,rfl⟩
theorem ac7(h:us.length=3):∃ a1 a2 a3:Value,us=[a1,a2,a3]:=by
 cases us with
 | nil=>simp at h
 | cons a r =>
  obtain⟨b1,b2,e⟩:=agx (us:=r) (by simpa using h);subst e;exact⟨a,b1,b2,rfl⟩
theorem ahM(h:us.length=4):∃ a1 a2 a3 a4:Value,us=[a1,a2,a3,a4]:=by
 cases us with
 | nil=>simp at h
 | cons a r =>
  obtain⟨b1,b2,b3,e⟩:=ac7 (us:=r) (by simpa using h);subst e;exact⟨a,b1,b2,b3,rfl⟩
section
variable {X:Cx}{K:FG}
end
section
variable {X:Cx}{K:FG}
end
section
variable {X:Cx}{K:FG}
theorem yV:d6 X (.builtin "len") (λ xs H Q=>∃ a kvs,xs=[.ref a]/\H a=some (.dK kvs)/\Q (.int kvs.length) H):=by intro pins s σ H xs us Q I r h;obtain⟨a,kvs,rfl,ha,q⟩:=h;obtain⟨u,rfl,rx⟩:=vals1 r;cases rx;obtain⟨z,hd,vs,rel,dd⟩:=zY I.hok ha;refine call_len_dict hd dd (by rw[<- rel.length];rw[sizeLine_eq] at z;omega) ?_;rw[<- rel.length];exact⟨.int _,H,I.tok _,⟨_,rfl⟩,q⟩
def abU(ws:List W)(M:MH)(Q:QD):Prop:=∃ a kvs,ws=[.m a]/\M a=some (.dic kvs)/\Q (.d (.int (kvs.length:Nat))) M
theorem ac0:eU K (λ xs H Q=>∃ a kvs,xs=[.ref a]/\H a=some (.dK kvs)/\Q (.int kvs.length) H) abU:=by intro vs H ws M Qd Q r m ⟨a,kvs,e,hm,q⟩ k;subst e;obtain⟨v,e1,r1⟩:=d4 r;have e2:v=.ref a:=r1;subst e2;obtain⟨l,e,pr⟩:=m _ _ hm;refine⟨a,l,e1,e,?_⟩;rw[<- Paired.length pr];exact k _ _ (.d (.int _)) M (Kp.refl _) (by simp[ay,au]) m q
end
section
variable {K:FG}
variable {X:Cx}{sc:Scope}{own:List Str}{fr:List Nat}{di:TId}{g:TGd}{tt:TTd}{te:TD}{tg iter elt:Expr}{ifs:List Expr}{pos:Pos}
end
section
variable {X:Cx}{tg iter elt:Expr}{pos:Pos}{sc:Scope}{own:List Str}{fr:List Nat}{di:TId}{g:TGd}{tt:TTd}{te:TD}{ifs:List Expr}
end
end D
namespace XO
open PySem.W Builtin.ObjectAttr
section
variable {prog:Program}{w:World}{A:Around}{E:VP}{s:Shared}{K:Frag}{x C:Addr}{name:Str}{v:Value}
end
section
variable {prog:Program}{w:World}{A:Around}{E:VP}{s:Shared}{K:Frag}{x C:Addr}{name:Str}{v:Value}{ox:Obj}{od:Option Obj}
end
section
variable {prog:Program}{w:World}{A:Around}{E:VP}{K:Frag}{C f:Addr}{h:Heap}{g:Array GenState}{d:Drawn}{t:Nat}{os:OsState}
end
end XO
namespace L2
open XO
end L2
namespace D
open L2 XO
section
variable {P:Program}{w:World}{K:FG}{mg:Str->Option Value}{base:Heap}
end
end D
namespace XO
open PySem.W
section
variable {prog:Program}{w:World}{A:Around}{E:VP}{s:Shared}{K:Frag}{env:PySem.Env}
end
end XO
namespace L2
open XO
section
variable {P:Program}{w:World}{K:FG}{mg:Str->Option Value}{base:Heap}{C f:Addr}{fd:FuncData}{qual:Str}{st:Stmt}
end
end L2
namespace D
open L2 XO
end D
namespace L2
open XO
end L2
namespace D
open L2 XO
section
variable {X:Cx}{pos np hpos:Pos}{body suite:List Stmt}{b0:Stmt}{hs:List ExceptHandler}{h0:ExceptHandler}{tb:XE->TSd}{th rest:Addr->TSd}{ts:TSd}
end
section
variable {X:Cx}{pos p p' apos cpos np hpos:Pos}{k:Nat}{f C:Addr}{fd:FuncData}{ps fs:List Str}{sp:SpX}{x m n:Str}{e o:Expr}{es:List Expr}{t:TAd}{td:TD}{E:XE}
variable {body suite:List Stmt}{b0:Stmt}{hs:List ExceptHandler}{h0:ExceptHandler}{tb:XE->TSd}{th rest:Addr->TSd}{ts:TSd}
end
section
variable {X:Cx}{K:FG}
end
section
variable {X:Cx}{K:FG}
end
end D
namespace PySem.SeqAt
open MeetsSeq MeetsSeq2 MeetsSeq3 SeqRoads2
end PySem.SeqAt
namespace ZT
end ZT
namespace D
open L2
section
variable {X:Cx}{K:FG}{a b:Expr}{p pos:Pos}{t:TAd}
end
section
variable {X:Cx}{K:FG}
end
section
variable {X:Cx}{K:FG}
end
section
variable {X:Cx}{e st:Expr}{te:TE}{ts:TO}{pos p2:Pos}
end
section
variable {X:Cx}{K:FG}{e st:Expr}{te:TD}{ts:TOd}{pos p2:Pos}
end
section
variable {X:Cx}{e st:Expr}{a:Addr}{x:Str}{kvs:List (Str×PyData)}{pos p p2:Pos}{te:TD}{ts:TOd}
end
end D
namespace XO
open PySem.W
section
variable {prog:Program}{w:World}{A:Around}{E:VP}{K:Frag}{C:Addr}{h:Heap}{g:Array GenState}{d:Drawn}{t:Nat}{os:OsState}
end
end XO
namespace D
open L2 XO
section
variable {X:Cx}{pos p cpos np hpos:Pos}{k:Nat}{f C:Addr}{x:Str}{e:Expr}{es:List Expr}{t:TAd}{E:XE}
variable {body suite:List Stmt}{b0:Stmt}{hs:List ExceptHandler}{th rest:Addr->TSd}{ts:TSd}
end
section
variable {X:Cx}{K:FG}
variable {o e:Expr}{td te:TD}{apos cpos:Pos}
end
section
variable {X:Cx}{e st:Expr}{te:TE}{ts:TO}{pos p2:Pos}
end
section
variable {X:Cx}{e st:Expr}{te:TD}{ts:TOd}{pos p2:Pos}
end
section
variable {X:Cx}{K:FG}
end
section
variable {X:Cx}{pos p cpos apos np hpos p2:Pos}{k:Nat}{f C:Addr}{x y:Str}{e o st:Expr}{es:List Expr}{t:TAd}{E:XE}{body suite:List Stmt}{b0:Stmt}{hs:List ExceptHandler}{rest:Addr->TSd}{ts:TSd}{fd:FuncData}{ps:List Str}{sp:SpX}{td te:TD}{to:TOd}
end
end D
namespace ZS
end ZS
namespace D
open L2
section
variable {X:Cx}{K:FG}
end
end D
namespace RT
end RT
namespace D
open L2
section
variable {X:Cx}{K:FG}
variable {o e:Expr}{td:TD}{apos cpos:Pos}
variable {a:Expr}{ta:TA}{p p2 pos pos2:Pos}
end
end D
namespace L2
open PySem.W (envX kla_obj kla_fn)
def zg(X:Cx)(q:Str)(sc:Scope)(N':List Str)(cl:List (Str×Addr))(f c:Addr)(s:Shared)(H:Hp)(pins:PN):Cx:=
 {X with A:=X.A.deeper (envX q sc s.heap.objs.size f (.ref c) cl),N:=N',s₀:=s,H₀:=H,env:=envX q sc s.heap.objs.size f (.ref c) cl,outer:=X.stack,stack:=envX q sc s.heap.objs.size f (.ref c) cl::X.stack,ex:=[],fn:=λ _=>false,calm:=true,pn:=X.pn++pins,xe:=λ _ _=>False}
structure oq(X:Cx)(sc:Scope)(x:Str)(fr:List Nat):Prop where
 kind:sc.kind=.function
 co:sc.isCoroutine=false
 gen:sc.isGenerator=false
 cell:∀ y∈sc.names,y.2 ≠ .cell
 free:∀ y∈sc.names,y.2=.free->(X.env.kindOf y.1=some .cell\/X.env.kindOf y.1=some .free)
 own:sc.names.lookup x=some .local
 fr:acY X.N sc fr=true
def yj(X:Cx)(x:Str)(fr:List Nat):List Str:=x::fr.map λ j=>X.N.getD j Str.empty
def agl(v:V)(fr:List Nat)(σ:St):St:=some v::fr.map λ j=>(σ[j]?).getD none
section
variable {X:Cx}{pins:PN}{σ:St}{H:Hp}{s:Shared}{sc:Scope}{x q:Str}{fr:List Nat}{cl:List (Str×Addr)}{f c:Addr}
theorem aha(L:oq X sc x fr)(hc:X.calm=true)(I:Inv X pins σ H s)(c1:∀ n c,cl.lookup n=some c->X.env.cells.lookup n=some c)(c2:∀ n,(n,NameKind.free)∈sc.names->∃ c,cl.lookup n=some c):(zg X q sc (yj X x fr) cl f c s H pins).Ok where
 mod:=I.ok.mod
 kind:=L.kind
 glob:=rfl
 blt:=rfl
 above:=Nat.le_refl _
 inj:=λ x y c a b=>I.ok.inj x y c (c1 _ _ a) (c1 _ _ b)
 has:=λ y hy=>by
  have hy:sc.names.lookup y=some .cell\/sc.names.lookup y=some .free:=hy;rcases hy with hy | hy
  ·exact absurd rfl (L.cell _ (PySem.mem_of_lookup hy))
  ·exact c2 y (PySem.mem_of_lookup hy)
 cab:=λ x c z=>absurd (show false=true from z) Bool.false_ne_true
 hd:=λ _=>I.ok.hd hc
 frames:=Around.frames_deeper I.ok.frames
 stk:=.inr ⟨rfl,rfl⟩
 exf:=λ b z=>nomatch z
 bs:=I.bs
 bsz:=Nat.le_trans I.ok.bsz I.sz
 noex:=λ b o e z=>nomatch z
 exfs:=λ b z=>nomatch z
 qo:=I.stack
 frf:=I.nG
theorem acg(L:oq X sc x fr)(hc:X.calm=true)(I:Inv X pins σ H s)(c1:∀ n c,cl.lookup n=some c->X.env.cells.lookup n=some c)(c2:∀ n,(n,NameKind.free)∈sc.names->∃ c,cl.lookup n=some c)
  {h1:Heap}{tk:Nat}{v:V}{u:Value}(rv:RelV v u)(hn:h1.Ns s.heap.objs.size (λ y=>[(x,u)].reverse.lookup y))(k:∀ b o,s.heap.get? b=some o->h1.get? b=some o) :
  Inv (zg X q sc (yj X x fr) cl f c s H pins) [] (agl v fr σ) H {s with heap:=h1,toks:=tk}:=by
 have ok:=aha (q:=q) (f:=f) (c:=c) L hc I c1 c2;refine⟨ok,rfl,I.bare,Un.kept k,⟨_,hn,λ i y v' e1 e2 e3=>?_⟩,λ y c e=>?_,I.hok.fresh (Nat.le_refl _),λ y c e=>I.freeC y c (c1 _ _ e),λ p hp=>?_,I.hok.kept k,?_⟩
 ·cases i with
  | zero =>
   have e1':some x=some y:=e1;have e2':some (some v)=some (some v'):=e2;cases e1';cases e2';exact⟨u,rv,.inl ⟨L.own,by simp⟩⟩
  | succ i =>
   have e1':(fr.map λ j=>X.N.getD j Str.empty)[i]? =some y:=e1;have e2':(fr.map λ j=>(σ[j]?).getD none)[i]? =some (some v'):=e2;rw[List.getElem?_map] at e1' e2';cases hq:fr[i]? with
   | none=>rw[hq] at e1';cases e1'
   | some j =>
    rw[hq] at e1' e2';obtain⟨z,hz,hzf⟩:=mT L.fr (List.mem_of_getElem? hq);have ex:z=y:=by have:=Option.some.inj e1';rw[<- this];simp[List.getD,hz]
    subst ex;have ev:σ[j]? =some (some v'):=by
     have z':(σ[j]?).getD none=some v':=Option.some.inj e2';cases w:σ[j]? with
     | none=>rw[w] at z';cases z'
     | some o=>rw[w] at z';exact congrArg some z'
    have hm:(z,NameKind.free)∈sc.names:=PySem.mem_of_lookup hzf;have hk:=L.free _ hm rfl;have vis:Vis X.env.scope z:=by
     rcases hk with w | w
     ·exact .inr (.inl w)
     ·exact .inr (.inr w)
    obtain⟨m0,hn0,hl⟩:=I.loc;obtain⟨u',r,l⟩:=hl j z v' hz ev vis;refine⟨u',r,.inr ⟨.inr hzf,?_⟩⟩;obtain⟨c',hc'⟩:=c2 z hm;rcases l with ⟨w,_⟩ | ⟨_,c'',hc'',hcell⟩
    ·rcases hk with q' | q'
     ·exact absurd (show X.env.kindOf z=some .local from w) (by rw[q'];decide)
     ·exact absurd (show X.env.kindOf z=some .local from w) (by rw[q'];decide)
    ·have:c'=c'':=Option.some.inj ((c1 _ _ hc').symm.trans hc'');subst this;obtain⟨o,ho,hd⟩:=hcell;exact⟨c',hc',o,k _ _ ho,hd⟩
 ·obtain⟨w,o,ho,hd⟩:=I.cell y c (c1 _ _ e);exact⟨w,o,k _ _ ho,hd⟩
 ·have hp':p∈X.pn++pins:=by simpa [zg] using hp
  obtain⟨a1,a2,a3,a4,a5⟩:=I.pin p hp';refine⟨k _ _ a1,a2,Nat.ne_of_lt (Heap.lt_size a1),λ z=>?_,a5⟩;rcases List.mem_cons.mp (I.fF _ z) with e | e
  ·exact a3 e
  ·exact a4 e
 ·show(agl v fr σ).length=(yj X x fr).length;simp[agl,yj]
def aeF(H:Hp)(q x:Str)(params:Arguments)(body:Expr)(sc:Scope)(cl:List (Str×Addr))(pm:Value)(f:Addr):Prop:=
 ∃ c ctv oc vs t,H f=some (.frz (kla_obj "<lambda>" q params body sc cl pm c ctv) (.own 0))/\H c=some (.frz oc (.own 0))/\oc.data=.fields vs/\vs[1]? =some (.str q t)
theorem aea{k:Nat}{E:VP}{params:Arguments}{body:Expr}{pm:Value}{te:TE}{v:V}{u:Value}{Q:VK}(hr:eQ (k+1) X.A)(hc:X.calm=true)(L:oq X sc x fr)(c1:∀ n c,cl.lookup n=some c->X.env.cells.lookup n=some c)(c2:∀ n,(n,NameKind.free)∈sc.names->∃ c,cl.lookup n=some c)
  (hb:∀ cdv ctv u,bindArgs (kla_fn "<lambda>" q params body sc cl pm cdv ctv) ⟨[u],[]⟩=pure [(x,u)])
  (he:∀ c s H pl,eQ k (zg X q sc (yj X x fr) cl f c s H pl).A->PE (zg X q sc (yj X x fr) cl f c s H pl) body te)
  (I:Inv X pins σ H s)(hf:aeF H q x params body sc cl pm f)(rv:RelV v u)(h:te (agl v fr σ) H Q):wpAny (model X.prog X.w) X.A (call (.ref f) [u]) (EP X pins σ Q) E s:=by
 obtain⟨c,ctv,oc,vs,t,h1,h2,h3,h4⟩:=hf;obtain⟨g1,_⟩:=I.hok f _ h1;obtain⟨g2,_⟩:=I.hok c _ h2;refine wpAny_call (W.kla_callFunE hr.depth g1 rfl L.co L.gen rfl ⟨c,oc,vs,t,rfl,g2,h3,h4⟩ ?_);rw[hb];refine wpAny_pure (wpAny_newFunctionEnv L.cell (λ y hy=>by rw[List.mem_singleton.mp hy];exact L.own) (λ h₁ hns hsb=>⟨(I.nolimit).fresh _ hsb,?_⟩) L.kind);have hk₁:∀ b o,s.heap.get? b=some o->h₁.get? b=some o:=λ b o e=>hsb.extBut b o (Nat.ne_of_lt (Heap.lt_size e)) (Heap.get?_push_of_some _ e);have J:=acg (q:=q) (f:=f) (c:=c) (tk:=s.toks+1) L hc I c1 c2 rv hns hk₁;have hr':eQ k (zg X q sc (yj X x fr) cl f c s H pins).A:=hr.deeper _;refine W.kla_codeExpr (wpAny_mono (he c s H pins hr' [] _ _ _ _ J h) (λ u' s' hh=>?_) λ _ _ z=>z.elim);obtain⟨v',H',J',r',q'⟩:=hh;exact I.after ⟨v',H',J'.os,J'.bare,J'.base,J'.hok,r',q'⟩
end
section
variable {X:Cx}{pins:PN}{σ:St}{H:Hp}{s:Shared}
theorem Inv.ac8{P:Addr}{ps more:Array Value}{h':Heap}{t':Nat}(I:Inv X pins σ H s)(hP:H P=some (.tbl ps))(k:∀ b u,b≠P->s.heap.get? b=some u->h'.get? b=some u)(e:h'.get? P=some {cls:=.none,data:=.fields (ps++more)}) :
  Inv X pins σ (upd H P (.tbl (ps++more))) {s with heap:=h',toks:=t'}:=by
 have nn:∀ b,H b=none->b≠P:=λ b n=>Ne.symm (aH hP n);have nt:∀ b xs,H b=some (.tup xs)->b≠P:=λ b xs q=>uA q hP (λ z=>nomatch z);have nf:∀ b o u,H b=some (.frz o u)->b≠P:=λ b o u q=>uA q hP (λ z=>nomatch z);have no:∀ b y,H b=some (.own y)->b≠P:=λ b y q=>uA q hP (λ z=>nomatch z);refine I.un ⟨λ b o q n _ _=>k b o (nn b n) q,λ b o q n _ _=>⟨o.slots,k b o (nn b n) q⟩,λ b o _ n _=>by rw[aj (nn b n)];exact n,λ b o q _=>?_,λ b xs q=>by rw[aj (nt b xs q)];exact q,λ b o u q=>by rw[aj (nf b o u q)];exact q,λ b qs q=>?_⟩ λ b u q=>?_
 ·by_cases hb:b=P
  ·subst hb;exact⟨_,e⟩
  ·exact⟨o,k b o hb q⟩
 ·by_cases hb:b=P
  ·subst hb;rw[hP] at q;cases q;exact⟨more,aq⟩
  ·exact⟨#[],by rw[aj hb,q];simp⟩
 ·by_cases hb:b=P
  ·subst hb;rw[aq] at q;cases q;exact e
  ·rw[aj hb] at q;exact(I.hok b u q).ua (λ c v hc r=>k c v (by rcases hc with z | z;rw[z];exact hb;exact no c _ z) r) (λ c r=>by rw[aj (no c _ r)];exact r) λ c xs r=>by rw[aj (nt c xs r)];exact r
theorem Inv.hold{D:Addr}{ob:Obj}(I:Inv X pins σ H s)(e:s.heap.get? D=some ob)(hn:H D=none)
  (h0:X.s₀.heap.objs.size<=D)(hL:D≠X.env.locals)(hc:∀ x c,X.env.cells.lookup x=some c->c≠D)(hp:∀ p∈X.pn++pins,p.1≠D):Inv X pins σ (upd H D (.frz ob (.own 0))) s:=by
 have ne:∀ b u,H b=some u->b≠D:=λ b u q=>aH q hn;refine I.step (h':=s.heap) (g':=s.gens) (d':=s.drawn) (t':=s.toks) (ch:=[D]) (λ b hb=>?_) (λ b o _ _ _ q _=>q) (λ b o _ _ _ q _=>⟨o.slots,q⟩) (λ b o hb q n=>?_) (λ b o _ q=>⟨o,q⟩)
  (λ b xs q=>by rw[aj (ne b _ q)];exact q) (λ b o u q=>by rw[aj (ne b _ q)];exact q) (λ b ps q=>⟨#[],by rw[aj (ne b _ q),q];simp⟩) (λ m hm=>hm) (λ b u q=>?_) I.bare
 ·have e:b=D:=by simpa using hb
  subst e;exact⟨.inr h0,hL,hc,hp⟩
 ·rw[aj (λ z=>hb (by simp[z]))];exact n
 ·by_cases hb:b=D
  ·subst hb;rw[aq] at q;cases q;exact⟨e,ob,e⟩
  ·rw[aj hb] at q;exact(I.hok b u q).ua (λ _ _ _ q=>q) (λ c r=>by rw[aj (ne c _ r)];exact r) λ c xs r=>by rw[aj (ne c _ r)];exact r
def ahT(X:Cx)(sc:Scope)(cl:List (Str×Addr)):Prop:=(∀ n c,cl.lookup n=some c->X.env.cells.lookup n=some c)/\∀ n,(n,NameKind.free)∈sc.names->∃ c,cl.lookup n=some c
abbrev mU(ps:Array Value)(lpos:Pos)(c:Addr):Array Value:=ps ++ #[rawInt lpos.line,rawInt lpos.col,.ref c]
def aiQ(X:Cx)(P:Addr)(q:Str)(params:Arguments)(body:Expr)(sc:Scope)(lpos:Pos):TE:=λ σ H Q=>∃ ps,H P=some (.tbl ps)/\TriplesOk ps.toList /\
 ((codeAmong lpos ps.toList=none/\∀ c f oc vs t ctv cl,ahT X sc cl->H c=none->H f=none->c≠f->oc.data=.fields vs->vs[1]? =some (.str q t) ->
   Q (.ref f) (upd (upd (upd H c (.frz oc (.own 0))) P (.tbl (mU ps lpos c))) f (.frz (kla_obj "<lambda>" q params body sc cl ((X.mg "__name__").getD .none) c ctv) (.own 0)))) \/
∃ c o vs t,codeAmong lpos ps.toList=some (.ref c)/\H c=some (.frz o (.own 0))/\o.data=.fields vs/\vs[1]? =some (.str q t)/\∀ f ctv cl,ahT X sc cl->H f=none ->
   Q (.ref f) (upd H f (.frz (kla_obj "<lambda>" q params body sc cl ((X.mg "__name__").getD .none) c ctv) (.own 0))))
theorem afs{P cd:Addr}{params:Arguments}{body:Expr}{sc:Scope}{lpos:Pos}{x:Str}{fr:List Nat}(L:oq X sc x fr)(hcode:X.env.code=.ref cd)(hcd:W.codeHdIn X.K cd P=true)(hdef:defaultsOf params X.env=([],[]):=by rfl) :
  PE X (.Lambda params body sc lpos) (aiQ X P (X.env.qual ++ "<lambda>") params body sc lpos):=by
 intro pins s σ H Q I h;obtain⟨ps,hP,ht,h⟩:=h;obtain⟨cl,hcl,c1,c2⟩:=gc (scope:=sc) (env:=X.env) λ y hy hf=>I.ok.has y.1 (L.free y hy hf);refine W.kla_eval hdef ?_;have hg:=I.ok.mod.glob.keeps I.bk;obtain⟨⟨bm,ob,b1,b2,b3,b4,b5,b6⟩,_⟩:=I.ok.mod.bm;have b3':=I.bk _ _ b3;have hPo:s.heap.get? P=some {cls:=.none,data:=.fields ps}:=I.hok P _ hP;have hgP:mainGlobals≠P:=λ z=>by obtain⟨o,es,ep,e,hd,_⟩:=hg;rw[z,hPo] at e;cases e;cases hd
 have hbP:bm≠P:=λ z=>by rw[z,hPo] at b3';cases b3';cases b4
 have hbG:bm≠mainGlobals:=λ z=>by obtain⟨o,es,ep,e,hd,_⟩:=hg;rw[z,e] at b3';cases b3';rw[hd] at b6;cases b6
 have C:=W.codeHd_of_K I.kIn hcd;rcases h with ⟨hnf,h⟩ | ⟨c,o,vs,t,hf,hc,hd,hv,h⟩
 ·refine W.kla_makeFunction (mg:=X.mg) hcl I.ok.glob hg hcode C hPo ht hnf hgP ⟨bm,ob,b1,b2,hbG,hbP,b3',b4,b5,b6⟩ λ c' ctv h' tk hx hge hlt hrec htb=>?_;obtain⟨c₂,oc,vs,t,e2,hoc,hd,hv⟩:=hrec;cases e2;have hcn:H c'=none:=I.hok.fresh hge;have hfn:H h'.objs.size=none:=I.hok.fresh (Nat.le_trans hge (Nat.le_of_lt hlt));have cP:c'≠P:=Ne.symm (aH hP hcn);have I1:=I.ac8 (t':=tk) hP (λ b u hb e=>hx b u hb e) htb;have I2:=I1.hold hoc (by rw[aj cP];exact hcn) (Nat.le_trans I.sz hge) (λ z=>by obtain⟨m,hn,_⟩:=I.loc;exact absurd (Nat.lt_of_lt_of_le hn.lt hge) (by rw[z];exact Nat.lt_irrefl _))
   (λ y c hy z=>by obtain⟨w,o,ho,_⟩:=I.cell y c hy;exact absurd (Nat.lt_of_lt_of_le (Heap.lt_size ho) hge) (by rw[z];exact Nat.lt_irrefl _))
   (λ p hp z=>by obtain⟨ho,_⟩:=I.pin p hp;exact absurd (Nat.lt_of_lt_of_le (Heap.lt_size ho) hge) (by rw[z];exact Nat.lt_irrefl _))
  have hsw:upd (upd H P (.tbl (mU ps lpos c'))) c' (.frz oc (.own 0))=upd (upd H c' (.frz oc (.own 0))) P (.tbl (mU ps lpos c')):=by
   funext b;unfold upd
   by_cases e1:b=c'
   ·rw[if_pos e1,if_neg (by rw[e1];exact cP),if_pos e1]
   ·rw[if_neg e1,if_neg e1]
  rw[hsw] at I2;have I3:=I2.laid (t':=tk) (o:=.frz (kla_obj "<lambda>" (X.env.qual ++ "<lambda>") params body sc cl ((X.mg "__name__").getD .none) c' ctv) (.own 0)) (h':=h'.push (kla_obj "<lambda>" (X.env.qual ++ "<lambda>") params body sc cl ((X.mg "__name__").getD .none) c' ctv)) (λ b u e=>Heap.get?_push_of_some _ e) (Nat.le_refl _) ⟨Heap.get?_push_size _ rfl,_,Heap.get?_push_size _ rfl⟩;exact⟨.ref _,_,I3,rfl,h c' h'.objs.size oc vs t ctv cl ⟨c1,c2⟩ hcn hfn (Nat.ne_of_lt hlt) hd hv⟩
 ·refine W.kla_makeFunctionHit (mg:=X.mg) hcl I.ok.glob hg hcode C hPo ht hf ⟨bm,ob,b1,b2,hbG,hbP,b3',b4,b5,b6⟩ λ ctv h' tk hk hsz=>?_;have I3:=(I.kept (t':=tk) hk).laid (t':=tk) (o:=.frz (kla_obj "<lambda>" (X.env.qual ++ "<lambda>") params body sc cl ((X.mg "__name__").getD .none) c ctv) (.own 0)) (h':=h'.push (kla_obj "<lambda>" (X.env.qual ++ "<lambda>") params body sc cl ((X.mg "__name__").getD .none) c ctv)) (λ b u e=>Heap.get?_push_of_some _ e) (Nat.le_refl _) ⟨Heap.get?_push_size _ rfl,_,Heap.get?_push_size _ rfl⟩;exact⟨.ref _,_,I3,rfl,h _ ctv cl ⟨c1,c2⟩ (I.hok.fresh hsz)⟩
end
def u5(X:Cx):Cx:={X with A:=X.A.in1}
theorem Inv.in1(I:Inv X pins σ H s):Inv (u5 X) pins σ H s:=
 ⟨⟨I.ok.mod,I.ok.kind,I.ok.glob,I.ok.blt,I.ok.above,I.ok.inj,I.ok.has,I.ok.cab,I.ok.hd,I.ok.frames,I.ok.stk,I.ok.exf,I.ok.bs,I.ok.bsz,I.ok.noex,I.ok.exfs,I.ok.qo,I.ok.frf⟩,I.os,I.bare,I.base,I.loc,I.cell,I.free,I.freeC,I.pin,I.hok,I.len⟩
theorem Inv.aiY(I:Inv (u5 X) pins σ H s):Inv X pins σ H s:=
 ⟨⟨I.ok.mod,I.ok.kind,I.ok.glob,I.ok.blt,I.ok.above,I.ok.inj,I.ok.has,I.ok.cab,I.ok.hd,I.ok.frames,I.ok.stk,I.ok.exf,I.ok.bs,I.ok.bsz,I.ok.noex,I.ok.exfs,I.ok.qo,I.ok.frf⟩,I.os,I.bare,I.base,I.loc,I.cell,I.free,I.freeC,I.pin,I.hok,I.len⟩
theorem Inv.rM(I:Inv X pins σ H s)(f:jm X pins H it)(k:∀ b o,b≠it->s.heap.get? b=some o->h'.get? b=some o):Inv X pins σ H {s with heap:=h',toks:=t'}:=
 I.turned k f.1 f.2.1 f.2.2.2.1 f.2.2.2.2.1 f.2.2.2.2.2
theorem Inv.aiI(I:Inv X pins σ H s)(fa:jm X pins H a)(fb:jm X pins H b)(ea:s.heap.get? a=some oa)(eb:s.heap.get? b=some ob)(ca:∀ v,oa.data ≠ .cell v)(cb:∀ v,ob.data ≠ .cell v):Inv X ((a,oa)::(b,ob)::pins) σ H s:=
 I.dh λ p hp=>by
  rcases List.mem_cons.mp hp with e | hp
  ·subst e;exact⟨ea,fa.1,fa.2.1,fa.2.2.1,ca⟩
  rcases List.mem_cons.mp hp with e | hp
  ·subst e;exact⟨eb,fb.1,fb.2.1,fb.2.2.1,cb⟩
  ·exact I.pin p (List.mem_append_right _ hp)
theorem Inv.abH(I:Inv X ((a,oa)::(b,ob)::pins) σ H s):Inv X pins σ H s/\(s.heap.get? a=some oa/\H a=none)/\s.heap.get? b=some ob/\H b=none:=
 have pa:=I.pin (a,oa) (List.mem_append_right _ (.head _));have pb:=I.pin (b,ob) (List.mem_append_right _ (.tail _ (.head _)))
 ⟨I.dh λ p hp=>I.pin p (List.mem_append_right _ (.tail _ (.tail _ hp))),⟨pa.1,pa.2.1⟩,pb.1,pb.2.1⟩
theorem tm{l a:Addr}{items:Array Value}{i:Nat}{h:Heap}(hl:h.IsList l items)(hi:h.IsListIter a l i):l≠a:=by
 rintro rfl;obtain⟨o,e,c,_⟩:=hl;obtain⟨o',e',c',_⟩:=hi;rw[e] at e';cases e';rw[c] at c';exact absurd (Value.type.inj c') (by decide)
end L2
namespace D
open L2
open PySem.W (kla_obj kla_fn)
def adM(w:W)(fr:List Nat)(τ:DS):DS:=some w::fr.map λ j=>(τ[j]?).getD none
section
variable {X:Cx}{K:FG}
theorem acL{H:Hp}{σ:St}{τ:DS}{M:MH}{v:V}{w:W}(A:Abs K H σ τ M)(r:ay K H w v)(fr:List Nat):Abs K H (agl v fr σ) (adM w fr τ) M:=(tG A 1 fr).set 0 r
theorem qJ{M:MH}{a:Addr}{o:MO}(h:M a=some o):bH M a o=M:=by
 funext b
 by_cases e:b=a
 ·rw[e,ak,h]
 ·rw[aI e]
theorem um{H:Hp}{M:MH}{P c:Addr}{ps:Array Value}{q:Str}{lpos:Pos}{oc:Obj}{vs:Array Value}{t:Tok}(m:c5 K H M)(hP:M P=some (.code q lpos))(hT:H P=some (.tbl ps))(ht:TriplesOk ps.toList)(hn:codeAmong lpos ps.toList=none)(hc:H c=none)(hd:oc.data=.fields vs)(hv:vs[1]? =some (.str q t)) :
  Kp H (upd (upd H c (.frz oc (.own 0))) P (.tbl (mU ps lpos c)))/\c5 K (upd (upd H c (.frz oc (.own 0))) P (.tbl (mU ps lpos c))) M:=by
 have cP:c≠P:=Ne.symm (aH hT hc);have hT':upd H c (.frz oc (.own 0)) P=some (.tbl ps):=by rw[aj (Ne.symm cP)];exact hT
 have k2:Kp (upd H c (.frz oc (.own 0))) (upd (upd H c (.frz oc (.own 0))) P (.tbl (mU ps lpos c))):=Kp.set hT' (λ _ z=>nomatch z) (λ _ _ z=>nomatch z);refine⟨(Kp.new hc).trans k2,?_⟩;have e:(mU ps lpos c).toList=ps.toList++[rawInt lpos.line,rawInt lpos.col,.ref c]:=by simp[mU]
 have:=(m.new (o:=.frz oc (.own 0)) hc).put (mo:=.code q lpos) k2 ⟨_,aq,by rw[e];exact TriplesOk_snoc _ _ _ _ ht,.inr ⟨c,oc,vs,t,by rw[e];exact codeAmong_snoc _ ht hn,by rw[aj cP,aq],hd,hv⟩⟩;rw[qJ hP] at this;exact this
variable {P cd:Addr}{q x:Str}{lpos pos p kpos:Pos}{params:Arguments}{body o:Expr}{sc:Scope}{fr:List Nat}{to tb:TD}{k:Nat}
theorem aeF.keep{H H':Hp}{q x:Str}{params:Arguments}{body:Expr}{sc:Scope}{cl:List (Str×Addr)}{pm:Value}{f:Addr}(h:aeF H q x params body sc cl pm f)(kp:Kp H H'):aeF H' q x params body sc cl pm f:=by obtain⟨c,ctv,oc,vs,t,h1,h2,h3,h4⟩:=h;exact⟨c,ctv,oc,vs,t,kp.frz _ _ _ h1,kp.frz _ _ _ h2,h3,h4⟩
end
end D
namespace L2
def zP(ts:List Addr)(H:Hp):Prop:=∀ b,H b=none\/(∃ o xs,H b=some (.frz o (.lst xs)))\/(b∈ts/\H b=some (.tbl #[]))
theorem xy{P:Program}{w:World}{K:FG}{mg mb:Str->Option Value}{CX:CXT}{k:Nat}{fa a:Addr}{fd:FuncData}{x:Str}{sp:Sp}{s₁:Shared}{vs:List Value}{ns:List Int}
  (KX:K.In s₁.heap)(hns:s₁.heap.Ns mainGlobals mg)(hb:s₁.heap.Ns builtinsNs mb)(hbb:∀ x:Str,x ≠ "__name__" -> mb x=bootBuiltins x)(hlim:s₁.heap.NoLimit)(hbm:BM mg s₁.heap)(hg:s₁.gens = #[])
  (ha:s₁.heap.get? a=some {cls:=.type "list",data:=.seq vs.toArray})(hi:IntsAre vs ns)(hl:ns.length<=sizeLine)(hr:eQ k callerA)(ts:List Addr)(hts:∀ T∈ts,(∃ c,W.codeHdIn K c T=true)/\K.lookup T=none/\s₁.heap.get? T=some {cls:=.none,data:=.fields #[]})
  (F:∀ base:Heap,K.In base->base.Ns mainGlobals mg->eB P w K mg base CX k fa fd [x] sp)(hbind:∀ (s:Shared) (u:Value),BindsTo s fd ⟨[u],[]⟩ [(x,u)])
  (hsp:∀ H:Hp,zP ts H->(∀ T∈ts,H T=some (.tbl #[]))->SqL K H a (ns.map V.int)->sp [.ref a] H (λ v _=>v=.bl true) λ _ _ _=>False)
  (hCX:∀ H e s',CX [] H s₁ (λ _ _ _=>False) e s'->False) :
  codeAny (model P w) callerA (.call (.ref fa) ⟨[.ref a],[]⟩) (λ r s'=>r=.ok (.ret (.bool true))/\OldK s₁.heap s'.heap/\s'.os=s₁.os/\AllBare s'.gens) s₁:=by
 have rv:=gh hi;have lenV:=hi.length;have at':∀ T∈ts,T≠a:=λ T hT e=>by have h:=(hts T hT).2.2;rw[e,ha] at h;cases h
 have core:∀ H:Hp,zP ts H->(∀ T∈ts,H T=some (.tbl #[]))->SqL K H a (ns.map V.int)->HOk P w H s₁.heap->(∀ b,H b≠none->b=a\/b∈ts)->(H a≠none->K.lookup a=none) ->
   codeAny (model P w) callerA (.call (.ref fa) ⟨[.ref a],[]⟩) (λ r s'=>r=.ok (.ret (.bool true))/\OldK s₁.heap s'.heap/\s'.os=s₁.os/\AllBare s'.gens) s₁:=by
  intro H hO hTb hS hok hA hK;have iT:∀ {b:Addr} {o:Obj},s₁.heap.get? b=some o->H b=none->(zj s₁.heap H).get? b=some o:=λ e n=>zI e n;have noA:∀ {b:Addr} {o:Obj} {es:Array DictEntry} {ep:Nat},s₁.heap.get? b=some o->o.data=.dict es ep->H b=none:=λ {b o es ep} e d=>by
   cases q:H b with
   | none=>rfl
   | some u =>
    rcases hA b (by rw[q];simp) with e' | e'
    ·subst e';rw[ha] at e;cases e;have d':Data.seq vs.toArray _=Data.dict es ep:=d;cases d'
    ·rw[(hts b e').2.2] at e;cases e;have d':Data.fields _=Data.dict es ep:=d;cases d'
  have nsK:∀ {b:Addr} {m:Str->Option Value},s₁.heap.Ns b m->(zj s₁.heap H).Ns b m:=λ {b m} ⟨o,es,ep,e,d,r⟩=>⟨o,es,ep,iT e (noA e d),d,r⟩;have hKb:K.In (zj s₁.heap H):=λ b o e=>iT (KX b o e) (by
   cases q:H b with
   | none=>rfl
   | some u =>
    rcases hA b (by rw[q];simp) with e' | e'
    ·subst e';rw[hK (by rw[q];simp)] at e;cases e
    ·rw[(hts b e').2.1] at e;cases e)
  have hM:Mod K mg (zj s₁.heap H):=⟨hKb,nsK hns,⟨mb,nsK hb,hbb⟩,let ⟨mc,h1,h2⟩:=hlim; ⟨mc,nsK h1,h2⟩,let ⟨⟨b,o,h1,h2,h3,h4,h5,h6⟩,mm,hmm⟩:=hbm; ⟨⟨b,o,h1,h2,iT h3 (by cases q:H b with | none=>rfl | some u=>(rcases hA b (by rw[q];simp) with e' | e'; (subst e';rw[ha] at h3;cases h3;cases h6); (rw[(hts b e').2.2] at h3;cases h3;cases h6))),h4,h5,h6⟩,mm,nsK hmm⟩⟩;have e0:aht P w K mg (zj s₁.heap H) callerA [] s₁ H:=⟨rfl,hM,λ b o e=>ac6 e,Nat.le_of_eq (vT _ _),trivial,λ b hb=>absurd (show b∈([]:List Addr) from hb) (by simp),hok,.of_eq hg⟩;refine codeAny_mono ((F _ hKb (nsK hns)).run callerA [] s₁ H ⟨[.ref a],[]⟩ [.ref a] [.ref a] _ _ hr e0 (hbind s₁ (.ref a)) (.cons rfl .nil) (hsp H hO hTb hS)) λ r s' h=>?_;cases r with
  | error e=>exact(hCX H e s' h).elim
  | ok fl =>
   cases fl with
   | next=>exact False.elim h
   | brk=>exact False.elim h
   | cont=>exact False.elim h
   | ret u =>
    obtain⟨v,H',os,bare,un,hok',r',q⟩:=h;have q':v=.bl true:=q;subst q';obtain rfl:u=Value.bool true:=r';have old:∀ b o,s₁.heap.get? b=some o->s'.heap.get? b=some o\/∃ more,b∈ts/\s'.heap.get? b=some {cls:=.none,data:=.fields (#[]++more)}:=λ b o e=>?_;refine⟨rfl,⟨λ b o e=>?_,λ b o e=>(old b o e).elim (λ z=>⟨_,z⟩) λ⟨_,_,z⟩=>⟨_,z⟩⟩,os,bare⟩
    ·rcases old b o e with z | ⟨more,hb,z⟩
     ·exact .inl z
     ·obtain⟨⟨c,hc⟩,_,h3⟩:=hts b hb;rw[h3] at e;cases e;exact .inr (.inl ⟨((W.codeHd_of_K KX hc).tab h3).isCodeTable,rfl,#[],more,rfl,z⟩)
    cases q:H b with
    | none=>exact .inl <| un.keep b o e q (by intro z;exact absurd (show b∈([]:List Addr) from z) (by simp)) (by simp)
    | some u =>
     rcases hO b with z | ⟨ob,xs,z⟩ | ⟨hb,z⟩
     ·rw[q] at z;cases z
     ·refine .inl ?_;have z2:=un.frzs b ob _ z;obtain⟨e1,_⟩:=hok b _ z;obtain⟨e2,_⟩:=hok' b _ z2;rw[e] at e1;cases e1;exact e2
     ·obtain⟨more,z2⟩:=un.tbls b _ z;exact .inr ⟨more,hb,hok' b _ z2⟩
 cases hk:K.lookup a with
 | some o =>
  have e:=KX a o hk;rw[ha] at e;cases e;refine core (λ b=>if b∈ts then some (.tbl #[]) else none) (λ b=>?_) (λ T hT=>if_pos hT) (.inr ⟨_,vs.toArray,_,hk,rfl,rfl,rfl,by rw[List.size_toArray,lenV];exact hl,by simpa using rv⟩) (λ b u z=>?_) (λ b z=>?_) λ z=>absurd (if_neg λ h=>at' a h rfl) z
  ·by_cases hb:b∈ts
   ·exact .inr (.inr ⟨hb,if_pos hb⟩)
   ·exact .inl (if_neg hb)
  ·by_cases hb:b∈ts
   ·have z':=(if_pos hb).symm.trans z;cases z';exact(hts b hb).2.2
   ·have z':=(if_neg hb).symm.trans z;cases z'
  ·by_cases hb:b∈ts
   ·exact .inr hb
   ·exact absurd (if_neg hb) z
 | none =>
  refine core (λ b=>if b=a then some (.frz {cls:=.type "list",data:=.seq vs.toArray} (.lst (ns.map V.int))) else if b∈ts then some (.tbl #[]) else none) (λ b=>?_) (λ T hT=>(if_neg (at' T hT)).trans (if_pos hT)) (.inl (.inr ⟨{cls:=.type "list",data:=.seq vs.toArray},if_pos rfl⟩)) (λ b u z=>?_) (λ b z=>?_) λ _=>hk
  ·by_cases hb:b=a
   ·exact .inr (.inl ⟨_,_,if_pos hb⟩)
   ·by_cases hb2:b∈ts
    ·exact .inr (.inr ⟨hb2,(if_neg hb).trans (if_pos hb2)⟩)
    ·exact .inl ((if_neg hb).trans (if_neg hb2))
  ·by_cases hb:b=a
   ·have z':=(if_pos hb).symm.trans z;cases z';subst hb;exact⟨ha,by rw[List.length_map];exact hl,vs,_,rv,ha⟩
   ·have z0:=(if_neg hb).symm.trans z
    by_cases hb2:b∈ts
    ·have z':=(if_pos hb2).symm.trans z0;cases z';exact(hts b hb2).2.2
    ·have z':=(if_neg hb2).symm.trans z0;cases z'
  ·by_cases hb:b=a
   ·exact .inl hb
   ·by_cases hb2:b∈ts
    ·exact .inr hb2
    ·exact absurd ((if_neg hb).trans (if_neg hb2)) z
theorem aal{l:W.OpenLaw}{n k:Nat}{q:Program}{loose:List Str}{XP:(Str->Option Value)->Heap->Prop}{YP:World->Heap->Prop}{d:DefRec}{K:Params->FG}{CX:World->CXT}{sp:World->Sp}{x:Str}
  (hq:importsNone q=true)(hn:l.most=some n)(hn2:n<=sizeLine)(hdf:d.params.defaults=[])(hr:eQ k callerA)
  (ts:List Addr)(hT:∀ w:World,∀ T∈ts,(∃ c,W.codeHdIn (K w.params) c T=true)/\(K w.params).lookup T=none)(hY:∀ (w:World) (h:Heap),YP w h->(K w.params).In h/\∀ T∈ts,h.get? T=some {cls:=.none,data:=.fields #[]})
  (F:∀ (w:World) (mg:Str->Option Value) (fa:Addr) (h:Heap),(K w.params).In h->h.Ns mainGlobals mg->mg d.name=some (.ref fa) ->
   ∃ fd:FuncData,(∀ (s:Shared) (u:Value),BindsTo s fd ⟨[u],[]⟩ [(x,u)]) /\
    ∀ base:Heap,(K w.params).In base->base.Ns mainGlobals mg->eB l.prog w (K w.params) mg base (CX w) k fa fd [x] (sp w))
  (hsp:∀ (w:World) (H:Hp) (a:Addr) (ns:List Int),ns.length<=n->zP ts H->(∀ T∈ts,H T=some (.tbl #[]))->SqL (K w.params) H a (ns.map V.int)->sp w [.ref a] H (λ v _=>v=.bl true) λ _ _ _=>False)
  (hCX:∀ (w:World) (H:Hp) (s:Shared) (e:Value) (s':Shared),CX w [] H s (λ _ _ _=>False) e s'->False) :
  W.WalkO q loose XP YP l.row.toRowW d [] (λ f vs=>PySem.call f vs):=by
 refine Att.qB hn hdf λ w s₀ s₁ mg mb fa o pm cd doc a vs ns G Y ho hd hcd hmg hobj hints hlen hg=>?_;obtain⟨KX,hTb⟩:=hY w _ Y;obtain⟨fd,hb,hF⟩:=F w mg fa _ KX G.T.g hmg;exact xy KX G.T.g G.T.b G.T.builtins G.T.nolimit (let ⟨bm,ob,b1,b2,b3,b4,b5,b6⟩:=G.T.bmain;let ⟨mm,hmm,_⟩:=(G.T.seer hq).mods; ⟨⟨bm,ob,b1,b2,b3,b4,b5,b6⟩,mm,hmm⟩) hg hobj hints (Nat.le_trans hlen hn2) hr ts (λ T h=>⟨(hT w T h).1,(hT w T h).2,hTb T h⟩) hF hb (λ H hO hB hS=>hsp w H a ns hlen hO hB hS) λ H e s'=>hCX w H s₁ e s'
end L2
namespace D
open L2
section
variable {P:Program}{w:World}{K:FG}{mg:Str->Option Value}{base:Heap}
theorem adF{x qual:Str}{st:Stmt}{f cd:Addr}{N ps:List Str}{k:Nat}{sp:SpD}{t:TSd}(F:Fun K x qual st f fd)(hcd:fd.code=.ref cd)(S:aN N ps (ao st))(len:∀ ws M Q,sp ws M Q->ws.length=ps.length)
  (hbody:∀ (A:Around) (outer:List Env) (s:Shared) (H:Hp) (E:XK),eQ k (A.deeper (envOfC qual (ao st) s.heap.objs.size f (.ref cd)))->oN (zQ CX0 P w K mg base N qual (ao st) f (.ref cd) A outer s H E).nox (bu st) t)
  (read:∀ ws M Q,sp ws M Q->t {nx:=λ _ M'=>Q (.d .none) M',rt:=Q} (aY N ws) M):eB P w K mg base CX0 (k+1) f fd ps (eW K sp):=by
 obtain⟨oc,od,kV,doc,pm,an,cdv,ct,osl,e,lk,hcdv⟩:=F.ex;subst e;have e2:cdv=.ref cd:=hcd;subst e2;refine adL lk hcdv S (λ vs H Q E h=>?_) (λ A outer s H vs Q E hr h=>?_)
 ·obtain⟨ws,M,Qd,r,_,q,_⟩:=h;rw[<- r.length];exact len _ _ _ q
 ·obtain⟨ws,M,Qd,r,m,q,kk⟩:=h;refine⟨_,(hbody A outer s H E hr).nox,aY N ws,M,_,kR r m,read ws M Qd q,λ σ' H' τ' M' kp A' q'=>?_,λ v H' w' M' kp r' m' q'=>?_,λ σ' H' τ' M' kp A' q'=>q'.elim,λ σ' H' τ' M' kp A' q'=>q'.elim⟩
  ·exact kk _ H' _ M' kp (by simp[ay,au]) A'.mem q'
  ·exact kk v H' w' M' kp r' m' q'
end
def M1T(T:Addr)(q:Str)(lpos:Pos):MH:=λ b=>if b=T then some (.code q lpos) else none
theorem ub{K:FG}{H:Hp}{a T:Addr}{q:Str}{lpos:Pos}{ns:List Int}{sp:SpD}(hl:ns.length<=63)(hO:L2.zP [T] H)(hT:∀ x∈[T],H x=some (.tbl #[]))(hS:L2.SqL K H a (ns.map V.int))(h:∀ ns:List Int,ns.length<=63->sp [.d (.list (ns.map PyData.int))] (M1T T q lpos) (λ w _=>w=.d (.bool true))) :
  eW K sp [.ref a] H (λ v _=>v=.bl true) λ _ _ _=>False:=by
 refine⟨[.d (.list (ns.map PyData.int))],M1T T q lpos,_,.cons ?_ .nil,λ a o z=>?_,h ns hl,λ v H' w M' kp r m q=>?_⟩
 ·simp only[ay,au];refine⟨a,_,rfl,?_,aO.ints ns⟩;rcases hS with (h | h) | h
  ·rcases hO a with z | ⟨ob,xs,z⟩ | ⟨_,z⟩
   ·rw[h] at z;cases z
   ·rw[h] at z;cases z
   ·rw[h] at z;cases z
  ·exact .inl h
  ·exact .inr h
 ·unfold M1T at z
  split at z
  ·cases z
   rename_i e
   subst e;exact⟨#[],hT _ (by simp),trivial,.inl rfl⟩
  ·cases z
 ·subst q;simp only[ay,au] at r;exact r
def abw(sc scX:Scope)(x:Str)(N:List Str)(fr:List Nat):Bool:=
 (sc.kind==.function)&&!sc.isCoroutine&&!sc.isGenerator&&sc.names.all (λ y=>!(y.2==.cell))&&sc.names.all (λ y=>!(y.2==.free) || scX.names.lookup y.1==some .cell || scX.names.lookup y.1==some .free) &&
  (sc.names.lookup x==some .local)&&acY N sc fr
theorem ahv(h:abw sc X.env.scope x X.N fr=true):oq X sc x fr:=by
 simp only[abw,Bool.and_eq_true,Bool.not_eq_true'] at h;obtain⟨⟨⟨⟨⟨⟨h1,h2⟩,h3⟩,h4⟩,h5⟩,h6⟩,h7⟩:=h;refine⟨eq_of_beq h1,h2,h3,λ y hy e=>?_,λ y hy e=>?_,eq_of_beq h6,h7⟩
 ·have:=List.all_eq_true.mp h4 y hy;simp[e] at this
 ·have:=List.all_eq_true.mp h5 y hy;simp only[e,beq_self_eq_true,Bool.not_true,Bool.false_or,Bool.or_eq_true] at this;rcases this with z | z
  ·exact .inl (eq_of_beq z)
  ·exact .inr (eq_of_beq z)
section
variable {X:Cx}{K:FG}
theorem qt:∀ {us:List Value} {ns:List Int},IntsAre us ns->∀ (i:Nat) (v:Value),us[i]? =some v->∃ n t,ns[i]? =some n/\v=.int n t
 | _,_,.nil,i,v,e=>by simp at e
 | _,_,.cons n t h,0,v,e=>by simp at e;exact⟨n,t,rfl,e.symm⟩
 | _,_,.cons n t h,i+1,v,e=>by obtain⟨m,t',e1,e2⟩:=qt h i v (by simpa using e);exact⟨m,t',by simpa using e1,e2⟩
variable {o e:Expr}{to:TE}{td te:TD}{apos cpos p pos:Pos}
end
end D
set_option maxHeartbeats 0
namespace D
open L2
section
variable {X:Cx}{a b:Expr}{rest:List Expr}{pos:Pos}{ta tb:TE}
end
section
variable {X:Cx}{K:FG}{e:Expr}{te:TE}{p pos kpos kp:Pos}{j:Nat}
theorem tU:∀ {ns:List Int} {vs:List V},aO K H (ns.map PyData.int) vs->vs=ns.map V.int
 | [],_,h=>by simp only[List.map_nil,aO] at h;rw[h];rfl
 | n::ns,_,h=>by simp only[List.map_cons,aO] at h;obtain⟨v,vs,rfl,h1,h2⟩:=h;simp only[au] at h1;rw[h1,tU h2];rfl
end
section
variable {X:Cx}{a b o e:Expr}{rest:List Expr}{ta tb td te:TD}{apos cpos p pos kpos kp:Pos}{j:Nat}
end
section
variable {X:Cx}{K:FG}{pins:PN}{σ:St}{H:Hp}{s:Shared}
end
section
variable {K:FG}
end
abbrev PFn(K:FG)(x:Str)(st:Stmt):Prop:=∃ (f:Addr) (oc kV dc pm cd ct:Value) (od an:Option Addr) (sl:Array (Option Value)),W.nsIn K mainGlobals x=some (some (.ref f))/\K.lookup f=some ⟨oc,od,.func (W.fnOf x x (bM st) (bu st) (ao st) .none kV dc pm an cd ct),sl⟩/\W.codeIn K cd x=true/\W.keepIn K (.ref f)=true
abbrev PMf(K:FG)(C:Addr)(m x:Str)(st:Stmt):Prop:=∃ (f:Addr) (oc kV dc pm cd ct:Value) (od an:Option Addr) (sl:Array (Option Value)),W.findIn K (.ref C) m=some (some (.ref f))/\W.isFn K (.ref f)=true/\K.lookup f=some ⟨oc,od,.func (W.fnOf m x (bM st) (bu st) (ao st) .none kV dc pm an cd ct),sl⟩/\W.codeIn K cd x=true/\W.keepIn K (.ref f)=true
theorem afB{K:FG}{x:Str}{st:Stmt}{f:Addr}{oc kV dc pm cd ct:Value}{od an:Option Addr}{sl:Array (Option Value)}(a:W.nsIn K mainGlobals x=some (some (.ref f)))(l:K.lookup f=some ⟨oc,od,.func (W.fnOf x x (bM st) (bu st) (ao st) .none kV dc pm an cd ct),sl⟩)(c:W.codeIn K cd x=true)(k:W.keepIn K (.ref f)=true):PFn K x st:=⟨_,_,_,_,_,_,_,_,_,_,a,l,c,k⟩
theorem ag1{K:FG}{C:Addr}{m x:Str}{st:Stmt}{f:Addr}{oc kV dc pm cd ct:Value}{od an:Option Addr}{sl:Array (Option Value)}(a:W.findIn K (.ref C) m=some (some (.ref f)))(i:W.isFn K (.ref f)=true)(l:K.lookup f=some ⟨oc,od,.func (W.fnOf m x (bM st) (bu st) (ao st) .none kV dc pm an cd ct),sl⟩)(c:W.codeIn K cd x=true)(k:W.keepIn K (.ref f)=true):PMf K C m x st:=⟨_,_,_,_,_,_,_,_,_,_,a,i,l,c,k⟩
theorem PFn.fn{K:FG}{h:Heap}{mg:Str->Option Value}{x:Str}{st:Stmt}{ps:List Str}(p:PFn K x st)(X:K.In h)(G:h.Ns mainGlobals mg)
  (b:∀ (kV doc pm:Value) (an:Option Addr) (cdv ct:Value) (us:List Value),us.length=ps.length->bindArgs (W.fnOf x x (bM st) (bu st) (ao st) .none kV doc pm an cdv ct) ⟨us,[]⟩=pure (ps.zip us)):∃ f fd,Fn K mg x st ps f fd:=
 let ⟨f,_,_,_,_,_,_,_,_,_,a,l,c,k⟩:=p; ⟨f,_,adx X G a l c k b⟩
abbrev ZZ(P:Program)(w:World)(K:FG)(mg:Str->Option Value)(base:Heap)(F:Addr->FuncData->Prop)(n:Nat)(ps:List Str)(sp:SpD):Prop:=∃ f fd,F f fd/\eB P w K mg base CX0 n f fd ps (eW K sp)
end D
namespace L2
section
variable {P:Program}{w:World}{K:FG}{mg:Str->Option Value}{base:Heap}
end
end L2
namespace D
open L2
section
variable {P:Program}{w:World}{K:FG}{mg:Str->Option Value}{base:Heap}
end
open XO
section
variable {X:Cx}{K:FG}
end
end D
namespace PySem.AutoSeq1
open PySem.MeetsSeq PySem.MeetsSeq2 PySem.MeetsSeq3 PyProof.Rows
end PySem.AutoSeq1
namespace D
open L2
section
variable {P:Program}{w:World}{K:FG}{mg:Str->Option Value}{base:Heap}
end
end D
namespace PySem.AutoSeq1
open PySem.MeetsSeq PySem.MeetsSeq2 PySem.MeetsSeq3 PyProof.Rows
end PySem.AutoSeq1
namespace D
open L2
section
variable {X:Cx}{K:FG}
end
end D
namespace XO
open PySem.W
section
variable {prog:Program}{w:World}{A:Around}{E:VP}{s:Shared}{K:Frag}{env:PySem.Env}{e h0 C0:Addr}{dct0:Option Addr}{vs0:Array Value}
end
end XO
namespace L2
open XO
section
variable {P:Program}{w:World}{K:FG}{mg:Str->Option Value}{base:Heap}{C f:Addr}{fd:FuncData}{qual:Str}{st:Stmt}
end
end L2
namespace D
open L2 XO
section
variable {X:Cx}{pos p cpos:Pos}{k:Nat}{f C:Addr}{fd:FuncData}{ps fs:List Str}{x:Str}{e:Expr}{es:List Expr}{t:TAd}{E:XE}
variable {body suite:List Stmt}{b0:Stmt}{hs:List ExceptHandler}{th rest:Addr->TSd}{np hpos:Pos}
end
section
variable {X:Cx}{pos p cpos:Pos}{k:Nat}{f C:Addr}{fd:FuncData}{ps fs:List Str}{x:Str}{e:Expr}{es:List Expr}{t:TAd}{E:XE}
variable {suite:List Stmt}{b0:Stmt}{hs:List ExceptHandler}{rest:Addr->TSd}{np hpos:Pos}
end
section
variable {X:Cx}{K:FG}
variable {o e:Expr}{td te:TD}{apos cpos:Pos}
end
section
variable {X:Cx}{o i:Expr}{td ti:TD}{tpos pos:Pos}
end
end D
namespace L2
section
variable {X:Cx}{CX:CXT}{k:Nat}{f C:Addr}{fd:FuncData}{ps:List Str}{sp:Sp}{E:XK}{pins:PN}{σ:St}{H:Hp}{s:Shared}{Q:VK}{us:List Value}{vs:List V}{dvs:List V}{ds:List Value}
end
end L2
namespace D
open L2 XO
section
variable {X:Cx}{pins:PN}{σ:St}{H:Hp}{s:Shared}{a:Addr}{kvs:List (Str×Addr)}
end
section
variable {X:Cx}{e:Expr}{a:Addr}{x:Str}{kvs:List (Str×Addr)}{pos p apos cpos:Pos}{ty:TE}{te:TD}
end
section
variable {X:Cx}{pos p apos:Pos}{k:Nat}{f C:Addr}{fd:FuncData}{ps:List Str}{sp:SpX}{x m dz:Str}{e o:Expr}{es:List Expr}{t:TAd}{td:TD}{E:XE}
end
section
variable {X:Cx}{e o i:Expr}{a:Addr}{x m dz:Str}{kvs:List (Str×Addr)}{pos p apos cpos tpos:Pos}{te td ti:TD}{k:Nat}{f C:Addr}{fd:FuncData}{ps:List Str}{sp:SpX}{es:List Expr}{t:TAd}{E:XE}
end
end D
namespace L2
section
variable {X:Cx}{CX:CXT}{k:Nat}{f C:Addr}{fd:FuncData}{ps:List Str}{sp:Sp}{E:XK}{pins:PN}{σ:St}{H:Hp}{s:Shared}{Q:VK}{us:List Value}{vs:List V}{v:V}{u:Value}{kn:Str}
end
end L2
namespace D
open L2 XO
section
variable {X:Cx}{pos p apos kpos:Pos}{k:Nat}{f C:Addr}{fd:FuncData}{ps:List Str}{sp:SpX}{m kn:Str}{e o g:Expr}{es:List Expr}{t:TAd}{td tk:TD}{E:XE}
end
section
variable {X:Cx}{pos p apos kpos:Pos}{k:Nat}{f C:Addr}{fd:FuncData}{ps:List Str}{sp:SpX}{m kn:Str}{e o g:Expr}{es:List Expr}{t:TAd}{td tk:TD}{E:XE}
end
open S
section
variable {X:Cx}{pins:PN}{σ:St}{H H':Hp}{s:Shared}{h':Heap}
end
section
variable {X:Cx}{o:Expr}{to:TE}{apos cpos p pos:Pos}
end
section
variable {X:Cx}{o:Expr}{td:TD}{apos cpos p pos:Pos}
end
end D
namespace L2
theorem eQ.m{j k:Nat}{A:PySem.Around}(r:eQ k A)(h:j<=k:=by decide):eQ j A:=r.mono h
end L2
namespace D
open L2
abbrev dS(z:Str):TD:=dC (.d (.str z))
abbrev dI(n:Int):TD:=dC (.d (.int n))
section
variable {prog:Program}{w:World}{A:Around}{E:VP}{s:Shared}{x y:Str}{t u v:Tok}{k:Int}{Q:VP}
end
section
variable {X:Cx}{K:FG}
variable {o e e':Expr}{td te tn:TD}{apos cpos:Pos}
end
section
variable {X:Cx}{e f:Expr}{a:Addr}{x:Str}{kvs:List (Str×PyData)}{pos p apos cpos:Pos}{ty tx:TE}{te tf:TD}
end
end D
namespace XO
open PySem.W
section
variable {M:Model}{A:Around}{E:VP}{s:Shared}{base:Heap}{env:PySem.Env}{outer:List PySem.Env}{L e C T:Addr}{dct:Option Addr}{vs:Array Value}
end
end XO
namespace D
open L2 XO
section
variable {X:Cx}{pins:PN}{σ:St}{H:Hp}{s:Shared}{a T:Addr}
end
section
variable {P:Program}{w:World}{K:FG}{mg:Str->Option Value}{base:Heap}
end
end D
namespace L2
open XO D
section
variable {prog:Program}{w:World}{A:Around}{E:VP}{R:Result->Shared->Prop}{s:Shared}
end
section
variable {X:Cx}{pins:PN}{σ:St}{H:Hp}{s:Shared}
end
section
variable {X:Cx}{pins:PN}{σ:St}{H:Hp}{s:Shared}{sc:Scope}{own:List Str}{fr:List Nat}{cl:List (Str×Addr)}{fp:List Addr}{it:Addr}{J:It}{tn:Nat->Heap->Prop}{g:TG}{tt:TT}{te:TE}{W:LcW}{Fin:List V->Hp->Prop}
 {elt tg iter:Expr}{ifs:List Expr}{pos:Pos}{E:VP}
end
end L2
namespace D
open L2 XO
section
variable {K:FG}
end
section
variable {X:Cx}{sc:Scope}{own:List Str}{fr:List Nat}{tg elt iter:Expr}{ifs:List Expr}{pos:Pos}{di:TId}{g:TGd}{tt:TTd}{te:XE->TD}{E:XE}
end
section
variable {P:Program}{w:World}{K:FG}{mg:Str->Option Value}{base:Heap}
end
variable {X:Cx}{sc:Scope}{own:List Str}{fr:List Nat}{tg elt iter:Expr}{ifs:List Expr}{pos:Pos}{di:TId}{g:TGd}{tt:TTd}{te:XE->TD}{E:XE}
end D
namespace D
open L2 S PySem.W
section
variable {X:Cx}{pins:PN}{σ:St}{f a kS:Addr}{xs:List V}{us:List Value}{e1:Nat}
end
section
variable {X:Cx}{pins:PN}{σ:St}{f d:Addr}
end
open PySem.W (kla_obj kla_fn)
section
variable {X:Cx}{K:FG}
variable {P cd:Addr}{q x:Str}{lpos pos p kpos:Pos}{params:Arguments}{body o:Expr}{sc:Scope}{fr:List Nat}{to tb:TD}{k:Nat}
end
section
variable {X:Cx}{K:FG}
end
open XO
section
variable {X:Cx}{pins:PN}{σ:St}{H:Hp}{s:Shared}{CX:List Env->Hp->Shared->XK->VP}{k:Nat}{f:Addr}{fd:FuncData}{ps:List Str}
end
section
variable {X:Cx}{pos p:Pos}{k:Nat}{f:Addr}{fd:FuncData}{ps:List Str}{sp:SpX}{x:Str}{e:Expr}{es:List Expr}{t:TAd}{E:XE}{d:Int}
end
section
variable {X:Cx}{K:FG}
end
section
variable {X:Cx}{K:FG}
end
section
variable {X:Cx}{o e:Expr}{td te:TD}{apos cpos:Pos}
end
section
variable {X:Cx}{K:FG}
end
def dnT(ks:List Str):Nat->Nat
 | 0=>0
 | i+1=>if ks.getD i "" ∈ ks.take i then dnT ks i else dnT ks i+1
theorem sN(ks:List Str):∀ i,dnT ks i<=i
 | 0=>Nat.le_refl _
 | i+1=>by
  have:=sN ks i;unfold dnT
  split<;>omega
theorem aaR{ks:List Str}{i:Nat}(hi:i<ks.length)(k:Str):decide (k∈ks.take (i+1))=(decide (k∈ks.take i) || decide (k=ks.getD i "")):=by
 have e:ks.take (i+1)=ks.take i++[ks.getD i ""]:=by rw[List.take_add_one,List.getElem?_eq_getElem hi];simp[List.getD,List.getElem?_eq_getElem hi]
 rw[e];simp
section
variable {prog:Program}{w:World}{A:Around}{R:Result->Shared->Prop}{I:Addr}{fp wr:List Addr}{G:Array GenState->Array GenState->Prop}{ks:List Str}{P:Nat->Value->Prop}{St:Nat->Shared->Prop}
abbrev wI(prog:Program)(w:World)(h:Heap)(S:Addr)(ks:List Str)(i:Nat):Prop:=h.SetOf (strKind prog w) S (λ k=>decide (k∈ks.take i)) (dnT ks i)
theorem pY(Wk:WalksS prog w A.in1 I fp wr G ks.length P St)(S:Addr)(hS:S ∉ fp)(hP:∀ i v,P i v->∃ t,v=.str (ks.getD i "") t)(hb:ks.length+1<scanBound) :
  ∀ (n i:Nat) (s:Shared),i+n=ks.length->St i s->wI prog w s.heap S ks i->(∀ s',Moved (S::wr) G s s'->wI prog w s'.heap S ks ks.length->R (.ok (.ret .none)) s') ->
   codeAny (model prog w) A (.builtin "set.update.loop" ⟨[.ref S,.ref I],[]⟩) R s:=by
 have hw:S ∉ wr:=λ h=>hS (Wk.sub _ h);have up:∀ b∈wr,b∈S::wr:=λ b h=>List.mem_cons_of_mem _ h;have xG:∀ {s s':Shared} {i:Nat},Moved wr G s s'->wI prog w s.heap S ks i->wI prog w s'.heap S ks i:=λ hm h=>by obtain⟨o,es,ep,t,ho,rest⟩:=h;exact⟨o,es,ep,t,hm.heap S _ hw ho,rest⟩
 intro n
 induction n with
 | zero =>
  intro i s hi hst hs k;cases (show i=ks.length by omega);refine codeAny_builtin PyProof.Rows.F.entry_set_update_loop ?_;rw[Around.under_plainId PyProof.Rows.F.plain_set_update_loop _];show wpAny _ A.in1 (pyNext (.ref I) >>= _) _ _ s;exact wpAny_bind (Wk.done s _ _ hst λ s' hm=>wpAny_pure (k s' (hm.mono up) (xG hm hs)))
 | succ n ih =>
  intro i s hi hst hs k;have hlt:i<ks.length:=by omega
  refine codeAny_builtin PyProof.Rows.F.entry_set_update_loop ?_;rw[Around.under_plainId PyProof.Rows.F.plain_set_update_loop _];show wpAny _ A.in1 (pyNext (.ref I) >>= _) _ _ s;refine wpAny_bind (Wk.item i s _ _ hlt hst λ v s1 hv hst1 hm=>?_);obtain⟨t,rfl⟩:=hP i v hv;have hs1:=xG hm hs;show wpAny _ A.in1 (holding [Value.str (ks.getD i "") t] (setAdd S (.str (ks.getD i "") t)) >>= _) _ _ s1;refine wpAny_bind (wpAny_holding ?_);unfold setAdd;refine wpAny_holding (wpAny_bind ((strKind prog w).pyHash (k:=ks.getD i "") (strKind_is _ _ _ _) ?_));have hroom:dnT ks i+1<scanBound:=by have:=sN ks i;omega
  refine wpAny_setAddHashed_of (knd:=strKind prog w) (s:={s1 with toks:=s1.toks+1}) (strKind_is _ _ _ _) rfl hs1 hroom λ h' hsb hs2=>?_;have hs3:wI prog w h' S ks (i+1):=SetOf_congr hs2 (λ k=>(aaR hlt k).symm) (by
   rw[dnT]
   by_cases q:ks.getD i "" ∈ ks.take i
   ·rw[if_pos q,if_pos (decide_eq_true q)]
   ·rw[if_neg q,if_neg (by simpa using q)])
  refine wpAny_pure ⟨plainId_quiet PyProof.Rows.F.plain_set_update_loop _,ih (i+1) _ (by omega) (Wk.frame _ s1 _ _ hst1 (Nat.le_succ _) λ b hb o e=>?_) hs3 λ s2 hm2 hf=>?_⟩
  ·rw[hsb.2 b λ z=>hS (by rw[<- z];exact hb)];exact e
  ·refine k s2 (Moved.trans Wk.gtrans ((hm.mono up).then_heap (Nat.le_succ _) λ b o hb e=>?_) hm2) hf;rw[hsb.2 b λ z=>hb (by rw[z];exact List.mem_cons_self)];exact e
end
section
variable {prog:Program}{w:World}{A:Around}{E:VP}{s:Shared}
abbrev lH(led:Bool):Obj:={cls:=.type "set",dict:=none,data:=.set #[] 0 (.fresh 0 0 led)}
theorem yC{l:Addr}{items:Array Value}{ks:List Str}{led:Bool}(hh:A.handled=none)(hl:s.heap.IsList l items)(hn:items.size=ks.length)(hi:∀ (i:Nat) (v:Value),items[i]? =some v->∃ t,v=Value.str (ks.getD i "") t)(hb:ks.length+1<scanBound)
  {Q:VP}(h:∀ (h':Heap) (tk:Nat),wI prog w h' s.heap.objs.size ks ks.length->(∀ b o,b<s.heap.objs.size->s.heap.get? b=some o->h'.get? b=some o)->Q .none {s with heap:=h',toks:=tk}) :
  codeAny (model prog w) A (.call (.builtin "set.__init__") ⟨[.ref s.heap.objs.size,.ref l],[]⟩) (wants Q E) {s with heap:=s.heap.push (lH led)}:=by
 have hS:(s.heap.push (lH led)).get? s.heap.objs.size=some (lH led):=Heap.get?_push_size _ rfl;refine codeAny_call_builtin PySem.F.called_set.init.plain PySem.F.entry_set_init (check_set_init_1 ⟨_,hS,rfl⟩ ?_);obtain⟨⟨ocls,odict,odata,oslots⟩,hol,hcl,nl,hdl⟩:=hl;simp only at hcl hdl;subst hcl hdl;have hol':=Heap.get?_push_of_some (lH led) hol;have hsls:=PySem.F.sub_list_set;have hslf:=PySem.F.sub_list_frozenset;have hne:(Value.type "list" == Value.type "dict")=false:=by decide
 have hl1:(s.heap.push (lH led)).IsList l items:=⟨_,hol',rfl,nl,rfl⟩;have hlS:l<s.heap.objs.size:=Heap.lt_size hol;unfold Builtin.«set.__init__» noKeywords Builtin.Frozenset.updateFrom;generalize hPI:pyIter=PI
 wp_walk
 subst hPI;refine wpAny_pyIter_list hl1 (wpAny_bind (wpAny_runValue ?_));have hz:(s.heap.push (lH led)).objs.size=s.heap.objs.size+1:=Heap.size_push _ _;have h1:l≠(s.heap.push (lH led)).objs.size:=by rw[hz];exact Nat.ne_of_lt (Nat.lt_succ_of_lt hlS)
 have h2:s.heap.objs.size ∉ [(s.heap.push (lH led)).objs.size,l]:=by rw[hz];simp only[List.mem_cons,List.not_mem_nil,or_false,not_or];exact⟨Nat.ne_of_lt (Nat.lt_succ_self _),Nat.ne_of_gt hlS⟩
 have Wk:=(Walks.list (prog:=prog) (w:=w) (A:=A.in1.in1) (by simp[hh]) _ l h1 items).toS;rw[hn] at Wk;refine pY Wk s.heap.objs.size h2 hi hb ks.length 0 _ (by omega) ?_ ?_ ?_
 ·exact⟨⟨_,Heap.get?_push_size _ rfl,rfl,rfl⟩,hl1.push _⟩
 ·exact SetOf_congr ((setObjOf_fresh (knd:=strKind prog w) led).setOf (Heap.get?_push_of_some _ hS) (by unfold scanBound;omega)) (λ k=>by simp) rfl
 ·intro s' hm hs;obtain⟨h',g',d',tk',os'⟩:=s';have e1:g'=s.gens:=hm.gens;have e2:d'=s.drawn:=hm.drawn;have e3:os'=s.os:=hm.os;subst e1 e2 e3;refine wpAny_pure (wpAny_pure (h h' tk' hs λ b o hb e=>?_));refine hm.heap b o ?_ (Heap.get?_push_of_some _ (Heap.get?_push_of_some _ e));simp only[List.mem_cons,List.not_mem_nil,or_false,not_or];exact⟨Nat.ne_of_lt hb,by rw[hz];exact Nat.ne_of_lt (Nat.lt_succ_of_lt hb)⟩
theorem wq{l:Addr}{items:Array Value}{ks:List Str}(hh:A.handled=none)(hl:s.heap.IsList l items)(hn:items.size=ks.length)(hi:∀ (i:Nat) (v:Value),items[i]? =some v->∃ t,v=Value.str (ks.getD i "") t)(hb:ks.length+1<scanBound)
  {Q:VP}(h:∀ (h':Heap) (tk:Nat),wI prog w h' s.heap.objs.size ks ks.length->(∀ b o,b<s.heap.objs.size->s.heap.get? b=some o->h'.get? b=some o)->Q (.ref s.heap.objs.size) {s with heap:=h',toks:=tk}) :
  wpAny (model prog w) A (call (.type "set") [.ref l]) Q E s:=by
 obtain⟨c,tl,hmro⟩:=PySem.F.called_set.mro;have hmade:=PySem.F.called_set.made;have hsub:=PySem.F.called_set.sub;have h1:=PySem.F.called_set.notType;have h2:=PySem.F.called_set.canCreate;have hct:=PySem.F.typeCall_set_1 (.ref l);refine wpAny_call (codeAny_of_tree ?_);show wpAny _ _ (callAny (.type "set") _) _ _ _;refine wpAny_pure ⟨Code.quiet_builtin _ (by decide +kernel),codeAny_builtin PySem.F.entry_type_call ?_⟩;rw[Around.under_plain (weight_type_call_type "set" [.ref l] []) rfl]
 repeat (any_goals (first | assumption | wp_step))
 refine codeAny_mono (code_set_new_1 (.ref l) (E:=E) (Q₁:=λ x s1=>∃ led:Bool,x=.ref s.heap.objs.size/\s1={s with heap:=s.heap.push (lH led)}) λ led=>⟨led,rfl,rfl⟩) λ r s1 hr=>?_
 match r,hr with
 | .ok (.ret _),⟨led,e1,e2⟩ =>
  subst e1 e2;have hT:Shared.TypeIs {s with heap:=s.heap.push (lH led)} (.ref s.heap.objs.size) "set":= ⟨_,Heap.get?_push_size _ rfl,rfl⟩;have hli:=PySem.F.called_set.init.lookup;have hbi:=PySem.F.called_set.init.bind (.ref s.heap.objs.size)
  repeat (any_goals (first | assumption | wp_step))
  refine codeAny_mono (yC (E:=E) (Q:=λ x s2=>x=.none/\∃ h' tk,s2={s with heap:=h',toks:=tk}/\wI prog w h' s.heap.objs.size ks ks.length/\∀ b o,b<s.heap.objs.size->s.heap.get? b=some o->h'.get? b=some o) (by simp[hh]) hl hn hi hb λ h' tk a b=>⟨rfl,h',tk,rfl,a,b⟩) λ r2 s2 hr2=>?_
  match r2,hr2 with
  | .ok (.ret _),⟨e3,h',tk,e4,a,b⟩ =>
   subst e3 e4
   repeat (any_goals (first | assumption | wp_step))
   exact h h' tk a b
  | .error _,q=>exact q
 | .error _,q=>exact q
end
open L2
section
variable {X:Cx}{K:FG}{e:Expr}{to:TE}{td:TD}{p1 p2 pos1 pos2:Pos}
theorem jO:∀ {zs:List Str} {its:List Value},Vals (zs.map V.str) its->∀ (i:Nat) (v:Value),its[i]? =some v->∃ t,v=Value.str (zs.getD i "") t
 | [],_,.nil,i,v,h=>by simp at h
 | z::zs,_,.cons a r,0,v,h=>by obtain⟨t,e⟩:=a;simp only[List.getElem?_cons_zero,Option.some.injEq] at h;exact⟨t,by rw[<- h,e];rfl⟩
 | z::zs,_,.cons a r,i+1,v,h=>by simp only[List.getElem?_cons_succ] at h;obtain⟨t,e⟩:=jO r i v h;exact⟨t,by rw[e];rfl⟩
def yu(Q:V->Hp->Prop)(vs:List V)(H:Hp):Prop:=match vs with
 | [x]=>Q x H
 | _=>False
theorem se{Q:V->Hp->Prop}{vs:List V}{H:Hp}(h:yu Q vs H):∃ x,vs=[x]/\Q x H:=by
 match vs,h with
 | [x],h=>exact⟨x,rfl,h⟩
def ah4(K:FG)(Q:VK)(x:V)(H1:Hp):Prop:=∃ (a:Addr) (zs:List Str),x=.ref a/\SqL K H1 a (zs.map V.str)/\zs.length<=1000/\Q (.int (dnT zs zs.length:Nat)) H1
def ad8(K:FG)(to:TE):TE:=λ σ H Q=>to σ H (ah4 K Q)
theorem xV(hc:X.calm=true)(hg1:Gl X "len")(hm1:X.mg "len" = none)(hg2:Gl X "set")(hm2:X.mg "set" = none)(he:PE X e to)(hs:starEach [e] X.env=(false,eval e X.env)::starEach [] X.env:=by rfl)(hpl:(backTo pos2 (starEach [] X.env)).any (·.1)=false:=by rfl) :
  PE X (.Call (.Name "len" p1) [.Call (.Name "set" p2) [e] [] pos2] [] pos1) (ad8 X.K to):=by
 intro pins s σ H Q I h;refine wpAny_Call_Name_kw (eP I hg1 hm1 (u:=.builtin "len") rfl ?_);refine PyProof.Rows.callWith_builtin1 ?_;show wpAny _ _ (spliced ((false,eval (.Call (.Name "set" p2) [e] [] pos2) X.env)::backTo pos1 (starEach [] X.env))) _ _ s;refine Calls.spliced_cons ?_;refine wpAny_Call_Name_kw (eP I hg2 hm2 (u:=.type "set") rfl ?_);refine PyProof.Rows.callWith_type1 (thn (iS he lQ hs pos2 pins s σ H (yu (ah4 X.K Q)) I (show kI to yZ σ H (yu (ah4 X.K Q)) from h)) λ us s1 ⟨vs,H1,I1,r1,q1⟩=>?_) hs hpl;obtain⟨x,rfl,a,zs,rfl,hsq,hl,q⟩:=se q1;obtain⟨u,rfl,rx⟩:=vals1 r1;cases rx;obtain⟨its,rv,pl,_⟩:=I1.list hsq;have hn:its.toArray.size=zs.length:=by have:=rv.length;simp only[List.length_map] at this;simp only[List.size_toArray];omega
 refine wq (I1.ok.hd hc) pl.isList hn (λ i v hv=>jO rv i v (by simpa using hv)) (by unfold scanBound;omega) λ h' tk hS hk=>?_;have I2:Inv X pins σ H1 {s1 with heap:=h',toks:=tk}:=I1.kept λ b o e=>hk b o (Heap.lt_size e) e;refine Calls.spliced_nil ?_;obtain⟨o,es,ep,t,ho,hex,hd,_,_,_,hf,hz⟩:=hS;have hle:=sN zs zs.length;refine call_len_set ho hex hd hf (by rw[hz];omega) ⟨.int (dnT zs zs.length:Nat),H1,I2.tok _,⟨_,by rw[hz]⟩,q⟩
def qC(td:TD)(τ:DS)(M:MH)(Q:QD):Prop:=td τ M λ w M1=>∃ zs:List Str,ze M1 w (zs.map PyData.str)/\zs.length<=1000/\Q (.d (.int (dnT zs zs.length:Nat))) M1
theorem ke{H:Hp}:∀ {zs:List Str} {vs:List V},aO K H (zs.map PyData.str) vs->vs=zs.map V.str
 | [],_,h=>by simp only[List.map_nil,aO] at h;rw[h];rfl
 | z::zs,_,h=>by simp only[List.map_cons,aO] at h;obtain⟨v,vs,rfl,h1,h2⟩:=h;simp only[au] at h1;rw[h1,ke h2];rfl
end
theorem tW{X:Cx}{e:Expr}{td:TD}{p1 p2 pos1 pos2:Pos}(hc:X.calm=true)(hg1:Gl X "len")(hm1:X.mg "len" = none)(hg2:Gl X "set")(hm2:X.mg "set" = none)(he:Jd (PD X e td))(hs:gB e=false:=by rfl) :
  Jd (PD X (.Call (.Name "len" p1) [.Call (.Name "set" p2) [e] [] pos2] [] pos1) (qC td)):=⟨have he:=he.h;gp (xV hc hg1 hm1 hg2 hm2 he (cE e [] X.env hs)) λ σ H Q hq110=>by
 obtain⟨τ,M,Qd,A,h,k⟩:=hq110;refine⟨τ,M,_,A,h,λ x H1 w M1 kp1 r1 m1 hq111=>?_⟩;obtain⟨zs,g,hl,q⟩:=hq111;obtain⟨a,vs,e1,hsq,ra⟩:=g.sound r1 m1;rw[ke ra] at hsq;exact⟨a,zs,e1,hsq,hl,k _ H1 (.d (.int _)) M1 kp1 (by simp[ay,au]) m1 q⟩⟩
section
variable {prog:Program}{w:World}{A:Around}{E:VP}{s:Shared}{a₀:Array Keyed}
end
section
variable {X:Cx}{K:FG}
end
local macro_rules | `(tactic| walk_at "op_gallop")=>`(tactic| unfold $(Lean.mkIdent (Lean.mkPrivateNameCore `PySem.Builtin.List.W1All `PySem.Builtin.gallop)):ident)
section
variable {prog:Program}{w:World}{A:Around}{E:VP}{s:Shared}{st:SortSt}
end
section
variable {α:Type}{bf:α->α->Prop}{as bs out:List α}{ia ib:Nat}
end
end D
namespace Sw
open D
open L2 S PySem.W
local macro_rules | `(tactic| walk_at "op_setMinGallop")=>`(tactic| unfold $(Lean.mkIdent (Lean.mkPrivateNameCore `PySem.Builtin.List.W1All `PySem.Builtin.setMinGallop)):ident)
section
variable {it:Array Keyed}{l m:List Nat}{i k:Nat}
end
section
variable {prog:Program}{w:World}{A:Around}{E:VP}{s:Shared}{st:SortSt}{κ:SortKind}{it:Array Keyed}{lt:Nat->Nat->Bool}{N:Nat}
end
open L2 S PySem.W
local macro_rules | `(tactic| walk_at "op_mergeLo")=>`(tactic| unfold $(Lean.mkIdent (Lean.mkPrivateNameCore `PySem.Builtin.List.W1All `PySem.Builtin.mergeLo)):ident)
local macro_rules | `(tactic| walk_at "whr")=>`(tactic| ((repeat (extract_lets +onlyGivenNames -underBinder -merge a; (fail_if_success (have:_->_:=a));subst a)); (try dsimp (config:={zeta:=false,zetaHave:=false}) only); (repeat (extract_lets +onlyGivenNames -underBinder -merge a; (fail_if_success (have:_->_:=a));subst a))))
section
variable {it:Array Keyed}{lt:Nat->Nat->Bool}{N:Nat}{as bs:List Nat}{out:Array Keyed}{ia ib k:Nat}
end
section
variable {prog:Program}{w:World}{A:Around}{E:VP}{s:Shared}{st:SortSt}{κ:SortKind}{it:Array Keyed}{lt:Nat->Nat->Bool}{N:Nat}{as bs:List Nat}
end
open L2 S PySem.W
local macro_rules | `(tactic| walk_at "op_mergeHi")=>`(tactic| unfold $(Lean.mkIdent (Lean.mkPrivateNameCore `PySem.Builtin.List.W1All `PySem.Builtin.mergeHi)):ident)
local macro_rules | `(tactic| walk_at "whr")=>`(tactic| ((repeat (extract_lets +onlyGivenNames -underBinder -merge a; (fail_if_success (have:_->_:=a));subst a)); (try dsimp (config:={zeta:=false,zetaHave:=false}) only); (repeat (extract_lets +onlyGivenNames -underBinder -merge a; (fail_if_success (have:_->_:=a));subst a))))
section
variable {it:Array Keyed}{l:List Nat}{i k:Nat}
end
section
variable {it:Array Keyed}{lt:Nat->Nat->Bool}{N:Nat}{as bs:List Nat}{out:Array Keyed}{na nb k:Nat}
end
section
variable {prog:Program}{w:World}{A:Around}{E:VP}{s:Shared}{st:SortSt}{κ:SortKind}{it:Array Keyed}{lt:Nat->Nat->Bool}{N:Nat}{as bs:List Nat}
end
open L2 S PySem.W
section
variable {α:Type}{pre xs:Array α}{lo:Nat}
end
section
variable {prog:Program}{w:World}{A:Around}{E:VP}{s:Shared}{st:SortSt}{κ:SortKind}{f:Nat->Keyed}{lt:Nat->Nat->Bool}{N lo:Nat}{pre:Array Keyed}{p:Array Nat}
end
open L2 S PySem.W
local macro_rules | `(tactic| walk_at "whr")=>`(tactic| ((repeat (extract_lets +onlyGivenNames -underBinder -merge a; (fail_if_success (have:_->_:=a));subst a)); (try dsimp (config:={zeta:=false,zetaHave:=false}) only); (repeat (extract_lets +onlyGivenNames -underBinder -merge a; (fail_if_success (have:_->_:=a));subst a))))
section
variable {prog:Program}{w:World}{A:Around}{E:VP}{s:Shared}{st:SortSt}{κ:SortKind}{f:Nat->Keyed}{lt:Nat->Nat->Bool}{N lo:Nat}{pre:Array Keyed}{p:Array Nat}
end
open L2 S PySem.W
local macro_rules | `(tactic| walk_at "op_mergeAt")=>`(tactic| unfold $(Lean.mkIdent (Lean.mkPrivateNameCore `PySem.Builtin.List.W1All `PySem.Builtin.mergeAt)):ident)
local macro_rules | `(tactic| walk_at "whr")=>`(tactic| ((repeat (extract_lets +onlyGivenNames -underBinder -merge a; (fail_if_success (have:_->_:=a));subst a)); (try dsimp (config:={zeta:=false,zetaHave:=false}) only); (repeat (extract_lets +onlyGivenNames -underBinder -merge a; (fail_if_success (have:_->_:=a));subst a))))
section
variable {α:Type}
end
section
variable {prog:Program}{w:World}{A:Around}{E:VP}{s:Shared}{st:SortSt}{κ:SortKind}{it:Array Keyed}{lt:Nat->Nat->Bool}{N:Nat}{L as bs R:List Nat}
end
open L2 S PySem.W
section
variable {prog:Program}{w:World}{A:Around}{E:VP}{s:Shared}{st:SortSt}{κ:SortKind}{it:Array Keyed}{lt:Nat->Nat->Bool}{N:Nat}{rs:List (List Nat)}{T:List Nat}
end
open L2 S PySem.W
local macro_rules | `(tactic| walk_at "whr")=>`(tactic| ((repeat (extract_lets +onlyGivenNames -underBinder -merge a; (fail_if_success (have:_->_:=a));subst a)); (try dsimp (config:={zeta:=false,zetaHave:=false}) only); (repeat (extract_lets +onlyGivenNames -underBinder -merge a; (fail_if_success (have:_->_:=a));subst a))))
section
variable {prog:Program}{w:World}{A:Around}{E:VP}{s:Shared}{st:SortSt}{κ:SortKind}{it:Array Keyed}{lt:Nat->Nat->Bool}{N:Nat}{rs:List (List Nat)}{T:List Nat}
end
end Sw
namespace S
open PySem PySem.W PyProof.Rows
section
variable {prog:Program}{w:World}{A:Around}{E:VP}{s:Shared}
end
end S
namespace D
open L2 S
section
variable {X:Cx}{K:FG}
end
open PySem.W
section
variable {X:Cx}{pins:PN}{σ:St}{f a kS:Addr}{xs:List V}{us:List Value}{e1:Nat}
end
section
variable {X:Cx}{pins:PN}{σ:St}{f d:Addr}
end
open PySem.W (kla_obj kla_fn)
section
variable {X:Cx}{K:FG}
variable {P cd:Addr}{q x:Str}{lpos pos p kpos:Pos}{params:Arguments}{body o:Expr}{sc:Scope}{fr:List Nat}{to tb:TD}{k:Nat}
end
section
variable {X:Cx}{K:FG}
end
open Rc Stc
section
variable {R:Type}[DecidableEq R]
variable {M M':MH}{b:Addr}{C:R->Option (Addr×MO)}
end
def kf(N:List Str)(f:Str->W):List (Key×W):=N.map λ z=>(.inr z,f z)
def yX{α:Type}(f:Str->α)(z:Str)(v:α):Str->α:=λ y=>if y=z then v else f y
theorem oD(N:List Str)(f:Str->W):(kf N f).length=N.length:=by simp[kf]
theorem ka{f:Str->W}{z:Str}:∀ {N:List Str},z∈N->iQ (kf N f) (.inr z)=some (f z)
 | [],h=>nomatch h
 | y::N,h=>by
  show iQ ((.inr y,f y)::kf N f) (.inr z)=_;rw[iy]
  by_cases e:y=z
  ·subst e;rw[if_pos rfl]
  ·rw[if_neg λ k=>e (Sum.inr.inj k)];exact ka (by simpa [Ne.symm e] using h)
theorem acM{f:Str->W}{z:Str}:∀ {N:List Str},z ∉ N->iQ (kf N f) (.inr z)=none
 | [],_=>rfl
 | y::N,h=>by show iQ ((.inr y,f y)::kf N f) (.inr z)=_;rw[iy,if_neg λ k=>h (by simp[Sum.inr.inj k])];exact acM λ k=>h (by simp[k])
theorem xq{f:Str->W}{z:Str}{N:List Str}(h:z ∉ N):uZ (kf N f) (.inr z) (f z)=kf (N++[z]) f:=by
 unfold uZ;rw[mY,acM h];simp[kf]
theorem aaj{f g:Str->W}{N:List Str}(h:∀ z∈N,f z=g z):kf N f=kf N g:=List.map_congr_left λ z hz=>by rw[h z hz]
theorem yy(N:List Str)(f:Str->W):(kf N f).map (·.1)=N.map Sum.inr:=by simp[kf]
theorem hU{α:Type}{f:Str->α}{z:Str}{v:α}:yX f z v z=v:=if_pos rfl
theorem ft{α:Type}{f:Str->α}{z y:Str}{v:α}(h:y≠z):yX f z v y=f y:=if_neg h
section
variable {prog:Program}{w:World}{A:Around}{s:Shared}{vs:List Value}{zs:List Str}
end
section
variable {X:Cx}{K:FG}
end
end D
namespace HT
open PySem PyProof.Rows
open PySem.SeqAt
def yh(A:Around)(s:Shared)(x y:Value)(b:Bool):Prop:=∀ (prog:Program) (w:World) (E Q:VP),Q (.bool b) s->wpAny (model prog w) A (richCompare .Lt x y) Q E s
inductive LxA(A:Around) (s:Shared) (fin:Bool):List (Value×Value)->Bool->Prop
 | nil:LxA A s fin [] fin
 | eq {x y r b}:EqAt A s x y true->LxA A s fin r b->LxA A s fin ((x,y)::r) b
 | ne {x y r b}:EqAt A s x y false->yh A s x y b->LxA A s fin ((x,y)::r) b
section
open PySem.MeetsSeq PySem.MeetsSeq2 PySem.MeetsSeq3
theorem lt_meets(l b:Addr)(items items2:Array Value)(n n2:Nat)(dd dd2:Option Addr)(sl sl2:Array (Option Value))(e:Bool) :
  Meets (Builtin.«tuple.__lt__» ⟨[.ref l,.ref b],[]⟩)
   (λ A R s=>s.heap.get? l=some {cls:=.type "tuple",dict:=dd,data:=.seq items n,slots:=sl}/\s.heap.get? b=some {cls:=.type "tuple",dict:=dd2,data:=.seq items2 n2,slots:=sl2} /\
    LxA A.in1 s (decide (items.size<items2.size)) (items.toList.zip items2.toList) e/\R (.ok (.ret (.bool e))) s):=
 .of_wp λ prog w A R s h=>by
  obtain⟨hp,g,d,tk,os⟩:=s;obtain⟨hl,hb,hx,hR⟩:=h;have f2:=AutoSeq1.sub_tuple_tuple
  wp_walk using wpAny_loadPart' hl,wpAny_loadPart' hb,wpAny_forIn_list _ (λ rest b s'=>b.1=none/\s'=⟨hp,g,d,tk,os⟩/\LxA A.in1 ⟨hp,g,d,tk,os⟩ (decide (items.size<items2.size)) rest e) _
  case turn =>
   rintro⟨y,x⟩ rest b s' ⟨hb',rfl,hx⟩;cases hx with
   | eq h1 h2 =>
    refine wpAny_bind (h1 prog w _ _ ?_)
    wp_walk
    exact⟨rfl,rfl,h2⟩
   | ne h1 h2 =>
    refine wpAny_bind (h1 prog w _ _ ?_);have h3:=h2 prog w
    wp_walk using h3
    exact⟨_,rfl,hR⟩
  case fin =>
   rintro⟨b1,b2⟩ s' ⟨hb',rfl,hx⟩;simp only at hb';subst hb';cases hx
   wp_walk
   exact⟨_,rfl,by simpa [Builtin.Tuple.tupleCompareSizes] using hR⟩
  case h=>exact⟨rfl,rfl,hx⟩
end
theorem yh.tuples{A:Around}{s:Shared}{l b:Addr}{items items2:Array Value}{e:Bool}(hl:s.heap.IsTuple l items)(hb:s.heap.IsTuple b items2)(hu:A.units<cLine)
  (hx:LxA A.in1 s (decide (items.size<items2.size)) (items.toList.zip items2.toList) e):yh A s (.ref l) (.ref b) e:=λ prog w E Q h=>by
 obtain⟨⟨cls,dd,data,sl⟩,ho,hc,n,hd⟩:=id hl;obtain⟨⟨cls2,dd2,data2,sl2⟩,ho2,hc2,n2,hd2⟩:=id hb;simp only at hc hd hc2 hd2;subst hc hd hc2 hd2;exact richCompare_meets_room (op:=.Lt) ⟨_,ho,rfl⟩ ⟨_,ho2,rfl⟩ PySem.F.slot_tuple_lt PySem.F.entry_tuple_lt (PySem.F.args_tuple_lt_2 _ _) (lt_meets l b items items2 n n2 dd dd2 sl sl2 e)
  ⟨ho,ho2,hx,show Value.bool e≠Value.notImplemented/\Q (.bool e) s from⟨(λ x=>nomatch x),h⟩⟩ hu
inductive LtL:List PyData->List PyData->Bool->Prop
 | nn:LtL [] [] false
 | nc {y ys}:LtL [] (y::ys) true
 | cn {x xs}:LtL (x::xs) [] false
 | eq {x xs ys b}:LtL xs ys b->LtL (x::xs) (x::ys) b
 | int {a c:Int} {xs ys}:a≠c->LtL (.int a::xs) (.int c::ys) (decide (a<c))
 | str {a c:Str} {xs ys}:a≠c->LtL (.str a::xs) (.str c::ys) (decide (a.cps.toList<c.cps.toList))
 | tup {as cs xs ys b}:PyData.eqvAll as cs=false->LtL as cs b->LtL (.tuple as::xs) (.tuple cs::ys) b
theorem adt{xs ys:List PyData}{b:Bool}(h:LtL xs ys b):∀ {A:Around} {s:Shared} {us vs:List Value} {as bs:List Addr},ReadsAll s.heap us xs as->ReadsAll s.heap vs ys bs ->
  PyData.canLayAll0 xs=true->PyData.canLayAll0 ys=true->A.units+PyData.depthAll xs+2<cLine->LxA A s (decide (us.length<vs.length)) (us.zip vs) b:=by
 have shift:∀ {A:Around} {s:Shared} {l:List (Value×Value)} {b:Bool} {n m:Nat},LxA A s (decide (n<m)) l b->LxA A s (decide (n+1<m+1)) l b:=λ h=>by simpa using h
 induction h with
 | nn=>intro A s us vs as bs r1 r2 _ _ _;cases r1;cases r2;exact .nil
 | nc=>intro A s us vs as bs r1 r2 _ _ _;cases r1;cases r2;exact .nil
 | cn=>intro A s us vs as bs r1 r2 _ _ _;cases r1;cases r2;exact .nil
 | @eq x xs ys b h ih =>
  intro A s us vs as bs r1 r2 c1 c2 hu;cases r1 with
  | cons p1 q1 =>
   cases r2 with
   | cons p2 q2 =>
    simp only[PyData.canLayAll0,Bool.and_eq_true,PyData.depthAll] at c1 c2 hu;have e:=eqAt_reads x x A s _ _ _ _ p1 p2 c1.1 c2.1 (by omega);rw[eqv_refl x c1.1] at e;exact .eq e (shift (ih q1 q2 c1.2 c2.2 (by omega)))
 | @int a c xs ys hne =>
  intro A s us vs as bs r1 r2 c1 c2 hu;cases r1 with
  | cons p1 q1 =>
   cases r2 with
   | cons p2 q2 =>
    cases p1 with
    | int _ t1 =>
     cases p2 with
     | int _ t2 =>
      have e:=EqAt.int_int (A:=A) (s:=s) a t1 c t2;rw[show(a==c)=false by simpa using hne] at e;exact .ne e λ prog w E Q q=>lt_int q
 | @str a c xs ys hne =>
  intro A s us vs as bs r1 r2 c1 c2 hu;cases r1 with
  | cons p1 q1 =>
   cases r2 with
   | cons p2 q2 =>
    cases p1 with
    | str _ t1 =>
     cases p2 with
     | str _ t2 =>
      have e:=EqAt.str_str (A:=A) (s:=s) a t1 c t2;rw[show(a==c)=false by simpa using hne] at e;exact .ne e λ prog w E Q q=>lt_str q
 | @tup as' cs xs ys b hne h ih =>
  intro A s us vs as bs r1 r2 c1 c2 hu;cases r1 with
  | cons p1 q1 =>
   cases r2 with
   | cons p2 q2 =>
    simp only[PyData.canLayAll0,Bool.and_eq_true,PyData.depthAll,PyData.depth] at c1 c2 hu;have e:=eqAt_reads _ _ A s _ _ _ _ p1 p2 c1.1 c2.1 (by simp only[PyData.depth];omega);rw[show PyData.eqv (.tuple as') (.tuple cs)=false from hne] at e;cases p1 with
    | tuple k1 k2 k3 k4 =>
     cases p2 with
     | tuple m1 m2 m3 m4 =>
      refine .ne e (yh.tuples ⟨_,k1,k2,_,k3⟩ ⟨_,m1,m2,_,m3⟩ (by omega) ?_);have:=ih (A:=A.in1) k4 m4 (by simpa [PyData.canLay0] using c1.1) (by simpa [PyData.canLay0] using c2.1) (by show A.units+1+_+2<_;omega)
      simpa using this
theorem aac{A:Around}{s:Shared}{xs ys:List PyData}{b:Bool}{u v:Value}{as bs:List Addr}(h:LtL xs ys b)(ra:Reads s.heap u (.tuple xs) as)(rb:Reads s.heap v (.tuple ys) bs)(ha:shaped (.tuple xs)=true)(hb:shaped (.tuple ys)=true)
  (hu:A.units+80<cLine):yh A s u v b:=by
 have d:=depth_of_shaped ha;simp only[PyData.depth] at d;cases ra with
 | tuple k1 k2 k3 k4 =>
  cases rb with
  | tuple m1 m2 m3 m4 =>
   refine yh.tuples ⟨_,k1,k2,_,k3⟩ ⟨_,m1,m2,_,m3⟩ (by omega) ?_;have:=adt h (A:=A.in1) k4 m4 (by simpa [PyData.canLay0] using canLay_of_shaped ha) (by simpa [PyData.canLay0] using canLay_of_shaped hb) (by show A.units+1+_+2<_;omega)
   simpa using this
open PySem.SeqAt
section
variable {prog:Program}{w:World}{A:Around}{R:Result->Shared->Prop}{I:Addr}{fp wr:List Addr}{n:Nat}{P:Nat->Value->Prop}{St:Nat->Heap->Prop}{h0:Heap}
abbrev Olds(h0 h:Heap):Prop:=∀ b o,h0.get? b=some o->h.get? b=some o
theorem ajo(W:Walks prog w A.in1 I fp wr n P St)(bt:Nat->Nat->Bool)(hcmp:∀ i j vi vj (s:Shared),Olds h0 s.heap->P i vi->P j vj->yh A.in1 s vi vj (bt i j))(S:Addr)(hSf:S ∉ fp)(hw:∀ b∈wr,h0.get? b=none)(hS0:h0.get? S=none) :
  ∀ (k j:Nat) (s:Shared) (vb:Value) (c:Nat),n-(j+1)=k->j+1<=n->St (j+1) s.heap->P (argBest bt j) vb->Olds h0 s.heap ->
  s.heap.get? S=some {cls:=.type "list",dict:=none,data:=.seq #[vb,vb] c,slots:=#[]} ->
  (∀ v h' tk,P (argBest bt (n-1)) v->(∀ b o,b ∉ wr->b≠S->s.heap.get? b=some o->h'.get? b=some o)->R (.ok (.ret v)) {s with heap:=h',toks:=tk}) ->
  codeAny (model prog w) A (.builtin "min.loop" ⟨[.ref I,.none,.ref S],[]⟩) R s:=by
 have hSw:S ∉ wr:=λ h=>hSf (W.sub _ h);have nm:(toString "min" ++ toString ".loop" : String) = "min.loop":= by decide
 have old:∀ {h h':Heap},Olds h0 h->(∀ b o,b ∉ wr->h.get? b=some o->h'.get? b=some o)->Olds h0 h':=λ p q b o e=>q b o (λ m=>by rw[hw b m] at e;cases e) (p b o e);intro k
 induction k with
 | zero =>
  intro j s vb c hk hj hst hPb ho hS hR;have hin:j+1=n:=by omega
  refine codeAny_builtin PySem.F.entry_min_loop ?_;rw[Around.under_plainId PySem.F.plain_min_loop _];show wpAny _ A.in1 (seqItems? (.ref S) >>= _) _ _ s;refine wpAny_bind (wpAny_seqItems hS rfl ?_);show wpAny _ A.in1 (tryCatch (pyNext (.ref I)) _ >>= _) _ _ s;refine wpAny_bind (wpAny_tryCatch (W.done s _ _ (hin ▸ hst) λ h' tk hk'=>?_));have hS':=hk' S _ hSw hS;show wpAny _ A.in1 (updateSeq S (λ _=>#[]) >>= _) _ _ _;refine wpAny_bind (wpAny_updateSeq hS' rfl (wpAny_bind (wpAny_letGo (wpAny_pure ?_))));exact hR vb _ tk (by rw[<- hin];exact hPb) λ b o hbw hbS e=>(Heap.get?_update_other _ _ (Ne.symm hbS)).trans (hk' b o hbw e)
 | succ k ih =>
  intro j s vb c hk hj hst hPb ho hS hR;have hlt:j+1<n:=by omega
  refine codeAny_builtin PySem.F.entry_min_loop ?_;rw[Around.under_plainId PySem.F.plain_min_loop _];show wpAny _ A.in1 (seqItems? (.ref S) >>= _) _ _ s;refine wpAny_bind (wpAny_seqItems hS rfl ?_);show wpAny _ A.in1 (tryCatch (pyNext (.ref I)) _ >>= _) _ _ s;refine wpAny_bind (wpAny_tryCatch (W.item (j+1) s _ _ hlt hst λ v h' tk hP hst' hk'=>?_));have hS':=hk' S _ hSw hS;have ho':=old ho hk';show wpAny _ A.in1 (tryCatch (holding [v,v] (richCompare .Lt v vb >>= _)) _ >>= _) _ _ _;refine wpAny_bind (wpAny_tryCatch (wpAny_holding (wpAny_bind (hcmp (j+1) (argBest bt j) v vb {s with heap:=h',toks:=tk} ho' hP hPb _ _ _ _ ?_))));refine wpAny_bind (wpAny_holding (wpAny_truthy_bool (wpAny_bind (wpAny_letGo (wpAny_pure ?_)))));cases hb:bt (j+1) (argBest bt j) with
  | true =>
   simp only[if_true];refine wpAny_bind (wpAny_updateSeq hS' rfl (wpAny_bind (wpAny_letGo ?_)));rw[nm];refine wpAny_pure ⟨plainId_quiet PySem.F.plain_min_loop _,ih (j+1) _ v _ (by omega) hlt (W.frame _ _ _ hst' λ b hbf o e=>?_) (by simp only[argBest,hb,if_true];exact hP) (λ b o e=>?_) (Heap.get?_update_self _ hS' rfl) λ v' h2 tk2 hP' hk2=>?_⟩
   ·exact(Heap.get?_update_other _ _ (λ h:S=b=>hSf (by rw[h];exact hbf))).trans e
   ·exact(Heap.get?_update_other _ _ (λ h:S=b=>by rw[<- h,hS0] at e;cases e)).trans (ho' b o e)
   ·exact hR v' h2 tk2 hP' λ b o hbw hbS e=>hk2 b o hbw hbS ((Heap.get?_update_other _ _ (Ne.symm hbS)).trans (hk' b o hbw e))
  | false =>
   simp only[Bool.false_eq_true,if_false];refine wpAny_bind (wpAny_letGo ?_);rw[nm];refine wpAny_pure ⟨plainId_quiet PySem.F.plain_min_loop _,ih (j+1) _ vb c (by omega) hlt hst' (by simp only[argBest,hb,Bool.false_eq_true,if_false];exact hPb) ho' hS' λ v' h2 tk2 hP' hk2=>?_⟩;exact hR v' h2 tk2 hP' λ b o hbw hbS e=>hk2 b o hbw hbS (hk' b o hbw e)
theorem agB(W:Walks prog w A.in1 I fp wr n P St)(bt:Nat->Nat->Bool)(hcmp:∀ i j vi vj (s:Shared),Olds h0 s.heap->P i vi->P j vj->yh A.in1 s vi vj (bt i j))(S:Addr)(hSf:S ∉ fp)(hw:∀ b∈wr,h0.get? b=none)(hS0:h0.get? S=none)(hn:0<n){s:Shared}{c:Nat}
  (hst:St 0 s.heap)(ho:Olds h0 s.heap)(hS:s.heap.get? S=some {cls:=.type "list",dict:=none,data:=.seq #[] c,slots:=#[]})
  (hR:∀ v h' tk,P (argBest bt (n-1)) v->(∀ b o,b ∉ wr->b≠S->s.heap.get? b=some o->h'.get? b=some o)->R (.ok (.ret v)) {s with heap:=h',toks:=tk}) :
  codeAny (model prog w) A (.builtin "min.loop" ⟨[.ref I,.none,.ref S],[]⟩) R s:=by
 have hSw:S ∉ wr:=λ h=>hSf (W.sub _ h);have nm:(toString "min" ++ toString ".loop" : String) = "min.loop":= by decide
 refine codeAny_builtin PySem.F.entry_min_loop ?_;rw[Around.under_plainId PySem.F.plain_min_loop _];show wpAny _ A.in1 (seqItems? (.ref S) >>= _) _ _ s;refine wpAny_bind (wpAny_seqItems hS rfl ?_);show wpAny _ A.in1 (tryCatch (pyNext (.ref I)) _ >>= _) _ _ s;refine wpAny_bind (wpAny_tryCatch (W.item 0 s _ _ hn hst λ v h' tk hP hst' hk'=>?_));have hS':=hk' S _ hSw hS;show wpAny _ A.in1 (updateSeq S (λ _=>#[v,v]) >>= _) _ _ _;refine wpAny_bind (wpAny_updateSeq hS' rfl ?_);rw[nm];refine wpAny_pure ⟨plainId_quiet PySem.F.plain_min_loop _,ajo W bt hcmp S hSf hw hS0 _ 0 _ v _ rfl hn (W.frame _ _ _ hst' λ b hbf o e=>?_) hP (λ b o e=>?_) (Heap.get?_update_self _ hS' rfl) λ v' h2 tk2 hP' hk2=>?_⟩
 ·exact(Heap.get?_update_other _ _ (λ h:S=b=>hSf (by rw[h];exact hbf))).trans e
 ·exact(Heap.get?_update_other _ _ (λ h:S=b=>by rw[<- h,hS0] at e;cases e)).trans (hk' b o (λ m=>by rw[hw b m] at e;cases e) (ho b o e))
 ·exact hR v' h2 tk2 hP' λ b o hbw hbS e=>hk2 b o hbw hbS ((Heap.get?_update_other _ _ (Ne.symm hbS)).trans (hk' b o hbw e))
end
section
variable {prog:Program}{w:World}{A:Around}{E:VP}{s:Shared}{Q:VP}{bt:Nat->Nat->Bool}
theorem vL{l:Addr}{items:Array Value}(hh:A.handled=none)(hl:s.heap.IsList l items)(hn:0<items.size)(hcmp:∀ i j vi vj (s':Shared),Olds s.heap s'.heap->items[i]? =some vi->items[j]? =some vj->yh A.in1 s' vi vj (bt i j))
  (h:∀ v h' tk,items[argBest bt (items.size-1)]? =some v->Olds s.heap h'->Q v {s with heap:=h',toks:=tk}):wpAny (model prog w) A (call (.builtin "min") [.ref l]) Q E s:=by
 have nm:(toString "min" ++ toString ".loop" : String) = "min.loop":= by decide
 refine call_function_tree PySem.F.kind_min PySem.F.plain_min PySem.F.entry_min (PySem.F.args_min1 _) ?_;show wpAny _ A.in1 (Builtin.Builtins.bindParams "min" ["key", "default"] 0 ⟨[],[]⟩ >>= _) _ _ s;refine wpAny_bind (wpAny_of_eq (show Builtin.Builtins.bindParams "min" ["key", "default"] 0 ⟨[],[]⟩=pure [none,none] from rfl) (wpAny_bind (wpAny_pure ?_)));obtain⟨ol,hol,_⟩:=id hl;have hll:l<s.heap.objs.size:=Heap.lt_size hol;refine wpAny_bind (wpAny_pyIter_list hl (wpAny_bind (wpAny_newList ?_ (Nat.zero_le _))));rw[nm];have k1:Olds s.heap (s.heap.push {cls:=.type "list_iterator",data:=.fields #[.ref l,.int 0 0]}):=λ b o e=>Heap.get?_push_of_some _ e;have fresh:∀ {b},s.heap.objs.size<=b->s.heap.get? b=none:=λ {b} hb=>by
  cases e:s.heap.get? b with
  | none=>rfl
  | some o=>exact absurd (Heap.lt_size e) (Nat.not_lt.mpr hb)
 have hS:(s.heap.push {cls:=.type "list_iterator",data:=.fields #[.ref l,.int 0 0]}).objs.size=s.heap.objs.size+1:=size_push' ..;rw[hS];have hlI:l≠s.heap.objs.size:=Nat.ne_of_lt hll;refine wpAny_pure ⟨plainId_quiet PySem.F.plain_min_loop _,agB (h0:=s.heap) (Walks.list (prog:=prog) (w:=w) (A:=A.in1) hh s.heap.objs.size l hlI items) bt hcmp (s.heap.objs.size+1) (λ m=>?_) (by simpa using fresh (Nat.le_refl _)) (fresh (Nat.le_succ _)) hn (c:=0) (s:={s with heap:=(s.heap.push {cls:=.type "list_iterator",data:=.fields #[.ref l,.int 0 0]}).push (seqObj "list" #[] 0)}) ⟨?_,?_⟩ ?_ ?_ λ v h' tk hP hk=>?_⟩
 ·simp only[List.mem_cons,List.not_mem_nil,or_false] at m;rcases m with e | e
  ·exact Nat.succ_ne_self _ e
  ·exact absurd hll (by rw[<- e];exact Nat.not_lt.mpr (Nat.le_succ _))
 ·exact⟨_,Heap.get?_push_of_some _ (Heap.get?_push_size _ rfl),rfl,rfl⟩
 ·exact hl.at λ o e=>Heap.get?_push_of_some _ (k1 l o e)
 ·exact λ b o e=>Heap.get?_push_of_some _ (k1 b o e)
 ·rw[<- hS];exact Heap.get?_push_size _ rfl
 ·refine h v h' tk hP λ b o e=>hk b o ?_ ?_ (Heap.get?_push_of_some _ (k1 b o e))
  ·simpa using Nat.ne_of_lt (Heap.lt_size e)
  ·exact Nat.ne_of_lt (Nat.lt_succ_of_lt (Heap.lt_size e))
theorem uk{a b:Value}(hh:A.handled=none)(hcmp:∀ i j vi vj (s':Shared),Olds s.heap s'.heap->#[a,b][i]? =some vi->#[a,b][j]? =some vj->yh A.in1 s' vi vj (bt i j))
  (h:∀ v h' tk,#[a,b][argBest bt 1]? =some v->Olds s.heap h'->Q v {s with heap:=h',toks:=tk}):wpAny (model prog w) A (call (.builtin "min") [a,b]) Q E s:=by
 have nm:(toString "min" ++ toString ".loop" : String) = "min.loop":= by decide
 refine call_function_tree PySem.F.kind_min PySem.F.plain_min PySem.F.entry_min (PySem.F.args_min2 _ _) ?_;show wpAny _ A.in1 (Builtin.Builtins.bindParams "min" ["key", "default"] 0 ⟨[],[]⟩ >>= _) _ _ s;refine wpAny_bind (wpAny_of_eq (show Builtin.Builtins.bindParams "min" ["key", "default"] 0 ⟨[],[]⟩=pure [none,none] from rfl) ?_);show wpAny _ A.in1 (newTuple [a,b] >>= _) _ _ s;refine wpAny_bind (wpAny_newObj_type ?_);have fresh:∀ {b},s.heap.objs.size<=b->s.heap.get? b=none:=λ {b} hb=>by
  cases e:s.heap.get? b with
  | none=>rfl
  | some o=>exact absurd (Heap.lt_size e) (Nat.not_lt.mpr hb)
 generalize hp:s.heap.push {cls:=.type "tuple",data:=.seq #[a,b]}=h1;have k1:Olds s.heap h1:=λ b o e=>by rw[<- hp];exact Heap.get?_push_of_some _ e
 have ht:h1.IsTuple s.heap.objs.size #[a,b]:=⟨_,by rw[<- hp];exact Heap.get?_push_size _ rfl,rfl,0,rfl⟩;have hz:h1.objs.size=s.heap.objs.size+1:=by rw[<- hp];exact size_push' ..
 refine wpAny_bind (wpAny_pyIter_tuple (s:={s with heap:=h1}) ht (wpAny_bind (wpAny_newList ?_ (Nat.zero_le _))));rw[nm];have hS:(h1.push {cls:=.type "tuple_iterator",data:=.fields #[.ref s.heap.objs.size,.int 0 0]}).objs.size=s.heap.objs.size+1+1:=by rw[<- hz];exact size_push' ..
 have k2:Olds s.heap (h1.push {cls:=.type "tuple_iterator",data:=.fields #[.ref s.heap.objs.size,.int 0 0]}):=λ b o e=>Heap.get?_push_of_some _ (k1 b o e);have g1:(h1.push {cls:=.type "tuple_iterator",data:=.fields #[.ref s.heap.objs.size,.int 0 0]}).get? (s.heap.objs.size+1)=some {cls:=.type "tuple_iterator",data:=.fields #[.ref s.heap.objs.size,.int 0 0]}:=by rw[<- hz];exact Heap.get?_push_size _ rfl
 dsimp only;rw[hz,hS];refine wpAny_pure ⟨plainId_quiet PySem.F.plain_min_loop _,agB (h0:=s.heap) (Walks.tuple (prog:=prog) (w:=w) (A:=A.in1) hh (s.heap.objs.size+1) s.heap.objs.size (Nat.ne_of_lt (Nat.lt_succ_self _)) #[a,b]) bt hcmp (s.heap.objs.size+1+1) (λ m=>?_) (by simpa using fresh (Nat.le_succ _)) (fresh (Nat.le_add_right _ 2)) (Nat.succ_pos 1) (c:=0)
  (s:={s with heap:=(h1.push {cls:=.type "tuple_iterator",data:=.fields #[.ref s.heap.objs.size,.int 0 0]}).push (seqObj "list" #[] 0)}) ⟨?_,?_⟩ ?_ ?_ λ v h' tk hP hk=>?_⟩
 ·simp only[List.mem_cons,List.not_mem_nil,or_false] at m;rcases m with e | e
  ·exact Nat.succ_ne_self _ e
  ·exact absurd e (Nat.ne_of_gt (Nat.lt_add_of_pos_right (by decide:0<2)))
 ·exact⟨_,Heap.get?_push_of_some _ g1,rfl,rfl⟩
 ·exact ht.at λ o e=>Heap.get?_push_of_some _ (Heap.get?_push_of_some _ e)
 ·exact λ b o e=>Heap.get?_push_of_some _ (k2 b o e)
 ·rw[<- hS];exact Heap.get?_push_size _ rfl
 ·refine h v h' tk hP λ b o e=>hk b o ?_ ?_ (Heap.get?_push_of_some _ (k2 b o e))
  ·simpa using Nat.ne_of_lt (Nat.lt_succ_of_lt (Heap.lt_size e))
  ·exact Nat.ne_of_lt (Nat.lt_succ_of_lt (Nat.lt_succ_of_lt (Heap.lt_size e)))
end
end HT
namespace D
open L2 HT
structure sZ(lt:List PyData->List PyData->Bool)(rows:List (List PyData)):Prop where
 cmp:∀ a∈rows,∀ b∈rows,LtL a b (lt a b)
 asym:∀ a∈rows,∀ b∈rows,lt a b=true->lt b a=false
 tr:∀ a∈rows,∀ b∈rows,∀ c∈rows,lt b a=false->lt c b=false->lt c a=false
 ok:∀ a∈rows,sR (.tuple a)=true
section
variable {lt:List PyData->List PyData->Bool}{rows:List (List PyData)}
abbrev rw0(rows:List (List PyData))(i:Nat):List PyData:=rows.getD i []
theorem de{i:Nat}(h:i<rows.length):rw0 rows i∈rows:=by simp[rw0,List.getD_eq_getElem?_getD,h]
theorem wU(L:sZ lt rows):∀ k,k<rows.length->argBest (λ i j=>lt (rw0 rows i) (rw0 rows j)) k<=k/\∀ j,j<=k->lt (rw0 rows j) (rw0 rows (argBest (λ i j=>lt (rw0 rows i) (rw0 rows j)) k))=false
 | 0,h=>⟨Nat.le_refl _,λ j hj=>by
   have:j=0:=by omega
   subst this;cases e:lt (rw0 rows 0) (rw0 rows 0) with
   | false=>exact e
   | true=>have:=L.asym _ (de h) _ (de h) e;rw[e] at this;cases this⟩
 | k+1,h=>by
  obtain⟨h1,h2⟩:=wU L k (by omega);simp only[argBest];generalize hb:argBest (λ i j=>lt (rw0 rows i) (rw0 rows j)) k=b at h1 h2 ⊢
  by_cases e:lt (rw0 rows (k+1)) (rw0 rows b)=true
  ·simp only[if_pos e];refine⟨Nat.le_refl _,λ j hj=>?_⟩;have q:=L.asym _ (de h) _ (de (show b<rows.length by omega)) e
   by_cases z:j=k+1
   ·subst z;cases e2:lt (rw0 rows (k+1)) (rw0 rows (k+1)) with
    | false=>rfl
    | true=>have:=L.asym _ (de h) _ (de h) e2;rw[e2] at this;cases this
   ·exact L.tr _ (de h) _ (de (show b<rows.length by omega)) _ (de (show j<rows.length by omega)) q (h2 j (by omega))
  ·simp only[if_neg e];refine⟨by omega,λ j hj=>?_⟩
   by_cases z:j=k+1
   ·subst z;simpa using e
   ·exact h2 j (by omega)
end
section
variable {X:Cx}{K:FG}{pins:PN}{σ:St}{H:Hp}{s:Shared}
theorem vK{k:Nat}{A:Around}(hu:lu k A)(I:Inv X pins σ H s){a b:List PyData}{x y:V}{u v:Value}{e:Bool}(h:LtL a b e)(ra:au X.K H (.tuple a) x)(rb:au X.K H (.tuple b) y)(ru:RelV x u)(rv:RelV y v)(oa:sR (.tuple a)=true)(ob:sR (.tuple b)=true)
  {s':Shared}(ho:Olds s.heap s'.heap):yh A.in1 s' u v e:=by
 simp only[sR,Bool.and_eq_true,Bool.not_eq_true'] at oa ob;obtain⟨as,r1⟩:=eD I _ ra ru oa.2;obtain⟨bs,r2⟩:=eD I _ rb rv ob.2;exact aac h (Reads.keeps ho r1) (Reads.keeps ho r2) oa.1 ob.1 (by have:=hu.un;show A.units+1+80<_;omega)
theorem yF{k:Nat}(hr:eQ k X.A):d6 X (.builtin "min") (λ xs H Q=>∃ p vs rows lt,xs=[.ref p]/\SqL X.K H p vs/\aO X.K H (rows.map PyData.tuple) vs/\rows≠[]/\sZ lt rows /\
  ∀ i,i<rows.length->(∀ x∈rows,lt x (rw0 rows i)=false)->Q (vs.getD i .non) H):=by
 intro pins s σ H xs us Q I r h;obtain⟨p,vs,rows,lt,rfl,hq,ra,hne,L,q⟩:=h;obtain⟨u,rfl,rx⟩:=vals1 r;cases rx;obtain⟨its,rv,pl,hz⟩:=I.list hq;have hl:=rv.length;have hl2:=ra.length;rw[List.length_map] at hl2;have hpos:0<rows.length:=List.length_pos_iff.mpr hne;have get:∀ i,i<rows.length->∃ v u,vs[i]? =some v/\its[i]? =some u/\RelV v u/\au X.K H (.tuple (rw0 rows i)) v:=λ i hi=>by
  obtain⟨v,e1,e2⟩:=ra.get (i:=i) (d:=.tuple (rw0 rows i)) (by rw[List.getElem?_map,List.getElem?_eq_getElem hi];simp[rw0,List.getD_eq_getElem?_getD,List.getElem?_eq_getElem hi])
  obtain⟨u,e3,e4⟩:=rv.get e1;exact⟨v,u,e1,e3,e4,e2⟩
 refine vL (bt:=λ i j=>lt (rw0 rows i) (rw0 rows j)) hr.hd pl.isList (by simp;omega) (λ i j vi vj s' ho hi hj=>?_) λ v h' tk hv ho=>?_
 ·have li:i<rows.length:=by have:=(List.getElem?_eq_some_iff.mp (show its[i]? =some vi by simpa using hi)).1;omega
  have lj:j<rows.length:=by have:=(List.getElem?_eq_some_iff.mp (show its[j]? =some vj by simpa using hj)).1;omega
  obtain⟨x,u,a1,a2,a3,a4⟩:=get i li;obtain⟨y,w,b1,b2,b3,b4⟩:=get j lj;have e1:u=vi:=by
   have:its[i]? =some vi:=by simpa using hi
   rw[a2] at this;exact Option.some.inj this
  have e2:w=vj:=by
   have:its[j]? =some vj:=by simpa using hj
   rw[b2] at this;exact Option.some.inj this
  subst e1 e2;exact vK hr.h I (L.cmp _ (de li) _ (de lj)) a4 b4 a3 b3 (L.ok _ (de li)) (L.ok _ (de lj)) ho
 ·have hs:its.toArray.size-1=rows.length-1:=by simp;omega
  rw[hs] at hv;obtain⟨b1,b2⟩:=wU L (rows.length-1) (by omega);generalize argBest (λ i j=>lt (rw0 rows i) (rw0 rows j)) (rows.length-1)=b at hv b1 b2;obtain⟨x,u,a1,a2,a3,a4⟩:=get b (by omega);have e1:u=v:=by
   have:its[b]? =some v:=by simpa using hv
   rw[a2] at this;exact Option.some.inj this
  subst e1;have:=q b (by omega) λ x hx=>by
   obtain⟨j,hj,rfl⟩:=List.getElem_of_mem hx;have:=b2 j (by omega)
   simpa [rw0,List.getD_eq_getElem?_getD,List.getElem?_eq_getElem hj] using this
  rw[List.getD_eq_getElem?_getD,a1] at this;exact⟨x,H,I.kept ho,a3,this⟩
def abI(ws:List W)(M:MH)(Q:QD):Prop:=∃ w rows lt,ws=[w]/\ze M w (rows.map PyData.tuple)/\rows≠[]/\sZ lt rows/\∀ r,r∈rows->(∀ x∈rows,lt x r=false)->Q (.d (.tuple r)) M
theorem acT:eU K (λ xs H Q=>∃ p vs rows lt,xs=[.ref p]/\SqL K H p vs/\aO K H (rows.map PyData.tuple) vs/\rows≠[]/\sZ lt rows /\
  ∀ i,i<rows.length->(∀ x∈rows,lt x (rw0 rows i)=false)->Q (vs.getD i .non) H) abI:=by
 intro vs H ws M Qd Q r m ⟨w,rows,lt,e,g,hne,L,q⟩ k;subst e;obtain⟨v,e1,r1⟩:=d4 r;obtain⟨p,ys,ev,hq,ra⟩:=g.sound r1 m;subst ev;refine⟨p,ys,rows,lt,e1,hq,ra,hne,L,λ i hi hb=>?_⟩;obtain⟨v,e2,e3⟩:=ra.get (i:=i) (d:=.tuple (rw0 rows i)) (by rw[List.getElem?_map,List.getElem?_eq_getElem hi];simp[rw0,List.getD_eq_getElem?_getD,List.getElem?_eq_getElem hi])
 rw[List.getD_eq_getElem?_getD,e2];exact k _ H (.d (.tuple (rw0 rows i))) M (Kp.refl H) e3 m (q _ (de hi) hb)
theorem uW{k:Nat}(hr:eQ k X.A):d6 X (.builtin "min") (λ xs H Q=>∃ x y a b lt,xs=[x,y]/\au X.K H (.tuple a) x/\au X.K H (.tuple b) y/\sZ lt [a,b]/\Q (if lt b a then y else x) H):=by
 intro pins s σ H xs us Q I r h;obtain⟨x,y,a,b,lt,rfl,ra,rb,L,q⟩:=h;obtain⟨u,v,rfl,ru,rv⟩:=vals2 r;have nn:∀ i w,#[u,v][i]? =some w->∃ c z,(i=0\/i=1)/\rw0 [a,b] i=c/\c∈[a,b]/\au X.K H (.tuple c) z/\RelV z w:=λ i w e=>by
  match i,e with
  | 0,e=>cases (show some u=some w from e);exact⟨a,x,.inl rfl,rfl,by simp,ra,ru⟩
  | 1,e=>cases (show some v=some w from e);exact⟨b,y,.inr rfl,rfl,by simp,rb,rv⟩
  | i+2,e=>simp at e
 refine uk (bt:=λ i j=>lt (rw0 [a,b] i) (rw0 [a,b] j)) hr.hd (λ i j vi vj s' ho hi hj=>?_) λ w h' tk hw ho=>?_
 ·obtain⟨c,z,_,e1,m1,r1,v1⟩:=nn i vi hi;obtain⟨d,z',_,e2,m2,r2,v2⟩:=nn j vj hj;rw[e1,e2];exact vK hr.h I (L.cmp _ m1 _ m2) r1 r2 v1 v2 (L.ok _ m1) (L.ok _ m2) ho
 ·have e:argBest (λ i j=>lt (rw0 [a,b] i) (rw0 [a,b] j)) 1=if lt b a then 1 else 0:=rfl;rw[e] at hw;cases eb:lt b a with
  | true =>
   rw[eb] at hw q;cases (show some v=some w from hw);exact⟨y,H,I.kept ho,rv,q⟩
  | false =>
   rw[eb] at hw q;cases (show some u=some w from hw);exact⟨x,H,I.kept ho,ru,q⟩
def vc(ws:List W)(M:MH)(Q:QD):Prop:=∃ a b lt,ws=[.d (.tuple a),.d (.tuple b)]/\sZ lt [a,b]/\Q (.d (.tuple (if lt b a then b else a))) M
theorem zC:eU K (λ xs H Q=>∃ x y a b lt,xs=[x,y]/\au K H (.tuple a) x/\au K H (.tuple b) y/\sZ lt [a,b]/\Q (if lt b a then y else x) H) vc:=by
 intro vs H ws M Qd Q r m ⟨a,b,lt,e,L,q⟩ k;subst e;obtain⟨x,y,e1,r1,r2⟩:=xQ r;refine⟨x,y,a,b,lt,e1,r1,r2,L,?_⟩;cases eb:lt b a with
 | true=>rw[eb] at q;exact k _ H (.d (.tuple b)) M (Kp.refl H) r2 m q
 | false=>rw[eb] at q;exact k _ H (.d (.tuple a)) M (Kp.refl H) r1 m q
end
open PySem.W (kla_fn)
section
variable {X:Cx}{pins:PN}{σ:St}{H:Hp}{s:Shared}{l f it S:Addr}{xs:List V}{R:Result->Shared->Prop}{k:Nat}
theorem qE(lt:List PyData->List PyData->Bool)(kd:Nat->List PyData)(W:Nat->Hp->Prop)(hh:X.A.handled=none)(hu:lu k X.A)(L:sZ lt ((List.range xs.length).map kd))(hl:∀ i H,W i H->SqL X.K H l xs)(hSI:S≠it)
  (fI:∀ H:Hp,H it=none->jm X pins H it)(fS:∀ H:Hp,H S=none->jm X pins H S)
  (turn:∀ (i:Nat) (v:V) (u:Value) (pl:PN) (H:Hp) (s:Shared),xs[i]? =some v->RelV v u->W i H->Inv (u5 X) pl σ H s->wpAny (model X.prog X.w) X.A.in1 (call (.ref f) [u]) (EP (u5 X) pl σ λ y H'=>au X.K H' (.tuple (kd i)) y/\Kp H H'/\W (i+1) H') (λ _ _=>False) s)
  (fin:∀ (i:Nat) (v:V) (u:Value) (H:Hp) (s:Shared),xs[i]? =some v->RelV v u->(∀ j,j<xs.length->lt (kd j) (kd i)=false)->W xs.length H->Inv X pins σ H s->R (.ok (.ret u)) s) :
  ∀ (r j i:Nat) (H:Hp) (s:Shared) (v ky:V) (u ku:Value) (c:Nat),xs.length-(j+1)=r->j+1<=xs.length->Inv X pins σ H s->W (j+1) H->H it=none->H S=none ->
   s.heap.get? S=some (seqObj "list" #[u,ku] c)->s.heap.IsListIter it l (j+1)->xs[i]? =some v->RelV v u->au X.K H (.tuple (kd i)) ky->RelV ky ku->i<=j->(∀ m,m<=j->lt (kd m) (kd i)=false) ->
   codeAny (model X.prog X.w) X.A (.builtin "min.loop" ⟨[.ref it,.ref f,.ref S],[(Str.ofString "default",.none)]⟩) R s:=by
 have nm:(toString "min" ++ toString ".loop" : String) = "min.loop":= by decide
 have mem:∀ i,i<xs.length->kd i∈(List.range xs.length).map kd:=λ i h=>List.mem_map.mpr ⟨i,List.mem_range.mpr h,rfl⟩;intro r
 induction r with
 | zero =>
  intro j i H s v ky u ku c hr hj J hW nI nS gS gI hv ru rk rku hij best;have hin:j+1=xs.length:=by omega
  obtain⟨its,rl,pl,hz⟩:=J.list (hl _ _ hW);have sz:its.toArray.size=xs.length:=by rw[List.size_toArray,rl.length]
  have Wk:=Walks.list (prog:=X.prog) (w:=X.w) (A:=X.A.in1) hh it l (tm pl.isList gI) its.toArray;refine codeAny_builtin PySem.F.entry_min_loop ?_;rw[Around.under_plainId PySem.F.plain_min_loop _];show wpAny _ X.A.in1 (seqItems? (.ref S) >>= _) _ _ _;refine wpAny_bind (wpAny_seqItems gS rfl ?_);show wpAny _ X.A.in1 (tryCatch (pyNext (.ref it)) _ >>= _) _ _ _;refine wpAny_bind (wpAny_tryCatch (Wk.done _ _ _ ⟨by rw[sz,<- hin];exact gI,pl.isList⟩ λ h' tk' hk'=>?_));have J1:=J.rM (t':=tk') (fI H nI) λ b o hb e=>hk' b o (by simpa using hb) e;have gS':=hk' S _ (by simpa using hSI) gS;have s1:=Heap.SameBut.update h' S (Obj.mapSeq λ _=>(#[]:Array Value));show wpAny _ X.A.in1 (updateSeq S (λ _=>#[]) >>= _) _ _ _;refine wpAny_bind (wpAny_updateSeq gS' rfl (wpAny_bind (wpAny_letGo (wpAny_pure ?_))));exact fin i v u H _ hv ru (λ m hm=>best m (by omega)) (by rw[<- hin];exact hW) (J1.rM (t':=tk') (fS H nS) λ b o hb e=>(s1.2 b hb).trans e)
 | succ r ih =>
  intro j i H s v ky u ku c hr hj J hW nI nS gS gI hv ru rk rku hij best;have hlt:j+1<xs.length:=by omega
  obtain⟨its,rl,pl,hz⟩:=J.list (hl _ _ hW);have sz:its.toArray.size=xs.length:=by rw[List.size_toArray,rl.length]
  have Wk:=Walks.list (prog:=X.prog) (w:=X.w) (A:=X.A.in1) hh it l (tm pl.isList gI) its.toArray;refine codeAny_builtin PySem.F.entry_min_loop ?_;rw[Around.under_plainId PySem.F.plain_min_loop _];show wpAny _ X.A.in1 (seqItems? (.ref S) >>= _) _ _ _;refine wpAny_bind (wpAny_seqItems gS rfl ?_);show wpAny _ X.A.in1 (tryCatch (pyNext (.ref it)) _ >>= _) _ _ _;refine wpAny_bind (wpAny_tryCatch (Wk.item (j+1) _ _ _ (by rw[sz];exact hlt) ⟨gI,pl.isList⟩ λ u2 h' tk' hP hst hk'=>?_));have J1:=J.rM (t':=tk') (fI H nI) λ b o hb e=>hk' b o (by simpa using hb) e;have gS1:=hk' S _ (by simpa using hSI) gS;obtain⟨oI,goI,coI,doI⟩:=id hst.1;obtain⟨v2,hv2⟩:∃ v2,xs[j+1]? =some v2:=⟨_,List.getElem?_eq_getElem hlt⟩;obtain⟨u3,hu3,ru2⟩:=rl.get hv2;have eu:u3=u2:=by
   have hP':its[j+1]? =some u2:=by simpa using hP
   rw[hu3] at hP';exact Option.some.inj hP'
  subst eu;show wpAny _ X.A.in1 (tryCatch (holding [u3] (call (.ref f) [u3])) _ >>= _) _ _ _;have JP:=J1.aiI (fS H nS) (fI H nI) gS1 goI (λ _ z=>nomatch z) (λ _ z=>by rw[doI] at z;cases z);refine wpAny_bind (wpAny_tryCatch (wpAny_holding (wpAny_mono (turn (j+1) v2 u3 _ H _ hv2 ru2 hW JP.in1) (λ x s2 he=>?_) λ _ _ hF=>hF.elim)));obtain⟨y,H2,J2,ry,ey,kp2,hW2⟩:=he;obtain⟨J3,⟨gS2,nS2⟩,goI2,nI2⟩:=J2.aiY.abH;have gI2:s2.heap.IsListIter it l (j+1+1):=⟨oI,goI2,coI,doI⟩;have rk2:=au.keep kp2 rk;have li:i<xs.length:=by omega
  show wpAny _ X.A.in1 (tryCatch (holding [u3,x] (richCompare .Lt x ku >>= _)) _ >>= _) _ _ _;refine wpAny_bind (wpAny_tryCatch (wpAny_holding (wpAny_bind (vK hu J3 (L.cmp _ (mem _ hlt) _ (mem _ li)) ey rk2 ry rku (L.ok _ (mem _ hlt)) (L.ok _ (mem _ li)) (λ _ _ e=>e) _ _ _ _ ?_))));refine wpAny_bind (wpAny_holding (wpAny_truthy_bool (wpAny_bind (wpAny_letGo (wpAny_pure ?_)))))
  by_cases hb':lt (kd (j+1)) (kd i)=true
  ·have s1:=Heap.SameBut.update s2.heap S (Obj.mapSeq λ _=>#[u3,x]);obtain⟨c2,hc2⟩:∃ c2,(s2.heap.update S (Obj.mapSeq λ _=>#[u3,x])).get? S=some (seqObj "list" #[u3,x] c2):=⟨_,get?_update_seq gS2 λ _=>#[u3,x]⟩;simp only[hb',if_true];refine wpAny_bind (wpAny_updateSeq gS2 rfl (wpAny_bind (wpAny_letGo ?_)));rw[nm];have J4:=J3.rM (t':=s2.toks) (h':=s2.heap.update S (Obj.mapSeq λ _=>#[u3,x])) (fS H2 nS2) λ b o hb e=>(s1.2 b hb).trans e;refine wpAny_pure ⟨plainId_quiet PySem.F.plain_min_loop _,ih (j+1) (j+1) H2 _ v2 y u3 x c2 (by omega) hlt J4 hW2 nI2 nS2 hc2 ⟨oI,(s1.2 it hSI.symm).trans goI2,coI,doI⟩ hv2 ru2 ey ry (Nat.le_refl _) λ m hm=>?_⟩
   by_cases e:m=j+1
   ·subst e;cases e2:lt (kd (j+1)) (kd (j+1)) with
    | false=>rfl
    | true=>have:=L.asym _ (mem _ hlt) _ (mem _ hlt) e2;rw[e2] at this;cases this
   ·exact L.tr _ (mem _ hlt) _ (mem _ li) _ (mem m (by omega)) (L.asym _ (mem _ hlt) _ (mem _ li) hb') (best m (by omega))
  ·have hb2:lt (kd (j+1)) (kd i)=false:=by simpa using hb'
   simp only[hb2,Bool.false_eq_true,if_false];refine wpAny_bind (wpAny_letGo ?_);rw[nm];refine wpAny_pure ⟨plainId_quiet PySem.F.plain_min_loop _,ih (j+1) i H2 s2 v ky u ku c (by omega) hlt J3 hW2 nI2 nS2 gS2 gI2 hv ru rk2 rku (by omega) λ m hm=>?_⟩
   by_cases e:m=j+1
   ·subst e;exact hb2
   ·exact best m (by omega)
theorem uf(a v d:Value):argsOk "min" ⟨[a],[(Str.ofString "key",v),(Str.ofString "default",d)]⟩:=by unfold argsOk;kernel_rfl
theorem aaD{Q:VP}{E:VP}(lt:List PyData->List PyData->Bool)(kd:Nat->List PyData)(W:Nat->Hp->Prop)(hh:X.A.handled=none)(hu:lu k X.A)(L:sZ lt ((List.range xs.length).map kd))(I:Inv X pins σ H s)(hW:W 0 H)
  (hl:∀ i H,W i H->SqL X.K H l xs)
  (turn:∀ (i:Nat) (v:V) (u:Value) (pl:PN) (H:Hp) (s:Shared),xs[i]? =some v->RelV v u->W i H->Inv (u5 X) pl σ H s->wpAny (model X.prog X.w) X.A.in1 (call (.ref f) [u]) (EP (u5 X) pl σ λ y H'=>au X.K H' (.tuple (kd i)) y/\Kp H H'/\W (i+1) H') (λ _ _=>False) s)
  (fin:∀ (i:Nat) (v:V) (u:Value) (H:Hp) (s:Shared),xs[i]? =some v->RelV v u->(∀ j,j<xs.length->lt (kd j) (kd i)=false)->W xs.length H->Inv X pins σ H s->Q u s)
  (none:∀ (H:Hp) (s:Shared),xs=[]->W 0 H->Inv X pins σ H s->Q .none s) :
  wpAny (model X.prog X.w) X.A (call (.builtin "min") [.ref l] [(Str.ofString "key",.ref f),(Str.ofString "default",.none)]) Q E s:=by
 have nm:(toString "min" ++ toString ".loop" : String) = "min.loop":= by decide
 obtain⟨its,rl,pl,hz⟩:=I.list (hl _ _ hW);have sz:its.toArray.size=xs.length:=by rw[List.size_toArray,rl.length]
 obtain⟨ol,hol,_⟩:=id pl.isList;have hll:l<s.heap.objs.size:=Heap.lt_size hol;refine kmk_tree PySem.F.kind_min PySem.F.plain_min PySem.F.entry_min (uf _ _ _) ?_;show wpAny _ X.A.in1 (Builtin.Builtins.bindParams "min" ["key", "default"] 0 ⟨[],[(Str.ofString "key",.ref f),(Str.ofString "default",.none)]⟩ >>= _) _ _ s;refine wpAny_bind (wpAny_of_eq (show Builtin.Builtins.bindParams "min" ["key", "default"] 0 ⟨[],[(Str.ofString "key",.ref f),(Str.ofString "default",.none)]⟩=pure [some (.ref f),some .none] from rfl) (wpAny_bind (wpAny_pure ?_)));refine wpAny_bind (wpAny_pyIter_list pl.isList (wpAny_bind (wpAny_newList ?_ (Nat.zero_le _))));rw[nm];generalize hit:s.heap.objs.size=it;have hS:(s.heap.push {cls:=.type "list_iterator",data:=.fields #[.ref l,.int 0 0]}).objs.size=it+1:=by rw[<- hit];exact size_push' ..
 rw[hS];have nI:H it=Option.none:=I.hok.fresh (by rw[hit];exact Nat.le_refl _);have nS:H (it+1)=Option.none:=I.hok.fresh (by rw[hit];exact Nat.le_succ _);have fI:∀ H:Hp,H it=Option.none->jm X pins H it:=λ H n=>I.n4 (by rw[hit];exact Nat.le_refl _) n;have fS:∀ H:Hp,H (it+1)=Option.none->jm X pins H (it+1):=λ H n=>I.n4 (by rw[hit];exact Nat.le_succ _) n;have gI:((s.heap.push {cls:=.type "list_iterator",data:=.fields #[.ref l,.int 0 0]}).push (seqObj "list" #[] 0)).get? it=some {cls:=.type "list_iterator",data:=.fields #[.ref l,.int 0 0]}:=Heap.get?_push_of_some _ (by rw[<- hit];exact Heap.get?_push_size _ rfl);have gS:((s.heap.push {cls:=.type "list_iterator",data:=.fields #[.ref l,.int 0 0]}).push (seqObj "list" #[] 0)).get? (it+1)=some (seqObj "list" #[] 0):=by rw[<- hS];exact Heap.get?_push_size _ rfl
 refine wpAny_pure ⟨plainId_quiet PySem.F.plain_min_loop _,?_⟩;generalize hH:(s.heap.push {cls:=.type "list_iterator",data:=.fields #[.ref l,.int 0 0]}).push (seqObj "list" #[] 0)=hp at gI gS;have kp:∀ b o,s.heap.get? b=some o->hp.get? b=some o:=λ b o e=>by rw[<- hH];exact Heap.get?_push_of_some _ (Heap.get?_push_of_some _ e)
 have J:=I.kept (t':=s.toks) kp;have hlI:l≠it:=by rw[<- hit];exact Nat.ne_of_lt hll
 have hlst:hp.IsList l its.toArray:=pl.isList.at λ o e=>kp l o e;have Wk:=Walks.list (prog:=X.prog) (w:=X.w) (A:=X.A.in1) hh it l hlI its.toArray;refine codeAny_builtin PySem.F.entry_min_loop ?_;rw[Around.under_plainId PySem.F.plain_min_loop _];show wpAny _ X.A.in1 (seqItems? (.ref (it+1)) >>= _) _ _ _;refine wpAny_bind (wpAny_seqItems gS rfl ?_);show wpAny _ X.A.in1 (tryCatch (pyNext (.ref it)) _ >>= _) _ _ _
 by_cases h0:0<xs.length
 ·refine wpAny_bind (wpAny_tryCatch (Wk.item 0 _ _ _ (by rw[sz];exact h0) ⟨⟨_,gI,rfl,rfl⟩,hlst⟩ λ u2 h' tk' hP hst hk'=>?_));have J1:=J.rM (t':=tk') (fI H nI) λ b o hb e=>hk' b o (by simpa using hb) e;have gS1:=hk' (it+1) _ (by simp) gS;obtain⟨oI,goI,coI,doI⟩:=id hst.1;obtain⟨v2,hv2⟩:∃ v2,xs[0]? =some v2:=⟨_,List.getElem?_eq_getElem h0⟩;obtain⟨u3,hu3,ru2⟩:=rl.get hv2;have eu:u3=u2:=by
   have hP':its[0]? =some u2:=by simpa using hP
   rw[hu3] at hP';exact Option.some.inj hP'
  subst eu;show wpAny _ X.A.in1 (tryCatch (holding [u3] (call (.ref f) [u3])) _ >>= _) _ _ _;have JP:=J1.aiI (fS H nS) (fI H nI) gS1 goI (λ _ z=>nomatch z) (λ _ z=>by rw[doI] at z;cases z);refine wpAny_bind (wpAny_tryCatch (wpAny_holding (wpAny_mono (turn 0 v2 u3 _ H _ hv2 ru2 hW JP.in1) (λ x s2 he=>?_) λ _ _ hF=>hF.elim)));obtain⟨y,H2,J2,ry,ey,kp2,hW2⟩:=he;obtain⟨J3,⟨gS2,nS2⟩,goI2,nI2⟩:=J2.aiY.abH;have s1:=Heap.SameBut.update s2.heap (it+1) (Obj.mapSeq λ _=>#[u3,x]);obtain⟨c2,hc2⟩:∃ c2,(s2.heap.update (it+1) (Obj.mapSeq λ _=>#[u3,x])).get? (it+1)=some (seqObj "list" #[u3,x] c2):=⟨_,get?_update_seq gS2 λ _=>#[u3,x]⟩;show wpAny _ X.A.in1 (updateSeq (it+1) (λ _=>#[u3,x]) >>= _) _ _ _;refine wpAny_bind (wpAny_updateSeq gS2 rfl ?_);rw[nm];have J4:=J3.rM (t':=s2.toks) (h':=s2.heap.update (it+1) (Obj.mapSeq λ _=>#[u3,x])) (fS H2 nS2) λ b o hb e=>(s1.2 b hb).trans e;have m0:kd 0∈(List.range xs.length).map kd:=List.mem_map.mpr ⟨0,List.mem_range.mpr h0,rfl⟩;refine wpAny_pure ⟨plainId_quiet PySem.F.plain_min_loop _,qE lt kd W hh hu L hl (by simp) fI fS turn fin _ 0 0 H2 _ v2 y u3 x c2 rfl h0 J4 hW2 nI2 nS2 hc2 ⟨oI,(s1.2 it (by simp)).trans goI2,coI,doI⟩ hv2 ru2 ey ry (Nat.le_refl _) λ m hm=>?_⟩;have e:m=0:=by omega
  subst e;cases e2:lt (kd 0) (kd 0) with
  | false=>rfl
  | true=>have:=L.asym _ m0 _ m0 e2;rw[e2] at this;cases this
 ·have e0:xs=[]:=List.length_eq_zero_iff.mp (by omega);have e1:its=[]:=List.length_eq_zero_iff.mp (by rw[<- rl.length,e0];rfl);refine wpAny_bind (wpAny_tryCatch (Wk.done _ _ _ ⟨by rw[List.size_toArray,e1];exact⟨_,gI,rfl,rfl⟩,hlst⟩ λ h' tk' hk'=>?_));show wpAny _ X.A.in1 (rule _ >>= _) _ _ _;exact wpAny_bind (wpAny_rule (wpAny_pure (none H _ e0 hW (J.rM (t':=tk') (fI H nI) λ b o hb e=>hk' b o (by simpa using hb) e))))
end
def vq(P:Addr)(q:Str)(lpos:Pos)(to tb:TD)(fr:List Nat)(τ:DS)(M:MH)(Q:QD):Prop:=to τ M λ w M1=>∃ ds kd lt,w=.d (.list ds)/\M1 P=some (.code q lpos) /\
 (∀ i d,ds[i]? =some d->tb (adM (.d d) fr τ) M1 λ y M2=>y=.d (.tuple (kd i))/\M2=M1)/\sZ lt ((List.range ds.length).map kd)/\(ds=[]->Q (.d .none) M1)/\∀ i d,ds[i]? =some d->(∀ j,j<ds.length->lt (kd j) (kd i)=false)->Q (.d d) M1
section
variable {X:Cx}{P cd:Addr}{q x:Str}{lpos pos p kpos kpos2 kp:Pos}{j:Nat}{params:Arguments}{body o:Expr}{sc:Scope}{fr:List Nat}{to tb:TD}{k:Nat}
theorem xK(hr:eQ (k+2) X.A)(hc:X.calm=true)(hg:Gl X "min")(hm:X.mg "min" = none)(L:oq X sc x fr)(hcode:X.env.code=.ref cd)(hcd:W.codeHdIn X.K cd P=true)(hq:X.env.qual ++ "<lambda>" = q)
  (hb:∀ cl pm cdv ctv u,bindArgs (kla_fn "<lambda>" q params body sc cl pm cdv ctv) ⟨[u],[]⟩=pure [(x,u)])(ho:PD X o to)
  (he:∀ cl f c s H pl,eQ k (zg (u5 X) q sc (yj X x fr) cl f c s H pl).A->PD (zg (u5 X) q sc (yj X x fr) cl f c s H pl) body tb)(hso:gB o=false:=by rfl)(hdef:defaultsOf params X.env=([],[]):=by rfl) :
  PD X (.Call (.Name "min" p) [o] [⟨some "key",.Lambda params body sc lpos,kpos⟩,⟨some "default",.Constant .none j kp,kpos2⟩] pos) (vq P q lpos to tb fr):=by
 intro pins s σ H Q I h;subst hq;have hst:starEach [o] X.env=(false,eval o X.env)::starEach [] X.env:=cE o [] X.env hso;have pa:PA X [o] (kI (up X.K to) yZ):=iS ho lQ hst;have pk:PK X [⟨some "key",.Lambda params body sc lpos,kpos⟩,⟨some "default",.Constant .none j kp,kpos2⟩] (kI (aiQ X P (X.env.qual ++ "<lambda>") params body sc lpos) (kI (tC .non) yZ)):=ni (afs L hcode hcd hdef) (ni abY wk);obtain⟨τ,M,Qd,A,h,kk⟩:=h;refine wpAny_Call_Name_kw (eP I hg hm sM (callWith_kw (he:=by rw[hst];rfl) (hplain:=eF pos X.env [o] (by simp[hso])) ?_));refine thn (pa pos pins s σ H (λ vs H1=>∃ v w M1,vs=[v]/\Kp H H1/\ay X.K H1 w v/\c5 X.K H1 M1/\∃ ds kd lt,w=.d (.list ds)/\M1 P=some (.code (X.env.qual ++ "<lambda>") lpos) /\
  (∀ i d,ds[i]? =some d->tb (adM (.d d) fr τ) M1 λ y M2=>y=.d (.tuple (kd i))/\M2=M1)/\sZ lt ((List.range ds.length).map kd)/\(ds=[]->Qd (.d .none) M1)/\∀ i d,ds[i]? =some d->(∀ j,j<ds.length->lt (kd j) (kd i)=false)->Qd (.d d) M1) I
  ⟨τ,M,_,A,h,λ x H1 w M1 kp r m z=>⟨x,w,M1,rfl,kp,r,m,z⟩⟩) λ us s1 ⟨vs,H1,I1,r1,hx⟩=>?_
 obtain⟨v,w,M1,ev,kp1,rw1,m1,ds,kd,lt,ew,hP,hkey,hlt,hno,hfin⟩:=hx;subst ev ew;simp only[ay,au] at rw1;obtain⟨a,xs,ea,hs,ra⟩:=rw1;subst ea;obtain⟨u,rfl,ru⟩:=vals1 r1;cases (show u=Value.ref a from ru);obtain⟨ps,hT,ht,hcA⟩:=m1 P _ hP;refine thn (pk pos pins s1 σ H1 (λ ks H2=>∃ f cl,ks=[.ref f,.non]/\Kp H1 H2/\c5 X.K H2 M1/\ahT X sc cl/\aeF H2 (X.env.qual ++ "<lambda>") x params body sc cl ((X.mg "__name__").getD .none) f) I1 ?_) λ kus s2 ⟨ks,H2,I2,r2,f,cl,ek,kp2,m2,hcl,hlam⟩=>?_
 ·refine⟨ps,hT,ht,?_⟩;rcases hcA with hn | ⟨c,oc,vs,t,e1,e2,e3,e4⟩
  ·refine .inl ⟨hn,λ c f oc vs t ctv cl hcl hc0 hf0 hcf hd hv=>?_⟩;obtain⟨k3,m3⟩:=um m1 hP hT ht hn hc0 hd hv;have fP:f≠P:=Ne.symm (aH hT hf0);have cP:c≠P:=Ne.symm (aH hT hc0);have hf1:upd (upd H1 c (.frz oc (.own 0))) P (.tbl (mU ps lpos c)) f=none:=by rw[aj fP,aj (Ne.symm hcf)];exact hf0
   exact⟨f,cl,rfl,k3.trans (Kp.new hf1),m3.new hf1,hcl,c,ctv,oc,vs,t,aq,by rw[aj hcf,aj cP,aq],hd,hv⟩
  ·exact .inr ⟨c,oc,vs,t,e1,e2,e3,e4,λ f ctv cl hcl hf0=>⟨f,cl,rfl,Kp.new hf0,m1.new hf0,hcl,c,ctv,oc,vs,t,aq,by rw[aj (aH e2 hf0)];exact e2,e3,e4⟩⟩
 subst ek;obtain⟨ku,nu,rfl,rk,rn⟩:=vals2 r2;cases (show ku=Value.ref f from rk);cases (show nu=Value.none from rn);show wpAny _ _ (call (.builtin "min") [.ref a] [(Str.ofString "key",.ref f),(Str.ofString "default",.none)]) _ _ s2;have hlen:=ra.length;have L':oq (u5 X) sc x fr:=⟨L.kind,L.co,L.gen,L.cell,L.free,L.own,L.fr⟩;have A2:∀ {H'},Kp H2 H'->c5 X.K H' M1->Abs X.K H' σ τ M1:=λ kp m=>A.go (kp1.trans (kp2.trans kp)) m;refine aaD (k:=k+2) (xs:=xs) lt kd (λ i H'=>Kp H2 H'/\c5 X.K H' M1) hr.hd hr.h (by rw[hlen];exact hlt) I2 ⟨Kp.refl _,m2⟩ (λ i H' hW=>(SqF.keep (kp2.trans hW.1) hs).sq) (λ i v u pl H' s' hv ru hW J=>?_) (λ i v u H' s' hv ru hbest hW J=>?_) λ H' s' e0 hW J=>?_
 ·obtain⟨d,hd,rd⟩:=(ra.keep (kp2.trans hW.1)).get' hv;refine aea (X:=u5 X) (k:=k) (hr.in1) hc L' hcl.1 hcl.2 (hb cl _) (te:=up X.K tb) (λ c s H pl hr'=>he cl f c s H pl hr') J (D.aeF.keep hlam hW.1) ru ?_;refine⟨_,M1,_,acL (A2 hW.1 hW.2) (w:=.d d) rd fr,hkey i d hd,λ y H3 w3 M3 kp3 r3 m3 z=>?_⟩;obtain⟨e1,e2⟩:=z;subst e1 e2;exact⟨r3,kp3,hW.1.trans kp3,m3⟩
 ·obtain⟨d,hd,rd⟩:=(ra.keep (kp2.trans hW.1)).get' hv;exact⟨v,H',J,ru,kk v H' (.d d) M1 (kp1.trans (kp2.trans hW.1)) rd hW.2 (hfin i d hd λ j hj=>hbest j (by omega))⟩
 ·exact⟨.non,H',J,rfl,kk .non H' (.d .none) M1 (kp1.trans (kp2.trans hW.1)) (by simp[ay,au]) hW.2 (hno (List.length_eq_zero_iff.mp (by rw[<- hlen,e0];rfl)))⟩
end
theorem w5{X:Cx}{P cd:Addr}{q x:Str}{lpos pos p kpos kpos2 kp:Pos}{j:Nat}{params:Arguments}{body o:Expr}{sc:Scope}{fr:List Nat}{to tb:TD}{k:Nat}(hr:eQ (k+2) X.A)(hc:X.calm=true)(hg:Gl X "min")(hm:X.mg "min" = none)(L:oq X sc x fr)(hcode:X.env.code=.ref cd)(hcd:W.codeHdIn X.K cd P=true)(hq:X.env.qual ++ "<lambda>" = q)
  (hb:∀ cl pm cdv ctv u,bindArgs (kla_fn "<lambda>" q params body sc cl pm cdv ctv) ⟨[u],[]⟩=pure [(x,u)])(ho:Jd (PD X o to))
  (he:∀ cl f c s H pl,eQ k (zg (u5 X) q sc (yj X x fr) cl f c s H pl).A->Jd (PD (zg (u5 X) q sc (yj X x fr) cl f c s H pl) body tb))(hso:gB o=false:=by rfl)(hdef:defaultsOf params X.env=([],[]):=by rfl) :
  Jd (PD X (.Call (.Name "min" p) [o] [⟨some "key",.Lambda params body sc lpos,kpos⟩,⟨some "default",.Constant .none j kp,kpos2⟩] pos) (vq P q lpos to tb fr)):=⟨D.xK hr hc hg hm L hcode hcd hq hb ho.h (λ cl f c s H pl h=>(he cl f c s H pl h).h) hso hdef⟩
end D
namespace L2
end L2
namespace D
open L2
end D
namespace L2
section
variable {M:Model}{A:Around}{E:VP}{s:Shared}
theorem acX{scope:Scope}{globals:Addr}{closure:List (Str×Addr)}{qual:Str}{outer:Env}{bn:Addr}{Q:Env->Shared->Prop}
  (hQ:Q (newEnv scope s.heap.objs.size globals (cellsFrom (s.heap.objs.size+1) scope.names closure) qual none .none (some outer) bn) {s with heap:=pushCells (s.heap.push {cls:=.type "dict",data:=.dict #[]}) scope.names}) :
  wpAny M A (newFunctionEnv scope globals closure [] qual none .none (some outer) bn) Q E s:=by
 simp only[newFunctionEnv,Option.isSome_some,if_true];refine wpAny_bind (wpAny_alloc (wpAny_bind (wpAny_layCells _ (λ name kind cells=>by cases hkc:kind==NameKind.cell<;>simp[hkc]) _ _ _ _ ?_)));rw[show({s with heap:=s.heap.push {cls:=.type "dict",data:=.dict #[]}}:Shared).heap.objs.size=s.heap.objs.size+1 from Heap.size_push ..];refine wpAny_bind ?_;rw[List.forIn_nil];exact wpAny_pure (wpAny_pure hQ)
end
theorem bV:∀ (names:List (Str×NameKind)) (n:Nat) (acc:List (Str×Addr)),cellsFrom n names acc=cellsFrom n names []++acc
 | [],_,_=>rfl
 | (x,k)::r,n,acc=>by
  unfold cellsFrom
  split
  ·rw[bV r (n+1) ((x,n)::acc),bV r (n+1) [(x,n)]];simp
  ·exact bV r n acc
theorem jS:∀ {names:List (Str×NameKind)} {n:Nat} {x:Str} {c:Addr},(x,c)∈cellsFrom n names []->(x,NameKind.cell)∈names
 | [],n,x,c,h=>nomatch h
 | (y,k)::r,n,x,c,h=>by
  unfold cellsFrom at h
  split at h
  ·rename_i hk
   rw[bV] at h;rcases List.mem_append.mp h with h | h
   ·exact List.mem_cons_of_mem _ (jS h)
   ·have:(x,c)=(y,n):=by simpa using h
    cases this;rw[eq_of_beq hk];exact List.mem_cons_self
  ·exact List.mem_cons_of_mem _ (jS h)
theorem gi:∀ {names:List (Str×NameKind)} {n:Nat} {x:Str},(x,NameKind.cell)∈names->∃ c,(x,c)∈cellsFrom n names []
 | (y,k)::r,n,x,h=>by
  unfold cellsFrom;rcases List.mem_cons.mp h with e | h
  ·cases e;rw[if_pos (by decide),bV];exact⟨n,by simp⟩
  ·split
   ·obtain⟨c,hc⟩:=gi (n:=n+1) h;rw[bV];exact⟨c,List.mem_append_left _ hc⟩
   ·exact gi h
theorem lookup_some:∀ {l:List (Str×Addr)} {x:Str} {c:Addr},(x,c)∈l->∃ c',l.lookup x=some c'
 | (y,d)::r,x,c,h=>by
  rw[List.lookup_cons];cases e:x==y with
  | true=>exact⟨d,rfl⟩
  | false =>
   rcases List.mem_cons.mp h with z | z
   ·cases z;simp at e
   ·exact lookup_some z
theorem dZ{l r:List (Str×Addr)}{x:Str}:(l++r).lookup x=(l.lookup x).or (r.lookup x):=by
 induction l with
 | nil=>rfl
 | cons p l ih =>
  obtain⟨y,d⟩:=p;simp only[List.cons_append,List.lookup_cons];cases x==y with
  | true=>rfl
  | false=>exact ih
structure px(X:Cx)(sc:Scope)(own:List Str)(fr:List Nat):Prop where
 kind:sc.kind=.function
 free:∀ y∈sc.names,y.2=.free->(X.env.kindOf y.1=some .cell\/X.env.kindOf y.1=some .free)
 names:∀ y∈sc.names,y.2=.local->sc.names.lookup y.1=some .local
 uni:∀ y∈sc.names,y.2=.cell->sc.names.lookup y.1=some .cell
 fr:acY X.N sc fr=true
def ou(X:Cx)(sc:Scope)(N':List Str)(cl:List (Str×Addr))(C:Addr)(s:Shared)(H:Hp)(ex:List Addr)(pins:PN):Cx:=
 {blk X sc N' cl C s H ex pins with fn:=λ x=>sc.names.lookup x==some .cell}
structure aaU(X:Cx)(sc:Scope)(cl:List (Str×Addr))(C:Addr)(cc:List (Str×Addr))(h:Heap):Prop where
 one:∀ n c,cc.lookup n=some c->(X.env.cells.lookup n=some c/\sc.names.lookup n≠some .cell)\/(C<c/\sc.names.lookup n=some .cell/\h.IsCell c none)
 inj:∀ x y c,sc.names.lookup x=some .cell->sc.names.lookup y=some .cell->cc.lookup x=some c->cc.lookup y=some c->x=y
 has:∀ x,(x,NameKind.cell)∈sc.names\/(x,NameKind.free)∈sc.names->∃ c,cc.lookup x=some c
 old:∀ n c,sc.names.lookup n≠some .cell->cl.lookup n=some c->cc.lookup n=some c
section
variable {X:Cx}{pins:PN}{σ:St}{H:Hp}{s:Shared}{sc:Scope}{own:List Str}{fr:List Nat}{cl cc:List (Str×Addr)}{fp:List Addr}{C:Addr}
theorem ahX{h:Heap}(L:px X sc own fr)(c1:∀ n c,cl.lookup n=some c->X.env.cells.lookup n=some c)(c2:∀ n,(n,NameKind.free)∈sc.names->∃ c,cl.lookup n=some c) :
  aaU X sc cl h.objs.size (cellsFrom (h.objs.size+1) sc.names cl) (pushCells (h.push {cls:=.type "dict",data:=.dict #[]}) sc.names):=by
 have ok:=cellsFrom_ok sc.names (h.push {cls:=.type "dict",data:=.dict #[]}) (h.objs.size+1) [] ⟨λ _ _ hm=>(nomatch hm),List.Pairwise.nil⟩ (by rw[Heap.size_push];exact Nat.le_refl _);rw[Heap.size_push] at ok;have own:∀ {n c},(cellsFrom (h.objs.size+1) sc.names []).lookup n=some c->sc.names.lookup n=some .cell:=λ {n c} e=>L.uni _ (jS (PySem.mem_of_lookup e)) rfl;have no:∀ {n},sc.names.lookup n≠some .cell->(cellsFrom (h.objs.size+1) sc.names []).lookup n=none:=λ {n} e=>by
  cases q:(cellsFrom (h.objs.size+1) sc.names []).lookup n with
  | none=>rfl
  | some c=>exact absurd (own q) e
 have at_own:∀ {n c c'},(cellsFrom (h.objs.size+1) sc.names []).lookup n=some c->(cellsFrom (h.objs.size+1) sc.names cl).lookup n=some c'->c=c':=λ {n c c'} q e=>by rw[bV,dZ,q] at e;exact Option.some.inj e
 refine⟨λ n c e=>?_,λ x y c hx hy ex ey=>?_,λ x hx=>?_,λ n c h1 h2=>?_⟩
 ·cases q:(cellsFrom (h.objs.size+1) sc.names []).lookup n with
  | none =>
   rw[bV,dZ,q] at e;refine .inl ⟨c1 _ _ e,λ z=>?_⟩;obtain⟨d,hd⟩:=gi (n:=h.objs.size+1) (PySem.mem_of_lookup z);obtain⟨d',hd'⟩:=lookup_some hd;rw[q] at hd';cases hd'
  | some d =>
   have:=at_own q e;subst this;obtain⟨a,b⟩:=ok.empty n d (PySem.mem_of_lookup q);exact .inr ⟨b,own q,a⟩
 ·have own2:∀ {z},sc.names.lookup z=some .cell->(cellsFrom (h.objs.size+1) sc.names cl).lookup z=some c->(z,c)∈cellsFrom (h.objs.size+1) sc.names []:=λ {z} hz e=>by obtain⟨d,hd⟩:=gi (n:=h.objs.size+1) (PySem.mem_of_lookup hz);obtain⟨d',hd'⟩:=lookup_some hd;have:=at_own hd' e;subst this;exact PySem.mem_of_lookup hd'
  exact name_of_addr ok.apart (own2 hx ex) (own2 hy ey)
 ·rcases hx with hx | hx
  ·obtain⟨d,hd⟩:=gi (n:=h.objs.size+1) hx;obtain⟨d',hd'⟩:=lookup_some hd;exact⟨d',by rw[bV,dZ,hd'];rfl⟩
  ·obtain⟨c,hc⟩:=c2 x hx;cases q:(cellsFrom (h.objs.size+1) sc.names []).lookup x with
   | none=>exact⟨c,by rw[bV,dZ,q];exact hc⟩
   | some d=>exact⟨d,by rw[bV,dZ,q];rfl⟩
 ·rw[bV,dZ,no h1];exact h2
end
theorem fY{env:Env}{x:Str}:∀ {names:List (Str×NameKind)},(names.map λ(n,k)=>if (k==NameKind.free&&env.scope.kind==.function&&env.kindOf n==some .cell) then (n,NameKind.cell) else (n,k)).lookup x=some .cell \/
  (names.map λ(n,k)=>if (k==NameKind.free&&env.scope.kind==.function&&env.kindOf n==some .cell) then (n,NameKind.cell) else (n,k)).lookup x=some .free->(x,NameKind.cell)∈names\/(x,NameKind.free)∈names
 | [],h=>by simp at h
 | (n,k)::r,h=>by
  by_cases hk:(k==NameKind.free&&env.scope.kind==.function&&env.kindOf n==some .cell)=true
  ·simp only[List.map_cons,if_pos hk,List.lookup_cons] at h;cases hx:x==n with
   | true =>
    rw[eq_of_beq hx];simp only[Bool.and_eq_true] at hk;rw[eq_of_beq hk.1.1];exact .inr List.mem_cons_self
   | false =>
    rw[hx] at h;exact(fY h).imp (List.mem_cons_of_mem _) (List.mem_cons_of_mem _)
  ·simp only[List.map_cons,if_neg hk,List.lookup_cons] at h;cases hx:x==n with
   | true =>
    rw[hx] at h;rw[eq_of_beq hx];rcases h with h | h
    ·cases h;exact .inl List.mem_cons_self
    ·cases h;exact .inr List.mem_cons_self
   | false =>
    rw[hx] at h;exact(fY h).imp (List.mem_cons_of_mem _) (List.mem_cons_of_mem _)
section
variable {X:Cx}{pins:PN}{σ:St}{H:Hp}{s:Shared}{sc:Scope}{own:List Str}{fr:List Nat}{cl cc:List (Str×Addr)}{fp:List Addr}{C:Addr}{h1:Heap}
theorem acu(L:px X sc own fr)(I:Inv X pins σ H s)(hf:∀ b∈fp,jm X pins H b)(hb:∀ b∈fp,b<s.heap.objs.size)(hC:s.heap.objs.size<=C)(Wc:aaU X sc cl C cc h1):(ou X sc (lcN X own fr) cc C s H fp pins).Ok where
 mod:=I.ok.mod
 kind:=L.kind
 glob:=I.ok.glob
 blt:=I.ok.blt
 above:=hC
 inj:=λ x y c a b=>by
  rcases Wc.one _ _ a with ⟨a1,a2⟩ | ⟨a1,a2,a3⟩<;>rcases Wc.one _ _ b with ⟨b1,b2⟩ | ⟨b1,b2,b3⟩
  ·exact I.ok.inj x y c a1 b1
  ·obtain⟨v,z⟩:=I.cell _ _ a1;exact absurd z.lt (Nat.not_lt.mpr (Nat.le_trans hC (Nat.le_of_lt b1)))
  ·obtain⟨v,z⟩:=I.cell _ _ b1;exact absurd z.lt (Nat.not_lt.mpr (Nat.le_trans hC (Nat.le_of_lt a1)))
  ·exact Wc.inj x y c a2 b2 a b
 has:=λ x hx=>Wc.has x (fY hx)
 cab:=λ x c z e=>by
  rcases Wc.one _ _ e with ⟨a1,a2⟩ | ⟨a1,_,_⟩
  ·exact absurd (eq_of_beq z) a2
  ·exact Nat.le_trans hC (Nat.le_of_lt a1)
 hd:=I.ok.hd
 frames:=I.ok.frames
 stk:=.inl rfl
 exf:=λ b z=>⟨Nat.ne_of_lt (Nat.lt_of_lt_of_le (hb b z) hC),λ x c e=>by
  rcases Wc.one _ _ e with ⟨a1,_⟩ | ⟨a1,_,_⟩
  ·exact(hf b z).2.2.2.2.1 x c a1
  ·exact Nat.ne_of_gt (Nat.lt_of_lt_of_le (hb b z) (Nat.le_trans hC (Nat.le_of_lt a1)))⟩
 bs:=I.bs
 bsz:=Nat.le_trans I.ok.bsz I.sz
 noex:=λ b o e z=>by
  rcases(hf b z).2.2.2.1 with q | q
  ·exact I.ok.noex b o e q
  ·exact absurd (Nat.lt_of_lt_of_le (Heap.lt_size e) (Nat.le_trans I.ok.bsz q)) (Nat.lt_irrefl _)
 exfs:=λ b z q=>by
  rcases List.mem_cons.mp (I.fF b q) with e | e
  ·exact(hf b z).2.1 e
  ·exact(hf b z).2.2.1 e
 qo:=I.stack
 frf:=I.nG
end
section
variable {X:Cx}{pins:PN}{σ:St}{H:Hp}{s:Shared}{sc:Scope}{own:List Str}{fr:List Nat}{cl cc:List (Str×Addr)}{fp:List Addr}{C:Addr}{h1:Heap}
theorem aao(L:px X sc own fr)(I:Inv X pins σ H s)(hf:∀ b∈fp,jm X pins H b)(hb:∀ b∈fp,b<s.heap.objs.size)(hC:s.heap.objs.size<=C)
  (Wc:aaU X sc cl C cc h1)(c2:∀ n,(n,NameKind.free)∈sc.names->∃ c,cl.lookup n=some c)(c1:∀ n c,cl.lookup n=some c->X.env.cells.lookup n=some c)
  {tk:Nat}{m:Str->Option Value}(hn:h1.Ns C m)(k:∀ b o,s.heap.get? b=some o->h1.get? b=some o) :
  Inv (ou X sc (lcN X own fr) cc C s H fp pins) [] (lcS own.length fr σ) H {s with heap:=h1,toks:=tk}:=by
 have ok:=acu L I hf hb hC Wc;refine⟨ok,rfl,I.bare,Un.kept k,⟨m,hn,λ i x v e1 e2 e3=>?_⟩,λ x c e=>?_,I.hok.fresh hC,λ x c e=>?_,λ p hp=>?_,I.hok.kept k,?_⟩
 ·-- one of the names around
  have hi:¬ i<own.length:=λ hi=>by
   unfold lcS at e2;rw[List.getElem?_append_left (by simpa using hi),List.getElem?_replicate] at e2
   split at e2<;>cases e2
  have e1':(lcN X own fr)[i]? =some x:=e1;unfold lcN at e1';unfold lcS at e2;rw[List.getElem?_append_right (by omega),List.getElem?_map] at e1';rw[List.getElem?_append_right (by simpa using hi),List.getElem?_map,List.length_replicate] at e2;cases q:fr[i-own.length]? with
  | none=>rw[q] at e1';cases e1'
  | some j =>
   rw[q] at e1' e2;obtain⟨y,hy,hyf⟩:=mT L.fr (List.mem_of_getElem? q);have ex:y=x:=by have:=Option.some.inj e1';rw[<- this];simp[List.getD,hy]
   subst ex;have ev:σ[j]? =some (some v):=by
    have z:(σ[j]?).getD none=some v:=Option.some.inj e2;cases w:σ[j]? with
    | none=>rw[w] at z;cases z
    | some o=>rw[w] at z;exact congrArg some z
   have hm:(y,NameKind.free)∈sc.names:=PySem.mem_of_lookup hyf;have hk:=L.free _ hm rfl;have vis:Vis X.env.scope y:=by
    rcases hk with z | z
    ·exact .inr (.inl z)
    ·exact .inr (.inr z)
   obtain⟨m0,hn0,hl⟩:=I.loc;obtain⟨u,r,l⟩:=hl j y v hy ev vis;refine⟨u,r,.inr ⟨?_,?_⟩⟩
   ·exact cJ (env:=X.env) hyf
   ·obtain⟨c,hc⟩:=c2 y hm;rcases l with ⟨z,_⟩ | ⟨_,c',hc',hcell⟩
    ·rcases hk with q | q
     ·exact absurd (show X.env.kindOf y=some .local from z) (by rw[q];decide)
     ·exact absurd (show X.env.kindOf y=some .local from z) (by rw[q];decide)
    ·have:c=c':=Option.some.inj ((c1 _ _ hc).symm.trans hc');subst this;obtain⟨o,ho,hd⟩:=hcell;exact⟨c,Wc.old _ _ (by rw[hyf];decide) hc,o,k _ _ ho,hd⟩
 ·rcases Wc.one _ _ e with ⟨e,_⟩ | ⟨_,_,e⟩
  ·obtain⟨v,o,ho,hd⟩:=I.cell x c e;exact⟨v,o,k _ _ ho,hd⟩
  ·exact⟨_,e⟩
 ·rcases Wc.one _ _ e with ⟨e,_⟩ | ⟨e,_,_⟩
  ·exact I.freeC x c e
  ·exact I.hok.fresh (Nat.le_trans hC (Nat.le_of_lt e))
 ·have hp':p∈X.pn++pins:=by simpa [ou,blk] using hp
  obtain⟨a1,a2,a3,a4,a5⟩:=I.pin p hp';refine⟨k _ _ a1,a2,Nat.ne_of_lt (Nat.lt_of_lt_of_le (Heap.lt_size a1) hC),λ q=>?_,a5⟩;rcases List.mem_cons.mp (I.fF _ q) with e | e
  ·exact a3 e
  ·exact a4 e
 ·show(lcS own.length fr σ).length=(lcN X own fr).length;simp[lcS,lcN]
end
section
variable {X:Cx}{pins:PN}{σ:St}{H:Hp}{s:Shared}{sc:Scope}{own:List Str}{fr:List Nat}{cl:List (Str×Addr)}{fp:List Addr}{it:Addr}{J:It}{tn:Nat->Heap->Prop}{g:TG}{tt:TT}{te:TE}{W:LcW}{Fin:List V->Hp->Prop}
 {elt tg iter:Expr}{ifs:List Expr}{pos:Pos}{E:VP}
theorem aas{RR:Value->Addr->Result->Shared->Prop}(hc:X.calm=true)(L:px X sc own fr)(hcl1:∀ n c,cl.lookup n=some c->X.env.cells.lookup n=some c)(hcl2:∀ n,(n,NameKind.free)∈sc.names->∃ c,cl.lookup n=some c)
  (hg:∀ cl C s H ex pl,PG (ou X sc (lcN X own fr) cl C s H ex pl) tg g)(ht:∀ cl C s H ex pl,PTs (ou X sc (lcN X own fr) cl C s H ex pl) ifs tt)(he:∀ cl C s H ex pl,PE (ou X sc (lcN X own fr) cl C s H ex pl) elt te)
  (I:Inv X pins σ H s)(T:Turn X.prog X.w X.K tg J fp it tn)(st:tn 0 s.heap)(hf:∀ b∈fp,jm X pins H b)(w0:∃ m,W 0 m [] (lcS own.length fr σ) H)(turn:vS J g tt te W Fin)
  (hRR:∀ (D C:Addr) (s':Shared) (H':Hp) (ys:List V) (us:List Value) (n:Nat) (m:Str->Option Value),Inv X pins σ H' s'->s'.heap.get? D=some {cls:=.type "list",data:=.seq us.toArray n}->Vals ys us->ys.length<=sizeLine->H' D=none->H' C=none ->
   s.heap.objs.size<=D->s.heap.objs.size<=C->D≠C->s'.heap.Ns C m->Fin ys H'->RR (.ref D) C (.ok .next) s') :
  wpAny (model X.prog X.w) X.A (newList []) (λ acc s₃=>wpAny (model X.prog X.w) X.A (newFunctionEnv sc X.env.globals cl [] X.env.qual none .none (some X.env)) (λ cenv s₄ =>
   codeAny (model X.prog X.w) X.A (.compStart (.ListComp elt [⟨tg,iter,ifs,0⟩] sc pos) 0 (.ref it) acc {cenv with scope:=relabel sc X.env}) (RR acc cenv.locals) s₄) E s₃) E s:=by
 refine wpAny_newObj_type (acX ?_);dsimp only;generalize hH2:s.heap.push {cls:=.type "list",dict:=none,data:=.seq ([]:List Value).toArray}=H2;generalize hh1:pushCells (H2.push {cls:=.type "dict",data:=.dict #[]}) sc.names=h₁;have hns₁:h₁.Ns H2.objs.size λ _=>none:=by rw[<- hh1];exact(Heap.Ns.new H2 (.type "dict")).keeps (pushCells_keeps _ _)
 have hk1:∀ b o,H2.get? b=some o->h₁.get? b=some o:=λ b o e=>by rw[<- hh1];exact pushCells_keeps _ _ _ _ (Heap.get?_push_of_some _ e)
 have hCs:H2.objs.size=s.heap.objs.size+1:=by rw[<- hH2,Heap.size_push]
 have hD0:s.heap.objs.size≠H2.objs.size:=by rw[hCs];exact Nat.ne_of_lt (Nat.lt_succ_self _)
 have hCle:s.heap.objs.size<=H2.objs.size:=by rw[hCs];exact Nat.le_succ _
 have below:∀ b,b<s.heap.objs.size->b≠H2.objs.size/\b≠s.heap.objs.size:=λ b hb=>⟨by rw[hCs];exact Nat.ne_of_lt (Nat.lt_succ_of_lt hb),Nat.ne_of_lt hb⟩;have old:∀ b o,s.heap.get? b=some o->h₁.get? b=some o:=λ b o e=>hk1 b o (hH2 ▸ Heap.get?_push_of_some _ e);have hacc:h₁.get? s.heap.objs.size=some {cls:=.type "list",data:=.seq ([]:List Value).toArray 0}:=hk1 _ _ (hH2 ▸ Heap.get?_push_size _ rfl);have hfb:∀ b∈fp,b<s.heap.objs.size:=λ b hb=>by obtain⟨o,e,_⟩:=T.obj 0 _ st b hb;exact Heap.lt_size e
 have Wc:aaU X sc cl H2.objs.size (cellsFrom (H2.objs.size+1) sc.names cl) h₁:=by rw[<- hh1];exact ahX L hcl1 hcl2
 generalize hcc:cellsFrom (H2.objs.size+1) sc.names cl=cc at Wc;have hcl1':=hcl1;have hcl1:∀ n c,cc.lookup n=some c->X.env.cells.lookup n=some c\/H2.objs.size<c:=λ n c e=>(Wc.one n c e).imp (λ z=>z.1) λ z=>z.1;have I1:Inv (ou X sc (lcN X own fr) cc H2.objs.size s H fp pins) [] (lcS own.length fr σ) H {s with heap:=h₁}:=aao (tk:=s.toks) L I hf hfb hCle Wc hcl2 hcl1' hns₁ old;have st1:tn 0 h₁:=T.keep 0 _ _ st λ b _ o e=>old b o e;generalize hY:ou X sc (lcN X own fr) cc H2.objs.size s H fp pins=Y at I1;have hYp:Y.prog=X.prog:=by rw[<- hY];rfl
 have hYw:Y.w=X.w:=by rw[<- hY];rfl
 have hYK:Y.K=X.K:=by rw[<- hY];rfl
 have hYA:Y.A=X.A:=by rw[<- hY];rfl
 have hYc:Y.calm=true:=by rw[<- hY];exact hc
 have hYe:Y.env=compEnvC sc cc H2.objs.size X.env:=by rw[<- hY];rfl
 have hYx:Y.xe=λ _ _=>False:=by rw[<- hY];rfl
 have hYpn:Y.pn=X.pn++pins:=by rw[<- hY];rfl
 have hYs:Y.s₀=s:=by rw[<- hY];rfl
 have hYH:Y.H₀=H:=by rw[<- hY];rfl
 have hYex:Y.ex=fp:=by rw[<- hY];rfl
 have hYfs:Y.fs=frs X.stack:=by rw[<- hY];rfl
 have gY:=hg cc H2.objs.size s H fp pins;have tY:=ht cc H2.objs.size s H fp pins;have eY:=he cc H2.objs.size s H fp pins;rw[hY] at gY tY eY;have D_pin:∀ p∈Y.pn++([]:PN),p.1≠s.heap.objs.size:=λ p hp=>by rw[hYpn,List.append_nil] at hp;exact(below _ (Heap.lt_size (I.pin p hp).1)).2
 have D_cell:∀ x c,Y.env.cells.lookup x=some c->c≠s.heap.objs.size:=λ x c e=>by
  rw[hYe] at e;rcases hcl1 _ _ e with e | e
  ·obtain⟨v,z⟩:=I.cell x c e;exact(below _ z.lt).2
  ·exact Nat.ne_of_gt (Nat.lt_of_le_of_lt hCle e)
 have D_loc:s.heap.objs.size≠Y.env.locals:=by rw[hYe];exact hD0
 have D_fs:s.heap.objs.size ∉ Y.fs:=by
  rw[hYfs];intro z;rcases List.mem_cons.mp (I.fF _ z) with e | e
  ·exact absurd I.lt (by rw[<- e];exact Nat.lt_irrefl _)
  ·exact I.ahE (Nat.le_refl _) e
 have fpY:∀ {H':Hp} (pl:PN),(∀ b∈fp,H' b=none)->(∀ p∈pl,p.1=s.heap.objs.size)->∀ b∈fp,jm Y pl H' b:=λ {H'} pl hn hp b hb=>by
  obtain⟨_,f1,f2,f3,f4,f5⟩:=hf b hb;refine⟨hn b hb,by rw[hYe];exact(below b (hfb b hb)).1,?_,.inl (by rw[hYex];exact hb),λ x c e=>?_,λ p q=>?_⟩
  ·rw[hYfs];intro z;rcases List.mem_cons.mp (I.fF _ z) with e | e
   ·exact f1 e
   ·exact f2 e
  ·rw[hYe] at e;rcases hcl1 _ _ e with e | e
   ·exact f4 x c e
   ·exact Nat.ne_of_gt (Nat.lt_of_lt_of_le (hfb b hb) (Nat.le_trans hCle (Nat.le_of_lt e)))
  ·rcases List.mem_append.mp q with z | z
   ·rw[hYpn] at z;exact f5 p z
   ·rw[hp p z];exact Ne.symm (below b (hfb b hb)).2
 have loop:∀ s₃:Shared,s₃={s with heap:=h₁} ->
   codeAny (model X.prog X.w) X.A (.compLoop (.ListComp elt [⟨tg,iter,ifs,0⟩] sc pos) 0 (.ref it) (.ref s.heap.objs.size) (compEnvC sc cc H2.objs.size X.env)) (RR (.ref s.heap.objs.size) H2.objs.size) s₃:=by
  rintro s₃ rfl;obtain⟨m0,w0⟩:=w0;refine ji (λ n s'=>∃ i ys τ H' us k,Inv Y [] τ H' s'/\tn i s'.heap/\(∀ b∈fp,H' b=none)/\H' s.heap.objs.size=none/\s'.heap.get? s.heap.objs.size=some {cls:=.type "list",data:=.seq us.toArray k}/\Vals ys us/\ys.length<=sizeLine/\W i n ys τ H') ?_ m0
   ⟨0,[],_,H,[],0,I1,st1,λ b hb=>(hf b hb).1,I.hok.fresh (Nat.le_refl _),hacc,.nil,Nat.zero_le _,w0⟩
  rintro n s' ⟨i,ys,τ,H',us,k,I',st',hn',hD',ha',hv',hz',w'⟩;have Ip:Inv Y [(s.heap.objs.size,{cls:=.type "list",data:=.seq us.toArray k})] τ H' s':=I'.dh λ p hp=>by
   have e:p=(s.heap.objs.size,{cls:=.type "list",data:=.seq us.toArray k}):=by simpa using hp
   subst e;exact⟨ha',hD',D_loc,D_fs,λ v z=>nomatch (show Data.seq _ _=Data.cell v from z)⟩
  have onlyD:∀ p∈[((s.heap.objs.size,{cls:=.type "list",data:=.seq us.toArray k}):Addr×Obj)],p.1=s.heap.objs.size:=λ p hp=>by
   have e:p=(s.heap.objs.size,{cls:=.type "list",data:=.seq us.toArray k}):=by simpa using hp
   subst e;rfl
  rcases turn i n ys τ H' w' with ⟨stop,fin⟩ | ⟨go,hlen,step⟩
  ·have q:=T.done Y hYp hYw hYK hYc i _ s' τ H' (λ _ _=>False) Ip (fpY _ hn' onlyD) st' stop;rw[hYA] at q;refine thn q λ r s4 hq112=>?_;obtain⟨hr,I4⟩:=hq112;subst hr;have un:Un (frs X.stack) fp H H' s.heap s4.heap:=by have z:=I4.base;rw[hYfs,hYex,hYH,hYs] at z;exact z
   have os4:s4.os=s.os:=by have z:=I4.os;rw[hYs] at z;exact z
   have hok4:HOk X.prog X.w H' s4.heap:=by have z:=I4.hok;rw[hYp,hYw] at z;exact z
   have hch:∀ b∈fp,(b∈X.ex\/X.s₀.heap.objs.size<=b)/\b≠X.env.locals/\(∀ x c,X.env.cells.lookup x=some c->c≠b)/\∀ p∈X.pn++pins,p.1≠b:=λ b hb=>by obtain⟨_,f1,f2,f3,f4,f5⟩:=hf b hb;exact⟨f3,f1,f4,f5⟩
   have IX:Inv X pins σ H' s4:=I.adV os4 un hok4 I4.bare hch;obtain⟨mC,hmC,_⟩:=I4.loc;have hCf:=I4.free;rw[hYe] at hmC hCf;have pD:=I4.pin (s.heap.objs.size,{cls:=.type "list",data:=.seq us.toArray k}) (List.mem_append_right _ (List.mem_singleton.mpr rfl));exact hRR _ _ s4 H' ys us k mC IX pD.1 hv' hz' pD.2.1 hCf (Nat.le_refl _) hCle hD0 hmC fin
  ·have q:=T.item Y hYp hYw hYK hYc i _ s' τ H' (λ _ _=>False) Ip (fpY _ hn' onlyD) st' go;rw[hYA] at q;refine thn q λ r s4 hq113=>?_;obtain⟨u,hr,h4⟩:=hq113;subst hr;refine thn h4 λ _ s5 hq114=>?_;obtain⟨x,H5,I5,r5,y5,st5,fr5⟩:=hq114;have I5':=I5.pinned (fpY _ fr5 onlyD) (T.obj _ _ st5);have g5:=gY _ s5 τ H5 x u _ I5' r5 (step x H5 y5);rw[hYp,hYw,hYA,hYe,hYx] at g5;refine thn g5 λ _ s6 hq115=>?_;obtain⟨σ6,H6,I6,q6⟩:=hq115;have t6:=tY _ s6 σ6 H6 _ I6 q6;rw[hYp,hYw,hYA,hYe,hYx] at t6;refine thn t6 λ ok s7 hq116=>?_;obtain⟨H7,I7,q7⟩:=hq116;have keepD:∀ {σ8:St} {H8:Hp} {s8:Shared},Inv Y ([(s.heap.objs.size,{cls:=.type "list",data:=.seq us.toArray k})]++iO fp s5.heap) σ8 H8 s8->s8.heap.get? s.heap.objs.size=some {cls:=.type "list",data:=.seq us.toArray k}/\H8 s.heap.objs.size=none:=
    λ {σ8 H8 s8} I8=>by have pD:=I8.pin (s.heap.objs.size,{cls:=.type "list",data:=.seq us.toArray k}) (List.mem_append_right _ (List.mem_append_left _ (List.mem_singleton.mpr rfl)));exact⟨pD.1,pD.2.1⟩
   have keepI:∀ {σ8:St} {H8:Hp} {s8:Shared},Inv Y ([(s.heap.objs.size,{cls:=.type "list",data:=.seq us.toArray k})]++iO fp s5.heap) σ8 H8 s8->tn (i+1) s8.heap/\∀ b∈fp,H8 b=none:=
    λ {σ8 H8 s8} I8=>by refine⟨T.keep _ _ _ st5 λ b hb o e=>(I8.pin (b,o) (List.mem_append_right _ (List.mem_append_right _ (cL hb e)))).1,λ b hb=>?_⟩;obtain⟨o,e,d⟩:=T.obj _ _ st5 b hb;exact(I8.pin (b,o) (List.mem_append_right _ (List.mem_append_right _ (cL hb e)))).2.1
   cases ok with
   | false =>
    rw[if_neg Bool.false_ne_true] at q7 ⊢;obtain⟨m',hm',w7⟩:=q7;obtain⟨a7,b7⟩:=keepD I7;obtain⟨c7,d7⟩:=keepI I7;exact⟨m',hm',i+1,ys,σ6,H7,us,k,I7.dh (λ p hp=>(nomatch hp)),c7,d7,b7,a7,hv',hz',w7⟩
   | true =>
    rw[if_pos rfl] at q7 ⊢;have e7:=eY _ s7 σ6 H7 _ I7 q7;rw[hYp,hYw,hYA,hYe,hYx] at e7;refine thn e7 λ v s8 hq117=>?_;obtain⟨y,H8,I8,r8,m',hm',w8⟩:=hq117;obtain⟨a8,b8⟩:=keepD I8;obtain⟨c8,d8⟩:=keepI I8;have hl:=hv'.length;refine call_meets F.slot_list_append ⟨_,a8,rfl⟩ F.entry_list_append (F.args_list_append_2 _ _) (PySem.list_append s.heap.objs.size us.toArray k v (by rw[List.size_toArray];omega)) ⟨a8,?_⟩;have qu:=PySem.IsL.update a8 (λ xs=>xs.push v);have I9:=(I8.dh (pins':=[]) λ p hp=>nomatch hp).turned (it:=s.heap.objs.size) (t':=s8.toks) (h':=s8.heap.update s.heap.objs.size (Obj.mapSeq λ xs=>xs.push v)) (λ b o hb e=>(Heap.get?_update_other s8.heap _ (Ne.symm hb)).trans e) b8 D_loc (.inr (by rw[hYs];exact Nat.le_refl _)) D_cell D_pin;have ep:us.toArray.push v=(us++[v]).toArray:=by simp
    rw[ep] at qu;refine⟨m',hm',i+1,ys++[y],σ6,H8,us++[v],(if (us++[v]).toArray.size==us.toArray.size then k else k+1),I9,T.keep _ _ _ c8 λ b hb o e=>(Heap.get?_update_other s8.heap _ (Ne.symm (below b (hfb b hb)).2)).trans e,d8,b8,?_,hv'.append (.cons r8 .nil),?_,w8⟩
    ·exact qu
    ·rw[List.length_append,List.length_singleton];omega
 exact codeAny_compStart_list (loop _ rfl) (T.self _ 0 _ _ _ st1 (loop _ rfl))
theorem ahd{wi:TI}(hc:X.calm=true)(L:px X sc own fr)(hi:PI X tg iter wi)
  (hg:∀ cl C s H ex pl,PG (ou X sc (lcN X own fr) cl C s H ex pl) tg g)(ht:∀ cl C s H ex pl,PTs (ou X sc (lcN X own fr) cl C s H ex pl) ifs tt)(he:∀ cl C s H ex pl,PE (ou X sc (lcN X own fr) cl C s H ex pl) elt te)
  (hs:∀ x,foldedSetIterable iter X.env x=pure x:=by intro _;rfl):PE X (.ListComp elt [⟨tg,iter,ifs,0⟩] sc pos) (tLC wi g tt te own.length fr):=by
 intro pins s σ H Q I h;obtain⟨cl,hcl,c1,c2⟩:=gc (scope:=sc) (env:=X.env) λ x hx hf=>I.ok.has x.1 (L.free x hx hf);rw[eval_ListComp];refine wpAny_comprehension_free (use:=none) (g:=⟨tg,iter,ifs,0⟩) (gs:=[]) rfl hs hcl L.kind L.names ?_;refine thn (hi pins s σ H _ I h) λ v s1 h1=>thn h1 λ itv s2 h2=>?_;obtain⟨it,fp,tn,J,H2,e,I2,T,st2,f2,W,w0,turn⟩:=h2;subst e;refine aas (cl:=cl) hc L c1 c2 hg ht he I2 T st2 f2 w0 turn λ D C s' H' ys us n m I' a' hv hz hD hC dD dC hDC hns fin=>?_;refine⟨m,hns,λ h' sb=>?_⟩;have far:∀ b,s2.heap.objs.size<=b->(X.s₀.heap.objs.size<=b)/\b≠X.env.locals/\(∀ x c,X.env.cells.lookup x=some c->c≠b)/\∀ p∈X.pn++pins,p.1≠b:=λ b hb=>by obtain⟨_,f1,_,f3,f4,f5⟩:=I2.n4 (H':=λ _=>none) hb rfl;refine⟨Nat.le_trans I2.sz hb,f1,f4,f5⟩
 obtain⟨z1,z2,z3,z4⟩:=far C dC;obtain⟨y1,y2,y3,y4⟩:=far D dD;have I3:Inv X pins σ H' {s' with heap:=h'}:=I'.turned (t':=s'.toks) (λ b o hb e=>sb.extBut b o hb e) hC z2 (.inr z1) z3 z4;exact⟨.ref D,_,I3.adI (sb.extBut _ _ hDC a') hD hv hz y1 y2 y3 y4,rfl,fin D hD⟩
end
end L2
namespace D
open L2
section
variable {X:Cx}{sc:Scope}{own:List Str}{fr:List Nat}{di:TId}{g:TGd}{tt:TTd}{te:TD}{tg iter elt:Expr}{ifs:List Expr}{pos:Pos}
theorem adT(hc:X.calm=true)(L:px X sc own fr)(hi:PId X tg iter di)
  (hg:∀ cl C s H ex pl,PGd (ou X sc (lcN X own fr) cl C s H ex pl) tg g)(ht:∀ cl C s H ex pl,ud (ou X sc (lcN X own fr) cl C s H ex pl) ifs tt)(he:∀ cl C s H ex pl,PD (ou X sc (lcN X own fr) cl C s H ex pl) elt te)
  (hs:∀ x,foldedSetIterable iter X.env x=pure x:=by intro _;rfl):PD X (.ListComp elt [⟨tg,iter,ifs,0⟩] sc pos) (dLC di g tt te own.length fr):=
 gp (oY (ahd hc L hi hg ht he hs)) λ σ H Q h=>yU h
def abP(sc scX:Scope)(N:List Str)(fr:List Nat):Bool:=
 (sc.kind==.function)&&sc.names.all (λ y=>!(y.2==.cell) || sc.names.lookup y.1==some .cell)&&sc.names.all (λ y=>!(y.2==.free) || scX.names.lookup y.1==some .cell || scX.names.lookup y.1==some .free) &&
  sc.names.all (λ y=>!(y.2==.local) || sc.names.lookup y.1==some .local)&&acY N sc fr
theorem afg{X:Cx}{sc:Scope}{own:List Str}{fr:List Nat}(h:abP sc X.env.scope X.N fr=true):px X sc own fr:=by
 simp only[abP,Bool.and_eq_true] at h;obtain⟨⟨⟨⟨h1,h2⟩,h3⟩,h4⟩,h5⟩:=h;refine⟨eq_of_beq h1,λ y hy e=>?_,λ y hy e=>?_,λ y hy e=>?_,h5⟩
 ·have:=List.all_eq_true.mp h3 y hy;simp only[e,beq_self_eq_true,Bool.not_true,Bool.false_or,Bool.or_eq_true] at this;rcases this with z | z
  ·exact .inl (eq_of_beq z)
  ·exact .inr (eq_of_beq z)
 ·have:=List.all_eq_true.mp h4 y hy;simp only[e,beq_self_eq_true,Bool.not_true,Bool.false_or] at this;exact eq_of_beq this
 ·have:=List.all_eq_true.mp h2 y hy;simp only[e,beq_self_eq_true,Bool.not_true,Bool.false_or] at this;exact eq_of_beq this
end
theorem yN{X:Cx}{sc:Scope}{own:List Str}{fr:List Nat}{di:TId}{g:TGd}{tt:TTd}{te:TD}{tg iter elt:Expr}{ifs:List Expr}{pos:Pos}(hc:X.calm=true)(L:px X sc own fr)(hi:Jd (PId X tg iter di))
  (hg:∀ cl C s H ex pl,Jd (PGd (ou X sc (lcN X own fr) cl C s H ex pl) tg g))(ht:∀ cl C s H ex pl,Jd (ud (ou X sc (lcN X own fr) cl C s H ex pl) ifs tt))(he:∀ cl C s H ex pl,Jd (PD (ou X sc (lcN X own fr) cl C s H ex pl) elt te))
  (hs:∀ x,foldedSetIterable iter X.env x=pure x:=by intro _;rfl):Jd (PD X (.ListComp elt [⟨tg,iter,ifs,0⟩] sc pos) (dLC di g tt te own.length fr)):=
 ⟨D.adT hc L hi.h (λ cl C s H ex pl=>(hg cl C s H ex pl).h) (λ cl C s H ex pl=>(ht cl C s H ex pl).h) (λ cl C s H ex pl=>(he cl C s H ex pl).h) hs⟩
open HT
def ai1(lo:Int)(n:Nat):It:=⟨λ i _=>i<n,λ i H x H'=>H'=H/\x=.int (lo+i * (-2)),λ i _=>n<=i⟩
theorem qU{P:Program}{w:World}{K:FG}{tg:Expr}(it:Addr)(lo:Int)(n:Nat):Turn P w K tg (ai1 lo n) [it] it (λ i h=>IsRangeIter h it (lo+(i:Nat) * (-2)) ((n:Int)-(i:Nat)) (-2)) where
 mem:=by simp
 obj:=λ i h st b hb=>by
  have e:b=it:=by simpa using hb
  subst e;exact⟨_,st,λ v z=>by have z':Data.fields _=Data.cell v:=z;cases z'⟩
 keep:=λ i h h' st k=>k it (by simp) _ st
 item:=by intro X hP hw hK hc i pins s σ H E I hf st hg;subst hP hw hK;obtain⟨f0,f1,f2,f3,f4,f5⟩:=hf it (by simp);have W:=Walks.range (prog:=X.prog) (w:=X.w) (I.ok.hd hc) it lo (-2) n;refine W.item i s _ _ hg st λ v h' tk hv st' kk=>?_;obtain⟨t,rfl⟩:=hv;have I1:Inv X pins σ H {s with heap:=h',toks:=tk}:=I.turned (λ b o hb e=>kk b o (by simpa using hb) e) f0 f1 f3 f4 f5;exact⟨_,rfl,qi (s:={s with heap:=h',toks:=tk}) (n:= "range_iterator") st' rfl rfl (by decide) ⟨.int (lo+i * (-2)),H,I1,⟨t,rfl⟩,⟨rfl,rfl⟩,st',λ b hb=>(hf b hb).1⟩⟩
 done:=by intro X hP hw hK hc i pins s σ H E I hf st hg;subst hP hw hK;obtain⟨f0,f1,f2,f3,f4,f5⟩:=hf it (by simp);exact wpAny_pyNext_range_end (I.ok.hd hc) st (by have:n<=i:=hg;omega) λ h' eb=>⟨rfl,I.turned (t':=s.toks) (λ b o hb e=>eb b o hb e) f0 f1 f3 f4 f5⟩
 self:=λ _ _ _ _ _ st h=>wpAny_pyIter_rangeiter st h
section
variable {X:Cx}{tg a b c:Expr}{p pos:Pos}
theorem lS(k:Nat):Builtin.Range.rangeSize (2 * (k:Int)-1) 0 (-2)=k:=by
 unfold Builtin.Range.rangeSize;rw[if_neg (by decide)]
 split
 ·have:(-(-2):Int)=2:=by decide
  simp only[this];omega
 ·omega
theorem rQ{k:Nat}(h1:k<=500):Builtin.Range.small (2 * (k:Int)-1) 0 (-2)=true:=by
 have hm:(1000:Int)<2 ^ 62:=by decide
 unfold Builtin.Range.small;rw[lS k];simp only[Builtin.Range.rangeFitsLong,Bool.and_eq_true,Bool.or_eq_true,decide_eq_true_eq,beq_iff_eq];exact⟨⟨⟨⟨⟨by omega,by omega⟩,by decide,by decide⟩,by decide,by decide⟩,by omega,by omega⟩,.inr (by decide)⟩
def aiq(ta:TA):TI:=λ σ H R=>ta σ H λ vs H1=>∃ k:Nat,vs=[.int (2 * (k:Int)-1),.int 0,.int (-2)]/\k<=500/\R (ai1 (2 * (k:Int)-1) k) H1
theorem yK{ta:TA}(hg:Gl X "range")(hm:X.mg "range" = none)(ha:PA X [a,b,c] ta)(hs:starEach [a,b,c] X.env=(false,eval a X.env)::starEach [b,c] X.env:=by rfl)(hpl:(backTo pos (starEach [b,c] X.env)).any (·.1)=false:=by rfl) :
  PI X tg (.Call (.Name "range" p) [a,b,c] [] pos) (aiq ta):=by
 intro pins s σ H R I h;refine Call_ (eP I hg hm boot_range (PyProof.Rows.callWith_type1 (thn (ha pos pins s σ H _ I h) λ us s1 ⟨vs,H1,I1,r1,q1⟩=>?_) hs hpl));obtain⟨n,e,q1,q⟩:=q1;subst e;cases r1 with
 | cons r rr =>
  cases rr with
  | cons r' rr =>
   cases rr with
   | cons r'' rr =>
    cases rr;obtain⟨t,rfl⟩:=r;obtain⟨t',rfl⟩:=r';obtain⟨t'',rfl⟩:=r'';refine call_range_3 (by decide) ?_ (Or.inl (PyProof.noPylong_small (by decide)));refine wpAny_pyIter_range (IsRange.new ..) (rQ q1) ?_;have I2:Inv X pins σ H1 {s1 with heap:=s1.heap.push {cls:=.type "range",data:=.fields #[.int (2 * (n:Int)-1) t,.int 0 t',.int (-2) t'']}}:=I1.kept (t':=s1.toks) λ b o e=>Heap.get?_push_of_some _ e;refine⟨_,[_],_,_,H1,rfl,I2.kept (t':=s1.toks) λ b o e=>Heap.get?_push_of_some _ e,qU _ (2 * (n:Int)-1) n,?_,λ b hb=>?_,q⟩
    ·have e1:(2 * (n:Int)-1)+((0:Nat):Int) * (-2)=2 * (n:Int)-1:=by simp
     have e2:((n:Nat):Int)-((0:Nat):Int)=Builtin.Range.rangeSize (2 * (n:Int)-1) 0 (-2):=by rw[lS n];omega
     show IsRangeIter _ _ ((2 * (n:Int)-1)+((0:Nat):Int) * (-2)) (((n:Nat):Int)-((0:Nat):Int)) (-2);rw[e1,e2];exact Heap.get?_push_size _ rfl
    ·rw[List.mem_singleton] at hb;rw[hb];exact I2.n4 (Nat.le_refl _) (I2.hok.fresh (Nat.le_refl _))
def k8(n:Nat):List W:=(List.range n).map λ i=>.d (.int (2 * (n:Int)-1-2 * (i:Nat)))
def agb(t:TAd)(τ:DS)(M:MH)(R:List W->MH->Prop):Prop:=t τ M λ ws M1=>∃ n:Nat,ws=[.d (.int (2 * (n:Int)-1)),.d (.int 0),.d (.int (-2))]/\n<=500/\R (k8 n) M1
end
section
variable {P:Program}{w:World}{A:Around}{R:Result->Shared->Prop}{it l S:Addr}{its:List Value}{ns:List Int}{kw:List (Str×Value)}
def Gst(ns:List Int)(j:Nat)(m:Int):Prop:=m∈ns.take j/\∀ x∈ns.take j,x<=m
theorem Gst.next{j:Nat}{m n:Int}(h:Gst ns j m)(e:ns[j]? =some n):Gst ns (j+1) (if m<n then n else m):=by
 have ht:ns.take (j+1)=ns.take j++[n]:=by rw[List.take_succ,e];rfl
 unfold Gst;rw[ht];constructor
 ·split
  ·simp
  ·exact List.mem_append_left _ h.1
 ·intro x hx;rcases List.mem_append.mp hx with hx | hx
  ·have:=h.2 x hx
   split<;>omega
  ·rw[List.mem_singleton.mp hx]
   split<;>omega
theorem uq(hh:A.handled=none)(hlI:l≠it)(hSI:S≠it)(hSl:S≠l)(hI:IntsAre its ns) :
  ∀ (r j:Nat) (s:Shared) (m:Int) (tb:Tok) (c:Nat),its.length-(j+1)=r->j+1<=its.length->s.heap.IsListIter it l (j+1)->s.heap.IsList l its.toArray->Gst ns (j+1) m ->
   s.heap.get? S=some (seqObj "list" #[.int m tb,.int m tb] c) ->
   (∀ (m:Int) (t:Tok) (h':Heap) (tk:Nat),Gst ns its.length m->(∀ b o,b≠it->b≠S->s.heap.get? b=some o->h'.get? b=some o)->R (.ok (.ret (.int m t))) {s with heap:=h',toks:=tk}) ->
   codeAny (model P w) A (.builtin "max.loop" ⟨[.ref it,.none,.ref S],kw⟩) R s:=by
 have nm:(toString "max" ++ toString ".loop" : String) = "max.loop":= by decide
 have Wk:=Walks.list (prog:=P) (w:=w) (A:=A.in1) hh it l hlI its.toArray;intro r
 induction r with
 | zero =>
  intro j s m tb c hr hj gI gl hL gS fin;have hin:j+1=its.length:=by omega
  refine codeAny_builtin PySem.F.entry_max_loop ?_;rw[Around.under_plainId PySem.F.plain_max_loop _];show wpAny _ A.in1 (seqItems? (.ref S) >>= _) _ _ _;refine wpAny_bind (wpAny_seqItems gS rfl ?_);show wpAny _ A.in1 (tryCatch (pyNext (.ref it)) _ >>= _) _ _ _;refine wpAny_bind (wpAny_tryCatch (Wk.done _ _ _ ⟨by rw[List.size_toArray,<- hin];exact gI,gl⟩ λ h' tk' hk'=>?_));have gS':=hk' S _ (by simpa using hSI) gS;have s1:=Heap.SameBut.update h' S (Obj.mapSeq λ _=>(#[]:Array Value));show wpAny _ A.in1 (updateSeq S (λ _=>#[]) >>= _) _ _ _;refine wpAny_bind (wpAny_updateSeq gS' rfl (wpAny_bind (wpAny_letGo (wpAny_pure ?_))));exact fin m tb _ tk' (hin ▸ hL) λ b o h1 h2 e=>(s1.2 b h2).trans (hk' b o (by simpa using h1) e)
 | succ r ih =>
  intro j s m tb c hr hj gI gl hL gS fin;have hlt:j+1<its.length:=by omega
  refine codeAny_builtin PySem.F.entry_max_loop ?_;rw[Around.under_plainId PySem.F.plain_max_loop _];show wpAny _ A.in1 (seqItems? (.ref S) >>= _) _ _ _;refine wpAny_bind (wpAny_seqItems gS rfl ?_);show wpAny _ A.in1 (tryCatch (pyNext (.ref it)) _ >>= _) _ _ _;refine wpAny_bind (wpAny_tryCatch (Wk.item (j+1) _ _ _ (by rw[List.size_toArray];exact hlt) ⟨gI,gl⟩ λ u2 h' tk' hP hst hk'=>?_));obtain⟨n,t2,hn,rfl⟩:=qt hI (j+1) u2 (by simpa using hP);have gS1:=hk' S _ (by simpa using hSI) gS;obtain⟨oI,goI,coI,doI⟩:=id hst.1;have hN:=hL.next hn;show wpAny _ A.in1 (tryCatch (holding [.int n t2,.int n t2] (richCompare .Gt (.int n t2) (.int m tb) >>= _)) _ >>= _) _ _ _;have cmp:∀ (s:Shared) (Q:VP) (E:VP),Q (.bool (decide (m<n))) s->wpAny (model P w) A.in1 (richCompare .Gt (.int n t2) (.int m tb)) Q E s:=λ s Q E h =>
   CmpOf.ints_gt (prog:=P) (w:=w) (A:=A.in1) (P:=λ i v=>∃ t,v=.int (if i=0 then n else m) t) (λ i=>if i=0 then n else m) (λ i v h=>h) 0 1 _ _ s Q E ⟨t2,rfl⟩ ⟨tb,rfl⟩ h
  refine wpAny_bind (wpAny_tryCatch (wpAny_holding (wpAny_bind (cmp _ _ _ ?_))));refine wpAny_bind (wpAny_holding (wpAny_truthy_bool (wpAny_bind (wpAny_letGo (wpAny_pure ?_)))))
  by_cases hb':m<n
  ·rw[if_pos hb'] at hN;have s1:=Heap.SameBut.update h' S (Obj.mapSeq λ _=>#[Value.int n t2,.int n t2]);obtain⟨c2,hc2⟩:∃ c2,(h'.update S (Obj.mapSeq λ _=>#[Value.int n t2,.int n t2])).get? S=some (seqObj "list" #[.int n t2,.int n t2] c2):=⟨_,get?_update_seq gS1 λ _=>#[Value.int n t2,.int n t2]⟩;simp only[hb',decide_true,if_true];refine wpAny_bind (wpAny_updateSeq gS1 rfl (wpAny_bind (wpAny_letGo ?_)));rw[nm];refine wpAny_pure ⟨plainId_quiet PySem.F.plain_max_loop _,ih (j+1) _ n t2 c2 (by omega) hlt ⟨oI,(s1.2 it hSI.symm).trans goI,coI,doI⟩ (hst.2.at λ o e=>(s1.2 l (Ne.symm hSl)).trans e) hN hc2 λ m' t' h2 tk2 hm hk2=>fin m' t' h2 tk2 hm λ b o h1 h3 e=>hk2 b o h1 h3 ((s1.2 b h3).trans (hk' b o (by simpa using h1) e))⟩
  ·rw[if_neg hb'] at hN;simp only[hb',decide_false,Bool.false_eq_true,if_false];refine wpAny_bind (wpAny_letGo ?_);rw[nm];exact wpAny_pure ⟨plainId_quiet PySem.F.plain_max_loop _,ih (j+1) _ m tb c (by omega) hlt ⟨oI,goI,coI,doI⟩ hst.2 hN gS1 λ m' t' h2 tk2 hm hk2=>fin m' t' h2 tk2 hm λ b o h1 h3 e=>hk2 b o h1 h3 (hk' b o (by simpa using h1) e)⟩
theorem wV(a v:Value):argsOk "max" ⟨[a],[(Str.ofString "default",v)]⟩:=by unfold argsOk;kernel_rfl
theorem aai{s:Shared}{d:Value}{Q:VP}{E:VP}(hh:A.handled=none)(hl:s.heap.IsList l its.toArray)(hI:IntsAre its ns)
  (fin:∀ (m:Int) (t:Tok) (h':Heap) (tk:Nat),Gst ns its.length m->(∀ b o,s.heap.get? b=some o->h'.get? b=some o)->Q (.int m t) {s with heap:=h',toks:=tk})
  (none:its=[]->∀ (h':Heap) (tk:Nat),(∀ b o,s.heap.get? b=some o->h'.get? b=some o)->Q d {s with heap:=h',toks:=tk}) :
  wpAny (model P w) A (call (.builtin "max") [.ref l] [(Str.ofString "default",d)]) Q E s:=by
 have nm:(toString "max" ++ toString ".loop" : String) = "max.loop":= by decide
 obtain⟨ol,hol,_⟩:=id hl;have hll:l<s.heap.objs.size:=Heap.lt_size hol;refine kmk_tree PySem.F.kind_max PySem.F.plain_max PySem.F.entry_max (wV _ _) ?_;show wpAny _ A.in1 (Builtin.Builtins.bindParams "max" ["key", "default"] 0 ⟨[],[(Str.ofString "default",d)]⟩ >>= _) _ _ s;refine wpAny_bind (wpAny_of_eq (show Builtin.Builtins.bindParams "max" ["key", "default"] 0 ⟨[],[(Str.ofString "default",d)]⟩=pure [.none,some d] from rfl) (wpAny_bind (wpAny_pure ?_)));refine wpAny_bind (wpAny_pyIter_list hl (wpAny_bind (wpAny_newList ?_ (Nat.zero_le _))));rw[nm];generalize hit:s.heap.objs.size=it;have hS:(s.heap.push {cls:=.type "list_iterator",data:=.fields #[.ref l,.int 0 0]}).objs.size=it+1:=by rw[<- hit];exact size_push' ..
 rw[hS];have gI:((s.heap.push {cls:=.type "list_iterator",data:=.fields #[.ref l,.int 0 0]}).push (seqObj "list" #[] 0)).get? it=some {cls:=.type "list_iterator",data:=.fields #[.ref l,.int 0 0]}:=Heap.get?_push_of_some _ (by rw[<- hit];exact Heap.get?_push_size _ rfl);have gS:((s.heap.push {cls:=.type "list_iterator",data:=.fields #[.ref l,.int 0 0]}).push (seqObj "list" #[] 0)).get? (it+1)=some (seqObj "list" #[] 0):=by rw[<- hS];exact Heap.get?_push_size _ rfl
 refine wpAny_pure ⟨plainId_quiet PySem.F.plain_max_loop _,?_⟩;generalize hH:(s.heap.push {cls:=.type "list_iterator",data:=.fields #[.ref l,.int 0 0]}).push (seqObj "list" #[] 0)=hp at gI gS;have kp:∀ b o,s.heap.get? b=some o->hp.get? b=some o:=λ b o e=>by rw[<- hH];exact Heap.get?_push_of_some _ (Heap.get?_push_of_some _ e)
 have old:∀ b o,s.heap.get? b=some o->b≠it/\b≠it+1:=λ b o e=>by have:=Heap.lt_size e;rw[hit] at this;exact⟨Nat.ne_of_lt this,Nat.ne_of_lt (Nat.lt_succ_of_lt this)⟩
 have hlI:l≠it:=(old l _ hol).1;have hlst:hp.IsList l its.toArray:=hl.at λ o e=>kp l o e;have Wk:=Walks.list (prog:=P) (w:=w) (A:=A.in1) hh it l hlI its.toArray;refine codeAny_builtin PySem.F.entry_max_loop ?_;rw[Around.under_plainId PySem.F.plain_max_loop _];show wpAny _ A.in1 (seqItems? (.ref (it+1)) >>= _) _ _ _;refine wpAny_bind (wpAny_seqItems gS rfl ?_);show wpAny _ A.in1 (tryCatch (pyNext (.ref it)) _ >>= _) _ _ _
 by_cases h0:0<its.length
 ·refine wpAny_bind (wpAny_tryCatch (Wk.item 0 _ _ _ (by rw[List.size_toArray];exact h0) ⟨⟨_,gI,rfl,rfl⟩,hlst⟩ λ u2 h' tk' hP hst hk'=>?_));obtain⟨n,t2,hn,rfl⟩:=qt hI 0 u2 (by simpa using hP);have gS1:=hk' (it+1) _ (by simp) gS;obtain⟨oI,goI,coI,doI⟩:=id hst.1;have s1:=Heap.SameBut.update h' (it+1) (Obj.mapSeq λ _=>#[Value.int n t2,.int n t2]);obtain⟨c2,hc2⟩:∃ c2,(h'.update (it+1) (Obj.mapSeq λ _=>#[Value.int n t2,.int n t2])).get? (it+1)=some (seqObj "list" #[.int n t2,.int n t2] c2):=⟨_,get?_update_seq gS1 λ _=>#[Value.int n t2,.int n t2]⟩;show wpAny _ A.in1 (updateSeq (it+1) (λ _=>#[.int n t2,.int n t2]) >>= _) _ _ _;refine wpAny_bind (wpAny_updateSeq gS1 rfl ?_);rw[nm];have hL:Gst ns 1 n:=by
   have e:ns.take 1=[n]:=by
    cases ns with
    | nil=>simp at hn
    | cons a as=>simp at hn;subst hn;rfl
   unfold Gst;rw[e];exact⟨by simp,λ x hx=>by rw[List.mem_singleton.mp hx];exact Int.le_refl _⟩
  exact wpAny_pure ⟨plainId_quiet PySem.F.plain_max_loop _,uq (l:=l) hh hlI (by simp) (λ z=>(old l _ hol).2 z.symm) hI _ 0 _ n t2 c2 rfl h0 ⟨oI,(s1.2 it (by simp)).trans goI,coI,doI⟩ (hst.2.at λ o e=>(s1.2 l (old l _ hol).2).trans e) hL hc2 λ m t h2 tk2 hm hk2=>fin m t h2 tk2 hm λ b o e=>hk2 b o (old b o e).1 (old b o e).2 ((s1.2 b (old b o e).2).trans (hk' b o (by simpa using (old b o e).1) (kp b o e)))⟩
 ·have e0:its=[]:=List.length_eq_zero_iff.mp (by omega);refine wpAny_bind (wpAny_tryCatch (Wk.done _ _ _ ⟨by rw[List.size_toArray,e0];exact⟨_,gI,rfl,rfl⟩,hlst⟩ λ h' tk' hk'=>?_));show wpAny _ A.in1 (rule _ >>= _) _ _ _;exact wpAny_bind (wpAny_rule (wpAny_pure (none e0 h' tk' λ b o e=>hk' b o (by simpa using (old b o e).1) (kp b o e))))
end
section
variable {X:Cx}{K:FG}{e:Expr}{te:TE}{p pos kpos kp:Pos}{j:Nat}{i:Int}
def ahB(K:FG)(i:Int)(te:TE):TE:=λ σ H Q=>te σ H λ x H1=>∃ a,∃ ns:List Int,x=.ref a/\SqL K H1 a (ns.map V.int)/\(ns=[]->Q (.int i) H1)/\∀ m,m∈ns->(∀ y∈ns,y<=m)->Q (.int m) H1
theorem adh(hc:X.calm=true)(hg:Gl X "max")(hm:X.mg "max" = none)(he:PE X e te)(hs:gB e=false:=by rfl) :
  PE X (.Call (.Name "max" p) [e] [⟨some "default",.Constant (.int i) j kp,kpos⟩] pos) (ahB X.K i te):=by
 intro pins s σ H Q I h;have pa:PA X [e] (kI te yZ):=iS he lQ (cE e [] X.env hs);have pk:PK X [⟨some "default",.Constant (.int i) j kp,kpos⟩] (kI (tC (.int i)) yZ):=ni yb wk;refine wpAny_Call_Name_kw (eP I hg hm afc (callWith_kw ?_ (by rw[cE e [] X.env hs];rfl) (by rw[cE e [] X.env hs];rfl)));refine thn (pa pos pins s σ H (λ vs H2=>match vs with
  | [x]=>∃ a,∃ ns:List Int,x=.ref a/\SqL X.K H2 a (ns.map V.int)/\(ns=[]->Q (.int i) H2)/\∀ m,m∈ns->(∀ y∈ns,y<=m)->Q (.int m) H2
  | _=>False) I h) λ us s1 ⟨vs,H2,I1,r1,hx⟩=>?_
 match vs,r1,hx with
 | [x],r1,⟨a,ns,ex,hq,q0,q⟩ =>
  subst ex;obtain⟨u,rfl,ru⟩:=vals1 r1;cases ru;refine thn (pk pos pins s1 σ H2 (λ ks H3=>ks=[.int i]/\H3=H2) I1 ⟨rfl,rfl⟩) λ kus s2 hq120=>?_;obtain⟨ks,H3,I2,r2,ek,eH⟩:=hq120;subst ek eH;obtain⟨ku,rfl,rk⟩:=vals1 r2;obtain⟨ti,rfl⟩:∃ ti,ku=Value.int i ti:=rk;show wpAny _ _ (call (.builtin "max") [.ref a] [(Str.ofString "default",.int i ti)]) _ _ s2;obtain⟨its,rv,pl,hz⟩:=I2.list hq;obtain⟨ps,e1,e2⟩:=ny rv;have hI:IntsAre its ns:=by
   subst e1;rw[<- e2];clear rv pl hz hq q0 q e2 h r1
   induction ps with
   | nil=>exact .nil
   | cons a as ih=>exact .cons _ _ ih
  have hln:its.length=ns.length:=hI.length;refine aai (I.ok.hd hc) pl.isList hI (λ m t h' tk hm kk=>?_) λ e0 h' tk kk=>?_
  ·rw[hln] at hm;unfold Gst at hm;rw[List.take_of_length_le (Nat.le_refl _)] at hm;exact⟨.int m,H3,I2.kept kk,⟨t,rfl⟩,q m hm.1 hm.2⟩
  ·exact⟨.int i,H3,I2.kept kk,⟨ti,rfl⟩,q0 (List.length_eq_zero_iff.mp (by rw[<- hln,e0];rfl))⟩
 | [],_,hx=>exact hx.elim
 | _::_::_,_,hx=>exact hx.elim
def ad3(i:Int)(td:TD)(τ:DS)(M:MH)(Q:QD):Prop:=td τ M λ w M1=>∃ ns:List Int,w=.d (.list (ns.map PyData.int))/\(ns=[]->Q (.d (.int i)) M1)/\∀ m,m∈ns->(∀ y∈ns,y<=m)->Q (.d (.int m)) M1
end
def ev2{α:Type}:List α->List α
 | []=>[]
 | [x]=>[x]
 | x::_::r=>x::ev2 r
theorem mP{α:Type}:∀ l:List α,(ev2 l).length=(l.length+1) / 2
 | []=>by simp[ev2]
 | [x]=>by simp[ev2]
 | x::y::r=>by simp only[ev2,List.length_cons,mP r];omega
theorem abo{α:Type}:∀ (l:List α) (m:Nat),(ev2 l)[m]? =l[m * 2]?
 | [],m=>by simp[ev2]
 | [x],0=>rfl
 | [x],m+1=>by rw[show(m+1) * 2=m * 2+1+1 by omega];simp[ev2]
 | x::y::r,0=>by simp[ev2]
 | x::y::r,m+1=>by rw[show(m+1) * 2=m * 2+1+1 by omega];simp only[ev2,List.getElem?_cons_succ];exact abo r m
theorem ah3{α:Type}(xs:Array α):((List.range ((xs.size+1) / 2)).filterMap λ(m:Nat)=>xs[((0:Int)+(m:Int) * 2).toNat]?).toArray=(ev2 xs.toList).toArray:=by
 have e:(λ(m:Nat)=>xs[((0:Int)+(m:Int) * 2).toNat]?)=λ m=>(ev2 xs.toList).toArray[m]?:=by
  funext m;rw[show((0:Int)+(m:Int) * 2).toNat=m * 2 by omega];simp[abo]
 rw[e];have:=pick_run (ev2 xs.toList).toArray 0 ((xs.size+1) / 2);rw[List.filterMap_map] at this;have e2:((λ x=>(ev2 xs.toList).toArray[x]?) ∘ λ x=>0+x)=λ m=>(ev2 xs.toList).toArray[m]?:=by
  funext m;simp
 rw[e2] at this;rw[this];congr 1;rw[List.drop_zero];exact List.take_of_length_le (by rw[mP];simp)
section
variable {prog:Program}{w:World}{A:Around}{E:VP}{s:Shared}
theorem adi(n:Nat):Builtin.Slice.slicePlaces 0 (n:Int) 2=(n+1) / 2:=by
 unfold Builtin.Slice.slicePlaces;have h1:(2:Int) > 0:=by omega
 simp only[h1,if_true]
 split<;>omega
theorem mX{sl:Addr}{t:Tok}{n:Nat}{Q:Int×Int×Nat->Shared->Prop}(hs:s.heap.IsSliceOf sl .none .none (.int 2 t))
  (h:Q (0,2,(n+1) / 2) s):wpAny (model prog w) A (Builtin.Slice.sliceApplied (.ref sl) (pure (n:Int))) Q E s:=by
 obtain⟨os,hos,hcs,hds⟩:=id hs;unfold Builtin.Slice.sliceApplied Builtin.Slice.sliceFields;refine wpAny_bind (wpAny_bind (wpAny_field hos hds (x:=.none) rfl (wpAny_bind (wpAny_field hos hds (x:=.none) rfl (wpAny_bind (wpAny_field hos hds (x:=.int 2 t) rfl (wpAny_pure ?_)))))));refine wpAny_bind (slicePart_int ?_);show wpAny _ _ (if ((2:Int)==0)=true then _ else _) _ _ s;rw[if_neg (by decide)];refine wpAny_bind (slicePart_none (wpAny_bind (slicePart_none (wpAny_bind (wpAny_pure ?_)))));show wpAny _ _ (pure ((0:Int),(2:Int),Builtin.Slice.slicePlaces (0:Int) ((n:Nat):Int) 2)) _ _ s;rw[adi];exact wpAny_pure h
theorem jt{t sl:Addr}{items:Array Value}{tk:Tok}{Q:VP}(ht:IsTup s.heap t items)(hs:s.heap.IsSliceOf sl .none .none (.int 2 tk))
  (h:Q (.ref s.heap.objs.size) {s with heap:=s.heap.push {cls:=.type "tuple",data:=.seq (ev2 items.toList).toArray}})
  (hsz:items.size<=sizeLine):wpAny (model prog w) A (getItem (.ref t) (.ref sl)) Q E s:=by
 have htake:sizeOk (.seq (ev2 items.toList).toArray):=by show(ev2 items.toList).toArray.size<=sizeLine;rw[List.size_toArray,mP,Array.length_toList];omega
 obtain⟨os,hos,hcs,hds⟩:=id hs;have hTs:s.TypeIs (.ref sl) "slice":= ⟨os,hos,hcs⟩;unfold getItem
 try with_reducible refine wpAny_holding ?_
 first | refine wpAny_bind (wpAny_pure ?_) | skip
 refine wpAny_bind (wpAny_sequenceKey ht.typeIs (by decide) ?_);refine wpAny_bind (wpAny_callSpecial?_slot (name:=Str.ofString "__getitem__") ht.typeIs PyProof.Rows.slot_tuple_getitem
  (wpAny_call_entry PyProof.Rows.slot_tuple_getitem ht.typeIs entry_tuple_getitem ?_ (args_tuple_getitem _ _)))
 show wpAny _ _ (Builtin.Tuple.tupleItemsOf (.ref t) >>= _) _ _ s;refine wpAny_bind (tupleItemsOf_ ht ?_);refine wpAny_bind (wpAny_typeOf hTs ?_);rw[if_pos (by decide)];refine wpAny_bind (mX hs ?_);have hno:¬ (((0:Int)==0&&(2:Int)==1&&((items.size+1) / 2)==items.size)=true):=by intro q;rw[Bool.and_eq_true,Bool.and_eq_true] at q;exact absurd q.1.2 (by decide)
 show wpAny _ _ (if ((0:Int)==0&&(2:Int)==1&&((items.size+1) / 2)==items.size)=true then _ else _) _ _ s;rw[if_neg hno,ah3]
 first
  | exact wpAny_bind (m:=Builtin.Tuple.tupleExact _) (wpAny_newObj_type (wpAny_pure ⟨_,rfl,wpAny_pure h⟩) htake)
  | exact wpAny_bind (m:=Builtin.Tuple.tupleExact _) (wpAny_newObj_type (wpAny_bind (wpAny_pure (wpAny_pure ⟨_,rfl,wpAny_pure h⟩))) htake)
  | exact wpAny_bind (wpAny_bind (m:=Builtin.Tuple.tupleExact _) (wpAny_newObj_type (wpAny_pure (wpAny_pure ⟨_,rfl,wpAny_pure h⟩)) htake))
  | exact wpAny_bind (wpAny_bind (m:=Builtin.Tuple.tupleExact _) (wpAny_newObj_type (wpAny_pure ⟨_,rfl,wpAny_pure h⟩) htake))
end
section
variable {X:Cx}{e:Expr}{te:TE}{j:Nat}{cp pos p2:Pos}
theorem xg:∀ {xs:List V} {us:List Value},Vals xs us->Vals (ev2 xs) (ev2 us)
 | _,_,.nil=>.nil
 | _,_,.cons r .nil=>.cons r .nil
 | _,_,.cons r (.cons _ t)=>.cons r (xg t)
def tEv(K:FG)(te:TE):TE:=λ σ H Q=>te σ H λ x H1=>∃ a xs,x=.ref a/\SqT K H1 a xs/\∀ p,H1 p=none->Q (.ref p) (upd H1 p (.tup (ev2 xs)))
theorem aip(he:PE X e te):PE X (.Subscript e (.Slice none none (some (.Constant (.int 2) j cp)) p2) pos) (tEv X.K te):=by
 intro pins s σ H Q I h;refine Subscript_ (thn (he pins s σ H _ I h) λ v s1 hq123=>?_);obtain⟨x,H1,I1,r1,q1⟩:=hq123;refine wpAny_Slice ?_;rw[evalPart_none];refine wpAny_pure (wpAny_pure (thn (wR (yb (i:=2) (j:=j) (pos:=cp)) pins s1 σ H1 (λ o H2=>o=some 2/\H2=H1) I1 ⟨2,rfl,rfl,rfl⟩) λ vk s3 hq124=>?_));obtain⟨u,H3,I3,pk,eu,eH⟩:=hq124;subst eu eH;obtain⟨a,xs,ex,hq,q⟩:=q1;subst ex;cases pk with
 | int _ tk =>
 obtain rfl:v=Value.ref a:=r1;have I4:Inv X pins σ H3 {s3 with heap:=s3.heap.push {cls:=.type "slice",data:=.fields #[.none,.none,.int 2 tk]}}:=I3.kept (t':=s3.toks) λ b ob q=>Heap.get?_push_of_some _ q;obtain⟨its,r,ht,hz⟩:=I4.tuple hq;have hlen:=r.length;show wpAny (model X.prog X.w) X.A (subscriptTail e (.Slice none none (some (.Constant (.int 2) j cp)) p2) (.ref a) (.ref s3.heap.objs.size)) (EP X pins σ Q) X.xe {s3 with heap:=s3.heap.push {cls:=.type "slice",data:=.fields #[.none,.none,.int 2 tk]}};refine tail_any (ops:=[.ref a,.ref s3.heap.objs.size]) ht.typeIs PyProof.Rows.slot_tuple_getitem.lookup (jt ht (Heap.IsSliceOf.new ..) ?_ (by rw[List.size_toArray]<;>omega)) (by with_unfolding_all rfl);refine⟨.ref _,_,I4.laid (t':=s3.toks) (o:=.tup (ev2 xs)) (λ b ob q=>Heap.get?_push_of_some _ q) (Nat.le_refl _) ?_,rfl,q _ (I4.hok.fresh (Nat.le_refl _))⟩;exact⟨by rw[mP];omega,_,xg r,yY.new _ _⟩
end
section
variable {X:Cx}{K:FG}{e:Expr}{te:TD}{j:Nat}{cp pos p2:Pos}
theorem aO.ev{H:Hp}:∀ {ds:List PyData} {vs:List V},aO K H ds vs->aO K H (ev2 ds) (ev2 vs)
 | [],vs,h=>by simp only[aO] at h;subst h;simp[aO,ev2]
 | [d],vs,h=>by simp only[aO] at h;obtain⟨v,r,e,h1,h2⟩:=h;subst e h2;simp only[ev2,aO];exact⟨v,[],rfl,h1,rfl⟩
 | d::d2::ds,vs,h=>by simp only[aO] at h;obtain⟨v,r,e,h1,v2,r2,e2,h2,h3⟩:=h;subst e e2;simp only[ev2,aO];exact⟨v,_,rfl,h1,aO.ev h3⟩
def dEv(te:TD)(τ:DS)(M:MH)(Q:QD):Prop:=te τ M λ w M1=>∃ ds,w=.d (.tuple ds)/\Q (.d (.tuple (ev2 ds))) M1
end
section
variable {X:Cx}{tg a b c e:Expr}{td te:TD}{p pos kpos kp cp p2:Pos}{j:Nat}{i:Int}
theorem rB{t:TAd}(hg:Gl X "range")(hm:X.mg "range" = none)(ha:Jd (PAd X [a,b,c] t))(h1:gB a=false:=by rfl)(h2:([b,c].all λ e=>!gB e)=true:=by rfl):Jd (PId X tg (.Call (.Name "range" p) [a,b,c] [] pos) (agb t)):=⟨have ha:=ha.h;
 abi (yK hg hm ha (cE a [b,c] X.env h1) (eF pos X.env [b,c] h2)) λ σ H R ⟨τ,M,Rd,A,h,k⟩=>⟨τ,M,_,A,h,λ vs H1 ws M1 kp r m hq118=>by
  obtain⟨n,e,q1,q⟩:=hq118;subst e;obtain⟨v1,v2,v3,e1,r1,r2,r3⟩:∃ v1 v2 v3,vs=[v1,v2,v3]/\ay X.K H1 (.d (.int (2 * (n:Int)-1))) v1/\ay X.K H1 (.d (.int 0)) v2/\ay X.K H1 (.d (.int (-2))) v3:=by
   cases r with
   | cons r1 rr =>
    cases rr with
    | cons r2 rr =>
     cases rr with
     | cons r3 rr =>
      cases rr;exact⟨_,_,_,rfl,r1,r2,r3⟩
  simp only[ay,au] at r1 r2 r3;subst r1 r2 r3;refine⟨n,e1,q1,k _ H1 _ M1 kp m (λ H2 kp2 i=>?_) q⟩;have hl:(k8 n).length=n:=by simp[k8]
  refine⟨λ hi=>by rw[hl] at hi;exact hi,λ hi=>by rw[hl] at hi;exact hi,λ x H' hi hq119=>?_⟩;obtain⟨eH,ex⟩:=hq119;subst ex eH;rw[hl] at hi;refine⟨Kp.refl _,λ M m=>m,.d (.int (2 * (n:Int)-1-2 * (i:Nat))),by simp[k8,hi],?_⟩;simp only[ay,au];congr 1;omega⟩⟩
theorem aaF(hc:X.calm=true)(hg:Gl X "max")(hm:X.mg "max" = none)(he:Jd (PD X e td))(hs:gB e=false:=by rfl) :
  Jd (PD X (.Call (.Name "max" p) [e] [⟨some "default",.Constant (.int i) j kp,kpos⟩] pos) (ad3 i td)):=⟨have he:=he.h;gp (adh hc hg hm he hs) λ σ H Q hq121=>by
 obtain⟨τ,M,Qd,A,h,k⟩:=hq121;refine⟨τ,M,_,A,h,λ x H1 w M1 kp1 r1 m1 hq122=>?_⟩;obtain⟨ns,ew,q0,q⟩:=hq122;subst ew;simp only[ay,au] at r1;obtain⟨a,vs,ex,hsq,ra⟩:=r1;rw[tU ra] at hsq;exact⟨a,ns,ex,hsq.sq,λ e0=>k _ H1 (.d (.int i)) M1 kp1 (by simp[ay,au]) m1 (q0 e0),λ m hm hl=>k _ H1 (.d (.int m)) M1 kp1 (by simp[ay,au]) m1 (q m hm hl)⟩⟩
theorem aa9(he:Jd (PD X e te)):Jd (PD X (.Subscript e (.Slice none none (some (.Constant (.int 2) j cp)) p2) pos) (dEv te)):=⟨have he:=he.h;
 gp (aip he) λ σ H Q h=>by obtain⟨τ,M,Qd,A,h,k⟩:=h;refine⟨τ,M,_,A,h,λ v H1 w M1 kp1 r1 m1 hq125=>?_⟩;obtain⟨ds,ew,q⟩:=hq125;subst ew;simp only[ay,au] at r1;obtain⟨a,vs,e1,hs,ra⟩:=r1;refine⟨a,vs,e1,hs,λ p hp=>k _ _ (.d (.tuple (ev2 ds))) M1 (kp1.trans (Kp.new hp)) ?_ (m1.new hp) q⟩;simp only[ay,au];exact⟨p,_,rfl,.inl (.inl aq),(aO.ev ra).keep (Kp.new hp)⟩⟩
end
section
variable {prog:Program}{w:World}{A:Around}{E:VP}{s:Shared}
theorem xc{l:Addr}{items:Array Value}{ks:List Str}{led:Bool}(hh:A.handled=none)(hl:s.heap.IsTuple l items)(hn:items.size=ks.length)(hi:∀ (i:Nat) (v:Value),items[i]? =some v->∃ t,v=Value.str (ks.getD i "") t)(hb:ks.length+1<scanBound)
  {Q:VP}(h:∀ (h':Heap) (tk:Nat),wI prog w h' s.heap.objs.size ks ks.length->(∀ b o,b<s.heap.objs.size->s.heap.get? b=some o->h'.get? b=some o)->Q .none {s with heap:=h',toks:=tk}) :
  codeAny (model prog w) A (.call (.builtin "set.__init__") ⟨[.ref s.heap.objs.size,.ref l],[]⟩) (wants Q E) {s with heap:=s.heap.push (lH led)}:=by
 have hS:(s.heap.push (lH led)).get? s.heap.objs.size=some (lH led):=Heap.get?_push_size _ rfl;refine codeAny_call_builtin PySem.F.called_set.init.plain PySem.F.entry_set_init (check_set_init_1 ⟨_,hS,rfl⟩ ?_);obtain⟨⟨ocls,odict,odata,oslots⟩,hol,hcl,nl,hdl⟩:=hl;simp only at hcl hdl;subst hcl hdl;have hol':=Heap.get?_push_of_some (lH led) hol;have hsls:=PySem.F.sub_tuple_set;have hslf:=PySem.F.sub_tuple_frozenset;have hne:(Value.type "tuple" == Value.type "dict")=false:=by decide
 have hl1:(s.heap.push (lH led)).IsTuple l items:=⟨_,hol',rfl,nl,rfl⟩;have hlS:l<s.heap.objs.size:=Heap.lt_size hol;unfold Builtin.«set.__init__» noKeywords Builtin.Frozenset.updateFrom;generalize hPI:pyIter=PI
 wp_walk
 subst hPI;refine wpAny_pyIter_tuple hl1 (wpAny_bind (wpAny_runValue ?_));have hz:(s.heap.push (lH led)).objs.size=s.heap.objs.size+1:=Heap.size_push _ _;have h1:l≠(s.heap.push (lH led)).objs.size:=by rw[hz];exact Nat.ne_of_lt (Nat.lt_succ_of_lt hlS)
 have h2:s.heap.objs.size ∉ [(s.heap.push (lH led)).objs.size,l]:=by rw[hz];simp only[List.mem_cons,List.not_mem_nil,or_false,not_or];exact⟨Nat.ne_of_lt (Nat.lt_succ_self _),Nat.ne_of_gt hlS⟩
 have Wk:=(Walks.tuple (prog:=prog) (w:=w) (A:=A.in1.in1) (by simp[hh]) _ l h1 items).toS;rw[hn] at Wk;refine pY Wk s.heap.objs.size h2 hi hb ks.length 0 _ (by omega) ?_ ?_ ?_
 ·exact⟨⟨_,Heap.get?_push_size _ rfl,rfl,rfl⟩,hl1.push _⟩
 ·exact SetOf_congr ((setObjOf_fresh (knd:=strKind prog w) led).setOf (Heap.get?_push_of_some _ hS) (by unfold scanBound;omega)) (λ k=>by simp) rfl
 ·intro s' hm hs;obtain⟨h',g',d',tk',os'⟩:=s';have e1:g'=s.gens:=hm.gens;have e2:d'=s.drawn:=hm.drawn;have e3:os'=s.os:=hm.os;subst e1 e2 e3;refine wpAny_pure (wpAny_pure (h h' tk' hs λ b o hb e=>?_));refine hm.heap b o ?_ (Heap.get?_push_of_some _ (Heap.get?_push_of_some _ e));simp only[List.mem_cons,List.not_mem_nil,or_false,not_or];exact⟨Nat.ne_of_lt hb,by rw[hz];exact Nat.ne_of_lt (Nat.lt_succ_of_lt hb)⟩
theorem yz{l:Addr}{items:Array Value}{ks:List Str}(hh:A.handled=none)(hl:s.heap.IsTuple l items)(hn:items.size=ks.length)(hi:∀ (i:Nat) (v:Value),items[i]? =some v->∃ t,v=Value.str (ks.getD i "") t)(hb:ks.length+1<scanBound)
  {Q:VP}(h:∀ (h':Heap) (tk:Nat),wI prog w h' s.heap.objs.size ks ks.length->(∀ b o,b<s.heap.objs.size->s.heap.get? b=some o->h'.get? b=some o)->Q (.ref s.heap.objs.size) {s with heap:=h',toks:=tk}) :
  wpAny (model prog w) A (call (.type "set") [.ref l]) Q E s:=by
 obtain⟨c,tl,hmro⟩:=PySem.F.called_set.mro;have hmade:=PySem.F.called_set.made;have hsub:=PySem.F.called_set.sub;have h1:=PySem.F.called_set.notType;have h2:=PySem.F.called_set.canCreate;have hct:=PySem.F.typeCall_set_1 (.ref l);refine wpAny_call (codeAny_of_tree ?_);show wpAny _ _ (callAny (.type "set") _) _ _ _;refine wpAny_pure ⟨Code.quiet_builtin _ (by decide +kernel),codeAny_builtin PySem.F.entry_type_call ?_⟩;rw[Around.under_plain (weight_type_call_type "set" [.ref l] []) rfl]
 repeat (any_goals (first | assumption | wp_step))
 refine codeAny_mono (code_set_new_1 (.ref l) (E:=E) (Q₁:=λ x s1=>∃ led:Bool,x=.ref s.heap.objs.size/\s1={s with heap:=s.heap.push (lH led)}) λ led=>⟨led,rfl,rfl⟩) λ r s1 hr=>?_
 match r,hr with
 | .ok (.ret _),⟨led,e1,e2⟩ =>
  subst e1 e2;have hT:Shared.TypeIs {s with heap:=s.heap.push (lH led)} (.ref s.heap.objs.size) "set":= ⟨_,Heap.get?_push_size _ rfl,rfl⟩;have hli:=PySem.F.called_set.init.lookup;have hbi:=PySem.F.called_set.init.bind (.ref s.heap.objs.size)
  repeat (any_goals (first | assumption | wp_step))
  refine codeAny_mono (xc (E:=E) (Q:=λ x s2=>x=.none/\∃ h' tk,s2={s with heap:=h',toks:=tk}/\wI prog w h' s.heap.objs.size ks ks.length/\∀ b o,b<s.heap.objs.size->s.heap.get? b=some o->h'.get? b=some o) (by simp[hh]) hl hn hi hb λ h' tk a b=>⟨rfl,h',tk,rfl,a,b⟩) λ r2 s2 hr2=>?_
  match r2,hr2 with
  | .ok (.ret _),⟨e3,h',tk,e4,a,b⟩ =>
   subst e3 e4
   repeat (any_goals (first | assumption | wp_step))
   exact h h' tk a b
  | .error _,q=>exact q
 | .error _,q=>exact q
end
open L2
section
variable {X:Cx}{K:FG}{e:Expr}{to:TE}{td:TD}{p1 p2 pos1 pos2:Pos}
def acJ(K:FG)(Q:VK)(x:V)(H1:Hp):Prop:=∃ (a:Addr) (zs:List Str),x=.ref a/\SqT K H1 a (zs.map V.str)/\zs.length<=1000/\Q (.int (dnT zs zs.length:Nat)) H1
def aaH(K:FG)(to:TE):TE:=λ σ H Q=>to σ H (acJ K Q)
theorem uT(hc:X.calm=true)(hg1:Gl X "len")(hm1:X.mg "len" = none)(hg2:Gl X "set")(hm2:X.mg "set" = none)(he:PE X e to)(hs:starEach [e] X.env=(false,eval e X.env)::starEach [] X.env:=by rfl)(hpl:(backTo pos2 (starEach [] X.env)).any (·.1)=false:=by rfl) :
  PE X (.Call (.Name "len" p1) [.Call (.Name "set" p2) [e] [] pos2] [] pos1) (aaH X.K to):=by
 intro pins s σ H Q I h;refine wpAny_Call_Name_kw (eP I hg1 hm1 (u:=.builtin "len") rfl ?_);refine PyProof.Rows.callWith_builtin1 ?_;show wpAny _ _ (spliced ((false,eval (.Call (.Name "set" p2) [e] [] pos2) X.env)::backTo pos1 (starEach [] X.env))) _ _ s;refine Calls.spliced_cons ?_;refine wpAny_Call_Name_kw (eP I hg2 hm2 (u:=.type "set") rfl ?_);refine PyProof.Rows.callWith_type1 (thn (iS he lQ hs pos2 pins s σ H (yu (acJ X.K Q)) I (show kI to yZ σ H (yu (acJ X.K Q)) from h)) λ us s1 ⟨vs,H1,I1,r1,q1⟩=>?_) hs hpl;obtain⟨x,rfl,a,zs,rfl,hsq,hl,q⟩:=se q1;obtain⟨u,rfl,rx⟩:=vals1 r1;cases rx;obtain⟨its,rv,pl,_⟩:=I1.tuple hsq;have hn:its.toArray.size=zs.length:=by have:=rv.length;simp only[List.length_map] at this;simp only[List.size_toArray];omega
 refine yz (I1.ok.hd hc) (show s1.heap.IsTuple a its.toArray from pl) hn (λ i v hv=>jO rv i v (by simpa using hv)) (by unfold scanBound;omega) λ h' tk hS hk=>?_;have I2:Inv X pins σ H1 {s1 with heap:=h',toks:=tk}:=I1.kept λ b o e=>hk b o (Heap.lt_size e) e;refine Calls.spliced_nil ?_;obtain⟨o,es,ep,t,ho,hex,hd,_,_,_,hf,hz⟩:=hS;have hle:=sN zs zs.length;refine call_len_set ho hex hd hf (by rw[hz];omega) ⟨.int (dnT zs zs.length:Nat),H1,I2.tok _,⟨_,by rw[hz]⟩,q⟩
def sE(td:TD)(τ:DS)(M:MH)(Q:QD):Prop:=td τ M λ w M1=>∃ zs:List Str,w=.d (.tuple (zs.map PyData.str))/\zs.length<=1000/\Q (.d (.int (dnT zs zs.length:Nat))) M1
end
theorem qK{X:Cx}{e:Expr}{td:TD}{p1 p2 pos1 pos2:Pos}(hc:X.calm=true)(hg1:Gl X "len")(hm1:X.mg "len" = none)(hg2:Gl X "set")(hm2:X.mg "set" = none)(he:Jd (PD X e td))(hs:gB e=false:=by rfl) :
  Jd (PD X (.Call (.Name "len" p1) [.Call (.Name "set" p2) [e] [] pos2] [] pos1) (sE td)):=⟨have he:=he.h;gp (uT hc hg1 hm1 hg2 hm2 he (cE e [] X.env hs)) λ σ H Q hq126=>by
 obtain⟨τ,M,Qd,A,h,k⟩:=hq126;refine⟨τ,M,_,A,h,λ x H1 w M1 kp1 r1 m1 hq127=>?_⟩;obtain⟨zs,g,hl,q⟩:=hq127;subst g;simp only[ay,au] at r1;obtain⟨a,vs,e1,hsq,ra⟩:=r1;rw[ke ra] at hsq;exact⟨a,zs,e1,hsq,hl,k _ H1 (.d (.int _)) M1 kp1 (by simp[ay,au]) m1 q⟩⟩
end D
namespace K37
open L2 D Rc Stc
abbrev dB:Addr:=18
abbrev aU:Addr:=16
abbrev qe:List Str:=["_law_bag_here", "_law_most", "_law_top", "_law_many", "_law_turn", "_law_kinds", "_law_found", "_law_k", "_law_name"]
def pG(az:SpD):TSd:=
  bp (bW (bq az (ae (ag 0) (ae (dOp cX (ag 1) (dI 1)) (aK)))) (gN 3)) <|
  bp (bW (bq az (ae (ag 0) (ae (dI 8) (aK)))) (gN 4)) <|
  bp (bW (dSl (u6 (ae (dS "front") (ae (dS "ma") (ae (dS "side") (ae (dS "front") (ae (dS "k") (ae (dS "mbb") (ae (dS "aba") (ae (dS "back") (ae (dS "wish") (aK))))))))))) (fT) (mK (dOp cX (dI 1) (bq az (ae (ag 0) (ae (dI 9) (aK))))))) (gN 5)) <|
  bp (bW (qg (aK)) (gN 6)) <|
  bp (j6 (qQ (ae (ag 3) (aK))) (gN 7)
   (bp (bW (dOp cj (u6 (ae (dOp cX (dS "w") (dOp cj (dS "hgfedcba") (dOp er (dOp cX (ag 7) (ag 4)) (dI 8)))) (ae (dS "ma") (aK)))) (dCB acO (ae (dOp eo (ag 7) (dI 3)) (aK)))) (gN 8)) <|
   lh (g9 (ag 6) (pz (ae (ag 8) (ae (dOp cj (ag 5) (bq az (ae (ag 0) (ae (dCB df (ae (ag 5) (aK))) (aK))))) (ae (bq az (ae (ag 0) (ae (dOp cX (ag 2) (dI 1)) (aK)))) (aK)))))))) <|
  dY (ag 6)
abbrev oy:List Str:=["_law_bag_here", "_law_berths_here", "_law_demands_here", "_law_found", "_law_number", "_law_k", "_law_machine", "_law_many", "_law_kind", "_law_here", "_law_laid"]
def oh(az:SpD):TSd:=
  bp (bW (qg (aK)) (gN 3)) <|
  bp (bW (dI 0) (gN 4)) <|
  bp (j6 (qQ (ae (bq az (ae (ag 0) (ae (dI 25) (aK)))) (aK))) (gN 5)
   (bp (bW (dOp cj (ag 1) (bq az (ae (ag 0) (ae (dCB df (ae (ag 1) (aK))) (aK))))) (gT 2 (aM (gN 6) (aM (gN 7) (fD))))) <|
   bp (bW (dOp cj (i4 (dCB qN (ae (ag 2) (aK)))) (bq az (ae (ag 0) (ae (dCB abU (ae (ag 2) (aK))) (aK))))) (gN 8)) <|
   bp (jz (bW (dLC (mS (ag 3)) (gN 0) (aJ (dOp eo (dOp cj (ag 0) (dI 2)) (ag 1))) (ag 0) 1 [6]) (gN 9))) <|
   bp (jz (bW (dLC (mS (ag 3)) (gN 0) (aJ (dOp eo (dOp cj (ag 0) (dI 1)) (ag 1))) (ag 0) 1 [8]) (gN 10))) <|
   dIf (adw (aJ (dOp zc (dCB df (ae (ag 9) (aK))) (ag 7))) (adw (aJ (dOp eo (dLC (bj (ag 9)) (gN 0) (aJ (dOp eo (dOp cj (ag 0) (dI 1)) (ag 1))) (ag 0) 1 [8]) (u6 (aK)))) (aJ (dOp zc (dCB df (ae (ag 10) (aK))) (iJ (ag 2) (ag 8))))))
    (bp (bW (dOp cX (dOp cX (ag 4) (dI 1)) (bq az (ae (ag 0) (ae (dI 3) (aK))))) (gN 4)) <|
    lh (g9 (ag 3) (pz (ae (ag 4) (ae (ag 8) (ae (ag 6) (aK)))))))
    (cF))) <|
  dY (ag 3)
abbrev sg:List Str:=["_law_berths_here", "_law_lying_here"]
def sC:TSd:=
  dY (dLC (bj (ag 0)) (gT 2 (aM (gN 0) (aM (gN 1) (fD)))) (aJ (dOp zc (dCB df (ae (dLC (bj (ag 2)) (gN 0) (aJ (dOp eo (dOp cj (ag 0) (dI 2)) (ag 1))) (ag 0) 1 [0]) (aK))) (ag 1))) (ag 0) 2 [1])
abbrev xU:List Str:=["_law_lying_here", "_law_machine", "_law_kind"]
def xu:TSd:=
  dY (dOp xT (dLC (bj (ag 0)) (gN 0) (adw (aJ (dOp eo (dOp cj (ag 0) (dI 1)) (ag 1))) (aJ (dOp eo (dOp cj (ag 0) (dI 2)) (ag 2)))) (ag 0) 1 [2,1]) (u6 (aK)))
abbrev iz:List Str:=["ways", "lying", "kinds", "reached", "further", "number", "kind", "machine", "other", "way"]
def iK:TSd:=
  bp (bW (kc) (gN 4)) <|
  bp (j6 (bj (ag 1)) (gT 3 (aM (gN 5) (aM (gN 6) (aM (gN 7) (fD)))))
   (dIf (aJ (ahl (ag 7) (ag 0)))
    (j6 (rN (ag 2)) (gN 8)
     (dIf (adw (aJ (m9 (ag 8) (ag 3))) (aJ (dOp (qz true) (ag 6) (iJ (ag 2) (ag 8)))))
      (bp (bW (dOp ab0 (iJ (ag 0) (ag 7)) (pz (ae (ag 5) (ae (ag 8) (aK))))) (gN 9)) <|
      qW (ag 4) (ag 8) (dCB vc (ae (uo (ag 4) (ag 8) (ag 9)) (ae (ag 9) (aK)))))
      (cF)))
    (cF))) <|
  dY (ag 4)
abbrev lZ:List Str:=["start", "lying", "kinds", "free", "reached", "ways", "ends", "machine"]
def mj(bx:SpD):TSd:=
  bp (bW (sJ [(ag 0,dC (.d (.bool true)))]) (gN 4)) <|
  bp (bW (sJ [(ag 0,pz (ae (ag 0) (aK)))]) (gN 5)) <|
  bp (abp (ahn (ag 5))
   (bp (bW (bq bx (ae (ag 5) (ae (ag 1) (ae (ag 2) (ae (ag 4) (aK)))))) (gN 5)) <|
   bp (mH (bW (dLC (lG (ag 5)) (gN 0) (aJ (dOp (qz false) (ag 0) (ag 2))) (iJ (ag 1) (ag 0)) 1 [5,3]) (gN 6))) <|
   bp (dIf (ahn (ag 6))
    (dY (dCB abI (ae (ag 6) (aK))))
    (cF)) <|
   mH (j6 (lG (ag 5)) (gN 7)
    (qW (ag 4) (ag 7) (dC (.d (.bool true))))))) <|
  dY (dC (.d .none))
abbrev oT:List Str:=["berths", "lying", "kind", "kinds", "number", "other", "machine", "free", "ways", "start", "way"]
abbrev gj:Str:=(("way_for" : Str) ++ ".<locals>." ++ "<lambda>")
def o7(cy:SpD):TSd:=
  bp (bW (dDC (bj (ag 0)) (gT 2 (aM (gN 0) (aM (gN 1) (fD)))) (ql) (ag 0) (qg (aK)) 2 []) (gN 3)) <|
  bp (j6 (bj (ag 1)) (gT 3 (aM (gN 4) (aM (gN 5) (aM (gN 6) (fD)))))
   (lh (g9 (iJ (ag 3) (ag 6)) (ag 5)))) <|
  bp (bW (dLC (bj (ag 0)) (gT 2 (aM (gN 0) (aM (gN 1) (fD)))) (aJ (dOp zc (dCB df (ae (iJ (ag 2) (ag 0)) (aK))) (ag 1))) (ag 0) 2 [3]) (gN 7)) <|
  bp (bW (qg (aK)) (gN 8)) <|
  bp (mH (j6 (rN (ag 3)) (gN 9)
   (dIf (aJ (dOp (qz true) (ag 2) (iJ (ag 3) (ag 9))))
    (bp (bW (bq cy (ae (ag 9) (ae (ag 1) (ae (ag 3) (ae (ag 7) (aK)))))) (gN 10)) <|
    dIf (aJ (dOp (rF true) (ag 10) (dC (.d .none))))
     (lh (g9 (ag 8) (ag 10)))
     (cF))
    (cF)))) <|
  dY (vq aU gj ⟨13,25,13,55⟩ (i4 (ag 8)) (pz (ae (dCB df (ae (ag 0) (aK))) (ae (ag 0) (aK)))) [])
abbrev kj:List Str:=["_law_berths_here", "_law_lying_here", "_law_told", "_law_found", "_law_k", "_law_number", "_law_place", "_law_machine", "_law_rows"]
def kD(bN cB:SpD):TSd:=
  bp (bW (i4 (dCB gw (ae (ag 1) (aK)))) (gN 3)) <|
  bp (j6 (agb (ae (dOp uy (dCB df (ae (ag 2) (aK))) (dI 2)) (ae (dI 0) (ae (dUn aer (dI 2)) (aK))))) (gN 4)
   (bp (agw 3 (ae (dOp cj (ag 2) (ag 4)) (ae (dOp cj (ag 2) (dOp uy (ag 4) (dI 1))) (ae (dOp cj (ag 2) (dOp cX (ag 4) (dI 1))) (aK)))) (aM (gN 5) (aM (gN 6) (aM (gN 7) (fD))))) <|
   bp (bW (dLC (bj (ag 3)) (gN 0) (aJ (dOp eo (dOp cj (ag 0) (dI 0)) (ag 1))) (ag 0) 1 [5]) (gN 8)) <|
   bp (dIf (dOr (aJ (dOp xT (dCB df (ae (ag 8) (aK))) (dI 1))) (dOr (aJ (dOp xT (dOp cj (dOp cj (ag 8) (dI 0)) (dI 2)) (ag 6))) (aJ (dOp (qz true) (ag 7) (bq bN (ae (ag 0) (ae (ag 3) (aK))))))))
    (dY (dC (.d .none)))
    (cF)) <|
   bp (dIf (aJ (bq cB (ae (ag 3) (ae (ag 7) (ae (dOp cj (dOp cj (ag 8) (dI 0)) (dI 1)) (aK))))))
    (dY (dC (.d .none)))
    (cF)) <|
   bW (dLC (bj (ag 3)) (gN 0) (ql) (pz (ae (dOp cj (ag 0) (dI 0)) (ae (dOp cj (ag 0) (dI 1)) (ae (dOp cj (u6 (ae (dOp cj (ag 0) (dI 2)) (ae (ag 1) (aK)))) (dCB acO (ae (dOp eo (dOp cj (ag 0) (dI 0)) (ag 2)) (aK)))) (aK))))) 1 [7,5]) (gN 3))) <|
  dY (ag 3)
abbrev vm:List Str:=["_law_berths_here", "_law_lying_here", "_law_kind", "_law_bag_here", "_law_found", "_law_open_ones", "_law_told", "_law_machine"]
def yk(bN cB cV bP az:SpD):TSd:=
  bp (bW (ag 1) (gN 4)) <|
  bp (bW (dLC (bj (bq bN (ae (ag 0) (ae (ag 4) (aK))))) (gN 0) (xB (aJ (bq cB (ae (ag 1) (ae (ag 0) (ae (ag 2) (aK))))))) (ag 0) 1 [4,2]) (gN 5)) <|
  bp (dIf (aJ (dOp eo (ag 5) (u6 (aK))))
   (bp (bW (bq cV (ae (i4 (dCB gw (ae (ag 0) (aK)))) (ae (i4 (dCB gw (ae (ag 4) (aK)))) (ae (ag 2) (aK))))) (gN 6)) <|
   bp (dIf (dOr (xB (aJ (dCB ij (ae (ag 6) (ae (dC (.t "tuple")) (aK)))))) (dOr (aJ (dOp zc (dCB df (ae (ag 6) (aK))) (dI 3))) (dOr (aJ (dOp eo (dOp er (dCB df (ae (ag 6) (aK))) (dI 2)) (dI 0))) (aJ (bq cB (ae (ag 4) (ae (dOp cj (ag 6) (dI 0)) (ae (ag 2) (aK)))))))))
    (dY (dC (.d .none)))
    (cF)) <|
   bp (dIf (aJ (dOp zc (sE (dEv (ag 6))) (dCB df (ae (dEv (ag 6)) (aK)))))
    (dY (dC (.d .none)))
    (cF)) <|
   bp (bW (bq bP (ae (ag 0) (ae (ag 4) (ae (ag 6) (aK))))) (gN 4)) <|
   bp (dIf (dOr (aJ (dOp (rF false) (ag 4) (dC (.d .none)))) (aJ (dOp (qz true) (dOp cj (ag 6) (dI 0)) (bq bN (ae (ag 0) (ae (ag 4) (aK)))))))
    (dY (dC (.d .none)))
    (cF)) <|
   bW (u6 (ae (dOp cj (ag 6) (dI 0)) (aK))) (gN 5))
   (cF)) <|
  bp (bW (dOp cj (ag 5) (bq az (ae (ag 3) (ae (dCB df (ae (ag 5) (aK))) (aK))))) (gN 7)) <|
  dY (ad0 (ag 4) (u6 (ae (pz (ae (dOp cX (ad3 0 (dLC (bj (ag 4)) (gN 0) (ql) (dOp cj (ag 0) (dI 0)) 1 [])) (dI 1)) (ae (ag 2) (ae (ag 7) (aK))))) (aK))))
abbrev afr:List Str:=["_law_script", "_law_bag_here", "_law_many", "_law_berths_here", "_law_asked_here", "_law_fitting", "_law_demands_here", "_law_lying_here", "_law_kinds", "_law_turn", "_law_kind", "_law_k", "_law_machine", "_law_places", "_law_here"]
def agz(eE az cS cU bO cO cZ:SpD):TSd:=
  bp (bW (bq eE (ae (ag 0) (aK))) (gN 1)) <|
  bp (bW (dOp cX (dI 2) (bq az (ae (ag 1) (ae (dI 7) (aK))))) (gN 2)) <|
  bp (bW (dLC (qQ (ae (ag 2) (aK))) (gN 0) (ql) (pz (ae (dOp cX (dS "m") (dOp aa6 (dOp cj (dS "abcdefgh") (ag 0)) (dOp cX (dI 1) (dOp er (ag 0) (dI 2))))) (ae (dOp cX (dI 1) (bq az (ae (ag 1) (ae (dI 4) (aK))))) (aK)))) 1 [1]) (gN 3)) <|
  bp (bW (ad0 (bq cS (ae (ag 1) (ae (dI 7) (ae (dI 6) (aK))))) (u6 (ae (pz (ae (dS "last") (ae (dS "k") (ae (dI 2) (aK))))) (aK)))) (gN 4)) <|
  bp (bW (dCB tI (ae (bq cU (ae (i4 (dCB gw (ae (ag 3) (aK)))) (ae (i4 (dCB gw (ae (ag 4) (aK)))) (aK)))) (aK))) (gN 5)) <|
  bp (bW (bq bO (ae (dLC (bj (ag 4)) (gT 3 (aM (gN 0) (aM (gN 1) (aM (gN 2) (fD))))) (ql) (pz (ae (ag 0) (ae (ag 1) (ae (iJ (ag 3) (ag 0)) (aK))))) 3 [5]) (aK))) (gN 6)) <|
  bp (bW (i4 (bq cO (ae (ag 1) (ae (ag 3) (ae (ag 6) (aK)))))) (gN 7)) <|
  bp (bW (i4 (dCB qN (ae (ag 6) (aK)))) (gN 8)) <|
  bp (bW (bq az (ae (ag 1) (ae (dCB df (ae (ag 8) (aK))) (aK)))) (gN 9)) <|
  bp (j6 (bj (ad0 (dSl (ag 8) (mK (ag 9)) (fT)) (dSl (ag 8) (fT) (mK (ag 9))))) (gN 10)
   (j6 (qQ (ae (dOp uy (iJ (ag 6) (ag 10)) (dCB df (ae (dLC (bj (ag 7)) (gN 0) (aJ (dOp eo (dOp cj (ag 0) (dI 1)) (ag 1))) (ag 0) 1 [10]) (aK)))) (aK))) (gN 11)
    (bp (bW (bq cZ (ae (ag 3) (ae (ag 7) (ae (ag 10) (ae (ag 1) (aK)))))) (gN 7)) <|
    dIf (aJ (dOp (rF false) (ag 7) (dC (.d .none))))
     (dY (dC (.d (.bool false))))
     (cF)))) <|
  bp (j6 (bj (ag 3)) (gT 2 (aM (gN 12) (aM (gN 13) (fD))))
   (bp (bW (dLC (bj (ag 7)) (gN 0) (aJ (dOp eo (dOp cj (ag 0) (dI 2)) (ag 1))) (dOp cj (ag 0) (dI 1)) 1 [12]) (gN 14)) <|
   dIf (dOr (aJ (dOp aar (dCB df (ae (ag 14) (aK))) (ag 13))) (aJ (dOp zc (qC (ag 14)) (dCB df (ae (ag 14) (aK))))))
    (dY (dC (.d (.bool false))))
    (cF))) <|
  dY (dCB aav (ae (tw (dLC (lG (ag 6)) (gN 0) (ql) (dOp eo (dCB df (ae (dLC (bj (ag 1)) (gN 0) (aJ (dOp eo (dOp cj (ag 0) (dI 1)) (ag 1))) (ag 0) 1 [0]) (aK))) (iJ (ag 2) (ag 0))) 1 [7,6])) (aK)))
theorem cG{α:Type}{gt:TGd}{tt:TTd}{te:TD}{Q:List PyData->DS->MH->Prop}{τ0:DS}{M0:MH}(L:List α)(g:α->W)(f:α->PyData)(pr:α->Bool)(S:DS->Prop)(J:MH->Prop)(hL:L.length<=900000)(h0:S τ0)(j0:J M0)
  (step:∀ a∈L,∀ τ M,S τ->J M->∀ R:Option PyData->DS->MH->Prop,(∀ τ2 M2,S τ2->J M2->R (if pr a=true then some (f a) else none) τ2 M2)->gt (g a) τ M λ τ2 M2=>tt τ2 M2 λ b M3=>if b=true then te τ2 M3 λ y M4=>∃ d,y=.d d/\R (some d) τ2 M4 else R none τ2 M3)
  (q:∀ τ M,J M->Q ((L.filter pr).map f) τ M) :
  ∃ P:Nat->List PyData->DS->MH->Prop,P 0 [] τ0 M0 /\
   (∀ i w acc τ M,(L.map g)[i]? =some w->P i acc τ M->acc.length<sizeLine/\gt w τ M λ τ2 M2=>tt τ2 M2 λ b M3=>if b=true then te τ2 M3 λ y M4=>∃ d,y=.d d/\P (i+1) (acc++[d]) τ2 M4 else P (i+1) acc τ2 M3) /\
   ∀ acc τ M,P (L.map g).length acc τ M->Q acc τ M:=by
 refine⟨λ i acc τ M=>acc=((L.take i).filter pr).map f/\S τ/\J M,⟨rfl,h0,j0⟩,?_,?_⟩
 ·rintro i w acc τ M hw ⟨rfl,hs,hj⟩;obtain⟨a,e,rfl⟩:=eZ hw;have hi:=(List.getElem?_eq_some_iff.mp e).1;refine⟨?_,?_⟩
  ·have h1:=List.length_filter_le pr (L.take i);rw[List.length_map];rw[List.length_take] at h1;have:1000000<=sizeLine:=by decide
   omega
  ·have et:((L.take (i+1)).filter pr).map f=((L.take i).filter pr).map f++(if pr a=true then [f a] else []):=by
    rw[List.take_succ,e,List.filter_append,List.map_append];congr 1
    by_cases z:pr a=true
    ·simp[z]
    ·simp[z]
   refine step a (List.mem_of_getElem? e) τ M hs hj (λ o τ2 M2=>match o with
    | some d=>((L.take i).filter pr).map f++[d]=((L.take (i+1)).filter pr).map f/\S τ2/\J M2
    | none=>((L.take i).filter pr).map f=((L.take (i+1)).filter pr).map f/\S τ2/\J M2) λ τ2 M2 h2 j2=>?_
   by_cases z:pr a=true
   ·rw[if_pos z] at et ⊢;exact⟨et.symm,h2,j2⟩
   ·rw[if_neg z] at et ⊢;exact⟨by rw[et,List.append_nil],h2,j2⟩
 ·rintro acc τ M ⟨rfl,hs,hj⟩;rw[List.length_map,List.take_length];exact q τ M hj
abbrev Stp:=Int×Str
def d0(ps:List Stp):List PyData:=ps.flatMap λ p=>[.int p.1,.str p.2]
def bR(s:Str)(ps:List Stp):List PyData:=.str s::d0 ps
def shE(n:Nat):List Bool:=(List.replicate n [false,true]).flatten
theorem zJ(n:Nat):shE (n+1)=false::true::shE n:=by simp[shE,List.replicate_succ]
theorem jF(p:Stp)(ps:List Stp):d0 (p::ps)=.int p.1::.str p.2::d0 ps:=rfl
theorem vW(ps qs:List Stp):d0 (ps++qs)=d0 ps++d0 qs:=by simp[d0]
theorem bG:∀ ps:List Stp,S.Shape (shE ps.length) (d0 ps)
 | []=>trivial
 | p::ps=>by rw[List.length_cons,zJ,jF];exact⟨⟨_,rfl⟩,⟨_,rfl⟩,bG ps⟩
theorem ba(s:Str)(ps:List Stp):S.Shape (true::shE ps.length) (bR s ps):=⟨⟨_,rfl⟩,bG ps⟩
theorem vn:∀ {ps qs:List Stp},d0 ps=d0 qs->ps=qs
 | [],[],_=>rfl
 | (a,x)::ps,(b,y)::qs,h=>by
  rw[jF,jF] at h
  injection h with h1 h2
  injection h2 with h2 h3
  injection h1 with h1
  injection h2 with h2
  have h1:a=b:=h1;have h2:x=y:=h2;rw[h1,h2,vn h3]
 | [],_::_,h=>by cases h
 | _::_,[],h=>by cases h
theorem yS:∀ {sh:List Bool} {xs ys as bs:List PyData},S.Shape sh xs->S.Shape sh ys->(xs=ys/\S.cz (xs++as) (ys++bs)=S.cz as bs)\/(xs≠ys/\S.cz (xs++as) (ys++bs)=S.cz xs ys)
 | [],[],[],as,bs,_,_=>.inl ⟨rfl,rfl⟩
 | t::sh,x::xs,y::ys,as,bs,hx,hy=>by
  obtain⟨h1,h2,_⟩:=S.dM hx hy
  by_cases e:x=y
  ·subst e;have hs:S.sEq x x=true:=by
    cases t with
    | true=>obtain⟨⟨z,rfl⟩,_⟩:=hx;simp[S.sEq]
    | false=>obtain⟨⟨z,rfl⟩,_⟩:=hx;simp[S.sEq]
   have e1:S.cz (x::xs++as) (x::ys++bs)=S.cz (xs++as) (ys++bs):=by show S.cz (x::(xs++as)) (x::(ys++bs))=_;simp[S.cz,hs]
   have e2:S.cz (x::xs) (x::ys)=S.cz xs ys:=by simp[S.cz,hs]
   rw[e1,e2];rcases yS (as:=as) (bs:=bs) h1 h2 with ⟨z,q⟩ | ⟨z,q⟩
   ·exact .inl ⟨by rw[z],q⟩
   ·exact .inr ⟨λ k=>z (List.cons.inj k).2,q⟩
  ·have hs:S.sEq x y=false:=by
    cases t with
    | true =>
     obtain⟨⟨a,rfl⟩,_⟩:=hx;obtain⟨⟨b,rfl⟩,_⟩:=hy;simp only[S.sEq];exact beq_eq_false_iff_ne.mpr λ q=>e (by rw[q])
    | false =>
     obtain⟨⟨a,rfl⟩,_⟩:=hx;obtain⟨⟨b,rfl⟩,_⟩:=hy;simp only[S.sEq];exact beq_eq_false_iff_ne.mpr λ q=>e (by rw[q])
   refine .inr ⟨λ q=>e (List.cons.inj q).1,?_⟩;show S.cz (x::(xs++as)) (y::(ys++bs))=_;simp[S.cz,hs]
 | [],_::_,_,_,_,h,_=>by cases h
 | [],[],_::_,_,_,_,h=>by cases h
 | t::_,[],_,_,_,h,_=>by cases t<;>cases h
 | t::_,_::_,[],_,_,_,h=>by cases t<;>cases h
abbrev leD(x y:List PyData):Prop:=S.cz y x=false
structure Gr where
 rows:List (Int×Str×Str)
 names:List Str
def Gr.has(G:Gr)(m k:Str):Bool:=G.rows.any λ r=>r.2.1==k&&r.2.2==m
def Gr.uY(G:Gr)(p:Str)(e:Stp):Prop:=∃ k,(e.1,k,p)∈G.rows/\e.2∈G.names/\G.has e.2 k=false
def Gr.walk(G:Gr):Str->List Stp->Prop
 | _,[]=>True
 | s,e::ps=>G.uY s e/\G.walk e.2 ps
def fin:Str->List Stp->Str
 | s,[]=>s
 | _,e::ps=>fin e.2 ps
theorem cI:∀ (s:Str) (ps qs:List Stp),fin s (ps++qs)=fin (fin s ps) qs
 | _,[],_=>rfl
 | _,e::ps,qs=>cI e.2 ps qs
theorem bC{G:Gr}:∀ {s:Str} {ps qs:List Stp},G.walk s (ps++qs) ↔ G.walk s ps/\G.walk (fin s ps) qs
 | s,[],qs=>by simp[Gr.walk,fin]
 | s,e::ps,qs=>by show G.uY s e/\G.walk e.2 (ps++qs) ↔ (G.uY s e/\G.walk e.2 ps)/\G.walk (fin e.2 ps) qs;rw[bC,and_assoc]
theorem g6{ps:List Stp}{n:Nat}(h:ps.length=n+1):∃ qs e,ps=qs++[e]/\qs.length=n:=by refine⟨ps.dropLast,ps.getLast (by intro z;rw[z] at h;cases h),(List.dropLast_concat_getLast _).symm,by rw[List.length_dropLast,h];rfl⟩
def Gr.lev(G:Gr)(s:Str)(d:Nat)(m:Str):Prop:=(∃ ps,G.walk s ps/\ps.length=d/\fin s ps=m)/\∀ ps,G.walk s ps->fin s ps=m->d<=ps.length
def Gr.best(G:Gr)(s:Str)(d:Nat)(m:Str)(ps:List Stp):Prop:=G.walk s ps/\ps.length=d/\fin s ps=m/\∀ qs,G.walk s qs->qs.length=d->fin s qs=m->leD (d0 ps) (d0 qs)
theorem eI{G:Gr}{s m:Str}:G.lev s 0 m ↔ m=s:=by
 constructor
 ·rintro⟨⟨ps,_,h,e⟩,_⟩;cases ps with
  | nil=>exact e.symm
  | cons a b=>cases h
 ·rintro rfl;exact⟨⟨[],trivial,rfl,rfl⟩,λ _ _ _=>Nat.zero_le _⟩
theorem jx{G:Gr}{s m:Str}{d e:Nat}(h1:G.lev s d m)(h2:G.lev s e m):d=e:=by obtain⟨⟨ps,a1,a2,a3⟩,a4⟩:=h1;obtain⟨⟨qs,b1,b2,b3⟩,b4⟩:=h2;have:=a4 qs b1 b3;have:=b4 ps a1 a3;omega
theorem gC{G:Gr}{s:Str}{d:Nat}{ps:List Stp}{e:Stp}(h:G.lev s (d+1) e.2)(w:G.walk s (ps++[e]))(hl:ps.length=d):G.lev s d (fin s ps):=by obtain⟨w1,w2⟩:=bC.mp w;refine⟨⟨ps,w1,hl,rfl⟩,λ qs hq he=>?_⟩;have:=h.2 (qs++[e]) (bC.mpr ⟨hq,by rw[he];exact w2⟩) (by rw[cI];rfl);rw[List.length_append,List.length_singleton] at this;omega
theorem aaX{G:Gr}{s p:Str}{d:Nat}{e:Stp}(hp:G.lev s d p)(he:G.uY p e)(no:∀ d',d'<=d->¬ G.lev s d' e.2):G.lev s (d+1) e.2:=by
 obtain⟨⟨ps,a1,a2,a3⟩,_⟩:=hp;refine⟨⟨ps++[e],bC.mpr ⟨a1,by rw[a3];exact⟨he,trivial⟩⟩,by simp[a2],by rw[cI];rfl⟩,?_⟩;have main:∀ n qs,qs.length=n->n<=d->G.walk s qs->fin s qs=e.2->False:=by
  intro n
  induction n using Nat.strongRecOn with
  | ind n ih =>
   intro qs hn hd hw hf;refine no n hd ⟨⟨qs,hw,hn,hf⟩,λ rs hr he'=>?_⟩;apply Classical.byContradiction;intro z;exact ih rs.length (by omega) rs rfl (by omega) hr he'
 intro qs hw hf;apply Classical.byContradiction;intro z;exact main qs.length qs rfl (by omega) hw hf
theorem pg{G:Gr}{s m:Str}{d:Nat}{ps:List Stp}(h:G.lev s (d+1) m)(hw:G.walk s ps)(hl:ps.length=d+1)(hf:fin s ps=m)
  (least:∀ p n qs,G.best s d p qs->G.uY p (n,m)->leD (d0 ps) (d0 (qs++[(n,m)])))
  (ex:∀ p,G.lev s d p->∃ qs,G.best s d p qs):G.best s (d+1) m ps:=by
 refine⟨hw,hl,hf,λ rs hr hrl hrf=>?_⟩;obtain⟨r0,e,rfl,h0⟩:=g6 hrl;have he:e.2=m:=by rw[cI] at hrf;exact hrf
 obtain⟨w1,w2⟩:=bC.mp hr;subst he;have hp:=gC h hr h0;obtain⟨qs,hq⟩:=ex _ hp;have l1:=least _ e.1 qs hq w2.1;have l2:=hq.2.2.2 r0 w1 h0 rfl;have sq:S.Shape (shE d) (d0 qs):=by rw[<- hq.2.1];exact bG qs
 have sr:S.Shape (shE d) (d0 r0):=by rw[<- h0];exact bG r0
 have a1:S.Shape (shE (d+1)) (d0 ps):=by rw[<- hl];exact bG ps
 have a2:S.Shape (shE (d+1)) (d0 (qs++[(e.1,e.2)])):=by
  have:=bG (qs++[(e.1,e.2)])
  rwa[List.length_append,hq.2.1] at this
 have a3:S.Shape (shE (d+1)) (d0 (r0++[e])):=by
  have:=bG (r0++[e])
  rwa[List.length_append,h0] at this
 refine S.d5 a1 a2 a3 l1 ?_;show S.cz (d0 (r0++[e])) (d0 (qs++[(e.1,e.2)]))=false;rw[vW,vW];rcases yS (as:=d0 [e]) (bs:=d0 [(e.1,e.2)]) sr sq with ⟨_,q⟩ | ⟨_,q⟩
 ·rw[q];exact S.fO _ (bG [e])
 ·rw[q];exact l2
theorem min_list{sh:List Bool}:∀ {l:List (List Stp)},l≠[]->(∀ x∈l,S.Shape sh (d0 x))->∃ x∈l,∀ y∈l,leD (d0 x) (d0 y)
 | [x],_,h=>⟨x,by simp,λ y hy=>by rw[List.mem_singleton.mp hy];exact S.fO _ (h x (by simp))⟩
 | x::z::l,_,h=>by
  obtain⟨b,hb,q⟩:=min_list (l:=z::l) (by simp) λ y hy=>h y (by simp[hy]);have sx:=h x (by simp);have sb:=h b (by simp[hb]);cases e:S.cz (d0 b) (d0 x) with
  | true =>
   refine⟨b,by simp[hb],λ y hy=>?_⟩;rcases List.mem_cons.mp hy with e' | hy
   ·subst e';exact S.h9 sb sx e
   ·exact q y hy
  | false =>
   refine⟨x,by simp,λ y hy=>?_⟩;rcases List.mem_cons.mp hy with e' | hy'
   ·subst e';exact S.fO _ sx
   ·exact S.d5 sx sb (h y hy) e (q y hy')
theorem o9{G:Gr}{s m:Str}{d:Nat}{ps qs:List Stp}(h:G.best s d m ps)(h':G.best s d m qs):ps=qs:=by have l1:=h.2.2.2 qs h'.1 h'.2.1 h'.2.2.1;have l2:=h'.2.2.2 ps h.1 h.2.1 h.2.2.1;have s1:=bG ps;have s2:=bG qs;rw[h.2.1] at s1;rw[h'.2.1] at s2;exact vn (S.mD s1 s2 l2 l1)
theorem sf{G:Gr}{s m:Str}{n:Int}{d:Nat}{p:Str}{qs:List Stp}(h:G.lev s (d+1) m)(hq:G.best s d p qs)(he:G.uY p (n,m)):G.lev s d p:=by
 have:=gC (e:=(n,m)) h (bC.mpr ⟨hq.1,by rw[hq.2.2.1];exact⟨he,trivial⟩⟩) hq.2.1
 rwa[hq.2.2.1] at this
open Classical in
theorem jT{G:Gr}{s:Str}:∀ {d:Nat} {m:Str},G.lev s d m->∃ ps,G.best s d m ps
 | 0,m,h=>by
  have:=eI.mp h;subst this;exact⟨[],trivial,rfl,rfl,λ qs _ hq _=>by have:qs=[]:=List.length_eq_zero_iff.mp hq;subst this;rfl⟩
 | d+1,m,h=>by
  have ih:∀ p,G.lev s d p->∃ ps,G.best s d p ps:=λ p hp=>jT hp
  let c:Int×Str×Str->Option (List Stp):=λ r=>if z:G.lev s d r.2.2/\G.uY r.2.2 (r.1,m) then some (choose (ih _ z.1)++[(r.1,m)]) else none
  have mem:∀ {p n qs},G.best s d p qs->G.uY p (n,m)->qs++[(n,m)]∈G.rows.filterMap c:=λ {p n qs} hq he=>by obtain⟨k,hk,h1,h2⟩:=id he;have hp:=sf h hq he;refine List.mem_filterMap.mpr ⟨(n,k,p),hk,?_⟩;have z:G.lev s d (n,k,p).2.2/\G.uY (n,k,p).2.2 ((n,k,p).1,m):=⟨hp,he⟩;show(if z:G.lev s d (n,k,p).2.2/\G.uY (n,k,p).2.2 ((n,k,p).1,m) then some (choose (ih _ z.1)++[((n,k,p).1,m)]) else none)=_;rw[dif_pos z,o9 (choose_spec (ih _ z.1)) hq]
  have of:∀ {x},x∈G.rows.filterMap c->G.walk s x/\x.length=d+1/\fin s x=m:=λ {x} hx=>by
   obtain⟨r,hr,e⟩:=List.mem_filterMap.mp hx
   by_cases z:G.lev s d r.2.2/\G.uY r.2.2 (r.1,m)
   ·have e':c r=some (choose (ih _ z.1)++[(r.1,m)]):=dif_pos z;rw[e'] at e;have e:=Option.some.inj e;subst e;obtain⟨b1,b2,b3,_⟩:=choose_spec (ih _ z.1);exact⟨bC.mpr ⟨b1,by rw[b3];exact⟨z.2,trivial⟩⟩,by simp[b2],by rw[cI];rfl⟩
   ·have e':c r=none:=dif_neg z;rw[e'] at e;cases e
  have ne:G.rows.filterMap c≠[]:=by obtain⟨⟨ps,a1,a2,a3⟩,_⟩:=id h;obtain⟨qs,e,rfl,hq⟩:=g6 a2;obtain⟨w1,w2⟩:=bC.mp a1;rw[cI] at a3;have a3:e.2=m:=a3;subst a3;have hp:=gC h a1 hq;obtain⟨rs,hr⟩:=ih _ hp;exact List.ne_nil_of_mem (mem hr w2.1)
  obtain⟨x,hx,least⟩:=min_list (sh:=shE (d+1)) ne λ x hx=>by rw[<- (of hx).2.1];exact bG x
  obtain⟨x1,x2,x3⟩:=of hx;exact⟨x,pg h x1 x2 x3 (λ p n qs hq he=>least _ (mem hq he)) ih⟩
def qw(P:Str->List Stp->Prop)(s:Str)(ps:List Stp):Prop:=P s ps/\∀ t qs,P t qs->ps.length<=qs.length/\(qs.length=ps.length->leD (bR s ps) (bR t qs))
def Gr.to(G:Gr)(free:List Str)(s:Str)(ps:List Stp):Prop:=G.walk s ps/\fin s ps∈free/\fin s ps≠s
theorem zV{G:Gr}{free:List Str}{s m:Str}{d:Nat}{ps:List Stp}(hd:0<d)(hm:m∈free)(hl:G.lev s d m)(hb:G.best s d m ps)
  (no:∀ d' m',0<d'->d'<d->G.lev s d' m'->m' ∉ free)(least:∀ m' qs,m'∈free->G.lev s d m'->G.best s d m' qs->leD (bR s ps) (bR s qs)):qw (λ t qs=>t=s/\G.to free t qs) s ps:=by
 have ne:∀ {d' m'},0<d'->G.lev s d' m'->m'≠s:=λ {d' m'} h0 h1 e=>by have:=jx h1 (eI.mpr e);omega
 have lv:∀ (qs:List Stp),G.walk s qs->∃ d',d'<=qs.length/\G.lev s d' (fin s qs):=by
  intro qs hq;have:∃ n,(∃ rs,G.walk s rs/\rs.length=n/\fin s rs=fin s qs)/\n<=qs.length:=⟨_,⟨qs,hq,rfl,rfl⟩,Nat.le_refl _⟩;have main:∀ n,(∃ rs,G.walk s rs/\rs.length=n/\fin s rs=fin s qs)->n<=qs.length->∃ d',d'<=qs.length/\G.lev s d' (fin s qs):=by
   intro n
   induction n using Nat.strongRecOn with
   | ind n ih =>
    intro hn hle
    by_cases z:∃ k,k<n/\∃ rs,G.walk s rs/\rs.length=k/\fin s rs=fin s qs
    ·obtain⟨k,hk,hr⟩:=z;exact ih k hk hr (by omega)
    ·refine⟨n,hle,hn,λ rs hr he=>?_⟩;apply Classical.byContradiction;intro y;exact z ⟨rs.length,by omega,rs,hr,rfl,he⟩
  obtain⟨n,h1,h2⟩:=this;exact main n h1 h2
 refine⟨⟨rfl,hb.1,by rw[hb.2.2.1];exact hm,by rw[hb.2.2.1];exact ne hd hl⟩,?_⟩;rintro t qs ⟨rfl,hq,hf,hne⟩;obtain⟨d',h1,h2⟩:=lv qs hq;have h0:0<d':=by
  rcases Nat.eq_zero_or_pos d' with z | z
  ·subst z;exact absurd (eI.mp h2) hne
  ·exact z
 have hdd:d<=d':=by
  apply Classical.byContradiction;intro z;exact no d' _ h0 (by omega) h2 hf
 refine⟨by rw[hb.2.1];omega,λ e=>?_⟩;have ed:d'=d:=by rw[hb.2.1] at e;omega
 subst ed;obtain⟨rs,hr⟩:=jT h2;have l1:=least _ rs hf h2 hr;have l2:=hr.2.2.2 qs hq (by rw[e];exact hb.2.1) rfl;have a1:=ba t ps;have a2:=ba t rs;have a3:=ba t qs;rw[hb.2.1] at a1;rw[hr.2.1] at a2;rw[e,hb.2.1] at a3;refine S.d5 a1 a2 a3 l1 ?_;show S.cz (.str t::d0 qs) (.str t::d0 rs)=false
 simpa [S.cz,S.sEq] using l2
abbrev Row3:=Int×Str×Str
def cY(r:Row3):PyData:=.tuple [.int r.1,.str r.2.1,.str r.2.2]
abbrev dW(R:List Row3):PyData:=.list (R.map cY)
structure OkR(R:List Row3):Prop where
 len:R.length<=200
 num:∀ r∈R,0<=r.1/\r.1<10000
 word:∀ r∈R,m8 r.2.1=true/\m8 r.2.2=true/\r.2.1.length<=8/\r.2.2.length<=8
def hasB(R:List Row3)(m k:Str):Bool:=R.any λ r=>r.2.1==k&&r.2.2==m
def cB:SpD:=λ ws M Q=>∃ (R:List Row3) (m k:Str),ws=[.d (dW R),.d (.str m),.d (.str k)]/\OkR R/\Q (.d (.bool (hasB R m k))) M
theorem xa:∀ ws M Q,cB ws M Q->ws.length=3:=by rintro ws M Q ⟨R,m,k,rfl,_⟩;rfl
theorem ag8{R:List Row3}(h:OkR R)(c:Row3->Bool):okD 3 (.list ((R.filter c).map cY))=true:=by refine kE λ d hd=>?_;obtain⟨r,hr,rfl⟩:=List.mem_map.mp hd;obtain⟨w1,w2,w3,w4⟩:=h.word r (List.mem_filter.mp hr).1;have:=h.num r (List.mem_filter.mp hr).1;simp[cY,okD,okA,w1,w2];omega
theorem uw:∀ ws M Q,cB ws M Q->xu {nx:=λ _ M'=>Q (.d .none) M',rt:=Q} (aY xU ws) M:=by
 rintro ws M Q ⟨R,m,k,rfl,ok,q⟩;refine⟨_,rfl,_,rfl,?_⟩;rw[List.map_map];refine cG R (W.d ∘ cY) cY (λ r=>r.2.1==k&&r.2.2==m) (λ τ=>∃ x,τ=[x,some (.d (.str k)),some (.d (.str m))]) (λ M'=>M'=M) (by have:=ok.len;omega) ⟨_,rfl⟩ rfl (λ r hr τ M' hτ hM R' h=>?_) λ τ M' hM=>?_
 ·obtain⟨x,rfl⟩:=hτ;subst hM;refine⟨_,rfl,1,_,rfl,rfl,rfl,_,rfl,_,_,.d,.d,rfl,_,rfl,?_⟩;rw[d3];cases e1:r.2.1==k with
  | false =>
   refine dP (dP ?_);have:=h [some (.d (cY r)),some (.d (.str k)),some (.d (.str m))] M' ⟨_,rfl⟩ rfl;rw[e1] at this;exact this
  | true =>
   refine gE ⟨_,rfl,2,_,rfl,rfl,rfl,_,rfl,_,_,.d,.d,rfl,_,rfl,?_⟩;rw[d3];have:=h [some (.d (cY r)),some (.d (.str k)),some (.d (.str m))] M' ⟨_,rfl⟩ rfl;rw[e1] at this;cases e2:r.2.2==m with
   | false=>rw[e2] at this;exact dP this
   | true=>rw[e2] at this;exact gE ⟨_,rfl,_,rfl,this⟩
 ·subst hM;refine⟨[],rfl,Nat.zero_le _,_,_,.d,.d,mE (k:=3) (by decide) (ag8 ok _) rfl,?_⟩;have e:(!PyData.eqv (.list ((R.filter λ r=>r.2.1==k&&r.2.2==m).map cY)) (.list []))=hasB R m k:=by
   cases z:R.filter λ r=>r.2.1==k&&r.2.2==m with
   | nil =>
    have:hasB R m k=false:=by
     unfold hasB;rw[List.any_eq_false];intro r hr hq;have:r∈R.filter λ r=>r.2.1==k&&r.2.2==m:=List.mem_filter.mpr ⟨hr,hq⟩;rw[z] at this;cases this
    rw[this];rfl
   | cons r l =>
    have:hasB R m k=true:=by
     have hr:r∈R.filter λ r=>r.2.1==k&&r.2.2==m:=by rw[z];exact List.mem_cons_self
     obtain⟨h1,h2⟩:=List.mem_filter.mp hr;exact List.any_eq_true.mpr ⟨r,h1,h2⟩
    rw[this];rfl
  rw[e];exact q
abbrev Bth:=Str×Int
def bD(b:Bth):PyData:=.tuple [.str b.1,.int b.2]
abbrev lp(B:List Bth):PyData:=.list (B.map bD)
structure OkB(B:List Bth):Prop where
 len:B.length<=8
 nd:(B.map (·.1)).Nodup
 word:∀ b∈B,m8 b.1=true/\b.1.length<=8
 num:∀ b∈B,0<=b.2/\b.2<=10
def lg(R:List Row3)(m:Str):Nat:=(R.filter λ r=>r.2.2==m).length
def nY(R:List Row3)(b:Bth):Bool:=decide ((lg R b.1:Int)<b.2)
def cW(B:List Bth)(R:List Row3):List Str:=(B.filter (nY R)).map (·.1)
def bN:SpD:=λ ws M Q=>∃ (B:List Bth) (R:List Row3),ws=[.d (lp B),.d (dW R)]/\OkB B/\OkR R/\Q (.d (.list ((cW B R).map PyData.str))) M
theorem uS:∀ ws M Q,bN ws M Q->ws.length=2:=by rintro ws M Q ⟨B,R,rfl,_⟩;rfl
theorem rC:∀ ws M Q,bN ws M Q->sC {nx:=λ _ M'=>Q (.d .none) M',rt:=Q} (aY sg ws) M:=by
 rintro ws M Q ⟨B,R,rfl,okB,okR,q⟩;refine⟨_,rfl,_,rfl,?_⟩;rw[List.map_map];refine cG B (W.d ∘ bD) (λ b=>.str b.1) (nY R) (λ τ=>∃ x y,τ=[x,y,some (.d (dW R))]) (λ M'=>M'=M) (by have:=okB.len;omega) ⟨_,_,rfl⟩ rfl (λ b hb τ M' hτ hM R' h=>?_) λ τ M' hM=>?_
 ·obtain⟨x,y,rfl⟩:=hτ;subst hM;refine⟨_,rfl,rfl,_,_,rfl,_,_,rfl,rfl,?_⟩;refine⟨_,rfl,_,rfl,?_⟩;rw[List.map_map];refine cG R (W.d ∘ cY) cY (λ r=>r.2.2==b.1) (λ τ=>∃ x,τ=[x,some (.d (.str b.1))]) (λ M''=>M''=M') (by have:=okR.len;omega) ⟨_,rfl⟩ rfl (λ r hr τ M2 hτ hM R2 h2=>?_) λ τ M2 hM=>?_
  ·obtain⟨x,rfl⟩:=hτ;subst hM;refine⟨_,rfl,2,_,rfl,rfl,rfl,_,rfl,_,_,.d,.d,rfl,_,rfl,?_⟩;rw[d3];have:=h2 [some (.d (cY r)),some (.d (.str b.1))] M2 ⟨_,rfl⟩ rfl;cases e2:r.2.2==b.1 with
   | false=>rw[e2] at this;exact dP this
   | true=>rw[e2] at this;exact gE ⟨_,rfl,_,rfl,this⟩
  ·subst hM;refine⟨_,_,rfl,rfl,rfl,_,rfl,_,_,rfl,rfl,_,rfl,?_⟩;have e:decide (((((R.filter λ r=>r.2.2==b.1).map cY).length:Nat):Int)<b.2)=nY R b:=by rw[List.length_map];rfl
   rw[e];have:=h [some (.d (.str b.1)),some (.d (.int b.2)),some (.d (dW R))] M2 ⟨_,_,rfl⟩ rfl;cases z:nY R b with
   | false=>rw[z] at this;exact dP this
   | true=>rw[z] at this;exact gE ⟨_,rfl,_,rfl,this⟩
 ·subst hM;have e:(B.filter (nY R)).map (λ b=>PyData.str b.1)=(cW B R).map PyData.str:=by unfold cW;rw[List.map_map];rfl
  rw[e];exact q
abbrev WL:=List (Str×List Stp)
def u4(s:Str)(p:Str×List Stp):PyData:=.tuple (bR s p.2)
abbrev oz(s:Str)(L:WL):List (Key×W):=aS (rk Prod.fst (u4 s) L)
structure Fur(C:Str->List Stp->Prop)(n:Nat)(L:WL):Prop where
 nd:(L.map (·.1)).Nodup
 is:∀ p∈L,C p.1 p.2/\∀ q,C p.1 q->leD (d0 p.2) (d0 q)
 all:∀ m q,C m q->m∈L.map (·.1)
 len:∀ m q,C m q->q.length=n
theorem Fur.empty(n:Nat):Fur (λ _ _=>False) n []:=⟨.nil,λ _ h=>by simp at h,λ _ _ h=>h.elim,λ _ _ h=>h.elim⟩
theorem Fur.congr{C C':Str->List Stp->Prop}{n:Nat}{L:WL}(h:Fur C n L)(e:∀ m q,C m q ↔ C' m q):Fur C' n L:=
 ⟨h.nd,λ p hp=>⟨(e _ _).mp (h.is p hp).1,λ q hq=>(h.is p hp).2 q ((e _ _).mpr hq)⟩,λ m q hq=>h.all m q ((e _ _).mpr hq),λ m q hq=>h.len m q ((e _ _).mpr hq)⟩
def kC(L:WL)(m:Str)(q:List Stp):List Stp:=match fd Prod.fst L m with
 | none=>q
 | some p=>if S.cz (d0 q) (d0 p.2) then q else p.2
theorem Fur.put{C:Str->List Stp->Prop}{n:Nat}{L:WL}(h:Fur C n L){m:Str}{q:List Stp}(hq:q.length=n):Fur (λ m' q'=>C m' q'\/(m'=m/\q'=q)) n (pt Prod.fst L (m,kC L m q)):=by
 have sq:S.Shape (shE n) (d0 q):=by rw[<- hq];exact bG q
 refine⟨acA (nm:=Prod.fst) h.nd,λ p hp=>?_,λ m' q' hc=>?_,λ m' q' hc=>?_⟩
 ·have hf:=rK (nm:=Prod.fst) (acA (nm:=Prod.fst) (z:=(m,kC L m q)) h.nd) hp;rw[ag2] at hf
  by_cases e:m=p.1
  ·rw[if_pos e] at hf;have hf:=Option.some.inj hf;subst hf;dsimp only;unfold kC;cases z:fd Prod.fst L m with
   | none =>
    refine⟨.inr ⟨rfl,rfl⟩,λ q' hc=>?_⟩;rcases hc with hc | ⟨_,rfl⟩
    ·obtain⟨b,hb,e2⟩:=List.mem_map.mp (h.all _ _ hc);exact absurd e2 (fd_none z b hb)
    ·exact S.fO _ sq
   | some p0 =>
    obtain⟨hp0,e0⟩:=eJ z;obtain⟨i1,i2⟩:=h.is p0 hp0;rw[e0] at i1 i2;have s0:S.Shape (shE n) (d0 p0.2):=by rw[<- h.len _ _ i1];exact bG _
    dsimp only;cases w:S.cz (d0 q) (d0 p0.2) with
    | true =>
     rw[if_pos rfl];refine⟨.inr ⟨rfl,rfl⟩,λ q' hc=>?_⟩;rcases hc with hc | ⟨_,rfl⟩
     ·have s':S.Shape (shE n) (d0 q'):=by rw[<- h.len _ _ hc];exact bG q'
      exact S.d5 sq s0 s' (S.h9 sq s0 w) (i2 q' hc)
     ·exact S.fO _ sq
    | false =>
     rw[if_neg (by decide)];refine⟨.inl i1,λ q' hc=>?_⟩;rcases hc with hc | ⟨_,rfl⟩
     ·exact i2 q' hc
     ·exact w
  ·rw[if_neg e] at hf;obtain⟨hpL,_⟩:=eJ hf;obtain⟨i1,i2⟩:=h.is p hpL;refine⟨.inl i1,λ q' hc=>?_⟩;rcases hc with hc | ⟨e',_⟩
   ·exact i2 q' hc
   ·exact absurd e'.symm e
 ·rw[tJ];rcases hc with hc | ⟨rfl,rfl⟩
  ·have:=h.all _ _ hc
   split
   ·exact List.mem_append_left _ this
   ·exact this
  ·split
   ·exact List.mem_append_right _ (by simp)
   ·rename_i z
    obtain⟨a,b⟩:=eJ z;exact List.mem_map.mpr ⟨_,a,b⟩
 ·rcases hc with hc | ⟨rfl,rfl⟩
  ·exact h.len _ _ hc
  ·exact hq
theorem mZ:∀ {sh:List Bool} {xs ys:List PyData},S.Shape sh xs->S.Shape sh ys->HT.LtL xs ys (S.cz xs ys)
 | [],[],[],_,_=>.nn
 | true::sh,a::as,b::bs,ha,hb=>by
  obtain⟨⟨x,rfl⟩,ha⟩:=ha;obtain⟨⟨y,rfl⟩,hb⟩:=hb
  by_cases e:x=y
  ·subst e;rw[show S.cz (.str x::as) (.str x::bs)=S.cz as bs by simp[S.cz,S.sEq]];exact .eq (mZ ha hb)
  ·rw[show S.cz (.str x::as) (.str y::bs)=decide (x.cps.toList<y.cps.toList) by simp[S.cz,S.sEq,S.sLt,e]];exact .str e
 | false::sh,a::as,b::bs,ha,hb=>by
  obtain⟨⟨x,rfl⟩,ha⟩:=ha;obtain⟨⟨y,rfl⟩,hb⟩:=hb
  by_cases e:x=y
  ·subst e;rw[show S.cz (.int x::as) (.int x::bs)=S.cz as bs by simp[S.cz,S.sEq]];exact .eq (mZ ha hb)
  ·rw[show S.cz (.int x::as) (.int y::bs)=decide (x<y) by simp[S.cz,S.sEq,S.sLt,e]];exact .int e
 | [],[],_::_,_,h=>by cases h
 | [],_::_,_,h,_=>by cases h
 | true::_,[],_,h,_=>by cases h
 | false::_,[],_,h,_=>by cases h
 | true::_,_::_,[],_,h=>by cases h
 | false::_,_::_,[],_,h=>by cases h
theorem l4{sh:List Bool}{rows:List (List PyData)}(h:∀ r∈rows,S.Shape sh r)(ok:∀ r∈rows,∀ x∈r,okD 1 x=true):sZ S.cz rows where
 cmp a ha b hb:=mZ (h a ha) (h b hb)
 asym a ha b hb:=S.h9 (h a ha) (h b hb)
 tr a ha b hb c hc:=S.d5 (h a ha) (h b hb) (h c hc)
 ok a ha:=nM (k:=2) (by decide) (kE (ok a ha))
theorem zw(s:Str)(ps qs:List Stp):S.cz (bR s ps) (bR s qs)=S.cz (d0 ps) (d0 qs):=by simp[bR,S.cz,S.sEq]
def uz(R:List Row3)(z:Str):List Str:=(R.filter λ r=>r.2.2==z).map (·.2.1)
theorem tQ{R:List Row3}{z k:Str}:decide (k∈uz R z)=hasB R z k:=by
 rw[Bool.eq_iff_iff,decide_eq_true_eq,uz,List.mem_map,hasB,List.any_eq_true];constructor
 ·rintro⟨r,hr,rfl⟩;obtain⟨h1,h2⟩:=List.mem_filter.mp hr;exact⟨r,h1,by simpa using h2⟩
 ·rintro⟨r,hr,h⟩;simp only[Bool.and_eq_true,beq_iff_eq] at h;exact⟨r,List.mem_filter.mpr ⟨hr,by simpa using h.2⟩,h.1⟩
structure KdM(M:MH)(c:Addr)(N:List Str)(la:Str->Addr)(R:List Row3):Prop where
 dic:M c=some (.fdic (kf N λ z=>.m (la z)))
 lst:∀ z∈N,M (la z)=some (.lst (gD (uz R z)))
structure OkN(N:List Str):Prop where
 len:N.length<=8
 nd:N.Nodup
 word:∀ z∈N,m8 z=true/\z.length<=8
def fV(ps:List Stp):Prop:=∀ e∈ps,0<=e.1/\e.1<10000/\m8 e.2=true/\e.2.length<=8
theorem kb{ps qs:List Stp}(h:fV ps)(h':fV qs):fV (ps++qs):=λ e he=>(List.mem_append.mp he).elim (h e) (h' e)
theorem nD{k:Nat}{s:Str}{ps:List Stp}(hs:m8 s=true)(h:fV ps):∀ x∈bR s ps,okD k x=true:=by
 intro x hx;rcases List.mem_cons.mp hx with rfl | hx
 ·cases k<;>simp[okD,hs]
 ·obtain⟨e,he,h2⟩:=List.mem_flatMap.mp hx;obtain⟨a,b,c,_⟩:=h e he;simp only[List.mem_cons,List.not_mem_nil,or_false] at h2;rcases h2 with rfl | rfl
  ·have:e.1.natAbs<2 ^ 100:=Nat.lt_of_lt_of_le (by omega:e.1.natAbs<10000) (by decide);cases k<;>simpa [okD] using this
  ·cases k<;>simp[okD,c]
def pW(R:List Row3)(N:List Str)(L:WL)(Y:List Str)(P:List Row3)(m:Str)(q:List Stp):Prop:=∃ r∈P,∃ z,fd Prod.fst L r.2.2=some z/\m∈N/\m ∉ Y/\hasB R m r.2.1=false/\q=z.2++[(r.1,m)]
structure OkL(L:WL)(n:Nat):Prop where
 nd:(L.map (·.1)).Nodup
 ok:∀ p∈L,p.2.length=n/\fV p.2
def bx:SpD:=λ ws M Q=>∃ (a:Addr) (R:List Row3) (c rr:Addr) (N:List Str) (la:Str->Addr) (s:Str) (L:WL) (Y:List Str) (n:Nat),ws=[.m a,.d (dW R),.m c,.m rr]/\OkR R/\OkN N /\
 M a=some (.dic (oz s L))/\KdM M c N la R/\M rr=some (.dic (kf Y λ _=>.d (.bool true)))/\m8 s=true/\OkL L n/\n<=100/\a≠c/\rr≠c /\
 ∀ f L',M f=none->Fur (pW R N L Y R) (n+1) L'->Q (.m f) (bH M f (.dic (oz s L')))
theorem kX:∀ ws M Q,bx ws M Q->ws.length=4:=by rintro ws M Q ⟨a,R,c,rr,N,la,s,L,Y,n,rfl,_⟩;rfl
theorem wW{C:Str->List Stp->Prop}{n k:Nat}{L:WL}{N:List Str}(h:Fur C n L)(hN:N.length<=k)(hc:∀ m q,C m q->m∈N):L.length<=k:=by
 have:(L.map (·.1)) ⊆ N:=λ m hm=>by obtain⟨p,hp,rfl⟩:=List.mem_map.mp hm;exact hc _ _ (h.is p hp).1
 have:=h.nd.length_le_of_subset this;rw[List.length_map] at this;omega
def aiM(a:Addr)(R:List Row3)(c rr f:Addr)(x5 x6 x7 x8 x9:Option W):DS:=[some (.m a),some (.d (dW R)),some (.m c),some (.m rr),some (.m f),x5,x6,x7,x8,x9]
theorem eS(s:Str):∀ ps:List Stp,(bR s ps).length=1+2 * ps.length
 | []=>rfl
 | e::ps=>by have:=eS s ps;simp only[bR,List.length_cons,jF] at this ⊢;omega
theorem js:∀ ws M Q,bx ws M Q->iK {nx:=λ _ M'=>Q (.d .none) M',rt:=Q} (aY iz ws) M:=by
 rintro ws M Q ⟨a,R,c,rr,N,la,s,L,Y,n,rfl,okR,okN,ha,kd,hr,hs,okL,hn,hac,hrc,q⟩;intro f hf;have nf:∀ {b o},M b=some o->b≠f:=λ h e=>by rw[e,hf] at h;cases h
 refine⟨_,rfl,_,rfl,λ i τ M'=>(∃ x5 x6 x7 x8 x9,τ=aiM a R c rr f x5 x6 x7 x8 x9)/\∃ L',Fur (pW R N L Y (R.take i)) (n+1) L'/\M'=bH M f (.dic (oz s L')),⟨⟨_,_,_,_,_,rfl⟩,[],(Fur.empty _).congr λ m q=>⟨False.elim,λ⟨r,h,_⟩=>by simp at h⟩,rfl⟩,λ i w τ M' hw ⟨⟨x5,x6,x7,x8,x9,e⟩,L',fu,eM⟩=>?_,λ τ M' ⟨⟨x5,x6,x7,x8,x9,e⟩,L',fu,eM⟩=>?_⟩
 ·subst e eM;rw[List.map_map,List.getElem?_map] at hw;obtain⟨r,hri,rfl⟩:=Option.map_eq_some_iff.mp hw;have hrm:=List.mem_of_getElem? hri;have tk:R.take (i+1)=R.take i++[r]:=by rw[List.take_add_one,hri];rfl
  have ca:∀ m q,pW R N L Y (R.take (i+1)) m q ↔ pW R N L Y (R.take i) m q\/pW R N L Y [r] m q:=λ m q=>by
   rw[tk];constructor
   ·rintro⟨r',h,k⟩;exact(List.mem_append.mp h).elim (λ h=>.inl ⟨r',h,k⟩) (λ h=>.inr ⟨r',h,k⟩)
   ·rintro(⟨r',h,k⟩ | ⟨r',h,k⟩)
    ·exact⟨r',List.mem_append_left _ h,k⟩
    ·exact⟨r',List.mem_append_right _ h,k⟩
  have sa:∀ {b o x},M b=some o->bH M f x b=some o:=λ h=>by rw[aI (nf h)];exact h
  refine⟨_,rfl,rfl,_,_,rfl,_,_,rfl,_,_,rfl,rfl,?_⟩;refine⟨_,rfl,_,rfl,_,.k (k:=.inr r.2.2) (sa ha),_,rfl,?_⟩;rw[fm];cases hz:fd Prod.fst L r.2.2 with
  | none =>
   refine dP ⟨⟨_,_,_,_,_,rfl⟩,L',fu.congr λ m q=>?_,rfl⟩;rw[ca];exact⟨.inl,λ h=>h.elim id λ⟨r',h1,z,h2,_⟩=>by rw[List.mem_singleton.mp h1,hz] at h2;cases h2⟩
  | some z =>
   refine gE ?_;have ncf:c≠f:=nf kd.dic;refine⟨_,rfl,c,_,rfl,sa kd.dic,λ j τ M'=>(∃ x8 x9,τ=aiM a R c rr f (some (.d (.int r.1))) (some (.d (.str r.2.1))) (some (.d (.str r.2.2))) x8 x9) /\
    ∃ L2,Fur (λ m q=>pW R N L Y (R.take i) m q\/(pW R N L Y [r] m q/\m∈N.take j)) (n+1) L2/\M'=bH M f (.dic (oz s L2)),
    ⟨⟨_,_,rfl⟩,L',fu.congr λ m q=>⟨.inl,λ h=>h.elim id λ h=>by simp at h⟩,rfl⟩,λ j w τ M' hw ⟨⟨x8,x9,e⟩,L2,fu,eM⟩=>?_,λ τ M' ⟨⟨x8,x9,e⟩,L2,fu,eM⟩=>?_⟩
   ·subst e eM;rw[kf,List.map_map,List.getElem?_map] at hw;obtain⟨m,hmj,rfl⟩:=Option.map_eq_some_iff.mp hw;have hmN:=List.mem_of_getElem? hmj;have tk2:N.take (j+1)=N.take j++[m]:=by rw[List.take_add_one,hmj];rfl
    have skip:(∀ q,¬ pW R N L Y [r] m q)->Fur (λ m q=>pW R N L Y (R.take i) m q\/(pW R N L Y [r] m q/\m∈N.take (j+1))) (n+1) L2:=λ h=>fu.congr λ m' q=>by
     rw[tk2];constructor
     ·rintro(h1 | ⟨h1,h2⟩)
      ·exact .inl h1
      ·exact .inr ⟨h1,List.mem_append_left _ h2⟩
     ·rintro(h1 | ⟨h1,h2⟩)
      ·exact .inl h1
      ·rcases List.mem_append.mp h2 with h2 | h2
       ·exact .inr ⟨h1,h2⟩
       ·rw[List.mem_singleton.mp h2] at h1;exact absurd h1 (h q)
    have sb:∀ {b o x},M b=some o->b≠c->bH M f x b=some o:=λ h h2=>by rw[aI (nf h)];exact h
    refine⟨_,rfl,_,rfl,_,.k (k:=.inr m) (sb hr hrc),_,rfl,?_⟩
    by_cases hY:m∈Y
    ·rw[ka hY];refine dP (dP ⟨⟨_,_,rfl⟩,L2,skip (λ q ⟨r',h1,z',h2,h3,h4,h5⟩=>h4 hY),rfl⟩)
    rw[acM hY];have lac:la m≠c:=λ e=>by have:=kd.lst m hmN;rw[e,kd.dic] at this;cases this
    refine gE ⟨_,rfl,_,rfl,_,rfl,c,_,.inr m,_,rfl,.inr (sa kd.dic),rfl,ka hmN,?_⟩;refine⟨_,uz R m,rfl,.m (sb (kd.lst m hmN) lac),_,rfl,?_⟩;rw[tQ];cases hB:hasB R m r.2.1 with
    | true=>exact dP ⟨⟨_,_,rfl⟩,L2,skip (λ q ⟨r',h1,z',h2,h3,h4,h5,_⟩=>by rw[List.mem_singleton.mp h1,hB] at h5;cases h5),rfl⟩
    | false =>
     refine gE ?_;obtain⟨hzL,_⟩:=eJ hz;obtain⟨zl,zok⟩:=okL.ok z hzL;refine⟨_,rfl,_,rfl,a,_,.inr r.2.2,_,rfl,.inl (sb ha hac),rfl,by rw[fm,hz];rfl,?_⟩;have sl:1000000<=sizeLine:=by decide
     let qn:=z.2++[(r.1,m)]
     have qlen:qn.length=n+1:=by simp[qn,zl]
     have rn:=okR.num r hrm;have nw:=okN.word m hmN;have qok:fV qn:=kb zok λ e he=>by rw[List.mem_singleton.mp he];exact⟨rn.1,rn.2,nw.1,nw.2⟩
     have qD:bR s z.2++[.int r.1,.str m]=bR s qn:=by simp[bR,qn,d0]
     refine⟨_,rfl,_,rfl,[.int r.1,.str m],rfl,by simp only[List.length_cons,List.length_nil];omega,bR s z.2,_,rfl,rfl,(λ h=>by cases h),?_,?_⟩
     ·have:(bR s z.2).length=1+2 * n:=by rw[<- zl];exact eS s z.2
      rw[this];simp only[List.length_cons,List.length_nil];omega
     rw[qD];have f2:bH M f (.dic (oz s L2)) f=some (.dic (oz s L2)):=ak;refine⟨_,rfl,.k f2,_,rfl,_,rfl,_,.k (k:=.inr m) f2,?_⟩;rw[fm]
     let A0:List Stp:=((fd Prod.fst L2 m).map (·.2)).getD qn
     have eA:(((fd Prod.fst L2 m).map λ b=>W.d (u4 s b)).getD (.d (.tuple (bR s qn))))=.d (.tuple (bR s A0)):=by show _=W.d (.tuple (bR s (((fd Prod.fst L2 m).map (·.2)).getD qn)));cases fd Prod.fst L2 m<;>rfl
     have A0c:A0=qn\/∃ p∈L2,A0=p.2:=by
      show((fd Prod.fst L2 m).map (·.2)).getD qn=qn\/∃ p∈L2,((fd Prod.fst L2 m).map (·.2)).getD qn=p.2;cases e:fd Prod.fst L2 m with
      | none=>exact .inl rfl
      | some p=>exact .inr ⟨p,(eJ e).1,rfl⟩
     have cok:∀ {m' q'},(pW R N L Y (R.take i) m' q'\/(pW R N L Y [r] m' q'/\m'∈N.take j))->fV q':=λ {m' q'} h=>by
      have:pW R N L Y R m' q':=by
       rcases h with ⟨r',h1,h2⟩ | ⟨⟨r',h1,h2⟩,_⟩
       ·exact⟨r',List.mem_of_mem_take h1,h2⟩
       ·rw[List.mem_singleton.mp h1] at h2;exact⟨r,hrm,h2⟩
      obtain⟨r',h1,z',h2,h3,_,_,rfl⟩:=this;have:=okR.num r' h1;have nw':=okN.word _ h3;exact kb (okL.ok z' (eJ h2).1).2 λ e he=>by rw[List.mem_singleton.mp he];exact⟨this.1,this.2,nw'.1,nw'.2⟩
     have A0l:A0.length=n+1/\fV A0:=by
      rcases A0c with e | ⟨p,hp,e⟩
      ·rw[e];exact⟨qlen,qok⟩
      ·rw[e];exact⟨fu.len _ _ (fu.is p hp).1,cok (fu.is p hp).1⟩
     have lt:sZ S.cz [bR s A0,bR s qn]:=l4 (sh:=true::shE (n+1)) (by
       intro x hx;simp only[List.mem_cons,List.not_mem_nil,or_false] at hx;rcases hx with rfl | rfl
       ·rw[<- A0l.1];exact ba s A0
       ·rw[<- qlen];exact ba s qn) (by
       intro x hx;simp only[List.mem_cons,List.not_mem_nil,or_false] at hx;rcases hx with rfl | rfl
       ·exact nD hs A0l.2
       ·exact nD hs qok)
     have eL:(if S.cz (bR s qn) (bR s A0)=true then bR s qn else bR s A0)=bR s (kC L2 m qn):=by
      rw[zw];show(if S.cz (d0 qn) (d0 (((fd Prod.fst L2 m).map (·.2)).getD qn))=true then bR s qn else bR s (((fd Prod.fst L2 m).map (·.2)).getD qn))=_;unfold kC;cases e:fd Prod.fst L2 m with
      | none=>simp
      | some p=>dsimp only[Option.map,Option.getD];split<;>rfl
     rw[eA];refine⟨_,rfl,_,_,S.cz,rfl,lt,?_⟩;rw[eL];have hl8:L2.length<=8:=wW fu okN.len λ m' q' h=>by
      rcases h with ⟨_,_,_,_,h,_⟩ | ⟨⟨_,_,_,_,h,_⟩,_⟩<;>exact h
     refine⟨_,rfl,_,rfl,f,_,.inr m,rfl,f2,rfl,by simp only[oz,aS,rk,List.length_map];omega,⟨_,_,rfl⟩,pt Prod.fst L2 (m,kC L2 m qn),(fu.put qlen).congr λ m' q'=>?_,?_⟩
     ·rw[tk2];have cq:∀ {m' q'},pW R N L Y [r] m' q'->m'=m->q'=qn:=λ⟨r',h1,z',h2,_,_,_,h3⟩ e=>by rw[List.mem_singleton.mp h1] at h2 h3;rw[hz] at h2;rw[h3,<- Option.some.inj h2,e]
      have cm:pW R N L Y [r] m qn:=⟨r,List.mem_singleton.mpr rfl,z,hz,hmN,hY,hB,rfl⟩;constructor
      ·rintro((h | ⟨h,h'⟩) | ⟨rfl,rfl⟩)
       ·exact .inl h
       ·exact .inr ⟨h,List.mem_append_left _ h'⟩
       ·exact .inr ⟨cm,List.mem_append_right _ (List.mem_singleton.mpr rfl)⟩
      ·rintro(h | ⟨h,h'⟩)
       ·exact .inl (.inl h)
       ·rcases List.mem_append.mp h' with h' | h'
        ·exact .inl (.inr ⟨h,h'⟩)
        ·have e:=List.mem_singleton.mp h';exact .inr ⟨e,cq h e⟩
     ·rw[dE];exact congrArg (λ kvs=>bH M f (.dic kvs)) (vJ (u4 s) L2 (m,kC L2 m qn) rfl)
   ·subst e eM;refine⟨⟨_,_,_,_,_,rfl⟩,L2,fu.congr λ m q=>?_,rfl⟩;rw[ca];constructor
    ·rintro(h | ⟨h,_⟩)
     ·exact .inl h
     ·exact .inr h
    ·rintro(h | h)
     ·exact .inl h
     ·refine .inr ⟨h,?_⟩;obtain⟨_,_,_,_,h3,_⟩:=h;rw[show(kf N λ z=>W.m (la z)).map (λ p=>kW p.1)=N.map λ z=>kW (.inr z) by simp[kf],List.length_map,List.take_length];exact h3
 ·subst e eM;refine⟨_,rfl,?_⟩;exact q f L' hf (fu.congr λ m q=>by rw[List.take_of_length_le (by simp)])
structure Lv(G:Gr)(s:Str)(d:Nat)(L:WL)(Y:List Str):Prop where
 nd:(L.map (·.1)).Nodup
 mem:∀ p∈L,G.lev s d p.1/\G.best s d p.1 p.2
 all:∀ m,G.lev s d m->m∈L.map (·.1)
 yok:∀ m,m∈Y ↔ ∃ d',d'<=d/\G.lev s d' m
 ynd:Y.Nodup
theorem Lv.find{G:Gr}{s:Str}{d:Nat}{L:WL}{Y:List Str}(h:Lv G s d L Y){m:Str}{ps:List Stp}(hl:G.lev s d m)(hb:G.best s d m ps):fd Prod.fst L m=some (m,ps):=by obtain⟨p,hp,e⟩:=List.mem_map.mp (h.all m hl);have e:p.1=m:=e;subst e;rw[rK (nm:=Prod.fst) h.nd hp,<- o9 (h.mem p hp).2 hb]
theorem Lv.zero(G:Gr)(s:Str):Lv G s 0 [(s,[])] [s] where
 nd:=by simp
 mem p hp:=by
  rw[List.mem_singleton.mp hp];exact⟨eI.mpr rfl,trivial,rfl,rfl,λ qs _ hq _=>by have:qs=[]:=List.length_eq_zero_iff.mp hq;subst this;rfl⟩
 all m h:=by rw[eI.mp h];simp
 yok m:=by
  rw[List.mem_singleton];constructor
  ·rintro rfl;exact⟨0,Nat.le_refl _,eI.mpr rfl⟩
  ·rintro⟨d',h,h'⟩;have:d'=0:=by omega
   subst this;exact eI.mp h'
 ynd:=by simp
theorem Lv.next{R:List Row3}{N:List Str}{s:Str}{d:Nat}{L L':WL}{Y:List Str}(h:Lv ⟨R,N⟩ s d L Y)(f:Fur (pW R N L Y R) (d+1) L'):Lv ⟨R,N⟩ s (d+1) L' (Y++L'.map (·.1)):=by
 have hm:∀ p∈L',Gr.lev ⟨R,N⟩ s (d+1) p.1/\Gr.best ⟨R,N⟩ s (d+1) p.1 p.2:=λ p hp=>by
  obtain⟨⟨r,hr,z,hz,hN,hY,hB,e⟩,least⟩:=f.is p hp;obtain⟨hzL,ez⟩:=eJ hz;obtain⟨zl,zb⟩:=h.mem z hzL;rw[ez] at zl zb;have he:Gr.uY ⟨R,N⟩ r.2.2 (r.1,p.1):=⟨r.2.1,hr,hN,hB⟩;have hl:=aaX zl he λ d' hd' q=>hY ((h.yok _).mpr ⟨d',hd',q⟩);refine⟨hl,pg hl ?_ ?_ ?_ (λ p' n qs hq he'=>?_) λ p' hp'=>jT hp'⟩
  ·rw[e];exact bC.mpr ⟨zb.1,by rw[zb.2.2.1];exact⟨he,trivial⟩⟩
  ·rw[e];simp[zb.2.1]
  ·rw[e,cI];rfl
  ·have hl':=sf hl hq he';obtain⟨k,hk,_,hB'⟩:=he';exact least _ ⟨(n,k,p'),hk,_,h.find hl' hq,hN,hY,hB',rfl⟩
 refine⟨f.nd,hm,λ m hl=>?_,λ m=>?_,?_⟩
 ·obtain⟨⟨ps,a1,a2,a3⟩,_⟩:=id hl;obtain⟨qs,e,rfl,hq⟩:=g6 a2;obtain⟨w1,w2⟩:=bC.mp a1;rw[cI] at a3;have a3:e.2=m:=a3;subst a3;have hp:=gC hl a1 hq;obtain⟨rs,hr⟩:=jT hp;obtain⟨k,hk,hN,hB⟩:=w2.1;exact f.all _ _ ⟨(e.1,k,fin s qs),hk,_,h.find hp hr,hN,λ hY=>by obtain⟨d',h1,h2⟩:=(h.yok _).mp hY;have:=jx h2 hl;omega,hB,rfl⟩
 ·rw[List.mem_append,h.yok];constructor
  ·rintro(⟨d',h1,h2⟩ | h1)
   ·exact⟨d',by omega,h2⟩
   ·obtain⟨p,hp,e⟩:=List.mem_map.mp h1;have e:p.1=m:=e;subst e;exact⟨d+1,Nat.le_refl _,(hm p hp).1⟩
  ·rintro⟨d',h1,h2⟩;rcases Nat.lt_or_ge d d' with z | z
   ·have:d'=d+1:=by omega
    subst this;right;obtain⟨⟨ps,a1,a2,a3⟩,_⟩:=id h2;obtain⟨qs,e,rfl,hq⟩:=g6 a2;obtain⟨w1,w2⟩:=bC.mp a1;rw[cI] at a3;have a3:e.2=m:=a3;subst a3;have hp:=gC h2 a1 hq;obtain⟨rs,hr⟩:=jT hp;obtain⟨k,hk,hN,hB⟩:=w2.1;exact f.all _ _ ⟨(e.1,k,fin s qs),hk,_,h.find hp hr,hN,λ hY=>by obtain⟨d',h1,h2'⟩:=(h.yok _).mp hY;have:=jx h2' h2;omega,hB,rfl⟩
   ·exact .inl ⟨d',z,h2⟩
 ·refine List.nodup_append.mpr ⟨h.ynd,f.nd,λ a ha b hb e=>?_⟩;subst e;obtain⟨d',h1,h2⟩:=(h.yok _).mp ha;obtain⟨p,hp,e⟩:=List.mem_map.mp hb;have e:p.1=a:=e;subst e;have:=jx h2 (hm p hp).1;omega
theorem adf{R:List Row3}{N:List Str}{L:WL}{Y:List Str}(okR:OkR R)(okN:OkN N)(okL:∀ p∈L,fV p.2){m:Str}{q:List Stp}(h:pW R N L Y R m q):fV q:=by obtain⟨r,h1,z,h2,h3,_,_,rfl⟩:=h;have:=okR.num r h1;have nw:=okN.word _ h3;exact kb (okL z (eJ h2).1) λ e he=>by rw[List.mem_singleton.mp he];exact⟨this.1,this.2,nw.1,nw.2⟩
theorem rj{G:Gr}{s:Str}(qs:List Stp)(hq:G.walk s qs):∃ d,d<=qs.length/\G.lev s d (fin s qs):=by
 have main:∀ n,(∃ rs,G.walk s rs/\rs.length=n/\fin s rs=fin s qs)->n<=qs.length->∃ d',d'<=qs.length/\G.lev s d' (fin s qs):=by
  intro n
  induction n using Nat.strongRecOn with
  | ind n ih =>
   intro hn hle
   by_cases z:∃ k,k<n/\∃ rs,G.walk s rs/\rs.length=k/\fin s rs=fin s qs
   ·obtain⟨k,hk,hr⟩:=z;exact ih k hk hr (by omega)
   ·refine⟨n,hle,hn,λ rs hr he=>?_⟩;apply Classical.byContradiction;intro y;exact z ⟨rs.length,by omega,rs,hr,rfl,he⟩
 exact main _ ⟨qs,hq,rfl,rfl⟩ (Nat.le_refl _)
theorem sm{G:Gr}{s:Str}{d:Nat}:∀ {e:Nat} {m:Str},G.lev s e m->d<=e->∃ m',G.lev s d m'
 | 0,m,h,hd=>by
  have:d=0:=by omega
  subst this;exact⟨m,h⟩
 | e+1,m,h,hd=>by
  rcases Nat.lt_or_ge e d with z | z
  ·have:d=e+1:=by omega
   subst this;exact⟨m,h⟩
  ·obtain⟨⟨ps,a1,a2,a3⟩,_⟩:=id h;obtain⟨qs,e',rfl,hq⟩:=g6 a2;rw[cI] at a3;have a3:e'.2=m:=a3;subst a3;exact sm (gC h a1 hq) z
theorem ahY{G:Gr}{F:List Str}{s:Str}{d:Nat}{Y:List Str}(h:Lv G s d [] Y)(no:∀ d' m',0<d'->d'<=d->G.lev s d' m'->m' ∉ F)(ps:List Stp):¬ G.to F s ps:=by
 rintro⟨hw,hf,hne⟩;obtain⟨k,hk,hl⟩:=rj ps hw;rcases Nat.lt_or_ge d k with z | z
 ·obtain⟨m',hm⟩:=sm hl (Nat.le_of_lt z);have:=h.all m' hm;simp at this
 ·refine no k _ ?_ z hl hf;rcases Nat.eq_zero_or_pos k with e | e
  ·subst e;exact absurd (eI.mp hl) hne
  ·exact e
def cy:SpD:=λ ws M Q=>∃ (s:Str) (R:List Row3) (c:Addr) (N:List Str) (la:Str->Addr) (F:List Str),ws=[.d (.str s),.d (dW R),.m c,.d (.list (F.map PyData.str))]/\OkR R/\OkN N/\s∈N/\KdM M c N la R/\F.length<=8 /\
 (∀ M' ps,Ext M M'->qw (λ t qs=>t=s/\Gr.to ⟨R,N⟩ F t qs) s ps->fV ps->ps.length<=8->Q (.d (.tuple (bR s ps))) M')/\∀ M',Ext M M'->(∀ ps,¬ Gr.to ⟨R,N⟩ F s ps)->Q (.d .none) M'
theorem pP:∀ ws M Q,cy ws M Q->ws.length=4:=by rintro ws M Q ⟨s,R,c,N,la,F,rfl,_⟩;rfl
def aiU(s:Str)(R:List Row3)(c:Addr)(F:List Str)(p a:Addr)(x6 x7:Option W):DS:=[some (.d (.str s)),some (.d (dW R)),some (.m c),some (.d (.list (F.map PyData.str))),some (.m p),some (.m a),x6,x7]
structure WfI(M0:MH)(s:Str)(R:List Row3)(N F:List Str)(p a:Addr)(n d:Nat)(L:WL)(Y:List Str)(M:MH):Prop where
 meas:n=2 * (N.length-Y.length)+(if L=[] then 0 else 1)
 lv:Lv ⟨R,N⟩ s d L Y
 yn:∀ z∈Y,z∈N
 ok:∀ q∈L,fV q.2
 dep:L≠[]->d+1<=Y.length
 no:∀ d' m',0<d'->d'<=d->Gr.lev ⟨R,N⟩ s d' m'->m' ∉ F
 ext:Ext M0 M
 p0:M0 p=none
 a0:M0 a=none
 hp:M p=some (.dic (kf Y λ _=>.d (.bool true)))
 ha:M a=some (.dic (oz s L))
theorem ng:∀ ws M Q,cy ws M Q->mj bx {nx:=λ _ M'=>Q (.d .none) M',rt:=Q} (aY lZ ws) M:=by
 rintro ws M Q ⟨s,R,c,N,la,F,rfl,okR,okN,hsN,kd,hF,qy,qn⟩;intro p hp;refine⟨_,rfl,ak,[(.inr s,.d (.bool true))],rfl,by simp,by simp,?_⟩;rw[dE];intro a ha;have hpa:a≠p:=λ e=>by rw[e,ak] at ha;cases ha
 have ha0:M a=none:=by rwa[aI hpa] at ha
 refine⟨_,rfl,_,rfl,[.str s],rfl,(show 1<=sizeLine by decide),ak,[(.inr s,.d (.tuple [.str s]))],rfl,by simp,by simp,?_⟩;rw[dE];refine⟨λ n τ M'=>∃ d L Y a x6 x7,τ=aiU s R c F p a x6 x7/\WfI M s R N F p a n d L Y M',⟨_,0,[(s,[])],[s],a,_,_,rfl,rfl,Lv.zero _ _,λ z hz=>by rw[List.mem_singleton.mp hz];exact hsN,λ q hq=>by rw[List.mem_singleton.mp hq];exact λ e he=>by simp at he,λ _=>by simp,λ d' m' h1 h2=>by omega,((Ext.refl M).upd hp).upd ha0,hp,ha0,by rw[aI hpa.symm,ak];rfl,ak⟩,λ n τ M' hq128=>?_⟩;obtain⟨d,L,Y,a,x6,x7,e,I⟩:=hq128;subst e;refine⟨_,rfl,_,.dk I.ha,?_⟩;cases L with
 | nil=>exact qn M' I.ext (ahY I.lv I.no)
 | cons l0 L0 =>
 refine gE ?_;generalize hL:l0::L0=L at I;have hL:L≠[]:=by rw[<- hL];simp
 have kd':KdM M' c N la R:=⟨I.ext _ _ kd.dic,λ z hz=>I.ext _ _ (kd.lst z hz)⟩;have hac:a≠c:=λ e=>by have:=I.a0;rw[e,kd.dic] at this;cases this
 have hpc:p≠c:=λ e=>by rw[e,kd.dic] at hp;cases hp
 have yl:Y.length<=8:=Nat.le_trans (I.lv.ynd.length_le_of_subset λ z hz=>I.yn z hz) okN.len;have dl:=I.dep hL;have asc:=(okN.word s hsN).1;refine⟨_,rfl,_,rfl,_,rfl,_,rfl,a,R,c,p,N,la,s,L,Y,d,rfl,okR,okN,I.ha,kd',I.hp,asc,⟨I.lv.nd,λ q hq=>⟨(I.lv.mem q hq).2.2.1,I.ok q hq⟩⟩,by omega,hac,hpc,λ f L' hf fu=>?_⟩;have lv':=I.lv.next fu;have hf0:M f=none:=I.ext.none hf;have hfp:f≠p:=λ e=>by rw[e,I.hp] at hf;cases hf
 have l8:L'.length<=8:=wW fu okN.len λ m q ⟨_,_,_,_,h,_⟩=>h;have ok':∀ q∈L',fV q.2:=λ q hq=>adf okR okN I.ok (fu.is q hq).1;have eK:f9 (rk Prod.fst (u4 s) L')=L'.map λ q=>W.d (.str q.1):=by simp only[f9,rk,List.map_map];rfl
 refine⟨f,_,ak,?_⟩;rw[dE];refine⟨_,rfl,f,rk Prod.fst (u4 s) L',rfl,ak,?_⟩;rw[eK];generalize hMz:bH M' f (.fdic (aS (rk Prod.fst (u4 s) L')))=Mz;have ef:Mz f=some (.fdic (aS (rk Prod.fst (u4 s) L'))):=by rw[<- hMz,ak]
 refine cG L' (λ q=>W.d (.str q.1)) (λ q=>u4 s q) (λ q=>decide (q.1∈F)) (λ τ=>∃ x,τ=[x,some (.m f),some (.d (.list (F.map PyData.str)))]) (λ M''=>M''=Mz) (by omega) ⟨_,rfl⟩ rfl (λ q hq τ M'' hτ hM R' h=>?_) λ τ M5 hM=>?_
 ·obtain⟨x,rfl⟩:=hτ;subst hM;have:=h [some (.d (.str q.1)),some (.m f),some (.d (.list (F.map PyData.str)))] M'' ⟨_,rfl⟩ rfl;refine⟨_,rfl,_,rfl,q.1,F,rfl,?_,_,rfl,?_⟩
  ·have:=zd.l (M:=M'') (ds:=F.map PyData.str);rw[List.map_map] at this;exact this
  cases e:decide (q.1∈F) with
  | false=>rw[e] at this;exact dP this
  | true =>
   rw[e] at this;exact gE ⟨_,rfl,_,rfl,f,_,.inr q.1,_,rfl,.inr ef,rfl,by rw[fm,rK (nm:=Prod.fst) fu.nd hq];rfl,_,rfl,this⟩
 subst hM;refine⟨ef,?_⟩;rw[<- hMz,dE];refine⟨_,rfl,_,.l,?_⟩;have eR:(L'.filter λ q=>decide (q.1∈F)).map (λ q=>u4 s q)=((L'.filter λ q=>decide (q.1∈F)).map λ q=>bR s q.2).map PyData.tuple:=by rw[List.map_map];rfl
 have xf:Ext M (bH M' f (.dic (aS (rk Prod.fst (u4 s) L')))):=I.ext.upd hf0;refine jP (λ e=>?_) λ e=>?_
 ·have ne:(L'.filter λ q=>decide (q.1∈F))≠[]:=λ z=>by rw[z] at e;cases e
  refine⟨_,rfl,_,_,S.cz,rfl,by rw[eR];exact .d,λ z=>ne (List.map_eq_nil_iff.mp z),l4 (sh:=true::shE (d+1)) (λ r hr=>?_) (λ r hr=>?_),λ r hr least=>?_⟩
  ·obtain⟨q,hq,rfl⟩:=List.mem_map.mp hr;rw[<- (lv'.mem q (List.mem_filter.mp hq).1).2.2.1];exact ba s q.2
  ·obtain⟨q,hq,rfl⟩:=List.mem_map.mp hr;exact nD asc (ok' q (List.mem_filter.mp hq).1)
  ·obtain⟨q,hq,rfl⟩:=List.mem_map.mp hr;obtain⟨hqL,hqF⟩:=List.mem_filter.mp hq;obtain⟨m1,m2⟩:=lv'.mem q hqL;refine qy _ q.2 xf (zV (d:=d+1) (by omega) (of_decide_eq_true hqF) m1 m2 (λ d' m' h1 h2 h3=>I.no d' m' h1 (by omega) h3) λ m' qs hm hl hb=>?_) (ok' q hqL) (by rw[m2.2.1];omega);have hz:=lv'.find hl hb;have hz:=(eJ hz).1;exact least _ (List.mem_map.mpr ⟨_,List.mem_filter.mpr ⟨hz,decide_eq_true hm⟩,rfl⟩)
 ·have none':∀ m',Gr.lev ⟨R,N⟩ s (d+1) m'->m' ∉ F:=λ m' hl hm=>by
   obtain⟨q,hq,e2⟩:=List.mem_map.mp (lv'.all m' hl);have e2:q.1=m':=e2;subst e2;have:q∈L'.filter λ q=>decide (q.1∈F):=List.mem_filter.mpr ⟨hq,decide_eq_true hm⟩;cases z:L'.filter λ q=>decide (q.1∈F) with
   | nil=>rw[z] at this;cases this
   | cons a b=>rw[z] at e;cases e
  refine⟨f,_,ak,?_⟩;rw[dE];refine⟨_,rfl,f,rk Prod.fst (u4 s) L',rfl,ak,?_⟩;rw[eK,hMz];refine⟨λ j τ M''=>∃ x7,τ=aiU s R c F p f (some (.d (.list ((L'.filter λ q=>decide (q.1∈F)).map λ q=>u4 s q)))) x7/\M''=bH M5 p (.dic (kf (Y++(L'.map (·.1)).take j) λ _=>.d (.bool true))),⟨_,rfl,?_⟩,λ j w τ M'' hw ⟨x7,e1,e2⟩=>?_,λ τ M'' ⟨x7,e1,e2⟩=>?_⟩
  ·rw[List.take_zero,List.append_nil,qJ];rw[<- hMz,aI hfp.symm];exact I.hp
  ·subst e1 e2;rw[List.getElem?_map] at hw;obtain⟨q,hqj,rfl⟩:=Option.map_eq_some_iff.mp hw;have hnj:(L'.map (·.1))[j]? =some q.1:=by rw[List.getElem?_map,hqj];rfl
   have tk:(L'.map (·.1)).take (j+1)=(L'.map (·.1)).take j++[q.1]:=by rw[List.take_add_one,hnj];rfl
   have nd2:(Y++(L'.map (·.1)).take (j+1)).Nodup:=lv'.ynd.sublist ((List.Sublist.refl Y).append (List.take_sublist _ _));rw[tk,<- List.append_assoc] at nd2;have nin:q.1 ∉ Y++(L'.map (·.1)).take j:=λ h=>(List.nodup_append.mp nd2).2.2 _ h _ (List.mem_singleton.mpr rfl) rfl;have len2:(kf (Y++(L'.map (·.1)).take j) λ _=>W.d (.bool true)).length<sizeLine:=by
    have sl:1000000<=sizeLine:=by decide
    rw[oD,List.length_append,List.length_take,List.length_map];omega
   refine⟨_,rfl,_,rfl,p,_,.inr q.1,rfl,ak,rfl,len2,_,rfl,?_⟩;rw[dE,xq nin,tk,List.append_assoc]
  ·subst e1 e2;rw[List.length_map,<- List.length_map (f:=λ q:Str×List Stp=>q.1),List.take_length];have hNY:∀ z∈Y++L'.map (·.1),z∈N:=λ z hz=>(List.mem_append.mp hz).elim (I.yn z) λ hz=>by obtain⟨q,hq,rfl⟩:=List.mem_map.mp hz;obtain⟨⟨_,_,_,_,h,_⟩,_⟩:=fu.is q hq;exact h
   have ylen:=lv'.ynd.length_le_of_subset λ z hz=>hNY z hz;rw[List.length_append,List.length_map] at ylen;refine⟨by rw[aI hfp];exact ef,_,?_,d+1,L',Y++L'.map (·.1),f,_,_,rfl,⟨rfl,lv',hNY,ok',λ h=>?_,λ d' m' h1 h2 h3=>?_,?_,hp,hf0,by rw[aI hfp.symm,ak],ak⟩⟩
   ·rw[I.meas,if_neg hL,List.length_append,List.length_map];cases z:L' with
    | nil=>simp
    | cons b Lb =>
     rw[z] at ylen;simp only[List.length_cons] at ylen ⊢;rw[if_neg (by simp)];omega
   ·rw[List.length_append,List.length_map];have:=List.length_pos_iff.mpr h;omega
   ·rcases Nat.lt_or_ge d d' with z | z
    ·have:d'=d+1:=by omega
     subst this;exact none' m' h3
    ·exact I.no d' m' h1 z h3
   ·rw[<- hMz];exact(((I.ext.upd hf0).upd hp).upd hf0)
theorem jB(s:Str)(e:Stp)(ps:List Stp):bR s (e::ps)=.str s::.int e.1::bR e.2 ps:=rfl
theorem sy:∀ (s:Str) (ps:List Stp),(bR s ps).getLast? =some (.str (fin s ps))
 | s,[]=>rfl
 | s,e::ps=>by
  rw[jB,List.getLast?_cons_cons];have:=sy e.2 ps;cases z:bR e.2 ps with
  | nil=>rw[z] at this;cases this
  | cons a b=>rw[List.getLast?_cons_cons,<- z];exact this
def afj(s:Str)(ps:List Stp)(m:Str):Bool:=s==m || ps.any λ e=>e.2==m
abbrev Way:=Str×List Stp
def ae5(p:Way):PyData:=.tuple (bR p.1 p.2)
def ltW(p q:Way):Bool:=if p.2.length=q.2.length then S.cz (bR p.1 p.2) (bR q.1 q.2) else decide (p.2.length<q.2.length)
def sY(p:Way):List PyData:=[.int ((bR p.1 p.2).length:Nat),.tuple (bR p.1 p.2)]
def ltK:List PyData->List PyData->Bool
 | [.int a,.tuple xs],[.int b,.tuple ys]=>if a=b then S.cz xs ys else decide (a<b)
 | _,_=>false
theorem g7(p q:Way):ltK (sY p) (sY q)=ltW p q:=by
 show(if (((bR p.1 p.2).length:Nat):Int)=((bR q.1 q.2).length:Nat) then S.cz (bR p.1 p.2) (bR q.1 q.2) else decide ((((bR p.1 p.2).length:Nat):Int)<((bR q.1 q.2).length:Nat)))=_;unfold ltW;rw[eS,eS]
 by_cases e:p.2.length=q.2.length
 ·rw[if_pos e,if_pos (by omega)]
 ·rw[if_neg e,if_neg (by omega)];exact decide_eq_decide.mpr (by omega)
theorem xN:∀ {s t:Str} {ps qs:List Stp},PyData.eqvAll (bR s ps) (bR t qs)=true->bR s ps=bR t qs
 | s,t,[],[],h=>by
  have h:(PyData.eqv (.str s) (.str t)&&true)=true:=h;rw[d3] at h;have e:s=t:=by simpa using h
  rw[e]
 | s,t,a::ps,b::qs,h=>by rw[jB,jB] at h ⊢;have h:(PyData.eqv (.str s) (.str t)&&(PyData.eqv (.int a.1) (.int b.1)&&PyData.eqvAll (bR a.2 ps) (bR b.2 qs)))=true:=h;rw[d3] at h;simp only[Bool.and_eq_true,beq_iff_eq] at h;obtain⟨h1,h2,h3⟩:=h;have h2:(a.1==b.1)=true:=h2;rw[xN h3,h1,eq_of_beq h2]
 | s,t,[],b::qs,h=>by have h:(PyData.eqv (.str s) (.str t)&&false)=true:=h;simp at h
 | s,t,a::ps,[],h=>by have h:(PyData.eqv (.str s) (.str t)&&false)=true:=h;simp at h
theorem aaI{p q:Way}(h:ltW p q=true):ltW q p=false:=by
 unfold ltW at h ⊢
 by_cases e:p.2.length=q.2.length
 ·rw[if_pos e] at h;rw[if_pos e.symm];exact S.h9 (ba p.1 p.2) (by rw[e];exact ba q.1 q.2) h
 ·rw[if_neg e] at h;rw[if_neg (Ne.symm e)];have:=of_decide_eq_true h;exact decide_eq_false (by omega)
theorem ahb{a b c:Way}(h:ltW b a=false)(k:ltW c b=false):ltW c a=false:=by
 unfold ltW at h k ⊢
 by_cases e1:b.2.length=a.2.length
 ·rw[if_pos e1] at h
  by_cases e2:c.2.length=b.2.length
  ·rw[if_pos e2] at k;rw[if_pos (e2.trans e1)];exact S.d5 (sh:=true::shE a.2.length) (ba a.1 a.2) (by rw[<- e1];exact ba b.1 b.2) (by rw[<- e1,<- e2];exact ba c.1 c.2) h k
  ·rw[if_neg e2] at k;have:=of_decide_eq_false k;rw[if_neg (by omega)];exact decide_eq_false (by omega)
 ·rw[if_neg e1] at h;have:=of_decide_eq_false h
  by_cases e2:c.2.length=b.2.length
  ·rw[if_neg (by omega)];exact decide_eq_false (by omega)
  ·rw[if_neg e2] at k;have:=of_decide_eq_false k;rw[if_neg (by omega)];exact decide_eq_false (by omega)
theorem zG{rows:List (List PyData)}(h:∀ r∈rows,∃ p:Way,r=sY p/\m8 p.1=true/\fV p.2/\p.2.length<=8):sZ ltK rows where
 cmp a ha b hb:=by
  obtain⟨p,rfl,_⟩:=h a ha;obtain⟨q,rfl,_⟩:=h b hb;rw[g7];unfold sY ltW;rw[eS,eS]
  by_cases e:p.2.length=q.2.length
  ·rw[if_pos e,e];refine .eq ?_
   by_cases z:bR p.1 p.2=bR q.1 q.2
   ·rw[z,S.fO _ (ba q.1 q.2)];exact .eq .nn
   ·refine .tup ?_ (mZ (ba p.1 p.2) (by rw[e];exact ba q.1 q.2));cases w:PyData.eqvAll (bR p.1 p.2) (bR q.1 q.2) with
    | true=>exact absurd (xN w) z
    | false=>rfl
  ·rw[if_neg e];have:decide (p.2.length<q.2.length)=decide (((1+2 * p.2.length:Nat):Int)<((1+2 * q.2.length:Nat):Int)):=decide_eq_decide.mpr (by omega);rw[this];exact .int (by omega)
 asym a ha b hb:=by obtain⟨p,rfl,_⟩:=h a ha;obtain⟨q,rfl,_⟩:=h b hb;rw[g7,g7];exact aaI
 tr a ha b hb c hc:=by obtain⟨p,rfl,_⟩:=h a ha;obtain⟨q,rfl,_⟩:=h b hb;obtain⟨r,rfl,_⟩:=h c hc;rw[g7,g7,g7];exact ahb
 ok a ha:=by
  obtain⟨p,rfl,h1,h2,h3⟩:=h a ha;refine nM (k:=4) (by decide) ?_;have w:okD 3 (.tuple (bR p.1 p.2))=true:=kE (nD h1 h2);have l:okD 3 (.int ((bR p.1 p.2).length:Nat))=true:=by
   rw[eS];have:(((1+2 * p.2.length:Nat):Int)).natAbs<2 ^ 100:=Nat.lt_of_lt_of_le (by omega:(((1+2 * p.2.length:Nat):Int)).natAbs<1000) (by decide)
   simpa [okD] using this
  refine kE λ d hd=>?_;simp only[sY,List.mem_cons,List.not_mem_nil,or_false] at hd;rcases hd with rfl | rfl
  ·exact l
  ·exact w
def Gr.way(G:Gr)(free:List Str)(k s:Str)(ps:List Stp):Prop:=s∈G.names/\G.has s k=false/\G.to free s ps
structure xA(G:Gr)(free N:List Str)(k:Str)(W0:List Way):Prop where
 is:∀ p∈W0,p.1∈N/\G.has p.1 k=false/\qw (λ t qs=>t=p.1/\G.to free t qs) p.1 p.2
 all:∀ s∈N,G.has s k=false->∀ ps,G.to free s ps->∃ p∈W0,p.1=s
theorem xA.none{G:Gr}{free:List Str}{k:Str}(h:xA G free G.names k [])(s:Str)(ps:List Stp):¬ G.way free k s ps:=λ hq129=>by obtain⟨a,b,c⟩:=hq129;obtain⟨p,hp,_⟩:=h.all s a b ps c;simp at hp
theorem xA.least{G:Gr}{free:List Str}{k:Str}{W0:List Way}(h:xA G free G.names k W0){p:Way}(hp:p∈W0)(hl:∀ x∈W0,ltW x p=false):qw (G.way free k) p.1 p.2:=by
 obtain⟨a,b,c⟩:=h.is p hp;refine⟨⟨a,b,c.1.2⟩,λ t qs hq130=>?_⟩;obtain⟨ha,hb,hc⟩:=hq130;obtain⟨x,hx,rfl⟩:=h.all t ha hb qs hc;obtain⟨x1,x2⟩:=(h.is x hx).2.2.2 x.1 qs ⟨rfl,hc⟩;have hlx:=hl x hx;unfold ltW at hlx
 by_cases e:x.2.length=p.2.length
 ·rw[if_pos e] at hlx;refine⟨by omega,λ e2=>?_⟩;exact S.d5 (sh:=true::shE p.2.length) (ba _ _) (by rw[<- e];exact ba _ _) (by rw[<- e2];exact ba _ _) hlx (x2 (by omega))
 ·rw[if_neg e] at hlx;have:=of_decide_eq_false hlx;exact⟨by omega,λ e2=>by omega⟩
theorem xA.skip{G:Gr}{free N:List Str}{k z:Str}{W0:List Way}(h:xA G free N k W0)(n:G.has z k=false->∀ ps,¬ G.to free z ps):xA G free (N++[z]) k W0:=
 ⟨λ p hp=>⟨List.mem_append_left _ (h.is p hp).1,(h.is p hp).2⟩,λ s hs hb ps ht=>by
  rcases List.mem_append.mp hs with hs | hs
  ·exact h.all s hs hb ps ht
  ·rw[List.mem_singleton.mp hs] at hb ht;exact absurd ht (n hb ps)⟩
theorem xA.put{G:Gr}{free N:List Str}{k z:Str}{W0:List Way}{ps:List Stp}(h:xA G free N k W0)(hb:G.has z k=false)(hl:qw (λ t qs=>t=z/\G.to free t qs) z ps):xA G free (N++[z]) k (W0++[(z,ps)]):=
 ⟨λ p hp=>by
  rcases List.mem_append.mp hp with hp | hp
  ·exact⟨List.mem_append_left _ (h.is p hp).1,(h.is p hp).2⟩
  ·rw[List.mem_singleton.mp hp];exact⟨List.mem_append_right _ (List.mem_singleton.mpr rfl),hb,hl⟩,λ s hs hb ps ht=>by
  rcases List.mem_append.mp hs with hs | hs
  ·obtain⟨p,hp,e⟩:=h.all s hs hb ps ht;exact⟨p,List.mem_append_left _ hp,e⟩
  ·exact⟨_,List.mem_append_right _ (List.mem_singleton.mpr rfl),(List.mem_singleton.mp hs).symm⟩⟩
structure KdA(M0 M:MH)(c:Addr)(N:List Str)(la:Str->Addr)(L:Str->List W):Prop where
 dic:M c=some (.dic (kf N λ z=>.m (la z)))
 lst:∀ z∈N,M (la z)=some (.lst (L z))
 inj:∀ y∈N,∀ z∈N,la y=la z->y=z
 ext:Ext M0 M
 c0:M0 c=none
 l0:∀ z∈N,M0 (la z)=none
theorem KdA.lc{M0 M:MH}{c:Addr}{N:List Str}{la:Str->Addr}{L:Str->List W}(h:KdA M0 M c N la L){z:Str}(hz:z∈N):la z≠c:=λ e=>by have:=h.lst z hz;rw[e,h.dic] at this;cases this
theorem KdA.add{M0 M:MH}{c:Addr}{N:List Str}{la:Str->Addr}{L:Str->List W}(h:KdA M0 M c N la L){z:Str}{q:Addr}(hz:z ∉ N)(hq:M q=none)(hL:L z=[]) :
  KdA M0 (bH (bH M q (.lst [])) c (.dic (kf (N++[z]) λ y=>.m (yX la z q y)))) c (N++[z]) (yX la z q) L:=by
 have qc:q≠c:=λ e=>by rw[e,h.dic] at hq;cases hq
 have q0:M0 q=none:=h.ext.none hq;have nz:∀ y∈N,y≠z:=λ y hy e=>hz (e ▸ hy);have nq:∀ y∈N,la y≠q:=λ y hy e=>by have:=h.lst y hy;rw[e,hq] at this;cases this
 refine⟨ak,λ y hy=>?_,λ y hy x hx e=>?_,(h.ext.upd q0).upd h.c0,h.c0,λ y hy=>?_⟩
 ·rcases List.mem_append.mp hy with hy | hy
  ·rw[ft (nz y hy),aI (h.lc hy),aI (nq y hy)];exact h.lst y hy
  ·rw[List.mem_singleton.mp hy,hU,aI qc,ak,hL]
 ·rcases List.mem_append.mp hy with hy | hy<;>rcases List.mem_append.mp hx with hx | hx
  ·rw[ft (nz y hy),ft (nz x hx)] at e;exact h.inj y hy x hx e
  ·rw[List.mem_singleton.mp hx,hU,ft (nz y hy)] at e;exact absurd e (nq y hy)
  ·rw[List.mem_singleton.mp hy,hU,ft (nz x hx)] at e;exact absurd e.symm (nq x hx)
  ·rw[List.mem_singleton.mp hy,List.mem_singleton.mp hx]
 ·rcases List.mem_append.mp hy with hy | hy
  ·rw[ft (nz y hy)];exact h.l0 y hy
  ·rw[List.mem_singleton.mp hy,hU];exact q0
theorem KdA.app{M0 M:MH}{c:Addr}{N:List Str}{la:Str->Addr}{L:Str->List W}(h:KdA M0 M c N la L){z:Str}(hz:z∈N)(w:W):KdA M0 (bH M (la z) (.lst (L z++[w]))) c N la (yX L z (L z++[w])):=by
 refine⟨by rw[aI (h.lc hz).symm];exact h.dic,λ y hy=>?_,h.inj,h.ext.upd (h.l0 z hz),h.c0,h.l0⟩
 by_cases e:y=z
 ·subst e;rw[ak,hU]
 ·rw[aI λ k=>e (h.inj y hy z hz k),ft e];exact h.lst y hy
theorem ad2{R:List Row3}{i:Nat}{r:Row3}(h:R[i]? =some r):(yX (λ z=>gD (uz (R.take i) z)) r.2.2 (gD (uz (R.take i) r.2.2)++[.d (.str r.2.1)]))=λ z=>gD (uz (R.take (i+1)) z):=by
 funext y;have tk:R.take (i+1)=R.take i++[r]:=by rw[List.take_add_one,h];rfl
 unfold uz;rw[tk]
 by_cases e:y=r.2.2
 ·subst e;rw[hU];simp[List.filter_append,gD]
 ·rw[ft e];have:(r.2.2==y)=false:=beq_eq_false_iff_ne.mpr (Ne.symm e);simp[List.filter_append,this]
abbrev jf(M:MH):Prop:=M aU=some (.code gj ⟨13,25,13,55⟩)
abbrev aP(B:List Bth):List Str:=B.map (·.1)
abbrev grB(B:List Bth)(R:List Row3):Gr:=⟨R,aP B⟩
abbrev og(B:List Bth)(R:List Row3)(k:Str):Str->List Stp->Prop:=Gr.way (grB B R) (cW B R) k
def cV:SpD:=λ ws M Q=>∃ (B:List Bth) (R:List Row3) (k:Str),ws=[.d (lp B),.d (dW R),.d (.str k)]/\OkB B/\OkR R/\(∀ r∈R,r.2.2∈aP B)/\jf M /\
 (∀ M' s ps,Ext M M'->qw (og B R k) s ps->fV ps->ps.length<=8->Q (.d (.tuple (bR s ps))) M')/\∀ M',Ext M M'->(∀ s ps,¬ og B R k s ps)->Q (.d .none) M'
theorem qM:∀ ws M Q,cV ws M Q->ws.length=3:=by rintro ws M Q ⟨B,R,k,rfl,_⟩;rfl
def aiL(B:List Bth)(R:List Row3)(k:Str)(c:Addr)(x4 x5 x6 x7 x8 x9 x10:Option W):DS:=[some (.d (lp B)),some (.d (dW R)),some (.d (.str k)),some (.m c),x4,x5,x6,x7,x8,x9,x10]
structure WaI(M0:MH)(B:List Bth)(R:List Row3)(k:Str)(c wv:Addr)(la:Str->Addr)(i:Nat)(W0:List Way)(M:MH):Prop where
 kd:KdM M c (aP B) la R
 ext:Ext M0 M
 wv:M wv=some (.lst (W0.map λ p=>.d (ae5 p)))
 ok:∀ p∈W0,fV p.2/\p.2.length<=8
 len:W0.length<=i
 ways:xA (grB B R) (cW B R) ((aP B).take i) k W0
theorem qa:∀ ws M Q,cV ws M Q->o7 cy {nx:=λ _ M'=>Q (.d .none) M',rt:=Q} (aY oT ws) M:=by
 rintro ws M Q ⟨B,R,k,rfl,okB,okR,hR,hC,qy,qn⟩;have sl:1000000<=sizeLine:=by decide
 have okN:OkN (aP B):=⟨by rw[List.length_map];exact okB.len,okB.nd,λ z hz=>by obtain⟨b,hb,rfl⟩:=List.mem_map.mp hz;exact okB.word b hb⟩
 have b8:=okB.len;refine⟨_,rfl,_,rfl,λ c hc=>⟨λ j τ M'=>(∃ x y,τ=[x,y])/\∃ la,KdA M M' c ((aP B).take j) la λ _=>[],⟨⟨_,_,rfl⟩,λ _=>c,ak,λ z hz=>by simp at hz,λ y hy=>by simp at hy,Ext.new hc,hc,λ z hz=>by simp at hz⟩,?_,?_⟩⟩
 ·rintro j w τ M' hw ⟨⟨x,y,rfl⟩,la,kd⟩;rw[List.map_map] at hw;obtain⟨b,hb,rfl⟩:=eZ hw;have hz:(aP B)[j]? =some b.1:=by rw[List.getElem?_map,hb];rfl
  have tk:(aP B).take (j+1)=(aP B).take j++[b.1]:=by rw[List.take_add_one,hz];rfl
  have nin:b.1 ∉ (aP B).take j:=rJ okB.nd hz;refine⟨_,rfl,rfl,_,_,rfl,_,_,rfl,rfl,_,rfl,Nat.zero_le _,λ q hq=>⟨kf ((aP B).take j) λ z=>.m (la z),.inr b.1,?_,rfl,?_,⟨_,_,rfl⟩,yX la b.1 q,?_⟩⟩
  ·rw[aI (λ e=>by rw[<- e,kd.dic] at hq;cases hq)];exact kd.dic
  ·rw[oD,List.length_take,List.length_map];omega
  ·have e:uZ (kf ((aP B).take j) λ z=>W.m (la z)) (.inr b.1) (.m q)=kf ((aP B).take (j+1)) λ z=>W.m (yX la b.1 q z):=by
    have e2:kf ((aP B).take j) (λ z=>W.m (la z))=kf ((aP B).take j) λ z=>W.m (yX la b.1 q z):=aaj λ z hz=>congrArg W.m (ft λ(e:z=b.1)=>nin (by rw[<- e];exact hz)).symm;rw[e2,tk];have:=xq (f:=λ z=>W.m (yX la b.1 q z)) nin
    rwa[hU] at this
   rw[e,tk];exact kd.add nin hq rfl
 rintro τ M1 ⟨⟨x,y,rfl⟩,la,kd⟩;rw[show(aP B).take ((List.map W.d (List.map bD B)).length)=aP B from List.take_of_length_le (by simp)] at kd;refine⟨_,rfl,_,rfl,λ i τ M'=>(∃ x4 x5 x6,τ=aiL B R k c x4 x5 x6 none none none none)/\KdA M M' c (aP B) la λ z=>gD (uz (R.take i) z),⟨⟨_,_,_,rfl⟩,kd⟩,λ i w τ M' hw ⟨⟨x4,x5,x6,e⟩,kd⟩=>?_,λ τ M2 ⟨⟨x4,x5,x6,e⟩,kd⟩=>?_⟩
 ·subst e;rw[List.map_map] at hw;obtain⟨r,hr,rfl⟩:=eZ hw;have hrN:=hR r (List.mem_of_getElem? hr);refine⟨_,rfl,rfl,_,_,rfl,_,_,rfl,_,_,rfl,rfl,?_⟩;refine⟨_,rfl,_,rfl,c,_,.inr r.2.2,_,rfl,.inl kd.dic,rfl,ka hrN,la r.2.2,_,rfl,kd.lst _ hrN,_,rfl,_,kd.lst _ hrN,?_,⟨_,_,_,rfl⟩,?_⟩
  ·have h1:=okR.len;have h2:(uz (R.take i) r.2.2).length<=R.length:=by
    unfold uz;rw[List.length_map];exact Nat.le_trans (List.length_filter_le _ _) (by rw[List.length_take];omega)
   simp only[gD,List.length_map];omega
  ·rw[<- ad2 hr];exact kd.app hrN _
 subst e;rw[show R.take ((List.map W.d (List.map cY R)).length)=R from List.take_of_length_le (by simp)] at kd;refine⟨_,rfl,_,rfl,?_⟩;rw[List.map_map];refine cG B (W.d ∘ bD) (λ b=>.str b.1) (nY R) (λ τ=>∃ x y,τ=[x,y,some (.m c)]) (λ M'=>M'=M2) (by omega) ⟨_,_,rfl⟩ rfl (λ b hb τ M' hτ hM R' h=>?_) λ τ M3 hM=>?_
 ·obtain⟨x,y,rfl⟩:=hτ;subst hM;have hbN:b.1∈aP B:=List.mem_map.mpr ⟨b,hb,rfl⟩;have lw:abN M' (.m (la b.1))=some (lg R b.1):=by
   show(match M' (la b.1) with | some (.lst ws)=>some ws.length | _=>_)=_
   rw[kd.lst _ hbN];simp[gD,uz,lg]
  refine⟨_,rfl,rfl,_,_,rfl,_,_,rfl,rfl,?_⟩;refine⟨_,rfl,_,rfl,c,_,.inr b.1,_,rfl,.inl kd.dic,rfl,ka hbN,_,_,rfl,lw,rfl,_,rfl,_,_,rfl,rfl,_,rfl,?_⟩;have e:decide ((((lg R b.1:Nat):Int))<b.2)=nY R b:=rfl;rw[e];have:=h [some (.d (.str b.1)),some (.d (.int b.2)),some (.m c)] M' ⟨_,_,rfl⟩ rfl;cases z:nY R b with
  | false=>rw[z] at this;exact dP this
  | true=>rw[z] at this;exact gE ⟨_,rfl,_,rfl,this⟩
 subst hM;have e:(B.filter (nY R)).map (λ b=>PyData.str b.1)=(cW B R).map PyData.str:=by unfold cW;rw[List.map_map];rfl
 rw[e];have f8:(cW B R).length<=8:=by
  unfold cW;rw[List.length_map];exact Nat.le_trans (List.length_filter_le _ _) b8
 refine⟨Nat.zero_le _,λ wv hwv=>?_⟩;have wc:wv≠c:=λ e=>by rw[e,kd.dic] at hwv;cases hwv
 have w0:M wv=none:=kd.ext.none hwv;have lwv:∀ z∈aP B,la z≠wv:=λ z hz e=>by have:=kd.lst z hz;rw[e,hwv] at this;cases this
 refine⟨c,_,by rw[aI wc.symm];exact kd.dic,_,rfl,c,_,rfl,ak,λ i τ M'=>(∃ x9 x10,τ=aiL B R k c x4 x5 x6 (some (.d (.list ((cW B R).map PyData.str)))) (some (.m wv)) x9 x10)/\∃ W0,WaI M B R k c wv la i W0 M',⟨⟨_,_,rfl⟩,[],⟨⟨ak,λ z hz=>?_⟩,(kd.ext.upd w0).upd kd.c0,by rw[aI wc];exact ak,λ p hp=>by simp at hp,Nat.zero_le _,⟨λ p hp=>by simp at hp,λ s hs=>by simp at hs⟩⟩⟩,λ i w τ M' hw ⟨⟨x9,x10,e⟩,W0,I⟩=>?_,λ τ M' ⟨⟨x9,x10,e⟩,W0,I⟩=>?_⟩
 ·rw[aI (kd.lc hz),aI (lwv z hz)];exact kd.lst z hz
 ·subst e;rw[kf,List.map_map,List.getElem?_map] at hw;obtain⟨s,hs,rfl⟩:=Option.map_eq_some_iff.mp hw;have hsN:=List.mem_of_getElem? hs;have hi:i<8:=Nat.lt_of_lt_of_le (List.getElem?_eq_some_iff.mp hs).1 okN.len;have tk:(aP B).take (i+1)=(aP B).take i++[s]:=by rw[List.take_add_one,hs];rfl
  refine⟨_,rfl,_,rfl,_,rfl,c,_,.inr s,_,rfl,.inr I.kd.dic,rfl,ka hsN,_,uz R s,rfl,.m (I.kd.lst s hsN),_,rfl,?_⟩;rw[tQ];cases hB:hasB R s k with
  | true=>exact dP ⟨⟨_,_,rfl⟩,W0,I.kd,I.ext,I.wv,I.ok,Nat.le_succ_of_le I.len,by rw[tk];exact I.ways.skip λ h=>by rw[show(grB B R).has s k=hasB R s k from rfl,hB] at h;cases h⟩
  | false =>
   refine gE ⟨_,rfl,_,rfl,_,rfl,_,rfl,s,R,c,aP B,la,cW B R,rfl,okR,okN,hsN,I.kd,f8,λ M2 ps x l ok l8=>?_,λ M2 x no=>?_⟩
   ·have hw2:=x _ _ I.wv;refine⟨_,rfl,rfl,_,rfl,gE ⟨_,rfl,wv,_,rfl,hw2,_,rfl,_,hw2,?_,⟨_,_,rfl⟩,W0++[(s,ps)],⟨?_,λ z hz=>?_⟩,(I.ext.trans x).upd w0,?_,λ p hp=>?_,?_,?_⟩⟩
    ·rw[List.length_map];have:=I.len;omega
    ·rw[aI wc.symm];exact x _ _ I.kd.dic
    ·have hz':=I.kd.lst z hz;rw[aI (lwv z hz)];exact x _ _ hz'
    ·rw[ak,List.map_append];rfl
    ·rcases List.mem_append.mp hp with hp | hp
     ·exact I.ok p hp
     ·rw[List.mem_singleton.mp hp];exact⟨ok,l8⟩
    ·rw[List.length_append,List.length_singleton];have:=I.len;omega
    ·rw[tk];exact I.ways.put hB l
   ·exact⟨_,rfl,rfl,_,rfl,dP ⟨⟨_,_,rfl⟩,W0,⟨x _ _ I.kd.dic,λ z hz=>x _ _ (I.kd.lst z hz)⟩,I.ext.trans x,x _ _ I.wv,I.ok,Nat.le_succ_of_le I.len,by rw[tk];exact I.ways.skip λ _ ps=>no ps⟩⟩
 subst e;have I2:=I.ways;rw[kf,List.map_map,List.length_map,List.take_length] at I2;refine⟨I.kd.dic,?_⟩;have hw3:bH M' c (.dic (kf (aP B) λ z=>.m (la z))) wv=some (.lst ((W0.map ae5).map W.d)):=by rw[aI wc,List.map_map];exact I.wv
 have xf:Ext M (lD (bH M' c (.dic (kf (aP B) λ z=>.m (la z)))) wv):=(I.ext.upd kd.c0).del w0;have key:∀ p∈W0,m8 p.1=true/\fV p.2/\p.2.length<=8:=λ p hp=>⟨(okN.word _ (I2.is p hp).1).1,I.ok p hp⟩
 let kd2:Nat->List PyData:=λ i=>(W0[i]?.map sY).getD []
 have mem2:∀ i,i<(W0.map ae5).length->∃ p∈W0,kd2 i=sY p:=λ i h=>by rw[List.length_map] at h;refine⟨W0[i],List.getElem_mem h,?_⟩;show(W0[i]?.map sY).getD []=_;rw[List.getElem?_eq_getElem h];rfl
 refine⟨_,rfl,wv,W0.map ae5,rfl,hw3,W0.map ae5,kd2,ltK,rfl,xf _ _ hC,λ i d hd=>?_,zG λ r hr=>?_,λ e0=>?_,λ i d hd hmin=>?_⟩
 ·obtain⟨p,hp,rfl⟩:=eZ hd;have ek:kd2 i=sY p:=by show(W0[i]?.map sY).getD []=_;rw[hp];rfl
  rw[ek];exact⟨_,rfl,_,_,rfl,rfl,rfl,_,rfl,[_,_],rfl,(show 2<=sizeLine by omega),rfl,rfl⟩
 ·obtain⟨i,hi,rfl⟩:=List.mem_map.mp hr;obtain⟨p,hp,e⟩:=mem2 i (List.mem_range.mp hi);exact⟨p,e,key p hp⟩
 ·have:W0=[]:=List.map_eq_nil_iff.mp e0;subst this;exact qn _ xf I2.none
 ·obtain⟨p,hp,rfl⟩:=eZ hd;have hpm:=List.mem_of_getElem? hp;have ek:kd2 i=sY p:=by show(W0[i]?.map sY).getD []=_;rw[hp];rfl
  refine qy _ p.1 p.2 xf (I2.least hpm λ x hx=>?_) (I.ok p hpm).1 (I.ok p hpm).2;obtain⟨j,hj,rfl⟩:=List.getElem_of_mem hx;have:=hmin j (by rw[List.length_map];exact hj);rw[ek,show kd2 j=sY W0[j] by show(W0[j]?.map sY).getD []=_;rw[List.getElem?_eq_getElem hj];rfl,g7] at this;exact this
structure InW(B:List Bth)(R:List Row3)(k:Str)(t:Nat)(p:Way):Prop where
 st:p.1∈aP B
 lacks:hasB R p.1 k=false
 walk:Gr.walk (grB B R) p.1 p.2
 len:p.2.length=t
 nd:(p.1::p.2.map (·.2)).Nodup
 sub:∀ x∈p.1::p.2.map (·.2),x∈aP B
theorem si{s m:Str}{ps:List Stp}:afj s ps m=true ↔ m∈s::ps.map (·.2):=by
 unfold afj;simp only[Bool.or_eq_true,beq_iff_eq,List.any_eq_true,List.mem_cons,List.mem_map];exact or_congr eq_comm Iff.rfl
theorem zT{B:List Bth}{R:List Row3}{k s:Str}{t:Nat}{ps:List Stp}{e:Stp}(h:InW B R k t (s,ps))(he:Gr.uY (grB B R) (fin s ps) e)(hv:afj s ps e.2=false):InW B R k (t+1) (s,ps++[e]):=by
 obtain⟨a1,a2,a3,a4,a5,a6⟩:=h;dsimp only at a1 a2 a3 a4 a5 a6;have nv:e.2 ∉ s::ps.map (·.2):=λ z=>by rw[si.mpr z] at hv;cases hv
 refine⟨a1,a2,bC.mpr ⟨a3,he,trivial⟩,by simp[a4],?_,?_⟩
 ·simp only[List.map_append,List.map_cons,List.map_nil];rw[<- List.cons_append];exact List.nodup_append.mpr ⟨a5,by simp,λ a ha b hb e=>by rw[List.mem_singleton.mp hb] at e;exact nv (e ▸ ha)⟩
 ·intro x hx;simp only[List.map_append,List.map_cons,List.map_nil] at hx;rw[<- List.cons_append] at hx;rcases List.mem_append.mp hx with hx | hx
  ·exact a6 x hx
  ·rw[List.mem_singleton.mp hx];obtain⟨_,_,ho,_⟩:=he;exact ho
theorem zE{G:Gr}{s m:Str}:∀ {ps:List Stp},G.walk s ps->afj s ps m=true->∃ qs,G.walk s qs/\fin s qs=m/\qs.length<=ps.length:=by
 intro ps hw hv;rcases List.mem_cons.mp (si.mp hv) with e | h
 ·exact⟨[],trivial,e.symm,Nat.zero_le _⟩
 ·obtain⟨x,hx,rfl⟩:=List.mem_map.mp h;obtain⟨a,b,rfl⟩:=List.append_of_mem hx;rw[List.append_cons] at hw;refine⟨a++[x],(bC.mp hw).1,by rw[cI];rfl,by simp⟩
theorem aa8{B:List Bth}{R:List Row3}{k s:Str}(hs:s∈aP B)(hl:hasB R s k=false):∀ (n:Nat) (ps:List Stp),ps.length=n->Gr.walk (grB B R) s ps->InW B R k n (s,ps)\/∃ qs,Gr.walk (grB B R) s qs/\fin s qs=fin s ps/\qs.length<n
 | 0,ps,e,hw=>by have:ps=[]:=List.length_eq_zero_iff.mp e;subst this;exact .inl ⟨hs,hl,trivial,rfl,by simp,λ x hx=>by simp at hx;rw[hx];exact hs⟩
 | n+1,ps,e,hw=>by
  obtain⟨qs,x,rfl,hq⟩:=g6 e;obtain⟨w1,w2⟩:=bC.mp hw;have hf:fin s (qs++[x])=x.2:=by rw[cI];rfl
  cases hv:afj s qs x.2 with
  | true =>
   obtain⟨rs,h1,h2,h3⟩:=zE w1 hv;exact .inr ⟨rs,h1,by rw[h2,hf],by omega⟩
  | false =>
   rcases aa8 hs hl n qs hq w1 with h | ⟨rs,h1,h2,h3⟩
   ·exact .inl (zT h w2.1 hv)
   ·refine .inr ⟨rs++[x],bC.mpr ⟨h1,by rw[h2];exact w2⟩,by rw[cI,hf];rfl,by simp;omega⟩
def lz(R:List Row3)(k m:Str):Nat:=(R.filter λ r=>r.2.1==k&&r.2.2==m).length
def cntK(R:List Row3)(k:Str):Nat:=(R.filter λ r=>r.2.1==k).length
theorem tE{β:Type}{f:β->Nat}(h:∀ x,f x=0):∀ B:List β,(B.map f).sum=0
 | []=>rfl
 | b::B=>by rw[List.map_cons,List.sum_cons,h,tE h B]
theorem sum_add{β:Type}(g h:β->Nat):∀ L:List β,(L.map λ b=>g b+h b).sum=(L.map g).sum+(L.map h).sum
 | []=>rfl
 | b::L=>by simp only[List.map_cons,List.sum_cons,sum_add g h L];omega
theorem sG{α β:Type}(f:α->β->Nat)(B:List β):∀ A:List α,(A.map λ a=>(B.map λ b=>f a b).sum).sum=(B.map λ b=>(A.map λ a=>f a b).sum).sum
 | []=>by
  have:∀ B:List β,(B.map λ _=>0).sum=0:=λ B=>by induction B with
   | nil=>rfl
   | cons b B ih=>simp[ih]
  simpa using (this B).symm
 | a::A=>by simp only[List.map_cons,List.sum_cons,sG f B A];rw[<- sum_add]
theorem abF{x:Str}:∀ {N:List Str},x ∉ N->(N.map λ y=>if x==y then 1 else 0).sum=0
 | [],_=>rfl
 | y::N,h=>by have h1:(x==y)=false:=beq_eq_false_iff_ne.mpr λ e=>h (e ▸ List.mem_cons_self);simp only[List.map_cons,List.sum_cons,h1,abF λ z=>h (List.mem_cons_of_mem _ z)];rfl
theorem abB{x:Str}:∀ {N:List Str},N.Nodup->x∈N->(N.map λ y=>if x==y then 1 else 0).sum=1
 | y::N,nd,h=>by
  have⟨n1,n2⟩:=List.nodup_cons.mp nd
  by_cases e:x=y
  ·subst e;simp only[List.map_cons,List.sum_cons,beq_self_eq_true,if_true,abF n1]
  ·have h1:(x==y)=false:=beq_eq_false_iff_ne.mpr e;have h2:x∈N:=(List.mem_cons.mp h).resolve_left e;simp only[List.map_cons,List.sum_cons,h1,abB n2 h2];rfl
theorem jH{α:Type}(p:α->Bool)(key:α->Str){N:List Str}(nd:N.Nodup):∀ {L:List α},(∀ r∈L,p r=true->key r∈N)->(L.filter p).length=(N.map λ x=>(L.filter λ r=>p r&&key r==x).length).sum
 | [],_=>by
  have:∀ B:List Str,(B.map λ _=>0).sum=0:=λ B=>by induction B with
   | nil=>rfl
   | cons b B ih=>simp[ih]
  simpa using (this N).symm
 | r::L,h=>by
  have ih:=jH p key nd (L:=L) λ x hx=>h x (List.mem_cons_of_mem _ hx);have e:∀ x,((r::L).filter λ r=>p r&&key r==x).length=(if p r&&key r==x then 1 else 0)+(L.filter λ r=>p r&&key r==x).length:=λ x=>by
   rw[List.filter_cons];cases p r&&key r==x with
   | true=>rw[if_pos rfl,if_pos rfl,List.length_cons];omega
   | false=>rw[if_neg (by decide),if_neg (by decide)];omega
  simp only[e,sum_add,<- ih];rw[List.filter_cons];cases hp:p r with
  | true =>
   simp only[Bool.true_and];rw[abB nd (h r List.mem_cons_self hp)];simp only[if_true,List.length_cons];omega
  | false =>
   rw[tE (f:=λ b=>if (false&&key r==b)=true then 1 else 0) λ x=>rfl];simp
theorem gq{α:Type}(f:α->Nat):∀ L:List α,(((L.map f).sum:Nat):Int)=(L.map λ x=>(f x:Int)).sum
 | []=>rfl
 | x::L=>by simp only[List.map_cons,List.sum_cons,Int.natCast_add,gq f L]
theorem tO{α:Type}{f g:α->Int}:∀ {L:List α},(∀ x∈L,f x<=g x)->(L.map f).sum<=(L.map g).sum
 | [],_=>Int.le_refl _
 | x::L,h=>by simp only[List.map_cons,List.sum_cons];have:=h x List.mem_cons_self;have:=tO (f:=f) (g:=g) (L:=L) λ y hy=>h y (List.mem_cons_of_mem _ hy);omega
theorem aa5{α:Type}{f g:α->Int}{k:α}:∀ {L:List α},(∀ x∈L,f x<=g x)->k∈L->f k<g k->(L.map f).sum<(L.map g).sum
 | x::L,h,hk,hl=>by
  simp only[List.map_cons,List.sum_cons];have:=h x List.mem_cons_self;have:=tO (f:=f) (g:=g) (L:=L) λ y hy=>h y (List.mem_cons_of_mem _ hy);rcases List.mem_cons.mp hk with e | e
  ·subst e;omega
  ·have:=aa5 (f:=f) (g:=g) (L:=L) (λ y hy=>h y (List.mem_cons_of_mem _ hy)) e hl;omega
theorem xv{α:Type}{f:α->Int}:∀ {L:List α},(∀ x∈L,1<=f x)->(L.length:Int)<=(L.map f).sum
 | [],_=>Int.le_refl _
 | x::L,h=>by simp only[List.map_cons,List.sum_cons,List.length_cons];have:=h x List.mem_cons_self;have:=xv (f:=f) (L:=L) λ y hy=>h y (List.mem_cons_of_mem _ hy);omega
theorem ac4{t:Int}{X Y:List Int}(h:X.Sublist Y):exc t X<=exc t Y:=by
 induction h with
 | slnil=>exact Int.le_refl _
 | cons a _ ih =>
  rw[bS]
  split<;>omega
 | cons_cons a _ ih =>
  rw[bS,bS];omega
theorem acx{rs ns X:List Int}(h0:∀ m∈rs,0<=m)(hf:uc rs (dsc ns)=true)(hs:X.Sublist ns):X.sum<=room rs (X.length:Nat):=by
 have hl:=hs.length_le;cases hX:X.length with
 | zero =>
  rw[List.length_eq_zero_iff.mp hX];exact ae4 (Int.le_refl _) h0
 | succ i =>
  have hi:i<(dsc ns).length:=by rw[(cg ns).length_eq];omega
  have h1:=List.all_eq_true.mp hf i (List.mem_range.mpr hi);have h1:=of_decide_eq_true h1;have h2:=rE (gz ns) hi;have h3:=iB (dsc ns)[i] X X.length (Nat.le_refl _);rw[List.take_length] at h3;have h4:exc (dsc ns)[i] X<=exc (dsc ns)[i] (dsc ns):=by rw[gk (cg ns)];exact ac4 hs
  rw[hX] at h3;have h5:(((i+1:Nat):Int))=(i:Int)+1:=by omega
  rw[h5] at h3 ⊢;omega
structure LyI(B:List Bth)(K:List Str)(g:Str->Int)(R:List Row3):Prop where
 mem:∀ r∈R,r.2.2∈aP B
 kin:∀ r∈R,r.2.1∈K
 num:(R.map (·.1)).Nodup
 pr:(R.map (·.2)).Nodup
 room:∀ b∈B,(lg R b.1:Int)<=b.2
 due:∀ k∈K,(cntK R k:Int)<=g k
theorem tu{R:List Row3}{n:Int}{k m:Str}(h:(n,k,m)∈R):hasB R m k=true:=List.any_eq_true.mpr ⟨_,h,by simp⟩
theorem tS{R:List Row3}{k m:Str}(h:hasB R m k=true):∃ n,(n,k,m)∈R:=by obtain⟨⟨n,k',m'⟩,h1,h2⟩:=List.any_eq_true.mp h;simp only[Bool.and_eq_true,beq_iff_eq] at h2;obtain⟨rfl,rfl⟩:=h2;exact⟨n,h1⟩
theorem mG{B:List Bth}{R:List Row3}{b:Bth}(hb:b∈B)(h:(lg R b.1:Int)<b.2):b.1∈cW B R:=List.mem_map.mpr ⟨b,List.mem_filter.mpr ⟨hb,decide_eq_true h⟩,rfl⟩
theorem afe{B:List Bth}{K:List Str}{g:Str->Int}{R:List Row3}{k:Str}(ndB:(aP B).Nodup)(ndK:K.Nodup)(I:LyI B K g R)
  (hF:∀ p:Str->Bool,((K.filter p).map g).sum<=room (rooms B) ((K.filter p).length:Nat))(hk:k∈K)(hl:(cntK R k:Int)<g k)(no:∀ m∈cW B R,hasB R m k=true):∃ s ps,og B R k s ps:=by
 apply Classical.byContradiction;intro hno;have hno:∀ s ps,¬ og B R k s ps:=λ s ps h=>hno ⟨s,ps,h⟩
 let Reach (m:Str):Prop:=∃ s ps,s∈aP B/\hasB R s k=false/\Gr.walk (grB B R) s ps/\fin s ps=m
 have rf:∀ m,Reach m->m ∉ cW B R:=by
  rintro m ⟨s,ps,h1,h2,h3,rfl⟩ hf
  by_cases e:fin s ps=s
  ·have:=no _ hf;rw[e,h2] at this;cases this
  ·exact hno s ps ⟨h1,h2,h3,hf,e⟩
 let KS (κ:Str):Prop:=κ=k\/∃ r∈R,r.2.1=κ/\Reach r.2.2
 have all:∀ κ,KS κ->∀ m∈aP B,¬ Reach m->hasB R m κ=true:=by
  intro κ hκ m hm hr;cases hh:hasB R m κ with
  | true=>rfl
  | false =>
   refine absurd ?_ hr;rcases hκ with rfl | ⟨⟨n,κ',p⟩,hrR,rfl,s,ps,h1,h2,h3,h4⟩
   ·exact⟨m,[],hm,hh,trivial,rfl⟩
   ·refine⟨s,ps++[(n,m)],h1,h2,bC.mpr ⟨h3,?_,trivial⟩,by rw[cI];rfl⟩;exact⟨κ',by rw[h4];exact hrR,hm,hh⟩
 let pK:Str->Bool:=λ κ=>@decide (KS κ) (Classical.propDecidable _)
 have pK_iff:∀ κ,pK κ=true ↔ KS κ:=λ κ=>@decide_eq_true_iff _ (Classical.propDecidable _);have kin:∀ κ,κ∈K.filter pK ↔ κ∈K/\KS κ:=λ κ=>by rw[List.mem_filter,pK_iff]
 have ndL:(K.filter pK).Nodup:=ndK.sublist List.filter_sublist;have hF:=hF pK;revert hF;generalize hL:K.filter pK=KL at *;intro hF;have each:∀ b∈B,roomOf (KL.length:Nat) b.2<=(KL.map λ κ=>(lz R κ b.1:Int)).sum:=by
  intro b hb
  by_cases hr:Reach b.1
  ·have h1:lg R b.1=(KL.map λ κ=>lz R κ b.1).sum:=by
    have:=jH (λ r:Row3=>r.2.2==b.1) (λ r=>r.2.1) ndL (L:=R) λ r hrR e=>by have e:=eq_of_beq e;exact(kin _).mpr ⟨I.kin r hrR,.inr ⟨r,hrR,rfl,by rw[e];exact hr⟩⟩
    unfold lg;rw[this];unfold lz;congr 1;refine List.map_congr_left λ κ _=>?_;congr 1;refine List.filter_congr λ r _=>Bool.and_comm _ _
   have h2:¬ (lg R b.1:Int)<b.2:=λ h=>rf _ hr (mG hb h);rw[<- gq,<- h1];unfold roomOf
   split<;>omega
  ·have h1:∀ κ∈KL,1<=(lz R κ b.1:Int):=λ κ hκ=>by obtain⟨n,hn⟩:=tS (all κ ((kin κ).mp hκ).2 b.1 (List.mem_map.mpr ⟨b,hb,rfl⟩) hr);have:0<lz R κ b.1:=List.length_pos_of_mem (List.mem_filter.mpr ⟨hn,by simp⟩);omega
   have:=xv h1;unfold roomOf
   split<;>omega
 have s1:room (rooms B) (KL.length:Nat)<=(B.map λ b=>(KL.map λ κ=>(lz R κ b.1:Int)).sum).sum:=by rw[kP,rooms,List.map_map];exact tO each
 have s2:(B.map λ b=>(KL.map λ κ=>(lz R κ b.1:Int)).sum).sum=(KL.map λ κ=>(cntK R κ:Int)).sum:=by have e1:∀ b:Bth,(KL.map λ κ=>(lz R κ b.1:Int)).sum=(((KL.map λ κ=>lz R κ b.1).sum:Nat):Int):=λ b=>(gq _ _).symm;simp only[e1];rw[<- gq,<- gq,<- sG λ κ (b:Bth)=>lz R κ b.1];congr 2;refine List.map_congr_left λ κ _=>?_;have:=jH (λ r:Row3=>r.2.1==κ) (λ r=>r.2.2) ndB (L:=R) λ r hrR _=>I.mem r hrR;unfold cntK;rw[this,List.map_map];rfl
 have s3:(KL.map λ κ=>(cntK R κ:Int)).sum<(KL.map g).sum:=aa5 (λ κ hκ=>I.due κ ((kin κ).mp hκ).1) ((kin k).mpr ⟨hk,.inl rfl⟩) hl;omega
theorem zB{B:List Bth}{R:List Row3}{k s:Str}{ps:List Stp}(h:qw (og B R k) s ps):(s::ps.map (·.2)).Nodup:=by
 obtain⟨⟨hs,hl,hw,hf,hne⟩,least⟩:=h;rcases aa8 hs hl _ ps rfl hw with h | ⟨qs,h1,h2,h3⟩
 ·exact h.nd
 ·have:=(least s qs ⟨hs,hl,h1,by rw[h2];exact hf,by rw[h2];exact hne⟩).1;omega
def mv(R:List Row3)(n:Int)(m:Str):List Row3:=R.map λ r=>(r.1,r.2.1,if r.1==n then m else r.2.2)
def car(R:List Row3):List Stp->List Row3
 | []=>R
 | e::ps=>mv (car R ps) e.1 e.2
structure MvI(B:List Bth)(K:List Str)(g:Str->Int)(S':List Row3)(p m:Str)(S:List Row3):Prop where
 ly:LyI B K g S
 fr:p∈cW B S
 keep:∀ r:Row3,r.2.2≠p->r.2.2≠m->(r∈S ↔ r∈S')
 less:∀ x,hasB S p x=true->hasB S' p x=true
 cnt:∀ x,cntK S x=cntK S' x
 len:S.length=S'.length
 nums:S.map (·.1)=S'.map (·.1)
theorem abG{α β:Type}{f:α->β}:∀ {L:List α},(L.map f).Nodup->∀ {a b:α},a∈L->b∈L->f a=f b->a=b
 | x::L,nd,a,b,ha,hb,e=>by
  have⟨n1,n2⟩:=List.nodup_cons.mp nd;rcases List.mem_cons.mp ha with h1 | h1<;>rcases List.mem_cons.mp hb with h2 | h2
  ·rw[h1,h2]
  ·subst h1;exact absurd (List.mem_map.mpr ⟨b,h2,e.symm⟩) n1
  ·subst h2;exact absurd (List.mem_map.mpr ⟨a,h1,e⟩) n1
  ·exact abG n2 h1 h2 e
theorem yx{B:List Bth}{R:List Row3}(nd:(aP B).Nodup){b:Bth}(hb:b∈B)(h:b.1∈cW B R):(lg R b.1:Int)<b.2:=by obtain⟨c,hc,e⟩:=List.mem_map.mp h;obtain⟨hc,h2⟩:=List.mem_filter.mp hc;have:c=b:=abG nd hc hb e;subst this;exact of_decide_eq_true h2
theorem ahI{B:List Bth}{K:List Str}{g:Str->Int}{S':List Row3}{n:Int}{κ p m:Str}(nd:(aP B).Nodup)(I:LyI B K g S')(hr:(n,κ,p)∈S')(hpm:p≠m)(hf:m∈cW B S')(hh:hasB S' m κ=false):MvI B K g S' p m (mv S' n m):=by
 obtain⟨A,C,rfl⟩:=List.append_of_mem hr;have hn:=I.num;have hp:=I.pr;rw[List.map_append,List.map_cons] at hn hp;have nA:∀ r∈A,(r.1==n)=false:=λ r h=>beq_eq_false_iff_ne.mpr λ e=>(List.nodup_append.mp hn).2.2 _ (List.mem_map.mpr ⟨r,h,rfl⟩) _ (e ▸ List.mem_cons_self) rfl;have nC:∀ r∈C,(r.1==n)=false:=λ r h=>beq_eq_false_iff_ne.mpr λ e=>(List.nodup_cons.mp (List.nodup_append.mp hn).2.1).1 (List.mem_map.mpr ⟨r,h,e⟩);have idm:∀ L:List Row3,(∀ r∈L,(r.1==n)=false)->mv L n m=L:=λ L h=>by
  unfold mv
  conv=>rhs;rw[<- List.map_id' L]
  refine List.map_congr_left λ r hr=>?_;rw[h r hr];rfl
 have e:mv (A++(n,κ,p)::C) n m=A++(n,κ,m)::C:=by have h1:=idm A nA;have h2:=idm C nC;unfold mv at h1 h2 ⊢;rw[List.map_append,List.map_cons,h1,h2];simp
 rw[e];have mN:m∈aP B:=by obtain⟨c,hc,e⟩:=List.mem_map.mp hf;exact List.mem_map.mpr ⟨c,(List.mem_filter.mp hc).1,e⟩
 have hno:∀ r∈A++(n,κ,p)::C,r.2≠(κ,m):=λ r hr e=>by have:hasB (A++(n,κ,p)::C) m κ=true:=tu (n:=r.1) (by rw[<- e];exact hr);rw[hh] at this;cases this
 have cR:∀ x,x≠p->x≠m->lg (A++(n,κ,m)::C) x=lg (A++(n,κ,p)::C) x:=λ x h1 h2=>by
  unfold lg;rw[List.filter_append,List.filter_append,List.filter_cons_of_neg (by simpa using Ne.symm h2),List.filter_cons_of_neg (by simpa using Ne.symm h1)]
 have cM:lg (A++(n,κ,m)::C) m=lg (A++(n,κ,p)::C) m+1:=by
  unfold lg;rw[List.filter_append,List.filter_append,List.filter_cons_of_pos (by simp),List.filter_cons_of_neg (by simpa using hpm)];simp only[List.length_append,List.length_cons];omega
 have cP:lg (A++(n,κ,m)::C) p+1=lg (A++(n,κ,p)::C) p:=by
  unfold lg;rw[List.filter_append,List.filter_append,List.filter_cons_of_neg (by simpa using Ne.symm hpm),List.filter_cons_of_pos (by simp)];simp only[List.length_append,List.length_cons];omega
 have cK:∀ x,cntK (A++(n,κ,m)::C) x=cntK (A++(n,κ,p)::C) x:=λ x=>by
  unfold cntK;rw[List.filter_append,List.filter_append,List.filter_cons,List.filter_cons];cases κ==x<;>simp
 have sub:∀ r,r∈A++(n,κ,m)::C->r∈A++(n,κ,p)::C\/r=(n,κ,m):=λ r h=>by
  rcases List.mem_append.mp h with h | h
  ·exact .inl (List.mem_append_left _ h)
  ·rcases List.mem_cons.mp h with h | h
   ·exact .inr h
   ·exact .inl (List.mem_append_right _ (List.mem_cons_of_mem _ h))
 have pN:=I.mem _ hr;refine⟨⟨λ r h=>?_,λ r h=>?_,?_,?_,λ b hb=>?_,λ k hk=>by rw[cK];exact I.due k hk⟩,?_,λ r h1 h2=>?_,λ x hx=>?_,cK,by simp,by simp⟩
 ·rcases sub r h with h | rfl
  ·exact I.mem r h
  ·exact mN
 ·rcases sub r h with h | rfl
  ·exact I.kin r h
  ·exact I.kin (n,κ,p) hr
 ·rw[List.map_append,List.map_cons];exact hn
 ·rw[List.map_append,List.map_cons];have q:=List.nodup_append.mp hp;have q2:=List.nodup_cons.mp q.2.1;refine List.nodup_append.mpr ⟨q.1,List.nodup_cons.mpr ⟨λ z=>?_,q2.2⟩,λ a ha b hb e=>?_⟩
  ·obtain⟨r,h1,h2⟩:=List.mem_map.mp z;exact hno r (List.mem_append_right _ (List.mem_cons_of_mem _ h1)) h2
  ·subst e;rcases List.mem_cons.mp hb with e | h
   ·obtain⟨r,h1,h2⟩:=List.mem_map.mp ha;exact hno r (List.mem_append_left _ h1) (h2.trans e)
   ·exact q.2.2 a ha a (List.mem_cons_of_mem _ h) rfl
 ·have:=I.room b hb
  by_cases e1:b.1=m
  ·have h2:=yx nd hb (by rw[e1];exact hf);rw[e1,cM];rw[e1] at h2;omega
  ·by_cases e2:b.1=p
   ·rw[e2] at this ⊢;omega
   ·rw[cR _ e2 e1];exact this
 ·obtain⟨b,hb,e1⟩:=List.mem_map.mp pN;have:=I.room b hb;have e1:b.1=p:=e1;rw[<- e1];refine mG hb ?_;rw[e1] at this ⊢;omega
 ·simp only[List.mem_append,List.mem_cons];refine or_congr Iff.rfl (or_congr ⟨λ e=>absurd (by rw[e]) h2,λ e=>absurd (by rw[e]) h1⟩ Iff.rfl)
 ·obtain⟨i,hi⟩:=tS hx;rcases sub _ hi with h | h
  ·exact tu h
  ·cases h;exact absurd rfl hpm
structure CaI(B:List Bth)(K:List Str)(g:Str->Int)(R:List Row3)(s:Str)(ps:List Stp)(S:List Row3):Prop where
 ly:LyI B K g S
 fr:s∈cW B S
 keep:∀ r:Row3,r.2.2≠s->r.2.2 ∉ ps.map (·.2)->(r∈S ↔ r∈R)
 less:∀ x,hasB S s x=true->hasB R s x=true
 cnt:∀ x,cntK S x=cntK R x
 len:S.length=R.length
 nums:S.map (·.1)=R.map (·.1)
structure ait(B:List Bth)(R:List Row3)(s:Str)(e:Stp)(S':List Row3)(κ:Str):Prop where
 row:(e.1,κ,s)∈S'
 ne:s≠e.2
 fr:e.2∈cW B S'
 no:hasB S' e.2 κ=false
theorem sL{B:List Bth}{K:List Str}{g:Str->Int}{R:List Row3}{s:Str}{e:Stp}{ps:List Stp}{S':List Row3}(nd:(s::(e::ps).map (·.2)).Nodup)(hw:Gr.walk (grB B R) s (e::ps))(I:CaI B K g R e.2 ps S'):∃ κ,ait B R s e S' κ:=by
 obtain⟨⟨κ,h1,h2,h3⟩,_⟩:=hw;have n1:=(List.nodup_cons.mp nd).1;simp only[List.map_cons,List.mem_cons,not_or] at n1;refine⟨κ,(I.keep (e.1,κ,s) n1.1 n1.2).mpr h1,n1.1,I.fr,?_⟩;cases z:hasB S' e.2 κ with
 | false=>rfl
 | true=>exact((I.less κ z).symm.trans h3)
theorem wQ{B:List Bth}{K:List Str}{g:Str->Int}{R:List Row3}(ndB:(aP B).Nodup)(I:LyI B K g R):∀ (ps:List Stp) (s:Str),(s::ps.map (·.2)).Nodup->Gr.walk (grB B R) s ps->fin s ps∈cW B R->CaI B K g R s ps (car R ps)
 | [],s,_,_,hf=>⟨I,hf,λ _ _ _=>Iff.rfl,λ _ h=>h,λ _=>rfl,rfl,rfl⟩
 | e::ps,s,nd,hw,hf=>by
  have C:=wQ ndB I ps e.2 (List.nodup_cons.mp nd).2 hw.2 hf;obtain⟨κ,h⟩:=sL nd hw C;have M:=ahI ndB C.ly h.row h.ne h.fr h.no;have n1:=(List.nodup_cons.mp nd).1;simp only[List.map_cons,List.mem_cons,not_or] at n1;refine⟨M.ly,M.fr,λ r h1 h2=>?_,λ x hx=>?_,λ x=>(M.cnt x).trans (C.cnt x),M.len.trans C.len,M.nums.trans C.nums⟩
  ·simp only[List.map_cons,List.mem_cons,not_or] at h2;exact(M.keep r h1 h2.1).trans (C.keep r h2.1 h2.2)
  ·obtain⟨i,hi⟩:=tS (M.less x hx);exact tu ((C.keep (i,x,s) n1.1 n1.2).mp hi)
theorem ab3{B:List Bth}{K:List Str}{g:Str->Int}{S:List Row3}{n:Int}{k m:Str}(ndB:(aP B).Nodup)(I:LyI B K g S)(hk:k∈K)(hl:(cntK S k:Int)<g k)(hf:m∈cW B S)(hh:hasB S m k=false)(hn:∀ r∈S,r.1≠n):LyI B K g (S++[(n,k,m)]):=by
 have mN:m∈aP B:=by obtain⟨c,hc,e⟩:=List.mem_map.mp hf;exact List.mem_map.mpr ⟨c,(List.mem_filter.mp hc).1,e⟩
 refine⟨λ r h=>?_,λ r h=>?_,?_,?_,λ b hb=>?_,λ x hx=>?_⟩
 ·rcases List.mem_append.mp h with h | h
  ·exact I.mem r h
  ·rw[List.mem_singleton.mp h];exact mN
 ·rcases List.mem_append.mp h with h | h
  ·exact I.kin r h
  ·rw[List.mem_singleton.mp h];exact hk
 ·rw[List.map_append];refine List.nodup_append.mpr ⟨I.num,by simp,λ a ha b hb e=>?_⟩;subst e;obtain⟨r,h1,h2⟩:=List.mem_map.mp ha;exact hn r h1 (h2.trans (List.mem_singleton.mp hb))
 ·rw[List.map_append];refine List.nodup_append.mpr ⟨I.pr,by simp,λ a ha b hb e=>?_⟩;subst e;obtain⟨r,h1,h2⟩:=List.mem_map.mp ha;have h3:r.2=(k,m):=h2.trans (List.mem_singleton.mp hb);have:hasB S m k=true:=tu (n:=r.1) (by rw[<- h3];exact h1);rw[hh] at this;cases this
 ·have h1:=I.room b hb;unfold lg at *;rw[List.filter_append,List.length_append]
  by_cases e:b.1=m
  ·have:=yx ndB hb (by rw[e];exact hf);unfold lg at this;have:(List.filter (λ r:Row3=>r.2.2==b.1) [(n,k,m)]).length<=1:=List.length_filter_le _ _;omega
  ·rw[List.filter_cons_of_neg (by simpa using Ne.symm e)]
   simpa using h1
 ·have h1:=I.due x hx;unfold cntK at *;rw[List.filter_append,List.length_append]
  by_cases e:x=k
  ·subst e;have:(List.filter (λ r:Row3=>r.2.1==x) [(n,x,m)]).length<=1:=List.length_filter_le _ _;omega
  ·rw[List.filter_cons_of_neg (by simpa using Ne.symm e)]
   simpa using h1
theorem adj{S:List Row3}{n:Int}{k m:Str}(x:Str):cntK (S++[(n,k,m)]) x=cntK S x+if x=k then 1 else 0:=by
 unfold cntK;rw[List.filter_append,List.length_append]
 by_cases e:x=k
 ·subst e;simp
 ·rw[if_neg e,List.filter_cons_of_neg (by simpa using Ne.symm e)];simp
theorem LyI.few{B:List Bth}{K:List Str}{g:Str->Int}{R:List Row3}(ndB:(aP B).Nodup)(I:LyI B K g R){c:Int}(h:∀ b∈B,b.2<=c):(R.length:Int)<=B.length * c:=by
 have h1:=jH (λ _:Row3=>true) (λ r=>r.2.2) ndB (L:=R) λ r hrR _=>I.mem r hrR;rw[List.filter_eq_self.mpr λ _ _=>rfl] at h1;simp only[Bool.true_and] at h1;rw[h1,gq];unfold aP;rw[List.map_map];have h2:∀ L:List Bth,(∀ b∈L,b∈B)->(L.map ((λ x=>(((R.filter λ r=>r.2.2==x).length:Nat):Int)) ∘ λ b=>b.1)).sum<=L.length * c:=λ L=>by
  induction L with
  | nil=>intro _;simp
  | cons b L ih =>
   intro hb;have h3:=ih λ x hx=>hb x (List.mem_cons_of_mem _ hx);have h4:=I.room b (hb b List.mem_cons_self);have h5:=h b (hb b List.mem_cons_self);simp only[List.map_cons,List.sum_cons,List.length_cons,Function.comp];unfold lg at h4;have:(((L.length+1:Nat):Int)) * c=L.length * c+c:=by rw[Int.natCast_add,Int.add_mul];simp
   omega
 exact h2 B λ _ h=>h
theorem vG{B:List Bth}(okB:OkB B):OkN (aP B):=⟨by rw[List.length_map];exact okB.len,okB.nd,λ z hz=>by obtain⟨b,hb,rfl⟩:=List.mem_map.mp hz;exact okB.word b hb⟩
def Exb(p:Addr)(M M':MH):Prop:=∀ q o,q≠p->M q=some o->M' q=some o
theorem Exb.refl(p:Addr)(M:MH):Exb p M M:=λ _ _ _ h=>h
theorem Exb.trans{p:Addr}{A B C:MH}(h:Exb p A B)(k:Exb p B C):Exb p A C:=λ q o n e=>k q o n (h q o n e)
theorem Exb.of{p:Addr}{M M':MH}(h:∀ q,q≠p->M' q=M q):Exb p M M':=λ q o n e=>by rw[h q n];exact e
theorem Exb.ext{p:Addr}{M M':MH}(h:Ext M M'):Exb p M M':=λ q o _ e=>h q o e
theorem Exb.upd{p:Addr}{M M':MH}{a:Addr}{o:MO}(h:Exb p M M')(ha:M a=none):Exb p M (bH M' a o):=λ q u n e=>by rw[aI λ z=>by rw[z,ha] at e;cases e];exact h q u n e
theorem Exb.del{p:Addr}{M M':MH}{a:Addr}(h:Exb p M M')(ha:M a=none):Exb p M (lD M' a):=λ q u n e=>by
 have hq:q≠a:=λ z=>by rw[z,ha] at e;cases e
 simp only[lD,if_neg hq];exact h q u n e
theorem Exb.none{p:Addr}{M M':MH}{q:Addr}(h:Exb p M M')(n:q≠p)(hq:M' q=none):M q=none:=by
 cases e:M q with
 | none=>rfl
 | some o=>rw[h q o n e] at hq;cases hq
theorem zy{M:MH}{p q:Addr}(b:Bag M p)(h:M q=none):p≠q:=λ e=>by obtain⟨o,ho⟩:=wx b;rw[e,h] at ho;cases ho
theorem afQ{M:MH}{p:Addr}(b:Bag M p)(h:jf M):aU≠p:=λ e=>by obtain⟨a,b,c,ns,h1,_⟩:=b;rw[<- e,h] at h1;cases h1
theorem yP{α:Type}(xs:List α)(lo hi:Option Int):(D.cutD xs lo hi).Sublist xs:=(List.take_sublist _ _).trans (List.drop_sublist _ _)
theorem nr(xs:List Str)(lo hi:Option Int):D.cutD (xs.map PyData.str) lo hi=(D.cutD xs lo hi).map PyData.str:=by
 unfold D.cutD;rw[List.map_take,List.map_drop,List.length_map]
theorem ah6:∀ k<8,m8 (nmB 0 k)=true/\(nmB 0 k).length<=8:=by decide +kernel
theorem aiC:((List.range 8).map (nmB 0)).Nodup:=by decide +kernel
theorem af4{B:List Bth}(hl:B.length<=8)(h:∀ (j:Nat) (r:Bth),B[j]? =some r->r.1=nmB 0 j/\0<=r.2/\r.2<=10):OkB B:=by
 have at':∀ r∈B,∃ j,j<B.length/\B[j]? =some r:=λ r hr=>by obtain⟨j,hj,e⟩:=List.getElem_of_mem hr;exact⟨j,hj,by rw[List.getElem?_eq_getElem hj,e]⟩
 refine⟨hl,?_,λ r hr=>?_,λ r hr=>?_⟩
 ·have e:(B.map λ r=>r.1)=(List.range B.length).map (nmB 0):=by
   refine List.ext_getElem? λ j=>?_;rw[List.getElem?_map,List.getElem?_map];cases q:B[j]? with
   | none =>
    have:=List.getElem?_eq_none_iff.mp q;rw[List.getElem?_eq_none (by simpa using this)];rfl
   | some r =>
    have:=(List.getElem?_eq_some_iff.mp q).1;rw[List.getElem?_range this];simp[(h j r q).1]
  rw[e];refine aiC.sublist (List.Sublist.map _ ?_);rw[show(8:Nat)=B.length+(8-B.length) from by omega,List.range_add];exact List.sublist_append_left _ _
 ·obtain⟨j,hj,e⟩:=at' r hr;rw[(h j r e).1];exact ah6 j (by omega)
 ·obtain⟨j,hj,e⟩:=at' r hr;exact(h j r e).2
theorem hE{M:MH}{l:Addr}{o:MO}(h:M l=none):lD (bH M l o) l=M:=by
 funext b;unfold lD bH
 by_cases e:b=l
 ·subst e;simp[h]
 ·simp[e]
theorem lV{M:MH}{a:Addr}{R:List Row3}{τ:DS}{D:Ed}{i:Nat}{c:Row3->Str}{y:Str}{cx:Nat}{j l:Nat}(okR:OkR R)(ha:M a=some (.lst ((R.map cY).map W.d)))(h3:τ[j]? =some (some (.m a)))(hx:∀ r∈R,∀ M:MH,ixW M (.d (cY r)) (cx:Nat)=some (.d (.str (c r))))
  (hy:(τ[l]?).getD none=some (.d (.str y)))(k:D.nx (τ.set i (some (.d (.list ((R.filter λ r=>c r==y).map cY))))) M) :
  jz (bW (dLC (mS (ag j)) (gN 0) (aJ (dOp eo (dOp cj (ag 0) (dI (cx:Nat))) (ag 1))) (ag 0) 1 [l]) (gN i)) D τ M:=by
 refine⟨a,_,ha,⟨_,h3,a,_,rfl,ak,?_⟩⟩;rw[List.map_map];refine cG R (W.d ∘ cY) cY (λ r=>c r==y) (λ τ=>∃ x,τ=[x,some (.d (.str y))]) (λ M'=>M'=bH M a (.flst ((R.map cY).map W.d))) (by have:=okR.len;omega) ⟨none,by simp[abX,hy]⟩ (by rw[List.map_map]) (λ r hr τ M' hτ hM R' h=>?_) λ τ M' hM=>?_
 ·obtain⟨x,rfl⟩:=hτ;refine⟨_,rfl,(cx:Nat),_,rfl,hx r hr M',rfl,_,rfl,_,_,.d,.d,rfl,_,rfl,?_⟩;rw[d3];have:=h [some (.d (cY r)),some (.d (.str y))] M' ⟨_,rfl⟩ hM;cases e:c r==y with
  | false=>rw[e] at this;exact dP this
  | true=>rw[e] at this;exact gE ⟨_,rfl,_,rfl,this⟩
 ·subst hM;refine⟨by rw[ak,List.map_map],?_⟩;rw[dE];rw[List.map_map] at ha;rw[qJ ha];exact k
theorem LyI.ok{B:List Bth}{K:List Str}{g:Str->Int}{R S:List Row3}(okB:OkB B)(hK:∀ z∈K,m8 z=true/\z.length<=8)(I:LyI B K g S)(okR:OkR R)(hl:S.length=R.length)(hn:S.map (·.1)=R.map (·.1)):OkR S:=
 ⟨by rw[hl];exact okR.len,λ r hr=>by
  have:r.1∈S.map (·.1):=List.mem_map.mpr ⟨r,hr,rfl⟩;rw[hn] at this;obtain⟨x,hx,e⟩:=List.mem_map.mp this;rw[<- e];exact okR.num x hx,λ r hr=>by
  have h1:=hK _ (I.kin r hr);have h2:=(vG okB).word _ (I.mem r hr);exact⟨h1.1,h2.1,h1.2,h2.2⟩⟩
theorem wZ:∀ {S:List Row3} {r:Row3},(S.map (·.1)).Nodup->r∈S->(S.filter λ x=>x.1==r.1)=[r]
 | x::S,r,nd,h=>by
  have⟨n1,n2⟩:=List.nodup_cons.mp nd;rcases List.mem_cons.mp h with e | h
  ·subst e;rw[List.filter_cons_of_pos (by simp)];have:(S.filter λ x=>x.1==r.1)=[]:=List.filter_eq_nil_iff.mpr λ y hy z=>n1 (List.mem_map.mpr ⟨y,hy,eq_of_beq z⟩);rw[this]
  ·have:x.1≠r.1:=λ e=>n1 (List.mem_map.mpr ⟨r,h,e.symm⟩);rw[List.filter_cons_of_neg (by simpa using this)];exact wZ n2 h
def bP:SpD:=λ ws M Q=>∃ (B:List Bth) (R:List Row3) (s:Str) (ps:List Stp) (K:List Str) (g:Str->Int),ws=[.d (lp B),.d (dW R),.d (.tuple (bR s ps))]/\OkB B/\OkR R/\(∀ z∈K,m8 z=true/\z.length<=8)/\LyI B K g R /\
 (s::ps.map (·.2)).Nodup/\Gr.walk (grB B R) s ps/\fin s ps∈cW B R/\ps.length<=8/\0<ps.length/\Q (.d (dW (car R ps))) M
theorem nJ:∀ ws M Q,bP ws M Q->ws.length=3:=by rintro ws M Q ⟨B,R,s,ps,K,g,rfl,_⟩;rfl
theorem sW:∀ {ps:List Stp},ps≠[]->∀ s:Str,∃ e∈ps,fin s ps=e.2
 | [e],_,s=>⟨e,List.mem_cons_self,rfl⟩
 | e::x::ps,_,s=>by obtain⟨y,h1,h2⟩:=sW (ps:=x::ps) (by simp) e.2;exact⟨y,List.mem_cons_of_mem _ h1,h2⟩
theorem adJ{B:List Bth}{R:List Row3}{s:Str}{qs rs:List Stp}(nd:(s::(qs++rs).map (·.2)).Nodup)(hw:Gr.walk (grB B R) s (qs++rs)):(fin s qs::rs.map (·.2)).Nodup/\Gr.walk (grB B R) (fin s qs) rs:=by
 refine⟨?_,(bC.mp hw).2⟩;rw[List.map_append,<- List.cons_append] at nd;have q:=List.nodup_append.mp nd;refine List.nodup_cons.mpr ⟨λ z=>?_,q.2.1⟩;have hf:fin s qs∈s::qs.map (·.2):=by
  rcases Classical.em (qs=[]) with e | e
  ·subst e;exact List.mem_cons_self
  ·obtain⟨e1,h1,h2⟩:=sW e s;rw[h2];exact List.mem_cons_of_mem _ (List.mem_map.mpr ⟨e1,h1,rfl⟩)
 exact q.2.2 _ hf _ z rfl
theorem ade(s:Str)(qs:List Stp)(e:Stp)(rs:List Stp)(M:MH){k:Int}(hk:k=2 * (qs.length:Int)+1) :
  ixW M (.d (.tuple (bR s (qs++e::rs)))) k=some (.d (.int e.1))/\ixW M (.d (.tuple (bR s (qs++e::rs)))) (k-1)=some (.d (.str (fin s qs)))/\ixW M (.d (.tuple (bR s (qs++e::rs)))) (k+1)=some (.d (.str e.2)):=by
 have hl:=eS s qs;have e0:bR s (qs++e::rs)=bR s qs++(.int e.1::.str e.2::d0 rs):=by simp[bR,d0]
 rw[e0];have at':∀ (j:Nat) (d:PyData),(bR s qs++(.int e.1::.str e.2::d0 rs))[j]? =some d->∀ i:Int,i=(j:Int)->ixW M (.d (.tuple (bR s qs++(.int e.1::.str e.2::d0 rs)))) i=some (.d d):=by intro j d h i hi;subst hi;simp only[ixW];rw[yf h];rfl
 refine⟨at' (bR s qs).length _ ?_ _ (by omega),at' ((bR s qs).length-1) _ ?_ _ (by omega),at' ((bR s qs).length+1) _ ?_ _ (by omega)⟩
 ·rw[List.getElem?_append_right (Nat.le_refl _),Nat.sub_self];rfl
 ·rw[List.getElem?_append_left (by omega),<- List.getLast?_eq_getElem?];exact sy s qs
 ·rw[List.getElem?_append_right (by omega),show(bR s qs).length+1-(bR s qs).length=1 by omega];rfl
theorem sk(M:MH)(zs:List Str):zd M (.d (.list (zs.map PyData.str))) (gD zs):=by
 have:=@zd.l M (zs.map PyData.str)
 rwa[List.map_map] at this
def ajx(B:List Bth)(R:List Row3)(s:Str)(ps:List Stp)(S:List Row3)(x4 x5 x6 x7 x8:Option W):DS:=[some (.d (lp B)),some (.d (dW R)),some (.d (.tuple (bR s ps))),some (.d (dW S)),x4,x5,x6,x7,x8]
theorem lF:∀ ws M Q,bP ws M Q->kD bN cB {nx:=λ _ M'=>Q (.d .none) M',rt:=Q} (aY kj ws) M:=by
 rintro ws M Q ⟨B,R,s,ps,K,g,rfl,okB,okR,hK,I,nd,hw,hf,p8,p0,q⟩;have sl:=s16;have b8:=okB.len;refine⟨_,rfl,_,_,rfl,.l,λ a ha=>⟨a,R.map cY,rfl,ak,?_⟩⟩;rw[hE ha];refine⟨_,rfl,_,_,rfl,rfl,rfl,_,_,rfl,rfl,_,rfl,ps.length,by rw[eS,show(λ i j=>PyData.int (i-j)) ((1+2 * ps.length:Nat):Int) 2=PyData.int (2 * (ps.length:Int)-1) from congrArg PyData.int (by omega)],by omega,?_⟩;refine⟨λ i τ M'=>M'=M/\∃ qs rs x4 x5 x6 x7 x8,ps=qs++rs/\rs.length=i/\τ=ajx B R s ps (car R rs) x4 x5 x6 x7 x8,⟨rfl,ps,[],_,_,_,_,_,(List.append_nil _).symm,rfl,rfl⟩,λ i w τ M' hw' ⟨e1,qs',rs,x4,x5,x6,x7,x8,e2,e3,e4⟩=>?_,λ τ M' ⟨e1,qs,rs,x4,x5,x6,x7,x8,e2,e3,e4⟩=>?_⟩
 ·subst e1 e4;have hi:i<ps.length:=by
   have:=(List.getElem?_eq_some_iff.mp hw').1
   simpa [k8] using this
  have hwv:w=.d (.int (2 * (ps.length:Int)-1-2 * (i:Nat))):=by
   unfold k8 at hw';rw[List.getElem?_map,List.getElem?_range hi] at hw';cases hw';rfl
  subst hwv;have hlen:qs'.length+i=ps.length:=by rw[e2,List.length_append,e3]
  obtain⟨qs,e,e5,e6⟩:=g6 (ps:=qs') (n:=qs'.length-1) (by omega);have e7:ps=qs++e::rs:=by rw[e2,e5];simp
  obtain⟨nd2,hw2⟩:=adJ (qs:=qs) (rs:=e::rs) (by rw[<- e7];exact nd) (by rw[<- e7];exact hw);have hf2:fin e.2 rs∈cW B R:=by
   have:fin s ps=fin e.2 rs:=by rw[e7,cI];rfl
   rw[<- this];exact hf
  have C:=wQ okB.nd I rs e.2 (List.nodup_cons.mp nd2).2 hw2.2 hf2;obtain⟨κ,st⟩:=sL nd2 hw2 C;have okS:OkR (car R rs):=C.ly.ok okB hK okR C.len C.nums;obtain⟨t1,t2,t3⟩:=ade s qs e rs M' (k:=2 * (ps.length:Int)-1-2 * (i:Nat)) (by omega);rw[<- e7] at t1 t2 t3;refine⟨_,rfl,_,rfl,_,_,rfl,t1,rfl,?_⟩;refine⟨_,rfl,_,rfl,_,_,rfl,rfl,_,_,rfl,t2,rfl,?_⟩;refine⟨_,rfl,_,rfl,.inl ⟨_,_,rfl,rfl,_,_,rfl,t3,rfl,?_⟩⟩;refine⟨rfl,few (by simp),_,_,rfl,_,_,rfl,_,_,rfl,rfl,?_⟩;have c1:((car R rs).filter λ r=>r.1==e.1)=[(e.1,κ,fin s qs)]:=wZ (r:=(e.1,κ,fin s qs)) C.ly.num st.row;refine⟨_,rfl,_,rfl,?_⟩;rw[List.map_map];refine cG (car R rs) (W.d ∘ cY) cY (λ r=>r.1==e.1) (λ τ=>∃ x,τ=[x,some (.d (.int e.1))]) (λ M2=>M2=M') (by have:=okS.len;omega) ⟨_,rfl⟩ rfl (λ r hr τ M2 hτ hM R' h=>?_) λ τ M2 hM=>?_
  ·obtain⟨x,rfl⟩:=hτ;subst hM;refine⟨_,rfl,0,_,rfl,rfl,rfl,_,rfl,_,_,.d,.d,rfl,_,rfl,?_⟩;rw[km];have:=h [some (.d (cY r)),some (.d (.int e.1))] M2 ⟨_,rfl⟩ rfl;cases ee:r.1==e.1 with
   | false=>rw[ee] at this;exact dP this
   | true=>rw[ee] at this;exact gE ⟨_,rfl,_,rfl,this⟩
  subst hM;rw[c1];refine⟨_,rfl,_,_,rfl,rfl,rfl,_,_,.d,.d,rfl,_,rfl,?_⟩;rw[show(!PyData.eqv (.int ((([(e.1,κ,fin s qs)]:List Row3).map cY).length:Nat)) (.int 1))=false by rw[km];rfl];refine dP ⟨_,rfl,0,_,rfl,rfl,rfl,2,_,rfl,rfl,rfl,_,rfl,_,_,.d,.d,rfl,_,rfl,?_⟩;rw[d3,show((e.1,κ,fin s qs):Row3).2.2=fin s qs from rfl,beq_self_eq_true];refine dP ⟨_,rfl,_,rfl,_,rfl,B,car R rs,rfl,okB,okS,_,_,rfl,sk _ _,_,rfl,?_⟩;rw[if_pos rfl,decide_eq_true st.fr];refine dP ⟨_,rfl,_,rfl,_,rfl,0,_,rfl,rfl,rfl,1,_,rfl,rfl,rfl,car R rs,_,_,rfl,okS,_,rfl,?_⟩;rw[st.no];refine dP ⟨_,rfl,_,rfl,?_⟩;rw[List.map_map];refine cG (car R rs) (W.d ∘ cY) (λ r=>cY (r.1,r.2.1,if r.1==e.1 then e.2 else r.2.2)) (λ _=>true) (λ τ=>∃ x,τ=[x,some (.d (.str e.2)),some (.d (.int e.1))]) (λ M3=>M3=M2) (by have:=okS.len;omega) ⟨_,rfl⟩ rfl (λ r hr τ M3 hτ hM R' h=>?_) λ τ M3 hM=>?_
  ·obtain⟨x,rfl⟩:=hτ;subst hM;have:=h [some (.d (cY r)),some (.d (.str e.2)),some (.d (.int e.1))] M3 ⟨_,rfl⟩ rfl;refine⟨_,rfl,0,_,rfl,rfl,rfl,_,rfl,1,_,rfl,rfl,rfl,_,rfl,2,_,rfl,rfl,rfl,_,rfl,[_,_],rfl,few (by simp),_,rfl,0,_,rfl,rfl,rfl,_,rfl,_,_,.d,.d,rfl,.inr ⟨_,rfl,_,.d (.str (if r.1==e.1 then e.2 else r.2.2)),rfl,?_,rfl,[_,_,_],rfl,few (by simp),_,rfl,this⟩⟩;rw[km];cases r.1==e.1<;>rfl
  ·subst hM;have em:((car R rs).filter λ _=>true).map (λ r=>cY (r.1,r.2.1,if r.1==e.1 then e.2 else r.2.2))=(car R (e::rs)).map cY:=by rw[List.filter_eq_self.mpr λ _ _=>rfl];show _=(mv (car R rs) e.1 e.2).map cY;unfold mv;rw[List.map_map];rfl
   rw[em];exact⟨rfl,qs,e::rs,_,_,_,_,_,e7,by rw[List.length_cons,e3],rfl⟩
 ·subst e1 e4;have:qs=[]:=by
   have h1:rs.length=ps.length:=by simpa [k8] using e3
   have h2:=congrArg List.length e2;rw[List.length_append] at h2;exact List.length_eq_zero_iff.mp (by omega)
  subst this;have:ps=rs:=e2;subst this;exact⟨_,rfl,q⟩
theorem wY(x:PyData)(xs:List PyData):PyData.eqv (.list (x::xs)) (.list [])=false:=by simp[PyData.eqv,PyData.eqvAll]
theorem yR{zs:List Str}(h:zs.Nodup):∀ i,i<=zs.length->dnT zs i=i
 | 0,_=>rfl
 | i+1,hi=>by
  have ih:=yR h i (by omega);have hlt:i<zs.length:=by omega
  rw[dnT,if_neg,ih];intro q;have e:zs[i]? =some (zs.getD i ""):=by simp[List.getD,List.getElem?_eq_getElem hlt]
  exact rJ h e q
def yI(R:List Row3):Prop:=∀ r∈R,0<=r.1/\r.1<=3 * (R.length:Int)
structure PuI(B:List Bth)(K:List Str)(g:Str->Int):Prop where
 okB:OkB B
 b4:∀ b∈B,b.2<=4
 words:∀ z∈K,m8 z=true/\z.length<=8
 nd:K.Nodup
 fit:∀ p:Str->Bool,((K.filter p).map g).sum<=room (rooms B) ((K.filter p).length:Nat)
theorem PuI.okR{B:List Bth}{K:List Str}{g:Str->Int}(h:PuI B K g){R:List Row3}(I:LyI B K g R)(n:yI R):OkR R:=by
 have h1:=I.few h.okB.nd h.b4;have h2:=h.okB.len;have h3:(R.length:Int)<=32:=by omega
 exact⟨by omega,λ r hr=>by have:=n r hr;omega,λ r hr=>by have h4:=h.words _ (I.kin r hr);have h5:=(vG h.okB).word _ (I.mem r hr);exact⟨h4.1,h5.1,h4.2,h5.2⟩⟩
def cZ:SpD:=λ ws M Q=>∃ (B:List Bth) (R:List Row3) (k:Str) (p:Addr) (K:List Str) (g:Str->Int),ws=[.d (lp B),.d (dW R),.d (.str k),.m p]/\Bag M p/\jf M/\PuI B K g/\LyI B K g R/\yI R/\k∈K/\(cntK R k:Int)<g k /\
 ∀ S M',LyI B K g S->yI S->(∀ x,cntK S x=cntK R x+if x=k then 1 else 0)->Bag M' p->Exb p M M'->Q (.d (dW S)) M'
theorem xI:∀ ws M Q,cZ ws M Q->ws.length=4:=by rintro ws M Q ⟨B,R,k,p,K,g,rfl,_⟩;rfl
def ajv(B:List Bth)(R:List Row3)(k:Str)(p:Addr)(S:List Row3)(O:List Str)(x6 x7:Option W):DS:=[some (.d (lp B)),some (.d (dW R)),some (.d (.str k)),some (.m p),some (.d (dW S)),some (.d (.list (O.map PyData.str))),x6,x7]
def afV(az:SpD):TSd:=
  bp (bW (dOp cj (ag 5) (bq az (ae (ag 3) (ae (dCB df (ae (ag 5) (aK))) (aK))))) (gN 7)) <|
  dY (ad0 (ag 4) (u6 (ae (pz (ae (dOp cX (ad3 0 (dLC (bj (ag 4)) (gN 0) (ql) (dOp cj (ag 0) (dI 0)) 1 [])) (dI 1)) (ae (ag 2) (ae (ag 7) (aK))))) (aK))))
theorem vh{B:List Bth}{R S:List Row3}{O K:List Str}{g:Str->Int}{k:Str}{p:Addr}{x6 x7:Option W}{M M0:MH}{Q:QD}{nx:DS->MH->Prop}(U:PuI B K g)(J:LyI B K g S)(n:yI S)(hk:k∈K)(hl:(cntK S k:Int)<g k)(o0:0<O.length)(o8:O.length<=8)(hO:∀ m∈O,m∈cW B S/\hasB S m k=false)(b0:Bag M p)(x0:Exb p M0 M)
  (q:∀ S' M',LyI B K g S'->yI S'->(∀ x,cntK S' x=cntK S x+if x=k then 1 else 0)->Bag M' p->Exb p M0 M'->Q (.d (dW S')) M'):afV az {nx:=nx,rt:=Q} (ajv B R k p S O x6 x7) M:=by
 have okS:=U.okR J n;have lenS:=okS.len;have s16':=s16;refine⟨_,rfl,_,rfl,_,rfl,_,_,rfl,rfl,rfl,p,_,rfl,b0,by rw[List.length_map];omega,by rw[List.length_map];omega,λ r M1 r0 r1 b1 f1=>?_⟩;obtain⟨m,hix,hm⟩:=jQ (M:=M1) (zs:=O) r0 (by rw[List.length_map] at r1;exact r1);obtain⟨m1,m2⟩:=hO m hm;refine⟨r,_,rfl,hix,rfl,?_⟩;refine⟨_,rfl,_,rfl,_,rfl,?_⟩;rw[List.map_map];refine cG S (W.d ∘ cY) (λ r=>.int r.1) (λ _=>true) (λ τ=>∃ x,τ=[x]) (λ M2=>M2=M1) (by omega) ⟨_,rfl⟩ rfl (λ r hr τ M2 hτ hM R' h=>?_) λ τ M2 hM=>?_
 ·obtain⟨x,rfl⟩:=hτ;subst hM;have:=h [some (.d (cY r))] M2 ⟨_,rfl⟩ rfl;exact⟨_,rfl,0,_,rfl,rfl,rfl,_,rfl,this⟩
 ·subst hM;rw[List.filter_eq_self.mpr λ _ _=>rfl];have fin:∀ v:Int,0<=v->v<=3 * (S.length:Int)->(∀ r∈S,r.1<=v)->Q (.d (.list (S.map cY++[cY (v+1,k,m)]))) M2:=λ v v0 v1 hv=>by
   have e:S.map cY++[cY (v+1,k,m)]=(S++[(v+1,k,m)]).map cY:=by rw[List.map_append];rfl
   rw[e];refine q _ M2 (ab3 U.okB.nd J hk hl m1 m2 λ r hr e=>by have:=hv r hr;omega) (λ r hr=>?_) adj b1 (x0.trans (Exb.of f1));rw[List.length_append,List.length_singleton];rcases List.mem_append.mp hr with h | h
   ·have:=n r h;omega
   ·rw[List.mem_singleton.mp h];dsimp only;omega
  refine⟨S.map (·.1),by rw[List.map_map];rfl,λ hn=>?_,λ v hv hle=>?_⟩
  ·refine .inl ⟨_,_,rfl,rfl,_,rfl,_,rfl,[_,_,_],rfl,few (by simp),[_],rfl,few (by simp),_,_,.d,.d,by simp;omega,?_⟩;have:S=[]:=List.map_eq_nil_iff.mp hn;exact fin 0 (Int.le_refl _) (by omega) λ r hr=>by rw[this] at hr;cases hr
  ·refine .inl ⟨_,_,rfl,rfl,_,rfl,_,rfl,[_,_,_],rfl,few (by simp),[_],rfl,few (by simp),_,_,.d,.d,by simp;omega,?_⟩;obtain⟨r0,hr0,e0⟩:=List.mem_map.mp hv;have:=n r0 hr0;exact fin v (by omega) (by omega) λ r hr=>hle _ (List.mem_map.mpr ⟨r,hr,rfl⟩)
theorem yA(s:Str):∀ ps:List Stp,ev2 (bR s ps)=(s::ps.map (·.2)).map PyData.str
 | []=>rfl
 | e::ps=>by have:=yA e.2 ps;rw[jB];show PyData.str s::ev2 (bR e.2 ps)=_;rw[this];rfl
theorem qP(s:Str)(ps:List Stp)(M:MH):ixW M (.d (.tuple (bR s ps))) 0=some (.d (.str s)):=by simp only[ixW];rw[show(0:Int)=((0:Nat):Int) from rfl,yf (v:=PyData.str s) rfl];rfl
theorem aaG(O:List Str):PyData.eqv (.list (O.map PyData.str)) (.list [])=decide (O=[]):=by
 cases O with
 | nil=>rfl
 | cons x O=>rw[List.map_cons,wY];simp
theorem uL:∀ ws M Q,cZ ws M Q->yk bN cB cV bP az {nx:=λ _ M'=>Q (.d .none) M',rt:=Q} (aY vm ws) M:=by
 rintro ws M Q ⟨B,R,k,p,K,g,rfl,b0,hC,U,I,n,hk,hl,q⟩;have okB:=U.okB;have okR:=U.okR I n;have b8:=okB.len;have s16':=s16;refine⟨_,rfl,_,rfl,_,rfl,B,R,rfl,okB,okR,_,rfl,?_⟩;rw[List.map_map];have fl:(cW B R).length<=8:=by
  unfold cW;rw[List.length_map];exact Nat.le_trans (List.length_filter_le _ _) b8
 refine cG (cW B R) (W.d ∘ PyData.str) PyData.str (λ m=>!hasB R m k) (λ τ=>∃ x,τ=[x,some (.d (dW R)),some (.d (.str k))]) (λ M'=>M'=M) (by omega) ⟨_,rfl⟩ rfl (λ m hm τ M' hτ hM R' h=>?_) λ τ M' hM=>?_
 ·obtain⟨x,rfl⟩:=hτ;subst hM;refine⟨_,rfl,_,rfl,_,rfl,R,m,k,rfl,okR,_,rfl,?_⟩;have:=h [some (.d (.str m)),some (.d (dW R)),some (.d (.str k))] M' ⟨_,rfl⟩ rfl;cases e:hasB R m k with
  | false=>rw[e] at this;exact gE ⟨_,rfl,_,rfl,this⟩
  | true=>rw[e] at this;exact dP this
 subst hM;generalize hO:(cW B R).filter (λ m=>!hasB R m k)=O;have memO:∀ m,m∈O ↔ m∈cW B R/\hasB R m k=false:=λ m=>by rw[<- hO,List.mem_filter,Bool.not_eq_true']
 have lenO:O.length<=8:=by rw[<- hO];exact Nat.le_trans (List.length_filter_le _ _) fl
 have wordO:∀ m∈O,m8 m=true:=λ m hm=>by obtain⟨b,hb,e⟩:=List.mem_map.mp ((memO m).mp hm).1;have:=(vG okB).word m (List.mem_map.mpr ⟨b,(List.mem_filter.mp hb).1,e⟩);exact this.1
 refine⟨_,rfl,[],rfl,Nat.zero_le _,_,_,.d,.d,mE (k:=3) (by decide) (kE λ d hd=>?_) rfl,_,rfl,?_⟩
 ·obtain⟨x,hx,rfl⟩:=List.mem_map.mp hd;simp[okD,wordO x hx]
 rw[aaG]
 by_cases e:O=[]
 ·rw[decide_eq_true e];refine gE ?_;have no:∀ m∈cW B R,hasB R m k=true:=λ m hm=>by
   cases z:hasB R m k with
   | true=>rfl
   | false =>
    have:=(memO m).mpr ⟨hm,z⟩;rw[e] at this;cases this
  refine⟨_,rfl,_,_,rfl,.l,λ a1 h1=>⟨a1,_,rfl,ak,?_⟩⟩;rw[hE h1];refine⟨_,rfl,_,_,rfl,.l,λ a2 h2=>⟨a2,_,rfl,ak,?_⟩⟩;rw[hE h2];refine⟨_,rfl,B,R,k,rfl,okB,okR,I.mem,hC,λ M1 s ps x least ok p8=>?_,λ M1 x none=>?_⟩
  ·have nd:=zB least;obtain⟨⟨hs,hls,hw,hf,hne⟩,_⟩:=least;have hls:hasB R s k=false:=hls;have p0:0<ps.length:=by
    cases ps with
    | nil=>exact absurd rfl hne
    | cons=>exact Nat.succ_pos _
   have b1:Bag M1 p:=by obtain⟨o,ho⟩:=wx b0;exact fk b0 ((x p o ho).trans ho.symm)
   have wl:=eS s ps;refine⟨_,rfl,_,_,_,rfl,.d,.tuple,_,rfl,?_⟩;rw[show jw (.tuple (bR s ps)) "tuple" = true by simp[jw,tyD]];refine dP ⟨_,rfl,_,_,rfl,rfl,rfl,_,_,rfl,rfl,_,rfl,?_⟩;rw[decide_eq_false (by rw[wl];omega)];refine dP ⟨_,rfl,_,_,rfl,rfl,rfl,_,_,rfl,rfl,(show(0:Int)<2 by decide),_,_,.d,.d,rfl,_,rfl,?_⟩;rw[km,show(((((bR s ps).length:Nat):Int) % 2)==0)=false by rw[wl];exact beq_eq_false_iff_ne.mpr (by omega)];refine dP ⟨_,rfl,_,rfl,0,_,rfl,qP s ps _,rfl,_,rfl,R,s,k,rfl,okR,_,rfl,?_⟩;rw[hls];refine dP ⟨_,rfl,_,rfl,s::ps.map (·.2),by rw[yA],by simp;omega,_,rfl,_,rfl,_,_,rfl,rfl,rfl,_,_,rfl,rfl,_,rfl,?_⟩;rw[yR nd _ (Nat.le_refl _),yA,List.length_map,decide_eq_false (Int.lt_irrefl _)];refine dP ⟨_,rfl,_,rfl,_,rfl,B,R,s,ps,K,g,rfl,okB,okR,U.words,I,nd,hw,hf,p8,p0,?_⟩;have C:=wQ okB.nd I ps s nd hw hf;have okS:=C.ly.ok okB U.words okR C.len C.nums;have noS:hasB (car R ps) s k=false:=by
    cases z:hasB (car R ps) s k with
    | false=>rfl
    | true=>exact(C.less k z).symm.trans hls
   refine⟨_,rfl,rfl,_,rfl,dP ⟨_,rfl,0,_,rfl,qP s ps _,rfl,_,rfl,_,rfl,B,car R ps,rfl,okB,okS,_,_,rfl,sk _ _,_,rfl,?_⟩⟩;rw[if_pos rfl,decide_eq_true C.fr];refine dP ⟨_,rfl,0,_,rfl,qP s ps _,rfl,[_],rfl,few (by simp),?_⟩;refine vh (M0:=M') (O:=[s]) U C.ly (λ r hr=>?_) hk (by rw[C.cnt];exact hl) (by simp) (by simp) (λ m hm=>?_) b1 (Exb.ext x) λ S' M2 J n2 c2 b2 x2=>q S' M2 J n2 (λ x=>by rw[c2,C.cnt]) b2 x2
   ·have:r.1∈(car R ps).map (·.1):=List.mem_map.mpr ⟨r,hr,rfl⟩;rw[C.nums] at this;obtain⟨r0,h0,e0⟩:=List.mem_map.mp this;rw[C.len,<- e0];exact n r0 h0
   ·rw[List.mem_singleton.mp hm];exact⟨C.fr,noS⟩
  ·obtain⟨s,ps,h⟩:=afe okB.nd U.nd I U.fit hk hl no;exact absurd h (none s ps)
 ·rw[decide_eq_false e];refine dP ?_;exact vh (M0:=M') (O:=O) U I n hk hl (List.length_pos_iff.mpr e) lenO (λ m hm=>(memO m).mp hm) b0 (Exb.refl p M') q
def cO:SpD:=λ ws M Q=>∃ (p:Addr) (B:List Bth) (d:Addr) (K:List Str) (g:Str->Int),ws=[.m p,.d (lp B),.m d]/\Bag M p/\PuI B K g/\0<B.length/\M d=some (.dic (kf K λ z=>.d (.int (g z))))/\0<K.length/\K.length<=9/\(∀ z∈K,0<=g z) /\
 ∀ R a M',LyI B K g R->yI R->Bag M' p->Exb p M M'->a≠p->M a=none->M' a=some (.lst ((R.map cY).map W.d))->Q (.m a) M'
theorem qH:∀ ws M Q,cO ws M Q->ws.length=3:=by rintro ws M Q ⟨p,B,d,K,n,rfl,_⟩;rfl
def ahV(p:Addr)(B:List Bth)(d a:Addr)(num:Int)(x5 x6 x7 x8 x9 x10:Option W):DS:=[some (.m p),some (.d (lp B)),some (.m d),some (.m a),some (.d (.int num)),x5,x6,x7,x8,x9,x10]
structure LaI(R:List Row3)(num:Int):Prop where
 bnd:0<=num/\num<=3 * (R.length:Int)
 row:∀ r∈R,0<=r.1/\r.1<=num
theorem LaI.num{R:List Row3}{num:Int}(h:LaI R num):yI R:=λ r hr=>by have:=h.row r hr;have:=h.bnd;omega
theorem LaI.put{R:List Row3}{num:Int}(h:LaI R num){d:Int}{k m:Str}(h0:0<=d)(h1:d<3):LaI (R++[(num+1+d,k,m)]) (num+1+d):=by
 have hb:=h.bnd;refine⟨by rw[List.length_append,List.length_singleton];omega,λ r hr=>?_⟩;rcases List.mem_append.mp hr with hr | hr
 ·have:=h.row r hr;omega
 ·rw[List.mem_singleton.mp hr];dsimp only;omega
theorem LyI.zero{B:List Bth}{K:List Str}{g:Str->Int}(okB:OkB B)(hg:∀ z∈K,0<=g z):LyI B K g [] where
 mem:=λ _ hr=>(List.not_mem_nil hr).elim
 kin:=λ _ hr=>(List.not_mem_nil hr).elim
 num:=List.nodup_nil
 pr:=List.nodup_nil
 room:=λ b hb=>(okB.num b hb).1
 due:=hg
theorem aco{R:List Row3}{m z:Str}(h:(R.filter λ r=>r.2.2==m).filter (λ r=>r.2.1==z)=[]):hasB R m z=false:=by
 cases e:hasB R m z with
 | false=>rfl
 | true =>
  obtain⟨n,hn⟩:=tS e;have:(n,z,m)∈(R.filter λ r=>r.2.2==m).filter (λ r=>r.2.1==z):=List.mem_filter.mpr ⟨List.mem_filter.mpr ⟨hn,by simp⟩,by simp⟩;rw[h] at this;cases this
theorem aaM(X:List Row3):PyData.eqv (.list (X.map cY)) (.list [])=decide (X=[]):=by
 cases X with
 | nil=>rfl
 | cons x O=>rw[List.map_cons,wY];simp
theorem oK:∀ ws M Q,cO ws M Q->oh az {nx:=λ _ M'=>Q (.d .none) M',rt:=Q} (aY oy ws) M:=by
 rintro ws M Q ⟨p,B,d,K,g,rfl,b0,U,B0,hd,k0,k9,hg,q⟩;have sl:=s16;have okB:=U.okB;have hK:=U.words;have b8:=okB.len;refine⟨Nat.zero_le _,λ a ha=>?_⟩;have pa:p≠a:=zy b0 ha;have dp:d≠p:=λ e=>by obtain⟨a1,a2,a3,ns,h1,_⟩:=b0;rw[<- e,hd] at h1;cases h1
 refine⟨_,rfl,p,25,rfl,fk b0 (aI pa),by decide,by decide,λ N M1 m0 m1 b1 f1=>?_⟩;have x1:Exb p M M1:=(Exb.upd (Exb.refl p M) ha).trans (Exb.of f1);have h1:M1 a=some (.lst (([]:List Row3).map cY |>.map W.d)):=by rw[f1 a pa.symm];exact ak
 refine⟨_,rfl,by omega,by omega,λ i τ M'=>i<=N.toNat/\Bag M' p/\Exb p M M'/\∃ R num x5 x6 x7 x8 x9 x10,τ=ahV p B d a num x5 x6 x7 x8 x9 x10/\M' a=some (.lst ((R.map cY).map W.d))/\LyI B K g R/\LaI R num,
  ⟨Nat.zero_le _,b1,x1,[],0,_,_,_,_,_,_,rfl,h1,LyI.zero okB hg,⟨by decide,λ r hr=>by cases hr⟩⟩,λ i w τ M' hw ⟨hi,b2,x2,R,num,x5,x6,x7,x8,x9,x10,e,h2,I,hc⟩=>?_,λ τ M' ⟨hi,b2,x2,R,num,x5,x6,x7,x8,x9,x10,e,h2,I,hc⟩=>?_⟩
 ·subst e;obtain⟨hlt,rfl⟩:=tH hw;refine⟨_,rfl,_,rfl,_,rfl,_,_,rfl,rfl,rfl,p,_,rfl,b2,by rw[List.length_map];omega,by rw[List.length_map];omega,λ r M3 r0 r1 b3 f3=>?_⟩;obtain⟨bd,hix,hbm⟩:=agp (M:=M3) (ds:=B.map bD) r0 (by exact r1);obtain⟨b,hb,rfl⟩:=List.mem_map.mp hbm;refine⟨r,_,rfl,hix,rfl,_,rfl,rfl,_,_,rfl,_,_,rfl,rfl,?_⟩;have x3:=x2.trans (Exb.of f3);have h3:M3 a=some (.lst ((R.map cY).map W.d)):=by rw[f3 a pa.symm];exact h2
  refine⟨_,rfl,d,_,K,rfl,x3 _ _ dp hd,yy K _,by omega,λ zs perm _ l hl=>⟨l,zs.map PyData.str,rfl,by rw[ak,List.map_map];rfl,?_⟩⟩;rw[hE hl];have zl:=perm.length_eq;refine⟨_,rfl,_,rfl,d,_,rfl,x3 _ _ dp hd,p,_,rfl,b3,by rw[oD];omega,by rw[oD];omega,λ r2 M4 q0 q1 b4 f4=>?_⟩;rw[oD] at q1;obtain⟨z,hiz,hz⟩:=jQ (M:=M4) (zs:=zs) q0 (by rw[zl];exact q1);have hzK:=perm.mem_iff.mp hz;have x4:=x3.trans (Exb.of f4);have h4:M4 a=some (.lst ((R.map cY).map W.d)):=by rw[f4 a pa.symm];exact h3
  have okR:OkR R:=U.okR I hc.num;refine⟨r2,_,rfl,hiz,rfl,?_⟩;refine lV (c:=λ r=>r.2.2) (cx:=2) okR h4 rfl (λ r _ _=>rfl) rfl ?_;refine lV (c:=λ r=>r.2.1) (cx:=1) okR h4 rfl (λ r _ _=>rfl) rfl ?_;have skip:∀ y5 y6 y7 y8 y9 y10,(λ(i:Nat) (τ:DS) (M':MH)=>i<=N.toNat/\Bag M' p/\Exb p M M'/\∃ R num x5 x6 x7 x8 x9 x10,τ=ahV p B d a num x5 x6 x7 x8 x9 x10/\M' a=some (.lst ((R.map cY).map W.d))/\LyI B K g R/\LaI R num) (i+1) (ahV p B d a num y5 y6 y7 y8 y9 y10) M4:=λ _ _ _ _ _ _=>⟨by omega,b4,x4,R,num,_,_,_,_,_,_,rfl,h4,I,hc⟩;refine⟨_,rfl,_,_,rfl,rfl,rfl,_,rfl,_,_,rfl,rfl,_,rfl,?_⟩;refine jP (λ e1=>?_) λ _=>dP (skip _ _ _ _ _ _);have e1:=of_decide_eq_true e1;rw[List.length_map] at e1;refine⟨_,rfl,_,rfl,?_⟩;rw[List.map_map];refine cG (R.filter λ r=>r.2.2==b.1) (W.d ∘ cY) cY (λ r=>r.2.1==z) (λ τ=>∃ x,τ=[x,some (.d (.str z))]) (λ M'=>M'=M4) (by have:=okR.len;have:=List.length_filter_le (λ r:Row3=>r.2.2==b.1) R;omega) ⟨_,rfl⟩ rfl (λ r hr τ M' hτ hM R' h=>?_) λ τ M' hM=>?_
  ·obtain⟨x,rfl⟩:=hτ;subst hM;refine⟨_,rfl,1,_,rfl,rfl,rfl,_,rfl,_,_,.d,.d,rfl,_,rfl,?_⟩;rw[d3];have:=h [some (.d (cY r)),some (.d (.str z))] M' ⟨_,rfl⟩ rfl;cases e:r.2.1==z with
   | false=>rw[e] at this;exact dP this
   | true=>rw[e] at this;exact gE ⟨_,rfl,_,rfl,this⟩
  subst hM;refine⟨[],rfl,Nat.zero_le _,_,_,.d,.d,mE (k:=3) (by decide) (kE λ dd hdd=>?_) rfl,_,rfl,?_⟩
  ·obtain⟨x,hx,rfl⟩:=List.mem_map.mp hdd;have hxR:=(List.mem_filter.mp (List.mem_filter.mp hx).1).1;obtain⟨w1,w2,w3,w4⟩:=okR.word x hxR;have:=okR.num x hxR;simp[cY,okD,okA,w1,w2];omega
  rw[aaM];refine jP (λ e2=>?_) λ _=>dP (skip _ _ _ _ _ _);have e2:=of_decide_eq_true e2;refine⟨_,rfl,_,_,rfl,rfl,rfl,_,rfl,_,rfl,d,_,.inr z,_,rfl,.inl (x4 _ _ dp hd),rfl,ka hzK,_,_,rfl,rfl,_,rfl,?_⟩;refine jP (λ e3=>?_) λ _=>skip _ _ _ _ _ _;have e3:=of_decide_eq_true e3;rw[List.length_map] at e3;refine⟨_,rfl,.inl ⟨_,_,rfl,rfl,_,rfl,p,3,rfl,b4,by decide,by decide,λ u M5 u0 u1 b5 f5=>.inl ⟨_,_,rfl,rfl,?_⟩⟩⟩;have h5:M5 a=some (.lst ((R.map cY).map W.d)):=by rw[f5 a pa.symm];exact h4
  have hlen:=okR.len;refine⟨_,rfl,a,_,rfl,h5,_,rfl,_,rfl,_,rfl,_,rfl,few (by simp),_,h5,by rw[List.length_map,List.length_map];omega,by omega,fk b5 (aI pa),(x4.trans (Exb.of f5)).upd ha,R++[(num+1+u,z,b.1)],num+1+u,_,_,_,_,_,_,rfl,?_,?_,hc.put u0 (by omega)⟩
  ·rw[ak,List.map_append,List.map_append];rfl
  ·exact ab3 okB.nd I hzK e3 (mG hb e1) (aco e2) λ r hr e=>by have:=hc.row r hr;omega
 ·subst e;exact⟨_,rfl,q R a M' I hc.num b2 x2 pa.symm ha h2⟩
def tl(rs:List Int):Dm->As->List Int
 | _,[]=>[]
 | D,r::A=>gr rs D r.2.1 r.2.2.toNat::tl rs (more D r.2.1 (gr rs D r.2.1 r.2.2.toNat)) A
def dm:Dm->As->List Int->Dm
 | D,r::A,x::v=>dm (more D r.2.1 x) A v
 | D,_,_=>D
def nZ:As->List Int->As
 | r::A,x::v=>(r.1,r.2.1,x)::nZ A v
 | _,_=>[]
theorem aba(rs:List Int):∀ (A:As) (D:Dm) (out:As),(A.foldl (stp rs) (D,out)).2.map (λ r=>r.2.2)=out.map (λ r=>r.2.2)++tl rs D A
 | [],D,out=>by simp[tl]
 | r::A,D,out=>by rw[List.foldl_cons];show(A.foldl (stp rs) (more D r.2.1 (gr rs D r.2.1 r.2.2.toNat),out++[(r.1,r.2.1,gr rs D r.2.1 r.2.2.toNat)])).2.map _=_;rw[aba rs A,List.map_append,List.append_assoc];rfl
theorem yi:∀ (A:As) (v:List Int) (D:Dm),(nZ A v).foldl (λ D r=>more D r.2.1 r.2.2) D=dm D A v
 | [],_,D=>by simp[nZ,dm]
 | _::_,[],D=>by simp[nZ,dm]
 | r::A,x::v,D=>by show(((r.1,r.2.1,x)::nZ A v).foldl (λ D r=>more D r.2.1 r.2.2) D)=dm (more D r.2.1 x) A v;rw[List.foldl_cons];exact yi A v _
def Fit:As->List Int->Prop
 | [],[]=>True
 | r::A,x::v=>0<=x/\x<=r.2.2/\Fit A v
 | _,_=>False
structure Gd(D:Dm):Prop where
 nd:(D.map Prod.fst).Nodup
 nn:∀ r∈D,0<=r.2
theorem afL{D:Dm}(h:Gd D)(k:Str):0<=val D k:=by
 unfold val;cases e:fd Prod.fst D k with
 | none=>exact Int.le_refl 0
 | some r=>exact h.nn r (eJ e).1
theorem Gd.more{D:Dm}(h:Gd D){k:Str}{n:Int}(hn:0<=n):Gd (more D k n):=by
 refine⟨acE h.nd,λ r hr=>?_⟩;have:=afL h k;rcases vf (nm:=Prod.fst) hr with e | e
 ·subst e;dsimp only;omega
 ·exact h.nn r e
theorem Gd.vals{D:Dm}(h:Gd D):∀ y∈vals D,0<=y:=λ y hy=>by obtain⟨r,hr,rfl⟩:=List.mem_map.mp hy;exact h.nn r hr
theorem abW:∀ (A:As) (v:List Int) (D:Dm),Gd D->Fit A v->Dom (vals D) (vals (dm D A v))/\Gd (dm D A v)
 | [],[],D,g,_=>⟨Dom.refl _,g⟩
 | [],_::_,_,_,h=>h.elim
 | _::_,[],_,_,h=>h.elim
 | r::A,x::v,D,g,h=>by obtain⟨h1,h2⟩:=abW A v (more D r.2.1 x) (g.more h.1) h.2.2;exact⟨(aaK g.nd h.1 g.nn).trans h1,h2⟩
theorem sT{rs:List Int}(hr:Stc.OkR rs):∀ (A:As) (D:Dm),Gd D->(∀ r∈A,0<=r.2.2)->pf rs D=true->pf rs (dm D A (tl rs D A))=true/\Fit A (tl rs D A)
 | [],D,_,_,h=>⟨h,trivial⟩
 | r::A,D,g,hc,h=>by
  have hb:=ahq rs D r.2.1 r.2.2.toNat;have hc0:=hc r (by simp);have hg:=(agS rs D r.2.1 r.2.2.toNat).1;have hD:pf rs (more D r.2.1 (gr rs D r.2.1 r.2.2.toNat))=true:=by
   by_cases q:gr rs D r.2.1 r.2.2.toNat=0
   ·rw[q];exact aeg hr (xZ g.nd) g.vals h
   ·have:=hg (gr rs D r.2.1 r.2.2.toNat).toNat (by omega) (by omega);rw[show(((gr rs D r.2.1 r.2.2.toNat).toNat:Nat):Int)=gr rs D r.2.1 r.2.2.toNat from by omega] at this;exact this
  obtain⟨i1,i2⟩:=sT hr A (more D r.2.1 (gr rs D r.2.1 r.2.2.toNat)) (g.more hb.1) (λ r' hr'=>hc r' (by simp[hr'])) hD;exact⟨i1,hb.1,by omega,i2⟩
theorem acV(rs:List Int):pf rs []=true:=by have:dsc (vals [])=[]:=List.eq_nil_of_length_eq_zero (by rw[(cg _).length_eq];rfl);unfold pf;rw[this];rfl
theorem xb:∀ {A:As} {v:List Int},Fit A v->v.length=A.length
 | [],[],_=>rfl
 | [],_::_,h=>h.elim
 | _::_,[],h=>h.elim
 | r::A,x::v,h=>by simp[xb h.2.2]
theorem abT(A:As)(v:List Int):dmd (nZ A v)=dm [] A v:=yi A v []
theorem abq:Gd []:=⟨by simp,λ r hr=>by simp at hr⟩
theorem afo(rs:List Int)(A:As):(due rs A).map (λ r=>r.2)=tl rs [] A:=by have:=aba rs A [] [];unfold due;rw[List.map_map];exact this
theorem oP{rs:List Int}{A:As}:∀ i,i<=A.length->(run rs (A.take i)).2.map (·.1)=(A.take i).map (·.1)
 | 0,_=>rfl
 | i+1,hi=>by
  have hlt:i<A.length:=by omega
  have e:A[i]? =some A[i]:=List.getElem?_eq_getElem hlt;rw[jE e,List.take_succ,e,List.map_append,<- oP (rs:=rs) i (by omega)];show((run rs (A.take i)).2++[((A[i]).1,(A[i]).2.1,gr rs (run rs (A.take i)).1 (A[i]).2.1 (A[i]).2.2.toNat)]).map (·.1)=_;rw[List.map_append];rfl
theorem kg(rs:List Int)(A:As):(due rs A).map (·.1)=A.map (·.1):=by have:=oP (rs:=rs) (A:=A) A.length (Nat.le_refl _);rw[List.take_length] at this;rw[<- this];unfold due;rw[List.map_map];rfl
def vB(B:Bs)(z:Str):Int:=((fd Prod.fst B z).map (·.2)).getD 0
theorem pJ{B:Bs}(nd:(B.map (·.1)).Nodup){r:Str×Int}(h:r∈B):vB B r.1=r.2:=by
 unfold vB;rw[rK (nm:=Prod.fst) nd h];rfl
theorem agF{B:Bs}(nd:(B.map (·.1)).Nodup):(B.map (·.1)).map (vB B)=vals B:=by
 unfold vals;rw[List.map_map];exact List.map_congr_left λ r hr=>pJ nd hr
theorem yG(E0:Bs):∀ (A:As) (E:Bs),E.map (·.1)=A.map (·.1)->(∀ e∈E,vB E0 e.1=e.2)->A.map (λ r=>(r.1,r.2.1,vB E0 r.1))=nZ A (E.map (·.2))
 | [],[],_,_=>rfl
 | [],_::_,h,_=>by cases h
 | _::_,[],h,_=>by cases h
 | r::A,e::E,h,hv=>by
  rw[List.map_cons,List.map_cons] at h
  injection h with h1 h2
  rw[List.map_cons,List.map_cons,nZ,yG E0 A E h2 λ x hx=>hv x (List.mem_cons_of_mem _ hx),<- h1,hv e List.mem_cons_self]
theorem pU:∀ (A:As) (D:Dm),(∀ r∈D,wd r.1=true)->(∀ r∈A,wd r.2.1=true)->∀ r∈A.foldl (λ D r=>more D r.2.1 r.2.2) D,wd r.1=true
 | [],_,h,_=>h
 | a::A,D,h,hA=>pU A (more D a.2.1 a.2.2) (λ r hr=>by
   rcases vf (nm:=Prod.fst) hr with e | e
   ·rw[e];exact hA a List.mem_cons_self
   ·exact h r e) λ r hr=>hA r (List.mem_cons_of_mem _ hr)
theorem adQ(D:Dm)(k:Str)(n:Int):more D k n≠[]:=λ e=>by have h:=ag2 (nm:=Prod.fst) D (k,val D k+n) k;rw[if_pos rfl] at h;have e:pt Prod.fst D (k,val D k+n)=[]:=e;rw[e] at h;cases h
theorem abQ:∀ (A:As) (D:Dm),A≠[]\/D≠[]->A.foldl (λ D r=>more D r.2.1 r.2.2) D≠[]
 | [],_,h=>h.resolve_left λ h=>h rfl
 | a::A,D,_=>abQ A _ (.inr (adQ D _ _))
theorem abA{D:Dm}(nd:(D.map Prod.fst).Nodup):aS (rk Prod.fst gI D)=kf (D.map (·.1)) λ z=>.d (.int (vB D z)):=by
 unfold aS rk kf;rw[List.map_map,List.map_map];refine List.map_congr_left λ r hr=>?_;show((.inr r.1:Key),W.d (.int r.2))=(.inr r.1,W.d (.int (vB D r.1)));rw[pJ nd hr]
structure DmI(rs:List Int)(D:Dm):Prop where
 gd:Gd D
 fit:pf rs D=true
 len:D.length<=9
 ne:D≠[]
 words:∀ r∈D,wd r.1=true
 top:∀ r∈D,r.2<=1000
theorem ain{B:Bs}{A:As}(hB:Stc.OkB B)(hA:OkA A)(h0:A≠[]):OkC (nZ A (tl (rooms B) [] A))/\DmI (rooms B) (dmd (nZ A (tl (rooms B) [] A))):=by
 obtain⟨tf,tF⟩:=sT hB.r A [] abq (λ r hr=>(hA.row r hr).c0) (acV _);have hl:=xb tF;have hC:OkC (nZ A (tl (rooms B) [] A)):=by
  have:∀ (A:As) (v:List Int),Fit A v->(∀ r∈A,r.2.2<=6)->(nZ A v).length=A.length/\∀ r∈nZ A v,0<=r.2.2/\r.2.2<=6:=by
   intro A
   induction A with
   | nil=>intro v h _;cases v with
    | nil=>exact⟨rfl,λ r hr=>by cases hr⟩
    | cons=>exact h.elim
   | cons a A ih=>intro v h h6;cases v with
    | nil=>exact h.elim
    | cons x v =>
     obtain⟨i1,i2⟩:=ih v h.2.2 λ r hr=>h6 r (List.mem_cons_of_mem _ hr);have h1:=h.1;have h2:=h.2.1;have h3:=h6 a List.mem_cons_self;refine⟨by simp only[nZ,List.length_cons,i1],λ r hr=>?_⟩;simp only[nZ,List.mem_cons] at hr;rcases hr with e | e
     ·rw[e];dsimp only;omega
     ·exact i2 r e
  obtain⟨h1,h2⟩:=this A _ tF λ r hr=>(hA.row r hr).c6;exact⟨by rw[h1];exact hA.len,h2⟩
 refine⟨hC,by rw[abT];exact(abW A _ [] abq tF).2,by rw[abT];exact tf,(wX hC).1,abQ _ [] (.inl λ e=>?_),pU _ [] (λ r hr=>by cases hr) λ r hr=>?_,λ r hr=>by have:=(wX hC).2 r hr;omega⟩
 ·cases A with
  | nil=>exact h0 rfl
  | cons a A=>cases e
 ·have:∀ (A:As) (v:List Int),(∀ r∈A,wd r.2.1=true)->∀ r∈nZ A v,wd r.2.1=true:=by
   intro A
   induction A with
   | nil=>intro v h r hr;cases v<;>cases hr
   | cons a A ih=>intro v h r hr;cases v with
    | nil=>cases hr
    | cons x v =>
     simp only[nZ,List.mem_cons] at hr;rcases hr with e | e
     ·rw[e];exact h a List.mem_cons_self
     ·exact ih v (λ r hr=>h r (List.mem_cons_of_mem _ hr)) r e
  exact this A _ (λ r hr=>(hA.row r hr).k) r hr
theorem PuI.of{B:List Bth}{D:Dm}(okB:OkB B)(b4:∀ b∈B,b.2<=4)(h:DmI (rooms B) D):PuI B (D.map (·.1)) (vB D) where
 okB:=okB
 b4:=b4
 words:=λ z hz=>by obtain⟨r,hr,rfl⟩:=List.mem_map.mp hz;exact⟨ae0 (h.words r hr),(abj (h.words r hr)).2⟩
 nd:=h.gd.nd
 fit:=λ p=>by
  have hs:(((D.map (·.1)).filter p).map (vB D)).Sublist (vals D):=by rw[<- agF h.gd.nd];exact List.Sublist.map _ List.filter_sublist
  have:=acx (rs:=rooms B) (λ m hm=>by obtain⟨b,hb,rfl⟩:=List.mem_map.mp hm;exact(okB.num b hb).1) h.fit hs
  rwa[List.length_map] at this
def cS:SpD:=λ ws M Q=>∃ (p:Addr) (most top:Int),ws=[.m p,.d (.int most),.d (.int top)]/\Bag M p/\0<=most/\most<=8/\0<=top/\top<=6/\∀ A a M',OkA A->(A.length:Int)<=most->(∀ r∈A,r.1 ≠ "last")->Bag M' p->a≠p->M' a=some (.lst ((A.map aD).map W.d))->Exb p M M'->Q (.m a) M'
theorem qS:∀ ws M Q,cS ws M Q->ws.length=3:=by rintro ws M Q ⟨p,m,t,rfl,_⟩;rfl
theorem acd:∀ t<8,∀ k<8,nmA t k ≠ "last":= by decide +kernel
theorem pZ:∀ ws M Q,cS ws M Q->pG az {nx:=λ _ M'=>Q (.d .none) M',rt:=Q} (aY qe ws) M:=by
 rintro ws M Q ⟨p,most,top,rfl,b0,ms0,ms8,t00,t06,k⟩;have s16':=s16;refine⟨_,rfl,_,rfl,.inl ⟨_,_,rfl,rfl,p,most+1,rfl,b0,by omega,by omega,λ many M1 m0 m1 b1 f1=>?_⟩⟩;refine⟨_,rfl,p,8,rfl,b1,by decide,by decide,λ turn M2 t0 t1 b2 f2=>?_⟩;refine⟨iD.map PyData.str,rfl,few (by decide),_,rfl,p,9,rfl,b2,by decide,by decide,λ n M3 n0 n1 b3 f3=>.inl ⟨_,_,rfl,rfl,_,rfl,_,rfl,rfl,?_⟩⟩;have x3:Exb p M M3:=((Exb.of f1).trans (Exb.of f2)).trans (Exb.of f3);have ek:D.cutD (iD.map PyData.str) none (some (1+n))=(iD.take (n.toNat+1)).map PyData.str:=by rw[show(1+n)=((n.toNat+1:Nat):Int) from by omega,mV (by rw[List.length_map];show _<=9;omega),<- List.map_take]
 rw[ek];have hk0:0<(iD.take (n.toNat+1)).length/\(iD.take (n.toNat+1)).length<=9:=by rw[List.length_take,show iD.length=9 from rfl];omega
 have hkw:∀ z∈iD.take (n.toNat+1),wd z=true:=λ z hz=>aak z (List.mem_of_mem_take hz);generalize iD.take (n.toNat+1)=ks at *;refine⟨few (by simp),λ a ha=>?_⟩;obtain⟨ob,hob⟩:=wx b3;have pa:p≠a:=λ e=>by rw[e,ha] at hob;cases hob
 have haM:M a=none:=x3.none pa.symm ha;refine⟨_,rfl,many,rfl,by omega,by omega,?_⟩;dsimp only;have ht8:turn.toNat<8:=by omega
 refine⟨λ i τ M'=>i<=many.toNat/\Bag M' p/\Exb p M M'/\∃ A:As,A.length=i/\(∀ (j:Nat) r,A[j]? =some r->r.1=nmA turn.toNat j/\ahk r)/\M' a=some (.lst ((A.map aD).map W.d))/\∃ x7 x8,τ=[some (.m p),some (.d (.int most)),some (.d (.int top)),some (.d (.int many)),some (.d (.int turn)),some (.d (.list (ks.map PyData.str))),some (.m a),x7,x8],⟨Nat.zero_le _,fk b3 (aI pa),x3.upd haM,[],rfl,λ j r h=>by simp at h,ak,_,_,rfl⟩,?_,?_⟩
 ·rintro i v τ M' hv ⟨hi,b4,x4,A,hl,hA,h1,x7,x8,rfl⟩;obtain⟨hlt,rfl⟩:=tH hv;have hm:((0+(i:Int)+turn) % 8)=(((i+turn.toNat) % 8:Nat):Int):=by omega
  refine⟨_,rfl,_,rfl,.inl ⟨_,_,rfl,rfl,_,_,rfl,rfl,(show(0:Int)<8 by decide),_,_,rfl,me hm (by rw[show("hgfedcba" : Str).length=8 from by decide +kernel];omega),by decide +kernel,.inr ⟨_,_,rfl,rfl,?_,_,rfl,few (by simp),?_⟩⟩⟩
  ·show("w" : Str).length+1<=sizeLine;rw[show("w" : Str).length=1 from by decide +kernel];omega
  refine⟨_,rfl,_,_,.d,.d,rfl,.inr ⟨_,rfl,_,.d (.str (nmA turn.toNat i)),rfl,?_,rfl,?_⟩⟩
  ·rw[zW];unfold nmA
   by_cases q:i=3
   ·rw[decide_eq_true (by omega),if_pos rfl,if_pos q];rfl
   ·rw[decide_eq_false (by omega),if_neg (by decide),if_neg q];rfl
  ·refine⟨_,rfl,a,_,rfl,h1,_,rfl,_,rfl,_,rfl,_,rfl,_,_,rfl,rfl,rfl,p,_,rfl,b4,?_,?_,λ y M5 y0 y1 b5 f5=>?_⟩
   ·rw[List.length_map];omega
   ·rw[List.length_map];omega
   obtain⟨kd,ekd,hkd⟩:=jQ (M:=M5) (zs:=ks) y0 (by rw[List.length_map] at y1;exact y1);refine⟨_,_,rfl,ekd,rfl,_,rfl,_,rfl,.inl ⟨_,_,rfl,rfl,p,top+1,rfl,b5,by omega,by omega,λ c M6 c0 c1 b6 f6=>⟨_,rfl,few (by simp),(A.map aD).map W.d,(by rw[f6 a pa.symm,f5 a pa.symm];exact h1),(by rw[List.length_map,List.length_map];omega),?_⟩⟩⟩
   ·refine⟨by omega,fk b6 (aI pa),((x4.trans (Exb.of f5)).trans (Exb.of f6)).upd haM,A++[(nmA turn.toNat i,kd,c)],by rw[List.length_append,hl];rfl,λ j r h=>?_,by rw[ak,List.map_append,List.map_append];rfl,_,_,rfl⟩;rw[List.getElem?_append] at h
    split at h
    ·exact hA j r h
    ·have:j=i:=by have:=(List.getElem?_eq_some_iff.mp h).1;simp at this;omega
     subst this;rw[hl,Nat.sub_self] at h;cases h;exact⟨rfl,agc _ ht8 _ (by omega),hkw kd hkd,c0,by dsimp only;omega⟩
 ·rintro τ M' ⟨hi,b4,x4,A,hl,hA,h1,x7,x8,rfl⟩;have hl':A.length<=8:=by omega
  exact⟨_,rfl,k A a M' (acz ht8 hl' hA) (by omega) (λ r hr=>by obtain⟨j,hj,e⟩:=List.getElem_of_mem hr;rw[(hA j r (by rw[List.getElem?_eq_getElem hj,e])).1];exact acd _ ht8 j (by omega)) b4 pa.symm h1 x4⟩
theorem adU(D:Dm):f9 (rk Prod.fst gI D)=D.map λ r=>kW (.inr r.1):=by unfold f9 rk;rw[List.map_map];rfl
theorem aaT{R:List Row3}{m:Str}(h:(R.map (·.2)).Nodup):((R.filter λ r=>r.2.2==m).map (·.2.1)).Nodup:=by
 have h1:((R.filter λ r=>r.2.2==m).map (·.2)).Nodup:=h.sublist (List.Sublist.map _ List.filter_sublist);have h2:∀ r∈R.filter λ r=>r.2.2==m,r.2.2=m:=λ r hr=>eq_of_beq (List.mem_filter.mp hr).2;generalize R.filter (λ r=>r.2.2==m)=L at *
 induction L with
 | nil=>exact List.nodup_nil
 | cons r L ih =>
  rw[List.map_cons] at h1 ⊢;obtain⟨n1,n2⟩:=List.nodup_cons.mp h1;refine List.nodup_cons.mpr ⟨λ z=>n1 ?_,ih n2 λ r hr=>h2 r (List.mem_cons_of_mem _ hr)⟩;obtain⟨x,hx,e⟩:=List.mem_map.mp z;refine List.mem_map.mpr ⟨x,hx,?_⟩;have e1:=h2 x (List.mem_cons_of_mem _ hx);have e2:=h2 r List.mem_cons_self;exact Prod.ext e (e1.trans e2.symm)
def aeW(p:Addr)(B:List Bth)(d:Addr)(R:List Row3)(zs:List Str)(t:Int)(x0 x2 x4 x5 x10 x11 x12 x13 x14:Option W):DS:=[x0,some (.m p),x2,some (.d (lp B)),x4,x5,some (.m d),some (.d (dW R)),some (.d (.list (zs.map PyData.str))),some (.d (.int t)),x10,x11,x12,x13,x14]
def ab5:TSd:=
  bp (j6 (bj (ag 3)) (gT 2 (aM (gN 12) (aM (gN 13) (fD))))
   (bp (bW (dLC (bj (ag 7)) (gN 0) (aJ (dOp eo (dOp cj (ag 0) (dI 2)) (ag 1))) (dOp cj (ag 0) (dI 1)) 1 [12]) (gN 14)) <|
   dIf (dOr (aJ (dOp aar (dCB df (ae (ag 14) (aK))) (ag 13))) (aJ (dOp zc (qC (ag 14)) (dCB df (ae (ag 14) (aK))))))
    (dY (dC (.d (.bool false))))
    (cF))) <|
  dY (dCB aav (ae (tw (dLC (lG (ag 6)) (gN 0) (ql) (dOp eo (dCB df (ae (dLC (bj (ag 1)) (gN 0) (aJ (dOp eo (dOp cj (ag 0) (dI 1)) (ag 1))) (ag 0) 1 [0]) (aK))) (iJ (ag 2) (ag 0))) 1 [7,6])) (aK)))
theorem ad5{p:Addr}{B:List Bth}{d:Addr}{R:List Row3}{zs:List Str}{t:Int}{x0 x2 x4 x5 x10 x11 x12 x13 x14:Option W}{D:Dm}{M:MH}{Q:QD}{nx:DS->MH->Prop}(U:PuI B (D.map (·.1)) (vB D))(nd:(D.map Prod.fst).Nodup)(dl:D.length<=9)(I:LyI B (D.map (·.1)) (vB D) R)(n:yI R)(hd:M d=some (.dic (aS (rk Prod.fst gI D))))(all:∀ r∈D,vB D r.1<=(cntK R r.1:Int))(q:∀ M',Q (.d (.bool true)) M') :
  ab5 {nx:=nx,rt:=Q} (aeW p B d R zs t x0 x2 x4 x5 x10 x11 x12 x13 x14) M:=by
 have okB:=U.okB;have okR:=U.okR I n;have b8:=okB.len;have r8:=okR.len;have s16':=s16;refine⟨_,rfl,_,rfl,λ i τ M'=>M'=M/\∃ x12 x13 x14,τ=aeW p B d R zs t x0 x2 x4 x5 x10 x11 x12 x13 x14,⟨rfl,_,_,_,rfl⟩,λ i w τ M' hw ⟨e,y12,y13,y14,e2⟩=>?_,λ τ M' ⟨e,y12,y13,y14,e2⟩=>?_⟩
 ·subst e e2;rw[List.map_map] at hw;obtain⟨b,hb,rfl⟩:=eZ hw;have hbB:=List.mem_of_getElem? hb;refine⟨_,rfl,rfl,_,_,rfl,_,_,rfl,rfl,_,rfl,_,rfl,?_⟩;rw[List.map_map];refine cG R (W.d ∘ cY) (λ r=>.str r.2.1) (λ r=>r.2.2==b.1) (λ τ=>∃ x,τ=[x,some (.d (.str b.1))]) (λ M2=>M2=M') (by omega) ⟨_,rfl⟩ rfl (λ r hr τ M2 hτ hM R' h=>?_) λ τ M2 hM=>?_
  ·obtain⟨x,rfl⟩:=hτ;subst hM;refine⟨_,rfl,2,_,rfl,rfl,rfl,_,rfl,_,_,.d,.d,rfl,_,rfl,?_⟩;rw[d3];have:=h [some (.d (cY r)),some (.d (.str b.1))] M2 ⟨_,rfl⟩ rfl;cases e:r.2.2==b.1 with
   | false=>rw[e] at this;exact dP this
   | true=>rw[e] at this;exact gE ⟨_,rfl,1,_,rfl,rfl,rfl,_,rfl,this⟩
  ·subst hM;have hr:=I.room b hbB;have hk:=aaT (m:=b.1) I.pr;have le:=List.length_filter_le (λ r:Row3=>r.2.2==b.1) R;have e0:(R.filter λ r=>r.2.2==b.1).map (λ r=>PyData.str r.2.1)=((R.filter λ r=>r.2.2==b.1).map (·.2.1)).map PyData.str:=by rw[List.map_map];rfl
   rw[e0];have hr:(((R.filter λ r=>r.2.2==b.1).map (·.2.1)).length:Int)<=b.2:=by rw[List.length_map];exact hr
   have le:((R.filter λ r=>r.2.2==b.1).map (·.2.1)).length<=R.length:=by rw[List.length_map];exact le
   generalize (R.filter λ r=>r.2.2==b.1).map (·.2.1)=ks at *;refine⟨_,rfl,_,_,rfl,rfl,rfl,_,rfl,_,_,rfl,rfl,_,rfl,?_⟩;rw[decide_eq_false (by rw[List.length_map];omega)];refine dP ⟨_,rfl,ks,.d,by omega,_,rfl,_,_,rfl,rfl,rfl,_,_,rfl,rfl,_,rfl,?_⟩;rw[yR hk _ (Nat.le_refl _),List.length_map,decide_eq_false (Int.lt_irrefl _)];exact dP ⟨rfl,_,_,_,rfl⟩
 ·subst e e2;refine⟨d,_,hd,_,rfl,d,rk Prod.fst gI D,rfl,ak,?_⟩;rw[adU];refine cG D (λ r=>kW (.inr r.1)) (λ _=>.bool true) (λ _=>true) (λ τ=>∃ x,τ=[x,some (.d (dW R)),some (.m d)]) (λ M2=>M2=bH M' d (.fdic (aS (rk Prod.fst gI D)))) (by omega) ⟨_,rfl⟩ rfl (λ r hr τ M2 hτ hM R' h=>?_) λ τ M2 hM=>?_
  ·obtain⟨x,rfl⟩:=hτ;subst hM;have h':=h [some (kW (.inr r.1)),some (.d (dW R)),some (.m d)] _ ⟨_,rfl⟩ rfl;refine⟨_,rfl,_,rfl,?_⟩;rw[List.map_map];refine cG R (W.d ∘ cY) cY (λ x=>x.2.1==r.1) (λ τ=>∃ x,τ=[x,some (.d (.str r.1))]) (λ M2=>M2=bH M' d (.fdic (aS (rk Prod.fst gI D)))) (by omega) ⟨_,rfl⟩ rfl (λ x hx τ M2 hτ hM R' h=>?_) λ τ M2 hM=>?_
   ·obtain⟨y,rfl⟩:=hτ;subst hM;refine⟨_,rfl,1,_,rfl,rfl,rfl,_,rfl,_,_,.d,.d,rfl,_,rfl,?_⟩;rw[d3];have:=h [some (.d (cY x)),some (.d (.str r.1))] _ ⟨_,rfl⟩ rfl;cases e:x.2.1==r.1 with
    | false=>rw[e] at this;exact dP this
    | true=>rw[e] at this;exact gE ⟨_,rfl,_,rfl,this⟩
   ·subst hM;have tg:iQ (aS (rk Prod.fst gI D)) (.inr r.1)=some (.d (.int r.2)):=by rw[fm,rK nd hr];rfl
    refine⟨_,_,rfl,rfl,rfl,_,rfl,_,rfl,d,_,.inr r.1,_,rfl,.inr ak,rfl,tg,_,_,.d,.d,rfl,?_⟩;have e1:=all r hr;have e2:=I.due r.1 (List.mem_map.mpr ⟨r,hr,rfl⟩);rw[pJ nd hr] at e1 e2;have:PyData.eqv (.int ((((R.filter λ x=>x.2.1==r.1).map cY).length:Nat):Int)) (.int r.2)=true:=by rw[km,List.length_map,beq_iff_eq];unfold cntK at e1 e2;omega
    rw[this];exact⟨_,rfl,h'⟩
  ·subst hM;refine⟨ak,D.map λ _=>true,?_,?_⟩
   ·rw[List.filter_eq_self.mpr λ _ _=>rfl,List.map_map];rfl
   ·have:(D.map λ _=>true).all id=true:=by simp
    rw[this];exact q _
def afn(cZ:SpD):TSd:=
  bp (j6 (bj (ad0 (dSl (ag 8) (mK (ag 9)) (fT)) (dSl (ag 8) (fT) (mK (ag 9))))) (gN 10)
   (j6 (qQ (ae (dOp uy (iJ (ag 6) (ag 10)) (dCB df (ae (dLC (bj (ag 7)) (gN 0) (aJ (dOp eo (dOp cj (ag 0) (dI 1)) (ag 1))) (ag 0) 1 [10]) (aK)))) (aK))) (gN 11)
    (bp (bW (bq cZ (ae (ag 3) (ae (ag 7) (ae (ag 10) (ae (ag 1) (aK)))))) (gN 7)) <|
    dIf (aJ (dOp (rF false) (ag 7) (dC (.d .none))))
     (dY (dC (.d (.bool false))))
     (cF)))) <|
  ab5
theorem aep{p:Addr}{B:List Bth}{d:Addr}{R:List Row3}{zs:List Str}{t:Int}{x0 x2 x4 x5 x10 x11 x12 x13 x14:Option W}{D:Dm}{M:MH}{Q:QD}{nx:DS->MH->Prop}(U:PuI B (D.map (·.1)) (vB D))(h:DmI (rooms B) D)(I:LyI B (D.map (·.1)) (vB D) R)(n:yI R)(hd:M d=some (.dic (aS (rk Prod.fst gI D))))(dp:d≠p)(b0:Bag M p)(hC:jf M)(perm:zs.Perm (D.map (·.1)))(t0:0<=t)(t1:t<zs.length)(q:∀ M',Q (.d (.bool true)) M') :
  afn cZ {nx:=nx,rt:=Q} (aeW p B d R zs t x0 x2 x4 x5 x10 x11 x12 x13 x14) M:=by
 have s16':=s16;have nd:=h.gd.nd;have zl:zs.length<=9:=by rw[perm.length_eq,List.length_map];exact h.len
 have cp:=afQ b0 hC;refine⟨_,rfl,_,rfl,_,rfl,_,rfl,rfl,_,rfl,_,rfl,_,rfl,_,rfl,rfl,_,_,.d,.d,?_,?_⟩
 ·rw[nr,nr,List.length_map,List.length_map];have h1:=(yP zs (some t) none).length_le;have h2:=(yP zs none (some t)).length_le;omega
 have eL:_root_.D.cutD (zs.map PyData.str) (some t) none++_root_.D.cutD (zs.map PyData.str) none (some t)=(zs.drop t.toNat++zs.take t.toNat).map PyData.str:=by rw[nr,nr,zK t0,show t=((t.toNat:Nat):Int) from by omega,mV (by omega),<- List.map_append];rfl
 rw[eL];have inL:∀ z,z∈zs.drop t.toNat++zs.take t.toNat ↔ ∃ r∈D,r.1=z:=λ z=>by have e:(zs.drop t.toNat++zs.take t.toNat).Perm zs:=List.perm_append_comm.trans (by rw[List.take_append_drop]);rw[e.mem_iff,perm.mem_iff,List.mem_map]
 generalize zs.drop t.toNat++zs.take t.toNat=L at inL;refine⟨_,rfl,λ i τ M'=>∃ R x10 x11,τ=aeW p B d R zs t x0 x2 x4 x5 x10 x11 x12 x13 x14/\LyI B (D.map (·.1)) (vB D) R/\yI R/\Bag M' p/\Exb p M M'/\∀ z∈L.take i,vB D z<=(cntK R z:Int),
  ⟨R,_,_,rfl,I,n,b0,Exb.refl p M,λ z hz=>by simp at hz⟩,λ i w τ M' hw ⟨R1,y10,y11,e,I1,n1,b1,e1,up1⟩=>?_,λ τ M' ⟨R1,y10,y11,e,I1,n1,b1,e1,up1⟩=>?_⟩
 ·subst e;rw[List.map_map] at hw;obtain⟨z,hzi,rfl⟩:=eZ hw;obtain⟨r,hr,ez⟩:=(inL z).mp (List.mem_of_getElem? hzi);have hzK:z∈D.map (·.1):=List.mem_map.mpr ⟨r,hr,ez⟩;have tg:iQ (aS (rk Prod.fst gI D)) (.inr z)=some (.d (.int (vB D z))):=by rw[<- ez,fm,rK nd hr,pJ nd hr];rfl
  have okR:=U.okR I1 n1;have r8:=okR.len;refine⟨_,rfl,_,rfl,d,_,.inr z,_,rfl,.inl (e1 _ _ dp hd),rfl,tg,_,rfl,_,rfl,?_⟩;rw[List.map_map];refine cG R1 (W.d ∘ cY) cY (λ x=>x.2.1==z) (λ τ=>∃ x,τ=[x,some (.d (.str z))]) (λ M2=>M2=M') (by omega) ⟨_,rfl⟩ rfl (λ x hx τ M2 hτ hM R' h=>?_) λ τ M2 hM=>?_
  ·obtain⟨y,rfl⟩:=hτ;subst hM;refine⟨_,rfl,1,_,rfl,rfl,rfl,_,rfl,_,_,.d,.d,rfl,_,rfl,?_⟩;rw[d3];have:=h [some (.d (cY x)),some (.d (.str z))] _ ⟨_,rfl⟩ rfl;cases e:x.2.1==z with
   | false=>rw[e] at this;exact dP this
   | true=>rw[e] at this;exact gE ⟨_,rfl,_,rfl,this⟩
  ·subst hM;have hc:((R1.filter λ x=>x.2.1==z).map cY).length=cntK R1 z:=List.length_map ..;have v54:vB D z<=1000:=by rw[<- ez,pJ nd hr];exact h.top r hr
   have v0:(cntK R1 z:Int)<=vB D z:=I1.due z hzK;refine⟨_,_,rfl,rfl,rfl,_,_,rfl,rfl,_,rfl,by omega,by omega,?_⟩;refine⟨λ j τ M2=>∃ S x11,τ=aeW p B d S zs t x0 x2 x4 x5 (some (.d (.str z))) x11 x12 x13 x14/\LyI B (D.map (·.1)) (vB D) S/\yI S/\Bag M2 p/\Exb p M M2/\(∀ x,cntK R1 x<=cntK S x)/\cntK S z=cntK R1 z+j,
    ⟨R1,_,rfl,I1,n1,b1,e1,λ _=>Nat.le_refl _,rfl⟩,λ j w τ M2 hw ⟨S,y,e,I2,n2,b2,e2,up2,c2⟩=>?_,λ τ M2 ⟨S,y,e,I2,n2,b2,e2,up2,c2⟩=>?_⟩
   ·subst e;obtain⟨hlt,rfl⟩:=tH hw;rw[hc] at hlt;refine⟨_,rfl,_,rfl,_,rfl,_,rfl,B,S,z,p,D.map (·.1),vB D,rfl,b2,e2 _ _ cp hC,U,I2,n2,hzK,by omega,λ S' M3 I3 n3 c3 b3 e3=>?_⟩;refine⟨_,rfl,rfl,_,rfl,dP ⟨S',_,rfl,I3,n3,b3,e2.trans e3,λ x=>by rw[c3];have:=up2 x;omega,?_⟩⟩;rw[c3,if_pos rfl,c2];omega
   ·subst e;refine⟨S,_,_,rfl,I2,n2,b2,e2,λ y hy=>?_⟩;rw[List.take_succ,hzi] at hy;rcases List.mem_append.mp hy with hy | hy
    ·have:=up1 y hy;have:=up2 y;omega
    ·have ey:y=z:=by simpa using hy
     subst ey;have:(lT 0 (vB D y-((((R1.filter λ x=>x.2.1==y).map cY).length:Nat):Int)).toNat).length=(vB D y-(cntK R1 y:Int)).toNat:=by rw[hc];simp[lT]
     rw[c2,this];omega
 ·subst e;refine ad5 U nd h.len I1 n1 (e1 _ _ dp hd) (λ r hr=>?_) q;refine up1 r.1 ?_;rw[List.length_map,List.length_map,List.take_length];exact(inL r.1).mpr ⟨r,hr,rfl⟩
def jL:SpD:=λ ws M Q=>∃ ns:List Int,ws=[.d (.list (ns.map PyData.int))]/\ns.length<=63/\jf M/\∀ M',Q (.d (.bool true)) M'
theorem acr:∀ ws M Q,jL ws M Q->ws.length=1:=by rintro ws M Q ⟨ns,rfl,_⟩;rfl
theorem zh:∀ ns:List Int,ns.length<=63->jL [.d (.list (ns.map PyData.int))] (M1T aU gj ⟨13,25,13,55⟩) (λ w _=>w=.d (.bool true)):=λ ns h=>⟨ns,rfl,h,rfl,λ _=>rfl⟩
def uv:As:=[("last", "k",2)]
theorem zo{A:As}(h:OkA A)(hl:(A.length:Int)<=7)(hn:∀ r∈A,r.1 ≠ "last"):OkA (A++uv):=by
 refine⟨by rw[List.length_append];show A.length+1<=8;omega,λ r hr=>?_,?_⟩
 ·rcases List.mem_append.mp hr with hr | hr
  ·exact h.row r hr
  ·rw[List.mem_singleton.mp hr];exact⟨by decide +kernel,by decide +kernel,by decide,by decide⟩
 ·rw[List.map_append];refine List.nodup_append.mpr ⟨h.nd,by simp[uv],λ a ha b hb e=>?_⟩;obtain⟨r,hr,rfl⟩:=List.mem_map.mp ha;exact hn r hr (e.trans (List.mem_singleton.mp hb))
theorem aaa:∀ ws M Q,jL ws M Q->agz eE az cS cU bO cO cZ {nx:=λ _ M'=>Q (.d .none) M',rt:=Q} (aY afr ws) M:=by
 rintro ws M Q ⟨ns,rfl,hl,hC,q⟩;have sl:=s16;refine⟨_,rfl,ns,rfl,by omega,λ p M1 hp f1 b1=>?_⟩;have cp:aU≠p:=λ e=>by have h:M aU=_:=hC;rw[e,hp] at h;cases h
 have c1:jf M1:=by unfold jf;rw[f1 _ cp];exact hC
 clear hC f1 hp;refine⟨_,rfl,p,7,rfl,b1,by decide,by decide,λ m M2 m0 m1 b2 f2=>.inl ⟨_,_,rfl,rfl,?_⟩⟩;have x2:Exb p M1 M2:=Exb.of f2;refine⟨_,rfl,2+m,rfl,by omega,by omega,?_⟩;refine⟨λ i acc τ M'=>i<=(2+m).toNat/\Bag M' p/\Exb p M1 M'/\∃ B:List Bth,B.length=i/\(∀ (j:Nat) (r:Bth),B[j]? =some r->r.1=nmB 0 j/\1<=r.2/\r.2<=4)/\acc=B.map bD/\∃ x,τ=[x,some (.m p)],⟨Nat.zero_le _,b2,x2,[],rfl,λ j r h=>by simp at h,rfl,_,rfl⟩,?_,?_⟩
 ·rintro i v acc τ M' hv ⟨hi,b4,x4',B,hl,hB,rfl,x,rfl⟩;obtain⟨hlt,rfl⟩:=tH hv;refine⟨by rw[List.length_map];omega,?_⟩;refine⟨_,rfl,_,_,rfl,me (i:=i) (by omega) (by rw[show("abcdefgh" : Str).length=8 from by decide +kernel];omega),by decide +kernel,_,rfl,_,_,rfl,rfl,(show(0:Int)<2 by decide),.inl ⟨_,_,rfl,rfl,_,_,rfl,rfl,rfl,by omega,by omega,.inr ⟨_,_,rfl,rfl,(by have h:=acZ 0 (by decide) i (by omega);unfold adB at h;have e:aca 0 = "m":= rfl;rw[e] at h;omega),?_⟩⟩⟩;rw[show("m" : Str)++Txt.mul ⟨#[("abcdefgh" : Str).cps.toList.getD i 0]⟩ (1+(0+(i:Int)) % 2)=nmB 0 i from rfl];refine⟨_,rfl,p,4,rfl,b4,by decide,by decide,λ c M4 c0 c1 b5 f5=>.inl ⟨_,_,rfl,rfl,_,rfl,few (by simp),_,rfl,?_⟩⟩;refine⟨by omega,b5,x4'.trans (Exb.of f5),B++[(nmB 0 i,1+c)],by rw[List.length_append,hl];rfl,λ j r h=>?_,by rw[List.map_append];rfl,_,rfl⟩;rw[List.getElem?_append] at h
  split at h
  ·exact hB j r h
  ·have:j=i:=by have:=(List.getElem?_eq_some_iff.mp h).1;simp at this;omega
   subst this;rw[hl,Nat.sub_self] at h;cases h;exact⟨rfl,by dsimp only;omega,by dsimp only;omega⟩
 rintro acc τ M4 ⟨hi,b4,x4',B,hl,hB,rfl,x,rfl⟩;have okB:=af4 (B:=B) (by omega) λ j r h=>by have:=hB j r h;exact⟨this.1,by omega,by omega⟩
 have hB':Stc.OkB B:=agm (w:=0) (by decide) (by omega) λ j r h=>by have:=hB j r h;exact⟨this.1,by omega,by omega⟩
 have hB4:∀ b∈B,b.2<=4:=λ b hb=>by obtain⟨j,hj,e⟩:=List.getElem_of_mem hb;exact(hB j b (by rw[List.getElem?_eq_getElem hj,e])).2.2
 have hB0:0<B.length:=by rw[hl];simp[lT];omega
 clear hB hl hi b2 f2 x2;refine⟨_,rfl,p,7,6,rfl,b4,by decide,by decide,by decide,by decide,λ A a M5 hA lA nA b5 ap h5 x5=>⟨[_,_,_],rfl,few (by simp),[_],rfl,few (by simp),A.map aD,_,.m h5,.d,?_,?_⟩⟩
 ·rw[List.length_map];simp;omega
 rw[show A.map aD++[.tuple [.str "last",.str "k",.int 2]]=(A++uv).map aD by rw[List.map_append];rfl];have hA1:=zo hA lA nA;have A1ne:A++uv≠[]:=by simp[uv]
 have x5':Exb p M1 M5:=x4'.trans x5;clear h5 ap nA lA x5 x4';generalize A++uv=A1 at *;refine⟨_,rfl,_,_,rfl,.l,λ q1 h1=>⟨q1,_,rfl,ak,?_⟩⟩;rw[hE h1];refine⟨_,rfl,_,_,rfl,.l,λ q2 h2=>⟨q2,_,rfl,ak,?_⟩⟩;rw[hE h2];obtain⟨hC2,hD⟩:=ain hB' hA1 A1ne;have hset:=yG (due (rooms B) A1) A1 (due (rooms B) A1) (kg (rooms B) A1) λ e he=>pJ (by rw[kg];exact hA1.nd) he;rw[afo] at hset;have dn:=kg (rooms B) A1;refine⟨B,A1,rfl,hB',hA1,λ u M7 hu h7 x7=>?_⟩;generalize due (rooms B) A1=E at *;generalize hA2:nZ A1 (tl (rooms B) [] A1)=A2 at *;have ndd:(E.map (·.1)).Nodup:=by rw[dn];exact hA1.nd
 have ep:(rk Prod.fst gI E).map _root_.D.pairD=E.map Stc.bD:=by unfold rk;rw[List.map_map];rfl
 have nk:((rk Prod.fst gI E).map (·.1)).Nodup:=by
  have:(rk Prod.fst gI E).map (·.1)=(E.map (·.1)).map Sum.inr:=by unfold rk;rw[List.map_map,List.map_map];rfl
  rw[this];exact List.Pairwise.map _ (λ a b hab e=>hab (Sum.inr.inj e)) ndd
 refine⟨_,rk Prod.fst gI E,rfl,by rw[ep];exact .m h7,nk,λ f hf=>?_⟩;have x8:Exb p M1 (bH M7 f (.dic (aS (rk Prod.fst gI E)))):=(x5'.trans (Exb.ext x7)).upd ((x5'.trans (Exb.ext x7)).none (zy (Ext.bag x7 b5) hf).symm hf);have b8:Bag (bH M7 f (.dic (aS (rk Prod.fst gI E)))) p:=fk (Ext.bag x7 b5) (aI (zy (Ext.bag x7 b5) hf));have h8:bH M7 f (.dic (aS (rk Prod.fst gI E))) f=some (.dic (aS (rk Prod.fst gI E))):=ak;generalize bH M7 f (.dic (aS (rk Prod.fst gI E)))=M8 at x8 b8 h8;refine⟨_,rfl,_,rfl,?_⟩;rw[List.map_map];have l1:=hA1.len;refine cG A1 (W.d ∘ aD) (λ r=>aD (r.1,r.2.1,vB E r.1)) (λ _=>true) (λ τ=>∃ x y z,τ=[x,y,z,some (.m f)]) (λ M'=>M'=M8) (by omega) ⟨_,_,_,rfl⟩ rfl (λ r hr τ M' hτ hM R h=>?_) λ τ M' hM=>?_
 ·obtain⟨x,y,z,rfl⟩:=hτ;subst hM;have hk:r.1∈E.map (·.1):=by rw[dn];exact List.mem_map.mpr ⟨r,hr,rfl⟩
  obtain⟨e,he,ee⟩:=List.mem_map.mp hk;have tg:iQ (aS (rk Prod.fst gI E)) (.inr r.1)=some (.d (.int (vB E r.1))):=by rw[<- ee,fm,rK ndd he,pJ ndd he];rfl
  have:=h [some (.d (.str r.1)),some (.d (.str r.2.1)),some (.d (.int r.2.2)),some (.m f)] M' ⟨_,_,_,rfl⟩ rfl;exact⟨_,rfl,rfl,_,_,rfl,_,_,rfl,_,_,rfl,rfl,_,rfl,_,rfl,_,rfl,_,rfl,f,_,.inr r.1,_,rfl,.inl h8,rfl,tg,[_,_,_],rfl,few (by simp),_,rfl,this⟩
 subst hM;rw[List.filter_eq_self.mpr λ _ _=>rfl];rw[show A1.map (λ r=>aD (r.1,r.2.1,vB E r.1))=A2.map aD by rw[<- hset,List.map_map];rfl];refine⟨A2,rfl,hC2,λ d M9 hd0 hd x9=>?_⟩;have U:=PuI.of okB hB4 hD;have ndD:=hD.gd.nd;have b9:Bag M9 p:=Ext.bag x9 b8;have x9':Exb p M1 M9:=x8.trans (Exb.ext x9);have dp:d≠p:=(zy b8 hd0).symm;have hd:M9 d=some (.dic (aS (rk Prod.fst gI (dmd A2)))):=hd;generalize dmd A2=D at *;have D0:0<D.length:=List.length_pos_iff.mpr hD.ne;refine⟨_,rfl,_,rfl,_,rfl,p,B,d,D.map (·.1),vB D,rfl,b9,U,hB0,by rw[<- abA ndD];exact hd,by rw[List.length_map];exact D0,by rw[List.length_map];exact hD.len,λ z hz=>?_,λ R a M10 I n b10 x10 ap ha0 ha=>⟨a,_,rfl,ha,?_⟩⟩
 ·obtain⟨r,hr,rfl⟩:=List.mem_map.mp hz;rw[pJ ndD hr];exact hD.gd.nn r hr
 have b11:Bag (lD M10 a) p:=fk b10 (vD ap.symm);have x11:Exb p M9 (lD M10 a):=x10.del ha0;have h11:lD M10 a d=some (.dic (aS (rk Prod.fst gI D))):=x11 _ _ dp hd;have c11:jf (lD M10 a):=x11 _ _ cp (x9' _ _ cp c1);generalize lD M10 a=M11 at *;refine⟨_,rfl,d,_,D.map (·.1),rfl,h11,by rw[abA ndD];exact yy _ _,by rw[List.length_map];have:=hD.len;omega,λ zs perm _ l hl=>⟨l,zs.map PyData.str,rfl,by rw[ak,List.map_map];rfl,?_⟩⟩;rw[hE hl];have zl:=perm.length_eq;rw[List.length_map] at zl;have zl9:=hD.len;refine⟨_,rfl,_,rfl,_,_,rfl,rfl,rfl,p,_,rfl,b11,by rw[List.length_map];omega,by rw[List.length_map];omega,λ t M12 t0 t1 b12 f12=>?_⟩;rw[List.length_map] at t1;have x12:Exb p M11 M12:=Exb.of f12;exact aep U hD I n (x12 _ _ dp h11) dp b12 (x12 _ _ cp c11) perm t0 t1 q
abbrev q_0:List Str:=["_law_script"]
abbrev q_1:List Str:=["_law_bag_here", "_law_many"]
abbrev q_2:List Str:=["_law_bag_here", "_law_most", "_law_top"]
abbrev q_3:List Str:=["thing"]
abbrev q_4:List Str:=["thing", "low", "high"]
abbrev q_5:List Str:=["row", "least"]
abbrev q_6:List Str:=["row"]
abbrev q_7:List Str:=["asked"]
abbrev q_8:List Str:=["berths", "asked"]
abbrev q_9:List Str:=["rooms", "demands"]
abbrev aex:List Str:=["demands", "kind", "many"]
abbrev aeC:List Str:=["rooms", "demands", "kind", "copies"]
abbrev aeM:List Str:=["rooms", "asked"]
abbrev aeE:List Str:=["berths"]
abbrev aev:List Str:=["_law_asked_here"]
abbrev aeA:List Str:=["_law_bag_here", "_law_berths_here", "_law_demands_here"]
abbrev aeG:List Str:=["_law_berths_here", "_law_lying_here"]
abbrev aeK:List Str:=["_law_lying_here", "_law_machine", "_law_kind"]
abbrev aez:List Str:=["ways", "lying", "kinds", "reached"]
abbrev aey:List Str:=["start", "lying", "kinds", "free"]
abbrev aeI:List Str:=["berths", "lying", "kind"]
abbrev aeJ:List Str:=["_law_berths_here", "_law_lying_here", "_law_told"]
abbrev aeD:List Str:=["_law_berths_here", "_law_lying_here", "_law_kind", "_law_bag_here"]
abbrev aew:List Str:=["berths", "least"]
local macro_rules | `(tactic| walk_at "sc")=>`(tactic| exact⟨rfl,rfl,rfl,by decide +kernel,rfl,by decide +kernel,by decide +kernel⟩)
local macro_rules | `(tactic| walk_at "b4")=>`(tactic| (intro _ _ _ _ _ _ us hl;obtain⟨_,_,_,_,e⟩:=D.ahM hl;subst e;rfl))
local macro_rules | `(tactic| walk_at "b3")=>`(tactic| (intro _ _ _ _ _ _ us hl;obtain⟨_,_,_,e⟩:=D.ac7 hl;subst e;rfl))
local macro_rules | `(tactic| walk_at "b2")=>`(tactic| (intro _ _ _ _ _ _ us hl;obtain⟨_,_,e⟩:=D.agx hl;subst e;rfl))
local macro_rules | `(tactic| walk_at "b1")=>`(tactic| (intro _ _ _ _ _ _ us hl;obtain⟨_,e⟩:=D.acy hl;subst e;rfl))
def top(i:Nat):Stmt:=PySem.Challenge.pw_placedworks_k37_whole_ways_carried_out.main.body.getD i (.Pass ⟨0,0,0,0⟩)
abbrev nX:Stmt:=top 29
abbrev jC:Stmt:=top 30
abbrev ie:Stmt:=top 32
abbrev iu:Stmt:=top 12
abbrev gv:Stmt:=top 10
abbrev fj:Stmt:=top 11
abbrev cH:Stmt:=top 19
abbrev bA:Stmt:=top 18
abbrev dA:Stmt:=top 21
abbrev dt:Stmt:=top 20
abbrev du:Stmt:=top 17
abbrev iG:Stmt:=top 24
abbrev fo:Stmt:=top 23
abbrev dv:Stmt:=top 25
abbrev ip:Stmt:=top 26
abbrev gA:Stmt:=top 22
abbrev iN:Stmt:=top 27
abbrev fg:Stmt:=top 33
abbrev ig:Stmt:=top 34
abbrev jD:Stmt:=top 35
abbrev nO:Stmt:=top 36
abbrev dR:Stmt:=top 3
abbrev gy:Stmt:=top 2
abbrev d9:Stmt:=top 1
abbrev ff:Stmt:=top 37
abbrev mR:Stmt:=top 38
abbrev mr:Stmt:=top 39
structure Env(K:FG)(mg:Str->Option Value):Prop where
 h_way_for:W.codeHdIn K dB aU=true
 b_abs:mg "abs" = none
 b_all:mg "all" = none
 b_bool:mg "bool" = none
 b_dict:mg "dict" = none
 b_enumerate:mg "enumerate" = none
 b_int:mg "int" = none
 b_isinstance:mg "isinstance" = none
 b_len:mg "len" = none
 b_list:mg "list" = none
 b_max:mg "max" = none
 b_min:mg "min" = none
 b_range:mg "range" = none
 b_set:mg "set" = none
 b_sorted:mg "sorted" = none
 b_str:mg "str" = none
 b_sum:mg "sum" = none
 b_tuple:mg "tuple" = none
 c_LONGEST_WORD:∃ t,mg "LONGEST_WORD" = some (.int 8 t)
 c_MOST_BERTHS:∃ t,mg "MOST_BERTHS" = some (.int 6 t)
 c_MOST_COPIES:∃ t,mg "MOST_COPIES" = some (.int 6 t)
 c_MOST_ROWS:∃ t,mg "MOST_ROWS" = some (.int 8 t)
section
variable (P:Program)(w:World)(K:FG)(mg:Str->Option Value)(base:Heap)
abbrev vo:=ZZ P w K mg base (Fn K mg "_law_bag" nX q_0) 1 q_0 eE
abbrev iP:=ZZ P w K mg base (Fn K mg "_law_take" jC q_1) 1 q_1 az
abbrev n5:=ZZ P w K mg base (Fn K mg "_law_asked" ie q_2) 2 q_2 cS
abbrev ko:=ZZ P w K mg base (Fn K mg "is_word" iu q_3) 1 q_3 bz
abbrev lR:=ZZ P w K mg base (Fn K mg "is_whole" gv q_3) 1 q_3 ck
abbrev hV:=ZZ P w K mg base (Fn K mg "is_within" fj q_4) 2 q_4 aT
abbrev fG:=ZZ P w K mg base (Fn K mg "is_machine_row" cH q_5) 3 q_5 aQ
abbrev gO:=ZZ P w K mg base (Fn K mg "is_asked_row" dA q_6) 3 q_6 bo
abbrev gP:=ZZ P w K mg base (Fn K mg "refuse_asked" dt q_7) 4 q_7 bb
abbrev gM:=ZZ P w K mg base (Fn K mg "refuse_wrong" du q_8) 5 q_8 bc
abbrev pR:=ZZ P w K mg base (Fn K mg "lacking" iG q_9) 1 q_9 cQ
abbrev gZ:=ZZ P w K mg base (Fn K mg "with_more" fo aex) 1 aex aW
abbrev gJ:=ZZ P w K mg base (Fn K mg "greatest_run" dv aeC) 2 aeC bh
abbrev oH:=ZZ P w K mg base (Fn K mg "running" ip aeM) 3 aeM cT
abbrev lL:=ZZ P w K mg base (Fn K mg "rooms_of" gA aeE) 1 aeE cv
abbrev oA:=ZZ P w K mg base (Fn K mg "runs_of" iN q_8) 6 q_8 cU
abbrev j4:=ZZ P w K mg base (Fn K mg "_law_demands" fg aev) 1 aev bO
abbrev pE:=ZZ P w K mg base (Fn K mg "_law_lying" ig aeA) 2 aeA cO
abbrev nN:=ZZ P w K mg base (Fn K mg "_law_free" jD aeG) 1 aeG bN
abbrev rD:=ZZ P w K mg base (Fn K mg "_law_has" nO aeK) 1 aeK cB
abbrev iF:=ZZ P w K mg base (Fn K mg "one_further" dR aez) 1 aez bx
abbrev ma:=ZZ P w K mg base (Fn K mg "way_from" gy aey) 2 aey cy
abbrev pH:=ZZ P w K mg base (Fn K mg "way_for" d9 aeI) 3 aeI cV
abbrev jM:=ZZ P w K mg base (Fn K mg "_law_carried" ff aeJ) 2 aeJ bP
abbrev xF:=ZZ P w K mg base (Fn K mg "_law_put" mR aeD) 4 aeD cZ
end
section
variable {P:Program}{w:World}{K:FG}{mg:Str->Option Value}{base:Heap}
theorem ail:(["_law_cell"]:List Str).Nodup:=by decide +kernel
theorem zq:aN xX q_0 (ao nX):=by walk_at "sc"
theorem aab(E:Env K mg)(F:Fn K mg "_law_bag" nX q_0 f fq) :
  eB P w K mg base CX0 1 f fq q_0 (eW K eE):=by
 refine bX (t:=xj) F.fn zq wu (λ cdv A outer s H E' hr=>?_) ur;refine Jd.h ?_;exact ah (aA (gm (aw (af) (aw (af) (aw (af) (aw (fJ rfl (kU (own:=(["_law_cell"]:List Str)) (fr:=[]) rfl) (aB (gb (dvQ 0) (fW) (fZ (af)))) (λ _ _ _ _ _ _=>ai (i:=0) ail rfl (Or.inl rfl)) (λ _ _ _ _ _ _=>bU) (λ _ _ _ _ _ _=>fc zU af1 rfl E.b_abs agY (aw (dvQ 0) (aa)))) (aa)))))))
theorem eV:aN sP q_1 (ao jC):=by walk_at "sc"
theorem vw(E:Env K mg)(F:Fn K mg "_law_take" jC q_1 f fq) :
  eB P w K mg base CX0 1 f fq q_1 (eW K az):=by
 refine bX (t:=sH) F.fn eV t7 (λ cdv A outer s H E' hr=>?_) rT;refine Jd.h ?_;exact ab (aZ (ax (abb hr.h) ags (aE aC aF (dvQ 0) (af)) (af))
   (ab (av (i:=2) eV.nd rfl (Or.inl rfl) (af)) <|
   ab (aZ (ax om je (aE aC aF (dvQ 0) (af)) (fc aX cD rfl E.b_len cw (aw (aE aC aF (dvQ 0) (af)) (aa))))
    (ah (av (i:=2) eV.nd rfl (Or.inl rfl) (aE aC aF (aE aC aF (dvQ 0) (af)) (aE aC aF (dvQ 0) (af)))))
    (aG)) <|
   ab (wH (dvQ 0) (af) (af) abh) <|
   ab (aZ (ax ads wm (dvQ 2) (af))
    (ah (jy (dvQ 2) (my (dvQ 0) (af))))
    (aG)) <|
   ah (jy (aL gf eg (aL bJ a9 (aL bJ a9 (aL lJ iR (aE aC aF (dvQ 0) (af)) (af)) (aL gf eg (dvQ 2) (af))) (aL lJ iR (af) (aE aC aF (dvQ 0) (af)))) (af)) (my (dvQ 0) (af))))
   (aG)) <|
  ab (aZ (ax vp oB (aE aC aF (dvQ 0) (af)) (af))
   (ab (av (i:=3) eV.nd rfl (Or.inl rfl) (aL gf eg (aE aC aF (dvQ 0) (af)) (dvQ 1))) <|
   ab (jy (aL vg wb (aE aC aF (dvQ 0) (af)) (dvQ 1)) (my (dvQ 0) (af))) <|
   ah (aA (dvQ 3)))
   (aG)) <|
  ab (av (i:=4) eV.nd rfl (Or.inl rfl) (aL gf eg (aL lJ iR (aL bJ a9 (aE aC aF (dvQ 0) (af)) (af)) (af)) (af))) <|
  ab (av (i:=5) eV.nd rfl (Or.inl rfl) (aL gf eg (aL lJ iR (aL gf eg (aL lJ iR (dvQ 4) (dvQ 4)) (af)) (af)) (af))) <|
  ab (aZ (ax vp oB (dvQ 1) (af))
   (ah (aA (aL gf eg (aL bJ a9 (aL lJ iR (dvQ 5) (af)) (dvQ 4)) (dvQ 1))))
   (aG)) <|
  ah (aA (aL gf eg (aL vg wb (dvQ 5) (af)) (dvQ 1)))
theorem dj:aN qe q_2 (ao ie):=by walk_at "sc"
theorem tZ(E:Env K mg)(F:Fn K mg "_law_asked" ie q_2 f fq)(z1:iP P w K mg base) :
  eB P w K mg base CX0 2 f fq q_2 (eW K cS):=by
 obtain⟨_,_,G1,O1⟩:=z1;refine bX (t:=pG az) F.fn dj qS (λ cdv A outer s H E' hr=>?_) pZ;refine Jd.h ?_;exact ab (av (i:=3) dj.nd rfl (Or.inl rfl) (eC O1 hr.m rfl G1.mg G1.fn.kp G1.bd (aw (dvQ 0) (aw (aL bJ a9 (dvQ 1) (af)) (aa))))) <|
  ab (av (i:=4) dj.nd rfl (Or.inl rfl) (eC O1 hr.m rfl G1.mg G1.fn.kp G1.bd (aw (dvQ 0) (aw (af) (aa))))) <|
  ab (av (i:=5) dj.nd rfl (Or.inl rfl) (gb (fB (aw (bZ) (aw (bZ) (aw (bZ) (aw (bZ) (aw (bZ) (aw (bZ) (aw (bZ) (aw (bZ) (aw (bZ) (aa))))))))))) (fW) (fZ (aL bJ a9 (af) (eC O1 hr.m rfl G1.mg G1.fn.kp G1.bd (aw (dvQ 0) (aw (af) (aa)))))))) <|
  ab (av (i:=6) dj.nd rfl (Or.inl rfl) (gm (aa))) <|
  ab (bF PassesOwn.never rfl (fA rfl E.b_range (aw (dvQ 3) (aa))) (ai (i:=7) dj.nd rfl (Or.inl rfl))
   (ab (av (i:=8) dj.nd rfl (Or.inl rfl) (aE aC aF (fB (aw (aL bJ a9 (bZ) (aE aC aF (bZ) (aL gf eg (aL bJ a9 (dvQ 7) (dvQ 4)) (af)))) (aw (bZ) (aa)))) (zS oM abZ rfl E.b_int wO (aw (kl (dH hr.h) cu (dvQ 7) (af)) (aa))))) <|
   ah (dJ (e9 (dvQ 6) (dr (aw (dvQ 8) (aw (aE aC aF (dvQ 5) (eC O1 hr.m rfl G1.mg G1.fn.kp G1.bd (aw (dvQ 0) (aw (fc aX cD rfl E.b_len cw (aw (dvQ 5) (aa))) (aa))))) (aw (eC O1 hr.m rfl G1.mg G1.fn.kp G1.bd (aw (dvQ 0) (aw (aL bJ a9 (dvQ 2) (af)) (aa)))) (aa))))))))) <|
  ah (aA (dvQ 6))
theorem air:(["sign"]:List Str).Nodup:=by decide +kernel
theorem uh:aN oV q_3 (ao iu):=by walk_at "sc"
theorem tV(E:Env K mg)(F:Fn K mg "is_word" iu q_3 f fq) :
  eB P w K mg base CX0 1 f fq q_3 (eW K bz):=by
 refine bX (t:=pv) F.fn uh rq (λ cdv A outer s H E' hr=>?_) qd;refine Jd.h ?_;exact ab (aZ (fK (dq (dU (dw (fc dF fQ rfl E.b_isinstance bE (aw (dvQ 0) (aw (eN rfl E.b_str af2) (aa)))))) (eG (dU (ug kz hG kz hG (af) (fc aX cD rfl E.b_len cw (aw (dvQ 0) (aa))) (gg rfl (E.c_LONGEST_WORD).choose_spec))))))
   (ah (aA (lM)))
   (aG)) <|
  ah (aA (fc (pB rfl) abD rfl E.b_all abE (aw (fJ rfl (kU (own:=(["sign"]:List Str)) (fr:=[]) rfl) (aB (dvQ 0)) (λ _ _ _ _ _ _=>ai (i:=0) air rfl (Or.inl rfl)) (λ _ _ _ _ _ _=>bU) (λ _ _ _ _ _ _=>o4 kz hG kz hG (bZ) (dvQ 0) (bZ))) (aa))))
theorem rh:aN lO q_3 (ao gv):=by walk_at "sc"
theorem rH(E:Env K mg)(F:Fn K mg "is_whole" gv q_3 f fq) :
  eB P w K mg base CX0 1 f fq q_3 (eW K ck):=by
 refine bX (t:=lX) F.fn rh pd (λ cdv A outer s H E' hr=>?_) mL;refine Jd.h ?_;exact ah (aA (g8 (fc dF fQ rfl E.b_isinstance bE (aw (dvQ 0) (aw (eN rfl E.b_int wO) (aa)))) (mw (aeh (fc dF fQ rfl E.b_isinstance bE (aw (dvQ 0) (aw (eN rfl E.b_bool ad4) (aa))))))))
theorem qb:aN j8 q_4 (ao fj):=by walk_at "sc"
theorem pj(E:Env K mg)(F:Fn K mg "is_within" fj q_4 f fq)(z4:lR P w K mg base) :
  eB P w K mg base CX0 2 f fq q_4 (eW K aT):=by
 obtain⟨_,_,G4,O4⟩:=z4;refine bX (t:=kB ck) F.fn qb nE (λ cdv A outer s H E' hr=>?_) lC;refine Jd.h ?_;exact ah (aA (g8 (eC O4 hr.m rfl G4.mg G4.fn.kp G4.bd (aw (dvQ 0) (aa))) (mw (o4 kz hG kz hG (dvQ 1) (dvQ 0) (dvQ 2)))))
theorem i9:aN fL q_5 (ao cH):=by walk_at "sc"
theorem iW(E:Env K mg)(F:Fn K mg "is_machine_row" cH q_5 f fq)(z3:ko P w K mg base)(z5:hV P w K mg base) :
  eB P w K mg base CX0 3 f fq q_5 (eW K aQ):=by
 obtain⟨_,_,G3,O3⟩:=z3;obtain⟨_,_,G5,O5⟩:=z5;refine bX (t:=fH bz aT) F.fn i9 il (λ cdv A outer s H E' hr=>?_) gW;refine Jd.h ?_;exact ah (aA (g8 (fc dF fQ rfl E.b_isinstance bE (aw (dvQ 0) (aw (eN rfl E.b_tuple mQ) (aa)))) (g8 (kl (dH hr.h) cu (fc aX cD rfl E.b_len cw (aw (dvQ 0) (aa))) (af)) (g8 (eC O3 hr.m rfl G3.mg G3.fn.kp G3.bd (aw (aE aC aF (dvQ 0) (af)) (aa))) (mw (eC O5 hr.m rfl G5.mg G5.fn.kp G5.bd (aw (aE aC aF (dvQ 0) (af)) (aw (dvQ 1) (aw (gg rfl (E.c_MOST_BERTHS).choose_spec) (aa))))))))))
theorem dO:aN fM aew (ao bA):=by walk_at "sc"
theorem jv(E:Env K mg)(F:FnD K mg "refuse_berths" bA aew 0 f fq)(z6:fG P w K mg base) :
  eB P w K mg base CX0 4 f fq aew (eW K aV):=by
 obtain⟨_,_,G6,O6⟩:=z6;refine adO (t:=fR aQ) F.fn dO i7 (λ cdv A outer s H E' hr=>?_) iw;refine Jd.h ?_;exact ab (aZ (dU (dw (fc dF fQ rfl E.b_isinstance bE (aw (dvQ 0) (aw (eN rfl E.b_list hZ) (aa))))))
   (ah (gn))
   (aG)) <|
  ah (bF PassesOwn.never rfl (ki rfl E.b_enumerate (aw (dvQ 0) (aa))) (bT rfl (ar (ai (i:=2) dO.nd rfl (Or.inl rfl)) (ar (ai (i:=3) dO.nd rfl (Or.inl rfl)) (br))))
   (ah (aZ (fK (dq (ax ads wm (dvQ 2) (gg rfl (E.c_MOST_ROWS).choose_spec)) (dq (dU (dw (eC O6 hr.m rfl G6.mg G6.fn.kp G6.bd (aw (dvQ 3) (aw (dvQ 1) (aa)))))) (eG (fK (ik (ax vp oB (dvQ 2) (af)) (iq (ax kz hG (aE aC aF (dvQ 3) (af)) (aE aC aF (aE aC aF (dvQ 0) (aL tL mx (dvQ 2) (af))) (af))))))))))
    (ah (gn))
    (aG))))
theorem j1:aN gR q_6 (ao dA):=by walk_at "sc"
theorem j5(E:Env K mg)(F:Fn K mg "is_asked_row" dA q_6 f fq)(z3:ko P w K mg base)(z5:hV P w K mg base) :
  eB P w K mg base CX0 3 f fq q_6 (eW K bo):=by
 obtain⟨_,_,G3,O3⟩:=z3;obtain⟨_,_,G5,O5⟩:=z5;refine bX (t:=gF bz aT) F.fn j1 jq (λ cdv A outer s H E' hr=>?_) i5;refine Jd.h ?_;exact ab (aZ (fK (dq (dU (dw (fc dF fQ rfl E.b_isinstance bE (aw (dvQ 0) (aw (eN rfl E.b_tuple mQ) (aa)))))) (eG (ax (tp hr.h) nR (fc aX cD rfl E.b_len cw (aw (dvQ 0) (aa))) (af)))))
   (ah (aA (lM)))
   (aG)) <|
  ah (aA (g8 (eC O3 hr.m rfl G3.mg G3.fn.kp G3.bd (aw (aE aC aF (dvQ 0) (af)) (aa))) (g8 (eC O3 hr.m rfl G3.mg G3.fn.kp G3.bd (aw (aE aC aF (dvQ 0) (af)) (aa))) (mw (eC O5 hr.m rfl G5.mg G5.fn.kp G5.bd (aw (aE aC aF (dvQ 0) (af)) (aw (af) (aw (gg rfl (E.c_MOST_COPIES).choose_spec) (aa)))))))))
theorem ah5:(["ahead"]:List Str).Nodup:=by decide +kernel
theorem en:aN gU q_7 (ao dt):=by walk_at "sc"
theorem j7(E:Env K mg)(F:Fn K mg "refuse_asked" dt q_7 f fq)(z8:gO P w K mg base) :
  eB P w K mg base CX0 4 f fq q_7 (eW K bb):=by
 obtain⟨_,_,G8,O8⟩:=z8;refine bX (t:=gL bo) F.fn en jo (λ cdv A outer s H E' hr=>?_) iV;refine Jd.h ?_;exact ab (aZ (dU (dw (fc dF fQ rfl E.b_isinstance bE (aw (dvQ 0) (aw (eN rfl E.b_list hZ) (aa))))))
   (ah (gn))
   (aG)) <|
  ah (bF PassesOwn.never rfl (ki rfl E.b_enumerate (aw (dvQ 0) (aa))) (bT rfl (ar (ai (i:=1) en.nd rfl (Or.inl rfl)) (ar (ai (i:=2) en.nd rfl (Or.inl rfl)) (br))))
   (ah (aZ (fK (dq (ax ads wm (dvQ 1) (gg rfl (E.c_MOST_ROWS).choose_spec)) (dq (dU (dw (eC O8 hr.m rfl G8.mg G8.fn.kp G8.bd (aw (dvQ 2) (aa))))) (eG (ax oJ (gx false) (aE aC aF (dvQ 2) (af)) (fJ rfl (kU (own:=(["ahead"]:List Str)) (fr:=[]) rfl) (aB (gb (dvQ 0) (fW) (fZ (dvQ 1)))) (λ _ _ _ _ _ _=>ai (i:=0) ah5 rfl (Or.inl rfl)) (λ _ _ _ _ _ _=>bU) (λ _ _ _ _ _ _=>aE aC aF (dvQ 0) (af))))))))
    (ah (gn))
    (aG))))
theorem jW:aN gH q_8 (ao du):=by walk_at "sc"
theorem kQ(E:Env K mg)(F:Fn K mg "refuse_wrong" du q_8 f fq)
  (G7:FnD K mg "refuse_berths" bA aew 0 f7 fd7)(O7:eB P w K mg base CX0 4 f7 fd7 aew (eW K aV))(z9:gP P w K mg base) :
  eB P w K mg base CX0 5 f fq q_8 (eW K bc):=by
 obtain⟨_,_,G9,O9⟩:=z9;refine bX (t:=gQ aV bb) F.fn jW ju (λ cdv A outer s H E' hr=>?_) iX;refine Jd.h ?_;exact ab (dJ (ajd O7 hr.m rfl G7.mg G7.fn.kp G7.bd (aw (dvQ 0) (aa)))) <|
  ah (dJ (eC O9 hr.m rfl G9.mg G9.fn.kp G9.bd (aw (dvQ 1) (aa))))
theorem aiA:(["berths", "at"]:List Str).Nodup:=by decide +kernel
theorem dX:aN oO q_9 (ao iG):=by walk_at "sc"
theorem uP(E:Env K mg)(F:Fn K mg "lacking" iG q_9 f fq) :
  eB P w K mg base CX0 1 f fq q_9 (eW K cQ):=by
 refine bX (t:=ot) F.fn dX qX (λ cdv A outer s H E' hr=>?_) oF;refine Jd.h ?_;exact ab (av (i:=2) dX.nd rfl (Or.inl rfl) (af)) <|
  ab (bF PassesOwn.never rfl (ki rfl E.b_enumerate (aw (c9 (uO rfl rfl E.b_sorted (dvQ 1))) (aa))) (bT rfl (ar (ai (i:=3) dX.nd rfl (Or.inr rfl)) (ar (ai (i:=4) dX.nd rfl (Or.inl rfl)) (br))))
   (ab (wJ (i:=2) dX.nd rfl (Or.inl rfl) (dvQ 4) abh) <|
   ab (av (i:=5) dX.nd rfl (Or.inl rfl) (fc (yv rfl) ag5 rfl E.b_sum ae1 (aw (fJ rfl (kU (own:=(["berths"]:List Str)) (fr:=[3]) rfl) (aB (dvQ 0)) (λ _ _ _ _ _ _=>ai (i:=0) aiA rfl (Or.inl rfl)) (λ _ _ _ _ _ _=>bU) (λ _ _ _ _ _ _=>fc (xW rfl) acs rfl E.b_min sM (aw (dvQ 0) (aw (aL bJ a9 (dvQ 1) (af)) (aa))))) (aa)))) <|
   ah (aZ (ax vp oB (dvQ 2) (dvQ 5))
    (ah (aA (dr (aw (aL bJ a9 (dvQ 3) (af)) (aw (dvQ 2) (aw (dvQ 5) (aa)))))))
    (aG)))) <|
  ah (aA (eh))
theorem jj:aN kZ aex (ao fo):=by walk_at "sc"
theorem pT(E:Env K mg)(F:Fn K mg "with_more" fo aex f fq) :
  eB P w K mg base CX0 1 f fq aex (eW K aW):=by
 refine bX (t:=kL) F.fn jj nF (λ cdv A outer s H E' hr=>?_) lq;refine Jd.h ?_;exact ab (av (i:=3) jj.nd rfl (Or.inl rfl) (zS rP xY rfl E.b_dict ym (aw (dvQ 0) (aa)))) <|
  ab (iA (fh hr) (dvQ 3) (dvQ 1) (aL bJ a9 (nj (fh hr) (dvQ 3) (dvQ 1) (af)) (dvQ 2))) <|
  ah (aA (dvQ 3))
theorem fN:aN gG aeC (ao dv):=by walk_at "sc"
theorem kO(E:Env K mg)(F:Fn K mg "greatest_run" dv aeC f fq)(z11:pR P w K mg base)(z12:gZ P w K mg base) :
  eB P w K mg base CX0 2 f fq aeC (eW K bh):=by
 obtain⟨_,_,G11,O11⟩:=z11;obtain⟨_,_,G12,O12⟩:=z12;refine bX (t:=gK cQ aW) F.fn fN jn (λ cdv A outer s H E' hr=>?_) i8;refine Jd.h ?_;exact ab (bF PassesOwn.never rfl (qk rfl E.b_range (aw (dvQ 3) (aw (af) (aw (abO abc vC (af)) (aa))))) (ai (i:=4) fN.nd rfl (Or.inl rfl))
   (ah (aZ (ax wg qZ (eC O11 hr.m rfl G11.mg G11.fn.kp G11.bd (aw (dvQ 0) (aw (eC O12 hr.m rfl G12.mg G12.fn.kp G12.bd (aw (dvQ 1) (aw (dvQ 2) (aw (dvQ 4) (aa))))) (aa)))) (eh))
    (ah (aA (dvQ 4)))
    (aG)))) <|
  ah (aA (af))
theorem cN:aN o3 aeM (ao ip):=by walk_at "sc"
theorem ux(E:Env K mg)(F:Fn K mg "running" ip aeM f fq)(z13:gJ P w K mg base)(z12:gZ P w K mg base) :
  eB P w K mg base CX0 3 f fq aeM (eW K cT):=by
 obtain⟨_,_,G13,O13⟩:=z13;obtain⟨_,_,G12,O12⟩:=z12;refine bX (t:=pV bh aW) F.fn cN rp (λ cdv A outer s H E' hr=>?_) qf;refine Jd.h ?_;exact ab (av (i:=2) cN.nd rfl (Or.inl rfl) (jb)) <|
  ab (av (i:=3) cN.nd rfl (Or.inl rfl) (gm (aa))) <|
  ab (bF PassesOwn.never rfl (aB (dvQ 1)) (bT rfl (ar (ai (i:=4) cN.nd rfl (Or.inl rfl)) (ar (ai (i:=5) cN.nd rfl (Or.inl rfl)) (ar (ai (i:=6) cN.nd rfl (Or.inl rfl)) (br)))))
   (ab (av (i:=7) cN.nd rfl (Or.inl rfl) (eC O13 hr.m rfl G13.mg G13.fn.kp G13.bd (aw (dvQ 0) (aw (dvQ 2) (aw (dvQ 5) (aw (dvQ 6) (aa))))))) <|
   ab (av (i:=2) cN.nd rfl (Or.inl rfl) (eC O12 hr.m rfl G12.mg G12.fn.kp G12.bd (aw (dvQ 2) (aw (dvQ 5) (aw (dvQ 7) (aa)))))) <|
   ah (dJ (e9 (dvQ 3) (dr (aw (dvQ 4) (aw (dvQ 5) (aw (dvQ 7) (aa))))))))) <|
  ah (aA (dvQ 3))
theorem agJ:(["machine", "many"]:List Str).Nodup:=by decide +kernel
theorem rg:aN lP aeE (ao gA):=by walk_at "sc"
theorem rR(E:Env K mg)(F:Fn K mg "rooms_of" gA aeE f fq) :
  eB P w K mg base CX0 1 f fq aeE (eW K cv):=by
 refine bX (t:=lW) F.fn rg qh (λ cdv A outer s H E' hr=>?_) nU;refine Jd.h ?_;exact ah (aA (fJ rfl (kU (own:=(["machine", "many"]:List Str)) (fr:=[]) rfl) (aB (dvQ 0)) (λ _ _ _ _ _ _=>bT rfl (ar (ai (i:=0) agJ rfl (Or.inl rfl)) (ar (ai (i:=1) agJ rfl (Or.inl rfl)) (br)))) (λ _ _ _ _ _ _=>bU) (λ _ _ _ _ _ _=>dvQ 1)))
theorem adA:(["wish", "kind", "run"]:List Str).Nodup:=by decide +kernel
theorem uU:aN pO q_8 (ao iN):=by walk_at "sc"
theorem uI(E:Env K mg)(F:Fn K mg "runs_of" iN q_8 f fq)(z10:gM P w K mg base)(z14:oH P w K mg base)(z15:lL P w K mg base) :
  eB P w K mg base CX0 6 f fq q_8 (eW K cU):=by
 obtain⟨_,_,G10,O10⟩:=z10;obtain⟨_,_,G14,O14⟩:=z14;obtain⟨_,_,G15,O15⟩:=z15;refine bX (t:=oS bc cT cv) F.fn uU qI (λ cdv A outer s H E' hr=>?_) oG;refine Jd.h ?_;exact ab (dJ (eC O10 hr.m rfl G10.mg G10.fn.kp G10.bd (aw (dvQ 0) (aw (dvQ 1) (aa))))) <|
  ah (aA (acv rfl (kU (own:=(["wish", "kind", "run"]:List Str)) (fr:=[]) rfl) (aB (c9 (eC O14 hr.m rfl G14.mg G14.fn.kp G14.bd (aw (eC O15 hr.m rfl G15.mg G15.fn.kp G15.bd (aw (dvQ 0) (aa))) (aw (dvQ 1) (aa)))))) (λ _ _ _ _ _ _=>bT rfl (ar (ai (i:=0) adA rfl (Or.inl rfl)) (ar (ai (i:=1) adA rfl (Or.inl rfl)) (ar (ai (i:=2) adA rfl (Or.inl rfl)) (br))))) (λ _ _ _ _ _ _=>bU) (λ _ _ _ _ _ _=>dr (aw (dvQ 0) (aw (dvQ 2) (aa))))))
theorem dN:aN jR aev (ao fg):=by walk_at "sc"
theorem oj(E:Env K mg)(F:Fn K mg "_law_demands" fg aev f fq) :
  eB P w K mg base CX0 1 f fq aev (eW K bO):=by
 refine bX (t:=kA) F.fn dN nQ (λ cdv A outer s H E' hr=>?_) lB;refine Jd.h ?_;exact ab (av (i:=1) dN.nd rfl (Or.inl rfl) (jb)) <|
  ab (bF PassesOwn.never rfl (aB (dvQ 0)) (bT rfl (ar (ai (i:=2) dN.nd rfl (Or.inl rfl)) (ar (ai (i:=3) dN.nd rfl (Or.inl rfl)) (ar (ai (i:=4) dN.nd rfl (Or.inl rfl)) (br)))))
   (ah (iA (fh hr) (dvQ 1) (dvQ 3) (aL bJ a9 (nj (fh hr) (dvQ 1) (dvQ 3) (af)) (dvQ 4))))) <|
  ah (aA (dvQ 1))
theorem aid:(["_law_row", "_law_machine"]:List Str).Nodup:=by decide +kernel
theorem ahC:(["_law_row", "_law_kind"]:List Str).Nodup:=by decide +kernel
theorem ah1:(["_law_row", "_law_kind"]:List Str).Nodup:=by decide +kernel
theorem bY:aN oy aeA (ao ig):=by walk_at "sc"
theorem uB(E:Env K mg)(F:Fn K mg "_law_lying" ig aeA f fq)(z1:iP P w K mg base) :
  eB P w K mg base CX0 2 f fq aeA (eW K cO):=by
 obtain⟨_,_,G1,O1⟩:=z1;refine bX (t:=oh az) F.fn bY qH (λ cdv A outer s H E' hr=>?_) oK;refine Jd.h ?_;exact ab (av (i:=3) bY.nd rfl (Or.inl rfl) (gm (aa))) <|
  ab (av (i:=4) bY.nd rfl (Or.inl rfl) (af)) <|
  ab (bF PassesOwn.never rfl (fA rfl E.b_range (aw (eC O1 hr.m rfl G1.mg G1.fn.kp G1.bd (aw (dvQ 0) (aw (af) (aa)))) (aa))) (ai (i:=5) bY.nd rfl (Or.inl rfl))
   (ab (jy (aE aC aF (dvQ 1) (eC O1 hr.m rfl G1.mg G1.fn.kp G1.bd (aw (dvQ 0) (aw (fc aX cD rfl E.b_len cw (aw (dvQ 1) (aa))) (aa))))) (bT rfl (ar (ai (i:=6) bY.nd rfl (Or.inr rfl)) (ar (ai (i:=7) bY.nd rfl (Or.inl rfl)) (br))))) <|
   ab (av (i:=8) bY.nd rfl (Or.inr rfl) (aE aC aF (c9 (fc (jg rfl) tR rfl E.b_sorted kT (aw (dvQ 2) (aa)))) (eC O1 hr.m rfl G1.mg G1.fn.kp G1.bd (aw (dvQ 0) (aw (fc yV ac0 rfl E.b_len cw (aw (dvQ 2) (aa))) (aa)))))) <|
   ab (jV (cA (i:=9) bY.nd rfl (Or.inl rfl) rfl (kU (own:=(["_law_row"]:List Str)) (fr:=[6]) rfl) (jU (dvQ 3)) (λ _ _ _ _ _ _=>ai (i:=0) aid rfl (Or.inl rfl)) (λ _ _ _ _ _ _=>bL (ax (dH hr.h) cu (aE aC aF (dvQ 0) (af)) (dvQ 1))) (λ _ _ _ _ _ _=>dvQ 0))) <|
   ab (jV (cA (i:=10) bY.nd rfl (Or.inl rfl) rfl (kU (own:=(["_law_row"]:List Str)) (fr:=[8]) rfl) (jU (dvQ 3)) (λ _ _ _ _ _ _=>ai (i:=0) ahC rfl (Or.inl rfl)) (λ _ _ _ _ _ _=>bL (ax (dH hr.h) cu (aE aC aF (dvQ 0) (af)) (dvQ 1))) (λ _ _ _ _ _ _=>dvQ 0))) <|
   ah (aZ (fK (ik (ax om je (fc aX cD rfl E.b_len cw (aw (dvQ 9) (aa))) (dvQ 7)) (ik (ax (dH hr.h) cu (fJ rfl (kU (own:=(["_law_row"]:List Str)) (fr:=[8]) rfl) (aB (dvQ 9)) (λ _ _ _ _ _ _=>ai (i:=0) ah1 rfl (Or.inl rfl)) (λ _ _ _ _ _ _=>bL (ax (dH hr.h) cu (aE aC aF (dvQ 0) (af)) (dvQ 1))) (λ _ _ _ _ _ _=>dvQ 0)) (fB (aa))) (iq (ax om je (fc aX cD rfl E.b_len cw (aw (dvQ 10) (aa))) (dy (fh hr) (dvQ 2) (dvQ 8)))))))
    (ab (av (i:=4) bY.nd rfl (Or.inl rfl) (aL bJ a9 (aL bJ a9 (dvQ 4) (af)) (eC O1 hr.m rfl G1.mg G1.fn.kp G1.bd (aw (dvQ 0) (aw (af) (aa)))))) <|
    ah (dJ (e9 (dvQ 3) (dr (aw (dvQ 4) (aw (dvQ 8) (aw (dvQ 6) (aa))))))))
    (aG)))) <|
  ah (aA (dvQ 3))
theorem agU:(["_law_machine", "_law_many", "_law_lying_here"]:List Str).Nodup:=by decide +kernel
theorem agL:(["_law_row", "_law_machine"]:List Str).Nodup:=by decide +kernel
theorem xi:aN sg aeG (ao jD):=by walk_at "sc"
theorem u9(E:Env K mg)(F:Fn K mg "_law_free" jD aeG f fq) :
  eB P w K mg base CX0 1 f fq aeG (eW K bN):=by
 refine bX (t:=sC) F.fn xi uS (λ cdv A outer s H E' hr=>?_) rC;refine Jd.h ?_;exact ah (aA (yN rfl (afg (own:=(["_law_machine", "_law_many"]:List Str)) (fr:=[1]) rfl) (aB (dvQ 0)) (λ _ _ _ _ _ _=>bT rfl (ar (ai (i:=0) agU rfl (Or.inr rfl)) (ar (ai (i:=1) agU rfl (Or.inl rfl)) (br)))) (λ _ _ _ _ _ _=>bL (ax om je (fc aX cD rfl E.b_len cw (aw (fJ rfl (kU (own:=(["_law_row"]:List Str)) (fr:=[0]) rfl) (aB (dvQ 2)) (λ _ _ _ _ _ _=>ai (i:=0) agL rfl (Or.inl rfl)) (λ _ _ _ _ _ _=>bL (ax (dH hr.h) cu (aE aC aF (dvQ 0) (af)) (dvQ 1))) (λ _ _ _ _ _ _=>dvQ 0)) (aa))) (dvQ 1))) (λ _ _ _ _ _ _=>dvQ 0)))
theorem agi:(["_law_row", "_law_kind", "_law_machine"]:List Str).Nodup:=by decide +kernel
theorem zu:aN xU aeK (ao nO):=by walk_at "sc"
theorem aaw(E:Env K mg)(F:Fn K mg "_law_has" nO aeK f fq) :
  eB P w K mg base CX0 1 f fq aeK (eW K cB):=by
 refine bX (t:=xu) F.fn zu xa (λ cdv A outer s H E' hr=>?_) uw;refine Jd.h ?_;exact ah (aA (kl (tp hr.h) nR (fJ rfl (kU (own:=(["_law_row"]:List Str)) (fr:=[2,1]) rfl) (aB (dvQ 0)) (λ _ _ _ _ _ _=>ai (i:=0) agi rfl (Or.inl rfl)) (λ _ _ _ _ _ _=>bL (fK (ik (ax (dH hr.h) cu (aE aC aF (dvQ 0) (af)) (dvQ 1)) (iq (ax (dH hr.h) cu (aE aC aF (dvQ 0) (af)) (dvQ 2)))))) (λ _ _ _ _ _ _=>dvQ 0)) (fB (aa))))
theorem bI:aN iz aez (ao dR):=by walk_at "sc"
theorem lr(E:Env K mg)(F:Fn K mg "one_further" dR aez f fq) :
  eB P w K mg base CX0 1 f fq aez (eW K bx):=by
 refine bX (t:=iK) F.fn bI kX (λ cdv A outer s H E' hr=>?_) js;refine Jd.h ?_;exact ab (av (i:=4) bI.nd rfl (Or.inl rfl) (jb)) <|
  ab (bF PassesOwn.never rfl (aB (dvQ 1)) (bT rfl (ar (ai (i:=5) bI.nd rfl (Or.inl rfl)) (ar (ai (i:=6) bI.nd rfl (Or.inl rfl)) (ar (ai (i:=7) bI.nd rfl (Or.inl rfl)) (br)))))
   (ah (aZ (aaP (fh hr) (dvQ 7) (dvQ 0))
    (ah (bF PassesOwn.never rfl (kK (dvQ 2)) (ai (i:=8) bI.nd rfl (Or.inl rfl))
     (ah (aZ (fK (ik (qV (fh hr) (dvQ 8) (dvQ 3)) (iq (ax eO (gx true) (dvQ 6) (dy (fh hr) (dvQ 2) (dvQ 8))))))
      (ab (av (i:=9) bI.nd rfl (Or.inl rfl) (aL adb aaL (dy (fh hr) (dvQ 0) (dvQ 7)) (dr (aw (dvQ 5) (aw (dvQ 8) (aa)))))) <|
      ah (iA (fh hr) (dvQ 4) (dvQ 8) (fc (uW hr) zC rfl E.b_min sM (aw (nj (fh hr) (dvQ 4) (dvQ 8) (dvQ 9)) (aw (dvQ 9) (aa))))))
      (aG)))))
    (aG)))) <|
  ah (aA (dvQ 4))
theorem agC:(["machine", "ways", "free"]:List Str).Nodup:=by decide +kernel
theorem dg:aN lZ aey (ao gy):=by walk_at "sc"
theorem rL(E:Env K mg)(F:Fn K mg "way_from" gy aey f fq)(z21:iF P w K mg base) :
  eB P w K mg base CX0 2 f fq aey (eW K cy):=by
 obtain⟨_,_,G21,O21⟩:=z21;refine bX (t:=mj bx) F.fn dg pP (λ cdv A outer s H E' hr=>?_) ng;refine Jd.h ?_;exact ab (av (i:=4) dg.nd rfl (Or.inl rfl) (o5 (trs:=[(ag 0,dC (.d (.bool true)))]) (o6 (dvQ 0) (lM) (sQ)))) <|
  ab (av (i:=5) dg.nd rfl (Or.inr rfl) (o5 (trs:=[(ag 0,pz (ae (ag 0) (aK)))]) (o6 (dvQ 0) (dr (aw (dvQ 0) (aa))) (sQ)))) <|
  ab (uH PassesOwn.never (md (dvQ 5))
   (ab (av (i:=5) dg.nd rfl (Or.inr rfl) (eC O21 hr.m rfl G21.mg G21.fn.kp G21.bd (aw (dvQ 5) (aw (dvQ 1) (aw (dvQ 2) (aw (dvQ 4) (aa))))))) <|
   ab (jc (cA (i:=6) dg.nd rfl (Or.inl rfl) rfl (kU (own:=(["machine"]:List Str)) (fr:=[5,3]) rfl) (iU (dvQ 5)) (λ _ _ _ _ _ _=>ai (i:=0) agC rfl (Or.inl rfl)) (λ _ _ _ _ _ _=>bL (ax oJ (gx false) (dvQ 0) (dvQ 2))) (λ _ _ _ _ _ _=>dy (fh hr) (dvQ 1) (dvQ 0)))) <|
   ab (aZ (md (dvQ 6))
    (ah (aA (fc (yF hr) acT rfl E.b_min sM (aw (dvQ 6) (aa)))))
    (aG)) <|
   ah (jc (bF PassesOwn.never rfl (iU (dvQ 5)) (ai (i:=7) dg.nd rfl (Or.inl rfl))
    (ah (iA (fh hr) (dvQ 4) (dvQ 7) (lM))))))) <|
  ah (aA (eh))
theorem ab2:(["machine", "many"]:List Str).Nodup:=by decide +kernel
theorem abx:(["machine", "many", "kinds"]:List Str).Nodup:=by decide +kernel
theorem cC:aN oT aeI (ao d9):=by walk_at "sc"
theorem uQ(E:Env K mg)(F:Fn K mg "way_for" d9 aeI f fq)(hcd:fq.code=.ref dB)(z22:ma P w K mg base) :
  eB P w K mg base CX0 3 f fq aeI (eW K cV):=by
 obtain⟨_,_,G22,O22⟩:=z22;refine adF (t:=o7 cy) F.fn hcd cC qM (λ A outer s H E' hr=>?_) qa;refine Jd.h ?_;exact ab (av (i:=3) cC.nd rfl (Or.inr rfl) (agy rfl (kU (own:=(["machine", "many"]:List Str)) (fr:=[]) rfl) (aB (dvQ 0)) (λ _ _ _ _ _ _=>bT rfl (ar (ai (i:=0) ab2 rfl (Or.inl rfl)) (ar (ai (i:=1) ab2 rfl (Or.inl rfl)) (br)))) (λ _ _ _ _ _ _=>bU) (λ _ _ _ _ _ _=>dvQ 0) (λ _ _ _ _ _ _=>gm (aa)))) <|
  ab (bF PassesOwn.never rfl (aB (dvQ 1)) (bT rfl (ar (ai (i:=4) cC.nd rfl (Or.inl rfl)) (ar (ai (i:=5) cC.nd rfl (Or.inl rfl)) (ar (ai (i:=6) cC.nd rfl (Or.inl rfl)) (br)))))
   (ah (dJ (e9 (dy (fh hr) (dvQ 3) (dvQ 6)) (dvQ 5))))) <|
  ab (cA (i:=7) cC.nd rfl (Or.inl rfl) rfl (kU (own:=(["machine", "many"]:List Str)) (fr:=[3]) rfl) (aB (dvQ 0)) (λ _ _ _ _ _ _=>bT rfl (ar (ai (i:=0) abx rfl (Or.inl rfl)) (ar (ai (i:=1) abx rfl (Or.inl rfl)) (br)))) (λ _ _ _ _ _ _=>bL (ax om je (fc aX cD rfl E.b_len cw (aw (dy (fh hr) (dvQ 2) (dvQ 0)) (aa))) (dvQ 1))) (λ _ _ _ _ _ _=>dvQ 0)) <|
  ab (av (i:=8) cC.nd rfl (Or.inl rfl) (gm (aa))) <|
  ab (jc (bF PassesOwn.never rfl (kK (dvQ 3)) (ai (i:=9) cC.nd rfl (Or.inl rfl))
   (ah (aZ (ax eO (gx true) (dvQ 2) (dy (fh hr) (dvQ 3) (dvQ 9)))
    (ab (av (i:=10) cC.nd rfl (Or.inl rfl) (eC O22 hr.m rfl G22.mg G22.fn.kp G22.bd (aw (dvQ 9) (aw (dvQ 1) (aw (dvQ 3) (aw (dvQ 7) (aa))))))) <|
    ah (aZ (ax ac1 zN (dvQ 10) (eh))
     (ah (dJ (e9 (dvQ 8) (dvQ 10))))
     (aG)))
    (aG))))) <|
  ah (aA (w5 (k:=0) (q:=gj) hr.m rfl rfl E.b_min (ahv (x:= "each") (fr:=[]) rfl) rfl E.h_way_for rfl (λ _ _ _ _ _=>rfl) (c9 (dvQ 8)) (λ _ _ _ _ _ _ hr=>dr (aw (fc aX cD rfl E.b_len cw (aw (dvQ 0) (aa))) (aw (dvQ 0) (aa))))))
theorem agA:(["_law_row", "_law_number"]:List Str).Nodup:=by decide +kernel
theorem afJ:(["_law_row", "_law_machine", "_law_number"]:List Str).Nodup:=by decide +kernel
theorem bQ:aN kj aeJ (ao ff):=by walk_at "sc"
theorem pS(E:Env K mg)(F:Fn K mg "_law_carried" ff aeJ f fq)(z19:nN P w K mg base)(z20:rD P w K mg base) :
  eB P w K mg base CX0 2 f fq aeJ (eW K bP):=by
 obtain⟨_,_,G19,O19⟩:=z19;obtain⟨_,_,G20,O20⟩:=z20;refine bX (t:=kD bN cB) F.fn bQ nJ (λ cdv A outer s H E' hr=>?_) lF;refine Jd.h ?_;exact ab (av (i:=3) bQ.nd rfl (Or.inl rfl) (c9 (zS dG fX rfl E.b_list hZ (aw (dvQ 1) (aa))))) <|
  ab (bF PassesOwn.never rfl (rB rfl E.b_range (aw (aL tL mx (fc aX cD rfl E.b_len cw (aw (dvQ 2) (aa))) (af)) (aw (af) (aw (abO abc vC (af)) (aa))))) (ai (i:=4) bQ.nd rfl (Or.inl rfl))
   (ab (wN rfl (aw (aE aC aF (dvQ 2) (dvQ 4)) (aw (aE aC aF (dvQ 2) (aL tL mx (dvQ 4) (af))) (aw (aE aC aF (dvQ 2) (aL bJ a9 (dvQ 4) (af))) (aa)))) (ar (ai (i:=5) bQ.nd rfl (Or.inr rfl)) (ar (ai (i:=6) bQ.nd rfl (Or.inl rfl)) (ar (ai (i:=7) bQ.nd rfl (Or.inr rfl)) (br))))) <|
   ab (cA (i:=8) bQ.nd rfl (Or.inl rfl) rfl (kU (own:=(["_law_row"]:List Str)) (fr:=[5]) rfl) (aB (dvQ 3)) (λ _ _ _ _ _ _=>ai (i:=0) agA rfl (Or.inl rfl)) (λ _ _ _ _ _ _=>bL (ax (dH hr.h) cu (aE aC aF (dvQ 0) (af)) (dvQ 1))) (λ _ _ _ _ _ _=>dvQ 0)) <|
   ab (aZ (fK (dq (ax (tp hr.h) nR (fc aX cD rfl E.b_len cw (aw (dvQ 8) (aa))) (af)) (dq (ax (tp hr.h) nR (aE aC aF (aE aC aF (dvQ 8) (af)) (af)) (dvQ 6)) (eG (ax eO (gx true) (dvQ 7) (eC O19 hr.m rfl G19.mg G19.fn.kp G19.bd (aw (dvQ 0) (aw (dvQ 3) (aa)))))))))
    (ah (aA (eh)))
    (aG)) <|
   ab (aZ (dw (eC O20 hr.m rfl G20.mg G20.fn.kp G20.bd (aw (dvQ 3) (aw (dvQ 7) (aw (aE aC aF (aE aC aF (dvQ 8) (af)) (af)) (aa))))))
    (ah (aA (eh)))
    (aG)) <|
   ah (cA (i:=3) bQ.nd rfl (Or.inl rfl) rfl (kU (own:=(["_law_row"]:List Str)) (fr:=[7,5]) rfl) (aB (dvQ 3)) (λ _ _ _ _ _ _=>ai (i:=0) afJ rfl (Or.inl rfl)) (λ _ _ _ _ _ _=>bU) (λ _ _ _ _ _ _=>dr (aw (aE aC aF (dvQ 0) (af)) (aw (aE aC aF (dvQ 0) (af)) (aw (aE aC aF (fB (aw (aE aC aF (dvQ 0) (af)) (aw (dvQ 1) (aa)))) (zS oM abZ rfl E.b_int wO (aw (kl (dH hr.h) cu (aE aC aF (dvQ 0) (af)) (dvQ 2)) (aa)))) (aa)))))))) <|
  ah (aA (dvQ 3))
theorem afD:(["_law_machine", "_law_found", "_law_kind"]:List Str).Nodup:=by decide +kernel
theorem ag4:(["_law_row"]:List Str).Nodup:=by decide +kernel
theorem fC:aN vm aeD (ao mR):=by walk_at "sc"
theorem zR(E:Env K mg)(F:Fn K mg "_law_put" mR aeD f fq)(z19:nN P w K mg base)(z20:rD P w K mg base)(z23:pH P w K mg base)(z24:jM P w K mg base)(z1:iP P w K mg base) :
  eB P w K mg base CX0 4 f fq aeD (eW K cZ):=by
 obtain⟨_,_,G19,O19⟩:=z19;obtain⟨_,_,G20,O20⟩:=z20;obtain⟨_,_,G23,O23⟩:=z23;obtain⟨_,_,G24,O24⟩:=z24;obtain⟨_,_,G1,O1⟩:=z1;refine bX (t:=yk bN cB cV bP az) F.fn fC xI (λ cdv A outer s H E' hr=>?_) uL;refine Jd.h ?_;exact ab (av (i:=4) fC.nd rfl (Or.inr rfl) (dvQ 1)) <|
  ab (cA (i:=5) fC.nd rfl (Or.inl rfl) rfl (kU (own:=(["_law_machine"]:List Str)) (fr:=[4,2]) rfl) (aB (eC O19 hr.m rfl G19.mg G19.fn.kp G19.bd (aw (dvQ 0) (aw (dvQ 4) (aa))))) (λ _ _ _ _ _ _=>ai (i:=0) afD rfl (Or.inl rfl)) (λ _ _ _ _ _ _=>bL (dU (dw (eC O20 hr.m rfl G20.mg G20.fn.kp G20.bd (aw (dvQ 1) (aw (dvQ 0) (aw (dvQ 2) (aa)))))))) (λ _ _ _ _ _ _=>dvQ 0)) <|
  ab (aZ (ax (dH hr.h) cu (dvQ 5) (fB (aa)))
   (ab (av (i:=6) fC.nd rfl (Or.inl rfl) (eC O23 hr.m rfl G23.mg G23.fn.kp G23.bd (aw (c9 (zS dG fX rfl E.b_list hZ (aw (dvQ 0) (aa)))) (aw (c9 (zS dG fX rfl E.b_list hZ (aw (dvQ 4) (aa)))) (aw (dvQ 2) (aa)))))) <|
   ab (aZ (fK (dq (dU (dw (fc dF fQ rfl E.b_isinstance bE (aw (dvQ 6) (aw (eN rfl E.b_tuple mQ) (aa)))))) (dq (ax om je (fc aX cD rfl E.b_len cw (aw (dvQ 6) (aa))) (af)) (dq (ax (dH hr.h) cu (aL gf eg (fc aX cD rfl E.b_len cw (aw (dvQ 6) (aa))) (af)) (af)) (eG (dw (eC O20 hr.m rfl G20.mg G20.fn.kp G20.bd (aw (dvQ 4) (aw (aE aC aF (dvQ 6) (af)) (aw (dvQ 2) (aa)))))))))))
    (ah (aA (eh)))
    (aG)) <|
   ab (aZ (ax om je (qK rfl rfl E.b_len rfl E.b_set (aa9 (dvQ 6))) (fc aX cD rfl E.b_len cw (aw (aa9 (dvQ 6)) (aa))))
    (ah (aA (eh)))
    (aG)) <|
   ab (av (i:=4) fC.nd rfl (Or.inr rfl) (eC O24 hr.m rfl G24.mg G24.fn.kp G24.bd (aw (dvQ 0) (aw (dvQ 4) (aw (dvQ 6) (aa)))))) <|
   ab (aZ (fK (dq (ax wg qZ (dvQ 4) (eh)) (eG (ax eO (gx true) (aE aC aF (dvQ 6) (af)) (eC O19 hr.m rfl G19.mg G19.fn.kp G19.bd (aw (dvQ 0) (aw (dvQ 4) (aa))))))))
    (ah (aA (eh)))
    (aG)) <|
   ah (av (i:=5) fC.nd rfl (Or.inl rfl) (fB (aw (aE aC aF (dvQ 6) (af)) (aa)))))
   (aG)) <|
  ab (av (i:=7) fC.nd rfl (Or.inl rfl) (aE aC aF (dvQ 5) (eC O1 hr.m rfl G1.mg G1.fn.kp G1.bd (aw (dvQ 3) (aw (fc aX cD rfl E.b_len cw (aw (dvQ 5) (aa))) (aa)))))) <|
  ah (aA (qG (dvQ 4) (fB (aw (dr (aw (aL bJ a9 (aaF rfl rfl E.b_max (fJ rfl (kU (own:=(["_law_row"]:List Str)) (fr:=[]) rfl) (aB (dvQ 4)) (λ _ _ _ _ _ _=>ai (i:=0) ag4 rfl (Or.inl rfl)) (λ _ _ _ _ _ _=>bU) (λ _ _ _ _ _ _=>aE aC aF (dvQ 0) (af)))) (af)) (aw (dvQ 2) (aw (dvQ 7) (aa))))) (aa)))))
theorem ag0:(["_law_j", "_law_bag_here"]:List Str).Nodup:=by decide +kernel
theorem wL:(["_law_wish", "_law_kind", "_law_copies", "_law_fitting"]:List Str).Nodup:=by decide +kernel
theorem afz:(["_law_row", "_law_kind"]:List Str).Nodup:=by decide +kernel
theorem afN:(["_law_row", "_law_machine"]:List Str).Nodup:=by decide +kernel
theorem agP:(["_law_kind", "_law_lying_here", "_law_demands_here"]:List Str).Nodup:=by decide +kernel
theorem ae9:(["_law_row", "_law_kind"]:List Str).Nodup:=by decide +kernel
theorem dQ:aN afr q_0 (ao mr):=by walk_at "sc"
theorem ae7(E:Env K mg)(F:Fn K mg "law" mr q_0 f fq)(z0:vo P w K mg base)(z1:iP P w K mg base)(z2:n5 P w K mg base)(z16:oA P w K mg base)(z17:j4 P w K mg base)(z18:pE P w K mg base)(z25:xF P w K mg base) :
  eB P w K mg base CX0 7 f fq q_0 (eW K jL):=by
 obtain⟨_,_,G0,O0⟩:=z0;obtain⟨_,_,G1,O1⟩:=z1;obtain⟨_,_,G2,O2⟩:=z2;obtain⟨_,_,G16,O16⟩:=z16;obtain⟨_,_,G17,O17⟩:=z17;obtain⟨_,_,G18,O18⟩:=z18;obtain⟨_,_,G25,O25⟩:=z25;refine bX (t:=agz eE az cS cU bO cO cZ) F.fn dQ acr (λ cdv A outer s H E' hr=>?_) aaa;refine Jd.h ?_;exact ab (av (i:=1) dQ.nd rfl (Or.inr rfl) (eC O0 hr.m rfl G0.mg G0.fn.kp G0.bd (aw (dvQ 0) (aa)))) <|
  ab (av (i:=2) dQ.nd rfl (Or.inl rfl) (aL bJ a9 (af) (eC O1 hr.m rfl G1.mg G1.fn.kp G1.bd (aw (dvQ 1) (aw (af) (aa)))))) <|
  ab (cA (i:=3) dQ.nd rfl (Or.inl rfl) rfl (kU (own:=(["_law_j"]:List Str)) (fr:=[1]) rfl) (fA rfl E.b_range (aw (dvQ 2) (aa))) (λ _ _ _ _ _ _=>ai (i:=0) ag0 rfl (Or.inl rfl)) (λ _ _ _ _ _ _=>bU) (λ _ _ _ _ _ _=>dr (aw (aL bJ a9 (bZ) (aL aei aaS (aE aC aF (bZ) (dvQ 0)) (aL bJ a9 (af) (aL gf eg (dvQ 0) (af))))) (aw (aL bJ a9 (af) (eC O1 hr.m rfl G1.mg G1.fn.kp G1.bd (aw (dvQ 1) (aw (af) (aa))))) (aa))))) <|
  ab (av (i:=4) dQ.nd rfl (Or.inl rfl) (qG (eC O2 hr.m rfl G2.mg G2.fn.kp G2.bd (aw (dvQ 1) (aw (af) (aw (af) (aa))))) (fB (aw (dr (aw (bZ) (aw (bZ) (aw (af) (aa))))) (aa))))) <|
  ab (av (i:=5) dQ.nd rfl (Or.inr rfl) (zS (rG rfl) xM rfl E.b_dict ym (aw (eC O16 hr.m rfl G16.mg G16.fn.kp G16.bd (aw (c9 (zS dG fX rfl E.b_list hZ (aw (dvQ 3) (aa)))) (aw (c9 (zS dG fX rfl E.b_list hZ (aw (dvQ 4) (aa)))) (aa)))) (aa)))) <|
  ab (av (i:=6) dQ.nd rfl (Or.inr rfl) (eC O17 hr.m rfl G17.mg G17.fn.kp G17.bd (aw (fJ rfl (kU (own:=(["_law_wish", "_law_kind", "_law_copies"]:List Str)) (fr:=[5]) rfl) (aB (dvQ 4)) (λ _ _ _ _ _ _=>bT rfl (ar (ai (i:=0) wL rfl (Or.inl rfl)) (ar (ai (i:=1) wL rfl (Or.inl rfl)) (ar (ai (i:=2) wL rfl (Or.inl rfl)) (br))))) (λ _ _ _ _ _ _=>bU) (λ _ _ _ _ _ _=>dr (aw (dvQ 0) (aw (dvQ 1) (aw (dy (fh hr) (dvQ 3) (dvQ 0)) (aa)))))) (aa)))) <|
  ab (av (i:=7) dQ.nd rfl (Or.inr rfl) (c9 (eC O18 hr.m rfl G18.mg G18.fn.kp G18.bd (aw (dvQ 1) (aw (dvQ 3) (aw (dvQ 6) (aa))))))) <|
  ab (av (i:=8) dQ.nd rfl (Or.inl rfl) (c9 (fc (jg rfl) tR rfl E.b_sorted kT (aw (dvQ 6) (aa))))) <|
  ab (av (i:=9) dQ.nd rfl (Or.inl rfl) (eC O1 hr.m rfl G1.mg G1.fn.kp G1.bd (aw (dvQ 1) (aw (fc aX cD rfl E.b_len cw (aw (dvQ 8) (aa))) (aa))))) <|
  ab (bF PassesOwn.never rfl (aB (qG (gb (dvQ 8) (fZ (dvQ 9)) (fW)) (gb (dvQ 8) (fW) (fZ (dvQ 9))))) (ai (i:=10) dQ.nd rfl (Or.inr rfl))
   (ah (bF PassesOwn.never rfl (fA rfl E.b_range (aw (aL tL mx (dy (fh hr) (dvQ 6) (dvQ 10)) (fc aX cD rfl E.b_len cw (aw (fJ rfl (kU (own:=(["_law_row"]:List Str)) (fr:=[10]) rfl) (aB (dvQ 7)) (λ _ _ _ _ _ _=>ai (i:=0) afz rfl (Or.inl rfl)) (λ _ _ _ _ _ _=>bL (ax (dH hr.h) cu (aE aC aF (dvQ 0) (af)) (dvQ 1))) (λ _ _ _ _ _ _=>dvQ 0)) (aa)))) (aa))) (ai (i:=11) dQ.nd rfl (Or.inl rfl))
    (ab (av (i:=7) dQ.nd rfl (Or.inr rfl) (eC O25 hr.m rfl G25.mg G25.fn.kp G25.bd (aw (dvQ 3) (aw (dvQ 7) (aw (dvQ 10) (aw (dvQ 1) (aa))))))) <|
    ah (aZ (ax wg qZ (dvQ 7) (eh))
     (ah (aA (lM)))
     (aG)))))) <|
  ab (bF PassesOwn.never rfl (aB (dvQ 3)) (bT rfl (ar (ai (i:=12) dQ.nd rfl (Or.inr rfl)) (ar (ai (i:=13) dQ.nd rfl (Or.inl rfl)) (br))))
   (ab (cA (i:=14) dQ.nd rfl (Or.inl rfl) rfl (kU (own:=(["_law_row"]:List Str)) (fr:=[12]) rfl) (aB (dvQ 7)) (λ _ _ _ _ _ _=>ai (i:=0) afN rfl (Or.inl rfl)) (λ _ _ _ _ _ _=>bL (ax (dH hr.h) cu (aE aC aF (dvQ 0) (af)) (dvQ 1))) (λ _ _ _ _ _ _=>aE aC aF (dvQ 0) (af))) <|
   ah (aZ (fK (dq (ax vp oB (fc aX cD rfl E.b_len cw (aw (dvQ 14) (aa))) (dvQ 13)) (eG (ax om je (tW rfl rfl E.b_len rfl E.b_set (dvQ 14)) (fc aX cD rfl E.b_len cw (aw (dvQ 14) (aa)))))))
    (ah (aA (lM)))
    (aG)))) <|
  ah (aA (fc (pB rfl) abD rfl E.b_all abE (aw (yp (yN rfl (afg (own:=(["_law_kind"]:List Str)) (fr:=[7,6]) rfl) (iU (dvQ 6)) (λ _ _ _ _ _ _=>ai (i:=0) agP rfl (Or.inr rfl)) (λ _ _ _ _ _ _=>bU) (λ _ _ _ _ _ _=>kl (dH hr.h) cu (fc aX cD rfl E.b_len cw (aw (fJ rfl (kU (own:=(["_law_row"]:List Str)) (fr:=[0]) rfl) (aB (dvQ 1)) (λ _ _ _ _ _ _=>ai (i:=0) ae9 rfl (Or.inl rfl)) (λ _ _ _ _ _ _=>bL (ax (dH hr.h) cu (aE aC aF (dvQ 0) (af)) (dvQ 1))) (λ _ _ _ _ _ _=>dvQ 0)) (aa))) (dy (fh hr) (dvQ 2) (dvQ 0))))) (aa))))
theorem all_mk{l:W.OpenLaw}{w:World}{K:FG}{h:Heap}{mg:Str->Option Value}{fa:Addr}(X:K.In h)(G:h.Ns mainGlobals mg)(hfa:mg "law" = some (.ref fa))
  (p0:PFn K "_law_bag" nX)
  (p1:PFn K "_law_take" jC)
  (p2:PFn K "_law_asked" ie)
  (p3:PFn K "is_word" iu)
  (p4:PFn K "is_whole" gv)
  (p5:PFn K "is_within" fj)
  (p6:PFn K "is_machine_row" cH)
  {f7:Addr}{oc7 kV7 dc7 pm7 cd7 ct7:Value}{od7 an7:Option Addr}{sl7:Array (Option Value)}
  {T_refuse_berths:Addr}{tk7:Tok}{n_refuse_berths:Nat}{oc2_refuse_berths:Value}{od2_refuse_berths:Option Addr}{sl2_refuse_berths:Array (Option Value)}
  (a7:W.nsIn K mainGlobals "refuse_berths" = some (some (.ref f7)))(l7:K.lookup f7=some ⟨oc7,od7,.func (W.fnOf "refuse_berths" "refuse_berths" (bM bA) (bu bA) (ao bA) (.ref T_refuse_berths) kV7 dc7 pm7 an7 cd7 ct7),sl7⟩)(c7:W.codeIn K cd7 "refuse_berths" = true)(k7:W.keepIn K (.ref f7)=true)
  (dt7:K.lookup T_refuse_berths=some ⟨oc2_refuse_berths,od2_refuse_berths,.seq #[.int 0 tk7] n_refuse_berths,sl2_refuse_berths⟩)
  (p8:PFn K "is_asked_row" dA)
  (p9:PFn K "refuse_asked" dt)
  (p10:PFn K "refuse_wrong" du)
  (p11:PFn K "lacking" iG)
  (p12:PFn K "with_more" fo)
  (p13:PFn K "greatest_run" dv)
  (p14:PFn K "running" ip)
  (p15:PFn K "rooms_of" gA)
  (p16:PFn K "runs_of" iN)
  (p17:PFn K "_law_demands" fg)
  (p18:PFn K "_law_lying" ig)
  (p19:PFn K "_law_free" jD)
  (p20:PFn K "_law_has" nO)
  (p21:PFn K "one_further" dR)
  (p22:PFn K "way_from" gy)
  {f23:Addr}{oc23 kV23 dc23 pm23 cd23 ct23:Value}{od23 an23:Option Addr}{sl23:Array (Option Value)}
  (a23:W.nsIn K mainGlobals "way_for" = some (some (.ref f23)))(l23:K.lookup f23=some ⟨oc23,od23,.func (W.fnOf "way_for" "way_for" (bM d9) (bu d9) (ao d9) .none kV23 dc23 pm23 an23 cd23 ct23),sl23⟩)(c23:W.codeIn K cd23 "way_for" = true)(k23:W.keepIn K (.ref f23)=true)
  (cc23:cd23=.ref dB)
  (p24:PFn K "_law_carried" ff)
  (p25:PFn K "_law_put" mR)
  {f26:Addr}{oc26 kV26 dc26 pm26 cd26 ct26:Value}{od26 an26:Option Addr}{sl26:Array (Option Value)}
  (a26:W.nsIn K mainGlobals "law" = some (some (.ref f26)))(l26:K.lookup f26=some ⟨oc26,od26,.func (W.fnOf "law" "law" (bM mr) (bu mr) (ao mr) .none kV26 dc26 pm26 an26 cd26 ct26),sl26⟩)(c26:W.codeIn K cd26 "law" = true)(k26:W.keepIn K (.ref f26)=true)
  (xf_h_way_for:W.codeHdIn K dB aU=true)
  (b_abs:W.nsIn K mainGlobals "abs" = some none)
  (b_all:W.nsIn K mainGlobals "all" = some none)
  (b_bool:W.nsIn K mainGlobals "bool" = some none)
  (b_dict:W.nsIn K mainGlobals "dict" = some none)
  (b_enumerate:W.nsIn K mainGlobals "enumerate" = some none)
  (b_int:W.nsIn K mainGlobals "int" = some none)
  (b_isinstance:W.nsIn K mainGlobals "isinstance" = some none)
  (b_len:W.nsIn K mainGlobals "len" = some none)
  (b_list:W.nsIn K mainGlobals "list" = some none)
  (b_max:W.nsIn K mainGlobals "max" = some none)
  (b_min:W.nsIn K mainGlobals "min" = some none)
  (b_range:W.nsIn K mainGlobals "range" = some none)
  (b_set:W.nsIn K mainGlobals "set" = some none)
  (b_sorted:W.nsIn K mainGlobals "sorted" = some none)
  (b_str:W.nsIn K mainGlobals "str" = some none)
  (b_sum:W.nsIn K mainGlobals "sum" = some none)
  (b_tuple:W.nsIn K mainGlobals "tuple" = some none)
  {t_LONGEST_WORD:Tok}(g_LONGEST_WORD:W.nsIn K mainGlobals "LONGEST_WORD" = some (some (.int 8 t_LONGEST_WORD)))
  {t_MOST_BERTHS:Tok}(g_MOST_BERTHS:W.nsIn K mainGlobals "MOST_BERTHS" = some (some (.int 6 t_MOST_BERTHS)))
  {t_MOST_COPIES:Tok}(g_MOST_COPIES:W.nsIn K mainGlobals "MOST_COPIES" = some (some (.int 6 t_MOST_COPIES)))
  {t_MOST_ROWS:Tok}(g_MOST_ROWS:W.nsIn K mainGlobals "MOST_ROWS" = some (some (.int 8 t_MOST_ROWS))) :
  ∃ fq:FuncData,(∀ (s:Shared) (v:Value),BindsTo s fq ⟨[v],[]⟩ [("_law_script",v)])/\∀ base:Heap,K.In base->base.Ns mainGlobals mg->eB l.prog w K mg base CX0 7 fa fq q_0 (eW K jL):=by
 have e:=hfa.symm.trans (W.mg_of X G a26);cases e;have E:Env K mg:=⟨xf_h_way_for,W.mg_none_of X G b_abs,W.mg_none_of X G b_all,W.mg_none_of X G b_bool,W.mg_none_of X G b_dict,W.mg_none_of X G b_enumerate,W.mg_none_of X G b_int,W.mg_none_of X G b_isinstance,W.mg_none_of X G b_len,W.mg_none_of X G b_list,W.mg_none_of X G b_max,W.mg_none_of X G b_min,W.mg_none_of X G b_range,W.mg_none_of X G b_set,W.mg_none_of X G b_sorted,W.mg_none_of X G b_str,W.mg_none_of X G b_sum,W.mg_none_of X G b_tuple,⟨_,W.mg_of X G g_LONGEST_WORD⟩,⟨_,W.mg_of X G g_MOST_BERTHS⟩,⟨_,W.mg_of X G g_MOST_COPIES⟩,⟨_,W.mg_of X G g_MOST_ROWS⟩⟩;obtain⟨_,_,G0⟩:=p0.fn (ps:=q_0) X G (by walk_at "b1");obtain⟨_,_,G1⟩:=p1.fn (ps:=q_1) X G (by walk_at "b2");obtain⟨_,_,G2⟩:=p2.fn (ps:=q_2) X G (by walk_at "b3");obtain⟨_,_,G3⟩:=p3.fn (ps:=q_3) X G (by walk_at "b1");obtain⟨_,_,G4⟩:=p4.fn (ps:=q_3) X G (by walk_at "b1");obtain⟨_,_,G5⟩:=p5.fn (ps:=q_4) X G (by walk_at "b3");obtain⟨_,_,G6⟩:=p6.fn (ps:=q_5) X G (by walk_at "b2");have G7:FnD K mg "refuse_berths" bA aew 0 _ _:=afE X G a7 l7 c7 k7 dt7 (λ us hl=>match us,hl with | [_],_=>⟨_,rfl,rfl⟩)
 obtain⟨_,_,G8⟩:=p8.fn (ps:=q_6) X G (by walk_at "b1");obtain⟨_,_,G9⟩:=p9.fn (ps:=q_7) X G (by walk_at "b1");obtain⟨_,_,G10⟩:=p10.fn (ps:=q_8) X G (by walk_at "b2");obtain⟨_,_,G11⟩:=p11.fn (ps:=q_9) X G (by walk_at "b2");obtain⟨_,_,G12⟩:=p12.fn (ps:=aex) X G (by walk_at "b3");obtain⟨_,_,G13⟩:=p13.fn (ps:=aeC) X G (by walk_at "b4");obtain⟨_,_,G14⟩:=p14.fn (ps:=aeM) X G (by walk_at "b2");obtain⟨_,_,G15⟩:=p15.fn (ps:=aeE) X G (by walk_at "b1");obtain⟨_,_,G16⟩:=p16.fn (ps:=q_8) X G (by walk_at "b2");obtain⟨_,_,G17⟩:=p17.fn (ps:=aev) X G (by walk_at "b1");obtain⟨_,_,G18⟩:=p18.fn (ps:=aeA) X G (by walk_at "b3");obtain⟨_,_,G19⟩:=p19.fn (ps:=aeG) X G (by walk_at "b2");obtain⟨_,_,G20⟩:=p20.fn (ps:=aeK) X G (by walk_at "b3");obtain⟨_,_,G21⟩:=p21.fn (ps:=aez) X G (by walk_at "b4");obtain⟨_,_,G22⟩:=p22.fn (ps:=aey) X G (by walk_at "b4");have G23:Fn K mg "way_for" d9 aeI _ _:=adx X G a23 l23 c23 k23 (λ _ _ _ _ _ _ us hl=>by obtain⟨_,_,_,rfl⟩:=D.ac7 hl;rfl);obtain⟨_,_,G24⟩:=p24.fn (ps:=aeJ) X G (by walk_at "b3");obtain⟨_,_,G25⟩:=p25.fn (ps:=aeD) X G (by walk_at "b4");have G26:Fn K mg "law" mr q_0 _ _:=adx X G a26 l26 c26 k26 (λ _ _ _ _ _ _ us hl=>by obtain⟨_,rfl⟩:=D.acy hl;rfl);refine⟨W.fnOf "law" "law" (bM mr) (bu mr) (ao mr) .none kV26 dc26 pm26 an26 cd26 ct26,λ s v=>.of_eq rfl,λ base _ _=>?_⟩;have z0:vo l.prog w K mg base:=⟨_,_,G0,aab E G0⟩;have z1:iP l.prog w K mg base:=⟨_,_,G1,vw E G1⟩;have z2:n5 l.prog w K mg base:=⟨_,_,G2,tZ E G2 z1⟩;have z3:ko l.prog w K mg base:=⟨_,_,G3,tV E G3⟩;have z4:lR l.prog w K mg base:=⟨_,_,G4,rH E G4⟩;have z5:hV l.prog w K mg base:=⟨_,_,G5,pj E G5 z4⟩;have z6:fG l.prog w K mg base:=⟨_,_,G6,iW E G6 z3 z5⟩;have O7:=jv (P:=l.prog) (w:=w) (base:=base) E G7 z6;have z8:gO l.prog w K mg base:=⟨_,_,G8,j5 E G8 z3 z5⟩;have z9:gP l.prog w K mg base:=⟨_,_,G9,j7 E G9 z8⟩;have z10:gM l.prog w K mg base:=⟨_,_,G10,kQ E G10 G7 O7 z9⟩;have z11:pR l.prog w K mg base:=⟨_,_,G11,uP E G11⟩;have z12:gZ l.prog w K mg base:=⟨_,_,G12,pT E G12⟩;have z13:gJ l.prog w K mg base:=⟨_,_,G13,kO E G13 z11 z12⟩;have z14:oH l.prog w K mg base:=⟨_,_,G14,ux E G14 z13 z12⟩;have z15:lL l.prog w K mg base:=⟨_,_,G15,rR E G15⟩;have z16:oA l.prog w K mg base:=⟨_,_,G16,uI E G16 z10 z14 z15⟩;have z17:j4 l.prog w K mg base:=⟨_,_,G17,oj E G17⟩;have z18:pE l.prog w K mg base:=⟨_,_,G18,uB E G18 z1⟩;have z19:nN l.prog w K mg base:=⟨_,_,G19,u9 E G19⟩;have z20:rD l.prog w K mg base:=⟨_,_,G20,aaw E G20⟩;have z21:iF l.prog w K mg base:=⟨_,_,G21,lr E G21⟩;have z22:ma l.prog w K mg base:=⟨_,_,G22,rL E G22 z21⟩;have z23:pH l.prog w K mg base:=⟨_,_,G23,uQ E G23 cc23 z22⟩;have z24:jM l.prog w K mg base:=⟨_,_,G24,pS E G24 z19 z20⟩;have z25:xF l.prog w K mg base:=⟨_,_,G25,zR E G25 z19 z20 z23 z24 z1⟩;have O26:=ae7 (P:=l.prog) (w:=w) (base:=base) E G26 z0 z1 z2 z16 z17 z18 z25;exact O26
end
theorem walk{l:W.OpenLaw}{q:Program}{loose:List Str}{XP:(Str->Option Value)->Heap->Prop}{YP:World->Heap->Prop}{d:DefRec}{K:Params->FG}(hq:PyProof.Rows.importsNone q=true)(hn:l.most=some 63)(hdf:d.params.defaults=[])
  (hT:∀ w:World,W.codeHdIn (K w.params) dB aU=true/\(K w.params).lookup aU=none)(hY:∀ (w:World) (h:Heap),YP w h->(K w.params).In h/\∀ T∈[aU],h.get? T=some {cls:=.none,data:=.fields #[]})
  (F:∀ (w:World) (mg:Str->Option Value) (fa:Addr) (h:Heap),(K w.params).In h->h.Ns mainGlobals mg->mg d.name=some (.ref fa) ->
   ∃ fq:FuncData,(∀ (s:Shared) (u:Value),BindsTo s fq ⟨[u],[]⟩ [("_law_script",u)])/\∀ base:Heap,(K w.params).In base->base.Ns mainGlobals mg->eB l.prog w (K w.params) mg base CX0 7 fa fq q_0 (eW (K w.params) jL)) :
  W.WalkO q loose XP YP l.row.toRowW d [] (λ f vs=>PySem.call f vs):=
 L2.aal (n:=63) (k:=7) (x:= "_law_script") (CX:=λ _=>CX0) (sp:=λ w=>eW (K w.params) jL) hq hn (by decide) hdf ⟨rfl,rfl,by decide,by decide⟩ [aU] (λ w T h=>by rw[List.mem_singleton.mp h];exact⟨⟨_,(hT w).1⟩,(hT w).2⟩) hY F (λ _ H a ns hl hO hB hS=>D.ub (q:=gj) (lpos:=⟨13,25,13,55⟩) hl hO hB hS zh) λ _ _ _ _ _ z=>z
end K37
end
namespace PySem.W.Fast
def tw10899422090708940478:=0
def tw4415612065553049052:=0
def tw431971215199940091:=0
def tw4725578705158195545:=0
def tw3502578422111503481:=0
def tw3106423554318526037:=0
def tw15694142901370780558:=0
def tw4499083151953512940:=0
def tw7482306718235413993:=0
def tw6611113868035680068:=0
def tw5961936287077663114:=0
end PySem.W.Fast
open PySem PySem.W PyProof.Rows
local macro_rules | `(tactic| walk_at "kf")=>`(tactic| (refine' D.afB ?a ?l ?c ?k; (case a=>k_is); (case l=>k_is); (case c=>k_is); (case k=>k_is)))
local macro_rules | `(tactic| walk_at "km")=>`(tactic| (refine' D.ag1 ?a ?i ?l ?c ?k; (case a=>k_is); (case i=>k_is); (case l=>k_is); (case c=>k_is); (case k=>k_is)))
local macro_rules | `(tactic| walk_at "kx")=>`(tactic| (refine' D.pxi_mk ?a ?i ?l ?c ?k ?m ?t ?n; (case a=>k_is); (case i=>k_is); (case l=>k_is); (case c=>k_is); (case k=>k_is); (case m=>kernel_rfl); (case t=>k_is); (case n=>k_is)))
local macro_rules | `(tactic| walk_at "ke")=>`(tactic| (refine' ⟨?a,?b,?c,?d,?e⟩; (case a=>kernel_rfl); (case b=>k_is); (case c=>k_is); (case d=>k_is); (case e=>k_is)))
set_option maxRecDepth 100000
set_option maxHeartbeats 0
theorem PySem.Challenge.cw_placedworks_k37_whole_ways_carried_out_holds : PySem.Challenge.rw_placedworks_k37_whole_ways_carried_out.Holds := by
 w_on;o_law;k_head; (case hw=>w_witness2)
 k_fill
 refine K37.walk (l:=PySem.Challenge.rw_placedworks_k37_whole_ways_carried_out) ?Q rfl rfl ?T (λ w h Y=>⟨PySem.W.km_in_of Y,PySem.W.km_tabs_of Y⟩) ?F
 case Q=>kernel_rfl
 case T=>(intro w;exact⟨by kernel_rfl,by kernel_rfl⟩)
 case F =>
  intro w mg fa h KX G hmg;refine' K37.all_mk KX G hmg ?v0 ?v1 ?v2 ?v3 ?v4 ?v5 ?v6 ?v7 ?v8 ?v9 ?v10 ?v11 ?v12 ?v13 ?v14 ?v15 ?v16 ?v17 ?v18 ?v19 ?v20 ?v21 ?v22 ?v23 ?v24 ?v25 ?v26 ?v27 ?v28 ?v29 ?v30 ?v31 ?v32 ?v33 ?v34 ?v35 ?v36 ?v37 ?v38 ?v39 ?v40 ?v41 ?v42 ?v43 ?v44 ?v45 ?v46 ?v47 ?v48 ?v49 ?v50 ?v51 ?v52 ?v53 ?v54 ?v55 ?v56 ?v57 ?v58 ?v59
  (case v0 | v1 | v2 | v3 | v4 | v5 | v6 | v12 | v13 | v14 | v15 | v16 | v17 | v18 | v19 | v20 | v21 | v22 | v23 | v24 | v25 | v26 | v32 | v33=>walk_at "kf")
  (case v7 | v8 | v9 | v10 | v11 | v27 | v28 | v29 | v30 | v34 | v35 | v36 | v37 | v39 | v40 | v41 | v42 | v43 | v44 | v45 | v46 | v47 | v48 | v49 | v50 | v51 | v52 | v53 | v54 | v55 | v56 | v57 | v58 | v59=>k_is)
  (case v31=>exact rfl)
  (case v38=>kernel_rfl)
