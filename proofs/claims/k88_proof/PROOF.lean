import PyProof.Rows.All
import Wide.All
import OpenK.AllK
import Wide.FinOn
import Lean
import PyProof.EqAt
import PyProof.EqKinds
import PyProof.TupleCall
import KE.KSortTup
import KE.KDictSum
import PyProof.Rows.Range3
import PyProof.Rows.SortRev
import PyProof.StrBlock2
import PyProof.ZipIter
import PyProof.Rows.ZipGen
import PyProof.NeKinds
import PyProof.DictCompW
import PyProof.DictWalks
import PyProof.AttrMissHeap
import PyProof.WalksS
import KE.KDictOf
import KE.KListMore
import KE.KEqDict
import PyProof.StationsW
import PyProof.InstStoreFacts
import PyProof.ExcBaseAll.ValueError
import PyProof.ExcClass2
import PyProof.RulesAs
import KE.KTryMore
import PyProof.ExcArgs
import KE.KIsAll
import OpenK.KOwn
import PyProof.P3In
import PyProof.DictUpdate
import PyProof.MeetsSeq2
import KE.KIntText
import KE.KRevSl
import PyProof.Rows.StrLawsPart
import PyProof.EnumMake
import PyProof.Draws
import PyProof.ListRange
import PyProof.TupleOfStr
import KE.KLam
import KE.KNestM
import KE.KMinKey
import PySem.Challenge.RW_placedworks_k88_whole_door_by_a_plain_mo
set_option genSizeOf false
set_option genSizeOfSpec false
set_option bootstrap.genMatcherCode false
set_option Elab.async false
set_option linter.all false
set_option maxRecDepth 100000
section
open PySem PySem.Spec PyProof.Rows
namespace L2
abbrev Key:=Sum Int Str
def tJ:Key->Value->Bool
 | .inl k,v=>Value.isInt k v
 | .inr x,v=>Value.isStrOf x v
def ai5(w:World):Key->Int
 | .inl k=>hashInt k
 | .inr x=>hashStr w x
theorem bR:∀ {k:Key} {v:Value},tJ k v=true->(∃ i t,k=Sum.inl i/\v=Value.int i t)\/(∃ x t,k=Sum.inr x/\v=Value.str x t)
 | .inl i,v,h=>by obtain⟨t,e⟩:=Value.isInt_shape (k:=i) (v:=v) h;exact .inl ⟨i,t,rfl,e⟩
 | .inr x,v,h=>by obtain⟨t,e⟩:=Value.isStrOf_shape (x:=x) (v:=v) h;exact .inr ⟨x,t,rfl,e⟩
theorem yI(i:Int)(t:Tok):tJ (.inl i) (.int i t)=true:=by simp[tJ,Value.isInt]
theorem xi(x:Str)(t:Tok):tJ (.inr x) (.str x t)=true:=by simp[tJ,Value.isStrOf]
theorem ags(a b:Int):decide ((Sum.inl a:Key)=Sum.inl b)=(a==b):=by
 by_cases e:a=b
 ·subst e;simp
 ·have h:¬ (Sum.inl a:Key)=Sum.inl b:=λ q=>e (Sum.inl.inj q);rw[decide_eq_false h];exact(beq_eq_false_iff_ne.mpr e).symm
theorem ae7(a b:Str):decide ((Sum.inr a:Key)=Sum.inr b)=decide (a=b):=by
 by_cases e:a=b
 ·subst e;simp
 ·have h:¬ (Sum.inr a:Key)=Sum.inr b:=λ q=>e (Sum.inr.inj q);rw[decide_eq_false h,decide_eq_false e]
theorem afE(a:Int)(b:Str):decide ((Sum.inl a:Key)=Sum.inr b)=false:=decide_eq_false (λ q=>nomatch q)
theorem ae3(a:Str)(b:Int):decide ((Sum.inr a:Key)=Sum.inl b)=false:=decide_eq_false (λ q=>nomatch q)
def aW(prog:Program)(w:World):PySem.KeyKind prog w Key where
 is:=tJ
 hash:=ai5 w
 inj:=λ v a b ha hb=>by
  rcases bR ha with ⟨i,t,rfl,rfl⟩ | ⟨x,t,rfl,rfl⟩
  ·rcases bR hb with ⟨j,u,rfl,e⟩ | ⟨y,u,rfl,e⟩
   ·injection e with e1 _;rw[e1]
   ·exact nomatch e
  ·rcases bR hb with ⟨j,u,rfl,e⟩ | ⟨y,u,rfl,e⟩
   ·exact nomatch e
   ·injection e with e1 _;rw[e1]
 byValue:=λ k v h=>by
  rcases bR h with ⟨i,t,rfl,rfl⟩ | ⟨x,t,rfl,rfl⟩<;>rfl
 pyHash:=λ hv h=>by
  rcases bR hv with ⟨i,t,rfl,rfl⟩ | ⟨x,t,rfl,rfl⟩
  ·exact wpAny_pyHash_int h
  ·exact wpAny_pyHash_str h
 eqBool:=λ hu hv h=>by
  rcases bR hu with ⟨i,t,rfl,rfl⟩ | ⟨x,t,rfl,rfl⟩
  ·rcases bR hv with ⟨j,u,rfl,rfl⟩ | ⟨y,u,rfl,rfl⟩
   ·rw[ags] at h;exact wpAny_eqBool_int h
   ·rw[afE] at h;exact SeqAt.EqAt.int_str i t y u _ _ _ _ h
  ·rcases bR hv with ⟨j,u,rfl,rfl⟩ | ⟨y,u,rfl,rfl⟩
   ·rw[ae3] at h;exact SeqAt.EqAt.str_int x t j u _ _ _ _ h
   ·rw[ae7] at h;exact wpAny_eqBool_str h
 «strs»:=λ k x t v h=>by
  rcases bR h with ⟨i,u,rfl,e⟩ | ⟨y,u,rfl,e⟩
  ·exact nomatch e
  ·injection e with e1 _
   subst e1;cases v<;>rfl
theorem wu(prog:Program)(w:World)(k:Key)(v:Value):(aW prog w).is k v=tJ k v:=rfl
theorem tL(prog:Program)(w:World)(i:Int)(t:Tok):(aW prog w).is (.inl i) (.int i t)=true:=yI i t
theorem tQ(prog:Program)(w:World)(x:Str)(t:Tok):(aW prog w).is (.inr x) (.str x t)=true:=xi x t
inductive V where
 | non | bl (b:Bool) | int (i:Int) | str (x:Str) | byt (b:Array UInt8) | flt (b:UInt64) | ref (a:Addr) | ty (n:String)
 deriving DecidableEq
def RelV:V->Value->Prop
 | .non,u=>u=Value.none
 | .bl b,u=>u=Value.bool b
 | .int i,u=>∃ t,u=Value.int i t
 | .str x,u=>∃ t,u=Value.str x t
 | .byt b,u=>∃ t,u=Value.bytes b t
 | .flt b,u=>∃ t,u=Value.float b t
 | .ref a,u=>u=Value.ref a
 | .ty n,u=>u=Value.type n
abbrev Vals:List V->List Value->Prop:=Paired RelV
theorem Vals.length{xs:List V}{us:List Value}(r:Vals xs us):xs.length=us.length:=Paired.length r
theorem Vals.get:∀ {xs:List V} {us:List Value} {i:Nat} {x:V},Vals xs us->xs[i]? =some x->∃ u,us[i]? =some u/\RelV x u
 | _,_,_,_,.nil,e=>by simp at e
 | _,_,0,_,.cons r _,e=>by simp at e;subst e;exact⟨_,rfl,r⟩
 | _,_,i+1,x,.cons _ t,e=>by obtain⟨u,h1,h2⟩:=Vals.get (i:=i) (x:=x) t (by simpa using e);exact⟨u,by simpa using h1,h2⟩
theorem Vals.set{x:V}{u:Value}(r:RelV x u):∀ {xs:List V} {us:List Value} (i:Nat),Vals xs us->Vals (xs.set i x) (us.set i u)
 | _,_,_,.nil=>.nil
 | _,_,0,.cons _ t=>.cons r t
 | _,_,i+1,.cons q t=>.cons q (Vals.set r i t)
theorem Vals.append:∀ {xs ys:List V} {us ws:List Value},Vals xs us->Vals ys ws->Vals (xs++ys) (us++ws)
 | _,_,_,_,.nil,s=>s
 | _,_,_,_,.cons r t,s=>.cons r (Vals.append t s)
theorem Vals.take:∀ {xs:List V} {us:List Value} (n:Nat),Vals xs us->Vals (xs.take n) (us.take n)
 | _,_,0,_=>.nil
 | _,_,_+1,.nil=>.nil
 | _,_,n+1,.cons r t=>.cons r (Vals.take n t)
theorem Vals.drop:∀ {xs:List V} {us:List Value} (n:Nat),Vals xs us->Vals (xs.drop n) (us.drop n)
 | _,_,0,r=>r
 | _,_,_+1,.nil=>.nil
 | _,_,n+1,.cons _ t=>Vals.drop n t
def rn:Option V->Option Value->Prop
 | some v,some u=>RelV v u
 | none,none=>True
 | _,_=>False
def KV{κ:Type}:List (κ×V)->List (κ×Value)->Prop:=Paired λ(p:κ×V) (q:κ×Value)=>p.1=q.1/\RelV p.2 q.2
def kV:Key->V
 | .inl i=>.int i
 | .inr x=>.str x
inductive HO where
 | lst (xs:List V)
 | tup (xs:List V)
 | dK (kvs:List (Key×V)) | dT (kvs:List (List Key×V))
 | set (S:Int->Bool) (n:Nat)
 | ins (C dx:Addr) (fs:List (Str×V))
 | own (x:Addr)
 | xd (fs:List (Str×V))
 | met (f x:Addr)
 | rng (lo hi:Int)
 | frz (o:Obj) (u:HO)
 | tbl (ps:Array Value)
 | ext (φ:Heap->Prop)
abbrev Hp:=Addr->Option HO
def upd(H:Hp)(a:Addr)(o:HO):Hp:=λ b=>if b=a then some o else H b
theorem ar{H:Hp}{a:Addr}{o:HO}:upd H a o a=some o:=by unfold upd;rw[if_pos rfl]
theorem aj{H:Hp}{a b:Addr}{o:HO}(h:b≠a):upd H a o b=H b:=by unfold upd;rw[if_neg h]
theorem aef{H:Hp}{a:Addr}{o u:HO}:upd (upd H a o) a u=upd H a u:=by
 funext b;unfold upd;split<;>rfl
theorem vI{H:Hp}{a b:Addr}{o u:HO}(h:H a=some o)(h':H b=some u)(d:o≠u):a≠b:=by intro e;subst e;rw[h] at h';exact d (Option.some.inj h')
theorem aV{H:Hp}{a b:Addr}{o:HO}(h:H a=some o)(h':H b=none):a≠b:=by intro e;subst e;rw[h] at h';cases h'
def abR(h:Heap)(a:Addr)(items:Array Value):Prop:=∃ o,h.get? a=some o/\o.cls=.type "tuple" /\ o.dict=none/\∃ n,o.data=.seq items n
theorem abR.tup{h:Heap}{a:Addr}{items:Array Value}(x:abR h a items):IsTup h a items:=let ⟨o,h1,h2,_,h3⟩:=x; ⟨o,h1,h2,h3⟩
theorem abR.new(h:Heap)(items:Array Value):abR (h.push {cls:=.type "tuple",data:=.seq items}) h.objs.size items:=⟨_,Heap.get?_push_size _ rfl,rfl,rfl,_,rfl⟩
section
variable (P:Program)(w:World)
def cW(H:Hp)(h:Heap)(a:Addr):HO->Prop
 | .lst xs=>xs.length<=sizeLine/\∃ (its:List Value) (n:Nat),Vals xs its/\h.get? a=some {cls:=.type "list",data:=.seq its.toArray n}
 | .tup xs=>xs.length<=sizeLine/\∃ its:List Value,Vals xs its/\abR h a its.toArray
 | .dK kvs=>kvs.length<=sizeLine/\(a==sysModules)=false/\∃ vs,KV kvs vs/\h.DictOf (aW P w) a vs
 | .dT kvs=>kvs.length<=sizeLine/\(a==sysModules)=false/\∃ xs:List (List Key×Addr×Value),
   Paired (λ(p:List Key×V) (q:List Key×Addr×Value)=>p.1=q.1/\H q.2.1=some (.tup (p.1.map kV))/\RelV p.2 q.2.2) kvs xs /\
   ∃ o es ep,h.get? a=some o/\o.ExactDict/\o.data=.dict es ep/\es.toList=xs.map (entryOfKey (tupleKind (aW P w)))/\(xs.map (·.1)).Nodup
 | .set S n=>h.SetOf (intKind P w) a S n
 | .ins C dx fs=>H dx=some (.own a)/\fs.length<=1000/\dx≠a/\h.get? a=some (PySem.W.instObj C dx) /\
   ∃ mA,h.Ns1 dx mA/\(∀ f,rn (fs.lookup f) (mA f))/\PySem.Within mA (fs.map (·.1))
 | .own _=>∃ o,h.get? a=some o
 | .xd fs=>∃ mA,h.Ns1 a mA/\∀ f,rn (fs.lookup f) (mA f)
 | .rng lo hi=>∃ t u v,h.get? a=some {cls:=.type "range",data:=.fields #[.int lo t,.int hi u,.int 1 v]}
 | .frz o u=>h.get? a=some o/\cW H h a u
 | .tbl ps=>h.get? a=some {cls:=.none,data:=.fields ps}
 | .met f x=>h.get? a=some (PySem.W.methodObj (.ref f) (.ref x))
 | .ext φ=>φ h/\(∃ o,h.get? a=some o)/\∀ h1 h2:Heap,φ h1->(∀ o,h1.get? a=some o->h2.get? a=some o)->φ h2
def HOk(H:Hp)(h:Heap):Prop:=∀ a o,H a=some o->cW P w H h a o
end
section
variable {P:Program}{w:World}{H H':Hp}{h h':Heap}{a:Addr}{o:HO}
theorem cW.lt(x:cW P w H h a o):a<h.objs.size:=by
 cases o with
 | lst xs=>obtain⟨_,_,_,_,e⟩:=x;exact Heap.lt_size e
 | tup xs=>obtain⟨_,_,_,p⟩:=x;exact p.tup.lt
 | dK kvs=>obtain⟨_,_,_,_,o,_,_,e,_⟩:=x;exact Heap.lt_size e
 | dT kvs=>obtain⟨_,_,_,_,o,_,_,e,_⟩:=x;exact Heap.lt_size e
 | set S n=>obtain⟨o,_,_,_,e,_⟩:=x;exact Heap.lt_size e
 | ins C dx fs=>obtain⟨_,_,_,e,_⟩:=x;exact Heap.lt_size e
 | own y=>obtain⟨_,e⟩:=x;exact Heap.lt_size e
 | xd fs=>obtain⟨_,⟨_,_,_,e,_⟩,_⟩:=x;exact Heap.lt_size e
 | rng lo hi=>obtain⟨_,_,_,e⟩:=x;exact Heap.lt_size e
 | frz ob u=>obtain⟨e,_⟩:=x;exact Heap.lt_size e
 | tbl ps=>exact Heap.lt_size (show h.get? a=some _ from x)
 | met f y=>exact Heap.lt_size (show h.get? a=some _ from x)
 | ext φ=>obtain⟨_,⟨_,e⟩,_⟩:=x;exact Heap.lt_size e
theorem Paired.gH{α β:Type}{F G:α->β->Prop}:∀ {l₁:List α} {l₂:List β},Paired F l₁ l₂->(∀ a b,F a b->G a b)->Paired G l₁ l₂
 | _,_,.nil,_=>.nil
 | _,_,.cons r t,f=>.cons (f _ _ r) (Paired.gH t f)
theorem cW.wG(x:cW P w H h a o)(k:∀ b u,(b=a\/H b=some (.own a))->h.get? b=some u->h'.get? b=some u)
  (ho:∀ b,H b=some (.own a)->H' b=some (.own a))(ht:∀ b xs,H b=some (.tup xs)->H' b=some (.tup xs)):cW P w H' h' a o:=by
 induction o with
 | lst xs=>obtain⟨z,its,n,r,e⟩:=x;exact⟨z,its,n,r,k _ _ (.inl rfl) e⟩
 | tup xs=>obtain⟨z,its,r,ob,e,c⟩:=x;exact⟨z,its,r,ob,k _ _ (.inl rfl) e,c⟩
 | dK kvs=>obtain⟨z,y,vs,r,ob,es,ep,e,c⟩:=x;exact⟨z,y,vs,r,ob,es,ep,k _ _ (.inl rfl) e,c⟩
 | dT kvs =>
  obtain⟨z,y,xs,r,ob,es,ep,e,c⟩:=x;exact⟨z,y,xs,Paired.gH r λ p q z=>⟨z.1,ht _ _ z.2.1,z.2.2⟩,ob,es,ep,k _ _ (.inl rfl) e,c⟩
 | set S n=>obtain⟨ob,es,ep,t,e,c⟩:=x;exact⟨ob,es,ep,t,k _ _ (.inl rfl) e,c⟩
 | ins C dx fs =>
  obtain⟨d,z,ne,e,mA,⟨od,es,ep,e2,c⟩,r⟩:=x;exact⟨ho _ d,z,ne,k _ _ (.inl rfl) e,mA,⟨od,es,ep,k _ _ (.inr d) e2,c⟩,r⟩
 | own y=>obtain⟨ob,e⟩:=x;exact⟨ob,k _ _ (.inl rfl) e⟩
 | xd fs=>obtain⟨mA,⟨od,es,ep,e,c⟩,r⟩:=x;exact⟨mA,⟨od,es,ep,k _ _ (.inl rfl) e,c⟩,r⟩
 | rng lo hi=>obtain⟨t,u,v,e⟩:=x;exact⟨t,u,v,k _ _ (.inl rfl) e⟩
 | frz ob u ih=>obtain⟨e,q⟩:=x;exact⟨k _ _ (.inl rfl) e,ih q⟩
 | tbl ps =>
  have e:h.get? a=some {cls:=.none,data:=.fields ps}:=x;show h'.get? a=some {cls:=.none,data:=.fields ps};exact k a _ (.inl rfl) e
 | met f y =>
  have e:h.get? a=some (PySem.W.methodObj (.ref f) (.ref y)):=x;show h'.get? a=some (PySem.W.methodObj (.ref f) (.ref y));exact k a _ (.inl rfl) e
 | ext φ=>obtain⟨p,⟨o,e⟩,st⟩:=x;exact⟨st _ _ p λ o q=>k _ _ (.inl rfl) q,⟨o,k _ _ (.inl rfl) e⟩,st⟩
theorem HOk.lt(x:HOk P w H h)(e:H a=some o):a<h.objs.size:=(x a o e).lt
theorem HOk.fresh(x:HOk P w H h)(e:h.objs.size<=a):H a=none:=by
 cases q:H a with
 | none=>rfl
 | some u=>exact absurd (Nat.lt_of_lt_of_le (x.lt q) e) (Nat.lt_irrefl _)
theorem HOk.kept(x:HOk P w H h)(k:∀ b u,h.get? b=some u->h'.get? b=some u):HOk P w H h':=λ a o e =>
 (x a o e).wG (λ b u _ q=>k b u q) (λ _ q=>q) λ _ _ q=>q
theorem HOk.laid(x:HOk P w H h)(k:∀ b u,h.get? b=some u->h'.get? b=some u)(hp:h.objs.size<=a)(new:cW P w (upd H a o) h' a o):HOk P w (upd H a o) h':=λ b u e=>by
 have hn:=x.fresh hp
 by_cases hb:b=a
 ·subst hb;rw[ar] at e;cases e;exact new
 ·rw[aj hb] at e;exact(x b u e).wG (λ c v _ q=>k c v q) (λ c q=>by rw[aj (aV q hn)];exact q) λ c xs q=>by rw[aj (aV q hn)];exact q
end
def Rd(H:Hp)(a:Addr)(u:HO):Prop:=H a=some u\/∃ o,H a=some (.frz o u)
theorem Rd.ok{P:Program}{w:World}{H:Hp}{h:Heap}{a:Addr}{u:HO}(r:Rd H a u)(x:HOk P w H h):cW P w H h a u:=by
 rcases r with r | ⟨o,r⟩
 ·exact x a u r
 ·obtain⟨_,q⟩:=x a _ r;exact q
def Mut:Option HO->Prop
 | some (.lst _)=>True
 | some (.dK _)=>True
 | some (.dT _)=>True
 | some (.set _ _)=>True
 | some (.ins _ _ _)=>True
 | some (.ext _)=>True
 | _=>False
section
variable {P:Program}{w:World}{H:Hp}{h h':Heap}{x e:Addr}{o':HO}
theorem HOk.write(ok:HOk P w H h)(mu:Mut (H x))(he:e=x\/H e=some (.own x))(k:∀ b u,b≠e->h.get? b=some u->h'.get? b=some u)(heo:∃ u,h'.get? e=some u)
  (new:cW P w (upd H x o') h' x o'):HOk P w (upd H x o') h':=λ b u q=>by
 have nown:∀ c y,H c=some (.own y)->c≠x:=λ c y r z=>by subst z;rw[r] at mu;exact mu
 have ntup:∀ c xs,H c=some (.tup xs)->c≠x:=λ c xs r z=>by subst z;rw[r] at mu;exact mu
 by_cases hb:b=x
 ·subst hb;rw[ar] at q;cases q;exact new
 ·rw[aj hb] at q
  by_cases hbe:b=e
  ·have q':H b=some (.own x):=by
    rcases he with z | z
    ·exact absurd (hbe.trans z) hb
    ·rw[hbe];exact z
   rw[q] at q';cases q';obtain⟨v,hv⟩:=heo;exact⟨v,by rw[hbe];exact hv⟩
  ·refine(ok b u q).wG (λ c v hc r=>k c v ?_ r) (λ c r=>by rw[aj (nown c b r)];exact r) λ c xs r=>by rw[aj (ntup c xs r)];exact r
   rcases hc with rfl | hc
   ·exact hbe
   ·rintro rfl;rcases he with z | z
    ·exact nown c b hc z
    ·rw[hc] at z;cases z;exact hb rfl
end
structure Un(fs ex:List Addr)(H H':Hp)(h h':Heap):Prop where
 keep:∀ b o,h.get? b=some o->H b=none->b ∉ fs->b ∉ ex->h'.get? b=some o
 slot:∀ b o,h.get? b=some o->H b=none->b∈fs->b ∉ ex->∃ sl,h'.get? b=some {o with slots:=sl}
 free:∀ b o,h.get? b=some o->H b=none->b ∉ ex->H' b=none
 there:∀ b o,h.get? b=some o->b ∉ ex->∃ o',h'.get? b=some o'
 tups:∀ b xs,H b=some (.tup xs)->H' b=some (.tup xs)
 frzs:∀ b o u,H b=some (.frz o u)->H' b=some (.frz o u)
 tbls:∀ b ps,H b=some (.tbl ps)->∃ more,H' b=some (.tbl (ps++more))
section
variable {fs fs' ex ex':List Addr}{H H1 H2:Hp}{h h1 h2 h':Heap}{a x e:Addr}{o:HO}
theorem Un.any(u:Un fs ex H H1 h h1){b:Addr}{ob:Obj}(q:h.get? b=some ob)(n:H b=none)(hx:b ∉ ex):∃ sl,h1.get? b=some {ob with slots:=sl}:=by
 by_cases hb:b∈fs
 ·exact u.slot b ob q n hb hx
 ·exact⟨ob.slots,u.keep b ob q n hb hx⟩
theorem Un.kept(k:∀ b u,h.get? b=some u->h'.get? b=some u):Un fs ex H H h h':=
 ⟨λ b ob q _ _ _=>k b ob q,λ b ob q _ _ _=>⟨ob.slots,k b ob q⟩,λ _ _ _ n _=>n,λ b ob q _=>⟨ob,k b ob q⟩,λ _ _ q=>q,λ _ _ _ q=>q,λ _ ps q=>⟨#[],by rw[q];simp⟩⟩
theorem Un.refl:Un fs ex H H h h:=Un.kept λ _ _ q=>q
theorem Un.laid(k:∀ b u,h.get? b=some u->h'.get? b=some u)(hp:h.objs.size<=a)(hn:H a=none):Un fs ex H (upd H a o) h h' where
 keep:=λ b u q _ _ _=>k b u q
 slot:=λ b u q _ _ _=>⟨u.slots,k b u q⟩
 free:=λ b u q n _=>by rw[aj (Nat.ne_of_lt (Nat.lt_of_lt_of_le (Heap.lt_size q) hp))];exact n
 there:=λ b u q _=>⟨u,k b u q⟩
 tups:=λ b xs q=>by rw[aj (aV q hn)];exact q
 frzs:=λ b u xs q=>by rw[aj (aV q hn)];exact q
 tbls:=λ b ps q=>⟨#[],by rw[aj (aV q hn),q];simp⟩
theorem Un.write(mu:Mut (H x))(he:e=x\/H e=some (.own x))(k:∀ b u,b≠e->h.get? b=some u->h'.get? b=some u)(heo:∃ u,h'.get? e=some u):Un fs ex H (upd H x o) h h':=by
 have hx:∀ b,H b=none->b≠x:=λ b n z=>by subst z;rw[n] at mu;exact mu
 have hb:∀ b,H b=none->b≠e:=λ b n z=>by
  subst z;rcases he with r | r
  ·exact hx b n r
  ·rw[n] at r;cases r
 have hm:∀ b u,H b=some u->¬ Mut (some u)->b≠x:=λ b u q nm z=>by subst z;rw[q] at mu;exact nm mu
 refine⟨λ b u q n _ _=>k b u (hb b n) q,λ b u q n _ _=>⟨u.slots,k b u (hb b n) q⟩,λ b u q n _=>by rw[aj (hx b n)];exact n,λ b u q _=>?_,
  λ b xs q=>by rw[aj (hm b _ q λ z=>z)];exact q,λ b u xs q=>by rw[aj (hm b _ q λ z=>z)];exact q,λ b ps q=>⟨#[],by rw[aj (hm b _ q λ z=>z),q];simp⟩⟩
 by_cases hbe:b=e
 ·subst hbe;exact heo
 ·exact⟨u,k b u hbe q⟩
end
def trk(h:Heap)(H:Hp):List Addr:=(List.range h.objs.size).filter λ a=>(H a).isSome
def aat(h:Heap)(H:Hp):Heap:=PySem.W.hideAll h (trk h H)
theorem xM(h:Heap)(H:Hp):(aat h H).objs.size=h.objs.size:=PySem.W.hideAll_size _ _
theorem aaS{h:Heap}{H:Hp}{b:Addr}{o:Obj}(e:h.get? b=some o)(n:H b=none):(aat h H).get? b=some o:=
 PySem.W.hideAll_get _ e λ hm=>by have q:(H b).isSome=true:=(List.mem_filter.mp hm).2;rw[n] at q;simp at q
theorem adK{h:Heap}{H:Hp}{b:Addr}{o:Obj}(e:(aat h H).get? b=some o):h.get? b=some o/\H b=none:=by
 have e':h.get? b=some o:=PySem.W.of_hideAll (trk h H) e;refine⟨e',?_⟩;cases q:H b with
 | none=>rfl
 | some x =>
  have hm:b∈trk h H:=List.mem_filter.mpr ⟨List.mem_range.mpr (Heap.lt_size e'),by simp[q]⟩;have z:(aat h H).get? b=none:=PySem.W.hideAll_none (trk h H) hm;rw[z] at e;cases e
def adh(g h:Heap)(L:Addr):List (Addr×Obj):=(List.range h.objs.size).filterMap λ a=>if a=L\/(g.get? a).isSome=true then none else (h.get? a).map λ o=>(a,o)
def rest(g h:Heap)(L d:Addr):List (Addr×Obj):=(adh g h L).filter λ p=>decide (p.1≠d)
def BM(mg:Str->Option Value)(h:Heap):Prop:=(∃ bm o,mg "__builtins__" = some (.ref bm)/\bm≠builtinsNs/\h.get? bm=some o/\o.cls=.type "module" /\ o.dict=some builtinsNs/\o.data=.plain)/\∃ mm,h.Ns sysModules mm
structure Mod(K:PySem.W.Frag)(mg:Str->Option Value)(base:Heap):Prop where
 kin:K.In base
 glob:base.Ns mainGlobals mg
 blt:∃ mb,base.Ns builtinsNs mb/\∀ x:Str,x ≠ "__name__" -> mb x=bootBuiltins x
 nolimit:base.NoLimit
 bm:BM mg base
structure Cx where
 prog:Program
 w:World
 K:PySem.W.Frag
 mg:Str->Option Value
 base:Heap
 A:Around
 N:List Str
 s₀:Shared
 H₀:Hp
 env:Env
 outer:List Env
 stack:List Env
 ex:List Addr
 fn:Str->Bool
 calm:Bool
 pn:List (Addr×Obj)
 xe:Value->Shared->Prop
def frs(l:List Env):List Addr:=l.filterMap (·.frame)
abbrev Cx.fs(X:Cx):List Addr:=frs X.outer
def Vis(sc:Scope)(x:Str):Prop:=sc.names.lookup x=some .local\/sc.names.lookup x=some .cell\/sc.names.lookup x=some .free
def Loc(sc:Scope)(x:Str):Prop:=sc.names.lookup x=some .local\/sc.names.lookup x=some .cell
def Look(env:Env)(h:Heap)(m:Str->Option Value)(x:Str)(u:Value):Prop:=
 (env.kindOf x=some .local/\m x=some u)\/((env.kindOf x=some .cell\/env.kindOf x=some .free)/\∃ c,env.cells.lookup x=some c/\h.IsCell c (some u))
structure Cx.Ok(X:Cx):Prop where
 mod:Mod X.K X.mg X.base
 kind:X.env.scope.kind=.function
 glob:X.env.globals=mainGlobals
 blt:X.env.builtins=builtinsNs
 above:X.s₀.heap.objs.size<=X.env.locals
 inj:∀ x y c,X.env.cells.lookup x=some c->X.env.cells.lookup y=some c->x=y
 has:∀ x,(X.env.kindOf x=some .cell\/X.env.kindOf x=some .free)->∃ c,X.env.cells.lookup x=some c
 cab:∀ x c,X.fn x=true->X.env.cells.lookup x=some c->X.s₀.heap.objs.size<=c
 hd:X.calm=true->X.A.handled=none
 frames:X.A.frames=some X.stack
 stk:X.stack=X.outer\/(X.stack=X.env::X.outer/\X.env.frame=some X.env.locals)
 exf:∀ b∈X.ex,b≠X.env.locals/\∀ x c,X.env.cells.lookup x=some c->c≠b
 bs:∀ b o,X.base.get? b=some o->X.s₀.heap.get? b=some o/\X.H₀ b=none
 bsz:X.base.objs.size<=X.s₀.heap.objs.size
 noex:∀ b o,X.base.get? b=some o->b ∉ X.ex
 exfs:∀ b∈X.ex,b ∉ X.fs
 sA:X.s₀.heap.FunFrames X.base X.outer
 frf:∀ b∈X.fs,X.H₀ b=none
structure Inv(X:Cx)(pins:List (Addr×Obj))(σ:List (Option V))(H:Hp)(s:Shared):Prop where
 ok:X.Ok
 os:s.os=X.s₀.os
 bare:AllBare s.gens
 base:Un X.fs X.ex X.H₀ H X.s₀.heap s.heap
 loc:∃ m,s.heap.Ns X.env.locals m/\∀ (i:Nat) (x:Str) (v:V),X.N[i]? =some x->σ[i]? =some (some v)->Vis X.env.scope x->∃ u,RelV v u/\Look X.env s.heap m x u
 cell:∀ x c,X.env.cells.lookup x=some c->∃ v,s.heap.IsCell c v
 free:H X.env.locals=none
 freeC:∀ x c,X.env.cells.lookup x=some c->H c=none
 pin:∀ p∈X.pn++pins,s.heap.get? p.1=some p.2/\H p.1=none/\p.1≠X.env.locals/\p.1 ∉ X.fs/\∀ v,p.2.data ≠ .cell v
 hok:HOk X.prog X.w H s.heap
 len:σ.length=X.N.length
section
variable {X:Cx}{pins:List (Addr×Obj)}{σ:List (Option V)}{H H':Hp}{s:Shared}{h':Heap}
theorem Cx.Ok.ajn(ok:X.Ok){b:Addr}{o:Obj}(e:X.base.get? b=some o):b ∉ X.fs:=λ hb=>by have:=(ok.sA.mem hb).1;rw[e] at this;cases this
theorem Inv.bs(I:Inv X pins σ H s):∀ b o,X.base.get? b=some o->s.heap.get? b=some o/\H b=none:=λ b o e =>
 ⟨I.base.keep b o (I.ok.bs b o e).1 (I.ok.bs b o e).2 (I.ok.ajn e) (I.ok.noex b o e),I.base.free b o (I.ok.bs b o e).1 (I.ok.bs b o e).2 (I.ok.noex b o e)⟩
theorem Inv.bk(I:Inv X pins σ H s):∀ b o,X.base.get? b=some o->s.heap.get? b=some o:=λ b o e=>(I.bs b o e).1
theorem Inv.mod(I:Inv X pins σ H s):Mod X.K X.mg X.base:=I.ok.mod
theorem Inv.kIn(I:Inv X pins σ H s):X.K.In s.heap:=I.ok.mod.kin.keeps I.bk
theorem Inv.nolimit(I:Inv X pins σ H s):s.heap.NoLimit:=I.ok.mod.nolimit.keeps I.bk
theorem Inv.fr(I:Inv X pins σ H s):∃ m,Fr X.base X.env.locals s.heap m:=
 let ⟨m,hn,_⟩:=I.loc
 ⟨m,hn,I.bk,Nat.le_trans I.ok.bsz I.ok.above⟩
theorem Inv.lt(I:Inv X pins σ H s):X.env.locals<s.heap.objs.size:=let ⟨_,hn,_⟩:=I.loc;hn.lt
theorem Inv.sz(I:Inv X pins σ H s):X.s₀.heap.objs.size<=s.heap.objs.size:=Nat.le_trans I.ok.above (Nat.le_of_lt I.lt)
theorem Inv.aiC(I:Inv X pins σ H s){a:Addr}(h:s.heap.objs.size<=a):a ∉ X.fs:=λ hb=>by obtain⟨_,o,ho,_⟩:=I.ok.sA.mem hb;exact absurd (Nat.lt_of_lt_of_le (Heap.lt_size ho) (Nat.le_trans I.sz h)) (Nat.lt_irrefl _)
theorem Inv.cne(I:Inv X pins σ H s):∀ x c,X.env.cells.lookup x=some c->c≠X.env.locals:=λ x c e z=>by obtain⟨v,o,ho,hd⟩:=I.cell x c e;obtain⟨m,⟨o',es,ep,ho',hd',_⟩,_⟩:=I.loc;rw[z,ho'] at ho;cases ho;rw[hd'] at hd;cases hd
theorem Inv.sA(I:Inv X pins σ H s):s.heap.FunFrames X.base X.outer:=by
 have all:∀ (l:List Env),(∀ b∈frs l,b∈X.fs)->X.s₀.heap.FunFrames X.base l->s.heap.FunFrames X.base l:=by
  intro l
  induction l with
  | nil=>intro _ _;trivial
  | cons env r ih =>
   intro hs hl;obtain⟨hk,⟨L,o,hf,hn,ho,hd⟩,hr⟩:=hl;have hL:L∈X.fs:=hs L (by unfold frs;rw[List.filterMap_cons,hf];exact List.mem_cons_self);obtain⟨sl,e⟩:=I.base.slot L o ho (I.ok.frf L hL) hL λ z=>I.ok.exfs L z hL;exact⟨hk,⟨L,_,hf,hn,e,hd⟩,ih (λ b hb=>hs b (by unfold frs;rw[List.filterMap_cons,hf];exact List.mem_cons_of_mem _ hb)) hr⟩
 exact all X.outer (λ _ hb=>hb) I.ok.sA
theorem Inv.stack(I:Inv X pins σ H s):s.heap.FunFrames X.base X.stack:=by
 rcases I.ok.stk with e | ⟨e,hf⟩
 ·rw[e];exact I.sA
 ·rw[e];obtain⟨m,hn,_⟩:=I.loc;refine .cons (by rw[I.ok.kind];decide) hf hn ?_ I.sA;exact Heap.get?_none_of_le (Nat.le_trans I.ok.bsz I.ok.above)
theorem Inv.jV(I:Inv X pins σ H s):∀ b∈frs X.stack,b∈X.env.locals::X.fs:=λ b hb=>by
 rcases I.ok.stk with e | ⟨e,hf⟩
 ·rw[e] at hb;exact List.mem_cons_of_mem _ hb
 ·rw[e] at hb;unfold frs at hb;rw[List.filterMap_cons,hf] at hb;exact hb
theorem Inv.sV(I:Inv X pins σ H s):∀ b∈frs X.stack,H b=none:=λ b hb=>by
 rcases List.mem_cons.mp (I.jV b hb) with e | hb
 ·rw[e];exact I.free
 ·obtain⟨_,o,ho,_⟩:=I.ok.sA.mem hb;exact I.base.free b o ho (I.ok.frf b hb) λ z=>I.ok.exfs b z hb
theorem Inv.step{g':Array GenState}{t':Nat}{d':Drawn}{ch:List Addr}(I:Inv X pins σ H s)
  (hch:∀ b∈ch,(b∈X.ex\/X.s₀.heap.objs.size<=b)/\b≠X.env.locals/\(∀ x c,X.env.cells.lookup x=some c->c≠b)/\∀ p∈X.pn++pins,p.1≠b)
  (keep:∀ b o,b≠X.env.locals->b ∉ X.fs->b ∉ ch->s.heap.get? b=some o->H b=none->h'.get? b=some o)
  (slot:∀ b o,b≠X.env.locals->b∈X.fs->b ∉ ch->s.heap.get? b=some o->H b=none->∃ sl,h'.get? b=some {o with slots:=sl})(free:∀ b o,b ∉ ch->s.heap.get? b=some o->H b=none->H' b=none)
  (there:∀ b o,b ∉ ch->s.heap.get? b=some o->∃ o',h'.get? b=some o')
  (tups:∀ b xs,H b=some (.tup xs)->H' b=some (.tup xs))(frzs:∀ b o u,H b=some (.frz o u)->H' b=some (.frz o u))(tbls:∀ b ps,H b=some (.tbl ps)->∃ more,H' b=some (.tbl (ps++more)))
  (ns:∀ m,s.heap.Ns X.env.locals m->h'.Ns X.env.locals m)(hok:HOk X.prog X.w H' h')(hg:AllBare g') :
  Inv X pins σ H' {s with heap:=h',gens:=g',drawn:=d',toks:=t'}:=by
 have neL:∀ b o,X.s₀.heap.get? b=some o->b≠X.env.locals:=λ b o e=>Nat.ne_of_lt (Nat.lt_of_lt_of_le (Heap.lt_size e) I.ok.above);have neC:∀ b o,X.s₀.heap.get? b=some o->b ∉ X.ex->b ∉ ch:=λ b o e hx hb=>by
  rcases(hch b hb).1 with z | z
  ·exact hx z
  ·exact absurd (Nat.lt_of_lt_of_le (Heap.lt_size e) z) (Nat.lt_irrefl _)
 have cellK:∀ x c,X.env.cells.lookup x=some c->∀ v,s.heap.IsCell c v->h'.IsCell c v:=λ x c e v hq0=>by
  obtain⟨o,ho,hd⟩:=hq0;have nch:c ∉ ch:=λ z=>(hch c z).2.2.1 x c e rfl
  by_cases hc:c∈X.fs
  ·obtain⟨sl,q⟩:=slot c o (I.cne x c e) hc nch ho (I.freeC x c e);exact⟨_,q,hd⟩
  ·exact⟨o,keep c o (I.cne x c e) hc nch ho (I.freeC x c e),hd⟩
 refine⟨I.ok,I.os,hg,⟨λ b o e n hb hx=>?_,λ b o e n hb hx=>?_,λ b o e n hx=>?_,λ b o e hx=>?_,λ b xs e=>tups b xs (I.base.tups b xs e),λ b o xs e=>frzs b o xs (I.base.frzs b o xs e),λ b ps e=>?_⟩,?_,λ x c e=>?_,?_,λ x c e=>?_,λ p hp=>?_,hok,I.len⟩
 ·exact keep b o (neL b o e) hb (neC b o e hx) (I.base.keep b o e n hb hx) (I.base.free b o e n hx)
 ·obtain⟨sl,e1⟩:=I.base.slot b o e n hb hx;obtain⟨sl',e2⟩:=slot b _ (neL b o e) hb (neC b o e hx) e1 (I.base.free b o e n hx);exact⟨sl',e2⟩
 ·obtain⟨o',e1⟩:=I.base.there b o e hx;exact free b o' (neC b o e hx) e1 (I.base.free b o e n hx)
 ·obtain⟨o',e1⟩:=I.base.there b o e hx;exact there b o' (neC b o e hx) e1
 ·obtain⟨m1,e1⟩:=I.base.tbls b ps e;obtain⟨m2,e2⟩:=tbls b _ e1;exact⟨m1++m2,by rw[e2,Array.append_assoc]⟩
 ·obtain⟨m,hn,hl⟩:=I.loc;refine⟨m,ns m hn,λ i x v e1 e2 e3=>?_⟩;obtain⟨u,r,l⟩:=hl i x v e1 e2 e3;refine⟨u,r,?_⟩;rcases l with l | ⟨k,c,e,z⟩
  ·exact .inl l
  ·exact .inr ⟨k,c,e,cellK x c e _ z⟩
 ·obtain⟨v,z⟩:=I.cell x c e;exact⟨v,cellK x c e v z⟩
 ·obtain⟨m,⟨o,_,_,ho,_⟩,_⟩:=I.loc;exact free _ o (λ z=>(hch _ z).2.1 rfl) ho I.free
 ·obtain⟨v,o,ho,hd⟩:=I.cell x c e;exact free c o (λ z=>(hch c z).2.2.1 x c e rfl) ho (I.freeC x c e)
 ·obtain⟨e,n,ne,nf,d⟩:=I.pin p hp;have nch:p.1 ∉ ch:=λ z=>(hch p.1 z).2.2.2 p hp rfl;exact⟨keep p.1 p.2 ne nf nch e n,free p.1 p.2 nch e n,ne,nf,d⟩
theorem Inv.un{t':Nat}(I:Inv X pins σ H s)(u:Un X.fs [] H H' s.heap h')(hok:HOk X.prog X.w H' h'):Inv X pins σ H' {s with heap:=h',toks:=t'}:=by
 obtain⟨m,⟨o,es,ep,ho,r⟩,_⟩:=id I.loc;obtain⟨sl,hL⟩:=u.any ho I.free (by simp);exact I.step (g':=s.gens) (d':=s.drawn) (ch:=[]) (λ _ z=>nomatch z) (λ b o _ hb _ e n=>u.keep b o e n hb (by simp)) (λ b o _ hb _ e n=>u.slot b o e n hb (by simp)) (λ b o _ e n=>u.free b o e n (by simp)) (λ b o _ e=>u.there b o e (by simp)) u.tups u.frzs u.tbls (λ m' hm=>by obtain⟨o',es',ep',ho',r'⟩:=hm;rw[ho] at ho';cases ho';exact⟨_,es',ep',hL,r'⟩) hok I.bare
theorem Inv.call{g':Array GenState}{t':Nat}{d':Drawn}{ch:List Addr}(I:Inv X pins σ H s)(u:Un (frs X.stack) ch H H' s.heap h')(hok:HOk X.prog X.w H' h')(hg:AllBare g')
  (hch:∀ b∈ch,(b∈X.ex\/X.s₀.heap.objs.size<=b)/\b≠X.env.locals/\(∀ x c,X.env.cells.lookup x=some c->c≠b)/\∀ p∈X.pn++pins,p.1≠b) :
  Inv X pins σ H' {s with heap:=h',gens:=g',drawn:=d',toks:=t'}:=by
 obtain⟨m,⟨o,es,ep,ho,r⟩,_⟩:=id I.loc;obtain⟨sl,hL⟩:=u.any ho I.free λ z=>(hch _ z).2.1 rfl;exact I.step (ch:=ch) hch (λ b o hL hb hc e n=>u.keep b o e n (λ z=>(List.mem_cons.mp (I.jV b z)).elim hL hb) hc) (λ b o _ _ hc e n=>u.any e n hc) (λ b o hc e n=>u.free b o e n hc) (λ b o hc e=>u.there b o e hc) u.tups u.frzs u.tbls (λ m' hm=>by obtain⟨o',es',ep',ho',r'⟩:=hm;rw[ho] at ho';cases ho';exact⟨_,es',ep',hL,r'⟩) hok hg
theorem Inv.turned{t':Nat}{it:Addr}(I:Inv X pins σ H s)(k:∀ b o,b≠it->s.heap.get? b=some o->h'.get? b=some o)(hn:H it=none)(hL:it≠X.env.locals)
  (h1:it∈X.ex\/X.s₀.heap.objs.size<=it)(h2:∀ x c,X.env.cells.lookup x=some c->c≠it)(h3:∀ p∈X.pn++pins,p.1≠it):Inv X pins σ H {s with heap:=h',toks:=t'}:=by
 have nit:∀ b u,H b=some u->b≠it:=λ b u e z=>by rw[z,hn] at e;cases e
 refine I.step (g':=s.gens) (d':=s.drawn) (ch:=[it]) (λ b hb=>?_) (λ b o _ _ hc e _=>k b o (λ z=>hc (by simp[z])) e) (λ b o _ _ hc e _=>⟨o.slots,k b o (λ z=>hc (by simp[z])) e⟩) (λ _ _ _ _ n=>n)
  (λ b o hc e=>⟨o,k b o (λ z=>hc (by simp[z])) e⟩) (λ _ _ e=>e) (λ _ _ _ e=>e) (λ b ps e=>⟨#[],by rw[e];simp⟩) (λ m hm=>?_) (λ b u e=>?_) I.bare
 ·have e:b=it:=by simpa using hb
  subst e;exact⟨h1,hL,h2,h3⟩
 ·obtain⟨o,es,ep,ho,r⟩:=hm;exact⟨o,es,ep,k _ o (Ne.symm hL) ho,r⟩
 ·refine(I.hok b u e).wG (λ c v hc q=>k c v ?_ q) (λ _ q=>q) λ _ _ q=>q;rcases hc with z | z
  ·rw[z];exact nit b u e
  ·exact nit c _ z
theorem Inv.tok(I:Inv X pins σ H s)(t:Nat):Inv X pins σ H {s with toks:=t}:=I.un (h':=s.heap) (t':=t) Un.refl I.hok
theorem Inv.kept{t':Nat}(I:Inv X pins σ H s)(k:∀ b u,s.heap.get? b=some u->h'.get? b=some u):Inv X pins σ H {s with heap:=h',toks:=t'}:=I.un (Un.kept k) (I.hok.kept k)
theorem Inv.laid{a:Addr}{o:HO}{t':Nat}(I:Inv X pins σ H s)(k:∀ b u,s.heap.get? b=some u->h'.get? b=some u)(hp:s.heap.objs.size<=a)(new:cW X.prog X.w (upd H a o) h' a o) :
  Inv X pins σ (upd H a o) {s with heap:=h',toks:=t'}:=I.un (Un.laid k hp (I.hok.fresh hp)) (I.hok.laid k hp new)
theorem Inv.write{x e:Addr}{o:HO}{t':Nat}(I:Inv X pins σ H s)(mu:Mut (H x))(he:e=x\/H e=some (.own x))(k:∀ b u,b≠e->s.heap.get? b=some u->h'.get? b=some u)(heo:∃ u,h'.get? e=some u)
  (new:cW X.prog X.w (upd H x o) h' x o):Inv X pins σ (upd H x o) {s with heap:=h',toks:=t'}:=I.un (Un.write mu he k heo) (I.hok.write mu he k heo new)
theorem Inv.d5{pins':List (Addr×Obj)}(I:Inv X pins σ H s)(h:∀ p∈pins',s.heap.get? p.1=some p.2/\H p.1=none/\p.1≠X.env.locals/\p.1 ∉ X.fs/\∀ v,p.2.data ≠ .cell v):Inv X pins' σ H s:=
 ⟨I.ok,I.os,I.bare,I.base,I.loc,I.cell,I.free,I.freeC,λ p hp=>(List.mem_append.mp hp).elim (λ z=>I.pin p (List.mem_append_left _ z)) (h p),I.hok,I.len⟩
theorem uI{N:List Str}(hN:N.Nodup){i j:Nat}{x:Str}(a:N[i]? =some x)(b:N[j]? =some x):i=j:=by obtain⟨h1,e1⟩:=List.getElem?_eq_some_iff.mp a;obtain⟨h2,e2⟩:=List.getElem?_eq_some_iff.mp b;exact(List.getElem_inj hN).mp (e1.trans e2.symm)
theorem zw{M:Model}{A:Around}{E:Value->Shared->Prop}{i:Nat}{x:Str}{v:V}{u:Value}{Q:Unit->Shared->Prop}(I:Inv X pins σ H s)(hN:X.N.Nodup)(hi:X.N[i]? =some x)(hx:Loc X.env.scope x)(r:RelV v u)
  (h:∀ s',Inv X pins (σ.set i (some v)) H s'->(∃ a,Heap.SameBut a s.heap s'.heap/\(a=X.env.locals\/X.env.cells.lookup x=some a))->Q () s')(hf:X.fn x=true\/X.env.scope.names.lookup x=some .local:=by first | exact .inl rfl | exact .inr rfl | assumption):wpAny M A (storeName X.env x u) Q E s:=by
 obtain⟨m,hn,hl⟩:=id I.loc;have hcls:(X.env.scope.kind==.class || (X.env.scope.kind==.module&&X.env.locals != X.env.globals))=false:=by rw[I.ok.kind];rfl
 have hiσ:i<σ.length:=by rw[I.len];exact(List.getElem?_eq_some_iff.mp hi).1
 have cne:=I.cne;have tracked:∀ {a:Addr} {h':Heap},(∃ o,s.heap.get? a=some o/\H a=none)->Heap.SameBut a s.heap h'->HOk X.prog X.w H h':=λ {a h'} ha hs b ob e=>by
  obtain⟨_,_,hfree⟩:=ha;refine(I.hok b ob e).wG (λ c w' hc q=>(hs.2 c ?_).trans q) (λ _ q=>q) λ _ _ q=>q;rintro rfl;rcases hc with rfl | hc
  ·rw[hfree] at e;cases e
  ·rw[hfree] at hc;cases hc
 rcases hx with hk | hk
 ·refine wpAny_storeName_local hk hn (λ h' hn' hs=>?_) hcls;obtain⟨oL,_,_,hoL,_⟩:=id hn;refine h _ ⟨I.ok,I.os,I.bare,⟨λ b o e n hb hx=>?_,λ b o e n hb hx=>?_,I.base.free,λ b o e hx=>?_,I.base.tups,I.base.frzs,I.base.tbls⟩,⟨_,hn',λ j y v' e1 e2 e3=>?_⟩,λ y c e=>?_,I.free,I.freeC,λ p hp=>?_,tracked ⟨oL,hoL,I.free⟩ hs,by simpa using I.len⟩ ⟨_,hs,.inl rfl⟩
  ·exact(hs.2 b (Nat.ne_of_lt (Nat.lt_of_lt_of_le (Heap.lt_size e) I.ok.above))).trans (I.base.keep b o e n hb hx)
  ·obtain⟨sl,e1⟩:=I.base.slot b o e n hb hx;exact⟨sl,(hs.2 b (Nat.ne_of_lt (Nat.lt_of_lt_of_le (Heap.lt_size e) I.ok.above))).trans e1⟩
  ·obtain⟨o',e1⟩:=I.base.there b o e hx;exact⟨o',(hs.2 b (Nat.ne_of_lt (Nat.lt_of_lt_of_le (Heap.lt_size e) I.ok.above))).trans e1⟩
  ·by_cases hj:j=i
   ·subst hj;rw[hi] at e1;cases e1;rw[List.getElem?_set_self hiσ] at e2;cases e2;exact⟨u,r,.inl ⟨hk,by simp⟩⟩
   ·rw[List.getElem?_set_ne (Ne.symm hj)] at e2;obtain⟨u',r',q⟩:=hl j y v' e1 e2 e3;refine⟨u',r',?_⟩;rcases q with ⟨k,e⟩ | ⟨k,c,e,z⟩
    ·refine .inl ⟨k,?_⟩;have:y≠x:=λ e=>hj (uI hN e1 (e ▸ hi));simp[this,e]
    ·exact .inr ⟨k,c,e,z.sameBut hs (cne y c e)⟩
  ·obtain⟨w',z⟩:=I.cell y c e;exact⟨w',z.sameBut hs (cne y c e)⟩
  ·obtain⟨e,n,ne,nf,d⟩:=I.pin p hp;exact⟨(hs.2 p.1 ne).trans e,n,ne,nf,d⟩
 ·have hfn:X.fn x=true:=by
   rcases hf with z | z
   ·exact z
   ·rw[z] at hk;cases hk
  obtain⟨c,hc⟩:=I.ok.has x (.inl hk);obtain⟨w',z⟩:=I.cell x c hc;refine wpAny_storeName_cell I.ok.kind hk hc z (λ h' hc' hs=>?_);obtain⟨oc,hoc,hocd⟩:=id z;refine h {s with heap:=h'} ⟨I.ok,I.os,I.bare,⟨λ b o e n hb hx=>?_,λ b o e n hb hx=>?_,I.base.free,λ b o e hx=>?_,I.base.tups,I.base.frzs,I.base.tbls⟩,⟨m,hn.sameBut hs (Ne.symm (cne x c hc)),λ j y v' e1 e2 e3=>?_⟩,λ y c' e=>?_,I.free,I.freeC,λ p hp=>?_,tracked ⟨oc,hoc,I.freeC x c hc⟩ hs,by simpa using I.len⟩ ⟨c,hs,.inr hc⟩
  ·exact(hs.2 b (Nat.ne_of_lt (Nat.lt_of_lt_of_le (Heap.lt_size e) (I.ok.cab x c hfn hc)))).trans (I.base.keep b o e n hb hx)
  ·obtain⟨sl,e1⟩:=I.base.slot b o e n hb hx;exact⟨sl,(hs.2 b (Nat.ne_of_lt (Nat.lt_of_lt_of_le (Heap.lt_size e) (I.ok.cab x c hfn hc)))).trans e1⟩
  ·obtain⟨o',e1⟩:=I.base.there b o e hx;exact⟨o',(hs.2 b (Nat.ne_of_lt (Nat.lt_of_lt_of_le (Heap.lt_size e) (I.ok.cab x c hfn hc)))).trans e1⟩
  ·by_cases hj:j=i
   ·subst hj;rw[hi] at e1;cases e1;rw[List.getElem?_set_self hiσ] at e2;cases e2;exact⟨u,r,.inr ⟨.inl hk,c,hc,hc'⟩⟩
   ·rw[List.getElem?_set_ne (Ne.symm hj)] at e2;obtain⟨u',r',q⟩:=hl j y v' e1 e2 e3;refine⟨u',r',?_⟩;rcases q with q | ⟨k,c',e,z'⟩
    ·exact .inl q
    ·refine .inr ⟨k,c',e,z'.sameBut hs ?_⟩;rintro rfl;exact hj (uI hN e1 (I.ok.inj _ _ _ e hc ▸ hi))
  ·by_cases hcc:c'=c
   ·subst hcc;exact⟨_,hc'⟩
   ·obtain⟨w2,z2⟩:=I.cell y c' e;exact⟨w2,z2.sameBut hs hcc⟩
  ·obtain⟨e,n,ne,nf,d⟩:=I.pin p hp;refine⟨(hs.2 p.1 ?_).trans e,n,ne,nf,d⟩;intro q;rw[q,hoc] at e;have q':oc=p.2:=Option.some.inj e;exact d w' (by rw[<- q'];exact hocd)
theorem ve{M:Model}{A:Around}{E:Value->Shared->Prop}{i:Nat}{x:Str}{v:V}{u:Value}{Q:Unit->Shared->Prop}(I:Inv X pins σ H s)(hN:X.N.Nodup)(hi:X.N[i]? =some x)(hx:Loc X.env.scope x)(r:RelV v u)
  (h:∀ s',Inv X pins (σ.set i (some v)) H s'->Q () s')(hf:X.fn x=true\/X.env.scope.names.lookup x=some .local:=by first | exact .inl rfl | exact .inr rfl | assumption):wpAny M A (storeName X.env x u) Q E s:=
 zw I hN hi hx r (λ s' I' _=>h s' I') hf
theorem Inv.agI{s':Shared}{ch:List Addr}(I:Inv X pins σ H s)(ho:s'.os=s.os)(u:Un (frs X.stack) ch H H' s.heap s'.heap)(hok:HOk X.prog X.w H' s'.heap)(hg:AllBare s'.gens)
  (hch:∀ b∈ch,(b∈X.ex\/X.s₀.heap.objs.size<=b)/\b≠X.env.locals/\(∀ x c,X.env.cells.lookup x=some c->c≠b)/\∀ p∈X.pn++pins,p.1≠b):Inv X pins σ H' s':=by
 obtain⟨h',g',d',t',o'⟩:=s';have e:o'=s.os:=ho;subst e;exact I.call (g':=g') (t':=t') (d':=d') u hok hg hch
end
abbrev XK:=Value->Option Addr->Hp->Prop
abbrev St:=List (Option V)
abbrev VK:=V->Hp->Prop
abbrev TE:=St->Hp->VK->Prop
abbrev TT:=St->Hp->(Bool->Hp->Prop)->Prop
abbrev TA:=St->Hp->(List V->Hp->Prop)->Prop
structure Ends where
 nx:St->Hp->Prop
 rt:VK
 bk:St->Hp->Prop:=λ _ _=>False
 ct:St->Hp->Prop:=λ _ _=>False
abbrev TS:=Ends->St->Hp->Prop
def EP(X:Cx)(pins:List (Addr×Obj))(σ:St)(Q:VK)(u:Value)(s':Shared):Prop:=∃ v H',Inv X pins σ H' s'/\RelV v u/\Q v H'
def TP(X:Cx)(pins:List (Addr×Obj))(σ:St)(Q:Bool->Hp->Prop)(b:Bool)(s':Shared):Prop:=∃ H',Inv X pins σ H' s'/\Q b H'
def AP(X:Cx)(pins:List (Addr×Obj))(σ:St)(Q:List V->Hp->Prop)(us:List Value)(s':Shared):Prop:=∃ vs H',Inv X pins σ H' s'/\Vals vs us/\Q vs H'
def SP(X:Cx)(pins:List (Addr×Obj))(D:Ends)(f:Flow)(s':Shared):Prop:=
 match f with
 | .next=>∃ σ' H',Inv X pins σ' H' s'/\D.nx σ' H'
 | .brk=>∃ σ' H',Inv X pins σ' H' s'/\D.bk σ' H'
 | .cont=>∃ σ' H',Inv X pins σ' H' s'/\D.ct σ' H'
 | .ret u=>∃ v σ' H',Inv X pins σ' H' s'/\RelV v u/\D.rt v H'
def PE(X:Cx)(e:Expr)(t:TE):Prop:=
 ∀ (pins:List (Addr×Obj)) (s:Shared) (σ:St) (H:Hp) (Q:VK),Inv X pins σ H s->t σ H Q->wpAny (model X.prog X.w) X.A (eval e X.env) (EP X pins σ Q) X.xe s
def PT(X:Cx)(e:Expr)(t:TT):Prop:=
 ∀ (pins:List (Addr×Obj)) (s:Shared) (σ:St) (H:Hp) (Q:Bool->Hp->Prop),Inv X pins σ H s->t σ H Q->wpAny (model X.prog X.w) X.A (isTrue e X.env (eval e X.env)) (TP X pins σ Q) X.xe s
def PW(X:Cx)(e:Expr)(t:TT):Prop:=
 ∀ (whole:Sem Value) (pins:List (Addr×Obj)) (s:Shared) (σ:St) (H:Hp) (Q:Bool->Hp->Prop),Inv X pins σ H s->t σ H Q->wpAny (model X.prog X.w) X.A (isTrue e X.env whole) (TP X pins σ Q) X.xe s
theorem PW.pt{X:Cx}{e:Expr}{t:TT}(h:PW X e t):PT X e t:=h _
def PA(X:Cx)(es:List Expr)(t:TA):Prop:=
 ∀ (pos:Pos) (pins:List (Addr×Obj)) (s:Shared) (σ:St) (H:Hp) (Q:List V->Hp->Prop),Inv X pins σ H s->t σ H Q->wpAny (model X.prog X.w) X.A (spliced (backTo pos (starEach es X.env))) (AP X pins σ Q) X.xe s
def PS(X:Cx)(st:Stmt)(t:TS):Prop:=
 ∀ (pins:List (Addr×Obj)) (s:Shared) (σ:St) (H:Hp) (D:Ends),Inv X pins σ H s->t D σ H->wpAny (model X.prog X.w) X.A (exec st X.env) (SP X pins D) X.xe s
def PSs(X:Cx)(st:List Stmt)(t:TS):Prop:=
 ∀ (pins:List (Addr×Obj)) (s:Shared) (σ:St) (H:Hp) (D:Ends),Inv X pins σ H s->t D σ H->wpAny (model X.prog X.w) X.A (execs st X.env) (SP X pins D) X.xe s
theorem thn{α:Type}{t:Sem α}{Q Q':α->Shared->Prop}{M:Model}{A:Around}{E:Value->Shared->Prop}{s:Shared}(h:wpAny M A t Q E s)(hQ:∀ a s,Q a s->Q' a s):wpAny M A t Q' E s:=wpAny_mono h hQ λ _ _ x=>x
section
variable {X:Cx}
def aiG(i:Nat):TE:=λ σ H Q=>∃ v,σ[i]? =some (some v)/\Q v H
def tC(v:V):TE:=λ _ H Q=>Q v H
theorem afZ{i:Nat}{x:Str}{pos:Pos}(hN:X.N[i]? =some x)(hv:Vis X.env.scope x)(hd:(x==("__debug__" : Str))=false:=by decide)(hcd:(x==("__classdict__" : Str))=false:=by decide):PE X (.Name x pos) (aiG i):=by
 intro pins s σ H Q I h;obtain⟨v,e,h⟩:=h;obtain⟨m,hn,hl⟩:=I.loc;obtain⟨u,r,l⟩:=hl i x v hN e hv;have fin:EP X pins σ Q u s:=⟨v,H,I,r,h⟩;rcases l with ⟨hk,hm⟩ | ⟨hk,c,hc,hcell⟩
 ·exact wpAny_Name (wpAny_loadName_local I.ok.kind hk hn hm fin) hd
 ·rcases hk with hk | hk
  ·exact wpAny_Name (wpAny_loadName_cell I.ok.kind hk hc hcell fin) hd
  ·exact wpAny_Name (wpAny_loadName_free I.ok.kind hk hc hcell fin hcd) hd
theorem agE{i j pos}:PE X (.Constant (.int i) j pos) (tC (.int i)):=λ _ _ _ H _ I h=>wpAny_Constant_int ⟨.int i,H,I.tok _,⟨_,rfl⟩,h⟩
theorem ah2{b j pos}:PE X (.Constant (.bool b) j pos) (tC (.bl b)):=λ _ _ _ H _ I h=>Constant_bool ⟨.bl b,H,I,rfl,h⟩
theorem acg{j pos}:PE X (.Constant .none j pos) (tC .non):=λ _ _ _ H _ I h=>Constant_none ⟨.non,H,I,rfl,h⟩
theorem aeR{x j pos}:PE X (.Constant (.str x) j pos) (tC (.str x)):=λ _ _ _ H _ I h=>Calls.Constant_str ⟨.str x,H,I.tok _,⟨_,rfl⟩,h⟩
def Gl(X:Cx)(x:Str):Prop:=X.env.kindOf x=some .globalImplicit
theorem oz{E:Value->Shared->Prop}{pins:List (Addr×Obj)}{s:Shared}{σ:St}{H:Hp}{x:Str}{u:Value}{pos:Pos}{Q:Value->Shared->Prop}(I:Inv X pins σ H s)(hg:Gl X x)(hm:X.mg x=some u)(h:Q u s)
  (hd:(x==("__debug__" : Str))=false:=by decide):wpAny (model X.prog X.w) X.A (eval (.Name x pos) X.env) Q E s:=
 Calls.Name_function_global I.ok.kind hg (Calls.loadGlobal_global (by rw[I.ok.glob];exact I.mod.glob.keeps I.bk) hm h) hd
theorem lO{E:Value->Shared->Prop}{pins:List (Addr×Obj)}{s:Shared}{σ:St}{H:Hp}{x:Str}{u:Value}{pos:Pos}{Q:Value->Shared->Prop}(I:Inv X pins σ H s)(hg:Gl X x)(hm:X.mg x=none)(hv:bootBuiltins x=some u)(h:Q u s)
  (hn:x ≠ "__name__":= by decide)(hd:(x==("__debug__" : Str))=false:=by decide):wpAny (model X.prog X.w) X.A (eval (.Name x pos) X.env) Q E s:=by
 obtain⟨mb,h1,h2⟩:=I.mod.blt;exact Calls.Name_function_global I.ok.kind hg (Calls.loadGlobal_builtin (by rw[I.ok.glob];exact I.mod.glob.keeps I.bk) hm (by rw[I.ok.blt];exact h1.keeps I.bk) ((h2 x hn).trans hv) h) hd
theorem acM{x:Str}{v:V}{u:Value}{pos:Pos}(hg:Gl X x)(hm:X.mg x=some u)(r:RelV v u)(hd:(x==("__debug__" : Str))=false:=by decide):PE X (.Name x pos) (tC v):=
 λ _ _ _ H _ I h=>oz I hg hm ⟨v,H,I,r,h⟩ hd
theorem acr{x:Str}{v:V}{u:Value}{pos:Pos}(hg:Gl X x)(hm:X.mg x=none)(hv:bootBuiltins x=some u)(r:RelV v u)(hn:x ≠ "__name__":= by decide)(hd:(x==("__debug__" : Str))=false:=by decide):PE X (.Name x pos) (tC v):=
 λ _ _ _ H _ I h=>lO I hg hm hv ⟨v,H,I,r,h⟩ hn hd
variable {a b:Expr}{ta tb:TE}{pos:Pos}
def PC(X:Cx)(op:CmpOp)(a b:Expr)(t:TE):Prop:=
 ∀ (pins:List (Addr×Obj)) (s:Shared) (σ:St) (H:Hp) (Q:VK),Inv X pins σ H s->t σ H Q ->
  wpAny (model X.prog X.w) X.A (eval a X.env) (λ v s₁=>wpAny (model X.prog X.w) X.A (eval b X.env) (λ u s₂=>wpAny (model X.prog X.w) X.A (compareOp op v u) (EP X pins σ Q) X.xe s₂) X.xe s₁) X.xe s
theorem i6(b:Expr){op:CmpOp}(h:op ≠ .In)(h2:op ≠ .NotIn):behindInMarks op b=false:=by
 have e1:(op==CmpOp.In)=false:=by cases op<;>first | rfl | exact absurd rfl h
 have e2:(op==CmpOp.NotIn)=false:=by cases op<;>first | rfl | exact absurd rfl h2
 cases b<;>simp[behindInMarks,e1,e2]
def tB(t:TE):TT:=λ σ H Q=>t σ H λ x H1=>∃ c,x=.bl c/\Q c H1
theorem agk{op:CmpOp}{t:TE}(h:PC X op a b t)(h1:behindInMarks op b=false:=by first | exact i6 _ (by decide) (by decide) | rfl):PT X (.Compare a [op] [b] pos) (tB t):=by intro pins s σ H Q I hw;refine wpAny_isTrue_Compare1 (thn (h pins s σ H _ I hw) λ v s1 h1=>thn h1 λ u s2 h2=>thn h2 λ c s3 ⟨x,H1,I1,r1,q1⟩=>?_) h1;obtain⟨d,rfl,q⟩:=q1;cases r1;exact wpAny_truthy_bool ⟨H1,I1,q⟩
theorem aeK{e:Expr}{t:TE}(h:PE X e t)(he:∀ whole,isTrue e X.env whole=(do let v <- whole;standAt e.pos;holding [v] (truthy v)):=by intro _;rfl):PT X e (tB t):=by intro pins s σ H Q I hw;refine isTrue_plain (thn (h pins s σ H _ I hw) λ v s1 ⟨x,H1,I1,r1,q1⟩=>?_) (he _);obtain⟨d,rfl,q⟩:=q1;cases r1;exact wpAny_truthy_bool ⟨H1,I1,q⟩
variable {tA tB':TT}{rest:List Expr}
def ai2(t u:TT):TT:=λ σ H Q=>t σ H λ c H1=>if c=true then u σ H1 Q else Q false H1
def tOr(t u:TT):TT:=λ σ H Q=>t σ H λ c H1=>if c=true then Q true H1 else u σ H1 Q
def ajl(t:TT):TT:=λ σ H Q=>t σ H λ c H1=>Q (!c) H1
theorem pw_and1(ha:PT X a tA):PW X (.BoolOp .And [a] pos) tA:=by
 intro wh pins s σ H Q I h;refine isTrue_and (thn (ha pins s σ H Q I h) λ c s1 e=>?_);cases c with
 | true=>exact isTrue_and_nil e
 | false=>exact e
theorem pw_or1(ha:PT X a tA):PW X (.BoolOp .Or [a] pos) tA:=by
 intro wh pins s σ H Q I h;refine isTrue_or (thn (ha pins s σ H Q I h) λ c s1 e=>?_);cases c with
 | false=>exact isTrue_or_nil e
 | true=>exact e
theorem pw_and(ha:PT X a tA)(hb:PW X (.BoolOp .And (b::rest) pos) tB'):PW X (.BoolOp .And (a::b::rest) pos) (ai2 tA tB'):=by
 intro wh pins s σ H Q I h;refine isTrue_and (thn (ha pins s σ H _ I h) λ c s1 hq1=>?_);obtain⟨H1,I1,q1⟩:=hq1;cases c with
 | true=>exact hb wh pins s1 σ H1 Q I1 q1
 | false=>exact⟨H1,I1,q1⟩
theorem pw_or(ha:PT X a tA)(hb:PW X (.BoolOp .Or (b::rest) pos) tB'):PW X (.BoolOp .Or (a::b::rest) pos) (tOr tA tB'):=by
 intro wh pins s σ H Q I h;refine isTrue_or (thn (ha pins s σ H _ I h) λ c s1 hq2=>?_);obtain⟨H1,I1,q1⟩:=hq2;cases c with
 | true=>exact⟨H1,I1,q1⟩
 | false=>exact hb wh pins s1 σ H1 Q I1 q1
theorem aeS(ha:PT X a tA):PT X (.UnaryOp .Not a pos) (ajl tA):=by intro pins s σ H Q I h;exact isTrue_not (ha pins s σ H (λ c H1=>Q (!c) H1) I h)
def ag9(ta tb:TE):TE:=λ σ H Q=>ta σ H λ x H1=>∃ c,x=.bl c/\if c=true then tb σ H1 Q else Q (.bl false) H1
def ahw(ta:TE):TE:=λ σ H Q=>ta σ H λ x H1=>∃ c,x=.bl c/\Q (.bl (!c)) H1
theorem agf{op}{t:TE}(h:PE X a t):PE X (.BoolOp op [a] pos) t:=λ pins s σ H Q I hw=>BoolOp_one (h pins s σ H Q I hw)
theorem agC(ha:PE X a ta)(hb:PE X (.BoolOp .And (b::rest) pos) tb):PE X (.BoolOp .And (a::b::rest) pos) (ag9 ta tb):=by
 intro pins s σ H Q I h;refine BoolOp_and (thn (ha pins s σ H _ I h) λ v s1 hq3=>?_);obtain⟨x,H1,I1,r1,q1⟩:=hq3;obtain⟨c,rfl,q1⟩:=q1;cases r1;refine wpAny_truthy_bool ?_;cases c with
 | true=>exact hb pins s1 σ H1 Q I1 q1
 | false=>exact⟨.bl false,H1,I1,rfl,q1⟩
theorem agD(ha:PE X a ta):PE X (.UnaryOp .Not a pos) (ahw ta):=by intro pins s σ H Q I h;refine UnaryOp_ (thn (ha pins s σ H _ I h) λ v s1 hq4=>?_);obtain⟨x,H1,I1,r1,q1⟩:=hq4;obtain⟨c,rfl,q1⟩:=q1;cases r1;exact not_of (wpAny_truthy_bool ⟨.bl (!c),H1,I1,rfl,q1⟩)
def tIf(t:TT)(ta tb:TE):TE:=λ σ H Q=>t σ H λ c H1=>if c=true then ta σ H1 Q else tb σ H1 Q
theorem aa2{c:Expr}(hc:PT X c tA)(ha:PE X a ta)(hb:PE X b tb):PE X (.IfExp c a b pos) (tIf tA ta tb):=by
 intro pins s σ H Q I h;refine wpAny_IfExp (thn (hc pins s σ H _ I h) λ d s1 hq5=>?_);obtain⟨H1,I1,q1⟩:=hq5;cases d with
 | true=>exact ha pins s1 σ H1 Q I1 q1
 | false=>exact hb pins s1 σ H1 Q I1 q1
end
def SqL(K:PySem.W.Frag)(H:Hp)(a:Addr)(xs:List V):Prop:=
 Rd H a (.lst xs) \/
  ∃ (o:Obj) (its:Array Value) (n:Nat),K.lookup a=some o/\o.cls=.type "list" /\ o.dict=none/\o.data=.seq its n/\its.size<=sizeLine/\Vals xs its.toList
def SqT(K:PySem.W.Frag)(H:Hp)(a:Addr)(xs:List V):Prop:=
 Rd H a (.tup xs) \/
  ∃ (o:Obj) (its:Array Value) (n:Nat),K.lookup a=some o/\o.cls=.type "tuple" /\ o.dict=none/\o.data=.seq its n/\its.size<=sizeLine/\Vals xs its.toList
def ai0:Value->Option V
 | .none=>some .non
 | .bool b=>some (.bl b)
 | .int i _=>some (.int i)
 | .str x _=>some (.str x)
 | .bytes b _=>some (.byt b)
 | .float b _=>some (.flt b)
 | .ref a=>some (.ref a)
 | .type n=>some (.ty n)
 | _=>none
theorem RelV.abs{x:V}{u:Value}(r:RelV x u):ai0 u=some x:=by
 cases x with
 | non=>cases r;rfl
 | bl _=>cases r;rfl
 | int _=>obtain⟨t,rfl⟩:=r;rfl
 | str _=>obtain⟨t,rfl⟩:=r;rfl
 | byt _=>obtain⟨t,rfl⟩:=r;rfl
 | flt _=>obtain⟨t,rfl⟩:=r;rfl
 | ref _=>cases r;rfl
 | ty _=>cases r;rfl
theorem RelV.inj{x y:V}{u:Value}(r:RelV x u)(q:RelV y u):x=y:=Option.some.inj (r.abs.symm.trans q.abs)
theorem Vals.inj:∀ {xs ys:List V} {us:List Value},Vals xs us->Vals ys us->xs=ys
 | _,_,_,.nil,.nil=>rfl
 | _,_,_,.cons r t,.cons r' t'=>by rw[r.inj r',Vals.inj t t']
section
variable {X:Cx}{pins:List (Addr×Obj)}{σ:St}{H:Hp}{s:Shared}{a:Addr}{xs ys:List V}
theorem SqL.of{K:PySem.W.Frag}(h:H a=some (.lst xs)):SqL K H a xs:=.inl (.inl h)
theorem Inv.list(I:Inv X pins σ H s)(h:SqL X.K H a xs):∃ its:List Value,Vals xs its/\PlainL s.heap a its.toArray/\xs.length<=sizeLine:=by
 rcases h with h | ⟨o,its,n,hk,hc,hd,hs,hz,r⟩
 ·obtain⟨z,its,n,r,e⟩:=h.ok I.hok;exact⟨its,r,⟨_,n,e,rfl,rfl,rfl⟩,z⟩
 ·refine⟨its.toList,r,⟨o,n,I.kIn a o hk,hc,hd,by simpa using hs⟩,?_⟩;have e:=r.length;simp only[Array.length_toList] at e;omega
theorem Inv.aic(I:Inv X pins σ H s)(h:SqT X.K H a xs):∃ its:List Value,Vals xs its/\abR s.heap a its.toArray/\xs.length<=sizeLine:=by
 rcases h with h | ⟨o,its,n,hk,hc,hd,hs,hz,r⟩
 ·obtain⟨z,its,r,p⟩:=h.ok I.hok;exact⟨its,r,p,z⟩
 ·refine⟨its.toList,r,⟨o,I.kIn a o hk,hc,hd,n,by simpa using hs⟩,?_⟩;have e:=r.length;simp only[Array.length_toList] at e;omega
theorem Inv.tuple(I:Inv X pins σ H s)(h:SqT X.K H a xs):∃ its:List Value,Vals xs its/\IsTup s.heap a its.toArray/\xs.length<=sizeLine:=by obtain⟨its,r,p,z⟩:=I.aic h;exact⟨its,r,p.tup,z⟩
theorem Inv.uD(I:Inv X pins σ H s)(h:SqL X.K H a xs)(h':SqL X.K H a ys):xs=ys:=by
 obtain⟨its,r,⟨o,n,e,_,_,d⟩,_⟩:=I.list h;obtain⟨its',r',⟨o',n',e',_,_,d'⟩,_⟩:=I.list h';rw[e] at e';cases e';rw[d] at d'
 injection d' with d1 _
 have:its=its':=by simpa using congrArg Array.toList d1
 subst this;exact r.inj r'
theorem Inv.yq(I:Inv X pins σ H s)(h:SqT X.K H a xs)(h':SqT X.K H a ys):xs=ys:=by
 obtain⟨its,r,⟨o,e,_,n,d⟩,_⟩:=I.tuple h;obtain⟨its',r',⟨o',e',_,n',d'⟩,_⟩:=I.tuple h';rw[e] at e';cases e';rw[d] at d'
 injection d' with d1 _
 have:its=its':=by simpa using congrArg Array.toList d1
 subst this;exact r.inj r'
end
abbrev Cx.zM(X:Cx)(E:Value->Shared->Prop):Cx:={X with xe:=E}
abbrev Cx.nox(X:Cx):Cx:=X.zM λ _ _=>False
theorem Cx.Ok.zM{X:Cx}(ok:X.Ok)(E:Value->Shared->Prop):(X.zM E).Ok:=
 ⟨ok.mod,ok.kind,ok.glob,ok.blt,ok.above,ok.inj,ok.has,ok.cab,ok.hd,ok.frames,ok.stk,ok.exf,ok.bs,ok.bsz,ok.noex,ok.exfs,ok.sA,ok.frf⟩
theorem Cx.Ok.jH{X:Cx}{E:Value->Shared->Prop}(ok:(X.zM E).Ok):X.Ok:=
 ⟨ok.mod,ok.kind,ok.glob,ok.blt,ok.above,ok.inj,ok.has,ok.cab,ok.hd,ok.frames,ok.stk,ok.exf,ok.bs,ok.bsz,ok.noex,ok.exfs,ok.sA,ok.frf⟩
section
variable {X:Cx}{pins:List (Addr×Obj)}{σ:St}{H:Hp}{s:Shared}{E:Value->Shared->Prop}
theorem Inv.zM(I:Inv X pins σ H s)(E:Value->Shared->Prop):Inv (X.zM E) pins σ H s:=⟨I.ok.zM E,I.os,I.bare,I.base,I.loc,I.cell,I.free,I.freeC,I.pin,I.hok,I.len⟩
theorem Inv.jH(I:Inv (X.zM E) pins σ H s):Inv X pins σ H s:=⟨I.ok.jH,I.os,I.bare,I.base,I.loc,I.cell,I.free,I.freeC,I.pin,I.hok,I.len⟩
theorem SP.jH{D:Ends}{f:Flow}{s':Shared}(h:SP (X.zM E) pins D f s'):SP X pins D f s':=by
 cases f with
 | next=>obtain⟨σ',H',I,q⟩:=h;exact⟨σ',H',I.jH,q⟩
 | brk=>obtain⟨σ',H',I,q⟩:=h;exact⟨σ',H',I.jH,q⟩
 | cont=>obtain⟨σ',H',I,q⟩:=h;exact⟨σ',H',I.jH,q⟩
 | ret u=>obtain⟨v,σ',H',I,r,q⟩:=h;exact⟨v,σ',H',I.jH,r,q⟩
theorem PSs.nox{st:List Stmt}{t:TS}(h:PSs X.nox st t):PSs X st t:=λ pins s σ H D I hw =>
 wpAny_mono (h pins s σ H D (I.zM _) hw) (λ _ _ q=>q.jH) λ _ _ z=>False.elim z
end
section
variable {X:Cx}{st:Stmt}{rest:List Stmt}{t u:TS}{e:Expr}{te:TE}{pos:Pos}
def ahW:TS:=λ D σ H=>D.nx σ H
def aiW(t u:TS):TS:=λ D σ H=>t {D with nx:=u D} σ H
theorem adX:PSs X [] ahW:=λ _ _ σ H _ I h=>wpAny_execs_nil ⟨σ,H,I,h⟩
theorem zS(h1:PS X st t)(h2:PSs X rest u):PSs X (st::rest) (aiW t u):=by
 intro pins s σ H D I h;refine wpAny_execs_cons (thn (h1 pins s σ H {D with nx:=u D} I h) λ f s1 q=>?_);cases f with
 | next =>
  obtain⟨σ',H',I',q⟩:=q;exact h2 pins s1 σ' H' D I' q
 | ret v=>exact q
 | brk=>exact q
 | cont=>exact q
theorem adt(h1:PS X st t):PSs X [st] t:=by
 intro pins s σ H D I h;refine wpAny_execs_cons (thn (h1 pins s σ H D I h) λ f s1 q=>?_);cases f with
 | next=>exact wpAny_execs_nil q
 | ret v=>exact q
 | brk=>exact q
 | cont=>exact q
theorem Inv.quiet{pins:List (Addr×Obj)}{σ:St}{H:Hp}{s:Shared}(I:Inv X pins σ H s):interactive X.env=false:=by simp[interactive,I.ok.kind]
def ahS(te:TE):TS:=λ D σ H=>te σ H λ _ H1=>D.nx σ H1
theorem ack(he:PE X e te)(hs:swapsWith e none pos.line X.env=pure false:=by rfl):PS X (.Expr e pos) (ahS te):=by intro pins s σ H D I h;exact wpAny_Expr_any (thn (he pins s σ H _ I h) λ v s1 ⟨x,H1,I1,r1,q1⟩=>⟨σ,H1,I1,q1⟩) I.quiet hs
def aiM(te:TE):TS:=λ D σ H=>te σ H D.rt
theorem afw(he:PE X e te):PS X (.Return (some e) pos) (aiM te):=by intro pins s σ H D I h;exact wpAny_Return_some (thn (he pins s σ H _ I h) λ v s1 ⟨x,H1,I1,r1,q1⟩=>⟨x,σ,H1,I1,r1,q1⟩)
def ajf(c:TT)(t u:TS):TS:=λ D σ H=>c σ H λ b H1=>if b=true then t D σ H1 else u D σ H1
theorem ahR{c:Expr}{a b:List Stmt}{tc:TT}(hc:PT X c tc)(ha:PSs X a t)(hb:PSs X b u):PS X (.If c a b pos) (ajf tc t u):=by
 intro pins s σ H D I h;refine wpAny_If (thn (hc pins s σ H _ I h) λ d s1 hq6=>?_);obtain⟨H1,I1,q1⟩:=hq6;cases d with
 | true=>exact ha pins s1 σ H1 D I1 q1
 | false=>exact hb pins s1 σ H1 D I1 q1
end
abbrev TG:=V->St->Hp->(St->Hp->Prop)->Prop
abbrev TGs:=List V->St->Hp->(St->Hp->Prop)->Prop
def PG(X:Cx)(target:Expr)(t:TG):Prop:=
 ∀ (pins:List (Addr×Obj)) (s:Shared) (σ:St) (H:Hp) (v:V) (u:Value) (Q:St->Hp->Prop),Inv X pins σ H s->RelV v u->t v σ H Q ->
  wpAny (model X.prog X.w) X.A (assign target X.env u) (λ _ s'=>∃ σ' H',Inv X pins σ' H' s'/\Q σ' H') X.xe s
def PGs(X:Cx)(ts:List Expr)(t:TGs):Prop:=
 ∀ (pins:List (Addr×Obj)) (s:Shared) (σ:St) (H:Hp) (vs:List V) (us:List Value) (Q:St->Hp->Prop),Inv X pins σ H s->Vals vs us->t vs σ H Q ->
  wpAny (model X.prog X.w) X.A (assignInOrder ((assignEach ts X.env).map (·.2)) us) (λ _ s'=>∃ σ' H',Inv X pins σ' H' s'/\Q σ' H') X.xe s
abbrev aeV:=V->V->V->Hp->(Hp->Prop)->Prop
def agS(X:Cx)(t:aeV):Prop:=
 ∀ (pins:List (Addr×Obj)) (s:Shared) (σ:St) (H:Hp) (o i v:V) (ov iv u:Value) (Q:Hp->Prop),Inv X pins σ H s->RelV o ov->RelV i iv->RelV v u->t o i v H Q ->
  wpAny (model X.prog X.w) X.A (setItem ov iv u) (λ _ s'=>∃ H',Inv X pins σ H' s'/\Q H') X.xe s
abbrev TIp:=V->V->Hp->VK->Prop
def PIp(X:Cx)(op:Operator)(t:TIp):Prop:=
 ∀ (pins:List (Addr×Obj)) (s:Shared) (σ:St) (H:Hp) (x y:V) (v u:Value) (Q:VK),Inv X pins σ H s->RelV x v->RelV y u->t x y H Q ->
  wpAny (model X.prog X.w) X.A (inplaceOp op v u) (EP X pins σ Q) X.xe s
section
variable {X:Cx}{pos:Pos}
def aaA(i:Nat):TG:=λ v σ H Q=>Q (σ.set i (some v)) H
theorem tH{i:Nat}{x:Str}(hN:X.N.Nodup)(hi:X.N[i]? =some x)(hx:Loc X.env.scope x)(hf:X.fn x=true\/X.env.scope.names.lookup x=some .local:=by first | exact .inl rfl | exact .inr rfl | assumption):PG X (.Name x pos) (aaA i):=by intro pins s σ H v u Q I r h;exact wpAny_assign_Name (ve I hN hi hx r (λ s' I'=>⟨_,H,I',h⟩) hf)
def ajc:TGs:=λ vs σ H Q=>vs=[]/\Q σ H
def ahq(t:TG)(u:TGs):TGs:=λ vs σ H Q=>∃ v r,vs=v::r/\t v σ H λ σ' H'=>u r σ' H' Q
theorem acD:PGs X [] ajc:=by intro pins s σ H vs us Q I r h;obtain⟨e,h⟩:=h;subst e;cases r;exact assignInOrder_nil ⟨σ,H,I,h⟩
theorem aay{e:Expr}{es:List Expr}{t:TG}{u:TGs}(h1:PG X e t)(h2:PGs X es u)
  (hs:(assignEach (e::es) X.env).map (·.2)=assign e X.env::(assignEach es X.env).map (·.2):=by rfl):PGs X (e::es) (ahq t u):=by
 intro pins s σ H vs us Q I r h;obtain⟨v,vr,e1,h⟩:=h;subst e1;cases r with
 | cons r rr =>
  rw[hs];refine assignInOrder_cons (thn (h1 pins s σ H _ _ _ I r h) λ _ s1 hq7=>?_);obtain⟨σ1,H1,I1,q1⟩:=hq7;exact h2 pins s1 σ1 H1 _ _ Q I1 rr q1
def ai7(K:PySem.W.Frag)(n:Nat)(t:TGs):TG:=λ v σ H Q=>∃ a xs,v=.ref a/\SqT K H a xs/\xs.length=n/\t xs σ H Q
theorem aey{es:List Expr}{k:Nat}{t:TGs}{n:Nat}(hc:X.calm=true)(h:PGs X es t)
  (hn:(assignEach es X.env).length=n:=by rfl)(hst:(assignEach es X.env).findIdx? (·.1)=none:=by rfl):PG X (.Tuple es k pos) (ai7 X.K n t):=by
 intro pins s σ H v u Q I r hw;obtain⟨a,xs,e1,hq,hl,hw⟩:=hw;subst e1;cases r;obtain⟨its,rv,ht,hz⟩:=I.tuple hq;refine assign_Tuple_tuple (I.ok.hd hc) ht (by simp[hn,<- hl,rv.length]) hst λ h' hx=>?_;have I1:Inv X pins σ H {s with heap:=h'}:=I.kept (t':=s.toks) λ b o e=>hx b o (Nat.ne_of_lt (Heap.lt_size e)) e;exact h pins _ σ H xs _ Q I1 (by simpa using rv) hw
def ai8(to ti:TE)(t:aeV):TG:=λ v σ H Q=>to σ H λ o H1=>ti σ H1 λ i H2=>t o i v H2 λ H3=>Q σ H3
theorem ae4{o i:Expr}{to ti:TE}{t:aeV}(ho:PE X o to)(hi:PE X i ti)(hs:agS X t)
  (ha:∀ v,assign (.Subscript o i pos) X.env v=(do
   let ov <- holding [v] (eval o X.env)
   let iv <- holding [v,ov] (eval i X.env)
   standAt pos
   holding [v,ov,iv] (setItem ov iv v)
   release [v,ov,iv] []):=by intro _;rfl):PG X (.Subscript o i pos) (ai8 to ti t):=by
 intro pins s σ H v u Q I r h;rw[ha];refine wpAny_bind (wpAny_holding (thn (ho pins s σ H _ I h) λ ov s1 hq8=>?_));obtain⟨x,H1,I1,r1,q1⟩:=hq8;refine wpAny_bind (wpAny_holding (thn (hi pins s1 σ H1 _ I1 q1) λ iv s2 hq9=>?_));obtain⟨y,H2,I2,r2,q2⟩:=hq9;refine wpAny_bind (wpAny_standAt (wpAny_bind (wpAny_holding (thn (hs pins s2 σ H2 x y v ov iv u _ I2 r1 r2 r q2) λ _ s3 hq10=>?_))));obtain⟨H3,I3,q3⟩:=hq10;exact wpAny_release ⟨σ,H3,I3,q3⟩
def ago(te:TE)(g:TG):TS:=λ D σ H=>te σ H λ x H1=>g x σ H1 D.nx
theorem aeE{tg e:Expr}{te:TE}{g:TG}(he:PE X e te)(hg:PG X tg g)(hs:swapsWithSole [tg] e pos.line X.env=pure false:=by rfl)(hw:swappedStores [tg] e X.env=pure none:=by rfl)
  (h1:(assignEach [tg] X.env).map (·.2)=[assign tg X.env]:=by rfl):PS X (.Assign [tg] e pos) (ago te g):=by
 intro pins s σ H D I h;refine wpAny_Assign_stores (thn (he pins s σ H _ I h) λ v s1 ⟨x,H1,I1,r1,q1⟩=>?_) hs hw;rw[h1];exact thn (hg pins s1 σ H1 x v _ I1 r1 q1) λ _ s2 q=>q
theorem aeD{i:Nat}{x:Str}{e:Expr}{te:TE}{pos':Pos}(hN:X.N.Nodup)(hi:X.N[i]? =some x)(hx:Loc X.env.scope x)(he:PE X e te)(hs:swapsWith e (some (.Name x pos')) pos.line X.env=pure false:=by rfl)(hf:X.fn x=true\/X.env.scope.names.lookup x=some .local:=by first | exact .inl rfl | exact .inr rfl | assumption) :
  PS X (.Assign [.Name x pos'] e pos) (ago te (aaA i)):=by
 intro pins s σ H D I h;refine wpAny_Assign_Name (thn (he pins s σ H _ I h) λ v s1 ⟨y,H1,I1,r1,q1⟩=>?_) hs;exact ve I1 hN hi hx r1 (λ s2 I2=>⟨_,H1,I2,q1⟩) hf
def ahy(to ti te:TE)(eL:V->V->Hp->VK->Prop)(tip:TIp)(tset:aeV):TS:=λ D σ H=>to σ H λ o H1=>ti σ H1 λ i H2=>eL o i H2 λ x H3=>te σ H3 λ y H4=>tip x y H4 λ z H5=>tset o i z H5 λ H6=>D.nx σ H6
def ah6(X:Cx)(t:V->V->Hp->VK->Prop):Prop:=
 ∀ (pins:List (Addr×Obj)) (s:Shared) (σ:St) (H:Hp) (o i:V) (ov iv:Value) (Q:VK),Inv X pins σ H s->RelV o ov->RelV i iv->t o i H Q ->
  wpAny (model X.prog X.w) X.A (getItem ov iv) (EP X pins σ Q) X.xe s
theorem yO{o i e:Expr}{to ti te:TE}{eL:V->V->Hp->VK->Prop}{tip:TIp}{tset:aeV}{op:Operator}{tpos:Pos}(ho:PE X o to)(hi:PE X i ti)(hg:ah6 X eL)(he:PE X e te)(hp:PIp X op tip)(hs:agS X tset)
  (ha:∀ ov iv new,augStore i ov iv new=(do holding [new,ov,iv] (setItem ov iv new);release [new,ov,iv] [];pure .next):=by intros;rfl):PS X (.AugAssign (.Subscript o i tpos) op e pos) (ahy to ti te eL tip tset):=by
 intro pins s σ H D I h;refine wpAny_AugAssign_SubscriptAny (thn (ho pins s σ H _ I h) λ ov s1 ⟨x1,H1,I1,r1,q1⟩=>?_) ha;refine thn (hi pins s1 σ H1 _ I1 q1) λ iv s2 hq11=>?_;obtain⟨x2,H2,I2,r2,q2⟩:=hq11;refine thn (hg pins s2 σ H2 x1 x2 ov iv _ I2 r1 r2 q2) λ old s3 hq12=>?_;obtain⟨x3,H3,I3,r3,q3⟩:=hq12;refine thn (he pins s3 σ H3 _ I3 q3) λ v s4 hq13=>?_;obtain⟨x4,H4,I4,r4,q4⟩:=hq13;refine thn (hp pins s4 σ H4 x3 x4 old v _ I4 r3 r4 q4) λ new s5 hq14=>?_;obtain⟨x5,H5,I5,r5,q5⟩:=hq14;exact thn (hs pins s5 σ H5 x1 x2 x5 ov iv new _ I5 r1 r2 r5 q5) λ _ s6 ⟨H6,I6,q6⟩=>⟨σ,H6,I6,q6⟩
def ipI(f:Int->Int->Int):TIp:=λ x y H Q=>∃ i j,x=.int i/\y=.int j/\Q (.int (f i j)) H
theorem vc:PIp X .Add (ipI λ i j=>i+j):=by intro pins s σ H x y v u Q I r1 r2 h;obtain⟨i,j,e1,e2,q⟩:=h;subst e1;subst e2;obtain⟨t,rfl⟩:=r1;obtain⟨t',rfl⟩:=r2;exact iadd_int ⟨.int _,H,I.tok _,⟨_,rfl⟩,q⟩
theorem abF:PIp X .Sub (ipI λ i j=>i-j):=by intro pins s σ H x y v u Q I r1 r2 h;obtain⟨i,j,e1,e2,q⟩:=h;subst e1;subst e2;obtain⟨t,rfl⟩:=r1;obtain⟨t',rfl⟩:=r2;exact isub_int ⟨.int _,H,I.tok _,⟨_,rfl⟩,q⟩
end
section
variable {X:Cx}{pos:Pos}
def afi(c:TT)(tb:TS):TS:=λ D σ H=>∃ W:Nat->St->Hp->Prop,(∃ m,W m σ H)/\∀ m σ H,W m σ H ->
 c σ H λ b H1=>if b=true then ∃ N:St->Hp->Prop,(∀ σ' H',N σ' H'->∃ m',m'<m/\W m' σ' H')/\tb {D with nx:=N,ct:=N,bk:=D.nx} σ H1 else D.nx σ H1
theorem aaL{c:Expr}{body:List Stmt}{tc:TT}{tb:TS}(hp:PassesOwn (model X.prog X.w) X.A X.env X.xe)(hc:PT X c tc)(hb:PSs X body tb):PS X (.While c body [] pos) (afi tc tb):=by
 intro pins s σ H D I h;obtain⟨W,⟨m0,w0⟩,turn⟩:=h;refine wpAny_While (codeAny_whileLoop (λ n s'=>∃ σ' H',Inv X pins σ' H' s'/\W n σ' H') ?_ m0 ⟨σ,H,I,w0⟩);rintro n s1 ⟨σ1,H1,I1,w1⟩;refine wpAny_passesOwn hp (thn (hc pins s1 σ1 H1 _ I1 (turn n σ1 H1 w1)) λ b s2 hq15=>?_);obtain⟨H2,I2,q2⟩:=hq15;cases b with
 | true =>
  obtain⟨N,hN,q2⟩:=q2;rw[if_pos rfl];refine wpAny_passesOwn hp (thn (hb pins s2 σ1 H2 _ I2 q2) λ f s3 q3=>?_);cases f with
  | next =>
   obtain⟨σ3,H3,I3,n3⟩:=q3;obtain⟨m',hm,w3⟩:=hN σ3 H3 n3;exact⟨m',hm,σ3,H3,I3,w3⟩
  | cont =>
   obtain⟨σ3,H3,I3,n3⟩:=q3;obtain⟨m',hm,w3⟩:=hN σ3 H3 n3;exact⟨m',hm,σ3,H3,I3,w3⟩
  | brk=>exact q3
  | ret v=>exact q3
 | false =>
  rw[if_neg Bool.false_ne_true];exact wpAny_execs_nil ⟨σ1,H2,I2,q2⟩
end
structure It where
 go:Nat->Hp->Prop
 yld:Nat->Hp->V->Hp->Prop
 stop:Nat->Hp->Prop
def mz(X:Cx)(pins:List (Addr×Obj))(H:Hp)(b:Addr):Prop:=
 H b=none/\b≠X.env.locals/\b ∉ X.fs/\(b∈X.ex\/X.s₀.heap.objs.size<=b)/\(∀ x c,X.env.cells.lookup x=some c->c≠b)/\∀ p∈X.pn++pins,p.1≠b
theorem Inv.p9{X:Cx}{pins:List (Addr×Obj)}{σ:St}{H H':Hp}{s:Shared}{b:Addr}(I:Inv X pins σ H s)(hb:s.heap.objs.size<=b)(hn:H' b=none):mz X pins H' b:=by
 refine⟨hn,Nat.ne_of_gt (Nat.lt_of_lt_of_le I.lt hb),I.aiC hb,.inr (Nat.le_trans I.sz hb),λ x c e z=>?_,λ p hp z=>?_⟩
 ·obtain⟨v,q⟩:=I.cell x c e;exact absurd (Nat.lt_of_lt_of_le q.lt (by rw[z];exact hb)) (Nat.lt_irrefl _)
 ·exact absurd (Nat.lt_of_lt_of_le (Heap.lt_size (I.pin p hp).1) (by rw[z];exact hb)) (Nat.lt_irrefl _)
structure Turn(P:Program)(w:World)(K:PySem.W.Frag)(tg:Expr)(J:It)(fp:List Addr)(it:Addr)(tn:Nat->Heap->Prop):Prop where
 mem:it∈fp
 obj:∀ i h,tn i h->∀ b∈fp,∃ o,h.get? b=some o/\∀ v,o.data ≠ .cell v
 keep:∀ i h h',tn i h->(∀ b∈fp,∀ o,h.get? b=some o->h'.get? b=some o)->tn i h'
 item:∀ (X:Cx),X.prog=P->X.w=w->X.K=K->X.calm=true->∀ (i:Nat) (pins:List (Addr×Obj)) (s:Shared) (σ:St) (H:Hp) (E:Value->Shared->Prop),Inv X pins σ H s->(∀ b∈fp,mz X pins H b)->tn i s.heap->J.go i H ->
  wpAny (model P w) X.A (pyNext (.ref it)) (λ r s1=>∃ u,r=some u /\
   wpAny (model P w) X.A (letOwnedTupleGo tg (.ref it) u) (λ _ s2=>∃ x H',Inv X pins σ H' s2/\RelV x u/\J.yld i H x H'/\tn (i+1) s2.heap/\∀ b∈fp,H' b=none) E s1) E s
 done:∀ (X:Cx),X.prog=P->X.w=w->X.K=K->X.calm=true->∀ (i:Nat) (pins:List (Addr×Obj)) (s:Shared) (σ:St) (H:Hp) (E:Value->Shared->Prop),Inv X pins σ H s->(∀ b∈fp,mz X pins H b)->tn i s.heap->J.stop i H ->
  wpAny (model P w) X.A (pyNext (.ref it)) (λ r s1=>r=none/\Inv X pins σ H s1) E s
 self:∀ (A:Around) (i:Nat) (s:Shared) (Q:Value->Shared->Prop) (E:Value->Shared->Prop),tn i s.heap->Q (.ref it) s->wpAny (model P w) A (pyIter (.ref it)) Q E s
abbrev TI:=St->Hp->(It->Hp->Prop)->Prop
def PIE(X:Cx)(pins:List (Addr×Obj))(σ:St)(tg:Expr)(R:It->Hp->Prop)(itv:Value)(s2:Shared):Prop:=
 ∃ (it:Addr) (fp:List Addr) (tn:Nat->Heap->Prop) (J:It) (H':Hp),itv=.ref it/\Inv X pins σ H' s2/\Turn X.prog X.w X.K tg J fp it tn/\tn 0 s2.heap/\(∀ b∈fp,mz X pins H' b)/\R J H'
def PI(X:Cx)(tg iter:Expr)(wi:TI):Prop:=
 ∀ (pins:List (Addr×Obj)) (s:Shared) (σ:St) (H:Hp) (R:It->Hp->Prop),Inv X pins σ H s->wi σ H R ->
  wpAny (model X.prog X.w) X.A (eval iter X.env) (λ v s1=>wpAny (model X.prog X.w) X.A (pyIter v) (PIE X pins σ tg R) X.xe s1) X.xe s
theorem vA{M:Model}{A:Around}{E:Value->Shared->Prop}{s:Shared}{tg:Expr}{it:Addr}{u:Value}{o:Obj}{n:String}{vs:Array Value}{Q:Unit->Shared->Prop}(ho:s.heap.get? it=some o)(hc:o.cls=.type n)(hd:o.data=.fields vs)
  (hn:["enumerate", "zip", "dict_itemiterator", "dict_reverseitemiterator", "odict_iterator", "itertools.zip_longest", "itertools.pairwise"].contains n=false)(hQ:Q () s):wpAny M A (letOwnedTupleGo tg (.ref it) u) Q E s:=by
 unfold letOwnedTupleGo;cases tg<;>first
  | exact wpAny_pure hQ
  | (cases u<;>first
    | exact wpAny_pure hQ
    | (refine wpAny_bind (wpAny_load ho ?_)
       rw[hc,hd];show wpAny M A (if (["enumerate", "zip", "dict_itemiterator", "dict_reverseitemiterator", "odict_iterator", "itertools.zip_longest", "itertools.pairwise"].contains n&&vs[0]? == some (rawInt _))=true then _ else _) Q E s;rw[if_neg (by intro h;rw[hn,Bool.false_and] at h;cases h)];exact wpAny_pure hQ))
def Itl(K:PySem.W.Frag)(a:Addr):It:=
 ⟨λ i H=>∃ xs x,SqL K H a xs/\xs[i]? =some x,λ i H x H'=>H'=H/\∀ xs,SqL K H a xs->xs[i]? =some x,λ i H=>∃ xs,SqL K H a xs/\xs.length<=i⟩
def Itt(K:PySem.W.Frag)(a:Addr):It:=
 ⟨λ i H=>∃ xs x,SqT K H a xs/\xs[i]? =some x,λ i H x H'=>H'=H/\∀ xs,SqT K H a xs->xs[i]? =some x,λ i H=>∃ xs,SqT K H a xs/\xs.length<=i⟩
def Itr(lo:Int)(n:Nat):It:=⟨λ i _=>i<n,λ i H x H'=>H'=H/\x=.int (lo+i),λ i _=>n<=i⟩
theorem zl{P:Program}{w:World}{K:PySem.W.Frag}{tg:Expr}(a it:Addr):Turn P w K tg (Itl K a) [it] it (λ i h=>h.IsListIter it a i) where
 mem:=by simp
 obj:=λ i h st b hb=>by
  have e:b=it:=by simpa using hb
  subst e;obtain⟨o,e,c,d⟩:=st;exact⟨o,e,λ v z=>by rw[d] at z;cases z⟩
 keep:=λ i h h' st k=>st.at λ o e=>k it (by simp) o e
 item:=by intro X hP hw hK hc i pins s σ H E I hf st hg;subst hP hw hK;obtain⟨xs,x,hq,hx⟩:=hg;obtain⟨its,rv,p,hz⟩:=I.list hq;obtain⟨u,hu,ru⟩:=rv.get hx;obtain⟨f0,f1,f2,f3,f4,f5⟩:=hf it (by simp);refine wpAny_pyNext_list_item st p.isList (x:=u) (by simpa using hu) λ h' st' sb=>?_;have I1:Inv X pins σ H {s with heap:=h'}:=I.turned (t':=s.toks) (λ b o hb e=>(sb.2 b hb).trans e) f0 f1 f3 f4 f5;obtain⟨o,e,c,d⟩:=id st';exact⟨u,rfl,vA (s:={s with heap:=h'}) e c d (by decide) ⟨x,H,I1,ru,⟨rfl,λ ys hy=>by rw[I.uD hy hq];exact hx⟩,st',λ b hb=>(hf b hb).1⟩⟩
 done:=by intro X hP hw hK hc i pins s σ H E I hf st hg;subst hP hw hK;obtain⟨xs,hq,hx⟩:=hg;obtain⟨its,rv,p,hz⟩:=I.list hq;obtain⟨f0,f1,f2,f3,f4,f5⟩:=hf it (by simp);have hl:=rv.length;exact wpAny_pyNext_list_end (I.ok.hd hc) st p.isList (by simp;omega) λ h' eb=>⟨rfl,I.turned (t':=s.toks) (λ b o hb e=>eb b o hb e) f0 f1 f3 f4 f5⟩
 self:=λ _ _ _ _ _ st h=>wpAny_pyIter_listiter st h
theorem vV{P:Program}{w:World}{K:PySem.W.Frag}{tg:Expr}(a it:Addr):Turn P w K tg (Itt K a) [it] it (λ i h=>h.IsTupleIter it a i) where
 mem:=by simp
 obj:=λ i h st b hb=>by
  have e:b=it:=by simpa using hb
  subst e;obtain⟨o,e,c,d⟩:=st;exact⟨o,e,λ v z=>by rw[d] at z;cases z⟩
 keep:=λ i h h' st k=>st.at λ o e=>k it (by simp) o e
 item:=by intro X hP hw hK hc i pins s σ H E I hf st hg;subst hP hw hK;obtain⟨xs,x,hq,hx⟩:=hg;obtain⟨its,rv,p,hz⟩:=I.tuple hq;obtain⟨u,hu,ru⟩:=rv.get hx;obtain⟨f0,f1,f2,f3,f4,f5⟩:=hf it (by simp);refine wpAny_pyNext_tuple_item st (show s.heap.IsTuple a its.toArray from p) (x:=u) (by simpa using hu) λ h' st' sb=>?_;have I1:Inv X pins σ H {s with heap:=h'}:=I.turned (t':=s.toks) (λ b o hb e=>(sb.2 b hb).trans e) f0 f1 f3 f4 f5;obtain⟨o,e,c,d⟩:=id st';exact⟨u,rfl,vA (s:={s with heap:=h'}) e c d (by decide) ⟨x,H,I1,ru,⟨rfl,λ ys hy=>by rw[I.yq hy hq];exact hx⟩,st',λ b hb=>(hf b hb).1⟩⟩
 done:=by intro X hP hw hK hc i pins s σ H E I hf st hg;subst hP hw hK;obtain⟨xs,hq,hx⟩:=hg;obtain⟨its,rv,p,hz⟩:=I.tuple hq;obtain⟨f0,f1,f2,f3,f4,f5⟩:=hf it (by simp);have hl:=rv.length;exact wpAny_pyNext_tuple_end (I.ok.hd hc) st (show s.heap.IsTuple a its.toArray from p) (by simp;omega) λ h' eb=>⟨rfl,I.turned (t':=s.toks) (λ b o hb e=>eb b o hb e) f0 f1 f3 f4 f5⟩
 self:=λ _ _ _ _ _ st h=>wpAny_pyIter_tupleiter st h
theorem vO{P:Program}{w:World}{K:PySem.W.Frag}{tg:Expr}(it:Addr)(lo:Int)(n:Nat):Turn P w K tg (Itr lo n) [it] it (λ i h=>IsRangeIter h it (lo+(i:Nat) * 1) ((n:Int)-(i:Nat)) 1) where
 mem:=by simp
 obj:=λ i h st b hb=>by
  have e:b=it:=by simpa using hb
  subst e;exact⟨_,st,λ v z=>by have z':Data.fields _=Data.cell v:=z;cases z'⟩
 keep:=λ i h h' st k=>k it (by simp) _ st
 item:=by intro X hP hw hK hc i pins s σ H E I hf st hg;subst hP hw hK;obtain⟨f0,f1,f2,f3,f4,f5⟩:=hf it (by simp);have W:=Walks.range (prog:=X.prog) (w:=X.w) (I.ok.hd hc) it lo 1 n;refine W.item i s _ _ hg st λ v h' tk hv st' kk=>?_;obtain⟨t,rfl⟩:=hv;have I1:Inv X pins σ H {s with heap:=h',toks:=tk}:=I.turned (λ b o hb e=>kk b o (by simpa using hb) e) f0 f1 f3 f4 f5;refine⟨_,rfl,vA (s:={s with heap:=h',toks:=tk}) (n:= "range_iterator") st' rfl rfl (by decide) ⟨.int (lo+i),H,I1,⟨t,?_⟩,⟨rfl,rfl⟩,st',λ b hb=>(hf b hb).1⟩⟩;rw[Int.mul_one]
 done:=by intro X hP hw hK hc i pins s σ H E I hf st hg;subst hP hw hK;obtain⟨f0,f1,f2,f3,f4,f5⟩:=hf it (by simp);exact wpAny_pyNext_range_end (I.ok.hd hc) st (by have:n<=i:=hg;omega) λ h' eb=>⟨rfl,I.turned (t':=s.toks) (λ b o hb e=>eb b o hb e) f0 f1 f3 f4 f5⟩
 self:=λ _ _ _ _ _ st h=>wpAny_pyIter_rangeiter st h
section
variable {X:Cx}{tg:Expr}
theorem aaX{pins:List (Addr×Obj)}{σ:St}{H:Hp}{s:Shared}{R:It->Hp->Prop}{E:Value->Shared->Prop}{lo hi:Int}{t u v:Tok}{tk:Nat}(I:Inv X pins σ H s)(h1:-(2 ^ 62)<=lo)(h2:lo<2 ^ 62)(h3:-(2 ^ 62)<=hi)(h4:hi<2 ^ 62)
  (q:R (Itr lo (hi-lo).toNat) H):wpAny (model X.prog X.w) X.A (pyIter (.ref s.heap.objs.size)) (PIE X pins σ tg R) E {s with heap:=s.heap.push {cls:=.type "range",data:=.fields #[.int lo t,.int hi u,.int 1 v]},toks:=tk}:=by
 refine wpAny_pyIter_range (IsRange.new ..) (small_one h1 h2 h3 h4) ?_;have I1:Inv X pins σ H {s with heap:=s.heap.push {cls:=.type "range",data:=.fields #[.int lo t,.int hi u,.int 1 v]},toks:=tk}:=I.kept λ b o e=>Heap.get?_push_of_some _ e;refine⟨(s.heap.push {cls:=.type "range",data:=.fields #[.int lo t,.int hi u,.int 1 v]}).objs.size,[(s.heap.push {cls:=.type "range",data:=.fields #[.int lo t,.int hi u,.int 1 v]}).objs.size],_,_,H,rfl,
  I1.kept (t':=tk) λ b o e=>Heap.get?_push_of_some _ e,vO _ lo (hi-lo).toNat,?_,λ b hb=>?_,q⟩
 ·have e1:lo+((0:Nat):Int) * 1=lo:=by simp
  have e2:(((hi-lo).toNat:Nat):Int)-((0:Nat):Int)=Builtin.Range.rangeSize lo hi 1:=by rw[rangeSize_one];split<;>omega
  show IsRangeIter _ _ (lo+((0:Nat):Int) * 1) ((((hi-lo).toNat:Nat):Int)-((0:Nat):Int)) 1;rw[e1,e2];exact Heap.get?_push_size _ rfl
 ·have e:b=(s.heap.push {cls:=.type "range",data:=.fields #[.int lo t,.int hi u,.int 1 v]}).objs.size:=by simpa using hb
  subst e;exact I1.p9 (Nat.le_refl _) (I1.hok.fresh (Nat.le_refl _))
def ahB(ta:TA):TI:=λ σ H R=>ta σ H λ vs H1=>∃ j:Int,vs=[.int j]/\-(2 ^ 62)<=j/\j<2 ^ 62/\R (Itr 0 j.toNat) H1
theorem zp{a:Expr}{ta:TA}{p pos:Pos}(hg:Gl X "range")(hm:X.mg "range" = none)(ha:PA X [a] ta)(hs:starEach [a] X.env=[(false,eval a X.env)]:=by rfl):PI X tg (.Call (.Name "range" p) [a] [] pos) (ahB ta):=by
 intro pins s σ H R I h;refine Call_ (lO I hg hm boot_range (PyProof.Rows.callWith_type1 (thn (ha pos pins s σ H _ I h) λ us s1 ⟨vs,H1,I1,r1,q1⟩=>?_) hs rfl));obtain⟨j,e,q1,q2,q⟩:=q1;subst e;cases r1 with
 | cons r rr =>
  cases rr;obtain⟨t,rfl⟩:=r;exact call_range_1 (aaX I1 (by omega) (by omega) q1 q2 (by simpa using q))
def aiK(wi:TI)(g:TG)(tb:TS):TS:=λ D σ H=>wi σ H λ J H1=>∃ W:Nat->Nat->St->Hp->Prop,(∃ m,W 0 m σ H1)/\∀ i m σ H,W i m σ H ->
 (J.stop i H/\D.nx σ H)\/(J.go i H/\∃ N:St->Hp->Prop,(∀ σ' H',N σ' H'->∃ m',m'<m/\W (i+1) m' σ' H')/\∀ x H',J.yld i H x H'->g x σ H' λ σ2 H2=>tb {D with nx:=N,ct:=N,bk:=D.nx} σ2 H2)
def kI(fp:List Addr)(h:Heap):List (Addr×Obj):=fp.filterMap λ b=>(h.get? b).map λ o=>(b,o)
theorem d0{fp:List Addr}{h:Heap}{b:Addr}{o:Obj}(hb:b∈fp)(e:h.get? b=some o):(b,o)∈kI fp h:=List.mem_filterMap.mpr ⟨b,hb,by rw[e];rfl⟩
theorem zm{fp:List Addr}{h:Heap}{p:Addr×Obj}(hp:p∈kI fp h):p.1∈fp/\h.get? p.1=some p.2:=by
 obtain⟨b,hb,e⟩:=List.mem_filterMap.mp hp;cases q:h.get? b with
 | none=>rw[q] at e;cases e
 | some o =>
  rw[q] at e;have e':(b,o)=p:=Option.some.inj e;subst e';exact⟨hb,q⟩
theorem Inv.pinned{pins:List (Addr×Obj)}{σ:St}{H:Hp}{s:Shared}{fp:List Addr}(I:Inv X pins σ H s)(hf:∀ b∈fp,mz X pins H b)(ho:∀ b∈fp,∃ o,s.heap.get? b=some o/\∀ v,o.data ≠ .cell v):Inv X (pins++kI fp s.heap) σ H s:=
 I.d5 λ p hp=>(List.mem_append.mp hp).elim (λ z=>I.pin p (List.mem_append_right _ z)) λ z=>by obtain⟨hb,e⟩:=zm z;obtain⟨f0,f1,f2,_⟩:=hf p.1 hb;obtain⟨o,e',d⟩:=ho p.1 hb;rw[e] at e';cases e';exact⟨e,f0,f1,f2,d⟩
theorem Inv.iP{pins pl:List (Addr×Obj)}{σ:St}{H:Hp}{s:Shared}(I:Inv X (pins++pl) σ H s):Inv X pins σ H s:=I.d5 λ p hp=>I.pin p (List.mem_append_right _ (List.mem_append_left _ hp))
theorem agc{iter:Expr}{body:List Stmt}{wi:TI}{g:TG}{tb:TS}{pos:Pos}(hp:PassesOwn (model X.prog X.w) X.A X.env X.xe)(hc:X.calm=true)(hi:PI X tg iter wi)(hg:PG X tg g)(hb:PSs X body tb)
  (hs:∀ x,foldedSetIterable iter X.env x=pure x:=by intro _;rfl):PS X (.For tg iter body [] pos) (aiK wi g tb):=by
 intro pins s σ H D I h;refine wpAny_For (thn (hi pins s σ H _ I h) λ v s1 h1=>thn h1 λ itv s2 h2=>?_) hs;obtain⟨it,fp,tn,J,H2,e,I2,T,st2,f2,W,⟨m0,w0⟩,turn⟩:=h2;subst e;have stat:∀ {H':Hp},(∀ b∈fp,H' b=none)->∀ b∈fp,mz X pins H' b:=λ hn b hb=>⟨hn b hb,(f2 b hb).2⟩;refine codeAny_forLoop_any (λ n s'=>∃ i σ' H',Inv X pins σ' H' s'/\tn i s'.heap/\(∀ b∈fp,H' b=none)/\W i n σ' H') ?_ m0 ⟨0,σ,H2,I2,st2,λ b hb=>(f2 b hb).1,w0⟩;rintro n s3 ⟨i,σ3,H3,I3,st3,fr3,w3⟩;rcases turn i n σ3 H3 w3 with ⟨stop,qn⟩ | ⟨go,N,hN,step⟩
 ·refine wpAny_passesOwn hp (thn (T.done X rfl rfl rfl hc i pins s3 σ3 H3 X.xe I3 (stat fr3) st3 stop) λ r s4 ⟨hr,I4⟩=>?_);subst hr;exact wpAny_execs_nil ⟨σ3,H3,I4,qn⟩
 ·refine wpAny_passesOwn hp (thn (T.item X rfl rfl rfl hc i pins s3 σ3 H3 X.xe I3 (stat fr3) st3 go) λ r s4 ⟨u,hr,h4⟩=>?_);subst hr;refine wpAny_passesOwn hp (thn h4 λ _ s5 hq16=>?_);obtain⟨x,H5,I5,r5,y5,st5,fr5⟩:=hq16;have I5':=I5.pinned (stat fr5) (T.obj _ _ st5);refine wpAny_passesOwn hp (thn (hg _ s5 σ3 H5 x u _ I5' r5 (step x H5 y5)) λ _ s6 hq17=>?_);obtain⟨σ6,H6,I6,q6⟩:=hq17;refine wpAny_passesOwn hp (thn (hb _ s6 σ6 H6 _ I6 q6) λ f s7 q7=>?_);have again:∀ {σ7:St} {H7:Hp},Inv X (pins++kI fp s5.heap) σ7 H7 s7->N σ7 H7->∃ m,m<n/\∃ i σ' H',Inv X pins σ' H' s7/\tn i s7.heap/\(∀ b∈fp,H' b=none)/\W i m σ' H':=λ {σ7 H7} I7 n7=>by obtain⟨m',hm,w7⟩:=hN σ7 H7 n7;refine⟨m',hm,i+1,σ7,H7,I7.iP,T.keep _ _ _ st5 λ b hb o e=>(I7.pin (b,o) (List.mem_append_right _ (List.mem_append_right _ (d0 hb e)))).1,λ b hb=>?_,w7⟩;obtain⟨o,e,d⟩:=T.obj _ _ st5 b hb;exact(I7.pin (b,o) (List.mem_append_right _ (List.mem_append_right _ (d0 hb e)))).2.1
  cases f with
  | next=>obtain⟨σ7,H7,I7,n7⟩:=q7;exact again I7 n7
  | cont=>obtain⟨σ7,H7,I7,n7⟩:=q7;exact again I7 n7
  | brk=>obtain⟨σ7,H7,I7,q7⟩:=q7;exact⟨σ7,H7,I7.iP,q7⟩
  | ret v=>obtain⟨x7,σ7,H7,I7,r7,q7⟩:=q7;exact⟨x7,σ7,H7,I7.iP,r7,q7⟩
end
abbrev R2:=V->V->Hp->VK->Prop
def OpR(X:Cx)(f:Value->Value->Sem Value)(r:R2):Prop:=
 ∀ (pins:List (Addr×Obj)) (s:Shared) (σ:St) (H:Hp) (x y:V) (v u:Value) (Q:VK),Inv X pins σ H s->RelV x v->RelV y u->r x y H Q ->
  wpAny (model X.prog X.w) X.A (f v u) (EP X pins σ Q) X.xe s
def UnR(X:Cx)(f:Value->Sem Value)(r:V->Hp->VK->Prop):Prop:=
 ∀ (pins:List (Addr×Obj)) (s:Shared) (σ:St) (H:Hp) (x:V) (v:Value) (Q:VK),Inv X pins σ H s->RelV x v->r x H Q ->
  wpAny (model X.prog X.w) X.A (f v) (EP X pins σ Q) X.xe s
def fC(X:Cx)(f:Value)(r:List V->Hp->VK->Prop):Prop:=
 ∀ (pins:List (Addr×Obj)) (s:Shared) (σ:St) (H:Hp) (xs:List V) (us:List Value) (Q:VK),Inv X pins σ H s->Vals xs us->r xs H Q ->
  wpAny (model X.prog X.w) X.A (call f us) (EP X pins σ Q) X.xe s
def ajg(X:Cx)(r:V->Hp->(Bool->Hp->Prop)->Prop):Prop:=
 ∀ (pins:List (Addr×Obj)) (s:Shared) (σ:St) (H:Hp) (x:V) (v:Value) (Q:Bool->Hp->Prop),Inv X pins σ H s->RelV x v->r x H Q ->
  wpAny (model X.prog X.w) X.A (truthy v) (TP X pins σ Q) X.xe s
def tOp(r:R2)(ta tb:TE):TE:=λ σ H Q=>ta σ H λ x H1=>tb σ H1 λ y H2=>r x y H2 Q
def tUn(r:V->Hp->VK->Prop)(ta:TE):TE:=λ σ H Q=>ta σ H λ x H1=>r x H1 Q
def rI(C:Int->Int->Prop)(g:Int->Int->V):R2:=λ x y H Q=>∃ i j,x=.int i/\y=.int j/\C i j/\Q (g i j) H
def rI0(g:Int->Int->V):R2:=λ x y H Q=>∃ i j,x=.int i/\y=.int j/\Q (g i j) H
def rU(g:Int->V):V->Hp->VK->Prop:=λ x H Q=>∃ i,x=.int i/\Q (g i) H
section
variable {X:Cx}{a b c:Expr}{ta tb tc:TE}{pos:Pos}
theorem ahn(ha:PE X a ta)(hb:PE X b tb){pins:List (Addr×Obj)}{s:Shared}{σ:St}{H:Hp}{R:V->V->Hp->Prop}(I:Inv X pins σ H s)
  (h:ta σ H λ x H1=>tb σ H1 λ y H2=>R x y H2){Q:Value->Shared->Prop}{f:Value->Value->Sem Value}
  (hf:∀ v u s2 x y H2,Inv X pins σ H2 s2->RelV x v->RelV y u->R x y H2->wpAny (model X.prog X.w) X.A (f v u) Q X.xe s2) :
  wpAny (model X.prog X.w) X.A (eval a X.env) (λ v s₁=>wpAny (model X.prog X.w) X.A (eval b X.env) (λ u s₂=>wpAny (model X.prog X.w) X.A (f v u) Q X.xe s₂) X.xe s₁) X.xe s:=by
 refine thn (ha pins s σ H _ I h) λ v s1 hq18=>?_;obtain⟨x,H1,I1,r1,q1⟩:=hq18;refine thn (hb pins s1 σ H1 _ I1 q1) λ u s2 hq19=>?_;obtain⟨y,H2,I2,r2,q2⟩:=hq19;exact hf v u s2 x y H2 I2 r1 r2 q2
theorem agv{op:Operator}{r:R2}(ho:OpR X (binaryOp op) r)(ha:PE X a ta)(hb:PE X b tb):PE X (.BinOp a op b pos) (tOp r ta tb):=by intro pins s σ H Q I h;exact wpAny_BinOp (ahn ha hb I h λ v u s2 x y H2 I2 rx ry q=>ho pins s2 σ H2 x y v u Q I2 rx ry q)
theorem ahF{op:UnaryOp}{r:V->Hp->VK->Prop}(ho:UnR X (unaryOp op) r)(ha:PE X a ta):PE X (.UnaryOp op a pos) (tUn r ta):=by intro pins s σ H Q I h;exact UnaryOp_ (thn (ha pins s σ H _ I h) λ v s1 ⟨x,H1,I1,r1,q1⟩=>ho pins s1 σ H1 x v Q I1 r1 q1)
theorem opI{f:Value->Value->Sem Value}{C:Int->Int->Prop}{g:Int->Int->Int}
  (rule:∀ (i j:Int) (t u:Tok) (s:Shared) (Q:Value->Shared->Prop) (E:Value->Shared->Prop),C i j->Q (.int (g i j) s.toks) {s with toks:=s.toks+1}->wpAny (model X.prog X.w) X.A (f (.int i t) (.int j u)) Q E s) :
  OpR X f (rI C λ i j=>.int (g i j)):=by
 intro pins s σ H x y v u Q I rx ry h;obtain⟨i,j,rfl,rfl,hc,q⟩:=h;obtain⟨t,rfl⟩:=rx;obtain⟨t',rfl⟩:=ry;exact rule i j t t' s _ _ hc ⟨.int (g i j),H,I.tok _,⟨_,rfl⟩,q⟩
theorem aiz{f:Value->Value->Sem Value}{g:Int->Int->Int}
  (rule:∀ (i j:Int) (t u:Tok) (s:Shared) (Q:Value->Shared->Prop) (E:Value->Shared->Prop),Q (.int (g i j) s.toks) {s with toks:=s.toks+1}->wpAny (model X.prog X.w) X.A (f (.int i t) (.int j u)) Q E s) :
  OpR X f (rI0 λ i j=>.int (g i j)):=by
 intro pins s σ H x y v u Q I rx ry h;obtain⟨i,j,rfl,rfl,q⟩:=h;obtain⟨t,rfl⟩:=rx;obtain⟨t',rfl⟩:=ry;exact rule i j t t' s _ _ ⟨.int (g i j),H,I.tok _,⟨_,rfl⟩,q⟩
theorem agZ{f:Value->Value->Sem Value}{g:Int->Int->Bool}
  (rule:∀ (i j:Int) (t u:Tok) (s:Shared) (Q:Value->Shared->Prop) (E:Value->Shared->Prop),Q (.bool (g i j)) s->wpAny (model X.prog X.w) X.A (f (.int i t) (.int j u)) Q E s) :
  OpR X f (rI0 λ i j=>.bl (g i j)):=by
 intro pins s σ H x y v u Q I rx ry h;obtain⟨i,j,rfl,rfl,q⟩:=h;obtain⟨t,rfl⟩:=rx;obtain⟨t',rfl⟩:=ry;exact rule i j t t' s _ _ ⟨.bl (g i j),H,I,rfl,q⟩
def agX(i j:Int):Prop:=0<j/\j<1073741824
def ag3(i j:Int):Prop:=0<=j/\j<=1000000/\i.natAbs<2 ^ 64
def aer(i j:Int):Prop:=(-(2 ^ 64)<i/\i<2 ^ 64)\/(-(2 ^ 64)<j/\j<2 ^ 64)
theorem aer.ok{i j:Int}(h:aer i j):IntMulOk i j:=by
 rcases h with ⟨h1,h2⟩ | ⟨h1,h2⟩
 ·exact .of_left (intBits_le_64 h1 h2)
 ·exact .of_right (intBits_le_64 h1 h2)
theorem agj:OpR X (binaryOp .Add) (rI0 λ i j=>.int (i+j)):=aiz λ _ _ _ _ _ _ _ q=>add_int q
theorem jW:OpR X (binaryOp .Sub) (rI0 λ i j=>.int (i-j)):=aiz λ _ _ _ _ _ _ _ q=>sub_int q
theorem gD:OpR X (binaryOp .Mult) (rI aer λ i j=>.int (i * j)):=opI λ _ _ _ _ _ _ _ hc q=>mul_int q hc.ok
theorem jn:OpR X (binaryOp .FloorDiv) (rI agX λ i j=>.int (i / j)):=opI λ i j _ _ _ _ _ hc q=>by have h1:(0:Int)<j:=hc.1;have h2:j<1073741824:=hc.2;exact floordiv_int (by omega) (by rw[Int.fdiv_eq_ediv_of_nonneg i (by omega)];exact q) (.inl (PyProof.noPylong_small (by omega)))
theorem gL:OpR X (binaryOp .Mod) (rI (λ _ j=>0<j) λ i j=>.int (i % j)):=opI λ i j _ _ _ _ _ hc q=>by have h1:(0:Int)<j:=hc;exact mod_int' (by omega) (by rw[Int.fmod_eq_emod_of_nonneg i (by omega)];exact q)
theorem aeM:OpR X (binaryOp .Pow) (rI ag3 λ i j=>.int (i ^ j.toNat)):=opI λ _ _ _ _ _ _ _ hc q=>pow_int_small hc.1 hc.2.1 hc.2.2 q
theorem unI{f:Value->Sem Value}{g:Int->Int}
  (rule:∀ (i:Int) (t:Tok) (s:Shared) (Q:Value->Shared->Prop) (E:Value->Shared->Prop),Q (.int (g i) s.toks) {s with toks:=s.toks+1}->wpAny (model X.prog X.w) X.A (f (.int i t)) Q E s) :
  UnR X f (rU λ i=>.int (g i)):=by
 intro pins s σ H x v Q I rx h;obtain⟨i,rfl,q⟩:=h;obtain⟨t,rfl⟩:=rx;exact rule i t s _ _ ⟨.int (g i),H,I.tok _,⟨_,rfl⟩,q⟩
theorem abg:UnR X (unaryOp .USub) (rU λ i=>.int (-i)):=unI λ _ _ _ _ _ q=>neg_int q
end
def ait:V->V->Bool
 | .non,.non=>true | .non,.int _=>true | .int _,.non=>true | .non,.bl _=>true | .bl _,.non=>true | .non,.str _=>true | .str _,.non=>true
 | .int _,.int _=>true | .bl _,.bl _=>true | .str _,.str _=>true | .byt _,.byt _=>true
 | .int _,.str _=>true | .str _,.int _=>true | .bl _,.str _=>true | .str _,.bl _=>true
 | _,_=>false
def rEq:R2:=λ x y H Q=>ait x y=true/\Q (.bl (decide (x=y))) H
def rNe:R2:=λ x y H Q=>ait x y=true/\Q (.bl (!decide (x=y))) H
theorem zi{i j:Int}:decide (V.int i=V.int j)=(i==j):=by rw[Bool.eq_iff_iff];simp
theorem ach{i j:Bool}:decide (V.bl i=V.bl j)=(i==j):=by rw[Bool.eq_iff_iff];simp
theorem zd{i j:Str}:decide (V.str i=V.str j)=(i==j):=by rw[Bool.eq_iff_iff];simp
theorem yU{i j:Array UInt8}:decide (V.byt i=V.byt j)=(i.toList==j.toList):=by rw[Bool.eq_iff_iff];cases i;cases j;simp
section
variable {X:Cx}{a b c:Expr}{ta tb tc:TE}{pos:Pos}
theorem bB{pins:List (Addr×Obj)}{σ:St}{H:Hp}{s:Shared}{Q:VK}{k k':Bool}(I:Inv X pins σ H s)(q:Q (.bl k) H)(e:k=k'):EP X pins σ Q (.bool k') s:=by subst e;exact⟨.bl k,H,I,rfl,q⟩
theorem ahP:OpR X (compareOp .Eq) rEq:=by
 intro pins s σ H x y v u Q I rx ry h;obtain⟨hs,q⟩:=h;cases x with
 | non =>
  cases rx;cases y with
  | non=>cases ry;exact PySem.EqNone.eq_none_none (bB I q (by simp))
  | bl j=>cases ry;exact PySem.EqNone.eq_none_bool (bB I q (by simp))
  | int j=>obtain⟨t',rfl⟩:=ry;exact PySem.EqNone.eq_none_int (bB I q (by simp))
  | str j=>obtain⟨t',rfl⟩:=ry;exact PySem.EqNone.eq_none_str (bB I q (by simp))
  | _=>exact absurd (show false=true from hs) Bool.false_ne_true
 | bl i =>
  cases rx;cases y with
  | non=>cases ry;exact PySem.EqNone.eq_bool_none (bB I q (by simp))
  | bl j=>cases ry;exact eq_bool (bB I q ach)
  | str j=>obtain⟨t',rfl⟩:=ry;exact PySem.EqMixed.eq_bool_str (bB I q (by simp))
  | _=>exact absurd (show false=true from hs) Bool.false_ne_true
 | int i =>
  obtain⟨t,rfl⟩:=rx;cases y with
  | non=>cases ry;exact PySem.EqNone.eq_int_none (bB I q (by simp))
  | int j=>obtain⟨t',rfl⟩:=ry;exact eq_int (bB I q zi)
  | str j=>obtain⟨t',rfl⟩:=ry;exact PySem.EqMixed.eq_int_str (bB I q (by simp))
  | _=>exact absurd (show false=true from hs) Bool.false_ne_true
 | str i =>
  obtain⟨t,rfl⟩:=rx;cases y with
  | non=>cases ry;exact PySem.EqNone.eq_str_none (bB I q (by simp))
  | bl j=>cases ry;exact PySem.EqMixed.eq_str_bool (bB I q (by simp))
  | int j=>obtain⟨t',rfl⟩:=ry;exact PySem.EqMixed.eq_str_int (bB I q (by simp))
  | str j=>obtain⟨t',rfl⟩:=ry;exact eq_str (bB I q zd)
  | _=>exact absurd (show false=true from hs) Bool.false_ne_true
 | byt i =>
  obtain⟨t,rfl⟩:=rx;cases y with
  | byt j=>obtain⟨t',rfl⟩:=ry;exact PySem.W.eq_bytes (bB I q yU)
  | _=>exact absurd (show false=true from hs) Bool.false_ne_true
 | _=>cases y<;>exact absurd (show false=true from hs) Bool.false_ne_true
theorem ag4:OpR X (compareOp .NotEq) rNe:=by
 intro pins s σ H x y v u Q I rx ry h;obtain⟨hs,q⟩:=h;cases x with
 | non =>
  cases rx;cases y with
  | non=>cases ry;exact PySem.EqNone.ne_none_none (bB I q (by simp))
  | bl j=>cases ry;exact PySem.EqNone.ne_none_bool (bB I q (by simp))
  | int j=>obtain⟨t',rfl⟩:=ry;exact PySem.EqNone.ne_none_int (bB I q (by simp))
  | str j=>obtain⟨t',rfl⟩:=ry;exact PySem.EqNone.ne_none_str (bB I q (by simp))
  | _=>exact absurd (show false=true from hs) Bool.false_ne_true
 | bl i =>
  cases rx;cases y with
  | non=>cases ry;exact PySem.EqNone.ne_bool_none (bB I q (by simp))
  | bl j=>cases ry;exact ne_bool (bB I q (congrArg not ach))
  | str j=>obtain⟨t',rfl⟩:=ry;exact PySem.EqMixed.ne_bool_str (bB I q (by simp))
  | _=>exact absurd (show false=true from hs) Bool.false_ne_true
 | int i =>
  obtain⟨t,rfl⟩:=rx;cases y with
  | non=>cases ry;exact PySem.EqNone.ne_int_none (bB I q (by simp))
  | int j=>obtain⟨t',rfl⟩:=ry;exact ne_int (bB I q (congrArg not zi))
  | str j=>obtain⟨t',rfl⟩:=ry;exact PySem.EqMixed.ne_int_str (bB I q (by simp))
  | _=>exact absurd (show false=true from hs) Bool.false_ne_true
 | str i =>
  obtain⟨t,rfl⟩:=rx;cases y with
  | non=>cases ry;exact PySem.EqNone.ne_str_none (bB I q (by simp))
  | bl j=>cases ry;exact PySem.EqMixed.ne_str_bool (bB I q (by simp))
  | int j=>obtain⟨t',rfl⟩:=ry;exact PySem.EqMixed.ne_str_int (bB I q (by simp))
  | str j=>obtain⟨t',rfl⟩:=ry;exact ne_str (bB I q (congrArg not zd))
  | _=>exact absurd (show false=true from hs) Bool.false_ne_true
 | byt i =>
  obtain⟨t,rfl⟩:=rx;cases y with
  | byt j=>obtain⟨t',rfl⟩:=ry;exact PySem.W.ne_bytes (bB I q (congrArg not yU))
  | _=>exact absurd (show false=true from hs) Bool.false_ne_true
 | _=>cases y<;>exact absurd (show false=true from hs) Bool.false_ne_true
theorem aaj:OpR X (compareOp .Lt) (rI0 λ i j=>.bl (decide (i<j))):=agZ λ _ _ _ _ _ _ _ q=>lt_int q
theorem ahz:OpR X (compareOp .LtE) (rI0 λ i j=>.bl (decide (i<=j))):=agZ λ _ _ _ _ _ _ _ q=>le_int q
theorem lL:OpR X (compareOp .Gt) (rI0 λ i j=>.bl (decide (j<i))):=agZ λ _ _ _ _ _ _ _ q=>gt_int q
theorem agl:OpR X (compareOp .GtE) (rI0 λ i j=>.bl (decide (j<=i))):=agZ λ _ _ _ _ _ _ _ q=>ge_int q
theorem lF:OpR X (compareOp .Is) (λ x y H Q=>y=.non/\Q (.bl (decide (x=.non))) H):=by
 intro pins s σ H x y v u Q I rx ry h;obtain⟨rfl,q⟩:=h;cases ry;refine is_none_gen (bB I q ?_);cases x<;>first
  | (cases rx;rfl)
  | (obtain⟨t,rfl⟩:=rx;rfl)
theorem yt:OpR X (compareOp .IsNot) (λ x y H Q=>y=.non/\Q (.bl (!decide (x=.non))) H):=by
 intro pins s σ H x y v u Q I rx ry h;obtain⟨rfl,q⟩:=h;cases ry;refine isnot_none_gen (bB I q ?_);cases x<;>first
  | (cases rx;rfl)
  | (obtain⟨t,rfl⟩:=rx;rfl)
theorem ac9{op:CmpOp}{r:R2}(ho:OpR X (compareOp op) r)(ha:PE X a ta)(hb:PE X b tb)(hm:behindInMarks op b=false):PE X (.Compare a [op] [b] pos) (tOp r ta tb):=by intro pins s σ H Q I h;exact wpAny_Compare1 (ahn ha hb I h λ v u s2 x y H2 I2 rx ry q=>ho pins s2 σ H2 x y v u Q I2 rx ry q) hm
def ac3(t:TE):TT:=λ σ H Q=>t σ H λ x H'=>∃ k,x=.bl k/\Q k H'
theorem adW{op:CmpOp}{r:R2}(ho:OpR X (compareOp op) r)(ha:PE X a ta)(hb:PE X b tb)(hm:behindInMarks op b=false):PT X (.Compare a [op] [b] pos) (ac3 (tOp r ta tb)):=by
 intro pins s σ H Q I h;refine wpAny_isTrue_Compare1 (thn (ha pins s σ H _ I h) λ v s1 ⟨x,H1,I1,r1,q1⟩=>thn (hb pins s1 σ H1 _ I1 q1) λ u s2 ⟨y,H2,I2,r2,q2⟩ =>
  thn (ho pins s2 σ H2 x y v u _ I2 r1 r2 q2) λ c s3 ⟨z,H3,I3,r3,k,e,q3⟩=>?_) hm
 subst e;cases r3;exact wpAny_truthy_bool ⟨H3,I3,q3⟩
def zh(r r':R2)(ta tb tc:TE):TE:=λ σ H Q=>ta σ H λ x H1=>tb σ H1 λ y H2=>r x y H2 λ z H3=>∃ k,z=.bl k /\
 (if k=true then tc σ H3 λ w' H4=>r' y w' H4 Q else Q (.bl false) H3)
theorem aaY{op op':CmpOp}{r r':R2}(ho:OpR X (compareOp op) r)(ho':OpR X (compareOp op') r')(ha:PE X a ta)(hb:PE X b tb)(hc:PE X c tc)
  (hm:lastMarks [op,op'] [b,c]=false:=by with_unfolding_all rfl):PE X (.Compare a [op,op'] [b,c] pos) (zh r r' ta tb tc):=by
 intro pins s σ H Q I h;refine Compare_chain (thn (ha pins s σ H _ I h) λ v s1 ⟨x,H1,I1,r1,q1⟩=>chain_link (thn (hb pins s1 σ H1 _ I1 q1) λ u s2 ⟨y,H2,I2,r2,q2⟩ =>
  thn (ho pins s2 σ H2 x y v u _ I2 r1 r2 q2) λ d s3 ⟨z,H3,I3,r3,k,e,q3⟩=>?_)) hm
 subst e;cases r3;refine wpAny_truthy_bool ?_;cases k with
 | false=>exact ite_ff ⟨.bl false,H3,I3,rfl,q3⟩
 | true=>exact ite_tt (chain_last (thn (hc pins s3 σ H3 _ I3 q3) λ w' s4 ⟨z',H4,I4,r4,q4⟩=>ho' pins s4 σ H4 y z' u w' Q I4 r2 r4 q4))
theorem aaO{op op':CmpOp}{r r':R2}(ho:OpR X (compareOp op) r)(ho':OpR X (compareOp op') r')(ha:PE X a ta)(hb:PE X b tb)(hc:PE X c tc)
  (hm:lastMarks [op,op'] [b,c]=false:=by with_unfolding_all rfl):PT X (.Compare a [op,op'] [b,c] pos) (ac3 (zh r r' ta tb tc)):=by
 intro pins s σ H Q I h;refine isTrue_chain (thn (ha pins s σ H _ I h) λ v s1 ⟨x,H1,I1,r1,q1⟩=>test_link (thn (hb pins s1 σ H1 _ I1 q1) λ u s2 ⟨y,H2,I2,r2,q2⟩ =>
  thn (ho pins s2 σ H2 x y v u _ I2 r1 r2 q2) λ d s3 ⟨z,H3,I3,r3,k,e,q3⟩=>?_)) hm
 subst e;cases r3;refine wpAny_truthy_bool ?_;cases k with
 | false =>
  obtain⟨k',e',q'⟩:=q3;cases e';exact ite_ff ⟨H3,I3,q'⟩
 | true =>
  refine ite_tt (test_last (thn (hc pins s3 σ H3 _ I3 q3) λ w' s4 ⟨z',H4,I4,r4,q4⟩=>thn (ho' pins s4 σ H4 y z' u w' _ I4 r2 r4 q4) λ d' s5 hq20=>?_));obtain⟨z2,H5,I5,r5,k2,e2,q5⟩:=hq20;subst e2;cases r5;exact wpAny_truthy_bool ⟨H5,I5,q5⟩
def agR(K:PySem.W.Frag)(x:V)(H:Hp)(k:Bool):Prop:=
 match x with
 | .non=>k=false
 | .bl b=>k=b
 | .int i=>k=(i != 0)
 | .str y=>y.length<=sizeLine/\k=((y.length:Int) != 0)
 | .byt y=>y.size<=sizeLine/\k=((y.size:Int) != 0)
 | .ref p=>(∃ xs,SqL K H p xs/\k=!xs.isEmpty)\/(∃ xs,SqT K H p xs/\k=!xs.isEmpty)\/∃ kvs,H p=some (.dK kvs)/\k=!kvs.isEmpty
 | _=>False
theorem vk{κ:Type}{kvs:List (κ×V)}{vs:List (κ×Value)}(r:KV kvs vs):(!vs.isEmpty)=!kvs.isEmpty:=by
 cases r<;>rfl
theorem oh{xs:List V}{its:List Value}(r:Vals xs its):(!its.toArray.isEmpty)=!xs.isEmpty:=by
 cases r<;>simp
theorem kZ:(sizeLine:Nat)<2 ^ 63:=by rw[sizeLine_eq];decide
theorem abZ:ajg X (λ x H Q=>∃ k,agR X.K x H k/\Q k H):=by
 intro pins s σ H x v Q I rx h;obtain⟨k,e,q⟩:=h;have hl:=kZ;have hs:sizeLine=16777216:=sizeLine_eq;cases x with
 | non =>
  cases rx;have e':k=false:=e;subst e';exact truthy_none ⟨H,I,q⟩
 | bl b =>
  cases rx;have e':k=b:=e;subst e';exact wpAny_truthy_bool ⟨H,I,q⟩
 | int i =>
  obtain⟨t,rfl⟩:=rx;have e':k=(i != 0):=e;subst e';exact PySem.P.truthy_int ⟨H,I,q⟩
 | str y =>
  obtain⟨t,rfl⟩:=rx;obtain⟨hy,e'⟩:y.length<=sizeLine/\k=((y.length:Int) != 0):=e;subst e';exact PySem.P.truthy_str (by omega) ⟨H,I.tok _,q⟩
 | byt y =>
  obtain⟨t,rfl⟩:=rx;obtain⟨hy,e'⟩:y.size<=sizeLine/\k=((y.size:Int) != 0):=e;subst e';exact PySem.W.truthy_bytes (by omega) ⟨H,I.tok _,q⟩
 | ref p =>
  cases rx;have e':(∃ xs,SqL X.K H p xs/\k=!xs.isEmpty)\/(∃ xs,SqT X.K H p xs/\k=!xs.isEmpty)\/∃ kvs,H p=some (.dK kvs)/\k=!kvs.isEmpty:=e;rcases e' with ⟨xs,hx,e'⟩ | ⟨xs,hx,e'⟩ | ⟨kvs,hx,e'⟩
  ·subst e';obtain⟨its,r,pl,hz⟩:=I.list hx;have hlen:=r.length;exact wpAny_truthy_list pl.isList (by simp only[List.size_toArray];omega) ⟨H,I.tok _,by rw[oh r];exact q⟩
  ·subst e';obtain⟨its,r,pl,hz⟩:=I.tuple hx;have hlen:=r.length;exact truthy_tuple pl (by simp only[List.size_toArray];omega) ⟨H,I.tok _,by rw[oh r];exact q⟩
  ·subst e';obtain⟨hz,hS,vs,r,m⟩:kvs.length<=sizeLine/\(p==sysModules)=false/\∃ vs,KV kvs vs/\s.heap.DictOf (aW X.prog X.w) p vs:=I.hok p _ hx;have hlen:kvs.length=vs.length:=Paired.length r;exact wpAny_truthy_dict hS m (by omega) ⟨H,I.tok _,by rw[vk r];exact q⟩
 | _=>exact(show False from e).elim
theorem zX(ha:PE X a ta)(he:∀ whole,isTrue a X.env whole=(do let v <- whole;standAt a.pos;holding [v] (truthy v))) :
  PT X a (λ σ H Q=>ta σ H λ x H'=>∃ k,agR X.K x H' k/\Q k H'):=by
 intro pins s σ H Q I h;exact isTrue_plain (thn (ha pins s σ H _ I h) λ v s1 ⟨x,H1,I1,r1,q1⟩=>abZ pins s1 σ H1 x v Q I1 r1 q1) (he _)
theorem vX:OpR X (binaryOp .Add) (λ x y H Q=>∃ i j,x=.str i/\y=.str j/\i.length+j.length<=sizeLine/\Q (.str (i++j)) H):=by intro pins s σ H x y v u Q I rx ry h;obtain⟨i,j,rfl,rfl,hz,q⟩:=h;obtain⟨t,rfl⟩:=rx;obtain⟨t',rfl⟩:=ry;exact add_str (λ t' tk=>⟨.str (i++j),H,I.tok _,⟨_,rfl⟩,q⟩) hz
theorem vals1{x:V}{us:List Value}(r:Vals [x] us):∃ u,us=[u]/\RelV x u:=by
 cases r with
 | cons r1 r2=>cases r2;exact⟨_,rfl,r1⟩
theorem vals2{x y:V}{us:List Value}(r:Vals [x,y] us):∃ u w',us=[u,w']/\RelV x u/\RelV y w':=by
 cases r with
 | cons r1 r2 =>
  cases r2 with
  | cons r3 r4=>cases r4;exact⟨_,_,rfl,r1,r3⟩
theorem aa4:fC X (.builtin "abs") (λ xs H Q=>∃ i,xs=[.int i]/\Q (.int (if i<0 then -i else i)) H):=by intro pins s σ H xs us Q I r h;obtain⟨i,rfl,q⟩:=h;obtain⟨u,rfl,t,rfl⟩:=vals1 r;exact call_abs_int λ u tk=>⟨.int (if i<0 then -i else i),H,I.tok _,⟨_,rfl⟩,q⟩
theorem zu(hc:X.calm=true):fC X (.builtin "max") (λ xs H Q=>∃ i j,xs=[.int i,.int j]/\Q (.int (if j > i then j else i)) H):=by
 intro pins s σ H xs us Q I r h;obtain⟨i,j,rfl,q⟩:=h;obtain⟨u,w',rfl,⟨t,rfl⟩,⟨t',rfl⟩⟩:=vals2 r;refine max_two_ints (I.ok.hd hc) λ h' tk k=>⟨_,H,I.kept k,?_,q⟩
 by_cases hj:j > i
 ·rw[if_pos hj,if_pos hj];exact⟨_,rfl⟩
 ·rw[if_neg hj,if_neg hj];exact⟨_,rfl⟩
theorem qg(hc:X.calm=true):fC X (.builtin "min") (λ xs H Q=>∃ i j,xs=[.int i,.int j]/\Q (.int (if j<i then j else i)) H):=by
 intro pins s σ H xs us Q I r h;obtain⟨i,j,rfl,q⟩:=h;obtain⟨u,w',rfl,⟨t,rfl⟩,⟨t',rfl⟩⟩:=vals2 r;refine min_two_ints (I.ok.hd hc) λ h' tk k=>⟨_,H,I.kept k,?_,q⟩
 by_cases hj:j<i
 ·rw[if_pos hj,if_pos hj];exact⟨_,rfl⟩
 ·rw[if_neg hj,if_neg hj];exact⟨_,rfl⟩
def ain(K:PySem.W.Frag)(x:V)(H:Hp)(n:Nat):Prop:=
 match x with
 | .str y=>y.length<=sizeLine/\n=y.length
 | .byt y=>y.size<=sizeLine/\n=y.size
 | .ref p=>(∃ xs,SqL K H p xs/\n=xs.length)\/∃ xs,SqT K H p xs/\n=xs.length
 | _=>False
theorem eP:fC X (.builtin "len") (λ xs H Q=>∃ x n,xs=[x]/\ain X.K x H n/\Q (.int n) H):=by
 intro pins s σ H xs us Q I r h;obtain⟨x,n,rfl,e,q⟩:=h;obtain⟨u,rfl,rx⟩:=vals1 r;have hl:=kZ;have hs:sizeLine=16777216:=sizeLine_eq;cases x with
 | str y =>
  obtain⟨t,rfl⟩:=rx;obtain⟨hy,e'⟩:y.length<=sizeLine/\n=y.length:=e;subst e';exact len_str (by omega) ⟨.int _,H,I.tok _,⟨_,rfl⟩,q⟩
 | byt y =>
  obtain⟨t,rfl⟩:=rx;obtain⟨hy,e'⟩:y.size<=sizeLine/\n=y.size:=e;subst e';exact PySem.W.len_bytes (by omega) ⟨.int _,H,I.tok _,⟨_,rfl⟩,q⟩
 | ref p =>
  cases rx;have e':(∃ xs,SqL X.K H p xs/\n=xs.length)\/∃ xs,SqT X.K H p xs/\n=xs.length:=e;rcases e' with ⟨xs,hx,e'⟩ | ⟨xs,hx,e'⟩
  ·subst e';obtain⟨its,r',pl,hz⟩:=I.list hx;have hlen:=r'.length;exact Calls.call_len_list pl.isList (by simp only[List.size_toArray];omega) ⟨.int xs.length,H,I.tok _,⟨_,by simp only[List.size_toArray];rw[hlen]⟩,q⟩
  ·subst e';obtain⟨its,r',pl,hz⟩:=I.tuple hx;have hlen:=r'.length;exact len_tuple pl (by simp only[List.size_toArray];omega) ⟨.int xs.length,H,I.tok _,⟨_,by simp only[List.size_toArray];rw[hlen]⟩,q⟩
 | _=>exact(show False from e).elim
end
structure ado(h:Heap)(x dx C:Addr)(mA:Str->Option Value):Prop where
 obj:h.get? x=some (PySem.W.instObj C dx)
 ns:h.Ns1 dx mA
 ne:dx≠x
theorem xb{h:Heap}{dx:Addr}{mA:Str->Option Value}(n:h.Ns1 dx mA):∃ od,h.get? dx=some od/\∀ name,PySem.W.lookIn name od=some (mA name):=by
 obtain⟨o,es,ep,ho,hd,hk,_,hm⟩:=n;refine⟨o,ho,λ name=>?_⟩;have e:=hm name;unfold nsFind findBy at e;rw[<- Array.find?_toList] at e;unfold PySem.W.lookIn;rw[hd];dsimp only
 split
 ·rename_i y q
  rw[q] at e;exact congrArg some e
 ·rename_i q
  rw[q] at e;have a:es.toList.any (·.refKey)=false:=by rw[List.any_eq_false];intro y hy;obtain⟨z,t,hkey⟩:=hk y (Array.mem_toList_iff.mp hy);simp[DictEntry.refKey,hkey]
  have a':¬ es.toList.any (·.refKey)=true:=by rw[a];exact Bool.false_ne_true
  rw[if_neg a'];exact congrArg some e
theorem ado.look{h:Heap}{x dx C:Addr}{mA:Str->Option Value}(I:ado h x dx C mA):∃ od,PySem.W.InstAt h x (PySem.W.instObj C dx) C (some od)/\∀ name,PySem.W.lookIn name od=some (mA name):=
 let ⟨od,ho,hl⟩:=xb I.ns
 ⟨od,⟨I.obj,rfl,rfl,ho⟩,hl⟩
section
variable {prog:Program}{w:World}{A:Around}{E:Value->Shared->Prop}{s:Shared}{K:PySem.W.Frag}{x dx C f:Addr}{mA:Str->Option Value}{name:Str}{v:Value}
theorem get_map{expr:Bool}{Q:Value->Shared->Prop}(X:K.In s.heap)(I:ado s.heap x dx C mA)(hg:PySem.W.plainGet K C name=true)(hh:PySem.W.hasDictIn K C=true)
  (ha:PySem.W.findIn K (.ref C) name=some none)(hv:mA name=some v)(hv':PySem.W.handedIn v=true)(h:Q v {s with toks:=s.toks+1}) :
  wpAny (model prog w) A (getAttr (.ref x) name expr) Q E s:=by
 obtain⟨od,J,hl⟩:=I.look;exact PySem.W.get_value X J (PySem.W.plainGet_of hg).1 (PySem.W.findObj_own hh ha rfl (by rw[hl,hv])) hv' h
theorem aax{pl:Sem Bool}{Q:Value×List Value->Shared->Prop}(X:K.In s.heap)(I:ado s.heap x dx C mA)(hg:PySem.W.plainGet K C name=true)
  (hf:PySem.W.findIn K (.ref C) name=some (some (.ref f)))(ht:PySem.W.isFn K (.ref f)=true)(hv:mA name=none)(h:Q (.ref f,[.ref x]) s) :
  wpAny (model prog w) A (getMethod (.ref x) name pl) Q E s:=by
 obtain⟨od,J,hl⟩:=I.look;exact PySem.W.method_fn X J (PySem.W.plainGet_of hg).1 (PySem.W.plainGet_of hg).2 hf (beq_iff_eq.mp ht) (by show(PySem.W.lookIn name od).map (·.isSome)=some false;rw[hl,hv];rfl) h
theorem acW{ns:List Str}{Q:Unit->Shared->Prop}(X:K.In s.heap)(I:ado s.heap x dx C mA)
  (hs:PySem.W.findIn K (.ref C) "__setattr__" = some (some (.builtin "object.__setattr__")))(hp:PySem.W.plainOver K C=true)(ht:PySem.W.takerIn K C name=some none)(hh:PySem.W.hasDictIn K C=true)
  (hw:PySem.Within mA ns)(hsz:ns.length<=sizeLine)
  (h:∀ h',ado h' x dx C (λ y=>if y=name then some v else mA y)->Heap.SameBut dx s.heap h'->Q () {s with heap:=h',toks:=s.toks+2}) :
  wpAny (model prog w) A (setAttr (.ref x) name v) Q E s:=by
 obtain⟨od,J,hl⟩:=I.look;refine PySem.W.set_plain X J hs (PySem.W.osa_open (s:={s with toks:=s.toks+1}) (r:=none) X J hp ht λ b=>?_);obtain⟨cd,hc,hd'⟩:=PySem.W.any_some hh;have hx:s.heap.get? x=some ⟨.ref C,some dx,.plain,#[]⟩:=I.obj;refine wpAny_bind (wpAny_pure (wpAny_bind (wpAny_bind (wpAny_loadPart hx (wpAny_bind (PySem.W.Looks.here (s:={s with toks:=s.toks+1}) (PySem.W.looks_clsIn X hc) ?_))))));rw[hd'];refine wpAny_pure (a:=some dx) (wpAny_bind (wpAny_pure (wpAny_bind ?_)));refine wpAny_nsSet1 (s:={s with toks:=s.toks+1}) I.ns λ h' hn2 hs2=>?_;obtain⟨oD,esD,epD,hoD,hdD,hcD⟩:=hn2.count (PySem.Within.cons name v hw);refine wpAny_bind (wpAny_lookBehind hoD (by rw[hdD];exact pastItsLine_dict (Nat.le_trans hcD (by rw[List.length_cons];omega))) ?_);exact wpAny_pure (h _ ⟨(hs2.2 _ (Ne.symm I.ne)).trans I.obj,hn2,I.ne⟩ hs2)
theorem aaq{R:Result->Shared->Prop}{vs:List Value}{kw:List (Str×Value)}(X:K.In s.heap)(hm:PySem.W.makesIn K C=true)
  (hi:PySem.W.findIn K (.ref C) "__init__" = some (some (.ref f)))(hf:PySem.W.typeIn K (.ref f)=some (.type "function"))
  (h:codeAny (model prog w) (A.under (.builtin "type.__call__" ⟨.ref C::vs,kw⟩)) (.call (.ref f) ⟨.ref (s.heap.objs.size+1)::vs,kw⟩) (PySem.W.InitBack (s.heap.objs.size+1) R)
   {s with heap:=(s.heap.push PySem.W.emptyDict).push (PySem.W.instObj C s.heap.objs.size)}) :
  codeAny (model prog w) A (.call (.ref C) ⟨vs,kw⟩) R s:=by
 obtain⟨hh,g,d,t,os⟩:=s;exact PySem.W.make_core (PySem.W.makes_of X hm) (PySem.W.looks_findIn X hi) (λ self=>PySem.W.bind_fn X self hf) (.inl rfl) h
end
def mL(f:Str)(v:V):List (Str×V)->List (Str×V)
 | []=>[(f,v)]
 | (g,x)::r=>if g=f then (g,v)::r else (g,x)::mL f v r
theorem lV(f g:Str)(v:V):∀ fs:List (Str×V),(mL f v fs).lookup g=if g=f then some v else fs.lookup g
 | []=>by
  show List.lookup g [(f,v)]=_
  by_cases h:g=f
  ·have hb:(g==f)=true:=beq_iff_eq.mpr h;simp only[List.lookup,hb,if_pos h]
  ·have hb:(g==f)=false:=beq_eq_false_iff_ne.mpr h;simp only[List.lookup,hb,if_neg h]
 | (k,x)::r=>by
  have ih:=lV f g v r;rw[show mL f v ((k,x)::r)=(if k=f then (k,v)::r else (k,x)::mL f v r) from rfl]
  by_cases hk:k=f
  ·rw[if_pos hk]
   by_cases h:g=k
   ·have hb:(g==k)=true:=beq_iff_eq.mpr h;simp only[List.lookup,hb,if_pos (h.trans hk)]
   ·have hb:(g==k)=false:=beq_eq_false_iff_ne.mpr h;simp only[List.lookup,hb,if_neg (λ e:g=f=>h (e.trans hk.symm))]
  ·rw[if_neg hk]
   by_cases h:g=k
   ·have hb:(g==k)=true:=beq_iff_eq.mpr h;simp only[List.lookup,hb,if_neg (λ e:g=f=>hk (h.symm.trans e))]
   ·have hb:(g==k)=false:=beq_eq_false_iff_ne.mpr h;simp only[List.lookup,hb];exact ih
theorem kO(f:Str)(v:V):∀ fs:List (Str×V),f∈(mL f v fs).map (·.1)/\∀ g,g∈fs.map (·.1)->g∈(mL f v fs).map (·.1)
 | []=>⟨by simp[mL],λ g h=>by simp at h⟩
 | (k,x)::r=>by
  obtain⟨i1,i2⟩:=kO f v r;rw[show mL f v ((k,x)::r)=(if k=f then (k,v)::r else (k,x)::mL f v r) from rfl]
  by_cases hk:k=f
  ·rw[if_pos hk];subst hk;exact⟨by simp,λ g h=>by simpa using h⟩
  ·rw[if_neg hk];refine⟨?_,λ g h=>?_⟩
   ·rw[List.map_cons];exact List.mem_cons_of_mem _ i1
   ·rw[List.map_cons] at h ⊢;rcases List.mem_cons.mp h with e | e
    ·exact List.mem_cons.mpr (.inl e)
    ·exact List.mem_cons_of_mem _ (i2 g e)
theorem k0(f:Str)(v:V):∀ fs:List (Str×V),(mL f v fs).length<=fs.length+1
 | []=>by simp[mL]
 | (k,x)::r=>by
  have ih:=k0 f v r;rw[show mL f v ((k,x)::r)=(if k=f then (k,v)::r else (k,x)::mL f v r) from rfl]
  by_cases hk:k=f
  ·rw[if_pos hk,List.length_cons,List.length_cons];omega
  ·rw[if_neg hk,List.length_cons,List.length_cons];omega
theorem rn.some_of{v:V}{o:Option Value}(r:rn (some v) o):∃ u,o=some u/\RelV v u:=by
 cases o with
 | none=>exact(show False from r).elim
 | some u=>exact⟨u,rfl,r⟩
theorem rn.none_of{o:Option Value}(r:rn none o):o=none:=by
 cases o with
 | none=>rfl
 | some u=>exact(show False from r).elim
theorem yc{v:V}{u:Value}(r:RelV v u):PySem.W.handedIn u=true:=by
 cases v with
 | non=>cases (show u=Value.none from r);rfl
 | bl b=>cases (show u=Value.bool b from r);rfl
 | int i=>obtain⟨t,e⟩:=(show ∃ t,u=Value.int i t from r);cases e;rfl
 | str x=>obtain⟨t,e⟩:=(show ∃ t,u=Value.str x t from r);cases e;rfl
 | byt b=>obtain⟨t,e⟩:=(show ∃ t,u=Value.bytes b t from r);cases e;rfl
 | flt b=>obtain⟨t,e⟩:=(show ∃ t,u=Value.float b t from r);cases e;rfl
 | ref a=>cases (show u=Value.ref a from r);rfl
 | ty n=>cases (show u=Value.type n from r);rfl
section
variable {P:Program}{w:World}{H H':Hp}{h h':Heap}{a C dx:Addr}{fs fs':List (Str×V)}
theorem uc(hok:HOk P w H h)(e:H a=some (.ins C dx fs)):∃ mA,ado h a dx C mA/\(∀ f,rn (fs.lookup f) (mA f))/\PySem.Within mA (fs.map (·.1))/\fs.length<=1000/\H dx=some (.own a):=by obtain⟨d,z,ne,ob,mA,n,r,q⟩:=(show cW P w H h a (.ins C dx fs) from hok a _ e);exact⟨mA,⟨ob,n,ne⟩,r,q,z,d⟩
end
structure Cls(K:PySem.W.Frag)(C:Addr):Prop where
 pg:PySem.W.plainGet K C Str.empty=true
 hd:PySem.W.hasDictIn K C=true
 po:PySem.W.plainOver K C=true
 sa:PySem.W.findIn K (.ref C) "__setattr__" = some (some (.builtin "object.__setattr__"))
theorem Cls.get{K:PySem.W.Frag}{C:Addr}(c:Cls K C)(f:Str):PySem.W.plainGet K C f=true:=c.pg
def dB(K:PySem.W.Frag)(C:Addr)(f:Str):Prop:=PySem.W.findIn K (.ref C) f=some none
theorem dB.ahl{K:PySem.W.Frag}{C:Addr}{f:Str}(n:dB K C f):PySem.W.takerIn K C f=some none:=by
 unfold PySem.W.takerIn;rw[show PySem.W.findIn K (.ref C) f=some none from n];rfl
structure Meth(K:PySem.W.Frag)(C:Addr)(m:Str)(f:Addr):Prop where
 at_:PySem.W.findIn K (.ref C) m=some (some (.ref f))
 fn:PySem.W.isFn K (.ref f)=true
 kp:PySem.W.keepIn K (.ref f)=true
section
variable {X:Cx}{pins:List (Addr×Obj)}{σ:St}{H:Hp}{s:Shared}{a C dx:Addr}{fs:List (Str×V)}{f:Str}{v:V}{A:Around}{E:Value->Shared->Prop}
theorem nA{b:Bool}{Q:Value->Shared->Prop}(I:Inv X pins σ H s)(e:H a=some (.ins C dx fs))(c:Cls X.K C)(n:dB X.K C f)(l:fs.lookup f=some v)
  (h:∀ u s',Inv X pins σ H s'->RelV v u->Q u s'):wpAny (model X.prog X.w) A (getAttr (.ref a) f b) Q E s:=by
 obtain⟨mA,O,r,_,_,_⟩:=uc I.hok e;obtain⟨u,hu,ru⟩:=rn.some_of (v:=v) (o:=mA f) (by rw[<- l];exact r f);exact get_map I.kIn O (c.get f) c.hd n hu (yc ru) (h u _ (I.tok _) ru)
theorem nO{m:Str}{g:Addr}{pl:Sem Bool}{Q:Value×List Value->Shared->Prop}(I:Inv X pins σ H s)(e:H a=some (.ins C dx fs))(c:Cls X.K C)(k:Meth X.K C m g)(l:fs.lookup m=none)
  (h:Q (.ref g,[.ref a]) s):wpAny (model X.prog X.w) A (getMethod (.ref a) m pl) Q E s:=by
 obtain⟨mA,O,r,_,_,_⟩:=uc I.hok e;have hn:mA m=none:=rn.none_of (by rw[<- l];exact r m);exact aax I.kIn O (c.get m) k.at_ k.fn hn h
theorem mU{y:V}{u:Value}{Q:Unit->Shared->Prop}(I:Inv X pins σ H s)(e:H a=some (.ins C dx fs))(c:Cls X.K C)(n:dB X.K C f)(hl:fs.length<1000)(ry:RelV y u)
  (h:∀ s',Inv X pins σ (upd H a (.ins C dx (mL f y fs))) s'->Q () s'):wpAny (model X.prog X.w) A (setAttr (.ref a) f u) Q E s:=by
 obtain⟨mA,O,r,wi,_,ho⟩:=uc I.hok e;have hz:(fs.map (·.1)).length<=sizeLine:=by rw[List.length_map,sizeLine_eq];omega
 refine acW I.kIn O c.sa c.po n.ahl c.hd wi hz λ h' O' sb=>h _ ?_;have hd:∃ o,h'.get? dx=some o:=let ⟨o,_,_,e',_⟩:=O'.ns; ⟨o,e'⟩;refine I.write (x:=a) (e:=dx) (by rw[e];exact True.intro) (.inr ho) (λ b q hb z=>(sb.2 b hb).trans z) hd ?_;refine⟨by rw[aj O.ne];exact ho,?_,O.ne,O'.obj,_,O'.ns,λ g=>?_,λ g hg=>?_⟩
 ·have:=k0 f y fs;omega
 ·show rn ((mL f y fs).lookup g) (if g=f then some u else mA g);rw[lV]
  by_cases q:g=f
  ·rw[if_pos q,if_pos q];exact ry
  ·rw[if_neg q,if_neg q];exact r g
 ·by_cases q:g=f
  ·rw[q];exact(kO f y fs).1
  ·refine(kO f y fs).2 g (wi g λ z=>hg ?_);show(if g=f then some u else mA g)=none;rw[if_neg q];exact z
theorem Inv.made(I:Inv X pins σ H s):Inv X pins σ (upd (upd H s.heap.objs.size (.own (s.heap.objs.size+1))) (s.heap.objs.size+1) (.ins C s.heap.objs.size []))
  {s with heap:=(s.heap.push PySem.W.emptyDict).push (PySem.W.instObj C s.heap.objs.size)}:=by
 have e1:(s.heap.push PySem.W.emptyDict).get? s.heap.objs.size=some PySem.W.emptyDict:=Heap.get?_push_size s.heap rfl;have e2:((s.heap.push PySem.W.emptyDict).push (PySem.W.instObj C s.heap.objs.size)).get? (s.heap.objs.size+1)=some (PySem.W.instObj C s.heap.objs.size):=by
  have:=Heap.get?_push_size (s.heap.push PySem.W.emptyDict) (o:=PySem.W.instObj C s.heap.objs.size) rfl
  rwa[Heap.size_push] at this
 have e3:(s.heap.push PySem.W.emptyDict).Ns s.heap.objs.size (λ _=>none):=⟨PySem.W.emptyDict,#[],_,e1,rfl,(λ e he=>absurd he (by simp)),λ _=>rfl⟩;have I1:=I.laid (a:=s.heap.objs.size) (o:=.own (s.heap.objs.size+1)) (h':=s.heap.push PySem.W.emptyDict) (t':=s.toks) (λ b u q=>Heap.get?_push_of_some _ q) (Nat.le_refl _) ⟨_,e1⟩;refine I1.laid (a:=s.heap.objs.size+1) (o:=.ins C s.heap.objs.size []) (t':=s.toks) (λ b u q=>Heap.get?_push_of_some _ q) (Nat.le_of_eq (Heap.size_push _ _)) ?_;have ne:s.heap.objs.size≠s.heap.objs.size+1:=Nat.ne_of_lt (Nat.lt_succ_self _);refine⟨by rw[aj ne,ar],Nat.zero_le _,ne,e2,λ _=>none,(Heap.Ns1.of_empty e3).at λ o q=>Heap.get?_push_of_some _ q,λ _=>True.intro,λ y hy=>absurd rfl hy⟩
theorem aea{prog:Program}{w:World}{env:Env}{e:Expr}{f:Str}{pos:Pos}{s:Shared}{Q:Value->Shared->Prop}(hb:attributeBase e f env (eval e env)=eval e env)
  (h:wpAny (model prog w) A (eval e env) (λ o s₁=>wpAny (model prog w) A (getAttr o f true) Q E s₁) E s):wpAny (model prog w) A (eval (.Attribute e f pos) env) Q E s:=
 Attribute_any_ h (by rw[arm_eval_Attribute,hb])
end
def aiS(K:PySem.W.Frag)(ta:TE)(f:Str):TE:=λ σ H Q=>ta σ H λ x H1=>∃ a C dx fs v,x=.ref a/\H1 a=some (.ins C dx fs)/\Cls K C/\dB K C f/\fs.lookup f=some v/\Q v H1
def ajb(K:PySem.W.Frag)(ta tv:TE)(f:Str):TS:=λ D σ H=>tv σ H λ y H1=>ta σ H1 λ x H2=>∃ a C dx fs,x=.ref a/\H2 a=some (.ins C dx fs)/\Cls K C/\dB K C f/\fs.length<1000 /\
 D.nx σ (upd H2 a (.ins C dx (mL f y fs)))
def ai6(X:Cx)(op:Operator)(rd:V->V->Hp->VK->Prop):Prop:=
 ∀ (pins:List (Addr×Obj)) (s:Shared) (σ:St) (H:Hp) (x y:V) (u v:Value) (Q:VK),Inv X pins σ H s->RelV x u->RelV y v->rd x y H Q->wpAny (model X.prog X.w) X.A (inplaceOp op u v) (EP X pins σ Q) X.xe s
def adM(K:PySem.W.Frag)(ta tv:TE)(rd:V->V->Hp->VK->Prop)(f:Str):TS:=λ D σ H=>ta σ H λ x H1=>∃ a C dx fs v,x=.ref a/\H1 a=some (.ins C dx fs)/\Cls K C/\dB K C f/\fs.lookup f=some v /\
 tv σ H1 λ y H2=>rd v y H2 λ z H3=>∃ dx' fs',H3 a=some (.ins C dx' fs')/\fs'.length<1000/\D.nx σ (upd H3 a (.ins C dx' (mL f z fs')))
section
variable {X:Cx}{o e value:Expr}{f:Str}{pos pos' tpos:Pos}{ta tv:TE}
theorem agd(he:PE X e ta)(hb:attributeBase e f X.env (eval e X.env)=eval e X.env):PE X (.Attribute e f pos) (aiS X.K ta f):=by intro pins s σ H Q I h;refine aea hb (thn (he pins s σ H _ I h) λ u s1 hq21=>?_);obtain⟨x,H1,I1,rx,a,C,dx,fs,v,ex,ea,c,n,l,q⟩:=hq21;subst ex;obtain rfl:u=Value.ref a:=rx;exact nA I1 ea c n l λ u' s2 I2 ru=>⟨v,H1,I2,ru,q⟩
theorem agh(ha:PE X o ta)(hv:PE X value tv)(hs:swapsWith value (some (.Attribute o f pos')) pos.line X.env=pure false):PS X (.Assign [.Attribute o f pos'] value pos) (ajb X.K ta tv f):=by intro pins s σ H D I h;refine plainObj_wpAny_Assign_Attribute (thn (hv pins s σ H _ I h) λ u s1 ⟨y,H1,I1,ry,q⟩=>thn (ha pins s1 σ H1 _ I1 q) λ ov s2 ⟨x,H2,I2,rx,a,C,dx,fs,ex,ea,c,n,l,q2⟩=>?_) hs;subst ex;obtain rfl:ov=Value.ref a:=rx;exact mU I2 ea c n l ry λ s3 I3=>⟨σ,_,I3,q2⟩
theorem wO{op:Operator}{rd:V->V->Hp->VK->Prop}(ha:PE X o ta)(hv:PE X value tv)(hop:ai6 X op rd):PS X (.AugAssign (.Attribute o f tpos) op value pos) (adM X.K ta tv rd f):=by intro pins s σ H D I h;refine wpAny_AugAssign_AttributeAny (thn (ha pins s σ H _ I h) λ ov s1 hq22=>?_);obtain⟨x,H1,I1,rx,a,C,dx,fs,v,ex,ea,c,n,l,q⟩:=hq22;subst ex;obtain rfl:ov=Value.ref a:=rx;refine nA I1 ea c n l λ u s2 I2 ru=>thn (hv pins s2 σ H1 _ I2 q) λ w3 s3 ⟨y,H2,I3,ry,q3⟩=>thn (hop pins s3 σ H2 v y u w3 _ I3 ru ry q3) λ w4 s4 hq23=>?_;obtain⟨z,H3,I4,rz,dx',fs',ea',l',q4⟩:=hq23;exact mU I4 ea' c n l' rz λ s5 I5=>⟨σ,_,I5,q4⟩
end
section
variable {X:Cx}{pins:List (Addr×Obj)}{σ:St}{H:Hp}{s:Shared}{A:Around}{E:Value->Shared->Prop}{Q:Value->Shared->Prop}{c:Value}{b:Bool}
end
structure c4(k:Nat)(A:Around):Prop where
 hd:A.handled=none
 gd:A.guards=some []
 dp:A.depth+3 * k+5<recursionLimit
 un:A.units+16 * k+200<cLine
theorem c4.mono{j k:Nat}{A:Around}(r:c4 k A)(h:j<=k):c4 j A:=⟨r.hd,r.gd,by have:=r.dp;omega,by have:=r.un;omega⟩
theorem c4.deeper{k:Nat}{A:Around}(r:c4 (k+1) A)(env:Env):c4 k (A.deeper env):=
 ⟨r.hd,r.gd,by have:=r.dp;show A.depth+1+3 * k+5<_;omega,by have:=r.un;show A.units+3+16 * k+200<_;omega⟩
theorem c4.in1{k:Nat}{A:Around}(r:c4 (k+1) A):c4 k A.in1:=
 ⟨r.hd,r.gd,by have:=r.dp;show A.depth+3 * k+5<_;omega,by have:=r.un;show A.units+1+16 * k+200<_;omega⟩
theorem vL{A:Around}{C:Addr}{us:List Value}{kw:List (Str×Value)}:(A.under (.builtin "type.__call__" ⟨.ref C::us,kw⟩)).depth=A.depth+1:=by
 first | rfl | simp[Around.under,Code.weight,Code.isCreation,Code.isGuard,Code.isCaller,Code.frames,Code.isFrame,guardIds]
theorem v7{A:Around}{C:Addr}{us:List Value}{kw:List (Str×Value)}:(A.under (.builtin "type.__call__" ⟨.ref C::us,kw⟩)).units=A.units+1:=by
 first | rfl | simp[Around.under,Code.cUnits,Code.frames,Code.isFrame]
theorem c4.make{k:Nat}{A:Around}(r:c4 (k+1) A)(C:Addr)(us:List Value)(kw:List (Str×Value)):c4 k (A.under (.builtin "type.__call__" ⟨.ref C::us,kw⟩)):=
 ⟨r.hd,(by first | exact r.gd | (simpa [Around.under,Code.isGuard,Code.frames,Code.isFrame,guardIds] using r.gd)),by have:=r.dp;rw[vL];omega,by have:=r.un;rw[v7];omega⟩
theorem c4.depth{k:Nat}{A:Around}(r:c4 k A):A.depth<recursionLimit:=by have:=r.dp;omega
theorem c4.units{k:Nat}{A:Around}(r:c4 k A):A.units+64<cLine:=by have:=r.un;omega
def zL:TA:=λ _ H Q=>Q [] H
def sx(ta:TE)(tr:TA):TA:=λ σ H Q=>ta σ H λ x H1=>tr σ H1 λ xs H2=>Q (x::xs) H2
section
variable {X:Cx}{e:Expr}{es:List Expr}{te:TE}{t:TA}{pos:Pos}
theorem qi:PA X [] zL:=λ _ _ _ _ H Q I h=>Calls.spliced_nil ⟨[],H,I,.nil,h⟩
theorem lJ(ha:PE X e te)(hr:PA X es t)(hs:starEach (e::es) X.env=(false,eval e X.env)::starEach es X.env:=by rfl):PA X (e::es) (sx te t):=by intro pos pins s σ H Q I h;rw[hs];show wpAny _ _ (spliced ((false,eval e X.env)::backTo pos (starEach es X.env))) _ _ s;refine Calls.spliced_cons (thn (ha pins s σ H _ I h) λ u s1 hq24=>?_);obtain⟨x,H1,I1,r1,q1⟩:=hq24;exact thn (hr pos pins s1 σ H1 _ I1 q1) λ us s2 ⟨xs,H2,I2,r2,q2⟩=>⟨x::xs,H2,I2,.cons r1 r2,q2⟩
def ajm(t:TA):TE:=λ σ H Q=>t σ H λ xs H1=>xs.length<=sizeLine/\∀ p,H1 p=none->Q (.ref p) (upd H1 p (.tup xs))
def aiZ(t:TA):TE:=λ σ H Q=>t σ H λ xs H1=>xs.length<=sizeLine/\∀ p,H1 p=none->Q (.ref p) (upd H1 p (.lst xs))
theorem agB{x1}(h:PA X es t):PE X (.Tuple es x1 pos) (ajm t):=by intro pins s σ H Q I hq;refine wpAny_Tuple_spliced (thn (h pos pins s σ H _ I hq) λ us s1 ⟨xs,H1,I1,r,z,q⟩=>⟨by rw[<- r.length];exact z,?_⟩);have hf:H1 s1.heap.objs.size=none:=I1.hok.fresh (Nat.le_refl _);refine⟨.ref s1.heap.objs.size,upd H1 s1.heap.objs.size (.tup xs),I1.laid (t':=s1.toks) (λ b u e=>Heap.get?_push_of_some _ e) (Nat.le_refl _) ?_,rfl,q _ hf⟩;exact⟨z,us,r,abR.new _ _⟩
theorem acb(h:PA X es t):PE X (.List es pos) (aiZ t):=by intro pins s σ H Q I hq;refine wpAny_List_spliced (thn (h pos pins s σ H _ I hq) λ us s1 ⟨xs,H1,I1,r,z,q⟩=>⟨by rw[<- r.length];exact z,?_⟩);have hf:H1 s1.heap.objs.size=none:=I1.hok.fresh (Nat.le_refl _);refine⟨.ref s1.heap.objs.size,upd H1 s1.heap.objs.size (.lst xs),I1.laid (t':=s1.toks) (λ b u e=>Heap.get?_push_of_some _ e) (Nat.le_refl _) ?_,rfl,q _ hf⟩;exact⟨z,us,0,r,Heap.get?_push_size _ rfl⟩
end
abbrev Sp:=List V->Hp->VK->XK->Prop
abbrev CXT:=List Env->Hp->Shared->XK->Value->Shared->Prop
structure adu(P:Program)(w:World)(K:PySem.W.Frag)(mg:Str->Option Value)(base:Heap)(A:Around)(outer:List Env)(s:Shared)(H:Hp):Prop where
 frames:A.frames=some outer
 mod:Mod K mg base
 bs:∀ b o,base.get? b=some o->s.heap.get? b=some o/\H b=none
 bsz:base.objs.size<=s.heap.objs.size
 sA:s.heap.FunFrames base outer
 frf:∀ b∈frs outer,H b=none
 hok:HOk P w H s.heap
 bare:AllBare s.gens
def CE(outer:List Env)(P:Program)(w:World)(H:Hp)(s:Shared)(Q:VK)(u:Value)(s':Shared):Prop:=
 ∃ v H',s'.os=s.os/\AllBare s'.gens/\Un (frs outer) [] H H' s.heap s'.heap/\HOk P w H' s'.heap/\RelV v u/\Q v H'
def CR(CX:CXT)(outer:List Env)(P:Program)(w:World)(H:Hp)(s:Shared)(Q:VK)(E:XK)(r:Result)(s':Shared):Prop:=
 match r with
 | .ok (.ret u)=>CE outer P w H s Q u s'
 | .ok _=>False
 | .error e=>CX outer H s E e s'
structure cX(P:Program)(w:World)(K:PySem.W.Frag)(mg:Str->Option Value)(base:Heap)(CX:CXT)(k:Nat)(f:Addr)(fd:FuncData)(ps:List Str)(sp:Sp):Prop where
 len:∀ vs H Q E,sp vs H Q E->vs.length=ps.length
 run:∀ (A:Around) (outer:List Env) (s:Shared) (H:Hp) (args:Args) (us:List Value) (vs:List V) (Q:VK) (E:XK),c4 k A->adu P w K mg base A outer s H->BindsTo s fd args (ps.zip us)->Vals vs us->sp vs H Q E ->
  codeAny (model P w) A (.call (.ref f) args) (CR CX outer P w H s Q E) s
theorem adu.make{P:Program}{w:World}{K:PySem.W.Frag}{mg:Str->Option Value}{base:Heap}{A:Around}{outer:List Env}{s:Shared}{H:Hp}(e:adu P w K mg base A outer s H)(C:Addr)(us:List Value)(kw:List (Str×Value)) :
  adu P w K mg base (A.under (.builtin "type.__call__" ⟨.ref C::us,kw⟩)) outer s H:=⟨by first | exact e.frames | (simpa [Around.under,Code.envs,Code.isFrame,pushEnvs] using e.frames),e.mod,e.bs,e.bsz,e.sA,e.frf,e.hok,e.bare⟩
section
variable {X:Cx}{pins:List (Addr×Obj)}{σ:St}{H:Hp}{s s':Shared}
theorem Inv.aiw(I:Inv X pins σ H s):adu X.prog X.w X.K X.mg X.base X.A X.stack s H:=
 ⟨I.ok.frames,I.ok.mod,I.bs,Nat.le_trans I.ok.bsz I.sz,I.stack,I.sV,I.hok,I.bare⟩
theorem Inv.after{Q:VK}{u:Value}(I:Inv X pins σ H s)(h:CE X.stack X.prog X.w H s Q u s'):EP X pins σ Q u s':=by obtain⟨v,H',os,bare,un,hok,r,q⟩:=h;obtain⟨hh,g,d,t,os'⟩:=s';obtain rfl:os'=s.os:=os;exact⟨v,H',I.call (h':=hh) (g':=g) (d':=d) (t':=t) (ch:=[]) un hok bare (λ b z=>absurd z (by simp)),r,q⟩
end
def ahs(sp:Sp)(dvs:List V)(E:XK)(t:TA):TE:=λ σ H Q=>t σ H λ vs H1=>sp (vs++dvs) H1 Q E
def adG(C:Addr)(m:Str)(sp:Sp)(dvs:List V)(E:XK)(ta:TE)(t:TA):TE:=λ σ H Q=>ta σ H λ x H1=>∃ a dx fs,x=.ref a/\H1 a=some (.ins C dx fs)/\fs.lookup m=none /\
 t σ H1 λ vs H2=>sp (x::(vs++dvs)) H2 Q E
def aeH(C:Addr)(sp:Sp)(dvs:List V)(E:XK)(t:TA):TE:=λ σ H Q=>t σ H λ vs H1=>∀ x dx,H1 x=none->H1 dx=none->dx≠x ->
 sp (.ref x::(vs++dvs)) (upd (upd H1 dx (.own x)) x (.ins C dx [])) (λ v H2=>v=.non/\Q (.ref x) H2) E
def Binds(K:PySem.W.Frag)(fd:FuncData)(ps:List Str)(ds:List Value):Prop:=
 ∀ (s:Shared) (us:List Value),K.In s.heap->(us++ds).length=ps.length->BindsTo s fd ⟨us,[]⟩ (ps.zip (us++ds))
theorem Binds.all{K:PySem.W.Frag}{fd:FuncData}{ps:List Str}(h:∀ us:List Value,us.length=ps.length->bindArgs fd ⟨us,[]⟩=pure (ps.zip us)):Binds K fd ps []:=λ s us _ hl=>by rw[List.append_nil] at hl ⊢;exact .of_eq (h us hl)
def Passes(CX:CXT)(X:Cx)(E:XK):Prop:=∀ (pins:List (Addr×Obj)) (σ:St) (H:Hp) (s:Shared) (e:Value) (s':Shared),Inv X pins σ H s->CX X.stack H s E e s'->X.xe e s'
section
variable {X:Cx}{CX:CXT}{k:Nat}{f C:Addr}{fd:FuncData}{ps:List Str}{sp:Sp}{dvs:List V}{ds:List Value}{E:XK}{x m:Str}{p pos apos:Pos}{e o:Expr}{es:List Expr}{ta:TE}{t:TA}
theorem xa{pins:List (Addr×Obj)}{σ:St}{H:Hp}{s:Shared}{Q:VK}{us:List Value}{vs:List V}(F:cX X.prog X.w X.K X.mg X.base CX k f fd ps sp)(hr:c4 k X.A)(hb:Binds X.K fd ps ds)(hd:Vals dvs ds)(hx:Passes CX X E)
  (I:Inv X pins σ H s)(r:Vals vs us)(h:sp (vs++dvs) H Q E):wpAny (model X.prog X.w) X.A (call (.ref f) us) (EP X pins σ Q) X.xe s:=by
 have r2:Vals (vs++dvs) (us++ds):=r.append hd;have hl:(us++ds).length=ps.length:=by rw[<- r2.length];exact F.len _ _ _ _ h
 refine wpAny_call (codeAny_mono (F.run X.A X.stack s H ⟨us,[]⟩ (us++ds) (vs++dvs) Q E hr I.aiw (hb s us I.kIn hl) r2 h) λ r s' hq=>?_);cases r with
 | error e=>exact hx pins σ H s e s' I hq
 | ok fl =>
  cases fl with
  | ret u=>exact I.after hq
  | next=>exact False.elim hq
  | brk=>exact False.elim hq
  | cont=>exact False.elim hq
theorem acN(F:cX X.prog X.w X.K X.mg X.base CX k f fd ps sp)(hr:c4 k X.A)(hg:Gl X x)(hm:X.mg x=some (.ref f))(hk:PySem.W.keepIn X.K (.ref f)=true)(hb:Binds X.K fd ps ds)(hd:Vals dvs ds)(hx:Passes CX X E)
  (ha:PA X (e::es) t)(hdb:(x==("__debug__" : Str))=false:=by decide)(he:starEach (e::es) X.env=(false,eval e X.env)::starEach es X.env:=by rfl)(hpl:(backTo pos (starEach es X.env)).any (·.1)=false:=by rfl) :
  PE X (.Call (.Name x p) (e::es) [] pos) (ahs sp dvs E t):=by
 intro pins s σ H Q I h;refine wpAny_Call_Name_kw (oz I hg hm ?_ hdb);refine PySem.W.callWith_K (h₀:=X.base) I.ok.mod.kin hk (thn (ha pos pins s σ H _ I h) λ us s1 ⟨vs,H1,I1,r,q⟩=>⟨I1.kIn,?_⟩) he hpl;exact xa F hr hb hd hx I1 r q
theorem ac0{pl:Sem Bool}(he:PE X o ta)(c:Cls X.K C)(hm:Meth X.K C m f)(F:cX X.prog X.w X.K X.mg X.base CX k f fd ps sp)(hr:c4 k X.A)(hb:Binds X.K fd ps ds)(hd:Vals dvs ds)(hx:Passes CX X E)(ha:PA X (e::es) t)
  (hst:starEach (e::es) X.env=(false,eval e X.env)::starEach es X.env:=by rfl)(hpl:(backTo pos (starEach es X.env)).any (·.1)=false:=by rfl)
  (ht:eval (.Call (.Attribute o m apos) (e::es) [] pos) X.env=(do
   let ov <- eval o X.env
   standAt apos.atName
   let (f,first) <- holding [ov] (getMethod ov m pl)
   callWith pos f first (backTo pos (starEach (e::es) X.env)) (backToKw pos (keywordEach [] X.env))):=by rfl) :
  PE X (.Call (.Attribute o m apos) (e::es) [] pos) (adG C m sp dvs E ta t):=by
 intro pins s σ H Q I h;refine PySem.W.methodCall_KW (pl:=pl) (thn (he pins s σ H _ I h) λ u s1 ⟨x,H1,I1,rx,a,dx,fs,ex,ea,l,q⟩=>?_) ht;subst ex;obtain rfl:u=Value.ref a:=rx;refine nO I1 ea c hm l ?_;refine PySem.W.callWith_K (first:=[.ref a]) (h₀:=X.base) I.ok.mod.kin hm.kp (thn (ha pos pins s1 σ H1 _ I1 q) λ us s2 ⟨vs,H2,I2,r,q2⟩=>⟨I2.kIn,?_⟩) hst hpl
 exact xa (us:=.ref a::us) (vs:=.ref a::vs) F hr hb hd hx I2 (.cons rfl r) q2
theorem aa5{pl:Sem Bool}(he:PE X o ta)(c:Cls X.K C)(hm:Meth X.K C m f)(F:cX X.prog X.w X.K X.mg X.base CX k f fd ps sp)(hr:c4 k X.A)(hb:Binds X.K fd ps ds)(hd:Vals dvs ds)(hx:Passes CX X E)
  (ht:eval (.Call (.Attribute o m apos) [] [] pos) X.env=(do
   let ov <- eval o X.env
   standAt apos.atName
   let (f,first) <- holding [ov] (getMethod ov m pl)
   callWith pos f first (backTo pos (starEach [] X.env)) (backToKw pos (keywordEach [] X.env))):=by rfl) :
  PE X (.Call (.Attribute o m apos) [] [] pos) (adG C m sp dvs E ta zL):=by
 intro pins s σ H Q I h;refine PySem.W.methodCall_KW (pl:=pl) (thn (he pins s σ H _ I h) λ u s1 ⟨x,H1,I1,rx,a,dx,fs,ex,ea,l,q⟩=>?_) ht;subst ex;obtain rfl:u=Value.ref a:=rx;refine nO I1 ea c hm l ?_;exact PySem.W.callWith_K0 (first:=[.ref a]) I1.kIn hm.kp (xa (us:=[.ref a]) (vs:=[.ref a]) F hr hb hd hx I1 (.cons rfl .nil) q)
structure Mk(K:PySem.W.Frag)(C f:Addr):Prop where
 makes:PySem.W.makesIn K C=true
 init:PySem.W.findIn K (.ref C) "__init__" = some (some (.ref f))
 fn:PySem.W.isFn K (.ref f)=true
 kp:PySem.W.keepIn K (.ref C)=true
theorem vg{pins:List (Addr×Obj)}{σ:St}{H:Hp}{s:Shared}{Q:VK}{us:List Value}{vs:List V}(M:Mk X.K C f)(F:cX X.prog X.w X.K X.mg X.base CX k f fd ps sp)(hr:c4 (k+1) X.A)(hb:Binds X.K fd ps ds)(hd:Vals dvs ds)
  (hx:Passes CX X E)(I:Inv X pins σ H s)(r:Vals vs us)
  (h:∀ x dx,H x=none->H dx=none->dx≠x->sp (.ref x::(vs++dvs)) (upd (upd H dx (.own x)) x (.ins C dx [])) (λ v H2=>v=.non/\Q (.ref x) H2) E) :
  wpAny (model X.prog X.w) X.A (call (.ref C) us) (EP X pins σ Q) X.xe s:=by
 have hq:=h (s.heap.objs.size+1) s.heap.objs.size (I.hok.fresh (Nat.le_succ _)) (I.hok.fresh (Nat.le_refl _)) (Nat.ne_of_lt (Nat.lt_succ_self _));have I2:=Inv.made (C:=C) I;have r2:Vals (V.ref (s.heap.objs.size+1)::(vs++dvs)) (Value.ref (s.heap.objs.size+1)::(us++ds)):=.cons rfl (r.append hd);have hl:(Value.ref (s.heap.objs.size+1)::us++ds).length=ps.length:=by have e:=r2.length;rw[F.len _ _ _ _ hq] at e;exact e.symm
 refine wpAny_call (aaq (f:=f) I.kIn M.makes M.init (beq_iff_eq.mp M.fn) (codeAny_mono (F.run _ X.stack _ _ ⟨Value.ref (s.heap.objs.size+1)::us,[]⟩ (Value.ref (s.heap.objs.size+1)::(us++ds)) _ _ E (hr.make C us [])
  (I2.aiw.make C us []) (hb _ (Value.ref (s.heap.objs.size+1)::us) I2.kIn hl) r2 hq) λ r s' hq'=>?_))
 cases r with
 | error e=>exact hx pins σ _ _ e s' I2 hq'
 | ok fl =>
  cases fl with
  | ret u =>
   obtain⟨v,H',I3,rv,ev,q3⟩:=I2.after hq';subst ev;exact⟨rv,⟨V.ref (s.heap.objs.size+1),H',I3,rfl,q3⟩⟩
  | next=>exact False.elim hq'
  | brk=>exact False.elim hq'
  | cont=>exact False.elim hq'
theorem ad2(M:Mk X.K C f)(F:cX X.prog X.w X.K X.mg X.base CX k f fd ps sp)(hr:c4 (k+1) X.A)(hg:Gl X x)(hm:X.mg x=some (.ref C))(hb:Binds X.K fd ps ds)(hd:Vals dvs ds)(hx:Passes CX X E)
  (ha:PA X (e::es) t)(hdb:(x==("__debug__" : Str))=false:=by decide)(he:starEach (e::es) X.env=(false,eval e X.env)::starEach es X.env:=by rfl)(hpl:(backTo pos (starEach es X.env)).any (·.1)=false:=by rfl) :
  PE X (.Call (.Name x p) (e::es) [] pos) (aeH C sp dvs E t):=by
 intro pins s σ H Q I h;refine wpAny_Call_Name_kw (oz I hg hm ?_ hdb);refine PySem.W.callWith_K (h₀:=X.base) I.ok.mod.kin M.kp (thn (ha pos pins s σ H _ I h) λ us s1 ⟨vs,H1,I1,r,q⟩=>⟨I1.kIn,?_⟩) he hpl;exact vg M F hr hb hd hx I1 r q
theorem abc(M:Mk X.K C f)(F:cX X.prog X.w X.K X.mg X.base CX k f fd ps sp)(hr:c4 (k+1) X.A)(hg:Gl X x)(hm:X.mg x=some (.ref C))(hb:Binds X.K fd ps ds)(hd:Vals dvs ds)(hx:Passes CX X E)
  (hdb:(x==("__debug__" : Str))=false:=by decide):PE X (.Call (.Name x p) [] [] pos) (aeH C sp dvs E zL):=by
 intro pins s σ H Q I h;refine wpAny_Call_Name_kw (oz I hg hm ?_ hdb);exact PySem.W.callWith_K0 I.kIn M.kp (vg (us:=[]) M F hr hb hd hx I .nil h)
end
def PK(X:Cx)(kws:List Keyword)(t:TA):Prop:=
 ∀ (pos:Pos) (pins:List (Addr×Obj)) (s:Shared) (σ:St) (H:Hp) (Q:List V->Hp->Prop),Inv X pins σ H s->t σ H Q->wpAny (model X.prog X.w) X.A (evalAll ((backToKw pos (keywordEach kws X.env)).map (·.2))) (AP X pins σ Q) X.xe s
section
variable {X:Cx}{CX:CXT}{k:Nat}{f C:Addr}{fd:FuncData}{ps ks:List Str}{sp:Sp}{E:XK}{x m:Str}{p pos apos kpos:Pos}{e o:Expr}{es:List Expr}{kws:List Keyword}{te ta:TE}{t tk:TA}{nm:Option Str}
theorem abE:PK X [] zL:=λ _ _ _ _ H Q I h=>wpAny_evalAll_nil ⟨[],H,I,.nil,h⟩
theorem xU(ha:PE X e te)(hr:PK X kws t):PK X (⟨nm,e,kpos⟩::kws) (sx te t):=by intro pos pins s σ H Q I h;show wpAny _ _ (evalAll ((do let v <- eval e X.env;standAt pos;pure v)::(backToKw pos (keywordEach kws X.env)).map (·.2))) _ _ s;refine wpAny_evalAll_cons (wpAny_bind (thn (ha pins s σ H _ I h) λ u s1 ⟨x,H1,I1,r1,q1⟩=>wpAny_bind (wpAny_standAt (wpAny_pure ?_))));exact thn (hr pos pins s1 σ H1 _ I1 q1) λ us s2 ⟨xs,H2,I2,r2,q2⟩=>⟨x::xs,H2,I2,.cons r1 r2,q2⟩
variable {g:List Value->List Value->List Value}{gV:List V->List V->List V}
end
structure aL(N P:List Str)(sc:Scope):Prop where
 kind:sc.kind=.function
 co:sc.isCoroutine=false
 gen:sc.isGenerator=false
 nd:N.Nodup
 pre:N.take P.length=P
 par:∀ x∈P,sc.names.lookup x=some .local\/sc.names.lookup x=some .cell
 nofree:∀ y∈sc.names,y.2 ≠ .free
theorem so{kindOf:Str->Option NameKind}{x:Str}:∀ {binds:List (Str×Value)} {m:Str->Option Value},(∀ v,(x,v) ∉ binds)->bindL kindOf binds m x=m x
 | [],_,_=>rfl
 | (n,v)::r,m,h=>by
  unfold bindL;rw[so λ w hw=>h w (List.mem_cons_of_mem _ hw)]
  split
  ·have:x≠n:=by rintro rfl;exact h v List.mem_cons_self
   simp[this]
  ·rfl
theorem rO{kindOf:Str->Option NameKind}{x:Str}:∀ {binds:List (Str×Value)} {m:Str->Option Value},(∀ v,(x,v) ∉ binds)->bindC kindOf binds m x=m x
 | [],_,_=>rfl
 | (n,v)::r,m,h=>by
  unfold bindC;rw[rO λ w hw=>h w (List.mem_cons_of_mem _ hw)]
  split
  ·rfl
  ·have:x≠n:=by rintro rfl;exact h v List.mem_cons_self
   simp[this]
theorem qJ{kindOf:Str->Option NameKind}{x:Str}{v:Value}:∀ {P:List Str} {vs:List Value} {i:Nat} {m:Str->Option Value},P.Nodup->P[i]? =some x->vs[i]? =some v->kindOf x=some .local ->
  bindL kindOf (P.zip vs) m x=some v
 | [],_,_,_,_,h,_,_=>by simp at h
 | _::_,[],_,_,_,_,h,_=>by simp at h
 | p::P,w::vs,0,m,nd,h1,h2,hk=>by simp at h1 h2;subst h1;subst h2;show bindL kindOf ((p,w)::P.zip vs) m p=_;unfold bindL;rw[so λ v hv=>(List.nodup_cons.mp nd).1 (List.of_mem_zip hv).1,if_pos hk];simp
 | p::P,w::vs,i+1,m,nd,h1,h2,hk=>by show bindL kindOf ((p,w)::P.zip vs) m x=_;unfold bindL;exact qJ (i:=i) (List.nodup_cons.mp nd).2 (by simpa using h1) (by simpa using h2) hk
theorem se{kindOf:Str->Option NameKind}{x:Str}{v:Value}:∀ {P:List Str} {vs:List Value} {i:Nat} {m:Str->Option Value},P.Nodup->P[i]? =some x->vs[i]? =some v->kindOf x≠some .local ->
  bindC kindOf (P.zip vs) m x=some v
 | [],_,_,_,_,h,_,_=>by simp at h
 | _::_,[],_,_,_,_,h,_=>by simp at h
 | p::P,w::vs,0,m,nd,h1,h2,hk=>by simp at h1 h2;subst h1;subst h2;show bindC kindOf ((p,w)::P.zip vs) m p=_;unfold bindC;rw[rO λ v hv=>(List.nodup_cons.mp nd).1 (List.of_mem_zip hv).1,if_neg hk];simp
 | p::P,w::vs,i+1,m,nd,h1,h2,hk=>by show bindC kindOf ((p,w)::P.zip vs) m x=_;unfold bindC;exact se (i:=i) (List.nodup_cons.mp nd).2 (by simpa using h1) (by simpa using h2) hk
def start(N:List Str)(vs:List V):St:=vs.map some++List.replicate (N.length-vs.length) none
def aaK(CX:CXT)(P:Program)(w:World)(K:PySem.W.Frag)(mg:Str->Option Value)(base:Heap)(N:List Str)(qual:Str)(scope:Scope)(f:Addr)(cd:Value)(A:Around)(outer:List Env)(s:Shared)(H:Hp)(E:XK):Cx where
 prog:=P
 w:=w
 K:=K
 mg:=mg
 base:=base
 A:=A.deeper (envOfC qual scope s.heap.objs.size f cd)
 N:=N
 s₀:=s
 H₀:=H
 env:=envOfC qual scope s.heap.objs.size f cd
 outer:=outer
 stack:=envOfC qual scope s.heap.objs.size f cd::outer
 ex:=[]
 calm:=true
 fn:=λ _=>true
 pn:=[]
 xe:=λ e s'=>wpAny (model P w) (A.deeper (envOfC qual scope s.heap.objs.size f cd)) (leaving (envOfC qual scope s.heap.objs.size f cd) e) (λ _ s''=>CX outer H s E e s'') (λ e' s''=>CX outer H s E e' s'') s'
theorem vd{sc:Scope}{n:Nat}{x:Str}(h:sc.names.lookup x=some .cell):∃ c,(cellsFrom n sc.names []).lookup x=some c:=by have q:=PySem.W.cellsFrom_some sc.names n [] (.inl h);exact Option.isSome_iff_exists.mp q
theorem xn{CX:CXT}{P:Program}{w:World}{K:PySem.W.Frag}{mg:Str->Option Value}{base:Heap}{N ps:List Str}{qual:Str}{scope:Scope}{f:Addr}{cd:Value}{A:Around}{outer:List Env}{s s1:Shared}{H:Hp}{E:XK}{us:List Value}{vs:List V}
  (S:aL N ps scope)(hd:A.handled=none)(e0:adu P w K mg base A outer s H)(hl:vs.length=ps.length)(r:Vals vs us)
  (x:InCallC s s.heap.objs.size (bindL (envOfC qual scope s.heap.objs.size f cd).kindOf (ps.zip us) λ _=>none) (cellsFrom (s.heap.objs.size+1) scope.names []) (bindC (envOfC qual scope s.heap.objs.size f cd).kindOf (ps.zip us) λ _=>none) s1) :
  Inv (aaK CX P w K mg base N qual scope f cd A outer s H E) [] (start N vs) H s1:=by
 have hpl:ps.length<=N.length:=by have:=congrArg List.length S.pre;rw[List.length_take] at this;omega
 obtain⟨h1,tk,rfl,hk⟩:=x.done;have noA:∀ b:Addr,b ∉ (aaK CX P w K mg base N qual scope f cd A outer s H E).ex:=λ b z=>absurd (show b∈([]:List Addr) from z) (by simp);refine⟨⟨e0.mod,S.kind,rfl,rfl,Nat.le_refl _,λ y z c h1 h2=>?_,λ y hy=>?_,λ y c _ h=>?_,λ _=>hd,Around.frames_deeper e0.frames,.inr ⟨rfl,rfl⟩,λ b z=>absurd z (noA b),e0.bs,e0.bsz,λ b _ _=>noA b,λ b z=>absurd z (noA b),e0.sA,e0.frf⟩,
  rfl,e0.bare,Un.kept hk,⟨_,x.toInCall.ns,λ i y v h1 h2 h3=>?_⟩,λ y c h=>⟨_,x.cell y c h⟩,e0.hok.fresh (Nat.le_refl _),λ y c h=>?_,λ p hp=>absurd (show p∈([]:List (Addr×Obj)) from hp) (by simp),e0.hok.kept hk,?_⟩
 ·exact name_of_addr x.apart (PySem.mem_of_lookup h1) (PySem.mem_of_lookup h2)
 ·have hy:scope.names.lookup y=some .cell\/scope.names.lookup y=some .free:=hy;rcases hy with hy | hy
  ·exact vd hy
  ·exact absurd rfl (S.nofree _ (PySem.mem_of_lookup hy))
 ·exact Nat.le_of_lt (x.above y c (PySem.mem_of_lookup h))
 ·have hi:i<vs.length:=by
   unfold start at h2
   by_cases hi:i<vs.length
   ·exact hi
   ·rw[List.getElem?_append_right (by simpa using hi)] at h2;rw[List.getElem?_replicate] at h2
    split at h2<;>cases h2
  have ha:vs[i]? =some v:=by
   unfold start at h2;rw[List.getElem?_append_left (by simpa using hi),List.getElem?_map] at h2;cases e:vs[i]? with
   | none=>rw[e] at h2;cases h2
   | some a=>rw[e] at h2;cases h2;rfl
  obtain⟨u,hu,rv⟩:=r.get ha;have hp:ps[i]? =some y:=by rw[<- S.pre,List.getElem?_take_of_lt (by omega)];exact h1
  have ndP:ps.Nodup:=by rw[<- S.pre];exact S.nd.sublist (List.take_sublist _ _)
  refine⟨u,rv,?_⟩;rcases S.par y (List.mem_of_getElem? hp) with k | k
  ·exact .inl ⟨k,qJ ndP hp hu k⟩
  ·obtain⟨c,e⟩:=vd (n:=s.heap.objs.size+1) k;refine .inr ⟨.inl k,c,e,?_⟩;have q:=x.cell y c e;rw[se ndP hp hu (by show scope.names.lookup y≠_;rw[k];decide)] at q;exact q
 ·exact e0.hok.fresh (Nat.le_of_lt (x.above y c (PySem.mem_of_lookup h)))
 ·unfold start;show _=N.length;rw[List.length_append,List.length_map,List.length_replicate];omega
theorem ac2{CX:CXT}{P:Program}{w:World}{K:PySem.W.Frag}{mg:Str->Option Value}{base:Heap}{k:Nat}{f:Addr}{name qual:Str}{params:Arguments}{body:List Stmt}{scope:Scope}{dV kV doc pm cdv ct oc:Value}{an od:Option Addr}
  {osl:Array (Option Value)}{N ps:List Str}{sp:Sp}(lk:K.lookup f=some ⟨oc,od,.func (PySem.W.fnOf name qual params body scope dV kV doc pm an cdv ct),osl⟩)(hcd:PySem.W.codeIn K cdv qual=true)(S:aL N ps scope)
  (len:∀ vs H Q E,sp vs H Q E->vs.length=ps.length)
  (hbody:∀ (A:Around) (outer:List Env) (s:Shared) (H:Hp) (vs:List V) (Q:VK) (E:XK),c4 k (A.deeper (envOfC qual scope s.heap.objs.size f cdv))->sp vs H Q E ->
   ∃ t,PSs (aaK CX P w K mg base N qual scope f cdv A outer s H E) body t/\t {nx:=λ _ H'=>Q .non H',rt:=Q} (start N vs) H) :
  cX P w K mg base CX (k+1) f (PySem.W.fnOf name qual params body scope dV kV doc pm an cdv ct) ps sp:=by
 refine⟨len,λ A outer s H args us vs Q E hr e0 hb r hsp=>?_⟩;have hl:=len _ _ _ _ hsp;have KX:K.In s.heap:=e0.mod.kin.keeps λ b o e=>(e0.bs b o e).1;have lim:s.heap.NoLimit:=e0.mod.nolimit.keeps λ b o e=>(e0.bs b o e).1;have hkind:∀ y∈ps.zip us,scope.names.lookup y.1=some .local\/(scope.names.lookup y.1=some .cell/\((cellsFrom (s.heap.objs.size+1) scope.names []).lookup y.1).isSome=true):=λ⟨n,v⟩ hy=>by
  rcases S.par n (List.of_mem_zip hy).1 with q | q
  ·exact .inl q
  ·exact .inr ⟨q,PySem.W.cellsFrom_some _ _ _ (.inl q)⟩
 refine codeAny_call_function hr.depth (KX _ _ lk) rfl S.co S.gen rfl (PySem.W.codeRec_of KX hcd) (hb _ _ _ _ ?_);refine wpAny_newFunctionEnv_cells S.kind hkind λ env he s1 x=>?_;subst he;refine⟨lim.keeps x.toInCall.keep,codeAny_func ?_⟩;obtain⟨t,ht,hq⟩:=hbody A outer s H vs Q E (hr.deeper _) hsp;have I:Inv (aaK CX P w K mg base N qual scope f cdv A outer s H E) [] (start N vs) H s1:=xn S hr.hd e0 hl r x;refine wpAny_mono (ht [] s1 (start N vs) H _ I hq) (λ fl s' hs=>?_) λ e s' hs=>hs;have fin:∀ {σ':St} {H':Hp} {v:V} {u:Value},Inv (aaK CX P w K mg base N qual scope f cdv A outer s H E) [] σ' H' s'->RelV v u->Q v H'->CE outer P w H s Q u s':=
  λ {σ' H' v u} J rv q=>⟨v,H',J.os,J.bare,J.base,J.hok,rv,q⟩
 cases fl with
 | ret u =>
  obtain⟨v,σ',H',J,rv,q⟩:=hs;exact fin J rv q
 | next =>
  obtain⟨σ',H',J,q⟩:=hs;exact fin (v:=V.non) (u:=Value.none) J rfl q
 | brk =>
  obtain⟨_,_,_,q⟩:=hs;exact False.elim q
 | cont =>
  obtain⟨_,_,_,q⟩:=hs;exact False.elim q
section
variable {X:Cx}{x:Str}{p pos:Pos}{e:Expr}{es:List Expr}{t:TA}{id T:String}{r:List V->Hp->VK->Prop}
def tCB(r:List V->Hp->VK->Prop)(t:TA):TE:=λ σ H Q=>t σ H λ vs H1=>r vs H1 Q
theorem pA(hc:fC X (.builtin id) r)(hg:Gl X x)(hm:X.mg x=none)(hv:bootBuiltins x=some (.builtin id))(ha:PA X (e::es) t)(hn:x ≠ "__name__":= by decide)(hdb:(x==("__debug__" : Str))=false:=by decide)
  (he:starEach (e::es) X.env=(false,eval e X.env)::starEach es X.env:=by rfl)(hpl:(backTo pos (starEach es X.env)).any (·.1)=false:=by rfl):PE X (.Call (.Name x p) (e::es) [] pos) (tCB r t):=by
 intro pins s σ H Q I h;refine wpAny_Call_Name_kw (lO I hg hm hv ?_ hn hdb);exact PyProof.Rows.callWith_builtin1 (thn (ha pos pins s σ H _ I h) λ us s1 ⟨vs,H1,I1,r1,q1⟩=>hc pins s1 σ H1 vs us Q I1 r1 q1) he hpl
theorem zx(hc:fC X (.type T) r)(hg:Gl X x)(hm:X.mg x=none)(hv:bootBuiltins x=some (.type T))(ha:PA X (e::es) t)(hn:x ≠ "__name__":= by decide)(hdb:(x==("__debug__" : Str))=false:=by decide)
  (he:starEach (e::es) X.env=(false,eval e X.env)::starEach es X.env:=by rfl)(hpl:(backTo pos (starEach es X.env)).any (·.1)=false:=by rfl):PE X (.Call (.Name x p) (e::es) [] pos) (tCB r t):=by
 intro pins s σ H Q I h;refine wpAny_Call_Name_kw (lO I hg hm hv ?_ hn hdb);exact PyProof.Rows.callWith_type1 (thn (ha pos pins s σ H _ I h) λ us s1 ⟨vs,H1,I1,r1,q1⟩=>hc pins s1 σ H1 vs us Q I1 r1 q1) he hpl
end
end L2
namespace HT
open PySem PyProof.Rows
section
open PySem.SeqAt
open PySem.AutoSeq1 (wpAny_loadPart')
open PySem.MeetsSeq PySem.MeetsSeq2 PySem.MeetsSeq3
end
section
variable {prog:Program}{w:World}{A:Around}{E:Value->Shared->Prop}{s:Shared}
def sIx(n d:Nat):Option Int->Nat
 | none=>d
 | some v=>if v<0 then (v+(n:Int)).toNat else min v.toNat n
theorem af7(n d:Nat)(hd:d<=n)(o:Option Int):sIx n d o<=n:=by
 cases o with
 | none=>exact hd
 | some v =>
  show(if v<0 then (v+(n:Int)).toNat else min v.toNat n)<=n
  by_cases hv:v<0
  ·rw[if_pos hv];omega
  ·rw[if_neg hv];exact Nat.min_le_right _ _
theorem yo(v:Int)(n d:Nat):(if v<0 then max (v+(n:Int)) 0 else min v (n:Int))=((sIx n d (some v):Nat):Int):=by
 show(if v<0 then max (v+(n:Int)) 0 else min v (n:Int))=(((if v<0 then (v+(n:Int)).toNat else min v.toNat n):Nat):Int)
 by_cases hv:v<0
 ·simp only[if_pos hv];omega
 ·simp only[if_neg hv];omega
theorem v5(lo hi:Option Int)(n:Nat):Builtin.Slice.sliceAdjust lo hi 1 (n:Int)=(((sIx n 0 lo:Nat):Int),((sIx n n hi:Nat):Int)):=by
 have h1:¬ ((1:Int)<0):=by omega
 unfold Builtin.Slice.sliceAdjust;simp only[h1,if_false];refine Prod.ext ?_ ?_
 ·cases lo with
  | none=>rfl
  | some v=>exact yo v n 0
 ·cases hi with
  | none=>rfl
  | some v=>exact yo v n n
theorem vm(i j:Nat):Builtin.Slice.slicePlaces (i:Int) (j:Int) 1=j-i:=by
 unfold Builtin.Slice.slicePlaces;have h1:(1:Int) > 0:=by omega
 simp only[h1,if_true,Int.ediv_one]
 split<;>omega
theorem nR{v:Value}{o:Option Int}{Q:Option Int->Shared->Prop}(p:IsPart v o)(h:Q o s):wpAny (model prog w) A (Builtin.Slice.slicePartIndex v) Q E s:=by
 cases p with
 | none=>exact slicePart_none h
 | int i t=>exact slicePart_int h
theorem j7{sl:Addr}{vl vu:Value}{lo hi:Option Int}{n:Nat}{Q:Int×Int×Nat->Shared->Prop}(hs:s.heap.IsSliceOf sl vl vu .none)(pl:IsPart vl lo)(pu:IsPart vu hi)
  (h:Q (((sIx n 0 lo:Nat):Int),1,sIx n n hi-sIx n 0 lo) s):wpAny (model prog w) A (Builtin.Slice.sliceApplied (.ref sl) (pure (n:Int))) Q E s:=by
 obtain⟨os,hos,hcs,hds⟩:=id hs;unfold Builtin.Slice.sliceApplied Builtin.Slice.sliceFields;refine wpAny_bind (wpAny_bind (wpAny_field hos hds (x:=vl) rfl (wpAny_bind (wpAny_field hos hds (x:=vu) rfl (wpAny_bind (wpAny_field hos hds (x:=.none) rfl (wpAny_pure ?_)))))));refine wpAny_bind (slicePart_none ?_);show wpAny _ _ (if ((1:Int)==0)=true then _ else _) _ _ s;rw[if_neg (by decide)];refine wpAny_bind (nR pl (wpAny_bind (nR pu (wpAny_bind (wpAny_pure ?_)))));show wpAny _ _ (match Builtin.Slice.sliceAdjust lo hi 1 (n:Int) with | (lo,hi)=>pure (lo,(1:Int),Builtin.Slice.slicePlaces lo hi 1)) _ _ s
 rw[v5 lo hi n];show wpAny _ _ (pure (((sIx n 0 lo:Nat):Int),(1:Int),Builtin.Slice.slicePlaces ((sIx n 0 lo:Nat):Int) ((sIx n n hi:Nat):Int) 1)) _ _ s;rw[vm];exact wpAny_pure h
theorem aag(xs:Array Value)(i k:Nat):((List.range k).filterMap λ(m:Nat)=>xs[((i:Int)+(m:Int) * 1).toNat]?).toArray=((xs.toList.drop i).take k).toArray:=by
 have e:(λ(m:Nat)=>xs[((i:Int)+(m:Int) * 1).toNat]?)=λ m=>xs[i+m]?:=by
  funext m;have:((i:Int)+(m:Int) * 1).toNat=i+m:=by omega
  rw[this]
 rw[e];have:=pick_run xs i k;rw[List.filterMap_map] at this;have e2:((λ x=>xs[x]?) ∘ λ x=>i+x)=λ m=>xs[i+m]?:=rfl;rw[e2] at this;rw[this]
theorem jC{t sl:Addr}{items:Array Value}{vl vu:Value}{lo hi:Option Int}{Q:Value->Shared->Prop}(ht:IsTup s.heap t items)(hs:s.heap.IsSliceOf sl vl vu .none)(pl:IsPart vl lo)(pu:IsPart vu hi)
  (hw:¬ (sIx items.size 0 lo=0/\sIx items.size items.size hi=items.size))
  (h:Q (.ref s.heap.objs.size) {s with heap:=s.heap.push {cls:=.type "tuple",data:=.seq ((items.toList.drop (sIx items.size 0 lo)).take (sIx items.size items.size hi-sIx items.size 0 lo)).toArray}})
  (hsz:items.size<=sizeLine):wpAny (model prog w) A (getItem (.ref t) (.ref sl)) Q E s:=by
 have htake:sizeOk (.seq ((items.toList.drop (sIx items.size 0 lo)).take (sIx items.size items.size hi-sIx items.size 0 lo)).toArray):=by show((items.toList.drop (sIx items.size 0 lo)).take (sIx items.size items.size hi-sIx items.size 0 lo)).toArray.size<=sizeLine;rw[List.size_toArray,List.length_take,List.length_drop,Array.length_toList];omega
 have hj:sIx items.size items.size hi<=items.size:=af7 _ _ (Nat.le_refl _) hi;obtain⟨os,hos,hcs,hds⟩:=id hs;have hTs:s.TypeIs (.ref sl) "slice":= ⟨os,hos,hcs⟩;unfold getItem
 try with_reducible refine wpAny_holding ?_
 first | refine wpAny_bind (wpAny_pure ?_) | skip
 refine wpAny_bind (wpAny_sequenceKey ht.typeIs (by decide) ?_);refine wpAny_bind (wpAny_callSpecial?_slot (name:=Str.ofString "__getitem__") ht.typeIs PyProof.Rows.slot_tuple_getitem
  (wpAny_call_entry PyProof.Rows.slot_tuple_getitem ht.typeIs entry_tuple_getitem ?_ (args_tuple_getitem _ _)))
 show wpAny _ _ (Builtin.Tuple.tupleItemsOf (.ref t) >>= _) _ _ s;refine wpAny_bind (tupleItemsOf_ ht ?_);refine wpAny_bind (wpAny_typeOf hTs ?_);rw[if_pos (by decide)];refine wpAny_bind (j7 hs pl pu ?_);have hno:¬ ((((sIx items.size 0 lo:Nat):Int)==0&&(1:Int)==1&&(sIx items.size items.size hi-sIx items.size 0 lo)==items.size)=true):=by intro q;rw[Bool.and_eq_true,Bool.and_eq_true] at q;have q1:((sIx items.size 0 lo:Nat):Int)=0:=eq_of_beq q.1.1;have q2:sIx items.size items.size hi-sIx items.size 0 lo=items.size:=eq_of_beq q.2;exact hw ⟨by omega,by omega⟩
 show wpAny _ _ (if (((sIx items.size 0 lo:Nat):Int)==0&&(1:Int)==1&&(sIx items.size items.size hi-sIx items.size 0 lo)==items.size)=true then _ else _) _ _ s;rw[if_neg hno,aag]
 first
  | exact wpAny_bind (m:=Builtin.Tuple.tupleExact _) (wpAny_newObj_type (wpAny_pure ⟨_,rfl,wpAny_pure h⟩) htake)
  | exact wpAny_bind (m:=Builtin.Tuple.tupleExact _) (wpAny_newObj_type (wpAny_bind (wpAny_pure (wpAny_pure ⟨_,rfl,wpAny_pure h⟩))) htake)
  | exact wpAny_bind (wpAny_bind (m:=Builtin.Tuple.tupleExact _) (wpAny_newObj_type (wpAny_pure (wpAny_pure ⟨_,rfl,wpAny_pure h⟩)) htake))
  | exact wpAny_bind (wpAny_bind (m:=Builtin.Tuple.tupleExact _) (wpAny_newObj_type (wpAny_pure ⟨_,rfl,wpAny_pure h⟩) htake))
end
end HT
namespace L2
abbrev TO:=St->Hp->(Option Int->Hp->Prop)->Prop
def PO(X:Cx)(e:Option Expr)(t:TO):Prop:=
 ∀ (pins:List (Addr×Obj)) (s:Shared) (σ:St) (H:Hp) (Q:Option Int->Hp->Prop),Inv X pins σ H s->t σ H Q ->
  wpAny (model X.prog X.w) X.A (evalPart e X.env) (λ u s'=>∃ o H',Inv X pins σ H' s'/\IsPart u o/\Q o H') X.xe s
def ad3:TO:=λ _ H Q=>Q none H
def ahO(t:TE):TO:=λ σ H Q=>t σ H λ x H1=>∃ i,x=.int i/\Q (some i) H1
section
variable {X:Cx}{e:Expr}{te:TE}{lo hi:Option Expr}{tl th:TO}{pos p2:Pos}
theorem adY:PO X none ad3:=by intro pins s σ H Q I h;rw[evalPart_none];exact wpAny_pure ⟨none,H,I,.none,h⟩
theorem acx(h:PE X e te):PO X (some e) (ahO te):=by intro pins s σ H Q I hw;rw[evalPart_some];refine thn (h pins s σ H _ I hw) λ u s1 hq25=>?_;obtain⟨x,H1,I1,r1,q1⟩:=hq25;obtain⟨i,rfl,q⟩:=q1;obtain⟨t,rfl⟩:=r1;exact⟨some i,H1,I1,.int i t,q⟩
def SlR(X:Cx)(r:V->Option Int->Option Int->Hp->VK->Prop):Prop:=
 ∀ (pins:List (Addr×Obj)) (s:Shared) (σ:St) (H:Hp) (x:V) (v vl vu:Value) (lo hi:Option Int) (sl:Addr) (Q:VK),Inv X pins σ H s->RelV x v->s.heap.IsSliceOf sl vl vu .none->IsPart vl lo->IsPart vu hi->r x lo hi H Q ->
  ∃ T id,typeLookup (.type T) "__getitem__" = pure (some (.builtin id))/\s.TypeIs v T/\wpAny (model X.prog X.w) X.A (getItem v (.ref sl)) (EP X pins σ Q) X.xe s
theorem SlR.or{r r':V->Option Int->Option Int->Hp->VK->Prop}(h:SlR X r)(h':SlR X r'):SlR X (λ x lo hi H Q=>r x lo hi H Q\/r' x lo hi H Q):=by
 intro pins s σ H x v vl vu lo hi sl Q I rx hs pl pu q;rcases q with q | q
 ·exact h pins s σ H x v vl vu lo hi sl Q I rx hs pl pu q
 ·exact h' pins s σ H x v vl vu lo hi sl Q I rx hs pl pu q
def tSl(r:V->Option Int->Option Int->Hp->VK->Prop)(te:TE)(tl th:TO):TE:=λ σ H Q=>te σ H λ x H1=>tl σ H1 λ l H2=>th σ H2 λ u H3=>r x l u H3 Q
theorem uz{r:V->Option Int->Option Int->Hp->VK->Prop}(hr:SlR X r)(he:PE X e te)(hl:PO X lo tl)(hu:PO X hi th):PE X (.Subscript e (.Slice lo hi none p2) pos) (tSl r te tl th):=by intro pins s σ H Q I h;refine Subscript_ (thn (he pins s σ H _ I h) λ v s1 hq26=>?_);obtain⟨x,H1,I1,r1,q1⟩:=hq26;refine wpAny_Slice (thn (hl pins s1 σ H1 _ I1 q1) λ vl s2 ⟨l,H2,I2,pl,q2⟩=>thn (hu pins s2 σ H2 _ I2 q2) λ vu s3 hq27=>?_);obtain⟨u,H3,I3,pu,q3⟩:=hq27;rw[evalPart_none];refine wpAny_pure ?_;have I4:Inv X pins σ H3 {s3 with heap:=s3.heap.push {cls:=.type "slice",data:=.fields #[vl,vu,.none]}}:=I3.kept (t':=s3.toks) λ b ob q=>Heap.get?_push_of_some _ q;obtain⟨T,id,hT,ht,hg⟩:=hr pins {s3 with heap:=s3.heap.push {cls:=.type "slice",data:=.fields #[vl,vu,.none]}} σ H3 x v vl vu l u s3.heap.objs.size Q I4 r1 (Heap.IsSliceOf.new ..) pl pu q3;show wpAny (model X.prog X.w) X.A (subscriptTail e (.Slice lo hi none p2) v (.ref s3.heap.objs.size)) (EP X pins σ Q) X.xe {s3 with heap:=s3.heap.push {cls:=.type "slice",data:=.fields #[vl,vu,.none]}};exact tail_any (ops:=[.ref s3.heap.objs.size,v]) ht hT hg (by with_unfolding_all rfl)
def yQ(xs:List V)(lo hi:Option Int):List V:=(xs.drop (HT.sIx xs.length 0 lo)).take (HT.sIx xs.length xs.length hi-HT.sIx xs.length 0 lo)
theorem k5(xs:List V)(lo hi:Option Int):(yQ xs lo hi).length<=xs.length:=by
 unfold yQ;rw[List.length_take,List.length_drop];omega
def aiu(K:PySem.W.Frag):V->Option Int->Option Int->Hp->VK->Prop:=λ x lo hi H Q=>∃ a xs,x=.ref a/\SqT K H a xs /\
 ¬ (HT.sIx xs.length 0 lo=0/\HT.sIx xs.length xs.length hi=xs.length)/\∀ p,H p=none->Q (.ref p) (upd H p (.tup (yQ xs lo hi)))
theorem afs:SlR X (aiu X.K):=by
 intro pins s σ H x v vl vu lo hi sl Q I rx hs pl pu h;obtain⟨a,xs,rfl,hx,hw,q⟩:=h;cases rx;obtain⟨its,r,ht,hz⟩:=I.tuple hx;have hlen:its.toArray.size=xs.length:=by rw[List.size_toArray];exact r.length.symm
 refine⟨"tuple",_,PyProof.Rows.slot_tuple_getitem.lookup,ht.typeIs,?_⟩;refine HT.jC ht hs pl pu (by rw[hlen];exact hw) ?_ (by rw[hlen];exact hz);rw[hlen];refine⟨.ref s.heap.objs.size,_,I.laid (t':=s.toks) (o:=.tup (yQ xs lo hi)) (λ b ob q=>Heap.get?_push_of_some _ q) (Nat.le_refl _) ?_,rfl,q _ (I.hok.fresh (Nat.le_refl _))⟩;exact⟨Nat.le_trans (k5 xs lo hi) hz,_,(r.drop (HT.sIx xs.length 0 lo)).take (HT.sIx xs.length xs.length hi-HT.sIx xs.length 0 lo),abR.new _ _⟩
end
def ixN(n:Nat)(i:Int):Option Nat:=if 0<=i then (if i<n then some i.toNat else none) else if -(n:Int)<=i then some (i+n).toNat else none
def atI{α:Type}(xs:List α)(i:Int):Option α:=(ixN xs.length i).bind λ j=>xs[j]?
theorem yl{n:Nat}{i:Int}{j:Nat}(h:ixN n i=some j):seqIndex? i n=some j/\j<n/\-(n:Int)<=i/\i<n:=by
 unfold ixN at h
 by_cases h0:0<=i
 ·rw[if_pos h0] at h
  by_cases h1:i<n
  ·rw[if_pos h1] at h;have e:i.toNat=j:=Option.some.inj h;exact⟨by rw[seqIndex_of h0 h1,e],by omega,by omega,h1⟩
  ·rw[if_neg h1] at h;cases h
 ·rw[if_neg h0] at h
  by_cases h1:-(n:Int)<=i
  ·rw[if_pos h1] at h;have e:(i+n).toNat=j:=Option.some.inj h;exact⟨by rw[seqIndex_neg (by omega) h1,e],by omega,h1,by omega⟩
  ·rw[if_neg h1] at h;cases h
theorem pY{α:Type}{xs:List α}{i:Int}{v:α}(h:atI xs i=some v):∃ j,seqIndex? i xs.length=some j/\xs[j]? =some v/\j<xs.length/\-(xs.length:Int)<=i/\i<xs.length:=by
 unfold atI at h;cases e:ixN xs.length i with
 | none=>rw[e] at h;cases h
 | some j =>
  rw[e] at h;obtain⟨h1,h2,h3,h4⟩:=yl e;exact⟨j,h1,h,h2,h3,h4⟩
theorem ml{α:Type}{xs:List α}{j:Nat}{v:α}(h:xs[j]? =some v):atI xs (j:Int)=some v:=by
 have hj:j<xs.length:=(List.getElem?_eq_some_iff.mp h).1;have e:ixN xs.length (j:Int)=some j:=by
  unfold ixN;rw[if_pos (by omega),if_pos (by omega)];simp
 unfold atI;rw[e];exact h
def sN(b:Expr):Prop:=∀ o i,subscripted b false o i=operate [o,i] (getItem o i)
def IxR(X:Cx)(r:R2):Prop:=
 ∀ (value slice:Expr) (pins:List (Addr×Obj)) (s:Shared) (σ:St) (H:Hp) (x y:V) (v u:Value) (Q:VK),Inv X pins σ H s->RelV x v->RelV y u->r x y H Q ->
  subscripted slice false v u=operate [v,u] (getItem v u)->wpAny (model X.prog X.w) X.A (subscriptTail value slice v u) (EP X pins σ Q) X.xe s
def MtR(X:Cx)(id:String)(r:V->List V->Hp->VK->Prop):Prop:=
 ∀ (pins:List (Addr×Obj)) (s:Shared) (σ:St) (H:Hp) (x:V) (xs:List V) (v:Value) (us:List Value) (Q:VK),Inv X pins σ H s->RelV x v->Vals xs us->r x xs H Q ->
  wpAny (model X.prog X.w) X.A (call (.builtin id) (v::us)) (EP X pins σ Q) X.xe s
section
variable {X:Cx}{a b:Expr}{ta tb:TE}{pos:Pos}
theorem IxR.or{r r':R2}(h:IxR X r)(h':IxR X r'):IxR X (λ x y H Q=>r x y H Q\/r' x y H Q):=by
 intro value slice pins s σ H x y v u Q I rx ry q hs;rcases q with q | q
 ·exact h value slice pins s σ H x y v u Q I rx ry q hs
 ·exact h' value slice pins s σ H x y v u Q I rx ry q hs
theorem ahY{r:R2}(hr:IxR X r)(ha:PE X a ta)(hb:PE X b tb)(hs:sN b):PE X (.Subscript a b pos) (tOp r ta tb):=by intro pins s σ H Q I h;exact Subscript_ (ahn ha hb I h λ v u s2 x y H2 I2 rx ry q=>hr a b pins s2 σ H2 x y v u Q I2 rx ry q (hs _ _))
def ahh(K:PySem.W.Frag):R2:=λ x y H Q=>∃ p xs i v,x=.ref p/\y=.int i/\SqL K H p xs/\atI xs i=some v/\Q v H
def aid(K:PySem.W.Frag):R2:=λ x y H Q=>∃ p xs i v,x=.ref p/\y=.int i/\SqT K H p xs/\atI xs i=some v/\Q v H
def aii:R2:=λ x y H Q=>∃ z i c,x=.str z/\y=.int i/\z.length<=sizeLine/\atI z.cps.toList i=some c/\Q (.str ⟨#[c]⟩) H
theorem acF:IxR X (ahh X.K):=by
 intro value slice pins s σ H x y v u Q I rx ry h hs;obtain⟨p,xs,i,z,rfl,rfl,hq,he,q⟩:=h;cases rx;obtain⟨t,rfl⟩:=ry;obtain⟨its,r,pl,hz⟩:=I.list hq;obtain⟨j,h1,h2,h3,h4,h5⟩:=pY he;obtain⟨w,ew,rw'⟩:=r.get h2;have hl:=r.length;have hn:=kZ;have fin:EP X pins σ Q w s:=⟨z,H,I,rw',q⟩
 by_cases h0:0<=i
 ·have hj:i.toNat=j:=by rw[seqIndex_of h0 h5] at h1;exact Option.some.inj h1
  exact item_listR pl.isList h0 (by omega) (by rw[hj];simpa using ew) fin hs
 ·have hj:(i+(its.toArray.size:Int)).toNat=j:=by rw[seqIndex_neg (by omega) h4] at h1;rw[List.size_toArray,<- hl];exact Option.some.inj h1
  exact subscriptTail_builtinR (x:=w) pl.isList.typeIs slot_list_getitem.lookup
   (wpAny_getItem_list_neg (Q:=λ r s'=>r=w/\EP X pins σ Q r s') pl.isList (by omega) (by rw[List.size_toArray]<;>omega) (by omega) (by rw[hj];simpa using ew) ⟨rfl,fin⟩) hs
theorem afL:IxR X (aid X.K):=by
 intro value slice pins s σ H x y v u Q I rx ry h hs;obtain⟨p,xs,i,z,rfl,rfl,hq,he,q⟩:=h;cases rx;obtain⟨t,rfl⟩:=ry;obtain⟨its,r,pl,hz⟩:=I.tuple hq;obtain⟨j,h1,h2,h3,h4,h5⟩:=pY he;obtain⟨w,ew,rw'⟩:=r.get h2;have hl:=r.length;have hn:=kZ;have fin:EP X pins σ Q w s:=⟨z,H,I,rw',q⟩;exact subscriptTail_builtinR (x:=w) pl.typeIs slot_tuple_getitem.lookup
  (getItem_tuple (j:=j) (Q:=λ r s'=>r=w/\EP X pins σ Q r s') pl (by omega) (by omega) (by rw[List.size_toArray,<- hl];exact h1) (by simpa using ew) ⟨rfl,fin⟩) hs
theorem afS:IxR X aii:=by
 intro value slice pins s σ H x y v u Q I rx ry h hs;obtain⟨z,i,c,rfl,rfl,hz,he,q⟩:=h;obtain⟨t,rfl⟩:=rx;obtain⟨t',rfl⟩:=ry;obtain⟨j,h1,h2,h3,h4,h5⟩:=pY he;have hl:z.cps.toList.length=z.length:=by simp[Str.length]
 rw[hl] at h1 h4 h5;have hn:=kZ;exact tail_any (typeIs_str s z t) slot_str_getitem.lookup (getItem_str (c:=c) (by have e1:decide (i < -(2 ^ 63:Int))=false:=decide_eq_false (by omega);have e2:decide (i >= 2 ^ 63)=false:=decide_eq_false (by omega);rw[e1,e2,Bool.or_false]) (by rw[h1];simpa using h2) ⟨.str ⟨#[c]⟩,H,I.tok _,⟨_,rfl⟩,q⟩) hs
def rIx(K:PySem.W.Frag):R2:=λ x y H Q=>ahh K x y H Q\/aid K x y H Q\/aii x y H Q
theorem aG:IxR X (rIx X.K):=acF.or (afL.or afS)
theorem vy(its:List Value)(n j:Nat)(u:Value):Obj.mapSeq (·.setIfInBounds j u) {cls:=.type "list",data:=.seq its.toArray n}={cls:=.type "list",data:=.seq (its.set j u).toArray n}:=by simp[Obj.mapSeq]
theorem Inv.lst{pins:List (Addr×Obj)}{σ:St}{H:Hp}{s:Shared}{p:Addr}{xs:List V}(I:Inv X pins σ H s)(h:H p=some (.lst xs)) :
  ∃ (its:List Value) (n:Nat),Vals xs its/\s.heap.get? p=some {cls:=.type "list",data:=.seq its.toArray n}/\xs.length<=sizeLine:=by
 obtain⟨z,its,n,r,e⟩:=I.hok p _ h;exact⟨its,n,r,e,z⟩
theorem Inv.afd{pins:List (Addr×Obj)}{σ:St}{H:Hp}{s:Shared}{p:Addr}{xs ys:List V}{its its':List Value}{n n':Nat}{f:Obj->Obj}(I:Inv X pins σ H s)(h:H p=some (.lst xs))
  (ho:s.heap.get? p=some {cls:=.type "list",data:=.seq its.toArray n})(hf:f {cls:=.type "list",data:=.seq its.toArray n}={cls:=.type "list",data:=.seq its'.toArray n'})(r:Vals ys its')(hz:ys.length<=sizeLine)(t:Nat) :
  Inv X pins σ (upd H p (.lst ys)) {s with heap:=s.heap.update p f,toks:=t}:=by
 have e:(s.heap.update p f).get? p=some {cls:=.type "list",data:=.seq its'.toArray n'}:=by rw[Heap.get?_update_self f ho (by rw[hf]<;>rfl),hf]
 refine I.write (x:=p) (e:=p) (by rw[h];trivial) (.inl rfl) (λ b u hb q=>(Heap.get?_update_other _ _ (Ne.symm hb)).trans q) ⟨_,e⟩ ?_;exact⟨hz,its',n',r,e⟩
def aia:V->V->V->Hp->(Hp->Prop)->Prop:=λ o i v H Q=>∃ p xs k j,o=.ref p/\i=.int k/\H p=some (.lst xs)/\ixN xs.length k=some j/\Q (upd H p (.lst (xs.set j v)))
theorem set_list:agS X aia:=by
 intro pins s σ H o i v ov iv u Q I ro ri rv h;obtain⟨p,xs,k,j,rfl,rfl,hp,hj,q⟩:=h;cases ro;obtain⟨t,rfl⟩:=ri;obtain⟨its,n,r,ho,hz⟩:=I.lst hp;obtain⟨h1,h2,h3,h4⟩:=yl hj;have hl:=r.length;have hn:=kZ;have I':Inv X pins σ (upd H p (.lst (xs.set j v))) {s with heap:=s.heap.update p (Obj.mapSeq (·.setIfInBounds j u))}:=
  I.afd hp ho (vy its n j u) (r.set rv j) (by rw[List.length_set];exact hz) s.toks
 by_cases h0:0<=k
 ·have hk:k.toNat=j:=by rw[seqIndex_of h0 h4] at h1;exact Option.some.inj h1
  exact PySem.W.ki_setAt ho h0 (by omega) (by rw[List.size_toArray,<- hl];exact h4) (by rw[hk];exact⟨_,I',q⟩)
 ·have hk:(k+(its.toArray.size:Int)).toNat=j:=by rw[seqIndex_neg (by omega) h3] at h1;rw[List.size_toArray,<- hl];exact Option.some.inj h1
  exact PySem.W.ki_setBack ho (by omega) (by rw[List.size_toArray,<- hl];exact h3) (by omega) (by rw[hk];exact⟨_,I',q⟩)
theorem qy(lo hi:Option Int)(n:Nat):(sliceBounds lo hi none n).1=((HT.sIx n 0 lo:Nat):Int)/\(sliceBounds lo hi none n).2.1=((HT.sIx n n hi:Nat):Int)/\(sliceBounds lo hi none n).2.2=1:=by
 refine⟨?_,?_,rfl⟩
 ·cases lo with
  | none=>simp[sliceBounds,HT.sIx]
  | some i =>
   simp only[sliceBounds,HT.sIx,Option.getD_none,show(1:Int) > 0 by decide,if_true]
   by_cases h:i<0
   ·simp only[h,if_true]<;>omega
   ·simp only[h,if_false]<;>omega
 ·cases hi with
  | none=>simp[sliceBounds,HT.sIx]
  | some i =>
   simp only[sliceBounds,HT.sIx,Option.getD_none,show(1:Int) > 0 by decide,if_true]
   by_cases h:i<0
   ·simp only[h,if_true]<;>omega
   ·simp only[h,if_false]<;>omega
theorem pO(its:List Value)(lo hi:Option Int):slicePick its.toArray lo hi none=((its.drop (HT.sIx its.length 0 lo)).take (HT.sIx its.length its.length hi-HT.sIx its.length 0 lo)).toArray:=by obtain⟨h1,h2,h3⟩:=qy lo hi its.toArray.size;unfold slicePick;rw[h1,h2,h3];simp only[sliceRange_one,pick_run,List.size_toArray]<;>rfl
def aiy(K:PySem.W.Frag):V->Option Int->Option Int->Hp->VK->Prop:=λ x lo hi H Q=>∃ a xs,x=.ref a/\SqL K H a xs/\∀ p,H p=none->Q (.ref p) (upd H p (.lst (yQ xs lo hi)))
theorem yA:SlR X (aiy X.K):=by intro pins s σ H x v vl vu lo hi sl Q I rx hs pl pu h;obtain⟨a,xs,rfl,hx,q⟩:=h;cases rx;obtain⟨its,r,ht,hz⟩:=I.list hx;have hlen:=r.length;refine⟨"list",_,slot_list_getitem.lookup,ht.isList.typeIs,?_⟩;refine wpAny_getItem_list_slice ht.isList hs pl pu .none (by simp) ?_ (by rw[List.size_toArray]<;>omega);rw[pO,<- hlen];refine⟨.ref s.heap.objs.size,_,I.laid (t':=s.toks) (o:=.lst (yQ xs lo hi)) (λ b ob q=>Heap.get?_push_of_some _ q) (Nat.le_refl _) ?_,rfl,q _ (I.hok.fresh (Nat.le_refl _))⟩;exact⟨Nat.le_trans (k5 xs lo hi) hz,_,0,(r.drop (HT.sIx xs.length 0 lo)).take (HT.sIx xs.length xs.length hi-HT.sIx xs.length 0 lo),Heap.get?_push_size _ rfl⟩
def mT:V->Bool
 | .non=>true
 | .bl _=>true
 | .int _=>true
 | .str _=>true
 | _=>false
def eqV:V->V->Bool
 | .non,.non=>true
 | .bl a,.bl b=>a==b
 | .bl a,.int b=>(if a then 1 else 0)==b
 | .int a,.bl b=>a==(if b then 1 else 0)
 | .int a,.int b=>a==b
 | .str a,.str b=>a==b
 | _,_=>false
theorem af1{A:Around}{s:Shared}{y x:V}{u v:Value}(ry:RelV y u)(rx:RelV x v)(fy:mT y=true)(fx:mT x=true):SeqAt.EqAt A s u v (eqV y x):=by
 cases y with
 | non =>
  cases ry;cases x with
  | non=>cases rx;exact SeqAt.EqAt.same _
  | bl b=>cases rx;exact SeqAt.EqAt.none_bool b
  | int b=>obtain⟨t,rfl⟩:=rx;exact SeqAt.EqAt.none_int b t
  | str b=>obtain⟨t,rfl⟩:=rx;exact SeqAt.EqAt.none_str b t
  | _=>exact absurd (show false=true from fx) Bool.false_ne_true
 | bl a =>
  cases ry;cases x with
  | non=>cases rx;exact SeqAt.EqAt.bool_none a
  | bl b=>cases rx;exact SeqAt.EqAt.bool_bool a b
  | int b=>obtain⟨t,rfl⟩:=rx;exact SeqAt.EqAt.bool_int a b t
  | str b=>obtain⟨t,rfl⟩:=rx;exact SeqAt.EqAt.bool_str a b t
  | _=>exact absurd (show false=true from fx) Bool.false_ne_true
 | int a =>
  obtain⟨t',rfl⟩:=ry;cases x with
  | non=>cases rx;exact SeqAt.EqAt.int_none a t'
  | bl b=>cases rx;exact SeqAt.EqAt.int_bool a t' b
  | int b=>obtain⟨t,rfl⟩:=rx;exact SeqAt.EqAt.int_int a t' b t
  | str b=>obtain⟨t,rfl⟩:=rx;exact SeqAt.EqAt.int_str a t' b t
  | _=>exact absurd (show false=true from fx) Bool.false_ne_true
 | str a =>
  obtain⟨t',rfl⟩:=ry;cases x with
  | non=>cases rx;exact SeqAt.EqAt.str_none a t'
  | bl b=>cases rx;exact SeqAt.EqAt.str_bool a t' b
  | int b=>obtain⟨t,rfl⟩:=rx;exact SeqAt.EqAt.str_int a t' b t
  | str b=>obtain⟨t,rfl⟩:=rx;exact SeqAt.EqAt.str_str a t' b t
  | _=>exact absurd (show false=true from fx) Bool.false_ne_true
 | _=>exact absurd (show false=true from fy) Bool.false_ne_true
def eqU(x:V)(u:Value):Bool:=match u with
 | .none=>eqV .non x
 | .bool b=>eqV (.bl b) x
 | .int i _=>eqV (.int i) x
 | .str z _=>eqV (.str z) x
 | _=>false
theorem abT{x y:V}{u:Value}(r:RelV y u)(f:mT y=true):eqU x u=eqV y x:=by
 cases y with
 | non=>cases r;rfl
 | bl b=>cases r;rfl
 | int i=>obtain⟨t,rfl⟩:=r;rfl
 | str z=>obtain⟨t,rfl⟩:=r;rfl
 | _=>exact absurd (show false=true from f) Bool.false_ne_true
theorem lX{x:V}:∀ {xs:List V} {us:List Value},Vals xs us->xs.all mT=true->us.any (eqU x)=xs.any λ y=>eqV y x
 | _,_,.nil,_=>rfl
 | y::xs,u::us,.cons r t,f=>by rw[List.all_cons,Bool.and_eq_true] at f;rw[List.any_cons,List.any_cons,abT r f.1,lX t f.2]
theorem iY{A:Around}{s:Shared}{x:V}{v:Value}(rx:RelV x v)(fx:mT x=true):∀ {xs:List V} {us:List Value},Vals xs us->xs.all mT=true->∀ u∈us,SeqAt.EqAt A s u v (eqU x u)
 | _,_,.nil,_=>λ u hu=>by cases hu
 | y::xs,u::us,.cons r t,f=>λ u' hu=>by
  rw[List.all_cons,Bool.and_eq_true] at f;rcases List.mem_cons.mp hu with rfl | hu
  ·rw[abT r f.1];exact af1 r rx f.1 fx
  ·exact iY rx fx t f.2 u' hu
def inV(x:V)(xs:List V):Bool:=xs.any λ y=>eqV y x
def rIn(K:PySem.W.Frag)(neg:Bool):R2:=λ x y H Q=>∃ p xs,y=.ref p/\(SqL K H p xs\/SqT K H p xs)/\mT x=true/\xs.all mT=true/\Q (.bl (if neg then !inV x xs else inV x xs)) H
theorem wR:OpR X (compareOp .In) (rIn X.K false):=by
 intro pins s σ H x y v u Q I rx ry h;obtain⟨p,xs,rfl,hq,fx,fs,q⟩:=h;cases ry;rcases hq with hq | hq
 ·obtain⟨its,r,pl,hz⟩:=I.list hq;refine SeqAt.in_listAt (eqU x) pl.isList (λ w hw=>iY rx fx r fs w (by simpa using hw)) ⟨.bl _,H,I,rfl,?_⟩;rw[show its.toArray.any (eqU x)=its.any (eqU x) by simp,lX r fs];exact q
 ·obtain⟨its,r,pl,hz⟩:=I.tuple hq;refine SeqAt.in_tupleAt (eqU x) pl (λ w hw=>iY rx fx r fs w (by simpa using hw)) ⟨.bl _,H,I,rfl,?_⟩;rw[show its.toArray.any (eqU x)=its.any (eqU x) by simp,lX r fs];exact q
theorem rj:OpR X (compareOp .NotIn) (rIn X.K true):=by
 intro pins s σ H x y v u Q I rx ry h;obtain⟨p,xs,rfl,hq,fx,fs,q⟩:=h;cases ry;rcases hq with hq | hq
 ·obtain⟨its,r,pl,hz⟩:=I.list hq;refine SeqAt.notIn_listAt (eqU x) pl.isList (λ w hw=>iY rx fx r fs w (by simpa using hw)) ⟨.bl _,H,I,rfl,?_⟩;rw[show its.toArray.any (eqU x)=its.any (eqU x) by simp,lX r fs];exact q
 ·obtain⟨its,r,pl,hz⟩:=I.tuple hq;refine SeqAt.notIn_tupleAt (eqU x) pl (λ w hw=>iY rx fx r fs w (by simpa using hw)) ⟨.bl _,H,I,rfl,?_⟩;rw[show its.toArray.any (eqU x)=its.any (eqU x) by simp,lX r fs];exact q
theorem cf:fC X (.type "list") (λ xs H Q=>∃ p ys,xs=[.ref p]/\(SqL X.K H p ys\/SqT X.K H p ys)/\∀ l,H l=none->Q (.ref l) (upd H l (.lst ys))):=by
 intro pins s σ H xs us Q I r h;obtain⟨p,ys,rfl,hq,q⟩:=h;obtain⟨u,rfl,rx⟩:=vals1 r;cases rx;have fin:∀ (its:List Value),Vals ys its->ys.length<=sizeLine->∀ (h':Heap) (c':Nat),(∀ b o',s.heap.get? b=some o'->h'.get? b=some o') ->
   h'.get? s.heap.objs.size=some {cls:=.type "list",dict:=none,data:=.seq its.toArray c',slots:=#[]}->EP X pins σ Q (.ref s.heap.objs.size) {s with heap:=h'}:=λ its r' hz h' c' kp e =>
  ⟨.ref s.heap.objs.size,_,I.laid (t':=s.toks) kp (Nat.le_refl _) (show cW X.prog X.w _ h' _ (.lst ys) from⟨hz,its,c',r',e⟩),rfl,q _ (I.hok.fresh (Nat.le_refl _))⟩
 rcases hq with hq | hq
 ·obtain⟨its,r',pl,hz⟩:=I.list hq;have hlen:=r'.length;obtain⟨o,ho,hc,n,hd⟩:=pl.isList;exact call_list_seq p (.inl rfl) ho hc hd (λ h' c' kp e=>fin its r' hz h' c' kp e) (by simp only[List.size_toArray]<;>omega)
 ·obtain⟨its,r',pl,hz⟩:=I.tuple hq;have hlen:=r'.length;obtain⟨o,ho,hc,n,hd⟩:=pl;exact call_list_seq p (.inr rfl) ho hc hd (λ h' c' kp e=>fin its r' hz h' c' kp e) (by simp only[List.size_toArray]<;>omega)
def tyV(K:PySem.W.Frag)(T:String)(x:V)(H:Hp):Prop:=match x with
 | .str _=>T = "str"
 | .int _=>T = "int"
 | .ref p=>(T = "list" /\ ∃ xs,SqL K H p xs)\/(T = "tuple" /\ ∃ xs,SqT K H p xs) \/
   (T = "dict" /\ ((∃ kvs,H p=some (.dK kvs))\/∃ kvs,H p=some (.dT kvs)))\/(T = "set" /\ ∃ S n,H p=some (.set S n))
 | _=>False
theorem acj{pins:List (Addr×Obj)}{σ:St}{H:Hp}{s:Shared}{T:String}{x:V}{v:Value}(I:Inv X pins σ H s)(r:RelV x v)(ty:tyV X.K T x H) :
  s.TypeIs v T/\∀ a,v=.ref a->∃ ob,s.heap.get? a=some ob/\ob.dict=none:=by
 cases x with
 | str z =>
  obtain⟨t,rfl⟩:=r;cases (show T = "str" from ty);exact⟨typeIs_str s z t,λ _ e=>nomatch e⟩
 | int i =>
  obtain⟨t,rfl⟩:=r;cases (show T = "int" from ty);exact⟨typeIs_int s i t,λ _ e=>nomatch e⟩
 | ref p =>
  cases r;rcases ty with ⟨rfl,xs,hq⟩ | ⟨rfl,xs,hq⟩ | ⟨rfl,hk⟩ | ⟨rfl,S,n,hk⟩
  ·obtain⟨its,_,pl,_⟩:=I.list hq;refine⟨pl.isList.typeIs,λ a e=>?_⟩;cases e;obtain⟨o,n,e,c,hd,_⟩:=pl;exact⟨o,e,hd⟩
  ·obtain⟨its,_,⟨o,h1,h2,h3,_⟩,_⟩:=I.aic hq;refine⟨⟨o,h1,h2⟩,λ a e=>?_⟩;cases e;exact⟨o,h1,h3⟩
  ·have z:∃ o,s.heap.get? p=some o/\o.ExactDict:=by
    rcases hk with ⟨kvs,hk⟩ | ⟨kvs,hk⟩
    ·obtain⟨_,_,_,_,o,_,_,e,ex,_⟩:=I.hok p _ hk;exact⟨o,e,ex⟩
    ·obtain⟨_,_,_,_,o,_,_,e,ex,_⟩:=I.hok p _ hk;exact⟨o,e,ex⟩
   obtain⟨o,e,ex⟩:=z;refine⟨⟨o,e,ex.1⟩,λ a e2=>?_⟩;cases e2;exact⟨o,e,ex.2.1⟩
  ·obtain⟨o,_,_,_,e,ex,_⟩:=I.hok p _ hk;refine⟨⟨o,e,ex.1⟩,λ a e2=>?_⟩;cases e2;exact⟨o,e,ex.2.1⟩
 | _=>exact False.elim ty
def aiX(K:PySem.W.Frag)(T:String)(r:V->List V->Hp->VK->Prop)(to:TE):TE:=λ σ H Q=>to σ H λ x H1=>tyV K T x H1/\r x [] H1 Q
def tBM(K:PySem.W.Frag)(T:String)(r:V->List V->Hp->VK->Prop)(to:TE)(t:TA):TE:=λ σ H Q=>to σ H λ x H1=>tyV K T x H1/\t σ H1 λ xs H2=>r x xs H2 Q
variable {o e:Expr}{es:List Expr}{to:TE}{t:TA}{name:Str}{apos cpos:Pos}{T id:String}{r:V->List V->Hp->VK->Prop}
theorem agt(pa:PlainAttrs T)(slot:Slot T name id)(hty:typeOf (.builtin id)=pure (.type "method_descriptor"))(hm:MtR X id r)(ho:PE X o to)
  (hbase:attributeBase o name X.env (eval o X.env)=eval o X.env:=by rfl)(hline:(apos.endLine==cpos.line)=true:=by rfl):PE X (.Call (.Attribute o name apos) [] [] cpos) (aiX X.K T r to):=by
 intro pins s σ H Q I h;refine wpAny_Call_method0_late hbase hline (thn (ho pins s σ H _ I h) λ v s1 hq28=>?_);obtain⟨x,H1,I1,r1,ty,q1⟩:=hq28;obtain⟨h1,h2⟩:=acj I1 r1 ty;exact⟨T,id,pa,slot,hty,h1,h2,Calls.callWith_builtin rfl (PySem.evalArgs_none (hm pins s1 σ H1 x [] v [] Q I1 r1 .nil q1))⟩
theorem aaG(pa:PlainAttrs T)(slot:Slot T name id)(hty:typeOf (.builtin id)=pure (.type "method_descriptor"))(hm:MtR X id r)(ho:PE X o to)(ha:PA X (e::es) t)
  (hbase:attributeBase o name X.env (eval o X.env)=eval o X.env:=by rfl)
  (hfew:((backTo cpos (starEach (e::es) X.env)).all (λ x=>!x.1)&&(backToKw cpos (keywordEach [] X.env)).all (λ x=>x.1.isSome)
   && decide ((e::es).length+([]:List Keyword).length+(if ([]:List Keyword).isEmpty then 0 else 1)<30))=true:=by rfl)
  (hline:(apos.endLine==cpos.line)=true:=by rfl)(hs:starEach (e::es) X.env=(false,eval e X.env)::starEach es X.env:=by rfl)(hplain:(backTo cpos (starEach es X.env)).any (·.1)=false:=by rfl) :
  PE X (.Call (.Attribute o name apos) (e::es) [] cpos) (tBM X.K T r to t):=by
 intro pins s σ H Q I h;refine wpAny_Call_method_late hbase hfew hline rfl (thn (ho pins s σ H _ I h) λ v s1 hq29=>?_);obtain⟨x,H1,I1,r1,ty,q1⟩:=hq29;obtain⟨h1,h2⟩:=acj I1 r1 ty;refine⟨T,id,pa,slot,hty,h1,h2,?_⟩;have hA:=ha cpos pins s1 σ H1 _ I1 q1;rw[hs] at hA ⊢;refine Calls.callWith_builtin (by show(false || (backTo cpos (starEach es X.env)).any (·.1))=false;rw[hplain]<;>rfl) (Calls.evalArgs_plain ?_);exact thn hA λ us s2 ⟨vs,H2,I2,r2,q2⟩=>hm pins s2 σ H2 x vs v us Q I2 r1 r2 q2
end
def MtM(X:Cx)(id:String)(r:V->List V->Hp->VK->Prop):Prop:=
 ∀ (pins:List (Addr×Obj)) (s:Shared) (σ:St) (H:Hp) (x:V) (xs:List V) (v:Value) (us:List Value) (Q:VK),Inv X pins σ H s->RelV x v->Vals xs us->r x xs H Q ->
  wpAny (model X.prog X.w) X.A (call (.builtin id) (v::us)) (EP X pins σ Q) X.xe s
theorem Vals.one:∀ {x:V} {us:List Value},Vals [x] us->∃ u,us=[u]/\RelV x u
 | _,_,.cons r .nil=>⟨_,rfl,r⟩
theorem Vals.zero:∀ {us:List Value},Vals [] us->us=[]
 | _,.nil=>rfl
theorem Vals.reverse{xs:List V}{us:List Value}(h:Vals xs us):Vals xs.reverse us.reverse:=by
 induction h with
 | nil=>exact .nil
 | cons r t ih=>rw[List.reverse_cons,List.reverse_cons];exact Vals.append ih (.cons r .nil)
section
variable {X:Cx}{pins:List (Addr×Obj)}{σ:St}{H:Hp}{s:Shared}{l b:Addr}{xs ys zs:List V}
theorem Inv.aiI{its its':List Value}{n:Nat}{f:Array Value->Array Value}{t':Nat}(I:Inv X pins σ H s)(hH:H l=some (.lst xs))
  (e:s.heap.get? l=some {cls:=.type "list",data:=.seq its.toArray n})(hf:f its.toArray=its'.toArray)(hv:Vals ys its')(hz:ys.length<=sizeLine) :
  Inv X pins σ (upd H l (.lst ys)) {s with heap:=s.heap.update l (Obj.mapSeq f),toks:=t'}:=by
 have q:=PySem.IsL.update e f;rw[hf] at q;refine I.write (x:=l) (e:=l) (by rw[hH];exact trivial) (.inl rfl) (λ b' u hb hu=>(Heap.get?_update_other s.heap (Obj.mapSeq f) (Ne.symm hb)).trans hu) ⟨_,q⟩ ?_;exact⟨hz,its',_,hv,q⟩
theorem Inv.ajh{its:List Value}{t':Nat}(I:Inv X pins σ H s)(hv:Vals ys its)(hz:ys.length<=sizeLine) :
  Inv X pins σ (upd H s.heap.objs.size (.lst ys)) {s with heap:=s.heap.push {cls:=.type "list",data:=.seq its.toArray},toks:=t'}:=
 I.laid (λ _ _ q=>Heap.get?_push_of_some _ q) (Nat.le_refl _) ⟨hz,its,0,hv,Heap.get?_push_size _ rfl⟩
theorem Inv.fresh(I:Inv X pins σ H s):H s.heap.objs.size=none:=I.hok.fresh (Nat.le_refl _)
theorem Inv.aip(I:Inv X pins σ H s)(hH:H l=some (.lst xs)):xs.length<=sizeLine/\∃ (its:List Value) (n:Nat),Vals xs its/\xs.length=its.length/\s.heap.get? l=some {cls:=.type "list",data:=.seq its.toArray n}:=by obtain⟨z,its,n,r,e⟩:=I.hok l _ hH;exact⟨z,its,n,r,r.length,e⟩
end
section
variable {X:Cx}
def acZ:V->List V->Hp->VK->Prop:=λ x vs H Q=>∃ l xs y,x=.ref l/\vs=[y]/\H l=some (.lst xs)/\xs.length<sizeLine/\Q .non (upd H l (.lst (xs++[y])))
theorem zC:MtM X "list.append" acZ:=by intro pins s σ H x vs v us Q I rx rv h;obtain⟨l,xs,y,rfl,rfl,hH,hz,q⟩:=h;cases rx;obtain⟨u,rfl,ru⟩:=rv.one;obtain⟨z,its,n,r,hl,e⟩:=I.aip hH;refine call_meets F.slot_list_append ⟨_,e,rfl⟩ F.entry_list_append (F.args_list_append_2 _ _) (PySem.list_append l its.toArray n u (by rw[List.size_toArray];omega)) ⟨e,?_⟩;refine⟨.non,_,I.aiI (its':=its++[u]) hH e (by simp) (r.append (.cons ru .nil)) ?_,rfl,q⟩;rw[List.length_append,List.length_singleton];omega
def aam:V->List V->Hp->VK->Prop:=λ x vs H Q=>∃ l xs,x=.ref l/\vs=[]/\H l=some (.lst xs)/\Q .non (upd H l (.lst xs.reverse))
theorem vz:MtM X "list.reverse" aam:=by intro pins s σ H x vs v us Q I rx rv h;obtain⟨l,xs,rfl,rfl,hH,q⟩:=h;cases rx;have hus:=rv.zero;subst hus;obtain⟨z,its,n,r,hl,e⟩:=I.aip hH;refine call_meets F.slot_list_reverse ⟨_,e,rfl⟩ F.entry_list_reverse (F.args_list_reverse_1 _) (AutoSeq1.list_reverse_list_0 l its.toArray n (by rw[List.size_toArray];omega)) ⟨e,?_⟩;refine⟨.non,_,I.aiI (its':=its.reverse) hH e (by simp) r.reverse ?_,rfl,q⟩;rw[List.length_reverse];omega
end
section
variable {prog:Program}{w:World}{A:Around}{E:Value->Shared->Prop}{s:Shared}
end
section
variable {X:Cx}
end
end L2
namespace Att
open PySem PySem.W PySem.Calls PyProof.Rows
theorem kK{P:Params}{h:Heap}:∀ (ns:List Int) (vs:List Value),WellAll P h vs (ns.map WData.int)->IntsAre vs ns:=by
 intro ns
 induction ns with
 | nil =>
  intro vs w;rw[List.map_nil] at w;cases w;exact .nil
 | cons n ns ih =>
  intro vs w;rw[List.map_cons] at w;cases w with
  | cons a b =>
   cases a;exact .cons _ _ (ih _ b)
theorem zI{l:OpenLaw}{n:Nat}(hn:l.most=some n){P:Params}{h:Heap}{args:List WData}{vals:List Value}
  (hpre:l.row.toRowW.claim.pre args=true)(hwl:WellAll P h vals args) :
  ∃ a vs ns,vals=[Value.ref a]/\args=[WData.list (ns.map WData.int)]/\h.get? a=some {cls:=.type "list",data:=.seq vs.toArray}/\IntsAre vs ns/\ns.length<=n:=by
 have hsh:WShape.hasAll [] args [.list .int]=true:=(pre_splitW hpre).1;have hc:l.pre.holds [] {args:=args}=true:=(pre_splitW hpre).2;obtain⟨d,r,rfl,h1,h2⟩:=hasAllW_cons hsh;obtain rfl:=hasAllW_nil h2;obtain⟨xs,rfl,h3⟩:=hasW_list h1;obtain⟨ns,rfl⟩:=items_int h3;have hlen:ns.length<=n:=by
  unfold OpenLaw.pre at hc;have h4:(WTm.not (.lt (.lit (.int (n:Int))) (.len (.arg 0)))).holds [] {args:=[.list (ns.map .int)]}=true:=by have h4:=(holds_andW hc).1;rw[hn] at h4;exact h4
  have h5:=condW_of h4 (w_not (w_lt w_lit (w_len_list (w_arg rfl))));rw[List.length_map] at h5;refine Nat.le_of_not_lt λ q=>?_;have q':(n:Int)<((ns.length:Nat):Int):=by omega
  first
   | (rw[decide_eq_true q'] at h5;exact absurd h5 (by decide))
   | (simp at h5;omega)
 cases hwl with
 | cons w1 w2 =>
  cases w2;cases w1 with
  | list ho hall=>exact⟨_,_,ns,rfl,rfl,ho,kK ns _ hall,hlen⟩
theorem yi(l:OpenLaw)(args:List WData):l.row.toRowW.claim.post args (.bool true) args=true:=
 postW_of (r:=l.row.toRowW) (X:=(true==true))
  (show WShape.has [] (.bool true) .bool=true by first | rfl | decide | simp[WShape.has,WShape.arms,WShape.armsAll])
  (show(WTm.eq .res (.lit (.bool true))).value [] {args:=args,res:=some (.bool true),after:=args}=some (.bool (true==true)) from w_eq_bool (w_res rfl) w_lit) rfl
theorem sT{l:OpenLaw}{n:Nat}{q:Program}{loose:List Str}{XP:(Str->Option Value)->Heap->Prop}{YP:World->Heap->Prop}{d:DefRec}
  (hn:l.most=some n)(hdf:d.params.defaults=[])
  (call:∀ (w:World) (s₀ s₁:Shared) (mg mb:Str->Option Value) (fa:Addr) (o:Obj) (pm cd doc:Value) (a:Addr) (vs:List Value) (ns:List Int),
   Ground q loose [] XP w s₀ mg mb s₁.heap->YP w s₁.heap ->
   s₁.heap.get? fa=some o->o.data=.func (docDef d.name d.params d.body d.scope pm cd doc)->s₁.heap.CodeRec cd d.name->mg d.name=some (.ref fa) ->
   s₁.heap.get? a=some {cls:=.type "list",data:=.seq vs.toArray}->IntsAre vs ns->ns.length<=n->s₁.gens = #[] ->
   codeAny (model l.prog w) callerA (.call (.ref fa) ⟨[.ref a],[]⟩) (λ r s'=>r=.ok (.ret (.bool true))/\OldK s₁.heap s'.heap/\s'.os=s₁.os/\AllBare s'.gens) s₁) :
  WalkO q loose XP YP l.row.toRowW d [] (λ f vs=>PySem.call f vs):=by
 intro w s₀ s₁ mg mb G Y fa o pm cd doc dV kV ho hd hcd hD hmg hg args vals as hpre hlay hrd hwl hlo;obtain rfl:dV=.none:=Dflts.none hD hdf;obtain rfl:kV=.none:=Dflts.noKw hD;obtain⟨a,vs,ns,rfl,rfl,hobj,hints,hlen⟩:=zI hn hpre hwl;refine enter_call (codeAny_mono (call w s₀ s₁ mg mb fa o pm cd doc a vs ns G Y ho (fd_plain hd) hcd hmg hobj hints hlen hg) λ r s' hq=>?_);obtain⟨rfl,h2,h3,h4⟩:=hq;exact⟨.inl ⟨.bool true,.bool true,[],rfl,λ _=>rfl,.bool true,yi l _,λ _=>⟨List.Pairwise.nil,λ _ hm=>(nomatch hm)⟩⟩,h2,h3,h4⟩
section
variable {prog:Program}{w:World}{A:Around}{E:Value->Shared->Prop}{s:Shared}{K:Frag}
end
end Att
namespace L2
theorem gP:∀ {vs:List Value} {ns:List Int},IntsAre vs ns->Vals (ns.map V.int) vs
 | _,_,.nil=>.nil
 | _,_,.cons n t h=>.cons ⟨t,rfl⟩ (gP h)
def inClass(s:Stmt)(j:Nat):Stmt:=match s with
 | .ClassDef _ _ _ body _ _ _ _ _ _ _=>body.getD j (.Pass ⟨0,0,0,0⟩)
 | _=>.Pass ⟨0,0,0,0⟩
def bx(s:Stmt):Arguments:=match s with
 | .FunctionDef _ a _ _ _ _ _ _ _ _=>a
 | _=>{posonlyargs:=[],args:=[],vararg:=none,kwonlyargs:=[],kw_defaults:=[],kwarg:=none,defaults:=[]}
def bj(s:Stmt):List Stmt:=match s with
 | .FunctionDef _ _ b _ _ _ _ _ _ _=>b
 | _=>[]
def aq(s:Stmt):Scope:=match s with
 | .FunctionDef _ _ _ _ _ _ sc _ _ _=>sc
 | _=>{kind:=.function,names:=[],isGenerator:=false,isCoroutine:=false}
abbrev CX0:CXT:=λ _ _ _ _ _ _=>False
abbrev E0:XK:=λ _ _ _=>False
theorem wN{X:Cx}:Passes CX0 X E0:=λ _ _ _ _ _ _ _ h=>h.elim
structure Fun(K:PySem.W.Frag)(x qual:Str)(st:Stmt)(f:Addr)(fd:FuncData):Prop where
 ex:∃ (oc:Value) (od:Option Addr) (kV doc pm:Value) (an:Option Addr) (cdv ct:Value) (osl:Array (Option Value)),
  fd=PySem.W.fnOf x qual (bx st) (bj st) (aq st) .none kV doc pm an cdv ct/\K.lookup f=some ⟨oc,od,.func fd,osl⟩/\PySem.W.codeIn K cdv qual=true
 kp:PySem.W.keepIn K (.ref f)=true
section
variable {P:Program}{w:World}{K:PySem.W.Frag}{mg:Str->Option Value}{base:Heap}
theorem Fun.ok{x qual:Str}{st:Stmt}{f:Addr}{fd:FuncData}{N ps:List Str}{k:Nat}{sp:Sp}(F:Fun K x qual st f fd)(S:aL N ps (aq st))(len:∀ vs H Q E,sp vs H Q E->vs.length=ps.length)
  (hbody:∀ (cdv:Value) (A:Around) (outer:List Env) (s:Shared) (H:Hp) (vs:List V) (Q:VK) (E:XK),c4 k (A.deeper (envOfC qual (aq st) s.heap.objs.size f cdv))->sp vs H Q E ->
   ∃ t,PSs (aaK CX0 P w K mg base N qual (aq st) f cdv A outer s H E).nox (bj st) t/\t {nx:=λ _ H'=>Q .non H',rt:=Q} (start N vs) H):cX P w K mg base CX0 (k+1) f fd ps sp:=by
 obtain⟨oc,od,kV,doc,pm,an,cdv,ct,osl,rfl,lk,hcd⟩:=F.ex;refine ac2 lk hcd S len λ A outer s H vs Q E hr hsp=>?_;obtain⟨t,h,q⟩:=hbody cdv A outer s H vs Q E hr hsp;exact⟨t,h.nox,q⟩
theorem Fun.binds{x qual:Str}{st:Stmt}{f:Addr}{fd:FuncData}{ps:List Str}(F:Fun K x qual st f fd)
  (h:∀ (kV doc pm:Value) (an:Option Addr) (cdv ct:Value) (us:List Value),us.length=ps.length->bindArgs (PySem.W.fnOf x qual (bx st) (bj st) (aq st) .none kV doc pm an cdv ct) ⟨us,[]⟩=pure (ps.zip us)):Binds K fd ps []:=by
 obtain⟨oc,od,kV,doc,pm,an,cdv,ct,osl,rfl,lk,hcd⟩:=F.ex;exact .all (h kV doc pm an cdv ct)
theorem aci{x qual:Str}{st:Stmt}{f:Addr}{oc:Value}{od an:Option Addr}{osl:Array (Option Value)}{kV doc pm cdv ct:Value}(l:K.lookup f=some ⟨oc,od,.func (PySem.W.fnOf x qual (bx st) (bj st) (aq st) .none kV doc pm an cdv ct),osl⟩)
  (c:PySem.W.codeIn K cdv qual=true)(k:PySem.W.keepIn K (.ref f)=true):Fun K x qual st f (PySem.W.fnOf x qual (bx st) (bj st) (aq st) .none kV doc pm an cdv ct):=⟨⟨oc,od,kV,doc,pm,an,cdv,ct,osl,rfl,l,c⟩,k⟩
end
theorem bw{A:Around}{k:Nat}(hr:c4 k A):A.units+1<cLine:=Nat.lt_of_le_of_lt (Nat.add_le_add_left (by decide:1<=64) _) hr.units
section
variable {X:Cx}
end
theorem hU{A B:Prop}(h:B):if false=true then A else B:=by rw[if_neg Bool.false_ne_true];exact h
theorem mF{A B:Prop}(h:A):if true=true then A else B:=by rw[if_pos rfl];exact h
def ajs(H H':Hp):Prop:=∀ b o,H b=some o->H' b=some o
section
variable {κ:Type}[DecidableEq κ]
def pR(kvs:List (κ×V))(k:κ):Option V:=(kvs.find? λ kv=>decide (kv.1=k)).map (·.2)
def putK(kvs:List (κ×V))(k:κ)(v:V):List (κ×V):=
 if (kvs.any λ kv=>decide (kv.1=k))=true then kvs.map (λ kv=>if kv.1=k then (kv.1,v) else kv) else kvs++[(k,v)]
def ai3(kvs:List (κ×V))(k:κ):List (κ×V):=kvs.filter λ kv=>decide (kv.1≠k)
theorem kj{p:κ×V}{r:List (κ×V)}{k:κ}(e:p.1=k):pR (p::r) k=some p.2:=by simp[pR,List.find?_cons,e]
theorem km{p:κ×V}{r:List (κ×V)}{k:κ}(e:¬ p.1=k):pR (p::r) k=pR r k:=by simp[pR,List.find?_cons,e]
theorem ko(k:κ):∀ kvs:List (κ×V),(kvs.any λ kv=>decide (kv.1=k))=(pR kvs k).isSome
 | []=>rfl
 | p::r=>by
  rw[List.any_cons]
  by_cases e:p.1=k
  ·simp only[kj e,decide_eq_true e,Bool.true_or,Option.isSome_some]
  ·rw[km e,decide_eq_false e,Bool.false_or];exact ko k r
theorem fU(kvs:List (κ×V))(k:κ)(v:V):(putK kvs k v).length<=kvs.length+1:=by
 unfold putK
 split
 ·rw[List.length_map];omega
 ·rw[List.length_append,List.length_cons,List.length_nil];omega
theorem aaE{kvs:List (κ×V)}{k:κ}(v:V)(h:pR kvs k=none):putK kvs k v=kvs++[(k,v)]:=by
 unfold putK;rw[ko,h];exact if_neg (by decide)
theorem rn.k7{o:Option V}{u:Option Value}(r:rn o u):o.isSome=u.isSome:=by
 cases o with
 | none=>cases u with
  | none=>rfl
  | some _=>exact(show False from r).elim
 | some _=>cases u with
  | none=>exact(show False from r).elim
  | some _=>rfl
theorem rn.getD{o:Option V}{u:Option Value}{d:V}{d':Value}(r:rn o u)(rd:RelV d d'):RelV (o.getD d) (u.getD d'):=by
 cases o with
 | none=>cases u with
  | none=>exact rd
  | some _=>exact(show False from r).elim
 | some _=>cases u with
  | none=>exact(show False from r).elim
  | some _=>exact r
theorem KV.val{kvs:List (κ×V)}{vs:List (κ×Value)}(r:KV kvs vs)(k:κ):rn (pR kvs k) (valueAt vs k):=by
 unfold KV at r
 induction r with
 | nil=>exact True.intro
 | @cons p q ps qs h t ih =>
  obtain⟨h1,h2⟩:=h
  by_cases e:p.1=k
  ·have e':q.1=k:=h1.symm.trans e;have b:valueAt (q::qs) k=some q.2:=by simp[valueAt,List.find?_cons,e']
   rw[kj e,b];exact h2
  ·have e':¬ q.1=k:=λ z=>e (h1.trans z);have b:valueAt (q::qs) k=valueAt qs k:=by simp[valueAt,List.find?_cons,e']
   rw[km e,b];exact ih
theorem KV.any{kvs:List (κ×V)}{vs:List (κ×Value)}(r:KV kvs vs)(k:κ):(kvs.any λ kv=>decide (kv.1=k))=vs.any λ kv=>decide (kv.1=k):=by
 unfold KV at r
 induction r with
 | nil=>rfl
 | cons h t ih=>rw[List.any_cons,List.any_cons,ih,h.1]
theorem KV.ahk{kvs:List (κ×V)}{vs:List (κ×Value)}(r:KV kvs vs)(k:κ){y:V}{u:Value}(ry:RelV y u) :
  KV (kvs.map λ kv=>if kv.1=k then (kv.1,y) else kv) (vs.map λ kv=>if kv.1=k then (kv.1,u) else kv):=by
 unfold KV at r ⊢
 induction r with
 | nil=>exact .nil
 | @cons p q ps qs h t ih =>
  rw[List.map_cons,List.map_cons];refine .cons ?_ ih;obtain⟨h1,h2⟩:=h
  by_cases e:p.1=k
  ·rw[if_pos e,if_pos (h1.symm.trans e)];exact⟨h1,ry⟩
  ·rw[if_neg e,if_neg (λ z=>e (h1.trans z))];exact⟨h1,h2⟩
theorem KV.put{kvs:List (κ×V)}{vs:List (κ×Value)}(r:KV kvs vs)(k:κ){y:V}{u:Value}(ry:RelV y u):KV (putK kvs k y) (stored vs k u):=by
 unfold putK stored;rw[r.any k]
 by_cases e:(vs.any λ kv=>decide (kv.1=k))=true
 ·rw[if_pos e,if_pos e];exact r.ahk k ry
 ·rw[if_neg e,if_neg e];exact Paired.snoc r ⟨rfl,ry⟩
theorem KV.length{kvs:List (κ×V)}{vs:List (κ×Value)}(r:KV kvs vs):kvs.length=vs.length:=Paired.length r
end
theorem sP{P:Program}{w:World}{k:Key}{u:Value}(r:RelV (kV k) u):(aW P w).is k u=true:=by
 cases k with
 | inl i=>obtain⟨t,e⟩:=(show ∃ t,u=Value.int i t from r);subst e;exact tL P w i t
 | inr x=>obtain⟨t,e⟩:=(show ∃ t,u=Value.str x t from r);subst e;exact tQ P w x t
theorem kR{P:Program}{w:World}:∀ {ks:List Key} {us:List Value},Vals (ks.map kV) us->ItemsAre (aW P w) ks us
 | [],_,r=>by rw[List.map_nil] at r;cases r;exact .nil
 | k::ks,_,r=>by
  rw[List.map_cons] at r;cases r with
  | cons h t=>exact .cons (sP h) (kR t)
abbrev KT(H:Hp):List (List Key×V)->List (List Key×Addr×Value)->Prop:=Paired λ p q=>p.1=q.1/\H q.2.1=some (.tup (p.1.map kV))/\RelV p.2 q.2.2
theorem KT.val{H:Hp}{kvs:List (List Key×V)}{xs:List (List Key×Addr×Value)}(r:KT H kvs xs)(k:List Key):rn (pR kvs k) ((atKey xs k).map (·.2)):=by
 induction r with
 | nil=>exact True.intro
 | @cons p q ps qs h t ih =>
  obtain⟨h1,_,h2⟩:=h
  by_cases e:p.1=k
  ·have e':q.1=k:=h1.symm.trans e;have b:atKey (q::qs) k=some q.2:=by simp[atKey,List.find?_cons,e']
   rw[kj e,b];exact h2
  ·have e':¬ q.1=k:=λ z=>e (h1.trans z);have b:atKey (q::qs) k=atKey qs k:=by simp[atKey,List.find?_cons,e']
   rw[km e,b];exact ih
theorem KT.ahk{H:Hp}{kvs:List (List Key×V)}{xs:List (List Key×Addr×Value)}(r:KT H kvs xs)(k:List Key){y:V}{u:Value}(ry:RelV y u) :
  KT H (kvs.map λ kv=>if kv.1=k then (kv.1,y) else kv) (xs.map (putAt k u)):=by
 induction r with
 | nil=>exact .nil
 | @cons p q ps qs h t ih =>
  rw[List.map_cons,List.map_cons];refine .cons ?_ ih;obtain⟨h1,h2,h3⟩:=h;unfold putAt
  by_cases e:p.1=k
  ·rw[if_pos e,if_pos (h1.symm.trans e)];exact⟨h1,h2,ry⟩
  ·rw[if_neg e,if_neg (λ z=>e (h1.trans z))];exact⟨h1,h2,h3⟩
theorem KT.put{H:Hp}{kvs:List (List Key×V)}{xs:List (List Key×Addr×Value)}(r:KT H kvs xs)(k:List Key){b:Addr}{y:V}{u:Value}(hb:H b=some (.tup (k.map kV)))(ry:RelV y u) :
  KT H (putK kvs k y) (storedH xs k b u):=by
 have e:(kvs.any λ kv=>decide (kv.1=k))=(atKey xs k).isSome:=by rw[ko,(r.val k).k7,Option.isSome_map]
 unfold putK storedH;rw[e]
 by_cases q:(atKey xs k).isSome=true
 ·rw[if_pos q,if_pos q];exact r.ahk k ry
 ·rw[if_neg q,if_neg q];exact Paired.snoc r ⟨rfl,hb,ry⟩
theorem KT.keeps{H H':Hp}{kvs:List (List Key×V)}{xs:List (List Key×Addr×Value)}(r:KT H kvs xs)(ht:∀ b ys,H b=some (.tup ys)->H' b=some (.tup ys)):KT H' kvs xs:=
 Paired.gH r λ _ _ z=>⟨z.1,ht _ _ z.2.1,z.2.2⟩
section
variable {P:Program}{w:World}{H:Hp}{h:Heap}{a:Addr}
theorem aeT{u:HO}(ok:HOk P w H h)(e:Rd H a u):cW P w H h a u:=e.ok ok
theorem xG{kvs:List (Key×V)}(ok:HOk P w H h)(e:Rd H a (.dK kvs)):kvs.length<=sizeLine/\(a==sysModules)=false/\∃ vs,KV kvs vs/\h.DictOf (aW P w) a vs:=
 show cW P w H h a (.dK kvs) from aeT ok e
theorem aak{kvs:List (Key×V)}(ok:HOk P w H h)(e:H a=some (.dK kvs)):kvs.length<=sizeLine/\(a==sysModules)=false/\∃ vs,KV kvs vs/\h.DictOf (aW P w) a vs:=xG ok (.inl e)
theorem abV{ks:List Key}(ok:HOk P w H h)(e:H a=some (.tup (ks.map kV))):(tupleKind (aW P w)).is h ks a:=by obtain⟨_,its,r,o,h1,h2,_,n,h3⟩:=(show cW P w H h a (.tup (ks.map kV)) from ok a _ e);exact⟨o,its.toArray,n,h1,h2,h3,by simpa using kR r⟩
theorem abb{kvs:List (List Key×V)}(ok:HOk P w H h)(e:Rd H a (.dT kvs)):kvs.length<=sizeLine/\(a==sysModules)=false /\
  ∃ xs,KT H kvs xs/\h.DictOfH (tupleKind (aW P w)) a xs:=by
 obtain⟨z,y,xs,r,o,es,ep,h1,h2,h3,h4,h5⟩:=(show cW P w H h a (.dT kvs) from aeT ok e);refine⟨z,y,xs,r,o,es,ep,h1,h2,h3,h4,λ x hx=>?_,h5⟩;have all:∀ {l:List (List Key×V)} {m:List (List Key×Addr×Value)},KT H l m->∀ x∈m,(tupleKind (aW P w)).is h x.1 x.2.1:=by
  intro l m q
  induction q with
  | nil=>intro x hx;exact nomatch hx
  | @cons p q ps qs hq t ih =>
   intro x hx;rcases List.mem_cons.mp hx with e | hx
   ·subst e;exact abV ok (by rw[<- hq.1];exact hq.2.1)
   ·exact ih x hx
 exact all r x hx
theorem ahQ{kvs:List (List Key×V)}(ok:HOk P w H h)(e:H a=some (.dT kvs)):kvs.length<=sizeLine/\(a==sysModules)=false /\
  ∃ xs,KT H kvs xs/\h.DictOfH (tupleKind (aW P w)) a xs:=abb ok (.inl e)
end
def ajr(H:Hp)(a:Addr)(y:V)(r:Option V):Prop:=
 (∃ kvs k,Rd H a (.dK kvs)/\y=kV k/\r=pR kvs k)\/∃ kvs k b,Rd H a (.dT kvs)/\y=.ref b/\H b=some (.tup (k.map kV))/\r=pR kvs k
def ahG(H:Hp)(a:Addr)(y v:V)(H':Hp):Prop:=
 (∃ kvs k,H a=some (.dK kvs)/\y=kV k/\kvs.length<sizeLine/\H'=upd H a (.dK (putK kvs k v))) \/
 ∃ kvs k b,H a=some (.dT kvs)/\y=.ref b/\H b=some (.tup (k.map kV))/\kvs.length<sizeLine/\H'=upd H a (.dT (putK kvs k v))
section
variable {X:Cx}{pins:List (Addr×Obj)}{σ:St}{H:Hp}{s:Shared}{a:Addr}{y v:V}{u r:Value}{o:Option V}{A:Around}{E:Value->Shared->Prop}
theorem Inv.big(I:Inv X pins σ H s):sysModules<s.heap.objs.size:=by have h:mainGlobals<s.heap.objs.size:=(I.mod.glob.keeps I.bk).lt;exact Nat.lt_trans (by decide) h
theorem kC{h':Heap}{t':Nat}{ob:HO}(I:Inv X pins σ H s)(mu:Mut (H a))(hs:Heap.SameBut a s.heap h')(he:∃ q,h'.get? a=some q)(new:cW X.prog X.w (upd H a ob) h' a ob) :
  Inv X pins σ (upd H a ob) {s with heap:=h',toks:=t'}:=
 I.write (x:=a) (e:=a) mu (.inl rfl) (λ b q hb z=>(hs.2 b hb).trans z) he new
theorem va{P:Program}{w:World}{H':Hp}{h':Heap}{kvs:List (Key×V)}{vs:List (Key×Value)}(z:kvs.length<=sizeLine)(hd:(a==sysModules)=false)(rel:KV kvs vs)(dd:h'.DictOf (aW P w) a vs) :
  cW P w H' h' a (.dK kvs):=⟨z,hd,vs,rel,dd⟩
theorem rP{H':Hp}{Q:Unit->Shared->Prop}(hu:A.units+1<cLine)(I:Inv X pins σ H s)(g:ahG H a y v H')(ry:RelV y u)(rv:RelV v r)(h:∀ s',Inv X pins σ H' s'->Q () s') :
  wpAny (model X.prog X.w) A (setItem (.ref a) u r) Q E s:=by
 rcases g with ⟨kvs,k,e,ey,l,eH⟩ | ⟨kvs,k,b,e,ey,eb,l,eH⟩
 ·subst ey eH;obtain⟨z,hd,vs,rel,dd⟩:=aak I.hok e;have hz:vs.length<=sizeLine:=by rw[<- rel.length];exact z
  have hl:(putK kvs k v).length<=sizeLine:=by have:=fU kvs k v;omega
  refine wpAny_setItem_pairs (hsz:=hz) (sP ry) dd λ h' dd' hs=>h _ ?_;have he:∃ q,h'.get? a=some q:=let ⟨q,_,_,hq,_⟩:=dd'; ⟨q,hq⟩;exact kC I (by rw[e];exact True.intro) hs he (va hl hd (rel.put k rv) dd')
 ·subst ey eH;cases (show u=Value.ref b from ry);obtain⟨z,hd,xs,rel,dd⟩:=ahQ I.hok e;have hz:xs.length<=sizeLine:=by rw[<- Paired.length rel];exact z
  have hl:(putK kvs k v).length<=sizeLine:=by have:=fU kvs k v;omega
  refine wpAny_setItem_heap (hsz:=hz) (tupleKind_room_in1 hu) (abV I.hok eb) dd λ h' dd' hs=>h _ ?_;obtain⟨q,es,ep,hq,h2,h3,h4,_,h5⟩:=dd';refine kC I (by rw[e];exact True.intro) hs ⟨q,hq⟩ ⟨hl,hd,_,(rel.put k eb rv).keeps λ c ys ec=>?_,q,es,ep,hq,h2,h3,h4,h5⟩;rw[aj (vI ec e (λ z=>nomatch z))];exact ec
end
section
variable {X:Cx}{pins:List (Addr×Obj)}{σ:St}{H:Hp}{s:Shared}{a:Addr}{kvs:List (Key×V)}{k:Key}{u:Value}{A:Around}{E:Value->Shared->Prop}
end
def ag1(i:Expr):Prop:=∀ ov iv,subscripted i false ov iv=operate [ov,iv] (getItem ov iv)
theorem aeg{prog:Program}{w:World}{A:Around}{E:Value->Shared->Prop}{s:Shared}{env:Env}{value slice:Expr}{pos:Pos}{T id:String}{Q:Value->Shared->Prop}
  (hl:typeLookup (.type T) "__getitem__" = pure (some (.builtin id)))(hs:ag1 slice)
  (h:wpAny (model prog w) A (eval value env) (λ o s₁=>wpAny (model prog w) A (eval slice env) (λ i s₂=>s₂.TypeIs o T/\wpAny (model prog w) A (getItem o i) Q E s₂) E s₁) E s) :
  wpAny (model prog w) A (eval (.Subscript value slice pos) env) Q E s:=by
 refine Subscript_ (wpAny_mono h (λ o s₁ h₁=>wpAny_mono h₁ (λ i s₂ h₂=>?_) λ _ _ x=>x) λ _ _ x=>x);obtain⟨hT,h₂⟩:=h₂;unfold subscriptTail;refine wpAny_bind ?_;rw[getitemInPython_of_ne hT.not_modules];refine wpAny_bind (wpAny_specialOf hT hl ?_);have fin:wpAny (model prog w) A (subscripted slice false o i) (λ r s₃=>wpAny (model prog w) A (letTemporaryGo value o r >>= λ _=>pure r) Q E s₃) E s₂:=by rw[hs o i];exact wpAny_operating (wpAny_mono h₂ (λ r s₃ h₃=>wpAny_bind (wpAny_letTemporaryGo (wpAny_pure h₃))) λ _ _ x=>x)
 first
  | exact wpAny_pure (wpAny_bind fin)
  | exact wpAny_bind (wpAny_pure (wpAny_bind fin))
  | exact wpAny_bind fin
def ah8(td ty tv:TE):TS:=λ D σ H=>tv σ H λ v H1=>td σ H1 λ x H2=>ty σ H2 λ y H3=>∃ a H4,x=.ref a/\ahG H3 a y v H4/\D.nx σ H4
section
variable {X:Cx}{o i e value:Expr}{pos pos' tpos:Pos}{td ty tv:TE}
theorem acJ(hu:X.A.units+1<cLine)(ho:PE X o td)(hi:PE X i ty)(hv:PE X value tv)(hs:swapsWith value (some (.Subscript o i pos')) pos.line X.env=pure false) :
  PS X (.Assign [.Subscript o i pos'] value pos) (ah8 td ty tv):=by
 intro pins s σ H D I h;refine wpAny_Assign_Subscript (thn (hv pins s σ H _ I h) λ r s1 ⟨v,H1,I1,rv,q1⟩=>thn (ho pins s1 σ H1 _ I1 q1) λ u s2 ⟨x,H2,I2,rx,q2⟩=>thn (hi pins s2 σ H2 _ I2 q2) λ iv s3 ⟨y,H3,I3,ry,a,H4,ex,g,q3⟩=>?_) hs;subst ex;obtain rfl:u=Value.ref a:=rx;exact rP hu I3 g ry rv λ s4 I4=>⟨σ,H4,I4,q3⟩
end
theorem kz{P:Program}{w:World}{H:Hp}(h:Heap)(hb:sysModules<h.objs.size):cW P w H (h.push {cls:=.type "dict",data:=.dict #[]}) h.objs.size (.dK []):=
 ⟨Nat.zero_le _,beq_eq_false_iff_ne.mpr (Ne.symm (Nat.ne_of_lt hb)),[],.nil,Heap.DictOf.new h⟩
def afF:TE:=λ _ H Q=>∀ p,H p=none->Q (.ref p) (upd H p (.dK []))
section
variable {X:Cx}{pos:Pos}
theorem aap:PE X (.Dict [] [] pos) afF:=λ pins s σ H Q I h =>
 wpAny_Dict_empty ⟨.ref s.heap.objs.size,_,I.laid (a:=s.heap.objs.size) (o:=.dK []) (t':=s.toks) (λ _ _ q=>Heap.get?_push_of_some _ q) (Nat.le_refl _) (kz s.heap I.big),rfl,h _ (I.hok.fresh (Nat.le_refl _))⟩
end
def uQ:List (TE×TE)->St->Hp->(List (V×V)->Hp->Prop)->Prop
 | [],_,H,Q=>Q [] H
 | (tk,tv)::r,σ,H,Q=>tk σ H λ x H1=>tv σ H1 λ y H2=>uQ r σ H2 λ ps H3=>Q ((x,y)::ps) H3
abbrev VV:List (V×V)->List (Value×Value)->Prop:=Paired λ p q=>RelV p.1 q.1/\RelV p.2 q.2
def PPs(X:Cx)(pos:Pos)(keys:List (Option Expr))(values:List Expr)(trs:List (TE×TE)):Prop:=
 ∀ (pins:List (Addr×Obj)) (s:Shared) (σ:St) (H:Hp) (Q:List (V×V)->Hp->Prop),Inv X pins σ H s->uQ trs σ H Q ->
  wpAny (model X.prog X.w) X.A (evalPairs (pairTrees keys values X.env pos)) (λ vs s'=>∃ ps H',Inv X pins σ H' s'/\VV ps vs/\Q ps H') X.xe s
theorem p7{X:Cx}{pos:Pos}:PPs X pos [] [] []:=λ pins s σ H Q I h=>pairTrees_nil_walk ⟨[],H,I,.nil,h⟩
theorem dW{X:Cx}{pos:Pos}{k v:Expr}{ks:List (Option Expr)}{vs:List Expr}{tk tv:TE}{trs:List (TE×TE)}(hk:PE X k tk)(hv:PE X v tv)(hr:PPs X pos ks vs trs) :
  PPs X pos (some k::ks) (v::vs) ((tk,tv)::trs):=λ pins s σ H Q I h =>
 pairTrees_cons_walk (thn (hk pins s σ H _ I h) λ u s1 ⟨x,H1,I1,rx,q1⟩=>thn (hv pins s1 σ H1 _ I1 q1) λ w2 s2 ⟨y,H2,I2,ry,q2⟩ =>
  thn (hr pins s2 σ H2 _ I2 q2) λ ws s3 ⟨ps,H3,I3,rel,q3⟩=>⟨(x,y)::ps,H3,I3,.cons ⟨rx,ry⟩ rel,q3⟩)
def fY(kvs more:List (Key×V)):List (Key×V):=more.foldl (λ acc kv=>putK acc kv.1 kv.2) kvs
theorem KV.merge:∀ {more:List (Key×V)} {rs:List (Key×Value)} {kvs:List (Key×V)} {vs:List (Key×Value)},KV more rs->KV kvs vs->KV (fY kvs more) (merged vs rs):=by
 intro more rs kvs vs r;unfold KV at r
 induction r generalizing kvs vs with
 | nil=>intro q;exact q
 | @cons p q ps qs h t ih =>
  intro r0;have e:KV (putK kvs p.1 p.2) (stored vs q.1 q.2):=by have:=r0.put p.1 h.2;rw[<- h.1];exact this
  exact ih e
theorem fX:∀ (more kvs:List (Key×V)),(fY kvs more).length<=kvs.length+more.length
 | [],kvs=>by show kvs.length<=kvs.length+0;omega
 | p::r,kvs=>by have h1:=fX r (putK kvs p.1 p.2);have h2:=fU kvs p.1 p.2;show(fY (putK kvs p.1 p.2) r).length<=_;rw[List.length_cons];omega
theorem nH{P:Program}{w:World}:∀ {kvs:List (Key×V)} {ws:List (Value×Value)},VV (kvs.map λ kv=>(kV kv.1,kv.2)) ws->∃ rs,Carries (aW P w) ws rs/\KV kvs rs
 | [],_,r=>by rw[List.map_nil] at r;cases r;exact⟨[],True.intro,.nil⟩
 | p::kvs,_,r=>by
  rw[List.map_cons] at r;cases r with
  | @cons a b as bs h t =>
   obtain⟨rs,c,q⟩:=nH (P:=P) (w:=w) t;obtain⟨b1,b2⟩:=b;exact⟨(p.1,b2)::rs,⟨sP h.1,rfl,c⟩,.cons ⟨rfl,h.2⟩ q⟩
def ahj(trs:List (TE×TE)):TE:=λ σ H Q=>∀ p,H p=none->uQ trs σ (upd H p (.dK [])) λ ps H2=>H2 p=some (.dK [])/\∃ kvs:List (Key×V),ps=kvs.map (λ kv=>(kV kv.1,kv.2))/\kvs.length<=15/\Q (.ref p) (upd H2 p (.dK (fY [] kvs)))
theorem ad1{X:Cx}{pos:Pos}{keys:List (Option Expr)}{values:List Expr}{trs:List (TE×TE)}(h:PPs X pos keys values trs)(hall:keys.all (·.isSome)=true)(hl:keys.length=values.length)(h0:keys≠[])
  (h15:keys.length<=15):PE X (.Dict keys values pos) (ahj trs):=by
 intro pins s σ H Q I q;have hn:=I.hok.fresh (Nat.le_refl s.heap.objs.size);have I1:=I.laid (a:=s.heap.objs.size) (o:=.dK []) (h':=s.heap.push {cls:=.type "dict",data:=.dict #[]}) (t':=s.toks) (λ _ _ q=>Heap.get?_push_of_some _ q) (Nat.le_refl _) (kz s.heap I.big);refine wpAny_Dict_walk (knd:=aW X.prog X.w) hall hl h0 h15 (thn (h pins _ σ _ _ I1 (q _ hn)) λ ws s2 hq30=>?_);obtain⟨ps,H2,I2,rel,e,kvs,ep,lk,q2⟩:=hq30;subst ep;obtain⟨rs,c,rk⟩:=nH (P:=X.prog) (w:=X.w) rel;obtain⟨z,hd,vs0,r0,dd⟩:=aak I2.hok e;cases r0;refine⟨rs,c,dd,λ h' dd' hs=>⟨.ref s.heap.objs.size,_,?_,rfl,q2⟩⟩;have hz:(fY [] kvs).length<=sizeLine:=by have h1:=fX kvs [];rw[List.length_nil] at h1;rw[sizeLine_eq];omega
 have he:∃ q,h'.get? s.heap.objs.size=some q:=let ⟨q,_,_,hq,_⟩:=dd'; ⟨q,hq⟩;exact kC I2 (by rw[e];exact True.intro) hs he (va hz hd (rk.merge .nil) dd')
structure M1(X:Cx)(o:Expr)(m:Str)(apos:Pos)(e:Expr)(cpos:Pos):Prop where
 base:attributeBase o m X.env (eval o X.env)=eval o X.env
 few:((backTo cpos (starEach [e] X.env)).all (λ x=>!x.1)&&(backToKw cpos (keywordEach [] X.env)).all (λ x=>x.1.isSome)
  && decide (([e]:List Expr).length+([]:List Keyword).length+(if ([]:List Keyword).isEmpty then 0 else 1)<30))=true
 line:(apos.endLine==cpos.line)=true
 trees:backTo cpos (starEach [e] X.env)=[(false,eval e X.env)]
structure M2(X:Cx)(o:Expr)(m:Str)(apos:Pos)(e f:Expr)(cpos:Pos):Prop where
 base:attributeBase o m X.env (eval o X.env)=eval o X.env
 few:((backTo cpos (starEach [e,f] X.env)).all (λ x=>!x.1)&&(backToKw cpos (keywordEach [] X.env)).all (λ x=>x.1.isSome)
  && decide (([e,f]:List Expr).length+([]:List Keyword).length+(if ([]:List Keyword).isEmpty then 0 else 1)<30))=true
 line:(apos.endLine==cpos.line)=true
 trees:backTo cpos (starEach [e,f] X.env)=[(false,eval e X.env),(false,eval f X.env)]
def IsD(H:Hp)(a:Addr):Prop:=(∃ kvs,Rd H a (.dK kvs))\/∃ kvs,Rd H a (.dT kvs)
theorem afh{X:Cx}{pins:List (Addr×Obj)}{σ:St}{H:Hp}{s:Shared}{a:Addr}(I:Inv X pins σ H s)(d:IsD H a) :
  s.TypeIs (.ref a) "dict" /\ (∀ b,Value.ref a=.ref b->∃ ob,s.heap.get? b=some ob/\ob.dict=none)/\(a==sysModules)=false:=by
 rcases d with ⟨kvs,e⟩ | ⟨kvs,e⟩
 ·obtain⟨_,hd,vs,_,dd⟩:=xG I.hok e;refine⟨dd.typeIs,λ b q=>?_,hd⟩;cases q;obtain⟨ob,_,_,h1,h2,_⟩:=dd;exact⟨ob,h1,h2.2.1⟩
 ·obtain⟨_,hd,xs,_,dd⟩:=abb I.hok e;refine⟨dd.typeIs,λ b q=>?_,hd⟩;cases q;obtain⟨ob,_,_,h1,h2,_⟩:=dd;exact⟨ob,h1,h2.2.1⟩
section
variable {X:Cx}{pins:List (Addr×Obj)}{σ:St}{H:Hp}{s:Shared}{a:Addr}{y d:V}{u r:Value}{o:Option V}{A:Around}{E:Value->Shared->Prop}
end
section
variable {X:Cx}{o e f:Expr}{apos cpos:Pos}{td ty tx:TE}
end
section
variable {X:Cx}{pins:List (Addr×Obj)}{σ:St}{H:Hp}{s:Shared}{a:Addr}{kvs:List (Key×V)}{A:Around}{E:Value->Shared->Prop}
end
section
variable {X:Cx}{pins:List (Addr×Obj)}{σ:St}{H:Hp}{s:Shared}{a:Addr}{y:V}{u:Value}{A:Around}{E:Value->Shared->Prop}
end
end L2
set_option maxHeartbeats 0
namespace L2
def Fz:HO->Prop
 | .lst _=>True
 | .dK _=>True
 | _=>False
section
variable {X:Cx}{pins:List (Addr×Obj)}{σ:St}{H:Hp}{s:Shared}{p:Addr}{u:HO}
theorem ae2{fs ex:List Addr}{h:Heap}{o:Obj}(e:H p=some u)(f:Fz u):Un fs ex H (upd H p (.frz o u)) h h where
 keep:=λ b ob q _ _ _=>q
 slot:=λ b ob q _ _ _=>⟨ob.slots,q⟩
 free:=λ b ob _ n _=>by rw[aj (Ne.symm (aV e n))];exact n
 there:=λ b ob q _=>⟨ob,q⟩
 tups:=λ b xs q=>by
  have:b≠p:=λ z=>by subst z;rw[e] at q;cases q;exact f
  rw[aj this];exact q
 frzs:=λ b ob v q=>by
  have:b≠p:=λ z=>by subst z;rw[e] at q;cases q;exact f
  rw[aj this];exact q
 tbls:=λ b ps q=>by
  have:b≠p:=λ z=>by subst z;rw[e] at q;cases q;exact f
  exact⟨#[],by rw[aj this,q];simp⟩
theorem cW.af2{P:Program}{w:World}{H H':Hp}{h:Heap}{a:Addr}(f:Fz u)(x:cW P w H h a u):cW P w H' h a u:=by
 cases u with
 | lst xs=>exact x
 | dK kvs=>exact x
 | _=>exact f.elim
theorem cW.obj{P:Program}{w:World}{H:Hp}{h:Heap}{a:Addr}(f:Fz u)(x:cW P w H h a u):∃ o,h.get? a=some o:=by
 cases u with
 | lst xs=>obtain⟨_,_,_,_,e⟩:=x;exact⟨_,e⟩
 | dK kvs=>obtain⟨_,_,_,_,o,_,_,e,_⟩:=x;exact⟨o,e⟩
 | _=>exact f.elim
theorem Inv.freeze(I:Inv X pins σ H s)(e:H p=some u)(f:Fz u):∃ o,Inv X pins σ (upd H p (.frz o u)) s:=by
 obtain⟨o,ho⟩:=(I.hok p u e).obj f;refine⟨o,I.un (h':=s.heap) (t':=s.toks) (ae2 e f) λ b v q=>?_⟩
 by_cases hb:b=p
 ·subst hb;rw[ar] at q;cases q;exact⟨ho,(I.hok b u e).af2 f⟩
 ·rw[aj hb] at q;refine(I.hok b v q).wG (λ _ _ _ q=>q) (λ c r=>?_) λ c xs r=>?_
  ·have:c≠p:=λ z=>by subst z;rw[e] at r;cases r;exact f
   rw[aj this];exact r
  ·have:c≠p:=λ z=>by subst z;rw[e] at r;cases r;exact f
   rw[aj this];exact r
def aih(t:TE):TE:=λ σ H Q=>t σ H λ v H1=>∃ p u,v=.ref p/\H1 p=some u/\Fz u/\∀ o,Q v (upd H1 p (.frz o u))
theorem uO{e:Expr}{t:TE}(h:PE X e t):PE X e (aih t):=by intro pins s σ H Q I hq;refine thn (h pins s σ H _ I hq) λ v s1 hq31=>?_;obtain⟨x,H1,I1,r1,p,u,e1,e2,f,q⟩:=hq31;obtain⟨o,I2⟩:=I1.freeze e2 f;exact⟨x,_,I2,r1,q o⟩
theorem Inv.afq{D:Addr}{ys:List V}{us:List Value}{n:Nat}(I:Inv X pins σ H s)(e:s.heap.get? D=some {cls:=.type "list",data:=.seq us.toArray n})(hn:H D=none)(hv:Vals ys us)(hz:ys.length<=sizeLine)
  (h0:X.s₀.heap.objs.size<=D)(hL:D≠X.env.locals)(hc:∀ x c,X.env.cells.lookup x=some c->c≠D)(hp:∀ p∈X.pn++pins,p.1≠D):Inv X pins σ (upd H D (.lst ys)) s:=by
 have ne:∀ b u,H b=some u->b≠D:=λ b u q=>aV q hn;refine I.step (h':=s.heap) (g':=s.gens) (d':=s.drawn) (t':=s.toks) (ch:=[D]) (λ b hb=>?_) (λ b o _ _ _ q _=>q) (λ b o _ _ _ q _=>⟨o.slots,q⟩) (λ b o hb q n=>?_) (λ b o _ q=>⟨o,q⟩)
  (λ b xs q=>by rw[aj (ne b _ q)];exact q) (λ b o u q=>by rw[aj (ne b _ q)];exact q) (λ b ps q=>⟨#[],by rw[aj (ne b _ q),q];simp⟩) (λ m hm=>hm) (λ b u q=>?_) I.bare
 ·have e:b=D:=by simpa using hb
  subst e;exact⟨.inr h0,hL,hc,hp⟩
 ·rw[aj (λ z=>hb (by simp[z]))];exact n
 ·by_cases hb:b=D
  ·subst hb;rw[ar] at q;cases q;exact⟨hz,us,n,hv,e⟩
  ·rw[aj hb] at q;exact(I.hok b u q).wG (λ _ _ _ q=>q) (λ c r=>by rw[aj (ne c _ r)];exact r) λ c xs r=>by rw[aj (ne c _ r)];exact r
end
section
variable {prog:Program}{w:World}{A:Around}{E:Value->Shared->Prop}{R:Result->Shared->Prop}{s:Shared}
abbrev sQ(ifs:List Expr)(env:Env):Sem Bool:=forIn ifs true λ c r=>if r=true then do let ok <- isTrue c env (eval c env);pure (ForInStep.yield ok) else pure (ForInStep.yield r)
theorem rX{elt target iter:Expr}{ifs:List Expr}{scope:Scope}{pos:Pos}{it acc:Value}{env:Env}(I:Nat->Shared->Prop)
  (turn:∀ n s,I n s->wpAny (model prog w) A (pyNext it) (λ r s₁=>match r with
   | none=>R (.ok .next) s₁
   | some v=>wpAny (model prog w) A (letOwnedTupleGo target it v) (λ _ s₁'=>wpAny (model prog w) A (assign target env v) (λ _ s₂ =>
     wpAny (model prog w) A (sQ ifs env) (λ ok s₃ =>
      if ok=true then wpAny (model prog w) A (eval elt env) (λ x s₄ =>
       wpAny (model prog w) A (call (.builtin "list.append") [acc,x]) (λ _ s₅=>∃ m,m<n/\I m s₅) (λ _ _=>False) s₄) (λ _ _=>False) s₃
      else ∃ m,m<n/\I m s₃) (λ _ _=>False) s₂) (λ _ _=>False) s₁') (λ _ _=>False) s₁) (λ _ _=>False) s)
  (n:Nat)(h:I n s) :
  codeAny (model prog w) A (.compLoop (.ListComp elt [⟨target,iter,ifs,0⟩] scope pos) 0 it acc env) R s:=by
 refine codeAny_loop rfl I (λ n s hI=>?_) n h;show wpAny _ A ((compTurn (.ListComp elt [⟨target,iter,ifs,0⟩] scope pos) 0 it acc env).onRaise (λ x=>do noteFrame x env;theTreesLotGoes x)) _ _ s;refine wpAny_noted ?_;rw[compTurn_list];refine wpAny_bind (wpAny_standAt (wpAny_bind (wpAny_mono (turn n s hI) (λ r s₁ h₁=>?_) λ _ _ h'=>h'.elim)));cases r with
 | none=>exact wpAny_pure h₁
 | some v =>
  refine wpAny_bind (wpAny_mono h₁ (λ _ s₁' h₁'=>?_) λ _ _ h'=>h'.elim);refine wpAny_bind (wpAny_mono h₁' (λ _ s₂ h₂=>wpAny_bind (wpAny_mono h₂ (λ ok s₃ h₃=>?_) λ _ _ h'=>h'.elim)) λ _ _ h'=>h'.elim);cases ok with
  | false=>exact wpAny_pure ⟨rfl,h₃⟩
  | true =>
   exact wpAny_bind (wpAny_bind (wpAny_mono h₃ (λ x s₄ h₄=>wpAny_bind (wpAny_mono h₄ (λ _ s₅ h₅=>wpAny_pure (wpAny_pure ⟨rfl,h₅⟩)) λ _ _ h'=>h'.elim)) λ _ _ h'=>h'.elim))
end
theorem jM{scope:Scope}{env:Env}(h:∀ x∈scope.names,x.2=.free->∃ c,env.cells.lookup x.1=some c) :
  ∃ cl,closureFor scope env=pure cl/\(∀ n c,cl.lookup n=some c->env.cells.lookup n=some c)/\(∀ n,(n,NameKind.free)∈scope.names->∃ c,cl.lookup n=some c):=by
 have key:∀ (l:List (Str×NameKind)) (cs:List (Str×Addr)),(∀ x∈l,x.2=.free->∃ c,env.cells.lookup x.1=some c)->(∀ n c,cs.lookup n=some c->env.cells.lookup n=some c) ->
   ∃ cl:List (Str×Addr),(forIn l cs λ x r=>match x with
    | (name,kind)=>if (kind==NameKind.free)=true then do let a <- cellOf env name;pure (ForInStep.yield ((name,a)::r)) else pure (ForInStep.yield r):Sem (List (Str×Addr)))=pure cl /\
    (∀ n c,cl.lookup n=some c->env.cells.lookup n=some c)/\(∀ n c,cs.lookup n=some c->∃ c,cl.lookup n=some c)/\(∀ n,(n,NameKind.free)∈l->∃ c,cl.lookup n=some c):=by
  intro l
  induction l with
  | nil=>intro cs _ hc;exact⟨cs,rfl,hc,λ n c e=>⟨c,e⟩,λ n hn=>nomatch hn⟩
  | cons x l ih =>
   intro cs hl hc;obtain⟨name,kind⟩:=x
   by_cases hk:kind=.free
   ·subst hk;obtain⟨c,e⟩:=hl (name,.free) List.mem_cons_self rfl;obtain⟨cl,h1,h2,h3,h4⟩:=ih ((name,c)::cs) (λ y hy=>hl y (List.mem_cons_of_mem _ hy)) (λ n d q=>by
     rw[List.lookup_cons] at q;cases hb:n==name with
     | true =>
      rw[hb] at q;cases q;rw[eq_of_beq hb];exact e
     | false =>
      rw[hb] at q;exact hc n d q)
    refine⟨cl,?_,h2,λ n d q=>?_,λ n hn=>?_⟩
    ·rw[List.forIn_cons];simp only[beq_self_eq_true,if_true,cellOf,e,pure_bind];exact h1
    ·cases hb:n==name with
     | true=>exact h3 n c (by rw[List.lookup_cons,hb])
     | false=>exact h3 n d (by rw[List.lookup_cons,hb];exact q)
    ·rcases List.mem_cons.mp hn with z | z
     ·cases z;exact h3 name c (by rw[List.lookup_cons];simp)
     ·exact h4 n z
   ·obtain⟨cl,h1,h2,h3,h4⟩:=ih cs (λ y hy=>hl y (List.mem_cons_of_mem _ hy)) hc;refine⟨cl,?_,h2,h3,λ n hn=>?_⟩
    ·rw[List.forIn_cons];have:(kind==NameKind.free)=false:=by simpa using hk
     simp only[this,Bool.false_eq_true,if_false,pure_bind];exact h1
    ·rcases List.mem_cons.mp hn with z | z
     ·cases z;exact absurd rfl hk
     ·exact h4 n z
 obtain⟨cl,h1,h2,_,h4⟩:=key scope.names [] h (λ n c e=>by simp at e);refine⟨cl,?_,h2,h4⟩;unfold closureFor;simp only[bind_pure];exact h1
theorem jJ{sc:Scope}{env:Env}{x:Str}:∀ {names:List (Str×NameKind)},(names.map λ(n,k)=>if (k==NameKind.free&&env.scope.kind==.function&&env.kindOf n==some .cell) then (n,NameKind.cell) else (n,k)).lookup x=some .cell \/
  (names.map λ(n,k)=>if (k==NameKind.free&&env.scope.kind==.function&&env.kindOf n==some .cell) then (n,NameKind.cell) else (n,k)).lookup x=some .free->(∀ y∈names,y.2 ≠ .cell)->(x,NameKind.free)∈names
 | [],h,_=>by simp at h
 | (n,k)::r,h,hc=>by
  have ih:=@jJ sc env x r
  by_cases hk:(k==NameKind.free&&env.scope.kind==.function&&env.kindOf n==some .cell)=true
  ·simp only[List.map_cons,if_pos hk,List.lookup_cons] at h;cases hx:x==n with
   | true =>
    have e:=eq_of_beq hx;subst e;simp only[Bool.and_eq_true] at hk;have:=eq_of_beq hk.1.1;subst this;exact List.mem_cons_self
   | false =>
    rw[hx] at h;exact List.mem_cons_of_mem _ (ih h λ y hy=>hc y (List.mem_cons_of_mem _ hy))
  ·simp only[List.map_cons,if_neg hk,List.lookup_cons] at h;cases hx:x==n with
   | true =>
    rw[hx] at h;have e:=eq_of_beq hx;subst e;rcases h with h | h
    ·cases h;exact absurd rfl (hc (x,.cell) List.mem_cons_self)
    ·cases h;exact List.mem_cons_self
   | false =>
    rw[hx] at h;exact List.mem_cons_of_mem _ (ih h λ y hy=>hc y (List.mem_cons_of_mem _ hy))
theorem eB{env:Env}{x:Str}:∀ {names:List (Str×NameKind)},names.lookup x=some .free ->
  (names.map λ(n,k)=>if (k==NameKind.free&&env.scope.kind==.function&&env.kindOf n==some .cell) then (n,NameKind.cell) else (n,k)).lookup x=some .cell \/
  (names.map λ(n,k)=>if (k==NameKind.free&&env.scope.kind==.function&&env.kindOf n==some .cell) then (n,NameKind.cell) else (n,k)).lookup x=some .free
 | [],h=>by simp at h
 | (n,k)::r,h=>by
  have ih:=@eB env x r
  by_cases hk:(k==NameKind.free&&env.scope.kind==.function&&env.kindOf n==some .cell)=true
  ·simp only[List.map_cons,if_pos hk,List.lookup_cons];cases hx:x==n with
   | true=>exact .inl rfl
   | false=>rw[List.lookup_cons,hx] at h;exact ih h
  ·simp only[List.map_cons,if_neg hk,List.lookup_cons];cases hx:x==n with
   | true=>rw[List.lookup_cons,hx] at h;exact .inr h
   | false=>rw[List.lookup_cons,hx] at h;exact ih h
def blk(X:Cx)(sc:Scope)(N':List Str)(cl:List (Str×Addr))(C:Addr)(s:Shared)(H:Hp)(ex:List Addr)(pins:List (Addr×Obj)):Cx:=
 {X with N:=N',s₀:=s,H₀:=H,env:=compEnvC sc cl C X.env,outer:=X.stack,ex:=ex,fn:=λ _=>false,pn:=X.pn++pins,xe:=λ _ _=>False}
def lcN(X:Cx)(own:List Str)(fr:List Nat):List Str:=own++fr.map λ j=>X.N.getD j Str.empty
def lcS(k:Nat)(fr:List Nat)(σ:St):St:=List.replicate k none++fr.map λ j=>(σ[j]?).getD none
def aeB(N:List Str)(sc:Scope)(fr:List Nat):Bool:=fr.all λ j=>match N[j]? with
 | some x=>sc.names.lookup x==some .free
 | none=>false
structure jN(X:Cx)(sc:Scope)(own:List Str)(fr:List Nat):Prop where
 kind:sc.kind=.function
 cell:∀ y∈sc.names,y.2 ≠ .cell
 free:∀ y∈sc.names,y.2=.free->(X.env.kindOf y.1=some .cell\/X.env.kindOf y.1=some .free)
 names:∀ y∈sc.names,y.2=.local->sc.names.lookup y.1=some .local
 fr:aeB X.N sc fr=true
def PTs(X:Cx)(ifs:List Expr)(t:TT):Prop:=
 ∀ (pins:List (Addr×Obj)) (s:Shared) (σ:St) (H:Hp) (Q:Bool->Hp->Prop),Inv X pins σ H s->t σ H Q->wpAny (model X.prog X.w) X.A (sQ ifs X.env) (TP X pins σ Q) X.xe s
def ajk:TT:=λ _ H Q=>Q true H
theorem ac5{X:Cx}:PTs X [] ajk:=λ _ _ _ H _ I h=>wpAny_tests_nil ⟨H,I,h⟩
theorem acX{X:Cx}{c:Expr}{t:TT}(h:PT X c t):PTs X [c] t:=λ pins s σ H Q I q=>wpAny_tests_one (h pins s σ H Q I q)
section
variable {X:Cx}{pins:List (Addr×Obj)}{σ:St}{H:Hp}{s:Shared}{sc:Scope}{own:List Str}{fr:List Nat}{cl:List (Str×Addr)}{fp:List Addr}{C D:Addr}{s1:Shared}
theorem uu{N:List Str}{sc:Scope}{fr:List Nat}(h:aeB N sc fr=true){j:Nat}(hj:j∈fr):∃ x,N[j]? =some x/\sc.names.lookup x=some .free:=by
 have q:=List.all_eq_true.mp h j hj;cases e:N[j]? with
 | none=>simp[e] at q
 | some x =>
  simp only[e] at q;exact⟨x,rfl,eq_of_beq q⟩
theorem aeX(L:jN X sc own fr)(I:Inv X pins σ H s)(hf:∀ b∈fp,mz X pins H b)(hb:∀ b∈fp,b<s.heap.objs.size)(hC:s.heap.objs.size<=C)
  (c1:∀ n c,cl.lookup n=some c->X.env.cells.lookup n=some c)(c2:∀ n,(n,NameKind.free)∈sc.names->∃ c,cl.lookup n=some c):(blk X sc (lcN X own fr) cl C s H fp pins).Ok where
 mod:=I.ok.mod
 kind:=L.kind
 glob:=I.ok.glob
 blt:=I.ok.blt
 above:=hC
 inj:=λ x y c a b=>I.ok.inj x y c (c1 _ _ a) (c1 _ _ b)
 has:=λ x hx=>c2 x (jJ (sc:=sc) (env:=X.env) hx L.cell)
 cab:=λ x c z=>absurd (show false=true from z) Bool.false_ne_true
 hd:=I.ok.hd
 frames:=I.ok.frames
 stk:=.inl rfl
 exf:=λ b z=>⟨Nat.ne_of_lt (Nat.lt_of_lt_of_le (hb b z) hC),λ x c e=>(hf b z).2.2.2.2.1 x c (c1 _ _ e)⟩
 bs:=I.bs
 bsz:=Nat.le_trans I.ok.bsz I.sz
 noex:=λ b o e z=>by
  rcases(hf b z).2.2.2.1 with q | q
  ·exact I.ok.noex b o e q
  ·exact absurd (Nat.lt_of_lt_of_le (Heap.lt_size e) (Nat.le_trans I.ok.bsz q)) (Nat.lt_irrefl _)
 exfs:=λ b z q=>by
  rcases List.mem_cons.mp (I.jV b q) with e | e
  ·exact(hf b z).2.1 e
  ·exact(hf b z).2.2.1 e
 sA:=I.stack
 frf:=I.sV
theorem zc(L:jN X sc own fr)(I:Inv X pins σ H s)(hf:∀ b∈fp,mz X pins H b)(hb:∀ b∈fp,b<s.heap.objs.size)(hC:s.heap.objs.size<=C)
  (c1:∀ n c,cl.lookup n=some c->X.env.cells.lookup n=some c)(c2:∀ n,(n,NameKind.free)∈sc.names->∃ c,cl.lookup n=some c)
  {h1:Heap}{tk:Nat}{m:Str->Option Value}(hn:h1.Ns C m)(k:∀ b o,s.heap.get? b=some o->h1.get? b=some o) :
  Inv (blk X sc (lcN X own fr) cl C s H fp pins) [] (lcS own.length fr σ) H {s with heap:=h1,toks:=tk}:=by
 have ok:=aeX L I hf hb hC c1 c2;refine⟨ok,rfl,I.bare,Un.kept k,⟨m,hn,λ i x v e1 e2 e3=>?_⟩,λ x c e=>?_,I.hok.fresh hC,λ x c e=>I.freeC x c (c1 _ _ e),λ p hp=>?_,I.hok.kept k,?_⟩
 ·-- one of the names around
  have hi:¬ i<own.length:=λ hi=>by
   unfold lcS at e2;rw[List.getElem?_append_left (by simpa using hi),List.getElem?_replicate] at e2
   split at e2<;>cases e2
  have e1':(lcN X own fr)[i]? =some x:=e1;unfold lcN at e1';unfold lcS at e2;rw[List.getElem?_append_right (by omega),List.getElem?_map] at e1';rw[List.getElem?_append_right (by simpa using hi),List.getElem?_map,List.length_replicate] at e2;cases q:fr[i-own.length]? with
  | none=>rw[q] at e1';cases e1'
  | some j =>
   rw[q] at e1' e2;obtain⟨y,hy,hyf⟩:=uu L.fr (List.mem_of_getElem? q);have ex:y=x:=by have:=Option.some.inj e1';rw[<- this];simp[List.getD,hy]
   subst ex;have ev:σ[j]? =some (some v):=by
    have z:(σ[j]?).getD none=some v:=Option.some.inj e2;cases w:σ[j]? with
    | none=>rw[w] at z;cases z
    | some o=>rw[w] at z;exact congrArg some z
   have hm:(y,NameKind.free)∈sc.names:=PySem.mem_of_lookup hyf;have hk:=L.free _ hm rfl;have vis:Vis X.env.scope y:=by
    rcases hk with z | z
    ·exact .inr (.inl z)
    ·exact .inr (.inr z)
   obtain⟨m0,hn0,hl⟩:=I.loc;obtain⟨u,r,l⟩:=hl j y v hy ev vis;refine⟨u,r,.inr ⟨?_,?_⟩⟩
   ·exact eB (env:=X.env) hyf
   ·obtain⟨c,hc⟩:=c2 y hm;rcases l with ⟨z,_⟩ | ⟨_,c',hc',hcell⟩
    ·rcases hk with q | q
     ·exact absurd (show X.env.kindOf y=some .local from z) (by rw[q];decide)
     ·exact absurd (show X.env.kindOf y=some .local from z) (by rw[q];decide)
    ·have:c=c':=Option.some.inj ((c1 _ _ hc).symm.trans hc');subst this;obtain⟨o,ho,hd⟩:=hcell;exact⟨c,hc,o,k _ _ ho,hd⟩
 ·obtain⟨v,o,ho,hd⟩:=I.cell x c (c1 _ _ e);exact⟨v,o,k _ _ ho,hd⟩
 ·have hp':p∈X.pn++pins:=by simpa [blk] using hp
  obtain⟨a1,a2,a3,a4,a5⟩:=I.pin p hp';refine⟨k _ _ a1,a2,Nat.ne_of_lt (Nat.lt_of_lt_of_le (Heap.lt_size a1) hC),λ q=>?_,a5⟩;rcases List.mem_cons.mp (I.jV _ q) with e | e
  ·exact a3 e
  ·exact a4 e
 ·show(lcS own.length fr σ).length=(lcN X own fr).length;simp[lcS,lcN]
end
abbrev LcW:=Nat->Nat->List V->St->Hp->Prop
def ab1(J:It)(g:TG)(tt:TT)(te:TE)(W:LcW)(Fin:List V->Hp->Prop):Prop:=∀ i m ys τ H,W i m ys τ H ->
 (J.stop i H/\Fin ys H)\/(J.go i H/\ys.length<sizeLine/\∀ x H',J.yld i H x H'->g x τ H' λ τ2 H2=>tt τ2 H2 λ b H3 =>
  if b=true then te τ2 H3 λ y H4=>∃ m',m'<m/\W (i+1) m' (ys++[y]) τ2 H4 else ∃ m',m'<m/\W (i+1) m' ys τ2 H3)
section
variable {X:Cx}{pins:List (Addr×Obj)}{σ:St}{H:Hp}{s:Shared}{sc:Scope}{own:List Str}{fr:List Nat}{cl:List (Str×Addr)}{fp:List Addr}{it:Addr}{J:It}{tn:Nat->Heap->Prop}{g:TG}{tt:TT}{te:TE}{W:LcW}{Fin:List V->Hp->Prop}
 {elt tg iter:Expr}{ifs:List Expr}{pos:Pos}{E:Value->Shared->Prop}
theorem xC{RR:Value->Addr->Result->Shared->Prop}(hc:X.calm=true)(L:jN X sc own fr)(hcl1:∀ n c,cl.lookup n=some c->X.env.cells.lookup n=some c)(hcl2:∀ n,(n,NameKind.free)∈sc.names->∃ c,cl.lookup n=some c)
  (hg:∀ C s H ex pl,PG (blk X sc (lcN X own fr) cl C s H ex pl) tg g)(ht:∀ C s H ex pl,PTs (blk X sc (lcN X own fr) cl C s H ex pl) ifs tt)(he:∀ C s H ex pl,PE (blk X sc (lcN X own fr) cl C s H ex pl) elt te)
  (I:Inv X pins σ H s)(T:Turn X.prog X.w X.K tg J fp it tn)(st:tn 0 s.heap)(hf:∀ b∈fp,mz X pins H b)(w0:∃ m,W 0 m [] (lcS own.length fr σ) H)(turn:ab1 J g tt te W Fin)
  (hRR:∀ (D C:Addr) (s':Shared) (H':Hp) (ys:List V) (us:List Value) (n:Nat) (m:Str->Option Value),Inv X pins σ H' s'->s'.heap.get? D=some {cls:=.type "list",data:=.seq us.toArray n}->Vals ys us->ys.length<=sizeLine->H' D=none->H' C=none ->
   s.heap.objs.size<=D->s.heap.objs.size<=C->D≠C->s'.heap.Ns C m->Fin ys H'->RR (.ref D) C (.ok .next) s') :
  wpAny (model X.prog X.w) X.A (newList []) (λ acc s₃=>wpAny (model X.prog X.w) X.A (newFunctionEnv sc X.env.globals cl [] X.env.qual none .none (some X.env)) (λ cenv s₄ =>
   codeAny (model X.prog X.w) X.A (.compStart (.ListComp elt [⟨tg,iter,ifs,0⟩] sc pos) 0 (.ref it) acc {cenv with scope:=relabel sc X.env}) (RR acc cenv.locals) s₄) E s₃) E s:=by
 refine wpAny_newObj_type (wpAny_newFunctionEnv L.cell (by intro y hy;simp at hy) (λ h₁ hns₁ hsb₁=>?_) L.kind);dsimp only at hns₁ hsb₁ ⊢;generalize hH2:s.heap.push {cls:=.type "list",dict:=none,data:=.seq ([]:List Value).toArray}=H2 at hns₁ hsb₁ ⊢;have hCs:H2.objs.size=s.heap.objs.size+1:=by rw[<- hH2,Heap.size_push]
 have hD0:s.heap.objs.size≠H2.objs.size:=by rw[hCs];exact Nat.ne_of_lt (Nat.lt_succ_self _)
 have hCle:s.heap.objs.size<=H2.objs.size:=by rw[hCs];exact Nat.le_succ _
 have below:∀ b,b<s.heap.objs.size->b≠H2.objs.size/\b≠s.heap.objs.size:=λ b hb=>⟨by rw[hCs];exact Nat.ne_of_lt (Nat.lt_succ_of_lt hb),Nat.ne_of_lt hb⟩;have old:∀ b o,s.heap.get? b=some o->h₁.get? b=some o:=λ b o e=>hsb₁.extBut b o (below b (Heap.lt_size e)).1 (Heap.get?_push_of_some _ (hH2 ▸ Heap.get?_push_of_some _ e));have hacc:h₁.get? s.heap.objs.size=some {cls:=.type "list",data:=.seq ([]:List Value).toArray 0}:=hsb₁.extBut _ _ hD0 (Heap.get?_push_of_some _ (hH2 ▸ Heap.get?_push_size _ rfl));have hfb:∀ b∈fp,b<s.heap.objs.size:=λ b hb=>by obtain⟨o,e,_⟩:=T.obj 0 _ st b hb;exact Heap.lt_size e
 have I1:Inv (blk X sc (lcN X own fr) cl H2.objs.size s H fp pins) [] (lcS own.length fr σ) H {s with heap:=h₁,toks:=s.toks+([]:List (Str×Value)).length}:=zc L I hf hfb hCle hcl1 hcl2 hns₁ old;have st1:tn 0 h₁:=T.keep 0 _ _ st λ b _ o e=>old b o e;generalize hY:blk X sc (lcN X own fr) cl H2.objs.size s H fp pins=Y at I1;have hYp:Y.prog=X.prog:=by rw[<- hY];rfl
 have hYw:Y.w=X.w:=by rw[<- hY];rfl
 have hYK:Y.K=X.K:=by rw[<- hY];rfl
 have hYA:Y.A=X.A:=by rw[<- hY];rfl
 have hYc:Y.calm=true:=by rw[<- hY];exact hc
 have hYe:Y.env=compEnvC sc cl H2.objs.size X.env:=by rw[<- hY];rfl
 have hYx:Y.xe=λ _ _=>False:=by rw[<- hY];rfl
 have hYpn:Y.pn=X.pn++pins:=by rw[<- hY];rfl
 have hYs:Y.s₀=s:=by rw[<- hY];rfl
 have hYH:Y.H₀=H:=by rw[<- hY];rfl
 have hYex:Y.ex=fp:=by rw[<- hY];rfl
 have hYfs:Y.fs=frs X.stack:=by rw[<- hY];rfl
 have gY:=hg H2.objs.size s H fp pins;have tY:=ht H2.objs.size s H fp pins;have eY:=he H2.objs.size s H fp pins;rw[hY] at gY tY eY;have D_pin:∀ p∈Y.pn++([]:List (Addr×Obj)),p.1≠s.heap.objs.size:=λ p hp=>by rw[hYpn,List.append_nil] at hp;exact(below _ (Heap.lt_size (I.pin p hp).1)).2
 have D_cell:∀ x c,Y.env.cells.lookup x=some c->c≠s.heap.objs.size:=λ x c e=>by rw[hYe] at e;obtain⟨v,z⟩:=I.cell x c (hcl1 _ _ e);exact(below _ z.lt).2
 have D_loc:s.heap.objs.size≠Y.env.locals:=by rw[hYe];exact hD0
 have D_fs:s.heap.objs.size ∉ Y.fs:=by
  rw[hYfs];intro z;rcases List.mem_cons.mp (I.jV _ z) with e | e
  ·exact absurd I.lt (by rw[<- e];exact Nat.lt_irrefl _)
  ·exact I.aiC (Nat.le_refl _) e
 have fpY:∀ {H':Hp} (pl:List (Addr×Obj)),(∀ b∈fp,H' b=none)->(∀ p∈pl,p.1=s.heap.objs.size)->∀ b∈fp,mz Y pl H' b:=λ {H'} pl hn hp b hb=>by
  obtain⟨_,f1,f2,f3,f4,f5⟩:=hf b hb;refine⟨hn b hb,by rw[hYe];exact(below b (hfb b hb)).1,?_,.inl (by rw[hYex];exact hb),λ x c e=>?_,λ p q=>?_⟩
  ·rw[hYfs];intro z;rcases List.mem_cons.mp (I.jV _ z) with e | e
   ·exact f1 e
   ·exact f2 e
  ·rw[hYe] at e;exact f4 x c (hcl1 _ _ e)
  ·rcases List.mem_append.mp q with z | z
   ·rw[hYpn] at z;exact f5 p z
   ·rw[hp p z];exact Ne.symm (below b (hfb b hb)).2
 have loop:∀ s₃:Shared,s₃={s with heap:=h₁,toks:=s.toks+([]:List (Str×Value)).length} ->
   codeAny (model X.prog X.w) X.A (.compLoop (.ListComp elt [⟨tg,iter,ifs,0⟩] sc pos) 0 (.ref it) (.ref s.heap.objs.size) (compEnvC sc cl H2.objs.size X.env)) (RR (.ref s.heap.objs.size) H2.objs.size) s₃:=by
  rintro s₃ rfl;obtain⟨m0,w0⟩:=w0;refine rX (λ n s'=>∃ i ys τ H' us k,Inv Y [] τ H' s'/\tn i s'.heap/\(∀ b∈fp,H' b=none)/\H' s.heap.objs.size=none/\s'.heap.get? s.heap.objs.size=some {cls:=.type "list",data:=.seq us.toArray k}/\Vals ys us/\ys.length<=sizeLine/\W i n ys τ H') ?_ m0
   ⟨0,[],_,H,[],0,I1,st1,λ b hb=>(hf b hb).1,I.hok.fresh (Nat.le_refl _),hacc,.nil,Nat.zero_le _,w0⟩
  rintro n s' ⟨i,ys,τ,H',us,k,I',st',hn',hD',ha',hv',hz',w'⟩;have Ip:Inv Y [(s.heap.objs.size,{cls:=.type "list",data:=.seq us.toArray k})] τ H' s':=I'.d5 λ p hp=>by
   have e:p=(s.heap.objs.size,{cls:=.type "list",data:=.seq us.toArray k}):=by simpa using hp
   subst e;exact⟨ha',hD',D_loc,D_fs,λ v z=>nomatch (show Data.seq _ _=Data.cell v from z)⟩
  have onlyD:∀ p∈[((s.heap.objs.size,{cls:=.type "list",data:=.seq us.toArray k}):Addr×Obj)],p.1=s.heap.objs.size:=λ p hp=>by
   have e:p=(s.heap.objs.size,{cls:=.type "list",data:=.seq us.toArray k}):=by simpa using hp
   subst e;rfl
  rcases turn i n ys τ H' w' with ⟨stop,fin⟩ | ⟨go,hlen,step⟩
  ·have q:=T.done Y hYp hYw hYK hYc i _ s' τ H' (λ _ _=>False) Ip (fpY _ hn' onlyD) st' stop;rw[hYA] at q;refine thn q λ r s4 hq32=>?_;obtain⟨hr,I4⟩:=hq32;subst hr;have un:Un (frs X.stack) fp H H' s.heap s4.heap:=by have z:=I4.base;rw[hYfs,hYex,hYH,hYs] at z;exact z
   have os4:s4.os=s.os:=by have z:=I4.os;rw[hYs] at z;exact z
   have hok4:HOk X.prog X.w H' s4.heap:=by have z:=I4.hok;rw[hYp,hYw] at z;exact z
   have hch:∀ b∈fp,(b∈X.ex\/X.s₀.heap.objs.size<=b)/\b≠X.env.locals/\(∀ x c,X.env.cells.lookup x=some c->c≠b)/\∀ p∈X.pn++pins,p.1≠b:=λ b hb=>by obtain⟨_,f1,f2,f3,f4,f5⟩:=hf b hb;exact⟨f3,f1,f4,f5⟩
   have IX:Inv X pins σ H' s4:=I.agI os4 un hok4 I4.bare hch;obtain⟨mC,hmC,_⟩:=I4.loc;have hCf:=I4.free;rw[hYe] at hmC hCf;have pD:=I4.pin (s.heap.objs.size,{cls:=.type "list",data:=.seq us.toArray k}) (List.mem_append_right _ (List.mem_singleton.mpr rfl));exact hRR _ _ s4 H' ys us k mC IX pD.1 hv' hz' pD.2.1 hCf (Nat.le_refl _) hCle hD0 hmC fin
  ·have q:=T.item Y hYp hYw hYK hYc i _ s' τ H' (λ _ _=>False) Ip (fpY _ hn' onlyD) st' go;rw[hYA] at q;refine thn q λ r s4 hq33=>?_;obtain⟨u,hr,h4⟩:=hq33;subst hr;refine thn h4 λ _ s5 hq34=>?_;obtain⟨x,H5,I5,r5,y5,st5,fr5⟩:=hq34;have I5':=I5.pinned (fpY _ fr5 onlyD) (T.obj _ _ st5);have g5:=gY _ s5 τ H5 x u _ I5' r5 (step x H5 y5);rw[hYp,hYw,hYA,hYe,hYx] at g5;refine thn g5 λ _ s6 hq35=>?_;obtain⟨σ6,H6,I6,q6⟩:=hq35;have t6:=tY _ s6 σ6 H6 _ I6 q6;rw[hYp,hYw,hYA,hYe,hYx] at t6;refine thn t6 λ ok s7 hq36=>?_;obtain⟨H7,I7,q7⟩:=hq36;have keepD:∀ {σ8:St} {H8:Hp} {s8:Shared},Inv Y ([(s.heap.objs.size,{cls:=.type "list",data:=.seq us.toArray k})]++kI fp s5.heap) σ8 H8 s8->s8.heap.get? s.heap.objs.size=some {cls:=.type "list",data:=.seq us.toArray k}/\H8 s.heap.objs.size=none:=
    λ {σ8 H8 s8} I8=>by have pD:=I8.pin (s.heap.objs.size,{cls:=.type "list",data:=.seq us.toArray k}) (List.mem_append_right _ (List.mem_append_left _ (List.mem_singleton.mpr rfl)));exact⟨pD.1,pD.2.1⟩
   have keepI:∀ {σ8:St} {H8:Hp} {s8:Shared},Inv Y ([(s.heap.objs.size,{cls:=.type "list",data:=.seq us.toArray k})]++kI fp s5.heap) σ8 H8 s8->tn (i+1) s8.heap/\∀ b∈fp,H8 b=none:=
    λ {σ8 H8 s8} I8=>by refine⟨T.keep _ _ _ st5 λ b hb o e=>(I8.pin (b,o) (List.mem_append_right _ (List.mem_append_right _ (d0 hb e)))).1,λ b hb=>?_⟩;obtain⟨o,e,d⟩:=T.obj _ _ st5 b hb;exact(I8.pin (b,o) (List.mem_append_right _ (List.mem_append_right _ (d0 hb e)))).2.1
   cases ok with
   | false =>
    rw[if_neg Bool.false_ne_true] at q7 ⊢;obtain⟨m',hm',w7⟩:=q7;obtain⟨a7,b7⟩:=keepD I7;obtain⟨c7,d7⟩:=keepI I7;exact⟨m',hm',i+1,ys,σ6,H7,us,k,I7.d5 (λ p hp=>(nomatch hp)),c7,d7,b7,a7,hv',hz',w7⟩
   | true =>
    rw[if_pos rfl] at q7 ⊢;have e7:=eY _ s7 σ6 H7 _ I7 q7;rw[hYp,hYw,hYA,hYe,hYx] at e7;refine thn e7 λ v s8 hq37=>?_;obtain⟨y,H8,I8,r8,m',hm',w8⟩:=hq37;obtain⟨a8,b8⟩:=keepD I8;obtain⟨c8,d8⟩:=keepI I8;have hl:=hv'.length;refine call_meets F.slot_list_append ⟨_,a8,rfl⟩ F.entry_list_append (F.args_list_append_2 _ _) (PySem.list_append s.heap.objs.size us.toArray k v (by rw[List.size_toArray];omega)) ⟨a8,?_⟩;have qu:=PySem.IsL.update a8 (λ xs=>xs.push v);have I9:=(I8.d5 (pins':=[]) λ p hp=>nomatch hp).turned (it:=s.heap.objs.size) (t':=s8.toks) (h':=s8.heap.update s.heap.objs.size (Obj.mapSeq λ xs=>xs.push v)) (λ b o hb e=>(Heap.get?_update_other s8.heap _ (Ne.symm hb)).trans e) b8 D_loc (.inr (by rw[hYs];exact Nat.le_refl _)) D_cell D_pin;have ep:us.toArray.push v=(us++[v]).toArray:=by simp
    rw[ep] at qu;refine⟨m',hm',i+1,ys++[y],σ6,H8,us++[v],(if (us++[v]).toArray.size==us.toArray.size then k else k+1),I9,T.keep _ _ _ c8 λ b hb o e=>(Heap.get?_update_other s8.heap _ (Ne.symm (below b (hfb b hb)).2)).trans e,d8,b8,?_,hv'.append (.cons r8 .nil),?_,w8⟩
    ·exact qu
    ·rw[List.length_append,List.length_singleton];omega
 exact codeAny_compStart_list (loop _ rfl) (T.self _ 0 _ _ _ st1 (loop _ rfl))
def tLC(wi:TI)(g:TG)(tt:TT)(te:TE)(k:Nat)(fr:List Nat):TE:=λ σ H Q=>wi σ H λ J H1=>∃ W:LcW,(∃ m,W 0 m [] (lcS k fr σ) H1)/\ab1 J g tt te W λ ys H2=>∀ p,H2 p=none->Q (.ref p) (upd H2 p (.lst ys))
theorem hJ(L:jN X sc own fr)(ok:X.Ok):∃ cl,closureFor sc X.env=pure cl/\(∀ n c,cl.lookup n=some c->X.env.cells.lookup n=some c)/\(∀ n,(n,NameKind.free)∈sc.names->∃ c,cl.lookup n=some c):=
 jM λ x hx hf=>ok.has x.1 (L.free x hx hf)
theorem acU{wi:TI}(hc:X.calm=true)(L:jN X sc own fr)(hi:PI X tg iter wi)
  (hg:∀ cl C s H ex pl,PG (blk X sc (lcN X own fr) cl C s H ex pl) tg g)(ht:∀ cl C s H ex pl,PTs (blk X sc (lcN X own fr) cl C s H ex pl) ifs tt)(he:∀ cl C s H ex pl,PE (blk X sc (lcN X own fr) cl C s H ex pl) elt te)
  (hs:∀ x,foldedSetIterable iter X.env x=pure x:=by intro _;rfl):PE X (.ListComp elt [⟨tg,iter,ifs,0⟩] sc pos) (tLC wi g tt te own.length fr):=by
 intro pins s σ H Q I h;obtain⟨cl,hcl,c1,c2⟩:=hJ L I.ok;rw[eval_ListComp];refine wpAny_comprehension_free (use:=none) (g:=⟨tg,iter,ifs,0⟩) (gs:=[]) rfl hs hcl L.kind L.names ?_;refine thn (hi pins s σ H _ I h) λ v s1 h1=>thn h1 λ itv s2 h2=>?_;obtain⟨it,fp,tn,J,H2,e,I2,T,st2,f2,W,w0,turn⟩:=h2;subst e;refine xC (cl:=cl) hc L c1 c2 (hg cl) (ht cl) (he cl) I2 T st2 f2 w0 turn λ D C s' H' ys us n m I' a' hv hz hD hC dD dC hDC hns fin=>?_;refine⟨m,hns,λ h' sb=>?_⟩;have far:∀ b,s2.heap.objs.size<=b->(X.s₀.heap.objs.size<=b)/\b≠X.env.locals/\(∀ x c,X.env.cells.lookup x=some c->c≠b)/\∀ p∈X.pn++pins,p.1≠b:=λ b hb=>by obtain⟨_,f1,_,f3,f4,f5⟩:=I2.p9 (H':=λ _=>none) hb rfl;refine⟨Nat.le_trans I2.sz hb,f1,f4,f5⟩
 obtain⟨z1,z2,z3,z4⟩:=far C dC;obtain⟨y1,y2,y3,y4⟩:=far D dD;have I3:Inv X pins σ H' {s' with heap:=h'}:=I'.turned (t':=s'.toks) (λ b o hb e=>sb.extBut b o hb e) hC z2 (.inr z1) z3 z4;exact⟨.ref D,_,I3.afq (sb.extBut _ _ hDC a') hD hv hz y1 y2 y3 y4,rfl,fin D hD⟩
theorem oG{wi:TI}{i:Nat}{x:Str}{pos' spos:Pos}(hN:X.N.Nodup)(hi':X.N[i]? =some x)(hx:Loc X.env.scope x)(hc:X.calm=true)(L:jN X sc own fr)(hi:PI X tg iter wi)
  (hg:∀ cl C s H ex pl,PG (blk X sc (lcN X own fr) cl C s H ex pl) tg g)(ht:∀ cl C s H ex pl,PTs (blk X sc (lcN X own fr) cl C s H ex pl) ifs tt)(he:∀ cl C s H ex pl,PE (blk X sc (lcN X own fr) cl C s H ex pl) elt te)
  (hsw:swapsWith (.ListComp elt [⟨tg,iter,ifs,0⟩] sc pos) (some (.Name x pos')) spos.line X.env=pure true:=by rfl)
  (hs:∀ x,foldedSetIterable iter X.env x=pure x:=by intro _;rfl)(hf:X.fn x=true\/X.env.scope.names.lookup x=some .local:=by first | exact .inl rfl | exact .inr rfl | assumption) :
  PS X (.Assign [.Name x pos'] (.ListComp elt [⟨tg,iter,ifs,0⟩] sc pos) spos) (ago (tLC wi g tt te own.length fr) (aaA i)):=by
 intro pins s σ H D' I h;obtain⟨cl,hcl,c1,c2⟩:=hJ L I.ok;rw[exec_Assign_Name_used _ _ _ _ hsw];refine wpAny_bind (wpAny_standAt (wpAny_bind ?_));show wpAny _ _ (evalThenUse (.ListComp elt [⟨tg,iter,ifs,0⟩] sc pos) X.env (assign (.Name x pos') X.env)) _ _ _;unfold evalThenUse;refine wpAny_bind ?_;refine wpAny_comprehension_free (use:=some (assign (.Name x pos') X.env)) (g:=⟨tg,iter,ifs,0⟩) (gs:=[]) rfl hs hcl L.kind L.names ?_;refine thn (hi pins s σ H _ I h) λ v s1 h1=>thn h1 λ itv s2 h2=>?_;obtain⟨it,fp,tn,J,H2,e,I2,T,st2,f2,W,w0,turn⟩:=h2;subst e;refine xC (cl:=cl) hc L c1 c2 (hg cl) (ht cl) (he cl) I2 T st2 f2 w0 turn λ D C s' H' ys us n m I' a' hv hz hD hC dD dC hDC hns fin=>?_;have far:∀ b,s2.heap.objs.size<=b->(X.s₀.heap.objs.size<=b)/\b≠X.env.locals/\(∀ x c,X.env.cells.lookup x=some c->c≠b)/\(b ∉ X.fs)/\∀ p∈X.pn++pins,p.1≠b:=λ b hb=>by obtain⟨_,f1,f2,f3,f4,f5⟩:=I2.p9 (H':=λ _=>none) hb rfl;refine⟨Nat.le_trans I2.sz hb,f1,f4,f2,f5⟩
 obtain⟨z1,z2,z3,z0,z4⟩:=far C dC;obtain⟨y1,y2,y3,_,y4⟩:=far D dD;have I3:=I'.afq a' hD hv hz y1 y2 y3 y4;obtain⟨oC,hoC,nsC⟩:∃ o,s'.heap.get? C=some o/\∃ es ep,o.data=.dict es ep:=by obtain⟨o,es,ep,e1,e2,_⟩:=hns;exact⟨o,e1,es,ep,e2⟩
 have hCt:(upd H' D (.lst ys)) C=none:=by rw[aj (Ne.symm hDC)];exact hC
 have I4:Inv X (pins++[(C,oC)]) σ (upd H' D (.lst ys)) s':=I3.d5 λ p hp=>by
  rcases List.mem_append.mp hp with z | z
  ·exact I3.pin p (List.mem_append_right _ z)
  ·have e:p=(C,oC):=by simpa using z
   subst e;obtain⟨es,ep,hd⟩:=nsC;exact⟨hoC,hCt,z2,z0,λ v z=>by have z':oC.data=.cell v:=z;rw[hd] at z';cases z'⟩
 refine thn (tH (pos:=pos') hN hi' hx hf _ s' σ _ (.ref D) (.ref D) _ I4 rfl (fin D hD)) λ _ s5 hq38=>?_;obtain⟨σ5,H5,I5,q5⟩:=hq38;have pC:=I5.pin (C,oC) (List.mem_append_right _ (List.mem_append_right _ (List.mem_singleton.mpr rfl)));obtain⟨o,es,ep,e1,e2,e3⟩:=hns;rw[hoC] at e1;cases e1;refine⟨m,⟨oC,es,ep,pC.1,e2,e3⟩,λ h' sb=>?_⟩;have I6:Inv X pins σ5 H5 {s5 with heap:=h'}:=(I5.iP).turned (t':=s5.toks) (λ b o hb e=>sb.extBut b o hb e) pC.2.1 z2 (.inr z1) z3 z4;exact wpAny_pure (wpAny_pure ⟨σ5,H5,I6,q5⟩)
end
end L2
namespace D
open L2
abbrev St:=L2.St
structure Kp(H H':Hp):Prop where
 tup:∀ b xs,H b=some (.tup xs)->H' b=some (.tup xs)
 frz:∀ b o u,H b=some (.frz o u)->H' b=some (.frz o u)
theorem Kp.refl(H:Hp):Kp H H:=⟨λ _ _ e=>e,λ _ _ _ e=>e⟩
theorem Kp.trans{H H1 H2:Hp}(a:Kp H H1)(b:Kp H1 H2):Kp H H2:=⟨λ c xs e=>b.tup c xs (a.tup c xs e),λ c o u e=>b.frz c o u (a.frz c o u e)⟩
theorem Kp.new{H:Hp}{p:Addr}{o:HO}(h:H p=none):Kp H (upd H p o):=⟨λ b xs e=>by rw[aj (aV e h)];exact e,λ b ob u e=>by rw[aj (aV e h)];exact e⟩
theorem Kp.set{H:Hp}{p:Addr}{o u:HO}(h:H p=some u)(ht:∀ xs,u ≠ .tup xs)(hf:∀ ob v,u ≠ .frz ob v):Kp H (upd H p o):=
 ⟨λ b xs e=>by rw[aj (vI e h λ z=>ht _ z.symm)];exact e,λ b ob v e=>by rw[aj (vI e h λ z=>hf _ _ z.symm)];exact e⟩
def SqF(K:PySem.W.Frag)(H:Hp)(a:Addr)(xs:List V):Prop:=
 (∃ o,H a=some (.frz o (.lst xs)))\/∃ (o:Obj) (its:Array Value) (n:Nat),K.lookup a=some o/\o.cls=.type "list" /\ o.dict=none/\o.data=.seq its n/\its.size<=sizeLine/\Vals xs its.toList
theorem SqF.sq{K:PySem.W.Frag}{H:Hp}{a:Addr}{xs:List V}(h:SqF K H a xs):SqL K H a xs:=by
 rcases h with h | h
 ·exact .inl (.inr h)
 ·exact .inr h
theorem SqF.keep{K:PySem.W.Frag}{H H':Hp}{a:Addr}{xs:List V}(k:Kp H H')(h:SqF K H a xs):SqF K H' a xs:=by
 rcases h with ⟨o,h⟩ | h
 ·exact .inl ⟨o,k.frz _ _ _ h⟩
 ·exact .inr h
theorem SqT.keep{K:PySem.W.Frag}{H H':Hp}{a:Addr}{xs:List V}(k:Kp H H')(h:SqT K H a xs):SqT K H' a xs:=by
 rcases h with (h | ⟨o,h⟩) | h
 ·exact .inl (.inl (k.tup _ _ h))
 ·exact .inl (.inr ⟨o,k.frz _ _ _ h⟩)
 ·exact .inr h
def sE:Key->PyData
 | .inl i=>.int i
 | .inr x=>.str x
mutual
def aA(K:PySem.W.Frag)(H:Hp):PyData->V->Prop
 | .none,v=>v=.non
 | .bool b,v=>v=.bl b
 | .int i,v=>v=.int i
 | .str x,v=>v=.str x
 | .list ds,v=>∃ a vs,v=.ref a/\SqF K H a vs/\bf K H ds vs
 | .tuple ds,v=>∃ a vs,v=.ref a/\SqT K H a vs/\bf K H ds vs
 | .dict kvs,v=>∃ a o l,v=.ref a/\H a=some (.frz o (.dK l))/\jL K H kvs l
def bf(K:PySem.W.Frag)(H:Hp):List PyData->List V->Prop
 | [],vs=>vs=[]
 | d::ds,vs=>∃ v r,vs=v::r/\aA K H d v/\bf K H ds r
def jL(K:PySem.W.Frag)(H:Hp):List (PyData×PyData)->List (Key×V)->Prop
 | [],l=>l=[]
 | (k,d)::ds,l=>∃ key v r,l=(key,v)::r/\k=sE key/\aA K H d v/\jL K H ds r
end
mutual
theorem aA.keep{K:PySem.W.Frag}{H H':Hp}(k:Kp H H'):∀ {d:PyData} {v:V},aA K H d v->aA K H' d v
 | .none,v,h=>by simp only[aA] at h ⊢;exact h
 | .bool b,v,h=>by simp only[aA] at h ⊢;exact h
 | .int i,v,h=>by simp only[aA] at h ⊢;exact h
 | .str x,v,h=>by simp only[aA] at h ⊢;exact h
 | .list ds,v,h=>by simp only[aA] at h ⊢;obtain⟨a,vs,e,s,r⟩:=h;exact⟨a,vs,e,s.keep k,bf.keep k r⟩
 | .tuple ds,v,h=>by simp only[aA] at h ⊢;obtain⟨a,vs,e,s,r⟩:=h;exact⟨a,vs,e,SqT.keep k s,bf.keep k r⟩
 | .dict kvs,v,h=>by simp only[aA] at h ⊢;obtain⟨a,o,l,e,s,r⟩:=h;exact⟨a,o,l,e,k.frz _ _ _ s,jL.keep k r⟩
theorem bf.keep{K:PySem.W.Frag}{H H':Hp}(k:Kp H H'):∀ {ds:List PyData} {vs:List V},bf K H ds vs->bf K H' ds vs
 | [],vs,h=>by simp only[bf] at h ⊢;exact h
 | d::ds,vs,h=>by simp only[bf] at h ⊢;obtain⟨v,r,e,h1,h2⟩:=h;exact⟨v,r,e,aA.keep k h1,bf.keep k h2⟩
theorem jL.keep{K:PySem.W.Frag}{H H':Hp}(k:Kp H H'):∀ {ds:List (PyData×PyData)} {l:List (Key×V)},jL K H ds l->jL K H' ds l
 | [],l,h=>by simp only[jL] at h ⊢;exact h
 | (key,d)::ds,l,h=>by simp only[jL] at h ⊢;obtain⟨k',v,r,e,ek,h1,h2⟩:=h;exact⟨k',v,r,e,ek,aA.keep k h1,jL.keep k h2⟩
end
theorem bf.length{K:PySem.W.Frag}{H:Hp}:∀ {ds:List PyData} {vs:List V},bf K H ds vs->vs.length=ds.length
 | [],vs,h=>by simp only[bf] at h;rw[h];rfl
 | d::ds,vs,h=>by simp only[bf] at h;obtain⟨v,r,e,_,h2⟩:=h;rw[e,List.length_cons,List.length_cons,bf.length h2]
theorem bf.get{K:PySem.W.Frag}{H:Hp}:∀ {ds:List PyData} {vs:List V} {i:Nat} {d:PyData},bf K H ds vs->ds[i]? =some d->∃ v,vs[i]? =some v/\aA K H d v
 | [],_,_,_,_,e=>by simp at e
 | d::ds,vs,0,d',h,e=>by simp only[bf] at h;obtain⟨v,r,ev,h1,_⟩:=h;simp at e;subst e;exact⟨v,by rw[ev];rfl,h1⟩
 | d::ds,vs,i+1,d',h,e=>by simp only[bf] at h;obtain⟨v,r,ev,_,h2⟩:=h;obtain⟨v',e1,e2⟩:=bf.get (i:=i) h2 (by simpa using e);exact⟨v',by rw[ev];simpa using e1,e2⟩
theorem bf.get'{K:PySem.W.Frag}{H:Hp}{ds:List PyData}{vs:List V}{i:Nat}{v:V}(h:bf K H ds vs)(e:vs[i]? =some v):∃ d,ds[i]? =some d/\aA K H d v:=by
 have hi:i<ds.length:=by have:=(List.getElem?_eq_some_iff.mp e).1;rw[h.length] at this;exact this
 obtain⟨v',e1,r⟩:=h.get (i:=i) (d:=ds[i]) (by simp[hi]);rw[e] at e1;cases e1;exact⟨ds[i],by simp[hi],r⟩
theorem bf.ints{K:PySem.W.Frag}{H:Hp}:∀ (ns:List Int),bf K H (ns.map PyData.int) (ns.map V.int)
 | []=>by simp[bf]
 | n::ns=>by simp only[List.map_cons,bf];exact⟨_,_,rfl,by simp[aA],bf.ints ns⟩
theorem bf.append{K:PySem.W.Frag}{H:Hp}:∀ {ds es:List PyData} {vs us:List V},bf K H ds vs->bf K H es us->bf K H (ds++es) (vs++us)
 | [],es,vs,us,h,q=>by simp only[bf] at h;subst h;exact q
 | d::ds,es,vs,us,h,q=>by simp only[bf] at h;obtain⟨v,r,e,h1,h2⟩:=h;subst e;simp only[List.cons_append,bf];exact⟨v,r++us,rfl,h1,bf.append h2 q⟩
theorem bf.drop{K:PySem.W.Frag}{H:Hp}:∀ {ds:List PyData} {vs:List V} (n:Nat),bf K H ds vs->bf K H (ds.drop n) (vs.drop n)
 | ds,vs,0,h=>by simpa using h
 | [],vs,n+1,h=>by simp only[bf] at h;subst h;simp[bf]
 | d::ds,vs,n+1,h=>by
  simp only[bf] at h;obtain⟨v,r,e,_,h2⟩:=h;subst e
  simpa using bf.drop n h2
theorem bf.take{K:PySem.W.Frag}{H:Hp}:∀ {ds:List PyData} {vs:List V} (n:Nat),bf K H ds vs->bf K H (ds.take n) (vs.take n)
 | ds,vs,0,h=>by simp[bf]
 | [],vs,n+1,h=>by simp only[bf] at h;subst h;simp[bf]
 | d::ds,vs,n+1,h=>by simp only[bf] at h;obtain⟨v,r,e,h1,h2⟩:=h;subst e;simp only[List.take_succ_cons,bf];exact⟨v,_,rfl,h1,bf.take n h2⟩
inductive W where
 | d (x:PyData)
 | m (a:Addr)
 | t (n:String)
inductive MO where
 | lst (ws:List W)
 | dic (kvs:List (Key×W))
 | dct (kvs:List (List Key×W))
 | fdic (kvs:List (Key×W))
 | ins (C:Addr) (fs:List (Str×W))
 | tup (ws:List W)
 | flst (ws:List W)
 | exc (C:Addr) (fs:List (Str×W))
 | code (q:Str) (pos:Pos)
abbrev MH:=Addr->Option MO
def aE(M:MH)(a:Addr)(o:MO):MH:=λ b=>if b=a then some o else M b
theorem ab{M:MH}{a:Addr}{o:MO}:aE M a o a=some o:=if_pos rfl
theorem ae{M:MH}{a b:Addr}{o:MO}(h:b≠a):aE M a o b=M b:=if_neg h
theorem iX{M:MH}{a:Addr}{o u:MO}:aE (aE M a o) a u=aE M a u:=by funext b;unfold aE;split<;>rfl
abbrev DS:=List (Option W)
def aD(K:PySem.W.Frag)(H:Hp):W->V->Prop
 | .d x,v=>aA K H x v
 | .m a,v=>v=.ref a
 | .t n,v=>v=.ty n
theorem aD.keep{K:PySem.W.Frag}{H H':Hp}(k:Kp H H'):∀ {w:W} {v:V},aD K H w v->aD K H' w v
 | .d _,_,h=>aA.keep k h
 | .m _,_,h=>h
 | .t _,_,h=>h
def aN(K:PySem.W.Frag)(H:Hp):List W->List V->Prop:=Paired (aD K H)
theorem aN.keep{K:PySem.W.Frag}{H H':Hp}(k:Kp H H'){ws:List W}{vs:List V}(h:aN K H ws vs):aN K H' ws vs:=Paired.gH h λ _ _ r=>r.keep k
theorem aN.length{K:PySem.W.Frag}{H:Hp}{ws:List W}{vs:List V}(h:aN K H ws vs):ws.length=vs.length:=Paired.length h
theorem aN.get{K:PySem.W.Frag}{H:Hp}:∀ {ws:List W} {vs:List V} {i:Nat} {w:W},aN K H ws vs->ws[i]? =some w->∃ v,vs[i]? =some v/\aD K H w v
 | _,_,_,_,.nil,e=>by simp at e
 | _,_,0,_,.cons r _,e=>by simp at e;subst e;exact⟨_,rfl,r⟩
 | _,_,i+1,_,.cons _ t,e=>by obtain⟨u,h1,h2⟩:=aN.get (i:=i) t (by simpa using e);exact⟨u,by simpa using h1,h2⟩
theorem aN.set{K:PySem.W.Frag}{H:Hp}{w:W}{v:V}(r:aD K H w v):∀ {ws:List W} {vs:List V} (i:Nat),aN K H ws vs->aN K H (ws.set i w) (vs.set i v)
 | _,_,_,.nil=>.nil
 | _,_,0,.cons _ t=>.cons r t
 | _,_,i+1,.cons q t=>.cons q (aN.set r i t)
theorem aN.append{K:PySem.W.Frag}{H:Hp}:∀ {ws ws':List W} {vs vs':List V},aN K H ws vs->aN K H ws' vs'->aN K H (ws++ws') (vs++vs')
 | _,_,_,_,.nil,s=>s
 | _,_,_,_,.cons r t,s=>.cons r (aN.append t s)
theorem aN.data{K:PySem.W.Frag}{H:Hp}:∀ {ds:List PyData} {vs:List V},aN K H (ds.map W.d) vs->bf K H ds vs
 | [],_,h=>by cases h;simp[bf]
 | d::ds,_,h=>by
  cases h with
  | cons r t=>simp only[bf];exact⟨_,_,rfl,r,aN.data t⟩
theorem bf.ws{K:PySem.W.Frag}{H:Hp}:∀ {ds:List PyData} {vs:List V},bf K H ds vs->aN K H (ds.map W.d) vs
 | [],vs,h=>by simp only[bf] at h;subst h;exact .nil
 | d::ds,vs,h=>by simp only[bf] at h;obtain⟨v,r,e,h1,h2⟩:=h;subst e;exact .cons h1 (bf.ws h2)
def adn(K:PySem.W.Frag)(H:Hp)(a:Addr):MO->Prop
 | .lst ws=>∃ vs,H a=some (.lst vs)/\aN K H ws vs
 | .dic kvs=>∃ l,H a=some (.dK l)/\Paired (λ(p:Key×W) (q:Key×V)=>p.1=q.1/\aD K H p.2 q.2) kvs l
 | .fdic kvs=>∃ o l,H a=some (.frz o (.frz o (.dK l)))/\Paired (λ(p:Key×W) (q:Key×V)=>p.1=q.1/\aD K H p.2 q.2) kvs l
 | .dct kvs=>∃ l,H a=some (.dT l)/\Paired (λ(p:List Key×W) (q:List Key×V)=>p.1=q.1/\aD K H p.2 q.2) kvs l
 | .ins C fs=>∃ dx l,H a=some (.ins C dx l)/\Paired (λ(p:Str×W) (q:Str×V)=>p.1=q.1/\aD K H p.2 q.2) fs l
 | .tup ws=>∃ vs,H a=some (.tup vs)/\aN K H ws vs
 | .flst ws=>∃ o vs,H a=some (.frz o (.frz o (.lst vs)))/\aN K H ws vs
 | .exc C fs=>∃ φ dct,H a=some (.ext φ)/\(∀ h,φ h->∃ vs,h.get? a=some {cls:=.ref C,dict:=dct,data:=.fields vs}) /\
   ((dct=none/\fs=[])\/∃ dx o l,dct=some dx/\H dx=some (.frz o (.xd l))/\Paired (λ(p:Str×W) (q:Str×V)=>p.1=q.1/\aD K H p.2 q.2) fs l)
 | .code q pos=>∃ ps,H a=some (.tbl ps)/\TriplesOk ps.toList/\(codeAmong pos ps.toList=none\/∃ c o vs t,codeAmong pos ps.toList=some (.ref c)/\H c=some (.frz o (.own 0))/\o.data=.fields vs/\vs[1]? =some (.str q t))
def cK(K:PySem.W.Frag)(H:Hp)(M:MH):Prop:=∀ a o,M a=some o->adn K H a o
theorem adn.is{K:PySem.W.Frag}{H:Hp}{a:Addr}{o:MO}(h:adn K H a o):∃ u,H a=some u:=by
 cases o with
 | lst ws=>obtain⟨vs,e,_⟩:=h;exact⟨_,e⟩
 | dic kvs=>obtain⟨l,e,_⟩:=h;exact⟨_,e⟩
 | dct kvs=>obtain⟨l,e,_⟩:=h;exact⟨_,e⟩
 | fdic kvs=>obtain⟨o,l,e,_⟩:=h;exact⟨_,e⟩
 | ins C fs=>obtain⟨dx,l,e,_⟩:=h;exact⟨_,e⟩
 | tup ws=>obtain⟨vs,e,_⟩:=h;exact⟨_,e⟩
 | flst ws=>obtain⟨o,vs,e,_⟩:=h;exact⟨_,e⟩
 | exc C fs=>obtain⟨φ,dct,e,_⟩:=h;exact⟨_,e⟩
 | code q pos=>obtain⟨ps,e,_⟩:=h;exact⟨_,e⟩
theorem cK.free{K:PySem.W.Frag}{H:Hp}{M:MH}(h:cK K H M){p:Addr}(e:H p=none):M p=none:=by
 cases q:M p with
 | none=>rfl
 | some o =>
  obtain⟨u,z⟩:=(h p o q).is;rw[e] at z;cases z
theorem adn.keep{K:PySem.W.Frag}{H H':Hp}{a:Addr}{o:MO}(k:Kp H H')(s:∀ u,H a=some u->H' a=some u)(h:adn K H a o):adn K H' a o:=by
 cases o with
 | lst ws=>obtain⟨vs,e,r⟩:=h;exact⟨vs,s _ e,r.keep k⟩
 | dic kvs=>obtain⟨l,e,r⟩:=h;exact⟨l,s _ e,Paired.gH r λ p q z=>⟨z.1,z.2.keep k⟩⟩
 | dct kvs=>obtain⟨l,e,r⟩:=h;exact⟨l,s _ e,Paired.gH r λ p q z=>⟨z.1,z.2.keep k⟩⟩
 | fdic kvs=>obtain⟨o,l,e,r⟩:=h;exact⟨o,l,s _ e,Paired.gH r λ p q z=>⟨z.1,z.2.keep k⟩⟩
 | ins C fs=>obtain⟨dx,l,e,r⟩:=h;exact⟨dx,l,s _ e,Paired.gH r λ p q z=>⟨z.1,z.2.keep k⟩⟩
 | tup ws=>obtain⟨vs,e,r⟩:=h;exact⟨vs,s _ e,r.keep k⟩
 | flst ws=>obtain⟨o,vs,e,r⟩:=h;exact⟨o,vs,s _ e,r.keep k⟩
 | exc C fs =>
  obtain⟨φ,dct,e,p,r⟩:=h;refine⟨φ,dct,s _ e,p,?_⟩;rcases r with r | ⟨dx,o,l,e1,e2,r⟩
  ·exact .inl r
  ·exact .inr ⟨dx,o,l,e1,k.frz _ _ _ e2,Paired.gH r λ p q z=>⟨z.1,z.2.keep k⟩⟩
 | code q pos =>
  obtain⟨ps,e,ht,hc⟩:=h;refine⟨ps,s _ e,ht,?_⟩;rcases hc with hc | ⟨c,o,vs,t,e1,e2,e3⟩
  ·exact .inl hc
  ·exact .inr ⟨c,o,vs,t,e1,k.frz _ _ _ e2,e3⟩
theorem cK.new{K:PySem.W.Frag}{H:Hp}{M:MH}{p:Addr}{o:HO}(h:cK K H M)(e:H p=none):cK K (upd H p o) M:=λ a mo q =>
 (h a mo q).keep (Kp.new e) λ u z=>by rw[aj (aV z e)];exact z
theorem cK.put{K:PySem.W.Frag}{H:Hp}{M:MH}{p:Addr}{o:HO}{mo:MO}(h:cK K H M)(k:Kp H (upd H p o))(r:adn K (upd H p o) p mo):cK K (upd H p o) (aE M p mo):=λ a mo' q=>by
 by_cases e:a=p
 ·subst e;rw[ab] at q;cases q;exact r
 ·rw[ae e] at q;exact(h a mo' q).keep k λ u z=>by rw[aj e];exact z
structure Abs(K:PySem.W.Frag)(H:Hp)(σ:St)(τ:DS)(M:MH):Prop where
 len:σ.length=τ.length
 val:∀ (i:Nat) w,τ[i]? =some (some w)->∃ v,σ[i]? =some (some v)/\aD K H w v
 mem:cK K H M
theorem Abs.go{K:PySem.W.Frag}{H H':Hp}{σ:St}{τ:DS}{M M':MH}(h:Abs K H σ τ M)(k:Kp H H')(m:cK K H' M'):Abs K H' σ τ M':=
 ⟨h.len,λ i w e=>let ⟨v,q,r⟩:=h.val i w e; ⟨v,q,r.keep k⟩,m⟩
theorem Abs.set{K:PySem.W.Frag}{H:Hp}{σ:St}{τ:DS}{M:MH}{w:W}{v:V}(h:Abs K H σ τ M)(i:Nat)(r:aD K H w v):Abs K H (σ.set i (some v)) (τ.set i (some w)) M:=by
 refine⟨by rw[List.length_set,List.length_set];exact h.len,λ j w' e=>?_,h.mem⟩
 by_cases hj:i=j
 ·subst hj;have hl:i<τ.length:=by
   have:=(List.getElem?_eq_some_iff.mp e).1
   rwa[List.length_set] at this
  rw[List.getElem?_set_self hl] at e;cases e;exact⟨v,List.getElem?_set_self (by rw[h.len];exact hl),r⟩
 ·rw[List.getElem?_set_ne hj] at e;obtain⟨v',q,r'⟩:=h.val j w' e;exact⟨v',by rw[List.getElem?_set_ne hj];exact q,r'⟩
abbrev QD:=W->MH->Prop
abbrev TD:=DS->MH->QD->Prop
abbrev TTd:=DS->MH->(Bool->MH->Prop)->Prop
abbrev TAd:=DS->MH->(List W->MH->Prop)->Prop
structure Ed where
 nx:DS->MH->Prop
 rt:QD
 bk:DS->MH->Prop:=λ _ _=>False
 ct:DS->MH->Prop:=λ _ _=>False
abbrev TSd:=Ed->DS->MH->Prop
def up(K:PySem.W.Frag)(t:TD):TE:=λ σ H Q=>∃ τ M Qd,Abs K H σ τ M/\t τ M Qd/\∀ v H' w M',Kp H H'->aD K H' w v->cK K H' M'->Qd w M'->Q v H'
def upT(K:PySem.W.Frag)(t:TTd):TT:=λ σ H Q=>∃ τ M Qd,Abs K H σ τ M/\t τ M Qd/\∀ b H' M',Kp H H'->cK K H' M'->Qd b M'->Q b H'
def upA(K:PySem.W.Frag)(t:TAd):TA:=λ σ H Q=>∃ τ M Qd,Abs K H σ τ M/\t τ M Qd/\∀ vs H' ws M',Kp H H'->aN K H' ws vs->cK K H' M'->Qd ws M'->Q vs H'
def upS(K:PySem.W.Frag)(t:TSd):TS:=λ D σ H=>∃ τ M Dd,Abs K H σ τ M/\t Dd τ M /\
 (∀ σ' H' τ' M',Kp H H'->Abs K H' σ' τ' M'->Dd.nx τ' M'->D.nx σ' H')/\(∀ v H' w M',Kp H H'->aD K H' w v->cK K H' M'->Dd.rt w M'->D.rt v H') /\
 (∀ σ' H' τ' M',Kp H H'->Abs K H' σ' τ' M'->Dd.bk τ' M'->D.bk σ' H')/\(∀ σ' H' τ' M',Kp H H'->Abs K H' σ' τ' M'->Dd.ct τ' M'->D.ct σ' H')
section
variable {X:Cx}
abbrev PD(X:Cx)(e:Expr)(t:TD):Prop:=PE X e (up X.K t)
abbrev PTd(X:Cx)(e:Expr)(t:TTd):Prop:=PT X e (upT X.K t)
abbrev PAd(X:Cx)(es:List Expr)(t:TAd):Prop:=PA X es (upA X.K t)
abbrev PSd(X:Cx)(st:Stmt)(t:TSd):Prop:=PS X st (upS X.K t)
abbrev o7(X:Cx)(st:List Stmt)(t:TSd):Prop:=PSs X st (upS X.K t)
theorem eQ{e:Expr}{t t':TE}(h:PE X e t)(k:∀ σ H Q,t' σ H Q->t σ H Q):PE X e t':=λ pins s σ H Q I q=>h pins s σ H Q I (k σ H Q q)
theorem aeq{e:Expr}{t t':TT}(h:PT X e t)(k:∀ σ H Q,t' σ H Q->t σ H Q):PT X e t':=λ pins s σ H Q I q=>h pins s σ H Q I (k σ H Q q)
theorem aiA{es:List Expr}{t t':TA}(h:PA X es t)(k:∀ σ H Q,t' σ H Q->t σ H Q):PA X es t':=λ pos pins s σ H Q I q=>h pos pins s σ H Q I (k σ H Q q)
theorem qb{st:Stmt}{t t':TS}(h:PS X st t)(k:∀ D σ H,t' D σ H->t D σ H):PS X st t':=λ pins s σ H D I q=>h pins s σ H D I (k D σ H q)
theorem aeQ{st:List Stmt}{t t':TS}(h:PSs X st t)(k:∀ D σ H,t' D σ H->t D σ H):PSs X st t':=λ pins s σ H D I q=>h pins s σ H D I (k D σ H q)
end
end D
namespace D
open L2
section
variable {X:Cx}{pos:Pos}{a b c e:Expr}{ta tb tc te:TD}{K:PySem.W.Frag}
abbrev Kont(K:PySem.W.Frag)(H:Hp)(Qd:QD)(Q:VK):Prop:=∀ v H' w M',Kp H H'->aD K H' w v->cK K H' M'->Qd w M'->Q v H'
theorem kgo{H H1:Hp}{Qd:QD}{Q:VK}(k:Kont K H Qd Q)(kp:Kp H H1):Kont K H1 Qd Q:=λ v H' w M' k2 r m q=>k v H' w M' (kp.trans k2) r m q
inductive aio(i:Nat) (τ:DS) (M:MH) (Q:QD):Prop
 | mk (w:W) (z:τ[i]? =some (some w)) (q:Q w M):aio i τ M Q
def ai(i:Nat)(τ:DS)(M:MH)(Q:QD):Prop:=aio i τ M Q
theorem aeJ{i:Nat}(h:PE X e (aiG i)):PD X e (ai i):=eQ h λ σ H Q hq39=>by obtain⟨τ,M,Qd,A,⟨w,e,q⟩,k⟩:=hq39;obtain⟨v,e',r⟩:=A.val i w e;exact⟨v,e',k v H w M (Kp.refl H) r A.mem q⟩
theorem dv(i:Nat){x:Str}{pos:Pos}(hN:X.N[i]? =some x:=by rfl)(hv:Vis X.env.scope x:=by first | exact Or.inl rfl | exact Or.inr (Or.inl rfl) | exact Or.inr (Or.inr rfl))(hd:(x==("__debug__" : Str))=false:=by decide)
  (hcd:(x==("__classdict__" : Str))=false:=by decide):PD X (.Name x pos) (ai i):=aeJ (afZ hN hv hd hcd)
def dC(w:W)(_:DS)(M:MH)(Q:QD):Prop:=Q w M
theorem aeu{v:V}{w:W}(h:PE X e (tC v))(r:∀ H,aD X.K H w v):PD X e (dC w):=eQ h λ σ H Q ⟨τ,M,Qd,A,q,k⟩=>k v H w M (Kp.refl H) (r H) A.mem q
theorem ag{i j pos}:PD X (.Constant (.int i) j pos) (dC (.d (.int i))):=aeu agE λ H=>by simp[aD,aA]
theorem rB{b j pos}:PD X (.Constant (.bool b) j pos) (dC (.d (.bool b))):=aeu ah2 λ H=>by simp[aD,aA]
theorem de{j pos}:PD X (.Constant .none j pos) (dC (.d .none)):=aeu acg λ H=>by simp[aD,aA]
theorem aR{x j pos}:PD X (.Constant (.str x) j pos) (dC (.d (.str x))):=aeu aeR λ H=>by simp[aD,aA]
theorem g9{x:Str}{i:Int}{t:Tok}{pos:Pos}(hg:Gl X x)(hm:X.mg x=some (.int i t))(hd:(x==("__debug__" : Str))=false:=by decide):PD X (.Name x pos) (dC (.d (.int i))):=aeu (acM (v:=.int i) hg hm ⟨t,rfl⟩ hd) λ H=>by simp[aD,aA]
theorem gW{x:Str}{n:String}{pos:Pos}(hg:Gl X x)(hm:X.mg x=none)(hv:bootBuiltins x=some (.type n))(hn:x ≠ "__name__":= by decide)(hd:(x==("__debug__" : Str))=false:=by decide):PD X (.Name x pos) (dC (.t n)):=
 aeu (acr (v:=.ty n) hg hm hv rfl hn hd) λ H=>by simp[aD]
def OpD(K:PySem.W.Frag)(r:R2)(rd:W->W->MH->QD->Prop):Prop:=∀ x y H w w' M Qd Q,aD K H w x->aD K H w' y->cK K H M->rd w w' M Qd->Kont K H Qd Q->r x y H Q
def dOp(rd:W->W->MH->QD->Prop)(ta tb:TD)(τ:DS)(M:MH)(Q:QD):Prop:=ta τ M λ w M1=>tb τ M1 λ w' M2=>rd w w' M2 Q
theorem uq{r:R2}{rd:W->W->MH->QD->Prop}(hd:OpD K r rd){σ:St}{H:Hp}{Q:VK}(h:up K (dOp rd ta tb) σ H Q):tOp r (up K ta) (up K tb) σ H Q:=by obtain⟨τ,M,Qd,A,h,k⟩:=h;refine⟨τ,M,_,A,h,λ x H1 w M1 kp r1 m1 q1=>⟨τ,M1,_,A.go kp m1,q1,λ y H2 w' M2 kp2 r2 m2 q2=>?_⟩⟩;exact hd x y H2 w w' M2 Qd Q (r1.keep kp2) r2 m2 q2 (kgo k (kp.trans kp2))
theorem aS{op:Operator}{r:R2}{rd:W->W->MH->QD->Prop}(ho:OpR X (binaryOp op) r)(hd:OpD X.K r rd)(ha:PD X a ta)(hb:PD X b tb):PD X (.BinOp a op b pos) (dOp rd ta tb):=eQ (agv ho ha hb) λ σ H Q h=>uq hd h
theorem ir{op:CmpOp}{r:R2}{rd:W->W->MH->QD->Prop}(ho:OpR X (compareOp op) r)(hd:OpD X.K r rd)(ha:PD X a ta)(hb:PD X b tb)(hm:behindInMarks op b=false:=by first | exact i6 _ (by decide) (by decide) | rfl) :
  PD X (.Compare a [op] [b] pos) (dOp rd ta tb):=eQ (ac9 ho ha hb hm) λ σ H Q h=>uq hd h
theorem a9{r:R2}{rd:W->W->MH->QD->Prop}(hr:IxR X r)(hd:OpD X.K r rd)(ha:PD X a ta)(hb:PD X b tb)(hs:sN b:=by intro _ _;rfl):PD X (.Subscript a b pos) (dOp rd ta tb):=eQ (ahY hr ha hb hs) λ σ H Q h=>uq hd h
def aU(t:TD)(τ:DS)(M:MH)(Q:Bool->MH->Prop):Prop:=t τ M λ w M1=>∃ k,w=.d (.bool k)/\Q k M1
theorem ki{t':TE}(hi:∀ σ H Q,up K ta σ H Q->t' σ H Q){σ:St}{H:Hp}{Q:Bool->Hp->Prop}(h:upT K (aU ta) σ H Q):ac3 t' σ H Q:=by obtain⟨τ,M,Qd,A,h,k⟩:=h;refine hi σ H _ ⟨τ,M,_,A,h,λ v H' w M' kp r m hq40=>?_⟩;obtain⟨b,e,q⟩:=hq40;subst e;simp only[aD,aA] at r;exact⟨b,r,k b H' M' kp m q⟩
theorem aI{op:CmpOp}{r:R2}{rd:W->W->MH->QD->Prop}(ho:OpR X (compareOp op) r)(hd:OpD X.K r rd)(ha:PD X a ta)(hb:PD X b tb)(hm:behindInMarks op b=false:=by first | exact i6 _ (by decide) (by decide) | rfl) :
  PTd X (.Compare a [op] [b] pos) (aU (dOp rd ta tb)):=aeq (adW ho ha hb hm) λ σ H Q h=>ki (λ _ _ _ q=>uq hd q) h
theorem dg(h:PD X e te)(he:∀ whole,isTrue e X.env whole=(do let v <- whole;standAt e.pos;holding [v] (truthy v)):=by intro _;rfl):PTd X e (aU te):=aeq (aeK h he) λ σ H Q q=>ki (λ _ _ _ z=>z) q
def jE(r r':W->W->MH->QD->Prop)(ta tb tc:TD)(τ:DS)(M:MH)(Q:QD):Prop:=ta τ M λ x M1=>tb τ M1 λ y M2=>r x y M2 λ z M3=>∃ k,z=.d (.bool k)/\(if k=true then tc τ M3 λ w' M4=>r' y w' M4 Q else Q (.d (.bool false)) M3)
theorem rW{r r':R2}{rd rd':W->W->MH->QD->Prop}(hd:OpD K r rd)(hd':OpD K r' rd'){σ:St}{H:Hp}{Q:VK}(h:up K (jE rd rd' ta tb tc) σ H Q):zh r r' (up K ta) (up K tb) (up K tc) σ H Q:=by
 obtain⟨τ,M,Qd,A,h,k⟩:=h;refine⟨τ,M,_,A,h,λ x H1 w M1 kp r1 m1 q1=>⟨τ,M1,_,A.go kp m1,q1,λ y H2 w' M2 kp2 r2 m2 q2=>?_⟩⟩;have kq:=kp.trans kp2;refine hd x y H2 w w' M2 _ _ (r1.keep kp2) r2 m2 q2 λ v H3 w'' M3 kp3 r3 m3 hq41=>?_;obtain⟨b,e,q3⟩:=hq41;subst e;simp only[aD,aA] at r3;refine⟨b,r3,?_⟩;have kr:=kq.trans kp3;cases b with
 | false =>
  rw[if_neg Bool.false_ne_true] at q3 ⊢;exact k _ H3 _ M3 kr (by simp[aD,aA]) m3 q3
 | true =>
  rw[if_pos rfl] at q3 ⊢;exact⟨τ,M3,_,A.go kr m3,q3,λ u H4 w4 M4 kp4 r4 m4 q4=>hd' y u H4 w' w4 M4 Qd Q (r2.keep (kp3.trans kp4)) r4 m4 q4 (kgo k (kr.trans kp4))⟩
theorem kA{op op':CmpOp}{r r':R2}{rd rd':W->W->MH->QD->Prop}(ho:OpR X (compareOp op) r)(hd:OpD X.K r rd)(ho':OpR X (compareOp op') r')(hd':OpD X.K r' rd')(ha:PD X a ta)(hb:PD X b tb)(hc:PD X c tc)
  (hm:lastMarks [op,op'] [b,c]=false:=by with_unfolding_all rfl):PD X (.Compare a [op,op'] [b,c] pos) (jE rd rd' ta tb tc):=eQ (aaY ho ho' ha hb hc hm) λ σ H Q h=>rW hd hd' h
theorem kS{op op':CmpOp}{r r':R2}{rd rd':W->W->MH->QD->Prop}(ho:OpR X (compareOp op) r)(hd:OpD X.K r rd)(ho':OpR X (compareOp op') r')(hd':OpD X.K r' rd')(ha:PD X a ta)(hb:PD X b tb)(hc:PD X c tc)
  (hm:lastMarks [op,op'] [b,c]=false:=by with_unfolding_all rfl):PTd X (.Compare a [op,op'] [b,c] pos) (aU (jE rd rd' ta tb tc)):=aeq (aaO ho ho' ha hb hc hm) λ σ H Q h=>ki (λ _ _ _ q=>rW hd hd' q) h
def UnD(K:PySem.W.Frag)(r:V->Hp->VK->Prop)(rd:W->MH->QD->Prop):Prop:=∀ x H w M Qd Q,aD K H w x->cK K H M->rd w M Qd->Kont K H Qd Q->r x H Q
def dUn(rd:W->MH->QD->Prop)(ta:TD)(τ:DS)(M:MH)(Q:QD):Prop:=ta τ M λ w M1=>rd w M1 Q
theorem zZ{op:UnaryOp}{r:V->Hp->VK->Prop}{rd:W->MH->QD->Prop}(ho:UnR X (unaryOp op) r)(hd:UnD X.K r rd)(ha:PD X a ta):PD X (.UnaryOp op a pos) (dUn rd ta):=eQ (ahF ho ha) λ σ H Q h=>by obtain⟨τ,M,Qd,A,h,k⟩:=h;exact⟨τ,M,_,A,h,λ x H1 w M1 kp r1 m1 q1=>hd x H1 w M1 Qd Q r1 m1 q1 (kgo k kp)⟩
variable {tA tB:TTd}{rest:List Expr}
def ad4(t u:TTd)(τ:DS)(M:MH)(Q:Bool->MH->Prop):Prop:=t τ M λ k M1=>if k=true then u τ M1 Q else Q false M1
def dOr(t u:TTd)(τ:DS)(M:MH)(Q:Bool->MH->Prop):Prop:=t τ M λ k M1=>if k=true then Q true M1 else u τ M1 Q
def wD(t:TTd)(τ:DS)(M:MH)(Q:Bool->MH->Prop):Prop:=t τ M λ k M1=>Q (!k) M1
abbrev PWd(X:Cx)(e:Expr)(t:TTd):Prop:=PW X e (upT X.K t)
theorem pw_w{e:Expr}{t t':TT}(h:PW X e t)(k:∀ σ H Q,t' σ H Q->t σ H Q):PW X e t':=λ w pins s σ H Q I q=>h w pins s σ H Q I (k σ H Q q)
theorem fM(ha:PTd X a tA):PWd X (.BoolOp .And [a] pos) tA:=pw_and1 ha
theorem fL(ha:PTd X a tA):PWd X (.BoolOp .Or [a] pos) tA:=pw_or1 ha
theorem iF(ha:PTd X a tA)(hb:PWd X (.BoolOp .And (b::rest) pos) tB):PWd X (.BoolOp .And (a::b::rest) pos) (ad4 tA tB):=pw_w (pw_and ha hb) λ σ H Q h=>by
 obtain⟨τ,M,Qd,A,h,k⟩:=h;refine⟨τ,M,_,A,h,λ b H1 M1 kp m1 q1=>?_⟩;cases b with
 | true=>rw[if_pos rfl] at q1 ⊢;exact⟨τ,M1,Qd,A.go kp m1,q1,λ b H2 M2 kp2 m2 q2=>k b H2 M2 (kp.trans kp2) m2 q2⟩
 | false=>rw[if_neg Bool.false_ne_true] at q1 ⊢;exact k _ H1 M1 kp m1 q1
theorem iq(ha:PTd X a tA)(hb:PWd X (.BoolOp .Or (b::rest) pos) tB):PWd X (.BoolOp .Or (a::b::rest) pos) (dOr tA tB):=pw_w (pw_or ha hb) λ σ H Q h=>by
 obtain⟨τ,M,Qd,A,h,k⟩:=h;refine⟨τ,M,_,A,h,λ b H1 M1 kp m1 q1=>?_⟩;cases b with
 | false=>rw[if_neg Bool.false_ne_true] at q1 ⊢;exact⟨τ,M1,Qd,A.go kp m1,q1,λ b H2 M2 kp2 m2 q2=>k b H2 M2 (kp.trans kp2) m2 q2⟩
 | true=>rw[if_pos rfl] at q1 ⊢;exact k _ H1 M1 kp m1 q1
theorem iV(h:PWd X e tA):PTd X e tA:=h.pt
theorem dQ(ha:PTd X a tA):PTd X (.UnaryOp .Not a pos) (wD tA):=aeq (aeS ha) λ σ H Q h=>by obtain⟨τ,M,Qd,A,h,k⟩:=h;exact⟨τ,M,_,A,h,λ b H1 M1 kp m1 q1=>k (!b) H1 M1 kp m1 q1⟩
def si(ta tb:TD)(τ:DS)(M:MH)(Q:QD):Prop:=ta τ M λ x M1=>∃ k,x=.d (.bool k)/\if k=true then tb τ M1 Q else Q (.d (.bool false)) M1
def adI(ta:TD)(τ:DS)(M:MH)(Q:QD):Prop:=ta τ M λ x M1=>∃ k,x=.d (.bool k)/\Q (.d (.bool (!k))) M1
theorem j6{op}(h:PD X a ta):PD X (.BoolOp op [a] pos) ta:=agf h
theorem jY(ha:PD X a ta)(hb:PD X (.BoolOp .And (b::rest) pos) tb):PD X (.BoolOp .And (a::b::rest) pos) (si ta tb):=eQ (agC ha hb) λ σ H Q h=>by
 obtain⟨τ,M,Qd,A,h,k⟩:=h;refine⟨τ,M,_,A,h,λ x H1 w M1 kp r1 m1 hq42=>?_⟩;obtain⟨b,e,q1⟩:=hq42;subst e;simp only[aD,aA] at r1;refine⟨b,r1,?_⟩;cases b with
 | true=>rw[if_pos rfl] at q1 ⊢;exact⟨τ,M1,Qd,A.go kp m1,q1,kgo k kp⟩
 | false=>rw[if_neg Bool.false_ne_true] at q1 ⊢;exact k _ H1 _ M1 kp (by simp[aD,aA]) m1 q1
theorem zA(ha:PD X a ta):PD X (.UnaryOp .Not a pos) (adI ta):=eQ (agD ha) λ σ H Q h=>by obtain⟨τ,M,Qd,A,h,k⟩:=h;refine⟨τ,M,_,A,h,λ x H1 w M1 kp r1 m1 hq43=>?_⟩;obtain⟨b,e,q1⟩:=hq43;subst e;simp only[aD,aA] at r1;exact⟨b,r1,k _ H1 _ M1 kp (by simp[aD,aA]) m1 q1⟩
def agW(t:TTd)(ta tb:TD)(τ:DS)(M:MH)(Q:QD):Prop:=t τ M λ k M1=>if k=true then ta τ M1 Q else tb τ M1 Q
theorem kl{c:Expr}(hc:PTd X c tA)(ha:PD X a ta)(hb:PD X b tb):PD X (.IfExp c a b pos) (agW tA ta tb):=eQ (aa2 hc ha hb) λ σ H Q h=>by
 obtain⟨τ,M,Qd,A,h,k⟩:=h;refine⟨τ,M,_,A,h,λ b H1 M1 kp m1 q1=>?_⟩;cases b with
 | true=>rw[if_pos rfl] at q1 ⊢;exact⟨τ,M1,Qd,A.go kp m1,q1,kgo k kp⟩
 | false=>rw[if_neg Bool.false_ne_true] at q1 ⊢;exact⟨τ,M1,Qd,A.go kp m1,q1,kgo k kp⟩
variable {es:List Expr}{t:TAd}
def aM(_:DS)(M:MH)(Q:List W->MH->Prop):Prop:=Q [] M
def ah(ta:TD)(tr:TAd)(τ:DS)(M:MH)(Q:List W->MH->Prop):Prop:=ta τ M λ w M1=>tr τ M1 λ ws M2=>Q (w::ws) M2
theorem af:PAd X [] aM:=aiA qi λ σ H Q ⟨τ,M,Qd,A,h,k⟩=>k [] H [] M (Kp.refl H) .nil A.mem h
theorem uL(ha:PD X e te)(hr:PAd X es t)(hs:starEach (e::es) X.env=(false,eval e X.env)::starEach es X.env:=by rfl):PAd X (e::es) (ah te t):=aiA (lJ ha hr hs) λ σ H Q h=>by obtain⟨τ,M,Qd,A,h,k⟩:=h;exact⟨τ,M,_,A,h,λ x H1 w M1 kp r1 m1 q1=>⟨τ,M1,_,A.go kp m1,q1,λ xs H2 ws M2 kp2 r2 m2 q2=>k _ H2 _ M2 (kp.trans kp2) (.cons (r1.keep kp2) r2) m2 q2⟩⟩
def pT:List W->Option (List PyData)
 | []=>some []
 | .d x::r=>(pT r).map (x::·)
 | _::_=>none
theorem oM:∀ {ws:List W} {ds:List PyData},pT ws=some ds->ws=ds.map W.d
 | [],ds,h=>by simp only[pT] at h;cases h;rfl
 | .d x::r,ds,h=>by
  simp only[pT] at h;cases q:pT r with
  | none=>rw[q] at h;cases h
  | some l=>rw[q] at h;cases h;rw[oM q];rfl
 | .m _::_,ds,h=>by simp[pT] at h
 | .t _::_,ds,h=>by simp[pT] at h
def wF(t:TAd)(τ:DS)(M:MH)(Q:QD):Prop:=t τ M λ ws M1=>∃ ds,pT ws=some ds/\ds.length<=sizeLine/\Q (.d (.list ds)) M1
theorem acP{H:Hp}{p:Addr}{o:Obj}{vs:List V}{ds:List PyData}(hp:H p=none)(r:bf K H ds vs):aA K (upd H p (.frz o (.lst vs))) (.list ds) (.ref p):=by simp only[aA];exact⟨p,vs,rfl,.inl ⟨o,ar⟩,r.keep (Kp.new hp)⟩
theorem pL{H:Hp}{vs:List V}{ds:List PyData}{M:MH}{Qd:QD}{Q:VK}{p:Addr}(hp:H p=none)(r:bf K H ds vs)(m:cK K H M)(q:Qd (.d (.list ds)) M)(k:Kont K H Qd Q) :
  ∃ p' u,V.ref p=.ref p'/\(upd H p (.lst vs)) p'=some u/\Fz u/\∀ o,Q (.ref p) (upd (upd H p (.lst vs)) p' (.frz o u)):=by
 refine⟨p,_,rfl,ar,trivial,λ o=>?_⟩;rw[aef];exact k _ _ (.d (.list ds)) M (Kp.new hp) (acP hp r) (m.new hp) q
theorem gb(h:PAd X es t):PD X (.List es pos) (wF t):=eQ (uO (acb h)) λ σ H Q h=>by obtain⟨τ,M,Qd,A,h,k⟩:=h;refine⟨τ,M,_,A,h,λ vs H1 ws M1 kp r1 m1 hq44=>?_⟩;obtain⟨ds,e,hz,q1⟩:=hq44;have e':=oM e;subst e';have rA:=r1.data;exact⟨by rw[rA.length];exact hz,λ p hp=>pL hp rA m1 q1 (kgo k kp)⟩
def j9(t:TAd)(τ:DS)(M:MH)(Q:QD):Prop:=t τ M λ ws M1=>ws.length<=sizeLine/\∀ p,M1 p=none->Q (.m p) (aE M1 p (.lst ws))
theorem dR(h:PAd X es t):PD X (.List es pos) (j9 t):=eQ (acb h) λ σ H Q h=>by obtain⟨τ,M,Qd,A,h,k⟩:=h;refine⟨τ,M,_,A,h,λ vs H1 ws M1 kp r1 m1 ⟨hz,q1⟩=>⟨by rw[<- r1.length];exact hz,λ p hp=>?_⟩⟩;exact k _ _ (.m p) (aE M1 p (.lst ws)) (kp.trans (Kp.new hp)) rfl (m1.put (mo:=.lst ws) (Kp.new hp) ⟨vs,ar,r1.keep (Kp.new hp)⟩) (q1 p (m1.free hp))
def wH(t:TAd)(τ:DS)(M:MH)(Q:QD):Prop:=t τ M λ ws M1=>∃ ds,pT ws=some ds/\ds.length<=sizeLine/\Q (.d (.tuple ds)) M1
theorem gg{x1}(h:PAd X es t):PD X (.Tuple es x1 pos) (wH t):=eQ (agB h) λ σ H Q h=>by obtain⟨τ,M,Qd,A,h,k⟩:=h;refine⟨τ,M,_,A,h,λ vs H1 ws M1 kp r1 m1 hq45=>?_⟩;obtain⟨ds,e,hz,q1⟩:=hq45;have e':=oM e;subst e';have rA:=r1.data;refine⟨by rw[rA.length];exact hz,λ p hp=>k _ _ (.d (.tuple ds)) M1 (kp.trans (Kp.new hp)) ?_ (m1.new hp) q1⟩;simp only[aD,aA];exact⟨p,vs,rfl,.inl (.inl ar),rA.keep (Kp.new hp)⟩
variable {x:Str}{p:Pos}{id T:String}{r:List V->Hp->VK->Prop}{rd:List W->MH->QD->Prop}
def hZ(K:PySem.W.Frag)(r:List V->Hp->VK->Prop)(rd:List W->MH->QD->Prop):Prop:=∀ vs H ws M Qd Q,aN K H ws vs->cK K H M->rd ws M Qd->Kont K H Qd Q->r vs H Q
def dCB(rd:List W->MH->QD->Prop)(t:TAd)(τ:DS)(M:MH)(Q:QD):Prop:=t τ M λ ws M1=>rd ws M1 Q
theorem abM(hd:hZ K r rd){σ:St}{H:Hp}{Q:VK}(h:up K (dCB rd t) σ H Q):tCB r (upA K t) σ H Q:=by obtain⟨τ,M,Qd,A,h,k⟩:=h;exact⟨τ,M,_,A,h,λ vs H1 ws M1 kp r1 m1 q1=>hd vs H1 ws M1 Qd Q r1 m1 q1 (kgo k kp)⟩
theorem aaI(hc:fC X (.builtin id) r)(hd:hZ X.K r rd)(hg:Gl X x)(hm:X.mg x=none)(hv:bootBuiltins x=some (.builtin id))(ha:PAd X (e::es) t)(hn:x ≠ "__name__":= by decide)(hdb:(x==("__debug__" : Str))=false:=by decide)
  (he:starEach (e::es) X.env=(false,eval e X.env)::starEach es X.env:=by rfl)(hpl:(backTo pos (starEach es X.env)).any (·.1)=false:=by rfl):PD X (.Call (.Name x p) (e::es) [] pos) (dCB rd t):=
 eQ (pA hc hg hm hv ha hn hdb he hpl) λ σ H Q h=>abM hd h
theorem wL(hc:fC X (.type T) r)(hd:hZ X.K r rd)(hg:Gl X x)(hm:X.mg x=none)(hv:bootBuiltins x=some (.type T))(ha:PAd X (e::es) t)(hn:x ≠ "__name__":= by decide)(hdb:(x==("__debug__" : Str))=false:=by decide)
  (he:starEach (e::es) X.env=(false,eval e X.env)::starEach es X.env:=by rfl)(hpl:(backTo pos (starEach es X.env)).any (·.1)=false:=by rfl):PD X (.Call (.Name x p) (e::es) [] pos) (dCB rd t):=
 eQ (zx hc hg hm hv ha hn hdb he hpl) λ σ H Q h=>abM hd h
end
section
variable {X:Cx}{pos:Pos}{st:Stmt}{sts:List Stmt}{t u:TSd}{e:Expr}{te:TD}{K:PySem.W.Frag}
def cG(D:Ed)(τ:DS)(M:MH):Prop:=D.nx τ M
def aQ(t u:TSd)(D:Ed)(τ:DS)(M:MH):Prop:=t {D with nx:=u D} τ M
theorem aO:o7 X [] cG:=aeQ adX λ D σ H ⟨τ,M,Dd,A,h,k1,_⟩=>k1 σ H τ M (Kp.refl H) A h
theorem aa(h1:PSd X st t)(h2:o7 X sts u):o7 X (st::sts) (aQ t u):=aeQ (zS h1 h2) λ D σ H ⟨τ,M,Dd,A,h,k1,k2,k3,k4⟩ =>
 ⟨τ,M,{Dd with nx:=u Dd},A,h,λ σ' H' τ' M' kp A' q=>⟨τ',M',Dd,A',q,λ σ2 H2 τ2 M2 kp2=>k1 σ2 H2 τ2 M2 (kp.trans kp2),λ v H2 w M2 kp2=>k2 v H2 w M2 (kp.trans kp2),λ σ2 H2 τ2 M2 kp2=>k3 σ2 H2 τ2 M2 (kp.trans kp2),λ σ2 H2 τ2 M2 kp2=>k4 σ2 H2 τ2 M2 (kp.trans kp2)⟩,k2,k3,k4⟩
theorem ao(h1:PSd X st t):o7 X [st] t:=adt h1
def gu(te:TD)(D:Ed)(τ:DS)(M:MH):Prop:=te τ M λ _ M1=>D.nx τ M1
theorem bM(he:PD X e te)(hs:swapsWith e none pos.line X.env=pure false:=by rfl):PSd X (.Expr e pos) (gu te):=qb (ack he hs) λ D σ H ⟨τ,M,Dd,A,h,k1,_⟩ =>
 ⟨τ,M,_,A,h,λ v H1 w M1 kp r m q=>k1 σ H1 τ M1 kp (A.go kp m) q⟩
def eh(te:TD)(D:Ed)(τ:DS)(M:MH):Prop:=te τ M D.rt
theorem aH(he:PD X e te):PSd X (.Return (some e) pos) (eh te):=qb (afw he) λ D σ H ⟨τ,M,Dd,A,h,k1,k2,_⟩=>⟨τ,M,_,A,h,λ v H1 w M1 kp r m q=>k2 v H1 w M1 kp r m q⟩
def dIf(c:TTd)(t u:TSd)(D:Ed)(τ:DS)(M:MH):Prop:=c τ M λ b M1=>if b=true then t D τ M1 else u D τ M1
theorem bO{c:Expr}{a b:List Stmt}{tc:TTd}(hc:PTd X c tc)(ha:o7 X a t)(hb:o7 X b u):PSd X (.If c a b pos) (dIf tc t u):=qb (ahR hc ha hb) λ D σ H hq46=>by
 obtain⟨τ,M,Dd,A,h,k1,k2,k3,k4⟩:=hq46;refine⟨τ,M,_,A,h,λ b H1 M1 kp m q=>?_⟩;have go:∀ {t':TSd},t' Dd τ M1->upS X.K t' D σ H1:=λ {t'} q=>⟨τ,M1,Dd,A.go kp m,q,λ σ2 H2 τ2 M2 kp2=>k1 σ2 H2 τ2 M2 (kp.trans kp2),λ v H2 w M2 kp2=>k2 v H2 w M2 (kp.trans kp2),λ σ2 H2 τ2 M2 kp2=>k3 σ2 H2 τ2 M2 (kp.trans kp2),λ σ2 H2 τ2 M2 kp2=>k4 σ2 H2 τ2 M2 (kp.trans kp2)⟩;cases b with
 | true=>rw[if_pos rfl] at q;show(if true=true then upS X.K t D σ H1 else upS X.K u D σ H1);rw[if_pos rfl];exact go q
 | false=>rw[if_neg Bool.false_ne_true] at q;show(if false=true then upS X.K t D σ H1 else upS X.K u D σ H1);rw[if_neg Bool.false_ne_true];exact go q
abbrev TGd:=W->DS->MH->(DS->MH->Prop)->Prop
def upG(K:PySem.W.Frag)(g:TGd):TG:=λ v σ H Q=>∃ w τ M Qd,aD K H w v/\Abs K H σ τ M/\g w τ M Qd/\∀ σ' H' τ' M',Kp H H'->Abs K H' σ' τ' M'->Qd τ' M'->Q σ' H'
abbrev PGd(X:Cx)(e:Expr)(g:TGd):Prop:=PG X e (upG X.K g)
theorem ahp{e:Expr}{g g':TG}(h:PG X e g)(k:∀ v σ H Q,g' v σ H Q->g v σ H Q):PG X e g':=λ pins s σ H v u Q I r q=>h pins s σ H v u Q I r (k v σ H Q q)
def gN(i:Nat)(w:W)(τ:DS)(M:MH)(Q:DS->MH->Prop):Prop:=Q (τ.set i (some w)) M
theorem av{i:Nat}{x:Str}(hN:X.N.Nodup)(hi:X.N[i]? =some x)(hx:Loc X.env.scope x)(hf:X.fn x=true\/X.env.scope.names.lookup x=some .local:=by first | exact .inl rfl | exact .inr rfl | assumption):PGd X (.Name x pos) (gN i):=
 ahp (tH hN hi hx hf) λ v σ H Q ⟨w,τ,M,Qd,r,A,h,k⟩=>k _ H _ M (Kp.refl H) (A.set i r) h
def bD(te:TD)(g:TGd)(D:Ed)(τ:DS)(M:MH):Prop:=te τ M λ w M1=>g w τ M1 D.nx
theorem acG{g:TGd}{D:Ends}{σ:St}{H:Hp}(h:upS K (bD te g) D σ H):ago (up K te) (upG K g) D σ H:=by obtain⟨τ,M,Dd,A,h,k1,_⟩:=h;exact⟨τ,M,_,A,h,λ v H1 w M1 kp r m q=>⟨w,τ,M1,_,r,A.go kp m,q,λ σ2 H2 τ2 M2 kp2 A2 q2=>k1 σ2 H2 τ2 M2 (kp.trans kp2) A2 q2⟩⟩
theorem fK{tg:Expr}{g:TGd}(he:PD X e te)(hg:PGd X tg g)(hs:swapsWithSole [tg] e pos.line X.env=pure false:=by rfl)(hw:swappedStores [tg] e X.env=pure none:=by rfl)
  (h1:(assignEach [tg] X.env).map (·.2)=[assign tg X.env]:=by rfl):PSd X (.Assign [tg] e pos) (bD te g):=qb (aeE he hg hs hw h1) λ D σ H h=>acG h
theorem az{i:Nat}{x:Str}{pos':Pos}(hN:X.N.Nodup)(hi:X.N[i]? =some x)(hx:Loc X.env.scope x)(he:PD X e te)(hs:swapsWith e (some (.Name x pos')) pos.line X.env=pure false:=by rfl)(hf:X.fn x=true\/X.env.scope.names.lookup x=some .local:=by first | exact .inl rfl | exact .inr rfl | assumption) :
  PSd X (.Assign [.Name x pos'] e pos) (bD te (gN i)):=qb (aeD hN hi hx he hs hf) λ D σ H ⟨τ,M,Dd,A,h,k1,_⟩ =>
 ⟨τ,M,_,A,h,λ v H1 w M1 kp r m q=>k1 _ H1 _ M1 kp ((A.go kp m).set i r) q⟩
end
abbrev SpD:=List W->MH->QD->Prop
def dG(K:PySem.W.Frag)(sp:SpD):Sp:=λ vs H Q _=>∃ ws M Qd,aN K H ws vs/\cK K H M/\sp ws M Qd/\Kont K H Qd Q
section
variable {X:Cx}{pos p:Pos}{k:Nat}{f:Addr}{fd:FuncData}{ps:List Str}{sp:SpD}{x:Str}{e:Expr}{es:List Expr}{t:TAd}
def bb(sp:SpD)(t:TAd)(τ:DS)(M:MH)(Q:QD):Prop:=t τ M λ ws M1=>sp ws M1 Q
theorem ac6(F:cX X.prog X.w X.K X.mg X.base CX0 k f fd ps (dG X.K sp))(hr:c4 k X.A)(hg:Gl X x)(hm:X.mg x=some (.ref f))(hk:PySem.W.keepIn X.K (.ref f)=true)(hb:Binds X.K fd ps [])
  (ha:PAd X (e::es) t)(hdb:(x==("__debug__" : Str))=false:=by decide)(he:starEach (e::es) X.env=(false,eval e X.env)::starEach es X.env:=by rfl)(hpl:(backTo pos (starEach es X.env)).any (·.1)=false:=by rfl) :
  PD X (.Call (.Name x p) (e::es) [] pos) (bb sp t):=eQ (acN (E:=E0) (dvs:=[]) F hr hg hm hk hb .nil wN ha hdb he hpl) λ σ H Q h=>by
 obtain⟨τ,M,Qd,A,h,k⟩:=h;exact⟨τ,M,_,A,h,λ vs H1 ws M1 kp r1 m1 q1=>⟨ws,M1,Qd,by rw[List.append_nil];exact r1,m1,q1,kgo k kp⟩⟩
end
def aX(N:List Str)(ws:List W):DS:=ws.map some++List.replicate (N.length-ws.length) none
section
variable {P:Program}{w:World}{K:PySem.W.Frag}{mg:Str->Option Value}{base:Heap}
theorem kF{H:Hp}{N:List Str}{ws:List W}{vs:List V}{M:MH}(r:aN K H ws vs)(m:cK K H M):Abs K H (start N vs) (aX N ws) M:=by
 have hl:=r.length;refine⟨?_,λ i w e=>?_,m⟩
 ·simp[L2.start,aX,hl]
 ·unfold aX at e
  by_cases hi:i<ws.length
  ·rw[List.getElem?_append_left (by simpa using hi),List.getElem?_map] at e;cases q:ws[i]? with
   | none=>rw[q] at e;cases e
   | some w' =>
    rw[q] at e;cases e;obtain⟨v,e1,r1⟩:=r.get q;refine⟨v,?_,r1⟩;unfold L2.start;rw[List.getElem?_append_left (by rw[List.length_map,<- hl];exact hi),List.getElem?_map,e1];rfl
  ·rw[List.getElem?_append_right (by simpa using hi),List.getElem?_replicate] at e
   split at e<;>cases e
theorem bG{x qual:Str}{st:Stmt}{f:Addr}{fd:FuncData}{N ps:List Str}{k:Nat}{sp:SpD}{t:TSd}(F:Fun K x qual st f fd)(S:aL N ps (aq st))(len:∀ ws M Q,sp ws M Q->ws.length=ps.length)
  (hbody:∀ (cdv:Value) (A:Around) (outer:List Env) (s:Shared) (H:Hp) (E:XK),c4 k (A.deeper (envOfC qual (aq st) s.heap.objs.size f cdv)) ->
   o7 (aaK CX0 P w K mg base N qual (aq st) f cdv A outer s H E).nox (bj st) t)
  (read:∀ ws M Q,sp ws M Q->t {nx:=λ _ M'=>Q (.d .none) M',rt:=Q} (aX N ws) M):cX P w K mg base CX0 (k+1) f fd ps (dG K sp):=by
 refine F.ok S (λ vs H Q E h=>?_) (λ cdv A outer s H vs Q E hr h=>?_)
 ·obtain⟨ws,M,Qd,r,_,q,_⟩:=h;rw[<- r.length];exact len _ _ _ q
 ·obtain⟨ws,M,Qd,r,m,q,kk⟩:=h;refine⟨_,hbody cdv A outer s H E hr,aX N ws,M,_,kF r m,read ws M Qd q,λ σ' H' τ' M' kp A' q'=>?_,λ v H' w' M' kp r' m' q'=>?_,λ σ' H' τ' M' kp A' q'=>q'.elim,λ σ' H' τ' M' kp A' q'=>q'.elim⟩
  ·exact kk _ H' _ M' kp (by simp[aD,aA]) A'.mem q'
  ·exact kk v H' w' M' kp r' m' q'
end
section
variable {X:Cx}{pins:List (Addr×Obj)}{σ:St}{H:Hp}{s:Shared}
mutual
theorem fT(I:Inv X pins σ H s):∀ (d:PyData) {x:V} {u:Value},aA X.K H d x->RelV x u->d.hasDict=false->∃ as,Reads s.heap u d as
 | .none,x,u,h,r,_=>by simp only[aA] at h;subst h;cases (show u=Value.none from r);exact⟨_,.none⟩
 | .bool b,x,u,h,r,_=>by simp only[aA] at h;subst h;cases (show u=Value.bool b from r);exact⟨_,.bool b⟩
 | .int i,x,u,h,r,_=>by simp only[aA] at h;subst h;obtain⟨t,e⟩:=(show ∃ t,u=Value.int i t from r);subst e;exact⟨_,.int i t⟩
 | .str z,x,u,h,r,_=>by simp only[aA] at h;subst h;obtain⟨t,e⟩:=(show ∃ t,u=Value.str z t from r);subst e;exact⟨_,.str z t⟩
 | .list ds,x,u,h,r,hd=>by simp only[aA] at h;obtain⟨a,vs,e,hs,ra⟩:=h;subst e;cases (show u=Value.ref a from r);obtain⟨its,rv,⟨o,n,e1,e2,e3,e4⟩,hz⟩:=I.list hs.sq;obtain⟨as,q⟩:=mx I ds ra rv (by simpa [PyData.hasDict] using hd);exact⟨_,.list e1 e2 e4 (by simpa using q)⟩
 | .tuple ds,x,u,h,r,hd=>by simp only[aA] at h;obtain⟨a,vs,e,hs,ra⟩:=h;subst e;cases (show u=Value.ref a from r);obtain⟨its,rv,⟨o,e1,e2,n,e4⟩,hz⟩:=I.tuple hs;obtain⟨as,q⟩:=mx I ds ra rv (by simpa [PyData.hasDict] using hd);exact⟨_,.tuple e1 e2 e4 (by simpa using q)⟩
 | .dict kvs,x,u,h,r,hd=>by simp[PyData.hasDict] at hd
theorem mx(I:Inv X pins σ H s):∀ (ds:List PyData) {xs:List V} {us:List Value},bf X.K H ds xs->Vals xs us->PyData.hasDictAll ds=false->∃ as,ReadsAll s.heap us ds as
 | [],xs,us,h,r,_=>by simp only[bf] at h;subst h;cases r;exact⟨_,.nil⟩
 | d::ds,xs,us,h,r,hd=>by
  simp only[bf] at h;obtain⟨v,vr,e,h1,h2⟩:=h;subst e;simp only[PyData.hasDictAll,Bool.or_eq_false_iff] at hd;cases r with
  | cons r1 r2 =>
   obtain⟨as,q1⟩:=fT I d h1 r1 hd.1;obtain⟨bs,q2⟩:=mx I ds h2 r2 hd.2;exact⟨_,.cons q1 q2⟩
end
def rH(d:PyData):Bool:=SeqAt.shaped d&&!d.hasDict
def fh:PyData->PyData->Bool
 | .str _,.str _=>true
 | d,d'=>rH d&&rH d'
theorem fQ{d d':PyData}(h:fh d d'=true):(∃ x y,d=.str x/\d'=.str y)\/(rH d=true/\rH d'=true):=by
 cases d with
 | str x =>
  cases d' with
  | str y=>exact .inl ⟨x,y,rfl,rfl⟩
  | _=>exact .inr (by simpa [fh] using h)
 | _=>exact .inr (by simpa [fh] using h)
theorem tN(x y:Str):decide (V.str x=V.str y)=PyData.eqv (.str x) (.str y):=by
 rw[PyData.eqv]
 by_cases e:x=y
 ·subst e;simp
 ·rw[decide_eq_false (λ z=>e (V.str.inj z))];exact(beq_eq_false_iff_ne.mpr e).symm
theorem ab4{k:Nat}(hr:c4 k X.A):OpR X (compareOp .Eq) (λ x y H Q=>∃ d d',aA X.K H d x/\aA X.K H d' y/\fh d d'=true/\Q (.bl (PyData.eqv d d')) H):=by
 intro pins s σ H x y v u Q I rx ry h;obtain⟨d,d',h1,h2,o,q⟩:=h;rcases fQ o with ⟨a,b,e1,e2⟩ | ⟨o1,o2⟩
 ·subst e1;subst e2;simp only[aA] at h1 h2;subst h1;subst h2;exact ahP pins s σ H _ _ v u Q I rx ry ⟨rfl,by rw[tN];exact q⟩
 simp only[rH,Bool.and_eq_true,Bool.not_eq_true'] at o1 o2;obtain⟨as,r1⟩:=fT I d h1 rx o1.2;obtain⟨bs,r2⟩:=fT I d' h2 ry o2.2;exact eq_dataH r1 r2 o1.1 o2.1 hr.units ⟨.bl _,H,I,rfl,q⟩
theorem aeY{k:Nat}(hr:c4 k X.A):OpR X (compareOp .NotEq) (λ x y H Q=>∃ d d',aA X.K H d x/\aA X.K H d' y/\fh d d'=true/\Q (.bl (!PyData.eqv d d')) H):=by
 intro pins s σ H x y v u Q I rx ry h;obtain⟨d,d',h1,h2,o,q⟩:=h;rcases fQ o with ⟨a,b,e1,e2⟩ | ⟨o1,o2⟩
 ·subst e1;subst e2;simp only[aA] at h1 h2;subst h1;subst h2;exact ag4 pins s σ H _ _ v u Q I rx ry ⟨rfl,by rw[tN];exact q⟩
 simp only[rH,Bool.and_eq_true,Bool.not_eq_true'] at o1 o2;obtain⟨as,r1⟩:=fT I d h1 rx o1.2;obtain⟨bs,r2⟩:=fT I d' h2 ry o2.2;exact ne_dataH r1 r2 o1.1 o2.1 hr.units ⟨.bl _,H,I,rfl,q⟩
def tyD:PyData->String
 | .none => "NoneType"
 | .bool _ => "bool"
 | .int _ => "int"
 | .str _ => "str"
 | .list _ => "list"
 | .tuple _ => "tuple"
 | .dict _ => "dict"
inductive Ty6:String->Prop where
 | int:Ty6 "int" | bool:Ty6 "bool" | str:Ty6 "str" | list:Ty6 "list" | tuple:Ty6 "tuple" | dict:Ty6 "dict"
def mM(d:PyData)(T:String):Bool:=tyD d==T || (T == "int" && tyD d == "bool")
theorem yn{K:PySem.W.Frag}(d:PyData){T:String}(h:Ty6 T):PySem.W.kitOne K (.type (tyD d)) (.type T)=some (mM d T):=by
 cases h<;>cases d<;>rfl
theorem xq:fC X (.builtin "isinstance") (λ xs H Q=>∃ x d T,xs=[x,.ty T]/\aA X.K H d x/\Ty6 T/\Q (.bl (mM d T)) H):=by
 intro pins s σ H xs us Q I r h;obtain⟨x,d,T,rfl,rd,h6,q⟩:=h;obtain⟨u,w',rfl,rx,ry⟩:=vals2 r;cases (show w'=Value.type T from ry);have e:=yn (K:=X.K) d h6;have fin:∀ tk,EP X pins σ Q (.bool (mM d T)) {s with toks:=tk}:=λ tk=>⟨.bl _,H,I.tok _,rfl,q⟩;generalize mM d T=b at e fin;cases d with
 | none=>simp only[aA] at rd;subst rd;cases (show u=Value.none from rx);exact PySem.W.kia_one PySem.W.kitx_none I.kIn True.intro e (λ z=>nomatch z) fin
 | bool y=>simp only[aA] at rd;subst rd;cases (show u=Value.bool y from rx);exact PySem.W.kia_one PySem.W.kitx_bool I.kIn True.intro e (λ z=>nomatch z) fin
 | int i=>simp only[aA] at rd;subst rd;obtain⟨t,z⟩:=(show ∃ t,u=Value.int i t from rx);subst z;exact PySem.W.kia_one PySem.W.kitx_int I.kIn True.intro e (λ z=>nomatch z) fin
 | str y=>simp only[aA] at rd;subst rd;obtain⟨t,z⟩:=(show ∃ t,u=Value.str y t from rx);subst z;exact PySem.W.kia_one PySem.W.kitx_str I.kIn True.intro e (λ z=>nomatch z) fin
 | list ds =>
  simp only[aA] at rd;obtain⟨a,vs,z,hs,_⟩:=rd;subst z;cases (show u=Value.ref a from rx);obtain⟨its,rv,⟨o,n,e1,e2,e3,e4⟩,hz⟩:=I.list hs.sq;exact PySem.W.kia_one PySem.W.kitx_list I.kIn ⟨_,e1,e2⟩ e (λ z=>nomatch z) fin
 | tuple ds =>
  simp only[aA] at rd;obtain⟨a,vs,z,hs,_⟩:=rd;subst z;cases (show u=Value.ref a from rx);obtain⟨its,rv,⟨o,e1,e2,e3⟩,hz⟩:=I.tuple hs;exact PySem.W.kia_one PySem.W.kitx_tuple I.kIn ⟨_,e1,e2⟩ e (λ z=>nomatch z) fin
 | dict kvs =>
  simp only[aA] at rd;obtain⟨a,o,l,z,ha,_⟩:=rd;subst z;cases (show u=Value.ref a from rx);obtain⟨_,hs,vs,kv,o',es,ep,e1,e2,_⟩:=xG I.hok (.inr ⟨o,ha⟩);exact PySem.W.kia_one PySem.W.kitx_dict I.kIn ⟨_,e1,e2.1⟩ e (λ z=>nomatch z) fin
theorem qD{K:PySem.W.Frag}{H:Hp}:∀ {bs:List Bool} {vs:List V} {us:List Value},bf K H (bs.map PyData.bool) vs->Vals vs us->LSm.BoolsAre us bs
 | [],vs,us,h,r=>by simp only[List.map_nil,bf] at h;subst h;cases r;exact .nil
 | b::bs,vs,us,h,r=>by
  simp only[List.map_cons,bf] at h;obtain⟨v,vr,e,h1,h2⟩:=h;subst e;simp only[aA] at h1;subst h1;cases r with
  | cons r1 r2=>cases (show _=Value.bool b from r1);exact .cons b (qD h2 r2)
theorem rZ(hc:X.calm=true):fC X (.builtin "all") (λ xs H Q=>∃ (x:V) (bs:List Bool),xs=[x]/\aA X.K H (.list (bs.map PyData.bool)) x/\Q (.bl (bs.all id)) H):=by
 intro pins s σ H xs us Q I r h;obtain⟨x,bs,rfl,rd,q⟩:=h;obtain⟨u,rfl,rx⟩:=vals1 r;simp only[aA] at rd;obtain⟨a,vs,z,hs,ra⟩:=rd;subst z;cases (show u=Value.ref a from rx);obtain⟨its,rv,pl,hz⟩:=I.list hs.sq;obtain⟨m,F⟩:=I.fr;have N:News X.base X.env.locals s.heap []:=λ p hp=>nomatch hp;have hb:=qD ra rv;have hl:s.heap.IsList a its.toArray:=pl.isList;have hlt:a<s.heap.objs.size:=by obtain⟨_,e,_⟩:=hl;exact Heap.lt_size e
 refine call_all_walk (wpAny_pyIter_list hl ?_);refine⟨s.heap.objs.size,[s.heap.objs.size,a],[s.heap.objs.size],its.toArray.size,_,_,λ i=>(bs[i]?).getD true,rfl,Walks.list (A:=X.A.in1) (I.ok.hd hc) _ a (Nat.ne_of_lt hlt) its.toArray,
  ⟨⟨_,Heap.get?_push_size _ rfl,rfl,rfl⟩,hl.push _⟩,λ i v s' Q' E' hP hQ=>?_,λ h' tk hk=>?_⟩
 ·obtain⟨b,e,rfl⟩:=hb.get i v (by simpa using hP);simp only[e,Option.getD_some] at hQ;exact wpAny_truthy_bool hQ
 ·have e:((List.range its.toArray.size).all λ i=>(bs[i]?).getD true)=bs.all id:=by rw[List.size_toArray,hb.length];exact LSm.range_all bs
  rw[e];exact⟨.bl _,H,I.kept (LSm.kept_iter hk),rfl,q⟩
end
end D
namespace D
open L2
section
variable {X:Cx}{K:PySem.W.Frag}
theorem OpR.or{f:Value->Value->Sem Value}{r r':R2}(h:OpR X f r)(h':OpR X f r'):OpR X f (λ x y H Q=>r x y H Q\/r' x y H Q):=by
 intro pins s σ H x y v u Q I rx ry q;rcases q with q | q
 ·exact h pins s σ H x y v u Q I rx ry q
 ·exact h' pins s σ H x y v u Q I rx ry q
theorem OpD.or{r r':R2}{rd rd':W->W->MH->QD->Prop}(h:OpD K r rd)(h':OpD K r' rd'):OpD K (λ x y H Q=>r x y H Q\/r' x y H Q) (λ w w' M Q=>rd w w' M Q\/rd' w w' M Q):=by
 intro x y H w w' M Qd Q r1 r2 m q k;rcases q with q | q
 ·exact .inl (h x y H w w' M Qd Q r1 r2 m q k)
 ·exact .inr (h' x y H w w' M Qd Q r1 r2 m q k)
def adf(g:Int->Int->PyData)(w:W)(w':W)(M:MH)(Q:QD):Prop:=∃ i j,w=.d (.int i)/\w'=.d (.int j)/\Q (.d (g i j)) M
def rdI(C:Int->Int->Prop)(g:Int->Int->PyData)(w:W)(w':W)(M:MH)(Q:QD):Prop:=∃ i j,w=.d (.int i)/\w'=.d (.int j)/\C i j/\Q (.d (g i j)) M
theorem n9{g:Int->Int->V}{gd:Int->Int->PyData}(hg:∀ i j H,aA K H (gd i j) (g i j)):OpD K (rI0 g) (adf gd):=by intro x y H w w' M Qd Q r1 r2 m ⟨i,j,e1,e2,q⟩ k;subst e1;subst e2;simp only[aD,aA] at r1 r2;exact⟨i,j,r1,r2,k _ H (.d (gd i j)) M (Kp.refl H) (hg i j H) m q⟩
theorem aa7{C:Int->Int->Prop}{g:Int->Int->V}{gd:Int->Int->PyData}(hg:∀ i j H,aA K H (gd i j) (g i j)):OpD K (rI C g) (rdI C gd):=by intro x y H w w' M Qd Q r1 r2 m ⟨i,j,e1,e2,c,q⟩ k;subst e1;subst e2;simp only[aD,aA] at r1 r2;exact⟨i,j,r1,r2,c,k _ H (.d (gd i j)) M (Kp.refl H) (hg i j H) m q⟩
def pV(w w':W)(M:MH)(Q:QD):Prop:=adf (λ i j=>.int (i-j)) w w' M Q
def fH(w w':W)(M:MH)(Q:QD):Prop:=rdI aer (λ i j=>.int (i * j)) w w' M Q
def eN(w w':W)(M:MH)(Q:QD):Prop:=rdI (λ _ j=>0<j) (λ i j=>.int (i % j)) w w' M Q
def pW(w w':W)(M:MH)(Q:QD):Prop:=rdI agX (λ i j=>.int (i / j)) w w' M Q
def agM(w w':W)(M:MH)(Q:QD):Prop:=rdI ag3 (λ i j=>.int (i ^ j.toNat)) w w' M Q
def cH(w:W)(w':W)(M:MH)(Q:QD):Prop:=adf (λ i j=>.int (i+j)) w w' M Q\/∃ x y,w=.d (.str x)/\w'=.d (.str y)/\x.length+y.length<=sizeLine/\Q (.d (.str (x++y))) M
theorem gR:OpD K (rI0 λ i j=>.int (i-j)) pV:=n9 λ _ _ _=>by simp[aA]
theorem d4:OpD K (rI aer λ i j=>.int (i * j)) fH:=aa7 λ _ _ _=>by simp[aA]
theorem ee:OpD K (rI (λ _ j=>0<j) λ i j=>.int (i % j)) eN:=aa7 λ _ _ _=>by simp[aA]
theorem jx:OpD K (rI agX λ i j=>.int (i / j)) pW:=aa7 λ _ _ _=>by simp[aA]
theorem adV:OpD K (rI ag3 λ i j=>.int (i ^ j.toNat)) agM:=aa7 λ _ _ _=>by simp[aA]
def aco:R2:=λ x y H Q=>∃ i j,x=.str i/\y=.str j/\i.length+j.length<=sizeLine/\Q (.str (i++j)) H
theorem aaN:OpD K aco (λ w w' M Q=>∃ x y,w=.d (.str x)/\w'=.d (.str y)/\x.length+y.length<=sizeLine/\Q (.d (.str (x++y))) M):=by intro x y H w w' M Qd Q r1 r2 m ⟨i,j,e1,e2,c,q⟩ k;subst e1;subst e2;simp only[aD,aA] at r1 r2;exact⟨i,j,r1,r2,c,k _ H (.d (.str (i++j))) M (Kp.refl H) (by simp[aD,aA]) m q⟩
theorem bu:OpR X (binaryOp .Add) (λ x y H Q=>rI0 (λ i j=>.int (i+j)) x y H Q\/aco x y H Q):=OpR.or agj vX
theorem aT:OpD K (λ x y H Q=>rI0 (λ i j=>.int (i+j)) x y H Q\/aco x y H Q) cH:=OpD.or (n9 λ _ _ _=>by simp[aA]) aaN
def rS(g:Str->Str->Bool):R2:=λ x y H Q=>∃ i j,x=.str i/\y=.str j/\Q (.bl (g i j)) H
def rdS(g:Str->Str->Bool)(w:W)(w':W)(M:MH)(Q:QD):Prop:=∃ i j,w=.d (.str i)/\w'=.d (.str j)/\Q (.d (.bool (g i j))) M
theorem ahv{g:Str->Str->Bool}:OpD K (rS g) (rdS g):=by intro x y H w w' M Qd Q r1 r2 m ⟨i,j,e1,e2,q⟩ k;subst e1;subst e2;simp only[aD,aA] at r1 r2;exact⟨i,j,r1,r2,k _ H (.d (.bool (g i j))) M (Kp.refl H) (by simp[aD,aA]) m q⟩
theorem ze:OpR X (compareOp .LtE) (rS λ x y=>!decide (y.cps.toList<x.cps.toList)):=by intro pins s σ H x y v u Q I rx ry h;obtain⟨i,j,rfl,rfl,q⟩:=h;obtain⟨t,rfl⟩:=rx;obtain⟨t',rfl⟩:=ry;exact PySem.P.le_str ⟨.bl _,H,I,rfl,q⟩
def aah(w:W)(w':W)(M:MH)(Q:QD):Prop:=adf (λ i j=>.bool (decide (i<=j))) w w' M Q\/rdS (λ x y=>!decide (y.cps.toList<x.cps.toList)) w w' M Q
theorem jO:OpR X (compareOp .LtE) (λ x y H Q=>rI0 (λ i j=>.bl (decide (i<=j))) x y H Q\/rS (λ x y=>!decide (y.cps.toList<x.cps.toList)) x y H Q):=OpR.or ahz ze
theorem gB:OpD K (λ x y H Q=>rI0 (λ i j=>.bl (decide (i<=j))) x y H Q\/rS (λ x y=>!decide (y.cps.toList<x.cps.toList)) x y H Q) aah:=OpD.or (n9 λ _ _ _=>by simp[aA]) ahv
def af4(w w':W)(M:MH)(Q:QD):Prop:=adf (λ i j=>.bool (decide (i<j))) w w' M Q
def tj(w w':W)(M:MH)(Q:QD):Prop:=adf (λ i j=>.bool (decide (j<i))) w w' M Q
def ag2(w w':W)(M:MH)(Q:QD):Prop:=adf (λ i j=>.bool (decide (j<=i))) w w' M Q
theorem uk:OpD K (rI0 λ i j=>.bl (decide (i<j))) af4:=n9 λ _ _ _=>by simp[aA]
theorem gA:OpD K (rI0 λ i j=>.bl (decide (j<i))) tj:=n9 λ _ _ _=>by simp[aA]
theorem abG:OpD K (rI0 λ i j=>.bl (decide (j<=i))) ag2:=n9 λ _ _ _=>by simp[aA]
def aiq(w:W)(w':W)(M:MH)(Q:QD):Prop:=∃ d d',w=.d d/\w'=.d d'/\fh d d'=true/\Q (.d (.bool (PyData.eqv d d'))) M
theorem agi:OpD K (λ x y H Q=>∃ d d',aA K H d x/\aA K H d' y/\fh d d'=true/\Q (.bl (PyData.eqv d d')) H) aiq:=by intro x y H w w' M Qd Q r1 r2 m ⟨d,d',e1,e2,o1,q⟩ k;subst e1;subst e2;exact⟨d,d',r1,r2,o1,k _ H (.d (.bool _)) M (Kp.refl H) (by simp[aD,aA]) m q⟩
def acA(w:W)(M:MH)(Q:QD):Prop:=∃ i,w=.d (.int i)/\Q (.d (.int (-i))) M
theorem zr:UnD K (rU λ i=>.int (-i)) acA:=by intro x H w M Qd Q r m ⟨i,e,q⟩ k;subst e;simp only[aD,aA] at r;exact⟨i,r,k _ H (.d (.int (-i))) M (Kp.refl H) (by simp[aD,aA]) m q⟩
def aaa:W->Bool
 | .d (.str z)=>decide (z.length<=sizeLine)
 | _=>true
def ixW(M:MH):W->Int->Option W
 | .d (.list ds),i=>(atI ds i).map W.d
 | .d (.tuple ds),i=>(atI ds i).map W.d
 | .d (.str z),i=>(atI z.cps.toList i).map λ c=>W.d (.str ⟨#[c]⟩)
 | .m a,i=>match M a with
  | some (.lst ws)=>atI ws i
  | some (.tup ws)=>atI ws i
  | _=>none
 | _,_=>none
inductive RIx(w:W) (w':W) (M:MH) (Q:QD):Prop
 | mk (i:Int) (x:W) (z0:w'=.d (.int i)) (z1:ixW M w i=some x) (z2:aaa w=true) (q:Q x M):RIx w w' M Q
def cz(w:W)(w':W)(M:MH)(Q:QD):Prop:=RIx w w' M Q
theorem u0{H:Hp}{ds:List PyData}{vs:List V}{i:Int}{d:PyData}(r:bf K H ds vs)(e:atI ds i=some d):∃ v,atI vs i=some v/\aA K H d v:=by
 unfold atI at e ⊢;rw[r.length];cases q:ixN ds.length i with
 | none=>rw[q] at e;cases e
 | some j =>
  rw[q] at e;exact r.get e
theorem rE{H:Hp}{ds:List W}{vs:List V}{i:Int}{d:W}(r:aN K H ds vs)(e:atI ds i=some d):∃ v,atI vs i=some v/\aD K H d v:=by
 unfold atI at e ⊢;rw[<- r.length];cases q:ixN ds.length i with
 | none=>rw[q] at e;cases e
 | some j =>
  rw[q] at e;exact r.get e
theorem aF:OpD K (rIx K) cz:=by
 intro x y H w w' M Qd Q r1 r2 m ⟨i,z,e2,ei,hf,q⟩ k;subst e2;simp only[aD,aA] at r2;cases w with
 | t n=>simp[ixW] at ei
 | m a =>
  simp only[aD] at r1;simp only[ixW] at ei;cases hm:M a with
  | none=>rw[hm] at ei;cases ei
  | some mo =>
   rw[hm] at ei;cases mo with
   | lst ws =>
    obtain⟨vs,e1,rw1⟩:=m a _ hm;obtain⟨v,e3,rv⟩:=rE rw1 ei;exact .inl ⟨a,vs,i,v,r1,r2,SqL.of e1,e3,k v H z M (Kp.refl H) rv m q⟩
   | dic _=>cases ei
   | dct _=>cases ei
   | fdic _=>cases ei
   | ins _ _=>cases ei
   | tup ws =>
    obtain⟨vs,e1,rw1⟩:=m a _ hm;obtain⟨v,e3,rv⟩:=rE rw1 ei;exact .inr (.inl ⟨a,vs,i,v,r1,r2,.inl (.inl e1),e3,k v H z M (Kp.refl H) rv m q⟩)
   | flst _=>cases ei
   | exc _ _=>cases ei
   | code _ _=>cases ei
 | d d =>
  cases d with
  | list ds =>
   simp only[aD,aA] at r1;obtain⟨a,vs,e1,hs,ra⟩:=r1;simp only[ixW] at ei;cases h:atI ds i with
   | none=>rw[h] at ei;cases ei
   | some d =>
    rw[h] at ei;cases ei;obtain⟨v,e3,rv⟩:=u0 ra h;exact .inl ⟨a,vs,i,v,e1,r2,hs.sq,e3,k v H (.d d) M (Kp.refl H) rv m q⟩
  | tuple ds =>
   simp only[aD,aA] at r1;obtain⟨a,vs,e1,hs,ra⟩:=r1;simp only[ixW] at ei;cases h:atI ds i with
   | none=>rw[h] at ei;cases ei
   | some d =>
    rw[h] at ei;cases ei;obtain⟨v,e3,rv⟩:=u0 ra h;exact .inr (.inl ⟨a,vs,i,v,e1,r2,hs,e3,k v H (.d d) M (Kp.refl H) rv m q⟩)
  | str s =>
   simp only[aD,aA] at r1;simp only[ixW] at ei;cases h:atI s.cps.toList i with
   | none=>rw[h] at ei;cases ei
   | some c =>
    rw[h] at ei;cases ei;exact .inr (.inr ⟨s,i,c,r1,r2,of_decide_eq_true hf,h,k _ H (.d (.str ⟨#[c]⟩)) M (Kp.refl H) (by simp[aD,aA]) m q⟩)
  | _=>simp[ixW] at ei
theorem adi{e:Expr}{t:TE}(h:PE X e t):PE X e (λ σ H Q=>t σ H λ v H1=>Q v H1\/∃ p u,v=.ref p/\H1 p=some u/\Fz u/\∀ o,Q v (upd H1 p (.frz o u))):=by
 intro pins s σ H Q I hq;refine thn (h pins s σ H _ I hq) λ v s1 hq47=>?_;obtain⟨x,H1,I1,r1,q⟩:=hq47;rcases q with q | ⟨p,u,e1,e2,f,q⟩
 ·exact⟨x,_,I1,r1,q⟩
 ·obtain⟨o,I2⟩:=I1.freeze e2 f;exact⟨x,_,I2,r1,q o⟩
def air:V->Option Int->Option Int->Hp->VK->Prop:=λ x lo hi H Q=>∃ z,x=.str z/\z.length<=sizeLine/\Q (.str (Txt.slice z lo hi)) H
theorem agA:SlR X air:=by
 intro pins s σ H x v vl vu lo hi sl Q I rx hs pl pu h;obtain⟨z,rfl,hz,q⟩:=h;obtain⟨t,rfl⟩:=rx;have fin:∀ t' k,EP X pins σ Q (.str (Txt.slice z lo hi) t') {s with toks:=k}:=λ t' k=>⟨.str _,H,I.tok _,⟨_,rfl⟩,q⟩;refine⟨"str",_,F.slot_str_getitem.lookup,typeIs_str _ _ _,?_⟩;cases pl with
 | none =>
  cases pu with
  | none=>exact wpAny_getItem_str_slice (l:=none) (u:=none) (st:=none) hs rfl (post_val_or_str ⟨Nat.le_trans (Txt.slice_le z _ _) hz,fin⟩)
  | int j uj=>exact wpAny_getItem_str_slice (l:=none) (u:=some (j,uj)) (st:=none) hs rfl (post_val_or_str ⟨Nat.le_trans (Txt.slice_le z _ _) hz,fin⟩)
 | int i ui =>
  cases pu with
  | none=>exact wpAny_getItem_str_slice (l:=some (i,ui)) (u:=none) (st:=none) hs rfl (post_val_or_str ⟨Nat.le_trans (Txt.slice_le z _ _) hz,fin⟩)
  | int j uj=>exact wpAny_getItem_str_slice (l:=some (i,ui)) (u:=some (j,uj)) (st:=none) hs rfl (post_val_or_str ⟨Nat.le_trans (Txt.slice_le z _ _) hz,fin⟩)
abbrev TOd:=DS->MH->(Option Int->MH->Prop)->Prop
def upO(K:PySem.W.Frag)(t:TOd):TO:=λ σ H Q=>∃ τ M Qd,Abs K H σ τ M/\t τ M Qd/\∀ b H' M',Kp H H'->cK K H' M'->Qd b M'->Q b H'
abbrev POd(X:Cx)(e:Option Expr)(t:TOd):Prop:=PO X e (upO X.K t)
theorem aib{e:Option Expr}{t t':TO}(h:PO X e t)(k:∀ σ H Q,t' σ H Q->t σ H Q):PO X e t':=λ pins s σ H Q I q=>h pins s σ H Q I (k σ H Q q)
def fR(_:DS)(M:MH)(Q:Option Int->MH->Prop):Prop:=Q none M
def oN(t:TD)(τ:DS)(M:MH)(Q:Option Int->MH->Prop):Prop:=t τ M λ w M1=>∃ i,w=.d (.int i)/\Q (some i) M1
theorem dX:POd X none fR:=aib adY λ σ H Q ⟨τ,M,Qd,A,q,k⟩=>k none H M (Kp.refl H) A.mem q
theorem dY{e:Expr}{te:TD}(h:PD X e te):POd X (some e) (oN te):=aib (acx h) λ σ H Q ⟨τ,M,Qd,A,q,k⟩=>⟨τ,M,_,A,q,λ v H1 w M1 kp r m hq48=>by obtain⟨i,e,q1⟩:=hq48;subst e;simp only[aD,aA] at r;exact⟨i,r,k _ H1 M1 kp m q1⟩⟩
def cutD{α:Type}(xs:List α)(lo hi:Option Int):List α:=(xs.drop (HT.sIx xs.length 0 lo)).take (HT.sIx xs.length xs.length hi-HT.sIx xs.length 0 lo)
def abl(n:Nat)(lo hi:Option Int):Bool:=decide (HT.sIx n 0 lo=0/\HT.sIx n n hi=n)
def slW:W->Option Int->Option Int->Option W
 | .d (.list ds),lo,hi=>some (.d (.list (cutD ds lo hi)))
 | .d (.tuple ds),lo,hi=>if abl ds.length lo hi then none else some (.d (.tuple (cutD ds lo hi)))
 | .d (.str z),lo,hi=>some (.d (.str (Txt.slice z lo hi)))
 | _,_,_=>none
def dSl(te:TD)(tl th:TOd)(τ:DS)(M:MH)(Q:QD):Prop:=te τ M λ w M1=>tl τ M1 λ lo M2=>th τ M2 λ hi M3=>∃ z,slW w lo hi=some z/\aaa w=true/\Q z M3
theorem afK:SlR X (λ x lo hi H Q=>aiy X.K x lo hi H Q\/aiu X.K x lo hi H Q\/air x lo hi H Q):=yA.or (afs.or agA)
theorem bf.cut{H:Hp}{ds:List PyData}{vs:List V}(r:bf K H ds vs)(lo hi:Option Int):bf K H (cutD ds lo hi) (yQ vs lo hi):=by
 unfold cutD yQ;rw[r.length];exact(r.drop _).take _
theorem eX{e:Expr}{te:TD}{lo hi:Option Expr}{tl th:TOd}{pos p2:Pos}(he:PD X e te)(hl:POd X lo tl)(hu:POd X hi th):PD X (.Subscript e (.Slice lo hi none p2) pos) (dSl te tl th):=
 eQ (adi (uz afK he hl hu)) λ σ H Q h=>by
  obtain⟨τ,M,Qd,A,h,k⟩:=h;refine⟨τ,M,_,A,h,λ v H1 w M1 kp1 r1 m1 q1=>⟨τ,M1,_,A.go kp1 m1,q1,λ lo H2 M2 kp2 m2 q2=>⟨τ,M2,_,A.go (kp1.trans kp2) m2,q2,λ hi H3 M3 kp3 m3 q3=>?_⟩⟩⟩;obtain⟨z,ez,hf,q⟩:=q3;have kp:=(kp1.trans kp2).trans kp3;have r:=r1.keep (kp2.trans kp3);cases w with
  | t n=>simp[slW] at ez
  | m a=>simp[slW] at ez
  | d d =>
   cases d with
   | list ds =>
    simp only[slW] at ez;cases ez;simp only[aD,aA] at r;obtain⟨a,vs,e1,hs,ra⟩:=r;exact .inl ⟨a,vs,e1,hs.sq,λ p hp=>.inr (pL hp (bf.cut ra lo hi) m3 q (kgo k kp))⟩
   | tuple ds =>
    simp only[slW] at ez
    split at ez
    ·cases ez
    ·rename_i hw
     cases ez;simp only[aD,aA] at r;obtain⟨a,vs,e1,hs,ra⟩:=r;refine .inr (.inl ⟨a,vs,e1,hs,?_,λ p hp=>.inl ?_⟩)
     ·rw[ra.length]
      simpa [abl] using hw
     ·refine k _ _ (.d (.tuple _)) M3 (kp.trans (Kp.new hp)) ?_ (m3.new hp) q;simp only[aD,aA];exact⟨p,_,rfl,.inl (.inl ar),(bf.cut ra lo hi).keep (Kp.new hp)⟩
   | str s =>
    simp only[slW] at ez;cases ez;simp only[aD,aA] at r;exact .inr (.inr ⟨s,r,of_decide_eq_true hf,.inl (k _ H3 (.d (.str _)) M3 kp (by simp[aD,aA]) m3 q)⟩)
   | _=>simp[slW] at ez
def wB(to ti:TD)(v:W)(τ:DS)(M:MH)(Q:DS->MH->Prop):Prop:=to τ M λ w M1=>ti τ M1 λ w' M2=>∃ a ws i j,w=.m a/\w'=.d (.int i)/\M2 a=some (.lst ws)/\ixN ws.length i=some j/\Q τ (aE M2 a (.lst (ws.set j v)))
theorem zo{H:Hp}{M:MH}{a:Addr}{ws:List W}{vs:List V}{j:Nat}{v:V}{w:W}(m:cK K H M)(e:H a=some (.lst vs))(rw1:aN K H ws vs)(rv:aD K H w v) :
  Kp H (upd H a (.lst (vs.set j v)))/\cK K (upd H a (.lst (vs.set j v))) (aE M a (.lst (ws.set j w))):=by
 have kp:Kp H (upd H a (.lst (vs.set j v))):=Kp.set e (λ xs z=>nomatch z) λ _ _ z=>nomatch z;exact⟨kp,m.put kp ⟨_,ar,(aN.set rv j rw1).keep kp⟩⟩
theorem gn{o i:Expr}{to ti:TD}{pos:Pos}(ho:PD X o to)(hi:PD X i ti)
  (ha:∀ v,assign (.Subscript o i pos) X.env v=(do
   let ov <- holding [v] (eval o X.env)
   let iv <- holding [v,ov] (eval i X.env)
   standAt pos
   holding [v,ov,iv] (setItem ov iv v)
   release [v,ov,iv] []):=by intro _;rfl):PGd X (.Subscript o i pos) (wB to ti):=ahp (ae4 ho hi set_list ha) λ v σ H Q h=>by
 obtain⟨w,τ,M,Qd,rv,A,h,k⟩:=h;refine⟨τ,M,_,A,h,λ x H1 wo M1 kp1 r1 m1 q1=>⟨τ,M1,_,A.go kp1 m1,q1,λ y H2 wi M2 kp2 r2 m2 q2=>?_⟩⟩;obtain⟨a,ws,i,j,e1,e2,hm,hj,q⟩:=q2;subst e1;subst e2;simp only[aD,aA] at r1 r2;obtain⟨vs,e3,rw1⟩:=m2 a _ hm;have kp:=kp1.trans kp2;obtain⟨kp3,m3⟩:=zo (j:=j) m2 e3 rw1 (rv.keep kp);exact⟨a,vs,i,j,r1,r2,e3,by rw[<- rw1.length];exact hj,k σ _ τ _ (kp.trans kp3) (A.go (kp.trans kp3) m3) q⟩
theorem aaZ:ah6 X (ahh X.K):=by
 intro pins s σ H o i ov iv Q I ro ri h;obtain⟨p,xs,k,z,rfl,rfl,hq,he,q⟩:=h;cases ro;obtain⟨t,rfl⟩:=ri;obtain⟨its,r,pl,hz⟩:=I.list hq;obtain⟨j,h1,h2,h3,h4,h5⟩:=pY he;obtain⟨w,ew,rw'⟩:=r.get h2;have hl:=r.length;have hn:=kZ;have fin:EP X pins σ Q w s:=⟨z,H,I,rw',q⟩
 by_cases h0:0<=k
 ·have hj:k.toNat=j:=by rw[seqIndex_of h0 h5] at h1;exact Option.some.inj h1
  exact wpAny_getItem_list pl.isList h0 (by omega) (by rw[hj];simpa using ew) fin
 ·have hj:(k+(its.toArray.size:Int)).toNat=j:=by rw[seqIndex_neg (by omega) h4] at h1;rw[List.size_toArray,<- hl];exact Option.some.inj h1
  exact wpAny_getItem_list_neg pl.isList (by omega) (by rw[List.size_toArray]<;>omega) (by omega) (by rw[hj];simpa using ew) fin
def aaU(to ti te:TD)(f:Int->Int->Int)(D:Ed)(τ:DS)(M:MH):Prop:=to τ M λ w M1=>ti τ M1 λ w' M2=>∃ a ws i j n,w=.m a/\w'=.d (.int i)/\M2 a=some (.lst ws)/\ixN ws.length i=some j/\ws[j]? =some (.d (.int n)) /\
 te τ M2 λ y M3=>∃ n',y=.d (.int n')/\M3=M2/\D.nx τ (aE M3 a (.lst (ws.set j (.d (.int (f n n'))))))
theorem oO{o i e:Expr}{to ti te:TD}{op:Operator}{f:Int->Int->Int}{pos tpos:Pos}(ho:PD X o to)(hi:PD X i ti)(he:PD X e te)(hp:PIp X op (ipI f))
  (ha:∀ ov iv new,augStore i ov iv new=(do holding [new,ov,iv] (setItem ov iv new);release [new,ov,iv] [];pure .next):=by intros;rfl):PSd X (.AugAssign (.Subscript o i tpos) op e pos) (aaU to ti te f):=
 qb (yO ho hi aaZ he hp set_list ha) λ D σ H h=>by
  obtain⟨τ,M,Dd,A,h,k1,_⟩:=h;refine⟨τ,M,_,A,h,λ x H1 wo M1 kp1 r1 m1 q1=>⟨τ,M1,_,A.go kp1 m1,q1,λ y H2 wi M2 kp2 r2 m2 q2=>?_⟩⟩;obtain⟨a,ws,i,j,n,e1,e2,hm,hj,hn,q⟩:=q2;subst e1;subst e2;simp only[aD,aA] at r1 r2;obtain⟨vs,e3,rw1⟩:=m2 a _ hm;obtain⟨v,e4,rv⟩:=rw1.get hn;simp only[aD,aA] at rv;have hj':ixN vs.length i=some j:=by rw[<- rw1.length];exact hj
  refine⟨a,vs,i,v,r1,r2,SqL.of e3,by unfold atI;rw[hj'];exact e4,?_⟩;refine⟨τ,M2,_,A.go (kp1.trans kp2) m2,q,λ z H3 wz M3 kp3 r3 m3 q3=>?_⟩;obtain⟨n',e5,e6,qn⟩:=q3;subst e5;subst e6;simp only[aD,aA] at r3;refine⟨n,n',rv,r3,?_⟩;obtain⟨vs',e3',rw2⟩:=m3 a _ hm;have kp:=(kp1.trans kp2).trans kp3;obtain⟨kp4,m4⟩:=zo (j:=j) (v:=.int (f n n')) (w:=.d (.int (f n n'))) m3 e3' rw2 (by simp[aD,aA]);exact⟨a,vs',i,j,r1,r2,e3',by rw[<- rw2.length];exact hj,k1 σ _ τ _ (kp.trans kp4) (A.go (kp.trans kp4) m4) qn⟩
end
section
variable {X:Cx}{K:PySem.W.Frag}{tg:Expr}
def Its(z:Str):It:=⟨λ i _=>i<z.cps.size,λ i H x H'=>H'=H/\∃ c,z.cps[i]? =some c/\x=.str ⟨#[c]⟩,λ i _=>z.cps.size<=i⟩
theorem uf{P:Program}{w:World}{K:PySem.W.Frag}{tg:Expr}(it:Addr)(T:String)(z:Str)(t:Tok)
  (hT:["enumerate", "zip", "dict_itemiterator", "dict_reverseitemiterator", "odict_iterator", "itertools.zip_longest", "itertools.pairwise"].contains T=false)
  (W:∀ A:Around,A.handled=none->Walks P w A it [it] [it] z.cps.size (SignAt z) (λ i h=>h.IsStrIter it T z t i))(hself:∀ (A:Around) (i:Nat) (s:Shared) (Q:Value->Shared->Prop) (E:Value->Shared->Prop),s.heap.IsStrIter it T z t i->Q (.ref it) s->wpAny (model P w) A (pyIter (.ref it)) Q E s)
  (hend:∀ (A:Around) (i:Nat) (s:Shared) (Q:Option Value->Shared->Prop) (E:Value->Shared->Prop),A.handled=none->s.heap.IsStrIter it T z t i->z.cps[i]? =none->(∀ h',Heap.ExtBut it s.heap h'->Q none {s with heap:=h'})->wpAny (model P w) A (pyNext (.ref it)) Q E s) :
  Turn P w K tg (Its z) [it] it (λ i h=>h.IsStrIter it T z t i) where
 mem:=by simp
 obj:=λ i h st b hb=>by
  have e:b=it:=by simpa using hb
  subst e;obtain⟨o,e,c,d⟩:=st;exact⟨o,e,λ v q=>by rw[d] at q;cases q⟩
 keep:=λ i h h' st k=>by obtain⟨o,e,r⟩:=st;exact⟨o,k it (by simp) o e,r⟩
 item:=by intro X hP hw hK hc i pins s σ H E I hf st hg;subst hP hw hK;obtain⟨f0,f1,f2,f3,f4,f5⟩:=hf it (by simp);refine(W X.A (I.ok.hd hc)).item i s _ _ hg st λ v h' tk hv st' kk=>?_;obtain⟨c,u,hc',rfl⟩:=hv;have I1:Inv X pins σ H {s with heap:=h',toks:=tk}:=I.turned (λ b o hb e=>kk b o (by simpa using hb) e) f0 f1 f3 f4 f5;obtain⟨o,e,cl,d⟩:=id st';exact⟨_,rfl,vA (s:={s with heap:=h',toks:=tk}) e cl d hT ⟨.str ⟨#[c]⟩,H,I1,⟨u,rfl⟩,⟨rfl,c,hc',rfl⟩,st',λ b hb=>(hf b hb).1⟩⟩
 done:=by intro X hP hw hK hc i pins s σ H E I hf st hg;subst hP hw hK;obtain⟨f0,f1,f2,f3,f4,f5⟩:=hf it (by simp);have hn:z.cps.size<=i:=hg;exact hend X.A i s _ E (I.ok.hd hc) st (by simp[hn]) λ h' eb=>⟨rfl,I.turned (t':=s.toks) (λ b o hb e=>eb b o hb e) f0 f1 f3 f4 f5⟩
 self:=hself
section
variable {pins:List (Addr×Obj)}{σ:St}{H:Hp}{s:Shared}{R:It->Hp->Prop}{E:Value->Shared->Prop}
theorem afH{z:Str}{t:Tok}(I:Inv X pins σ H s)(q:R (Its z) H):wpAny (model X.prog X.w) X.A (pyIter (.str z t)) (PIE X pins σ tg R) E s:=by
 cases ha:z.cps.all (·<128)
 ·refine wpAny_pyIter_wide ha ?_;refine⟨s.heap.objs.size,[s.heap.objs.size],_,_,H,rfl,I.kept (t':=s.toks) λ b o e=>Heap.get?_push_of_some _ e,
   uf _ "str_iterator" z t (by decide) (λ A hA=>Walks.strWide hA _ z t) (λ A i s Q E st h=>wpAny_pyIter_striter_wide st h) (λ A i s Q E hh st hx hQ=>wpAny_pyNext_wide_end hh st hx hQ),⟨_,Heap.get?_push_size _ rfl,rfl,rfl⟩,λ b hb=>?_,q⟩
  have e:b=s.heap.objs.size:=by simpa using hb
  subst e;exact I.p9 (Nat.le_refl _) (I.hok.fresh (Nat.le_refl _))
 ·refine wpAny_pyIter_ascii ha ?_;refine⟨s.heap.objs.size,[s.heap.objs.size],_,_,H,rfl,I.kept (t':=s.toks) λ b o e=>Heap.get?_push_of_some _ e,
   uf _ "str_ascii_iterator" z t (by decide) (λ A hA=>Walks.strAscii hA _ z t) (λ A i s Q E st h=>wpAny_pyIter_striter_ascii st h) (λ A i s Q E hh st hx hQ=>wpAny_pyNext_ascii_end hh st hx hQ),⟨_,Heap.get?_push_size _ rfl,rfl,rfl⟩,λ b hb=>?_,q⟩
  have e:b=s.heap.objs.size:=by simpa using hb
  subst e;exact I.p9 (Nat.le_refl _) (I.hok.fresh (Nat.le_refl _))
theorem aee{a:Addr}{xs:List V}(I:Inv X pins σ H s)(hq:SqL X.K H a xs)(q:R (Itl X.K a) H):wpAny (model X.prog X.w) X.A (pyIter (.ref a)) (PIE X pins σ tg R) E s:=by
 obtain⟨its,rv,p,hz⟩:=I.list hq;refine wpAny_pyIter_list p.isList ?_;refine⟨s.heap.objs.size,[s.heap.objs.size],_,_,H,rfl,I.kept (t':=s.toks) λ b o e=>Heap.get?_push_of_some _ e,zl a _,⟨_,Heap.get?_push_size _ rfl,rfl,rfl⟩,λ b hb=>?_,q⟩;have e:b=s.heap.objs.size:=by simpa using hb
 subst e;exact I.p9 (Nat.le_refl _) (I.hok.fresh (Nat.le_refl _))
theorem agL{a:Addr}{xs:List V}(I:Inv X pins σ H s)(hq:SqT X.K H a xs)(q:R (Itt X.K a) H):wpAny (model X.prog X.w) X.A (pyIter (.ref a)) (PIE X pins σ tg R) E s:=by
 obtain⟨its,rv,p,hz⟩:=I.tuple hq;refine wpAny_pyIter_tuple (show s.heap.IsTuple a its.toArray from p) ?_;refine⟨s.heap.objs.size,[s.heap.objs.size],_,_,H,rfl,I.kept (t':=s.toks) λ b o e=>Heap.get?_push_of_some _ e,vV a _,⟨_,Heap.get?_push_size _ rfl,rfl,rfl⟩,λ b hb=>?_,q⟩;have e:b=s.heap.objs.size:=by simpa using hb
 subst e;exact I.p9 (Nat.le_refl _) (I.hok.fresh (Nat.le_refl _))
end
def aiU(K:PySem.W.Frag)(tl:TE):TI:=λ σ H R=>tl σ H λ x H1=>(∃ a xs,x=.ref a/\SqL K H1 a xs/\R (Itl K a) H1)\/(∃ a xs,x=.ref a/\SqT K H1 a xs/\R (Itt K a) H1)\/∃ z,x=.str z/\R (Its z) H1
theorem agN{l:Expr}{tl:TE}(hl:PE X l tl):PI X tg l (aiU X.K tl):=by
 intro pins s σ H R I h;refine thn (hl pins s σ H _ I h) λ v s1 hq49=>?_;obtain⟨x,H1,I1,r1,q1⟩:=hq49;rcases q1 with ⟨a,xs,e,hq,q⟩ | ⟨a,xs,e,hq,q⟩ | ⟨z,e,q⟩
 ·subst e;cases r1;exact aee I1 hq q
 ·subst e;cases r1;exact agL I1 hq q
 ·subst e;obtain⟨t,rfl⟩:=r1;exact afH I1 q
def ItD(K:PySem.W.Frag)(J:It)(H0:Hp)(ws:List W):Prop:=∀ H,Kp H0 H->∀ i:Nat,(i<ws.length->J.go i H)/\(ws.length<=i->J.stop i H) /\
 ∀ x H',i<ws.length->J.yld i H x H'->Kp H H'/\(∀ M,cK K H M->cK K H' M)/\∃ w,ws[i]? =some w/\aD K H' w x
abbrev TId:=DS->MH->(List W->MH->Prop)->Prop
def upI(K:PySem.W.Frag)(t:TId):TI:=λ σ H R=>∃ τ M Rd,Abs K H σ τ M/\t τ M Rd/\∀ J H' ws M',Kp H H'->cK K H' M'->ItD K J H' ws->Rd ws M'->R J H'
abbrev PId(X:Cx)(tg iter:Expr)(t:TId):Prop:=PI X tg iter (upI X.K t)
theorem aet{iter:Expr}{t t':TI}(h:PI X tg iter t)(k:∀ σ H R,t' σ H R->t σ H R):PI X tg iter t':=λ pins s σ H R I q=>h pins s σ H R I (k σ H R q)
def kT:W->Option (List W)
 | .d (.list ds)=>some (ds.map W.d)
 | .d (.tuple ds)=>some (ds.map W.d)
 | .d (.str z)=>some (z.cps.toList.map λ c=>W.d (.str ⟨#[c]⟩))
 | _=>none
def bX(te:TD)(τ:DS)(M:MH)(R:List W->MH->Prop):Prop:=te τ M λ w M1=>∃ ws,kT w=some ws/\R ws M1
theorem acB{H:Hp}{a:Addr}{vs:List V}{ds:List PyData}(hs:SqT K H a vs)(ra:bf K H ds vs):ItD K (Itt K a) H (ds.map W.d):=λ H1 kp i=>by
 have hl:=ra.length;refine⟨λ hi=>?_,λ hi=>⟨vs,SqT.keep kp hs,by rw[List.length_map] at hi;omega⟩,λ x H' hi y=>?_⟩
 ·rw[List.length_map] at hi;exact⟨vs,vs[i]'(by omega),SqT.keep kp hs,by simp⟩
 ·obtain⟨e,y⟩:=y;subst e;have ev:=y vs (SqT.keep kp hs);obtain⟨d,e1,rd⟩:=(ra.keep kp).get' ev;exact⟨Kp.refl _,λ M m=>m,.d d,by simp[e1],rd⟩
theorem adH{H:Hp}(z:Str):ItD K (Its z) H (z.cps.toList.map λ c=>W.d (.str ⟨#[c]⟩)):=λ H1 kp i=>by refine⟨λ hi=>(show i<z.cps.size by simpa using hi),λ hi=>(show z.cps.size<=i by simpa using hi),λ x H' hi y=>?_⟩;obtain⟨e,c,hc,ex⟩:=y;subst e;subst ex;exact⟨Kp.refl _,λ M m=>m,.d (.str ⟨#[c]⟩),by simp[hc],by simp[aD,aA]⟩
theorem ael{H:Hp}(lo:Int)(n:Nat):ItD K (Itr lo n) H ((List.range n).map λ i:Nat=>W.d (.int (lo+(i:Int)))):=λ H1 kp i=>by refine⟨λ hi=>(show i<n by simpa using hi),λ hi=>(show n<=i by simpa using hi),λ x H' hi y=>?_⟩;obtain⟨e,ex⟩:=y;subst e;subst ex;simp at hi;exact⟨Kp.refl _,λ M m=>m,.d (.int (lo+i)),by simp[hi],by simp[aD,aA]⟩
theorem aP{l:Expr}{te:TD}(h:PD X l te):PId X tg l (bX te):=aet (agN h) λ σ H R hq50=>by
 obtain⟨τ,M,Rd,A,h,k⟩:=hq50;refine⟨τ,M,_,A,h,λ v H1 w M1 kp r m hq51=>?_⟩;obtain⟨ws,e,q⟩:=hq51;cases w with
 | t n=>simp[kT] at e
 | m a=>simp[kT] at e
 | d d =>
  cases d with
  | list ds =>
   simp only[kT] at e;cases e;simp only[aD,aA] at r;obtain⟨a,vs,e1,hs,ra⟩:=r;refine .inl ⟨a,vs,e1,hs.sq,k _ H1 _ M1 kp m ?_ q⟩;intro H2 kp2 i;have hl:=ra.length;have hs2:=(hs.keep kp2).sq;refine⟨λ hi=>?_,λ hi=>⟨vs,hs2,by rw[List.length_map] at hi;omega⟩,λ x H' hi y=>?_⟩
   ·rw[List.length_map] at hi;exact⟨vs,vs[i]'(by omega),hs2,by simp⟩
   ·obtain⟨e,y⟩:=y;subst e;have ev:=y vs hs2;obtain⟨d,e1,rd⟩:=(ra.keep kp2).get' ev;exact⟨Kp.refl _,λ M m=>m,.d d,by simp[e1],rd⟩
  | tuple ds =>
   simp only[kT] at e;cases e;simp only[aD,aA] at r;obtain⟨a,vs,e1,hs,ra⟩:=r;exact .inr (.inl ⟨a,vs,e1,hs,k _ H1 _ M1 kp m (acB hs ra) q⟩)
  | str z =>
   simp only[kT] at e;cases e;simp only[aD,aA] at r;exact .inr (.inr ⟨z,r,k _ H1 _ M1 kp m (adH z) q⟩)
  | _=>simp[kT] at e
def ef(lo:Int)(n:Nat):List W:=(List.range n).map λ i:Nat=>W.d (.int (lo+(i:Int)))
def oy(ta:TAd)(τ:DS)(M:MH)(R:List W->MH->Prop):Prop:=ta τ M λ ws M1=>∃ j:Int,ws=[.d (.int j)]/\-(2 ^ 62)<=j/\j<2 ^ 62/\R (ef 0 j.toNat) M1
theorem fZ{H:Hp}{vs:List V}{w:W}(r:aN K H [w] vs):∃ v,vs=[v]/\aD K H w v:=by
 cases r with
 | cons r1 r2=>cases r2;exact⟨_,rfl,r1⟩
theorem yW{H:Hp}{vs:List V}{w w':W}(r:aN K H [w,w'] vs):∃ v v',vs=[v,v']/\aD K H w v/\aD K H w' v':=by
 cases r with
 | cons r1 r2 =>
  cases r2 with
  | cons r3 r4=>cases r4;exact⟨_,_,rfl,r1,r3⟩
theorem cC{a:Expr}{ta:TAd}{p pos:Pos}(hg:Gl X "range")(hm:X.mg "range" = none)(ha:PAd X [a] ta)(hs:starEach [a] X.env=[(false,eval a X.env)]:=by rfl):PId X tg (.Call (.Name "range" p) [a] [] pos) (oy ta):=
 aet (zp hg hm ha hs) λ σ H R ⟨τ,M,Rd,A,h,k⟩=>⟨τ,M,_,A,h,λ vs H1 ws M1 kp r m hq52=>by obtain⟨j,e,h1,h2,q⟩:=hq52;subst e;obtain⟨v,e1,r1⟩:=fZ r;simp only[aD,aA] at r1;subst r1;exact⟨j,e1,h1,h2,k _ H1 _ M1 kp m (ael 0 j.toNat) q⟩⟩
def yC(di:TId)(g:TGd)(tb:TSd)(D:Ed)(τ:DS)(M:MH):Prop:=di τ M λ ws M1=>∃ P:Nat->DS->MH->Prop,P 0 τ M1 /\
 (∀ i w τ M,ws[i]? =some w->P i τ M->g w τ M λ τ2 M2=>tb {D with nx:=P (i+1),ct:=P (i+1),bk:=D.nx} τ2 M2)/\∀ τ M,P ws.length τ M->D.nx τ M
theorem eJ{iter:Expr}{body:List Stmt}{di:TId}{g:TGd}{tb:TSd}{pos:Pos}(hp:PassesOwn (model X.prog X.w) X.A X.env X.xe)(hc:X.calm=true)(hi:PId X tg iter di)(hg:PGd X tg g)(hb:o7 X body tb)
  (hs:∀ x,foldedSetIterable iter X.env x=pure x:=by intro _;rfl):PSd X (.For tg iter body [] pos) (yC di g tb):=qb (agc hp hc hi hg hb hs) λ D σ H hq53=>by
 obtain⟨τ,M,Dd,A,h,k1,k2,k3,k4⟩:=hq53;refine⟨τ,M,_,A,h,λ J H1 ws M1 kp m1 it hq54=>?_⟩;obtain⟨P,p0,pt,pe⟩:=hq54;refine⟨λ i n σ H'=>n=ws.length-i/\i<=ws.length/\Kp H1 H'/\∃ τ M,Abs X.K H' σ τ M/\P i τ M,⟨ws.length,by simp,Nat.zero_le _,Kp.refl _,τ,M1,A.go kp m1,p0⟩,?_⟩;rintro i n σ2 H2 ⟨rfl,hi,kp2,τ2,M2,A2,p2⟩;obtain⟨go,stop,yld⟩:=it H2 kp2 i
 by_cases hlt:i<ws.length
 ·refine .inr ⟨go hlt,λ σ3 H3=>Kp H2 H3/\∃ τ M,Abs X.K H3 σ3 τ M/\P (i+1) τ M,λ σ3 H3 ⟨kp3,τ3,M3,A3,p3⟩=>⟨ws.length-(i+1),by omega,rfl,hlt,kp2.trans kp3,τ3,M3,A3,p3⟩,λ x H3 y=>?_⟩;obtain⟨kp3,mk,w,ew,rw⟩:=yld x H3 hlt y;refine⟨w,τ2,M2,_,rw,A2.go kp3 (mk _ A2.mem),pt i w τ2 M2 ew p2,λ σ4 H4 τ4 M4 kp4 A4 q4=>?_⟩;have kq:=kp3.trans kp4;have kr:=(kp.trans kp2).trans kq;exact⟨τ4,M4,_,A4,q4,λ σ5 H5 τ5 M5 kp5 A5 q5=>⟨kq.trans kp5,τ5,M5,A5,q5⟩,λ v H5 w M5 kp5=>k2 v H5 w M5 (kr.trans kp5),λ σ5 H5 τ5 M5 kp5=>k1 σ5 H5 τ5 M5 (kr.trans kp5),λ σ5 H5 τ5 M5 kp5 A5 q5=>⟨kq.trans kp5,τ5,M5,A5,q5⟩⟩
 ·have hl:i=ws.length:=by omega
  subst hl;exact .inl ⟨stop (Nat.le_refl _),k1 σ2 H2 τ2 M2 (kp.trans kp2) A2 (pe τ2 M2 p2)⟩
def abX(k:Nat)(fr:List Nat)(τ:DS):DS:=List.replicate k none++fr.map λ j=>(τ[j]?).getD none
theorem qj{H:Hp}{σ:St}{τ:DS}{M:MH}(A:Abs K H σ τ M)(k:Nat)(fr:List Nat):Abs K H (lcS k fr σ) (abX k fr τ) M:=by
 refine⟨by simp[lcS,abX],λ i w e=>?_,A.mem⟩;unfold abX at e
 by_cases hi:i<k
 ·rw[List.getElem?_append_left (by simpa using hi),List.getElem?_replicate] at e
  split at e<;>cases e
 ·rw[List.getElem?_append_right (by simpa using hi),List.getElem?_map,List.length_replicate] at e;cases q:fr[i-k]? with
  | none=>rw[q] at e;cases e
  | some j =>
   rw[q] at e;have e':(τ[j]?).getD none=some w:=Option.some.inj e;have e2:τ[j]? =some (some w):=by
    cases z:τ[j]? with
    | none=>rw[z] at e';cases e'
    | some o=>rw[z] at e';exact congrArg some e'
   obtain⟨v,q1,r⟩:=A.val j w e2;refine⟨v,?_,r⟩;unfold lcS;rw[List.getElem?_append_right (by simpa using hi),List.getElem?_map,List.length_replicate,q];simp[q1]
def dLC(di:TId)(g:TGd)(tt:TTd)(te:TD)(k:Nat)(fr:List Nat)(τ:DS)(M:MH)(Q:QD):Prop:=di τ M λ ws M1=>∃ P:Nat->List PyData->DS->MH->Prop,P 0 [] (abX k fr τ) M1 /\
 (∀ i w acc τ M,ws[i]? =some w->P i acc τ M->acc.length<sizeLine/\g w τ M λ τ2 M2=>tt τ2 M2 λ b M3=>if b=true then te τ2 M3 λ y M4=>∃ d,y=.d d/\P (i+1) (acc++[d]) τ2 M4 else P (i+1) acc τ2 M3) /\
 ∀ acc τ M,P ws.length acc τ M->Q (.d (.list acc)) M
theorem abY{di:TId}{g:TGd}{tt:TTd}{te:TD}{k:Nat}{fr:List Nat}{σ:St}{H:Hp}{Q:VK}(h:up K (dLC di g tt te k fr) σ H Q) :
  aih (tLC (upI K di) (upG K g) (upT K tt) (up K te) k fr) σ H Q:=by
 obtain⟨τ,M,Qd,A,h,kk⟩:=h;refine⟨τ,M,_,A,h,λ J H1 ws M1 kp m1 it hq55=>?_⟩;obtain⟨P,p0,pt,pe⟩:=hq55;refine⟨λ i n ys σ' H'=>n=ws.length-i/\i<=ws.length/\Kp H1 H'/\∃ acc τ M,bf K H' acc ys/\Abs K H' σ' τ M/\P i acc τ M,⟨ws.length,by simp,Nat.zero_le _,Kp.refl _,[],_,M1,by simp[bf],qj (A.go kp m1) k fr,p0⟩,?_⟩;rintro i n ys σ2 H2 ⟨rfl,hi,kp2,acc,τ2,M2,ra,A2,p2⟩;obtain⟨go,stop,yld⟩:=it H2 kp2 i
 by_cases hlt:i<ws.length
 ·have hlen:=ra.length;refine .inr ⟨go hlt,?_,λ x H3 y=>?_⟩
  ·obtain⟨w,hw⟩:∃ w,ws[i]? =some w:=⟨ws[i],by simp[hlt]⟩;have:=(pt i w acc τ2 M2 hw p2).1;omega
  obtain⟨kp3,mk,w,ew,rw⟩:=yld x H3 hlt y;refine⟨w,τ2,M2,_,rw,A2.go kp3 (mk _ A2.mem),(pt i w acc τ2 M2 ew p2).2,λ σ4 H4 τ4 M4 kp4 A4 q4=>⟨τ4,M4,_,A4,q4,λ b H5 M5 kp5 m5 q5=>?_⟩⟩;have kq:=(kp3.trans kp4).trans kp5;cases b with
  | false =>
   rw[if_neg Bool.false_ne_true] at q5;show(if false=true then _ else _);rw[if_neg Bool.false_ne_true];exact⟨ws.length-(i+1),by omega,rfl,hlt,kp2.trans kq,acc,τ4,M5,ra.keep kq,A4.go kp5 m5,q5⟩
  | true =>
   rw[if_pos rfl] at q5;show(if true=true then _ else _);rw[if_pos rfl];refine⟨τ4,M5,_,A4.go kp5 m5,q5,λ v H6 wv M6 kp6 r6 m6 hq56=>?_⟩;obtain⟨d,e6,q6⟩:=hq56;subst e6;refine⟨ws.length-(i+1),by omega,rfl,hlt,kp2.trans (kq.trans kp6),acc++[d],τ4,M6,bf.append (ra.keep (kq.trans kp6)) ?_,A4.go (kp5.trans kp6) m6,q6⟩;simp only[bf];exact⟨v,[],rfl,r6,rfl⟩
 ·have hl:i=ws.length:=by omega
  subst hl;exact .inl ⟨stop (Nat.le_refl _),λ p hp=>pL hp ra A2.mem (pe acc τ2 M2 p2) (kgo kk (kp.trans kp2))⟩
section
variable {sc:Scope}{own:List Str}{fr:List Nat}{elt iter:Expr}{ifs:List Expr}{pos:Pos}{di:TId}{g:TGd}{tt:TTd}{te:TD}
abbrev mW(X:Cx)(ifs:List Expr)(t:TTd):Prop:=PTs X ifs (upT X.K t)
def n8(_:DS)(M:MH)(Q:Bool->MH->Prop):Prop:=Q true M
theorem bH:mW X [] n8:=λ pins s σ H Q I ⟨τ,M,Qd,A,q,k⟩=>ac5 pins s σ H Q I (k true H M (Kp.refl H) A.mem q)
theorem cA{c:Expr}{t:TTd}(h:PTd X c t):mW X [c] t:=acX h
theorem j8(hc:X.calm=true)(L:jN X sc own fr)(hi:PId X tg iter di)
  (hg:∀ cl C s H ex pl,PGd (blk X sc (lcN X own fr) cl C s H ex pl) tg g)(ht:∀ cl C s H ex pl,mW (blk X sc (lcN X own fr) cl C s H ex pl) ifs tt)(he:∀ cl C s H ex pl,PD (blk X sc (lcN X own fr) cl C s H ex pl) elt te)
  (hs:∀ x,foldedSetIterable iter X.env x=pure x:=by intro _;rfl):PD X (.ListComp elt [⟨tg,iter,ifs,0⟩] sc pos) (dLC di g tt te own.length fr):=
 eQ (uO (acU hc L hi hg ht he hs)) λ σ H Q h=>abY h
theorem aeU{st:Stmt}{t:TS}(h:PS X st t):PS X st (λ D σ H=>t {D with nx:=λ σ' H'=>∃ p u,H' p=some u/\Fz u/\∀ o,D.nx σ' (upd H' p (.frz o u))} σ H):=by
 intro pins s σ H D I hq;refine thn (h pins s σ H _ I hq) λ f s1 q=>?_;cases f with
 | next =>
  obtain⟨σ',H',I',p,u,e,fz,q⟩:=q;obtain⟨o,I2⟩:=I'.freeze e fz;exact⟨σ',_,I2,q o⟩
 | brk=>exact q
 | cont=>exact q
 | ret v=>exact q
theorem d6{i:Nat}{x:Str}{pos' spos:Pos}(hN:X.N.Nodup)(hi':X.N[i]? =some x)(hx:Loc X.env.scope x)(hc:X.calm=true)(L:jN X sc own fr)(hi:PId X tg iter di)
  (hg:∀ cl C s H ex pl,PGd (blk X sc (lcN X own fr) cl C s H ex pl) tg g)(ht:∀ cl C s H ex pl,mW (blk X sc (lcN X own fr) cl C s H ex pl) ifs tt)(he:∀ cl C s H ex pl,PD (blk X sc (lcN X own fr) cl C s H ex pl) elt te)
  (hsw:swapsWith (.ListComp elt [⟨tg,iter,ifs,0⟩] sc pos) (some (.Name x pos')) spos.line X.env=pure true:=by rfl)
  (hs:∀ x,foldedSetIterable iter X.env x=pure x:=by intro _;rfl)(hf:X.fn x=true\/X.env.scope.names.lookup x=some .local:=by first | exact .inl rfl | exact .inr rfl | assumption) :
  PSd X (.Assign [.Name x pos'] (.ListComp elt [⟨tg,iter,ifs,0⟩] sc pos) spos) (bD (dLC di g tt te own.length fr) (gN i)):=qb (aeU (oG hN hi' hx hc L hi hg ht he hsw hs hf)) λ D σ H hq57=>by
 obtain⟨τ,M,Dd,A,h,k1,_⟩:=hq57;have z:up X.K (dLC di g tt te own.length fr) σ H (λ v H'=>D.nx (σ.set i (some v)) H'):=⟨τ,M,_,A,h,λ v H1 w M1 kp r m q=>k1 _ H1 _ M1 kp ((A.go kp m).set i r) q⟩;obtain⟨τ',M',R',A',h',k'⟩:=abY z;refine⟨τ',M',R',A',h',λ J H1 ws M1 kp m1 it q=>?_⟩;obtain⟨W,w0,st⟩:=k' J H1 ws M1 kp m1 it q;refine⟨W,w0,λ i m ys τ H w=>?_⟩;rcases st i m ys τ H w with ⟨s1,s2⟩ | r
 ·refine .inl ⟨s1,λ p hp=>?_⟩;obtain⟨p',u,e1,e2,f,q⟩:=s2 p hp;cases e1;exact⟨p,u,e2,f,q⟩
 ·exact .inr r
end
end
section
variable {X:Cx}{K:PySem.W.Frag}
def agG(ws:List W)(M:MH)(Q:QD):Prop:=∃ i:Int,ws=[.d (.int i)]/\Q (.d (.int (if i<0 then -i else i))) M
theorem aeA:hZ K (λ xs H Q=>∃ i,xs=[.int i]/\Q (.int (if i<0 then -i else i)) H) agG:=by intro vs H ws M Qd Q r m ⟨i,e,q⟩ k;subst e;obtain⟨v,e1,r1⟩:=fZ r;simp only[aD,aA] at r1;subst r1;exact⟨i,e1,k _ H (.d (.int _)) M (Kp.refl H) (by simp[aD,aA]) m q⟩
def aaP(M:MH):W->Option Nat
 | .d (.list ds)=>some ds.length
 | .d (.tuple ds)=>some ds.length
 | .d (.str z)=>some z.length
 | .m a=>match M a with
  | some (.lst ws)=>some ws.length
  | _=>none
 | _=>none
def ow(ws:List W)(M:MH)(Q:QD):Prop:=∃ w n,ws=[w]/\aaP M w=some n/\aaa w=true/\Q (.d (.int (n:Nat))) M
theorem j5:hZ K (λ xs H Q=>∃ x n,xs=[x]/\ain K x H n/\Q (.int n) H) ow:=by
 intro vs H ws M Qd Q r m ⟨w,n,e,hn,hf,q⟩ k;subst e;obtain⟨v,e1,r1⟩:=fZ r;refine⟨v,n,e1,?_,k _ H (.d (.int _)) M (Kp.refl H) (by simp[aD,aA]) m q⟩;cases w with
 | t _=>simp[aaP] at hn
 | m a =>
  simp only[aD] at r1;subst r1;simp only[aaP] at hn;cases hm:M a with
  | none=>rw[hm] at hn;cases hn
  | some mo =>
   rw[hm] at hn;cases mo with
   | lst l=>cases hn;obtain⟨us,e2,rw1⟩:=m a _ hm;exact .inl ⟨us,SqL.of e2,rw1.length⟩
   | dic _=>cases hn
   | dct _=>cases hn
   | fdic _=>cases hn
   | ins _ _=>cases hn
   | tup _=>cases hn
   | flst _=>cases hn
   | exc _ _=>cases hn
   | code _ _=>cases hn
 | d d =>
  cases d with
  | list ds=>simp only[aaP] at hn;cases hn;simp only[aD,aA] at r1;obtain⟨a,us,e2,hs,ra⟩:=r1;subst e2;exact .inl ⟨us,hs.sq,ra.length.symm⟩
  | tuple ds=>simp only[aaP] at hn;cases hn;simp only[aD,aA] at r1;obtain⟨a,us,e2,hs,ra⟩:=r1;subst e2;exact .inr ⟨us,hs,ra.length.symm⟩
  | str z=>simp only[aaP] at hn;cases hn;simp only[aD,aA] at r1;subst r1;exact⟨of_decide_eq_true hf,rfl⟩
  | _=>simp[aaP] at hn
def adx(ws:List W)(M:MH)(Q:QD):Prop:=∃ bs:List Bool,ws=[.d (.list (bs.map PyData.bool))]/\Q (.d (.bool (bs.all id))) M
theorem ab5:hZ K (λ xs H Q=>∃ (x:V) (bs:List Bool),xs=[x]/\aA K H (.list (bs.map PyData.bool)) x/\Q (.bl (bs.all id)) H) adx:=by intro vs H ws M Qd Q r m ⟨bs,e,q⟩ k;subst e;obtain⟨v,e1,r1⟩:=fZ r;exact⟨v,bs,e1,r1,k _ H (.d (.bool _)) M (Kp.refl H) (by simp[aD,aA]) m q⟩
theorem uT{H:Hp}:∀ {ys:List Str} {vs:List V} {us:List Value},bf K H (ys.map PyData.str) vs->Vals vs us->StrsAre us ys
 | [],vs,us,h,r=>by simp only[List.map_nil,bf] at h;subst h;cases r;exact .nil
 | y::ys,vs,us,h,r=>by
  simp only[List.map_cons,bf] at h;obtain⟨v,vr,e,h1,h2⟩:=h;subst e;simp only[aA] at h1;subst h1;cases r with
  | cons r1 r2 =>
   obtain⟨t,e⟩:=(show ∃ t,_=Value.str y t from r1);subst e;exact .cons _ _ (uT h2 r2)
def MtD(K:PySem.W.Frag)(r:V->List V->Hp->VK->Prop)(rd:W->List W->MH->QD->Prop):Prop:=∀ x vs H w ws M Qd Q,aD K H w x->aN K H ws vs->cK K H M->rd w ws M Qd->Kont K H Qd Q->r x vs H Q
def dMS(rd:W->List W->MH->QD->Prop)(to:TD)(t:TAd)(τ:DS)(M:MH)(Q:QD):Prop:=to τ M λ w M1=>(∃ z,w=.d (.str z))/\t τ M1 λ ws M2=>rd w ws M2 Q
theorem ahD{o e:Expr}{es:List Expr}{to:TD}{t:TAd}{name:Str}{apos cpos:Pos}{id:String}{r:V->List V->Hp->VK->Prop}{rd:W->List W->MH->QD->Prop}(slot:Slot "str" name id)(hty:typeOf (.builtin id)=pure (.type "method_descriptor"))(hm:MtR X id r)(hd:MtD X.K r rd)(ho:PD X o to)(ha:PAd X (e::es) t)
  (hbase:attributeBase o name X.env (eval o X.env)=eval o X.env:=by rfl)
  (hfew:((backTo cpos (starEach (e::es) X.env)).all (λ x=>!x.1)&&(backToKw cpos (keywordEach [] X.env)).all (λ x=>x.1.isSome)
   && decide ((e::es).length+([]:List Keyword).length+(if ([]:List Keyword).isEmpty then 0 else 1)<30))=true:=by rfl)
  (hline:(apos.endLine==cpos.line)=true:=by rfl)(hs:starEach (e::es) X.env=(false,eval e X.env)::starEach es X.env:=by rfl)(hplain:(backTo cpos (starEach es X.env)).any (·.1)=false:=by rfl) :
  PD X (.Call (.Attribute o name apos) (e::es) [] cpos) (dMS rd to t):=eQ (aaG PySem.F.plainAttrs_str slot hty hm ho ha hbase hfew hline hs hplain) λ σ H Q hq58=>by
 obtain⟨τ,M,Qd,A,h,k⟩:=hq58;refine⟨τ,M,_,A,h,λ x H1 w M1 kp1 r1 m1 hq59=>?_⟩;obtain⟨⟨z,ez⟩,q1⟩:=hq59;subst ez;have r1':=r1;simp only[aD,aA] at r1';subst r1';exact⟨rfl,τ,M1,_,A.go kp1 m1,q1,λ vs H2 ws M2 kp2 r2 m2 q2=>hd _ vs H2 _ ws M2 Qd Q (r1.keep kp2) r2 m2 q2 (kgo k (kp1.trans kp2))⟩
def rJoin(K:PySem.W.Frag):V->List V->Hp->VK->Prop:=λ x vs H Q=>∃ (sep:Str) (v:V) (ys:List Str),x=.str sep/\vs=[v]/\aA K H (.list (ys.map PyData.str)) v/\(ys.map (·.length)).sum+ys.length * sep.length<=16777216/\Q (.str (Txt.join sep ys)) H
theorem acp:MtR X "str.join" (rJoin X.K):=by intro pins s σ H x vs v us Q I rx rv h;obtain⟨sep,y,ys,rfl,rfl,rd,hz,q⟩:=h;obtain⟨t,rfl⟩:=rx;obtain⟨u,rfl,ru⟩:=vals1 rv;simp only[aA] at rd;obtain⟨a,xs,e,hs,ra⟩:=rd;subst e;cases (show u=Value.ref a from ru);obtain⟨its,r,pl,hz'⟩:=I.list hs.sq;exact join_list pl.isList (by simpa using uT ra r) hz λ t' k=>⟨.str _,H,I.tok _,⟨_,rfl⟩,q⟩
def u4(w:W)(ws:List W)(M:MH)(Q:QD):Prop:=∃ (sep:Str) (ys:List Str),w=.d (.str sep)/\ws=[.d (.list (ys.map PyData.str))]/\(ys.map (·.length)).sum+ys.length * sep.length<=16777216/\Q (.d (.str (Txt.join sep ys))) M
theorem acH:MtD K (rJoin K) u4:=by intro x vs H w ws M Qd Q r1 r2 m ⟨sep,ys,e1,e2,hz,q⟩ k;subst e1;subst e2;obtain⟨v,e3,r3⟩:=fZ r2;simp only[aD,aA] at r1;exact⟨sep,v,ys,r1,e3,r3,hz,k _ H (.d (.str _)) M (Kp.refl H) (by simp[aD,aA]) m q⟩
theorem sR{o e:Expr}{to te:TD}{apos cpos:Pos}(ho:PD X o to)(ha:PD X e te)
  (hbase:attributeBase o "join" X.env (eval o X.env)=eval o X.env:=by rfl)(hs:starEach [e] X.env=[(false,eval e X.env)]:=by rfl)
  (hfew:((backTo cpos (starEach [e] X.env)).all (λ x=>!x.1)&&(backToKw cpos (keywordEach [] X.env)).all (λ x=>x.1.isSome)
   && decide (([e]:List Expr).length+([]:List Keyword).length+(if ([]:List Keyword).isEmpty then 0 else 1)<30))=true:=by rfl)
  (hline:(apos.endLine==cpos.line)=true:=by rfl) :
  PD X (.Call (.Attribute o "join" apos) [e] [] cpos) (dMS u4 to (ah te aM)):=ahD PySem.F.slot_str_join PySem.F.type_str_join acp acH ho (uL ha af hs) hbase hfew hline hs
def ya:List (TD×TD)->DS->MH->(List (W×W)->MH->Prop)->Prop
 | [],_,M,Q=>Q [] M
 | (tk,tv)::r,τ,M,Q=>tk τ M λ x M1=>tv τ M1 λ y M2=>ya r τ M2 λ ps M3=>Q ((x,y)::ps) M3
theorem qU:∀ {trs:List (TD×TD)} {σ:St} {H:Hp} {τ:DS} {M:MH} {Qd:List (W×W)->MH->Prop} {Q:List (V×V)->Hp->Prop},Abs K H σ τ M->ya trs τ M Qd ->
  (∀ ps H' ws M',Kp H H'->Paired (λ(p:W×W) (q:V×V)=>aD K H' p.1 q.1/\aD K H' p.2 q.2) ws ps->cK K H' M'->Qd ws M'->Q ps H')->uQ (trs.map λ p=>(up K p.1,up K p.2)) σ H Q
 | [],σ,H,τ,M,Qd,Q,A,h,k=>k [] H [] M (Kp.refl H) .nil A.mem h
 | (tk,tv)::r,σ,H,τ,M,Qd,Q,A,h,k=>by show(up K tk) σ H _;refine⟨τ,M,_,A,h,λ x H1 w M1 kp1 r1 m1 q1=>⟨τ,M1,_,A.go kp1 m1,q1,λ y H2 w' M2 kp2 r2 m2 q2=>?_⟩⟩;refine qU (A.go (kp1.trans kp2) m2) q2 λ ps H3 ws M3 kp3 r3 m3 q3=>?_;exact k _ H3 _ M3 ((kp1.trans kp2).trans kp3) (.cons ⟨r1.keep (kp2.trans kp3),r2.keep kp3⟩ r3) m3 q3
theorem nZ:∀ {more kvs:List (Key×V)},((kvs++more).map (·.1)).Nodup->fY kvs more=kvs++more
 | [],kvs,_=>by simp[fY]
 | p::r,kvs,h=>by
  have hn:pR kvs p.1=none:=by
   cases e:pR kvs p.1 with
   | none=>rfl
   | some v =>
    have q:(kvs.any λ kv=>decide (kv.1=p.1))=true:=by rw[ko,e];rfl
    obtain⟨z,hz,ez⟩:=List.any_eq_true.mp q;rw[List.map_append,List.nodup_append] at h;exact absurd (of_decide_eq_true ez) (h.2.2 _ (List.mem_map_of_mem hz) _ (by simp))
  show fY (putK kvs p.1 p.2) r=_;rw[aaE _ hn,nZ (by simpa using h)];simp
theorem yK{H:Hp}{key:Key}{v:V}(r:aA K H (sE key) v):v=kV key:=by
 cases key<;>(simp only[sE,aA] at r;exact r)
end
structure Fn(K:PySem.W.Frag)(mg:Str->Option Value)(x:Str)(st:Stmt)(ps:List Str)(f:Addr)(fd:FuncData):Prop where
 fn:Fun K x x st f fd
 mg:mg x=some (.ref f)
 bd:Binds K fd ps []
section
variable {K:PySem.W.Frag}{mg:Str->Option Value}{h:Heap}
theorem ac8{x:Str}{st:Stmt}{ps:List Str}{f:Addr}{oc:Value}{od an:Option Addr}{osl:Array (Option Value)}{kV doc pm cdv ct:Value}(X:K.In h)(G:h.Ns mainGlobals mg)(a:PySem.W.nsIn K mainGlobals x=some (some (.ref f)))
  (l:K.lookup f=some ⟨oc,od,.func (PySem.W.fnOf x x (bx st) (bj st) (aq st) .none kV doc pm an cdv ct),osl⟩)(c:PySem.W.codeIn K cdv x=true)(k:PySem.W.keepIn K (.ref f)=true)
  (b:∀ (kV doc pm:Value) (an:Option Addr) (cdv ct:Value) (us:List Value),us.length=ps.length->bindArgs (PySem.W.fnOf x x (bx st) (bj st) (aq st) .none kV doc pm an cdv ct) ⟨us,[]⟩=pure (ps.zip us)) :
  Fn K mg x st ps f (PySem.W.fnOf x x (bx st) (bj st) (aq st) .none kV doc pm an cdv ct):=
 have F:=aci (st:=st) l c k
 ⟨F,PySem.W.mg_of X G a,F.binds b⟩
end
def agb(sc scX:Scope)(N:List Str)(fr:List Nat):Bool:=
 (sc.kind==.function)&&sc.names.all (λ y=>!(y.2==.cell))&&sc.names.all (λ y=>!(y.2==.free) || scX.names.lookup y.1==some .cell || scX.names.lookup y.1==some .free) &&
  sc.names.all (λ y=>!(y.2==.local) || sc.names.lookup y.1==some .local)&&aeB N sc fr
theorem jD{X:Cx}{sc:Scope}{own:List Str}{fr:List Nat}(h:agb sc X.env.scope X.N fr=true):jN X sc own fr:=by
 simp only[agb,Bool.and_eq_true] at h;obtain⟨⟨⟨⟨h1,h2⟩,h3⟩,h4⟩,h5⟩:=h;refine⟨eq_of_beq h1,λ y hy e=>?_,λ y hy e=>?_,λ y hy e=>?_,h5⟩
 ·have:=List.all_eq_true.mp h2 y hy;simp[e] at this
 ·have:=List.all_eq_true.mp h3 y hy;simp only[e,beq_self_eq_true,Bool.not_true,Bool.false_or,Bool.or_eq_true] at this;rcases this with z | z
  ·exact .inl (eq_of_beq z)
  ·exact .inr (eq_of_beq z)
 ·have:=List.all_eq_true.mp h4 y hy;simp only[e,beq_self_eq_true,Bool.not_true,Bool.false_or] at this;exact eq_of_beq this
theorem aff:bootBuiltins "int" = some (.type "int"):=by decide +kernel
theorem afz:bootBuiltins "str" = some (.type "str"):=by decide +kernel
theorem xO:bootBuiltins "bool" = some (.type "bool"):=by decide +kernel
theorem fV:bootBuiltins "list" = some (.type "list"):=by decide +kernel
theorem aaz:bootBuiltins "tuple" = some (.type "tuple"):=by decide +kernel
theorem jK:bootBuiltins "len" = some (.builtin "len"):=by decide +kernel
theorem aeF:bootBuiltins "abs" = some (.builtin "abs"):=by decide +kernel
theorem abn:bootBuiltins "all" = some (.builtin "all"):=by decide +kernel
theorem cD:bootBuiltins "isinstance" = some (.builtin "isinstance"):=by decide +kernel
def gf:Expr->Bool
 | .Starred ..=>true
 | _=>false
theorem cu(e:Expr)(es:List Expr)(env:PySem.Env)(h:gf e=false):starEach (e::es) env=(false,eval e env)::starEach es env:=by
 cases e<;>first | rfl | (exact absurd h (by simp[gf]))
theorem dZ(pos:Pos)(env:PySem.Env):∀ es:List Expr,(es.all λ e=>!gf e)=true->(backTo pos (starEach es env)).any (·.1)=false
 | [],_=>rfl
 | e::es,h=>by rw[List.all_cons,Bool.and_eq_true,Bool.not_eq_true'] at h;rw[cu e es env h.1];show(false || (backTo pos (starEach es env)).any (·.1))=false;rw[dZ pos env es h.2];rfl
section
variable {X:Cx}{pos p:Pos}{e:Expr}{es:List Expr}{te:TD}{t:TAd}{x:Str}{id T:String}{r:List V->Hp->VK->Prop}{rd:List W->MH->QD->Prop}{k:Nat}{f:Addr}{fd:FuncData}{ps:List Str}{sp:SpD}
theorem pac(ha:PD X e te)(hr:PAd X es t)(h:gf e=false:=by rfl):PAd X (e::es) (ah te t):=uL ha hr (cu e es X.env h)
theorem pcB(hc:fC X (.builtin id) r)(hd:hZ X.K r rd)(hg:Gl X x)(hm:X.mg x=none)(hv:bootBuiltins x=some (.builtin id))(ha:PAd X (e::es) t)(hn:x ≠ "__name__":= by decide)(hdb:(x==("__debug__" : Str))=false:=by decide)
  (h1:gf e=false:=by rfl)(h2:(es.all λ e=>!gf e)=true:=by rfl):PD X (.Call (.Name x p) (e::es) [] pos) (dCB rd t):=aaI hc hd hg hm hv ha hn hdb (cu e es X.env h1) (dZ pos X.env es h2)
theorem pcF(F:cX X.prog X.w X.K X.mg X.base CX0 k f fd ps (dG X.K sp))(hr:c4 k X.A)(hg:Gl X x)(hm:X.mg x=some (.ref f))(hk:PySem.W.keepIn X.K (.ref f)=true)(hb:Binds X.K fd ps [])
  (ha:PAd X (e::es) t)(hdb:(x==("__debug__" : Str))=false:=by decide)(h1:gf e=false:=by rfl)(h2:(es.all λ e=>!gf e)=true:=by rfl) :
  PD X (.Call (.Name x p) (e::es) [] pos) (bb sp t):=ac6 F hr hg hm hk hb ha hdb (cu e es X.env h1) (dZ pos X.env es h2)
end
structure Jd(p:Prop):Prop where
 h:p
namespace Q
abbrev pm(K:PySem.W.Frag)(p:TD×TD):TE×TE:=(up K p.1,up K p.2)
section
variable {X:Cx}{pos:Pos}{a b c e:Expr}{ta tb tc te:TD}{K:PySem.W.Frag}
theorem dv(i:Nat){x:Str}{pos:Pos}(hN:X.N[i]? =some x:=by rfl)(hv:Vis X.env.scope x:=by first | exact Or.inl rfl | exact Or.inr (Or.inl rfl) | exact Or.inr (Or.inr rfl))(hd:(x==("__debug__" : Str))=false:=by decide)(hcd:(x==("__classdict__" : Str))=false:=by decide):Jd (PD X (.Name x pos) (ai i)):=⟨D.dv (i:=i) (hN:=hN) (hv:=hv) (hd:=hd) (hcd:=hcd)⟩
theorem ag{i j pos}:Jd (PD X (.Constant (.int i) j pos) (dC (.d (.int i)))):=⟨D.ag ⟩
theorem rB{b j pos}:Jd (PD X (.Constant (.bool b) j pos) (dC (.d (.bool b)))):=⟨D.rB ⟩
theorem de{j pos}:Jd (PD X (.Constant .none j pos) (dC (.d .none))):=⟨D.de ⟩
theorem aR{x j pos}:Jd (PD X (.Constant (.str x) j pos) (dC (.d (.str x)))):=⟨D.aR ⟩
theorem g9{x:Str}{i:Int}{t:Tok}{pos:Pos}(hg:Gl X x)(hm:X.mg x=some (.int i t))(hd:(x==("__debug__" : Str))=false:=by decide):Jd (PD X (.Name x pos) (dC (.d (.int i)))):=⟨D.g9 (hg:=hg) (hm:=hm) (hd:=hd)⟩
theorem gW{x:Str}{n:String}{pos:Pos}(hg:Gl X x)(hm:X.mg x=none)(hv:bootBuiltins x=some (.type n))(hn:x ≠ "__name__":= by decide)(hd:(x==("__debug__" : Str))=false:=by decide):Jd (PD X (.Name x pos) (dC (.t n))):=⟨D.gW (hg:=hg) (hm:=hm) (hv:=hv) (hn:=hn) (hd:=hd)⟩
theorem aS{op:Operator}{r:R2}{rd:W->W->MH->QD->Prop}(ho:OpR X (binaryOp op) r)(hd:OpD X.K r rd)(ha:Jd (PD X a ta))(hb:Jd (PD X b tb)):Jd (PD X (.BinOp a op b pos) (dOp rd ta tb)):=⟨D.aS (ho:=ho) (hd:=hd) (ha:=ha.h) (hb:=hb.h)⟩
theorem ir{op:CmpOp}{r:R2}{rd:W->W->MH->QD->Prop}(ho:OpR X (compareOp op) r)(hd:OpD X.K r rd)(ha:Jd (PD X a ta))(hb:Jd (PD X b tb))(hm:behindInMarks op b=false:=by first | exact i6 _ (by decide) (by decide) | rfl):Jd (PD X (.Compare a [op] [b] pos) (dOp rd ta tb)):=⟨D.ir (ho:=ho) (hd:=hd) (ha:=ha.h) (hb:=hb.h) (hm:=hm)⟩
theorem a9{r:R2}{rd:W->W->MH->QD->Prop}(hr:IxR X r)(hd:OpD X.K r rd)(ha:Jd (PD X a ta))(hb:Jd (PD X b tb))(hs:sN b:=by intro _ _;rfl):Jd (PD X (.Subscript a b pos) (dOp rd ta tb)):=⟨D.a9 (hr:=hr) (hd:=hd) (ha:=ha.h) (hb:=hb.h) (hs:=hs)⟩
theorem aI{op:CmpOp}{r:R2}{rd:W->W->MH->QD->Prop}(ho:OpR X (compareOp op) r)(hd:OpD X.K r rd)(ha:Jd (PD X a ta))(hb:Jd (PD X b tb))(hm:behindInMarks op b=false:=by first | exact i6 _ (by decide) (by decide) | rfl):Jd (PTd X (.Compare a [op] [b] pos) (aU (dOp rd ta tb))):=⟨D.aI (ho:=ho) (hd:=hd) (ha:=ha.h) (hb:=hb.h) (hm:=hm)⟩
theorem dg(h:Jd (PD X e te))(he:∀ whole,isTrue e X.env whole=(do let v <- whole;standAt e.pos;holding [v] (truthy v)):=by intro _;rfl):Jd (PTd X e (aU te)):=⟨D.dg (h:=h.h) (he:=he)⟩
theorem kA{op op':CmpOp}{r r':R2}{rd rd':W->W->MH->QD->Prop}(ho:OpR X (compareOp op) r)(hd:OpD X.K r rd)(ho':OpR X (compareOp op') r')(hd':OpD X.K r' rd')(ha:Jd (PD X a ta))(hb:Jd (PD X b tb))(hc:Jd (PD X c tc))(hm:lastMarks [op,op'] [b,c]=false:=by with_unfolding_all rfl):Jd (PD X (.Compare a [op,op'] [b,c] pos) (jE rd rd' ta tb tc)):=⟨D.kA (ho:=ho) (hd:=hd) (ho':=ho') (hd':=hd') (ha:=ha.h) (hb:=hb.h) (hc:=hc.h) (hm:=hm)⟩
theorem kS{op op':CmpOp}{r r':R2}{rd rd':W->W->MH->QD->Prop}(ho:OpR X (compareOp op) r)(hd:OpD X.K r rd)(ho':OpR X (compareOp op') r')(hd':OpD X.K r' rd')(ha:Jd (PD X a ta))(hb:Jd (PD X b tb))(hc:Jd (PD X c tc))(hm:lastMarks [op,op'] [b,c]=false:=by with_unfolding_all rfl):Jd (PTd X (.Compare a [op,op'] [b,c] pos) (aU (jE rd rd' ta tb tc))):=⟨D.kS (ho:=ho) (hd:=hd) (ho':=ho') (hd':=hd') (ha:=ha.h) (hb:=hb.h) (hc:=hc.h) (hm:=hm)⟩
theorem zZ{op:UnaryOp}{r:V->Hp->VK->Prop}{rd:W->MH->QD->Prop}(ho:UnR X (unaryOp op) r)(hd:UnD X.K r rd)(ha:Jd (PD X a ta)):Jd (PD X (.UnaryOp op a pos) (dUn rd ta)):=⟨D.zZ (ho:=ho) (hd:=hd) (ha:=ha.h)⟩
variable {tA tB:TTd}{rest:List Expr}
theorem fM(ha:Jd (PTd X a tA)):Jd (PWd X (.BoolOp .And [a] pos) tA):=⟨D.fM (ha:=ha.h)⟩
theorem fL(ha:Jd (PTd X a tA)):Jd (PWd X (.BoolOp .Or [a] pos) tA):=⟨D.fL (ha:=ha.h)⟩
theorem iF(ha:Jd (PTd X a tA))(hb:Jd (PWd X (.BoolOp .And (b::rest) pos) tB)):Jd (PWd X (.BoolOp .And (a::b::rest) pos) (ad4 tA tB)):=⟨D.iF (ha:=ha.h) (hb:=hb.h)⟩
theorem iq(ha:Jd (PTd X a tA))(hb:Jd (PWd X (.BoolOp .Or (b::rest) pos) tB)):Jd (PWd X (.BoolOp .Or (a::b::rest) pos) (dOr tA tB)):=⟨D.iq (ha:=ha.h) (hb:=hb.h)⟩
theorem iV(h:Jd (PWd X e tA)):Jd (PTd X e tA):=⟨D.iV (h:=h.h)⟩
theorem dQ(ha:Jd (PTd X a tA)):Jd (PTd X (.UnaryOp .Not a pos) (wD tA)):=⟨D.dQ (ha:=ha.h)⟩
theorem j6{op}(h:Jd (PD X a ta)):Jd (PD X (.BoolOp op [a] pos) ta):=⟨D.j6 (h:=h.h)⟩
theorem jY(ha:Jd (PD X a ta))(hb:Jd (PD X (.BoolOp .And (b::rest) pos) tb)):Jd (PD X (.BoolOp .And (a::b::rest) pos) (si ta tb)):=⟨D.jY (ha:=ha.h) (hb:=hb.h)⟩
theorem zA(ha:Jd (PD X a ta)):Jd (PD X (.UnaryOp .Not a pos) (adI ta)):=⟨D.zA (ha:=ha.h)⟩
theorem kl{c:Expr}(hc:Jd (PTd X c tA))(ha:Jd (PD X a ta))(hb:Jd (PD X b tb)):Jd (PD X (.IfExp c a b pos) (agW tA ta tb)):=⟨D.kl (hc:=hc.h) (ha:=ha.h) (hb:=hb.h)⟩
variable {es:List Expr}{t:TAd}
theorem af  : Jd (PAd X [] aM):=⟨D.af ⟩
theorem gb(h:Jd (PAd X es t)):Jd (PD X (.List es pos) (wF t)):=⟨D.gb (h:=h.h)⟩
theorem dR(h:Jd (PAd X es t)):Jd (PD X (.List es pos) (j9 t)):=⟨D.dR (h:=h.h)⟩
theorem gg{x1}(h:Jd (PAd X es t)):Jd (PD X (.Tuple es x1 pos) (wH t)):=⟨D.gg (h:=h.h)⟩
variable {x:Str}{p:Pos}{id T:String}{r:List V->Hp->VK->Prop}{rd:List W->MH->QD->Prop}
end
section
variable {X:Cx}{pos:Pos}{st:Stmt}{sts:List Stmt}{t u:TSd}{e:Expr}{te:TD}{K:PySem.W.Frag}
theorem aO  : Jd (o7 X [] cG):=⟨D.aO ⟩
theorem aa(h1:Jd (PSd X st t))(h2:Jd (o7 X sts u)):Jd (o7 X (st::sts) (aQ t u)):=⟨D.aa (h1:=h1.h) (h2:=h2.h)⟩
theorem ao(h1:Jd (PSd X st t)):Jd (o7 X [st] t):=⟨D.ao (h1:=h1.h)⟩
theorem bM(he:Jd (PD X e te))(hs:swapsWith e none pos.line X.env=pure false:=by rfl):Jd (PSd X (.Expr e pos) (gu te)):=⟨D.bM (he:=he.h) (hs:=hs)⟩
theorem aH(he:Jd (PD X e te)):Jd (PSd X (.Return (some e) pos) (eh te)):=⟨D.aH (he:=he.h)⟩
theorem bO{c:Expr}{a b:List Stmt}{tc:TTd}(hc:Jd (PTd X c tc))(ha:Jd (o7 X a t))(hb:Jd (o7 X b u)):Jd (PSd X (.If c a b pos) (dIf tc t u)):=⟨D.bO (hc:=hc.h) (ha:=ha.h) (hb:=hb.h)⟩
theorem av{i:Nat}{x:Str}(hN:X.N.Nodup)(hi:X.N[i]? =some x)(hx:Loc X.env.scope x)(hf:X.fn x=true\/X.env.scope.names.lookup x=some .local:=by first | exact .inl rfl | exact .inr rfl | assumption):Jd (PGd X (.Name x pos) (gN i)):=⟨D.av (hN:=hN) (hi:=hi) (hx:=hx) (hf:=hf)⟩
theorem fK{tg:Expr}{g:TGd}(he:Jd (PD X e te))(hg:Jd (PGd X tg g))(hs:swapsWithSole [tg] e pos.line X.env=pure false:=by rfl)(hw:swappedStores [tg] e X.env=pure none:=by rfl)(h1:(assignEach [tg] X.env).map (·.2)=[assign tg X.env]:=by rfl):Jd (PSd X (.Assign [tg] e pos) (bD te g)):=⟨D.fK (he:=he.h) (hg:=hg.h) (hs:=hs) (hw:=hw) (h1:=h1)⟩
theorem az{i:Nat}{x:Str}{pos':Pos}(hN:X.N.Nodup)(hi:X.N[i]? =some x)(hx:Loc X.env.scope x)(he:Jd (PD X e te))(hs:swapsWith e (some (.Name x pos')) pos.line X.env=pure false:=by rfl)(hf:X.fn x=true\/X.env.scope.names.lookup x=some .local:=by first | exact .inl rfl | exact .inr rfl | assumption):Jd (PSd X (.Assign [.Name x pos'] e pos) (bD te (gN i))):=⟨D.az (hN:=hN) (hi:=hi) (hx:=hx) (he:=he.h) (hs:=hs) (hf:=hf)⟩
end
section
variable {X:Cx}{pos p:Pos}{k:Nat}{f:Addr}{fd:FuncData}{ps:List Str}{sp:SpD}{x:Str}{e:Expr}{es:List Expr}{t:TAd}
end
section
variable {P:Program}{w:World}{K:PySem.W.Frag}{mg:Str->Option Value}{base:Heap}
end
section
variable {X:Cx}{K:PySem.W.Frag}
theorem dX  : Jd (POd X none fR):=⟨D.dX ⟩
theorem dY{e:Expr}{te:TD}(h:Jd (PD X e te)):Jd (POd X (some e) (oN te)):=⟨D.dY (h:=h.h)⟩
theorem eX{e:Expr}{te:TD}{lo hi:Option Expr}{tl th:TOd}{pos p2:Pos}(he:Jd (PD X e te))(hl:Jd (POd X lo tl))(hu:Jd (POd X hi th)):Jd (PD X (.Subscript e (.Slice lo hi none p2) pos) (dSl te tl th)):=⟨D.eX (he:=he.h) (hl:=hl.h) (hu:=hu.h)⟩
theorem gn{o i:Expr}{to ti:TD}{pos:Pos}(ho:Jd (PD X o to))(hi:Jd (PD X i ti))(ha:∀ v,assign (.Subscript o i pos) X.env v=(do
   let ov <- holding [v] (eval o X.env)
   let iv <- holding [v,ov] (eval i X.env)
   standAt pos
   holding [v,ov,iv] (setItem ov iv v)
   release [v,ov,iv] []):=by intro _;rfl):Jd (PGd X (.Subscript o i pos) (wB to ti)):=⟨D.gn (ho:=ho.h) (hi:=hi.h) (ha:=ha)⟩
theorem oO{o i e:Expr}{to ti te:TD}{op:Operator}{f:Int->Int->Int}{pos tpos:Pos}(ho:Jd (PD X o to))(hi:Jd (PD X i ti))(he:Jd (PD X e te))(hp:PIp X op (ipI f))(ha:∀ ov iv new,augStore i ov iv new=(do holding [new,ov,iv] (setItem ov iv new);release [new,ov,iv] [];pure .next):=by intros;rfl):Jd (PSd X (.AugAssign (.Subscript o i tpos) op e pos) (aaU to ti te f)):=⟨D.oO (ho:=ho.h) (hi:=hi.h) (he:=he.h) (hp:=hp) (ha:=ha)⟩
end
section
variable {X:Cx}{K:PySem.W.Frag}{tg:Expr}
section
variable {pins:List (Addr×Obj)}{σ:St}{H:Hp}{s:Shared}{R:It->Hp->Prop}{E:Value->Shared->Prop}
end
theorem aP{l:Expr}{te:TD}(h:Jd (PD X l te)):Jd (PId X tg l (bX te)):=⟨D.aP (h:=h.h)⟩
theorem cC{a:Expr}{ta:TAd}{p pos:Pos}(hg:Gl X "range")(hm:X.mg "range" = none)(ha:Jd (PAd X [a] ta))(hs:starEach [a] X.env=[(false,eval a X.env)]:=by rfl):Jd (PId X tg (.Call (.Name "range" p) [a] [] pos) (oy ta)):=⟨D.cC (hg:=hg) (hm:=hm) (ha:=ha.h) (hs:=hs)⟩
theorem eJ{iter:Expr}{body:List Stmt}{di:TId}{g:TGd}{tb:TSd}{pos:Pos}(hp:PassesOwn (model X.prog X.w) X.A X.env X.xe)(hc:X.calm=true)(hi:Jd (PId X tg iter di))(hg:Jd (PGd X tg g))(hb:Jd (o7 X body tb))(hs:∀ x,foldedSetIterable iter X.env x=pure x:=by intro _;rfl):Jd (PSd X (.For tg iter body [] pos) (yC di g tb)):=⟨D.eJ (hp:=hp) (hc:=hc) (hi:=hi.h) (hg:=hg.h) (hb:=hb.h) (hs:=hs)⟩
section
variable {sc:Scope}{own:List Str}{fr:List Nat}{elt iter:Expr}{ifs:List Expr}{pos:Pos}{di:TId}{g:TGd}{tt:TTd}{te:TD}
theorem bH  : Jd (mW X [] n8):=⟨D.bH ⟩
theorem cA{c:Expr}{t:TTd}(h:Jd (PTd X c t)):Jd (mW X [c] t):=⟨D.cA (h:=h.h)⟩
theorem j8(hc:X.calm=true)(L:jN X sc own fr)(hi:Jd (PId X tg iter di))(hg:∀ cl C s H ex pl,Jd (PGd (blk X sc (lcN X own fr) cl C s H ex pl) tg g))(ht:∀ cl C s H ex pl,Jd (mW (blk X sc (lcN X own fr) cl C s H ex pl) ifs tt))(he:∀ cl C s H ex pl,Jd (PD (blk X sc (lcN X own fr) cl C s H ex pl) elt te))(hs:∀ x,foldedSetIterable iter X.env x=pure x:=by intro _;rfl):Jd (PD X (.ListComp elt [⟨tg,iter,ifs,0⟩] sc pos) (dLC di g tt te own.length fr)):=⟨D.j8 (hc:=hc) (L:=L) (hi:=hi.h) (hg:=λ cl C s H ex pl=>(hg cl C s H ex pl).h) (ht:=λ cl C s H ex pl=>(ht cl C s H ex pl).h) (he:=λ cl C s H ex pl=>(he cl C s H ex pl).h) (hs:=hs)⟩
theorem d6{i:Nat}{x:Str}{pos' spos:Pos}(hN:X.N.Nodup)(hi':X.N[i]? =some x)(hx:Loc X.env.scope x)(hc:X.calm=true)(L:jN X sc own fr)(hi:Jd (PId X tg iter di))(hg:∀ cl C s H ex pl,Jd (PGd (blk X sc (lcN X own fr) cl C s H ex pl) tg g))(ht:∀ cl C s H ex pl,Jd (mW (blk X sc (lcN X own fr) cl C s H ex pl) ifs tt))(he:∀ cl C s H ex pl,Jd (PD (blk X sc (lcN X own fr) cl C s H ex pl) elt te))(hsw:swapsWith (.ListComp elt [⟨tg,iter,ifs,0⟩] sc pos) (some (.Name x pos')) spos.line X.env=pure true:=by rfl)(hs:∀ x,foldedSetIterable iter X.env x=pure x:=by intro _;rfl)(hf:X.fn x=true\/X.env.scope.names.lookup x=some .local:=by first | exact .inl rfl | exact .inr rfl | assumption):Jd (PSd X (.Assign [.Name x pos'] (.ListComp elt [⟨tg,iter,ifs,0⟩] sc pos) spos) (bD (dLC di g tt te own.length fr) (gN i))):=⟨D.d6 (hN:=hN) (hi':=hi') (hx:=hx) (hc:=hc) (L:=L) (hi:=hi.h) (hg:=λ cl C s H ex pl=>(hg cl C s H ex pl).h) (ht:=λ cl C s H ex pl=>(ht cl C s H ex pl).h) (he:=λ cl C s H ex pl=>(he cl C s H ex pl).h) (hsw:=hsw) (hs:=hs) (hf:=hf)⟩
end
end
section
variable {X:Cx}{K:PySem.W.Frag}
theorem sR{o e:Expr}{to te:TD}{apos cpos:Pos}(ho:Jd (PD X o to))(ha:Jd (PD X e te))(hbase:attributeBase o "join" X.env (eval o X.env)=eval o X.env:=by rfl)(hs:starEach [e] X.env=[(false,eval e X.env)]:=by rfl)(hfew:((backTo cpos (starEach [e] X.env)).all (λ x=>!x.1)&&(backToKw cpos (keywordEach [] X.env)).all (λ x=>x.1.isSome)
   && decide (([e]:List Expr).length+([]:List Keyword).length+(if ([]:List Keyword).isEmpty then 0 else 1)<30))=true:=by rfl)(hline:(apos.endLine==cpos.line)=true:=by rfl):Jd (PD X (.Call (.Attribute o "join" apos) [e] [] cpos) (dMS u4 to (ah te aM))):=⟨D.sR (ho:=ho.h) (ha:=ha.h) (hbase:=hbase) (hs:=hs) (hfew:=hfew) (hline:=hline)⟩
end
section
variable {X:Cx}{pos p:Pos}{e:Expr}{es:List Expr}{te:TD}{t:TAd}{x:Str}{id T:String}{r:List V->Hp->VK->Prop}{rd:List W->MH->QD->Prop}{k:Nat}{f:Addr}{fd:FuncData}{ps:List Str}{sp:SpD}
theorem pac(ha:Jd (PD X e te))(hr:Jd (PAd X es t))(h:gf e=false:=by rfl):Jd (PAd X (e::es) (ah te t)):=⟨D.pac (ha:=ha.h) (hr:=hr.h) (h:=h)⟩
theorem pcB(hc:fC X (.builtin id) r)(hd:hZ X.K r rd)(hg:Gl X x)(hm:X.mg x=none)(hv:bootBuiltins x=some (.builtin id))(ha:Jd (PAd X (e::es) t))(hn:x ≠ "__name__":= by decide)(hdb:(x==("__debug__" : Str))=false:=by decide)(h1:gf e=false:=by rfl)(h2:(es.all λ e=>!gf e)=true:=by rfl):Jd (PD X (.Call (.Name x p) (e::es) [] pos) (dCB rd t)):=⟨D.pcB (hc:=hc) (hd:=hd) (hg:=hg) (hm:=hm) (hv:=hv) (ha:=ha.h) (hn:=hn) (hdb:=hdb) (h1:=h1) (h2:=h2)⟩
theorem pcF(F:cX X.prog X.w X.K X.mg X.base CX0 k f fd ps (dG X.K sp))(hr:c4 k X.A)(hg:Gl X x)(hm:X.mg x=some (.ref f))(hk:PySem.W.keepIn X.K (.ref f)=true)(hb:Binds X.K fd ps [])(ha:Jd (PAd X (e::es) t))(hdb:(x==("__debug__" : Str))=false:=by decide)(h1:gf e=false:=by rfl)(h2:(es.all λ e=>!gf e)=true:=by rfl):Jd (PD X (.Call (.Name x p) (e::es) [] pos) (bb sp t)):=⟨D.pcF (F:=F) (hr:=hr) (hg:=hg) (hm:=hm) (hk:=hk) (hb:=hb) (ha:=ha.h) (hdb:=hdb) (h1:=h1) (h2:=h2)⟩
end
theorem p7{X:Cx}{pos:Pos}:Jd (PPs X pos [] [] (([]:List (TD×TD)).map (pm X.K))):=⟨L2.p7⟩
theorem dW{X:Cx}{pos:Pos}{k v:Expr}{ks:List (Option Expr)}{vs:List Expr}{tk tv:TD}{trs:List (TD×TD)}(hk:Jd (PD X k tk))(hv:Jd (PD X v tv))(hr:Jd (PPs X pos ks vs (trs.map (pm X.K)))):Jd (PPs X pos (some k::ks) (v::vs) (((tk,tv)::trs).map (pm X.K))):=⟨L2.dW hk.h hv.h hr.h⟩
end Q
end D
namespace D
open L2
section
variable {κ α:Type}[DecidableEq κ]
def eL(t:List (κ×α))(k:κ):Option α:=(t.find? λ p=>decide (p.1=k)).map (·.2)
def mE(t:List (κ×α))(k:κ)(v:α):List (κ×α):=if (t.any λ p=>decide (p.1=k))=true then t.map (λ p=>if p.1=k then (p.1,v) else p) else t++[(k,v)]
def OR{β γ:Type}(R:β->γ->Prop):Option β->Option γ->Prop
 | some a,some b=>R a b
 | none,none=>True
 | _,_=>False
theorem OR.some_of{β γ:Type}{R:β->γ->Prop}{a:β}{o:Option γ}(h:OR R (some a) o):∃ b,o=some b/\R a b:=by
 cases o with
 | none=>exact h.elim
 | some b=>exact⟨b,rfl,h⟩
theorem OR.none_of{β γ:Type}{R:β->γ->Prop}{o:Option γ}(h:OR R none o):o=none:=by
 cases o with
 | none=>rfl
 | some b=>exact h.elim
theorem OR.isSome{β γ:Type}{R:β->γ->Prop}:∀ {a:Option β} {o:Option γ},OR R a o->a.isSome=o.isSome
 | some _,some _,_=>rfl
 | none,none,_=>rfl
 | some _,none,h=>h.elim
 | none,some _,h=>h.elim
theorem lU{R:α->V->Prop}(k:κ):∀ {t:List (κ×α)} {l:List (κ×V)},Paired (λ p q=>p.1=q.1/\R p.2 q.2) t l->OR R (eL t k) (pR l k)
 | _,_,.nil=>True.intro
 | _,_,.cons (a:=p) (b:=q) (l₁:=t1) h t=>by
  obtain⟨h1,h2⟩:=h
  by_cases e:p.1=k
  ·rw[kj (h1.symm.trans e),show eL (p::t1) k=some p.2 by simp[eL,List.find?_cons,e]];exact h2
  ·rw[km (λ z=>e (h1.trans z)),show eL (p::t1) k=eL t1 k by simp[eL,List.find?_cons,e]];exact lU k t
theorem abv{R:α->V->Prop}(k:κ):∀ {t:List (κ×α)} {l:List (κ×V)},Paired (λ p q=>p.1=q.1/\R p.2 q.2) t l->(t.any λ p=>decide (p.1=k))=(l.any λ p=>decide (p.1=k))
 | _,_,.nil=>rfl
 | _,_,.cons (a:=p) (b:=q) h t=>by simp only[List.any_cons];rw[abv k t,h.1]
theorem abj{R:α->V->Prop}(k:κ){a:α}{v:V}(r:R a v):∀ {t:List (κ×α)} {l:List (κ×V)},Paired (λ p q=>p.1=q.1/\R p.2 q.2) t l ->
  Paired (λ p q=>p.1=q.1/\R p.2 q.2) (t.map λ p=>if p.1=k then (p.1,a) else p) (l.map λ p=>if p.1=k then (p.1,v) else p)
 | _,_,.nil=>.nil
 | _,_,.cons (a:=p) (b:=q) h t=>by
  simp only[List.map_cons];refine .cons ?_ (abj k r t)
  by_cases e:p.1=k
  ·rw[if_pos e,if_pos (h.1.symm.trans e)];exact⟨h.1,r⟩
  ·rw[if_neg e,if_neg (λ z=>e (h.1.trans z))];exact h
theorem wI{P:κ×α->κ×V->Prop}{p:κ×α}{q:κ×V}(r:P p q):∀ {t:List (κ×α)} {l:List (κ×V)},Paired P t l->Paired P (t++[p]) (l++[q])
 | _,_,.nil=>.cons r .nil
 | _,_,.cons h t=>.cons h (wI r t)
theorem ur{R:α->V->Prop}(k:κ){a:α}{v:V}(r:R a v){t:List (κ×α)}{l:List (κ×V)}(h:Paired (λ p q=>p.1=q.1/\R p.2 q.2) t l) :
  Paired (λ p q=>p.1=q.1/\R p.2 q.2) (mE t k a) (putK l k v):=by
 unfold mE putK;rw[abv k h]
 split
 ·exact abj k r h
 ·exact wI ⟨rfl,r⟩ h
theorem lY{P:κ×α->κ×V->Prop}:∀ {t:List (κ×α)} {l:List (κ×V)},Paired P t l->t.length=l.length
 | _,_,.nil=>rfl
 | _,_,.cons _ t=>by simp[lY t]
theorem gG{p:κ×α}{t:List (κ×α)}{k:κ}:eL (p::t) k=if p.1=k then some p.2 else eL t k:=by
 by_cases e:p.1=k<;>simp[eL,List.find?_cons,e]
theorem u5(k:κ):∀ t:List (κ×α),(t.any λ p=>decide (p.1=k))=(eL t k).isSome
 | []=>rfl
 | p::t=>by
  rw[List.any_cons,u5 k t,gG]
  by_cases e:p.1=k<;>simp[e]
end
def kW(k:Key):W:=.d (sE k)
theorem iW{K:PySem.W.Frag}{H:Hp}{k:Key}{v:V}(r:aD K H (kW k) v):v=kV k:=yK r
def tkW(ks:List Key):W:=.d (.tuple (ks.map sE))
theorem afk{K:PySem.W.Frag}{H:Hp}:∀ {ks:List Key} {vs:List V},bf K H (ks.map sE) vs->vs=ks.map kV
 | [],vs,h=>by simpa [bf] using h
 | k::ks,vs,h=>by simp only[List.map_cons,bf] at h;obtain⟨v,r,e,h1,h2⟩:=h;rw[e,yK h1,afk h2];rfl
def Rd2(H:Hp)(a:Addr)(u:HO):Prop:=Rd H a u\/∃ o,H a=some (.frz o (.frz o u))
theorem zB{P:Program}{w:World}{H:Hp}{h:Heap}{a:Addr}{kvs:List (Key×V)}(ok:HOk P w H h)(e:Rd2 H a (.dK kvs)):kvs.length<=sizeLine/\(a==sysModules)=false/\∃ vs,KV kvs vs/\h.DictOf (aW P w) a vs:=by
 rcases e with e | ⟨o,e⟩
 ·exact xG ok e
 ·exact(ok a _ e).2.2
def xT(K:PySem.W.Frag)(H:Hp)(a:Addr)(y:V)(r:Option V):Prop:=
 (∃ kvs k,Rd2 H a (.dK kvs)/\y=kV k/\r=pR kvs k)\/∃ kvs k b,Rd H a (.dT kvs)/\y=.ref b/\SqT K H b (k.map kV)/\r=pR kvs k
theorem abi{X:Cx}{pins:List (Addr×Obj)}{σ:St}{H:Hp}{s:Shared}{b:Addr}{ks:List Key}(I:Inv X pins σ H s)(h:SqT X.K H b (ks.map kV)):(tupleKind (aW X.prog X.w)).is s.heap ks b:=by obtain⟨its,r,⟨o,h1,h2,n,h3⟩,_⟩:=I.tuple h;exact⟨o,its.toArray,n,h1,h2,h3,by simpa using kR r⟩
section
variable {X:Cx}{pins:List (Addr×Obj)}{σ:St}{H:Hp}{s:Shared}{a:Addr}{y d:V}{u r:Value}{o:Option V}{A:Around}{E:Value->Shared->Prop}
theorem zU{Q:Value->Shared->Prop}(hu:A.units+1<cLine)(I:Inv X pins σ H s)(g:xT X.K H a y o)(ry:RelV y u)(h:∀ s',Inv X pins σ H s'->Q (.bool (!o.isSome)) s') :
  wpAny (model X.prog X.w) A (compareOp .NotIn u (.ref a)) Q E s:=by
 rcases g with ⟨kvs,k,e,ey,l⟩ | ⟨kvs,k,b,e,ey,eb,l⟩
 ·subst ey;obtain⟨z,hd,vs,rel,dd⟩:=zB I.hok e;refine wpAny_notIn_of (sP ry) hd dd.mapOf ?_;rw[<- (rel.val k).k7,<- l];exact h _ (I.tok _)
 ·subst ey;cases (show u=Value.ref b from ry);obtain⟨z,hd,xs,rel,dd⟩:=abb I.hok e;refine wpAny_notIn_heap (tupleKind_room_in1 hu) (abi I eb) hd dd ?_;have q:=(rel.val k).k7;rw[Option.isSome_map] at q;rw[<- q,<- l];exact h _ (I.tok _)
theorem acQ{Q:Value->Shared->Prop}(hu:A.units+1<cLine)(I:Inv X pins σ H s)(g:xT X.K H a y o)(ry:RelV y u)(rd:RelV d r)(h:∀ w' s',Inv X pins σ H s'->RelV (o.getD d) w'->Q w' s') :
  wpAny (model X.prog X.w) A (call (.builtin "dict.get") [.ref a,u,r]) Q E s:=by
 rcases g with ⟨kvs,k,e,ey,l⟩ | ⟨kvs,k,b,e,ey,eb,l⟩
 ·subst ey;obtain⟨z,hd,vs,rel,dd⟩:=zB I.hok e;refine call_meetsIn PySem.F.slot_dict_get dd.typeIs PySem.F.entry_dict_get (PySem.F.args_dict_get_3 _ _ _) (meets_dict_get_default (aW X.prog X.w) a (sP ry) hd r) ⟨_,dd.mapOf,h _ _ (I.tok _) ?_⟩;rw[l];exact(rel.val k).getD rd
 ·subst ey;cases (show u=Value.ref b from ry);obtain⟨z,hd,xs,rel,dd⟩:=abb I.hok e;refine call_meetsIn PySem.F.slot_dict_get dd.typeIs PySem.F.entry_dict_get (PySem.F.args_dict_get_3 _ _ _) (meetsH_dict_get_default (tupleKind (aW X.prog X.w)) a b hd r) ⟨tupleKind_room_in1 hu,k,xs,abi I eb,dd,h _ _ (I.tok _) ?_⟩;rw[l];exact(rel.val k).getD rd
theorem mX{v:V}{Q:Value->Shared->Prop}(hu:A.units+1<cLine)(I:Inv X pins σ H s){kvs:List (Key×V)}{k:Key}(e:Rd2 H a (.dK kvs))(l:pR kvs k=some v)(ry:RelV (kV k) u)(h:∀ w' s',Inv X pins σ H s'->RelV v w'->Q w' s') :
  s.TypeIs (.ref a) "dict" /\ wpAny (model X.prog X.w) A (getItem (.ref a) u) Q E s:=by
 obtain⟨z,hd,vs,rel,dd⟩:=zB I.hok e;obtain⟨w',hw,rw'⟩:=rn.some_of (v:=v) (o:=valueAt vs k) (by rw[<- l];exact rel.val k);exact⟨dd.typeIs,wpAny_getItem_of (sP ry) dd.mapOf hw (h w' _ (I.tok _) rw')⟩
end
inductive qB(M:MH):W->W->Option W->Prop
 | k {a:Addr} {kvs:List (Key×W)} {k:Key} (h:M a=some (.dic kvs)):qB M (.m a) (kW k) (eL kvs k)
 | t {a:Addr} {kvs:List (List Key×W)} {ks:List Key} (h:M a=some (.dct kvs)):qB M (.m a) (tkW ks) (eL kvs ks)
 | f {a:Addr} {kvs:List (Key×W)} {k:Key} (h:M a=some (.fdic kvs)):qB M (.m a) (kW k) (eL kvs k)
 | d {kvs:List (Key×PyData)} {k:Key}:qB M (.d (.dict (kvs.map λ p=>(sE p.1,p.2)))) (kW k) ((eL kvs k).map W.d)
inductive DIs(M:MH):W->Prop
 | k {a:Addr} {kvs:List (Key×W)} (h:M a=some (.dic kvs)):DIs M (.m a)
 | t {a:Addr} {kvs:List (List Key×W)} (h:M a=some (.dct kvs)):DIs M (.m a)
 | d {kvs:List (PyData×PyData)}:DIs M (.d (.dict kvs))
theorem aar{a b:Key}(h:sE a=sE b):a=b:=by
 cases a<;>cases b<;>simp[sE] at h<;>rw[h]
theorem kD{K:PySem.W.Frag}{H:Hp}:∀ {kvs:List (Key×PyData)} {l:List (Key×V)},jL K H (kvs.map λ p=>(sE p.1,p.2)) l->Paired (λ(p:Key×PyData) (q:Key×V)=>p.1=q.1/\aA K H p.2 q.2) kvs l
 | [],l,h=>by simp only[List.map_nil,jL] at h;subst h;exact .nil
 | p::kvs,l,h=>by simp only[List.map_cons,jL] at h;obtain⟨key,v,r,e,ek,h1,h2⟩:=h;subst e;exact .cons ⟨aar ek,h1⟩ (kD h2)
theorem DIs.sound{K:PySem.W.Frag}{H:Hp}{M:MH}{w:W}{x:V}(g:DIs M w)(r:aD K H w x)(m:cK K H M):∃ a,x=.ref a/\IsD H a:=by
 cases g with
 | k h =>
  obtain⟨l,e,_⟩:=m _ _ h;exact⟨_,r,.inl ⟨l,.inl e⟩⟩
 | t h =>
  obtain⟨l,e,_⟩:=m _ _ h;exact⟨_,r,.inr ⟨l,.inl e⟩⟩
 | d =>
  simp only[aD,aA] at r;obtain⟨a,o,l,e,h,_⟩:=r;exact⟨a,e,.inl ⟨l,.inr ⟨o,h⟩⟩⟩
theorem qB.sound{K:PySem.W.Frag}{H:Hp}{M:MH}{w y:W}{o:Option W}{x v:V}(g:qB M w y o)(r:aD K H w x)(ry:aD K H y v)(m:cK K H M) :
  ∃ a p,x=.ref a/\xT K H a v p/\OR (aD K H) o p:=by
 cases g with
 | @k a kvs k h =>
  obtain⟨l,e,pr⟩:=m _ _ h;exact⟨_,_,r,.inl ⟨l,k,.inl (.inl e),iW ry,rfl⟩,lU k pr⟩
 | @f a kvs k h =>
  obtain⟨ob,l,e,pr⟩:=m _ _ h;exact⟨_,_,r,.inl ⟨l,k,.inr ⟨ob,e⟩,iW ry,rfl⟩,lU k pr⟩
 | @t a kvs ks h =>
  obtain⟨l,e,pr⟩:=m _ _ h;simp only[tkW,aD,aA] at ry;obtain⟨b,vs,eb,hs,ra⟩:=ry;rw[afk ra] at hs;exact⟨_,_,r,.inr ⟨l,ks,b,.inl e,eb,hs,rfl⟩,lU ks pr⟩
 | @d kvs k =>
  simp only[aD,aA] at r;obtain⟨a,ob,l,e,h,rk⟩:=r;refine⟨a,_,e,.inl ⟨l,k,.inl (.inr ⟨ob,h⟩),iW ry,rfl⟩,?_⟩;have g:=lU (R:=λ d q=>aA K H d q) k (kD rk);cases q:eL kvs k with
  | none=>rw[q] at g;rw[OR.none_of g];exact True.intro
  | some z =>
   rw[q] at g;obtain⟨b,eb,rb⟩:=OR.some_of g;rw[eb];exact rb
section
variable {X:Cx}{o i e f:Expr}{pos apos cpos:Pos}{td ty tx:TE}
def ue(K:PySem.W.Frag)(ty td:TE):TE:=λ σ H Q=>ty σ H λ y H1=>td σ H1 λ x H2=>∃ a o,x=.ref a/\xT K H2 a y o/\Q (.bl (!o.isSome)) H2
theorem wj(hu:X.A.units+1<cLine)(hi:PE X i ty)(ho:PE X o td):PC X .NotIn i o (ue X.K ty td):=by intro pins s σ H Q I h;refine thn (hi pins s σ H _ I h) λ iv s1 ⟨y,H1,I1,ry,q1⟩=>thn (ho pins s1 σ H1 _ I1 q1) λ u s2 hq60=>?_;obtain⟨x,H2,I2,rx,a,ov,ex,g,q2⟩:=hq60;subst ex;obtain rfl:u=Value.ref a:=rx;exact zU hu I2 g ry λ s3 I3=>⟨.bl (!ov.isSome),H2,I3,rfl,q2⟩
def acm(K:PySem.W.Frag)(td ty tx:TE):TE:=λ σ H Q=>td σ H λ x H1=>∃ a,x=.ref a/\IsD H1 a/\ty σ H1 λ y H2=>tx σ H2 λ z H3=>∃ o,xT K H3 a y o/\Q (o.getD z) H3
theorem yu(hu:X.A.units+1<cLine)(ho:PE X o td)(he:PE X e ty)(hf:PE X f tx)(m:M2 X o "get" apos e f cpos):PE X (.Call (.Attribute o "get" apos) [e,f] [] cpos) (acm X.K td ty tx):=by
 intro pins s σ H Q I h;refine wpAny_Call_method m.base m.few m.line PySem.F.plainAttrs_dict PySem.F.slot_dict_get PySem.F.type_dict_get (thn (ho pins s σ H _ I h) λ u s1 hq61=>?_);obtain⟨x,H1,I1,rx,a,ex,d,q1⟩:=hq61;subst ex;obtain rfl:u=Value.ref a:=rx;obtain⟨t1,t2,_⟩:=afh I1 d;refine⟨t1,t2,?_⟩;rw[m.trees];refine Calls.callWith_builtin rfl (Calls.evalArgs_plain (Calls.spliced_cons (thn (he pins s1 σ H1 _ I1 q1) λ iv s2 ⟨y,H2,I2,ry,q2⟩ =>
  Calls.spliced_cons (thn (hf pins s2 σ H2 _ I2 q2) λ fv s3 ⟨z,H3,I3,rz,ov,g,q3⟩=>Calls.spliced_nil ?_))))
 exact acQ hu I3 g ry rz λ w' s4 I4 rw'=>⟨_,H3,I4,rw',q3⟩
end
section
variable {X:Cx}{o i:Expr}{pos:Pos}{td ty:TE}
def agz(td ty:TE):TE:=λ σ H Q=>td σ H λ x H1=>ty σ H1 λ y H2=>∃ a kvs k v,x=.ref a/\Rd2 H2 a (.dK kvs)/\y=kV k/\pR kvs k=some v/\Q v H2
theorem aau(hu:X.A.units+1<cLine)(ho:PE X o td)(hi:PE X i ty)(hs:ag1 i):PE X (.Subscript o i pos) (agz td ty):=by intro pins s σ H Q I h;refine aeg PySem.F.slot_dict_getitem.lookup hs (thn (ho pins s σ H _ I h) λ u s1 ⟨x,H1,I1,rx,q1⟩=>thn (hi pins s1 σ H1 _ I1 q1) λ iv s2 hq62=>?_);obtain⟨y,H2,I2,ry,a,kvs,k,v,ex,g,ey,l,q2⟩:=hq62;subst ex ey;obtain rfl:u=Value.ref a:=rx;exact mX hu I2 g l ry λ w' s3 I3 rw'=>⟨v,H2,I3,rw',q2⟩
end
section
variable {X:Cx}{o i e f value:Expr}{es:List Expr}{pos pos' apos cpos:Pos}{td ti tx tv:TD}{t:TAd}
def jo(_:DS)(M:MH)(Q:QD):Prop:=∀ p,M p=none->Q (.m p) (aE M p (.dic []))
theorem gC:PD X (.Dict [] [] pos) jo:=eQ aap λ σ H Q ⟨τ,M,Qd,A,h,k⟩ p hp =>
 k (.ref p) _ (.m p) (aE M p (.dic [])) (Kp.new hp) rfl (A.mem.put (mo:=.dic []) (Kp.new hp) ⟨[],ar,.nil⟩) (h p (A.mem.free hp))
def pP(ti td:TD)(τ:DS)(M:MH)(Q:QD):Prop:=ti τ M λ y M1=>td τ M1 λ w M2=>∃ o,qB M2 w y o/\Q (.d (.bool (!o.isSome))) M2
theorem wq{σ:St}{H:Hp}{Q:VK}(h:up X.K (pP ti td) σ H Q):ue X.K (up X.K ti) (up X.K td) σ H Q:=by obtain⟨τ,M,Qd,A,h,k⟩:=h;refine⟨τ,M,_,A,h,λ y H1 wy M1 kp1 r1 m1 q1=>⟨τ,M1,_,A.go kp1 m1,q1,λ x H2 w M2 kp2 r2 m2 hq63=>?_⟩⟩;obtain⟨o,g,q2⟩:=hq63;obtain⟨a,p,e,g',ro⟩:=g.sound r2 (r1.keep kp2) m2;refine⟨a,p,e,g',?_⟩;rw[<- ro.isSome];exact k _ H2 (.d (.bool _)) M2 (kp1.trans kp2) (by simp[aD,aA]) m2 q2
theorem jz(hu:X.A.units+1<cLine)(hi:PD X i ti)(ho:PD X o td)(hm:behindInMarks .NotIn o=false:=by rfl):PTd X (.Compare i [.NotIn] [o] pos) (aU (pP ti td)):=aeq (agk (wj hu hi ho) hm) λ σ H Q h=>ki (λ σ H Q h=>wq h) h
inductive af6(M2:MH) (w y:W) (Q:QD):Prop
 | mk (a:Addr) (kvs:List (Key×W)) (k:Key) (v:W) (z0:w=.m a) (z1:M2 a=some (.dic kvs)\/M2 a=some (.fdic kvs)) (z2:y=kW k) (z3:eL kvs k=some v) (q:Q v M2):af6 M2 w y Q
def bV(td ti:TD)(τ:DS)(M:MH)(Q:QD):Prop:=td τ M λ w M1=>ti τ M1 λ y M2=>af6 M2 w y Q
theorem aJ(hu:X.A.units+1<cLine)(ho:PD X o td)(hi:PD X i ti)(hs:ag1 i:=by exact λ _ _=>rfl):PD X (.Subscript o i pos) (bV td ti):=eQ (aau hu ho hi hs) λ σ H Q h=>by
 obtain⟨τ,M,Qd,A,h,k⟩:=h;refine⟨τ,M,_,A,h,λ x H1 w M1 kp1 r1 m1 q1=>⟨τ,M1,_,A.go kp1 m1,q1,λ y H2 wy M2 kp2 r2 m2 hq64=>?_⟩⟩;obtain⟨a,kvs,key,v,ew,hm,ey,hv,q2⟩:=hq64;subst ew ey;obtain⟨l,e,pr⟩:∃ l,Rd2 H2 a (.dK l)/\Paired (λ(p:Key×W) (q:Key×V)=>p.1=q.1/\aD X.K H2 p.2 q.2) kvs l:=by
  rcases hm with hm | hm
  ·obtain⟨l,e,pr⟩:=m2 _ _ hm;exact⟨l,.inl (.inl e),pr⟩
  ·obtain⟨ob,l,e,pr⟩:=m2 _ _ hm;exact⟨l,.inr ⟨ob,e⟩,pr⟩
 have g:=lU key pr;rw[hv] at g;obtain⟨b,eb,rb⟩:=OR.some_of g;refine⟨a,l,key,b,r1,e,iW r2,eb,?_⟩;exact k _ H2 v M2 (kp1.trans kp2) rb m2 q2
def aao(td ti tx:TD)(τ:DS)(M:MH)(Q:QD):Prop:=td τ M λ w M1=>DIs M1 w/\ti τ M1 λ y M2=>tx τ M2 λ z M3=>∃ o,qB M3 w y o/\Q (o.getD z) M3
theorem OR.getD{K:PySem.W.Frag}{H:Hp}{o:Option W}{p:Option V}{z:W}{v:V}(h:OR (aD K H) o p)(r:aD K H z v):aD K H (o.getD z) (p.getD v):=by
 cases o with
 | none=>rw[OR.none_of h];exact r
 | some a=>obtain⟨b,e,q⟩:=OR.some_of h;rw[e];exact q
theorem px(hu:X.A.units+1<cLine)(ho:PD X o td)(he:PD X e ti)(hf:PD X f tx)(m:M2 X o "get" apos e f cpos:=by exact⟨rfl,rfl,rfl,rfl⟩):PD X (.Call (.Attribute o "get" apos) [e,f] [] cpos) (aao td ti tx):=eQ (yu hu ho he hf m) λ σ H Q h=>by obtain⟨τ,M,Qd,A,h,k⟩:=h;refine⟨τ,M,_,A,h,λ x H1 w M1 kp1 r1 m1 hq65=>?_⟩;obtain⟨di,q1⟩:=hq65;obtain⟨a,ea,isd⟩:=di.sound r1 m1;refine⟨a,ea,isd,τ,M1,_,A.go kp1 m1,q1,λ y H2 wy M2 kp2 r2 m2 q2=>⟨τ,M2,_,A.go (kp1.trans kp2) m2,q2,λ z H3 wz M3 kp3 r3 m3 hq66=>?_⟩⟩;obtain⟨o,g,q3⟩:=hq66;obtain⟨a',p,e',g',ro⟩:=g.sound (r1.keep (kp2.trans kp3)) (r2.keep kp3) m3;rw[ea] at e';cases e';exact⟨p,g',k _ H3 _ M3 ((kp1.trans kp2).trans kp3) (ro.getD r3) m3 q3⟩
def mS(td ti tv:TD)(D:Ed)(τ:DS)(M:MH):Prop:=tv τ M λ v M1=>td τ M1 λ w M2=>ti τ M2 λ y M3=>∃ a kvs k,w=.m a/\M3 a=some (.dic kvs)/\y=kW k/\kvs.length<sizeLine/\D.nx τ (aE M3 a (.dic (mE kvs k v)))
theorem dz(hu:X.A.units+1<cLine)(ho:PD X o td)(hi:PD X i ti)(hv:PD X value tv)(hs:swapsWith value (some (.Subscript o i pos')) pos.line X.env=pure false:=by rfl) :
  PSd X (.Assign [.Subscript o i pos'] value pos) (mS td ti tv):=qb (acJ hu ho hi hv hs) λ D σ H h=>by
 obtain⟨τ,M,Dd,A,h,k1,_⟩:=h;refine⟨τ,M,_,A,h,λ v H1 wv M1 kp1 r1 m1 q1=>⟨τ,M1,_,A.go kp1 m1,q1,λ x H2 w M2 kp2 r2 m2 q2=>⟨τ,M2,_,A.go (kp1.trans kp2) m2,q2,λ y H3 wy M3 kp3 r3 m3 hq67=>?_⟩⟩⟩;obtain⟨a,kvs,key,ew,hm,ey,hl,q3⟩:=hq67;subst ew ey;obtain⟨l,e,pr⟩:=m3 _ _ hm;have kp4:Kp H3 (upd H3 a (.dK (putK l key v))):=Kp.set e (λ _ z=>nomatch z) (λ _ _ z=>nomatch z);refine⟨a,_,r2,.inl ⟨l,key,e,iW r3,by rw[<- lY pr];exact hl,rfl⟩,?_⟩;have rv:aD X.K H3 wv v:=(r1.keep kp2).keep kp3;refine k1 _ _ _ _ (((kp1.trans kp2).trans kp3).trans kp4) (A.go (((kp1.trans kp2).trans kp3).trans kp4) (m3.put (mo:=.dic (mE kvs key wv)) kp4 ⟨_,ar,?_⟩)) q3;exact Paired.gH (ur key rv pr) λ p q z=>⟨z.1,z.2.keep kp4⟩
end
def aab(f:Str)(v:W):List (Str×W)->List (Str×W)
 | []=>[(f,v)]
 | (g,x)::r=>if g=f then (g,v)::r else (g,x)::aab f v r
abbrev zK(K:PySem.W.Frag)(H:Hp):List (Str×W)->List (Str×V)->Prop:=Paired (λ(p:Str×W) (q:Str×V)=>p.1=q.1/\aD K H p.2 q.2)
theorem gw{K:PySem.W.Frag}{H:Hp}(f:Str):∀ {fs:List (Str×W)} {l:List (Str×V)},zK K H fs l->OR (aD K H) (fs.lookup f) (l.lookup f)
 | _,_,.nil=>True.intro
 | _,_,.cons (a:=p) (b:=q) (l₁:=t1) (l₂:=t2) h t=>by
  obtain⟨pk,pv⟩:=p;obtain⟨qk,qv⟩:=q;obtain⟨h1,h2⟩:=h;have h1':pk=qk:=h1;subst h1';rw[List.lookup_cons,List.lookup_cons];cases e:(f==pk) with
  | true=>exact h2
  | false=>exact gw f t
theorem w5{K:PySem.W.Frag}{H:Hp}(f:Str){w:W}{v:V}(r:aD K H w v):∀ {fs:List (Str×W)} {l:List (Str×V)},zK K H fs l->zK K H (aab f w fs) (mL f v l)
 | _,_,.nil=>.cons ⟨rfl,r⟩ .nil
 | _,_,.cons (a:=p) (b:=q) (l₁:=t1) (l₂:=t2) h t=>by
  obtain⟨pk,pv⟩:=p;obtain⟨qk,qv⟩:=q;obtain⟨h1,h2⟩:=h;have h1':pk=qk:=h1;subst h1';show zK K H (if pk=f then (pk,w)::t1 else (pk,pv)::aab f w t1) (if pk=f then (pk,v)::t2 else (pk,qv)::mL f v t2)
  by_cases e:pk=f
  ·rw[if_pos e,if_pos e];exact .cons ⟨rfl,r⟩ t
  ·rw[if_neg e,if_neg e];exact .cons ⟨rfl,h2⟩ (w5 f r t)
theorem zg{K:PySem.W.Frag}{H:Hp}:∀ {fs:List (Str×W)} {l:List (Str×V)},zK K H fs l->fs.length=l.length
 | _,_,.nil=>rfl
 | _,_,.cons _ t=>by simp[zg t]
theorem zK.keep{K:PySem.W.Frag}{H H':Hp}(kp:Kp H H'){fs:List (Str×W)}{l:List (Str×V)}(h:zK K H fs l):zK K H' fs l:=Paired.gH h λ p q z=>⟨z.1,z.2.keep kp⟩
section
variable {X:Cx}{C f:Addr}{o e value:Expr}{es:List Expr}{fn m x:Str}{pos pos' apos p:Pos}{td tv te:TD}{t:TAd}{k:Nat}{fd:FuncData}{ps:List Str}{sp:SpD}
inductive aiF(C:Addr) (fn:Str) (M1:MH) (w:W) (Q:QD):Prop
 | mk (a:Addr) (fs:List (Str×W)) (v:W) (z0:w=.m a) (z1:M1 a=some (.ins C fs)) (z2:fs.lookup fn=some v) (q:Q v M1):aiF C fn M1 w Q
def rQ(C:Addr)(td:TD)(fn:Str)(τ:DS)(M:MH)(Q:QD):Prop:=td τ M λ w M1=>aiF C fn M1 w Q
theorem dF(c:Cls X.K C)(n:dB X.K C fn)(he:PD X e td)(hb:attributeBase e fn X.env (eval e X.env)=eval e X.env:=by rfl):PD X (.Attribute e fn pos) (rQ C td fn):=eQ (agd he hb) λ σ H Q h=>by obtain⟨τ,M,Qd,A,h,k⟩:=h;refine⟨τ,M,_,A,h,λ x H1 w M1 kp1 r1 m1 hq68=>?_⟩;obtain⟨a,fs,v,ew,hm,hl,q⟩:=hq68;subst ew;obtain⟨dx,l,e,pr⟩:=m1 _ _ hm;have g:=gw fn pr;rw[hl] at g;obtain⟨b,eb,rb⟩:=OR.some_of g;exact⟨a,C,dx,l,b,r1,e,c,n,eb,k _ H1 v M1 kp1 rb m1 q⟩
def fc(C:Addr)(td tv:TD)(fn:Str)(D:Ed)(τ:DS)(M:MH):Prop:=tv τ M λ v M1=>td τ M1 λ w M2=>∃ a fs,w=.m a/\M2 a=some (.ins C fs)/\fs.length<1000/\D.nx τ (aE M2 a (.ins C (aab fn v fs)))
theorem ff(c:Cls X.K C)(n:dB X.K C fn)(ha:PD X o td)(hv:PD X value tv)(hs:swapsWith value (some (.Attribute o fn pos')) pos.line X.env=pure false:=by rfl):PSd X (.Assign [.Attribute o fn pos'] value pos) (fc C td tv fn):=qb (agh ha hv hs) λ D σ H h=>by obtain⟨τ,M,Dd,A,h,k1,_⟩:=h;refine⟨τ,M,_,A,h,λ v H1 wv M1 kp1 r1 m1 q1=>⟨τ,M1,_,A.go kp1 m1,q1,λ x H2 w M2 kp2 r2 m2 hq69=>?_⟩⟩;obtain⟨a,fs,ew,hm,hl,q2⟩:=hq69;subst ew;obtain⟨dx,l,e,pr⟩:=m2 _ _ hm;have kp4:Kp H2 (upd H2 a (.ins C dx (mL fn v l))):=Kp.set e (λ _ z=>nomatch z) (λ _ _ z=>nomatch z);refine⟨a,C,dx,l,r2,e,c,n,by rw[<- zg pr];exact hl,?_⟩;refine k1 _ _ _ _ ((kp1.trans kp2).trans kp4) (A.go ((kp1.trans kp2).trans kp4) (m2.put (mo:=.ins C (aab fn wv fs)) kp4 ⟨dx,_,ar,?_⟩)) q2;exact zK.keep kp4 (w5 fn (r1.keep kp2) pr)
inductive af8(C:Addr) (m:Str) (M1:MH) (w:W) (q:Prop):Prop
 | mk (a:Addr) (fs:List (Str×W)) (z0:w=.m a) (z1:M1 a=some (.ins C fs)) (z2:fs.lookup m=none) (z3:q):af8 C m M1 w q
def dO(C:Addr)(m:Str)(sp:SpD)(td:TD)(t:TAd)(τ:DS)(M:MH)(Q:QD):Prop:=td τ M λ w M1=>af8 C m M1 w (t τ M1 λ ws M2=>sp (w::ws) M2 Q)
theorem zP{σ:St}{H:Hp}{Q:VK}(h:up X.K (dO C m sp td t) σ H Q):adG C m (dG X.K sp) [] E0 (up X.K td) (upA X.K t) σ H Q:=by obtain⟨τ,M,Qd,A,h,k⟩:=h;refine⟨τ,M,_,A,h,λ x H1 w M1 kp1 r1 m1 hq70=>?_⟩;obtain⟨a,fs,ew,hm,hl,q1⟩:=hq70;subst ew;obtain⟨dx,l,e,pr⟩:=m1 _ _ hm;have g:=gw m pr;rw[hl] at g;refine⟨a,dx,l,r1,e,OR.none_of g,τ,M1,_,A.go kp1 m1,q1,λ vs H2 ws M2 kp2 r2 m2 q2=>?_⟩;exact⟨.m a::ws,M2,Qd,by rw[List.append_nil];exact .cons r1 r2,m2,q2,kgo (kgo k kp1) kp2⟩
theorem dN{pl:Sem Bool}(he:PD X o td)(c:Cls X.K C)(hm:Meth X.K C m f)(F:cX X.prog X.w X.K X.mg X.base CX0 k f fd ps (dG X.K sp))(hr:c4 k X.A)(hb:Binds X.K fd ps [])(ha:PAd X (e::es) t)
  (ht:eval (.Call (.Attribute o m apos) (e::es) [] pos) X.env=(do
   let ov <- eval o X.env
   standAt apos.atName
   let (f,first) <- holding [ov] (getMethod ov m pl)
   callWith pos f first (backTo pos (starEach (e::es) X.env)) (backToKw pos (keywordEach [] X.env))):=by rfl)
  (h1:gf e=false:=by rfl)(h2:(es.all λ e=>!gf e)=true:=by rfl):PD X (.Call (.Attribute o m apos) (e::es) [] pos) (dO C m sp td t):=
 eQ (ac0 (E:=E0) (dvs:=[]) he c hm F hr hb .nil wN ha (cu e es X.env h1) (dZ pos X.env es h2) ht) λ σ H Q h=>zP h
theorem cL{pl:Sem Bool}(he:PD X o td)(c:Cls X.K C)(hm:Meth X.K C m f)(F:cX X.prog X.w X.K X.mg X.base CX0 k f fd ps (dG X.K sp))(hr:c4 k X.A)(hb:Binds X.K fd ps [])
  (ht:eval (.Call (.Attribute o m apos) [] [] pos) X.env=(do
   let ov <- eval o X.env
   standAt apos.atName
   let (f,first) <- holding [ov] (getMethod ov m pl)
   callWith pos f first (backTo pos (starEach [] X.env)) (backToKw pos (keywordEach [] X.env))):=by rfl):PD X (.Call (.Attribute o m apos) [] [] pos) (dO C m sp td aM):=
 eQ (aa5 (E:=E0) (dvs:=[]) he c hm F hr hb .nil wN ht) λ σ H Q h=>by obtain⟨τ,M,Qd,A,h,k⟩:=h;refine⟨τ,M,_,A,h,λ x H1 w M1 kp1 r1 m1 hq71=>?_⟩;obtain⟨a,fs,ew,hm,hl,q1⟩:=hq71;subst ew;obtain⟨dx,l,e,pr⟩:=m1 _ _ hm;have g:=gw m pr;rw[hl] at g;exact⟨a,dx,l,r1,e,OR.none_of g,.m a::[],M1,Qd,.cons r1 .nil,m1,q1,kgo k kp1⟩
def aaT(C:Addr)(sp:SpD)(t:TAd)(τ:DS)(M:MH)(Q:QD):Prop:=t τ M λ ws M1=>∀ a,M1 a=none->sp (.m a::ws) (aE M1 a (.ins C [])) (λ v M2=>v=.d .none/\Q (.m a) M2)
theorem uh{H1:Hp}{M1:MH}{a dx:Addr}(m1:cK X.K H1 M1)(ha:H1 a=none)(hd:H1 dx=none)(hn:dx≠a):Kp H1 (upd (upd H1 dx (.own a)) a (.ins C dx []))/\cK X.K (upd (upd H1 dx (.own a)) a (.ins C dx [])) (aE M1 a (.ins C [])):=by
 have k1:Kp H1 (upd H1 dx (.own a)):=Kp.new hd;have ha2:(upd H1 dx (.own a)) a=none:=by rw[aj (Ne.symm hn)];exact ha
 have k2:Kp (upd H1 dx (.own a)) (upd (upd H1 dx (.own a)) a (.ins C dx [])):=Kp.new ha2;exact⟨k1.trans k2,(m1.new hd).put (mo:=.ins C []) k2 ⟨dx,[],ar,.nil⟩⟩
theorem oQ(Mk':Mk X.K C f)(F:cX X.prog X.w X.K X.mg X.base CX0 k f fd ps (dG X.K sp))(hr:c4 (k+1) X.A)(hg:Gl X x)(hm:X.mg x=some (.ref C))(hb:Binds X.K fd ps [])(ha:PAd X (e::es) t)(hdb:(x==("__debug__" : Str))=false:=by decide)
  (h1:gf e=false:=by rfl)(h2:(es.all λ e=>!gf e)=true:=by rfl):PD X (.Call (.Name x p) (e::es) [] pos) (aaT C sp t):=
 eQ (ad2 (E:=E0) (dvs:=[]) Mk' F hr hg hm hb .nil wN ha hdb (cu e es X.env h1) (dZ pos X.env es h2)) λ σ H Q h=>by
  obtain⟨τ,M,Qd,A,h,k⟩:=h;refine⟨τ,M,_,A,h,λ vs H1 ws M1 kp1 r1 m1 q1 a dx ha hd hn=>?_⟩;obtain⟨kp2,m2⟩:=uh (X:=X) (C:=C) m1 ha hd hn;exact⟨.m a::ws,_,_,by rw[List.append_nil];exact .cons rfl (r1.keep kp2),m2,q1 a (m1.free ha),λ v H' w M' kp3 r3 m3 hq72=>by obtain⟨e3,q3⟩:=hq72;subst e3;simp only[aD,aA] at r3;exact⟨r3,k _ H' (.m a) M' ((kp1.trans kp2).trans kp3) rfl m3 q3⟩⟩
end
def ik(M:MH)(a:Addr):MH:=λ b=>if b=a then none else M b
theorem acR{M:MH}{a b:Addr}(h:b≠a):ik M a b=M b:=if_neg h
theorem cK.del{K:PySem.W.Frag}{H:Hp}{M:MH}{a:Addr}{o:HO}(m:cK K H M)(kp:Kp H (upd H a o)):cK K (upd H a o) (ik M a):=λ b mo hm=>by
 by_cases e:b=a
 ·subst e;simp[ik] at hm
 ·rw[acR e] at hm;exact(m b mo hm).keep kp λ u z=>by rw[aj e];exact z
def agU(R:W->MH->Prop)(ws:List W)(M:MH):Prop:=match ws with
 | [y]=>R y M
 | _=>False
theorem sL{R:W->MH->Prop}{ws:List W}{M:MH}(h:agU R ws M):∃ y,ws=[y]/\R y M:=by
 match ws,h with
 | [y],h=>exact⟨y,rfl,h⟩
section
variable {X:Cx}{o e:Expr}{pos apos cpos:Pos}{td te:TD}
def ig(td:TD)(τ:DS)(M:MH)(Q:QD):Prop:=td τ M λ w M1=>∃ a ds,w=.m a/\M1 a=some (.lst (ds.map W.d))/\Q (.d (.list ds)) (ik M1 a)
theorem c9(h:PD X e td):PD X e (ig td):=eQ (uO h) λ σ H Q h=>by obtain⟨τ,M,Qd,A,h,k⟩:=h;refine⟨τ,M,_,A,h,λ x H1 w M1 kp1 r1 m1 hq73=>?_⟩;obtain⟨a,ds,ew,hm,q⟩:=hq73;subst ew;obtain⟨vs,e,ra⟩:=m1 _ _ hm;refine⟨a,_,r1,e,trivial,λ ob=>?_⟩;have kp2:Kp H1 (upd H1 a (.frz ob (.lst vs))):=Kp.set e (λ _ z=>nomatch z) (λ _ _ z=>nomatch z);refine k _ _ (.d (.list ds)) (ik M1 a) (kp1.trans kp2) ?_ (m1.del kp2) q;simp only[aD,aA];exact⟨a,vs,r1,.inl ⟨ob,ar⟩,ra.data.keep kp2⟩
def iC(td te:TD)(τ:DS)(M:MH)(Q:QD):Prop:=td τ M λ w M1=>∃ a ws,w=.m a/\M1 a=some (.lst ws)/\te τ M1 λ y M2=>∃ ws',M2 a=some (.lst ws')/\ws'.length<sizeLine/\Q (.d .none) (aE M2 a (.lst (ws'++[y])))
theorem eI(ho:PD X o td)(he:PD X e te)
  (hbase:attributeBase o "append" X.env (eval o X.env)=eval o X.env:=by rfl)
  (hfew:((backTo cpos (starEach [e] X.env)).all (λ x=>!x.1)&&(backToKw cpos (keywordEach [] X.env)).all (λ x=>x.1.isSome)
   && decide (([e]:List Expr).length+([]:List Keyword).length+(if ([]:List Keyword).isEmpty then 0 else 1)<30))=true:=by rfl)
  (hline:(apos.endLine==cpos.line)=true:=by rfl)(hs:gf e=false:=by rfl):PD X (.Call (.Attribute o "append" apos) [e] [] cpos) (iC td te):=
 eQ (aaG PySem.F.plainAttrs_list PySem.F.slot_list_append PySem.F.type_list_append zC ho (pac he af hs) hbase hfew hline (cu e [] X.env hs) rfl) λ σ H Q h=>by obtain⟨τ,M,Qd,A,h,k⟩:=h;refine⟨τ,M,_,A,h,λ x H1 w M1 kp1 r1 m1 hq74=>?_⟩;obtain⟨a,ws,ew,hm,q1⟩:=hq74;subst ew;obtain⟨vs,ea,ra⟩:=m1 _ _ hm;have r1':x=.ref a:=r1;subst r1';refine⟨.inl ⟨rfl,vs,.inl (.inl ea)⟩,τ,M1,agU (λ y M2=>∃ ws',M2 a=some (.lst ws')/\ws'.length<sizeLine/\Qd (.d .none) (aE M2 a (.lst (ws'++[y])))),A.go kp1 m1,q1,λ ys H2 wys M2 kp2 r2 m2 q2=>?_⟩;obtain⟨y,ey,ws',hm2,hl,q4⟩:=sL q2;subst ey;obtain⟨v,ev,rv⟩:=fZ r2;subst ev;obtain⟨vs2,ea2,ra2⟩:=m2 _ _ hm2;have kp4:Kp H2 (upd H2 a (.lst (vs2++[v]))):=Kp.set ea2 (λ _ z=>nomatch z) (λ _ _ z=>nomatch z);refine⟨a,vs2,v,rfl,rfl,ea2,by rw[<- ra2.length];exact hl,?_⟩;exact k _ _ (.d .none) _ ((kp1.trans kp2).trans kp4) (by simp[aD,aA]) (m2.put (mo:=.lst (ws'++[y])) kp4 ⟨_,ar,(aN.append ra2 (.cons rv .nil)).keep kp4⟩) q4
def p8(td:TD)(τ:DS)(M:MH)(Q:QD):Prop:=td τ M λ w M1=>∃ a ws,w=.m a/\M1 a=some (.lst ws)/\Q (.d .none) (aE M1 a (.lst ws.reverse))
theorem aN.reverse{K:PySem.W.Frag}{H:Hp}:∀ {ws:List W} {vs:List V},aN K H ws vs->aN K H ws.reverse vs.reverse
 | _,_,.nil=>.nil
 | _,_,.cons h t=>by simp only[List.reverse_cons];exact aN.append (aN.reverse t) (.cons h .nil)
theorem jA(ho:PD X o td)(hbase:attributeBase o "reverse" X.env (eval o X.env)=eval o X.env:=by rfl)(hline:(apos.endLine==cpos.line)=true:=by rfl):PD X (.Call (.Attribute o "reverse" apos) [] [] cpos) (p8 td):=
 eQ (agt PySem.F.plainAttrs_list PySem.F.slot_list_reverse PySem.F.type_list_reverse vz ho hbase hline) λ σ H Q h=>by obtain⟨τ,M,Qd,A,h,k⟩:=h;refine⟨τ,M,_,A,h,λ x H1 w M1 kp1 r1 m1 hq75=>?_⟩;obtain⟨a,ws,ew,hm,q1⟩:=hq75;subst ew;obtain⟨vs,ea,ra⟩:=m1 _ _ hm;have r1':x=.ref a:=r1;subst r1';have kp4:Kp H1 (upd H1 a (.lst vs.reverse)):=Kp.set ea (λ _ z=>nomatch z) (λ _ _ z=>nomatch z);refine⟨.inl ⟨rfl,vs,.inl (.inl ea)⟩,a,vs,rfl,rfl,ea,?_⟩;exact k _ _ (.d .none) _ (kp1.trans kp4) (by simp[aD,aA]) (m1.put (mo:=.lst ws.reverse) kp4 ⟨_,ar,(aN.reverse ra).keep kp4⟩) q1
end
def sY(K:PySem.W.Frag)(H:Hp)(d:PyData)(x:V):Prop:=aA K H d x\/∃ a vs ds,d=.list ds/\x=.ref a/\H a=some (.lst vs)/\bf K H ds vs
inductive aac(M:MH):W->PyData->Prop
 | d {x:PyData}:aac M (.d x) x
 | l {a:Addr} {ds:List PyData} (h:M a=some (.lst (ds.map W.d))):aac M (.m a) (.list ds)
theorem aac.sound{K:PySem.W.Frag}{H:Hp}{M:MH}{w:W}{d:PyData}{x:V}(g:aac M w d)(r:aD K H w x)(m:cK K H M):sY K H d x:=by
 cases g with
 | d=>exact .inl r
 | l h =>
  obtain⟨vs,e,ra⟩:=m _ _ h;exact .inr ⟨_,vs,_,rfl,r,e,ra.data⟩
section
variable {X:Cx}{pins:List (Addr×Obj)}{σ:St}{H:Hp}{s:Shared}
theorem aje(I:Inv X pins σ H s){d:PyData}{x:V}(h:sY X.K H d x):∃ H',Inv X pins σ H' s/\aA X.K H' d x:=by
 rcases h with h | ⟨a,vs,ds,rfl,rfl,e,ra⟩
 ·exact⟨H,I,h⟩
 ·obtain⟨o,I2⟩:=I.freeze e trivial;have kp:Kp H (upd H a (.frz o (.lst vs))):=Kp.set e (λ _ z=>nomatch z) (λ _ _ z=>nomatch z);refine⟨_,I2,?_⟩;simp only[aA];exact⟨a,vs,rfl,.inl ⟨o,ar⟩,ra.keep kp⟩
theorem fA(I:Inv X pins σ H s)(d:PyData){x:V}{u:Value}(h:sY X.K H d x)(r:RelV x u)(hd:d.hasDict=false):∃ as,Reads s.heap u d as:=by obtain⟨H',I',h'⟩:=aje I h;exact fT I' d h' r hd
end
section
variable {X:Cx}
theorem eE{k:Nat}(hr:c4 k X.A):OpR X (compareOp .Eq) (λ x y H Q=>∃ d d',sY X.K H d x/\sY X.K H d' y/\fh d d'=true/\Q (.bl (PyData.eqv d d')) H):=by
 intro pins s σ H x y v u Q I rx ry h;obtain⟨d,d',h1,h2,o,q⟩:=h;rcases fQ o with ⟨a,b,e1,e2⟩ | ⟨o1,o2⟩
 ·subst e1;subst e2;rcases h1 with h1 | ⟨_,_,_,z,_⟩
  ·rcases h2 with h2 | ⟨_,_,_,z,_⟩
   ·exact ab4 hr pins s σ H x y v u Q I rx ry ⟨_,_,h1,h2,o,q⟩
   ·cases z
  ·cases z
 simp only[rH,Bool.and_eq_true,Bool.not_eq_true'] at o1 o2;obtain⟨as,r1⟩:=fA I d h1 rx o1.2;obtain⟨bs,r2⟩:=fA I d' h2 ry o2.2;exact eq_dataH r1 r2 o1.1 o2.1 hr.units ⟨.bl _,H,I,rfl,q⟩
theorem afX{k:Nat}(hr:c4 k X.A):OpR X (compareOp .NotEq) (λ x y H Q=>∃ d d',sY X.K H d x/\sY X.K H d' y/\fh d d'=true/\Q (.bl (!PyData.eqv d d')) H):=by
 intro pins s σ H x y v u Q I rx ry h;obtain⟨d,d',h1,h2,o,q⟩:=h;rcases fQ o with ⟨a,b,e1,e2⟩ | ⟨o1,o2⟩
 ·subst e1;subst e2;rcases h1 with h1 | ⟨_,_,_,z,_⟩
  ·rcases h2 with h2 | ⟨_,_,_,z,_⟩
   ·exact aeY hr pins s σ H x y v u Q I rx ry ⟨_,_,h1,h2,o,q⟩
   ·cases z
  ·cases z
 simp only[rH,Bool.and_eq_true,Bool.not_eq_true'] at o1 o2;obtain⟨as,r1⟩:=fA I d h1 rx o1.2;obtain⟨bs,r2⟩:=fA I d' h2 ry o2.2;exact ne_dataH r1 r2 o1.1 o2.1 hr.units ⟨.bl _,H,I,rfl,q⟩
end
section
variable {X:Cx}{K:PySem.W.Frag}
def ia(w w':W)(M:MH)(Q:QD):Prop:=∃ d d',aac M w d/\aac M w' d'/\fh d d'=true/\Q (.d (.bool (PyData.eqv d d'))) M
def aeW(w w':W)(M:MH)(Q:QD):Prop:=∃ d d',aac M w d/\aac M w' d'/\fh d d'=true/\Q (.d (.bool (!PyData.eqv d d'))) M
theorem cO:OpD K (λ x y H Q=>∃ d d',sY K H d x/\sY K H d' y/\fh d d'=true/\Q (.bl (PyData.eqv d d')) H) ia:=by intro x y H w w' M Qd Q r1 r2 m ⟨d,d',g1,g2,o1,q⟩ k;exact⟨d,d',g1.sound r1 m,g2.sound r2 m,o1,k _ H (.d (.bool _)) M (Kp.refl H) (by simp[aD,aA]) m q⟩
theorem adp:OpD K (λ x y H Q=>∃ d d',sY K H d x/\sY K H d' y/\fh d d'=true/\Q (.bl (!PyData.eqv d d')) H) aeW:=by intro x y H w w' M Qd Q r1 r2 m ⟨d,d',g1,g2,o1,q⟩ k;exact⟨d,d',g1.sound r1 m,g2.sound r2 m,o1,k _ H (.d (.bool _)) M (Kp.refl H) (by simp[aD,aA]) m q⟩
inductive adJ(M:MH):W->List W->Prop
 | l {ds:List PyData}:adJ M (.d (.list ds)) (ds.map W.d)
 | t {ds:List PyData}:adJ M (.d (.tuple ds)) (ds.map W.d)
 | m {a:Addr} {ws:List W} (h:M a=some (.lst ws)):adJ M (.m a) ws
theorem adJ.sound{H:Hp}{M:MH}{w:W}{ws:List W}{x:V}(g:adJ M w ws)(r:aD K H w x)(m:cK K H M):∃ p ys,x=.ref p/\(SqL K H p ys\/SqT K H p ys)/\aN K H ws ys:=by
 cases g with
 | l =>
  simp only[aD,aA] at r;obtain⟨a,vs,e,hs,ra⟩:=r;exact⟨a,vs,e,.inl hs.sq,ra.ws⟩
 | t =>
  simp only[aD,aA] at r;obtain⟨a,vs,e,hs,ra⟩:=r;exact⟨a,vs,e,.inr hs,ra.ws⟩
 | m h =>
  obtain⟨vs,e,ra⟩:=m _ _ h;exact⟨_,vs,r,.inl (.inl (.inl e)),ra⟩
def dy(ws:List W)(M:MH)(Q:QD):Prop:=∃ w xs,ws=[w]/\adJ M w xs/\∀ p,M p=none->Q (.m p) (aE M p (.lst xs))
theorem eK:hZ K (λ xs H Q=>∃ p ys,xs=[.ref p]/\(SqL K H p ys\/SqT K H p ys)/\∀ l,H l=none->Q (.ref l) (upd H l (.lst ys))) dy:=by intro vs H ws M Qd Q r m ⟨w,xs,e,g,q⟩ k;subst e;obtain⟨v,e1,r1⟩:=fZ r;obtain⟨p,ys,ev,hs,rs⟩:=g.sound r1 m;subst ev;refine⟨p,ys,e1,hs,λ l hl=>?_⟩;have kp:Kp H (upd H l (.lst ys)):=Kp.new hl;exact k _ _ (.m l) _ kp rfl (m.put (mo:=.lst xs) kp ⟨ys,ar,rs.keep kp⟩) (q l (m.free hl))
def cN(zs:List Str):List W:=zs.map λ z=>.d (.str z)
theorem uA{H:Hp}:∀ {zs:List Str} {vs:List V},aN K H (cN zs) vs->vs=zs.map V.str
 | [],_,h=>by cases h;rfl
 | z::zs,_,h=>by
  cases h with
  | cons r t =>
   simp only[aD,aA] at r;rw[r,uA t];rfl
theorem yk(z:Str):∀ zs:List Str,inV (.str z) (zs.map V.str)=decide (z∈zs)
 | []=>rfl
 | y::zs=>by
  have h:inV (.str z) ((y::zs).map V.str)=((y==z) || inV (.str z) (zs.map V.str)):=rfl;rw[h,yk z zs]
  by_cases e:z=y
  ·subst e;simp
  ·have e':(y==z)=false:=by
    cases q:(y==z) with
    | false=>rfl
    | true=>exact absurd (eq_of_beq q).symm e
   rw[e'];simp[e]
theorem xj:∀ zs:List Str,(zs.map V.str).all mT=true
 | []=>rfl
 | _::zs=>by simp[mT]
def ad0(neg:Bool)(w w':W)(M:MH)(Q:QD):Prop:=∃ z zs,w=.d (.str z)/\adJ M w' (cN zs)/\Q (.d (.bool (if neg then !decide (z∈zs) else decide (z∈zs)))) M
theorem uZ(neg:Bool):OpD K (rIn K neg) (ad0 neg):=by intro x y H w w' M Qd Q r1 r2 m ⟨z,zs,ew,g,q⟩ k;subst ew;simp only[aD,aA] at r1;subst r1;obtain⟨p,ys,ey,hs,rs⟩:=g.sound r2 m;have e:=uA rs;subst e;refine⟨p,_,ey,hs,rfl,xj zs,?_⟩;rw[yk];exact k _ H (.d (.bool _)) M (Kp.refl H) (by simp[aD,aA]) m q
inductive vp(M:MH):W->Bool->Prop
 | n:vp M (.d .none) false
 | b {k:Bool}:vp M (.d (.bool k)) k
 | i {k:Int}:vp M (.d (.int k)) (k != 0)
 | s {z:Str} (h:z.length<=sizeLine):vp M (.d (.str z)) ((z.length:Int) != 0)
 | l {ds:List PyData}:vp M (.d (.list ds)) (!ds.isEmpty)
 | t {ds:List PyData}:vp M (.d (.tuple ds)) (!ds.isEmpty)
 | m {a:Addr} {ws:List W} (h:M a=some (.lst ws)):vp M (.m a) (!ws.isEmpty)
 | dk {a:Addr} {kvs:List (Key×W)} (h:M a=some (.dic kvs)):vp M (.m a) (!kvs.isEmpty)
theorem i4{α β:Type}{xs:List α}{ys:List β}(h:xs.length=ys.length):xs.isEmpty=ys.isEmpty:=by
 cases xs<;>cases ys<;>simp at h ⊢
theorem vp.sound{H:Hp}{M:MH}{w:W}{b:Bool}{x:V}(g:vp M w b)(r:aD K H w x)(m:cK K H M):agR K x H b:=by
 cases g with
 | n=>simp only[aD,aA] at r;subst r;rfl
 | b=>simp only[aD,aA] at r;subst r;rfl
 | i=>simp only[aD,aA] at r;subst r;rfl
 | s h=>simp only[aD,aA] at r;subst r;exact⟨h,rfl⟩
 | l =>
  simp only[aD,aA] at r;obtain⟨a,vs,e,hs,ra⟩:=r;subst e;exact .inl ⟨vs,hs.sq,by rw[i4 ra.length]⟩
 | t =>
  simp only[aD,aA] at r;obtain⟨a,vs,e,hs,ra⟩:=r;subst e;exact .inr (.inl ⟨vs,hs,by rw[i4 ra.length]⟩)
 | m h =>
  obtain⟨vs,e,ra⟩:=m _ _ h;have r':x=.ref _:=r;subst r';exact .inl ⟨vs,.inl (.inl e),by rw[i4 ra.length]⟩
 | dk h =>
  obtain⟨l,e,pr⟩:=m _ _ h;have r':x=.ref _:=r;subst r';exact .inr (.inr ⟨l,e,by rw[i4 (lY pr)]⟩)
def agT(ta:TD)(τ:DS)(M:MH)(Q:Bool->MH->Prop):Prop:=ta τ M λ w M1=>∃ b,vp M1 w b/\Q b M1
theorem iM{a:Expr}{ta:TD}(ha:PD X a ta)(he:∀ whole:Sem Value,PySem.isTrue a X.env whole=(do let v <- whole;standAt a.pos;holding [v] (truthy v)):=by intro _;rfl):PTd X a (agT ta):=
 aeq (zX ha he) λ σ H Q h=>by obtain⟨τ,M,Qd,A,h,k⟩:=h;exact⟨τ,M,_,A,h,λ v H' w M' kp r m ⟨b,g,q⟩=>⟨b,g.sound r m,k b H' M' kp m q⟩⟩
def abo(ws:List W)(M:MH)(Q:QD):Prop:=∃ i j,ws=[.d (.int i),.d (.int j)]/\Q (.d (.int (if j > i then j else i))) M
theorem acO:hZ K (λ xs H Q=>∃ i j,xs=[V.int i,V.int j]/\Q (V.int (if j > i then j else i)) H) abo:=by intro vs H ws M Qd Q r m ⟨i,j,e,q⟩ k;subst e;obtain⟨v,v',e1,r1,r2⟩:=yW r;simp only[aD,aA] at r1 r2;subst r1 r2;exact⟨i,j,e1,k _ H (.d (.int _)) M (Kp.refl H) (by simp[aD,aA]) m q⟩
end
theorem pE:∀ {ns:List Int} {its:List Value},Vals (ns.map V.int) its->∃ xs:List (Int×Tok),its=xs.map (λ p=>Value.int p.1 p.2)/\xs.map (·.1)=ns
 | [],its,h=>by cases h;exact⟨[],rfl,rfl⟩
 | n::ns,its,h=>by
  cases h with
  | cons r t =>
   obtain⟨tk,e⟩:=(show ∃ t,_=Value.int n t from r);obtain⟨xs,e1,e2⟩:=pE t;exact⟨(n,tk)::xs,by rw[e,e1];rfl,by rw[List.map_cons,e2]⟩
section
variable {X:Cx}{K:PySem.W.Frag}
def afP(K:PySem.W.Frag):R2:=λ x y H Q=>∃ l b xs zs,x=.ref l/\y=.ref b/\SqL K H l xs/\SqL K H b zs/\xs.length+zs.length<=sizeLine/\∀ p,H p=none->Q (.ref p) (upd H p (.lst (xs++zs)))
theorem sO:OpR X (binaryOp .Add) (afP X.K):=by
 intro pins s σ H x y v u Q I rx ry h;obtain⟨l,b,xs,zs,rfl,rfl,h1,h2,hz,q⟩:=h;cases rx;cases ry;obtain⟨its,r1,p1,_⟩:=I.list h1;obtain⟨its2,r2,p2,_⟩:=I.list h2;have t1:=p1.isList.typeIs (s:=s);have t2:=p2.isList.typeIs (s:=s);obtain⟨⟨oc,od,odt,osl⟩,n,e1,c1,d1,g1⟩:=p1;obtain⟨⟨oc2,od2,odt2,osl2⟩,n2,e2,c2,d2,g2⟩:=p2;dsimp only at c1 d1 g1 c2 d2 g2;subst c1 d1 g1 c2 d2 g2;have hl1:=r1.length;have hl2:=r2.length;refine wpAny_binaryOp_concat (T:= "list") t1 t2 noFill_list_add seq_list_add ?_;refine call_meets PySem.F.slot_list_add t1 PySem.F.entry_list_add (PySem.F.args_list_add_2 _ _) (list_addW l b its.toArray its2.toArray n n2 none none osl osl2 (by simp only[List.size_toArray];omega)) ⟨e1,e2,?_⟩;have ea:its.toArray++its2.toArray=(its++its2).toArray:=by simp
 rw[ea];exact⟨.ref _,_,I.ajh (t':=s.toks) (r1.append r2) (by rw[List.length_append];omega),rfl,q _ I.fresh⟩
inductive adq(M:MH):W->List PyData->Prop
 | d {ds:List PyData}:adq M (.d (.list ds)) ds
 | m {a:Addr} {ds:List PyData} (h:M a=some (.lst (ds.map W.d))):adq M (.m a) ds
theorem adq.sound{H:Hp}{M:MH}{w:W}{ds:List PyData}{x:V}(g:adq M w ds)(r:aD K H w x)(m:cK K H M):∃ p ys,x=.ref p/\SqL K H p ys/\bf K H ds ys:=by
 cases g with
 | d =>
  simp only[aD,aA] at r;obtain⟨a,vs,e,hs,ra⟩:=r;exact⟨a,vs,e,hs.sq,ra⟩
 | m h =>
  obtain⟨vs,e,ra⟩:=m _ _ h;exact⟨_,vs,r,.inl (.inl e),ra.data⟩
def ahr(ta tb:TD)(τ:DS)(M:MH)(Q:QD):Prop:=ta τ M λ w M1=>tb τ M1 λ w' M2=>∃ xs ys,adq M2 w xs/\adq M2 w' ys/\xs.length+ys.length<=sizeLine/\Q (.d (.list (xs++ys))) M2
theorem wM{a b:Expr}{pos:Pos}{ta tb:TD}(ha:PD X a ta)(hb:PD X b tb):PD X (.BinOp a .Add b pos) (ahr ta tb):=eQ (uO (agv sO ha hb)) λ σ H Q h=>by obtain⟨τ,M,Qd,A,h,k⟩:=h;refine⟨τ,M,_,A,h,λ x H1 w M1 kp1 r1 m1 q1=>⟨τ,M1,_,A.go kp1 m1,q1,λ y H2 w' M2 kp2 r2 m2 hq76=>?_⟩⟩;obtain⟨xs,ys,g1,g2,hz,q⟩:=hq76;obtain⟨p,vs,e1,s1,ra1⟩:=g1.sound (r1.keep kp2) m2;obtain⟨p',vs',e2,s2,ra2⟩:=g2.sound r2 m2;refine⟨p,p',vs,vs',e1,e2,s1,s2,by rw[ra1.length,ra2.length];exact hz,λ c hc=>?_⟩;exact pL hc (ra1.append ra2) m2 q (kgo (kgo k kp1) kp2)
theorem qM{H:Hp}:∀ {ns:List Int} {vs:List V},bf K H (ns.map PyData.int) vs->vs=ns.map V.int
 | [],vs,h=>by simpa [bf] using h
 | n::ns,vs,h=>by simp only[List.map_cons,bf] at h;obtain⟨v,r,e,h1,h2⟩:=h;simp only[aA] at h1;rw[e,h1,qM h2];rfl
end
abbrev abS:=List W->DS->MH->(DS->MH->Prop)->Prop
def ajq(K:PySem.W.Frag)(g:abS):TGs:=λ vs σ H Q=>∃ ws τ M Qd,aN K H ws vs/\Abs K H σ τ M/\g ws τ M Qd/\∀ σ' H' τ' M',Kp H H'->Abs K H' σ' τ' M'->Qd τ' M'->Q σ' H'
abbrev abe(X:Cx)(es:List Expr)(g:abS):Prop:=PGs X es (ajq X.K g)
theorem agQ{X:Cx}{es:List Expr}{g g':TGs}(h:PGs X es g)(k:∀ v σ H Q,g' v σ H Q->g v σ H Q):PGs X es g':=λ pins s σ H v u Q I r q=>h pins s σ H v u Q I r (k v σ H Q q)
section
variable {X:Cx}{pos:Pos}{e:Expr}{es:List Expr}
def gi(ws:List W)(τ:DS)(M:MH)(Q:DS->MH->Prop):Prop:=ws=[]/\Q τ M
def bq(g:TGd)(gs:abS)(ws:List W)(τ:DS)(M:MH)(Q:DS->MH->Prop):Prop:=∃ w r,ws=w::r/\g w τ M λ τ' M'=>gs r τ' M' Q
theorem bI:abe X [] gi:=agQ acD λ vs σ H Q hq77=>by obtain⟨ws,τ,M,Qd,r,A,⟨e,q⟩,k⟩:=hq77;subst e;cases r;exact⟨rfl,k σ H τ M (Kp.refl H) A q⟩
theorem aB{g:TGd}{gs:abS}(h1:PGd X e g)(h2:abe X es gs)(hs:(assignEach (e::es) X.env).map (·.2)=assign e X.env::(assignEach es X.env).map (·.2):=by rfl):abe X (e::es) (bq g gs):=
 agQ (aay h1 h2 hs) λ vs σ H Q hq78=>by
  obtain⟨ws,τ,M,Qd,r,A,⟨w,wr,ew,q⟩,k⟩:=hq78;subst ew;cases r with
  | cons r1 r2 =>
   refine⟨_,_,rfl,w,τ,M,_,r1,A,q,λ σ1 H1 τ1 M1 kp1 A1 q1=>?_⟩;exact⟨wr,τ1,M1,Qd,aN.keep kp1 r2,A1,q1,λ σ2 H2 τ2 M2 kp2 A2 q2=>k σ2 H2 τ2 M2 (kp1.trans kp2) A2 q2⟩
def gT(n:Nat)(gs:abS)(w:W)(τ:DS)(M:MH)(Q:DS->MH->Prop):Prop:=∃ ds,w=.d (.tuple ds)/\ds.length=n/\gs (ds.map W.d) τ M Q
theorem cc{k n:Nat}{gs:abS}(hc:X.calm=true)(h:abe X es gs)(hn:(assignEach es X.env).length=n:=by rfl)(hst:(assignEach es X.env).findIdx? (·.1)=none:=by rfl):PGd X (.Tuple es k pos) (gT n gs):=
 ahp (aey hc h hn hst) λ v σ H Q hq79=>by obtain⟨w,τ,M,Qd,r,A,⟨ds,ew,hl,q⟩,kk⟩:=hq79;subst ew;simp only[aD,aA] at r;obtain⟨a,vs,ev,hs,ra⟩:=r;exact⟨a,vs,ev,hs,by rw[ra.length];exact hl,ds.map W.d,τ,M,Qd,ra.ws,A,q,kk⟩
def uy(trs:List (TD×TD))(τ:DS)(M:MH)(Q:QD):Prop:=∀ p,M p=none->ya trs τ (aE M p (.dic [])) λ ps M2=>M2 p=some (.dic [])/\∃ kvs:List (Key×W),ps=kvs.map (λ q=>(kW q.1,q.2))/\kvs.length<=15/\(kvs.map (·.1)).Nodup /\
 Q (.m p) (aE M2 p (.dic kvs))
theorem mZ{K:PySem.W.Frag}{H:Hp}:∀ {kvs:List (Key×W)} {ps:List (V×V)},Paired (λ(p:W×W) (q:V×V)=>aD K H p.1 q.1/\aD K H p.2 q.2) (kvs.map λ q=>(kW q.1,q.2)) ps ->
  ∃ l:List (Key×V),ps=l.map (λ kv=>(kV kv.1,kv.2))/\l.map (·.1)=kvs.map (·.1)/\Paired (λ(p:Key×W) (q:Key×V)=>p.1=q.1/\aD K H p.2 q.2) kvs l
 | [],ps,h=>by cases h;exact⟨[],rfl,rfl,.nil⟩
 | (k,d)::kvs,ps,h=>by
  cases h with
  | cons r t =>
   rename_i q qs
   obtain⟨x,y⟩:=q;obtain⟨l,e1,e2,e3⟩:=mZ t;refine⟨(k,y)::l,?_,by simp[e2],.cons ⟨rfl,r.2⟩ e3⟩;rw[List.map_cons,<- e1,<- iW r.1]
theorem kn{keys:List (Option Expr)}{values:List Expr}{trs:List (TD×TD)}(h:PPs X pos keys values (trs.map λ p=>(up X.K p.1,up X.K p.2)))(hall:keys.all (·.isSome)=true:=by rfl)(hl:keys.length=values.length:=by rfl)(h0:keys≠[]:=by simp)
  (h15:keys.length<=15:=by decide):PD X (.Dict keys values pos) (uy trs):=eQ (ad1 h hall hl h0 h15) λ σ H Q ⟨τ,M,Qd,A,q,k⟩=>λ p hp=>by
 have kp0:Kp H (upd H p (.dK [])):=Kp.new hp;have m0:cK X.K (upd H p (.dK [])) (aE M p (.dic [])):=A.mem.put (mo:=.dic []) kp0 ⟨[],ar,.nil⟩;have hM:=A.mem.free hp;refine qU (A.go kp0 m0) (q p hM) λ ps H2 ws M2 kp2 r2 m2 hq80=>?_;obtain⟨eM,kvs,ews,hlen,hnd,qq⟩:=hq80;subst ews;obtain⟨l0,e0,pr0⟩:=m2 p _ eM;have el0:l0=[]:=by cases pr0;rfl
 subst el0;obtain⟨l,e1,e2,e3⟩:=mZ r2;have elen:l.length=kvs.length:=by
  have:=congrArg List.length e2
  simpa using this
 refine⟨e0,l,e1,by omega,?_⟩;have em:fY [] l=l:=by rw[nZ (by simpa [e2] using hnd)];rfl
 rw[em];have kp3:Kp H2 (upd H2 p (.dK l)):=Kp.set e0 (λ xs z=>nomatch z) λ _ _ z=>nomatch z;exact k _ _ (.m p) _ ((kp0.trans kp2).trans kp3) rfl (m2.put (mo:=.dic kvs) kp3 ⟨l,ar,Paired.gH e3 λ p q z=>⟨z.1,z.2.keep kp3⟩⟩) qq
end
structure Mf(K:PySem.W.Frag)(C:Addr)(x qual:Str)(st:Stmt)(ps:List Str)(f:Addr)(fd:FuncData):Prop where
 fn:Fun K x qual st f fd
 me:Meth K C x f
 bd:Binds K fd ps []
section
variable {K:PySem.W.Frag}{C:Addr}
theorem ahK{x qual:Str}{st:Stmt}{ps:List Str}{f:Addr}{oc:Value}{od an:Option Addr}{osl:Array (Option Value)}{kV doc pm cdv ct:Value}(a:PySem.W.findIn K (.ref C) x=some (some (.ref f)))(i:PySem.W.isFn K (.ref f)=true)
  (l:K.lookup f=some ⟨oc,od,.func (PySem.W.fnOf x qual (bx st) (bj st) (aq st) .none kV doc pm an cdv ct),osl⟩)(c:PySem.W.codeIn K cdv qual=true)(k:PySem.W.keepIn K (.ref f)=true)
  (b:∀ (kV doc pm:Value) (an:Option Addr) (cdv ct:Value) (us:List Value),us.length=ps.length->bindArgs (PySem.W.fnOf x qual (bx st) (bj st) (aq st) .none kV doc pm an cdv ct) ⟨us,[]⟩=pure (ps.zip us)) :
  Mf K C x qual st ps f (PySem.W.fnOf x qual (bx st) (bj st) (aq st) .none kV doc pm an cdv ct):=
 have F:=aci (st:=st) l c k
 ⟨F,⟨a,i,k⟩,F.binds b⟩
end
section
variable {X:Cx}{pos p:Pos}{e:Expr}{es:List Expr}{t:TAd}{x:Str}{T:String}{r:List V->Hp->VK->Prop}{rd:List W->MH->QD->Prop}
theorem pcT(hc:fC X (.type T) r)(hd:hZ X.K r rd)(hg:Gl X x)(hm:X.mg x=none)(hv:bootBuiltins x=some (.type T))(ha:PAd X (e::es) t)(hn:x ≠ "__name__":= by decide)(hdb:(x==("__debug__" : Str))=false:=by decide)
  (h1:gf e=false:=by rfl)(h2:(es.all λ e=>!gf e)=true:=by rfl):PD X (.Call (.Name x p) (e::es) [] pos) (dCB rd t):=wL hc hd hg hm hv ha hn hdb (cu e es X.env h1) (dZ pos X.env es h2)
end
theorem afU:bootBuiltins "max" = some (.builtin "max"):=by decide +kernel
namespace Q
section
variable {X:Cx}{o i e f:Expr}{pos apos cpos:Pos}{td ty tx:TE}
end
section
variable {X:Cx}{o i e f value:Expr}{es:List Expr}{pos pos' apos cpos:Pos}{td ti tx tv:TD}{t:TAd}
theorem gC  : Jd (PD X (.Dict [] [] pos) jo):=⟨D.gC ⟩
theorem jz(hu:X.A.units+1<cLine)(hi:Jd (PD X i ti))(ho:Jd (PD X o td))(hm:behindInMarks .NotIn o=false:=by rfl):Jd (PTd X (.Compare i [.NotIn] [o] pos) (aU (pP ti td))):=⟨D.jz (hu:=hu) (hi:=hi.h) (ho:=ho.h) (hm:=hm)⟩
theorem aJ(hu:X.A.units+1<cLine)(ho:Jd (PD X o td))(hi:Jd (PD X i ti))(hs:ag1 i:=by exact λ _ _=>rfl):Jd (PD X (.Subscript o i pos) (bV td ti)):=⟨D.aJ (hu:=hu) (ho:=ho.h) (hi:=hi.h) (hs:=hs)⟩
theorem px(hu:X.A.units+1<cLine)(ho:Jd (PD X o td))(he:Jd (PD X e ti))(hf:Jd (PD X f tx))(m:M2 X o "get" apos e f cpos:=by exact⟨rfl,rfl,rfl,rfl⟩):Jd (PD X (.Call (.Attribute o "get" apos) [e,f] [] cpos) (aao td ti tx)):=⟨D.px (hu:=hu) (ho:=ho.h) (he:=he.h) (hf:=hf.h) (m:=m)⟩
theorem dz(hu:X.A.units+1<cLine)(ho:Jd (PD X o td))(hi:Jd (PD X i ti))(hv:Jd (PD X value tv))(hs:swapsWith value (some (.Subscript o i pos')) pos.line X.env=pure false:=by rfl):Jd (PSd X (.Assign [.Subscript o i pos'] value pos) (mS td ti tv)):=⟨D.dz (hu:=hu) (ho:=ho.h) (hi:=hi.h) (hv:=hv.h) (hs:=hs)⟩
end
section
variable {X:Cx}{C f:Addr}{o e value:Expr}{es:List Expr}{fn m x:Str}{pos pos' apos p:Pos}{td tv te:TD}{t:TAd}{k:Nat}{fd:FuncData}{ps:List Str}{sp:SpD}
theorem dF(c:Cls X.K C)(n:dB X.K C fn)(he:Jd (PD X e td))(hb:attributeBase e fn X.env (eval e X.env)=eval e X.env:=by rfl):Jd (PD X (.Attribute e fn pos) (rQ C td fn)):=⟨D.dF (c:=c) (n:=n) (he:=he.h) (hb:=hb)⟩
theorem ff(c:Cls X.K C)(n:dB X.K C fn)(ha:Jd (PD X o td))(hv:Jd (PD X value tv))(hs:swapsWith value (some (.Attribute o fn pos')) pos.line X.env=pure false:=by rfl):Jd (PSd X (.Assign [.Attribute o fn pos'] value pos) (fc C td tv fn)):=⟨D.ff (c:=c) (n:=n) (ha:=ha.h) (hv:=hv.h) (hs:=hs)⟩
theorem dN{pl:Sem Bool}(he:Jd (PD X o td))(c:Cls X.K C)(hm:Meth X.K C m f)(F:cX X.prog X.w X.K X.mg X.base CX0 k f fd ps (dG X.K sp))(hr:c4 k X.A)(hb:Binds X.K fd ps [])(ha:Jd (PAd X (e::es) t))(ht:eval (.Call (.Attribute o m apos) (e::es) [] pos) X.env=(do
   let ov <- eval o X.env
   standAt apos.atName
   let (f,first) <- holding [ov] (getMethod ov m pl)
   callWith pos f first (backTo pos (starEach (e::es) X.env)) (backToKw pos (keywordEach [] X.env))):=by rfl)(h1:gf e=false:=by rfl)(h2:(es.all λ e=>!gf e)=true:=by rfl):Jd (PD X (.Call (.Attribute o m apos) (e::es) [] pos) (dO C m sp td t)):=⟨D.dN (he:=he.h) (c:=c) (hm:=hm) (F:=F) (hr:=hr) (hb:=hb) (ha:=ha.h) (ht:=ht) (h1:=h1) (h2:=h2)⟩
theorem cL{pl:Sem Bool}(he:Jd (PD X o td))(c:Cls X.K C)(hm:Meth X.K C m f)(F:cX X.prog X.w X.K X.mg X.base CX0 k f fd ps (dG X.K sp))(hr:c4 k X.A)(hb:Binds X.K fd ps [])(ht:eval (.Call (.Attribute o m apos) [] [] pos) X.env=(do
   let ov <- eval o X.env
   standAt apos.atName
   let (f,first) <- holding [ov] (getMethod ov m pl)
   callWith pos f first (backTo pos (starEach [] X.env)) (backToKw pos (keywordEach [] X.env))):=by rfl):Jd (PD X (.Call (.Attribute o m apos) [] [] pos) (dO C m sp td aM)):=⟨D.cL (he:=he.h) (c:=c) (hm:=hm) (F:=F) (hr:=hr) (hb:=hb) (ht:=ht)⟩
theorem oQ(Mk':Mk X.K C f)(F:cX X.prog X.w X.K X.mg X.base CX0 k f fd ps (dG X.K sp))(hr:c4 (k+1) X.A)(hg:Gl X x)(hm:X.mg x=some (.ref C))(hb:Binds X.K fd ps [])(ha:Jd (PAd X (e::es) t))(hdb:(x==("__debug__" : Str))=false:=by decide)(h1:gf e=false:=by rfl)(h2:(es.all λ e=>!gf e)=true:=by rfl):Jd (PD X (.Call (.Name x p) (e::es) [] pos) (aaT C sp t)):=⟨D.oQ (Mk':=Mk') (F:=F) (hr:=hr) (hg:=hg) (hm:=hm) (hb:=hb) (ha:=ha.h) (hdb:=hdb) (h1:=h1) (h2:=h2)⟩
end
section
variable {X:Cx}{o e:Expr}{pos apos cpos:Pos}{td te:TD}
theorem c9(h:Jd (PD X e td)):Jd (PD X e (ig td)):=⟨D.c9 (h:=h.h)⟩
theorem eI(ho:Jd (PD X o td))(he:Jd (PD X e te))(hbase:attributeBase o "append" X.env (eval o X.env)=eval o X.env:=by rfl)(hfew:((backTo cpos (starEach [e] X.env)).all (λ x=>!x.1)&&(backToKw cpos (keywordEach [] X.env)).all (λ x=>x.1.isSome)
   && decide (([e]:List Expr).length+([]:List Keyword).length+(if ([]:List Keyword).isEmpty then 0 else 1)<30))=true:=by rfl)(hline:(apos.endLine==cpos.line)=true:=by rfl)(hs:gf e=false:=by rfl):Jd (PD X (.Call (.Attribute o "append" apos) [e] [] cpos) (iC td te)):=⟨D.eI (ho:=ho.h) (he:=he.h) (hbase:=hbase) (hfew:=hfew) (hline:=hline) (hs:=hs)⟩
theorem jA(ho:Jd (PD X o td))(hbase:attributeBase o "reverse" X.env (eval o X.env)=eval o X.env:=by rfl)(hline:(apos.endLine==cpos.line)=true:=by rfl):Jd (PD X (.Call (.Attribute o "reverse" apos) [] [] cpos) (p8 td)):=⟨D.jA (ho:=ho.h) (hbase:=hbase) (hline:=hline)⟩
end
section
variable {X:Cx}{pins:List (Addr×Obj)}{σ:St}{H:Hp}{s:Shared}
end
section
variable {X:Cx}
end
section
variable {X:Cx}{K:PySem.W.Frag}
theorem iM{a:Expr}{ta:TD}(ha:Jd (PD X a ta))(he:∀ whole:Sem Value,PySem.isTrue a X.env whole=(do let v <- whole;standAt a.pos;holding [v] (truthy v)):=by intro _;rfl):Jd (PTd X a (agT ta)):=⟨D.iM (ha:=ha.h) (he:=he)⟩
end
section
variable {X:Cx}{K:PySem.W.Frag}
theorem wM{a b:Expr}{pos:Pos}{ta tb:TD}(ha:Jd (PD X a ta))(hb:Jd (PD X b tb)):Jd (PD X (.BinOp a .Add b pos) (ahr ta tb)):=⟨D.wM (ha:=ha.h) (hb:=hb.h)⟩
end
section
variable {X:Cx}{pos:Pos}{e:Expr}{es:List Expr}
theorem bI  : Jd (abe X [] gi):=⟨D.bI ⟩
theorem aB{g:TGd}{gs:abS}(h1:Jd (PGd X e g))(h2:Jd (abe X es gs))(hs:(assignEach (e::es) X.env).map (·.2)=assign e X.env::(assignEach es X.env).map (·.2):=by rfl):Jd (abe X (e::es) (bq g gs)):=⟨D.aB (h1:=h1.h) (h2:=h2.h) (hs:=hs)⟩
theorem cc{k n:Nat}{gs:abS}(hc:X.calm=true)(h:Jd (abe X es gs))(hn:(assignEach es X.env).length=n:=by rfl)(hst:(assignEach es X.env).findIdx? (·.1)=none:=by rfl):Jd (PGd X (.Tuple es k pos) (gT n gs)):=⟨D.cc (hc:=hc) (h:=h.h) (hn:=hn) (hst:=hst)⟩
theorem kn{keys:List (Option Expr)}{values:List Expr}{trs:List (TD×TD)}(h:Jd (PPs X pos keys values (trs.map (pm X.K))))(hall:keys.all (·.isSome)=true:=by rfl)(hl:keys.length=values.length:=by rfl)(h0:keys≠[]:=by simp)(h15:keys.length<=15:=by decide):Jd (PD X (.Dict keys values pos) (uy trs)):=⟨D.kn (h:=h.h) (hall:=hall) (hl:=hl) (h0:=h0) (h15:=h15)⟩
end
section
variable {K:PySem.W.Frag}{C:Addr}
end
section
variable {X:Cx}{pos p:Pos}{e:Expr}{es:List Expr}{t:TAd}{x:Str}{T:String}{r:List V->Hp->VK->Prop}{rd:List W->MH->QD->Prop}
theorem pcT(hc:fC X (.type T) r)(hd:hZ X.K r rd)(hg:Gl X x)(hm:X.mg x=none)(hv:bootBuiltins x=some (.type T))(ha:Jd (PAd X (e::es) t))(hn:x ≠ "__name__":= by decide)(hdb:(x==("__debug__" : Str))=false:=by decide)(h1:gf e=false:=by rfl)(h2:(es.all λ e=>!gf e)=true:=by rfl):Jd (PD X (.Call (.Name x p) (e::es) [] pos) (dCB rd t)):=⟨D.pcT (hc:=hc) (hd:=hd) (hg:=hg) (hm:=hm) (hv:=hv) (ha:=ha.h) (hn:=hn) (hdb:=hdb) (h1:=h1) (h2:=h2)⟩
end
end Q
end D
namespace D
open L2
@[simp] theorem afJ (i j:Int):fh (.int i) (.int j)=true:=rfl
@[simp] theorem afc (x y:Str):fh (.str x) (.str y)=true:=rfl
@[simp] theorem aes (x y:Bool):fh (.bool x) (.bool y)=true:=rfl
@[simp] theorem ag8 (i j:Int):PyData.eqv (.int i) (.int j)=(i==j):=by rw[PyData.eqv]
@[simp] theorem ahU (i j:Str):PyData.eqv (.str i) (.str j)=(i==j):=by rw[PyData.eqv]
@[simp] theorem aie (a:Addr):aaa (.m a)=true:=rfl
@[simp] theorem af9 (ds:List PyData):aaa (.d (.list ds))=true:=rfl
@[simp] theorem aep (ds:List PyData):aaa (.d (.tuple ds))=true:=rfl
@[simp] theorem agV (n:Nat):ixN (n+1) 0=some 0:=by unfold ixN;simp
theorem abQ{α:Type}{xs:List α}{i:Int}(h0:0<=i)(h1:i<xs.length):atI xs i=some (xs[i.toNat]'(by omega)):=by
 unfold atI ixN;rw[if_pos h0,if_pos h1];simp
inductive Bag(M:MH) (p:Addr):Prop
 | mk (a b c:Int) (ns:List Int) (e:M p=some (.lst [.d (.int a),.d (.int b),.d (.int c),.d (.list (ns.map PyData.int))])) (z:0<=a/\0<=b/\b<2147483647/\0<=c/\(∀ n∈ns,0<=n)):Bag M p
def eS:SpD:=λ ws M Q=>∃ ns:List Int,ws=[.d (.list (ns.map PyData.int))]/\ns.length<=1000/\∀ p M',M p=none->(∀ q,q≠p->M' q=M q)->Bag M' p->Q (.m p) M'
inductive qP(ws:List W) (M:MH) (Q:QD):Prop
 | mk (p:Addr) (n:Int) (z0:ws=[.m p,.d (.int n)]) (z1:Bag M p) (z2:0<n) (z3:n<1073741824) (z4:∀ (r:Int) M',0<=r->r<n->Bag M' p->(∀ q,q≠p->M' q=M q)->Q (.d (.int r)) M'):qP ws M Q
def au:SpD:=qP
theorem zj:∀ ws M Q,eS ws M Q->ws.length=1:=by rintro ws M Q ⟨ns,rfl,_⟩;rfl
theorem vo:∀ ws M Q,au ws M Q->ws.length=2:=by rintro ws M Q ⟨p,n,rfl,_⟩;rfl
theorem tM{n:Nat}{i:Int}(h0:0<=i)(h1:i<n):ixN n i=some i.toNat:=by unfold ixN;rw[if_pos h0,if_pos h1]
theorem abC{M:MH}{p:Addr}{ws:List W}{i:Int}{x:W}(hm:M p=some (.lst ws))(h:atI ws i=some x):ixW M (.m p) i=some x:=by simp only[ixW,hm];exact h
theorem df{c:Bool}{A B:Prop}(h1:c=true->A)(h2:c=false->B):if c=true then A else B:=by
 cases c with
 | true=>rw[if_pos rfl];exact h1 rfl
 | false=>rw[if_neg Bool.false_ne_true];exact h2 rfl
abbrev yB:List Str:=["_law_script"]
def yX:TSd:=
  eh (j9 (ah (dC (.d (.int 0))) (ah (dC (.d (.int 1234567891))) (ah (dC (.d (.int 0))) (ah (dLC (bX (dSl (ai 0) (fR) (oN (dC (.d (.int 63)))))) (gN 0) (n8) (dCB agG (ah (ai 0) (aM))) 1 []) (aM))))))
abbrev uP:List Str:=["_law_bag_here", "_law_many", "_law_cell", "_law_value", "_law_first", "_law_second"]
def uw:TSd:=
  aQ (dIf (aU (dOp aiq (dOp cz (ai 0) (dC (.d (.int 0)))) (dC (.d (.int 0)))))
   (aQ (bD (dC (.d (.int 0))) (gN 2)) <|
   aQ (dIf (aU (dOp af4 (dOp cz (ai 0) (dC (.d (.int 2)))) (dCB ow (ah (dOp cz (ai 0) (dC (.d (.int 3)))) (aM)))))
    (bD (dOp cz (dOp cz (ai 0) (dC (.d (.int 3)))) (dOp cz (ai 0) (dC (.d (.int 2))))) (gN 2))
    (cG)) <|
   aQ (aaU (ai 0) (dC (.d (.int 2))) (dC (.d (.int 1))) (λ i j=>i+j)) <|
   aQ (dIf (aU (dOp ag2 (ai 2) (dC (.d (.int 1000000000000000000)))))
    (bD (ai 2) (wB (ai 0) (dC (.d (.int 0)))))
    (cG)) <|
   bD (dOp eN (dOp cH (dOp cH (dOp fH (dOp cz (ai 0) (dC (.d (.int 1)))) (dC (.d (.int 48271)))) (dOp eN (ai 2) (dC (.d (.int 2147483647))))) (dOp fH (dC (.d (.int 7919))) (dOp cz (ai 0) (dC (.d (.int 2)))))) (dC (.d (.int 2147483647)))) (wB (ai 0) (dC (.d (.int 1)))))
   (cG)) <|
  aQ (dIf (aU (dOp tj (dOp cz (ai 0) (dC (.d (.int 0)))) (dC (.d (.int 0)))))
   (aQ (bD (dOp eN (dOp cz (ai 0) (dC (.d (.int 0)))) (ai 1)) (gN 3)) <|
   aQ (bD (dOp pW (dOp cz (ai 0) (dC (.d (.int 0)))) (ai 1)) (wB (ai 0) (dC (.d (.int 0))))) <|
   eh (ai 3))
   (cG)) <|
  aQ (bD (dOp eN (dOp fH (dOp cH (dOp cz (ai 0) (dC (.d (.int 1)))) (dC (.d (.int 1)))) (dC (.d (.int 39373)))) (dC (.d (.int 1000000007)))) (gN 4)) <|
  aQ (bD (dOp eN (dOp fH (dOp eN (dOp fH (ai 4) (ai 4)) (dC (.d (.int 998244353)))) (dC (.d (.int 30011)))) (dC (.d (.int 998244353)))) (gN 5)) <|
  aQ (dIf (aU (dOp tj (ai 1) (dC (.d (.int 1000000)))))
   (eh (dOp eN (dOp cH (dOp fH (ai 5) (dC (.d (.int 1000000007)))) (ai 4)) (ai 1)))
   (cG)) <|
  eh (dOp eN (dOp pW (ai 5) (dC (.d (.int 7)))) (ai 1))
abbrev zR(a b c:Int)(ns:List Int):List W:=[.d (.int a),.d (.int b),.d (.int c),.d (.list (ns.map PyData.int))]
theorem jh{M:MH}{Q:QD}{p:Addr}{n:Int}{a b c:Int}{ns:List Int}{x:Option W}(hm:M p=some (.lst (zR a b c ns)))(ha:0<=a)(hb:0<=b)(hb2:b<2147483647)(hc:0<=c)(hns:∀ n∈ns,0<=n)(hn:0<n)(hn2:n<1073741824)
  (k:∀ (r:Int) M',0<=r->r<n->Bag M' p->(∀ q,q≠p->M' q=M q)->Q (.d (.int r)) M'){D:Ed}(hD:D.rt=Q) :
  (aQ (dIf (aU (dOp tj (dOp cz (ai 0) (dC (.d (.int 0)))) (dC (.d (.int 0)))))
   (aQ (bD (dOp eN (dOp cz (ai 0) (dC (.d (.int 0)))) (ai 1)) (gN 3)) <|
   aQ (bD (dOp pW (dOp cz (ai 0) (dC (.d (.int 0)))) (ai 1)) (wB (ai 0) (dC (.d (.int 0))))) <|
   eh (ai 3))
   (cG)) <|
  aQ (bD (dOp eN (dOp fH (dOp cH (dOp cz (ai 0) (dC (.d (.int 1)))) (dC (.d (.int 1)))) (dC (.d (.int 39373)))) (dC (.d (.int 1000000007)))) (gN 4)) <|
  aQ (bD (dOp eN (dOp fH (dOp eN (dOp fH (ai 4) (ai 4)) (dC (.d (.int 998244353)))) (dC (.d (.int 30011)))) (dC (.d (.int 998244353)))) (gN 5)) <|
  aQ (dIf (aU (dOp tj (ai 1) (dC (.d (.int 1000000)))))
   (eh (dOp eN (dOp cH (dOp fH (ai 5) (dC (.d (.int 1000000007)))) (ai 4)) (ai 1)))
   (cG)) <|
  eh (dOp eN (dOp pW (ai 5) (dC (.d (.int 7)))) (ai 1))) D [some (.m p),some (.d (.int n)),x,none,none,none] M:=by
 subst hD;have i0:ixW M (.m p) 0=some (.d (.int a)):=abC hm rfl;have i1:ixW M (.m p) 1=some (.d (.int b)):=abC hm rfl;have same:Bag M p:=⟨a,b,c,ns,hm,ha,hb,hb2,hc,hns⟩;refine⟨_,rfl,_,_,rfl,i0,rfl,_,_,rfl,rfl,_,rfl,?_⟩;refine df (λ h=>?_) (λ h=>?_)
 ·have h0:0<a:=of_decide_eq_true h;refine⟨_,rfl,_,_,rfl,i0,rfl,_,rfl,_,_,rfl,rfl,hn,?_⟩;refine⟨_,rfl,_,_,rfl,i0,rfl,_,rfl,_,_,rfl,rfl,⟨hn,hn2⟩,?_⟩;refine⟨_,rfl,_,_,_,_,rfl,rfl,hm,rfl,?_⟩;refine⟨_,rfl,?_⟩;refine k _ _ (Int.emod_nonneg _ (by omega)) (Int.emod_lt_of_pos _ hn) ⟨a / n,b,c,ns,ab,Int.ediv_nonneg ha (by omega),hb,hb2,hc,hns⟩ λ q hq=>ae hq
 ·refine⟨_,rfl,_,_,rfl,i1,rfl,.inl ?_⟩;refine⟨_,_,rfl,rfl,_,_,rfl,rfl,.inl ⟨by omega,by omega⟩,_,_,rfl,rfl,(by decide:(0:Int)<1000000007),?_⟩;have f0:0<=(b+1) * 39373 % 1000000007:=Int.emod_nonneg _ (by decide);have f1:(b+1) * 39373 % 1000000007<1000000007:=Int.emod_lt_of_pos _ (by decide);refine⟨_,rfl,_,rfl,_,_,rfl,rfl,.inl ⟨by omega,by omega⟩,_,_,rfl,rfl,(by decide:(0:Int)<998244353),?_⟩;have g0:0<=(b+1) * 39373 % 1000000007 * ((b+1) * 39373 % 1000000007) % 998244353:=Int.emod_nonneg _ (by decide);have g1:(b+1) * 39373 % 1000000007 * ((b+1) * 39373 % 1000000007) % 998244353<998244353:=Int.emod_lt_of_pos _ (by decide);refine⟨_,_,rfl,rfl,.inl ⟨by omega,by omega⟩,_,_,rfl,rfl,(by decide:(0:Int)<998244353),?_⟩;have e0:0<=(b+1) * 39373 % 1000000007 * ((b+1) * 39373 % 1000000007) % 998244353 * 30011 % 998244353:=Int.emod_nonneg _ (by decide);have e1:(b+1) * 39373 % 1000000007 * ((b+1) * 39373 % 1000000007) % 998244353 * 30011 % 998244353<998244353:=Int.emod_lt_of_pos _ (by decide);refine⟨_,rfl,_,_,rfl,rfl,_,rfl,?_⟩;refine df (λ h=>?_) (λ h=>?_)
  ·refine⟨_,rfl,_,_,rfl,rfl,.inl ⟨by omega,by omega⟩,_,rfl,.inl ⟨_,_,rfl,rfl,_,rfl,_,_,rfl,rfl,hn,?_⟩⟩;exact k _ _ (Int.emod_nonneg _ (by omega)) (Int.emod_lt_of_pos _ hn) same λ q _=>rfl
  ·refine⟨_,rfl,_,_,rfl,rfl,⟨by decide,by decide⟩,_,rfl,_,_,rfl,rfl,hn,?_⟩;exact k _ _ (Int.emod_nonneg _ (by omega)) (Int.emod_lt_of_pos _ hn) same λ q _=>rfl
theorem ni{M:MH}{p:Addr}{n cell:Int}{a b c:Int}{ns:List Int}{D:Ed}(hm:M p=some (.lst (zR a b c ns)))(ha:0<=a)(hb:0<=b)(hb2:b<2147483647)(hc:0<=c)(hcell:0<=cell)
  (k:∀ a' b' c' M',0<=a'->0<=b'->b'<2147483647->0<=c'->M' p=some (.lst (zR a' b' c' ns))->(∀ q,q≠p->M' q=M q)->D.nx [some (.m p),some (.d (.int n)),some (.d (.int cell)),none,none,none] M') :
  (aQ (aaU (ai 0) (dC (.d (.int 2))) (dC (.d (.int 1))) (λ i j=>i+j)) <|
   aQ (dIf (aU (dOp ag2 (ai 2) (dC (.d (.int 1000000000000000000)))))
    (bD (ai 2) (wB (ai 0) (dC (.d (.int 0)))))
    (cG)) <|
   bD (dOp eN (dOp cH (dOp cH (dOp fH (dOp cz (ai 0) (dC (.d (.int 1)))) (dC (.d (.int 48271)))) (dOp eN (ai 2) (dC (.d (.int 2147483647))))) (dOp fH (dC (.d (.int 7919))) (dOp cz (ai 0) (dC (.d (.int 2)))))) (dC (.d (.int 2147483647)))) (wB (ai 0) (dC (.d (.int 1)))))
   D [some (.m p),some (.d (.int n)),some (.d (.int cell)),none,none,none] M:=by
 refine⟨_,rfl,_,_,_,_,_,rfl,rfl,hm,rfl,rfl,_,rfl,rfl,?_⟩;have m1:aE M p (.lst (zR a b (c+1) ns)) p=some (.lst (zR a b (c+1) ns)):=ab;have f1:∀ q,q≠p->aE M p (.lst (zR a b (c+1) ns)) q=M q:=λ q hq=>ae hq;show(aQ _ _) D _ (aE M p (.lst (zR a b (c+1) ns)));generalize aE M p (.lst (zR a b (c+1) ns))=M1 at m1 f1;have fin:∀ (a':Int) (M2:MH),0<=a'->M2 p=some (.lst (zR a' b (c+1) ns))->(∀ q,q≠p->M2 q=M q) ->
   bD (dOp eN (dOp cH (dOp cH (dOp fH (dOp cz (ai 0) (dC (.d (.int 1)))) (dC (.d (.int 48271)))) (dOp eN (ai 2) (dC (.d (.int 2147483647))))) (dOp fH (dC (.d (.int 7919))) (dOp cz (ai 0) (dC (.d (.int 2)))))) (dC (.d (.int 2147483647)))) (wB (ai 0) (dC (.d (.int 1)))) D [some (.m p),some (.d (.int n)),some (.d (.int cell)),none,none,none] M2:=by
  intro a' M2 ha' m2 f2;have i1:ixW M2 (.m p) 1=some (.d (.int b)):=abC m2 rfl;have i2:ixW M2 (.m p) 2=some (.d (.int (c+1))):=abC m2 rfl;refine⟨_,rfl,_,_,rfl,i1,rfl,_,_,rfl,rfl,.inl ⟨by omega,by omega⟩,_,rfl,_,_,rfl,rfl,(by decide:(0:Int)<2147483647),.inl ?_⟩;refine⟨_,_,rfl,rfl,_,rfl,_,_,rfl,i2,rfl,_,_,rfl,rfl,.inl ⟨by decide,by decide⟩,.inl ?_⟩;refine⟨_,_,rfl,rfl,_,_,rfl,rfl,(by decide:(0:Int)<2147483647),_,rfl,_,_,_,_,rfl,rfl,m2,rfl,?_⟩;exact k a' _ (c+1) _ ha' (Int.emod_nonneg _ (by decide)) (Int.emod_lt_of_pos _ (by decide)) (by omega) ab λ q hq=>(ae hq).trans (f2 q hq)
 refine⟨_,rfl,_,_,rfl,rfl,_,rfl,?_⟩;refine df (λ h=>?_) (λ h=>?_)
 ·refine⟨_,rfl,_,rfl,_,_,_,_,rfl,rfl,m1,rfl,?_⟩;exact fin cell _ hcell ab λ q hq=>(ae hq).trans (f1 q hq)
 ·exact fin a M1 ha m1 f1
theorem sD:∀ ws M Q,au ws M Q->uw {nx:=λ _ M'=>Q (.d .none) M',rt:=Q} (aX uP ws) M:=by
 rintro ws M Q ⟨p,n,rfl,⟨a,b,c,ns,hm,ha,hb,hb2,hc,hns⟩,hn,hn2,k⟩;have i0:ixW M (.m p) 0=some (.d (.int a)):=abC hm rfl;have i2:ixW M (.m p) 2=some (.d (.int c)):=abC hm rfl;have i3:ixW M (.m p) 3=some (.d (.list (ns.map PyData.int))):=abC hm rfl;refine⟨_,rfl,_,_,rfl,i0,rfl,_,_,rfl,rfl,rfl,_,rfl,?_⟩;refine df (λ h=>?_) (λ h=>?_)
 ·refine⟨_,rfl,_,_,rfl,i2,rfl,_,rfl,_,_,rfl,i3,rfl,_,_,rfl,rfl,rfl,_,_,rfl,rfl,_,rfl,?_⟩;refine df (λ h=>?_) (λ h=>?_)
  ·have hlt:c<((ns.map PyData.int).length:Nat):=of_decide_eq_true h;have hlt':c.toNat<ns.length:=by rw[List.length_map] at hlt;omega
   have ic:ixW M (.d (.list (ns.map PyData.int))) c=some (.d (.int (ns[c.toNat]'hlt'))):=by simp only[ixW];rw[abQ hc hlt];simp
   refine⟨_,rfl,_,_,rfl,i3,rfl,_,rfl,_,_,rfl,i2,rfl,_,_,rfl,ic,rfl,?_⟩;refine ni (cell:=ns[c.toNat]'hlt') hm ha hb hb2 hc (hns _ (List.getElem_mem _)) λ a' b' c' M' h1 h2 h3 h4 h5 h6=>?_;exact jh (x:=some (.d (.int (ns[c.toNat]'hlt')))) h5 h1 h2 h3 h4 hns hn hn2 (λ r M'' r0 r1 bg fr=>k r M'' r0 r1 bg λ q hq=>(fr q hq).trans (h6 q hq)) rfl
  ·refine ni (cell:=0) hm ha hb hb2 hc (Int.le_refl 0) λ a' b' c' M' h1 h2 h3 h4 h5 h6=>?_;exact jh (x:=some (.d (.int 0))) h5 h1 h2 h3 h4 hns hn hn2 (λ r M'' r0 r1 bg fr=>k r M'' r0 r1 bg λ q hq=>(fr q hq).trans (h6 q hq)) rfl
 ·exact jh (x:=none) hm ha hb hb2 hc hns hn hn2 k rfl
theorem yw{f:W->Option PyData}{ws:List W}{i:Nat}{w:W}(h:ws[i]? =some w):(ws.take (i+1)).filterMap f=(ws.take i).filterMap f++(f w).toList:=by rw[List.take_add_one,h,List.filterMap_append];cases e:f w<;>simp[e]
theorem adj{tt:TTd}{te:TD}{fr:List Nat}{τ:DS}{M:MH}{Q:List PyData->MH->Prop}{ws:List W}(f:W->Option PyData)(hl:ws.length<=sizeLine)
  (step:∀ w∈ws,∀ P':Option PyData->Prop,P' (f w)->tt (some w::fr.map λ j=>(τ[j]?).getD none) M λ b M3=>if b=true then te (some w::fr.map λ j=>(τ[j]?).getD none) M3 λ y M4=>∃ d,y=.d d/\M4=M/\P' (some d) else M3=M/\P' none)
  (q:Q (ws.filterMap f) M):∃ P:Nat->List PyData->DS->MH->Prop,P 0 [] (abX 1 fr τ) M /\
   (∀ i w acc τ M,ws[i]? =some w->P i acc τ M->acc.length<sizeLine/\gN 0 w τ M λ τ2 M2=>tt τ2 M2 λ b M3=>if b=true then te τ2 M3 λ y M4=>∃ d,y=.d d/\P (i+1) (acc++[d]) τ2 M4 else P (i+1) acc τ2 M3) /\
   ∀ acc τ M,P ws.length acc τ M->Q acc M:=by
 let Pk:Nat->List PyData->DS->Prop:=λ i acc τ'=>i<=ws.length/\acc=(ws.take i).filterMap f/\∃ x,τ'=x::fr.map λ j=>(τ[j]?).getD none
 refine⟨λ i acc τ' M'=>M'=M/\Pk i acc τ',⟨rfl,Nat.zero_le _,rfl,none,rfl⟩,λ i w acc τ' M' hw hp=>?_,λ acc τ' M' hp=>?_⟩
 ·obtain⟨rfl,hi,rfl,x,rfl⟩:=hp;have hlt:i<ws.length:=(List.getElem?_eq_some_iff.mp hw).1;refine⟨?_,step w (List.mem_of_getElem? hw) (λ o=>match o with
   | some d=>Pk (i+1) ((ws.take i).filterMap f++[d]) (some w::fr.map λ j=>(τ[j]?).getD none)
   | none=>Pk (i+1) ((ws.take i).filterMap f) (some w::fr.map λ j=>(τ[j]?).getD none)) ?_⟩
  ·have h1:=List.length_filterMap_le f (ws.take i);rw[List.length_take] at h1;omega
  ·cases e:f w with
   | some d=>exact⟨hlt,by rw[yw hw,e];rfl,_,rfl⟩
   | none=>exact⟨hlt,by rw[yw hw,e];simp,_,rfl⟩
 ·obtain⟨rfl,hi,rfl,x,rfl⟩:=hp;rw[List.take_of_length_le (Nat.le_refl _)];exact q
theorem agJ{α:Type}(g:α->W)(f:W->Option PyData)(h:α->PyData)(e:∀ a,f (g a)=some (h a))(l:List α):(l.map g).filterMap f=l.map h:=by
 induction l with
 | nil=>rfl
 | cons a l ih=>rw[List.map_cons,List.filterMap_cons,e,ih];rfl
theorem vP:∀ ws M Q,eS ws M Q->yX {nx:=λ _ M'=>Q (.d .none) M',rt:=Q} (aX yB ws) M:=by
 rintro ws M Q ⟨ns,rfl,hl,k⟩;refine⟨_,rfl,_,rfl,_,rfl,rfl,_,rfl,?_⟩;have ec:cutD (ns.map PyData.int) none (some 63)=(cutD ns none (some 63)).map PyData.int:=by simp only[cutD,List.length_map,List.map_take,List.map_drop]
 have hlen:(cutD ns none (some 63)).length<=ns.length:=by simp only[cutD,List.length_take,List.length_drop];omega
 have h1000:(1000:Nat)<=sizeLine:=by rw[sizeLine_eq];decide
 dsimp only;refine adj (λ w=>match w with
  | .d (.int n)=>some (.int (if n<0 then -n else n))
  | _=>none) ?hl (λ w hw P' hp=>?_) ?_
 case hl=>rw[List.length_map,ec,List.length_map];omega
 ·rw[ec,List.map_map] at hw;obtain⟨n,_,rfl⟩:=List.mem_map.mp hw;exact⟨_,rfl,_,rfl,_,rfl,rfl,hp⟩
 ·have e2:(List.map W.d (cutD (ns.map PyData.int) none (some 63))).filterMap (λ w=>match w with
    | .d (.int n)=>some (PyData.int (if n<0 then -n else n))
    | _=>none)=((cutD ns none (some 63)).map λ n=>if n<0 then -n else n).map PyData.int:=by
   rw[ec,List.map_map,agJ (W.d ∘ PyData.int) _ (λ n=>PyData.int (if n<0 then -n else n)) (λ n=>rfl),List.map_map];rfl
  rw[e2];refine⟨by simp[sizeLine_eq],λ p hp=>k p _ hp (λ q hq=>ae hq) ⟨0,1234567891,0,_,ab,Int.le_refl 0,by decide,by decide,Int.le_refl 0,λ n hn=>?_⟩⟩;obtain⟨m,_,rfl⟩:=List.mem_map.mp hn
  split<;>omega
def aft(z:Str):Bool:=z.cps.all (·<128)
theorem s16:(1000000:Nat)<=sizeLine:=by rw[sizeLine_eq];decide
def Asc(z:Str):Prop:=∀ c∈z.cps.toList,c<128
theorem str_len(z:Str):z.cps.toList.length=z.length:=by simp[Str.length]
theorem len_app(x y:Str):(x++y).length=x.length+y.length:=by show(x.cps++y.cps).size=_;simp[Str.length]
def Tx(n:Nat)(d:PyData):Prop:=∃ z:Str,d=.str z/\z.length<=n/\Asc z
theorem acy{z:Str}(h:z.cps.all (·<128)=true):Asc z:=by
 intro c hc;have:=Array.all_eq_true_iff_forall_mem.mp h c (by simpa using hc)
 simpa using this
theorem xB{M:MH}{z:Str}{r:Int}(h0:0<=r)(h1:r<z.length):∃ c,ixW M (.d (.str z)) r=some (.d (.str ⟨#[c]⟩))/\c∈z.cps.toList:=by
 have hl:r<(z.cps.toList.length:Nat):=by rw[str_len];exact h1
 refine⟨z.cps.toList[r.toNat]'(by omega),?_,List.getElem_mem _⟩;simp only[ixW];rw[abQ h0 hl];rfl
abbrev jX:Str:= "abcdefghijklmnopqrstuvwxyz"
theorem afN:jX.length=26:=by decide +kernel
theorem few{n:Nat}(h:n<=1000):n<=sizeLine:=by have:=s16;omega
section
variable {X:Cx}{pins:List (Addr×Obj)}{σ:St}{H H0:Hp}{s s0:Shared}
theorem Inv.swap{a:Addr}{u u':HO}(I:Inv X pins σ H s)(h:H a=some u)(n1:∀ xs,u ≠ .tup xs)(n2:∀ x,u ≠ .own x)(b1:∀ xs,X.H₀ a≠some (.tup xs))(b2:∀ o v,X.H₀ a≠some (.frz o v))(b3:∀ ps,X.H₀ a≠some (.tbl ps))
  (new:cW X.prog X.w (upd H a u') s.heap a u'):Inv X pins σ (upd H a u') s:=by
 have nn:∀ b,H b=none->b≠a:=λ b e z=>by rw[z,h] at e;cases e
 refine⟨I.ok,I.os,I.bare,⟨I.base.keep,I.base.slot,λ b ob q n x=>?_,I.base.there,λ b xs q=>?_,λ b ob v q=>?_,λ b ps q=>?_⟩,I.loc,I.cell,?_,λ x c q=>?_,λ p hp=>?_,λ b v q=>?_,I.len⟩
 ·have:=I.base.free b ob q n x;rw[aj (nn b this)];exact this
 ·rw[aj (λ z:b=a=>b1 xs (by rw[<- z];exact q))];exact I.base.tups b xs q
 ·rw[aj (λ z:b=a=>b2 ob v (by rw[<- z];exact q))];exact I.base.frzs b ob v q
 ·rw[aj (λ z:b=a=>b3 ps (by rw[<- z];exact q))];exact I.base.tbls b ps q
 ·rw[aj (nn _ I.free)];exact I.free
 ·have:=I.freeC x c q;rw[aj (nn c this)];exact this
 ·obtain⟨p1,p2,p3⟩:=I.pin p hp;exact⟨p1,by rw[aj (nn _ p2)];exact p2,p3⟩
 ·by_cases hb:b=a
  ·subst hb;rw[ar] at q;cases q;exact new
  ·rw[aj hb] at q;refine(I.hok b v q).wG (λ _ _ _ q=>q) (λ c r=>?_) λ c xs r=>?_
   ·rw[aj (λ z=>by rw[z,h] at r;exact n2 _ (Option.some.inj r))];exact r
   ·rw[aj (λ z=>by rw[z,h] at r;exact n1 _ (Option.some.inj r))];exact r
theorem jw{a:Addr}{l:List (Key×V)}(I:Inv X pins σ H s)(h:H a=some (.dK l)):(∀ xs,X.H₀ a≠some (.tup xs))/\(∀ o v,X.H₀ a≠some (.frz o v))/\∀ ps,X.H₀ a≠some (.tbl ps):=by
 refine⟨λ xs e=>?_,λ o v e=>?_,λ ps e=>?_⟩
 ·have:=I.base.tups a xs e;rw[h] at this;cases this
 ·have:=I.base.frzs a o v e;rw[h] at this;cases this
 ·obtain⟨m,this⟩:=I.base.tbls a ps e;rw[h] at this;cases this
theorem Inv.afA{a:Addr}{l:List (Key×V)}(I:Inv X pins σ H s)(h:H a=some (.dK l)):∃ o,Inv X pins σ (upd H a (.frz o (.frz o (.dK l)))) s:=by have f:Fz (.dK l):=trivial;obtain⟨o,ho⟩:=(I.hok a _ h).obj f;obtain⟨b1,b2,b3⟩:=jw I h;exact⟨o,Inv.swap I h (λ _ z=>nomatch z) (λ _ z=>nomatch z) b1 b2 b3 ⟨ho,ho,(I.hok a _ h).af2 f⟩⟩
theorem Inv.again{σ0:St}{a:Addr}{o:Obj}{l:List (Key×V)}(I0:Inv X pins σ0 H0 s0)(h0:H0 a=some (.dK l))(I:Inv X pins σ H s)(h:H a=some (.frz o (.frz o (.dK l)))):Inv X pins σ (upd H a (.dK l)) s:=by have f:Fz (.dK l):=trivial;obtain⟨b1,b2,b3⟩:=jw I0 h0;exact Inv.swap I h (λ _ z=>nomatch z) (λ _ z=>nomatch z) b1 b2 b3 ((I.hok a _ h).2.2.af2 f)
end
def agr(t:TE):TE:=λ σ H Q=>∃ a l,H a=some (.dK l)/\∀ o,t σ (upd H a (.frz o (.frz o (.dK l)))) λ v H'=>H' a=some (.frz o (.frz o (.dK l)))/\Q v (upd H' a (.dK l))
theorem aa1{X:Cx}{e:Expr}{t:TE}(h:PE X e t):PE X e (agr t):=by intro pins s σ H Q I ⟨a,l,ha,q⟩;obtain⟨o,I1⟩:=Inv.afA I ha;exact thn (h pins s σ _ _ I1 (q o)) λ v s1 ⟨x,H',I2,r,e,q2⟩=>⟨x,_,Inv.again I ha I2 e,r,q2⟩
section
variable {K:PySem.W.Frag}{H:Hp}{a:Addr}{o:Obj}{l:List (Key×V)}
theorem Kp.back(h:H a=some (.frz o (.frz o (.dK l)))):(∀ b xs,H b=some (.tup xs)->upd H a (.dK l) b=some (.tup xs))/\(∀ b ob ys,H b=some (.frz ob (.lst ys))->upd H a (.dK l) b=some (.frz ob (.lst ys)))/\∀ b ob ys,H b=some (.frz ob (.dK ys))->upd H a (.dK l) b=some (.frz ob (.dK ys)):=by
 refine⟨λ b xs e=>?_,λ b ob ys e=>?_,λ b ob ys e=>?_⟩<;>
 ·rw[aj (λ z=>by rw[z,h] at e;cases e)];exact e
theorem SqT.back{b:Addr}{vs:List V}(h:H a=some (.frz o (.frz o (.dK l))))(r:SqT K H b vs):SqT K (upd H a (.dK l)) b vs:=by
 rcases r with (r | ⟨ob,r⟩) | r
 ·exact .inl (.inl ((Kp.back h).1 _ _ r))
 ·refine .inl (.inr ⟨ob,?_⟩);rw[aj (λ z=>by rw[z,h] at r;cases r)];exact r
 ·exact .inr r
theorem SqF.back{b:Addr}{vs:List V}(h:H a=some (.frz o (.frz o (.dK l))))(r:SqF K H b vs):SqF K (upd H a (.dK l)) b vs:=by
 rcases r with ⟨ob,r⟩ | r
 ·exact .inl ⟨ob,(Kp.back h).2.1 _ _ _ r⟩
 ·exact .inr r
mutual
theorem aA.back(h:H a=some (.frz o (.frz o (.dK l)))):∀ {d:PyData} {v:V},aA K H d v->aA K (upd H a (.dK l)) d v
 | .none,v,r=>by simp only[aA] at r ⊢;exact r
 | .bool b,v,r=>by simp only[aA] at r ⊢;exact r
 | .int i,v,r=>by simp only[aA] at r ⊢;exact r
 | .str x,v,r=>by simp only[aA] at r ⊢;exact r
 | .list ds,v,r=>by simp only[aA] at r ⊢;obtain⟨b,vs,e,q,r⟩:=r;exact⟨b,vs,e,SqF.back h q,bf.back h r⟩
 | .tuple ds,v,r=>by simp only[aA] at r ⊢;obtain⟨b,vs,e,q,r⟩:=r;exact⟨b,vs,e,SqT.back h q,bf.back h r⟩
 | .dict kvs,v,r=>by simp only[aA] at r ⊢;obtain⟨b,ob,m,e,q,r⟩:=r;exact⟨b,ob,m,e,(Kp.back h).2.2 _ _ _ q,jL.back h r⟩
theorem bf.back(h:H a=some (.frz o (.frz o (.dK l)))):∀ {ds:List PyData} {vs:List V},bf K H ds vs->bf K (upd H a (.dK l)) ds vs
 | [],vs,r=>by simp only[bf] at r ⊢;exact r
 | d::ds,vs,r=>by simp only[bf] at r ⊢;obtain⟨v,q,e,h1,h2⟩:=r;exact⟨v,q,e,aA.back h h1,bf.back h h2⟩
theorem jL.back(h:H a=some (.frz o (.frz o (.dK l)))):∀ {ds:List (PyData×PyData)} {m:List (Key×V)},jL K H ds m->jL K (upd H a (.dK l)) ds m
 | [],m,r=>by simp only[jL] at r ⊢;exact r
 | (key,d)::ds,m,r=>by simp only[jL] at r ⊢;obtain⟨k',v,q,e,ek,h1,h2⟩:=r;exact⟨k',v,q,e,ek,aA.back h h1,jL.back h h2⟩
end
theorem aD.back(h:H a=some (.frz o (.frz o (.dK l)))):∀ {w:W} {v:V},aD K H w v->aD K (upd H a (.dK l)) w v
 | .d _,_,r=>aA.back h r
 | .m _,_,r=>r
 | .t _,_,r=>r
theorem cK.back{M:MH}{kvs:List (Key×W)}(h:H a=some (.frz o (.frz o (.dK l))))(m:cK K H M)(e:M a=some (.fdic kvs)):cK K (upd H a (.dK l)) (aE M a (.dic kvs)):=λ b mo q=>by
 by_cases hb:b=a
 ·subst hb;rw[ab] at q;cases q;obtain⟨o',l',e',pr⟩:=m _ _ e;rw[h] at e';cases e';exact⟨l,ar,Paired.gH pr λ p q z=>⟨z.1,aD.back h z.2⟩⟩
 ·rw[ae hb] at q;have r:=m b mo q;cases mo with
  | lst ws=>obtain⟨vs,e,r⟩:=r;exact⟨vs,by rw[aj hb];exact e,Paired.gH r λ _ _ z=>aD.back h z⟩
  | dic kvs=>obtain⟨l,e,r⟩:=r;exact⟨l,by rw[aj hb];exact e,Paired.gH r λ p q z=>⟨z.1,aD.back h z.2⟩⟩
  | dct kvs=>obtain⟨l,e,r⟩:=r;exact⟨l,by rw[aj hb];exact e,Paired.gH r λ p q z=>⟨z.1,aD.back h z.2⟩⟩
  | fdic kvs=>obtain⟨o,l,e,r⟩:=r;exact⟨o,l,by rw[aj hb];exact e,Paired.gH r λ p q z=>⟨z.1,aD.back h z.2⟩⟩
  | ins C fs=>obtain⟨dx,l,e,r⟩:=r;exact⟨dx,l,by rw[aj hb];exact e,Paired.gH r λ p q z=>⟨z.1,aD.back h z.2⟩⟩
  | tup ws=>obtain⟨vs,e,r⟩:=r;exact⟨vs,by rw[aj hb];exact e,Paired.gH r λ _ _ z=>aD.back h z⟩
  | flst ws=>obtain⟨o,vs,e,r⟩:=r;exact⟨o,vs,by rw[aj hb];exact e,Paired.gH r λ _ _ z=>aD.back h z⟩
  | exc C fs =>
   obtain⟨φ,dct,e,p,r⟩:=r;refine⟨φ,dct,by rw[aj hb];exact e,p,?_⟩;rcases r with r | ⟨dx,o',l',e1,e2,r⟩
   ·exact .inl r
   ·exact .inr ⟨dx,o',l',e1,by rw[aj (λ z=>by rw[z,h] at e2;cases e2)];exact e2,Paired.gH r λ p q z=>⟨z.1,aD.back h z.2⟩⟩
  | code q pos =>
   obtain⟨ps,e,ht,hc⟩:=r;refine⟨ps,by rw[aj hb];exact e,ht,?_⟩;rcases hc with hc | ⟨c,o',vs,t,e1,e2,e3⟩
   ·exact .inl hc
   ·exact .inr ⟨c,o',vs,t,e1,by rw[aj (λ z=>by rw[z,h] at e2;cases e2)];exact e2,e3⟩
end
def zf(t:TD)(τ:DS)(M:MH)(Q:QD):Prop:=∃ a kvs,M a=some (.dic kvs)/\t τ (aE M a (.fdic kvs)) λ v M'=>M' a=some (.fdic kvs)/\Q v (aE M' a (.dic kvs))
theorem oH{X:Cx}{e:Expr}{t:TD}(h:PD X e t):PD X e (zf t):=eQ (aa1 h) λ σ H Q hq81=>by
 obtain⟨τ,M,Qd,A,⟨a,kvs,hm,q⟩,k⟩:=hq81;obtain⟨l,e,pr⟩:=A.mem _ _ hm;refine⟨a,l,e,λ o=>?_⟩;have kp:Kp H (upd H a (.frz o (.frz o (.dK l)))):=Kp.set e (λ _ z=>nomatch z) (λ _ _ z=>nomatch z);have m1:cK X.K (upd H a (.frz o (.frz o (.dK l)))) (aE M a (.fdic kvs)):=A.mem.put (mo:=.fdic kvs) kp ⟨o,l,ar,Paired.gH pr λ p q z=>⟨z.1,z.2.keep kp⟩⟩;refine⟨τ,_,_,A.go kp m1,q,λ v H' w M' kp' r' m' hq82=>?_⟩;obtain⟨h1,q1⟩:=hq82;have e':=kp'.frz a o _ ar;refine⟨e',k _ _ w _ ⟨λ b xs z=>?_,λ b ob u z=>?_⟩ (aD.back e' r') (cK.back e' m' h1) q1⟩
 ·have hb:b≠a:=λ y=>by rw[y,e] at z;cases z
  rw[aj hb];exact kp'.tup b xs (by rw[aj hb];exact z)
 ·have hb:b≠a:=λ y=>by rw[y,e] at z;cases z
  rw[aj hb];exact kp'.frz b ob u (by rw[aj hb];exact z)
def kU(_:Ed)(_:DS)(_:MH):Prop:=False
theorem gJ{X:Cx}{st:Stmt}:PSd X st kU:=λ pins s σ H D I ⟨τ,M,Dd,A,h,_⟩=>h.elim
end D
namespace D
open L2
section
variable {X:Cx}{pins:List (Addr×Obj)}{σ:St}{H:Hp}{s:Shared}
theorem Inv.abh{D:Addr}{ys:List V}{us:List Value}{n:Nat}(I:Inv X pins σ H s)(e:s.heap.get? D=some {cls:=.type "tuple",data:=.seq us.toArray n})(hn:H D=none)(hv:Vals ys us)(hz:ys.length<=sizeLine)
  (h0:D∈X.ex\/X.s₀.heap.objs.size<=D)(hL:D≠X.env.locals)(hc:∀ x c,X.env.cells.lookup x=some c->c≠D)(hp:∀ p∈X.pn++pins,p.1≠D):Inv X pins σ (upd H D (.tup ys)) s:=by
 have ne:∀ b u,H b=some u->b≠D:=λ b u q=>aV q hn;refine I.step (h':=s.heap) (g':=s.gens) (d':=s.drawn) (t':=s.toks) (ch:=[D]) (λ b hb=>?_) (λ b o _ _ _ q _=>q) (λ b o _ _ _ q _=>⟨o.slots,q⟩) (λ b o hb q n=>?_) (λ b o _ q=>⟨o,q⟩)
  (λ b xs q=>by rw[aj (ne b _ q)];exact q) (λ b o u q=>by rw[aj (ne b _ q)];exact q) (λ b ps q=>⟨#[],by rw[aj (ne b _ q),q];simp⟩) (λ m hm=>hm) (λ b u q=>?_) I.bare
 ·have e:b=D:=by simpa using hb
  subst e;exact⟨h0,hL,hc,hp⟩
 ·rw[aj (λ z=>hb (by simp[z]))];exact n
 ·by_cases hb:b=D
  ·subst hb;rw[ar] at q;cases q;exact⟨hz,us,hv,⟨_,e,rfl,rfl,n,rfl⟩⟩
  ·rw[aj hb] at q;exact(I.hok b u q).wG (λ _ _ _ q=>q) (λ c r=>by rw[aj (ne c _ r)];exact r) λ c xs r=>by rw[aj (ne c _ r)];exact r
end
abbrev lx(o:Obj)(l:List (Key×V)):HO:=.frz o (.frz o (.dK l))
theorem fO{P:Program}{w:World}{H:Hp}{h:Heap}{a:Addr}{o:Obj}{l:List (Key×V)}(ok:HOk P w H h)(e:H a=some (lx o l)):(a==sysModules)=false/\∃ vs es ep,KV l vs/\o.data=.dict es ep/\h.DictAt (aW P w) a vs ep:=by obtain⟨ho,_,z,hd,vs,rel,o',es,ep,h1,h2,h3,h4⟩:=ok a _ e;rw[ho] at h1;cases h1;exact⟨hd,vs,es,ep,rel,h3,o,es,ho,h2,h3,h4⟩
def Itd(a:Addr)(o:Obj)(l:List (Key×V)):It:=
 ⟨λ i H=>H a=some (lx o l)/\i<l.length,λ i H x H'=>∃ T kv,l[i]? =some kv/\H T=none/\x=.ref T/\H'=upd H T (.tup [kV kv.1,kv.2]),λ i H=>H a=some (lx o l)/\l.length<=i⟩
def Itk(a:Addr)(o:Obj)(l:List (Key×V)):It:=
 ⟨λ i H=>H a=some (lx o l)/\i<l.length,λ i H x H'=>H'=H/\∃ kv,l[i]? =some kv/\x=kV kv.1,λ i H=>H a=some (lx o l)/\l.length<=i⟩
theorem agy{κ:Type}[DecidableEq κ]{l:List (κ×V)}{vs:List (κ×Value)}(r:KV l vs){i:Nat}(h:i<l.length):∃ kv k v,l[i]? =some kv/\vs[i]? =some (k,v)/\kv.1=k/\RelV kv.2 v:=by
 unfold KV at r
 induction r generalizing i with
 | nil=>simp at h
 | @cons p q ps qs hp t ih =>
  cases i with
  | zero=>exact⟨p,q.1,q.2,rfl,rfl,hp.1,hp.2⟩
  | succ i =>
   obtain⟨kv,k,v,e1,e2,e3,e4⟩:=ih (i:=i) (by simpa using h);exact⟨kv,k,v,by simpa using e1,by simpa using e2,e3,e4⟩
theorem ab2{P:Program}{w:World}{k:Key}{u:Value}(h:(aW P w).is k u=true):RelV (kV k) u:=by
 cases k with
 | inl i =>
  have h':Value.isInt i u=true:=h;unfold Value.isInt at h'
  split at h'
  ·rename_i j t
   have:j=i:=by simpa using h'
   subst this;exact⟨t,rfl⟩
  ·cases h'
 | inr x =>
  have h':Value.isStrOf x u=true:=h;unfold Value.isStrOf at h'
  split at h'
  ·rename_i j t
   have:j=x:=by simpa using h'
   subst this;exact⟨t,rfl⟩
  ·cases h'
theorem tP{P:Program}{w:World}{K:PySem.W.Frag}{elts:List Expr}{x1:Nat}{tpos:Pos}(a it:Addr)(o:Obj)(l:List (Key×V))(es:Array DictEntry)(ep:Nat)(ho:o.data=.dict es ep) :
  Turn P w K (.Tuple elts x1 tpos) (Itd a o l) [it] it (λ i h=>∃ ok ov,IsItemIter h it a i l.length ep ok ov) where
 mem:=by simp
 obj:=λ i h st b hb=>by
  have e:b=it:=by simpa using hb
  subst e;obtain⟨ok,ov,st⟩:=st;exact⟨_,st,λ v z=>by cases z⟩
 keep:=λ i h h' ⟨ok,ov,st⟩ k=>⟨ok,ov,k it (by simp) _ st⟩
 item:=by
  intro X hP hw hK hc i pins s σ H E I hf ⟨ok,ov,st⟩ ⟨hg,hi⟩;subst hP hw hK;obtain⟨f0,f1,f2,f3,f4,f5⟩:=hf it (by simp);obtain⟨hd,vs,es',ep',rel,ho',da⟩:=fO I.hok hg;rw[ho] at ho';cases ho';obtain⟨kv,k,v,e1,e2,e3,e4⟩:=agy rel hi;have hl:l.length=vs.length:=rel.length;rw[hl] at st;refine wpAny_pyNext_items_item st da e2 λ key h' hk st' ht hsz kp=>?_;refine⟨_,rfl,wpAny_letOwnedTupleGo_items st' λ h'' st'' sb=>?_⟩;have T:=I.p9 (Nat.le_refl _) (I.hok.fresh (Nat.le_refl _));obtain⟨t0,t1,t2,t3,t4,t5⟩:=T;have hit:it<s.heap.objs.size:=Heap.lt_size st;have nT:s.heap.objs.size≠it:=Nat.ne_of_gt hit;have I1:Inv X pins σ H {s with heap:=h''}:=I.turned (t':=s.toks) (λ b ob hb e=>(sb.2 b hb).trans (kp b ob hb e)) f0 f1 f3 f4 f5;have eT:h''.get? s.heap.objs.size=some {cls:=.type "tuple",data:=.seq #[key,v]}:=(sb.2 _ nT).trans ht;have I2:=Inv.abh (us:=[key,v]) (ys:=[kV kv.1,kv.2]) I1 eT t0 (.cons (by rw[e3];exact ab2 hk) (.cons e4 .nil)) (by simp;have:=s16;omega) t3 t1 t4 t5;refine⟨.ref s.heap.objs.size,_,I2,rfl,⟨_,kv,e1,t0,rfl,rfl⟩,⟨_,_,by rw[hl];exact st''⟩,λ b hb=>?_⟩;have e:b=it:=by simpa using hb
  subst e;rw[aj nT.symm];exact f0
 done:=by intro X hP hw hK hc i pins s σ H E I hf ⟨ok,ov,st⟩ ⟨hg,hi⟩;subst hP hw hK;obtain⟨f0,f1,f2,f3,f4,f5⟩:=hf it (by simp);obtain⟨hd,vs,es',ep',rel,ho',da⟩:=fO I.hok hg;rw[ho] at ho';cases ho';have hl:l.length=vs.length:=rel.length;rw[hl] at st hi;exact wpAny_pyNext_items_end (I.ok.hd hc) st da (List.getElem?_eq_none hi) λ h' eb=>⟨rfl,I.turned (t':=s.toks) (λ b o hb e=>eb b o hb e) f0 f1 f3 f4 f5⟩
 self:=λ _ _ _ _ _ ⟨ok,ov,st⟩ h=>PySem.W.kcp_self st h
theorem vD{P:Program}{w:World}{K:PySem.W.Frag}{tg:Expr}(a it:Addr)(o:Obj)(l:List (Key×V))(es:Array DictEntry)(ep:Nat)(ho:o.data=.dict es ep) :
  Turn P w K tg (Itk a o l) [it] it (λ i h=>h.IsKeyIter it a i l.length ep) where
 mem:=by simp
 obj:=λ i h st b hb=>by
  have e:b=it:=by simpa using hb
  subst e;obtain⟨o,e,c,d⟩:=st;exact⟨o,e,λ v z=>by rw[d] at z;cases z⟩
 keep:=λ i h h' ⟨o,e,c,d⟩ k=>⟨o,k it (by simp) _ e,c,d⟩
 item:=by intro X hP hw hK hc i pins s σ H E I hf st ⟨hg,hi⟩;subst hP hw hK;obtain⟨f0,f1,f2,f3,f4,f5⟩:=hf it (by simp);obtain⟨hd,vs,es',ep',rel,ho',da⟩:=fO I.hok hg;rw[ho] at ho';cases ho';obtain⟨kv,k,v,e1,e2,e3,e4⟩:=agy rel hi;have hl:l.length=vs.length:=rel.length;rw[hl] at st;refine wpAny_pyNext_dict_item st da e2 λ key h' hk st' sb=>?_;have I1:Inv X pins σ H {s with heap:=h'}:=I.turned (t':=s.toks) (λ b o hb e=>(sb.2 b hb).trans e) f0 f1 f3 f4 f5;obtain⟨ob,e,c,d⟩:=id st';exact⟨_,rfl,vA (s:={s with heap:=h'}) e c d (by decide) ⟨kV kv.1,H,I1,by rw[e3];exact ab2 hk,⟨rfl,kv,e1,rfl⟩,by rw[hl];exact st',λ b hb=>(hf b hb).1⟩⟩
 done:=by intro X hP hw hK hc i pins s σ H E I hf st ⟨hg,hi⟩;subst hP hw hK;obtain⟨f0,f1,f2,f3,f4,f5⟩:=hf it (by simp);obtain⟨hd,vs,es',ep',rel,ho',da⟩:=fO I.hok hg;rw[ho] at ho';cases ho';have hl:l.length=vs.length:=rel.length;rw[hl] at st hi;exact wpAny_pyNext_dict_end (I.ok.hd hc) st da (List.getElem?_eq_none hi) λ h' eb=>⟨rfl,I.turned (t':=s.toks) (λ b o hb e=>eb b o hb e) f0 f1 f3 f4 f5⟩
 self:=λ _ _ _ _ _ st h=>wpAny_pyIter_keyiter st h
section
variable {X:Cx}{tg o:Expr}{apos cpos:Pos}{td:TE}
def adT(td:TE):TI:=λ σ H R=>td σ H λ x H1=>∃ a o l,x=.ref a/\H1 a=some (lx o l)/\R (Itd a o l) H1
theorem xv{elts:List Expr}{x1:Nat}{tpos:Pos}(ho:PE X o td)(hbase:attributeBase o "items" X.env (eval o X.env)=eval o X.env:=by rfl)(hline:(apos.endLine==cpos.line)=true:=by rfl) :
  PI X (.Tuple elts x1 tpos) (.Call (.Attribute o "items" apos) [] [] cpos) (adT td):=by
 intro pins s σ H R I h;refine wpAny_Call_method0_late hbase hline (thn (ho pins s σ H _ I h) λ v s1 hq83=>?_);obtain⟨x,H1,I1,r1,a,ob,l,ex,hg,q⟩:=hq83;subst ex;cases r1;obtain⟨hd,vs,es,ep,rel,hdat,da⟩:=fO I1.hok hg;have dd:s1.heap.DictOf (aW X.prog X.w) a vs:=let ⟨o,es,h⟩:=da; ⟨o,es,ep,h⟩;have hnd:∀ b,Value.ref a=.ref b->∃ ob,s1.heap.get? b=some ob/\ob.dict=none:=λ b e=>by
  cases e;obtain⟨oo,es',h1,h2,_⟩:=da;exact⟨oo,h1,h2.2.1⟩
 refine⟨"dict", "dict.items",PySem.F.plainAttrs_dict,PySem.F.slot_dict_items,PySem.F.type_dict_items,dd.typeIs,hnd,Calls.callWith_builtin rfl (PySem.evalArgs_none ?_)⟩;refine call_meetsIn PySem.F.slot_dict_items dd.typeIs PySem.F.entry_dict_items (PySem.F.args_dict_items_1 _) (meets_dict_items (aW X.prog X.w) a hd) ⟨⟨vs,dd⟩,?_⟩;have I2:Inv X pins σ H1 {s1 with heap:=s1.heap.push {cls:=.type "dict_items",data:=.fields #[.ref a]}}:=I1.kept (t':=s1.toks) λ b o e=>Heap.get?_push_of_some _ e;obtain⟨_,vs2,es2,ep2,rel2,hdat2,da2⟩:=fO I2.hok hg;rw[hdat] at hdat2;cases hdat2;refine wpAny_pyIter_items ⟨_,Heap.get?_push_size _ rfl,rfl,rfl⟩ da2 ?_;refine⟨_,[_],_,_,H1,rfl,I2.kept (t':=s1.toks) λ b o e=>Heap.get?_push_of_some _ e,tP a _ ob l es ep hdat,⟨.none,.none,?_⟩,λ b hb=>?_,q⟩
 ·have:=Heap.get?_push_size (s1.heap.push {cls:=.type "dict_items",data:=.fields #[.ref a]}) (o:={cls:=.type "dict_itemiterator",data:=.fields #[.none,.bool false,.ref a,.int 0 0,.int (vs2.length:Nat) 0,.int (ep:Nat) 0,.none,.none]}) rfl;rw[rel2.length];exact this
 ·rw[List.mem_singleton] at hb;rw[hb];exact I2.p9 (Nat.le_refl _) (I2.hok.fresh (Nat.le_refl _))
def aeL(td:TE):TI:=λ σ H R=>td σ H λ x H1=>∃ a o l,x=.ref a/\H1 a=some (lx o l)/\R (Itk a o l) H1
theorem zW(ho:PE X o td):PI X tg o (aeL td):=by
 intro pins s σ H R I h;refine thn (ho pins s σ H _ I h) λ v s1 hq84=>?_;obtain⟨x,H1,I1,r1,a,ob,l,ex,hg,q⟩:=hq84;subst ex;cases r1;obtain⟨hd,vs,es,ep,rel,hdat,da⟩:=fO I1.hok hg;refine wpAny_pyIter_dict hd da ?_;refine⟨_,[_],_,_,H1,rfl,I1.kept (t':=s1.toks) λ b o e=>Heap.get?_push_of_some _ e,vD a _ ob l es ep hdat,⟨_,Heap.get?_push_size _ rfl,rfl,?_⟩,λ b hb=>?_,q⟩
 ·rw[rel.length];rfl
 ·rw[List.mem_singleton] at hb;rw[hb];exact I1.p9 (Nat.le_refl _) (I1.hok.fresh (Nat.le_refl _))
end
section
variable {X:Cx}{K:PySem.W.Frag}{tg o:Expr}{apos cpos:Pos}{td:TD}
def kL(kds:List (Key×PyData)):List W:=kds.map λ p=>.d (.tuple [sE p.1,p.2])
def lW(kds:List (Key×PyData)):List W:=kds.map λ p=>kW p.1
def gZ(kds:List (Key×PyData)):List (Key×W):=kds.map λ p=>(p.1,.d p.2)
theorem yN{H:Hp}:∀ {kds:List (Key×PyData)} {l:List (Key×V)},Paired (λ(p:Key×W) (q:Key×V)=>p.1=q.1/\aD K H p.2 q.2) (gZ kds) l->l.length=kds.length/\∀ (i:Nat) kv,l[i]? =some kv->∃ p,kds[i]? =some p/\p.1=kv.1/\aA K H p.2 kv.2
 | [],l,h=>by
  cases h;exact⟨rfl,λ i kv e=>by simp at e⟩
 | p::kds,l,h=>by
  cases h with
  | cons r t =>
   obtain⟨h1,h2⟩:=yN t;refine⟨by simp[h1],λ i kv e=>?_⟩;cases i with
   | zero =>
    simp at e;subst e;exact⟨p,rfl,r.1,r.2⟩
   | succ i =>
    obtain⟨p',e1,e2⟩:=h2 i kv (by simpa using e);exact⟨p',by simpa using e1,e2⟩
def tU(td:TD)(τ:DS)(M:MH)(R:List W->MH->Prop):Prop:=td τ M λ w M1=>∃ a kds,w=.m a/\M1 a=some (.fdic (gZ kds))/\R (kL kds) M1
theorem js{elts:List Expr}{x1:Nat}{tpos:Pos}(ho:PD X o td)(hbase:attributeBase o "items" X.env (eval o X.env)=eval o X.env:=by rfl)(hline:(apos.endLine==cpos.line)=true:=by rfl) :
  PId X (.Tuple elts x1 tpos) (.Call (.Attribute o "items" apos) [] [] cpos) (tU td):=aet (xv ho hbase hline) λ σ H R hq85=>by
 obtain⟨τ,M,Rd,A,h,k⟩:=hq85;refine⟨τ,M,_,A,h,λ v H1 w M1 kp r m hq86=>?_⟩;obtain⟨a,kds,ew,hm,q⟩:=hq86;subst ew;obtain⟨ob,l,e,pr⟩:=m _ _ hm;obtain⟨hlen,hget⟩:=yN pr;refine⟨a,ob,l,r,e,k _ H1 _ M1 kp m (λ H2 kp2 i=>?_) q⟩;have hlw:(kL kds).length=l.length:=by rw[hlen];simp[kL]
 have e2:=kp2.frz a ob _ e;refine⟨λ hi=>⟨e2,by omega⟩,λ hi=>⟨e2,by omega⟩,λ x H' hi hq87=>?_⟩;obtain⟨T,kv,hkv,hT,ex,eH⟩:=hq87;subst ex eH;obtain⟨p,e3,e4,e5⟩:=hget i kv hkv;have kpn:Kp H2 (upd H2 T (.tup [kV kv.1,kv.2])):=Kp.new hT;refine⟨kpn,λ M m=>m.new hT,.d (.tuple [sE p.1,p.2]),by simp[kL,e3],?_⟩;simp only[aD,aA,bf];refine⟨T,_,rfl,.inl (.inl ar),_,_,rfl,?_,_,_,rfl,(e5.keep kp2).keep kpn,rfl⟩;rw[e4];cases kv.1<;>simp[sE,kV,aA]
def zE(td:TD)(τ:DS)(M:MH)(R:List W->MH->Prop):Prop:=td τ M λ w M1=>∃ a kds,w=.m a/\M1 a=some (.fdic (gZ kds))/\R (lW kds) M1
theorem lP(ho:PD X o td):PId X tg o (zE td):=aet (zW ho) λ σ H R hq88=>by
 obtain⟨τ,M,Rd,A,h,k⟩:=hq88;refine⟨τ,M,_,A,h,λ v H1 w M1 kp r m hq89=>?_⟩;obtain⟨a,kds,ew,hm,q⟩:=hq89;subst ew;obtain⟨ob,l,e,pr⟩:=m _ _ hm;obtain⟨hlen,hget⟩:=yN pr;refine⟨a,ob,l,r,e,k _ H1 _ M1 kp m (λ H2 kp2 i=>?_) q⟩;have hlw:(lW kds).length=l.length:=by rw[hlen];simp[lW]
 have e2:=kp2.frz a ob _ e;refine⟨λ hi=>⟨e2,by omega⟩,λ hi=>⟨e2,by omega⟩,λ x H' hi hq90=>?_⟩;obtain⟨eH,kv,hkv,ex⟩:=hq90;subst ex eH;obtain⟨p,e3,e4,e5⟩:=hget i kv hkv;refine⟨Kp.refl _,λ M m=>m,kW p.1,by simp[lW,e3],?_⟩;rw[e4];cases kv.1<;>simp[kW,sE,kV,aD,aA]
end
theorem rT:∀ {zs:List Str} {its:List Value},StrsAre its zs->Vals (zs.map V.str) its
 | _,_,.nil=>.nil
 | _,_,.cons y t h=>.cons ⟨t,rfl⟩ (rT h)
section
variable {X:Cx}{K:PySem.W.Frag}
theorem qN{H:Hp}:∀ (zs:List Str),aN K H (cN zs) (zs.map V.str)
 | []=>.nil
 | z::zs=>.cons (by simp[aD,aA]) (qN zs)
end
section
variable {X:Cx}{K:PySem.W.Frag}
theorem fB:fC X (.builtin "isinstance") (λ xs H Q=>∃ x d T,xs=[x,.ty T]/\sY X.K H d x/\Ty6 T/\Q (.bl (mM d T)) H):=by
 intro pins s σ H xs us Q I r h;obtain⟨x,d,T,rfl,rd,h6,q⟩:=h;rcases rd with rd | ⟨a,vs,ds,rfl,rfl,ha,ra⟩
 ·exact xq pins s σ H _ us Q I r ⟨x,d,T,rfl,rd,h6,q⟩
 obtain⟨u,w',rfl,rx,ry⟩:=vals2 r;cases (show w'=Value.type T from ry);have e:=yn (K:=X.K) (.list ds) h6;have fin:∀ tk,EP X pins σ Q (.bool (mM (.list ds) T)) {s with toks:=tk}:=λ tk=>⟨.bl _,H,I.tok _,rfl,q⟩;generalize mM (.list ds) T=b at e fin;cases (show u=Value.ref a from rx);obtain⟨its,rv,⟨o,n,e1,e2,e3,e4⟩,hz⟩:=I.list (.inl (.inl ha));exact PySem.W.kia_one PySem.W.kitx_list I.kIn ⟨_,e1,e2⟩ e (λ z=>nomatch z) fin
def kP(ws:List W)(M:MH)(Q:QD):Prop:=∃ w d T,ws=[w,.t T]/\aac M w d/\Ty6 T/\Q (.d (.bool (mM d T))) M
theorem jl:hZ K (λ xs H Q=>∃ x d T,xs=[x,.ty T]/\sY K H d x/\Ty6 T/\Q (.bl (mM d T)) H) kP:=by intro vs H ws M Qd Q r m ⟨w,d,T,e,g,h6,q⟩ k;subst e;obtain⟨v,v',e1,r1,r2⟩:=yW r;simp only[aD] at r2;subst r2;exact⟨v,d,T,e1,g.sound r1 m,h6,k _ H (.d (.bool _)) M (Kp.refl H) (by simp[aD,aA]) m q⟩
end
namespace Q
section
variable {X:Cx}{pins:List (Addr×Obj)}{σ:St}{H H0:Hp}{s s0:Shared}
end
section
variable {K:PySem.W.Frag}{H:Hp}{a:Addr}{o:Obj}{l:List (Key×V)}
end
theorem oH{X:Cx}{e:Expr}{t:TD}(h:Jd (PD X e t)):Jd (PD X e (zf t)):=⟨D.oH (h:=h.h)⟩
theorem gJ{X:Cx}{st:Stmt}:Jd (PSd X st kU):=⟨D.gJ ⟩
section
variable {X:Cx}{pins:List (Addr×Obj)}{σ:St}{H:Hp}{s:Shared}
end
section
variable {X:Cx}{tg o:Expr}{apos cpos:Pos}{td:TE}
end
section
variable {X:Cx}{K:PySem.W.Frag}{tg o:Expr}{apos cpos:Pos}{td:TD}
theorem js{elts:List Expr}{x1:Nat}{tpos:Pos}(ho:Jd (PD X o td))(hbase:attributeBase o "items" X.env (eval o X.env)=eval o X.env:=by rfl)(hline:(apos.endLine==cpos.line)=true:=by rfl):Jd (PId X (.Tuple elts x1 tpos) (.Call (.Attribute o "items" apos) [] [] cpos) (tU td)):=⟨D.js (ho:=ho.h) (hbase:=hbase) (hline:=hline)⟩
theorem lP(ho:Jd (PD X o td)):Jd (PId X tg o (zE td)):=⟨D.lP (ho:=ho.h)⟩
end
section
variable {X:Cx}{K:PySem.W.Frag}
end
section
variable {X:Cx}{K:PySem.W.Frag}
end
end Q
end D
namespace S
open PySem PySem.W PyProof.Rows
def go{α:Type}(lt:Nat->Nat->Bool):KasT α->α
 | .ret a=>a
 | .ask i j k=>go lt (k (lt i j))
structure ajt(lt:Nat->Nat->Bool):Prop where
 asym:∀ a b,lt a b=true->lt b a=false
 tr:∀ a b c,lt b a=false->lt c b=false->lt c a=false
section
variable {lt:Nat->Nat->Bool}
def B(lt:Nat->Nat->Bool)(a b:Nat):Prop:=lt a b=true\/(lt a b=false/\lt b a=false/\a<b)
abbrev g(p:Array Nat)(i:Nat):Nat:=p.getD i 0
structure Un(p:Array Nat)(N n:Nat):Prop where
 size:p.size=N
 lo:∀ i,i<n->g p i<n
 hi:∀ i,n<=i->i<N->g p i=i
def Up(lt:Nat->Nat->Bool)(p:Array Nat)(n:Nat):Prop:=∀ i j,i<j->j<n->B lt (g p i) (g p j)
def Dn(lt:Nat->Nat->Bool)(p:Array Nat)(n:Nat):Prop:=∀ i j,i<j->j<n->B lt (g p j) (g p i)
structure aju(lt:Nat->Nat->Bool)(p:Array Nat)(n q:Nat):Prop where
 q1:q+1<=n
 dn:∀ i j,i<j->j<n-1-q->B lt (g p j) (g p i)
 cr:∀ i j,i<n-1-q->n-1-q<=j->j<n->lt (g p j) (g p i)=true
 bl:∀ i j,n-1-q<=i->i<j->j<n->B lt (g p i) (g p j)/\lt (g p i) (g p j)=false
end
def aiQ{α:Type}(N:Nat)(R:α->Prop):KasT α->Prop
 | .ret a=>R a
 | .ask i j k=>i<N/\j<N/\∀ b,aiQ N R (k b)
def Low(N:Nat)(p:Array Nat):Prop:=∀ i,g p i<N
section
variable {N:Nat}
end
section
variable {prog:Program}{w:World}{A:Around}{E:Value->Shared->Prop}{s:Shared}
end
def Shape:List Bool->List PyData->Prop
 | [],[]=>True
 | true::bs,d::ds=>(∃ x,d=.str x)/\Shape bs ds
 | false::bs,d::ds=>(∃ i,d=.int i)/\Shape bs ds
 | _,_=>False
def rowAt(rows:List (List PyData))(i:Nat):List PyData:=rows.getD i (rows.headD [])
def aiV:List PyData->List Value->Prop:=Paired λ d u=>(∃ i t,d=.int i/\u=.int i t)\/∃ x t,d=.str x/\u=.str x t
section
variable {prog:Program}{w:World}{A:Around}{Q:Bool->Shared->Prop}
end
end S
namespace D
open L2 S
section
variable {K:PySem.W.Frag}
def aij(h:Heap)(sh:List Bool)(rows:List (List PyData))(its:List Value):Prop:=Paired (λ row u=>Shape sh row/\∃ a o us n,u=Value.ref a/\h.get? a=some o/\o.cls=.type "tuple" /\ o.data=.seq us n/\aiV row us.toList) rows its
end
section
variable {X:Cx}{K:PySem.W.Frag}
end
section
variable {P:Program}{w:World}{H:Hp}{h h':Heap}{a:Addr}{o:HO}
end
section
variable {X:Cx}{pins:List (Addr×Obj)}{σ:St}{H:Hp}{s:Shared}{h':Heap}
end
section
variable {X:Cx}{K:PySem.W.Frag}
theorem qe{P:Program}{w:World}:∀ {zs:List Str} {vs:List (Key×Value)} {us:List Value},vs.map (·.1)=zs.map Sum.inr->us.length=vs.length->(∀ (j:Nat) v,us[j]? =some v->∃ k x,vs[j]? =some (k,x)/\(aW P w).is k v=true)->StrsAre us zs
 | [],vs,us,h,hl,hp=>by
  have e:vs=[]:=by simpa using h
  subst e;have e:us=[]:=by simpa using hl
  subst e;exact .nil
 | z::zs,vs,us,h,hl,hp=>by
  match vs,us,h,hl,hp with
  | (k,x)::vs,u::us,h,hl,hp =>
   simp only[List.map_cons,List.cons.injEq] at h;obtain⟨k',x',e,hk⟩:=hp 0 u rfl;simp at e;obtain⟨e1,e2⟩:=e;subst e1 e2;rw[h.1,wu] at hk;obtain⟨t,e⟩:∃ t,u=.str z t:=by
    rcases bR hk with ⟨i,t,e,_⟩ | ⟨y,t,e,e'⟩
    ·cases e
    ·cases e;exact⟨t,e'⟩
   subst e;exact .cons z t (qe h.2 (by simpa using hl) λ j v hj=>by simpa using hp (j+1) v (by simpa using hj))
  | [],_,h,_,_=>simp at h
  | _::_,[],_,hl,_=>simp at hl
def isNone:W->Bool
 | .d .none=>true
 | _=>false
theorem nJ{H:Hp}{w:W}{v:V}(r:aD K H w v):decide (v=.non)=isNone w:=by
 cases w with
 | m a=>cases (show v=.ref a from r);rfl
 | t n=>cases (show v=.ty n from r);rfl
 | d x =>
  cases x<;>simp only[aD,aA] at r
  ·subst r;rfl
  ·subst r;rfl
  ·subst r;rfl
  ·subst r;rfl
  all_goals first
   | (obtain⟨a,vs,e,_⟩:=r;subst e;rfl)
   | (obtain⟨a,o,l,e,_⟩:=r;subst e;rfl)
def l7(neg:Bool)(w:W)(w':W)(M:MH)(Q:QD):Prop:=w'=.d .none/\Q (.d (.bool (xor neg (isNone w)))) M
theorem iB:OpD K (λ x y H Q=>y=.non/\Q (.bl (decide (x=.non))) H) (l7 false):=by intro x y H w w' M Qd Q r1 r2 m ⟨e,q⟩ k;subst e;simp only[aD,aA] at r2;refine⟨r2,k _ _ (.d (.bool (isNone w))) M (Kp.refl _) ?_ m (by simpa using q)⟩;rw[nJ r1];simp[aD,aA]
theorem uo:OpD K (λ x y H Q=>y=.non/\Q (.bl (!decide (x=.non))) H) (l7 true):=by intro x y H w w' M Qd Q r1 r2 m ⟨e,q⟩ k;subst e;simp only[aD,aA] at r2;refine⟨r2,k _ _ (.d (.bool (!isNone w))) M (Kp.refl _) ?_ m (by simpa using q)⟩;rw[nJ r1];simp[aD,aA]
end
section
variable {X:Cx}{pins:List (Addr×Obj)}{σ:St}{H:Hp}{s:Shared}{h':Heap}
theorem Inv.acu{t':Nat}{it e:Addr}(I:Inv X pins σ H s)(k:∀ b o,b≠it->b≠e->s.heap.get? b=some o->h'.get? b=some o)(f:mz X pins H it)(g:mz X pins H e):Inv X pins σ H {s with heap:=h',toks:=t'}:=by
 obtain⟨f0,f1,f2,f3,f4,f5⟩:=f;obtain⟨g0,g1,g2,g3,g4,g5⟩:=g;have nit:∀ b u,H b=some u->b≠it:=λ b u q z=>by rw[z,f0] at q;cases q
 have ne:∀ b u,H b=some u->b≠e:=λ b u q z=>by rw[z,g0] at q;cases q
 refine I.step (g':=s.gens) (d':=s.drawn) (ch:=[it,e]) (λ b hb=>?_) (λ b o _ _ hc q _=>k b o (λ z=>hc (by simp[z])) (λ z=>hc (by simp[z])) q) (λ b o _ _ hc q _=>⟨o.slots,k b o (λ z=>hc (by simp[z])) (λ z=>hc (by simp[z])) q⟩) (λ _ _ _ _ n=>n)
  (λ b o hc q=>⟨o,k b o (λ z=>hc (by simp[z])) (λ z=>hc (by simp[z])) q⟩) (λ _ _ q=>q) (λ _ _ _ q=>q) (λ b ps q=>⟨#[],by rw[q];simp⟩) (λ m hm=>?_) (λ b u q=>?_) I.bare
 ·have z:b=it\/b=e:=by simpa using hb
  rcases z with rfl | rfl
  ·exact⟨f3,f1,f4,f5⟩
  ·exact⟨g3,g1,g4,g5⟩
 ·obtain⟨o,es,ep,ho,r⟩:=hm;exact⟨o,es,ep,k _ o (Ne.symm f1) (Ne.symm g1) ho,r⟩
 ·refine(I.hok b u q).wG (λ c v hc z=>k c v ?_ ?_ z) (λ _ z=>z) λ _ _ z=>z
  ·rcases hc with z | z
   ·rw[z];exact nit b u q
   ·exact nit c _ z
  ·rcases hc with z | z
   ·rw[z];exact ne b u q
   ·exact ne c _ z
end
def Ite(K:PySem.W.Frag)(a:Addr):It:=
 ⟨λ i H=>∃ xs x,SqL K H a xs/\xs[i]? =some x,λ i H x H'=>∃ T v,H T=none/\x=.ref T/\H'=upd H T (.tup [.int i,v])/\∀ xs,SqL K H a xs->xs[i]? =some v,λ i H=>∃ xs,SqL K H a xs/\xs.length<=i⟩
theorem yJ{P:Program}{w:World}{K:PySem.W.Frag}{elts:List Expr}{x1:Nat}{tpos:Pos}(a e it:Addr)(hne:e≠it) :
  Turn P w K (.Tuple elts x1 tpos) (Ite K a) [e,it] e (λ i h=>(∃ old,IsEnum h e it (i:Nat) old)/\h.IsListIter it a i) where
 mem:=by simp
 obj:=λ i h ⟨⟨old,st⟩,⟨oi,ei,ci,di⟩⟩ b hb=>by
  have z:b=e\/b=it:=by simpa using hb
  rcases z with rfl | rfl
  ·exact⟨_,st,λ v z=>by cases z⟩
  ·exact⟨oi,ei,λ v z=>by rw[di] at z;cases z⟩
 keep:=λ i h h' ⟨⟨old,st⟩,li⟩ k=>⟨⟨old,k e (by simp) _ st⟩,li.at λ o q=>k it (by simp) o q⟩
 item:=by
  intro X hP hw hK hc i pins s σ H E I hf ⟨⟨old,st⟩,li⟩ ⟨xs,x,hq,hx⟩;subst hP hw hK;have fe:=hf e (by simp);have fi:=hf it (by simp);obtain⟨its,rv,p,hz⟩:=I.list hq;obtain⟨u,hu,ru⟩:=rv.get hx;refine wpAny_pyNext_enum_item st li p.isList (x:=u) (by simpa using hu) hne λ h' st' li' ht hsz kp=>?_;refine⟨_,rfl,wpAny_letOwnedTupleGo_enum st' λ h'' st'' sb=>?_⟩;obtain⟨t0,t1,t2,t3,t4,t5⟩:=I.p9 (Nat.le_refl _) (I.hok.fresh (Nat.le_refl _));have nT:s.heap.objs.size≠e:=Nat.ne_of_gt (Heap.lt_size st);have I1:Inv X pins σ H {s with heap:=h'',toks:=s.toks+1}:=Inv.acu I (λ b ob h1 h2 q=>(sb.2 b h2).trans (kp b ob h2 h1 q)) fi fe;have eT:h''.get? s.heap.objs.size=some {cls:=.type "tuple",data:=.seq #[.int (i:Nat) s.toks,u]}:=(sb.2 _ nT).trans ht;have I2:=Inv.abh (us:=[.int (i:Nat) s.toks,u]) (ys:=[.int i,x]) I1 eT t0 (.cons ⟨_,rfl⟩ (.cons ru .nil)) (by simp;have:=s16;omega) t3 t1 t4 t5;have li'':h''.IsListIter it a (i+1):=li'.at λ o q=>(sb.2 it hne.symm).trans q;have hit:it<s.heap.objs.size:=by obtain⟨oi,ei,_⟩:=li;exact Heap.lt_size ei
  refine⟨.ref s.heap.objs.size,_,I2,rfl,⟨_,x,t0,rfl,rfl,λ ys hy=>by rw[I.uD hy hq];exact hx⟩,⟨⟨_,st''⟩,li''⟩,λ b hb=>?_⟩;have z:b=e\/b=it:=by simpa using hb
  rcases z with rfl | rfl
  ·rw[aj nT.symm];exact fe.1
  ·rw[aj (Nat.ne_of_lt hit)];exact fi.1
 done:=by intro X hP hw hK hc i pins s σ H E I hf ⟨⟨old,st⟩,li⟩ ⟨xs,hq,hx⟩;subst hP hw hK;obtain⟨f0,f1,f2,f3,f4,f5⟩:=hf it (by simp);obtain⟨its,rv,p,hz⟩:=I.list hq;have hl:=rv.length;exact wpAny_pyNext_enum_end (I.ok.hd hc) st li p.isList (by simp;omega) λ h' eb=>⟨rfl,I.turned (t':=s.toks) (λ b o hb q=>eb b o hb q) f0 f1 f3 f4 f5⟩
 self:=λ _ _ _ _ _ ⟨⟨old,st⟩,li⟩ h=>wpAny_pyIter_enum st h
theorem rN:bootBuiltins "enumerate" = some (.type "enumerate"):=by decide +kernel
section
variable {X:Cx}{a:Expr}{p pos:Pos}{ta:TA}
def ahi(K:PySem.W.Frag)(ta:TA):TI:=λ σ H R=>ta σ H λ vs H1=>∃ b xs,vs=[.ref b]/\SqL K H1 b xs/\R (Ite K b) H1
theorem acS{elts:List Expr}{x1:Nat}{tpos:Pos}(hg:Gl X "enumerate")(hm:X.mg "enumerate" = none)(ha:PA X [a] ta)(hs:starEach [a] X.env=[(false,eval a X.env)]:=by rfl) :
  PI X (.Tuple elts x1 tpos) (.Call (.Name "enumerate" p) [a] [] pos) (ahi X.K ta):=by
 intro pins s σ H R I h;refine Call_ (lO I hg hm rN (PyProof.Rows.callWith_type1 (thn (ha pos pins s σ H _ I h) λ us s1 ⟨vs,H1,I1,r1,q1⟩=>?_) hs rfl));obtain⟨b,xs,e,hq,q⟩:=q1;subst e;cases r1 with
 | cons r rr =>
  cases rr;cases (show _=Value.ref b from r);obtain⟨its,rv,pl,hz⟩:=I1.list hq;refine call_enumerate_list pl.isList λ h' st li hsz kp=>?_;have I2:Inv X pins σ H1 {s1 with heap:=h'}:=I1.kept (t':=s1.toks) kp;refine wpAny_pyIter_enum st ?_;refine⟨_,[_,_],_,_,H1,rfl,I2,yJ b _ _ (Nat.succ_ne_self _),⟨⟨_,st⟩,li⟩,λ c hc=>?_,q⟩;have z:c=s1.heap.objs.size+1\/c=s1.heap.objs.size:=by simpa using hc
  rcases z with rfl | rfl
  ·exact I1.p9 (Nat.le_succ _) (I1.hok.fresh (Nat.le_succ _))
  ·exact I1.p9 (Nat.le_refl _) (I1.hok.fresh (Nat.le_refl _))
end
section
variable {X:Cx}{K:PySem.W.Frag}{a:Expr}{p pos:Pos}{t:TAd}
def vH(ds:List PyData):List W:=(List.range ds.length).map λ i=>.d (.tuple [.int (i:Nat),ds.getD i .none])
def acz(t:TAd)(τ:DS)(M:MH)(R:List W->MH->Prop):Prop:=t τ M λ ws M1=>∃ ds,ws=[.d (.list ds)]/\R (vH ds) M1
theorem pU{elts:List Expr}{x1:Nat}{tpos:Pos}(hg:Gl X "enumerate")(hm:X.mg "enumerate" = none)(ha:PAd X [a] t)(h1:gf a=false:=by rfl) :
  PId X (.Tuple elts x1 tpos) (.Call (.Name "enumerate" p) [a] [] pos) (acz t):=aet (acS hg hm ha (by rw[cu a [] X.env h1];rfl)) λ σ H R hq91=>by
 obtain⟨τ,M,Rd,A,h,k⟩:=hq91;refine⟨τ,M,_,A,h,λ vs H1 ws M1 kp r m hq92=>?_⟩;obtain⟨ds,ew,q⟩:=hq92;subst ew;obtain⟨v,ev,r1⟩:=fZ r;simp only[aD,aA] at r1;obtain⟨b,xs,e1,hs,ra⟩:=r1;subst ev e1;have hl:=ra.length;refine⟨b,xs,rfl,hs.sq,k _ H1 _ M1 kp m (λ H2 kp2 i=>?_) q⟩;have hs2:=(hs.keep kp2).sq;have hlw:(vH ds).length=xs.length:=by simp[vH,hl]
 refine⟨λ hi=>⟨xs,xs[i]'(by omega),hs2,by simp⟩,λ hi=>⟨xs,hs2,by omega⟩,λ x H' hi hq93=>?_⟩;obtain⟨T,v,hT,ex,eH,hv⟩:=hq93;subst ex eH;have hxv:=hv xs hs2;obtain⟨d,e3,rd⟩:=(ra.keep kp2).get' hxv;have kpn:Kp H2 (upd H2 T (.tup [.int i,v])):=Kp.new hT;have hid:i<ds.length:=by rw[hlw] at hi;omega
 refine⟨kpn,λ M m=>m.new hT,.d (.tuple [.int (i:Nat),ds.getD i .none]),by simp[vH,hid],?_⟩;have ed:ds.getD i .none=d:=by simp[List.getD,e3]
 rw[ed];simp only[aD,aA,bf];exact⟨T,_,rfl,.inl (.inl ar),_,_,rfl,rfl,_,_,rfl,rd.keep kpn,rfl⟩
end
theorem xV:bootBuiltins "sum" = some (.builtin "sum"):=by decide +kernel
theorem uN:bootBuiltins "min" = some (.builtin "min"):=by decide +kernel
theorem kM(f:Nat->Int)(k:Nat):preSum f (k+1)=preSum f k+f k:=rfl
theorem iK(ps:List (Int×Tok)):∀ k,k<=ps.length->preSum (numAt ps.toArray) k=((ps.map (·.1)).take k).sum
 | 0,_=>by simp[preSum]
 | k+1,h=>by
  rw[kM,iK ps k (by omega),List.take_succ,List.sum_append];have hk:k<ps.length:=by omega
  simp[numAt,List.getElem?_eq_getElem hk]
theorem sum_bound:∀ (ns:List Int),(∀ n∈ns,0<=n/\n<=1000000)->0<=ns.sum/\ns.sum<=1000000 * ns.length
 | [],_=>by simp
 | n::ns,h=>by have h1:=h n (by simp);have h2:=sum_bound ns λ x hx=>h x (by simp[hx]);simp only[List.sum_cons,List.length_cons];omega
section
variable {X:Cx}{K:PySem.W.Frag}
theorem rY(hc:X.calm=true):fC X (.builtin "sum") (λ xs H Q=>∃ p,∃ ns:List Int,xs=[.ref p]/\SqL X.K H p (ns.map V.int)/\ns.length<=1000/\(∀ n∈ns,0<=n/\n<=1000000)/\Q (.int ns.sum) H):=by
 intro pins s σ H xs us Q I r h;obtain⟨p,ns,rfl,hq,hlen,hb,q⟩:=h;obtain⟨u,rfl,rx⟩:=vals1 r;cases rx;obtain⟨its,rv,pl,hz⟩:=I.list hq;obtain⟨ps,e1,e2⟩:=pE rv;subst e1;have hl:s.heap.IsList p (intItems ps.toArray):=by
  have e:(ps.map λ p=>Value.int p.1 p.2).toArray=intItems ps.toArray:=by simp[intItems]
  rw[<- e];exact pl.isList
 have hpl:ps.length=ns.length:=by rw[<- e2,List.length_map]
 refine sum_intList (I.ok.hd hc) hl (λ j hj=>?_) λ h' tk t' kk=>?_
 ·have hj':j<ps.length:=by simpa using hj
  have hn:numAt ps.toArray j=(ps[j]).1:=by simp[numAt,List.getElem?_eq_getElem hj']
  have hm:(ps[j]).1∈ns:=by rw[<- e2];exact List.mem_map.mpr ⟨_,List.getElem_mem hj',rfl⟩
  have b1:=hb _ hm;have b2:=sum_bound (ns.take (j+1)) λ n hn=>hb n (List.mem_of_mem_take hn);rw[List.length_take] at b2;refine⟨by rw[hn];exact⟨by omega,by omega⟩,?_⟩;rw[iK ps (j+1) (by omega),e2];exact⟨by omega,by omega⟩
 ·refine⟨.int _,H,I.kept kk,⟨_,rfl⟩,?_⟩;have:preSum (numAt ps.toArray) ps.toArray.size=ns.sum:=by rw[List.size_toArray,iK ps ps.length (Nat.le_refl _),e2,hpl,List.take_length]
  rw[this];exact q
def aeb(ws:List W)(M:MH)(Q:QD):Prop:=∃ w,∃ ns:List Int,ws=[w]/\adq M w (ns.map PyData.int)/\ns.length<=1000/\(∀ n∈ns,0<=n/\n<=1000000)/\Q (.d (.int ns.sum)) M
theorem abz:hZ K (λ xs H Q=>∃ p,∃ ns:List Int,xs=[.ref p]/\SqL K H p (ns.map V.int)/\ns.length<=1000/\(∀ n∈ns,0<=n/\n<=1000000)/\Q (.int ns.sum) H) aeb:=by intro vs H ws M Qd Q r m ⟨w,ns,e,g,hl,hb,q⟩ k;subst e;obtain⟨v,e1,r1⟩:=fZ r;obtain⟨p,ys,ev,hs,ra⟩:=g.sound r1 m;have ey:=qM ra;subst ev ey;exact⟨p,ns,e1,hs,hl,hb,k _ H (.d (.int _)) M (Kp.refl H) (by simp[aD,aA]) m q⟩
def yv(ws:List W)(M:MH)(Q:QD):Prop:=∃ i j,ws=[.d (.int i),.d (.int j)]/\Q (.d (.int (if j<i then j else i))) M
theorem yP:hZ K (λ xs H Q=>∃ i j,xs=[V.int i,V.int j]/\Q (V.int (if j<i then j else i)) H) yv:=by intro vs H ws M Qd Q r m ⟨i,j,e,q⟩ k;subst e;obtain⟨v,v',e1,r1,r2⟩:=yW r;simp only[aD,aA] at r1 r2;subst r1 r2;exact⟨i,j,e1,k _ H (.d (.int _)) M (Kp.refl H) (by simp[aD,aA]) m q⟩
end
end D
namespace Rc
open L2 D
section
variable {α:Type}(nm:α->Str)
def rk(g:α->PyData)(L:List α):List (Key×PyData):=L.map λ a=>(.inr (nm a),g a)
def fd(L:List α)(n:Str):Option α:=L.find? λ a=>decide (nm a=n)
def pt(L:List α)(z:α):List α:=match fd nm L (nm z) with
 | none=>L++[z]
 | some _=>L.map λ y=>if nm y=nm z then z else y
variable {nm}
end
mutual
def okD:Nat->PyData->Bool
 | _,.none=>true
 | _,.bool _=>true
 | _,.int i=>decide (i.natAbs<2 ^ 100)
 | _,.str z=>aft z
 | k+1,.list ds=>okA k ds
 | k+1,.tuple ds=>okA k ds
 | _,_=>false
def okA:Nat->List PyData->Bool
 | _,[]=>true
 | k,d::ds=>okD k d&&okA k ds
end
theorem m9{k:Nat}:∀ {ds:List PyData},(∀ d∈ds,okD k d=true)->okA k ds=true
 | [],_=>by simp[okA]
 | d::ds,h=>by simp only[okA,Bool.and_eq_true];exact⟨h d (by simp),m9 λ x hx=>h x (by simp[hx])⟩
theorem aai{z:Str}(h:aft z=true):Asc z:=acy h
theorem xo{z:Str}(h:Asc z):PyData.strOk z=true:=by
 unfold PyData.strOk;rw[Array.all_eq_true_iff_forall_mem];intro c hc;exact decide_eq_true (by have:=h c (by simpa using hc);omega)
theorem aec{z:Str}(h:aft z=true):PyData.strOk z=true:=xo (aai h)
mutual
theorem ym:∀ (k:Nat) (d:PyData),okD k d=true->PyData.canLay0 d=true
 | _,.none,_=>by simp[PyData.canLay0]
 | _,.bool _,_=>by simp[PyData.canLay0]
 | _,.int i,h=>by simp[PyData.canLay0]
 | _,.str z,h=>by
  cases ‹Nat› <;> simp only[okD] at h<;>simp[PyData.canLay0,aec h]
 | k+1,.list ds,h=>by simp only[okD] at h;simp only[PyData.canLay0];exact tF k ds h
 | k+1,.tuple ds,h=>by simp only[okD] at h;simp only[PyData.canLay0];exact tF k ds h
 | 0,.list ds,h=>by simp[okD] at h
 | 0,.tuple ds,h=>by simp[okD] at h
 | k,.dict kvs,h=>by cases k<;>simp[okD] at h
theorem tF:∀ (k:Nat) (ds:List PyData),okA k ds=true->PyData.canLayAll0 ds=true
 | _,[],_=>by simp[PyData.canLayAll0]
 | k,d::ds,h=>by simp only[okA,Bool.and_eq_true] at h;simp only[PyData.canLayAll0,ym k d h.1,tF k ds h.2,Bool.and_self]
end
mutual
theorem uC:∀ (k:Nat) (d:PyData),okD k d=true->PyData.depth d<=k+1
 | _,.none,_=>by simp[PyData.depth]
 | _,.bool _,_=>by simp[PyData.depth]
 | _,.int i,h=>by simp[PyData.depth]
 | _,.str z,h=>by simp[PyData.depth]
 | k+1,.list ds,h=>by simp only[okD] at h;have:=k6 k ds h;simp only[PyData.depth];omega
 | k+1,.tuple ds,h=>by simp only[okD] at h;have:=k6 k ds h;simp only[PyData.depth];omega
 | 0,.list ds,h=>by simp[okD] at h
 | 0,.tuple ds,h=>by simp[okD] at h
 | k,.dict kvs,h=>by cases k<;>simp[okD] at h
theorem k6:∀ (k:Nat) (ds:List PyData),okA k ds=true->PyData.depthAll ds<=k+1
 | _,[],_=>by simp[PyData.depthAll]
 | k,d::ds,h=>by simp only[okA,Bool.and_eq_true] at h;have h1:=uC k d h.1;have h2:=k6 k ds h.2;simp only[PyData.depthAll];omega
end
mutual
theorem abO:∀ (k:Nat) (d:PyData),okD k d=true->PyData.hasDict d=false
 | _,.none,_=>by simp[PyData.hasDict]
 | _,.bool _,_=>by simp[PyData.hasDict]
 | _,.int i,h=>by simp[PyData.hasDict]
 | _,.str z,h=>by simp[PyData.hasDict]
 | k+1,.list ds,h=>by simp only[okD] at h;simp only[PyData.hasDict];exact sG k ds h
 | k+1,.tuple ds,h=>by simp only[okD] at h;simp only[PyData.hasDict];exact sG k ds h
 | 0,.list ds,h=>by simp[okD] at h
 | 0,.tuple ds,h=>by simp[okD] at h
 | k,.dict kvs,h=>by cases k<;>simp[okD] at h
theorem sG:∀ (k:Nat) (ds:List PyData),okA k ds=true->PyData.hasDictAll ds=false
 | _,[],_=>by simp[PyData.hasDictAll]
 | k,d::ds,h=>by simp only[okA,Bool.and_eq_true] at h;simp only[PyData.hasDictAll,abO k d h.1,sG k ds h.2,Bool.or_self]
end
theorem jk{k:Nat}{d:PyData}(hk:k<=50)(h:okD k d=true):rH d=true:=by have h1:=ym k d h;have h2:=uC k d h;have h3:=abO k d h;simp only[rH,SeqAt.shaped,h1,h3,Bool.true_and,Bool.not_false,Bool.and_true];exact decide_eq_true (by omega)
theorem pF{k:Nat}{d d':PyData}(hk:k<=50)(h:okD k d=true)(h':okD k d'=true):fh d d'=true:=by have h1:=jk hk h;have h2:=jk hk h';cases d<;>cases d'<;>simp[fh,h1,h2]
theorem wY{k:Nat}{d:PyData}(h:okD k d=true):PyData.eqv d d=true:=SeqAt.eqv_refl _ (ym k d h)
theorem ux(x y:Str):PyData.eqv (.str x) (.str y)=decide (x=y):=by
 rw[<- tN]
 by_cases e:x=y
 ·subst e;simp
 ·simp[e]
theorem i7(x y:Int):PyData.eqv (.int x) (.int y)=decide (x=y):=by
 rw[PyData.eqv]
 by_cases e:x=y
 ·subst e;simp
 ·simp[e]
theorem gy{M:MH}{a b:Addr}{o u:MO}(ha:M a=some o)(hb:M b=some u)(h:o≠u):a≠b:=λ e=>h (by rw[e,hb] at ha;exact(Option.some.inj ha).symm)
theorem ay{M:MH}{a b:Addr}{o:MO}(ha:M a=some o)(hb:M b=none):a≠b:=λ e=>by rw[e,hb] at ha;cases ha
theorem cF{M:MH}{a b:Addr}{o u:MO}(h:M a=some o)(hb:M b=none):aE M b u a=some o:=by rw[ae (ay h hb)];exact h
theorem p5{M:MH}{d:Addr}{x y:MO}(h:M d=some y):aE (aE M d x) d y=M:=by
 rw[iX];funext q
 by_cases e:q=d
 ·rw[e,ab,h]
 ·rw[ae e]
end Rc
namespace Stc
open L2 D Rc
theorem ahb{M:MH}{ds:List PyData}{r:Int}(h0:0<=r)(h1:r<ds.length):∃ d,ixW M (.d (.list ds)) r=some (.d d)/\d∈ds:=by
 have hn:r.toNat<ds.length:=by omega
 refine⟨ds[r.toNat],?_,List.getElem_mem hn⟩;simp only[ixW,atI,tM h0 h1,Option.bind_some,List.getElem?_eq_getElem hn,Option.map_some]
theorem qA{M:MH}{ns:List Int}{r:Int}(h0:0<=r)(h1:r<ns.length):∃ i,ixW M (.d (.list (ns.map PyData.int))) r=some (.d (.int i))/\i∈ns:=by obtain⟨d,e,hd⟩:=ahb (M:=M) (ds:=ns.map PyData.int) h0 (by simpa using h1);obtain⟨i,hi,rfl⟩:=List.mem_map.mp hd;exact⟨i,e,hi⟩
theorem agF{M:MH}{p:Addr}(h:Bag M p):∃ o,M p=some o:=by obtain⟨a,b,c,ns,e,_⟩:=h;exact⟨_,e⟩
theorem pI{M M':MH}{p:Addr}(h:Bag M p)(e:M' p=M p):Bag M' p:=by obtain⟨a,b,c,ns,h1,h2⟩:=h;exact⟨a,b,c,ns,e.trans h1,h2⟩
end Stc
namespace D
open L2
section
variable {X:Cx}{pos:Pos}{e:Expr}{te:TD}
end
section
variable {X:Cx}{tg a b c:Expr}{p pos:Pos}
end
section
variable {K:PySem.W.Frag}
def wA(di:TId)(g:TGd)(tt:TTd)(te:TD)(k:Nat)(fr:List Nat)(τ:DS)(M:MH)(Q:QD):Prop:=di τ M λ ws M1=>∃ P:Nat->List PyData->DS->MH->Prop,P 0 [] (abX k fr τ) M1 /\
 (∀ i w acc τ M,ws[i]? =some w->P i acc τ M->acc.length<sizeLine/\g w τ M λ τ2 M2=>tt τ2 M2 λ b M3=>if b=true then te τ2 M3 λ y M4=>∃ d,y=.d d/\P (i+1) (acc++[d]) τ2 M4 else P (i+1) acc τ2 M3) /\
 ∀ acc τ M,P ws.length acc τ M->∀ p,M p=none->Q (.m p) (aE M p (.lst (acc.map W.d)))
theorem wK{di:TId}{g:TGd}{tt:TTd}{te:TD}{k:Nat}{fr:List Nat}{σ:St}{H:Hp}{Q:VK}(h:up K (wA di g tt te k fr) σ H Q) :
  tLC (upI K di) (upG K g) (upT K tt) (up K te) k fr σ H Q:=by
 obtain⟨τ,M,Qd,A,h,kk⟩:=h;refine⟨τ,M,_,A,h,λ J H1 ws M1 kp m1 it hq94=>?_⟩;obtain⟨P,p0,pt,pe⟩:=hq94;refine⟨λ i n ys σ' H'=>n=ws.length-i/\i<=ws.length/\Kp H1 H'/\∃ acc τ M,bf K H' acc ys/\Abs K H' σ' τ M/\P i acc τ M,⟨ws.length,by simp,Nat.zero_le _,Kp.refl _,[],_,M1,by simp[bf],qj (A.go kp m1) k fr,p0⟩,?_⟩;rintro i n ys σ2 H2 ⟨rfl,hi,kp2,acc,τ2,M2,ra,A2,p2⟩;obtain⟨go,stop,yld⟩:=it H2 kp2 i
 by_cases hlt:i<ws.length
 ·have hlen:=ra.length;refine .inr ⟨go hlt,?_,λ x H3 y=>?_⟩
  ·obtain⟨w,hw⟩:∃ w,ws[i]? =some w:=⟨ws[i],by simp[hlt]⟩;have:=(pt i w acc τ2 M2 hw p2).1;omega
  obtain⟨kp3,mk,w,ew,rw⟩:=yld x H3 hlt y;refine⟨w,τ2,M2,_,rw,A2.go kp3 (mk _ A2.mem),(pt i w acc τ2 M2 ew p2).2,λ σ4 H4 τ4 M4 kp4 A4 q4=>⟨τ4,M4,_,A4,q4,λ b H5 M5 kp5 m5 q5=>?_⟩⟩;have kq:=(kp3.trans kp4).trans kp5;cases b with
  | false =>
   rw[if_neg Bool.false_ne_true] at q5;show(if false=true then _ else _);rw[if_neg Bool.false_ne_true];exact⟨ws.length-(i+1),by omega,rfl,hlt,kp2.trans kq,acc,τ4,M5,ra.keep kq,A4.go kp5 m5,q5⟩
  | true =>
   rw[if_pos rfl] at q5;show(if true=true then _ else _);rw[if_pos rfl];refine⟨τ4,M5,_,A4.go kp5 m5,q5,λ v H6 wv M6 kp6 r6 m6 hq95=>?_⟩;obtain⟨d,e6,q6⟩:=hq95;subst e6;refine⟨ws.length-(i+1),by omega,rfl,hlt,kp2.trans (kq.trans kp6),acc++[d],τ4,M6,bf.append (ra.keep (kq.trans kp6)) ?_,A4.go (kp5.trans kp6) m6,q6⟩;simp only[bf];exact⟨v,[],rfl,r6,rfl⟩
 ·have hl:i=ws.length:=by omega
  subst hl;refine .inl ⟨stop (Nat.le_refl _),λ p hp=>?_⟩;have kp9:Kp H2 (upd H2 p (.lst ys)):=Kp.new hp;exact kgo kk (kp.trans kp2) _ _ (.m p) _ kp9 rfl (A2.mem.put (mo:=.lst (acc.map W.d)) kp9 ⟨_,ar,(ra.keep kp9).ws⟩) (pe acc τ2 M2 p2 p (A2.mem.free hp))
variable {X:Cx}{sc:Scope}{own:List Str}{fr:List Nat}{di:TId}{g:TGd}{tt:TTd}{te:TD}{tg iter elt:Expr}{ifs:List Expr}{pos:Pos}
theorem aem(hc:X.calm=true)(L:jN X sc own fr)(hi:PId X tg iter di)
  (hg:∀ cl C s H ex pl,PGd (blk X sc (lcN X own fr) cl C s H ex pl) tg g)(ht:∀ cl C s H ex pl,mW (blk X sc (lcN X own fr) cl C s H ex pl) ifs tt)(he:∀ cl C s H ex pl,PD (blk X sc (lcN X own fr) cl C s H ex pl) elt te)
  (hs:∀ x,foldedSetIterable iter X.env x=pure x:=by intro _;rfl):PD X (.ListComp elt [⟨tg,iter,ifs,0⟩] sc pos) (wA di g tt te own.length fr):=
 eQ (acU hc L hi hg ht he hs) λ σ H Q h=>wK h
end
section
variable {X:Cx}{K:PySem.W.Frag}
end
section
variable {X:Cx}{o:Expr}{to:TE}{apos cpos p pos kpos kp:Pos}{j:Nat}
def adC(to:TE):TE:=λ σ H Q=>to σ H λ x H1=>∃ a kvs,x=.ref a/\Rd H1 a (.dK kvs)/\∀ v,H1 v=none->Q (.ref v) (upd H1 v (.ext λ h=>h.IsValuesView v a))
theorem zJ(ho:PE X o to)(hbase:attributeBase o "values" X.env (eval o X.env)=eval o X.env:=by rfl)(hline:(apos.endLine==cpos.line)=true:=by rfl):PE X (.Call (.Attribute o "values" apos) [] [] cpos) (adC to):=by
 intro pins s σ H Q I h;refine wpAny_Call_method0_late hbase hline (thn (ho pins s σ H _ I h) λ v s1 hq96=>?_);obtain⟨x,H1,I1,r1,a,kvs,ex,hr,q⟩:=hq96;subst ex;cases r1;obtain⟨hsz,hsys,vs,rel,oo,es,ep,hd⟩:=hr.ok I1.hok;have dd:s1.heap.DictOf (aW X.prog X.w) a vs:=⟨oo,es,ep,hd⟩;have hnd:∀ b,Value.ref a=.ref b->∃ ob,s1.heap.get? b=some ob/\ob.dict=none:=λ b e=>by
  cases e;exact⟨oo,hd.1,hd.2.1.2.1⟩
 refine⟨"dict", "dict.values",PySem.F.plainAttrs_dict,PySem.F.slot_dict_values,PySem.F.type_dict_values,dd.typeIs,hnd,Calls.callWith_builtin rfl (PySem.evalArgs_none ?_)⟩;refine call_meetsIn PySem.F.slot_dict_values dd.typeIs PySem.F.entry_dict_values (PySem.F.args_dict_values_1 _) (meets_dict_values (aW X.prog X.w) a hsys) ⟨⟨vs,dd⟩,?_⟩;have hv:(s1.heap.push {cls:=.type "dict_values",data:=.fields #[.ref a]}).get? s1.heap.objs.size=some {cls:=.type "dict_values",data:=.fields #[.ref a]}:=Heap.get?_push_size _ rfl;refine⟨.ref _,_,I1.laid (a:=s1.heap.objs.size) (o:=.ext λ h=>h.IsValuesView s1.heap.objs.size a) (t':=s1.toks) (λ b ob e=>Heap.get?_push_of_some _ e) (Nat.le_refl _) ⟨⟨_,hv,rfl,rfl⟩,⟨_,hv⟩,λ h1 h2 ⟨ob,e1,e2⟩ k=>⟨ob,k ob e1,e2⟩⟩,rfl,q _ (I1.hok.fresh (Nat.le_refl _))⟩
theorem gP:∀ {ns:List Int} {kvs:List (Key×V)} {vs:List (Key×Value)} {us:List Value},KV kvs vs->kvs.map (·.2)=ns.map V.int->us.length=vs.length->(∀ (i:Nat) v,us[i]? =some v->∃ k,vs[i]? =some (k,v))->IntsAre us ns
 | [],kvs,vs,us,r,h,hl,hp=>by
  have e:kvs=[]:=by simpa using h
  subst e;cases r;have e:us=[]:=by simpa using hl
  subst e;exact .nil
 | n::ns,kvs,vs,us,r,h,hl,hp=>by
  match kvs,us,r,h,hl,hp with
  | (k,x)::kvs,u::us,.cons (b:=b) r1 r2,h,hl,hp =>
   simp only[List.map_cons,List.cons.injEq] at h;obtain⟨k',e⟩:=hp 0 u rfl;simp at e;have hx:=r1.2;rw[h.1,e] at hx;obtain⟨t,et⟩:=(show ∃ t,u=Value.int n t from hx);subst et;exact .cons n t (gP r2 h.2 (by simpa using hl) λ i v hi=>by simpa using hp (i+1) v (by simpa using hi))
  | [],_,r,h,_,_=>simp at h
  | _::_,[],.cons _ _,_,hl,_=>simp at hl
end
section
variable {X:Cx}{o:Expr}{td:TD}{apos cpos p pos kpos kp:Pos}{j:Nat}
def cI(ns:List Int):List W:=ns.map λ n=>.d (.int n)
theorem tD{K:PySem.W.Frag}{H:Hp}:∀ {ns:List Int} {kvs:List (Key×W)} {l:List (Key×V)},kvs.map (·.2)=cI ns->Paired (λ(p:Key×W) (q:Key×V)=>p.1=q.1/\aD K H p.2 q.2) kvs l->l.map (·.2)=ns.map V.int
 | [],kvs,l,h,pr=>by
  have e:kvs=[]:=by simpa [cI] using h
  subst e;cases pr;rfl
 | n::ns,kvs,l,h,pr=>by
  match kvs,pr,h with
  | (k,x)::kvs,.cons r t,h =>
   simp only[cI,List.map_cons,List.cons.injEq] at h;have hx:=r.2;rw[h.1] at hx;simp only[aD,aA] at hx;rw[List.map_cons,hx,tD h.2 t];rfl
  | [],_,h=>simp[cI] at h
end
namespace Q
section
variable {X:Cx}{pos:Pos}{e:Expr}{te:TD}
variable {tg a b c iter elt:Expr}{p:Pos}{sc:Scope}{own:List Str}{fr:List Nat}{di:TId}{g:TGd}{tt:TTd}{ifs:List Expr}
theorem abk(hc:X.calm=true)(L:jN X sc own fr)(hi:Jd (PId X tg iter di))
  (hg:∀ cl C s H ex pl,Jd (PGd (blk X sc (lcN X own fr) cl C s H ex pl) tg g))(ht:∀ cl C s H ex pl,Jd (mW (blk X sc (lcN X own fr) cl C s H ex pl) ifs tt))(he:∀ cl C s H ex pl,Jd (PD (blk X sc (lcN X own fr) cl C s H ex pl) elt te))
  (hs:∀ x,foldedSetIterable iter X.env x=pure x:=by intro _;rfl):Jd (PD X (.ListComp elt [⟨tg,iter,ifs,0⟩] sc pos) (wA di g tt te own.length fr)):=
 ⟨D.aem hc L hi.h (λ cl C s H ex pl=>(hg cl C s H ex pl).h) (λ cl C s H ex pl=>(ht cl C s H ex pl).h) (λ cl C s H ex pl=>(he cl C s H ex pl).h) hs⟩
variable {o:Expr}{td:TD}{apos cpos kpos kp:Pos}{j:Nat}
theorem pU{t:TAd}{elts:List Expr}{x1:Nat}{tpos:Pos}(hg:Gl X "enumerate")(hm:X.mg "enumerate" = none)(ha:Jd (PAd X [a] t))(h1:gf a=false:=by rfl):Jd (PId X (.Tuple elts x1 tpos) (.Call (.Name "enumerate" p) [a] [] pos) (acz t)):=⟨D.pU hg hm ha.h h1⟩
end
end Q
end D
namespace D
open L2
structure aim(K:PySem.W.Frag)(x qual:Str)(st:Stmt)(f:Addr)(fd:FuncData):Prop where
 ex:∃ (oc:Value) (od:Option Addr) (dV kV doc pm:Value) (an:Option Addr) (cdv ct:Value) (osl:Array (Option Value)),
  fd=PySem.W.fnOf x qual (bx st) (bj st) (aq st) dV kV doc pm an cdv ct/\K.lookup f=some ⟨oc,od,.func fd,osl⟩/\PySem.W.codeIn K cdv qual=true
 kp:PySem.W.keepIn K (.ref f)=true
section
variable {P:Program}{w:World}{K:PySem.W.Frag}{mg:Str->Option Value}{base h:Heap}
theorem acq{x qual:Str}{st:Stmt}{f:Addr}{fd:FuncData}{N ps:List Str}{k:Nat}{sp:SpD}{t:TSd}(F:aim K x qual st f fd)(S:aL N ps (aq st))(len:∀ ws M Q,sp ws M Q->ws.length=ps.length)
  (hbody:∀ (cdv:Value) (A:Around) (outer:List Env) (s:Shared) (H:Hp) (E:XK),c4 k (A.deeper (envOfC qual (aq st) s.heap.objs.size f cdv)) ->
   o7 (aaK CX0 P w K mg base N qual (aq st) f cdv A outer s H E).nox (bj st) t)
  (read:∀ ws M Q,sp ws M Q->t {nx:=λ _ M'=>Q (.d .none) M',rt:=Q} (aX N ws) M):cX P w K mg base CX0 (k+1) f fd ps (dG K sp):=by
 obtain⟨oc,od,dV,kV,doc,pm,an,cdv,ct,osl,rfl,lk,hcd⟩:=F.ex;refine ac2 lk hcd S (λ vs H Q E h=>?_) (λ A outer s H vs Q E hr h=>?_)
 ·obtain⟨ws,M,Qd,r,_,q,_⟩:=h;rw[<- r.length];exact len _ _ _ q
 ·obtain⟨ws,M,Qd,r,m,q,kk⟩:=h;refine⟨_,L2.PSs.nox (hbody cdv A outer s H E hr),aX N ws,M,_,kF r m,read ws M Qd q,λ σ' H' τ' M' kp A' q'=>?_,λ v H' w' M' kp r' m' q'=>?_,λ σ' H' τ' M' kp A' q'=>q'.elim,λ σ' H' τ' M' kp A' q'=>q'.elim⟩
  ·exact kk _ H' _ M' kp (by simp[aD,aA]) A'.mem q'
  ·exact kk v H' w' M' kp r' m' q'
end
section
variable {X:Cx}{pos p:Pos}{k:Nat}{f:Addr}{fd:FuncData}{ps:List Str}{sp:SpD}{x:Str}{e:Expr}{es:List Expr}{t:TAd}{d:Int}
end
section
variable {X:Cx}{pins:List (Addr×Obj)}{σ:St}{H:Hp}{s:Shared}{h':Heap}
end
section
variable {X:Cx}{a b:Expr}{p pos:Pos}{ta:TA}
end
section
variable {X:Cx}{K:PySem.W.Frag}{a b:Expr}{p pos:Pos}{t:TAd}
end
section
variable {X:Cx}{pos:Pos}
def uX(c:TTd)(tb:TSd)(D:Ed)(τ:DS)(M:MH):Prop:=∃ P:Nat->DS->MH->Prop,(∃ m,P m τ M)/\∀ m τ M,P m τ M ->
 c τ M λ b M1=>if b=true then tb {D with nx:=λ τ' M'=>∃ m',m'<m/\P m' τ' M',ct:=λ τ' M'=>∃ m',m'<m/\P m' τ' M',bk:=D.nx} τ M1 else D.nx τ M1
theorem i8{c:Expr}{body:List Stmt}{tc:TTd}{tb:TSd}(hp:PassesOwn (model X.prog X.w) X.A X.env X.xe)(hc:PTd X c tc)(hb:o7 X body tb):PSd X (.While c body [] pos) (uX tc tb):=
 qb (aaL hp hc hb) λ D σ H hq97=>by
  obtain⟨τ,M,Dd,A,⟨P,⟨m0,p0⟩,step⟩,k1,k2,k3,k4⟩:=hq97;refine⟨λ m σ' H'=>Kp H H'/\∃ τ' M',Abs X.K H' σ' τ' M'/\P m τ' M',⟨m0,Kp.refl _,τ,M,A,p0⟩,?_⟩;rintro m σ1 H1 ⟨kp,τ1,M1,A1,p1⟩;refine⟨τ1,M1,_,A1,step m τ1 M1 p1,λ b H2 M2 kp2 m2 q=>?_⟩;have kq:=kp.trans kp2;cases b with
  | false =>
   rw[if_neg Bool.false_ne_true] at q;exact hU (k1 _ H2 _ M2 kq (A1.go kp2 m2) q)
  | true =>
   rw[if_pos rfl] at q;refine mF ⟨λ σ' H'=>Kp H2 H'/\∃ m',m'<m/\∃ τ' M',Abs X.K H' σ' τ' M'/\P m' τ' M',λ σ' H' ⟨kp3,m',hm,τ',M',A',p'⟩=>⟨m',hm,kq.trans kp3,τ',M',A',p'⟩,?_⟩;exact⟨τ1,M2,_,A1.go kp2 m2,q,λ σ3 H3 τ3 M3 kp3 A3 ⟨m',hm,p'⟩=>⟨kp3,m',hm,τ3,M3,A3,p'⟩,λ v H3 w M3 kp3=>k2 v H3 w M3 (kq.trans kp3),λ σ3 H3 τ3 M3 kp3=>k1 σ3 H3 τ3 M3 (kq.trans kp3),λ σ3 H3 τ3 M3 kp3 A3 ⟨m',hm,p'⟩=>⟨kp3,m',hm,τ3,M3,A3,p'⟩⟩
end
end D
namespace Q
open L2 D
section
variable {X:Cx}{a b:Expr}{p pos:Pos}
theorem i8{c:Expr}{body:List Stmt}{tc:TTd}{tb:TSd}(hp:PassesOwn (model X.prog X.w) X.A X.env X.xe)(hc:Jd (PTd X c tc))(hb:Jd (o7 X body tb)):Jd (PSd X (.While c body [] pos) (uX tc tb)):=⟨D.i8 hp hc.h hb.h⟩
end
end Q
namespace Stc
open L2 D Rc
abbrev su:List Str:=["thing"]
def qC:TSd:=
  aQ (dIf (dOr (wD (aU (dCB kP (ah (ai 0) (ah (dC (.t "str")) (aM)))))) (wD (aU (jE aah aah (dC (.d (.int 1))) (dCB ow (ah (ai 0) (aM))) (dC (.d (.int 8)))))))
   (eh (dC (.d (.bool false))))
   (cG)) <|
  eh (dCB adx (ah (dLC (bX (ai 0)) (gN 0) (n8) (jE aah aah (dC (.d (.str "a"))) (ai 0) (dC (.d (.str "z")))) 1 []) (aM)))
abbrev nN:List Str:=["thing"]
def nj:TSd:=
  eh (si (dCB kP (ah (ai 0) (ah (dC (.t "int")) (aM)))) (adI (dCB kP (ah (ai 0) (ah (dC (.t "bool")) (aM))))))
abbrev lA:List Str:=["thing", "low", "high"]
def kG(cj:SpD):TSd:=
  eh (si (bb cj (ah (ai 0) (aM))) (jE aah aah (ai 1) (ai 0) (ai 2)))
def Ext(M M':MH):Prop:=∀ q o,M q=some o->M' q=some o
theorem Ext.refl(M:MH):Ext M M:=λ _ _ h=>h
theorem Ext.trans{A B C:MH}(h:Ext A B)(k:Ext B C):Ext A C:=λ q o e=>k q o (h q o e)
theorem Ext.new{M:MH}{p:Addr}{o:MO}(h:M p=none):Ext M (aE M p o):=λ q u e=>cF e h
theorem Ext.del{M M':MH}{p:Addr}(h:Ext M M')(hp:M p=none):Ext M (ik M' p):=λ q u e=>by have hq:q≠p:=ay e hp;simp only[ik,if_neg hq];exact h q u e
theorem Ext.none{M M':MH}{p:Addr}(h:Ext M M')(hp:M' p=none):M p=none:=by
 cases e:M p with
 | none=>rfl
 | some o=>rw[h p o e] at hp;cases hp
theorem Ext.bag{M M':MH}{p:Addr}(h:Ext M M')(hb:Bag M p):Bag M' p:=by obtain⟨a,b,c,ns,e,z⟩:=hb;exact⟨a,b,c,ns,h _ _ e,z⟩
theorem fN{α:Type}{gt:TGd}{te:TD}{Q:List PyData->DS->MH->Prop}{τ0:DS}{M:MH}(L:List α)(g:α->W)(f:α->PyData)(S:DS->Prop)(hL:L.length<=1000)(h0:S τ0)
  (step:∀ a∈L,∀ τ,S τ->∀ R:PyData->DS->MH->Prop,(∀ τ2,S τ2->R (f a) τ2 M)->gt (g a) τ M λ τ2 M2=>te τ2 M2 λ y M4=>∃ d,y=.d d/\R d τ2 M4)
  (q:∀ τ,Q (L.map f) τ M) :
  ∃ P:Nat->List PyData->DS->MH->Prop,P 0 [] τ0 M /\
   (∀ i w acc τ M,(L.map g)[i]? =some w->P i acc τ M->acc.length<sizeLine/\gt w τ M λ τ2 M2=>n8 τ2 M2 λ b M3=>if b=true then te τ2 M3 λ y M4=>∃ d,y=.d d/\P (i+1) (acc++[d]) τ2 M4 else P (i+1) acc τ2 M3) /\
   ∀ acc τ M,P (L.map g).length acc τ M->Q acc τ M:=by
 refine⟨λ i acc τ M'=>M'=M/\acc=(L.take i).map f/\S τ,⟨rfl,rfl,h0⟩,?_,?_⟩
 ·rintro i w acc τ M' hw ⟨rfl,rfl,hs⟩;rw[List.getElem?_map] at hw;cases e:L[i]? with
  | none=>rw[e] at hw;cases hw
  | some a =>
   rw[e] at hw;cases hw;have hi:=(List.getElem?_eq_some_iff.mp e).1;refine⟨by rw[List.length_map,List.length_take];have:=s16;omega,?_⟩;refine step a (List.mem_of_getElem? e) τ hs (λ d τ2 M4=>M4=M'/\(L.take i).map f++[d]=(L.take (i+1)).map f/\S τ2) λ τ2 h2=>⟨rfl,?_,h2⟩;rw[List.take_succ,e];simp
 ·rintro acc τ M' ⟨rfl,rfl,hs⟩;rw[List.length_map,List.take_length];exact q τ
abbrev Dm:=List (Str×Int)
def gI(r:Str×Int):PyData:=.int r.2
def val(D:Dm)(k:Str):Int:=((fd Prod.fst D k).map (·.2)).getD 0
def more(D:Dm)(k:Str)(n:Int):Dm:=pt Prod.fst D (k,val D k+n)
def vals(D:Dm):List Int:=D.map λ r=>r.2
def dsc(ns:List Int):List Int:=ns.mergeSort λ a b=>decide (a >= b)
def room(rs:List Int)(i:Int):Int:=(rs.map λ m=>if i<m then i else m).sum
def ajp(rs:List Int)(ns:List Int):Bool:=(List.range ns.length).all λ i=>decide ((ns.take (i+1)).sum<=room rs ((i:Int)+1))
def aiJ(rs:List Int)(D:Dm):Bool:=ajp rs (dsc (vals D))
def OkR(rs:List Int):Prop:=rs.length<=8/\∀ m∈rs,0<=m/\m<=6
def gr(rs:List Int)(D:Dm)(k:Str):Nat->Int
 | 0=>0
 | n+1=>if aiJ rs (more D k ((n:Int)+1))=true then (n:Int)+1 else gr rs D k n
theorem sealed{M:MH}{l:Addr}{o:MO}(hl:M l=none):Ext M (ik (aE M l o) l):=(Ext.new hl).del hl
abbrev Bs:=List (Str×Int)
abbrev As:=List (Str×Str×Int)
def rooms(B:Bs):List Int:=B.map (·.2)
theorem c5{α β:Type}{L:List α}{f:α->β}{i:Nat}{w:β}(h:(L.map f)[i]? =some w):∃ a,L[i]? =some a/\w=f a:=by
 rw[List.getElem?_map] at h;cases e:L[i]? with
 | none=>rw[e] at h;cases h
 | some a=>rw[e] at h;cases h;exact⟨a,rfl,rfl⟩
theorem my{lo:Int}{n i:Nat}{w:W}(h:(ef lo n)[i]? =some w):i<n/\w=.d (.int (lo+(i:Int))):=by
 unfold ef at h;obtain⟨j,hj,rfl⟩:=c5 h;obtain⟨h1,h2⟩:=List.getElem?_eq_some_iff.mp hj;simp at h1 h2;subst h2;exact⟨h1,rfl⟩
theorem pJ{α:Type}{xs:List α}{i:Nat}(hi:i<=xs.length):D.cutD xs none (some (i:Int))=xs.take i:=by
 unfold D.cutD;have e:HT.sIx xs.length 0 none=0:=rfl;have e2:HT.sIx xs.length xs.length (some (i:Int))=i:=by
  unfold HT.sIx;simp;rw[if_neg (by omega)];omega
 rw[e,e2];simp
def stp(rs:List Int)(s:Dm×As)(r:Str×Str×Int):Dm×As:=
 (more s.1 r.2.1 (gr rs s.1 r.2.1 r.2.2.toNat),s.2++[(r.1,r.2.1,gr rs s.1 r.2.1 r.2.2.toNat)])
def run(rs:List Int)(A:As):Dm×As:=A.foldl (stp rs) ([],[])
def OkC(A:As):Prop:=A.length<=8/\∀ r∈A,0<=r.2.2/\r.2.2<=6
def due(rs:List Int)(A:As):Bs:=(run rs A).2.map λ r=>(r.1,r.2.2)
def iw(c:Nat):Bool:=decide (97<=c)&&decide (c<=122)
def wd(z:Str):Bool:=decide (1<=z.length)&&decide (z.length<=8)&&z.cps.toList.all iw
theorem ae1{z:Str}(h:wd z=true):1<=z.length/\z.length<=8:=by simp[wd] at h;exact h.1
theorem abJ{z:Str}(h:wd z=true):∀ c∈z.cps.toList,iw c=true:=by simp only[wd,Bool.and_eq_true,List.all_eq_true] at h;exact h.2
theorem uF{z:Str}(h:wd z=true):aft z=true:=by have:=abJ h;unfold aft;rw[<- Array.all_toList,List.all_eq_true];intro c hc;have:=this c hc;simp[iw] at this;simp;omega
theorem tG{c:Bool}{A B:Prop}(e:c=true)(h:A):if c=true then A else B:=by rw[e];exact mF h
theorem xg{c:Bool}{A B:Prop}(e:c=false)(h:B):if c=true then A else B:=by rw[e];exact hU h
theorem lt1(a b:Nat):decide ([a] < [b])=decide (a<b):=by
 by_cases h:a<b
 ·rw[decide_eq_true h];exact decide_eq_true (List.cons_lt_cons_iff.mpr (.inl h))
 ·rw[decide_eq_false h];refine decide_eq_false λ z=>?_;rcases List.cons_lt_cons_iff.mp z with q | ⟨_,q⟩
  ·exact h q
  ·exact absurd q (by simp)
theorem ah4(i:Int):mM (.int i) "int" = true:=by simp[mM,tyD]
theorem afI(i:Int):mM (.int i) "bool" = false:=by simp[mM,tyD]
theorem ag5(z:Str):mM (.str z) "str" = true:=by simp[mM,tyD]
theorem ag6(ds:List PyData):mM (.list ds) "list" = true:=by simp[mM,tyD]
theorem ahx(ds:List PyData):mM (.tuple ds) "tuple" = true:=by simp[mM,tyD]
def cj:SpD:=λ ws M Q=>∃ i:Int,ws=[.d (.int i)]/\Q (.d (.bool true)) M
theorem qI:∀ ws M Q,cj ws M Q->ws.length=1:=by rintro ws M Q ⟨d,rfl,_⟩;rfl
theorem p6:∀ ws M Q,cj ws M Q->nj {nx:=λ _ M'=>Q (.d .none) M',rt:=Q} (aX nN ws) M:=by
 rintro ws M Q ⟨i,rfl,k⟩;refine⟨_,rfl,_,_,_,rfl,.d,.int,_,rfl,?_⟩;rw[ah4];refine mF ⟨_,rfl,_,_,_,rfl,.d,.bool,_,rfl,?_⟩;rw[afI];exact k
def bU:SpD:=λ ws M Q=>∃ i lo hi:Int,ws=[.d (.int i),.d (.int lo),.d (.int hi)]/\lo<=i/\i<=hi/\Q (.d (.bool true)) M
theorem ou:∀ ws M Q,bU ws M Q->ws.length=3:=by rintro ws M Q ⟨i,lo,hi,rfl,_⟩;rfl
theorem mR:∀ ws M Q,bU ws M Q->kG cj {nx:=λ _ M'=>Q (.d .none) M',rt:=Q} (aX lA ws) M:=by
 rintro ws M Q ⟨i,lo,hi,rfl,h1,h2,k⟩;refine⟨_,rfl,i,rfl,_,rfl,mF ⟨_,rfl,_,rfl,.inl ⟨_,_,rfl,rfl,_,rfl,?_⟩⟩⟩;rw[decide_eq_true h1];refine mF ⟨_,rfl,.inl ⟨_,_,rfl,rfl,?_⟩⟩;rw[show((λ i j:Int=>PyData.bool (decide (i<=j))) i hi)=.bool true from congrArg PyData.bool (decide_eq_true h2)];exact k
def bL:SpD:=λ ws M Q=>∃ z:Str,ws=[.d (.str z)]/\wd z=true/\Q (.d (.bool true)) M
theorem tS:∀ ws M Q,bL ws M Q->ws.length=1:=by rintro ws M Q ⟨d,rfl,_⟩;rfl
theorem sy:∀ ws M Q,bL ws M Q->qC {nx:=λ _ M'=>Q (.d .none) M',rt:=Q} (aX su ws) M:=by
 rintro ws M Q ⟨z,rfl,hz,k⟩;have hl:=ae1 hz;have hfit:aaa (.d (.str z))=true:=decide_eq_true (few (by omega));refine⟨_,rfl,_,_,_,rfl,.d,.str,_,rfl,?_⟩;rw[ag5];refine hU ⟨_,rfl,_,_,rfl,rfl,hfit,.inl ⟨_,_,rfl,rfl,_,rfl,?_⟩⟩;rw[decide_eq_true (show(1:Int)<=(z.length:Nat) by omega)];refine mF (.inl ⟨_,_,rfl,rfl,_,rfl,?_⟩);rw[decide_eq_true (show((z.length:Nat):Int)<=8 by omega)];refine hU ⟨_,rfl,_,rfl,?_⟩;dsimp only;have ea:("a" : Str).cps.toList=[97]:=by decide +kernel
 have ez:("z" : Str).cps.toList=[122]:=by decide +kernel
 refine fN z.cps.toList (λ c=>W.d (.str ⟨#[c]⟩)) (λ c=>.bool true) (λ τ=>∃ x,τ=[x]) (by rw[str_len];omega) ⟨_,rfl⟩ (λ c hc τ hτ R h=>?_) (λ τ=>?_)
 ·obtain⟨x,rfl⟩:=hτ;have hs:=abJ hz c hc;simp[iw] at hs;have q1:(!decide ((⟨#[c]⟩:Str).cps.toList<("a" : Str).cps.toList))=true:=by rw[ea,show(⟨#[c]⟩:Str).cps.toList=[c] from rfl,lt1];simp;omega
  have q2:(!decide (("z" : Str).cps.toList<(⟨#[c]⟩:Str).cps.toList))=true:=by rw[ez,show(⟨#[c]⟩:Str).cps.toList=[c] from rfl,lt1];simp;omega
  refine⟨_,rfl,.inr ⟨_,_,rfl,rfl,_,rfl,?_⟩⟩;refine tG q1 (.inr ⟨_,_,rfl,rfl,?_⟩);refine⟨_,rfl,?_⟩;have:=h [some (.d (.str ⟨#[c]⟩))] ⟨_,rfl⟩;rw[<- q2] at this;exact this
 ·refine⟨z.cps.toList.map λ _=>true,by rw[List.map_map];rfl,?_⟩;rw[show(z.cps.toList.map λ _=>true).all id=true from by rw[List.all_eq_true];intro b hb;obtain⟨_,_,rfl⟩:=List.mem_map.mp hb;rfl];exact k
def ahH(r:Str×Int):Prop:=wd r.1=true/\0<=r.2/\r.2<=6
theorem aja:PyData.eqv (.int ((2:Nat):Int)) (.int 2)=true:=by decide +kernel
def lsS(a b:Str):Bool:=decide (a.cps.toList<b.cps.toList)
structure OkB(B:Bs):Prop where
 len:B.length<=8
 row:∀ r∈B,ahH r
 up:∀ i r s,B[i]? =some r->B[i+1]? =some s->lsS r.1 s.1=true
theorem aa8{α:Type}{L:List α}{f:α->PyData}{i:Nat}{w:W}(h:(vH (L.map f))[i]? =some w):∃ r,L[i]? =some r/\w=.d (.tuple [.int (i:Nat),f r]):=by
 unfold vH at h;rw[List.getElem?_map] at h;have hi:i<L.length:=by
  by_cases q:i<L.length
  ·exact q
  ·rw[List.getElem?_eq_none (by simpa using q)] at h;cases h
 rw[List.getElem?_range (by simpa using hi)] at h;cases h;refine⟨L[i],List.getElem?_eq_getElem hi,?_⟩;simp[List.getD,List.getElem?_map,List.getElem?_eq_getElem hi]
theorem afO{α:Type}{M:MH}{L:List α}{f:α->PyData}{i:Nat}{r:α}{j:Int}(hj:j=(i:Int))(h:L[i]? =some r):ixW M (.d (.list (L.map f))) j=some (.d (f r)):=by subst hj;have hi:=(List.getElem?_eq_some_iff.mp h).1;simp only[ixW,atI];rw[tM (by omega) (by rw[List.length_map];omega)];simp[h]
structure aiO(r:Str×Str×Int):Prop where
 w:wd r.1=true
 k:wd r.2.1=true
 c0:0<=r.2.2
 c6:r.2.2<=6
structure OkA(A:As):Prop where
 len:A.length<=8
 row:∀ r∈A,aiO r
 nd:(A.map λ r=>r.1).Nodup
theorem lI{L:List Str}(h:L.Nodup){i:Nat}{z:Str}(e:L[i]? =some z):z ∉ L.take i:=by intro hm;obtain⟨j,hj,ej⟩:=List.getElem_of_mem hm;rw[List.length_take] at hj;rw[List.getElem_take] at ej;obtain⟨hi,ei⟩:=List.getElem?_eq_some_iff.mp e;have:=(List.getElem_inj (h₀:=by omega) (h₁:=hi) h).mp (ej.trans ei.symm);omega
def agg(k:Nat):Str:=Txt.mul ⟨#[("abcdefgh" : Str).cps.toList.getD k 0]⟩ (1+(0+(k:Int)) % 2)
theorem zY{α:Type}{xs:List α}{t:Int}(h:0<=t):D.cutD xs (some t) none=xs.drop t.toNat:=by
 unfold D.cutD;have e:HT.sIx xs.length xs.length none=xs.length:=rfl;have e2:HT.sIx xs.length 0 (some t)=min t.toNat xs.length:=by
  unfold HT.sIx;dsimp only;rw[if_neg (by omega)]
 rw[e,e2]
 by_cases q:t.toNat<=xs.length
 ·rw[Nat.min_eq_left q,<- List.length_drop,List.take_length]
 ·rw[Nat.min_eq_right (by omega),List.drop_of_length_le (Nat.le_refl _),List.drop_of_length_le (by omega)];simp
end Stc
namespace HT
open PySem PyProof.Rows
section
open PySem.SeqAt
open PySem.AutoSeq1 (wpAny_loadPart')
open PySem.MeetsSeq PySem.MeetsSeq2 PySem.MeetsSeq3
end
section
variable {prog:Program}{w:World}{A:Around}{E:Value->Shared->Prop}{s:Shared}
end
end HT
namespace D
open L2
section
variable {X:Cx}{K:PySem.W.Frag}
end
end D
namespace Stc
open L2 D Rc
def exc(t:Int)(xs:List Int):Int:=(xs.map λ x=>if t<x then x-t else 0).sum
def Dom(xs ys:List Int):Prop:=∀ t,0<=t->exc t xs<=exc t ys
end Stc
namespace D
open L2
section
variable {X:Cx}{o:Expr}{to:TE}{p pos kpos kp:Pos}{j:Nat}
end
section
variable {X:Cx}{o:Expr}{td:TD}{p pos kpos kp:Pos}{j:Nat}
end
end D
namespace Q
open L2 D
section
variable {X:Cx}{o:Expr}{td:TD}{p pos kpos kp:Pos}{j:Nat}
end
end Q
namespace L2
section
variable {prog:Program}{w:World}{A:Around}{E:Value->Shared->Prop}{R:Result->Shared->Prop}{s:Shared}
theorem oP{kx vx target iter:Expr}{ifs:List Expr}{scope:Scope}{pos:Pos}{it:Value}{D:Addr}{env:Env}(I:Nat->Shared->Prop)
  (turn:∀ n s,I n s->wpAny (model prog w) A (pyNext it) (λ r s₁=>match r with
   | none=>R (.ok .next) s₁
   | some v=>wpAny (model prog w) A (letOwnedTupleGo target it v) (λ _ s₁'=>wpAny (model prog w) A (assign target env v) (λ _ s₂ =>
     wpAny (model prog w) A (sQ ifs env) (λ ok s₃ =>
      if ok=true then wpAny (model prog w) A (eval kx env) (λ kv s₄=>wpAny (model prog w) A (eval vx env) (λ vv s₅ =>
       wpAny (model prog w) A (dictSet D kv vv) (λ _ s₆=>∃ m,m<n/\I m s₆) (λ _ _=>False) s₅) (λ _ _=>False) s₄) (λ _ _=>False) s₃
      else ∃ m,m<n/\I m s₃) (λ _ _=>False) s₂) (λ _ _=>False) s₁') (λ _ _=>False) s₁) (λ _ _=>False) s)
  (n:Nat)(h:I n s) :
  codeAny (model prog w) A (.compLoop (.DictComp kx vx [⟨target,iter,ifs,0⟩] scope pos) 0 it (.ref D) env) R s:=by
 refine codeAny_loop rfl I (λ n s hI=>?_) n h;show wpAny _ A ((compTurn (.DictComp kx vx [⟨target,iter,ifs,0⟩] scope pos) 0 it (.ref D) env).onRaise (λ x=>do noteFrame x env;theTreesLotGoes x)) _ _ s;refine wpAny_noted ?_;rw[compTurn_dict];refine wpAny_bind (wpAny_standAt (wpAny_bind (wpAny_mono (turn n s hI) (λ r s₁ h₁=>?_) λ _ _ h'=>h'.elim)));cases r with
 | none=>exact wpAny_pure h₁
 | some v =>
  refine wpAny_bind (wpAny_mono h₁ (λ _ s₁' h₁'=>?_) λ _ _ h'=>h'.elim);refine wpAny_bind (wpAny_mono h₁' (λ _ s₂ h₂=>wpAny_bind (wpAny_mono h₂ (λ ok s₃ h₃=>?_) λ _ _ h'=>h'.elim)) λ _ _ h'=>h'.elim);cases ok with
  | false=>exact wpAny_pure ⟨rfl,h₃⟩
  | true =>
   refine wpAny_bind ?_;refine wpAny_bind (wpAny_mono h₃ (λ kv s₄ h₄=>wpAny_bind (wpAny_holding (wpAny_mono h₄ (λ vv s₅ h₅=>wpAny_bind (wpAny_standAt (wpAny_holding (wpAny_mono h₅ (λ _ s₆ h₆=>wpAny_pure ⟨rfl,h₆⟩) λ _ _ h'=>h'.elim)))) λ _ _ h'=>h'.elim))) λ _ _ h'=>h'.elim)
end
section
variable {X:Cx}{pins:List (Addr×Obj)}{σ:St}{H:Hp}{s:Shared}{a:Addr}{u r:Value}{v:V}{A:Around}{E:Value->Shared->Prop}
theorem zH{kvs:List (Key×V)}{k:Key}{Q:Unit->Shared->Prop}(I:Inv X pins σ H s)(e:H a=some (.dK kvs))(l:kvs.length<sizeLine)(ry:RelV (kV k) u)(rv:RelV v r)(h:∀ s',Inv X pins σ (upd H a (.dK (putK kvs k v))) s'->Q () s') :
  wpAny (model X.prog X.w) A (dictSet a u r) Q E s:=by
 obtain⟨z,hd,vs,rel,dd⟩:=aak I.hok e;have hz:vs.length<=sizeLine:=by rw[<- rel.length];exact z
 have hl:(putK kvs k v).length<=sizeLine:=by have:=fU kvs k v;omega
 refine wpAny_dictSet_pairs (hsz:=hz) (sP ry) dd λ h' dd' hs=>h _ ?_;have he:∃ q,h'.get? a=some q:=let ⟨q,_,_,hq,_⟩:=dd'; ⟨q,hq⟩;exact kC I (by rw[e];exact True.intro) hs he (va hl hd (rel.put k rv) dd')
end
abbrev DcW:=Nat->Nat->St->Hp->Prop
def abD(J:It)(g:TG)(tt:TT)(tk tv:TE)(D:Addr)(W:DcW)(Fin:Hp->Prop):Prop:=∀ i m τ H,W i m τ H ->
 (J.stop i H/\Fin H)\/(J.go i H/\∀ x H',J.yld i H x H'->g x τ H' λ τ2 H2=>tt τ2 H2 λ b H3 =>
  if b=true then tk τ2 H3 λ y H4=>tv τ2 H4 λ z H5=>∃ kvs k,H5 D=some (.dK kvs)/\y=kV k/\kvs.length<sizeLine/\∃ m',m'<m/\W (i+1) m' τ2 (upd H5 D (.dK (putK kvs k z))) else ∃ m',m'<m/\W (i+1) m' τ2 H3)
section
variable {X:Cx}{pins:List (Addr×Obj)}{σ:St}{H:Hp}{s:Shared}{sc:Scope}{own:List Str}{fr:List Nat}{cl:List (Str×Addr)}{fp:List Addr}{it D:Addr}{J:It}{tn:Nat->Heap->Prop}{g:TG}{tt:TT}{tk tv:TE}{W:DcW}{Fin:Hp->Prop}
 {kx vx tg iter:Expr}{ifs:List Expr}{pos:Pos}{E:Value->Shared->Prop}
theorem xS{RR:Addr->Result->Shared->Prop}(hc:X.calm=true)(L:jN X sc own fr)(hcl1:∀ n c,cl.lookup n=some c->X.env.cells.lookup n=some c)(hcl2:∀ n,(n,NameKind.free)∈sc.names->∃ c,cl.lookup n=some c)
  (hg:∀ C s H ex pl,PG (blk X sc (lcN X own fr) cl C s H ex pl) tg g)(ht:∀ C s H ex pl,PTs (blk X sc (lcN X own fr) cl C s H ex pl) ifs tt)(hk:∀ C s H ex pl,PE (blk X sc (lcN X own fr) cl C s H ex pl) kx tk)(hv:∀ C s H ex pl,PE (blk X sc (lcN X own fr) cl C s H ex pl) vx tv)
  (I:Inv X pins σ H s)(T:Turn X.prog X.w X.K tg J fp it tn)(st:tn 0 s.heap)(hf:∀ b∈fp,mz X pins H b)(w0:∃ m,W 0 m (lcS own.length fr σ) H)(turn:abD J g tt tk tv D W Fin)
  (hRR:∀ (C:Addr) (s':Shared) (H':Hp) (m:Str->Option Value),Inv X pins σ H' s'->H' C=none->s.heap.objs.size<=C->s'.heap.Ns C m->Fin H'->RR C (.ok .next) s') :
  wpAny (model X.prog X.w) X.A (newFunctionEnv sc X.env.globals cl [] X.env.qual none .none (some X.env)) (λ cenv s₄ =>
   codeAny (model X.prog X.w) X.A (.compStart (.DictComp kx vx [⟨tg,iter,ifs,0⟩] sc pos) 0 (.ref it) (.ref D) {cenv with scope:=relabel sc X.env}) (RR cenv.locals) s₄) E s:=by
 refine wpAny_newFunctionEnv L.cell (by intro y hy;simp at hy) (λ h₁ hns₁ hsb₁=>?_) L.kind
 try dsimp only at hns₁ hsb₁ ⊢
 have below:∀ b,b<s.heap.objs.size->b≠s.heap.objs.size:=λ b hb=>Nat.ne_of_lt hb;have old:∀ b o,s.heap.get? b=some o->h₁.get? b=some o:=λ b o e=>hsb₁.extBut b o (below b (Heap.lt_size e)) (Heap.get?_push_of_some _ e);have hfb:∀ b∈fp,b<s.heap.objs.size:=λ b hb=>by obtain⟨o,e,_⟩:=T.obj 0 _ st b hb;exact Heap.lt_size e
 have I1:Inv (blk X sc (lcN X own fr) cl s.heap.objs.size s H fp pins) [] (lcS own.length fr σ) H {s with heap:=h₁,toks:=s.toks+([]:List (Str×Value)).length}:=zc L I hf hfb (Nat.le_refl _) hcl1 hcl2 hns₁ old;have st1:tn 0 h₁:=T.keep 0 _ _ st λ b _ o e=>old b o e;generalize hY:blk X sc (lcN X own fr) cl s.heap.objs.size s H fp pins=Y at I1;have hYp:Y.prog=X.prog:=by rw[<- hY];rfl
 have hYw:Y.w=X.w:=by rw[<- hY];rfl
 have hYK:Y.K=X.K:=by rw[<- hY];rfl
 have hYA:Y.A=X.A:=by rw[<- hY];rfl
 have hYc:Y.calm=true:=by rw[<- hY];exact hc
 have hYe:Y.env=compEnvC sc cl s.heap.objs.size X.env:=by rw[<- hY];rfl
 have hYx:Y.xe=λ _ _=>False:=by rw[<- hY];rfl
 have hYpn:Y.pn=X.pn++pins:=by rw[<- hY];rfl
 have hYs:Y.s₀=s:=by rw[<- hY];rfl
 have hYH:Y.H₀=H:=by rw[<- hY];rfl
 have hYex:Y.ex=fp:=by rw[<- hY];rfl
 have hYfs:Y.fs=frs X.stack:=by rw[<- hY];rfl
 have gY:=hg s.heap.objs.size s H fp pins;have tY:=ht s.heap.objs.size s H fp pins;have kY:=hk s.heap.objs.size s H fp pins;have vY:=hv s.heap.objs.size s H fp pins;rw[hY] at gY tY kY vY;have fpY:∀ {H':Hp},(∀ b∈fp,H' b=none)->∀ b∈fp,mz Y [] H' b:=λ {H'} hn b hb=>by
  obtain⟨_,f1,f2,f3,f4,f5⟩:=hf b hb;refine⟨hn b hb,by rw[hYe];exact below b (hfb b hb),?_,.inl (by rw[hYex];exact hb),λ x c e=>?_,λ p q=>?_⟩
  ·rw[hYfs];intro z;rcases List.mem_cons.mp (I.jV _ z) with e | e
   ·exact f1 e
   ·exact f2 e
  ·rw[hYe] at e;exact f4 x c (hcl1 _ _ e)
  ·rw[List.append_nil,hYpn] at q;exact f5 p q
 have loop:∀ s₃:Shared,s₃={s with heap:=h₁,toks:=s.toks+([]:List (Str×Value)).length} ->
   codeAny (model X.prog X.w) X.A (.compLoop (.DictComp kx vx [⟨tg,iter,ifs,0⟩] sc pos) 0 (.ref it) (.ref D) (compEnvC sc cl s.heap.objs.size X.env)) (RR s.heap.objs.size) s₃:=by
  rintro s₃ rfl;obtain⟨m0,w0⟩:=w0;refine oP (λ n s'=>∃ i τ H',Inv Y [] τ H' s'/\tn i s'.heap/\(∀ b∈fp,H' b=none)/\W i n τ H') ?_ m0 ⟨0,_,H,I1,st1,λ b hb=>(hf b hb).1,w0⟩;rintro n s' ⟨i,τ,H',I',st',hn',w'⟩;rcases turn i n τ H' w' with ⟨stop,fin⟩ | ⟨go,step⟩
  ·have q:=T.done Y hYp hYw hYK hYc i _ s' τ H' (λ _ _=>False) I' (fpY hn') st' stop;rw[hYA] at q;refine thn q λ r s4 hq98=>?_;obtain⟨hr,I4⟩:=hq98;subst hr;have un:Un (frs X.stack) fp H H' s.heap s4.heap:=by have z:=I4.base;rw[hYfs,hYex,hYH,hYs] at z;exact z
   have os4:s4.os=s.os:=by have z:=I4.os;rw[hYs] at z;exact z
   have hok4:HOk X.prog X.w H' s4.heap:=by have z:=I4.hok;rw[hYp,hYw] at z;exact z
   have hch:∀ b∈fp,(b∈X.ex\/X.s₀.heap.objs.size<=b)/\b≠X.env.locals/\(∀ x c,X.env.cells.lookup x=some c->c≠b)/\∀ p∈X.pn++pins,p.1≠b:=λ b hb=>by obtain⟨_,f1,f2,f3,f4,f5⟩:=hf b hb;exact⟨f3,f1,f4,f5⟩
   have IX:Inv X pins σ H' s4:=I.agI os4 un hok4 I4.bare hch;obtain⟨mC,hmC,_⟩:=I4.loc;have hCf:=I4.free;rw[hYe] at hmC hCf;exact hRR _ s4 H' mC IX hCf (Nat.le_refl _) hmC fin
  ·have q:=T.item Y hYp hYw hYK hYc i _ s' τ H' (λ _ _=>False) I' (fpY hn') st' go;rw[hYA] at q;refine thn q λ r s4 hq99=>?_;obtain⟨u,hr,h4⟩:=hq99;subst hr;refine thn h4 λ _ s5 hq100=>?_;obtain⟨x,H5,I5,r5,y5,st5,fr5⟩:=hq100;have I5':=I5.pinned (fpY fr5) (T.obj _ _ st5);have g5:=gY _ s5 τ H5 x u _ I5' r5 (step x H5 y5);rw[hYp,hYw,hYA,hYe,hYx] at g5;refine thn g5 λ _ s6 hq101=>?_;obtain⟨σ6,H6,I6,q6⟩:=hq101;have t6:=tY _ s6 σ6 H6 _ I6 q6;rw[hYp,hYw,hYA,hYe,hYx] at t6;refine thn t6 λ ok s7 hq102=>?_;obtain⟨H7,I7,q7⟩:=hq102;have keepI:∀ {σ8:St} {H8:Hp} {s8:Shared},Inv Y ([]++kI fp s5.heap) σ8 H8 s8->tn (i+1) s8.heap/\∀ b∈fp,H8 b=none:=
    λ {σ8 H8 s8} I8=>by refine⟨T.keep _ _ _ st5 λ b hb o e=>(I8.pin (b,o) (List.mem_append_right _ (List.mem_append_right _ (d0 hb e)))).1,λ b hb=>?_⟩;obtain⟨o,e,d⟩:=T.obj _ _ st5 b hb;exact(I8.pin (b,o) (List.mem_append_right _ (List.mem_append_right _ (d0 hb e)))).2.1
   cases ok with
   | false =>
    rw[if_neg Bool.false_ne_true] at q7 ⊢;obtain⟨m',hm',w7⟩:=q7;obtain⟨c7,d7⟩:=keepI I7;exact⟨m',hm',i+1,σ6,H7,I7.d5 (λ p hp=>(nomatch hp)),c7,d7,w7⟩
   | true =>
    rw[if_pos rfl] at q7 ⊢;have e7:=kY _ s7 σ6 H7 _ I7 q7;rw[hYp,hYw,hYA,hYe,hYx] at e7;refine thn e7 λ ku s8 hq103=>?_;obtain⟨y,H8,I8,r8,q8⟩:=hq103;have e8:=vY _ s8 σ6 H8 _ I8 q8;rw[hYp,hYw,hYA,hYe,hYx] at e8;refine thn e8 λ vu s9 hq104=>?_;obtain⟨z,H9,I9,r9,kvs,k,hD,ey,hlt,m',hm',w9⟩:=hq104;subst ey;have r8':RelV (kV k) ku:=r8;have q9:=zH (A:=X.A) (E:=λ _ _=>False) (Q:=λ _ s₆=>∃ m,m<n/\∃ i τ H',Inv Y [] τ H' s₆/\tn i s₆.heap/\(∀ b∈fp,H' b=none)/\W i m τ H') I9 hD hlt r8' r9 λ s10 I10=>by obtain⟨c8,d8⟩:=keepI I10;exact⟨m',hm',i+1,σ6,_,I10.d5 (λ p hp=>(nomatch hp)),c8,d8,w9⟩
    rw[hYp,hYw] at q9;exact q9
 exact codeAny_compStart_dict (loop _ rfl) (T.self _ 0 _ _ _ st1 (loop _ rfl))
def tDC(wi:TI)(g:TG)(tt:TT)(tk tv:TE)(k:Nat)(fr:List Nat):TE:=λ σ H Q=>wi σ H λ J H1=>∀ p,H1 p=none->∃ W:DcW,(∃ m,W 0 m (lcS k fr σ) (upd H1 p (.dK [])))/\abD J g tt tk tv p W λ H2=>Q (.ref p) H2
theorem ahm{wi:TI}(hc:X.calm=true)(L:jN X sc own fr)(hi:PI X tg iter wi)
  (hg:∀ cl C s H ex pl,PG (blk X sc (lcN X own fr) cl C s H ex pl) tg g)(ht:∀ cl C s H ex pl,PTs (blk X sc (lcN X own fr) cl C s H ex pl) ifs tt)(hk:∀ cl C s H ex pl,PE (blk X sc (lcN X own fr) cl C s H ex pl) kx tk)(hv:∀ cl C s H ex pl,PE (blk X sc (lcN X own fr) cl C s H ex pl) vx tv)
  (hs:∀ x,foldedSetIterable iter X.env x=pure x:=by intro _;rfl):PE X (.DictComp kx vx [⟨tg,iter,ifs,0⟩] sc pos) (tDC wi g tt tk tv own.length fr):=by
 intro pins s σ H Q I h;obtain⟨cl,hcl,c1,c2⟩:=hJ L I.ok;show wpAny _ _ (comprehension (.DictComp kx vx [⟨tg,iter,ifs,0⟩] sc pos) sc X.env _ newDict false (eval iter X.env)) _ _ _;refine wpAny_comprehension_free (use:=none) (g:=⟨tg,iter,ifs,0⟩) (gs:=[]) rfl hs hcl L.kind L.names ?_;refine thn (hi pins s σ H _ I h) λ v s1 h1=>thn h1 λ itv s2 h2=>?_;obtain⟨it,fp,tn,J,H2,e,I2,T,st2,f2,q2⟩:=h2;subst e;obtain⟨W,w0,turn⟩:=q2 _ (I2.hok.fresh (Nat.le_refl s2.heap.objs.size));refine wpAny_newObj_type ?_;have I3:=I2.laid (a:=s2.heap.objs.size) (o:=.dK []) (h':=s2.heap.push {cls:=.type "dict",data:=.dict #[]}) (t':=s2.toks) (λ _ _ q=>Heap.get?_push_of_some _ q) (Nat.le_refl _) (kz s2.heap I2.big);have hfb:∀ b∈fp,b<s2.heap.objs.size:=λ b hb=>by obtain⟨o,e,_⟩:=T.obj 0 _ st2 b hb;exact Heap.lt_size e
 have f3:∀ b∈fp,mz X pins (upd H2 s2.heap.objs.size (.dK [])) b:=λ b hb=>by obtain⟨f0,fr⟩:=f2 b hb;exact⟨by rw[aj (Nat.ne_of_lt (hfb b hb))];exact f0,fr⟩
 have st3:tn 0 (s2.heap.push {cls:=.type "dict",data:=.dict #[]}):=T.keep 0 _ _ st2 λ b _ o e=>Heap.get?_push_of_some _ e;refine xS (cl:=cl) hc L c1 c2 (hg cl) (ht cl) (hk cl) (hv cl) I3 T st3 f3 w0 turn λ C s' H' m I' hC dC hns fin=>?_;refine⟨m,hns,λ h' sb=>?_⟩;have hC2:s2.heap.objs.size<=C:=Nat.le_trans (by rw[Heap.size_push];exact Nat.le_succ _) dC;obtain⟨_,z2,_,_,z3,z4⟩:=I2.p9 (H':=λ _=>none) hC2 rfl;have I4:Inv X pins σ H' {s' with heap:=h'}:=I'.turned (t':=s'.toks) (λ b o hb e=>sb.extBut b o hb e) hC z2 (.inr (Nat.le_trans I2.sz hC2)) z3 z4;exact⟨.ref _,_,I4,rfl,fin⟩
end
end L2
namespace D
open L2
section
variable {K:PySem.W.Frag}
def dDC(di:TId)(g:TGd)(tt:TTd)(tk tv:TD)(k:Nat)(fr:List Nat)(τ:DS)(M:MH)(Q:QD):Prop:=di τ M λ ws M1=>∀ p,M1 p=none->∃ P:Nat->DS->MH->Prop,P 0 (abX k fr τ) (aE M1 p (.dic [])) /\
 (∀ i w τ M,ws[i]? =some w->P i τ M->g w τ M λ τ2 M2=>tt τ2 M2 λ b M3=>if b=true then tk τ2 M3 λ y M4=>tv τ2 M4 λ z M5=>∃ kvs key,M5 p=some (.dic kvs)/\y=kW key/\kvs.length<sizeLine/\P (i+1) τ2 (aE M5 p (.dic (mE kvs key z))) else P (i+1) τ2 M3) /\
 ∀ τ M,P ws.length τ M->Q (.m p) M
theorem acf{di:TId}{g:TGd}{tt:TTd}{tk tv:TD}{k:Nat}{fr:List Nat}{σ:St}{H:Hp}{Q:VK}(h:up K (dDC di g tt tk tv k fr) σ H Q) :
  tDC (upI K di) (upG K g) (upT K tt) (up K tk) (up K tv) k fr σ H Q:=by
 obtain⟨τ,M,Qd,A,h,kk⟩:=h;refine⟨τ,M,_,A,h,λ J H1 ws M1 kp m1 it hall p hp=>?_⟩;obtain⟨P,p0,pt,pe⟩:=hall p (m1.free hp);have kpn:Kp H1 (upd H1 p (.dK [])):=Kp.new hp;have mn:cK K (upd H1 p (.dK [])) (aE M1 p (.dic [])):=m1.put (mo:=.dic []) kpn ⟨_,ar,.nil⟩;refine⟨λ i n σ' H'=>n=ws.length-i/\i<=ws.length/\Kp (upd H1 p (.dK [])) H'/\∃ τ M,Abs K H' σ' τ M/\P i τ M,⟨ws.length,by simp,Nat.zero_le _,Kp.refl _,_,_,qj (A.go (kp.trans kpn) mn) k fr,p0⟩,?_⟩;rintro i n σ2 H2 ⟨rfl,hi,kp2,τ2,M2,A2,p2⟩;obtain⟨go,stop,yld⟩:=it H2 (kpn.trans kp2) i
 by_cases hlt:i<ws.length
 ·refine .inr ⟨go hlt,λ x H3 y=>?_⟩;obtain⟨kp3,mk,w,ew,rw⟩:=yld x H3 hlt y;refine⟨w,τ2,M2,_,rw,A2.go kp3 (mk _ A2.mem),pt i w τ2 M2 ew p2,λ σ4 H4 τ4 M4 kp4 A4 q4=>⟨τ4,M4,_,A4,q4,λ b H5 M5 kp5 m5 q5=>?_⟩⟩;have kq:=(kp3.trans kp4).trans kp5;cases b with
  | false =>
   rw[if_neg Bool.false_ne_true] at q5;exact hU ⟨ws.length-(i+1),by omega,rfl,hlt,kp2.trans kq,τ4,M5,A4.go kp5 m5,q5⟩
  | true =>
   rw[if_pos rfl] at q5;refine mF ⟨τ4,M5,_,A4.go kp5 m5,q5,λ ky H6 wy M6 kp6 r6 m6 q6=>⟨τ4,M6,_,A4.go (kp5.trans kp6) m6,q6,λ v H7 wv M7 kp7 r7 m7 hq105=>?_⟩⟩;obtain⟨kvs,key,hm,ey,hl,q7⟩:=hq105;subst ey;obtain⟨l,e,pr⟩:=m7 _ _ hm;have kp8:Kp H7 (upd H7 p (.dK (putK l key v))):=Kp.set e (λ _ z=>nomatch z) (λ _ _ z=>nomatch z);refine⟨l,key,e,iW r6,by rw[<- lY pr];exact hl,ws.length-(i+1),by omega,rfl,hlt,kp2.trans (((kq.trans kp6).trans kp7).trans kp8),τ4,_,A4.go (((kp5.trans kp6).trans kp7).trans kp8) (m7.put (mo:=.dic (mE kvs key wv)) kp8 ⟨_,ar,?_⟩),q7⟩;exact Paired.gH (ur key r7 pr) λ p q z=>⟨z.1,z.2.keep kp8⟩
 ·have hl:i=ws.length:=by omega
  subst hl;refine .inl ⟨stop (Nat.le_refl _),?_⟩;exact kk _ H2 (.m p) M2 (kp.trans (kpn.trans kp2)) rfl A2.mem (pe τ2 M2 p2)
variable {X:Cx}{sc:Scope}{own:List Str}{fr:List Nat}{di:TId}{g:TGd}{tt:TTd}{tk tv:TD}{tg iter kx vx:Expr}{ifs:List Expr}{pos:Pos}
theorem agp(hc:X.calm=true)(L:jN X sc own fr)(hi:PId X tg iter di)
  (hg:∀ cl C s H ex pl,PGd (blk X sc (lcN X own fr) cl C s H ex pl) tg g)(ht:∀ cl C s H ex pl,mW (blk X sc (lcN X own fr) cl C s H ex pl) ifs tt)(hk:∀ cl C s H ex pl,PD (blk X sc (lcN X own fr) cl C s H ex pl) kx tk)(hv:∀ cl C s H ex pl,PD (blk X sc (lcN X own fr) cl C s H ex pl) vx tv)
  (hs:∀ x,foldedSetIterable iter X.env x=pure x:=by intro _;rfl):PD X (.DictComp kx vx [⟨tg,iter,ifs,0⟩] sc pos) (dDC di g tt tk tv own.length fr):=
 eQ (ahm hc L hi hg ht hk hv hs) λ σ H Q h=>acf h
end
end D
namespace Q
open L2 D
section
variable {X:Cx}{sc:Scope}{own:List Str}{fr:List Nat}{di:TId}{g:TGd}{tt:TTd}{tk tv:TD}{tg iter kx vx:Expr}{ifs:List Expr}{pos:Pos}
theorem afy(hc:X.calm=true)(L:jN X sc own fr)(hi:Jd (PId X tg iter di))
  (hg:∀ cl C s H ex pl,Jd (PGd (blk X sc (lcN X own fr) cl C s H ex pl) tg g))(ht:∀ cl C s H ex pl,Jd (mW (blk X sc (lcN X own fr) cl C s H ex pl) ifs tt))(hk:∀ cl C s H ex pl,Jd (PD (blk X sc (lcN X own fr) cl C s H ex pl) kx tk))(hv:∀ cl C s H ex pl,Jd (PD (blk X sc (lcN X own fr) cl C s H ex pl) vx tv))
  (hs:∀ x,foldedSetIterable iter X.env x=pure x:=by intro _;rfl):Jd (PD X (.DictComp kx vx [⟨tg,iter,ifs,0⟩] sc pos) (dDC di g tt tk tv own.length fr)):=
 ⟨D.agp hc L hi.h (λ cl C s H ex pl=>(hg cl C s H ex pl).h) (λ cl C s H ex pl=>(ht cl C s H ex pl).h) (λ cl C s H ex pl=>(hk cl C s H ex pl).h) (λ cl C s H ex pl=>(hv cl C s H ex pl).h) hs⟩
end
end Q
namespace L2
section
variable {X:Cx}{sc:Scope}{own:List Str}{fr:List Nat}{g:TG}{tt:TT}{tk tv:TE}{kx vx tg iter:Expr}{ifs:List Expr}{pos:Pos}
theorem aa9{wi:TI}{i:Nat}{x:Str}{pos' spos:Pos}(hN:X.N.Nodup)(hi':X.N[i]? =some x)(hx:Loc X.env.scope x)(hc:X.calm=true)(L:jN X sc own fr)(hi:PI X tg iter wi)
  (hg:∀ cl C s H ex pl,PG (blk X sc (lcN X own fr) cl C s H ex pl) tg g)(ht:∀ cl C s H ex pl,PTs (blk X sc (lcN X own fr) cl C s H ex pl) ifs tt)(hk:∀ cl C s H ex pl,PE (blk X sc (lcN X own fr) cl C s H ex pl) kx tk)(hv:∀ cl C s H ex pl,PE (blk X sc (lcN X own fr) cl C s H ex pl) vx tv)
  (hsw:swapsWith (.DictComp kx vx [⟨tg,iter,ifs,0⟩] sc pos) (some (.Name x pos')) spos.line X.env=pure true:=by rfl)
  (hs:∀ x,foldedSetIterable iter X.env x=pure x:=by intro _;rfl)(hf:X.fn x=true\/X.env.scope.names.lookup x=some .local:=by first | exact .inl rfl | exact .inr rfl | assumption) :
  PS X (.Assign [.Name x pos'] (.DictComp kx vx [⟨tg,iter,ifs,0⟩] sc pos) spos) (ago (tDC wi g tt tk tv own.length fr) (aaA i)):=by
 intro pins s σ H D' I h;obtain⟨cl,hcl,c1,c2⟩:=hJ L I.ok;rw[exec_Assign_Name_used _ _ _ _ hsw];refine wpAny_bind (wpAny_standAt (wpAny_bind ?_));show wpAny _ _ (evalThenUse (.DictComp kx vx [⟨tg,iter,ifs,0⟩] sc pos) X.env (assign (.Name x pos') X.env)) _ _ _;unfold evalThenUse;refine wpAny_bind ?_;refine wpAny_comprehension_free (use:=some (assign (.Name x pos') X.env)) (g:=⟨tg,iter,ifs,0⟩) (gs:=[]) rfl hs hcl L.kind L.names ?_;refine thn (hi pins s σ H _ I h) λ v s1 h1=>thn h1 λ itv s2 h2=>?_;obtain⟨it,fp,tn,J,H2,e,I2,T,st2,f2,q2⟩:=h2;subst e;obtain⟨W,w0,turn⟩:=q2 _ (I2.hok.fresh (Nat.le_refl s2.heap.objs.size));refine wpAny_newObj_type ?_;have I3:=I2.laid (a:=s2.heap.objs.size) (o:=.dK []) (h':=s2.heap.push {cls:=.type "dict",data:=.dict #[]}) (t':=s2.toks) (λ _ _ q=>Heap.get?_push_of_some _ q) (Nat.le_refl _) (kz s2.heap I2.big);have hfb:∀ b∈fp,b<s2.heap.objs.size:=λ b hb=>by obtain⟨o,e,_⟩:=T.obj 0 _ st2 b hb;exact Heap.lt_size e
 have f3:∀ b∈fp,mz X pins (upd H2 s2.heap.objs.size (.dK [])) b:=λ b hb=>by obtain⟨f0,fr⟩:=f2 b hb;exact⟨by rw[aj (Nat.ne_of_lt (hfb b hb))];exact f0,fr⟩
 have st3:tn 0 (s2.heap.push {cls:=.type "dict",data:=.dict #[]}):=T.keep 0 _ _ st2 λ b _ o e=>Heap.get?_push_of_some _ e;refine xS (cl:=cl) hc L c1 c2 (hg cl) (ht cl) (hk cl) (hv cl) I3 T st3 f3 w0 turn λ C s' H' m I' hC dC hns fin=>?_;have hC2:s2.heap.objs.size<=C:=Nat.le_trans (by rw[Heap.size_push];exact Nat.le_succ _) dC;obtain⟨_,z2,z0,_,z3,z4⟩:=I2.p9 (H':=λ _=>none) hC2 rfl;have z1:X.s₀.heap.objs.size<=C:=Nat.le_trans I2.sz hC2;obtain⟨oC,hoC,nsC⟩:∃ o,s'.heap.get? C=some o/\∃ es ep,o.data=.dict es ep:=by obtain⟨o,es,ep,e1,e2,_⟩:=hns;exact⟨o,e1,es,ep,e2⟩
 have I4:Inv X (pins++[(C,oC)]) σ H' s':=I'.d5 λ p hp=>by
  rcases List.mem_append.mp hp with z | z
  ·exact I'.pin p (List.mem_append_right _ z)
  ·have e:p=(C,oC):=by simpa using z
   subst e;obtain⟨es,ep,hd⟩:=nsC;exact⟨hoC,hC,z2,z0,λ v z=>by have z':oC.data=.cell v:=z;rw[hd] at z';cases z'⟩
 refine thn (tH (pos:=pos') hN hi' hx hf _ s' σ _ (.ref s2.heap.objs.size) (.ref s2.heap.objs.size) _ I4 rfl fin) λ _ s5 hq106=>?_;obtain⟨σ5,H5,I5,q5⟩:=hq106;have pC:=I5.pin (C,oC) (List.mem_append_right _ (List.mem_append_right _ (List.mem_singleton.mpr rfl)));obtain⟨o,es,ep,e1,e2,e3⟩:=hns;rw[hoC] at e1;cases e1;refine⟨m,⟨oC,es,ep,pC.1,e2,e3⟩,λ h' sb=>?_⟩;have I6:Inv X pins σ5 H5 {s5 with heap:=h'}:=(I5.iP).turned (t':=s5.toks) (λ b o hb e=>sb.extBut b o hb e) pC.2.1 z2 (.inr z1) z3 z4;exact wpAny_pure (wpAny_pure ⟨σ5,H5,I6,q5⟩)
end
end L2
namespace D
open L2
section
variable {X:Cx}{sc:Scope}{own:List Str}{fr:List Nat}{di:TId}{g:TGd}{tt:TTd}{tk tv:TD}{tg iter kx vx:Expr}{ifs:List Expr}{pos:Pos}
theorem vC{i:Nat}{x:Str}{pos' spos:Pos}(hN:X.N.Nodup)(hi':X.N[i]? =some x)(hx:Loc X.env.scope x)(hc:X.calm=true)(L:jN X sc own fr)(hi:PId X tg iter di)
  (hg:∀ cl C s H ex pl,PGd (blk X sc (lcN X own fr) cl C s H ex pl) tg g)(ht:∀ cl C s H ex pl,mW (blk X sc (lcN X own fr) cl C s H ex pl) ifs tt)(hk:∀ cl C s H ex pl,PD (blk X sc (lcN X own fr) cl C s H ex pl) kx tk)(hv:∀ cl C s H ex pl,PD (blk X sc (lcN X own fr) cl C s H ex pl) vx tv)
  (hsw:swapsWith (.DictComp kx vx [⟨tg,iter,ifs,0⟩] sc pos) (some (.Name x pos')) spos.line X.env=pure true:=by rfl)
  (hs:∀ x,foldedSetIterable iter X.env x=pure x:=by intro _;rfl)(hf:X.fn x=true\/X.env.scope.names.lookup x=some .local:=by first | exact .inl rfl | exact .inr rfl | assumption) :
  PSd X (.Assign [.Name x pos'] (.DictComp kx vx [⟨tg,iter,ifs,0⟩] sc pos) spos) (bD (dDC di g tt tk tv own.length fr) (gN i)):=
 qb (aa9 hN hi' hx hc L hi hg ht hk hv hsw hs hf) λ D σ H h=>by obtain⟨τ,M,Dd,A,h,k1,_⟩:=h;exact acf ⟨τ,M,_,A,h,λ v H1 w M1 kp r m q=>k1 _ H1 _ M1 kp ((A.go kp m).set i r) q⟩
end
end D
namespace Q
open L2 D
section
variable {X:Cx}{sc:Scope}{own:List Str}{fr:List Nat}{di:TId}{g:TGd}{tt:TTd}{tk tv:TD}{tg iter kx vx:Expr}{ifs:List Expr}{pos:Pos}
theorem xy{i:Nat}{x:Str}{pos' spos:Pos}(hN:X.N.Nodup)(hi':X.N[i]? =some x)(hx:Loc X.env.scope x)(hc:X.calm=true)(L:jN X sc own fr)(hi:Jd (PId X tg iter di))
  (hg:∀ cl C s H ex pl,Jd (PGd (blk X sc (lcN X own fr) cl C s H ex pl) tg g))(ht:∀ cl C s H ex pl,Jd (mW (blk X sc (lcN X own fr) cl C s H ex pl) ifs tt))(hk:∀ cl C s H ex pl,Jd (PD (blk X sc (lcN X own fr) cl C s H ex pl) kx tk))(hv:∀ cl C s H ex pl,Jd (PD (blk X sc (lcN X own fr) cl C s H ex pl) vx tv))
  (hsw:swapsWith (.DictComp kx vx [⟨tg,iter,ifs,0⟩] sc pos) (some (.Name x pos')) spos.line X.env=pure true:=by rfl)
  (hs:∀ x,foldedSetIterable iter X.env x=pure x:=by intro _;rfl)(hf:X.fn x=true\/X.env.scope.names.lookup x=some .local:=by first | exact .inl rfl | exact .inr rfl | assumption) :
  Jd (PSd X (.Assign [.Name x pos'] (.DictComp kx vx [⟨tg,iter,ifs,0⟩] sc pos) spos) (bD (dDC di g tt tk tv own.length fr) (gN i))):=
 ⟨D.vC hN hi' hx hc L hi.h (λ cl C s H ex pl=>(hg cl C s H ex pl).h) (λ cl C s H ex pl=>(ht cl C s H ex pl).h) (λ cl C s H ex pl=>(hk cl C s H ex pl).h) (λ cl C s H ex pl=>(hv cl C s H ex pl).h) hsw hs hf⟩
end
end Q
namespace D
open L2
section
variable {X:Cx}{C:Addr}{o value:Expr}{fn:Str}{pos tpos:Pos}{td tv:TD}
def ud(C:Addr)(td tv:TD)(fn:Str)(f:Int->Int->Int)(D:Ed)(τ:DS)(M:MH):Prop:=td τ M λ w M1=>∃ a fs i,w=.m a/\M1 a=some (.ins C fs)/\fs.lookup fn=some (.d (.int i)) /\
 tv τ M1 λ y M2=>∃ j fs',y=.d (.int j)/\M2 a=some (.ins C fs')/\fs'.length<1000/\D.nx τ (aE M2 a (.ins C (aab fn (.d (.int (f i j))) fs')))
theorem tp{op:Operator}{f:Int->Int->Int}(c:Cls X.K C)(n:dB X.K C fn)(ha:PD X o td)(hv:PD X value tv)(hop:PIp X op (ipI f)):PSd X (.AugAssign (.Attribute o fn tpos) op value pos) (ud C td tv fn f):=
 qb (wO (rd:=ipI f) ha hv hop) λ D σ H h=>by obtain⟨τ,M,Dd,A,h,k1,_⟩:=h;refine⟨τ,M,_,A,h,λ x H1 w M1 kp1 r1 m1 hq107=>?_⟩;obtain⟨a,fs,i,ew,hm,hl,q1⟩:=hq107;subst ew;obtain⟨dx,l,e,pr⟩:=m1 _ _ hm;have g:=gw fn pr;rw[hl] at g;obtain⟨b,eb,rb⟩:=OR.some_of g;simp only[aD,aA] at rb;subst rb;refine⟨a,C,dx,l,_,r1,e,c,n,eb,τ,M1,_,A.go kp1 m1,q1,λ y H2 wy M2 kp2 r2 m2 hq108=>?_⟩;obtain⟨j,fs',ey,hm2,hl2,q2⟩:=hq108;subst ey;simp only[aD,aA] at r2;subst r2;obtain⟨dx2,l2,e2,pr2⟩:=m2 _ _ hm2;refine⟨i,j,rfl,rfl,dx2,l2,e2,by rw[<- zg pr2];exact hl2,?_⟩;have kp4:Kp H2 (upd H2 a (.ins C dx2 (mL fn (.int (f i j)) l2))):=Kp.set e2 (λ _ z=>nomatch z) (λ _ _ z=>nomatch z);refine k1 _ _ _ _ ((kp1.trans kp2).trans kp4) (A.go ((kp1.trans kp2).trans kp4) (m2.put (mo:=.ins C (aab fn (.d (.int (f i j))) fs')) kp4 ⟨dx2,_,ar,?_⟩)) q2;exact zK.keep kp4 (w5 fn (w:=.d (.int (f i j))) (by simp[aD,aA]) pr2)
end
end D
namespace Q
open L2 D
section
variable {X:Cx}{C:Addr}{o value:Expr}{fn:Str}{pos tpos:Pos}{td tv:TD}
theorem wg{op:Operator}{f:Int->Int->Int}(c:Cls X.K C)(n:dB X.K C fn)(ha:Jd (PD X o td))(hv:Jd (PD X value tv))(hop:PIp X op (ipI f)):Jd (PSd X (.AugAssign (.Attribute o fn tpos) op value pos) (ud C td tv fn f)):=⟨D.tp c n ha.h hv.h hop⟩
end
end Q
namespace D
open L2
section
variable {X:Cx}{tg o:Expr}{apos cpos:Pos}{td:TE}
end
section
variable {X:Cx}{K:PySem.W.Frag}{tg o:Expr}{apos cpos:Pos}{td:TD}
end
end D
namespace Q
open L2 D
section
variable {X:Cx}{tg o:Expr}{apos cpos:Pos}{td:TD}
end
end Q
namespace D
open L2
section
variable {X:Cx}{K:PySem.W.Frag}
end
section
variable {X:Cx}{o:Expr}{to:TE}{apos cpos p pos:Pos}
end
section
variable {X:Cx}{o:Expr}{td:TD}{apos cpos p pos:Pos}
namespace Q
end Q
end
end D
namespace PySem
namespace Dp
section
variable {prog:Program}{w:World}{A:Around}{E:Value->Shared->Prop}{s:Shared}
variable {K:Type}[DecidableEq K]{knd:KeyKind prog w K}
end
end Dp
end PySem
namespace D
open L2
section
variable {X:Cx}{K:PySem.W.Frag}
end
end D
namespace Stc
open L2 D Rc
def ajj:List Int->List Int->Prop
 | _,[]=>True
 | rs,d::ds=>∃ T U:List Int,(T++U).Perm rs/\(T.length:Int)=d/\(∀ t∈T,0<t)/\ajj (T.map (λ m=>m-1)++U) ds
end Stc
namespace D
open L2
section
variable {X:Cx}{K:PySem.W.Frag}
def ahJ:V->V->V->Hp->(Hp->Prop)->Prop:=λ o i v H Q=>∃ a H',o=.ref a/\ahG H a i v H'/\Q H'
theorem set_dict(hu:X.A.units+1<cLine):agS X ahJ:=by intro pins s σ H o i v ov iv u Q I ro ri rv h;obtain⟨a,H',rfl,g,q⟩:=h;obtain rfl:ov=Value.ref a:=ro;exact rP hu I g ri rv λ s4 I4=>⟨H',I4,q⟩
def af0(t:TS):TS:=λ D σ H=>∃ a l,H a=some (.dK l)/\∀ o,t
 {nx:=λ σ' H'=>H' a=some (.frz o (.frz o (.dK l)))/\D.nx σ' (upd H' a (.dK l)),rt:=λ v H'=>H' a=some (.frz o (.frz o (.dK l)))/\D.rt v (upd H' a (.dK l)),
  bk:=λ σ' H'=>H' a=some (.frz o (.frz o (.dK l)))/\D.bk σ' (upd H' a (.dK l)),ct:=λ σ' H'=>H' a=some (.frz o (.frz o (.dK l)))/\D.ct σ' (upd H' a (.dK l))} σ (upd H a (.frz o (.frz o (.dK l))))
theorem aaD{st:Stmt}{t:TS}(h:PS X st t):PS X st (af0 t):=by
 intro pins s σ H D I ⟨a,l,ha,q⟩;obtain⟨o,I1⟩:=Inv.afA I ha;refine thn (h pins s σ _ _ I1 (q o)) λ f s1 hf=>?_;cases f with
 | next=>obtain⟨σ',H',I2,e,q2⟩:=hf;exact⟨σ',_,Inv.again I ha I2 e,q2⟩
 | brk=>obtain⟨σ',H',I2,e,q2⟩:=hf;exact⟨σ',_,Inv.again I ha I2 e,q2⟩
 | cont=>obtain⟨σ',H',I2,e,q2⟩:=hf;exact⟨σ',_,Inv.again I ha I2 e,q2⟩
 | ret u=>obtain⟨v,σ',H',I2,r,e,q2⟩:=hf;exact⟨v,σ',_,Inv.again I ha I2 e,r,q2⟩
def sM(t:TSd)(D:Ed)(τ:DS)(M:MH):Prop:=∃ a kvs,M a=some (.dic kvs)/\t
 {nx:=λ τ' M'=>M' a=some (.fdic kvs)/\D.nx τ' (aE M' a (.dic kvs)),rt:=λ w M'=>M' a=some (.fdic kvs)/\D.rt w (aE M' a (.dic kvs)),
  bk:=λ τ' M'=>M' a=some (.fdic kvs)/\D.bk τ' (aE M' a (.dic kvs)),ct:=λ τ' M'=>M' a=some (.fdic kvs)/\D.ct τ' (aE M' a (.dic kvs))} τ (aE M a (.fdic kvs))
theorem Abs.back{H:Hp}{σ:St}{τ:DS}{M:MH}{a:Addr}{o:Obj}{l:List (Key×V)}{kvs:List (Key×W)}(h:H a=some (.frz o (.frz o (.dK l))))(A:Abs K H σ τ M)(e:M a=some (.fdic kvs)):Abs K (upd H a (.dK l)) σ τ (aE M a (.dic kvs)):=
 ⟨A.len,λ i w q=>let ⟨v,q1,r⟩:=A.val i w q; ⟨v,q1,aD.back h r⟩,cK.back h A.mem e⟩
theorem wm{st:Stmt}{t:TSd}(h:PSd X st t):PSd X st (sM t):=qb (aaD h) λ D σ H hq109=>by
 obtain⟨τ,M,Dd,A,⟨a,kvs,hm,q⟩,k1,k2,k3,k4⟩:=hq109;obtain⟨l,e,pr⟩:=A.mem _ _ hm;refine⟨a,l,e,λ o=>?_⟩;have kp:Kp H (upd H a (.frz o (.frz o (.dK l)))):=Kp.set e (λ _ z=>nomatch z) (λ _ _ z=>nomatch z);have m1:cK X.K (upd H a (.frz o (.frz o (.dK l)))) (aE M a (.fdic kvs)):=A.mem.put (mo:=.fdic kvs) kp ⟨o,l,ar,Paired.gH pr λ p q z=>⟨z.1,z.2.keep kp⟩⟩;have kpb:∀ H',Kp (upd H a (.frz o (.frz o (.dK l)))) H'->Kp H (upd H' a (.dK l)):=λ H' kp'=>⟨λ b xs z=>by
   have hb:b≠a:=λ y=>by rw[y,e] at z;cases z
   rw[aj hb];exact kp'.tup b xs (by rw[aj hb];exact z),λ b ob u z=>by
   have hb:b≠a:=λ y=>by rw[y,e] at z;cases z
   rw[aj hb];exact kp'.frz b ob u (by rw[aj hb];exact z)⟩
 refine⟨τ,_,_,A.go kp m1,q,?_,?_,?_,?_⟩
 ·rintro σ' H' τ' M' kp' A' ⟨h1,q1⟩;have e':=kp'.frz a o _ ar;exact⟨e',k1 _ _ _ _ (kpb H' kp') (Abs.back e' A' h1) q1⟩
 ·rintro v H' w M' kp' r' m' ⟨h1,q1⟩;have e':=kp'.frz a o _ ar;exact⟨e',k2 _ _ _ _ (kpb H' kp') (aD.back e' r') (cK.back e' m' h1) q1⟩
 ·rintro σ' H' τ' M' kp' A' ⟨h1,q1⟩;have e':=kp'.frz a o _ ar;exact⟨e',k3 _ _ _ _ (kpb H' kp') (Abs.back e' A' h1) q1⟩
 ·rintro σ' H' τ' M' kp' A' ⟨h1,q1⟩;have e':=kp'.frz a o _ ar;exact⟨e',k4 _ _ _ _ (kpb H' kp') (Abs.back e' A' h1) q1⟩
end
namespace Q
section
variable {X:Cx}{pos:Pos}
theorem zv{st:Stmt}{t:TSd}(h:Jd (PSd X st t)):Jd (PSd X st (sM t)):=⟨D.wm h.h⟩
end
end Q
end D
namespace S
open PySem PySem.W PyProof.Rows
section
variable {N:Nat}
def PR(N:Nat)(p:Array Nat):Prop:=p.Perm (List.toArray (List.range N))
end
end S
namespace D
open L2 S
section
variable {X:Cx}{K:PySem.W.Frag}
end
mutual
def iL(K:PySem.W.Frag)(H:Hp):PyData->V->Prop
 | .list ds,x=>aA K H (.list ds) x\/∃ a vs,x=.ref a/\H a=some (.lst vs)/\iI K H ds vs
 | .tuple ds,x=>∃ a vs,x=.ref a/\SqT K H a vs/\iI K H ds vs
 | .none,x=>aA K H .none x
 | .bool b,x=>aA K H (.bool b) x
 | .int i,x=>aA K H (.int i) x
 | .str z,x=>aA K H (.str z) x
 | .dict kvs,x=>aA K H (.dict kvs) x
def iI(K:PySem.W.Frag)(H:Hp):List PyData->List V->Prop
 | [],l=>l=[]
 | d::ds,l=>∃ v r,l=v::r/\iL K H d v/\iI K H ds r
end
mutual
theorem iL.of{K:PySem.W.Frag}{H:Hp}:∀ {d:PyData} {x:V},aA K H d x->iL K H d x
 | .list ds,x,h=>by unfold iL;exact .inl h
 | .tuple ds,x,h=>by
  unfold iL;simp only[aA] at h;obtain⟨a,vs,e,s,r⟩:=h;exact⟨a,vs,e,s,iI.of r⟩
 | .none,x,h=>by unfold iL;exact h
 | .bool b,x,h=>by unfold iL;exact h
 | .int i,x,h=>by unfold iL;exact h
 | .str z,x,h=>by unfold iL;exact h
 | .dict kvs,x,h=>by unfold iL;exact h
theorem iI.of{K:PySem.W.Frag}{H:Hp}:∀ {ds:List PyData} {xs:List V},bf K H ds xs->iI K H ds xs
 | [],xs,h=>by unfold iI;simpa [bf] using h
 | d::ds,xs,h=>by
  unfold iI;simp only[bf] at h;obtain⟨v,r,e,h1,h2⟩:=h;exact⟨v,r,e,iL.of h1,iI.of h2⟩
end
def Tw(H H':Hp):Prop:=Kp H H'/\∀ b vs,H b=some (.lst vs)->H' b=some (.lst vs)\/∃ o,H' b=some (.frz o (.lst vs))
theorem Tw.refl(H:Hp):Tw H H:=⟨Kp.refl H,λ _ _ e=>.inl e⟩
theorem Tw.trans{A B C:Hp}(h:Tw A B)(k:Tw B C):Tw A C:=⟨h.1.trans k.1,λ b vs e=>by
 rcases h.2 b vs e with q | ⟨o,q⟩
 ·exact k.2 b vs q
 ·exact .inr ⟨o,k.1.frz b o _ q⟩⟩
section
variable {X:Cx}{pins:List (Addr×Obj)}{σ:St}{s:Shared}
mutual
theorem afj:∀ {d:PyData} {x:V} {H0 H:Hp},Tw H0 H->Inv X pins σ H s->iL X.K H0 d x->∃ H',Tw H H'/\Inv X pins σ H' s/\aA X.K H' d x
 | .list ds,x,H0,H,t,I,h=>by
  unfold iL at h;rcases h with h | ⟨a,vs,rfl,e,r⟩
  ·exact⟨H,Tw.refl H,I,h.keep t.1⟩
  ·obtain⟨H1,t1,I1,r1⟩:=yy t I r;rcases(t.trans t1).2 a vs e with q | ⟨o,q⟩
   ·obtain⟨o,I2⟩:=I1.freeze q trivial;have kp:Kp H1 (upd H1 a (.frz o (.lst vs))):=Kp.set q (λ _ z=>nomatch z) (λ _ _ z=>nomatch z);refine⟨_,t1.trans ⟨kp,λ b ws eb=>?_⟩,I2,?_⟩
    ·by_cases hb:b=a
     ·subst hb;rw[q] at eb;cases eb;exact .inr ⟨o,ar⟩
     ·exact .inl (by rw[aj hb];exact eb)
    ·simp only[aA];exact⟨a,vs,rfl,.inl ⟨o,ar⟩,r1.keep kp⟩
   ·refine⟨H1,t1,I1,?_⟩;simp only[aA];exact⟨a,vs,rfl,.inl ⟨o,q⟩,r1⟩
 | .tuple ds,x,H0,H,t,I,h=>by
  unfold iL at h;obtain⟨a,vs,rfl,e,r⟩:=h;obtain⟨H1,t1,I1,r1⟩:=yy t I r;refine⟨H1,t1,I1,?_⟩;simp only[aA];exact⟨a,vs,rfl,SqT.keep (t.trans t1).1 e,r1⟩
 | .none,x,H0,H,t,I,h=>by unfold iL at h;exact⟨H,Tw.refl H,I,h.keep t.1⟩
 | .bool b,x,H0,H,t,I,h=>by unfold iL at h;exact⟨H,Tw.refl H,I,h.keep t.1⟩
 | .int i,x,H0,H,t,I,h=>by unfold iL at h;exact⟨H,Tw.refl H,I,h.keep t.1⟩
 | .str z,x,H0,H,t,I,h=>by unfold iL at h;exact⟨H,Tw.refl H,I,h.keep t.1⟩
 | .dict kvs,x,H0,H,t,I,h=>by unfold iL at h;exact⟨H,Tw.refl H,I,h.keep t.1⟩
theorem yy:∀ {ds:List PyData} {xs:List V} {H0 H:Hp},Tw H0 H->Inv X pins σ H s->iI X.K H0 ds xs->∃ H',Tw H H'/\Inv X pins σ H' s/\bf X.K H' ds xs
 | [],xs,H0,H,t,I,h=>by unfold iI at h;exact⟨H,Tw.refl H,I,by simpa [bf] using h⟩
 | d::ds,xs,H0,H,t,I,h=>by
  unfold iI at h;obtain⟨v,r,rfl,h1,h2⟩:=h;obtain⟨H1,t1,I1,r1⟩:=afj t I h1;obtain⟨H2,t2,I2,r2⟩:=yy (t.trans t1) I1 h2;refine⟨H2,t1.trans t2,I2,?_⟩;simp only[bf];exact⟨v,r,rfl,r1.keep t2.1,r2⟩
end
end
end D
namespace D
open L2
section
variable {X:Cx}{pins:List (Addr×Obj)}{σ:St}{H:Hp}{s:Shared}
theorem qW(I:Inv X pins σ H s)(d:PyData){x:V}{u:Value}(h:iL X.K H d x)(r:RelV x u)(hd:d.hasDict=false):∃ as,Reads s.heap u d as:=by obtain⟨H',_,I',h'⟩:=afj (Tw.refl H) I h;exact fT I' d h' r hd
end
section
variable {X:Cx}
def okN(d d':PyData):Bool:=rH d&&rH d'
theorem aeN{k:Nat}(hr:c4 k X.A):OpR X (compareOp .NotEq) (λ x y H Q=>∃ d d',iL X.K H d x/\iL X.K H d' y/\okN d d'=true/\Q (.bl (!PyData.eqv d d')) H):=by intro pins s σ H x y v u Q I rx ry h;obtain⟨d,d',h1,h2,o,q⟩:=h;simp only[okN,rH,Bool.and_eq_true,Bool.not_eq_true'] at o;obtain⟨as,r1⟩:=qW I d h1 rx o.1.2;obtain⟨bs,r2⟩:=qW I d' h2 ry o.2.2;exact ne_dataH r1 r2 o.1.1 o.2.1 hr.units ⟨.bl _,H,I,rfl,q⟩
end
def ke(M:MH):Nat->W->PyData->Prop
 | 0,w,d=>w=.d d
 | n+1,w,d=>w=.d d\/(∃ a ws ds,w=.m a/\M a=some (.lst ws)/\d=.list ds/\Paired (ke M n) ws ds)\/∃ a ws ds,w=.m a/\M a=some (.tup ws)/\d=.tuple ds/\Paired (ke M n) ws ds
theorem ke.d{M:MH}{x:PyData}:∀ {n:Nat},ke M n (.d x) x
 | 0=>rfl
 | _+1=>.inl rfl
theorem ke.l{M:MH}{n:Nat}{a:Addr}{ws:List W}{ds:List PyData}(h:M a=some (.lst ws))(r:Paired (ke M n) ws ds):ke M (n+1) (.m a) (.list ds):=.inr (.inl ⟨a,ws,ds,rfl,h,rfl,r⟩)
theorem ke.ds{M:MH}{n:Nat}:∀ (ds:List PyData),Paired (ke M n) (ds.map W.d) ds
 | []=>.nil
 | _::ds=>.cons ke.d (ke.ds ds)
theorem pG{K:PySem.W.Frag}{H:Hp}{M:MH}{n:Nat}(h:∀ w d x,ke M n w d->aD K H w x->iL K H d x):∀ {ws:List W} {ds:List PyData} {vs:List V},Paired (ke M n) ws ds->aN K H ws vs->iI K H ds vs
 | _,_,_,.nil,.nil=>by unfold iI;rfl
 | _,_,_,.cons a b,.cons c e=>by
  unfold iI;exact⟨_,_,rfl,h _ _ _ a c,pG h b e⟩
theorem ke.sound{K:PySem.W.Frag}{H:Hp}{M:MH}(m:cK K H M):∀ (n:Nat) (w:W) (d:PyData) (x:V),ke M n w d->aD K H w x->iL K H d x
 | 0,w,d,x,g,r=>by have g':w=.d d:=g;subst g';exact iL.of r
 | n+1,w,d,x,g,r=>by
  rcases g with g | ⟨a,ws,ds,rfl,h,rfl,p⟩ | ⟨a,ws,ds,rfl,h,rfl,p⟩
  ·subst g;exact iL.of r
  ·obtain⟨vs,e,rw⟩:=m _ _ h;unfold iL;exact .inr ⟨a,vs,r,e,pG (ke.sound m n) p rw⟩
  ·obtain⟨vs,e,rw⟩:=m _ _ h;unfold iL;exact⟨a,vs,r,.inl (.inl e),pG (ke.sound m n) p rw⟩
section
variable {X:Cx}{K:PySem.W.Frag}
def afB(w w':W)(M:MH)(Q:QD):Prop:=∃ d d' n,ke M n w d/\ke M n w' d'/\okN d d'=true/\Q (.d (.bool (!PyData.eqv d d'))) M
theorem ac1:OpD K (λ x y H Q=>∃ d d',iL K H d x/\iL K H d' y/\okN d d'=true/\Q (.bl (!PyData.eqv d d')) H) afB:=by intro x y H w w' M Qd Q r1 r2 m ⟨d,d',n,g1,g2,o1,q⟩ k;exact⟨d,d',ke.sound m n w d x g1 r1,ke.sound m n w' d' y g2 r2,o1,k _ H (.d (.bool _)) M (Kp.refl H) (by simp[aD,aA]) m q⟩
end
section
variable {X:Cx}{pins:List (Addr×Obj)}{σ:St}{H H0:Hp}{s s0:Shared}
theorem vh{a:Addr}{l:List V}(I:Inv X pins σ H s)(h:H a=some (.lst l)):(∀ xs,X.H₀ a≠some (.tup xs))/\(∀ o v,X.H₀ a≠some (.frz o v))/\∀ ps,X.H₀ a≠some (.tbl ps):=by
 refine⟨λ xs e=>?_,λ o v e=>?_,λ ps e=>?_⟩
 ·have:=I.base.tups a xs e;rw[h] at this;cases this
 ·have:=I.base.frzs a o v e;rw[h] at this;cases this
 ·obtain⟨m,this⟩:=I.base.tbls a ps e;rw[h] at this;cases this
theorem Inv.abL{a:Addr}{l:List V}(I:Inv X pins σ H s)(h:H a=some (.lst l)):∃ o,Inv X pins σ (upd H a (.frz o (.frz o (.lst l)))) s:=by have f:Fz (.lst l):=trivial;obtain⟨o,ho⟩:=(I.hok a _ h).obj f;obtain⟨b1,b2,b3⟩:=vh I h;exact⟨o,Inv.swap I h (λ _ z=>nomatch z) (λ _ z=>nomatch z) b1 b2 b3 ⟨ho,ho,(I.hok a _ h).af2 f⟩⟩
theorem Inv.qH{σ0:St}{a:Addr}{o:Obj}{l:List V}(I0:Inv X pins σ0 H0 s0)(h0:H0 a=some (.lst l))(I:Inv X pins σ H s)(h:H a=some (.frz o (.frz o (.lst l)))):Inv X pins σ (upd H a (.lst l)) s:=by have f:Fz (.lst l):=trivial;obtain⟨b1,b2,b3⟩:=vh I0 h0;exact Inv.swap I h (λ _ z=>nomatch z) (λ _ z=>nomatch z) b1 b2 b3 ((I.hok a _ h).2.2.af2 f)
end
def acE(t:TE):TE:=λ σ H Q=>∃ a l,H a=some (.lst l)/\∀ o,t σ (upd H a (.frz o (.frz o (.lst l)))) λ v H'=>H' a=some (.frz o (.frz o (.lst l)))/\Q v (upd H' a (.lst l))
theorem yF{X:Cx}{e:Expr}{t:TE}(h:PE X e t):PE X e (acE t):=by intro pins s σ H Q I ⟨a,l,ha,q⟩;obtain⟨o,I1⟩:=Inv.abL I ha;exact thn (h pins s σ _ _ I1 (q o)) λ v s1 ⟨x,H',I2,r,e,q2⟩=>⟨x,_,Inv.qH I ha I2 e,r,q2⟩
def acV(t:TS):TS:=λ D σ H=>∃ a l,H a=some (.lst l)/\∀ o,t
 {nx:=λ σ' H'=>H' a=some (.frz o (.frz o (.lst l)))/\D.nx σ' (upd H' a (.lst l)),rt:=λ v H'=>H' a=some (.frz o (.frz o (.lst l)))/\D.rt v (upd H' a (.lst l)),
  bk:=λ σ' H'=>H' a=some (.frz o (.frz o (.lst l)))/\D.bk σ' (upd H' a (.lst l)),ct:=λ σ' H'=>H' a=some (.frz o (.frz o (.lst l)))/\D.ct σ' (upd H' a (.lst l))} σ (upd H a (.frz o (.frz o (.lst l))))
theorem wV{X:Cx}{st:Stmt}{t:TS}(h:PS X st t):PS X st (acV t):=by
 intro pins s σ H D I ⟨a,l,ha,q⟩;obtain⟨o,I1⟩:=Inv.abL I ha;refine thn (h pins s σ _ _ I1 (q o)) λ f s1 hf=>?_;cases f with
 | next=>obtain⟨σ',H',I2,e,q2⟩:=hf;exact⟨σ',_,Inv.qH I ha I2 e,q2⟩
 | brk=>obtain⟨σ',H',I2,e,q2⟩:=hf;exact⟨σ',_,Inv.qH I ha I2 e,q2⟩
 | cont=>obtain⟨σ',H',I2,e,q2⟩:=hf;exact⟨σ',_,Inv.qH I ha I2 e,q2⟩
 | ret u=>obtain⟨v,σ',H',I2,r,e,q2⟩:=hf;exact⟨v,σ',_,Inv.qH I ha I2 e,r,q2⟩
section
variable {K:PySem.W.Frag}{H:Hp}{a:Addr}{o:Obj}{l:List V}
theorem Kp.bW(h:H a=some (.frz o (.frz o (.lst l)))):(∀ b xs,H b=some (.tup xs)->upd H a (.lst l) b=some (.tup xs))/\(∀ b ob ys,H b=some (.frz ob (.lst ys))->upd H a (.lst l) b=some (.frz ob (.lst ys)))/\∀ b ob ys,H b=some (.frz ob (.dK ys))->upd H a (.lst l) b=some (.frz ob (.dK ys)):=by
 refine⟨λ b xs e=>?_,λ b ob ys e=>?_,λ b ob ys e=>?_⟩<;>
 ·rw[aj (λ z=>by rw[z,h] at e;cases e)];exact e
theorem SqT.bW{b:Addr}{vs:List V}(h:H a=some (.frz o (.frz o (.lst l))))(r:SqT K H b vs):SqT K (upd H a (.lst l)) b vs:=by
 rcases r with (r | ⟨ob,r⟩) | r
 ·exact .inl (.inl ((Kp.bW h).1 _ _ r))
 ·refine .inl (.inr ⟨ob,?_⟩);rw[aj (λ z=>by rw[z,h] at r;cases r)];exact r
 ·exact .inr r
theorem SqF.bW{b:Addr}{vs:List V}(h:H a=some (.frz o (.frz o (.lst l))))(r:SqF K H b vs):SqF K (upd H a (.lst l)) b vs:=by
 rcases r with ⟨ob,r⟩ | r
 ·exact .inl ⟨ob,(Kp.bW h).2.1 _ _ _ r⟩
 ·exact .inr r
mutual
theorem aA.bW(h:H a=some (.frz o (.frz o (.lst l)))):∀ {d:PyData} {v:V},aA K H d v->aA K (upd H a (.lst l)) d v
 | .none,v,r=>by simp only[aA] at r ⊢;exact r
 | .bool b,v,r=>by simp only[aA] at r ⊢;exact r
 | .int i,v,r=>by simp only[aA] at r ⊢;exact r
 | .str x,v,r=>by simp only[aA] at r ⊢;exact r
 | .list ds,v,r=>by simp only[aA] at r ⊢;obtain⟨b,vs,e,q,r⟩:=r;exact⟨b,vs,e,SqF.bW h q,bf.bW h r⟩
 | .tuple ds,v,r=>by simp only[aA] at r ⊢;obtain⟨b,vs,e,q,r⟩:=r;exact⟨b,vs,e,SqT.bW h q,bf.bW h r⟩
 | .dict kvs,v,r=>by simp only[aA] at r ⊢;obtain⟨b,ob,m,e,q,r⟩:=r;exact⟨b,ob,m,e,(Kp.bW h).2.2 _ _ _ q,jL.bW h r⟩
theorem bf.bW(h:H a=some (.frz o (.frz o (.lst l)))):∀ {ds:List PyData} {vs:List V},bf K H ds vs->bf K (upd H a (.lst l)) ds vs
 | [],vs,r=>by simp only[bf] at r ⊢;exact r
 | d::ds,vs,r=>by simp only[bf] at r ⊢;obtain⟨v,q,e,h1,h2⟩:=r;exact⟨v,q,e,aA.bW h h1,bf.bW h h2⟩
theorem jL.bW(h:H a=some (.frz o (.frz o (.lst l)))):∀ {ds:List (PyData×PyData)} {m:List (Key×V)},jL K H ds m->jL K (upd H a (.lst l)) ds m
 | [],m,r=>by simp only[jL] at r ⊢;exact r
 | (key,d)::ds,m,r=>by simp only[jL] at r ⊢;obtain⟨k',v,q,e,ek,h1,h2⟩:=r;exact⟨k',v,q,e,ek,aA.bW h h1,jL.bW h h2⟩
end
theorem aD.bW(h:H a=some (.frz o (.frz o (.lst l)))):∀ {w:W} {v:V},aD K H w v->aD K (upd H a (.lst l)) w v
 | .d _,_,r=>aA.bW h r
 | .m _,_,r=>r
 | .t _,_,r=>r
theorem cK.bW{M:MH}{ws0:List W}(h:H a=some (.frz o (.frz o (.lst l))))(m:cK K H M)(e:M a=some (.flst ws0)):cK K (upd H a (.lst l)) (aE M a (.lst ws0)):=λ b mo q=>by
 by_cases hb:b=a
 ·subst hb;rw[ab] at q;cases q;obtain⟨o',l',e',pr⟩:=m _ _ e;rw[h] at e';cases e';exact⟨l,ar,Paired.gH pr λ _ _ z=>aD.bW h z⟩
 ·rw[ae hb] at q;have r:=m b mo q;cases mo with
  | lst ws=>obtain⟨vs,e,r⟩:=r;exact⟨vs,by rw[aj hb];exact e,Paired.gH r λ _ _ z=>aD.bW h z⟩
  | dic kvs=>obtain⟨l,e,r⟩:=r;exact⟨l,by rw[aj hb];exact e,Paired.gH r λ p q z=>⟨z.1,aD.bW h z.2⟩⟩
  | dct kvs=>obtain⟨l,e,r⟩:=r;exact⟨l,by rw[aj hb];exact e,Paired.gH r λ p q z=>⟨z.1,aD.bW h z.2⟩⟩
  | fdic kvs=>obtain⟨o,l,e,r⟩:=r;exact⟨o,l,by rw[aj hb];exact e,Paired.gH r λ p q z=>⟨z.1,aD.bW h z.2⟩⟩
  | ins C fs=>obtain⟨dx,l,e,r⟩:=r;exact⟨dx,l,by rw[aj hb];exact e,Paired.gH r λ p q z=>⟨z.1,aD.bW h z.2⟩⟩
  | tup ws=>obtain⟨vs,e,r⟩:=r;exact⟨vs,by rw[aj hb];exact e,Paired.gH r λ _ _ z=>aD.bW h z⟩
  | flst ws=>obtain⟨o,vs,e,r⟩:=r;exact⟨o,vs,by rw[aj hb];exact e,Paired.gH r λ _ _ z=>aD.bW h z⟩
  | exc C fs =>
   obtain⟨φ,dct,e,p,r⟩:=r;refine⟨φ,dct,by rw[aj hb];exact e,p,?_⟩;rcases r with r | ⟨dx,o',l',e1,e2,r⟩
   ·exact .inl r
   ·exact .inr ⟨dx,o',l',e1,by rw[aj (λ z=>by rw[z,h] at e2;cases e2)];exact e2,Paired.gH r λ p q z=>⟨z.1,aD.bW h z.2⟩⟩
  | code q pos =>
   obtain⟨ps,e,ht,hc⟩:=r;refine⟨ps,by rw[aj hb];exact e,ht,?_⟩;rcases hc with hc | ⟨c,o',vs,t,e1,e2,e3⟩
   ·exact .inl hc
   ·exact .inr ⟨c,o',vs,t,e1,by rw[aj (λ z=>by rw[z,h] at e2;cases e2)];exact e2,e3⟩
theorem Abs.bW{σ:St}{τ:DS}{M:MH}{ws0:List W}(h:H a=some (.frz o (.frz o (.lst l))))(A:Abs K H σ τ M)(e:M a=some (.flst ws0)):Abs K (upd H a (.lst l)) σ τ (aE M a (.lst ws0)):=
 ⟨A.len,λ i w q=>let ⟨v,q1,r⟩:=A.val i w q; ⟨v,q1,aD.bW h r⟩,cK.bW h A.mem e⟩
end
def k9(t:TD)(τ:DS)(M:MH)(Q:QD):Prop:=∃ a ws,M a=some (.lst ws)/\t τ (aE M a (.flst ws)) λ v M'=>M' a=some (.flst ws)/\Q v (aE M' a (.lst ws))
theorem iQ{H H':Hp}{a:Addr}{o:Obj}{l:List V}(e:H a=some (.lst l))(kp':Kp (upd H a (.frz o (.frz o (.lst l)))) H'):Kp H (upd H' a (.lst l)):=⟨λ b xs z=>by
  have hb:b≠a:=λ y=>by rw[y,e] at z;cases z
  rw[aj hb];exact kp'.tup b xs (by rw[aj hb];exact z),λ b ob u z=>by
  have hb:b≠a:=λ y=>by rw[y,e] at z;cases z
  rw[aj hb];exact kp'.frz b ob u (by rw[aj hb];exact z)⟩
theorem vK{X:Cx}{e:Expr}{t:TD}(h:PD X e t):PD X e (k9 t):=eQ (yF h) λ σ H Q hq110=>by obtain⟨τ,M,Qd,A,⟨a,ws,hm,q⟩,k⟩:=hq110;obtain⟨l,e,pr⟩:=A.mem _ _ hm;refine⟨a,l,e,λ o=>?_⟩;have kp:Kp H (upd H a (.frz o (.frz o (.lst l)))):=Kp.set e (λ _ z=>nomatch z) (λ _ _ z=>nomatch z);have m1:cK X.K (upd H a (.frz o (.frz o (.lst l)))) (aE M a (.flst ws)):=A.mem.put (mo:=.flst ws) kp ⟨o,l,ar,aN.keep kp pr⟩;refine⟨τ,_,_,A.go kp m1,q,λ v H' w M' kp' r' m' hq111=>?_⟩;obtain⟨h1,q1⟩:=hq111;have e':=kp'.frz a o _ ar;exact⟨e',k _ _ w _ (iQ e kp') (aD.bW e' r') (cK.bW e' m' h1) q1⟩
def o5(t:TSd)(D:Ed)(τ:DS)(M:MH):Prop:=∃ a ws,M a=some (.lst ws)/\t
 {nx:=λ τ' M'=>M' a=some (.flst ws)/\D.nx τ' (aE M' a (.lst ws)),rt:=λ w M'=>M' a=some (.flst ws)/\D.rt w (aE M' a (.lst ws)),
  bk:=λ τ' M'=>M' a=some (.flst ws)/\D.bk τ' (aE M' a (.lst ws)),ct:=λ τ' M'=>M' a=some (.flst ws)/\D.ct τ' (aE M' a (.lst ws))} τ (aE M a (.flst ws))
theorem t7{X:Cx}{st:Stmt}{t:TSd}(h:PSd X st t):PSd X st (o5 t):=qb (wV h) λ D σ H hq112=>by
 obtain⟨τ,M,Dd,A,⟨a,ws,hm,q⟩,k1,k2,k3,k4⟩:=hq112;obtain⟨l,e,pr⟩:=A.mem _ _ hm;refine⟨a,l,e,λ o=>?_⟩;have kp:Kp H (upd H a (.frz o (.frz o (.lst l)))):=Kp.set e (λ _ z=>nomatch z) (λ _ _ z=>nomatch z);have m1:cK X.K (upd H a (.frz o (.frz o (.lst l)))) (aE M a (.flst ws)):=A.mem.put (mo:=.flst ws) kp ⟨o,l,ar,aN.keep kp pr⟩;refine⟨τ,_,_,A.go kp m1,q,?_,?_,?_,?_⟩
 ·rintro σ' H' τ' M' kp' A' ⟨h1,q1⟩;have e':=kp'.frz a o _ ar;exact⟨e',k1 _ _ _ _ (iQ e kp') (Abs.bW e' A' h1) q1⟩
 ·rintro v H' w M' kp' r' m' ⟨h1,q1⟩;have e':=kp'.frz a o _ ar;exact⟨e',k2 _ _ _ _ (iQ e kp') (aD.bW e' r') (cK.bW e' m' h1) q1⟩
 ·rintro σ' H' τ' M' kp' A' ⟨h1,q1⟩;have e':=kp'.frz a o _ ar;exact⟨e',k3 _ _ _ _ (iQ e kp') (Abs.bW e' A' h1) q1⟩
 ·rintro σ' H' τ' M' kp' A' ⟨h1,q1⟩;have e':=kp'.frz a o _ ar;exact⟨e',k4 _ _ _ _ (iQ e kp') (Abs.bW e' A' h1) q1⟩
abbrev uH(o:Obj)(l:List V):HO:=.frz o (.frz o (.lst l))
theorem l9{P:Program}{w:World}{H:Hp}{h:Heap}{a:Addr}{o:Obj}{l:List V}(ok:HOk P w H h)(e:H a=some (uH o l)):∃ its:List Value,Vals l its/\h.IsList a its.toArray:=by obtain⟨ho,_,z,its,n,r,h1⟩:=ok a _ e;exact⟨its,r,⟨_,h1,rfl,n,rfl⟩⟩
def Itf(a:Addr)(o:Obj)(l:List V):It:=
 ⟨λ i H=>H a=some (uH o l)/\i<l.length,λ i H x H'=>H'=H/\l[i]? =some x,λ i H=>H a=some (uH o l)/\l.length<=i⟩
theorem vq{P:Program}{w:World}{K:PySem.W.Frag}{tg:Expr}(a it:Addr)(o:Obj)(l:List V):Turn P w K tg (Itf a o l) [it] it (λ i h=>h.IsListIter it a i) where
 mem:=by simp
 obj:=λ i h st b hb=>by
  have e:b=it:=by simpa using hb
  subst e;obtain⟨o,e,c,d⟩:=st;exact⟨o,e,λ v z=>by rw[d] at z;cases z⟩
 keep:=λ i h h' st k=>st.at λ o e=>k it (by simp) o e
 item:=by intro X hP hw hK hc i pins s σ H E I hf st ⟨hg,hi⟩;subst hP hw hK;obtain⟨its,rv,p⟩:=l9 I.hok hg;obtain⟨u,hu,ru⟩:=rv.get (List.getElem?_eq_getElem hi);obtain⟨f0,f1,f2,f3,f4,f5⟩:=hf it (by simp);refine wpAny_pyNext_list_item st p (x:=u) (by simpa using hu) λ h' st' sb=>?_;have I1:Inv X pins σ H {s with heap:=h'}:=I.turned (t':=s.toks) (λ b o hb e=>(sb.2 b hb).trans e) f0 f1 f3 f4 f5;obtain⟨o,e,c,d⟩:=id st';exact⟨u,rfl,vA (s:={s with heap:=h'}) e c d (by decide) ⟨_,H,I1,ru,⟨rfl,List.getElem?_eq_getElem hi⟩,st',λ b hb=>(hf b hb).1⟩⟩
 done:=by intro X hP hw hK hc i pins s σ H E I hf st ⟨hg,hi⟩;subst hP hw hK;obtain⟨its,rv,p⟩:=l9 I.hok hg;obtain⟨f0,f1,f2,f3,f4,f5⟩:=hf it (by simp);have hl:=rv.length;exact wpAny_pyNext_list_end (I.ok.hd hc) st p (by simp;omega) λ h' eb=>⟨rfl,I.turned (t':=s.toks) (λ b o hb e=>eb b o hb e) f0 f1 f3 f4 f5⟩
 self:=λ _ _ _ _ _ st h=>wpAny_pyIter_listiter st h
section
variable {X:Cx}{K:PySem.W.Frag}{tg o:Expr}
def agw(td:TE):TI:=λ σ H R=>td σ H λ x H1=>∃ a o l,x=.ref a/\H1 a=some (uH o l)/\R (Itf a o l) H1
theorem aaJ{td:TE}(ho:PE X o td):PI X tg o (agw td):=by
 intro pins s σ H R I h;refine thn (ho pins s σ H _ I h) λ v s1 hq113=>?_;obtain⟨x,H1,I1,r1,a,ob,l,ex,hg,q⟩:=hq113;subst ex;cases r1;obtain⟨its,rv,p⟩:=l9 I1.hok hg;refine wpAny_pyIter_list p ?_;refine⟨s1.heap.objs.size,[s1.heap.objs.size],_,_,H1,rfl,I1.kept (t':=s1.toks) λ b o e=>Heap.get?_push_of_some _ e,vq a _ ob l,⟨_,Heap.get?_push_size _ rfl,rfl,rfl⟩,λ b hb=>?_,q⟩;have e:b=s1.heap.objs.size:=by simpa using hb
 subst e;exact I1.p9 (Nat.le_refl _) (I1.hok.fresh (Nat.le_refl _))
def jy(td:TD)(τ:DS)(M:MH)(R:List W->MH->Prop):Prop:=td τ M λ w M1=>∃ a ws,w=.m a/\M1 a=some (.flst ws)/\R ws M1
theorem ub{td:TD}(ho:PD X o td):PId X tg o (jy td):=aet (aaJ ho) λ σ H R hq114=>by obtain⟨τ,M,Rd,A,h,k⟩:=hq114;refine⟨τ,M,_,A,h,λ v H1 w M1 kp r m hq115=>?_⟩;obtain⟨a,ws,ew,hm,q⟩:=hq115;subst ew;obtain⟨ob,l,e,pr⟩:=m _ _ hm;refine⟨a,ob,l,r,e,k _ H1 _ M1 kp m (λ H2 kp2 i=>?_) q⟩;have hl:=pr.length;have e2:=kp2.frz a ob _ e;refine⟨λ hi=>⟨e2,by omega⟩,λ hi=>⟨e2,by omega⟩,λ x H' hi hq116=>?_⟩;obtain⟨eH,ex⟩:=hq116;subst eH;have hi2:i<ws.length:=hi;obtain⟨x',ex',rx⟩:=aN.get (aN.keep kp2 pr) (List.getElem?_eq_getElem hi2);rw[ex'] at ex;cases ex;exact⟨Kp.refl _,λ M m=>m,ws[i],List.getElem?_eq_getElem hi2,rx⟩
end
end D
namespace D
open L2
section
variable {X:Cx}{o:Expr}{td:TD}{apos cpos:Pos}
end
namespace Q
section
variable {X:Cx}{pos:Pos}
theorem mB{e:Expr}{t:TD}(h:Jd (PD X e t)):Jd (PD X e (k9 t)):=⟨D.vK h.h⟩
theorem wk{st:Stmt}{t:TSd}(h:Jd (PSd X st t)):Jd (PSd X st (o5 t)):=⟨D.t7 h.h⟩
theorem hV{tg o:Expr}{td:TD}(ho:Jd (PD X o td)):Jd (PId X tg o (jy td)):=⟨D.ub ho.h⟩
end
end Q
end D
namespace D
open L2
section
variable {X:Cx}{tg iter elt:Expr}{pos:Pos}{sc:Scope}{own:List Str}{fr:List Nat}{di:TId}{g:TGd}{tt:TTd}{te:TD}{ifs:List Expr}
theorem tq{i:Nat}{x:Str}{pos' spos:Pos}(hN:X.N.Nodup)(hi':X.N[i]? =some x)(hx:Loc X.env.scope x)(hc:X.calm=true)(L:jN X sc own fr)(hi:PId X tg iter di)
  (hg:∀ cl C s H ex pl,PGd (blk X sc (lcN X own fr) cl C s H ex pl) tg g)(ht:∀ cl C s H ex pl,mW (blk X sc (lcN X own fr) cl C s H ex pl) ifs tt)(he:∀ cl C s H ex pl,PD (blk X sc (lcN X own fr) cl C s H ex pl) elt te)
  (hsw:swapsWith (.ListComp elt [⟨tg,iter,ifs,0⟩] sc pos) (some (.Name x pos')) spos.line X.env=pure true:=by rfl)
  (hs:∀ x,foldedSetIterable iter X.env x=pure x:=by intro _;rfl)(hf:X.fn x=true\/X.env.scope.names.lookup x=some .local:=by first | exact .inl rfl | exact .inr rfl | assumption) :
  PSd X (.Assign [.Name x pos'] (.ListComp elt [⟨tg,iter,ifs,0⟩] sc pos) spos) (bD (wA di g tt te own.length fr) (gN i)):=qb (oG hN hi' hx hc L hi hg ht he hsw hs hf) λ D σ H hq117=>by
 obtain⟨τ,M,Dd,A,h,k1,_⟩:=hq117;have z:up X.K (wA di g tt te own.length fr) σ H (λ v H'=>D.nx (σ.set i (some v)) H'):=⟨τ,M,_,A,h,λ v H1 w M1 kp r m q=>k1 _ H1 _ M1 kp ((A.go kp m).set i r) q⟩;exact wK z
end
namespace Q
section
variable {X:Cx}{tg iter elt:Expr}{pos:Pos}{sc:Scope}{own:List Str}{fr:List Nat}{di:TId}{g:TGd}{tt:TTd}{te:TD}{ifs:List Expr}
theorem jr{i:Nat}{x:Str}{pos' spos:Pos}(hN:X.N.Nodup)(hi':X.N[i]? =some x)(hx:Loc X.env.scope x)(hc:X.calm=true)(L:jN X sc own fr)(hi:Jd (PId X tg iter di))
  (hg:∀ cl C s H ex pl,Jd (PGd (blk X sc (lcN X own fr) cl C s H ex pl) tg g))(ht:∀ cl C s H ex pl,Jd (mW (blk X sc (lcN X own fr) cl C s H ex pl) ifs tt))(he:∀ cl C s H ex pl,Jd (PD (blk X sc (lcN X own fr) cl C s H ex pl) elt te))
  (hsw:swapsWith (.ListComp elt [⟨tg,iter,ifs,0⟩] sc pos) (some (.Name x pos')) spos.line X.env=pure true:=by rfl)
  (hs:∀ x,foldedSetIterable iter X.env x=pure x:=by intro _;rfl)(hf:X.fn x=true\/X.env.scope.names.lookup x=some .local:=by first | exact .inl rfl | exact .inr rfl | assumption) :
  Jd (PSd X (.Assign [.Name x pos'] (.ListComp elt [⟨tg,iter,ifs,0⟩] sc pos) spos) (bD (wA di g tt te own.length fr) (gN i))):=⟨D.tq hN hi' hx hc L hi.h (λ cl C s H ex pl=>(hg cl C s H ex pl).h) (λ cl C s H ex pl=>(ht cl C s H ex pl).h) (λ cl C s H ex pl=>(he cl C s H ex pl).h) hsw hs hf⟩
end
end Q
end D
namespace D
open PySem
theorem ahZ{us:List Value}(h:us.length=0):us=[]:=by exact List.eq_nil_of_length_eq_zero h
theorem gh{us:List Value}(h:us.length=1):∃ a1:Value,us=[a1]:=by
 cases us with
 | nil=>simp at h
 | cons a r =>
  have e:r=[]:=ahZ (by simpa using h);subst e;exact⟨a,rfl⟩
theorem lE{us:List Value}(h:us.length=2):∃ a1 a2:Value,us=[a1,a2]:=by
 cases us with
 | nil=>simp at h
 | cons a r =>
  obtain⟨b1,e⟩:=gh (us:=r) (by simpa using h);subst e;exact⟨a,b1,rfl⟩
theorem yD{us:List Value}(h:us.length=3):∃ a1 a2 a3:Value,us=[a1,a2,a3]:=by
 cases us with
 | nil=>simp at h
 | cons a r =>
  obtain⟨b1,b2,e⟩:=lE (us:=r) (by simpa using h);subst e;exact⟨a,b1,b2,rfl⟩
open PySem.Spec PyProof.Rows L2
section
variable {X:Cx}{K:PySem.W.Frag}
variable {o e f:Expr}{td te tf:TD}{apos cpos:Pos}
end
namespace Q
end Q
end D
namespace D
open L2
section
variable {X:Cx}{K:PySem.W.Frag}
end
section
variable {X:Cx}{K:PySem.W.Frag}
end
namespace Q
end Q
end D
namespace D
open L2
section
variable {K:PySem.W.Frag}
def zO(di:TId)(g:TGd)(tt:TTd)(te:TD)(k:Nat)(fr:List Nat)(τ:DS)(M:MH)(Q:QD):Prop:=di τ M λ ws M1=>∃ P:Nat->List W->DS->MH->Prop,P 0 [] (abX k fr τ) M1 /\
 (∀ i w acc τ M,ws[i]? =some w->P i acc τ M->acc.length<sizeLine/\g w τ M λ τ2 M2=>tt τ2 M2 λ b M3=>if b=true then te τ2 M3 λ y M4=>P (i+1) (acc++[y]) τ2 M4 else P (i+1) acc τ2 M3) /\
 ∀ acc τ M,P ws.length acc τ M->∀ p,M p=none->Q (.m p) (aE M p (.lst acc))
theorem xt{di:TId}{g:TGd}{tt:TTd}{te:TD}{k:Nat}{fr:List Nat}{σ:St}{H:Hp}{Q:VK}(h:up K (zO di g tt te k fr) σ H Q) :
  tLC (upI K di) (upG K g) (upT K tt) (up K te) k fr σ H Q:=by
 obtain⟨τ,M,Qd,A,h,kk⟩:=h;refine⟨τ,M,_,A,h,λ J H1 ws M1 kp m1 it hq118=>?_⟩;obtain⟨P,p0,pt,pe⟩:=hq118;refine⟨λ i n ys σ' H'=>n=ws.length-i/\i<=ws.length/\Kp H1 H'/\∃ acc τ M,aN K H' acc ys/\Abs K H' σ' τ M/\P i acc τ M,⟨ws.length,by simp,Nat.zero_le _,Kp.refl _,[],_,M1,Paired.nil,qj (A.go kp m1) k fr,p0⟩,?_⟩;rintro i n ys σ2 H2 ⟨rfl,hi,kp2,acc,τ2,M2,ra,A2,p2⟩;obtain⟨go,stop,yld⟩:=it H2 kp2 i
 by_cases hlt:i<ws.length
 ·have hlen:=ra.length;refine .inr ⟨go hlt,?_,λ x H3 y=>?_⟩
  ·obtain⟨w,hw⟩:∃ w,ws[i]? =some w:=⟨ws[i],by simp[hlt]⟩;have:=(pt i w acc τ2 M2 hw p2).1;omega
  obtain⟨kp3,mk,w,ew,rw⟩:=yld x H3 hlt y;refine⟨w,τ2,M2,_,rw,A2.go kp3 (mk _ A2.mem),(pt i w acc τ2 M2 ew p2).2,λ σ4 H4 τ4 M4 kp4 A4 q4=>⟨τ4,M4,_,A4,q4,λ b H5 M5 kp5 m5 q5=>?_⟩⟩;have kq:=(kp3.trans kp4).trans kp5;cases b with
  | false =>
   rw[if_neg Bool.false_ne_true] at q5;show(if false=true then _ else _);rw[if_neg Bool.false_ne_true];exact⟨ws.length-(i+1),by omega,rfl,hlt,kp2.trans kq,acc,τ4,M5,aN.keep kq ra,A4.go kp5 m5,q5⟩
  | true =>
   rw[if_pos rfl] at q5;show(if true=true then _ else _);rw[if_pos rfl];refine⟨τ4,M5,_,A4.go kp5 m5,q5,λ v H6 wv M6 kp6 r6 m6 q6=>?_⟩;refine⟨ws.length-(i+1),by omega,rfl,hlt,kp2.trans (kq.trans kp6),acc++[wv],τ4,M6,aN.append (aN.keep (kq.trans kp6) ra) (.cons r6 .nil),A4.go (kp5.trans kp6) m6,q6⟩
 ·have hl:i=ws.length:=by omega
  subst hl;refine .inl ⟨stop (Nat.le_refl _),λ p hp=>?_⟩;have kp9:Kp H2 (upd H2 p (.lst ys)):=Kp.new hp;exact kgo kk (kp.trans kp2) _ _ (.m p) _ kp9 rfl (A2.mem.put (mo:=.lst acc) kp9 ⟨_,ar,aN.keep kp9 ra⟩) (pe acc τ2 M2 p2 p (A2.mem.free hp))
variable {X:Cx}{sc:Scope}{own:List Str}{fr:List Nat}{di:TId}{g:TGd}{tt:TTd}{te:TD}{tg iter elt:Expr}{ifs:List Expr}{pos:Pos}
theorem adv(hc:X.calm=true)(L:jN X sc own fr)(hi:PId X tg iter di)
  (hg:∀ cl C s H ex pl,PGd (blk X sc (lcN X own fr) cl C s H ex pl) tg g)(ht:∀ cl C s H ex pl,mW (blk X sc (lcN X own fr) cl C s H ex pl) ifs tt)(he:∀ cl C s H ex pl,PD (blk X sc (lcN X own fr) cl C s H ex pl) elt te)
  (hs:∀ x,foldedSetIterable iter X.env x=pure x:=by intro _;rfl):PD X (.ListComp elt [⟨tg,iter,ifs,0⟩] sc pos) (zO di g tt te own.length fr):=
 eQ (acU hc L hi hg ht he hs) λ σ H Q h=>xt h
end
section
variable {X:Cx}{tg iter elt:Expr}{pos:Pos}{sc:Scope}{own:List Str}{fr:List Nat}{di:TId}{g:TGd}{tt:TTd}{te:TD}{ifs:List Expr}
theorem sS{i:Nat}{x:Str}{pos' spos:Pos}(hN:X.N.Nodup)(hi':X.N[i]? =some x)(hx:Loc X.env.scope x)(hc:X.calm=true)(L:jN X sc own fr)(hi:PId X tg iter di)
  (hg:∀ cl C s H ex pl,PGd (blk X sc (lcN X own fr) cl C s H ex pl) tg g)(ht:∀ cl C s H ex pl,mW (blk X sc (lcN X own fr) cl C s H ex pl) ifs tt)(he:∀ cl C s H ex pl,PD (blk X sc (lcN X own fr) cl C s H ex pl) elt te)
  (hsw:swapsWith (.ListComp elt [⟨tg,iter,ifs,0⟩] sc pos) (some (.Name x pos')) spos.line X.env=pure true:=by rfl)
  (hs:∀ x,foldedSetIterable iter X.env x=pure x:=by intro _;rfl)(hf:X.fn x=true\/X.env.scope.names.lookup x=some .local:=by first | exact .inl rfl | exact .inr rfl | assumption) :
  PSd X (.Assign [.Name x pos'] (.ListComp elt [⟨tg,iter,ifs,0⟩] sc pos) spos) (bD (zO di g tt te own.length fr) (gN i)):=qb (oG hN hi' hx hc L hi hg ht he hsw hs hf) λ D σ H hq119=>by
 obtain⟨τ,M,Dd,A,h,k1,_⟩:=hq119;have z:up X.K (zO di g tt te own.length fr) σ H (λ v H'=>D.nx (σ.set i (some v)) H'):=⟨τ,M,_,A,h,λ v H1 w M1 kp r m q=>k1 _ H1 _ M1 kp ((A.go kp m).set i r) q⟩;exact xt z
end
namespace Q
section
variable {X:Cx}{tg iter elt:Expr}{pos:Pos}{sc:Scope}{own:List Str}{fr:List Nat}{di:TId}{g:TGd}{tt:TTd}{te:TD}{ifs:List Expr}
theorem ab3(hc:X.calm=true)(L:jN X sc own fr)(hi:Jd (PId X tg iter di))
  (hg:∀ cl C s H ex pl,Jd (PGd (blk X sc (lcN X own fr) cl C s H ex pl) tg g))(ht:∀ cl C s H ex pl,Jd (mW (blk X sc (lcN X own fr) cl C s H ex pl) ifs tt))(he:∀ cl C s H ex pl,Jd (PD (blk X sc (lcN X own fr) cl C s H ex pl) elt te))
  (hs:∀ x,foldedSetIterable iter X.env x=pure x:=by intro _;rfl):Jd (PD X (.ListComp elt [⟨tg,iter,ifs,0⟩] sc pos) (zO di g tt te own.length fr)):=
 ⟨D.adv hc L hi.h (λ cl C s H ex pl=>(hg cl C s H ex pl).h) (λ cl C s H ex pl=>(ht cl C s H ex pl).h) (λ cl C s H ex pl=>(he cl C s H ex pl).h) hs⟩
variable {o:Expr}{td:TD}{apos cpos kpos kp:Pos}{j:Nat}
theorem nQ{i:Nat}{x:Str}{pos' spos:Pos}(hN:X.N.Nodup)(hi':X.N[i]? =some x)(hx:Loc X.env.scope x)(hc:X.calm=true)(L:jN X sc own fr)(hi:Jd (PId X tg iter di))
  (hg:∀ cl C s H ex pl,Jd (PGd (blk X sc (lcN X own fr) cl C s H ex pl) tg g))(ht:∀ cl C s H ex pl,Jd (mW (blk X sc (lcN X own fr) cl C s H ex pl) ifs tt))(he:∀ cl C s H ex pl,Jd (PD (blk X sc (lcN X own fr) cl C s H ex pl) elt te))
  (hsw:swapsWith (.ListComp elt [⟨tg,iter,ifs,0⟩] sc pos) (some (.Name x pos')) spos.line X.env=pure true:=by rfl)
  (hs:∀ x,foldedSetIterable iter X.env x=pure x:=by intro _;rfl)(hf:X.fn x=true\/X.env.scope.names.lookup x=some .local:=by first | exact .inl rfl | exact .inr rfl | assumption) :
  Jd (PSd X (.Assign [.Name x pos'] (.ListComp elt [⟨tg,iter,ifs,0⟩] sc pos) spos) (bD (zO di g tt te own.length fr) (gN i))):=⟨D.sS hN hi' hx hc L hi.h (λ cl C s H ex pl=>(hg cl C s H ex pl).h) (λ cl C s H ex pl=>(ht cl C s H ex pl).h) (λ cl C s H ex pl=>(he cl C s H ex pl).h) hsw hs hf⟩
end
end Q
end D
namespace XO
open PySem.W Builtin.ObjectAttr
def agg:List Value:=[.type "ValueError",.type "Exception",.type "BaseException",.type "object"]
def uR:List Value->Bool
 | .ref _::r=>uR r
 | l=>l==agg
def aiY(K:Frag)(C:Addr):Bool:=(clsIn K C).any λ cd=>cd.hasDict&&uR cd.mro
section
variable {prog:Program}{w:World}{A:Around}{E:Value->Shared->Prop}{s:Shared}{K:Frag}{x C:Addr}{name:Str}{v:Value}
end
section
variable {prog:Program}{w:World}{A:Around}{E:Value->Shared->Prop}{s:Shared}{K:Frag}{x C:Addr}{name:Str}{v:Value}{ox:Obj}{od:Option Obj}
structure XC(K:Frag)(C:Addr):Prop where
 x:aiY K C=true
 sa:findIn K (.ref C) "__setattr__" = some (some (.builtin "object.__setattr__"))
 ga:findIn K (.ref C) "__getattribute__" = some (some (.builtin "BaseException.__getattribute__"))
 gt:findIn K (.ref C) "__getattr__" = some none
 cl:findIn K (.ref C) "__class__" = some (some (.builtin "object.__class__"))
 cg:specialIn K (.builtin "object.__class__") "__get__" = some (some (.builtin "getset_descriptor.__get__"))
 ct:takesIn K (.builtin "object.__class__")=some true
end
section
variable {prog:Program}{w:World}{A:Around}{E:Value->Shared->Prop}{K:Frag}{C f:Addr}{h:Heap}{g:Array GenState}{d:Drawn}{t:Nat}{os:OsState}
end
abbrev aiH(C:Addr)(dct:Option Addr)(vs:Array Value):Obj:={cls:=.ref C,dict:=dct,data:=.fields vs}
def Tb(h:Heap)(e:Addr)(vs:Array Value):Prop:=vs[1]? =some .none\/∃ T oT ts,vs[1]? =some (.ref T)/\T≠e/\h.get? T=some oT/\oT.data=.fields ts/\ts[3]? =some .none
section
variable {M:Model}{A:Around}{E:Value->Shared->Prop}{s:Shared}{base:Heap}{env:PySem.Env}{outer:List PySem.Env}{L e C:Addr}{dct:Option Addr}{vs:Array Value}
end
end XO
namespace L2
open XO
def XF(e C:Addr)(dct:Option Addr):Heap->Prop:=λ h=>∃ vs,h.get? e=some (aiH C dct vs)
def Air(H:Hp)(h:Heap)(e:Addr):Prop:=∃ C dct vs,H e=some (.ext (XF e C dct))/\h.get? e=some (aiH C dct vs)/\Tb h e vs
section
variable {X:Cx}{pins:List (Addr×Obj)}{σ:St}{H:Hp}{s:Shared}{a:Addr}
end
section
variable {X:Cx}{CX:CXT}{k:Nat}{f C:Addr}{fd:FuncData}{ps:List Str}{sp:Sp}{E:XK}{pins:List (Addr×Obj)}{σ:St}{H:Hp}{s:Shared}{Q:VK}{us:List Value}{vs:List V}
end
end L2
namespace D
open L2 XO
abbrev XQ:=Addr->MH->Prop
abbrev XE:=Addr->DS->MH->Prop
abbrev SpX:=List W->MH->QD->XQ->Prop
section
variable {P:Program}{w:World}{K:PySem.W.Frag}{mg:Str->Option Value}{base:Heap}
end
section
variable {X:Cx}{pos p apos:Pos}{k:Nat}{f C:Addr}{fd:FuncData}{ps:List Str}{sp:SpX}{x m:Str}{e o:Expr}{es:List Expr}{t:TAd}{td:TD}{E:XE}
end
end D
namespace XO
open PySem.W
section
variable {prog:Program}{w:World}{A:Around}{E:Value->Shared->Prop}{s:Shared}{K:Frag}{env:PySem.Env}
end
end XO
namespace L2
open XO
section
variable {X:Cx}{pins:List (Addr×Obj)}{σ:St}{H:Hp}{s:Shared}{a dx C:Addr}
end
section
variable {X:Cx}{o value:Expr}{f:Str}{pos pos':Pos}{ta tv:TE}{C:Addr}
end
section
variable {P:Program}{w:World}{K:PySem.W.Frag}{mg:Str->Option Value}{base:Heap}{C f:Addr}{fd:FuncData}{qual:Str}{st:Stmt}
end
end L2
namespace D
open L2 XO
section
variable {X:Cx}{pos p cpos:Pos}{k:Nat}{f C:Addr}{fd:FuncData}{ps fs:List Str}{x:Str}{e:Expr}{es:List Expr}{t:TAd}{E:XE}
end
end D
namespace L2
open XO
section
variable {X:Cx}{pins:List (Addr×Obj)}{σ:St}{H:Hp}{s:Shared}{xe:Value->Shared->Prop}
end
end L2
namespace D
open L2 XO
section
variable {X:Cx}{pos np hpos:Pos}{body suite:List Stmt}{b0:Stmt}{hs:List ExceptHandler}{h0:ExceptHandler}{tb:XE->TSd}{th rest:Addr->TSd}{ts:TSd}
end
section
variable {X:Cx}{pos p:Pos}{o ce:Expr}{td:TD}{f:Str}
end
def ajv(l:List (Addr×Bool))(C:Addr):Option Bool:=l.lookup C
inductive ahE(P:Addr->Bool->Prop):List (Addr×Bool)->Prop
 | nil:ahE P []
 | cons {a:Addr} {b:Bool} {l:List (Addr×Bool)}:P a b->ahE P l->ahE P ((a,b)::l)
inductive ahc(P:Addr->Prop):List Addr->Prop
 | nil:ahc P []
 | cons {a:Addr} {l:List Addr}:P a->ahc P l->ahc P (a::l)
namespace Q
section
variable {X:Cx}{pos p p' apos cpos np hpos:Pos}{k:Nat}{f C:Addr}{fd:FuncData}{ps fs:List Str}{sp:SpX}{x m n:Str}{e o:Expr}{es:List Expr}{t:TAd}{td:TD}{E:XE}
variable {body suite:List Stmt}{b0:Stmt}{hs:List ExceptHandler}{h0:ExceptHandler}{tb:XE->TSd}{th rest:Addr->TSd}{ts:TSd}
end
end Q
end D
namespace D
open L2
section
variable {X:Cx}{K:PySem.W.Frag}
end
section
variable {X:Cx}{K:PySem.W.Frag}
def aen(d:PyData)(ds:List PyData):Bool:=rH d&&rH (.list ds)
theorem adg{A:Around}{k:Nat}(hr:c4 k A){d:PyData}{ds:List PyData}(h:SeqAt.shaped d=true):A.units+1+min (PyData.depthAll ds) d.depth<cLine:=by have h1:=SeqAt.depth_of_shaped h;have h2:min (PyData.depthAll ds) d.depth<=d.depth:=Nat.min_le_right _ _;have:=hr.un;omega
variable {o e:Expr}{td te:TD}{apos cpos:Pos}
end
namespace Q
section
variable {X:Cx}{o e tg:Expr}{td te:TD}{apos cpos:Pos}
end
end Q
end D
namespace D
open L2
section
variable {X:Cx}{tg o:Expr}
end
section
variable {X:Cx}
def ah7(te:TD)(tl th:TOd)(τ:DS)(M:MH)(Q:QD):Prop:=te τ M λ w M1=>tl τ M1 λ lo M2=>th τ M2 λ hi M3=>∃ a ws,w=.m a/\M3 a=some (.lst ws)/\∀ p,M3 p=none->Q (.m p) (aE M3 p (.lst (cutD ws lo hi)))
theorem aN.cut{K:PySem.W.Frag}{H:Hp}{ws:List W}{vs:List V}(r:aN K H ws vs)(lo hi:Option Int):aN K H (cutD ws lo hi) (yQ vs lo hi):=by
 unfold cutD yQ;have hl:=r.length;rw[hl];have dr:∀ (n:Nat) {ws:List W} {vs:List V},aN K H ws vs->aN K H (ws.drop n) (vs.drop n):=by
  intro n
  induction n with
  | zero=>intro ws vs h;exact h
  | succ n ih =>
   intro ws vs h;cases h with
   | nil=>exact .nil
   | cons a b=>exact ih b
 have tk:∀ (n:Nat) {ws:List W} {vs:List V},aN K H ws vs->aN K H (ws.take n) (vs.take n):=by
  intro n
  induction n with
  | zero=>intro ws vs h;exact .nil
  | succ n ih =>
   intro ws vs h;cases h with
   | nil=>exact .nil
   | cons a b=>exact .cons a (ih b)
 exact tk _ (dr _ r)
theorem vt{e:Expr}{te:TD}{lo hi:Option Expr}{tl th:TOd}{pos p2:Pos}(he:PD X e te)(hl:POd X lo tl)(hu:POd X hi th):PD X (.Subscript e (.Slice lo hi none p2) pos) (ah7 te tl th):=
 eQ (uz yA he hl hu) λ σ H Q h=>by obtain⟨τ,M,Qd,A,h,k⟩:=h;refine⟨τ,M,_,A,h,λ x H1 w M1 kp1 r1 m1 q1=>⟨τ,M1,_,A.go kp1 m1,q1,λ lo' H2 M2 kp2 m2 q2=>⟨τ,M2,_,A.go (kp1.trans kp2) m2,q2,λ hi' H3 M3 kp3 m3 hq120=>?_⟩⟩⟩;obtain⟨a,ws,ew,hm,q3⟩:=hq120;subst ew;obtain⟨vs,e,ra⟩:=m3 _ _ hm;refine⟨a,vs,r1,.of e,λ p hp=>?_⟩;have kp4:Kp H3 (upd H3 p (.lst (yQ vs lo' hi'))):=Kp.new hp;exact k _ _ (.m p) _ (((kp1.trans kp2).trans kp3).trans kp4) rfl (m3.put (mo:=.lst (cutD ws lo' hi')) kp4 ⟨_,ar,aN.keep kp4 (aN.cut ra lo' hi')⟩) (q3 p (m3.free hp))
end
section
variable {X:Cx}{pos:Pos}
end
namespace Q
section
variable {X:Cx}{tg o:Expr}{td:TD}
theorem xX{e:Expr}{te:TD}{lo hi:Option Expr}{tl th:TOd}{pos p2:Pos}(he:Jd (PD X e te))(hl:Jd (POd X lo tl))(hu:Jd (POd X hi th)):Jd (PD X (.Subscript e (.Slice lo hi none p2) pos) (ah7 te tl th)):=⟨D.vt he.h hl.h hu.h⟩
end
end Q
end D
namespace D
open L2
def yG(v:Value):PyData->Bool
 | .str z=>match v with
  | .str x _=>decide (x=z)
  | _=>false
 | .int i=>match v with
  | .int j _=>decide (j=i)
  | _=>false
 | _=>false
def uv:List Value->List PyData->Bool
 | [],[]=>true
 | v::vs,d::ds=>yG v d&&uv vs ds
 | _,_=>false
def ahI(K:PySem.W.Frag)(v:Value):PyData->Bool
 | .tuple ds=>match v with
  | .ref a=>match K.lookup a with
   | some o=>(match o.cls with
    | .type n=>decide (n = "tuple")
    | _=>false)&&o.dict.isNone&&(match o.data with
    | .seq its _=>decide (its.size<=100)&&uv its.toList ds
    | _=>false)
   | none=>false
  | _=>false
 | d=>yG v d
def xI(K:PySem.W.Frag):List DictEntry->List (Str×PyData)->Bool
 | [],[]=>true
 | e::es,(k,d)::kvs=>yG e.key (.str k)&&ahI K e.val d&&xI K es kvs
 | _,_=>false
def aji(K:PySem.W.Frag)(a:Addr)(kvs:List (Str×PyData)):Bool:=match K.lookup a with
 | some o=>(match o.cls with
  | .type n=>decide (n = "dict")
  | _=>false)&&o.dict.isNone&&decide (o.slots.size=0)&&(match o.data with
  | .dict es _=>xI K es.toList kvs
  | _=>false)
 | none=>false
def hashesOf(K:PySem.W.Frag)(a:Addr):Option (List Int):=match K.lookup a with
 | some o=>match o.data with
  | .dict es _=>some (es.toList.map (·.hash))
  | _=>none
 | none=>none
structure ajo(w:World)(K:PySem.W.Frag)(a:Addr)(kvs:List (Str×PyData)):Prop where
 is:aji K a kvs=true
 hs:hashesOf K a=some (kvs.map λ p=>PyData.keyHash w.params p.1)
 nd:(kvs.map (·.1)).Nodup
 ns:(a==sysModules)=false
section
variable {X:Cx}{pins:List (Addr×Obj)}{σ:St}{H:Hp}{s:Shared}{a:Addr}{kvs:List (Str×PyData)}
end
section
variable {X:Cx}{e:Expr}{a:Addr}{x:Str}{kvs:List (Str×PyData)}{pos p apos cpos:Pos}{ty:TE}{te:TD}
end
namespace Q
section
variable {X:Cx}{e:Expr}{a:Addr}{x:Str}{kvs:List (Str×PyData)}{pos p apos cpos:Pos}{te:TD}
end
end Q
end D
namespace D
open L2
section
variable {X:Cx}
def ahN:V->List V->Hp->VK->Prop:=λ x vs H Q=>∃ a c kvs more,x=.ref a/\vs=[.ref c]/\H a=some (.dK kvs)/\Rd H c (.dK more)/\a≠c/\kvs.length+more.length<=sizeLine/\Q .non (upd H a (.dK (fY kvs more)))
theorem adz:MtM X "dict.update" ahN:=by intro pins s σ H x vs v us Q I rx rv h;obtain⟨a,c,kvs,more,rfl,rfl,ha,hc,ne,hz,q⟩:=h;cases rx;obtain⟨u,rfl,ru⟩:=rv.one;cases ru;obtain⟨_,hd,ws,rel,dd⟩:=aak I.hok ha;obtain⟨_,hd2,ws2,rel2,dd2⟩:=xG I.hok hc;refine call_meetsIn PySem.F.slot_dict_update dd.typeIs PySem.F.entry_dict_update (PySem.F.args_dict_update_2 _ _) (meets_dict_update (aW X.prog X.w) a c ne hd2) ⟨ws,ws2,dd,dd2,by rw[<- rel.length,<- rel2.length];exact hz,λ h' dd' _ sb=>?_⟩;have hl:=fX more kvs;have he:∃ q,h'.get? a=some q:=let ⟨q,_,_,hq,_⟩:=dd'; ⟨q,hq⟩;exact⟨.non,_,kC (t':=s.toks) I (by rw[ha];exact True.intro) sb he (va (by omega) hd (KV.merge rel2 rel) dd'),rfl,q⟩
variable {o e:Expr}{td te:TD}{apos cpos:Pos}
end
namespace Q
section
variable {X:Cx}{o e:Expr}{td te:TD}{apos cpos:Pos}
end
end Q
end D
namespace PySem.SeqAt
open PySem.AutoSeq1 (wpAny_loadPart')
open MeetsSeq MeetsSeq2 MeetsSeq3 SeqRoads2
end PySem.SeqAt
namespace ZT
section
variable {prog:Program}{w:World}{A:Around}{E:Value->Shared->Prop}{s:Shared}
abbrev TT(h:Heap)(j t:Addr)(k:Nat)(ys:Array Value):Prop:=h.IsTupleIter j t k/\h.IsTuple t ys
def isIt(b:Bool)(h:Heap)(j t:Addr)(k:Nat):Prop:=match b with
 | true=>h.IsTupleIter j t k
 | false=>h.IsListIter j t k
def aiP(b:Bool)(h:Heap)(t:Addr)(ys:Array Value):Prop:=match b with
 | true=>h.IsTuple t ys
 | false=>h.IsList t ys
abbrev TI(b:Bool)(h:Heap)(j t:Addr)(k:Nat)(ys:Array Value):Prop:=isIt b h j t k/\aiP b h t ys
variable {p₁ p₂:Bool}{z T O i j a b:Addr}{k:Nat}{xs ys:Array Value}{u v:Value}
end
section
variable {prog:Program}{w:World}{A:Around}{E:Value->Shared->Prop}{s:Shared}
end
end ZT
namespace D
open L2
section
variable {X:Cx}{a b:Expr}{p pos:Pos}{ta:TA}
end
section
variable {X:Cx}{K:PySem.W.Frag}{a b:Expr}{p pos:Pos}{t:TAd}
end
section
variable {X:Cx}{K:PySem.W.Frag}
def ad6(ds:List PyData)(d:PyData)(j:Nat):Prop:=j<ds.length/\(∀ y,ds[j]? =some y->PyData.eqv y d=true)/\∀ m y,m<j->ds[m]? =some y->PyData.eqv y d=false
variable {o e:Expr}{td te:TD}{apos cpos:Pos}
end
namespace Q
section
variable {X:Cx}{o e a b:Expr}{td te:TD}{apos cpos p pos:Pos}
end
end Q
end D
namespace D
open L2
section
variable {X:Cx}{K:PySem.W.Frag}
end
section
variable {prog:Program}{w:World}{A:Around}{E:Value->Shared->Prop}{s:Shared}{x y:Str}{t u:Tok}{Q:Value->Shared->Prop}
end
section
variable {X:Cx}{K:PySem.W.Frag}
variable {o e:Expr}{td te:TD}{apos cpos:Pos}
end
section
variable {X:Cx}{e st:Expr}{te:TE}{ts:TO}{pos p2:Pos}
end
section
variable {X:Cx}{K:PySem.W.Frag}{e st:Expr}{te:TD}{ts:TOd}{pos p2:Pos}
end
section
variable {X:Cx}{e:Expr}{a:Addr}{x:Str}{kvs:List (Str×PyData)}{pos p:Pos}{ty:TE}{te:TD}
end
namespace Q
section
variable {X:Cx}{e st:Expr}{a:Addr}{x:Str}{kvs:List (Str×PyData)}{pos p p2:Pos}{te:TD}{ts:TOd}
end
section
variable {X:Cx}{o e:Expr}{td te:TD}{apos cpos:Pos}
end
end Q
end D
namespace XO
open PySem.W
section
variable {prog:Program}{w:World}{A:Around}{E:Value->Shared->Prop}{K:Frag}{C:Addr}{h:Heap}{g:Array GenState}{d:Drawn}{t:Nat}{os:OsState}
end
end XO
namespace D
open L2 XO
section
variable {X:Cx}{pos p cpos np hpos:Pos}{k:Nat}{f C:Addr}{x:Str}{e:Expr}{es:List Expr}{t:TAd}{E:XE}
variable {body suite:List Stmt}{b0:Stmt}{hs:List ExceptHandler}{th rest:Addr->TSd}{ts:TSd}
variable {fd:FuncData}{ps:List Str}{sp:SpX}{y:Str}{td:TD}
end
section
variable {X:Cx}{K:PySem.W.Frag}
variable {o e:Expr}{td te:TD}{apos cpos:Pos}
end
section
variable {X:Cx}{o e:Expr}{td te:TD}{apos cpos:Pos}
end
section
variable {X:Cx}{e st:Expr}{te:TE}{ts:TO}{pos p2:Pos}
end
section
variable {X:Cx}{e st:Expr}{te:TD}{ts:TOd}{pos p2:Pos}
end
section
variable {X:Cx}{K:PySem.W.Frag}
end
namespace Q
section
variable {X:Cx}{pos p cpos apos np hpos p2:Pos}{k:Nat}{f C:Addr}{x y:Str}{e o st:Expr}{es:List Expr}{t:TAd}{E:XE}{body suite:List Stmt}{b0:Stmt}{hs:List ExceptHandler}{rest:Addr->TSd}{ts:TSd}{fd:FuncData}{ps:List Str}{sp:SpX}{td te:TD}{to:TOd}
end
end Q
end D
namespace ZS
section
variable {prog:Program}{w:World}{A:Around}{E:Value->Shared->Prop}{s:Shared}
variable {z T O i j b:Addr}{k:Nat}{x:Str}{tk:Tok}{ys:Array Value}{u v:Value}
end
section
variable {prog:Program}{w:World}{A:Around}{E:Value->Shared->Prop}{s:Shared}
end
end ZS
namespace D
open L2
section
variable {X:Cx}{a b:Expr}{p pos:Pos}{ta:TA}
end
section
variable {X:Cx}{K:PySem.W.Frag}{a b:Expr}{p pos:Pos}{t:TAd}
end
section
variable {X:Cx}{K:PySem.W.Frag}
end
namespace Q
section
variable {X:Cx}{o e:Expr}{td te:TD}{apos cpos:Pos}
end
section
variable {X:Cx}{a b:Expr}{p pos:Pos}
end
end Q
end D
namespace RT
section
variable {prog:Program}{w:World}{A:Around}{E:Value->Shared->Prop}{s:Shared}
end
end RT
namespace D
open L2
section
variable {X:Cx}{pins:List (Addr×Obj)}{σ:St}{H:Hp}{s:Shared}
end
section
variable {X:Cx}
end
section
variable {X:Cx}{K:PySem.W.Frag}
variable {o e:Expr}{td:TD}{apos cpos:Pos}
variable {a:Expr}{ta:TA}{p p2 pos pos2:Pos}
end
namespace Q
section
variable {X:Cx}{k:Nat}{t:TAd}{td:TD}{a o e:Expr}{p p2 pos pos2 apos cpos:Pos}
end
end Q
end D
namespace L2
open PySem.W (envX kla_obj kla_fn)
def zN(X:Cx)(q:Str)(sc:Scope)(N':List Str)(cl:List (Str×Addr))(f c:Addr)(s:Shared)(H:Hp)(pins:List (Addr×Obj)):Cx:=
 {X with A:=X.A.deeper (envX q sc s.heap.objs.size f (.ref c) cl),N:=N',s₀:=s,H₀:=H,env:=envX q sc s.heap.objs.size f (.ref c) cl,outer:=X.stack,stack:=envX q sc s.heap.objs.size f (.ref c) cl::X.stack,ex:=[],fn:=λ _=>false,calm:=true,pn:=X.pn++pins,xe:=λ _ _=>False}
structure qX(X:Cx)(sc:Scope)(x:Str)(fr:List Nat):Prop where
 kind:sc.kind=.function
 co:sc.isCoroutine=false
 gen:sc.isGenerator=false
 cell:∀ y∈sc.names,y.2 ≠ .cell
 free:∀ y∈sc.names,y.2=.free->(X.env.kindOf y.1=some .cell\/X.env.kindOf y.1=some .free)
 own:sc.names.lookup x=some .local
 fr:aeB X.N sc fr=true
def w6(X:Cx)(x:Str)(fr:List Nat):List Str:=x::fr.map λ j=>X.N.getD j Str.empty
def ae9(v:V)(fr:List Nat)(σ:St):St:=some v::fr.map λ j=>(σ[j]?).getD none
section
variable {X:Cx}{pins:List (Addr×Obj)}{σ:St}{H:Hp}{s:Shared}{sc:Scope}{x q:Str}{fr:List Nat}{cl:List (Str×Addr)}{f c:Addr}
theorem aga(L:qX X sc x fr)(hc:X.calm=true)(I:Inv X pins σ H s)(c1:∀ n c,cl.lookup n=some c->X.env.cells.lookup n=some c)(c2:∀ n,(n,NameKind.free)∈sc.names->∃ c,cl.lookup n=some c):(zN X q sc (w6 X x fr) cl f c s H pins).Ok where
 mod:=I.ok.mod
 kind:=L.kind
 glob:=rfl
 blt:=rfl
 above:=Nat.le_refl _
 inj:=λ x y c a b=>I.ok.inj x y c (c1 _ _ a) (c1 _ _ b)
 has:=λ y hy=>by
  have hy:sc.names.lookup y=some .cell\/sc.names.lookup y=some .free:=hy;rcases hy with hy | hy
  ·exact absurd rfl (L.cell _ (PySem.mem_of_lookup hy))
  ·exact c2 y (PySem.mem_of_lookup hy)
 cab:=λ x c z=>absurd (show false=true from z) Bool.false_ne_true
 hd:=λ _=>I.ok.hd hc
 frames:=Around.frames_deeper I.ok.frames
 stk:=.inr ⟨rfl,rfl⟩
 exf:=λ b z=>nomatch z
 bs:=I.bs
 bsz:=Nat.le_trans I.ok.bsz I.sz
 noex:=λ b o e z=>nomatch z
 exfs:=λ b z=>nomatch z
 sA:=I.stack
 frf:=I.sV
theorem adS(L:qX X sc x fr)(hc:X.calm=true)(I:Inv X pins σ H s)(c1:∀ n c,cl.lookup n=some c->X.env.cells.lookup n=some c)(c2:∀ n,(n,NameKind.free)∈sc.names->∃ c,cl.lookup n=some c)
  {h1:Heap}{tk:Nat}{v:V}{u:Value}(rv:RelV v u)(hn:h1.Ns s.heap.objs.size (λ y=>[(x,u)].reverse.lookup y))(k:∀ b o,s.heap.get? b=some o->h1.get? b=some o) :
  Inv (zN X q sc (w6 X x fr) cl f c s H pins) [] (ae9 v fr σ) H {s with heap:=h1,toks:=tk}:=by
 have ok:=aga (q:=q) (f:=f) (c:=c) L hc I c1 c2;refine⟨ok,rfl,I.bare,Un.kept k,⟨_,hn,λ i y v' e1 e2 e3=>?_⟩,λ y c e=>?_,I.hok.fresh (Nat.le_refl _),λ y c e=>I.freeC y c (c1 _ _ e),λ p hp=>?_,I.hok.kept k,?_⟩
 ·cases i with
  | zero =>
   have e1':some x=some y:=e1;have e2':some (some v)=some (some v'):=e2;cases e1';cases e2';exact⟨u,rv,.inl ⟨L.own,by simp⟩⟩
  | succ i =>
   have e1':(fr.map λ j=>X.N.getD j Str.empty)[i]? =some y:=e1;have e2':(fr.map λ j=>(σ[j]?).getD none)[i]? =some (some v'):=e2;rw[List.getElem?_map] at e1' e2';cases hq:fr[i]? with
   | none=>rw[hq] at e1';cases e1'
   | some j =>
    rw[hq] at e1' e2';obtain⟨z,hz,hzf⟩:=uu L.fr (List.mem_of_getElem? hq);have ex:z=y:=by have:=Option.some.inj e1';rw[<- this];simp[List.getD,hz]
    subst ex;have ev:σ[j]? =some (some v'):=by
     have z':(σ[j]?).getD none=some v':=Option.some.inj e2';cases w:σ[j]? with
     | none=>rw[w] at z';cases z'
     | some o=>rw[w] at z';exact congrArg some z'
    have hm:(z,NameKind.free)∈sc.names:=PySem.mem_of_lookup hzf;have hk:=L.free _ hm rfl;have vis:Vis X.env.scope z:=by
     rcases hk with w | w
     ·exact .inr (.inl w)
     ·exact .inr (.inr w)
    obtain⟨m0,hn0,hl⟩:=I.loc;obtain⟨u',r,l⟩:=hl j z v' hz ev vis;refine⟨u',r,.inr ⟨.inr hzf,?_⟩⟩;obtain⟨c',hc'⟩:=c2 z hm;rcases l with ⟨w,_⟩ | ⟨_,c'',hc'',hcell⟩
    ·rcases hk with q' | q'
     ·exact absurd (show X.env.kindOf z=some .local from w) (by rw[q'];decide)
     ·exact absurd (show X.env.kindOf z=some .local from w) (by rw[q'];decide)
    ·have:c'=c'':=Option.some.inj ((c1 _ _ hc').symm.trans hc'');subst this;obtain⟨o,ho,hd⟩:=hcell;exact⟨c',hc',o,k _ _ ho,hd⟩
 ·obtain⟨w,o,ho,hd⟩:=I.cell y c (c1 _ _ e);exact⟨w,o,k _ _ ho,hd⟩
 ·have hp':p∈X.pn++pins:=by simpa [zN] using hp
  obtain⟨a1,a2,a3,a4,a5⟩:=I.pin p hp';refine⟨k _ _ a1,a2,Nat.ne_of_lt (Heap.lt_size a1),λ z=>?_,a5⟩;rcases List.mem_cons.mp (I.jV _ z) with e | e
  ·exact a3 e
  ·exact a4 e
 ·show(ae9 v fr σ).length=(w6 X x fr).length;simp[ae9,w6]
def aev(H:Hp)(q x:Str)(params:Arguments)(body:Expr)(sc:Scope)(cl:List (Str×Addr))(pm:Value)(f:Addr):Prop:=
 ∃ c ctv oc vs t,H f=some (.frz (kla_obj "<lambda>" q params body sc cl pm c ctv) (.own 0))/\H c=some (.frz oc (.own 0))/\oc.data=.fields vs/\vs[1]? =some (.str q t)
theorem aeh{k:Nat}{E:Value->Shared->Prop}{params:Arguments}{body:Expr}{pm:Value}{te:TE}{v:V}{u:Value}{Q:VK}(hr:c4 (k+1) X.A)(hc:X.calm=true)(L:qX X sc x fr)(c1:∀ n c,cl.lookup n=some c->X.env.cells.lookup n=some c)(c2:∀ n,(n,NameKind.free)∈sc.names->∃ c,cl.lookup n=some c)
  (hb:∀ cdv ctv u,bindArgs (kla_fn "<lambda>" q params body sc cl pm cdv ctv) ⟨[u],[]⟩=pure [(x,u)])
  (he:∀ c s H pl,c4 k (zN X q sc (w6 X x fr) cl f c s H pl).A->PE (zN X q sc (w6 X x fr) cl f c s H pl) body te)
  (I:Inv X pins σ H s)(hf:aev H q x params body sc cl pm f)(rv:RelV v u)(h:te (ae9 v fr σ) H Q):wpAny (model X.prog X.w) X.A (call (.ref f) [u]) (EP X pins σ Q) E s:=by
 obtain⟨c,ctv,oc,vs,t,h1,h2,h3,h4⟩:=hf;obtain⟨g1,_⟩:=I.hok f _ h1;obtain⟨g2,_⟩:=I.hok c _ h2;refine wpAny_call (PySem.W.kla_callFunE hr.depth g1 rfl L.co L.gen rfl ⟨c,oc,vs,t,rfl,g2,h3,h4⟩ ?_);rw[hb];refine wpAny_pure (wpAny_newFunctionEnv L.cell (λ y hy=>by rw[List.mem_singleton.mp hy];exact L.own) (λ h₁ hns hsb=>⟨(I.nolimit).fresh _ hsb,?_⟩) L.kind);have hk₁:∀ b o,s.heap.get? b=some o->h₁.get? b=some o:=λ b o e=>hsb.extBut b o (Nat.ne_of_lt (Heap.lt_size e)) (Heap.get?_push_of_some _ e);have J:=adS (q:=q) (f:=f) (c:=c) (tk:=s.toks+1) L hc I c1 c2 rv hns hk₁;have hr':c4 k (zN X q sc (w6 X x fr) cl f c s H pins).A:=hr.deeper _;refine PySem.W.kla_codeExpr (wpAny_mono (he c s H pins hr' [] _ _ _ _ J h) (λ u' s' hh=>?_) λ _ _ z=>z.elim);obtain⟨v',H',J',r',q'⟩:=hh;exact I.after ⟨v',H',J'.os,J'.bare,J'.base,J'.hok,r',q'⟩
end
section
variable {X:Cx}{pins:List (Addr×Obj)}{σ:St}{H:Hp}{s:Shared}
theorem Inv.acC{P:Addr}{ps more:Array Value}{h':Heap}{t':Nat}(I:Inv X pins σ H s)(hP:H P=some (.tbl ps))(k:∀ b u,b≠P->s.heap.get? b=some u->h'.get? b=some u)(e:h'.get? P=some {cls:=.none,data:=.fields (ps++more)}) :
  Inv X pins σ (upd H P (.tbl (ps++more))) {s with heap:=h',toks:=t'}:=by
 have nn:∀ b,H b=none->b≠P:=λ b n=>Ne.symm (aV hP n);have nt:∀ b xs,H b=some (.tup xs)->b≠P:=λ b xs q=>vI q hP (λ z=>nomatch z);have nf:∀ b o u,H b=some (.frz o u)->b≠P:=λ b o u q=>vI q hP (λ z=>nomatch z);have no:∀ b y,H b=some (.own y)->b≠P:=λ b y q=>vI q hP (λ z=>nomatch z);refine I.un ⟨λ b o q n _ _=>k b o (nn b n) q,λ b o q n _ _=>⟨o.slots,k b o (nn b n) q⟩,λ b o _ n _=>by rw[aj (nn b n)];exact n,λ b o q _=>?_,λ b xs q=>by rw[aj (nt b xs q)];exact q,λ b o u q=>by rw[aj (nf b o u q)];exact q,λ b qs q=>?_⟩ λ b u q=>?_
 ·by_cases hb:b=P
  ·subst hb;exact⟨_,e⟩
  ·exact⟨o,k b o hb q⟩
 ·by_cases hb:b=P
  ·subst hb;rw[hP] at q;cases q;exact⟨more,ar⟩
  ·exact⟨#[],by rw[aj hb,q];simp⟩
 ·by_cases hb:b=P
  ·subst hb;rw[ar] at q;cases q;exact e
  ·rw[aj hb] at q;exact(I.hok b u q).wG (λ c v hc r=>k c v (by rcases hc with z | z;rw[z];exact hb;exact no c _ z) r) (λ c r=>by rw[aj (no c _ r)];exact r) λ c xs r=>by rw[aj (nt c xs r)];exact r
theorem Inv.hold{D:Addr}{ob:Obj}(I:Inv X pins σ H s)(e:s.heap.get? D=some ob)(hn:H D=none)
  (h0:X.s₀.heap.objs.size<=D)(hL:D≠X.env.locals)(hc:∀ x c,X.env.cells.lookup x=some c->c≠D)(hp:∀ p∈X.pn++pins,p.1≠D):Inv X pins σ (upd H D (.frz ob (.own 0))) s:=by
 have ne:∀ b u,H b=some u->b≠D:=λ b u q=>aV q hn;refine I.step (h':=s.heap) (g':=s.gens) (d':=s.drawn) (t':=s.toks) (ch:=[D]) (λ b hb=>?_) (λ b o _ _ _ q _=>q) (λ b o _ _ _ q _=>⟨o.slots,q⟩) (λ b o hb q n=>?_) (λ b o _ q=>⟨o,q⟩)
  (λ b xs q=>by rw[aj (ne b _ q)];exact q) (λ b o u q=>by rw[aj (ne b _ q)];exact q) (λ b ps q=>⟨#[],by rw[aj (ne b _ q),q];simp⟩) (λ m hm=>hm) (λ b u q=>?_) I.bare
 ·have e:b=D:=by simpa using hb
  subst e;exact⟨.inr h0,hL,hc,hp⟩
 ·rw[aj (λ z=>hb (by simp[z]))];exact n
 ·by_cases hb:b=D
  ·subst hb;rw[ar] at q;cases q;exact⟨e,ob,e⟩
  ·rw[aj hb] at q;exact(I.hok b u q).wG (λ _ _ _ q=>q) (λ c r=>by rw[aj (ne c _ r)];exact r) λ c xs r=>by rw[aj (ne c _ r)];exact r
def aht(X:Cx)(sc:Scope)(cl:List (Str×Addr)):Prop:=(∀ n c,cl.lookup n=some c->X.env.cells.lookup n=some c)/\∀ n,(n,NameKind.free)∈sc.names->∃ c,cl.lookup n=some c
abbrev oU(ps:Array Value)(lpos:Pos)(c:Addr):Array Value:=ps ++ #[rawInt lpos.line,rawInt lpos.col,.ref c]
def aif(X:Cx)(P:Addr)(q:Str)(params:Arguments)(body:Expr)(sc:Scope)(lpos:Pos):TE:=λ σ H Q=>∃ ps,H P=some (.tbl ps)/\TriplesOk ps.toList /\
 ((codeAmong lpos ps.toList=none/\∀ c f oc vs t ctv cl,aht X sc cl->H c=none->H f=none->c≠f->oc.data=.fields vs->vs[1]? =some (.str q t) ->
   Q (.ref f) (upd (upd (upd H c (.frz oc (.own 0))) P (.tbl (oU ps lpos c))) f (.frz (kla_obj "<lambda>" q params body sc cl ((X.mg "__name__").getD .none) c ctv) (.own 0)))) \/
∃ c o vs t,codeAmong lpos ps.toList=some (.ref c)/\H c=some (.frz o (.own 0))/\o.data=.fields vs/\vs[1]? =some (.str q t)/\∀ f ctv cl,aht X sc cl->H f=none ->
   Q (.ref f) (upd H f (.frz (kla_obj "<lambda>" q params body sc cl ((X.mg "__name__").getD .none) c ctv) (.own 0))))
theorem afG{P cd:Addr}{params:Arguments}{body:Expr}{sc:Scope}{lpos:Pos}{x:Str}{fr:List Nat}(L:qX X sc x fr)(hcode:X.env.code=.ref cd)(hcd:PySem.W.codeHdIn X.K cd P=true)(hdef:defaultsOf params X.env=([],[]):=by rfl) :
  PE X (.Lambda params body sc lpos) (aif X P (X.env.qual ++ "<lambda>") params body sc lpos):=by
 intro pins s σ H Q I h;obtain⟨ps,hP,ht,h⟩:=h;obtain⟨cl,hcl,c1,c2⟩:=jM (scope:=sc) (env:=X.env) λ y hy hf=>I.ok.has y.1 (L.free y hy hf);refine PySem.W.kla_eval hdef ?_;have hg:=I.ok.mod.glob.keeps I.bk;obtain⟨⟨bm,ob,b1,b2,b3,b4,b5,b6⟩,_⟩:=I.ok.mod.bm;have b3':=I.bk _ _ b3;have hPo:s.heap.get? P=some {cls:=.none,data:=.fields ps}:=I.hok P _ hP;have hgP:mainGlobals≠P:=λ z=>by obtain⟨o,es,ep,e,hd,_⟩:=hg;rw[z,hPo] at e;cases e;cases hd
 have hbP:bm≠P:=λ z=>by rw[z,hPo] at b3';cases b3';cases b4
 have hbG:bm≠mainGlobals:=λ z=>by obtain⟨o,es,ep,e,hd,_⟩:=hg;rw[z,e] at b3';cases b3';rw[hd] at b6;cases b6
 have C:=PySem.W.codeHd_of_K I.kIn hcd;rcases h with ⟨hnf,h⟩ | ⟨c,o,vs,t,hf,hc,hd,hv,h⟩
 ·refine PySem.W.kla_makeFunction (mg:=X.mg) hcl I.ok.glob hg hcode C hPo ht hnf hgP ⟨bm,ob,b1,b2,hbG,hbP,b3',b4,b5,b6⟩ λ c' ctv h' tk hx hge hlt hrec htb=>?_;obtain⟨c₂,oc,vs,t,e2,hoc,hd,hv⟩:=hrec;cases e2;have hcn:H c'=none:=I.hok.fresh hge;have hfn:H h'.objs.size=none:=I.hok.fresh (Nat.le_trans hge (Nat.le_of_lt hlt));have cP:c'≠P:=Ne.symm (aV hP hcn);have I1:=I.acC (t':=tk) hP (λ b u hb e=>hx b u hb e) htb;have I2:=I1.hold hoc (by rw[aj cP];exact hcn) (Nat.le_trans I.sz hge) (λ z=>by obtain⟨m,hn,_⟩:=I.loc;exact absurd (Nat.lt_of_lt_of_le hn.lt hge) (by rw[z];exact Nat.lt_irrefl _))
   (λ y c hy z=>by obtain⟨w,o,ho,_⟩:=I.cell y c hy;exact absurd (Nat.lt_of_lt_of_le (Heap.lt_size ho) hge) (by rw[z];exact Nat.lt_irrefl _))
   (λ p hp z=>by obtain⟨ho,_⟩:=I.pin p hp;exact absurd (Nat.lt_of_lt_of_le (Heap.lt_size ho) hge) (by rw[z];exact Nat.lt_irrefl _))
  have hsw:upd (upd H P (.tbl (oU ps lpos c'))) c' (.frz oc (.own 0))=upd (upd H c' (.frz oc (.own 0))) P (.tbl (oU ps lpos c')):=by
   funext b;unfold upd
   by_cases e1:b=c'
   ·rw[if_pos e1,if_neg (by rw[e1];exact cP),if_pos e1]
   ·rw[if_neg e1,if_neg e1]
  rw[hsw] at I2;have I3:=I2.laid (t':=tk) (o:=.frz (kla_obj "<lambda>" (X.env.qual ++ "<lambda>") params body sc cl ((X.mg "__name__").getD .none) c' ctv) (.own 0)) (h':=h'.push (kla_obj "<lambda>" (X.env.qual ++ "<lambda>") params body sc cl ((X.mg "__name__").getD .none) c' ctv)) (λ b u e=>Heap.get?_push_of_some _ e) (Nat.le_refl _) ⟨Heap.get?_push_size _ rfl,_,Heap.get?_push_size _ rfl⟩;exact⟨.ref _,_,I3,rfl,h c' h'.objs.size oc vs t ctv cl ⟨c1,c2⟩ hcn hfn (Nat.ne_of_lt hlt) hd hv⟩
 ·refine PySem.W.kla_makeFunctionHit (mg:=X.mg) hcl I.ok.glob hg hcode C hPo ht hf ⟨bm,ob,b1,b2,hbG,hbP,b3',b4,b5,b6⟩ λ ctv h' tk hk hsz=>?_;have I3:=(I.kept (t':=tk) hk).laid (t':=tk) (o:=.frz (kla_obj "<lambda>" (X.env.qual ++ "<lambda>") params body sc cl ((X.mg "__name__").getD .none) c ctv) (.own 0)) (h':=h'.push (kla_obj "<lambda>" (X.env.qual ++ "<lambda>") params body sc cl ((X.mg "__name__").getD .none) c ctv)) (λ b u e=>Heap.get?_push_of_some _ e) (Nat.le_refl _) ⟨Heap.get?_push_size _ rfl,_,Heap.get?_push_size _ rfl⟩;exact⟨.ref _,_,I3,rfl,h _ ctv cl ⟨c1,c2⟩ (I.hok.fresh hsz)⟩
end
def wC(X:Cx):Cx:={X with A:=X.A.in1}
section
variable {X:Cx}{pins:List (Addr×Obj)}{σ:St}{H:Hp}{s:Shared}
theorem Inv.in1(I:Inv X pins σ H s):Inv (wC X) pins σ H s:=
 ⟨⟨I.ok.mod,I.ok.kind,I.ok.glob,I.ok.blt,I.ok.above,I.ok.inj,I.ok.has,I.ok.cab,I.ok.hd,I.ok.frames,I.ok.stk,I.ok.exf,I.ok.bs,I.ok.bsz,I.ok.noex,I.ok.exfs,I.ok.sA,I.ok.frf⟩,I.os,I.bare,I.base,I.loc,I.cell,I.free,I.freeC,I.pin,I.hok,I.len⟩
theorem Inv.aiv(I:Inv (wC X) pins σ H s):Inv X pins σ H s:=
 ⟨⟨I.ok.mod,I.ok.kind,I.ok.glob,I.ok.blt,I.ok.above,I.ok.inj,I.ok.has,I.ok.cab,I.ok.hd,I.ok.frames,I.ok.stk,I.ok.exf,I.ok.bs,I.ok.bsz,I.ok.noex,I.ok.exfs,I.ok.sA,I.ok.frf⟩,I.os,I.bare,I.base,I.loc,I.cell,I.free,I.freeC,I.pin,I.hok,I.len⟩
theorem Inv.we{it:Addr}{h':Heap}{t':Nat}(I:Inv X pins σ H s)(f:mz X pins H it)(k:∀ b o,b≠it->s.heap.get? b=some o->h'.get? b=some o):Inv X pins σ H {s with heap:=h',toks:=t'}:=
 I.turned k f.1 f.2.1 f.2.2.2.1 f.2.2.2.2.1 f.2.2.2.2.2
theorem Inv.aiD{a b:Addr}{oa ob:Obj}(I:Inv X pins σ H s)(fa:mz X pins H a)(fb:mz X pins H b)(ea:s.heap.get? a=some oa)(eb:s.heap.get? b=some ob)(ca:∀ v,oa.data ≠ .cell v)(cb:∀ v,ob.data ≠ .cell v):Inv X ((a,oa)::(b,ob)::pins) σ H s:=
 I.d5 λ p hp=>by
  rcases List.mem_cons.mp hp with e | hp
  ·subst e;exact⟨ea,fa.1,fa.2.1,fa.2.2.1,ca⟩
  rcases List.mem_cons.mp hp with e | hp
  ·subst e;exact⟨eb,fb.1,fb.2.1,fb.2.2.1,cb⟩
  ·exact I.pin p (List.mem_append_right _ hp)
theorem Inv.abP{a b:Addr}{oa ob:Obj}(I:Inv X ((a,oa)::(b,ob)::pins) σ H s):Inv X pins σ H s/\(s.heap.get? a=some oa/\H a=none)/\s.heap.get? b=some ob/\H b=none:=
 have pa:=I.pin (a,oa) (List.mem_append_right _ (.head _));have pb:=I.pin (b,ob) (List.mem_append_right _ (.tail _ (.head _)))
 ⟨I.d5 λ p hp=>I.pin p (List.mem_append_right _ (.tail _ (.tail _ hp))),⟨pa.1,pa.2.1⟩,pb.1,pb.2.1⟩
theorem uM{l a:Addr}{items:Array Value}{i:Nat}{h:Heap}(hl:h.IsList l items)(hi:h.IsListIter a l i):l≠a:=by
 rintro rfl;obtain⟨o,e,c,_⟩:=hl;obtain⟨o',e',c',_⟩:=hi;rw[e] at e';cases e';rw[c] at c';exact absurd (Value.type.inj c') (by decide)
variable {l f it S:Addr}{xs:List V}{R:Result->Shared->Prop}
theorem yd(kf:Nat->Int)(W:Nat->Hp->Prop)(hh:X.A.handled=none)(hl:∀ i H,W i H->SqL X.K H l xs)(hSI:S≠it)(fI:∀ H:Hp,H it=none->mz X pins H it)(fS:∀ H:Hp,H S=none->mz X pins H S)
  (turn:∀ (i:Nat) (v:V) (u:Value) (pl:List (Addr×Obj)) (H:Hp) (s:Shared),xs[i]? =some v->RelV v u->W i H->Inv (wC X) pl σ H s->wpAny (model X.prog X.w) X.A.in1 (call (.ref f) [u]) (EP (wC X) pl σ λ y H'=>y=.int (kf i)/\W (i+1) H') (λ _ _=>False) s)
  (fin:∀ (i:Nat) (v:V) (u:Value) (H:Hp) (s:Shared),xs[i]? =some v->RelV v u->(∀ j,j<xs.length->kf i<=kf j/\(j<i->kf i<kf j))->W xs.length H->Inv X pins σ H s->R (.ok (.ret u)) s) :
  ∀ (r j i:Nat) (H:Hp) (s:Shared) (v:V) (u:Value) (tb:Tok) (c:Nat),xs.length-(j+1)=r->j+1<=xs.length->Inv X pins σ H s->W (j+1) H->H it=none->H S=none ->
   s.heap.get? S=some (seqObj "list" #[u,.int (kf i) tb] c)->s.heap.IsListIter it l (j+1)->xs[i]? =some v->RelV v u->i<=j->(∀ m,m<=j->kf i<=kf m/\(m<i->kf i<kf m)) ->
   codeAny (model X.prog X.w) X.A (.builtin "min.loop" ⟨[.ref it,.ref f,.ref S],[]⟩) R s:=by
 have nm:(toString "min" ++ toString ".loop" : String) = "min.loop":= by decide
 intro r
 induction r with
 | zero =>
  intro j i H s v u tb c hr hj J hW nI nS gS gI hv ru hij best;have hin:j+1=xs.length:=by omega
  obtain⟨its,rl,pl,hz⟩:=J.list (hl _ _ hW);have sz:its.toArray.size=xs.length:=by rw[List.size_toArray,rl.length]
  have Wk:=Walks.list (prog:=X.prog) (w:=X.w) (A:=X.A.in1) hh it l (uM pl.isList gI) its.toArray;refine codeAny_builtin PySem.F.entry_min_loop ?_;rw[Around.under_plainId PySem.F.plain_min_loop _];show wpAny _ X.A.in1 (seqItems? (.ref S) >>= _) _ _ _;refine wpAny_bind (wpAny_seqItems gS rfl ?_);show wpAny _ X.A.in1 (tryCatch (pyNext (.ref it)) _ >>= _) _ _ _;refine wpAny_bind (wpAny_tryCatch (Wk.done _ _ _ ⟨by rw[sz,<- hin];exact gI,pl.isList⟩ λ h' tk' hk'=>?_));have J1:=J.we (t':=tk') (fI H nI) λ b o hb e=>hk' b o (by simpa using hb) e;have gS':=hk' S _ (by simpa using hSI) gS;have s1:=Heap.SameBut.update h' S (Obj.mapSeq λ _=>(#[]:Array Value));show wpAny _ X.A.in1 (updateSeq S (λ _=>#[]) >>= _) _ _ _;refine wpAny_bind (wpAny_updateSeq gS' rfl (wpAny_bind (wpAny_letGo (wpAny_pure ?_))));exact fin i v u H _ hv ru (λ m hm=>best m (by omega)) (by rw[<- hin];exact hW) (J1.we (t':=tk') (fS H nS) λ b o hb e=>(s1.2 b hb).trans e)
 | succ r ih =>
  intro j i H s v u tb c hr hj J hW nI nS gS gI hv ru hij best;have hlt:j+1<xs.length:=by omega
  obtain⟨its,rl,pl,hz⟩:=J.list (hl _ _ hW);have sz:its.toArray.size=xs.length:=by rw[List.size_toArray,rl.length]
  have Wk:=Walks.list (prog:=X.prog) (w:=X.w) (A:=X.A.in1) hh it l (uM pl.isList gI) its.toArray;refine codeAny_builtin PySem.F.entry_min_loop ?_;rw[Around.under_plainId PySem.F.plain_min_loop _];show wpAny _ X.A.in1 (seqItems? (.ref S) >>= _) _ _ _;refine wpAny_bind (wpAny_seqItems gS rfl ?_);show wpAny _ X.A.in1 (tryCatch (pyNext (.ref it)) _ >>= _) _ _ _;refine wpAny_bind (wpAny_tryCatch (Wk.item (j+1) _ _ _ (by rw[sz];exact hlt) ⟨gI,pl.isList⟩ λ u2 h' tk' hP hst hk'=>?_));have J1:=J.we (t':=tk') (fI H nI) λ b o hb e=>hk' b o (by simpa using hb) e;have gS1:=hk' S _ (by simpa using hSI) gS;obtain⟨oI,goI,coI,doI⟩:=id hst.1;obtain⟨v2,hv2⟩:∃ v2,xs[j+1]? =some v2:=⟨_,List.getElem?_eq_getElem hlt⟩;obtain⟨u3,hu3,ru2⟩:=rl.get hv2;have eu:u3=u2:=by
   have hP':its[j+1]? =some u2:=by simpa using hP
   rw[hu3] at hP';exact Option.some.inj hP'
  subst eu;show wpAny _ X.A.in1 (tryCatch (holding [u3] (call (.ref f) [u3])) _ >>= _) _ _ _;have JP:=J1.aiD (fS H nS) (fI H nI) gS1 goI (λ _ z=>nomatch z) (λ _ z=>by rw[doI] at z;cases z);refine wpAny_bind (wpAny_tryCatch (wpAny_holding (wpAny_mono (turn (j+1) v2 u3 _ H _ hv2 ru2 hW JP.in1) (λ x s2 he=>?_) λ _ _ hF=>hF.elim)));obtain⟨y,H2,J2,ry,ey,hW2⟩:=he;subst ey;obtain⟨t2,rfl⟩:=ry;obtain⟨J3,⟨gS2,nS2⟩,goI2,nI2⟩:=J2.aiv.abP;have gI2:s2.heap.IsListIter it l (j+1+1):=⟨oI,goI2,coI,doI⟩;show wpAny _ X.A.in1 (tryCatch (holding [u3,.int (kf (j+1)) t2] (richCompare .Lt (.int (kf (j+1)) t2) (.int (kf i) tb) >>= _)) _ >>= _) _ _ _;refine wpAny_bind (wpAny_tryCatch (wpAny_holding (wpAny_bind (CmpOf.ints_lt (prog:=X.prog) (w:=X.w) (A:=X.A.in1) (P:=λ i v=>∃ t,v=.int (kf i) t) kf (λ i v h=>h) (j+1) i _ _ _ _ _ ⟨t2,rfl⟩ ⟨tb,rfl⟩ ?_))));refine wpAny_bind (wpAny_holding (wpAny_truthy_bool (wpAny_bind (wpAny_letGo (wpAny_pure ?_)))))
  by_cases hb':kf (j+1)<kf i
  ·have s1:=Heap.SameBut.update s2.heap S (Obj.mapSeq λ _=>#[u3,.int (kf (j+1)) t2]);obtain⟨c2,hc2⟩:∃ c2,(s2.heap.update S (Obj.mapSeq λ _=>#[u3,.int (kf (j+1)) t2])).get? S=some (seqObj "list" #[u3,.int (kf (j+1)) t2] c2):=⟨_,get?_update_seq gS2 λ _=>#[u3,.int (kf (j+1)) t2]⟩;simp only[hb',decide_true,if_true];refine wpAny_bind (wpAny_updateSeq gS2 rfl (wpAny_bind (wpAny_letGo ?_)));rw[nm];have J4:=J3.we (t':=s2.toks) (h':=s2.heap.update S (Obj.mapSeq λ _=>#[u3,.int (kf (j+1)) t2])) (fS H2 nS2) λ b o hb e=>(s1.2 b hb).trans e;refine wpAny_pure ⟨plainId_quiet PySem.F.plain_min_loop _,ih (j+1) (j+1) H2 _ v2 u3 t2 c2 (by omega) hlt J4 hW2 nI2 nS2 hc2 ⟨oI,(s1.2 it hSI.symm).trans goI2,coI,doI⟩ hv2 ru2 (Nat.le_refl _) λ m hm=>?_⟩
   by_cases e:m=j+1
   ·subst e;exact⟨by omega,λ _=>by omega⟩
   ·have:=(best m (by omega)).1;exact⟨by omega,λ _=>by omega⟩
  ·simp only[hb',decide_false,Bool.false_eq_true,if_false];refine wpAny_bind (wpAny_letGo ?_);rw[nm];refine wpAny_pure ⟨plainId_quiet PySem.F.plain_min_loop _,ih (j+1) i H2 s2 v u tb c (by omega) hlt J3 hW2 nI2 nS2 gS2 gI2 hv ru (by omega) λ m hm=>?_⟩
   by_cases e:m=j+1
   ·subst e;exact⟨by omega,λ _=>by omega⟩
   ·exact best m (by omega)
theorem adF{Q:Value->Shared->Prop}{E:Value->Shared->Prop}(kf:Nat->Int)(W:Nat->Hp->Prop)(hh:X.A.handled=none)(I:Inv X pins σ H s)(hW:W 0 H)(hne:0<xs.length)(hl:∀ i H,W i H->SqL X.K H l xs)
  (turn:∀ (i:Nat) (v:V) (u:Value) (pl:List (Addr×Obj)) (H:Hp) (s:Shared),xs[i]? =some v->RelV v u->W i H->Inv (wC X) pl σ H s->wpAny (model X.prog X.w) X.A.in1 (call (.ref f) [u]) (EP (wC X) pl σ λ y H'=>y=.int (kf i)/\W (i+1) H') (λ _ _=>False) s)
  (fin:∀ (i:Nat) (v:V) (u:Value) (H:Hp) (s:Shared),xs[i]? =some v->RelV v u->(∀ j,j<xs.length->kf i<=kf j/\(j<i->kf i<kf j))->W xs.length H->Inv X pins σ H s->Q u s) :
  wpAny (model X.prog X.w) X.A (call (.builtin "min") [.ref l] [(Str.ofString "key",.ref f)]) Q E s:=by
 have nm:(toString "min" ++ toString ".loop" : String) = "min.loop":= by decide
 obtain⟨its,rl,pl,hz⟩:=I.list (hl _ _ hW);have sz:its.toArray.size=xs.length:=by rw[List.size_toArray,rl.length]
 obtain⟨ol,hol,_⟩:=id pl.isList;have hll:l<s.heap.objs.size:=Heap.lt_size hol;refine kmk_tree PySem.F.kind_min PySem.F.plain_min PySem.F.entry_min (kmk_min_key _ _) ?_;show wpAny _ X.A.in1 (Builtin.Builtins.bindParams "min" ["key", "default"] 0 ⟨[],[(Str.ofString "key",.ref f)]⟩ >>= _) _ _ s;refine wpAny_bind (wpAny_of_eq (show Builtin.Builtins.bindParams "min" ["key", "default"] 0 ⟨[],[(Str.ofString "key",.ref f)]⟩=pure [some (.ref f),none] from rfl) (wpAny_bind (wpAny_pure ?_)));refine wpAny_bind (wpAny_pyIter_list pl.isList (wpAny_bind (wpAny_newList ?_ (Nat.zero_le _))));rw[nm];generalize hit:s.heap.objs.size=it;have hS:(s.heap.push {cls:=.type "list_iterator",data:=.fields #[.ref l,.int 0 0]}).objs.size=it+1:=by rw[<- hit];exact size_push' ..
 rw[hS];have nI:H it=none:=I.hok.fresh (by rw[hit];exact Nat.le_refl _);have nS:H (it+1)=none:=I.hok.fresh (by rw[hit];exact Nat.le_succ _);have fI:∀ H:Hp,H it=none->mz X pins H it:=λ H n=>I.p9 (by rw[hit];exact Nat.le_refl _) n;have fS:∀ H:Hp,H (it+1)=none->mz X pins H (it+1):=λ H n=>I.p9 (by rw[hit];exact Nat.le_succ _) n;have gI:((s.heap.push {cls:=.type "list_iterator",data:=.fields #[.ref l,.int 0 0]}).push (seqObj "list" #[] 0)).get? it=some {cls:=.type "list_iterator",data:=.fields #[.ref l,.int 0 0]}:=Heap.get?_push_of_some _ (by rw[<- hit];exact Heap.get?_push_size _ rfl);have gS:((s.heap.push {cls:=.type "list_iterator",data:=.fields #[.ref l,.int 0 0]}).push (seqObj "list" #[] 0)).get? (it+1)=some (seqObj "list" #[] 0):=by rw[<- hS];exact Heap.get?_push_size _ rfl
 refine wpAny_pure ⟨plainId_quiet PySem.F.plain_min_loop _,?_⟩;generalize hH:(s.heap.push {cls:=.type "list_iterator",data:=.fields #[.ref l,.int 0 0]}).push (seqObj "list" #[] 0)=hp at gI gS;have kp:∀ b o,s.heap.get? b=some o->hp.get? b=some o:=λ b o e=>by rw[<- hH];exact Heap.get?_push_of_some _ (Heap.get?_push_of_some _ e)
 have J:=I.kept (t':=s.toks) kp;have hlI:l≠it:=by rw[<- hit];exact Nat.ne_of_lt hll
 have hlst:hp.IsList l its.toArray:=pl.isList.at λ o e=>kp l o e;have Wk:=Walks.list (prog:=X.prog) (w:=X.w) (A:=X.A.in1) hh it l hlI its.toArray;refine codeAny_builtin PySem.F.entry_min_loop ?_;rw[Around.under_plainId PySem.F.plain_min_loop _];show wpAny _ X.A.in1 (seqItems? (.ref (it+1)) >>= _) _ _ _;refine wpAny_bind (wpAny_seqItems gS rfl ?_);show wpAny _ X.A.in1 (tryCatch (pyNext (.ref it)) _ >>= _) _ _ _;refine wpAny_bind (wpAny_tryCatch (Wk.item 0 _ _ _ (by rw[sz];exact hne) ⟨⟨_,gI,rfl,rfl⟩,hlst⟩ λ u2 h' tk' hP hst hk'=>?_));have J1:=J.we (t':=tk') (fI H nI) λ b o hb e=>hk' b o (by simpa using hb) e;have gS1:=hk' (it+1) _ (by simp) gS;obtain⟨oI,goI,coI,doI⟩:=id hst.1;obtain⟨v2,hv2⟩:∃ v2,xs[0]? =some v2:=⟨_,List.getElem?_eq_getElem hne⟩;obtain⟨u3,hu3,ru2⟩:=rl.get hv2;have eu:u3=u2:=by
  have hP':its[0]? =some u2:=by simpa using hP
  rw[hu3] at hP';exact Option.some.inj hP'
 subst eu;show wpAny _ X.A.in1 (tryCatch (holding [u3] (call (.ref f) [u3])) _ >>= _) _ _ _;have JP:=J1.aiD (fS H nS) (fI H nI) gS1 goI (λ _ z=>nomatch z) (λ _ z=>by rw[doI] at z;cases z);refine wpAny_bind (wpAny_tryCatch (wpAny_holding (wpAny_mono (turn 0 v2 u3 _ H _ hv2 ru2 hW JP.in1) (λ x s2 he=>?_) λ _ _ hF=>hF.elim)));obtain⟨y,H2,J2,ry,ey,hW2⟩:=he;subst ey;obtain⟨t2,rfl⟩:=ry;obtain⟨J3,⟨gS2,nS2⟩,goI2,nI2⟩:=J2.aiv.abP;have s1:=Heap.SameBut.update s2.heap (it+1) (Obj.mapSeq λ _=>#[u3,.int (kf 0) t2]);obtain⟨c2,hc2⟩:∃ c2,(s2.heap.update (it+1) (Obj.mapSeq λ _=>#[u3,.int (kf 0) t2])).get? (it+1)=some (seqObj "list" #[u3,.int (kf 0) t2] c2):=⟨_,get?_update_seq gS2 λ _=>#[u3,.int (kf 0) t2]⟩;show wpAny _ X.A.in1 (updateSeq (it+1) (λ _=>#[u3,.int (kf 0) t2]) >>= _) _ _ _;refine wpAny_bind (wpAny_updateSeq gS2 rfl ?_);rw[nm];have J4:=J3.we (t':=s2.toks) (h':=s2.heap.update (it+1) (Obj.mapSeq λ _=>#[u3,.int (kf 0) t2])) (fS H2 nS2) λ b o hb e=>(s1.2 b hb).trans e;refine wpAny_pure ⟨plainId_quiet PySem.F.plain_min_loop _,yd kf W hh hl (by simp) fI fS turn fin _ 0 0 H2 _ v2 u3 t2 c2 rfl hne J4 hW2 nI2 nS2 hc2 ⟨oI,(s1.2 it (by simp)).trans goI2,coI,doI⟩ hv2 ru2 (Nat.le_refl _) λ m hm=>?_⟩;have e:m=0:=by omega
 subst e;exact⟨by omega,λ h=>absurd h (Nat.lt_irrefl _)⟩
end
end L2
namespace D
open L2
open PySem.W (kla_obj kla_fn)
def ad5(w:W)(fr:List Nat)(τ:DS):DS:=some w::fr.map λ j=>(τ[j]?).getD none
section
variable {X:Cx}{K:PySem.W.Frag}
theorem adR{H:Hp}{σ:St}{τ:DS}{M:MH}{v:V}{w:W}(A:Abs K H σ τ M)(r:aD K H w v)(fr:List Nat):Abs K H (ae9 v fr σ) (ad5 w fr τ) M:=(qj A 1 fr).set 0 r
theorem aed{M:MH}{a:Addr}{o:MO}(h:M a=some o):aE M a o=M:=by
 funext b
 by_cases e:b=a
 ·rw[e,ab,h]
 ·rw[ae e]
theorem wb{H:Hp}{M:MH}{P c:Addr}{ps:Array Value}{q:Str}{lpos:Pos}{oc:Obj}{vs:Array Value}{t:Tok}(m:cK K H M)(hP:M P=some (.code q lpos))(hT:H P=some (.tbl ps))(ht:TriplesOk ps.toList)(hn:codeAmong lpos ps.toList=none)(hc:H c=none)(hd:oc.data=.fields vs)(hv:vs[1]? =some (.str q t)) :
  Kp H (upd (upd H c (.frz oc (.own 0))) P (.tbl (oU ps lpos c)))/\cK K (upd (upd H c (.frz oc (.own 0))) P (.tbl (oU ps lpos c))) M:=by
 have cP:c≠P:=Ne.symm (aV hT hc);have hT':upd H c (.frz oc (.own 0)) P=some (.tbl ps):=by rw[aj (Ne.symm cP)];exact hT
 have k2:Kp (upd H c (.frz oc (.own 0))) (upd (upd H c (.frz oc (.own 0))) P (.tbl (oU ps lpos c))):=Kp.set hT' (λ _ z=>nomatch z) (λ _ _ z=>nomatch z);refine⟨(Kp.new hc).trans k2,?_⟩;have e:(oU ps lpos c).toList=ps.toList++[rawInt lpos.line,rawInt lpos.col,.ref c]:=by simp[oU]
 have:=(m.new (o:=.frz oc (.own 0)) hc).put (mo:=.code q lpos) k2 ⟨_,ar,by rw[e];exact TriplesOk_snoc _ _ _ _ ht,.inr ⟨c,oc,vs,t,by rw[e];exact codeAmong_snoc _ ht hn,by rw[aj cP,ar],hd,hv⟩⟩;rw[aed hP] at this;exact this
def ade(P:Addr)(q:Str)(lpos:Pos)(to tb:TD)(fr:List Nat)(τ:DS)(M:MH)(Q:QD):Prop:=to τ M λ w M1=>∃ ds,w=.d (.list ds)/\ds≠[]/\M1 P=some (.code q lpos) /\
 ∃ kf:Nat->Int,(∀ i d,ds[i]? =some d->tb (ad5 (.d d) fr τ) M1 λ y M2=>y=.d (.int (kf i))/\M2=M1)/\∀ i d,ds[i]? =some d->(∀ j,j<ds.length->kf i<=kf j/\(j<i->kf i<kf j))->Q (.d d) M1
variable {P cd:Addr}{q x:Str}{lpos pos p kpos:Pos}{params:Arguments}{body o:Expr}{sc:Scope}{fr:List Nat}{to tb:TD}{k:Nat}
theorem aev.keep{H H':Hp}{q x:Str}{params:Arguments}{body:Expr}{sc:Scope}{cl:List (Str×Addr)}{pm:Value}{f:Addr}(h:aev H q x params body sc cl pm f)(kp:Kp H H'):aev H' q x params body sc cl pm f:=by obtain⟨c,ctv,oc,vs,t,h1,h2,h3,h4⟩:=h;exact⟨c,ctv,oc,vs,t,kp.frz _ _ _ h1,kp.frz _ _ _ h2,h3,h4⟩
theorem aal(hr:c4 (k+2) X.A)(hc:X.calm=true)(hg:Gl X "min")(hm:X.mg "min" = none)(L:qX X sc x fr)(hcode:X.env.code=.ref cd)(hcd:PySem.W.codeHdIn X.K cd P=true)(hq:X.env.qual ++ "<lambda>" = q)
  (hb:∀ cl pm cdv ctv u,bindArgs (kla_fn "<lambda>" q params body sc cl pm cdv ctv) ⟨[u],[]⟩=pure [(x,u)])(ho:PD X o to)
  (he:∀ cl f c s H pl,c4 k (zN (wC X) q sc (w6 X x fr) cl f c s H pl).A->PD (zN (wC X) q sc (w6 X x fr) cl f c s H pl) body tb)(hso:gf o=false:=by rfl)(hdef:defaultsOf params X.env=([],[]):=by rfl) :
  PD X (.Call (.Name "min" p) [o] [⟨some "key",.Lambda params body sc lpos,kpos⟩] pos) (ade P q lpos to tb fr):=by
 intro pins s σ H Q I h;subst hq;have hst:starEach [o] X.env=(false,eval o X.env)::starEach [] X.env:=cu o [] X.env hso;have pa:PA X [o] (sx (up X.K to) zL):=lJ ho qi hst;have pk:PK X [⟨some "key",.Lambda params body sc lpos,kpos⟩] (sx (aif X P (X.env.qual ++ "<lambda>") params body sc lpos) zL):=xU (afG L hcode hcd hdef) abE;obtain⟨τ,M,Qd,A,h,kk⟩:=h;refine wpAny_Call_Name_kw (lO I hg hm uN (callWith_kw (he:=by rw[hst];rfl) (hplain:=dZ pos X.env [o] (by simp[hso])) ?_));refine thn (pa pos pins s σ H (λ vs H1=>∃ v w M1,vs=[v]/\Kp H H1/\aD X.K H1 w v/\cK X.K H1 M1/\∃ ds,w=.d (.list ds)/\ds≠[]/\M1 P=some (.code (X.env.qual ++ "<lambda>") lpos) /\
  ∃ kf:Nat->Int,(∀ i d,ds[i]? =some d->tb (ad5 (.d d) fr τ) M1 λ y M2=>y=.d (.int (kf i))/\M2=M1)/\∀ i d,ds[i]? =some d->(∀ j,j<ds.length->kf i<=kf j/\(j<i->kf i<kf j))->Qd (.d d) M1) I
  ⟨τ,M,_,A,h,λ x H1 w M1 kp r m z=>⟨x,w,M1,rfl,kp,r,m,z⟩⟩) λ us s1 ⟨vs,H1,I1,r1,hx⟩=>?_
 obtain⟨v,w,M1,ev,kp1,rw1,m1,ds,ew,hne,hP,kf,hkey,hfin⟩:=hx;subst ev ew;simp only[aD,aA] at rw1;obtain⟨a,xs,ea,hs,ra⟩:=rw1;subst ea;obtain⟨u,rfl,ru⟩:=vals1 r1;cases (show u=Value.ref a from ru);obtain⟨ps,hT,ht,hcA⟩:=m1 P _ hP;refine thn (pk pos pins s1 σ H1 (λ ks H2=>∃ f cl,ks=[.ref f]/\Kp H1 H2/\cK X.K H2 M1/\aht X sc cl/\aev H2 (X.env.qual ++ "<lambda>") x params body sc cl ((X.mg "__name__").getD .none) f) I1 ?_) λ kus s2 ⟨ks,H2,I2,r2,f,cl,ek,kp2,m2,hcl,hlam⟩=>?_
 ·refine⟨ps,hT,ht,?_⟩;rcases hcA with hn | ⟨c,oc,vs,t,e1,e2,e3,e4⟩
  ·refine .inl ⟨hn,λ c f oc vs t ctv cl hcl hc0 hf0 hcf hd hv=>?_⟩;obtain⟨k3,m3⟩:=wb m1 hP hT ht hn hc0 hd hv;have fP:f≠P:=Ne.symm (aV hT hf0);have cP:c≠P:=Ne.symm (aV hT hc0);have hf1:upd (upd H1 c (.frz oc (.own 0))) P (.tbl (oU ps lpos c)) f=none:=by rw[aj fP,aj (Ne.symm hcf)];exact hf0
   exact⟨f,cl,rfl,k3.trans (Kp.new hf1),m3.new hf1,hcl,c,ctv,oc,vs,t,ar,by rw[aj hcf,aj cP,ar],hd,hv⟩
  ·exact .inr ⟨c,oc,vs,t,e1,e2,e3,e4,λ f ctv cl hcl hf0=>⟨f,cl,rfl,Kp.new hf0,m1.new hf0,hcl,c,ctv,oc,vs,t,ar,by rw[aj (aV e2 hf0)];exact e2,e3,e4⟩⟩
 subst ek;obtain⟨ku,rfl,rk⟩:=vals1 r2;cases (show ku=Value.ref f from rk);show wpAny _ _ (call (.builtin "min") [.ref a] [(Str.ofString "key",.ref f)]) _ _ s2;have hlen:=ra.length;have L':qX (wC X) sc x fr:=⟨L.kind,L.co,L.gen,L.cell,L.free,L.own,L.fr⟩;have A2:∀ {H'},Kp H2 H'->cK X.K H' M1->Abs X.K H' σ τ M1:=λ kp m=>A.go (kp1.trans (kp2.trans kp)) m;refine adF (xs:=xs) (λ i=>kf i) (λ i H'=>Kp H2 H'/\cK X.K H' M1) hr.hd I2 ⟨Kp.refl _,m2⟩ (by rw[hlen];exact List.length_pos_iff.mpr hne) (λ i H' hW=>(SqF.keep (kp2.trans hW.1) hs).sq) (λ i v u pl H' s' hv ru hW J=>?_) λ i v u H' s' hv ru hbest hW J=>?_
 ·obtain⟨d,hd,rd⟩:=(ra.keep (kp2.trans hW.1)).get' hv;refine aeh (X:=wC X) (k:=k) (hr.in1) hc L' hcl.1 hcl.2 (hb cl _) (te:=up X.K tb) (λ c s H pl hr'=>he cl f c s H pl hr') J (D.aev.keep hlam hW.1) ru ?_;refine⟨_,M1,_,adR (A2 hW.1 hW.2) (w:=.d d) rd fr,hkey i d hd,λ y H3 w3 M3 kp3 r3 m3 z=>?_⟩;obtain⟨e1,e2⟩:=z;subst e1 e2;simp only[aD,aA] at r3;exact⟨r3,hW.1.trans kp3,m3⟩
 ·obtain⟨d,hd,rd⟩:=(ra.keep (kp2.trans hW.1)).get' hv;exact⟨v,H',J,ru,kk v H' (.d d) M1 (kp1.trans (kp2.trans hW.1)) rd hW.2 (hfin i d hd λ j hj=>hbest j (by omega))⟩
end
namespace Q
theorem ad9{X:Cx}{P cd:Addr}{q x:Str}{lpos pos p kpos:Pos}{params:Arguments}{body o:Expr}{sc:Scope}{fr:List Nat}{to tb:TD}{k:Nat}(hr:c4 (k+2) X.A)(hc:X.calm=true)(hg:Gl X "min")(hm:X.mg "min" = none)(L:qX X sc x fr)(hcode:X.env.code=.ref cd)(hcd:PySem.W.codeHdIn X.K cd P=true)(hq:X.env.qual ++ "<lambda>" = q)
  (hb:∀ cl pm cdv ctv u,bindArgs (kla_fn "<lambda>" q params body sc cl pm cdv ctv) ⟨[u],[]⟩=pure [(x,u)])(ho:Jd (PD X o to))
  (he:∀ cl f c s H pl,c4 k (zN (wC X) q sc (w6 X x fr) cl f c s H pl).A->Jd (PD (zN (wC X) q sc (w6 X x fr) cl f c s H pl) body tb))(hso:gf o=false:=by rfl)(hdef:defaultsOf params X.env=([],[]):=by rfl) :
  Jd (PD X (.Call (.Name "min" p) [o] [⟨some "key",.Lambda params body sc lpos,kpos⟩] pos) (ade P q lpos to tb fr)):=⟨D.aal hr hc hg hm L hcode hcd hq hb ho.h (λ cl f c s H pl h=>(he cl f c s H pl h).h) hso hdef⟩
end Q
end D
namespace L2
def zV(ts:List Addr)(H:Hp):Prop:=∀ b,H b=none\/(∃ o xs,H b=some (.frz o (.lst xs)))\/(b∈ts/\H b=some (.tbl #[]))
theorem wJ{P:Program}{w:World}{K:PySem.W.Frag}{mg mb:Str->Option Value}{CX:CXT}{k:Nat}{fa a:Addr}{fd:FuncData}{x:Str}{sp:Sp}{s₁:Shared}{vs:List Value}{ns:List Int}
  (KX:K.In s₁.heap)(hns:s₁.heap.Ns mainGlobals mg)(hb:s₁.heap.Ns builtinsNs mb)(hbb:∀ x:Str,x ≠ "__name__" -> mb x=bootBuiltins x)(hlim:s₁.heap.NoLimit)(hbm:BM mg s₁.heap)(hg:s₁.gens = #[])
  (ha:s₁.heap.get? a=some {cls:=.type "list",data:=.seq vs.toArray})(hi:IntsAre vs ns)(hl:ns.length<=sizeLine)(hr:c4 k callerA)(ts:List Addr)(hts:∀ T∈ts,(∃ c,PySem.W.codeHdIn K c T=true)/\K.lookup T=none/\s₁.heap.get? T=some {cls:=.none,data:=.fields #[]})
  (F:∀ base:Heap,K.In base->base.Ns mainGlobals mg->cX P w K mg base CX k fa fd [x] sp)(hbind:∀ (s:Shared) (u:Value),BindsTo s fd ⟨[u],[]⟩ [(x,u)])
  (hsp:∀ H:Hp,zV ts H->(∀ T∈ts,H T=some (.tbl #[]))->SqL K H a (ns.map V.int)->sp [.ref a] H (λ v _=>v=.bl true) λ _ _ _=>False)
  (hCX:∀ H e s',CX [] H s₁ (λ _ _ _=>False) e s'->False) :
  codeAny (model P w) callerA (.call (.ref fa) ⟨[.ref a],[]⟩) (λ r s'=>r=.ok (.ret (.bool true))/\OldK s₁.heap s'.heap/\s'.os=s₁.os/\AllBare s'.gens) s₁:=by
 have rv:=gP hi;have lenV:=hi.length;have at':∀ T∈ts,T≠a:=λ T hT e=>by have h:=(hts T hT).2.2;rw[e,ha] at h;cases h
 have core:∀ H:Hp,zV ts H->(∀ T∈ts,H T=some (.tbl #[]))->SqL K H a (ns.map V.int)->HOk P w H s₁.heap->(∀ b,H b≠none->b=a\/b∈ts)->(H a≠none->K.lookup a=none) ->
   codeAny (model P w) callerA (.call (.ref fa) ⟨[.ref a],[]⟩) (λ r s'=>r=.ok (.ret (.bool true))/\OldK s₁.heap s'.heap/\s'.os=s₁.os/\AllBare s'.gens) s₁:=by
  intro H hO hTb hS hok hA hK;have jw:∀ {b:Addr} {o:Obj},s₁.heap.get? b=some o->H b=none->(aat s₁.heap H).get? b=some o:=λ e n=>aaS e n;have noA:∀ {b:Addr} {o:Obj} {es:Array DictEntry} {ep:Nat},s₁.heap.get? b=some o->o.data=.dict es ep->H b=none:=λ {b o es ep} e d=>by
   cases q:H b with
   | none=>rfl
   | some u =>
    rcases hA b (by rw[q];simp) with e' | e'
    ·subst e';rw[ha] at e;cases e;have d':Data.seq vs.toArray _=Data.dict es ep:=d;cases d'
    ·rw[(hts b e').2.2] at e;cases e;have d':Data.fields _=Data.dict es ep:=d;cases d'
  have nsK:∀ {b:Addr} {m:Str->Option Value},s₁.heap.Ns b m->(aat s₁.heap H).Ns b m:=λ {b m} ⟨o,es,ep,e,d,r⟩=>⟨o,es,ep,jw e (noA e d),d,r⟩;have hKb:K.In (aat s₁.heap H):=λ b o e=>jw (KX b o e) (by
   cases q:H b with
   | none=>rfl
   | some u =>
    rcases hA b (by rw[q];simp) with e' | e'
    ·subst e';rw[hK (by rw[q];simp)] at e;cases e
    ·rw[(hts b e').2.1] at e;cases e)
  have hM:Mod K mg (aat s₁.heap H):=⟨hKb,nsK hns,⟨mb,nsK hb,hbb⟩,let ⟨mc,h1,h2⟩:=hlim; ⟨mc,nsK h1,h2⟩,let ⟨⟨b,o,h1,h2,h3,h4,h5,h6⟩,mm,hmm⟩:=hbm; ⟨⟨b,o,h1,h2,jw h3 (by cases q:H b with | none=>rfl | some u=>(rcases hA b (by rw[q];simp) with e' | e'; (subst e';rw[ha] at h3;cases h3;cases h6); (rw[(hts b e').2.2] at h3;cases h3;cases h6))),h4,h5,h6⟩,mm,nsK hmm⟩⟩;have e0:adu P w K mg (aat s₁.heap H) callerA [] s₁ H:=⟨rfl,hM,λ b o e=>adK e,Nat.le_of_eq (xM _ _),trivial,λ b hb=>absurd (show b∈([]:List Addr) from hb) (by simp),hok,.of_eq hg⟩;refine codeAny_mono ((F _ hKb (nsK hns)).run callerA [] s₁ H ⟨[.ref a],[]⟩ [.ref a] [.ref a] _ _ hr e0 (hbind s₁ (.ref a)) (.cons rfl .nil) (hsp H hO hTb hS)) λ r s' h=>?_;cases r with
  | error e=>exact(hCX H e s' h).elim
  | ok fl =>
   cases fl with
   | next=>exact False.elim h
   | brk=>exact False.elim h
   | cont=>exact False.elim h
   | ret u =>
    obtain⟨v,H',os,bare,un,hok',r',q⟩:=h;have q':v=.bl true:=q;subst q';obtain rfl:u=Value.bool true:=r';have old:∀ b o,s₁.heap.get? b=some o->s'.heap.get? b=some o\/∃ more,b∈ts/\s'.heap.get? b=some {cls:=.none,data:=.fields (#[]++more)}:=λ b o e=>?_;refine⟨rfl,⟨λ b o e=>?_,λ b o e=>(old b o e).elim (λ z=>⟨_,z⟩) λ⟨_,_,z⟩=>⟨_,z⟩⟩,os,bare⟩
    ·rcases old b o e with z | ⟨more,hb,z⟩
     ·exact .inl z
     ·obtain⟨⟨c,hc⟩,_,h3⟩:=hts b hb;rw[h3] at e;cases e;exact .inr (.inl ⟨((PySem.W.codeHd_of_K KX hc).tab h3).isCodeTable,rfl,#[],more,rfl,z⟩)
    cases q:H b with
    | none=>exact .inl <| un.keep b o e q (by intro z;exact absurd (show b∈([]:List Addr) from z) (by simp)) (by simp)
    | some u =>
     rcases hO b with z | ⟨ob,xs,z⟩ | ⟨hb,z⟩
     ·rw[q] at z;cases z
     ·refine .inl ?_;have z2:=un.frzs b ob _ z;obtain⟨e1,_⟩:=hok b _ z;obtain⟨e2,_⟩:=hok' b _ z2;rw[e] at e1;cases e1;exact e2
     ·obtain⟨more,z2⟩:=un.tbls b _ z;exact .inr ⟨more,hb,hok' b _ z2⟩
 cases hk:K.lookup a with
 | some o =>
  have e:=KX a o hk;rw[ha] at e;cases e;refine core (λ b=>if b∈ts then some (.tbl #[]) else none) (λ b=>?_) (λ T hT=>if_pos hT) (.inr ⟨_,vs.toArray,_,hk,rfl,rfl,rfl,by rw[List.size_toArray,lenV];exact hl,by simpa using rv⟩) (λ b u z=>?_) (λ b z=>?_) λ z=>absurd (if_neg λ h=>at' a h rfl) z
  ·by_cases hb:b∈ts
   ·exact .inr (.inr ⟨hb,if_pos hb⟩)
   ·exact .inl (if_neg hb)
  ·by_cases hb:b∈ts
   ·have z':=(if_pos hb).symm.trans z;cases z';exact(hts b hb).2.2
   ·have z':=(if_neg hb).symm.trans z;cases z'
  ·by_cases hb:b∈ts
   ·exact .inr hb
   ·exact absurd (if_neg hb) z
 | none =>
  refine core (λ b=>if b=a then some (.frz {cls:=.type "list",data:=.seq vs.toArray} (.lst (ns.map V.int))) else if b∈ts then some (.tbl #[]) else none) (λ b=>?_) (λ T hT=>(if_neg (at' T hT)).trans (if_pos hT)) (.inl (.inr ⟨{cls:=.type "list",data:=.seq vs.toArray},if_pos rfl⟩)) (λ b u z=>?_) (λ b z=>?_) λ _=>hk
  ·by_cases hb:b=a
   ·exact .inr (.inl ⟨_,_,if_pos hb⟩)
   ·by_cases hb2:b∈ts
    ·exact .inr (.inr ⟨hb2,(if_neg hb).trans (if_pos hb2)⟩)
    ·exact .inl ((if_neg hb).trans (if_neg hb2))
  ·by_cases hb:b=a
   ·have z':=(if_pos hb).symm.trans z;cases z';subst hb;exact⟨ha,by rw[List.length_map];exact hl,vs,_,rv,ha⟩
   ·have z0:=(if_neg hb).symm.trans z
    by_cases hb2:b∈ts
    ·have z':=(if_pos hb2).symm.trans z0;cases z';exact(hts b hb2).2.2
    ·have z':=(if_neg hb2).symm.trans z0;cases z'
  ·by_cases hb:b=a
   ·exact .inl hb
   ·by_cases hb2:b∈ts
    ·exact .inr hb2
    ·exact absurd ((if_neg hb).trans (if_neg hb2)) z
theorem aaW{l:PySem.W.OpenLaw}{n k:Nat}{q:Program}{loose:List Str}{XP:(Str->Option Value)->Heap->Prop}{YP:World->Heap->Prop}{d:DefRec}{K:Params->PySem.W.Frag}{CX:World->CXT}{sp:World->Sp}{x:Str}
  (hq:importsNone q=true)(hn:l.most=some n)(hn2:n<=sizeLine)(hdf:d.params.defaults=[])(hr:c4 k callerA)
  (ts:List Addr)(hT:∀ w:World,∀ T∈ts,(∃ c,PySem.W.codeHdIn (K w.params) c T=true)/\(K w.params).lookup T=none)(hY:∀ (w:World) (h:Heap),YP w h->(K w.params).In h/\∀ T∈ts,h.get? T=some {cls:=.none,data:=.fields #[]})
  (F:∀ (w:World) (mg:Str->Option Value) (fa:Addr) (h:Heap),(K w.params).In h->h.Ns mainGlobals mg->mg d.name=some (.ref fa) ->
   ∃ fd:FuncData,(∀ (s:Shared) (u:Value),BindsTo s fd ⟨[u],[]⟩ [(x,u)]) /\
    ∀ base:Heap,(K w.params).In base->base.Ns mainGlobals mg->cX l.prog w (K w.params) mg base (CX w) k fa fd [x] (sp w))
  (hsp:∀ (w:World) (H:Hp) (a:Addr) (ns:List Int),ns.length<=n->zV ts H->(∀ T∈ts,H T=some (.tbl #[]))->SqL (K w.params) H a (ns.map V.int)->sp w [.ref a] H (λ v _=>v=.bl true) λ _ _ _=>False)
  (hCX:∀ (w:World) (H:Hp) (s:Shared) (e:Value) (s':Shared),CX w [] H s (λ _ _ _=>False) e s'->False) :
  PySem.W.WalkO q loose XP YP l.row.toRowW d [] (λ f vs=>PySem.call f vs):=by
 refine Att.sT hn hdf λ w s₀ s₁ mg mb fa o pm cd doc a vs ns G Y ho hd hcd hmg hobj hints hlen hg=>?_;obtain⟨KX,hTb⟩:=hY w _ Y;obtain⟨fd,hb,hF⟩:=F w mg fa _ KX G.T.g hmg;exact wJ KX G.T.g G.T.b G.T.builtins G.T.nolimit (let ⟨bm,ob,b1,b2,b3,b4,b5,b6⟩:=G.T.bmain;let ⟨mm,hmm,_⟩:=(G.T.seer hq).mods; ⟨⟨bm,ob,b1,b2,b3,b4,b5,b6⟩,mm,hmm⟩) hg hobj hints (Nat.le_trans hlen hn2) hr ts (λ T h=>⟨(hT w T h).1,(hT w T h).2,hTb T h⟩) hF hb (λ H hO hB hS=>hsp w H a ns hlen hO hB hS) λ H e s'=>hCX w H s₁ e s'
end L2
namespace D
open L2
section
variable {P:Program}{w:World}{K:PySem.W.Frag}{mg:Str->Option Value}{base:Heap}
theorem adZ{x qual:Str}{st:Stmt}{f cd:Addr}{fd:FuncData}{N ps:List Str}{k:Nat}{sp:SpD}{t:TSd}(F:Fun K x qual st f fd)(hcd:fd.code=.ref cd)(S:aL N ps (aq st))(len:∀ ws M Q,sp ws M Q->ws.length=ps.length)
  (hbody:∀ (A:Around) (outer:List Env) (s:Shared) (H:Hp) (E:XK),c4 k (A.deeper (envOfC qual (aq st) s.heap.objs.size f (.ref cd)))->o7 (aaK CX0 P w K mg base N qual (aq st) f (.ref cd) A outer s H E).nox (bj st) t)
  (read:∀ ws M Q,sp ws M Q->t {nx:=λ _ M'=>Q (.d .none) M',rt:=Q} (aX N ws) M):cX P w K mg base CX0 (k+1) f fd ps (dG K sp):=by
 obtain⟨oc,od,kV,doc,pm,an,cdv,ct,osl,e,lk,hcdv⟩:=F.ex;subst e;have e2:cdv=.ref cd:=hcd;subst e2;refine ac2 lk hcdv S (λ vs H Q E h=>?_) (λ A outer s H vs Q E hr h=>?_)
 ·obtain⟨ws,M,Qd,r,_,q,_⟩:=h;rw[<- r.length];exact len _ _ _ q
 ·obtain⟨ws,M,Qd,r,m,q,kk⟩:=h;refine⟨_,(hbody A outer s H E hr).nox,aX N ws,M,_,kF r m,read ws M Qd q,λ σ' H' τ' M' kp A' q'=>?_,λ v H' w' M' kp r' m' q'=>?_,λ σ' H' τ' M' kp A' q'=>q'.elim,λ σ' H' τ' M' kp A' q'=>q'.elim⟩
  ·exact kk _ H' _ M' kp (by simp[aD,aA]) A'.mem q'
  ·exact kk v H' w' M' kp r' m' q'
end
def M1T(T:Addr)(q:Str)(lpos:Pos):MH:=λ b=>if b=T then some (.code q lpos) else none
theorem v9{K:PySem.W.Frag}{H:Hp}{a T:Addr}{q:Str}{lpos:Pos}{ns:List Int}{sp:SpD}(hl:ns.length<=63)(hO:L2.zV [T] H)(hT:∀ x∈[T],H x=some (.tbl #[]))(hS:L2.SqL K H a (ns.map V.int))(h:∀ ns:List Int,ns.length<=63->sp [.d (.list (ns.map PyData.int))] (M1T T q lpos) (λ w _=>w=.d (.bool true))) :
  dG K sp [.ref a] H (λ v _=>v=.bl true) λ _ _ _=>False:=by
 refine⟨[.d (.list (ns.map PyData.int))],M1T T q lpos,_,.cons ?_ .nil,λ a o z=>?_,h ns hl,λ v H' w M' kp r m q=>?_⟩
 ·simp only[aD,aA];refine⟨a,_,rfl,?_,bf.ints ns⟩;rcases hS with (h | h) | h
  ·rcases hO a with z | ⟨ob,xs,z⟩ | ⟨_,z⟩
   ·rw[h] at z;cases z
   ·rw[h] at z;cases z
   ·rw[h] at z;cases z
  ·exact .inl h
  ·exact .inr h
 ·unfold M1T at z
  split at z
  ·cases z
   rename_i e
   subst e;exact⟨#[],hT _ (by simp),trivial,.inl rfl⟩
  ·cases z
 ·subst q;simp only[aD,aA] at r;exact r
def ab8(sc scX:Scope)(x:Str)(N:List Str)(fr:List Nat):Bool:=
 (sc.kind==.function)&&!sc.isCoroutine&&!sc.isGenerator&&sc.names.all (λ y=>!(y.2==.cell))&&sc.names.all (λ y=>!(y.2==.free) || scX.names.lookup y.1==some .cell || scX.names.lookup y.1==some .free) &&
  (sc.names.lookup x==some .local)&&aeB N sc fr
theorem ahg{X:Cx}{sc:Scope}{x:Str}{fr:List Nat}(h:ab8 sc X.env.scope x X.N fr=true):qX X sc x fr:=by
 simp only[ab8,Bool.and_eq_true,Bool.not_eq_true'] at h;obtain⟨⟨⟨⟨⟨⟨h1,h2⟩,h3⟩,h4⟩,h5⟩,h6⟩,h7⟩:=h;refine⟨eq_of_beq h1,h2,h3,λ y hy e=>?_,λ y hy e=>?_,eq_of_beq h6,h7⟩
 ·have:=List.all_eq_true.mp h4 y hy;simp[e] at this
 ·have:=List.all_eq_true.mp h5 y hy;simp only[e,beq_self_eq_true,Bool.not_true,Bool.false_or,Bool.or_eq_true] at this;rcases this with z | z
  ·exact .inl (eq_of_beq z)
  ·exact .inr (eq_of_beq z)
section
variable {X:Cx}{o i e:Expr}{to ti te:TD}{op:Operator}{f:Int->Int->Int}{pos tpos:Pos}
theorem get_dict(hu:X.A.units+1<cLine):ah6 X (λ o i H Q=>∃ a kvs k v,o=.ref a/\i=kV k/\H a=some (.dK kvs)/\pR kvs k=some v/\Q v H):=by intro pins s σ H o i ov iv Q I ro ri h;obtain⟨a,kvs,k,v,eo,ei,e,l,q⟩:=h;subst eo ei;cases (show ov=Value.ref a from ro);exact(mX hu I (.inl (.inl e)) l ri λ w' s' I' r'=>⟨v,H,I',r',q⟩).2
def vE(to ti te:TD)(f:Int->Int->Int)(D:Ed)(τ:DS)(M:MH):Prop:=to τ M λ w M1=>ti τ M1 λ w' M2=>∃ a kvs k n,w=.m a/\w'=kW k/\M2 a=some (.dic kvs)/\eL kvs k=some (.d (.int n))/\kvs.length<sizeLine /\
 te τ M2 λ y M3=>∃ n',y=.d (.int n')/\M3=M2/\D.nx τ (aE M3 a (.dic (mE kvs k (.d (.int (f n n'))))))
theorem yx(hu:X.A.units+1<cLine)(ho:PD X o to)(hi:PD X i ti)(he:PD X e te)(hp:PIp X op (ipI f))
  (ha:∀ ov iv new,augStore i ov iv new=(do holding [new,ov,iv] (setItem ov iv new);release [new,ov,iv] [];pure .next):=by intros;rfl):PSd X (.AugAssign (.Subscript o i tpos) op e pos) (vE to ti te f):=
 qb (yO ho hi (get_dict hu) he hp (set_dict hu) ha) λ D σ H h=>by
  obtain⟨τ,M,Dd,A,h,k1,_⟩:=h;refine⟨τ,M,_,A,h,λ x H1 wo M1 kp1 r1 m1 q1=>⟨τ,M1,_,A.go kp1 m1,q1,λ y H2 wi M2 kp2 r2 m2 q2=>?_⟩⟩;obtain⟨a,kvs,key,n,e1,e2,hm,hn,hl,q⟩:=q2;subst e1;subst e2;simp only[aD] at r1;obtain⟨l,e3,pr⟩:=m2 a _ hm;have g:=lU key pr;rw[hn] at g;obtain⟨b,eb,rb⟩:=OR.some_of g;simp only[aD,aA] at rb;refine⟨a,l,key,b,r1,iW r2,e3,eb,?_⟩;refine⟨τ,M2,_,A.go (kp1.trans kp2) m2,q,λ z H3 wz M3 kp3 r3 m3 q3=>?_⟩;obtain⟨n',e5,e6,qn⟩:=q3;subst e5;subst e6;simp only[aD,aA] at r3;refine⟨n,n',rb,r3,?_⟩;obtain⟨l',e3',pr'⟩:=m3 a _ hm;have kp:=(kp1.trans kp2).trans kp3;have kp4:Kp H3 (upd H3 a (.dK (putK l' key (.int (f n n'))))):=Kp.set e3' (λ _ z=>nomatch z) (λ _ _ z=>nomatch z);refine⟨a,_,r1,.inl ⟨l',key,e3',iW r2,by rw[<- lY pr'];exact hl,rfl⟩,?_⟩;have rv':aD X.K H3 (.d (.int (f n n'))) (.int (f n n')):=by simp[aD,aA]
  refine k1 σ _ τ _ (kp.trans kp4) (A.go (kp.trans kp4) (m3.put (mo:=.dic (mE kvs key (.d (.int (f n n'))))) kp4 ⟨_,ar,?_⟩)) qn;exact Paired.gH (ur key rv' pr') λ p q z=>⟨z.1,z.2.keep kp4⟩
end
namespace Q
theorem kh{X:Cx}{o i e:Expr}{to ti te:TD}{op:Operator}{f:Int->Int->Int}{pos tpos:Pos}(hu:X.A.units+1<cLine)(ho:Jd (PD X o to))(hi:Jd (PD X i ti))(he:Jd (PD X e te))(hp:PIp X op (ipI f))
  (ha:∀ ov iv new,augStore i ov iv new=(do holding [new,ov,iv] (setItem ov iv new);release [new,ov,iv] [];pure .next):=by intros;rfl):Jd (PSd X (.AugAssign (.Subscript o i tpos) op e pos) (vE to ti te f)):=⟨D.yx hu ho.h hi.h he.h hp ha⟩
end Q
end D
namespace D
open L2
theorem aeG:bootBuiltins "any" = some (.builtin "any"):=by decide +kernel
section
variable {X:Cx}{K:PySem.W.Frag}
theorem lb:∀ {us:List Value} {ns:List Int},IntsAre us ns->∀ (i:Nat) (v:Value),us[i]? =some v->∃ n t,ns[i]? =some n/\v=.int n t
 | _,_,.nil,i,v,e=>by simp at e
 | _,_,.cons n t h,0,v,e=>by simp at e;exact⟨n,t,rfl,e.symm⟩
 | _,_,.cons n t h,i+1,v,e=>by obtain⟨m,t',e1,e2⟩:=lb h i v (by simpa using e);exact⟨m,t',by simpa using e1,e2⟩
theorem ye:∀ {ns:List Int} {kvs:List (Key×V)} {vs:List (Key×Value)},KV kvs vs->kvs.map (·.2)=ns.map V.int->IntsAre (vs.map (·.2)) ns:=λ {ns kvs vs} r h=>by
 refine gP r h (by simp) λ i v hi=>?_;rw[List.getElem?_map] at hi;cases e:vs[i]? with
 | none=>rw[e] at hi;cases hi
 | some p=>rw[e] at hi;cases hi;exact⟨p.1,rfl⟩
theorem xA(hc:X.calm=true):fC X (.builtin "any") (λ xs H Q=>∃ v a kvs,∃ ns:List Int,xs=[.ref v]/\H v=some (.ext λ h=>h.IsValuesView v a)/\Rd H a (.dK kvs)/\kvs.map (·.2)=ns.map V.int/\Q (.bl (ns.any λ n=>n != 0)) H):=by
 intro pins s σ H xs us Q I r h;obtain⟨v,a,kvs,ns,rfl,hv,hr,hk,q⟩:=h;obtain⟨u,rfl,rx⟩:=vals1 r;cases (show u=Value.ref v from rx);obtain⟨hsz,hsys,vs,rel,oo,es,ep,hd⟩:=hr.ok I.hok;obtain⟨hview,_⟩:=(show cW X.prog X.w H s.heap v (.ext λ h=>h.IsValuesView v a) from I.hok v _ hv);have hI:=ye rel hk;have hln:vs.length=ns.length:=by simpa using hI.length
 obtain⟨oI,St,hit,W,st⟩:=(PySem.W.kdl_values (knd:=aW X.prog X.w) (r:=v) (d:=a) (kvs:=vs) (ep:=ep)).iter X.A.in1 s (I.ok.hd hc) ⟨hview,⟨oo,es,hd⟩⟩;refine call_any_walk (hit _ _ ⟨s.heap.objs.size,_,_,vs.length,_,_,λ i=>((ns.map λ n=>n != 0)[i]?).getD false,rfl,W,st,λ i x s' Q' E' hP hQ=>?_,λ h' tk hk'=>?_⟩)
 ·obtain⟨k,hx⟩:=hP;obtain⟨n,t,e1,rfl⟩:=lb hI i x (by rw[List.getElem?_map,hx];rfl);simp only[List.getElem?_map,e1,Option.map_some,Option.getD_some] at hQ;exact truthy_int hQ
 ·have e:((List.range vs.length).any λ i=>((ns.map λ n=>n != 0)[i]?).getD false)=ns.any λ n=>n != 0:=by have:=LSm.range_any (ns.map λ n=>n != 0);rw[List.length_map,<- hln] at this;rw[this,List.any_map];rfl
  rw[e];exact⟨.bl _,H,I.kept (LSm.kept_iter hk'),rfl,q⟩
variable {o e:Expr}{to:TE}{td te:TD}{apos cpos p pos:Pos}
def ah5(xs:List V)(H:Hp)(Q:VK):Prop:=∃ v a kvs,∃ ns:List Int,xs=[.ref v]/\H v=some (.ext λ h=>h.IsValuesView v a)/\Rd H a (.dK kvs)/\kvs.map (·.2)=ns.map V.int/\Q (.bl (ns.any λ n=>n != 0)) H
theorem ac7(hc:X.calm=true)(hg:Gl X "any")(hm:X.mg "any" = none)(ho:PE X o to)(hbase:attributeBase o "values" X.env (eval o X.env)=eval o X.env:=by rfl)(hline:(apos.endLine==cpos.line)=true:=by rfl) :
  PE X (.Call (.Name "any" p) [.Call (.Attribute o "values" apos) [] [] cpos] [] pos) (tCB ah5 (sx (adC to) zL)):=
 pA (xA hc) hg hm aeG (lJ (zJ ho hbase hline) qi) (by decide) (by decide) (cu _ [] X.env rfl) (dZ pos X.env [] rfl)
def adw(td:TD)(τ:DS)(M:MH)(Q:QD):Prop:=td τ M λ w M1=>∃ a kvs,∃ ns:List Int,w=.m a/\M1 a=some (.dic kvs)/\kvs.map (·.2)=cI ns/\Q (.d (.bool (ns.any λ n=>n != 0))) M1
theorem aaR(hc:X.calm=true)(hg:Gl X "any")(hm:X.mg "any" = none)(ho:PD X o td)(hbase:attributeBase o "values" X.env (eval o X.env)=eval o X.env:=by rfl)(hline:(apos.endLine==cpos.line)=true:=by rfl) :
  PD X (.Call (.Name "any" p) [.Call (.Attribute o "values" apos) [] [] cpos] [] pos) (adw td):=eQ (ac7 hc hg hm ho hbase hline) λ σ H Q hq121=>by
 obtain⟨τ,M,Qd,A,h,k⟩:=hq121;refine⟨τ,M,_,A,h,λ x H1 w M1 kp1 r1 m1 hq122=>?_⟩;obtain⟨a,kvs,ns,ew,hmm,hk,q⟩:=hq122;subst ew;obtain⟨l,e,pr⟩:=m1 _ _ hmm;refine⟨a,l,r1,.inl e,λ v hv=>?_⟩;have na:a≠v:=λ z=>by rw[z,hv] at e;cases e
 have kp2:Kp H1 (upd H1 v (.ext λ h=>h.IsValuesView v a)):=Kp.new hv;exact⟨v,a,l,ns,rfl,ar,.inl (by rw[aj na];exact e),tD hk pr,kgo k kp1 _ _ (.d (.bool _)) _ kp2 (by simp[aD,aA]) (m1.new hv) q⟩
theorem vZ(hc:X.calm=true):fC X (.type "list") (λ xs H Q=>∃ a kvs,∃ zs:List Str,xs=[.ref a]/\Rd H a (.dK kvs)/\kvs.map (·.1)=zs.map Sum.inr/\∀ l,H l=none->Q (.ref l) (upd H l (.lst (zs.map V.str)))):=by
 intro pins s σ H xs us Q I r h;obtain⟨a,kvs,zs,rfl,hq,hk,q⟩:=h;obtain⟨u,rfl,rx⟩:=vals1 r;cases rx;obtain⟨hsz,hsys,vs,rel,o,es,ep,hd⟩:=hq.ok I.hok;have hvs:vs.map (·.1)=zs.map Sum.inr:=by
  rw[<- hk];clear hk hd hq hsz
  induction rel with
  | nil=>rfl
  | cons r t ih=>simp only[List.map_cons,ih,r.1]
 have hln:vs.length=zs.length:=by simpa using congrArg List.length hvs
 have hkl:kvs.length=zs.length:=by simpa using congrArg List.length hk
 refine PySem.W.kdl_call (PySem.W.kdl_dict (knd:=aW X.prog X.w) (kvs:=vs) (ep:=ep) hsys) (I.ok.hd hc) ⟨o,es,hd⟩ (by omega) λ h' tk acc c old hnew hacc=>?_;have hla:acc.toList.length=vs.length:=by rw[Array.length_toList];exact hacc.1
 have hS:StrsAre acc.toList zs:=qe hvs hla λ j v hj=>hacc.2 j v (by rw[<- Array.getElem?_toList];exact hj);exact⟨.ref _,_,I.laid (t':=tk) old (Nat.le_refl _) (show cW X.prog X.w _ h' _ (.lst (zs.map V.str)) from⟨by rw[List.length_map];omega,acc.toList,c,rT hS,by rw[Array.toArray_toList];exact hnew⟩),rfl,q _ (I.hok.fresh (Nat.le_refl _))⟩
def xN(ws:List W)(M:MH)(Q:QD):Prop:=∃ a kvs,∃ zs:List Str,ws=[.m a]/\M a=some (.dic kvs)/\kvs.map (·.1)=zs.map Sum.inr/\∀ p,M p=none->Q (.m p) (aE M p (.lst (cN zs)))
theorem aa0:hZ K (λ xs H Q=>∃ a kvs,∃ zs:List Str,xs=[.ref a]/\Rd H a (.dK kvs)/\kvs.map (·.1)=zs.map Sum.inr/\∀ l,H l=none->Q (.ref l) (upd H l (.lst (zs.map V.str)))) xN:=by
 intro vs H ws M Qd Q r m ⟨a,kvs,zs,e,g,hk,q⟩ k;subst e;obtain⟨v,e1,r1⟩:=fZ r;have ev:v=.ref a:=r1;subst ev;obtain⟨l,el,pr⟩:=m _ _ g;refine⟨a,l,zs,e1,.inl el,?_,λ p hp=>?_⟩
 ·rw[<- hk];clear hk el g
  induction pr with
  | nil=>rfl
  | cons r t ih=>simp only[List.map_cons,ih,r.1]
 ·have kp:Kp H (upd H p (.lst (zs.map V.str))):=Kp.new hp;exact k _ _ (.m p) _ kp rfl (m.put (mo:=.lst (cN zs)) kp ⟨_,ar,qN zs⟩) (q p (m.free hp))
def adA(K:PySem.W.Frag):V->List V->Hp->VK->Prop:=λ x vs H Q=>∃ y d ds j,vs=[y]/\sY K H (.list ds) x/\sY K H d y/\aen d ds=true/\ad6 ds d j/\(j:Int)<2 ^ 63-1/\Q (.int (j:Nat)) H
theorem yV{k:Nat}(hr:c4 k X.A):MtM X "list.index" (adA X.K):=by
 intro pins s σ H x vs v us Q I rx rv h;obtain⟨y,d,ds,j,rfl,h1,h2,o,⟨j0,j1,j2⟩,hsm,q⟩:=h;obtain⟨u,rfl,ru⟩:=rv.one;simp only[aen,rH,Bool.and_eq_true,Bool.not_eq_true'] at o;obtain⟨⟨o1,o2⟩,o3,o4⟩:=o;obtain⟨as,r2⟩:=fA I d h2 ru o2;obtain⟨bs,r1⟩:=fA I (.list ds) h1 rx o4;have c3:PyData.canLayAll0 ds=true:=SeqAt.canLay_of_shaped o3;cases r1 with
 | @list a ob its n _ as1 e1 e2 e3 e4 =>
  obtain⟨cls,dd,data,sl⟩:=ob;simp only at e2 e3;subst e2 e3;have em:=SeqAt.readsAll_map ds _ _ c3 e4;have hlen:ds.length=its.size:=by have:=congrArg List.length em;simpa using this.symm
  have hat:∀ m (hm:m<its.size),ds[m]? =some (SeqAt.readOf s.heap its[m]):=λ m hm=>by rw[<- em,List.getElem?_map];simp[hm]
  refine call_meets F.slot_list_index ⟨_,e1,rfl⟩ F.entry_list_index (F.args_list_index_2 _ _) (SeqAt.list_indexAt a its n dd sl u (λ z=>PyData.eqv (SeqAt.readOf s.heap z) d) j (by omega) hsm (j1 _ (hat j (by omega))) (λ m hm hlt=>j2 m _ hlt (hat m hm)))
   ⟨e1,SeqAt.items_eqAt e4 r2 c3 (SeqAt.canLay_of_shaped o1) (adg hr o1),⟨.int _,H,I.tok _,⟨_,rfl⟩,q⟩⟩
def sW(td te:TD)(τ:DS)(M:MH)(Q:QD):Prop:=td τ M λ w M1=>∃ ds,w=.d (.list ds)/\te τ M1 λ y M2=>∃ d j,y=.d d/\aen d ds=true/\ad6 ds d j/\(j:Int)<2 ^ 63-1/\Q (.d (.int (j:Nat))) M2
theorem vW{k:Nat}(hr:c4 k X.A)(ho:PD X o td)(he:PD X e te)
  (hbase:attributeBase o "index" X.env (eval o X.env)=eval o X.env:=by rfl)
  (hfew:((backTo cpos (starEach [e] X.env)).all (λ x=>!x.1)&&(backToKw cpos (keywordEach [] X.env)).all (λ x=>x.1.isSome)
   && decide (([e]:List Expr).length+([]:List Keyword).length+(if ([]:List Keyword).isEmpty then 0 else 1)<30))=true:=by rfl)
  (hline:(apos.endLine==cpos.line)=true:=by rfl)(hs:gf e=false:=by rfl):PD X (.Call (.Attribute o "index" apos) [e] [] cpos) (sW td te):=
 eQ (aaG PySem.F.plainAttrs_list PySem.F.slot_list_index PySem.F.type_list_index (yV hr) ho (pac he af hs) hbase hfew hline (cu e [] X.env hs) rfl) λ σ H Q h=>by obtain⟨τ,M,Qd,A,h,k⟩:=h;refine⟨τ,M,_,A,h,λ x H1 w M1 kp1 r1 m1 hq123=>?_⟩;obtain⟨ds,ew,q1⟩:=hq123;subst ew;have r1':=r1;simp only[aD,aA] at r1';obtain⟨a,vs,ex,hsq,ra⟩:=r1';subst ex;refine⟨.inl ⟨rfl,vs,hsq.sq⟩,τ,M1,agU (λ y M2=>∃ d j,y=.d d/\aen d ds=true/\ad6 ds d j/\(j:Int)<2 ^ 63-1/\Qd (.d (.int (j:Nat))) M2),A.go kp1 m1,q1,λ ys H2 wys M2 kp2 r2 m2 q2=>?_⟩;obtain⟨y,ey,d,j,ed,ok,hj,hsm,q4⟩:=sL q2;subst ey ed;obtain⟨v,ev,rv⟩:=fZ r2;subst ev;exact⟨v,d,ds,j,rfl,.inl (r1.keep kp2),.inl rv,ok,hj,hsm,k _ _ (.d (.int _)) _ (kp1.trans kp2) (by simp[aD,aA]) m2 q4⟩
end
namespace Q
section
variable {X:Cx}{o e:Expr}{td te:TD}{apos cpos p pos:Pos}
theorem ad7(hc:X.calm=true)(hg:Gl X "any")(hm:X.mg "any" = none)(ho:Jd (PD X o td))(hbase:attributeBase o "values" X.env (eval o X.env)=eval o X.env:=by rfl)(hline:(apos.endLine==cpos.line)=true:=by rfl) :
  Jd (PD X (.Call (.Name "any" p) [.Call (.Attribute o "values" apos) [] [] cpos] [] pos) (adw td)):=⟨D.aaR hc hg hm ho.h hbase hline⟩
theorem xl{k:Nat}(hr:c4 k X.A)(ho:Jd (PD X o td))(he:Jd (PD X e te))
  (hbase:attributeBase o "index" X.env (eval o X.env)=eval o X.env:=by rfl)
  (hfew:((backTo cpos (starEach [e] X.env)).all (λ x=>!x.1)&&(backToKw cpos (keywordEach [] X.env)).all (λ x=>x.1.isSome)
   && decide (([e]:List Expr).length+([]:List Keyword).length+(if ([]:List Keyword).isEmpty then 0 else 1)<30))=true:=by rfl)
  (hline:(apos.endLine==cpos.line)=true:=by rfl)(hs:gf e=false:=by rfl):Jd (PD X (.Call (.Attribute o "index" apos) [e] [] cpos) (sW td te)):=⟨D.vW hr ho.h he.h hbase hfew hline hs⟩
end
end Q
end D
set_option maxHeartbeats 0
namespace D
open L2
section
variable {X:Cx}{a b:Expr}{rest:List Expr}{pos:Pos}{ta tb:TE}
def ai9(K:PySem.W.Frag)(ta tb:TE):TE:=λ σ H Q=>ta σ H λ x H1=>∃ c,agR K x H1 c/\if c=true then Q x H1 else tb σ H1 Q
theorem afr(ha:PE X a ta)(hb:PE X (.BoolOp .Or (b::rest) pos) tb):PE X (.BoolOp .Or (a::b::rest) pos) (ai9 X.K ta tb):=by
 intro pins s σ H Q I h;refine BoolOp_or (thn (ha pins s σ H _ I h) λ v s1 hq124=>?_);obtain⟨x,H1,I1,r1,c,hc,q1⟩:=hq124;refine thn (abZ pins s1 σ H1 x v (λ k H'=>k=c/\H'=H1) I1 r1 ⟨c,hc,rfl,rfl⟩) λ k s2 hq125=>?_;obtain⟨H2,I2,e1,e2⟩:=hq125;subst e1 e2;cases k with
 | false=>exact hb pins s2 σ H2 Q I2 q1
 | true=>exact⟨x,H2,I2,r1,q1⟩
def ag0(ta tb:TD)(τ:DS)(M:MH)(Q:QD):Prop:=ta τ M λ w M1=>∃ c,vp M1 w c/\if c=true then Q w M1 else tb τ M1 Q
theorem aek{ta tb:TD}(ha:PD X a ta)(hb:PD X (.BoolOp .Or (b::rest) pos) tb):PD X (.BoolOp .Or (a::b::rest) pos) (ag0 ta tb):=eQ (afr ha hb) λ σ H Q h=>by
 obtain⟨τ,M,Qd,A,h,k⟩:=h;refine⟨τ,M,_,A,h,λ x H1 w M1 kp r1 m1 ⟨c,g,q1⟩=>⟨c,g.sound r1 m1,?_⟩⟩;cases c with
 | false=>rw[if_neg Bool.false_ne_true] at q1 ⊢;exact⟨τ,M1,Qd,A.go kp m1,q1,kgo k kp⟩
 | true=>rw[if_pos rfl] at q1 ⊢;exact k _ H1 _ M1 kp r1 m1 q1
end
section
variable {P:Program}{w:World}{A:Around}{R:Result->Shared->Prop}{it l S:Addr}{its:List Value}{ns:List Int}{kw:List (Str×Value)}
def Lst(ns:List Int)(j:Nat)(m:Int):Prop:=m∈ns.take j/\∀ x∈ns.take j,m<=x
theorem Lst.next{j:Nat}{m n:Int}(h:Lst ns j m)(e:ns[j]? =some n):Lst ns (j+1) (if n<m then n else m):=by
 have ht:ns.take (j+1)=ns.take j++[n]:=by rw[List.take_succ,e];rfl
 unfold Lst;rw[ht];constructor
 ·split
  ·simp
  ·exact List.mem_append_left _ h.1
 ·intro x hx;rcases List.mem_append.mp hx with hx | hx
  ·have:=h.2 x hx
   split<;>omega
  ·rw[List.mem_singleton.mp hx]
   split<;>omega
theorem vJ(hh:A.handled=none)(hlI:l≠it)(hSI:S≠it)(hSl:S≠l)(hI:IntsAre its ns) :
  ∀ (r j:Nat) (s:Shared) (m:Int) (tb:Tok) (c:Nat),its.length-(j+1)=r->j+1<=its.length->s.heap.IsListIter it l (j+1)->s.heap.IsList l its.toArray->Lst ns (j+1) m ->
   s.heap.get? S=some (seqObj "list" #[.int m tb,.int m tb] c) ->
   (∀ (m:Int) (t:Tok) (h':Heap) (tk:Nat),Lst ns its.length m->(∀ b o,b≠it->b≠S->s.heap.get? b=some o->h'.get? b=some o)->R (.ok (.ret (.int m t))) {s with heap:=h',toks:=tk}) ->
   codeAny (model P w) A (.builtin "min.loop" ⟨[.ref it,.none,.ref S],kw⟩) R s:=by
 have nm:(toString "min" ++ toString ".loop" : String) = "min.loop":= by decide
 have Wk:=Walks.list (prog:=P) (w:=w) (A:=A.in1) hh it l hlI its.toArray;intro r
 induction r with
 | zero =>
  intro j s m tb c hr hj gI gl hL gS fin;have hin:j+1=its.length:=by omega
  refine codeAny_builtin PySem.F.entry_min_loop ?_;rw[Around.under_plainId PySem.F.plain_min_loop _];show wpAny _ A.in1 (seqItems? (.ref S) >>= _) _ _ _;refine wpAny_bind (wpAny_seqItems gS rfl ?_);show wpAny _ A.in1 (tryCatch (pyNext (.ref it)) _ >>= _) _ _ _;refine wpAny_bind (wpAny_tryCatch (Wk.done _ _ _ ⟨by rw[List.size_toArray,<- hin];exact gI,gl⟩ λ h' tk' hk'=>?_));have gS':=hk' S _ (by simpa using hSI) gS;have s1:=Heap.SameBut.update h' S (Obj.mapSeq λ _=>(#[]:Array Value));show wpAny _ A.in1 (updateSeq S (λ _=>#[]) >>= _) _ _ _;refine wpAny_bind (wpAny_updateSeq gS' rfl (wpAny_bind (wpAny_letGo (wpAny_pure ?_))));exact fin m tb _ tk' (hin ▸ hL) λ b o h1 h2 e=>(s1.2 b h2).trans (hk' b o (by simpa using h1) e)
 | succ r ih =>
  intro j s m tb c hr hj gI gl hL gS fin;have hlt:j+1<its.length:=by omega
  refine codeAny_builtin PySem.F.entry_min_loop ?_;rw[Around.under_plainId PySem.F.plain_min_loop _];show wpAny _ A.in1 (seqItems? (.ref S) >>= _) _ _ _;refine wpAny_bind (wpAny_seqItems gS rfl ?_);show wpAny _ A.in1 (tryCatch (pyNext (.ref it)) _ >>= _) _ _ _;refine wpAny_bind (wpAny_tryCatch (Wk.item (j+1) _ _ _ (by rw[List.size_toArray];exact hlt) ⟨gI,gl⟩ λ u2 h' tk' hP hst hk'=>?_));obtain⟨n,t2,hn,rfl⟩:=lb hI (j+1) u2 (by simpa using hP);have gS1:=hk' S _ (by simpa using hSI) gS;obtain⟨oI,goI,coI,doI⟩:=id hst.1;have hN:=hL.next hn;show wpAny _ A.in1 (tryCatch (holding [.int n t2,.int n t2] (richCompare .Lt (.int n t2) (.int m tb) >>= _)) _ >>= _) _ _ _;have cmp:∀ (s:Shared) (Q:Value->Shared->Prop) (E:Value->Shared->Prop),Q (.bool (decide (n<m))) s->wpAny (model P w) A.in1 (richCompare .Lt (.int n t2) (.int m tb)) Q E s:=λ s Q E h =>
   CmpOf.ints_lt (prog:=P) (w:=w) (A:=A.in1) (P:=λ i v=>∃ t,v=.int (if i=0 then n else m) t) (λ i=>if i=0 then n else m) (λ i v h=>h) 0 1 _ _ s Q E ⟨t2,rfl⟩ ⟨tb,rfl⟩ h
  refine wpAny_bind (wpAny_tryCatch (wpAny_holding (wpAny_bind (cmp _ _ _ ?_))));refine wpAny_bind (wpAny_holding (wpAny_truthy_bool (wpAny_bind (wpAny_letGo (wpAny_pure ?_)))))
  by_cases hb':n<m
  ·rw[if_pos hb'] at hN;have s1:=Heap.SameBut.update h' S (Obj.mapSeq λ _=>#[Value.int n t2,.int n t2]);obtain⟨c2,hc2⟩:∃ c2,(h'.update S (Obj.mapSeq λ _=>#[Value.int n t2,.int n t2])).get? S=some (seqObj "list" #[.int n t2,.int n t2] c2):=⟨_,get?_update_seq gS1 λ _=>#[Value.int n t2,.int n t2]⟩;simp only[hb',decide_true,if_true];refine wpAny_bind (wpAny_updateSeq gS1 rfl (wpAny_bind (wpAny_letGo ?_)));rw[nm];refine wpAny_pure ⟨plainId_quiet PySem.F.plain_min_loop _,ih (j+1) _ n t2 c2 (by omega) hlt ⟨oI,(s1.2 it hSI.symm).trans goI,coI,doI⟩ (hst.2.at λ o e=>(s1.2 l (Ne.symm hSl)).trans e) hN hc2 λ m' t' h2 tk2 hm hk2=>fin m' t' h2 tk2 hm λ b o h1 h3 e=>hk2 b o h1 h3 ((s1.2 b h3).trans (hk' b o (by simpa using h1) e))⟩
  ·rw[if_neg hb'] at hN;simp only[hb',decide_false,Bool.false_eq_true,if_false];refine wpAny_bind (wpAny_letGo ?_);rw[nm];exact wpAny_pure ⟨plainId_quiet PySem.F.plain_min_loop _,ih (j+1) _ m tb c (by omega) hlt ⟨oI,goI,coI,doI⟩ hst.2 hN gS1 λ m' t' h2 tk2 hm hk2=>fin m' t' h2 tk2 hm λ b o h1 h3 e=>hk2 b o h1 h3 (hk' b o (by simpa using h1) e)⟩
theorem yf(a v:Value):argsOk "min" ⟨[a],[(Str.ofString "default",v)]⟩:=by unfold argsOk;kernel_rfl
theorem aaM{s:Shared}{d:Value}{Q:Value->Shared->Prop}{E:Value->Shared->Prop}(hh:A.handled=none)(hl:s.heap.IsList l its.toArray)(hI:IntsAre its ns)
  (fin:∀ (m:Int) (t:Tok) (h':Heap) (tk:Nat),Lst ns its.length m->(∀ b o,s.heap.get? b=some o->h'.get? b=some o)->Q (.int m t) {s with heap:=h',toks:=tk})
  (none:its=[]->∀ (h':Heap) (tk:Nat),(∀ b o,s.heap.get? b=some o->h'.get? b=some o)->Q d {s with heap:=h',toks:=tk}) :
  wpAny (model P w) A (call (.builtin "min") [.ref l] [(Str.ofString "default",d)]) Q E s:=by
 have nm:(toString "min" ++ toString ".loop" : String) = "min.loop":= by decide
 obtain⟨ol,hol,_⟩:=id hl;have hll:l<s.heap.objs.size:=Heap.lt_size hol;refine kmk_tree PySem.F.kind_min PySem.F.plain_min PySem.F.entry_min (yf _ _) ?_;show wpAny _ A.in1 (Builtin.Builtins.bindParams "min" ["key", "default"] 0 ⟨[],[(Str.ofString "default",d)]⟩ >>= _) _ _ s;refine wpAny_bind (wpAny_of_eq (show Builtin.Builtins.bindParams "min" ["key", "default"] 0 ⟨[],[(Str.ofString "default",d)]⟩=pure [.none,some d] from rfl) (wpAny_bind (wpAny_pure ?_)));refine wpAny_bind (wpAny_pyIter_list hl (wpAny_bind (wpAny_newList ?_ (Nat.zero_le _))));rw[nm];generalize hit:s.heap.objs.size=it;have hS:(s.heap.push {cls:=.type "list_iterator",data:=.fields #[.ref l,.int 0 0]}).objs.size=it+1:=by rw[<- hit];exact size_push' ..
 rw[hS];have gI:((s.heap.push {cls:=.type "list_iterator",data:=.fields #[.ref l,.int 0 0]}).push (seqObj "list" #[] 0)).get? it=some {cls:=.type "list_iterator",data:=.fields #[.ref l,.int 0 0]}:=Heap.get?_push_of_some _ (by rw[<- hit];exact Heap.get?_push_size _ rfl);have gS:((s.heap.push {cls:=.type "list_iterator",data:=.fields #[.ref l,.int 0 0]}).push (seqObj "list" #[] 0)).get? (it+1)=some (seqObj "list" #[] 0):=by rw[<- hS];exact Heap.get?_push_size _ rfl
 refine wpAny_pure ⟨plainId_quiet PySem.F.plain_min_loop _,?_⟩;generalize hH:(s.heap.push {cls:=.type "list_iterator",data:=.fields #[.ref l,.int 0 0]}).push (seqObj "list" #[] 0)=hp at gI gS;have kp:∀ b o,s.heap.get? b=some o->hp.get? b=some o:=λ b o e=>by rw[<- hH];exact Heap.get?_push_of_some _ (Heap.get?_push_of_some _ e)
 have old:∀ b o,s.heap.get? b=some o->b≠it/\b≠it+1:=λ b o e=>by have:=Heap.lt_size e;rw[hit] at this;exact⟨Nat.ne_of_lt this,Nat.ne_of_lt (Nat.lt_succ_of_lt this)⟩
 have hlI:l≠it:=(old l _ hol).1;have hlst:hp.IsList l its.toArray:=hl.at λ o e=>kp l o e;have Wk:=Walks.list (prog:=P) (w:=w) (A:=A.in1) hh it l hlI its.toArray;refine codeAny_builtin PySem.F.entry_min_loop ?_;rw[Around.under_plainId PySem.F.plain_min_loop _];show wpAny _ A.in1 (seqItems? (.ref (it+1)) >>= _) _ _ _;refine wpAny_bind (wpAny_seqItems gS rfl ?_);show wpAny _ A.in1 (tryCatch (pyNext (.ref it)) _ >>= _) _ _ _
 by_cases h0:0<its.length
 ·refine wpAny_bind (wpAny_tryCatch (Wk.item 0 _ _ _ (by rw[List.size_toArray];exact h0) ⟨⟨_,gI,rfl,rfl⟩,hlst⟩ λ u2 h' tk' hP hst hk'=>?_));obtain⟨n,t2,hn,rfl⟩:=lb hI 0 u2 (by simpa using hP);have gS1:=hk' (it+1) _ (by simp) gS;obtain⟨oI,goI,coI,doI⟩:=id hst.1;have s1:=Heap.SameBut.update h' (it+1) (Obj.mapSeq λ _=>#[Value.int n t2,.int n t2]);obtain⟨c2,hc2⟩:∃ c2,(h'.update (it+1) (Obj.mapSeq λ _=>#[Value.int n t2,.int n t2])).get? (it+1)=some (seqObj "list" #[.int n t2,.int n t2] c2):=⟨_,get?_update_seq gS1 λ _=>#[Value.int n t2,.int n t2]⟩;show wpAny _ A.in1 (updateSeq (it+1) (λ _=>#[.int n t2,.int n t2]) >>= _) _ _ _;refine wpAny_bind (wpAny_updateSeq gS1 rfl ?_);rw[nm];have hL:Lst ns 1 n:=by
   have e:ns.take 1=[n]:=by
    cases ns with
    | nil=>simp at hn
    | cons a as=>simp at hn;subst hn;rfl
   unfold Lst;rw[e];exact⟨by simp,λ x hx=>by rw[List.mem_singleton.mp hx];exact Int.le_refl _⟩
  exact wpAny_pure ⟨plainId_quiet PySem.F.plain_min_loop _,vJ (l:=l) hh hlI (by simp) (λ z=>(old l _ hol).2 z.symm) hI _ 0 _ n t2 c2 rfl h0 ⟨oI,(s1.2 it (by simp)).trans goI,coI,doI⟩ (hst.2.at λ o e=>(s1.2 l (old l _ hol).2).trans e) hL hc2 λ m t h2 tk2 hm hk2=>fin m t h2 tk2 hm λ b o e=>hk2 b o (old b o e).1 (old b o e).2 ((s1.2 b (old b o e).2).trans (hk' b o (by simpa using (old b o e).1) (kp b o e)))⟩
 ·have e0:its=[]:=List.length_eq_zero_iff.mp (by omega);refine wpAny_bind (wpAny_tryCatch (Wk.done _ _ _ ⟨by rw[List.size_toArray,e0];exact⟨_,gI,rfl,rfl⟩,hlst⟩ λ h' tk' hk'=>?_));show wpAny _ A.in1 (rule _ >>= _) _ _ _;exact wpAny_bind (wpAny_rule (wpAny_pure (none e0 h' tk' λ b o e=>hk' b o (by simpa using (old b o e).1) (kp b o e))))
end
section
variable {X:Cx}{K:PySem.W.Frag}{e:Expr}{te:TE}{p pos kpos kp:Pos}{j:Nat}
def ahu(K:PySem.W.Frag)(te:TE):TE:=λ σ H Q=>te σ H λ x H1=>∃ a,∃ ns:List Int,x=.ref a/\SqL K H1 a (ns.map V.int)/\(ns=[]->Q .non H1)/\∀ m,m∈ns->(∀ y∈ns,m<=y)->Q (.int m) H1
theorem acn(hc:X.calm=true)(hg:Gl X "min")(hm:X.mg "min" = none)(he:PE X e te)(hs:gf e=false:=by rfl) :
  PE X (.Call (.Name "min" p) [e] [⟨some "default",.Constant .none j kp,kpos⟩] pos) (ahu X.K te):=by
 intro pins s σ H Q I h;have pa:PA X [e] (sx te zL):=lJ he qi (cu e [] X.env hs);have pk:PK X [⟨some "default",.Constant .none j kp,kpos⟩] (sx (tC .non) zL):=xU acg abE;refine wpAny_Call_Name_kw (lO I hg hm uN (callWith_kw ?_ (by rw[cu e [] X.env hs];rfl) (by rw[cu e [] X.env hs];rfl)));refine thn (pa pos pins s σ H (λ vs H2=>match vs with
  | [x]=>∃ a,∃ ns:List Int,x=.ref a/\SqL X.K H2 a (ns.map V.int)/\(ns=[]->Q .non H2)/\∀ m,m∈ns->(∀ y∈ns,m<=y)->Q (.int m) H2
  | _=>False) I h) λ us s1 ⟨vs,H2,I1,r1,hx⟩=>?_
 match vs,r1,hx with
 | [x],r1,⟨a,ns,ex,hq,q0,q⟩ =>
  subst ex;obtain⟨u,rfl,ru⟩:=vals1 r1;cases ru;refine thn (pk pos pins s1 σ H2 (λ ks H3=>ks=[.non]/\H3=H2) I1 ⟨rfl,rfl⟩) λ kus s2 hq126=>?_;obtain⟨ks,H3,I2,r2,ek,eH⟩:=hq126;subst ek eH;obtain⟨ku,rfl,rk⟩:=vals1 r2;cases (show ku=Value.none from rk);show wpAny _ _ (call (.builtin "min") [.ref a] [(Str.ofString "default",.none)]) _ _ s2;obtain⟨its,rv,pl,hz⟩:=I2.list hq;obtain⟨ps,e1,e2⟩:=pE rv;have hI:IntsAre its ns:=by
   subst e1;rw[<- e2];clear rv pl hz hq q0 q e2 h r1
   induction ps with
   | nil=>exact .nil
   | cons a as ih=>exact .cons _ _ ih
  have hln:its.length=ns.length:=hI.length;refine aaM (I.ok.hd hc) pl.isList hI (λ m t h' tk hm kk=>?_) λ e0 h' tk kk=>?_
  ·rw[hln] at hm;unfold Lst at hm;rw[List.take_of_length_le (Nat.le_refl _)] at hm;exact⟨.int m,H3,I2.kept kk,⟨t,rfl⟩,q m hm.1 hm.2⟩
  ·exact⟨.non,H3,I2.kept kk,rfl,q0 (List.length_eq_zero_iff.mp (by rw[<- hln,e0];rfl))⟩
 | [],_,hx=>exact hx.elim
 | _::_::_,_,hx=>exact hx.elim
def adm(td:TD)(τ:DS)(M:MH)(Q:QD):Prop:=td τ M λ w M1=>∃ ns:List Int,w=.d (.list (ns.map PyData.int))/\(ns=[]->Q (.d .none) M1)/\∀ m,m∈ns->(∀ y∈ns,m<=y)->Q (.d (.int m)) M1
theorem vj{K:PySem.W.Frag}{H:Hp}:∀ {ns:List Int} {vs:List V},bf K H (ns.map PyData.int) vs->vs=ns.map V.int
 | [],_,h=>by simp only[List.map_nil,bf] at h;rw[h];rfl
 | n::ns,_,h=>by simp only[List.map_cons,bf] at h;obtain⟨v,vs,rfl,h1,h2⟩:=h;simp only[aA] at h1;rw[h1,vj h2];rfl
theorem aa3{td:TD}(hc:X.calm=true)(hg:Gl X "min")(hm:X.mg "min" = none)(he:PD X e td)(hs:gf e=false:=by rfl) :
  PD X (.Call (.Name "min" p) [e] [⟨some "default",.Constant .none j kp,kpos⟩] pos) (adm td):=eQ (acn hc hg hm he hs) λ σ H Q hq127=>by
 obtain⟨τ,M,Qd,A,h,k⟩:=hq127;refine⟨τ,M,_,A,h,λ x H1 w M1 kp1 r1 m1 hq128=>?_⟩;obtain⟨ns,ew,q0,q⟩:=hq128;subst ew;simp only[aD,aA] at r1;obtain⟨a,vs,ex,hsq,ra⟩:=r1;rw[vj ra] at hsq;exact⟨a,ns,ex,hsq.sq,λ e0=>k _ H1 (.d .none) M1 kp1 (by simp[aD,aA]) m1 (q0 e0),λ m hm hl=>k _ H1 (.d (.int m)) M1 kp1 (by simp[aD,aA]) m1 (q m hm hl)⟩
end
section
variable {X:Cx}{o e:Expr}{td te:TD}{apos cpos:Pos}
def qS(kvs more:List (Key×W)):List (Key×W):=more.foldl (λ acc kv=>mE acc kv.1 kv.2) kvs
theorem uY{R:W->V->Prop}:∀ {more:List (Key×W)} {l:List (Key×V)},Paired (λ p q=>p.1=q.1/\R p.2 q.2) more l->∀ {kvs:List (Key×W)} {m:List (Key×V)},Paired (λ p q=>p.1=q.1/\R p.2 q.2) kvs m->Paired (λ p q=>p.1=q.1/\R p.2 q.2) (qS kvs more) (fY m l)
 | _,_,.nil,_,_,h=>h
 | _,_,.cons a b,_,_,h=>by obtain⟨a1,a2⟩:=a;refine uY b ?_;dsimp only;rw[a1];exact ur _ a2 h
def yS(td te:TD)(τ:DS)(M:MH)(Q:QD):Prop:=td τ M λ w M1=>∃ a kv0,w=.m a/\M1 a=some (.dic kv0)/\te τ M1 λ y M2=>∃ b kvs more,y=.m b/\M2 a=some (.dic kvs)/\M2 b=some (.dic more)/\a≠b/\kvs.length+more.length<=sizeLine/\Q (.d .none) (aE M2 a (.dic (qS kvs more)))
theorem xc(ho:PD X o td)(he:PD X e te)
  (hbase:attributeBase o "update" X.env (eval o X.env)=eval o X.env:=by rfl)
  (hfew:((backTo cpos (starEach [e] X.env)).all (λ x=>!x.1)&&(backToKw cpos (keywordEach [] X.env)).all (λ x=>x.1.isSome)
   && decide (([e]:List Expr).length+([]:List Keyword).length+(if ([]:List Keyword).isEmpty then 0 else 1)<30))=true:=by rfl)
  (hline:(apos.endLine==cpos.line)=true:=by rfl)(hs:gf e=false:=by rfl):PD X (.Call (.Attribute o "update" apos) [e] [] cpos) (yS td te):=
 eQ (aaG PySem.F.plainAttrs_dict PySem.F.slot_dict_update PySem.F.type_dict_update adz ho (pac he af hs) hbase hfew hline (cu e [] X.env hs) rfl) λ σ H Q h=>by
  obtain⟨τ,M,Qd,A,h,k⟩:=h;refine⟨τ,M,_,A,h,λ x H1 w M1 kp1 r1 m1 hq129=>?_⟩;obtain⟨a,kv0,ew,hm0,q1⟩:=hq129;subst ew;have r1':x=.ref a:=r1;subst r1';obtain⟨l0,ea0,_⟩:=m1 _ _ hm0;refine⟨?_,τ,M1,agU (λ y M2=>∃ b kvs more,y=.m b/\M2 a=some (.dic kvs)/\M2 b=some (.dic more)/\a≠b/\kvs.length+more.length<=sizeLine/\Qd (.d .none) (aE M2 a (.dic (qS kvs more)))),A.go kp1 m1,q1,λ ys H2 wys M2 kp2 r2 m2 q2=>?_⟩
  ·exact .inr (.inr (.inl ⟨rfl,.inl ⟨l0,ea0⟩⟩))
  obtain⟨y,ey,b,kvs,more,ey2,hm2,hb2,ne,hl,q4⟩:=sL q2;subst ey ey2;obtain⟨v,ev,rv⟩:=fZ r2;subst ev;have rv':v=.ref b:=rv;subst rv';obtain⟨l2,ea2,pr⟩:=m2 _ _ hm2;obtain⟨l3,eb2,pr3⟩:=m2 _ _ hb2;have kp4:Kp H2 (upd H2 a (.dK (fY l2 l3))):=Kp.set ea2 (λ _ z=>nomatch z) (λ _ _ z=>nomatch z);refine⟨a,b,l2,l3,rfl,rfl,ea2,.inl eb2,ne,by rw[<- lY pr,<- lY pr3];exact hl,?_⟩;refine k _ _ (.d .none) _ ((kp1.trans kp2).trans kp4) (by simp[aD,aA]) (m2.put (mo:=.dic (qS kvs more)) kp4 ⟨_,ar,?_⟩) q4;exact Paired.gH (uY pr3 pr) λ p q z=>⟨z.1,z.2.keep kp4⟩
end
namespace Q
section
variable {X:Cx}{a b o e:Expr}{rest:List Expr}{ta tb td te:TD}{apos cpos p pos kpos kp:Pos}{j:Nat}
theorem abB(ha:Jd (PD X a ta))(hb:Jd (PD X (.BoolOp .Or (b::rest) pos) tb)):Jd (PD X (.BoolOp .Or (a::b::rest) pos) (ag0 ta tb)):=⟨D.aek ha.h hb.h⟩
theorem aej(hc:X.calm=true)(hg:Gl X "min")(hm:X.mg "min" = none)(he:Jd (PD X e td))(hs:gf e=false:=by rfl) :
  Jd (PD X (.Call (.Name "min" p) [e] [⟨some "default",.Constant .none j kp,kpos⟩] pos) (adm td)):=⟨D.aa3 hc hg hm he.h hs⟩
theorem aad(ho:Jd (PD X o td))(he:Jd (PD X e te))
  (hbase:attributeBase o "update" X.env (eval o X.env)=eval o X.env:=by rfl)
  (hfew:((backTo cpos (starEach [e] X.env)).all (λ x=>!x.1)&&(backToKw cpos (keywordEach [] X.env)).all (λ x=>x.1.isSome)
   && decide (([e]:List Expr).length+([]:List Keyword).length+(if ([]:List Keyword).isEmpty then 0 else 1)<30))=true:=by rfl)
  (hline:(apos.endLine==cpos.line)=true:=by rfl)(hs:gf e=false:=by rfl):Jd (PD X (.Call (.Attribute o "update" apos) [e] [] cpos) (yS td te)):=⟨D.xc ho.h he.h hbase hfew hline hs⟩
end
end Q
end D
namespace D
open L2
section
variable {X:Cx}{K:PySem.W.Frag}{pins:List (Addr×Obj)}{σ:St}{H:Hp}{s:Shared}
end
section
variable {X:Cx}{a:Expr}{p pos:Pos}{ta:TA}{t:TAd}
end
section
variable {X:Cx}{K:PySem.W.Frag}
theorem kQ(ns:List Int):∀ k,k<=ns.length->preSum (λ i=>(ns[i]?).getD 0) k=(ns.take k).sum
 | 0,_=>by simp[preSum]
 | k+1,h=>by
  rw[kM,kQ ns k (by omega),List.take_succ,List.sum_append];have hk:k<ns.length:=by omega
  simp[List.getElem?_eq_getElem hk]
theorem yY(hc:X.calm=true):fC X (.builtin "sum") (λ xs H Q=>∃ v a kvs,∃ ns:List Int,xs=[.ref v]/\H v=some (.ext λ h=>h.IsValuesView v a)/\Rd H a (.dK kvs)/\kvs.map (·.2)=ns.map V.int/\Q (.int ns.sum) H):=by
 intro pins s σ H xs us Q I r h;obtain⟨v,a,kvs,ns,rfl,hv,hr,hk,q⟩:=h;obtain⟨u,rfl,rx⟩:=vals1 r;cases (show u=Value.ref v from rx);obtain⟨hsz,hsys,vs,rel,oo,es,ep,hd⟩:=hr.ok I.hok;obtain⟨hview,_⟩:=(show cW X.prog X.w H s.heap v (.ext λ h=>h.IsValuesView v a) from I.hok v _ hv);have hI:=ye rel hk;have hln:vs.length=ns.length:=by simpa using hI.length
 have src:=PySem.W.kdl_values (prog:=X.prog) (w:=X.w) (knd:=aW X.prog X.w) (r:=v) (d:=a) (kvs:=vs) (ep:=ep);have there:=(src.there s.heap ⟨hview,⟨oo,es,hd⟩⟩).2;obtain⟨oI,St,hit,W,st⟩:=src.iter X.A.in1 s (I.ok.hd hc) ⟨hview,⟨oo,es,hd⟩⟩;refine call_sum_walkG (hit _ _ ⟨s.heap.objs.size,_,_,vs.length,_,_,λ i=>(ns[i]?).getD 0,rfl,W,st,λ b hb=>?_,λ i x hP=>?_,λ h' tk t' hk'=>?_⟩)
 ·have z:b=s.heap.objs.size\/b=a:=by simpa using hb
  show b<(s.heap.push oI).objs.size;rw[Heap.size_push];rcases z with z | z
  ·rw[z];exact Nat.lt_succ_self _
  ·rw[z];exact Nat.lt_succ_of_lt there
 ·obtain⟨k,hx⟩:=hP;obtain⟨n,t,e1,rfl⟩:=lb hI i x (by rw[List.getElem?_map,hx];rfl);exact⟨t,by show Value.int n t=Value.int ((ns[i]?).getD 0) t;rw[e1];rfl⟩
 ·have e:preSum (λ i=>(ns[i]?).getD 0) vs.length=ns.sum:=by rw[kQ ns _ (by omega),hln,List.take_length]
  rw[e];exact⟨.int _,H,I.kept (LSm.kept_iter hk'),⟨_,rfl⟩,q⟩
variable {o e:Expr}{to:TE}{td te:TD}{apos cpos p pos:Pos}
def ah3(xs:List V)(H:Hp)(Q:VK):Prop:=∃ v a kvs,∃ ns:List Int,xs=[.ref v]/\H v=some (.ext λ h=>h.IsValuesView v a)/\Rd H a (.dK kvs)/\kvs.map (·.2)=ns.map V.int/\Q (.int ns.sum) H
theorem acv(hc:X.calm=true)(hg:Gl X "sum")(hm:X.mg "sum" = none)(ho:PE X o to)(hbase:attributeBase o "values" X.env (eval o X.env)=eval o X.env:=by rfl)(hline:(apos.endLine==cpos.line)=true:=by rfl) :
  PE X (.Call (.Name "sum" p) [.Call (.Attribute o "values" apos) [] [] cpos] [] pos) (tCB ah3 (sx (adC to) zL)):=
 pA (yY hc) hg hm xV (lJ (zJ ho hbase hline) qi) (by decide) (by decide) (cu _ [] X.env rfl) (dZ pos X.env [] rfl)
def adQ(td:TD)(τ:DS)(M:MH)(Q:QD):Prop:=td τ M λ w M1=>∃ a kvs,∃ ns:List Int,w=.m a/\M1 a=some (.dic kvs)/\kvs.map (·.2)=cI ns/\Q (.d (.int ns.sum)) M1
theorem aba(hc:X.calm=true)(hg:Gl X "sum")(hm:X.mg "sum" = none)(ho:PD X o td)(hbase:attributeBase o "values" X.env (eval o X.env)=eval o X.env:=by rfl)(hline:(apos.endLine==cpos.line)=true:=by rfl) :
  PD X (.Call (.Name "sum" p) [.Call (.Attribute o "values" apos) [] [] cpos] [] pos) (adQ td):=eQ (acv hc hg hm ho hbase hline) λ σ H Q hq130=>by
 obtain⟨τ,M,Qd,A,h,k⟩:=hq130;refine⟨τ,M,_,A,h,λ x H1 w M1 kp1 r1 m1 hq131=>?_⟩;obtain⟨a,kvs,ns,ew,hmm,hk,q⟩:=hq131;subst ew;obtain⟨l,e,pr⟩:=m1 _ _ hmm;refine⟨a,l,r1,.inl e,λ v hv=>?_⟩;have na:a≠v:=λ z=>by rw[z,hv] at e;cases e
 have kp2:Kp H1 (upd H1 v (.ext λ h=>h.IsValuesView v a)):=Kp.new hv;exact⟨v,a,l,ns,rfl,ar,.inl (by rw[aj na];exact e),tD hk pr,kgo k kp1 _ _ (.d (.int _)) _ kp2 (by simp[aD,aA]) (m1.new hv) q⟩
end
namespace Q
section
variable {X:Cx}
theorem acK{o:Expr}{td:TD}{apos cpos p pos:Pos}(hc:X.calm=true)(hg:Gl X "sum")(hm:X.mg "sum" = none)(ho:Jd (PD X o td))(hbase:attributeBase o "values" X.env (eval o X.env)=eval o X.env:=by rfl)(hline:(apos.endLine==cpos.line)=true:=by rfl) :
  Jd (PD X (.Call (.Name "sum" p) [.Call (.Attribute o "values" apos) [] [] cpos] [] pos) (adQ td)):=⟨D.aba hc hg hm ho.h hbase hline⟩
end
end Q
end D
namespace D
open L2
section
variable {K:PySem.W.Frag}
def yR(w w':W)(M:MH)(Q:QD):Prop:=∃ a b xs ys,w=.m a/\w'=.m b/\M a=some (.lst xs)/\M b=some (.lst ys)/\xs.length+ys.length<=sizeLine/\∀ p,M p=none->Q (.m p) (aE M p (.lst (xs++ys)))
theorem aN.app{H:Hp}:∀ {xs:List W} {vs:List V} {ys:List W} {us:List V},aN K H xs vs->aN K H ys us->aN K H (xs++ys) (vs++us)
 | _,_,_,_,.nil,h=>h
 | _,_,_,_,.cons a b,h=>.cons a (aN.app b h)
theorem u6:OpD K (afP K) yR:=by intro x y H w w' M Qd Q r1 r2 m ⟨a,b,xs,ys,e1,e2,ha,hb,hz,q⟩ k;subst e1 e2;obtain⟨vs,e3,p1⟩:=m _ _ ha;obtain⟨us,e4,p2⟩:=m _ _ hb;have l1:=aN.length p1;have l2:=aN.length p2;refine⟨a,b,vs,us,r1,r2,.of e3,.of e4,by omega,λ p hp=>?_⟩;have kp:Kp H (upd H p (.lst (vs++us))):=Kp.new hp;exact k _ _ (.m p) _ kp rfl (m.put (mo:=.lst (xs++ys)) kp ⟨_,ar,aN.keep kp (aN.app p1 p2)⟩) (q p (m.free hp))
end
structure MiE(K:PySem.W.Frag)(C:Addr)(qual:Str)(st:Stmt)(ps:List Str)(f:Addr)(fd:FuncData):Prop where
 fn:aim K "__init__" qual st f fd
 mi:Mk K C f
 bd:Binds K fd ps []
 bn:Binds K fd ps [.none]
theorem aeP{K:PySem.W.Frag}{C:Addr}{qual:Str}{st:Stmt}{ps:List Str}{f T:Addr}{oc oc2:Value}{od od2 an:Option Addr}{osl osl2:Array (Option Value)}{kV doc pm cdv ct:Value}{n:Nat}(a:PySem.W.findIn K (.ref C) "__init__" = some (some (.ref f)))(i:PySem.W.isFn K (.ref f)=true)
  (l:K.lookup f=some ⟨oc,od,.func (PySem.W.fnOf "__init__" qual (bx st) (bj st) (aq st) (.ref T) kV doc pm an cdv ct),osl⟩)(c:PySem.W.codeIn K cdv qual=true)(k:PySem.W.keepIn K (.ref f)=true)
  (mk:PySem.W.makesIn K C=true)(kc:PySem.W.keepIn K (.ref C)=true)(lt:K.lookup T=some ⟨oc2,od2,.seq #[.none] n,osl2⟩)
  (b:∀ (us:List Value),us.length=ps.length->∃ kk:Option (Array Value)->Sem (List (Str×Value)),bindArgs (PySem.W.fnOf "__init__" qual (bx st) (bj st) (aq st) (.ref T) kV doc pm an cdv ct) ⟨us,[]⟩=seqItems? (.ref T) >>= kk/\kk (some #[.none])=pure (ps.zip us))
  (b2:∀ (us:List Value),us.length+1=ps.length->∃ kk:Option (Array Value)->Sem (List (Str×Value)),bindArgs (PySem.W.fnOf "__init__" qual (bx st) (bj st) (aq st) (.ref T) kV doc pm an cdv ct) ⟨us,[]⟩=seqItems? (.ref T) >>= kk/\kk (some #[.none])=pure (ps.zip (us++[.none]))) :
  MiE K C qual st ps f (PySem.W.fnOf "__init__" qual (bx st) (bj st) (aq st) (.ref T) kV doc pm an cdv ct):=
 ⟨⟨⟨oc,od,.ref T,kV,doc,pm,an,cdv,ct,osl,rfl,l,c⟩,k⟩,⟨mk,a,i,kc⟩,λ s us hK hl=>by
  rw[List.append_nil] at hl ⊢;obtain⟨kk,h1,h2⟩:=b us hl;exact BindsTo.of_defaults rfl (hK T _ lt) rfl h1 h2,λ s us hK hl=>by
  obtain⟨kk,h1,h2⟩:=b2 us (by simpa using hl);exact BindsTo.of_defaults rfl (hK T _ lt) rfl h1 h2⟩
section
variable {X:Cx}{pos p:Pos}{k:Nat}{f C:Addr}{fd:FuncData}{ps:List Str}{sp:SpD}{x:Str}
def xD(C:Addr)(sp:SpD)(τ:DS)(M:MH)(Q:QD):Prop:=∀ a,M a=none->sp [.m a,.d .none] (aE M a (.ins C [])) (λ v M2=>v=.d .none/\Q (.m a) M2)
theorem xr(Mk':Mk X.K C f)(F:cX X.prog X.w X.K X.mg X.base CX0 k f fd ps (dG X.K sp))(hr:c4 (k+1) X.A)(hg:Gl X x)(hm:X.mg x=some (.ref C))(hb:Binds X.K fd ps [.none])(hdb:(x==("__debug__" : Str))=false:=by decide) :
  PD X (.Call (.Name x p) [] [] pos) (xD C sp):=
 eQ (abc (E:=E0) (dvs:=[.non]) Mk' F hr hg hm hb (.cons rfl .nil) wN hdb) λ σ H Q h=>by
  obtain⟨τ,M,Qd,A,h,k⟩:=h;intro a dx ha hd hn;obtain⟨kp2,m2⟩:=uh (X:=X) (C:=C) A.mem ha hd hn;exact⟨[.m a,.d .none],_,_,.cons rfl (.cons (by simp[aD,aA]) .nil),m2,h a (A.mem.free ha),λ v H' w M' kp3 r3 m3 hq132=>by obtain⟨e3,q3⟩:=hq132;subst e3;simp only[aD,aA] at r3;exact⟨r3,k _ H' (.m a) M' (kp2.trans kp3) rfl m3 q3⟩⟩
theorem Q.aav(Mk':Mk X.K C f)(F:cX X.prog X.w X.K X.mg X.base CX0 k f fd ps (dG X.K sp))(hr:c4 (k+1) X.A)(hg:Gl X x)(hm:X.mg x=some (.ref C))(hb:Binds X.K fd ps [.none])(hdb:(x==("__debug__" : Str))=false:=by decide) :
  Jd (PD X (.Call (.Name x p) [] [] pos) (xD C sp)):=⟨D.xr Mk' F hr hg hm hb hdb⟩
end
abbrev PFn(K:PySem.W.Frag)(x:Str)(st:Stmt):Prop:=∃ (f:Addr) (oc kV dc pm cd ct:Value) (od an:Option Addr) (sl:Array (Option Value)),PySem.W.nsIn K mainGlobals x=some (some (.ref f))/\K.lookup f=some ⟨oc,od,.func (PySem.W.fnOf x x (bx st) (bj st) (aq st) .none kV dc pm an cd ct),sl⟩/\PySem.W.codeIn K cd x=true/\PySem.W.keepIn K (.ref f)=true
abbrev PMf(K:PySem.W.Frag)(C:Addr)(m x:Str)(st:Stmt):Prop:=∃ (f:Addr) (oc kV dc pm cd ct:Value) (od an:Option Addr) (sl:Array (Option Value)),PySem.W.findIn K (.ref C) m=some (some (.ref f))/\PySem.W.isFn K (.ref f)=true/\K.lookup f=some ⟨oc,od,.func (PySem.W.fnOf m x (bx st) (bj st) (aq st) .none kV dc pm an cd ct),sl⟩/\PySem.W.codeIn K cd x=true/\PySem.W.keepIn K (.ref f)=true
theorem age{K:PySem.W.Frag}{x:Str}{st:Stmt}{f:Addr}{oc kV dc pm cd ct:Value}{od an:Option Addr}{sl:Array (Option Value)}(a:PySem.W.nsIn K mainGlobals x=some (some (.ref f)))(l:K.lookup f=some ⟨oc,od,.func (PySem.W.fnOf x x (bx st) (bj st) (aq st) .none kV dc pm an cd ct),sl⟩)(c:PySem.W.codeIn K cd x=true)(k:PySem.W.keepIn K (.ref f)=true):PFn K x st:=⟨_,_,_,_,_,_,_,_,_,_,a,l,c,k⟩
theorem ae5{K:PySem.W.Frag}{C:Addr}{m x:Str}{st:Stmt}{f:Addr}{oc kV dc pm cd ct:Value}{od an:Option Addr}{sl:Array (Option Value)}(a:PySem.W.findIn K (.ref C) m=some (some (.ref f)))(i:PySem.W.isFn K (.ref f)=true)(l:K.lookup f=some ⟨oc,od,.func (PySem.W.fnOf m x (bx st) (bj st) (aq st) .none kV dc pm an cd ct),sl⟩)(c:PySem.W.codeIn K cd x=true)(k:PySem.W.keepIn K (.ref f)=true):PMf K C m x st:=⟨_,_,_,_,_,_,_,_,_,_,a,i,l,c,k⟩
theorem PFn.fn{K:PySem.W.Frag}{h:Heap}{mg:Str->Option Value}{x:Str}{st:Stmt}{ps:List Str}(p:PFn K x st)(X:K.In h)(G:h.Ns mainGlobals mg)
  (b:∀ (kV doc pm:Value) (an:Option Addr) (cdv ct:Value) (us:List Value),us.length=ps.length->bindArgs (PySem.W.fnOf x x (bx st) (bj st) (aq st) .none kV doc pm an cdv ct) ⟨us,[]⟩=pure (ps.zip us)):∃ f fd,Fn K mg x st ps f fd:=
 let ⟨f,_,_,_,_,_,_,_,_,_,a,l,c,k⟩:=p; ⟨f,_,ac8 X G a l c k b⟩
theorem PMf.mf{K:PySem.W.Frag}{C:Addr}{m x:Str}{st:Stmt}{ps:List Str}(p:PMf K C m x st)
  (b:∀ (kV doc pm:Value) (an:Option Addr) (cdv ct:Value) (us:List Value),us.length=ps.length->bindArgs (PySem.W.fnOf m x (bx st) (bj st) (aq st) .none kV doc pm an cdv ct) ⟨us,[]⟩=pure (ps.zip us)):∃ f fd,Mf K C m x st ps f fd:=
 let ⟨f,_,_,_,_,_,_,_,_,_,a,i,l,c,k⟩:=p; ⟨f,_,ahK a i l c k b⟩
abbrev ZZ(P:Program)(w:World)(K:PySem.W.Frag)(mg:Str->Option Value)(base:Heap)(F:Addr->FuncData->Prop)(n:Nat)(ps:List Str)(sp:SpD):Prop:=∃ f fd,F f fd/\cX P w K mg base CX0 n f fd ps (dG K sp)
end D
namespace K88
open L2 D Rc Stc
abbrev ak:Addr:=188
abbrev cZ:Addr:=100
abbrev aw:Addr:=98
abbrev oq:List Str:=["_law_bag_here", "_law_letters", "_law_word", "_law_at", "_law_step", "_law_place", "_law_found", "_law_k", "_law_sign", "_law_name", "_law_some"]
def nL(au:SpD):TSd:=
  aQ (bD (dC (.d (.str "abcdefghijklmnopqrstuvwxyz"))) (gN 1)) <|
  aQ (bD (dMS u4 (dC (.d (.str ""))) (ah (dLC (oy (ah (bb au (ah (ai 0) (ah (dC (.d (.int 8))) (aM)))) (aM))) (gN 0) (n8) (dOp cz (ai 1) (bb au (ah (ai 2) (ah (dC (.d (.int 26))) (aM))))) 1 [1,0]) aM)) (gN 2)) <|
  aQ (bD (bb au (ah (ai 0) (ah (dC (.d (.int 26))) (aM)))) (gN 3)) <|
  aQ (bD (dOp cz (wF (ah (dC (.d (.int 1))) (ah (dC (.d (.int 3))) (ah (dC (.d (.int 5))) (ah (dC (.d (.int 7))) (ah (dC (.d (.int 9))) (ah (dC (.d (.int 25))) (aM)))))))) (bb au (ah (ai 0) (ah (dC (.d (.int 6))) (aM))))) (gN 4)) <|
  aQ (bD (bb au (ah (ai 0) (ah (dOp cH (dCB ow (ah (ai 2) (aM))) (dC (.d (.int 1)))) (aM)))) (gN 5)) <|
  aQ (bD (j9 (aM)) (gN 6)) <|
  aQ (yC (oy (ah (dOp cH (dC (.d (.int 1))) (bb au (ah (ai 0) (ah (dC (.d (.int 4))) (aM))))) (aM))) (gN 7)
   (aQ (bD (dOp cz (ai 1) (dOp eN (dOp cH (ai 3) (dOp fH (ai 4) (ai 7))) (dC (.d (.int 26))))) (gN 8)) <|
   aQ (bD (dOp cH (dOp cH (dSl (ai 2) (fR) (oN (ai 5))) (ai 8)) (dSl (ai 2) (oN (ai 5)) (fR))) (gN 9)) <|
   aQ (bD (wF (ah (dOp cH (dC (.d (.int 1))) (bb au (ah (ai 0) (ah (dC (.d (.int 9))) (aM))))) (ah (dC (.d (.int 1))) (ah (dC (.d (.int 9))) (ah (dOp cH (dC (.d (.int 1))) (bb au (ah (ai 0) (ah (dC (.d (.int 3))) (aM))))) (aM)))))) (gN 10)) <|
   gu (iC (ai 6) (wH (ah (ai 9) (ah (dOp cz (ai 10) (bb au (ah (ai 0) (ah (dC (.d (.int 4))) (aM))))) (aM))))))) <|
  eh (ig (ai 6))
abbrev iu:List Str:=["row"]
def il(bL bU:SpD):TSd:=
  eh (si (dCB kP (ah (ai 0) (ah (dC (.t "tuple")) (aM)))) (si (dOp ia (dCB ow (ah (ai 0) (aM))) (dC (.d (.int 2)))) (si (bb bL (ah (dOp cz (ai 0) (dC (.d (.int 0)))) (aM))) (bb bU (ah (dOp cz (ai 0) (dC (.d (.int 1)))) (ah (dC (.d (.int 1))) (ah (dC (.d (.int 9))) (aM))))))))
abbrev gq:List Str:=["shares", "at", "row"]
def gK(bt:SpD):TSd:=
  aQ (dIf (dOr (wD (aU (dCB kP (ah (ai 0) (ah (dC (.t "list")) (aM)))))) (wD (agT (ai 0))))
   (kU)
   (cG)) <|
  yC (acz (ah (ai 0) (aM))) (gT 2 (bq (gN 1) (bq (gN 2) (gi))))
   (dIf (dOr (aU (dOp ag2 (ai 1) (dC (.d (.int 4))))) (dOr (wD (aU (bb bt (ah (ai 2) (aM))))) (aU (dOp (ad0 false) (dOp cz (ai 2) (dC (.d (.int 0)))) (dLC (bX (dSl (ai 0) (fR) (oN (ai 1)))) (gN 0) (n8) (dOp cz (ai 0) (dC (.d (.int 0)))) 1 [])))))
    (kU)
    (cG))
abbrev uW:List Str:=["unit", "whole", "share"]
def uV:TSd:=
  eh (dUn acA (dOp pW (dOp fH (dUn acA (dOp cH (ai 0) (dC (.d (.int 1))))) (ai 1)) (ai 2)))
abbrev nC:List Str:=["shares", "whole", "owned", "row", "slot", "released", "owner", "share"]
abbrev fF:Str:=(("round_of" : Str) ++ ".<locals>." ++ "<lambda>")
def nD(dH:SpD):TSd:=
  aQ (bD (dCB aeb (ah (dLC (bX (ai 0)) (gT 2 (bq (gN 0) (bq (gN 1) (gi)))) (n8) (ai 1) 2 []) (aM))) (gN 1)) <|
  aQ (bD (dDC (bX (ai 0)) (gT 2 (bq (gN 0) (bq (gN 1) (gi)))) (n8) (ai 0) (dC (.d (.int 0))) 2 []) (gN 2)) <|
  aQ (bD (j9 (aM)) (gN 3)) <|
  aQ (yC (oy (ah (ai 1) (aM))) (gN 4)
   (aQ (bD (dLC (bX (ai 0)) (gT 2 (bq (gN 0) (bq (gN 1) (gi)))) (aU (dOp aah (dOp pW (dOp fH (bV (ai 2) (ai 0)) (ai 3)) (ai 1)) (ai 4))) (wH (ah (ai 0) (ah (ai 1) (aM)))) 2 [2,1,4]) (gN 5)) <|
   aQ (bD (ade aw fF ⟨39,41,39,92⟩ (ai 5) (bb dH (ah (bV (ai 2) (dOp cz (ai 0) (dC (.d (.int 0))))) (ah (ai 1) (ah (dOp cz (ai 0) (dC (.d (.int 1)))) (aM))))) [1,2]) (gT 2 (bq (gN 6) (bq (gN 7) (gi))))) <|
   aQ (vE (ai 2) (ai 6) (dC (.d (.int 1))) (λ i j=>i+j)) <|
   gu (iC (ai 3) (ai 6)))) <|
  eh (ai 3)
abbrev jZ:List Str:=["self"]
def jR:TSd:=
  fc ak (ai 0) (dC (.d (.int 0))) "next_slot"
abbrev fu:List Str:=["self", "shares"]
def fj(bo cq aZ:SpD):TSd:=
  aQ (gu (bb bo (ah (ai 1) (aM)))) <|
  aQ (fc ak (ai 0) (dDC (bX (ai 1)) (gT 2 (bq (gN 0) (bq (gN 1) (gi)))) (n8) (ai 0) (aao (rQ ak (ai 2) "asks_waiting") (ai 0) (dC (.d (.int 0)))) 2 [0]) "asks_waiting") <|
  aQ (fc ak (ai 0) (bb cq (ah (ai 1) (aM))) "owner_round") <|
  gu (dO ak "begin" aZ (ai 0) aM)
abbrev lS:List Str:=["self", "shares"]
def l4(ax:SpD):TSd:=
  aQ (fc ak (ai 0) (jo) "asks_waiting") <|
  aQ (fc ak (ai 0) (j9 (aM)) "owner_round") <|
  aQ (fc ak (ai 0) (dC (.d (.int 0))) "next_slot") <|
  aQ (fc ak (ai 0) (dC (.d .none)) "number_led") <|
  dIf (aU (dOp (l7 true) (ai 1) (dC (.d .none))))
   (gu (dO ak "new_shares" ax (ai 0) (ah (ai 1) (aM))))
   (cG)
abbrev eO:List Str:=["self", "hands", "free", "behind"]
def eW:TSd:=
  aQ (sM (bD (dLC (tU (ai 1)) (gT 2 (bq (gN 0) (bq (gN 1) (gi)))) (aU (dOp tj (ai 1) (dC (.d (.int 0))))) (ai 0) 2 []) (gN 2))) <|
  aQ (bD (dLC (bX (ai 2)) (gN 0) (dOr (aU (dOp (l7 false) (rQ ak (ai 1) "number_led") (dC (.d .none)))) (aU (dOp tj (ai 0) (rQ ak (ai 1) "number_led")))) (ai 0) 1 [0]) (gN 3)) <|
  eh (adm (ag0 (ai 3) (ai 2)))
abbrev er:List Str:=["self"]
def eF:TSd:=
  eh (adw (rQ ak (ai 0) "asks_waiting"))
abbrev jP:List Str:=["self"]
def jQ:TSd:=
  aQ (dIf (wD (agT (rQ ak (ai 0) "owner_round")))
   (eh (dC (.d .none)))
   (cG)) <|
  eh (dOp cz (rQ ak (ai 0) "owner_round") (dOp eN (rQ ak (ai 0) "next_slot") (dCB ow (ah (rQ ak (ai 0) "owner_round") (aM)))))
abbrev nF:List Str:=["self", "groups", "first", "waiting"]
def nP(aC aY:SpD):TSd:=
  aQ (dIf (wD (aU (dO ak "is_waited_at" aC (ai 0) aM)))
   (eh (dC (.d .none)))
   (cG)) <|
  aQ (bD (ig (dCB xN (ah (rQ ak (ai 0) "asks_waiting") (aM)))) (gN 1)) <|
  aQ (bD (sW (ai 1) (dO ak "owner" aY (ai 0) aM)) (gN 2)) <|
  aQ (bD (dLC (bX (ahr (dSl (ai 1) (oN (ai 2)) (fR)) (dSl (ai 1) (fR) (oN (ai 2))))) (gN 0) (aU (dOp tj (bV (rQ ak (ai 1) "asks_waiting") (ai 0)) (dC (.d (.int 0))))) (ai 0) 1 [0]) (gN 3)) <|
  aQ (vE (rQ ak (ai 0) "asks_waiting") (dOp cz (ai 3) (dC (.d (.int 0)))) (dC (.d (.int 1))) (λ i j=>i-j)) <|
  aQ (ud ak (ai 0) (dC (.d (.int 1))) "next_slot" (λ i j=>i+j)) <|
  eh (dOp cz (ai 3) (dC (.d (.int 0))))
abbrev iE:List Str:=["self", "copies", "used", "hands", "led", "number"]
def l6(aK aC bA:SpD):TSd:=
  aQ (bD (ag0 (dLC (bX (ai 1)) (gN 0) (aU (dOp cz (ai 0) (dC (.d (.int 2))))) (ai 0) 1 []) (ai 1)) (gN 2)) <|
  aQ (bD (dDC (bX (ai 2)) (gT 3 (bq (gN 0) (bq (gN 1) (bq (gN 2) (gi))))) (n8) (ai 0) (ai 1) 3 []) (gN 3)) <|
  aQ (bD (j9 (aM)) (gN 4)) <|
  aQ (bD (dO ak "number_next" aK (ai 0) (ah (ai 3) (aM))) (gN 5)) <|
  aQ (uX (ad4 (aU (dOp (l7 true) (ai 5) (dC (.d .none)))) (aU (dO ak "is_waited_at" aC (ai 0) aM)))
   (aQ (gu (iC (ai 4) (wH (ah (dO ak "use" bA (ai 0) aM) (ah (ai 5) (aM)))))) <|
   aQ (vE (ai 3) (ai 5) (dC (.d (.int 1))) (λ i j=>i-j)) <|
   aQ (fc ak (ai 0) (ai 5) "number_led") <|
   bD (dO ak "number_next" aK (ai 0) (ah (ai 3) (aM))) (gN 5))) <|
  eh (ai 4)
abbrev qo:List Str:=["_law_shares_here", "_law_model_here", "_law_group", "_law_share"]
def qx:TSd:=
  aQ (bD (uy [(dC (.d (.str "shares")),ig (dCB dy (ah (ai 0) (aM)))),(dC (.d (.str "waits")),jo),(dC (.d (.str "had")),wA (bX (ai 0)) (gN 0) (n8) (dC (.d (.int 0))) 1 []),(dC (.d (.str "slot")),dC (.d (.int 0))),(dC (.d (.str "last")),dC (.d (.int 0)))]) (gN 1)) <|
  aQ (yC (bX (ai 0)) (gT 2 (bq (gN 2) (bq (gN 3) (gi))))
   (mS (bV (ai 1) (dC (.d (.str "waits")))) (ai 2) (dC (.d (.int 0))))) <|
  eh (ai 1)
abbrev j4:List Str:=["self", "group"]
def jU(bL:SpD):TSd:=
  aQ (dIf (dOr (wD (aU (bb bL (ah (ai 1) (aM))))) (aU (pP (ai 1) (rQ ak (ai 0) "asks_waiting"))))
   (kU)
   (cG)) <|
  eh (bV (rQ ak (ai 0) "asks_waiting") (ai 1))
abbrev nB:List Str:=["self", "group", "many", "let_in"]
def mY(a6:SpD):TSd:=
  aQ (bD (dCB abo (ah (dCB yv (ah (ai 2) (ah (dOp pV (dC (.d (.int 40))) (dO ak "waits" a6 (ai 0) (ah (ai 1) (aM)))) (aM)))) (ah (dC (.d (.int 0))) (aM)))) (gN 3)) <|
  aQ (vE (rQ ak (ai 0) "asks_waiting") (ai 1) (ai 3) (λ i j=>i+j)) <|
  eh (ai 3)
abbrev nG:List Str:=["_law_model_here", "_law_group", "_law_many", "_law_fresh"]
def nY:TSd:=
  aQ (bD (dCB yv (ah (ai 2) (ah (dOp pV (dC (.d (.int 40))) (bV (bV (ai 0) (dC (.d (.str "waits")))) (ai 1))) (aM)))) (gN 3)) <|
  aQ (mS (bV (ai 0) (dC (.d (.str "waits")))) (ai 1) (dOp cH (bV (bV (ai 0) (dC (.d (.str "waits")))) (ai 1)) (ai 3))) <|
  eh (ai 3)
abbrev sg:List Str:=["_law_model_here", "_law_total", "_law_best", "_law_at", "_law_share", "_law_unit", "_law_last"]
def qV:TSd:=
  aQ (bD (dCB aeb (ah (dLC (bX (bV (ai 0) (dC (.d (.str "shares"))))) (gT 2 (bq (gN 0) (bq (gN 1) (gi)))) (n8) (ai 1) 2 []) (aM))) (gN 1)) <|
  aQ (bD (dC (.d .none)) (gN 2)) <|
  aQ (yC (oy (ah (dCB ow (ah (bV (ai 0) (dC (.d (.str "shares")))) (aM))) (aM))) (gN 3)
   (aQ (bD (dOp cz (dOp cz (bV (ai 0) (dC (.d (.str "shares")))) (ai 3)) (dC (.d (.int 1)))) (gN 4)) <|
   aQ (bD (dOp cz (bV (ai 0) (dC (.d (.str "had")))) (ai 3)) (gN 5)) <|
   aQ (bD (dOp cH (dOp pW (dOp pV (dOp fH (dOp cH (ai 5) (dC (.d (.int 1)))) (ai 1)) (dC (.d (.int 1)))) (ai 4)) (dC (.d (.int 1)))) (gN 6)) <|
   dIf (ad4 (aU (dOp aah (dOp pW (dOp fH (ai 5) (ai 1)) (ai 4)) (bV (ai 0) (dC (.d (.str "slot")))))) (dOr (aU (dOp (l7 false) (ai 2) (dC (.d .none)))) (aU (dOp af4 (ai 6) (dOp cz (ai 2) (dC (.d (.int 0))))))))
    (bD (wH (ah (ai 6) (ah (ai 3) (aM)))) (gN 2))
    (cG))) <|
  eh (agW (aU (dOp (l7 false) (ai 2) (dC (.d .none)))) (dC (.d .none)) (dOp cz (ai 2) (dC (.d (.int 1)))))
abbrev wW:List Str:=["_law_model_here", "_law_at", "_law_many", "_law_k", "_law_group"]
def yE(bJ:SpD):TSd:=
  aQ (dIf (aU (dOp ia (adQ (bV (ai 0) (dC (.d (.str "waits"))))) (dC (.d (.int 0)))))
   (eh (dC (.d .none)))
   (cG)) <|
  aQ (bD (bb bJ (ah (ai 0) (aM))) (gN 1)) <|
  aQ (bD (dOp cH (dOp cz (bV (ai 0) (dC (.d (.str "had")))) (ai 1)) (dC (.d (.int 1)))) (wB (bV (ai 0) (dC (.d (.str "had")))) (ai 1))) <|
  aQ (mS (ai 0) (dC (.d (.str "slot"))) (dOp cH (bV (ai 0) (dC (.d (.str "slot")))) (dC (.d (.int 1))))) <|
  aQ (bD (dCB ow (ah (bV (ai 0) (dC (.d (.str "shares")))) (aM))) (gN 2)) <|
  aQ (yC (oy (ah (ai 2) (aM))) (gN 3)
   (aQ (bD (dOp cz (dOp cz (bV (ai 0) (dC (.d (.str "shares")))) (dOp eN (dOp cH (ai 1) (ai 3)) (ai 2))) (dC (.d (.int 0)))) (gN 4)) <|
   dIf (aU (dOp tj (bV (bV (ai 0) (dC (.d (.str "waits")))) (ai 4)) (dC (.d (.int 0)))))
    (aQ (mS (bV (ai 0) (dC (.d (.str "waits")))) (ai 4) (dOp pV (bV (bV (ai 0) (dC (.d (.str "waits")))) (ai 4)) (dC (.d (.int 1))))) <|
    eh (ai 4))
    (cG))) <|
  eh (dC (.d .none))
abbrev rC:List Str:=["_law_model_here"]
def qT:TSd:=
  aQ (mS (ai 0) (dC (.d (.str "had"))) (wA (bX (bV (ai 0) (dC (.d (.str "shares"))))) (gN 0) (n8) (dC (.d (.int 0))) 1 [])) <|
  mS (ai 0) (dC (.d (.str "slot"))) (dC (.d (.int 0)))
abbrev qO:List Str:=["_law_bag_here", "_law_model_here", "_law_old", "_law_names", "_law_fresh", "_law_found"]
def qG(au br:SpD):TSd:=
  aQ (bD (wA (bX (bV (ai 1) (dC (.d (.str "shares"))))) (gT 2 (bq (gN 0) (bq (gN 1) (gi)))) (aU (dOp tj (bb au (ah (ai 2) (ah (dC (.d (.int 3))) (aM)))) (dC (.d (.int 0))))) (wH (ah (ai 0) (ah (dOp cH (dC (.d (.int 1))) (bb au (ah (ai 2) (ah (dC (.d (.int 9))) (aM))))) (aM)))) 2 [0]) (gN 2)) <|
  aQ (bD (k9 (dLC (jy (ai 2)) (gT 2 (bq (gN 0) (bq (gN 1) (gi)))) (n8) (ai 0) 2 [])) (gN 3)) <|
  aQ (bD (wA (bX (bb br (ah (ai 0) (aM)))) (gN 0) (aU (dOp (ad0 true) (dOp cz (ai 0) (dC (.d (.int 0)))) (ai 1))) (ai 0) 1 [3]) (gN 4)) <|
  aQ (bD (ah7 (dOp yR (ai 2) (ai 4)) (fR) (oN (dC (.d (.int 4))))) (gN 5)) <|
  aQ (dIf (aU (dOp ia (bb au (ah (ai 0) (ah (dC (.d (.int 2))) (aM)))) (dC (.d (.int 0)))))
   (gu (p8 (ai 5)))
   (cG)) <|
  eh (ig (ai 5))
abbrev jF:List Str:=["_law_model_here", "_law_shares_here", "_law_waits", "_law_group", "_law_share"]
def jI(bK:SpD):TSd:=
  aQ (bD (jo) (gN 2)) <|
  aQ (yC (bX (ai 1)) (gT 2 (bq (gN 3) (bq (gN 4) (gi))))
   (mS (ai 2) (ai 3) (aao (bV (ai 0) (dC (.d (.str "waits")))) (ai 3) (dC (.d (.int 0)))))) <|
  aQ (gu (yS (ai 0) (uy [(dC (.d (.str "shares")),ig (dCB dy (ah (ai 1) (aM)))),(dC (.d (.str "waits")),ai 2)]))) <|
  gu (bb bK (ah (ai 0) (aM)))
abbrev nv:List Str:=["_law_bag_here", "_law_most", "_law_found", "_law_number", "_law_k"]
def nu(au:SpD):TSd:=
  aQ (bD (j9 (aM)) (gN 2)) <|
  aQ (bD (dOp cz (wF (ah (dC (.d (.int 0))) (ah (dC (.d (.int 0))) (ah (dOp agM (dC (.d (.int 10))) (dC (.d (.int 9)))) (aM))))) (bb au (ah (ai 0) (ah (dC (.d (.int 3))) (aM))))) (gN 3)) <|
  aQ (yC (oy (ah (bb au (ah (ai 0) (ah (dOp cH (ai 1) (dC (.d (.int 1)))) (aM)))) (aM))) (gN 4)
   (aQ (bD (dOp cH (dOp cH (ai 3) (dC (.d (.int 1)))) (bb au (ah (ai 0) (ah (dC (.d (.int 3))) (aM))))) (gN 3)) <|
   gu (iC (ai 2) (wH (ah (ai 3) (ah (dOp cH (dC (.d (.int 1))) (bb au (ah (ai 0) (ah (dC (.d (.int 3))) (aM))))) (ah (dOp tj (bb au (ah (ai 0) (ah (dC (.d (.int 3))) (aM)))) (dC (.d (.int 0)))) (aM)))))))) <|
  aQ (dIf (aU (dOp ia (bb au (ah (ai 0) (ah (dC (.d (.int 4))) (aM)))) (dC (.d (.int 0)))))
   (bD (wA (bX (ig (ai 2))) (gT 3 (bq (gN 0) (bq (gN 1) (bq (gN 2) (gi))))) (n8) (wH (ah (ai 0) (ah (ai 1) (ah (dC (.d (.bool false))) (aM))))) 3 []) (gN 2))
   (cG)) <|
  eh (ig (ai 2))
abbrev wU:List Str:=["_law_model_here", "_law_copies_here", "_law_used", "_law_left", "_law_found", "_law_group", "_law_ready", "_law_row"]
def xk(cM:SpD):TSd:=
  aQ (bD (dLC (bX (ai 1)) (gN 0) (aU (dOp cz (ai 0) (dC (.d (.int 2))))) (ai 0) 1 []) (gN 2)) <|
  aQ (dIf (aU (dOp ia (ai 2) (wF (aM))))
   (bD (ai 1) (gN 2))
   (cG)) <|
  aQ (bD (zO (bX (ai 2)) (gT 3 (bq (gN 0) (bq (gN 1) (bq (gN 2) (gi))))) (n8) (j9 (ah (ai 0) (ah (ai 1) (aM)))) 3 []) (gN 3)) <|
  aQ (bD (j9 (aM)) (gN 4)) <|
  aQ (uX (aU (dOp afB (k9 (zO (jy (ai 3)) (gN 0) (aU (dOp tj (dOp cz (ai 0) (dC (.d (.int 1)))) (dC (.d (.int 0))))) (ai 0) 1 [])) (wF (aM))))
   (aQ (bD (bb cM (ah (ai 0) (aM))) (gN 5)) <|
   aQ (dIf (aU (dOp (l7 false) (ai 5) (dC (.d .none))))
    (eh (ai 4))
    (cG)) <|
   aQ (o5 (bD (zO (jy (ai 3)) (gN 0) (aU (dOp tj (dOp cz (ai 0) (dC (.d (.int 1)))) (dC (.d (.int 0))))) (ai 0) 1 []) (gN 6))) <|
   aQ (bD (dOp cz (dOp yR (k9 (zO (jy (ai 6)) (gN 0) (aU (dOp tj (dOp cz (ai 0) (dC (.d (.int 0)))) (bV (ai 1) (dC (.d (.str "last")))))) (ai 0) 1 [0])) (ai 6)) (dC (.d (.int 0)))) (gN 7)) <|
   aQ (bD (dOp pV (dOp cz (ai 7) (dC (.d (.int 1)))) (dC (.d (.int 1)))) (wB (ai 7) (dC (.d (.int 1))))) <|
   aQ (mS (ai 0) (dC (.d (.str "last"))) (dOp cz (ai 7) (dC (.d (.int 0))))) <|
   gu (iC (ai 4) (wH (ah (ai 5) (ah (dOp cz (ai 7) (dC (.d (.int 0)))) (aM))))))) <|
  eh (ai 4)
abbrev um:List Str:=["_law_bag_here", "_law_door", "_law_model_here", "_law_way", "_law_group", "_law_many", "_law_shares_here", "_law_copies_here"]
def uU(au cn ck bA cM bK aZ cU bP ax cy bp e9:SpD):TSd:=
  aQ (bD (bb au (ah (ai 0) (ah (dC (.d (.int 10))) (aM)))) (gN 3)) <|
  aQ (bD (dOp cz (dOp cz (bV (ai 2) (dC (.d (.str "shares")))) (bb au (ah (ai 0) (ah (dCB ow (ah (bV (ai 2) (dC (.d (.str "shares")))) (aM))) (aM))))) (dC (.d (.int 0)))) (gN 4)) <|
  aQ (dIf (aU (dOp af4 (ai 3) (dC (.d (.int 4)))))
   (aQ (bD (dOp cz (wF (ah (dOp cH (dC (.d (.int 1))) (bb au (ah (ai 0) (ah (dC (.d (.int 4))) (aM))))) (ah (dOp cH (dC (.d (.int 1))) (bb au (ah (ai 0) (ah (dC (.d (.int 40))) (aM))))) (aM)))) (bb au (ah (ai 0) (ah (dC (.d (.int 2))) (aM))))) (gN 5)) <|
   eh (dOp ia (dO ak "ask" cn (ai 1) (ah (ai 4) (ah (ai 5) (aM)))) (bb ck (ah (ai 2) (ah (ai 4) (ah (ai 5) (aM)))))))
   (cG)) <|
  aQ (dIf (aU (dOp af4 (ai 3) (dC (.d (.int 6)))))
   (eh (dOp ia (dO ak "use" bA (ai 1) aM) (bb cM (ah (ai 2) (aM)))))
   (cG)) <|
  aQ (dIf (ad4 (aU (dOp ia (ai 3) (dC (.d (.int 6))))) (aU (dOp ia (bb au (ah (ai 0) (ah (dC (.d (.int 2))) (aM)))) (dC (.d (.int 0))))))
   (aQ (gu (bb bK (ah (ai 2) (aM)))) <|
   eh (dOp (l7 false) (dO ak "begin" aZ (ai 1) aM) (dC (.d .none))))
   (cG)) <|
  aQ (dIf (ad4 (aU (dOp ia (ai 3) (dC (.d (.int 7))))) (aU (dOp ia (bb au (ah (ai 0) (ah (dC (.d (.int 2))) (aM)))) (dC (.d (.int 0))))))
   (aQ (bD (bb cU (ah (ai 0) (ah (ai 2) (aM)))) (gN 6)) <|
   aQ (gu (bb bP (ah (ai 2) (ah (ai 6) (aM))))) <|
   eh (dOp (l7 false) (dO ak "new_shares" ax (ai 1) (ah (ig (dCB dy (ah (ai 6) (aM)))) (aM))) (dC (.d .none))))
   (cG)) <|
  aQ (bD (bb cy (ah (ai 0) (ah (dC (.d (.int 5))) (aM)))) (gN 7)) <|
  eh (dOp ia (dO ak "lead" bp (ai 1) (ah (ig (dCB dy (ah (ai 7) (aM)))) (aM))) (bb e9 (ah (ai 2) (ah (ai 7) (aM)))))
abbrev kX:List Str:=["self"]
def kE:TSd:=
  eh (rQ ak (ai 0) "next_slot")
abbrev nU:List Str:=["_law_door", "_law_model_here", "_law_whose_here", "_law_due"]
def nc(bJ bQ aY a6:SpD):TSd:=
  aQ (bD (bb bJ (ah (ai 1) (aM))) (gN 2)) <|
  aQ (bD (wF (ah (bV (ai 1) (dC (.d (.str "slot")))) (ah (agW (aU (dOp (l7 false) (ai 2) (dC (.d .none)))) (dC (.d .none)) (dOp cz (dOp cz (bV (ai 1) (dC (.d (.str "shares")))) (ai 2)) (dC (.d (.int 0))))) (aM)))) (gN 3)) <|
  aQ (dIf (dOr (aU (dOp aeW (wF (ah (dO ak "slot" bQ (ai 0) aM) (ah (dO ak "owner" aY (ai 0) aM) (aM)))) (ai 3))) (aU (dCB kP (ah (dO ak "slot" bQ (ai 0) aM) (ah (dC (.t "bool")) (aM))))))
   (eh (dC (.d (.bool false))))
   (cG)) <|
  eh (dCB adx (ah (zf (dLC (zE (bV (ai 1) (dC (.d (.str "waits"))))) (gN 0) (n8) (dOp ia (dO ak "waits" a6 (ai 1) (ah (ai 0) (aM))) (bV (bV (ai 2) (dC (.d (.str "waits")))) (ai 0))) 1 [0,1])) (aM)))
abbrev afv:List Str:=["_law_script", "_law_bag_here", "_law_first", "_law_second", "_law_doors", "_law_models", "_law_turn", "_law_at"]
def aew(eS br au bC bp ax cB dA bS:SpD):TSd:=
  aQ (bD (bb eS (ah (ai 0) (aM))) (gN 1)) <|
  aQ (bD (bb br (ah (ai 1) (aM))) (gN 2)) <|
  aQ (bD (dOp cz (wF (ah (bb br (ah (ai 1) (aM))) (ah (dLC (bX (ai 2)) (gT 2 (bq (gN 0) (bq (gN 1) (gi)))) (n8) (wH (ah (ai 0) (ah (dOp pV (dC (.d (.int 10))) (ai 1)) (aM)))) 2 []) (aM)))) (bb au (ah (ai 1) (ah (dC (.d (.int 2))) (aM))))) (gN 3)) <|
  aQ (bD (j9 (ah (aaT ak bC (ah (ig (dCB dy (ah (ai 2) (aM)))) (aM))) (ah (aaT ak bC (ah (ig (dCB dy (ah (ai 3) (aM)))) (aM))) (aM)))) (gN 4)) <|
  aQ (dIf (aU (dOp ia (bb au (ah (ai 1) (ah (dC (.d (.int 3))) (aM)))) (dC (.d (.int 0)))))
   (aQ (bD (xD ak bC) (wB (ai 4) (dC (.d (.int 1))))) <|
   aQ (gu (dO ak "lead" bp (dOp cz (ai 4) (dC (.d (.int 1)))) (ah (wF (ah (wH (ah (dC (.d (.int 1))) (ah (dC (.d (.int 3))) (ah (dC (.d (.bool true))) (aM))))) (aM))) (aM)))) <|
   gu (dO ak "new_shares" ax (dOp cz (ai 4) (dC (.d (.int 1)))) (ah (ig (dCB dy (ah (ai 3) (aM)))) (aM))))
   (cG)) <|
  aQ (bD (j9 (ah (bb cB (ah (ai 2) (aM))) (ah (bb cB (ah (ai 3) (aM))) (aM)))) (gN 5)) <|
  aQ (yC (oy (ah (dOp cH (dC (.d (.int 20))) (bb au (ah (ai 1) (ah (dC (.d (.int 41))) (aM))))) (aM))) (gN 6)
   (aQ (bD (bb au (ah (ai 1) (ah (dC (.d (.int 2))) (aM)))) (gN 7)) <|
   aQ (dIf (wD (aU (bb dA (ah (ai 1) (ah (dOp cz (ai 4) (ai 7)) (ah (dOp cz (ai 5) (ai 7)) (aM)))))))
    (eh (dC (.d (.bool false))))
    (cG)) <|
   dIf (ad4 (aU (dOp ia (bb au (ah (ai 1) (ah (dC (.d (.int 3))) (aM)))) (dC (.d (.int 0))))) (wD (aU (bb bS (ah (dOp cz (ai 4) (dOp pV (dC (.d (.int 1))) (ai 7))) (ah (dOp cz (ai 5) (dOp pV (dC (.d (.int 1))) (ai 7))) (aM)))))))
    (eh (dC (.d (.bool false))))
    (cG))) <|
  eh (si (bb bS (ah (dOp cz (ai 4) (dC (.d (.int 0)))) (ah (dOp cz (ai 5) (dC (.d (.int 0)))) (aM)))) (bb bS (ah (dOp cz (ai 4) (dC (.d (.int 1)))) (ah (dOp cz (ai 5) (dC (.d (.int 1)))) (aM)))))
abbrev Sh:=List (Str×Nat)
def bZ(r:Str×Nat):PyData:=.tuple [.str r.1,.int (r.2:Nat)]
def shD(S:Sh):PyData:=.list (S.map bZ)
structure OkS(S:Sh):Prop where
 ne:S≠[]
 len:S.length<=4
 row:∀ r∈S,wd r.1=true/\1<=r.2/\r.2<=9
 nd:(S.map (·.1)).Nodup
def wn(S:Sh):Nat:=(S.map (·.2)).sum
def sv(S:Sh)(i:Nat):Int:=(((S.map (·.2)).getD i 1:Nat):Int)
def cv(c:List Int)(i:Nat):Int:=c.getD i 0
def Rl(S:Sh)(c:List Int)(t:Int)(i:Nat):Prop:=cv c i * (wn S:Nat) / sv S i<=t
def due(W s c:Int):Int:=-(-(c+1) * W / s)
def Du(S:Sh)(c:List Int)(i:Nat):Int:=due (wn S:Nat) (sv S i) (cv c i)
def vF(S:Sh)(c:List Int)(t:Int)(i:Nat):Prop:=i<S.length/\Rl S c t i/\∀ j,j<S.length->Rl S c t j->Du S c i<=Du S c j/\(j<i->Du S c i<Du S c j)
theorem vF.uniq{S:Sh}{c:List Int}{t:Int}{i j:Nat}(h:vF S c t i)(k:vF S c t j):i=j:=by
 have h1:=h.2.2 j k.1 k.2.1;have h2:=k.2.2 i h.1 h.2.1;rcases Nat.lt_trichotomy i j with e | e | e
 ·have:=h2.2 e;omega
 ·exact e
 ·have:=h1.2 e;omega
theorem acI{S:Sh}{c:List Int}{t:Int}(h:∃ i,i<S.length/\Rl S c t i):∃ i,vF S c t i:=by
 have key:∀ m,m<=S.length->(∀ j,j<m->¬ Rl S c t j)\/∃ i,i<m/\Rl S c t i/\∀ j,j<m->Rl S c t j->Du S c i<=Du S c j/\(j<i->Du S c i<Du S c j):=by
  intro m
  induction m with
  | zero=>intro _;exact .inl λ j hj=>absurd hj (Nat.not_lt_zero _)
  | succ m ih =>
   intro hm;rcases ih (by omega) with h | ⟨i,hi,hr,hb⟩
   ·by_cases q:Rl S c t m
    ·refine .inr ⟨m,by omega,q,λ j hj hrj=>?_⟩
     by_cases e:j<m
     ·exact absurd hrj (h j e)
     ·have e:j=m:=by omega
      subst e;exact⟨Int.le_refl _,λ z=>absurd z (Nat.lt_irrefl _)⟩
    ·refine .inl λ j hj=>?_
     by_cases e:j<m
     ·exact h j e
     ·have e:j=m:=by omega
      subst e;exact q
   ·by_cases q:Rl S c t m/\Du S c m<Du S c i
    ·refine .inr ⟨m,by omega,q.1,λ j hj hrj=>?_⟩
     by_cases e:j<m
     ·have:=(hb j e hrj).1;exact⟨by omega,λ _=>by omega⟩
     ·have e:j=m:=by omega
      subst e;exact⟨Int.le_refl _,λ z=>absurd z (Nat.lt_irrefl _)⟩
    ·refine .inr ⟨i,by omega,hr,λ j hj hrj=>?_⟩
     by_cases e:j<m
     ·exact hb j e hrj
     ·have e:j=m:=by omega
      subst e;have:¬ Du S c j<Du S c i:=λ z=>q ⟨hrj,z⟩;exact⟨by omega,λ z=>by omega⟩
 obtain⟨i,hi,hr⟩:=h;rcases key S.length (Nat.le_refl _) with h | ⟨j,h⟩
 ·exact absurd hr (h i hi)
 ·exact⟨j,h⟩
open Classical in
noncomputable def pk(S:Sh)(c:List Int)(t:Int):Nat:=if h:∃ i,vF S c t i then h.choose else 0
theorem xQ{S:Sh}{c:List Int}{t:Int}(h:∃ i,vF S c t i):vF S c t (pk S c t):=by
 unfold pk;rw[dif_pos h];exact h.choose_spec
theorem adb{S:Sh}{c:List Int}{t:Int}{i:Nat}(h:vF S c t i):pk S c t=i:=(xQ ⟨i,h⟩).uniq h
noncomputable def nx(S:Sh)(c:List Int)(t:Int):List Int:=c.set (pk S c t) (cv c (pk S c t)+1)
noncomputable def st(S:Sh):Nat->List Int
 | 0=>List.replicate S.length 0
 | t+1=>nx S (st S t) t
theorem oj{c:List Int}{i j:Nat}{x:Int}(h:i<c.length):cv (c.set i x) j=if j=i then x else cv c j:=by
 unfold cv
 by_cases e:j=i
 ·subst e;rw[if_pos rfl,List.getD_eq_getElem?_getD,List.getElem?_set_self h];rfl
 ·rw[if_neg e,List.getD_eq_getElem?_getD,List.getElem?_set_ne (Ne.symm e),<- List.getD_eq_getElem?_getD]
theorem sum_set:∀ (c:List Int) (i:Nat) (x:Int),i<c.length->(c.set i x).sum=c.sum-cv c i+x
 | [],_,_,h=>absurd h (Nat.not_lt_zero _)
 | a::c,0,x,_=>by show x+c.sum=a+c.sum-a+x;omega
 | a::c,i+1,x,h=>by
  have ih:=sum_set c i x (by simpa using h);have e:cv (a::c) (i+1)=cv c i:=by simp[cv]
  rw[e];show a+(c.set i x).sum=a+c.sum-cv c i+x;rw[ih];omega
theorem wsum:∀ (cs:List Int) (ns:List Nat) (k W:Int),cs.length=ns.length->(∀ i,i<cs.length->k * ((ns.getD i 1:Nat):Int)<=cv cs i * W)->k * ((ns.sum:Nat):Int)<=cs.sum * W
 | [],[],k,W,_,_=>by simp
 | [],_::_,_,_,h,_=>by simp at h
 | _::_,[],_,_,h,_=>by simp at h
 | a::cs,n::ns,k,W,h,hb=>by
  have ih:=wsum cs ns k W (by simpa using h) λ i hi=>by
   have:=hb (i+1) (by simpa using hi)
   simpa [cv] using this
  have h0:k * (n:Int)<=a * W:=by simpa [cv] using hb 0 (by simp)
  have e1:(((n::ns).sum:Nat):Int)=(n:Int)+((ns.sum:Nat):Int):=by simp
  have e2:(a::cs).sum=a+cs.sum:=rfl;rw[e1,e2,Int.mul_add,Int.add_mul];omega
theorem qc{S:Sh}(hO:OkS S){i:Nat}(hi:i<S.length):1<=sv S i/\sv S i<=9:=by
 have hr:=hO.row S[i] (List.getElem_mem hi);have e:sv S i=(S[i].2:Nat):=by simp[sv,List.getD,List.getElem?_map,List.getElem?_eq_getElem hi]
 rw[e];omega
theorem rV{S:Sh}(hO:OkS S):1<=wn S/\wn S<=36:=by
 have up:∀ T:Sh,(∀ r∈T,1<=r.2/\r.2<=9)->T.length<=wn T/\wn T<=9 * T.length:=by
  intro T
  induction T with
  | nil=>intro _;simp[wn]
  | cons r T ih =>
   intro h;have h1:=h r (by simp);have h2:=ih λ x hx=>h x (by simp[hx]);have e:wn (r::T)=r.2+wn T:=by simp[wn]
   rw[e,List.length_cons];omega
 have h:=up S λ r hr=>(hO.row r hr).2;have h1:=List.length_pos_iff.mpr hO.ne;have h2:=hO.len;omega
theorem afa{S:Sh}{c:List Int}{t:Int}(hO:OkS S)(hl:c.length=S.length)(hs:c.sum=t):∃ i,i<S.length/\Rl S c t i:=by
 by_cases h:∃ i,i<S.length/\Rl S c t i
 ·exact h
 exfalso
 have hw:=wsum c (S.map (·.2)) (t+1) (wn S:Nat) (by rw[hl,List.length_map]) λ i hi=>by
  have hi':i<S.length:=by omega
  have hn:¬ Rl S c t i:=λ z=>h ⟨i,hi',z⟩;unfold Rl at hn;have hp:=qc hO hi';have:t+1<=cv c i * (wn S:Nat) / sv S i:=by omega
  exact(Int.le_ediv_iff_mul_le (show 0<sv S i by omega)).mp this
 have e:(((S.map (·.2)).sum:Nat):Int)=(wn S:Nat):=rfl;rw[e,hs,Int.add_mul] at hw;have:=(rV hO).1;omega
structure ah1(S:Sh)(c:List Int)(t:Nat):Prop where
 len:c.length=S.length
 sum:c.sum=(t:Int)
 bd:∀ i,0<=cv c i/\cv c i<=(t:Int)
theorem ah1.best{S:Sh}{c:List Int}{t:Nat}(hO:OkS S)(h:ah1 S c t):vF S c t (pk S c t):=xQ (acI (afa hO h.len h.sum))
theorem ji{S:Sh}(hO:OkS S):∀ t,ah1 S (st S t) t
 | 0=>by
  refine⟨by simp[st],?_,λ i=>?_⟩
  ·show(List.replicate S.length (0:Int)).sum=0
   induction S.length with
   | zero=>rfl
   | succ n ih=>rw[List.replicate_succ];show 0+(List.replicate n (0:Int)).sum=0;rw[ih];rfl
  ·have:cv (st S 0) i=0:=by
    simp only[cv,st,List.getD_eq_getElem?_getD,List.getElem?_replicate]
    split<;>rfl
   omega
 | t+1=>by
  have ih:=ji hO t;have hb:=ih.best hO;have hi:pk S (st S t) t<(st S t).length:=by rw[ih.len];exact hb.1
  refine⟨by simp[st,nx,ih.len],?_,λ i=>?_⟩
  ·show((st S t).set _ _).sum=_;rw[sum_set _ _ _ hi,ih.sum];omega
  ·show 0<=cv ((st S t).set _ _) i/\cv ((st S t).set _ _) i<=_;rw[oj hi];have h1:=ih.bd i;have h2:=ih.bd (pk S (st S t) t)
   split<;>omega
theorem jg{S:Sh}(hO:OkS S)(t:Nat):vF S (st S t) t (pk S (st S t) t):=(ji hO t).best hO
theorem agm{S:Sh}(hO:OkS S):∀ t,t<=wn S->∀ i,i<S.length->cv (st S t) i<=sv S i
 | 0,_,i,hi=>by have h1:=((ji hO 0).bd i).2;have h2:=qc hO hi;have e:((0:Nat):Int)=0:=rfl;omega
 | t+1,ht,i,hi=>by
  have ih:=agm hO t (by omega) i hi;have hb:=jg hO t;have hl:pk S (st S t) t<(st S t).length:=by rw[(ji hO t).len];exact hb.1
  show cv ((st S t).set _ _) i<=_;rw[oj hl]
  split
  ·rename_i e
   rw[<- e];have hr:Rl S (st S t) t i:=by rw[e];exact hb.2.1
   unfold Rl at hr
   by_cases q:cv (st S t) i=sv S i
   ·have h2:=qc hO hi;rw[q,Int.mul_ediv_cancel_left _ (by omega)] at hr;omega
   ·omega
  ·exact ih
def ss(S:Sh):List Int:=S.map λ r=>((r.2:Nat):Int)
theorem qZ:∀ (a b:List Int),a.length=b.length->(∀ i,i<a.length->cv a i<=cv b i)->a.sum=b.sum->a=b
 | [],[],_,_,_=>rfl
 | [],_::_,h,_,_=>by simp at h
 | _::_,[],h,_,_=>by simp at h
 | x::a,y::b,h,hb,hs=>by
  have le:∀ (a b:List Int),a.length=b.length->(∀ i,i<a.length->cv a i<=cv b i)->a.sum<=b.sum:=by
   intro a
   induction a with
   | nil=>intro b h _;cases b with
    | nil=>simp
    | cons _ _=>simp at h
   | cons x a ih =>
    intro b h hb;cases b with
    | nil=>simp at h
    | cons y b =>
     have h1:=ih b (by simpa using h) λ i hi=>by simpa [cv] using hb (i+1) (by simpa using hi)
     have h2:x<=y:=by simpa [cv] using hb 0 (by simp)
     show x+a.sum<=y+b.sum;omega
  have h1:=le a b (by simpa using h) λ i hi=>by simpa [cv] using hb (i+1) (by simpa using hi)
  have h2:x<=y:=by simpa [cv] using hb 0 (by simp)
  have hs':x+a.sum=y+b.sum:=hs;have e1:x=y:=by omega
  have e2:a.sum=b.sum:=by omega
  rw[e1,qZ a b (by simpa using h) (λ i hi=>by simpa [cv] using hb (i+1) (by simpa using hi)) e2]
theorem zy(S:Sh):(ss S).sum=(wn S:Nat):=by
 induction S with
 | nil=>rfl
 | cons r S ih =>
  have e:wn (r::S)=r.2+wn S:=by simp[wn]
  show((r.2:Nat):Int)+(ss S).sum=_;rw[ih,e];omega
theorem aei{S:Sh}{i:Nat}(hi:i<S.length):cv (ss S) i=sv S i:=by simp[cv,ss,sv,List.getD,List.getElem?_map,List.getElem?_eq_getElem hi]
theorem aiR{S:Sh}(hO:OkS S):st S (wn S)=ss S:=by
 have h:=ji hO (wn S);refine qZ _ _ (by rw[h.len];simp[ss]) (λ i hi=>?_) (by rw[h.sum,zy]);have hi':i<S.length:=by rw[<- h.len];exact hi
 rw[aei hi'];exact agm hO _ (Nat.le_refl _) i hi'
def aaF(S:Sh)(c:List Int):List Int:=List.zipWith (· + ·) c (ss S)
theorem nE{S:Sh}{c:List Int}{i:Nat}(hl:c.length=S.length)(hi:i<S.length):cv (aaF S c) i=cv c i+sv S i:=by rw[<- aei hi];have h1:c[i]? =some (c[i]'(by omega)):=List.getElem?_eq_getElem (by omega);have h2:(ss S)[i]? =some ((ss S)[i]'(by simp[ss];omega)):=List.getElem?_eq_getElem (by simp[ss];omega);unfold cv aaF;simp only[List.getD_eq_getElem?_getD,List.getElem?_zipWith,h1,h2,Option.getD_some]
theorem tV{S:Sh}{c:List Int}(hl:c.length=S.length):(aaF S c).length=S.length:=by simp[aaF,ss,hl]
theorem abw{S:Sh}{c:List Int}{t:Int}{i:Nat}(hO:OkS S)(hl:c.length=S.length)(hi:i<S.length):Rl S (aaF S c) (t+(wn S:Nat)) i ↔ Rl S c t i:=by
 unfold Rl;rw[nE hl hi,Int.add_mul,Int.mul_comm (sv S i),Int.add_mul_ediv_right _ _ (by have:=qc hO hi;omega)];omega
theorem abU{S:Sh}{c:List Int}{i:Nat}(hO:OkS S)(hl:c.length=S.length)(hi:i<S.length):Du S (aaF S c) i=Du S c i+(wn S:Nat):=by
 unfold Du due;rw[nE hl hi];have e:-(cv c i+sv S i+1) * ((wn S:Nat):Int)=-(cv c i+1) * ((wn S:Nat):Int)+(-((wn S:Nat):Int)) * sv S i:=by rw[show -(cv c i+sv S i+1)=-(cv c i+1) + -(sv S i) from by omega,Int.add_mul,Int.neg_mul (sv S i),Int.neg_mul ((wn S:Nat):Int),Int.mul_comm (sv S i)]
 rw[e,Int.add_mul_ediv_right _ _ (by have:=qc hO hi;omega)];omega
theorem abr{S:Sh}{c:List Int}{t:Int}(hO:OkS S)(hl:c.length=S.length)(hb:vF S c t (pk S c t)):pk S (aaF S c) (t+(wn S:Nat))=pk S c t:=by refine adb ⟨hb.1,(abw hO hl hb.1).mpr hb.2.1,λ j hj hr=>?_⟩;have h:=hb.2.2 j hj ((abw hO hl hj).mp hr);rw[abU hO hl hb.1,abU hO hl hj];exact⟨by omega,λ z=>by have:=h.2 z;omega⟩
theorem acd{a b:List Int}(hl:a.length=b.length)(h:∀ i,i<a.length->cv a i=cv b i):a=b:=by
 refine List.ext_getElem hl λ i h1 h2=>?_;have:=h i h1
 simpa [cv,List.getD,List.getElem?_eq_getElem h1,List.getElem?_eq_getElem h2] using this
theorem ab6{S:Sh}(hO:OkS S):∀ t,st S (t+wn S)=aaF S (st S t)
 | 0=>by
  rw[Nat.zero_add,aiR hO];refine acd (by rw[tV (ji hO 0).len];simp[ss]) λ i hi=>?_;have hi':i<S.length:=by simpa [ss] using hi
  have h0:=(ji hO 0).bd i;rw[nE (ji hO 0).len hi',aei hi'];have e:((0:Nat):Int)=0:=rfl;omega
 | t+1=>by
  have ih:=ab6 hO t;have ok:=ji hO t;have hb:=jg hO t;have e1:t+1+wn S=(t+wn S)+1:=by omega
  rw[e1];show nx S (st S (t+wn S)) ((t+wn S:Nat):Int)=aaF S (nx S (st S t) t);rw[ih,show((t+wn S:Nat):Int)=(t:Int)+(wn S:Nat) from by omega];have hp:=abr hO ok.len hb;have hi:pk S (st S t) t<(st S t).length:=by rw[ok.len];exact hb.1
  unfold nx;rw[hp];have l1:=tV ok.len;have l2:((st S t).set (pk S (st S t) t) (cv (st S t) (pk S (st S t) t)+1)).length=S.length:=by rw[List.length_set];exact ok.len
  refine acd (by rw[List.length_set,l1,tV l2]) λ i hi'=>?_;have hi2:i<S.length:=by rw[List.length_set,l1] at hi';exact hi'
  rw[oj (by rw[l1];exact hb.1),nE l2 hi2,oj hi,nE ok.len hi2,nE ok.len hb.1]
  split
  ·rename_i e
   subst e;omega
  ·rfl
noncomputable def own(S:Sh)(t:Nat):Nat:=pk S (st S t) t
theorem rG{S:Sh}(hO:OkS S)(t:Nat):own S t<S.length:=(jg hO t).1
theorem acY{S:Sh}(hO:OkS S)(t:Nat):own S (t+wn S)=own S t:=by
 unfold own;rw[ab6 hO,show((t+wn S:Nat):Int)=(t:Int)+(wn S:Nat) from by omega];exact abr hO (ji hO t).len (jg hO t)
theorem acL{S:Sh}(hO:OkS S)(t:Nat):own S t=own S (t % wn S):=by
 have key:∀ k r,own S (r+k * wn S)=own S r:=by
  intro k
  induction k with
  | zero=>intro r;simp
  | succ k ih =>
   intro r;rw[Nat.succ_mul,<- Nat.add_assoc,acY hO,ih]
 have:=key (t / wn S) (t % wn S);rw[<- this,Nat.mul_comm,Nat.mod_add_div]
def nmS(S:Sh)(i:Nat):Str:=(S.map (·.1)).getD i ""
noncomputable def rw0(S:Sh)(m:Nat):List Str:=(List.range m).map λ t=>nmS S (own S t)
theorem yZ(S:Sh)(i:Nat):cv (st S 0) i=0:=by
 simp only[cv,st,List.getD_eq_getElem?_getD,List.getElem?_replicate]
 split<;>rfl
theorem agO{W s c T:Int}(hs:0<s):due W s c<=T ↔ (c+1) * W<=s * T:=by
 unfold due;rw[show -(-(c+1) * W / s)<=T ↔ -T<=-(c+1) * W / s from by omega,Int.le_ediv_iff_mul_le hs,Int.neg_mul (c+1),Int.neg_mul T,Int.mul_comm T s];omega
def bt:SpD:=λ ws M Q=>∃ r:Str×Nat,ws=[.d (bZ r)]/\wd r.1=true/\1<=r.2/\r.2<=9/\Q (.d (.bool true)) M
theorem ka:∀ ws M Q,bt ws M Q->ws.length=1:=by rintro ws M Q ⟨r,rfl,_⟩;rfl
theorem jt:∀ ws M Q,bt ws M Q->il bL bU {nx:=λ _ M'=>Q (.d .none) M',rt:=Q} (aX iu ws) M:=by
 rintro ws M Q ⟨r,rfl,hw,h1,h9,k⟩;refine⟨_,rfl,_,_,_,rfl,.d,.tuple,_,rfl,?_⟩;rw[show mM (bZ r) "tuple" = true from ahx _];refine mF ⟨_,rfl,_,_,rfl,rfl,rfl,_,_,.d,.d,(show fh (.int ((2:Nat):Int)) (.int 2)=true by decide +kernel),_,rfl,?_⟩;rw[show PyData.eqv (.int (([PyData.str r.1,PyData.int (r.2:Nat)].length:Nat):Int)) (.int 2)=true from aja];exact mF ⟨_,rfl,0,_,rfl,rfl,rfl,r.1,rfl,hw,_,rfl,mF ⟨_,rfl,1,_,rfl,rfl,rfl,(r.2:Nat),1,9,rfl,by omega,by omega,k⟩⟩
def bo:SpD:=λ ws M Q=>∃ S:Sh,ws=[.d (shD S)]/\OkS S/\Q (.d .none) M
theorem jB:∀ ws M Q,bo ws M Q->ws.length=1:=by rintro ws M Q ⟨S,rfl,_⟩;rfl
theorem iO:∀ ws M Q,bo ws M Q->gK bt {nx:=λ _ M'=>Q (.d .none) M',rt:=Q} (aX gq ws) M:=by
 rintro ws M Q ⟨S,rfl,hO,k⟩;refine⟨_,rfl,_,_,_,rfl,.d,.list,_,rfl,?_⟩;rw[show mM (shD S) "list" = true from ag6 _];refine hU ⟨_,rfl,_,.l,?_⟩;have hne:(!(S.map bZ).isEmpty)=true:=by
  cases hs:S with
  | nil=>exact absurd hs hO.ne
  | cons _ _=>rfl
 refine xg (by rw[hne];rfl) ⟨_,rfl,_,rfl,?_⟩;refine⟨λ i τ M'=>M'=M/\∃ x2 x3,τ=[some (.d (shD S)),x2,x3],⟨rfl,_,_,rfl⟩,?_,?_⟩
 ·rintro i w τ M' hw ⟨rfl,x2,x3,rfl⟩;obtain⟨r,hr,rfl⟩:=aa8 hw;have hi:=(List.getElem?_eq_some_iff.mp hr).1;have h4:=hO.len;have hrow:=hO.row r (List.mem_of_getElem? hr);refine⟨_,rfl,rfl,_,_,rfl,_,_,rfl,rfl,?_⟩;refine⟨_,rfl,_,_,rfl,rfl,_,rfl,?_⟩;rw[decide_eq_false (show ¬ (4:Int)<=(i:Nat) by omega)];refine hU ⟨_,rfl,r,rfl,hrow.1,hrow.2.1,hrow.2.2,_,rfl,hU ⟨_,rfl,0,_,rfl,rfl,rfl,_,rfl,_,rfl,_,rfl,_,rfl,rfl,_,rfl,?_⟩⟩;rw[pJ (by rw[List.length_map];omega),<- List.map_take,List.map_map];refine fN (S.take i) (W.d ∘ bZ) (λ r=>.str r.1) (λ τ=>∃ x,τ=[x]) (by rw[List.length_take];omega) ⟨_,rfl⟩ (λ r' hr' τ hτ R h=>?_) (λ τ=>?_)
  ·obtain⟨x,rfl⟩:=hτ;exact⟨_,rfl,0,_,rfl,rfl,rfl,_,rfl,h _ ⟨_,rfl⟩⟩
  ·refine⟨r.1,(S.take i).map λ r=>r.1,rfl,?_,_,rfl,?_⟩
   ·have e:cN ((S.take i).map λ r=>r.1)=((S.take i).map λ r=>PyData.str r.1).map W.d:=by unfold cN;rw[List.map_map,List.map_map];rfl
    rw[e];exact .l
   ·have hn:r.1 ∉ (S.take i).map λ r=>r.1:=by rw[List.map_take];exact lI hO.nd (by rw[List.getElem?_map,hr];rfl)
    rw[if_neg (by decide),decide_eq_false hn];exact⟨rfl,_,_,rfl⟩
 ·rintro τ M' ⟨rfl,x2,x3,rfl⟩;exact k
def dH:SpD:=λ ws M Q=>∃ u W s:Int,ws=[.d (.int u),.d (.int W),.d (.int s)]/\0<=W/\W<=1000/\1<=s/\s<=9/\Q (.d (.int (due W s u))) M
theorem v3:∀ ws M Q,dH ws M Q->ws.length=3:=by rintro ws M Q ⟨u,W,s,rfl,_⟩;rfl
theorem t8:∀ ws M Q,dH ws M Q->uV {nx:=λ _ M'=>Q (.d .none) M',rt:=Q} (aX uW ws) M:=by
 rintro ws M Q ⟨u,W,s,rfl,h0,h1,h2,h3,k⟩;exact⟨_,rfl,.inl ⟨_,_,rfl,rfl,_,rfl,_,rfl,_,_,rfl,rfl,.inr ⟨by omega,by omega⟩,_,rfl,_,_,rfl,rfl,⟨by omega,by omega⟩,_,rfl,k⟩⟩
def kvL(N:List Str)(c:List Int):List (Key×W):=List.zipWith (λ z n=>((.inr z:Key),W.d (.int n))) N c
theorem iA:∀ {N:List Str} {c:List Int} {i:Nat} {z:Str} {n:Int},N.Nodup->N[i]? =some z->c[i]? =some n->eL (kvL N c) (.inr z)=some (.d (.int n))
 | [],_,_,_,_,_,h,_=>by simp at h
 | _::_,[],_,_,_,_,_,h=>by simp at h
 | y::N,m::c,0,z,n,nd,h1,h2=>by simp at h1 h2;subst h1 h2;show eL (((.inr y:Key),W.d (.int m))::kvL N c) (.inr y)=_;rw[gG,if_pos rfl]
 | y::N,m::c,i+1,z,n,nd,h1,h2=>by have hz:z∈N:=List.mem_of_getElem? (by simpa using h1);have hne:y≠z:=λ e=>(List.nodup_cons.mp nd).1 (e ▸ hz);show eL (((.inr y:Key),W.d (.int m))::kvL N c) (.inr z)=_;rw[gG,if_neg λ e=>hne (Sum.inr.inj e)];exact iA (List.nodup_cons.mp nd).2 (by simpa using h1) (by simpa using h2)
theorem zk{x:Int}{z:Str}:∀ {N:List Str} {c:List Int} {i:Nat},N.Nodup->N.length=c.length->N[i]? =some z->(kvL N c).map (λ p=>if p.1=(.inr z:Key) then (p.1,W.d (.int x)) else p)=kvL N (c.set i x)
 | [],_,_,_,_,h=>by simp at h
 | _::_,[],_,_,h,_=>by simp at h
 | y::N,m::c,0,nd,hl,h=>by
  simp at h;subst h;have hn:=(List.nodup_cons.mp nd).1;show((if ((.inr y:Key),W.d (.int m)).1=(.inr y:Key) then _ else _)::(kvL N c).map _)=((.inr y:Key),W.d (.int x))::kvL N c;rw[if_pos rfl];congr 1;have:∀ p∈kvL N c,p.1≠(.inr y:Key):=by intro p hp e;unfold kvL at hp;obtain⟨j,hj,ej⟩:=List.mem_iff_getElem.mp hp;rw[List.getElem_zipWith] at ej;subst ej;have:N[j]'(by simp at hj;omega)=y:=Sum.inr.inj e;exact hn (this ▸ List.getElem_mem _)
  conv=>rhs;rw[<- List.map_id (kvL N c)]
  refine List.map_congr_left λ p hp=>?_;rw[if_neg (this p hp)];rfl
 | y::N,m::c,i+1,nd,hl,h=>by have hz:z∈N:=List.mem_of_getElem? (by simpa using h);have hne:y≠z:=λ e=>(List.nodup_cons.mp nd).1 (e ▸ hz);show((if ((.inr y:Key),W.d (.int m)).1=(.inr z:Key) then _ else _)::(kvL N c).map _)=((.inr y:Key),W.d (.int m))::kvL N (c.set i x);rw[if_neg λ e=>hne (Sum.inr.inj e),zk (List.nodup_cons.mp nd).2 (by simpa using hl) (by simpa using h)]
theorem lC{N:List Str}{c:List Int}{i:Nat}{z:Str}{x:Int}(nd:N.Nodup)(hl:N.length=c.length)(h:N[i]? =some z):mE (kvL N c) (.inr z) (.d (.int x))=kvL N (c.set i x):=by
 have hi:i<c.length:=by rw[<- hl];exact(List.getElem?_eq_some_iff.mp h).1
 unfold mE;rw[u5,iA nd h (List.getElem?_eq_getElem hi),Option.isSome_some,if_pos rfl];exact zk nd hl h
theorem u1{N:List Str}{n:Nat}{z:Str}(hn:N.length=n)(hz:z ∉ N):mE (kvL N (List.replicate n 0)) (.inr z) (.d (.int 0))=kvL (N++[z]) (List.replicate (n+1) 0):=by
 have hno:∀ p∈kvL N (List.replicate n 0),decide (p.1=(.inr z:Key))=false:=by intro p hp;unfold kvL at hp;obtain⟨j,hj,ej⟩:=List.mem_iff_getElem.mp hp;rw[List.getElem_zipWith] at ej;subst ej;refine decide_eq_false λ e=>hz ?_;have:N[j]'(by simp at hj;omega)=z:=Sum.inr.inj e;exact this ▸ List.getElem_mem _
 unfold mE;rw[if_neg (by rw[Bool.not_eq_true,List.any_eq_false];intro p hp;simpa using hno p hp)];unfold kvL;rw[List.replicate_succ',List.zipWith_append (by simp[hn])];rfl
def nmL(S:Sh):List Str:=S.map (·.1)
theorem kb{S:Sh}{i:Nat}{r:Str×Nat}(h:S[i]? =some r):(nmL S)[i]? =some r.1/\nmS S i=r.1:=by
 have e:(nmL S)[i]? =some r.1:=by simp[nmL,List.getElem?_map,h]
 exact⟨e,by unfold nmS;rw[List.getD_eq_getElem?_getD];unfold nmL at e;rw[e];rfl⟩
theorem acT{S:Sh}{i:Nat}{r:Str×Nat}(h:S[i]? =some r):sv S i=(r.2:Nat):=by simp[sv,List.getD,List.getElem?_map,h]
theorem oF{c:List Int}{i:Nat}(h:i<c.length):c[i]? =some (cv c i):=by simp[cv,List.getD,List.getElem?_eq_getElem h]
def adk(S:Sh)(c:List Int)(t:Int)(j:Nat):Bool:=decide (cv c j * (wn S:Nat) / sv S j<=t)
def mD(S:Sh)(c:List Int)(t:Int)(n:Nat):List Nat:=(List.range n).filter (adk S c t)
def rdS(S:Sh)(j:Nat):PyData:=(S.map bZ).getD j .none
theorem yL{S:Sh}{j:Nat}{r:Str×Nat}(h:S[j]? =some r):rdS S j=bZ r:=by simp[rdS,List.getD,List.getElem?_map,h]
theorem qf(S:Sh)(c:List Int)(t:Int)(n:Nat):mD S c t (n+1)=if adk S c t n=true then mD S c t n++[n] else mD S c t n:=by
 unfold mD;rw[List.range_succ,List.filter_append];cases h:adk S c t n with
 | true=>simp[h]
 | false=>simp[h]
theorem kg{S:Sh}{c:List Int}{t:Int}{n j:Nat}:j∈mD S c t n ↔ j<n/\Rl S c t j:=by
 unfold mD adk Rl;simp
theorem adU{S:Sh}{c:List Int}{t:Int}{n:Nat}:(mD S c t n).Pairwise (· < ·):=by
 unfold mD;exact List.Pairwise.sublist List.filter_sublist List.pairwise_lt_range
theorem ahM{l:List Nat}(h:l.Pairwise (· < ·)){i j a b:Nat}(hi:l[i]? =some a)(hj:l[j]? =some b)(hab:a<b):i<j:=by
 obtain⟨h1,e1⟩:=List.getElem?_eq_some_iff.mp hi;obtain⟨h2,e2⟩:=List.getElem?_eq_some_iff.mp hj;rcases Nat.lt_trichotomy i j with e | e | e
 ·exact e
 ·subst e;omega
 ·have:=List.pairwise_iff_getElem.mp h j i h2 h1 e;omega
theorem aaQ{S:Sh}{c:List Int}{t:Int}{i j:Nat}(hj:(mD S c t S.length)[i]? =some j)
  (hb:∀ m,m<(mD S c t S.length).length->Du S c ((mD S c t S.length).getD i 0)<=Du S c ((mD S c t S.length).getD m 0)/\(m<i->Du S c ((mD S c t S.length).getD i 0)<Du S c ((mD S c t S.length).getD m 0))):vF S c t j:=by
 have hm:=kg.mp (List.mem_of_getElem? hj);have ej:(mD S c t S.length).getD i 0=j:=by simp[List.getD,hj]
 refine⟨hm.1,hm.2,λ j' hj' hr'=>?_⟩;obtain⟨m,hm1,hm2⟩:=List.mem_iff_getElem.mp (kg.mpr ⟨hj',hr'⟩);have em:(mD S c t S.length)[m]? =some j':=by rw[List.getElem?_eq_getElem hm1,hm2]
 have e2:(mD S c t S.length).getD m 0=j':=by simp[List.getD,em]
 have h:=hb m hm1;rw[ej,e2] at h;exact⟨h.1,λ z=>h.2 (ahM adU em hj z)⟩
theorem aaH(S:Sh)(t:Nat):rw0 S (t+1)=rw0 S t++[nmS S (own S t)]:=by
 unfold rw0;rw[List.range_succ,List.map_append];rfl
theorem zD(a:List Str)(z:Str):cN (a++[z])=cN a++[.d (.str z)]:=by simp[cN]
theorem adN(S:Sh)(m:Nat):(rw0 S m).length=m:=by simp[rw0]
abbrev cdR:MO:=.code fF ⟨39,41,39,92⟩
def cq:SpD:=λ ws M Q=>∃ S:Sh,ws=[.d (shD S)]/\OkS S/\M aw=some cdR/\∀ p M',M p=none->M' p=some (.lst (cN (rw0 S (wn S))))->Ext M M'->Q (.m p) M'
theorem qt:∀ ws M Q,cq ws M Q->ws.length=1:=by rintro ws M Q ⟨S,rfl,_⟩;rfl
theorem pB:∀ ws M Q,cq ws M Q->nD dH {nx:=λ _ M'=>Q (.d .none) M',rt:=Q} (aX nC ws) M:=by
 rintro ws M Q ⟨S,rfl,hO,hC,k⟩;have sl:=s16;have wp:=rV hO;have h4:=hO.len;have nd:(nmL S).Nodup:=hO.nd;refine⟨_,rfl,_,rfl,?_⟩;rw[List.map_map];refine fN S (W.d ∘ bZ) (λ r=>.int (r.2:Nat)) (λ τ=>∃ x y,τ=[x,y]) (by omega) ⟨_,_,rfl⟩ (λ r hr τ hτ R h=>?_) (λ τ=>?_)
 ·obtain⟨x,y,rfl⟩:=hτ;exact⟨_,rfl,rfl,_,_,rfl,_,_,rfl,rfl,_,rfl,_,rfl,h _ ⟨_,_,rfl⟩⟩
 have es:(S.map λ r=>PyData.int ((r.2:Nat):Int))=(ss S).map PyData.int:=by simp[ss]
 refine⟨_,ss S,rfl,by rw[es];exact .d,by simp[ss];omega,λ n hn=>?_,?_⟩
 ·obtain⟨r,hr,rfl⟩:=List.mem_map.mp hn;have:=(hO.row r hr).2;omega
 rw[zy];refine⟨_,rfl,_,rfl,λ d hd=>?_⟩;refine⟨λ i τ M'=>M'=aE M d (.dic (kvL ((nmL S).take i) (List.replicate i 0)))/\∃ x y,τ=[x,y],⟨rfl,_,_,rfl⟩,?_,?_⟩
 ·rintro i w τ M' hw ⟨rfl,x,y,rfl⟩;rw[List.map_map] at hw;obtain⟨r,hr,rfl⟩:=c5 hw;have hi:=(List.getElem?_eq_some_iff.mp hr).1;obtain⟨hn,_⟩:=kb hr;refine⟨_,rfl,rfl,_,_,rfl,_,_,rfl,rfl,_,rfl,_,.inr r.1,ab,rfl,?_,?_,_,_,rfl⟩
  ·have:(kvL ((nmL S).take i) (List.replicate i 0)).length<=i:=by simp[kvL];omega
   omega
  ·have ht:(nmL S).take (i+1)=(nmL S).take i++[r.1]:=by rw[List.take_succ,hn];rfl
   rw[iX,u1 (N:=(nmL S).take i) (by rw[List.length_take];simp[nmL];omega) (lI nd hn),ht]
 rintro τ M1 ⟨e1,x,y,rfl⟩;have hd1:M1 d=some (.dic (kvL (nmL S) (st S 0))):=by rw[e1,ab];have:(nmL S).take ((S.map bZ).map W.d).length=nmL S:=List.take_of_length_le (by simp[nmL]);rw[this];simp[st]
 have x1:Ext M M1:=by rw[e1];exact Ext.new hd
 refine⟨few (by simp),λ a ha=>?_⟩;have da:d≠a:=λ e=>by rw[e,ha] at hd1;cases hd1
 have haM:M a=none:=by
  cases q:M a with
  | none=>rfl
  | some o=>rw[x1 a o q] at ha;cases ha
 refine⟨_,rfl,_,rfl,by omega,by omega,?_⟩;refine⟨λ t τ M'=>M' d=some (.dic (kvL (nmL S) (st S t)))/\M' a=some (.lst (cN (rw0 S t)))/\Ext M M'/\∃ x4 x5 x6 x7,τ=[some (.d (shD S)),some (.d (.int ((wn S:Nat):Int))),some (.m d),some (.m a),x4,x5,x6,x7],⟨by rw[ae da];exact hd1,ab,x1.trans (Ext.new ha),_,_,_,_,rfl⟩,?_,?_⟩
 ·rintro t w τ M2 hw ⟨md,ma,x2,x4,x5,x6,x7,rfl⟩;obtain⟨ht,rfl⟩:=my hw;have ht:t<wn S:=by omega
  rw[Int.zero_add];have ok:=ji hO t;have nl:(nmL S).length=(st S t).length:=by rw[ok.len];simp[nmL]
  have get:∀ {j r},S[j]? =some r->eL (kvL (nmL S) (st S t)) (.inr r.1)=some (.d (.int (cv (st S t) j))):=λ {j r} hj =>
   iA nd (kb hj).1 (oF (by rw[ok.len];exact(List.getElem?_eq_some_iff.mp hj).1))
  refine⟨_,rfl,_,rfl,?_⟩;refine⟨λ i acc τ M'=>M'=M2/\acc=(mD S (st S t) t i).map (rdS S)/\∃ x y,τ=[x,y,some (.m d),some (.d (.int ((wn S:Nat):Int))),some (.d (.int (t:Int)))],⟨rfl,rfl,_,_,rfl⟩,?_,?_⟩
  ·rintro i w acc τ M' hw ⟨rfl,rfl,x,y,rfl⟩;rw[List.map_map] at hw;obtain⟨r,hr,rfl⟩:=c5 hw;have hi:=(List.getElem?_eq_some_iff.mp hr).1;have hrow:=hO.row r (List.mem_of_getElem? hr);have hacc:((mD S (st S t) t i).map (rdS S)).length<=i:=by rw[List.length_map];have:=List.length_filter_le (adk S (st S t) t) (List.range i);rw[List.length_range] at this;exact this
   refine⟨by omega,_,rfl,rfl,_,_,rfl,_,_,rfl,rfl,?_⟩;have eb:adk S (st S t) t i=decide (cv (st S t) i * ((wn S:Nat):Int) / ((r.2:Nat):Int)<=(t:Int)):=by unfold adk;rw[acT hr]
   refine⟨_,rfl,_,rfl,d,_,.inr r.1,_,rfl,.inl md,rfl,get hr,_,rfl,_,_,rfl,rfl,.inr ⟨by omega,by omega⟩,_,rfl,_,_,rfl,rfl,⟨by omega,by omega⟩,_,rfl,.inl ⟨_,_,rfl,rfl,_,rfl,?_⟩⟩;refine df (λ h=>?_) (λ h=>?_)
   ·refine⟨_,rfl,_,rfl,_,rfl,few (by simp),_,rfl,rfl,?_,_,_,rfl⟩;rw[qf,if_pos (eb.trans h),List.map_append];show _=_++[rdS S i];rw[yL hr];rfl
   ·refine⟨rfl,?_,_,_,rfl⟩;rw[qf,if_neg (by rw[eb.trans h];decide)]
  ·rintro acc τ M' ⟨rfl,rfl,x,y,rfl⟩;rw[List.length_map,List.length_map];have hb:=jg hO t;have hne:(mD S (st S t) t S.length).map (rdS S)≠[]:=by intro e;have hm:=kg.mpr ⟨hb.1,hb.2.1⟩;rw[List.map_eq_nil_iff.mp e] at hm;cases hm
   refine⟨_,rfl,_,rfl,hne,x2 _ _ hC,λ i=>Du S (st S t) ((mD S (st S t) t S.length).getD i 0),λ i d' hd'=>?_,λ i d' hd' hbest=>?_⟩
   ·obtain⟨j,hj,rfl⟩:=c5 hd';have hjn:=(kg.mp (List.mem_of_getElem? hj)).1;obtain⟨r,hr⟩:∃ r,S[j]? =some r:=⟨_,List.getElem?_eq_getElem hjn⟩;have hrow:=hO.row r (List.mem_of_getElem? hr);have ej:(mD S (st S t) t S.length).getD i 0=j:=by simp[List.getD,hj]
    rw[yL hr];refine⟨_,rfl,_,rfl,0,_,rfl,rfl,rfl,d,_,.inr r.1,_,rfl,.inl md,rfl,get hr,_,rfl,_,rfl,1,_,rfl,rfl,rfl,cv (st S t) j,(wn S:Nat),(r.2:Nat),rfl,by omega,by omega,by omega,by omega,?_,rfl⟩;show W.d (.int (due _ _ _))=W.d (.int (Du S (st S t) _));rw[ej];unfold Du;rw[acT hr]
   ·obtain⟨j,hj,rfl⟩:=c5 hd';have hB:vF S (st S t) t j:=aaQ hj λ m hm=>hbest m (by rw[List.length_map];exact hm);have hpk:pk S (st S t) t=j:=adb hB;obtain⟨r,hr⟩:∃ r,S[j]? =some r:=⟨_,List.getElem?_eq_getElem hB.1⟩;rw[yL hr];refine⟨_,rfl,rfl,_,_,rfl,_,_,rfl,rfl,?_⟩;refine⟨_,rfl,_,rfl,d,_,.inr r.1,_,rfl,rfl,md,get hr,?_,1,rfl,rfl,?_⟩
    ·have:(kvL (nmL S) (st S t)).length<=4:=by simp[kvL,nmL];omega
     omega
    rw[lC nd nl (kb hr).1];have est:(st S t).set j (cv (st S t) j+1)=st S (t+1):=by rw[<- hpk];rfl
    rw[est];refine⟨_,rfl,a,_,rfl,by rw[ae (Ne.symm da)];exact ma,_,rfl,_,by rw[ae (Ne.symm da)];exact ma,?_,?_⟩
    ·have:(cN (rw0 S t)).length=t:=by simp[cN,rw0]
     omega
    refine⟨by rw[ae da,ab],?_,λ b o e=>?_,_,_,_,_,rfl⟩
    ·rw[ab,aaH,zD];have:own S t=j:=hpk;rw[this,(kb hr).2]
    ·have b1:b≠a:=λ z=>by rw[z,haM] at e;cases e
     have b2:b≠d:=λ z=>by rw[z,hd] at e;cases e
     rw[ae b1,ae b2];exact x2 b o e
 ·rintro τ M2 ⟨md,ma,x2,x4,x5,x6,x7,rfl⟩;have el:(ef 0 ((wn S:Nat):Int).toNat).length=wn S:=by simp[ef]
  rw[el] at ma;exact⟨_,rfl,k a M2 haM ma x2⟩
theorem oe:∀ (cs:List Nat) (acc:Array Nat),((cs.map λ c=>(⟨#[c]⟩:Str)).foldl (λ acc p=>acc++("" : Str).cps++p.cps) acc).toList=acc.toList++cs
 | [],acc=>by simp
 | c::cs,acc=>by
  have e:("" : Str).cps = #[]:=by decide +kernel
  rw[List.map_cons,List.foldl_cons,oe cs];rw[e];simp
theorem vQ(cs:List Nat):(Txt.join "" (cs.map λ c=>(⟨#[c]⟩:Str))).cps.toList=cs:=by
 cases cs with
 | nil=>simp[Txt.join,Builtin.Str.glued,Str.empty]
 | cons c cs =>
  show(((cs.map λ c=>(⟨#[c]⟩:Str)).foldl (λ acc p=>acc++("" : Str).cps++p.cps) #[c])).toList=_;rw[oe];rfl
theorem tR:∀ c∈jX.cps.toList,iw c=true:=by decide +kernel
theorem yj(cs:List Nat):((cs.map λ c=>(⟨#[c]⟩:Str)).map (·.length)).sum=cs.length:=by
 induction cs with
 | nil=>rfl
 | cons c cs ih =>
  simp only[List.map_cons,List.sum_cons,ih,List.length_cons];show 1+cs.length=_;omega
theorem qL(x y:Str):(x++y).cps.toList=x.cps.toList++y.cps.toList:=by show(x.cps++y.cps).toList=_;simp
theorem qK{z:Str}{lo hi:Option Int}{c:Nat}(hc:c∈(Txt.slice z lo hi).cps.toList):c∈z.cps.toList:=by
 unfold Txt.slice at hc
 split at hc
 ·exact hc
 ·have hc':c∈(Builtin.Str.strSliceIndices lo hi 1 z.length).filterMap (z.cps[·]?):=by simpa using hc
  obtain⟨i,_,e⟩:=List.mem_filterMap.mp hc'
  simpa using Array.mem_of_getElem? e
theorem vb{z:Str}{lo hi:Option Int}:(Txt.slice z lo hi).length<=(Builtin.Str.strSliceIndices lo hi 1 z.length).length:=by
 unfold Txt.slice
 split
 ·rename_i h
  simp at h;omega
 ·show(List.filterMap _ _).toArray.size<=_;rw[List.size_toArray];exact List.length_filterMap_le _ _
theorem two_parts{z:Str}{a:Int}(h0:0<=a)(h1:a<=z.length):(Txt.slice z none (some a)).length+(Txt.slice z (some a) none).length<=z.length:=by
 have e1:=vb (z:=z) (lo:=none) (hi:=some a);have e2:=vb (z:=z) (lo:=some a) (hi:=none);have f1:(Builtin.Str.strSliceIndices none (some a) 1 z.length).length<=a.toNat:=by
  unfold Builtin.Str.strSliceIndices sliceRange;simp only[show(1:Int) > 0 by decide,if_true,List.length_map,List.length_range]
  split<;>(try split)<;>(try split)<;>(try simp only[Int.ediv_one])<;>omega
 have f2:(Builtin.Str.strSliceIndices (some a) none 1 z.length).length<=z.length-a.toNat:=by
  unfold Builtin.Str.strSliceIndices sliceRange;simp only[show(1:Int) > 0 by decide,if_true,List.length_map,List.length_range]
  split<;>(try split)<;>(try split)<;>(try simp only[Int.ediv_one])<;>omega
 omega
def sk:List Int:=[1,3,5,7,9,25]
theorem aae:∀ r<26,jX.cps.toList[r]? =some (97+r):=by decide +kernel
theorem acs{M:MH}{i:Int}(h0:0<=i)(h1:i<26):ixW M (.d (.str jX)) i=some (.d (.str ⟨#[97+i.toNat]⟩)):=by obtain⟨n,rfl⟩:=Int.eq_ofNat_of_zero_le h0;simp only[ixW];rw[ml (aae n (by omega))];rfl
theorem tE:∀ a<26,∀ s∈[1,3,5,7,9,25],∀ i<4,∀ j<4,(a+s * i) % 26=(a+s * j) % 26->i=j:=by decide +kernel
theorem vN:∀ r<26,iw (97+r)=true:=by decide +kernel
def lG(z:Str)(pl:Int)(c:Nat):Str:=Txt.slice z none (some pl)++(⟨#[c]⟩:Str)++Txt.slice z (some pl) none
theorem xJ{z:Str}{pl:Int}{c d:Nat}(h:lG z pl c=lG z pl d):c=d:=by
 have e:=congrArg (λ x:Str=>x.cps.toList) h;simp only[lG,qL] at e;have e2:=List.append_cancel_right e;have e3:=List.append_cancel_left e2;have e4:[c]=[d]:=e3
 simpa using e4
theorem aa6{z:Str}{pl:Int}{c:Nat}(hz:∀ x∈z.cps.toList,iw x=true)(hl:z.length<=7)(h0:0<=pl)(h1:pl<=z.length)(hc:iw c=true):wd (lG z pl c)=true:=by
 have e:(lG z pl c).cps.toList=(Txt.slice z none (some pl)).cps.toList++[c]++(Txt.slice z (some pl) none).cps.toList:=by simp only[lG,qL]
 have el:(lG z pl c).length=(Txt.slice z none (some pl)).length+1+(Txt.slice z (some pl) none).length:=by rw[<- str_len,e,List.length_append,List.length_append,str_len,str_len];rfl
 have:=two_parts h0 h1;unfold wd;rw[decide_eq_true (show 1<=(lG z pl c).length by omega),decide_eq_true (show(lG z pl c).length<=8 by omega),Bool.true_and,Bool.true_and,List.all_eq_true];intro x hx;rw[e] at hx;rcases List.mem_append.mp hx with hx | hx
 ·rcases List.mem_append.mp hx with hx | hx
  ·exact hz x (qK hx)
  ·rw[List.mem_singleton.mp hx];exact hc
 ·exact hz x (qK hx)
def Fr(M M':MH)(p:Addr):Prop:=∀ q o,q≠p->M q=some o->M' q=some o
theorem Fr.of{M M':MH}{p:Addr}(h:∀ q,q≠p->M' q=M q):Fr M M' p:=λ q o n e=>by rw[h q n];exact e
def sgn(at' st':Int)(j:Nat):Nat:=97+((at'+st' * j) % 26).toNat
theorem adL{at' st':Int}{i j:Nat}(a0:0<=at')(a1:at'<26)(hs:st'∈sk)(hi:i<4)(hj:j<4)(h:sgn at' st' i=sgn at' st' j):i=j:=by
 obtain⟨a,rfl⟩:=Int.eq_ofNat_of_zero_le a0;have hs0:∀ s∈sk,0<=s/\s.toNat∈[1,3,5,7,9,25]:=by decide
 obtain⟨s0,sm⟩:=hs0 st' hs;obtain⟨s,rfl⟩:=Int.eq_ofNat_of_zero_le s0;unfold sgn at h;refine tE a (by omega) s (by simpa using sm) i hi j hj ?_;have e:∀ k:Nat,(((a:Nat):Int)+((s:Nat):Int) * ((k:Nat):Int)) % 26=(((a+s * k) % 26:Nat):Int):=λ k=>by rw[<- Int.natCast_mul,<- Int.natCast_add];rfl
 rw[e,e] at h;omega
def br:SpD:=λ ws M Q=>∃ p:Addr,ws=[.m p]/\Bag M p/\∀ (S:Sh) M',OkS S->Bag M' p->Fr M M' p->Q (.d (shD S)) M'
theorem qz:∀ ws M Q,br ws M Q->ws.length=1:=by rintro ws M Q ⟨p,rfl,_⟩;rfl
inductive ShP(z:Str) (at' st' pl:Int) (p a:Addr) (M:MH) (i:Nat) (τ:DS) (M':MH):Prop
 | mk (z0:Bag M' p) (z1:Fr M M' p) (R:Sh) (z2:M' a=some (.lst ((R.map bZ).map W.d))) (z3:R.length=i) (z4:∀ j r,R[j]? =some r->r.1=lG z pl (sgn at' st' j)/\1<=r.2/\r.2<=9) (x7 x8 x9 x10:Option W) (z5:τ=[some (.m p),some (.d (.str jX)),some (.d (.str z)),some (.d (.int at')),some (.d (.int st')),some (.d (.int pl)),some (.m a),x7,x8,x9,x10]):ShP z at' st' pl p a M i τ M'
theorem pX:∀ ws M Q,br ws M Q->nL au {nx:=λ _ M'=>Q (.d .none) M',rt:=Q} (aX oq ws) M:=by
 rintro ws M Q ⟨p,rfl,hb,k⟩;have s16':=s16;have e0:("" : Str).length=0:=by decide +kernel
 have fitA:aaa (.d (.str jX))=true:=by decide +kernel
 refine⟨⟨_,rfl⟩,_,rfl,p,8,rfl,hb,by decide,by decide,λ n M1 n0 n1 b1 f1=>⟨n,rfl,by omega,by omega,?_⟩⟩;dsimp only;refine⟨λ i acc τ M'=>Bag M' p/\(∀ q,q≠p->M' q=M q)/\(∃ cs:List Nat,acc=cs.map (λ c=>PyData.str ⟨#[c]⟩)/\cs.length=i/\∀ c∈cs,iw c=true)/\∃ x,τ=[x,some (.d (.str jX)),some (.m p)],⟨b1,f1,⟨[],rfl,rfl,λ _ h=>nomatch h⟩,_,rfl⟩,?_,?_⟩
 ·rintro i w acc τ M' hw ⟨b,f,⟨cs,rfl,hl,hc⟩,x,rfl⟩;obtain⟨hi,rfl⟩:=my hw;refine⟨by rw[List.length_map];omega,_,rfl,_,rfl,p,26,rfl,b,by decide,by decide,λ r M3 r0 r1 b3 f3=>?_⟩;obtain⟨c,hc1,hm⟩:=xB (M:=M3) (z:=jX) r0 (by rw[afN];exact r1);refine⟨r,_,rfl,hc1,fitA,_,rfl,b3,λ q hq=>(f3 q hq).trans (f q hq),⟨cs++[c],by simp,by simp[hl],λ c' h'=>?_⟩,_,rfl⟩;rcases List.mem_append.mp h' with h' | h'
  ·exact hc c' h'
  ·rw[List.mem_singleton.mp h'];exact tR c hm
 rintro acc τ M2 ⟨b2,f2,⟨cs,rfl,hl,hc⟩,x,rfl⟩;simp only[ef,List.length_map,List.length_range] at hl;refine⟨"",cs.map λ c=>⟨#[c]⟩,rfl,by rw[List.map_map];rfl,by rw[yj,e0];omega,?_⟩;have hz:=vQ cs;have hzl:(Txt.join "" (cs.map λ c=>(⟨#[c]⟩:Str))).length=cs.length:=by rw[<- str_len,hz]
 generalize Txt.join "" (cs.map λ c=>(⟨#[c]⟩:Str))=z at hz hzl;have hzs:∀ x∈z.cps.toList,iw x=true:=by rw[hz];exact hc
 have fitZ:aaa (.d (.str z))=true:=decide_eq_true (by omega);refine⟨_,rfl,p,26,rfl,b2,by decide,by decide,λ at' M3 a0 a1 b3 f3=>?_⟩;refine⟨_,rfl,few (by simp),_,rfl,p,6,rfl,b3,by decide,by decide,λ r M4 r0 r1 b4 f4=>?_⟩;obtain⟨st',es,hs⟩:=qA (M:=M4) (ns:=sk) r0 (by simpa [sk] using r1);have hs25:0<=st'/\st'<=25:=by
  have:∀ s∈sk,0<=s/\s<=25:=by decide
  exact this st' hs
 refine⟨r,_,rfl,es,rfl,?_⟩;refine⟨_,rfl,_,rfl,_,_,rfl,rfl,fitZ,.inl ⟨_,_,rfl,rfl,p,_,rfl,b4,by omega,by omega,λ pl M5 p0 p1 b5 f5=>?_⟩⟩;refine⟨few (by simp),λ a ha=>?_⟩;have pa:p≠a:=λ e=>by obtain⟨o,ho⟩:=agF b5;rw[e,ha] at ho;cases ho
 have F5:Fr M M5 p:=Fr.of λ q hq=>by rw[f5 q hq,f4 q hq,f3 q hq,f2 q hq]
 refine⟨_,rfl,p,4,rfl,pI b5 (ae pa),by decide,by decide,λ c M6 c0 c1 b6 f6=>.inl ⟨_,_,rfl,rfl,1+c,rfl,by omega,by omega,?_⟩⟩;refine⟨λ i τ M'=>ShP z at' st' pl p a M i τ M',⟨b6,λ q o nq e=>?_,[],?_,rfl,λ j r h=>by simp at h,_,_,_,_,rfl⟩,?_,?_⟩
 ·have qa:q≠a:=λ z=>by have:=F5 q o nq e;rw[z,ha] at this;cases this
  rw[f6 q nq,ae qa];exact F5 q o nq e
 ·rw[f6 a (Ne.symm pa),ab];rfl
 ·rintro i w τ M' hw ⟨b,f,R,ma,hR,hr,x7,x8,x9,x10,rfl⟩;obtain⟨hi,rfl⟩:=my hw;rw[Int.zero_add];have hi4:i<4:=by omega
  have hmod:=Int.emod_nonneg (at'+st' * (i:Int)) (show(26:Int)≠0 by decide);have hmod2:=Int.emod_lt_of_pos (at'+st' * (i:Int)) (show(0:Int)<26 by decide);refine⟨_,rfl,_,rfl,_,rfl,_,rfl,_,_,rfl,rfl,.inl ⟨by omega,by omega⟩,.inl ⟨_,_,rfl,rfl,_,_,rfl,rfl,show(0:Int)<26 by decide,_,_,rfl,acs hmod hmod2,fitA,?_⟩⟩;have lc:(⟨#[sgn at' st' i]⟩:Str).length=1:=rfl;have l1:=PySem.Txt.slice_le z none (some pl);have l2:=PySem.Txt.slice_le z (some pl) none;refine⟨_,rfl,_,rfl,_,rfl,_,rfl,fitZ,_,rfl,.inr ⟨_,_,rfl,rfl,?_,_,rfl,_,rfl,_,rfl,_,rfl,fitZ,.inr ⟨_,_,rfl,rfl,?_,?_⟩⟩⟩
  ·show(Txt.slice z none (some pl)).length+(⟨#[sgn at' st' i]⟩:Str).length<=sizeLine;rw[lc];omega
  ·show(Txt.slice z none (some pl)++(⟨#[sgn at' st' i]⟩:Str)).length+_<=sizeLine;rw[len_app,lc];omega
  refine⟨_,rfl,p,9,rfl,b,by decide,by decide,λ v1 M7 v10 v11 b7 f7=>.inl ⟨_,_,rfl,rfl,_,rfl,p,3,rfl,b7,by decide,by decide,λ v2 M8 v20 v21 b8 f8=>.inl ⟨_,_,rfl,rfl,_,rfl,few (by simp),?_⟩⟩⟩;have ma8:M8 a=some (.lst ((R.map bZ).map W.d)):=by rw[f8 a (Ne.symm pa),f7 a (Ne.symm pa)];exact ma
  refine⟨_,rfl,a,_,rfl,ma8,_,rfl,_,rfl,_,rfl,p,4,rfl,b8,by decide,by decide,λ r M9 r0 r1 b9 f9=>?_⟩;have ma9:M9 a=some (.lst ((R.map bZ).map W.d)):=by rw[f9 a (Ne.symm pa)];exact ma8
  obtain⟨v,ev,hv⟩:=qA (M:=M9) (ns:=[1+v1,1,9,1+v2]) r0 (by simpa using r1);have hv9:1<=v/\v<=9:=by simp only[List.mem_cons,List.not_mem_nil,or_false] at hv;rcases hv with rfl | rfl | rfl | rfl<;>omega
  obtain⟨vn,rfl⟩:=Int.eq_ofNat_of_zero_le (show 0<=v by omega);refine⟨r,_,rfl,ev,rfl,_,rfl,few (by simp),_,ma9,by simp;omega,pI b9 (ae pa),λ q o nq e=>?_,R++[(lG z pl (sgn at' st' i),vn)],?_,by simp[hR],λ j r' h=>?_,_,_,_,_,rfl⟩
  ·have qa:q≠a:=λ z'=>by have:=F5 q o nq e;rw[z',ha] at this;cases this
   rw[ae qa,f9 q nq,f8 q nq,f7 q nq];exact f q o nq e
  ·rw[ab,List.map_append,List.map_append];rfl
  ·by_cases hj:j<R.length
   ·rw[List.getElem?_append_left hj] at h;exact hr j r' h
   ·rw[List.getElem?_append_right (by omega)] at h;have hlt:=(List.getElem?_eq_some_iff.mp h).1;simp at hlt;have ej:j=i:=by omega
    subst ej;rw[hR,Nat.sub_self] at h;simp at h;subst h;exact⟨rfl,by omega,by omega⟩
 ·rintro τ M' ⟨b,f,R,ma,hR,hr,x7,x8,x9,x10,rfl⟩;simp only[ef,List.length_map,List.length_range] at hR;have hRl:1<=R.length/\R.length<=4:=by omega
  refine⟨_,rfl,a,_,rfl,ma,k R _ ⟨λ e=>by rw[e] at hRl;simp at hRl,hRl.2,λ r hm=>?_,?_⟩ ?_ ?_⟩
  ·obtain⟨j,hj,e⟩:=List.mem_iff_getElem.mp hm;obtain⟨h1,h2,h3⟩:=hr j r (by rw[<- e];exact List.getElem?_eq_getElem hj);refine⟨?_,h2,h3⟩;rw[h1];refine aa6 hzs (by omega) p0 (by omega) (vN _ ?_);have:=Int.emod_lt_of_pos (at'+st' * (j:Int)) (show(0:Int)<26 by decide);omega
  ·rw[List.nodup_iff_pairwise_ne,List.pairwise_iff_getElem];intro i j hi hj hij e;rw[List.getElem_map,List.getElem_map] at e;have hi':i<R.length:=by simpa using hi
   have hj':j<R.length:=by simpa using hj
   rw[(hr i _ (List.getElem?_eq_getElem hi')).1,(hr j _ (List.getElem?_eq_getElem hj')).1] at e;have:=adL a0 a1 hs (by omega) (by omega) (xJ e);omega
  ·refine pI b ?_;simp only[ik,if_neg pa]
  ·intro q o nq e;have qa:q≠a:=λ z'=>by have:=F5 q o nq e;rw[z',ha] at this;cases this
   simp only[ik,if_neg qa];exact f q o nq e
theorem ae0{S:Sh}{m t:Nat}(h:t<m):(cN (rw0 S m))[t]? =some (.d (.str (nmS S (own S t)))):=by simp[cN,rw0,List.getElem?_map,List.getElem?_range h]
theorem yH{N:List Str}{c:List Int}{z:Str}{x:Int}(hn:N.length=c.length)(hz:z ∉ N):mE (kvL N c) (.inr z) (.d (.int x))=kvL (N++[z]) (c++[x]):=by
 have hno:∀ p∈kvL N c,decide (p.1=(.inr z:Key))=false:=by intro p hp;unfold kvL at hp;obtain⟨j,hj,ej⟩:=List.mem_iff_getElem.mp hp;rw[List.getElem_zipWith] at ej;subst ej;refine decide_eq_false λ e=>hz ?_;have:N[j]'(by simp at hj;omega)=z:=Sum.inr.inj e;exact this ▸ List.getElem_mem _
 unfold mE;rw[if_neg (by rw[Bool.not_eq_true,List.any_eq_false];intro p hp;simpa using hno p hp)];unfold kvL;rw[List.zipWith_append hn];rfl
theorem oX(S:Sh)(u:List Int):(kvL (nmL S) u).length<=S.length:=by simp[kvL,nmL];omega
abbrev FD(q r:Addr)(t:Int)(v:W):List (Str×W):=[("asks_waiting",.m q),("owner_round",.m r),("next_slot",.d (.int t)),("number_led",v)]
section
variable {q r:Addr}{t:Int}{v:W}
theorem abx:(FD q r t v).lookup ("asks_waiting" : Str)=some (.m q):=rfl
theorem ahV:(FD q r t v).lookup ("owner_round" : Str)=some (.m r):=rfl
theorem ahC:(FD q r t v).lookup ("next_slot" : Str)=some (.d (.int t)):=rfl
theorem aiE:(FD q r t v).lookup ("number_led" : Str)=some v:=rfl
theorem ail:(FD q r t v).lookup ("number_next" : Str)=none:=rfl
theorem aeZ:(FD q r t v).lookup ("begin" : Str)=none:=rfl
theorem ady:(FD q r t v).lookup ("new_shares" : Str)=none:=rfl
theorem aeI:(FD q r t v).lookup ("waits" : Str)=none:=rfl
theorem adO:(FD q r t v).lookup ("is_waited_at" : Str)=none:=rfl
theorem afV:(FD q r t v).lookup ("owner" : Str)=none:=rfl
theorem ag7:(FD q r t v).lookup ("ask" : Str)=none:=rfl
theorem afg:(FD q r t v).lookup ("slot" : Str)=none:=rfl
theorem af5:(FD q r t v).lookup ("use" : Str)=none:=rfl
end
structure Dr(M:MH)(S:Sh)(d q r:Addr)(u:List Int)(t:Int)(v:W):Prop where
 hd:M d=some (.ins ak (FD q r t v))
 hq:M q=some (.dic (kvL (nmL S) u))
 hr:M r=some (.lst (cN (rw0 S (wn S))))
 lu:u.length=S.length
section
variable {M:MH}{S:Sh}{d q r:Addr}{u:List Int}{t:Int}{v:W}
theorem Dr.nq(h:Dr M S d q r u t v):d≠q:=gy h.hd h.hq nofun
theorem Dr.nr(h:Dr M S d q r u t v):d≠r:=gy h.hd h.hr nofun
theorem Dr.qr(h:Dr M S d q r u t v):q≠r:=gy h.hq h.hr nofun
theorem Dr.ext{M':MH}(h:Dr M S d q r u t v)(x:Ext M M'):Dr M' S d q r u t v:=⟨x _ _ h.hd,x _ _ h.hq,x _ _ h.hr,h.lu⟩
theorem Dr.get(h:Dr M S d q r u t v)(hO:OkS S){i:Nat}{z:Str}(hz:(nmL S)[i]? =some z):eL (kvL (nmL S) u) (.inr z)=some (.d (.int (cv u i))):=
 iA hO.nd hz (oF (by rw[h.lu];have:=(List.getElem?_eq_some_iff.mp hz).1;simpa [nmL] using this))
end
def aZ:SpD:=λ ws M Q=>∃ (d q r:Addr) (t:Int) (v:W),ws=[.m d]/\M d=some (.ins ak (FD q r t v))/\Q (.d .none) (aE M d (.ins ak (FD q r 0 v)))
theorem mG:∀ ws M Q,aZ ws M Q->ws.length=1:=by rintro ws M Q ⟨d,q,r,t,v,rfl,_⟩;rfl
theorem kJ:∀ ws M Q,aZ ws M Q->jR {nx:=λ _ M'=>Q (.d .none) M',rt:=Q} (aX jZ ws) M:=by
 rintro ws M Q ⟨d,q,r,t,v,rfl,hd,k⟩;exact⟨_,rfl,d,_,rfl,hd,(by show 4<1000;decide),k⟩
inductive eU(ws:List W) (M:MH) (Q:QD):Prop
 | mk (S:Sh) (d q r:Addr) (t:Int) (v:W) (kvs:List (Key×W)) (u:List Int) (z0:ws=[.m d,.d (shD S)]) (z1:OkS S) (z2:M aw=some cdR) (z3:M d=some (.ins ak (FD q r t v))) (z4:M q=some (.dic kvs)) (z5:u.length=S.length) (z6:(∀ i z,(nmL S)[i]? =some z->(eL kvs (.inr z)).getD (.d (.int 0))=.d (.int (cv u i)))) (z7:∀ q' r' M',M q'=none->M r'=none->Dr M' S d q' r' u 0 v->Fr M M' d->Q (.d .none) M'):eU ws M Q
def ax:SpD:=eU
theorem iG:∀ ws M Q,ax ws M Q->ws.length=2:=by rintro ws M Q ⟨S,d,q,r,t,v,kvs,u,rfl,_⟩;rfl
theorem ie:∀ ws M Q,ax ws M Q->fj bo cq aZ {nx:=λ _ M'=>Q (.d .none) M',rt:=Q} (aX fu ws) M:=by
 rintro ws M Q ⟨S,d,q,r,t,v,kvs,u,rfl,hO,hC,hd,hq,lu,hu,k⟩;have sl:=s16;have h4:=hO.len;have nd:(nmL S).Nodup:=hO.nd;have nl:(nmL S).length=S.length:=by simp[nmL]
 refine⟨_,rfl,S,rfl,hO,_,rfl,_,rfl,λ p hp=>?_⟩;have pd:d≠p:=ay hd hp;refine⟨λ i τ M'=>M'=aE M p (.dic (kvL ((nmL S).take i) (u.take i)))/\∃ x y,τ=[x,y,some (.m d)],⟨rfl,_,_,rfl⟩,?_,?_⟩
 ·rintro i w τ M' hw ⟨rfl,x,y,rfl⟩;rw[List.map_map] at hw;obtain⟨r',hr,rfl⟩:=c5 hw;have hi:=(List.getElem?_eq_some_iff.mp hr).1;obtain⟨hn,_⟩:=kb hr;refine⟨_,rfl,rfl,_,_,rfl,_,_,rfl,rfl,_,rfl,_,rfl,d,_,_,rfl,cF hd hp,abx,.k (cF hq hp),_,rfl,_,.k (k:=.inr r'.1) (cF hq hp),_,.inr r'.1,ab,rfl,?_,?_,_,_,rfl⟩
  ·have:(kvL ((nmL S).take i) (u.take i)).length<=i:=by simp[kvL];omega
   omega
  ·have ht:(nmL S).take (i+1)=(nmL S).take i++[r'.1]:=by rw[List.take_succ,hn];rfl
   have hu':u.take (i+1)=u.take i++[cv u i]:=by rw[List.take_succ,oF (by omega)];rfl
   rw[iX,hu i r'.1 hn,yH (by rw[List.length_take,List.length_take];omega) (lI nd hn),ht,hu']
 rintro τ M1 ⟨e1,x,y,rfl⟩;have hp1:M1 p=some (.dic (kvL (nmL S) u)):=by rw[e1,ab];have e2:(nmL S).take ((S.map bZ).map W.d).length=nmL S:=List.take_of_length_le (by simp[nmL]);have e3:u.take ((S.map bZ).map W.d).length=u:=List.take_of_length_le (by simp[lu]);rw[e2,e3]
 have x1:Ext M M1:=by rw[e1];exact Ext.new hp
 refine⟨_,rfl,d,_,rfl,x1 _ _ hd,(by show 4<1000;decide),?_⟩;have hC1:(aE M1 d (.ins ak (FD p r t v))) aw=some cdR:=by rw[ae (gy hC hd nofun)];exact x1 _ _ hC
 refine⟨_,rfl,S,rfl,hO,hC1,λ a M3 ha ma x3=>?_⟩;have hd3:M3 d=some (.ins ak (FD p r t v)):=x3 _ _ ab;have hp3:M3 p=some (.dic (kvL (nmL S) u)):=x3 _ _ (by rw[ae (Ne.symm pd)];exact hp1);have ad:a≠d:=λ e=>by rw[e] at ha;exact absurd (ab.symm.trans ha) nofun
 refine⟨_,rfl,d,_,rfl,hd3,(by show 4<1000;decide),?_⟩;refine⟨_,rfl,d,_,rfl,ab,aeZ (q:=p) (r:=a) (t:=t) (v:=v),d,p,a,t,v,rfl,ab,?_⟩;refine k p a _ hp (x1.none (by rw[ae ad] at ha;exact ha)) ⟨ab,?_,?_,lu⟩ λ b o n e=>?_
 ·rw[ae (Ne.symm pd),ae (Ne.symm pd)];exact hp3
 ·rw[ae ad,ae ad];exact ma
 ·rw[ae n,ae n];exact x3 _ _ (by rw[ae n];exact x1 _ _ e)
def pH:SpD:=λ ws M Q=>∃ (S:Sh) (d:Addr),ws=[.m d,.d (shD S)]/\OkS S/\M aw=some cdR/\M d=some (.ins ak [])/\∀ q r M',M q=none->M r=none->Dr M' S d q r (List.replicate S.length 0) 0 (.d .none)->Fr M M' d->Q (.d .none) M'
def o6:SpD:=λ ws M Q=>∃ (d:Addr),ws=[.m d,.d .none]/\M d=some (.ins ak [])/\∀ q r M',M q=none->M r=none->Dr M' [] d q r [] 0 (.d .none)->Fr M M' d->Q (.d .none) M'
def bC:SpD:=λ ws M Q=>pH ws M Q\/o6 ws M Q
theorem pj:∀ ws M Q,bC ws M Q->ws.length=2:=by rintro ws M Q (⟨S,d,rfl,_⟩ | ⟨d,rfl,_⟩)<;>rfl
theorem mN:∀ ws M Q,bC ws M Q->l4 ax {nx:=λ _ M'=>Q (.d .none) M',rt:=Q} (aX lS ws) M:=by
 rintro ws M Q (⟨S,d,rfl,hO,hC,hd,k⟩ | ⟨d,rfl,hd,k⟩)
 case inr =>
  refine λ p hp=>⟨_,rfl,d,_,rfl,cF hd hp,by decide,few (by simp),λ a ha=>⟨_,rfl,d,_,rfl,cF ab ha,(by show 1<1000;decide),?_⟩⟩;refine⟨_,rfl,d,_,rfl,ab,(by show 2<1000;decide),_,rfl,d,_,rfl,ab,(by show 3<1000;decide),?_⟩;have pd:d≠p:=ay hd hp;have ha':aE (aE M p (.dic [])) d (.ins ak (aab "asks_waiting" (.m p) [])) a=none:=ha;have ad:a≠d:=λ e=>by rw[e,ab] at ha';cases ha'
  have ap:a≠p:=λ e=>by rw[ae (e ▸ pd.symm),e,ab] at ha';cases ha'
  have haM:M a=none:=by rw[ae ad,ae ap] at ha';exact ha'
  refine⟨_,rfl,rfl,_,rfl,hU ?_⟩;refine k p a _ hp haM ⟨ab,?_,?_,rfl⟩ λ b o n e=>?_
  ·rw[ae pd.symm,ae pd.symm,ae pd.symm,ae ap.symm,ae pd.symm,ab];rfl
  ·rw[ae ad,ae ad,ae ad,ab];rfl
  ·rw[ae n,ae n,ae n,ae (ay e haM),ae n,ae (ay e hp)];exact e
 refine λ p hp=>⟨_,rfl,d,_,rfl,cF hd hp,by decide,few (by simp),λ a ha=>⟨_,rfl,d,_,rfl,cF ab ha,(by show 1<1000;decide),?_⟩⟩;refine⟨_,rfl,d,_,rfl,ab,(by show 2<1000;decide),_,rfl,d,_,rfl,ab,(by show 3<1000;decide),?_⟩;have pd:d≠p:=ay hd hp;have ha':aE (aE M p (.dic [])) d (.ins ak (aab "asks_waiting" (.m p) [])) a=none:=ha;have ad:a≠d:=λ e=>by rw[e,ab] at ha';cases ha'
 have ap:a≠p:=λ e=>by rw[ae (e ▸ pd.symm),e,ab] at ha';cases ha'
 have haM:M a=none:=by rw[ae ad,ae ap] at ha';exact ha'
 have cd:aw≠d:=gy hC hd nofun;have cp:aw≠p:=ay hC hp;have ca:aw≠a:=ay hC haM;refine⟨_,rfl,rfl,_,rfl,mF ?_⟩;refine⟨_,rfl,d,_,rfl,ab,ady (q:=p) (r:=a) (t:=0) (v:=.d .none),_,rfl,S,d,p,a,0,.d .none,[],List.replicate S.length 0,rfl,hO,?_,ab,?_,by simp,λ i z _=>?_,λ q' r' M' hq' hr' hD hF=>k q' r' M' ?_ ?_ hD λ b o n e=>hF b o n ?_⟩
 ·rw[ae cd,ae cd,ae cd,ae ca,ae cd,ae cp];exact hC
 ·rw[ae pd.symm,ae pd.symm,ae pd.symm,ae ap.symm,ae pd.symm,ab]
 ·have:cv (List.replicate S.length 0) i=0:=yZ S i;rw[this];rfl
 ·cases e:M q' with
  | none=>rfl
  | some o =>
   have n:q'≠d:=λ z=>by rw[z] at hq';exact absurd (ab.symm.trans hq') nofun
   rw[ae n,ae n,ae n,ae (ay e haM),ae n,ae (ay e hp),e] at hq';cases hq'
 ·cases e:M r' with
  | none=>rfl
  | some o =>
   have n:r'≠d:=λ z=>by rw[z] at hr';exact absurd (ab.symm.trans hr') nofun
   rw[ae n,ae n,ae n,ae (ay e haM),ae n,ae (ay e hp),e] at hr';cases hr'
 ·rw[ae n,ae n,ae n,ae (ay e haM),ae n,ae (ay e hp)];exact e
inductive i5(ws:List W) (M:MH) (Q:QD):Prop
 | mk (S:Sh) (d q r:Addr) (u:List Int) (t:Int) (v:W) (i:Nat) (z:Str) (z0:ws=[.m d,.d (.str z)]) (z1:OkS S) (z2:Dr M S d q r u t v) (z3:(nmL S)[i]? =some z) (z4:Q (.d (.int (cv u i))) M):i5 ws M Q
def a6:SpD:=i5
theorem mH:∀ ws M Q,a6 ws M Q->ws.length=2:=by rintro ws M Q ⟨S,d,q,r,u,t,v,i,z,rfl,_⟩;rfl
theorem lM{S:Sh}(hO:OkS S){i:Nat}{z:Str}(hz:(nmL S)[i]? =some z):wd z=true:=by obtain⟨r,hr,e⟩:=List.mem_map.mp (List.mem_of_getElem? hz);rw[<- e];exact(hO.row r hr).1
theorem lQ:∀ ws M Q,a6 ws M Q->jU bL {nx:=λ _ M'=>Q (.d .none) M',rt:=Q} (aX j4 ws) M:=by
 rintro ws M Q ⟨S,d,q,r,u,t,v,i,z,rfl,hO,H,hz,k⟩;refine⟨_,rfl,z,rfl,lM hO hz,_,rfl,hU ⟨_,rfl,_,rfl,d,_,_,rfl,H.hd,abx,_,.k (k:=.inr z) H.hq,_,rfl,?_⟩⟩;have g:=H.get hO hz;rw[g];exact hU ⟨_,rfl,d,_,_,rfl,H.hd,abx,_,rfl,q,_,.inr z,_,rfl,.inl H.hq,rfl,g,k⟩
def lin(n c:Int):Int:=if 0 > (if 40-c<n then 40-c else n) then 0 else (if 40-c<n then 40-c else n)
inductive kB(ws:List W) (M:MH) (Q:QD):Prop
 | mk (S:Sh) (d q r:Addr) (u:List Int) (t:Int) (v:W) (i:Nat) (z:Str) (n:Int) (z0:ws=[.m d,.d (.str z),.d (.int n)]) (z1:OkS S) (z2:Dr M S d q r u t v) (z3:(nmL S)[i]? =some z) (z4:Q (.d (.int (lin n (cv u i)))) (aE M q (.dic (kvL (nmL S) (u.set i (cv u i+lin n (cv u i))))))):kB ws M Q
def cn:SpD:=kB
theorem rF:∀ ws M Q,cn ws M Q->ws.length=3:=by rintro ws M Q ⟨S,d,q,r,u,t,v,i,z,n,rfl,_⟩;rfl
theorem oR:∀ ws M Q,cn ws M Q->mY a6 {nx:=λ _ M'=>Q (.d .none) M',rt:=Q} (aX nB ws) M:=by
 rintro ws M Q ⟨S,d,q,r,u,t,v,i,z,n,rfl,hO,H,hz,k⟩;have sl:=s16;have h4:=hO.len;refine⟨_,rfl,_,rfl,d,_,rfl,H.hd,aeI,_,rfl,S,d,q,r,u,t,v,i,z,rfl,hO,H,hz,_,_,rfl,rfl,_,_,rfl,_,_,rfl,?_⟩;refine⟨_,rfl,d,_,_,rfl,H.hd,abx,_,rfl,q,_,.inr z,cv u i,rfl,rfl,H.hq,H.get hO hz,?_,_,rfl,_,rfl,rfl,_,rfl,?_⟩
 ·have:=oX S u;omega
 ·rw[lC (N:=nmL S) hO.nd (by rw[H.lu];simp[nmL]) hz];exact k
def aY:SpD:=λ ws M Q=>∃ (S:Sh) (d q r:Addr) (u:List Int) (t:Nat) (v:W),ws=[.m d]/\OkS S/\Dr M S d q r u t v/\Q (.d (.str (nmS S (own S t)))) M
theorem mI:∀ ws M Q,aY ws M Q->ws.length=1:=by rintro ws M Q ⟨S,d,q,r,u,t,v,rfl,_⟩;rfl
theorem lB:∀ ws M Q,aY ws M Q->jQ {nx:=λ _ M'=>Q (.d .none) M',rt:=Q} (aX jP ws) M:=by
 rintro ws M Q ⟨S,d,q,r,u,t,v,rfl,hO,H,k⟩;have wp:=rV hO;have hlt:t % wn S<wn S:=Nat.mod_lt _ (by omega);have hne:(cN (rw0 S (wn S))).isEmpty=false:=by
  cases e:cN (rw0 S (wn S)) with
  | nil=>have:=congrArg List.length e;simp[cN,rw0] at this;omega
  | cons _ _=>rfl
 refine⟨_,rfl,d,_,_,rfl,H.hd,ahV,_,.m H.hr,?_⟩;rw[hne];refine hU ?_;have el:aaP M (.m r)=some (wn S):=by simp only[aaP,H.hr];simp[cN,rw0]
 have ix:ixW M (.m r) ((t:Int) % ((wn S:Nat):Int))=some (.d (.str (nmS S (own S t)))):=by rw[show((t:Int) % ((wn S:Nat):Int))=((t % wn S:Nat):Int) from rfl,acL hO t];exact abC H.hr (ml (ae0 hlt))
 exact⟨_,rfl,d,_,_,rfl,H.hd,ahV,_,rfl,d,_,_,rfl,H.hd,ahC,_,rfl,d,_,_,rfl,H.hd,ahV,_,_,rfl,el,rfl,_,_,rfl,rfl,by omega,_,_,rfl,ix,rfl,k⟩
theorem oK:∀ {N:List Str} {u:List Int},N.length=u.length->(kvL N u).map (·.2)=cI u
 | [],[],_=>rfl
 | [],_::_,h=>by simp at h
 | _::_,[],h=>by simp at h
 | z::N,n::u,h=>by have ih:=oK (N:=N) (u:=u) (by simpa using h);show W.d (.int n)::(kvL N u).map (·.2)=W.d (.int n)::cI u;rw[ih]
theorem uS:∀ {N:List Str} {u:List Int},N.length=u.length->(kvL N u).map (·.1)=N.map Sum.inr
 | [],[],_=>rfl
 | [],_::_,h=>by simp at h
 | _::_,[],h=>by simp at h
 | z::N,n::u,h=>by have ih:=uS (N:=N) (u:=u) (by simpa using h);show(.inr z:Key)::(kvL N u).map (·.1)=(.inr z:Key)::N.map Sum.inr;rw[ih]
def aC:SpD:=λ ws M Q=>∃ (S:Sh) (d q r:Addr) (u:List Int) (t:Int) (v:W),ws=[.m d]/\Dr M S d q r u t v/\Q (.d (.bool (u.any λ n=>n != 0))) M
theorem gO:∀ ws M Q,aC ws M Q->ws.length=1:=by rintro ws M Q ⟨S,d,q,r,u,t,v,rfl,_⟩;rfl
theorem gj:∀ ws M Q,aC ws M Q->eF {nx:=λ _ M'=>Q (.d .none) M',rt:=Q} (aX er ws) M:=by
 rintro ws M Q ⟨S,d,q,r,u,t,v,rfl,H,k⟩;exact⟨_,rfl,d,_,_,rfl,H.hd,abx,q,_,u,rfl,H.hq,oK (by rw[H.lu];simp[nmL]),k⟩
def sC(n o:Nat):List Nat:=(List.range n).drop o++(List.range n).take o
theorem xK{n o k:Nat}(ho:o<n)(hk:k<n):(sC n o)[k]? =some ((o+k) % n):=by
 unfold sC
 by_cases h:o+k<n
 ·rw[List.getElem?_append_left (by simp;omega),List.getElem?_drop,List.getElem?_range (by omega),Nat.mod_eq_of_lt h]
 ·rw[List.getElem?_append_right (by simp;omega),List.length_drop,List.length_range,List.getElem?_take_of_lt (by omega),List.getElem?_range (by omega)];rw[Nat.mod_eq_sub_mod (by omega),Nat.mod_eq_of_lt (by omega)];congr 1;omega
theorem wX{n o:Nat}(ho:o<n):(sC n o).length=n:=by
 unfold sC;simp;omega
theorem ug:∀ {l:List Nat} {p:Nat->Bool} {k j:Nat},l[k]? =some j->p j=true->(∀ k',k'<k->∀ j',l[k']? =some j'->p j'=false)->(l.filter p)[0]? =some j
 | [],_,_,_,h,_,_=>by simp at h
 | a::l,p,0,j,h,hp,_=>by simp at h;subst h;rw[List.filter_cons_of_pos hp];rfl
 | a::l,p,k+1,j,h,hp,hn=>by have ha:=hn 0 (by omega) a rfl;rw[List.filter_cons_of_neg (by rw[ha];decide)];exact ug (by simpa using h) hp λ k' hk j' hj=>hn (k'+1) (by omega) j' (by simpa using hj)
def nmD(S:Sh)(j:Nat):PyData:=.str (nmS S j)
def nms(S:Sh):List PyData:=(List.range S.length).map (nmD S)
theorem afu(S:Sh):nms S=(nmL S).map PyData.str:=by
 refine List.ext_getElem (by simp[nms,nmL]) λ i h1 h2=>?_;have hi:i<S.length:=by simpa [nms] using h1
 have:=(kb (List.getElem?_eq_getElem hi)).2;simp[nms,nmD,nmL,this]
theorem abt{S:Sh}{j:Nat}(h:j<S.length):(nms S)[j]? =some (nmD S j):=by simp[nms,List.getElem?_map,List.getElem?_range h]
theorem iz{S:Sh}{j:Nat}(h:j<S.length):(nmL S)[j]? =some (nmS S j):=by have:=kb (List.getElem?_eq_getElem h);rw[this.1,this.2]
theorem ad8{S:Sh}(hO:OkS S){i j:Nat}(hi:i<S.length)(hj:j<S.length)(h:nmS S i=nmS S j):i=j:=by
 have hi':i<(nmL S).length:=by simpa [nmL] using hi
 exact(List.getElem?_inj hi' (show(nmL S).Nodup from hO.nd)).mp (by rw[iz hi,iz hj,h])
theorem abm{S:Sh}(hO:OkS S):okD 1 (.list (nms S))=true:=by simp only[okD];refine m9 λ d hd=>?_;obtain⟨j,hj,rfl⟩:=List.mem_map.mp hd;have hj':=List.mem_range.mp hj;simp only[nmD,okD];exact uF (lM hO (iz hj'))
theorem afx{S:Sh}(hO:OkS S){j:Nat}(h:j<S.length):aen (nmD S j) (nms S)=true:=by
 have h1:okD 0 (nmD S j)=true:=by simp only[nmD,okD];exact uF (lM hO (iz h))
 simp only[aen,jk (by decide) h1,jk (by decide) (abm hO),Bool.and_self]
theorem wQ(S:Sh){o:Nat}(ho:o<S.length):D.cutD (nms S) (some (o:Int)) none++D.cutD (nms S) none (some (o:Int))=(sC S.length o).map (nmD S):=by rw[zY (by omega),pJ (by simp[nms];omega)];unfold nms sC;rw[<- List.map_drop,<- List.map_take,<- List.map_append];rfl
inductive lN(ws:List W) (M:MH) (Q:QD):Prop
 | mk (S:Sh) (d q r:Addr) (u:List Int) (t:Nat) (v:W) (z0:ws=[.m d]) (z1:OkS S) (z2:Dr M S d q r u t v) (z3:(∀ i,0<=cv u i)) (z4:(((∀ i,cv u i=0)/\Q (.d .none) M)\/∃ k j,k<S.length/\j=(own S t+k) % S.length/\0<cv u j/\(∀ k',k'<k->cv u ((own S t+k') % S.length)=0)/\∀ M',M' d=some (.ins ak (FD q r ((t+1:Nat):Int) v))->M' q=some (.dic (kvL (nmL S) (u.set j (cv u j-1))))->(∀ b o,b≠d->b≠q->M b=some o->M' b=some o)->Q (.d (.str (nmS S j))) M')):lN ws M Q
def bA:SpD:=lN
theorem sf:∀ ws M Q,bA ws M Q->ws.length=1:=by rintro ws M Q ⟨S,d,q,r,u,t,v,rfl,_⟩;rfl
theorem abf{u:List Int}(h:∀ i,cv u i=0):(u.any λ n=>n != 0)=false:=by rw[List.any_eq_false];intro n hn;obtain⟨i,hi,rfl⟩:=List.getElem_of_mem hn;have:=h i;simp[cv,List.getD,List.getElem?_eq_getElem hi] at this;simp[this]
theorem yM{u:List Int}{j:Nat}(h:0<cv u j):(u.any λ n=>n != 0)=true:=by
 rw[List.any_eq_true]
 by_cases hj:j<u.length
 ·refine⟨u[j],List.getElem_mem hj,?_⟩;have:cv u j=u[j]:=by simp[cv,List.getD,List.getElem?_eq_getElem hj]
  simp;omega
 ·have:cv u j=0:=by simp[cv,List.getD,List.getElem?_eq_none (by omega:u.length<=j)]
  omega
theorem oE:∀ ws M Q,bA ws M Q->nP aC aY {nx:=λ _ M'=>Q (.d .none) M',rt:=Q} (aX nF ws) M:=by
 rintro ws M Q ⟨S,d,q,r,u,t,v,rfl,hO,H,h0,k⟩;have sl:=s16;have h4:=hO.len;refine⟨_,rfl,d,_,rfl,H.hd,adO,S,d,q,r,u,t,v,rfl,H,_,rfl,?_⟩;rcases k with ⟨hz,k⟩ | ⟨k,j,hk,hj,hp,hn,kk⟩
 ·rw[abf hz];exact mF k
 rw[yM hp];refine hU ?_;have ho:=rG hO t;have hjn:j<S.length:=by rw[hj];exact Nat.mod_lt _ (by omega)
 refine⟨_,rfl,d,_,_,rfl,H.hd,abx,q,_,nmL S,rfl,H.hq,uS (by rw[H.lu];simp[nmL]),λ p hp'=>?_⟩;have en:cN (nmL S)=(nms S).map W.d:=by rw[afu,List.map_map];rfl
 refine⟨p,nms S,rfl,by rw[ab,en],?_⟩;have x1:Ext M (ik (aE M p (.lst (cN (nmL S)))) p):=sealed hp';generalize ik (aE M p (.lst (cN (nmL S)))) p=M1 at x1;have H1:=H.ext x1;have ok:=abm hO;refine⟨_,rfl,nms S,rfl,_,rfl,d,_,rfl,H1.hd,afV,S,d,q,r,u,t,v,rfl,hO,H1,nmD S (own S t),own S t,rfl,?_,⟨by simpa [nms] using ho,λ y hy=>?_,λ m y hm hy=>?_⟩,by omega,?_⟩
 ·exact afx hO ho
 ·rw[abt ho] at hy;cases hy;simp[nmD]
 ·rw[abt (by omega)] at hy;cases hy;simp only[nmD,ux];exact decide_eq_false λ e=>by have:=ad8 hO (by omega) ho e;omega
 refine⟨_,rfl,_,rfl,_,rfl,_,rfl,rfl,_,rfl,_,rfl,_,rfl,_,rfl,rfl,_,_,.d,.d,?_,_,rfl,?_⟩
 ·have a1:(D.cutD (nms S) (some ((own S t:Nat):Int)) none++D.cutD (nms S) none (some ((own S t:Nat):Int))).length=S.length:=by rw[wQ S ho,List.length_map,wX ho]
  rw[List.length_append] at a1;omega
 rw[wQ S ho];have get:∀ {i},i<S.length->eL (kvL (nmL S) u) (.inr (nmS S i))=some (.d (.int (cv u i))):=λ hi=>H.get hO (iz hi);refine⟨λ i acc τ M'=>M'=M1/\acc=(((sC S.length (own S t)).take i).filter λ j=>decide (0<cv u j)).map (nmD S)/\∃ x,τ=[x,some (.m d)],⟨rfl,rfl,_,rfl⟩,?_,?_⟩
 ·rintro i w acc τ M' hw ⟨rfl,rfl,x,rfl⟩;rw[List.map_map] at hw;obtain⟨j',hj',rfl⟩:=c5 hw;have hi:=(List.getElem?_eq_some_iff.mp hj').1;rw[wX ho] at hi;have hjn':j'<S.length:=by rw[xK ho hi] at hj';cases hj';exact Nat.mod_lt _ (by omega)
  have ht:(sC S.length (own S t)).take (i+1)=(sC S.length (own S t)).take i++[j']:=by rw[List.take_succ,hj'];rfl
  refine⟨?_,_,rfl,d,_,_,rfl,H1.hd,abx,_,rfl,q,_,.inr (nmS S j'),_,rfl,.inl H1.hq,rfl,get hjn',_,_,rfl,rfl,_,rfl,?_⟩
  ·rw[List.length_map];have:=List.length_filter_le (λ j=>decide (0<cv u j)) ((sC S.length (own S t)).take i);rw[List.length_take] at this;omega
  refine df (λ h=>?_) (λ h=>?_)
  ·refine⟨_,rfl,_,rfl,rfl,?_,_,rfl⟩;have e1:([j'].filter λ j=>decide (0<cv u j))=[j']:=by simp only[List.filter,h]
   rw[ht,List.filter_append,List.map_append,e1];rfl
  ·refine⟨rfl,?_,_,rfl⟩;have e1:([j'].filter λ j=>decide (0<cv u j))=[]:=by simp only[List.filter,h]
   rw[ht,List.filter_append,e1,List.append_nil]
 rintro acc τ M' ⟨rfl,rfl,x,rfl⟩;have el:(sC S.length (own S t)).take (((sC S.length (own S t)).map (nmD S)).map W.d).length=sC S.length (own S t):=List.take_of_length_le (by simp);rw[el];have hf:((sC S.length (own S t)).filter λ j=>decide (0<cv u j))[0]? =some j:=ug (k:=k) (by rw[hj];exact xK ho hk) (decide_eq_true hp) λ k' hk' j' hj'=>by rw[xK ho (by omega)] at hj';cases hj';rw[hn k' hk'];rfl
 have ix:∀ M2,ixW M2 (.d (.list (((sC S.length (own S t)).filter λ j=>decide (0<cv u j)).map (nmD S)))) 0=some (.d (nmD S j)):=λ M2=>afO (i:=0) rfl hf;refine⟨_,rfl,d,_,_,rfl,H1.hd,abx,_,rfl,0,_,rfl,ix _,rfl,q,_,.inr (nmS S j),cv u j,rfl,rfl,H1.hq,get hjn,?_,1,rfl,rfl,?_⟩
 ·have:=oX S u;omega
 rw[lC (N:=nmL S) hO.nd (by rw[H.lu];simp[nmL]) (iz hjn)];have hd2:∀ o,aE M' q o d=some (.ins ak (FD q r t v)):=λ o=>by rw[ae H.nq];exact H1.hd
 refine⟨_,rfl,d,_,_,rfl,hd2 _,ahC,1,_,rfl,hd2 _,(by show 4<1000;decide),_,rfl,0,_,rfl,ix _,rfl,?_⟩;refine kk _ ab ?_ λ b o n1 n2 e=>?_
 ·rw[ae H.nq.symm,ab]
 ·rw[ae n1,ae n2];exact x1 _ _ e
theorem dP(i j:Int):fh (.int i) (.int j)=true:=by simp[fh,rH,SeqAt.shaped,PyData.canLay0,PyData.depth,PyData.hasDict]
theorem bY{M:MH}{p b:Addr}{o:MO}(hb:Bag M p)(h:M b=some o)(hn:∀ ws,o ≠ .lst ws):b≠p:=by obtain⟨_,_,_,_,e,_⟩:=hb;intro z;rw[z,e] at h;exact hn _ (Option.some.inj h).symm
theorem lg{M:MH}{S:Sh}{p d q r:Addr}{u:List Int}{t:Int}{v:W}(hb:Bag M p)(H:Dr M S d q r u t v):r≠p:=by
 obtain⟨a,b,c,ns,e,_⟩:=hb;intro z;have:=H.hr;rw[z,e] at this;have e2:=MO.lst.inj (Option.some.inj this);cases hL:rw0 S (wn S) with
 | nil=>rw[hL] at e2;simp[cN] at e2
 | cons x xs=>rw[hL] at e2;simp[cN] at e2
def kdL(N:List Str)(u:List Int):List (Key×PyData):=List.zipWith (λ z n=>((.inr z:Key),.int n)) N u
theorem xP:∀ (N:List Str) (u:List Int),kvL N u=gZ (kdL N u)
 | [],_=>by simp[kvL,kdL,gZ]
 | _::_,[]=>by simp[kvL,kdL,gZ]
 | z::N,n::u=>by have ih:=xP N u;show((.inr z:Key),W.d (.int n))::kvL N u=((.inr z:Key),W.d (.int n))::gZ (kdL N u);rw[ih]
theorem afn{S:Sh}{u:List Int}(lu:u.length=S.length){i:Nat}(hi:i<S.length):(kdL (nmL S) u)[i]? =some (.inr (nmS S i),.int (cv u i)):=by
 unfold kdL;rw[List.getElem?_zipWith,iz hi,oF (by omega)]
theorem adD{S:Sh}{u:List Int}(lu:u.length=S.length):(kdL (nmL S) u).length=S.length:=by
 unfold kdL;rw[List.length_zipWith];simp[nmL,lu]
abbrev mK(S:Sh)(w h:Addr)(t l:Int):List (Key×W):=[(.inr "shares",.d (shD S)),(.inr "waits",.m w),(.inr "had",.m h),(.inr "slot",.d (.int t)),(.inr "last",.d (.int l))]
section
variable {S S':Sh}{w h w' h':Addr}{t t' l l':Int}
theorem mO:eL (mK S w h t l) (.inr "shares")=some (.d (shD S)):=rfl
theorem xW:eL (mK S w h t l) (.inr "waits")=some (.m w):=rfl
theorem aho:eL (mK S w h t l) (.inr "had")=some (.m h):=rfl
theorem ahA:eL (mK S w h t l) (.inr "slot")=some (.d (.int t)):=rfl
theorem aiL:eL (mK S w h t l) (.inr "last")=some (.d (.int l)):=rfl
theorem aiN:mE (mK S w h t l) (.inr "last") (.d (.int l'))=mK S w h t l':=rfl
end
theorem ahe{S S':Sh}{w h w':Addr}{t l:Int}:qS (mK S w h t l) [(.inr "shares",.d (shD S')),(.inr "waits",.m w')]=mK S' w' h t l:=rfl
structure Mo(M:MH)(S:Sh)(m w h:Addr)(u:List Int)(t:Nat)(l:Int):Prop where
 hm:M m=some (.dic (mK S w h (t:Int) l))
 hw:M w=some (.dic (kvL (nmL S) u))
 hh:M h=some (.lst (cI (st S t)))
 lu:u.length=S.length
 ne:m≠w
section
variable {M M':MH}{S:Sh}{m w h:Addr}{u:List Int}{t:Nat}{l:Int}
theorem Mo.keep(H:Mo M S m w h u t l)(f:∀ b o,b=m\/b=w\/b=h->M b=some o->M' b=some o):Mo M' S m w h u t l:=⟨f _ _ (.inl rfl) H.hm,f _ _ (.inr (.inl rfl)) H.hw,f _ _ (.inr (.inr rfl)) H.hh,H.lu,H.ne⟩
theorem Mo.get(H:Mo M S m w h u t l)(hO:OkS S){i:Nat}{z:Str}(hz:(nmL S)[i]? =some z):eL (kvL (nmL S) u) (.inr z)=some (.d (.int (cv u i))):=
 iA hO.nd hz (oF (by rw[H.lu];have:=(List.getElem?_eq_some_iff.mp hz).1;simpa [nmL] using this))
theorem Mo.mh(H:Mo M S m w h u t l):m≠h:=gy H.hm H.hh nofun
theorem Mo.wh(H:Mo M S m w h u t l):w≠h:=gy H.hw H.hh nofun
theorem abH(hO:OkS S){M:MH}(hh:M h=some (.lst (cI (st S t)))){i:Nat}(hi:i<S.length):ixW M (.m h) (i:Int)=some (.d (.int (cv (st S t) i))):=by simp only[ixW,hh];refine ml ?_;unfold cI;rw[List.getElem?_map,oF (by rw[(ji hO t).len];exact hi)];rfl
theorem vf{M:MH}{i:Nat}{r:Str×Nat}(hr:S[i]? =some r):ixW M (.d (shD S)) (i:Int)=some (.d (bZ r)):=by
 unfold ixW shD;simp only;rw[ml (v:=bZ r) (by rw[List.getElem?_map,hr];rfl)];rfl
end
theorem agq{W s c:Int}(hs:0<s):due W s c=((c+1) * W-1) / s+1:=by
 have h:∀ T,due W s c<=T ↔ ((c+1) * W-1) / s+1<=T:=λ T=>by rw[agO hs];have:=Int.ediv_lt_iff_lt_mul (a:=(c+1) * W-1) (b:=T) hs;rw[Int.mul_comm s T];omega
 exact Int.le_antisymm ((h _).mpr (Int.le_refl _)) ((h _).mp (Int.le_refl _))
inductive ng(ws:List W) (M:MH) (Q:QD):Prop
 | mk (S:Sh) (m w h:Addr) (u:List Int) (t:Nat) (l:Int) (z0:ws=[.m m]) (z1:OkS S) (z2:Mo M S m w h u t l) (z3:Q (.d (.int (own S t:Nat))) M):ng ws M Q
def bJ:SpD:=ng
theorem sZ:∀ ws M Q,bJ ws M Q->ws.length=1:=by rintro ws M Q ⟨S,m,w,h,u,t,l,rfl,_⟩;rfl
inductive BeI(S:Sh) (t:Nat) (i:Nat):W->Prop
 | no (z:∀ j,j<i->¬ Rl S (st S t) t j):BeI S t i (.d .none)
 | yes (j:Nat) (z0:j<i) (z1:Rl S (st S t) t j) (z2:∀ k,k<i->Rl S (st S t) t k->Du S (st S t) j<=Du S (st S t) k/\(k<j->Du S (st S t) j<Du S (st S t) k)):BeI S t i (.d (.tuple [.int (Du S (st S t) j),.int (j:Nat)]))
theorem BeI.old{S:Sh}{t i:Nat}{w:W}(h:BeI S t i w)(hn:¬ Rl S (st S t) t i):BeI S t (i+1) w:=by
 cases h with
 | no z=>exact .no λ j hj=>if e:j=i then e ▸ hn else z j (by omega)
 | yes j z0 z1 z2=>exact .yes j (by omega) z1 λ k hk hr=>if e:k=i then absurd (e ▸ hr) hn else z2 k (by omega) hr
theorem BeI.first{S:Sh}{t i:Nat}(z:∀ j,j<i->¬ Rl S (st S t) t j)(hr:Rl S (st S t) t i):BeI S t (i+1) (.d (.tuple [.int (Du S (st S t) i),.int (i:Nat)])):=
 .yes i (by omega) hr λ k hk hrk=>if e:k=i then by subst e;exact⟨Int.le_refl _,λ z=>absurd z (Nat.lt_irrefl _)⟩ else absurd hrk (z k (by omega))
theorem BeI.new{S:Sh}{t i j:Nat}(z0:j<i)(z2:∀ k,k<i->Rl S (st S t) t k->Du S (st S t) j<=Du S (st S t) k/\(k<j->Du S (st S t) j<Du S (st S t) k))(hr:Rl S (st S t) t i)(hl:Du S (st S t) i<Du S (st S t) j):BeI S t (i+1) (.d (.tuple [.int (Du S (st S t) i),.int (i:Nat)])):=
 .yes i (by omega) hr λ k hk hrk=>if e:k=i then by subst e;exact⟨Int.le_refl _,λ z=>absurd z (Nat.lt_irrefl _)⟩ else by have:=(z2 k (by omega) hrk).1;exact⟨by omega,λ _=>by omega⟩
theorem BeI.same{S:Sh}{t i j:Nat}(z0:j<i)(z1:Rl S (st S t) t j)(z2:∀ k,k<i->Rl S (st S t) t k->Du S (st S t) j<=Du S (st S t) k/\(k<j->Du S (st S t) j<Du S (st S t) k))(hl:¬ Du S (st S t) i<Du S (st S t) j):BeI S t (i+1) (.d (.tuple [.int (Du S (st S t) j),.int (j:Nat)])):=
 .yes j (by omega) z1 λ k hk hrk=>if e:k=i then by subst e;exact⟨by omega,λ _=>by omega⟩ else z2 k (by omega) hrk
theorem rD:∀ ws M Q,bJ ws M Q->qV {nx:=λ _ M'=>Q (.d .none) M',rt:=Q} (aX sg ws) M:=by
 rintro ws M Q ⟨S,m,w,h,u,t,l,rfl,hO,H,k⟩;have sl:=s16;have wp:=rV hO;have h4:=hO.len;refine⟨_,rfl,m,_,.inr "shares",_,rfl,.inl H.hm,rfl,mO,_,rfl,?_⟩;rw[List.map_map];refine fN S (W.d ∘ bZ) (λ r=>.int (r.2:Nat)) (λ τ=>∃ x y,τ=[x,y]) (by omega) ⟨_,_,rfl⟩ (λ r hr τ hτ R h=>?_) (λ τ=>?_)
 ·obtain⟨x,y,rfl⟩:=hτ;exact⟨_,rfl,rfl,_,_,rfl,_,_,rfl,rfl,_,rfl,_,rfl,h _ ⟨_,_,rfl⟩⟩
 have es:(S.map λ r=>PyData.int ((r.2:Nat):Int))=(ss S).map PyData.int:=by simp[ss]
 refine⟨_,ss S,rfl,by rw[es];exact .d,by simp[ss];omega,λ n hn=>?_,?_⟩
 ·obtain⟨r,hr,rfl⟩:=List.mem_map.mp hn;have:=(hO.row r hr).2;omega
 rw[zy];refine⟨_,rfl,m,_,.inr "shares",_,rfl,.inl H.hm,rfl,mO,_,_,rfl,rfl,rfl,_,rfl,by omega,?_,?_⟩
 ·rw[List.length_map];omega
 rw[List.length_map];refine⟨λ i τ M'=>M'=M/\∃ b x3 x4 x5 x6,BeI S t i b/\τ=[some (.m m),some (.d (.int ((wn S:Nat):Int))),some b,x3,x4,x5,x6],⟨rfl,_,_,_,_,_,.no λ j hj=>absurd hj (Nat.not_lt_zero _),rfl⟩,?_,?_⟩
 ·rintro i w' τ M' hw ⟨rfl,b,x3,x4,x5,x6,hb,rfl⟩;obtain⟨hi,rfl⟩:=my hw;have hi:i<S.length:=by simpa using hi
  rw[Int.zero_add];obtain⟨r,hr⟩:∃ r,S[i]? =some r:=⟨_,List.getElem?_eq_getElem hi⟩;have hrow:=hO.row r (List.mem_of_getElem? hr);have hsv:=acT hr;refine⟨_,rfl,m,_,.inr "shares",_,rfl,.inl H.hm,rfl,mO,_,rfl,_,_,rfl,vf hr,rfl,1,_,rfl,rfl,rfl,?_⟩;refine⟨_,rfl,m,_,.inr "had",_,rfl,.inl H.hm,rfl,aho,_,rfl,_,_,rfl,abH hO H.hh hi,rfl,?_⟩;have cm:∀ z:Int,aer z ((wn S:Nat):Int):=λ z=>.inr ⟨by omega,by omega⟩;have cd:∀ z:Int,agX z ((r.2:Nat):Int):=λ z=>⟨by omega,by omega⟩;refine⟨_,rfl,.inl ⟨_,_,rfl,rfl,_,rfl,_,_,rfl,rfl,cm _,_,_,rfl,rfl,_,rfl,_,_,rfl,rfl,cd _,.inl ⟨_,_,rfl,rfl,?_⟩⟩⟩;have eD:((cv (st S t) i+1) * ((wn S:Nat):Int)-1) / ((r.2:Nat):Int)+1=Du S (st S t) i:=by
   unfold Du;rw[hsv,agq (by omega)]
  refine⟨_,rfl,_,rfl,_,_,rfl,rfl,cm _,_,rfl,_,_,rfl,rfl,cd _,_,rfl,m,_,.inr "slot",_,rfl,.inl H.hm,rfl,ahA,.inl ⟨_,_,rfl,rfl,_,rfl,?_⟩⟩;have eR:Rl S (st S t) t i ↔ cv (st S t) i * ((wn S:Nat):Int) / ((r.2:Nat):Int)<=(t:Int):=by unfold Rl;rw[hsv]
  refine df (λ hh=>?_) (λ hh=>?_)
  ·have hR:=eR.mpr (of_decide_eq_true hh);refine⟨_,rfl,rfl,_,rfl,?_⟩;cases hb with
   | no z =>
    have B:=BeI.first z hR
    rw[<- eD] at B;exact mF (mF ⟨_,rfl,_,rfl,_,rfl,few (by simp),rfl,_,_,_,_,_,B,rfl⟩)
   | yes j z0 z1 z2 =>
    refine hU ⟨_,rfl,_,rfl,0,_,rfl,rfl,rfl,_,_,rfl,rfl,_,rfl,df (λ hl=>?_) (λ hl=>?_)⟩
    ·have B:=BeI.new z0 z2 hR (by rw[<- eD];exact of_decide_eq_true hl);rw[<- eD] at B;exact⟨_,rfl,_,rfl,_,rfl,few (by simp),rfl,_,_,_,_,_,B,rfl⟩
    ·exact⟨rfl,_,_,_,_,_,.same z0 z1 z2 (by rw[<- eD];exact of_decide_eq_false hl),rfl⟩
  ·exact hU ⟨rfl,_,_,_,_,_,hb.old λ z=>of_decide_eq_false hh (eR.mp z),rfl⟩
 ·rintro τ M' ⟨rfl,b,x3,x4,x5,x6,hb,rfl⟩;have el:(ef 0 ((S.length:Nat):Int).toNat).length=S.length:=by simp[ef]
  rw[el] at hb;have B:=jg hO t;cases hb with
  | no z=>exact absurd B.2.1 (z _ B.1)
  | yes j z0 z1 z2 =>
   have ej:own S t=j:=adb ⟨z0,z1,z2⟩;refine⟨_,rfl,rfl,_,rfl,hU ⟨_,rfl,1,_,rfl,rfl,rfl,?_⟩⟩;rw[<- ej];exact k
def bQ:SpD:=λ ws M Q=>∃ (d q r:Addr) (t:Int) (v:W),ws=[.m d]/\M d=some (.ins ak (FD q r t v))/\Q (.d (.int t)) M
theorem oA:∀ ws M Q,bQ ws M Q->ws.length=1:=by rintro ws M Q ⟨d,q,r,t,v,rfl,_⟩;rfl
theorem mP:∀ ws M Q,bQ ws M Q->kE {nx:=λ _ M'=>Q (.d .none) M',rt:=Q} (aX kX ws) M:=by
 rintro ws M Q ⟨d,q,r,t,v,rfl,hd,k⟩;exact⟨_,rfl,d,_,_,rfl,hd,ahC,k⟩
inductive kH(ws:List W) (M:MH) (Q:QD):Prop
 | mk (S:Sh) (m w h:Addr) (u:List Int) (t:Nat) (l:Int) (i:Nat) (z:Str) (n:Int) (z0:ws=[.m m,.d (.str z),.d (.int n)]) (z1:OkS S) (z2:Mo M S m w h u t l) (z3:(nmL S)[i]? =some z) (z4:cv u i<=40) (z5:0<=n) (z6:Q (.d (.int (lin n (cv u i)))) (aE M w (.dic (kvL (nmL S) (u.set i (cv u i+lin n (cv u i))))))):kH ws M Q
def ck:SpD:=kH
theorem qY:∀ ws M Q,ck ws M Q->ws.length=3:=by rintro ws M Q ⟨S,m,w,h,u,t,l,i,z,n,rfl,_⟩;rfl
theorem oZ:∀ ws M Q,ck ws M Q->nY {nx:=λ _ M'=>Q (.d .none) M',rt:=Q} (aX nG ws) M:=by
 rintro ws M Q ⟨S,m,w,h,u,t,l,i,z,n,rfl,hO,H,hz,hu,hn,k⟩;have sl:=s16;have h4:=hO.len;have get:=H.get hO hz;have nl:(nmL S).length=u.length:=by rw[H.lu];simp[nmL]
 refine⟨_,rfl,_,rfl,m,_,.inr "waits",_,rfl,.inl H.hm,rfl,xW,_,rfl,w,_,.inr z,_,rfl,.inl H.hw,rfl,get,_,_,rfl,rfl,_,_,rfl,?_⟩;have el:(if 40-cv u i<n then 40-cv u i else n)=lin n (cv u i):=by
  unfold lin
  split<;>(rw[if_neg (by omega)])
 rw[el];refine⟨_,rfl,m,_,.inr "waits",_,rfl,.inl H.hm,rfl,xW,_,rfl,w,_,.inr z,_,rfl,.inl H.hw,rfl,get,_,rfl,.inl ⟨_,_,rfl,rfl,_,rfl,m,_,.inr "waits",_,rfl,.inl H.hm,rfl,xW,_,rfl,w,_,.inr z,rfl,H.hw,rfl,?_,?_⟩⟩
 ·have:=oX S u;omega
 refine⟨_,rfl,?_⟩;show Q (.d (.int (lin n (cv u i)))) (aE M w (.dic (mE (kvL (nmL S) u) (.inr z) (.d (.int (cv u i+lin n (cv u i)))))));rw[lC (N:=nmL S) hO.nd nl hz];exact k
def zz(S:Sh):List Int:=List.replicate S.length 0
theorem yT:∀ S:Sh,(S.map λ _=>PyData.int 0).map W.d=cI (st S 0)
 | []=>rfl
 | _::S=>by have:=yT S;show W.d (.int 0)::_=W.d (.int 0)::_;rw[this];rfl
theorem adP(S:Sh)(i:Nat):cv (zz S) i=0:=yZ S i
theorem Ext.none{M M':MH}{a:Addr}(x:Ext M M')(h:M' a=none):M a=none:=by
 cases e:M a with
 | none=>rfl
 | some o=>rw[x _ _ e] at h;cases h
inductive nX(ws:List W) (M:MH) (Q:QD):Prop
 | mk (S:Sh) (z0:ws=[.d (shD S)]) (z1:OkS S) (z2:∀ m w h M',M m=none->M w=none->M h=none->Mo M' S m w h (zz S) 0 0->Ext M M'->Q (.m m) M'):nX ws M Q
def cB:SpD:=nX
theorem tX:∀ ws M Q,cB ws M Q->ws.length=1:=by rintro ws M Q ⟨S,rfl,_⟩;rfl
theorem qQ:∀ ws M Q,cB ws M Q->qx {nx:=λ _ M'=>Q (.d .none) M',rt:=Q} (aX qo ws) M:=by
 rintro ws M Q ⟨S,rfl,hO,k⟩;have sl:=s16;have h4:=hO.len;refine λ m hm=>?_;refine⟨_,rfl,_,_,rfl,.l,λ f hf=>⟨f,S.map bZ,rfl,ab,?_⟩⟩;have x2:Ext (aE M m (.dic [])) (ik (aE (aE M m (.dic [])) f (.lst ((S.map bZ).map W.d))) f):=sealed hf;generalize ik (aE (aE M m (.dic [])) f (.lst ((S.map bZ).map W.d))) f=M2 at x2;refine λ w hw=>⟨_,rfl,_,rfl,?_⟩;rw[List.map_map];refine fN S (W.d ∘ bZ) (λ _=>.int 0) (λ τ=>∃ x,τ=[x]) (by omega) ⟨_,rfl⟩ (λ r hr τ hτ R h=>?_) (λ τ h hh=>?_)
 ·obtain⟨x,rfl⟩:=hτ;exact⟨_,rfl,h _ ⟨_,rfl⟩⟩
 rw[yT];have x0:Ext M (aE M m (.dic [])):=Ext.new hm;have x3:Ext M2 (aE M2 w (.dic [])):=Ext.new hw;have x4:Ext (aE M2 w (.dic [])) (aE (aE M2 w (.dic [])) h (.lst (cI (st S 0)))):=Ext.new hh;have m4:=x4 _ _ (x3 _ _ (x2 m _ ab));have w4:=x4 w _ ab;have h4':aE (aE M2 w (.dic [])) h (.lst (cI (st S 0))) h=some (.lst (cI (st S 0))):=ab;have mw:m≠w:=ay (x2 m _ ab) hw;have mh:m≠h:=ay (x3 _ _ (x2 m _ ab)) hh;have wh:w≠h:=ay (M:=aE M2 w (.dic [])) ab hh;have hwM:=(x0.trans x2).none hw;have hhM:=((x0.trans x2).trans x3).none hh;have x04:=((x0.trans x2).trans x3).trans x4;generalize aE (aE M2 w (.dic [])) h (.lst (cI (st S 0)))=M4 at m4 w4 h4' x04;refine⟨m4,mK S w h 0 0,rfl,(by show 5<=15;decide),(show([.inr "shares",.inr "waits",.inr "had",.inr "slot",.inr "last"]:List Key).Nodup from by decide +kernel),?_⟩;refine⟨_,rfl,_,rfl,?_⟩;refine⟨λ i τ M'=>M' w=some (.dic (kvL ((nmL S).take i) (List.replicate i 0)))/\(∀ b,b≠w->M' b=aE M4 m (.dic (mK S w h 0 0)) b)/\∃ x2 x3,τ=[some (.d (shD S)),some (.m m),x2,x3],⟨by rw[ae mw.symm];exact w4,λ _ _=>rfl,_,_,rfl⟩,?_,?_⟩
 ·rintro i w' τ M' hw' ⟨e1,e2,x2,x3,rfl⟩;rw[List.map_map] at hw';obtain⟨r,hr,rfl⟩:=c5 hw';have hi:=(List.getElem?_eq_some_iff.mp hr).1;obtain⟨hn,_⟩:=kb hr;refine⟨_,rfl,rfl,_,_,rfl,_,_,rfl,rfl,?_⟩;refine⟨_,rfl,m,_,.inr "waits",_,rfl,.inl (by rw[e2 m mw,ab]),rfl,xW,_,rfl,w,_,.inr r.1,rfl,e1,rfl,?_,?_,λ b hb=>?_,_,_,rfl⟩
  ·have:(kvL ((nmL S).take i) (List.replicate i 0)).length<=i:=by simp[kvL];omega
   omega
  ·have ht:(nmL S).take (i+1)=(nmL S).take i++[r.1]:=by rw[List.take_succ,hn];rfl
   rw[ab,u1 (N:=(nmL S).take i) (by rw[List.length_take];simp[nmL];omega) (lI hO.nd hn),ht]
  ·rw[ae hb];exact e2 b hb
 ·rintro τ M' ⟨e1,e2,x2,x3,rfl⟩;have et:(nmL S).take ((S.map bZ).map W.d).length=nmL S:=List.take_of_length_le (by simp[nmL]);rw[et] at e1;refine⟨_,rfl,k m w h M' hm hwM hhM ⟨by rw[e2 m mw,ab];rfl,?_,by rw[e2 h wh.symm,ae mh.symm];exact h4',by simp[zz],mw⟩ λ b o e=>?_⟩
  ·rw[e1];simp[zz]
  ·rw[e2 b (ay e hwM),ae (ay e hm)];exact x04 b o e
def bK:SpD:=λ ws M Q=>∃ (S:Sh) (m w h:Addr) (t l:Int),ws=[.m m]/\OkS S/\M m=some (.dic (mK S w h t l))/\∀ h' M',M h'=none->M' m=some (.dic (mK S w h' 0 l))->M' h'=some (.lst (cI (st S 0)))->Fr M M' m->Q (.d .none) M'
theorem tK:∀ ws M Q,bK ws M Q->ws.length=1:=by rintro ws M Q ⟨S,m,w,h,t,l,rfl,_⟩;rfl
theorem rR:∀ ws M Q,bK ws M Q->qT {nx:=λ _ M'=>Q (.d .none) M',rt:=Q} (aX rC ws) M:=by
 rintro ws M Q ⟨S,m,w,h,t,l,rfl,hO,hm,k⟩;have sl:=s16;have h4:=hO.len;refine⟨_,rfl,m,_,.inr "shares",_,rfl,.inl hm,rfl,mO,_,rfl,?_⟩;rw[List.map_map];refine fN S (W.d ∘ bZ) (λ _=>.int 0) (λ τ=>∃ x,τ=[x]) (by omega) ⟨_,rfl⟩ (λ r hr τ hτ R h=>?_) (λ τ h' hh=>?_)
 ·obtain⟨x,rfl⟩:=hτ;exact⟨_,rfl,h _ ⟨_,rfl⟩⟩
 rw[yT];have mh:=ay hm hh;refine⟨_,rfl,m,_,.inr "had",rfl,cF hm hh,rfl,(by show 5<sizeLine;omega),_,rfl,m,_,.inr "slot",rfl,ab,rfl,(by show 5<sizeLine;omega),?_⟩;refine k h' _ hh ab ?_ λ b o n e=>?_
 ·rw[ae mh.symm,ae mh.symm,ab]
 ·rw[ae n,ae n,ae (ay e hh)];exact e
theorem uG:∀ {u:List Int},(∀ i,cv u i=0)->u.sum=0
 | [],_=>rfl
 | a::u,h=>by have h0:a=0:=h 0;have:=uG (u:=u) λ i=>h (i+1);rw[List.sum_cons,h0,this];rfl
theorem abA:∀ {u:List Int},(∀ i,0<=cv u i)->0<=u.sum
 | [],_=>Int.le_refl _
 | a::u,h=>by have h0:0<=a:=h 0;have:=abA (u:=u) λ i=>h (i+1);rw[List.sum_cons];omega
theorem yh:∀ {u:List Int} {j:Nat},(∀ i,0<=cv u i)->0<cv u j->0<u.sum
 | [],j,_,h=>by simp[cv] at h
 | a::u,0,h,hj=>by have h0:0<a:=hj;have:=abA (u:=u) λ i=>h (i+1);rw[List.sum_cons];omega
 | a::u,j+1,h,hj=>by have h0:0<=a:=h 0;have:=yh (u:=u) (j:=j) (λ i=>h (i+1)) hj;rw[List.sum_cons];omega
theorem agK{S:Sh}(t:Nat):(cI (st S t)).set (own S t) (.d (.int (cv (st S t) (own S t)+1)))=cI (st S (t+1)):=by show _=cI ((st S t).set (pk S (st S t) t) (cv (st S t) (pk S (st S t) t)+1));unfold cI own;rw[List.map_set]
inductive uK(ws:List W) (M:MH) (Q:QD):Prop
 | mk (S:Sh) (m w h:Addr) (u:List Int) (t:Nat) (l:Int) (z0:ws=[.m m]) (z1:OkS S) (z2:Mo M S m w h u t l) (z3:(∀ i,0<=cv u i)) (z4:(((∀ i,cv u i=0)/\Q (.d .none) M)\/∃ k j,k<S.length/\j=(own S t+k) % S.length/\0<cv u j/\(∀ k',k'<k->cv u ((own S t+k') % S.length)=0) /\
   ∀ M',Mo M' S m w h (u.set j (cv u j-1)) (t+1) l->(∀ b o,b≠m->b≠w->b≠h->M b=some o->M' b=some o)->Q (.d (.str (nmS S j))) M')):uK ws M Q
def cM:SpD:=uK
theorem xx:∀ ws M Q,cM ws M Q->ws.length=1:=by rintro ws M Q ⟨S,m,w,h,u,t,l,rfl,_⟩;rfl
theorem vM:∀ ws M Q,cM ws M Q->yE bJ {nx:=λ _ M'=>Q (.d .none) M',rt:=Q} (aX wW ws) M:=by
 rintro ws M Q ⟨S,m,w,h,u,t,l,rfl,hO,H,h0,k⟩;have sl:=s16;have h4:=hO.len;refine⟨_,rfl,m,_,.inr "waits",_,rfl,.inl H.hm,rfl,xW,w,_,u,rfl,H.hw,oK (by rw[H.lu];simp[nmL]),_,_,.d,.d,dP _ _,_,rfl,?_⟩;rw[i7];rcases k with ⟨hz,k⟩ | ⟨kk,j,hk,hj,hp,hn,k⟩
 ·exact tG (decide_eq_true (uG hz)) k
 refine xg (decide_eq_false (by have:=yh h0 hp;omega)) ?_;refine⟨_,rfl,S,m,w,h,u,t,l,rfl,hO,H,?_⟩;have ho:=rG hO t;refine⟨_,rfl,m,_,.inr "had",_,rfl,.inl H.hm,rfl,aho,_,rfl,_,_,rfl,abH hO H.hh ho,rfl,.inl ⟨_,_,rfl,rfl,_,rfl,m,_,.inr "had",_,rfl,.inl H.hm,rfl,aho,_,rfl,h,_,_,own S t,rfl,rfl,H.hh,?_,?_⟩⟩
 ·rw[tM (by omega) (by simp[cI,(ji hO t).len];omega)];rfl
 show aQ _ _ _ _ (aE M h (.lst ((cI (st S t)).set (own S t) (.d (.int (cv (st S t) (own S t)+1))))));rw[agK];have hm1:aE M h (.lst (cI (st S (t+1)))) m=some (.dic (mK S w h t l)):=by rw[ae H.mh];exact H.hm
 refine⟨_,rfl,m,_,.inr "slot",_,rfl,.inl hm1,rfl,ahA,.inl ⟨_,_,rfl,rfl,_,rfl,m,_,.inr "slot",rfl,hm1,rfl,(by show 5<sizeLine;omega),?_⟩⟩;have H2:Mo (aE (aE M h (.lst (cI (st S (t+1))))) m (.dic (mK S w h ((t:Int)+1) l))) S m w h u (t+1) l:=
  ⟨ab,by rw[ae H.ne.symm,ae H.wh];exact H.hw,by rw[ae H.mh.symm,ab],H.lu,H.ne⟩
 have fr2:∀ b o,b≠m->b≠h->M b=some o->aE (aE M h (.lst (cI (st S (t+1))))) m (.dic (mK S w h ((t:Int)+1) l)) b=some o:=λ b o n1 n2 e=>by rw[ae n1,ae n2];exact e
 show aQ _ _ _ _ (aE (aE M h (.lst (cI (st S (t+1))))) m (.dic (mK S w h ((t:Int)+1) l)));generalize aE (aE M h (.lst (cI (st S (t+1))))) m (.dic (mK S w h ((t:Int)+1) l))=M2 at H2 fr2;refine⟨_,rfl,m,_,.inr "shares",_,rfl,.inl H2.hm,rfl,mO,_,_,rfl,rfl,rfl,?_⟩;rw[List.length_map];refine⟨_,rfl,_,rfl,by omega,by omega,?_⟩;refine⟨λ i τ M'=>M'=M2/\i<=kk/\∃ x3 x4,τ=[some (.m m),some (.d (.int (own S t:Nat))),some (.d (.int (S.length:Nat))),x3,x4],⟨rfl,Nat.zero_le _,_,_,rfl⟩,?_,?_⟩
 ·rintro i w' τ M' hw ⟨rfl,hik,x3,x4,rfl⟩;obtain⟨hi,rfl⟩:=my hw;rw[Int.zero_add];have hjn:(own S t+i) % S.length<S.length:=Nat.mod_lt _ (by omega);obtain⟨r,hr⟩:∃ r,S[(own S t+i) % S.length]? =some r:=⟨_,List.getElem?_eq_getElem hjn⟩;have hix:ixW M' (.d (shD S)) ((((own S t:Nat):Int)+(i:Int)) % ((S.length:Nat):Int))=some (.d (bZ r)):=by rw[show(((own S t:Nat):Int)+(i:Int)) % ((S.length:Nat):Int)=(((own S t+i) % S.length:Nat):Int) by simp];exact vf hr
  obtain⟨hnm,hns⟩:=kb hr;have get:=H2.get hO hnm;refine⟨_,rfl,m,_,.inr "shares",_,rfl,.inl H2.hm,rfl,mO,_,rfl,_,rfl,.inl ⟨_,_,rfl,rfl,_,rfl,_,_,rfl,rfl,by omega,_,_,rfl,hix,rfl,0,_,rfl,rfl,rfl,?_⟩⟩;refine⟨_,rfl,m,_,.inr "waits",_,rfl,.inl H2.hm,rfl,xW,_,rfl,w,_,.inr r.1,_,rfl,.inl H2.hw,rfl,get,_,_,rfl,rfl,_,rfl,?_⟩
  by_cases e:i=kk
  ·subst e;rw[<- hj];rw[<- hj] at hnm hns;refine tG (decide_eq_true hp) ?_;refine⟨_,rfl,m,_,.inr "waits",_,rfl,.inl H2.hm,rfl,xW,_,rfl,w,_,.inr r.1,_,rfl,.inl H2.hw,rfl,H2.get hO hnm,_,_,rfl,rfl,_,rfl,m,_,.inr "waits",_,rfl,.inl H2.hm,rfl,xW,_,rfl,w,_,.inr r.1,rfl,H2.hw,rfl,?_,_,rfl,?_⟩
   ·have:=oX S u;omega
   ·show Q (.d (.str r.1)) (aE M' w (.dic (mE (kvL (nmL S) u) (.inr r.1) (.d (.int (cv u j-1))))));rw[lC (N:=nmL S) hO.nd (by rw[H.lu];simp[nmL]) hnm,<- hns];refine k _ ⟨by rw[ae H.ne];exact H2.hm,ab,by rw[ae H.wh.symm];exact H2.hh,by rw[List.length_set];exact H.lu,H.ne⟩ λ b o n1 n2 n3 z=>?_;rw[ae n2];exact fr2 b o n1 n3 z
  ·have hlt:i<kk:=by omega
   refine xg (decide_eq_false (by have:=hn i hlt;omega)) ⟨rfl,by omega,_,_,rfl⟩
 ·rintro τ M' ⟨rfl,hik,x3,x4,rfl⟩;have el:(ef 0 ((S.length:Nat):Int).toNat).length=S.length:=by simp[ef]
  rw[el] at hik;omega
inductive mv(ws:List W) (M:MH) (Q:QD):Prop
 | mk (S:Sh) (d q r m w h:Addr) (u:List Int) (t:Nat) (l:Int) (v:W) (z0:ws=[.m d,.m m]) (z1:OkS S) (z2:Dr M S d q r u t v) (z3:Mo M S m w h u t l) (z4:q≠w) (z5:t<=1000000) (z6:Q (.d (.bool true)) M):mv ws M Q
def bS:SpD:=mv
theorem qF:∀ ws M Q,bS ws M Q->ws.length=2:=by rintro ws M Q ⟨S,d,q,r,m,w,h,u,t,l,v,rfl,_⟩;rfl
theorem pN:∀ ws M Q,bS ws M Q->nc bJ bQ aY a6 {nx:=λ _ M'=>Q (.d .none) M',rt:=Q} (aX nU ws) M:=by
 rintro ws M Q ⟨S,d,q,r,m,w,h,u,t,l,v,rfl,hO,D,H,qw,ht,k⟩;have sl:=s16;have h4:=hO.len;have ho:=rG hO t;obtain⟨rr,hr⟩:∃ rr,S[own S t]? =some rr:=⟨_,List.getElem?_eq_getElem ho⟩;obtain⟨hnm,hns⟩:=kb hr;refine⟨_,rfl,S,m,w,h,u,t,l,rfl,hO,H,?_⟩;refine⟨_,rfl,m,_,.inr "slot",_,rfl,.inl H.hm,rfl,ahA,_,rfl,rfl,_,rfl,hU ⟨_,rfl,m,_,.inr "shares",_,rfl,.inl H.hm,rfl,mO,_,rfl,_,_,rfl,vf hr,rfl,0,_,rfl,rfl,rfl,_,rfl,few (by simp),?_⟩⟩;have ok:okD 1 (.list [.int (t:Nat),.str rr.1])=true:=by simp only[okD,okA,Bool.and_eq_true,decide_eq_true_eq,and_true];exact⟨by omega,uF (lM hO hnm)⟩
 refine⟨_,rfl,d,_,rfl,D.hd,afg,d,q,r,t,v,rfl,D.hd,_,rfl,d,_,rfl,D.hd,afV,S,d,q,r,u,t,v,rfl,hO,D,?_⟩;rw[hns];refine⟨_,rfl,few (by simp),_,rfl,_,_,.d,.d,pF (k:=1) (by decide) ok ok,_,rfl,?_⟩;rw[wY ok];refine hU ⟨_,rfl,d,_,rfl,D.hd,afg,d,q,r,t,v,rfl,D.hd,_,_,_,rfl,.d,.bool,_,rfl,hU ?_⟩;have hw:=H.hw;rw[xP] at hw;have D2:∀ o,Dr (aE M w o) S d q r u t v:=λ o=>⟨by rw[ae (gy D.hd H.hw nofun)];exact D.hd,by rw[ae qw];exact D.hq,by rw[ae (gy D.hr H.hw nofun)];exact D.hr,D.lu⟩;have hm2:∀ o,aE M w o m=some (.dic (mK S w h t l)):=λ o=>by rw[ae H.ne];exact H.hm
 refine⟨w,_,hw,_,rfl,m,_,.inr "waits",_,rfl,.inl (hm2 _),rfl,xW,w,kdL (nmL S) u,rfl,ab,?_⟩;refine⟨λ i acc τ M2=>M2=aE M w (.fdic (gZ (kdL (nmL S) u)))/\acc=(List.replicate i true).map PyData.bool/\∃ x,τ=[x,some (.m d),some (.m m)],⟨rfl,rfl,_,rfl⟩,?_,?_⟩
 ·rintro i w' acc τ M2 hw' ⟨rfl,rfl,x,rfl⟩;unfold lW at hw';obtain⟨kp,hkp,rfl⟩:=c5 hw';have hi:i<S.length:=by have:=(List.getElem?_eq_some_iff.mp hkp).1;rw[adD H.lu] at this;exact this
  rw[afn H.lu hi] at hkp;cases hkp;have get:eL (gZ (kdL (nmL S) u)) (.inr (nmS S i))=some (.d (.int (cv u i))):=by rw[<- xP];exact iA hO.nd (iz hi) (oF (by have:=H.lu;omega))
  refine⟨by simp;omega,_,rfl,d,_,rfl,(D2 _).hd,aeI,_,rfl,S,d,q,r,u,_,v,i,nmS S i,rfl,hO,D2 _,iz hi,_,rfl,m,_,.inr "waits",_,rfl,.inl (hm2 _),rfl,xW,_,rfl,w,_,.inr (nmS S i),_,rfl,.inr ab,rfl,get,_,_,.d,.d,dP _ _,_,rfl,rfl,?_,_,rfl⟩;rw[List.replicate_succ',List.map_append,i7,decide_eq_true rfl];rfl
 ·rintro acc τ M2 ⟨rfl,rfl,x,rfl⟩;refine⟨ab,_,rfl,?_⟩;rw[p5 hw];have ea:∀ n:Nat,(List.replicate n true).all id=true:=λ n=>by simp
  rw[ea];exact k
theorem least{P:Nat->Prop}(dec:∀ k,P k\/¬ P k):∀ m,(∃ k,k<m/\P k)->∃ k,k<m/\P k/\∀ k',k'<k->¬ P k'
 | 0,⟨k,h,_⟩=>absurd h (Nat.not_lt_zero _)
 | m+1,⟨k,h,hp⟩=>by
  rcases dec m with q | q
  ·by_cases e:∃ k,k<m/\P k
   ·obtain⟨k',h1,h2⟩:=least dec m e;exact⟨k',by omega,h2⟩
   ·exact⟨m,by omega,q,λ k' hk' hp'=>e ⟨k',hk',hp'⟩⟩
  ·have hk:k<m:=by
    rcases Nat.lt_or_ge k m with z | z
    ·exact z
    ·have:k=m:=by omega
     subst this;exact absurd hp q
   obtain⟨k',h1,h2⟩:=least dec m ⟨k,hk,hp⟩;exact⟨k',by omega,h2⟩
theorem wZ{u:List Int}{n o:Nat}(lu:u.length=n)(ho:o<n)(h0:∀ i,0<=cv u i)(hz:¬ ∀ i,cv u i=0):∃ k j,k<n/\j=(o+k) % n/\0<cv u j/\∀ k',k'<k->cv u ((o+k') % n)=0:=by
 have hi:∃ i,i<n/\0<cv u i:=by
  refine Classical.byContradiction λ c=>hz λ i=>?_
  by_cases hi:i<n
  ·have:=h0 i;have:¬ 0<cv u i:=λ z=>c ⟨i,hi,z⟩;omega
  ·unfold cv;rw[List.getD_eq_getElem?_getD,List.getElem?_eq_none (by omega)];rfl
 obtain⟨i,hin,hp⟩:=hi;have hk:(o+(i+n-o) % n) % n=i:=by
  rcases Nat.lt_or_ge i o with z | z
  ·rw[Nat.mod_eq_of_lt (show i+n-o<n by omega),show o+(i+n-o)=i+n by omega,Nat.add_mod_right,Nat.mod_eq_of_lt hin]
  ·rw[show i+n-o=(i-o)+n by omega,Nat.add_mod_right,Nat.mod_eq_of_lt (show i-o<n by omega),show o+(i-o)=i by omega,Nat.mod_eq_of_lt hin]
 obtain⟨k,h1,h2,h3⟩:=least (P:=λ k=>0<cv u ((o+k) % n)) (λ k=>Classical.em _) n ⟨(i+n-o) % n,Nat.mod_lt _ (by omega),by rw[hk];exact hp⟩;exact⟨k,_,h1,rfl,h2,λ k' hk'=>by have:=h0 ((o+k') % n);have:=h3 k' hk';omega⟩
theorem aaC{M:MH}{p h:Addr}{c:List Int}(hb:Bag M p)(hh:M h=some (.lst (cI c))):h≠p:=by
 obtain⟨a,b,c',ns,e,_⟩:=hb;intro z;rw[z,e] at hh;have e2:=congrArg (λ l=>l[3]?) (MO.lst.inj (Option.some.inj hh));simp only[cI,List.getElem?_map] at e2;cases hc:c[3]? with
 | none=>rw[hc] at e2;cases e2
 | some x=>rw[hc] at e2;cases e2
inductive i9(ws:List W) (M:MH) (Q:QD):Prop
 | mk (S S':Sh) (m w h:Addr) (t l:Int) (kvs:List (Key×W)) (u:List Int) (z0:ws=[.m m,.d (shD S')]) (z1:OkS S') (z2:M m=some (.dic (mK S w h t l))) (z3:M w=some (.dic kvs)) (z4:u.length=S'.length) (z5:∀ i z,(nmL S')[i]? =some z->(eL kvs (.inr z)).getD (.d (.int 0))=.d (.int (cv u i)))
  (z6:∀ w' h' M',M w'=none->M h'=none->Mo M' S' m w' h' u 0 l->Fr M M' m->Q (.d .none) M'):i9 ws M Q
def bP:SpD:=i9
theorem mJ:∀ ws M Q,bP ws M Q->ws.length=2:=by rintro ws M Q ⟨S,S',m,w,h,t,l,kvs,u,rfl,_⟩;rfl
theorem la:∀ ws M Q,bP ws M Q->jI bK {nx:=λ _ M'=>Q (.d .none) M',rt:=Q} (aX jF ws) M:=by
 rintro ws M Q ⟨S,S',m,w,h,t,l,kvs,u,rfl,hO,hm,hw,lu,hu,k⟩;have sl:=s16;have h4:=hO.len;have nl:(nmL S').length=S'.length:=by simp[nmL]
 have nd:(nmL S').Nodup:=hO.nd;refine λ c hc=>⟨_,rfl,_,rfl,?_⟩;have mc:=ay hm hc;have wc:=ay hw hc;refine⟨λ i τ M'=>M' c=some (.dic (kvL ((nmL S').take i) (u.take i)))/\(∀ b,b≠c->M' b=M b)/\∃ x3 x4,τ=[some (.m m),some (.d (shD S')),some (.m c),x3,x4],⟨ab,λ b hb=>ae hb,_,_,rfl⟩,?_,?_⟩
 ·rintro i w' τ M' hw' ⟨e1,e2,x3,x4,rfl⟩;rw[List.map_map] at hw';obtain⟨r,hr,rfl⟩:=c5 hw';have hi:=(List.getElem?_eq_some_iff.mp hr).1;obtain⟨hn,_⟩:=kb hr;have hm':M' m=some (.dic (mK S w h t l)):=by rw[e2 m mc];exact hm
  have hw2:M' w=some (.dic kvs):=by rw[e2 w wc];exact hw
  refine⟨_,rfl,rfl,_,_,rfl,_,_,rfl,rfl,?_⟩;refine⟨_,rfl,m,_,.inr "waits",_,rfl,.inl hm',rfl,xW,.k hw2,_,rfl,_,.k (k:=.inr r.1) hw2,_,rfl,_,rfl,c,_,.inr r.1,rfl,e1,rfl,?_,?_,λ b hb=>?_,_,_,rfl⟩
  ·have:(kvL ((nmL S').take i) (u.take i)).length<=i:=by simp[kvL];omega
   omega
  ·have ht:(nmL S').take (i+1)=(nmL S').take i++[r.1]:=by rw[List.take_succ,hn];rfl
   have hu':u.take (i+1)=u.take i++[cv u i]:=by rw[List.take_succ,oF (by omega)];rfl
   rw[ab,hu i r.1 hn,yH (by rw[List.length_take,List.length_take];omega) (lI nd hn),ht,hu']
  ·rw[ae hb];exact e2 b hb
 rintro τ M1 ⟨e1,e2,x3,x4,rfl⟩;have et:(nmL S').take ((S'.map bZ).map W.d).length=nmL S':=List.take_of_length_le (by simp[nmL]);have eu:u.take ((S'.map bZ).map W.d).length=u:=List.take_of_length_le (by simp[lu]);rw[et,eu] at e1;have hm1:M1 m=some (.dic (mK S w h t l)):=by rw[e2 m mc];exact hm
 refine⟨_,rfl,m,_,rfl,hm1,λ e he=>?_⟩;have me:=ay hm1 he;have ce:=ay e1 he;refine⟨_,rfl,_,_,rfl,.l,λ f hf=>⟨f,S'.map bZ,rfl,ab,_,rfl,?_⟩⟩;have x2:Ext (aE M1 e (.dic [])) (ik (aE (aE M1 e (.dic [])) f (.lst ((S'.map bZ).map W.d))) f):=sealed hf;generalize ik (aE (aE M1 e (.dic [])) f (.lst ((S'.map bZ).map W.d))) f=M2 at x2;have x1:Ext M1 M2:=(Ext.new he).trans x2;refine⟨x2 e _ ab,[(.inr "shares",.d (shD S')),(.inr "waits",.m c)],rfl,(by show 2<=15;decide),(show([.inr "shares",.inr "waits"]:List Key).Nodup from by decide +kernel),?_⟩;refine⟨e,mK S w h t l,_,rfl,by rw[ae me];exact x1 _ _ hm1,ab,me,(by show 5+2<=sizeLine;omega),?_⟩;rw[ahe];refine⟨_,rfl,S',m,c,h,t,l,rfl,hO,ab,λ h' M' hh' a1 a2 fr=>?_⟩;have old:∀ b o,b≠m->M1 b=some o->M' b=some o:=λ b o n z=>fr b o n (by rw[ae n,ae (ay z he)];exact x1 _ _ z);have hM:M h'=none:=by
  cases q:M h' with
  | none=>rfl
  | some o =>
   have n1:h'≠m:=λ z=>by rw[z,ab] at hh';cases hh'
   have n2:h'≠c:=ay q hc;have q1:M1 h'=some o:=by rw[e2 h' n2];exact q
   rw[ae n1,ae (ay q1 he),x1 _ _ q1] at hh';cases hh'
 refine k c h' M' hc hM ⟨a1,old c _ mc.symm e1,a2,lu,mc⟩ λ b o n z=>old b o n ?_;rw[e2 b (ay z hc)];exact z
def kdH(hk:List (Int×Int)):List (Key×PyData):=hk.map λ p=>(.inl p.1,.int p.2)
abbrev kvH(hk:List (Int×Int)):List (Key×W):=gZ (kdH hk)
theorem jm(hk:List (Int×Int)):kvH hk=hk.map λ p=>((.inl p.1:Key),W.d (.int p.2)):=by
 unfold kvH gZ kdH;rw[List.map_map];rfl
theorem adl{hk:List (Int×Int)}{p:Int×Int}(h:p.1 ∉ hk.map (·.1)):mE (kvH hk) (.inl p.1) (.d (.int p.2))=kvH (hk++[p]):=by
 rw[jm,jm];unfold mE;rw[if_neg]
 ·rw[List.map_append];rfl
 ·rw[Bool.not_eq_true,List.any_eq_false];intro x hx;obtain⟨y,hy,rfl⟩:=List.mem_map.mp hx;simp only[decide_eq_true_eq];exact λ e=>h (List.mem_map.mpr ⟨y,hy,Sum.inl.inj e⟩)
def aaw(hk:List (Int×Int))(n x:Int):List (Int×Int):=hk.map λ p=>if p.1=n then (p.1,x) else p
theorem adB{hk:List (Int×Int)}{p:Int×Int}{x:Int}(h:p∈hk):mE (kvH hk) (.inl p.1) (.d (.int x))=kvH (aaw hk p.1 x):=by
 rw[jm,jm];unfold mE aaw;rw[if_pos]
 ·rw[List.map_map,List.map_map];refine List.map_congr_left λ y _=>?_;simp only[Function.comp_apply,Sum.inl.injEq]
  split<;>rfl
 ·rw[List.any_eq_true];exact⟨_,List.mem_map.mpr ⟨p,h,rfl⟩,by simp⟩
theorem ju:∀ {hk:List (Int×Int)} {p:Int×Int},(hk.map (·.1)).Nodup->p∈hk->eL (kvH hk) (.inl p.1)=some (.d (.int p.2))
 | [],_,_,h=>by cases h
 | y::hk,p,nd,h=>by
  show eL (((.inl y.1:Key),W.d (.int y.2))::kvH hk) (.inl p.1)=_;rw[gG];rw[List.map_cons,List.nodup_cons] at nd;rcases List.mem_cons.mp h with e | h
  ·subst e;rw[if_pos rfl]
  ·rw[if_neg λ e=>nd.1 (by rw[Sum.inl.inj e];exact List.mem_map.mpr ⟨p,h,rfl⟩)];exact ju nd.2 h
theorem u9:∀ {hk:List (Int×Int)} {p:Int×Int} {x:Int},(hk.map (·.1)).Nodup->p∈hk->((aaw hk p.1 x).map (·.2)).sum=(hk.map (·.2)).sum-p.2+x
 | [],_,_,_,h=>by cases h
 | y::hk,p,x,nd,h=>by
  rw[List.map_cons,List.nodup_cons] at nd;rcases List.mem_cons.mp h with e | h
  ·subst e;have e1:aaw hk p.1 x=hk:=by
    unfold aaw;refine(List.map_congr_left λ z hz=>?_).trans (List.map_id _);have hzp:z.1≠p.1:=λ e=>nd.1 (by rw[<- e];exact List.mem_map.mpr ⟨z,hz,rfl⟩);rw[if_neg hzp];rfl
   show((if p.1=p.1 then (p.1,x) else p).2+((aaw hk p.1 x).map (·.2)).sum)=p.2+(hk.map (·.2)).sum-p.2+x;rw[if_pos rfl,e1];omega
  ·have ih:=u9 (x:=x) nd.2 h;have hne:y.1≠p.1:=λ e=>nd.1 (e ▸ List.mem_map.mpr ⟨p,h,rfl⟩);show((if y.1=p.1 then (y.1,x) else y).2+((aaw hk p.1 x).map (·.2)).sum)=y.2+(hk.map (·.2)).sum-p.2+x;rw[if_neg hne,ih];omega
theorem abd{N:List Int}{i:Nat}{z:Int}(nd:N.Nodup)(h:N[i]? =some z):z ∉ N.take i:=by
 intro hm;obtain⟨j,hj,e⟩:=List.getElem_of_mem hm;rw[List.length_take] at hj;have hj':j<N.length:=by omega
 have e2:N[j]? =some z:=by rw[List.getElem?_eq_getElem hj',<- e,List.getElem_take]
 have:=(List.getElem?_inj hj' nd).mp (e2.trans h.symm);omega
def frH(hk:List (Int×Int)):List Int:=(hk.filter λ p=>decide (0<p.2)).map (·.1)
def bhH(hk:List (Int×Int))(l:Int):List Int:=(frH hk).filter λ n=>decide (l<n)
def nxH(hk:List (Int×Int))(l:Int):Option Int:=(bhH hk l++frH hk).head?
def ais:Option Int->PyData
 | none=>.none
 | some n=>.int n
structure sJ(hk:List (Int×Int)):Prop where
 up:(hk.map (·.1)).Pairwise (· < ·)
 pos:∀ p∈hk,0<p.1/\0<=p.2
theorem sJ.nd{hk:List (Int×Int)}(h:sJ hk):(hk.map (·.1)).Nodup:=h.up.imp λ z=>Int.ne_of_lt z
theorem sU{hk:List (Int×Int)}{n:Int}(h:n∈frH hk):∃ p∈hk,0<p.2/\p.1=n:=by obtain⟨p,hp,rfl⟩:=List.mem_map.mp h;rw[List.mem_filter] at hp;exact⟨p,hp.1,of_decide_eq_true hp.2,rfl⟩
theorem ab9{hk:List (Int×Int)}(h:sJ hk):(frH hk).Pairwise (· < ·):=by
 unfold frH;rw[List.pairwise_map];exact(List.pairwise_map.mp h.up).filter _
theorem afT{hk:List (Int×Int)}{l:Int}(h:sJ hk):(bhH hk l).Pairwise (· < ·):=(ab9 h).filter _
theorem og{F:List Int}{m f:Int}{F':List Int}(up:F.Pairwise (· < ·))(e:F=f::F')(hm:m∈F)(hl:∀ y∈F,m<=y):m=f:=by
 subst e;rw[List.pairwise_cons] at up;have h1:=hl f (List.mem_cons_self ..);rcases List.mem_cons.mp hm with z | z
 ·exact z
 ·have:=up.1 m z;omega
theorem pz{hk:List (Int×Int)}{l n:Int}(h:nxH hk l=some n):∃ p∈hk,0<p.2/\p.1=n:=by
 have:n∈bhH hk l++frH hk:=List.mem_of_head? h;rcases List.mem_append.mp this with z | z
 ·exact sU (List.mem_filter.mp z).1
 ·exact sU z
theorem ab7{hk:List (Int×Int)}{l:Int}(h:nxH hk l=none):frH hk=[]:=by have:=List.head?_eq_none_iff.mp h;exact(List.append_eq_nil_iff.mp this).2
def VL(v:W)(l:Int):Prop:=(v=.d .none/\l=0)\/(v=.d (.int l)/\0<l)
inductive eg(ws:List W) (M:MH) (Q:QD):Prop
 | mk (d q r:Addr) (t:Int) (v:W) (l:Int) (a:Addr) (hk:List (Int×Int)) (z0:ws=[.m d,.m a]) (z1:M d=some (.ins ak (FD q r t v))) (z2:VL v l) (z3:M a=some (.dic (kvH hk))) (z4:hk.length<=1000) (z5:sJ hk) (z6:Q (.d (ais (nxH hk l))) M):eg ws M Q
def aK:SpD:=eg
theorem ib:∀ ws M Q,aK ws M Q->ws.length=2:=by rintro ws M Q ⟨d,q,r,t,v,l,a,hk,rfl,_⟩;rfl
theorem gF:∀ ws M Q,aK ws M Q->eW {nx:=λ _ M'=>Q (.d .none) M',rt:=Q} (aX eO ws) M:=by
 rintro ws M Q ⟨d,q,r,t,v,l,a,hk,rfl,hd,hv,ha,hl,hK,k⟩;have sl:=s16;refine⟨a,_,ha,_,rfl,a,kdH hk,rfl,ab,?_⟩;refine⟨λ i acc τ M'=>M'=aE M a (.fdic (kvH hk))/\acc=(frH (hk.take i)).map PyData.int/\∃ x y,τ=[x,y],⟨rfl,rfl,_,_,rfl⟩,?_,?_⟩
 ·rintro i w acc τ M' hw ⟨rfl,rfl,x,y,rfl⟩;unfold kL kdH at hw;rw[List.map_map] at hw;obtain⟨p,hp,rfl⟩:=c5 hw;have hi:=(List.getElem?_eq_some_iff.mp hp).1;have ht:hk.take (i+1)=hk.take i++[p]:=by rw[List.take_succ,hp];rfl
  refine⟨?_,_,rfl,rfl,_,_,rfl,_,_,rfl,rfl,_,rfl,_,_,rfl,rfl,_,rfl,?_⟩
  ·have:=List.length_filter_le (λ p:Int×Int=>decide (0<p.2)) (hk.take i);rw[List.length_take] at this;simp only[frH,List.length_map];omega
  refine df (λ h=>?_) (λ h=>?_)
  ·have e1:([p].filter λ p=>decide (0<p.2))=[p]:=by simp only[List.filter,h]
   refine⟨_,rfl,_,rfl,rfl,?_,_,_,rfl⟩;unfold frH;rw[ht,List.filter_append,e1,List.map_append,List.map_append];rfl
  ·have e1:([p].filter λ p=>decide (0<p.2))=[]:=by simp only[List.filter,h]
   refine⟨rfl,?_,_,_,rfl⟩;unfold frH;rw[ht,List.filter_append,e1,List.append_nil]
 rintro acc τ M' ⟨rfl,rfl,x,y,rfl⟩;refine⟨ab,?_⟩;rw[p5 ha];have el:hk.take (kL (kdH hk)).length=hk:=List.take_of_length_le (by simp[kL,kdH]);rw[el];have Fl:(frH hk).length<=hk.length:=by unfold frH;rw[List.length_map];exact List.length_filter_le _ _
 refine⟨_,rfl,_,rfl,?_⟩;refine⟨λ i acc τ M'=>M'=M/\acc=(((frH hk).take i).filter λ n=>decide (l<n)).map PyData.int/\∃ x,τ=[x,some (.m d)],⟨rfl,rfl,_,rfl⟩,?_,?_⟩
 ·rintro i w acc τ M' hw ⟨rfl,rfl,x,rfl⟩;rw[List.map_map] at hw;obtain⟨n,hn,rfl⟩:=c5 hw;have hi:=(List.getElem?_eq_some_iff.mp hn).1;have ht:(frH hk).take (i+1)=(frH hk).take i++[n]:=by rw[List.take_succ,hn];rfl
  have hlen:=List.length_filter_le (λ n:Int=>decide (l<n)) ((frH hk).take i);rw[List.length_take] at hlen;refine⟨by rw[List.length_map];omega,_,rfl,d,_,_,rfl,hd,aiE,rfl,_,rfl,?_⟩;have yes:decide (l<n)=true->(((frH hk).take i).filter λ n=>decide (l<n)).map PyData.int++[PyData.int n]=(((frH hk).take (i+1)).filter λ n=>decide (l<n)).map PyData.int:=λ h=>by
   have e1:([n].filter λ n=>decide (l<n))=[n]:=by simp only[List.filter,h]
   rw[ht,List.filter_append,e1,List.map_append];rfl
  have no:decide (l<n)=false->(((frH hk).take i).filter λ n=>decide (l<n)).map PyData.int=(((frH hk).take (i+1)).filter λ n=>decide (l<n)).map PyData.int:=λ h=>by
   have e1:([n].filter λ n=>decide (l<n))=[]:=by simp only[List.filter,h]
   rw[ht,List.filter_append,e1,List.append_nil]
  rcases hv with ⟨rfl,rfl⟩ | ⟨rfl,h0⟩
  ·obtain⟨p,hp,_,rfl⟩:=sU (List.mem_of_getElem? hn);exact mF (mF ⟨_,rfl,_,rfl,rfl,yes (decide_eq_true (hK.pos p hp).1),_,rfl⟩)
  ·refine hU ⟨_,rfl,_,rfl,d,_,_,rfl,hd,aiE,_,_,rfl,rfl,_,rfl,?_⟩;exact df (λ h=>⟨_,rfl,_,rfl,rfl,yes h,_,rfl⟩) (λ h=>⟨rfl,no h,_,rfl⟩)
 rintro acc τ M' ⟨rfl,rfl,x,rfl⟩;have el2:(frH hk).take (((frH hk).map PyData.int).map W.d).length=frH hk:=List.take_of_length_le (by simp);rw[el2];refine⟨_,rfl,_,.l,?_⟩;have eG:(frH hk).filter (λ n=>decide (l<n))=bhH hk l:=rfl;rw[eG];cases hG:bhH hk l with
 | nil =>
  refine hU ⟨_,rfl,frH hk,rfl,λ e=>?_,λ m hm hle=>?_⟩
  ·have:nxH hk l=none:=by unfold nxH;rw[hG,e];rfl
   rw[this] at k;exact k
  ·cases hF:frH hk with
   | nil=>rw[hF] at hm;cases hm
   | cons f F =>
    have em:=og (ab9 hK) hF hm hle;have:nxH hk l=some f:=by unfold nxH;rw[hG,hF];rfl
    rw[this] at k;rw[em];exact k
 | cons g G =>
  refine mF ⟨g::G,rfl,(λ e=>nomatch e),λ m hm hle=>?_⟩;have em:=og (afT hK) hG (by rw[hG];exact hm) (by rw[hG];exact hle);have:nxH hk l=some g:=by unfold nxH;rw[hG];rfl
  rw[this] at k;rw[em];exact k
inductive Wt(S:Sh) (t:Nat) (u:List Int) (j:Nat):Prop
 | mk (k:Nat) (z0:k<S.length) (z1:j=(own S t+k) % S.length) (z2:0<cv u j) (z3:∀ k',k'<k->cv u ((own S t+k') % S.length)=0):Wt S t u j
def dcH(hk:List (Int×Int))(n:Int):List (Int×Int):=hk.map λ p=>if p.1=n then (p.1,p.2-1) else p
theorem xH{hk:List (Int×Int)}{p:Int×Int}(nd:(hk.map (·.1)).Nodup)(hp:p∈hk):aaw hk p.1 (p.2-1)=dcH hk p.1:=by
 unfold aaw dcH;refine List.map_congr_left λ y hy=>?_
 by_cases e:y.1=p.1
 ·have h1:=ju nd hy;have h2:=ju nd hp;rw[e,h2] at h1;have h3:p.2=y.2:=by injection h1 with h1;injection h1 with h1;injection h1
  rw[if_pos e,if_pos e,h3]
 ·rw[if_neg e,if_neg e]
theorem zQ(hk:List (Int×Int))(n:Int):(dcH hk n).map (·.1)=hk.map (·.1):=by
 unfold dcH;rw[List.map_map];refine List.map_congr_left λ y _=>?_;simp only[Function.comp_apply]
 split<;>rfl
theorem xZ(hk:List (Int×Int))(n:Int):(dcH hk n).length=hk.length:=by unfold dcH;rw[List.length_map]
theorem qE{hk:List (Int×Int)}{l n:Int}(h:sJ hk)(hn:nxH hk l=some n):sJ (dcH hk n):=by
 refine⟨by rw[zQ];exact h.up,λ p hp=>?_⟩;obtain⟨y,hy,rfl⟩:=List.mem_map.mp hp;obtain⟨p0,hp0,h0,e0⟩:=pz hn;have:=h.pos y hy
 by_cases e:y.1=n
 ·have h1:=ju h.nd hy;have h2:=ju h.nd hp0;rw[e,<- e0,h2] at h1;have h3:p0.2=y.2:=by injection h1 with h1;injection h1 with h1;injection h1
  rw[if_pos e];exact⟨this.1,by show 0<=y.2-1;omega⟩
 ·rw[if_neg e];exact this
inductive Run(S:Sh):Int->List Int->Nat->List (Int×Int)->List (Nat×Int)->Int->List Int->Nat->Prop
 | none {l:Int} {u:List Int} {t:Nat} {hk:List (Int×Int)} (z:frH hk=[]):Run S l u t hk [] l u t
 | dry {l:Int} {u:List Int} {t:Nat} {hk:List (Int×Int)} (z0:frH hk≠[]) (z:∀ i,cv u i=0):Run S l u t hk [] l u t
 | step {l:Int} {u:List Int} {t:Nat} {hk:List (Int×Int)} {n:Int} {j:Nat} {tr:List (Nat×Int)} {l':Int} {u':List Int} {t':Nat} (z0:nxH hk l=some n) (z1:Wt S t u j) (z2:Run S n (u.set j (cv u j-1)) (t+1) (dcH hk n) tr l' u' t'):Run S l u t hk ((j,n)::tr) l' u' t'
theorem y8:∀ {hk:List (Int×Int)},(∀ p∈hk,0<=p.2)->0<=(hk.map (·.2)).sum
 | [],_=>by simp
 | y::hk,h=>by have:=y8 (hk:=hk) λ p hp=>h p (List.mem_cons_of_mem _ hp);have h1:=h y (List.mem_cons_self ..);show 0<=y.2+(hk.map (·.2)).sum;omega
theorem vi{u:List Int}{j:Nat}(hu:∀ i,0<=cv u i/\cv u i<=40)(hj:0<cv u j)(hl:j<u.length):∀ i,0<=cv (u.set j (cv u j-1)) i/\cv (u.set j (cv u j-1)) i<=40:=λ i=>by
 have:=hu i;have:=hu j;rw[oj hl]
 split<;>omega
theorem ab0{S:Sh}(hO:OkS S):∀ (N:Nat) {l:Int} {u:List Int} {t:Nat} {hk:List (Int×Int)},sJ hk->(hk.map (·.2)).sum<=(N:Int)->u.length=S.length->(∀ i,0<=cv u i/\cv u i<=40)->∃ tr l' u' t',Run S l u t hk tr l' u' t'/\tr.length<=N/\t'<=t+N/\u'.length=S.length/\∀ i,0<=cv u' i/\cv u' i<=40
 | N,l,u,t,hk,hK,hs,lu,hu=>by
  by_cases hF:frH hk=[]
  ·exact⟨[],l,u,t,.none hF,by simp,by omega,lu,hu⟩
  by_cases hz:∀ i,cv u i=0
  ·exact⟨[],l,u,t,.dry hF hz,by simp,by omega,lu,hu⟩
  cases hn:nxH hk l with
  | none=>exact absurd (ab7 hn) hF
  | some n =>
   obtain⟨p,hp,h0,e⟩:=pz hn;obtain⟨k,j,h1,h2,h3,h4⟩:=wZ lu (rG hO t) (λ i=>(hu i).1) hz;have hj:j<S.length:=by rw[h2];exact Nat.mod_lt _ (by omega)
   have hsum:((dcH hk n).map (·.2)).sum=(hk.map (·.2)).sum-1:=by rw[<- e,<- xH hK.nd hp,u9 hK.nd hp];omega
   have hnn:=y8 λ q hq=>((qE hK hn).pos q hq).2
   match N with
   | 0=>omega
   | N+1 =>
    obtain⟨tr,l',u',t',R,a1,a2,a3,a4⟩:=ab0 hO N (l:=n) (u:=u.set j (cv u j-1)) (t:=t+1) (qE hK hn) (by rw[hsum];omega) (by rw[List.length_set];exact lu) (vi hu h3 (by rw[lu];exact hj));exact⟨(j,n)::tr,l',u',t',.step hn ⟨k,h1,h2,h3,h4⟩ R,by simp;omega,by omega,a3,a4⟩
abbrev Cp:=Int×Int×Bool
def cpD(c:Cp):PyData:=.tuple [.int c.1,.int c.2.1,.bool c.2.2]
def usC(cps:List Cp):List Cp:=if (cps.filter λ c=>c.2.2)=[] then cps else cps.filter λ c=>c.2.2
def hkC(cps:List Cp):List (Int×Int):=cps.map λ c=>(c.1,c.2.1)
def trD(S:Sh)(tr:List (Nat×Int)):List PyData:=tr.map λ p=>.tuple [.str (nmS S p.1),.int p.2]
inductive jS(ws:List W) (M:MH) (Q:QD):Prop
 | mk (S:Sh) (d q r:Addr) (u:List Int) (t:Nat) (v:W) (l:Int) (cps:List Cp) (tr:List (Nat×Int)) (l':Int) (u':List Int) (t':Nat) (z0:ws=[.m d,.d (.list (cps.map cpD))]) (z1:tr≠[]->OkS S) (z2:Dr M S d q r u t v) (z3:VL v l) (z4:∀ i,0<=cv u i/\cv u i<=40) (z5:sJ (hkC (usC cps))) (z6:cps.length<=100) (z7:Run S l u t (hkC (usC cps)) tr l' u' t') (z8:tr.length<=1000)
  (z9:∀ (v':W) (p:Addr) (M':MH),VL v' l'->Dr M' S d q r u' t' v'->M p=none->M' p=some (.lst ((trD S tr).map W.d))->(∀ b o,b≠d->b≠q->M b=some o->M' b=some o)->Q (.m p) M'):jS ws M Q
def bp:SpD:=jS
theorem pf:∀ ws M Q,bp ws M Q->ws.length=2:=by rintro ws M Q ⟨S,d,q,r,u,t,v,l,cps,tr,l',u',t',rfl,_⟩;rfl
theorem sF(cps:List Cp):(usC cps).length<=cps.length:=by
 unfold usC
 split
 ·exact Nat.le_refl _
 ·exact List.length_filter_le _ _
inductive agx(S:Sh) (d q r h f:Addr) (l':Int) (u':List Int) (t':Nat) (tr:List (Nat×Int)) (n0:Nat) (M:MH) (m:Nat) (τ:DS) (M2:MH):Prop
 | mk (l:Int) (u:List Int) (t:Nat) (v:W) (hk:List (Int×Int)) (done rest:List (Nat×Int)) (z0:Run S l u t hk rest l' u' t') (z1:tr=done++rest) (z2:m=rest.length) (z3:Dr M2 S d q r u t v) (z4:VL v l) (z5:∀ i,0<=cv u i/\cv u i<=40) (z6:sJ hk) (z7:hk.length<=n0) (z8:M2 h=some (.dic (kvH hk))) (z9:M2 f=some (.lst ((trD S done).map W.d))) (za:∀ b o,b≠d->b≠q->M b=some o->M2 b=some o) (x1 x2:Option W) (zb:τ=[some (.m d),x1,x2,some (.m h),some (.m f),some (.d (ais (nxH hk l)))]):agx S d q r h f l' u' t' tr n0 M m τ M2
theorem mQ:∀ ws M Q,bp ws M Q->l6 aK aC bA {nx:=λ _ M'=>Q (.d .none) M',rt:=Q} (aX iE ws) M:=by
 rintro ws M Q ⟨S,d,q,r,u,t,v,l,cps,tr,l',u',t',rfl,hO,H,hv,hu,hK,hlen,R,htr,k⟩;have sl:=s16;refine⟨_,rfl,_,rfl,?_⟩;refine⟨λ i acc τ M'=>M'=M/\acc=((cps.take i).filter λ c=>c.2.2).map cpD/\∃ x,τ=[x],⟨rfl,rfl,_,rfl⟩,?_,?_⟩
 ·rintro i w acc τ M' hw ⟨rfl,rfl,x,rfl⟩;rw[List.map_map] at hw;obtain⟨c,hc,rfl⟩:=c5 hw;have hi:=(List.getElem?_eq_some_iff.mp hc).1;have ht:cps.take (i+1)=cps.take i++[c]:=by rw[List.take_succ,hc];rfl
  have hle:=List.length_filter_le (λ c:Cp=>c.2.2) (cps.take i);rw[List.length_take] at hle;refine⟨by rw[List.length_map];omega,_,rfl,2,_,rfl,rfl,rfl,_,rfl,df (λ hb=>?_) (λ hb=>?_)⟩
  ·have e1:([c].filter λ c=>c.2.2)=[c]:=by simp only[List.filter,hb]
   refine⟨_,rfl,_,rfl,rfl,?_,_,rfl⟩;rw[ht,List.filter_append,e1,List.map_append];rfl
  ·have e1:([c].filter λ c=>c.2.2)=[]:=by simp only[List.filter,hb]
   refine⟨rfl,?_,_,rfl⟩;rw[ht,List.filter_append,e1,List.append_nil]
 rintro acc τ M' ⟨rfl,rfl,x,rfl⟩;have el:cps.take ((cps.map cpD).map W.d).length=cps:=List.take_of_length_le (by simp);rw[el];have hus:(usC cps).length<=100:=Nat.le_trans (sF cps) hlen;have orr:∀ (P:QD),P (.d (.list ((usC cps).map cpD))) M'->∃ b,vp M' (.d (.list ((cps.filter λ c=>c.2.2).map cpD))) b/\if b=true then P (.d (.list ((cps.filter λ c=>c.2.2).map cpD))) M' else ai 1 (aX iE [W.m d,W.d (PyData.list (cps.map cpD))]) M' P:=λ P hP=>by
  refine⟨_,.l,?_⟩;unfold usC at hP
  by_cases e:(cps.filter λ c=>c.2.2)=[]
  ·rw[if_pos e] at hP;rw[e];exact hU ⟨_,rfl,hP⟩
  ·rw[if_neg e] at hP;refine tG ?_ hP;cases e2:cps.filter λ c=>c.2.2 with
   | nil=>exact absurd e2 e
   | cons _ _=>rfl
 refine orr _ ?_;generalize usC cps=us at hK R hus;refine⟨_,rfl,_,rfl,λ h hh=>?_⟩;refine⟨λ i τ M1=>M1=aE M' h (.dic (kvH ((hkC us).take i)))/\∃ x y z,τ=[x,y,z],⟨rfl,_,_,_,rfl⟩,?_,?_⟩
 ·rintro i w τ M1 hw ⟨rfl,x,y,z,rfl⟩;rw[List.map_map] at hw;obtain⟨c,hc,rfl⟩:=c5 hw;have hi:=(List.getElem?_eq_some_iff.mp hc).1;have hp:(hkC us)[i]? =some (c.1,c.2.1):=by unfold hkC;rw[List.getElem?_map,hc];rfl
  have ht:(hkC us).take (i+1)=(hkC us).take i++[(c.1,c.2.1)]:=by rw[List.take_succ,hp];rfl
  refine⟨_,rfl,rfl,_,_,rfl,_,_,rfl,_,_,rfl,rfl,_,rfl,_,rfl,_,.inl c.1,ab,rfl,?_,?_,_,_,_,rfl⟩
  ·have:(kvH ((hkC us).take i)).length<=i:=by rw[jm,List.length_map,List.length_take];omega
   omega
  ·rw[iX,adl (p:=(c.1,c.2.1)),ht];rw[List.map_take];exact abd hK.nd (by rw[List.getElem?_map,hp];rfl)
 rintro τ M1 ⟨e1,x,y,z,rfl⟩;have el2:(hkC us).take ((us.map cpD).map W.d).length=hkC us:=List.take_of_length_le (by simp[hkC]);rw[el2] at e1;have hkl:(hkC us).length<=100:=by unfold hkC;rw[List.length_map];exact hus
 generalize hkC us=hk at hK R e1 hkl;have mh:M1 h=some (.dic (kvH hk)):=by rw[e1,ab]
 have x1:Ext M' M1:=by rw[e1];exact Ext.new hh
 have H1:=H.ext x1;refine⟨few (by simp),λ f hf=>?_⟩;have hfM:=x1.none hf;have ld:d≠f:=ay H1.hd hf;have lq:q≠f:=ay H1.hq hf;have lr:r≠f:=ay H1.hr hf;have lh:h≠f:=ay mh hf;have hd':d≠h:=ay H.hd hh;have hq':q≠h:=ay H.hq hh;have hr':r≠h:=ay H.hr hh;have H2:=H1.ext (Ext.new (o:=.lst []) hf);refine⟨_,rfl,d,_,rfl,H2.hd,ail,_,rfl,d,q,r,t,v,l,h,hk,rfl,H2.hd,hv,by rw[ae lh];exact mh,by omega,hK,?_⟩;refine⟨λ m τ M2=>agx S d q r h f l' u' t' tr 100 M' m τ M2,⟨tr.length,l,u,t,v,hk,[],tr,R,rfl,rfl,H2,hv,hu,hK,hkl,by rw[ae lh];exact mh,ab,λ b o _ _ e=>cF (x1 _ _ e) hf,_,_,rfl⟩,?_⟩;rintro m τ M2 ⟨l,u,t,v,hk,done,rest,R,etr,em,HD,hv,hu,hK,hkl,mh,mf,fr,x1,x2,rfl⟩;cases R with
 | none zF =>
  have en:nxH hk l'=none:=by unfold nxH bhH;rw[zF];rfl
  rw[en];refine⟨_,rfl,rfl,_,rfl,hU (hU ⟨_,rfl,k v f M2 hv HD hfM ?_ fr⟩)⟩;rw[etr,List.append_nil];exact mf
 | dry zF hz =>
  cases hn:nxH hk l' with
  | none=>exact absurd (ab7 hn) zF
  | some n =>
   refine⟨_,rfl,rfl,_,rfl,mF ⟨_,rfl,d,_,rfl,HD.hd,adO,S,d,q,r,u',_,v,rfl,HD,_,rfl,?_⟩⟩;rw[abf hz];refine hU ⟨_,rfl,k v f M2 hv HD hfM ?_ fr⟩;rw[etr,List.append_nil];exact mf
 | @step _ _ _ _ n j rest' _ _ _ hn wt R' =>
  obtain⟨kk,hk1,hk2,hk3,hk4⟩:=wt;replace hO:=hO (by rw[etr];simp);obtain⟨p,hp,hp0,ep⟩:=pz hn;have hjn:j<S.length:=by rw[hk2];exact Nat.mod_lt _ (by omega)
  rw[hn];refine⟨_,rfl,rfl,_,rfl,mF ⟨_,rfl,d,_,rfl,HD.hd,adO,S,d,q,r,u,_,v,rfl,HD,_,rfl,?_⟩⟩;rw[yM hk3];refine mF ?_;refine⟨_,rfl,f,_,rfl,mf,_,rfl,d,_,rfl,HD.hd,af5,S,d,q,r,u,t,v,rfl,hO,HD,λ i=>(hu i).1,.inr ⟨kk,j,hk1,hk2,hk3,hk4,λ M3 d3 q3 b3=>?_⟩⟩;have f3:M3 f=some (.lst ((trD S done).map W.d)):=b3 f _ ld.symm lq.symm mf;have h3:M3 h=some (.dic (kvH hk)):=b3 h _ hd'.symm hq'.symm mh;have r3:=b3 r _ HD.nr.symm HD.qr.symm HD.hr;have hdl:done.length<=1000:=by have:=congrArg List.length etr;rw[List.length_append] at this;omega
  refine⟨_,rfl,_,rfl,few (by simp),_,f3,?_,?_⟩
  ·rw[List.length_map];unfold trD;rw[List.length_map];omega
  subst ep;refine⟨_,rfl,_,rfl,h,_,.inl p.1,p.2,rfl,rfl,by rw[ae lh];exact h3,ju hK.nd hp,?_,1,rfl,rfl,?_⟩
  ·have:(kvH hk).length=hk.length:=by rw[jm,List.length_map]
   omega
  rw[adB hp,xH hK.nd hp];have hd4:∀ o o',aE (aE M3 f o) h o' d=some (.ins ak (FD q r ((t+1:Nat):Int) v)):=λ o o'=>by rw[ae hd',ae ld];exact d3
  refine⟨_,rfl,_,rfl,d,_,rfl,hd4 _ _,(by show 4<1000;decide),?_⟩;have hK':=qE hK hn;have hv':VL (.d (.int p.1)) p.1:=.inr ⟨rfl,(hK.pos p hp).1⟩;refine⟨_,rfl,d,_,rfl,ab,ail (q:=q) (r:=r) (t:=((t+1:Nat):Int)) (v:=.d (.int p.1)),_,rfl,d,q,r,_,.d (.int p.1),p.1,h,dcH hk p.1,rfl,ab,hv',by rw[ae hd'.symm,ab],by rw[xZ];omega,hK',?_⟩;refine⟨rest'.length,by rw[em,List.length_cons];omega,p.1,u.set j (cv u j-1),t+1,.d (.int p.1),dcH hk p.1,done++[(j,p.1)],rest',R',by rw[etr,List.append_assoc];rfl,rfl,⟨ab,?_,?_,by rw[List.length_set];exact HD.lu⟩,hv',vi hu hk3 (by rw[HD.lu];exact hjn),hK',by rw[xZ];exact hkl,?_,?_,λ b o n1 n2 e=>?_,_,_,rfl⟩
  ·rw[ae HD.nq.symm,ae hq',ae lq];exact q3
  ·rw[ae HD.nr.symm,ae hr',ae lr];exact r3
  ·rw[ae hd'.symm,ab]
  ·rw[ae ld.symm,ae lh.symm,ab];unfold trD;rw[List.map_append,List.map_append];rfl
  ·have bh:b≠h:=ay e hh;have bl:b≠f:=ay e hfM;rw[ae n1,ae bh,ae bl];exact b3 b o n1 n2 (fr b o n1 n2 e)
theorem m8{α:Type}{gt:TGd}{tt:TTd}{te:TD}{Q:List W->DS->MH->Prop}{τ0:DS}{M:MH}(L:List α)(g:α->W)(b:α->Bool)(T:DS->Prop)(hL:L.length<=1000)(h0:T τ0)
  (step:∀ x∈L,∀ τ,T τ->∀ (R1:W->DS->MH->Prop) (R2:DS->MH->Prop),(b x=true->∀ τ2,T τ2->R1 (g x) τ2 M)->(b x=false->∀ τ2,T τ2->R2 τ2 M)->gt (g x) τ M λ τ2 M2=>tt τ2 M2 λ k M3=>if k=true then te τ2 M3 λ y M4=>R1 y τ2 M4 else R2 τ2 M3)
  (q:∀ τ,Q ((L.filter b).map g) τ M) :
  ∃ P:Nat->List W->DS->MH->Prop,P 0 [] τ0 M /\
   (∀ i w acc τ M,(L.map g)[i]? =some w->P i acc τ M->acc.length<sizeLine/\gt w τ M λ τ2 M2=>tt τ2 M2 λ b M3=>if b=true then te τ2 M3 λ y M4=>P (i+1) (acc++[y]) τ2 M4 else P (i+1) acc τ2 M3) /\
   ∀ acc τ M,P (L.map g).length acc τ M->Q acc τ M:=by
 have sl:=s16;refine⟨λ i acc τ M'=>M'=M/\acc=((L.take i).filter b).map g/\T τ,⟨rfl,rfl,h0⟩,?_,?_⟩
 ·rintro i w acc τ M' hw ⟨rfl,rfl,hT⟩;obtain⟨x,hx,rfl⟩:=c5 hw;have hi:=(List.getElem?_eq_some_iff.mp hx).1;have ht:L.take (i+1)=L.take i++[x]:=by rw[List.take_succ,hx];rfl
  have hle:=List.length_filter_le b (L.take i);rw[List.length_take] at hle;refine⟨by rw[List.length_map];omega,step x (List.mem_of_getElem? hx) τ hT _ _ (λ hb τ2 h2=>⟨rfl,?_,h2⟩) (λ hb τ2 h2=>⟨rfl,?_,h2⟩)⟩
  ·have e1:[x].filter b=[x]:=by simp only[List.filter,hb]
   rw[ht,List.filter_append,e1,List.map_append];rfl
  ·have e1:[x].filter b=[]:=by simp only[List.filter,hb]
   rw[ht,List.filter_append,e1,List.append_nil]
 ·rintro acc τ M' ⟨rfl,rfl,_⟩;rw[List.length_map,List.take_length];exact q τ
abbrev Rs:=List (Addr×Int×Int)
abbrev rsW(rs:Rs):List W:=rs.map λ x=>W.m x.1
structure Lf(M:MH)(a:Addr)(rs:Rs):Prop where
 ha:M a=some (.lst (rsW rs))
 nd:(rs.map (·.1)).Nodup
 row:∀ x∈rs,M x.1=some (.lst [.d (.int x.2.1),.d (.int x.2.2)])
theorem Lf.ext{M M':MH}{a:Addr}{rs:Rs}(L:Lf M a rs)(x:Ext M M'):Lf M' a rs:=⟨x _ _ L.ha,L.nd,λ y hy=>x _ _ (L.row y hy)⟩
theorem Lf.na{M:MH}{a:Addr}{rs:Rs}(L:Lf M a rs){x:Addr×Int×Int}(hx:x∈rs):x.1≠a:=λ e=>by
 have h1:=L.row x hx;rw[e,L.ha] at h1;have h2:=MO.lst.inj (Option.some.inj h1);cases rs with
 | nil=>cases hx
 | cons y ys=>cases h2
def rdR(rs:Rs):Rs:=rs.filter λ x=>decide (0<x.2.2)
def bhR(rs:Rs)(l:Int):Rs:=(rdR rs).filter λ x=>decide (l<x.2.1)
def dcR(rs:Rs)(n:Int):Rs:=rs.map λ y=>if y.2.1=n then (y.1,y.2.1,y.2.2-1) else y
abbrev hkR(rs:Rs):List (Int×Int):=rs.map (·.2)
theorem uJ(rs:Rs):(rdR rs).map (λ x=>x.2.1)=frH (hkR rs):=by
 unfold rdR frH hkR;rw[List.filter_map,List.map_map];rfl
theorem afe(rs:Rs)(l:Int):(bhR rs l).map (λ x=>x.2.1)=bhH (hkR rs) l:=by
 unfold bhR bhH;rw[<- uJ,List.filter_map];rfl
theorem aex{rs:Rs}{l n:Int}(h:nxH (hkR rs) l=some n):∃ x,(bhR rs l++rdR rs).head? =some x/\x∈rs/\x.2.1=n/\0<x.2.2:=by
 unfold nxH at h;rw[<- afe,<- uJ,<- List.map_append,List.head?_map] at h;cases e:(bhR rs l++rdR rs).head? with
 | none=>rw[e] at h;cases h
 | some x =>
  rw[e] at h;have hm:x∈bhR rs l++rdR rs:=List.mem_of_head? e;have hr:x∈rdR rs:=by
   rcases List.mem_append.mp hm with z | z
   ·exact(List.mem_filter.mp z).1
   ·exact z
  have:=List.mem_filter.mp hr;exact⟨x,rfl,this.1,Option.some.inj h,of_decide_eq_true this.2⟩
theorem abI(rs:Rs)(n:Int):hkR (dcR rs n)=dcH (hkR rs) n:=by
 unfold hkR dcR dcH;rw[List.map_map,List.map_map];refine List.map_congr_left λ y _=>?_;simp only[Function.comp_apply]
 split<;>rfl
theorem abK(rs:Rs)(n:Int):(dcR rs n).map (·.1)=rs.map (·.1):=by
 unfold dcR;rw[List.map_map];refine List.map_congr_left λ y _=>?_;simp only[Function.comp_apply]
 split<;>rfl
theorem zG{α β:Type}{f:α->β}:∀ {l:List α} {x y:α},(l.map f).Nodup->x∈l->y∈l->f x=f y->x=y
 | [],_,_,_,h,_,_=>by cases h
 | a::l,x,y,nd,hx,hy,e=>by
  rw[List.map_cons,List.nodup_cons] at nd;rcases List.mem_cons.mp hx with e1 | h1
  ·rcases List.mem_cons.mp hy with e2 | h2
   ·rw[e1,e2]
   ·exact absurd (show f a∈l.map f from List.mem_map.mpr ⟨y,h2,by rw[<- e1];exact e.symm⟩) nd.1
  ·rcases List.mem_cons.mp hy with e2 | h2
   ·exact absurd (show f a∈l.map f from List.mem_map.mpr ⟨x,h1,by rw[<- e2];exact e⟩) nd.1
   ·exact zG nd.2 h1 h2 e
theorem Lf.dec{M:MH}{a:Addr}{rs:Rs}(L:Lf M a rs)(hK:sJ (hkR rs)){x:Addr×Int×Int}(hx:x∈rs):Lf (aE M x.1 (.lst [.d (.int x.2.1),.d (.int (x.2.2-1))])) a (dcR rs x.2.1):=by
 have nk:(rs.map λ y=>y.2.1).Nodup:=by have:=hK.nd;unfold hkR at this;rw[List.map_map] at this;exact this
 refine⟨?_,by rw[abK];exact L.nd,λ z hz=>?_⟩
 ·rw[ae (L.na hx).symm,L.ha];unfold rsW dcR;rw[List.map_map];congr 2;refine List.map_congr_left λ y _=>?_;simp only[Function.comp_apply]
  split<;>rfl
 ·obtain⟨y,hy,rfl⟩:=List.mem_map.mp hz
  by_cases e:y.2.1=x.2.1
  ·have:=zG nk hy hx e;subst this;simp only[if_pos];rw[ab]
  ·have hne:y.1≠x.1:=λ z=>e (by rw[zG L.nd hy hx z]);simp only[if_neg e];rw[ae hne];exact L.row y hy
theorem jj{M:MH}{a p:Addr}{x y:MO}{o:MO}(ha:M a=some o)(hp:aE M a x p=none):aE M a x a=some x/\(aE (aE M a x) p y) a=some x/\aE (aE (aE M a x) p y) a o=aE M p y/\M p=none:=by
 have pa:p≠a:=λ z=>by rw[z,ab] at hp;cases hp
 refine⟨ab,by rw[ae pa.symm,ab],?_,by rw[ae pa] at hp;exact hp⟩;funext b
 by_cases e:b=a
 ·subst e;rw[ab,ae pa.symm,ha]
 ·rw[ae e]
  by_cases e2:b=p
  ·subst e2;rw[ab,ab]
  ·rw[ae e2,ae e2,ae e]
theorem lj{M:MH}{n:Nat}:∀ {rs:Rs},(∀ x∈rs,M x.1=some (.lst [.d (.int x.2.1),.d (.int x.2.2)]))->Paired (ke M (n+1)) (rsW rs) (rs.map λ x=>PyData.list [.int x.2.1,.int x.2.2])
 | [],_=>.nil
 | x::rs,h=>.cons (.l (h x (List.mem_cons_self ..)) (ke.ds [.int x.2.1,.int x.2.2])) (lj λ y hy=>h y (List.mem_cons_of_mem _ hy))
theorem ua(x:PyData)(xs:List PyData):PyData.eqv (.list (x::xs)) (.list [])=false:=by simp[PyData.eqv,PyData.eqvAll]
theorem abq:PyData.eqv (.list []) (.list [])=true:=by simp[PyData.eqv,PyData.eqvAll]
theorem ac4{a b:TSd}{E:Ed}{τ:DS}{M:MH}(τ':DS)(hb:b E τ' M)(ha:b E τ' M->aQ a b E τ M):aQ a b E τ M:=ha hb
structure ada(cps:List Cp)(i:Nat):Prop where
 up:(cps.map (·.1)).Pairwise (· < ·)
 bd:∀ c∈cps,0<c.1/\c.1<=1000000100+5 * (i:Int)/\1<=c.2.1/\c.2.1<=3
 len:cps.length<=6+i
theorem pS{cps:List Cp}{c:Cp}(h:c∈usC cps):c∈cps:=by
 unfold usC at h
 split at h
 ·exact h
 ·exact(List.mem_filter.mp h).1
theorem afl{cps:List Cp}(h:(cps.map (·.1)).Pairwise (· < ·)):((usC cps).map (·.1)).Pairwise (· < ·):=by
 unfold usC
 split
 ·exact h
 ·rw[List.pairwise_map] at h ⊢;exact h.filter _
theorem ada.hk{cps:List Cp}{i:Nat}(h:ada cps i):sJ (hkC (usC cps)):=by
 refine⟨?_,λ p hp=>?_⟩
 ·unfold hkC;rw[List.map_map];exact afl h.up
 ·obtain⟨c,hc,rfl⟩:=List.mem_map.mp hp;have:=h.bd c (pS hc);exact⟨this.1,by show 0<=c.2.1;omega⟩
theorem aiB:∀ {hk:List (Int×Int)},(∀ p∈hk,p.2<=3)->(hk.map (·.2)).sum<=3 * (hk.length:Int)
 | [],_=>by simp
 | y::hk,h=>by have:=aiB (hk:=hk) λ p hp=>h p (List.mem_cons_of_mem _ hp);have h1:=h y (List.mem_cons_self ..);show y.2+(hk.map (·.2)).sum<=3 * ((hk.length+1:Nat):Int);omega
theorem ada.sum{cps:List Cp}{i:Nat}(h:ada cps i):((hkC (usC cps)).map (·.2)).sum<=3 * ((6+i:Nat):Int):=by
 have h1:=aiB (hk:=hkC (usC cps)) λ p hp=>by obtain⟨c,hc,rfl⟩:=List.mem_map.mp hp;exact(h.bd c (pS hc)).2.2.2
 have h2:=sF cps;have h3:=h.len;unfold hkC at h1 ⊢;rw[List.length_map] at h1;omega
theorem ahL{cps:List Cp}{i:Nat}(h:ada cps i)(hi:i<=1000):okD 2 (.list (cps.map cpD))=true:=by simp only[okD];refine m9 λ d hd=>?_;obtain⟨c,hc,rfl⟩:=List.mem_map.mp hd;have:=h.bd c hc;simp only[cpD,okD,okA,Bool.and_eq_true,decide_eq_true_eq,and_true];omega
inductive u7(ws:List W) (M:MH) (Q:QD):Prop
 | mk (S:Sh) (m w h:Addr) (u:List Int) (t:Nat) (l:Int) (cps:List Cp) (i:Nat) (tr:List (Nat×Int)) (l':Int) (u':List Int) (t':Nat) (z0:ws=[.m m,.d (.list (cps.map cpD))]) (z1:OkS S) (z2:Mo M S m w h u t l) (z4:∀ i,0<=cv u i/\cv u i<=40) (z5:ada cps i) (z6:i<=60) (z7:Run S l u t (hkC (usC cps)) tr l' u' t') (z8:tr.length<=1000)
  (z9:∀ (p:Addr) (M':MH),Mo M' S m w h u' t' l'->M p=none->M' p=some (.lst ((trD S tr).map W.d))->(∀ b o,b≠m->b≠w->b≠h->M b=some o->M' b=some o)->Q (.m p) M'):u7 ws M Q
def e9:SpD:=u7
theorem yp:∀ ws M Q,e9 ws M Q->ws.length=2:=by rintro ws M Q ⟨S,m,w,h,u,t,l,cps,i,tr,l',u',t',rfl,_⟩;rfl
inductive aix(S:Sh) (mm w h a f:Addr) (l':Int) (u':List Int) (t':Nat) (tr:List (Nat×Int)) (M:MH) (m:Nat) (τ:DS) (M2:MH):Prop
 | mk (l:Int) (u:List Int) (t:Nat) (rs:Rs) (done rest:List (Nat×Int)) (z0:Run S l u t (hkR rs) rest l' u' t') (z1:tr=done++rest) (z2:m=rest.length) (z3:Mo M2 S mm w h u t l) (z5:∀ i,0<=cv u i/\cv u i<=40) (z6:sJ (hkR rs)) (z7:rs.length<=100) (z8:Lf M2 a rs) (z9:M2 f=some (.lst ((trD S done).map W.d))) (zz:∀ x∈rs,M x.1=none/\x.1≠f/\x.2.1<2000000000/\x.2.2<=3) (za:∀ b o,b≠mm->b≠w->b≠h->M b=some o->M2 b=some o) (x1 x2 x5 x6 x7:Option W) (zb:τ=[some (.m mm),x1,x2,some (.m a),some (.m f),x5,x6,x7]):aix S mm w h a f l' u' t' tr M m τ M2
theorem adE{rs:Rs}(h:∀ x∈rs,0<x.2.1/\x.2.1<2000000000/\0<=x.2.2/\x.2.2<=3):okD 2 (.list (rs.map λ x=>PyData.list [.int x.2.1,.int x.2.2]))=true:=by simp only[okD];refine m9 λ d hd=>?_;obtain⟨x,hx,rfl⟩:=List.mem_map.mp hd;have:=h x hx;simp only[okD,okA,Bool.and_eq_true,decide_eq_true_eq,and_true];omega
theorem aby:okD 2 (.list [])=true:=rfl
theorem xE{M:MH}{b:Addr}{x y:PyData}(h:M b=some (.lst [.d x,.d y])):ixW M (.m b) 1=some (.d y):=by simp only[ixW,h];rfl
theorem pZ{M:MH}{b:Addr}{x:W}{ys:List W}(h:M b=some (.lst (x::ys))):ixW M (.m b) 0=some x:=by simp only[ixW,h];exact ml (j:=0) rfl
theorem sr{S:Sh}{Q:List W->DS->MH->Prop}{τ0:DS}{M:MH}{rs:Rs}(hl:rs.length<=100)(h0:∃ x,τ0=[x])(row:∀ x∈rs,M x.1=some (.lst [.d (.int x.2.1),.d (.int x.2.2)]))(q:∀ τ,Q (rsW (rdR rs)) τ M) :
  ∃ P:Nat->List W->DS->MH->Prop,P 0 [] τ0 M /\
   (∀ i w acc τ M,(rsW rs)[i]? =some w->P i acc τ M->acc.length<sizeLine/\gN 0 w τ M λ τ2 M2=>aU (dOp tj (dOp cz (ai 0) (dC (.d (.int 1)))) (dC (.d (.int 0)))) τ2 M2 λ b M3=>if b=true then ai 0 τ2 M3 λ y M4=>P (i+1) (acc++[y]) τ2 M4 else P (i+1) acc τ2 M3) /\
   ∀ acc τ M,P (rsW rs).length acc τ M->Q acc τ M:=by
 refine m8 rs (λ x=>W.m x.1) (λ x=>decide (0<x.2.2)) (λ τ=>∃ x,τ=[x]) (by omega) h0 (λ x hx τ hτ R1 R2 r1 r2=>?_) q;obtain⟨y,rfl⟩:=hτ;refine⟨_,rfl,1,_,rfl,xE (row x hx),rfl,_,_,rfl,rfl,_,rfl,df (λ hb=>?_) (λ hb=>?_)⟩
 ·exact⟨_,rfl,r1 hb _ ⟨_,rfl⟩⟩
 ·exact r2 hb _ ⟨_,rfl⟩
theorem vG:∀ ws M Q,e9 ws M Q->xk cM {nx:=λ _ M'=>Q (.d .none) M',rt:=Q} (aX wU ws) M:=by
 rintro ws M Q ⟨S,m,w,h,u,t,l,cps,i0,tr,l',u',t',rfl,hO,H,hu,hC,hi0,R,htr,k⟩;have sl:=s16;have h4:=hO.len;have hlen:cps.length<=66:=by have:=hC.len;omega
 refine⟨_,rfl,_,rfl,?_⟩;refine⟨λ i acc τ M'=>M'=M/\acc=((cps.take i).filter λ c=>c.2.2).map cpD/\∃ x,τ=[x],⟨rfl,rfl,_,rfl⟩,?_,?_⟩
 ·rintro i w acc τ M' hw ⟨rfl,rfl,x,rfl⟩;rw[List.map_map] at hw;obtain⟨c,hc,rfl⟩:=c5 hw;have hi:=(List.getElem?_eq_some_iff.mp hc).1;have ht:cps.take (i+1)=cps.take i++[c]:=by rw[List.take_succ,hc];rfl
  have hle:=List.length_filter_le (λ c:Cp=>c.2.2) (cps.take i);rw[List.length_take] at hle;refine⟨by rw[List.length_map];omega,_,rfl,2,_,rfl,rfl,rfl,_,rfl,df (λ hb=>?_) (λ hb=>?_)⟩
  ·have e1:([c].filter λ c=>c.2.2)=[c]:=by simp only[List.filter,hb]
   refine⟨_,rfl,_,rfl,rfl,?_,_,rfl⟩;rw[ht,List.filter_append,e1,List.map_append];rfl
  ·have e1:([c].filter λ c=>c.2.2)=[]:=by simp only[List.filter,hb]
   refine⟨rfl,?_,_,rfl⟩;rw[ht,List.filter_append,e1,List.append_nil]
 rintro acc τ M' ⟨rfl,rfl,x,rfl⟩;have el:cps.take ((cps.map cpD).map W.d).length=cps:=List.take_of_length_le (by simp);rw[el];have hK0:=hC.hk;have hus:(usC cps).length<=66:=Nat.le_trans (sF cps) hlen;have hub:∀ c∈usC cps,c.1<2000000000/\c.2.1<=3:=λ c hc=>by have:=hC.bd c (pS hc);omega
 have okF:okD 2 (.list ((cps.filter λ c=>c.2.2).map cpD))=true:=by have:=ahL hC (by omega);simp only[okD] at this ⊢;refine m9 λ d hd=>?_;obtain⟨c,hc,rfl⟩:=List.mem_map.mp hd;have:=hC.bd c (List.mem_filter.mp hc).1;simp only[cpD,okD,okA,Bool.and_eq_true,decide_eq_true_eq,and_true];omega
 dsimp only[gN];refine ac4 [some (.m m),some (.d (.list (cps.map cpD))),some (.d (.list ((usC cps).map cpD))),none,none,none,none,none] ?_ (λ rest=>?_)
 case refine_2 =>
  refine⟨_,rfl,_,rfl,few (by simp),_,_,.d,.d,pF (k:=2) (by decide) okF aby,_,rfl,?_⟩;unfold usC at rest
  by_cases e:(cps.filter λ c=>c.2.2)=[]
  ·rw[if_pos e] at rest;rw[e];exact tG abq ⟨_,rfl,rest⟩
  ·rw[if_neg e] at rest;cases e2:cps.filter λ c=>c.2.2 with
   | nil=>exact absurd e2 e
   | cons c F =>
    rw[e2] at rest;exact xg (ua _ _) rest
 generalize usC cps=us at hK0 R hus hub;refine⟨_,rfl,_,rfl,?_⟩;rw[List.map_map];refine⟨λ i acc τ M1=>(∃ rs:Rs,acc=rsW rs/\hkR rs=(hkC us).take i/\(rs.map (·.1)).Nodup/\∀ x∈rs,M1 x.1=some (.lst [.d (.int x.2.1),.d (.int x.2.2)])/\M' x.1=none)/\Ext M' M1/\∃ x y z,τ=[x,y,z],⟨⟨[],rfl,rfl,List.nodup_nil,λ x hx=>by cases hx⟩,Ext.refl _,_,_,_,rfl⟩,?_,?_⟩
 ·rintro i w' acc τ M1 hw ⟨⟨rs,rfl,hk,nd,row⟩,x1,x,y,z,rfl⟩;obtain⟨c,hc,rfl⟩:=c5 hw;have hi:=(List.getElem?_eq_some_iff.mp hc).1;have hp:(hkC us)[i]? =some (c.1,c.2.1):=by unfold hkC;rw[List.getElem?_map,hc];rfl
  have ht:(hkC us).take (i+1)=(hkC us).take i++[(c.1,c.2.1)]:=by rw[List.take_succ,hp];rfl
  have hl:rs.length<=i:=by have:=congrArg List.length hk;simp only[List.length_map,List.length_take] at this;omega
  refine⟨by rw[List.length_map];omega,_,rfl,rfl,_,_,rfl,_,_,rfl,_,_,rfl,rfl,_,rfl,_,rfl,few (by simp),λ b hb=>?_⟩;have hbM:=x1.none hb;refine⟨⟨rs++[(b,c.1,c.2.1)],by unfold rsW;rw[List.map_append];rfl,by rw[ht,<- hk];unfold hkR;rw[List.map_append];rfl,?_,λ x hx=>?_⟩,x1.trans (Ext.new hb),_,_,_,rfl⟩
  ·rw[List.map_append,List.nodup_append];refine⟨nd,by simp,λ y hy z hz e=>?_⟩;obtain⟨x,hx,rfl⟩:=List.mem_map.mp hy;have:z=b:=by simpa using hz
   rw[this] at e;rw[<- e,(row x hx).1] at hb;cases hb
  ·rcases List.mem_append.mp hx with hx | hx
   ·exact⟨cF (row x hx).1 hb,(row x hx).2⟩
   ·rw[List.mem_singleton.mp hx];exact⟨ab,hbM⟩
 rintro acc τ M1 ⟨⟨rs,rfl,hk,nd,row⟩,x1,x,y,z,rfl⟩ a ha;have el2:(hkC us).take (us.map (W.d ∘ cpD)).length=hkC us:=List.take_of_length_le (by simp[hkC]);rw[el2] at hk;rw[<- hk] at hK0 R;have hrl:rs.length<=66:=by have:=congrArg List.length hk;unfold hkC at this;simp only[List.length_map] at this;omega
 have hrb:∀ x∈rs,x.2.1<2000000000/\x.2.2<=3:=λ x hx=>by
  have:x.2∈hkC us:=by rw[<- hk];exact List.mem_map.mpr ⟨x,hx,rfl⟩
  obtain⟨c,hc,e⟩:=List.mem_map.mp this;have:=hub c hc;rw[<- e];exact this
 have haM:=x1.none ha;have L1:Lf (aE M1 a (.lst (rsW rs))) a rs:=⟨ab,nd,λ x hx=>cF (row x hx).1 ha⟩;have x2:=x1.trans (Ext.new (o:=.lst (rsW rs)) ha);generalize aE M1 a (.lst (rsW rs))=M2 at L1 x2;refine⟨few (by simp),λ f hf=>?_⟩;have fa:f≠a:=λ e=>by rw[e,L1.ha] at hf;cases hf
 have hfM:=x2.none hf;have x3:=x2.trans (Ext.new (o:=.lst []) hf);have L3:=L1.ext (Ext.new (o:=.lst []) hf);have f3:aE M2 f (.lst []) f=some (.lst []):=ab;have rf:∀ x∈rs,x.1≠f:=λ x hx=>ay (L1.row x hx) hf;generalize aE M2 f (.lst [])=M3 at x3 L3 f3;have mf:m≠f:=ay H.hm hfM;have wf:w≠f:=ay H.hw hfM;have hf':h≠f:=ay H.hh hfM;have ma:m≠a:=ay H.hm haM;have wa:w≠a:=ay H.hw haM;have ha':h≠a:=ay H.hh haM;refine⟨λ n τ M2=>aix S m w h a f l' u' t' tr M' n τ M2,⟨tr.length,l,u,t,rs,[],tr,R,rfl,rfl,H.keep λ b o _ e=>x3 b o e,hu,hK0,by omega,L3,f3,λ x hx=>⟨(row x hx).2,rf x hx,hrb x hx⟩,λ b o _ _ _ e=>x3 b o e,_,_,_,_,_,rfl⟩,?_⟩;clear f3 L3 x3 rf hrb hrl hk nd row;rintro n τ M2 ⟨l,u,t,rs,done,rest,R,etr,en,H2,hu,hK,hrl,L,mf2,hz,fr,y1,y2,y5,y6,y7,rfl⟩;have rowa:∀ o,∀ x∈rs,aE M2 a o x.1=some (.lst [.d (.int x.2.1),.d (.int x.2.2)]):=λ o x hx=>by rw[ae (L.na hx)];exact L.row x hx
 refine⟨a,_,L.ha,_,rfl,a,_,rfl,ab,sr (S:=S) hrl ⟨_,rfl⟩ (rowa _) (λ τ p1 hp1=>?_)⟩;obtain⟨_,s2,s3,s4⟩:=jj (y:=.lst (rsW (rdR rs))) L.ha hp1;refine⟨s2,?_⟩;rw[s3];have xp:=Ext.new (o:=.lst (rsW (rdR rs))) s4;have rsub:∀ x∈rdR rs,x∈rs:=λ x hx=>(List.mem_filter.mp hx).1;have dn:ke (aE M2 p1 (.lst (rsW (rdR rs)))) 2 (.m p1) (.list ((rdR rs).map λ x=>PyData.list [.int x.2.1,.int x.2.2])):=.l ab (lj λ x hx=>xp _ _ (L.row x (rsub x hx)));have okr:okD 2 (.list ((rdR rs).map λ x=>PyData.list [.int x.2.1,.int x.2.2]))=true:=adE λ x hx=>by have h1:=hz x (rsub x hx);have h2:=hK.pos x.2 (List.mem_map.mpr ⟨x,rsub x hx,rfl⟩);omega
 refine⟨_,rfl,few (by simp),_,_,2,dn,.d,by simp only[okN,jk (k:=2) (by decide) okr,jk (k:=2) (by decide) aby];rfl,_,rfl,?_⟩;have H3:Mo (aE M2 p1 (.lst (rsW (rdR rs)))) S m w h u t l:=H2.keep λ b o _ e=>xp b o e;have L3:=L.ext xp;have f3:=xp _ _ mf2;have fr3:∀ b o,b≠m->b≠w->b≠h->M' b=some o->aE M2 p1 (.lst (rsW (rdR rs))) b=some o:=λ b o n1 n2 n3 e=>xp b o (fr b o n1 n2 n3 e);clear dn okr s2 s3 hp1 rowa;generalize aE M2 p1 (.lst (rsW (rdR rs)))=M3 at H3 L3 f3 fr3;cases R with
 | none zF =>
  have e0:rdR rs=[]:=List.map_eq_nil_iff.mp ((uJ rs).trans zF);rw[e0];refine xg (by rw[List.map_nil,abq];rfl) ⟨_,rfl,k f M3 H3 hfM ?_ fr3⟩;rw[etr,List.append_nil];exact f3
 | dry zF hz' =>
  have e0:rdR rs≠[]:=λ e=>zF (by rw[<- uJ,e];rfl);cases e1:rdR rs with
  | nil=>exact absurd e1 e0
  | cons x0 xs =>
   refine tG (by rw[List.map_cons,ua];rfl) ⟨_,rfl,S,m,w,h,u',t',l',rfl,hO,H3,λ i=>(hu i).1,.inl ⟨hz',_,rfl,rfl,_,rfl,mF ⟨_,rfl,k f M3 H3 hfM ?_ fr3⟩⟩⟩;rw[etr,List.append_nil];exact f3
 | @step _ _ _ _ nn j rest' _ _ _ hn wt R' =>
  obtain⟨x,hhd,hx,ex,hx0⟩:=aex hn;have e0:rdR rs≠[]:=λ e=>by
   have:bhR rs l=[]:=by unfold bhR;rw[e];rfl
   rw[this,e] at hhd;cases hhd
  have ebr:∀ {A B:Prop},A->(if (!PyData.eqv (.list ((rdR rs).map λ x=>PyData.list [.int x.2.1,.int x.2.2])) (.list []))=true then A else B):=λ {A B} hA=>by
   cases e1:rdR rs with
   | nil=>exact absurd e1 e0
   | cons x0 xs=>exact tG (by rw[List.map_cons,ua];rfl) hA
  refine ebr ?_;obtain⟨kk,hk1,hk2,hk3,hk4⟩:=wt;have hjn:j<S.length:=by rw[hk2];exact Nat.mod_lt _ (by omega)
  refine⟨_,rfl,S,m,w,h,u,t,l,rfl,hO,H3,λ i=>(hu i).1,.inr ⟨kk,j,hk1,hk2,hk3,hk4,λ M4 H4 fr4=>?_⟩⟩;have rm:∀ y∈rs,y.1≠m/\y.1≠w/\y.1≠h:=λ y hy=>⟨(ay H.hm (hz y hy).1).symm,(ay H.hw (hz y hy).1).symm,(ay H.hh (hz y hy).1).symm⟩;have L4:Lf M4 a rs:=⟨fr4 _ _ ma.symm wa.symm ha'.symm L3.ha,L.nd,λ y hy=>fr4 _ _ (rm y hy).1 (rm y hy).2.1 (rm y hy).2.2 (L3.row y hy)⟩;have f4:=fr4 _ _ mf.symm wf.symm hf'.symm f3;have fr4':∀ b o,b≠m->b≠w->b≠h->M' b=some o->M4 b=some o:=λ b o n1 n2 n3 e=>fr4 b o n1 n2 n3 (fr3 b o n1 n2 n3 e);refine⟨_,rfl,rfl,_,rfl,hU ?_⟩;have rowa:∀ o,∀ x∈rs,aE M4 a o x.1=some (.lst [.d (.int x.2.1),.d (.int x.2.2)]):=λ o x hx=>by rw[ae (L.na hx)];exact L4.row x hx
  refine⟨a,_,L4.ha,_,rfl,a,_,rfl,ab,sr (S:=S) hrl ⟨_,rfl⟩ (rowa _) (λ τ p2 hp2=>?_)⟩;obtain⟨_,s2,s3,s4⟩:=jj (y:=.lst (rsW (rdR rs))) L4.ha hp2;refine⟨s2,?_⟩;rw[s3];have x5:=Ext.new (o:=.lst (rsW (rdR rs))) s4;have g5:aE M4 p2 (.lst (rsW (rdR rs))) p2=some (.lst (rsW (rdR rs))):=ab;generalize aE M4 p2 (.lst (rsW (rdR rs)))=M5 at x5 g5;have L5:=L4.ext x5;have hm5:=x5 _ _ H4.hm;have rp:∀ y∈rdR rs,y.1≠p2:=λ y hy=>ay (L4.row y (rsub y hy)) s4;have mp2:m≠p2:=ay H4.hm s4;have rowp:∀ o,∀ y∈rdR rs,aE M5 p2 o y.1=some (.lst [.d (.int y.2.1),.d (.int y.2.2)]):=λ o y hy=>by rw[ae (rp y hy)];exact L5.row y (rsub y hy)
  have rdl:(rdR rs).length<=100:=Nat.le_trans (List.length_filter_le _ _) hrl;have bhl:(bhR rs l).length<=100:=Nat.le_trans (List.length_filter_le _ _) rdl;refine⟨p2,_,g5,_,rfl,p2,_,rfl,ab,m8 (rdR rs) (λ x=>W.m x.1) (λ x=>decide (l<x.2.1)) (λ τ=>∃ x,τ=[x,some (.m m)]) (by omega) ⟨_,rfl⟩ (λ y hy τ hτ R1 R2 r1 r2=>?_) (λ τ p3 hp3=>?_)⟩
  ·obtain⟨v,rfl⟩:=hτ;refine⟨_,rfl,0,_,rfl,pZ (rowp _ y hy),rfl,_,rfl,m,_,.inr "last",_,rfl,.inl (by rw[ae mp2];exact hm5),rfl,aiL,_,_,rfl,rfl,_,rfl,df (λ hb=>?_) (λ hb=>?_)⟩
   ·exact⟨_,rfl,r1 hb _ ⟨_,rfl⟩⟩
   ·exact r2 hb _ ⟨_,rfl⟩
  obtain⟨_,s2',s3',s4'⟩:=jj (y:=.lst (rsW (bhR rs l))) g5 hp3;refine⟨s2',?_⟩;have e7:(List.map (λ x=>W.m x.1) (List.filter (λ x=>decide (l<x.2.1)) (rdR rs)))=rsW (bhR rs l):=rfl;rw[e7,s3'];have x6:=Ext.new (o:=.lst (rsW (bhR rs l))) s4';refine⟨_,rfl,p3,p2,_,_,rfl,rfl,ab,x6 _ _ g5,by rw[List.length_map,List.length_map];omega,λ p4 hp4=>?_⟩;have x7:=x6.trans (Ext.new (o:=.lst (rsW (bhR rs l)++rsW (rdR rs))) hp4);have g7:aE (aE M5 p3 (.lst (rsW (bhR rs l)))) p4 (.lst (rsW (bhR rs l)++rsW (rdR rs))) p4=some (.lst (rsW (bhR rs l)++rsW (rdR rs))):=ab;generalize aE (aE M5 p3 (.lst (rsW (bhR rs l)))) p4 (.lst (rsW (bhR rs l)++rsW (rdR rs)))=M7 at x7 g7;obtain⟨ys,hys⟩:∃ ys,rsW (bhR rs l)++rsW (rdR rs)=W.m x.1::ys:=by
   unfold rsW;rw[<- List.map_append];cases e:bhR rs l++rdR rs with
   | nil=>rw[e] at hhd;cases hhd
   | cons z zs=>rw[e] at hhd;cases hhd;exact⟨_,rfl⟩
  rw[hys] at g7;have L7:=(L5.ext x7);have x47:=x5.trans x7;refine⟨0,_,rfl,pZ g7,rfl,?_⟩;have r7:=L7.row x hx;refine⟨_,rfl,1,_,rfl,xE r7,rfl,_,_,rfl,rfl,_,rfl,x.1,_,1,1,rfl,rfl,r7,rfl,?_⟩;have L8:=L7.dec hK hx;obtain⟨xm,xw,xh⟩:=rm x hx;have xf:=(hz x hx).2.1;have o8:∀ b o,b≠x.1->M4 b=some o->aE M7 x.1 (.lst [.d (.int x.2.1),.d (.int (x.2.2-1))]) b=some o:=λ b o n1 e=>by rw[ae n1];exact x47 _ _ e
  have r8:aE M7 x.1 (.lst [.d (.int x.2.1),.d (.int (x.2.2-1))]) x.1=some (.lst [.d (.int x.2.1),.d (.int (x.2.2-1))]):=ab;show aQ _ _ _ _ (aE M7 x.1 (.lst [.d (.int x.2.1),.d (.int (x.2.2-1))]));generalize aE M7 x.1 (.lst [.d (.int x.2.1),.d (.int (x.2.2-1))])=M8 at L8 o8 r8;have hm8:=o8 _ _ xm.symm H4.hm;refine⟨_,rfl,0,_,rfl,pZ r8,rfl,_,rfl,m,_,.inr "last",rfl,hm8,rfl,(by show 5<sizeLine;omega),?_⟩;rw[aiN];have f8:=o8 _ _ xf.symm f4;have o9:∀ b o,b≠m->M8 b=some o->aE M8 m (.dic (mK S w h ((t+1:Nat):Int) x.2.1)) b=some o:=λ b o n1 e=>by rw[ae n1];exact e
  have f9:=o9 _ _ mf.symm f8;have hdl:done.length<=1000:=by have:=congrArg List.length etr;rw[List.length_append] at this;omega
  refine⟨_,rfl,f,_,rfl,f9,_,rfl,_,rfl,0,_,rfl,pZ (o9 _ _ xm r8),rfl,_,rfl,few (by simp),_,f9,?_,?_⟩
  ·rw[List.length_map];unfold trD;rw[List.length_map];omega
  have o10:∀ b o,b≠f->b≠m->M8 b=some o->aE (aE M8 m (.dic (mK S w h ((t+1:Nat):Int) x.2.1))) f (.lst ((trD S done).map W.d++[.d (.tuple [.str (nmS S j),.int x.2.1])])) b=some o:=λ b o n1 n2 e=>by rw[ae n1];exact o9 _ _ n2 e
  refine⟨rest'.length,by rw[en,List.length_cons];omega,nn,u.set j (cv u j-1),t+1,dcR rs x.2.1,done++[(j,nn)],rest',by rw[abI,ex];exact R',by rw[etr,List.append_assoc];rfl,rfl,
   ⟨by rw[ae mf,ab,ex],o10 _ _ wf H4.ne.symm (o8 _ _ xw.symm H4.hw),o10 _ _ hf' H4.mh.symm (o8 _ _ xh.symm H4.hh),H4.lu,H4.ne⟩,vi hu hk3 (by rw[H2.lu];exact hjn),by rw[abI,ex];exact qE hK hn,by unfold dcR;rw[List.length_map];exact hrl,
   ⟨o10 _ _ fa.symm ma.symm L8.ha,L8.nd,λ y hy=>?_⟩,?_,λ y hy=>?_,λ b o n1 n2 n3 e=>?_,_,_,_,_,_,rfl⟩
  ·obtain⟨z,hz',hzz⟩:=List.mem_map.mp (show y.1∈rs.map (·.1) by rw[<- abK rs x.2.1];exact List.mem_map.mpr ⟨y,hy,rfl⟩);exact o10 _ _ (by rw[<- hzz];exact(hz z hz').2.1) (by rw[<- hzz];exact(rm z hz').1) (L8.row y hy)
  ·rw[ab];unfold trD;rw[List.map_append,List.map_append,ex];rfl
  ·obtain⟨z,hz',rfl⟩:=List.mem_map.mp hy;have:=hz z hz'
   split
   ·exact⟨this.1,this.2.1,this.2.2.1,by show z.2.2-1<=3;omega⟩
   ·exact this
  ·refine o10 _ _ (ay e hfM) n1 (o8 _ _ (λ z=>?_) (fr4' b o n1 n2 n3 e));rw[z,(hz x hx).1] at e;cases e
def Fp(M M':MH)(p:Addr):Prop:=∀ b o,b≠p->M b=some o->M' b=some o
theorem Fp.step{A B C:MH}{p:Addr}(h:Fp A B p)(f:∀ b,b≠p->C b=B b):Fp A C p:=λ b o n e=>by rw[f b n];exact h b o n e
theorem acw{cps:List Cp}{c:Cp}{num:Int}(h:(cps.map (·.1)).Pairwise (· < ·))(hb:∀ x∈cps,x.1<=num)(hc:num<c.1):((cps++[c]).map (·.1)).Pairwise (· < ·):=by
 rw[List.map_append,List.pairwise_append];refine⟨h,by simp,λ a ha b hb'=>?_⟩;obtain⟨x,hx,rfl⟩:=List.mem_map.mp ha;have:b=c.1:=by simpa using hb'
 have:=hb x hx;omega
theorem afY{M:MH}{y:Int}(h0:0<=y)(h1:y<3):∃ n:Int,ixW M (.d (.list [.int 0,.int 0,.int (10 ^ 9)])) y=some (.d (.int n))/\0<=n/\n<=1000000000:=by
 have:y=0\/y=1\/y=2:=by omega
 rcases this with rfl | rfl | rfl
 ·exact⟨0,rfl,by decide,by decide⟩
 ·exact⟨0,rfl,by decide,by decide⟩
 ·exact⟨10 ^ 9,rfl,by decide,by decide⟩
inductive lz(ws:List W) (M:MH) (Q:QD):Prop
 | mk (p:Addr) (i:Nat) (m6:Int) (z0:ws=[.m p,.d (.int m6)]) (z6:0<=m6/\m6<=6) (z1:Bag M p) (z2:∀ cps M',ada cps i->Bag M' p->Fp M M' p->Q (.d (.list (cps.map cpD))) M'):lz ws M Q
def cy:SpD:=lz
theorem rq:∀ ws M Q,cy ws M Q->ws.length=2:=by rintro ws M Q ⟨p,i,m6,rfl,_⟩;rfl
inductive CpP(p f:Addr) (M:MH) (i:Nat) (τ:DS) (M':MH):Prop
 | mk (cps:List Cp) (num:Int) (z0:Bag M' p) (z1:Fp M M' p) (z2:M' f=some (.lst ((cps.map cpD).map W.d))) (z3:(cps.map (·.1)).Pairwise (· < ·)) (z4:∀ c∈cps,0<c.1/\c.1<=num/\1<=c.2.1/\c.2.1<=3) (z5:cps.length=i) (z6:0<=num/\num<=1000000000+3 * (i:Int)) (x1 x4:Option W) (z7:τ=[some (.m p),x1,some (.m f),some (.d (.int num)),x4]):CpP p f M i τ M'
theorem pM:∀ ws M Q,cy ws M Q->nu au {nx:=λ _ M'=>Q (.d .none) M',rt:=Q} (aX nv ws) M:=by
 rintro ws M Q ⟨p,i0,m6,rfl,hm6,hB,k⟩;have sl:=s16;refine⟨few (by simp),λ f hf=>?_⟩;have fp:f≠p:=λ e=>by obtain⟨_,_,_,_,z,_⟩:=hB;rw[e,z] at hf;cases hf
 have x1:Ext M (aE M f (.lst [])):=Ext.new hf;have b1:Bag (aE M f (.lst [])) p:=Ext.bag x1 hB;have f1:aE M f (.lst []) f=some (.lst []):=ab;generalize aE M f (.lst [])=M1 at x1 b1 f1;refine⟨_,_,rfl,rfl,(by unfold ag3;decide),_,rfl,few (by simp),_,rfl,p,3,rfl,b1,by decide,by decide,λ y M2 y0 y1 b2 g2=>?_⟩;obtain⟨n0,hix,h0,h1⟩:=afY (M:=M2) y0 y1;refine⟨_,_,rfl,hix,rfl,?_⟩;refine⟨_,rfl,_,rfl,.inl ⟨_,_,rfl,rfl,p,_,rfl,b2,by omega,by omega,λ y' M3 z0 z1 b3 g3=>⟨_,rfl,by omega,by omega,?_⟩⟩⟩;refine⟨λ i τ M'=>i<=6->CpP p f M i τ M',λ _=>⟨[],n0,b3,λ b o n e=>by rw[g3 b n,g2 b n];exact x1 _ _ e,by rw[g3 f fp,g2 f fp];exact f1,by simp,(λ c hc=>by cases hc),rfl,⟨h0,by omega⟩,_,_,rfl⟩,?_,?_⟩
 ·intro i w τ M' hw P;obtain⟨hi,rfl⟩:=my hw;obtain⟨cps,num,b,fr,hm,up,bd,hl,hn,x1,x4,rfl⟩:=P (by omega);refine⟨_,rfl,.inl ⟨_,_,rfl,rfl,_,rfl,p,3,rfl,b,by decide,by decide,λ a Ma a0 a1 ba ga=>.inl ⟨_,_,rfl,rfl,?_⟩⟩⟩;have fa:Ma f=some (.lst ((cps.map cpD).map W.d)):=by rw[ga f fp];exact hm
  refine⟨_,rfl,f,_,rfl,fa,_,rfl,_,rfl,p,3,rfl,ba,by decide,by decide,λ c Mc c0 c1 bc gc=>.inl ⟨_,_,rfl,rfl,_,rfl,p,3,rfl,bc,by decide,by decide,λ e Me e0 e1 be ge=>⟨_,_,rfl,rfl,_,rfl,few (by simp),(cps.map cpD).map W.d,?_,?_,?_⟩⟩⟩
  ·rw[ge f fp,gc f fp];exact fa
  ·rw[List.length_map,List.length_map];omega
  ·intro _;refine⟨cps++[(num+1+a,1+c,decide (0<e))],num+1+a,?_,λ b' o n z=>?_,?_,acw up (λ x hx=>(bd x hx).2.1) (by show num<num+1+a;omega),λ x hx=>?_,by simp[hl],⟨by omega,by omega⟩,_,_,rfl⟩
   ·obtain⟨q1,q2,q3,q4,e',z⟩:=be;exact⟨q1,q2,q3,q4,by rw[ae fp.symm];exact e',z⟩
   ·have n2:b'≠f:=λ z2=>by rw[z2,hf] at z;cases z
    rw[ae n2,ge b' n,gc b' n,ga b' n];exact fr b' o n z
   ·rw[ab,List.map_append,List.map_append];rfl
   ·rcases List.mem_append.mp hx with hx | hx
    ·have:=bd x hx;exact⟨this.1,by omega,this.2.2⟩
    ·rw[List.mem_singleton.mp hx];exact⟨by show 0<num+1+a;omega,by show num+1+a<=num+1+a;omega,by show 1<=1+c;omega,by show 1+c<=3;omega⟩
 intro τ M' P;have el:(ef 0 y'.toNat).length=y'.toNat:=by simp[ef]
 rw[el] at P;obtain⟨cps,num,b,fr,hm,up,bd,hl,hn,x1',x4,rfl⟩:=P (by omega);refine⟨_,rfl,p,4,rfl,b,by decide,by decide,λ a Ma a0 a1 ba ga=>⟨_,_,.d,.d,dP _ _,_,rfl,?_⟩⟩;have fa:Ma f=some (.lst ((cps.map cpD).map W.d)):=by rw[ga f fp];exact hm
 have fra:Fp M Ma p:=fr.step ga;have hcl:cps.length<=6:=by omega
 refine df (λ _=>?_) (λ _=>?_)
 ·refine⟨_,rfl,f,_,rfl,fa,_,rfl,?_⟩;have frd:Fp M (ik Ma f) p:=λ b' o n z=>by
   have n2:b'≠f:=λ z2=>by rw[z2,hf] at z;cases z
   simp only[ik,if_neg n2];exact fra b' o n z
  have bd':Bag (ik Ma f) p:=by obtain⟨q1,q2,q3,q4,e',z⟩:=ba;exact⟨q1,q2,q3,q4,by simp only[ik,if_neg fp.symm];exact e',z⟩
  generalize ik Ma f=Mb at frd bd';rw[List.map_map];refine fN cps (W.d ∘ cpD) (λ c=>cpD (c.1,c.2.1,false)) (λ τ=>∃ x y z,τ=[x,y,z]) (by omega) ⟨_,_,_,rfl⟩ (λ c hc τ hτ R h=>?_) (λ τ g hg=>?_)
  ·obtain⟨x,y,z,rfl⟩:=hτ;exact⟨_,rfl,rfl,_,_,rfl,_,_,rfl,_,_,rfl,rfl,_,rfl,_,rfl,_,rfl,few (by simp),_,rfl,h _ ⟨_,_,_,rfl⟩⟩
  have x5:Ext Mb (ik (aE Mb g (.lst ((cps.map λ c=>cpD (c.1,c.2.1,false)).map W.d))) g):=sealed hg;refine⟨_,rfl,g,_,rfl,ab,?_⟩;have em:(cps.map λ c=>cpD (c.1,c.2.1,false))=(cps.map λ c=>(c.1,c.2.1,false)).map cpD:=by rw[List.map_map];rfl
  rw[em] at x5 ⊢;refine k _ _ ⟨?_,λ c hc=>?_,by rw[List.length_map];omega⟩ (Ext.bag x5 bd') λ b' o n z=>x5 _ _ (frd b' o n z)
  ·rw[List.map_map];exact up
  ·obtain⟨c0,hc0,rfl⟩:=List.mem_map.mp hc;have:=bd c0 hc0;exact⟨this.1,by show c0.1<=_;omega,this.2.2⟩
 ·refine⟨_,rfl,f,_,rfl,fa,?_⟩;have frd:Fp M (ik Ma f) p:=λ b' o n z=>by
   have n2:b'≠f:=λ z2=>by rw[z2,hf] at z;cases z
   simp only[ik,if_neg n2];exact fra b' o n z
  have bd':Bag (ik Ma f) p:=by obtain⟨q1,q2,q3,q4,e',z⟩:=ba;exact⟨q1,q2,q3,q4,by simp only[ik,if_neg fp.symm];exact e',z⟩
  refine k cps _ ⟨up,λ c hc=>?_,by omega⟩ bd' frd;have:=bd c hc;exact⟨this.1,by omega,this.2.2⟩
theorem iN{a b:TSd}{E:Ed}{τ:DS}{M:MH}(P:MH->Prop)(hb:∀ M',P M'->b E τ M')(ha:(∀ M',P M'->b E τ M')->aQ a b E τ M):aQ a b E τ M:=ha hb
inductive nW(ws:List W) (M:MH) (Q:QD):Prop
 | mk (p:Addr) (S:Sh) (m w h:Addr) (t l:Int) (z0:ws=[.m p,.m m]) (z1:OkS S) (z2:Bag M p) (z3:M m=some (.dic (mK S w h t l))) (z4:∀ S' M',OkS S'->Bag M' p->Fp M M' p->Q (.d (shD S')) M'):nW ws M Q
def cU:SpD:=nW
theorem tW:∀ ws M Q,cU ws M Q->ws.length=2:=by rintro ws M Q ⟨p,S,m,w,h,t,l,rfl,_⟩;rfl
inductive OtP(p f:Addr) (M:MH) (M':MH):Prop
 | mk (S:Sh) (z0:OkS S) (z1:M' f=some (.lst ((S.map bZ).map W.d))) (z2:Bag M' p) (z3:Fp M M' p):OtP p f M M'
theorem OkS.rev{S:Sh}(h:OkS S):OkS S.reverse:=by refine⟨λ e=>h.ne (List.reverse_eq_nil_iff.mp e),by rw[List.length_reverse];exact h.len,λ r hr=>h.row r (List.mem_reverse.mp hr),?_⟩;rw[List.map_reverse];show List.Pairwise _ _;rw[List.pairwise_reverse];exact h.nd.imp λ z=>z.symm
theorem abu{M M':MH}{p f:Addr}{o:MO}(b:Bag M p)(fp:f≠p)(h:∀ b x,b≠f->M b=some x->M' b=some x):Bag M' p:=by obtain⟨a1,a2,a3,a4,e,z⟩:=b;exact⟨a1,a2,a3,a4,h _ _ fp.symm e,z⟩
theorem ai4{α:Type}(xs:List α):D.cutD xs none (some 4)=xs.take 4:=by
 by_cases h:4<=xs.length
 ·exact pJ (i:=4) h
 ·unfold D.cutD;have e:HT.sIx xs.length 0 none=0:=rfl;have e2:HT.sIx xs.length xs.length (some 4)=xs.length:=by
   unfold HT.sIx;simp;omega
  rw[e,e2];show(xs.drop 0).take (xs.length-0)=_;rw[List.drop_zero,Nat.sub_zero,List.take_length,List.take_of_length_le (by omega)]
theorem qp:∀ ws M Q,cU ws M Q->qG au br {nx:=λ _ M'=>Q (.d .none) M',rt:=Q} (aX qO ws) M:=by
 rintro ws M Q ⟨p,S,m,w,h,t,l,rfl,hO,hB,hm,k⟩;have sl:=s16;have h4:=hO.len;have mp:m≠p:=bY hB hm λ _ z=>nomatch z;refine⟨_,rfl,m,_,.inr "shares",_,rfl,.inl hm,rfl,mO,_,rfl,?_⟩;rw[List.map_map];refine⟨λ i acc τ M'=>(∃ S2:Sh,acc=S2.map bZ/\(S2.map (·.1)).Sublist ((S.take i).map (·.1))/\∀ e∈S2,1<=e.2/\e.2<=9)/\Bag M' p/\(∀ b,b≠p->M' b=M b)/\∃ x y,τ=[x,y,some (.m p)],⟨⟨[],rfl,List.nil_sublist _,λ e he=>by cases he⟩,hB,λ _ _=>rfl,_,_,rfl⟩,?_,?_⟩
 ·rintro i w' acc τ M' hw ⟨⟨S2,rfl,hs,hb2⟩,b,fr,x,y,rfl⟩;obtain⟨r,hr,rfl⟩:=c5 hw;have hi:=(List.getElem?_eq_some_iff.mp hr).1;have ht:S.take (i+1)=S.take i++[r]:=by rw[List.take_succ,hr];rfl
  have hle:=hs.length_le;rw[List.length_map,List.length_map,List.length_take] at hle;refine⟨by rw[List.length_map];omega,_,rfl,rfl,_,_,rfl,_,_,rfl,rfl,_,rfl,p,3,rfl,b,by decide,by decide,λ a Ma a0 a1 ba ga=>⟨_,_,rfl,rfl,_,rfl,df (λ _=>?_) (λ _=>?_)⟩⟩
  ·refine⟨_,rfl,_,rfl,p,9,rfl,ba,by decide,by decide,λ z Mz z0 z1 bz gz=>.inl ⟨_,_,rfl,rfl,_,rfl,few (by simp),_,rfl,⟨S2++[(r.1,1+z.toNat)],?_,?_,λ e he=>?_⟩,bz,λ b' n=>by rw[gz b' n,ga b' n,fr b' n],_,_,rfl⟩⟩
   ·rw[List.map_append];have ez:1+z=((1+z.toNat:Nat):Int):=by omega
    show List.map bZ S2++[PyData.tuple [.str r.1,.int (1+z)]]=List.map bZ S2++[bZ (r.1,1+z.toNat)];rw[ez];rfl
   ·rw[ht,List.map_append,List.map_append];exact hs.append (List.Sublist.refl _)
   ·rcases List.mem_append.mp he with he | he
    ·exact hb2 e he
    ·rw[List.mem_singleton.mp he];exact⟨by show 1<=1+z.toNat;omega,by show 1+z.toNat<=9;omega⟩
  ·exact⟨⟨S2,rfl,by rw[ht,List.map_append];exact hs.trans (List.sublist_append_left _ _),hb2⟩,ba,λ b' n=>by rw[ga b' n,fr b' n],_,_,rfl⟩
 rintro acc τ M1 ⟨⟨S2,rfl,hs,hb2⟩,b1,fr1,x,y,rfl⟩ f hf;have el:S.take (S.map (W.d ∘ bZ)).length=S:=List.take_of_length_le (by simp);rw[el] at hs;have nd2:(S2.map (·.1)).Nodup:=hs.nodup hO.nd;have l2:S2.length<=4:=by have:=hs.length_le;rw[List.length_map,List.length_map] at this;omega
 have wd2:∀ r∈S2,wd r.1=true:=λ r hr=>by have:r.1∈S.map (·.1):=hs.subset (List.mem_map.mpr ⟨r,hr,rfl⟩);obtain⟨r',hr',e⟩:=List.mem_map.mp this;rw[<- e];exact(hO.row r' hr').1
 have fp:f≠p:=λ e=>by obtain⟨_,_,_,_,z,_⟩:=b1;rw[e,z] at hf;cases hf
 have hfM:M f=none:=by rw[<- fr1 f fp];exact hf
 have x2:Ext M1 (aE M1 f (.lst ((S2.map bZ).map W.d))):=Ext.new hf;have m2:aE M1 f (.lst ((S2.map bZ).map W.d)) f=some (.lst ((S2.map bZ).map W.d)):=ab;have b2:=Ext.bag x2 b1;have F2:Fp M (aE M1 f (.lst ((S2.map bZ).map W.d))) p:=λ b o n e=>x2 _ _ (by rw[fr1 b n];exact e);generalize aE M1 f (.lst ((S2.map bZ).map W.d))=M2 at m2 b2 F2;clear x2 fr1 b1;refine⟨f,_,m2,_,rfl,f,_,rfl,ab,?_⟩;rw[List.map_map];refine fN S2 (W.d ∘ bZ) (λ r=>.str r.1) (λ τ=>∃ x y,τ=[x,y]) (by omega) ⟨_,_,rfl⟩ (λ r hr τ hτ R h=>?_) (λ τ=>?_)
 ·obtain⟨x,y,rfl⟩:=hτ;exact⟨_,rfl,rfl,_,_,rfl,_,_,rfl,rfl,_,rfl,_,rfl,h _ ⟨_,_,rfl⟩⟩
 refine⟨ab,?_⟩;rw[List.map_map] at m2;rw[p5 m2];rw[<- List.map_map] at m2;refine⟨_,rfl,p,rfl,b2,λ T M3 hT b3 F3=>⟨_,rfl,?_⟩⟩;have hT4:=hT.len;have m3:=F3 _ _ fp m2;have F3':Fp M M3 p:=λ b o n e=>F3 b o n (F2 b o n e);rw[List.map_map];refine⟨λ i acc τ M'=>M'=M3/\acc=((T.take i).filter λ r=>decide (r.1 ∉ S2.map (·.1))).map bZ/\∃ x,τ=[x,some (.d (.list (S2.map λ r=>.str r.1)))],⟨rfl,rfl,_,rfl⟩,?_,?_⟩
 ·rintro i w' acc τ M' hw ⟨rfl,rfl,x,rfl⟩;obtain⟨r,hr,rfl⟩:=c5 hw;have hi:=(List.getElem?_eq_some_iff.mp hr).1;have ht:T.take (i+1)=T.take i++[r]:=by rw[List.take_succ,hr];rfl
  have hle:=List.length_filter_le (λ r:Str×Nat=>decide (r.1 ∉ S2.map (·.1))) (T.take i);rw[List.length_take] at hle;have hrw:=(hT.row r (List.mem_of_getElem? hr)).1;refine⟨by rw[List.length_map];omega,_,rfl,0,_,rfl,rfl,rfl,_,rfl,r.1,S2.map (·.1),rfl,?_,_,rfl,?_⟩
  ·have e:cN (S2.map (·.1))=(S2.map λ r=>PyData.str r.1).map W.d:=by unfold cN;rw[List.map_map,List.map_map];rfl
   rw[e];exact .l
  rw[if_pos rfl];refine df (λ hb=>?_) (λ hb=>?_)
  ·have e1:([r].filter λ r=>decide (r.1 ∉ S2.map (·.1)))=[r]:=by
    have:r.1 ∉ S2.map (·.1):=by simpa using hb
    simp only[List.filter,decide_eq_true this]
   refine⟨_,rfl,_,rfl,rfl,?_,_,rfl⟩;rw[ht,List.filter_append,e1,List.map_append];rfl
  ·have e1:([r].filter λ r=>decide (r.1 ∉ S2.map (·.1)))=[]:=by
    have:¬ r.1 ∉ S2.map (·.1):=by simpa using hb
    simp only[List.filter,decide_eq_false this]
   refine⟨rfl,?_,_,rfl⟩;rw[ht,List.filter_append,e1,List.append_nil]
 rintro acc τ M4 ⟨rfl,rfl,x,rfl⟩ g hg;have el3:T.take (T.map (W.d ∘ bZ)).length=T:=List.take_of_length_le (by simp);rw[el3];generalize hTF:(T.filter λ r=>decide (r.1 ∉ S2.map (·.1)))=TF;have TFm:∀ r∈TF,r∈T/\r.1 ∉ S2.map (·.1):=λ r hr=>by rw[<- hTF,List.mem_filter] at hr;exact⟨hr.1,of_decide_eq_true hr.2⟩
 have ndT:(TF.map (·.1)).Nodup:=by rw[<- hTF];exact((List.filter_sublist (l:=T)).map _).nodup hT.nd
 have lT:TF.length<=4:=by rw[<- hTF];exact Nat.le_trans (List.length_filter_le _ _) hT4
 have hne:S2++TF≠[]:=λ e=>by
  obtain⟨e1,e2⟩:=List.append_eq_nil_iff.mp e;rw[e2] at hTF;cases hT':T with
  | nil=>exact hT.ne hT'
  | cons r rs =>
   have:r∈T.filter λ r=>decide (r.1 ∉ S2.map (·.1)):=List.mem_filter.mpr ⟨by rw[hT'];exact List.mem_cons_self ..,by rw[e1];rfl⟩;rw[hTF] at this;cases this
 have fg:f≠g:=ay m3 hg;have gp:g≠p:=λ e=>by obtain⟨_,_,_,_,z,_⟩:=b3;rw[e,z] at hg;cases hg
 refine⟨_,rfl,_,rfl,f,g,_,_,rfl,rfl,cF m3 hg,ab,by simp;omega,λ c hc=>⟨_,rfl,c,_,rfl,ab,λ e he=>?_⟩⟩;have x5:Ext M4 (aE (aE (aE M4 g (.lst ((TF.map bZ).map W.d))) c (.lst ((S2.map bZ).map W.d++(TF.map bZ).map W.d))) e (.lst (D.cutD ((S2.map bZ).map W.d++(TF.map bZ).map W.d) none (some 4)))):=((Ext.new hg).trans (Ext.new hc)).trans (Ext.new he);have ecut:D.cutD ((S2.map bZ).map W.d++(TF.map bZ).map W.d) none (some 4)=(((S2++TF).take 4).map bZ).map W.d:=by rw[<- List.map_append,<- List.map_append];rw[ai4,<- List.map_take,<- List.map_take]
 have okS:OkS ((S2++TF).take 4):=by
  refine⟨λ e=>?_,by rw[List.length_take];omega,λ r hr=>?_,?_⟩
  ·rw[List.take_eq_nil_iff] at e;rcases e with e | e
   ·cases e
   ·exact hne e
  ·rcases List.mem_append.mp (List.mem_of_mem_take hr) with hr | hr
   ·exact⟨wd2 r hr,hb2 r hr⟩
   ·exact hT.row r (TFm r hr).1
  ·have:((S2++TF).map (·.1)).Nodup:=by rw[List.map_append,List.nodup_append];refine⟨nd2,ndT,λ a ha b hb e=>?_⟩;obtain⟨r,hr,rfl⟩:=List.mem_map.mp hb;exact(TFm r hr).2 (e ▸ ha)
   rw[List.map_take];exact(List.take_sublist _ _).nodup this
 rw[ecut] at x5 ⊢;have O1:OtP p e M (aE (aE (aE M4 g (.lst ((TF.map bZ).map W.d))) c (.lst ((S2.map bZ).map W.d++(TF.map bZ).map W.d))) e (.lst ((((S2++TF).take 4).map bZ).map W.d))):=⟨_,okS,ab,Ext.bag x5 b3,λ b o n z=>x5 _ _ (F3' b o n z)⟩;have heM:M e=none:=by
  cases q:M e with
  | none=>rfl
  | some o =>
   have n:e≠p:=λ z=>by obtain⟨_,_,_,_,zz,_⟩:=b3;have:=Ext.none ((Ext.new hg).trans (Ext.new hc)) he;rw[z,zz] at this;cases this
   have:=Ext.none ((Ext.new hg).trans (Ext.new hc)) he;rw[F3' e o n q] at this;cases this
 have ep:e≠p:=λ z=>by obtain⟨_,_,_,_,zz,_⟩:=b3;have:=Ext.none ((Ext.new hg).trans (Ext.new hc)) he;rw[z,zz] at this;cases this
 generalize aE (aE (aE M4 g (.lst ((TF.map bZ).map W.d))) c (.lst ((S2.map bZ).map W.d++(TF.map bZ).map W.d))) e (.lst ((((S2++TF).take 4).map bZ).map W.d))=M5 at O1;clear x5 okS;dsimp only[gN];refine iN (λ M'=>OtP p e M M') (λ M6 O=>?_) (λ rest=>?_)
 case refine_2 =>
  obtain⟨S5,hO5,hm5,b5,F5⟩:=O1;refine⟨_,rfl,p,2,rfl,b5,by decide,by decide,λ y M6 y0 y1 b6 g6=>⟨_,_,.d,.d,dP _ _,_,rfl,?_⟩⟩;have m6:M6 e=some (.lst ((S5.map bZ).map W.d)):=by rw[g6 e ep];exact hm5
  have F6:=F5.step g6;refine df (λ _=>?_) (λ _=>rest _ ⟨S5,hO5,m6,b6,F6⟩);refine⟨_,rfl,e,_,rfl,m6,rest _ ⟨S5.reverse,hO5.rev,by rw[ab,<- List.map_reverse,<- List.map_reverse],abu (o:=.lst []) b6 ep λ b x n z=>by rw[ae n];exact z,λ b o n z=>?_⟩⟩;rw[ae (λ z2=>by rw[z2,heM] at z;cases z)];exact F6 b o n z
 obtain⟨S6,hO6,hm6,b6,F6⟩:=O;refine⟨_,rfl,e,S6.map bZ,rfl,hm6,k S6 _ hO6 (abu (o:=.lst []) b6 ep λ b x n z=>by simp only[ik,if_neg n];exact z) λ b o n z=>?_⟩;have n2:b≠e:=λ z2=>by rw[z2,heM] at z;cases z
 simp only[ik,if_neg n2];exact F6 b o n z
theorem ae6{n c:Int}(h0:0<=c)(h1:c<=40)(hn:0<=n):0<=c+lin n c/\c+lin n c<=40:=by
 unfold lin
 split<;>split<;>omega
structure Jt(M:MH)(S:Sh)(p d q r m w h:Addr)(u:List Int)(t:Nat)(v:W)(l:Int):Prop where
 B:Bag M p
 C:M aw=some cdR
 D:Dr M S d q r u t v
 H:Mo M S m w h u t l
 V:VL v l
 qm:q≠m
 qw:q≠w
 rh:r≠h
 bd:∀ j,0<=cv u j/\cv u j<=40
theorem Jt.bag{M M':MH}{p:Addr}(B:Bag M p)(f:∀ o,M p=some o->M' p=some o):Bag M' p:=by obtain⟨a1,a2,a3,a4,e,z⟩:=B;exact⟨a1,a2,a3,a4,f _ e,z⟩
section
variable {M M':MH}{S:Sh}{p d q r m w h:Addr}{u:List Int}{t:Nat}{v:W}{l:Int}
theorem Jt.pd(J:Jt M S p d q r m w h u t v l):d≠p:=bY J.B J.D.hd λ _ z=>nomatch z
theorem Jt.pq(J:Jt M S p d q r m w h u t v l):q≠p:=bY J.B J.D.hq λ _ z=>nomatch z
theorem Jt.pr(J:Jt M S p d q r m w h u t v l):r≠p:=lg J.B J.D
theorem Jt.pm(J:Jt M S p d q r m w h u t v l):m≠p:=bY J.B J.H.hm λ _ z=>nomatch z
theorem Jt.pw(J:Jt M S p d q r m w h u t v l):w≠p:=bY J.B J.H.hw λ _ z=>nomatch z
theorem Jt.ph(J:Jt M S p d q r m w h u t v l):h≠p:=aaC J.B J.H.hh
theorem Jt.pC(J:Jt M S p d q r m w h u t v l):aw≠p:=bY J.B J.C λ _ z=>nomatch z
theorem Jt.fp(J:Jt M S p d q r m w h u t v l)(b:Bag M' p)(f:Fp M M' p):Jt M' S p d q r m w h u t v l:=
 ⟨b,f _ _ J.pC J.C,⟨f _ _ J.pd J.D.hd,f _ _ J.pq J.D.hq,f _ _ J.pr J.D.hr,J.D.lu⟩,⟨f _ _ J.pm J.H.hm,f _ _ J.pw J.H.hw,f _ _ J.ph J.H.hh,J.H.lu,J.H.ne⟩,J.V,J.qm,J.qw,J.rh,J.bd⟩
theorem Jt.take(J:Jt M S p d q r m w h u t v l)(b:Bag M' p)(f:∀ a,a≠p->M' a=M a):Jt M' S p d q r m w h u t v l:=J.fp b λ a o n e=>by rw[f a n];exact e
theorem Jt.ext(J:Jt M S p d q r m w h u t v l)(x:Ext M M'):Jt M' S p d q r m w h u t v l:=
 ⟨Jt.bag J.B λ o e=>x _ _ e,x _ _ J.C,J.D.ext x,J.H.keep λ b o _ e=>x b o e,J.V,J.qm,J.qw,J.rh,J.bd⟩
theorem Jt.asked(J:Jt M S p d q r m w h u t v l){i:Nat}{n:Int}(hn:0<=n)(hi:i<S.length) :
  Mo (aE M q (.dic (kvL (nmL S) (u.set i (cv u i+lin n (cv u i)))))) S m w h u t l /\
  Jt (aE (aE M q (.dic (kvL (nmL S) (u.set i (cv u i+lin n (cv u i)))))) w (.dic (kvL (nmL S) (u.set i (cv u i+lin n (cv u i)))))) S p d q r m w h (u.set i (cv u i+lin n (cv u i))) t v l:=by
 have dq:=J.D.nq;have qr:=J.D.qr;have dw:d≠w:=gy J.D.hd J.H.hw nofun;have rw':r≠w:=gy J.D.hr J.H.hw nofun;have hq:h≠q:=gy J.H.hh J.D.hq nofun;refine⟨⟨by rw[ae J.qm.symm];exact J.H.hm,by rw[ae J.qw.symm];exact J.H.hw,by rw[ae hq];exact J.H.hh,J.H.lu,J.H.ne⟩,
  Jt.bag J.B λ o e=>by rw[ae J.pw.symm,ae J.pq.symm];exact e,by rw[ae (gy J.C J.H.hw nofun),ae (gy J.C J.D.hq nofun)];exact J.C,
  ⟨by rw[ae dw,ae dq];exact J.D.hd,by rw[ae J.qw,ab],by rw[ae rw',ae qr.symm];exact J.D.hr,by rw[List.length_set];exact J.D.lu⟩,
  ⟨by rw[ae J.H.ne,ae J.qm.symm];exact J.H.hm,ab,by rw[ae J.H.wh.symm,ae hq];exact J.H.hh,by rw[List.length_set];exact J.H.lu,J.H.ne⟩,J.V,J.qm,J.qw,J.rh,λ j=>?_⟩
 rw[oj (by rw[J.D.lu];exact hi)]
 split
 ·have b:=J.bd i;have:=ae6 b.1 b.2 hn;omega
 ·exact J.bd j
end
theorem two_ix{M:MH}{a b y:Int}(ha:0<=a)(hb:0<=b)(h0:0<=y)(h1:y<2):∃ n:Int,ixW M (.d (.list [.int (1+a),.int (1+b)])) y=some (.d (.int n))/\0<=n:=by
 have:y=0\/y=1:=by omega
 rcases this with rfl | rfl
 ·exact⟨1+a,rfl,by omega⟩
 ·exact⟨1+b,rfl,by omega⟩
theorem agH{S:Sh}(hO:OkS S){B:Int}{l:Int}{u:List Int}{t:Nat}{hk:List (Int×Int)}{tr:List (Nat×Int)}{l':Int}{u':List Int}{t':Nat}(R:Run S l u t hk tr l' u' t'):sJ hk->(∀ x∈hk,x.1<=B)->∀ p∈tr,p.1<S.length/\0<p.2/\p.2<=B:=by
 induction R with
 | none z=>intro _ _ p hp;cases hp
 | dry z0 z=>intro _ _ p hp;cases hp
 | @step l u t hk n j tr l' u' t' z0 z1 z2 ih =>
  intro hK hB p hp;obtain⟨x,hx,h0,e⟩:=pz z0;rcases List.mem_cons.mp hp with rfl | hp
  ·obtain⟨k,h1,h2,h3,h4⟩:=z1;have hl:=List.length_pos_iff.mpr hO.ne;refine⟨by show j<_;rw[h2];exact Nat.mod_lt _ hl,by show 0<n;rw[<- e];exact(hK.pos x hx).1,by show n<=B;rw[<- e];exact hB x hx⟩
  ·refine ih (qE hK z0) (λ y hy=>?_) p hp;obtain⟨z,hz,rfl⟩:=List.mem_map.mp hy
   split
   ·exact hB z hz
   ·exact hB z hz
theorem ahf{S:Sh}(hO:OkS S){tr:List (Nat×Int)}(h:∀ p∈tr,p.1<S.length/\0<p.2/\p.2<=2000000000):okD 2 (.list (trD S tr))=true:=by simp only[okD];refine m9 λ d hd=>?_;obtain⟨p,hp,rfl⟩:=List.mem_map.mp hd;have:=h p hp;simp only[okD,okA,Bool.and_eq_true,decide_eq_true_eq,and_true];exact⟨uF (lM hO (iz this.1)),by omega⟩
theorem af3{q r:Addr}{t:Int}{v:W}:(FD q r t v).lookup ("lead" : Str)=none:=rfl
def Fx(d q r m w h p:Addr)(M M':MH):Prop:=∀ b o,b≠p->b≠d->b≠q->b≠r->b≠m->b≠w->b≠h->M b=some o->M' b=some o
theorem aca{z:Str}:∀ {N:List Str} {c:List Int},z ∉ N->eL (kvL N c) (.inr z)=none
 | [],_,_=>by simp[kvL,eL]
 | _::_,[],_=>by simp[kvL,eL]
 | a::N,b::c,h=>by show eL (((.inr a:Key),W.d (.int b))::kvL N c) (.inr z)=none;rw[gG,if_neg λ e=>h (by rw[Sum.inr.inj e];exact List.mem_cons_self ..)];exact aca λ hm=>h (List.mem_cons_of_mem _ hm)
theorem aiT{S S2:Sh}{u:List Int}(hO:OkS S)(lu:u.length=S.length)(bd:∀ j,0<=cv u j/\cv u j<=40):∃ u2:List Int,u2.length=S2.length/\(∀ i z,(nmL S2)[i]? =some z->(eL (kvL (nmL S) u) (.inr z)).getD (.d (.int 0))=.d (.int (cv u2 i)))/\∀ j,0<=cv u2 j/\cv u2 j<=40:=by
 have one:∀ z:Str,∃ n:Int,(eL (kvL (nmL S) u) (.inr z)).getD (.d (.int 0))=.d (.int n)/\0<=n/\n<=40:=λ z=>by
  by_cases h:z∈nmL S
  ·obtain⟨i,hi,e⟩:=List.getElem_of_mem h;have hz:(nmL S)[i]? =some z:=by rw[List.getElem?_eq_getElem hi,e]
   rw[iA (N:=nmL S) hO.nd hz (oF (by rw[lu];simpa [nmL] using hi))];exact⟨cv u i,rfl,bd i⟩
  ·rw[aca h];exact⟨0,rfl,by decide,by decide⟩
 have all:∀ N:List Str,∃ u2:List Int,u2.length=N.length/\(∀ i z,N[i]? =some z->(eL (kvL (nmL S) u) (.inr z)).getD (.d (.int 0))=.d (.int (cv u2 i)))/\∀ j,0<=cv u2 j/\cv u2 j<=40:=λ N=>by
  induction N with
  | nil=>exact⟨[],rfl,(λ i z h=>by simp at h),λ j=>by simp[cv]⟩
  | cons a N ih =>
   obtain⟨u2,h1,h2,h3⟩:=ih;obtain⟨n,e,b1,b2⟩:=one a;refine⟨n::u2,by simp[h1],λ i z h=>?_,λ j=>?_⟩
   ·cases i with
    | zero=>simp at h;subst h;exact e
    | succ i=>exact h2 i z (by simpa using h)
   ·cases j with
    | zero=>exact⟨b1,b2⟩
    | succ j=>exact h3 j
 obtain⟨u2,h1,h2,h3⟩:=all (nmL S2);exact⟨u2,by rw[h1];simp[nmL],h2,h3⟩
theorem str_int{S:Sh}(hO:OkS S){c:List Int}:(MO.lst (cN (rw0 S (wn S))):MO) ≠ .lst (cI c):=λ e=>by
 have e2:=MO.lst.inj e;have hl:(rw0 S (wn S)).length=wn S:=adN S (wn S);have:=(rV hO).1;cases hL:rw0 S (wn S) with
 | nil=>rw[hL] at hl;simp at hl;omega
 | cons x xs =>
  rw[hL] at e2;cases c with
  | nil=>simp[cN,cI] at e2
  | cons y ys=>simp[cN,cI] at e2
inductive rJ(ws:List W) (M:MH) (Q:QD):Prop
 | mk (S:Sh) (p d q r m w h:Addr) (u:List Int) (t:Nat) (v:W) (l:Int) (z0:ws=[.m p,.m d,.m m]) (z1:OkS S) (z2:Jt M S p d q r m w h u t v l) (zt:t<=100000)
  (z3:∀ S' q' r' w' h' u' t' v' l' M',OkS S'->Jt M' S' p d q' r' m w' h' u' t' v' l'->t'<=t+100->(∀ a,a=q'\/a=r'\/a=w'\/a=h'->a=q\/a=r\/a=w\/a=h\/M a=none)->Fx d q r m w h p M M'->Q (.d (.bool true)) M'):rJ ws M Q
def dA:SpD:=rJ
theorem vU:∀ ws M Q,dA ws M Q->ws.length=3:=by rintro ws M Q ⟨S,p,d,q,r,m,w,h,u,t,v,l,rfl,_⟩;rfl
theorem tw:∀ ws M Q,dA ws M Q->uU au cn ck bA cM bK aZ cU bP ax cy bp e9 {nx:=λ _ M'=>Q (.d .none) M',rt:=Q} (aX um ws) M:=by
 rintro ws M Q ⟨S,p,d,q,r,m,w,h,u,t,v,l,rfl,hO,J,ht,k⟩;have sl:=s16;have h4:=hO.len;have h1:=List.length_pos_iff.mpr hO.ne;have old:∀ a,a=q\/a=r\/a=w\/a=h->a=q\/a=r\/a=w\/a=h\/M a=none:=λ a ha=>by rcases ha with z | z | z | z<;>simp[z]
 refine⟨_,rfl,p,10,rfl,J.B,by decide,by decide,λ x M1 x0 x1 b1 f1=>?_⟩;replace J:=J.take b1 f1;refine⟨_,rfl,m,_,.inr "shares",_,rfl,.inl J.H.hm,rfl,mO,_,rfl,_,rfl,m,_,.inr "shares",_,rfl,.inl J.H.hm,rfl,mO,_,_,rfl,rfl,rfl,p,_,rfl,J.B,by rw[List.length_map];omega,by rw[List.length_map];omega,λ y M2 y0 y1 b2 f2=>?_⟩;rw[List.length_map] at y1;replace J:=J.take b2 f2;have F0:∀ b,b≠p->M2 b=M b:=λ b n=>by rw[f2 b n,f1 b n]
 clear b1 f1 b2 f2;obtain⟨i,rfl⟩:=Int.eq_ofNat_of_zero_le y0;have hi:i<S.length:=by omega
 obtain⟨rr,hr⟩:∃ rr,S[i]? =some rr:=⟨_,List.getElem?_eq_getElem hi⟩;obtain⟨hnm,hns⟩:=kb hr;refine⟨_,_,rfl,vf hr,rfl,0,_,rfl,rfl,rfl,?_⟩;have dm:d≠m:=gy J.D.hd J.H.hm nofun;have dw:d≠w:=gy J.D.hd J.H.hw nofun;have dh:d≠h:=gy J.D.hd J.H.hh nofun;have qh:q≠h:=gy J.D.hq J.H.hh nofun;have rm:r≠m:=gy J.D.hr J.H.hm nofun;have rw':r≠w:=gy J.D.hr J.H.hw nofun;have Cd:aw≠d:=gy J.C J.D.hd nofun;have Cq:aw≠q:=gy J.C J.D.hq nofun;have Cm:aw≠m:=gy J.C J.H.hm nofun;have Cw:aw≠w:=gy J.C J.H.hw nofun;have Ch:aw≠h:=gy J.C J.H.hh nofun;refine⟨_,rfl,_,_,rfl,rfl,_,rfl,df (λ _=>?_) (λ _=>?_)⟩
 ·refine⟨_,rfl,p,4,rfl,J.B,by decide,by decide,λ a Ma a0 a1 ba ga=>.inl ⟨_,_,rfl,rfl,_,rfl,p,40,rfl,ba,by decide,by decide,λ c Mc c0 c1 bc gc=>.inl ⟨_,_,rfl,rfl,_,rfl,few (by simp),_,rfl,p,2,rfl,bc,by decide,by decide,λ e Me e0 e1 be ge=>?_⟩⟩⟩;replace J:=((J.take ba ga).take bc gc).take be ge;obtain⟨n,hix,hn⟩:=two_ix (M:=Me) a0 c0 e0 e1;refine⟨_,_,rfl,hix,rfl,?_⟩;obtain⟨H',J'⟩:=J.asked (i:=i) (n:=n) hn hi;refine⟨_,rfl,d,_,rfl,J.D.hd,ag7,_,rfl,_,rfl,S,d,q,r,u,t,v,i,rr.1,n,rfl,hO,J.D,hnm,_,rfl,_,rfl,_,rfl,S,m,w,h,u,t,l,i,rr.1,n,rfl,hO,H',hnm,(J.bd i).2,hn,_,_,.d,.d,dP _ _,?_⟩;rw[i7,decide_eq_true rfl];exact k S q r w h _ t v l _ hO J' (by omega) old λ b o n0 n1 n2 n3 n4 n5 n6 z=>by rw[ae n5,ae n2,ge b n0,gc b n0,ga b n0,F0 b n0];exact z
 refine⟨_,rfl,_,_,rfl,rfl,_,rfl,df (λ _=>?_) (λ _=>?_)⟩
 ·have hu:=λ i=>(J.bd i).1;refine⟨_,rfl,d,_,rfl,J.D.hd,af5,S,d,q,r,u,t,v,rfl,hO,J.D,hu,?_⟩
  by_cases hz:∀ i,cv u i=0
  ·refine .inl ⟨hz,_,rfl,S,m,w,h,u,t,l,rfl,hO,J.H,hu,.inl ⟨hz,_,_,.d,.d,rfl,?_⟩⟩;exact k S q r w h u t v l _ hO J (by omega) old λ b o n0 _ _ _ _ _ _ z=>by rw[F0 b n0];exact z
  obtain⟨kk,j,h1,h2,h3,h5⟩:=wZ J.D.lu (rG hO t) hu hz;have hj:j<S.length:=by rw[h2];exact Nat.mod_lt _ (by omega)
  refine .inr ⟨kk,j,h1,h2,h3,h5,λ M4 a1 a2 fr=>?_⟩;have H4:Mo M4 S m w h u t l:=J.H.keep λ b o hb e=>fr b o (by rcases hb with rfl | rfl | rfl<;>first | exact dm.symm | exact dw.symm | exact dh.symm) (by rcases hb with rfl | rfl | rfl<;>first | exact J.qm.symm | exact J.qw.symm | exact qh.symm) e
  refine⟨_,rfl,S,m,w,h,u,t,l,rfl,hO,H4,hu,.inr ⟨kk,j,h1,h2,h3,h5,λ M5 H5 fr5=>⟨_,_,.d,.d,rfl,?_⟩⟩⟩;rw[ux,decide_eq_true rfl];exact k S q r w h _ (t+1) v l M5 hO ⟨Jt.bag J.B λ o e=>fr5 _ _ J.pm.symm J.pw.symm J.ph.symm (fr _ _ J.pd.symm J.pq.symm e),fr5 _ _ Cm Cw Ch (fr _ _ Cd Cq J.C),⟨fr5 _ _ dm dw dh a1,fr5 _ _ J.qm J.qw qh a2,fr5 _ _ rm rw' J.rh (fr _ _ J.D.nr.symm J.D.qr.symm J.D.hr),by rw[List.length_set];exact J.D.lu⟩,H5,J.V,J.qm,J.qw,J.rh,vi J.bd h3 (by rw[J.D.lu];exact hj)⟩ (by omega) old
   λ b o n0 n1 n2 n3 n4 n5 n6 z=>fr5 _ _ n4 n5 n6 (fr _ _ n1 n2 (by rw[F0 b n0];exact z))
 dsimp only[cG];refine iN (λ M'=>Jt M' S p d q r m w h u t v l/\∀ b,b≠p->M' b=M b) (λ M3 P=>?_) (λ rest=>?_)
 case refine_2 =>
  refine⟨_,rfl,_,_,.d,.d,dP _ _,_,rfl,?_⟩;rw[i7];refine df (λ _=>?_) (λ _=>hU (rest _ ⟨J,F0⟩));refine⟨_,rfl,p,2,rfl,J.B,by decide,by decide,λ y M3 y0 y1 b3 f3=>⟨_,_,.d,.d,dP _ _,_,rfl,?_⟩⟩;replace J:=J.take b3 f3;have F1:∀ b,b≠p->M3 b=M b:=λ b n=>by rw[f3 b n,F0 b n]
  refine df (λ _=>?_) (λ _=>rest _ ⟨J,F1⟩);refine⟨_,rfl,S,m,w,h,t,l,rfl,hO,J.H.hm,λ h' M' hh a1 a2 fr=>?_⟩;have hd':=fr _ _ dm J.D.hd;refine⟨_,rfl,d,_,rfl,hd',aeZ,d,q,r,t,v,rfl,hd',rfl,?_⟩;have new:∀ b o,M3 b=some o->b≠h':=λ b o e=>ay e hh;have dh':=new _ _ J.D.hd;refine k S q r w h' u 0 v l _ hO ⟨Jt.bag J.B λ o e=>by rw[ae J.pd.symm];exact fr _ _ J.pm.symm e,by rw[ae Cd];exact fr _ _ Cm J.C,⟨ab,by rw[ae J.D.nq.symm];exact fr _ _ J.qm J.D.hq,by rw[ae J.D.nr.symm];exact fr _ _ rm J.D.hr,J.D.lu⟩,
   ⟨by rw[ae dm.symm];exact a1,by rw[ae dw.symm];exact fr _ _ J.H.ne.symm J.H.hw,by rw[ae dh'.symm];exact a2,J.H.lu,J.H.ne⟩,J.V,J.qm,J.qw,new _ _ J.D.hr,J.bd⟩ (by omega) (λ a ha=>?_)
   λ b o n0 n1 n2 n3 n4 n5 n6 z=>by rw[ae n1];exact fr _ _ n4 (by rw[F1 b n0];exact z)
  have nh:M h'=none:=by
   have n:h'≠p:=λ z=>by obtain⟨_,_,_,_,e,_⟩:=J.B;rw[z,e] at hh;cases hh
   rw[<- F1 h' n];exact hh
  rcases ha with z | z | z | z<;>simp[z,nh]
 obtain⟨J,F0⟩:=P;refine iN (λ M'=>Jt M' S p d q r m w h u t v l/\∀ b,b≠p->M' b=M b) (λ M4 P=>?_) (λ rest=>?_)
 case refine_2 =>
  refine⟨_,rfl,_,_,.d,.d,dP _ _,_,rfl,?_⟩;rw[i7];refine df (λ _=>?_) (λ _=>hU (rest _ ⟨J,F0⟩));refine⟨_,rfl,p,2,rfl,J.B,by decide,by decide,λ y M4 y0 y1 b4 f4=>⟨_,_,.d,.d,dP _ _,_,rfl,?_⟩⟩;replace J:=J.take b4 f4;have F1:∀ b,b≠p->M4 b=M b:=λ b n=>by rw[f4 b n,F0 b n]
  refine df (λ _=>?_) (λ _=>rest _ ⟨J,F1⟩);refine⟨_,rfl,_,rfl,p,S,m,w,h,t,l,rfl,hO,J.B,J.H.hm,λ S2 M5 hO2 b5 F5=>?_⟩;replace J:=J.fp b5 F5;have F2:∀ b o,b≠p->M b=some o->M5 b=some o:=λ b o n z=>F5 b o n (by rw[F1 b n];exact z);have N5:∀ a,M5 a=none->M a=none:=λ a ha=>by
   cases z:M a with
   | none=>rfl
   | some o =>
    have n:a≠p:=λ e=>by obtain⟨_,_,_,_,e',_⟩:=J.B;rw[e,e'] at ha;cases ha
    rw[F2 a o n z] at ha;cases ha
  obtain⟨u2,lu2,hu2,bd2⟩:=aiT (S2:=S2) hO J.D.lu J.bd;refine⟨_,rfl,_,rfl,S,S2,m,w,h,t,l,kvL (nmL S) u,u2,rfl,hO2,J.H.hm,J.H.hw,lu2,hu2,λ w' h' M6 hw' hh' H6 fr6=>?_⟩;have hd6:=fr6 _ _ dm J.D.hd;refine⟨_,rfl,d,_,rfl,hd6,ady,_,rfl,_,_,rfl,.l,λ f hf=>⟨f,S2.map bZ,rfl,ab,?_⟩⟩;have x7:=sealed (o:=.lst ((S2.map bZ).map W.d)) hf;generalize ik (aE M6 f (.lst ((S2.map bZ).map W.d))) f=M7 at x7;have hd7:=x7 _ _ hd6;refine⟨S2,d,q,r,t,v,kvL (nmL S) u,u2,rfl,hO2,x7 _ _ (fr6 _ _ Cm J.C),hd7,x7 _ _ (fr6 _ _ J.qm J.D.hq),lu2,hu2,λ q' r' M8 hq' hr' D8 fr8=>⟨rfl,?_⟩⟩;have wd':w'≠d:=gy H6.hw hd6 nofun;have hd'':h'≠d:=gy H6.hh hd6 nofun;have N7:∀ a,M7 a=none->M a=none:=λ a ha=>N5 a (by
   have h6:=x7.none ha;cases z:M5 a with
   | none=>rfl
   | some o =>
    have n:a≠m:=λ e=>by rw[e,H6.hm] at h6;cases h6
    rw[fr6 a o n z] at h6;cases h6)
  have h8:=fr8 _ _ hd'' (x7 _ _ H6.hh);refine k S2 q' r' w' h' u2 0 v l M8 hO2 ⟨Jt.bag J.B λ o e=>fr8 _ _ J.pd.symm (x7 _ _ (fr6 _ _ J.pm.symm e)),fr8 _ _ Cd (x7 _ _ (fr6 _ _ Cm J.C)),D8,⟨fr8 _ _ dm.symm (x7 _ _ H6.hm),fr8 _ _ wd' (x7 _ _ H6.hw),h8,H6.lu,H6.ne⟩,J.V,(ay (x7 _ _ H6.hm) hq').symm,(ay (x7 _ _ H6.hw) hq').symm,gy D8.hr h8 (str_int hO2),bd2⟩ (by omega) (λ a ha=>?_)
   λ b o n0 n1 n2 n3 n4 n5 n6 z=>fr8 _ _ n1 (x7 _ _ (fr6 _ _ n4 (F2 b o n0 z)))
  rcases ha with z | z | z | z
  ·simp[z,N7 q' hq']
  ·simp[z,N7 r' hr']
  ·simp[z,N5 w' hw']
  ·simp[z,N5 h' hh']
 obtain⟨J,F0⟩:=P;refine⟨_,rfl,p,0,5,rfl,⟨by decide,by decide⟩,J.B,λ cps M5 hC b5 F5=>?_⟩;replace J:=J.fp b5 F5;have F2:∀ b o,b≠p->M b=some o->M5 b=some o:=λ b o n z=>F5 b o n (by rw[F0 b n];exact z);refine⟨_,rfl,d,_,rfl,J.D.hd,af3,_,rfl,_,_,rfl,.l,λ f hf=>⟨f,cps.map cpD,rfl,ab,?_⟩⟩;have x6:=sealed (o:=.lst ((cps.map cpD).map W.d)) hf;generalize ik (aE M5 f (.lst ((cps.map cpD).map W.d))) f=M6 at x6;replace J:=J.ext x6;have hcl:cps.length<=100:=by have:=hC.len;omega
 obtain⟨tr,l',u',t',R,ht1,ht2,lu',hu'⟩:=ab0 hO 18 (l:=l) (u:=u) (t:=t) hC.hk (by have:=hC.sum;omega) J.D.lu J.bd;have okT:=ahf hO λ z hz=>by
  have hb:=agH hO (B:=1000000100) R hC.hk (λ x hx=>by obtain⟨c,hc,rfl⟩:=List.mem_map.mp hx;have:=(hC.bd c (pS hc)).2.1;show c.1<=_;omega) z hz
  exact⟨hb.1,hb.2.1,by omega⟩
 refine⟨S,d,q,r,u,t,v,l,cps,tr,l',u',t',rfl,λ _=>hO,J.D,J.V,J.bd,hC.hk,hcl,R,by omega,λ v' p1 M7 hv' D' hp1 mp1 fr=>?_⟩;have H3:Mo M7 S m w h u t l:=J.H.keep λ b o hb e=>fr b o (by rcases hb with rfl | rfl | rfl<;>first | exact dm.symm | exact dw.symm | exact dh.symm) (by rcases hb with rfl | rfl | rfl<;>first | exact J.qm.symm | exact J.qw.symm | exact qh.symm) e
 refine⟨_,rfl,_,rfl,S,m,w,h,u,t,l,cps,0,tr,l',u',t',rfl,hO,H3,J.bd,hC,by omega,R,by omega,λ p2 M8 H4 hp2 mp2 fr4=>?_⟩;have pm1:p1≠m:=(ay J.H.hm hp1).symm;have pw1:p1≠w:=(ay J.H.hw hp1).symm;have ph1:p1≠h:=(ay J.H.hh hp1).symm;have m4:=fr4 _ _ pm1 pw1 ph1 mp1;refine⟨_,_,.l m4,.l mp2,pF (k:=2) (by decide) okT okT,?_⟩;rw[wY okT];exact k S q r w h u' t' v' l' M8 hO ⟨Jt.bag J.B λ x e=>fr4 _ _ J.pm.symm J.pw.symm J.ph.symm (fr _ _ J.pd.symm J.pq.symm e),fr4 _ _ Cm Cw Ch (fr _ _ Cd Cq J.C),
   ⟨fr4 _ _ dm dw dh D'.hd,fr4 _ _ J.qm J.qw qh D'.hq,fr4 _ _ rm rw' J.rh D'.hr,D'.lu⟩,H4,hv',J.qm,J.qw,J.rh,hu'⟩ (by omega) old
   λ b o n0 n1 n2 n3 n4 n5 n6 z=>fr4 _ _ n4 n5 n6 (fr _ _ n1 n2 (x6 _ _ (F2 b o n0 z)))
def Dj(xs ys:List Addr):Prop:=∀ a∈xs,∀ b∈ys,a≠b
theorem Dj.symm{xs ys:List Addr}(h:Dj xs ys):Dj ys xs:=λ a ha b hb=>(h b hb a ha).symm
theorem oJ{M:MH}{d q r m w h q' r' w' h':Addr}{Y:List Addr}(dj:Dj [d,q,r,m,w,h] Y)(pres:∀ y∈Y,M y≠none)(nw:∀ a,a=q'\/a=r'\/a=w'\/a=h'->a=q\/a=r\/a=w\/a=h\/M a=none):Dj [d,q',r',m,w',h'] Y:=by
 have go:∀ a,a=q'\/a=r'\/a=w'\/a=h'->∀ y∈Y,a≠y:=λ a ha y hy e=>by
  rcases nw a ha with z | z | z | z | z
  ·exact dj q (by simp) y hy (z ▸ e)
  ·exact dj r (by simp) y hy (z ▸ e)
  ·exact dj w (by simp) y hy (z ▸ e)
  ·exact dj h (by simp) y hy (z ▸ e)
  ·rw[e] at z;exact pres y hy z
 intro a ha y hy;simp only[List.mem_cons,List.not_mem_nil,or_false] at ha;rcases ha with rfl | rfl | rfl | rfl | rfl | rfl
 ·exact dj _ (by simp) y hy
 ·exact go _ (by simp) y hy
 ·exact go _ (by simp) y hy
 ·exact dj _ (by simp) y hy
 ·exact go _ (by simp) y hy
 ·exact go _ (by simp) y hy
theorem Fx.at{d q r m w h p b:Addr}{M M':MH}{o:MO}(F:Fx d q r m w h p M M')(np:b≠p)(dj:∀ a∈[d,q,r,m,w,h],a≠b)(e:M b=some o):M' b=some o:=
 F b o np (dj d (by simp)).symm (dj q (by simp)).symm (dj r (by simp)).symm (dj m (by simp)).symm (dj w (by simp)).symm (dj h (by simp)).symm e
section
variable {M M':MH}{S T:Sh}{p d q r m w h d2 q2 r2 m2 w2 h2:Addr}{u u2:List Int}{t t2:Nat}{v v2:W}{l l2:Int}
theorem Jt.pass(J:Jt M S p d q r m w h u t v l)(K:Jt M T p d2 q2 r2 m2 w2 h2 u2 t2 v2 l2)(b:Bag M' p)(F:Fx d q r m w h p M M')(dj:Dj [d,q,r,m,w,h] [d2,q2,r2,m2,w2,h2]):Jt M' T p d2 q2 r2 m2 w2 h2 u2 t2 v2 l2:=by
 have at':∀ x o,x≠p->x∈[d2,q2,r2,m2,w2,h2]->M x=some o->M' x=some o:=λ x o n hx e=>F.at n (λ a ha=>dj a ha x hx) e;refine⟨b,F.at J.pC (λ a ha=>?_) J.C,⟨at' _ _ K.pd (by simp) K.D.hd,at' _ _ K.pq (by simp) K.D.hq,at' _ _ K.pr (by simp) K.D.hr,K.D.lu⟩,⟨at' _ _ K.pm (by simp) K.H.hm,at' _ _ K.pw (by simp) K.H.hw,at' _ _ K.ph (by simp) K.H.hh,K.H.lu,K.H.ne⟩,K.V,K.qm,K.qw,K.rh,K.bd⟩;simp only[List.mem_cons,List.not_mem_nil,or_false] at ha;rcases ha with rfl | rfl | rfl | rfl | rfl | rfl
 ·exact(gy J.C J.D.hd nofun).symm
 ·exact(gy J.C J.D.hq nofun).symm
 ·exact(gy J.C J.D.hr nofun).symm
 ·exact(gy J.C J.H.hm nofun).symm
 ·exact(gy J.C J.H.hw nofun).symm
 ·exact(gy J.C J.H.hh nofun).symm
theorem Jt.there(J:Jt M S p d q r m w h u t v l):∀ y∈[d,q,r,m,w,h],M y≠none:=λ y hy=>by
 simp only[List.mem_cons,List.not_mem_nil,or_false] at hy;rcases hy with rfl | rfl | rfl | rfl | rfl | rfl
 ·rw[J.D.hd];simp
 ·rw[J.D.hq];simp
 ·rw[J.D.hr];simp
 ·rw[J.H.hm];simp
 ·rw[J.H.hw];simp
 ·rw[J.H.hh];simp
end
theorem om{xs ys zs:List Addr}:Dj xs (ys++zs) ↔ Dj xs ys/\Dj xs zs:=⟨λ h=>⟨λ a ha b hb=>h a ha b (List.mem_append.mpr (.inl hb)),λ a ha b hb=>h a ha b (List.mem_append.mpr (.inr hb))⟩,λ h a ha b hb=>(List.mem_append.mp hb).elim (h.1 a ha b) (h.2 a ha b)⟩
structure Tw(M:MH)(p dd ll:Addr)(S:Sh)(d q r m w h:Addr)(u:List Int)(t:Nat)(v:W)(l:Int)(T:Sh)(d2 q2 r2 m2 w2 h2:Addr)(u2:List Int)(t2:Nat)(v2:W)(l2:Int):Prop where
 O1:OkS S
 O2:OkS T
 J1:Jt M S p d q r m w h u t v l
 J2:Jt M T p d2 q2 r2 m2 w2 h2 u2 t2 v2 l2
 hD:M dd=some (.lst [.m d,.m d2])
 hL:M ll=some (.lst [.m m,.m m2])
 j12:Dj [d,q,r,m,w,h] [d2,q2,r2,m2,w2,h2]
 j1l:Dj [d,q,r,m,w,h] [dd,ll]
 j2l:Dj [d2,q2,r2,m2,w2,h2] [dd,ll]
 pl:dd≠p/\ll≠p
section
variable {M M':MH}{p dd ll:Addr}{S T S':Sh}{d q r m w h d2 q2 r2 m2 w2 h2 q' r' w' h':Addr}{u u2 u':List Int}{t t2 t':Nat}{v v2 v':W}{l l2 l':Int}
theorem Tw.take(X:Tw M p dd ll S d q r m w h u t v l T d2 q2 r2 m2 w2 h2 u2 t2 v2 l2)(b:Bag M' p)(f:∀ a,a≠p->M' a=M a):Tw M' p dd ll S d q r m w h u t v l T d2 q2 r2 m2 w2 h2 u2 t2 v2 l2:=
 ⟨X.O1,X.O2,X.J1.take b f,X.J2.take b f,by rw[f _ X.pl.1];exact X.hD,by rw[f _ X.pl.2];exact X.hL,X.j12,X.j1l,X.j2l,X.pl⟩
theorem Tw.one(X:Tw M p dd ll S d q r m w h u t v l T d2 q2 r2 m2 w2 h2 u2 t2 v2 l2)(hO:OkS S')(J:Jt M' S' p d q' r' m w' h' u' t' v' l')
  (nw:∀ a,a=q'\/a=r'\/a=w'\/a=h'->a=q\/a=r\/a=w\/a=h\/M a=none)(F:Fx d q r m w h p M M'):Tw M' p dd ll S' d q' r' m w' h' u' t' v' l' T d2 q2 r2 m2 w2 h2 u2 t2 v2 l2:=by
 have lt:∀ y∈[dd,ll],M y≠none:=λ y hy=>by
  simp only[List.mem_cons,List.not_mem_nil,or_false] at hy;rcases hy with rfl | rfl
  ·rw[X.hD];simp
  ·rw[X.hL];simp
 exact⟨hO,X.O2,J,X.J1.pass X.J2 J.B F X.j12,F.at X.pl.1 (λ a ha=>X.j1l a ha _ (by simp)) X.hD,F.at X.pl.2 (λ a ha=>X.j1l a ha _ (by simp)) X.hL,oJ X.j12 X.J2.there nw,oJ X.j1l lt nw,X.j2l,X.pl⟩
theorem Tw.two(X:Tw M p dd ll S d q r m w h u t v l T d2 q2 r2 m2 w2 h2 u2 t2 v2 l2)(hO:OkS S')(J:Jt M' S' p d2 q' r' m2 w' h' u' t' v' l')
  (nw:∀ a,a=q'\/a=r'\/a=w'\/a=h'->a=q2\/a=r2\/a=w2\/a=h2\/M a=none)(F:Fx d2 q2 r2 m2 w2 h2 p M M'):Tw M' p dd ll S d q r m w h u t v l S' d2 q' r' m2 w' h' u' t' v' l':=by
 have lt:∀ y∈[dd,ll],M y≠none:=λ y hy=>by
  simp only[List.mem_cons,List.not_mem_nil,or_false] at hy;rcases hy with rfl | rfl
  ·rw[X.hD];simp
  ·rw[X.hL];simp
 exact⟨X.O1,hO,X.J2.pass X.J1 J.B F X.j12.symm,J,F.at X.pl.1 (λ a ha=>X.j2l a ha _ (by simp)) X.hD,F.at X.pl.2 (λ a ha=>X.j2l a ha _ (by simp)) X.hL,(oJ X.j12.symm X.J1.there nw).symm,X.j1l,oJ X.j2l lt nw,X.pl⟩
end
theorem cY{M:MH}{b:Addr}{x y:W}(h:M b=some (.lst [x,y])):ixW M (.m b) 0=some x/\ixW M (.m b) 1=some y:=by
 constructor
 ·simp only[ixW,h];rfl
 ·simp only[ixW,h];rfl
inductive aik(p dd ll d m d2 m2:Addr) (i:Nat) (τ:DS) (M':MH):Prop
 | mk (S:Sh) (q r w h:Addr) (u:List Int) (t:Nat) (v:W) (l:Int) (T:Sh) (q2 r2 w2 h2:Addr) (u2:List Int) (t2:Nat) (v2:W) (l2:Int) (z:Tw M' p dd ll S d q r m w h u t v l T d2 q2 r2 m2 w2 h2 u2 t2 v2 l2) (z1:t<=100 * i/\t2<=100 * i) (x0 x2 x3 x6 x7:Option W) (z2:τ=[x0,some (.m p),x2,x3,some (.m dd),some (.m ll),x6,x7]):aik p dd ll d m d2 m2 i τ M'
def lp:SpD:=λ ws M Q=>∃ ns:List Int,ws=[.d (.list (ns.map PyData.int))]/\ns.length<=63/\M aw=some cdR/\∀ M',Q (.d (.bool true)) M'
theorem ads:∀ ws M Q,lp ws M Q->ws.length=1:=by rintro ws M Q ⟨d,rfl,_⟩;rfl
theorem aaV:∀ ns:List Int,ns.length<=63->lp [.d (.list (ns.map PyData.int))] (M1T aw fF ⟨39,41,39,92⟩) (λ w _=>w=.d (.bool true)):=λ ns h=>⟨ns,rfl,h,if_pos rfl,λ _=>rfl⟩
structure Dn(M:MH)(S:Sh)(d q r:Addr):Prop where
 D:Dr M S d q r (zz S) 0 (.d .none)
theorem turned{S:Sh}(hO:OkS S):OkS (S.map λ r=>(r.1,10-r.2)):=by refine⟨λ e=>hO.ne (List.map_eq_nil_iff.mp e),by rw[List.length_map];exact hO.len,λ r hr=>?_,by rw[List.map_map];exact hO.nd⟩;obtain⟨r0,h0,rfl⟩:=List.mem_map.mp hr;have:=hO.row r0 h0;exact⟨this.1,by show 1<=10-r0.2;omega,by show 10-r0.2<=9;omega⟩
theorem ip{M:MH}{xs ys:List Addr}(h:∀ a∈xs,M a≠none)(k:∀ b∈ys,M b=none):Dj xs ys:=λ a ha b hb e=>h a ha (e ▸ k b hb)
theorem afC{M:MH}{a b c:Addr}(h1:M a≠none)(h2:M b≠none)(h3:M c≠none):∀ x∈[a,b,c],M x≠none:=λ x hx=>by simp only[List.mem_cons,List.not_mem_nil,or_false] at hx;rcases hx with rfl | rfl | rfl<;>assumption
theorem agY{M:MH}{a b c:Addr}(h1:M a=none)(h2:M b=none)(h3:M c=none):∀ x∈[a,b,c],M x=none:=λ x hx=>by simp only[List.mem_cons,List.not_mem_nil,or_false] at hx;rcases hx with rfl | rfl | rfl<;>assumption
theorem aeo{M:MH}{a:Addr}(h:M a=none):∀ x∈[a],M x=none:=λ x hx=>by rw[List.mem_singleton.mp hx];exact h
theorem Dr.there{M:MH}{S:Sh}{d q r:Addr}{u:List Int}{t:Int}{v:W}(D:Dr M S d q r u t v):∀ x∈[d,q,r],M x≠none:=afC (by rw[D.hd];simp) (by rw[D.hq];simp) (by rw[D.hr];simp)
theorem Dr.fr{M M':MH}{S:Sh}{d q r x:Addr}{u:List Int}{t:Int}{v:W}(D:Dr M S d q r u t v)(F:Fr M M' x)(dj:Dj [d,q,r] [x]):Dr M' S d q r u t v:=⟨F _ _ (dj d (by simp) x (by simp)) D.hd,F _ _ (dj q (by simp) x (by simp)) D.hq,F _ _ (dj r (by simp) x (by simp)) D.hr,D.lu⟩
theorem xu{M M':MH}{xs:List Addr}(x:Ext M M')(h:∀ a∈xs,M a≠none):∀ a∈xs,M' a≠none:=λ a ha=>by
 cases e:M a with
 | none=>exact absurd e (h a ha)
 | some o=>rw[x a o e];simp
theorem ai1:sJ (hkC (usC [(1,3,true)])):=⟨by simp[usC,hkC],λ p hp=>by simp[usC,hkC] at hp;subst hp;exact⟨by decide,by decide⟩⟩
theorem ajd:frH (hkC (usC [(1,3,true)]))≠[]:=by simp[usC,hkC,frH]
inductive ahT(S T:Sh) (p dd d q r:Addr) (M':MH):Prop
 | mk (d2 q2 r2:Addr) (b:Bag M' p) (C:M' aw=some cdR) (D1:Dr M' S d q r (zz S) (0:Nat) (.d .none)) (D2:Dr M' T d2 q2 r2 (zz T) (0:Nat) (.d .none)) (hD:M' dd=some (.lst [.m d,.m d2])) (j12:Dj [d,q,r] [d2,q2,r2]) (j1:Dj [d,q,r] [dd]) (j2:Dj [d2,q2,r2] [dd]) (pl:dd≠p):ahT S T p dd d q r M'
theorem aas:∀ ws M Q,lp ws M Q->aew eS br au bC bp ax cB dA bS {nx:=λ _ M'=>Q (.d .none) M',rt:=Q} (aX afv ws) M:=by
 rintro ws M Q ⟨ns,rfl,hl,hC,k⟩;have sl:=s16;refine⟨_,rfl,ns,rfl,by omega,λ p M1 hp f1 b1=>?_⟩;have pC:aw≠p:=λ e=>by rw[e,hp] at hC;cases hC
 have C1:M1 aw=some cdR:=by rw[f1 _ pC];exact hC
 refine⟨_,rfl,p,rfl,b1,λ S M2 hO b2 g2=>?_⟩;have C2:=g2 _ _ pC C1;have h4:=hO.len;refine⟨_,rfl,p,rfl,b2,λ T0 M3 hT0 b3 g3=>⟨_,rfl,_,rfl,?_⟩⟩;have C3:=g3 _ _ pC C2;rw[List.map_map];refine fN S (W.d ∘ bZ) (λ r=>.tuple [.str r.1,.int (10-(r.2:Nat))]) (λ τ=>∃ x y,τ=[x,y]) (by omega) ⟨_,_,rfl⟩ (λ r hr τ hτ R h=>?_) (λ τ=>?_)
 ·obtain⟨x,y,rfl⟩:=hτ;exact⟨_,rfl,rfl,_,_,rfl,_,_,rfl,rfl,_,rfl,_,rfl,_,_,rfl,rfl,_,rfl,few (by simp),_,rfl,h _ ⟨_,_,rfl⟩⟩
 have eT:(S.map λ r=>PyData.tuple [.str r.1,.int (10-(r.2:Nat))])=(S.map λ r=>(r.1,10-r.2)).map bZ:=by rw[List.map_map];refine List.map_congr_left λ r hr=>?_;have:=hO.row r hr;show PyData.tuple [.str r.1,.int (10-((r.2:Nat):Int))]=.tuple [.str r.1,.int ((10-r.2:Nat):Int)];rw[show((10-r.2:Nat):Int)=10-((r.2:Nat):Int) by omega]
 refine⟨_,rfl,few (by simp),_,rfl,p,2,rfl,b3,by decide,by decide,λ x M4 x0 x1 b4 g4=>?_⟩;have C4:M4 aw=some cdR:=by rw[g4 _ pC];exact C3
 obtain⟨T,hT,hix⟩:∃ T:Sh,OkS T/\ixW M4 (.d (.list [shD T0,.list (S.map λ r=>PyData.tuple [.str r.1,.int (10-(r.2:Nat))])])) x=some (.d (shD T)):=by
  have:x=0\/x=1:=by omega
  rcases this with rfl | rfl
  ·exact⟨T0,hT0,rfl⟩
  ·exact⟨_,turned hO,by rw[eT];rfl⟩
 refine⟨_,_,rfl,hix,rfl,?_⟩;clear hix eT;refine⟨_,rfl,_,_,rfl,.l,λ f hf=>⟨f,S.map bZ,rfl,ab,?_⟩⟩;have x5:=sealed (o:=.lst ((S.map bZ).map W.d)) hf;generalize ik (aE M4 f (.lst ((S.map bZ).map W.d))) f=M5 at x5;have b5:=Ext.bag x5 b4;have C5:=x5 _ _ C4;intro d hd;refine .inl ⟨S,d,rfl,hO,cF C5 hd,ab,λ q r M6 hq hr D1 F6=>⟨rfl,?_⟩⟩;have pd:p≠d:=by obtain⟨_,_,_,_,e,_⟩:=b5;exact ay e hd
 have b6:Bag M6 p:=Jt.bag b5 λ o e=>F6 _ _ pd (cF e hd);have C6:=F6 _ _ (ay C5 hd) (cF C5 hd);refine⟨_,rfl,_,_,rfl,.l,λ f2 hf2=>⟨f2,T.map bZ,rfl,ab,?_⟩⟩;have x7:=sealed (o:=.lst ((T.map bZ).map W.d)) hf2;generalize ik (aE M6 f2 (.lst ((T.map bZ).map W.d))) f2=M7 at x7;have b7:=Ext.bag x7 b6;have C7:=x7 _ _ C6;have D7:=D1.ext x7;intro d2 hd2;have x7':Ext M7 (aE M7 d2 (.ins ak [])):=Ext.new hd2;refine .inl ⟨T,d2,rfl,hT,x7' _ _ C7,ab,λ q2 r2 M8 hq2 hr2 D2 F8=>⟨rfl,few (by simp),λ dd hdd=>?_⟩⟩;have jd:Dj [d,q,r] [d2]:=ip D7.there (aeo hd2);have D8:Dr M8 S d q r (zz S) (0:Nat) (.d .none):=(D7.ext x7').fr F8 jd;have pd2:p≠d2:=by obtain⟨_,_,_,_,e,_⟩:=b7;exact ay e hd2
 have b8:Bag M8 p:=Jt.bag b7 λ o e=>F8 _ _ pd2 (x7' _ _ e);have C8:=F8 _ _ (ay C7 hd2) (x7' _ _ C7);have x9:Ext M8 (aE M8 dd (.lst [.m d,.m d2])):=Ext.new hdd;have ddp:dd≠p:=by obtain⟨_,_,_,_,e,_⟩:=b8;exact(ay e hdd).symm
 have j3:Dj [d,q,r] [d2,q2,r2]:=by
  have h2:=(D7.ext x7').there;intro a ha b hb;simp only[List.mem_cons,List.not_mem_nil,or_false] at hb;rcases hb with rfl | rfl | rfl
  ·exact jd a ha _ (by simp)
  ·exact λ e=>h2 a ha (e ▸ hq2)
  ·exact λ e=>h2 a ha (e ▸ hr2)
 have P0:ahT S T p dd d q r (aE M8 dd (.lst [.m d,.m d2])):=⟨d2,q2,r2,Ext.bag x9 b8,x9 _ _ C8,D8.ext x9,(show Dr M8 T d2 q2 r2 (zz T) (0:Nat) (.d .none) from D2).ext x9,ab,j3,ip D8.there (aeo hdd),ip D2.there (aeo hdd),ddp⟩;generalize aE M8 dd (.lst [.m d,.m d2])=M9 at P0;clear x9 j3 D8 b8 C8 D2 F8 jd x7' D7 b7 C7 x7 D1 F6 b6 C6 hdd hq2 hr2 hd2 hq hr;dsimp only[gN];refine iN (λ M'=>ahT S T p dd d q r M') (λ M10 P=>?_) (λ rest=>?_)
 case refine_2 =>
  obtain⟨d2,q2,r2,b,C,D1,D2,hD,j12,j1,j2,pl⟩:=P0;refine⟨_,rfl,p,3,rfl,b,by decide,by decide,λ y M10 y0 y1 b10 g10=>⟨_,_,.d,.d,dP _ _,_,rfl,?_⟩⟩;have pd1:d≠p:=bY b D1.hd λ _ z=>nomatch z;have pq1:q≠p:=bY b D1.hq λ _ z=>nomatch z;have pr1:r≠p:=lg b D1;have D1':Dr M10 S d q r (zz S) (0:Nat) (.d .none):=⟨by rw[g10 _ pd1];exact D1.hd,by rw[g10 _ pq1];exact D1.hq,by rw[g10 _ pr1];exact D1.hr,D1.lu⟩;have pd2:d2≠p:=bY b D2.hd λ _ z=>nomatch z;have pq2:q2≠p:=bY b D2.hq λ _ z=>nomatch z;have pr2:r2≠p:=lg b D2;have D2':Dr M10 T d2 q2 r2 (zz T) (0:Nat) (.d .none):=⟨by rw[g10 _ pd2];exact D2.hd,by rw[g10 _ pq2];exact D2.hq,by rw[g10 _ pr2];exact D2.hr,D2.lu⟩;have C':M10 aw=some cdR:=by rw[g10 _ pC];exact C
  have hD':M10 dd=some (.lst [.m d,.m d2]):=by rw[g10 _ pl];exact hD
  refine df (λ _=>?_) (λ _=>rest _ ⟨d2,q2,r2,b10,C',D1',D2',hD',j12,j1,j2,pl⟩);intro d3 hd3;have x3:Ext M10 (aE M10 d3 (.ins ak [])):=Ext.new hd3;refine .inr ⟨d3,rfl,ab,λ q3 r3 M11 hq3 hr3 D3 F11=>⟨rfl,?_⟩⟩;have jd:Dj [d,q,r] [d3]:=ip D1'.there (aeo hd3);have D11:Dr M11 S d q r (zz S) (0:Nat) (.d .none):=(D1'.ext x3).fr F11 jd;have dd3:dd≠d3:=ay hD' hd3;have pd3:p≠d3:=by obtain⟨_,_,_,_,e,_⟩:=b10;exact ay e hd3
  have b11:Bag M11 p:=Jt.bag b10 λ o e=>F11 _ _ pd3 (x3 _ _ e);have C11:=F11 _ _ (ay C' hd3) (x3 _ _ C');have hD11:=F11 _ _ dd3 (x3 _ _ hD');have ddq3:dd≠q3:=ay (x3 _ _ hD') hq3;have ddr3:dd≠r3:=ay (x3 _ _ hD') hr3;refine⟨_,rfl,dd,_,1,1,rfl,rfl,hD11,rfl,?_⟩;have o12:∀ b o,b≠dd->M11 b=some o->aE M11 dd (.lst [.m d,.m d3]) b=some o:=λ b o n e=>by rw[ae n];exact e
  have hD12:aE M11 dd (.lst [.m d,.m d3]) dd=some (.lst [.m d,.m d3]):=ab;show aQ _ _ _ _ (aE M11 dd (.lst [.m d,.m d3]));generalize aE M11 dd (.lst [.m d,.m d3])=M12 at o12 hD12;have D12:Dr M12 [] d3 q3 r3 [] (0:Nat) (.d .none):=⟨o12 _ _ dd3.symm D3.hd,o12 _ _ ddq3.symm D3.hq,o12 _ _ ddr3.symm D3.hr,rfl⟩;refine⟨_,rfl,1,_,rfl,(cY hD12).2,rfl,d3,_,rfl,D12.hd,af3,_,rfl,few (by simp),_,rfl,few (by simp),[],d3,q3,r3,[],0,.d .none,0,[(1,3,true)],[],0,[],0,rfl,(λ h=>absurd rfl h),D12,.inl ⟨rfl,rfl⟩,λ i=>by simp[cv],ai1,by decide,.dry ajd (λ i=>by simp[cv]),by decide,λ v' p1 M13 hv' D13 hp1 mp1 fr=>?_⟩;have ev:v'=.d .none:=by
   rcases hv' with ⟨z,_⟩ | ⟨_,z⟩
   ·exact z
   ·exact absurd z (by decide)
  subst ev;have hD13:=fr _ _ dd3 ddq3 hD12;have jq3:Dj [d,q,r] [d3,q3]:=by
   have h2:=(D1'.ext x3).there;intro a ha b hb;simp only[List.mem_cons,List.not_mem_nil,or_false] at hb;rcases hb with rfl | rfl
   ·exact jd a ha _ (by simp)
   ·exact λ e=>h2 a ha (e ▸ hq3)
  have dn:∀ a∈[d,q,r],∀ o,M11 a=some o->M13 a=some o:=λ a ha o e=>fr _ _ (jq3 a ha _ (by simp)) (jq3 a ha _ (by simp)) (o12 _ _ (j1 a ha _ (by simp)) e);have D13':Dr M13 S d q r (zz S) (0:Nat) (.d .none):=⟨dn _ (by simp) _ D11.hd,dn _ (by simp) _ D11.hq,dn _ (by simp) _ D11.hr,D11.lu⟩;have pq3:p≠q3:=by obtain⟨_,_,_,_,e,_⟩:=b10;exact ay (x3 _ _ e) hq3
  have b13:Bag M13 p:=Jt.bag b11 λ o e=>fr _ _ pd3 pq3 (o12 _ _ pl.symm e);have C13:=fr _ _ (ay C' hd3) (ay (x3 _ _ C') hq3) (o12 _ _ (gy C' hD' nofun) C11);refine⟨_,rfl,1,_,rfl,(cY hD13).2,rfl,d3,_,rfl,D13.hd,ady,_,rfl,_,_,rfl,.l,λ f hf=>⟨f,T.map bZ,rfl,ab,?_⟩⟩;have x14:=sealed (o:=.lst ((T.map bZ).map W.d)) hf;generalize ik (aE M13 f (.lst ((T.map bZ).map W.d))) f=M14 at x14;have D14:=D13.ext x14;refine⟨T,d3,q3,r3,0,.d .none,[],zz T,rfl,hT,x14 _ _ C13,D14.hd,D14.hq,by simp[zz],λ i z _=>by rw[adP];rfl,λ q4 r4 M15 hq4 hr4 D15 F15=>?_⟩;have D14':=D13'.ext x14;have pd3':p≠d3:=pd3;refine rest _ ⟨d3,q4,r4,Jt.bag b13 λ o e=>F15 _ _ pd3' (x14 _ _ e),F15 _ _ (ay C' hd3) (x14 _ _ C13),D14'.fr F15 jd,D15,F15 _ _ dd3 (x14 _ _ hD13),?_,j1,?_,pl⟩
  ·intro a ha b hb;simp only[List.mem_cons,List.not_mem_nil,or_false] at hb;rcases hb with rfl | rfl | rfl
   ·exact jd a ha _ (by simp)
   ·exact λ e=>D14'.there a ha (e ▸ hq4)
   ·exact λ e=>D14'.there a ha (e ▸ hr4)
  ·intro a ha b hb;rw[List.mem_singleton.mp hb];simp only[List.mem_cons,List.not_mem_nil,or_false] at ha;rcases ha with rfl | rfl | rfl
   ·exact dd3.symm
   ·exact(ay (x14 _ _ hD13) hq4).symm
   ·exact(ay (x14 _ _ hD13) hr4).symm
 obtain⟨d2,q2,r2,b,C,D1,D2,hD,j12,j1,j2,pl⟩:=P;refine⟨_,rfl,S,rfl,hO,λ m w h M11 hm hw hh H1 x11=>⟨_,rfl,T,rfl,hT,λ m2 w2 h2 M12 hm2 hw2 hh2 H2 x12=>⟨few (by simp),λ ll hll=>?_⟩⟩⟩;have X:Tw (aE M12 ll (.lst [.m m,.m m2])) p dd ll S d q r m w h (zz S) 0 (.d .none) 0 T d2 q2 r2 m2 w2 h2 (zz T) 0 (.d .none) 0:=by
  have x13:Ext M12 (aE M12 ll (.lst [.m m,.m m2])):=Ext.new hll;have b11:=Ext.bag x11 b;have b12:=Ext.bag x12 b11;have J1:Jt M11 S p d q r m w h (zz S) 0 (.d .none) 0:=⟨b11,x11 _ _ C,D1.ext x11,H1,.inl ⟨rfl,rfl⟩,ay D1.hq hm,ay D1.hq hw,ay D1.hr hh,λ j=>by have:=adP S j;omega⟩;have D2':=D2.ext x11;have J2:Jt M12 T p d2 q2 r2 m2 w2 h2 (zz T) 0 (.d .none) 0:=⟨b12,x12 _ _ (x11 _ _ C),D2'.ext x12,H2,.inl ⟨rfl,rfl⟩,ay D2'.hq hm2,ay D2'.hq hw2,ay D2'.hr hh2,λ j=>by have:=adP T j;omega⟩;have dd0:∀ x∈[dd],M10 x≠none:=λ x hx=>by rw[List.mem_singleton.mp hx,hD];simp
  have dd1:∀ x∈[dd],M11 x≠none:=xu x11 dd0;have ja:Dj [d,q,r,m,w,h] [d2,q2,r2]:=(om.mpr ⟨j12.symm,ip D2.there (agY hm hw hh)⟩:Dj [d2,q2,r2] ([d,q,r]++[m,w,h])).symm;have jb:Dj [d,q,r,m,w,h] [m2,w2,h2]:=ip J1.there (agY hm2 hw2 hh2);have jc:Dj [d,q,r,m,w,h] [dd]:=(om.mpr ⟨j1.symm,ip dd0 (agY hm hw hh)⟩:Dj [dd] ([d,q,r]++[m,w,h])).symm;have je:Dj [d2,q2,r2,m2,w2,h2] [dd]:=(om.mpr ⟨j2.symm,ip dd1 (agY hm2 hw2 hh2)⟩:Dj [dd] ([d2,q2,r2]++[m2,w2,h2])).symm;have llp:ll≠p:=by obtain⟨_,_,_,_,e,_⟩:=b12;exact(ay e hll).symm
  exact⟨hO,hT,(J1.ext x12).ext x13,J2.ext x13,x13 _ _ (x12 _ _ (x11 _ _ hD)),ab,(om.mpr ⟨ja,jb⟩:Dj _ ([d2,q2,r2]++[m2,w2,h2])),(om.mpr ⟨jc,ip (J1.ext x12).there (aeo hll)⟩:Dj _ ([dd]++[ll])),(om.mpr ⟨je,ip J2.there (aeo hll)⟩:Dj _ ([dd]++[ll])),pl,llp⟩
 generalize aE M12 ll (.lst [.m m,.m m2])=M13 at X;clear hll hm2 hw2 hh2 H2 x12 hm hw hh H1 x11 b C D1 D2 hD j12 j1 j2;refine⟨_,rfl,p,41,rfl,X.J1.B,by decide,by decide,λ y M14 y0 y1 b14 f14=>.inl ⟨_,_,rfl,rfl,_,rfl,by omega,by omega,?_⟩⟩;replace X:=X.take b14 f14;refine⟨λ i τ M'=>i<=200->aik p dd ll d m d2 m2 i τ M',λ _=>⟨S,q,r,w,h,zz S,0,.d .none,0,T,q2,r2,w2,h2,zz T,0,.d .none,0,X,⟨by omega,by omega⟩,_,_,_,_,_,rfl⟩,?_,?_⟩
 ·intro i w' τ M' hw' P;obtain⟨hi,rfl⟩:=my hw';obtain⟨S,q,r,w,h,u,t,v,l,T,q2,r2,w2,h2,u2,t2,v2,l2,X,ht,x0,x2,x3,x6,x7,rfl⟩:=P (by omega);refine⟨_,rfl,p,2,rfl,X.J1.B,by decide,by decide,λ x M15 x0 x1 b15 f15=>?_⟩;replace X:=X.take b15 f15;have hx:x=0\/x=1:=by omega
  rcases hx with rfl | rfl
  ·refine⟨_,rfl,_,rfl,_,rfl,0,_,rfl,(cY X.hD).1,rfl,_,rfl,_,rfl,0,_,rfl,(cY X.hL).1,rfl,S,p,d,q,r,m,w,h,u,t,v,l,rfl,X.O1,X.J1,by omega,λ S q r w h u t' v l M16 hO J ht' nw F=>⟨_,rfl,hU ?_⟩⟩;replace X:=X.one hO J nw F;refine⟨_,rfl,p,3,rfl,X.J1.B,by decide,by decide,λ z M17 z0 z1 b17 f17=>⟨_,_,.d,.d,dP _ _,_,rfl,?_⟩⟩;replace X:=X.take b17 f17;refine df (λ _=>?_) (λ _=>hU λ _=>⟨S,q,r,w,h,u,t',v,l,T,q2,r2,w2,h2,u2,t2,v2,l2,X,⟨by omega,by omega⟩,_,_,_,_,_,rfl⟩);exact⟨_,rfl,_,rfl,_,_,rfl,rfl,1,_,rfl,(cY X.hD).2,rfl,_,rfl,_,rfl,_,_,rfl,rfl,1,_,rfl,(cY X.hL).2,rfl,T,d2,q2,r2,m2,w2,h2,u2,t2,l2,v2,rfl,X.O2,X.J2.D,X.J2.H,X.J2.qw,by omega,_,rfl,hU λ _=>⟨S,q,r,w,h,u,t',v,l,T,q2,r2,w2,h2,u2,t2,v2,l2,X,⟨by omega,by omega⟩,_,_,_,_,_,rfl⟩⟩
  ·refine⟨_,rfl,_,rfl,_,rfl,1,_,rfl,(cY X.hD).2,rfl,_,rfl,_,rfl,1,_,rfl,(cY X.hL).2,rfl,T,p,d2,q2,r2,m2,w2,h2,u2,t2,v2,l2,rfl,X.O2,X.J2,by omega,λ T q2 r2 w2 h2 u2 t' v2 l2 M16 hO J ht' nw F=>⟨_,rfl,hU ?_⟩⟩;replace X:=X.two hO J nw F;refine⟨_,rfl,p,3,rfl,X.J1.B,by decide,by decide,λ z M17 z0 z1 b17 f17=>⟨_,_,.d,.d,dP _ _,_,rfl,?_⟩⟩;replace X:=X.take b17 f17;refine df (λ _=>?_) (λ _=>hU λ _=>⟨S,q,r,w,h,u,t,v,l,T,q2,r2,w2,h2,u2,t',v2,l2,X,⟨by omega,by omega⟩,_,_,_,_,_,rfl⟩);exact⟨_,rfl,_,rfl,_,_,rfl,rfl,0,_,rfl,(cY X.hD).1,rfl,_,rfl,_,rfl,_,_,rfl,rfl,0,_,rfl,(cY X.hL).1,rfl,S,d,q,r,m,w,h,u,t,l,v,rfl,X.O1,X.J1.D,X.J1.H,X.J1.qw,by omega,_,rfl,hU λ _=>⟨S,q,r,w,h,u,t,v,l,T,q2,r2,w2,h2,u2,t',v2,l2,X,⟨by omega,by omega⟩,_,_,_,_,_,rfl⟩⟩
 ·intro τ M' P;have el:(ef 0 (20+y).toNat).length=(20+y).toNat:=by simp[ef]
  rw[el] at P;obtain⟨S,q,r,w,h,u,t,v,l,T,q2,r2,w2,h2,u2,t2,v2,l2,X,ht,x0,x2,x3,x6,x7,rfl⟩:=P (by omega);refine⟨_,rfl,0,_,rfl,(cY X.hD).1,rfl,_,rfl,0,_,rfl,(cY X.hL).1,rfl,S,d,q,r,m,w,h,u,t,l,v,rfl,X.O1,X.J1.D,X.J1.H,X.J1.qw,by omega,_,rfl,?_⟩;refine mF ?_;exact⟨_,rfl,1,_,rfl,(cY X.hD).2,rfl,_,rfl,1,_,rfl,(cY X.hL).2,rfl,T,d2,q2,r2,m2,w2,h2,u2,t2,l2,v2,rfl,X.O2,X.J2.D,X.J2.H,X.J2.qw,by omega,k _⟩
def top(i:Nat):Stmt:=PySem.Challenge.pw_placedworks_k88_whole_door_by_a_plain_mo.main.body.getD i (.Pass ⟨0,0,0,0⟩)
abbrev mj:Stmt:=top 20
abbrev iR:Stmt:=top 21
abbrev fD:Stmt:=top 22
abbrev gv:Stmt:=top 8
abbrev fo:Stmt:=top 6
abbrev eC:Stmt:=top 7
abbrev cJ:Stmt:=top 13
abbrev cw:Stmt:=top 12
abbrev iZ:Stmt:=top 15
abbrev du:Stmt:=top 14
abbrev dM:Stmt:=inClass (top 18) 2
abbrev bT:Stmt:=inClass (top 18) 1
abbrev cR:Stmt:=inClass (top 18) 0
abbrev bN:Stmt:=inClass (top 18) 10
abbrev bF:Stmt:=inClass (top 18) 8
abbrev dI:Stmt:=inClass (top 18) 6
abbrev fk:Stmt:=inClass (top 18) 7
abbrev eA:Stmt:=inClass (top 18) 9
abbrev gE:Stmt:=top 23
abbrev dJ:Stmt:=inClass (top 18) 4
abbrev fJ:Stmt:=inClass (top 18) 3
abbrev ft:Stmt:=top 26
abbrev gQ:Stmt:=top 24
abbrev l5:Stmt:=top 25
abbrev gM:Stmt:=top 27
abbrev gx:Stmt:=top 32
abbrev dE:Stmt:=top 28
abbrev fm:Stmt:=top 31
abbrev lK:Stmt:=top 29
abbrev jf:Stmt:=top 33
abbrev d9:Stmt:=inClass (top 18) 5
abbrev fq:Stmt:=top 30
abbrev oY:Stmt:=top 34
structure Env(K:PySem.W.Frag)(mg:Str->Option Value):Prop where
 k_Door:Cls K ak
 m_Door:mg "Door" = some (.ref ak)
 h_round_of:PySem.W.codeHdIn K cZ aw=true
 n_Door_asks_waiting:dB K ak "asks_waiting"
 n_Door_next_slot:dB K ak "next_slot"
 n_Door_number_led:dB K ak "number_led"
 n_Door_owner_round:dB K ak "owner_round"
 b_abs:mg "abs" = none
 b_all:mg "all" = none
 b_any:mg "any" = none
 b_bool:mg "bool" = none
 b_enumerate:mg "enumerate" = none
 b_int:mg "int" = none
 b_isinstance:mg "isinstance" = none
 b_len:mg "len" = none
 b_list:mg "list" = none
 b_max:mg "max" = none
 b_min:mg "min" = none
 b_range:mg "range" = none
 b_str:mg "str" = none
 b_sum:mg "sum" = none
 b_tuple:mg "tuple" = none
 c_LONGEST_WORD:∃ t,mg "LONGEST_WORD" = some (.int 8 t)
 c_MOST_GROUPS:∃ t,mg "MOST_GROUPS" = some (.int 4 t)
 c_MOST_SHARE:∃ t,mg "MOST_SHARE" = some (.int 9 t)
 c_MOST_WAITING:∃ t,mg "MOST_WAITING" = some (.int 40 t)
section
variable (P:Program)(w:World)(K:PySem.W.Frag)(mg:Str->Option Value)(base:Heap)
abbrev xR:=ZZ P w K mg base (Fn K mg "_law_bag" mj ["_law_script"]) 1 ["_law_script"] eS
abbrev hE:=ZZ P w K mg base (Fn K mg "_law_take" iR ["_law_bag_here", "_law_many"]) 1 ["_law_bag_here", "_law_many"] au
abbrev jv:=ZZ P w K mg base (Fn K mg "_law_shares" fD ["_law_bag_here"]) 2 ["_law_bag_here"] br
abbrev lR:=ZZ P w K mg base (Fn K mg "is_word" gv ["thing"]) 1 ["thing"] bL
abbrev nV:=ZZ P w K mg base (Fn K mg "is_whole" fo ["thing"]) 1 ["thing"] cj
abbrev lD:=ZZ P w K mg base (Fn K mg "is_within" eC ["thing", "low", "high"]) 2 ["thing", "low", "high"] bU
abbrev iy:=ZZ P w K mg base (Fn K mg "is_share_row" cJ ["row"]) 3 ["row"] bt
abbrev gU:=ZZ P w K mg base (Fn K mg "refuse_shares" cw ["shares"]) 4 ["shares"] bo
abbrev uB:=ZZ P w K mg base (Fn K mg "due_at" iZ ["unit", "whole", "share"]) 1 ["unit", "whole", "share"] dH
abbrev mV:=ZZ P w K mg base (Fn K mg "round_of" du ["shares"]) 4 ["shares"] cq
abbrev gk:=ZZ P w K mg base (Mf K ak "begin" "Door.begin" dM ["self"]) 1 ["self"] aZ
abbrev cE:=ZZ P w K mg base (Mf K ak "new_shares" "Door.new_shares" bT ["self", "shares"]) 5 ["self", "shares"] ax
abbrev k8:=ZZ P w K mg base (MiE K ak "Door.__init__" cR ["self", "shares"]) 6 ["self", "shares"] bC
abbrev eV:=ZZ P w K mg base (Mf K ak "number_next" "Door.number_next" bN ["self", "hands"]) 1 ["self", "hands"] aK
abbrev cQ:=ZZ P w K mg base (Mf K ak "is_waited_at" "Door.is_waited_at" bF ["self"]) 1 ["self"] aC
abbrev gX:=ZZ P w K mg base (Mf K ak "owner" "Door.owner" dI ["self"]) 1 ["self"] aY
abbrev jq:=ZZ P w K mg base (Mf K ak "use" "Door.use" fk ["self"]) 2 ["self"] bA
abbrev iD:=ZZ P w K mg base (Mf K ak "lead" "Door.lead" eA ["self", "copies"]) 3 ["self", "copies"] bp
abbrev qd:=ZZ P w K mg base (Fn K mg "_law_model" gE ["_law_shares_here"]) 1 ["_law_shares_here"] cB
abbrev gm:=ZZ P w K mg base (Mf K ak "waits" "Door.waits" dJ ["self", "group"]) 2 ["self", "group"] a6
abbrev nM:=ZZ P w K mg base (Mf K ak "ask" "Door.ask" fJ ["self", "group", "many"]) 3 ["self", "group", "many"] cn
abbrev ny:=ZZ P w K mg base (Fn K mg "_law_let_in" ft ["_law_model_here", "_law_group", "_law_many"]) 1 ["_law_model_here", "_law_group", "_law_many"] ck
abbrev kN:=ZZ P w K mg base (Fn K mg "_law_whose" gQ ["_law_model_here"]) 1 ["_law_model_here"] bJ
abbrev tm:=ZZ P w K mg base (Fn K mg "_law_use" l5 ["_law_model_here"]) 2 ["_law_model_here"] cM
abbrev l8:=ZZ P w K mg base (Fn K mg "_law_begun" gM ["_law_model_here"]) 1 ["_law_model_here"] bK
abbrev rL:=ZZ P w K mg base (Fn K mg "_law_other" gx ["_law_bag_here", "_law_model_here"]) 3 ["_law_bag_here", "_law_model_here"] cU
abbrev jT:=ZZ P w K mg base (Fn K mg "_law_reshared" dE ["_law_model_here", "_law_shares_here"]) 2 ["_law_model_here", "_law_shares_here"] bP
abbrev nz:=ZZ P w K mg base (Fn K mg "_law_copies" fm ["_law_bag_here", "_law_most"]) 2 ["_law_bag_here", "_law_most"] cy
abbrev y9:=ZZ P w K mg base (Fn K mg "_law_led" lK ["_law_model_here", "_law_copies_here"]) 3 ["_law_model_here", "_law_copies_here"] e9
abbrev uE:=ZZ P w K mg base (Fn K mg "_law_deed" jf ["_law_bag_here", "_law_door", "_law_model_here"]) 6 ["_law_bag_here", "_law_door", "_law_model_here"] dA
abbrev lH:=ZZ P w K mg base (Mf K ak "slot" "Door.slot" d9 ["self"]) 1 ["self"] bQ
abbrev nK:=ZZ P w K mg base (Fn K mg "_law_stands" fq ["_law_door", "_law_model_here"]) 3 ["_law_door", "_law_model_here"] bS
end
section
variable {P:Program}{w:World}{K:PySem.W.Frag}{mg:Str->Option Value}{base:Heap}
theorem ahd:(["_law_cell"]:List Str).Nodup:=by decide +kernel
theorem aaf:aL yB ["_law_script"] (aq mj):=⟨rfl,rfl,rfl,by decide +kernel,rfl,by decide +kernel,by decide +kernel⟩
theorem zT{f:Addr}{fd:FuncData}(E:Env K mg)(F:Fn K mg "_law_bag" mj ["_law_script"] f fd) :
  cX P w K mg base CX0 1 f fd ["_law_script"] (dG K eS):=by
 refine bG (t:=yX) F.fn aaf zj (λ cdv A outer s H E' hr=>?_) vP;refine Jd.h ?_;exact Q.ao (Q.aH (Q.dR (Q.pac (Q.ag) (Q.pac (Q.ag) (Q.pac (Q.ag) (Q.pac (Q.j8 rfl (jD (own:=(["_law_cell"]:List Str)) (fr:=[]) rfl) (Q.aP (Q.eX (Q.dv 0) (Q.dX) (Q.dY (Q.ag)))) (λ _ _ _ _ _ _=>Q.av (i:=0) ahd rfl (Or.inl rfl)) (λ _ _ _ _ _ _=>Q.bH) (λ _ _ _ _ _ _=>Q.pcB aa4 aeA rfl E.b_abs aeF (Q.pac (Q.dv 0) (Q.af)))) (Q.af)))))))
theorem fE:aL uP ["_law_bag_here", "_law_many"] (aq iR):=⟨rfl,rfl,rfl,by decide +kernel,rfl,by decide +kernel,by decide +kernel⟩
theorem yb{f:Addr}{fd:FuncData}(E:Env K mg)(F:Fn K mg "_law_take" iR ["_law_bag_here", "_law_many"] f fd) :
  cX P w K mg base CX0 1 f fd ["_law_bag_here", "_law_many"] (dG K au):=by
 refine bG (t:=uw) F.fn fE vo (λ cdv A outer s H E' hr=>?_) sD;refine Jd.h ?_;exact Q.aa (Q.bO (Q.aI (ab4 hr) agi (Q.a9 aG aF (Q.dv 0) (Q.ag)) (Q.ag))
   (Q.aa (Q.az (i:=2) fE.nd rfl (Or.inl rfl) (Q.ag)) <|
   Q.aa (Q.bO (Q.aI aaj uk (Q.a9 aG aF (Q.dv 0) (Q.ag)) (Q.pcB eP j5 rfl E.b_len jK (Q.pac (Q.a9 aG aF (Q.dv 0) (Q.ag)) (Q.af))))
    (Q.ao (Q.az (i:=2) fE.nd rfl (Or.inl rfl) (Q.a9 aG aF (Q.a9 aG aF (Q.dv 0) (Q.ag)) (Q.a9 aG aF (Q.dv 0) (Q.ag)))))
    (Q.aO)) <|
   Q.aa (Q.oO (Q.dv 0) (Q.ag) (Q.ag) vc) <|
   Q.aa (Q.bO (Q.aI agl abG (Q.dv 2) (Q.ag))
    (Q.ao (Q.fK (Q.dv 2) (Q.gn (Q.dv 0) (Q.ag))))
    (Q.aO)) <|
   Q.ao (Q.fK (Q.aS gL ee (Q.aS bu aT (Q.aS bu aT (Q.aS gD d4 (Q.a9 aG aF (Q.dv 0) (Q.ag)) (Q.ag)) (Q.aS gL ee (Q.dv 2) (Q.ag))) (Q.aS gD d4 (Q.ag) (Q.a9 aG aF (Q.dv 0) (Q.ag)))) (Q.ag)) (Q.gn (Q.dv 0) (Q.ag))))
   (Q.aO)) <|
  Q.aa (Q.bO (Q.aI lL gA (Q.a9 aG aF (Q.dv 0) (Q.ag)) (Q.ag))
   (Q.aa (Q.az (i:=3) fE.nd rfl (Or.inl rfl) (Q.aS gL ee (Q.a9 aG aF (Q.dv 0) (Q.ag)) (Q.dv 1))) <|
   Q.aa (Q.fK (Q.aS jn jx (Q.a9 aG aF (Q.dv 0) (Q.ag)) (Q.dv 1)) (Q.gn (Q.dv 0) (Q.ag))) <|
   Q.ao (Q.aH (Q.dv 3)))
   (Q.aO)) <|
  Q.aa (Q.az (i:=4) fE.nd rfl (Or.inl rfl) (Q.aS gL ee (Q.aS gD d4 (Q.aS bu aT (Q.a9 aG aF (Q.dv 0) (Q.ag)) (Q.ag)) (Q.ag)) (Q.ag))) <|
  Q.aa (Q.az (i:=5) fE.nd rfl (Or.inl rfl) (Q.aS gL ee (Q.aS gD d4 (Q.aS gL ee (Q.aS gD d4 (Q.dv 4) (Q.dv 4)) (Q.ag)) (Q.ag)) (Q.ag))) <|
  Q.aa (Q.bO (Q.aI lL gA (Q.dv 1) (Q.ag))
   (Q.ao (Q.aH (Q.aS gL ee (Q.aS bu aT (Q.aS gD d4 (Q.dv 5) (Q.ag)) (Q.dv 4)) (Q.dv 1))))
   (Q.aO)) <|
  Q.ao (Q.aH (Q.aS gL ee (Q.aS jn jx (Q.dv 5) (Q.ag)) (Q.dv 1)))
theorem ah0:(["_law_k", "_law_letters", "_law_bag_here"]:List Str).Nodup:=by decide +kernel
theorem bE:aL oq ["_law_bag_here"] (aq fD):=⟨rfl,rfl,rfl,by decide +kernel,rfl,by decide +kernel,by decide +kernel⟩
theorem tI{f:Addr}{fd:FuncData}(E:Env K mg)(F:Fn K mg "_law_shares" fD ["_law_bag_here"] f fd)(z_l_take:hE P w K mg base) :
  cX P w K mg base CX0 2 f fd ["_law_bag_here"] (dG K br):=by
 obtain⟨_,_,G_l_take,O_l_take⟩:=z_l_take;refine bG (t:=nL au) F.fn bE qz (λ cdv A outer s H E' hr=>?_) pX;refine Jd.h ?_;exact Q.aa (Q.az (i:=1) bE.nd rfl (Or.inr rfl) (Q.aR)) <|
  Q.aa (Q.az (i:=2) bE.nd rfl (Or.inl rfl) (Q.sR (Q.aR) (Q.j8 rfl (jD (own:=(["_law_k"]:List Str)) (fr:=[1,0]) rfl) (Q.cC rfl E.b_range (Q.pac (Q.pcF O_l_take (hr.mono (by decide)) rfl G_l_take.mg G_l_take.fn.kp G_l_take.bd (Q.pac (Q.dv 0) (Q.pac (Q.ag) (Q.af)))) (Q.af))) (λ _ _ _ _ _ _=>Q.av (i:=0) ah0 rfl (Or.inl rfl)) (λ _ _ _ _ _ _=>Q.bH) (λ _ _ _ _ _ _=>Q.a9 aG aF (Q.dv 1) (Q.pcF O_l_take (hr.mono (by decide)) rfl G_l_take.mg G_l_take.fn.kp G_l_take.bd (Q.pac (Q.dv 2) (Q.pac (Q.ag) (Q.af)))))))) <|
  Q.aa (Q.az (i:=3) bE.nd rfl (Or.inl rfl) (Q.pcF O_l_take (hr.mono (by decide)) rfl G_l_take.mg G_l_take.fn.kp G_l_take.bd (Q.pac (Q.dv 0) (Q.pac (Q.ag) (Q.af))))) <|
  Q.aa (Q.az (i:=4) bE.nd rfl (Or.inl rfl) (Q.a9 aG aF (Q.gb (Q.pac (Q.ag) (Q.pac (Q.ag) (Q.pac (Q.ag) (Q.pac (Q.ag) (Q.pac (Q.ag) (Q.pac (Q.ag) (Q.af)))))))) (Q.pcF O_l_take (hr.mono (by decide)) rfl G_l_take.mg G_l_take.fn.kp G_l_take.bd (Q.pac (Q.dv 0) (Q.pac (Q.ag) (Q.af)))))) <|
  Q.aa (Q.az (i:=5) bE.nd rfl (Or.inl rfl) (Q.pcF O_l_take (hr.mono (by decide)) rfl G_l_take.mg G_l_take.fn.kp G_l_take.bd (Q.pac (Q.dv 0) (Q.pac (Q.aS bu aT (Q.pcB eP j5 rfl E.b_len jK (Q.pac (Q.dv 2) (Q.af))) (Q.ag)) (Q.af))))) <|
  Q.aa (Q.az (i:=6) bE.nd rfl (Or.inl rfl) (Q.dR (Q.af))) <|
  Q.aa (Q.eJ PassesOwn.never rfl (Q.cC rfl E.b_range (Q.pac (Q.aS bu aT (Q.ag) (Q.pcF O_l_take (hr.mono (by decide)) rfl G_l_take.mg G_l_take.fn.kp G_l_take.bd (Q.pac (Q.dv 0) (Q.pac (Q.ag) (Q.af))))) (Q.af))) (Q.av (i:=7) bE.nd rfl (Or.inl rfl))
   (Q.aa (Q.az (i:=8) bE.nd rfl (Or.inl rfl) (Q.a9 aG aF (Q.dv 1) (Q.aS gL ee (Q.aS bu aT (Q.dv 3) (Q.aS gD d4 (Q.dv 4) (Q.dv 7))) (Q.ag)))) <|
   Q.aa (Q.az (i:=9) bE.nd rfl (Or.inl rfl) (Q.aS bu aT (Q.aS bu aT (Q.eX (Q.dv 2) (Q.dX) (Q.dY (Q.dv 5))) (Q.dv 8)) (Q.eX (Q.dv 2) (Q.dY (Q.dv 5)) (Q.dX)))) <|
   Q.aa (Q.az (i:=10) bE.nd rfl (Or.inl rfl) (Q.gb (Q.pac (Q.aS bu aT (Q.ag) (Q.pcF O_l_take (hr.mono (by decide)) rfl G_l_take.mg G_l_take.fn.kp G_l_take.bd (Q.pac (Q.dv 0) (Q.pac (Q.ag) (Q.af))))) (Q.pac (Q.ag) (Q.pac (Q.ag) (Q.pac (Q.aS bu aT (Q.ag) (Q.pcF O_l_take (hr.mono (by decide)) rfl G_l_take.mg G_l_take.fn.kp G_l_take.bd (Q.pac (Q.dv 0) (Q.pac (Q.ag) (Q.af))))) (Q.af))))))) <|
   Q.ao (Q.bM (Q.eI (Q.dv 6) (Q.gg (Q.pac (Q.dv 9) (Q.pac (Q.a9 aG aF (Q.dv 10) (Q.pcF O_l_take (hr.mono (by decide)) rfl G_l_take.mg G_l_take.fn.kp G_l_take.bd (Q.pac (Q.dv 0) (Q.pac (Q.ag) (Q.af))))) (Q.af)))))))) <|
  Q.ao (Q.aH (Q.c9 (Q.dv 6)))
theorem aha:(["sign"]:List Str).Nodup:=by decide +kernel
theorem wx:aL su ["thing"] (aq gv):=⟨rfl,rfl,rfl,by decide +kernel,rfl,by decide +kernel,by decide +kernel⟩
theorem v8{f:Addr}{fd:FuncData}(E:Env K mg)(F:Fn K mg "is_word" gv ["thing"] f fd) :
  cX P w K mg base CX0 1 f fd ["thing"] (dG K bL):=by
 refine bG (t:=qC) F.fn wx tS (λ cdv A outer s H E' hr=>?_) sy;refine Jd.h ?_;exact Q.aa (Q.bO (Q.iV (Q.iq (Q.dQ (Q.dg (Q.pcB fB jl rfl E.b_isinstance cD (Q.pac (Q.dv 0) (Q.pac (Q.gW rfl E.b_str afz) (Q.af)))))) (Q.fL (Q.dQ (Q.kS jO gB jO gB (Q.ag) (Q.pcB eP j5 rfl E.b_len jK (Q.pac (Q.dv 0) (Q.af))) (Q.g9 rfl (E.c_LONGEST_WORD).choose_spec))))))
   (Q.ao (Q.aH (Q.rB)))
   (Q.aO)) <|
  Q.ao (Q.aH (Q.pcB (rZ rfl) ab5 rfl E.b_all abn (Q.pac (Q.j8 rfl (jD (own:=(["sign"]:List Str)) (fr:=[]) rfl) (Q.aP (Q.dv 0)) (λ _ _ _ _ _ _=>Q.av (i:=0) aha rfl (Or.inl rfl)) (λ _ _ _ _ _ _=>Q.bH) (λ _ _ _ _ _ _=>Q.kA jO gB jO gB (Q.aR) (Q.dv 0) (Q.aR))) (Q.af))))
theorem tO:aL nN ["thing"] (aq fo):=⟨rfl,rfl,rfl,by decide +kernel,rfl,by decide +kernel,by decide +kernel⟩
theorem tu{f:Addr}{fd:FuncData}(E:Env K mg)(F:Fn K mg "is_whole" fo ["thing"] f fd) :
  cX P w K mg base CX0 1 f fd ["thing"] (dG K cj):=by
 refine bG (t:=nj) F.fn tO qI (λ cdv A outer s H E' hr=>?_) p6;refine Jd.h ?_;exact Q.ao (Q.aH (Q.jY (Q.pcB fB jl rfl E.b_isinstance cD (Q.pac (Q.dv 0) (Q.pac (Q.gW rfl E.b_int aff) (Q.af)))) (Q.j6 (Q.zA (Q.pcB fB jl rfl E.b_isinstance cD (Q.pac (Q.dv 0) (Q.pac (Q.gW rfl E.b_bool xO) (Q.af))))))))
theorem sd:aL lA ["thing", "low", "high"] (aq eC):=⟨rfl,rfl,rfl,by decide +kernel,rfl,by decide +kernel,by decide +kernel⟩
theorem sj{f:Addr}{fd:FuncData}(E:Env K mg)(F:Fn K mg "is_within" eC ["thing", "low", "high"] f fd)(z_is_whole:nV P w K mg base) :
  cX P w K mg base CX0 2 f fd ["thing", "low", "high"] (dG K bU):=by
 obtain⟨_,_,G_is_whole,O_is_whole⟩:=z_is_whole;refine bG (t:=kG cj) F.fn sd ou (λ cdv A outer s H E' hr=>?_) mR;refine Jd.h ?_;exact Q.ao (Q.aH (Q.jY (Q.pcF O_is_whole (hr.mono (by decide)) rfl G_is_whole.mg G_is_whole.fn.kp G_is_whole.bd (Q.pac (Q.dv 0) (Q.af))) (Q.j6 (Q.kA jO gB jO gB (Q.dv 1) (Q.dv 0) (Q.dv 2)))))
theorem mr:aL iu ["row"] (aq cJ):=⟨rfl,rfl,rfl,by decide +kernel,rfl,by decide +kernel,by decide +kernel⟩
theorem lZ{f:Addr}{fd:FuncData}(E:Env K mg)(F:Fn K mg "is_share_row" cJ ["row"] f fd)(z_is_word:lR P w K mg base)(z_is_within:lD P w K mg base) :
  cX P w K mg base CX0 3 f fd ["row"] (dG K bt):=by
 obtain⟨_,_,G_is_word,O_is_word⟩:=z_is_word;obtain⟨_,_,G_is_within,O_is_within⟩:=z_is_within;refine bG (t:=il bL bU) F.fn mr ka (λ cdv A outer s H E' hr=>?_) jt;refine Jd.h ?_;exact Q.ao (Q.aH (Q.jY (Q.pcB fB jl rfl E.b_isinstance cD (Q.pac (Q.dv 0) (Q.pac (Q.gW rfl E.b_tuple aaz) (Q.af)))) (Q.jY (Q.ir (eE hr) cO (Q.pcB eP j5 rfl E.b_len jK (Q.pac (Q.dv 0) (Q.af))) (Q.ag)) (Q.jY (Q.pcF O_is_word (hr.mono (by decide)) rfl G_is_word.mg G_is_word.fn.kp G_is_word.bd (Q.pac (Q.a9 aG aF (Q.dv 0) (Q.ag)) (Q.af))) (Q.j6 (Q.pcF O_is_within (hr.mono (by decide)) rfl G_is_within.mg G_is_within.fn.kp G_is_within.bd (Q.pac (Q.a9 aG aF (Q.dv 0) (Q.ag)) (Q.pac (Q.ag) (Q.pac (Q.g9 rfl (E.c_MOST_SHARE).choose_spec) (Q.af))))))))))
theorem ah9:(["ahead"]:List Str).Nodup:=by decide +kernel
theorem dS:aL gq ["shares"] (aq cw):=⟨rfl,rfl,rfl,by decide +kernel,rfl,by decide +kernel,by decide +kernel⟩
theorem kd{f:Addr}{fd:FuncData}(E:Env K mg)(F:Fn K mg "refuse_shares" cw ["shares"] f fd)(z_is_share_row:iy P w K mg base) :
  cX P w K mg base CX0 4 f fd ["shares"] (dG K bo):=by
 obtain⟨_,_,G_is_share_row,O_is_share_row⟩:=z_is_share_row;refine bG (t:=gK bt) F.fn dS jB (λ cdv A outer s H E' hr=>?_) iO;refine Jd.h ?_;exact Q.aa (Q.bO (Q.iV (Q.iq (Q.dQ (Q.dg (Q.pcB fB jl rfl E.b_isinstance cD (Q.pac (Q.dv 0) (Q.pac (Q.gW rfl E.b_list fV) (Q.af)))))) (Q.fL (Q.dQ (Q.iM (Q.dv 0))))))
   (Q.ao (Q.gJ))
   (Q.aO)) <|
  Q.ao (Q.eJ PassesOwn.never rfl (Q.pU rfl E.b_enumerate (Q.pac (Q.dv 0) (Q.af))) (Q.cc rfl (Q.aB (Q.av (i:=1) dS.nd rfl (Or.inl rfl)) (Q.aB (Q.av (i:=2) dS.nd rfl (Or.inl rfl)) (Q.bI))))
   (Q.ao (Q.bO (Q.iV (Q.iq (Q.aI agl abG (Q.dv 1) (Q.g9 rfl (E.c_MOST_GROUPS).choose_spec)) (Q.iq (Q.dQ (Q.dg (Q.pcF O_is_share_row (hr.mono (by decide)) rfl G_is_share_row.mg G_is_share_row.fn.kp G_is_share_row.bd (Q.pac (Q.dv 2) (Q.af))))) (Q.fL (Q.aI wR (uZ false) (Q.a9 aG aF (Q.dv 2) (Q.ag)) (Q.j8 rfl (jD (own:=(["ahead"]:List Str)) (fr:=[]) rfl) (Q.aP (Q.eX (Q.dv 0) (Q.dX) (Q.dY (Q.dv 1)))) (λ _ _ _ _ _ _=>Q.av (i:=0) ah9 rfl (Or.inl rfl)) (λ _ _ _ _ _ _=>Q.bH) (λ _ _ _ _ _ _=>Q.a9 aG aF (Q.dv 0) (Q.ag))))))))
    (Q.ao (Q.gJ))
    (Q.aO))))
theorem yr:aL uW ["unit", "whole", "share"] (aq iZ):=⟨rfl,rfl,rfl,by decide +kernel,rfl,by decide +kernel,by decide +kernel⟩
theorem xY{f:Addr}{fd:FuncData}(E:Env K mg)(F:Fn K mg "due_at" iZ ["unit", "whole", "share"] f fd) :
  cX P w K mg base CX0 1 f fd ["unit", "whole", "share"] (dG K dH):=by
 refine bG (t:=uV) F.fn yr v3 (λ cdv A outer s H E' hr=>?_) t8;refine Jd.h ?_;exact Q.ao (Q.aH (Q.zZ abg zr (Q.aS jn jx (Q.aS gD d4 (Q.zZ abg zr (Q.aS bu aT (Q.dv 0) (Q.ag))) (Q.dv 1)) (Q.dv 2))))
theorem afM:(["group", "share"]:List Str).Nodup:=by decide +kernel
theorem afp:(["group", "share"]:List Str).Nodup:=by decide +kernel
theorem afm:(["group", "share", "owned", "whole", "slot"]:List Str).Nodup:=by decide +kernel
theorem cx:aL nC ["shares"] (aq du):=⟨rfl,rfl,rfl,by decide +kernel,rfl,by decide +kernel,by decide +kernel⟩
theorem sH{f:Addr}{fd:FuncData}(E:Env K mg)(F:Fn K mg "round_of" du ["shares"] f fd)(hcd:fd.code=.ref cZ)(z_due_at:uB P w K mg base) :
  cX P w K mg base CX0 4 f fd ["shares"] (dG K cq):=by
 obtain⟨_,_,G_due_at,O_due_at⟩:=z_due_at;refine adZ (t:=nD dH) F.fn hcd cx qt (λ A outer s H E' hr=>?_) pB;refine Jd.h ?_;exact Q.aa (Q.az (i:=1) cx.nd rfl (Or.inr rfl) (Q.pcB (rY rfl) abz rfl E.b_sum xV (Q.pac (Q.j8 rfl (jD (own:=(["group", "share"]:List Str)) (fr:=[]) rfl) (Q.aP (Q.dv 0)) (λ _ _ _ _ _ _=>Q.cc rfl (Q.aB (Q.av (i:=0) afM rfl (Or.inl rfl)) (Q.aB (Q.av (i:=1) afM rfl (Or.inl rfl)) (Q.bI)))) (λ _ _ _ _ _ _=>Q.bH) (λ _ _ _ _ _ _=>Q.dv 1)) (Q.af)))) <|
  Q.aa (Q.az (i:=2) cx.nd rfl (Or.inr rfl) (Q.afy rfl (jD (own:=(["group", "share"]:List Str)) (fr:=[]) rfl) (Q.aP (Q.dv 0)) (λ _ _ _ _ _ _=>Q.cc rfl (Q.aB (Q.av (i:=0) afp rfl (Or.inl rfl)) (Q.aB (Q.av (i:=1) afp rfl (Or.inl rfl)) (Q.bI)))) (λ _ _ _ _ _ _=>Q.bH) (λ _ _ _ _ _ _=>Q.dv 0) (λ _ _ _ _ _ _=>Q.ag))) <|
  Q.aa (Q.az (i:=3) cx.nd rfl (Or.inl rfl) (Q.dR (Q.af))) <|
  Q.aa (Q.eJ PassesOwn.never rfl (Q.cC rfl E.b_range (Q.pac (Q.dv 1) (Q.af))) (Q.av (i:=4) cx.nd rfl (Or.inr rfl))
   (Q.aa (Q.d6 (i:=5) cx.nd rfl (Or.inl rfl) rfl (jD (own:=(["group", "share"]:List Str)) (fr:=[2,1,4]) rfl) (Q.aP (Q.dv 0)) (λ _ _ _ _ _ _=>Q.cc rfl (Q.aB (Q.av (i:=0) afm rfl (Or.inl rfl)) (Q.aB (Q.av (i:=1) afm rfl (Or.inl rfl)) (Q.bI)))) (λ _ _ _ _ _ _=>Q.cA (Q.aI jO gB (Q.aS jn jx (Q.aS gD d4 (Q.aJ (bw hr) (Q.dv 2) (Q.dv 0)) (Q.dv 3)) (Q.dv 1)) (Q.dv 4))) (λ _ _ _ _ _ _=>Q.gg (Q.pac (Q.dv 0) (Q.pac (Q.dv 1) (Q.af))))) <|
   Q.aa (Q.fK (Q.ad9 (k:=1) (q:=fF) (hr.mono (by decide)) rfl rfl E.b_min (ahg (x:= "each") (fr:=[1,2]) rfl) rfl E.h_round_of rfl (λ _ _ _ _ _=>rfl) (Q.dv 5) (λ _ _ _ _ _ _ hr=>Q.pcF O_due_at (hr.mono (by decide)) rfl G_due_at.mg G_due_at.fn.kp G_due_at.bd (Q.pac (Q.aJ (bw hr) (Q.dv 2) (Q.a9 aG aF (Q.dv 0) (Q.ag))) (Q.pac (Q.dv 1) (Q.pac (Q.a9 aG aF (Q.dv 0) (Q.ag)) (Q.af)))))) (Q.cc rfl (Q.aB (Q.av (i:=6) cx.nd rfl (Or.inl rfl)) (Q.aB (Q.av (i:=7) cx.nd rfl (Or.inl rfl)) (Q.bI))))) <|
   Q.aa (Q.kh (bw hr) (Q.dv 2) (Q.dv 6) (Q.ag) vc) <|
   Q.ao (Q.bM (Q.eI (Q.dv 3) (Q.dv 6))))) <|
  Q.ao (Q.aH (Q.dv 3))
theorem pK:aL jZ ["self"] (aq dM):=⟨rfl,rfl,rfl,by decide +kernel,rfl,by decide +kernel,by decide +kernel⟩
theorem oS{f:Addr}{fd:FuncData}(E:Env K mg)(F:Mf K ak "begin" "Door.begin" dM ["self"] f fd) :
  cX P w K mg base CX0 1 f fd ["self"] (dG K aZ):=by
 refine bG (t:=jR) F.fn pK mG (λ cdv A outer s H E' hr=>?_) kJ;refine Jd.h ?_;exact Q.ao (Q.ff E.k_Door E.n_Door_next_slot (Q.dv 0) (Q.ag))
theorem agu:(["group", "share", "self"]:List Str).Nodup:=by decide +kernel
theorem iU:aL fu ["self", "shares"] (aq bT):=⟨rfl,rfl,rfl,by decide +kernel,rfl,by decide +kernel,by decide +kernel⟩
theorem iT{f:Addr}{fd:FuncData}(E:Env K mg)(F:Mf K ak "new_shares" "Door.new_shares" bT ["self", "shares"] f fd)(z_refuse_shares:gU P w K mg base)(z_round_of:mV P w K mg base)(z_Door_begin:gk P w K mg base) :
  cX P w K mg base CX0 5 f fd ["self", "shares"] (dG K ax):=by
 obtain⟨_,_,G_refuse_shares,O_refuse_shares⟩:=z_refuse_shares;obtain⟨_,_,G_round_of,O_round_of⟩:=z_round_of;obtain⟨_,_,G_Door_begin,O_Door_begin⟩:=z_Door_begin;refine bG (t:=fj bo cq aZ) F.fn iU iG (λ cdv A outer s H E' hr=>?_) ie;refine Jd.h ?_;exact Q.aa (Q.bM (Q.pcF O_refuse_shares (hr.mono (by decide)) rfl G_refuse_shares.mg G_refuse_shares.fn.kp G_refuse_shares.bd (Q.pac (Q.dv 1) (Q.af)))) <|
  Q.aa (Q.ff E.k_Door E.n_Door_asks_waiting (Q.dv 0) (Q.afy rfl (jD (own:=(["group", "share"]:List Str)) (fr:=[0]) rfl) (Q.aP (Q.dv 1)) (λ _ _ _ _ _ _=>Q.cc rfl (Q.aB (Q.av (i:=0) agu rfl (Or.inl rfl)) (Q.aB (Q.av (i:=1) agu rfl (Or.inl rfl)) (Q.bI)))) (λ _ _ _ _ _ _=>Q.bH) (λ _ _ _ _ _ _=>Q.dv 0) (λ _ _ _ _ _ _=>Q.px (bw hr) (Q.dF E.k_Door E.n_Door_asks_waiting (Q.dv 2)) (Q.dv 0) (Q.ag)))) <|
  Q.aa (Q.ff E.k_Door E.n_Door_owner_round (Q.dv 0) (Q.pcF O_round_of (hr.mono (by decide)) rfl G_round_of.mg G_round_of.fn.kp G_round_of.bd (Q.pac (Q.dv 1) (Q.af)))) <|
  Q.ao (Q.bM (Q.cL (Q.dv 0) E.k_Door G_Door_begin.me O_Door_begin (hr.mono (by decide)) G_Door_begin.bd))
theorem rK:aL lS ["self", "shares"] (aq cR):=⟨rfl,rfl,rfl,by decide +kernel,rfl,by decide +kernel,by decide +kernel⟩
theorem rg{f:Addr}{fd:FuncData}(E:Env K mg)(F:MiE K ak "Door.__init__" cR ["self", "shares"] f fd)(z_Door_new_shares:cE P w K mg base) :
  cX P w K mg base CX0 6 f fd ["self", "shares"] (dG K bC):=by
 obtain⟨_,_,G_Door_new_shares,O_Door_new_shares⟩:=z_Door_new_shares;refine acq (t:=l4 ax) F.fn rK pj (λ cdv A outer s H E' hr=>?_) mN;refine Jd.h ?_;exact Q.aa (Q.ff E.k_Door E.n_Door_asks_waiting (Q.dv 0) (Q.gC)) <|
  Q.aa (Q.ff E.k_Door E.n_Door_owner_round (Q.dv 0) (Q.dR (Q.af))) <|
  Q.aa (Q.ff E.k_Door E.n_Door_next_slot (Q.dv 0) (Q.ag)) <|
  Q.aa (Q.ff E.k_Door E.n_Door_number_led (Q.dv 0) (Q.de)) <|
  Q.ao (Q.bO (Q.aI yt uo (Q.dv 1) (Q.de))
   (Q.ao (Q.bM (Q.dN (Q.dv 0) E.k_Door G_Door_new_shares.me O_Door_new_shares (hr.mono (by decide)) G_Door_new_shares.bd (Q.pac (Q.dv 1) (Q.af)))))
   (Q.aO))
theorem afW:(["number", "many"]:List Str).Nodup:=by decide +kernel
theorem ahX:(["number", "self"]:List Str).Nodup:=by decide +kernel
theorem cS:aL eO ["self", "hands"] (aq bN):=⟨rfl,rfl,rfl,by decide +kernel,rfl,by decide +kernel,by decide +kernel⟩
theorem iH{f:Addr}{fd:FuncData}(E:Env K mg)(F:Mf K ak "number_next" "Door.number_next" bN ["self", "hands"] f fd) :
  cX P w K mg base CX0 1 f fd ["self", "hands"] (dG K aK):=by
 refine bG (t:=eW) F.fn cS ib (λ cdv A outer s H E' hr=>?_) gF;refine Jd.h ?_;exact Q.aa (Q.zv (Q.d6 (i:=2) cS.nd rfl (Or.inl rfl) rfl (jD (own:=(["number", "many"]:List Str)) (fr:=[]) rfl) (Q.js (Q.dv 1)) (λ _ _ _ _ _ _=>Q.cc rfl (Q.aB (Q.av (i:=0) afW rfl (Or.inl rfl)) (Q.aB (Q.av (i:=1) afW rfl (Or.inl rfl)) (Q.bI)))) (λ _ _ _ _ _ _=>Q.cA (Q.aI lL gA (Q.dv 1) (Q.ag))) (λ _ _ _ _ _ _=>Q.dv 0))) <|
  Q.aa (Q.d6 (i:=3) cS.nd rfl (Or.inl rfl) rfl (jD (own:=(["number"]:List Str)) (fr:=[0]) rfl) (Q.aP (Q.dv 2)) (λ _ _ _ _ _ _=>Q.av (i:=0) ahX rfl (Or.inl rfl)) (λ _ _ _ _ _ _=>Q.cA (Q.iV (Q.iq (Q.aI lF iB (Q.dF E.k_Door E.n_Door_number_led (Q.dv 1)) (Q.de)) (Q.fL (Q.aI lL gA (Q.dv 0) (Q.dF E.k_Door E.n_Door_number_led (Q.dv 1))))))) (λ _ _ _ _ _ _=>Q.dv 0)) <|
  Q.ao (Q.aH (Q.aej rfl rfl E.b_min (Q.abB (Q.dv 3) (Q.j6 (Q.dv 2)))))
theorem hX:aL er ["self"] (aq bF):=⟨rfl,rfl,rfl,by decide +kernel,rfl,by decide +kernel,by decide +kernel⟩
theorem ij{f:Addr}{fd:FuncData}(E:Env K mg)(F:Mf K ak "is_waited_at" "Door.is_waited_at" bF ["self"] f fd) :
  cX P w K mg base CX0 1 f fd ["self"] (dG K aC):=by
 refine bG (t:=eF) F.fn hX gO (λ cdv A outer s H E' hr=>?_) gj;refine Jd.h ?_;exact Q.ao (Q.aH (Q.ad7 rfl rfl E.b_any (Q.dF E.k_Door E.n_Door_asks_waiting (Q.dv 0))))
theorem ot:aL jP ["self"] (aq dI):=⟨rfl,rfl,rfl,by decide +kernel,rfl,by decide +kernel,by decide +kernel⟩
theorem oW{f:Addr}{fd:FuncData}(E:Env K mg)(F:Mf K ak "owner" "Door.owner" dI ["self"] f fd) :
  cX P w K mg base CX0 1 f fd ["self"] (dG K aY):=by
 refine bG (t:=jQ) F.fn ot mI (λ cdv A outer s H E' hr=>?_) lB;refine Jd.h ?_;exact Q.aa (Q.bO (Q.dQ (Q.iM (Q.dF E.k_Door E.n_Door_owner_round (Q.dv 0))))
   (Q.ao (Q.aH (Q.de)))
   (Q.aO)) <|
  Q.ao (Q.aH (Q.a9 aG aF (Q.dF E.k_Door E.n_Door_owner_round (Q.dv 0)) (Q.aS gL ee (Q.dF E.k_Door E.n_Door_next_slot (Q.dv 0)) (Q.pcB eP j5 rfl E.b_len jK (Q.pac (Q.dF E.k_Door E.n_Door_owner_round (Q.dv 0)) (Q.af))))))
theorem agP:(["group", "self"]:List Str).Nodup:=by decide +kernel
theorem fW:aL nF ["self"] (aq fk):=⟨rfl,rfl,rfl,by decide +kernel,rfl,by decide +kernel,by decide +kernel⟩
theorem t9{f:Addr}{fd:FuncData}(E:Env K mg)(F:Mf K ak "use" "Door.use" fk ["self"] f fd)(z_Door_is_waited_at:cQ P w K mg base)(z_Door_owner:gX P w K mg base) :
  cX P w K mg base CX0 2 f fd ["self"] (dG K bA):=by
 obtain⟨_,_,G_Door_is_waited_at,O_Door_is_waited_at⟩:=z_Door_is_waited_at;obtain⟨_,_,G_Door_owner,O_Door_owner⟩:=z_Door_owner;refine bG (t:=nP aC aY) F.fn fW sf (λ cdv A outer s H E' hr=>?_) oE;refine Jd.h ?_;exact Q.aa (Q.bO (Q.dQ (Q.dg (Q.cL (Q.dv 0) E.k_Door G_Door_is_waited_at.me O_Door_is_waited_at (hr.mono (by decide)) G_Door_is_waited_at.bd)))
   (Q.ao (Q.aH (Q.de)))
   (Q.aO)) <|
  Q.aa (Q.az (i:=1) fW.nd rfl (Or.inl rfl) (Q.c9 (Q.pcT (vZ rfl) aa0 rfl E.b_list fV (Q.pac (Q.dF E.k_Door E.n_Door_asks_waiting (Q.dv 0)) (Q.af))))) <|
  Q.aa (Q.az (i:=2) fW.nd rfl (Or.inl rfl) (Q.xl hr (Q.dv 1) (Q.cL (Q.dv 0) E.k_Door G_Door_owner.me O_Door_owner (hr.mono (by decide)) G_Door_owner.bd))) <|
  Q.aa (Q.d6 (i:=3) fW.nd rfl (Or.inl rfl) rfl (jD (own:=(["group"]:List Str)) (fr:=[0]) rfl) (Q.aP (Q.wM (Q.eX (Q.dv 1) (Q.dY (Q.dv 2)) (Q.dX)) (Q.eX (Q.dv 1) (Q.dX) (Q.dY (Q.dv 2))))) (λ _ _ _ _ _ _=>Q.av (i:=0) agP rfl (Or.inl rfl)) (λ _ _ _ _ _ _=>Q.cA (Q.aI lL gA (Q.aJ (bw hr) (Q.dF E.k_Door E.n_Door_asks_waiting (Q.dv 1)) (Q.dv 0)) (Q.ag))) (λ _ _ _ _ _ _=>Q.dv 0)) <|
  Q.aa (Q.kh (bw hr) (Q.dF E.k_Door E.n_Door_asks_waiting (Q.dv 0)) (Q.a9 aG aF (Q.dv 3) (Q.ag)) (Q.ag) abF) <|
  Q.aa (Q.wg E.k_Door E.n_Door_next_slot (Q.dv 0) (Q.ag) vc) <|
  Q.ao (Q.aH (Q.a9 aG aF (Q.dv 3) (Q.ag)))
theorem agn:(["row"]:List Str).Nodup:=by decide +kernel
theorem zq:(["number", "many", "told"]:List Str).Nodup:=by decide +kernel
theorem cV:aL iE ["self", "copies"] (aq eA):=⟨rfl,rfl,rfl,by decide +kernel,rfl,by decide +kernel,by decide +kernel⟩
theorem rM{f:Addr}{fd:FuncData}(E:Env K mg)(F:Mf K ak "lead" "Door.lead" eA ["self", "copies"] f fd)(z_Door_number_next:eV P w K mg base)(z_Door_is_waited_at:cQ P w K mg base)(z_Door_use:jq P w K mg base) :
  cX P w K mg base CX0 3 f fd ["self", "copies"] (dG K bp):=by
 obtain⟨_,_,G_Door_number_next,O_Door_number_next⟩:=z_Door_number_next;obtain⟨_,_,G_Door_is_waited_at,O_Door_is_waited_at⟩:=z_Door_is_waited_at;obtain⟨_,_,G_Door_use,O_Door_use⟩:=z_Door_use;refine bG (t:=l6 aK aC bA) F.fn cV pf (λ cdv A outer s H E' hr=>?_) mQ;refine Jd.h ?_;exact Q.aa (Q.az (i:=2) cV.nd rfl (Or.inl rfl) (Q.abB (Q.j8 rfl (jD (own:=(["row"]:List Str)) (fr:=[]) rfl) (Q.aP (Q.dv 1)) (λ _ _ _ _ _ _=>Q.av (i:=0) agn rfl (Or.inl rfl)) (λ _ _ _ _ _ _=>Q.cA (Q.dg (Q.a9 aG aF (Q.dv 0) (Q.ag)))) (λ _ _ _ _ _ _=>Q.dv 0)) (Q.j6 (Q.dv 1)))) <|
  Q.aa (Q.xy (i:=3) cV.nd rfl (Or.inl rfl) rfl (jD (own:=(["number", "many", "told"]:List Str)) (fr:=[]) rfl) (Q.aP (Q.dv 2)) (λ _ _ _ _ _ _=>Q.cc rfl (Q.aB (Q.av (i:=0) zq rfl (Or.inl rfl)) (Q.aB (Q.av (i:=1) zq rfl (Or.inl rfl)) (Q.aB (Q.av (i:=2) zq rfl (Or.inl rfl)) (Q.bI))))) (λ _ _ _ _ _ _=>Q.bH) (λ _ _ _ _ _ _=>Q.dv 0) (λ _ _ _ _ _ _=>Q.dv 1)) <|
  Q.aa (Q.az (i:=4) cV.nd rfl (Or.inl rfl) (Q.dR (Q.af))) <|
  Q.aa (Q.az (i:=5) cV.nd rfl (Or.inl rfl) (Q.dN (Q.dv 0) E.k_Door G_Door_number_next.me O_Door_number_next (hr.mono (by decide)) G_Door_number_next.bd (Q.pac (Q.dv 3) (Q.af)))) <|
  Q.aa (Q.i8 PassesOwn.never (Q.iV (Q.iF (Q.aI yt uo (Q.dv 5) (Q.de)) (Q.fM (Q.dg (Q.cL (Q.dv 0) E.k_Door G_Door_is_waited_at.me O_Door_is_waited_at (hr.mono (by decide)) G_Door_is_waited_at.bd)))))
   (Q.aa (Q.bM (Q.eI (Q.dv 4) (Q.gg (Q.pac (Q.cL (Q.dv 0) E.k_Door G_Door_use.me O_Door_use (hr.mono (by decide)) G_Door_use.bd) (Q.pac (Q.dv 5) (Q.af)))))) <|
   Q.aa (Q.kh (bw hr) (Q.dv 3) (Q.dv 5) (Q.ag) abF) <|
   Q.aa (Q.ff E.k_Door E.n_Door_number_led (Q.dv 0) (Q.dv 5)) <|
   Q.ao (Q.az (i:=5) cV.nd rfl (Or.inl rfl) (Q.dN (Q.dv 0) E.k_Door G_Door_number_next.me O_Door_number_next (hr.mono (by decide)) G_Door_number_next.bd (Q.pac (Q.dv 3) (Q.af)))))) <|
  Q.ao (Q.aH (Q.dv 4))
theorem aeO:(["_law_row"]:List Str).Nodup:=by decide +kernel
theorem g8:aL qo ["_law_shares_here"] (aq gE):=⟨rfl,rfl,rfl,by decide +kernel,rfl,by decide +kernel,by decide +kernel⟩
theorem vT{f:Addr}{fd:FuncData}(E:Env K mg)(F:Fn K mg "_law_model" gE ["_law_shares_here"] f fd) :
  cX P w K mg base CX0 1 f fd ["_law_shares_here"] (dG K cB):=by
 refine bG (t:=qx) F.fn g8 tX (λ cdv A outer s H E' hr=>?_) qQ;refine Jd.h ?_;exact Q.aa (Q.az (i:=1) g8.nd rfl (Or.inl rfl) (Q.kn (trs:=[(dC (.d (.str "shares")),ig (dCB dy (ah (ai 0) (aM)))),(dC (.d (.str "waits")),jo),(dC (.d (.str "had")),wA (bX (ai 0)) (gN 0) (n8) (dC (.d (.int 0))) 1 []),(dC (.d (.str "slot")),dC (.d (.int 0))),(dC (.d (.str "last")),dC (.d (.int 0)))]) (Q.dW (Q.aR) (Q.c9 (Q.pcT cf eK rfl E.b_list fV (Q.pac (Q.dv 0) (Q.af)))) (Q.dW (Q.aR) (Q.gC) (Q.dW (Q.aR) (Q.abk rfl (jD (own:=(["_law_row"]:List Str)) (fr:=[]) rfl) (Q.aP (Q.dv 0)) (λ _ _ _ _ _ _=>Q.av (i:=0) aeO rfl (Or.inl rfl)) (λ _ _ _ _ _ _=>Q.bH) (λ _ _ _ _ _ _=>Q.ag)) (Q.dW (Q.aR) (Q.ag) (Q.dW (Q.aR) (Q.ag) (Q.p7)))))))) <|
  Q.aa (Q.eJ PassesOwn.never rfl (Q.aP (Q.dv 0)) (Q.cc rfl (Q.aB (Q.av (i:=2) g8.nd rfl (Or.inl rfl)) (Q.aB (Q.av (i:=3) g8.nd rfl (Or.inl rfl)) (Q.bI))))
   (Q.ao (Q.dz (bw hr) (Q.aJ (bw hr) (Q.dv 1) (Q.aR)) (Q.dv 2) (Q.ag)))) <|
  Q.ao (Q.aH (Q.dv 1))
theorem oB:aL j4 ["self", "group"] (aq dJ):=⟨rfl,rfl,rfl,by decide +kernel,rfl,by decide +kernel,by decide +kernel⟩
theorem pQ{f:Addr}{fd:FuncData}(E:Env K mg)(F:Mf K ak "waits" "Door.waits" dJ ["self", "group"] f fd)(z_is_word:lR P w K mg base) :
  cX P w K mg base CX0 2 f fd ["self", "group"] (dG K a6):=by
 obtain⟨_,_,G_is_word,O_is_word⟩:=z_is_word;refine bG (t:=jU bL) F.fn oB mH (λ cdv A outer s H E' hr=>?_) lQ;refine Jd.h ?_;exact Q.aa (Q.bO (Q.iV (Q.iq (Q.dQ (Q.dg (Q.pcF O_is_word (hr.mono (by decide)) rfl G_is_word.mg G_is_word.fn.kp G_is_word.bd (Q.pac (Q.dv 1) (Q.af))))) (Q.fL (Q.jz (bw hr) (Q.dv 1) (Q.dF E.k_Door E.n_Door_asks_waiting (Q.dv 0))))))
   (Q.ao (Q.gJ))
   (Q.aO)) <|
  Q.ao (Q.aH (Q.aJ (bw hr) (Q.dF E.k_Door E.n_Door_asks_waiting (Q.dv 0)) (Q.dv 1)))
theorem ly:aL nB ["self", "group", "many"] (aq fJ):=⟨rfl,rfl,rfl,by decide +kernel,rfl,by decide +kernel,by decide +kernel⟩
theorem tZ{f:Addr}{fd:FuncData}(E:Env K mg)(F:Mf K ak "ask" "Door.ask" fJ ["self", "group", "many"] f fd)(z_Door_waits:gm P w K mg base) :
  cX P w K mg base CX0 3 f fd ["self", "group", "many"] (dG K cn):=by
 obtain⟨_,_,G_Door_waits,O_Door_waits⟩:=z_Door_waits;refine bG (t:=mY a6) F.fn ly rF (λ cdv A outer s H E' hr=>?_) oR;refine Jd.h ?_;exact Q.aa (Q.az (i:=3) ly.nd rfl (Or.inl rfl) (Q.pcB (zu rfl) acO rfl E.b_max afU (Q.pac (Q.pcB (qg rfl) yP rfl E.b_min uN (Q.pac (Q.dv 2) (Q.pac (Q.aS jW gR (Q.g9 rfl (E.c_MOST_WAITING).choose_spec) (Q.dN (Q.dv 0) E.k_Door G_Door_waits.me O_Door_waits (hr.mono (by decide)) G_Door_waits.bd (Q.pac (Q.dv 1) (Q.af)))) (Q.af)))) (Q.pac (Q.ag) (Q.af))))) <|
  Q.aa (Q.kh (bw hr) (Q.dF E.k_Door E.n_Door_asks_waiting (Q.dv 0)) (Q.dv 1) (Q.dv 3) vc) <|
  Q.ao (Q.aH (Q.dv 3))
theorem mq:aL nG ["_law_model_here", "_law_group", "_law_many"] (aq ft):=⟨rfl,rfl,rfl,by decide +kernel,rfl,by decide +kernel,by decide +kernel⟩
theorem sX{f:Addr}{fd:FuncData}(E:Env K mg)(F:Fn K mg "_law_let_in" ft ["_law_model_here", "_law_group", "_law_many"] f fd) :
  cX P w K mg base CX0 1 f fd ["_law_model_here", "_law_group", "_law_many"] (dG K ck):=by
 refine bG (t:=nY) F.fn mq qY (λ cdv A outer s H E' hr=>?_) oZ;refine Jd.h ?_;exact Q.aa (Q.az (i:=3) mq.nd rfl (Or.inl rfl) (Q.pcB (qg rfl) yP rfl E.b_min uN (Q.pac (Q.dv 2) (Q.pac (Q.aS jW gR (Q.ag) (Q.aJ (bw hr) (Q.aJ (bw hr) (Q.dv 0) (Q.aR)) (Q.dv 1))) (Q.af))))) <|
  Q.aa (Q.dz (bw hr) (Q.aJ (bw hr) (Q.dv 0) (Q.aR)) (Q.dv 1) (Q.aS bu aT (Q.aJ (bw hr) (Q.aJ (bw hr) (Q.dv 0) (Q.aR)) (Q.dv 1)) (Q.dv 3))) <|
  Q.ao (Q.aH (Q.dv 3))
theorem abN:(["_law_group", "_law_share"]:List Str).Nodup:=by decide +kernel
theorem cT:aL sg ["_law_model_here"] (aq gQ):=⟨rfl,rfl,rfl,by decide +kernel,rfl,by decide +kernel,by decide +kernel⟩
theorem vB{f:Addr}{fd:FuncData}(E:Env K mg)(F:Fn K mg "_law_whose" gQ ["_law_model_here"] f fd) :
  cX P w K mg base CX0 1 f fd ["_law_model_here"] (dG K bJ):=by
 refine bG (t:=qV) F.fn cT sZ (λ cdv A outer s H E' hr=>?_) rD;refine Jd.h ?_;exact Q.aa (Q.az (i:=1) cT.nd rfl (Or.inl rfl) (Q.pcB (rY rfl) abz rfl E.b_sum xV (Q.pac (Q.j8 rfl (jD (own:=(["_law_group", "_law_share"]:List Str)) (fr:=[]) rfl) (Q.aP (Q.aJ (bw hr) (Q.dv 0) (Q.aR))) (λ _ _ _ _ _ _=>Q.cc rfl (Q.aB (Q.av (i:=0) abN rfl (Or.inl rfl)) (Q.aB (Q.av (i:=1) abN rfl (Or.inl rfl)) (Q.bI)))) (λ _ _ _ _ _ _=>Q.bH) (λ _ _ _ _ _ _=>Q.dv 1)) (Q.af)))) <|
  Q.aa (Q.az (i:=2) cT.nd rfl (Or.inl rfl) (Q.de)) <|
  Q.aa (Q.eJ PassesOwn.never rfl (Q.cC rfl E.b_range (Q.pac (Q.pcB eP j5 rfl E.b_len jK (Q.pac (Q.aJ (bw hr) (Q.dv 0) (Q.aR)) (Q.af))) (Q.af))) (Q.av (i:=3) cT.nd rfl (Or.inl rfl))
   (Q.aa (Q.az (i:=4) cT.nd rfl (Or.inl rfl) (Q.a9 aG aF (Q.a9 aG aF (Q.aJ (bw hr) (Q.dv 0) (Q.aR)) (Q.dv 3)) (Q.ag))) <|
   Q.aa (Q.az (i:=5) cT.nd rfl (Or.inl rfl) (Q.a9 aG aF (Q.aJ (bw hr) (Q.dv 0) (Q.aR)) (Q.dv 3))) <|
   Q.aa (Q.az (i:=6) cT.nd rfl (Or.inl rfl) (Q.aS bu aT (Q.aS jn jx (Q.aS jW gR (Q.aS gD d4 (Q.aS bu aT (Q.dv 5) (Q.ag)) (Q.dv 1)) (Q.ag)) (Q.dv 4)) (Q.ag))) <|
   Q.ao (Q.bO (Q.iV (Q.iF (Q.aI jO gB (Q.aS jn jx (Q.aS gD d4 (Q.dv 5) (Q.dv 1)) (Q.dv 4)) (Q.aJ (bw hr) (Q.dv 0) (Q.aR))) (Q.fM (Q.iV (Q.iq (Q.aI lF iB (Q.dv 2) (Q.de)) (Q.fL (Q.aI aaj uk (Q.dv 6) (Q.a9 aG aF (Q.dv 2) (Q.ag)))))))))
    (Q.ao (Q.az (i:=2) cT.nd rfl (Or.inl rfl) (Q.gg (Q.pac (Q.dv 6) (Q.pac (Q.dv 3) (Q.af))))))
    (Q.aO)))) <|
  Q.ao (Q.aH (Q.kl (Q.aI lF iB (Q.dv 2) (Q.de)) (Q.de) (Q.a9 aG aF (Q.dv 2) (Q.ag))))
theorem iS:aL wW ["_law_model_here"] (aq l5):=⟨rfl,rfl,rfl,by decide +kernel,rfl,by decide +kernel,by decide +kernel⟩
theorem aaB{f:Addr}{fd:FuncData}(E:Env K mg)(F:Fn K mg "_law_use" l5 ["_law_model_here"] f fd)(z_l_whose:kN P w K mg base) :
  cX P w K mg base CX0 2 f fd ["_law_model_here"] (dG K cM):=by
 obtain⟨_,_,G_l_whose,O_l_whose⟩:=z_l_whose;refine bG (t:=yE bJ) F.fn iS xx (λ cdv A outer s H E' hr=>?_) vM;refine Jd.h ?_;exact Q.aa (Q.bO (Q.aI (eE hr) cO (Q.acK rfl rfl E.b_sum (Q.aJ (bw hr) (Q.dv 0) (Q.aR))) (Q.ag))
   (Q.ao (Q.aH (Q.de)))
   (Q.aO)) <|
  Q.aa (Q.az (i:=1) iS.nd rfl (Or.inl rfl) (Q.pcF O_l_whose (hr.mono (by decide)) rfl G_l_whose.mg G_l_whose.fn.kp G_l_whose.bd (Q.pac (Q.dv 0) (Q.af)))) <|
  Q.aa (Q.fK (Q.aS bu aT (Q.a9 aG aF (Q.aJ (bw hr) (Q.dv 0) (Q.aR)) (Q.dv 1)) (Q.ag)) (Q.gn (Q.aJ (bw hr) (Q.dv 0) (Q.aR)) (Q.dv 1))) <|
  Q.aa (Q.dz (bw hr) (Q.dv 0) (Q.aR) (Q.aS bu aT (Q.aJ (bw hr) (Q.dv 0) (Q.aR)) (Q.ag))) <|
  Q.aa (Q.az (i:=2) iS.nd rfl (Or.inl rfl) (Q.pcB eP j5 rfl E.b_len jK (Q.pac (Q.aJ (bw hr) (Q.dv 0) (Q.aR)) (Q.af)))) <|
  Q.aa (Q.eJ PassesOwn.never rfl (Q.cC rfl E.b_range (Q.pac (Q.dv 2) (Q.af))) (Q.av (i:=3) iS.nd rfl (Or.inl rfl))
   (Q.aa (Q.az (i:=4) iS.nd rfl (Or.inl rfl) (Q.a9 aG aF (Q.a9 aG aF (Q.aJ (bw hr) (Q.dv 0) (Q.aR)) (Q.aS gL ee (Q.aS bu aT (Q.dv 1) (Q.dv 3)) (Q.dv 2))) (Q.ag))) <|
   Q.ao (Q.bO (Q.aI lL gA (Q.aJ (bw hr) (Q.aJ (bw hr) (Q.dv 0) (Q.aR)) (Q.dv 4)) (Q.ag))
    (Q.aa (Q.dz (bw hr) (Q.aJ (bw hr) (Q.dv 0) (Q.aR)) (Q.dv 4) (Q.aS jW gR (Q.aJ (bw hr) (Q.aJ (bw hr) (Q.dv 0) (Q.aR)) (Q.dv 4)) (Q.ag))) <|
    Q.ao (Q.aH (Q.dv 4)))
    (Q.aO)))) <|
  Q.ao (Q.aH (Q.de))
theorem aeC:(["_law_row"]:List Str).Nodup:=by decide +kernel
theorem vR:aL rC ["_law_model_here"] (aq gM):=⟨rfl,rfl,rfl,by decide +kernel,rfl,by decide +kernel,by decide +kernel⟩
theorem vw{f:Addr}{fd:FuncData}(E:Env K mg)(F:Fn K mg "_law_begun" gM ["_law_model_here"] f fd) :
  cX P w K mg base CX0 1 f fd ["_law_model_here"] (dG K bK):=by
 refine bG (t:=qT) F.fn vR tK (λ cdv A outer s H E' hr=>?_) rR;refine Jd.h ?_;exact Q.aa (Q.dz (bw hr) (Q.dv 0) (Q.aR) (Q.abk rfl (jD (own:=(["_law_row"]:List Str)) (fr:=[]) rfl) (Q.aP (Q.aJ (bw hr) (Q.dv 0) (Q.aR))) (λ _ _ _ _ _ _=>Q.av (i:=0) aeC rfl (Or.inl rfl)) (λ _ _ _ _ _ _=>Q.bH) (λ _ _ _ _ _ _=>Q.ag))) <|
  Q.ao (Q.dz (bw hr) (Q.dv 0) (Q.aR) (Q.ag))
theorem ace:(["_law_group", "_law_share", "_law_bag_here"]:List Str).Nodup:=by decide +kernel
theorem abp:(["_law_group", "_law_share"]:List Str).Nodup:=by decide +kernel
theorem afR:(["_law_row", "_law_names"]:List Str).Nodup:=by decide +kernel
theorem fG:aL qO ["_law_bag_here", "_law_model_here"] (aq gx):=⟨rfl,rfl,rfl,by decide +kernel,rfl,by decide +kernel,by decide +kernel⟩
theorem vS{f:Addr}{fd:FuncData}(E:Env K mg)(F:Fn K mg "_law_other" gx ["_law_bag_here", "_law_model_here"] f fd)(z_l_take:hE P w K mg base)(z_l_shares:jv P w K mg base) :
  cX P w K mg base CX0 3 f fd ["_law_bag_here", "_law_model_here"] (dG K cU):=by
 obtain⟨_,_,G_l_take,O_l_take⟩:=z_l_take;obtain⟨_,_,G_l_shares,O_l_shares⟩:=z_l_shares;refine bG (t:=qG au br) F.fn fG tW (λ cdv A outer s H E' hr=>?_) qp;refine Jd.h ?_;exact Q.aa (Q.jr (i:=2) fG.nd rfl (Or.inl rfl) rfl (jD (own:=(["_law_group", "_law_share"]:List Str)) (fr:=[0]) rfl) (Q.aP (Q.aJ (bw hr) (Q.dv 1) (Q.aR))) (λ _ _ _ _ _ _=>Q.cc rfl (Q.aB (Q.av (i:=0) ace rfl (Or.inl rfl)) (Q.aB (Q.av (i:=1) ace rfl (Or.inl rfl)) (Q.bI)))) (λ _ _ _ _ _ _=>Q.cA (Q.aI lL gA (Q.pcF O_l_take (hr.mono (by decide)) rfl G_l_take.mg G_l_take.fn.kp G_l_take.bd (Q.pac (Q.dv 2) (Q.pac (Q.ag) (Q.af)))) (Q.ag))) (λ _ _ _ _ _ _=>Q.gg (Q.pac (Q.dv 0) (Q.pac (Q.aS bu aT (Q.ag) (Q.pcF O_l_take (hr.mono (by decide)) rfl G_l_take.mg G_l_take.fn.kp G_l_take.bd (Q.pac (Q.dv 2) (Q.pac (Q.ag) (Q.af))))) (Q.af))))) <|
  Q.aa (Q.az (i:=3) fG.nd rfl (Or.inr rfl) (Q.mB (Q.j8 rfl (jD (own:=(["_law_group", "_law_share"]:List Str)) (fr:=[]) rfl) (Q.hV (Q.dv 2)) (λ _ _ _ _ _ _=>Q.cc rfl (Q.aB (Q.av (i:=0) abp rfl (Or.inl rfl)) (Q.aB (Q.av (i:=1) abp rfl (Or.inl rfl)) (Q.bI)))) (λ _ _ _ _ _ _=>Q.bH) (λ _ _ _ _ _ _=>Q.dv 0)))) <|
  Q.aa (Q.jr (i:=4) fG.nd rfl (Or.inl rfl) rfl (jD (own:=(["_law_row"]:List Str)) (fr:=[3]) rfl) (Q.aP (Q.pcF O_l_shares (hr.mono (by decide)) rfl G_l_shares.mg G_l_shares.fn.kp G_l_shares.bd (Q.pac (Q.dv 0) (Q.af)))) (λ _ _ _ _ _ _=>Q.av (i:=0) afR rfl (Or.inl rfl)) (λ _ _ _ _ _ _=>Q.cA (Q.aI rj (uZ true) (Q.a9 aG aF (Q.dv 0) (Q.ag)) (Q.dv 1))) (λ _ _ _ _ _ _=>Q.dv 0)) <|
  Q.aa (Q.az (i:=5) fG.nd rfl (Or.inl rfl) (Q.xX (Q.aS sO u6 (Q.dv 2) (Q.dv 4)) (Q.dX) (Q.dY (Q.ag)))) <|
  Q.aa (Q.bO (Q.aI (eE hr) cO (Q.pcF O_l_take (hr.mono (by decide)) rfl G_l_take.mg G_l_take.fn.kp G_l_take.bd (Q.pac (Q.dv 0) (Q.pac (Q.ag) (Q.af)))) (Q.ag))
   (Q.ao (Q.bM (Q.jA (Q.dv 5))))
   (Q.aO)) <|
  Q.ao (Q.aH (Q.c9 (Q.dv 5)))
theorem dU:aL jF ["_law_model_here", "_law_shares_here"] (aq dE):=⟨rfl,rfl,rfl,by decide +kernel,rfl,by decide +kernel,by decide +kernel⟩
theorem oV{f:Addr}{fd:FuncData}(E:Env K mg)(F:Fn K mg "_law_reshared" dE ["_law_model_here", "_law_shares_here"] f fd)(z_l_begun:l8 P w K mg base) :
  cX P w K mg base CX0 2 f fd ["_law_model_here", "_law_shares_here"] (dG K bP):=by
 obtain⟨_,_,G_l_begun,O_l_begun⟩:=z_l_begun;refine bG (t:=jI bK) F.fn dU mJ (λ cdv A outer s H E' hr=>?_) la;refine Jd.h ?_;exact Q.aa (Q.az (i:=2) dU.nd rfl (Or.inl rfl) (Q.gC)) <|
  Q.aa (Q.eJ PassesOwn.never rfl (Q.aP (Q.dv 1)) (Q.cc rfl (Q.aB (Q.av (i:=3) dU.nd rfl (Or.inl rfl)) (Q.aB (Q.av (i:=4) dU.nd rfl (Or.inl rfl)) (Q.bI))))
   (Q.ao (Q.dz (bw hr) (Q.dv 2) (Q.dv 3) (Q.px (bw hr) (Q.aJ (bw hr) (Q.dv 0) (Q.aR)) (Q.dv 3) (Q.ag))))) <|
  Q.aa (Q.bM (Q.aad (Q.dv 0) (Q.kn (trs:=[(dC (.d (.str "shares")),ig (dCB dy (ah (ai 1) (aM)))),(dC (.d (.str "waits")),ai 2)]) (Q.dW (Q.aR) (Q.c9 (Q.pcT cf eK rfl E.b_list fV (Q.pac (Q.dv 1) (Q.af)))) (Q.dW (Q.aR) (Q.dv 2) (Q.p7)))))) <|
  Q.ao (Q.bM (Q.pcF O_l_begun (hr.mono (by decide)) rfl G_l_begun.mg G_l_begun.fn.kp G_l_begun.bd (Q.pac (Q.dv 0) (Q.af))))
theorem xF:(["_law_one", "_law_hands", "_law_told"]:List Str).Nodup:=by decide +kernel
theorem dt:aL nv ["_law_bag_here", "_law_most"] (aq fm):=⟨rfl,rfl,rfl,by decide +kernel,rfl,by decide +kernel,by decide +kernel⟩
theorem sI{f:Addr}{fd:FuncData}(E:Env K mg)(F:Fn K mg "_law_copies" fm ["_law_bag_here", "_law_most"] f fd)(z_l_take:hE P w K mg base) :
  cX P w K mg base CX0 2 f fd ["_law_bag_here", "_law_most"] (dG K cy):=by
 obtain⟨_,_,G_l_take,O_l_take⟩:=z_l_take;refine bG (t:=nu au) F.fn dt rq (λ cdv A outer s H E' hr=>?_) pM;refine Jd.h ?_;exact Q.aa (Q.az (i:=2) dt.nd rfl (Or.inl rfl) (Q.dR (Q.af))) <|
  Q.aa (Q.az (i:=3) dt.nd rfl (Or.inl rfl) (Q.a9 aG aF (Q.gb (Q.pac (Q.ag) (Q.pac (Q.ag) (Q.pac (Q.aS aeM adV (Q.ag) (Q.ag)) (Q.af))))) (Q.pcF O_l_take (hr.mono (by decide)) rfl G_l_take.mg G_l_take.fn.kp G_l_take.bd (Q.pac (Q.dv 0) (Q.pac (Q.ag) (Q.af)))))) <|
  Q.aa (Q.eJ PassesOwn.never rfl (Q.cC rfl E.b_range (Q.pac (Q.pcF O_l_take (hr.mono (by decide)) rfl G_l_take.mg G_l_take.fn.kp G_l_take.bd (Q.pac (Q.dv 0) (Q.pac (Q.aS bu aT (Q.dv 1) (Q.ag)) (Q.af)))) (Q.af))) (Q.av (i:=4) dt.nd rfl (Or.inl rfl))
   (Q.aa (Q.az (i:=3) dt.nd rfl (Or.inl rfl) (Q.aS bu aT (Q.aS bu aT (Q.dv 3) (Q.ag)) (Q.pcF O_l_take (hr.mono (by decide)) rfl G_l_take.mg G_l_take.fn.kp G_l_take.bd (Q.pac (Q.dv 0) (Q.pac (Q.ag) (Q.af)))))) <|
   Q.ao (Q.bM (Q.eI (Q.dv 2) (Q.gg (Q.pac (Q.dv 3) (Q.pac (Q.aS bu aT (Q.ag) (Q.pcF O_l_take (hr.mono (by decide)) rfl G_l_take.mg G_l_take.fn.kp G_l_take.bd (Q.pac (Q.dv 0) (Q.pac (Q.ag) (Q.af))))) (Q.pac (Q.ir lL gA (Q.pcF O_l_take (hr.mono (by decide)) rfl G_l_take.mg G_l_take.fn.kp G_l_take.bd (Q.pac (Q.dv 0) (Q.pac (Q.ag) (Q.af)))) (Q.ag)) (Q.af))))))))) <|
  Q.aa (Q.bO (Q.aI (eE hr) cO (Q.pcF O_l_take (hr.mono (by decide)) rfl G_l_take.mg G_l_take.fn.kp G_l_take.bd (Q.pac (Q.dv 0) (Q.pac (Q.ag) (Q.af)))) (Q.ag))
   (Q.ao (Q.jr (i:=2) dt.nd rfl (Or.inl rfl) rfl (jD (own:=(["_law_one", "_law_hands", "_law_told"]:List Str)) (fr:=[]) rfl) (Q.aP (Q.c9 (Q.dv 2))) (λ _ _ _ _ _ _=>Q.cc rfl (Q.aB (Q.av (i:=0) xF rfl (Or.inl rfl)) (Q.aB (Q.av (i:=1) xF rfl (Or.inl rfl)) (Q.aB (Q.av (i:=2) xF rfl (Or.inl rfl)) (Q.bI))))) (λ _ _ _ _ _ _=>Q.bH) (λ _ _ _ _ _ _=>Q.gg (Q.pac (Q.dv 0) (Q.pac (Q.dv 1) (Q.pac (Q.rB) (Q.af)))))))
   (Q.aO)) <|
  Q.ao (Q.aH (Q.c9 (Q.dv 2)))
theorem afo:(["_law_row"]:List Str).Nodup:=by decide +kernel
theorem yg:(["_law_number", "_law_hands", "_law_told"]:List Str).Nodup:=by decide +kernel
theorem aez:(["_law_row"]:List Str).Nodup:=by decide +kernel
theorem afQ:(["_law_row"]:List Str).Nodup:=by decide +kernel
theorem afb:(["_law_row", "_law_model_here"]:List Str).Nodup:=by decide +kernel
theorem eZ:aL wU ["_law_model_here", "_law_copies_here"] (aq lK):=⟨rfl,rfl,rfl,by decide +kernel,rfl,by decide +kernel,by decide +kernel⟩
theorem aan{f:Addr}{fd:FuncData}(E:Env K mg)(F:Fn K mg "_law_led" lK ["_law_model_here", "_law_copies_here"] f fd)(z_l_use:tm P w K mg base) :
  cX P w K mg base CX0 3 f fd ["_law_model_here", "_law_copies_here"] (dG K e9):=by
 obtain⟨_,_,G_l_use,O_l_use⟩:=z_l_use;refine bG (t:=xk cM) F.fn eZ yp (λ cdv A outer s H E' hr=>?_) vG;refine Jd.h ?_;exact Q.aa (Q.d6 (i:=2) eZ.nd rfl (Or.inl rfl) rfl (jD (own:=(["_law_row"]:List Str)) (fr:=[]) rfl) (Q.aP (Q.dv 1)) (λ _ _ _ _ _ _=>Q.av (i:=0) afo rfl (Or.inl rfl)) (λ _ _ _ _ _ _=>Q.cA (Q.dg (Q.a9 aG aF (Q.dv 0) (Q.ag)))) (λ _ _ _ _ _ _=>Q.dv 0)) <|
  Q.aa (Q.bO (Q.aI (eE hr) cO (Q.dv 2) (Q.gb (Q.af)))
   (Q.ao (Q.az (i:=2) eZ.nd rfl (Or.inl rfl) (Q.dv 1)))
   (Q.aO)) <|
  Q.aa (Q.nQ (i:=3) eZ.nd rfl (Or.inl rfl) rfl (jD (own:=(["_law_number", "_law_hands", "_law_told"]:List Str)) (fr:=[]) rfl) (Q.aP (Q.dv 2)) (λ _ _ _ _ _ _=>Q.cc rfl (Q.aB (Q.av (i:=0) yg rfl (Or.inl rfl)) (Q.aB (Q.av (i:=1) yg rfl (Or.inl rfl)) (Q.aB (Q.av (i:=2) yg rfl (Or.inl rfl)) (Q.bI))))) (λ _ _ _ _ _ _=>Q.bH) (λ _ _ _ _ _ _=>Q.dR (Q.pac (Q.dv 0) (Q.pac (Q.dv 1) (Q.af))))) <|
  Q.aa (Q.az (i:=4) eZ.nd rfl (Or.inl rfl) (Q.dR (Q.af))) <|
  Q.aa (Q.i8 PassesOwn.never (Q.aI (aeN hr) ac1 (Q.mB (Q.ab3 rfl (jD (own:=(["_law_row"]:List Str)) (fr:=[]) rfl) (Q.hV (Q.dv 3)) (λ _ _ _ _ _ _=>Q.av (i:=0) aez rfl (Or.inl rfl)) (λ _ _ _ _ _ _=>Q.cA (Q.aI lL gA (Q.a9 aG aF (Q.dv 0) (Q.ag)) (Q.ag))) (λ _ _ _ _ _ _=>Q.dv 0))) (Q.gb (Q.af)))
   (Q.aa (Q.az (i:=5) eZ.nd rfl (Or.inl rfl) (Q.pcF O_l_use (hr.mono (by decide)) rfl G_l_use.mg G_l_use.fn.kp G_l_use.bd (Q.pac (Q.dv 0) (Q.af)))) <|
   Q.aa (Q.bO (Q.aI lF iB (Q.dv 5) (Q.de))
    (Q.ao (Q.aH (Q.dv 4)))
    (Q.aO)) <|
   Q.aa (Q.wk (Q.nQ (i:=6) eZ.nd rfl (Or.inl rfl) rfl (jD (own:=(["_law_row"]:List Str)) (fr:=[]) rfl) (Q.hV (Q.dv 3)) (λ _ _ _ _ _ _=>Q.av (i:=0) afQ rfl (Or.inl rfl)) (λ _ _ _ _ _ _=>Q.cA (Q.aI lL gA (Q.a9 aG aF (Q.dv 0) (Q.ag)) (Q.ag))) (λ _ _ _ _ _ _=>Q.dv 0))) <|
   Q.aa (Q.az (i:=7) eZ.nd rfl (Or.inl rfl) (Q.a9 aG aF (Q.aS sO u6 (Q.mB (Q.ab3 rfl (jD (own:=(["_law_row"]:List Str)) (fr:=[0]) rfl) (Q.hV (Q.dv 6)) (λ _ _ _ _ _ _=>Q.av (i:=0) afb rfl (Or.inl rfl)) (λ _ _ _ _ _ _=>Q.cA (Q.aI lL gA (Q.a9 aG aF (Q.dv 0) (Q.ag)) (Q.aJ (bw hr) (Q.dv 1) (Q.aR)))) (λ _ _ _ _ _ _=>Q.dv 0))) (Q.dv 6)) (Q.ag))) <|
   Q.aa (Q.fK (Q.aS jW gR (Q.a9 aG aF (Q.dv 7) (Q.ag)) (Q.ag)) (Q.gn (Q.dv 7) (Q.ag))) <|
   Q.aa (Q.dz (bw hr) (Q.dv 0) (Q.aR) (Q.a9 aG aF (Q.dv 7) (Q.ag))) <|
   Q.ao (Q.bM (Q.eI (Q.dv 4) (Q.gg (Q.pac (Q.dv 5) (Q.pac (Q.a9 aG aF (Q.dv 7) (Q.ag)) (Q.af)))))))) <|
  Q.ao (Q.aH (Q.dv 4))
theorem fw:aL um ["_law_bag_here", "_law_door", "_law_model_here"] (aq jf):=⟨rfl,rfl,rfl,by decide +kernel,rfl,by decide +kernel,by decide +kernel⟩
theorem yz{f:Addr}{fd:FuncData}(E:Env K mg)(F:Fn K mg "_law_deed" jf ["_law_bag_here", "_law_door", "_law_model_here"] f fd)(z_l_take:hE P w K mg base)(z_Door_ask:nM P w K mg base)(z_l_let_in:ny P w K mg base)(z_Door_use:jq P w K mg base)(z_l_use:tm P w K mg base)(z_l_begun:l8 P w K mg base)(z_Door_begin:gk P w K mg base)(z_l_other:rL P w K mg base)(z_l_reshared:jT P w K mg base)(z_Door_new_shares:cE P w K mg base)(z_l_copies:nz P w K mg base)(z_Door_lead:iD P w K mg base)(z_l_led:y9 P w K mg base) :
  cX P w K mg base CX0 6 f fd ["_law_bag_here", "_law_door", "_law_model_here"] (dG K dA):=by
 obtain⟨_,_,G_l_take,O_l_take⟩:=z_l_take;obtain⟨_,_,G_Door_ask,O_Door_ask⟩:=z_Door_ask;obtain⟨_,_,G_l_let_in,O_l_let_in⟩:=z_l_let_in;obtain⟨_,_,G_Door_use,O_Door_use⟩:=z_Door_use;obtain⟨_,_,G_l_use,O_l_use⟩:=z_l_use;obtain⟨_,_,G_l_begun,O_l_begun⟩:=z_l_begun;obtain⟨_,_,G_Door_begin,O_Door_begin⟩:=z_Door_begin;obtain⟨_,_,G_l_other,O_l_other⟩:=z_l_other;obtain⟨_,_,G_l_reshared,O_l_reshared⟩:=z_l_reshared;obtain⟨_,_,G_Door_new_shares,O_Door_new_shares⟩:=z_Door_new_shares;obtain⟨_,_,G_l_copies,O_l_copies⟩:=z_l_copies;obtain⟨_,_,G_Door_lead,O_Door_lead⟩:=z_Door_lead;obtain⟨_,_,G_l_led,O_l_led⟩:=z_l_led;refine bG (t:=uU au cn ck bA cM bK aZ cU bP ax cy bp e9) F.fn fw vU (λ cdv A outer s H E' hr=>?_) tw;refine Jd.h ?_;exact Q.aa (Q.az (i:=3) fw.nd rfl (Or.inl rfl) (Q.pcF O_l_take (hr.mono (by decide)) rfl G_l_take.mg G_l_take.fn.kp G_l_take.bd (Q.pac (Q.dv 0) (Q.pac (Q.ag) (Q.af))))) <|
  Q.aa (Q.az (i:=4) fw.nd rfl (Or.inl rfl) (Q.a9 aG aF (Q.a9 aG aF (Q.aJ (bw hr) (Q.dv 2) (Q.aR)) (Q.pcF O_l_take (hr.mono (by decide)) rfl G_l_take.mg G_l_take.fn.kp G_l_take.bd (Q.pac (Q.dv 0) (Q.pac (Q.pcB eP j5 rfl E.b_len jK (Q.pac (Q.aJ (bw hr) (Q.dv 2) (Q.aR)) (Q.af))) (Q.af))))) (Q.ag))) <|
  Q.aa (Q.bO (Q.aI aaj uk (Q.dv 3) (Q.ag))
   (Q.aa (Q.az (i:=5) fw.nd rfl (Or.inl rfl) (Q.a9 aG aF (Q.gb (Q.pac (Q.aS bu aT (Q.ag) (Q.pcF O_l_take (hr.mono (by decide)) rfl G_l_take.mg G_l_take.fn.kp G_l_take.bd (Q.pac (Q.dv 0) (Q.pac (Q.ag) (Q.af))))) (Q.pac (Q.aS bu aT (Q.ag) (Q.pcF O_l_take (hr.mono (by decide)) rfl G_l_take.mg G_l_take.fn.kp G_l_take.bd (Q.pac (Q.dv 0) (Q.pac (Q.ag) (Q.af))))) (Q.af)))) (Q.pcF O_l_take (hr.mono (by decide)) rfl G_l_take.mg G_l_take.fn.kp G_l_take.bd (Q.pac (Q.dv 0) (Q.pac (Q.ag) (Q.af)))))) <|
   Q.ao (Q.aH (Q.ir (eE hr) cO (Q.dN (Q.dv 1) E.k_Door G_Door_ask.me O_Door_ask (hr.mono (by decide)) G_Door_ask.bd (Q.pac (Q.dv 4) (Q.pac (Q.dv 5) (Q.af)))) (Q.pcF O_l_let_in (hr.mono (by decide)) rfl G_l_let_in.mg G_l_let_in.fn.kp G_l_let_in.bd (Q.pac (Q.dv 2) (Q.pac (Q.dv 4) (Q.pac (Q.dv 5) (Q.af))))))))
   (Q.aO)) <|
  Q.aa (Q.bO (Q.aI aaj uk (Q.dv 3) (Q.ag))
   (Q.ao (Q.aH (Q.ir (eE hr) cO (Q.cL (Q.dv 1) E.k_Door G_Door_use.me O_Door_use (hr.mono (by decide)) G_Door_use.bd) (Q.pcF O_l_use (hr.mono (by decide)) rfl G_l_use.mg G_l_use.fn.kp G_l_use.bd (Q.pac (Q.dv 2) (Q.af))))))
   (Q.aO)) <|
  Q.aa (Q.bO (Q.iV (Q.iF (Q.aI (eE hr) cO (Q.dv 3) (Q.ag)) (Q.fM (Q.aI (eE hr) cO (Q.pcF O_l_take (hr.mono (by decide)) rfl G_l_take.mg G_l_take.fn.kp G_l_take.bd (Q.pac (Q.dv 0) (Q.pac (Q.ag) (Q.af)))) (Q.ag)))))
   (Q.aa (Q.bM (Q.pcF O_l_begun (hr.mono (by decide)) rfl G_l_begun.mg G_l_begun.fn.kp G_l_begun.bd (Q.pac (Q.dv 2) (Q.af)))) <|
   Q.ao (Q.aH (Q.ir lF iB (Q.cL (Q.dv 1) E.k_Door G_Door_begin.me O_Door_begin (hr.mono (by decide)) G_Door_begin.bd) (Q.de))))
   (Q.aO)) <|
  Q.aa (Q.bO (Q.iV (Q.iF (Q.aI (eE hr) cO (Q.dv 3) (Q.ag)) (Q.fM (Q.aI (eE hr) cO (Q.pcF O_l_take (hr.mono (by decide)) rfl G_l_take.mg G_l_take.fn.kp G_l_take.bd (Q.pac (Q.dv 0) (Q.pac (Q.ag) (Q.af)))) (Q.ag)))))
   (Q.aa (Q.az (i:=6) fw.nd rfl (Or.inl rfl) (Q.pcF O_l_other (hr.mono (by decide)) rfl G_l_other.mg G_l_other.fn.kp G_l_other.bd (Q.pac (Q.dv 0) (Q.pac (Q.dv 2) (Q.af))))) <|
   Q.aa (Q.bM (Q.pcF O_l_reshared (hr.mono (by decide)) rfl G_l_reshared.mg G_l_reshared.fn.kp G_l_reshared.bd (Q.pac (Q.dv 2) (Q.pac (Q.dv 6) (Q.af))))) <|
   Q.ao (Q.aH (Q.ir lF iB (Q.dN (Q.dv 1) E.k_Door G_Door_new_shares.me O_Door_new_shares (hr.mono (by decide)) G_Door_new_shares.bd (Q.pac (Q.c9 (Q.pcT cf eK rfl E.b_list fV (Q.pac (Q.dv 6) (Q.af)))) (Q.af))) (Q.de))))
   (Q.aO)) <|
  Q.aa (Q.az (i:=7) fw.nd rfl (Or.inl rfl) (Q.pcF O_l_copies (hr.mono (by decide)) rfl G_l_copies.mg G_l_copies.fn.kp G_l_copies.bd (Q.pac (Q.dv 0) (Q.pac (Q.ag) (Q.af))))) <|
  Q.ao (Q.aH (Q.ir (eE hr) cO (Q.dN (Q.dv 1) E.k_Door G_Door_lead.me O_Door_lead (hr.mono (by decide)) G_Door_lead.bd (Q.pac (Q.c9 (Q.pcT cf eK rfl E.b_list fV (Q.pac (Q.dv 7) (Q.af)))) (Q.af))) (Q.pcF O_l_led (hr.mono (by decide)) rfl G_l_led.mg G_l_led.fn.kp G_l_led.bd (Q.pac (Q.dv 2) (Q.pac (Q.dv 7) (Q.af))))))
theorem qR:aL kX ["self"] (aq d9):=⟨rfl,rfl,rfl,by decide +kernel,rfl,by decide +kernel,by decide +kernel⟩
theorem ql{f:Addr}{fd:FuncData}(E:Env K mg)(F:Mf K ak "slot" "Door.slot" d9 ["self"] f fd) :
  cX P w K mg base CX0 1 f fd ["self"] (dG K bQ):=by
 refine bG (t:=kE) F.fn qR oA (λ cdv A outer s H E' hr=>?_) mP;refine Jd.h ?_;exact Q.ao (Q.aH (Q.dF E.k_Door E.n_Door_next_slot (Q.dv 0)))
theorem afD:(["_law_group", "_law_door", "_law_model_here"]:List Str).Nodup:=by decide +kernel
theorem iJ:aL nU ["_law_door", "_law_model_here"] (aq fq):=⟨rfl,rfl,rfl,by decide +kernel,rfl,by decide +kernel,by decide +kernel⟩
theorem tT{f:Addr}{fd:FuncData}(E:Env K mg)(F:Fn K mg "_law_stands" fq ["_law_door", "_law_model_here"] f fd)(z_l_whose:kN P w K mg base)(z_Door_slot:lH P w K mg base)(z_Door_owner:gX P w K mg base)(z_Door_waits:gm P w K mg base) :
  cX P w K mg base CX0 3 f fd ["_law_door", "_law_model_here"] (dG K bS):=by
 obtain⟨_,_,G_l_whose,O_l_whose⟩:=z_l_whose;obtain⟨_,_,G_Door_slot,O_Door_slot⟩:=z_Door_slot;obtain⟨_,_,G_Door_owner,O_Door_owner⟩:=z_Door_owner;obtain⟨_,_,G_Door_waits,O_Door_waits⟩:=z_Door_waits;refine bG (t:=nc bJ bQ aY a6) F.fn iJ qF (λ cdv A outer s H E' hr=>?_) pN;refine Jd.h ?_;exact Q.aa (Q.az (i:=2) iJ.nd rfl (Or.inl rfl) (Q.pcF O_l_whose (hr.mono (by decide)) rfl G_l_whose.mg G_l_whose.fn.kp G_l_whose.bd (Q.pac (Q.dv 1) (Q.af)))) <|
  Q.aa (Q.az (i:=3) iJ.nd rfl (Or.inl rfl) (Q.gb (Q.pac (Q.aJ (bw hr) (Q.dv 1) (Q.aR)) (Q.pac (Q.kl (Q.aI lF iB (Q.dv 2) (Q.de)) (Q.de) (Q.a9 aG aF (Q.a9 aG aF (Q.aJ (bw hr) (Q.dv 1) (Q.aR)) (Q.dv 2)) (Q.ag))) (Q.af))))) <|
  Q.aa (Q.bO (Q.iV (Q.iq (Q.aI (afX hr) adp (Q.gb (Q.pac (Q.cL (Q.dv 0) E.k_Door G_Door_slot.me O_Door_slot (hr.mono (by decide)) G_Door_slot.bd) (Q.pac (Q.cL (Q.dv 0) E.k_Door G_Door_owner.me O_Door_owner (hr.mono (by decide)) G_Door_owner.bd) (Q.af)))) (Q.dv 3)) (Q.fL (Q.dg (Q.pcB fB jl rfl E.b_isinstance cD (Q.pac (Q.cL (Q.dv 0) E.k_Door G_Door_slot.me O_Door_slot (hr.mono (by decide)) G_Door_slot.bd) (Q.pac (Q.gW rfl E.b_bool xO) (Q.af))))))))
   (Q.ao (Q.aH (Q.rB)))
   (Q.aO)) <|
  Q.ao (Q.aH (Q.pcB (rZ rfl) ab5 rfl E.b_all abn (Q.pac (Q.oH (Q.j8 rfl (jD (own:=(["_law_group"]:List Str)) (fr:=[0,1]) rfl) (Q.lP (Q.aJ (bw hr) (Q.dv 1) (Q.aR))) (λ _ _ _ _ _ _=>Q.av (i:=0) afD rfl (Or.inl rfl)) (λ _ _ _ _ _ _=>Q.bH) (λ _ _ _ _ _ _=>Q.ir (eE hr) cO (Q.dN (Q.dv 1) E.k_Door G_Door_waits.me O_Door_waits (hr.mono (by decide)) G_Door_waits.bd (Q.pac (Q.dv 0) (Q.af))) (Q.aJ (bw hr) (Q.aJ (bw hr) (Q.dv 2) (Q.aR)) (Q.dv 0))))) (Q.af))))
theorem abW:(["_law_group", "_law_share"]:List Str).Nodup:=by decide +kernel
theorem jG:aL afv ["_law_script"] (aq oY):=⟨rfl,rfl,rfl,by decide +kernel,rfl,by decide +kernel,by decide +kernel⟩
theorem ae8{f:Addr}{fd:FuncData}(E:Env K mg)(F:Fn K mg "law" oY ["_law_script"] f fd)(z_l_bag:xR P w K mg base)(z_l_shares:jv P w K mg base)(z_l_take:hE P w K mg base)(z_Door_init:k8 P w K mg base)(z_Door_lead:iD P w K mg base)(z_Door_new_shares:cE P w K mg base)(z_l_model:qd P w K mg base)(z_l_deed:uE P w K mg base)(z_l_stands:nK P w K mg base) :
  cX P w K mg base CX0 8 f fd ["_law_script"] (dG K lp):=by
 obtain⟨_,_,G_l_bag,O_l_bag⟩:=z_l_bag;obtain⟨_,_,G_l_shares,O_l_shares⟩:=z_l_shares;obtain⟨_,_,G_l_take,O_l_take⟩:=z_l_take;obtain⟨_,_,G_Door_init,O_Door_init⟩:=z_Door_init;obtain⟨_,_,G_Door_lead,O_Door_lead⟩:=z_Door_lead;obtain⟨_,_,G_Door_new_shares,O_Door_new_shares⟩:=z_Door_new_shares;obtain⟨_,_,G_l_model,O_l_model⟩:=z_l_model;obtain⟨_,_,G_l_deed,O_l_deed⟩:=z_l_deed;obtain⟨_,_,G_l_stands,O_l_stands⟩:=z_l_stands;refine bG (t:=aew eS br au bC bp ax cB dA bS) F.fn jG ads (λ cdv A outer s H E' hr=>?_) aas;refine Jd.h ?_;exact Q.aa (Q.az (i:=1) jG.nd rfl (Or.inl rfl) (Q.pcF O_l_bag (hr.mono (by decide)) rfl G_l_bag.mg G_l_bag.fn.kp G_l_bag.bd (Q.pac (Q.dv 0) (Q.af)))) <|
  Q.aa (Q.az (i:=2) jG.nd rfl (Or.inl rfl) (Q.pcF O_l_shares (hr.mono (by decide)) rfl G_l_shares.mg G_l_shares.fn.kp G_l_shares.bd (Q.pac (Q.dv 1) (Q.af)))) <|
  Q.aa (Q.az (i:=3) jG.nd rfl (Or.inl rfl) (Q.a9 aG aF (Q.gb (Q.pac (Q.pcF O_l_shares (hr.mono (by decide)) rfl G_l_shares.mg G_l_shares.fn.kp G_l_shares.bd (Q.pac (Q.dv 1) (Q.af))) (Q.pac (Q.j8 rfl (jD (own:=(["_law_group", "_law_share"]:List Str)) (fr:=[]) rfl) (Q.aP (Q.dv 2)) (λ _ _ _ _ _ _=>Q.cc rfl (Q.aB (Q.av (i:=0) abW rfl (Or.inl rfl)) (Q.aB (Q.av (i:=1) abW rfl (Or.inl rfl)) (Q.bI)))) (λ _ _ _ _ _ _=>Q.bH) (λ _ _ _ _ _ _=>Q.gg (Q.pac (Q.dv 0) (Q.pac (Q.aS jW gR (Q.ag) (Q.dv 1)) (Q.af))))) (Q.af)))) (Q.pcF O_l_take (hr.mono (by decide)) rfl G_l_take.mg G_l_take.fn.kp G_l_take.bd (Q.pac (Q.dv 1) (Q.pac (Q.ag) (Q.af)))))) <|
  Q.aa (Q.az (i:=4) jG.nd rfl (Or.inl rfl) (Q.dR (Q.pac (Q.oQ G_Door_init.mi O_Door_init (hr.mono (by decide)) rfl E.m_Door G_Door_init.bd (Q.pac (Q.c9 (Q.pcT cf eK rfl E.b_list fV (Q.pac (Q.dv 2) (Q.af)))) (Q.af))) (Q.pac (Q.oQ G_Door_init.mi O_Door_init (hr.mono (by decide)) rfl E.m_Door G_Door_init.bd (Q.pac (Q.c9 (Q.pcT cf eK rfl E.b_list fV (Q.pac (Q.dv 3) (Q.af)))) (Q.af))) (Q.af))))) <|
  Q.aa (Q.bO (Q.aI (eE hr) cO (Q.pcF O_l_take (hr.mono (by decide)) rfl G_l_take.mg G_l_take.fn.kp G_l_take.bd (Q.pac (Q.dv 1) (Q.pac (Q.ag) (Q.af)))) (Q.ag))
   (Q.aa (Q.fK (Q.aav G_Door_init.mi O_Door_init (hr.mono (by decide)) rfl E.m_Door G_Door_init.bn) (Q.gn (Q.dv 4) (Q.ag))) <|
   Q.aa (Q.bM (Q.dN (Q.a9 aG aF (Q.dv 4) (Q.ag)) E.k_Door G_Door_lead.me O_Door_lead (hr.mono (by decide)) G_Door_lead.bd (Q.pac (Q.gb (Q.pac (Q.gg (Q.pac (Q.ag) (Q.pac (Q.ag) (Q.pac (Q.rB) (Q.af))))) (Q.af))) (Q.af)))) <|
   Q.ao (Q.bM (Q.dN (Q.a9 aG aF (Q.dv 4) (Q.ag)) E.k_Door G_Door_new_shares.me O_Door_new_shares (hr.mono (by decide)) G_Door_new_shares.bd (Q.pac (Q.c9 (Q.pcT cf eK rfl E.b_list fV (Q.pac (Q.dv 3) (Q.af)))) (Q.af)))))
   (Q.aO)) <|
  Q.aa (Q.az (i:=5) jG.nd rfl (Or.inl rfl) (Q.dR (Q.pac (Q.pcF O_l_model (hr.mono (by decide)) rfl G_l_model.mg G_l_model.fn.kp G_l_model.bd (Q.pac (Q.dv 2) (Q.af))) (Q.pac (Q.pcF O_l_model (hr.mono (by decide)) rfl G_l_model.mg G_l_model.fn.kp G_l_model.bd (Q.pac (Q.dv 3) (Q.af))) (Q.af))))) <|
  Q.aa (Q.eJ PassesOwn.never rfl (Q.cC rfl E.b_range (Q.pac (Q.aS bu aT (Q.ag) (Q.pcF O_l_take (hr.mono (by decide)) rfl G_l_take.mg G_l_take.fn.kp G_l_take.bd (Q.pac (Q.dv 1) (Q.pac (Q.ag) (Q.af))))) (Q.af))) (Q.av (i:=6) jG.nd rfl (Or.inl rfl))
   (Q.aa (Q.az (i:=7) jG.nd rfl (Or.inl rfl) (Q.pcF O_l_take (hr.mono (by decide)) rfl G_l_take.mg G_l_take.fn.kp G_l_take.bd (Q.pac (Q.dv 1) (Q.pac (Q.ag) (Q.af))))) <|
   Q.aa (Q.bO (Q.dQ (Q.dg (Q.pcF O_l_deed (hr.mono (by decide)) rfl G_l_deed.mg G_l_deed.fn.kp G_l_deed.bd (Q.pac (Q.dv 1) (Q.pac (Q.a9 aG aF (Q.dv 4) (Q.dv 7)) (Q.pac (Q.a9 aG aF (Q.dv 5) (Q.dv 7)) (Q.af)))))))
    (Q.ao (Q.aH (Q.rB)))
    (Q.aO)) <|
   Q.ao (Q.bO (Q.iV (Q.iF (Q.aI (eE hr) cO (Q.pcF O_l_take (hr.mono (by decide)) rfl G_l_take.mg G_l_take.fn.kp G_l_take.bd (Q.pac (Q.dv 1) (Q.pac (Q.ag) (Q.af)))) (Q.ag)) (Q.fM (Q.dQ (Q.dg (Q.pcF O_l_stands (hr.mono (by decide)) rfl G_l_stands.mg G_l_stands.fn.kp G_l_stands.bd (Q.pac (Q.a9 aG aF (Q.dv 4) (Q.aS jW gR (Q.ag) (Q.dv 7))) (Q.pac (Q.a9 aG aF (Q.dv 5) (Q.aS jW gR (Q.ag) (Q.dv 7))) (Q.af)))))))))
    (Q.ao (Q.aH (Q.rB)))
    (Q.aO)))) <|
  Q.ao (Q.aH (Q.jY (Q.pcF O_l_stands (hr.mono (by decide)) rfl G_l_stands.mg G_l_stands.fn.kp G_l_stands.bd (Q.pac (Q.a9 aG aF (Q.dv 4) (Q.ag)) (Q.pac (Q.a9 aG aF (Q.dv 5) (Q.ag)) (Q.af)))) (Q.j6 (Q.pcF O_l_stands (hr.mono (by decide)) rfl G_l_stands.mg G_l_stands.fn.kp G_l_stands.bd (Q.pac (Q.a9 aG aF (Q.dv 4) (Q.ag)) (Q.pac (Q.a9 aG aF (Q.dv 5) (Q.ag)) (Q.af)))))))
theorem all_mk{l:PySem.W.OpenLaw}{w:World}{K:PySem.W.Frag}{h:Heap}{mg:Str->Option Value}{fa:Addr}(X:K.In h)(G:h.Ns mainGlobals mg)(hfa:mg "law" = some (.ref fa))
  (p_l_bag:PFn K "_law_bag" mj)
  (p_l_take:PFn K "_law_take" iR)
  (p_l_shares:PFn K "_law_shares" fD)
  (p_is_word:PFn K "is_word" gv)
  (p_is_whole:PFn K "is_whole" fo)
  (p_is_within:PFn K "is_within" eC)
  (p_is_share_row:PFn K "is_share_row" cJ)
  (p_refuse_shares:PFn K "refuse_shares" cw)
  (p_due_at:PFn K "due_at" iZ)
  {f_round_of:Addr}{oc_round_of kV_round_of dc_round_of pm_round_of cd_round_of ct_round_of:Value}{od_round_of an_round_of:Option Addr}{sl_round_of:Array (Option Value)}
  (a_round_of:PySem.W.nsIn K mainGlobals "round_of" = some (some (.ref f_round_of)))(l_round_of:K.lookup f_round_of=some ⟨oc_round_of,od_round_of,.func (PySem.W.fnOf "round_of" "round_of" (bx du) (bj du) (aq du) .none kV_round_of dc_round_of pm_round_of an_round_of cd_round_of ct_round_of),sl_round_of⟩)(c_round_of:PySem.W.codeIn K cd_round_of "round_of" = true)(k_round_of:PySem.W.keepIn K (.ref f_round_of)=true)
  (cc_round_of:cd_round_of=.ref cZ)
  (p_Door_begin:PMf K ak "begin" "Door.begin" dM)
  (p_Door_new_shares:PMf K ak "new_shares" "Door.new_shares" bT)
  {f_Door_init:Addr}{oc_Door_init kV_Door_init dc_Door_init pm_Door_init cd_Door_init ct_Door_init:Value}{od_Door_init an_Door_init:Option Addr}{sl_Door_init:Array (Option Value)}
  {T_Door_init:Addr}{n_Door_init:Nat}{oc2_Door_init:Value}{od2_Door_init:Option Addr}{sl2_Door_init:Array (Option Value)}
  (a_Door_init:PySem.W.findIn K (.ref ak) "__init__" = some (some (.ref f_Door_init)))(i_Door_init:PySem.W.isFn K (.ref f_Door_init)=true)(l_Door_init:K.lookup f_Door_init=some ⟨oc_Door_init,od_Door_init,.func (PySem.W.fnOf "__init__" "Door.__init__" (bx cR) (bj cR) (aq cR) (.ref T_Door_init) kV_Door_init dc_Door_init pm_Door_init an_Door_init cd_Door_init ct_Door_init),sl_Door_init⟩)(c_Door_init:PySem.W.codeIn K cd_Door_init "Door.__init__" = true)(k_Door_init:PySem.W.keepIn K (.ref f_Door_init)=true)
  (dt_Door_init:K.lookup T_Door_init=some ⟨oc2_Door_init,od2_Door_init,.seq #[.none] n_Door_init,sl2_Door_init⟩)
  (p_Door_number_next:PMf K ak "number_next" "Door.number_next" bN)
  (p_Door_is_waited_at:PMf K ak "is_waited_at" "Door.is_waited_at" bF)
  (p_Door_owner:PMf K ak "owner" "Door.owner" dI)
  (p_Door_use:PMf K ak "use" "Door.use" fk)
  (p_Door_lead:PMf K ak "lead" "Door.lead" eA)
  (p_l_model:PFn K "_law_model" gE)
  (p_Door_waits:PMf K ak "waits" "Door.waits" dJ)
  (p_Door_ask:PMf K ak "ask" "Door.ask" fJ)
  (p_l_let_in:PFn K "_law_let_in" ft)
  (p_l_whose:PFn K "_law_whose" gQ)
  (p_l_use:PFn K "_law_use" l5)
  (p_l_begun:PFn K "_law_begun" gM)
  (p_l_other:PFn K "_law_other" gx)
  (p_l_reshared:PFn K "_law_reshared" dE)
  (p_l_copies:PFn K "_law_copies" fm)
  (p_l_led:PFn K "_law_led" lK)
  (p_l_deed:PFn K "_law_deed" jf)
  (p_Door_slot:PMf K ak "slot" "Door.slot" d9)
  (p_l_stands:PFn K "_law_stands" fq)
  {f_law:Addr}{oc_law kV_law dc_law pm_law cd_law ct_law:Value}{od_law an_law:Option Addr}{sl_law:Array (Option Value)}
  (a_law:PySem.W.nsIn K mainGlobals "law" = some (some (.ref f_law)))(l_law:K.lookup f_law=some ⟨oc_law,od_law,.func (PySem.W.fnOf "law" "law" (bx oY) (bj oY) (aq oY) .none kV_law dc_law pm_law an_law cd_law ct_law),sl_law⟩)(c_law:PySem.W.codeIn K cd_law "law" = true)(k_law:PySem.W.keepIn K (.ref f_law)=true)
  (aC_Door:PySem.W.nsIn K mainGlobals "Door" = some (some (.ref ak)))(pg_Door:PySem.W.plainGet K ak Str.empty=true)(hd_Door:PySem.W.hasDictIn K ak=true)(po_Door:PySem.W.plainOver K ak=true)(sa_Door:PySem.W.findIn K (.ref ak) "__setattr__" = some (some (.builtin "object.__setattr__")))(mk_Door:PySem.W.makesIn K ak=true)(kc_Door:PySem.W.keepIn K (.ref ak)=true)
  (xf_h_round_of:PySem.W.codeHdIn K cZ aw=true)
  (n_Door_asks_waiting:PySem.W.findIn K (.ref ak) "asks_waiting" = some none)
  (n_Door_next_slot:PySem.W.findIn K (.ref ak) "next_slot" = some none)
  (n_Door_number_led:PySem.W.findIn K (.ref ak) "number_led" = some none)
  (n_Door_owner_round:PySem.W.findIn K (.ref ak) "owner_round" = some none)
  (b_abs:PySem.W.nsIn K mainGlobals "abs" = some none)
  (b_all:PySem.W.nsIn K mainGlobals "all" = some none)
  (b_any:PySem.W.nsIn K mainGlobals "any" = some none)
  (b_bool:PySem.W.nsIn K mainGlobals "bool" = some none)
  (b_enumerate:PySem.W.nsIn K mainGlobals "enumerate" = some none)
  (b_int:PySem.W.nsIn K mainGlobals "int" = some none)
  (b_isinstance:PySem.W.nsIn K mainGlobals "isinstance" = some none)
  (b_len:PySem.W.nsIn K mainGlobals "len" = some none)
  (b_list:PySem.W.nsIn K mainGlobals "list" = some none)
  (b_max:PySem.W.nsIn K mainGlobals "max" = some none)
  (b_min:PySem.W.nsIn K mainGlobals "min" = some none)
  (b_range:PySem.W.nsIn K mainGlobals "range" = some none)
  (b_str:PySem.W.nsIn K mainGlobals "str" = some none)
  (b_sum:PySem.W.nsIn K mainGlobals "sum" = some none)
  (b_tuple:PySem.W.nsIn K mainGlobals "tuple" = some none)
  {t_LONGEST_WORD:Tok}(g_LONGEST_WORD:PySem.W.nsIn K mainGlobals "LONGEST_WORD" = some (some (.int 8 t_LONGEST_WORD)))
  {t_MOST_GROUPS:Tok}(g_MOST_GROUPS:PySem.W.nsIn K mainGlobals "MOST_GROUPS" = some (some (.int 4 t_MOST_GROUPS)))
  {t_MOST_SHARE:Tok}(g_MOST_SHARE:PySem.W.nsIn K mainGlobals "MOST_SHARE" = some (some (.int 9 t_MOST_SHARE)))
  {t_MOST_WAITING:Tok}(g_MOST_WAITING:PySem.W.nsIn K mainGlobals "MOST_WAITING" = some (some (.int 40 t_MOST_WAITING))) :
  ∃ fd:FuncData,(∀ (s:Shared) (v:Value),BindsTo s fd ⟨[v],[]⟩ [("_law_script",v)])/\∀ base:Heap,K.In base->base.Ns mainGlobals mg->cX l.prog w K mg base CX0 8 fa fd ["_law_script"] (dG K lp):=by
 have e:=hfa.symm.trans (PySem.W.mg_of X G a_law);cases e;have E:Env K mg:=⟨⟨pg_Door,hd_Door,po_Door,sa_Door⟩,PySem.W.mg_of X G aC_Door,xf_h_round_of,n_Door_asks_waiting,n_Door_next_slot,n_Door_number_led,n_Door_owner_round,PySem.W.mg_none_of X G b_abs,PySem.W.mg_none_of X G b_all,PySem.W.mg_none_of X G b_any,PySem.W.mg_none_of X G b_bool,PySem.W.mg_none_of X G b_enumerate,PySem.W.mg_none_of X G b_int,PySem.W.mg_none_of X G b_isinstance,PySem.W.mg_none_of X G b_len,PySem.W.mg_none_of X G b_list,PySem.W.mg_none_of X G b_max,PySem.W.mg_none_of X G b_min,PySem.W.mg_none_of X G b_range,PySem.W.mg_none_of X G b_str,PySem.W.mg_none_of X G b_sum,PySem.W.mg_none_of X G b_tuple,⟨_,PySem.W.mg_of X G g_LONGEST_WORD⟩,⟨_,PySem.W.mg_of X G g_MOST_GROUPS⟩,⟨_,PySem.W.mg_of X G g_MOST_SHARE⟩,⟨_,PySem.W.mg_of X G g_MOST_WAITING⟩⟩;obtain⟨_,_,G_l_bag⟩:∃ f fd,Fn K mg "_law_bag" mj ["_law_script"] f fd:=p_l_bag.fn X G (λ _ _ _ _ _ _ us hl=>by obtain⟨_,rfl⟩:=D.gh hl;rfl);obtain⟨_,_,G_l_take⟩:∃ f fd,Fn K mg "_law_take" iR ["_law_bag_here", "_law_many"] f fd:=p_l_take.fn X G (λ _ _ _ _ _ _ us hl=>by obtain⟨_,_,rfl⟩:=D.lE hl;rfl);obtain⟨_,_,G_l_shares⟩:∃ f fd,Fn K mg "_law_shares" fD ["_law_bag_here"] f fd:=p_l_shares.fn X G (λ _ _ _ _ _ _ us hl=>by obtain⟨_,rfl⟩:=D.gh hl;rfl);obtain⟨_,_,G_is_word⟩:∃ f fd,Fn K mg "is_word" gv ["thing"] f fd:=p_is_word.fn X G (λ _ _ _ _ _ _ us hl=>by obtain⟨_,rfl⟩:=D.gh hl;rfl);obtain⟨_,_,G_is_whole⟩:∃ f fd,Fn K mg "is_whole" fo ["thing"] f fd:=p_is_whole.fn X G (λ _ _ _ _ _ _ us hl=>by obtain⟨_,rfl⟩:=D.gh hl;rfl);obtain⟨_,_,G_is_within⟩:∃ f fd,Fn K mg "is_within" eC ["thing", "low", "high"] f fd:=p_is_within.fn X G (λ _ _ _ _ _ _ us hl=>by obtain⟨_,_,_,rfl⟩:=D.yD hl;rfl);obtain⟨_,_,G_is_share_row⟩:∃ f fd,Fn K mg "is_share_row" cJ ["row"] f fd:=p_is_share_row.fn X G (λ _ _ _ _ _ _ us hl=>by obtain⟨_,rfl⟩:=D.gh hl;rfl);obtain⟨_,_,G_refuse_shares⟩:∃ f fd,Fn K mg "refuse_shares" cw ["shares"] f fd:=p_refuse_shares.fn X G (λ _ _ _ _ _ _ us hl=>by obtain⟨_,rfl⟩:=D.gh hl;rfl);obtain⟨_,_,G_due_at⟩:∃ f fd,Fn K mg "due_at" iZ ["unit", "whole", "share"] f fd:=p_due_at.fn X G (λ _ _ _ _ _ _ us hl=>by obtain⟨_,_,_,rfl⟩:=D.yD hl;rfl);have G_round_of:Fn K mg "round_of" du ["shares"] _ _:=ac8 X G a_round_of l_round_of c_round_of k_round_of (λ _ _ _ _ _ _ us hl=>by obtain⟨_,rfl⟩:=D.gh hl;rfl);obtain⟨_,_,G_Door_begin⟩:∃ f fd,Mf K ak "begin" "Door.begin" dM ["self"] f fd:=p_Door_begin.mf (λ _ _ _ _ _ _ us hl=>by obtain⟨_,rfl⟩:=D.gh hl;rfl);obtain⟨_,_,G_Door_new_shares⟩:∃ f fd,Mf K ak "new_shares" "Door.new_shares" bT ["self", "shares"] f fd:=p_Door_new_shares.mf (λ _ _ _ _ _ _ us hl=>by obtain⟨_,_,rfl⟩:=D.lE hl;rfl);have G_Door_init:MiE K ak "Door.__init__" cR ["self", "shares"] _ _:=aeP a_Door_init i_Door_init l_Door_init c_Door_init k_Door_init mk_Door kc_Door dt_Door_init (λ us hl=>match us,hl with | [_,_],_=>⟨_,rfl,rfl⟩) (λ us hl=>match us,hl with | [_],_=>⟨_,rfl,rfl⟩)
 obtain⟨_,_,G_Door_number_next⟩:∃ f fd,Mf K ak "number_next" "Door.number_next" bN ["self", "hands"] f fd:=p_Door_number_next.mf (λ _ _ _ _ _ _ us hl=>by obtain⟨_,_,rfl⟩:=D.lE hl;rfl);obtain⟨_,_,G_Door_is_waited_at⟩:∃ f fd,Mf K ak "is_waited_at" "Door.is_waited_at" bF ["self"] f fd:=p_Door_is_waited_at.mf (λ _ _ _ _ _ _ us hl=>by obtain⟨_,rfl⟩:=D.gh hl;rfl);obtain⟨_,_,G_Door_owner⟩:∃ f fd,Mf K ak "owner" "Door.owner" dI ["self"] f fd:=p_Door_owner.mf (λ _ _ _ _ _ _ us hl=>by obtain⟨_,rfl⟩:=D.gh hl;rfl);obtain⟨_,_,G_Door_use⟩:∃ f fd,Mf K ak "use" "Door.use" fk ["self"] f fd:=p_Door_use.mf (λ _ _ _ _ _ _ us hl=>by obtain⟨_,rfl⟩:=D.gh hl;rfl);obtain⟨_,_,G_Door_lead⟩:∃ f fd,Mf K ak "lead" "Door.lead" eA ["self", "copies"] f fd:=p_Door_lead.mf (λ _ _ _ _ _ _ us hl=>by obtain⟨_,_,rfl⟩:=D.lE hl;rfl);obtain⟨_,_,G_l_model⟩:∃ f fd,Fn K mg "_law_model" gE ["_law_shares_here"] f fd:=p_l_model.fn X G (λ _ _ _ _ _ _ us hl=>by obtain⟨_,rfl⟩:=D.gh hl;rfl);obtain⟨_,_,G_Door_waits⟩:∃ f fd,Mf K ak "waits" "Door.waits" dJ ["self", "group"] f fd:=p_Door_waits.mf (λ _ _ _ _ _ _ us hl=>by obtain⟨_,_,rfl⟩:=D.lE hl;rfl);obtain⟨_,_,G_Door_ask⟩:∃ f fd,Mf K ak "ask" "Door.ask" fJ ["self", "group", "many"] f fd:=p_Door_ask.mf (λ _ _ _ _ _ _ us hl=>by obtain⟨_,_,_,rfl⟩:=D.yD hl;rfl);obtain⟨_,_,G_l_let_in⟩:∃ f fd,Fn K mg "_law_let_in" ft ["_law_model_here", "_law_group", "_law_many"] f fd:=p_l_let_in.fn X G (λ _ _ _ _ _ _ us hl=>by obtain⟨_,_,_,rfl⟩:=D.yD hl;rfl);obtain⟨_,_,G_l_whose⟩:∃ f fd,Fn K mg "_law_whose" gQ ["_law_model_here"] f fd:=p_l_whose.fn X G (λ _ _ _ _ _ _ us hl=>by obtain⟨_,rfl⟩:=D.gh hl;rfl);obtain⟨_,_,G_l_use⟩:∃ f fd,Fn K mg "_law_use" l5 ["_law_model_here"] f fd:=p_l_use.fn X G (λ _ _ _ _ _ _ us hl=>by obtain⟨_,rfl⟩:=D.gh hl;rfl);obtain⟨_,_,G_l_begun⟩:∃ f fd,Fn K mg "_law_begun" gM ["_law_model_here"] f fd:=p_l_begun.fn X G (λ _ _ _ _ _ _ us hl=>by obtain⟨_,rfl⟩:=D.gh hl;rfl);obtain⟨_,_,G_l_other⟩:∃ f fd,Fn K mg "_law_other" gx ["_law_bag_here", "_law_model_here"] f fd:=p_l_other.fn X G (λ _ _ _ _ _ _ us hl=>by obtain⟨_,_,rfl⟩:=D.lE hl;rfl);obtain⟨_,_,G_l_reshared⟩:∃ f fd,Fn K mg "_law_reshared" dE ["_law_model_here", "_law_shares_here"] f fd:=p_l_reshared.fn X G (λ _ _ _ _ _ _ us hl=>by obtain⟨_,_,rfl⟩:=D.lE hl;rfl);obtain⟨_,_,G_l_copies⟩:∃ f fd,Fn K mg "_law_copies" fm ["_law_bag_here", "_law_most"] f fd:=p_l_copies.fn X G (λ _ _ _ _ _ _ us hl=>by obtain⟨_,_,rfl⟩:=D.lE hl;rfl);obtain⟨_,_,G_l_led⟩:∃ f fd,Fn K mg "_law_led" lK ["_law_model_here", "_law_copies_here"] f fd:=p_l_led.fn X G (λ _ _ _ _ _ _ us hl=>by obtain⟨_,_,rfl⟩:=D.lE hl;rfl);obtain⟨_,_,G_l_deed⟩:∃ f fd,Fn K mg "_law_deed" jf ["_law_bag_here", "_law_door", "_law_model_here"] f fd:=p_l_deed.fn X G (λ _ _ _ _ _ _ us hl=>by obtain⟨_,_,_,rfl⟩:=D.yD hl;rfl);obtain⟨_,_,G_Door_slot⟩:∃ f fd,Mf K ak "slot" "Door.slot" d9 ["self"] f fd:=p_Door_slot.mf (λ _ _ _ _ _ _ us hl=>by obtain⟨_,rfl⟩:=D.gh hl;rfl);obtain⟨_,_,G_l_stands⟩:∃ f fd,Fn K mg "_law_stands" fq ["_law_door", "_law_model_here"] f fd:=p_l_stands.fn X G (λ _ _ _ _ _ _ us hl=>by obtain⟨_,_,rfl⟩:=D.lE hl;rfl);have G_law:Fn K mg "law" oY ["_law_script"] _ _:=ac8 X G a_law l_law c_law k_law (λ _ _ _ _ _ _ us hl=>by obtain⟨_,rfl⟩:=D.gh hl;rfl);refine⟨PySem.W.fnOf "law" "law" (bx oY) (bj oY) (aq oY) .none kV_law dc_law pm_law an_law cd_law ct_law,λ s v=>.of_eq rfl,λ base _ _=>?_⟩;have z_l_bag:xR l.prog w K mg base:=⟨_,_,G_l_bag,zT E G_l_bag⟩;have z_l_take:hE l.prog w K mg base:=⟨_,_,G_l_take,yb E G_l_take⟩;have z_l_shares:jv l.prog w K mg base:=⟨_,_,G_l_shares,tI E G_l_shares z_l_take⟩;have z_is_word:lR l.prog w K mg base:=⟨_,_,G_is_word,v8 E G_is_word⟩;have z_is_whole:nV l.prog w K mg base:=⟨_,_,G_is_whole,tu E G_is_whole⟩;have z_is_within:lD l.prog w K mg base:=⟨_,_,G_is_within,sj E G_is_within z_is_whole⟩;have z_is_share_row:iy l.prog w K mg base:=⟨_,_,G_is_share_row,lZ E G_is_share_row z_is_word z_is_within⟩;have z_refuse_shares:gU l.prog w K mg base:=⟨_,_,G_refuse_shares,kd E G_refuse_shares z_is_share_row⟩;have z_due_at:uB l.prog w K mg base:=⟨_,_,G_due_at,xY E G_due_at⟩;have z_round_of:mV l.prog w K mg base:=⟨_,_,G_round_of,sH E G_round_of cc_round_of z_due_at⟩;have z_Door_begin:gk l.prog w K mg base:=⟨_,_,G_Door_begin,oS E G_Door_begin⟩;have z_Door_new_shares:cE l.prog w K mg base:=⟨_,_,G_Door_new_shares,iT E G_Door_new_shares z_refuse_shares z_round_of z_Door_begin⟩;have z_Door_init:k8 l.prog w K mg base:=⟨_,_,G_Door_init,rg E G_Door_init z_Door_new_shares⟩;have z_Door_number_next:eV l.prog w K mg base:=⟨_,_,G_Door_number_next,iH E G_Door_number_next⟩;have z_Door_is_waited_at:cQ l.prog w K mg base:=⟨_,_,G_Door_is_waited_at,ij E G_Door_is_waited_at⟩;have z_Door_owner:gX l.prog w K mg base:=⟨_,_,G_Door_owner,oW E G_Door_owner⟩;have z_Door_use:jq l.prog w K mg base:=⟨_,_,G_Door_use,t9 E G_Door_use z_Door_is_waited_at z_Door_owner⟩;have z_Door_lead:iD l.prog w K mg base:=⟨_,_,G_Door_lead,rM E G_Door_lead z_Door_number_next z_Door_is_waited_at z_Door_use⟩;have z_l_model:qd l.prog w K mg base:=⟨_,_,G_l_model,vT E G_l_model⟩;have z_Door_waits:gm l.prog w K mg base:=⟨_,_,G_Door_waits,pQ E G_Door_waits z_is_word⟩;have z_Door_ask:nM l.prog w K mg base:=⟨_,_,G_Door_ask,tZ E G_Door_ask z_Door_waits⟩;have z_l_let_in:ny l.prog w K mg base:=⟨_,_,G_l_let_in,sX E G_l_let_in⟩;have z_l_whose:kN l.prog w K mg base:=⟨_,_,G_l_whose,vB E G_l_whose⟩;have z_l_use:tm l.prog w K mg base:=⟨_,_,G_l_use,aaB E G_l_use z_l_whose⟩;have z_l_begun:l8 l.prog w K mg base:=⟨_,_,G_l_begun,vw E G_l_begun⟩;have z_l_other:rL l.prog w K mg base:=⟨_,_,G_l_other,vS E G_l_other z_l_take z_l_shares⟩;have z_l_reshared:jT l.prog w K mg base:=⟨_,_,G_l_reshared,oV E G_l_reshared z_l_begun⟩;have z_l_copies:nz l.prog w K mg base:=⟨_,_,G_l_copies,sI E G_l_copies z_l_take⟩;have z_l_led:y9 l.prog w K mg base:=⟨_,_,G_l_led,aan E G_l_led z_l_use⟩;have z_l_deed:uE l.prog w K mg base:=⟨_,_,G_l_deed,yz E G_l_deed z_l_take z_Door_ask z_l_let_in z_Door_use z_l_use z_l_begun z_Door_begin z_l_other z_l_reshared z_Door_new_shares z_l_copies z_Door_lead z_l_led⟩;have z_Door_slot:lH l.prog w K mg base:=⟨_,_,G_Door_slot,ql E G_Door_slot⟩;have z_l_stands:nK l.prog w K mg base:=⟨_,_,G_l_stands,tT E G_l_stands z_l_whose z_Door_slot z_Door_owner z_Door_waits⟩;have O_law:=ae8 (P:=l.prog) (w:=w) (base:=base) E G_law z_l_bag z_l_shares z_l_take z_Door_init z_Door_lead z_Door_new_shares z_l_model z_l_deed z_l_stands;exact O_law
end
theorem walk{l:PySem.W.OpenLaw}{q:Program}{loose:List Str}{XP:(Str->Option Value)->Heap->Prop}{YP:World->Heap->Prop}{d:DefRec}{K:Params->PySem.W.Frag}(hq:PyProof.Rows.importsNone q=true)(hn:l.most=some 63)(hdf:d.params.defaults=[])
  (hT:∀ w:World,PySem.W.codeHdIn (K w.params) cZ aw=true/\(K w.params).lookup aw=none)(hY:∀ (w:World) (h:Heap),YP w h->(K w.params).In h/\∀ T∈[aw],h.get? T=some {cls:=.none,data:=.fields #[]})
  (F:∀ (w:World) (mg:Str->Option Value) (fa:Addr) (h:Heap),(K w.params).In h->h.Ns mainGlobals mg->mg d.name=some (.ref fa) ->
   ∃ fd:FuncData,(∀ (s:Shared) (u:Value),BindsTo s fd ⟨[u],[]⟩ [("_law_script",u)])/\∀ base:Heap,(K w.params).In base->base.Ns mainGlobals mg->cX l.prog w (K w.params) mg base CX0 8 fa fd ["_law_script"] (dG (K w.params) lp)) :
  PySem.W.WalkO q loose XP YP l.row.toRowW d [] (λ f vs=>PySem.call f vs):=
 L2.aaW (n:=63) (k:=8) (x:= "_law_script") (CX:=λ _=>CX0) (sp:=λ w=>dG (K w.params) lp) hq hn (by decide) hdf ⟨rfl,rfl,by decide,by decide⟩ [aw] (λ w T h=>by rw[List.mem_singleton.mp h];exact⟨⟨_,(hT w).1⟩,(hT w).2⟩) hY F (λ _ H a ns hl hO hB hS=>D.v9 (q:=fF) (lpos:=⟨39,41,39,92⟩) hl hO hB hS aaV) λ _ _ _ _ _ z=>z
end K88
end
namespace PySem.W.Fast
def tw9195463968017195646:=0
def tw15754479961704260507:=0
def tw1110264382080815352:=0
def tw5793068552665138871:=0
def tw1739007841020357558:=0
def tw12464690972669048270:=0
def tw12265880116830958700:=0
def tw13649291528899363717:=0
def tw15360593292999241381:=0
def tw4859240071870867876:=0
def tw11166933761884024259:=0
def tw17737182653983614817:=0
def tw2683628306635882947:=0
end PySem.W.Fast
open PySem PySem.W PyProof.Rows
local macro_rules | `(tactic| walk_at "kf")=>`(tactic| (refine' D.age ?a ?l ?c ?k; (case a=>k_is); (case l=>k_is); (case c=>k_is); (case k=>k_is)))
local macro_rules | `(tactic| walk_at "km")=>`(tactic| (refine' D.ae5 ?a ?i ?l ?c ?k; (case a=>k_is); (case i=>k_is); (case l=>k_is); (case c=>k_is); (case k=>k_is)))
set_option maxRecDepth 100000
set_option maxHeartbeats 0
theorem PySem.Challenge.cw_placedworks_k88_whole_door_by_a_plain_mo_holds : PySem.Challenge.rw_placedworks_k88_whole_door_by_a_plain_mo.Holds := by
 w_on;o_law;k_head; (case hw=>w_witness2)
 k_fill
 refine K88.walk (l:=PySem.Challenge.rw_placedworks_k88_whole_door_by_a_plain_mo) ?Q rfl rfl ?T (λ w h Y=>⟨PySem.W.km_in_of Y,PySem.W.km_tabs_of Y⟩) ?F
 case Q=>kernel_rfl
 case T=>(intro w;exact⟨by kernel_rfl,by kernel_rfl⟩)
 case F =>
  intro w mg fa h KX G hmg;refine' K88.all_mk KX G hmg ?p_l_bag ?p_l_take ?p_l_shares ?p_is_word ?p_is_whole ?p_is_within ?p_is_share_row ?p_refuse_shares ?p_due_at ?a_round_of ?l_round_of ?c_round_of ?k_round_of ?cc_round_of ?p_Door_begin ?p_Door_new_shares ?a_Door_init ?i_Door_init ?l_Door_init ?c_Door_init ?k_Door_init ?dt_Door_init ?p_Door_number_next ?p_Door_is_waited_at ?p_Door_owner ?p_Door_use ?p_Door_lead ?p_l_model ?p_Door_waits ?p_Door_ask ?p_l_let_in ?p_l_whose ?p_l_use ?p_l_begun ?p_l_other ?p_l_reshared ?p_l_copies ?p_l_led ?p_l_deed ?p_Door_slot ?p_l_stands ?a_law ?l_law ?c_law ?k_law ?aC_Door ?pg_Door ?hd_Door ?po_Door ?sa_Door ?mk_Door ?kc_Door ?xf_h_round_of ?n_Door_asks_waiting ?n_Door_next_slot ?n_Door_number_led ?n_Door_owner_round ?b_abs ?b_all ?b_any ?b_bool ?b_enumerate ?b_int ?b_isinstance ?b_len ?b_list ?b_max ?b_min ?b_range ?b_str ?b_sum ?b_tuple ?g_LONGEST_WORD ?g_MOST_GROUPS ?g_MOST_SHARE ?g_MOST_WAITING
  (case p_l_bag=>walk_at "kf")
  (case p_l_take=>walk_at "kf")
  (case p_l_shares=>walk_at "kf")
  (case p_is_word=>walk_at "kf")
  (case p_is_whole=>walk_at "kf")
  (case p_is_within=>walk_at "kf")
  (case p_is_share_row=>walk_at "kf")
  (case p_refuse_shares=>walk_at "kf")
  (case p_due_at=>walk_at "kf")
  (case a_round_of=>k_is)
  (case l_round_of=>k_is)
  (case c_round_of=>k_is)
  (case k_round_of=>k_is)
  (case cc_round_of=>exact rfl)
  (case p_Door_begin=>walk_at "km")
  (case p_Door_new_shares=>walk_at "km")
  (case a_Door_init=>k_is)
  (case i_Door_init=>k_is)
  (case l_Door_init=>k_is)
  (case c_Door_init=>k_is)
  (case k_Door_init=>k_is)
  (case dt_Door_init=>k_is)
  (case p_Door_number_next=>walk_at "km")
  (case p_Door_is_waited_at=>walk_at "km")
  (case p_Door_owner=>walk_at "km")
  (case p_Door_use=>walk_at "km")
  (case p_Door_lead=>walk_at "km")
  (case p_l_model=>walk_at "kf")
  (case p_Door_waits=>walk_at "km")
  (case p_Door_ask=>walk_at "km")
  (case p_l_let_in=>walk_at "kf")
  (case p_l_whose=>walk_at "kf")
  (case p_l_use=>walk_at "kf")
  (case p_l_begun=>walk_at "kf")
  (case p_l_other=>walk_at "kf")
  (case p_l_reshared=>walk_at "kf")
  (case p_l_copies=>walk_at "kf")
  (case p_l_led=>walk_at "kf")
  (case p_l_deed=>walk_at "kf")
  (case p_Door_slot=>walk_at "km")
  (case p_l_stands=>walk_at "kf")
  (case a_law=>k_is)
  (case l_law=>k_is)
  (case c_law=>k_is)
  (case k_law=>k_is)
  (case aC_Door=>k_is)
  (case pg_Door=>k_is)
  (case hd_Door=>k_is)
  (case po_Door=>k_is)
  (case sa_Door=>k_is)
  (case mk_Door=>k_is)
  (case kc_Door=>k_is)
  (case xf_h_round_of=>kernel_rfl)
  (case n_Door_asks_waiting=>k_is)
  (case n_Door_next_slot=>k_is)
  (case n_Door_number_led=>k_is)
  (case n_Door_owner_round=>k_is)
  (case b_abs=>k_is)
  (case b_all=>k_is)
  (case b_any=>k_is)
  (case b_bool=>k_is)
  (case b_enumerate=>k_is)
  (case b_int=>k_is)
  (case b_isinstance=>k_is)
  (case b_len=>k_is)
  (case b_list=>k_is)
  (case b_max=>k_is)
  (case b_min=>k_is)
  (case b_range=>k_is)
  (case b_str=>k_is)
  (case b_sum=>k_is)
  (case b_tuple=>k_is)
  (case g_LONGEST_WORD=>k_is)
  (case g_MOST_GROUPS=>k_is)
  (case g_MOST_SHARE=>k_is)
  (case g_MOST_WAITING=>k_is)
