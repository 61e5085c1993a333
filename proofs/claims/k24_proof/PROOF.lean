import PyProof.Rows.All
import Wide.All
import OpenK.AllK
import Wide.FinOn
import Lean
import PyProof.EqAt
import PyProof.EqKinds
import PyProof.TupleCall
import KE.KSortTup
import KE.KDictSum
import PyProof.Rows.Range3
import PyProof.Rows.SortRev
import PyProof.StrBlock2
import PyProof.ZipIter
import PyProof.Rows.ZipGen
import PyProof.NeKinds
import PyProof.DictCompW
import PyProof.DictWalks
import PyProof.AttrMissHeap
import PyProof.WalksS
import KE.KDictOf
import KE.KListMore
import KE.KEqDict
import PyProof.StationsW
import PyProof.InstStoreFacts
import PyProof.ExcBaseAll.ValueError
import PyProof.ExcClass2
import PyProof.RulesAs
import KE.KTryMore
import PyProof.ExcArgs
import KE.KIsAll
import OpenK.KOwn
import PyProof.P3In
import PyProof.DictUpdate
import PyProof.MeetsSeq2
import KE.KIntText
import KE.KRevSl
import PyProof.Rows.StrLawsPart
import PyProof.EnumMake
import PyProof.Draws
import PyProof.ListRange
import PyProof.TupleOfStr
import KE.KLam
import KE.KNestM
import KE.KMinKey
import PySem.Challenge.RW_placedworks_k24_editions_and_back
set_option genSizeOf false
set_option genSizeOfSpec false
set_option bootstrap.genMatcherCode false
set_option Elab.async false
set_option linter.all false
set_option maxRecDepth 100000
abbrev FG:=PySem.W.Frag
abbrev PN:=List (PySem.Addr×PySem.Obj)
abbrev VP:=PySem.Value->PySem.Shared->Prop
abbrev ND(x:PySem.Str):Prop:=(x==("__debug__" : PySem.Str))=false
section
open PySem PySem.Spec PyProof.Rows
namespace L2
abbrev Key:=Sum Int Str
def mr:Key->Value->Bool
 | .inl k,v=>Value.isInt k v
 | .inr x,v=>Value.isStrOf x v
def agV(w:World):Key->Int
 | .inl k=>hashInt k
 | .inr x=>hashStr w x
theorem bQ:∀ {k:Key} {v:Value},mr k v=true->(∃ i t,k=Sum.inl i/\v=Value.int i t)\/(∃ x t,k=Sum.inr x/\v=Value.str x t)
 | .inl i,v,h=>by obtain⟨t,e⟩:=Value.isInt_shape (k:=i) (v:=v) h;exact .inl ⟨i,t,rfl,e⟩
 | .inr x,v,h=>by obtain⟨t,e⟩:=Value.isStrOf_shape (x:=x) (v:=v) h;exact .inr ⟨x,t,rfl,e⟩
theorem vN(i:Int)(t:Tok):mr (.inl i) (.int i t)=true:=by simp[mr,Value.isInt]
theorem xg(x:Str)(t:Tok):mr (.inr x) (.str x t)=true:=by simp[mr,Value.isStrOf]
theorem aex(a b:Int):decide ((Sum.inl a:Key)=Sum.inl b)=(a==b):=by
 by_cases e:a=b
 ·subst e;simp
 ·have h:¬ (Sum.inl a:Key)=Sum.inl b:=λ q=>e (Sum.inl.inj q);rw[decide_eq_false h];exact(beq_eq_false_iff_ne.mpr e).symm
theorem acS(a b:Str):decide ((Sum.inr a:Key)=Sum.inr b)=decide (a=b):=by
 by_cases e:a=b
 ·subst e;simp
 ·have h:¬ (Sum.inr a:Key)=Sum.inr b:=λ q=>e (Sum.inr.inj q);rw[decide_eq_false h,decide_eq_false e]
theorem adM(a:Int)(b:Str):decide ((Sum.inl a:Key)=Sum.inr b)=false:=decide_eq_false (λ q=>nomatch q)
theorem aeN(a:Str)(b:Int):decide ((Sum.inr a:Key)=Sum.inl b)=false:=decide_eq_false (λ q=>nomatch q)
def bb(prog:Program)(w:World):PySem.KeyKind prog w Key where
 is:=mr
 hash:=agV w
 inj:=λ v a b ha hb=>by
  rcases bQ ha with ⟨i,t,rfl,rfl⟩ | ⟨x,t,rfl,rfl⟩
  ·rcases bQ hb with ⟨j,u,rfl,e⟩ | ⟨y,u,rfl,e⟩
   ·injection e with e1 _;rw[e1]
   ·exact nomatch e
  ·rcases bQ hb with ⟨j,u,rfl,e⟩ | ⟨y,u,rfl,e⟩
   ·exact nomatch e
   ·injection e with e1 _;rw[e1]
 byValue:=λ k v h=>by
  rcases bQ h with ⟨i,t,rfl,rfl⟩ | ⟨x,t,rfl,rfl⟩<;>rfl
 pyHash:=λ hv h=>by
  rcases bQ hv with ⟨i,t,rfl,rfl⟩ | ⟨x,t,rfl,rfl⟩
  ·exact wpAny_pyHash_int h
  ·exact wpAny_pyHash_str h
 eqBool:=λ hu hv h=>by
  rcases bQ hu with ⟨i,t,rfl,rfl⟩ | ⟨x,t,rfl,rfl⟩
  ·rcases bQ hv with ⟨j,u,rfl,rfl⟩ | ⟨y,u,rfl,rfl⟩
   ·rw[aex] at h;exact wpAny_eqBool_int h
   ·rw[adM] at h;exact SeqAt.EqAt.int_str i t y u _ _ _ _ h
  ·rcases bQ hv with ⟨j,u,rfl,rfl⟩ | ⟨y,u,rfl,rfl⟩
   ·rw[aeN] at h;exact SeqAt.EqAt.str_int x t j u _ _ _ _ h
   ·rw[acS] at h;exact wpAny_eqBool_str h
 «strs»:=λ k x t v h=>by
  rcases bQ h with ⟨i,u,rfl,e⟩ | ⟨y,u,rfl,e⟩
  ·exact nomatch e
  ·injection e with e1 _
   subst e1;cases v<;>rfl
theorem ux(prog:Program)(w:World)(k:Key)(v:Value):(bb prog w).is k v=mr k v:=rfl
theorem rR(prog:Program)(w:World)(i:Int)(t:Tok):(bb prog w).is (.inl i) (.int i t)=true:=vN i t
theorem rh(prog:Program)(w:World)(x:Str)(t:Tok):(bb prog w).is (.inr x) (.str x t)=true:=xg x t
inductive V where
 | non | bl (b:Bool) | int (i:Int) | str (x:Str) | byt (b:Array UInt8) | flt (b:UInt64) | ref (a:Addr) | ty (n:String)
 deriving DecidableEq
def RelV:V->Value->Prop
 | .non,u=>u=Value.none
 | .bl b,u=>u=Value.bool b
 | .int i,u=>∃ t,u=Value.int i t
 | .str x,u=>∃ t,u=Value.str x t
 | .byt b,u=>∃ t,u=Value.bytes b t
 | .flt b,u=>∃ t,u=Value.float b t
 | .ref a,u=>u=Value.ref a
 | .ty n,u=>u=Value.type n
abbrev Vals:List V->List Value->Prop:=Paired RelV
theorem Vals.length{xs:List V}{us:List Value}(r:Vals xs us):xs.length=us.length:=Paired.length r
theorem Vals.get:∀ {xs:List V} {us:List Value} {i:Nat} {x:V},Vals xs us->xs[i]? =some x->∃ u,us[i]? =some u/\RelV x u
 | _,_,_,_,.nil,e=>by simp at e
 | _,_,0,_,.cons r _,e=>by simp at e;subst e;exact⟨_,rfl,r⟩
 | _,_,i+1,x,.cons _ t,e=>by obtain⟨u,h1,h2⟩:=Vals.get (i:=i) (x:=x) t (by simpa using e);exact⟨u,by simpa using h1,h2⟩
theorem Vals.set{x:V}{u:Value}(r:RelV x u):∀ {xs:List V} {us:List Value} (i:Nat),Vals xs us->Vals (xs.set i x) (us.set i u)
 | _,_,_,.nil=>.nil
 | _,_,0,.cons _ t=>.cons r t
 | _,_,i+1,.cons q t=>.cons q (Vals.set r i t)
theorem Vals.append:∀ {xs ys:List V} {us ws:List Value},Vals xs us->Vals ys ws->Vals (xs++ys) (us++ws)
 | _,_,_,_,.nil,s=>s
 | _,_,_,_,.cons r t,s=>.cons r (Vals.append t s)
theorem Vals.take:∀ {xs:List V} {us:List Value} (n:Nat),Vals xs us->Vals (xs.take n) (us.take n)
 | _,_,0,_=>.nil
 | _,_,_+1,.nil=>.nil
 | _,_,n+1,.cons r t=>.cons r (Vals.take n t)
theorem Vals.drop:∀ {xs:List V} {us:List Value} (n:Nat),Vals xs us->Vals (xs.drop n) (us.drop n)
 | _,_,0,r=>r
 | _,_,_+1,.nil=>.nil
 | _,_,n+1,.cons _ t=>Vals.drop n t
theorem Vals.none_of:∀ {xs:List V} {us:List Value} {i:Nat},Vals xs us->xs[i]? =none->us[i]? =none:=λ {xs us i} r e=>by have h1:=r.length;have h2:xs.length<=i:=List.getElem?_eq_none_iff.mp e;exact List.getElem?_eq_none_iff.mpr (by omega)
def mJ:Option V->Option Value->Prop
 | some v,some u=>RelV v u
 | none,none=>True
 | _,_=>False
def KV{κ:Type}:List (κ×V)->List (κ×Value)->Prop:=Paired λ(p:κ×V) (q:κ×Value)=>p.1=q.1/\RelV p.2 q.2
def kV:Key->V
 | .inl i=>.int i
 | .inr x=>.str x
inductive HO where
 | lst (xs:List V)
 | tup (xs:List V)
 | dK (kvs:List (Key×V)) | dT (kvs:List (List Key×V))
 | set (S:Int->Bool) (n:Nat)
 | ins (C dx:Addr) (fs:List (Str×V))
 | own (x:Addr)
 | xd (fs:List (Str×V))
 | met (f x:Addr)
 | rng (lo hi:Int)
 | frz (o:Obj) (u:HO)
 | tbl (ps:Array Value)
 | ext (φ:Heap->Prop)
abbrev Hp:=Addr->Option HO
def upd(H:Hp)(a:Addr)(o:HO):Hp:=λ b=>if b=a then some o else H b
theorem ax{H:Hp}{a:Addr}{o:HO}:upd H a o a=some o:=by unfold upd;rw[if_pos rfl]
theorem au{H:Hp}{a b:Addr}{o:HO}(h:b≠a):upd H a o b=H b:=by unfold upd;rw[if_neg h]
theorem abQ{H:Hp}{a:Addr}{o u:HO}:upd (upd H a o) a u=upd H a u:=by
 funext b;unfold upd;split<;>rfl
theorem abu{H:Hp}{a b:Addr}{o u:HO}(h:H a=some o)(h':H b=some u)(d:o≠u):a≠b:=by intro e;subst e;rw[h] at h';exact d (Option.some.inj h')
theorem bw{H:Hp}{a b:Addr}{o:HO}(h:H a=some o)(h':H b=none):a≠b:=by intro e;subst e;rw[h] at h';cases h'
def aai(h:Heap)(a:Addr)(items:Array Value):Prop:=∃ o,h.get? a=some o/\o.cls=.type "tuple" /\ o.dict=none/\∃ n,o.data=.seq items n
theorem aai.tup{h:Heap}{a:Addr}{items:Array Value}(x:aai h a items):IsTup h a items:=let ⟨o,h1,h2,_,h3⟩:=x; ⟨o,h1,h2,h3⟩
theorem aai.new(h:Heap)(items:Array Value):aai (h.push {cls:=.type "tuple",data:=.seq items}) h.objs.size items:=⟨_,Heap.get?_push_size _ rfl,rfl,rfl,_,rfl⟩
section
variable (P:Program)(w:World)
def cD(H:Hp)(h:Heap)(a:Addr):HO->Prop
 | .lst xs=>xs.length<=sizeLine/\∃ (its:List Value) (n:Nat),Vals xs its/\h.get? a=some {cls:=.type "list",data:=.seq its.toArray n}
 | .tup xs=>xs.length<=sizeLine/\∃ its:List Value,Vals xs its/\aai h a its.toArray
 | .dK kvs=>kvs.length<=sizeLine/\(a==sysModules)=false/\∃ vs,KV kvs vs/\h.DictOf (bb P w) a vs
 | .dT kvs=>kvs.length<=sizeLine/\(a==sysModules)=false/\∃ xs:List (List Key×Addr×Value),
   Paired (λ(p:List Key×V) (q:List Key×Addr×Value)=>p.1=q.1/\H q.2.1=some (.tup (p.1.map kV))/\RelV p.2 q.2.2) kvs xs /\
   ∃ o es ep,h.get? a=some o/\o.ExactDict/\o.data=.dict es ep/\es.toList=xs.map (entryOfKey (tupleKind (bb P w)))/\(xs.map (·.1)).Nodup
 | .set S n=>h.SetOf (intKind P w) a S n
 | .ins C dx fs=>H dx=some (.own a)/\fs.length<=1000/\dx≠a/\h.get? a=some (W.instObj C dx) /\
   ∃ mA,h.Ns1 dx mA/\(∀ f,mJ (fs.lookup f) (mA f))/\PySem.Within mA (fs.map (·.1))
 | .own _=>∃ o,h.get? a=some o
 | .xd fs=>∃ mA,h.Ns1 a mA/\∀ f,mJ (fs.lookup f) (mA f)
 | .rng lo hi=>∃ t u v,h.get? a=some {cls:=.type "range",data:=.fields #[.int lo t,.int hi u,.int 1 v]}
 | .frz o u=>h.get? a=some o/\cD H h a u
 | .tbl ps=>h.get? a=some {cls:=.none,data:=.fields ps}
 | .met f x=>h.get? a=some (W.methodObj (.ref f) (.ref x))
 | .ext φ=>φ h/\(∃ o,h.get? a=some o)/\∀ h1 h2:Heap,φ h1->(∀ o,h1.get? a=some o->h2.get? a=some o)->φ h2
def HOk(H:Hp)(h:Heap):Prop:=∀ a o,H a=some o->cD P w H h a o
end
section
variable {P:Program}{w:World}{H H':Hp}{h h':Heap}{a:Addr}{o:HO}
theorem cD.lt(x:cD P w H h a o):a<h.objs.size:=by
 cases o with
 | lst xs=>obtain⟨_,_,_,_,e⟩:=x;exact Heap.lt_size e
 | tup xs=>obtain⟨_,_,_,p⟩:=x;exact p.tup.lt
 | dK kvs=>obtain⟨_,_,_,_,o,_,_,e,_⟩:=x;exact Heap.lt_size e
 | dT kvs=>obtain⟨_,_,_,_,o,_,_,e,_⟩:=x;exact Heap.lt_size e
 | set S n=>obtain⟨o,_,_,_,e,_⟩:=x;exact Heap.lt_size e
 | ins C dx fs=>obtain⟨_,_,_,e,_⟩:=x;exact Heap.lt_size e
 | own y=>obtain⟨_,e⟩:=x;exact Heap.lt_size e
 | xd fs=>obtain⟨_,⟨_,_,_,e,_⟩,_⟩:=x;exact Heap.lt_size e
 | rng lo hi=>obtain⟨_,_,_,e⟩:=x;exact Heap.lt_size e
 | frz ob u=>obtain⟨e,_⟩:=x;exact Heap.lt_size e
 | tbl ps=>exact Heap.lt_size (show h.get? a=some _ from x)
 | met f y=>exact Heap.lt_size (show h.get? a=some _ from x)
 | ext φ=>obtain⟨_,⟨_,e⟩,_⟩:=x;exact Heap.lt_size e
theorem Paired.j6{α β:Type}{F G:α->β->Prop}:∀ {l₁:List α} {l₂:List β},Paired F l₁ l₂->(∀ a b,F a b->G a b)->Paired G l₁ l₂
 | _,_,.nil,_=>.nil
 | _,_,.cons r t,f=>.cons (f _ _ r) (Paired.j6 t f)
theorem cD.rG(x:cD P w H h a o)(k:∀ b u,(b=a\/H b=some (.own a))->h.get? b=some u->h'.get? b=some u)
  (ho:∀ b,H b=some (.own a)->H' b=some (.own a))(ht:∀ b xs,H b=some (.tup xs)->H' b=some (.tup xs)):cD P w H' h' a o:=by
 induction o with
 | lst xs=>obtain⟨z,its,n,r,e⟩:=x;exact⟨z,its,n,r,k _ _ (.inl rfl) e⟩
 | tup xs=>obtain⟨z,its,r,ob,e,c⟩:=x;exact⟨z,its,r,ob,k _ _ (.inl rfl) e,c⟩
 | dK kvs=>obtain⟨z,y,vs,r,ob,es,ep,e,c⟩:=x;exact⟨z,y,vs,r,ob,es,ep,k _ _ (.inl rfl) e,c⟩
 | dT kvs =>
  obtain⟨z,y,xs,r,ob,es,ep,e,c⟩:=x;exact⟨z,y,xs,Paired.j6 r λ p q z=>⟨z.1,ht _ _ z.2.1,z.2.2⟩,ob,es,ep,k _ _ (.inl rfl) e,c⟩
 | set S n=>obtain⟨ob,es,ep,t,e,c⟩:=x;exact⟨ob,es,ep,t,k _ _ (.inl rfl) e,c⟩
 | ins C dx fs =>
  obtain⟨d,z,ne,e,mA,⟨od,es,ep,e2,c⟩,r⟩:=x;exact⟨ho _ d,z,ne,k _ _ (.inl rfl) e,mA,⟨od,es,ep,k _ _ (.inr d) e2,c⟩,r⟩
 | own y=>obtain⟨ob,e⟩:=x;exact⟨ob,k _ _ (.inl rfl) e⟩
 | xd fs=>obtain⟨mA,⟨od,es,ep,e,c⟩,r⟩:=x;exact⟨mA,⟨od,es,ep,k _ _ (.inl rfl) e,c⟩,r⟩
 | rng lo hi=>obtain⟨t,u,v,e⟩:=x;exact⟨t,u,v,k _ _ (.inl rfl) e⟩
 | frz ob u ih=>obtain⟨e,q⟩:=x;exact⟨k _ _ (.inl rfl) e,ih q⟩
 | tbl ps =>
  have e:h.get? a=some {cls:=.none,data:=.fields ps}:=x;show h'.get? a=some {cls:=.none,data:=.fields ps};exact k a _ (.inl rfl) e
 | met f y =>
  have e:h.get? a=some (W.methodObj (.ref f) (.ref y)):=x;show h'.get? a=some (W.methodObj (.ref f) (.ref y));exact k a _ (.inl rfl) e
 | ext φ=>obtain⟨p,⟨o,e⟩,st⟩:=x;exact⟨st _ _ p λ o q=>k _ _ (.inl rfl) q,⟨o,k _ _ (.inl rfl) e⟩,st⟩
theorem HOk.lt(x:HOk P w H h)(e:H a=some o):a<h.objs.size:=(x a o e).lt
theorem HOk.fresh(x:HOk P w H h)(e:h.objs.size<=a):H a=none:=by
 cases q:H a with
 | none=>rfl
 | some u=>exact absurd (Nat.lt_of_lt_of_le (x.lt q) e) (Nat.lt_irrefl _)
theorem HOk.kept(x:HOk P w H h)(k:∀ b u,h.get? b=some u->h'.get? b=some u):HOk P w H h':=λ a o e =>
 (x a o e).rG (λ b u _ q=>k b u q) (λ _ q=>q) λ _ _ q=>q
theorem HOk.laid(x:HOk P w H h)(k:∀ b u,h.get? b=some u->h'.get? b=some u)(hp:h.objs.size<=a)(new:cD P w (upd H a o) h' a o):HOk P w (upd H a o) h':=λ b u e=>by
 have hn:=x.fresh hp
 by_cases hb:b=a
 ·subst hb;rw[ax] at e;cases e;exact new
 ·rw[au hb] at e;exact(x b u e).rG (λ c v _ q=>k c v q) (λ c q=>by rw[au (bw q hn)];exact q) λ c xs q=>by rw[au (bw q hn)];exact q
end
def Rd(H:Hp)(a:Addr)(u:HO):Prop:=H a=some u\/∃ o,H a=some (.frz o u)
theorem Rd.of{H:Hp}{a:Addr}{u:HO}(h:H a=some u):Rd H a u:=.inl h
theorem Rd.ok{P:Program}{w:World}{H:Hp}{h:Heap}{a:Addr}{u:HO}(r:Rd H a u)(x:HOk P w H h):cD P w H h a u:=by
 rcases r with r | ⟨o,r⟩
 ·exact x a u r
 ·obtain⟨_,q⟩:=x a _ r;exact q
def Mut:Option HO->Prop
 | some (.lst _)=>True
 | some (.dK _)=>True
 | some (.dT _)=>True
 | some (.set _ _)=>True
 | some (.ins _ _ _)=>True
 | some (.ext _)=>True
 | _=>False
section
variable {P:Program}{w:World}{H:Hp}{h h':Heap}{x e:Addr}{o':HO}
theorem HOk.write(ok:HOk P w H h)(mu:Mut (H x))(he:e=x\/H e=some (.own x))(k:∀ b u,b≠e->h.get? b=some u->h'.get? b=some u)(heo:∃ u,h'.get? e=some u)
  (new:cD P w (upd H x o') h' x o'):HOk P w (upd H x o') h':=λ b u q=>by
 have nown:∀ c y,H c=some (.own y)->c≠x:=λ c y r z=>by subst z;rw[r] at mu;exact mu
 have ntup:∀ c xs,H c=some (.tup xs)->c≠x:=λ c xs r z=>by subst z;rw[r] at mu;exact mu
 by_cases hb:b=x
 ·subst hb;rw[ax] at q;cases q;exact new
 ·rw[au hb] at q
  by_cases hbe:b=e
  ·have q':H b=some (.own x):=by
    rcases he with z | z
    ·exact absurd (hbe.trans z) hb
    ·rw[hbe];exact z
   rw[q] at q';cases q';obtain⟨v,hv⟩:=heo;exact⟨v,by rw[hbe];exact hv⟩
  ·refine(ok b u q).rG (λ c v hc r=>k c v ?_ r) (λ c r=>by rw[au (nown c b r)];exact r) λ c xs r=>by rw[au (ntup c xs r)];exact r
   rcases hc with rfl | hc
   ·exact hbe
   ·rintro rfl;rcases he with z | z
    ·exact nown c b hc z
    ·rw[hc] at z;cases z;exact hb rfl
end
structure Un(fs ex:List Addr)(H H':Hp)(h h':Heap):Prop where
 keep:∀ b o,h.get? b=some o->H b=none->b ∉ fs->b ∉ ex->h'.get? b=some o
 slot:∀ b o,h.get? b=some o->H b=none->b∈fs->b ∉ ex->∃ sl,h'.get? b=some {o with slots:=sl}
 free:∀ b o,h.get? b=some o->H b=none->b ∉ ex->H' b=none
 there:∀ b o,h.get? b=some o->b ∉ ex->∃ o',h'.get? b=some o'
 lW:∀ b xs,H b=some (.tup xs)->H' b=some (.tup xs)
 frzs:∀ b o u,H b=some (.frz o u)->H' b=some (.frz o u)
 tbls:∀ b ps,H b=some (.tbl ps)->∃ more,H' b=some (.tbl (ps++more))
section
variable {fs fs' ex ex':List Addr}{H H1 H2:Hp}{h h1 h2 h':Heap}{a x e:Addr}{o:HO}
theorem Un.any(u:Un fs ex H H1 h h1){b:Addr}{ob:Obj}(q:h.get? b=some ob)(n:H b=none)(hx:b ∉ ex):∃ sl,h1.get? b=some {ob with slots:=sl}:=by
 by_cases hb:b∈fs
 ·exact u.slot b ob q n hb hx
 ·exact⟨ob.slots,u.keep b ob q n hb hx⟩
theorem Un.trans(a:Un fs ex H H1 h h1)(b:Un fs ex H1 H2 h1 h2):Un fs ex H H2 h h2 where
 keep:=λ c ob q n hc hx=>b.keep c ob (a.keep c ob q n hc hx) (a.free c ob q n hx) hc hx
 slot:=λ c ob q n hc hx=>by obtain⟨sl,e1⟩:=a.slot c ob q n hc hx;obtain⟨sl',e2⟩:=b.slot c _ e1 (a.free c ob q n hx) hc hx;exact⟨sl',e2⟩
 free:=λ c ob q n hx=>by obtain⟨o',e1⟩:=a.there c ob q hx;exact b.free c o' e1 (a.free c ob q n hx) hx
 there:=λ c ob q hx=>by obtain⟨o',e1⟩:=a.there c ob q hx;exact b.there c o' e1 hx
 lW:=λ c xs q=>b.lW c xs (a.lW c xs q)
 frzs:=λ c ob xs q=>b.frzs c ob xs (a.frzs c ob xs q)
 tbls:=λ c ps q=>by obtain⟨m1,e1⟩:=a.tbls c ps q;obtain⟨m2,e2⟩:=b.tbls c _ e1;exact⟨m1++m2,by rw[e2,Array.append_assoc]⟩
theorem Un.kept(k:∀ b u,h.get? b=some u->h'.get? b=some u):Un fs ex H H h h':=
 ⟨λ b ob q _ _ _=>k b ob q,λ b ob q _ _ _=>⟨ob.slots,k b ob q⟩,λ _ _ _ n _=>n,λ b ob q _=>⟨ob,k b ob q⟩,λ _ _ q=>q,λ _ _ _ q=>q,λ _ ps q=>⟨#[],by rw[q];simp⟩⟩
theorem Un.refl:Un fs ex H H h h:=Un.kept λ _ _ q=>q
theorem Un.laid(k:∀ b u,h.get? b=some u->h'.get? b=some u)(hp:h.objs.size<=a)(hn:H a=none):Un fs ex H (upd H a o) h h' where
 keep:=λ b u q _ _ _=>k b u q
 slot:=λ b u q _ _ _=>⟨u.slots,k b u q⟩
 free:=λ b u q n _=>by rw[au (Nat.ne_of_lt (Nat.lt_of_lt_of_le (Heap.lt_size q) hp))];exact n
 there:=λ b u q _=>⟨u,k b u q⟩
 lW:=λ b xs q=>by rw[au (bw q hn)];exact q
 frzs:=λ b u xs q=>by rw[au (bw q hn)];exact q
 tbls:=λ b ps q=>⟨#[],by rw[au (bw q hn),q];simp⟩
theorem Un.write(mu:Mut (H x))(he:e=x\/H e=some (.own x))(k:∀ b u,b≠e->h.get? b=some u->h'.get? b=some u)(heo:∃ u,h'.get? e=some u):Un fs ex H (upd H x o) h h':=by
 have hx:∀ b,H b=none->b≠x:=λ b n z=>by subst z;rw[n] at mu;exact mu
 have hb:∀ b,H b=none->b≠e:=λ b n z=>by
  subst z;rcases he with r | r
  ·exact hx b n r
  ·rw[n] at r;cases r
 have hm:∀ b u,H b=some u->¬ Mut (some u)->b≠x:=λ b u q nm z=>by subst z;rw[q] at mu;exact nm mu
 refine⟨λ b u q n _ _=>k b u (hb b n) q,λ b u q n _ _=>⟨u.slots,k b u (hb b n) q⟩,λ b u q n _=>by rw[au (hx b n)];exact n,λ b u q _=>?_,
  λ b xs q=>by rw[au (hm b _ q λ z=>z)];exact q,λ b u xs q=>by rw[au (hm b _ q λ z=>z)];exact q,λ b ps q=>⟨#[],by rw[au (hm b _ q λ z=>z),q];simp⟩⟩
 by_cases hbe:b=e
 ·subst hbe;exact heo
 ·exact⟨u,k b u hbe q⟩
theorem Un.mono(u:Un fs ex H H1 h h1)(hs:∀ b∈fs,b∈fs')(hx:∀ b∈ex,b∈ex'):Un fs' ex' H H1 h h1:=
 ⟨λ b ob q n hb he=>u.keep b ob q n (λ z=>hb (hs b z)) λ z=>he (hx b z),λ _ _ q n _ he=>u.any q n λ z=>he (hx _ z),λ b ob q n he=>u.free b ob q n λ z=>he (hx b z),λ b ob q he=>u.there b ob q λ z=>he (hx b z),u.lW,u.frzs,u.tbls⟩
end
def trk(h:Heap)(H:Hp):List Addr:=(List.range h.objs.size).filter λ a=>(H a).isSome
def zg(h:Heap)(H:Hp):Heap:=W.hideAll h (trk h H)
theorem xh(h:Heap)(H:Hp):(zg h H).objs.size=h.objs.size:=W.hideAll_size _ _
theorem zb{h:Heap}{H:Hp}{b:Addr}{o:Obj}(e:h.get? b=some o)(n:H b=none):(zg h H).get? b=some o:=
 W.hideAll_get _ e λ hm=>by have q:(H b).isSome=true:=(List.mem_filter.mp hm).2;rw[n] at q;simp at q
theorem aaw{h:Heap}{H:Hp}{b:Addr}{o:Obj}(e:(zg h H).get? b=some o):h.get? b=some o/\H b=none:=by
 have e':h.get? b=some o:=W.of_hideAll (trk h H) e;refine⟨e',?_⟩;cases q:H b with
 | none=>rfl
 | some x =>
  have hm:b∈trk h H:=List.mem_filter.mpr ⟨List.mem_range.mpr (Heap.lt_size e'),by simp[q]⟩;have z:(zg h H).get? b=none:=W.hideAll_none (trk h H) hm;rw[z] at e;cases e
def abX(g h:Heap)(L:Addr):PN:=(List.range h.objs.size).filterMap λ a=>if a=L\/(g.get? a).isSome=true then none else (h.get? a).map λ o=>(a,o)
def rest(g h:Heap)(L d:Addr):PN:=(abX g h L).filter λ p=>decide (p.1≠d)
def BM(mg:Str->Option Value)(h:Heap):Prop:=(∃ bm o,mg "__builtins__" = some (.ref bm)/\bm≠builtinsNs/\h.get? bm=some o/\o.cls=.type "module" /\ o.dict=some builtinsNs/\o.data=.plain)/\∃ mm,h.Ns sysModules mm
structure Mod(K:FG)(mg:Str->Option Value)(base:Heap):Prop where
 kin:K.In base
 glob:base.Ns mainGlobals mg
 blt:∃ mb,base.Ns builtinsNs mb/\∀ x:Str,x ≠ "__name__" -> mb x=bootBuiltins x
 nolimit:base.NoLimit
 bm:BM mg base
structure Cx where
 prog:Program
 w:World
 K:FG
 mg:Str->Option Value
 base:Heap
 A:Around
 N:List Str
 s₀:Shared
 H₀:Hp
 env:Env
 outer:List Env
 stack:List Env
 ex:List Addr
 fn:Str->Bool
 calm:Bool
 pn:PN
 xe:VP
def frs(l:List Env):List Addr:=l.filterMap (·.frame)
abbrev Cx.fs(X:Cx):List Addr:=frs X.outer
def Vis(sc:Scope)(x:Str):Prop:=sc.names.lookup x=some .local\/sc.names.lookup x=some .cell\/sc.names.lookup x=some .free
def Loc(sc:Scope)(x:Str):Prop:=sc.names.lookup x=some .local\/sc.names.lookup x=some .cell
def Look(env:Env)(h:Heap)(m:Str->Option Value)(x:Str)(u:Value):Prop:=
 (env.kindOf x=some .local/\m x=some u)\/((env.kindOf x=some .cell\/env.kindOf x=some .free)/\∃ c,env.cells.lookup x=some c/\h.IsCell c (some u))
structure Cx.Ok(X:Cx):Prop where
 mod:Mod X.K X.mg X.base
 kind:X.env.scope.kind=.function
 glob:X.env.globals=mainGlobals
 blt:X.env.builtins=builtinsNs
 above:X.s₀.heap.objs.size<=X.env.locals
 inj:∀ x y c,X.env.cells.lookup x=some c->X.env.cells.lookup y=some c->x=y
 has:∀ x,(X.env.kindOf x=some .cell\/X.env.kindOf x=some .free)->∃ c,X.env.cells.lookup x=some c
 cab:∀ x c,X.fn x=true->X.env.cells.lookup x=some c->X.s₀.heap.objs.size<=c
 hd:X.calm=true->X.A.handled=none
 frames:X.A.frames=some X.stack
 stk:X.stack=X.outer\/(X.stack=X.env::X.outer/\X.env.frame=some X.env.locals)
 exf:∀ b∈X.ex,b≠X.env.locals/\∀ x c,X.env.cells.lookup x=some c->c≠b
 bs:∀ b o,X.base.get? b=some o->X.s₀.heap.get? b=some o/\X.H₀ b=none
 bsz:X.base.objs.size<=X.s₀.heap.objs.size
 noex:∀ b o,X.base.get? b=some o->b ∉ X.ex
 exfs:∀ b∈X.ex,b ∉ X.fs
 ng:X.s₀.heap.FunFrames X.base X.outer
 frf:∀ b∈X.fs,X.H₀ b=none
structure Inv(X:Cx)(pins:PN)(σ:List (Option V))(H:Hp)(s:Shared):Prop where
 ok:X.Ok
 os:s.os=X.s₀.os
 bare:AllBare s.gens
 base:Un X.fs X.ex X.H₀ H X.s₀.heap s.heap
 loc:∃ m,s.heap.Ns X.env.locals m/\∀ (i:Nat) (x:Str) (v:V),X.N[i]? =some x->σ[i]? =some (some v)->Vis X.env.scope x->∃ u,RelV v u/\Look X.env s.heap m x u
 cell:∀ x c,X.env.cells.lookup x=some c->∃ v,s.heap.IsCell c v
 free:H X.env.locals=none
 freeC:∀ x c,X.env.cells.lookup x=some c->H c=none
 pin:∀ p∈X.pn++pins,s.heap.get? p.1=some p.2/\H p.1=none/\p.1≠X.env.locals/\p.1 ∉ X.fs/\∀ v,p.2.data ≠ .cell v
 hok:HOk X.prog X.w H s.heap
 len:σ.length=X.N.length
section
variable {X:Cx}{pins:PN}{σ:List (Option V)}{H H':Hp}{s:Shared}{h':Heap}
theorem Cx.Ok.ag0(ok:X.Ok){b:Addr}{o:Obj}(e:X.base.get? b=some o):b ∉ X.fs:=λ hb=>by have:=(ok.ng.mem hb).1;rw[e] at this;cases this
theorem Inv.bs(I:Inv X pins σ H s):∀ b o,X.base.get? b=some o->s.heap.get? b=some o/\H b=none:=λ b o e =>
 ⟨I.base.keep b o (I.ok.bs b o e).1 (I.ok.bs b o e).2 (I.ok.ag0 e) (I.ok.noex b o e),I.base.free b o (I.ok.bs b o e).1 (I.ok.bs b o e).2 (I.ok.noex b o e)⟩
theorem Inv.bk(I:Inv X pins σ H s):∀ b o,X.base.get? b=some o->s.heap.get? b=some o:=λ b o e=>(I.bs b o e).1
theorem Inv.mod(I:Inv X pins σ H s):Mod X.K X.mg X.base:=I.ok.mod
theorem Inv.kIn(I:Inv X pins σ H s):X.K.In s.heap:=I.ok.mod.kin.keeps I.bk
theorem Inv.nolimit(I:Inv X pins σ H s):s.heap.NoLimit:=I.ok.mod.nolimit.keeps I.bk
theorem Inv.fr(I:Inv X pins σ H s):∃ m,Fr X.base X.env.locals s.heap m:=
 let ⟨m,hn,_⟩:=I.loc
 ⟨m,hn,I.bk,Nat.le_trans I.ok.bsz I.ok.above⟩
theorem Inv.lt(I:Inv X pins σ H s):X.env.locals<s.heap.objs.size:=let ⟨_,hn,_⟩:=I.loc;hn.lt
theorem Inv.sz(I:Inv X pins σ H s):X.s₀.heap.objs.size<=s.heap.objs.size:=Nat.le_trans I.ok.above (Nat.le_of_lt I.lt)
theorem Inv.agU(I:Inv X pins σ H s){a:Addr}(h:s.heap.objs.size<=a):a ∉ X.fs:=λ hb=>by obtain⟨_,o,ho,_⟩:=I.ok.ng.mem hb;exact absurd (Nat.lt_of_lt_of_le (Heap.lt_size ho) (Nat.le_trans I.sz h)) (Nat.lt_irrefl _)
theorem Inv.cne(I:Inv X pins σ H s):∀ x c,X.env.cells.lookup x=some c->c≠X.env.locals:=λ x c e z=>by obtain⟨v,o,ho,hd⟩:=I.cell x c e;obtain⟨m,⟨o',es,ep,ho',hd',_⟩,_⟩:=I.loc;rw[z,ho'] at ho;cases ho;rw[hd'] at hd;cases hd
theorem Inv.ng(I:Inv X pins σ H s):s.heap.FunFrames X.base X.outer:=by
 have all:∀ (l:List Env),(∀ b∈frs l,b∈X.fs)->X.s₀.heap.FunFrames X.base l->s.heap.FunFrames X.base l:=by
  intro l
  induction l with
  | nil=>intro _ _;trivial
  | cons env r ih =>
   intro hs hl;obtain⟨hk,⟨L,o,hf,hn,ho,hd⟩,hr⟩:=hl;have hL:L∈X.fs:=hs L (by unfold frs;rw[List.filterMap_cons,hf];exact List.mem_cons_self);obtain⟨sl,e⟩:=I.base.slot L o ho (I.ok.frf L hL) hL λ z=>I.ok.exfs L z hL;exact⟨hk,⟨L,_,hf,hn,e,hd⟩,ih (λ b hb=>hs b (by unfold frs;rw[List.filterMap_cons,hf];exact List.mem_cons_of_mem _ hb)) hr⟩
 exact all X.outer (λ _ hb=>hb) I.ok.ng
theorem Inv.stack(I:Inv X pins σ H s):s.heap.FunFrames X.base X.stack:=by
 rcases I.ok.stk with e | ⟨e,hf⟩
 ·rw[e];exact I.ng
 ·rw[e];obtain⟨m,hn,_⟩:=I.loc;refine .cons (by rw[I.ok.kind];decide) hf hn ?_ I.ng;exact Heap.get?_none_of_le (Nat.le_trans I.ok.bsz I.ok.above)
theorem Inv.nk(I:Inv X pins σ H s):∀ b∈frs X.stack,b∈X.env.locals::X.fs:=λ b hb=>by
 rcases I.ok.stk with e | ⟨e,hf⟩
 ·rw[e] at hb;exact List.mem_cons_of_mem _ hb
 ·rw[e] at hb;unfold frs at hb;rw[List.filterMap_cons,hf] at hb;exact hb
theorem Inv.qZ(I:Inv X pins σ H s):∀ b∈frs X.stack,H b=none:=λ b hb=>by
 rcases List.mem_cons.mp (I.nk b hb) with e | hb
 ·rw[e];exact I.free
 ·obtain⟨_,o,ho,_⟩:=I.ok.ng.mem hb;exact I.base.free b o ho (I.ok.frf b hb) λ z=>I.ok.exfs b z hb
theorem Inv.step{g':Array GenState}{t':Nat}{d':Drawn}{ch:List Addr}(I:Inv X pins σ H s)
  (hch:∀ b∈ch,(b∈X.ex\/X.s₀.heap.objs.size<=b)/\b≠X.env.locals/\(∀ x c,X.env.cells.lookup x=some c->c≠b)/\∀ p∈X.pn++pins,p.1≠b)
  (keep:∀ b o,b≠X.env.locals->b ∉ X.fs->b ∉ ch->s.heap.get? b=some o->H b=none->h'.get? b=some o)
  (slot:∀ b o,b≠X.env.locals->b∈X.fs->b ∉ ch->s.heap.get? b=some o->H b=none->∃ sl,h'.get? b=some {o with slots:=sl})(free:∀ b o,b ∉ ch->s.heap.get? b=some o->H b=none->H' b=none)
  (there:∀ b o,b ∉ ch->s.heap.get? b=some o->∃ o',h'.get? b=some o')
  (lW:∀ b xs,H b=some (.tup xs)->H' b=some (.tup xs))(frzs:∀ b o u,H b=some (.frz o u)->H' b=some (.frz o u))(tbls:∀ b ps,H b=some (.tbl ps)->∃ more,H' b=some (.tbl (ps++more)))
  (ns:∀ m,s.heap.Ns X.env.locals m->h'.Ns X.env.locals m)(hok:HOk X.prog X.w H' h')(hg:AllBare g') :
  Inv X pins σ H' {s with heap:=h',gens:=g',drawn:=d',toks:=t'}:=by
 have neL:∀ b o,X.s₀.heap.get? b=some o->b≠X.env.locals:=λ b o e=>Nat.ne_of_lt (Nat.lt_of_lt_of_le (Heap.lt_size e) I.ok.above);have neC:∀ b o,X.s₀.heap.get? b=some o->b ∉ X.ex->b ∉ ch:=λ b o e hx hb=>by
  rcases(hch b hb).1 with z | z
  ·exact hx z
  ·exact absurd (Nat.lt_of_lt_of_le (Heap.lt_size e) z) (Nat.lt_irrefl _)
 have cellK:∀ x c,X.env.cells.lookup x=some c->∀ v,s.heap.IsCell c v->h'.IsCell c v:=λ x c e v hq0=>by
  obtain⟨o,ho,hd⟩:=hq0;have nch:c ∉ ch:=λ z=>(hch c z).2.2.1 x c e rfl
  by_cases hc:c∈X.fs
  ·obtain⟨sl,q⟩:=slot c o (I.cne x c e) hc nch ho (I.freeC x c e);exact⟨_,q,hd⟩
  ·exact⟨o,keep c o (I.cne x c e) hc nch ho (I.freeC x c e),hd⟩
 refine⟨I.ok,I.os,hg,⟨λ b o e n hb hx=>?_,λ b o e n hb hx=>?_,λ b o e n hx=>?_,λ b o e hx=>?_,λ b xs e=>lW b xs (I.base.lW b xs e),λ b o xs e=>frzs b o xs (I.base.frzs b o xs e),λ b ps e=>?_⟩,?_,λ x c e=>?_,?_,λ x c e=>?_,λ p hp=>?_,hok,I.len⟩
 ·exact keep b o (neL b o e) hb (neC b o e hx) (I.base.keep b o e n hb hx) (I.base.free b o e n hx)
 ·obtain⟨sl,e1⟩:=I.base.slot b o e n hb hx;obtain⟨sl',e2⟩:=slot b _ (neL b o e) hb (neC b o e hx) e1 (I.base.free b o e n hx);exact⟨sl',e2⟩
 ·obtain⟨o',e1⟩:=I.base.there b o e hx;exact free b o' (neC b o e hx) e1 (I.base.free b o e n hx)
 ·obtain⟨o',e1⟩:=I.base.there b o e hx;exact there b o' (neC b o e hx) e1
 ·obtain⟨m1,e1⟩:=I.base.tbls b ps e;obtain⟨m2,e2⟩:=tbls b _ e1;exact⟨m1++m2,by rw[e2,Array.append_assoc]⟩
 ·obtain⟨m,hn,hl⟩:=I.loc;refine⟨m,ns m hn,λ i x v e1 e2 e3=>?_⟩;obtain⟨u,r,l⟩:=hl i x v e1 e2 e3;refine⟨u,r,?_⟩;rcases l with l | ⟨k,c,e,z⟩
  ·exact .inl l
  ·exact .inr ⟨k,c,e,cellK x c e _ z⟩
 ·obtain⟨v,z⟩:=I.cell x c e;exact⟨v,cellK x c e v z⟩
 ·obtain⟨m,⟨o,_,_,ho,_⟩,_⟩:=I.loc;exact free _ o (λ z=>(hch _ z).2.1 rfl) ho I.free
 ·obtain⟨v,o,ho,hd⟩:=I.cell x c e;exact free c o (λ z=>(hch c z).2.2.1 x c e rfl) ho (I.freeC x c e)
 ·obtain⟨e,n,ne,nf,d⟩:=I.pin p hp;have nch:p.1 ∉ ch:=λ z=>(hch p.1 z).2.2.2 p hp rfl;exact⟨keep p.1 p.2 ne nf nch e n,free p.1 p.2 nch e n,ne,nf,d⟩
theorem Inv.un{t':Nat}(I:Inv X pins σ H s)(u:Un X.fs [] H H' s.heap h')(hok:HOk X.prog X.w H' h'):Inv X pins σ H' {s with heap:=h',toks:=t'}:=by
 obtain⟨m,⟨o,es,ep,ho,r⟩,_⟩:=id I.loc;obtain⟨sl,hL⟩:=u.any ho I.free (by simp);exact I.step (g':=s.gens) (d':=s.drawn) (ch:=[]) (λ _ z=>nomatch z) (λ b o _ hb _ e n=>u.keep b o e n hb (by simp)) (λ b o _ hb _ e n=>u.slot b o e n hb (by simp)) (λ b o _ e n=>u.free b o e n (by simp)) (λ b o _ e=>u.there b o e (by simp)) u.lW u.frzs u.tbls (λ m' hm=>by obtain⟨o',es',ep',ho',r'⟩:=hm;rw[ho] at ho';cases ho';exact⟨_,es',ep',hL,r'⟩) hok I.bare
theorem Inv.call{g':Array GenState}{t':Nat}{d':Drawn}{ch:List Addr}(I:Inv X pins σ H s)(u:Un (frs X.stack) ch H H' s.heap h')(hok:HOk X.prog X.w H' h')(hg:AllBare g')
  (hch:∀ b∈ch,(b∈X.ex\/X.s₀.heap.objs.size<=b)/\b≠X.env.locals/\(∀ x c,X.env.cells.lookup x=some c->c≠b)/\∀ p∈X.pn++pins,p.1≠b) :
  Inv X pins σ H' {s with heap:=h',gens:=g',drawn:=d',toks:=t'}:=by
 obtain⟨m,⟨o,es,ep,ho,r⟩,_⟩:=id I.loc;obtain⟨sl,hL⟩:=u.any ho I.free λ z=>(hch _ z).2.1 rfl;exact I.step (ch:=ch) hch (λ b o hL hb hc e n=>u.keep b o e n (λ z=>(List.mem_cons.mp (I.nk b z)).elim hL hb) hc) (λ b o _ _ hc e n=>u.any e n hc) (λ b o hc e n=>u.free b o e n hc) (λ b o hc e=>u.there b o e hc) u.lW u.frzs u.tbls (λ m' hm=>by obtain⟨o',es',ep',ho',r'⟩:=hm;rw[ho] at ho';cases ho';exact⟨_,es',ep',hL,r'⟩) hok hg
theorem Inv.turned{t':Nat}{it:Addr}(I:Inv X pins σ H s)(k:∀ b o,b≠it->s.heap.get? b=some o->h'.get? b=some o)(hn:H it=none)(hL:it≠X.env.locals)
  (h1:it∈X.ex\/X.s₀.heap.objs.size<=it)(h2:∀ x c,X.env.cells.lookup x=some c->c≠it)(h3:∀ p∈X.pn++pins,p.1≠it):Inv X pins σ H {s with heap:=h',toks:=t'}:=by
 have nit:∀ b u,H b=some u->b≠it:=λ b u e z=>by rw[z,hn] at e;cases e
 refine I.step (g':=s.gens) (d':=s.drawn) (ch:=[it]) (λ b hb=>?_) (λ b o _ _ hc e _=>k b o (λ z=>hc (by simp[z])) e) (λ b o _ _ hc e _=>⟨o.slots,k b o (λ z=>hc (by simp[z])) e⟩) (λ _ _ _ _ n=>n)
  (λ b o hc e=>⟨o,k b o (λ z=>hc (by simp[z])) e⟩) (λ _ _ e=>e) (λ _ _ _ e=>e) (λ b ps e=>⟨#[],by rw[e];simp⟩) (λ m hm=>?_) (λ b u e=>?_) I.bare
 ·have e:b=it:=by simpa using hb
  subst e;exact⟨h1,hL,h2,h3⟩
 ·obtain⟨o,es,ep,ho,r⟩:=hm;exact⟨o,es,ep,k _ o (Ne.symm hL) ho,r⟩
 ·refine(I.hok b u e).rG (λ c v hc q=>k c v ?_ q) (λ _ q=>q) λ _ _ q=>q;rcases hc with z | z
  ·rw[z];exact nit b u e
  ·exact nit c _ z
theorem Inv.tok(I:Inv X pins σ H s)(t:Nat):Inv X pins σ H {s with toks:=t}:=I.un (h':=s.heap) (t':=t) Un.refl I.hok
theorem Inv.kept{t':Nat}(I:Inv X pins σ H s)(k:∀ b u,s.heap.get? b=some u->h'.get? b=some u):Inv X pins σ H {s with heap:=h',toks:=t'}:=I.un (Un.kept k) (I.hok.kept k)
theorem Inv.laid{a:Addr}{o:HO}{t':Nat}(I:Inv X pins σ H s)(k:∀ b u,s.heap.get? b=some u->h'.get? b=some u)(hp:s.heap.objs.size<=a)(new:cD X.prog X.w (upd H a o) h' a o) :
  Inv X pins σ (upd H a o) {s with heap:=h',toks:=t'}:=I.un (Un.laid k hp (I.hok.fresh hp)) (I.hok.laid k hp new)
theorem Inv.write{x e:Addr}{o:HO}{t':Nat}(I:Inv X pins σ H s)(mu:Mut (H x))(he:e=x\/H e=some (.own x))(k:∀ b u,b≠e->s.heap.get? b=some u->h'.get? b=some u)(heo:∃ u,h'.get? e=some u)
  (new:cD X.prog X.w (upd H x o) h' x o):Inv X pins σ (upd H x o) {s with heap:=h',toks:=t'}:=I.un (Un.write mu he k heo) (I.hok.write mu he k heo new)
theorem Inv.lD{pins':PN}(I:Inv X pins σ H s)(h:∀ p∈pins',s.heap.get? p.1=some p.2/\H p.1=none/\p.1≠X.env.locals/\p.1 ∉ X.fs/\∀ v,p.2.data ≠ .cell v):Inv X pins' σ H s:=
 ⟨I.ok,I.os,I.bare,I.base,I.loc,I.cell,I.free,I.freeC,λ p hp=>(List.mem_append.mp hp).elim (λ z=>I.pin p (List.mem_append_left _ z)) (h p),I.hok,I.len⟩
theorem sR{N:List Str}(hN:N.Nodup){i j:Nat}{x:Str}(a:N[i]? =some x)(b:N[j]? =some x):i=j:=by obtain⟨h1,e1⟩:=List.getElem?_eq_some_iff.mp a;obtain⟨h2,e2⟩:=List.getElem?_eq_some_iff.mp b;exact(List.getElem_inj hN).mp (e1.trans e2.symm)
theorem vP{M:Model}{A:Around}{E:VP}{i:Nat}{x:Str}{v:V}{u:Value}{Q:Unit->Shared->Prop}(I:Inv X pins σ H s)(hN:X.N.Nodup)(hi:X.N[i]? =some x)(hx:Loc X.env.scope x)(r:RelV v u)
  (h:∀ s',Inv X pins (σ.set i (some v)) H s'->(∃ a,Heap.SameBut a s.heap s'.heap/\(a=X.env.locals\/X.env.cells.lookup x=some a))->Q () s')(hf:X.fn x=true\/X.env.scope.names.lookup x=some .local:=by first | exact .inl rfl | exact .inr rfl | assumption):wpAny M A (storeName X.env x u) Q E s:=by
 obtain⟨m,hn,hl⟩:=id I.loc;have hcls:(X.env.scope.kind==.class || (X.env.scope.kind==.module&&X.env.locals != X.env.globals))=false:=by rw[I.ok.kind];rfl
 have hiσ:i<σ.length:=by rw[I.len];exact(List.getElem?_eq_some_iff.mp hi).1
 have cne:=I.cne;have tracked:∀ {a:Addr} {h':Heap},(∃ o,s.heap.get? a=some o/\H a=none)->Heap.SameBut a s.heap h'->HOk X.prog X.w H h':=λ {a h'} ha hs b ob e=>by
  obtain⟨_,_,hfree⟩:=ha;refine(I.hok b ob e).rG (λ c w' hc q=>(hs.2 c ?_).trans q) (λ _ q=>q) λ _ _ q=>q;rintro rfl;rcases hc with rfl | hc
  ·rw[hfree] at e;cases e
  ·rw[hfree] at hc;cases hc
 rcases hx with hk | hk
 ·refine wpAny_storeName_local hk hn (λ h' hn' hs=>?_) hcls;obtain⟨oL,_,_,hoL,_⟩:=id hn;refine h _ ⟨I.ok,I.os,I.bare,⟨λ b o e n hb hx=>?_,λ b o e n hb hx=>?_,I.base.free,λ b o e hx=>?_,I.base.lW,I.base.frzs,I.base.tbls⟩,⟨_,hn',λ j y v' e1 e2 e3=>?_⟩,λ y c e=>?_,I.free,I.freeC,λ p hp=>?_,tracked ⟨oL,hoL,I.free⟩ hs,by simpa using I.len⟩ ⟨_,hs,.inl rfl⟩
  ·exact(hs.2 b (Nat.ne_of_lt (Nat.lt_of_lt_of_le (Heap.lt_size e) I.ok.above))).trans (I.base.keep b o e n hb hx)
  ·obtain⟨sl,e1⟩:=I.base.slot b o e n hb hx;exact⟨sl,(hs.2 b (Nat.ne_of_lt (Nat.lt_of_lt_of_le (Heap.lt_size e) I.ok.above))).trans e1⟩
  ·obtain⟨o',e1⟩:=I.base.there b o e hx;exact⟨o',(hs.2 b (Nat.ne_of_lt (Nat.lt_of_lt_of_le (Heap.lt_size e) I.ok.above))).trans e1⟩
  ·by_cases hj:j=i
   ·subst hj;rw[hi] at e1;cases e1;rw[List.getElem?_set_self hiσ] at e2;cases e2;exact⟨u,r,.inl ⟨hk,by simp⟩⟩
   ·rw[List.getElem?_set_ne (Ne.symm hj)] at e2;obtain⟨u',r',q⟩:=hl j y v' e1 e2 e3;refine⟨u',r',?_⟩;rcases q with ⟨k,e⟩ | ⟨k,c,e,z⟩
    ·refine .inl ⟨k,?_⟩;have:y≠x:=λ e=>hj (sR hN e1 (e ▸ hi));simp[this,e]
    ·exact .inr ⟨k,c,e,z.sameBut hs (cne y c e)⟩
  ·obtain⟨w',z⟩:=I.cell y c e;exact⟨w',z.sameBut hs (cne y c e)⟩
  ·obtain⟨e,n,ne,nf,d⟩:=I.pin p hp;exact⟨(hs.2 p.1 ne).trans e,n,ne,nf,d⟩
 ·have hfn:X.fn x=true:=by
   rcases hf with z | z
   ·exact z
   ·rw[z] at hk;cases hk
  obtain⟨c,hc⟩:=I.ok.has x (.inl hk);obtain⟨w',z⟩:=I.cell x c hc;refine wpAny_storeName_cell I.ok.kind hk hc z (λ h' hc' hs=>?_);obtain⟨oc,hoc,hocd⟩:=id z;refine h {s with heap:=h'} ⟨I.ok,I.os,I.bare,⟨λ b o e n hb hx=>?_,λ b o e n hb hx=>?_,I.base.free,λ b o e hx=>?_,I.base.lW,I.base.frzs,I.base.tbls⟩,⟨m,hn.sameBut hs (Ne.symm (cne x c hc)),λ j y v' e1 e2 e3=>?_⟩,λ y c' e=>?_,I.free,I.freeC,λ p hp=>?_,tracked ⟨oc,hoc,I.freeC x c hc⟩ hs,by simpa using I.len⟩ ⟨c,hs,.inr hc⟩
  ·exact(hs.2 b (Nat.ne_of_lt (Nat.lt_of_lt_of_le (Heap.lt_size e) (I.ok.cab x c hfn hc)))).trans (I.base.keep b o e n hb hx)
  ·obtain⟨sl,e1⟩:=I.base.slot b o e n hb hx;exact⟨sl,(hs.2 b (Nat.ne_of_lt (Nat.lt_of_lt_of_le (Heap.lt_size e) (I.ok.cab x c hfn hc)))).trans e1⟩
  ·obtain⟨o',e1⟩:=I.base.there b o e hx;exact⟨o',(hs.2 b (Nat.ne_of_lt (Nat.lt_of_lt_of_le (Heap.lt_size e) (I.ok.cab x c hfn hc)))).trans e1⟩
  ·by_cases hj:j=i
   ·subst hj;rw[hi] at e1;cases e1;rw[List.getElem?_set_self hiσ] at e2;cases e2;exact⟨u,r,.inr ⟨.inl hk,c,hc,hc'⟩⟩
   ·rw[List.getElem?_set_ne (Ne.symm hj)] at e2;obtain⟨u',r',q⟩:=hl j y v' e1 e2 e3;refine⟨u',r',?_⟩;rcases q with q | ⟨k,c',e,z'⟩
    ·exact .inl q
    ·refine .inr ⟨k,c',e,z'.sameBut hs ?_⟩;rintro rfl;exact hj (sR hN e1 (I.ok.inj _ _ _ e hc ▸ hi))
  ·by_cases hcc:c'=c
   ·subst hcc;exact⟨_,hc'⟩
   ·obtain⟨w2,z2⟩:=I.cell y c' e;exact⟨w2,z2.sameBut hs hcc⟩
  ·obtain⟨e,n,ne,nf,d⟩:=I.pin p hp;refine⟨(hs.2 p.1 ?_).trans e,n,ne,nf,d⟩;intro q;rw[q,hoc] at e;have q':oc=p.2:=Option.some.inj e;exact d w' (by rw[<- q'];exact hocd)
theorem jc{M:Model}{A:Around}{E:VP}{i:Nat}{x:Str}{v:V}{u:Value}{Q:Unit->Shared->Prop}(I:Inv X pins σ H s)(hN:X.N.Nodup)(hi:X.N[i]? =some x)(hx:Loc X.env.scope x)(r:RelV v u)
  (h:∀ s',Inv X pins (σ.set i (some v)) H s'->Q () s')(hf:X.fn x=true\/X.env.scope.names.lookup x=some .local:=by first | exact .inl rfl | exact .inr rfl | assumption):wpAny M A (storeName X.env x u) Q E s:=
 vP I hN hi hx r (λ s' I' _=>h s' I') hf
theorem Inv.abH{s':Shared}{ch:List Addr}(I:Inv X pins σ H s)(ho:s'.os=s.os)(u:Un (frs X.stack) ch H H' s.heap s'.heap)(hok:HOk X.prog X.w H' s'.heap)(hg:AllBare s'.gens)
  (hch:∀ b∈ch,(b∈X.ex\/X.s₀.heap.objs.size<=b)/\b≠X.env.locals/\(∀ x c,X.env.cells.lookup x=some c->c≠b)/\∀ p∈X.pn++pins,p.1≠b):Inv X pins σ H' s':=by
 obtain⟨h',g',d',t',o'⟩:=s';have e:o'=s.os:=ho;subst e;exact I.call (g':=g') (t':=t') (d':=d') u hok hg hch
end
abbrev XK:=Value->Option Addr->Hp->Prop
abbrev St:=List (Option V)
abbrev VK:=V->Hp->Prop
abbrev TE:=St->Hp->VK->Prop
abbrev TT:=St->Hp->(Bool->Hp->Prop)->Prop
abbrev TA:=St->Hp->(List V->Hp->Prop)->Prop
structure Ends where
 nx:St->Hp->Prop
 rt:VK
 bk:St->Hp->Prop:=λ _ _=>False
 ct:St->Hp->Prop:=λ _ _=>False
abbrev TS:=Ends->St->Hp->Prop
def EP(X:Cx)(pins:PN)(σ:St)(Q:VK)(u:Value)(s':Shared):Prop:=∃ v H',Inv X pins σ H' s'/\RelV v u/\Q v H'
def TP(X:Cx)(pins:PN)(σ:St)(Q:Bool->Hp->Prop)(b:Bool)(s':Shared):Prop:=∃ H',Inv X pins σ H' s'/\Q b H'
def AP(X:Cx)(pins:PN)(σ:St)(Q:List V->Hp->Prop)(us:List Value)(s':Shared):Prop:=∃ vs H',Inv X pins σ H' s'/\Vals vs us/\Q vs H'
def SP(X:Cx)(pins:PN)(D:Ends)(f:Flow)(s':Shared):Prop:=
 match f with
 | .next=>∃ σ' H',Inv X pins σ' H' s'/\D.nx σ' H'
 | .brk=>∃ σ' H',Inv X pins σ' H' s'/\D.bk σ' H'
 | .cont=>∃ σ' H',Inv X pins σ' H' s'/\D.ct σ' H'
 | .ret u=>∃ v σ' H',Inv X pins σ' H' s'/\RelV v u/\D.rt v H'
def PE(X:Cx)(e:Expr)(t:TE):Prop:=
 ∀ (pins:PN) (s:Shared) (σ:St) (H:Hp) (Q:VK),Inv X pins σ H s->t σ H Q->wpAny (model X.prog X.w) X.A (eval e X.env) (EP X pins σ Q) X.xe s
def PT(X:Cx)(e:Expr)(t:TT):Prop:=
 ∀ (pins:PN) (s:Shared) (σ:St) (H:Hp) (Q:Bool->Hp->Prop),Inv X pins σ H s->t σ H Q->wpAny (model X.prog X.w) X.A (isTrue e X.env (eval e X.env)) (TP X pins σ Q) X.xe s
def PW(X:Cx)(e:Expr)(t:TT):Prop:=
 ∀ (whole:Sem Value) (pins:PN) (s:Shared) (σ:St) (H:Hp) (Q:Bool->Hp->Prop),Inv X pins σ H s->t σ H Q->wpAny (model X.prog X.w) X.A (isTrue e X.env whole) (TP X pins σ Q) X.xe s
theorem PW.pt{X:Cx}{e:Expr}{t:TT}(h:PW X e t):PT X e t:=h _
def PA(X:Cx)(es:List Expr)(t:TA):Prop:=
 ∀ (pos:Pos) (pins:PN) (s:Shared) (σ:St) (H:Hp) (Q:List V->Hp->Prop),Inv X pins σ H s->t σ H Q->wpAny (model X.prog X.w) X.A (spliced (backTo pos (starEach es X.env))) (AP X pins σ Q) X.xe s
def PS(X:Cx)(st:Stmt)(t:TS):Prop:=
 ∀ (pins:PN) (s:Shared) (σ:St) (H:Hp) (D:Ends),Inv X pins σ H s->t D σ H->wpAny (model X.prog X.w) X.A (exec st X.env) (SP X pins D) X.xe s
def PSs(X:Cx)(st:List Stmt)(t:TS):Prop:=
 ∀ (pins:PN) (s:Shared) (σ:St) (H:Hp) (D:Ends),Inv X pins σ H s->t D σ H->wpAny (model X.prog X.w) X.A (execs st X.env) (SP X pins D) X.xe s
theorem thn{α:Type}{t:Sem α}{Q Q':α->Shared->Prop}{M:Model}{A:Around}{E:VP}{s:Shared}(h:wpAny M A t Q E s)(hQ:∀ a s,Q a s->Q' a s):wpAny M A t Q' E s:=wpAny_mono h hQ λ _ _ x=>x
section
variable {X:Cx}
def ae3(i:Nat):TE:=λ σ H Q=>∃ v,σ[i]? =some (some v)/\Q v H
def tC(v:V):TE:=λ _ H Q=>Q v H
theorem tD{i:Nat}{x:Str}{pos:Pos}(hN:X.N[i]? =some x)(hv:Vis X.env.scope x)(hd:ND x:=by decide)(hcd:(x==("__classdict__" : Str))=false:=by decide):PE X (.Name x pos) (ae3 i):=by
 intro pins s σ H Q I h;obtain⟨v,e,h⟩:=h;obtain⟨m,hn,hl⟩:=I.loc;obtain⟨u,r,l⟩:=hl i x v hN e hv;have fin:EP X pins σ Q u s:=⟨v,H,I,r,h⟩;rcases l with ⟨hk,hm⟩ | ⟨hk,c,hc,hcell⟩
 ·exact wpAny_Name (wpAny_loadName_local I.ok.kind hk hn hm fin) hd
 ·rcases hk with hk | hk
  ·exact wpAny_Name (wpAny_loadName_cell I.ok.kind hk hc hcell fin) hd
  ·exact wpAny_Name (wpAny_loadName_free I.ok.kind hk hc hcell fin hcd) hd
theorem aeJ{i j pos}:PE X (.Constant (.int i) j pos) (tC (.int i)):=λ _ _ _ H _ I h=>wpAny_Constant_int ⟨.int i,H,I.tok _,⟨_,rfl⟩,h⟩
theorem agb{b j pos}:PE X (.Constant (.bool b) j pos) (tC (.bl b)):=λ _ _ _ H _ I h=>Constant_bool ⟨.bl b,H,I,rfl,h⟩
theorem ad8{j pos}:PE X (.Constant .none j pos) (tC .non):=λ _ _ _ H _ I h=>Constant_none ⟨.non,H,I,rfl,h⟩
theorem aeQ{x j pos}:PE X (.Constant (.str x) j pos) (tC (.str x)):=λ _ _ _ H _ I h=>Calls.Constant_str ⟨.str x,H,I.tok _,⟨_,rfl⟩,h⟩
def Gl(X:Cx)(x:Str):Prop:=X.env.kindOf x=some .globalImplicit
theorem gL{E:VP}{pins:PN}{s:Shared}{σ:St}{H:Hp}{x:Str}{u:Value}{pos:Pos}{Q:VP}(I:Inv X pins σ H s)(hg:Gl X x)(hm:X.mg x=some u)(h:Q u s)
  (hd:ND x:=by decide):wpAny (model X.prog X.w) X.A (eval (.Name x pos) X.env) Q E s:=
 Calls.Name_function_global I.ok.kind hg (Calls.loadGlobal_global (by rw[I.ok.glob];exact I.mod.glob.keeps I.bk) hm h) hd
theorem nB{E:VP}{pins:PN}{s:Shared}{σ:St}{H:Hp}{x:Str}{u:Value}{pos:Pos}{Q:VP}(I:Inv X pins σ H s)(hg:Gl X x)(hm:X.mg x=none)(hv:bootBuiltins x=some u)(h:Q u s)
  (hn:x ≠ "__name__":= by decide)(hd:ND x:=by decide):wpAny (model X.prog X.w) X.A (eval (.Name x pos) X.env) Q E s:=by
 obtain⟨mb,h1,h2⟩:=I.mod.blt;exact Calls.Name_function_global I.ok.kind hg (Calls.loadGlobal_builtin (by rw[I.ok.glob];exact I.mod.glob.keeps I.bk) hm (by rw[I.ok.blt];exact h1.keeps I.bk) ((h2 x hn).trans hv) h) hd
theorem iB{x:Str}{v:V}{u:Value}{pos:Pos}(hg:Gl X x)(hm:X.mg x=some u)(r:RelV v u)(hd:ND x:=by decide):PE X (.Name x pos) (tC v):=
 λ _ _ _ H _ I h=>gL I hg hm ⟨v,H,I,r,h⟩ hd
theorem aaR{x:Str}{v:V}{u:Value}{pos:Pos}(hg:Gl X x)(hm:X.mg x=none)(hv:bootBuiltins x=some u)(r:RelV v u)(hn:x ≠ "__name__":= by decide)(hd:ND x:=by decide):PE X (.Name x pos) (tC v):=
 λ _ _ _ H _ I h=>nB I hg hm hv ⟨v,H,I,r,h⟩ hn hd
variable {a b:Expr}{ta tb:TE}{pos:Pos}
def PC(X:Cx)(op:CmpOp)(a b:Expr)(t:TE):Prop:=
 ∀ (pins:PN) (s:Shared) (σ:St) (H:Hp) (Q:VK),Inv X pins σ H s->t σ H Q ->
  wpAny (model X.prog X.w) X.A (eval a X.env) (λ v s₁=>wpAny (model X.prog X.w) X.A (eval b X.env) (λ u s₂=>wpAny (model X.prog X.w) X.A (compareOp op v u) (EP X pins σ Q) X.xe s₂) X.xe s₁) X.xe s
theorem jg(b:Expr){op:CmpOp}(h:op ≠ .In)(h2:op ≠ .NotIn):behindInMarks op b=false:=by
 have e1:(op==CmpOp.In)=false:=by cases op<;>first | rfl | exact absurd rfl h
 have e2:(op==CmpOp.NotIn)=false:=by cases op<;>first | rfl | exact absurd rfl h2
 cases b<;>simp[behindInMarks,e1,e2]
def tB(t:TE):TT:=λ σ H Q=>t σ H λ x H1=>∃ c,x=.bl c/\Q c H1
theorem zJ{op:CmpOp}{t:TE}(h:PC X op a b t)(h1:behindInMarks op b=false:=by first | exact jg _ (by decide) (by decide) | rfl):PT X (.Compare a [op] [b] pos) (tB t):=by intro pins s σ H Q I hw;refine wpAny_isTrue_Compare1 (thn (h pins s σ H _ I hw) λ v s1 h1=>thn h1 λ u s2 h2=>thn h2 λ c s3 ⟨x,H1,I1,r1,q1⟩=>?_) h1;obtain⟨d,rfl,q⟩:=q1;cases r1;exact wpAny_truthy_bool ⟨H1,I1,q⟩
theorem acH{e:Expr}{t:TE}(h:PE X e t)(he:∀ whole,isTrue e X.env whole=(do let v <- whole;standAt e.pos;holding [v] (truthy v)):=by intro _;rfl):PT X e (tB t):=by intro pins s σ H Q I hw;refine isTrue_plain (thn (h pins s σ H _ I hw) λ v s1 ⟨x,H1,I1,r1,q1⟩=>?_) (he _);obtain⟨d,rfl,q⟩:=q1;cases r1;exact wpAny_truthy_bool ⟨H1,I1,q⟩
variable {tA tB':TT}{rest:List Expr}
def ahd(t u:TT):TT:=λ σ H Q=>t σ H λ c H1=>if c=true then u σ H1 Q else Q false H1
def tOr(t u:TT):TT:=λ σ H Q=>t σ H λ c H1=>if c=true then Q true H1 else u σ H1 Q
def aha(t:TT):TT:=λ σ H Q=>t σ H λ c H1=>Q (!c) H1
theorem pw_and1(ha:PT X a tA):PW X (.BoolOp .And [a] pos) tA:=by
 intro wh pins s σ H Q I h;refine isTrue_and (thn (ha pins s σ H Q I h) λ c s1 e=>?_);cases c with
 | true=>exact isTrue_and_nil e
 | false=>exact e
theorem pw_or1(ha:PT X a tA):PW X (.BoolOp .Or [a] pos) tA:=by
 intro wh pins s σ H Q I h;refine isTrue_or (thn (ha pins s σ H Q I h) λ c s1 e=>?_);cases c with
 | false=>exact isTrue_or_nil e
 | true=>exact e
theorem pw_and(ha:PT X a tA)(hb:PW X (.BoolOp .And (b::rest) pos) tB'):PW X (.BoolOp .And (a::b::rest) pos) (ahd tA tB'):=by
 intro wh pins s σ H Q I h;refine isTrue_and (thn (ha pins s σ H _ I h) λ c s1 hq1=>?_);obtain⟨H1,I1,q1⟩:=hq1;cases c with
 | true=>exact hb wh pins s1 σ H1 Q I1 q1
 | false=>exact⟨H1,I1,q1⟩
theorem pw_or(ha:PT X a tA)(hb:PW X (.BoolOp .Or (b::rest) pos) tB'):PW X (.BoolOp .Or (a::b::rest) pos) (tOr tA tB'):=by
 intro wh pins s σ H Q I h;refine isTrue_or (thn (ha pins s σ H _ I h) λ c s1 hq2=>?_);obtain⟨H1,I1,q1⟩:=hq2;cases c with
 | true=>exact⟨H1,I1,q1⟩
 | false=>exact hb wh pins s1 σ H1 Q I1 q1
theorem adS(ha:PT X a tA):PT X (.UnaryOp .Not a pos) (aha tA):=by intro pins s σ H Q I h;exact isTrue_not (ha pins s σ H (λ c H1=>Q (!c) H1) I h)
def afd(ta tb:TE):TE:=λ σ H Q=>ta σ H λ x H1=>∃ c,x=.bl c/\if c=true then tb σ H1 Q else Q (.bl false) H1
def ahj(ta tb:TE):TE:=λ σ H Q=>ta σ H λ x H1=>∃ c,x=.bl c/\if c=true then Q (.bl true) H1 else tb σ H1 Q
def af3(ta:TE):TE:=λ σ H Q=>ta σ H λ x H1=>∃ c,x=.bl c/\Q (.bl (!c)) H1
theorem adL{op}{t:TE}(h:PE X a t):PE X (.BoolOp op [a] pos) t:=λ pins s σ H Q I hw=>BoolOp_one (h pins s σ H Q I hw)
theorem aey(ha:PE X a ta)(hb:PE X (.BoolOp .And (b::rest) pos) tb):PE X (.BoolOp .And (a::b::rest) pos) (afd ta tb):=by
 intro pins s σ H Q I h;refine BoolOp_and (thn (ha pins s σ H _ I h) λ v s1 hq3=>?_);obtain⟨x,H1,I1,r1,q1⟩:=hq3;obtain⟨c,rfl,q1⟩:=q1;cases r1;refine wpAny_truthy_bool ?_;cases c with
 | true=>exact hb pins s1 σ H1 Q I1 q1
 | false=>exact⟨.bl false,H1,I1,rfl,q1⟩
theorem agl(ha:PE X a ta)(hb:PE X (.BoolOp .Or (b::rest) pos) tb):PE X (.BoolOp .Or (a::b::rest) pos) (ahj ta tb):=by
 intro pins s σ H Q I h;refine BoolOp_or (thn (ha pins s σ H _ I h) λ v s1 hq4=>?_);obtain⟨x,H1,I1,r1,q1⟩:=hq4;obtain⟨c,rfl,q1⟩:=q1;cases r1;refine wpAny_truthy_bool ?_;cases c with
 | false=>exact hb pins s1 σ H1 Q I1 q1
 | true=>exact⟨.bl true,H1,I1,rfl,q1⟩
theorem ac8(ha:PE X a ta):PE X (.UnaryOp .Not a pos) (af3 ta):=by intro pins s σ H Q I h;refine UnaryOp_ (thn (ha pins s σ H _ I h) λ v s1 hq5=>?_);obtain⟨x,H1,I1,r1,q1⟩:=hq5;obtain⟨c,rfl,q1⟩:=q1;cases r1;exact not_of (wpAny_truthy_bool ⟨.bl (!c),H1,I1,rfl,q1⟩)
end
def SqL(K:FG)(H:Hp)(a:Addr)(xs:List V):Prop:=
 Rd H a (.lst xs) \/
  ∃ (o:Obj) (its:Array Value) (n:Nat),K.lookup a=some o/\o.cls=.type "list" /\ o.dict=none/\o.data=.seq its n/\its.size<=sizeLine/\Vals xs its.toList
def SqT(K:FG)(H:Hp)(a:Addr)(xs:List V):Prop:=
 Rd H a (.tup xs) \/
  ∃ (o:Obj) (its:Array Value) (n:Nat),K.lookup a=some o/\o.cls=.type "tuple" /\ o.dict=none/\o.data=.seq its n/\its.size<=sizeLine/\Vals xs its.toList
def ahn:Value->Option V
 | .none=>some .non
 | .bool b=>some (.bl b)
 | .int i _=>some (.int i)
 | .str x _=>some (.str x)
 | .bytes b _=>some (.byt b)
 | .float b _=>some (.flt b)
 | .ref a=>some (.ref a)
 | .type n=>some (.ty n)
 | _=>none
theorem RelV.abs{x:V}{u:Value}(r:RelV x u):ahn u=some x:=by
 cases x with
 | non=>cases r;rfl
 | bl _=>cases r;rfl
 | int _=>obtain⟨t,rfl⟩:=r;rfl
 | str _=>obtain⟨t,rfl⟩:=r;rfl
 | byt _=>obtain⟨t,rfl⟩:=r;rfl
 | flt _=>obtain⟨t,rfl⟩:=r;rfl
 | ref _=>cases r;rfl
 | ty _=>cases r;rfl
theorem RelV.inj{x y:V}{u:Value}(r:RelV x u)(q:RelV y u):x=y:=Option.some.inj (r.abs.symm.trans q.abs)
theorem Vals.inj:∀ {xs ys:List V} {us:List Value},Vals xs us->Vals ys us->xs=ys
 | _,_,_,.nil,.nil=>rfl
 | _,_,_,.cons r t,.cons r' t'=>by rw[r.inj r',Vals.inj t t']
section
variable {X:Cx}{pins:PN}{σ:St}{H:Hp}{s:Shared}{a:Addr}{xs ys:List V}
theorem SqL.of{K:FG}(h:H a=some (.lst xs)):SqL K H a xs:=.inl (.inl h)
theorem SqT.of{K:FG}(h:H a=some (.tup xs)):SqT K H a xs:=.inl (.inl h)
theorem Inv.list(I:Inv X pins σ H s)(h:SqL X.K H a xs):∃ its:List Value,Vals xs its/\PlainL s.heap a its.toArray/\xs.length<=sizeLine:=by
 rcases h with h | ⟨o,its,n,hk,hc,hd,hs,hz,r⟩
 ·obtain⟨z,its,n,r,e⟩:=h.ok I.hok;exact⟨its,r,⟨_,n,e,rfl,rfl,rfl⟩,z⟩
 ·refine⟨its.toList,r,⟨o,n,I.kIn a o hk,hc,hd,by simpa using hs⟩,?_⟩;have e:=r.length;simp only[Array.length_toList] at e;omega
theorem Inv.agI(I:Inv X pins σ H s)(h:SqT X.K H a xs):∃ its:List Value,Vals xs its/\aai s.heap a its.toArray/\xs.length<=sizeLine:=by
 rcases h with h | ⟨o,its,n,hk,hc,hd,hs,hz,r⟩
 ·obtain⟨z,its,r,p⟩:=h.ok I.hok;exact⟨its,r,p,z⟩
 ·refine⟨its.toList,r,⟨o,I.kIn a o hk,hc,hd,n,by simpa using hs⟩,?_⟩;have e:=r.length;simp only[Array.length_toList] at e;omega
theorem Inv.tuple(I:Inv X pins σ H s)(h:SqT X.K H a xs):∃ its:List Value,Vals xs its/\IsTup s.heap a its.toArray/\xs.length<=sizeLine:=by obtain⟨its,r,p,z⟩:=I.agI h;exact⟨its,r,p.tup,z⟩
theorem Inv.oo(I:Inv X pins σ H s)(h:SqL X.K H a xs)(h':SqL X.K H a ys):xs=ys:=by
 obtain⟨its,r,⟨o,n,e,_,_,d⟩,_⟩:=I.list h;obtain⟨its',r',⟨o',n',e',_,_,d'⟩,_⟩:=I.list h';rw[e] at e';cases e';rw[d] at d'
 injection d' with d1 _
 have:its=its':=by simpa using congrArg Array.toList d1
 subst this;exact r.inj r'
theorem Inv.pZ(I:Inv X pins σ H s)(h:SqT X.K H a xs)(h':SqT X.K H a ys):xs=ys:=by
 obtain⟨its,r,⟨o,e,_,n,d⟩,_⟩:=I.tuple h;obtain⟨its',r',⟨o',e',_,n',d'⟩,_⟩:=I.tuple h';rw[e] at e';cases e';rw[d] at d'
 injection d' with d1 _
 have:its=its':=by simpa using congrArg Array.toList d1
 subst this;exact r.inj r'
end
abbrev Cx.gR(X:Cx)(E:VP):Cx:={X with xe:=E}
abbrev Cx.nox(X:Cx):Cx:=X.gR λ _ _=>False
theorem Cx.Ok.gR{X:Cx}(ok:X.Ok)(E:VP):(X.gR E).Ok:=
 ⟨ok.mod,ok.kind,ok.glob,ok.blt,ok.above,ok.inj,ok.has,ok.cab,ok.hd,ok.frames,ok.stk,ok.exf,ok.bs,ok.bsz,ok.noex,ok.exfs,ok.ng,ok.frf⟩
theorem Cx.Ok.ik{X:Cx}{E:VP}(ok:(X.gR E).Ok):X.Ok:=
 ⟨ok.mod,ok.kind,ok.glob,ok.blt,ok.above,ok.inj,ok.has,ok.cab,ok.hd,ok.frames,ok.stk,ok.exf,ok.bs,ok.bsz,ok.noex,ok.exfs,ok.ng,ok.frf⟩
section
variable {X:Cx}{pins:PN}{σ:St}{H:Hp}{s:Shared}{E:VP}
theorem Inv.gR(I:Inv X pins σ H s)(E:VP):Inv (X.gR E) pins σ H s:=⟨I.ok.gR E,I.os,I.bare,I.base,I.loc,I.cell,I.free,I.freeC,I.pin,I.hok,I.len⟩
theorem Inv.ik(I:Inv (X.gR E) pins σ H s):Inv X pins σ H s:=⟨I.ok.ik,I.os,I.bare,I.base,I.loc,I.cell,I.free,I.freeC,I.pin,I.hok,I.len⟩
theorem SP.ik{D:Ends}{f:Flow}{s':Shared}(h:SP (X.gR E) pins D f s'):SP X pins D f s':=by
 cases f with
 | next=>obtain⟨σ',H',I,q⟩:=h;exact⟨σ',H',I.ik,q⟩
 | brk=>obtain⟨σ',H',I,q⟩:=h;exact⟨σ',H',I.ik,q⟩
 | cont=>obtain⟨σ',H',I,q⟩:=h;exact⟨σ',H',I.ik,q⟩
 | ret u=>obtain⟨v,σ',H',I,r,q⟩:=h;exact⟨v,σ',H',I.ik,r,q⟩
theorem PE.nox{e:Expr}{t:TE}(h:PE X.nox e t):PE X e t:=λ pins s σ H Q I hw =>
 wpAny_mono (h pins s σ H Q (I.gR _) hw) (λ _ _ ⟨v,H',I',r,q⟩=>⟨v,H',I'.ik,r,q⟩) λ _ _ z=>False.elim z
theorem PT.nox{e:Expr}{t:TT}(h:PT X.nox e t):PT X e t:=λ pins s σ H Q I hw =>
 wpAny_mono (h pins s σ H Q (I.gR _) hw) (λ _ _ ⟨H',I',q⟩=>⟨H',I'.ik,q⟩) λ _ _ z=>False.elim z
theorem PSs.nox{st:List Stmt}{t:TS}(h:PSs X.nox st t):PSs X st t:=λ pins s σ H D I hw =>
 wpAny_mono (h pins s σ H D (I.gR _) hw) (λ _ _ q=>q.ik) λ _ _ z=>False.elim z
end
section
variable {X:Cx}{st:Stmt}{rest:List Stmt}{t u:TS}{e:Expr}{te:TE}{pos:Pos}
def af1:TS:=λ D σ H=>D.nx σ H
def ahh(t u:TS):TS:=λ D σ H=>t {D with nx:=u D} σ H
theorem aaq:PSs X [] af1:=λ _ _ σ H _ I h=>wpAny_execs_nil ⟨σ,H,I,h⟩
theorem yC(h1:PS X st t)(h2:PSs X rest u):PSs X (st::rest) (ahh t u):=by
 intro pins s σ H D I h;refine wpAny_execs_cons (thn (h1 pins s σ H {D with nx:=u D} I h) λ f s1 q=>?_);cases f with
 | next =>
  obtain⟨σ',H',I',q⟩:=q;exact h2 pins s1 σ' H' D I' q
 | ret v=>exact q
 | brk=>exact q
 | cont=>exact q
theorem vT(h1:PS X st t):PSs X [st] t:=by
 intro pins s σ H D I h;refine wpAny_execs_cons (thn (h1 pins s σ H D I h) λ f s1 q=>?_);cases f with
 | next=>exact wpAny_execs_nil q
 | ret v=>exact q
 | brk=>exact q
 | cont=>exact q
theorem Inv.quiet{pins:PN}{σ:St}{H:Hp}{s:Shared}(I:Inv X pins σ H s):interactive X.env=false:=by simp[interactive,I.ok.kind]
def afR(te:TE):TS:=λ D σ H=>te σ H λ _ H1=>D.nx σ H1
theorem abd(he:PE X e te)(hs:swapsWith e none pos.line X.env=pure false:=by rfl):PS X (.Expr e pos) (afR te):=by intro pins s σ H D I h;exact wpAny_Expr_any (thn (he pins s σ H _ I h) λ v s1 ⟨x,H1,I1,r1,q1⟩=>⟨σ,H1,I1,q1⟩) I.quiet hs
def aht(te:TE):TS:=λ D σ H=>te σ H D.rt
theorem acE(he:PE X e te):PS X (.Return (some e) pos) (aht te):=by intro pins s σ H D I h;exact wpAny_Return_some (thn (he pins s σ H _ I h) λ v s1 ⟨x,H1,I1,r1,q1⟩=>⟨x,σ,H1,I1,r1,q1⟩)
def agf:TS:=λ D _ H=>D.rt .non H
theorem aau:PS X (.Return none pos) agf:=λ _ _ σ H _ I h=>wpAny_Return_none ⟨.non,σ,H,I,rfl,h⟩
def ag7(c:TT)(t u:TS):TS:=λ D σ H=>c σ H λ b H1=>if b=true then t D σ H1 else u D σ H1
theorem afM{c:Expr}{a b:List Stmt}{tc:TT}(hc:PT X c tc)(ha:PSs X a t)(hb:PSs X b u):PS X (.If c a b pos) (ag7 tc t u):=by
 intro pins s σ H D I h;refine wpAny_If (thn (hc pins s σ H _ I h) λ d s1 hq6=>?_);obtain⟨H1,I1,q1⟩:=hq6;cases d with
 | true=>exact ha pins s1 σ H1 D I1 q1
 | false=>exact hb pins s1 σ H1 D I1 q1
end
abbrev TG:=V->St->Hp->(St->Hp->Prop)->Prop
abbrev TGs:=List V->St->Hp->(St->Hp->Prop)->Prop
def PG(X:Cx)(target:Expr)(t:TG):Prop:=
 ∀ (pins:PN) (s:Shared) (σ:St) (H:Hp) (v:V) (u:Value) (Q:St->Hp->Prop),Inv X pins σ H s->RelV v u->t v σ H Q ->
  wpAny (model X.prog X.w) X.A (assign target X.env u) (λ _ s'=>∃ σ' H',Inv X pins σ' H' s'/\Q σ' H') X.xe s
def PGs(X:Cx)(ts:List Expr)(t:TGs):Prop:=
 ∀ (pins:PN) (s:Shared) (σ:St) (H:Hp) (vs:List V) (us:List Value) (Q:St->Hp->Prop),Inv X pins σ H s->Vals vs us->t vs σ H Q ->
  wpAny (model X.prog X.w) X.A (assignInOrder ((assignEach ts X.env).map (·.2)) us) (λ _ s'=>∃ σ' H',Inv X pins σ' H' s'/\Q σ' H') X.xe s
abbrev acU:=V->V->V->Hp->(Hp->Prop)->Prop
def ae5(X:Cx)(t:acU):Prop:=
 ∀ (pins:PN) (s:Shared) (σ:St) (H:Hp) (o i v:V) (ov iv u:Value) (Q:Hp->Prop),Inv X pins σ H s->RelV o ov->RelV i iv->RelV v u->t o i v H Q ->
  wpAny (model X.prog X.w) X.A (setItem ov iv u) (λ _ s'=>∃ H',Inv X pins σ H' s'/\Q H') X.xe s
abbrev TIp:=V->V->Hp->VK->Prop
def PIp(X:Cx)(op:Operator)(t:TIp):Prop:=
 ∀ (pins:PN) (s:Shared) (σ:St) (H:Hp) (x y:V) (v u:Value) (Q:VK),Inv X pins σ H s->RelV x v->RelV y u->t x y H Q ->
  wpAny (model X.prog X.w) X.A (inplaceOp op v u) (EP X pins σ Q) X.xe s
section
variable {X:Cx}{pos:Pos}
def aee(i:Nat):TG:=λ v σ H Q=>Q (σ.set i (some v)) H
theorem abq{i:Nat}{x:Str}(hN:X.N.Nodup)(hi:X.N[i]? =some x)(hx:Loc X.env.scope x)(hf:X.fn x=true\/X.env.scope.names.lookup x=some .local:=by first | exact .inl rfl | exact .inr rfl | assumption):PG X (.Name x pos) (aee i):=by intro pins s σ H v u Q I r h;exact wpAny_assign_Name (jc I hN hi hx r (λ s' I'=>⟨_,H,I',h⟩) hf)
def ag2:TGs:=λ vs σ H Q=>vs=[]/\Q σ H
def afw(t:TG)(u:TGs):TGs:=λ vs σ H Q=>∃ v r,vs=v::r/\t v σ H λ σ' H'=>u r σ' H' Q
theorem aaZ:PGs X [] ag2:=by intro pins s σ H vs us Q I r h;obtain⟨e,h⟩:=h;subst e;cases r;exact assignInOrder_nil ⟨σ,H,I,h⟩
theorem yL{e:Expr}{es:List Expr}{t:TG}{u:TGs}(h1:PG X e t)(h2:PGs X es u)
  (hs:(assignEach (e::es) X.env).map (·.2)=assign e X.env::(assignEach es X.env).map (·.2):=by rfl):PGs X (e::es) (afw t u):=by
 intro pins s σ H vs us Q I r h;obtain⟨v,vr,e1,h⟩:=h;subst e1;cases r with
 | cons r rr =>
  rw[hs];refine assignInOrder_cons (thn (h1 pins s σ H _ _ _ I r h) λ _ s1 hq7=>?_);obtain⟨σ1,H1,I1,q1⟩:=hq7;exact h2 pins s1 σ1 H1 _ _ Q I1 rr q1
def ahc(K:FG)(n:Nat)(t:TGs):TG:=λ v σ H Q=>∃ a xs,v=.ref a/\SqT K H a xs/\xs.length=n/\t xs σ H Q
theorem ac2{es:List Expr}{k:Nat}{t:TGs}{n:Nat}(hc:X.calm=true)(h:PGs X es t)
  (hn:(assignEach es X.env).length=n:=by rfl)(hst:(assignEach es X.env).findIdx? (·.1)=none:=by rfl):PG X (.Tuple es k pos) (ahc X.K n t):=by
 intro pins s σ H v u Q I r hw;obtain⟨a,xs,e1,hq,hl,hw⟩:=hw;subst e1;cases r;obtain⟨its,rv,ht,hz⟩:=I.tuple hq;refine assign_Tuple_tuple (I.ok.hd hc) ht (by simp[hn,<- hl,rv.length]) hst λ h' hx=>?_;have I1:Inv X pins σ H {s with heap:=h'}:=I.kept (t':=s.toks) λ b o e=>hx b o (Nat.ne_of_lt (Heap.lt_size e)) e;exact h pins _ σ H xs _ Q I1 (by simpa using rv) hw
def agY(to ti:TE)(t:acU):TG:=λ v σ H Q=>to σ H λ o H1=>ti σ H1 λ i H2=>t o i v H2 λ H3=>Q σ H3
theorem aeI{o i:Expr}{to ti:TE}{t:acU}(ho:PE X o to)(hi:PE X i ti)(hs:ae5 X t)
  (ha:∀ v,assign (.Subscript o i pos) X.env v=(do
   let ov <- holding [v] (eval o X.env)
   let iv <- holding [v,ov] (eval i X.env)
   standAt pos
   holding [v,ov,iv] (setItem ov iv v)
   release [v,ov,iv] []):=by intro _;rfl):PG X (.Subscript o i pos) (agY to ti t):=by
 intro pins s σ H v u Q I r h;rw[ha];refine wpAny_bind (wpAny_holding (thn (ho pins s σ H _ I h) λ ov s1 hq8=>?_));obtain⟨x,H1,I1,r1,q1⟩:=hq8;refine wpAny_bind (wpAny_holding (thn (hi pins s1 σ H1 _ I1 q1) λ iv s2 hq9=>?_));obtain⟨y,H2,I2,r2,q2⟩:=hq9;refine wpAny_bind (wpAny_standAt (wpAny_bind (wpAny_holding (thn (hs pins s2 σ H2 x y v ov iv u _ I2 r1 r2 r q2) λ _ s3 hq10=>?_))));obtain⟨H3,I3,q3⟩:=hq10;exact wpAny_release ⟨σ,H3,I3,q3⟩
def af8(te:TE)(g:TG):TS:=λ D σ H=>te σ H λ x H1=>g x σ H1 D.nx
theorem acR{tg e:Expr}{te:TE}{g:TG}(he:PE X e te)(hg:PG X tg g)(hs:swapsWithSole [tg] e pos.line X.env=pure false:=by rfl)(hw:swappedStores [tg] e X.env=pure none:=by rfl)
  (h1:(assignEach [tg] X.env).map (·.2)=[assign tg X.env]:=by rfl):PS X (.Assign [tg] e pos) (af8 te g):=by
 intro pins s σ H D I h;refine wpAny_Assign_stores (thn (he pins s σ H _ I h) λ v s1 ⟨x,H1,I1,r1,q1⟩=>?_) hs hw;rw[h1];exact thn (hg pins s1 σ H1 x v _ I1 r1 q1) λ _ s2 q=>q
theorem adb{i:Nat}{x:Str}{e:Expr}{te:TE}{pos':Pos}(hN:X.N.Nodup)(hi:X.N[i]? =some x)(hx:Loc X.env.scope x)(he:PE X e te)(hs:swapsWith e (some (.Name x pos')) pos.line X.env=pure false:=by rfl)(hf:X.fn x=true\/X.env.scope.names.lookup x=some .local:=by first | exact .inl rfl | exact .inr rfl | assumption) :
  PS X (.Assign [.Name x pos'] e pos) (af8 te (aee i)):=by
 intro pins s σ H D I h;refine wpAny_Assign_Name (thn (he pins s σ H _ I h) λ v s1 ⟨y,H1,I1,r1,q1⟩=>?_) hs;exact jc I1 hN hi hx r1 (λ s2 I2=>⟨_,H1,I2,q1⟩) hf
def agZ(i j:Nat)(ta:TA):TS:=λ D σ H=>ta σ H λ vs H1=>∃ v w,vs=[v,w]/\D.nx ((σ.set i (some v)).set j (some w)) H1
theorem acN{i j:Nat}{x y:Str}{a b:Expr}{ta:TA}{px py pt:Pos}{kt k2 pt2}(hc:X.calm=true)(hN:X.N.Nodup)(hi:X.N[i]? =some x)(hj:X.N[j]? =some y)(hij:i≠j)
  (hx:X.env.scope.names.lookup x=some .local)(hy:X.env.scope.names.lookup y=some .local)(ha:PA X [a,b] ta)
  (hw:swappedStores [.Tuple [.Name x px,.Name y py] kt pt] (.Tuple [a,b] k2 pt2) X.env=pure (some [x,y]))
  (hs:swapsWithSole [.Tuple [.Name x px,.Name y py] kt pt] (.Tuple [a,b] k2 pt2) pos.line X.env=pure false:=by rfl) :
  PS X (.Assign [.Tuple [.Name x px,.Name y py] kt pt] (.Tuple [a,b] k2 pt2) pos) (agZ i j ta):=by
 intro pins s σ H D I h;rw[exec_Assign_arm];refine wpAny_bind (wpAny_standAt ?_);rw[hs];refine wpAny_bind (wpAny_pure ?_);rw[if_neg (by decide)];refine wpAny_bind (Tuple_ (thn (ha _ pins s σ H _ I h) λ us s1 hq11=>?_));obtain⟨vs,H1,I1,r1,q1⟩:=hq11;obtain⟨v,w,e1,q1⟩:=q1;subst e1;obtain⟨u1,u2,rfl,rv,rw'⟩:∃ u1 u2,us=[u1,u2]/\RelV v u1/\RelV w u2:=by
  cases r1 with
  | cons p q =>
   cases q with
   | cons p' q' =>
    cases q';exact⟨_,_,rfl,p,p'⟩
 refine wpAny_newObj_type ?_ (by show 2<=sizeLine;decide);have I2:Inv X pins σ H1 {s1 with heap:=s1.heap.push {cls:=.type "tuple",data:=.seq [u1,u2].toArray}}:=I1.kept (t':=s1.toks) λ b o e=>Heap.get?_push_of_some _ e;rw[hw];refine wpAny_bind (wpAny_pure ?_);show wpAny (model X.prog X.w) X.A (do rule "assign.swapped-stores";let items <- unpackItems (.ref s1.heap.objs.size) 2 none;assignInOrder [λ v=>bindName X.env y v,λ v=>bindName X.env x v] items.reverse;pure Flow.next) _ _ _;refine wpAny_bind (wpAny_rule (wpAny_bind (unpackItems_tuple (items:=#[u1,u2]) (I.ok.hd hc) (IsTup.new s1.heap _) λ h' hx'=>?_)));have I3:=I2.kept (h':=h') (t':=s1.toks) λ b o e=>hx' b o (Nat.ne_of_lt (Heap.lt_size e)) e;show wpAny _ _ (assignInOrder [λ v=>bindName X.env y v,λ v=>bindName X.env x v] [u2,u1] >>= λ _=>pure Flow.next) _ _ _;refine wpAny_bind (assignInOrder_cons (wpAny_bindName (jc I3 hN hj (.inl hy) rw' (λ s2 I4=>?_) (.inr hy))));refine assignInOrder_cons (wpAny_bindName (jc I4 hN hi (.inl hx) rv (λ s3 I5=>assignInOrder_nil (wpAny_pure ?_)) (.inr hx)));rw[List.set_comm _ _ (Ne.symm hij)] at I5;exact⟨_,H1,I5,q1⟩
def afO(to ti te:TE)(mK:V->V->Hp->VK->Prop)(tip:TIp)(tset:acU):TS:=λ D σ H=>to σ H λ o H1=>ti σ H1 λ i H2=>mK o i H2 λ x H3=>te σ H3 λ y H4=>tip x y H4 λ z H5=>tset o i z H5 λ H6=>D.nx σ H6
def afN(X:Cx)(t:V->V->Hp->VK->Prop):Prop:=
 ∀ (pins:PN) (s:Shared) (σ:St) (H:Hp) (o i:V) (ov iv:Value) (Q:VK),Inv X pins σ H s->RelV o ov->RelV i iv->t o i H Q ->
  wpAny (model X.prog X.w) X.A (getItem ov iv) (EP X pins σ Q) X.xe s
theorem vC{o i e:Expr}{to ti te:TE}{mK:V->V->Hp->VK->Prop}{tip:TIp}{tset:acU}{op:Operator}{tpos:Pos}(ho:PE X o to)(hi:PE X i ti)(hg:afN X mK)(he:PE X e te)(hp:PIp X op tip)(hs:ae5 X tset)
  (ha:∀ ov iv new,augStore i ov iv new=(do holding [new,ov,iv] (setItem ov iv new);release [new,ov,iv] [];pure .next):=by intros;rfl):PS X (.AugAssign (.Subscript o i tpos) op e pos) (afO to ti te mK tip tset):=by
 intro pins s σ H D I h;refine wpAny_AugAssign_SubscriptAny (thn (ho pins s σ H _ I h) λ ov s1 ⟨x1,H1,I1,r1,q1⟩=>?_) ha;refine thn (hi pins s1 σ H1 _ I1 q1) λ iv s2 hq12=>?_;obtain⟨x2,H2,I2,r2,q2⟩:=hq12;refine thn (hg pins s2 σ H2 x1 x2 ov iv _ I2 r1 r2 q2) λ old s3 hq13=>?_;obtain⟨x3,H3,I3,r3,q3⟩:=hq13;refine thn (he pins s3 σ H3 _ I3 q3) λ v s4 hq14=>?_;obtain⟨x4,H4,I4,r4,q4⟩:=hq14;refine thn (hp pins s4 σ H4 x3 x4 old v _ I4 r3 r4 q4) λ new s5 hq15=>?_;obtain⟨x5,H5,I5,r5,q5⟩:=hq15;exact thn (hs pins s5 σ H5 x1 x2 x5 ov iv new _ I5 r1 r2 r5 q5) λ _ s6 ⟨H6,I6,q6⟩=>⟨σ,H6,I6,q6⟩
def ipI(f:Int->Int->Int):TIp:=λ x y H Q=>∃ i j,x=.int i/\y=.int j/\Q (.int (f i j)) H
theorem adh:PIp X .Add (ipI λ i j=>i+j):=by intro pins s σ H x y v u Q I r1 r2 h;obtain⟨i,j,e1,e2,q⟩:=h;subst e1;subst e2;obtain⟨t,rfl⟩:=r1;obtain⟨t',rfl⟩:=r2;exact iadd_int ⟨.int _,H,I.tok _,⟨_,rfl⟩,q⟩
theorem aeB:PIp X .Sub (ipI λ i j=>i-j):=by intro pins s σ H x y v u Q I r1 r2 h;obtain⟨i,j,e1,e2,q⟩:=h;subst e1;subst e2;obtain⟨t,rfl⟩:=r1;obtain⟨t',rfl⟩:=r2;exact isub_int ⟨.int _,H,I.tok _,⟨_,rfl⟩,q⟩
end
section
variable {X:Cx}{pos:Pos}
end
structure It where
 go:Nat->Hp->Prop
 yld:Nat->Hp->V->Hp->Prop
 stop:Nat->Hp->Prop
def uA(X:Cx)(pins:PN)(H:Hp)(b:Addr):Prop:=
 H b=none/\b≠X.env.locals/\b ∉ X.fs/\(b∈X.ex\/X.s₀.heap.objs.size<=b)/\(∀ x c,X.env.cells.lookup x=some c->c≠b)/\∀ p∈X.pn++pins,p.1≠b
theorem Inv.uS{X:Cx}{pins:PN}{σ:St}{H H':Hp}{s:Shared}{b:Addr}(I:Inv X pins σ H s)(hb:s.heap.objs.size<=b)(hn:H' b=none):uA X pins H' b:=by
 refine⟨hn,Nat.ne_of_gt (Nat.lt_of_lt_of_le I.lt hb),I.agU hb,.inr (Nat.le_trans I.sz hb),λ x c e z=>?_,λ p hp z=>?_⟩
 ·obtain⟨v,q⟩:=I.cell x c e;exact absurd (Nat.lt_of_lt_of_le q.lt (by rw[z];exact hb)) (Nat.lt_irrefl _)
 ·exact absurd (Nat.lt_of_lt_of_le (Heap.lt_size (I.pin p hp).1) (by rw[z];exact hb)) (Nat.lt_irrefl _)
structure Turn(P:Program)(w:World)(K:FG)(tg:Expr)(J:It)(fp:List Addr)(it:Addr)(tn:Nat->Heap->Prop):Prop where
 mem:it∈fp
 obj:∀ i h,tn i h->∀ b∈fp,∃ o,h.get? b=some o/\∀ v,o.data ≠ .cell v
 keep:∀ i h h',tn i h->(∀ b∈fp,∀ o,h.get? b=some o->h'.get? b=some o)->tn i h'
 item:∀ (X:Cx),X.prog=P->X.w=w->X.K=K->X.calm=true->∀ (i:Nat) (pins:PN) (s:Shared) (σ:St) (H:Hp) (E:VP),Inv X pins σ H s->(∀ b∈fp,uA X pins H b)->tn i s.heap->J.go i H ->
  wpAny (model P w) X.A (pyNext (.ref it)) (λ r s1=>∃ u,r=some u /\
   wpAny (model P w) X.A (letOwnedTupleGo tg (.ref it) u) (λ _ s2=>∃ x H',Inv X pins σ H' s2/\RelV x u/\J.yld i H x H'/\tn (i+1) s2.heap/\∀ b∈fp,H' b=none) E s1) E s
 done:∀ (X:Cx),X.prog=P->X.w=w->X.K=K->X.calm=true->∀ (i:Nat) (pins:PN) (s:Shared) (σ:St) (H:Hp) (E:VP),Inv X pins σ H s->(∀ b∈fp,uA X pins H b)->tn i s.heap->J.stop i H ->
  wpAny (model P w) X.A (pyNext (.ref it)) (λ r s1=>r=none/\Inv X pins σ H s1) E s
 self:∀ (A:Around) (i:Nat) (s:Shared) (Q:VP) (E:VP),tn i s.heap->Q (.ref it) s->wpAny (model P w) A (pyIter (.ref it)) Q E s
abbrev TI:=St->Hp->(It->Hp->Prop)->Prop
def PIE(X:Cx)(pins:PN)(σ:St)(tg:Expr)(R:It->Hp->Prop)(itv:Value)(s2:Shared):Prop:=
 ∃ (it:Addr) (fp:List Addr) (tn:Nat->Heap->Prop) (J:It) (H':Hp),itv=.ref it/\Inv X pins σ H' s2/\Turn X.prog X.w X.K tg J fp it tn/\tn 0 s2.heap/\(∀ b∈fp,uA X pins H' b)/\R J H'
def PI(X:Cx)(tg iter:Expr)(wi:TI):Prop:=
 ∀ (pins:PN) (s:Shared) (σ:St) (H:Hp) (R:It->Hp->Prop),Inv X pins σ H s->wi σ H R ->
  wpAny (model X.prog X.w) X.A (eval iter X.env) (λ v s1=>wpAny (model X.prog X.w) X.A (pyIter v) (PIE X pins σ tg R) X.xe s1) X.xe s
theorem xB{M:Model}{A:Around}{E:VP}{s:Shared}{tg:Expr}{it:Addr}{u:Value}{o:Obj}{n:String}{vs:Array Value}{Q:Unit->Shared->Prop}(ho:s.heap.get? it=some o)(hc:o.cls=.type n)(hd:o.data=.fields vs)
  (hn:["enumerate", "zip", "dict_itemiterator", "dict_reverseitemiterator", "odict_iterator", "itertools.zip_longest", "itertools.pairwise"].contains n=false)(hQ:Q () s):wpAny M A (letOwnedTupleGo tg (.ref it) u) Q E s:=by
 unfold letOwnedTupleGo;cases tg<;>first
  | exact wpAny_pure hQ
  | (cases u<;>first
    | exact wpAny_pure hQ
    | (refine wpAny_bind (wpAny_load ho ?_)
       rw[hc,hd];show wpAny M A (if (["enumerate", "zip", "dict_itemiterator", "dict_reverseitemiterator", "odict_iterator", "itertools.zip_longest", "itertools.pairwise"].contains n&&vs[0]? == some (rawInt _))=true then _ else _) Q E s;rw[if_neg (by intro h;rw[hn,Bool.false_and] at h;cases h)];exact wpAny_pure hQ))
def Itl(K:FG)(a:Addr):It:=
 ⟨λ i H=>∃ xs x,SqL K H a xs/\xs[i]? =some x,λ i H x H'=>H'=H/\∀ xs,SqL K H a xs->xs[i]? =some x,λ i H=>∃ xs,SqL K H a xs/\xs.length<=i⟩
def Itt(K:FG)(a:Addr):It:=
 ⟨λ i H=>∃ xs x,SqT K H a xs/\xs[i]? =some x,λ i H x H'=>H'=H/\∀ xs,SqT K H a xs->xs[i]? =some x,λ i H=>∃ xs,SqT K H a xs/\xs.length<=i⟩
def Itr(lo:Int)(n:Nat):It:=⟨λ i _=>i<n,λ i H x H'=>H'=H/\x=.int (lo+i),λ i _=>n<=i⟩
theorem wH{P:Program}{w:World}{K:FG}{tg:Expr}(a it:Addr):Turn P w K tg (Itl K a) [it] it (λ i h=>h.IsListIter it a i) where
 mem:=by simp
 obj:=λ i h st b hb=>by
  have e:b=it:=by simpa using hb
  subst e;obtain⟨o,e,c,d⟩:=st;exact⟨o,e,λ v z=>by rw[d] at z;cases z⟩
 keep:=λ i h h' st k=>st.at λ o e=>k it (by simp) o e
 item:=by intro X hP hw hK hc i pins s σ H E I hf st hg;subst hP hw hK;obtain⟨xs,x,hq,hx⟩:=hg;obtain⟨its,rv,p,hz⟩:=I.list hq;obtain⟨u,hu,ru⟩:=rv.get hx;obtain⟨f0,f1,f2,f3,f4,f5⟩:=hf it (by simp);refine wpAny_pyNext_list_item st p.isList (x:=u) (by simpa using hu) λ h' st' sb=>?_;have I1:Inv X pins σ H {s with heap:=h'}:=I.turned (t':=s.toks) (λ b o hb e=>(sb.2 b hb).trans e) f0 f1 f3 f4 f5;obtain⟨o,e,c,d⟩:=id st';exact⟨u,rfl,xB (s:={s with heap:=h'}) e c d (by decide) ⟨x,H,I1,ru,⟨rfl,λ ys hy=>by rw[I.oo hy hq];exact hx⟩,st',λ b hb=>(hf b hb).1⟩⟩
 done:=by intro X hP hw hK hc i pins s σ H E I hf st hg;subst hP hw hK;obtain⟨xs,hq,hx⟩:=hg;obtain⟨its,rv,p,hz⟩:=I.list hq;obtain⟨f0,f1,f2,f3,f4,f5⟩:=hf it (by simp);have hl:=rv.length;exact wpAny_pyNext_list_end (I.ok.hd hc) st p.isList (by simp;omega) λ h' eb=>⟨rfl,I.turned (t':=s.toks) (λ b o hb e=>eb b o hb e) f0 f1 f3 f4 f5⟩
 self:=λ _ _ _ _ _ st h=>wpAny_pyIter_listiter st h
theorem uy{P:Program}{w:World}{K:FG}{tg:Expr}(a it:Addr):Turn P w K tg (Itt K a) [it] it (λ i h=>h.IsTupleIter it a i) where
 mem:=by simp
 obj:=λ i h st b hb=>by
  have e:b=it:=by simpa using hb
  subst e;obtain⟨o,e,c,d⟩:=st;exact⟨o,e,λ v z=>by rw[d] at z;cases z⟩
 keep:=λ i h h' st k=>st.at λ o e=>k it (by simp) o e
 item:=by intro X hP hw hK hc i pins s σ H E I hf st hg;subst hP hw hK;obtain⟨xs,x,hq,hx⟩:=hg;obtain⟨its,rv,p,hz⟩:=I.tuple hq;obtain⟨u,hu,ru⟩:=rv.get hx;obtain⟨f0,f1,f2,f3,f4,f5⟩:=hf it (by simp);refine wpAny_pyNext_tuple_item st (show s.heap.IsTuple a its.toArray from p) (x:=u) (by simpa using hu) λ h' st' sb=>?_;have I1:Inv X pins σ H {s with heap:=h'}:=I.turned (t':=s.toks) (λ b o hb e=>(sb.2 b hb).trans e) f0 f1 f3 f4 f5;obtain⟨o,e,c,d⟩:=id st';exact⟨u,rfl,xB (s:={s with heap:=h'}) e c d (by decide) ⟨x,H,I1,ru,⟨rfl,λ ys hy=>by rw[I.pZ hy hq];exact hx⟩,st',λ b hb=>(hf b hb).1⟩⟩
 done:=by intro X hP hw hK hc i pins s σ H E I hf st hg;subst hP hw hK;obtain⟨xs,hq,hx⟩:=hg;obtain⟨its,rv,p,hz⟩:=I.tuple hq;obtain⟨f0,f1,f2,f3,f4,f5⟩:=hf it (by simp);have hl:=rv.length;exact wpAny_pyNext_tuple_end (I.ok.hd hc) st (show s.heap.IsTuple a its.toArray from p) (by simp;omega) λ h' eb=>⟨rfl,I.turned (t':=s.toks) (λ b o hb e=>eb b o hb e) f0 f1 f3 f4 f5⟩
 self:=λ _ _ _ _ _ st h=>wpAny_pyIter_tupleiter st h
theorem tO{P:Program}{w:World}{K:FG}{tg:Expr}(it:Addr)(lo:Int)(n:Nat):Turn P w K tg (Itr lo n) [it] it (λ i h=>IsRangeIter h it (lo+(i:Nat) * 1) ((n:Int)-(i:Nat)) 1) where
 mem:=by simp
 obj:=λ i h st b hb=>by
  have e:b=it:=by simpa using hb
  subst e;exact⟨_,st,λ v z=>by have z':Data.fields _=Data.cell v:=z;cases z'⟩
 keep:=λ i h h' st k=>k it (by simp) _ st
 item:=by intro X hP hw hK hc i pins s σ H E I hf st hg;subst hP hw hK;obtain⟨f0,f1,f2,f3,f4,f5⟩:=hf it (by simp);have W:=Walks.range (prog:=X.prog) (w:=X.w) (I.ok.hd hc) it lo 1 n;refine W.item i s _ _ hg st λ v h' tk hv st' kk=>?_;obtain⟨t,rfl⟩:=hv;have I1:Inv X pins σ H {s with heap:=h',toks:=tk}:=I.turned (λ b o hb e=>kk b o (by simpa using hb) e) f0 f1 f3 f4 f5;refine⟨_,rfl,xB (s:={s with heap:=h',toks:=tk}) (n:= "range_iterator") st' rfl rfl (by decide) ⟨.int (lo+i),H,I1,⟨t,?_⟩,⟨rfl,rfl⟩,st',λ b hb=>(hf b hb).1⟩⟩;rw[Int.mul_one]
 done:=by intro X hP hw hK hc i pins s σ H E I hf st hg;subst hP hw hK;obtain⟨f0,f1,f2,f3,f4,f5⟩:=hf it (by simp);exact wpAny_pyNext_range_end (I.ok.hd hc) st (by have:n<=i:=hg;omega) λ h' eb=>⟨rfl,I.turned (t':=s.toks) (λ b o hb e=>eb b o hb e) f0 f1 f3 f4 f5⟩
 self:=λ _ _ _ _ _ st h=>wpAny_pyIter_rangeiter st h
section
variable {X:Cx}{tg:Expr}
theorem zw{pins:PN}{σ:St}{H:Hp}{s:Shared}{R:It->Hp->Prop}{E:VP}{lo hi:Int}{t u v:Tok}{tk:Nat}(I:Inv X pins σ H s)(h1:-(2 ^ 62)<=lo)(h2:lo<2 ^ 62)(h3:-(2 ^ 62)<=hi)(h4:hi<2 ^ 62)
  (q:R (Itr lo (hi-lo).toNat) H):wpAny (model X.prog X.w) X.A (pyIter (.ref s.heap.objs.size)) (PIE X pins σ tg R) E {s with heap:=s.heap.push {cls:=.type "range",data:=.fields #[.int lo t,.int hi u,.int 1 v]},toks:=tk}:=by
 refine wpAny_pyIter_range (IsRange.new ..) (small_one h1 h2 h3 h4) ?_;have I1:Inv X pins σ H {s with heap:=s.heap.push {cls:=.type "range",data:=.fields #[.int lo t,.int hi u,.int 1 v]},toks:=tk}:=I.kept λ b o e=>Heap.get?_push_of_some _ e;refine⟨(s.heap.push {cls:=.type "range",data:=.fields #[.int lo t,.int hi u,.int 1 v]}).objs.size,[(s.heap.push {cls:=.type "range",data:=.fields #[.int lo t,.int hi u,.int 1 v]}).objs.size],_,_,H,rfl,
  I1.kept (t':=tk) λ b o e=>Heap.get?_push_of_some _ e,tO _ lo (hi-lo).toNat,?_,λ b hb=>?_,q⟩
 ·have e1:lo+((0:Nat):Int) * 1=lo:=by simp
  have e2:(((hi-lo).toNat:Nat):Int)-((0:Nat):Int)=Builtin.Range.rangeSize lo hi 1:=by rw[rangeSize_one];split<;>omega
  show IsRangeIter _ _ (lo+((0:Nat):Int) * 1) ((((hi-lo).toNat:Nat):Int)-((0:Nat):Int)) 1;rw[e1,e2];exact Heap.get?_push_size _ rfl
 ·have e:b=(s.heap.push {cls:=.type "range",data:=.fields #[.int lo t,.int hi u,.int 1 v]}).objs.size:=by simpa using hb
  subst e;exact I1.uS (Nat.le_refl _) (I1.hok.fresh (Nat.le_refl _))
def afL(ta:TA):TI:=λ σ H R=>ta σ H λ vs H1=>∃ j:Int,vs=[.int j]/\-(2 ^ 62)<=j/\j<2 ^ 62/\R (Itr 0 j.toNat) H1
theorem we{a:Expr}{ta:TA}{p pos:Pos}(hg:Gl X "range")(hm:X.mg "range" = none)(ha:PA X [a] ta)(hs:starEach [a] X.env=[(false,eval a X.env)]:=by rfl):PI X tg (.Call (.Name "range" p) [a] [] pos) (afL ta):=by
 intro pins s σ H R I h;refine Call_ (nB I hg hm boot_range (PyProof.Rows.callWith_type1 (thn (ha pos pins s σ H _ I h) λ us s1 ⟨vs,H1,I1,r1,q1⟩=>?_) hs rfl));obtain⟨j,e,q1,q2,q⟩:=q1;subst e;cases r1 with
 | cons r rr =>
  cases rr;obtain⟨t,rfl⟩:=r;exact call_range_1 (zw I1 (by omega) (by omega) q1 q2 (by simpa using q))
def ahg(wi:TI)(g:TG)(tb:TS):TS:=λ D σ H=>wi σ H λ J H1=>∃ W:Nat->Nat->St->Hp->Prop,(∃ m,W 0 m σ H1)/\∀ i m σ H,W i m σ H ->
 (J.stop i H/\D.nx σ H)\/(J.go i H/\∃ N:St->Hp->Prop,(∀ σ' H',N σ' H'->∃ m',m'<m/\W (i+1) m' σ' H')/\∀ x H',J.yld i H x H'->g x σ H' λ σ2 H2=>tb {D with nx:=N,ct:=N,bk:=D.nx} σ2 H2)
def mZ(fp:List Addr)(h:Heap):PN:=fp.filterMap λ b=>(h.get? b).map λ o=>(b,o)
theorem gS{fp:List Addr}{h:Heap}{b:Addr}{o:Obj}(hb:b∈fp)(e:h.get? b=some o):(b,o)∈mZ fp h:=List.mem_filterMap.mpr ⟨b,hb,by rw[e];rfl⟩
theorem vc{fp:List Addr}{h:Heap}{p:Addr×Obj}(hp:p∈mZ fp h):p.1∈fp/\h.get? p.1=some p.2:=by
 obtain⟨b,hb,e⟩:=List.mem_filterMap.mp hp;cases q:h.get? b with
 | none=>rw[q] at e;cases e
 | some o =>
  rw[q] at e;have e':(b,o)=p:=Option.some.inj e;subst e';exact⟨hb,q⟩
theorem Inv.pinned{pins:PN}{σ:St}{H:Hp}{s:Shared}{fp:List Addr}(I:Inv X pins σ H s)(hf:∀ b∈fp,uA X pins H b)(ho:∀ b∈fp,∃ o,s.heap.get? b=some o/\∀ v,o.data ≠ .cell v):Inv X (pins++mZ fp s.heap) σ H s:=
 I.lD λ p hp=>(List.mem_append.mp hp).elim (λ z=>I.pin p (List.mem_append_right _ z)) λ z=>by obtain⟨hb,e⟩:=vc z;obtain⟨f0,f1,f2,_⟩:=hf p.1 hb;obtain⟨o,e',d⟩:=ho p.1 hb;rw[e] at e';cases e';exact⟨e,f0,f1,f2,d⟩
theorem Inv.nJ{pins pl:PN}{σ:St}{H:Hp}{s:Shared}(I:Inv X (pins++pl) σ H s):Inv X pins σ H s:=I.lD λ p hp=>I.pin p (List.mem_append_right _ (List.mem_append_left _ hp))
theorem acY{iter:Expr}{body:List Stmt}{wi:TI}{g:TG}{tb:TS}{pos:Pos}(hp:PassesOwn (model X.prog X.w) X.A X.env X.xe)(hc:X.calm=true)(hi:PI X tg iter wi)(hg:PG X tg g)(hb:PSs X body tb)
  (hs:∀ x,foldedSetIterable iter X.env x=pure x:=by intro _;rfl):PS X (.For tg iter body [] pos) (ahg wi g tb):=by
 intro pins s σ H D I h;refine wpAny_For (thn (hi pins s σ H _ I h) λ v s1 h1=>thn h1 λ itv s2 h2=>?_) hs;obtain⟨it,fp,tn,J,H2,e,I2,T,st2,f2,W,⟨m0,w0⟩,turn⟩:=h2;subst e;have stat:∀ {H':Hp},(∀ b∈fp,H' b=none)->∀ b∈fp,uA X pins H' b:=λ hn b hb=>⟨hn b hb,(f2 b hb).2⟩;refine codeAny_forLoop_any (λ n s'=>∃ i σ' H',Inv X pins σ' H' s'/\tn i s'.heap/\(∀ b∈fp,H' b=none)/\W i n σ' H') ?_ m0 ⟨0,σ,H2,I2,st2,λ b hb=>(f2 b hb).1,w0⟩;rintro n s3 ⟨i,σ3,H3,I3,st3,fr3,w3⟩;rcases turn i n σ3 H3 w3 with ⟨stop,qn⟩ | ⟨go,N,hN,step⟩
 ·refine wpAny_passesOwn hp (thn (T.done X rfl rfl rfl hc i pins s3 σ3 H3 X.xe I3 (stat fr3) st3 stop) λ r s4 ⟨hr,I4⟩=>?_);subst hr;exact wpAny_execs_nil ⟨σ3,H3,I4,qn⟩
 ·refine wpAny_passesOwn hp (thn (T.item X rfl rfl rfl hc i pins s3 σ3 H3 X.xe I3 (stat fr3) st3 go) λ r s4 ⟨u,hr,h4⟩=>?_);subst hr;refine wpAny_passesOwn hp (thn h4 λ _ s5 hq16=>?_);obtain⟨x,H5,I5,r5,y5,st5,fr5⟩:=hq16;have I5':=I5.pinned (stat fr5) (T.obj _ _ st5);refine wpAny_passesOwn hp (thn (hg _ s5 σ3 H5 x u _ I5' r5 (step x H5 y5)) λ _ s6 hq17=>?_);obtain⟨σ6,H6,I6,q6⟩:=hq17;refine wpAny_passesOwn hp (thn (hb _ s6 σ6 H6 _ I6 q6) λ f s7 q7=>?_);have again:∀ {σ7:St} {H7:Hp},Inv X (pins++mZ fp s5.heap) σ7 H7 s7->N σ7 H7->∃ m,m<n/\∃ i σ' H',Inv X pins σ' H' s7/\tn i s7.heap/\(∀ b∈fp,H' b=none)/\W i m σ' H':=λ {σ7 H7} I7 n7=>by obtain⟨m',hm,w7⟩:=hN σ7 H7 n7;refine⟨m',hm,i+1,σ7,H7,I7.nJ,T.keep _ _ _ st5 λ b hb o e=>(I7.pin (b,o) (List.mem_append_right _ (List.mem_append_right _ (gS hb e)))).1,λ b hb=>?_,w7⟩;obtain⟨o,e,d⟩:=T.obj _ _ st5 b hb;exact(I7.pin (b,o) (List.mem_append_right _ (List.mem_append_right _ (gS hb e)))).2.1
  cases f with
  | next=>obtain⟨σ7,H7,I7,n7⟩:=q7;exact again I7 n7
  | cont=>obtain⟨σ7,H7,I7,n7⟩:=q7;exact again I7 n7
  | brk=>obtain⟨σ7,H7,I7,q7⟩:=q7;exact⟨σ7,H7,I7.nJ,q7⟩
  | ret v=>obtain⟨x7,σ7,H7,I7,r7,q7⟩:=q7;exact⟨x7,σ7,H7,I7.nJ,r7,q7⟩
end
abbrev R2:=V->V->Hp->VK->Prop
def OpR(X:Cx)(f:Value->Value->Sem Value)(r:R2):Prop:=
 ∀ (pins:PN) (s:Shared) (σ:St) (H:Hp) (x y:V) (v u:Value) (Q:VK),Inv X pins σ H s->RelV x v->RelV y u->r x y H Q ->
  wpAny (model X.prog X.w) X.A (f v u) (EP X pins σ Q) X.xe s
def dZ(X:Cx)(f:Value)(r:List V->Hp->VK->Prop):Prop:=
 ∀ (pins:PN) (s:Shared) (σ:St) (H:Hp) (xs:List V) (us:List Value) (Q:VK),Inv X pins σ H s->Vals xs us->r xs H Q ->
  wpAny (model X.prog X.w) X.A (call f us) (EP X pins σ Q) X.xe s
def ag5(X:Cx)(r:V->Hp->(Bool->Hp->Prop)->Prop):Prop:=
 ∀ (pins:PN) (s:Shared) (σ:St) (H:Hp) (x:V) (v:Value) (Q:Bool->Hp->Prop),Inv X pins σ H s->RelV x v->r x H Q ->
  wpAny (model X.prog X.w) X.A (truthy v) (TP X pins σ Q) X.xe s
def tOp(r:R2)(ta tb:TE):TE:=λ σ H Q=>ta σ H λ x H1=>tb σ H1 λ y H2=>r x y H2 Q
def rI(C:Int->Int->Prop)(g:Int->Int->V):R2:=λ x y H Q=>∃ i j,x=.int i/\y=.int j/\C i j/\Q (g i j) H
def rI0(g:Int->Int->V):R2:=λ x y H Q=>∃ i j,x=.int i/\y=.int j/\Q (g i j) H
section
variable {X:Cx}{a b c:Expr}{ta tb tc:TE}{pos:Pos}
theorem afY(ha:PE X a ta)(hb:PE X b tb){pins:PN}{s:Shared}{σ:St}{H:Hp}{R:V->V->Hp->Prop}(I:Inv X pins σ H s)
  (h:ta σ H λ x H1=>tb σ H1 λ y H2=>R x y H2){Q:VP}{f:Value->Value->Sem Value}
  (hf:∀ v u s2 x y H2,Inv X pins σ H2 s2->RelV x v->RelV y u->R x y H2->wpAny (model X.prog X.w) X.A (f v u) Q X.xe s2) :
  wpAny (model X.prog X.w) X.A (eval a X.env) (λ v s₁=>wpAny (model X.prog X.w) X.A (eval b X.env) (λ u s₂=>wpAny (model X.prog X.w) X.A (f v u) Q X.xe s₂) X.xe s₁) X.xe s:=by
 refine thn (ha pins s σ H _ I h) λ v s1 hq18=>?_;obtain⟨x,H1,I1,r1,q1⟩:=hq18;refine thn (hb pins s1 σ H1 _ I1 q1) λ u s2 hq19=>?_;obtain⟨y,H2,I2,r2,q2⟩:=hq19;exact hf v u s2 x y H2 I2 r1 r2 q2
theorem aff{op:Operator}{r:R2}(ho:OpR X (binaryOp op) r)(ha:PE X a ta)(hb:PE X b tb):PE X (.BinOp a op b pos) (tOp r ta tb):=by intro pins s σ H Q I h;exact wpAny_BinOp (afY ha hb I h λ v u s2 x y H2 I2 rx ry q=>ho pins s2 σ H2 x y v u Q I2 rx ry q)
theorem opI{f:Value->Value->Sem Value}{C:Int->Int->Prop}{g:Int->Int->Int}
  (rule:∀ (i j:Int) (t u:Tok) (s:Shared) (Q:VP) (E:VP),C i j->Q (.int (g i j) s.toks) {s with toks:=s.toks+1}->wpAny (model X.prog X.w) X.A (f (.int i t) (.int j u)) Q E s) :
  OpR X f (rI C λ i j=>.int (g i j)):=by
 intro pins s σ H x y v u Q I rx ry h;obtain⟨i,j,rfl,rfl,hc,q⟩:=h;obtain⟨t,rfl⟩:=rx;obtain⟨t',rfl⟩:=ry;exact rule i j t t' s _ _ hc ⟨.int (g i j),H,I.tok _,⟨_,rfl⟩,q⟩
theorem agD{f:Value->Value->Sem Value}{g:Int->Int->Int}
  (rule:∀ (i j:Int) (t u:Tok) (s:Shared) (Q:VP) (E:VP),Q (.int (g i j) s.toks) {s with toks:=s.toks+1}->wpAny (model X.prog X.w) X.A (f (.int i t) (.int j u)) Q E s) :
  OpR X f (rI0 λ i j=>.int (g i j)):=by
 intro pins s σ H x y v u Q I rx ry h;obtain⟨i,j,rfl,rfl,q⟩:=h;obtain⟨t,rfl⟩:=rx;obtain⟨t',rfl⟩:=ry;exact rule i j t t' s _ _ ⟨.int (g i j),H,I.tok _,⟨_,rfl⟩,q⟩
theorem aeY{f:Value->Value->Sem Value}{g:Int->Int->Bool}
  (rule:∀ (i j:Int) (t u:Tok) (s:Shared) (Q:VP) (E:VP),Q (.bool (g i j)) s->wpAny (model X.prog X.w) X.A (f (.int i t) (.int j u)) Q E s) :
  OpR X f (rI0 λ i j=>.bl (g i j)):=by
 intro pins s σ H x y v u Q I rx ry h;obtain⟨i,j,rfl,rfl,q⟩:=h;obtain⟨t,rfl⟩:=rx;obtain⟨t',rfl⟩:=ry;exact rule i j t t' s _ _ ⟨.bl (g i j),H,I,rfl,q⟩
def agu(i j:Int):Prop:=0<j/\j<1073741824
def aez(i j:Int):Prop:=(-(2 ^ 64)<i/\i<2 ^ 64)\/(-(2 ^ 64)<j/\j<2 ^ 64)
theorem aez.ok{i j:Int}(h:aez i j):IntMulOk i j:=by
 rcases h with ⟨h1,h2⟩ | ⟨h1,h2⟩
 ·exact .of_left (intBits_le_64 h1 h2)
 ·exact .of_right (intBits_le_64 h1 h2)
theorem ael:OpR X (binaryOp .Add) (rI0 λ i j=>.int (i+j)):=agD λ _ _ _ _ _ _ _ q=>add_int q
theorem zI:OpR X (binaryOp .Sub) (rI0 λ i j=>.int (i-j)):=agD λ _ _ _ _ _ _ _ q=>sub_int q
theorem nC:OpR X (binaryOp .Mult) (rI aez λ i j=>.int (i * j)):=opI λ _ _ _ _ _ _ _ hc q=>mul_int q hc.ok
theorem vJ:OpR X (binaryOp .FloorDiv) (rI agu λ i j=>.int (i / j)):=opI λ i j _ _ _ _ _ hc q=>by have h1:(0:Int)<j:=hc.1;have h2:j<1073741824:=hc.2;exact floordiv_int (by omega) (by rw[Int.fdiv_eq_ediv_of_nonneg i (by omega)];exact q) (.inl (PyProof.noPylong_small (by omega)))
theorem jV:OpR X (binaryOp .Mod) (rI (λ _ j=>0<j) λ i j=>.int (i % j)):=opI λ i j _ _ _ _ _ hc q=>by have h1:(0:Int)<j:=hc;exact mod_int' (by omega) (by rw[Int.fmod_eq_emod_of_nonneg i (by omega)];exact q)
end
def agP:V->V->Bool
 | .non,.non=>true | .non,.int _=>true | .int _,.non=>true | .non,.bl _=>true | .bl _,.non=>true | .non,.str _=>true | .str _,.non=>true
 | .int _,.int _=>true | .bl _,.bl _=>true | .str _,.str _=>true | .byt _,.byt _=>true
 | .int _,.str _=>true | .str _,.int _=>true | .bl _,.str _=>true | .str _,.bl _=>true
 | _,_=>false
def rEq:R2:=λ x y H Q=>agP x y=true/\Q (.bl (decide (x=y))) H
def rNe:R2:=λ x y H Q=>agP x y=true/\Q (.bl (!decide (x=y))) H
theorem vY{i j:Int}:decide (V.int i=V.int j)=(i==j):=by rw[Bool.eq_iff_iff];simp
theorem zY{i j:Bool}:decide (V.bl i=V.bl j)=(i==j):=by rw[Bool.eq_iff_iff];simp
theorem xE{i j:Str}:decide (V.str i=V.str j)=(i==j):=by rw[Bool.eq_iff_iff];simp
theorem wO{i j:Array UInt8}:decide (V.byt i=V.byt j)=(i.toList==j.toList):=by rw[Bool.eq_iff_iff];cases i;cases j;simp
section
variable {X:Cx}{a b c:Expr}{ta tb tc:TE}{pos:Pos}
theorem bP{pins:PN}{σ:St}{H:Hp}{s:Shared}{Q:VK}{k k':Bool}(I:Inv X pins σ H s)(q:Q (.bl k) H)(e:k=k'):EP X pins σ Q (.bool k') s:=by subst e;exact⟨.bl k,H,I,rfl,q⟩
theorem agc:OpR X (compareOp .Eq) rEq:=by
 intro pins s σ H x y v u Q I rx ry h;obtain⟨hs,q⟩:=h;cases x with
 | non =>
  cases rx;cases y with
  | non=>cases ry;exact PySem.EqNone.eq_none_none (bP I q (by simp))
  | bl j=>cases ry;exact PySem.EqNone.eq_none_bool (bP I q (by simp))
  | int j=>obtain⟨t',rfl⟩:=ry;exact PySem.EqNone.eq_none_int (bP I q (by simp))
  | str j=>obtain⟨t',rfl⟩:=ry;exact PySem.EqNone.eq_none_str (bP I q (by simp))
  | _=>exact absurd (show false=true from hs) Bool.false_ne_true
 | bl i =>
  cases rx;cases y with
  | non=>cases ry;exact PySem.EqNone.eq_bool_none (bP I q (by simp))
  | bl j=>cases ry;exact eq_bool (bP I q zY)
  | str j=>obtain⟨t',rfl⟩:=ry;exact PySem.EqMixed.eq_bool_str (bP I q (by simp))
  | _=>exact absurd (show false=true from hs) Bool.false_ne_true
 | int i =>
  obtain⟨t,rfl⟩:=rx;cases y with
  | non=>cases ry;exact PySem.EqNone.eq_int_none (bP I q (by simp))
  | int j=>obtain⟨t',rfl⟩:=ry;exact eq_int (bP I q vY)
  | str j=>obtain⟨t',rfl⟩:=ry;exact PySem.EqMixed.eq_int_str (bP I q (by simp))
  | _=>exact absurd (show false=true from hs) Bool.false_ne_true
 | str i =>
  obtain⟨t,rfl⟩:=rx;cases y with
  | non=>cases ry;exact PySem.EqNone.eq_str_none (bP I q (by simp))
  | bl j=>cases ry;exact PySem.EqMixed.eq_str_bool (bP I q (by simp))
  | int j=>obtain⟨t',rfl⟩:=ry;exact PySem.EqMixed.eq_str_int (bP I q (by simp))
  | str j=>obtain⟨t',rfl⟩:=ry;exact eq_str (bP I q xE)
  | _=>exact absurd (show false=true from hs) Bool.false_ne_true
 | byt i =>
  obtain⟨t,rfl⟩:=rx;cases y with
  | byt j=>obtain⟨t',rfl⟩:=ry;exact W.eq_bytes (bP I q wO)
  | _=>exact absurd (show false=true from hs) Bool.false_ne_true
 | _=>cases y<;>exact absurd (show false=true from hs) Bool.false_ne_true
theorem afS:OpR X (compareOp .NotEq) rNe:=by
 intro pins s σ H x y v u Q I rx ry h;obtain⟨hs,q⟩:=h;cases x with
 | non =>
  cases rx;cases y with
  | non=>cases ry;exact PySem.EqNone.ne_none_none (bP I q (by simp))
  | bl j=>cases ry;exact PySem.EqNone.ne_none_bool (bP I q (by simp))
  | int j=>obtain⟨t',rfl⟩:=ry;exact PySem.EqNone.ne_none_int (bP I q (by simp))
  | str j=>obtain⟨t',rfl⟩:=ry;exact PySem.EqNone.ne_none_str (bP I q (by simp))
  | _=>exact absurd (show false=true from hs) Bool.false_ne_true
 | bl i =>
  cases rx;cases y with
  | non=>cases ry;exact PySem.EqNone.ne_bool_none (bP I q (by simp))
  | bl j=>cases ry;exact ne_bool (bP I q (congrArg not zY))
  | str j=>obtain⟨t',rfl⟩:=ry;exact PySem.EqMixed.ne_bool_str (bP I q (by simp))
  | _=>exact absurd (show false=true from hs) Bool.false_ne_true
 | int i =>
  obtain⟨t,rfl⟩:=rx;cases y with
  | non=>cases ry;exact PySem.EqNone.ne_int_none (bP I q (by simp))
  | int j=>obtain⟨t',rfl⟩:=ry;exact ne_int (bP I q (congrArg not vY))
  | str j=>obtain⟨t',rfl⟩:=ry;exact PySem.EqMixed.ne_int_str (bP I q (by simp))
  | _=>exact absurd (show false=true from hs) Bool.false_ne_true
 | str i =>
  obtain⟨t,rfl⟩:=rx;cases y with
  | non=>cases ry;exact PySem.EqNone.ne_str_none (bP I q (by simp))
  | bl j=>cases ry;exact PySem.EqMixed.ne_str_bool (bP I q (by simp))
  | int j=>obtain⟨t',rfl⟩:=ry;exact PySem.EqMixed.ne_str_int (bP I q (by simp))
  | str j=>obtain⟨t',rfl⟩:=ry;exact ne_str (bP I q (congrArg not xE))
  | _=>exact absurd (show false=true from hs) Bool.false_ne_true
 | byt i =>
  obtain⟨t,rfl⟩:=rx;cases y with
  | byt j=>obtain⟨t',rfl⟩:=ry;exact W.ne_bytes (bP I q (congrArg not wO))
  | _=>exact absurd (show false=true from hs) Bool.false_ne_true
 | _=>cases y<;>exact absurd (show false=true from hs) Bool.false_ne_true
theorem abj:OpR X (compareOp .Lt) (rI0 λ i j=>.bl (decide (i<j))):=aeY λ _ _ _ _ _ _ _ q=>lt_int q
theorem af4:OpR X (compareOp .LtE) (rI0 λ i j=>.bl (decide (i<=j))):=aeY λ _ _ _ _ _ _ _ q=>le_int q
theorem ab5:OpR X (compareOp .Gt) (rI0 λ i j=>.bl (decide (j<i))):=aeY λ _ _ _ _ _ _ _ q=>gt_int q
theorem xK:OpR X (compareOp .GtE) (rI0 λ i j=>.bl (decide (j<=i))):=aeY λ _ _ _ _ _ _ _ q=>ge_int q
theorem adx:OpR X (compareOp .Is) (λ x y H Q=>y=.non/\Q (.bl (decide (x=.non))) H):=by
 intro pins s σ H x y v u Q I rx ry h;obtain⟨rfl,q⟩:=h;cases ry;refine is_none_gen (bP I q ?_);cases x<;>first
  | (cases rx;rfl)
  | (obtain⟨t,rfl⟩:=rx;rfl)
theorem OpR.or{f:Value->Value->Sem Value}{r r':R2}(h:OpR X f r)(h':OpR X f r'):OpR X f (λ x y H Q=>r x y H Q\/r' x y H Q):=by
 intro pins s σ H x y v u Q I rx ry q;rcases q with q | q
 ·exact h pins s σ H x y v u Q I rx ry q
 ·exact h' pins s σ H x y v u Q I rx ry q
theorem abn{op:CmpOp}{r:R2}(ho:OpR X (compareOp op) r)(ha:PE X a ta)(hb:PE X b tb)(hm:behindInMarks op b=false):PE X (.Compare a [op] [b] pos) (tOp r ta tb):=by intro pins s σ H Q I h;exact wpAny_Compare1 (afY ha hb I h λ v u s2 x y H2 I2 rx ry q=>ho pins s2 σ H2 x y v u Q I2 rx ry q) hm
def aaM(t:TE):TT:=λ σ H Q=>t σ H λ x H'=>∃ k,x=.bl k/\Q k H'
theorem ab4{op:CmpOp}{r:R2}(ho:OpR X (compareOp op) r)(ha:PE X a ta)(hb:PE X b tb)(hm:behindInMarks op b=false):PT X (.Compare a [op] [b] pos) (aaM (tOp r ta tb)):=by
 intro pins s σ H Q I h;refine wpAny_isTrue_Compare1 (thn (ha pins s σ H _ I h) λ v s1 ⟨x,H1,I1,r1,q1⟩=>thn (hb pins s1 σ H1 _ I1 q1) λ u s2 ⟨y,H2,I2,r2,q2⟩ =>
  thn (ho pins s2 σ H2 x y v u _ I2 r1 r2 q2) λ c s3 ⟨z,H3,I3,r3,k,e,q3⟩=>?_) hm
 subst e;cases r3;exact wpAny_truthy_bool ⟨H3,I3,q3⟩
def vG(r r':R2)(ta tb tc:TE):TE:=λ σ H Q=>ta σ H λ x H1=>tb σ H1 λ y H2=>r x y H2 λ z H3=>∃ k,z=.bl k /\
 (if k=true then tc σ H3 λ w' H4=>r' y w' H4 Q else Q (.bl false) H3)
theorem xZ{op op':CmpOp}{r r':R2}(ho:OpR X (compareOp op) r)(ho':OpR X (compareOp op') r')(ha:PE X a ta)(hb:PE X b tb)(hc:PE X c tc)
  (hm:lastMarks [op,op'] [b,c]=false:=by with_unfolding_all rfl):PE X (.Compare a [op,op'] [b,c] pos) (vG r r' ta tb tc):=by
 intro pins s σ H Q I h;refine Compare_chain (thn (ha pins s σ H _ I h) λ v s1 ⟨x,H1,I1,r1,q1⟩=>chain_link (thn (hb pins s1 σ H1 _ I1 q1) λ u s2 ⟨y,H2,I2,r2,q2⟩ =>
  thn (ho pins s2 σ H2 x y v u _ I2 r1 r2 q2) λ d s3 ⟨z,H3,I3,r3,k,e,q3⟩=>?_)) hm
 subst e;cases r3;refine wpAny_truthy_bool ?_;cases k with
 | false=>exact ite_ff ⟨.bl false,H3,I3,rfl,q3⟩
 | true=>exact ite_tt (chain_last (thn (hc pins s3 σ H3 _ I3 q3) λ w' s4 ⟨z',H4,I4,r4,q4⟩=>ho' pins s4 σ H4 y z' u w' Q I4 r2 r4 q4))
theorem zy{op op':CmpOp}{r r':R2}(ho:OpR X (compareOp op) r)(ho':OpR X (compareOp op') r')(ha:PE X a ta)(hb:PE X b tb)(hc:PE X c tc)
  (hm:lastMarks [op,op'] [b,c]=false:=by with_unfolding_all rfl):PT X (.Compare a [op,op'] [b,c] pos) (aaM (vG r r' ta tb tc)):=by
 intro pins s σ H Q I h;refine isTrue_chain (thn (ha pins s σ H _ I h) λ v s1 ⟨x,H1,I1,r1,q1⟩=>test_link (thn (hb pins s1 σ H1 _ I1 q1) λ u s2 ⟨y,H2,I2,r2,q2⟩ =>
  thn (ho pins s2 σ H2 x y v u _ I2 r1 r2 q2) λ d s3 ⟨z,H3,I3,r3,k,e,q3⟩=>?_)) hm
 subst e;cases r3;refine wpAny_truthy_bool ?_;cases k with
 | false =>
  obtain⟨k',e',q'⟩:=q3;cases e';exact ite_ff ⟨H3,I3,q'⟩
 | true =>
  refine ite_tt (test_last (thn (hc pins s3 σ H3 _ I3 q3) λ w' s4 ⟨z',H4,I4,r4,q4⟩=>thn (ho' pins s4 σ H4 y z' u w' _ I4 r2 r4 q4) λ d' s5 hq20=>?_));obtain⟨z2,H5,I5,r5,k2,e2,q5⟩:=hq20;subst e2;cases r5;exact wpAny_truthy_bool ⟨H5,I5,q5⟩
def afX(K:FG)(x:V)(H:Hp)(k:Bool):Prop:=
 match x with
 | .non=>k=false
 | .bl b=>k=b
 | .int i=>k=(i != 0)
 | .str y=>y.length<=sizeLine/\k=((y.length:Int) != 0)
 | .byt y=>y.size<=sizeLine/\k=((y.size:Int) != 0)
 | .ref p=>(∃ xs,SqL K H p xs/\k=!xs.isEmpty)\/(∃ xs,SqT K H p xs/\k=!xs.isEmpty)\/∃ kvs,H p=some (.dK kvs)/\k=!kvs.isEmpty
 | _=>False
theorem tL{κ:Type}{kvs:List (κ×V)}{vs:List (κ×Value)}(r:KV kvs vs):(!vs.isEmpty)=!kvs.isEmpty:=by
 cases r<;>rfl
theorem mP{xs:List V}{its:List Value}(r:Vals xs its):(!its.toArray.isEmpty)=!xs.isEmpty:=by
 cases r<;>simp
theorem kH:(sizeLine:Nat)<2 ^ 63:=by rw[sizeLine_eq];decide
theorem adB:ag5 X (λ x H Q=>∃ k,afX X.K x H k/\Q k H):=by
 intro pins s σ H x v Q I rx h;obtain⟨k,e,q⟩:=h;have hl:=kH;have hs:sizeLine=16777216:=sizeLine_eq;cases x with
 | non =>
  cases rx;have e':k=false:=e;subst e';exact truthy_none ⟨H,I,q⟩
 | bl b =>
  cases rx;have e':k=b:=e;subst e';exact wpAny_truthy_bool ⟨H,I,q⟩
 | int i =>
  obtain⟨t,rfl⟩:=rx;have e':k=(i != 0):=e;subst e';exact PySem.P.truthy_int ⟨H,I,q⟩
 | str y =>
  obtain⟨t,rfl⟩:=rx;obtain⟨hy,e'⟩:y.length<=sizeLine/\k=((y.length:Int) != 0):=e;subst e';exact PySem.P.truthy_str (by omega) ⟨H,I.tok _,q⟩
 | byt y =>
  obtain⟨t,rfl⟩:=rx;obtain⟨hy,e'⟩:y.size<=sizeLine/\k=((y.size:Int) != 0):=e;subst e';exact W.truthy_bytes (by omega) ⟨H,I.tok _,q⟩
 | ref p =>
  cases rx;have e':(∃ xs,SqL X.K H p xs/\k=!xs.isEmpty)\/(∃ xs,SqT X.K H p xs/\k=!xs.isEmpty)\/∃ kvs,H p=some (.dK kvs)/\k=!kvs.isEmpty:=e;rcases e' with ⟨xs,hx,e'⟩ | ⟨xs,hx,e'⟩ | ⟨kvs,hx,e'⟩
  ·subst e';obtain⟨its,r,pl,hz⟩:=I.list hx;have hlen:=r.length;exact wpAny_truthy_list pl.isList (by simp only[List.size_toArray];omega) ⟨H,I.tok _,by rw[mP r];exact q⟩
  ·subst e';obtain⟨its,r,pl,hz⟩:=I.tuple hx;have hlen:=r.length;exact truthy_tuple pl (by simp only[List.size_toArray];omega) ⟨H,I.tok _,by rw[mP r];exact q⟩
  ·subst e';obtain⟨hz,hS,vs,r,m⟩:kvs.length<=sizeLine/\(p==sysModules)=false/\∃ vs,KV kvs vs/\s.heap.DictOf (bb X.prog X.w) p vs:=I.hok p _ hx;have hlen:kvs.length=vs.length:=Paired.length r;exact wpAny_truthy_dict hS m (by omega) ⟨H,I.tok _,by rw[tL r];exact q⟩
 | _=>exact(show False from e).elim
theorem zA(ha:PE X a ta)(he:∀ whole,isTrue a X.env whole=(do let v <- whole;standAt a.pos;holding [v] (truthy v))) :
  PT X a (λ σ H Q=>ta σ H λ x H'=>∃ k,afX X.K x H' k/\Q k H'):=by
 intro pins s σ H Q I h;exact isTrue_plain (thn (ha pins s σ H _ I h) λ v s1 ⟨x,H1,I1,r1,q1⟩=>adB pins s1 σ H1 x v Q I1 r1 q1) (he _)
theorem uu:OpR X (binaryOp .Add) (λ x y H Q=>∃ i j,x=.str i/\y=.str j/\i.length+j.length<=sizeLine/\Q (.str (i++j)) H):=by intro pins s σ H x y v u Q I rx ry h;obtain⟨i,j,rfl,rfl,hz,q⟩:=h;obtain⟨t,rfl⟩:=rx;obtain⟨t',rfl⟩:=ry;exact add_str (λ t' tk=>⟨.str (i++j),H,I.tok _,⟨_,rfl⟩,q⟩) hz
theorem vals1{x:V}{us:List Value}(r:Vals [x] us):∃ u,us=[u]/\RelV x u:=by
 cases r with
 | cons r1 r2=>cases r2;exact⟨_,rfl,r1⟩
theorem vals2{x y:V}{us:List Value}(r:Vals [x,y] us):∃ u w',us=[u,w']/\RelV x u/\RelV y w':=by
 cases r with
 | cons r1 r2 =>
  cases r2 with
  | cons r3 r4=>cases r4;exact⟨_,_,rfl,r1,r3⟩
theorem y8:dZ X (.builtin "abs") (λ xs H Q=>∃ i,xs=[.int i]/\Q (.int (if i<0 then -i else i)) H):=by intro pins s σ H xs us Q I r h;obtain⟨i,rfl,q⟩:=h;obtain⟨u,rfl,t,rfl⟩:=vals1 r;exact call_abs_int λ u tk=>⟨.int (if i<0 then -i else i),H,I.tok _,⟨_,rfl⟩,q⟩
theorem qe(hc:X.calm=true):dZ X (.builtin "max") (λ xs H Q=>∃ i j,xs=[.int i,.int j]/\Q (.int (if j > i then j else i)) H):=by
 intro pins s σ H xs us Q I r h;obtain⟨i,j,rfl,q⟩:=h;obtain⟨u,w',rfl,⟨t,rfl⟩,⟨t',rfl⟩⟩:=vals2 r;refine max_two_ints (I.ok.hd hc) λ h' tk k=>⟨_,H,I.kept k,?_,q⟩
 by_cases hj:j > i
 ·rw[if_pos hj,if_pos hj];exact⟨_,rfl⟩
 ·rw[if_neg hj,if_neg hj];exact⟨_,rfl⟩
def agA(K:FG)(x:V)(H:Hp)(n:Nat):Prop:=
 match x with
 | .str y=>y.length<=sizeLine/\n=y.length
 | .byt y=>y.size<=sizeLine/\n=y.size
 | .ref p=>(∃ xs,SqL K H p xs/\n=xs.length)\/∃ xs,SqT K H p xs/\n=xs.length
 | _=>False
theorem eN:dZ X (.builtin "len") (λ xs H Q=>∃ x n,xs=[x]/\agA X.K x H n/\Q (.int n) H):=by
 intro pins s σ H xs us Q I r h;obtain⟨x,n,rfl,e,q⟩:=h;obtain⟨u,rfl,rx⟩:=vals1 r;have hl:=kH;have hs:sizeLine=16777216:=sizeLine_eq;cases x with
 | str y =>
  obtain⟨t,rfl⟩:=rx;obtain⟨hy,e'⟩:y.length<=sizeLine/\n=y.length:=e;subst e';exact len_str (by omega) ⟨.int _,H,I.tok _,⟨_,rfl⟩,q⟩
 | byt y =>
  obtain⟨t,rfl⟩:=rx;obtain⟨hy,e'⟩:y.size<=sizeLine/\n=y.size:=e;subst e';exact W.len_bytes (by omega) ⟨.int _,H,I.tok _,⟨_,rfl⟩,q⟩
 | ref p =>
  cases rx;have e':(∃ xs,SqL X.K H p xs/\n=xs.length)\/∃ xs,SqT X.K H p xs/\n=xs.length:=e;rcases e' with ⟨xs,hx,e'⟩ | ⟨xs,hx,e'⟩
  ·subst e';obtain⟨its,r',pl,hz⟩:=I.list hx;have hlen:=r'.length;exact Calls.call_len_list pl.isList (by simp only[List.size_toArray];omega) ⟨.int xs.length,H,I.tok _,⟨_,by simp only[List.size_toArray];rw[hlen]⟩,q⟩
  ·subst e';obtain⟨its,r',pl,hz⟩:=I.tuple hx;have hlen:=r'.length;exact len_tuple pl (by simp only[List.size_toArray];omega) ⟨.int xs.length,H,I.tok _,⟨_,by simp only[List.size_toArray];rw[hlen]⟩,q⟩
 | _=>exact(show False from e).elim
end
structure ab6(h:Heap)(x dx C:Addr)(mA:Str->Option Value):Prop where
 obj:h.get? x=some (W.instObj C dx)
 ns:h.Ns1 dx mA
 ne:dx≠x
theorem qz{h:Heap}{dx:Addr}{mA:Str->Option Value}(n:h.Ns1 dx mA):∃ od,h.get? dx=some od/\∀ name,W.lookIn name od=some (mA name):=by
 obtain⟨o,es,ep,ho,hd,hk,_,hm⟩:=n;refine⟨o,ho,λ name=>?_⟩;have e:=hm name;unfold nsFind findBy at e;rw[<- Array.find?_toList] at e;unfold W.lookIn;rw[hd];dsimp only
 split
 ·rename_i y q
  rw[q] at e;exact congrArg some e
 ·rename_i q
  rw[q] at e;have a:es.toList.any (·.refKey)=false:=by rw[List.any_eq_false];intro y hy;obtain⟨z,t,hkey⟩:=hk y (Array.mem_toList_iff.mp hy);simp[DictEntry.refKey,hkey]
  have a':¬ es.toList.any (·.refKey)=true:=by rw[a];exact Bool.false_ne_true
  rw[if_neg a'];exact congrArg some e
theorem ab6.look{h:Heap}{x dx C:Addr}{mA:Str->Option Value}(I:ab6 h x dx C mA):∃ od,W.InstAt h x (W.instObj C dx) C (some od)/\∀ name,W.lookIn name od=some (mA name):=
 let ⟨od,ho,hl⟩:=qz I.ns
 ⟨od,⟨I.obj,rfl,rfl,ho⟩,hl⟩
section
variable {prog:Program}{w:World}{A:Around}{E:VP}{s:Shared}{K:FG}{x dx C f:Addr}{mA:Str->Option Value}{name:Str}{v:Value}
theorem get_map{expr:Bool}{Q:VP}(X:K.In s.heap)(I:ab6 s.heap x dx C mA)(hg:W.plainGet K C name=true)(hh:W.hasDictIn K C=true)
  (ha:W.findIn K (.ref C) name=some none)(hv:mA name=some v)(hv':W.handedIn v=true)(h:Q v {s with toks:=s.toks+1}) :
  wpAny (model prog w) A (getAttr (.ref x) name expr) Q E s:=by
 obtain⟨od,J,hl⟩:=I.look;exact W.get_value X J (W.plainGet_of hg).1 (W.findObj_own hh ha rfl (by rw[hl,hv])) hv' h
theorem zp{pl:Sem Bool}{Q:Value×List Value->Shared->Prop}(X:K.In s.heap)(I:ab6 s.heap x dx C mA)(hg:W.plainGet K C name=true)
  (hf:W.findIn K (.ref C) name=some (some (.ref f)))(ht:W.isFn K (.ref f)=true)(hv:mA name=none)(h:Q (.ref f,[.ref x]) s) :
  wpAny (model prog w) A (getMethod (.ref x) name pl) Q E s:=by
 obtain⟨od,J,hl⟩:=I.look;exact W.method_fn X J (W.plainGet_of hg).1 (W.plainGet_of hg).2 hf (beq_iff_eq.mp ht) (by show(W.lookIn name od).map (·.isSome)=some false;rw[hl,hv];rfl) h
theorem aal{ns:List Str}{Q:Unit->Shared->Prop}(X:K.In s.heap)(I:ab6 s.heap x dx C mA)
  (hs:W.findIn K (.ref C) "__setattr__" = some (some (.builtin "object.__setattr__")))(hp:W.plainOver K C=true)(ht:W.takerIn K C name=some none)(hh:W.hasDictIn K C=true)
  (hw:PySem.Within mA ns)(hsz:ns.length<=sizeLine)
  (h:∀ h',ab6 h' x dx C (λ y=>if y=name then some v else mA y)->Heap.SameBut dx s.heap h'->Q () {s with heap:=h',toks:=s.toks+2}) :
  wpAny (model prog w) A (setAttr (.ref x) name v) Q E s:=by
 obtain⟨od,J,hl⟩:=I.look;refine W.set_plain X J hs (W.osa_open (s:={s with toks:=s.toks+1}) (r:=none) X J hp ht λ b=>?_);obtain⟨cd,hc,hd'⟩:=W.any_some hh;have hx:s.heap.get? x=some ⟨.ref C,some dx,.plain,#[]⟩:=I.obj;refine wpAny_bind (wpAny_pure (wpAny_bind (wpAny_bind (wpAny_loadPart hx (wpAny_bind (W.Looks.here (s:={s with toks:=s.toks+1}) (W.looks_clsIn X hc) ?_))))));rw[hd'];refine wpAny_pure (a:=some dx) (wpAny_bind (wpAny_pure (wpAny_bind ?_)));refine wpAny_nsSet1 (s:={s with toks:=s.toks+1}) I.ns λ h' hn2 hs2=>?_;obtain⟨oD,esD,epD,hoD,hdD,hcD⟩:=hn2.count (PySem.Within.cons name v hw);refine wpAny_bind (wpAny_lookBehind hoD (by rw[hdD];exact pastItsLine_dict (Nat.le_trans hcD (by rw[List.length_cons];omega))) ?_);exact wpAny_pure (h _ ⟨(hs2.2 _ (Ne.symm I.ne)).trans I.obj,hn2,I.ne⟩ hs2)
theorem yt{R:Result->Shared->Prop}{vs:List Value}{kw:List (Str×Value)}(X:K.In s.heap)(hm:W.makesIn K C=true)
  (hi:W.findIn K (.ref C) "__init__" = some (some (.ref f)))(hf:W.typeIn K (.ref f)=some (.type "function"))
  (h:codeAny (model prog w) (A.under (.builtin "type.__call__" ⟨.ref C::vs,kw⟩)) (.call (.ref f) ⟨.ref (s.heap.objs.size+1)::vs,kw⟩) (W.InitBack (s.heap.objs.size+1) R)
   {s with heap:=(s.heap.push W.emptyDict).push (W.instObj C s.heap.objs.size)}) :
  codeAny (model prog w) A (.call (.ref C) ⟨vs,kw⟩) R s:=by
 obtain⟨hh,g,d,t,os⟩:=s;exact W.make_core (W.makes_of X hm) (W.looks_findIn X hi) (λ self=>W.bind_fn X self hf) (.inl rfl) h
end
def oN(f:Str)(v:V):List (Str×V)->List (Str×V)
 | []=>[(f,v)]
 | (g,x)::r=>if g=f then (g,v)::r else (g,x)::oN f v r
theorem kZ(f g:Str)(v:V):∀ fs:List (Str×V),(oN f v fs).lookup g=if g=f then some v else fs.lookup g
 | []=>by
  show List.lookup g [(f,v)]=_
  by_cases h:g=f
  ·have hb:(g==f)=true:=beq_iff_eq.mpr h;simp only[List.lookup,hb,if_pos h]
  ·have hb:(g==f)=false:=beq_eq_false_iff_ne.mpr h;simp only[List.lookup,hb,if_neg h]
 | (k,x)::r=>by
  have ih:=kZ f g v r;rw[show oN f v ((k,x)::r)=(if k=f then (k,v)::r else (k,x)::oN f v r) from rfl]
  by_cases hk:k=f
  ·rw[if_pos hk]
   by_cases h:g=k
   ·have hb:(g==k)=true:=beq_iff_eq.mpr h;simp only[List.lookup,hb,if_pos (h.trans hk)]
   ·have hb:(g==k)=false:=beq_eq_false_iff_ne.mpr h;simp only[List.lookup,hb,if_neg (λ e:g=f=>h (e.trans hk.symm))]
  ·rw[if_neg hk]
   by_cases h:g=k
   ·have hb:(g==k)=true:=beq_iff_eq.mpr h;simp only[List.lookup,hb,if_neg (λ e:g=f=>hk (h.symm.trans e))]
   ·have hb:(g==k)=false:=beq_eq_false_iff_ne.mpr h;simp only[List.lookup,hb];exact ih
theorem l7(f:Str)(v:V):∀ fs:List (Str×V),f∈(oN f v fs).map (·.1)/\∀ g,g∈fs.map (·.1)->g∈(oN f v fs).map (·.1)
 | []=>⟨by simp[oN],λ g h=>by simp at h⟩
 | (k,x)::r=>by
  obtain⟨i1,i2⟩:=l7 f v r;rw[show oN f v ((k,x)::r)=(if k=f then (k,v)::r else (k,x)::oN f v r) from rfl]
  by_cases hk:k=f
  ·rw[if_pos hk];subst hk;exact⟨by simp,λ g h=>by simpa using h⟩
  ·rw[if_neg hk];refine⟨?_,λ g h=>?_⟩
   ·rw[List.map_cons];exact List.mem_cons_of_mem _ i1
   ·rw[List.map_cons] at h ⊢;rcases List.mem_cons.mp h with e | e
    ·exact List.mem_cons.mpr (.inl e)
    ·exact List.mem_cons_of_mem _ (i2 g e)
theorem lU(f:Str)(v:V):∀ fs:List (Str×V),(oN f v fs).length<=fs.length+1
 | []=>by simp[oN]
 | (k,x)::r=>by
  have ih:=lU f v r;rw[show oN f v ((k,x)::r)=(if k=f then (k,v)::r else (k,x)::oN f v r) from rfl]
  by_cases hk:k=f
  ·rw[if_pos hk,List.length_cons,List.length_cons];omega
  ·rw[if_neg hk,List.length_cons,List.length_cons];omega
theorem mJ.some_of{v:V}{o:Option Value}(r:mJ (some v) o):∃ u,o=some u/\RelV v u:=by
 cases o with
 | none=>exact(show False from r).elim
 | some u=>exact⟨u,rfl,r⟩
theorem mJ.none_of{o:Option Value}(r:mJ none o):o=none:=by
 cases o with
 | none=>rfl
 | some u=>exact(show False from r).elim
theorem qE{v:V}{u:Value}(r:RelV v u):W.handedIn u=true:=by
 cases v with
 | non=>cases (show u=Value.none from r);rfl
 | bl b=>cases (show u=Value.bool b from r);rfl
 | int i=>obtain⟨t,e⟩:=(show ∃ t,u=Value.int i t from r);cases e;rfl
 | str x=>obtain⟨t,e⟩:=(show ∃ t,u=Value.str x t from r);cases e;rfl
 | byt b=>obtain⟨t,e⟩:=(show ∃ t,u=Value.bytes b t from r);cases e;rfl
 | flt b=>obtain⟨t,e⟩:=(show ∃ t,u=Value.float b t from r);cases e;rfl
 | ref a=>cases (show u=Value.ref a from r);rfl
 | ty n=>cases (show u=Value.type n from r);rfl
section
variable {P:Program}{w:World}{H H':Hp}{h h':Heap}{a C dx:Addr}{fs fs':List (Str×V)}
theorem rB(hok:HOk P w H h)(e:H a=some (.ins C dx fs)):∃ mA,ab6 h a dx C mA/\(∀ f,mJ (fs.lookup f) (mA f))/\PySem.Within mA (fs.map (·.1))/\fs.length<=1000/\H dx=some (.own a):=by obtain⟨d,z,ne,ob,mA,n,r,q⟩:=(show cD P w H h a (.ins C dx fs) from hok a _ e);exact⟨mA,⟨ob,n,ne⟩,r,q,z,d⟩
end
structure Cls(K:FG)(C:Addr):Prop where
 pg:W.plainGet K C Str.empty=true
 hd:W.hasDictIn K C=true
 po:W.plainOver K C=true
 sa:W.findIn K (.ref C) "__setattr__" = some (some (.builtin "object.__setattr__"))
theorem Cls.get{K:FG}{C:Addr}(c:Cls K C)(f:Str):W.plainGet K C f=true:=c.pg
def cx(K:FG)(C:Addr)(f:Str):Prop:=W.findIn K (.ref C) f=some none
theorem cx.afJ{K:FG}{C:Addr}{f:Str}(n:cx K C f):W.takerIn K C f=some none:=by
 unfold W.takerIn;rw[show W.findIn K (.ref C) f=some none from n];rfl
structure Meth(K:FG)(C:Addr)(m:Str)(f:Addr):Prop where
 at_:W.findIn K (.ref C) m=some (some (.ref f))
 fn:W.isFn K (.ref f)=true
 kp:W.keepIn K (.ref f)=true
section
variable {X:Cx}{pins:PN}{σ:St}{H:Hp}{s:Shared}{a C dx:Addr}{fs:List (Str×V)}{f:Str}{v:V}{A:Around}{E:VP}
theorem ua{b:Bool}{Q:VP}(I:Inv X pins σ H s)(e:H a=some (.ins C dx fs))(c:Cls X.K C)(n:cx X.K C f)(l:fs.lookup f=some v)
  (h:∀ u s',Inv X pins σ H s'->RelV v u->Q u s'):wpAny (model X.prog X.w) A (getAttr (.ref a) f b) Q E s:=by
 obtain⟨mA,O,r,_,_,_⟩:=rB I.hok e;obtain⟨u,hu,ru⟩:=mJ.some_of (v:=v) (o:=mA f) (by rw[<- l];exact r f);exact get_map I.kIn O (c.get f) c.hd n hu (qE ru) (h u _ (I.tok _) ru)
theorem fH{m:Str}{g:Addr}{pl:Sem Bool}{Q:Value×List Value->Shared->Prop}(I:Inv X pins σ H s)(e:H a=some (.ins C dx fs))(c:Cls X.K C)(k:Meth X.K C m g)(l:fs.lookup m=none)
  (h:Q (.ref g,[.ref a]) s):wpAny (model X.prog X.w) A (getMethod (.ref a) m pl) Q E s:=by
 obtain⟨mA,O,r,_,_,_⟩:=rB I.hok e;have hn:mA m=none:=mJ.none_of (by rw[<- l];exact r m);exact zp I.kIn O (c.get m) k.at_ k.fn hn h
theorem um{y:V}{u:Value}{Q:Unit->Shared->Prop}(I:Inv X pins σ H s)(e:H a=some (.ins C dx fs))(c:Cls X.K C)(n:cx X.K C f)(hl:fs.length<1000)(ry:RelV y u)
  (h:∀ s',Inv X pins σ (upd H a (.ins C dx (oN f y fs))) s'->Q () s'):wpAny (model X.prog X.w) A (setAttr (.ref a) f u) Q E s:=by
 obtain⟨mA,O,r,wi,_,ho⟩:=rB I.hok e;have hz:(fs.map (·.1)).length<=sizeLine:=by rw[List.length_map,sizeLine_eq];omega
 refine aal I.kIn O c.sa c.po n.afJ c.hd wi hz λ h' O' sb=>h _ ?_;have hd:∃ o,h'.get? dx=some o:=let ⟨o,_,_,e',_⟩:=O'.ns; ⟨o,e'⟩;refine I.write (x:=a) (e:=dx) (by rw[e];exact True.intro) (.inr ho) (λ b q hb z=>(sb.2 b hb).trans z) hd ?_;refine⟨by rw[au O.ne];exact ho,?_,O.ne,O'.obj,_,O'.ns,λ g=>?_,λ g hg=>?_⟩
 ·have:=lU f y fs;omega
 ·show mJ ((oN f y fs).lookup g) (if g=f then some u else mA g);rw[kZ]
  by_cases q:g=f
  ·rw[if_pos q,if_pos q];exact ry
  ·rw[if_neg q,if_neg q];exact r g
 ·by_cases q:g=f
  ·rw[q];exact(l7 f y fs).1
  ·refine(l7 f y fs).2 g (wi g λ z=>hg ?_);show(if g=f then some u else mA g)=none;rw[if_neg q];exact z
theorem Inv.made(I:Inv X pins σ H s):Inv X pins σ (upd (upd H s.heap.objs.size (.own (s.heap.objs.size+1))) (s.heap.objs.size+1) (.ins C s.heap.objs.size []))
  {s with heap:=(s.heap.push W.emptyDict).push (W.instObj C s.heap.objs.size)}:=by
 have e1:(s.heap.push W.emptyDict).get? s.heap.objs.size=some W.emptyDict:=Heap.get?_push_size s.heap rfl;have e2:((s.heap.push W.emptyDict).push (W.instObj C s.heap.objs.size)).get? (s.heap.objs.size+1)=some (W.instObj C s.heap.objs.size):=by
  have:=Heap.get?_push_size (s.heap.push W.emptyDict) (o:=W.instObj C s.heap.objs.size) rfl
  rwa[Heap.size_push] at this
 have e3:(s.heap.push W.emptyDict).Ns s.heap.objs.size (λ _=>none):=⟨W.emptyDict,#[],_,e1,rfl,(λ e he=>absurd he (by simp)),λ _=>rfl⟩;have I1:=I.laid (a:=s.heap.objs.size) (o:=.own (s.heap.objs.size+1)) (h':=s.heap.push W.emptyDict) (t':=s.toks) (λ b u q=>Heap.get?_push_of_some _ q) (Nat.le_refl _) ⟨_,e1⟩;refine I1.laid (a:=s.heap.objs.size+1) (o:=.ins C s.heap.objs.size []) (t':=s.toks) (λ b u q=>Heap.get?_push_of_some _ q) (Nat.le_of_eq (Heap.size_push _ _)) ?_;have ne:s.heap.objs.size≠s.heap.objs.size+1:=Nat.ne_of_lt (Nat.lt_succ_self _);refine⟨by rw[au ne,ax],Nat.zero_le _,ne,e2,λ _=>none,(Heap.Ns1.of_empty e3).at λ o q=>Heap.get?_push_of_some _ q,λ _=>True.intro,λ y hy=>absurd rfl hy⟩
theorem wu{prog:Program}{w:World}{env:Env}{e:Expr}{f:Str}{pos:Pos}{s:Shared}{Q:VP}(hb:attributeBase e f env (eval e env)=eval e env)
  (h:wpAny (model prog w) A (eval e env) (λ o s₁=>wpAny (model prog w) A (getAttr o f true) Q E s₁) E s):wpAny (model prog w) A (eval (.Attribute e f pos) env) Q E s:=
 Attribute_any_ h (by rw[arm_eval_Attribute,hb])
end
def ag6(K:FG)(ta:TE)(f:Str):TE:=λ σ H Q=>ta σ H λ x H1=>∃ a C dx fs v,x=.ref a/\H1 a=some (.ins C dx fs)/\Cls K C/\cx K C f/\fs.lookup f=some v/\Q v H1
def ag8(K:FG)(ta tv:TE)(f:Str):TS:=λ D σ H=>tv σ H λ y H1=>ta σ H1 λ x H2=>∃ a C dx fs,x=.ref a/\H2 a=some (.ins C dx fs)/\Cls K C/\cx K C f/\fs.length<1000 /\
 D.nx σ (upd H2 a (.ins C dx (oN f y fs)))
section
variable {X:Cx}{o e value:Expr}{f:Str}{pos pos' tpos:Pos}{ta tv:TE}
theorem aev(he:PE X e ta)(hb:attributeBase e f X.env (eval e X.env)=eval e X.env):PE X (.Attribute e f pos) (ag6 X.K ta f):=by intro pins s σ H Q I h;refine wu hb (thn (he pins s σ H _ I h) λ u s1 hq21=>?_);obtain⟨x,H1,I1,rx,a,C,dx,fs,v,ex,ea,c,n,l,q⟩:=hq21;subst ex;obtain rfl:u=Value.ref a:=rx;exact ua I1 ea c n l λ u' s2 I2 ru=>⟨v,H1,I2,ru,q⟩
theorem adk(ha:PE X o ta)(hv:PE X value tv)(hs:swapsWith value (some (.Attribute o f pos')) pos.line X.env=pure false):PS X (.Assign [.Attribute o f pos'] value pos) (ag8 X.K ta tv f):=by intro pins s σ H D I h;refine plainObj_wpAny_Assign_Attribute (thn (hv pins s σ H _ I h) λ u s1 ⟨y,H1,I1,ry,q⟩=>thn (ha pins s1 σ H1 _ I1 q) λ ov s2 ⟨x,H2,I2,rx,a,C,dx,fs,ex,ea,c,n,l,q2⟩=>?_) hs;subst ex;obtain rfl:ov=Value.ref a:=rx;exact um I2 ea c n l ry λ s3 I3=>⟨σ,_,I3,q2⟩
end
section
variable {X:Cx}{pins:PN}{σ:St}{H:Hp}{s:Shared}{A:Around}{E:VP}{Q:VP}{c:Value}{b:Bool}
end
structure dN(k:Nat)(A:Around):Prop where
 hd:A.handled=none
 gd:A.guards=some []
 dp:A.depth+3 * k+5<recursionLimit
 un:A.units+16 * k+200<cLine
theorem dN.mono{j k:Nat}{A:Around}(r:dN k A)(h:j<=k):dN j A:=⟨r.hd,r.gd,by have:=r.dp;omega,by have:=r.un;omega⟩
theorem dN.deeper{k:Nat}{A:Around}(r:dN (k+1) A)(env:Env):dN k (A.deeper env):=
 ⟨r.hd,r.gd,by have:=r.dp;show A.depth+1+3 * k+5<_;omega,by have:=r.un;show A.units+3+16 * k+200<_;omega⟩
theorem dN.in1{k:Nat}{A:Around}(r:dN (k+1) A):dN k A.in1:=
 ⟨r.hd,r.gd,by have:=r.dp;show A.depth+3 * k+5<_;omega,by have:=r.un;show A.units+1+16 * k+200<_;omega⟩
theorem nj{A:Around}{C:Addr}{us:List Value}{kw:List (Str×Value)}:(A.under (.builtin "type.__call__" ⟨.ref C::us,kw⟩)).depth=A.depth+1:=by
 first | rfl | simp[Around.under,Code.weight,Code.isCreation,Code.isGuard,Code.isCaller,Code.frames,Code.isFrame,guardIds]
theorem ny{A:Around}{C:Addr}{us:List Value}{kw:List (Str×Value)}:(A.under (.builtin "type.__call__" ⟨.ref C::us,kw⟩)).units=A.units+1:=by
 first | rfl | simp[Around.under,Code.cUnits,Code.frames,Code.isFrame]
theorem dN.make{k:Nat}{A:Around}(r:dN (k+1) A)(C:Addr)(us:List Value)(kw:List (Str×Value)):dN k (A.under (.builtin "type.__call__" ⟨.ref C::us,kw⟩)):=
 ⟨r.hd,(by first | exact r.gd | (simpa [Around.under,Code.isGuard,Code.frames,Code.isFrame,guardIds] using r.gd)),by have:=r.dp;rw[nj];omega,by have:=r.un;rw[ny];omega⟩
theorem dN.depth{k:Nat}{A:Around}(r:dN k A):A.depth<recursionLimit:=by have:=r.dp;omega
theorem dN.units{k:Nat}{A:Around}(r:dN k A):A.units+64<cLine:=by have:=r.un;omega
def agx:TA:=λ _ H Q=>Q [] H
def agi(ta:TE)(tr:TA):TA:=λ σ H Q=>ta σ H λ x H1=>tr σ H1 λ xs H2=>Q (x::xs) H2
section
variable {X:Cx}{e:Expr}{es:List Expr}{te:TE}{t:TA}{pos:Pos}
theorem zH:PA X [] agx:=λ _ _ _ _ H Q I h=>Calls.spliced_nil ⟨[],H,I,.nil,h⟩
theorem rf(ha:PE X e te)(hr:PA X es t)(hs:starEach (e::es) X.env=(false,eval e X.env)::starEach es X.env:=by rfl):PA X (e::es) (agi te t):=by intro pos pins s σ H Q I h;rw[hs];show wpAny _ _ (spliced ((false,eval e X.env)::backTo pos (starEach es X.env))) _ _ s;refine Calls.spliced_cons (thn (ha pins s σ H _ I h) λ u s1 hq22=>?_);obtain⟨x,H1,I1,r1,q1⟩:=hq22;exact thn (hr pos pins s1 σ H1 _ I1 q1) λ us s2 ⟨xs,H2,I2,r2,q2⟩=>⟨x::xs,H2,I2,.cons r1 r2,q2⟩
def ahr(t:TA):TE:=λ σ H Q=>t σ H λ xs H1=>xs.length<=sizeLine/\∀ p,H1 p=none->Q (.ref p) (upd H1 p (.tup xs))
def ahu(t:TA):TE:=λ σ H Q=>t σ H λ xs H1=>xs.length<=sizeLine/\∀ p,H1 p=none->Q (.ref p) (upd H1 p (.lst xs))
theorem aeo{x1}(h:PA X es t):PE X (.Tuple es x1 pos) (ahr t):=by intro pins s σ H Q I hq;refine wpAny_Tuple_spliced (thn (h pos pins s σ H _ I hq) λ us s1 ⟨xs,H1,I1,r,z,q⟩=>⟨by rw[<- r.length];exact z,?_⟩);have hf:H1 s1.heap.objs.size=none:=I1.hok.fresh (Nat.le_refl _);refine⟨.ref s1.heap.objs.size,upd H1 s1.heap.objs.size (.tup xs),I1.laid (t':=s1.toks) (λ b u e=>Heap.get?_push_of_some _ e) (Nat.le_refl _) ?_,rfl,q _ hf⟩;exact⟨z,us,r,aai.new _ _⟩
theorem zV(h:PA X es t):PE X (.List es pos) (ahu t):=by intro pins s σ H Q I hq;refine wpAny_List_spliced (thn (h pos pins s σ H _ I hq) λ us s1 ⟨xs,H1,I1,r,z,q⟩=>⟨by rw[<- r.length];exact z,?_⟩);have hf:H1 s1.heap.objs.size=none:=I1.hok.fresh (Nat.le_refl _);refine⟨.ref s1.heap.objs.size,upd H1 s1.heap.objs.size (.lst xs),I1.laid (t':=s1.toks) (λ b u e=>Heap.get?_push_of_some _ e) (Nat.le_refl _) ?_,rfl,q _ hf⟩;exact⟨z,us,0,r,Heap.get?_push_size _ rfl⟩
end
abbrev Sp:=List V->Hp->VK->XK->Prop
abbrev CXT:=List Env->Hp->Shared->XK->VP
structure uQ(P:Program)(w:World)(K:FG)(mg:Str->Option Value)(base:Heap)(A:Around)(outer:List Env)(s:Shared)(H:Hp):Prop where
 frames:A.frames=some outer
 mod:Mod K mg base
 bs:∀ b o,base.get? b=some o->s.heap.get? b=some o/\H b=none
 bsz:base.objs.size<=s.heap.objs.size
 ng:s.heap.FunFrames base outer
 frf:∀ b∈frs outer,H b=none
 hok:HOk P w H s.heap
 bare:AllBare s.gens
def CE(outer:List Env)(P:Program)(w:World)(H:Hp)(s:Shared)(Q:VK)(u:Value)(s':Shared):Prop:=
 ∃ v H',s'.os=s.os/\AllBare s'.gens/\Un (frs outer) [] H H' s.heap s'.heap/\HOk P w H' s'.heap/\RelV v u/\Q v H'
def CR(CX:CXT)(outer:List Env)(P:Program)(w:World)(H:Hp)(s:Shared)(Q:VK)(E:XK)(r:Result)(s':Shared):Prop:=
 match r with
 | .ok (.ret u)=>CE outer P w H s Q u s'
 | .ok _=>False
 | .error e=>CX outer H s E e s'
structure bH(P:Program)(w:World)(K:FG)(mg:Str->Option Value)(base:Heap)(CX:CXT)(k:Nat)(f:Addr)(fd:FuncData)(ps:List Str)(sp:Sp):Prop where
 len:∀ vs H Q E,sp vs H Q E->vs.length=ps.length
 run:∀ (A:Around) (outer:List Env) (s:Shared) (H:Hp) (args:Args) (us:List Value) (vs:List V) (Q:VK) (E:XK),dN k A->uQ P w K mg base A outer s H->BindsTo s fd args (ps.zip us)->Vals vs us->sp vs H Q E ->
  codeAny (model P w) A (.call (.ref f) args) (CR CX outer P w H s Q E) s
theorem bH.mono{P:Program}{w:World}{K:FG}{mg:Str->Option Value}{base:Heap}{CX:CXT}{j k:Nat}{f:Addr}{fd:FuncData}{ps:List Str}{sp:Sp}(F:bH P w K mg base CX j f fd ps sp)(h:j<=k) :
  bH P w K mg base CX k f fd ps sp:=⟨F.len,λ A outer s H args us vs Q E hr=>F.run A outer s H args us vs Q E (hr.mono h)⟩
theorem uQ.make{P:Program}{w:World}{K:FG}{mg:Str->Option Value}{base:Heap}{A:Around}{outer:List Env}{s:Shared}{H:Hp}(e:uQ P w K mg base A outer s H)(C:Addr)(us:List Value)(kw:List (Str×Value)) :
  uQ P w K mg base (A.under (.builtin "type.__call__" ⟨.ref C::us,kw⟩)) outer s H:=⟨by first | exact e.frames | (simpa [Around.under,Code.envs,Code.isFrame,pushEnvs] using e.frames),e.mod,e.bs,e.bsz,e.ng,e.frf,e.hok,e.bare⟩
theorem uQ.in1{P:Program}{w:World}{K:FG}{mg:Str->Option Value}{base:Heap}{A:Around}{outer:List Env}{s:Shared}{H:Hp}(e:uQ P w K mg base A outer s H) :
  uQ P w K mg base A.in1 outer s H:=⟨e.frames,e.mod,e.bs,e.bsz,e.ng,e.frf,e.hok,e.bare⟩
section
variable {X:Cx}{pins:PN}{σ:St}{H:Hp}{s s':Shared}
theorem Inv.aaD(I:Inv X pins σ H s):uQ X.prog X.w X.K X.mg X.base X.A X.stack s H:=
 ⟨I.ok.frames,I.ok.mod,I.bs,Nat.le_trans I.ok.bsz I.sz,I.stack,I.qZ,I.hok,I.bare⟩
theorem Inv.after{Q:VK}{u:Value}(I:Inv X pins σ H s)(h:CE X.stack X.prog X.w H s Q u s'):EP X pins σ Q u s':=by obtain⟨v,H',os,bare,un,hok,r,q⟩:=h;obtain⟨hh,g,d,t,os'⟩:=s';obtain rfl:os'=s.os:=os;exact⟨v,H',I.call (h':=hh) (g':=g) (d':=d) (t':=t) (ch:=[]) un hok bare (λ b z=>absurd z (by simp)),r,q⟩
end
def ac4(sp:Sp)(dvs:List V)(E:XK)(t:TA):TE:=λ σ H Q=>t σ H λ vs H1=>sp (vs++dvs) H1 Q E
def aaI(C:Addr)(m:Str)(sp:Sp)(dvs:List V)(E:XK)(ta:TE)(t:TA):TE:=λ σ H Q=>ta σ H λ x H1=>∃ a dx fs,x=.ref a/\H1 a=some (.ins C dx fs)/\fs.lookup m=none /\
 t σ H1 λ vs H2=>sp (x::(vs++dvs)) H2 Q E
def Binds(K:FG)(fd:FuncData)(ps:List Str)(ds:List Value):Prop:=
 ∀ (s:Shared) (us:List Value),K.In s.heap->(us++ds).length=ps.length->BindsTo s fd ⟨us,[]⟩ (ps.zip (us++ds))
theorem Binds.all{K:FG}{fd:FuncData}{ps:List Str}(h:∀ us:List Value,us.length=ps.length->bindArgs fd ⟨us,[]⟩=pure (ps.zip us)):Binds K fd ps []:=λ s us _ hl=>by rw[List.append_nil] at hl ⊢;exact .of_eq (h us hl)
def Passes(CX:CXT)(X:Cx)(E:XK):Prop:=∀ (pins:PN) (σ:St) (H:Hp) (s:Shared) (e:Value) (s':Shared),Inv X pins σ H s->CX X.stack H s E e s'->X.xe e s'
section
variable {X:Cx}{CX:CXT}{k:Nat}{f C:Addr}{fd:FuncData}{ps:List Str}{sp:Sp}{dvs:List V}{ds:List Value}{E:XK}{x m:Str}{p pos apos:Pos}{e o:Expr}{es:List Expr}{ta:TE}{t:TA}
theorem sY{pins:PN}{σ:St}{H:Hp}{s:Shared}{Q:VK}{us:List Value}{vs:List V}(F:bH X.prog X.w X.K X.mg X.base CX k f fd ps sp)(hr:dN k X.A)(hb:Binds X.K fd ps ds)(hd:Vals dvs ds)(hx:Passes CX X E)
  (I:Inv X pins σ H s)(r:Vals vs us)(h:sp (vs++dvs) H Q E):wpAny (model X.prog X.w) X.A (call (.ref f) us) (EP X pins σ Q) X.xe s:=by
 have r2:Vals (vs++dvs) (us++ds):=r.append hd;have hl:(us++ds).length=ps.length:=by rw[<- r2.length];exact F.len _ _ _ _ h
 refine wpAny_call (codeAny_mono (F.run X.A X.stack s H ⟨us,[]⟩ (us++ds) (vs++dvs) Q E hr I.aaD (hb s us I.kIn hl) r2 h) λ r s' hq=>?_);cases r with
 | error e=>exact hx pins σ H s e s' I hq
 | ok fl =>
  cases fl with
  | ret u=>exact I.after hq
  | next=>exact False.elim hq
  | brk=>exact False.elim hq
  | cont=>exact False.elim hq
theorem aaP(F:bH X.prog X.w X.K X.mg X.base CX k f fd ps sp)(hr:dN k X.A)(hg:Gl X x)(hm:X.mg x=some (.ref f))(hk:W.keepIn X.K (.ref f)=true)(hb:Binds X.K fd ps ds)(hd:Vals dvs ds)(hx:Passes CX X E)
  (ha:PA X (e::es) t)(hdb:ND x:=by decide)(he:starEach (e::es) X.env=(false,eval e X.env)::starEach es X.env:=by rfl)(hpl:(backTo pos (starEach es X.env)).any (·.1)=false:=by rfl) :
  PE X (.Call (.Name x p) (e::es) [] pos) (ac4 sp dvs E t):=by
 intro pins s σ H Q I h;refine wpAny_Call_Name_kw (gL I hg hm ?_ hdb);refine W.callWith_K (h₀:=X.base) I.ok.mod.kin hk (thn (ha pos pins s σ H _ I h) λ us s1 ⟨vs,H1,I1,r,q⟩=>⟨I1.kIn,?_⟩) he hpl;exact sY F hr hb hd hx I1 r q
theorem aaA{pl:Sem Bool}(he:PE X o ta)(c:Cls X.K C)(hm:Meth X.K C m f)(F:bH X.prog X.w X.K X.mg X.base CX k f fd ps sp)(hr:dN k X.A)(hb:Binds X.K fd ps ds)(hd:Vals dvs ds)(hx:Passes CX X E)(ha:PA X (e::es) t)
  (hst:starEach (e::es) X.env=(false,eval e X.env)::starEach es X.env:=by rfl)(hpl:(backTo pos (starEach es X.env)).any (·.1)=false:=by rfl)
  (ht:eval (.Call (.Attribute o m apos) (e::es) [] pos) X.env=(do
   let ov <- eval o X.env
   standAt apos.atName
   let (f,first) <- holding [ov] (getMethod ov m pl)
   callWith pos f first (backTo pos (starEach (e::es) X.env)) (backToKw pos (keywordEach [] X.env))):=by rfl) :
  PE X (.Call (.Attribute o m apos) (e::es) [] pos) (aaI C m sp dvs E ta t):=by
 intro pins s σ H Q I h;refine W.methodCall_KW (pl:=pl) (thn (he pins s σ H _ I h) λ u s1 ⟨x,H1,I1,rx,a,dx,fs,ex,ea,l,q⟩=>?_) ht;subst ex;obtain rfl:u=Value.ref a:=rx;refine fH I1 ea c hm l ?_;refine W.callWith_K (first:=[.ref a]) (h₀:=X.base) I.ok.mod.kin hm.kp (thn (ha pos pins s1 σ H1 _ I1 q) λ us s2 ⟨vs,H2,I2,r,q2⟩=>⟨I2.kIn,?_⟩) hst hpl
 exact sY (us:=.ref a::us) (vs:=.ref a::vs) F hr hb hd hx I2 (.cons rfl r) q2
theorem yM{pl:Sem Bool}(he:PE X o ta)(c:Cls X.K C)(hm:Meth X.K C m f)(F:bH X.prog X.w X.K X.mg X.base CX k f fd ps sp)(hr:dN k X.A)(hb:Binds X.K fd ps ds)(hd:Vals dvs ds)(hx:Passes CX X E)
  (ht:eval (.Call (.Attribute o m apos) [] [] pos) X.env=(do
   let ov <- eval o X.env
   standAt apos.atName
   let (f,first) <- holding [ov] (getMethod ov m pl)
   callWith pos f first (backTo pos (starEach [] X.env)) (backToKw pos (keywordEach [] X.env))):=by rfl) :
  PE X (.Call (.Attribute o m apos) [] [] pos) (aaI C m sp dvs E ta agx):=by
 intro pins s σ H Q I h;refine W.methodCall_KW (pl:=pl) (thn (he pins s σ H _ I h) λ u s1 ⟨x,H1,I1,rx,a,dx,fs,ex,ea,l,q⟩=>?_) ht;subst ex;obtain rfl:u=Value.ref a:=rx;refine fH I1 ea c hm l ?_;exact W.callWith_K0 (first:=[.ref a]) I1.kIn hm.kp (sY (us:=[.ref a]) (vs:=[.ref a]) F hr hb hd hx I1 (.cons rfl .nil) q)
structure Mk(K:FG)(C f:Addr):Prop where
 makes:W.makesIn K C=true
 init:W.findIn K (.ref C) "__init__" = some (some (.ref f))
 fn:W.isFn K (.ref f)=true
 kp:W.keepIn K (.ref C)=true
end
section
variable {X:Cx}{CX:CXT}{k:Nat}{f C:Addr}{fd:FuncData}{ps ks:List Str}{sp:Sp}{E:XK}{x m:Str}{p pos apos kpos:Pos}{e o:Expr}{es:List Expr}{kws:List Keyword}{te ta:TE}{t tk:TA}{nm:Option Str}
variable {g:List Value->List Value->List Value}{gV:List V->List V->List V}
end
structure aJ(N P:List Str)(sc:Scope):Prop where
 kind:sc.kind=.function
 co:sc.isCoroutine=false
 gen:sc.isGenerator=false
 nd:N.Nodup
 pre:N.take P.length=P
 par:∀ x∈P,sc.names.lookup x=some .local\/sc.names.lookup x=some .cell
 nofree:∀ y∈sc.names,y.2 ≠ .free
theorem o7{kindOf:Str->Option NameKind}{x:Str}:∀ {binds:List (Str×Value)} {m:Str->Option Value},(∀ v,(x,v) ∉ binds)->bindL kindOf binds m x=m x
 | [],_,_=>rfl
 | (n,v)::r,m,h=>by
  unfold bindL;rw[o7 λ w hw=>h w (List.mem_cons_of_mem _ hw)]
  split
  ·have:x≠n:=by rintro rfl;exact h v List.mem_cons_self
   simp[this]
  ·rfl
theorem qI{kindOf:Str->Option NameKind}{x:Str}:∀ {binds:List (Str×Value)} {m:Str->Option Value},(∀ v,(x,v) ∉ binds)->bindC kindOf binds m x=m x
 | [],_,_=>rfl
 | (n,v)::r,m,h=>by
  unfold bindC;rw[qI λ w hw=>h w (List.mem_cons_of_mem _ hw)]
  split
  ·rfl
  ·have:x≠n:=by rintro rfl;exact h v List.mem_cons_self
   simp[this]
theorem qJ{kindOf:Str->Option NameKind}{x:Str}{v:Value}:∀ {P:List Str} {vs:List Value} {i:Nat} {m:Str->Option Value},P.Nodup->P[i]? =some x->vs[i]? =some v->kindOf x=some .local ->
  bindL kindOf (P.zip vs) m x=some v
 | [],_,_,_,_,h,_,_=>by simp at h
 | _::_,[],_,_,_,_,h,_=>by simp at h
 | p::P,w::vs,0,m,nd,h1,h2,hk=>by simp at h1 h2;subst h1;subst h2;show bindL kindOf ((p,w)::P.zip vs) m p=_;unfold bindL;rw[o7 λ v hv=>(List.nodup_cons.mp nd).1 (List.of_mem_zip hv).1,if_pos hk];simp
 | p::P,w::vs,i+1,m,nd,h1,h2,hk=>by show bindL kindOf ((p,w)::P.zip vs) m x=_;unfold bindL;exact qJ (i:=i) (List.nodup_cons.mp nd).2 (by simpa using h1) (by simpa using h2) hk
theorem qN{kindOf:Str->Option NameKind}{x:Str}{v:Value}:∀ {P:List Str} {vs:List Value} {i:Nat} {m:Str->Option Value},P.Nodup->P[i]? =some x->vs[i]? =some v->kindOf x≠some .local ->
  bindC kindOf (P.zip vs) m x=some v
 | [],_,_,_,_,h,_,_=>by simp at h
 | _::_,[],_,_,_,_,h,_=>by simp at h
 | p::P,w::vs,0,m,nd,h1,h2,hk=>by simp at h1 h2;subst h1;subst h2;show bindC kindOf ((p,w)::P.zip vs) m p=_;unfold bindC;rw[qI λ v hv=>(List.nodup_cons.mp nd).1 (List.of_mem_zip hv).1,if_neg hk];simp
 | p::P,w::vs,i+1,m,nd,h1,h2,hk=>by show bindC kindOf ((p,w)::P.zip vs) m x=_;unfold bindC;exact qN (i:=i) (List.nodup_cons.mp nd).2 (by simpa using h1) (by simpa using h2) hk
def start(N:List Str)(vs:List V):St:=vs.map some++List.replicate (N.length-vs.length) none
def qR(CX:CXT)(P:Program)(w:World)(K:FG)(mg:Str->Option Value)(base:Heap)(N:List Str)(qual:Str)(scope:Scope)(f:Addr)(cd:Value)(A:Around)(outer:List Env)(s:Shared)(H:Hp)(E:XK):Cx where
 prog:=P
 w:=w
 K:=K
 mg:=mg
 base:=base
 A:=A.deeper (envOfC qual scope s.heap.objs.size f cd)
 N:=N
 s₀:=s
 H₀:=H
 env:=envOfC qual scope s.heap.objs.size f cd
 outer:=outer
 stack:=envOfC qual scope s.heap.objs.size f cd::outer
 ex:=[]
 calm:=true
 fn:=λ _=>true
 pn:=[]
 xe:=λ e s'=>wpAny (model P w) (A.deeper (envOfC qual scope s.heap.objs.size f cd)) (leaving (envOfC qual scope s.heap.objs.size f cd) e) (λ _ s''=>CX outer H s E e s'') (λ e' s''=>CX outer H s E e' s'') s'
theorem sW{sc:Scope}{n:Nat}{x:Str}(h:sc.names.lookup x=some .cell):∃ c,(cellsFrom n sc.names []).lookup x=some c:=by have q:=W.cellsFrom_some sc.names n [] (.inl h);exact Option.isSome_iff_exists.mp q
theorem o9{CX:CXT}{P:Program}{w:World}{K:FG}{mg:Str->Option Value}{base:Heap}{N ps:List Str}{qual:Str}{scope:Scope}{f:Addr}{cd:Value}{A:Around}{outer:List Env}{s s1:Shared}{H:Hp}{E:XK}{us:List Value}{vs:List V}
  (S:aJ N ps scope)(hd:A.handled=none)(e0:uQ P w K mg base A outer s H)(hl:vs.length=ps.length)(r:Vals vs us)
  (x:InCallC s s.heap.objs.size (bindL (envOfC qual scope s.heap.objs.size f cd).kindOf (ps.zip us) λ _=>none) (cellsFrom (s.heap.objs.size+1) scope.names []) (bindC (envOfC qual scope s.heap.objs.size f cd).kindOf (ps.zip us) λ _=>none) s1) :
  Inv (qR CX P w K mg base N qual scope f cd A outer s H E) [] (start N vs) H s1:=by
 have hpl:ps.length<=N.length:=by have:=congrArg List.length S.pre;rw[List.length_take] at this;omega
 obtain⟨h1,tk,rfl,hk⟩:=x.done;have noA:∀ b:Addr,b ∉ (qR CX P w K mg base N qual scope f cd A outer s H E).ex:=λ b z=>absurd (show b∈([]:List Addr) from z) (by simp);refine⟨⟨e0.mod,S.kind,rfl,rfl,Nat.le_refl _,λ y z c h1 h2=>?_,λ y hy=>?_,λ y c _ h=>?_,λ _=>hd,Around.frames_deeper e0.frames,.inr ⟨rfl,rfl⟩,λ b z=>absurd z (noA b),e0.bs,e0.bsz,λ b _ _=>noA b,λ b z=>absurd z (noA b),e0.ng,e0.frf⟩,
  rfl,e0.bare,Un.kept hk,⟨_,x.toInCall.ns,λ i y v h1 h2 h3=>?_⟩,λ y c h=>⟨_,x.cell y c h⟩,e0.hok.fresh (Nat.le_refl _),λ y c h=>?_,λ p hp=>absurd (show p∈([]:PN) from hp) (by simp),e0.hok.kept hk,?_⟩
 ·exact name_of_addr x.apart (PySem.mem_of_lookup h1) (PySem.mem_of_lookup h2)
 ·have hy:scope.names.lookup y=some .cell\/scope.names.lookup y=some .free:=hy;rcases hy with hy | hy
  ·exact sW hy
  ·exact absurd rfl (S.nofree _ (PySem.mem_of_lookup hy))
 ·exact Nat.le_of_lt (x.above y c (PySem.mem_of_lookup h))
 ·have hi:i<vs.length:=by
   unfold start at h2
   by_cases hi:i<vs.length
   ·exact hi
   ·rw[List.getElem?_append_right (by simpa using hi)] at h2;rw[List.getElem?_replicate] at h2
    split at h2<;>cases h2
  have ha:vs[i]? =some v:=by
   unfold start at h2;rw[List.getElem?_append_left (by simpa using hi),List.getElem?_map] at h2;cases e:vs[i]? with
   | none=>rw[e] at h2;cases h2
   | some a=>rw[e] at h2;cases h2;rfl
  obtain⟨u,hu,rv⟩:=r.get ha;have hp:ps[i]? =some y:=by rw[<- S.pre,List.getElem?_take_of_lt (by omega)];exact h1
  have ndP:ps.Nodup:=by rw[<- S.pre];exact S.nd.sublist (List.take_sublist _ _)
  refine⟨u,rv,?_⟩;rcases S.par y (List.mem_of_getElem? hp) with k | k
  ·exact .inl ⟨k,qJ ndP hp hu k⟩
  ·obtain⟨c,e⟩:=sW (n:=s.heap.objs.size+1) k;refine .inr ⟨.inl k,c,e,?_⟩;have q:=x.cell y c e;rw[qN ndP hp hu (by show scope.names.lookup y≠_;rw[k];decide)] at q;exact q
 ·exact e0.hok.fresh (Nat.le_of_lt (x.above y c (PySem.mem_of_lookup h)))
 ·unfold start;show _=N.length;rw[List.length_append,List.length_map,List.length_replicate];omega
theorem adT{CX:CXT}{P:Program}{w:World}{K:FG}{mg:Str->Option Value}{base:Heap}{k:Nat}{f:Addr}{name qual:Str}{params:Arguments}{body:List Stmt}{scope:Scope}{dV kV doc pm cdv ct oc:Value}{an od:Option Addr}
  {osl:Array (Option Value)}{N ps:List Str}{sp:Sp}(lk:K.lookup f=some ⟨oc,od,.func (W.fnOf name qual params body scope dV kV doc pm an cdv ct),osl⟩)(hcd:W.codeIn K cdv qual=true)(S:aJ N ps scope)
  (len:∀ vs H Q E,sp vs H Q E->vs.length=ps.length)
  (hbody:∀ (A:Around) (outer:List Env) (s:Shared) (H:Hp) (vs:List V) (Q:VK) (E:XK),dN k (A.deeper (envOfC qual scope s.heap.objs.size f cdv))->sp vs H Q E ->
   ∃ t,PSs (qR CX P w K mg base N qual scope f cdv A outer s H E) body t/\t {nx:=λ _ H'=>Q .non H',rt:=Q} (start N vs) H) :
  bH P w K mg base CX (k+1) f (W.fnOf name qual params body scope dV kV doc pm an cdv ct) ps sp:=by
 refine⟨len,λ A outer s H args us vs Q E hr e0 hb r hsp=>?_⟩;have hl:=len _ _ _ _ hsp;have KX:K.In s.heap:=e0.mod.kin.keeps λ b o e=>(e0.bs b o e).1;have lim:s.heap.NoLimit:=e0.mod.nolimit.keeps λ b o e=>(e0.bs b o e).1;have hkind:∀ y∈ps.zip us,scope.names.lookup y.1=some .local\/(scope.names.lookup y.1=some .cell/\((cellsFrom (s.heap.objs.size+1) scope.names []).lookup y.1).isSome=true):=λ⟨n,v⟩ hy=>by
  rcases S.par n (List.of_mem_zip hy).1 with q | q
  ·exact .inl q
  ·exact .inr ⟨q,W.cellsFrom_some _ _ _ (.inl q)⟩
 refine codeAny_call_function hr.depth (KX _ _ lk) rfl S.co S.gen rfl (W.codeRec_of KX hcd) (hb _ _ _ _ ?_);refine wpAny_newFunctionEnv_cells S.kind hkind λ env he s1 x=>?_;subst he;refine⟨lim.keeps x.toInCall.keep,codeAny_func ?_⟩;obtain⟨t,ht,hq⟩:=hbody A outer s H vs Q E (hr.deeper _) hsp;have I:Inv (qR CX P w K mg base N qual scope f cdv A outer s H E) [] (start N vs) H s1:=o9 S hr.hd e0 hl r x;refine wpAny_mono (ht [] s1 (start N vs) H _ I hq) (λ fl s' hs=>?_) λ e s' hs=>hs;have fin:∀ {σ':St} {H':Hp} {v:V} {u:Value},Inv (qR CX P w K mg base N qual scope f cdv A outer s H E) [] σ' H' s'->RelV v u->Q v H'->CE outer P w H s Q u s':=
  λ {σ' H' v u} J rv q=>⟨v,H',J.os,J.bare,J.base,J.hok,rv,q⟩
 cases fl with
 | ret u =>
  obtain⟨v,σ',H',J,rv,q⟩:=hs;exact fin J rv q
 | next =>
  obtain⟨σ',H',J,q⟩:=hs;exact fin (v:=V.non) (u:=Value.none) J rfl q
 | brk =>
  obtain⟨_,_,_,q⟩:=hs;exact False.elim q
 | cont =>
  obtain⟨_,_,_,q⟩:=hs;exact False.elim q
section
variable {X:Cx}{x:Str}{p pos:Pos}{e:Expr}{es:List Expr}{t:TA}{id T:String}{r:List V->Hp->VK->Prop}
def tCB(r:List V->Hp->VK->Prop)(t:TA):TE:=λ σ H Q=>t σ H λ vs H1=>r vs H1 Q
theorem sQ(hc:dZ X (.builtin id) r)(hg:Gl X x)(hm:X.mg x=none)(hv:bootBuiltins x=some (.builtin id))(ha:PA X (e::es) t)(hn:x ≠ "__name__":= by decide)(hdb:ND x:=by decide)
  (he:starEach (e::es) X.env=(false,eval e X.env)::starEach es X.env:=by rfl)(hpl:(backTo pos (starEach es X.env)).any (·.1)=false:=by rfl):PE X (.Call (.Name x p) (e::es) [] pos) (tCB r t):=by
 intro pins s σ H Q I h;refine wpAny_Call_Name_kw (nB I hg hm hv ?_ hn hdb);exact PyProof.Rows.callWith_builtin1 (thn (ha pos pins s σ H _ I h) λ us s1 ⟨vs,H1,I1,r1,q1⟩=>hc pins s1 σ H1 vs us Q I1 r1 q1) he hpl
theorem v7(hc:dZ X (.type T) r)(hg:Gl X x)(hm:X.mg x=none)(hv:bootBuiltins x=some (.type T))(ha:PA X (e::es) t)(hn:x ≠ "__name__":= by decide)(hdb:ND x:=by decide)
  (he:starEach (e::es) X.env=(false,eval e X.env)::starEach es X.env:=by rfl)(hpl:(backTo pos (starEach es X.env)).any (·.1)=false:=by rfl):PE X (.Call (.Name x p) (e::es) [] pos) (tCB r t):=by
 intro pins s σ H Q I h;refine wpAny_Call_Name_kw (nB I hg hm hv ?_ hn hdb);exact PyProof.Rows.callWith_type1 (thn (ha pos pins s σ H _ I h) λ us s1 ⟨vs,H1,I1,r1,q1⟩=>hc pins s1 σ H1 vs us Q I1 r1 q1) he hpl
end
end L2
namespace HT
open PySem PyProof.Rows
section
open PySem.SeqAt
open PySem.AutoSeq1 (wpAny_loadPart')
open PySem.MeetsSeq PySem.MeetsSeq2 PySem.MeetsSeq3
end
section
variable {prog:Program}{w:World}{A:Around}{E:VP}{s:Shared}
def sIx(n d:Nat):Option Int->Nat
 | none=>d
 | some v=>if v<0 then (v+(n:Int)).toNat else min v.toNat n
theorem acB(n d:Nat)(hd:d<=n)(o:Option Int):sIx n d o<=n:=by
 cases o with
 | none=>exact hd
 | some v =>
  show(if v<0 then (v+(n:Int)).toNat else min v.toNat n)<=n
  by_cases hv:v<0
  ·rw[if_pos hv];omega
  ·rw[if_neg hv];exact Nat.min_le_right _ _
theorem vM(v:Int)(n d:Nat):(if v<0 then max (v+(n:Int)) 0 else min v (n:Int))=((sIx n d (some v):Nat):Int):=by
 show(if v<0 then max (v+(n:Int)) 0 else min v (n:Int))=(((if v<0 then (v+(n:Int)).toNat else min v.toNat n):Nat):Int)
 by_cases hv:v<0
 ·simp only[if_pos hv];omega
 ·simp only[if_neg hv];omega
theorem uE(lo hi:Option Int)(n:Nat):Builtin.Slice.sliceAdjust lo hi 1 (n:Int)=(((sIx n 0 lo:Nat):Int),((sIx n n hi:Nat):Int)):=by
 have h1:¬ ((1:Int)<0):=by omega
 unfold Builtin.Slice.sliceAdjust;simp only[h1,if_false];refine Prod.ext ?_ ?_
 ·cases lo with
  | none=>rfl
  | some v=>exact vM v n 0
 ·cases hi with
  | none=>rfl
  | some v=>exact vM v n n
theorem uD(i j:Nat):Builtin.Slice.slicePlaces (i:Int) (j:Int) 1=j-i:=by
 unfold Builtin.Slice.slicePlaces;have h1:(1:Int) > 0:=by omega
 simp only[h1,if_true,Int.ediv_one]
 split<;>omega
theorem mM{v:Value}{o:Option Int}{Q:Option Int->Shared->Prop}(p:IsPart v o)(h:Q o s):wpAny (model prog w) A (Builtin.Slice.slicePartIndex v) Q E s:=by
 cases p with
 | none=>exact slicePart_none h
 | int i t=>exact slicePart_int h
theorem ku{sl:Addr}{vl vu:Value}{lo hi:Option Int}{n:Nat}{Q:Int×Int×Nat->Shared->Prop}(hs:s.heap.IsSliceOf sl vl vu .none)(pl:IsPart vl lo)(pu:IsPart vu hi)
  (h:Q (((sIx n 0 lo:Nat):Int),1,sIx n n hi-sIx n 0 lo) s):wpAny (model prog w) A (Builtin.Slice.sliceApplied (.ref sl) (pure (n:Int))) Q E s:=by
 obtain⟨os,hos,hcs,hds⟩:=id hs;unfold Builtin.Slice.sliceApplied Builtin.Slice.sliceFields;refine wpAny_bind (wpAny_bind (wpAny_field hos hds (x:=vl) rfl (wpAny_bind (wpAny_field hos hds (x:=vu) rfl (wpAny_bind (wpAny_field hos hds (x:=.none) rfl (wpAny_pure ?_)))))));refine wpAny_bind (slicePart_none ?_);show wpAny _ _ (if ((1:Int)==0)=true then _ else _) _ _ s;rw[if_neg (by decide)];refine wpAny_bind (mM pl (wpAny_bind (mM pu (wpAny_bind (wpAny_pure ?_)))));show wpAny _ _ (match Builtin.Slice.sliceAdjust lo hi 1 (n:Int) with | (lo,hi)=>pure (lo,(1:Int),Builtin.Slice.slicePlaces lo hi 1)) _ _ s
 rw[uE lo hi n];show wpAny _ _ (pure (((sIx n 0 lo:Nat):Int),(1:Int),Builtin.Slice.slicePlaces ((sIx n 0 lo:Nat):Int) ((sIx n n hi:Nat):Int) 1)) _ _ s;rw[uD];exact wpAny_pure h
theorem yW(xs:Array Value)(i k:Nat):((List.range k).filterMap λ(m:Nat)=>xs[((i:Int)+(m:Int) * 1).toNat]?).toArray=((xs.toList.drop i).take k).toArray:=by
 have e:(λ(m:Nat)=>xs[((i:Int)+(m:Int) * 1).toNat]?)=λ m=>xs[i+m]?:=by
  funext m;have:((i:Int)+(m:Int) * 1).toNat=i+m:=by omega
  rw[this]
 rw[e];have:=pick_run xs i k;rw[List.filterMap_map] at this;have e2:((λ x=>xs[x]?) ∘ λ x=>i+x)=λ m=>xs[i+m]?:=rfl;rw[e2] at this;rw[this]
theorem jy{t sl:Addr}{items:Array Value}{vl vu:Value}{lo hi:Option Int}{Q:VP}(ht:IsTup s.heap t items)(hs:s.heap.IsSliceOf sl vl vu .none)(pl:IsPart vl lo)(pu:IsPart vu hi)
  (hw:¬ (sIx items.size 0 lo=0/\sIx items.size items.size hi=items.size))
  (h:Q (.ref s.heap.objs.size) {s with heap:=s.heap.push {cls:=.type "tuple",data:=.seq ((items.toList.drop (sIx items.size 0 lo)).take (sIx items.size items.size hi-sIx items.size 0 lo)).toArray}})
  (hsz:items.size<=sizeLine):wpAny (model prog w) A (getItem (.ref t) (.ref sl)) Q E s:=by
 have htake:sizeOk (.seq ((items.toList.drop (sIx items.size 0 lo)).take (sIx items.size items.size hi-sIx items.size 0 lo)).toArray):=by show((items.toList.drop (sIx items.size 0 lo)).take (sIx items.size items.size hi-sIx items.size 0 lo)).toArray.size<=sizeLine;rw[List.size_toArray,List.length_take,List.length_drop,Array.length_toList];omega
 have hj:sIx items.size items.size hi<=items.size:=acB _ _ (Nat.le_refl _) hi;obtain⟨os,hos,hcs,hds⟩:=id hs;have hTs:s.TypeIs (.ref sl) "slice":= ⟨os,hos,hcs⟩;unfold getItem
 try with_reducible refine wpAny_holding ?_
 first | refine wpAny_bind (wpAny_pure ?_) | skip
 refine wpAny_bind (wpAny_sequenceKey ht.typeIs (by decide) ?_);refine wpAny_bind (wpAny_callSpecial?_slot (name:=Str.ofString "__getitem__") ht.typeIs PyProof.Rows.slot_tuple_getitem
  (wpAny_call_entry PyProof.Rows.slot_tuple_getitem ht.typeIs entry_tuple_getitem ?_ (args_tuple_getitem _ _)))
 show wpAny _ _ (Builtin.Tuple.tupleItemsOf (.ref t) >>= _) _ _ s;refine wpAny_bind (tupleItemsOf_ ht ?_);refine wpAny_bind (wpAny_typeOf hTs ?_);rw[if_pos (by decide)];refine wpAny_bind (ku hs pl pu ?_);have hno:¬ ((((sIx items.size 0 lo:Nat):Int)==0&&(1:Int)==1&&(sIx items.size items.size hi-sIx items.size 0 lo)==items.size)=true):=by intro q;rw[Bool.and_eq_true,Bool.and_eq_true] at q;have q1:((sIx items.size 0 lo:Nat):Int)=0:=eq_of_beq q.1.1;have q2:sIx items.size items.size hi-sIx items.size 0 lo=items.size:=eq_of_beq q.2;exact hw ⟨by omega,by omega⟩
 show wpAny _ _ (if (((sIx items.size 0 lo:Nat):Int)==0&&(1:Int)==1&&(sIx items.size items.size hi-sIx items.size 0 lo)==items.size)=true then _ else _) _ _ s;rw[if_neg hno,yW]
 first
  | exact wpAny_bind (m:=Builtin.Tuple.tupleExact _) (wpAny_newObj_type (wpAny_pure ⟨_,rfl,wpAny_pure h⟩) htake)
  | exact wpAny_bind (m:=Builtin.Tuple.tupleExact _) (wpAny_newObj_type (wpAny_bind (wpAny_pure (wpAny_pure ⟨_,rfl,wpAny_pure h⟩))) htake)
  | exact wpAny_bind (wpAny_bind (m:=Builtin.Tuple.tupleExact _) (wpAny_newObj_type (wpAny_pure (wpAny_pure ⟨_,rfl,wpAny_pure h⟩)) htake))
  | exact wpAny_bind (wpAny_bind (m:=Builtin.Tuple.tupleExact _) (wpAny_newObj_type (wpAny_pure ⟨_,rfl,wpAny_pure h⟩) htake))
end
end HT
namespace L2
abbrev TO:=St->Hp->(Option Int->Hp->Prop)->Prop
def PO(X:Cx)(e:Option Expr)(t:TO):Prop:=
 ∀ (pins:PN) (s:Shared) (σ:St) (H:Hp) (Q:Option Int->Hp->Prop),Inv X pins σ H s->t σ H Q ->
  wpAny (model X.prog X.w) X.A (evalPart e X.env) (λ u s'=>∃ o H',Inv X pins σ H' s'/\IsPart u o/\Q o H') X.xe s
def aaL:TO:=λ _ H Q=>Q none H
def afr(t:TE):TO:=λ σ H Q=>t σ H λ x H1=>∃ i,x=.int i/\Q (some i) H1
section
variable {X:Cx}{e:Expr}{te:TE}{lo hi:Option Expr}{tl th:TO}{pos p2:Pos}
theorem acn:PO X none aaL:=by intro pins s σ H Q I h;rw[evalPart_none];exact wpAny_pure ⟨none,H,I,.none,h⟩
theorem abA(h:PE X e te):PO X (some e) (afr te):=by intro pins s σ H Q I hw;rw[evalPart_some];refine thn (h pins s σ H _ I hw) λ u s1 hq23=>?_;obtain⟨x,H1,I1,r1,q1⟩:=hq23;obtain⟨i,rfl,q⟩:=q1;obtain⟨t,rfl⟩:=r1;exact⟨some i,H1,I1,.int i t,q⟩
def SlR(X:Cx)(r:V->Option Int->Option Int->Hp->VK->Prop):Prop:=
 ∀ (pins:PN) (s:Shared) (σ:St) (H:Hp) (x:V) (v vl vu:Value) (lo hi:Option Int) (sl:Addr) (Q:VK),Inv X pins σ H s->RelV x v->s.heap.IsSliceOf sl vl vu .none->IsPart vl lo->IsPart vu hi->r x lo hi H Q ->
  ∃ T id,typeLookup (.type T) "__getitem__" = pure (some (.builtin id))/\s.TypeIs v T/\wpAny (model X.prog X.w) X.A (getItem v (.ref sl)) (EP X pins σ Q) X.xe s
theorem SlR.or{r r':V->Option Int->Option Int->Hp->VK->Prop}(h:SlR X r)(h':SlR X r'):SlR X (λ x lo hi H Q=>r x lo hi H Q\/r' x lo hi H Q):=by
 intro pins s σ H x v vl vu lo hi sl Q I rx hs pl pu q;rcases q with q | q
 ·exact h pins s σ H x v vl vu lo hi sl Q I rx hs pl pu q
 ·exact h' pins s σ H x v vl vu lo hi sl Q I rx hs pl pu q
def tSl(r:V->Option Int->Option Int->Hp->VK->Prop)(te:TE)(tl th:TO):TE:=λ σ H Q=>te σ H λ x H1=>tl σ H1 λ l H2=>th σ H2 λ u H3=>r x l u H3 Q
theorem xN{r:V->Option Int->Option Int->Hp->VK->Prop}(hr:SlR X r)(he:PE X e te)(hl:PO X lo tl)(hu:PO X hi th):PE X (.Subscript e (.Slice lo hi none p2) pos) (tSl r te tl th):=by intro pins s σ H Q I h;refine Subscript_ (thn (he pins s σ H _ I h) λ v s1 hq24=>?_);obtain⟨x,H1,I1,r1,q1⟩:=hq24;refine wpAny_Slice (thn (hl pins s1 σ H1 _ I1 q1) λ vl s2 ⟨l,H2,I2,pl,q2⟩=>thn (hu pins s2 σ H2 _ I2 q2) λ vu s3 hq25=>?_);obtain⟨u,H3,I3,pu,q3⟩:=hq25;rw[evalPart_none];refine wpAny_pure ?_;have I4:Inv X pins σ H3 {s3 with heap:=s3.heap.push {cls:=.type "slice",data:=.fields #[vl,vu,.none]}}:=I3.kept (t':=s3.toks) λ b ob q=>Heap.get?_push_of_some _ q;obtain⟨T,id,hT,ht,hg⟩:=hr pins {s3 with heap:=s3.heap.push {cls:=.type "slice",data:=.fields #[vl,vu,.none]}} σ H3 x v vl vu l u s3.heap.objs.size Q I4 r1 (Heap.IsSliceOf.new ..) pl pu q3;show wpAny (model X.prog X.w) X.A (subscriptTail e (.Slice lo hi none p2) v (.ref s3.heap.objs.size)) (EP X pins σ Q) X.xe {s3 with heap:=s3.heap.push {cls:=.type "slice",data:=.fields #[vl,vu,.none]}};exact tail_any (ops:=[.ref s3.heap.objs.size,v]) ht hT hg (by with_unfolding_all rfl)
def xI(xs:List V)(lo hi:Option Int):List V:=(xs.drop (HT.sIx xs.length 0 lo)).take (HT.sIx xs.length xs.length hi-HT.sIx xs.length 0 lo)
theorem lz(xs:List V)(lo hi:Option Int):(xI xs lo hi).length<=xs.length:=by
 unfold xI;rw[List.length_take,List.length_drop];omega
def agz(K:FG):V->Option Int->Option Int->Hp->VK->Prop:=λ x lo hi H Q=>∃ a xs,x=.ref a/\SqT K H a xs /\
 ¬ (HT.sIx xs.length 0 lo=0/\HT.sIx xs.length xs.length hi=xs.length)/\∀ p,H p=none->Q (.ref p) (upd H p (.tup (xI xs lo hi)))
theorem adz:SlR X (agz X.K):=by
 intro pins s σ H x v vl vu lo hi sl Q I rx hs pl pu h;obtain⟨a,xs,rfl,hx,hw,q⟩:=h;cases rx;obtain⟨its,r,ht,hz⟩:=I.tuple hx;have hlen:its.toArray.size=xs.length:=by rw[List.size_toArray];exact r.length.symm
 refine⟨"tuple",_,PyProof.Rows.slot_tuple_getitem.lookup,ht.typeIs,?_⟩;refine HT.jy ht hs pl pu (by rw[hlen];exact hw) ?_ (by rw[hlen];exact hz);rw[hlen];refine⟨.ref s.heap.objs.size,_,I.laid (t':=s.toks) (o:=.tup (xI xs lo hi)) (λ b ob q=>Heap.get?_push_of_some _ q) (Nat.le_refl _) ?_,rfl,q _ (I.hok.fresh (Nat.le_refl _))⟩;exact⟨Nat.le_trans (lz xs lo hi) hz,_,(r.drop (HT.sIx xs.length 0 lo)).take (HT.sIx xs.length xs.length hi-HT.sIx xs.length 0 lo),aai.new _ _⟩
end
def ixN(n:Nat)(i:Int):Option Nat:=if 0<=i then (if i<n then some i.toNat else none) else if -(n:Int)<=i then some (i+n).toNat else none
def atI{α:Type}(xs:List α)(i:Int):Option α:=(ixN xs.length i).bind λ j=>xs[j]?
theorem wD{n:Nat}{i:Int}{j:Nat}(h:ixN n i=some j):seqIndex? i n=some j/\j<n/\-(n:Int)<=i/\i<n:=by
 unfold ixN at h
 by_cases h0:0<=i
 ·rw[if_pos h0] at h
  by_cases h1:i<n
  ·rw[if_pos h1] at h;have e:i.toNat=j:=Option.some.inj h;exact⟨by rw[seqIndex_of h0 h1,e],by omega,by omega,h1⟩
  ·rw[if_neg h1] at h;cases h
 ·rw[if_neg h0] at h
  by_cases h1:-(n:Int)<=i
  ·rw[if_pos h1] at h;have e:(i+n).toNat=j:=Option.some.inj h;exact⟨by rw[seqIndex_neg (by omega) h1,e],by omega,h1,by omega⟩
  ·rw[if_neg h1] at h;cases h
theorem oB{α:Type}{xs:List α}{i:Int}{v:α}(h:atI xs i=some v):∃ j,seqIndex? i xs.length=some j/\xs[j]? =some v/\j<xs.length/\-(xs.length:Int)<=i/\i<xs.length:=by
 unfold atI at h;cases e:ixN xs.length i with
 | none=>rw[e] at h;cases h
 | some j =>
  rw[e] at h;obtain⟨h1,h2,h3,h4⟩:=wD e;exact⟨j,h1,h,h2,h3,h4⟩
theorem ve{α:Type}{xs:List α}{j:Nat}{v:α}(h:xs[j]? =some v):atI xs (j:Int)=some v:=by
 have hj:j<xs.length:=(List.getElem?_eq_some_iff.mp h).1;have e:ixN xs.length (j:Int)=some j:=by
  unfold ixN;rw[if_pos (by omega),if_pos (by omega)];simp
 unfold atI;rw[e];exact h
def q8(b:Expr):Prop:=∀ o i,subscripted b false o i=operate [o,i] (getItem o i)
def IxR(X:Cx)(r:R2):Prop:=
 ∀ (value slice:Expr) (pins:PN) (s:Shared) (σ:St) (H:Hp) (x y:V) (v u:Value) (Q:VK),Inv X pins σ H s->RelV x v->RelV y u->r x y H Q ->
  subscripted slice false v u=operate [v,u] (getItem v u)->wpAny (model X.prog X.w) X.A (subscriptTail value slice v u) (EP X pins σ Q) X.xe s
def MtR(X:Cx)(id:String)(r:V->List V->Hp->VK->Prop):Prop:=
 ∀ (pins:PN) (s:Shared) (σ:St) (H:Hp) (x:V) (xs:List V) (v:Value) (us:List Value) (Q:VK),Inv X pins σ H s->RelV x v->Vals xs us->r x xs H Q ->
  wpAny (model X.prog X.w) X.A (call (.builtin id) (v::us)) (EP X pins σ Q) X.xe s
section
variable {X:Cx}{a b:Expr}{ta tb:TE}{pos:Pos}
theorem IxR.or{r r':R2}(h:IxR X r)(h':IxR X r'):IxR X (λ x y H Q=>r x y H Q\/r' x y H Q):=by
 intro value slice pins s σ H x y v u Q I rx ry q hs;rcases q with q | q
 ·exact h value slice pins s σ H x y v u Q I rx ry q hs
 ·exact h' value slice pins s σ H x y v u Q I rx ry q hs
theorem MtR.or{id:String}{r r':V->List V->Hp->VK->Prop}(h:MtR X id r)(h':MtR X id r'):MtR X id (λ x xs H Q=>r x xs H Q\/r' x xs H Q):=by
 intro pins s σ H x xs v us Q I rx rs q;rcases q with q | q
 ·exact h pins s σ H x xs v us Q I rx rs q
 ·exact h' pins s σ H x xs v us Q I rx rs q
theorem af7{r:R2}(hr:IxR X r)(ha:PE X a ta)(hb:PE X b tb)(hs:q8 b):PE X (.Subscript a b pos) (tOp r ta tb):=by intro pins s σ H Q I h;exact Subscript_ (afY ha hb I h λ v u s2 x y H2 I2 rx ry q=>hr a b pins s2 σ H2 x y v u Q I2 rx ry q (hs _ _))
def afy(K:FG):R2:=λ x y H Q=>∃ p xs i v,x=.ref p/\y=.int i/\SqL K H p xs/\atI xs i=some v/\Q v H
def agJ(K:FG):R2:=λ x y H Q=>∃ p xs i v,x=.ref p/\y=.int i/\SqT K H p xs/\atI xs i=some v/\Q v H
def agM:R2:=λ x y H Q=>∃ z i c,x=.str z/\y=.int i/\z.length<=sizeLine/\atI z.cps.toList i=some c/\Q (.str ⟨#[c]⟩) H
theorem aaE:IxR X (afy X.K):=by
 intro value slice pins s σ H x y v u Q I rx ry h hs;obtain⟨p,xs,i,z,rfl,rfl,hq,he,q⟩:=h;cases rx;obtain⟨t,rfl⟩:=ry;obtain⟨its,r,pl,hz⟩:=I.list hq;obtain⟨j,h1,h2,h3,h4,h5⟩:=oB he;obtain⟨w,ew,rw'⟩:=r.get h2;have hl:=r.length;have hn:=kH;have fin:EP X pins σ Q w s:=⟨z,H,I,rw',q⟩
 by_cases h0:0<=i
 ·have hj:i.toNat=j:=by rw[seqIndex_of h0 h5] at h1;exact Option.some.inj h1
  exact item_listR pl.isList h0 (by omega) (by rw[hj];simpa using ew) fin hs
 ·have hj:(i+(its.toArray.size:Int)).toNat=j:=by rw[seqIndex_neg (by omega) h4] at h1;rw[List.size_toArray,<- hl];exact Option.some.inj h1
  exact subscriptTail_builtinR (x:=w) pl.isList.typeIs slot_list_getitem.lookup
   (wpAny_getItem_list_neg (Q:=λ r s'=>r=w/\EP X pins σ Q r s') pl.isList (by omega) (by rw[List.size_toArray]<;>omega) (by omega) (by rw[hj];simpa using ew) ⟨rfl,fin⟩) hs
theorem acG:IxR X (agJ X.K):=by
 intro value slice pins s σ H x y v u Q I rx ry h hs;obtain⟨p,xs,i,z,rfl,rfl,hq,he,q⟩:=h;cases rx;obtain⟨t,rfl⟩:=ry;obtain⟨its,r,pl,hz⟩:=I.tuple hq;obtain⟨j,h1,h2,h3,h4,h5⟩:=oB he;obtain⟨w,ew,rw'⟩:=r.get h2;have hl:=r.length;have hn:=kH;have fin:EP X pins σ Q w s:=⟨z,H,I,rw',q⟩;exact subscriptTail_builtinR (x:=w) pl.typeIs slot_tuple_getitem.lookup
  (getItem_tuple (j:=j) (Q:=λ r s'=>r=w/\EP X pins σ Q r s') pl (by omega) (by omega) (by rw[List.size_toArray,<- hl];exact h1) (by simpa using ew) ⟨rfl,fin⟩) hs
theorem aek:IxR X agM:=by
 intro value slice pins s σ H x y v u Q I rx ry h hs;obtain⟨z,i,c,rfl,rfl,hz,he,q⟩:=h;obtain⟨t,rfl⟩:=rx;obtain⟨t',rfl⟩:=ry;obtain⟨j,h1,h2,h3,h4,h5⟩:=oB he;have hl:z.cps.toList.length=z.length:=by simp[Str.length]
 rw[hl] at h1 h4 h5;have hn:=kH;exact tail_any (typeIs_str s z t) slot_str_getitem.lookup (getItem_str (c:=c) (by have e1:decide (i < -(2 ^ 63:Int))=false:=decide_eq_false (by omega);have e2:decide (i >= 2 ^ 63)=false:=decide_eq_false (by omega);rw[e1,e2,Bool.or_false]) (by rw[h1];simpa using h2) ⟨.str ⟨#[c]⟩,H,I.tok _,⟨_,rfl⟩,q⟩) hs
def rIx(K:FG):R2:=λ x y H Q=>afy K x y H Q\/agJ K x y H Q\/agM x y H Q
theorem aR:IxR X (rIx X.K):=aaE.or (acG.or aek)
theorem uw(its:List Value)(n j:Nat)(u:Value):Obj.mapSeq (·.setIfInBounds j u) {cls:=.type "list",data:=.seq its.toArray n}={cls:=.type "list",data:=.seq (its.set j u).toArray n}:=by simp[Obj.mapSeq]
theorem Inv.lst{pins:PN}{σ:St}{H:Hp}{s:Shared}{p:Addr}{xs:List V}(I:Inv X pins σ H s)(h:H p=some (.lst xs)) :
  ∃ (its:List Value) (n:Nat),Vals xs its/\s.heap.get? p=some {cls:=.type "list",data:=.seq its.toArray n}/\xs.length<=sizeLine:=by
 obtain⟨z,its,n,r,e⟩:=I.hok p _ h;exact⟨its,n,r,e,z⟩
theorem Inv.adm{pins:PN}{σ:St}{H:Hp}{s:Shared}{p:Addr}{xs ys:List V}{its its':List Value}{n n':Nat}{f:Obj->Obj}(I:Inv X pins σ H s)(h:H p=some (.lst xs))
  (ho:s.heap.get? p=some {cls:=.type "list",data:=.seq its.toArray n})(hf:f {cls:=.type "list",data:=.seq its.toArray n}={cls:=.type "list",data:=.seq its'.toArray n'})(r:Vals ys its')(hz:ys.length<=sizeLine)(t:Nat) :
  Inv X pins σ (upd H p (.lst ys)) {s with heap:=s.heap.update p f,toks:=t}:=by
 have e:(s.heap.update p f).get? p=some {cls:=.type "list",data:=.seq its'.toArray n'}:=by rw[Heap.get?_update_self f ho (by rw[hf]<;>rfl),hf]
 refine I.write (x:=p) (e:=p) (by rw[h];trivial) (.inl rfl) (λ b u hb q=>(Heap.get?_update_other _ _ (Ne.symm hb)).trans q) ⟨_,e⟩ ?_;exact⟨hz,its',n',r,e⟩
def af6:V->V->V->Hp->(Hp->Prop)->Prop:=λ o i v H Q=>∃ p xs k j,o=.ref p/\i=.int k/\H p=some (.lst xs)/\ixN xs.length k=some j/\Q (upd H p (.lst (xs.set j v)))
theorem set_list:ae5 X af6:=by
 intro pins s σ H o i v ov iv u Q I ro ri rv h;obtain⟨p,xs,k,j,rfl,rfl,hp,hj,q⟩:=h;cases ro;obtain⟨t,rfl⟩:=ri;obtain⟨its,n,r,ho,hz⟩:=I.lst hp;obtain⟨h1,h2,h3,h4⟩:=wD hj;have hl:=r.length;have hn:=kH;have I':Inv X pins σ (upd H p (.lst (xs.set j v))) {s with heap:=s.heap.update p (Obj.mapSeq (·.setIfInBounds j u))}:=
  I.adm hp ho (uw its n j u) (r.set rv j) (by rw[List.length_set];exact hz) s.toks
 by_cases h0:0<=k
 ·have hk:k.toNat=j:=by rw[seqIndex_of h0 h4] at h1;exact Option.some.inj h1
  exact W.ki_setAt ho h0 (by omega) (by rw[List.size_toArray,<- hl];exact h4) (by rw[hk];exact⟨_,I',q⟩)
 ·have hk:(k+(its.toArray.size:Int)).toNat=j:=by rw[seqIndex_neg (by omega) h3] at h1;rw[List.size_toArray,<- hl];exact Option.some.inj h1
  exact W.ki_setBack ho (by omega) (by rw[List.size_toArray,<- hl];exact h3) (by omega) (by rw[hk];exact⟨_,I',q⟩)
theorem pj(lo hi:Option Int)(n:Nat):(sliceBounds lo hi none n).1=((HT.sIx n 0 lo:Nat):Int)/\(sliceBounds lo hi none n).2.1=((HT.sIx n n hi:Nat):Int)/\(sliceBounds lo hi none n).2.2=1:=by
 refine⟨?_,?_,rfl⟩
 ·cases lo with
  | none=>simp[sliceBounds,HT.sIx]
  | some i =>
   simp only[sliceBounds,HT.sIx,Option.getD_none,show(1:Int) > 0 by decide,if_true]
   by_cases h:i<0
   ·simp only[h,if_true]<;>omega
   ·simp only[h,if_false]<;>omega
 ·cases hi with
  | none=>simp[sliceBounds,HT.sIx]
  | some i =>
   simp only[sliceBounds,HT.sIx,Option.getD_none,show(1:Int) > 0 by decide,if_true]
   by_cases h:i<0
   ·simp only[h,if_true]<;>omega
   ·simp only[h,if_false]<;>omega
theorem nV(its:List Value)(lo hi:Option Int):slicePick its.toArray lo hi none=((its.drop (HT.sIx its.length 0 lo)).take (HT.sIx its.length its.length hi-HT.sIx its.length 0 lo)).toArray:=by obtain⟨h1,h2,h3⟩:=pj lo hi its.toArray.size;unfold slicePick;rw[h1,h2,h3];simp only[sliceRange_one,pick_run,List.size_toArray]<;>rfl
def agK(K:FG):V->Option Int->Option Int->Hp->VK->Prop:=λ x lo hi H Q=>∃ a xs,x=.ref a/\SqL K H a xs/\∀ p,H p=none->Q (.ref p) (upd H p (.lst (xI xs lo hi)))
theorem ace:SlR X (agK X.K):=by intro pins s σ H x v vl vu lo hi sl Q I rx hs pl pu h;obtain⟨a,xs,rfl,hx,q⟩:=h;cases rx;obtain⟨its,r,ht,hz⟩:=I.list hx;have hlen:=r.length;refine⟨"list",_,slot_list_getitem.lookup,ht.isList.typeIs,?_⟩;refine wpAny_getItem_list_slice ht.isList hs pl pu .none (by simp) ?_ (by rw[List.size_toArray]<;>omega);rw[nV,<- hlen];refine⟨.ref s.heap.objs.size,_,I.laid (t':=s.toks) (o:=.lst (xI xs lo hi)) (λ b ob q=>Heap.get?_push_of_some _ q) (Nat.le_refl _) ?_,rfl,q _ (I.hok.fresh (Nat.le_refl _))⟩;exact⟨Nat.le_trans (lz xs lo hi) hz,_,0,(r.drop (HT.sIx xs.length 0 lo)).take (HT.sIx xs.length xs.length hi-HT.sIx xs.length 0 lo),Heap.get?_push_size _ rfl⟩
theorem dZ.or{f:Value}{r r':List V->Hp->VK->Prop}(h:dZ X f r)(h':dZ X f r'):dZ X f (λ xs H Q=>r xs H Q\/r' xs H Q):=by
 intro pins s σ H xs us Q I rs q;rcases q with q | q
 ·exact h pins s σ H xs us Q I rs q
 ·exact h' pins s σ H xs us Q I rs q
theorem fu:dZ X (.type "list") (λ xs H Q=>∃ p ys,xs=[.ref p]/\(SqL X.K H p ys\/SqT X.K H p ys)/\∀ l,H l=none->Q (.ref l) (upd H l (.lst ys))):=by
 intro pins s σ H xs us Q I r h;obtain⟨p,ys,rfl,hq,q⟩:=h;obtain⟨u,rfl,rx⟩:=vals1 r;cases rx;have fin:∀ (its:List Value),Vals ys its->ys.length<=sizeLine->∀ (h':Heap) (c':Nat),(∀ b o',s.heap.get? b=some o'->h'.get? b=some o') ->
   h'.get? s.heap.objs.size=some {cls:=.type "list",dict:=none,data:=.seq its.toArray c',slots:=#[]}->EP X pins σ Q (.ref s.heap.objs.size) {s with heap:=h'}:=λ its r' hz h' c' kp e =>
  ⟨.ref s.heap.objs.size,_,I.laid (t':=s.toks) kp (Nat.le_refl _) (show cD X.prog X.w _ h' _ (.lst ys) from⟨hz,its,c',r',e⟩),rfl,q _ (I.hok.fresh (Nat.le_refl _))⟩
 rcases hq with hq | hq
 ·obtain⟨its,r',pl,hz⟩:=I.list hq;have hlen:=r'.length;obtain⟨o,ho,hc,n,hd⟩:=pl.isList;exact call_list_seq p (.inl rfl) ho hc hd (λ h' c' kp e=>fin its r' hz h' c' kp e) (by simp only[List.size_toArray]<;>omega)
 ·obtain⟨its,r',pl,hz⟩:=I.tuple hq;have hlen:=r'.length;obtain⟨o,ho,hc,n,hd⟩:=pl;exact call_list_seq p (.inr rfl) ho hc hd (λ h' c' kp e=>fin its r' hz h' c' kp e) (by simp only[List.size_toArray]<;>omega)
def tyV(K:FG)(T:String)(x:V)(H:Hp):Prop:=match x with
 | .str _=>T = "str"
 | .int _=>T = "int"
 | .ref p=>(T = "list" /\ ∃ xs,SqL K H p xs)\/(T = "tuple" /\ ∃ xs,SqT K H p xs) \/
   (T = "dict" /\ ((∃ kvs,H p=some (.dK kvs))\/∃ kvs,H p=some (.dT kvs)))\/(T = "set" /\ ∃ S n,H p=some (.set S n))
 | _=>False
theorem aew{pins:PN}{σ:St}{H:Hp}{s:Shared}{T:String}{x:V}{v:Value}(I:Inv X pins σ H s)(r:RelV x v)(ty:tyV X.K T x H) :
  s.TypeIs v T/\∀ a,v=.ref a->∃ ob,s.heap.get? a=some ob/\ob.dict=none:=by
 cases x with
 | str z =>
  obtain⟨t,rfl⟩:=r;cases (show T = "str" from ty);exact⟨typeIs_str s z t,λ _ e=>nomatch e⟩
 | int i =>
  obtain⟨t,rfl⟩:=r;cases (show T = "int" from ty);exact⟨typeIs_int s i t,λ _ e=>nomatch e⟩
 | ref p =>
  cases r;rcases ty with ⟨rfl,xs,hq⟩ | ⟨rfl,xs,hq⟩ | ⟨rfl,hk⟩ | ⟨rfl,S,n,hk⟩
  ·obtain⟨its,_,pl,_⟩:=I.list hq;refine⟨pl.isList.typeIs,λ a e=>?_⟩;cases e;obtain⟨o,n,e,c,hd,_⟩:=pl;exact⟨o,e,hd⟩
  ·obtain⟨its,_,⟨o,h1,h2,h3,_⟩,_⟩:=I.agI hq;refine⟨⟨o,h1,h2⟩,λ a e=>?_⟩;cases e;exact⟨o,h1,h3⟩
  ·have z:∃ o,s.heap.get? p=some o/\o.ExactDict:=by
    rcases hk with ⟨kvs,hk⟩ | ⟨kvs,hk⟩
    ·obtain⟨_,_,_,_,o,_,_,e,ex,_⟩:=I.hok p _ hk;exact⟨o,e,ex⟩
    ·obtain⟨_,_,_,_,o,_,_,e,ex,_⟩:=I.hok p _ hk;exact⟨o,e,ex⟩
   obtain⟨o,e,ex⟩:=z;refine⟨⟨o,e,ex.1⟩,λ a e2=>?_⟩;cases e2;exact⟨o,e,ex.2.1⟩
  ·obtain⟨o,_,_,_,e,ex,_⟩:=I.hok p _ hk;refine⟨⟨o,e,ex.1⟩,λ a e2=>?_⟩;cases e2;exact⟨o,e,ex.2.1⟩
 | _=>exact False.elim ty
def tBM(K:FG)(T:String)(r:V->List V->Hp->VK->Prop)(to:TE)(t:TA):TE:=λ σ H Q=>to σ H λ x H1=>tyV K T x H1/\t σ H1 λ xs H2=>r x xs H2 Q
variable {o e:Expr}{es:List Expr}{to:TE}{t:TA}{name:Str}{apos cpos:Pos}{T id:String}{r:V->List V->Hp->VK->Prop}
theorem aet(pa:PlainAttrs T)(slot:Slot T name id)(hty:typeOf (.builtin id)=pure (.type "method_descriptor"))(hm:MtR X id r)(ho:PE X o to)(ha:PA X (e::es) t)
  (hbase:attributeBase o name X.env (eval o X.env)=eval o X.env:=by rfl)
  (hfew:((backTo cpos (starEach (e::es) X.env)).all (λ x=>!x.1)&&(backToKw cpos (keywordEach [] X.env)).all (λ x=>x.1.isSome)
   && decide ((e::es).length+([]:List Keyword).length+(if ([]:List Keyword).isEmpty then 0 else 1)<30))=true:=by rfl)
  (hline:(apos.endLine==cpos.line)=true:=by rfl)(hs:starEach (e::es) X.env=(false,eval e X.env)::starEach es X.env:=by rfl)(hplain:(backTo cpos (starEach es X.env)).any (·.1)=false:=by rfl) :
  PE X (.Call (.Attribute o name apos) (e::es) [] cpos) (tBM X.K T r to t):=by
 intro pins s σ H Q I h;refine wpAny_Call_method_late hbase hfew hline rfl (thn (ho pins s σ H _ I h) λ v s1 hq26=>?_);obtain⟨x,H1,I1,r1,ty,q1⟩:=hq26;obtain⟨h1,h2⟩:=aew I1 r1 ty;refine⟨T,id,pa,slot,hty,h1,h2,?_⟩;have hA:=ha cpos pins s1 σ H1 _ I1 q1;rw[hs] at hA ⊢;refine Calls.callWith_builtin (by show(false || (backTo cpos (starEach es X.env)).any (·.1))=false;rw[hplain]<;>rfl) (Calls.evalArgs_plain ?_);exact thn hA λ us s2 ⟨vs,H2,I2,r2,q2⟩=>hm pins s2 σ H2 x vs v us Q I2 r1 r2 q2
end
def MtM(X:Cx)(id:String)(r:V->List V->Hp->VK->Prop):Prop:=
 ∀ (pins:PN) (s:Shared) (σ:St) (H:Hp) (x:V) (xs:List V) (v:Value) (us:List Value) (Q:VK),Inv X pins σ H s->RelV x v->Vals xs us->r x xs H Q ->
  wpAny (model X.prog X.w) X.A (call (.builtin id) (v::us)) (EP X pins σ Q) X.xe s
theorem Vals.one:∀ {x:V} {us:List Value},Vals [x] us->∃ u,us=[u]/\RelV x u
 | _,_,.cons r .nil=>⟨_,rfl,r⟩
theorem Vals.two:∀ {x y:V} {us:List Value},Vals [x,y] us->∃ u v,us=[u,v]/\RelV x u/\RelV y v
 | _,_,_,.cons r (.cons q .nil)=>⟨_,_,rfl,r,q⟩
theorem Vals.zero:∀ {us:List Value},Vals [] us->us=[]
 | _,.nil=>rfl
theorem Vals.reverse{xs:List V}{us:List Value}(h:Vals xs us):Vals xs.reverse us.reverse:=by
 induction h with
 | nil=>exact .nil
 | cons r t ih=>rw[List.reverse_cons,List.reverse_cons];exact Vals.append ih (.cons r .nil)
theorem Vals.rep{xs:List V}{us:List Value}(h:Vals xs us):∀ k:Nat,Vals (List.replicate k xs).flatten (List.replicate k us).flatten
 | 0=>.nil
 | k+1=>by rw[List.replicate_succ,List.replicate_succ,List.flatten_cons,List.flatten_cons];exact Vals.append h (Vals.rep h k)
section
variable {X:Cx}{pins:PN}{σ:St}{H:Hp}{s:Shared}{l b:Addr}{xs ys zs:List V}
theorem Inv.ahf{its its':List Value}{n:Nat}{f:Array Value->Array Value}{t':Nat}(I:Inv X pins σ H s)(hH:H l=some (.lst xs))
  (e:s.heap.get? l=some {cls:=.type "list",data:=.seq its.toArray n})(hf:f its.toArray=its'.toArray)(hv:Vals ys its')(hz:ys.length<=sizeLine) :
  Inv X pins σ (upd H l (.lst ys)) {s with heap:=s.heap.update l (Obj.mapSeq f),toks:=t'}:=by
 have q:=PySem.IsL.update e f;rw[hf] at q;refine I.write (x:=l) (e:=l) (by rw[hH];exact trivial) (.inl rfl) (λ b' u hb hu=>(Heap.get?_update_other s.heap (Obj.mapSeq f) (Ne.symm hb)).trans hu) ⟨_,q⟩ ?_;exact⟨hz,its',_,hv,q⟩
theorem Inv.fresh(I:Inv X pins σ H s):H s.heap.objs.size=none:=I.hok.fresh (Nat.le_refl _)
theorem Inv.ahq(I:Inv X pins σ H s)(hH:H l=some (.lst xs)):xs.length<=sizeLine/\∃ (its:List Value) (n:Nat),Vals xs its/\xs.length=its.length/\s.heap.get? l=some {cls:=.type "list",data:=.seq its.toArray n}:=by obtain⟨z,its,n,r,e⟩:=I.hok l _ hH;exact⟨z,its,n,r,r.length,e⟩
end
section
variable {X:Cx}
def abS:V->List V->Hp->VK->Prop:=λ x vs H Q=>∃ l xs y,x=.ref l/\vs=[y]/\H l=some (.lst xs)/\xs.length<sizeLine/\Q .non (upd H l (.lst (xs++[y])))
theorem v9:MtM X "list.append" abS:=by intro pins s σ H x vs v us Q I rx rv h;obtain⟨l,xs,y,rfl,rfl,hH,hz,q⟩:=h;cases rx;obtain⟨u,rfl,ru⟩:=rv.one;obtain⟨z,its,n,r,hl,e⟩:=I.ahq hH;refine call_meets F.slot_list_append ⟨_,e,rfl⟩ F.entry_list_append (F.args_list_append_2 _ _) (PySem.list_append l its.toArray n u (by rw[List.size_toArray];omega)) ⟨e,?_⟩;refine⟨.non,_,I.ahf (its':=its++[u]) hH e (by simp) (r.append (.cons ru .nil)) ?_,rfl,q⟩;rw[List.length_append,List.length_singleton];omega
end
section
variable {prog:Program}{w:World}{A:Around}{E:VP}{s:Shared}
end
section
variable {X:Cx}
end
end L2
namespace Att
open PySem PySem.W PySem.Calls PyProof.Rows
theorem l6{P:Params}{h:Heap}:∀ (ns:List Int) (vs:List Value),WellAll P h vs (ns.map WData.int)->IntsAre vs ns:=by
 intro ns
 induction ns with
 | nil =>
  intro vs w;rw[List.map_nil] at w;cases w;exact .nil
 | cons n ns ih =>
  intro vs w;rw[List.map_cons] at w;cases w with
  | cons a b =>
   cases a;exact .cons _ _ (ih _ b)
theorem wN{l:OpenLaw}{n:Nat}(hn:l.most=some n){P:Params}{h:Heap}{args:List WData}{vals:List Value}
  (hpre:l.row.toRowW.claim.pre args=true)(hwl:WellAll P h vals args) :
  ∃ a vs ns,vals=[Value.ref a]/\args=[WData.list (ns.map WData.int)]/\h.get? a=some {cls:=.type "list",data:=.seq vs.toArray}/\IntsAre vs ns/\ns.length<=n:=by
 have hsh:WShape.hasAll [] args [.list .int]=true:=(pre_splitW hpre).1;have hc:l.pre.holds [] {args:=args}=true:=(pre_splitW hpre).2;obtain⟨d,r,rfl,h1,h2⟩:=hasAllW_cons hsh;obtain rfl:=hasAllW_nil h2;obtain⟨xs,rfl,h3⟩:=hasW_list h1;obtain⟨ns,rfl⟩:=items_int h3;have hlen:ns.length<=n:=by
  unfold OpenLaw.pre at hc;have h4:(WTm.not (.lt (.lit (.int (n:Int))) (.len (.arg 0)))).holds [] {args:=[.list (ns.map .int)]}=true:=by have h4:=(holds_andW hc).1;rw[hn] at h4;exact h4
  have h5:=condW_of h4 (w_not (w_lt w_lit (w_len_list (w_arg rfl))));rw[List.length_map] at h5;refine Nat.le_of_not_lt λ q=>?_;have q':(n:Int)<((ns.length:Nat):Int):=by omega
  first
   | (rw[decide_eq_true q'] at h5;exact absurd h5 (by decide))
   | (simp at h5;omega)
 cases hwl with
 | cons w1 w2 =>
  cases w2;cases w1 with
  | list ho hall=>exact⟨_,_,ns,rfl,rfl,ho,l6 ns _ hall,hlen⟩
theorem wI(l:OpenLaw)(args:List WData):l.row.toRowW.claim.post args (.bool true) args=true:=
 postW_of (r:=l.row.toRowW) (X:=(true==true))
  (show WShape.has [] (.bool true) .bool=true by first | rfl | decide | simp[WShape.has,WShape.arms,WShape.armsAll])
  (show(WTm.eq .res (.lit (.bool true))).value [] {args:=args,res:=some (.bool true),after:=args}=some (.bool (true==true)) from w_eq_bool (w_res rfl) w_lit) rfl
theorem rW{l:OpenLaw}{n:Nat}{q:Program}{loose:List Str}{XP:(Str->Option Value)->Heap->Prop}{YP:World->Heap->Prop}{d:DefRec}
  (hn:l.most=some n)(hdf:d.params.defaults=[])
  (call:∀ (w:World) (s₀ s₁:Shared) (mg mb:Str->Option Value) (fa:Addr) (o:Obj) (pm cd doc:Value) (a:Addr) (vs:List Value) (ns:List Int),
   Ground q loose [] XP w s₀ mg mb s₁.heap->YP w s₁.heap ->
   s₁.heap.get? fa=some o->o.data=.func (docDef d.name d.params d.body d.scope pm cd doc)->s₁.heap.CodeRec cd d.name->mg d.name=some (.ref fa) ->
   s₁.heap.get? a=some {cls:=.type "list",data:=.seq vs.toArray}->IntsAre vs ns->ns.length<=n->s₁.gens = #[] ->
   codeAny (model l.prog w) callerA (.call (.ref fa) ⟨[.ref a],[]⟩) (λ r s'=>r=.ok (.ret (.bool true))/\OldK s₁.heap s'.heap/\s'.os=s₁.os/\AllBare s'.gens) s₁) :
  WalkO q loose XP YP l.row.toRowW d [] (λ f vs=>PySem.call f vs):=by
 intro w s₀ s₁ mg mb G Y fa o pm cd doc dV kV ho hd hcd hD hmg hg args vals as hpre hlay hrd hwl hlo;obtain rfl:dV=.none:=Dflts.none hD hdf;obtain rfl:kV=.none:=Dflts.noKw hD;obtain⟨a,vs,ns,rfl,rfl,hobj,hints,hlen⟩:=wN hn hpre hwl;refine enter_call (codeAny_mono (call w s₀ s₁ mg mb fa o pm cd doc a vs ns G Y ho (fd_plain hd) hcd hmg hobj hints hlen hg) λ r s' hq=>?_);obtain⟨rfl,h2,h3,h4⟩:=hq;exact⟨.inl ⟨.bool true,.bool true,[],rfl,λ _=>rfl,.bool true,wI l _,λ _=>⟨List.Pairwise.nil,λ _ hm=>(nomatch hm)⟩⟩,h2,h3,h4⟩
section
variable {prog:Program}{w:World}{A:Around}{E:VP}{s:Shared}{K:Frag}
end
end Att
namespace L2
theorem jf:∀ {vs:List Value} {ns:List Int},IntsAre vs ns->Vals (ns.map V.int) vs
 | _,_,.nil=>.nil
 | _,_,.cons n t h=>.cons ⟨t,rfl⟩ (jf h)
def ae1(H:Hp):Prop:=∀ b,H b=none\/∃ o xs,H b=some (.frz o (.lst xs))
theorem zk{P:Program}{w:World}{K:FG}{mg mb:Str->Option Value}{CX:CXT}{k:Nat}{fa a:Addr}{fd:FuncData}{x:Str}{sp:Sp}{s₁:Shared}{vs:List Value}{ns:List Int}
  (KX:K.In s₁.heap)(hns:s₁.heap.Ns mainGlobals mg)(hb:s₁.heap.Ns builtinsNs mb)(hbb:∀ x:Str,x ≠ "__name__" -> mb x=bootBuiltins x)(hlim:s₁.heap.NoLimit)(hbm:BM mg s₁.heap)(hg:s₁.gens = #[])
  (ha:s₁.heap.get? a=some {cls:=.type "list",data:=.seq vs.toArray})(hi:IntsAre vs ns)(hl:ns.length<=sizeLine)(hr:dN k callerA)
  (F:∀ base:Heap,K.In base->base.Ns mainGlobals mg->bH P w K mg base CX k fa fd [x] sp)(hbind:∀ (s:Shared) (u:Value),BindsTo s fd ⟨[u],[]⟩ [(x,u)])
  (hsp:∀ H:Hp,ae1 H->SqL K H a (ns.map V.int)->sp [.ref a] H (λ v _=>v=.bl true) λ _ _ _=>False)
  (hCX:∀ H e s',CX [] H s₁ (λ _ _ _=>False) e s'->False) :
  codeAny (model P w) callerA (.call (.ref fa) ⟨[.ref a],[]⟩) (λ r s'=>r=.ok (.ret (.bool true))/\OldK s₁.heap s'.heap/\s'.os=s₁.os/\AllBare s'.gens) s₁:=by
 have rv:=jf hi;have lenV:=hi.length;have core:∀ H:Hp,ae1 H->SqL K H a (ns.map V.int)->HOk P w H s₁.heap->(∀ b,H b≠none->b=a)->(H a≠none->K.lookup a=none) ->
   codeAny (model P w) callerA (.call (.ref fa) ⟨[.ref a],[]⟩) (λ r s'=>r=.ok (.ret (.bool true))/\OldK s₁.heap s'.heap/\s'.os=s₁.os/\AllBare s'.gens) s₁:=by
  intro H hO hS hok hA hK;have jz:∀ {b:Addr} {o:Obj},s₁.heap.get? b=some o->H b=none->(zg s₁.heap H).get? b=some o:=λ e n=>zb e n;have noA:∀ {b:Addr} {o:Obj} {es:Array DictEntry} {ep:Nat},s₁.heap.get? b=some o->o.data=.dict es ep->H b=none:=λ {b o es ep} e d=>by
   cases q:H b with
   | none=>rfl
   | some u =>
    have e':b=a:=hA b (by rw[q];simp);subst e';rw[ha] at e;cases e;have d':Data.seq vs.toArray _=Data.dict es ep:=d;cases d'
  have nsK:∀ {b:Addr} {m:Str->Option Value},s₁.heap.Ns b m->(zg s₁.heap H).Ns b m:=λ {b m} ⟨o,es,ep,e,d,r⟩=>⟨o,es,ep,jz e (noA e d),d,r⟩;have hKb:K.In (zg s₁.heap H):=λ b o e=>jz (KX b o e) (by
   cases q:H b with
   | none=>rfl
   | some u =>
    have e':b=a:=hA b (by rw[q];simp);subst e';rw[hK (by rw[q];simp)] at e;cases e)
  have hM:Mod K mg (zg s₁.heap H):=⟨hKb,nsK hns,⟨mb,nsK hb,hbb⟩,let ⟨mc,h1,h2⟩:=hlim; ⟨mc,nsK h1,h2⟩,let ⟨⟨b,o,h1,h2,h3,h4,h5,h6⟩,mm,hmm⟩:=hbm; ⟨⟨b,o,h1,h2,jz h3 (by cases q:H b with | none=>rfl | some u=>(have e':b=a:=hA b (by rw[q];simp);subst e';rw[ha] at h3;cases h3;cases h6)),h4,h5,h6⟩,mm,nsK hmm⟩⟩;have e0:uQ P w K mg (zg s₁.heap H) callerA [] s₁ H:=⟨rfl,hM,λ b o e=>aaw e,Nat.le_of_eq (xh _ _),trivial,λ b hb=>absurd (show b∈([]:List Addr) from hb) (by simp),hok,.of_eq hg⟩;refine codeAny_mono ((F _ hKb (nsK hns)).run callerA [] s₁ H ⟨[.ref a],[]⟩ [.ref a] [.ref a] _ _ hr e0 (hbind s₁ (.ref a)) (.cons rfl .nil) (hsp H hO hS)) λ r s' h=>?_;cases r with
  | error e=>exact(hCX H e s' h).elim
  | ok fl =>
   cases fl with
   | next=>exact False.elim h
   | brk=>exact False.elim h
   | cont=>exact False.elim h
   | ret u =>
    obtain⟨v,H',os,bare,un,hok',r',q⟩:=h;have q':v=.bl true:=q;subst q';obtain rfl:u=Value.bool true:=r';refine⟨rfl,OldK.of_keep λ b o e=>?_,os,bare⟩;cases q:H b with
    | none=>exact un.keep b o e q (by intro z;exact absurd (show b∈([]:List Addr) from z) (by simp)) (by simp)
    | some u =>
     rcases hO b with z | ⟨ob,xs,z⟩
     ·rw[q] at z;cases z
     ·have z2:=un.frzs b ob _ z;obtain⟨e1,_⟩:=hok b _ z;obtain⟨e2,_⟩:=hok' b _ z2;rw[e] at e1;cases e1;exact e2
 cases hk:K.lookup a with
 | some o =>
  have e:=KX a o hk;rw[ha] at e;cases e;refine core (λ _=>none) (λ _=>.inl rfl) (.inr ⟨_,vs.toArray,_,hk,rfl,rfl,rfl,by rw[List.size_toArray,lenV];exact hl,by simpa using rv⟩) (λ b u z=>by have z':(none:Option HO)=some u:=z;cases z') (λ b z=>absurd rfl z) λ z=>absurd rfl z
 | none =>
  refine core (λ b=>if b=a then some (.frz {cls:=.type "list",data:=.seq vs.toArray} (.lst (ns.map V.int))) else none) (λ b=>?_) (.inl (.inr ⟨{cls:=.type "list",data:=.seq vs.toArray},if_pos rfl⟩)) (λ b u z=>?_) (λ b z=>?_) λ _=>hk
  ·by_cases hb:b=a
   ·exact .inr ⟨_,_,if_pos hb⟩
   ·exact .inl (if_neg hb)
  ·by_cases hb:b=a
   ·have z':=(if_pos hb).symm.trans z;cases z';subst hb;exact⟨ha,by rw[List.length_map];exact hl,vs,_,rv,ha⟩
   ·have z':=(if_neg hb).symm.trans z;cases z'
  ·by_cases hb:b=a
   ·exact hb
   ·exact absurd (if_neg hb) z
theorem abv{l:W.OpenLaw}{n k:Nat}{q:Program}{loose:List Str}{XP:(Str->Option Value)->Heap->Prop}{YP:World->Heap->Prop}{d:DefRec}{K:Params->FG}{CX:World->CXT}{sp:World->Sp}{x:Str}
  (hq:importsNone q=true)(hn:l.most=some n)(hn2:n<=sizeLine)(hdf:d.params.defaults=[])(hr:dN k callerA)
  (hY:∀ (w:World) (h:Heap),YP w h->(K w.params).In h)
  (F:∀ (w:World) (mg:Str->Option Value) (fa:Addr) (h:Heap),(K w.params).In h->h.Ns mainGlobals mg->mg d.name=some (.ref fa) ->
   ∃ fd:FuncData,(∀ (s:Shared) (u:Value),BindsTo s fd ⟨[u],[]⟩ [(x,u)]) /\
    ∀ base:Heap,(K w.params).In base->base.Ns mainGlobals mg->bH l.prog w (K w.params) mg base (CX w) k fa fd [x] (sp w))
  (hsp:∀ (w:World) (H:Hp) (a:Addr) (ns:List Int),ns.length<=n->ae1 H->SqL (K w.params) H a (ns.map V.int)->sp w [.ref a] H (λ v _=>v=.bl true) λ _ _ _=>False)
  (hCX:∀ (w:World) (H:Hp) (s:Shared) (e:Value) (s':Shared),CX w [] H s (λ _ _ _=>False) e s'->False) :
  W.WalkO q loose XP YP l.row.toRowW d [] (λ f vs=>PySem.call f vs):=by
 refine Att.rW hn hdf λ w s₀ s₁ mg mb fa o pm cd doc a vs ns G Y ho hd hcd hmg hobj hints hlen hg=>?_;have KX:=hY w _ Y;obtain⟨fd,hb,hF⟩:=F w mg fa _ KX G.T.g hmg;exact zk KX G.T.g G.T.b G.T.builtins G.T.nolimit (let ⟨bm,ob,b1,b2,b3,b4,b5,b6⟩:=G.T.bmain;let ⟨mm,hmm,_⟩:=(G.T.seer hq).mods; ⟨⟨bm,ob,b1,b2,b3,b4,b5,b6⟩,mm,hmm⟩) hg hobj hints (Nat.le_trans hlen hn2) hr hF hb (λ H hO hS=>hsp w H a ns hlen hO hS) λ H e s'=>hCX w H s₁ e s'
def inClass(s:Stmt)(j:Nat):Stmt:=match s with
 | .ClassDef _ _ _ body _ _ _ _ _ _ _=>body.getD j (.Pass ⟨0,0,0,0⟩)
 | _=>.Pass ⟨0,0,0,0⟩
def aE(s:Stmt):Arguments:=match s with
 | .FunctionDef _ a _ _ _ _ _ _ _ _=>a
 | _=>{posonlyargs:=[],args:=[],vararg:=none,kwonlyargs:=[],kw_defaults:=[],kwarg:=none,defaults:=[]}
def aD(s:Stmt):List Stmt:=match s with
 | .FunctionDef _ _ b _ _ _ _ _ _ _=>b
 | _=>[]
def ag(s:Stmt):Scope:=match s with
 | .FunctionDef _ _ _ _ _ _ sc _ _ _=>sc
 | _=>{kind:=.function,names:=[],isGenerator:=false,isCoroutine:=false}
abbrev CX0:CXT:=λ _ _ _ _ _ _=>False
abbrev E0:XK:=λ _ _ _=>False
theorem wM{X:Cx}:Passes CX0 X E0:=λ _ _ _ _ _ _ _ h=>h.elim
structure Fun(K:FG)(x qual:Str)(st:Stmt)(f:Addr)(fd:FuncData):Prop where
 ex:∃ (oc:Value) (od:Option Addr) (kV doc pm:Value) (an:Option Addr) (cdv ct:Value) (osl:Array (Option Value)),
  fd=W.fnOf x qual (aE st) (aD st) (ag st) .none kV doc pm an cdv ct/\K.lookup f=some ⟨oc,od,.func fd,osl⟩/\W.codeIn K cdv qual=true
 kp:W.keepIn K (.ref f)=true
section
variable {P:Program}{w:World}{K:FG}{mg:Str->Option Value}{base:Heap}
theorem Fun.ok{x qual:Str}{st:Stmt}{f:Addr}{fd:FuncData}{N ps:List Str}{k:Nat}{sp:Sp}(F:Fun K x qual st f fd)(S:aJ N ps (ag st))(len:∀ vs H Q E,sp vs H Q E->vs.length=ps.length)
  (hbody:∀ (cdv:Value) (A:Around) (outer:List Env) (s:Shared) (H:Hp) (vs:List V) (Q:VK) (E:XK),dN k (A.deeper (envOfC qual (ag st) s.heap.objs.size f cdv))->sp vs H Q E ->
   ∃ t,PSs (qR CX0 P w K mg base N qual (ag st) f cdv A outer s H E).nox (aD st) t/\t {nx:=λ _ H'=>Q .non H',rt:=Q} (start N vs) H):bH P w K mg base CX0 (k+1) f fd ps sp:=by
 obtain⟨oc,od,kV,doc,pm,an,cdv,ct,osl,rfl,lk,hcd⟩:=F.ex;refine adT lk hcd S len λ A outer s H vs Q E hr hsp=>?_;obtain⟨t,h,q⟩:=hbody cdv A outer s H vs Q E hr hsp;exact⟨t,h.nox,q⟩
theorem Fun.binds{x qual:Str}{st:Stmt}{f:Addr}{fd:FuncData}{ps:List Str}(F:Fun K x qual st f fd)
  (h:∀ (kV doc pm:Value) (an:Option Addr) (cdv ct:Value) (us:List Value),us.length=ps.length->bindArgs (W.fnOf x qual (aE st) (aD st) (ag st) .none kV doc pm an cdv ct) ⟨us,[]⟩=pure (ps.zip us)):Binds K fd ps []:=by
 obtain⟨oc,od,kV,doc,pm,an,cdv,ct,osl,rfl,lk,hcd⟩:=F.ex;exact .all (h kV doc pm an cdv ct)
theorem qp{x qual:Str}{st:Stmt}{f:Addr}{oc:Value}{od an:Option Addr}{osl:Array (Option Value)}{kV doc pm cdv ct:Value}(l:K.lookup f=some ⟨oc,od,.func (W.fnOf x qual (aE st) (aD st) (ag st) .none kV doc pm an cdv ct),osl⟩)
  (c:W.codeIn K cdv qual=true)(k:W.keepIn K (.ref f)=true):Fun K x qual st f (W.fnOf x qual (aE st) (aD st) (ag st) .none kV doc pm an cdv ct):=⟨⟨oc,od,kV,doc,pm,an,cdv,ct,osl,rfl,l,c⟩,k⟩
end
theorem dE{A:Around}{k:Nat}(hr:dN k A):A.units+1<cLine:=Nat.lt_of_le_of_lt (Nat.add_le_add_left (by decide:1<=64) _) hr.units
section
variable {X:Cx}
theorem pv(i:Nat){x:Str}{pos:Pos}(hN:X.N[i]? =some x:=by rfl)(hv:Vis X.env.scope x:=by first | exact Or.inl rfl | exact Or.inr (Or.inl rfl) | exact Or.inr (Or.inr rfl))(hd:ND x:=by decide)
  (hcd:(x==("__classdict__" : Str))=false:=by decide):PE X (.Name x pos) (ae3 i):=tD hN hv hd hcd
end
theorem fh{A B:Prop}(h:B):if false=true then A else B:=by rw[if_neg Bool.false_ne_true];exact h
theorem n8{A B:Prop}(h:A):if true=true then A else B:=by rw[if_pos rfl];exact h
def xJ(H H':Hp):Prop:=∀ b o,H b=some o->H' b=some o
theorem xJ.refl(H:Hp):xJ H H:=λ _ _ h=>h
theorem xJ.trans{H H1 H2:Hp}(a:xJ H H1)(b:xJ H1 H2):xJ H H2:=λ c o h=>b c o (a c o h)
theorem xJ.free{H H':Hp}(e:xJ H H'){l:Addr}(h:H' l=Option.none):H l=Option.none:=by
 cases q:H l with
 | none=>rfl
 | some o =>
  rw[e l o q] at h;cases h
theorem xJ.seq{K:FG}{H H':Hp}{a:Addr}{xs:List V}(e:xJ H H')(h:SqL K H a xs):SqL K H' a xs:=by
 rcases h with (h | ⟨o,h⟩) | h
 ·exact .inl (.inl (e _ _ h))
 ·exact .inl (.inr ⟨o,e _ _ h⟩)
 ·exact .inr h
section
variable {κ:Type}[DecidableEq κ]
def kg(kvs:List (κ×V))(k:κ):Option V:=(kvs.find? λ kv=>decide (kv.1=k)).map (·.2)
def putK(kvs:List (κ×V))(k:κ)(v:V):List (κ×V):=
 if (kvs.any λ kv=>decide (kv.1=k))=true then kvs.map (λ kv=>if kv.1=k then (kv.1,v) else kv) else kvs++[(k,v)]
def acO(kvs:List (κ×V))(k:κ):List (κ×V):=kvs.filter λ kv=>decide (kv.1≠k)
theorem hG{p:κ×V}{r:List (κ×V)}{k:κ}(e:p.1=k):kg (p::r) k=some p.2:=by simp[kg,List.find?_cons,e]
theorem hB{p:κ×V}{r:List (κ×V)}{k:κ}(e:¬ p.1=k):kg (p::r) k=kg r k:=by simp[kg,List.find?_cons,e]
theorem kD(k:κ):∀ kvs:List (κ×V),(kvs.any λ kv=>decide (kv.1=k))=(kg kvs k).isSome
 | []=>rfl
 | p::r=>by
  rw[List.any_cons]
  by_cases e:p.1=k
  ·simp only[hG e,decide_eq_true e,Bool.true_or,Option.isSome_some]
  ·rw[hB e,decide_eq_false e,Bool.false_or];exact kD k r
theorem iG(kvs:List (κ×V))(k:κ)(v:V):(putK kvs k v).length<=kvs.length+1:=by
 unfold putK
 split
 ·rw[List.length_map];omega
 ·rw[List.length_append,List.length_cons,List.length_nil];omega
theorem zx{kvs:List (κ×V)}{k:κ}(v:V)(h:kg kvs k=none):putK kvs k v=kvs++[(k,v)]:=by
 unfold putK;rw[kD,h];exact if_neg (by decide)
theorem mJ.jo{o:Option V}{u:Option Value}(r:mJ o u):o.isSome=u.isSome:=by
 cases o with
 | none=>cases u with
  | none=>rfl
  | some _=>exact(show False from r).elim
 | some _=>cases u with
  | none=>exact(show False from r).elim
  | some _=>rfl
theorem mJ.getD{o:Option V}{u:Option Value}{d:V}{d':Value}(r:mJ o u)(rd:RelV d d'):RelV (o.getD d) (u.getD d'):=by
 cases o with
 | none=>cases u with
  | none=>exact rd
  | some _=>exact(show False from r).elim
 | some _=>cases u with
  | none=>exact(show False from r).elim
  | some _=>exact r
theorem KV.val{kvs:List (κ×V)}{vs:List (κ×Value)}(r:KV kvs vs)(k:κ):mJ (kg kvs k) (valueAt vs k):=by
 unfold KV at r
 induction r with
 | nil=>exact True.intro
 | @cons p q ps qs h t ih =>
  obtain⟨h1,h2⟩:=h
  by_cases e:p.1=k
  ·have e':q.1=k:=h1.symm.trans e;have b:valueAt (q::qs) k=some q.2:=by simp[valueAt,List.find?_cons,e']
   rw[hG e,b];exact h2
  ·have e':¬ q.1=k:=λ z=>e (h1.trans z);have b:valueAt (q::qs) k=valueAt qs k:=by simp[valueAt,List.find?_cons,e']
   rw[hB e,b];exact ih
theorem KV.any{kvs:List (κ×V)}{vs:List (κ×Value)}(r:KV kvs vs)(k:κ):(kvs.any λ kv=>decide (kv.1=k))=vs.any λ kv=>decide (kv.1=k):=by
 unfold KV at r
 induction r with
 | nil=>rfl
 | cons h t ih=>rw[List.any_cons,List.any_cons,ih,h.1]
theorem KV.afi{kvs:List (κ×V)}{vs:List (κ×Value)}(r:KV kvs vs)(k:κ){y:V}{u:Value}(ry:RelV y u) :
  KV (kvs.map λ kv=>if kv.1=k then (kv.1,y) else kv) (vs.map λ kv=>if kv.1=k then (kv.1,u) else kv):=by
 unfold KV at r ⊢
 induction r with
 | nil=>exact .nil
 | @cons p q ps qs h t ih =>
  rw[List.map_cons,List.map_cons];refine .cons ?_ ih;obtain⟨h1,h2⟩:=h
  by_cases e:p.1=k
  ·rw[if_pos e,if_pos (h1.symm.trans e)];exact⟨h1,ry⟩
  ·rw[if_neg e,if_neg (λ z=>e (h1.trans z))];exact⟨h1,h2⟩
theorem KV.put{kvs:List (κ×V)}{vs:List (κ×Value)}(r:KV kvs vs)(k:κ){y:V}{u:Value}(ry:RelV y u):KV (putK kvs k y) (stored vs k u):=by
 unfold putK stored;rw[r.any k]
 by_cases e:(vs.any λ kv=>decide (kv.1=k))=true
 ·rw[if_pos e,if_pos e];exact r.afi k ry
 ·rw[if_neg e,if_neg e];exact Paired.snoc r ⟨rfl,ry⟩
theorem KV.drop{kvs:List (κ×V)}{vs:List (κ×Value)}(r:KV kvs vs)(k:κ):KV (acO kvs k) (without vs k):=by
 unfold KV at r ⊢;unfold acO without
 induction r with
 | nil=>exact .nil
 | @cons p q ps qs h t ih =>
  obtain⟨h1,h2⟩:=h;rw[List.filter_cons,List.filter_cons]
  by_cases e:p.1=k
  ·have a:¬ decide (p.1≠k)=true:=by simp[e]
   have b:¬ decide (q.1≠k)=true:=by simp[h1.symm.trans e]
   rw[if_neg a,if_neg b];exact ih
  ·have e':¬ q.1=k:=λ z=>e (h1.trans z);have a:decide (p.1≠k)=true:=by simp[e]
   have b:decide (q.1≠k)=true:=by simp[e']
   rw[if_pos a,if_pos b];exact .cons ⟨h1,h2⟩ ih
theorem KV.keys{kvs:List (κ×V)}{vs:List (κ×Value)}(r:KV kvs vs):kvs.map (·.1)=vs.map (·.1):=by
 unfold KV at r
 induction r with
 | nil=>rfl
 | cons h t ih=>rw[List.map_cons,List.map_cons,ih,h.1]
theorem KV.length{kvs:List (κ×V)}{vs:List (κ×Value)}(r:KV kvs vs):kvs.length=vs.length:=Paired.length r
end
theorem oM{P:Program}{w:World}{k:Key}{u:Value}(r:RelV (kV k) u):(bb P w).is k u=true:=by
 cases k with
 | inl i=>obtain⟨t,e⟩:=(show ∃ t,u=Value.int i t from r);subst e;exact rR P w i t
 | inr x=>obtain⟨t,e⟩:=(show ∃ t,u=Value.str x t from r);subst e;exact rh P w x t
theorem lH{P:Program}{w:World}:∀ {ks:List Key} {us:List Value},Vals (ks.map kV) us->ItemsAre (bb P w) ks us
 | [],_,r=>by rw[List.map_nil] at r;cases r;exact .nil
 | k::ks,_,r=>by
  rw[List.map_cons] at r;cases r with
  | cons h t=>exact .cons (oM h) (lH t)
abbrev KT(H:Hp):List (List Key×V)->List (List Key×Addr×Value)->Prop:=Paired λ p q=>p.1=q.1/\H q.2.1=some (.tup (p.1.map kV))/\RelV p.2 q.2.2
theorem KT.val{H:Hp}{kvs:List (List Key×V)}{xs:List (List Key×Addr×Value)}(r:KT H kvs xs)(k:List Key):mJ (kg kvs k) ((atKey xs k).map (·.2)):=by
 induction r with
 | nil=>exact True.intro
 | @cons p q ps qs h t ih =>
  obtain⟨h1,_,h2⟩:=h
  by_cases e:p.1=k
  ·have e':q.1=k:=h1.symm.trans e;have b:atKey (q::qs) k=some q.2:=by simp[atKey,List.find?_cons,e']
   rw[hG e,b];exact h2
  ·have e':¬ q.1=k:=λ z=>e (h1.trans z);have b:atKey (q::qs) k=atKey qs k:=by simp[atKey,List.find?_cons,e']
   rw[hB e,b];exact ih
theorem KT.afi{H:Hp}{kvs:List (List Key×V)}{xs:List (List Key×Addr×Value)}(r:KT H kvs xs)(k:List Key){y:V}{u:Value}(ry:RelV y u) :
  KT H (kvs.map λ kv=>if kv.1=k then (kv.1,y) else kv) (xs.map (putAt k u)):=by
 induction r with
 | nil=>exact .nil
 | @cons p q ps qs h t ih =>
  rw[List.map_cons,List.map_cons];refine .cons ?_ ih;obtain⟨h1,h2,h3⟩:=h;unfold putAt
  by_cases e:p.1=k
  ·rw[if_pos e,if_pos (h1.symm.trans e)];exact⟨h1,h2,ry⟩
  ·rw[if_neg e,if_neg (λ z=>e (h1.trans z))];exact⟨h1,h2,h3⟩
theorem KT.put{H:Hp}{kvs:List (List Key×V)}{xs:List (List Key×Addr×Value)}(r:KT H kvs xs)(k:List Key){b:Addr}{y:V}{u:Value}(hb:H b=some (.tup (k.map kV)))(ry:RelV y u) :
  KT H (putK kvs k y) (storedH xs k b u):=by
 have e:(kvs.any λ kv=>decide (kv.1=k))=(atKey xs k).isSome:=by rw[kD,(r.val k).jo,Option.isSome_map]
 unfold putK storedH;rw[e]
 by_cases q:(atKey xs k).isSome=true
 ·rw[if_pos q,if_pos q];exact r.afi k ry
 ·rw[if_neg q,if_neg q];exact Paired.snoc r ⟨rfl,hb,ry⟩
theorem KT.keeps{H H':Hp}{kvs:List (List Key×V)}{xs:List (List Key×Addr×Value)}(r:KT H kvs xs)(ht:∀ b ys,H b=some (.tup ys)->H' b=some (.tup ys)):KT H' kvs xs:=
 Paired.j6 r λ _ _ z=>⟨z.1,ht _ _ z.2.1,z.2.2⟩
section
variable {P:Program}{w:World}{H:Hp}{h:Heap}{a:Addr}
theorem ac6{u:HO}(ok:HOk P w H h)(e:Rd H a u):cD P w H h a u:=e.ok ok
theorem vv{kvs:List (Key×V)}(ok:HOk P w H h)(e:Rd H a (.dK kvs)):kvs.length<=sizeLine/\(a==sysModules)=false/\∃ vs,KV kvs vs/\h.DictOf (bb P w) a vs:=
 show cD P w H h a (.dK kvs) from ac6 ok e
theorem abW{kvs:List (Key×V)}(ok:HOk P w H h)(e:H a=some (.dK kvs)):kvs.length<=sizeLine/\(a==sysModules)=false/\∃ vs,KV kvs vs/\h.DictOf (bb P w) a vs:=vv ok (.inl e)
theorem zZ{ks:List Key}(ok:HOk P w H h)(e:H a=some (.tup (ks.map kV))):(tupleKind (bb P w)).is h ks a:=by obtain⟨_,its,r,o,h1,h2,_,n,h3⟩:=(show cD P w H h a (.tup (ks.map kV)) from ok a _ e);exact⟨o,its.toArray,n,h1,h2,h3,by simpa using lH r⟩
theorem ady{kvs:List (List Key×V)}(ok:HOk P w H h)(e:Rd H a (.dT kvs)):kvs.length<=sizeLine/\(a==sysModules)=false /\
  ∃ xs,KT H kvs xs/\h.DictOfH (tupleKind (bb P w)) a xs:=by
 obtain⟨z,y,xs,r,o,es,ep,h1,h2,h3,h4,h5⟩:=(show cD P w H h a (.dT kvs) from ac6 ok e);refine⟨z,y,xs,r,o,es,ep,h1,h2,h3,h4,λ x hx=>?_,h5⟩;have all:∀ {l:List (List Key×V)} {m:List (List Key×Addr×Value)},KT H l m->∀ x∈m,(tupleKind (bb P w)).is h x.1 x.2.1:=by
  intro l m q
  induction q with
  | nil=>intro x hx;exact nomatch hx
  | @cons p q ps qs hq t ih =>
   intro x hx;rcases List.mem_cons.mp hx with e | hx
   ·subst e;exact zZ ok (by rw[<- hq.1];exact hq.2.1)
   ·exact ih x hx
 exact all r x hx
theorem afZ{kvs:List (List Key×V)}(ok:HOk P w H h)(e:H a=some (.dT kvs)):kvs.length<=sizeLine/\(a==sysModules)=false /\
  ∃ xs,KT H kvs xs/\h.DictOfH (tupleKind (bb P w)) a xs:=ady ok (.inl e)
end
def aeU(H:Hp)(a:Addr)(y:V)(r:Option V):Prop:=
 (∃ kvs k,Rd H a (.dK kvs)/\y=kV k/\r=kg kvs k)\/∃ kvs k b,Rd H a (.dT kvs)/\y=.ref b/\H b=some (.tup (k.map kV))/\r=kg kvs k
def abk(H:Hp)(a:Addr)(y v:V)(H':Hp):Prop:=
 (∃ kvs k,H a=some (.dK kvs)/\y=kV k/\kvs.length<sizeLine/\H'=upd H a (.dK (putK kvs k v))) \/
 ∃ kvs k b,H a=some (.dT kvs)/\y=.ref b/\H b=some (.tup (k.map kV))/\kvs.length<sizeLine/\H'=upd H a (.dT (putK kvs k v))
theorem aeU.k{H:Hp}{a:Addr}{kvs:List (Key×V)}{k:Key}(e:H a=some (.dK kvs)):aeU H a (kV k) (kg kvs k):=.inl ⟨kvs,k,.inl e,rfl,rfl⟩
theorem aeU.t{H:Hp}{a b:Addr}{kvs:List (List Key×V)}{k:List Key}(e:H a=some (.dT kvs))(eb:H b=some (.tup (k.map kV))):aeU H a (.ref b) (kg kvs k):=.inr ⟨kvs,k,b,.inl e,rfl,eb,rfl⟩
theorem abk.k{H:Hp}{a:Addr}{kvs:List (Key×V)}{k:Key}{v:V}(e:H a=some (.dK kvs))(hl:kvs.length<sizeLine):abk H a (kV k) v (upd H a (.dK (putK kvs k v))):=.inl ⟨kvs,k,e,rfl,hl,rfl⟩
theorem abk.t{H:Hp}{a b:Addr}{kvs:List (List Key×V)}{k:List Key}{v:V}(e:H a=some (.dT kvs))(eb:H b=some (.tup (k.map kV)))(hl:kvs.length<sizeLine) :
  abk H a (.ref b) v (upd H a (.dT (putK kvs k v))):=.inr ⟨kvs,k,b,e,rfl,eb,hl,rfl⟩
section
variable {X:Cx}{pins:PN}{σ:St}{H:Hp}{s:Shared}{a:Addr}{y v:V}{u r:Value}{o:Option V}{A:Around}{E:VP}
theorem Inv.big(I:Inv X pins σ H s):sysModules<s.heap.objs.size:=by have h:mainGlobals<s.heap.objs.size:=(I.mod.glob.keeps I.bk).lt;exact Nat.lt_trans (by decide) h
theorem rF{h':Heap}{t':Nat}{ob:HO}(I:Inv X pins σ H s)(mu:Mut (H a))(hs:Heap.SameBut a s.heap h')(he:∃ q,h'.get? a=some q)(new:cD X.prog X.w (upd H a ob) h' a ob) :
  Inv X pins σ (upd H a ob) {s with heap:=h',toks:=t'}:=
 I.write (x:=a) (e:=a) mu (.inl rfl) (λ b q hb z=>(hs.2 b hb).trans z) he new
theorem u6{P:Program}{w:World}{H':Hp}{h':Heap}{kvs:List (Key×V)}{vs:List (Key×Value)}(z:kvs.length<=sizeLine)(hd:(a==sysModules)=false)(rel:KV kvs vs)(dd:h'.DictOf (bb P w) a vs) :
  cD P w H' h' a (.dK kvs):=⟨z,hd,vs,rel,dd⟩
theorem qx{H':Hp}{Q:Unit->Shared->Prop}(hu:A.units+1<cLine)(I:Inv X pins σ H s)(g:abk H a y v H')(ry:RelV y u)(rv:RelV v r)(h:∀ s',Inv X pins σ H' s'->Q () s') :
  wpAny (model X.prog X.w) A (setItem (.ref a) u r) Q E s:=by
 rcases g with ⟨kvs,k,e,ey,l,eH⟩ | ⟨kvs,k,b,e,ey,eb,l,eH⟩
 ·subst ey eH;obtain⟨z,hd,vs,rel,dd⟩:=abW I.hok e;have hz:vs.length<=sizeLine:=by rw[<- rel.length];exact z
  have hl:(putK kvs k v).length<=sizeLine:=by have:=iG kvs k v;omega
  refine wpAny_setItem_pairs (hsz:=hz) (oM ry) dd λ h' dd' hs=>h _ ?_;have he:∃ q,h'.get? a=some q:=let ⟨q,_,_,hq,_⟩:=dd'; ⟨q,hq⟩;exact rF I (by rw[e];exact True.intro) hs he (u6 hl hd (rel.put k rv) dd')
 ·subst ey eH;cases (show u=Value.ref b from ry);obtain⟨z,hd,xs,rel,dd⟩:=afZ I.hok e;have hz:xs.length<=sizeLine:=by rw[<- Paired.length rel];exact z
  have hl:(putK kvs k v).length<=sizeLine:=by have:=iG kvs k v;omega
  refine wpAny_setItem_heap (hsz:=hz) (tupleKind_room_in1 hu) (zZ I.hok eb) dd λ h' dd' hs=>h _ ?_;obtain⟨q,es,ep,hq,h2,h3,h4,_,h5⟩:=dd';refine rF I (by rw[e];exact True.intro) hs ⟨q,hq⟩ ⟨hl,hd,_,(rel.put k eb rv).keeps λ c ys ec=>?_,q,es,ep,hq,h2,h3,h4,h5⟩;rw[au (abu ec e (λ z=>nomatch z))];exact ec
end
section
variable {X:Cx}{pins:PN}{σ:St}{H:Hp}{s:Shared}{a:Addr}{kvs:List (Key×V)}{k:Key}{u:Value}{A:Around}{E:VP}
end
def y0(i:Expr):Prop:=∀ ov iv,subscripted i false ov iv=operate [ov,iv] (getItem ov iv)
theorem sg{prog:Program}{w:World}{A:Around}{E:VP}{s:Shared}{env:Env}{value slice:Expr}{pos:Pos}{T id:String}{Q:VP}
  (hl:typeLookup (.type T) "__getitem__" = pure (some (.builtin id)))(hs:y0 slice)
  (h:wpAny (model prog w) A (eval value env) (λ o s₁=>wpAny (model prog w) A (eval slice env) (λ i s₂=>s₂.TypeIs o T/\wpAny (model prog w) A (getItem o i) Q E s₂) E s₁) E s) :
  wpAny (model prog w) A (eval (.Subscript value slice pos) env) Q E s:=by
 refine Subscript_ (wpAny_mono h (λ o s₁ h₁=>wpAny_mono h₁ (λ i s₂ h₂=>?_) λ _ _ x=>x) λ _ _ x=>x);obtain⟨hT,h₂⟩:=h₂;unfold subscriptTail;refine wpAny_bind ?_;rw[getitemInPython_of_ne hT.not_modules];refine wpAny_bind (wpAny_specialOf hT hl ?_);have fin:wpAny (model prog w) A (subscripted slice false o i) (λ r s₃=>wpAny (model prog w) A (letTemporaryGo value o r >>= λ _=>pure r) Q E s₃) E s₂:=by rw[hs o i];exact wpAny_operating (wpAny_mono h₂ (λ r s₃ h₃=>wpAny_bind (wpAny_letTemporaryGo (wpAny_pure h₃))) λ _ _ x=>x)
 first
  | exact wpAny_pure (wpAny_bind fin)
  | exact wpAny_bind (wpAny_pure (wpAny_bind fin))
  | exact wpAny_bind fin
def agw(td ty tv:TE):TS:=λ D σ H=>tv σ H λ v H1=>td σ H1 λ x H2=>ty σ H2 λ y H3=>∃ a H4,x=.ref a/\abk H3 a y v H4/\D.nx σ H4
section
variable {X:Cx}{o i e value:Expr}{pos pos' tpos:Pos}{td ty tv:TE}
theorem abN(hu:X.A.units+1<cLine)(ho:PE X o td)(hi:PE X i ty)(hv:PE X value tv)(hs:swapsWith value (some (.Subscript o i pos')) pos.line X.env=pure false) :
  PS X (.Assign [.Subscript o i pos'] value pos) (agw td ty tv):=by
 intro pins s σ H D I h;refine wpAny_Assign_Subscript (thn (hv pins s σ H _ I h) λ r s1 ⟨v,H1,I1,rv,q1⟩=>thn (ho pins s1 σ H1 _ I1 q1) λ u s2 ⟨x,H2,I2,rx,q2⟩=>thn (hi pins s2 σ H2 _ I2 q2) λ iv s3 ⟨y,H3,I3,ry,a,H4,ex,g,q3⟩=>?_) hs;subst ex;obtain rfl:u=Value.ref a:=rx;exact qx hu I3 g ry rv λ s4 I4=>⟨σ,H4,I4,q3⟩
end
theorem sX{P:Program}{w:World}{H:Hp}(h:Heap)(hb:sysModules<h.objs.size):cD P w H (h.push {cls:=.type "dict",data:=.dict #[]}) h.objs.size (.dK []):=
 ⟨Nat.zero_le _,beq_eq_false_iff_ne.mpr (Ne.symm (Nat.ne_of_lt hb)),[],.nil,Heap.DictOf.new h⟩
def aed:TE:=λ _ H Q=>∀ p,H p=none->Q (.ref p) (upd H p (.dK []))
section
variable {X:Cx}{pos:Pos}
theorem yf:PE X (.Dict [] [] pos) aed:=λ pins s σ H Q I h =>
 wpAny_Dict_empty ⟨.ref s.heap.objs.size,_,I.laid (a:=s.heap.objs.size) (o:=.dK []) (t':=s.toks) (λ _ _ q=>Heap.get?_push_of_some _ q) (Nat.le_refl _) (sX s.heap I.big),rfl,h _ (I.hok.fresh (Nat.le_refl _))⟩
end
def sZ:List (TE×TE)->St->Hp->(List (V×V)->Hp->Prop)->Prop
 | [],_,H,Q=>Q [] H
 | (tk,tv)::r,σ,H,Q=>tk σ H λ x H1=>tv σ H1 λ y H2=>sZ r σ H2 λ ps H3=>Q ((x,y)::ps) H3
abbrev VV:List (V×V)->List (Value×Value)->Prop:=Paired λ p q=>RelV p.1 q.1/\RelV p.2 q.2
def PPs(X:Cx)(pos:Pos)(keys:List (Option Expr))(values:List Expr)(trs:List (TE×TE)):Prop:=
 ∀ (pins:PN) (s:Shared) (σ:St) (H:Hp) (Q:List (V×V)->Hp->Prop),Inv X pins σ H s->sZ trs σ H Q ->
  wpAny (model X.prog X.w) X.A (evalPairs (pairTrees keys values X.env pos)) (λ vs s'=>∃ ps H',Inv X pins σ H' s'/\VV ps vs/\Q ps H') X.xe s
theorem acb{X:Cx}{pos:Pos}:PPs X pos [] [] []:=λ pins s σ H Q I h=>pairTrees_nil_walk ⟨[],H,I,.nil,h⟩
theorem yB{X:Cx}{pos:Pos}{k v:Expr}{ks:List (Option Expr)}{vs:List Expr}{tk tv:TE}{trs:List (TE×TE)}(hk:PE X k tk)(hv:PE X v tv)(hr:PPs X pos ks vs trs) :
  PPs X pos (some k::ks) (v::vs) ((tk,tv)::trs):=λ pins s σ H Q I h =>
 pairTrees_cons_walk (thn (hk pins s σ H _ I h) λ u s1 ⟨x,H1,I1,rx,q1⟩=>thn (hv pins s1 σ H1 _ I1 q1) λ w2 s2 ⟨y,H2,I2,ry,q2⟩ =>
  thn (hr pins s2 σ H2 _ I2 q2) λ ws s3 ⟨ps,H3,I3,rel,q3⟩=>⟨(x,y)::ps,H3,I3,.cons ⟨rx,ry⟩ rel,q3⟩)
def iQ(kvs more:List (Key×V)):List (Key×V):=more.foldl (λ acc kv=>putK acc kv.1 kv.2) kvs
theorem KV.merge:∀ {more:List (Key×V)} {rs:List (Key×Value)} {kvs:List (Key×V)} {vs:List (Key×Value)},KV more rs->KV kvs vs->KV (iQ kvs more) (merged vs rs):=by
 intro more rs kvs vs r;unfold KV at r
 induction r generalizing kvs vs with
 | nil=>intro q;exact q
 | @cons p q ps qs h t ih =>
  intro r0;have e:KV (putK kvs p.1 p.2) (stored vs q.1 q.2):=by have:=r0.put p.1 h.2;rw[<- h.1];exact this
  exact ih e
theorem jb:∀ (more kvs:List (Key×V)),(iQ kvs more).length<=kvs.length+more.length
 | [],kvs=>by show kvs.length<=kvs.length+0;omega
 | p::r,kvs=>by have h1:=jb r (putK kvs p.1 p.2);have h2:=iG kvs p.1 p.2;show(iQ (putK kvs p.1 p.2) r).length<=_;rw[List.length_cons];omega
theorem mT{P:Program}{w:World}:∀ {kvs:List (Key×V)} {ws:List (Value×Value)},VV (kvs.map λ kv=>(kV kv.1,kv.2)) ws->∃ rs,Carries (bb P w) ws rs/\KV kvs rs
 | [],_,r=>by rw[List.map_nil] at r;cases r;exact⟨[],True.intro,.nil⟩
 | p::kvs,_,r=>by
  rw[List.map_cons] at r;cases r with
  | @cons a b as bs h t =>
   obtain⟨rs,c,q⟩:=mT (P:=P) (w:=w) t;obtain⟨b1,b2⟩:=b;exact⟨(p.1,b2)::rs,⟨oM h.1,rfl,c⟩,.cons ⟨rfl,h.2⟩ q⟩
def af9(trs:List (TE×TE)):TE:=λ σ H Q=>∀ p,H p=none->sZ trs σ (upd H p (.dK [])) λ ps H2=>H2 p=some (.dK [])/\∃ kvs:List (Key×V),ps=kvs.map (λ kv=>(kV kv.1,kv.2))/\kvs.length<=15/\Q (.ref p) (upd H2 p (.dK (iQ [] kvs)))
theorem aaV{X:Cx}{pos:Pos}{keys:List (Option Expr)}{values:List Expr}{trs:List (TE×TE)}(h:PPs X pos keys values trs)(hall:keys.all (·.isSome)=true)(hl:keys.length=values.length)(h0:keys≠[])
  (h15:keys.length<=15):PE X (.Dict keys values pos) (af9 trs):=by
 intro pins s σ H Q I q;have hn:=I.hok.fresh (Nat.le_refl s.heap.objs.size);have I1:=I.laid (a:=s.heap.objs.size) (o:=.dK []) (h':=s.heap.push {cls:=.type "dict",data:=.dict #[]}) (t':=s.toks) (λ _ _ q=>Heap.get?_push_of_some _ q) (Nat.le_refl _) (sX s.heap I.big);refine wpAny_Dict_walk (knd:=bb X.prog X.w) hall hl h0 h15 (thn (h pins _ σ _ _ I1 (q _ hn)) λ ws s2 hq27=>?_);obtain⟨ps,H2,I2,rel,e,kvs,ep,lk,q2⟩:=hq27;subst ep;obtain⟨rs,c,rk⟩:=mT (P:=X.prog) (w:=X.w) rel;obtain⟨z,hd,vs0,r0,dd⟩:=abW I2.hok e;cases r0;refine⟨rs,c,dd,λ h' dd' hs=>⟨.ref s.heap.objs.size,_,?_,rfl,q2⟩⟩;have hz:(iQ [] kvs).length<=sizeLine:=by have h1:=jb kvs [];rw[List.length_nil] at h1;rw[sizeLine_eq];omega
 have he:∃ q,h'.get? s.heap.objs.size=some q:=let ⟨q,_,_,hq,_⟩:=dd'; ⟨q,hq⟩;exact rF I2 (by rw[e];exact True.intro) hs he (u6 hz hd (rk.merge .nil) dd')
structure M1(X:Cx)(o:Expr)(m:Str)(apos:Pos)(e:Expr)(cpos:Pos):Prop where
 base:attributeBase o m X.env (eval o X.env)=eval o X.env
 few:((backTo cpos (starEach [e] X.env)).all (λ x=>!x.1)&&(backToKw cpos (keywordEach [] X.env)).all (λ x=>x.1.isSome)
  && decide (([e]:List Expr).length+([]:List Keyword).length+(if ([]:List Keyword).isEmpty then 0 else 1)<30))=true
 line:(apos.endLine==cpos.line)=true
 trees:backTo cpos (starEach [e] X.env)=[(false,eval e X.env)]
structure M2(X:Cx)(o:Expr)(m:Str)(apos:Pos)(e f:Expr)(cpos:Pos):Prop where
 base:attributeBase o m X.env (eval o X.env)=eval o X.env
 few:((backTo cpos (starEach [e,f] X.env)).all (λ x=>!x.1)&&(backToKw cpos (keywordEach [] X.env)).all (λ x=>x.1.isSome)
  && decide (([e,f]:List Expr).length+([]:List Keyword).length+(if ([]:List Keyword).isEmpty then 0 else 1)<30))=true
 line:(apos.endLine==cpos.line)=true
 trees:backTo cpos (starEach [e,f] X.env)=[(false,eval e X.env),(false,eval f X.env)]
def IsD(H:Hp)(a:Addr):Prop:=(∃ kvs,Rd H a (.dK kvs))\/∃ kvs,Rd H a (.dT kvs)
section
variable {X:Cx}{pins:PN}{σ:St}{H:Hp}{s:Shared}{a:Addr}{y d:V}{u r:Value}{o:Option V}{A:Around}{E:VP}
end
section
variable {X:Cx}{o e f:Expr}{apos cpos:Pos}{td ty tx:TE}
end
section
variable {X:Cx}{pins:PN}{σ:St}{H:Hp}{s:Shared}{a:Addr}{kvs:List (Key×V)}{A:Around}{E:VP}
theorem yw{Q:VP}(I:Inv X pins σ H s)(e:Rd H a (.dK kvs))(h:∀ p s',H p=none->Inv X pins σ (upd H p (.dK kvs)) s'->Q (.ref p) s'):wpAny (model X.prog X.w) A (call (.type "dict") [.ref a]) Q E s:=by obtain⟨z,hd,vs,rel,dd⟩:=vv I.hok e;refine kt_call_dict hd dd (by rw[<- rel.length];exact z) λ h' dd' hs=>?_;refine h _ _ (I.hok.fresh (Nat.le_refl _)) (I.laid (a:=s.heap.objs.size) (o:=.dK kvs) (t':=s.toks) (λ b q hq=>?_) (Nat.le_refl _) (u6 z (beq_eq_false_iff_ne.mpr (Ne.symm (Nat.ne_of_lt I.big))) rel dd'));exact(hs.2 b (Nat.ne_of_lt (Heap.lt_size hq))).trans (Heap.get?_push_of_some _ hq)
end
section
variable {X:Cx}{pins:PN}{σ:St}{H:Hp}{s:Shared}{a:Addr}{y:V}{u:Value}{A:Around}{E:VP}
end
end L2
set_option maxHeartbeats 0
namespace L2
def Fz:HO->Prop
 | .lst _=>True
 | .dK _=>True
 | _=>False
theorem adq(e:H p=some u)(f:Fz u):Un fs ex H (upd H p (.frz o u)) h h where
 keep:=λ b ob q _ _ _=>q
 slot:=λ b ob q _ _ _=>⟨ob.slots,q⟩
 free:=λ b ob _ n _=>by rw[au (Ne.symm (bw e n))];exact n
 there:=λ b ob q _=>⟨ob,q⟩
 lW:=λ b xs q=>by
  have:b≠p:=λ z=>by subst z;rw[e] at q;cases q;exact f
  rw[au this];exact q
 frzs:=λ b ob v q=>by
  have:b≠p:=λ z=>by subst z;rw[e] at q;cases q;exact f
  rw[au this];exact q
 tbls:=λ b ps q=>by
  have:b≠p:=λ z=>by subst z;rw[e] at q;cases q;exact f
  exact⟨#[],by rw[au this,q];simp⟩
theorem cD.afq(f:Fz u)(x:cD P w H h a u):cD P w H' h a u:=by
 cases u with
 | lst xs=>exact x
 | dK kvs=>exact x
 | _=>exact f.elim
theorem cD.obj(f:Fz u)(x:cD P w H h a u):∃ o,h.get? a=some o:=by
 cases u with
 | lst xs=>obtain⟨_,_,_,_,e⟩:=x;exact⟨_,e⟩
 | dK kvs=>obtain⟨_,_,_,_,o,_,_,e,_⟩:=x;exact⟨o,e⟩
 | _=>exact f.elim
theorem Inv.freeze(I:Inv X pins σ H s)(e:H p=some u)(f:Fz u):∃ o,Inv X pins σ (upd H p (.frz o u)) s:=by
 obtain⟨o,ho⟩:=(I.hok p u e).obj f;refine⟨o,I.un (h':=s.heap) (t':=s.toks) (adq e f) λ b v q=>?_⟩
 by_cases hb:b=p
 ·subst hb;rw[ax] at q;cases q;exact⟨ho,(I.hok b u e).afq f⟩
 ·rw[au hb] at q;refine(I.hok b v q).rG (λ _ _ _ q=>q) (λ c r=>?_) λ c xs r=>?_
  ·have:c≠p:=λ z=>by subst z;rw[e] at r;cases r;exact f
   rw[au this];exact r
  ·have:c≠p:=λ z=>by subst z;rw[e] at r;cases r;exact f
   rw[au this];exact r
def agE(t:TE):TE:=λ σ H Q=>t σ H λ v H1=>∃ p u,v=.ref p/\H1 p=some u/\Fz u/\∀ o,Q v (upd H1 p (.frz o u))
theorem xD(h:PE X e t):PE X e (agE t):=by intro pins s σ H Q I hq;refine thn (h pins s σ H _ I hq) λ v s1 hq28=>?_;obtain⟨x,H1,I1,r1,p,u,e1,e2,f,q⟩:=hq28;obtain⟨o,I2⟩:=I1.freeze e2 f;exact⟨x,_,I2,r1,q o⟩
theorem Inv.afs(I:Inv X pins σ H s)(e:s.heap.get? D=some {cls:=.type "list",data:=.seq us.toArray n})(hn:H D=none)(hv:Vals ys us)(hz:ys.length<=sizeLine)
  (h0:X.s₀.heap.objs.size<=D)(hL:D≠X.env.locals)(hc:∀ x c,X.env.cells.lookup x=some c->c≠D)(hp:∀ p∈X.pn++pins,p.1≠D):Inv X pins σ (upd H D (.lst ys)) s:=by
 have ne:∀ b u,H b=some u->b≠D:=λ b u q=>bw q hn;refine I.step (h':=s.heap) (g':=s.gens) (d':=s.drawn) (t':=s.toks) (ch:=[D]) (λ b hb=>?_) (λ b o _ _ _ q _=>q) (λ b o _ _ _ q _=>⟨o.slots,q⟩) (λ b o hb q n=>?_) (λ b o _ q=>⟨o,q⟩)
  (λ b xs q=>by rw[au (ne b _ q)];exact q) (λ b o u q=>by rw[au (ne b _ q)];exact q) (λ b ps q=>⟨#[],by rw[au (ne b _ q),q];simp⟩) (λ m hm=>hm) (λ b u q=>?_) I.bare
 ·have e:b=D:=by simpa using hb
  subst e;exact⟨.inr h0,hL,hc,hp⟩
 ·rw[au (λ z=>hb (by simp[z]))];exact n
 ·by_cases hb:b=D
  ·subst hb;rw[ax] at q;cases q;exact⟨hz,us,n,hv,e⟩
  ·rw[au hb] at q;exact(I.hok b u q).rG (λ _ _ _ q=>q) (λ c r=>by rw[au (ne c _ r)];exact r) λ c xs r=>by rw[au (ne c _ r)];exact r
abbrev vb(ifs:List Expr)(env:Env):Sem Bool:=forIn ifs true λ c r=>if r=true then do let ok <- isTrue c env (eval c env);pure (ForInStep.yield ok) else pure (ForInStep.yield r)
theorem oY(I:Nat->Shared->Prop)
  (turn:∀ n s,I n s->wpAny (model prog w) A (pyNext it) (λ r s₁=>match r with
   | none=>R (.ok .next) s₁
   | some v=>wpAny (model prog w) A (letOwnedTupleGo target it v) (λ _ s₁'=>wpAny (model prog w) A (assign target env v) (λ _ s₂ =>
     wpAny (model prog w) A (vb ifs env) (λ ok s₃ =>
      if ok=true then wpAny (model prog w) A (eval elt env) (λ x s₄ =>
       wpAny (model prog w) A (call (.builtin "list.append") [acc,x]) (λ _ s₅=>∃ m,m<n/\I m s₅) (λ _ _=>False) s₄) (λ _ _=>False) s₃
      else ∃ m,m<n/\I m s₃) (λ _ _=>False) s₂) (λ _ _=>False) s₁') (λ _ _=>False) s₁) (λ _ _=>False) s)
  (n:Nat)(h:I n s) :
  codeAny (model prog w) A (.compLoop (.ListComp elt [⟨target,iter,ifs,0⟩] scope pos) 0 it acc env) R s:=by
 refine codeAny_loop rfl I (λ n s hI=>?_) n h;show wpAny _ A ((compTurn (.ListComp elt [⟨target,iter,ifs,0⟩] scope pos) 0 it acc env).onRaise (λ x=>do noteFrame x env;theTreesLotGoes x)) _ _ s;refine wpAny_noted ?_;rw[compTurn_list];refine wpAny_bind (wpAny_standAt (wpAny_bind (wpAny_mono (turn n s hI) (λ r s₁ h₁=>?_) λ _ _ h'=>h'.elim)));cases r with
 | none=>exact wpAny_pure h₁
 | some v =>
  refine wpAny_bind (wpAny_mono h₁ (λ _ s₁' h₁'=>?_) λ _ _ h'=>h'.elim);refine wpAny_bind (wpAny_mono h₁' (λ _ s₂ h₂=>wpAny_bind (wpAny_mono h₂ (λ ok s₃ h₃=>?_) λ _ _ h'=>h'.elim)) λ _ _ h'=>h'.elim);cases ok with
  | false=>exact wpAny_pure ⟨rfl,h₃⟩
  | true =>
   exact wpAny_bind (wpAny_bind (wpAny_mono h₃ (λ x s₄ h₄=>wpAny_bind (wpAny_mono h₄ (λ _ s₅ h₅=>wpAny_pure (wpAny_pure ⟨rfl,h₅⟩)) λ _ _ h'=>h'.elim)) λ _ _ h'=>h'.elim))
theorem p7(h:∀ x∈scope.names,x.2=.free->∃ c,env.cells.lookup x.1=some c) :
  ∃ cl,closureFor scope env=pure cl/\(∀ n c,cl.lookup n=some c->env.cells.lookup n=some c)/\(∀ n,(n,NameKind.free)∈scope.names->∃ c,cl.lookup n=some c):=by
 have key:∀ (l:List (Str×NameKind)) (cs:List (Str×Addr)),(∀ x∈l,x.2=.free->∃ c,env.cells.lookup x.1=some c)->(∀ n c,cs.lookup n=some c->env.cells.lookup n=some c) ->
   ∃ cl:List (Str×Addr),(forIn l cs λ x r=>match x with
    | (name,kind)=>if (kind==NameKind.free)=true then do let a <- cellOf env name;pure (ForInStep.yield ((name,a)::r)) else pure (ForInStep.yield r):Sem (List (Str×Addr)))=pure cl /\
    (∀ n c,cl.lookup n=some c->env.cells.lookup n=some c)/\(∀ n c,cs.lookup n=some c->∃ c,cl.lookup n=some c)/\(∀ n,(n,NameKind.free)∈l->∃ c,cl.lookup n=some c):=by
  intro l
  induction l with
  | nil=>intro cs _ hc;exact⟨cs,rfl,hc,λ n c e=>⟨c,e⟩,λ n hn=>nomatch hn⟩
  | cons x l ih =>
   intro cs hl hc;obtain⟨name,kind⟩:=x
   by_cases hk:kind=.free
   ·subst hk;obtain⟨c,e⟩:=hl (name,.free) List.mem_cons_self rfl;obtain⟨cl,h1,h2,h3,h4⟩:=ih ((name,c)::cs) (λ y hy=>hl y (List.mem_cons_of_mem _ hy)) (λ n d q=>by
     rw[List.lookup_cons] at q;cases hb:n==name with
     | true =>
      rw[hb] at q;cases q;rw[eq_of_beq hb];exact e
     | false =>
      rw[hb] at q;exact hc n d q)
    refine⟨cl,?_,h2,λ n d q=>?_,λ n hn=>?_⟩
    ·rw[List.forIn_cons];simp only[beq_self_eq_true,if_true,cellOf,e,pure_bind];exact h1
    ·cases hb:n==name with
     | true=>exact h3 n c (by rw[List.lookup_cons,hb])
     | false=>exact h3 n d (by rw[List.lookup_cons,hb];exact q)
    ·rcases List.mem_cons.mp hn with z | z
     ·cases z;exact h3 name c (by rw[List.lookup_cons];simp)
     ·exact h4 n z
   ·obtain⟨cl,h1,h2,h3,h4⟩:=ih cs (λ y hy=>hl y (List.mem_cons_of_mem _ hy)) hc;refine⟨cl,?_,h2,h3,λ n hn=>?_⟩
    ·rw[List.forIn_cons];have:(kind==NameKind.free)=false:=by simpa using hk
     simp only[this,Bool.false_eq_true,if_false,pure_bind];exact h1
    ·rcases List.mem_cons.mp hn with z | z
     ·cases z;exact absurd rfl hk
     ·exact h4 n z
 obtain⟨cl,h1,h2,_,h4⟩:=key scope.names [] h (λ n c e=>by simp at e);refine⟨cl,?_,h2,h4⟩;unfold closureFor;simp only[bind_pure];exact h1
theorem jU{sc:Scope}{env:Env}{x:Str}:∀ {names:List (Str×NameKind)},(names.map λ(n,k)=>if (k==NameKind.free&&env.scope.kind==.function&&env.kindOf n==some .cell) then (n,NameKind.cell) else (n,k)).lookup x=some .cell \/
  (names.map λ(n,k)=>if (k==NameKind.free&&env.scope.kind==.function&&env.kindOf n==some .cell) then (n,NameKind.cell) else (n,k)).lookup x=some .free->(∀ y∈names,y.2 ≠ .cell)->(x,NameKind.free)∈names
 | [],h,_=>by simp at h
 | (n,k)::r,h,hc=>by
  have ih:=@jU sc env x r
  by_cases hk:(k==NameKind.free&&env.scope.kind==.function&&env.kindOf n==some .cell)=true
  ·simp only[List.map_cons,if_pos hk,List.lookup_cons] at h;cases hx:x==n with
   | true =>
    have e:=eq_of_beq hx;subst e;simp only[Bool.and_eq_true] at hk;have:=eq_of_beq hk.1.1;subst this;exact List.mem_cons_self
   | false =>
    rw[hx] at h;exact List.mem_cons_of_mem _ (ih h λ y hy=>hc y (List.mem_cons_of_mem _ hy))
  ·simp only[List.map_cons,if_neg hk,List.lookup_cons] at h;cases hx:x==n with
   | true =>
    rw[hx] at h;have e:=eq_of_beq hx;subst e;rcases h with h | h
    ·cases h;exact absurd rfl (hc (x,.cell) List.mem_cons_self)
    ·cases h;exact List.mem_cons_self
   | false =>
    rw[hx] at h;exact List.mem_cons_of_mem _ (ih h λ y hy=>hc y (List.mem_cons_of_mem _ hy))
theorem fc{env:Env}{x:Str}:∀ {names:List (Str×NameKind)},names.lookup x=some .free ->
  (names.map λ(n,k)=>if (k==NameKind.free&&env.scope.kind==.function&&env.kindOf n==some .cell) then (n,NameKind.cell) else (n,k)).lookup x=some .cell \/
  (names.map λ(n,k)=>if (k==NameKind.free&&env.scope.kind==.function&&env.kindOf n==some .cell) then (n,NameKind.cell) else (n,k)).lookup x=some .free
 | [],h=>by simp at h
 | (n,k)::r,h=>by
  have ih:=@fc env x r
  by_cases hk:(k==NameKind.free&&env.scope.kind==.function&&env.kindOf n==some .cell)=true
  ·simp only[List.map_cons,if_pos hk,List.lookup_cons];cases hx:x==n with
   | true=>exact .inl rfl
   | false=>rw[List.lookup_cons,hx] at h;exact ih h
  ·simp only[List.map_cons,if_neg hk,List.lookup_cons];cases hx:x==n with
   | true=>rw[List.lookup_cons,hx] at h;exact .inr h
   | false=>rw[List.lookup_cons,hx] at h;exact ih h
def blk(X:Cx)(sc:Scope)(N':List Str)(cl:List (Str×Addr))(C:Addr)(s:Shared)(H:Hp)(ex:List Addr)(pins:PN):Cx:=
 {X with N:=N',s₀:=s,H₀:=H,env:=compEnvC sc cl C X.env,outer:=X.stack,ex:=ex,fn:=λ _=>false,pn:=X.pn++pins,xe:=λ _ _=>False}
def lcN(X:Cx)(own:List Str)(fr:List Nat):List Str:=own++fr.map λ j=>X.N.getD j Str.empty
def lcS(k:Nat)(fr:List Nat)(σ:St):St:=List.replicate k none++fr.map λ j=>(σ[j]?).getD none
def afc(N:List Str)(sc:Scope)(fr:List Nat):Bool:=fr.all λ j=>match N[j]? with
 | some x=>sc.names.lookup x==some .free
 | none=>false
structure aaf(X:Cx)(sc:Scope)(own:List Str)(fr:List Nat):Prop where
 kind:sc.kind=.function
 cell:∀ y∈sc.names,y.2 ≠ .cell
 free:∀ y∈sc.names,y.2=.free->(X.env.kindOf y.1=some .cell\/X.env.kindOf y.1=some .free)
 names:∀ y∈sc.names,y.2=.local->sc.names.lookup y.1=some .local
 fr:afc X.N sc fr=true
def PTs(X:Cx)(ifs:List Expr)(t:TT):Prop:=
 ∀ (pins:PN) (s:Shared) (σ:St) (H:Hp) (Q:Bool->Hp->Prop),Inv X pins σ H s->t σ H Q->wpAny (model X.prog X.w) X.A (vb ifs X.env) (TP X pins σ Q) X.xe s
def ag3:TT:=λ _ H Q=>Q true H
theorem abO:PTs X [] ag3:=λ _ _ _ H _ I h=>wpAny_tests_nil ⟨H,I,h⟩
theorem xU(h:afc N sc fr=true)(hj:j∈fr):∃ x,N[j]? =some x/\sc.names.lookup x=some .free:=by
 have q:=List.all_eq_true.mp h j hj;cases e:N[j]? with
 | none=>simp[e] at q
 | some x =>
  simp only[e] at q;exact⟨x,rfl,eq_of_beq q⟩
theorem acQ(L:aaf X sc own fr)(I:Inv X pins σ H s)(hf:∀ b∈fp,uA X pins H b)(hb:∀ b∈fp,b<s.heap.objs.size)(hC:s.heap.objs.size<=C)
  (c1:∀ n c,cl.lookup n=some c->X.env.cells.lookup n=some c)(c2:∀ n,(n,NameKind.free)∈sc.names->∃ c,cl.lookup n=some c):(blk X sc (lcN X own fr) cl C s H fp pins).Ok where
 mod:=I.ok.mod
 kind:=L.kind
 glob:=I.ok.glob
 blt:=I.ok.blt
 above:=hC
 inj:=λ x y c a b=>I.ok.inj x y c (c1 _ _ a) (c1 _ _ b)
 has:=λ x hx=>c2 x (jU (sc:=sc) (env:=X.env) hx L.cell)
 cab:=λ x c z=>absurd (show false=true from z) Bool.false_ne_true
 hd:=I.ok.hd
 frames:=I.ok.frames
 stk:=.inl rfl
 exf:=λ b z=>⟨Nat.ne_of_lt (Nat.lt_of_lt_of_le (hb b z) hC),λ x c e=>(hf b z).2.2.2.2.1 x c (c1 _ _ e)⟩
 bs:=I.bs
 bsz:=Nat.le_trans I.ok.bsz I.sz
 noex:=λ b o e z=>by
  rcases(hf b z).2.2.2.1 with q | q
  ·exact I.ok.noex b o e q
  ·exact absurd (Nat.lt_of_lt_of_le (Heap.lt_size e) (Nat.le_trans I.ok.bsz q)) (Nat.lt_irrefl _)
 exfs:=λ b z q=>by
  rcases List.mem_cons.mp (I.nk b q) with e | e
  ·exact(hf b z).2.1 e
  ·exact(hf b z).2.2.1 e
 ng:=I.stack
 frf:=I.qZ
theorem abG(L:aaf X sc own fr)(I:Inv X pins σ H s)(hf:∀ b∈fp,uA X pins H b)(hb:∀ b∈fp,b<s.heap.objs.size)(hC:s.heap.objs.size<=C)
  (c1:∀ n c,cl.lookup n=some c->X.env.cells.lookup n=some c)(c2:∀ n,(n,NameKind.free)∈sc.names->∃ c,cl.lookup n=some c)
(hn:h1.Ns C m) (k:∀ b o,s.heap.get? b=some o->h1.get? b=some o) :
  Inv (blk X sc (lcN X own fr) cl C s H fp pins) [] (lcS own.length fr σ) H {s with heap:=h1,toks:=tk}:=by
 have ok:=acQ L I hf hb hC c1 c2;refine⟨ok,rfl,I.bare,Un.kept k,⟨m,hn,λ i x v e1 e2 e3=>?_⟩,λ x c e=>?_,I.hok.fresh hC,λ x c e=>I.freeC x c (c1 _ _ e),λ p hp=>?_,I.hok.kept k,?_⟩
 ·-- one of the names around
  have hi:¬ i<own.length:=λ hi=>by
   unfold lcS at e2;rw[List.getElem?_append_left (by simpa using hi),List.getElem?_replicate] at e2
   split at e2<;>cases e2
  have e1':(lcN X own fr)[i]? =some x:=e1;unfold lcN at e1';unfold lcS at e2;rw[List.getElem?_append_right (by omega),List.getElem?_map] at e1';rw[List.getElem?_append_right (by simpa using hi),List.getElem?_map,List.length_replicate] at e2;cases q:fr[i-own.length]? with
  | none=>rw[q] at e1';cases e1'
  | some j =>
   rw[q] at e1' e2;obtain⟨y,hy,hyf⟩:=xU L.fr (List.mem_of_getElem? q);have ex:y=x:=by have:=Option.some.inj e1';rw[<- this];simp[List.getD,hy]
   subst ex;have ev:σ[j]? =some (some v):=by
    have z:(σ[j]?).getD none=some v:=Option.some.inj e2;cases w:σ[j]? with
    | none=>rw[w] at z;cases z
    | some o=>rw[w] at z;exact congrArg some z
   have hm:(y,NameKind.free)∈sc.names:=PySem.mem_of_lookup hyf;have hk:=L.free _ hm rfl;have vis:Vis X.env.scope y:=by
    rcases hk with z | z
    ·exact .inr (.inl z)
    ·exact .inr (.inr z)
   obtain⟨m0,hn0,hl⟩:=I.loc;obtain⟨u,r,l⟩:=hl j y v hy ev vis;refine⟨u,r,.inr ⟨?_,?_⟩⟩
   ·exact fc (env:=X.env) hyf
   ·obtain⟨c,hc⟩:=c2 y hm;rcases l with ⟨z,_⟩ | ⟨_,c',hc',hcell⟩
    ·rcases hk with q | q
     ·exact absurd (show X.env.kindOf y=some .local from z) (by rw[q];decide)
     ·exact absurd (show X.env.kindOf y=some .local from z) (by rw[q];decide)
    ·have:c=c':=Option.some.inj ((c1 _ _ hc).symm.trans hc');subst this;obtain⟨o,ho,hd⟩:=hcell;exact⟨c,hc,o,k _ _ ho,hd⟩
 ·obtain⟨v,o,ho,hd⟩:=I.cell x c (c1 _ _ e);exact⟨v,o,k _ _ ho,hd⟩
 ·have hp':p∈X.pn++pins:=by simpa [blk] using hp
  obtain⟨a1,a2,a3,a4,a5⟩:=I.pin p hp';refine⟨k _ _ a1,a2,Nat.ne_of_lt (Nat.lt_of_lt_of_le (Heap.lt_size a1) hC),λ q=>?_,a5⟩;rcases List.mem_cons.mp (I.nk _ q) with e | e
  ·exact a3 e
  ·exact a4 e
 ·show(lcS own.length fr σ).length=(lcN X own fr).length;simp[lcS,lcN]
abbrev LcW:=Nat->Nat->List V->St->Hp->Prop
def zN(J:It)(g:TG)(tt:TT)(te:TE)(W:LcW)(Fin:List V->Hp->Prop):Prop:=∀ i m ys τ H,W i m ys τ H ->
 (J.stop i H/\Fin ys H)\/(J.go i H/\ys.length<sizeLine/\∀ x H',J.yld i H x H'->g x τ H' λ τ2 H2=>tt τ2 H2 λ b H3 =>
  if b=true then te τ2 H3 λ y H4=>∃ m',m'<m/\W (i+1) m' (ys++[y]) τ2 H4 else ∃ m',m'<m/\W (i+1) m' ys τ2 H3)
section
variable {X:Cx}{pins:PN}{σ:St}{H:Hp}{s:Shared}{sc:Scope}{own:List Str}{fr:List Nat}{cl:List (Str×Addr)}{fp:List Addr}{it:Addr}{J:It}{tn:Nat->Heap->Prop}{g:TG}{tt:TT}{te:TE}{W:LcW}{Fin:List V->Hp->Prop}
 {elt tg iter:Expr}{ifs:List Expr}{pos:Pos}{E:VP}
theorem abi{RR:Value->Addr->Result->Shared->Prop}(hc:X.calm=true)(L:aaf X sc own fr)(hcl1:∀ n c,cl.lookup n=some c->X.env.cells.lookup n=some c)(hcl2:∀ n,(n,NameKind.free)∈sc.names->∃ c,cl.lookup n=some c)
  (hg:∀ C s H ex pl,PG (blk X sc (lcN X own fr) cl C s H ex pl) tg g)(ht:∀ C s H ex pl,PTs (blk X sc (lcN X own fr) cl C s H ex pl) ifs tt)(he:∀ C s H ex pl,PE (blk X sc (lcN X own fr) cl C s H ex pl) elt te)
  (I:Inv X pins σ H s)(T:Turn X.prog X.w X.K tg J fp it tn)(st:tn 0 s.heap)(hf:∀ b∈fp,uA X pins H b)(w0:∃ m,W 0 m [] (lcS own.length fr σ) H)(turn:zN J g tt te W Fin)
  (hRR:∀ (D C:Addr) (s':Shared) (H':Hp) (ys:List V) (us:List Value) (n:Nat) (m:Str->Option Value),Inv X pins σ H' s'->s'.heap.get? D=some {cls:=.type "list",data:=.seq us.toArray n}->Vals ys us->ys.length<=sizeLine->H' D=none->H' C=none ->
   s.heap.objs.size<=D->s.heap.objs.size<=C->D≠C->s'.heap.Ns C m->Fin ys H'->RR (.ref D) C (.ok .next) s') :
  wpAny (model X.prog X.w) X.A (newList []) (λ acc s₃=>wpAny (model X.prog X.w) X.A (newFunctionEnv sc X.env.globals cl [] X.env.qual none .none (some X.env)) (λ cenv s₄ =>
   codeAny (model X.prog X.w) X.A (.compStart (.ListComp elt [⟨tg,iter,ifs,0⟩] sc pos) 0 (.ref it) acc {cenv with scope:=relabel sc X.env}) (RR acc cenv.locals) s₄) E s₃) E s:=by
 refine wpAny_newObj_type (wpAny_newFunctionEnv L.cell (by intro y hy;simp at hy) (λ h₁ hns₁ hsb₁=>?_) L.kind);dsimp only at hns₁ hsb₁ ⊢;generalize hH2:s.heap.push {cls:=.type "list",dict:=none,data:=.seq ([]:List Value).toArray}=H2 at hns₁ hsb₁ ⊢;have hCs:H2.objs.size=s.heap.objs.size+1:=by rw[<- hH2,Heap.size_push]
 have hD0:s.heap.objs.size≠H2.objs.size:=by rw[hCs];exact Nat.ne_of_lt (Nat.lt_succ_self _)
 have hCle:s.heap.objs.size<=H2.objs.size:=by rw[hCs];exact Nat.le_succ _
 have below:∀ b,b<s.heap.objs.size->b≠H2.objs.size/\b≠s.heap.objs.size:=λ b hb=>⟨by rw[hCs];exact Nat.ne_of_lt (Nat.lt_succ_of_lt hb),Nat.ne_of_lt hb⟩;have old:∀ b o,s.heap.get? b=some o->h₁.get? b=some o:=λ b o e=>hsb₁.extBut b o (below b (Heap.lt_size e)).1 (Heap.get?_push_of_some _ (hH2 ▸ Heap.get?_push_of_some _ e));have hacc:h₁.get? s.heap.objs.size=some {cls:=.type "list",data:=.seq ([]:List Value).toArray 0}:=hsb₁.extBut _ _ hD0 (Heap.get?_push_of_some _ (hH2 ▸ Heap.get?_push_size _ rfl));have hfb:∀ b∈fp,b<s.heap.objs.size:=λ b hb=>by obtain⟨o,e,_⟩:=T.obj 0 _ st b hb;exact Heap.lt_size e
 have I1:Inv (blk X sc (lcN X own fr) cl H2.objs.size s H fp pins) [] (lcS own.length fr σ) H {s with heap:=h₁,toks:=s.toks+([]:List (Str×Value)).length}:=abG L I hf hfb hCle hcl1 hcl2 hns₁ old;have st1:tn 0 h₁:=T.keep 0 _ _ st λ b _ o e=>old b o e;generalize hY:blk X sc (lcN X own fr) cl H2.objs.size s H fp pins=Y at I1;have hYp:Y.prog=X.prog:=by rw[<- hY];rfl
 have hYw:Y.w=X.w:=by rw[<- hY];rfl
 have hYK:Y.K=X.K:=by rw[<- hY];rfl
 have hYA:Y.A=X.A:=by rw[<- hY];rfl
 have hYc:Y.calm=true:=by rw[<- hY];exact hc
 have hYe:Y.env=compEnvC sc cl H2.objs.size X.env:=by rw[<- hY];rfl
 have hYx:Y.xe=λ _ _=>False:=by rw[<- hY];rfl
 have hYpn:Y.pn=X.pn++pins:=by rw[<- hY];rfl
 have hYs:Y.s₀=s:=by rw[<- hY];rfl
 have hYH:Y.H₀=H:=by rw[<- hY];rfl
 have hYex:Y.ex=fp:=by rw[<- hY];rfl
 have hYfs:Y.fs=frs X.stack:=by rw[<- hY];rfl
 have gY:=hg H2.objs.size s H fp pins;have tY:=ht H2.objs.size s H fp pins;have eY:=he H2.objs.size s H fp pins;rw[hY] at gY tY eY;have D_pin:∀ p∈Y.pn++([]:PN),p.1≠s.heap.objs.size:=λ p hp=>by rw[hYpn,List.append_nil] at hp;exact(below _ (Heap.lt_size (I.pin p hp).1)).2
 have D_cell:∀ x c,Y.env.cells.lookup x=some c->c≠s.heap.objs.size:=λ x c e=>by rw[hYe] at e;obtain⟨v,z⟩:=I.cell x c (hcl1 _ _ e);exact(below _ z.lt).2
 have D_loc:s.heap.objs.size≠Y.env.locals:=by rw[hYe];exact hD0
 have D_fs:s.heap.objs.size ∉ Y.fs:=by
  rw[hYfs];intro z;rcases List.mem_cons.mp (I.nk _ z) with e | e
  ·exact absurd I.lt (by rw[<- e];exact Nat.lt_irrefl _)
  ·exact I.agU (Nat.le_refl _) e
 have fpY:∀ {H':Hp} (pl:PN),(∀ b∈fp,H' b=none)->(∀ p∈pl,p.1=s.heap.objs.size)->∀ b∈fp,uA Y pl H' b:=λ {H'} pl hn hp b hb=>by
  obtain⟨_,f1,f2,f3,f4,f5⟩:=hf b hb;refine⟨hn b hb,by rw[hYe];exact(below b (hfb b hb)).1,?_,.inl (by rw[hYex];exact hb),λ x c e=>?_,λ p q=>?_⟩
  ·rw[hYfs];intro z;rcases List.mem_cons.mp (I.nk _ z) with e | e
   ·exact f1 e
   ·exact f2 e
  ·rw[hYe] at e;exact f4 x c (hcl1 _ _ e)
  ·rcases List.mem_append.mp q with z | z
   ·rw[hYpn] at z;exact f5 p z
   ·rw[hp p z];exact Ne.symm (below b (hfb b hb)).2
 have loop:∀ s₃:Shared,s₃={s with heap:=h₁,toks:=s.toks+([]:List (Str×Value)).length} ->
   codeAny (model X.prog X.w) X.A (.compLoop (.ListComp elt [⟨tg,iter,ifs,0⟩] sc pos) 0 (.ref it) (.ref s.heap.objs.size) (compEnvC sc cl H2.objs.size X.env)) (RR (.ref s.heap.objs.size) H2.objs.size) s₃:=by
  rintro s₃ rfl;obtain⟨m0,w0⟩:=w0;refine oY (λ n s'=>∃ i ys τ H' us k,Inv Y [] τ H' s'/\tn i s'.heap/\(∀ b∈fp,H' b=none)/\H' s.heap.objs.size=none/\s'.heap.get? s.heap.objs.size=some {cls:=.type "list",data:=.seq us.toArray k}/\Vals ys us/\ys.length<=sizeLine/\W i n ys τ H') ?_ m0
   ⟨0,[],_,H,[],0,I1,st1,λ b hb=>(hf b hb).1,I.hok.fresh (Nat.le_refl _),hacc,.nil,Nat.zero_le _,w0⟩
  rintro n s' ⟨i,ys,τ,H',us,k,I',st',hn',hD',ha',hv',hz',w'⟩;have Ip:Inv Y [(s.heap.objs.size,{cls:=.type "list",data:=.seq us.toArray k})] τ H' s':=I'.lD λ p hp=>by
   have e:p=(s.heap.objs.size,{cls:=.type "list",data:=.seq us.toArray k}):=by simpa using hp
   subst e;exact⟨ha',hD',D_loc,D_fs,λ v z=>nomatch (show Data.seq _ _=Data.cell v from z)⟩
  have onlyD:∀ p∈[((s.heap.objs.size,{cls:=.type "list",data:=.seq us.toArray k}):Addr×Obj)],p.1=s.heap.objs.size:=λ p hp=>by
   have e:p=(s.heap.objs.size,{cls:=.type "list",data:=.seq us.toArray k}):=by simpa using hp
   subst e;rfl
  rcases turn i n ys τ H' w' with ⟨stop,fin⟩ | ⟨go,hlen,step⟩
  ·have q:=T.done Y hYp hYw hYK hYc i _ s' τ H' (λ _ _=>False) Ip (fpY _ hn' onlyD) st' stop;rw[hYA] at q;refine thn q λ r s4 hq29=>?_;obtain⟨hr,I4⟩:=hq29;subst hr;have un:Un (frs X.stack) fp H H' s.heap s4.heap:=by have z:=I4.base;rw[hYfs,hYex,hYH,hYs] at z;exact z
   have os4:s4.os=s.os:=by have z:=I4.os;rw[hYs] at z;exact z
   have hok4:HOk X.prog X.w H' s4.heap:=by have z:=I4.hok;rw[hYp,hYw] at z;exact z
   have hch:∀ b∈fp,(b∈X.ex\/X.s₀.heap.objs.size<=b)/\b≠X.env.locals/\(∀ x c,X.env.cells.lookup x=some c->c≠b)/\∀ p∈X.pn++pins,p.1≠b:=λ b hb=>by obtain⟨_,f1,f2,f3,f4,f5⟩:=hf b hb;exact⟨f3,f1,f4,f5⟩
   have IX:Inv X pins σ H' s4:=I.abH os4 un hok4 I4.bare hch;obtain⟨mC,hmC,_⟩:=I4.loc;have hCf:=I4.free;rw[hYe] at hmC hCf;have pD:=I4.pin (s.heap.objs.size,{cls:=.type "list",data:=.seq us.toArray k}) (List.mem_append_right _ (List.mem_singleton.mpr rfl));exact hRR _ _ s4 H' ys us k mC IX pD.1 hv' hz' pD.2.1 hCf (Nat.le_refl _) hCle hD0 hmC fin
  ·have q:=T.item Y hYp hYw hYK hYc i _ s' τ H' (λ _ _=>False) Ip (fpY _ hn' onlyD) st' go;rw[hYA] at q;refine thn q λ r s4 hq30=>?_;obtain⟨u,hr,h4⟩:=hq30;subst hr;refine thn h4 λ _ s5 hq31=>?_;obtain⟨x,H5,I5,r5,y5,st5,fr5⟩:=hq31;have I5':=I5.pinned (fpY _ fr5 onlyD) (T.obj _ _ st5);have g5:=gY _ s5 τ H5 x u _ I5' r5 (step x H5 y5);rw[hYp,hYw,hYA,hYe,hYx] at g5;refine thn g5 λ _ s6 hq32=>?_;obtain⟨σ6,H6,I6,q6⟩:=hq32;have t6:=tY _ s6 σ6 H6 _ I6 q6;rw[hYp,hYw,hYA,hYe,hYx] at t6;refine thn t6 λ ok s7 hq33=>?_;obtain⟨H7,I7,q7⟩:=hq33;have keepD:∀ {σ8:St} {H8:Hp} {s8:Shared},Inv Y ([(s.heap.objs.size,{cls:=.type "list",data:=.seq us.toArray k})]++mZ fp s5.heap) σ8 H8 s8->s8.heap.get? s.heap.objs.size=some {cls:=.type "list",data:=.seq us.toArray k}/\H8 s.heap.objs.size=none:=
    λ {σ8 H8 s8} I8=>by have pD:=I8.pin (s.heap.objs.size,{cls:=.type "list",data:=.seq us.toArray k}) (List.mem_append_right _ (List.mem_append_left _ (List.mem_singleton.mpr rfl)));exact⟨pD.1,pD.2.1⟩
   have keepI:∀ {σ8:St} {H8:Hp} {s8:Shared},Inv Y ([(s.heap.objs.size,{cls:=.type "list",data:=.seq us.toArray k})]++mZ fp s5.heap) σ8 H8 s8->tn (i+1) s8.heap/\∀ b∈fp,H8 b=none:=
    λ {σ8 H8 s8} I8=>by refine⟨T.keep _ _ _ st5 λ b hb o e=>(I8.pin (b,o) (List.mem_append_right _ (List.mem_append_right _ (gS hb e)))).1,λ b hb=>?_⟩;obtain⟨o,e,d⟩:=T.obj _ _ st5 b hb;exact(I8.pin (b,o) (List.mem_append_right _ (List.mem_append_right _ (gS hb e)))).2.1
   cases ok with
   | false =>
    rw[if_neg Bool.false_ne_true] at q7 ⊢;obtain⟨m',hm',w7⟩:=q7;obtain⟨a7,b7⟩:=keepD I7;obtain⟨c7,d7⟩:=keepI I7;exact⟨m',hm',i+1,ys,σ6,H7,us,k,I7.lD (λ p hp=>(nomatch hp)),c7,d7,b7,a7,hv',hz',w7⟩
   | true =>
    rw[if_pos rfl] at q7 ⊢;have e7:=eY _ s7 σ6 H7 _ I7 q7;rw[hYp,hYw,hYA,hYe,hYx] at e7;refine thn e7 λ v s8 hq34=>?_;obtain⟨y,H8,I8,r8,m',hm',w8⟩:=hq34;obtain⟨a8,b8⟩:=keepD I8;obtain⟨c8,d8⟩:=keepI I8;have hl:=hv'.length;refine call_meets F.slot_list_append ⟨_,a8,rfl⟩ F.entry_list_append (F.args_list_append_2 _ _) (PySem.list_append s.heap.objs.size us.toArray k v (by rw[List.size_toArray];omega)) ⟨a8,?_⟩;have qu:=PySem.IsL.update a8 (λ xs=>xs.push v);have I9:=(I8.lD (pins':=[]) λ p hp=>nomatch hp).turned (it:=s.heap.objs.size) (t':=s8.toks) (h':=s8.heap.update s.heap.objs.size (Obj.mapSeq λ xs=>xs.push v)) (λ b o hb e=>(Heap.get?_update_other s8.heap _ (Ne.symm hb)).trans e) b8 D_loc (.inr (by rw[hYs];exact Nat.le_refl _)) D_cell D_pin;have ep:us.toArray.push v=(us++[v]).toArray:=by simp
    rw[ep] at qu;refine⟨m',hm',i+1,ys++[y],σ6,H8,us++[v],(if (us++[v]).toArray.size==us.toArray.size then k else k+1),I9,T.keep _ _ _ c8 λ b hb o e=>(Heap.get?_update_other s8.heap _ (Ne.symm (below b (hfb b hb)).2)).trans e,d8,b8,?_,hv'.append (.cons r8 .nil),?_,w8⟩
    ·exact qu
    ·rw[List.length_append,List.length_singleton];omega
 exact codeAny_compStart_list (loop _ rfl) (T.self _ 0 _ _ _ st1 (loop _ rfl))
def tLC(wi:TI)(g:TG)(tt:TT)(te:TE)(k:Nat)(fr:List Nat):TE:=λ σ H Q=>wi σ H λ J H1=>∃ W:LcW,(∃ m,W 0 m [] (lcS k fr σ) H1)/\zN J g tt te W λ ys H2=>∀ p,H2 p=none->Q (.ref p) (upd H2 p (.lst ys))
theorem tS(L:aaf X sc own fr)(ok:X.Ok):∃ cl,closureFor sc X.env=pure cl/\(∀ n c,cl.lookup n=some c->X.env.cells.lookup n=some c)/\(∀ n,(n,NameKind.free)∈sc.names->∃ c,cl.lookup n=some c):=
 p7 λ x hx hf=>ok.has x.1 (L.free x hx hf)
theorem afe(hc:X.calm=true)(L:aaf X sc own fr)(hi:PI X tg iter wi)
  (hg:∀ cl C s H ex pl,PG (blk X sc (lcN X own fr) cl C s H ex pl) tg g)(ht:∀ cl C s H ex pl,PTs (blk X sc (lcN X own fr) cl C s H ex pl) ifs tt)(he:∀ cl C s H ex pl,PE (blk X sc (lcN X own fr) cl C s H ex pl) elt te)
  (hs:∀ x,foldedSetIterable iter X.env x=pure x:=by intro _;rfl):PE X (.ListComp elt [⟨tg,iter,ifs,0⟩] sc pos) (tLC wi g tt te own.length fr):=by
 intro pins s σ H Q I h;obtain⟨cl,hcl,c1,c2⟩:=tS L I.ok;rw[eval_ListComp];refine wpAny_comprehension_free (use:=none) (g:=⟨tg,iter,ifs,0⟩) (gs:=[]) rfl hs hcl L.kind L.names ?_;refine thn (hi pins s σ H _ I h) λ v s1 h1=>thn h1 λ itv s2 h2=>?_;obtain⟨it,fp,tn,J,H2,e,I2,T,st2,f2,W,w0,turn⟩:=h2;subst e;refine abi (cl:=cl) hc L c1 c2 (hg cl) (ht cl) (he cl) I2 T st2 f2 w0 turn λ D C s' H' ys us n m I' a' hv hz hD hC dD dC hDC hns fin=>?_;refine⟨m,hns,λ h' sb=>?_⟩;have far:∀ b,s2.heap.objs.size<=b->(X.s₀.heap.objs.size<=b)/\b≠X.env.locals/\(∀ x c,X.env.cells.lookup x=some c->c≠b)/\∀ p∈X.pn++pins,p.1≠b:=λ b hb=>by obtain⟨_,f1,_,f3,f4,f5⟩:=I2.uS (H':=λ _=>none) hb rfl;refine⟨Nat.le_trans I2.sz hb,f1,f4,f5⟩
 obtain⟨z1,z2,z3,z4⟩:=far C dC;obtain⟨y1,y2,y3,y4⟩:=far D dD;have I3:Inv X pins σ H' {s' with heap:=h'}:=I'.turned (t':=s'.toks) (λ b o hb e=>sb.extBut b o hb e) hC z2 (.inr z1) z3 z4;exact⟨.ref D,_,I3.afs (sb.extBut _ _ hDC a') hD hv hz y1 y2 y3 y4,rfl,fin D hD⟩
end
end L2
namespace D
open L2
abbrev St:=L2.St
structure Kp(H H':Hp):Prop where
 tup:∀ b xs,H b=some (.tup xs)->H' b=some (.tup xs)
 frz:∀ b o u,H b=some (.frz o u)->H' b=some (.frz o u)
theorem Kp.refl(H:Hp):Kp H H:=⟨λ _ _ e=>e,λ _ _ _ e=>e⟩
theorem Kp.trans(a:Kp H H1)(b:Kp H1 H2):Kp H H2:=⟨λ c xs e=>b.tup c xs (a.tup c xs e),λ c o u e=>b.frz c o u (a.frz c o u e)⟩
theorem Kp.new(h:H p=none):Kp H (upd H p o):=⟨λ b xs e=>by rw[au (bw e h)];exact e,λ b ob u e=>by rw[au (bw e h)];exact e⟩
theorem Kp.set(h:H p=some u)(ht:∀ xs,u ≠ .tup xs)(hf:∀ ob v,u ≠ .frz ob v):Kp H (upd H p o):=
 ⟨λ b xs e=>by rw[au (abu e h λ z=>ht _ z.symm)];exact e,λ b ob v e=>by rw[au (abu e h λ z=>hf _ _ z.symm)];exact e⟩
theorem Kp.un(u:Un fs ex H H' h h'):Kp H H':=⟨u.lW,u.frzs⟩
def SqF(K:FG)(H:Hp)(a:Addr)(xs:List V):Prop:=
 (∃ o,H a=some (.frz o (.lst xs)))\/∃ (o:Obj) (its:Array Value) (n:Nat),K.lookup a=some o/\o.cls=.type "list" /\ o.dict=none/\o.data=.seq its n/\its.size<=sizeLine/\Vals xs its.toList
theorem SqF.sq{K:FG}{H:Hp}{a:Addr}{xs:List V}(h:SqF K H a xs):SqL K H a xs:=by
 rcases h with h | h
 ·exact .inl (.inr h)
 ·exact .inr h
theorem SqF.keep{K:FG}{H H':Hp}{a:Addr}{xs:List V}(k:Kp H H')(h:SqF K H a xs):SqF K H' a xs:=by
 rcases h with ⟨o,h⟩ | h
 ·exact .inl ⟨o,k.frz _ _ _ h⟩
 ·exact .inr h
theorem SqT.keep{K:FG}{H H':Hp}{a:Addr}{xs:List V}(k:Kp H H')(h:SqT K H a xs):SqT K H' a xs:=by
 rcases h with (h | ⟨o,h⟩) | h
 ·exact .inl (.inl (k.tup _ _ h))
 ·exact .inl (.inr ⟨o,k.frz _ _ _ h⟩)
 ·exact .inr h
def uM:Key->PyData
 | .inl i=>.int i
 | .inr x=>.str x
mutual
def aA(K:FG)(H:Hp):PyData->V->Prop
 | .none,v=>v=.non
 | .bool b,v=>v=.bl b
 | .int i,v=>v=.int i
 | .str x,v=>v=.str x
 | .list ds,v=>∃ a vs,v=.ref a/\SqF K H a vs/\bA K H ds vs
 | .tuple ds,v=>∃ a vs,v=.ref a/\SqT K H a vs/\bA K H ds vs
 | .dict kvs,v=>∃ a o l,v=.ref a/\H a=some (.frz o (.dK l))/\md K H kvs l
def bA(K:FG)(H:Hp):List PyData->List V->Prop
 | [],vs=>vs=[]
 | d::ds,vs=>∃ v r,vs=v::r/\aA K H d v/\bA K H ds r
def md(K:FG)(H:Hp):List (PyData×PyData)->List (Key×V)->Prop
 | [],l=>l=[]
 | (k,d)::ds,l=>∃ key v r,l=(key,v)::r/\k=uM key/\aA K H d v/\md K H ds r
end
mutual
theorem aA.keep{K:FG}{H H':Hp}(k:Kp H H'):∀ {d:PyData} {v:V},aA K H d v->aA K H' d v
 | .none,v,h=>by simp only[aA] at h ⊢;exact h
 | .bool b,v,h=>by simp only[aA] at h ⊢;exact h
 | .int i,v,h=>by simp only[aA] at h ⊢;exact h
 | .str x,v,h=>by simp only[aA] at h ⊢;exact h
 | .list ds,v,h=>by simp only[aA] at h ⊢;obtain⟨a,vs,e,s,r⟩:=h;exact⟨a,vs,e,s.keep k,bA.keep k r⟩
 | .tuple ds,v,h=>by simp only[aA] at h ⊢;obtain⟨a,vs,e,s,r⟩:=h;exact⟨a,vs,e,SqT.keep k s,bA.keep k r⟩
 | .dict kvs,v,h=>by simp only[aA] at h ⊢;obtain⟨a,o,l,e,s,r⟩:=h;exact⟨a,o,l,e,k.frz _ _ _ s,md.keep k r⟩
theorem bA.keep{K:FG}{H H':Hp}(k:Kp H H'):∀ {ds:List PyData} {vs:List V},bA K H ds vs->bA K H' ds vs
 | [],vs,h=>by simp only[bA] at h ⊢;exact h
 | d::ds,vs,h=>by simp only[bA] at h ⊢;obtain⟨v,r,e,h1,h2⟩:=h;exact⟨v,r,e,aA.keep k h1,bA.keep k h2⟩
theorem md.keep{K:FG}{H H':Hp}(k:Kp H H'):∀ {ds:List (PyData×PyData)} {l:List (Key×V)},md K H ds l->md K H' ds l
 | [],l,h=>by simp only[md] at h ⊢;exact h
 | (key,d)::ds,l,h=>by simp only[md] at h ⊢;obtain⟨k',v,r,e,ek,h1,h2⟩:=h;exact⟨k',v,r,e,ek,aA.keep k h1,md.keep k h2⟩
end
theorem bA.length{K:FG}{H:Hp}:∀ {ds:List PyData} {vs:List V},bA K H ds vs->vs.length=ds.length
 | [],vs,h=>by simp only[bA] at h;rw[h];rfl
 | d::ds,vs,h=>by simp only[bA] at h;obtain⟨v,r,e,_,h2⟩:=h;rw[e,List.length_cons,List.length_cons,bA.length h2]
theorem bA.get{K:FG}{H:Hp}:∀ {ds:List PyData} {vs:List V} {i:Nat} {d:PyData},bA K H ds vs->ds[i]? =some d->∃ v,vs[i]? =some v/\aA K H d v
 | [],_,_,_,_,e=>by simp at e
 | d::ds,vs,0,d',h,e=>by simp only[bA] at h;obtain⟨v,r,ev,h1,_⟩:=h;simp at e;subst e;exact⟨v,by rw[ev];rfl,h1⟩
 | d::ds,vs,i+1,d',h,e=>by simp only[bA] at h;obtain⟨v,r,ev,_,h2⟩:=h;obtain⟨v',e1,e2⟩:=bA.get (i:=i) h2 (by simpa using e);exact⟨v',by rw[ev];simpa using e1,e2⟩
theorem bA.get'{K:FG}{H:Hp}{ds:List PyData}{vs:List V}{i:Nat}{v:V}(h:bA K H ds vs)(e:vs[i]? =some v):∃ d,ds[i]? =some d/\aA K H d v:=by
 have hi:i<ds.length:=by have:=(List.getElem?_eq_some_iff.mp e).1;rw[h.length] at this;exact this
 obtain⟨v',e1,r⟩:=h.get (i:=i) (d:=ds[i]) (by simp[hi]);rw[e] at e1;cases e1;exact⟨ds[i],by simp[hi],r⟩
theorem bA.ints{K:FG}{H:Hp}:∀ (ns:List Int),bA K H (ns.map PyData.int) (ns.map V.int)
 | []=>by simp[bA]
 | n::ns=>by simp only[List.map_cons,bA];exact⟨_,_,rfl,by simp[aA],bA.ints ns⟩
theorem bA.append{K:FG}{H:Hp}:∀ {ds es:List PyData} {vs us:List V},bA K H ds vs->bA K H es us->bA K H (ds++es) (vs++us)
 | [],es,vs,us,h,q=>by simp only[bA] at h;subst h;exact q
 | d::ds,es,vs,us,h,q=>by simp only[bA] at h;obtain⟨v,r,e,h1,h2⟩:=h;subst e;simp only[List.cons_append,bA];exact⟨v,r++us,rfl,h1,bA.append h2 q⟩
theorem bA.drop{K:FG}{H:Hp}:∀ {ds:List PyData} {vs:List V} (n:Nat),bA K H ds vs->bA K H (ds.drop n) (vs.drop n)
 | ds,vs,0,h=>by simpa using h
 | [],vs,n+1,h=>by simp only[bA] at h;subst h;simp[bA]
 | d::ds,vs,n+1,h=>by
  simp only[bA] at h;obtain⟨v,r,e,_,h2⟩:=h;subst e
  simpa using bA.drop n h2
theorem bA.take{K:FG}{H:Hp}:∀ {ds:List PyData} {vs:List V} (n:Nat),bA K H ds vs->bA K H (ds.take n) (vs.take n)
 | ds,vs,0,h=>by simp[bA]
 | [],vs,n+1,h=>by simp only[bA] at h;subst h;simp[bA]
 | d::ds,vs,n+1,h=>by simp only[bA] at h;obtain⟨v,r,e,h1,h2⟩:=h;subst e;simp only[List.take_succ_cons,bA];exact⟨v,_,rfl,h1,bA.take n h2⟩
inductive W where
 | d (x:PyData)
 | m (a:Addr)
 | t (n:String)
inductive MO where
 | lst (ws:List W)
 | dic (kvs:List (Key×W))
 | dct (kvs:List (List Key×W))
 | fdic (kvs:List (Key×W))
 | ins (C:Addr) (fs:List (Str×W))
 | tup (ws:List W)
 | flst (ws:List W)
 | exc (C:Addr) (fs:List (Str×W))
 | code (q:Str) (pos:Pos)
abbrev MH:=Addr->Option MO
def bz(M:MH)(a:Addr)(o:MO):MH:=λ b=>if b=a then some o else M b
theorem ak:bz M a o a=some o:=if_pos rfl
theorem aq(h:b≠a):bz M a o b=M b:=if_neg h
theorem qw:bz (bz M a o) a u=bz M a u:=by funext b;unfold bz;split<;>rfl
abbrev DS:=List (Option W)
def aH(K:FG)(H:Hp):W->V->Prop
 | .d x,v=>aA K H x v
 | .m a,v=>v=.ref a
 | .t n,v=>v=.ty n
theorem aH.keep{K:FG}{H H':Hp}(k:Kp H H'):∀ {w:W} {v:V},aH K H w v->aH K H' w v
 | .d _,_,h=>aA.keep k h
 | .m _,_,h=>h
 | .t _,_,h=>h
def bj(K:FG)(H:Hp):List W->List V->Prop:=Paired (aH K H)
theorem bj.keep{K:FG}{H H':Hp}(k:Kp H H'){ws:List W}{vs:List V}(h:bj K H ws vs):bj K H' ws vs:=Paired.j6 h λ _ _ r=>r.keep k
theorem bj.length{K:FG}{H:Hp}{ws:List W}{vs:List V}(h:bj K H ws vs):ws.length=vs.length:=Paired.length h
theorem bj.get{K:FG}{H:Hp}:∀ {ws:List W} {vs:List V} {i:Nat} {w:W},bj K H ws vs->ws[i]? =some w->∃ v,vs[i]? =some v/\aH K H w v
 | _,_,_,_,.nil,e=>by simp at e
 | _,_,0,_,.cons r _,e=>by simp at e;subst e;exact⟨_,rfl,r⟩
 | _,_,i+1,_,.cons _ t,e=>by obtain⟨u,h1,h2⟩:=bj.get (i:=i) t (by simpa using e);exact⟨u,by simpa using h1,h2⟩
theorem bj.set{K:FG}{H:Hp}{w:W}{v:V}(r:aH K H w v):∀ {ws:List W} {vs:List V} (i:Nat),bj K H ws vs->bj K H (ws.set i w) (vs.set i v)
 | _,_,_,.nil=>.nil
 | _,_,0,.cons _ t=>.cons r t
 | _,_,i+1,.cons q t=>.cons q (bj.set r i t)
theorem bj.append{K:FG}{H:Hp}:∀ {ws ws':List W} {vs vs':List V},bj K H ws vs->bj K H ws' vs'->bj K H (ws++ws') (vs++vs')
 | _,_,_,_,.nil,s=>s
 | _,_,_,_,.cons r t,s=>.cons r (bj.append t s)
theorem bj.data{K:FG}{H:Hp}:∀ {ds:List PyData} {vs:List V},bj K H (ds.map W.d) vs->bA K H ds vs
 | [],_,h=>by cases h;simp[bA]
 | d::ds,_,h=>by
  cases h with
  | cons r t=>simp only[bA];exact⟨_,_,rfl,r,bj.data t⟩
theorem bA.ws{K:FG}{H:Hp}:∀ {ds:List PyData} {vs:List V},bA K H ds vs->bj K H (ds.map W.d) vs
 | [],vs,h=>by simp only[bA] at h;subst h;exact .nil
 | d::ds,vs,h=>by simp only[bA] at h;obtain⟨v,r,e,h1,h2⟩:=h;subst e;exact .cons h1 (bA.ws h2)
def aaG(K:FG)(H:Hp)(a:Addr):MO->Prop
 | .lst ws=>∃ vs,H a=some (.lst vs)/\bj K H ws vs
 | .dic kvs=>∃ l,H a=some (.dK l)/\Paired (λ(p:Key×W) (q:Key×V)=>p.1=q.1/\aH K H p.2 q.2) kvs l
 | .fdic kvs=>∃ o l,H a=some (.frz o (.frz o (.dK l)))/\Paired (λ(p:Key×W) (q:Key×V)=>p.1=q.1/\aH K H p.2 q.2) kvs l
 | .dct kvs=>∃ l,H a=some (.dT l)/\Paired (λ(p:List Key×W) (q:List Key×V)=>p.1=q.1/\aH K H p.2 q.2) kvs l
 | .ins C fs=>∃ dx l,H a=some (.ins C dx l)/\Paired (λ(p:Str×W) (q:Str×V)=>p.1=q.1/\aH K H p.2 q.2) fs l
 | .tup ws=>∃ vs,H a=some (.tup vs)/\bj K H ws vs
 | .flst ws=>∃ o vs,H a=some (.frz o (.frz o (.lst vs)))/\bj K H ws vs
 | .exc C fs=>∃ φ dct,H a=some (.ext φ)/\(∀ h,φ h->∃ vs,h.get? a=some {cls:=.ref C,dict:=dct,data:=.fields vs}/\(fs=[]->vs[2]? =some .none)) /\
   ((dct=none/\fs=[])\/∃ dx o l,dct=some dx/\H dx=some (.frz o (.xd l))/\Paired (λ(p:Str×W) (q:Str×V)=>p.1=q.1/\aH K H p.2 q.2) fs l)
 | .code q pos=>∃ ps,H a=some (.tbl ps)/\TriplesOk ps.toList/\(codeAmong pos ps.toList=none\/∃ c o vs t,codeAmong pos ps.toList=some (.ref c)/\H c=some (.frz o (.own 0))/\o.data=.fields vs/\vs[1]? =some (.str q t))
def cz(K:FG)(H:Hp)(M:MH):Prop:=∀ a o,M a=some o->aaG K H a o
theorem aaG.is{K:FG}{H:Hp}{a:Addr}{o:MO}(h:aaG K H a o):∃ u,H a=some u:=by
 cases o with
 | lst ws=>obtain⟨vs,e,_⟩:=h;exact⟨_,e⟩
 | dic kvs=>obtain⟨l,e,_⟩:=h;exact⟨_,e⟩
 | dct kvs=>obtain⟨l,e,_⟩:=h;exact⟨_,e⟩
 | fdic kvs=>obtain⟨o,l,e,_⟩:=h;exact⟨_,e⟩
 | ins C fs=>obtain⟨dx,l,e,_⟩:=h;exact⟨_,e⟩
 | tup ws=>obtain⟨vs,e,_⟩:=h;exact⟨_,e⟩
 | flst ws=>obtain⟨o,vs,e,_⟩:=h;exact⟨_,e⟩
 | exc C fs=>obtain⟨φ,dct,e,_⟩:=h;exact⟨_,e⟩
 | code q pos=>obtain⟨ps,e,_⟩:=h;exact⟨_,e⟩
theorem cz.free{K:FG}{H:Hp}{M:MH}(h:cz K H M){p:Addr}(e:H p=none):M p=none:=by
 cases q:M p with
 | none=>rfl
 | some o =>
  obtain⟨u,z⟩:=(h p o q).is;rw[e] at z;cases z
theorem aaG.keep{K:FG}{H H':Hp}{a:Addr}{o:MO}(k:Kp H H')(s:∀ u,H a=some u->H' a=some u)(h:aaG K H a o):aaG K H' a o:=by
 cases o with
 | lst ws=>obtain⟨vs,e,r⟩:=h;exact⟨vs,s _ e,r.keep k⟩
 | dic kvs=>obtain⟨l,e,r⟩:=h;exact⟨l,s _ e,Paired.j6 r λ p q z=>⟨z.1,z.2.keep k⟩⟩
 | dct kvs=>obtain⟨l,e,r⟩:=h;exact⟨l,s _ e,Paired.j6 r λ p q z=>⟨z.1,z.2.keep k⟩⟩
 | fdic kvs=>obtain⟨o,l,e,r⟩:=h;exact⟨o,l,s _ e,Paired.j6 r λ p q z=>⟨z.1,z.2.keep k⟩⟩
 | ins C fs=>obtain⟨dx,l,e,r⟩:=h;exact⟨dx,l,s _ e,Paired.j6 r λ p q z=>⟨z.1,z.2.keep k⟩⟩
 | tup ws=>obtain⟨vs,e,r⟩:=h;exact⟨vs,s _ e,r.keep k⟩
 | flst ws=>obtain⟨o,vs,e,r⟩:=h;exact⟨o,vs,s _ e,r.keep k⟩
 | exc C fs =>
  obtain⟨φ,dct,e,p,r⟩:=h;refine⟨φ,dct,s _ e,p,?_⟩;rcases r with r | ⟨dx,o,l,e1,e2,r⟩
  ·exact .inl r
  ·exact .inr ⟨dx,o,l,e1,k.frz _ _ _ e2,Paired.j6 r λ p q z=>⟨z.1,z.2.keep k⟩⟩
 | code q pos =>
  obtain⟨ps,e,ht,hc⟩:=h;refine⟨ps,s _ e,ht,?_⟩;rcases hc with hc | ⟨c,o,vs,t,e1,e2,e3⟩
  ·exact .inl hc
  ·exact .inr ⟨c,o,vs,t,e1,k.frz _ _ _ e2,e3⟩
theorem cz.new{K:FG}{H:Hp}{M:MH}{p:Addr}{o:HO}(h:cz K H M)(e:H p=none):cz K (upd H p o) M:=λ a mo q =>
 (h a mo q).keep (Kp.new e) λ u z=>by rw[au (bw z e)];exact z
theorem cz.put{K:FG}{H:Hp}{M:MH}{p:Addr}{o:HO}{mo:MO}(h:cz K H M)(k:Kp H (upd H p o))(r:aaG K (upd H p o) p mo):cz K (upd H p o) (bz M p mo):=λ a mo' q=>by
 by_cases e:a=p
 ·subst e;rw[ak] at q;cases q;exact r
 ·rw[aq e] at q;exact(h a mo' q).keep k λ u z=>by rw[au e];exact z
structure Abs(K:FG)(H:Hp)(σ:St)(τ:DS)(M:MH):Prop where
 len:σ.length=τ.length
 val:∀ (i:Nat) w,τ[i]? =some (some w)->∃ v,σ[i]? =some (some v)/\aH K H w v
 mem:cz K H M
theorem Abs.go{K:FG}{H H':Hp}{σ:St}{τ:DS}{M M':MH}(h:Abs K H σ τ M)(k:Kp H H')(m:cz K H' M'):Abs K H' σ τ M':=
 ⟨h.len,λ i w e=>let ⟨v,q,r⟩:=h.val i w e; ⟨v,q,r.keep k⟩,m⟩
theorem Abs.set{K:FG}{H:Hp}{σ:St}{τ:DS}{M:MH}{w:W}{v:V}(h:Abs K H σ τ M)(i:Nat)(r:aH K H w v):Abs K H (σ.set i (some v)) (τ.set i (some w)) M:=by
 refine⟨by rw[List.length_set,List.length_set];exact h.len,λ j w' e=>?_,h.mem⟩
 by_cases hj:i=j
 ·subst hj;have hl:i<τ.length:=by
   have:=(List.getElem?_eq_some_iff.mp e).1
   rwa[List.length_set] at this
  rw[List.getElem?_set_self hl] at e;cases e;exact⟨v,List.getElem?_set_self (by rw[h.len];exact hl),r⟩
 ·rw[List.getElem?_set_ne hj] at e;obtain⟨v',q,r'⟩:=h.val j w' e;exact⟨v',by rw[List.getElem?_set_ne hj];exact q,r'⟩
abbrev QD:=W->MH->Prop
abbrev TD:=DS->MH->QD->Prop
abbrev TTd:=DS->MH->(Bool->MH->Prop)->Prop
abbrev TAd:=DS->MH->(List W->MH->Prop)->Prop
structure Ed where
 nx:DS->MH->Prop
 rt:QD
 bk:DS->MH->Prop:=λ _ _=>False
 ct:DS->MH->Prop:=λ _ _=>False
abbrev TSd:=Ed->DS->MH->Prop
def up(K:FG)(t:TD):TE:=λ σ H Q=>∃ τ M Qd,Abs K H σ τ M/\t τ M Qd/\∀ v H' w M',Kp H H'->aH K H' w v->cz K H' M'->Qd w M'->Q v H'
def upT(K:FG)(t:TTd):TT:=λ σ H Q=>∃ τ M Qd,Abs K H σ τ M/\t τ M Qd/\∀ b H' M',Kp H H'->cz K H' M'->Qd b M'->Q b H'
def upA(K:FG)(t:TAd):TA:=λ σ H Q=>∃ τ M Qd,Abs K H σ τ M/\t τ M Qd/\∀ vs H' ws M',Kp H H'->bj K H' ws vs->cz K H' M'->Qd ws M'->Q vs H'
def upS(K:FG)(t:TSd):TS:=λ D σ H=>∃ τ M Dd,Abs K H σ τ M/\t Dd τ M /\
 (∀ σ' H' τ' M',Kp H H'->Abs K H' σ' τ' M'->Dd.nx τ' M'->D.nx σ' H')/\(∀ v H' w M',Kp H H'->aH K H' w v->cz K H' M'->Dd.rt w M'->D.rt v H') /\
 (∀ σ' H' τ' M',Kp H H'->Abs K H' σ' τ' M'->Dd.bk τ' M'->D.bk σ' H')/\(∀ σ' H' τ' M',Kp H H'->Abs K H' σ' τ' M'->Dd.ct τ' M'->D.ct σ' H')
abbrev PD(X:Cx)(e:Expr)(t:TD):Prop:=PE X e (up X.K t)
abbrev PTd(X:Cx)(e:Expr)(t:TTd):Prop:=PT X e (upT X.K t)
abbrev PAd(X:Cx)(es:List Expr)(t:TAd):Prop:=PA X es (upA X.K t)
abbrev PSd(X:Cx)(st:Stmt)(t:TSd):Prop:=PS X st (upS X.K t)
abbrev nA(X:Cx)(st:List Stmt)(t:TSd):Prop:=PSs X st (upS X.K t)
theorem iH(h:PE X e t)(k:∀ σ H Q,t' σ H Q->t σ H Q):PE X e t':=λ pins s σ H Q I q=>h pins s σ H Q I (k σ H Q q)
theorem acr(h:PT X e t)(k:∀ σ H Q,t' σ H Q->t σ H Q):PT X e t':=λ pins s σ H Q I q=>h pins s σ H Q I (k σ H Q q)
theorem agQ(h:PA X es t)(k:∀ σ H Q,t' σ H Q->t σ H Q):PA X es t':=λ pos pins s σ H Q I q=>h pos pins s σ H Q I (k σ H Q q)
theorem tQ{st:Stmt}{t t':TS}(h:PS X st t)(k:∀ D σ H,t' D σ H->t D σ H):PS X st t':=λ pins s σ H D I q=>h pins s σ H D I (k D σ H q)
theorem adg{st:List Stmt}{t t':TS}(h:PSs X st t)(k:∀ D σ H,t' D σ H->t D σ H):PSs X st t':=λ pins s σ H D I q=>h pins s σ H D I (k D σ H q)
end D
namespace D
open L2
section
variable {X:Cx}{pos:Pos}{a b c e:Expr}{ta tb tc te:TD}{K:FG}
abbrev Kont(K:FG)(H:Hp)(Qd:QD)(Q:VK):Prop:=∀ v H' w M',Kp H H'->aH K H' w v->cz K H' M'->Qd w M'->Q v H'
theorem kgo(k:Kont K H Qd Q)(kp:Kp H H1):Kont K H1 Qd Q:=λ v H' w M' k2 r m q=>k v H' w M' (kp.trans k2) r m q
inductive agS(i:Nat) (τ:DS) (M:MH) (Q:QD):Prop
 | mk (w:W) (z:τ[i]? =some (some w)) (q:Q w M):agS i τ M Q
def ao(i:Nat)(τ:DS)(M:MH)(Q:QD):Prop:=agS i τ M Q
theorem zQ(h:PE X e (ae3 i)):PD X e (ao i):=iH h λ σ H Q hq35=>by obtain⟨τ,M,Qd,A,⟨w,e,q⟩,k⟩:=hq35;obtain⟨v,e',r⟩:=A.val i w e;exact⟨v,e',k v H w M (Kp.refl H) r A.mem q⟩
def dC(w:W)(_:DS)(M:MH)(Q:QD):Prop:=Q w M
theorem zO(h:PE X e (tC v))(r:∀ H,aH X.K H w v):PD X e (dC w):=iH h λ σ H Q ⟨τ,M,Qd,A,q,k⟩=>k v H w M (Kp.refl H) (r H) A.mem q
def OpD(K:FG)(r:R2)(rd:W->W->MH->QD->Prop):Prop:=∀ x y H w w' M Qd Q,aH K H w x->aH K H w' y->cz K H M->rd w w' M Qd->Kont K H Qd Q->r x y H Q
def dOp(rd:W->W->MH->QD->Prop)(ta tb:TD)(τ:DS)(M:MH)(Q:QD):Prop:=ta τ M λ w M1=>tb τ M1 λ w' M2=>rd w w' M2 Q
theorem sJ(hd:OpD K r rd)(h:up K (dOp rd ta tb) σ H Q):tOp r (up K ta) (up K tb) σ H Q:=by obtain⟨τ,M,Qd,A,h,k⟩:=h;refine⟨τ,M,_,A,h,λ x H1 w M1 kp r1 m1 q1=>⟨τ,M1,_,A.go kp m1,q1,λ y H2 w' M2 kp2 r2 m2 q2=>?_⟩⟩;exact hd x y H2 w w' M2 Qd Q (r1.keep kp2) r2 m2 q2 (kgo k (kp.trans kp2))
theorem afj(ho:OpR X (binaryOp op) r)(hd:OpD X.K r rd)(ha:PD X a ta)(hb:PD X b tb):PD X (.BinOp a op b pos) (dOp rd ta tb):=iH (aff ho ha hb) λ σ H Q h=>sJ hd h
theorem acX(ho:OpR X (compareOp op) r)(hd:OpD X.K r rd)(ha:PD X a ta)(hb:PD X b tb)(hm:behindInMarks op b=false:=by first | exact jg _ (by decide) (by decide) | rfl) :
  PD X (.Compare a [op] [b] pos) (dOp rd ta tb):=iH (abn ho ha hb hm) λ σ H Q h=>sJ hd h
theorem afE(hr:IxR X r)(hd:OpD X.K r rd)(ha:PD X a ta)(hb:PD X b tb)(hs:q8 b:=by intro _ _;rfl):PD X (.Subscript a b pos) (dOp rd ta tb):=iH (af7 hr ha hb hs) λ σ H Q h=>sJ hd h
def a9(t:TD)(τ:DS)(M:MH)(Q:Bool->MH->Prop):Prop:=t τ M λ w M1=>∃ k,w=.d (.bool k)/\Q k M1
theorem js(hi:∀ σ H Q,up K ta σ H Q->t' σ H Q)(h:upT K (a9 ta) σ H Q):aaM t' σ H Q:=by obtain⟨τ,M,Qd,A,h,k⟩:=h;refine hi σ H _ ⟨τ,M,_,A,h,λ v H' w M' kp r m hq36=>?_⟩;obtain⟨b,e,q⟩:=hq36;subst e;simp only[aH,aA] at r;exact⟨b,r,k b H' M' kp m q⟩
theorem abP(ho:OpR X (compareOp op) r)(hd:OpD X.K r rd)(ha:PD X a ta)(hb:PD X b tb)(hm:behindInMarks op b=false:=by first | exact jg _ (by decide) (by decide) | rfl) :
  PTd X (.Compare a [op] [b] pos) (a9 (dOp rd ta tb)):=acr (ab4 ho ha hb hm) λ σ H Q h=>js (λ _ _ _ q=>sJ hd q) h
theorem abF(h:PD X e te)(he:∀ whole,isTrue e X.env whole=(do let v <- whole;standAt e.pos;holding [v] (truthy v)):=by intro _;rfl):PTd X e (a9 te):=acr (acH h he) λ σ H Q q=>js (λ _ _ _ z=>z) q
def gD(r r':W->W->MH->QD->Prop)(ta tb tc:TD)(τ:DS)(M:MH)(Q:QD):Prop:=ta τ M λ x M1=>tb τ M1 λ y M2=>r x y M2 λ z M3=>∃ k,z=.d (.bool k)/\(if k=true then tc τ M3 λ w' M4=>r' y w' M4 Q else Q (.d (.bool false)) M3)
theorem qy(hd:OpD K r rd)(hd':OpD K r' rd')(h:up K (gD rd rd' ta tb tc) σ H Q):vG r r' (up K ta) (up K tb) (up K tc) σ H Q:=by
 obtain⟨τ,M,Qd,A,h,k⟩:=h;refine⟨τ,M,_,A,h,λ x H1 w M1 kp r1 m1 q1=>⟨τ,M1,_,A.go kp m1,q1,λ y H2 w' M2 kp2 r2 m2 q2=>?_⟩⟩;have kq:=kp.trans kp2;refine hd x y H2 w w' M2 _ _ (r1.keep kp2) r2 m2 q2 λ v H3 w'' M3 kp3 r3 m3 hq37=>?_;obtain⟨b,e,q3⟩:=hq37;subst e;simp only[aH,aA] at r3;refine⟨b,r3,?_⟩;have kr:=kq.trans kp3;cases b with
 | false =>
  rw[if_neg Bool.false_ne_true] at q3 ⊢;exact k _ H3 _ M3 kr (by simp[aH,aA]) m3 q3
 | true =>
  rw[if_pos rfl] at q3 ⊢;exact⟨τ,M3,_,A.go kr m3,q3,λ u H4 w4 M4 kp4 r4 m4 q4=>hd' y u H4 w' w4 M4 Qd Q (r2.keep (kp3.trans kp4)) r4 m4 q4 (kgo k (kr.trans kp4))⟩
theorem yS(ho:OpR X (compareOp op) r)(hd:OpD X.K r rd)(ho':OpR X (compareOp op') r')(hd':OpD X.K r' rd')(ha:PD X a ta)(hb:PD X b tb)(hc:PD X c tc)
  (hm:lastMarks [op,op'] [b,c]=false:=by with_unfolding_all rfl):PD X (.Compare a [op,op'] [b,c] pos) (gD rd rd' ta tb tc):=iH (xZ ho ho' ha hb hc hm) λ σ H Q h=>qy hd hd' h
theorem xi(ho:OpR X (compareOp op) r)(hd:OpD X.K r rd)(ho':OpR X (compareOp op') r')(hd':OpD X.K r' rd')(ha:PD X a ta)(hb:PD X b tb)(hc:PD X c tc)
  (hm:lastMarks [op,op'] [b,c]=false:=by with_unfolding_all rfl):PTd X (.Compare a [op,op'] [b,c] pos) (a9 (gD rd rd' ta tb tc)):=acr (zy ho ho' ha hb hc hm) λ σ H Q h=>js (λ _ _ _ q=>qy hd hd' q) h
variable {tA tB:TTd}{rest:List Expr}
def aaJ(t u:TTd)(τ:DS)(M:MH)(Q:Bool->MH->Prop):Prop:=t τ M λ k M1=>if k=true then u τ M1 Q else Q false M1
def dOr(t u:TTd)(τ:DS)(M:MH)(Q:Bool->MH->Prop):Prop:=t τ M λ k M1=>if k=true then Q true M1 else u τ M1 Q
def qB(t:TTd)(τ:DS)(M:MH)(Q:Bool->MH->Prop):Prop:=t τ M λ k M1=>Q (!k) M1
abbrev PWd(X:Cx)(e:Expr)(t:TTd):Prop:=PW X e (upT X.K t)
theorem pw_w(h:PW X e t)(k:∀ σ H Q,t' σ H Q->t σ H Q):PW X e t':=λ w pins s σ H Q I q=>h w pins s σ H Q I (k σ H Q q)
theorem xM(ha:PTd X a tA):PWd X (.BoolOp .And [a] pos) tA:=pw_and1 ha
theorem aa1(ha:PTd X a tA):PWd X (.BoolOp .Or [a] pos) tA:=pw_or1 ha
theorem aat(ha:PTd X a tA)(hb:PWd X (.BoolOp .And (b::rest) pos) tB):PWd X (.BoolOp .And (a::b::rest) pos) (aaJ tA tB):=pw_w (pw_and ha hb) λ σ H Q h=>by
 obtain⟨τ,M,Qd,A,h,k⟩:=h;refine⟨τ,M,_,A,h,λ b H1 M1 kp m1 q1=>?_⟩;cases b with
 | true=>rw[if_pos rfl] at q1 ⊢;exact⟨τ,M1,Qd,A.go kp m1,q1,λ b H2 M2 kp2 m2 q2=>k b H2 M2 (kp.trans kp2) m2 q2⟩
 | false=>rw[if_neg Bool.false_ne_true] at q1 ⊢;exact k _ H1 M1 kp m1 q1
theorem adW(ha:PTd X a tA)(hb:PWd X (.BoolOp .Or (b::rest) pos) tB):PWd X (.BoolOp .Or (a::b::rest) pos) (dOr tA tB):=pw_w (pw_or ha hb) λ σ H Q h=>by
 obtain⟨τ,M,Qd,A,h,k⟩:=h;refine⟨τ,M,_,A,h,λ b H1 M1 kp m1 q1=>?_⟩;cases b with
 | false=>rw[if_neg Bool.false_ne_true] at q1 ⊢;exact⟨τ,M1,Qd,A.go kp m1,q1,λ b H2 M2 kp2 m2 q2=>k b H2 M2 (kp.trans kp2) m2 q2⟩
 | true=>rw[if_pos rfl] at q1 ⊢;exact k _ H1 M1 kp m1 q1
theorem afp(h:PWd X e tA):PTd X e tA:=h.pt
theorem abm(ha:PTd X a tA):PTd X (.UnaryOp .Not a pos) (qB tA):=acr (adS ha) λ σ H Q h=>by obtain⟨τ,M,Qd,A,h,k⟩:=h;exact⟨τ,M,_,A,h,λ b H1 M1 kp m1 q1=>k (!b) H1 M1 kp m1 q1⟩
def se(ta tb:TD)(τ:DS)(M:MH)(Q:QD):Prop:=ta τ M λ x M1=>∃ k,x=.d (.bool k)/\if k=true then tb τ M1 Q else Q (.d (.bool false)) M1
def ae8(ta tb:TD)(τ:DS)(M:MH)(Q:QD):Prop:=ta τ M λ x M1=>∃ k,x=.d (.bool k)/\if k=true then Q (.d (.bool true)) M1 else tb τ M1 Q
def yP(ta:TD)(τ:DS)(M:MH)(Q:QD):Prop:=ta τ M λ x M1=>∃ k,x=.d (.bool k)/\Q (.d (.bool (!k))) M1
theorem adI{op}(h:PD X a ta):PD X (.BoolOp op [a] pos) ta:=adL h
theorem adR(ha:PD X a ta)(hb:PD X (.BoolOp .And (b::rest) pos) tb):PD X (.BoolOp .And (a::b::rest) pos) (se ta tb):=iH (aey ha hb) λ σ H Q h=>by
 obtain⟨τ,M,Qd,A,h,k⟩:=h;refine⟨τ,M,_,A,h,λ x H1 w M1 kp r1 m1 hq38=>?_⟩;obtain⟨b,e,q1⟩:=hq38;subst e;simp only[aH,aA] at r1;refine⟨b,r1,?_⟩;cases b with
 | true=>rw[if_pos rfl] at q1 ⊢;exact⟨τ,M1,Qd,A.go kp m1,q1,kgo k kp⟩
 | false=>rw[if_neg Bool.false_ne_true] at q1 ⊢;exact k _ H1 _ M1 kp (by simp[aH,aA]) m1 q1
theorem afA(ha:PD X a ta)(hb:PD X (.BoolOp .Or (b::rest) pos) tb):PD X (.BoolOp .Or (a::b::rest) pos) (ae8 ta tb):=iH (agl ha hb) λ σ H Q h=>by
 obtain⟨τ,M,Qd,A,h,k⟩:=h;refine⟨τ,M,_,A,h,λ x H1 w M1 kp r1 m1 hq39=>?_⟩;obtain⟨b,e,q1⟩:=hq39;subst e;simp only[aH,aA] at r1;refine⟨b,r1,?_⟩;cases b with
 | false=>rw[if_neg Bool.false_ne_true] at q1 ⊢;exact⟨τ,M1,Qd,A.go kp m1,q1,kgo k kp⟩
 | true=>rw[if_pos rfl] at q1 ⊢;exact k _ H1 _ M1 kp (by simp[aH,aA]) m1 q1
theorem adP(ha:PD X a ta):PD X (.UnaryOp .Not a pos) (yP ta):=iH (ac8 ha) λ σ H Q h=>by obtain⟨τ,M,Qd,A,h,k⟩:=h;refine⟨τ,M,_,A,h,λ x H1 w M1 kp r1 m1 hq40=>?_⟩;obtain⟨b,e,q1⟩:=hq40;subst e;simp only[aH,aA] at r1;exact⟨b,r1,k _ H1 _ M1 kp (by simp[aH,aA]) m1 q1⟩
variable {es:List Expr}{t:TAd}
def aW(_:DS)(M:MH)(Q:List W->MH->Prop):Prop:=Q [] M
def ai(ta:TD)(tr:TAd)(τ:DS)(M:MH)(Q:List W->MH->Prop):Prop:=ta τ M λ w M1=>tr τ M1 λ ws M2=>Q (w::ws) M2
theorem qW:PAd X [] aW:=agQ zH λ σ H Q ⟨τ,M,Qd,A,h,k⟩=>k [] H [] M (Kp.refl H) .nil A.mem h
theorem sV(ha:PD X e te)(hr:PAd X es t)(hs:starEach (e::es) X.env=(false,eval e X.env)::starEach es X.env:=by rfl):PAd X (e::es) (ai te t):=agQ (rf ha hr hs) λ σ H Q h=>by obtain⟨τ,M,Qd,A,h,k⟩:=h;exact⟨τ,M,_,A,h,λ x H1 w M1 kp r1 m1 q1=>⟨τ,M1,_,A.go kp m1,q1,λ xs H2 ws M2 kp2 r2 m2 q2=>k _ H2 _ M2 (kp.trans kp2) (.cons (r1.keep kp2) r2) m2 q2⟩⟩
def nM:List W->Option (List PyData)
 | []=>some []
 | .d x::r=>(nM r).map (x::·)
 | _::_=>none
theorem nY:∀ {ws:List W} {ds:List PyData},nM ws=some ds->ws=ds.map W.d
 | [],ds,h=>by simp only[nM] at h;cases h;rfl
 | .d x::r,ds,h=>by
  simp only[nM] at h;cases q:nM r with
  | none=>rw[q] at h;cases h
  | some l=>rw[q] at h;cases h;rw[nY q];rfl
 | .m _::_,ds,h=>by simp[nM] at h
 | .t _::_,ds,h=>by simp[nM] at h
def qQ(t:TAd)(τ:DS)(M:MH)(Q:QD):Prop:=t τ M λ ws M1=>∃ ds,nM ws=some ds/\ds.length<=sizeLine/\Q (.d (.list ds)) M1
theorem abD(hp:H p=none)(r:bA K H ds vs):aA K (upd H p (.frz o (.lst vs))) (.list ds) (.ref p):=by simp only[aA];exact⟨p,vs,rfl,.inl ⟨o,ax⟩,r.keep (Kp.new hp)⟩
theorem r9(hp:H p=none)(r:bA K H ds vs)(m:cz K H M)(q:Qd (.d (.list ds)) M)(k:Kont K H Qd Q) :
  ∃ p' u,V.ref p=.ref p'/\(upd H p (.lst vs)) p'=some u/\Fz u/\∀ o,Q (.ref p) (upd (upd H p (.lst vs)) p' (.frz o u)):=by
 refine⟨p,_,rfl,ax,trivial,λ o=>?_⟩;rw[abQ];exact k _ _ (.d (.list ds)) M (Kp.new hp) (abD hp r) (m.new hp) q
theorem adt(h:PAd X es t):PD X (.List es pos) (qQ t):=iH (xD (zV h)) λ σ H Q h=>by obtain⟨τ,M,Qd,A,h,k⟩:=h;refine⟨τ,M,_,A,h,λ vs H1 ws M1 kp r1 m1 hq41=>?_⟩;obtain⟨ds,e,hz,q1⟩:=hq41;have e':=nY e;subst e';have rA:=r1.data;exact⟨by rw[rA.length];exact hz,λ p hp=>r9 hp rA m1 q1 (kgo k kp)⟩
def mL(t:TAd)(τ:DS)(M:MH)(Q:QD):Prop:=t τ M λ ws M1=>ws.length<=sizeLine/\∀ p,M1 p=none->Q (.m p) (bz M1 p (.lst ws))
theorem aco(h:PAd X es t):PD X (.List es pos) (mL t):=iH (zV h) λ σ H Q h=>by obtain⟨τ,M,Qd,A,h,k⟩:=h;refine⟨τ,M,_,A,h,λ vs H1 ws M1 kp r1 m1 ⟨hz,q1⟩=>⟨by rw[<- r1.length];exact hz,λ p hp=>?_⟩⟩;exact k _ _ (.m p) (bz M1 p (.lst ws)) (kp.trans (Kp.new hp)) rfl (m1.put (mo:=.lst ws) (Kp.new hp) ⟨vs,ax,r1.keep (Kp.new hp)⟩) (q1 p (m1.free hp))
def jQ(t:TAd)(τ:DS)(M:MH)(Q:QD):Prop:=t τ M λ ws M1=>∃ ds,nM ws=some ds/\ds.length<=sizeLine/\Q (.d (.tuple ds)) M1
theorem acP{x1}(h:PAd X es t):PD X (.Tuple es x1 pos) (jQ t):=iH (aeo h) λ σ H Q h=>by obtain⟨τ,M,Qd,A,h,k⟩:=h;refine⟨τ,M,_,A,h,λ vs H1 ws M1 kp r1 m1 hq42=>?_⟩;obtain⟨ds,e,hz,q1⟩:=hq42;have e':=nY e;subst e';have rA:=r1.data;refine⟨by rw[rA.length];exact hz,λ p hp=>k _ _ (.d (.tuple ds)) M1 (kp.trans (Kp.new hp)) ?_ (m1.new hp) q1⟩;simp only[aH,aA];exact⟨p,vs,rfl,.inl (.inl ax),rA.keep (Kp.new hp)⟩
variable {x:Str}{p:Pos}{id T:String}{r:List V->Hp->VK->Prop}{rd:List W->MH->QD->Prop}
def fP(K:FG)(r:List V->Hp->VK->Prop)(rd:List W->MH->QD->Prop):Prop:=∀ vs H ws M Qd Q,bj K H ws vs->cz K H M->rd ws M Qd->Kont K H Qd Q->r vs H Q
def dCB(rd:List W->MH->QD->Prop)(t:TAd)(τ:DS)(M:MH)(Q:QD):Prop:=t τ M λ ws M1=>rd ws M1 Q
theorem zU(hd:fP K r rd)(h:up K (dCB rd t) σ H Q):tCB r (upA K t) σ H Q:=by obtain⟨τ,M,Qd,A,h,k⟩:=h;exact⟨τ,M,_,A,h,λ vs H1 ws M1 kp r1 m1 q1=>hd vs H1 ws M1 Qd Q r1 m1 q1 (kgo k kp)⟩
theorem tu(hc:dZ X (.builtin id) r)(hd:fP X.K r rd)(hg:Gl X x)(hm:X.mg x=none)(hv:bootBuiltins x=some (.builtin id))(ha:PAd X (e::es) t)(hn:x ≠ "__name__":= by decide)(hdb:ND x:=by decide)
  (he:starEach (e::es) X.env=(false,eval e X.env)::starEach es X.env:=by rfl)(hpl:(backTo pos (starEach es X.env)).any (·.1)=false:=by rfl):PD X (.Call (.Name x p) (e::es) [] pos) (dCB rd t):=
 iH (sQ hc hg hm hv ha hn hdb he hpl) λ σ H Q h=>zU hd h
theorem qb(hc:dZ X (.type T) r)(hd:fP X.K r rd)(hg:Gl X x)(hm:X.mg x=none)(hv:bootBuiltins x=some (.type T))(ha:PAd X (e::es) t)(hn:x ≠ "__name__":= by decide)(hdb:ND x:=by decide)
  (he:starEach (e::es) X.env=(false,eval e X.env)::starEach es X.env:=by rfl)(hpl:(backTo pos (starEach es X.env)).any (·.1)=false:=by rfl):PD X (.Call (.Name x p) (e::es) [] pos) (dCB rd t):=
 iH (v7 hc hg hm hv ha hn hdb he hpl) λ σ H Q h=>zU hd h
end
section
variable {X:Cx}{pos:Pos}{st:Stmt}{sts:List Stmt}{t u:TSd}{e:Expr}{te:TD}{K:FG}
def bX(D:Ed)(τ:DS)(M:MH):Prop:=D.nx τ M
def bI(t u:TSd)(D:Ed)(τ:DS)(M:MH):Prop:=t {D with nx:=u D} τ M
theorem uX(h1:PSd X st t)(h2:nA X sts u):nA X (st::sts) (bI t u):=adg (yC h1 h2) λ D σ H ⟨τ,M,Dd,A,h,k1,k2,k3,k4⟩ =>
 ⟨τ,M,{Dd with nx:=u Dd},A,h,λ σ' H' τ' M' kp A' q=>⟨τ',M',Dd,A',q,λ σ2 H2 τ2 M2 kp2=>k1 σ2 H2 τ2 M2 (kp.trans kp2),λ v H2 w M2 kp2=>k2 v H2 w M2 (kp.trans kp2),λ σ2 H2 τ2 M2 kp2=>k3 σ2 H2 τ2 M2 (kp.trans kp2),λ σ2 H2 τ2 M2 kp2=>k4 σ2 H2 τ2 M2 (kp.trans kp2)⟩,k2,k3,k4⟩
theorem yR(h1:PSd X st t):nA X [st] t:=vT h1
def iI(te:TD)(D:Ed)(τ:DS)(M:MH):Prop:=te τ M λ _ M1=>D.nx τ M1
theorem zC(he:PD X e te)(hs:swapsWith e none pos.line X.env=pure false:=by rfl):PSd X (.Expr e pos) (iI te):=tQ (abd he hs) λ D σ H ⟨τ,M,Dd,A,h,k1,_⟩ =>
 ⟨τ,M,_,A,h,λ v H1 w M1 kp r m q=>k1 σ H1 τ M1 kp (A.go kp m) q⟩
def eK(te:TD)(D:Ed)(τ:DS)(M:MH):Prop:=te τ M D.rt
theorem ab8(he:PD X e te):PSd X (.Return (some e) pos) (eK te):=tQ (acE he) λ D σ H ⟨τ,M,Dd,A,h,k1,k2,_⟩=>⟨τ,M,_,A,h,λ v H1 w M1 kp r m q=>k2 v H1 w M1 kp r m q⟩
def acm(D:Ed)(_:DS)(M:MH):Prop:=D.rt (.d .none) M
def dIf(c:TTd)(t u:TSd)(D:Ed)(τ:DS)(M:MH):Prop:=c τ M λ b M1=>if b=true then t D τ M1 else u D τ M1
theorem adp(hc:PTd X c tc)(ha:nA X a t)(hb:nA X b u):PSd X (.If c a b pos) (dIf tc t u):=tQ (afM hc ha hb) λ D σ H hq43=>by
 obtain⟨τ,M,Dd,A,h,k1,k2,k3,k4⟩:=hq43;refine⟨τ,M,_,A,h,λ b H1 M1 kp m q=>?_⟩;have go:∀ {t':TSd},t' Dd τ M1->upS X.K t' D σ H1:=λ {t'} q=>⟨τ,M1,Dd,A.go kp m,q,λ σ2 H2 τ2 M2 kp2=>k1 σ2 H2 τ2 M2 (kp.trans kp2),λ v H2 w M2 kp2=>k2 v H2 w M2 (kp.trans kp2),λ σ2 H2 τ2 M2 kp2=>k3 σ2 H2 τ2 M2 (kp.trans kp2),λ σ2 H2 τ2 M2 kp2=>k4 σ2 H2 τ2 M2 (kp.trans kp2)⟩;cases b with
 | true=>rw[if_pos rfl] at q;show(if true=true then upS X.K t D σ H1 else upS X.K u D σ H1);rw[if_pos rfl];exact go q
 | false=>rw[if_neg Bool.false_ne_true] at q;show(if false=true then upS X.K t D σ H1 else upS X.K u D σ H1);rw[if_neg Bool.false_ne_true];exact go q
abbrev TGd:=W->DS->MH->(DS->MH->Prop)->Prop
def upG(K:FG)(g:TGd):TG:=λ v σ H Q=>∃ w τ M Qd,aH K H w v/\Abs K H σ τ M/\g w τ M Qd/\∀ σ' H' τ' M',Kp H H'->Abs K H' σ' τ' M'->Qd τ' M'->Q σ' H'
abbrev PGd(X:Cx)(e:Expr)(g:TGd):Prop:=PG X e (upG X.K g)
theorem aga(h:PG X e g)(k:∀ v σ H Q,g' v σ H Q->g v σ H Q):PG X e g':=λ pins s σ H v u Q I r q=>h pins s σ H v u Q I r (k v σ H Q q)
def gN(i:Nat)(w:W)(τ:DS)(M:MH)(Q:DS->MH->Prop):Prop:=Q (τ.set i (some w)) M
def dW(te:TD)(g:TGd)(D:Ed)(τ:DS)(M:MH):Prop:=te τ M λ w M1=>g w τ M1 D.nx
theorem abe(h:upS K (dW te g) D σ H):af8 (up K te) (upG K g) D σ H:=by obtain⟨τ,M,Dd,A,h,k1,_⟩:=h;exact⟨τ,M,_,A,h,λ v H1 w M1 kp r m q=>⟨w,τ,M1,_,r,A.go kp m,q,λ σ2 H2 τ2 M2 kp2 A2 q2=>k1 σ2 H2 τ2 M2 (kp.trans kp2) A2 q2⟩⟩
theorem aaT(he:PD X e te)(hg:PGd X tg g)(hs:swapsWithSole [tg] e pos.line X.env=pure false:=by rfl)(hw:swappedStores [tg] e X.env=pure none:=by rfl)
  (h1:(assignEach [tg] X.env).map (·.2)=[assign tg X.env]:=by rfl):PSd X (.Assign [tg] e pos) (dW te g):=tQ (acR he hg hs hw h1) λ D σ H h=>abe h
theorem aa7(hN:X.N.Nodup)(hi:X.N[i]? =some x)(hx:Loc X.env.scope x)(he:PD X e te)(hs:swapsWith e (some (.Name x pos')) pos.line X.env=pure false:=by rfl)(hf:X.fn x=true\/X.env.scope.names.lookup x=some .local:=by first | exact .inl rfl | exact .inr rfl | assumption) :
  PSd X (.Assign [.Name x pos'] e pos) (dW te (gN i)):=tQ (adb hN hi hx he hs hf) λ D σ H ⟨τ,M,Dd,A,h,k1,_⟩ =>
 ⟨τ,M,_,A,h,λ v H1 w M1 kp r m q=>k1 _ H1 _ M1 kp ((A.go kp m).set i r) q⟩
end
abbrev SpD:=List W->MH->QD->Prop
def dH(K:FG)(sp:SpD):Sp:=λ vs H Q _=>∃ ws M Qd,bj K H ws vs/\cz K H M/\sp ws M Qd/\Kont K H Qd Q
def cN(sp:SpD)(t:TAd)(τ:DS)(M:MH)(Q:QD):Prop:=t τ M λ ws M1=>sp ws M1 Q
theorem xo(F:bH X.prog X.w X.K X.mg X.base CX0 k f fd ps (dH X.K sp))(hr:dN k X.A)(hg:Gl X x)(hm:X.mg x=some (.ref f))(hk:W.keepIn X.K (.ref f)=true)(hb:Binds X.K fd ps [])
  (ha:PAd X (e::es) t)(hdb:ND x:=by decide)(he:starEach (e::es) X.env=(false,eval e X.env)::starEach es X.env:=by rfl)(hpl:(backTo pos (starEach es X.env)).any (·.1)=false:=by rfl) :
  PD X (.Call (.Name x p) (e::es) [] pos) (cN sp t):=iH (aaP (E:=E0) (dvs:=[]) F hr hg hm hk hb .nil wM ha hdb he hpl) λ σ H Q h=>by
 obtain⟨τ,M,Qd,A,h,k⟩:=h;exact⟨τ,M,_,A,h,λ vs H1 ws M1 kp r1 m1 q1=>⟨ws,M1,Qd,by rw[List.append_nil];exact r1,m1,q1,kgo k kp⟩⟩
def bh(N:List Str)(ws:List W):DS:=ws.map some++List.replicate (N.length-ws.length) none
section
variable {P:Program}{w:World}{K:FG}{mg:Str->Option Value}{base:Heap}
theorem kJ(r:bj K H ws vs)(m:cz K H M):Abs K H (start N vs) (bh N ws) M:=by
 have hl:=r.length;refine⟨?_,λ i w e=>?_,m⟩
 ·simp[L2.start,bh,hl]
 ·unfold bh at e
  by_cases hi:i<ws.length
  ·rw[List.getElem?_append_left (by simpa using hi),List.getElem?_map] at e;cases q:ws[i]? with
   | none=>rw[q] at e;cases e
   | some w' =>
    rw[q] at e;cases e;obtain⟨v,e1,r1⟩:=r.get q;refine⟨v,?_,r1⟩;unfold L2.start;rw[List.getElem?_append_left (by rw[List.length_map,<- hl];exact hi),List.getElem?_map,e1];rfl
  ·rw[List.getElem?_append_right (by simpa using hi),List.getElem?_replicate] at e
   split at e<;>cases e
theorem cO{x qual:Str}{st:Stmt}{N ps:List Str}{k:Nat}{sp:SpD}{t:TSd}(F:Fun K x qual st f fd)(S:aJ N ps (ag st))(len:∀ ws M Q,sp ws M Q->ws.length=ps.length)
  (hbody:∀ (cdv:Value) (A:Around) (outer:List Env) (s:Shared) (H:Hp) (E:XK),dN k (A.deeper (envOfC qual (ag st) s.heap.objs.size f cdv)) ->
   nA (qR CX0 P w K mg base N qual (ag st) f cdv A outer s H E).nox (aD st) t)
  (read:∀ ws M Q,sp ws M Q->t {nx:=λ _ M'=>Q (.d .none) M',rt:=Q} (bh N ws) M):bH P w K mg base CX0 (k+1) f fd ps (dH K sp):=by
 refine F.ok S (λ vs H Q E h=>?_) (λ cdv A outer s H vs Q E hr h=>?_)
 ·obtain⟨ws,M,Qd,r,_,q,_⟩:=h;rw[<- r.length];exact len _ _ _ q
 ·obtain⟨ws,M,Qd,r,m,q,kk⟩:=h;refine⟨_,hbody cdv A outer s H E hr,bh N ws,M,_,kJ r m,read ws M Qd q,λ σ' H' τ' M' kp A' q'=>?_,λ v H' w' M' kp r' m' q'=>?_,λ σ' H' τ' M' kp A' q'=>q'.elim,λ σ' H' τ' M' kp A' q'=>q'.elim⟩
  ·exact kk _ H' _ M' kp (by simp[aH,aA]) A'.mem q'
  ·exact kk v H' w' M' kp r' m' q'
end
end D
namespace L2
structure cL(k:Nat)(A:Around):Prop where
 gd:A.guards=some []
 dp:A.depth+3 * k+5<recursionLimit
 un:A.units+16 * k+200<cLine
theorem cL.mono(r:cL k A)(h:j<=k):cL j A:=⟨r.gd,by have:=r.dp;omega,by have:=r.un;omega⟩
theorem cL.deeper(r:cL (k+1) A)(env:Env):cL k (A.deeper env):=
 ⟨r.gd,by have:=r.dp;show A.depth+1+3 * k+5<_;omega,by have:=r.un;show A.units+3+16 * k+200<_;omega⟩
theorem cL.depth(r:cL k A):A.depth<recursionLimit:=by have:=r.dp;omega
theorem cL.units(r:cL k A):A.units+64<cLine:=by have:=r.un;omega
theorem dN.h(r:dN k A):cL k A:=⟨r.gd,r.dp,r.un⟩
theorem cL.mark(r:cL k A)(v:Value):cL k (A.mark (some v)):=⟨r.gd,r.dp,r.un⟩
end L2
namespace D
open L2
mutual
theorem dR(I:Inv X pins σ H s):∀ (d:PyData) {x:V} {u:Value},aA X.K H d x->RelV x u->d.hasDict=false->∃ as,Reads s.heap u d as
 | .none,x,u,h,r,_=>by simp only[aA] at h;subst h;cases (show u=Value.none from r);exact⟨_,.none⟩
 | .bool b,x,u,h,r,_=>by simp only[aA] at h;subst h;cases (show u=Value.bool b from r);exact⟨_,.bool b⟩
 | .int i,x,u,h,r,_=>by simp only[aA] at h;subst h;obtain⟨t,e⟩:=(show ∃ t,u=Value.int i t from r);subst e;exact⟨_,.int i t⟩
 | .str z,x,u,h,r,_=>by simp only[aA] at h;subst h;obtain⟨t,e⟩:=(show ∃ t,u=Value.str z t from r);subst e;exact⟨_,.str z t⟩
 | .list ds,x,u,h,r,hd=>by simp only[aA] at h;obtain⟨a,vs,e,hs,ra⟩:=h;subst e;cases (show u=Value.ref a from r);obtain⟨its,rv,⟨o,n,e1,e2,e3,e4⟩,hz⟩:=I.list hs.sq;obtain⟨as,q⟩:=l5 I ds ra rv (by simpa [PyData.hasDict] using hd);exact⟨_,.list e1 e2 e4 (by simpa using q)⟩
 | .tuple ds,x,u,h,r,hd=>by simp only[aA] at h;obtain⟨a,vs,e,hs,ra⟩:=h;subst e;cases (show u=Value.ref a from r);obtain⟨its,rv,⟨o,e1,e2,n,e4⟩,hz⟩:=I.tuple hs;obtain⟨as,q⟩:=l5 I ds ra rv (by simpa [PyData.hasDict] using hd);exact⟨_,.tuple e1 e2 e4 (by simpa using q)⟩
 | .dict kvs,x,u,h,r,hd=>by simp[PyData.hasDict] at hd
theorem l5(I:Inv X pins σ H s):∀ (ds:List PyData) {xs:List V} {us:List Value},bA X.K H ds xs->Vals xs us->PyData.hasDictAll ds=false->∃ as,ReadsAll s.heap us ds as
 | [],xs,us,h,r,_=>by simp only[bA] at h;subst h;cases r;exact⟨_,.nil⟩
 | d::ds,xs,us,h,r,hd=>by
  simp only[bA] at h;obtain⟨v,vr,e,h1,h2⟩:=h;subst e;simp only[PyData.hasDictAll,Bool.or_eq_false_iff] at hd;cases r with
  | cons r1 r2 =>
   obtain⟨as,q1⟩:=dR I d h1 r1 hd.1;obtain⟨bs,q2⟩:=l5 I ds h2 r2 hd.2;exact⟨_,.cons q1 q2⟩
end
def abJ:PyData->Bool
 | .none | .bool _ | .int _ | .str _=>true
 | _=>false
theorem uF:∀ {d:PyData} {x:V} {u:Value} {h:Heap} {K:FG} {H:Hp},abJ d=true->aA K H d x->RelV x u->Reads h u d []
 | .none,x,u,h,K,H,_,e,r=>by simp only[aA] at e;subst e;cases (show u=Value.none from r);exact .none
 | .bool b,x,u,h,K,H,_,e,r=>by simp only[aA] at e;subst e;cases (show u=Value.bool b from r);exact .bool b
 | .int i,x,u,h,K,H,_,e,r=>by simp only[aA] at e;subst e;obtain⟨t,z⟩:=(show ∃ t,u=Value.int i t from r);subst z;exact .int i t
 | .str i,x,u,h,K,H,_,e,r=>by simp only[aA] at e;subst e;obtain⟨t,z⟩:=(show ∃ t,u=Value.str i t from r);subst z;exact .str i t
 | .list _,_,_,_,_,_,f,_,_=>nomatch f
 | .tuple _,_,_,_,_,_,f,_,_=>nomatch f
 | .dict _,_,_,_,_,_,f,_,_=>nomatch f
theorem kT{P:Program}{w:World}{h:Heap}{K:FG}{H:Hp}:∀ {kvs:List (PyData×PyData)} {l:List (Key×V)} {vs:List (Key×Value)} {es:List DictEntry},(kvs.all λ p=>abJ p.2)=true->md K H kvs l->KV l vs->Pairs (bb P w) es vs ->
  ReadsAll h (es.map (·.key)) (kvs.map (·.1)) []/\ReadsAll h (es.map (·.val)) (kvs.map (·.2)) []
 | [],l,vs,es,_,r,kv,p=>by simp only[md] at r;subst r;cases kv;cases p;exact⟨.nil,.nil⟩
 | (k,d)::kvs,l,vs,es,f,r,kv,p=>by
  simp only[md] at r;obtain⟨key,v,lr,e,ek,r1,r2⟩:=r;subst e;rw[List.all_cons,Bool.and_eq_true] at f;cases kv with
  | cons q1 q2 =>
   rename_i kv0 vs0
   obtain⟨k0,u0⟩:=kv0;obtain⟨q1,q3⟩:=q1;cases p with
   | cons p1 p2 p3 =>
    rename_i en es0
    obtain⟨i1,i2⟩:=kT f.2 r2 q2 p3;have rk:Reads h en.key k []:=by
     have hk:mr k0 en.key=true:=p1;have hk0:key=k0:=q1;subst hk0;rw[ek];rcases bQ hk with ⟨i,t,z1,z2⟩ | ⟨i,t,z1,z2⟩
     ·subst z1;rw[z2];exact .int i t
     ·subst z1;rw[z2];exact .str i t
    have rv:Reads h en.val d []:=by rw[p2];exact uF f.1 r1 q3
    exact⟨.cons rk i1,.cons rv i2⟩
def fJ(d:PyData):Bool:=d.showable&&decide (d.shown.length<=sizeLine)&&decide (d.depth<=60)&&(!d.hasDict || match d with
 | .dict kvs=>kvs.all λ p=>abJ p.2
 | _=>false)
theorem tM(I:Inv X pins σ H s){d:PyData}{x:V}{u:Value}(h:aA X.K H d x)(r:RelV x u)(ok:fJ d=true):∃ as,Reads s.heap u d as/\(d.hasDict=true->sysModules ∉ as):=by
 simp only[fJ,Bool.and_eq_true,Bool.or_eq_true] at ok;cases hd:d.hasDict with
 | false =>
  obtain⟨as,q⟩:=dR I d h r hd;exact⟨as,q,λ z=>absurd z (by simp)⟩
 | true =>
  have f:=ok.2.resolve_left (by simp[hd]);cases d with
  | dict kvs =>
   simp only[aA] at h;obtain⟨a,o,l,e,ha,rk⟩:=h;subst e;cases (show u=Value.ref a from r);obtain⟨z,hs,vs,kv,o',es,ep,e1,e2,e3,e4,e5,e6⟩:=vv I.hok (.inr ⟨o,ha⟩);obtain⟨q1,q2⟩:=kT (h:=s.heap) f rk kv e5;refine⟨_,.dict e1 e2.1 e3 q1 q2,λ _ hm=>?_⟩;simp only[List.append_nil] at hm;have hm':sysModules=a:=by simpa using hm
   rw[<- hm'] at hs;simp at hs
  | _=>exact absurd f (by simp)
def rH(d:PyData):Bool:=SeqAt.shaped d&&!d.hasDict
def gb:PyData->PyData->Bool
 | .str _,.str _=>true
 | d,d'=>rH d&&rH d'
theorem f9(h:gb d d'=true):(∃ x y,d=.str x/\d'=.str y)\/(rH d=true/\rH d'=true):=by
 cases d with
 | str x =>
  cases d' with
  | str y=>exact .inl ⟨x,y,rfl,rfl⟩
  | _=>exact .inr (by simpa [gb] using h)
 | _=>exact .inr (by simpa [gb] using h)
theorem qY(x y:Str):decide (V.str x=V.str y)=PyData.eqv (.str x) (.str y):=by
 rw[PyData.eqv]
 by_cases e:x=y
 ·subst e;simp
 ·rw[decide_eq_false (λ z=>e (V.str.inj z))];exact(beq_eq_false_iff_ne.mpr e).symm
theorem z9(hr:cL k X.A):OpR X (compareOp .Eq) (λ x y H Q=>∃ d d',aA X.K H d x/\aA X.K H d' y/\gb d d'=true/\Q (.bl (PyData.eqv d d')) H):=by
 intro pins s σ H x y v u Q I rx ry h;obtain⟨d,d',h1,h2,o,q⟩:=h;rcases f9 o with ⟨a,b,e1,e2⟩ | ⟨o1,o2⟩
 ·subst e1;subst e2;simp only[aA] at h1 h2;subst h1;subst h2;exact agc pins s σ H _ _ v u Q I rx ry ⟨rfl,by rw[qY];exact q⟩
 simp only[rH,Bool.and_eq_true,Bool.not_eq_true'] at o1 o2;obtain⟨as,r1⟩:=dR I d h1 rx o1.2;obtain⟨bs,r2⟩:=dR I d' h2 ry o2.2;exact eq_dataH r1 r2 o1.1 o2.1 hr.units ⟨.bl _,H,I,rfl,q⟩
theorem adD(hr:cL k X.A):OpR X (compareOp .NotEq) (λ x y H Q=>∃ d d',aA X.K H d x/\aA X.K H d' y/\gb d d'=true/\Q (.bl (!PyData.eqv d d')) H):=by
 intro pins s σ H x y v u Q I rx ry h;obtain⟨d,d',h1,h2,o,q⟩:=h;rcases f9 o with ⟨a,b,e1,e2⟩ | ⟨o1,o2⟩
 ·subst e1;subst e2;simp only[aA] at h1 h2;subst h1;subst h2;exact afS pins s σ H _ _ v u Q I rx ry ⟨rfl,by rw[qY];exact q⟩
 simp only[rH,Bool.and_eq_true,Bool.not_eq_true'] at o1 o2;obtain⟨as,r1⟩:=dR I d h1 rx o1.2;obtain⟨bs,r2⟩:=dR I d' h2 ry o2.2;exact ne_dataH r1 r2 o1.1 o2.1 hr.units ⟨.bl _,H,I,rfl,q⟩
def tyD:PyData->String
 | .none => "NoneType"
 | .bool _ => "bool"
 | .int _ => "int"
 | .str _ => "str"
 | .list _ => "list"
 | .tuple _ => "tuple"
 | .dict _ => "dict"
inductive Ty6:String->Prop where
 | int:Ty6 "int" | bool:Ty6 "bool" | str:Ty6 "str" | list:Ty6 "list" | tuple:Ty6 "tuple" | dict:Ty6 "dict"
def mG(d:PyData)(T:String):Bool:=tyD d==T || (T == "int" && tyD d == "bool")
theorem vD{K:FG}(d:PyData){T:String}(h:Ty6 T):W.kitOne K (.type (tyD d)) (.type T)=some (mG d T):=by
 cases h<;>cases d<;>rfl
theorem uU:dZ X (.builtin "isinstance") (λ xs H Q=>∃ x d T,xs=[x,.ty T]/\aA X.K H d x/\Ty6 T/\Q (.bl (mG d T)) H):=by
 intro pins s σ H xs us Q I r h;obtain⟨x,d,T,rfl,rd,h6,q⟩:=h;obtain⟨u,w',rfl,rx,ry⟩:=vals2 r;cases (show w'=Value.type T from ry);have e:=vD (K:=X.K) d h6;have fin:∀ tk,EP X pins σ Q (.bool (mG d T)) {s with toks:=tk}:=λ tk=>⟨.bl _,H,I.tok _,rfl,q⟩;generalize mG d T=b at e fin;cases d with
 | none=>simp only[aA] at rd;subst rd;cases (show u=Value.none from rx);exact W.kia_one W.kitx_none I.kIn True.intro e (λ z=>nomatch z) fin
 | bool y=>simp only[aA] at rd;subst rd;cases (show u=Value.bool y from rx);exact W.kia_one W.kitx_bool I.kIn True.intro e (λ z=>nomatch z) fin
 | int i=>simp only[aA] at rd;subst rd;obtain⟨t,z⟩:=(show ∃ t,u=Value.int i t from rx);subst z;exact W.kia_one W.kitx_int I.kIn True.intro e (λ z=>nomatch z) fin
 | str y=>simp only[aA] at rd;subst rd;obtain⟨t,z⟩:=(show ∃ t,u=Value.str y t from rx);subst z;exact W.kia_one W.kitx_str I.kIn True.intro e (λ z=>nomatch z) fin
 | list ds =>
  simp only[aA] at rd;obtain⟨a,vs,z,hs,_⟩:=rd;subst z;cases (show u=Value.ref a from rx);obtain⟨its,rv,⟨o,n,e1,e2,e3,e4⟩,hz⟩:=I.list hs.sq;exact W.kia_one W.kitx_list I.kIn ⟨_,e1,e2⟩ e (λ z=>nomatch z) fin
 | tuple ds =>
  simp only[aA] at rd;obtain⟨a,vs,z,hs,_⟩:=rd;subst z;cases (show u=Value.ref a from rx);obtain⟨its,rv,⟨o,e1,e2,e3⟩,hz⟩:=I.tuple hs;exact W.kia_one W.kitx_tuple I.kIn ⟨_,e1,e2⟩ e (λ z=>nomatch z) fin
 | dict kvs =>
  simp only[aA] at rd;obtain⟨a,o,l,z,ha,_⟩:=rd;subst z;cases (show u=Value.ref a from rx);obtain⟨_,hs,vs,kv,o',es,ep,e1,e2,_⟩:=vv I.hok (.inr ⟨o,ha⟩);exact W.kia_one W.kitx_dict I.kIn ⟨_,e1,e2.1⟩ e (λ z=>nomatch z) fin
theorem qr{K:FG}{H:Hp}:∀ {bs:List Bool} {vs:List V} {us:List Value},bA K H (bs.map PyData.bool) vs->Vals vs us->LSm.BoolsAre us bs
 | [],vs,us,h,r=>by simp only[List.map_nil,bA] at h;subst h;cases r;exact .nil
 | b::bs,vs,us,h,r=>by
  simp only[List.map_cons,bA] at h;obtain⟨v,vr,e,h1,h2⟩:=h;subst e;simp only[aA] at h1;subst h1;cases r with
  | cons r1 r2=>cases (show _=Value.bool b from r1);exact .cons b (qr h2 r2)
theorem vy(hc:X.calm=true):dZ X (.builtin "all") (λ xs H Q=>∃ (x:V) (bs:List Bool),xs=[x]/\aA X.K H (.list (bs.map PyData.bool)) x/\Q (.bl (bs.all id)) H):=by
 intro pins s σ H xs us Q I r h;obtain⟨x,bs,rfl,rd,q⟩:=h;obtain⟨u,rfl,rx⟩:=vals1 r;simp only[aA] at rd;obtain⟨a,vs,z,hs,ra⟩:=rd;subst z;cases (show u=Value.ref a from rx);obtain⟨its,rv,pl,hz⟩:=I.list hs.sq;obtain⟨m,F⟩:=I.fr;have N:News X.base X.env.locals s.heap []:=λ p hp=>nomatch hp;have hb:=qr ra rv;have hl:s.heap.IsList a its.toArray:=pl.isList;have hlt:a<s.heap.objs.size:=by obtain⟨_,e,_⟩:=hl;exact Heap.lt_size e
 refine call_all_walk (wpAny_pyIter_list hl ?_);refine⟨s.heap.objs.size,[s.heap.objs.size,a],[s.heap.objs.size],its.toArray.size,_,_,λ i=>(bs[i]?).getD true,rfl,Walks.list (A:=X.A.in1) (I.ok.hd hc) _ a (Nat.ne_of_lt hlt) its.toArray,
  ⟨⟨_,Heap.get?_push_size _ rfl,rfl,rfl⟩,hl.push _⟩,λ i v s' Q' E' hP hQ=>?_,λ h' tk hk=>?_⟩
 ·obtain⟨b,e,rfl⟩:=hb.get i v (by simpa using hP);simp only[e,Option.getD_some] at hQ;exact wpAny_truthy_bool hQ
 ·have e:((List.range its.toArray.size).all λ i=>(bs[i]?).getD true)=bs.all id:=by rw[List.size_toArray,hb.length];exact LSm.range_all bs
  rw[e];exact⟨.bl _,H,I.kept (LSm.kept_iter hk),rfl,q⟩
end D
namespace D
open L2
section
variable {X:Cx}{K:FG}
theorem OpR.or(h:OpR X f r)(h':OpR X f r'):OpR X f (λ x y H Q=>r x y H Q\/r' x y H Q):=by
 intro pins s σ H x y v u Q I rx ry q;rcases q with q | q
 ·exact h pins s σ H x y v u Q I rx ry q
 ·exact h' pins s σ H x y v u Q I rx ry q
theorem OpD.or(h:OpD K r rd)(h':OpD K r' rd'):OpD K (λ x y H Q=>r x y H Q\/r' x y H Q) (λ w w' M Q=>rd w w' M Q\/rd' w w' M Q):=by
 intro x y H w w' M Qd Q r1 r2 m q k;rcases q with q | q
 ·exact .inl (h x y H w w' M Qd Q r1 r2 m q k)
 ·exact .inr (h' x y H w w' M Qd Q r1 r2 m q k)
def aas(g:Int->Int->PyData)(w:W)(w':W)(M:MH)(Q:QD):Prop:=∃ i j,w=.d (.int i)/\w'=.d (.int j)/\Q (.d (g i j)) M
def rdI(C:Int->Int->Prop)(g:Int->Int->PyData)(w:W)(w':W)(M:MH)(Q:QD):Prop:=∃ i j,w=.d (.int i)/\w'=.d (.int j)/\C i j/\Q (.d (g i j)) M
theorem mV(hg:∀ i j H,aA K H (gd i j) (g i j)):OpD K (rI0 g) (aas gd):=by intro x y H w w' M Qd Q r1 r2 m ⟨i,j,e1,e2,q⟩ k;subst e1;subst e2;simp only[aH,aA] at r1 r2;exact⟨i,j,r1,r2,k _ H (.d (gd i j)) M (Kp.refl H) (hg i j H) m q⟩
theorem aa9(hg:∀ i j H,aA K H (gd i j) (g i j)):OpD K (rI C g) (rdI C gd):=by intro x y H w w' M Qd Q r1 r2 m ⟨i,j,e1,e2,c,q⟩ k;subst e1;subst e2;simp only[aH,aA] at r1 r2;exact⟨i,j,r1,r2,c,k _ H (.d (gd i j)) M (Kp.refl H) (hg i j H) m q⟩
def aay(w w':W)(M:MH)(Q:QD):Prop:=aas (λ i j=>.int (i-j)) w w' M Q
def iE(w w':W)(M:MH)(Q:QD):Prop:=rdI aez (λ i j=>.int (i * j)) w w' M Q
def fN(w w':W)(M:MH)(Q:QD):Prop:=rdI (λ _ j=>0<j) (λ i j=>.int (i % j)) w w' M Q
def wZ(w w':W)(M:MH)(Q:QD):Prop:=rdI agu (λ i j=>.int (i / j)) w w' M Q
def gg(w:W)(w':W)(M:MH)(Q:QD):Prop:=aas (λ i j=>.int (i+j)) w w' M Q\/∃ x y,w=.d (.str x)/\w'=.d (.str y)/\x.length+y.length<=sizeLine/\Q (.d (.str (x++y))) M
theorem w5:OpD K (rI0 λ i j=>.int (i-j)) aay:=mV λ _ _ _=>by simp[aA]
theorem jI:OpD K (rI aez λ i j=>.int (i * j)) iE:=aa9 λ _ _ _=>by simp[aA]
theorem gq:OpD K (rI (λ _ j=>0<j) λ i j=>.int (i % j)) fN:=aa9 λ _ _ _=>by simp[aA]
theorem w9:OpD K (rI agu λ i j=>.int (i / j)) wZ:=aa9 λ _ _ _=>by simp[aA]
def abC:R2:=λ x y H Q=>∃ i j,x=.str i/\y=.str j/\i.length+j.length<=sizeLine/\Q (.str (i++j)) H
theorem yz:OpD K abC (λ w w' M Q=>∃ x y,w=.d (.str x)/\w'=.d (.str y)/\x.length+y.length<=sizeLine/\Q (.d (.str (x++y))) M):=by intro x y H w w' M Qd Q r1 r2 m ⟨i,j,e1,e2,c,q⟩ k;subst e1;subst e2;simp only[aH,aA] at r1 r2;exact⟨i,j,r1,r2,c,k _ H (.d (.str (i++j))) M (Kp.refl H) (by simp[aH,aA]) m q⟩
theorem eZ:OpR X (binaryOp .Add) (λ x y H Q=>rI0 (λ i j=>.int (i+j)) x y H Q\/abC x y H Q):=OpR.or ael uu
theorem dB:OpD K (λ x y H Q=>rI0 (λ i j=>.int (i+j)) x y H Q\/abC x y H Q) gg:=OpD.or (mV λ _ _ _=>by simp[aA]) yz
def rS(g:Str->Str->Bool):R2:=λ x y H Q=>∃ i j,x=.str i/\y=.str j/\Q (.bl (g i j)) H
def rdS(g:Str->Str->Bool)(w:W)(w':W)(M:MH)(Q:QD):Prop:=∃ i j,w=.d (.str i)/\w'=.d (.str j)/\Q (.d (.bool (g i j))) M
theorem agj:OpD K (rS g) (rdS g):=by intro x y H w w' M Qd Q r1 r2 m ⟨i,j,e1,e2,q⟩ k;subst e1;subst e2;simp only[aH,aA] at r1 r2;exact⟨i,j,r1,r2,k _ H (.d (.bool (g i j))) M (Kp.refl H) (by simp[aH,aA]) m q⟩
theorem uY:OpR X (compareOp .LtE) (rS λ x y=>!decide (y.cps.toList<x.cps.toList)):=by intro pins s σ H x y v u Q I rx ry h;obtain⟨i,j,rfl,rfl,q⟩:=h;obtain⟨t,rfl⟩:=rx;obtain⟨t',rfl⟩:=ry;exact PySem.P.le_str ⟨.bl _,H,I,rfl,q⟩
def sU(w:W)(w':W)(M:MH)(Q:QD):Prop:=aas (λ i j=>.bool (decide (i<=j))) w w' M Q\/rdS (λ x y=>!decide (y.cps.toList<x.cps.toList)) w w' M Q
theorem lq:OpR X (compareOp .LtE) (λ x y H Q=>rI0 (λ i j=>.bl (decide (i<=j))) x y H Q\/rS (λ x y=>!decide (y.cps.toList<x.cps.toList)) x y H Q):=OpR.or af4 uY
theorem iu:OpD K (λ x y H Q=>rI0 (λ i j=>.bl (decide (i<=j))) x y H Q\/rS (λ x y=>!decide (y.cps.toList<x.cps.toList)) x y H Q) sU:=OpD.or (mV λ _ _ _=>by simp[aA]) agj
def aeT(w w':W)(M:MH)(Q:QD):Prop:=aas (λ i j=>.bool (decide (i<j))) w w' M Q
def acv(w w':W)(M:MH)(Q:QD):Prop:=aas (λ i j=>.bool (decide (j<i))) w w' M Q
def acw(w w':W)(M:MH)(Q:QD):Prop:=aas (λ i j=>.bool (decide (j<=i))) w w' M Q
theorem vt:OpD K (rI0 λ i j=>.bl (decide (i<j))) aeT:=mV λ _ _ _=>by simp[aA]
theorem wW:OpD K (rI0 λ i j=>.bl (decide (j<i))) acv:=mV λ _ _ _=>by simp[aA]
theorem sC:OpD K (rI0 λ i j=>.bl (decide (j<=i))) acw:=mV λ _ _ _=>by simp[aA]
def agN(w:W)(w':W)(M:MH)(Q:QD):Prop:=∃ d d',w=.d d/\w'=.d d'/\gb d d'=true/\Q (.d (.bool (PyData.eqv d d'))) M
theorem acD:OpD K (λ x y H Q=>∃ d d',aA K H d x/\aA K H d' y/\gb d d'=true/\Q (.bl (PyData.eqv d d')) H) agN:=by intro x y H w w' M Qd Q r1 r2 m ⟨d,d',e1,e2,o1,q⟩ k;subst e1;subst e2;exact⟨d,d',r1,r2,o1,k _ H (.d (.bool _)) M (Kp.refl H) (by simp[aH,aA]) m q⟩
def zW:W->Bool
 | .d (.str z)=>decide (z.length<=sizeLine)
 | _=>true
def ixW(M:MH):W->Int->Option W
 | .d (.list ds),i=>(atI ds i).map W.d
 | .d (.tuple ds),i=>(atI ds i).map W.d
 | .d (.str z),i=>(atI z.cps.toList i).map λ c=>W.d (.str ⟨#[c]⟩)
 | .m a,i=>match M a with
  | some (.lst ws)=>atI ws i
  | some (.tup ws)=>atI ws i
  | _=>none
 | _,_=>none
inductive RIx(w:W) (w':W) (M:MH) (Q:QD):Prop
 | mk (i:Int) (x:W) (z0:w'=.d (.int i)) (z1:ixW M w i=some x) (z2:zW w=true) (q:Q x M):RIx w w' M Q
def dm(w:W)(w':W)(M:MH)(Q:QD):Prop:=RIx w w' M Q
theorem tH(r:bA K H ds vs)(e:atI ds i=some d):∃ v,atI vs i=some v/\aA K H d v:=by
 unfold atI at e ⊢;rw[r.length];cases q:ixN ds.length i with
 | none=>rw[q] at e;cases e
 | some j =>
  rw[q] at e;exact r.get e
theorem qH(r:bj K H ds vs)(e:atI ds i=some d):∃ v,atI vs i=some v/\aH K H d v:=by
 unfold atI at e ⊢;rw[<- r.length];cases q:ixN ds.length i with
 | none=>rw[q] at e;cases e
 | some j =>
  rw[q] at e;exact r.get e
theorem aU:OpD K (rIx K) dm:=by
 intro x y H w w' M Qd Q r1 r2 m ⟨i,z,e2,ei,hf,q⟩ k;subst e2;simp only[aH,aA] at r2;cases w with
 | t n=>simp[ixW] at ei
 | m a =>
  simp only[aH] at r1;simp only[ixW] at ei;cases hm:M a with
  | none=>rw[hm] at ei;cases ei
  | some mo =>
   rw[hm] at ei;cases mo with
   | lst ws =>
    obtain⟨vs,e1,rw1⟩:=m a _ hm;obtain⟨v,e3,rv⟩:=qH rw1 ei;exact .inl ⟨a,vs,i,v,r1,r2,SqL.of e1,e3,k v H z M (Kp.refl H) rv m q⟩
   | dic _=>cases ei
   | dct _=>cases ei
   | fdic _=>cases ei
   | ins _ _=>cases ei
   | tup ws =>
    obtain⟨vs,e1,rw1⟩:=m a _ hm;obtain⟨v,e3,rv⟩:=qH rw1 ei;exact .inr (.inl ⟨a,vs,i,v,r1,r2,.inl (.inl e1),e3,k v H z M (Kp.refl H) rv m q⟩)
   | flst _=>cases ei
   | exc _ _=>cases ei
   | code _ _=>cases ei
 | d d =>
  cases d with
  | list ds =>
   simp only[aH,aA] at r1;obtain⟨a,vs,e1,hs,ra⟩:=r1;simp only[ixW] at ei;cases h:atI ds i with
   | none=>rw[h] at ei;cases ei
   | some d =>
    rw[h] at ei;cases ei;obtain⟨v,e3,rv⟩:=tH ra h;exact .inl ⟨a,vs,i,v,e1,r2,hs.sq,e3,k v H (.d d) M (Kp.refl H) rv m q⟩
  | tuple ds =>
   simp only[aH,aA] at r1;obtain⟨a,vs,e1,hs,ra⟩:=r1;simp only[ixW] at ei;cases h:atI ds i with
   | none=>rw[h] at ei;cases ei
   | some d =>
    rw[h] at ei;cases ei;obtain⟨v,e3,rv⟩:=tH ra h;exact .inr (.inl ⟨a,vs,i,v,e1,r2,hs,e3,k v H (.d d) M (Kp.refl H) rv m q⟩)
  | str s =>
   simp only[aH,aA] at r1;simp only[ixW] at ei;cases h:atI s.cps.toList i with
   | none=>rw[h] at ei;cases ei
   | some c =>
    rw[h] at ei;cases ei;exact .inr (.inr ⟨s,i,c,r1,r2,of_decide_eq_true hf,h,k _ H (.d (.str ⟨#[c]⟩)) M (Kp.refl H) (by simp[aH,aA]) m q⟩)
  | _=>simp[ixW] at ei
theorem abV(h:PE X e t):PE X e (λ σ H Q=>t σ H λ v H1=>Q v H1\/∃ p u,v=.ref p/\H1 p=some u/\Fz u/\∀ o,Q v (upd H1 p (.frz o u))):=by
 intro pins s σ H Q I hq;refine thn (h pins s σ H _ I hq) λ v s1 hq44=>?_;obtain⟨x,H1,I1,r1,q⟩:=hq44;rcases q with q | ⟨p,u,e1,e2,f,q⟩
 ·exact⟨x,_,I1,r1,q⟩
 ·obtain⟨o,I2⟩:=I1.freeze e2 f;exact⟨x,_,I2,r1,q o⟩
def agC:V->Option Int->Option Int->Hp->VK->Prop:=λ x lo hi H Q=>∃ z,x=.str z/\z.length<=sizeLine/\Q (.str (Txt.slice z lo hi)) H
theorem aeh:SlR X agC:=by
 intro pins s σ H x v vl vu lo hi sl Q I rx hs pl pu h;obtain⟨z,rfl,hz,q⟩:=h;obtain⟨t,rfl⟩:=rx;have fin:∀ t' k,EP X pins σ Q (.str (Txt.slice z lo hi) t') {s with toks:=k}:=λ t' k=>⟨.str _,H,I.tok _,⟨_,rfl⟩,q⟩;refine⟨"str",_,F.slot_str_getitem.lookup,typeIs_str _ _ _,?_⟩;cases pl with
 | none =>
  cases pu with
  | none=>exact wpAny_getItem_str_slice (l:=none) (u:=none) (st:=none) hs rfl (post_val_or_str ⟨Nat.le_trans (Txt.slice_le z _ _) hz,fin⟩)
  | int j uj=>exact wpAny_getItem_str_slice (l:=none) (u:=some (j,uj)) (st:=none) hs rfl (post_val_or_str ⟨Nat.le_trans (Txt.slice_le z _ _) hz,fin⟩)
 | int i ui =>
  cases pu with
  | none=>exact wpAny_getItem_str_slice (l:=some (i,ui)) (u:=none) (st:=none) hs rfl (post_val_or_str ⟨Nat.le_trans (Txt.slice_le z _ _) hz,fin⟩)
  | int j uj=>exact wpAny_getItem_str_slice (l:=some (i,ui)) (u:=some (j,uj)) (st:=none) hs rfl (post_val_or_str ⟨Nat.le_trans (Txt.slice_le z _ _) hz,fin⟩)
abbrev TOd:=DS->MH->(Option Int->MH->Prop)->Prop
def upO(K:FG)(t:TOd):TO:=λ σ H Q=>∃ τ M Qd,Abs K H σ τ M/\t τ M Qd/\∀ b H' M',Kp H H'->cz K H' M'->Qd b M'->Q b H'
abbrev POd(X:Cx)(e:Option Expr)(t:TOd):Prop:=PO X e (upO X.K t)
theorem agR(h:PO X e t)(k:∀ σ H Q,t' σ H Q->t σ H Q):PO X e t':=λ pins s σ H Q I q=>h pins s σ H Q I (k σ H Q q)
def fU(_:DS)(M:MH)(Q:Option Int->MH->Prop):Prop:=Q none M
def mD(t:TD)(τ:DS)(M:MH)(Q:Option Int->MH->Prop):Prop:=t τ M λ w M1=>∃ i,w=.d (.int i)/\Q (some i) M1
theorem xX(h:PD X e te):POd X (some e) (mD te):=agR (abA h) λ σ H Q ⟨τ,M,Qd,A,q,k⟩=>⟨τ,M,_,A,q,λ v H1 w M1 kp r m hq45=>by obtain⟨i,e,q1⟩:=hq45;subst e;simp only[aH,aA] at r;exact⟨i,r,k _ H1 M1 kp m q1⟩⟩
def cutD(xs:List α)(lo hi:Option Int):List α:=(xs.drop (HT.sIx xs.length 0 lo)).take (HT.sIx xs.length xs.length hi-HT.sIx xs.length 0 lo)
def xj(n:Nat)(lo hi:Option Int):Bool:=decide (HT.sIx n 0 lo=0/\HT.sIx n n hi=n)
def slW:W->Option Int->Option Int->Option W
 | .d (.list ds),lo,hi=>some (.d (.list (cutD ds lo hi)))
 | .d (.tuple ds),lo,hi=>if xj ds.length lo hi then none else some (.d (.tuple (cutD ds lo hi)))
 | .d (.str z),lo,hi=>some (.d (.str (Txt.slice z lo hi)))
 | _,_,_=>none
def dSl(te:TD)(tl th:TOd)(τ:DS)(M:MH)(Q:QD):Prop:=te τ M λ w M1=>tl τ M1 λ lo M2=>th τ M2 λ hi M3=>∃ z,slW w lo hi=some z/\zW w=true/\Q z M3
theorem aen:SlR X (λ x lo hi H Q=>agK X.K x lo hi H Q\/agz X.K x lo hi H Q\/agC x lo hi H Q):=ace.or (adz.or aeh)
theorem bA.cut(r:bA K H ds vs)(lo hi:Option Int):bA K H (cutD ds lo hi) (xI vs lo hi):=by
 unfold cutD xI;rw[r.length];exact(r.drop _).take _
theorem xQ{te:TD}{lo hi:Option Expr}{tl th:TOd}{pos p2:Pos}(he:PD X e te)(hl:POd X lo tl)(hu:POd X hi th):PD X (.Subscript e (.Slice lo hi none p2) pos) (dSl te tl th):=
 iH (abV (xN aen he hl hu)) λ σ H Q h=>by
  obtain⟨τ,M,Qd,A,h,k⟩:=h;refine⟨τ,M,_,A,h,λ v H1 w M1 kp1 r1 m1 q1=>⟨τ,M1,_,A.go kp1 m1,q1,λ lo H2 M2 kp2 m2 q2=>⟨τ,M2,_,A.go (kp1.trans kp2) m2,q2,λ hi H3 M3 kp3 m3 q3=>?_⟩⟩⟩;obtain⟨z,ez,hf,q⟩:=q3;have kp:=(kp1.trans kp2).trans kp3;have r:=r1.keep (kp2.trans kp3);cases w with
  | t n=>simp[slW] at ez
  | m a=>simp[slW] at ez
  | d d =>
   cases d with
   | list ds =>
    simp only[slW] at ez;cases ez;simp only[aH,aA] at r;obtain⟨a,vs,e1,hs,ra⟩:=r;exact .inl ⟨a,vs,e1,hs.sq,λ p hp=>.inr (r9 hp (bA.cut ra lo hi) m3 q (kgo k kp))⟩
   | tuple ds =>
    simp only[slW] at ez
    split at ez
    ·cases ez
    ·rename_i hw
     cases ez;simp only[aH,aA] at r;obtain⟨a,vs,e1,hs,ra⟩:=r;refine .inr (.inl ⟨a,vs,e1,hs,?_,λ p hp=>.inl ?_⟩)
     ·rw[ra.length]
      simpa [xj] using hw
     ·refine k _ _ (.d (.tuple _)) M3 (kp.trans (Kp.new hp)) ?_ (m3.new hp) q;simp only[aH,aA];exact⟨p,_,rfl,.inl (.inl ax),(bA.cut ra lo hi).keep (Kp.new hp)⟩
   | str s =>
    simp only[slW] at ez;cases ez;simp only[aH,aA] at r;exact .inr (.inr ⟨s,r,of_decide_eq_true hf,.inl (k _ H3 (.d (.str _)) M3 kp (by simp[aH,aA]) m3 q)⟩)
   | _=>simp[slW] at ez
def uO(to ti:TD)(v:W)(τ:DS)(M:MH)(Q:DS->MH->Prop):Prop:=to τ M λ w M1=>ti τ M1 λ w' M2=>∃ a ws i j,w=.m a/\w'=.d (.int i)/\M2 a=some (.lst ws)/\ixN ws.length i=some j/\Q τ (bz M2 a (.lst (ws.set j v)))
theorem xA(m:cz K H M)(e:H a=some (.lst vs))(rw1:bj K H ws vs)(rv:aH K H w v) :
  Kp H (upd H a (.lst (vs.set j v)))/\cz K (upd H a (.lst (vs.set j v))) (bz M a (.lst (ws.set j w))):=by
 have kp:Kp H (upd H a (.lst (vs.set j v))):=Kp.set e (λ xs z=>nomatch z) λ _ _ z=>nomatch z;exact⟨kp,m.put kp ⟨_,ax,(bj.set rv j rw1).keep kp⟩⟩
theorem abt(ho:PD X o to)(hi:PD X i ti)
  (ha:∀ v,assign (.Subscript o i pos) X.env v=(do
   let ov <- holding [v] (eval o X.env)
   let iv <- holding [v,ov] (eval i X.env)
   standAt pos
   holding [v,ov,iv] (setItem ov iv v)
   release [v,ov,iv] []):=by intro _;rfl):PGd X (.Subscript o i pos) (uO to ti):=aga (aeI ho hi set_list ha) λ v σ H Q h=>by
 obtain⟨w,τ,M,Qd,rv,A,h,k⟩:=h;refine⟨τ,M,_,A,h,λ x H1 wo M1 kp1 r1 m1 q1=>⟨τ,M1,_,A.go kp1 m1,q1,λ y H2 wi M2 kp2 r2 m2 q2=>?_⟩⟩;obtain⟨a,ws,i,j,e1,e2,hm,hj,q⟩:=q2;subst e1;subst e2;simp only[aH,aA] at r1 r2;obtain⟨vs,e3,rw1⟩:=m2 a _ hm;have kp:=kp1.trans kp2;obtain⟨kp3,m3⟩:=xA (j:=j) m2 e3 rw1 (rv.keep kp);exact⟨a,vs,i,j,r1,r2,e3,by rw[<- rw1.length];exact hj,k σ _ τ _ (kp.trans kp3) (A.go (kp.trans kp3) m3) q⟩
theorem zB:afN X (afy X.K):=by
 intro pins s σ H o i ov iv Q I ro ri h;obtain⟨p,xs,k,z,rfl,rfl,hq,he,q⟩:=h;cases ro;obtain⟨t,rfl⟩:=ri;obtain⟨its,r,pl,hz⟩:=I.list hq;obtain⟨j,h1,h2,h3,h4,h5⟩:=oB he;obtain⟨w,ew,rw'⟩:=r.get h2;have hl:=r.length;have hn:=kH;have fin:EP X pins σ Q w s:=⟨z,H,I,rw',q⟩
 by_cases h0:0<=k
 ·have hj:k.toNat=j:=by rw[seqIndex_of h0 h5] at h1;exact Option.some.inj h1
  exact wpAny_getItem_list pl.isList h0 (by omega) (by rw[hj];simpa using ew) fin
 ·have hj:(k+(its.toArray.size:Int)).toNat=j:=by rw[seqIndex_neg (by omega) h4] at h1;rw[List.size_toArray,<- hl];exact Option.some.inj h1
  exact wpAny_getItem_list_neg pl.isList (by omega) (by rw[List.size_toArray]<;>omega) (by omega) (by rw[hj];simpa using ew) fin
def xP(to ti te:TD)(f:Int->Int->Int)(D:Ed)(τ:DS)(M:MH):Prop:=to τ M λ w M1=>ti τ M1 λ w' M2=>∃ a ws i j n,w=.m a/\w'=.d (.int i)/\M2 a=some (.lst ws)/\ixN ws.length i=some j/\ws[j]? =some (.d (.int n)) /\
 te τ M2 λ y M3=>∃ n',y=.d (.int n')/\M3=M2/\D.nx τ (bz M3 a (.lst (ws.set j (.d (.int (f n n'))))))
theorem yo(ho:PD X o to)(hi:PD X i ti)(he:PD X e te)(hp:PIp X op (ipI f))
  (ha:∀ ov iv new,augStore i ov iv new=(do holding [new,ov,iv] (setItem ov iv new);release [new,ov,iv] [];pure .next):=by intros;rfl):PSd X (.AugAssign (.Subscript o i tpos) op e pos) (xP to ti te f):=
 tQ (vC ho hi zB he hp set_list ha) λ D σ H h=>by
  obtain⟨τ,M,Dd,A,h,k1,_⟩:=h;refine⟨τ,M,_,A,h,λ x H1 wo M1 kp1 r1 m1 q1=>⟨τ,M1,_,A.go kp1 m1,q1,λ y H2 wi M2 kp2 r2 m2 q2=>?_⟩⟩;obtain⟨a,ws,i,j,n,e1,e2,hm,hj,hn,q⟩:=q2;subst e1;subst e2;simp only[aH,aA] at r1 r2;obtain⟨vs,e3,rw1⟩:=m2 a _ hm;obtain⟨v,e4,rv⟩:=rw1.get hn;simp only[aH,aA] at rv;have hj':ixN vs.length i=some j:=by rw[<- rw1.length];exact hj
  refine⟨a,vs,i,v,r1,r2,SqL.of e3,by unfold atI;rw[hj'];exact e4,?_⟩;refine⟨τ,M2,_,A.go (kp1.trans kp2) m2,q,λ z H3 wz M3 kp3 r3 m3 q3=>?_⟩;obtain⟨n',e5,e6,qn⟩:=q3;subst e5;subst e6;simp only[aH,aA] at r3;refine⟨n,n',rv,r3,?_⟩;obtain⟨vs',e3',rw2⟩:=m3 a _ hm;have kp:=(kp1.trans kp2).trans kp3;obtain⟨kp4,m4⟩:=xA (j:=j) (v:=.int (f n n')) (w:=.d (.int (f n n'))) m3 e3' rw2 (by simp[aH,aA]);exact⟨a,vs',i,j,r1,r2,e3',by rw[<- rw2.length];exact hj,k1 σ _ τ _ (kp.trans kp4) (A.go (kp.trans kp4) m4) qn⟩
end
section
variable {X:Cx}{K:FG}{tg:Expr}
def Its(z:Str):It:=⟨λ i _=>i<z.cps.size,λ i H x H'=>H'=H/\∃ c,z.cps[i]? =some c/\x=.str ⟨#[c]⟩,λ i _=>z.cps.size<=i⟩
theorem tG(it:Addr)(T:String)(z:Str)(t:Tok)
  (hT:["enumerate", "zip", "dict_itemiterator", "dict_reverseitemiterator", "odict_iterator", "itertools.zip_longest", "itertools.pairwise"].contains T=false)
  (W:∀ A:Around,A.handled=none->Walks P w A it [it] [it] z.cps.size (SignAt z) (λ i h=>h.IsStrIter it T z t i))(hself:∀ (A:Around) (i:Nat) (s:Shared) (Q:VP) (E:VP),s.heap.IsStrIter it T z t i->Q (.ref it) s->wpAny (model P w) A (pyIter (.ref it)) Q E s)
  (hend:∀ (A:Around) (i:Nat) (s:Shared) (Q:Option Value->Shared->Prop) (E:VP),A.handled=none->s.heap.IsStrIter it T z t i->z.cps[i]? =none->(∀ h',Heap.ExtBut it s.heap h'->Q none {s with heap:=h'})->wpAny (model P w) A (pyNext (.ref it)) Q E s) :
  Turn P w K tg (Its z) [it] it (λ i h=>h.IsStrIter it T z t i) where
 mem:=by simp
 obj:=λ i h st b hb=>by
  have e:b=it:=by simpa using hb
  subst e;obtain⟨o,e,c,d⟩:=st;exact⟨o,e,λ v q=>by rw[d] at q;cases q⟩
 keep:=λ i h h' st k=>by obtain⟨o,e,r⟩:=st;exact⟨o,k it (by simp) o e,r⟩
 item:=by intro X hP hw hK hc i pins s σ H E I hf st hg;subst hP hw hK;obtain⟨f0,f1,f2,f3,f4,f5⟩:=hf it (by simp);refine(W X.A (I.ok.hd hc)).item i s _ _ hg st λ v h' tk hv st' kk=>?_;obtain⟨c,u,hc',rfl⟩:=hv;have I1:Inv X pins σ H {s with heap:=h',toks:=tk}:=I.turned (λ b o hb e=>kk b o (by simpa using hb) e) f0 f1 f3 f4 f5;obtain⟨o,e,cl,d⟩:=id st';exact⟨_,rfl,xB (s:={s with heap:=h',toks:=tk}) e cl d hT ⟨.str ⟨#[c]⟩,H,I1,⟨u,rfl⟩,⟨rfl,c,hc',rfl⟩,st',λ b hb=>(hf b hb).1⟩⟩
 done:=by intro X hP hw hK hc i pins s σ H E I hf st hg;subst hP hw hK;obtain⟨f0,f1,f2,f3,f4,f5⟩:=hf it (by simp);have hn:z.cps.size<=i:=hg;exact hend X.A i s _ E (I.ok.hd hc) st (by simp[hn]) λ h' eb=>⟨rfl,I.turned (t':=s.toks) (λ b o hb e=>eb b o hb e) f0 f1 f3 f4 f5⟩
 self:=hself
section
variable {pins:PN}{σ:St}{H:Hp}{s:Shared}{R:It->Hp->Prop}{E:VP}
theorem ads(I:Inv X pins σ H s)(q:R (Its z) H):wpAny (model X.prog X.w) X.A (pyIter (.str z t)) (PIE X pins σ tg R) E s:=by
 cases ha:z.cps.all (·<128)
 ·refine wpAny_pyIter_wide ha ?_;refine⟨s.heap.objs.size,[s.heap.objs.size],_,_,H,rfl,I.kept (t':=s.toks) λ b o e=>Heap.get?_push_of_some _ e,
   tG _ "str_iterator" z t (by decide) (λ A hA=>Walks.strWide hA _ z t) (λ A i s Q E st h=>wpAny_pyIter_striter_wide st h) (λ A i s Q E hh st hx hQ=>wpAny_pyNext_wide_end hh st hx hQ),⟨_,Heap.get?_push_size _ rfl,rfl,rfl⟩,λ b hb=>?_,q⟩
  have e:b=s.heap.objs.size:=by simpa using hb
  subst e;exact I.uS (Nat.le_refl _) (I.hok.fresh (Nat.le_refl _))
 ·refine wpAny_pyIter_ascii ha ?_;refine⟨s.heap.objs.size,[s.heap.objs.size],_,_,H,rfl,I.kept (t':=s.toks) λ b o e=>Heap.get?_push_of_some _ e,
   tG _ "str_ascii_iterator" z t (by decide) (λ A hA=>Walks.strAscii hA _ z t) (λ A i s Q E st h=>wpAny_pyIter_striter_ascii st h) (λ A i s Q E hh st hx hQ=>wpAny_pyNext_ascii_end hh st hx hQ),⟨_,Heap.get?_push_size _ rfl,rfl,rfl⟩,λ b hb=>?_,q⟩
  have e:b=s.heap.objs.size:=by simpa using hb
  subst e;exact I.uS (Nat.le_refl _) (I.hok.fresh (Nat.le_refl _))
theorem abB(I:Inv X pins σ H s)(hq:SqL X.K H a xs)(q:R (Itl X.K a) H):wpAny (model X.prog X.w) X.A (pyIter (.ref a)) (PIE X pins σ tg R) E s:=by
 obtain⟨its,rv,p,hz⟩:=I.list hq;refine wpAny_pyIter_list p.isList ?_;refine⟨s.heap.objs.size,[s.heap.objs.size],_,_,H,rfl,I.kept (t':=s.toks) λ b o e=>Heap.get?_push_of_some _ e,wH a _,⟨_,Heap.get?_push_size _ rfl,rfl,rfl⟩,λ b hb=>?_,q⟩;have e:b=s.heap.objs.size:=by simpa using hb
 subst e;exact I.uS (Nat.le_refl _) (I.hok.fresh (Nat.le_refl _))
theorem ac5(I:Inv X pins σ H s)(hq:SqT X.K H a xs)(q:R (Itt X.K a) H):wpAny (model X.prog X.w) X.A (pyIter (.ref a)) (PIE X pins σ tg R) E s:=by
 obtain⟨its,rv,p,hz⟩:=I.tuple hq;refine wpAny_pyIter_tuple (show s.heap.IsTuple a its.toArray from p) ?_;refine⟨s.heap.objs.size,[s.heap.objs.size],_,_,H,rfl,I.kept (t':=s.toks) λ b o e=>Heap.get?_push_of_some _ e,uy a _,⟨_,Heap.get?_push_size _ rfl,rfl,rfl⟩,λ b hb=>?_,q⟩;have e:b=s.heap.objs.size:=by simpa using hb
 subst e;exact I.uS (Nat.le_refl _) (I.hok.fresh (Nat.le_refl _))
end
def aho(K:FG)(tl:TE):TI:=λ σ H R=>tl σ H λ x H1=>(∃ a xs,x=.ref a/\SqL K H1 a xs/\R (Itl K a) H1)\/(∃ a xs,x=.ref a/\SqT K H1 a xs/\R (Itt K a) H1)\/∃ z,x=.str z/\R (Its z) H1
theorem aej(hl:PE X l tl):PI X tg l (aho X.K tl):=by
 intro pins s σ H R I h;refine thn (hl pins s σ H _ I h) λ v s1 hq46=>?_;obtain⟨x,H1,I1,r1,q1⟩:=hq46;rcases q1 with ⟨a,xs,e,hq,q⟩ | ⟨a,xs,e,hq,q⟩ | ⟨z,e,q⟩
 ·subst e;cases r1;exact abB I1 hq q
 ·subst e;cases r1;exact ac5 I1 hq q
 ·subst e;obtain⟨t,rfl⟩:=r1;exact ads I1 q
def ItD(K:FG)(J:It)(H0:Hp)(ws:List W):Prop:=∀ H,Kp H0 H->∀ i:Nat,(i<ws.length->J.go i H)/\(ws.length<=i->J.stop i H) /\
 ∀ x H',i<ws.length->J.yld i H x H'->Kp H H'/\(∀ M,cz K H M->cz K H' M)/\∃ w,ws[i]? =some w/\aH K H' w x
abbrev TId:=DS->MH->(List W->MH->Prop)->Prop
def upI(K:FG)(t:TId):TI:=λ σ H R=>∃ τ M Rd,Abs K H σ τ M/\t τ M Rd/\∀ J H' ws M',Kp H H'->cz K H' M'->ItD K J H' ws->Rd ws M'->R J H'
abbrev PId(X:Cx)(tg iter:Expr)(t:TId):Prop:=PI X tg iter (upI X.K t)
theorem aes(h:PI X tg iter t)(k:∀ σ H R,t' σ H R->t σ H R):PI X tg iter t':=λ pins s σ H R I q=>h pins s σ H R I (k σ H R q)
def lX:W->Option (List W)
 | .d (.list ds)=>some (ds.map W.d)
 | .d (.tuple ds)=>some (ds.map W.d)
 | .d (.str z)=>some (z.cps.toList.map λ c=>W.d (.str ⟨#[c]⟩))
 | _=>none
def i7(te:TD)(τ:DS)(M:MH)(R:List W->MH->Prop):Prop:=te τ M λ w M1=>∃ ws,lX w=some ws/\R ws M1
theorem abx(hs:SqT K H a vs)(ra:bA K H ds vs):ItD K (Itt K a) H (ds.map W.d):=λ H1 kp i=>by
 have hl:=ra.length;refine⟨λ hi=>?_,λ hi=>⟨vs,SqT.keep kp hs,by rw[List.length_map] at hi;omega⟩,λ x H' hi y=>?_⟩
 ·rw[List.length_map] at hi;exact⟨vs,vs[i]'(by omega),SqT.keep kp hs,by simp⟩
 ·obtain⟨e,y⟩:=y;subst e;have ev:=y vs (SqT.keep kp hs);obtain⟨d,e1,rd⟩:=(ra.keep kp).get' ev;exact⟨Kp.refl _,λ M m=>m,.d d,by simp[e1],rd⟩
theorem acp(z:Str):ItD K (Its z) H (z.cps.toList.map λ c=>W.d (.str ⟨#[c]⟩)):=λ H1 kp i=>by refine⟨λ hi=>(show i<z.cps.size by simpa using hi),λ hi=>(show z.cps.size<=i by simpa using hi),λ x H' hi y=>?_⟩;obtain⟨e,c,hc,ex⟩:=y;subst e;subst ex;exact⟨Kp.refl _,λ M m=>m,.d (.str ⟨#[c]⟩),by simp[hc],by simp[aH,aA]⟩
theorem abZ(lo:Int)(n:Nat):ItD K (Itr lo n) H ((List.range n).map λ i:Nat=>W.d (.int (lo+(i:Int)))):=λ H1 kp i=>by refine⟨λ hi=>(show i<n by simpa using hi),λ hi=>(show n<=i by simpa using hi),λ x H' hi y=>?_⟩;obtain⟨e,ex⟩:=y;subst e;subst ex;simp at hi;exact⟨Kp.refl _,λ M m=>m,.d (.int (lo+i)),by simp[hi],by simp[aH,aA]⟩
theorem wt(h:PD X l te):PId X tg l (i7 te):=aes (aej h) λ σ H R hq47=>by
 obtain⟨τ,M,Rd,A,h,k⟩:=hq47;refine⟨τ,M,_,A,h,λ v H1 w M1 kp r m hq48=>?_⟩;obtain⟨ws,e,q⟩:=hq48;cases w with
 | t n=>simp[lX] at e
 | m a=>simp[lX] at e
 | d d =>
  cases d with
  | list ds =>
   simp only[lX] at e;cases e;simp only[aH,aA] at r;obtain⟨a,vs,e1,hs,ra⟩:=r;refine .inl ⟨a,vs,e1,hs.sq,k _ H1 _ M1 kp m ?_ q⟩;intro H2 kp2 i;have hl:=ra.length;have hs2:=(hs.keep kp2).sq;refine⟨λ hi=>?_,λ hi=>⟨vs,hs2,by rw[List.length_map] at hi;omega⟩,λ x H' hi y=>?_⟩
   ·rw[List.length_map] at hi;exact⟨vs,vs[i]'(by omega),hs2,by simp⟩
   ·obtain⟨e,y⟩:=y;subst e;have ev:=y vs hs2;obtain⟨d,e1,rd⟩:=(ra.keep kp2).get' ev;exact⟨Kp.refl _,λ M m=>m,.d d,by simp[e1],rd⟩
  | tuple ds =>
   simp only[lX] at e;cases e;simp only[aH,aA] at r;obtain⟨a,vs,e1,hs,ra⟩:=r;exact .inr (.inl ⟨a,vs,e1,hs,k _ H1 _ M1 kp m (abx hs ra) q⟩)
  | str z =>
   simp only[lX] at e;cases e;simp only[aH,aA] at r;exact .inr (.inr ⟨z,r,k _ H1 _ M1 kp m (acp z) q⟩)
  | _=>simp[lX] at e
def sE(lo:Int)(n:Nat):List W:=(List.range n).map λ i:Nat=>W.d (.int (lo+(i:Int)))
def aa4(ta:TAd)(τ:DS)(M:MH)(R:List W->MH->Prop):Prop:=ta τ M λ ws M1=>∃ j:Int,ws=[.d (.int j)]/\-(2 ^ 62)<=j/\j<2 ^ 62/\R (sE 0 j.toNat) M1
theorem gc(r:bj K H [w] vs):∃ v,vs=[v]/\aH K H w v:=by
 cases r with
 | cons r1 r2=>cases r2;exact⟨_,rfl,r1⟩
theorem sv(r:bj K H [w,w'] vs):∃ v v',vs=[v,v']/\aH K H w v/\aH K H w' v':=by
 cases r with
 | cons r1 r2 =>
  cases r2 with
  | cons r3 r4=>cases r4;exact⟨_,_,rfl,r1,r3⟩
theorem uv(hg:Gl X "range")(hm:X.mg "range" = none)(ha:PAd X [a] ta)(hs:starEach [a] X.env=[(false,eval a X.env)]:=by rfl):PId X tg (.Call (.Name "range" p) [a] [] pos) (aa4 ta):=
 aes (we hg hm ha hs) λ σ H R ⟨τ,M,Rd,A,h,k⟩=>⟨τ,M,_,A,h,λ vs H1 ws M1 kp r m hq49=>by obtain⟨j,e,h1,h2,q⟩:=hq49;subst e;obtain⟨v,e1,r1⟩:=gc r;simp only[aH,aA] at r1;subst r1;exact⟨j,e1,h1,h2,k _ H1 _ M1 kp m (abZ 0 j.toNat) q⟩⟩
def yJ(di:TId)(g:TGd)(tb:TSd)(D:Ed)(τ:DS)(M:MH):Prop:=di τ M λ ws M1=>∃ P:Nat->DS->MH->Prop,P 0 τ M1 /\
 (∀ i w τ M,ws[i]? =some w->P i τ M->g w τ M λ τ2 M2=>tb {D with nx:=P (i+1),ct:=P (i+1),bk:=D.nx} τ2 M2)/\∀ τ M,P ws.length τ M->D.nx τ M
theorem abf(hp:PassesOwn (model X.prog X.w) X.A X.env X.xe)(hc:X.calm=true)(hi:PId X tg iter di)(hg:PGd X tg g)(hb:nA X body tb)
  (hs:∀ x,foldedSetIterable iter X.env x=pure x:=by intro _;rfl):PSd X (.For tg iter body [] pos) (yJ di g tb):=tQ (acY hp hc hi hg hb hs) λ D σ H hq50=>by
 obtain⟨τ,M,Dd,A,h,k1,k2,k3,k4⟩:=hq50;refine⟨τ,M,_,A,h,λ J H1 ws M1 kp m1 it hq51=>?_⟩;obtain⟨P,p0,pt,pe⟩:=hq51;refine⟨λ i n σ H'=>n=ws.length-i/\i<=ws.length/\Kp H1 H'/\∃ τ M,Abs X.K H' σ τ M/\P i τ M,⟨ws.length,by simp,Nat.zero_le _,Kp.refl _,τ,M1,A.go kp m1,p0⟩,?_⟩;rintro i n σ2 H2 ⟨rfl,hi,kp2,τ2,M2,A2,p2⟩;obtain⟨go,stop,yld⟩:=it H2 kp2 i
 by_cases hlt:i<ws.length
 ·refine .inr ⟨go hlt,λ σ3 H3=>Kp H2 H3/\∃ τ M,Abs X.K H3 σ3 τ M/\P (i+1) τ M,λ σ3 H3 ⟨kp3,τ3,M3,A3,p3⟩=>⟨ws.length-(i+1),by omega,rfl,hlt,kp2.trans kp3,τ3,M3,A3,p3⟩,λ x H3 y=>?_⟩;obtain⟨kp3,mk,w,ew,rw⟩:=yld x H3 hlt y;refine⟨w,τ2,M2,_,rw,A2.go kp3 (mk _ A2.mem),pt i w τ2 M2 ew p2,λ σ4 H4 τ4 M4 kp4 A4 q4=>?_⟩;have kq:=kp3.trans kp4;have kr:=(kp.trans kp2).trans kq;exact⟨τ4,M4,_,A4,q4,λ σ5 H5 τ5 M5 kp5 A5 q5=>⟨kq.trans kp5,τ5,M5,A5,q5⟩,λ v H5 w M5 kp5=>k2 v H5 w M5 (kr.trans kp5),λ σ5 H5 τ5 M5 kp5=>k1 σ5 H5 τ5 M5 (kr.trans kp5),λ σ5 H5 τ5 M5 kp5 A5 q5=>⟨kq.trans kp5,τ5,M5,A5,q5⟩⟩
 ·have hl:i=ws.length:=by omega
  subst hl;exact .inl ⟨stop (Nat.le_refl _),k1 σ2 H2 τ2 M2 (kp.trans kp2) A2 (pe τ2 M2 p2)⟩
def ab3(k:Nat)(fr:List Nat)(τ:DS):DS:=List.replicate k none++fr.map λ j=>(τ[j]?).getD none
theorem ac9(A:Abs K H σ τ M)(k:Nat)(fr:List Nat):Abs K H (lcS k fr σ) (ab3 k fr τ) M:=by
 refine⟨by simp[lcS,ab3],λ i w e=>?_,A.mem⟩;unfold ab3 at e
 by_cases hi:i<k
 ·rw[List.getElem?_append_left (by simpa using hi),List.getElem?_replicate] at e
  split at e<;>cases e
 ·rw[List.getElem?_append_right (by simpa using hi),List.getElem?_map,List.length_replicate] at e;cases q:fr[i-k]? with
  | none=>rw[q] at e;cases e
  | some j =>
   rw[q] at e;have e':(τ[j]?).getD none=some w:=Option.some.inj e;have e2:τ[j]? =some (some w):=by
    cases z:τ[j]? with
    | none=>rw[z] at e';cases e'
    | some o=>rw[z] at e';exact congrArg some e'
   obtain⟨v,q1,r⟩:=A.val j w e2;refine⟨v,?_,r⟩;unfold lcS;rw[List.getElem?_append_right (by simpa using hi),List.getElem?_map,List.length_replicate,q];simp[q1]
def dLC(di:TId)(g:TGd)(tt:TTd)(te:TD)(k:Nat)(fr:List Nat)(τ:DS)(M:MH)(Q:QD):Prop:=di τ M λ ws M1=>∃ P:Nat->List PyData->DS->MH->Prop,P 0 [] (ab3 k fr τ) M1 /\
 (∀ i w acc τ M,ws[i]? =some w->P i acc τ M->acc.length<sizeLine/\g w τ M λ τ2 M2=>tt τ2 M2 λ b M3=>if b=true then te τ2 M3 λ y M4=>∃ d,y=.d d/\P (i+1) (acc++[d]) τ2 M4 else P (i+1) acc τ2 M3) /\
 ∀ acc τ M,P ws.length acc τ M->Q (.d (.list acc)) M
theorem adZ(h:up K (dLC di g tt te k fr) σ H Q) :
  agE (tLC (upI K di) (upG K g) (upT K tt) (up K te) k fr) σ H Q:=by
 obtain⟨τ,M,Qd,A,h,kk⟩:=h;refine⟨τ,M,_,A,h,λ J H1 ws M1 kp m1 it hq52=>?_⟩;obtain⟨P,p0,pt,pe⟩:=hq52;refine⟨λ i n ys σ' H'=>n=ws.length-i/\i<=ws.length/\Kp H1 H'/\∃ acc τ M,bA K H' acc ys/\Abs K H' σ' τ M/\P i acc τ M,⟨ws.length,by simp,Nat.zero_le _,Kp.refl _,[],_,M1,by simp[bA],ac9 (A.go kp m1) k fr,p0⟩,?_⟩;rintro i n ys σ2 H2 ⟨rfl,hi,kp2,acc,τ2,M2,ra,A2,p2⟩;obtain⟨go,stop,yld⟩:=it H2 kp2 i
 by_cases hlt:i<ws.length
 ·have hlen:=ra.length;refine .inr ⟨go hlt,?_,λ x H3 y=>?_⟩
  ·obtain⟨w,hw⟩:∃ w,ws[i]? =some w:=⟨ws[i],by simp[hlt]⟩;have:=(pt i w acc τ2 M2 hw p2).1;omega
  obtain⟨kp3,mk,w,ew,rw⟩:=yld x H3 hlt y;refine⟨w,τ2,M2,_,rw,A2.go kp3 (mk _ A2.mem),(pt i w acc τ2 M2 ew p2).2,λ σ4 H4 τ4 M4 kp4 A4 q4=>⟨τ4,M4,_,A4,q4,λ b H5 M5 kp5 m5 q5=>?_⟩⟩;have kq:=(kp3.trans kp4).trans kp5;cases b with
  | false =>
   rw[if_neg Bool.false_ne_true] at q5;show(if false=true then _ else _);rw[if_neg Bool.false_ne_true];exact⟨ws.length-(i+1),by omega,rfl,hlt,kp2.trans kq,acc,τ4,M5,ra.keep kq,A4.go kp5 m5,q5⟩
  | true =>
   rw[if_pos rfl] at q5;show(if true=true then _ else _);rw[if_pos rfl];refine⟨τ4,M5,_,A4.go kp5 m5,q5,λ v H6 wv M6 kp6 r6 m6 hq53=>?_⟩;obtain⟨d,e6,q6⟩:=hq53;subst e6;refine⟨ws.length-(i+1),by omega,rfl,hlt,kp2.trans (kq.trans kp6),acc++[d],τ4,M6,bA.append (ra.keep (kq.trans kp6)) ?_,A4.go (kp5.trans kp6) m6,q6⟩;simp only[bA];exact⟨v,[],rfl,r6,rfl⟩
 ·have hl:i=ws.length:=by omega
  subst hl;exact .inl ⟨stop (Nat.le_refl _),λ p hp=>r9 hp ra A2.mem (pe acc τ2 M2 p2) (kgo kk (kp.trans kp2))⟩
section
variable {sc:Scope}{own:List Str}{fr:List Nat}{elt iter:Expr}{ifs:List Expr}{pos:Pos}{di:TId}{g:TGd}{tt:TTd}{te:TD}
abbrev afk(X:Cx)(ifs:List Expr)(t:TTd):Prop:=PTs X ifs (upT X.K t)
def abz(_:DS)(M:MH)(Q:Bool->MH->Prop):Prop:=Q true M
theorem afQ(hc:X.calm=true)(L:aaf X sc own fr)(hi:PId X tg iter di)
  (hg:∀ cl C s H ex pl,PGd (blk X sc (lcN X own fr) cl C s H ex pl) tg g)(ht:∀ cl C s H ex pl,afk (blk X sc (lcN X own fr) cl C s H ex pl) ifs tt)(he:∀ cl C s H ex pl,PD (blk X sc (lcN X own fr) cl C s H ex pl) elt te)
  (hs:∀ x,foldedSetIterable iter X.env x=pure x:=by intro _;rfl):PD X (.ListComp elt [⟨tg,iter,ifs,0⟩] sc pos) (dLC di g tt te own.length fr):=
 iH (xD (afe hc L hi hg ht he hs)) λ σ H Q h=>adZ h
end
end
section
variable {X:Cx}{K:FG}
def adG(ws:List W)(M:MH)(Q:QD):Prop:=∃ i:Int,ws=[.d (.int i)]/\Q (.d (.int (if i<0 then -i else i))) M
theorem ac3:fP K (λ xs H Q=>∃ i,xs=[.int i]/\Q (.int (if i<0 then -i else i)) H) adG:=by intro vs H ws M Qd Q r m ⟨i,e,q⟩ k;subst e;obtain⟨v,e1,r1⟩:=gc r;simp only[aH,aA] at r1;subst r1;exact⟨i,e1,k _ H (.d (.int _)) M (Kp.refl H) (by simp[aH,aA]) m q⟩
def ur(M:MH):W->Option Nat
 | .d (.list ds)=>some ds.length
 | .d (.tuple ds)=>some ds.length
 | .d (.str z)=>some z.length
 | .m a=>match M a with
  | some (.lst ws)=>some ws.length
  | _=>none
 | _=>none
def l9(ws:List W)(M:MH)(Q:QD):Prop:=∃ w n,ws=[w]/\ur M w=some n/\zW w=true/\Q (.d (.int (n:Nat))) M
theorem iL:fP K (λ xs H Q=>∃ x n,xs=[x]/\agA K x H n/\Q (.int n) H) l9:=by
 intro vs H ws M Qd Q r m ⟨w,n,e,hn,hf,q⟩ k;subst e;obtain⟨v,e1,r1⟩:=gc r;refine⟨v,n,e1,?_,k _ H (.d (.int _)) M (Kp.refl H) (by simp[aH,aA]) m q⟩;cases w with
 | t _=>simp[ur] at hn
 | m a =>
  simp only[aH] at r1;subst r1;simp only[ur] at hn;cases hm:M a with
  | none=>rw[hm] at hn;cases hn
  | some mo =>
   rw[hm] at hn;cases mo with
   | lst l=>cases hn;obtain⟨us,e2,rw1⟩:=m a _ hm;exact .inl ⟨us,SqL.of e2,rw1.length⟩
   | dic _=>cases hn
   | dct _=>cases hn
   | fdic _=>cases hn
   | ins _ _=>cases hn
   | tup _=>cases hn
   | flst _=>cases hn
   | exc _ _=>cases hn
   | code _ _=>cases hn
 | d d =>
  cases d with
  | list ds=>simp only[ur] at hn;cases hn;simp only[aH,aA] at r1;obtain⟨a,us,e2,hs,ra⟩:=r1;subst e2;exact .inl ⟨us,hs.sq,ra.length.symm⟩
  | tuple ds=>simp only[ur] at hn;cases hn;simp only[aH,aA] at r1;obtain⟨a,us,e2,hs,ra⟩:=r1;subst e2;exact .inr ⟨us,hs,ra.length.symm⟩
  | str z=>simp only[ur] at hn;cases hn;simp only[aH,aA] at r1;subst r1;exact⟨of_decide_eq_true hf,rfl⟩
  | _=>simp[ur] at hn
def abg(ws:List W)(M:MH)(Q:QD):Prop:=∃ bs:List Bool,ws=[.d (.list (bs.map PyData.bool))]/\Q (.d (.bool (bs.all id))) M
theorem adE:fP K (λ xs H Q=>∃ (x:V) (bs:List Bool),xs=[x]/\aA K H (.list (bs.map PyData.bool)) x/\Q (.bl (bs.all id)) H) abg:=by intro vs H ws M Qd Q r m ⟨bs,e,q⟩ k;subst e;obtain⟨v,e1,r1⟩:=gc r;exact⟨v,bs,e1,r1,k _ H (.d (.bool _)) M (Kp.refl H) (by simp[aH,aA]) m q⟩
def vh:List (TD×TD)->DS->MH->(List (W×W)->MH->Prop)->Prop
 | [],_,M,Q=>Q [] M
 | (tk,tv)::r,τ,M,Q=>tk τ M λ x M1=>tv τ M1 λ y M2=>vh r τ M2 λ ps M3=>Q ((x,y)::ps) M3
theorem qF:∀ {trs:List (TD×TD)} {σ:St} {H:Hp} {τ:DS} {M:MH} {Qd:List (W×W)->MH->Prop} {Q:List (V×V)->Hp->Prop},Abs K H σ τ M->vh trs τ M Qd ->
  (∀ ps H' ws M',Kp H H'->Paired (λ(p:W×W) (q:V×V)=>aH K H' p.1 q.1/\aH K H' p.2 q.2) ws ps->cz K H' M'->Qd ws M'->Q ps H')->sZ (trs.map λ p=>(up K p.1,up K p.2)) σ H Q
 | [],σ,H,τ,M,Qd,Q,A,h,k=>k [] H [] M (Kp.refl H) .nil A.mem h
 | (tk,tv)::r,σ,H,τ,M,Qd,Q,A,h,k=>by show(up K tk) σ H _;refine⟨τ,M,_,A,h,λ x H1 w M1 kp1 r1 m1 q1=>⟨τ,M1,_,A.go kp1 m1,q1,λ y H2 w' M2 kp2 r2 m2 q2=>?_⟩⟩;refine qF (A.go (kp1.trans kp2) m2) q2 λ ps H3 ws M3 kp3 r3 m3 q3=>?_;exact k _ H3 _ M3 ((kp1.trans kp2).trans kp3) (.cons ⟨r1.keep (kp2.trans kp3),r2.keep kp3⟩ r3) m3 q3
theorem nv:∀ {more kvs:List (Key×V)},((kvs++more).map (·.1)).Nodup->iQ kvs more=kvs++more
 | [],kvs,_=>by simp[iQ]
 | p::r,kvs,h=>by
  have hn:kg kvs p.1=none:=by
   cases e:kg kvs p.1 with
   | none=>rfl
   | some v =>
    have q:(kvs.any λ kv=>decide (kv.1=p.1))=true:=by rw[kD,e];rfl
    obtain⟨z,hz,ez⟩:=List.any_eq_true.mp q;rw[List.map_append,List.nodup_append] at h;exact absurd (of_decide_eq_true ez) (h.2.2 _ (List.mem_map_of_mem hz) _ (by simp))
  show iQ (putK kvs p.1 p.2) r=_;rw[zx _ hn,nv (by simpa using h)];simp
theorem xy(r:aA K H (uM key) v):v=kV key:=by
 cases key<;>(simp only[uM,aA] at r;exact r)
end
structure Fn(K:FG)(mg:Str->Option Value)(x:Str)(st:Stmt)(ps:List Str)(f:Addr)(fd:FuncData):Prop where
 fn:Fun K x x st f fd
 mg:mg x=some (.ref f)
 bd:Binds K fd ps []
section
variable {K:FG}{mg:Str->Option Value}{h:Heap}
theorem yV{st:Stmt}{ps:List Str}{oc:Value}{od an:Option Addr}{osl:Array (Option Value)}{kV doc pm cdv ct:Value}(X:K.In h)(G:h.Ns mainGlobals mg)(a:W.nsIn K mainGlobals x=some (some (.ref f)))
  (l:K.lookup f=some ⟨oc,od,.func (W.fnOf x x (aE st) (aD st) (ag st) .none kV doc pm an cdv ct),osl⟩)(c:W.codeIn K cdv x=true)(k:W.keepIn K (.ref f)=true)
  (b:∀ (kV doc pm:Value) (an:Option Addr) (cdv ct:Value) (us:List Value),us.length=ps.length->bindArgs (W.fnOf x x (aE st) (aD st) (ag st) .none kV doc pm an cdv ct) ⟨us,[]⟩=pure (ps.zip us)) :
  Fn K mg x st ps f (W.fnOf x x (aE st) (aD st) (ag st) .none kV doc pm an cdv ct):=
 have F:=qp (st:=st) l c k
 ⟨F,W.mg_of X G a,F.binds b⟩
end
def acK(sc scX:Scope)(N:List Str)(fr:List Nat):Bool:=
 (sc.kind==.function)&&sc.names.all (λ y=>!(y.2==.cell))&&sc.names.all (λ y=>!(y.2==.free) || scX.names.lookup y.1==some .cell || scX.names.lookup y.1==some .free) &&
  sc.names.all (λ y=>!(y.2==.local) || sc.names.lookup y.1==some .local)&&afc N sc fr
theorem afb(h:acK sc X.env.scope X.N fr=true):aaf X sc own fr:=by
 simp only[acK,Bool.and_eq_true] at h;obtain⟨⟨⟨⟨h1,h2⟩,h3⟩,h4⟩,h5⟩:=h;refine⟨eq_of_beq h1,λ y hy e=>?_,λ y hy e=>?_,λ y hy e=>?_,h5⟩
 ·have:=List.all_eq_true.mp h2 y hy;simp[e] at this
 ·have:=List.all_eq_true.mp h3 y hy;simp only[e,beq_self_eq_true,Bool.not_true,Bool.false_or,Bool.or_eq_true] at this;rcases this with z | z
  ·exact .inl (eq_of_beq z)
  ·exact .inr (eq_of_beq z)
 ·have:=List.all_eq_true.mp h4 y hy;simp only[e,beq_self_eq_true,Bool.not_true,Bool.false_or] at this;exact eq_of_beq this
theorem adQ:bootBuiltins "int" = some (.type "int"):=by decide +kernel
theorem v5:bootBuiltins "str" = some (.type "str"):=by decide +kernel
theorem aa6:bootBuiltins "bool" = some (.type "bool"):=by decide +kernel
theorem iz:bootBuiltins "list" = some (.type "list"):=by decide +kernel
theorem yA:bootBuiltins "tuple" = some (.type "tuple"):=by decide +kernel
theorem aa8:bootBuiltins "dict" = some (.type "dict"):=by decide +kernel
theorem ig:bootBuiltins "len" = some (.builtin "len"):=by decide +kernel
theorem adw:bootBuiltins "abs" = some (.builtin "abs"):=by decide +kernel
theorem jE:bootBuiltins "repr" = some (.builtin "repr"):=by decide +kernel
theorem aec:bootBuiltins "all" = some (.builtin "all"):=by decide +kernel
theorem bU:bootBuiltins "isinstance" = some (.builtin "isinstance"):=by decide +kernel
def dQ:Expr->Bool
 | .Starred ..=>true
 | _=>false
theorem bN(e:Expr)(es:List Expr)(env:PySem.Env)(h:dQ e=false):starEach (e::es) env=(false,eval e env)::starEach es env:=by
 cases e<;>first | rfl | (exact absurd h (by simp[dQ]))
theorem cf(pos:Pos)(env:PySem.Env):∀ es:List Expr,(es.all λ e=>!dQ e)=true->(backTo pos (starEach es env)).any (·.1)=false
 | [],_=>rfl
 | e::es,h=>by rw[List.all_cons,Bool.and_eq_true,Bool.not_eq_true'] at h;rw[bN e es env h.1];show(false || (backTo pos (starEach es env)).any (·.1))=false;rw[cf pos env es h.2];rfl
section
variable {X:Cx}{pos p:Pos}{e:Expr}{es:List Expr}{te:TD}{t:TAd}{x:Str}{id T:String}{r:List V->Hp->VK->Prop}{rd:List W->MH->QD->Prop}{k:Nat}{f:Addr}{fd:FuncData}{ps:List Str}{sp:SpD}
theorem pac(ha:PD X e te)(hr:PAd X es t)(h:dQ e=false:=by rfl):PAd X (e::es) (ai te t):=sV ha hr (bN e es X.env h)
theorem pcB(hc:dZ X (.builtin id) r)(hd:fP X.K r rd)(hg:Gl X x)(hm:X.mg x=none)(hv:bootBuiltins x=some (.builtin id))(ha:PAd X (e::es) t)(hn:x ≠ "__name__":= by decide)(hdb:ND x:=by decide)
  (h1:dQ e=false:=by rfl)(h2:(es.all λ e=>!dQ e)=true:=by rfl):PD X (.Call (.Name x p) (e::es) [] pos) (dCB rd t):=tu hc hd hg hm hv ha hn hdb (bN e es X.env h1) (cf pos X.env es h2)
theorem pcF(F:bH X.prog X.w X.K X.mg X.base CX0 k f fd ps (dH X.K sp))(hr:dN k X.A)(hg:Gl X x)(hm:X.mg x=some (.ref f))(hk:W.keepIn X.K (.ref f)=true)(hb:Binds X.K fd ps [])
  (ha:PAd X (e::es) t)(hdb:ND x:=by decide)(h1:dQ e=false:=by rfl)(h2:(es.all λ e=>!dQ e)=true:=by rfl) :
  PD X (.Call (.Name x p) (e::es) [] pos) (cN sp t):=xo F hr hg hm hk hb ha hdb (bN e es X.env h1) (cf pos X.env es h2)
end
structure Jd(p:Prop):Prop where
 h:p
abbrev pm(K:FG)(p:TD×TD):TE×TE:=(up K p.1,up K p.2)
section
variable {X:Cx}{pos:Pos}{a b c e:Expr}{ta tb tc te:TD}{K:FG}
theorem agd(h:PE X e (ae3 i)):Jd (PD X e (ao i)):=⟨D.zQ (h:=h)⟩
theorem dvQ(i:Nat)(hN:X.N[i]? =some x:=by rfl)(hv:Vis X.env.scope x:=by first | exact Or.inl rfl | exact Or.inr (Or.inl rfl) | exact Or.inr (Or.inr rfl))(hd:ND x:=by decide)(hcd:(x==("__classdict__" : Str))=false:=by decide):Jd (PD X (.Name x pos) (ao i)):=⟨zQ (tD hN hv hd hcd)⟩
theorem ahm(h:PE X e (tC v))(r:∀ H,aH X.K H w v):Jd (PD X e (dC w)):=⟨D.zO (h:=h) (r:=r)⟩
theorem ah{i j pos}:Jd (PD X (.Constant (.int i) j pos) (dC (.d (.int i)))):=⟨zO aeJ λ H=>by simp[aH,aA]⟩
theorem jR{b j pos}:Jd (PD X (.Constant (.bool b) j pos) (dC (.d (.bool b)))):=⟨zO agb λ H=>by simp[aH,aA]⟩
theorem gp{j pos}:Jd (PD X (.Constant .none j pos) (dC (.d .none))):=⟨zO ad8 λ H=>by simp[aH,aA]⟩
theorem av{x j pos}:Jd (PD X (.Constant (.str x) j pos) (dC (.d (.str x)))):=⟨zO aeQ λ H=>by simp[aH,aA]⟩
theorem jh(hg:Gl X x)(hm:X.mg x=some (.int i t))(hd:ND x:=by decide):Jd (PD X (.Name x pos) (dC (.d (.int i)))):=⟨zO (iB (v:=.int i) hg hm ⟨t,rfl⟩ hd) λ H=>by simp[aH,aA]⟩
theorem fQ(hg:Gl X x)(hm:X.mg x=none)(hv:bootBuiltins x=some (.type n))(hn:x ≠ "__name__":= by decide)(hd:ND x:=by decide):Jd (PD X (.Name x pos) (dC (.t n))):=⟨
 zO (aaR (v:=.ty n) hg hm hv rfl hn hd) λ H=>by simp[aH]⟩
theorem bS(ho:OpR X (binaryOp op) r)(hd:OpD X.K r rd)(ha:Jd (PD X a ta))(hb:Jd (PD X b tb)):Jd (PD X (.BinOp a op b pos) (dOp rd ta tb)):=⟨D.afj (ho:=ho) (hd:=hd) (ha:=ha.h) (hb:=hb.h)⟩
theorem iA(ho:OpR X (compareOp op) r)(hd:OpD X.K r rd)(ha:Jd (PD X a ta))(hb:Jd (PD X b tb))(hm:behindInMarks op b=false:=by first | exact jg _ (by decide) (by decide) | rfl):Jd (PD X (.Compare a [op] [b] pos) (dOp rd ta tb)):=⟨D.acX (ho:=ho) (hd:=hd) (ha:=ha.h) (hb:=hb.h) (hm:=hm)⟩
theorem aT(hr:IxR X r)(hd:OpD X.K r rd)(ha:Jd (PD X a ta))(hb:Jd (PD X b tb))(hs:q8 b:=by intro _ _;rfl):Jd (PD X (.Subscript a b pos) (dOp rd ta tb)):=⟨D.afE (hr:=hr) (hd:=hd) (ha:=ha.h) (hb:=hb.h) (hs:=hs)⟩
theorem aM(ho:OpR X (compareOp op) r)(hd:OpD X.K r rd)(ha:Jd (PD X a ta))(hb:Jd (PD X b tb))(hm:behindInMarks op b=false:=by first | exact jg _ (by decide) (by decide) | rfl):Jd (PTd X (.Compare a [op] [b] pos) (a9 (dOp rd ta tb))):=⟨D.abP (ho:=ho) (hd:=hd) (ha:=ha.h) (hb:=hb.h) (hm:=hm)⟩
theorem b9(h:Jd (PD X e te))(he:∀ whole,isTrue e X.env whole=(do let v <- whole;standAt e.pos;holding [v] (truthy v)):=by intro _;rfl):Jd (PTd X e (a9 te)):=⟨D.abF (h:=h.h) (he:=he)⟩
theorem qh(ho:OpR X (compareOp op) r)(hd:OpD X.K r rd)(ho':OpR X (compareOp op') r')(hd':OpD X.K r' rd')(ha:Jd (PD X a ta))(hb:Jd (PD X b tb))(hc:Jd (PD X c tc))(hm:lastMarks [op,op'] [b,c]=false:=by with_unfolding_all rfl):Jd (PD X (.Compare a [op,op'] [b,c] pos) (gD rd rd' ta tb tc)):=⟨D.yS (ho:=ho) (hd:=hd) (ho':=ho') (hd':=hd') (ha:=ha.h) (hb:=hb.h) (hc:=hc.h) (hm:=hm)⟩
theorem uo(ho:OpR X (compareOp op) r)(hd:OpD X.K r rd)(ho':OpR X (compareOp op') r')(hd':OpD X.K r' rd')(ha:Jd (PD X a ta))(hb:Jd (PD X b tb))(hc:Jd (PD X c tc))(hm:lastMarks [op,op'] [b,c]=false:=by with_unfolding_all rfl):Jd (PTd X (.Compare a [op,op'] [b,c] pos) (a9 (gD rd rd' ta tb tc))):=⟨D.xi (ho:=ho) (hd:=hd) (ho':=ho') (hd':=hd') (ha:=ha.h) (hb:=hb.h) (hc:=hc.h) (hm:=hm)⟩
variable {tA tB:TTd}{rest:List Expr}
theorem gH(ha:Jd (PTd X a tA)):Jd (PWd X (.BoolOp .And [a] pos) tA):=⟨D.xM (ha:=ha.h)⟩
theorem fk(ha:Jd (PTd X a tA)):Jd (PWd X (.BoolOp .Or [a] pos) tA):=⟨D.aa1 (ha:=ha.h)⟩
theorem jr(ha:Jd (PTd X a tA))(hb:Jd (PWd X (.BoolOp .And (b::rest) pos) tB)):Jd (PWd X (.BoolOp .And (a::b::rest) pos) (aaJ tA tB)):=⟨D.aat (ha:=ha.h) (hb:=hb.h)⟩
theorem fx(ha:Jd (PTd X a tA))(hb:Jd (PWd X (.BoolOp .Or (b::rest) pos) tB)):Jd (PWd X (.BoolOp .Or (a::b::rest) pos) (dOr tA tB)):=⟨D.adW (ha:=ha.h) (hb:=hb.h)⟩
theorem fB(h:Jd (PWd X e tA)):Jd (PTd X e tA):=⟨D.afp (h:=h.h)⟩
theorem cI(ha:Jd (PTd X a tA)):Jd (PTd X (.UnaryOp .Not a pos) (qB tA)):=⟨D.abm (ha:=ha.h)⟩
theorem nU{op}(h:Jd (PD X a ta)):Jd (PD X (.BoolOp op [a] pos) ta):=⟨D.adI (h:=h.h)⟩
theorem rY(ha:Jd (PD X a ta))(hb:Jd (PD X (.BoolOp .And (b::rest) pos) tb)):Jd (PD X (.BoolOp .And (a::b::rest) pos) (se ta tb)):=⟨D.adR (ha:=ha.h) (hb:=hb.h)⟩
theorem ad9(ha:Jd (PD X a ta))(hb:Jd (PD X (.BoolOp .Or (b::rest) pos) tb)):Jd (PD X (.BoolOp .Or (a::b::rest) pos) (ae8 ta tb)):=⟨D.afA (ha:=ha.h) (hb:=hb.h)⟩
theorem abL(ha:Jd (PD X a ta)):Jd (PD X (.UnaryOp .Not a pos) (yP ta)):=⟨D.adP (ha:=ha.h)⟩
variable {es:List Expr}{t:TAd}
theorem aa  : Jd (PAd X [] aW):=⟨D.qW ⟩
theorem aeD(ha:Jd (PD X e te))(hr:Jd (PAd X es t))(hs:starEach (e::es) X.env=(false,eval e X.env)::starEach es X.env:=by rfl):Jd (PAd X (e::es) (ai te t)):=⟨D.sV (ha:=ha.h) (hr:=hr.h) (hs:=hs)⟩
theorem fv(h:Jd (PAd X es t)):Jd (PD X (.List es pos) (qQ t)):=⟨D.adt (h:=h.h)⟩
theorem fL(h:Jd (PAd X es t)):Jd (PD X (.List es pos) (mL t)):=⟨D.aco (h:=h.h)⟩
theorem bR{x1}(h:Jd (PAd X es t)):Jd (PD X (.Tuple es x1 pos) (jQ t)):=⟨D.acP (h:=h.h)⟩
variable {x:Str}{p:Pos}{id T:String}{r:List V->Hp->VK->Prop}{rd:List W->MH->QD->Prop}
theorem acM(hc:dZ X (.builtin id) r)(hd:fP X.K r rd)(hg:Gl X x)(hm:X.mg x=none)(hv:bootBuiltins x=some (.builtin id))(ha:Jd (PAd X (e::es) t))(hn:x ≠ "__name__":= by decide)(hdb:ND x:=by decide)(he:starEach (e::es) X.env=(false,eval e X.env)::starEach es X.env:=by rfl)(hpl:(backTo pos (starEach es X.env)).any (·.1)=false:=by rfl):Jd (PD X (.Call (.Name x p) (e::es) [] pos) (dCB rd t)):=⟨D.tu (hc:=hc) (hd:=hd) (hg:=hg) (hm:=hm) (hv:=hv) (ha:=ha.h) (hn:=hn) (hdb:=hdb) (he:=he) (hpl:=hpl)⟩
theorem acu(hc:dZ X (.type T) r)(hd:fP X.K r rd)(hg:Gl X x)(hm:X.mg x=none)(hv:bootBuiltins x=some (.type T))(ha:Jd (PAd X (e::es) t))(hn:x ≠ "__name__":= by decide)(hdb:ND x:=by decide)(he:starEach (e::es) X.env=(false,eval e X.env)::starEach es X.env:=by rfl)(hpl:(backTo pos (starEach es X.env)).any (·.1)=false:=by rfl):Jd (PD X (.Call (.Name x p) (e::es) [] pos) (dCB rd t)):=⟨D.qb (hc:=hc) (hd:=hd) (hg:=hg) (hm:=hm) (hv:=hv) (ha:=ha.h) (hn:=hn) (hdb:=hdb) (he:=he) (hpl:=hpl)⟩
end
section
variable {X:Cx}{pos:Pos}{st:Stmt}{sts:List Stmt}{t u:TSd}{e:Expr}{te:TD}{K:FG}
theorem ay  : Jd (nA X [] bX):=⟨adg aaq λ D σ H ⟨τ,M,Dd,A,h,k1,_⟩=>k1 σ H τ M (Kp.refl H) A h⟩
theorem ae(h1:Jd (PSd X st t))(h2:Jd (nA X sts u)):Jd (nA X (st::sts) (bI t u)):=⟨D.uX (h1:=h1.h) (h2:=h2.h)⟩
theorem af(h1:Jd (PSd X st t)):Jd (nA X [st] t):=⟨D.yR (h1:=h1.h)⟩
theorem cv(he:Jd (PD X e te))(hs:swapsWith e none pos.line X.env=pure false:=by rfl):Jd (PSd X (.Expr e pos) (iI te)):=⟨D.zC (he:=he.h) (hs:=hs)⟩
theorem aB(he:Jd (PD X e te)):Jd (PSd X (.Return (some e) pos) (eK te)):=⟨D.ab8 (he:=he.h)⟩
theorem pE  : Jd (PSd X (.Return none pos) acm):=⟨tQ aau λ D σ H ⟨τ,M,Dd,A,h,k1,k2,_⟩=>k2 _ H _ M (Kp.refl H) (by simp[aH,aA]) A.mem h⟩
theorem aN(hc:Jd (PTd X c tc))(ha:Jd (nA X a t))(hb:Jd (nA X b u)):Jd (PSd X (.If c a b pos) (dIf tc t u)):=⟨D.adp (hc:=hc.h) (ha:=ha.h) (hb:=hb.h)⟩
theorem aG(hN:X.N.Nodup)(hi:X.N[i]? =some x)(hx:Loc X.env.scope x)(hf:X.fn x=true\/X.env.scope.names.lookup x=some .local:=by first | exact .inl rfl | exact .inr rfl | assumption):Jd (PGd X (.Name x pos) (gN i)):=⟨
 aga (abq hN hi hx hf) λ v σ H Q ⟨w,τ,M,Qd,r,A,h,k⟩=>k _ H _ M (Kp.refl H) (A.set i r) h⟩
theorem cR(he:Jd (PD X e te))(hg:Jd (PGd X tg g))(hs:swapsWithSole [tg] e pos.line X.env=pure false:=by rfl)(hw:swappedStores [tg] e X.env=pure none:=by rfl)(h1:(assignEach [tg] X.env).map (·.2)=[assign tg X.env]:=by rfl):Jd (PSd X (.Assign [tg] e pos) (dW te g)):=⟨D.aaT (he:=he.h) (hg:=hg.h) (hs:=hs) (hw:=hw) (h1:=h1)⟩
theorem aP(hN:X.N.Nodup)(hi:X.N[i]? =some x)(hx:Loc X.env.scope x)(he:Jd (PD X e te))(hs:swapsWith e (some (.Name x pos')) pos.line X.env=pure false:=by rfl)(hf:X.fn x=true\/X.env.scope.names.lookup x=some .local:=by first | exact .inl rfl | exact .inr rfl | assumption):Jd (PSd X (.Assign [.Name x pos'] e pos) (dW te (gN i))):=⟨D.aa7 (hN:=hN) (hi:=hi) (hx:=hx) (he:=he.h) (hs:=hs) (hf:=hf)⟩
end
theorem ae0(F:bH X.prog X.w X.K X.mg X.base CX0 k f fd ps (dH X.K sp))(hr:dN k X.A)(hg:Gl X x)(hm:X.mg x=some (.ref f))(hk:W.keepIn X.K (.ref f)=true)(hb:Binds X.K fd ps [])(ha:Jd (PAd X (e::es) t))(hdb:ND x:=by decide)(he:starEach (e::es) X.env=(false,eval e X.env)::starEach es X.env:=by rfl)(hpl:(backTo pos (starEach es X.env)).any (·.1)=false:=by rfl):Jd (PD X (.Call (.Name x p) (e::es) [] pos) (cN sp t)):=⟨D.xo (F:=F) (hr:=hr) (hg:=hg) (hm:=hm) (hk:=hk) (hb:=hb) (ha:=ha.h) (hdb:=hdb) (he:=he) (hpl:=hpl)⟩
theorem dX  : Jd (POd X none fU):=⟨agR acn λ σ H Q ⟨τ,M,Qd,A,q,k⟩=>k none H M (Kp.refl H) A.mem q⟩
theorem d9(h:Jd (PD X e te)):Jd (POd X (some e) (mD te)):=⟨D.xX (h:=h.h)⟩
theorem d6{te:TD}{lo hi:Option Expr}{tl th:TOd}{pos p2:Pos}(he:Jd (PD X e te))(hl:Jd (POd X lo tl))(hu:Jd (POd X hi th)):Jd (PD X (.Subscript e (.Slice lo hi none p2) pos) (dSl te tl th)):=⟨D.xQ (he:=he.h) (hl:=hl.h) (hu:=hu.h)⟩
theorem g9(ho:Jd (PD X o to))(hi:Jd (PD X i ti))(ha:∀ v,assign (.Subscript o i pos) X.env v=(do
   let ov <- holding [v] (eval o X.env)
   let iv <- holding [v,ov] (eval i X.env)
   standAt pos
   holding [v,ov,iv] (setItem ov iv v)
   release [v,ov,iv] []):=by intro _;rfl):Jd (PGd X (.Subscript o i pos) (uO to ti)):=⟨D.abt (ho:=ho.h) (hi:=hi.h) (ha:=ha)⟩
theorem xp(ho:Jd (PD X o to))(hi:Jd (PD X i ti))(he:Jd (PD X e te))(hp:PIp X op (ipI f))(ha:∀ ov iv new,augStore i ov iv new=(do holding [new,ov,iv] (setItem ov iv new);release [new,ov,iv] [];pure .next):=by intros;rfl):Jd (PSd X (.AugAssign (.Subscript o i tpos) op e pos) (xP to ti te f)):=⟨D.yo (ho:=ho.h) (hi:=hi.h) (he:=he.h) (hp:=hp) (ha:=ha)⟩
theorem eP(h:Jd (PD X l te)):Jd (PId X tg l (i7 te)):=⟨D.wt (h:=h.h)⟩
theorem rJ(hg:Gl X "range")(hm:X.mg "range" = none)(ha:Jd (PAd X [a] ta))(hs:starEach [a] X.env=[(false,eval a X.env)]:=by rfl):Jd (PId X tg (.Call (.Name "range" p) [a] [] pos) (aa4 ta)):=⟨D.uv (hg:=hg) (hm:=hm) (ha:=ha.h) (hs:=hs)⟩
theorem fO(hp:PassesOwn (model X.prog X.w) X.A X.env X.xe)(hc:X.calm=true)(hi:Jd (PId X tg iter di))(hg:Jd (PGd X tg g))(hb:Jd (nA X body tb))(hs:∀ x,foldedSetIterable iter X.env x=pure x:=by intro _;rfl):Jd (PSd X (.For tg iter body [] pos) (yJ di g tb)):=⟨D.abf (hp:=hp) (hc:=hc) (hi:=hi.h) (hg:=hg.h) (hb:=hb.h) (hs:=hs)⟩
theorem lG  : Jd (afk X [] abz):=⟨λ pins s σ H Q I ⟨τ,M,Qd,A,q,k⟩=>abO pins s σ H Q I (k true H M (Kp.refl H) A.mem q)⟩
theorem xa(hc:X.calm=true)(L:aaf X sc own fr)(hi:Jd (PId X tg iter di))(hg:∀ cl C s H ex pl,Jd (PGd (blk X sc (lcN X own fr) cl C s H ex pl) tg g))(ht:∀ cl C s H ex pl,Jd (afk (blk X sc (lcN X own fr) cl C s H ex pl) ifs tt))(he:∀ cl C s H ex pl,Jd (PD (blk X sc (lcN X own fr) cl C s H ex pl) elt te))(hs:∀ x,foldedSetIterable iter X.env x=pure x:=by intro _;rfl):Jd (PD X (.ListComp elt [⟨tg,iter,ifs,0⟩] sc pos) (dLC di g tt te own.length fr)):=⟨D.afQ (hc:=hc) (L:=L) (hi:=hi.h) (hg:=λ cl C s H ex pl=>(hg cl C s H ex pl).h) (ht:=λ cl C s H ex pl=>(ht cl C s H ex pl).h) (he:=λ cl C s H ex pl=>(he cl C s H ex pl).h) (hs:=hs)⟩
section
variable {X:Cx}{pos p:Pos}{e:Expr}{es:List Expr}{te:TD}{t:TAd}{x:Str}{id T:String}{r:List V->Hp->VK->Prop}{rd:List W->MH->QD->Prop}{k:Nat}{f:Addr}{fd:FuncData}{ps:List Str}{sp:SpD}
theorem aC(ha:Jd (PD X e te))(hr:Jd (PAd X es t))(h:dQ e=false:=by rfl):Jd (PAd X (e::es) (ai te t)):=⟨D.pac (ha:=ha.h) (hr:=hr.h) (h:=h)⟩
theorem jJ(hc:dZ X (.builtin id) r)(hd:fP X.K r rd)(hg:Gl X x)(hm:X.mg x=none)(hv:bootBuiltins x=some (.builtin id))(ha:Jd (PAd X (e::es) t))(hn:x ≠ "__name__":= by decide)(hdb:ND x:=by decide)(h1:dQ e=false:=by rfl)(h2:(es.all λ e=>!dQ e)=true:=by rfl):Jd (PD X (.Call (.Name x p) (e::es) [] pos) (dCB rd t)):=⟨D.pcB (hc:=hc) (hd:=hd) (hg:=hg) (hm:=hm) (hv:=hv) (ha:=ha.h) (hn:=hn) (hdb:=hdb) (h1:=h1) (h2:=h2)⟩
theorem kh(F:bH X.prog X.w X.K X.mg X.base CX0 k f fd ps (dH X.K sp))(hr:dN k X.A)(hg:Gl X x)(hm:X.mg x=some (.ref f))(hk:W.keepIn X.K (.ref f)=true)(hb:Binds X.K fd ps [])(ha:Jd (PAd X (e::es) t))(hdb:ND x:=by decide)(h1:dQ e=false:=by rfl)(h2:(es.all λ e=>!dQ e)=true:=by rfl):Jd (PD X (.Call (.Name x p) (e::es) [] pos) (cN sp t)):=⟨D.pcF (F:=F) (hr:=hr) (hg:=hg) (hm:=hm) (hk:=hk) (hb:=hb) (ha:=ha.h) (hdb:=hdb) (h1:=h1) (h2:=h2)⟩
end
theorem sN:Jd (PPs X pos [] [] (([]:List (TD×TD)).map (pm X.K))):=⟨L2.acb⟩
theorem du(hk:Jd (PD X k tk))(hv:Jd (PD X v tv))(hr:Jd (PPs X pos ks vs (trs.map (pm X.K)))):Jd (PPs X pos (some k::ks) (v::vs) (((tk,tv)::trs).map (pm X.K))):=⟨L2.yB hk.h hv.h hr.h⟩
section
variable {κ α:Type}[DecidableEq κ]
def mK(t:List (κ×α))(k:κ):Option α:=(t.find? λ p=>decide (p.1=k)).map (·.2)
def xS(t:List (κ×α))(k:κ)(v:α):List (κ×α):=if (t.any λ p=>decide (p.1=k))=true then t.map (λ p=>if p.1=k then (p.1,v) else p) else t++[(k,v)]
def OR(R:β->γ->Prop):Option β->Option γ->Prop
 | some a,some b=>R a b
 | none,none=>True
 | _,_=>False
theorem OR.some_of(h:OR R (some a) o):∃ b,o=some b/\R a b:=by
 cases o with
 | none=>exact h.elim
 | some b=>exact⟨b,rfl,h⟩
theorem OR.none_of(h:OR R none o):o=none:=by
 cases o with
 | none=>rfl
 | some b=>exact h.elim
theorem OR.isSome:∀ {a:Option β} {o:Option γ},OR R a o->a.isSome=o.isSome
 | some _,some _,_=>rfl
 | none,none,_=>rfl
 | some _,none,h=>h.elim
 | none,some _,h=>h.elim
theorem lV(k:κ):∀ {t:List (κ×α)} {l:List (κ×V)},Paired (λ p q=>p.1=q.1/\R p.2 q.2) t l->OR R (mK t k) (kg l k)
 | _,_,.nil=>True.intro
 | _,_,.cons (a:=p) (b:=q) (l₁:=t1) h t=>by
  obtain⟨h1,h2⟩:=h
  by_cases e:p.1=k
  ·rw[hG (h1.symm.trans e),show mK (p::t1) k=some p.2 by simp[mK,List.find?_cons,e]];exact h2
  ·rw[hB (λ z=>e (h1.trans z)),show mK (p::t1) k=mK t1 k by simp[mK,List.find?_cons,e]];exact lV k t
theorem zR{R:α->V->Prop}(k:κ):∀ {t:List (κ×α)} {l:List (κ×V)},Paired (λ p q=>p.1=q.1/\R p.2 q.2) t l->(t.any λ p=>decide (p.1=k))=(l.any λ p=>decide (p.1=k))
 | _,_,.nil=>rfl
 | _,_,.cons (a:=p) (b:=q) h t=>by simp only[List.any_cons];rw[zR k t,h.1]
theorem aah{R:α->V->Prop}(k:κ){v:V}(r:R a v):∀ {t:List (κ×α)} {l:List (κ×V)},Paired (λ p q=>p.1=q.1/\R p.2 q.2) t l ->
  Paired (λ p q=>p.1=q.1/\R p.2 q.2) (t.map λ p=>if p.1=k then (p.1,a) else p) (l.map λ p=>if p.1=k then (p.1,v) else p)
 | _,_,.nil=>.nil
 | _,_,.cons (a:=p) (b:=q) h t=>by
  simp only[List.map_cons];refine .cons ?_ (aah k r t)
  by_cases e:p.1=k
  ·rw[if_pos e,if_pos (h.1.symm.trans e)];exact⟨h.1,r⟩
  ·rw[if_neg e,if_neg (λ z=>e (h.1.trans z))];exact h
theorem vg(r:P p q):∀ {t:List (κ×α)} {l:List (κ×V)},Paired P t l->Paired P (t++[p]) (l++[q])
 | _,_,.nil=>.cons r .nil
 | _,_,.cons h t=>.cons h (vg r t)
theorem zM{R:α->V->Prop}(k:κ){v:V}(r:R a v){t:List (κ×α)}{l:List (κ×V)}(h:Paired (λ p q=>p.1=q.1/\R p.2 q.2) t l) :
  Paired (λ p q=>p.1=q.1/\R p.2 q.2) (xS t k a) (putK l k v):=by
 unfold xS putK;rw[zR k h]
 split
 ·exact aah k r h
 ·exact vg ⟨rfl,r⟩ h
theorem tF:∀ {t:List (κ×α)} {l:List (κ×V)},Paired P t l->t.length=l.length
 | _,_,.nil=>rfl
 | _,_,.cons _ t=>by simp[tF t]
end
def kW(k:Key):W:=.d (uM k)
theorem jP{K:FG}{H:Hp}{k:Key}{v:V}(r:aH K H (kW k) v):v=kV k:=xy r
def tkW(ks:List Key):W:=.d (.tuple (ks.map uM))
theorem adi{K:FG}{H:Hp}:∀ {ks:List Key} {vs:List V},bA K H (ks.map uM) vs->vs=ks.map kV
 | [],vs,h=>by simpa [bA] using h
 | k::ks,vs,h=>by simp only[List.map_cons,bA] at h;obtain⟨v,r,e,h1,h2⟩:=h;rw[e,xy h1,adi h2];rfl
def Rd2(H:Hp)(a:Addr)(u:HO):Prop:=Rd H a u\/∃ o,H a=some (.frz o (.frz o u))
theorem aaa(ok:HOk P w H h)(e:Rd2 H a (.dK kvs)):kvs.length<=sizeLine/\(a==sysModules)=false/\∃ vs,KV kvs vs/\h.DictOf (bb P w) a vs:=by
 rcases e with e | ⟨o,e⟩
 ·exact vv ok e
 ·exact(ok a _ e).2.2
def abr(K:FG)(H:Hp)(a:Addr)(y:V)(r:Option V):Prop:=
 (∃ kvs k,Rd2 H a (.dK kvs)/\y=kV k/\r=kg kvs k)\/∃ kvs k b,Rd H a (.dT kvs)/\y=.ref b/\SqT K H b (k.map kV)/\r=kg kvs k
theorem aef(I:Inv X pins σ H s)(h:SqT X.K H b (ks.map kV)):(tupleKind (bb X.prog X.w)).is s.heap ks b:=by obtain⟨its,r,⟨o,h1,h2,n,h3⟩,_⟩:=I.tuple h;exact⟨o,its.toArray,n,h1,h2,h3,by simpa using lH r⟩
theorem xV(hu:A.units+1<cLine)(I:Inv X pins σ H s)(g:abr X.K H a y o)(ry:RelV y u)(h:∀ s',Inv X pins σ H s'->Q (.bool (!o.isSome)) s') :
  wpAny (model X.prog X.w) A (compareOp .NotIn u (.ref a)) Q E s:=by
 rcases g with ⟨kvs,k,e,ey,l⟩ | ⟨kvs,k,b,e,ey,eb,l⟩
 ·subst ey;obtain⟨z,hd,vs,rel,dd⟩:=aaa I.hok e;refine wpAny_notIn_of (oM ry) hd dd.mapOf ?_;rw[<- (rel.val k).jo,<- l];exact h _ (I.tok _)
 ·subst ey;cases (show u=Value.ref b from ry);obtain⟨z,hd,xs,rel,dd⟩:=ady I.hok e;refine wpAny_notIn_heap (tupleKind_room_in1 hu) (aef I eb) hd dd ?_;have q:=(rel.val k).jo;rw[Option.isSome_map] at q;rw[<- q,<- l];exact h _ (I.tok _)
theorem mQ(hu:A.units+1<cLine)(I:Inv X pins σ H s)(e:Rd2 H a (.dK kvs))(l:kg kvs k=some v)(ry:RelV (kV k) u)(h:∀ w' s',Inv X pins σ H s'->RelV v w'->Q w' s') :
  s.TypeIs (.ref a) "dict" /\ wpAny (model X.prog X.w) A (getItem (.ref a) u) Q E s:=by
 obtain⟨z,hd,vs,rel,dd⟩:=aaa I.hok e;obtain⟨w',hw,rw'⟩:=mJ.some_of (v:=v) (o:=valueAt vs k) (by rw[<- l];exact rel.val k);exact⟨dd.typeIs,wpAny_getItem_of (oM ry) dd.mapOf hw (h w' _ (I.tok _) rw')⟩
inductive qV(M:MH):W->W->Option W->Prop
 | k {a:Addr} {kvs:List (Key×W)} {k:Key} (h:M a=some (.dic kvs)):qV M (.m a) (kW k) (mK kvs k)
 | t {a:Addr} {kvs:List (List Key×W)} {ks:List Key} (h:M a=some (.dct kvs)):qV M (.m a) (tkW ks) (mK kvs ks)
 | f {a:Addr} {kvs:List (Key×W)} {k:Key} (h:M a=some (.fdic kvs)):qV M (.m a) (kW k) (mK kvs k)
 | d {kvs:List (Key×PyData)} {k:Key}:qV M (.d (.dict (kvs.map λ p=>(uM p.1,p.2)))) (kW k) ((mK kvs k).map W.d)
inductive DIs(M:MH):W->Prop
 | k {a:Addr} {kvs:List (Key×W)} (h:M a=some (.dic kvs)):DIs M (.m a)
 | t {a:Addr} {kvs:List (List Key×W)} (h:M a=some (.dct kvs)):DIs M (.m a)
 | d {kvs:List (PyData×PyData)}:DIs M (.d (.dict kvs))
theorem ze(h:uM a=uM b):a=b:=by
 cases a<;>cases b<;>simp[uM] at h<;>rw[h]
theorem ma{K:FG}{H:Hp}:∀ {kvs:List (Key×PyData)} {l:List (Key×V)},md K H (kvs.map λ p=>(uM p.1,p.2)) l->Paired (λ(p:Key×PyData) (q:Key×V)=>p.1=q.1/\aA K H p.2 q.2) kvs l
 | [],l,h=>by simp only[List.map_nil,md] at h;subst h;exact .nil
 | p::kvs,l,h=>by simp only[List.map_cons,md] at h;obtain⟨key,v,r,e,ek,h1,h2⟩:=h;subst e;exact .cons ⟨ze ek,h1⟩ (ma h2)
theorem DIs.sound{K:FG}{H:Hp}{M:MH}{w:W}{x:V}(g:DIs M w)(r:aH K H w x)(m:cz K H M):∃ a,x=.ref a/\IsD H a:=by
 cases g with
 | k h =>
  obtain⟨l,e,_⟩:=m _ _ h;exact⟨_,r,.inl ⟨l,.inl e⟩⟩
 | t h =>
  obtain⟨l,e,_⟩:=m _ _ h;exact⟨_,r,.inr ⟨l,.inl e⟩⟩
 | d =>
  simp only[aH,aA] at r;obtain⟨a,o,l,e,h,_⟩:=r;exact⟨a,e,.inl ⟨l,.inr ⟨o,h⟩⟩⟩
theorem qV.sound{K:FG}{H:Hp}{M:MH}{w y:W}{o:Option W}{x v:V}(g:qV M w y o)(r:aH K H w x)(ry:aH K H y v)(m:cz K H M) :
  ∃ a p,x=.ref a/\abr K H a v p/\OR (aH K H) o p:=by
 cases g with
 | @k a kvs k h =>
  obtain⟨l,e,pr⟩:=m _ _ h;exact⟨_,_,r,.inl ⟨l,k,.inl (.inl e),jP ry,rfl⟩,lV k pr⟩
 | @f a kvs k h =>
  obtain⟨ob,l,e,pr⟩:=m _ _ h;exact⟨_,_,r,.inl ⟨l,k,.inr ⟨ob,e⟩,jP ry,rfl⟩,lV k pr⟩
 | @t a kvs ks h =>
  obtain⟨l,e,pr⟩:=m _ _ h;simp only[tkW,aH,aA] at ry;obtain⟨b,vs,eb,hs,ra⟩:=ry;rw[adi ra] at hs;exact⟨_,_,r,.inr ⟨l,ks,b,.inl e,eb,hs,rfl⟩,lV ks pr⟩
 | @d kvs k =>
  simp only[aH,aA] at r;obtain⟨a,ob,l,e,h,rk⟩:=r;refine⟨a,_,e,.inl ⟨l,k,.inl (.inr ⟨ob,h⟩),jP ry,rfl⟩,?_⟩;have g:=lV (R:=λ d q=>aA K H d q) k (ma rk);cases q:mK kvs k with
  | none=>rw[q] at g;rw[OR.none_of g];exact True.intro
  | some z =>
   rw[q] at g;obtain⟨b,eb,rb⟩:=OR.some_of g;rw[eb];exact rb
def tm(K:FG)(ty td:TE):TE:=λ σ H Q=>ty σ H λ y H1=>td σ H1 λ x H2=>∃ a o,x=.ref a/\abr K H2 a y o/\Q (.bl (!o.isSome)) H2
theorem uc(hu:X.A.units+1<cLine)(hi:PE X i ty)(ho:PE X o td):PC X .NotIn i o (tm X.K ty td):=by intro pins s σ H Q I h;refine thn (hi pins s σ H _ I h) λ iv s1 ⟨y,H1,I1,ry,q1⟩=>thn (ho pins s1 σ H1 _ I1 q1) λ u s2 hq54=>?_;obtain⟨x,H2,I2,rx,a,ov,ex,g,q2⟩:=hq54;subst ex;obtain rfl:u=Value.ref a:=rx;exact xV hu I2 g ry λ s3 I3=>⟨.bl (!ov.isSome),H2,I3,rfl,q2⟩
def ad7(td ty:TE):TE:=λ σ H Q=>td σ H λ x H1=>ty σ H1 λ y H2=>∃ a kvs k v,x=.ref a/\Rd2 H2 a (.dK kvs)/\y=kV k/\kg kvs k=some v/\Q v H2
theorem zh(hu:X.A.units+1<cLine)(ho:PE X o td)(hi:PE X i ty)(hs:y0 i):PE X (.Subscript o i pos) (ad7 td ty):=by intro pins s σ H Q I h;refine sg PySem.F.slot_dict_getitem.lookup hs (thn (ho pins s σ H _ I h) λ u s1 ⟨x,H1,I1,rx,q1⟩=>thn (hi pins s1 σ H1 _ I1 q1) λ iv s2 hq55=>?_);obtain⟨y,H2,I2,ry,a,kvs,k,v,ex,g,ey,l,q2⟩:=hq55;subst ex ey;obtain rfl:u=Value.ref a:=rx;exact mQ hu I2 g l ry λ w' s3 I3 rw'=>⟨v,H2,I3,rw',q2⟩
section
variable {X:Cx}{o i e f value:Expr}{es:List Expr}{pos pos' apos cpos:Pos}{td ti tx tv:TD}{t:TAd}
def rq(_:DS)(M:MH)(Q:QD):Prop:=∀ p,M p=none->Q (.m p) (bz M p (.dic []))
def nX(ti td:TD)(τ:DS)(M:MH)(Q:QD):Prop:=ti τ M λ y M1=>td τ M1 λ w M2=>∃ o,qV M2 w y o/\Q (.d (.bool (!o.isSome))) M2
theorem t7{σ:St}{H:Hp}{Q:VK}(h:up X.K (nX ti td) σ H Q):tm X.K (up X.K ti) (up X.K td) σ H Q:=by obtain⟨τ,M,Qd,A,h,k⟩:=h;refine⟨τ,M,_,A,h,λ y H1 wy M1 kp1 r1 m1 q1=>⟨τ,M1,_,A.go kp1 m1,q1,λ x H2 w M2 kp2 r2 m2 hq56=>?_⟩⟩;obtain⟨o,g,q2⟩:=hq56;obtain⟨a,p,e,g',ro⟩:=g.sound r2 (r1.keep kp2) m2;refine⟨a,p,e,g',?_⟩;rw[<- ro.isSome];exact k _ H2 (.d (.bool _)) M2 (kp1.trans kp2) (by simp[aH,aA]) m2 q2
theorem ue(hu:X.A.units+1<cLine)(hi:PD X i ti)(ho:PD X o td)(hm:behindInMarks .NotIn o=false:=by rfl):PTd X (.Compare i [.NotIn] [o] pos) (a9 (nX ti td)):=acr (zJ (uc hu hi ho) hm) λ σ H Q h=>js (λ σ H Q h=>t7 h) h
inductive ac1(M2:MH) (w y:W) (Q:QD):Prop
 | mk (a:Addr) (kvs:List (Key×W)) (k:Key) (v:W) (z0:w=.m a) (z1:M2 a=some (.dic kvs)\/M2 a=some (.fdic kvs)) (z2:y=kW k) (z3:mK kvs k=some v) (q:Q v M2):ac1 M2 w y Q
def eW(td ti:TD)(τ:DS)(M:MH)(Q:QD):Prop:=td τ M λ w M1=>ti τ M1 λ y M2=>ac1 M2 w y Q
theorem ab7(hu:X.A.units+1<cLine)(ho:PD X o td)(hi:PD X i ti)(hs:y0 i:=by exact λ _ _=>rfl):PD X (.Subscript o i pos) (eW td ti):=iH (zh hu ho hi hs) λ σ H Q h=>by
 obtain⟨τ,M,Qd,A,h,k⟩:=h;refine⟨τ,M,_,A,h,λ x H1 w M1 kp1 r1 m1 q1=>⟨τ,M1,_,A.go kp1 m1,q1,λ y H2 wy M2 kp2 r2 m2 hq57=>?_⟩⟩;obtain⟨a,kvs,key,v,ew,hm,ey,hv,q2⟩:=hq57;subst ew ey;obtain⟨l,e,pr⟩:∃ l,Rd2 H2 a (.dK l)/\Paired (λ(p:Key×W) (q:Key×V)=>p.1=q.1/\aH X.K H2 p.2 q.2) kvs l:=by
  rcases hm with hm | hm
  ·obtain⟨l,e,pr⟩:=m2 _ _ hm;exact⟨l,.inl (.inl e),pr⟩
  ·obtain⟨ob,l,e,pr⟩:=m2 _ _ hm;exact⟨l,.inr ⟨ob,e⟩,pr⟩
 have g:=lV key pr;rw[hv] at g;obtain⟨b,eb,rb⟩:=OR.some_of g;refine⟨a,l,key,b,r1,e,jP r2,eb,?_⟩;exact k _ H2 v M2 (kp1.trans kp2) rb m2 q2
theorem OR.getD{K:FG}{H:Hp}{o:Option W}{p:Option V}{z:W}{v:V}(h:OR (aH K H) o p)(r:aH K H z v):aH K H (o.getD z) (p.getD v):=by
 cases o with
 | none=>rw[OR.none_of h];exact r
 | some a=>obtain⟨b,e,q⟩:=OR.some_of h;rw[e];exact q
def pI(td ti tv:TD)(D:Ed)(τ:DS)(M:MH):Prop:=tv τ M λ v M1=>td τ M1 λ w M2=>ti τ M2 λ y M3=>∃ a kvs k,w=.m a/\M3 a=some (.dic kvs)/\y=kW k/\kvs.length<sizeLine/\D.nx τ (bz M3 a (.dic (xS kvs k v)))
theorem y9(hu:X.A.units+1<cLine)(ho:PD X o td)(hi:PD X i ti)(hv:PD X value tv)(hs:swapsWith value (some (.Subscript o i pos')) pos.line X.env=pure false:=by rfl) :
  PSd X (.Assign [.Subscript o i pos'] value pos) (pI td ti tv):=tQ (abN hu ho hi hv hs) λ D σ H h=>by
 obtain⟨τ,M,Dd,A,h,k1,_⟩:=h;refine⟨τ,M,_,A,h,λ v H1 wv M1 kp1 r1 m1 q1=>⟨τ,M1,_,A.go kp1 m1,q1,λ x H2 w M2 kp2 r2 m2 q2=>⟨τ,M2,_,A.go (kp1.trans kp2) m2,q2,λ y H3 wy M3 kp3 r3 m3 hq58=>?_⟩⟩⟩;obtain⟨a,kvs,key,ew,hm,ey,hl,q3⟩:=hq58;subst ew ey;obtain⟨l,e,pr⟩:=m3 _ _ hm;have kp4:Kp H3 (upd H3 a (.dK (putK l key v))):=Kp.set e (λ _ z=>nomatch z) (λ _ _ z=>nomatch z);refine⟨a,_,r2,.inl ⟨l,key,e,jP r3,by rw[<- tF pr];exact hl,rfl⟩,?_⟩;have rv:aH X.K H3 wv v:=(r1.keep kp2).keep kp3;refine k1 _ _ _ _ (((kp1.trans kp2).trans kp3).trans kp4) (A.go (((kp1.trans kp2).trans kp3).trans kp4) (m3.put (mo:=.dic (xS kvs key wv)) kp4 ⟨_,ax,?_⟩)) q3;exact Paired.j6 (zM key rv pr) λ p q z=>⟨z.1,z.2.keep kp4⟩
end
def bK(f:Str)(v:W):List (Str×W)->List (Str×W)
 | []=>[(f,v)]
 | (g,x)::r=>if g=f then (g,v)::r else (g,x)::bK f v r
abbrev yU(K:FG)(H:Hp):List (Str×W)->List (Str×V)->Prop:=Paired (λ(p:Str×W) (q:Str×V)=>p.1=q.1/\aH K H p.2 q.2)
theorem eC{K:FG}{H:Hp}(f:Str):∀ {fs:List (Str×W)} {l:List (Str×V)},yU K H fs l->OR (aH K H) (fs.lookup f) (l.lookup f)
 | _,_,.nil=>True.intro
 | _,_,.cons (a:=p) (b:=q) (l₁:=t1) (l₂:=t2) h t=>by
  obtain⟨pk,pv⟩:=p;obtain⟨qk,qv⟩:=q;obtain⟨h1,h2⟩:=h;have h1':pk=qk:=h1;subst h1';rw[List.lookup_cons,List.lookup_cons];cases e:(f==pk) with
  | true=>exact h2
  | false=>exact eC f t
theorem aab{K:FG}{H:Hp}(f:Str){w:W}{v:V}(r:aH K H w v):∀ {fs:List (Str×W)} {l:List (Str×V)},yU K H fs l->yU K H (bK f w fs) (oN f v l)
 | _,_,.nil=>.cons ⟨rfl,r⟩ .nil
 | _,_,.cons (a:=p) (b:=q) (l₁:=t1) (l₂:=t2) h t=>by
  obtain⟨pk,pv⟩:=p;obtain⟨qk,qv⟩:=q;obtain⟨h1,h2⟩:=h;have h1':pk=qk:=h1;subst h1';show yU K H (if pk=f then (pk,w)::t1 else (pk,pv)::bK f w t1) (if pk=f then (pk,v)::t2 else (pk,qv)::oN f v t2)
  by_cases e:pk=f
  ·rw[if_pos e,if_pos e];exact .cons ⟨rfl,r⟩ t
  ·rw[if_neg e,if_neg e];exact .cons ⟨rfl,h2⟩ (aab f r t)
theorem zP{K:FG}{H:Hp}:∀ {fs:List (Str×W)} {l:List (Str×V)},yU K H fs l->fs.length=l.length
 | _,_,.nil=>rfl
 | _,_,.cons _ t=>by simp[zP t]
theorem yU.keep{K:FG}{H H':Hp}(kp:Kp H H'){fs:List (Str×W)}{l:List (Str×V)}(h:yU K H fs l):yU K H' fs l:=Paired.j6 h λ p q z=>⟨z.1,z.2.keep kp⟩
section
variable {X:Cx}{C f:Addr}{o e value:Expr}{es:List Expr}{fn m x:Str}{pos pos' apos p:Pos}{td tv te:TD}{t:TAd}{k:Nat}{fd:FuncData}{ps:List Str}{sp:SpD}
inductive agB(C:Addr) (fn:Str) (M1:MH) (w:W) (Q:QD):Prop
 | mk (a:Addr) (fs:List (Str×W)) (v:W) (z0:w=.m a) (z1:M1 a=some (.ins C fs)) (z2:fs.lookup fn=some v) (q:Q v M1):agB C fn M1 w Q
def nH(C:Addr)(td:TD)(fn:Str)(τ:DS)(M:MH)(Q:QD):Prop:=td τ M λ w M1=>agB C fn M1 w Q
theorem aeq(c:Cls X.K C)(n:cx X.K C fn)(he:PD X e td)(hb:attributeBase e fn X.env (eval e X.env)=eval e X.env:=by rfl):PD X (.Attribute e fn pos) (nH C td fn):=iH (aev he hb) λ σ H Q h=>by obtain⟨τ,M,Qd,A,h,k⟩:=h;refine⟨τ,M,_,A,h,λ x H1 w M1 kp1 r1 m1 hq59=>?_⟩;obtain⟨a,fs,v,ew,hm,hl,q⟩:=hq59;subst ew;obtain⟨dx,l,e,pr⟩:=m1 _ _ hm;have g:=eC fn pr;rw[hl] at g;obtain⟨b,eb,rb⟩:=OR.some_of g;exact⟨a,C,dx,l,b,r1,e,c,n,eb,k _ H1 v M1 kp1 rb m1 q⟩
def fX(C:Addr)(td tv:TD)(fn:Str)(D:Ed)(τ:DS)(M:MH):Prop:=tv τ M λ v M1=>td τ M1 λ w M2=>∃ a fs,w=.m a/\M2 a=some (.ins C fs)/\fs.length<1000/\D.nx τ (bz M2 a (.ins C (bK fn v fs)))
theorem abp(c:Cls X.K C)(n:cx X.K C fn)(ha:PD X o td)(hv:PD X value tv)(hs:swapsWith value (some (.Attribute o fn pos')) pos.line X.env=pure false:=by rfl):PSd X (.Assign [.Attribute o fn pos'] value pos) (fX C td tv fn):=tQ (adk ha hv hs) λ D σ H h=>by obtain⟨τ,M,Dd,A,h,k1,_⟩:=h;refine⟨τ,M,_,A,h,λ v H1 wv M1 kp1 r1 m1 q1=>⟨τ,M1,_,A.go kp1 m1,q1,λ x H2 w M2 kp2 r2 m2 hq60=>?_⟩⟩;obtain⟨a,fs,ew,hm,hl,q2⟩:=hq60;subst ew;obtain⟨dx,l,e,pr⟩:=m2 _ _ hm;have kp4:Kp H2 (upd H2 a (.ins C dx (oN fn v l))):=Kp.set e (λ _ z=>nomatch z) (λ _ _ z=>nomatch z);refine⟨a,C,dx,l,r2,e,c,n,by rw[<- zP pr];exact hl,?_⟩;refine k1 _ _ _ _ ((kp1.trans kp2).trans kp4) (A.go ((kp1.trans kp2).trans kp4) (m2.put (mo:=.ins C (bK fn wv fs)) kp4 ⟨dx,_,ax,?_⟩)) q2;exact yU.keep kp4 (aab fn (r1.keep kp2) pr)
inductive ad3(C:Addr) (m:Str) (M1:MH) (w:W) (q:Prop):Prop
 | mk (a:Addr) (fs:List (Str×W)) (z0:w=.m a) (z1:M1 a=some (.ins C fs)) (z2:fs.lookup m=none) (z3:q):ad3 C m M1 w q
def jN(C:Addr)(m:Str)(sp:SpD)(td:TD)(t:TAd)(τ:DS)(M:MH)(Q:QD):Prop:=td τ M λ w M1=>ad3 C m M1 w (t τ M1 λ ws M2=>sp (w::ws) M2 Q)
theorem yg{σ:St}{H:Hp}{Q:VK}(h:up X.K (jN C m sp td t) σ H Q):aaI C m (dH X.K sp) [] E0 (up X.K td) (upA X.K t) σ H Q:=by obtain⟨τ,M,Qd,A,h,k⟩:=h;refine⟨τ,M,_,A,h,λ x H1 w M1 kp1 r1 m1 hq61=>?_⟩;obtain⟨a,fs,ew,hm,hl,q1⟩:=hq61;subst ew;obtain⟨dx,l,e,pr⟩:=m1 _ _ hm;have g:=eC m pr;rw[hl] at g;refine⟨a,dx,l,r1,e,OR.none_of g,τ,M1,_,A.go kp1 m1,q1,λ vs H2 ws M2 kp2 r2 m2 q2=>?_⟩;exact⟨.m a::ws,M2,Qd,by rw[List.append_nil];exact .cons r1 r2,m2,q2,kgo (kgo k kp1) kp2⟩
theorem abo(he:PD X o td)(c:Cls X.K C)(hm:Meth X.K C m f)(F:bH X.prog X.w X.K X.mg X.base CX0 k f fd ps (dH X.K sp))(hr:dN k X.A)(hb:Binds X.K fd ps [])(ha:PAd X (e::es) t)
  (ht:eval (.Call (.Attribute o m apos) (e::es) [] pos) X.env=(do
   let ov <- eval o X.env
   standAt apos.atName
   let (f,first) <- holding [ov] (getMethod ov m pl)
   callWith pos f first (backTo pos (starEach (e::es) X.env)) (backToKw pos (keywordEach [] X.env))):=by rfl)
  (h1:dQ e=false:=by rfl)(h2:(es.all λ e=>!dQ e)=true:=by rfl):PD X (.Call (.Attribute o m apos) (e::es) [] pos) (jN C m sp td t):=
 iH (aaA (E:=E0) (dvs:=[]) he c hm F hr hb .nil wM ha (bN e es X.env h1) (cf pos X.env es h2) ht) λ σ H Q h=>yg h
theorem xW{pl:Sem Bool}(he:PD X o td)(c:Cls X.K C)(hm:Meth X.K C m f)(F:bH X.prog X.w X.K X.mg X.base CX0 k f fd ps (dH X.K sp))(hr:dN k X.A)(hb:Binds X.K fd ps [])
  (ht:eval (.Call (.Attribute o m apos) [] [] pos) X.env=(do
   let ov <- eval o X.env
   standAt apos.atName
   let (f,first) <- holding [ov] (getMethod ov m pl)
   callWith pos f first (backTo pos (starEach [] X.env)) (backToKw pos (keywordEach [] X.env))):=by rfl):PD X (.Call (.Attribute o m apos) [] [] pos) (jN C m sp td aW):=
 iH (yM (E:=E0) (dvs:=[]) he c hm F hr hb .nil wM ht) λ σ H Q h=>by obtain⟨τ,M,Qd,A,h,k⟩:=h;refine⟨τ,M,_,A,h,λ x H1 w M1 kp1 r1 m1 hq62=>?_⟩;obtain⟨a,fs,ew,hm,hl,q1⟩:=hq62;subst ew;obtain⟨dx,l,e,pr⟩:=m1 _ _ hm;have g:=eC m pr;rw[hl] at g;exact⟨a,dx,l,r1,e,OR.none_of g,.m a::[],M1,Qd,.cons r1 .nil,m1,q1,kgo k kp1⟩
theorem zo{H1:Hp}{M1:MH}{a dx:Addr}(m1:cz X.K H1 M1)(ha:H1 a=none)(hd:H1 dx=none)(hn:dx≠a):Kp H1 (upd (upd H1 dx (.own a)) a (.ins C dx []))/\cz X.K (upd (upd H1 dx (.own a)) a (.ins C dx [])) (bz M1 a (.ins C [])):=by
 have k1:Kp H1 (upd H1 dx (.own a)):=Kp.new hd;have ha2:(upd H1 dx (.own a)) a=none:=by rw[au (Ne.symm hn)];exact ha
 have k2:Kp (upd H1 dx (.own a)) (upd (upd H1 dx (.own a)) a (.ins C dx [])):=Kp.new ha2;exact⟨k1.trans k2,(m1.new hd).put (mo:=.ins C []) k2 ⟨dx,[],ax,.nil⟩⟩
end
def yI(M:MH)(a:Addr):MH:=λ b=>if b=a then none else M b
theorem acs(h:b≠a):yI M a b=M b:=if_neg h
theorem cz.del{K:FG}{H:Hp}{M:MH}{a:Addr}{o:HO}(m:cz K H M)(kp:Kp H (upd H a o)):cz K (upd H a o) (yI M a):=λ b mo hm=>by
 by_cases e:b=a
 ·subst e;simp[yI] at hm
 ·rw[acs e] at hm;exact(m b mo hm).keep kp λ u z=>by rw[au e];exact z
def ags(R:W->MH->Prop)(ws:List W)(M:MH):Prop:=match ws with
 | [y]=>R y M
 | _=>False
theorem vI(h:ags R ws M):∃ y,ws=[y]/\R y M:=by
 match ws,h with
 | [y],h=>exact⟨y,rfl,h⟩
def aaN(td:TD)(τ:DS)(M:MH)(Q:QD):Prop:=td τ M λ w M1=>∃ a ds,w=.m a/\M1 a=some (.lst (ds.map W.d))/\Q (.d (.list ds)) (yI M1 a)
theorem ach(h:PD X e td):PD X e (aaN td):=iH (xD h) λ σ H Q h=>by obtain⟨τ,M,Qd,A,h,k⟩:=h;refine⟨τ,M,_,A,h,λ x H1 w M1 kp1 r1 m1 hq63=>?_⟩;obtain⟨a,ds,ew,hm,q⟩:=hq63;subst ew;obtain⟨vs,e,ra⟩:=m1 _ _ hm;refine⟨a,_,r1,e,trivial,λ ob=>?_⟩;have kp2:Kp H1 (upd H1 a (.frz ob (.lst vs))):=Kp.set e (λ _ z=>nomatch z) (λ _ _ z=>nomatch z);refine k _ _ (.d (.list ds)) (yI M1 a) (kp1.trans kp2) ?_ (m1.del kp2) q;simp only[aH,aA];exact⟨a,vs,r1,.inl ⟨ob,ax⟩,ra.data.keep kp2⟩
def ix(td te:TD)(τ:DS)(M:MH)(Q:QD):Prop:=td τ M λ w M1=>∃ a ws,w=.m a/\M1 a=some (.lst ws)/\te τ M1 λ y M2=>∃ ws',M2 a=some (.lst ws')/\ws'.length<sizeLine/\Q (.d .none) (bz M2 a (.lst (ws'++[y])))
theorem xk(ho:PD X o td)(he:PD X e te)
  (hbase:attributeBase o "append" X.env (eval o X.env)=eval o X.env:=by rfl)
  (hfew:((backTo cpos (starEach [e] X.env)).all (λ x=>!x.1)&&(backToKw cpos (keywordEach [] X.env)).all (λ x=>x.1.isSome)
   && decide (([e]:List Expr).length+([]:List Keyword).length+(if ([]:List Keyword).isEmpty then 0 else 1)<30))=true:=by rfl)
  (hline:(apos.endLine==cpos.line)=true:=by rfl)(hs:dQ e=false:=by rfl):PD X (.Call (.Attribute o "append" apos) [e] [] cpos) (ix td te):=
 iH (aet PySem.F.plainAttrs_list PySem.F.slot_list_append PySem.F.type_list_append v9 ho (pac he qW hs) hbase hfew hline (bN e [] X.env hs) rfl) λ σ H Q h=>by obtain⟨τ,M,Qd,A,h,k⟩:=h;refine⟨τ,M,_,A,h,λ x H1 w M1 kp1 r1 m1 hq64=>?_⟩;obtain⟨a,ws,ew,hm,q1⟩:=hq64;subst ew;obtain⟨vs,ea,ra⟩:=m1 _ _ hm;have r1':x=.ref a:=r1;subst r1';refine⟨.inl ⟨rfl,vs,.inl (.inl ea)⟩,τ,M1,ags (λ y M2=>∃ ws',M2 a=some (.lst ws')/\ws'.length<sizeLine/\Qd (.d .none) (bz M2 a (.lst (ws'++[y])))),A.go kp1 m1,q1,λ ys H2 wys M2 kp2 r2 m2 q2=>?_⟩;obtain⟨y,ey,ws',hm2,hl,q4⟩:=vI q2;subst ey;obtain⟨v,ev,rv⟩:=gc r2;subst ev;obtain⟨vs2,ea2,ra2⟩:=m2 _ _ hm2;have kp4:Kp H2 (upd H2 a (.lst (vs2++[v]))):=Kp.set ea2 (λ _ z=>nomatch z) (λ _ _ z=>nomatch z);refine⟨a,vs2,v,rfl,rfl,ea2,by rw[<- ra2.length];exact hl,?_⟩;exact k _ _ (.d .none) _ ((kp1.trans kp2).trans kp4) (by simp[aH,aA]) (m2.put (mo:=.lst (ws'++[y])) kp4 ⟨_,ax,(bj.append ra2 (.cons rv .nil)).keep kp4⟩) q4
theorem bj.reverse{K:FG}{H:Hp}:∀ {ws:List W} {vs:List V},bj K H ws vs->bj K H ws.reverse vs.reverse
 | _,_,.nil=>.nil
 | _,_,.cons h t=>by simp only[List.reverse_cons];exact bj.append (bj.reverse t) (.cons h .nil)
def kl(K:FG)(H:Hp)(d:PyData)(x:V):Prop:=aA K H d x\/∃ a vs ds,d=.list ds/\x=.ref a/\H a=some (.lst vs)/\bA K H ds vs
inductive uN(M:MH):W->PyData->Prop
 | d {x:PyData}:uN M (.d x) x
 | l {a:Addr} {ds:List PyData} (h:M a=some (.lst (ds.map W.d))):uN M (.m a) (.list ds)
theorem uN.sound{K:FG}{H:Hp}{M:MH}{w:W}{d:PyData}{x:V}(g:uN M w d)(r:aH K H w x)(m:cz K H M):kl K H d x:=by
 cases g with
 | d=>exact .inl r
 | l h =>
  obtain⟨vs,e,ra⟩:=m _ _ h;exact .inr ⟨_,vs,_,rfl,r,e,ra.data⟩
theorem agO(I:Inv X pins σ H s)(h:kl X.K H d x):∃ H',Inv X pins σ H' s/\aA X.K H' d x:=by
 rcases h with h | ⟨a,vs,ds,rfl,rfl,e,ra⟩
 ·exact⟨H,I,h⟩
 ·obtain⟨o,I2⟩:=I.freeze e trivial;have kp:Kp H (upd H a (.frz o (.lst vs))):=Kp.set e (λ _ z=>nomatch z) (λ _ _ z=>nomatch z);refine⟨_,I2,?_⟩;simp only[aA];exact⟨a,vs,rfl,.inl ⟨o,ax⟩,ra.keep kp⟩
theorem dy(I:Inv X pins σ H s)(d:PyData)(h:kl X.K H d x)(r:RelV x u)(hd:d.hasDict=false):∃ as,Reads s.heap u d as:=by obtain⟨H',I',h'⟩:=agO I h;exact dR I' d h' r hd
theorem si(I:Inv X pins σ H s)(h:kl X.K H d x)(r:RelV x u)(ok:fJ d=true):∃ as,Reads s.heap u d as/\(d.hasDict=true->sysModules ∉ as):=by obtain⟨H',I',h'⟩:=agO I h;exact tM I' h' r ok
theorem eO(hr:cL k X.A):dZ X (.builtin "repr") (λ xs H Q=>∃ x d,xs=[x]/\kl X.K H d x/\fJ d=true/\Q (.str d.shown) H):=by
 intro pins s σ H xs us Q I r h;obtain⟨x,d,rfl,rd,ok,q⟩:=h;obtain⟨u,rfl,rx⟩:=vals1 r;obtain⟨as,rr,hsm⟩:=si I rd rx ok;have ok':=ok;simp only[fJ,Bool.and_eq_true,decide_eq_true_eq] at ok';obtain⟨⟨⟨hs,hz⟩,hd⟩,_⟩:=ok';have hu:=hr.units;cases rr with
 | none=>exact PySem.P.repr_of_none ⟨.str _,H,I.tok _,⟨_,rfl⟩,by simpa [PyData.shown] using q⟩
 | bool b=>exact PySem.P.repr_of_bool ⟨.str _,H,I.tok _,⟨_,rfl⟩,by simpa [PyData.shown] using q⟩
 | int i t =>
  refine PySem.P.repr_of_int (by simpa [PyData.showable] using hs) ⟨.str _,H,I.tok _,⟨_,rfl⟩,?_⟩;rw[PyData.shown] at q;exact q
 | str i t =>
  refine PySem.P.repr_of_str ⟨.str _,H,I.tok _,⟨_,rfl⟩,?_⟩ (by simpa [PyData.shown] using hz);rw[PyData.shown] at q;exact q
 | list e1 e2 e3 e4=>exact repr_of_reads' (.list e1 e2 e3 e4) hs hsm hr.gd (by omega) (λ _ _ z=>z) (λ h' u tk hk=>⟨.str _,H,I.kept hk,⟨_,rfl⟩,q⟩) hz
 | tuple e1 e2 e3 e4=>exact repr_of_reads' (.tuple e1 e2 e3 e4) hs hsm hr.gd (by omega) (λ _ _ z=>z) (λ h' u tk hk=>⟨.str _,H,I.kept hk,⟨_,rfl⟩,q⟩) hz
 | dict e1 e2 e3 e4 e5=>exact repr_of_reads' (.dict e1 e2 e3 e4 e5) hs hsm hr.gd (by omega) (λ _ _ z=>z) (λ h' u tk hk=>⟨.str _,H,I.kept hk,⟨_,rfl⟩,q⟩) hz
theorem eF(hr:cL k X.A):OpR X (compareOp .Eq) (λ x y H Q=>∃ d d',kl X.K H d x/\kl X.K H d' y/\gb d d'=true/\Q (.bl (PyData.eqv d d')) H):=by
 intro pins s σ H x y v u Q I rx ry h;obtain⟨d,d',h1,h2,o,q⟩:=h;rcases f9 o with ⟨a,b,e1,e2⟩ | ⟨o1,o2⟩
 ·subst e1;subst e2;rcases h1 with h1 | ⟨_,_,_,z,_⟩
  ·rcases h2 with h2 | ⟨_,_,_,z,_⟩
   ·exact z9 hr pins s σ H x y v u Q I rx ry ⟨_,_,h1,h2,o,q⟩
   ·cases z
  ·cases z
 simp only[rH,Bool.and_eq_true,Bool.not_eq_true'] at o1 o2;obtain⟨as,r1⟩:=dy I d h1 rx o1.2;obtain⟨bs,r2⟩:=dy I d' h2 ry o2.2;exact eq_dataH r1 r2 o1.1 o2.1 hr.units ⟨.bl _,H,I,rfl,q⟩
theorem pL(hr:cL k X.A):OpR X (compareOp .NotEq) (λ x y H Q=>∃ d d',kl X.K H d x/\kl X.K H d' y/\gb d d'=true/\Q (.bl (!PyData.eqv d d')) H):=by
 intro pins s σ H x y v u Q I rx ry h;obtain⟨d,d',h1,h2,o,q⟩:=h;rcases f9 o with ⟨a,b,e1,e2⟩ | ⟨o1,o2⟩
 ·subst e1;subst e2;rcases h1 with h1 | ⟨_,_,_,z,_⟩
  ·rcases h2 with h2 | ⟨_,_,_,z,_⟩
   ·exact adD hr pins s σ H x y v u Q I rx ry ⟨_,_,h1,h2,o,q⟩
   ·cases z
  ·cases z
 simp only[rH,Bool.and_eq_true,Bool.not_eq_true'] at o1 o2;obtain⟨as,r1⟩:=dy I d h1 rx o1.2;obtain⟨bs,r2⟩:=dy I d' h2 ry o2.2;exact ne_dataH r1 r2 o1.1 o2.1 hr.units ⟨.bl _,H,I,rfl,q⟩
section
variable {X:Cx}{K:FG}
def gm(w w':W)(M:MH)(Q:QD):Prop:=∃ d d',uN M w d/\uN M w' d'/\gb d d'=true/\Q (.d (.bool (PyData.eqv d d'))) M
def tZ(w w':W)(M:MH)(Q:QD):Prop:=∃ d d',uN M w d/\uN M w' d'/\gb d d'=true/\Q (.d (.bool (!PyData.eqv d d'))) M
theorem cM:OpD K (λ x y H Q=>∃ d d',kl K H d x/\kl K H d' y/\gb d d'=true/\Q (.bl (PyData.eqv d d')) H) gm:=by intro x y H w w' M Qd Q r1 r2 m ⟨d,d',g1,g2,o1,q⟩ k;exact⟨d,d',g1.sound r1 m,g2.sound r2 m,o1,k _ H (.d (.bool _)) M (Kp.refl H) (by simp[aH,aA]) m q⟩
theorem lI:OpD K (λ x y H Q=>∃ d d',kl K H d x/\kl K H d' y/\gb d d'=true/\Q (.bl (!PyData.eqv d d')) H) tZ:=by intro x y H w w' M Qd Q r1 r2 m ⟨d,d',g1,g2,o1,q⟩ k;exact⟨d,d',g1.sound r1 m,g2.sound r2 m,o1,k _ H (.d (.bool _)) M (Kp.refl H) (by simp[aH,aA]) m q⟩
def iy(ws:List W)(M:MH)(Q:QD):Prop:=∃ w d,ws=[w]/\uN M w d/\fJ d=true/\Q (.d (.str d.shown)) M
theorem gP:fP K (λ xs H Q=>∃ x d,xs=[x]/\kl K H d x/\fJ d=true/\Q (.str d.shown) H) iy:=by intro vs H ws M Qd Q r m ⟨w,d,e,g,ok,q⟩ k;subst e;obtain⟨v,e1,r1⟩:=gc r;exact⟨v,d,e1,g.sound r1 m,ok,k _ H (.d (.str _)) M (Kp.refl H) (by simp[aH,aA]) m q⟩
inductive acA(M:MH):W->List W->Prop
 | l {ds:List PyData}:acA M (.d (.list ds)) (ds.map W.d)
 | t {ds:List PyData}:acA M (.d (.tuple ds)) (ds.map W.d)
 | m {a:Addr} {ws:List W} (h:M a=some (.lst ws)):acA M (.m a) ws
theorem acA.sound(g:acA M w ws)(r:aH K H w x)(m:cz K H M):∃ p ys,x=.ref p/\(SqL K H p ys\/SqT K H p ys)/\bj K H ws ys:=by
 cases g with
 | l =>
  simp only[aH,aA] at r;obtain⟨a,vs,e,hs,ra⟩:=r;exact⟨a,vs,e,.inl hs.sq,ra.ws⟩
 | t =>
  simp only[aH,aA] at r;obtain⟨a,vs,e,hs,ra⟩:=r;exact⟨a,vs,e,.inr hs,ra.ws⟩
 | m h =>
  obtain⟨vs,e,ra⟩:=m _ _ h;exact⟨_,vs,r,.inl (.inl (.inl e)),ra⟩
def iK(ws:List W)(M:MH)(Q:QD):Prop:=∃ w xs,ws=[w]/\acA M w xs/\∀ p,M p=none->Q (.m p) (bz M p (.lst xs))
theorem i9:fP K (λ xs H Q=>∃ p ys,xs=[.ref p]/\(SqL K H p ys\/SqT K H p ys)/\∀ l,H l=none->Q (.ref l) (upd H l (.lst ys))) iK:=by intro vs H ws M Qd Q r m ⟨w,xs,e,g,q⟩ k;subst e;obtain⟨v,e1,r1⟩:=gc r;obtain⟨p,ys,ev,hs,rs⟩:=g.sound r1 m;subst ev;refine⟨p,ys,e1,hs,λ l hl=>?_⟩;have kp:Kp H (upd H l (.lst ys)):=Kp.new hl;exact k _ _ (.m l) _ kp rfl (m.put (mo:=.lst xs) kp ⟨ys,ax,rs.keep kp⟩) (q l (m.free hl))
def eI(zs:List Str):List W:=zs.map λ z=>.d (.str z)
inductive wA(M:MH):W->Bool->Prop
 | n:wA M (.d .none) false
 | b {k:Bool}:wA M (.d (.bool k)) k
 | i {k:Int}:wA M (.d (.int k)) (k != 0)
 | s {z:Str} (h:z.length<=sizeLine):wA M (.d (.str z)) ((z.length:Int) != 0)
 | l {ds:List PyData}:wA M (.d (.list ds)) (!ds.isEmpty)
 | t {ds:List PyData}:wA M (.d (.tuple ds)) (!ds.isEmpty)
 | m {a:Addr} {ws:List W} (h:M a=some (.lst ws)):wA M (.m a) (!ws.isEmpty)
 | dk {a:Addr} {kvs:List (Key×W)} (h:M a=some (.dic kvs)):wA M (.m a) (!kvs.isEmpty)
theorem iM{α β:Type}{xs:List α}{ys:List β}(h:xs.length=ys.length):xs.isEmpty=ys.isEmpty:=by
 cases xs<;>cases ys<;>simp at h ⊢
theorem wA.sound{b:Bool}(g:wA M w b)(r:aH K H w x)(m:cz K H M):afX K x H b:=by
 cases g with
 | n=>simp only[aH,aA] at r;subst r;rfl
 | b=>simp only[aH,aA] at r;subst r;rfl
 | i=>simp only[aH,aA] at r;subst r;rfl
 | s h=>simp only[aH,aA] at r;subst r;exact⟨h,rfl⟩
 | l =>
  simp only[aH,aA] at r;obtain⟨a,vs,e,hs,ra⟩:=r;subst e;exact .inl ⟨vs,hs.sq,by rw[iM ra.length]⟩
 | t =>
  simp only[aH,aA] at r;obtain⟨a,vs,e,hs,ra⟩:=r;subst e;exact .inr (.inl ⟨vs,hs,by rw[iM ra.length]⟩)
 | m h =>
  obtain⟨vs,e,ra⟩:=m _ _ h;have r':x=.ref _:=r;subst r';exact .inl ⟨vs,.inl (.inl e),by rw[iM ra.length]⟩
 | dk h =>
  obtain⟨l,e,pr⟩:=m _ _ h;have r':x=.ref _:=r;subst r';exact .inr (.inr ⟨l,e,by rw[iM (tF pr)]⟩)
def aeW(ta:TD)(τ:DS)(M:MH)(Q:Bool->MH->Prop):Prop:=ta τ M λ w M1=>∃ b,wA M1 w b/\Q b M1
theorem vO(ha:PD X a ta)(he:∀ whole:Sem Value,PySem.isTrue a X.env whole=(do let v <- whole;standAt a.pos;holding [v] (truthy v)):=by intro _;rfl):PTd X a (aeW ta):=
 acr (zA ha he) λ σ H Q h=>by obtain⟨τ,M,Qd,A,h,k⟩:=h;exact⟨τ,M,_,A,h,λ v H' w M' kp r m ⟨b,g,q⟩=>⟨b,g.sound r m,k b H' M' kp m q⟩⟩
def v3(ws:List W)(M:MH)(Q:QD):Prop:=∃ i j,ws=[.d (.int i),.d (.int j)]/\Q (.d (.int (if j > i then j else i))) M
theorem xC:fP K (λ xs H Q=>∃ i j,xs=[V.int i,V.int j]/\Q (V.int (if j > i then j else i)) H) v3:=by intro vs H ws M Qd Q r m ⟨i,j,e,q⟩ k;subst e;obtain⟨v,v',e1,r1,r2⟩:=sv r;simp only[aH,aA] at r1 r2;subst r1 r2;exact⟨i,j,e1,k _ H (.d (.int _)) M (Kp.refl H) (by simp[aH,aA]) m q⟩
end
section
variable {X:Cx}{K:FG}
inductive ae4(M:MH):W->List PyData->Prop
 | d {ds:List PyData}:ae4 M (.d (.list ds)) ds
 | m {a:Addr} {ds:List PyData} (h:M a=some (.lst (ds.map W.d))):ae4 M (.m a) ds
theorem ae4.sound(g:ae4 M w ds)(r:aH K H w x)(m:cz K H M):∃ p ys,x=.ref p/\SqL K H p ys/\bA K H ds ys:=by
 cases g with
 | d =>
  simp only[aH,aA] at r;obtain⟨a,vs,e,hs,ra⟩:=r;exact⟨a,vs,e,hs.sq,ra⟩
 | m h =>
  obtain⟨vs,e,ra⟩:=m _ _ h;exact⟨_,vs,r,.inl (.inl e),ra.data⟩
end
abbrev aeV:=List W->DS->MH->(DS->MH->Prop)->Prop
def agW(K:FG)(g:aeV):TGs:=λ vs σ H Q=>∃ ws τ M Qd,bj K H ws vs/\Abs K H σ τ M/\g ws τ M Qd/\∀ σ' H' τ' M',Kp H H'->Abs K H' σ' τ' M'->Qd τ' M'->Q σ' H'
abbrev acg(X:Cx)(es:List Expr)(g:aeV):Prop:=PGs X es (agW X.K g)
theorem aeG(h:PGs X es g)(k:∀ v σ H Q,g' v σ H Q->g v σ H Q):PGs X es g':=λ pins s σ H v u Q I r q=>h pins s σ H v u Q I r (k v σ H Q q)
def n9(ws:List W)(τ:DS)(M:MH)(Q:DS->MH->Prop):Prop:=ws=[]/\Q τ M
def cA(g:TGd)(gs:aeV)(ws:List W)(τ:DS)(M:MH)(Q:DS->MH->Prop):Prop:=∃ w r,ws=w::r/\g w τ M λ τ' M'=>gs r τ' M' Q
theorem wx(h1:PGd X e g)(h2:acg X es gs)(hs:(assignEach (e::es) X.env).map (·.2)=assign e X.env::(assignEach es X.env).map (·.2):=by rfl):acg X (e::es) (cA g gs):=
 aeG (yL h1 h2 hs) λ vs σ H Q hq66=>by
  obtain⟨ws,τ,M,Qd,r,A,⟨w,wr,ew,q⟩,k⟩:=hq66;subst ew;cases r with
  | cons r1 r2 =>
   refine⟨_,_,rfl,w,τ,M,_,r1,A,q,λ σ1 H1 τ1 M1 kp1 A1 q1=>?_⟩;exact⟨wr,τ1,M1,Qd,bj.keep kp1 r2,A1,q1,λ σ2 H2 τ2 M2 kp2 A2 q2=>k σ2 H2 τ2 M2 (kp1.trans kp2) A2 q2⟩
def gT(n:Nat)(gs:aeV)(w:W)(τ:DS)(M:MH)(Q:DS->MH->Prop):Prop:=∃ ds,w=.d (.tuple ds)/\ds.length=n/\gs (ds.map W.d) τ M Q
theorem aak(hc:X.calm=true)(h:acg X es gs)(hn:(assignEach es X.env).length=n:=by rfl)(hst:(assignEach es X.env).findIdx? (·.1)=none:=by rfl):PGd X (.Tuple es k pos) (gT n gs):=
 aga (ac2 hc h hn hst) λ v σ H Q hq67=>by obtain⟨w,τ,M,Qd,r,A,⟨ds,ew,hl,q⟩,kk⟩:=hq67;subst ew;simp only[aH,aA] at r;obtain⟨a,vs,ev,hs,ra⟩:=r;exact⟨a,vs,ev,hs,by rw[ra.length];exact hl,ds.map W.d,τ,M,Qd,ra.ws,A,q,kk⟩
def afx(i j:Nat)(t:TAd)(D:Ed)(τ:DS)(M:MH):Prop:=t τ M λ ws M1=>∃ v w,ws=[v,w]/\D.nx ((τ.set i (some v)).set j (some w)) M1
theorem abE{kt k2 pt2}(hc:X.calm=true)(hN:X.N.Nodup)(hi:X.N[i]? =some x)(hj:X.N[j]? =some y)(hij:i≠j)
  (hx:X.env.scope.names.lookup x=some .local)(hy:X.env.scope.names.lookup y=some .local)(ha:PAd X [a,b] t)
  (hw:swappedStores [.Tuple [.Name x px,.Name y py] kt pt] (.Tuple [a,b] k2 pt2) X.env=pure (some [x,y]):=by rfl)
  (hs:swapsWithSole [.Tuple [.Name x px,.Name y py] kt pt] (.Tuple [a,b] k2 pt2) pos.line X.env=pure false:=by rfl) :
  PSd X (.Assign [.Tuple [.Name x px,.Name y py] kt pt] (.Tuple [a,b] k2 pt2) pos) (afx i j t):=tQ (acN hc hN hi hj hij hx hy ha hw hs) λ D σ H h=>by
 obtain⟨τ,M,Dd,A,h,k1,_⟩:=h;refine⟨τ,M,_,A,h,λ vs H1 ws M1 kp1 r1 m1 hq68=>?_⟩;obtain⟨v,w,ew,q⟩:=hq68;subst ew;obtain⟨u1,u2,e1,r2,r3⟩:=sv r1;exact⟨u1,u2,e1,k1 _ H1 _ M1 kp1 (((A.go kp1 m1).set i r2).set j r3) q⟩
def sy(trs:List (TD×TD))(τ:DS)(M:MH)(Q:QD):Prop:=∀ p,M p=none->vh trs τ (bz M p (.dic [])) λ ps M2=>M2 p=some (.dic [])/\∃ kvs:List (Key×W),ps=kvs.map (λ q=>(kW q.1,q.2))/\kvs.length<=15/\(kvs.map (·.1)).Nodup /\
 Q (.m p) (bz M2 p (.dic kvs))
theorem m8{K:FG}{H:Hp}:∀ {kvs:List (Key×W)} {ps:List (V×V)},Paired (λ(p:W×W) (q:V×V)=>aH K H p.1 q.1/\aH K H p.2 q.2) (kvs.map λ q=>(kW q.1,q.2)) ps ->
  ∃ l:List (Key×V),ps=l.map (λ kv=>(kV kv.1,kv.2))/\l.map (·.1)=kvs.map (·.1)/\Paired (λ(p:Key×W) (q:Key×V)=>p.1=q.1/\aH K H p.2 q.2) kvs l
 | [],ps,h=>by cases h;exact⟨[],rfl,rfl,.nil⟩
 | (k,d)::kvs,ps,h=>by
  cases h with
  | cons r t =>
   rename_i q qs
   obtain⟨x,y⟩:=q;obtain⟨l,e1,e2,e3⟩:=m8 t;refine⟨(k,y)::l,?_,by simp[e2],.cons ⟨rfl,r.2⟩ e3⟩;rw[List.map_cons,<- e1,<- jP r.1]
theorem zf(h:PPs X pos keys values (trs.map λ p=>(up X.K p.1,up X.K p.2)))(hall:keys.all (·.isSome)=true:=by rfl)(hl:keys.length=values.length:=by rfl)(h0:keys≠[]:=by simp)
  (h15:keys.length<=15:=by decide):PD X (.Dict keys values pos) (sy trs):=iH (aaV h hall hl h0 h15) λ σ H Q ⟨τ,M,Qd,A,q,k⟩=>λ p hp=>by
 have kp0:Kp H (upd H p (.dK [])):=Kp.new hp;have m0:cz X.K (upd H p (.dK [])) (bz M p (.dic [])):=A.mem.put (mo:=.dic []) kp0 ⟨[],ax,.nil⟩;have hM:=A.mem.free hp;refine qF (A.go kp0 m0) (q p hM) λ ps H2 ws M2 kp2 r2 m2 hq69=>?_;obtain⟨eM,kvs,ews,hlen,hnd,qq⟩:=hq69;subst ews;obtain⟨l0,e0,pr0⟩:=m2 p _ eM;have el0:l0=[]:=by cases pr0;rfl
 subst el0;obtain⟨l,e1,e2,e3⟩:=m8 r2;have elen:l.length=kvs.length:=by
  have:=congrArg List.length e2
  simpa using this
 refine⟨e0,l,e1,by omega,?_⟩;have em:iQ [] l=l:=by rw[nv (by simpa [e2] using hnd)];rfl
 rw[em];have kp3:Kp H2 (upd H2 p (.dK l)):=Kp.set e0 (λ xs z=>nomatch z) λ _ _ z=>nomatch z;exact k _ _ (.m p) _ ((kp0.trans kp2).trans kp3) rfl (m2.put (mo:=.dic kvs) kp3 ⟨l,ax,Paired.j6 e3 λ p q z=>⟨z.1,z.2.keep kp3⟩⟩) qq
structure Mf(K:FG)(C:Addr)(x qual:Str)(st:Stmt)(ps:List Str)(f:Addr)(fd:FuncData):Prop where
 fn:Fun K x qual st f fd
 me:Meth K C x f
 bd:Binds K fd ps []
structure Mi(K:FG)(C:Addr)(qual:Str)(st:Stmt)(ps:List Str)(f:Addr)(fd:FuncData):Prop where
 fn:Fun K "__init__" qual st f fd
 mi:Mk K C f
 bd:Binds K fd ps []
section
variable {K:FG}{C:Addr}
theorem tR{x qual:Str}{st:Stmt}{ps:List Str}{oc:Value}{od an:Option Addr}{osl:Array (Option Value)}{kV doc pm cdv ct:Value}(a:W.findIn K (.ref C) x=some (some (.ref f)))(i:W.isFn K (.ref f)=true)
  (l:K.lookup f=some ⟨oc,od,.func (W.fnOf x qual (aE st) (aD st) (ag st) .none kV doc pm an cdv ct),osl⟩)(c:W.codeIn K cdv qual=true)(k:W.keepIn K (.ref f)=true)
  (b:∀ (kV doc pm:Value) (an:Option Addr) (cdv ct:Value) (us:List Value),us.length=ps.length->bindArgs (W.fnOf x qual (aE st) (aD st) (ag st) .none kV doc pm an cdv ct) ⟨us,[]⟩=pure (ps.zip us)) :
  Mf K C x qual st ps f (W.fnOf x qual (aE st) (aD st) (ag st) .none kV doc pm an cdv ct):=
 have F:=qp (st:=st) l c k
 ⟨F,⟨a,i,k⟩,F.binds b⟩
theorem afD{qual:Str}{st:Stmt}{ps:List Str}{oc:Value}{od an:Option Addr}{osl:Array (Option Value)}{kV doc pm cdv ct:Value}(a:W.findIn K (.ref C) "__init__" = some (some (.ref f)))(i:W.isFn K (.ref f)=true)
  (l:K.lookup f=some ⟨oc,od,.func (W.fnOf "__init__" qual (aE st) (aD st) (ag st) .none kV doc pm an cdv ct),osl⟩)(c:W.codeIn K cdv qual=true)(k:W.keepIn K (.ref f)=true)
  (mk:W.makesIn K C=true)(kc:W.keepIn K (.ref C)=true)
  (b:∀ (kV doc pm:Value) (an:Option Addr) (cdv ct:Value) (us:List Value),us.length=ps.length->bindArgs (W.fnOf "__init__" qual (aE st) (aD st) (ag st) .none kV doc pm an cdv ct) ⟨us,[]⟩=pure (ps.zip us)) :
  Mi K C qual st ps f (W.fnOf "__init__" qual (aE st) (aD st) (ag st) .none kV doc pm an cdv ct):=
 have F:=qp (st:=st) l c k
 ⟨F,⟨mk,a,i,kc⟩,F.binds b⟩
end
theorem pcT(hc:dZ X (.type T) r)(hd:fP X.K r rd)(hg:Gl X x)(hm:X.mg x=none)(hv:bootBuiltins x=some (.type T))(ha:PAd X (e::es) t)(hn:x ≠ "__name__":= by decide)(hdb:ND x:=by decide)
  (h1:dQ e=false:=by rfl)(h2:(es.all λ e=>!dQ e)=true:=by rfl):PD X (.Call (.Name x p) (e::es) [] pos) (dCB rd t):=qb hc hd hg hm hv ha hn hdb (bN e es X.env h1) (cf pos X.env es h2)
theorem aad:bootBuiltins "max" = some (.builtin "max"):=by decide +kernel
theorem mX  : Jd (PD X (.Dict [] [] pos) rq):=⟨iH yf λ σ H Q ⟨τ,M,Qd,A,h,k⟩ p hp =>
 k (.ref p) _ (.m p) (bz M p (.dic [])) (Kp.new hp) rfl (A.mem.put (mo:=.dic []) (Kp.new hp) ⟨[],ax,.nil⟩) (h p (A.mem.free hp))⟩
theorem rD(hu:X.A.units+1<cLine)(hi:Jd (PD X i ti))(ho:Jd (PD X o td))(hm:behindInMarks .NotIn o=false:=by rfl):Jd (PTd X (.Compare i [.NotIn] [o] pos) (a9 (nX ti td))):=⟨D.ue (hu:=hu) (hi:=hi.h) (ho:=ho.h) (hm:=hm)⟩
theorem bB(hu:X.A.units+1<cLine)(ho:Jd (PD X o td))(hi:Jd (PD X i ti))(hs:y0 i:=by exact λ _ _=>rfl):Jd (PD X (.Subscript o i pos) (eW td ti)):=⟨D.ab7 (hu:=hu) (ho:=ho.h) (hi:=hi.h) (hs:=hs)⟩
theorem fA(hu:X.A.units+1<cLine)(ho:Jd (PD X o td))(hi:Jd (PD X i ti))(hv:Jd (PD X value tv))(hs:swapsWith value (some (.Subscript o i pos')) pos.line X.env=pure false:=by rfl):Jd (PSd X (.Assign [.Subscript o i pos'] value pos) (pI td ti tv)):=⟨D.y9 (hu:=hu) (ho:=ho.h) (hi:=hi.h) (hv:=hv.h) (hs:=hs)⟩
theorem cK(c:Cls X.K C)(n:cx X.K C fn)(he:Jd (PD X e td))(hb:attributeBase e fn X.env (eval e X.env)=eval e X.env:=by rfl):Jd (PD X (.Attribute e fn pos) (nH C td fn)):=⟨D.aeq (c:=c) (n:=n) (he:=he.h) (hb:=hb)⟩
theorem fM(c:Cls X.K C)(n:cx X.K C fn)(ha:Jd (PD X o td))(hv:Jd (PD X value tv))(hs:swapsWith value (some (.Attribute o fn pos')) pos.line X.env=pure false:=by rfl):Jd (PSd X (.Assign [.Attribute o fn pos'] value pos) (fX C td tv fn)):=⟨D.abp (c:=c) (n:=n) (ha:=ha.h) (hv:=hv.h) (hs:=hs)⟩
theorem kB(he:Jd (PD X o td))(c:Cls X.K C)(hm:Meth X.K C m f)(F:bH X.prog X.w X.K X.mg X.base CX0 k f fd ps (dH X.K sp))(hr:dN k X.A)(hb:Binds X.K fd ps [])(ha:Jd (PAd X (e::es) t))(ht:eval (.Call (.Attribute o m apos) (e::es) [] pos) X.env=(do
   let ov <- eval o X.env
   standAt apos.atName
   let (f,first) <- holding [ov] (getMethod ov m pl)
   callWith pos f first (backTo pos (starEach (e::es) X.env)) (backToKw pos (keywordEach [] X.env))):=by rfl)(h1:dQ e=false:=by rfl)(h2:(es.all λ e=>!dQ e)=true:=by rfl):Jd (PD X (.Call (.Attribute o m apos) (e::es) [] pos) (jN C m sp td t)):=⟨D.abo (he:=he.h) (c:=c) (hm:=hm) (F:=F) (hr:=hr) (hb:=hb) (ha:=ha.h) (ht:=ht) (h1:=h1) (h2:=h2)⟩
theorem lF(he:Jd (PD X o td))(c:Cls X.K C)(hm:Meth X.K C m f)(F:bH X.prog X.w X.K X.mg X.base CX0 k f fd ps (dH X.K sp))(hr:dN k X.A)(hb:Binds X.K fd ps [])(ht:eval (.Call (.Attribute o m apos) [] [] pos) X.env=(do
   let ov <- eval o X.env
   standAt apos.atName
   let (f,first) <- holding [ov] (getMethod ov m pl)
   callWith pos f first (backTo pos (starEach [] X.env)) (backToKw pos (keywordEach [] X.env))):=by rfl):Jd (PD X (.Call (.Attribute o m apos) [] [] pos) (jN C m sp td aW)):=⟨D.xW (he:=he.h) (c:=c) (hm:=hm) (F:=F) (hr:=hr) (hb:=hb) (ht:=ht)⟩
theorem ye(h:Jd (PD X e td)):Jd (PD X e (aaN td)):=⟨D.ach (h:=h.h)⟩
theorem gZ(ho:Jd (PD X o td))(he:Jd (PD X e te))(hbase:attributeBase o "append" X.env (eval o X.env)=eval o X.env:=by rfl)(hfew:((backTo cpos (starEach [e] X.env)).all (λ x=>!x.1)&&(backToKw cpos (keywordEach [] X.env)).all (λ x=>x.1.isSome)
   && decide (([e]:List Expr).length+([]:List Keyword).length+(if ([]:List Keyword).isEmpty then 0 else 1)<30))=true:=by rfl)(hline:(apos.endLine==cpos.line)=true:=by rfl)(hs:dQ e=false:=by rfl):Jd (PD X (.Call (.Attribute o "append" apos) [e] [] cpos) (ix td te)):=⟨D.xk (ho:=ho.h) (he:=he.h) (hbase:=hbase) (hfew:=hfew) (hline:=hline) (hs:=hs)⟩
theorem nD(ha:Jd (PD X a ta))(he:∀ whole:Sem Value,PySem.isTrue a X.env whole=(do let v <- whole;standAt a.pos;holding [v] (truthy v)):=by intro _;rfl):Jd (PTd X a (aeW ta)):=⟨D.vO (ha:=ha.h) (he:=he)⟩
theorem eA  : Jd (acg X [] n9):=⟨aeG aaZ λ vs σ H Q hq65=>by obtain⟨ws,τ,M,Qd,r,A,⟨e,q⟩,k⟩:=hq65;subst e;cases r;exact⟨rfl,k σ H τ M (Kp.refl H) A q⟩⟩
theorem aO(h1:Jd (PGd X e g))(h2:Jd (acg X es gs))(hs:(assignEach (e::es) X.env).map (·.2)=assign e X.env::(assignEach es X.env).map (·.2):=by rfl):Jd (acg X (e::es) (cA g gs)):=⟨D.wx (h1:=h1.h) (h2:=h2.h) (hs:=hs)⟩
theorem fo(hc:X.calm=true)(h:Jd (acg X es gs))(hn:(assignEach es X.env).length=n:=by rfl)(hst:(assignEach es X.env).findIdx? (·.1)=none:=by rfl):Jd (PGd X (.Tuple es k pos) (gT n gs)):=⟨D.aak (hc:=hc) (h:=h.h) (hn:=hn) (hst:=hst)⟩
theorem yY{kt k2 pt2}(hc:X.calm=true)(hN:X.N.Nodup)(hi:X.N[i]? =some x)(hj:X.N[j]? =some y)(hij:i≠j)(hx:X.env.scope.names.lookup x=some .local)(hy:X.env.scope.names.lookup y=some .local)(ha:Jd (PAd X [a,b] t))(hw:swappedStores [.Tuple [.Name x px,.Name y py] kt pt] (.Tuple [a,b] k2 pt2) X.env=pure (some [x,y]):=by rfl)(hs:swapsWithSole [.Tuple [.Name x px,.Name y py] kt pt] (.Tuple [a,b] k2 pt2) pos.line X.env=pure false:=by rfl):Jd (PSd X (.Assign [.Tuple [.Name x px,.Name y py] kt pt] (.Tuple [a,b] k2 pt2) pos) (afx i j t)):=⟨D.abE (hc:=hc) (hN:=hN) (hi:=hi) (hj:=hj) (hij:=hij) (hx:=hx) (hy:=hy) (ha:=ha.h) (hw:=hw) (hs:=hs)⟩
theorem pR(h:Jd (PPs X pos keys values (trs.map (pm X.K))))(hall:keys.all (·.isSome)=true:=by rfl)(hl:keys.length=values.length:=by rfl)(h0:keys≠[]:=by simp)(h15:keys.length<=15:=by decide):Jd (PD X (.Dict keys values pos) (sy trs)):=⟨D.zf (h:=h.h) (hall:=hall) (hl:=hl) (h0:=h0) (h15:=h15)⟩
theorem ab1(hc:dZ X (.type T) r)(hd:fP X.K r rd)(hg:Gl X x)(hm:X.mg x=none)(hv:bootBuiltins x=some (.type T))(ha:Jd (PAd X (e::es) t))(hn:x ≠ "__name__":= by decide)(hdb:ND x:=by decide)(h1:dQ e=false:=by rfl)(h2:(es.all λ e=>!dQ e)=true:=by rfl):Jd (PD X (.Call (.Name x p) (e::es) [] pos) (dCB rd t)):=⟨D.pcT (hc:=hc) (hd:=hd) (hg:=hg) (hm:=hm) (hv:=hv) (ha:=ha.h) (hn:=hn) (hdb:=hdb) (h1:=h1) (h2:=h2)⟩
@[simp] theorem aeb (i j:Int):gb (.int i) (.int j)=true:=rfl
@[simp] theorem acL (x y:Str):gb (.str x) (.str y)=true:=rfl
@[simp] theorem acy (x y:Bool):gb (.bool x) (.bool y)=true:=rfl
@[simp] theorem afz (i j:Int):PyData.eqv (.int i) (.int j)=(i==j):=by rw[PyData.eqv]
@[simp] theorem ae7 (i j:Str):PyData.eqv (.str i) (.str j)=(i==j):=by rw[PyData.eqv]
@[simp] theorem agL (a:Addr):zW (.m a)=true:=rfl
@[simp] theorem adK (ds:List PyData):zW (.d (.list ds))=true:=rfl
@[simp] theorem acx (ds:List PyData):zW (.d (.tuple ds))=true:=rfl
@[simp] theorem aeX (n:Nat):ixN (n+1) 0=some 0:=by unfold ixN;simp
theorem aeu{α:Type}{xs:List α}{i:Int}(h0:0<=i)(h1:i<xs.length):atI xs i=some (xs[i.toNat]'(by omega)):=by
 unfold atI ixN;rw[if_pos h0,if_pos h1];simp
inductive Bag(M:MH) (p:Addr):Prop
 | mk (a b c:Int) (ns:List Int) (e:M p=some (.lst [.d (.int a),.d (.int b),.d (.int c),.d (.list (ns.map PyData.int))])) (z:0<=a/\0<=b/\b<2147483647/\0<=c/\(∀ n∈ns,0<=n)):Bag M p
def ft:SpD:=λ ws M Q=>∃ ns:List Int,ws=[.d (.list (ns.map PyData.int))]/\ns.length<=1000/\∀ p M',M p=none->(∀ q,q≠p->M' q=M q)->Bag M' p->Q (.m p) M'
inductive oZ(ws:List W) (M:MH) (Q:QD):Prop
 | mk (p:Addr) (n:Int) (z0:ws=[.m p,.d (.int n)]) (z1:Bag M p) (z2:0<n) (z3:n<1073741824) (z4:∀ (r:Int) M',0<=r->r<n->Bag M' p->(∀ q,q≠p->M' q=M q)->Q (.d (.int r)) M'):oZ ws M Q
def bp:SpD:=oZ
theorem wC:∀ ws M Q,ft ws M Q->ws.length=1:=by rintro ws M Q ⟨ns,rfl,_⟩;rfl
theorem uJ:∀ ws M Q,bp ws M Q->ws.length=2:=by rintro ws M Q ⟨p,n,rfl,_⟩;rfl
theorem aaF(hm:M p=some (.lst ws))(h:atI ws i=some x):ixW M (.m p) i=some x:=by simp only[ixW,hm];exact h
theorem oI{c:Bool}{A B:Prop}(h1:c=true->A)(h2:c=false->B):if c=true then A else B:=by
 cases c with
 | true=>rw[if_pos rfl];exact h1 rfl
 | false=>rw[if_neg Bool.false_ne_true];exact h2 rfl
abbrev xF:List Str:=["_law_script"]
def uZ:TSd:=
  eK (mL (ai (dC (.d (.int 0))) (ai (dC (.d (.int 1234567891))) (ai (dC (.d (.int 0))) (ai (dLC (i7 (dSl (ao 0) (fU) (mD (dC (.d (.int 63)))))) (gN 0) (abz) (dCB adG (ai (ao 0) (aW))) 1 []) (aW))))))
abbrev tJ:List Str:=["_law_bag_here", "_law_many", "_law_cell", "_law_value", "_law_first", "_law_second"]
def su:TSd:=
  bI (dIf (a9 (dOp agN (dOp dm (ao 0) (dC (.d (.int 0)))) (dC (.d (.int 0)))))
   (bI (dW (dC (.d (.int 0))) (gN 2)) <|
   bI (dIf (a9 (dOp aeT (dOp dm (ao 0) (dC (.d (.int 2)))) (dCB l9 (ai (dOp dm (ao 0) (dC (.d (.int 3)))) (aW)))))
    (dW (dOp dm (dOp dm (ao 0) (dC (.d (.int 3)))) (dOp dm (ao 0) (dC (.d (.int 2))))) (gN 2))
    (bX)) <|
   bI (xP (ao 0) (dC (.d (.int 2))) (dC (.d (.int 1))) (λ i j=>i+j)) <|
   bI (dIf (a9 (dOp acw (ao 2) (dC (.d (.int 1000000000000000000)))))
    (dW (ao 2) (uO (ao 0) (dC (.d (.int 0)))))
    (bX)) <|
   dW (dOp fN (dOp gg (dOp gg (dOp iE (dOp dm (ao 0) (dC (.d (.int 1)))) (dC (.d (.int 48271)))) (dOp fN (ao 2) (dC (.d (.int 2147483647))))) (dOp iE (dC (.d (.int 7919))) (dOp dm (ao 0) (dC (.d (.int 2)))))) (dC (.d (.int 2147483647)))) (uO (ao 0) (dC (.d (.int 1)))))
   (bX)) <|
  bI (dIf (a9 (dOp acv (dOp dm (ao 0) (dC (.d (.int 0)))) (dC (.d (.int 0)))))
   (bI (dW (dOp fN (dOp dm (ao 0) (dC (.d (.int 0)))) (ao 1)) (gN 3)) <|
   bI (dW (dOp wZ (dOp dm (ao 0) (dC (.d (.int 0)))) (ao 1)) (uO (ao 0) (dC (.d (.int 0))))) <|
   eK (ao 3))
   (bX)) <|
  bI (dW (dOp fN (dOp iE (dOp gg (dOp dm (ao 0) (dC (.d (.int 1)))) (dC (.d (.int 1)))) (dC (.d (.int 39373)))) (dC (.d (.int 1000000007)))) (gN 4)) <|
  bI (dW (dOp fN (dOp iE (dOp fN (dOp iE (ao 4) (ao 4)) (dC (.d (.int 998244353)))) (dC (.d (.int 30011)))) (dC (.d (.int 998244353)))) (gN 5)) <|
  bI (dIf (a9 (dOp acv (ao 1) (dC (.d (.int 1000000)))))
   (eK (dOp fN (dOp gg (dOp iE (ao 5) (dC (.d (.int 1000000007)))) (ao 4)) (ao 1)))
   (bX)) <|
  eK (dOp fN (dOp wZ (ao 5) (dC (.d (.int 7)))) (ao 1))
abbrev yq(a b c:Int)(ns:List Int):List W:=[.d (.int a),.d (.int b),.d (.int c),.d (.list (ns.map PyData.int))]
theorem jx(hm:M p=some (.lst (yq a b c ns)))(ha:0<=a)(hb:0<=b)(hb2:b<2147483647)(hc:0<=c)(hns:∀ n∈ns,0<=n)(hn:0<n)(hn2:n<1073741824)
  (k:∀ (r:Int) M',0<=r->r<n->Bag M' p->(∀ q,q≠p->M' q=M q)->Q (.d (.int r)) M')(hD:D.rt=Q) :
  (bI (dIf (a9 (dOp acv (dOp dm (ao 0) (dC (.d (.int 0)))) (dC (.d (.int 0)))))
   (bI (dW (dOp fN (dOp dm (ao 0) (dC (.d (.int 0)))) (ao 1)) (gN 3)) <|
   bI (dW (dOp wZ (dOp dm (ao 0) (dC (.d (.int 0)))) (ao 1)) (uO (ao 0) (dC (.d (.int 0))))) <|
   eK (ao 3))
   (bX)) <|
  bI (dW (dOp fN (dOp iE (dOp gg (dOp dm (ao 0) (dC (.d (.int 1)))) (dC (.d (.int 1)))) (dC (.d (.int 39373)))) (dC (.d (.int 1000000007)))) (gN 4)) <|
  bI (dW (dOp fN (dOp iE (dOp fN (dOp iE (ao 4) (ao 4)) (dC (.d (.int 998244353)))) (dC (.d (.int 30011)))) (dC (.d (.int 998244353)))) (gN 5)) <|
  bI (dIf (a9 (dOp acv (ao 1) (dC (.d (.int 1000000)))))
   (eK (dOp fN (dOp gg (dOp iE (ao 5) (dC (.d (.int 1000000007)))) (ao 4)) (ao 1)))
   (bX)) <|
  eK (dOp fN (dOp wZ (ao 5) (dC (.d (.int 7)))) (ao 1))) D [some (.m p),some (.d (.int n)),x,none,none,none] M:=by
 subst hD;have i0:ixW M (.m p) 0=some (.d (.int a)):=aaF hm rfl;have i1:ixW M (.m p) 1=some (.d (.int b)):=aaF hm rfl;have same:Bag M p:=⟨a,b,c,ns,hm,ha,hb,hb2,hc,hns⟩;refine⟨_,rfl,_,_,rfl,i0,rfl,_,_,rfl,rfl,_,rfl,?_⟩;refine oI (λ h=>?_) (λ h=>?_)
 ·have h0:0<a:=of_decide_eq_true h;refine⟨_,rfl,_,_,rfl,i0,rfl,_,rfl,_,_,rfl,rfl,hn,?_⟩;refine⟨_,rfl,_,_,rfl,i0,rfl,_,rfl,_,_,rfl,rfl,⟨hn,hn2⟩,?_⟩;refine⟨_,rfl,_,_,_,_,rfl,rfl,hm,rfl,?_⟩;refine⟨_,rfl,?_⟩;refine k _ _ (Int.emod_nonneg _ (by omega)) (Int.emod_lt_of_pos _ hn) ⟨a / n,b,c,ns,ak,Int.ediv_nonneg ha (by omega),hb,hb2,hc,hns⟩ λ q hq=>aq hq
 ·refine⟨_,rfl,_,_,rfl,i1,rfl,.inl ?_⟩;refine⟨_,_,rfl,rfl,_,_,rfl,rfl,.inl ⟨by omega,by omega⟩,_,_,rfl,rfl,(by decide:(0:Int)<1000000007),?_⟩;have f0:0<=(b+1) * 39373 % 1000000007:=Int.emod_nonneg _ (by decide);have f1:(b+1) * 39373 % 1000000007<1000000007:=Int.emod_lt_of_pos _ (by decide);refine⟨_,rfl,_,rfl,_,_,rfl,rfl,.inl ⟨by omega,by omega⟩,_,_,rfl,rfl,(by decide:(0:Int)<998244353),?_⟩;have g0:0<=(b+1) * 39373 % 1000000007 * ((b+1) * 39373 % 1000000007) % 998244353:=Int.emod_nonneg _ (by decide);have g1:(b+1) * 39373 % 1000000007 * ((b+1) * 39373 % 1000000007) % 998244353<998244353:=Int.emod_lt_of_pos _ (by decide);refine⟨_,_,rfl,rfl,.inl ⟨by omega,by omega⟩,_,_,rfl,rfl,(by decide:(0:Int)<998244353),?_⟩;have e0:0<=(b+1) * 39373 % 1000000007 * ((b+1) * 39373 % 1000000007) % 998244353 * 30011 % 998244353:=Int.emod_nonneg _ (by decide);have e1:(b+1) * 39373 % 1000000007 * ((b+1) * 39373 % 1000000007) % 998244353 * 30011 % 998244353<998244353:=Int.emod_lt_of_pos _ (by decide);refine⟨_,rfl,_,_,rfl,rfl,_,rfl,?_⟩;refine oI (λ h=>?_) (λ h=>?_)
  ·refine⟨_,rfl,_,_,rfl,rfl,.inl ⟨by omega,by omega⟩,_,rfl,.inl ⟨_,_,rfl,rfl,_,rfl,_,_,rfl,rfl,hn,?_⟩⟩;exact k _ _ (Int.emod_nonneg _ (by omega)) (Int.emod_lt_of_pos _ hn) same λ q _=>rfl
  ·refine⟨_,rfl,_,_,rfl,rfl,⟨by decide,by decide⟩,_,rfl,_,_,rfl,rfl,hn,?_⟩;exact k _ _ (Int.emod_nonneg _ (by omega)) (Int.emod_lt_of_pos _ hn) same λ q _=>rfl
theorem mO(hm:M p=some (.lst (yq a b c ns)))(ha:0<=a)(hb:0<=b)(hb2:b<2147483647)(hc:0<=c)(hcell:0<=cell)
  (k:∀ a' b' c' M',0<=a'->0<=b'->b'<2147483647->0<=c'->M' p=some (.lst (yq a' b' c' ns))->(∀ q,q≠p->M' q=M q)->D.nx [some (.m p),some (.d (.int n)),some (.d (.int cell)),none,none,none] M') :
  (bI (xP (ao 0) (dC (.d (.int 2))) (dC (.d (.int 1))) (λ i j=>i+j)) <|
   bI (dIf (a9 (dOp acw (ao 2) (dC (.d (.int 1000000000000000000)))))
    (dW (ao 2) (uO (ao 0) (dC (.d (.int 0)))))
    (bX)) <|
   dW (dOp fN (dOp gg (dOp gg (dOp iE (dOp dm (ao 0) (dC (.d (.int 1)))) (dC (.d (.int 48271)))) (dOp fN (ao 2) (dC (.d (.int 2147483647))))) (dOp iE (dC (.d (.int 7919))) (dOp dm (ao 0) (dC (.d (.int 2)))))) (dC (.d (.int 2147483647)))) (uO (ao 0) (dC (.d (.int 1)))))
   D [some (.m p),some (.d (.int n)),some (.d (.int cell)),none,none,none] M:=by
 refine⟨_,rfl,_,_,_,_,_,rfl,rfl,hm,rfl,rfl,_,rfl,rfl,?_⟩;have m1:bz M p (.lst (yq a b (c+1) ns)) p=some (.lst (yq a b (c+1) ns)):=ak;have f1:∀ q,q≠p->bz M p (.lst (yq a b (c+1) ns)) q=M q:=λ q hq=>aq hq;show(bI _ _) D _ (bz M p (.lst (yq a b (c+1) ns)));generalize bz M p (.lst (yq a b (c+1) ns))=M1 at m1 f1;have fin:∀ (a':Int) (M2:MH),0<=a'->M2 p=some (.lst (yq a' b (c+1) ns))->(∀ q,q≠p->M2 q=M q) ->
   dW (dOp fN (dOp gg (dOp gg (dOp iE (dOp dm (ao 0) (dC (.d (.int 1)))) (dC (.d (.int 48271)))) (dOp fN (ao 2) (dC (.d (.int 2147483647))))) (dOp iE (dC (.d (.int 7919))) (dOp dm (ao 0) (dC (.d (.int 2)))))) (dC (.d (.int 2147483647)))) (uO (ao 0) (dC (.d (.int 1)))) D [some (.m p),some (.d (.int n)),some (.d (.int cell)),none,none,none] M2:=by
  intro a' M2 ha' m2 f2;have i1:ixW M2 (.m p) 1=some (.d (.int b)):=aaF m2 rfl;have i2:ixW M2 (.m p) 2=some (.d (.int (c+1))):=aaF m2 rfl;refine⟨_,rfl,_,_,rfl,i1,rfl,_,_,rfl,rfl,.inl ⟨by omega,by omega⟩,_,rfl,_,_,rfl,rfl,(by decide:(0:Int)<2147483647),.inl ?_⟩;refine⟨_,_,rfl,rfl,_,rfl,_,_,rfl,i2,rfl,_,_,rfl,rfl,.inl ⟨by decide,by decide⟩,.inl ?_⟩;refine⟨_,_,rfl,rfl,_,_,rfl,rfl,(by decide:(0:Int)<2147483647),_,rfl,_,_,_,_,rfl,rfl,m2,rfl,?_⟩;exact k a' _ (c+1) _ ha' (Int.emod_nonneg _ (by decide)) (Int.emod_lt_of_pos _ (by decide)) (by omega) ak λ q hq=>(aq hq).trans (f2 q hq)
 refine⟨_,rfl,_,_,rfl,rfl,_,rfl,?_⟩;refine oI (λ h=>?_) (λ h=>?_)
 ·refine⟨_,rfl,_,rfl,_,_,_,_,rfl,rfl,m1,rfl,?_⟩;exact fin cell _ hcell ak λ q hq=>(aq hq).trans (f1 q hq)
 ·exact fin a M1 ha m1 f1
theorem rm:∀ ws M Q,bp ws M Q->su {nx:=λ _ M'=>Q (.d .none) M',rt:=Q} (bh tJ ws) M:=by
 rintro ws M Q ⟨p,n,rfl,⟨a,b,c,ns,hm,ha,hb,hb2,hc,hns⟩,hn,hn2,k⟩;have i0:ixW M (.m p) 0=some (.d (.int a)):=aaF hm rfl;have i2:ixW M (.m p) 2=some (.d (.int c)):=aaF hm rfl;have i3:ixW M (.m p) 3=some (.d (.list (ns.map PyData.int))):=aaF hm rfl;refine⟨_,rfl,_,_,rfl,i0,rfl,_,_,rfl,rfl,rfl,_,rfl,?_⟩;refine oI (λ h=>?_) (λ h=>?_)
 ·refine⟨_,rfl,_,_,rfl,i2,rfl,_,rfl,_,_,rfl,i3,rfl,_,_,rfl,rfl,rfl,_,_,rfl,rfl,_,rfl,?_⟩;refine oI (λ h=>?_) (λ h=>?_)
  ·have hlt:c<((ns.map PyData.int).length:Nat):=of_decide_eq_true h;have hlt':c.toNat<ns.length:=by rw[List.length_map] at hlt;omega
   have ic:ixW M (.d (.list (ns.map PyData.int))) c=some (.d (.int (ns[c.toNat]'hlt'))):=by simp only[ixW];rw[aeu hc hlt];simp
   refine⟨_,rfl,_,_,rfl,i3,rfl,_,rfl,_,_,rfl,i2,rfl,_,_,rfl,ic,rfl,?_⟩;refine mO (cell:=ns[c.toNat]'hlt') hm ha hb hb2 hc (hns _ (List.getElem_mem _)) λ a' b' c' M' h1 h2 h3 h4 h5 h6=>?_;exact jx (x:=some (.d (.int (ns[c.toNat]'hlt')))) h5 h1 h2 h3 h4 hns hn hn2 (λ r M'' r0 r1 bg fr=>k r M'' r0 r1 bg λ q hq=>(fr q hq).trans (h6 q hq)) rfl
  ·refine mO (cell:=0) hm ha hb hb2 hc (Int.le_refl 0) λ a' b' c' M' h1 h2 h3 h4 h5 h6=>?_;exact jx (x:=some (.d (.int 0))) h5 h1 h2 h3 h4 hns hn hn2 (λ r M'' r0 r1 bg fr=>k r M'' r0 r1 bg λ q hq=>(fr q hq).trans (h6 q hq)) rfl
 ·exact jx (x:=none) hm ha hb hb2 hc hns hn hn2 k rfl
theorem xx{ws:List W}{i:Nat}(h:ws[i]? =some w):(ws.take (i+1)).filterMap f=(ws.take i).filterMap f++(f w).toList:=by rw[List.take_add_one,h,List.filterMap_append];cases e:f w<;>simp[e]
theorem aba{tt:TTd}{te:TD}{fr:List Nat}{τ:DS}{M:MH}{Q:List PyData->MH->Prop}{ws:List W}(f:W->Option PyData)(hl:ws.length<=sizeLine)
  (step:∀ w∈ws,∀ P':Option PyData->Prop,P' (f w)->tt (some w::fr.map λ j=>(τ[j]?).getD none) M λ b M3=>if b=true then te (some w::fr.map λ j=>(τ[j]?).getD none) M3 λ y M4=>∃ d,y=.d d/\M4=M/\P' (some d) else M3=M/\P' none)
  (q:Q (ws.filterMap f) M):∃ P:Nat->List PyData->DS->MH->Prop,P 0 [] (ab3 1 fr τ) M /\
   (∀ i w acc τ M,ws[i]? =some w->P i acc τ M->acc.length<sizeLine/\gN 0 w τ M λ τ2 M2=>tt τ2 M2 λ b M3=>if b=true then te τ2 M3 λ y M4=>∃ d,y=.d d/\P (i+1) (acc++[d]) τ2 M4 else P (i+1) acc τ2 M3) /\
   ∀ acc τ M,P ws.length acc τ M->Q acc M:=by
 let Pk:Nat->List PyData->DS->Prop:=λ i acc τ'=>i<=ws.length/\acc=(ws.take i).filterMap f/\∃ x,τ'=x::fr.map λ j=>(τ[j]?).getD none
 refine⟨λ i acc τ' M'=>M'=M/\Pk i acc τ',⟨rfl,Nat.zero_le _,rfl,none,rfl⟩,λ i w acc τ' M' hw hp=>?_,λ acc τ' M' hp=>?_⟩
 ·obtain⟨rfl,hi,rfl,x,rfl⟩:=hp;have hlt:i<ws.length:=(List.getElem?_eq_some_iff.mp hw).1;refine⟨?_,step w (List.mem_of_getElem? hw) (λ o=>match o with
   | some d=>Pk (i+1) ((ws.take i).filterMap f++[d]) (some w::fr.map λ j=>(τ[j]?).getD none)
   | none=>Pk (i+1) ((ws.take i).filterMap f) (some w::fr.map λ j=>(τ[j]?).getD none)) ?_⟩
  ·have h1:=List.length_filterMap_le f (ws.take i);rw[List.length_take] at h1;omega
  ·cases e:f w with
   | some d=>exact⟨hlt,by rw[xx hw,e];rfl,_,rfl⟩
   | none=>exact⟨hlt,by rw[xx hw,e];simp,_,rfl⟩
 ·obtain⟨rfl,hi,rfl,x,rfl⟩:=hp;rw[List.take_of_length_le (Nat.le_refl _)];exact q
theorem adO{tt:TTd}{te:TD}{fr:List Nat}{τ:DS}{M:MH}{Q:List PyData->MH->Prop}{ws:List W}(J:MH->Prop)(G:PyData->Prop)(hl:ws.length<=sizeLine)(j0:J M)
  (step:∀ w∈ws,∀ M',J M'->∀ P':Option PyData->MH->Prop,(∀ d M'',G d->J M''->P' (some d) M'')->(∀ M'',J M''->P' none M'') ->
   tt (some w::fr.map λ j=>(τ[j]?).getD none) M' λ b M3=>if b=true then te (some w::fr.map λ j=>(τ[j]?).getD none) M3 λ y M4=>∃ d,y=.d d/\P' (some d) M4 else P' none M3)
  (q:∀ acc M',J M'->(∀ d∈acc,G d)->acc.length<=ws.length->Q acc M'):∃ P:Nat->List PyData->DS->MH->Prop,P 0 [] (ab3 1 fr τ) M /\
   (∀ i w acc τ M,ws[i]? =some w->P i acc τ M->acc.length<sizeLine/\gN 0 w τ M λ τ2 M2=>tt τ2 M2 λ b M3=>if b=true then te τ2 M3 λ y M4=>∃ d,y=.d d/\P (i+1) (acc++[d]) τ2 M4 else P (i+1) acc τ2 M3) /\
   ∀ acc τ M,P ws.length acc τ M->Q acc M:=by
 let Pk:Nat->List PyData->DS->MH->Prop:=λ i acc τ' M'=>acc.length<=i/\(∀ d∈acc,G d)/\J M'/\∃ x,τ'=x::fr.map λ j=>(τ[j]?).getD none
 refine⟨Pk,⟨Nat.le_refl _,λ d h=>(nomatch h),j0,none,rfl⟩,λ i w acc τ' M' hw hp=>?_,λ acc τ' M' hp=>?_⟩
 ·obtain⟨hi,hg,hj,x,rfl⟩:=hp;have hlt:i<ws.length:=(List.getElem?_eq_some_iff.mp hw).1;refine⟨by omega,step w (List.mem_of_getElem? hw) M' hj (λ o M2=>match o with
   | some d=>Pk (i+1) (acc++[d]) (some w::fr.map λ j=>(τ[j]?).getD none) M2
   | none=>Pk (i+1) acc (some w::fr.map λ j=>(τ[j]?).getD none) M2) (λ d M2 gd j2=>?_) λ M2 j2=>?_⟩
  ·refine⟨by rw[List.length_append,List.length_singleton];omega,λ d' hd'=>?_,j2,_,rfl⟩;rcases List.mem_append.mp hd' with z | z
   ·exact hg d' z
   ·rw[List.mem_singleton.mp z];exact gd
  ·exact⟨by omega,hg,j2,_,rfl⟩
 ·obtain⟨hi,hg,hj,x,rfl⟩:=hp;exact q acc M' hj hg hi
theorem aeR{α:Type}(g:α->W)(f:W->Option PyData)(h:α->PyData)(e:∀ a,f (g a)=some (h a))(l:List α):(l.map g).filterMap f=l.map h:=by
 induction l with
 | nil=>rfl
 | cons a l ih=>rw[List.map_cons,List.filterMap_cons,e,ih];rfl
theorem tU:∀ ws M Q,ft ws M Q->uZ {nx:=λ _ M'=>Q (.d .none) M',rt:=Q} (bh xF ws) M:=by
 rintro ws M Q ⟨ns,rfl,hl,k⟩;refine⟨_,rfl,_,rfl,_,rfl,rfl,_,rfl,?_⟩;have ec:cutD (ns.map PyData.int) none (some 63)=(cutD ns none (some 63)).map PyData.int:=by simp only[cutD,List.length_map,List.map_take,List.map_drop]
 have hlen:(cutD ns none (some 63)).length<=ns.length:=by simp only[cutD,List.length_take,List.length_drop];omega
 have h1000:(1000:Nat)<=sizeLine:=by rw[sizeLine_eq];decide
 dsimp only;refine aba (λ w=>match w with
  | .d (.int n)=>some (.int (if n<0 then -n else n))
  | _=>none) ?hl (λ w hw P' hp=>?_) ?_
 case hl=>rw[List.length_map,ec,List.length_map];omega
 ·rw[ec,List.map_map] at hw;obtain⟨n,_,rfl⟩:=List.mem_map.mp hw;exact⟨_,rfl,_,rfl,_,rfl,rfl,hp⟩
 ·have e2:(List.map W.d (cutD (ns.map PyData.int) none (some 63))).filterMap (λ w=>match w with
    | .d (.int n)=>some (PyData.int (if n<0 then -n else n))
    | _=>none)=((cutD ns none (some 63)).map λ n=>if n<0 then -n else n).map PyData.int:=by
   rw[ec,List.map_map,aeR (W.d ∘ PyData.int) _ (λ n=>PyData.int (if n<0 then -n else n)) (λ n=>rfl),List.map_map];rfl
  rw[e2];refine⟨by simp[sizeLine_eq],λ p hp=>k p _ hp (λ q hq=>aq hq) ⟨0,1234567891,0,_,ak,Int.le_refl 0,by decide,by decide,Int.le_refl 0,λ n hn=>?_⟩⟩;obtain⟨m,_,rfl⟩:=List.mem_map.mp hn
  split<;>omega
theorem vK{K:FG}{H:Hp}{a:Addr}{ns:List Int}{sp:SpD}(hl:ns.length<=63)(hO:L2.ae1 H)(hS:L2.SqL K H a (ns.map V.int))(h:∀ ns:List Int,ns.length<=63->sp [.d (.list (ns.map PyData.int))] (λ _=>none) (λ w _=>w=.d (.bool true))) :
  dH K sp [.ref a] H (λ v _=>v=.bl true) λ _ _ _=>False:=by
 refine⟨[.d (.list (ns.map PyData.int))],λ _=>none,_,.cons ?_ .nil,λ a o z=>(nomatch z),h ns hl,λ v H' w M' kp r m q=>?_⟩
 ·simp only[aH,aA];refine⟨a,_,rfl,?_,bA.ints ns⟩;rcases hS with (h | h) | h
  ·rcases hO a with z | ⟨ob,xs,z⟩
   ·rw[h] at z;cases z
   ·rw[h] at z;cases z
  ·exact .inl h
  ·exact .inr h
 ·subst q;simp only[aH,aA] at r;exact r
def yE(z:Str):Bool:=z.cps.all (·<128)
mutual
def big:PyData->Nat
 | .none=>4
 | .bool _=>5
 | .int _=>2000
 | .str z=>10 * z.length+2
 | .list ds=>uV ds+2
 | .tuple ds=>uV ds+3
 | .dict kvs=>adY kvs+2
def uV:List PyData->Nat
 | []=>0
 | d::ds=>big d+2+uV ds
def adY:List (PyData×PyData)->Nat
 | []=>0
 | (k,d)::ds=>big k+2+big d+2+adY ds
end
mutual
def gf:PyData->Bool
 | .none=>true
 | .bool _=>true
 | .int i=>decide (i.natAbs.log2<1920)
 | .str z=>yE z
 | .list ds=>mx ds
 | .tuple ds=>mx ds
 | .dict kvs=>tV kvs
def mx:List PyData->Bool
 | []=>true
 | d::ds=>gf d&&mx ds
def tV:List (PyData×PyData)->Bool
 | []=>true
 | (k,d)::ds=>gf k&&gf d&&tV ds
end
theorem rC:∀ ts:List Str,(listText ts).length<=piled ts+2
 | []=>by decide +kernel
 | t::r=>by
  have h:=textFrom_length_pos r 1 (("[" : Str)++(if (0:Nat) > 0 then ", " else "" : String)++t) (Nat.succ_pos 0);have e:((("[" : Str)++(if (0:Nat) > 0 then ", " else "" : String)++t)).length=1+t.length:=by rw[strLen_append,strLen_append];rfl
  have hX:(listText (t::r)).length=(textFrom 0 "[" (t::r)).length+1:=by show(textFrom 0 "[" (t::r) ++ "]").length=_;rw[strLen_append];rfl
  have h2:(textFrom 0 "[" (t::r)).length=(1+t.length)+piled r:=by rw[<- e];exact h
  have h3:piled (t::r)=t.length+2+piled r:=by simp[piled]
  omega
theorem join_le(ts:List Str):(Str.join ", " ts).length<=piled ts:=by
 cases ts with
 | nil=>decide +kernel
 | cons t r=>have:=join_length_add (t::r) (by simp);omega
theorem qd(ts:List Str):(tupleText ts).length<=piled ts+3:=by
 unfold tupleText;rw[strLen_append,strLen_append];have e1:((("(" : String):Str)).length=1:=rfl;have e3:(((if ts.length==1 then ",)" else ")" : String):Str)).length<=2:=by split<;>decide
 have:=join_le ts;omega
theorem rN(ts:List Str):(dictText ts).length<=piled ts+2:=by
 unfold dictText;rw[strLen_append,strLen_append];have e1:((("{" : String):Str)).length=1:=rfl;have e2:((("}" : String):Str)).length=1:=rfl;have:=join_le ts;omega
theorem aaH{i:Int}(h:i.natAbs.log2<1920):(Str.ofString (toString i)).length<=2000:=by have e:=int_text_length_le (k:=1920) (by decide) h;rw[PySem.ofString_length];omega
theorem repr_len(h:yE z=true):(reprText z).length<=10 * z.length+2:=StrLaws.reprText_len z λ c hc=>by
 have:=Array.all_eq_true_iff_forall_mem.mp h c (by simpa using hc);have h2:c<128:=by simpa using this
 omega
mutual
theorem shown_le:∀ d:PyData,gf d=true->d.shown.length<=big d
 | .none,_=>by rw[PyData.shown];decide +kernel
 | .bool b,_=>by rw[PyData.shown];cases b<;>decide +kernel
 | .int i,h=>by rw[PyData.shown];exact aaH (by simpa [gf] using h)
 | .str z,h=>by rw[PyData.shown,big];exact repr_len (by simpa [gf] using h)
 | .list ds,h=>by have h1:=lb ds (by simpa [gf] using h);have h2:=rC (PyData.shownAll ds);rw[PyData.shown,big];omega
 | .tuple ds,h=>by have h1:=lb ds (by simpa [gf] using h);have h2:=qd (PyData.shownAll ds);rw[PyData.shown,big];omega
 | .dict ds,h=>by have h1:=pW ds (by simpa [gf] using h);have h2:=rN (PyData.shownKv ds);rw[PyData.shown,big];omega
theorem lb:∀ ds:List PyData,mx ds=true->piled (PyData.shownAll ds)<=uV ds
 | [],_=>by simp[PyData.shownAll,piled,uV]
 | d::ds,h=>by simp only[mx,Bool.and_eq_true] at h;have h1:=shown_le d h.1;have h2:=lb ds h.2;simp only[PyData.shownAll,piled_cons,uV];omega
theorem pW:∀ ds:List (PyData×PyData),tV ds=true->piled (PyData.shownKv ds)<=adY ds
 | [],_=>by simp[PyData.shownKv,piled,adY]
 | (k,d)::ds,h=>by simp only[tV,Bool.and_eq_true] at h;have h1:=shown_le k h.1.1;have h3:=shown_le d h.1.2;have h2:=pW ds h.2;have e:((((": " : String):Str))).length=2:=rfl;simp only[PyData.shownKv,piled_cons,adY,strLen_append,e];omega
end
mutual
theorem iV:∀ d:PyData,gf d=true->d.showable=true
 | .none,_=>by simp[PyData.showable]
 | .bool b,_=>by simp[PyData.showable]
 | .int i,h=>by simpa [PyData.showable,gf] using h
 | .str z,h=>by simp[PyData.showable]
 | .list ds,h=>by simpa [PyData.showable] using jH ds (by simpa [gf] using h)
 | .tuple ds,h=>by simpa [PyData.showable] using jH ds (by simpa [gf] using h)
 | .dict ds,h=>by simpa [PyData.showable] using nF ds (by simpa [gf] using h)
theorem jH:∀ ds:List PyData,mx ds=true->PyData.showableAll ds=true
 | [],_=>by simp[PyData.showableAll]
 | d::ds,h=>by simp only[mx,Bool.and_eq_true] at h;simp[PyData.showableAll,iV d h.1,jH ds h.2]
theorem nF:∀ ds:List (PyData×PyData),tV ds=true->PyData.showableKv ds=true
 | [],_=>by simp[PyData.showableKv]
 | (k,d)::ds,h=>by simp only[tV,Bool.and_eq_true] at h;simp[PyData.showableKv,iV k h.1.1,iV d h.1.2,nF ds h.2]
end
theorem s16:(1000000:Nat)<=sizeLine:=by rw[sizeLine_eq];decide
theorem aaX(h:gf d=true)(hb:big d<=1000000)(hd:d.depth<=60)(hk:d.hasDict=false):fJ d=true:=by have h1:=iV d h;have h2:=shown_le d h;have h3:=s16;simp only[fJ,h1,Bool.true_and,Bool.and_eq_true,decide_eq_true_eq,Bool.or_eq_true,Bool.not_eq_true'];exact⟨⟨by omega,hd⟩,.inl hk⟩
end D
namespace D
open L2
def Asc(z:Str):Prop:=∀ c∈z.cps.toList,c<128
theorem str_len(z:Str):z.cps.toList.length=z.length:=by simp[Str.length]
def Tx(n:Nat)(d:PyData):Prop:=∃ z:Str,d=.str z/\z.length<=n/\Asc z
theorem wR:∀ {ds:List PyData},(∀ d∈ds,Tx n d)->∃ ys:List Str,ds=ys.map PyData.str/\∀ y∈ys,y.length<=n/\Asc y
 | [],_=>⟨[],rfl,λ y h=>(nomatch h)⟩
 | d::ds,h=>by
  obtain⟨z,e,h1,h2⟩:=h d List.mem_cons_self;obtain⟨ys,e2,h3⟩:=wR λ d' hd'=>h d' (List.mem_cons_of_mem _ hd');refine⟨z::ys,by rw[e,e2];rfl,λ y hy=>?_⟩;rcases List.mem_cons.mp hy with rfl | hy
  ·exact⟨h1,h2⟩
  ·exact h3 y hy
theorem aa0(h:z.cps.all (·<128)=true):Asc z:=by
 intro c hc;have:=Array.all_eq_true_iff_forall_mem.mp h c (by simpa using hc)
 simpa using this
theorem aaC(h:Asc z)(hc:c∈z.cps.toList):Asc ⟨#[c]⟩:=by
 intro d hd;have:d=c:=by simpa using hd
 rw[this];exact h c hc
theorem log2_small(h:n<2 ^ 100):n.log2<1920:=by
 by_cases h0:n=0
 ·subst h0;decide
 ·exact Nat.lt_of_lt_of_le ((Nat.log2_lt h0).mpr h) (by decide)
theorem few(h:n<=1000):n<=sizeLine:=by have:=s16;omega
theorem Inv.swap(I:Inv X pins σ H s)(h:H a=some u)(n1:∀ xs,u ≠ .tup xs)(n2:∀ x,u ≠ .own x)(b1:∀ xs,X.H₀ a≠some (.tup xs))(b2:∀ o v,X.H₀ a≠some (.frz o v))(b3:∀ ps,X.H₀ a≠some (.tbl ps))
  (new:cD X.prog X.w (upd H a u') s.heap a u'):Inv X pins σ (upd H a u') s:=by
 have nn:∀ b,H b=none->b≠a:=λ b e z=>by rw[z,h] at e;cases e
 refine⟨I.ok,I.os,I.bare,⟨I.base.keep,I.base.slot,λ b ob q n x=>?_,I.base.there,λ b xs q=>?_,λ b ob v q=>?_,λ b ps q=>?_⟩,I.loc,I.cell,?_,λ x c q=>?_,λ p hp=>?_,λ b v q=>?_,I.len⟩
 ·have:=I.base.free b ob q n x;rw[au (nn b this)];exact this
 ·rw[au (λ z:b=a=>b1 xs (by rw[<- z];exact q))];exact I.base.lW b xs q
 ·rw[au (λ z:b=a=>b2 ob v (by rw[<- z];exact q))];exact I.base.frzs b ob v q
 ·rw[au (λ z:b=a=>b3 ps (by rw[<- z];exact q))];exact I.base.tbls b ps q
 ·rw[au (nn _ I.free)];exact I.free
 ·have:=I.freeC x c q;rw[au (nn c this)];exact this
 ·obtain⟨p1,p2,p3⟩:=I.pin p hp;exact⟨p1,by rw[au (nn _ p2)];exact p2,p3⟩
 ·by_cases hb:b=a
  ·subst hb;rw[ax] at q;cases q;exact new
  ·rw[au hb] at q;refine(I.hok b v q).rG (λ _ _ _ q=>q) (λ c r=>?_) λ c xs r=>?_
   ·rw[au (λ z=>by rw[z,h] at r;exact n2 _ (Option.some.inj r))];exact r
   ·rw[au (λ z=>by rw[z,h] at r;exact n1 _ (Option.some.inj r))];exact r
theorem jz(I:Inv X pins σ H s)(h:H a=some (.dK l)):(∀ xs,X.H₀ a≠some (.tup xs))/\(∀ o v,X.H₀ a≠some (.frz o v))/\∀ ps,X.H₀ a≠some (.tbl ps):=by
 refine⟨λ xs e=>?_,λ o v e=>?_,λ ps e=>?_⟩
 ·have:=I.base.lW a xs e;rw[h] at this;cases this
 ·have:=I.base.frzs a o v e;rw[h] at this;cases this
 ·obtain⟨m,this⟩:=I.base.tbls a ps e;rw[h] at this;cases this
theorem Inv.afv(I:Inv X pins σ H s)(h:H a=some (.dK l)):∃ o,Inv X pins σ (upd H a (.frz o (.frz o (.dK l)))) s:=by have f:Fz (.dK l):=trivial;obtain⟨o,ho⟩:=(I.hok a _ h).obj f;obtain⟨b1,b2,b3⟩:=jz I h;exact⟨o,Inv.swap I h (λ _ z=>nomatch z) (λ _ z=>nomatch z) b1 b2 b3 ⟨ho,ho,(I.hok a _ h).afq f⟩⟩
theorem Inv.again(I0:Inv X pins σ0 H0 s0)(h0:H0 a=some (.dK l))(I:Inv X pins σ H s)(h:H a=some (.frz o (.frz o (.dK l)))):Inv X pins σ (upd H a (.dK l)) s:=by have f:Fz (.dK l):=trivial;obtain⟨b1,b2,b3⟩:=jz I0 h0;exact Inv.swap I h (λ _ z=>nomatch z) (λ _ z=>nomatch z) b1 b2 b3 ((I.hok a _ h).2.2.afq f)
section
variable {K:FG}{H:Hp}{a:Addr}{o:Obj}{l:List (Key×V)}
theorem Kp.back(h:H a=some (.frz o (.frz o (.dK l)))):(∀ b xs,H b=some (.tup xs)->upd H a (.dK l) b=some (.tup xs))/\(∀ b ob ys,H b=some (.frz ob (.lst ys))->upd H a (.dK l) b=some (.frz ob (.lst ys)))/\∀ b ob ys,H b=some (.frz ob (.dK ys))->upd H a (.dK l) b=some (.frz ob (.dK ys)):=by
 refine⟨λ b xs e=>?_,λ b ob ys e=>?_,λ b ob ys e=>?_⟩<;>
 ·rw[au (λ z=>by rw[z,h] at e;cases e)];exact e
theorem SqT.back(h:H a=some (.frz o (.frz o (.dK l))))(r:SqT K H b vs):SqT K (upd H a (.dK l)) b vs:=by
 rcases r with (r | ⟨ob,r⟩) | r
 ·exact .inl (.inl ((Kp.back h).1 _ _ r))
 ·refine .inl (.inr ⟨ob,?_⟩);rw[au (λ z=>by rw[z,h] at r;cases r)];exact r
 ·exact .inr r
theorem SqF.back(h:H a=some (.frz o (.frz o (.dK l))))(r:SqF K H b vs):SqF K (upd H a (.dK l)) b vs:=by
 rcases r with ⟨ob,r⟩ | r
 ·exact .inl ⟨ob,(Kp.back h).2.1 _ _ _ r⟩
 ·exact .inr r
mutual
theorem aA.back(h:H a=some (.frz o (.frz o (.dK l)))):∀ {d:PyData} {v:V},aA K H d v->aA K (upd H a (.dK l)) d v
 | .none,v,r=>by simp only[aA] at r ⊢;exact r
 | .bool b,v,r=>by simp only[aA] at r ⊢;exact r
 | .int i,v,r=>by simp only[aA] at r ⊢;exact r
 | .str x,v,r=>by simp only[aA] at r ⊢;exact r
 | .list ds,v,r=>by simp only[aA] at r ⊢;obtain⟨b,vs,e,q,r⟩:=r;exact⟨b,vs,e,SqF.back h q,bA.back h r⟩
 | .tuple ds,v,r=>by simp only[aA] at r ⊢;obtain⟨b,vs,e,q,r⟩:=r;exact⟨b,vs,e,SqT.back h q,bA.back h r⟩
 | .dict kvs,v,r=>by simp only[aA] at r ⊢;obtain⟨b,ob,m,e,q,r⟩:=r;exact⟨b,ob,m,e,(Kp.back h).2.2 _ _ _ q,md.back h r⟩
theorem bA.back(h:H a=some (.frz o (.frz o (.dK l)))):∀ {ds:List PyData} {vs:List V},bA K H ds vs->bA K (upd H a (.dK l)) ds vs
 | [],vs,r=>by simp only[bA] at r ⊢;exact r
 | d::ds,vs,r=>by simp only[bA] at r ⊢;obtain⟨v,q,e,h1,h2⟩:=r;exact⟨v,q,e,aA.back h h1,bA.back h h2⟩
theorem md.back(h:H a=some (.frz o (.frz o (.dK l)))):∀ {ds:List (PyData×PyData)} {m:List (Key×V)},md K H ds m->md K (upd H a (.dK l)) ds m
 | [],m,r=>by simp only[md] at r ⊢;exact r
 | (key,d)::ds,m,r=>by simp only[md] at r ⊢;obtain⟨k',v,q,e,ek,h1,h2⟩:=r;exact⟨k',v,q,e,ek,aA.back h h1,md.back h h2⟩
end
theorem aH.back(h:H a=some (.frz o (.frz o (.dK l)))):∀ {w:W} {v:V},aH K H w v->aH K (upd H a (.dK l)) w v
 | .d _,_,r=>aA.back h r
 | .m _,_,r=>r
 | .t _,_,r=>r
theorem cz.back(h:H a=some (.frz o (.frz o (.dK l))))(m:cz K H M)(e:M a=some (.fdic kvs)):cz K (upd H a (.dK l)) (bz M a (.dic kvs)):=λ b mo q=>by
 by_cases hb:b=a
 ·subst hb;rw[ak] at q;cases q;obtain⟨o',l',e',pr⟩:=m _ _ e;rw[h] at e';cases e';exact⟨l,ax,Paired.j6 pr λ p q z=>⟨z.1,aH.back h z.2⟩⟩
 ·rw[aq hb] at q;have r:=m b mo q;cases mo with
  | lst ws=>obtain⟨vs,e,r⟩:=r;exact⟨vs,by rw[au hb];exact e,Paired.j6 r λ _ _ z=>aH.back h z⟩
  | dic kvs=>obtain⟨l,e,r⟩:=r;exact⟨l,by rw[au hb];exact e,Paired.j6 r λ p q z=>⟨z.1,aH.back h z.2⟩⟩
  | dct kvs=>obtain⟨l,e,r⟩:=r;exact⟨l,by rw[au hb];exact e,Paired.j6 r λ p q z=>⟨z.1,aH.back h z.2⟩⟩
  | fdic kvs=>obtain⟨o,l,e,r⟩:=r;exact⟨o,l,by rw[au hb];exact e,Paired.j6 r λ p q z=>⟨z.1,aH.back h z.2⟩⟩
  | ins C fs=>obtain⟨dx,l,e,r⟩:=r;exact⟨dx,l,by rw[au hb];exact e,Paired.j6 r λ p q z=>⟨z.1,aH.back h z.2⟩⟩
  | tup ws=>obtain⟨vs,e,r⟩:=r;exact⟨vs,by rw[au hb];exact e,Paired.j6 r λ _ _ z=>aH.back h z⟩
  | flst ws=>obtain⟨o,vs,e,r⟩:=r;exact⟨o,vs,by rw[au hb];exact e,Paired.j6 r λ _ _ z=>aH.back h z⟩
  | exc C fs =>
   obtain⟨φ,dct,e,p,r⟩:=r;refine⟨φ,dct,by rw[au hb];exact e,p,?_⟩;rcases r with r | ⟨dx,o',l',e1,e2,r⟩
   ·exact .inl r
   ·exact .inr ⟨dx,o',l',e1,by rw[au (λ z=>by rw[z,h] at e2;cases e2)];exact e2,Paired.j6 r λ p q z=>⟨z.1,aH.back h z.2⟩⟩
  | code q pos =>
   obtain⟨ps,e,ht,hc⟩:=r;refine⟨ps,by rw[au hb];exact e,ht,?_⟩;rcases hc with hc | ⟨c,o',vs,t,e1,e2,e3⟩
   ·exact .inl hc
   ·exact .inr ⟨c,o',vs,t,e1,by rw[au (λ z=>by rw[z,h] at e2;cases e2)];exact e2,e3⟩
end
def vz(_:Ed)(_:DS)(_:MH):Prop:=False
end D
namespace D
open L2
theorem Inv.zK{D:Addr}{ys:List V}{us:List Value}{n:Nat}(I:Inv X pins σ H s)(e:s.heap.get? D=some {cls:=.type "tuple",data:=.seq us.toArray n})(hn:H D=none)(hv:Vals ys us)(hz:ys.length<=sizeLine)
  (h0:D∈X.ex\/X.s₀.heap.objs.size<=D)(hL:D≠X.env.locals)(hc:∀ x c,X.env.cells.lookup x=some c->c≠D)(hp:∀ p∈X.pn++pins,p.1≠D):Inv X pins σ (upd H D (.tup ys)) s:=by
 have ne:∀ b u,H b=some u->b≠D:=λ b u q=>bw q hn;refine I.step (h':=s.heap) (g':=s.gens) (d':=s.drawn) (t':=s.toks) (ch:=[D]) (λ b hb=>?_) (λ b o _ _ _ q _=>q) (λ b o _ _ _ q _=>⟨o.slots,q⟩) (λ b o hb q n=>?_) (λ b o _ q=>⟨o,q⟩)
  (λ b xs q=>by rw[au (ne b _ q)];exact q) (λ b o u q=>by rw[au (ne b _ q)];exact q) (λ b ps q=>⟨#[],by rw[au (ne b _ q),q];simp⟩) (λ m hm=>hm) (λ b u q=>?_) I.bare
 ·have e:b=D:=by simpa using hb
  subst e;exact⟨h0,hL,hc,hp⟩
 ·rw[au (λ z=>hb (by simp[z]))];exact n
 ·by_cases hb:b=D
  ·subst hb;rw[ax] at q;cases q;exact⟨hz,us,hv,⟨_,e,rfl,rfl,n,rfl⟩⟩
  ·rw[au hb] at q;exact(I.hok b u q).rG (λ _ _ _ q=>q) (λ c r=>by rw[au (ne c _ r)];exact r) λ c xs r=>by rw[au (ne c _ r)];exact r
abbrev sT(o:Obj)(l:List (Key×V)):HO:=.frz o (.frz o (.dK l))
theorem oy{P:Program}{w:World}{H:Hp}{h:Heap}{a:Addr}{o:Obj}{l:List (Key×V)}(ok:HOk P w H h)(e:H a=some (sT o l)):(a==sysModules)=false/\∃ vs es ep,KV l vs/\o.data=.dict es ep/\h.DictAt (bb P w) a vs ep:=by obtain⟨ho,_,z,hd,vs,rel,o',es,ep,h1,h2,h3,h4⟩:=ok a _ e;rw[ho] at h1;cases h1;exact⟨hd,vs,es,ep,rel,h3,o,es,ho,h2,h3,h4⟩
def Itk(a:Addr)(o:Obj)(l:List (Key×V)):It:=
 ⟨λ i H=>H a=some (sT o l)/\i<l.length,λ i H x H'=>H'=H/\∃ kv,l[i]? =some kv/\x=kV kv.1,λ i H=>H a=some (sT o l)/\l.length<=i⟩
theorem ae6{κ:Type}[DecidableEq κ]{l:List (κ×V)}{vs:List (κ×Value)}(r:KV l vs){i:Nat}(h:i<l.length):∃ kv k v,l[i]? =some kv/\vs[i]? =some (k,v)/\kv.1=k/\RelV kv.2 v:=by
 unfold KV at r
 induction r generalizing i with
 | nil=>simp at h
 | @cons p q ps qs hp t ih =>
  cases i with
  | zero=>exact⟨p,q.1,q.2,rfl,rfl,hp.1,hp.2⟩
  | succ i =>
   obtain⟨kv,k,v,e1,e2,e3,e4⟩:=ih (i:=i) (by simpa using h);exact⟨kv,k,v,by simpa using e1,by simpa using e2,e3,e4⟩
theorem adj{P:Program}{w:World}{k:Key}{u:Value}(h:(bb P w).is k u=true):RelV (kV k) u:=by
 cases k with
 | inl i =>
  have h':Value.isInt i u=true:=h;unfold Value.isInt at h'
  split at h'
  ·rename_i j t
   have:j=i:=by simpa using h'
   subst this;exact⟨t,rfl⟩
  ·cases h'
 | inr x =>
  have h':Value.isStrOf x u=true:=h;unfold Value.isStrOf at h'
  split at h'
  ·rename_i j t
   have:j=x:=by simpa using h'
   subst this;exact⟨t,rfl⟩
  ·cases h'
theorem ud{P:Program}{w:World}{K:FG}{tg:Expr}(a it:Addr)(o:Obj)(l:List (Key×V))(es:Array DictEntry)(ep:Nat)(ho:o.data=.dict es ep) :
  Turn P w K tg (Itk a o l) [it] it (λ i h=>h.IsKeyIter it a i l.length ep) where
 mem:=by simp
 obj:=λ i h st b hb=>by
  have e:b=it:=by simpa using hb
  subst e;obtain⟨o,e,c,d⟩:=st;exact⟨o,e,λ v z=>by rw[d] at z;cases z⟩
 keep:=λ i h h' ⟨o,e,c,d⟩ k=>⟨o,k it (by simp) _ e,c,d⟩
 item:=by intro X hP hw hK hc i pins s σ H E I hf st ⟨hg,hi⟩;subst hP hw hK;obtain⟨f0,f1,f2,f3,f4,f5⟩:=hf it (by simp);obtain⟨hd,vs,es',ep',rel,ho',da⟩:=oy I.hok hg;rw[ho] at ho';cases ho';obtain⟨kv,k,v,e1,e2,e3,e4⟩:=ae6 rel hi;have hl:l.length=vs.length:=rel.length;rw[hl] at st;refine wpAny_pyNext_dict_item st da e2 λ key h' hk st' sb=>?_;have I1:Inv X pins σ H {s with heap:=h'}:=I.turned (t':=s.toks) (λ b o hb e=>(sb.2 b hb).trans e) f0 f1 f3 f4 f5;obtain⟨ob,e,c,d⟩:=id st';exact⟨_,rfl,xB (s:={s with heap:=h'}) e c d (by decide) ⟨kV kv.1,H,I1,by rw[e3];exact adj hk,⟨rfl,kv,e1,rfl⟩,by rw[hl];exact st',λ b hb=>(hf b hb).1⟩⟩
 done:=by intro X hP hw hK hc i pins s σ H E I hf st ⟨hg,hi⟩;subst hP hw hK;obtain⟨f0,f1,f2,f3,f4,f5⟩:=hf it (by simp);obtain⟨hd,vs,es',ep',rel,ho',da⟩:=oy I.hok hg;rw[ho] at ho';cases ho';have hl:l.length=vs.length:=rel.length;rw[hl] at st hi;exact wpAny_pyNext_dict_end (I.ok.hd hc) st da (List.getElem?_eq_none hi) λ h' eb=>⟨rfl,I.turned (t':=s.toks) (λ b o hb e=>eb b o hb e) f0 f1 f3 f4 f5⟩
 self:=λ _ _ _ _ _ st h=>wpAny_pyIter_keyiter st h
def adN(td:TE):TI:=λ σ H R=>td σ H λ x H1=>∃ a o l,x=.ref a/\H1 a=some (sT o l)/\R (Itk a o l) H1
theorem zj(ho:PE X o td):PI X tg o (adN td):=by
 intro pins s σ H R I h;refine thn (ho pins s σ H _ I h) λ v s1 hq70=>?_;obtain⟨x,H1,I1,r1,a,ob,l,ex,hg,q⟩:=hq70;subst ex;cases r1;obtain⟨hd,vs,es,ep,rel,hdat,da⟩:=oy I1.hok hg;refine wpAny_pyIter_dict hd da ?_;refine⟨_,[_],_,_,H1,rfl,I1.kept (t':=s1.toks) λ b o e=>Heap.get?_push_of_some _ e,ud a _ ob l es ep hdat,⟨_,Heap.get?_push_size _ rfl,rfl,?_⟩,λ b hb=>?_,q⟩
 ·rw[rel.length];rfl
 ·rw[List.mem_singleton] at hb;rw[hb];exact I1.uS (Nat.le_refl _) (I1.hok.fresh (Nat.le_refl _))
section
variable {X:Cx}{K:FG}{tg o:Expr}{apos cpos:Pos}{td:TD}
def adA(kds:List (Key×PyData)):List (Key×W):=kds.map λ p=>(p.1,.d p.2)
end
theorem qa:∀ {zs:List Str} {its:List Value},StrsAre its zs->Vals (zs.map V.str) its
 | _,_,.nil=>.nil
 | _,_,.cons y t h=>.cons ⟨t,rfl⟩ (qa h)
section
variable {X:Cx}{K:FG}
theorem qm{H:Hp}:∀ (zs:List Str),bj K H (eI zs) (zs.map V.str)
 | []=>.nil
 | z::zs=>.cons (by simp[aH,aA]) (qm zs)
end
section
variable {X:Cx}{K:FG}
theorem eS:dZ X (.builtin "isinstance") (λ xs H Q=>∃ x d T,xs=[x,.ty T]/\kl X.K H d x/\Ty6 T/\Q (.bl (mG d T)) H):=by
 intro pins s σ H xs us Q I r h;obtain⟨x,d,T,rfl,rd,h6,q⟩:=h;rcases rd with rd | ⟨a,vs,ds,rfl,rfl,ha,ra⟩
 ·exact uU pins s σ H _ us Q I r ⟨x,d,T,rfl,rd,h6,q⟩
 obtain⟨u,w',rfl,rx,ry⟩:=vals2 r;cases (show w'=Value.type T from ry);have e:=vD (K:=X.K) (.list ds) h6;have fin:∀ tk,EP X pins σ Q (.bool (mG (.list ds) T)) {s with toks:=tk}:=λ tk=>⟨.bl _,H,I.tok _,rfl,q⟩;generalize mG (.list ds) T=b at e fin;cases (show u=Value.ref a from rx);obtain⟨its,rv,⟨o,n,e1,e2,e3,e4⟩,hz⟩:=I.list (.inl (.inl ha));exact W.kia_one W.kitx_list I.kIn ⟨_,e1,e2⟩ e (λ z=>nomatch z) fin
def gx(ws:List W)(M:MH)(Q:QD):Prop:=∃ w d T,ws=[w,.t T]/\uN M w d/\Ty6 T/\Q (.d (.bool (mG d T))) M
theorem iw:fP K (λ xs H Q=>∃ x d T,xs=[x,.ty T]/\kl K H d x/\Ty6 T/\Q (.bl (mG d T)) H) gx:=by intro vs H ws M Qd Q r m ⟨w,d,T,e,g,h6,q⟩ k;subst e;obtain⟨v,v',e1,r1,r2⟩:=sv r;simp only[aH] at r2;subst r2;exact⟨v,d,T,e1,g.sound r1 m,h6,k _ H (.d (.bool _)) M (Kp.refl H) (by simp[aH,aA]) m q⟩
end
theorem uI{st:Stmt}:Jd (PSd X st vz):=⟨λ pins s σ H D I ⟨τ,M,Dd,A,h,_⟩=>h.elim⟩
end D
namespace S
open PySem PySem.W PyProof.Rows
def go{α:Type}(lt:Nat->Nat->Bool):KasT α->α
 | .ret a=>a
 | .ask i j k=>go lt (k (lt i j))
theorem jC{α β:Type}(lt:Nat->Nat->Bool)(f:α->KasT β):∀ t:KasT α,go lt (t.bind f)=go lt (f (go lt t))
 | .ret _=>rfl
 | .ask i j k=>jC lt f (k (lt i j))
structure oS(lt:Nat->Nat->Bool):Prop where
 asym:∀ a b,lt a b=true->lt b a=false
 tr:∀ a b c,lt b a=false->lt c b=false->lt c a=false
theorem oS.irr(h:oS lt)(a:Nat):lt a a=false:=by
 cases e:lt a a with
 | false=>rfl
 | true=>have:=h.asym a a e;rw[e] at this;cases this
theorem oS.abT(h:oS lt){a b c:Nat}(h1:lt a b=true)(h2:lt c b=false):lt a c=true:=by
 cases e:lt a c with
 | true=>rfl
 | false =>
  have:=h.tr b c a h2 e;rw[h1] at this;cases this
theorem oS.afI(h:oS lt){a b c:Nat}(h1:lt b a=false)(h2:lt b c=true):lt a c=true:=by
 cases e:lt a c with
 | true=>rfl
 | false =>
  have:=h.tr c a b e h1;rw[h2] at this;cases this
def B(lt:Nat->Nat->Bool)(a b:Nat):Prop:=lt a b=true\/(lt a b=false/\lt b a=false/\a<b)
theorem B.of_le{a b:Nat}(h:lt b a=false)(h2:a<b):B lt a b:=by
 cases e:lt a b with
 | true=>exact .inl e
 | false=>exact .inr ⟨e,h,h2⟩
theorem B.le(h:oS lt){a b:Nat}(q:B lt a b):lt b a=false:=by
 rcases q with q | q
 ·exact h.asym _ _ q
 ·exact q.2.1
theorem B.tr(h:oS lt){a b c:Nat}(q:B lt a b)(r:B lt b c):B lt a c:=by
 rcases q with q | ⟨q1,q2,q3⟩
 ·rcases r with r | ⟨r1,r2,r3⟩
  ·exact .inl (h.abT q (h.asym _ _ r))
  ·exact .inl (h.abT q r2)
 ·rcases r with r | ⟨r1,r2,r3⟩
  ·exact .inl (h.afI q2 r)
  ·exact .inr ⟨h.tr _ _ _ r1 q1,h.tr _ _ _ q2 r2,by omega⟩
abbrev g(p:Array Nat)(i:Nat):Nat:=p.getD i 0
theorem xH(p:Array Nat)(i:Nat):g p i=(p[i]?).getD 0:=by simp[g]
theorem mI{p:Array Nat}{i j:Nat}(hj:j<=p.size)(k:Nat):g (kas_rev p i j) k=if i<=k/\k<j then g p (i+j-1-k) else g p k:=by
 rw[xH,xH,xH];unfold kas_rev;rw[getElem?_mirror_all hj k]
 split<;>rfl
theorem afT{p:Array Nat}{k d:Nat}(hk:k<p.size)(hd:d<=k)(i:Nat):g (bubble p k d) i=if i=k-d then g p k else if k-d<i/\i<=k then g p (i-1) else g p i:=by
 rw[xH,xH,xH,xH,getElem?_bubble hk d hd i]
 split
 ·rfl
 ·split<;>rfl
structure Un(p:Array Nat)(N n:Nat):Prop where
 size:p.size=N
 lo:∀ i,i<n->g p i<n
 hi:∀ i,n<=i->i<N->g p i=i
theorem Un.rev{p:Array Nat}{N n i j:Nat}(u:Un p N n)(hj:j<=n)(hn:n<=N):Un (kas_rev p i j) N n:=by
 have hs:=u.size;refine⟨(mirror_size _ _ _ _).trans u.size,λ k hk=>?_,λ k hk hk2=>?_⟩
 ·rw[mI (by omega)]
  split
  ·exact u.lo _ (by omega)
  ·exact u.lo _ hk
 ·rw[mI (by omega),if_neg (by omega)];exact u.hi k hk hk2
theorem Un.up{p:Array Nat}{N n m:Nat}(u:Un p N n)(h:n<=m)(hm:m<=N):Un p N m:=by
 refine⟨u.size,λ k hk=>?_,λ k hk hk2=>u.hi k (by omega) hk2⟩
 by_cases z:k<n
 ·have:=u.lo k z;omega
 ·have:=u.hi k (by omega) (by omega);omega
theorem kF{p:Array Nat}{i j:Nat}{l:List Nat}(h:p.toList.Perm l):(kas_rev p i j).toList.Perm l:=(Array.perm_iff_toList_perm.mp (mirror_perm p i j _)).trans h
def Up(lt:Nat->Nat->Bool)(p:Array Nat)(n:Nat):Prop:=∀ i j,i<j->j<n->B lt (g p i) (g p j)
def Dn(lt:Nat->Nat->Bool)(p:Array Nat)(n:Nat):Prop:=∀ i j,i<j->j<n->B lt (g p j) (g p i)
theorem Up.succ(h:oS lt){p:Array Nat}{n:Nat}(u:Up lt p n)(q:0<n->B lt (g p (n-1)) (g p n)):Up lt p (n+1):=by
 intro i j hij hj
 by_cases e:j<n
 ·exact u i j hij e
 ·have e:j=n:=by omega
  subst e;have q:=q (by omega)
  by_cases z:i=j-1
  ·rw[z];exact q
  ·exact(u i (j-1) (by omega) (by omega)).tr h q
theorem vH(h:oS lt){p:Array Nat}{N:Nat}:∀ (f n:Nat),n+f<=N->1<=n->Un p N n->Up lt p n ->
  n<=go lt (kas_asc p f n)/\go lt (kas_asc p f n)<=n+f/\Un p N (go lt (kas_asc p f n))/\Up lt p (go lt (kas_asc p f n))/\(go lt (kas_asc p f n)<n+f->lt (g p (go lt (kas_asc p f n))) (g p (go lt (kas_asc p f n)-1))=true)
 | 0,n,hf,h1,u,q=>⟨Nat.le_refl _,Nat.le_refl _,u,q,λ z=>absurd z (Nat.lt_irrefl _)⟩
 | f+1,n,hf,h1,u,q=>by
  simp only[kas_asc,go];cases e:lt (p.getD n 0) (p.getD (n-1) 0) with
  | true=>exact⟨Nat.le_refl _,by simp[go],u,q,λ _=>e⟩
  | false =>
   have hb:B lt (g p (n-1)) (g p n):=B.of_le e (by have:=u.lo (n-1) (by omega);have:=u.hi n (Nat.le_refl _) (by omega);omega);have r:=vH h (p:=p) (N:=N) f (n+1) (by omega) (by omega) (u.up (by omega) (by omega)) (q.succ h λ _=>hb);simp only[Bool.false_eq_true,if_false];have e2:n+1+f=n+(f+1):=by omega
   rw[e2] at r;exact⟨by have:=r.1;omega,r.2⟩
structure xR(lt:Nat->Nat->Bool)(p:Array Nat)(n q:Nat):Prop where
 q1:q+1<=n
 dn:∀ i j,i<j->j<n-1-q->B lt (g p j) (g p i)
 cr:∀ i j,i<n-1-q->n-1-q<=j->j<n->lt (g p j) (g p i)=true
 bl:∀ i j,n-1-q<=i->i<j->j<n->B lt (g p i) (g p j)/\lt (g p i) (g p j)=false
theorem xR.acT{p:Array Nat}{n:Nat}(x:xR lt p n 0):Dn lt p n:=λ i j hij hj=>by
 have:=x.q1
 by_cases e:j<n-1-0
 ·exact x.dn i j hij e
 ·exact .inl (x.cr i j (by omega) (by omega) hj)
theorem xR.rev{p:Array Nat}{n q N:Nat}(x:xR lt p n q)(hN:n<=p.size):Dn lt (kas_rev p (n-(q+1)) n) n:=λ i j hij hj=>by
 have:=x.q1;rw[mI hN,mI hN]
 by_cases e1:n-(q+1)<=i/\i<n
 ·rw[if_pos e1,if_pos ⟨by omega,hj⟩];exact(x.bl _ _ (by omega) (by omega) (by omega)).1
 ·rw[if_neg e1]
  by_cases e2:n-(q+1)<=j/\j<n
  ·rw[if_pos e2];exact .inl (x.cr _ _ (by omega) (by omega) (by omega))
  ·rw[if_neg e2];exact x.dn i j hij (by omega)
theorem Dn.aeZ(h:oS lt){p:Array Nat}{n:Nat}(h1:1<=n)(x:Dn lt p n)(q:lt (g p n) (g p (n-1))=true):xR lt p (n+1) 0:=by
 refine⟨by omega,λ i j hij hj=>x i j hij (by omega),λ i j hi hj hj2=>?_,λ i j hi hij hj=>by omega⟩;have e:j=n:=by omega
 subst e
 by_cases z:i=j-1
 ·rw[z];exact q
 ·exact h.abT q ((x i (j-1) (by omega) (by omega)).le h)
theorem nZ(h:oS lt){N:Nat}:∀ (f:Nat) (p:Array Nat) (n q:Nat),n+f<=N->Un p N n->p.toList.Perm (List.range N)->xR lt p n q ->
  n<=(go lt (kas_desc f p n q)).2.1/\(go lt (kas_desc f p n q)).2.1<=n+f/\Un (go lt (kas_desc f p n q)).1 N (go lt (kas_desc f p n q)).2.1/\(go lt (kas_desc f p n q)).1.toList.Perm (List.range N)/\xR lt (go lt (kas_desc f p n q)).1 (go lt (kas_desc f p n q)).2.1 (go lt (kas_desc f p n q)).2.2
 | 0,p,n,q,hf,u,hp,x=>⟨Nat.le_refl _,Nat.le_refl _,u,hp,x⟩
 | f+1,p,n,q,hf,u,hp,x=>by
  have hs:=u.size;have hq1:=x.q1;simp only[kas_desc,go];cases e:lt (p.getD n 0) (p.getD (n-1) 0) with
  | true =>
   simp only[if_true]
   by_cases hq:q > 0
   ·rw[if_pos hq];have e2:lt (g (kas_rev p (n-(q+1)) n) n) (g (kas_rev p (n-(q+1)) n) (n-1))=true:=by
     rw[mI (by omega),mI (by omega),if_neg (by omega),if_pos (by omega)]
     by_cases z:n-(q+1)+n-1-(n-1)=n-1
     ·rw[z];exact e
     ·exact h.abT e (x.bl _ (n-1) (by omega) (by omega) (by omega)).2
    have r:=nZ h f (kas_rev p (n-(q+1)) n) (n+1) 0 (by omega) ((u.rev (Nat.le_refl _) (by omega)).up (by omega) (by omega)) (kF hp) ((x.rev (N:=N) (by omega)).aeZ h (by omega) e2);exact⟨by have:=r.1;omega,by have:=r.2.1;omega,r.2.2⟩
   ·rw[if_neg hq];have eq0:q=0:=by omega
    subst eq0;have r:=nZ h f p (n+1) 0 (by omega) (u.up (by omega) (by omega)) hp (x.acT.aeZ h (by omega) e);exact⟨by have:=r.1;omega,by have:=r.2.1;omega,r.2.2⟩
  | false =>
   simp only[Bool.false_eq_true,if_false,go];cases e2:lt (p.getD (n-1) 0) (p.getD n 0) with
   | true=>exact⟨Nat.le_refl _,by simp[go],u,hp,x⟩
   | false =>
    simp only[Bool.false_eq_true,if_false];have lo:=u.lo;have hin:=u.hi n (Nat.le_refl _) (by omega);have r:=nZ h f p (n+1) (q+1) (by omega) (u.up (by omega) (by omega)) hp ⟨by omega,λ i j hij hj=>x.dn i j hij (by omega),λ i j hi hj hj2=>?_,λ i j hi hij hj=>?_⟩
    ·exact⟨by have:=r.1;omega,by have:=r.2.1;omega,r.2.2⟩
    ·by_cases z:j<n
     ·exact x.cr i j (by omega) (by omega) z
     ·have z:j=n:=by omega
      subst z;exact h.afI e2 (x.cr i (j-1) (by omega) (by omega) (by omega))
    ·by_cases z:j<n
     ·exact x.bl i j (by omega) hij z
     ·have z:j=n:=by omega
      subst z;have le1:lt (g p j) (g p i)=false:=by
       by_cases y:i=j-1
       ·rw[y];exact e
       ·exact h.tr _ _ _ ((x.bl i (j-1) (by omega) (by omega) (by omega)).1.le h) e
      have le2:lt (g p i) (g p j)=false:=by
       by_cases y:i=j-1
       ·rw[y];exact e2
       ·exact h.tr _ _ _ e2 (x.bl i (j-1) (by omega) (by omega) (by omega)).2
      exact⟨B.of_le le1 (by have:=lo i (by omega);omega),le2⟩
theorem Dn.up{p:Array Nat}{n:Nat}(x:Dn lt p n)(hN:n<=p.size):Up lt (kas_rev p 0 n) n:=λ i j hij hj=>by rw[mI hN,mI hN,if_pos (by omega),if_pos (by omega)];exact x _ _ (by omega) (by omega)
def Cnt(lt:Nat->Nat->Bool)(N:Nat)(r:Nat×Array Nat):Prop:=1<=r.1/\r.1<=N/\Un r.2 N r.1/\r.2.toList.Perm (List.range N)/\Up lt r.2 r.1
theorem tI(h:oS lt){N n:Nat}{p:Array Nat}(h1:1<=n)(hn:n<=N)(u:Un p N n)(hp:p.toList.Perm (List.range N))(x:Dn lt p n):Cnt lt N (go lt (kas_tail3 n N p)):=by
 unfold kas_tail3;rw[jC];have hs:=u.size;have r:=vH h (p:=kas_rev p 0 n) (N:=N) (N-n) n (by omega) h1 (u.rev (Nat.le_refl _) hn) (x.up (by omega));exact⟨by have:=r.1;show 1<=go lt (kas_asc (kas_rev p 0 n) (N-n) n);omega,by have:=r.2.1;show go lt (kas_asc (kas_rev p 0 n) (N-n) n)<=N;omega,r.2.2.1,kF hp,r.2.2.2.1⟩
theorem kS(h:oS lt){N n:Nat}{p:Array Nat}(hn:n+1<=N)(u:Un p N (n+1))(hp:p.toList.Perm (List.range N))(x:xR lt p (n+1) 0):Cnt lt N (go lt (kas_descPart n N p)):=by
 unfold kas_descPart;rw[jC];obtain⟨r1,r2,r3,r4,r5⟩:=nZ h (N:=N) (N-(n+1)) p (n+1) 0 (by omega) u hp x;have hs:=r3.size
 by_cases hq:(go lt (kas_desc (N-(n+1)) p (n+1) 0)).2.2 > 0
 ·rw[if_pos hq];exact tI h (by omega) (by omega) (r3.rev (Nat.le_refl _) (by omega)) (kF r4) (r5.rev (N:=N) (by omega))
 ·rw[if_neg hq];have e:(go lt (kas_desc (N-(n+1)) p (n+1) 0)).2.2=0:=by omega
  rw[e] at r5;exact tI h (by omega) (by omega) r3 r4 r5.acT
theorem xO(h:oS lt){N:Nat}(hN:1<=N){p:Array Nat}(u:Un p N 1)(hp:p.toList.Perm (List.range N)):Cnt lt N (go lt (kas_count N p)):=by
 unfold kas_count;rw[jC];obtain⟨a1,a2,a3,a4,a5⟩:=vH h (p:=p) (N:=N) (N-1) 1 (by omega) (Nat.le_refl _) u (λ i j hij hj=>by omega);generalize go lt (kas_asc p (N-1) 1)=n at a1 a2 a3 a4 a5;have hs:=u.size
 by_cases e:(n==N)=true
 ·rw[if_pos e];exact⟨a1,by show n<=N;omega,a3,hp,a4⟩
 ·rw[if_neg e];have ne:n≠N:=λ z=>e (by simp[z]);have last:=a5 (by omega)
  by_cases h2:n > 1
  ·rw[if_pos h2];simp only[go];cases c:lt (p.getD 0 0) (p.getD (n-1) 0) with
   | true =>
    simp only[if_true,go];exact⟨a1,by show n<=N;omega,a3,hp,a4⟩
   | false =>
    simp only[Bool.false_eq_true,if_false];have eqv:∀ i j,i<j->j<n->lt (g p i) (g p j)=false:=λ i j hij hj=>by
     have t1:lt (g p i) (g p 0)=false:=by
      by_cases z:i=0
      ·rw[z];exact h.irr _
      ·exact(a4 0 i (by omega) (by omega)).le h
     have t2:lt (g p (n-1)) (g p j)=false:=by
      by_cases z:j=n-1
      ·rw[z];exact h.irr _
      ·exact(a4 j (n-1) (by omega) (by omega)).le h
     have t3:lt (g p 0) (g p j)=false:=by
      cases y:lt (g p 0) (g p j) with
      | false=>rfl
      | true=>have:=h.abT y t2;rw[c] at this;cases this
     cases y:lt (g p i) (g p j) with
     | false=>rfl
     | true=>have:=h.afI t1 y;rw[t3] at this;cases this
    have fa:xR lt p n (n-1):=⟨by omega,λ i j hij hj=>by omega,λ i j hi hj hj2=>by omega,λ i j hi hij hj=>⟨a4 i j hij hj,eqv i j hij hj⟩⟩;have dn:Dn lt (kas_rev p 0 n) n:=by
     have:=fa.rev (N:=N) (by omega)
     rwa[show n-(n-1+1)=0 by omega] at this
    have e2:lt (g (kas_rev p 0 n) n) (g (kas_rev p 0 n) (n-1))=true:=by rw[mI (by omega),mI (by omega),if_neg (by omega),if_pos (by omega)];rw[show 0+n-1-(n-1)=0 by omega];exact h.abT last c
    exact kS h (by omega) ((a3.rev (Nat.le_refl _) (by omega)).up (by omega) (by omega)) (kF hp) (dn.aeZ h a1 e2)
  ·rw[if_neg h2];have e1:n=1:=by omega
   subst e1;exact kS h (by omega) (a3.up (by omega) (by omega)) hp (Dn.aeZ h (Nat.le_refl _) (λ i j hij hj=>by omega) last)
theorem nO(h:oS lt){p:Array Nat}{k:Nat}(u:Up lt p k):∀ (f l r:Nat),r-l<=f->l<=r->r<=k->(∀ i,i<l->lt (g p k) (g p i)=false)->(∀ i,r<=i->i<k->lt (g p k) (g p i)=true) ->
  go lt (kas_place p k f l r)<=k/\(∀ i,i<go lt (kas_place p k f l r)->lt (g p k) (g p i)=false)/\∀ i,go lt (kas_place p k f l r)<=i->i<k->lt (g p k) (g p i)=true
 | 0,l,r,hf,hl,hr,a,b=>⟨by show l<=k;omega,a,λ i hi hk=>b i (by have:l<=i:=hi;omega) hk⟩
 | f+1,l,r,hf,hl,hr,a,b=>by
  simp only[kas_place]
  by_cases e:l >= r
  ·rw[if_pos e];exact⟨by show l<=k;omega,a,λ i hi hk=>b i (by have:l<=i:=hi;omega) hk⟩
  ·rw[if_neg e];simp only[go];cases c:lt (p.getD k 0) (p.getD ((l+r) / 2) 0) with
   | true =>
    simp only[if_true];refine nO h u f l ((l+r) / 2) (by omega) (by omega) (by omega) a λ i hi hk=>?_
    by_cases z:i=(l+r) / 2
    ·rw[z];exact c
    ·exact h.abT c ((u ((l+r) / 2) i (by omega) hk).le h)
   | false =>
    simp only[Bool.false_eq_true,if_false];refine nO h u f ((l+r) / 2+1) r (by omega) (by omega) hr (λ i hi=>?_) b
    by_cases z:i=(l+r) / 2
    ·rw[z];exact c
    ·exact h.tr _ _ _ ((u i ((l+r) / 2) (by omega) (by omega)).le h) c
theorem aaj(h:oS lt){N:Nat}:∀ (f:Nat) (p:Array Nat) (k:Nat),k+f<=N->Un p N k->p.toList.Perm (List.range N)->Up lt p k->(go lt (kas_bin f p k)).toList.Perm (List.range N)/\Up lt (go lt (kas_bin f p k)) (k+f)
 | 0,p,k,hf,u,hp,x=>⟨hp,x⟩
 | f+1,p,k,hf,u,hp,x=>by
  simp only[kas_bin];rw[jC];obtain⟨h1,h2,h3⟩:=nO h x k 0 k (by omega) (by omega) (Nat.le_refl _) (λ i hi=>by omega) (λ i hi hk=>by omega);generalize go lt (kas_place p k k 0 k)=l at h1 h2 h3;have hs:=u.size;have ek:k-(k-l)=l:=by omega
  have lo:=u.lo;have hk:=u.hi k (Nat.le_refl _) (by omega);have G:∀ i,g (bubble p k (k-l)) i=if i=l then g p k else if l<i/\i<=k then g p (i-1) else g p i:=λ i=>by rw[afT (by omega) (by omega),ek]
  have r:=aaj h (N:=N) f (bubble p k (k-l)) (k+1) (by omega) ⟨(bubble_size _ _ _).trans hs,λ i hi=>?_,λ i hi hi2=>?_⟩ ((Array.perm_iff_toList_perm.mp (bubble_perm p k _)).trans hp) λ i j hij hj=>?_
  ·rw[show k+1+f=k+(f+1) by omega] at r;exact r
  ·rw[G]
   split
   ·omega
   ·split
    ·have:=lo (i-1) (by omega);omega
    ·have:=lo i (by omega);omega
  ·rw[G,if_neg (by omega),if_neg (by omega)];exact u.hi i (by omega) hi2
  ·have bk:∀ i,i<l->B lt (g p i) (g p k):=λ i hi=>B.of_le (h2 i hi) (by have:=lo i (by omega);omega);rw[G,G]
   by_cases i1:i=l
   ·rw[if_pos i1,if_neg (by omega),if_pos (by omega)];exact .inl (h3 _ (by omega) (by omega))
   ·rw[if_neg i1]
    by_cases i2:l<i/\i<=k
    ·rw[if_pos i2,if_neg (by omega),if_pos (by omega)];exact x _ _ (by omega) (by omega)
    ·rw[if_neg i2]
     by_cases j1:j=l
     ·rw[if_pos j1];exact bk i (by omega)
     ·rw[if_neg j1]
      by_cases j2:l<j/\j<=k
      ·rw[if_pos j2];exact x _ _ (by omega) (by omega)
      ·rw[if_neg j2];exact x _ _ hij (by omega)
theorem vV(h:oS lt){N:Nat}(hN:1<=N):(go lt (kas_sort N)).toList.Perm (List.range N)/\Up lt (go lt (kas_sort N)) N:=by
 unfold kas_sort;rw[jC];have e:∀ i,i<N->g (List.toArray (List.range N)) i=i:=λ i hi=>by rw[xH];simp[hi]
 obtain⟨c1,c2,c3,c4,c5⟩:=xO h hN (p:=List.toArray (List.range N)) ⟨by simp,λ i hi=>by rw[e i (by omega)];exact hi,λ i _ hi=>e i hi⟩ (by simp);generalize go lt (kas_count N (List.toArray (List.range N)))=r at c1 c2 c3 c4 c5
 by_cases z:r.1<N
 ·rw[if_pos z];have em:max r.1 1=r.1:=by omega
  rw[em];have b:=aaj h (N-r.1) r.2 r.1 (by omega) c3 c4 c5;rw[show r.1+(N-r.1)=N by omega] at b;exact b
 ·rw[if_neg z];have em:r.1=N:=by omega
  rw[em] at c5;exact⟨c4,c5⟩
def acz(N:Nat)(R:α->Prop):KasT α->Prop
 | .ret a=>R a
 | .ask i j k=>i<N/\j<N/\∀ b,acz N R (k b)
theorem acz.bind{α β:Type}{N:Nat}{R:α->Prop}{R':β->Prop}{f:α->KasT β}(hf:∀ a,R a->acz N R' (f a)):∀ {t:KasT α},acz N R t->acz N R' (t.bind f)
 | .ret a,h=>hf a h
 | .ask i j k,h=>⟨h.1,h.2.1,λ b=>acz.bind hf (h.2.2 b)⟩
def Low(N:Nat)(p:Array Nat):Prop:=∀ i,g p i<N
theorem Low.of(hN:1<=N)(h:∀ x∈p.toList,x<N):Low N p:=λ i=>by
 rw[xH];cases e:p[i]? with
 | none=>simp;omega
 | some x=>exact h x (by rw[Array.mem_toList_iff];exact Array.mem_of_getElem? e)
theorem Low.mem(h:Low N p):∀ x∈p.toList,x<N:=λ x hx=>by rw[Array.mem_toList_iff] at hx;obtain⟨i,hi,e⟩:=Array.mem_iff_getElem.mp hx;have:=h i;rw[xH] at this;simp[hi] at this;omega
theorem Low.perm(hN:1<=N)(h:Low N p)(e:q.Perm p):Low N q:=.of hN λ x hx=>h.mem x ((Array.perm_iff_toList_perm.mp e).mem_iff.mp hx)
theorem Low.rev(hN:1<=N)(h:Low N p):Low N (kas_rev p i j):=h.perm hN (mirror_perm _ _ _ _)
def Shape:List Bool->List PyData->Prop
 | [],[]=>True
 | true::bs,d::ds=>(∃ x,d=.str x)/\Shape bs ds
 | false::bs,d::ds=>(∃ i,d=.int i)/\Shape bs ds
 | _,_=>False
def rowAt(rows:List (List PyData))(i:Nat):List PyData:=rows.getD i (rows.headD [])
def ad2:List PyData->List Value->Prop:=Paired λ d u=>(∃ i t,d=.int i/\u=.int i t)\/∃ x t,d=.str x/\u=.str x t
end S
namespace D
open L2 S
section
variable {K:FG}
theorem ad2.len:∀ {ds:List PyData} {us:List Value},ad2 ds us->us.length=ds.length:=λ h=>(Paired.length h).symm
def jq(h:Heap)(sh:List Bool)(rows:List (List PyData))(its:List Value):Prop:=Paired (λ row u=>Shape sh row/\∃ a o us n,u=Value.ref a/\h.get? a=some o/\o.cls=.type "tuple" /\ o.data=.seq us n/\ad2 row us.toList) rows its
theorem jq.keep(k:∀ b o,h.get? b=some o->h'.get? b=some o)(r:jq h sh rows its):jq h' sh rows its:=
 Paired.j6 r λ row u ⟨s,a,o,us,n,e,g,c,d,q⟩=>⟨s,a,o,us,n,e,k _ _ g,c,d,q⟩
theorem jq.get:∀ {rows:List (List PyData)} {its:List Value} (i:Nat),i<rows.length->jq h sh rows its->∃ a o us n,its.getD i Value.none=.ref a/\h.get? a=some o/\o.cls=.type "tuple" /\ o.data=.seq us n/\Shape sh (rowAt rows i)/\ad2 (rowAt rows i) us.toList:=by
 have main:∀ {rows:List (List PyData)} {its:List Value} (i:Nat) (dflt:List PyData),i<rows.length->jq h sh rows its->∃ a o us n,its.getD i Value.none=.ref a/\h.get? a=some o/\o.cls=.type "tuple" /\ o.data=.seq us n/\Shape sh (rows.getD i dflt)/\ad2 (rows.getD i dflt) us.toList:=by
  intro rows
  induction rows with
  | nil=>intro its i d hi _;simp at hi
  | cons row rows ih =>
   intro its i d hi r;cases r with
   | cons r1 r2 =>
    cases i with
    | zero =>
     obtain⟨s,a,o,us,n,e,g,c,dd,q⟩:=r1;exact⟨a,o,us,n,e,g,c,dd,s,q⟩
    | succ i =>
     obtain⟨a,o,us,n,e,z⟩:=ih i d (by simpa using hi) r2;exact⟨a,o,us,n,by simpa using e,by simpa using z⟩
 exact λ {rows its} i hi r=>main i _ hi r
theorem jq.lW:∀ {rows:List (List PyData)} {its:List Value},jq h (t::sh) rows its->∃ fs,W.KatTups h its fs/\fs.length=its.length/\∀ v∈fs,(t=true/\∃ x k,v=Value.str x k)\/(t=false/\∃ i k,v=Value.int i k)
 | [],its,r=>by
  cases r;exact⟨[],.nil,rfl,λ v hv=>by simp at hv⟩
 | row::rows,its,r=>by
  cases r with
  | cons r1 r2 =>
   obtain⟨fs,h1,h2,h3⟩:=jq.lW r2;obtain⟨s,a,o,us,n,e,g,c,dd,q⟩:=r1;subst e
   match row,s with
   | d::ds,s =>
    obtain⟨f,us2,eu,hf⟩:∃ f us2,us.toList=f::us2/\((t=true/\∃ x k,f=Value.str x k)\/(t=false/\∃ i k,f=Value.int i k)):=by
     generalize us.toList=ul at q;cases q with
     | @cons _ u _ ul2 q1 q2 =>
      refine⟨u,ul2,rfl,?_⟩;cases t with
      | true =>
       obtain⟨⟨x,rfl⟩,_⟩:=s;rcases q1 with ⟨_,_,e,_⟩ | ⟨_,k,e,e'⟩
       ·cases e
       ·exact .inl ⟨rfl,_,_,e'⟩
      | false =>
       obtain⟨⟨x,rfl⟩,_⟩:=s;rcases q1 with ⟨_,k,e,e'⟩ | ⟨_,_,e,_⟩
       ·exact .inr ⟨rfl,_,_,e'⟩
       ·cases e
    have e0:us[0]? =some f:=by
     have:us.toList[0]? =some f:=by rw[eu];rfl
     simpa using this
    refine⟨f::fs,.cons g c dd e0 h1,by simp[h2],λ v hv=>?_⟩;rcases List.mem_cons.mp hv with rfl | hv
    ·exact hf
    ·exact h3 v hv
   | [],s=>cases t<;>cases s
end
section
variable {X:Cx}{K:FG}
end
theorem adC(x:cD P w H h a o):∃ ob,h.get? a=some ob:=by
 induction o with
 | lst xs=>obtain⟨_,_,_,_,e⟩:=x;exact⟨_,e⟩
 | tup xs=>obtain⟨_,_,_,ob,e,_⟩:=x;exact⟨_,e⟩
 | dK kvs=>obtain⟨_,_,_,_,o,_,_,e,_⟩:=x;exact⟨_,e⟩
 | dT kvs=>obtain⟨_,_,_,_,o,_,_,e,_⟩:=x;exact⟨_,e⟩
 | set S n=>obtain⟨o,_,_,_,e,_⟩:=x;exact⟨_,e⟩
 | ins C dx fs=>obtain⟨_,_,_,e,_⟩:=x;exact⟨_,e⟩
 | own y=>obtain⟨_,e⟩:=x;exact⟨_,e⟩
 | xd fs=>obtain⟨_,⟨_,_,_,e,_⟩,_⟩:=x;exact⟨_,e⟩
 | rng lo hi=>obtain⟨_,_,_,e⟩:=x;exact⟨_,e⟩
 | frz ob u ih=>obtain⟨e,_⟩:=x;exact⟨_,e⟩
 | tbl ps=>exact⟨_,show h.get? a=some _ from x⟩
 | met f y=>exact⟨_,show h.get? a=some _ from x⟩
 | ext φ=>obtain⟨_,⟨_,e⟩,_⟩:=x;exact⟨_,e⟩
theorem vw(x:HOk P w H h)(e:h.get? a=none):H a=none:=by
 cases q:H a with
 | none=>rfl
 | some u =>
  obtain⟨ob,z⟩:=adC (x a u q);rw[e] at z;cases z
theorem Inv.afm(I:Inv X pins σ H s)(k:∀ b u,s.heap.get? b=some u->h'.get? b=some u)(hp:s.heap.get? a=none)(new:cD X.prog X.w (upd H a o) h' a o) :
  Inv X pins σ (upd H a o) {s with heap:=h',toks:=t'}:=by
 have hn:=vw I.hok hp;have ne:∀ b u,s.heap.get? b=some u->b≠a:=λ b u e z=>by rw[z,hp] at e;cases e
 refine I.un ⟨λ b ob e _ _ _=>k b ob e,λ b ob e _ _ _=>⟨ob.slots,k b ob e⟩,λ b ob e n _=>by rw[au (ne b ob e)];exact n,λ b ob e _=>⟨ob,k b ob e⟩,λ b xs e=>by rw[au (bw e hn)];exact e,λ b ob u e=>by rw[au (bw e hn)];exact e,λ b ps e=>⟨#[],by rw[au (bw e hn),e];simp⟩⟩ λ b u e=>?_
 by_cases hb:b=a
 ·subst hb;rw[ax] at e;cases e;exact new
 ·rw[au hb] at e;exact(I.hok b u e).rG (λ c v _ q=>k c v q) (λ c q=>by rw[au (bw q hn)];exact q) λ c xs q=>by rw[au (bw q hn)];exact q
section
variable {X:Cx}{K:FG}
theorem pN:∀ {zs:List Str} {vs:List (Key×Value)} {us:List Value},vs.map (·.1)=zs.map Sum.inr->us.length=vs.length->(∀ (j:Nat) v,us[j]? =some v->∃ k x,vs[j]? =some (k,x)/\(bb P w).is k v=true)->StrsAre us zs
 | [],vs,us,h,hl,hp=>by
  have e:vs=[]:=by simpa using h
  subst e;have e:us=[]:=by simpa using hl
  subst e;exact .nil
 | z::zs,vs,us,h,hl,hp=>by
  match vs,us,h,hl,hp with
  | (k,x)::vs,u::us,h,hl,hp =>
   simp only[List.map_cons,List.cons.injEq] at h;obtain⟨k',x',e,hk⟩:=hp 0 u rfl;simp at e;obtain⟨e1,e2⟩:=e;subst e1 e2;rw[h.1,ux] at hk;obtain⟨t,e⟩:∃ t,u=.str z t:=by
    rcases bQ hk with ⟨i,t,e,_⟩ | ⟨y,t,e,e'⟩
    ·cases e
    ·cases e;exact⟨t,e'⟩
   subst e;exact .cons z t (pN h.2 (by simpa using hl) λ j v hj=>by simpa using hp (j+1) v (by simpa using hj))
  | [],_,h,_,_=>simp at h
  | _::_,[],_,hl,_=>simp at hl
def isNone:W->Bool
 | .d .none=>true
 | _=>false
theorem t9(r:aH K H w v):decide (v=.non)=isNone w:=by
 cases w with
 | m a=>cases (show v=.ref a from r);rfl
 | t n=>cases (show v=.ty n from r);rfl
 | d x =>
  cases x<;>simp only[aH,aA] at r
  ·subst r;rfl
  ·subst r;rfl
  ·subst r;rfl
  ·subst r;rfl
  all_goals first
   | (obtain⟨a,vs,e,_⟩:=r;subst e;rfl)
   | (obtain⟨a,o,l,e,_⟩:=r;subst e;rfl)
def ad4(neg:Bool)(w:W)(w':W)(M:MH)(Q:QD):Prop:=w'=.d .none/\Q (.d (.bool (xor neg (isNone w)))) M
theorem abb:OpD K (λ x y H Q=>y=.non/\Q (.bl (decide (x=.non))) H) (ad4 false):=by intro x y H w w' M Qd Q r1 r2 m ⟨e,q⟩ k;subst e;simp only[aH,aA] at r2;refine⟨r2,k _ _ (.d (.bool (isNone w))) M (Kp.refl _) ?_ m (by simpa using q)⟩;rw[t9 r1];simp[aH,aA]
end
theorem Inv.aaz(I:Inv X pins σ H s)(k:∀ b o,b≠it->b≠e->s.heap.get? b=some o->h'.get? b=some o)(f:uA X pins H it)(g:uA X pins H e):Inv X pins σ H {s with heap:=h',toks:=t'}:=by
 obtain⟨f0,f1,f2,f3,f4,f5⟩:=f;obtain⟨g0,g1,g2,g3,g4,g5⟩:=g;have nit:∀ b u,H b=some u->b≠it:=λ b u q z=>by rw[z,f0] at q;cases q
 have ne:∀ b u,H b=some u->b≠e:=λ b u q z=>by rw[z,g0] at q;cases q
 refine I.step (g':=s.gens) (d':=s.drawn) (ch:=[it,e]) (λ b hb=>?_) (λ b o _ _ hc q _=>k b o (λ z=>hc (by simp[z])) (λ z=>hc (by simp[z])) q) (λ b o _ _ hc q _=>⟨o.slots,k b o (λ z=>hc (by simp[z])) (λ z=>hc (by simp[z])) q⟩) (λ _ _ _ _ n=>n)
  (λ b o hc q=>⟨o,k b o (λ z=>hc (by simp[z])) (λ z=>hc (by simp[z])) q⟩) (λ _ _ q=>q) (λ _ _ _ q=>q) (λ b ps q=>⟨#[],by rw[q];simp⟩) (λ m hm=>?_) (λ b u q=>?_) I.bare
 ·have z:b=it\/b=e:=by simpa using hb
  rcases z with rfl | rfl
  ·exact⟨f3,f1,f4,f5⟩
  ·exact⟨g3,g1,g4,g5⟩
 ·obtain⟨o,es,ep,ho,r⟩:=hm;exact⟨o,es,ep,k _ o (Ne.symm f1) (Ne.symm g1) ho,r⟩
 ·refine(I.hok b u q).rG (λ c v hc z=>k c v ?_ ?_ z) (λ _ z=>z) λ _ _ z=>z
  ·rcases hc with z | z
   ·rw[z];exact nit b u q
   ·exact nit c _ z
  ·rcases hc with z | z
   ·rw[z];exact ne b u q
   ·exact ne c _ z
def Ite(K:FG)(a:Addr):It:=
 ⟨λ i H=>∃ xs x,SqL K H a xs/\xs[i]? =some x,λ i H x H'=>∃ T v,H T=none/\x=.ref T/\H'=upd H T (.tup [.int i,v])/\∀ xs,SqL K H a xs->xs[i]? =some v,λ i H=>∃ xs,SqL K H a xs/\xs.length<=i⟩
theorem wL{P:Program}{w:World}{K:FG}{elts:List Expr}{x1:Nat}{tpos:Pos}(a e it:Addr)(hne:e≠it) :
  Turn P w K (.Tuple elts x1 tpos) (Ite K a) [e,it] e (λ i h=>(∃ old,IsEnum h e it (i:Nat) old)/\h.IsListIter it a i) where
 mem:=by simp
 obj:=λ i h ⟨⟨old,st⟩,⟨oi,ei,ci,di⟩⟩ b hb=>by
  have z:b=e\/b=it:=by simpa using hb
  rcases z with rfl | rfl
  ·exact⟨_,st,λ v z=>by cases z⟩
  ·exact⟨oi,ei,λ v z=>by rw[di] at z;cases z⟩
 keep:=λ i h h' ⟨⟨old,st⟩,li⟩ k=>⟨⟨old,k e (by simp) _ st⟩,li.at λ o q=>k it (by simp) o q⟩
 item:=by
  intro X hP hw hK hc i pins s σ H E I hf ⟨⟨old,st⟩,li⟩ ⟨xs,x,hq,hx⟩;subst hP hw hK;have fe:=hf e (by simp);have fi:=hf it (by simp);obtain⟨its,rv,p,hz⟩:=I.list hq;obtain⟨u,hu,ru⟩:=rv.get hx;refine wpAny_pyNext_enum_item st li p.isList (x:=u) (by simpa using hu) hne λ h' st' li' ht hsz kp=>?_;refine⟨_,rfl,wpAny_letOwnedTupleGo_enum st' λ h'' st'' sb=>?_⟩;obtain⟨t0,t1,t2,t3,t4,t5⟩:=I.uS (Nat.le_refl _) (I.hok.fresh (Nat.le_refl _));have nT:s.heap.objs.size≠e:=Nat.ne_of_gt (Heap.lt_size st);have I1:Inv X pins σ H {s with heap:=h'',toks:=s.toks+1}:=Inv.aaz I (λ b ob h1 h2 q=>(sb.2 b h2).trans (kp b ob h2 h1 q)) fi fe;have eT:h''.get? s.heap.objs.size=some {cls:=.type "tuple",data:=.seq #[.int (i:Nat) s.toks,u]}:=(sb.2 _ nT).trans ht;have I2:=Inv.zK (us:=[.int (i:Nat) s.toks,u]) (ys:=[.int i,x]) I1 eT t0 (.cons ⟨_,rfl⟩ (.cons ru .nil)) (by simp;have:=s16;omega) t3 t1 t4 t5;have li'':h''.IsListIter it a (i+1):=li'.at λ o q=>(sb.2 it hne.symm).trans q;have hit:it<s.heap.objs.size:=by obtain⟨oi,ei,_⟩:=li;exact Heap.lt_size ei
  refine⟨.ref s.heap.objs.size,_,I2,rfl,⟨_,x,t0,rfl,rfl,λ ys hy=>by rw[I.oo hy hq];exact hx⟩,⟨⟨_,st''⟩,li''⟩,λ b hb=>?_⟩;have z:b=e\/b=it:=by simpa using hb
  rcases z with rfl | rfl
  ·rw[au nT.symm];exact fe.1
  ·rw[au (Nat.ne_of_lt hit)];exact fi.1
 done:=by intro X hP hw hK hc i pins s σ H E I hf ⟨⟨old,st⟩,li⟩ ⟨xs,hq,hx⟩;subst hP hw hK;obtain⟨f0,f1,f2,f3,f4,f5⟩:=hf it (by simp);obtain⟨its,rv,p,hz⟩:=I.list hq;have hl:=rv.length;exact wpAny_pyNext_enum_end (I.ok.hd hc) st li p.isList (by simp;omega) λ h' eb=>⟨rfl,I.turned (t':=s.toks) (λ b o hb q=>eb b o hb q) f0 f1 f3 f4 f5⟩
 self:=λ _ _ _ _ _ ⟨⟨old,st⟩,li⟩ h=>wpAny_pyIter_enum st h
theorem pX:bootBuiltins "enumerate" = some (.type "enumerate"):=by decide +kernel
def ae9(K:FG)(ta:TA):TI:=λ σ H R=>ta σ H λ vs H1=>∃ b xs,vs=[.ref b]/\SqL K H1 b xs/\R (Ite K b) H1
theorem aaW{elts:List Expr}{x1:Nat}{tpos:Pos}(hg:Gl X "enumerate")(hm:X.mg "enumerate" = none)(ha:PA X [a] ta)(hs:starEach [a] X.env=[(false,eval a X.env)]:=by rfl) :
  PI X (.Tuple elts x1 tpos) (.Call (.Name "enumerate" p) [a] [] pos) (ae9 X.K ta):=by
 intro pins s σ H R I h;refine Call_ (nB I hg hm pX (PyProof.Rows.callWith_type1 (thn (ha pos pins s σ H _ I h) λ us s1 ⟨vs,H1,I1,r1,q1⟩=>?_) hs rfl));obtain⟨b,xs,e,hq,q⟩:=q1;subst e;cases r1 with
 | cons r rr =>
  cases rr;cases (show _=Value.ref b from r);obtain⟨its,rv,pl,hz⟩:=I1.list hq;refine call_enumerate_list pl.isList λ h' st li hsz kp=>?_;have I2:Inv X pins σ H1 {s1 with heap:=h'}:=I1.kept (t':=s1.toks) kp;refine wpAny_pyIter_enum st ?_;refine⟨_,[_,_],_,_,H1,rfl,I2,wL b _ _ (Nat.succ_ne_self _),⟨⟨_,st⟩,li⟩,λ c hc=>?_,q⟩;have z:c=s1.heap.objs.size+1\/c=s1.heap.objs.size:=by simpa using hc
  rcases z with rfl | rfl
  ·exact I1.uS (Nat.le_succ _) (I1.hok.fresh (Nat.le_succ _))
  ·exact I1.uS (Nat.le_refl _) (I1.hok.fresh (Nat.le_refl _))
def qD(ds:List PyData):List W:=(List.range ds.length).map λ i=>.d (.tuple [.int (i:Nat),ds.getD i .none])
def aeF(t:TAd)(τ:DS)(M:MH)(R:List W->MH->Prop):Prop:=t τ M λ ws M1=>∃ ds,ws=[.d (.list ds)]/\R (qD ds) M1
section
variable {X:Cx}{K:FG}
theorem rP:dZ X (.type "dict") (λ xs H Q=>∃ a kvs,xs=[.ref a]/\Rd H a (.dK kvs)/\∀ p,H p=none->Q (.ref p) (upd H p (.dK kvs))):=by intro pins s σ H xs us Q I r h;obtain⟨a,kvs,rfl,hr,q⟩:=h;obtain⟨u,rfl,rx⟩:=vals1 r;cases rx;exact yw I hr λ p s' hp I'=>⟨.ref p,_,I',rfl,q p hp⟩
def sM(ws:List W)(M:MH)(Q:QD):Prop:=∃ a kvs,ws=[.m a]/\M a=some (.dic kvs)/\∀ p,M p=none->Q (.m p) (bz M p (.dic kvs))
theorem xq:fP K (λ xs H Q=>∃ a kvs,xs=[.ref a]/\Rd H a (.dK kvs)/\∀ p,H p=none->Q (.ref p) (upd H p (.dK kvs))) sM:=by intro vs H ws M Qd Q r m ⟨a,kvs,e,hm,q⟩ k;subst e;obtain⟨v,e1,r1⟩:=gc r;have e2:v=.ref a:=r1;subst e2;obtain⟨l,e,pr⟩:=m _ _ hm;refine⟨a,l,e1,.inl e,λ p hp=>?_⟩;have kp:Kp H (upd H p (.dK l)):=Kp.new hp;exact k _ _ (.m p) _ kp rfl (m.put (mo:=.dic kvs) kp ⟨l,ax,Paired.j6 pr λ p q z=>⟨z.1,z.2.keep kp⟩⟩) (q p (m.free hp))
end
end D
namespace Rc
open L2 D
section
variable {α:Type}(nm:α->Str)
def rk(g:α->PyData)(L:List α):List (Key×PyData):=L.map λ a=>(.inr (nm a),g a)
def fd(L:List α)(n:Str):Option α:=L.find? λ a=>decide (nm a=n)
def pt(L:List α)(z:α):List α:=match fd nm L (nm z) with
 | none=>L++[z]
 | some _=>L.map λ y=>if nm y=nm z then z else y
variable {nm}
end
mutual
def okD:Nat->PyData->Bool
 | _,.none=>true
 | _,.bool _=>true
 | _,.int i=>decide (i.natAbs<2 ^ 100)
 | _,.str z=>yE z
 | k+1,.list ds=>okA k ds
 | k+1,.tuple ds=>okA k ds
 | _,_=>false
def okA:Nat->List PyData->Bool
 | _,[]=>true
 | k,d::ds=>okD k d&&okA k ds
end
theorem zi(h:yE z=true):Asc z:=aa0 h
theorem vp(h:Asc z):PyData.strOk z=true:=by
 unfold PyData.strOk;rw[Array.all_eq_true_iff_forall_mem];intro c hc;exact decide_eq_true (by have:=h c (by simpa using hc);omega)
theorem aa3(h:yE z=true):PyData.strOk z=true:=vp (zi h)
mutual
theorem wJ:∀ (k:Nat) (d:PyData),okD k d=true->gf d=true
 | _,.none,_=>rfl
 | _,.bool _,_=>rfl
 | _,.int i,h=>by
  cases ‹Nat› <;> simp only[okD,decide_eq_true_eq] at h<;>exact decide_eq_true (log2_small h)
 | _,.str z,h=>by
  cases ‹Nat› <;> simp only[okD] at h<;>exact h
 | k+1,.list ds,h=>by simp only[okD] at h;simp only[gf];exact ou k ds h
 | k+1,.tuple ds,h=>by simp only[okD] at h;simp only[gf];exact ou k ds h
 | 0,.list ds,h=>by simp[okD] at h
 | 0,.tuple ds,h=>by simp[okD] at h
 | k,.dict kvs,h=>by cases k<;>simp[okD] at h
theorem ou:∀ (k:Nat) (ds:List PyData),okA k ds=true->mx ds=true
 | _,[],_=>by simp[mx]
 | k,d::ds,h=>by simp only[okA,Bool.and_eq_true] at h;simp only[mx,wJ k d h.1,ou k ds h.2,Bool.and_self]
end
mutual
theorem wX:∀ (k:Nat) (d:PyData),okD k d=true->PyData.canLay0 d=true
 | _,.none,_=>by simp[PyData.canLay0]
 | _,.bool _,_=>by simp[PyData.canLay0]
 | _,.int i,h=>by simp[PyData.canLay0]
 | _,.str z,h=>by
  cases ‹Nat› <;> simp only[okD] at h<;>simp[PyData.canLay0,aa3 h]
 | k+1,.list ds,h=>by simp only[okD] at h;simp only[PyData.canLay0];exact sk k ds h
 | k+1,.tuple ds,h=>by simp only[okD] at h;simp only[PyData.canLay0];exact sk k ds h
 | 0,.list ds,h=>by simp[okD] at h
 | 0,.tuple ds,h=>by simp[okD] at h
 | k,.dict kvs,h=>by cases k<;>simp[okD] at h
theorem sk:∀ (k:Nat) (ds:List PyData),okA k ds=true->PyData.canLayAll0 ds=true
 | _,[],_=>by simp[PyData.canLayAll0]
 | k,d::ds,h=>by simp only[okA,Bool.and_eq_true] at h;simp only[PyData.canLayAll0,wX k d h.1,sk k ds h.2,Bool.and_self]
end
mutual
theorem oE:∀ (k:Nat) (d:PyData),okD k d=true->PyData.depth d<=k+1
 | _,.none,_=>by simp[PyData.depth]
 | _,.bool _,_=>by simp[PyData.depth]
 | _,.int i,h=>by simp[PyData.depth]
 | _,.str z,h=>by simp[PyData.depth]
 | k+1,.list ds,h=>by simp only[okD] at h;have:=lh k ds h;simp only[PyData.depth];omega
 | k+1,.tuple ds,h=>by simp only[okD] at h;have:=lh k ds h;simp only[PyData.depth];omega
 | 0,.list ds,h=>by simp[okD] at h
 | 0,.tuple ds,h=>by simp[okD] at h
 | k,.dict kvs,h=>by cases k<;>simp[okD] at h
theorem lh:∀ (k:Nat) (ds:List PyData),okA k ds=true->PyData.depthAll ds<=k+1
 | _,[],_=>by simp[PyData.depthAll]
 | k,d::ds,h=>by simp only[okA,Bool.and_eq_true] at h;have h1:=oE k d h.1;have h2:=lh k ds h.2;simp only[PyData.depthAll];omega
end
mutual
theorem xl:∀ (k:Nat) (d:PyData),okD k d=true->PyData.hasDict d=false
 | _,.none,_=>by simp[PyData.hasDict]
 | _,.bool _,_=>by simp[PyData.hasDict]
 | _,.int i,h=>by simp[PyData.hasDict]
 | _,.str z,h=>by simp[PyData.hasDict]
 | k+1,.list ds,h=>by simp only[okD] at h;simp only[PyData.hasDict];exact sd k ds h
 | k+1,.tuple ds,h=>by simp only[okD] at h;simp only[PyData.hasDict];exact sd k ds h
 | 0,.list ds,h=>by simp[okD] at h
 | 0,.tuple ds,h=>by simp[okD] at h
 | k,.dict kvs,h=>by cases k<;>simp[okD] at h
theorem sd:∀ (k:Nat) (ds:List PyData),okA k ds=true->PyData.hasDictAll ds=false
 | _,[],_=>by simp[PyData.hasDictAll]
 | k,d::ds,h=>by simp only[okA,Bool.and_eq_true] at h;simp only[PyData.hasDictAll,xl k d h.1,sd k ds h.2,Bool.or_self]
end
theorem jB(hk:k<=50)(h:okD k d=true):rH d=true:=by have h1:=wX k d h;have h2:=oE k d h;have h3:=xl k d h;simp only[rH,SeqAt.shaped,h1,h3,Bool.true_and,Bool.not_false,Bool.and_true];exact decide_eq_true (by omega)
theorem yZ(hk:k<=50)(h:okD k d=true)(h':okD k d'=true):gb d d'=true:=by have h1:=jB hk h;have h2:=jB hk h';cases d<;>cases d'<;>simp[gb,h1,h2]
theorem abR(h:okD k d=true):PyData.eqv d d=true:=SeqAt.eqv_refl _ (wX k d h)
theorem lQ(hk:k<=50)(h:okD k d=true)(hb:big d<=1000000):fJ d=true:=
 aaX (wJ k d h) hb (by have:=oE k d h;omega) (xl k d h)
theorem vf:∀ {ds:List PyData},(∀ d∈ds,big d<=c)->uV ds<=ds.length * (c+2)
 | [],_=>by simp[uV]
 | d::ds,h=>by have h1:=h d (by simp);have h2:=vf (ds:=ds) λ x hx=>h x (by simp[hx]);simp only[uV,List.length_cons];rw[Nat.add_mul];omega
theorem dP(x y:Str):PyData.eqv (.str x) (.str y)=decide (x=y):=by
 rw[<- qY]
 by_cases e:x=y
 ·subst e;simp
 ·simp[e]
theorem i8(x y:Int):PyData.eqv (.int x) (.int y)=decide (x=y):=by
 rw[PyData.eqv]
 by_cases e:x=y
 ·subst e;simp
 ·simp[e]
theorem bt{M:MH}{a b:Addr}{o:MO}(ha:M a=some o)(hb:M b=none):a≠b:=λ e=>by rw[e,hb] at ha;cases ha
theorem iC{M:MH}{a b:Addr}{o u:MO}(h:M a=some o)(hb:M b=none):bz M b u a=some o:=by rw[aq (bt h hb)];exact h
end Rc
namespace Stc
open L2 D Rc
theorem drawn{z:Str}(hz:Asc z)(hz0:0<z.length)(hz1:z.length<=1000){p:Addr}{M M1:MH}{ws:List W}{fr:List Nat}{τ:DS}{te:TD}{k:Nat}{Q:List PyData->MH->Prop}(hk:ws.length=k)(hs:k<=1000)(b1:Bag M1 p)(f1:∀ q,q≠p->M1 q=M q)
  (hte:∀ w∈ws,∀ (M':MH),Bag M' p->∀ R:W->MH->Prop,(∀ (r:Int) M'' (c:Nat),c∈z.cps.toList->Bag M'' p->(∀ q,q≠p->M'' q=M' q)->R (.d (.str ⟨#[c]⟩)) M'')->te (some w::fr.map λ j=>(τ[j]?).getD none) M' R)
  (q:∀ (ys:List Str) M',(∀ y∈ys,y.length<=1/\Asc y)->ys.length<=k->Bag M' p->(∀ q,q≠p->M' q=M q)->Q (ys.map PyData.str) M') :
  ∃ P:Nat->List PyData->DS->MH->Prop,P 0 [] (ab3 1 fr τ) M1 /\
   (∀ i w acc τ M,ws[i]? =some w->P i acc τ M->acc.length<sizeLine/\gN 0 w τ M λ τ2 M2=>abz τ2 M2 λ b M3=>if b=true then te τ2 M3 λ y M4=>∃ d,y=.d d/\P (i+1) (acc++[d]) τ2 M4 else P (i+1) acc τ2 M3) /\
   ∀ acc τ M,P ws.length acc τ M->Q acc M:=by
 refine adO (λ M'=>Bag M' p/\∀ q,q≠p->M' q=M q) (Tx 1) (by have:=s16;omega) ⟨b1,f1⟩ (λ w hw M' hj P' hp _=>?_) (λ acc M2 hj hg hlen=>?_)
 ·exact hte w hw M' hj.1 _ λ r M'' c hc b f=>⟨_,rfl,hp _ _ ⟨_,rfl,Nat.le_refl _,aaC hz hc⟩ ⟨b,λ q hq=>(f q hq).trans (hj.2 q hq)⟩⟩
 ·obtain⟨ys,e,hy⟩:=wR hg;subst e;exact q ys M2 hy (by simpa [hk] using hlen) hj.1 hj.2
end Stc
namespace D
open L2
section
variable {K:FG}
variable {X:Cx}{sc:Scope}{own:List Str}{fr:List Nat}{di:TId}{g:TGd}{tt:TTd}{te:TD}{tg iter elt:Expr}{ifs:List Expr}{pos:Pos}
end
section
variable {X:Cx}{K:FG}
end
theorem jf:∀ {ns:List Int} {kvs:List (Key×V)} {vs:List (Key×Value)} {us:List Value},KV kvs vs->kvs.map (·.2)=ns.map V.int->us.length=vs.length->(∀ (i:Nat) v,us[i]? =some v->∃ k,vs[i]? =some (k,v))->IntsAre us ns
 | [],kvs,vs,us,r,h,hl,hp=>by
  have e:kvs=[]:=by simpa using h
  subst e;cases r;have e:us=[]:=by simpa using hl
  subst e;exact .nil
 | n::ns,kvs,vs,us,r,h,hl,hp=>by
  match kvs,us,r,h,hl,hp with
  | (k,x)::kvs,u::us,.cons (b:=b) r1 r2,h,hl,hp =>
   simp only[List.map_cons,List.cons.injEq] at h;obtain⟨k',e⟩:=hp 0 u rfl;simp at e;have hx:=r1.2;rw[h.1,e] at hx;obtain⟨t,et⟩:=(show ∃ t,u=Value.int n t from hx);subst et;exact .cons n t (jf r2 h.2 (by simpa using hl) λ i v hi=>by simpa using hp (i+1) v (by simpa using hi))
  | [],_,r,h,_,_=>simp at h
  | _::_,[],.cons _ _,_,hl,_=>simp at hl
theorem u9(hg:Gl X "enumerate")(hm:X.mg "enumerate" = none)(ha:Jd (PAd X [a] t))(h1:dQ a=false:=by rfl):Jd (PId X (.Tuple elts x1 tpos) (.Call (.Name "enumerate" p) [a] [] pos) (aeF t)):=⟨have ha:=ha.h;aes (aaW hg hm ha (by rw[bN a [] X.env h1];rfl)) λ σ H R hq71=>by
 obtain⟨τ,M,Rd,A,h,k⟩:=hq71;refine⟨τ,M,_,A,h,λ vs H1 ws M1 kp r m hq72=>?_⟩;obtain⟨ds,ew,q⟩:=hq72;subst ew;obtain⟨v,ev,r1⟩:=gc r;simp only[aH,aA] at r1;obtain⟨b,xs,e1,hs,ra⟩:=r1;subst ev e1;have hl:=ra.length;refine⟨b,xs,rfl,hs.sq,k _ H1 _ M1 kp m (λ H2 kp2 i=>?_) q⟩;have hs2:=(hs.keep kp2).sq;have hlw:(qD ds).length=xs.length:=by simp[qD,hl]
 refine⟨λ hi=>⟨xs,xs[i]'(by omega),hs2,by simp⟩,λ hi=>⟨xs,hs2,by omega⟩,λ x H' hi hq73=>?_⟩;obtain⟨T,v,hT,ex,eH,hv⟩:=hq73;subst ex eH;have hxv:=hv xs hs2;obtain⟨d,e3,rd⟩:=(ra.keep kp2).get' hxv;have kpn:Kp H2 (upd H2 T (.tup [.int i,v])):=Kp.new hT;have hid:i<ds.length:=by rw[hlw] at hi;omega
 refine⟨kpn,λ M m=>m.new hT,.d (.tuple [.int (i:Nat),ds.getD i .none]),by simp[qD,hid],?_⟩;have ed:ds.getD i .none=d:=by simp[List.getD,e3]
 rw[ed];simp only[aH,aA,bA];exact⟨T,_,rfl,.inl (.inl ax),_,_,rfl,rfl,_,_,rfl,rd.keep kpn,rfl⟩⟩
structure agG(K:FG)(x qual:Str)(st:Stmt)(f:Addr)(fd:FuncData):Prop where
 ex:∃ (oc:Value) (od:Option Addr) (dV kV doc pm:Value) (an:Option Addr) (cdv ct:Value) (osl:Array (Option Value)),
  fd=W.fnOf x qual (aE st) (aD st) (ag st) dV kV doc pm an cdv ct/\K.lookup f=some ⟨oc,od,.func fd,osl⟩/\W.codeIn K cdv qual=true
 kp:W.keepIn K (.ref f)=true
section
variable {P:Program}{w:World}{K:FG}{mg:Str->Option Value}{base h:Heap}
end
theorem Inv.vi{t':Nat}{ch:List Addr}(I:Inv X pins σ H s)(k:∀ b o,b ∉ ch->s.heap.get? b=some o->h'.get? b=some o)(f:∀ b∈ch,uA X pins H b):Inv X pins σ H {s with heap:=h',toks:=t'}:=by
 have nin:∀ b u,H b=some u->b ∉ ch:=λ b u q z=>by rw[(f b z).1] at q;cases q
 refine I.step (g':=s.gens) (d':=s.drawn) (ch:=ch) (λ b hb=>?_) (λ b o _ _ hc q _=>k b o hc q) (λ b o _ _ hc q _=>⟨o.slots,k b o hc q⟩) (λ _ _ _ _ n=>n)
  (λ b o hc q=>⟨o,k b o hc q⟩) (λ _ _ q=>q) (λ _ _ _ q=>q) (λ b ps q=>⟨#[],by rw[q];simp⟩) (λ m hm=>?_) (λ b u q=>?_) I.bare
 ·obtain⟨f0,f1,f2,f3,f4,f5⟩:=f b hb;exact⟨f3,f1,f4,f5⟩
 ·obtain⟨o,es,ep,ho,r⟩:=hm;exact⟨o,es,ep,k _ o (λ z=>(f _ z).2.1 rfl) ho,r⟩
 ·refine(I.hok b u q).rG (λ c v hc z=>k c v ?_ z) (λ _ z=>z) λ _ _ z=>z;rcases hc with z | z
  ·rw[z];exact nin b u q
  ·exact nin c _ z
theorem ade:bootBuiltins "zip" = some (.type "zip"):=by decide +kernel
def abI(ds es:List PyData):List W:=(List.range (min ds.length es.length)).map λ i=>.d (.tuple [ds.getD i .none,es.getD i .none])
end D
open L2 D
namespace Stc
open L2 D Rc
abbrev jk:List Str:=["thing"]
def ji:TSd:=
  bI (dIf (dOr (qB (a9 (dCB gx (ai (ao 0) (ai (dC (.t "str")) (aW)))))) (qB (a9 (gD sU sU (dC (.d (.int 1))) (dCB l9 (ai (ao 0) (aW))) (dC (.d (.int 8)))))))
   (eK (dC (.d (.bool false))))
   (bX)) <|
  eK (dCB abg (ai (dLC (i7 (ao 0)) (gN 0) (abz) (gD sU sU (dC (.d (.str "a"))) (ao 0) (dC (.d (.str "z")))) 1 []) (aW)))
abbrev hJ:List Str:=["thing"]
def gW:TSd:=
  eK (se (dCB gx (ai (ao 0) (ai (dC (.t "int")) (aW)))) (yP (dCB gx (ai (ao 0) (ai (dC (.t "bool")) (aW))))))
abbrev fK:List Str:=["thing", "low", "high"]
def fV(bq:SpD):TSd:=
  eK (se (cN bq (ai (ao 0) (aW))) (gD sU sU (ao 1) (ao 0) (ao 2)))
def Ext(M M':MH):Prop:=∀ q o,M q=some o->M' q=some o
theorem Ext.refl(M:MH):Ext M M:=λ _ _ h=>h
theorem Ext.trans(h:Ext A B)(k:Ext B C):Ext A C:=λ q o e=>k q o (h q o e)
theorem Ext.new(h:M p=none):Ext M (bz M p o):=λ q u e=>iC e h
theorem Ext.del(h:Ext M M')(hp:M p=none):Ext M (yI M' p):=λ q u e=>by have hq:q≠p:=bt e hp;simp only[yI,if_neg hq];exact h q u e
theorem Ext.upd(h:Ext M M')(hp:M p=none):Ext M (bz M' p o):=λ q u e=>by rw[aq (bt e hp)];exact h q u e
theorem Ext.none(h:Ext M M')(hp:M' p=none):M p=none:=by
 cases e:M p with
 | none=>rfl
 | some o=>rw[h p o e] at hp;cases hp
theorem Ext.bag(h:Ext M M')(hb:Bag M p):Bag M' p:=by obtain⟨a,b,c,ns,e,z⟩:=hb;exact⟨a,b,c,ns,h _ _ e,z⟩
theorem vL{α:Type}{gt:TGd}{te:TD}{Q:List PyData->DS->MH->Prop}{τ0:DS}{M:MH}(L:List α)(g:α->W)(f:α->PyData)(S:DS->Prop)(hL:L.length<=1000)(h0:S τ0)
  (step:∀ a∈L,∀ τ,S τ->∀ R:PyData->DS->MH->Prop,(∀ τ2,S τ2->R (f a) τ2 M)->gt (g a) τ M λ τ2 M2=>te τ2 M2 λ y M4=>∃ d,y=.d d/\R d τ2 M4)
  (q:∀ τ,Q (L.map f) τ M) :
  ∃ P:Nat->List PyData->DS->MH->Prop,P 0 [] τ0 M /\
   (∀ i w acc τ M,(L.map g)[i]? =some w->P i acc τ M->acc.length<sizeLine/\gt w τ M λ τ2 M2=>abz τ2 M2 λ b M3=>if b=true then te τ2 M3 λ y M4=>∃ d,y=.d d/\P (i+1) (acc++[d]) τ2 M4 else P (i+1) acc τ2 M3) /\
   ∀ acc τ M,P (L.map g).length acc τ M->Q acc τ M:=by
 refine⟨λ i acc τ M'=>M'=M/\acc=(L.take i).map f/\S τ,⟨rfl,rfl,h0⟩,?_,?_⟩
 ·rintro i w acc τ M' hw ⟨rfl,rfl,hs⟩;rw[List.getElem?_map] at hw;cases e:L[i]? with
  | none=>rw[e] at hw;cases hw
  | some a =>
   rw[e] at hw;cases hw;have hi:=(List.getElem?_eq_some_iff.mp e).1;refine⟨by rw[List.length_map,List.length_take];have:=s16;omega,?_⟩;refine step a (List.mem_of_getElem? e) τ hs (λ d τ2 M4=>M4=M'/\(L.take i).map f++[d]=(L.take (i+1)).map f/\S τ2) λ τ2 h2=>⟨rfl,?_,h2⟩;rw[List.take_succ,e];simp
 ·rintro acc τ M' ⟨rfl,rfl,hs⟩;rw[List.length_map,List.take_length];exact q τ
abbrev Dm:=List (Str×Int)
def gI(r:Str×Int):PyData:=.int r.2
def Dc(M:MH)(a:Addr)(D:Dm):Prop:=M a=some (.dic (adA (rk Prod.fst gI D)))
def val(D:Dm)(k:Str):Int:=((fd Prod.fst D k).map (·.2)).getD 0
def more(D:Dm)(k:Str)(n:Int):Dm:=pt Prod.fst D (k,val D k+n)
def vals(D:Dm):List Int:=D.map λ r=>r.2
def dsc(ns:List Int):List Int:=ns.mergeSort λ a b=>decide (a >= b)
def room(rs:List Int)(i:Int):Int:=(rs.map λ m=>if i<m then i else m).sum
def agX(rs:List Int)(ns:List Int):Bool:=(List.range ns.length).all λ i=>decide ((ns.take (i+1)).sum<=room rs ((i:Int)+1))
def ahs(rs:List Int)(D:Dm):Bool:=agX rs (dsc (vals D))
def OkR(rs:List Int):Prop:=rs.length<=8/\∀ m∈rs,0<=m/\m<=6
def gr(rs:List Int)(D:Dm)(k:Str):Nat->Int
 | 0=>0
 | n+1=>if ahs rs (more D k ((n:Int)+1))=true then (n:Int)+1 else gr rs D k n
theorem sealed(hl:M l=none):Ext M (yI (bz M l o) l):=(Ext.new hl).del hl
abbrev Bs:=List (Str×Int)
abbrev As:=List (Str×Str×Int)
def rooms(B:Bs):List Int:=B.map (·.2)
theorem zT{α β:Type}{L:List α}{f:α->β}{i:Nat}{w:β}(h:(L.map f)[i]? =some w):∃ a,L[i]? =some a/\w=f a:=by
 rw[List.getElem?_map] at h;cases e:L[i]? with
 | none=>rw[e] at h;cases h
 | some a=>rw[e] at h;cases h;exact⟨a,rfl,rfl⟩
theorem ad0{lo:Int}{n i:Nat}{w:W}(h:(sE lo n)[i]? =some w):i<n/\w=.d (.int (lo+(i:Int))):=by
 unfold sE at h;obtain⟨j,hj,rfl⟩:=zT h;obtain⟨h1,h2⟩:=List.getElem?_eq_some_iff.mp hj;simp at h1 h2;subst h2;exact⟨h1,rfl⟩
theorem sG{α:Type}{xs:List α}{i:Nat}(hi:i<=xs.length):D.cutD xs none (some (i:Int))=xs.take i:=by
 unfold D.cutD;have e:HT.sIx xs.length 0 none=0:=rfl;have e2:HT.sIx xs.length xs.length (some (i:Int))=i:=by
  unfold HT.sIx;simp;rw[if_neg (by omega)];omega
 rw[e,e2];simp
def stp(rs:List Int)(s:Dm×As)(r:Str×Str×Int):Dm×As:=
 (more s.1 r.2.1 (gr rs s.1 r.2.1 r.2.2.toNat),s.2++[(r.1,r.2.1,gr rs s.1 r.2.1 r.2.2.toNat)])
def run(rs:List Int)(A:As):Dm×As:=A.foldl (stp rs) ([],[])
def OkC(A:As):Prop:=A.length<=8/\∀ r∈A,0<=r.2.2/\r.2.2<=6
def jW(c:Nat):Bool:=decide (97<=c)&&decide (c<=122)
def wd(z:Str):Bool:=decide (1<=z.length)&&decide (z.length<=8)&&z.cps.toList.all jW
theorem wF(h:wd z=true):1<=z.length/\z.length<=8:=by simp[wd] at h;exact h.1
theorem zS(h:wd z=true):∀ c∈z.cps.toList,jW c=true:=by simp only[wd,Bool.and_eq_true,List.all_eq_true] at h;exact h.2
theorem sA(h:wd z=true):yE z=true:=by have:=zS h;unfold yE;rw[<- Array.all_toList,List.all_eq_true];intro c hc;have:=this c hc;simp[jW] at this;simp;omega
theorem eL{c:Bool}{A B:Prop}(e:c=true)(h:A):if c=true then A else B:=by rw[e];exact n8 h
theorem cB{c:Bool}{A B:Prop}(e:c=false)(h:B):if c=true then A else B:=by rw[e];exact fh h
theorem lt1(a b:Nat):decide ([a] < [b])=decide (a<b):=by
 by_cases h:a<b
 ·rw[decide_eq_true h];exact decide_eq_true (List.cons_lt_cons_iff.mpr (.inl h))
 ·rw[decide_eq_false h];refine decide_eq_false λ z=>?_;rcases List.cons_lt_cons_iff.mp z with q | ⟨_,q⟩
  ·exact h q
  ·exact absurd q (by simp)
theorem afB(i:Int):mG (.int i) "int" = true:=by simp[mG,tyD]
theorem adn(i:Int):mG (.int i) "bool" = false:=by simp[mG,tyD]
theorem aav(z:Str):mG (.str z) "str" = true:=by simp[mG,tyD]
theorem agn(ds:List PyData):mG (.list ds) "list" = true:=by simp[mG,tyD]
theorem agk(ds:List PyData):mG (.tuple ds) "tuple" = true:=by simp[mG,tyD]
def bq:SpD:=λ ws M Q=>∃ i:Int,ws=[.d (.int i)]/\Q (.d (.bool true)) M
theorem jY:∀ ws M Q,bq ws M Q->ws.length=1:=by rintro ws M Q ⟨d,rfl,_⟩;rfl
theorem iS:∀ ws M Q,bq ws M Q->gW {nx:=λ _ M'=>Q (.d .none) M',rt:=Q} (bh hJ ws) M:=by
 rintro ws M Q ⟨i,rfl,k⟩;refine⟨_,rfl,_,_,_,rfl,.d,.int,_,rfl,?_⟩;rw[afB];refine n8 ⟨_,rfl,_,_,_,rfl,.d,.bool,_,rfl,?_⟩;rw[adn];exact k
def bD:SpD:=λ ws M Q=>∃ i lo hi:Int,ws=[.d (.int i),.d (.int lo),.d (.int hi)]/\lo<=i/\i<=hi/\Q (.d (.bool true)) M
theorem jm:∀ ws M Q,bD ws M Q->ws.length=3:=by rintro ws M Q ⟨i,lo,hi,rfl,_⟩;rfl
theorem ia:∀ ws M Q,bD ws M Q->fV bq {nx:=λ _ M'=>Q (.d .none) M',rt:=Q} (bh fK ws) M:=by
 rintro ws M Q ⟨i,lo,hi,rfl,h1,h2,k⟩;refine⟨_,rfl,i,rfl,_,rfl,n8 ⟨_,rfl,_,rfl,.inl ⟨_,_,rfl,rfl,_,rfl,?_⟩⟩⟩;rw[decide_eq_true h1];refine n8 ⟨_,rfl,.inl ⟨_,_,rfl,rfl,?_⟩⟩;rw[show((λ i j:Int=>PyData.bool (decide (i<=j))) i hi)=.bool true from congrArg PyData.bool (decide_eq_true h2)];exact k
def aQ:SpD:=λ ws M Q=>∃ z:Str,ws=[.d (.str z)]/\wd z=true/\Q (.d (.bool true)) M
theorem k6:∀ ws M Q,aQ ws M Q->ws.length=1:=by rintro ws M Q ⟨d,rfl,_⟩;rfl
theorem jO:∀ ws M Q,aQ ws M Q->ji {nx:=λ _ M'=>Q (.d .none) M',rt:=Q} (bh jk ws) M:=by
 rintro ws M Q ⟨z,rfl,hz,k⟩;have hl:=wF hz;have hfit:zW (.d (.str z))=true:=decide_eq_true (few (by omega));refine⟨_,rfl,_,_,_,rfl,.d,.str,_,rfl,?_⟩;rw[aav];refine fh ⟨_,rfl,_,_,rfl,rfl,hfit,.inl ⟨_,_,rfl,rfl,_,rfl,?_⟩⟩;rw[decide_eq_true (show(1:Int)<=(z.length:Nat) by omega)];refine n8 (.inl ⟨_,_,rfl,rfl,_,rfl,?_⟩);rw[decide_eq_true (show((z.length:Nat):Int)<=8 by omega)];refine fh ⟨_,rfl,_,rfl,?_⟩;dsimp only;have ea:("a" : Str).cps.toList=[97]:=by decide +kernel
 have ez:("z" : Str).cps.toList=[122]:=by decide +kernel
 refine vL z.cps.toList (λ c=>W.d (.str ⟨#[c]⟩)) (λ c=>.bool true) (λ τ=>∃ x,τ=[x]) (by rw[str_len];omega) ⟨_,rfl⟩ (λ c hc τ hτ R h=>?_) (λ τ=>?_)
 ·obtain⟨x,rfl⟩:=hτ;have hs:=zS hz c hc;simp[jW] at hs;have q1:(!decide ((⟨#[c]⟩:Str).cps.toList<("a" : Str).cps.toList))=true:=by rw[ea,show(⟨#[c]⟩:Str).cps.toList=[c] from rfl,lt1];simp;omega
  have q2:(!decide (("z" : Str).cps.toList<(⟨#[c]⟩:Str).cps.toList))=true:=by rw[ez,show(⟨#[c]⟩:Str).cps.toList=[c] from rfl,lt1];simp;omega
  refine⟨_,rfl,.inr ⟨_,_,rfl,rfl,_,rfl,?_⟩⟩;refine eL q1 (.inr ⟨_,_,rfl,rfl,?_⟩);refine⟨_,rfl,?_⟩;have:=h [some (.d (.str ⟨#[c]⟩))] ⟨_,rfl⟩;rw[<- q2] at this;exact this
 ·refine⟨z.cps.toList.map λ _=>true,by rw[List.map_map];rfl,?_⟩;rw[show(z.cps.toList.map λ _=>true).all id=true from by rw[List.all_eq_true];intro b hb;obtain⟨_,_,rfl⟩:=List.mem_map.mp hb;rfl];exact k
def agt(r:Str×Int):Prop:=wd r.1=true/\0<=r.2/\r.2<=6
def lsS(a b:Str):Bool:=decide (a.cps.toList<b.cps.toList)
structure OkB(B:Bs):Prop where
 len:B.length<=8
 row:∀ r∈B,agt r
 up:∀ i r s,B[i]? =some r->B[i+1]? =some s->lsS r.1 s.1=true
theorem yG{α:Type}{L:List α}{f:α->PyData}{i:Nat}{w:W}(h:(qD (L.map f))[i]? =some w):∃ r,L[i]? =some r/\w=.d (.tuple [.int (i:Nat),f r]):=by
 unfold qD at h;rw[List.getElem?_map] at h;have hi:i<L.length:=by
  by_cases q:i<L.length
  ·exact q
  ·rw[List.getElem?_eq_none (by simpa using q)] at h;cases h
 rw[List.getElem?_range (by simpa using hi)] at h;cases h;refine⟨L[i],List.getElem?_eq_getElem hi,?_⟩;simp[List.getD,List.getElem?_map,List.getElem?_eq_getElem hi]
structure ahb(r:Str×Str×Int):Prop where
 w:wd r.1=true
 k:wd r.2.1=true
 c0:0<=r.2.2
 c6:r.2.2<=6
structure OkA(A:As):Prop where
 len:A.length<=8
 row:∀ r∈A,ahb r
 nd:(A.map λ r=>r.1).Nodup
theorem OkA.c(h:OkA A):OkC A:=⟨h.len,λ r hr=>⟨(h.row r hr).c0,(h.row r hr).c6⟩⟩
theorem OkB.r(h:OkB B):OkR (rooms B):=⟨by unfold rooms;rw[List.length_map];exact h.len,λ m hm=>by obtain⟨r,hr,rfl⟩:=List.mem_map.mp hm;exact(h.row r hr).2⟩
theorem aaS{L:List Str}(h:L.Nodup){i:Nat}{z:Str}(e:L[i]? =some z):z ∉ L.take i:=by intro hm;obtain⟨j,hj,ej⟩:=List.getElem_of_mem hm;rw[List.length_take] at hj;rw[List.getElem_take] at ej;obtain⟨hi,ei⟩:=List.getElem?_eq_some_iff.mp e;have:=(List.getElem_inj (h₀:=by omega) (h₁:=hi) h).mp (ej.trans ei.symm);omega
def oX(k:Nat):Str:=Txt.mul ⟨#[("abcdefgh" : Str).cps.toList.getD k 0]⟩ (1+(0+(k:Int)) % 2)
end Stc
namespace HT
open PySem PyProof.Rows
section
open PySem.SeqAt
open PySem.MeetsSeq PySem.MeetsSeq2 PySem.MeetsSeq3
end
end HT
namespace D
open L2
section
variable {X:Cx}{K:FG}
end
end D
namespace Stc
open L2 D Rc
def exc(t:Int)(xs:List Int):Int:=(xs.map λ x=>if t<x then x-t else 0).sum
theorem abU(h:(sE 0 n)[i]? =some w):i<n/\w=.d (.int (i:Int)):=by obtain⟨h1,h2⟩:=ad0 h;rw[Int.zero_add] at h2;exact⟨h1,h2⟩
def Dom(xs ys:List Int):Prop:=∀ t,0<=t->exc t xs<=exc t ys
theorem Dom.refl(xs:List Int):Dom xs xs:=λ _ _=>Int.le_refl _
theorem Dom.trans(h:Dom xs ys)(k:Dom ys zs):Dom xs zs:=λ t ht=>Int.le_trans (h t ht) (k t ht)
end Stc
namespace D
open L2
end D
open L2 D
namespace L2
abbrev DcW:=Nat->Nat->St->Hp->Prop
section
variable {X:Cx}{pins:PN}{σ:St}{H:Hp}{s:Shared}{sc:Scope}{own:List Str}{fr:List Nat}{cl:List (Str×Addr)}{fp:List Addr}{it D:Addr}{J:It}{tn:Nat->Heap->Prop}{g:TG}{tt:TT}{tk tv:TE}{W:DcW}{Fin:Hp->Prop}
 {kx vx tg iter:Expr}{ifs:List Expr}{pos:Pos}{E:VP}
end
end L2
namespace D
open L2
section
variable {K:FG}
variable {X:Cx}{sc:Scope}{own:List Str}{fr:List Nat}{di:TId}{g:TGd}{tt:TTd}{tk tv:TD}{tg iter kx vx:Expr}{ifs:List Expr}{pos:Pos}
end
end D
open L2 D
namespace L2
end L2
namespace D
open L2
end D
open L2 D
namespace D
open L2
end D
open L2 D
namespace D
open L2
end D
open L2 D
namespace D
open L2
section
variable {X:Cx}{K:FG}
end
end D
namespace PySem
namespace Dp
theorem p8:entryFor table "dict.update.loop" = some Builtin.«dict.update.loop»:=entryFor_of_tree (by kernel_rfl)
theorem l8:plainId "dict.update.loop" = true:=by decide +kernel
section
variable {prog:Program}{w:World}{A:Around}{E:VP}{s:Shared}
variable {K:Type}[DecidableEq K]{knd:KeyKind prog w K}
theorem loop{I D l:Addr}{items:Array Value}{kvs:List (K×Value)}{R:Result->Shared->Prop}{h0:Heap}(hh:A.handled=none)(hDI:D≠I)(hDl:D≠l)(hlI:l≠I)(hsz:kvs.length<=sizeLine)(hlen:items.size=kvs.length)
  (ht:∀ i (hi:i<kvs.length),∃ a key k dct sl,items[i]? =some (.ref a)/\a≠D/\a≠I/\knd.is kvs[i].1 key=true/\h0.get? a=some {cls:=.type "tuple",dict:=dct,data:=.seq #[key,kvs[i].2] k,slots:=sl}) :
  ∀ (j i:Nat) (s:Shared),kvs.length-i=j->i<=kvs.length->s.heap.IsListIter I l i->s.heap.IsList l items->s.heap.DictOf knd D (merged [] (kvs.take i))->(∀ b o,b≠D->b≠I->h0.get? b=some o->s.heap.get? b=some o) ->
   (∀ h' tk,h'.DictOf knd D (merged [] kvs)->(∀ b o,b≠D->b≠I->h0.get? b=some o->h'.get? b=some o)->R (.ok (.ret .none)) {s with heap:=h',toks:=tk}) ->
   codeAny (model prog w) A (.builtin "dict.update.loop" ⟨[.ref D,.ref I,rawInt i,.none],[]⟩) R s:=by
 intro j
 induction j with
 | zero =>
  intro i s hj hi hit hl hd hk hR;have hin:i=kvs.length:=by omega
  subst hin;refine codeAny_builtin p8 ?_;rw[Around.under_plainId l8 _];show wpAny _ A.in1 (pyNext (.ref I) >>= _) _ _ s;refine wpAny_bind (wpAny_pyNext_list_end (by simpa using hh) hit hl (by simp[hlen]) λ h' he'=>?_);show wpAny _ A.in1 (Builtin.Dict.addKeywords D [] >>= _) _ _ _;refine wpAny_bind (wpAny_pure (wpAny_pure ?_));rw[List.take_length] at hd;refine hR h' s.toks ?_ λ b o b1 b2 e=>he' b o b2 (hk b o b1 b2 e);obtain⟨o,es,ep,ho,rest⟩:=hd;exact⟨o,es,ep,he' D o hDI ho,rest⟩
 | succ j ih =>
  intro i s hj hi hit hl hd hk hR;have hlt:i<kvs.length:=by omega
  obtain⟨a,key,k,dct,sl,e1,a1,a2,hkey,e2⟩:=ht i hlt;refine codeAny_builtin p8 ?_;rw[Around.under_plainId l8 _];show wpAny _ A.in1 (pyNext (.ref I) >>= _) _ _ s;refine wpAny_bind (wpAny_pyNext_list_item hit hl e1 λ h' hit' hs'=>?_);have e3:h'.get? a=some {cls:=.type "tuple",dict:=dct,data:=.seq #[key,kvs[i].2] k,slots:=sl}:=hs'.extBut a _ a2 (hk a _ a1 a2 e2);have hT:Shared.TypeIs {s with heap:=h'} (.ref a) "tuple":= ⟨_,e3,rfl⟩;have hd':h'.DictOf knd D (merged [] (kvs.take i)):=by obtain⟨o,es,ep,ho,rest⟩:=hd;exact⟨o,es,ep,hs'.extBut D o hDI ho,rest⟩
  have hl':h'.IsList l items:=hl.extBut hs'.extBut hlI;show wpAny _ A.in1 (holding [Value.ref a] _ >>= _) _ _ _;refine wpAny_bind (wpAny_holding ?_);refine wpAny_bind (m:=tryCatch (Builtin.Dict.pairItems (.ref a)) _) (wpAny_tryCatch ?_);unfold Builtin.Dict.pairItems;refine wpAny_bind (wpAny_typeOf hT ?_);rw[if_pos (by decide)];unfold seqItems?;obtain⟨hp,g,d,tk,os⟩:=s;generalize hDS:dictSet=DS
  repeat (any_goals (first | assumption | wp_step))
  subst hDS;have hl2:(merged [] (kvs.take i)).length<=sizeLine:=by have:=merged_length_le [] (kvs.take i);simp at this;omega
  refine wpAny_dictSet_pairs (hsz:=hl2) hkey hd' λ h2 hd2 hs2=>?_;refine wpAny_pure ⟨plainId_quiet l8 _,ih (i+1) _ (by omega) hlt ?_ ?_ ?_ ?_ ?_⟩
  ·exact hit'.at λ o e=>hs2.extBut I o (Ne.symm hDI) e
  ·exact hl'.extBut hs2.extBut (Ne.symm hDl)
  ·rw[merged_take_succ [] kvs i kvs[i] (List.getElem?_eq_getElem hlt)];exact hd2
  ·exact λ b o b1 b2 e=>hs2.extBut b o b1 (hs'.extBut b o b2 (hk b o b1 b2 e))
  ·exact λ h' tk d k=>hR h' tk d k
end
end Dp
end PySem
namespace D
open L2
section
variable {X:Cx}{K:FG}
theorem oz:∀ {kvs:List (Key×V)} {ks:List (Key×Value)},KV kvs ks->ks.map (·.1)=kvs.map (·.1)
 | _,_,.nil=>rfl
 | _,_,.cons r t=>by rw[List.map_cons,List.map_cons,oz t,r.1]
end
end D
namespace Stc
open L2 D Rc
def ae2:List Int->List Int->Prop
 | _,[]=>True
 | rs,d::ds=>∃ T U:List Int,(T++U).Perm rs/\(T.length:Int)=d/\(∀ t∈T,0<t)/\ae2 (T.map (λ m=>m-1)++U) ds
theorem ae2.perm(h:rs.Perm rs'):∀ {ds:List Int},ae2 rs ds->ae2 rs' ds
 | [],_=>trivial
 | d::ds,⟨T,U,p,l,t,k⟩=>⟨T,U,p.trans h,l,t,k⟩
end Stc
namespace D
open L2
section
variable {X:Cx}{K:FG}
def afl:V->V->V->Hp->(Hp->Prop)->Prop:=λ o i v H Q=>∃ a H',o=.ref a/\abk H a i v H'/\Q H'
theorem set_dict(hu:X.A.units+1<cLine):ae5 X afl:=by intro pins s σ H o i v ov iv u Q I ro ri rv h;obtain⟨a,H',rfl,g,q⟩:=h;obtain rfl:ov=Value.ref a:=ro;exact qx hu I g ri rv λ s4 I4=>⟨H',I4,q⟩
theorem vj:∀ {kvs:List (Key×W)} {l:List (Key×V)},Paired (λ(p:Key×W) (q:Key×V)=>p.1=q.1/\aH K H p.2 q.2) kvs l->l.length=kvs.length/\∀ (i:Nat) kv,l[i]? =some kv->∃ p,kvs[i]? =some p/\p.1=kv.1
 | _,_,.nil=>⟨rfl,λ i kv h=>by simp at h⟩
 | p::kvs,_,.cons r t=>by
  obtain⟨h1,h2⟩:=vj t;refine⟨by simp[h1],λ i kv h=>?_⟩;cases i with
  | zero=>simp at h;subst h;exact⟨p,rfl,r.1⟩
  | succ i=>simp at h;obtain⟨p',e,e'⟩:=h2 i kv h;exact⟨p',by simpa using e,e'⟩
def vB(td:TD)(τ:DS)(M:MH)(R:List W->MH->Prop):Prop:=td τ M λ w M1=>∃ a kvs,w=.m a/\M1 a=some (.fdic kvs)/\R (kvs.map λ p=>kW p.1) M1
def adv(t:TS):TS:=λ D σ H=>∃ a l,H a=some (.dK l)/\∀ o,t
 {nx:=λ σ' H'=>H' a=some (.frz o (.frz o (.dK l)))/\D.nx σ' (upd H' a (.dK l)),rt:=λ v H'=>H' a=some (.frz o (.frz o (.dK l)))/\D.rt v (upd H' a (.dK l)),
  bk:=λ σ' H'=>H' a=some (.frz o (.frz o (.dK l)))/\D.bk σ' (upd H' a (.dK l)),ct:=λ σ' H'=>H' a=some (.frz o (.frz o (.dK l)))/\D.ct σ' (upd H' a (.dK l))} σ (upd H a (.frz o (.frz o (.dK l))))
theorem yH{st:Stmt}{t:TS}(h:PS X st t):PS X st (adv t):=by
 intro pins s σ H D I ⟨a,l,ha,q⟩;obtain⟨o,I1⟩:=Inv.afv I ha;refine thn (h pins s σ _ _ I1 (q o)) λ f s1 hf=>?_;cases f with
 | next=>obtain⟨σ',H',I2,e,q2⟩:=hf;exact⟨σ',_,Inv.again I ha I2 e,q2⟩
 | brk=>obtain⟨σ',H',I2,e,q2⟩:=hf;exact⟨σ',_,Inv.again I ha I2 e,q2⟩
 | cont=>obtain⟨σ',H',I2,e,q2⟩:=hf;exact⟨σ',_,Inv.again I ha I2 e,q2⟩
 | ret u=>obtain⟨v,σ',H',I2,r,e,q2⟩:=hf;exact⟨v,σ',_,Inv.again I ha I2 e,r,q2⟩
def uW(t:TSd)(D:Ed)(τ:DS)(M:MH):Prop:=∃ a kvs,M a=some (.dic kvs)/\t
 {nx:=λ τ' M'=>M' a=some (.fdic kvs)/\D.nx τ' (bz M' a (.dic kvs)),rt:=λ w M'=>M' a=some (.fdic kvs)/\D.rt w (bz M' a (.dic kvs)),
  bk:=λ τ' M'=>M' a=some (.fdic kvs)/\D.bk τ' (bz M' a (.dic kvs)),ct:=λ τ' M'=>M' a=some (.fdic kvs)/\D.ct τ' (bz M' a (.dic kvs))} τ (bz M a (.fdic kvs))
theorem Abs.back(h:H a=some (.frz o (.frz o (.dK l))))(A:Abs K H σ τ M)(e:M a=some (.fdic kvs)):Abs K (upd H a (.dK l)) σ τ (bz M a (.dic kvs)):=
 ⟨A.len,λ i w q=>let ⟨v,q1,r⟩:=A.val i w q; ⟨v,q1,aH.back h r⟩,cz.back h A.mem e⟩
end
theorem qT(ho:Jd (PD X o td)):Jd (PId X tg o (vB td)):=⟨have ho:=ho.h;aes (zj ho) λ σ H R hq74=>by
 obtain⟨τ,M,Rd,A,h,k⟩:=hq74;refine⟨τ,M,_,A,h,λ v H1 w M1 kp r m hq75=>?_⟩;obtain⟨a,kvs,ew,hm,q⟩:=hq75;subst ew;obtain⟨ob,l,e,pr⟩:=m _ _ hm;obtain⟨hlen,hget⟩:=vj pr;refine⟨a,ob,l,r,e,k _ H1 _ M1 kp m (λ H2 kp2 i=>?_) q⟩;have hlw:(kvs.map λ p=>kW p.1).length=l.length:=by rw[hlen];simp
 have e2:=kp2.frz a ob _ e;refine⟨λ hi=>⟨e2,by omega⟩,λ hi=>⟨e2,by omega⟩,λ x H' hi hq76=>?_⟩;obtain⟨eH,kv,hkv,ex⟩:=hq76;subst ex eH;obtain⟨p,e3,e4⟩:=hget i kv hkv;refine⟨Kp.refl _,λ M m=>m,kW p.1,by simp[e3],?_⟩;rw[e4];cases kv.1<;>simp[kW,uM,kV,aH,aA]⟩
theorem tP{st:Stmt}{t:TSd}(h:Jd (PSd X st t)):Jd (PSd X st (uW t)):=⟨have h:=h.h;tQ (yH h) λ D σ H hq77=>by
 obtain⟨τ,M,Dd,A,⟨a,kvs,hm,q⟩,k1,k2,k3,k4⟩:=hq77;obtain⟨l,e,pr⟩:=A.mem _ _ hm;refine⟨a,l,e,λ o=>?_⟩;have kp:Kp H (upd H a (.frz o (.frz o (.dK l)))):=Kp.set e (λ _ z=>nomatch z) (λ _ _ z=>nomatch z);have m1:cz X.K (upd H a (.frz o (.frz o (.dK l)))) (bz M a (.fdic kvs)):=A.mem.put (mo:=.fdic kvs) kp ⟨o,l,ax,Paired.j6 pr λ p q z=>⟨z.1,z.2.keep kp⟩⟩;have kpb:∀ H',Kp (upd H a (.frz o (.frz o (.dK l)))) H'->Kp H (upd H' a (.dK l)):=λ H' kp'=>⟨λ b xs z=>by
   have hb:b≠a:=λ y=>by rw[y,e] at z;cases z
   rw[au hb];exact kp'.tup b xs (by rw[au hb];exact z),λ b ob u z=>by
   have hb:b≠a:=λ y=>by rw[y,e] at z;cases z
   rw[au hb];exact kp'.frz b ob u (by rw[au hb];exact z)⟩
 refine⟨τ,_,_,A.go kp m1,q,?_,?_,?_,?_⟩
 ·rintro σ' H' τ' M' kp' A' ⟨h1,q1⟩;have e':=kp'.frz a o _ ax;exact⟨e',k1 _ _ _ _ (kpb H' kp') (Abs.back e' A' h1) q1⟩
 ·rintro v H' w M' kp' r' m' ⟨h1,q1⟩;have e':=kp'.frz a o _ ax;exact⟨e',k2 _ _ _ _ (kpb H' kp') (aH.back e' r') (cz.back e' m' h1) q1⟩
 ·rintro σ' H' τ' M' kp' A' ⟨h1,q1⟩;have e':=kp'.frz a o _ ax;exact⟨e',k3 _ _ _ _ (kpb H' kp') (Abs.back e' A' h1) q1⟩
 ·rintro σ' H' τ' M' kp' A' ⟨h1,q1⟩;have e':=kp'.frz a o _ ax;exact⟨e',k4 _ _ _ _ (kpb H' kp') (Abs.back e' A' h1) q1⟩⟩
end D
namespace S
open PySem PySem.W PyProof.Rows
def PR(N:Nat)(p:Array Nat):Prop:=p.Perm (List.toArray (List.range N))
theorem PR.low(hN:1<=N)(h:PR N p):Low N p:=.of hN λ x hx=>by
 have:=(Array.perm_iff_toList_perm.mp h).mem_iff.mp hx
 simpa using this
theorem PR.rev(h:PR N p):PR N (kas_rev p i j):=(mirror_perm _ _ _ _:(kas_rev p i j).Perm p).trans h
end S
namespace D
open L2 S
section
variable {X:Cx}{K:FG}
end
mutual
def o6(K:FG)(H:Hp):PyData->V->Prop
 | .list ds,x=>aA K H (.list ds) x\/∃ a vs,x=.ref a/\H a=some (.lst vs)/\ki K H ds vs
 | .tuple ds,x=>∃ a vs,x=.ref a/\SqT K H a vs/\ki K H ds vs
 | .none,x=>aA K H .none x
 | .bool b,x=>aA K H (.bool b) x
 | .int i,x=>aA K H (.int i) x
 | .str z,x=>aA K H (.str z) x
 | .dict kvs,x=>aA K H (.dict kvs) x
def ki(K:FG)(H:Hp):List PyData->List V->Prop
 | [],l=>l=[]
 | d::ds,l=>∃ v r,l=v::r/\o6 K H d v/\ki K H ds r
end
mutual
theorem o6.of{K:FG}{H:Hp}:∀ {d:PyData} {x:V},aA K H d x->o6 K H d x
 | .list ds,x,h=>by unfold o6;exact .inl h
 | .tuple ds,x,h=>by
  unfold o6;simp only[aA] at h;obtain⟨a,vs,e,s,r⟩:=h;exact⟨a,vs,e,s,ki.of r⟩
 | .none,x,h=>by unfold o6;exact h
 | .bool b,x,h=>by unfold o6;exact h
 | .int i,x,h=>by unfold o6;exact h
 | .str z,x,h=>by unfold o6;exact h
 | .dict kvs,x,h=>by unfold o6;exact h
theorem ki.of{K:FG}{H:Hp}:∀ {ds:List PyData} {xs:List V},bA K H ds xs->ki K H ds xs
 | [],xs,h=>by unfold ki;simpa [bA] using h
 | d::ds,xs,h=>by
  unfold ki;simp only[bA] at h;obtain⟨v,r,e,h1,h2⟩:=h;exact⟨v,r,e,o6.of h1,ki.of h2⟩
end
def Tw(H H':Hp):Prop:=Kp H H'/\∀ b vs,H b=some (.lst vs)->H' b=some (.lst vs)\/∃ o,H' b=some (.frz o (.lst vs))
theorem Tw.refl(H:Hp):Tw H H:=⟨Kp.refl H,λ _ _ e=>.inl e⟩
theorem Tw.trans{A B C:Hp}(h:Tw A B)(k:Tw B C):Tw A C:=⟨h.1.trans k.1,λ b vs e=>by
 rcases h.2 b vs e with q | ⟨o,q⟩
 ·exact k.2 b vs q
 ·exact .inr ⟨o,k.1.frz b o _ q⟩⟩
end D
namespace D
open L2
def nr(M:MH):Nat->W->PyData->Prop
 | 0,w,d=>w=.d d
 | n+1,w,d=>w=.d d\/(∃ a ws ds,w=.m a/\M a=some (.lst ws)/\d=.list ds/\Paired (nr M n) ws ds)\/∃ a ws ds,w=.m a/\M a=some (.tup ws)/\d=.tuple ds/\Paired (nr M n) ws ds
theorem nr.d:∀ {n:Nat},nr M n (.d x) x
 | 0=>rfl
 | _+1=>.inl rfl
theorem nr.l(h:M a=some (.lst ws))(r:Paired (nr M n) ws ds):nr M (n+1) (.m a) (.list ds):=.inr (.inl ⟨a,ws,ds,rfl,h,rfl,r⟩)
theorem nr.t(h:M a=some (.tup ws))(r:Paired (nr M n) ws ds):nr M (n+1) (.m a) (.tuple ds):=.inr (.inr ⟨a,ws,ds,rfl,h,rfl,r⟩)
theorem nr.ds:∀ (ds:List PyData),Paired (nr M n) (ds.map W.d) ds
 | []=>.nil
 | _::ds=>.cons nr.d (nr.ds ds)
theorem nL{K:FG}{H:Hp}{M:MH}{n:Nat}(h:∀ w d x,nr M n w d->aH K H w x->o6 K H d x):∀ {ws:List W} {ds:List PyData} {vs:List V},Paired (nr M n) ws ds->bj K H ws vs->ki K H ds vs
 | _,_,_,.nil,.nil=>by unfold ki;rfl
 | _,_,_,.cons a b,.cons c e=>by
  unfold ki;exact⟨_,_,rfl,h _ _ _ a c,nL h b e⟩
theorem nr.sound{K:FG}{H:Hp}{M:MH}(m:cz K H M):∀ (n:Nat) (w:W) (d:PyData) (x:V),nr M n w d->aH K H w x->o6 K H d x
 | 0,w,d,x,g,r=>by have g':w=.d d:=g;subst g';exact o6.of r
 | n+1,w,d,x,g,r=>by
  rcases g with g | ⟨a,ws,ds,rfl,h,rfl,p⟩ | ⟨a,ws,ds,rfl,h,rfl,p⟩
  ·subst g;exact o6.of r
  ·obtain⟨vs,e,rw⟩:=m _ _ h;unfold o6;exact .inr ⟨a,vs,r,e,nL (nr.sound m n) p rw⟩
  ·obtain⟨vs,e,rw⟩:=m _ _ h;unfold o6;exact⟨a,vs,r,.inl (.inl e),nL (nr.sound m n) p rw⟩
section
variable {X:Cx}{K:FG}
end
section
variable {K:FG}{H:Hp}{a:Addr}{o:Obj}{l:List V}
end
theorem af5(h:us.length=0):us=[]:=by exact List.eq_nil_of_length_eq_zero h
theorem l4(h:us.length=1):∃ a1:Value,us=[a1]:=by
 cases us with
 | nil=>simp at h
 | cons a r =>
  have e:r=[]:=af5 (by simpa using h);subst e;exact⟨a,rfl⟩
theorem fw(h:us.length=2):∃ a1 a2:Value,us=[a1,a2]:=by
 cases us with
 | nil=>simp at h
 | cons a r =>
  obtain⟨b1,e⟩:=l4 (us:=r) (by simpa using h);subst e;exact⟨a,b1,rfl⟩
theorem aaO(h:us.length=3):∃ a1 a2 a3:Value,us=[a1,a2,a3]:=by
 cases us with
 | nil=>simp at h
 | cons a r =>
  obtain⟨b1,b2,e⟩:=fw (us:=r) (by simpa using h);subst e;exact⟨a,b1,b2,rfl⟩
theorem agm(h:us.length=4):∃ a1 a2 a3 a4:Value,us=[a1,a2,a3,a4]:=by
 cases us with
 | nil=>simp at h
 | cons a r =>
  obtain⟨b1,b2,b3,e⟩:=aaO (us:=r) (by simpa using h);subst e;exact⟨a,b1,b2,b3,rfl⟩
section
variable {X:Cx}{K:FG}
end
section
variable {X:Cx}{K:FG}
end
section
variable {X:Cx}{K:FG}
theorem vk:dZ X (.builtin "len") (λ xs H Q=>∃ a kvs,xs=[.ref a]/\H a=some (.dK kvs)/\Q (.int kvs.length) H):=by intro pins s σ H xs us Q I r h;obtain⟨a,kvs,rfl,ha,q⟩:=h;obtain⟨u,rfl,rx⟩:=vals1 r;cases rx;obtain⟨z,hd,vs,rel,dd⟩:=abW I.hok ha;refine call_len_dict hd dd (by rw[<- rel.length];rw[sizeLine_eq] at z;omega) ?_;rw[<- rel.length];exact⟨.int _,H,I.tok _,⟨_,rfl⟩,q⟩
def aag(ws:List W)(M:MH)(Q:QD):Prop:=∃ a kvs,ws=[.m a]/\M a=some (.dic kvs)/\Q (.d (.int (kvs.length:Nat))) M
theorem abK:fP K (λ xs H Q=>∃ a kvs,xs=[.ref a]/\H a=some (.dK kvs)/\Q (.int kvs.length) H) aag:=by intro vs H ws M Qd Q r m ⟨a,kvs,e,hm,q⟩ k;subst e;obtain⟨v,e1,r1⟩:=gc r;have e2:v=.ref a:=r1;subst e2;obtain⟨l,e,pr⟩:=m _ _ hm;refine⟨a,l,e1,e,?_⟩;rw[<- Paired.length pr];exact k _ _ (.d (.int _)) M (Kp.refl _) (by simp[aH,aA]) m q
end
section
variable {K:FG}
variable {X:Cx}{sc:Scope}{own:List Str}{fr:List Nat}{di:TId}{g:TGd}{tt:TTd}{te:TD}{tg iter elt:Expr}{ifs:List Expr}{pos:Pos}
end
section
variable {X:Cx}{tg iter elt:Expr}{pos:Pos}{sc:Scope}{own:List Str}{fr:List Nat}{di:TId}{g:TGd}{tt:TTd}{te:TD}{ifs:List Expr}
end
end D
namespace XO
open PySem.W Builtin.ObjectAttr
def oX:List Value:=[.type "ValueError",.type "Exception",.type "BaseException",.type "object"]
def eJ:List Value->Bool
 | .ref _::r=>eJ r
 | l=>l==oX
theorem oC{l:List Value}(h:eJ l=true):l.isEmpty=false:=by
 cases l with
 | nil=>exact absurd h (by decide)
 | cons _ _=>rfl
theorem mN{l:List Value}(h:eJ l=true):(∃ a r,l=.ref a::r/\eJ r=true)\/l=oX:=by
 cases l with
 | nil=>exact absurd h (by decide)
 | cons v r =>
  cases v<;>first | exact .inl ⟨_,_,rfl,h⟩ | exact .inr (eq_of_beq (by simpa only[eJ] using h))
theorem nS(T:String)(hT:oX.contains (.type T)=true):∀ {l:List Value},eJ l=true->l.contains (.type T)=true:=by
 intro l
 induction l with
 | nil=>intro h;exact absurd h (by decide)
 | cons v r ih =>
  intro h;rcases mN h with ⟨a,r',e,q⟩ | e
  ·cases e;rw[List.contains_cons,ih q,Bool.or_true]
  ·rw[e];exact hT
theorem rj(self:Value):∀ {l:List Value},eJ l=true->refuseLoop self "__setattr__" l=pure ():=by
 intro l
 induction l with
 | nil=>intro h;exact absurd h (by decide)
 | cons v r ih =>
  intro h;rcases mN h with ⟨a,r',e,q⟩ | e
  ·cases e;rw[refuseLoop_ref];exact ih q
  ·rw[e];exact PySem.F.store_ValueError.passes self
def uP(K:Frag)(C:Addr):Bool:=(clsIn K C).any λ cd=>cd.hasDict&&eJ cd.mro
theorem fT{K:Frag}{C:Addr}(h:uP K C=true):∃ cd,clsIn K C=some cd/\cd.hasDict=true/\eJ cd.mro=true:=by obtain⟨cd,e,q⟩:=any_some h;simp only[Bool.and_eq_true] at q;exact⟨cd,e,q.1,q.2⟩
section
variable {prog:Program}{w:World}{A:Around}{E:VP}{s:Shared}{K:Frag}{x C:Addr}{name:Str}{v:Value}
theorem agF{M:Model}{h:Heap}{ox:Obj}{od:Option Obj}(X:K.In h)(c:uP K C=true)(I:W.InstAt h x ox C od){T:String}(hT:oX.contains (.type T)=true):Looks M h (isInstance (.ref x) (.type T)) true:=by obtain⟨cd,hc,_,hm⟩:=fT c;refine I.type.andThen (looks_mroIn X ?_);unfold mroIn;rw[hc,Option.bind_some,if_neg (by rw[oC hm];decide),nS T hT hm]
theorem ahi{R:Result->Shared->Prop}{ox:Obj}{od:Option Obj}{tk:Tok}(X:K.In s.heap)(I:W.InstAt s.heap x ox C od)(c:uP K C=true)(na:findIn K (.ref C) name=some none)
  (h:∀ b,wpAny (model prog w) A.in1 (storeInOwnDict (.ref x) (.ref C) (.str name tk) name v b)
   (λ fin s'=>match fin with | .done f=>R (.ok f) s' | .again c'=>c'.quiet=true/\codeAny (model prog w) A c' R s') (λ e s'=>R (.error e) s') s) :
  codeAny (model prog w) A (.call (.builtin "object.__setattr__") ⟨[.ref x,.str name tk,v],[]⟩) R s:=by
 obtain⟨cd,hc,_,hm⟩:=fT c;have S:=PySem.F.store_object;refine codeAny_call_builtin S.slot.plain S.entry (@check_slot (model prog w) _ _ s "object.__setattr__" "object" "__setattr__" (.ref x) [.str name tk,v] [] _ S.kind S.split (agF X c I (by decide)) (S.args (.ref x) (.str name tk) v) ?_);rw[osa_eq,refuse_eq];have hm':Looks (model prog w) s.heap (mroOf (.ref C)) cd.mro:=(looks_clsIn X hc).andThen .now;refine wpAny_bind (wpAny_bind (I.type.here (wpAny_bind (hm'.here ?_))));rw[rj _ hm];refine wpAny_pure ?_;exact wpAny_bind (I.type.here (wpAny_bind ((looks_findIn X na).here (wpAny_bind (wpAny_pure (h _))))))
theorem afo{Q:Unit->Shared->Prop}{vs:Array Value}{sl:Array (Option Value)}(X:K.In s.heap)(c:uP K C=true)(sa:findIn K (.ref C) "__setattr__" = some (some (.builtin "object.__setattr__")))
  (na:findIn K (.ref C) name=some none)(hx:s.heap.get? x=some ⟨.ref C,none,.fields vs,sl⟩)
  (h:∀ h' tk dx,s.heap.objs.size<=dx->dx≠x->h'.get? x=some ⟨.ref C,some dx,.fields vs,sl⟩->h'.Ns1 dx (λ y=>if y=name then some v else none)->(∀ b o,b≠x->s.heap.get? b=some o->h'.get? b=some o)->Q () {s with heap:=h',toks:=tk}) :
  wpAny (model prog w) A (setAttr (.ref x) name v) Q E s:=by
 have I:W.InstAt s.heap x ⟨.ref C,none,.fields vs,sl⟩ C none:=⟨hx,rfl,rfl,True.intro⟩;refine set_plain X I sa (ahi (s:={s with toks:=s.toks+1}) X I c na λ b=>?_);obtain⟨cd,hc,hd,_⟩:=fT c;refine wpAny_bind (wpAny_pure (wpAny_bind (wpAny_bind (wpAny_loadPart hx (wpAny_bind (W.Looks.here (s:={s with toks:=s.toks+1}) (looks_clsIn X hc) ?_))))));rw[hd];have lx:x<s.heap.objs.size:=Heap.lt_size hx;have ne:s.heap.objs.size≠x:=Nat.ne_of_gt lx;refine wpAny_bind (wpAny_alloc' (wpAny_bind (wpAny_update' (Heap.get?_push_of_some _ hx) (wpAny_pure ?_))));have e1:((s.heap.push {cls:=.type "dict",data:=.dict #[]}).update x λ o=>{o with dict:=some s.heap.objs.size}).get? s.heap.objs.size=some {cls:=.type "dict",data:=.dict #[]}:=
  (Heap.get?_update_ne _ _ _ _ ne).trans (Heap.get?_push_at rfl rfl)
 have e2:((s.heap.push {cls:=.type "dict",data:=.dict #[]}).update x λ o=>{o with dict:=some s.heap.objs.size}).get? x=some ⟨.ref C,some s.heap.objs.size,.fields vs,sl⟩:=
  Heap.get?_update_self _ (Heap.get?_push_of_some _ hx) rfl
 have e3:((s.heap.push {cls:=.type "dict",data:=.dict #[]}).update x λ o=>{o with dict:=some s.heap.objs.size}).Ns s.heap.objs.size (λ _=>none):=⟨_,#[],_,e1,rfl,λ _ z=>absurd z (by simp),λ _=>rfl⟩;refine wpAny_bind (wpAny_pure (wpAny_bind (wpAny_nsSet1 (Heap.Ns1.of_empty e3) λ h2 n2 sb=>?_)));obtain⟨oD,esD,epD,g1,g2,g3⟩:=n2.count (PySem.Within.cons name v PySem.Within.nil);refine wpAny_bind (wpAny_lookBehind g1 (by rw[g2];exact pastItsLine_dict (Nat.le_trans g3 (by rw[List.length_cons,List.length_nil,sizeLine_eq];omega))) (wpAny_pure ?_));exact h h2 _ _ (Nat.le_refl _) ne ((sb.2 x (Ne.symm ne)).trans e2) n2 λ b o hb z=>(sb.2 b (Nat.ne_of_lt (Heap.lt_size z))).trans ((Heap.get?_update_ne _ _ _ _ hb).trans (Heap.get?_push_of_some _ z))
end
section
variable {prog:Program}{w:World}{A:Around}{E:VP}{s:Shared}{K:Frag}{x C:Addr}{name:Str}{v:Value}{ox:Obj}{od:Option Obj}
theorem abh:builtinKind "BaseException.__getattribute__" = some .slot:=by decide +kernel
theorem yD:splitId "BaseException.__getattribute__" = some ("BaseException", "__getattribute__"):=by decide +kernel
structure XC(K:Frag)(C:Addr):Prop where
 x:uP K C=true
 sa:findIn K (.ref C) "__setattr__" = some (some (.builtin "object.__setattr__"))
 ga:findIn K (.ref C) "__getattribute__" = some (some (.builtin "BaseException.__getattribute__"))
 gt:findIn K (.ref C) "__getattr__" = some none
 cl:findIn K (.ref C) "__class__" = some (some (.builtin "object.__class__"))
 cg:specialIn K (.builtin "object.__class__") "__get__" = some (some (.builtin "getset_descriptor.__get__"))
 ct:takesIn K (.builtin "object.__class__")=some true
theorem xby{fill expr:Bool}{tk:Tok}{Q:VP}(X:K.In s.heap)(c:XC K C)(I:W.InstAt s.heap x ox C od)
  (h:wpAny (model prog w) A.in1 (Builtin.«object.__getattribute__» ⟨[.ref x,.str name tk],[]⟩)
   (λ fin s'=>match fin with | .done (.ret v)=>wpAny (model prog w) A (handedOut v) Q E s' | _=>False) (λ _ _=>False) s) :
  wpAny (model prog w) A (getAttrBy (.ref x) (.str name tk) fill expr) Q E s:=by
 unfold getAttrBy;refine wpAny_holding (wpAny_bind (I.type.here (wpAny_bind ((looks_findIn X c.ga).here ?_))));have e1:(onTheHeap (Value.ref C)&&(Value.builtin "BaseException.__getattribute__" == Value.builtin "object.__getattribute__"))=false:=by rw[show(Value.builtin "BaseException.__getattribute__" == Value.builtin "object.__getattribute__")=false from by decide,Bool.and_false]
 dsimp only;rw[if_neg (by rw[e1];decide)];unfold getAttrByItsOwn hookBefore;refine wpAny_bind ?_;rw[if_pos (show onTheHeap (Value.ref C)=true from rfl)];refine(looks_findIn X c.gt).here ?_;refine wpAny_bind (wpAny_attempt (wpAny_holding ?_));unfold callGetattribute;rw[if_neg (by rw[show onTheHeap (Value.builtin "BaseException.__getattribute__")=false from rfl,Bool.and_false];decide)];unfold boundAndCalled;rw[PySem.F.excAttr_ValueError.ga.bind];refine wpAny_bind (wpAny_pure ?_);refine wpAny_call (codeAny_call_builtin PySem.F.excAttr_ValueError.ga.plain PySem.F.entry_bexc_ga (@check_slot (model prog w) _ _ s _ "BaseException" "__getattribute__" (.ref x) [.str name tk] [] _ abh yD (agF X c.x I (by decide)) (PySem.F.args_bexc_ga _ _) ?_));refine wpAny_mono h (λ fin s' z=>?_) λ _ _ z=>z.elim;rcases fin with (_ | _ | _ | _) | _<;>first | exact z | exact z.elim
theorem ag9{expr:Bool}{Q:VP}(X:K.In s.heap)(c:XC K C)(I:W.InstAt s.heap x ox C od)(hf:findObj K C od name=some (.value v))(hh:handedIn v=true)(h:Q v {s with toks:=s.toks+1}) :
  wpAny (model prog w) A (getAttr (.ref x) name expr) Q E s:=by
 unfold getAttr;refine wpAny_bind (wpAny_mkText (xby (s:={s with toks:=s.toks+1}) X c I ?_));refine wpAny_bind (wpAny_pure (wpAny_bind (wpAny_pure (wpAny_bind (W.Looks.here (s:={s with toks:=s.toks+1}) I.type (wpAny_bind (W.Looks.here (s:={s with toks:=s.toks+1}) (looks_find X I hf) ?_)))))));refine wpAny_pure ?_;show wpAny _ _ (handedOut v) _ _ _;rw[handedOut_of hh];exact wpAny_pure h
theorem XC.mro(c:XC K C):mroIn K C (.type "object")=some true:=by obtain⟨cd,hc,_,hm⟩:=fT c.x;unfold mroIn;rw[hc,Option.bind_some,if_neg (by rw[oC hm];decide),nS "object" (by decide) hm]
theorem XC.at(c:XC K C):∃ cd o dd sl,K.lookup C=some ⟨o,dd,.cls cd,sl⟩:=by
 obtain⟨cd,hc,_,_⟩:=fT c.x;unfold clsIn at hc
 split at hc
 ·rename_i ho;exact⟨_,_,_,_,ho⟩
 ·cases hc
theorem XC.look{M:Model}{h:Heap}(c:XC K C)(X:K.In h):Looks M h (isType (.ref C)) true:=by obtain⟨cd,o,dd,sl,ho⟩:=c.at;refine λ A' Q' E' s' k q=>?_;unfold isType loadHead;exact wpAny_bind (wpAny_loadPart (k _ _ (X _ _ ho)) (wpAny_pure q))
theorem aeL{Q:Option Value->Shared->Prop}(X:K.In s.heap)(c:XC K C)(I:W.InstAt s.heap x ox C od)(h:Q (some (.ref C)) {s with toks:=s.toks+1}):wpAny (model prog w) A (getAttr? (.ref x) "__class__") Q E s:=by
 obtain⟨cd,hc,_,hm⟩:=fT c.x;have hf:findObj K C od "__class__" = some (.bind (.builtin "getset_descriptor.__get__") (.builtin "object.__class__")):=by
  unfold findObj;rw[hc,Option.bind_some,c.cl,Option.bind_some];simp[c.cg,c.ct]
 unfold getAttr? getAttrBy?;refine wpAny_bind (wpAny_mkText (wpAny_bind (wpAny_attempt (xby (s:={s with toks:=s.toks+1}) X c I ?_))));refine wpAny_bind (wpAny_pure (wpAny_bind (wpAny_pure (wpAny_bind (W.Looks.here (s:={s with toks:=s.toks+1}) I.type (wpAny_bind (W.Looks.here (s:={s with toks:=s.toks+1}) (looks_find X I hf) ?_)))))));show wpAny _ _ (holding [Value.builtin "object.__class__"] (call (.builtin "getset_descriptor.__get__") [.builtin "object.__class__",.ref x,.ref C]) >>= ret) _ _ _;refine wpAny_bind (wpAny_holding (wpAny_call (class_get (s:={s with toks:=s.toks+1}) X I c.mro ?_)));exact wpAny_pure (handed_on rfl (wpAny_pure h))
theorem zG(c:XC K C):KitX K (.ref x) (.ref C) (λ h=>W.InstAt h x ox C od) where
 ty:=λ _ _ _ I=>I.type
 it:=λ _ _ X _=>c.look X
 ne:=λ h tp dd its n sl X htp=>by obtain⟨cd,o,d',s',e⟩:=c.at;refine Bool.eq_false_iff.mpr λ q=>?_;cases Value.ref.inj (beq_iff_eq.mp q);have z:=(X _ _ e).symm.trans htp;cases z
 ca:=λ X I k=>aeL X c I k
end
def xmk(K:Frag)(C:Addr):Bool:=match K.lookup C with
 | some ⟨.type "type",_,.cls cd,sl⟩=>(match cd.mro,sl.toList with
  | .ref D::bm,[_,_,_,_,some (.builtin n),_]=>D==C&&n == "ValueError.__new__" && !cd.hasDel&&tailIn K oX bm
  | _,_=>false)
 | _=>false
theorem xr{K:Frag}{C:Addr}{h:Heap}(X:K.In h)(e:xmk K C=true):∃ nm q N bs bm hdct sn sub ab col dd k0 k1 k2 k3 k5,
  h.get? C=some (excClassObj nm q C N bs bm hdct sn sub ab col dd k0 k1 k2 k3 k5 "ValueError.__new__")/\OwnTail h oX bm:=by
 unfold xmk at e
 split at e
 ·rename_i dd cd sl ho
  split at e
  ·rename_i D bm a0 a1 a2 a3 n a5 hm hs
   simp only[Bool.and_eq_true,beq_iff_eq,Bool.not_eq_true'] at e;obtain⟨⟨⟨h1,h2⟩,h3⟩,h4⟩:=e;subst h1 h2;obtain⟨c1,c2,c3,c4,c5,c6,c7,c8,c9,c10,c11⟩:=cd;dsimp only at hm h3;subst hm h3;obtain⟨l⟩:=sl;simp only at hs;subst hs;exact⟨_,_,_,_,_,_,_,_,_,_,_,_,_,_,_,_,X _ _ ho,tail_of_in X h4⟩
  ·cases e
 ·cases e
abbrev uR(C t:Addr):Obj:={cls:=.ref C,data:=.fields #[.ref t,.none,.none,.none,.bool false,.none]}
section
variable {prog:Program}{w:World}{A:Around}{E:VP}{K:Frag}{C f:Addr}{h:Heap}{g:Array GenState}{d:Drawn}{t:Nat}{os:OsState}
theorem afV{us:List Value}{Q:PySem.Fin->Shared->Prop}(X:K.In h)(c:XC K C)(q:xmk K C=true)(hi:findIn K (.ref C) "__init__" = some (some (.ref f)))(hf:typeIn K (.ref f)=some (.type "function"))(hz:us.length<=sizeLine)
  (k:wpAny (model prog w) A (call (.ref f) (.ref (h.objs.size+1)::us)) (λ r s'=>r=.none/\Q (.done (.ret (.ref (h.objs.size+1)))) s') E
   ⟨(h.push {cls:=.type "tuple",data:=.seq us.toArray}).push (uR C h.objs.size),g,d,t,os⟩) :
  wpAny (model prog w) A (Builtin.«type.__call__» ⟨.ref C::us,[]⟩) Q E ⟨h,g,d,t,os⟩:=by
 obtain⟨nm,q',N,bs,bm,hdct,sn,sub,ab,col,dd,k0,k1,k2,k3,k5,hC,T⟩:=xr X q;have B:=PySem.F.excBase_ValueError
 repeat (first | with_reducible refine wpAny_loadPart_at hC ?_ | with_reducible refine wpAny_madeBy_exc hC ?_ | wp_step)
 refine codeAny_call_builtin_code (Code.quiet_builtin _ B.quiet) (wpAny_check_new_subT B T hC (codeAny_exc_new_subT B T hC ?_ hz));show wpAny _ _ _ _ _ _;have kp:∀ b o,h.get? b=some o->((h.push {cls:=.type "tuple",data:=.seq us.toArray}).push (uR C h.objs.size)).get? b=some o:=λ b o z=>Heap.get?_push_of_some _ (Heap.get?_push_of_some _ z);have X1:=X.keeps kp;have eg:((h.push {cls:=.type "tuple",data:=.seq us.toArray}).push (uR C h.objs.size)).get? (h.objs.size+1)=some (uR C h.objs.size):=by heap_get
 have I:W.InstAt ((h.push {cls:=.type "tuple",data:=.seq us.toArray}).push (uR C h.objs.size)) (h.objs.size+1) (uR C h.objs.size) C none:=⟨eg,rfl,rfl,True.intro⟩;obtain⟨cd,hc,_,hm⟩:=fT c.x;have hsub:Looks (model prog w) ((h.push {cls:=.type "tuple",data:=.seq us.toArray}).push (uR C h.objs.size)) (isInstance (.ref (h.objs.size+1)) (.ref C)) true:=by refine I.type.andThen (λ A' Q' E' s' k' z=>?_);exact wpAny_isSubtype_exc (h:=s'.heap) (g:=s'.gens) (d:=s'.drawn) (t:=s'.toks) (os:=s'.os) (k' _ _ (kp _ _ hC)) (by rw[show(Value.ref C::bm).contains (Value.ref C)=true from by simp];exact z)
 refine wpAny_bind (hsub.here ?_);rw[if_neg (by decide)];refine wpAny_bind (wpAny_holding (special_fn (s:=⟨_,g,d,t,os⟩) X1 I hi hf (wpAny_mono k (λ r s' z=>?_) λ _ _ z=>z)));obtain⟨rfl,z⟩:=z;exact wpAny_pure z
theorem afH{us:List Value}{Q:VP}(X:K.In h)(c:XC K C)(q:xmk K C=true)(hi:findIn K (.ref C) "__init__" = some (some (.ref f)))(hf:typeIn K (.ref f)=some (.type "function"))(hz:us.length<=sizeLine)
  (k:wpAny (model prog w) (A.under (.builtin "type.__call__" ⟨.ref C::us,[]⟩)) (call (.ref f) (.ref (h.objs.size+1)::us)) (λ r s'=>r=.none/\Q (.ref (h.objs.size+1)) s') E
   ⟨(h.push {cls:=.type "tuple",data:=.seq us.toArray}).push (uR C h.objs.size),g,d,t,os⟩) :
  wpAny (model prog w) A (call (.ref C) us) Q E ⟨h,g,d,t,os⟩:=by
 obtain⟨nm,q',N,bs,bm,hdct,sn,sub,ab,col,dd,k0,k1,k2,k3,k5,hC,T⟩:=xr X q;have l1:=tc_lookup;have l2:=tc_bind (.ref C);have l3:(⟨h,g,d,t,os⟩:Shared).TypeIs (.ref C) "type":= ⟨_,hC,rfl⟩;refine wpAny_call (codeAny_of_tree ?_);show wpAny _ _ (callAny (.ref C) ⟨us,[]⟩) _ _ _
 repeat (any_goals (first | with_reducible refine wpAny_loadPart_at hC ?_ | assumption | wp_step))
 exact⟨rfl,codeAny_call_builtin_at (Code.quiet_builtin _ (by decide +kernel)) entry_typeCall (wpAny_check_type_call_sub hC (afV X c q hi hf hz k))⟩
end
abbrev qS(C:Addr)(dct:Option Addr)(vs:Array Value):Obj:={cls:=.ref C,dict:=dct,data:=.fields vs}
def Tb(h:Heap)(e:Addr)(vs:Array Value):Prop:=vs[1]? =some .none\/∃ T oT ts,vs[1]? =some (.ref T)/\T≠e/\h.get? T=some oT/\oT.data=.fields ts/\ts[3]? =some .none
theorem Tb.size{h:Heap}{e:Addr}{vs:Array Value}(t:Tb h e vs):1<vs.size:=by
 rcases t with z | ⟨_,_,_,z,_⟩<;>exact(Array.getElem?_eq_some_iff.mp z).1
structure Seen(fs:List Addr)(e:Addr)(h h':Heap):Prop where
 keep:∀ b o,b≠e->b ∉ fs->h.get? b=some o->h'.get? b=some o
 slot:∀ b o,b∈fs->h.get? b=some o->∃ sl,h'.get? b=some {o with slots:=sl}
theorem ym{Q:Unit->Shared->Prop}(hfr:A.frames=some (env::outer))(hl:s.heap.FunFrames base (env::outer))(hf:env.frame=some L)(he:s.heap.get? e=some (qS C dct vs))(tb:Tb s.heap e vs)
  (q:∀ h' vs',h'.get? e=some (qS C dct vs')->Tb h' e vs'->vs'[1]? ≠ some .none->vs'[2]? =vs[2]? -> Seen ((env::outer).filterMap (·.frame)) e s.heap h'->Q () {s with heap:=h'}) :
  wpAny M A (noteFrame (.ref e) env) (λ _ s1=>wpAny M A (setFlight (.ref e) none) Q E s1) E s:=by
 have nfr:∀ b o us,s.heap.get? b=some o->o.data=.fields us->b ∉ (env::outer).filterMap (·.frame):=λ b o us z zd hm=>by obtain⟨_,o',ho,hn⟩:=hl.mem hm;rw[z] at ho;cases ho;exact hn us zd
 have main:∀ (head:Value) (had:Bool),wpAny M A (do let a <- frameOf env;let pl <- entryPlaceOf L had;let b <- EntryCells.newEntry head a .none (rawInt L) .none pl;setField (.ref e) 1 b) (λ _ s1=>wpAny M A (setFlight (.ref e) none) Q E s1) E s:=by
  intro head had;refine wpAny_bind (wpAny_frameOf_fun hfr hl hf λ h1 so=>wpAny_bind (wpAny_entryPlaceOf λ pl hpl=>?_));unfold EntryCells.newEntry newFields;refine wpAny_bind (wpAny_newObj_type ?_ (hpl.sizeOk5 _ _ _ _ _));have e1:h1.get? e=some (qS C dct vs):=(so.2.1 e (nfr e _ vs he rfl)).trans he;generalize hts:([head,Value.ref L,.none,rawInt L,.none]++(if pl.isEmpty then List.replicate 6 Value.none else pl)).toArray=ts;have hts3:3<ts.size:=by rw[<- hts];simp only[List.size_toArray,List.length_append,List.length_cons,List.length_nil]<;>omega
  have e2:=Heap.get?_push_of_some (h:=h1) {cls:=.type "traceback",dict:=none,data:=.fields ts} e1;refine wpAny_setField e2 rfl tb.size ?_;have ne:h1.objs.size≠e:=Nat.ne_of_gt (Heap.lt_size e1);have e3:((h1.push {cls:=.type "traceback",dict:=none,data:=.fields ts}).update e (Obj.mapFields (·.setIfInBounds 1 (Value.ref h1.objs.size)))).get? e=some (qS C dct (vs.setIfInBounds 1 (Value.ref h1.objs.size))):=
   Heap.get?_update_self _ e2 rfl
  have e4:((h1.push {cls:=.type "traceback",dict:=none,data:=.fields ts}).update e (Obj.mapFields (·.setIfInBounds 1 (Value.ref h1.objs.size)))).get? h1.objs.size=some {cls:=.type "traceback",dict:=none,data:=.fields ts}:=
   (Heap.get?_update_other _ _ (Ne.symm ne)).trans (Heap.get?_push_size h1 rfl)
  have v1:(vs.setIfInBounds 1 (Value.ref h1.objs.size))[1]? =some (Value.ref h1.objs.size):=by simp[tb.size]
  unfold setFlight;refine wpAny_bind (wpAny_field e3 rfl v1 ?_);rw[if_pos (show(Value.ref h1.objs.size != Value.none)=true from by simp)];refine wpAny_setField e4 rfl hts3 (q _ (vs.setIfInBounds 1 (Value.ref h1.objs.size)) ?_ (.inr ⟨h1.objs.size,_,ts.setIfInBounds 3 .none,v1,ne,Heap.get?_update_self _ e4 rfl,rfl,by simp[hts3]⟩) (by rw[v1];intro z;cases z) (by simp) ?_)
  ·rw[Heap.get?_update_other _ _ ne];exact e3
  ·have kp:∀ b o,b≠e->h1.get? b=some o->(((h1.push {cls:=.type "traceback",dict:=none,data:=.fields ts}).update e (Obj.mapFields (·.setIfInBounds 1 (Value.ref h1.objs.size)))).update h1.objs.size
     (Obj.mapFields (·.setIfInBounds 3 ((none:Option Addr).elim Value.none λ f=>rawInt f)))).get? b=some o:=λ b o hb z=>by
    rw[Heap.get?_update_other _ _ (Nat.ne_of_gt (Heap.lt_size z)),Heap.get?_update_other _ _ (Ne.symm hb)];exact Heap.get?_push_of_some _ z
   refine⟨λ b o hb hm z=>kp b o hb ((so.2.1 b hm).trans z),λ b o hm z=>?_⟩;obtain⟨sl,z2⟩:=so.2.2 b o z;exact⟨sl,kp b _ (λ w=>nfr e _ vs he rfl (w ▸ hm)) z2⟩
 unfold noteFrame;simp only[hf];rcases tb with z | ⟨T,oT,ts,z1,z2,z3,z4,z5⟩
 ·refine wpAny_bind (wpAny_field he rfl z ?_);rw[if_neg (by decide)];exact main _ _
 ·refine wpAny_bind (wpAny_field he rfl z1 ?_);rw[if_pos (show(Value.ref T != Value.none)=true from by simp)];refine wpAny_bind (wpAny_field z3 z4 z5 ?_);rw[if_neg (show ¬ ((Value.none==rawInt L)=true) from by simp[rawInt])];refine wpAny_bind (wpAny_setField z3 z4 (Array.getElem?_eq_some_iff.mp z5).1 ?_);rw[Heap.update_setField_same s.heap T oT ts 3 .none z3 z4 z5];exact main _ _
end XO
namespace L2
open XO
def XF(e C:Addr)(dct:Option Addr)(cc:Bool):Heap->Prop:=λ h=>∃ vs,h.get? e=some (qS C dct vs)/\(cc=true->vs[2]? =some .none)
def DX(dx:Addr)(l:List (Str×V)):Heap->Prop:=λ h=>∃ mA,h.Ns1 dx mA/\(∀ f,mJ (l.lookup f) (mA f))/\PySem.Within mA (l.map (·.1))
def Air(H:Hp)(h:Heap)(e:Addr):Prop:=∃ C dct vs cc,H e=some (.ext (XF e C dct cc))/\h.get? e=some (qS C dct vs)/\Tb h e vs/\(cc=true->vs[2]? =some .none)
theorem aan(z:h.get? e=some (qS C dct vs))(c:cc=true->vs[2]? =some .none):cD P w H h e (.ext (XF e C dct cc)):=
 ⟨⟨vs,z,c⟩,⟨_,z⟩,λ h1 h2 ⟨us,e1,c⟩ k=>⟨us,k _ e1,c⟩⟩
theorem agr(z:DX dx l h):cD P w H h dx (.ext (DX dx l)):=
 ⟨z,let ⟨_,⟨o,_,_,e,_⟩,_⟩:=z; ⟨o,e⟩,λ h1 h2 ⟨mA,n,r⟩ k=>⟨mA,n.at k,r⟩⟩
theorem Inv.seen(I:Inv X pins σ H s)(e:H a=some (.ext (XF a C dct cc)))(he:h'.get? a=some (qS C dct vs))(hc:cc=true->vs[2]? =some .none)(sn:Seen (frs X.stack) a s.heap h'):Inv X pins σ H {s with heap:=h'}:=by
 have nfs:∀ b u,H b=some u->b ∉ frs X.stack:=λ b u z hb=>by rw[I.qZ b hb] at z;cases z
 refine I.call (g':=s.gens) (t':=s.toks) (d':=s.drawn) (ch:=[]) ⟨λ b o z n hb _=>sn.keep b o (λ w=>by rw[w,e] at n;cases n) hb z,λ b o z _ hb _=>sn.slot b o hb z,λ _ _ _ n _=>n,λ b o z _=>?_,λ _ _ z=>z,λ _ _ _ z=>z,λ _ ps z=>⟨#[],by rw[z];simp⟩⟩ (λ b o z=>?_) I.bare (λ b z=>absurd z (by simp))
 ·by_cases hb:b=a
  ·subst hb;exact⟨_,he⟩
  ·by_cases hm:b∈frs X.stack
   ·obtain⟨sl,q⟩:=sn.slot b o hm z;exact⟨_,q⟩
   ·exact⟨o,sn.keep b o hb hm z⟩
 ·by_cases hb:b=a
  ·subst hb;rw[e] at z;cases z;exact aan he hc
  ·refine(I.hok b o z).rG (λ c u hc q=>sn.keep c u ?_ ?_ q) (λ _ q=>q) λ _ _ q=>q
   ·rcases hc with w | w
    ·rw[w];exact hb
    ·intro y;rw[y,e] at w;cases w
   ·rcases hc with w | w
    ·rw[w];exact nfs b o z
    ·exact nfs c _ w
theorem Inv.ym(I:Inv X pins σ H s)(hA:A.frames=some X.stack)(hst:X.stack=X.env::X.outer)(hf:X.env.frame=some X.env.locals)(air:Air H s.heap a)
  (q:∀ s',Inv X pins σ H s'->Air H s'.heap a->Q () s'):wpAny (model X.prog X.w) A (noteFrame (.ref a) X.env) (λ _ s1=>wpAny (model X.prog X.w) A (setFlight (.ref a) none) Q E s1) E s:=by
 obtain⟨C,dct,vs,cc,e1,e2,e3,e4⟩:=air;have st:=I.stack;rw[hst] at st hA;refine XO.ym hA st hf e2 e3 λ h' vs' g1 g2 _ g4 g3=>q _ (I.seen e1 g1 (λ z=>by rw[g4];exact e4 z) ?_) ⟨C,dct,vs',cc,e1,g1,g2,λ z=>by rw[g4];exact e4 z⟩;rw[hst];exact g3
def CXE(P:Program)(w:World):CXT:=λ outer H s E e s'=>∃ a H',e=.ref a/\s'.os=s.os/\AllBare s'.gens/\Un (frs outer) [] H H' s.heap s'.heap/\HOk P w H' s'.heap/\Air H' s'.heap a/\E e none H'
theorem vA(F:bH X.prog X.w X.K X.mg X.base CX k f fd ps sp)(hr:dN k X.A)(hb:Binds X.K fd ps [])(I:Inv X pins σ H s)(r:Vals vs us)(h:sp vs H Q E)(hx:∀ e s',CX X.stack H s E e s'->X.xe e s') :
  wpAny (model X.prog X.w) X.A (call (.ref f) us) (EP X pins σ Q) X.xe s:=by
 have hl:(us++[]).length=ps.length:=by rw[List.append_nil,<- r.length];exact F.len _ _ _ _ h
 have b:=hb s us I.kIn hl;rw[List.append_nil] at b;refine wpAny_call (codeAny_mono (F.run X.A X.stack s H ⟨us,[]⟩ us vs Q E hr I.aaD b r h) λ r s' hq=>?_);cases r with
 | error e=>exact hx e s' hq
 | ok fl=>cases fl<;>first | exact I.after hq | exact False.elim hq
theorem wg(M:Mk X.K C f)(F:bH X.prog X.w X.K X.mg X.base CX k f fd ps sp)(hr:dN (k+1) X.A)(hb:Binds X.K fd ps [])(I:Inv X pins σ H s)(r:Vals vs us)
  (h:∀ x dx,H x=none->H dx=none->dx≠x->sp (.ref x::vs) (upd (upd H dx (.own x)) x (.ins C dx [])) (λ v H2=>v=.non/\Q (.ref x) H2) E)
  (hx:∀ H2 s2 e s',Inv X pins σ H2 s2->CX X.stack H2 s2 E e s'->X.xe e s'):wpAny (model X.prog X.w) X.A (call (.ref C) us) (EP X pins σ Q) X.xe s:=by
 have q:=h (s.heap.objs.size+1) s.heap.objs.size (I.hok.fresh (Nat.le_succ _)) (I.hok.fresh (Nat.le_refl _)) (Nat.ne_of_lt (Nat.lt_succ_self _));have J:=Inv.made (C:=C) I;have r2:Vals (V.ref (s.heap.objs.size+1)::vs) (Value.ref (s.heap.objs.size+1)::us):=.cons rfl r;have hl:((Value.ref (s.heap.objs.size+1)::us)++[]).length=ps.length:=by rw[List.append_nil,<- r2.length];exact F.len _ _ _ _ q
 have b:=hb _ _ J.kIn hl;rw[List.append_nil] at b;refine wpAny_call (yt (f:=f) I.kIn M.makes M.init (beq_iff_eq.mp M.fn) (codeAny_mono (F.run _ X.stack _ _ ⟨Value.ref (s.heap.objs.size+1)::us,[]⟩ _ _ _ E (hr.make C us []) (J.aaD.make C us []) b r2 q) λ r s' hq=>?_));cases r with
 | error e=>exact hx _ _ e s' J hq
 | ok fl =>
  cases fl with
  | ret u =>
   obtain⟨v,H',I3,rv,ev,q3⟩:=J.after hq;subst ev;exact⟨rv,⟨V.ref (s.heap.objs.size+1),H',I3,rfl,q3⟩⟩
  | next=>exact False.elim hq
  | brk=>exact False.elim hq
  | cont=>exact False.elim hq
end L2
namespace D
open L2 XO
abbrev XQ:=Addr->MH->Prop
abbrev XE:=Addr->DS->MH->Prop
abbrev SpX:=List W->MH->QD->XQ->Prop
def eD(K:FG)(sp:SpX):Sp:=λ vs H Q E=>∃ ws M Qd Ed,bj K H ws vs/\cz K H M/\sp ws M Qd Ed/\Kont K H Qd Q/\∀ a H' M',Kp H H'->cz K H' M'->Ed a M'->E (.ref a) none H'
def Lk(X:Cx)(E:XE):Prop:=∀ (pins:PN) (σ:St) (H:Hp) (s:Shared) (a:Addr) (τ:DS) (M:MH),Inv X pins σ H s->Air H s.heap a->Abs X.K H σ τ M->E a τ M->X.xe (.ref a) s
section
variable {P:Program}{w:World}{K:FG}{mg:Str->Option Value}{base:Heap}
theorem aeC{N:List Str}{qual:Str}{scope:Scope}{cd:Value}{outer:List Env}{Ed:XQ}(he:∀ a H' M',Kp H H'->cz K H' M'->Ed a M'->E (.ref a) none H') :
  Lk (qR (CXE P w) P w K mg base N qual scope f cd A outer s H E) λ a _ M=>Ed a M:=by
 intro pins σ H1 s1 a τ M I air ab e;show wpAny _ _ (leaving _ _) _ _ _;unfold leaving;refine wpAny_bind (I.ym I.ok.frames rfl rfl air λ s2 J air2=>?_);exact⟨a,H1,rfl,J.os,J.bare,J.base,J.hok,air2,he a H1 M (Kp.un J.base) ab.mem e⟩
theorem gw{x qual:Str}{st:Stmt}{N ps:List Str}{k:Nat}{sp:SpX}{t:XE->TSd}(F:Fun K x qual st f fd)(S:aJ N ps (ag st))(len:∀ ws M Q E,sp ws M Q E->ws.length=ps.length)
  (hbody:∀ (cdv:Value) (A:Around) (outer:List Env) (s:Shared) (H:Hp) (E:XK) (Ed:XE),dN k (A.deeper (envOfC qual (ag st) s.heap.objs.size f cdv))->Lk (qR (CXE P w) P w K mg base N qual (ag st) f cdv A outer s H E) Ed ->
   PassesOwn (model P w) (A.deeper (envOfC qual (ag st) s.heap.objs.size f cdv)) (envOfC qual (ag st) s.heap.objs.size f cdv) (qR (CXE P w) P w K mg base N qual (ag st) f cdv A outer s H E).xe ->
   nA (qR (CXE P w) P w K mg base N qual (ag st) f cdv A outer s H E) (aD st) (t Ed))
  (read:∀ ws M Q E,sp ws M Q E->t (λ a _ M=>E a M) {nx:=λ _ M'=>Q (.d .none) M',rt:=Q} (bh N ws) M):bH P w K mg base (CXE P w) (k+1) f fd ps (eD K sp):=by
 obtain⟨oc,od,kV,doc,pm,an,cdv,ct,osl,rfl,lk,hcd⟩:=F.ex;refine adT lk hcd S (λ vs H Q E h=>?_) λ A outer s H vs Q E hr h=>?_
 ·obtain⟨ws,M,Qd,Ed,r,_,q,_⟩:=h;rw[<- r.length];exact len _ _ _ _ q
 ·obtain⟨ws,M,Qd,Ed,r,m,q,kk,ke⟩:=h;refine⟨_,hbody cdv A outer s H E (λ a _ M=>Ed a M) hr (aeC ke) PassesOwn.leaving,bh N ws,M,_,kJ r m,read ws M Qd Ed q,λ σ' H' τ' M' kp A' q'=>?_,λ v H' w' M' kp r' m' q'=>?_,λ σ' H' τ' M' kp A' q'=>q'.elim,λ σ' H' τ' M' kp A' q'=>q'.elim⟩
  ·exact kk _ H' _ M' kp (by simp[aH,aA]) A'.mem q'
  ·exact kk v H' w' M' kp r' m' q'
end
theorem nQ(L:Lk X E)(I:Inv X pins σ H s)(ab:Abs X.K H σ τ M)(hE:∀ v H',E' v none H'->∃ a M',v=.ref a/\Kp H H'/\cz X.K H' M'/\E a τ M')
  (h:CXE X.prog X.w X.stack H s E' u s'):X.xe u s':=by
 obtain⟨a,H',rfl,os,br,un,hok,air,q⟩:=h;obtain⟨a',M',e,kp,m',q'⟩:=hE _ _ q;cases e;exact L pins σ H' s' a τ M' (I.abH os un hok br (λ b z=>absurd z (by simp))) air (ab.go kp m') q'
def aac(sp:SpX)(E:XE)(t:TAd)(τ:DS)(M:MH)(Q:QD):Prop:=t τ M λ ws M1=>sp ws M1 Q λ a M'=>E a τ M'
def nE(C:Addr)(m:Str)(sp:SpX)(E:XE)(td:TD)(t:TAd)(τ:DS)(M:MH)(Q:QD):Prop:=td τ M λ w M1=>∃ a fs,w=.m a/\M1 a=some (.ins C fs)/\fs.lookup m=none/\t τ M1 λ ws M2=>sp (w::ws) M2 Q λ a M'=>E a τ M'
end D
namespace XO
open PySem.W
section
variable {prog:Program}{w:World}{A:Around}{E:VP}{s:Shared}{K:Frag}{env:PySem.Env}
theorem zE(hh:A.handled=none)
  (h:wpAny (model prog w) A x (λ v s1=>∃ e C dct vs,v=.ref e/\K.In s1.heap/\uP K C=true/\typeIn K (.ref C)=some (.type "type")/\s1.heap.get? e=some (qS C dct vs)/\vs[1]? =some .none/\E (.ref e) s1) E s) :
  wpAny (model prog w) A (raiseStmt env (some x) none) Q E s:=by
 unfold raiseStmt;refine wpAny_bind (wpAny_mono h (λ v s1 z=>?_) λ _ _ z=>z);obtain⟨e,C,dct,vs,rfl,X,c,ty,he,h1,q⟩:=z;obtain⟨hp,g,d,tk,os⟩:=s1;have L:Looks (model prog w) hp (isType (.ref e)) false:=λ A' Q' E' s' k q=>by
  unfold isType loadHead;exact wpAny_bind (wpAny_loadPart (k _ _ he) (wpAny_pure q))
 have T:Looks (model prog w) hp (typeOf (.ref e)) (.ref C):=(Looks.ld he).andThen .now;obtain⟨cd,hc,_,hm⟩:=fT c;have S:Looks (model prog w) hp (isInstance (.ref e) (.type "BaseException")) true:=T.andThen (looks_mroIn X (by
  unfold mroIn;rw[hc,Option.bind_some,if_neg (by rw[oC hm];decide),nS "BaseException" (by decide) hm]))
 have N:Looks (model prog w) hp (isExcClass (.ref e)) false:=L.andThen .now;have Y:=looks_typeIn (M:=model prog w) X ty;have R:Looks (model prog w) hp (raisedInstance (.ref e)) (.ref e):=T.andThen (Y.andThen (by rw[if_pos (by decide)];exact .now));have Z:Looks (model prog w) hp (excFromValue (.ref e) "exceptions must derive from BaseException") (.ref e):=by
  unfold excFromValue;refine N.andThen ?_;rw[if_neg Bool.false_ne_true];refine S.andThen ?_;rw[if_pos rfl];exact .now
 refine wpAny_bind (wpAny_pure (wpAny_bind (wpAny_holding (Z.at ?_))));dsimp only;refine wpAny_bind (L.at ?_);rw[if_neg Bool.false_ne_true];refine wpAny_bind (R.at ?_);unfold setFlight;refine wpAny_bind (wpAny_bind (wpAny_field he rfl h1 ?_));rw[if_neg (by decide)];exact wpAny_pure (wpAny_raiseNew_none hh q)
end
end XO
namespace L2
open XO
def XV(e C:Addr)(dct:Option Addr)(vs:Array Value):Heap->Prop:=λ h=>h.get? e=some (qS C dct vs)
theorem adJ(z:h.get? e=some (qS C dct vs)):cD P w H h e (.ext (XV e C dct vs)):=⟨z,⟨_,z⟩,λ h1 h2 e1 k=>k _ e1⟩
theorem Inv.wr2(I:Inv X pins σ H s)(e:H a=some (.ext φ))(hp:s.heap.objs.size<=dx)(kp:∀ b o,b≠a->s.heap.get? b=some o->h'.get? b=some o)
  (o1:cD X.prog X.w (upd (upd H dx u) a (.ext φ')) h' a (.ext φ'))(o2:cD X.prog X.w (upd (upd H dx u) a (.ext φ')) h' dx u):Inv X pins σ (upd (upd H dx u) a (.ext φ')) {s with heap:=h',toks:=t'}:=by
 have hn:H dx=none:=I.hok.fresh hp;have ne:dx≠a:=λ z=>by rw[z,e] at hn;cases hn
 have at_:∀ b,b≠a->b≠dx->(upd (upd H dx u) a (.ext φ')) b=H b:=λ b h1 h2=>by rw[au h1,au h2]
 have nd:∀ b v,H b=some v->b≠dx:=λ b v z w=>by rw[w,hn] at z;cases z
 have na:∀ b v,H b=some v->(∀ ψ,v ≠ .ext ψ)->b≠a:=λ b v z q w=>by rw[w,e] at z;cases z;exact q _ rfl
 refine I.un ⟨λ b o z n _ _=>kp b o (λ w=>by rw[w,e] at n;cases n) z,λ b o z n _ _=>⟨o.slots,kp b o (λ w=>by rw[w,e] at n;cases n) z⟩,λ b o z n _=>?_,λ b o z _=>?_,λ b xs z=>?_,λ b o v z=>?_,λ b ps z=>⟨#[],?_⟩⟩ (λ b o z=>?_)
 ·rw[at_ b (λ w=>by rw[w,e] at n;cases n) (Nat.ne_of_lt (Nat.lt_of_lt_of_le (Heap.lt_size z) hp))];exact n
 ·by_cases hb:b=a
  ·subst hb;exact o1.2.1
  ·exact⟨o,kp b o hb z⟩
 ·rw[at_ b (na b _ z λ _ w=>nomatch w) (nd b _ z)];exact z
 ·rw[at_ b (na b _ z λ _ w=>nomatch w) (nd b _ z)];exact z
 ·rw[at_ b (na b _ z λ _ w=>nomatch w) (nd b _ z),z];simp
 ·by_cases hb:b=a
  ·subst hb;rw[ax] at z;cases z;exact o1
  ·rw[au hb] at z
   by_cases hb2:b=dx
   ·subst hb2;rw[ax] at z;cases z;exact o2
   ·rw[au hb2] at z;refine(I.hok b o z).rG (λ c v hc q=>kp c v ?_ q) (λ c q=>?_) λ c xs q=>?_
    ·rcases hc with w | w
     ·rw[w];exact hb
     ·exact na c _ w λ _ y=>nomatch y
    ·rw[at_ c (na c _ q λ _ w=>nomatch w) (nd c _ q)];exact q
    ·rw[at_ c (na c _ q λ _ w=>nomatch w) (nd c _ q)];exact q
def sX0(C:Addr)(ta tv:TE)(f:Str):TS:=λ D σ H=>tv σ H λ y H1=>ta σ H1 λ x H2=>∃ a vs,x=.ref a/\H2 a=some (.ext (XV a C none vs))/\∀ dx,H2 dx=none->dx≠a->D.nx σ (upd (upd H2 dx (.ext (DX dx [(f,y)]))) a (.ext (XV a C (some dx) vs)))
theorem afP(c:XC X.K C)(n:cx X.K C f)(ha:PE X o ta)(hv:PE X value tv)(hs:swapsWith value (some (.Attribute o f pos')) pos.line X.env=pure false:=by rfl):PS X (.Assign [.Attribute o f pos'] value pos) (sX0 C ta tv f):=by
 intro pins s σ H D I h;refine plainObj_wpAny_Assign_Attribute (thn (hv pins s σ H _ I h) λ u s1 ⟨y,H1,I1,ry,q⟩=>thn (ha pins s1 σ H1 _ I1 q) λ ov s2 ⟨x,H2,I2,rx,a,vs,ex,ea,q2⟩=>?_) hs;subst ex;obtain rfl:ov=Value.ref a:=rx;have hx:s2.heap.get? a=some (qS C _ vs):=(I2.hok a _ ea).1;refine afo I2.kIn c.x c.sa n hx λ h' tk dx g1 g2 g3 g4 g5=>?_;refine⟨σ,_,I2.wr2 ea g1 g5 (adJ g3) (agr ⟨_,g4,λ g=>?_,λ g hg=>?_⟩),q2 dx (I2.hok.fresh g1) g2⟩
 ·by_cases e:g=f
  ·subst e;simp only[List.lookup,beq_self_eq_true,if_true];exact ry
  ·simp only[List.lookup,beq_eq_false_iff_ne.mpr e,if_neg e];exact True.intro
 ·by_cases e:g=f
  ·rw[e];simp
  ·exact absurd (by show(if g=f then some u else none)=none;rw[if_neg e]) hg
def lj(C:Addr)(fs:List Str):Sp:=λ vs H Q _=>∃ e ys us,vs=.ref e::ys/\ys.length=fs.length/\H e=some (.ext (XV e C none us))/\∀ dx,H dx=none->dx≠e->Q .non (upd (upd H dx (.ext (DX dx (fs.zip ys)))) e (.ext (XV e C (some dx) us)))
section
variable {P:Program}{w:World}{K:FG}{mg:Str->Option Value}{base:Heap}{C f:Addr}{fd:FuncData}{qual:Str}{st:Stmt}
theorem yj(F:Fun K "__init__" qual st f fd)(S:aJ ["self",p] ["self",p] (ag st))(c:XC K C)(n:cx K C g)
  (hb:aD st=[.Assign [.Attribute (.Name "self" p1) g p2] (.Name p p3) p4])(hs:∀ env,swapsWith (.Name p p3) (some (.Attribute (.Name "self" p1) g p2)) p4.line env=pure false)(hp:(p==("__debug__" : Str))=false)(hc:(p==("__classdict__" : Str))=false):bH P w K mg base CX0 1 f fd ["self",p] (lj C [g]):=by
 refine F.ok (k:=0) S (λ vs H Q E ⟨e,ys,us,h1,h2,_⟩=>by rw[h1,List.length_cons,h2];rfl) λ cdv A outer s H vs Q E hr h=>?_;obtain⟨e,ys,us,rfl,h2,h3,q⟩:=h;obtain⟨y,rfl⟩:∃ y,ys=[y]:=by
  match ys,h2 with
  | [y],_=>exact⟨y,rfl⟩
 rw[hb];have v1:=S.par "self" (by simp);have v2:=S.par p (by simp);refine⟨_,vT (afP c n (tD (i:=0) rfl (v1.elim .inl λ z=>.inr (.inl z)) (by decide) (by decide)) (tD (i:=1) rfl (v2.elim .inl λ z=>.inr (.inl z)) hp hc) (hs _)),?_⟩;exact⟨y,rfl,.ref e,rfl,e,us,rfl,h3,λ dx hd ne=>q dx hd ne⟩
end
end L2
namespace D
open L2 XO
theorem tq{K:FG}{H:Hp}:∀ (fs:List Str) {ws:List W} {vs:List V},bj K H ws vs->Paired (λ(p:Str×W) (q:Str×V)=>p.1=q.1/\aH K H p.2 q.2) (fs.zip ws) (fs.zip vs)
 | [],_,_,_=>.nil
 | _::_,_,_,.nil=>.nil
 | f::fs,_,_,.cons r t=>.cons ⟨rfl,r⟩ (tq fs t)
def ib(C:Addr)(fs:List Str)(E:XE)(t:TAd)(_:Ed)(τ:DS)(M:MH):Prop:=t τ M λ ws M1=>ws.length=fs.length/\ws.length<=1000/\∀ a,M1 a=none->E a τ (bz M1 a (.exc C (fs.zip ws)))
structure Xm(K:FG)(C f:Addr):Prop where
 xc:XC K C
 xm:xmk K C=true
 ty:W.typeIn K (.ref C)=some (.type "type")
 hi:W.findIn K (.ref C) "__init__" = some (some (.ref f))
 hf:W.typeIn K (.ref f)=some (.type "function")
 kp:W.keepIn K (.ref C)=true
end D
namespace L2
open XO
def qP(H₀ H:Hp):Hp:=λ b=>match H b with
 | some (.tup xs)=>some (.tup xs)
 | some (.frz o u)=>some (.frz o u)
 | _=>H₀ b
theorem xf(h:H b=some (.tup xs)):qP H₀ H b=some (.tup xs):=by unfold qP;rw[h]
theorem vF(h:H b=some (.frz o u)):qP H₀ H b=some (.frz o u):=by unfold qP;rw[h]
theorem uT(h:qP H₀ H b=some v):H₀ b=some v\/H b=some v:=by
 unfold qP at h
 split at h
 ·rename_i e;rw[e];exact .inr h
 ·rename_i e;rw[e];exact .inr h
 ·exact .inl h
theorem ow(h:qP H₀ H b=none):H₀ b=none:=by
 unfold qP at h
 split at h
 ·cases h
 ·cases h
 ·exact h
theorem om(h:H₀ b=none)(h2:H b=none):qP H₀ H b=none:=by
 unfold qP;rw[h2];exact h
abbrev Cx.nc(X:Cx)(H0:Hp)(pn:PN)(xe:VP):Cx:={X with H₀:=H0,pn:=pn,xe:=xe}
abbrev Cx.ij(X:Cx)(a:Addr):Cx:={X with A:=X.A.mark (some (.ref a)),calm:=false,xe:=λ _ _=>False}
theorem Inv.ado(I:Inv X pins σ H s):∀ b∈X.fs,H b=none:=λ b hb=>by obtain⟨_,o,ho,_⟩:=I.ok.ng.mem hb;exact I.base.free b o ho (I.ok.frf b hb) λ z=>I.ok.exfs b z hb
theorem Inv.agv(I:Inv X pins σ H s):Inv (X.nc (qP X.H₀ H) (X.pn++pins) xe) [] σ H s:=by
 refine⟨⟨I.ok.mod,I.ok.kind,I.ok.glob,I.ok.blt,I.ok.above,I.ok.inj,I.ok.has,I.ok.cab,I.ok.hd,I.ok.frames,I.ok.stk,I.ok.exf,λ b o e=>⟨(I.ok.bs b o e).1,om (I.ok.bs b o e).2 (I.bs b o e).2⟩,I.ok.bsz,I.ok.noex,I.ok.exfs,I.ok.ng,λ b hb=>om (I.ok.frf b hb) (I.ado b hb)⟩,
  I.os,I.bare,⟨λ b o e n hb hx=>I.base.keep b o e (ow n) hb hx,λ b o e n hb hx=>I.base.slot b o e (ow n) hb hx,λ b o e n hx=>I.base.free b o e (ow n) hx,I.base.there,λ b xs e=>?_,λ b o u e=>?_,λ b ps e=>?_⟩,
  I.loc,I.cell,I.free,I.freeC,λ p hp=>I.pin p (by simpa using hp),I.hok,I.len⟩
 ·rcases uT e with z | z
  ·exact I.base.lW b xs z
  ·exact z
 ·rcases uT e with z | z
  ·exact I.base.frzs b o u z
  ·exact z
 ·rcases uT e with z | z
  ·exact I.base.tbls b ps z
  ·exact⟨#[],by rw[z];simp⟩
theorem Inv.vn(I:Inv X pins σ H s)(J:Inv (X.nc (qP X.H₀ H) (X.pn++pins) xe) pins' σ' H' s'):Inv X pins σ' H' s':=by
 have nn:∀ b o,X.s₀.heap.get? b=some o->X.H₀ b=none->b ∉ X.ex->qP X.H₀ H b=none:=λ b o e n hx=>om n (I.base.free b o e n hx);exact⟨I.ok,J.os,J.bare,⟨λ b o e n hb hx=>J.base.keep b o e (nn b o e n hx) hb hx,λ b o e n hb hx=>J.base.slot b o e (nn b o e n hx) hb hx,λ b o e n hx=>J.base.free b o e (nn b o e n hx) hx,J.base.there,λ b xs e=>J.base.lW b xs (xf (I.base.lW b xs e)),λ b o u e=>J.base.frzs b o u (vF (I.base.frzs b o u e)),λ b ps e=>by obtain⟨m1,e1⟩:=I.base.tbls b ps e;refine J.base.tbls b ps ?_;show qP X.H₀ H b=_;unfold qP;rw[e1];exact e⟩,J.loc,J.cell,J.free,J.freeC,λ p hp=>J.pin p (List.mem_append_left _ hp),J.hok,J.len⟩
theorem Inv.ij(I:Inv X pins σ H s)(a:Addr):Inv (X.ij a) pins σ H s:=
 ⟨⟨I.ok.mod,I.ok.kind,I.ok.glob,I.ok.blt,I.ok.above,I.ok.inj,I.ok.has,I.ok.cab,(λ z=>nomatch z),I.ok.frames,I.ok.stk,I.ok.exf,I.ok.bs,I.ok.bsz,I.ok.noex,I.ok.exfs,I.ok.ng,I.ok.frf⟩,I.os,I.bare,I.base,I.loc,I.cell,I.free,I.freeC,I.pin,I.hok,I.len⟩
theorem Inv.uncaught(ok:X.Ok)(I:Inv (X.ij a) pins σ H s):Inv X pins σ H s:=⟨ok,I.os,I.bare,I.base,I.loc,I.cell,I.free,I.freeC,I.pin,I.hok,I.len⟩
theorem Inv.gone(I:Inv X pins σ H s)(hn:h'.Ns X.env.locals m')(sb:Heap.SameBut X.env.locals s.heap h'):Inv X pins (List.replicate σ.length none) H {s with heap:=h',toks:=t'}:=by
 have ne:∀ b o,X.s₀.heap.get? b=some o->b≠X.env.locals:=λ b o e=>Nat.ne_of_lt (Nat.lt_of_lt_of_le (Heap.lt_size e) I.ok.above);refine⟨I.ok,I.os,I.bare,⟨λ b o e n hb hx=>(sb.2 b (ne b o e)).trans (I.base.keep b o e n hb hx),λ b o e n hb hx=>?_,I.base.free,λ b o e hx=>?_,I.base.lW,I.base.frzs,I.base.tbls⟩,⟨m',hn,λ i x v e1 e2 e3=>?_⟩,λ x c e=>?_,I.free,I.freeC,λ p hp=>?_,λ b o e=>?_,by rw[List.length_replicate];exact I.len⟩
 ·obtain⟨sl,z⟩:=I.base.slot b o e n hb hx;exact⟨sl,(sb.2 b (ne b o e)).trans z⟩
 ·obtain⟨o',z⟩:=I.base.there b o e hx;exact⟨o',(sb.2 b (ne b o e)).trans z⟩
 ·rw[List.getElem?_replicate] at e2
  split at e2<;>cases e2
 ·obtain⟨v,z⟩:=I.cell x c e;exact⟨v,z.sameBut sb (I.cne x c e)⟩
 ·obtain⟨z,n,nl,nf,d⟩:=I.pin p hp;exact⟨(sb.2 p.1 nl).trans z,n,nl,nf,d⟩
 ·refine(I.hok b o e).rG (λ c u hc q=>(sb.2 c λ z=>?_).trans q) (λ _ q=>q) λ _ _ q=>q;rcases hc with y | y
  ·rw[z] at y;rw[<- y,I.free] at e;cases e
  ·rw[z,I.free] at y;cases y
theorem Air.ad1(air:Air H s.heap a)(q:Q () s):wpAny M A (setFlight (.ref a) none) Q E s:=by
 obtain⟨C,dct,vs,cc,e1,e2,tb,_⟩:=air;unfold setFlight;rcases tb with z | ⟨T,oT,ts,z1,z2,z3,z4,z5⟩
 ·refine wpAny_bind (wpAny_field e2 rfl z ?_);rw[if_neg (by decide)];exact wpAny_pure q
 ·refine wpAny_bind (wpAny_field e2 rfl z1 ?_);rw[if_pos (show(Value.ref T != Value.none)=true from by simp)];refine wpAny_setField z3 z4 (Array.getElem?_eq_some_iff.mp z5).1 ?_;rw[show((none:Option Addr).elim Value.none λ f=>rawInt f)=Value.none from rfl,Heap.update_setField_same s.heap T oT ts 3 .none z3 z4 z5];exact q
end L2
namespace D
open L2 XO
theorem Abs.forget{K:FG}{H:Hp}{σ:St}{τ:DS}{M:MH}(h:Abs K H σ τ M):Abs K H (List.replicate σ.length none) (List.replicate τ.length none) M:=by
 refine⟨by simp[h.len],λ i w e=>?_,h.mem⟩;rw[List.getElem?_replicate] at e
 split at e<;>cases e
section
variable {X:Cx}{pos np hpos:Pos}{body suite:List Stmt}{b0:Stmt}{hs:List ExceptHandler}{h0:ExceptHandler}{tb:XE->TSd}{th rest:Addr->TSd}{ts:TSd}
def PHd(X:Cx)(hs:List ExceptHandler)(th:Addr->TSd):Prop:=∀ (pins:PN) (σ:St) (H:Hp) (s:Shared) (a:Addr) (D:Ends),Inv X pins σ H s->Air H s.heap a->upS X.K (th a) D σ H->wpAny (model X.prog X.w) X.A (handleBy (.ref a) X.env hs) (SP X pins D) X.xe s
def agq(tb:XE->TSd)(th:Addr->TSd)(D:Ed)(τ:DS)(M:MH):Prop:=tb (λ a τ' M'=>th a D τ' M') D τ M
theorem abM(hst:X.stack=X.env::X.outer)(hf:X.env.frame=some X.env.locals)
  (hb:∀ (H0:Hp) (pn:PN) (xe:VP) (E:XE),Lk (X.nc H0 pn xe) E->PassesOwn (model X.prog X.w) X.A X.env xe->nA (X.nc H0 pn xe) body (tb E))(hh:PHd X (h0::hs) th):PSd X (.Try body (h0::hs) [] [] pos) (agq tb th):=by
 intro pins s σ H D I h;obtain⟨τ,M,Dd,A,h,k1,k2,k3,k4⟩:=h;refine wpAny_Try_except ?_;refine wpAny_mono (hb (qP X.H₀ H) (X.pn++pins) (λ e s1=>wpAny (model X.prog X.w) X.A (noteFrame e X.env) (λ _ s2=>wpAny (model X.prog X.w) X.A (setFlight e none) (λ _ s3=>wpAny (model X.prog X.w) X.A (handleBy e X.env (h0::hs)) (SP X pins D) X.xe s3) X.xe s2) X.xe s1)
  (λ a τ' M'=>th a Dd τ' M') (λ pins' σ' H' s' a τ' M' J air ab e=>?_) PassesOwn.looking [] s σ H D I.agv ⟨τ,M,Dd,A,h,k1,k2,k3,k4⟩) (λ f s1 q=>?_) λ _ _ z=>z
 ·have J2:=I.vn J;have kp:Kp H H':=⟨λ b xs z=>J.base.lW b xs (xf z),λ b o u z=>J.base.frzs b o u (vF z)⟩;refine J2.ym J2.ok.frames hst hf air λ s3 J3 air3=>hh pins σ' H' s3 a D J3 air3 ⟨τ',M',Dd,ab,e,λ σ2 H2 τ2 M2 k=>k1 σ2 H2 τ2 M2 (kp.trans k),λ v H2 w M2 k=>k2 v H2 w M2 (kp.trans k),λ σ2 H2 τ2 M2 k=>k3 σ2 H2 τ2 M2 (kp.trans k),λ σ2 H2 τ2 M2 k=>k4 σ2 H2 τ2 M2 (kp.trans k)⟩
 ·cases f with
  | next=>obtain⟨σ',H',J,q⟩:=q;exact wpAny_execs_nil ⟨σ',H',I.vn J,q⟩
  | brk=>obtain⟨σ',H',J,q⟩:=q;exact⟨σ',H',I.vn J,q⟩
  | cont=>obtain⟨σ',H',J,q⟩:=q;exact⟨σ',H',I.vn J,q⟩
  | ret u=>obtain⟨v,σ',H',J,r,q⟩:=q;exact⟨v,σ',H',I.vn J,r,q⟩
def aby(tab:Addr->Option Bool)(i:Nat)(ts:TSd)(rest:Addr->TSd)(a:Addr)(D:Ed)(τ:DS)(M:MH):Prop:=∃ C fs b,M a=some (.exc C fs)/\tab C=some b /\
 if b=true then ts {nx:=λ τ2 M2=>D.nx (List.replicate τ2.length none) M2,rt:=D.rt,bk:=λ τ2 M2=>D.bk (List.replicate τ2.length none) M2,ct:=λ τ2 M2=>D.ct (List.replicate τ2.length none) M2} (τ.set i (some (.m a))) M else rest a D τ M
theorem Air.cls{K:FG}{H:Hp}{h:Heap}{a C:Addr}{M:MH}{fs:List (Str×W)}(air:Air H h a)(m:cz K H M)(e:M a=some (.exc C fs)):∃ dct vs,h.get? a=some (qS C dct vs):=by obtain⟨C',dct,vs,cc,e1,e2,_,cd⟩:=air;obtain⟨φ,dct',g1,g2,_⟩:=m a _ e;rw[e1] at g1;cases g1;obtain⟨vs',e3,_⟩:=g2 h ⟨vs,e2,cd⟩;exact⟨_,vs',e3⟩
theorem aaU(I:Inv X pins σ H s)(hg:Gl X x)(hm:X.mg x=some (.ref D))(he:s.heap.get? a=some (qS C dct vs))
  (ht:W.exmOne X.K (.ref C) (.ref D)=some b)(hdb:ND x)(q:R (.ok (if b then .brk else .next)) s) :
  codeAny (model X.prog X.w) (X.A.mark (some (.ref a))) (.handlers (.ref a) [.ExceptHandler (some (.Name x np)) none [] hpos] X.env) R s:=by
 refine codeAny_handlers_test (gL (X:=X.ij a) (I.ij a) hg hm ?_ hdb);exact(W.exm_one (M:=model X.prog X.w) I.kIn ((W.Looks.ld he).andThen .now) ht).here q
theorem afa(hg:Gl X x)(hm:X.mg x=some (.ref Dc))(ht:∀ C b,tab C=some b->W.exmOne X.K (.ref C) (.ref Dc)=some b)(hN:X.N.Nodup)(hi:X.N[i]? =some n)(hl:X.env.scope.names.lookup n=some .local)(hk:X.env.scope.kind=.function)
  (hsu:∀ a,nA (X.ij a) (b0::suite) ts)(hr:PHd X hs rest)(hdb:ND x:=by decide):PHd X (.ExceptHandler (some (.Name x np)) (some n) (b0::suite) hpos::hs) (aby tab i ts rest):=by
 intro pins σ H s a Dn I air h;obtain⟨τ,M,Dd,A,⟨C,fs,b,hma,htb,h⟩,k1,k2,k3,k4⟩:=h;obtain⟨dct,vs,he⟩:=Air.cls air A.mem hma;refine wpAny_handleBy_cons (aaU I hg hm he (ht C b htb) hdb ?_) (by intro q;cases q);cases b with
 | false=>exact hr pins σ H s a Dn I air ⟨τ,M,Dd,A,h,k1,k2,k3,k4⟩
 | true =>
  rw[if_pos rfl] at h;refine codeAny_handlers_suite_as (air.ad1 ?_);refine jc (X:=X.ij a) (i:=i) (v:=.ref a) (I.ij a) hN hi (.inl hl) rfl (λ s2 J=>?_) (.inr hl);have gone:∀ {σ3:St} {H3:Hp} {s3:Shared} {Q:Unit->Shared->Prop},Inv (X.ij a) pins σ3 H3 s3->(∀ s4,Inv X pins (List.replicate σ3.length none) H3 s4->Q () s4)->wpAny (model X.prog X.w) X.A (do bindName X.env n .none;unbindBehindTheSuite X.env n hpos) Q X.xe s3:=λ {σ3 H3 s3 Q} J3 q=>by obtain⟨m,hn,_⟩:=J3.loc;refine wpAny_nameGoes hl hn (by rw[hk];rfl) λ h' m' hn' sb=>q _ ((J3.uncaught I.ok).gone hn' sb)
  have ab2:=A.set i (v:=.ref a) (w:=.m a) rfl;refine wpAny_mono (hsu a pins s2 _ H {nx:=λ σ2 H2=>Dn.nx (List.replicate σ2.length none) H2,rt:=Dn.rt,bk:=λ σ2 H2=>Dn.bk (List.replicate σ2.length none) H2,ct:=λ σ2 H2=>Dn.ct (List.replicate σ2.length none) H2} J ⟨_,M,_,ab2,h,λ σ2 H2 τ2 M2 kp A2 q=>?_,λ v H2 w M2 kp r m q=>k2 v H2 w M2 kp r m q,λ σ2 H2 τ2 M2 kp A2 q=>?_,λ σ2 H2 τ2 M2 kp A2 q=>?_⟩) (λ f s3 q=>?_) λ _ _ z=>z.elim
  ·exact k1 _ H2 _ M2 kp A2.forget q
  ·exact k3 _ H2 _ M2 kp A2.forget q
  ·exact k4 _ H2 _ M2 kp A2.forget q
  ·cases f with
   | next=>obtain⟨σ3,H3,J3,q⟩:=q;exact gone J3 λ s4 J4=>⟨_,H3,J4,q⟩
   | brk=>obtain⟨σ3,H3,J3,q⟩:=q;exact gone J3 λ s4 J4=>⟨_,H3,J4,q⟩
   | cont=>obtain⟨σ3,H3,J3,q⟩:=q;exact gone J3 λ s4 J4=>⟨_,H3,J4,q⟩
   | ret u=>obtain⟨v,σ3,H3,J3,r,q⟩:=q;exact gone J3 λ s4 J4=>⟨v,_,H3,J4,r,q⟩
end
theorem zF(I:Inv X pins σ H s)(m:cz X.K H M)(e:M a=some (.exc C fs)) :
  (∃ ox od,W.InstAt s.heap a ox C od)/\(∀ w,fs.lookup f=some w->∃ v u ox od,aH X.K H w v/\RelV v u/\W.InstAt s.heap a ox C (some od)/\W.lookIn f od=some (some u)):=by
 obtain⟨φ,dct,e1,e2,e3⟩:=m a _ e;obtain⟨vs,hx,_⟩:=e2 s.heap (I.hok a _ e1).1;rcases e3 with ⟨rfl,rfl⟩ | ⟨dx,o,l,rfl,e4,pr⟩
 ·exact⟨⟨_,none,hx,rfl,rfl,True.intro⟩,λ w z=>nomatch z⟩
 ·obtain⟨ho,mA,n1,r1⟩:=I.hok dx _ e4;refine⟨⟨_,some o,hx,rfl,rfl,ho⟩,λ w z=>?_⟩;have g:=eC f pr;rw[z] at g;obtain⟨v,eb,rb⟩:=OR.some_of g;obtain⟨u,hu,ru⟩:=mJ.some_of (v:=v) (o:=mA f) (by rw[<- eb];exact r1 f);obtain⟨od,g1,g2⟩:=qz n1;exact⟨v,u,_,od,rb,ru,⟨hx,rfl,rfl,g1⟩,by rw[g2,hu]⟩
def uk(cs:List Addr)(td:TD)(f:Str)(τ:DS)(M:MH)(Q:QD):Prop:=td τ M λ w M1=>∃ a C fs v,w=.m a/\M1 a=some (.exc C fs)/\C∈cs/\fs.lookup f=some v/\Q v M1
theorem aaY(hc:∀ C∈cs,XC X.K C/\cx X.K C f)(he:PD X o td)(hb:attributeBase o f X.env (eval o X.env)=eval o X.env:=by rfl):PD X (.Attribute o f pos) (uk cs td f):=by
 intro pins s σ H Q I h;obtain⟨τ,M,Qd,A,h,k⟩:=h;refine wu hb (thn (he pins s σ H (λ x H1=>∃ w M1,Kp H H1/\aH X.K H1 w x/\cz X.K H1 M1/\∃ a C fs v,w=.m a/\M1 a=some (.exc C fs)/\C∈cs/\fs.lookup f=some v/\Qd v M1) I ⟨τ,M,_,A,h,λ v H1 w M1 kp r m q=>⟨w,M1,kp,r,m,q⟩⟩)
  λ u s1 ⟨x,H1,I1,rx,w,M1,kp,r1,m1,a,C,fs,v,ew,hma,hC,hl,q⟩=>?_)
 subst ew;cases (show x=.ref a from r1);obtain rfl:u=Value.ref a:=rx;obtain⟨v',u',ox,od,rv,ru,J,lo⟩:=(zF (f:=f) I1 m1 hma).2 v hl;obtain⟨xc,na⟩:=hc C hC;obtain⟨cd,hcd,hd,_⟩:=fT xc.x;refine ag9 I1.kIn xc J (W.findObj_own (by unfold W.hasDictIn;rw[hcd];exact hd) na rfl lo) (qE ru) ?_;exact⟨v',H1,I1.tok _,ru,k v' H1 v M1 kp rv m1 q⟩
def adu:V->Value
 | .ref a=>.ref a
 | .ty n=>.type n
 | _=>.none
def yQ:V->Bool
 | .ref _=>true
 | .ty _=>true
 | _=>false
theorem wc:∀ {v:V} {u:Value},yQ v=true->RelV v u->u=adu v
 | .ref _,_,_,r=>r
 | .ty _,_,_,r=>r
 | .non,_,h,_=>nomatch h
 | .bl _,_,h,_=>nomatch h
 | .int _,_,h,_=>nomatch h
 | .str _,_,h,_=>nomatch h
 | .byt _,_,h,_=>nomatch h
 | .flt _,_,h,_=>nomatch h
theorem sF:∀ {cs:List V} {us:List Value},(∀ c∈cs,yQ c=true)->Vals cs us->us=cs.map adu
 | _,_,_,.nil=>rfl
 | _,_,h,.cons r t=>by rw[wc (h _ (by simp)) r,sF (λ c hc=>h c (by simp[hc])) t];rfl
def IsC(H:Hp)(v:V)(cs:List V):Prop:=cs=[v]\/∃ t,v=.ref t/\H t=some (.tup cs)
def ag1(K:FG)(xs:List V)(H:Hp)(Q:VK):Prop:=∃ a C c cs b M fs,xs=[.ref a,c]/\cz K H M/\M a=some (.exc C fs)/\IsC H c cs/\(∀ c∈cs,yQ c=true)/\XC K C/\W.kitAny K (.ref C) (cs.map adu)=some b/\Q (.bl b) H
theorem za:dZ X (.builtin "isinstance") (ag1 X.K):=by
 intro pins s σ H xs us Q I r h;obtain⟨a,C,c,cs,b,M,fs,rfl,m,e,hc,hcs,xc,kb,q⟩:=h;obtain⟨u,w,rfl,r1,r2⟩:=vals2 r;cases (show u=Value.ref a from r1);obtain⟨⟨ox,od,J⟩,_⟩:=zF (f:= "") I m e;have fin:∀ tk,EP X pins σ Q (.bool b) {s with toks:=tk}:=λ tk=>⟨.bl _,H,I.tok _,rfl,q⟩;rcases hc with rfl | ⟨t,rfl,ht⟩
 ·have e1:=wc (hcs c (by simp)) r2;subst e1;have e2:W.kitOne X.K (.ref C) (adu c)=some b:=by
   simp only[List.map_cons,List.map_nil,W.kitAny] at kb
   split at kb
   ·rename_i z;rw[z,kb]
   ·rename_i z;rw[z,kb]
   ·cases kb
  exact W.kia_one (zG xc) I.kIn J e2 (λ z=>nomatch z) fin
 ·cases (show w=Value.ref t from r2);obtain⟨_,its,rv,⟨o,g1,g2,_,n,g3⟩⟩:=I.hok t _ ht;have e1:=sF hcs rv;subst e1;obtain⟨c1,c2,c3,c4⟩:=o;cases g2;cases g3;exact W.kia_tup (zG xc) I.kIn J g1 kb (λ z=>nomatch z) fin
def zX(tab:Addr->Option Bool)(td:TD)(τ:DS)(M:MH)(Q:QD):Prop:=td τ M λ w M1=>∃ a C fs b,w=.m a/\M1 a=some (.exc C fs)/\tab C=some b/\Q (.d (.bool b)) M1
def CTm(cs:List V)(tc:TE):Prop:=∀ σ H (Q:VK),(∀ v H',(∀ b u,H b=some u->H' b=some u)->IsC H' v cs->Q v H')->tc σ H Q
theorem aci(v:V):CTm [v] (tC v):=λ σ H Q h=>h v H (λ _ _ z=>z) (.inl rfl)
theorem acV(ht:∀ C b,tab C=some b->XC X.K C/\W.kitAny X.K (.ref C) (cs.map adu)=some b)(hcs:(cs.all yQ)=true)(hg:Gl X "isinstance")(hm:X.mg "isinstance" = none)(ho:PD X o td)(hc:PE X ce tc)(ct:CTm cs tc)
  (h1:dQ o=false:=by rfl)(h2:dQ ce=false:=by rfl):PD X (.Call (.Name "isinstance" p) [o,ce] [] pos) (zX tab td):=by
 refine iH (sQ za hg hm bU (rf ho (rf hc zH (bN ce [] X.env h2)) (bN o [ce] X.env h1)) (by decide) (by decide) (bN o [ce] X.env h1) (cf pos X.env [ce] (by simp[h2]))) λ σ H Q h=>?_;obtain⟨τ,M,Qd,A,h,k⟩:=h;refine⟨τ,M,_,A,h,λ v H1 w M1 kp r m hq78=>?_⟩;obtain⟨a,C,fs,b,ew,hma,htb,q⟩:=hq78;subst ew;cases (show v=.ref a from r);refine ct σ H1 _ λ c H2 st ic=>?_;obtain⟨xc,kb⟩:=ht C b htb;have kp2:Kp H1 H2:=⟨λ b xs z=>st b _ z,λ b o u z=>st b _ z⟩;have m2:cz X.K H2 M1:=λ b mo z=>(m b mo z).keep kp2 λ u y=>st b u y;exact⟨a,C,c,cs,b,M1,fs,rfl,m2,hma,ic,λ c hc=>List.all_eq_true.mp hcs c hc,xc,kb,k (.bl b) H2 (.d (.bool b)) M1 (kp.trans kp2) rfl m2 q⟩
structure Xi(K:FG)(C:Addr)(qual:Str)(st:Stmt)(ps:List Str)(f:Addr)(fd:FuncData):Prop where
 fn:Fun K "__init__" qual st f fd
 xm:Xm K C f
 bd:L2.Binds K fd ps []
theorem yi{K:FG}{C:Addr}{qual:Str}{st:Stmt}{ps:List Str}{f:Addr}{oc:Value}{od an:Option Addr}{osl:Array (Option Value)}{kV doc pm cdv ct:Value}(xc:XC K C)(a:W.findIn K (.ref C) "__init__" = some (some (.ref f)))(i:W.typeIn K (.ref f)=some (.type "function"))
  (l:K.lookup f=some ⟨oc,od,.func (W.fnOf "__init__" qual (aE st) (aD st) (ag st) .none kV doc pm an cdv ct),osl⟩)(c:W.codeIn K cdv qual=true)(k:W.keepIn K (.ref f)=true)(m:xmk K C=true)(ty:W.typeIn K (.ref C)=some (.type "type"))(kc:W.keepIn K (.ref C)=true)
  (b:∀ (kV doc pm:Value) (an:Option Addr) (cdv ct:Value) (us:List Value),us.length=ps.length->bindArgs (W.fnOf "__init__" qual (aE st) (aD st) (ag st) .none kV doc pm an cdv ct) ⟨us,[]⟩=pure (ps.zip us)) :
  Xi K C qual st ps f (W.fnOf "__init__" qual (aE st) (aD st) (ag st) .none kV doc pm an cdv ct):=
 have F:=qp (st:=st) l c k
 ⟨F,⟨xc,m,ty,a,i,kc⟩,F.binds b⟩
def wK(l:List (Addr×Bool))(C:Addr):Option Bool:=l.lookup C
inductive jw(P:Addr->Bool->Prop):List (Addr×Bool)->Prop
 | nil:jw P []
 | cons {a:Addr} {b:Bool} {l:List (Addr×Bool)}:P a b->jw P l->jw P ((a,b)::l)
theorem jw.of(h:jw P l):∀ C b,wK l C=some b->P C b:=by
 induction h with
 | nil=>intro C b z;cases z
 | @cons a b l p _ ih =>
  intro C b' z;unfold wK at z ih;rw[List.lookup_cons] at z
  split at z
  ·rename_i e
   cases z;rw[beq_iff_eq.mp e];exact p
  ·exact ih C b' z
inductive xw(P:Addr->Prop):List Addr->Prop
 | nil:xw P []
 | cons {a:Addr} {l:List Addr}:P a->xw P l->xw P (a::l)
theorem xw.of(h:xw P l):∀ C∈l,P C:=by
 induction h with
 | nil=>intro C z;cases z
 | cons p _ ih =>
  intro C z;rcases List.mem_cons.mp z with e | e
  ·rw[e];exact p
  ·exact ih C e
theorem oF:Lk X (λ _ _ _=>False):=λ _ _ _ _ _ _ _ _ _ _ h=>h.elim
section
variable {X:Cx}{pos p p' apos cpos np hpos:Pos}{k:Nat}{f C:Addr}{fd:FuncData}{ps fs:List Str}{sp:SpX}{x m n:Str}{e o:Expr}{es:List Expr}{t:TAd}{td:TD}{E:XE}
theorem ag4(L:Lk X E)(F:bH X.prog X.w X.K X.mg X.base (CXE X.prog X.w) k f fd ps (eD X.K sp))(hr:dN k X.A)(hg:Gl X x)(hm:X.mg x=some (.ref f))(hk:W.keepIn X.K (.ref f)=true)(hb:L2.Binds X.K fd ps [])
  (ha:Jd (PAd X (e::es) t))(hdb:ND x:=by decide)(h1:dQ e=false:=by rfl)(h2:(es.all λ e=>!dQ e)=true:=by rfl) :
  Jd (PD X (.Call (.Name x p) (e::es) [] pos) (aac sp E t)):=⟨have ha:=ha.h;by
 intro pins s σ H Q I h;obtain⟨τ,M,Qd,A,h,k⟩:=h;refine wpAny_Call_Name_kw (gL I hg hm ?_ hdb);refine W.callWith_K (h₀:=X.base) I.ok.mod.kin hk (thn (ha pos pins s σ H (λ vs H1=>∃ ws M1,Kp H H1/\bj X.K H1 ws vs/\cz X.K H1 M1/\sp ws M1 Qd λ a M'=>E a τ M') I ⟨τ,M,_,A,h,λ vs H1 ws M1 kp r m q=>⟨ws,M1,kp,r,m,q⟩⟩) λ us s1 ⟨vs,H1,I1,r,ws,M1,kp,rw,m1,q⟩=>⟨I1.kIn,?_⟩) (bN e es X.env h1) (cf pos X.env es h2);refine vA (E:=λ v _ H'=>∃ a M',v=.ref a/\Kp H1 H'/\cz X.K H' M'/\E a τ M') F hr hb I1 r ⟨ws,M1,Qd,_,rw,m1,q,kgo k kp,λ a H' M' kp' m' e'=>⟨a,M',rfl,kp',m',e'⟩⟩ λ u s' hx=>nQ L I1 (A.go kp m1) (λ v H' z=>z) hx⟩
theorem aeP(L:Lk X E)(he:Jd (PD X o td))(c:Cls X.K C)(hm:Meth X.K C m f)(F:bH X.prog X.w X.K X.mg X.base (CXE X.prog X.w) k f fd ps (eD X.K sp))(hr:dN k X.A)(hb:L2.Binds X.K fd ps [])(ha:Jd (PAd X (e::es) t))
  (ht:eval (.Call (.Attribute o m apos) (e::es) [] pos) X.env=(do
   let ov <- eval o X.env
   standAt apos.atName
   let (f,first) <- holding [ov] (getMethod ov m pl)
   callWith pos f first (backTo pos (starEach (e::es) X.env)) (backToKw pos (keywordEach [] X.env))):=by rfl)
  (h1:dQ e=false:=by rfl)(h2:(es.all λ e=>!dQ e)=true:=by rfl):Jd (PD X (.Call (.Attribute o m apos) (e::es) [] pos) (nE C m sp E td t)):=⟨have he:=he.h;have ha:=ha.h;by
 intro pins s σ H Q I h;obtain⟨τ,M,Qd,A,h,k⟩:=h;refine W.methodCall_KW (pl:=pl) (thn (he pins s σ H (λ x H1=>∃ w M1,Kp H H1/\aH X.K H1 w x/\cz X.K H1 M1/\∃ a fs,w=.m a/\M1 a=some (.ins C fs)/\fs.lookup m=none/\t τ M1 λ ws M2=>sp (w::ws) M2 Qd λ a M'=>E a τ M') I ⟨τ,M,_,A,h,λ v H1 w M1 kp r m q=>⟨w,M1,kp,r,m,q⟩⟩)
  λ u s1 ⟨y,H1,I1,ry,w,M1,kp1,r1,m1,a,fs,ew,hma,hl,q1⟩=>?_) ht
 subst ew;obtain⟨dx,l,e1,pr⟩:=m1 _ _ hma;cases (show y=.ref a from r1);obtain rfl:u=Value.ref a:=ry;have g:=eC m pr;rw[hl] at g;refine fH I1 e1 c hm (OR.none_of g) ?_;refine W.callWith_K (first:=[.ref a]) (h₀:=X.base) I.ok.mod.kin hm.kp (thn (ha pos pins s1 σ H1 (λ vs H2=>∃ ws M2,Kp H1 H2/\bj X.K H2 ws vs/\cz X.K H2 M2/\sp (.m a::ws) M2 Qd λ a M'=>E a τ M') I1 ⟨τ,M1,_,A.go kp1 m1,q1,λ vs H2 ws M2 kp r m q=>⟨ws,M2,kp,r,m,q⟩⟩)
  λ us s2 ⟨vs,H2,I2,r,ws,M2,kp2,rw,m2,q⟩=>⟨I2.kIn,?_⟩) (bN e es X.env h1) (cf pos X.env es h2)
 exact vA (us:=.ref a::us) (vs:=.ref a::vs) (E:=λ v _ H'=>∃ a M',v=.ref a/\Kp H2 H'/\cz X.K H' M'/\E a τ M') F hr hb I2 (.cons rfl r) ⟨.m a::ws,M2,Qd,_,.cons rfl rw,m2,q,kgo (kgo k kp1) kp2,λ a H' M' kp' m' e'=>⟨a,M',rfl,kp',m',e'⟩⟩ λ u s' hx=>nQ L I2 ((A.go kp1 m1).go kp2 m2) (λ v H' z=>z) hx⟩
theorem cW(L:Lk X E)(c:Xm X.K C f)(F:bH X.prog X.w X.K X.mg X.base CX0 k f fd ps (lj C fs))(hr:dN (k+1) X.A)(hg:Gl X x)(hm:X.mg x=some (.ref C))(hb:L2.Binds X.K fd ps [])(ha:Jd (PAd X (e::es) t))
  (hdb:ND x:=by decide)(h1:dQ e=false:=by rfl)(h2:(es.all λ e=>!dQ e)=true:=by rfl):Jd (PSd X (.Raise (some (.Call (.Name x p) (e::es) [] cpos)) none pos) (ib C fs E t)):=⟨have ha:=ha.h;by
 intro pins s σ H D I h;obtain⟨τ,M,Dd,A,h,_⟩:=h;rw[arm_exec_Raise];refine wpAny_bind (wpAny_standAt (zE (K:=X.K) hr.hd (wpAny_bind ?_)));refine wpAny_Call_Name_kw (gL I hg hm ?_ hdb);refine W.callWith_K (h₀:=X.base) I.ok.mod.kin c.kp (thn (ha cpos pins s σ H (λ vs H1=>∃ ws M1,Kp H H1/\bj X.K H1 ws vs/\cz X.K H1 M1/\ws.length=fs.length/\ws.length<=1000/\∀ a,M1 a=none->E a τ (bz M1 a (.exc C (fs.zip ws)))) I
  ⟨τ,M,_,A,h,λ vs H1 ws M1 kp r m q=>⟨ws,M1,kp,r,m,q⟩⟩) λ us s1 ⟨vs,H1,I1,r,ws,M1,kp,rw1,m1,hl,hz,q⟩=>⟨I1.kIn,?_⟩) (bN e es X.env h1) (cf cpos X.env es h2)
 have hlv:vs.length=fs.length:=by rw[<- rw1.length];exact hl
 have e0:H1 (s1.heap.objs.size+1)=none:=I1.hok.fresh (Nat.le_succ _);have J:Inv X pins σ (upd H1 (s1.heap.objs.size+1) (.ext (XV (s1.heap.objs.size+1) C none #[.ref s1.heap.objs.size,.none,.none,.none,.bool false,.none]))) {s1 with heap:=(s1.heap.push {cls:=.type "tuple",data:=.seq us.toArray}).push (uR C s1.heap.objs.size)}:=by
  have I2:=I1.kept (t':=s1.toks) (h':=s1.heap.push {cls:=.type "tuple",data:=.seq us.toArray}) λ b u z=>Heap.get?_push_of_some _ z;refine I2.laid (t':=s1.toks) (λ b u z=>Heap.get?_push_of_some _ z) (by show(s1.heap.push _).objs.size<=_;rw[Heap.size_push];exact Nat.le_refl _) (adJ ?_);have:=Heap.get?_push_size (s1.heap.push {cls:=.type "tuple",data:=.seq us.toArray}) (o:=uR C s1.heap.objs.size) rfl
  rwa[Heap.size_push] at this
 have r2:Vals (V.ref (s1.heap.objs.size+1)::vs) (Value.ref (s1.heap.objs.size+1)::us):=.cons rfl r;refine afH (h:=s1.heap) (g:=s1.gens) (d:=s1.drawn) (t:=s1.toks) (os:=s1.os) I1.kIn c.xc c.xm c.hi c.hf (by show us.length<=_;have:=r.length;have:=rw1.length;have:=s16;omega) ?_;have hq:=F.len (V.ref (s1.heap.objs.size+1)::vs) (upd H1 (s1.heap.objs.size+1) (.ext (XV (s1.heap.objs.size+1) C none #[.ref s1.heap.objs.size,.none,.none,.none,.bool false,.none])))
  (λ v H3=>v=.non/\∃ dx,(upd H1 (s1.heap.objs.size+1) (.ext (XV (s1.heap.objs.size+1) C none #[.ref s1.heap.objs.size,.none,.none,.none,.bool false,.none]))) dx=none/\dx≠s1.heap.objs.size+1 /\
   H3=upd (upd (upd H1 (s1.heap.objs.size+1) (.ext (XV (s1.heap.objs.size+1) C none #[.ref s1.heap.objs.size,.none,.none,.none,.bool false,.none]))) dx (.ext (DX dx (fs.zip vs)))) (s1.heap.objs.size+1) (.ext (XV (s1.heap.objs.size+1) C (some dx) #[.ref s1.heap.objs.size,.none,.none,.none,.bool false,.none]))) E0
  ⟨_,vs,_,rfl,hlv,ax,λ dx hd ne=>⟨rfl,dx,hd,ne,rfl⟩⟩
 have bnd:=hb {s1 with heap:=(s1.heap.push {cls:=.type "tuple",data:=.seq us.toArray}).push (uR C s1.heap.objs.size)} (Value.ref (s1.heap.objs.size+1)::us) J.kIn (by rw[List.append_nil,<- r2.length];exact hq);rw[List.append_nil] at bnd;refine wpAny_call (codeAny_mono (F.run _ X.stack {s1 with heap:=(s1.heap.push {cls:=.type "tuple",data:=.seq us.toArray}).push (uR C s1.heap.objs.size)} _ ⟨Value.ref (s1.heap.objs.size+1)::us,[]⟩ _ _ (λ v H3=>v=.non/\∃ dx,(upd H1 (s1.heap.objs.size+1) (.ext (XV (s1.heap.objs.size+1) C none #[.ref s1.heap.objs.size,.none,.none,.none,.bool false,.none]))) dx=none/\dx≠s1.heap.objs.size+1 /\
   H3=upd (upd (upd H1 (s1.heap.objs.size+1) (.ext (XV (s1.heap.objs.size+1) C none #[.ref s1.heap.objs.size,.none,.none,.none,.bool false,.none]))) dx (.ext (DX dx (fs.zip vs)))) (s1.heap.objs.size+1) (.ext (XV (s1.heap.objs.size+1) C (some dx) #[.ref s1.heap.objs.size,.none,.none,.none,.bool false,.none]))) E0
  (hr.make C us []) (J.aaD.make C us []) bnd r2 ⟨_,vs,_,rfl,hlv,ax,λ dx hd ne=>⟨rfl,dx,hd,ne,rfl⟩⟩) λ rr s' hq'=>?_)
 cases rr with
 | error e=>exact False.elim hq'
 | ok fl =>
  cases fl with
  | next=>exact False.elim hq'
  | brk=>exact False.elim hq'
  | cont=>exact False.elim hq'
  | ret u =>
   obtain⟨v,H3,I3,rv,ev,dx,hd,ne,eH⟩:=J.after hq';subst ev;refine⟨rv,wpAny_bind (wpAny_standAt (wpAny_pure ?_))⟩;generalize ha0:s1.heap.objs.size+1=a at *;generalize hu0:(#[.ref s1.heap.objs.size,.none,.none,.none,.bool false,.none]:Array Value)=u0 at *;have e3a:H3 a=some (.ext (XV a C (some dx) u0)):=by rw[eH,ax]
   have e3d:H3 dx=some (.ext (DX dx (fs.zip vs))):=by rw[eH,au ne,ax]
   have oa:s'.heap.get? a=some (qS C (some dx) u0):=(I3.hok a _ e3a).1;obtain⟨⟨mA,n1,r1,w1⟩,⟨od,hod⟩,_⟩:=I3.hok dx _ e3d;have I4:=I3.write (x:=dx) (e:=dx) (o:=.frz od (.xd (fs.zip vs))) (h':=s'.heap) (t':=s'.toks) (by rw[e3d];exact True.intro) (.inl rfl) (λ b q _ z=>z) ⟨od,hod⟩ ⟨hod,mA,n1,r1⟩;have e4a:(upd H3 dx (.frz od (.xd (fs.zip vs)))) a=some (.ext (XV a C (some dx) u0)):=by rw[au (Ne.symm ne)];exact e3a
   have I5:=I4.write (x:=a) (e:=a) (o:=.ext (XF a C (some dx) true)) (h':=s'.heap) (t':=s'.toks) (by rw[e4a];exact True.intro) (.inl rfl) (λ b q _ z=>z) ⟨_,oa⟩ (aan oa λ _=>by rw[<- hu0];rfl);have hdx:H1 dx=none:=by rw[au ne] at hd;exact hd
   have at5:∀ b,b≠a->b≠dx->(upd (upd H3 dx (.frz od (.xd (fs.zip vs)))) a (.ext (XF a C (some dx) true))) b=H1 b:=λ b z1 z2=>by rw[au z1,au z2,eH,au z1,au z2,au z1]
   have st:∀ b u,H1 b=some u->(upd (upd H3 dx (.frz od (.xd (fs.zip vs)))) a (.ext (XF a C (some dx) true))) b=some u:=λ b u z=>by rw[at5 b (λ y=>by rw[y,e0] at z;cases z) (λ y=>by rw[y,hdx] at z;cases z)];exact z
   have k5:Kp H1 (upd (upd H3 dx (.frz od (.xd (fs.zip vs)))) a (.ext (XF a C (some dx) true))):=⟨λ b xs z=>st b _ z,λ b o u z=>st b _ z⟩;have m5:cz X.K (upd (upd H3 dx (.frz od (.xd (fs.zip vs)))) a (.ext (XF a C (some dx) true))) (bz M1 a (.exc C (fs.zip ws))):=λ b mo z=>by
    by_cases hb:b=a
    ·subst hb;rw[ak] at z;cases z;exact⟨_,some dx,ax,λ h ⟨vs,y,c⟩=>⟨vs,y,λ _=>c rfl⟩,.inr ⟨dx,od,fs.zip vs,rfl,by rw[au ne,ax],tq fs (rw1.keep k5)⟩⟩
    ·rw[aq hb] at z;exact(m1 b mo z).keep k5 λ u y=>st b u y
   refine⟨a,C,some dx,u0,rfl,I5.kIn,c.xc.x,c.ty,oa,by rw[<- hu0];rfl,?_⟩;exact L pins σ _ s' a τ _ I5 ⟨C,some dx,u0,true,ax,oa,.inl (by rw[<- hu0];rfl),λ _=>by rw[<- hu0];rfl⟩ (A.go (kp.trans k5) m5) (q a (m1.free e0))⟩
variable {body suite:List Stmt}{b0:Stmt}{hs:List ExceptHandler}{h0:ExceptHandler}{tb:XE->TSd}{th rest:Addr->TSd}{ts:TSd}
theorem zq(hst:X.stack=X.env::X.outer)(hf:X.env.frame=some X.env.locals)
  (hb:∀ (H0:Hp) (pn:PN) (xe:VP) (E:XE),Lk (X.nc H0 pn xe) E->PassesOwn (model X.prog X.w) X.A X.env xe->Jd (nA (X.nc H0 pn xe) body (tb E)))(hh:Jd (PHd X (h0::hs) th)):Jd (PSd X (.Try body (h0::hs) [] [] pos) (agq tb th)):=
 ⟨D.abM hst hf (λ H0 pn xe E l p=>(hb H0 pn xe E l p).h) hh.h⟩
theorem zu:Jd (PHd X hs (λ _ _ _ _=>False)):=⟨λ pins σ H s a D I air ⟨τ,M,Dd,_,h,_⟩=>h.elim⟩
theorem aeO(hg:Gl X x)(hm:X.mg x=some (.ref Dc))(ht:jw (λ C b=>W.exmOne X.K (.ref C) (.ref Dc)=some b) l)(hN:X.N.Nodup)(hi:X.N[i]? =some n)(hl:X.env.scope.names.lookup n=some .local)(hk:X.env.scope.kind=.function)
  (hsu:∀ a,Jd (nA (X.ij a) (b0::suite) ts))(hr:Jd (PHd X hs rest))(hdb:ND x:=by decide):Jd (PHd X (.ExceptHandler (some (.Name x np)) (some n) (b0::suite) hpos::hs) (aby (wK l) i ts rest)):=
 ⟨D.afa hg hm ht.of hN hi hl hk (λ a=>(hsu a).h) hr.h hdb⟩
theorem kE{f:Str}{cs:List Addr}(hc:xw (λ C=>XC X.K C/\cx X.K C f) cs)(he:Jd (PD X o td))(hb:attributeBase o f X.env (eval o X.env)=eval o X.env:=by rfl):Jd (PD X (.Attribute o f pos) (uk cs td f)):=⟨D.aaY hc.of he.h hb⟩
theorem gU(hm:X.mg "isinstance" = none)(ht:jw (λ C b=>XC X.K C/\W.kitAny X.K (.ref C) [.ref Dc]=some b) l)(hg:Gl X x)(hx:X.mg x=some (.ref Dc))(ho:Jd (PD X o td))(hgi:Gl X "isinstance":= by rfl)
  (hdb:ND x:=by decide)(h1:dQ o=false:=by rfl):Jd (PD X (.Call (.Name "isinstance" p) [o,.Name x p'] [] pos) (zX (wK l) td)):=
 ⟨D.acV (cs:=[.ref Dc]) ht.of rfl hgi hm ho.h (iB (v:=.ref Dc) hg hx rfl hdb) (aci _) h1 rfl⟩
end
section
variable {X:Cx}{K:FG}
end
section
variable {X:Cx}{K:FG}
def oR(d:PyData)(ds:List PyData):Bool:=rH d&&rH (.list ds)
def inA(d:PyData)(ds:List PyData):Bool:=ds.any λ y=>PyData.eqv y d
theorem kU(hr:cL k A)(h:SeqAt.shaped d=true):A.units+1+min (PyData.depthAll ds) d.depth<cLine:=by have h1:=SeqAt.depth_of_shaped h;have h2:min (PyData.depthAll ds) d.depth<=d.depth:=Nat.min_le_right _ _;have:=hr.un;omega
theorem tE(hr:cL k X.A):OpR X (compareOp .In) (λ x y H Q=>∃ d ds,kl X.K H d x/\(kl X.K H (.list ds) y\/aA X.K H (.tuple ds) y)/\oR d ds=true/\Q (.bl (inA d ds)) H):=by
 intro pins s σ H x y v u Q I rx ry h;obtain⟨d,ds,h1,h2,o,q⟩:=h;simp only[oR,rH,Bool.and_eq_true,Bool.not_eq_true'] at o;obtain⟨⟨o1,o2⟩,o3,o4⟩:=o;obtain⟨as,r1⟩:=dy I d h1 rx o2;have c3:=SeqAt.canLay_of_shaped o3;rcases h2 with h2 | h2
 ·obtain⟨bs,r2⟩:=dy I (.list ds) h2 ry o4;exact SeqAt.in_list_reads r2 r1 c3 (SeqAt.canLay_of_shaped o1) (kU hr o1) ⟨.bl _,H,I,rfl,q⟩
 ·obtain⟨bs,r2⟩:=dR I (.tuple ds) h2 ry o4;exact SeqAt.in_tuple_reads r2 r1 c3 (SeqAt.canLay_of_shaped o1) (kU hr o1) ⟨.bl _,H,I,rfl,q⟩
theorem pq(hr:cL k X.A):OpR X (compareOp .NotIn) (λ x y H Q=>∃ d ds,kl X.K H d x/\(kl X.K H (.list ds) y\/aA X.K H (.tuple ds) y)/\oR d ds=true/\Q (.bl (!inA d ds)) H):=by
 intro pins s σ H x y v u Q I rx ry h;obtain⟨d,ds,h1,h2,o,q⟩:=h;simp only[oR,rH,Bool.and_eq_true,Bool.not_eq_true'] at o;obtain⟨⟨o1,o2⟩,o3,o4⟩:=o;obtain⟨as,r1⟩:=dy I d h1 rx o2;have c3:=SeqAt.canLay_of_shaped o3;rcases h2 with h2 | h2
 ·obtain⟨bs,r2⟩:=dy I (.list ds) h2 ry o4;exact SeqAt.notIn_list_reads r2 r1 c3 (SeqAt.canLay_of_shaped o1) (kU hr o1) ⟨.bl _,H,I,rfl,q⟩
 ·obtain⟨bs,r2⟩:=dR I (.tuple ds) h2 ry o4;exact SeqAt.notIn_tuple_reads r2 r1 c3 (SeqAt.canLay_of_shaped o1) (kU hr o1) ⟨.bl _,H,I,rfl,q⟩
def oJ(neg:Bool)(w w':W)(M:MH)(Q:QD):Prop:=∃ d ds,uN M w d/\(uN M w' (.list ds)\/w'=.d (.tuple ds))/\oR d ds=true/\Q (.d (.bool (xor neg (inA d ds)))) M
theorem nG:OpD K (λ x y H Q=>∃ d ds,kl K H d x/\(kl K H (.list ds) y\/aA K H (.tuple ds) y)/\oR d ds=true/\Q (.bl (inA d ds)) H) (oJ false):=by
 intro x y H w w' M Qd Q r1 r2 m ⟨d,ds,g1,g2,o,q⟩ k;refine⟨d,ds,g1.sound r1 m,?_,o,k _ H (.d (.bool _)) M (Kp.refl H) (by simp[aH,aA]) m q⟩;rcases g2 with g2 | rfl
 ·exact .inl (g2.sound r2 m)
 ·exact .inr r2
theorem mR:OpD K (λ x y H Q=>∃ d ds,kl K H d x/\(kl K H (.list ds) y\/aA K H (.tuple ds) y)/\oR d ds=true/\Q (.bl (!inA d ds)) H) (oJ true):=by
 intro x y H w w' M Qd Q r1 r2 m ⟨d,ds,g1,g2,o,q⟩ k;refine⟨d,ds,g1.sound r1 m,?_,o,k _ H (.d (.bool (!inA d ds))) M (Kp.refl H) (by simp[aH,aA]) m (by simpa using q)⟩;rcases g2 with g2 | rfl
 ·exact .inl (g2.sound r2 m)
 ·exact .inr r2
end
theorem bj.cut{K:FG}{H:Hp}{ws:List W}{vs:List V}(r:bj K H ws vs)(lo hi:Option Int):bj K H (cutD ws lo hi) (xI vs lo hi):=by
 unfold cutD xI;have hl:=r.length;rw[hl];have dr:∀ (n:Nat) {ws:List W} {vs:List V},bj K H ws vs->bj K H (ws.drop n) (vs.drop n):=by
  intro n
  induction n with
  | zero=>intro ws vs h;exact h
  | succ n ih =>
   intro ws vs h;cases h with
   | nil=>exact .nil
   | cons a b=>exact ih b
 have tk:∀ (n:Nat) {ws:List W} {vs:List V},bj K H ws vs->bj K H (ws.take n) (vs.take n):=by
  intro n
  induction n with
  | zero=>intro ws vs h;exact .nil
  | succ n ih =>
   intro ws vs h;cases h with
   | nil=>exact .nil
   | cons a b=>exact .cons a (ih b)
 exact tk _ (dr _ r)
def m7(v:Value):PyData->Bool
 | .str z=>match v with
  | .str x _=>decide (x=z)
  | _=>false
 | .int i=>match v with
  | .int j _=>decide (j=i)
  | _=>false
 | _=>false
def kz:List Value->List PyData->Bool
 | [],[]=>true
 | v::vs,d::ds=>m7 v d&&kz vs ds
 | _,_=>false
def rQ(K:FG)(v:Value):PyData->Bool
 | .tuple ds=>match v with
  | .ref a=>match K.lookup a with
   | some o=>(match o.cls with
    | .type n=>decide (n = "tuple")
    | _=>false)&&o.dict.isNone&&(match o.data with
    | .seq its _=>decide (its.size<=100)&&kz its.toList ds
    | _=>false)
   | none=>false
  | _=>false
 | d=>m7 v d
theorem tf(h:m7 v d=true):∃ x,RelV x v/\∀ K H,aA K H d x:=by
 cases d with
 | str z =>
  cases v with
  | str x t =>
   have e:x=z:=of_decide_eq_true h;subst e;exact⟨.str x,⟨t,rfl⟩,λ K H=>by simp[aA]⟩
  | _=>cases h
 | int i =>
  cases v with
  | int j t =>
   have e:j=i:=of_decide_eq_true h;subst e;exact⟨.int j,⟨t,rfl⟩,λ K H=>by simp[aA]⟩
  | _=>cases h
 | _=>cases h
theorem oU:∀ {vs:List Value} {ds:List PyData},kz vs ds=true->∃ xs,Vals xs vs/\∀ K H,bA K H ds xs
 | [],[],_=>⟨[],.nil,λ K H=>by simp[bA]⟩
 | v::vs,d::ds,h=>by simp only[kz,Bool.and_eq_true] at h;obtain⟨x,h1,h2⟩:=tf h.1;obtain⟨xs,h3,h4⟩:=oU h.2;exact⟨x::xs,.cons h1 h3,λ K H=>by simp only[bA];exact⟨x,xs,rfl,h2 K H,h4 K H⟩⟩
 | [],_::_,h=>by cases h
 | _::_,[],h=>by cases h
theorem vE{K:FG}{v:Value}{d:PyData}(h:rQ K v d=true):∃ x,RelV x v/\∀ H,aA K H d x:=by
 have atom:m7 v d=true->∃ x,RelV x v/\∀ H,aA K H d x:=λ h=>by obtain⟨x,h1,h2⟩:=tf h;exact⟨x,h1,h2 K⟩
 cases d with
 | tuple ds =>
  cases v with
  | ref a =>
   simp only[rQ] at h;cases e:K.lookup a with
   | none=>rw[e] at h;cases h
   | some o =>
    rw[e] at h;simp only[Bool.and_eq_true] at h;obtain⟨⟨h1,h0⟩,h2⟩:=h;have hd:o.dict=none:=by simpa using h0
    have hc:o.cls=.type "tuple":= by
     cases q:o.cls with
     | type n=>rw[q] at h1;rw[of_decide_eq_true h1]
     | _=>rw[q] at h1;cases h1
    cases q:o.data with
    | seq its n =>
     rw[q] at h2;simp only[Bool.and_eq_true,decide_eq_true_eq] at h2;obtain⟨xs,h3,h4⟩:=oU h2.2;refine⟨.ref a,rfl,λ H=>?_⟩;simp only[aA];exact⟨a,xs,rfl,.inr ⟨o,its,n,e,hc,hd,q,few (by omega),h3⟩,h4 K H⟩
    | _=>rw[q] at h2;cases h2
  | _=>cases h
 | str z=>exact atom h
 | int i=>exact atom h
 | none=>exact atom h
 | bool b=>exact atom h
 | list ds=>exact atom h
 | dict kvs=>exact atom h
def oH(K:FG):List DictEntry->List (Str×PyData)->Bool
 | [],[]=>true
 | e::es,(k,d)::kvs=>m7 e.key (.str k)&&rQ K e.val d&&oH K es kvs
 | _,_=>false
def aap(K:FG)(a:Addr)(kvs:List (Str×PyData)):Bool:=match K.lookup a with
 | some o=>(match o.cls with
  | .type n=>decide (n = "dict")
  | _=>false)&&o.dict.isNone&&decide (o.slots.size=0)&&(match o.data with
  | .dict es _=>oH K es.toList kvs
  | _=>false)
 | none=>false
def hashesOf(K:FG)(a:Addr):Option (List Int):=match K.lookup a with
 | some o=>match o.data with
  | .dict es _=>some (es.toList.map (·.hash))
  | _=>none
 | none=>none
structure iD(w:World)(K:FG)(a:Addr)(kvs:List (Str×PyData)):Prop where
 is:aap K a kvs=true
 hs:hashesOf K a=some (kvs.map λ p=>PyData.keyHash w.params p.1)
 nd:(kvs.map (·.1)).Nodup
 ns:(a==sysModules)=false
theorem sI{P:Program}{w:World}{K:FG}:∀ {es:List DictEntry} {kvs:List (Str×PyData)},oH K es kvs=true->es.map (·.hash)=kvs.map (λ p=>PyData.keyHash w.params p.1) ->
  ∃ (L:List (Key×V)) (vs:List (Key×Value)),KV L vs/\Pairs (bb P w) es vs/\(∀ e∈es,∃ k,(bb P w).is k e.key=true/\e.hash=(bb P w).hash k)/\vs.map (·.1)=kvs.map (λ p=>(.inr p.1:Key))/\Paired (λ(p:Str×PyData) (q:Key×V)=>q.1=.inr p.1/\∀ H,aA K H p.2 q.2) kvs L
 | [],[],_,_=>⟨[],[],.nil,.nil,(λ e he=>by cases he),rfl,.nil⟩
 | e::es,(k,d)::kvs,h,hh=>by
  simp only[oH,Bool.and_eq_true] at h;obtain⟨⟨h1,h2⟩,h3⟩:=h;rw[List.map_cons,List.map_cons] at hh;obtain⟨hh1,hh2⟩:=List.cons.inj hh;obtain⟨L,vs,i1,i2,i3,i4,i5⟩:=sI (P:=P) (w:=w) h3 hh2;obtain⟨x,r1,r2⟩:=vE h2;have hk:mr (.inr k) e.key=true:=by
   cases q:e.key with
   | str y t =>
    rw[q] at h1;have ey:y=k:=of_decide_eq_true h1;subst ey;show Value.isStrOf y (.str y t)=true;simp[Value.isStrOf]
   | _=>rw[q] at h1;cases h1
  refine⟨(.inr k,x)::L,(.inr k,e.val)::vs,.cons ⟨rfl,r1⟩ i1,.cons hk rfl i2,λ e' he'=>?_,by rw[List.map_cons,i4];rfl,.cons ⟨rfl,r2⟩ i5⟩;rcases List.mem_cons.mp he' with rfl | he'
  ·exact⟨.inr k,hk,hh1⟩
  ·exact i3 e' he'
 | [],_::_,h,_=>by cases h
 | _::_,[],h,_=>by cases h
theorem iD.dd(D:iD X.w X.K a kvs)(I:Inv X pins σ H s):∃ (L:List (Key×V)) (vs:List (Key×Value)),KV L vs/\s.heap.DictOf (bb X.prog X.w) a vs/\Paired (λ(p:Str×PyData) (q:Key×V)=>q.1=.inr p.1/\∀ H,aA X.K H p.2 q.2) kvs L:=by
 have h:=D.is;have hs:=D.hs;unfold aap at h;unfold hashesOf at hs;cases e:X.K.lookup a with
 | none=>rw[e] at h;cases h
 | some o =>
  rw[e] at h hs;simp only[Bool.and_eq_true] at h hs;obtain⟨⟨⟨h1,h2⟩,h3⟩,h4⟩:=h;have hc:o.cls=.type "dict":= by
   cases q:o.cls with
   | type n=>rw[q] at h1;rw[of_decide_eq_true h1]
   | _=>rw[q] at h1;cases h1
  have hd:o.dict=none:=by simpa using h2
  have hsl:o.slots = #[]:=Array.eq_empty_of_size_eq_zero (of_decide_eq_true h3);cases q:o.data with
  | dict es n =>
   rw[q] at h4 hs;obtain⟨L,vs,i1,i2,i3,i4,i5⟩:=sI (P:=X.prog) (w:=X.w) h4 (Option.some.inj hs);refine⟨L,vs,i1,⟨o,es,n,I.kIn a o e,⟨hc,hd,hsl⟩,q,λ e' he'=>i3 e' (by simpa using he'),i2,?_⟩,i5⟩;rw[i4,show(kvs.map λ p=>(.inr p.1:Key))=(kvs.map (·.1)).map Sum.inr from by simp];exact List.Pairwise.map Sum.inr (λ a b h z=>h (Sum.inr.inj z)) D.nd
  | _=>rw[q] at h4;cases h4
def gz(kvs:List (Str×PyData))(z:Str):Option PyData:=(kvs.find? λ p=>decide (p.1=z)).map (·.2)
theorem ja{K:FG}(z:Str):∀ {kvs:List (Str×PyData)} {L:List (Key×V)},Paired (λ(p:Str×PyData) (q:Key×V)=>q.1=.inr p.1/\∀ H,aA K H p.2 q.2) kvs L->OR (λ d v=>∀ H,aA K H d v) (gz kvs z) (kg L (.inr z))
 | _,_,.nil=>True.intro
 | _,_,.cons (a:=p) (b:=q) (l₁:=t1) h t=>by
  obtain⟨h1,h2⟩:=h
  by_cases e:p.1=z
  ·rw[hG (h1.trans (by rw[e])),show gz (p::t1) z=some p.2 by simp[gz,List.find?_cons,e]];exact h2
  ·rw[hB (λ y=>e (Sum.inr.inj (h1.symm.trans y))),show gz (p::t1) z=gz t1 z by simp[gz,List.find?_cons,e]];exact ja z t
def aft(K:FG)(kvs:List (Str×PyData))(ty:TE):TE:=λ σ H Q=>ty σ H λ y H1=>∃ z,y=.str z/\∀ v,(∀ H,aA K H ((gz kvs z).getD .none) v)->Q v H1
theorem acq(hg:Gl X x)(hm:X.mg x=some (.ref a))(kd:iD X.w X.K a kvs)(he:PE X e ty)(m:M1 X (.Name x p) "get" apos e cpos)(hd:ND x:=by decide):PE X (.Call (.Attribute (.Name x p) "get" apos) [e] [] cpos) (aft X.K kvs ty):=by
 intro pins s σ H Q I h;refine wpAny_Call_method m.base m.few m.line PySem.F.plainAttrs_dict PySem.F.slot_dict_get PySem.F.type_dict_get (thn (iB (v:=.ref a) hg hm rfl hd pins s σ H (λ v H'=>v=.ref a/\H'=H) I ⟨rfl,rfl⟩) λ u s1 hq79=>?_);obtain⟨x1,H1,I1,rx,ex,eH⟩:=hq79;subst ex eH;obtain rfl:u=Value.ref a:=rx;obtain⟨L,vs,rel,dd,pr⟩:=kd.dd I1;refine⟨dd.typeIs,λ b q=>?_,?_⟩
 ·cases q;obtain⟨ob,_,_,h1,h2,_⟩:=dd;exact⟨ob,h1,h2.2.1⟩
 rw[m.trees];refine Calls.callWith_builtin rfl (Calls.evalArgs_plain (Calls.spliced_cons (thn (he pins s1 σ H1 _ I1 h) λ iv s2 ⟨y,H2,I2,ry,z,ey,q2⟩=>Calls.spliced_nil ?_)));subst ey;obtain⟨L,vs,rel,dd,pr⟩:=kd.dd I2;have lv:=ja z pr;refine call_meetsIn PySem.F.slot_dict_get dd.typeIs PySem.F.entry_dict_get (PySem.F.args_dict_get_2 _ _) (meets_dict_get (bb X.prog X.w) a (oM (k:=.inr z) ry) kd.ns) ⟨_,dd.mapOf,?_⟩;refine⟨(kg L (.inr z)).getD .non,H2,I2.tok _,(rel.val (.inr z)).getD rfl,q2 _ λ H=>?_⟩;cases q:gz kvs z with
 | none =>
  rw[q] at lv;rw[OR.none_of lv];simp[aA]
 | some d =>
  rw[q] at lv;obtain⟨b,eb,rb⟩:=OR.some_of lv;rw[eb];exact rb H
def abw(kvs:List (Str×PyData))(te:TD)(τ:DS)(M:MH)(Q:QD):Prop:=te τ M λ w M1=>∃ z,w=.d (.str z)/\Q (.d ((gz kvs z).getD .none)) M1
theorem yy(hg:Gl X x)(hm:X.mg x=some (.ref a))(kd:iD X.w X.K a kvs)(he:PD X e te)(m:M1 X (.Name x p) "get" apos e cpos:=by exact⟨rfl,rfl,rfl,rfl⟩)(hd:ND x:=by decide):PD X (.Call (.Attribute (.Name x p) "get" apos) [e] [] cpos) (abw kvs te):=
 iH (acq hg hm kd he m hd) λ σ H Q h=>by obtain⟨τ,M,Qd,A,h,k⟩:=h;refine⟨τ,M,_,A,h,λ y H1 w M1 kp r m1 hq80=>?_⟩;obtain⟨z,ew,q⟩:=hq80;subst ew;simp only[aH,aA] at r;exact⟨z,r,λ v hv=>k _ H1 (.d _) M1 kp (hv H1) m1 q⟩
def ahe(K:FG)(kvs:List (Str×PyData))(ty:TE):TE:=λ σ H Q=>ty σ H λ y H1=>∃ z d,y=.str z/\gz kvs z=some d/\∀ v,(∀ H,aA K H d v)->Q v H1
theorem acI(hg:Gl X x)(hm:X.mg x=some (.ref a))(kd:iD X.w X.K a kvs)(he:PE X e ty)(hs:y0 e)(hd:ND x:=by decide):PE X (.Subscript (.Name x p) e pos) (ahe X.K kvs ty):=by intro pins s σ H Q I h;refine sg PySem.F.slot_dict_getitem.lookup hs (thn (iB (v:=.ref a) hg hm rfl hd pins s σ H (λ v H'=>v=.ref a/\H'=H) I ⟨rfl,rfl⟩) λ u s1 hq81=>?_);obtain⟨x1,H1,I1,rx,ex,eH⟩:=hq81;subst ex eH;obtain rfl:u=Value.ref a:=rx;refine thn (he pins s1 σ H1 _ I1 h) λ iv s2 hq82=>?_;obtain⟨y,H2,I2,ry,z,d,ey,l,q2⟩:=hq82;subst ey;obtain⟨L,vs,rel,dd,pr⟩:=kd.dd I2;have lv:=ja z pr;rw[l] at lv;obtain⟨b,eb,rb⟩:=OR.some_of lv;obtain⟨w',hw,rw'⟩:=mJ.some_of (v:=b) (o:=valueAt vs (.inr z)) (by rw[<- eb];exact rel.val (.inr z));exact⟨dd.typeIs,wpAny_getItem_of (oM (k:=.inr z) ry) dd.mapOf hw ⟨b,H2,I2.tok _,rw',q2 b rb⟩⟩
def acf(kvs:List (Str×PyData))(te:TD)(τ:DS)(M:MH)(Q:QD):Prop:=te τ M λ w M1=>∃ z d,w=.d (.str z)/\gz kvs z=some d/\Q (.d d) M1
theorem aam(hg:Gl X x)(hm:X.mg x=some (.ref a))(kd:iD X.w X.K a kvs)(he:PD X e te)(hs:y0 e:=by exact λ _ _=>rfl)(hd:ND x:=by decide):PD X (.Subscript (.Name x p) e pos) (acf kvs te):=
 iH (acI hg hm kd he hs hd) λ σ H Q h=>by obtain⟨τ,M,Qd,A,h,k⟩:=h;refine⟨τ,M,_,A,h,λ y H1 w M1 kp r m1 hq83=>?_⟩;obtain⟨z,d,ew,l,q⟩:=hq83;subst ew;simp only[aH,aA] at r;exact⟨z,d,r,l,λ v hv=>k _ H1 (.d d) M1 kp (hv H1) m1 q⟩
theorem u7{ds:List PyData}(hg:Gl X x)(hm:X.mg x=some (.ref a))(ht:rQ X.K (.ref a) (.tuple ds)=true)(hd:ND x:=by decide):PD X (.Name x pos) (dC (.d (.tuple ds))):=
 zO (iB (v:=.ref a) hg hm rfl hd) λ H=>by
  obtain⟨y,h1,h2⟩:=vE ht;have e:y=.ref a:=by have h3:=h2 H;simp only[aA] at h3;obtain⟨c,_,e,_⟩:=h3;subst e;have:(Value.ref a)=.ref c:=h1;cases this;rfl
  rw[<- e];exact h2 H
theorem zz(hg:Gl X x)(hm:X.mg x=some (.ref a))(kd:iD X.w X.K a kvs)(he:Jd (PD X e te))(m:M1 X (.Name x p) "get" apos e cpos:=by exact⟨rfl,rfl,rfl,rfl⟩)(hd:ND x:=by decide):Jd (PD X (.Call (.Attribute (.Name x p) "get" apos) [e] [] cpos) (abw kvs te)):=⟨_root_.D.yy hg hm kd he.h m hd⟩
theorem lP(hg:Gl X x)(hm:X.mg x=some (.ref a))(kd:iD X.w X.K a kvs)(he:Jd (PD X e te))(hs:y0 e:=by exact λ _ _=>rfl)(hd:ND x:=by decide):Jd (PD X (.Subscript (.Name x p) e pos) (acf kvs te)):=⟨_root_.D.aam hg hm kd he.h hs hd⟩
theorem vQ(hg:Gl X x)(hm:X.mg x=some (.ref a))(ht:rQ X.K (.ref a) (.tuple ds)=true)(hd:ND x:=by decide):Jd (PD X (.Name x pos) (dC (.d (.tuple ds)))):=⟨_root_.D.u7 hg hm ht hd⟩
end D
namespace PySem.SeqAt
open MeetsSeq MeetsSeq2 MeetsSeq3 SeqRoads2
theorem oP(l:Addr)(items:Array Value)(n:Nat)(dd:Option Addr)(sl:Array (Option Value))(x:Value)(e:Value->Bool)(j:Nat)(hj:j<items.size)
  (hit:e items[j]=true)(hno:∀ m (hm:m<items.size),m<j->e items[m]=false) :
  Meets (Builtin.«tuple.index» ⟨[.ref l,x],[]⟩)
   (λ A R s=>s.heap.get? l=some {cls:=.type "tuple",dict:=dd,data:=.seq items n,slots:=sl}/\(∀ y,y∈items->EqAt A.in1 s y x (e y))/\R (.ok (.ret (.int j s.toks))) {s with toks:=s.toks+1}):=
 .of_wp λ prog w A R s h=>by
  obtain⟨hp,g,d,tk,os⟩:=s;obtain⟨hl,he,h⟩:=h;show wpAny (model prog w) A.in1 (Builtin.«tuple.index» ⟨[.ref l,x],[]⟩) _ _ _;unfold Builtin.«tuple.index»;simp only[Std.Legacy.Range.forIn_eq_forIn_range',Std.Legacy.Range.size]
  wp_walk using wpAny_loadPart' hl,wpAny_forIn_list _ (λ rest (b:Option Fin×Unit) s'=>b.1=none/\s'=⟨hp,g,d,tk,os⟩/\∃ i,i<=j/\rest=List.range' i (items.size-i)) _
  case turn =>
   rintro y rest b s' ⟨hb,rfl,i,hi,hr⟩;have hlt:i<items.size:=by omega
   have e1:items.size-i=(items.size-(i+1))+1:=by omega
   rw[e1,List.range'_succ] at hr;obtain⟨rfl,hr⟩:=List.cons.inj hr;have e2:items[y]? =some items[y]:=by simp[hlt]
   rw[e2];refine wpAny_bind (he _ (Array.getElem_mem hlt) prog w _ _ ?_)
   by_cases hij:y=j
   ·subst hij;rw[hit]
    wp_walk
    exact⟨_,rfl,h⟩
   ·rw[hno y hlt (by omega)]
    wp_walk
    exact⟨rfl,rfl,y+1,by omega,hr⟩
  case fin =>
   rintro b s' ⟨hb,rfl,i,hi,hr⟩;have:=congrArg List.length hr;rw[List.length_nil,List.length_range'] at this;omega
  case h =>
   refine⟨rfl,rfl,0,Nat.zero_le _,?_⟩;congr 1;simp
end PySem.SeqAt
namespace ZT
abbrev TT(h:Heap)(j t:Addr)(k:Nat)(ys:Array Value):Prop:=h.IsTupleIter j t k/\h.IsTuple t ys
theorem TT.at(x:TT h j t k ys)(f:∀ c o,(c=j\/c=t)->h.get? c=some o->h'.get? c=some o):TT h' j t k ys:=by obtain⟨⟨o,e,r⟩,o',e',r'⟩:=x;exact⟨⟨o,f _ _ (.inl rfl) e,r⟩,o',f _ _ (.inr rfl) e',r'⟩
theorem y7(st:TT s.heap j t k ys)(hn:t≠j)(hy:ys[k]? =some y)
  (q:∀ h',TT h' j t (k+1) ys->Heap.SameBut j s.heap h'->Q y {s with heap:=h'}):wpAny (model prog w) A (Builtin.SmallTypes.nextOf (.ref j)) Q E s:=by
 obtain⟨jt,tt⟩:=st;obtain⟨oj,ej,cj,dj⟩:=id jt;obtain⟨ot,et,ct,nt,dt⟩:=id tt;unfold Builtin.SmallTypes.nextOf;refine wpAny_bind (wpAny_callSpecial?_slot (name:=Str.ofString "__next__") jt.typeIs F.slot_tuple_iterator_next (wpAny_call_entry F.slot_tuple_iterator_next jt.typeIs F.entry_tuple_iterator_next ?_ (F.args_tuple_iterator_next_1 _)));show wpAny _ _ (field (.ref j) 0 >>= _) _ _ s;refine wpAny_bind (wpAny_field ej dj (x:=.ref t) rfl ?_);show wpAny _ _ (if (Value.ref t==Value.none)=true then _ else _) _ _ s;rw[if_neg (show ¬ ((Value.ref t==Value.none)=true) from Bool.false_ne_true)];show wpAny _ _ (field (.ref j) 1 >>= _) _ _ s;refine wpAny_bind (wpAny_field ej dj (x:=.int k 0) rfl ?_);show wpAny _ _ (seqItems? (.ref t) >>= _) _ _ s;refine wpAny_bind (wpAny_seqItems et dt ?_);simp only[Int.toNat_natCast,hy];refine wpAny_bind (wpAny_setField ej dj (by simp) (wpAny_pure ⟨y,rfl,wpAny_pure (q _ ⟨?_,tt.extBut (Heap.SameBut.update ..).extBut hn⟩ (Heap.SameBut.update ..))⟩));exact⟨_,Heap.get?_update_self _ ej (Obj.isFreed_of_fields (Obj.data_mapFields dj _)),(Obj.cls_mapFields ..).trans cj,by rw[Obj.data_mapFields dj];simp[rawInt]⟩
theorem ab9(hh:A.handled=none)(st:TT s.heap j t k ys)(hy:ys[k]? =none)
  (q:∀ h' x,Heap.ExtBut j s.heap h'->(∃ o,h'.get? x=some o/\o.cls=.type "StopIteration")->E (.ref x) {s with heap:=h'}):wpAny (model prog w) A (Builtin.SmallTypes.nextOf (.ref j)) Q E s:=by
 obtain⟨jt,tt⟩:=st;obtain⟨oj,ej,cj,dj⟩:=id jt;obtain⟨ot,et,ct,nt,dt⟩:=id tt;unfold Builtin.SmallTypes.nextOf;refine wpAny_bind (wpAny_callSpecial?_slot (name:=Str.ofString "__next__") jt.typeIs F.slot_tuple_iterator_next (wpAny_call_entry F.slot_tuple_iterator_next jt.typeIs F.entry_tuple_iterator_next ?_ (F.args_tuple_iterator_next_1 _)));show wpAny _ _ (field (.ref j) 0 >>= _) _ _ s;refine wpAny_bind (wpAny_field ej dj (x:=.ref t) rfl ?_);show wpAny _ _ (if (Value.ref t==Value.none)=true then _ else _) _ _ s;rw[if_neg (show ¬ ((Value.ref t==Value.none)=true) from Bool.false_ne_true)];show wpAny _ _ (field (.ref j) 1 >>= _) _ _ s;refine wpAny_bind (wpAny_field ej dj (x:=.int k 0) rfl ?_);show wpAny _ _ (seqItems? (.ref t) >>= _) _ _ s;refine wpAny_bind (wpAny_seqItems et dt ?_);simp only[Int.toNat_natCast,hy];refine wpAny_bind (wpAny_rule (wpAny_bind (wpAny_setField ej dj (by simp) ?_)));show wpAny _ _ (newExc (.type "StopIteration") [] >>= _) _ _ _;refine wpAny_bind ?_;simp only[newExc,newTuple];refine wpAny_bind (wpAny_newObj_type ?_ (by size_fits));refine wpAny_bind (m:=firstArgMember _ _) (wpAny_of_eq (a:=Value.none) (by first | rfl | (simp only[firstArgMember];rfl)) (wpAny_newObj_type ?_ (by size_fits)))
 simp only[raiseNew];refine wpAny_bind (wpAny_handled ?_)
 first | rw[show A.in1.handled=none from hh] | rw[hh]
 refine wpAny_bind (wpAny_pure (wpAny_throw (q _ _ (((Heap.SameBut.update ..).extBut.push _).push _) ⟨_,Heap.get?_push_size _ rfl,rfl⟩)))
def isIt(b:Bool)(h:Heap)(j t:Addr)(k:Nat):Prop:=match b with
 | true=>h.IsTupleIter j t k
 | false=>h.IsListIter j t k
def vm(b:Bool)(h:Heap)(t:Addr)(ys:Array Value):Prop:=match b with
 | true=>h.IsTuple t ys
 | false=>h.IsList t ys
theorem isIt.obj(x:isIt b h j t k):∃ o,h.get? j=some o/\o.data=.fields #[.ref t,.int k 0]:=by
 cases b<;>(obtain⟨o,e,_,d⟩:=x;exact⟨o,e,d⟩)
theorem isIt.at(x:isIt b h j t k)(f:∀ o,h.get? j=some o->h'.get? j=some o):isIt b h' j t k:=by
 cases b<;>(obtain⟨o,e,r⟩:=x;exact⟨o,f _ e,r⟩)
theorem vm.at(x:vm b h t ys)(f:∀ o,h.get? t=some o->h'.get? t=some o):vm b h' t ys:=by
 cases b<;>(obtain⟨o,e,r⟩:=x;exact⟨o,f _ e,r⟩)
theorem vm.lt(x:vm b h t ys):t<h.objs.size:=by
 cases b<;>(obtain⟨o,e,r⟩:=x;exact Heap.lt_size e)
abbrev TI(b:Bool)(h:Heap)(j t:Addr)(k:Nat)(ys:Array Value):Prop:=isIt b h j t k/\vm b h t ys
theorem TI.at(x:TI b h j t k ys)(f:∀ c o,(c=j\/c=t)->h.get? c=some o->h'.get? c=some o):TI b h' j t k ys:=⟨x.1.at λ o=>f _ o (.inl rfl),x.2.at λ o=>f _ o (.inr rfl)⟩
theorem nI(st:TI b s.heap j t k ys)(hn:t≠j)(hy:ys[k]? =some y)
  (q:∀ h',TI b h' j t (k+1) ys->Heap.SameBut j s.heap h'->Q y {s with heap:=h'}):wpAny (model prog w) A (Builtin.SmallTypes.nextOf (.ref j)) Q E s:=by
 cases b with
 | true=>exact y7 st hn hy q
 | false=>exact wpAny_nextOf_list_item st.1 st.2 hy λ h' i sb=>q h' ⟨i,Heap.IsList.extBut st.2 sb.extBut hn⟩ sb
theorem vo(hh:A.handled=none)(st:TI b s.heap j t k ys)(hy:ys[k]? =none)
  (q:∀ h' x,Heap.ExtBut j s.heap h'->(∃ o,h'.get? x=some o/\o.cls=.type "StopIteration")->E (.ref x) {s with heap:=h'}):wpAny (model prog w) A (Builtin.SmallTypes.nextOf (.ref j)) Q E s:=by
 cases b with
 | true=>exact ab9 hh st hy q
 | false=>exact wpAny_nextOf_list_end hh st.1 st.2 hy q
structure Zs(p q:Bool)(h:Heap)(z T O i j a b:Addr)(f:Value)(k1 k2:Nat)(xs ys:Array Value)(u v:Value):Prop where
 z:IsZip h z T O f
 t:IsPair h T (.ref i) (.ref j)
 o:IsPair h O u v
 i:TI p h i a k1 xs
 j:TI q h j b k2 ys
theorem next_item(D:ZipApart z T O i j a b)(Z:Zs p₁ p₂ s.heap z T O i j a b .none k k xs ys u v)(hx:xs[k]? =some x)(hy:ys[k]? =some y)
  (q:∀ h',Zs p₁ p₂ h' z T O i j a b (rawInt s.heap.objs.size) (k+1) (k+1) xs ys x y->IsPair h' s.heap.objs.size x y ->
   (∀ c o,c≠z->c≠O->c≠i->c≠j->s.heap.get? c=some o->h'.get? c=some o)->Q (some (.ref s.heap.objs.size)) {s with heap:=h'}):wpAny (model prog w) A (pyNext (.ref z)) Q E s:=by
 have hT:s.TypeIs (.ref z) "zip":= ⟨_,Z.z,rfl⟩;unfold pyNext;refine wpAny_bind (wpAny_attempt (wpAny_callSpecial?_slot (name:=Str.ofString "__next__") hT F.slot_zip_next (wpAny_call_entry F.slot_zip_next hT F.entry_zip_next ?_ (F.args_zip_next_1 _))));show wpAny _ _ (field (.ref z) 2 >>= _) _ _ _;refine wpAny_bind (wpAny_field Z.z rfl (x:=.bool false) rfl ?_);show wpAny _ _ (field (.ref z) 3 >>= _) _ _ _;refine wpAny_bind (wpAny_field Z.z rfl (x:=.ref T) rfl (wpAny_bind (wpAny_seqItems Z.t rfl ?_)));show wpAny _ _ (Builtin.SmallTypes.ownedTupleIsFree (.ref z) >>= _) _ _ _;refine wpAny_bind ?_;unfold Builtin.SmallTypes.ownedTupleIsFree;refine wpAny_bind (wpAny_field Z.z rfl (x:=.none) rfl (wpAny_pure ?_));simp only[if_true];refine wpAny_bind (wpAny_rule (wpAny_bind (wpAny_field Z.z rfl (x:=.ref O) rfl (wpAny_bind (wpAny_setField_rec Z.z (by simp) λ g1 z1 s1=>?_)))));replace z1:IsZip g1 z T O .ellipsis:=z1;refine wpAny_bind ?_;simp only[List.zipIdx_cons,List.zipIdx_nil,List.forIn_cons,List.forIn_nil];have i1:TI p₁ g1 i a k xs:=Z.i.at λ c o hc q=>s1.extBut _ _ (by rcases hc with rfl | rfl;exact D.i1z;exact D.l1z) q;have j1:TI p₂ g1 j b k ys:=Z.j.at λ c o hc q=>s1.extBut _ _ (by rcases hc with rfl | rfl;exact D.i2z;exact D.l2z) q;refine wpAny_bind (wpAny_bind (wpAny_onRaise ?_));show wpAny _ _ (Builtin.SmallTypes.nextOf (.ref i) >>= _) _ _ _;refine wpAny_bind (nI i1 D.l1i1 hx λ g2 i2 s2=>wpAny_pure ?_);have o2:IsPair g2 O u v:=s2.extBut _ _ D.TOi1 (s1.extBut _ _ D.TOz Z.o);refine wpAny_bind (wpAny_seqItems o2 rfl (wpAny_bind (wpAny_updateSeq_pair o2 λ g3 o3 s3=>wpAny_bind (wpAny_letGo (wpAny_pure ?_)))));replace o3:IsPair g3 O x v:=o3;have j3:TI p₂ g3 j b k ys:=j1.at λ c o hc q=>s3.extBut _ _ (by rcases hc with rfl | rfl;exact D.TOi2.symm;exact D.l2TO) (s2.extBut _ _ (by rcases hc with rfl | rfl;exact D.i12.symm;exact D.l2i1) q);refine wpAny_bind (wpAny_bind (wpAny_onRaise ?_));show wpAny _ _ (Builtin.SmallTypes.nextOf (.ref j) >>= _) _ _ _;refine wpAny_bind (nI j3 D.l2i2 hy λ g4 j4 s4=>wpAny_pure ?_);have o4:IsPair g4 O x v:=s4.extBut _ _ D.TOi2 o3;refine wpAny_bind (wpAny_seqItems o4 rfl (wpAny_bind (wpAny_updateSeq_pair o4 λ g5 o5 s5=>wpAny_bind (wpAny_letGo (wpAny_pure (wpAny_pure ?_))))));replace o5:IsPair g5 O x y:=o5;refine wpAny_bind (wpAny_seqItems o5 rfl (wpAny_bind (wpAny_newTuple ?_)));have sz:g5.objs.size=s.heap.objs.size:=by rw[s5.1,s4.1,s3.1,s2.1,s1.1]
 have z5:IsZip g5 z T O .ellipsis:=s5.extBut _ _ D.TOz.symm (s4.extBut _ _ D.i2z.symm (s3.extBut _ _ D.TOz.symm (s2.extBut _ _ D.i1z.symm z1)));have k5:∀ c o,c≠z->c≠O->c≠i->c≠j->s.heap.get? c=some o->g5.get? c=some o:=λ c o c1 c2 c3 c4 e=>s5.extBut _ _ c2 (s4.extBut _ _ c4 (s3.extBut _ _ c2 (s2.extBut _ _ c3 (s1.extBut _ _ c1 e))));have i5:TI p₁ g5 i a (k+1) xs:=i2.at λ c o hc q=>s5.extBut _ _ (by rcases hc with rfl | rfl;exact D.TOi1.symm;exact D.l1TO) (s4.extBut _ _ (by rcases hc with rfl | rfl;exact D.i12;exact D.l1i2) (s3.extBut _ _ (by rcases hc with rfl | rfl;exact D.TOi1.symm;exact D.l1TO) q));have j5:TI p₂ g5 j b (k+1) ys:=j4.at λ c o hc q=>s5.extBut _ _ (by rcases hc with rfl | rfl;exact D.TOi2.symm;exact D.l2TO) q;have zlt:z<g5.objs.size:=Heap.lt_size z5;show wpAny _ _ (Builtin.SmallTypes.ownedTupleHandOut (.ref z) (.ref g5.objs.size) >>= _) _ _ _;refine wpAny_bind ?_;unfold Builtin.SmallTypes.ownedTupleHandOut;have z6:IsZip (g5.push {cls:=.type "tuple",data:=.seq #[x,y]}) z T O .ellipsis:=Heap.get?_push_of_some _ z5;refine wpAny_bind (wpAny_setField_rec z6 (by simp) λ g7 z7 s7=>?_);replace z7:IsZip g7 z T O (rawInt g5.objs.size):=z7;refine wpAny_setField_rec z7 (by simp) λ g8 z8 s8=>?_;replace z8:IsZip g8 z T O (rawInt g5.objs.size):=z8;have up:∀ c o,c≠z->g5.get? c=some o->g8.get? c=some o:=λ c o c1 e=>s8.extBut _ _ c1 (s7.extBut _ _ c1 (Heap.get?_push_of_some _ e));have t8:IsPair g8 g5.objs.size x y:=s8.extBut _ _ (Nat.ne_of_gt zlt) (s7.extBut _ _ (Nat.ne_of_gt zlt) (Heap.get?_push_size _ rfl));rw[sz] at z8 t8;refine wpAny_pure ⟨_,rfl,wpAny_pure ?_⟩;show Q (some (.ref g5.objs.size)) _;rw[sz];exact q g8 ⟨z8,up _ _ D.TIz (k5 T _ D.TIz D.TITO D.TIi1 D.TIi2 Z.t),up _ _ D.TOz o5,i5.at λ c o hc q=>up _ o (by rcases hc with rfl | rfl;exact D.i1z;exact D.l1z) q,j5.at λ c o hc q=>up _ o (by rcases hc with rfl | rfl;exact D.i2z;exact D.l2z) q⟩ t8 λ c o c1 c2 c3 c4 e=>up c o c1 (k5 c o c1 c2 c3 c4 e)
theorem next_end(hh:A.handled=none)(D:ZipApart z T O i j a b)(Z:Zs p₁ p₂ s.heap z T O i j a b .none k k xs ys u v)(hx:xs[k]? =none\/ys[k]? =none)
  (q:∀ h',(∀ c o,c≠z->c≠O->c≠i->c≠j->s.heap.get? c=some o->h'.get? c=some o)->Q none {s with heap:=h'}):wpAny (model prog w) A (pyNext (.ref z)) Q E s:=by
 have hT:s.TypeIs (.ref z) "zip":= ⟨_,Z.z,rfl⟩;have fin:∀ h' x,(∀ c o,c≠z->c≠O->c≠i->c≠j->s.heap.get? c=some o->h'.get? c=some o)->(∃ o,h'.get? x=some o/\o.cls=.type "StopIteration") ->
   wpAny (model prog w) A (do if (<- PySem.isInstance (.ref x) (.type "StopIteration")) then pure none else throw (.ref x)) Q E {s with heap:=h'}:=λ h' x kp ⟨o,ho,hc⟩ =>
  wpAny_bind (wpAny_isInstance (T:= "StopIteration") (b:=true) ⟨o,ho,hc⟩ isSubtype_stop (wpAny_pure (q _ kp)))
 unfold pyNext;refine wpAny_bind (wpAny_attempt (wpAny_callSpecial?_slot (name:=Str.ofString "__next__") hT F.slot_zip_next (wpAny_call_entry F.slot_zip_next hT F.entry_zip_next ?_ (F.args_zip_next_1 _))));show wpAny _ _ (field (.ref z) 2 >>= _) _ _ _;refine wpAny_bind (wpAny_field Z.z rfl (x:=.bool false) rfl ?_);show wpAny _ _ (field (.ref z) 3 >>= _) _ _ _;refine wpAny_bind (wpAny_field Z.z rfl (x:=.ref T) rfl (wpAny_bind (wpAny_seqItems Z.t rfl ?_)));show wpAny _ _ (Builtin.SmallTypes.ownedTupleIsFree (.ref z) >>= _) _ _ _;refine wpAny_bind ?_;unfold Builtin.SmallTypes.ownedTupleIsFree;refine wpAny_bind (wpAny_field Z.z rfl (x:=.none) rfl (wpAny_pure ?_));simp only[if_true];refine wpAny_bind (wpAny_rule (wpAny_bind (wpAny_field Z.z rfl (x:=.ref O) rfl (wpAny_bind (wpAny_setField_rec Z.z (by simp) λ g1 z1 s1=>?_)))));replace z1:IsZip g1 z T O .ellipsis:=z1;refine wpAny_bind ?_;simp only[List.zipIdx_cons,List.zipIdx_nil,List.forIn_cons,List.forIn_nil];have i1:TI p₁ g1 i a k xs:=Z.i.at λ c o hc q=>s1.extBut _ _ (by rcases hc with rfl | rfl;exact D.i1z;exact D.l1z) q;have j1:TI p₂ g1 j b k ys:=Z.j.at λ c o hc q=>s1.extBut _ _ (by rcases hc with rfl | rfl;exact D.i2z;exact D.l2z) q;refine wpAny_bind (wpAny_bind (wpAny_onRaise ?_));show wpAny _ _ (Builtin.SmallTypes.nextOf (.ref i) >>= _) _ _ _;cases ex:xs[k]? with
 | none =>
  refine wpAny_bind (vo hh i1 ex λ g2 x s2 hq84=>?_);obtain⟨ox,hox,hcx⟩:=hq84;have z2:IsZip g2 z T O .ellipsis:=s2 _ _ D.i1z.symm z1;have hxz:x≠z:=λ e=>by subst e;rw[z2] at hox;cases hox;simp at hcx
  refine wpAny_setField_rec z2 (by simp) λ g3 _ s3=>fin g3 x (λ c o c1 _ c3 _ e=>s3.extBut _ _ c1 (s2 _ _ c3 (s1.extBut _ _ c1 e))) ⟨ox,s3.extBut _ _ hxz hox,hcx⟩
 | some x0 =>
  have ey:ys[k]? =none:=by rcases hx with h | h;rw[ex] at h;cases h;exact h
  refine wpAny_bind (nI i1 D.l1i1 ex λ g2 i2 s2=>wpAny_pure ?_);have o2:IsPair g2 O u v:=s2.extBut _ _ D.TOi1 (s1.extBut _ _ D.TOz Z.o);refine wpAny_bind (wpAny_seqItems o2 rfl (wpAny_bind (wpAny_updateSeq_pair o2 λ g3 o3 s3=>wpAny_bind (wpAny_letGo (wpAny_pure ?_)))));have j3:TI p₂ g3 j b k ys:=j1.at λ c o hc q=>s3.extBut _ _ (by rcases hc with rfl | rfl;exact D.TOi2.symm;exact D.l2TO) (s2.extBut _ _ (by rcases hc with rfl | rfl;exact D.i12.symm;exact D.l2i1) q);refine wpAny_bind (wpAny_bind (wpAny_onRaise ?_));show wpAny _ _ (Builtin.SmallTypes.nextOf (.ref j) >>= _) _ _ _;refine wpAny_bind (vo hh j3 ey λ g4 x s4 hq85=>?_);obtain⟨ox,hox,hcx⟩:=hq85;have z4:IsZip g4 z T O .ellipsis:=s4 _ _ D.i2z.symm (s3.extBut _ _ D.TOz.symm (s2.extBut _ _ D.i1z.symm z1));have hxz:x≠z:=λ e=>by subst e;rw[z4] at hox;cases hox;simp at hcx
  refine wpAny_setField_rec z4 (by simp) λ g5 _ s5=>fin g5 x (λ c o c1 c2 c3 c4 e=>s5.extBut _ _ c1 (s4 _ _ c4 (s3.extBut _ _ c2 (s2.extBut _ _ c3 (s1.extBut _ _ c1 e))))) ⟨ox,s5.extBut _ _ hxz hox,hcx⟩
def itN(b:Bool):String:=match b with
 | true => "tuple_iterator"
 | false => "list_iterator"
theorem lE(p q:Bool)(e:p=true)(a b:Addr)(xs ys:Array Value):Meets (Builtin.«zip.__new__» ⟨[.type "zip",.ref a,.ref b],[]⟩) (λ _ R s=>vm p s.heap a xs/\vm q s.heap b ys /\
   R (.ok (.ret (.ref (s.heap.objs.size+4)))) {s with heap:=((((s.heap.push {cls:=.type (itN p),data:=.fields #[.ref a,.int 0 0]}).push {cls:=.type (itN q),data:=.fields #[.ref b,.int 0 0]}).push {cls:=.type "tuple",data:=.seq #[.ref s.heap.objs.size,.ref (s.heap.objs.size+1)]}).push {cls:=.type "tuple",data:=.seq #[.none,.none]}).push {cls:=.type "zip",data:=.fields #[.none,.bool false,.bool false,.ref (s.heap.objs.size+2),.ref (s.heap.objs.size+3)]}}):=
 .of_wp λ prog w A R s h=>by
  obtain⟨hp,g,d,tk,os⟩:=s;obtain⟨ha,hb,h⟩:=h;have hsub:=sub_zip;subst e
  ·have h1:Heap.IsTuple (Shared.heap ⟨hp,g,d,tk,os⟩) a xs:=ha;cases q with
   | true =>
    have h2:Heap.IsTuple (Shared.heap ⟨hp.push {cls:=.type "tuple_iterator",data:=.fields #[.ref a,.int 0 0]},g,d,tk,os⟩) b ys:=Heap.IsTuple.push hb _
    wp_walk using wpAny_pyIter_tuple h1,wpAny_pyIter_tuple h2
    refine⟨_,rfl,?_⟩;simp only[Heap.size_push];exact h
   | false =>
    have h2:Heap.IsList (Shared.heap ⟨hp.push {cls:=.type "tuple_iterator",data:=.fields #[.ref a,.int 0 0]},g,d,tk,os⟩) b ys:=Heap.IsList.push hb _
    wp_walk using wpAny_pyIter_tuple h1,wpAny_pyIter_list h2
    refine⟨_,rfl,?_⟩;simp only[Heap.size_push];exact h
theorem sD(hp₁:p₁=true)(ha:vm p₁ s.heap a xs)(hb:vm p₂ s.heap b ys)
  (h:∀ h',Zs p₁ p₂ h' (s.heap.objs.size+4) (s.heap.objs.size+2) (s.heap.objs.size+3) s.heap.objs.size (s.heap.objs.size+1) a b .none 0 0 xs ys .none .none ->
   (∀ c o,s.heap.get? c=some o->h'.get? c=some o)->Q (.ref (s.heap.objs.size+4)) {s with heap:=h'}) :
  wpAny (model prog w) A (call (.type "zip") [.ref a,.ref b]) Q E s:=by
 refine callType_new F.called_zip (by decide) (F.typeCall_zip_2 _ _) (F.newCall_zip_2 _ _) (λ obj=>F.args_object_init_3 obj _ _) F.entry_zip_new (lE p₁ p₂ hp₁ a b xs ys) ⟨ha,hb,?_⟩;generalize e1:s.heap.push {cls:=.type (itN p₁),data:=.fields #[.ref a,.int 0 0]}=g1;have z1:g1.objs.size=s.heap.objs.size+1:=by rw[<- e1];exact Heap.size_push ..
 have n1:g1.get? s.heap.objs.size=some {cls:=.type (itN p₁),data:=.fields #[.ref a,.int 0 0]}:=by rw[<- e1];exact Heap.get?_push_size _ rfl
 have k1:∀ c o,s.heap.get? c=some o->g1.get? c=some o:=λ c o q=>by rw[<- e1];exact Heap.get?_push_of_some _ q
 generalize e2:g1.push {cls:=.type (itN p₂),data:=.fields #[.ref b,.int 0 0]}=g2;have z2:g2.objs.size=s.heap.objs.size+2:=by rw[<- e2,Heap.size_push,z1]
 have n2:g2.get? (s.heap.objs.size+1)=some {cls:=.type (itN p₂),data:=.fields #[.ref b,.int 0 0]}:=by rw[<- e2,<- z1];exact Heap.get?_push_size _ rfl
 have k2:∀ c o,g1.get? c=some o->g2.get? c=some o:=λ c o q=>by rw[<- e2];exact Heap.get?_push_of_some _ q
 generalize e3:g2.push {cls:=.type "tuple",data:=.seq #[.ref s.heap.objs.size,.ref (s.heap.objs.size+1)]}=g3;have z3:g3.objs.size=s.heap.objs.size+3:=by rw[<- e3,Heap.size_push,z2]
 have n3:g3.get? (s.heap.objs.size+2)=some {cls:=.type "tuple",data:=.seq #[.ref s.heap.objs.size,.ref (s.heap.objs.size+1)]}:=by rw[<- e3,<- z2];exact Heap.get?_push_size _ rfl
 have k3:∀ c o,g2.get? c=some o->g3.get? c=some o:=λ c o q=>by rw[<- e3];exact Heap.get?_push_of_some _ q
 generalize e4:g3.push {cls:=.type "tuple",data:=.seq #[.none,.none]}=g4;have z4:g4.objs.size=s.heap.objs.size+4:=by rw[<- e4,Heap.size_push,z3]
 have n4:g4.get? (s.heap.objs.size+3)=some {cls:=.type "tuple",data:=.seq #[.none,.none]}:=by rw[<- e4,<- z3];exact Heap.get?_push_size _ rfl
 have k4:∀ c o,g3.get? c=some o->g4.get? c=some o:=λ c o q=>by rw[<- e4];exact Heap.get?_push_of_some _ q
 generalize e5:g4.push {cls:=.type "zip",data:=.fields #[.none,.bool false,.bool false,.ref (s.heap.objs.size+2),.ref (s.heap.objs.size+3)]}=g5;have n5:g5.get? (s.heap.objs.size+4)=some {cls:=.type "zip",data:=.fields #[.none,.bool false,.bool false,.ref (s.heap.objs.size+2),.ref (s.heap.objs.size+3)]}:=by rw[<- e5,<- z4];exact Heap.get?_push_size _ rfl
 have k5:∀ c o,g4.get? c=some o->g5.get? c=some o:=λ c o q=>by rw[<- e5];exact Heap.get?_push_of_some _ q
 have kk:∀ c o,s.heap.get? c=some o->g5.get? c=some o:=λ c o q=>k5 _ _ (k4 _ _ (k3 _ _ (k2 _ _ (k1 _ _ q))));refine⟨⟨_,n5,rfl⟩,h g5 ⟨n5,k5 _ _ (k4 _ _ n3),k5 _ _ n4,⟨?_,ha.at λ o=>kk _ o⟩,?_,hb.at λ o=>kk _ o⟩ kk⟩
 ·cases p₁<;>exact⟨_,k5 _ _ (k4 _ _ (k3 _ _ (k2 _ _ n1))),rfl,rfl⟩
 ·cases p₂<;>exact⟨_,k5 _ _ (k4 _ _ (k3 _ _ n2)),rfl,rfl⟩
end ZT
namespace D
open L2
def SqB(b:Bool)(K:FG)(H:Hp)(a:Addr)(xs:List V):Prop:=match b with
 | true=>SqT K H a xs
 | false=>SqL K H a xs
theorem Inv.sqB(I:Inv X pins σ H s)(h:SqB b X.K H a xs):∃ its:List Value,Vals xs its/\ZT.vm b s.heap a its.toArray:=by
 cases b with
 | true=>obtain⟨its,r,p,_⟩:=I.tuple h;exact⟨its,r,p⟩
 | false=>obtain⟨its,r,p,_⟩:=I.list h;exact⟨its,r,p.isList⟩
theorem Inv.wq(I:Inv X pins σ H s)(h:SqB b X.K H a xs)(h':SqB b X.K H a ys):xs=ys:=by
 cases b with
 | true=>exact I.pZ h h'
 | false=>exact I.oo h h'
def agT(p q:Bool)(K:FG)(a b:Addr):It:=
 ⟨λ i H=>∃ xs ys x y,SqB p K H a xs/\SqB q K H b ys/\xs[i]? =some x/\ys[i]? =some y,
  λ i H x H'=>∃ T u v,H T=none/\x=.ref T/\H'=upd H T (.tup [u,v])/\(∀ xs,SqB p K H a xs->xs[i]? =some u)/\∀ ys,SqB q K H b ys->ys[i]? =some v,
  λ i H=>∃ xs ys,SqB p K H a xs/\SqB q K H b ys/\(xs.length<=i\/ys.length<=i)⟩
theorem wG{p₁ p₂:Bool}{P:Program}{w:World}{K:FG}{elts:List Expr}{x1:Nat}{tpos:Pos}{z TI TO i1 i2 a b:Addr}(Dz:ZipApart z TI TO i1 i2 a b) :
  Turn P w K (.Tuple elts x1 tpos) (agT p₁ p₂ K a b) [z,TI,TO,i1,i2] z (λ i h=>IsZip h z TI TO .none/\IsPair h TI (.ref i1) (.ref i2)/\(∃ u v,IsPair h TO u v)/\ZT.isIt p₁ h i1 a i/\ZT.isIt p₂ h i2 b i) where
 mem:=by simp
 obj:=λ i h ⟨hz,hTI,⟨u,v,hTO⟩,x1,x2⟩ c hc=>by
  obtain⟨o1,e1,d1⟩:=x1.obj;obtain⟨o2,e2,d2⟩:=x2.obj;have q:c=z\/c=TI\/c=TO\/c=i1\/c=i2:=by simpa using hc
  rcases q with rfl | rfl | rfl | rfl | rfl
  ·exact⟨_,hz,λ v q=>by cases q⟩
  ·exact⟨_,hTI,λ v q=>by cases q⟩
  ·exact⟨_,hTO,λ v q=>by cases q⟩
  ·exact⟨o1,e1,λ v q=>by rw[d1] at q;cases q⟩
  ·exact⟨o2,e2,λ v q=>by rw[d2] at q;cases q⟩
 keep:=λ i h h' ⟨hz,hTI,⟨u,v,hTO⟩,x1,x2⟩ k=>⟨k z (by simp) _ hz,k TI (by simp) _ hTI,⟨u,v,k TO (by simp) _ hTO⟩,x1.at λ o e=>k i1 (by simp) _ e,x2.at λ o e=>k i2 (by simp) _ e⟩
 item:=by
  intro X hP hw hK hc i pins s σ H E I hf ⟨hz,hTI,⟨u0,v0,hTO⟩,l1,l2⟩ ⟨xs,ys,x,y,hq1,hq2,hx,hy⟩;subst hP hw hK;obtain⟨its1,rv1,p1⟩:=Inv.sqB I hq1;obtain⟨its2,rv2,p2⟩:=Inv.sqB I hq2;obtain⟨u,hu,ru⟩:=rv1.get hx;obtain⟨v,hv,rv⟩:=rv2.get hy;refine ZT.next_item Dz (xs:=its1.toArray) (ys:=its2.toArray) ⟨hz,hTI,hTO,⟨l1,p1⟩,l2,p2⟩ (x:=u) (y:=v) (by simpa using hu) (by simpa using hv) λ h' Z' hT kp=>?_;refine⟨_,rfl,wpAny_letOwnedTupleGo_zip Z'.z λ h'' hz'' sb=>?_⟩;obtain⟨t0,t1,t2,t3,t4,t5⟩:=I.uS (Nat.le_refl _) (I.hok.fresh (Nat.le_refl _));have nT:s.heap.objs.size≠z:=Nat.ne_of_gt (Heap.lt_size hz);have nTO:s.heap.objs.size≠TO:=Nat.ne_of_gt (Heap.lt_size hTO);have n1:s.heap.objs.size≠i1:=by obtain⟨o,e,_⟩:=l1.obj;exact Nat.ne_of_gt (Heap.lt_size e)
  have n2:s.heap.objs.size≠i2:=by obtain⟨o,e,_⟩:=l2.obj;exact Nat.ne_of_gt (Heap.lt_size e)
  have nTI:s.heap.objs.size≠TI:=Nat.ne_of_gt (Heap.lt_size hTI);have I1:Inv X pins σ H {s with heap:=h'',toks:=s.toks}:=Inv.vi (ch:=[z,TI,TO,i1,i2]) I (λ c ob hc q=>by simp only[List.mem_cons,List.not_mem_nil,or_false,not_or] at hc;exact(sb.2 c hc.1).trans (kp c ob hc.1 hc.2.2.1 hc.2.2.2.1 hc.2.2.2.2 q)) hf
  have eT:h''.get? s.heap.objs.size=some {cls:=.type "tuple",data:=.seq #[u,v]}:=(sb.2 _ nT).trans hT;have I2:=Inv.zK (us:=[u,v]) (ys:=[x,y]) I1 eT t0 (.cons ru (.cons rv .nil)) (by simp;have:=s16;omega) t3 t1 t4 t5;refine⟨.ref s.heap.objs.size,_,I2,rfl,⟨_,x,y,t0,rfl,rfl,λ zs hz=>by rw[Inv.wq I hz hq1];exact hx,λ zs hz=>by rw[Inv.wq I hz hq2];exact hy⟩,⟨hz'',(sb.2 _ Dz.TIz).trans Z'.t,⟨u,v,(sb.2 _ Dz.TOz).trans Z'.o⟩,?_,?_⟩,λ c hc=>?_⟩
  ·exact Z'.i.1.at λ o e=>(sb.2 i1 Dz.i1z).trans e
  ·exact Z'.j.1.at λ o e=>(sb.2 i2 Dz.i2z).trans e
  ·have q:c=z\/c=TI\/c=TO\/c=i1\/c=i2:=by simpa using hc
   have hn:c≠s.heap.objs.size:=by rcases q with rfl | rfl | rfl | rfl | rfl<;>(intro e;first | exact nT e.symm | exact nTI e.symm | exact nTO e.symm | exact n1 e.symm | exact n2 e.symm)
   rw[au hn];exact(hf c hc).1
 done:=by
  intro X hP hw hK hc i pins s σ H E I hf ⟨hz,hTI,⟨u0,v0,hTO⟩,l1,l2⟩ ⟨xs,ys,hq1,hq2,hx⟩;subst hP hw hK;obtain⟨its1,rv1,p1⟩:=Inv.sqB I hq1;obtain⟨its2,rv2,p2⟩:=Inv.sqB I hq2;have e1:=rv1.length;have e2:=rv2.length;refine ZT.next_end (I.ok.hd hc) Dz (xs:=its1.toArray) (ys:=its2.toArray) ⟨hz,hTI,hTO,⟨l1,p1⟩,l2,p2⟩ ?_ λ h' eb=>⟨rfl,Inv.vi (t':=s.toks) (ch:=[z,TI,TO,i1,i2]) I (λ c ob hc q=>by simp only[List.mem_cons,List.not_mem_nil,or_false,not_or] at hc;exact eb c ob hc.1 hc.2.2.1 hc.2.2.2.1 hc.2.2.2.2 q) hf⟩
  rcases hx with hx | hx
  ·exact .inl (by simp;omega)
  ·exact .inr (by simp;omega)
 self:=λ _ _ _ _ _ ⟨hz,_⟩ h=>wpAny_pyIter_zip hz h
def afU(p q:Bool)(K:FG)(ta:TA):TI:=λ σ H R=>ta σ H λ vs H1=>∃ c d xs ys,vs=[.ref c,.ref d]/\SqB p K H1 c xs/\SqB q K H1 d ys/\R (agT p q K c d) H1
theorem aaQ{p₁ p₂:Bool}(hp₁:p₁=true){elts:List Expr}{x1:Nat}{tpos:Pos}(hg:Gl X "zip")(hm:X.mg "zip" = none)(ha:PA X [a,b] ta)(hs:starEach [a,b] X.env=(false,eval a X.env)::starEach [b] X.env:=by rfl)(hpl:(backTo pos (starEach [b] X.env)).any (·.1)=false:=by rfl) :
  PI X (.Tuple elts x1 tpos) (.Call (.Name "zip" p) [a,b] [] pos) (afU p₁ p₂ X.K ta):=by
 intro pins s σ H R I h;refine Call_ (nB I hg hm ade (PyProof.Rows.callWith_type1 (thn (ha pos pins s σ H _ I h) λ us s1 ⟨vs,H1,I1,r1,q1⟩=>?_) hs hpl));obtain⟨c,d,xs,ys,e,hq1,hq2,q⟩:=q1;subst e;obtain⟨v1,v2,rfl,rr1,rr2⟩:=vals2 r1;cases (show _=Value.ref c from rr1);cases (show _=Value.ref d from rr2);obtain⟨its1,rv1,p1⟩:=Inv.sqB I1 hq1;obtain⟨its2,rv2,p2⟩:=Inv.sqB I1 hq2;have a1:c<s1.heap.objs.size:=p1.lt;have a2:d<s1.heap.objs.size:=p2.lt;refine ZT.sD hp₁ p1 p2 λ h' Z kp=>?_;have I2:Inv X pins σ H1 {s1 with heap:=h'}:=I1.kept (t':=s1.toks) kp;refine wpAny_pyIter_zip Z.z ?_;refine⟨_,[_,_,_,_,_],_,_,H1,rfl,I2,wG (zipApart_new a1 a2),⟨Z.z,Z.t,⟨_,_,Z.o⟩,Z.i.1,Z.j.1⟩,λ e he=>?_,q⟩;have z:s1.heap.objs.size<=e:=by
  have z:e=s1.heap.objs.size+4\/e=s1.heap.objs.size+2\/e=s1.heap.objs.size+3\/e=s1.heap.objs.size\/e=s1.heap.objs.size+1:=by simpa using he
  rcases z with z | z | z | z | z<;>rw[z]<;>first | exact Nat.le_refl _ | exact Nat.le_add_right _ _
 exact I1.uS z (I1.hok.fresh z)
section
variable {X:Cx}{K:FG}{a b:Expr}{p pos:Pos}{t:TAd}
def sqD(b:Bool)(ds:List PyData):PyData:=match b with
 | true=>.tuple ds
 | false=>.list ds
theorem vq{b:Bool}{ds:List PyData}{v:V}(r:aA K H (sqD b ds) v):∃ c xs,v=.ref c/\SqB b K H c xs/\(∀ H',Kp H H'->SqB b K H' c xs)/\bA K H ds xs:=by
 cases b with
 | true =>
  simp only[sqD,aA] at r;obtain⟨c,xs,e,h1,h2⟩:=r;exact⟨c,xs,e,h1,λ H' k=>SqT.keep k h1,h2⟩
 | false =>
  simp only[sqD,aA] at r;obtain⟨c,xs,e,h1,h2⟩:=r;exact⟨c,xs,e,h1.sq,λ H' k=>(h1.keep k).sq,h2⟩
def agp(p q:Bool)(t:TAd)(τ:DS)(M:MH)(R:List W->MH->Prop):Prop:=t τ M λ ws M1=>∃ ds es,ws=[.d (sqD p ds),.d (sqD q es)]/\R (abI ds es) M1
def acF(t:TAd)(τ:DS)(M:MH)(R:List W->MH->Prop):Prop:=t τ M λ ws M1=>∃ ds es,ws=[.d (.tuple ds),.d (.tuple es)]/\R (abI ds es) M1
theorem yT{p₁ p₂:Bool}(hp₁:p₁=true){elts:List Expr}{x1:Nat}{tpos:Pos}(hg:Gl X "zip")(hm:X.mg "zip" = none)(ha:PAd X [a,b] t)(h1:dQ a=false:=by rfl)(h2:([b].all λ e=>!dQ e)=true:=by rfl) :
  PId X (.Tuple elts x1 tpos) (.Call (.Name "zip" p) [a,b] [] pos) (agp p₁ p₂ t):=aes (aaQ hp₁ hg hm ha (bN a [b] X.env h1) (cf pos X.env [b] h2)) λ σ H R hq86=>by
 obtain⟨τ,M,Rd,A,h,k⟩:=hq86;refine⟨τ,M,_,A,h,λ vs H1 ws M1 kp r m hq87=>?_⟩;obtain⟨ds,es,ew,q⟩:=hq87;subst ew;obtain⟨v,v',ev,r1,r2⟩:=sv r;obtain⟨c,xs,e1,hs,ks,ra⟩:=vq r1;obtain⟨d,ys,e2,hs',ks',ra'⟩:=vq r2;subst e1 e2;have hl:=ra.length;have hl':=ra'.length;refine⟨c,d,xs,ys,ev,hs,hs',k _ H1 _ M1 kp m (λ H2 kp2 i=>?_) q⟩;have hs2:=ks _ kp2;have hs2':=ks' _ kp2;have hlw:(abI ds es).length=min xs.length ys.length:=by simp[abI,hl,hl']
 refine⟨λ hi=>⟨xs,ys,xs[i]'(by omega),ys[i]'(by omega),hs2,hs2',by simp,by simp⟩,λ hi=>⟨xs,ys,hs2,hs2',by omega⟩,λ x H' hi hq88=>?_⟩;obtain⟨T,u,v,hT,ex,eH,hu,hv⟩:=hq88;subst ex eH;have hxu:=hu xs hs2;have hxv:=hv ys hs2';obtain⟨d1,e3,rd⟩:=(ra.keep kp2).get' hxu;obtain⟨d2,e4,rd'⟩:=(ra'.keep kp2).get' hxv;have kpn:Kp H2 (upd H2 T (.tup [u,v])):=Kp.new hT;have hid:i<min ds.length es.length:=by rw[hlw] at hi;omega
 refine⟨kpn,λ M m=>m.new hT,.d (.tuple [ds.getD i .none,es.getD i .none]),by unfold abI;rw[List.getElem?_map,List.getElem?_range hid];rfl,?_⟩;have ed:ds.getD i .none=d1:=by simp[List.getD,e3]
 have ed':es.getD i .none=d2:=by simp[List.getD,e4]
 rw[ed,ed'];simp only[aH,aA,bA];exact⟨T,_,rfl,.inl (.inl ax),_,_,rfl,rd.keep kpn,_,_,rfl,rd'.keep kpn,rfl⟩
end
def zr(ds:List PyData)(d:PyData)(j:Nat):Prop:=j<ds.length/\(∀ y,ds[j]? =some y->PyData.eqv y d=true)/\∀ m y,m<j->ds[m]? =some y->PyData.eqv y d=false
def aeA(K:FG):V->List V->Hp->VK->Prop:=λ x vs H Q=>∃ y d ds j,vs=[y]/\aA K H (.tuple ds) x/\kl K H d y/\oR d ds=true/\zr ds d j/\Q (.int (j:Nat)) H
theorem zl(hr:dN k X.A):MtM X "tuple.index" (aeA X.K):=by
 intro pins s σ H x vs v us Q I rx rv h;obtain⟨y,d,ds,j,rfl,h1,h2,o,⟨j0,j1,j2⟩,q⟩:=h;obtain⟨u,rfl,ru⟩:=rv.one;simp only[oR,rH,Bool.and_eq_true,Bool.not_eq_true'] at o;obtain⟨⟨o1,o2⟩,o3,o4⟩:=o;obtain⟨as,r2⟩:=dy I d h2 ru o2;obtain⟨bs,r1⟩:=dR I (.tuple ds) h1 rx o4;have c3:PyData.canLayAll0 ds=true:=SeqAt.canLay_of_shaped o3;cases r1 with
 | @tuple a ob its n _ as1 e1 e2 e3 e4 =>
  obtain⟨cls,dd,data,sl⟩:=ob;simp only at e2 e3;subst e2 e3;have em:=SeqAt.readsAll_map ds _ _ c3 e4;have hlen:ds.length=its.size:=by have:=congrArg List.length em;simpa using this.symm
  have hat:∀ m (hm:m<its.size),ds[m]? =some (SeqAt.readOf s.heap its[m]):=λ m hm=>by rw[<- em,List.getElem?_map];simp[hm]
  refine call_meets F.slot_tuple_index ⟨_,e1,rfl⟩ F.entry_tuple_index (F.args_tuple_index_2 _ _) (SeqAt.oP a its n dd sl u (λ z=>PyData.eqv (SeqAt.readOf s.heap z) d) j (by omega) (j1 _ (hat j (by omega))) (λ m hm hlt=>j2 m _ hlt (hat m hm)))
   ⟨e1,SeqAt.items_eqAt e4 r2 c3 (SeqAt.canLay_of_shaped o1) (kU hr.h o1),⟨.int _,H,I.tok _,⟨_,rfl⟩,q⟩⟩
def vR(td te:TD)(τ:DS)(M:MH)(Q:QD):Prop:=td τ M λ w M1=>∃ ds,w=.d (.tuple ds)/\te τ M1 λ y M2=>∃ d j,y=.d d/\oR d ds=true/\zr ds d j/\Q (.d (.int (j:Nat))) M2
theorem wV(hg:Gl X "zip")(hm:X.mg "zip" = none)(ha:Jd (PAd X [a,b] t))(h1:dQ a=false:=by rfl)(h2:([b].all λ e=>!dQ e)=true:=by rfl):Jd (PId X (.Tuple elts x1 tpos) (.Call (.Name "zip" p) [a,b] [] pos) (acF t)):=⟨have ha:=ha.h;yT (p₁:=true) (p₂:=true) rfl hg hm ha h1 h2⟩
theorem pS(hr:dN k X.A)(ho:Jd (PD X o td))(he:Jd (PD X e te))
  (hbase:attributeBase o "index" X.env (eval o X.env)=eval o X.env:=by rfl)
  (hfew:((backTo cpos (starEach [e] X.env)).all (λ x=>!x.1)&&(backToKw cpos (keywordEach [] X.env)).all (λ x=>x.1.isSome)
   && decide (([e]:List Expr).length+([]:List Keyword).length+(if ([]:List Keyword).isEmpty then 0 else 1)<30))=true:=by rfl)
  (hline:(apos.endLine==cpos.line)=true:=by rfl)(hs:dQ e=false:=by rfl):Jd (PD X (.Call (.Attribute o "index" apos) [e] [] cpos) (vR td te)):=⟨have ho:=ho.h;have he:=he.h;
 iH (aet PySem.F.plainAttrs_tuple PySem.F.slot_tuple_index PySem.F.type_tuple_index (zl hr) ho (pac he qW hs) hbase hfew hline (bN e [] X.env hs) rfl) λ σ H Q h=>by obtain⟨τ,M,Qd,A,h,k⟩:=h;refine⟨τ,M,_,A,h,λ x H1 w M1 kp1 r1 m1 hq89=>?_⟩;obtain⟨ds,ew,q1⟩:=hq89;subst ew;have r1':=r1;simp only[aH,aA] at r1';obtain⟨a,vs,ex,hsq,ra⟩:=r1';subst ex;refine⟨.inr (.inl ⟨rfl,vs,hsq⟩),τ,M1,ags (λ y M2=>∃ d j,y=.d d/\oR d ds=true/\zr ds d j/\Qd (.d (.int (j:Nat))) M2),A.go kp1 m1,q1,λ ys H2 wys M2 kp2 r2 m2 q2=>?_⟩;obtain⟨y,ey,d,j,ed,ok,hj,q4⟩:=vI q2;subst ey ed;obtain⟨v,ev,rv⟩:=gc r2;subst ev;exact⟨v,d,ds,j,rfl,r1.keep kp2,.inl rv,ok,hj,k _ _ (.d (.int _)) _ (kp1.trans kp2) (by simp[aH,aA]) m2 q4⟩⟩
section
variable {X:Cx}{K:FG}
end
section
variable {X:Cx}{K:FG}
end
section
variable {X:Cx}{e st:Expr}{te:TE}{ts:TO}{pos p2:Pos}
end
section
variable {X:Cx}{K:FG}{e st:Expr}{te:TD}{ts:TOd}{pos p2:Pos}
theorem bA.rev:∀ {ds:List PyData} {vs:List V},bA K H ds vs->bA K H ds.reverse vs.reverse
 | [],vs,h=>by simp only[bA] at h;subst h;simp[bA]
 | d::ds,vs,h=>by simp only[bA] at h;obtain⟨v,r,e,h1,h2⟩:=h;subst e;simp only[List.reverse_cons];refine bA.append (bA.rev h2) ?_;simp only[bA];exact⟨v,[],rfl,h1,rfl⟩
end
def agH(kvs:List (Str×PyData))(ty:TE):TE:=λ σ H Q=>ty σ H λ y H1=>∃ z,y=.str z/\Q (.bl (gz kvs z).isSome) H1
theorem aeg(hg:Gl X x)(hm:X.mg x=some (.ref a))(kd:iD X.w X.K a kvs)(he:PE X e ty)(hd:ND x:=by decide):PC X .In e (.Name x p) (agH kvs ty):=by
 intro pins s σ H Q I h;refine thn (he pins s σ H _ I h) λ iv s1 hq90=>?_;obtain⟨y,H1,I1,ry,z,ey,q1⟩:=hq90;subst ey;refine thn (iB (v:=.ref a) hg hm rfl hd pins s1 σ H1 (λ v H'=>v=.ref a/\H'=H1) I1 ⟨rfl,rfl⟩) λ u s2 hq91=>?_;obtain⟨x1,H2,I2,rx,ex,eH⟩:=hq91;subst ex eH;obtain rfl:u=Value.ref a:=rx;obtain⟨L,vs,rel,dd,pr⟩:=kd.dd I2;have lv:=ja z pr;refine wpAny_in_of (oM (k:=.inr z) ry) kd.ns dd.mapOf ?_;rw[<- (rel.val (.inr z)).jo];have e:(gz kvs z).isSome=(kg L (.inr z)).isSome:=by
  cases q:gz kvs z with
  | none=>rw[q] at lv;rw[OR.none_of lv];rfl
  | some d=>rw[q] at lv;obtain⟨b,eb,_⟩:=OR.some_of lv;rw[eb];rfl
 rw[<- e];exact⟨.bl _,H2,I2.tok _,rfl,q1⟩
def aeH(kvs:List (Str×PyData))(te:TD)(τ:DS)(M:MH)(Q:QD):Prop:=te τ M λ w M1=>∃ z,w=.d (.str z)/\Q (.d (.bool (gz kvs z).isSome)) M1
theorem aa2{K:FG}{σ:St}{H:Hp}{Q:VK}(h:up K (aeH kvs te) σ H Q):agH kvs (up K te) σ H Q:=by obtain⟨τ,M,Qd,A,h,k⟩:=h;refine⟨τ,M,_,A,h,λ y H1 w M1 kp r m1 hq92=>?_⟩;obtain⟨z,ew,q⟩:=hq92;subst ew;simp only[aH,aA] at r;exact⟨z,r,k _ H1 (.d (.bool _)) M1 kp (by simp[aH,aA]) m1 q⟩
section
variable {X:Cx}{e st:Expr}{a:Addr}{x:Str}{kvs:List (Str×PyData)}{pos p p2:Pos}{te:TD}{ts:TOd}
theorem oO(hg:Gl X x)(hm:X.mg x=some (.ref a))(kd:iD X.w X.K a kvs)(he:Jd (PD X e te))(hb:behindInMarks .In (.Name x p)=false:=by rfl)(hd:ND x:=by decide):Jd (PTd X (.Compare e [.In] [.Name x p] pos) (a9 (aeH kvs te))):=⟨have he:=he.h;
 acr (zJ (aeg hg hm kd he hd) hb) λ σ H Q h=>js (λ σ H Q h=>aa2 h) h⟩
end
end D
namespace XO
open PySem.W
def xno(K:Frag)(C:Addr):Bool:=xmk K C&&(match K.lookup C with
 | some ⟨_,_,.cls cd,_⟩=>tailIn K oX cd.mro
 | _=>false)
section
variable {prog:Program}{w:World}{A:Around}{E:VP}{K:Frag}{C:Addr}{h:Heap}{g:Array GenState}{d:Drawn}{t:Nat}{os:OsState}
theorem adf(X:K.In h)(q:xno K C=true)(hz:us.length<=sizeLine)(k:∀ h' e,Heap.MadeExcOf h h' e (.ref C) us->Q (.ref e) ⟨h',g,d,t,os⟩) :
  wpAny (model prog w) A (call (.ref C) us) Q E ⟨h,g,d,t,os⟩:=by
 unfold xno at q;rw[Bool.and_eq_true] at q;obtain⟨q1,q2⟩:=q;obtain⟨nm,q',N,bs,bm,hdct,sn,sub,ab,col,dd,k0,k1,k2,k3,k5,hC,T⟩:=xr X q1
 split at q2
 ·rename_i c0 d0 cd sl hk
  have e1:=X _ _ hk;rw[hC] at e1;cases e1;have T2:=tail_of_in X q2;generalize hl:(Value.ref C::bm)=l at T2;cases T2 with
  | base=>cases hl
  | own hA hN hi _ =>
   cases hl;rw[hC] at hA;cases hA;exact wpAny_call_exc_subT PySem.F.excBase_ValueError T hC hN hi k hz
 ·cases q2
end
end XO
namespace D
open L2 XO
section
variable {X:Cx}{pos p cpos np hpos:Pos}{k:Nat}{f C:Addr}{x:Str}{e:Expr}{es:List Expr}{t:TAd}{E:XE}
def rU(C:Addr)(E:XE)(t:TAd)(_:Ed)(τ:DS)(M:MH):Prop:=t τ M λ ws M1=>ws.length<=1000/\∀ a,M1 a=none->E a τ (bz M1 a (.exc C []))
variable {body suite:List Stmt}{b0:Stmt}{hs:List ExceptHandler}{th rest:Addr->TSd}{ts:TSd}
end
section
variable {X:Cx}{K:FG}
variable {o e:Expr}{td te:TD}{apos cpos:Pos}
end
section
variable {X:Cx}{e st:Expr}{te:TE}{ts:TO}{pos p2:Pos}
end
section
variable {X:Cx}{e st:Expr}{te:TD}{ts:TOd}{pos p2:Pos}
end
section
variable {X:Cx}{K:FG}
end
section
variable {X:Cx}{pos p cpos apos np hpos p2:Pos}{k:Nat}{f C:Addr}{x y:Str}{e o st:Expr}{es:List Expr}{t:TAd}{E:XE}{body suite:List Stmt}{b0:Stmt}{hs:List ExceptHandler}{rest:Addr->TSd}{ts:TSd}{fd:FuncData}{ps:List Str}{sp:SpX}{td te:TD}{to:TOd}
theorem kR(L:Lk X E)(xc:XC X.K C)(xn:xno X.K C=true)(ty:W.typeIn X.K (.ref C)=some (.type "type"))(kc:W.keepIn X.K (.ref C)=true)(hr:dN k X.A)(hg:Gl X x)(hm:X.mg x=some (.ref C))(ha:Jd (PAd X (e::es) t))
  (hdb:ND x:=by decide)(h1:dQ e=false:=by rfl)(h2:(es.all λ e=>!dQ e)=true:=by rfl):Jd (PSd X (.Raise (some (.Call (.Name x p) (e::es) [] cpos)) none pos) (rU C E t)):=⟨have ha:=ha.h;by
 intro pins s σ H D I h;obtain⟨τ,M,Dd,A,h,_⟩:=h;rw[arm_exec_Raise];refine wpAny_bind (wpAny_standAt (zE (K:=X.K) hr.hd (wpAny_bind ?_)));refine wpAny_Call_Name_kw (gL I hg hm ?_ hdb);refine W.callWith_K (h₀:=X.base) I.ok.mod.kin kc (thn (ha cpos pins s σ H (λ vs H1=>∃ ws M1,Kp H H1/\bj X.K H1 ws vs/\cz X.K H1 M1/\ws.length<=1000/\∀ a,M1 a=none->E a τ (bz M1 a (.exc C []))) I
  ⟨τ,M,_,A,h,λ vs H1 ws M1 kp r m q=>⟨ws,M1,kp,r,m,q⟩⟩) λ us s1 ⟨vs,H1,I1,r,ws,M1,kp,rw1,m1,hz,q⟩=>⟨I1.kIn,?_⟩) (bN e es X.env h1) (cf cpos X.env es h2)
 refine adf (h:=s1.heap) (g:=s1.gens) (d:=s1.drawn) (t:=s1.toks) (os:=s1.os) I1.kIn xn (by show us.length<=_;have:=r.length;have:=rw1.length;have:=s16;omega) λ h' a hq93=>?_;obtain⟨kk,hn,T,oa,_,_⟩:=hq93;refine wpAny_bind (wpAny_standAt (wpAny_pure ?_));have e0:H1 a=none:=vw I1.hok hn;have oa':h'.get? a=some (qS C none #[.ref T,.none,.none,.none,.bool false,.none]):=oa;have I5:Inv X pins σ (upd H1 a (.ext (XF a C none true))) {s1 with heap:=h'}:=Inv.afm (t':=s1.toks) I1 kk hn (aan oa' λ _=>rfl);have k5:Kp H1 (upd H1 a (.ext (XF a C none true))):=Kp.new e0;have m5:cz X.K (upd H1 a (.ext (XF a C none true))) (bz M1 a (.exc C [])):=λ b mo z=>by
  by_cases hb:b=a
  ·subst hb;rw[ak] at z;cases z;exact⟨_,none,ax,λ h ⟨vs,y,c⟩=>⟨vs,y,λ _=>c rfl⟩,.inl ⟨rfl,rfl⟩⟩
  ·rw[aq hb] at z;exact(m1 b mo z).keep k5 λ u y=>by rw[au hb];exact y
 refine⟨a,C,none,_,rfl,I5.kIn,xc.x,ty,oa',rfl,?_⟩;exact L pins σ _ _ a τ _ I5 ⟨C,none,_,true,ax,oa',.inl rfl,λ _=>rfl⟩ (A.go (kp.trans k5) m5) (q a (m1.free e0))⟩
end
end D
namespace ZS
structure Zs(h:Heap)(z T O i j b:Addr)(x:Str)(tk:Tok)(f:Value)(k1 k2:Nat)(ys:Array Value)(u v:Value):Prop where
 z:IsZip h z T O f
 t:IsPair h T (.ref i) (.ref j)
 o:IsPair h O u v
 i:h.IsStrIter i "str_ascii_iterator" x tk k1
 j:ZT.TI false h j b k2 ys
theorem next_item(D:ZipApart z T O i j b b)(Z:Zs s.heap z T O i j b x tk .none k k ys u v)(hx:x.cps[k]? =some c0)(hy:ys[k]? =some y)
  (q:∀ h',Zs h' z T O i j b x tk (rawInt s.heap.objs.size) (k+1) (k+1) ys (.str ⟨#[c0]⟩ s.toks) y->IsPair h' s.heap.objs.size (.str ⟨#[c0]⟩ s.toks) y ->
   (∀ c o,c≠z->c≠O->c≠i->c≠j->s.heap.get? c=some o->h'.get? c=some o)->Q (some (.ref s.heap.objs.size)) {s with heap:=h',toks:=s.toks+1}):wpAny (model prog w) A (pyNext (.ref z)) Q E s:=by
 have hT:s.TypeIs (.ref z) "zip":= ⟨_,Z.z,rfl⟩;unfold pyNext;refine wpAny_bind (wpAny_attempt (wpAny_callSpecial?_slot (name:=Str.ofString "__next__") hT F.slot_zip_next (wpAny_call_entry F.slot_zip_next hT F.entry_zip_next ?_ (F.args_zip_next_1 _))));show wpAny _ _ (field (.ref z) 2 >>= _) _ _ _;refine wpAny_bind (wpAny_field Z.z rfl (x:=.bool false) rfl ?_);show wpAny _ _ (field (.ref z) 3 >>= _) _ _ _;refine wpAny_bind (wpAny_field Z.z rfl (x:=.ref T) rfl (wpAny_bind (wpAny_seqItems Z.t rfl ?_)));show wpAny _ _ (Builtin.SmallTypes.ownedTupleIsFree (.ref z) >>= _) _ _ _;refine wpAny_bind ?_;unfold Builtin.SmallTypes.ownedTupleIsFree;refine wpAny_bind (wpAny_field Z.z rfl (x:=.none) rfl (wpAny_pure ?_));simp only[if_true];refine wpAny_bind (wpAny_rule (wpAny_bind (wpAny_field Z.z rfl (x:=.ref O) rfl (wpAny_bind (wpAny_setField_rec Z.z (by simp) λ g1 z1 s1=>?_)))));replace z1:IsZip g1 z T O .ellipsis:=z1;refine wpAny_bind ?_;simp only[List.zipIdx_cons,List.zipIdx_nil,List.forIn_cons,List.forIn_nil];have i1:g1.IsStrIter i "str_ascii_iterator" x tk k:=Z.i.extBut s1.extBut D.i1z;have j1:ZT.TI false g1 j b k ys:=Z.j.at λ c o hc q=>s1.extBut _ _ (by rcases hc with rfl | rfl;exact D.i2z;exact D.l2z) q;refine wpAny_bind (wpAny_bind (wpAny_onRaise ?_));show wpAny _ _ (Builtin.SmallTypes.nextOf (.ref i) >>= _) _ _ _;refine wpAny_bind (wpAny_nextOf_ascii_item i1 hx λ g2 i2 s2=>wpAny_pure ?_);have o2:IsPair g2 O u v:=s2.extBut _ _ D.TOi1 (s1.extBut _ _ D.TOz Z.o);refine wpAny_bind (wpAny_seqItems o2 rfl (wpAny_bind (wpAny_updateSeq_pair o2 λ g3 o3 s3=>wpAny_bind (wpAny_letGo (wpAny_pure ?_)))));replace o3:IsPair g3 O (.str ⟨#[c0]⟩ s.toks) v:=o3;have j3:ZT.TI false g3 j b k ys:=j1.at λ c o hc q=>s3.extBut _ _ (by rcases hc with rfl | rfl;exact D.TOi2.symm;exact D.l2TO) (s2.extBut _ _ (by rcases hc with rfl | rfl;exact D.i12.symm;exact D.l2i1) q);refine wpAny_bind (wpAny_bind (wpAny_onRaise ?_));show wpAny _ _ (Builtin.SmallTypes.nextOf (.ref j) >>= _) _ _ _;refine wpAny_bind (ZT.nI j3 D.l2i2 hy λ g4 j4 s4=>wpAny_pure ?_);have o4:IsPair g4 O (.str ⟨#[c0]⟩ s.toks) v:=s4.extBut _ _ D.TOi2 o3;refine wpAny_bind (wpAny_seqItems o4 rfl (wpAny_bind (wpAny_updateSeq_pair o4 λ g5 o5 s5=>wpAny_bind (wpAny_letGo (wpAny_pure (wpAny_pure ?_))))));replace o5:IsPair g5 O (.str ⟨#[c0]⟩ s.toks) y:=o5;refine wpAny_bind (wpAny_seqItems o5 rfl (wpAny_bind (wpAny_newTuple ?_)));have sz:g5.objs.size=s.heap.objs.size:=by rw[s5.1,s4.1,s3.1,s2.1,s1.1]
 have z5:IsZip g5 z T O .ellipsis:=s5.extBut _ _ D.TOz.symm (s4.extBut _ _ D.i2z.symm (s3.extBut _ _ D.TOz.symm (s2.extBut _ _ D.i1z.symm z1)));have k5:∀ c o,c≠z->c≠O->c≠i->c≠j->s.heap.get? c=some o->g5.get? c=some o:=λ c o c1 c2 c3 c4 e=>s5.extBut _ _ c2 (s4.extBut _ _ c4 (s3.extBut _ _ c2 (s2.extBut _ _ c3 (s1.extBut _ _ c1 e))));have i5:g5.IsStrIter i "str_ascii_iterator" x tk (k+1):=((i2.extBut s3.extBut D.TOi1.symm).extBut s4.extBut D.i12).extBut s5.extBut D.TOi1.symm;have j5:ZT.TI false g5 j b (k+1) ys:=j4.at λ c o hc q=>s5.extBut _ _ (by rcases hc with rfl | rfl;exact D.TOi2.symm;exact D.l2TO) q;have zlt:z<g5.objs.size:=Heap.lt_size z5;show wpAny _ _ (Builtin.SmallTypes.ownedTupleHandOut (.ref z) (.ref g5.objs.size) >>= _) _ _ _;refine wpAny_bind ?_;unfold Builtin.SmallTypes.ownedTupleHandOut;have z6:IsZip (g5.push {cls:=.type "tuple",data:=.seq #[.str ⟨#[c0]⟩ s.toks,y]}) z T O .ellipsis:=Heap.get?_push_of_some _ z5;refine wpAny_bind (wpAny_setField_rec z6 (by simp) λ g7 z7 s7=>?_);replace z7:IsZip g7 z T O (rawInt g5.objs.size):=z7;refine wpAny_setField_rec z7 (by simp) λ g8 z8 s8=>?_;replace z8:IsZip g8 z T O (rawInt g5.objs.size):=z8;have up:∀ c o,c≠z->g5.get? c=some o->g8.get? c=some o:=λ c o c1 e=>s8.extBut _ _ c1 (s7.extBut _ _ c1 (Heap.get?_push_of_some _ e));have t8:IsPair g8 g5.objs.size (.str ⟨#[c0]⟩ s.toks) y:=s8.extBut _ _ (Nat.ne_of_gt zlt) (s7.extBut _ _ (Nat.ne_of_gt zlt) (Heap.get?_push_size _ rfl));rw[sz] at z8 t8;refine wpAny_pure ⟨_,rfl,wpAny_pure ?_⟩;show Q (some (.ref g5.objs.size)) _;rw[sz];exact q g8 ⟨z8,up _ _ D.TIz (k5 T _ D.TIz D.TITO D.TIi1 D.TIi2 Z.t),up _ _ D.TOz o5,(let ⟨o,ho,r⟩:=i5; ⟨o,up _ o D.i1z ho,r⟩),j5.at λ c o hc q=>up _ o (by rcases hc with rfl | rfl;exact D.i2z;exact D.l2z) q⟩ t8 λ c o c1 c2 c3 c4 e=>up c o c1 (k5 c o c1 c2 c3 c4 e)
theorem next_end(hh:A.handled=none)(D:ZipApart z T O i j b b)(Z:Zs s.heap z T O i j b x tk .none k k ys u v)(hx:x.cps[k]? =none\/ys[k]? =none)
  (q:∀ h' k',(∀ c o,c≠z->c≠O->c≠i->c≠j->s.heap.get? c=some o->h'.get? c=some o)->Q none {s with heap:=h',toks:=k'}):wpAny (model prog w) A (pyNext (.ref z)) Q E s:=by
 have hT:s.TypeIs (.ref z) "zip":= ⟨_,Z.z,rfl⟩;have fin:∀ h' k' x,(∀ c o,c≠z->c≠O->c≠i->c≠j->s.heap.get? c=some o->h'.get? c=some o)->(∃ o,h'.get? x=some o/\o.cls=.type "StopIteration") ->
   wpAny (model prog w) A (do if (<- PySem.isInstance (.ref x) (.type "StopIteration")) then pure none else throw (.ref x)) Q E {s with heap:=h',toks:=k'}:=λ h' k' x kp ⟨o,ho,hc⟩ =>
  wpAny_bind (wpAny_isInstance (T:= "StopIteration") (b:=true) ⟨o,ho,hc⟩ isSubtype_stop (wpAny_pure (q _ _ kp)))
 unfold pyNext;refine wpAny_bind (wpAny_attempt (wpAny_callSpecial?_slot (name:=Str.ofString "__next__") hT F.slot_zip_next (wpAny_call_entry F.slot_zip_next hT F.entry_zip_next ?_ (F.args_zip_next_1 _))));show wpAny _ _ (field (.ref z) 2 >>= _) _ _ _;refine wpAny_bind (wpAny_field Z.z rfl (x:=.bool false) rfl ?_);show wpAny _ _ (field (.ref z) 3 >>= _) _ _ _;refine wpAny_bind (wpAny_field Z.z rfl (x:=.ref T) rfl (wpAny_bind (wpAny_seqItems Z.t rfl ?_)));show wpAny _ _ (Builtin.SmallTypes.ownedTupleIsFree (.ref z) >>= _) _ _ _;refine wpAny_bind ?_;unfold Builtin.SmallTypes.ownedTupleIsFree;refine wpAny_bind (wpAny_field Z.z rfl (x:=.none) rfl (wpAny_pure ?_));simp only[if_true];refine wpAny_bind (wpAny_rule (wpAny_bind (wpAny_field Z.z rfl (x:=.ref O) rfl (wpAny_bind (wpAny_setField_rec Z.z (by simp) λ g1 z1 s1=>?_)))));replace z1:IsZip g1 z T O .ellipsis:=z1;refine wpAny_bind ?_;simp only[List.zipIdx_cons,List.zipIdx_nil,List.forIn_cons,List.forIn_nil];have i1:g1.IsStrIter i "str_ascii_iterator" x tk k:=Z.i.extBut s1.extBut D.i1z;have j1:ZT.TI false g1 j b k ys:=Z.j.at λ c o hc q=>s1.extBut _ _ (by rcases hc with rfl | rfl;exact D.i2z;exact D.l2z) q;refine wpAny_bind (wpAny_bind (wpAny_onRaise ?_));show wpAny _ _ (Builtin.SmallTypes.nextOf (.ref i) >>= _) _ _ _;cases ex:x.cps[k]? with
 | none =>
  refine wpAny_bind (wpAny_nextOf_ascii_end hh i1 ex λ g2 x s2 hq94=>?_);obtain⟨ox,hox,hcx⟩:=hq94;have z2:IsZip g2 z T O .ellipsis:=s2 _ _ D.i1z.symm z1;have hxz:x≠z:=λ e=>by subst e;rw[z2] at hox;cases hox;simp at hcx
  refine wpAny_setField_rec z2 (by simp) λ g3 _ s3=>fin g3 _ x (λ c o c1 _ c3 _ e=>s3.extBut _ _ c1 (s2 _ _ c3 (s1.extBut _ _ c1 e))) ⟨ox,s3.extBut _ _ hxz hox,hcx⟩
 | some x0 =>
  have ey:ys[k]? =none:=by rcases hx with h | h;rw[ex] at h;cases h;exact h
  refine wpAny_bind (wpAny_nextOf_ascii_item i1 ex λ g2 i2 s2=>wpAny_pure ?_);have o2:IsPair g2 O u v:=s2.extBut _ _ D.TOi1 (s1.extBut _ _ D.TOz Z.o);refine wpAny_bind (wpAny_seqItems o2 rfl (wpAny_bind (wpAny_updateSeq_pair o2 λ g3 o3 s3=>wpAny_bind (wpAny_letGo (wpAny_pure ?_)))));have j3:ZT.TI false g3 j b k ys:=j1.at λ c o hc q=>s3.extBut _ _ (by rcases hc with rfl | rfl;exact D.TOi2.symm;exact D.l2TO) (s2.extBut _ _ (by rcases hc with rfl | rfl;exact D.i12.symm;exact D.l2i1) q);refine wpAny_bind (wpAny_bind (wpAny_onRaise ?_));show wpAny _ _ (Builtin.SmallTypes.nextOf (.ref j) >>= _) _ _ _;refine wpAny_bind (ZT.vo hh j3 ey λ g4 x s4 hq95=>?_);obtain⟨ox,hox,hcx⟩:=hq95;have z4:IsZip g4 z T O .ellipsis:=s4 _ _ D.i2z.symm (s3.extBut _ _ D.TOz.symm (s2.extBut _ _ D.i1z.symm z1));have hxz:x≠z:=λ e=>by subst e;rw[z4] at hox;cases hox;simp at hcx
  refine wpAny_setField_rec z4 (by simp) λ g5 _ s5=>fin g5 _ x (λ c o c1 c2 c3 c4 e=>s5.extBut _ _ c1 (s4 _ _ c4 (s3.extBut _ _ c2 (s2.extBut _ _ c3 (s1.extBut _ _ c1 e))))) ⟨ox,s5.extBut _ _ hxz hox,hcx⟩
theorem lE(x:Str)(tk:Tok)(hx:x.cps.all (·<128)=true)(b:Addr)(ys:Array Value):Meets (Builtin.«zip.__new__» ⟨[.type "zip",.str x tk,.ref b],[]⟩) (λ _ R s=>s.heap.IsList b ys /\
   R (.ok (.ret (.ref (s.heap.objs.size+4)))) {s with heap:=((((s.heap.push {cls:=.type "str_ascii_iterator",data:=.fields #[.str x tk,.int 0 0]}).push {cls:=.type "list_iterator",data:=.fields #[.ref b,.int 0 0]}).push {cls:=.type "tuple",data:=.seq #[.ref s.heap.objs.size,.ref (s.heap.objs.size+1)]}).push {cls:=.type "tuple",data:=.seq #[.none,.none]}).push {cls:=.type "zip",data:=.fields #[.none,.bool false,.bool false,.ref (s.heap.objs.size+2),.ref (s.heap.objs.size+3)]}}):=
 .of_wp λ prog w A R s h=>by
  obtain⟨hp,g,d,tk',os⟩:=s;obtain⟨hb,h⟩:=h;have hsub:=sub_zip;have h2:Heap.IsList (Shared.heap ⟨hp.push {cls:=.type "str_ascii_iterator",data:=.fields #[.str x tk,.int 0 0]},g,d,tk',os⟩) b ys:=Heap.IsList.push hb _
  wp_walk using wpAny_pyIter_ascii hx,wpAny_pyIter_list h2
  refine⟨_,rfl,?_⟩;simp only[Heap.size_push];exact h
theorem sD(hx:x.cps.all (·<128)=true)(hb:s.heap.IsList b ys)
  (h:∀ h',Zs h' (s.heap.objs.size+4) (s.heap.objs.size+2) (s.heap.objs.size+3) s.heap.objs.size (s.heap.objs.size+1) b x tk .none 0 0 ys .none .none ->
   (∀ c o,s.heap.get? c=some o->h'.get? c=some o)->Q (.ref (s.heap.objs.size+4)) {s with heap:=h'}) :
  wpAny (model prog w) A (call (.type "zip") [.str x tk,.ref b]) Q E s:=by
 refine callType_new F.called_zip (by decide) (F.typeCall_zip_2 _ _) (F.newCall_zip_2 _ _) (λ obj=>F.args_object_init_3 obj _ _) F.entry_zip_new (lE x tk hx b ys) ⟨hb,?_⟩;generalize e1:s.heap.push {cls:=.type "str_ascii_iterator",data:=.fields #[.str x tk,.int 0 0]}=g1;have z1:g1.objs.size=s.heap.objs.size+1:=by rw[<- e1];exact Heap.size_push ..
 have n1:g1.get? s.heap.objs.size=some {cls:=.type "str_ascii_iterator",data:=.fields #[.str x tk,.int 0 0]}:=by rw[<- e1];exact Heap.get?_push_size _ rfl
 have k1:∀ c o,s.heap.get? c=some o->g1.get? c=some o:=λ c o q=>by rw[<- e1];exact Heap.get?_push_of_some _ q
 generalize e2:g1.push {cls:=.type "list_iterator",data:=.fields #[.ref b,.int 0 0]}=g2;have z2:g2.objs.size=s.heap.objs.size+2:=by rw[<- e2,Heap.size_push,z1]
 have n2:g2.get? (s.heap.objs.size+1)=some {cls:=.type "list_iterator",data:=.fields #[.ref b,.int 0 0]}:=by rw[<- e2,<- z1];exact Heap.get?_push_size _ rfl
 have k2:∀ c o,g1.get? c=some o->g2.get? c=some o:=λ c o q=>by rw[<- e2];exact Heap.get?_push_of_some _ q
 generalize e3:g2.push {cls:=.type "tuple",data:=.seq #[.ref s.heap.objs.size,.ref (s.heap.objs.size+1)]}=g3;have z3:g3.objs.size=s.heap.objs.size+3:=by rw[<- e3,Heap.size_push,z2]
 have n3:g3.get? (s.heap.objs.size+2)=some {cls:=.type "tuple",data:=.seq #[.ref s.heap.objs.size,.ref (s.heap.objs.size+1)]}:=by rw[<- e3,<- z2];exact Heap.get?_push_size _ rfl
 have k3:∀ c o,g2.get? c=some o->g3.get? c=some o:=λ c o q=>by rw[<- e3];exact Heap.get?_push_of_some _ q
 generalize e4:g3.push {cls:=.type "tuple",data:=.seq #[.none,.none]}=g4;have z4:g4.objs.size=s.heap.objs.size+4:=by rw[<- e4,Heap.size_push,z3]
 have n4:g4.get? (s.heap.objs.size+3)=some {cls:=.type "tuple",data:=.seq #[.none,.none]}:=by rw[<- e4,<- z3];exact Heap.get?_push_size _ rfl
 have k4:∀ c o,g3.get? c=some o->g4.get? c=some o:=λ c o q=>by rw[<- e4];exact Heap.get?_push_of_some _ q
 generalize e5:g4.push {cls:=.type "zip",data:=.fields #[.none,.bool false,.bool false,.ref (s.heap.objs.size+2),.ref (s.heap.objs.size+3)]}=g5;have n5:g5.get? (s.heap.objs.size+4)=some {cls:=.type "zip",data:=.fields #[.none,.bool false,.bool false,.ref (s.heap.objs.size+2),.ref (s.heap.objs.size+3)]}:=by rw[<- e5,<- z4];exact Heap.get?_push_size _ rfl
 have k5:∀ c o,g4.get? c=some o->g5.get? c=some o:=λ c o q=>by rw[<- e5];exact Heap.get?_push_of_some _ q
 have kk:∀ c o,s.heap.get? c=some o->g5.get? c=some o:=λ c o q=>k5 _ _ (k4 _ _ (k3 _ _ (k2 _ _ (k1 _ _ q))));refine⟨⟨_,n5,rfl⟩,h g5 ⟨n5,k5 _ _ (k4 _ _ n3),k5 _ _ n4,?_,?_,?_⟩ kk⟩
 ·exact⟨_,k5 _ _ (k4 _ _ (k3 _ _ (k2 _ _ n1))),rfl,rfl⟩
 ·exact⟨_,k5 _ _ (k4 _ _ (k3 _ _ n2)),rfl,rfl⟩
 ·obtain⟨o,e,r⟩:=hb;exact⟨o,kk _ _ e,r⟩
end ZS
namespace D
open L2
section
variable {X:Cx}{K:FG}
end
end D
namespace RT
end RT
namespace D
open L2
section
variable {X:Cx}{K:FG}
variable {o e:Expr}{td:TD}{apos cpos:Pos}
variable {a:Expr}{ta:TA}{p p2 pos pos2:Pos}
end
end D
namespace L2
open PySem.W (envX kla_obj kla_fn)
section
variable {X:Cx}{pins:PN}{σ:St}{H:Hp}{s:Shared}{sc:Scope}{x q:Str}{fr:List Nat}{cl:List (Str×Addr)}{f c:Addr}
def afg(H:Hp)(q x:Str)(params:Arguments)(body:Expr)(sc:Scope)(cl:List (Str×Addr))(pm:Value)(f:Addr):Prop:=
 ∃ c ctv oc vs t,H f=some (.frz (kla_obj "<lambda>" q params body sc cl pm c ctv) (.own 0))/\H c=some (.frz oc (.own 0))/\oc.data=.fields vs/\vs[1]? =some (.str q t)
end
section
variable {X:Cx}{pins:PN}{σ:St}{H:Hp}{s:Shared}
end
def ahl(X:Cx):Cx:={X with A:=X.A.in1}
theorem Inv.in1(I:Inv X pins σ H s):Inv (ahl X) pins σ H s:=
 ⟨⟨I.ok.mod,I.ok.kind,I.ok.glob,I.ok.blt,I.ok.above,I.ok.inj,I.ok.has,I.ok.cab,I.ok.hd,I.ok.frames,I.ok.stk,I.ok.exf,I.ok.bs,I.ok.bsz,I.ok.noex,I.ok.exfs,I.ok.ng,I.ok.frf⟩,I.os,I.bare,I.base,I.loc,I.cell,I.free,I.freeC,I.pin,I.hok,I.len⟩
end L2
namespace D
open L2
open PySem.W (kla_obj kla_fn)
section
variable {X:Cx}{K:FG}
variable {P cd:Addr}{q x:Str}{lpos pos p kpos:Pos}{params:Arguments}{body o:Expr}{sc:Scope}{fr:List Nat}{to tb:TD}{k:Nat}
theorem afg.keep{H H':Hp}{q x:Str}{params:Arguments}{body:Expr}{sc:Scope}{cl:List (Str×Addr)}{pm:Value}{f:Addr}(h:afg H q x params body sc cl pm f)(kp:Kp H H'):afg H' q x params body sc cl pm f:=by obtain⟨c,ctv,oc,vs,t,h1,h2,h3,h4⟩:=h;exact⟨c,ctv,oc,vs,t,kp.frz _ _ _ h1,kp.frz _ _ _ h2,h3,h4⟩
end
end D
namespace L2
end L2
namespace D
open L2
section
variable {P:Program}{w:World}{K:FG}{mg:Str->Option Value}{base:Heap}
end
theorem get_dict(hu:X.A.units+1<cLine):afN X (λ o i H Q=>∃ a kvs k v,o=.ref a/\i=kV k/\H a=some (.dK kvs)/\kg kvs k=some v/\Q v H):=by intro pins s σ H o i ov iv Q I ro ri h;obtain⟨a,kvs,k,v,eo,ei,e,l,q⟩:=h;subst eo ei;cases (show ov=Value.ref a from ro);exact(mQ hu I (.inl (.inl e)) l ri λ w' s' I' r'=>⟨v,H,I',r',q⟩).2
def acC(to ti te:TD)(f:Int->Int->Int)(D:Ed)(τ:DS)(M:MH):Prop:=to τ M λ w M1=>ti τ M1 λ w' M2=>∃ a kvs k n,w=.m a/\w'=kW k/\M2 a=some (.dic kvs)/\mK kvs k=some (.d (.int n))/\kvs.length<sizeLine /\
 te τ M2 λ y M3=>∃ n',y=.d (.int n')/\M3=M2/\D.nx τ (bz M3 a (.dic (xS kvs k (.d (.int (f n n'))))))
theorem vZ(hu:X.A.units+1<cLine)(ho:Jd (PD X o to))(hi:Jd (PD X i ti))(he:Jd (PD X e te))(hp:PIp X op (ipI f))
  (ha:∀ ov iv new,augStore i ov iv new=(do holding [new,ov,iv] (setItem ov iv new);release [new,ov,iv] [];pure .next):=by intros;rfl):Jd (PSd X (.AugAssign (.Subscript o i tpos) op e pos) (acC to ti te f)):=⟨have ho:=ho.h;have hi:=hi.h;have he:=he.h;
 tQ (vC ho hi (get_dict hu) he hp (set_dict hu) ha) λ D σ H h=>by
  obtain⟨τ,M,Dd,A,h,k1,_⟩:=h;refine⟨τ,M,_,A,h,λ x H1 wo M1 kp1 r1 m1 q1=>⟨τ,M1,_,A.go kp1 m1,q1,λ y H2 wi M2 kp2 r2 m2 q2=>?_⟩⟩;obtain⟨a,kvs,key,n,e1,e2,hm,hn,hl,q⟩:=q2;subst e1;subst e2;simp only[aH] at r1;obtain⟨l,e3,pr⟩:=m2 a _ hm;have g:=lV key pr;rw[hn] at g;obtain⟨b,eb,rb⟩:=OR.some_of g;simp only[aH,aA] at rb;refine⟨a,l,key,b,r1,jP r2,e3,eb,?_⟩;refine⟨τ,M2,_,A.go (kp1.trans kp2) m2,q,λ z H3 wz M3 kp3 r3 m3 q3=>?_⟩;obtain⟨n',e5,e6,qn⟩:=q3;subst e5;subst e6;simp only[aH,aA] at r3;refine⟨n,n',rb,r3,?_⟩;obtain⟨l',e3',pr'⟩:=m3 a _ hm;have kp:=(kp1.trans kp2).trans kp3;have kp4:Kp H3 (upd H3 a (.dK (putK l' key (.int (f n n'))))):=Kp.set e3' (λ _ z=>nomatch z) (λ _ _ z=>nomatch z);refine⟨a,_,r1,.inl ⟨l',key,e3',jP r2,by rw[<- tF pr'];exact hl,rfl⟩,?_⟩;have rv':aH X.K H3 (.d (.int (f n n'))) (.int (f n n')):=by simp[aH,aA]
  refine k1 σ _ τ _ (kp.trans kp4) (A.go (kp.trans kp4) (m3.put (mo:=.dic (xS kvs key (.d (.int (f n n'))))) kp4 ⟨_,ax,?_⟩)) qn;exact Paired.j6 (zM key rv' pr') λ p q z=>⟨z.1,z.2.keep kp4⟩⟩
section
variable {X:Cx}{K:FG}
variable {o e:Expr}{to:TE}{td te:TD}{apos cpos p pos:Pos}
theorem nu(hc:X.calm=true):dZ X (.type "list") (λ xs H Q=>∃ a kvs,∃ zs:List Str,xs=[.ref a]/\Rd H a (.dK kvs)/\kvs.map (·.1)=zs.map Sum.inr/\∀ l,H l=none->Q (.ref l) (upd H l (.lst (zs.map V.str)))):=by
 intro pins s σ H xs us Q I r h;obtain⟨a,kvs,zs,rfl,hq,hk,q⟩:=h;obtain⟨u,rfl,rx⟩:=vals1 r;cases rx;obtain⟨hsz,hsys,vs,rel,o,es,ep,hd⟩:=hq.ok I.hok;have hvs:vs.map (·.1)=zs.map Sum.inr:=by
  rw[<- hk];clear hk hd hq hsz
  induction rel with
  | nil=>rfl
  | cons r t ih=>simp only[List.map_cons,ih,r.1]
 have hln:vs.length=zs.length:=by simpa using congrArg List.length hvs
 have hkl:kvs.length=zs.length:=by simpa using congrArg List.length hk
 refine W.kdl_call (W.kdl_dict (knd:=bb X.prog X.w) (kvs:=vs) (ep:=ep) hsys) (I.ok.hd hc) ⟨o,es,hd⟩ (by omega) λ h' tk acc c old hnew hacc=>?_;have hla:acc.toList.length=vs.length:=by rw[Array.length_toList];exact hacc.1
 have hS:StrsAre acc.toList zs:=pN hvs hla λ j v hj=>hacc.2 j v (by rw[<- Array.getElem?_toList];exact hj);exact⟨.ref _,_,I.laid (t':=tk) old (Nat.le_refl _) (show cD X.prog X.w _ h' _ (.lst (zs.map V.str)) from⟨by rw[List.length_map];omega,acc.toList,c,qa hS,by rw[Array.toArray_toList];exact hnew⟩),rfl,q _ (I.hok.fresh (Nat.le_refl _))⟩
def rZ(ws:List W)(M:MH)(Q:QD):Prop:=∃ a kvs,∃ zs:List Str,ws=[.m a]/\M a=some (.dic kvs)/\kvs.map (·.1)=zs.map Sum.inr/\∀ p,M p=none->Q (.m p) (bz M p (.lst (eI zs)))
theorem sS:fP K (λ xs H Q=>∃ a kvs,∃ zs:List Str,xs=[.ref a]/\Rd H a (.dK kvs)/\kvs.map (·.1)=zs.map Sum.inr/\∀ l,H l=none->Q (.ref l) (upd H l (.lst (zs.map V.str)))) rZ:=by
 intro vs H ws M Qd Q r m ⟨a,kvs,zs,e,g,hk,q⟩ k;subst e;obtain⟨v,e1,r1⟩:=gc r;have ev:v=.ref a:=r1;subst ev;obtain⟨l,el,pr⟩:=m _ _ g;refine⟨a,l,zs,e1,.inl el,?_,λ p hp=>?_⟩
 ·rw[<- hk];clear hk el g
  induction pr with
  | nil=>rfl
  | cons r t ih=>simp only[List.map_cons,ih,r.1]
 ·have kp:Kp H (upd H p (.lst (zs.map V.str))):=Kp.new hp;exact k _ _ (.m p) _ kp rfl (m.put (mo:=.lst (eI zs)) kp ⟨_,ax,qm zs⟩) (q p (m.free hp))
end
end D
set_option maxHeartbeats 0
namespace D
open L2
section
variable {X:Cx}{a b:Expr}{rest:List Expr}{pos:Pos}{ta tb:TE}
end
def Lst(ns:List Int)(j:Nat)(m:Int):Prop:=m∈ns.take j/\∀ x∈ns.take j,m<=x
theorem Lst.next(h:Lst ns j m)(e:ns[j]? =some n):Lst ns (j+1) (if n<m then n else m):=by
 have ht:ns.take (j+1)=ns.take j++[n]:=by rw[List.take_succ,e];rfl
 unfold Lst;rw[ht];constructor
 ·split
  ·simp
  ·exact List.mem_append_left _ h.1
 ·intro x hx;rcases List.mem_append.mp hx with hx | hx
  ·have:=h.2 x hx
   split<;>omega
  ·rw[List.mem_singleton.mp hx]
   split<;>omega
section
variable {X:Cx}{K:FG}{e:Expr}{te:TE}{p pos kpos kp:Pos}{j:Nat}
end
section
variable {X:Cx}{a b o e:Expr}{rest:List Expr}{ta tb td te:TD}{apos cpos p pos kpos kp:Pos}{j:Nat}
end
section
variable {X:Cx}{K:FG}{pins:PN}{σ:St}{H:Hp}{s:Shared}
end
section
variable {K:FG}
end
structure MiE(K:FG)(C:Addr)(qual:Str)(st:Stmt)(ps:List Str)(f:Addr)(fd:FuncData):Prop where
 fn:agG K "__init__" qual st f fd
 mi:Mk K C f
 bd:Binds K fd ps []
 bn:Binds K fd ps [.none]
abbrev PFn(K:FG)(x:Str)(st:Stmt):Prop:=∃ (f:Addr) (oc kV dc pm cd ct:Value) (od an:Option Addr) (sl:Array (Option Value)),W.nsIn K mainGlobals x=some (some (.ref f))/\K.lookup f=some ⟨oc,od,.func (W.fnOf x x (aE st) (aD st) (ag st) .none kV dc pm an cd ct),sl⟩/\W.codeIn K cd x=true/\W.keepIn K (.ref f)=true
abbrev PMf(K:FG)(C:Addr)(m x:Str)(st:Stmt):Prop:=∃ (f:Addr) (oc kV dc pm cd ct:Value) (od an:Option Addr) (sl:Array (Option Value)),W.findIn K (.ref C) m=some (some (.ref f))/\W.isFn K (.ref f)=true/\K.lookup f=some ⟨oc,od,.func (W.fnOf m x (aE st) (aD st) (ag st) .none kV dc pm an cd ct),sl⟩/\W.codeIn K cd x=true/\W.keepIn K (.ref f)=true
theorem aeK{K:FG}{x:Str}{st:Stmt}{f:Addr}{oc kV dc pm cd ct:Value}{od an:Option Addr}{sl:Array (Option Value)}(a:W.nsIn K mainGlobals x=some (some (.ref f)))(l:K.lookup f=some ⟨oc,od,.func (W.fnOf x x (aE st) (aD st) (ag st) .none kV dc pm an cd ct),sl⟩)(c:W.codeIn K cd x=true)(k:W.keepIn K (.ref f)=true):PFn K x st:=⟨_,_,_,_,_,_,_,_,_,_,a,l,c,k⟩
theorem adU{K:FG}{C:Addr}{m x:Str}{st:Stmt}{f:Addr}{oc kV dc pm cd ct:Value}{od an:Option Addr}{sl:Array (Option Value)}(a:W.findIn K (.ref C) m=some (some (.ref f)))(i:W.isFn K (.ref f)=true)(l:K.lookup f=some ⟨oc,od,.func (W.fnOf m x (aE st) (aD st) (ag st) .none kV dc pm an cd ct),sl⟩)(c:W.codeIn K cd x=true)(k:W.keepIn K (.ref f)=true):PMf K C m x st:=⟨_,_,_,_,_,_,_,_,_,_,a,i,l,c,k⟩
theorem PFn.fn{K:FG}{h:Heap}{mg:Str->Option Value}{x:Str}{st:Stmt}{ps:List Str}(p:PFn K x st)(X:K.In h)(G:h.Ns mainGlobals mg)
  (b:∀ (kV doc pm:Value) (an:Option Addr) (cdv ct:Value) (us:List Value),us.length=ps.length->bindArgs (W.fnOf x x (aE st) (aD st) (ag st) .none kV doc pm an cdv ct) ⟨us,[]⟩=pure (ps.zip us)):∃ f fd,Fn K mg x st ps f fd:=
 let ⟨f,_,_,_,_,_,_,_,_,_,a,l,c,k⟩:=p; ⟨f,_,yV X G a l c k b⟩
theorem PMf.mf{K:FG}{C:Addr}{m x:Str}{st:Stmt}{ps:List Str}(p:PMf K C m x st)
  (b:∀ (kV doc pm:Value) (an:Option Addr) (cdv ct:Value) (us:List Value),us.length=ps.length->bindArgs (W.fnOf m x (aE st) (aD st) (ag st) .none kV doc pm an cdv ct) ⟨us,[]⟩=pure (ps.zip us)):∃ f fd,Mf K C m x st ps f fd:=
 let ⟨f,_,_,_,_,_,_,_,_,_,a,i,l,c,k⟩:=p; ⟨f,_,tR a i l c k b⟩
abbrev ZZ(P:Program)(w:World)(K:FG)(mg:Str->Option Value)(base:Heap)(F:Addr->FuncData->Prop)(n:Nat)(ps:List Str)(sp:SpD):Prop:=∃ f fd,F f fd/\bH P w K mg base CX0 n f fd ps (dH K sp)
end D
namespace L2
structure lg(P:Program)(w:World)(K:FG)(mg:Str->Option Value)(base:Heap)(CX:CXT)(k:Nat)(f:Addr)(fd:FuncData)(ps:List Str)(sp:Sp):Prop where
 len:∀ vs H Q E,sp vs H Q E->vs.length=ps.length
 run:∀ (A:Around) (outer:List Env) (s:Shared) (H:Hp) (args:Args) (us:List Value) (vs:List V) (Q:VK) (E:XK),cL k A->uQ P w K mg base A outer s H->BindsTo s fd args (ps.zip us)->Vals vs us->sp vs H Q E ->
  codeAny (model P w) A (.call (.ref f) args) (CR CX outer P w H s Q E) s
theorem lg.fn{P:Program}{w:World}{K:FG}{mg:Str->Option Value}{base:Heap}{CX:CXT}{k:Nat}{f:Addr}{fd:FuncData}{ps:List Str}{sp:Sp}(F:lg P w K mg base CX k f fd ps sp) :
  bH P w K mg base CX k f fd ps sp:=⟨F.len,λ A outer s H args us vs Q E hr=>F.run A outer s H args us vs Q E hr.h⟩
abbrev Cx.loud(X:Cx):Cx:={X with calm:=false}
theorem uz{CX:CXT}{P:Program}{w:World}{K:FG}{mg:Str->Option Value}{base:Heap}{N ps:List Str}{qual:Str}{scope:Scope}{f:Addr}{cd:Value}{A:Around}{outer:List Env}{s s1:Shared}{H:Hp}{E:XK}{us:List Value}{vs:List V}
  (S:aJ N ps scope)(e0:uQ P w K mg base A outer s H)(hl:vs.length=ps.length)(r:Vals vs us)
  (x:InCallC s s.heap.objs.size (bindL (envOfC qual scope s.heap.objs.size f cd).kindOf (ps.zip us) λ _=>none) (cellsFrom (s.heap.objs.size+1) scope.names []) (bindC (envOfC qual scope s.heap.objs.size f cd).kindOf (ps.zip us) λ _=>none) s1) :
  Inv (qR CX P w K mg base N qual scope f cd A outer s H E).loud [] (start N vs) H s1:=by
 have I:=o9 (CX:=CX) (E:=E) (A:={A with handled:=none}) S rfl ⟨e0.frames,e0.mod,e0.bs,e0.bsz,e0.ng,e0.frf,e0.hok,e0.bare⟩ hl r x;exact⟨⟨I.ok.mod,I.ok.kind,I.ok.glob,I.ok.blt,I.ok.above,I.ok.inj,I.ok.has,I.ok.cab,(λ z=>nomatch z),I.ok.frames,I.ok.stk,I.ok.exf,I.ok.bs,I.ok.bsz,I.ok.noex,I.ok.exfs,I.ok.ng,I.ok.frf⟩,I.os,I.bare,I.base,I.loc,I.cell,I.free,I.freeC,I.pin,I.hok,I.len⟩
theorem ad5{CX:CXT}{P:Program}{w:World}{K:FG}{mg:Str->Option Value}{base:Heap}{k:Nat}{f:Addr}{name qual:Str}{params:Arguments}{body:List Stmt}{scope:Scope}{dV kV doc pm cdv ct oc:Value}{an od:Option Addr}
  {osl:Array (Option Value)}{N ps:List Str}{sp:Sp}(lk:K.lookup f=some ⟨oc,od,.func (W.fnOf name qual params body scope dV kV doc pm an cdv ct),osl⟩)(hcd:W.codeIn K cdv qual=true)(S:aJ N ps scope)
  (len:∀ vs H Q E,sp vs H Q E->vs.length=ps.length)
  (hbody:∀ (A:Around) (outer:List Env) (s:Shared) (H:Hp) (vs:List V) (Q:VK) (E:XK),cL k (A.deeper (envOfC qual scope s.heap.objs.size f cdv))->sp vs H Q E ->
   ∃ t,PSs (qR CX P w K mg base N qual scope f cdv A outer s H E).loud body t/\t {nx:=λ _ H'=>Q .non H',rt:=Q} (start N vs) H) :
  lg P w K mg base CX (k+1) f (W.fnOf name qual params body scope dV kV doc pm an cdv ct) ps sp:=by
 refine⟨len,λ A outer s H args us vs Q E hr e0 hb r hsp=>?_⟩;have hl:=len _ _ _ _ hsp;have KX:K.In s.heap:=e0.mod.kin.keeps λ b o e=>(e0.bs b o e).1;have lim:s.heap.NoLimit:=e0.mod.nolimit.keeps λ b o e=>(e0.bs b o e).1;have hkind:∀ y∈ps.zip us,scope.names.lookup y.1=some .local\/(scope.names.lookup y.1=some .cell/\((cellsFrom (s.heap.objs.size+1) scope.names []).lookup y.1).isSome=true):=λ⟨n,v⟩ hy=>by
  rcases S.par n (List.of_mem_zip hy).1 with q | q
  ·exact .inl q
  ·exact .inr ⟨q,W.cellsFrom_some _ _ _ (.inl q)⟩
 refine codeAny_call_function hr.depth (KX _ _ lk) rfl S.co S.gen rfl (W.codeRec_of KX hcd) (hb _ _ _ _ ?_);refine wpAny_newFunctionEnv_cells S.kind hkind λ env he s1 x=>?_;subst he;refine⟨lim.keeps x.toInCall.keep,codeAny_func ?_⟩;obtain⟨t,ht,hq⟩:=hbody A outer s H vs Q E (hr.deeper _) hsp;have I:=uz (CX:=CX) (E:=E) S e0 hl r x;refine wpAny_mono (ht [] s1 (start N vs) H _ I hq) (λ fl s' hs=>?_) λ e s' hs=>hs;have fin:∀ {σ':St} {H':Hp} {v:V} {u:Value},Inv (qR CX P w K mg base N qual scope f cdv A outer s H E).loud [] σ' H' s'->RelV v u->Q v H'->CE outer P w H s Q u s':=
  λ {σ' H' v u} J rv q=>⟨v,H',J.os,J.bare,J.base,J.hok,rv,q⟩
 cases fl with
 | ret u =>
  obtain⟨v,σ',H',J,rv,q⟩:=hs;exact fin J rv q
 | next =>
  obtain⟨σ',H',J,q⟩:=hs;exact fin (v:=V.non) (u:=Value.none) J rfl q
 | brk =>
  obtain⟨_,_,_,q⟩:=hs;exact False.elim q
 | cont =>
  obtain⟨_,_,_,q⟩:=hs;exact False.elim q
theorem aaB(F:lg X.prog X.w X.K X.mg X.base CX k f fd ps sp)(hr:cL k X.A)(hb:Binds X.K fd ps ds)(hd:Vals dvs ds)(hx:Passes CX X E)
  (I:Inv X pins σ H s)(r:Vals vs us)(h:sp (vs++dvs) H Q E):wpAny (model X.prog X.w) X.A (call (.ref f) us) (EP X pins σ Q) X.xe s:=by
 have r2:Vals (vs++dvs) (us++ds):=r.append hd;have hl:(us++ds).length=ps.length:=by rw[<- r2.length];exact F.len _ _ _ _ h
 refine wpAny_call (codeAny_mono (F.run X.A X.stack s H ⟨us,[]⟩ (us++ds) (vs++dvs) Q E hr I.aaD (hb s us I.kIn hl) r2 h) λ r s' hq=>?_);cases r with
 | error e=>exact hx pins σ H s e s' I hq
 | ok fl =>
  cases fl with
  | ret u=>exact I.after hq
  | next=>exact False.elim hq
  | brk=>exact False.elim hq
  | cont=>exact False.elim hq
theorem yx(F:lg X.prog X.w X.K X.mg X.base CX k f fd ps sp)(hr:cL k X.A)(hg:Gl X x)(hm:X.mg x=some (.ref f))(hk:W.keepIn X.K (.ref f)=true)(hb:Binds X.K fd ps ds)(hd:Vals dvs ds)(hx:Passes CX X E)
  (ha:PA X (e::es) t)(hdb:ND x:=by decide)(he:starEach (e::es) X.env=(false,eval e X.env)::starEach es X.env:=by rfl)(hpl:(backTo pos (starEach es X.env)).any (·.1)=false:=by rfl) :
  PE X (.Call (.Name x p) (e::es) [] pos) (ac4 sp dvs E t):=by
 intro pins s σ H Q I h;refine wpAny_Call_Name_kw (gL I hg hm ?_ hdb);refine W.callWith_K (h₀:=X.base) I.ok.mod.kin hk (thn (ha pos pins s σ H _ I h) λ us s1 ⟨vs,H1,I1,r,q⟩=>⟨I1.kIn,?_⟩) he hpl;exact aaB F hr hb hd hx I1 r q
section
variable {P:Program}{w:World}{K:FG}{mg:Str->Option Value}{base:Heap}
theorem Fun.okH{x qual:Str}{st:Stmt}{f:Addr}{fd:FuncData}{N ps:List Str}{k:Nat}{sp:Sp}(F:Fun K x qual st f fd)(S:aJ N ps (ag st))(len:∀ vs H Q E,sp vs H Q E->vs.length=ps.length)
  (hbody:∀ (cdv:Value) (A:Around) (outer:List Env) (s:Shared) (H:Hp) (vs:List V) (Q:VK) (E:XK),cL k (A.deeper (envOfC qual (ag st) s.heap.objs.size f cdv))->sp vs H Q E ->
   ∃ t,PSs (qR CX0 P w K mg base N qual (ag st) f cdv A outer s H E).loud.nox (aD st) t/\t {nx:=λ _ H'=>Q .non H',rt:=Q} (start N vs) H):lg P w K mg base CX0 (k+1) f fd ps sp:=by
 obtain⟨oc,od,kV,doc,pm,an,cdv,ct,osl,rfl,lk,hcd⟩:=F.ex;refine ad5 lk hcd S len λ A outer s H vs Q E hr hsp=>?_;obtain⟨t,h,q⟩:=hbody cdv A outer s H vs Q E hr hsp;exact⟨t,h.nox,q⟩
end
end L2
namespace D
open L2
section
variable {P:Program}{w:World}{K:FG}{mg:Str->Option Value}{base:Heap}
theorem abl{x qual:Str}{st:Stmt}{N ps:List Str}{k:Nat}{sp:SpD}{t:TSd}(F:Fun K x qual st f fd)(S:aJ N ps (ag st))(len:∀ ws M Q,sp ws M Q->ws.length=ps.length)
  (hbody:∀ (cdv:Value) (A:Around) (outer:List Env) (s:Shared) (H:Hp) (E:XK),cL k (A.deeper (envOfC qual (ag st) s.heap.objs.size f cdv)) ->
   nA (qR CX0 P w K mg base N qual (ag st) f cdv A outer s H E).loud.nox (aD st) t)
  (read:∀ ws M Q,sp ws M Q->t {nx:=λ _ M'=>Q (.d .none) M',rt:=Q} (bh N ws) M):lg P w K mg base CX0 (k+1) f fd ps (dH K sp):=by
 refine F.okH S (λ vs H Q E h=>?_) (λ cdv A outer s H vs Q E hr h=>?_)
 ·obtain⟨ws,M,Qd,r,_,q,_⟩:=h;rw[<- r.length];exact len _ _ _ q
 ·obtain⟨ws,M,Qd,r,m,q,kk⟩:=h;refine⟨_,hbody cdv A outer s H E hr,bh N ws,M,_,kJ r m,read ws M Qd q,λ σ' H' τ' M' kp A' q'=>?_,λ v H' w' M' kp r' m' q'=>?_,λ σ' H' τ' M' kp A' q'=>q'.elim,λ σ' H' τ' M' kp A' q'=>q'.elim⟩
  ·exact kk _ H' _ M' kp (by simp[aH,aA]) A'.mem q'
  ·exact kk v H' w' M' kp r' m' q'
end
theorem yF(F:lg X.prog X.w X.K X.mg X.base CX0 k f fd ps (dH X.K sp))(hr:cL k X.A)(hg:Gl X x)(hm:X.mg x=some (.ref f))(hk:W.keepIn X.K (.ref f)=true)(hb:Binds X.K fd ps [])
  (ha:PAd X (e::es) t)(hdb:ND x:=by decide)(he:starEach (e::es) X.env=(false,eval e X.env)::starEach es X.env:=by rfl)(hpl:(backTo pos (starEach es X.env)).any (·.1)=false:=by rfl) :
  PD X (.Call (.Name x p) (e::es) [] pos) (cN sp t):=iH (yx (E:=E0) (dvs:=[]) F hr hg hm hk hb .nil wM ha hdb he hpl) λ σ H Q h=>by
 obtain⟨τ,M,Qd,A,h,k⟩:=h;exact⟨τ,M,_,A,h,λ vs H1 ws M1 kp r1 m1 q1=>⟨ws,M1,Qd,by rw[List.append_nil];exact r1,m1,q1,kgo k kp⟩⟩
theorem afW(F:lg X.prog X.w X.K X.mg X.base CX0 k f fd ps (dH X.K sp))(hr:cL k X.A)(hg:Gl X x)(hm:X.mg x=some (.ref f))(hk:W.keepIn X.K (.ref f)=true)(hb:L2.Binds X.K fd ps [])
  (ha:Jd (PAd X (e::es) t))(hdb:ND x:=by decide)(h1:dQ e=false:=by rfl)(h2:(es.all λ e=>!dQ e)=true:=by rfl) :
  Jd (PD X (.Call (.Name x p) (e::es) [] pos) (cN sp t)):=⟨D.yF F hr hg hm hk hb ha.h hdb (bN e es X.env h1) (cf pos X.env es h2)⟩
open XO
def zD(C:Addr)(sp:SpX)(E:XE)(t:TAd)(τ:DS)(M:MH)(Q:QD):Prop:=t τ M λ ws M1=>∀ a,M1 a=none->sp (.m a::ws) (bz M1 a (.ins C [])) (λ v M2=>v=.d .none/\Q (.m a) M2) λ b M'=>E b τ M'
section
variable {X:Cx}{K:FG}
end
theorem wY(L:Lk X E)(Mk':Mk X.K C f)(F:bH X.prog X.w X.K X.mg X.base (CXE X.prog X.w) k f fd ps (eD X.K sp))(hr:dN (k+1) X.A)(hg:Gl X x)(hm:X.mg x=some (.ref C))(hb:L2.Binds X.K fd ps [])
  (ha:Jd (PAd X (e::es) t))(hdb:ND x:=by decide)(h1:dQ e=false:=by rfl)(h2:(es.all λ e=>!dQ e)=true:=by rfl) :
  Jd (PD X (.Call (.Name x p) (e::es) [] pos) (zD C sp E t)):=⟨have ha:=ha.h;by
 intro pins s σ H Q I h;obtain⟨τ,M,Qd,A,h,k⟩:=h;refine wpAny_Call_Name_kw (gL I hg hm ?_ hdb);refine W.callWith_K (h₀:=X.base) I.ok.mod.kin Mk'.kp (thn (ha pos pins s σ H (λ vs H1=>∃ ws M1,Kp H H1/\bj X.K H1 ws vs/\cz X.K H1 M1/\∀ a,M1 a=none->sp (.m a::ws) (bz M1 a (.ins C [])) (λ v M2=>v=.d .none/\Qd (.m a) M2) λ b M'=>E b τ M') I
  ⟨τ,M,_,A,h,λ vs H1 ws M1 kp r m q=>⟨ws,M1,kp,r,m,q⟩⟩) λ us s1 ⟨vs,H1,I1,r,ws,M1,kp,rw,m1,q⟩=>⟨I1.kIn,?_⟩) (bN e es X.env h1) (cf pos X.env es h2)
 refine wg (E:=λ v _ H'=>∃ a M',v=.ref a/\Kp H1 H'/\cz X.K H' M'/\E a τ M') Mk' F hr hb I1 r (λ a dx ha hd hn=>?_) λ H2 s2 u s' I2 hx=>?_
 ·obtain⟨kp2,m2⟩:=zo (X:=X) (C:=C) m1 ha hd hn;exact⟨.m a::ws,_,_,_,.cons rfl (rw.keep kp2),m2,q a (m1.free ha),λ v H' w M' kp3 r3 m3 hq96=>by obtain⟨e3,q3⟩:=hq96;subst e3;simp only[aH,aA] at r3;exact⟨r3,k _ H' (.m a) M' ((kp.trans kp2).trans kp3) rfl m3 q3⟩,λ b H' M' kp' m' e'=>⟨b,M',rfl,kp2.trans kp',m',e'⟩⟩
 ·obtain⟨b,H',rfl,os,br,un,hok,air,q⟩:=hx;obtain⟨b',M',e,kp',m',q'⟩:=q;cases e;exact L pins σ H' s' b τ M' (I2.abH os un hok br (λ b z=>absurd z (by simp))) air (A.go (kp.trans kp') m') q'⟩
end D
namespace PySem.AutoSeq1
open PySem.MeetsSeq PySem.MeetsSeq2 PySem.MeetsSeq3 PyProof.Rows
end PySem.AutoSeq1
namespace D
open L2
def KB1(K:FG)(fd:FuncData)(ps:List Str)(kn:Str):Prop:=∀ (s:Shared) (a u:Value),K.In s.heap->BindsTo s fd ⟨[a],[(kn,u)]⟩ (ps.zip [a,u])
structure MiF(K:FG)(C:Addr)(qual:Str)(st:Stmt)(ps:List Str)(kn:Str)(f:Addr)(fd:FuncData):Prop where
 e:MiE K C qual st ps f fd
 bk:KB1 K fd ps kn
theorem MiF.fn{K:FG}{C:Addr}{qual:Str}{st:Stmt}{ps:List Str}{kn:Str}{f:Addr}{fd:FuncData}(h:MiF K C qual st ps kn f fd):agG K "__init__" qual st f fd:=h.e.fn
section
variable {P:Program}{w:World}{K:FG}{mg:Str->Option Value}{base:Heap}
end
end D
namespace PySem.AutoSeq1
open PySem.MeetsSeq PySem.MeetsSeq2 PySem.MeetsSeq3 PyProof.Rows
end PySem.AutoSeq1
namespace D
open L2
section
variable {X:Cx}{K:FG}
end
end D
namespace XO
open PySem.W
section
variable {prog:Program}{w:World}{A:Around}{E:VP}{s:Shared}{K:Frag}{env:PySem.Env}{e h0 C0:Addr}{dct0:Option Addr}{vs0:Array Value}
end
end XO
namespace L2
open XO
theorem cL.make{k:Nat}{A:Around}(r:cL (k+1) A)(C:Addr)(us:List Value)(kw:List (Str×Value)):cL k (A.under (.builtin "type.__call__" ⟨.ref C::us,kw⟩)):=
 ⟨(by first | exact r.gd | (simpa [Around.under,Code.isGuard,Code.frames,Code.isFrame,guardIds] using r.gd)),by have:=r.dp;rw[nj];omega,by have:=r.un;rw[ny];omega⟩
section
variable {P:Program}{w:World}{K:FG}{mg:Str->Option Value}{base:Heap}{C f:Addr}{fd:FuncData}{qual:Str}{st:Stmt}
end
end L2
namespace D
open L2 XO
section
variable {X:Cx}{pos p cpos:Pos}{k:Nat}{f C:Addr}{fd:FuncData}{ps fs:List Str}{x:Str}{e:Expr}{es:List Expr}{t:TAd}{E:XE}
variable {body suite:List Stmt}{b0:Stmt}{hs:List ExceptHandler}{th rest:Addr->TSd}{np hpos:Pos}
end
section
variable {X:Cx}{pos p cpos:Pos}{k:Nat}{f C:Addr}{fd:FuncData}{ps fs:List Str}{x:Str}{e:Expr}{es:List Expr}{t:TAd}{E:XE}
variable {suite:List Stmt}{b0:Stmt}{hs:List ExceptHandler}{rest:Addr->TSd}{np hpos:Pos}
end
section
variable {X:Cx}{K:FG}
variable {o e:Expr}{td te:TD}{apos cpos:Pos}
end
section
variable {X:Cx}{o i:Expr}{td ti:TD}{tpos pos:Pos}
end
end D
namespace L2
section
variable {X:Cx}{CX:CXT}{k:Nat}{f C:Addr}{fd:FuncData}{ps:List Str}{sp:Sp}{E:XK}{pins:PN}{σ:St}{H:Hp}{s:Shared}{Q:VK}{us:List Value}{vs:List V}{dvs:List V}{ds:List Value}
theorem yu(F:bH X.prog X.w X.K X.mg X.base CX k f fd ps sp)(hr:dN k X.A)(hb:Binds X.K fd ps ds)(hd:Vals dvs ds)(I:Inv X pins σ H s)(r:Vals vs us)(h:sp (vs++dvs) H Q E)(hx:∀ e s',CX X.stack H s E e s'->X.xe e s') :
  wpAny (model X.prog X.w) X.A (call (.ref f) us) (EP X pins σ Q) X.xe s:=by
 have r2:Vals (vs++dvs) (us++ds):=r.append hd;have hl:(us++ds).length=ps.length:=by rw[<- r2.length];exact F.len _ _ _ _ h
 have b:=hb s us I.kIn hl;refine wpAny_call (codeAny_mono (F.run X.A X.stack s H ⟨us,[]⟩ (us++ds) (vs++dvs) Q E hr I.aaD b r2 h) λ r s' hq=>?_);cases r with
 | error e=>exact hx e s' hq
 | ok fl=>cases fl<;>first | exact I.after hq | exact False.elim hq
end
end L2
namespace D
open L2 XO
def afG(v:Value)(C:Addr):Bool:=match v with
 | .ref c=>decide (c=C)
 | _=>false
def ky(K:FG):List DictEntry->List (Str×Addr)->Bool
 | [],[]=>true
 | e::es,(k,d)::kvs=>m7 e.key (.str k)&&afG e.val d&&ky K es kvs
 | _,_=>false
def afu(K:FG)(a:Addr)(kvs:List (Str×Addr)):Bool:=match K.lookup a with
 | some o=>(match o.cls with
  | .type n=>decide (n = "dict")
  | _=>false)&&o.dict.isNone&&decide (o.slots.size=0)&&(match o.data with
  | .dict es _=>ky K es.toList kvs
  | _=>false)
 | none=>false
structure pz(w:World)(K:FG)(a:Addr)(kvs:List (Str×Addr)):Prop where
 is:afu K a kvs=true
 hs:hashesOf K a=some (kvs.map λ p=>PyData.keyHash w.params p.1)
 nd:(kvs.map (·.1)).Nodup
 ns:(a==sysModules)=false
theorem pF{P:Program}{w:World}{K:FG}:∀ {es:List DictEntry} {kvs:List (Str×Addr)},ky K es kvs=true->es.map (·.hash)=kvs.map (λ p=>PyData.keyHash w.params p.1) ->
  ∃ (L:List (Key×V)) (vs:List (Key×Value)),KV L vs/\Pairs (bb P w) es vs/\(∀ e∈es,∃ k,(bb P w).is k e.key=true/\e.hash=(bb P w).hash k)/\vs.map (·.1)=kvs.map (λ p=>(.inr p.1:Key))/\Paired (λ(p:Str×Addr) (q:Key×V)=>q.1=.inr p.1/\q.2=.ref p.2) kvs L
 | [],[],_,_=>⟨[],[],.nil,.nil,(λ e he=>by cases he),rfl,.nil⟩
 | e::es,(k,d)::kvs,h,hh=>by
  simp only[ky,Bool.and_eq_true] at h;obtain⟨⟨h1,h2⟩,h3⟩:=h;rw[List.map_cons,List.map_cons] at hh;obtain⟨hh1,hh2⟩:=List.cons.inj hh;obtain⟨L,vs,i1,i2,i3,i4,i5⟩:=pF (P:=P) (w:=w) h3 hh2;obtain⟨r1,r2⟩:RelV (.ref d) e.val/\True:=by
   cases q:e.val with
   | ref c =>
    rw[q] at h2;have ec:c=d:=of_decide_eq_true h2;subst ec;exact⟨rfl,True.intro⟩
   | _=>rw[q] at h2;cases h2
  have hk:mr (.inr k) e.key=true:=by
   cases q:e.key with
   | str y t =>
    rw[q] at h1;have ey:y=k:=of_decide_eq_true h1;subst ey;show Value.isStrOf y (.str y t)=true;simp[Value.isStrOf]
   | _=>rw[q] at h1;cases h1
  refine⟨(.inr k,.ref d)::L,(.inr k,e.val)::vs,.cons ⟨rfl,r1⟩ i1,.cons hk rfl i2,λ e' he'=>?_,by rw[List.map_cons,i4];rfl,.cons ⟨rfl,rfl⟩ i5⟩;rcases List.mem_cons.mp he' with rfl | he'
  ·exact⟨.inr k,hk,hh1⟩
  ·exact i3 e' he'
 | [],_::_,h,_=>by cases h
 | _::_,[],h,_=>by cases h
section
variable {X:Cx}{pins:PN}{σ:St}{H:Hp}{s:Shared}{a:Addr}{kvs:List (Str×Addr)}
theorem pz.dd(D:pz X.w X.K a kvs)(I:Inv X pins σ H s):∃ (L:List (Key×V)) (vs:List (Key×Value)),KV L vs/\s.heap.DictOf (bb X.prog X.w) a vs/\Paired (λ(p:Str×Addr) (q:Key×V)=>q.1=.inr p.1/\q.2=.ref p.2) kvs L:=by
 have h:=D.is;have hs:=D.hs;unfold afu at h;unfold hashesOf at hs;cases e:X.K.lookup a with
 | none=>rw[e] at h;cases h
 | some o =>
  rw[e] at h hs;simp only[Bool.and_eq_true] at h hs;obtain⟨⟨⟨h1,h2⟩,h3⟩,h4⟩:=h;have hc:o.cls=.type "dict":= by
   cases q:o.cls with
   | type n=>rw[q] at h1;rw[of_decide_eq_true h1]
   | _=>rw[q] at h1;cases h1
  have hd:o.dict=none:=by simpa using h2
  have hsl:o.slots = #[]:=Array.eq_empty_of_size_eq_zero (of_decide_eq_true h3);cases q:o.data with
  | dict es n =>
   rw[q] at h4 hs;obtain⟨L,vs,i1,i2,i3,i4,i5⟩:=pF (P:=X.prog) (w:=X.w) h4 (Option.some.inj hs);refine⟨L,vs,i1,⟨o,es,n,I.kIn a o e,⟨hc,hd,hsl⟩,q,λ e' he'=>i3 e' (by simpa using he'),i2,?_⟩,i5⟩;rw[i4,show(kvs.map λ p=>(.inr p.1:Key))=(kvs.map (·.1)).map Sum.inr from by simp];exact List.Pairwise.map Sum.inr (λ a b h z=>h (Sum.inr.inj z)) D.nd
  | _=>rw[q] at h4;cases h4
end
def pO(kvs:List (Str×Addr))(z:Str):Option Addr:=(kvs.find? λ p=>decide (p.1=z)).map (·.2)
theorem qC(z:Str):∀ {kvs:List (Str×Addr)} {L:List (Key×V)},Paired (λ(p:Str×Addr) (q:Key×V)=>q.1=.inr p.1/\q.2=.ref p.2) kvs L->OR (λ d v=>v=.ref d) (pO kvs z) (kg L (.inr z))
 | _,_,.nil=>True.intro
 | _,_,.cons (a:=p) (b:=q) (l₁:=t1) h t=>by
  obtain⟨h1,h2⟩:=h
  by_cases e:p.1=z
  ·rw[hG (h1.trans (by rw[e])),show pO (p::t1) z=some p.2 by simp[pO,List.find?_cons,e]];exact h2
  ·rw[hB (λ y=>e (Sum.inr.inj (h1.symm.trans y))),show pO (p::t1) z=pO t1 z by simp[pO,List.find?_cons,e]];exact qC z t
section
variable {X:Cx}{e:Expr}{a:Addr}{x:Str}{kvs:List (Str×Addr)}{pos p apos cpos:Pos}{ty:TE}{te:TD}
def afC(kvs:List (Str×Addr))(ty:TE):TE:=λ σ H Q=>ty σ H λ y H1=>∃ z d,y=.str z/\pO kvs z=some d/\Q (.ref d) H1
theorem aca(hg:Gl X x)(hm:X.mg x=some (.ref a))(kd:pz X.w X.K a kvs)(he:PE X e ty)(hs:y0 e)(hd:ND x:=by decide):PE X (.Subscript (.Name x p) e pos) (afC kvs ty):=by intro pins s σ H Q I h;refine sg PySem.F.slot_dict_getitem.lookup hs (thn (iB (v:=.ref a) hg hm rfl hd pins s σ H (λ v H'=>v=.ref a/\H'=H) I ⟨rfl,rfl⟩) λ u s1 hq97=>?_);obtain⟨x1,H1,I1,rx,ex,eH⟩:=hq97;subst ex eH;obtain rfl:u=Value.ref a:=rx;refine thn (he pins s1 σ H1 _ I1 h) λ iv s2 hq98=>?_;obtain⟨y,H2,I2,ry,z,d,ey,l,q2⟩:=hq98;subst ey;obtain⟨L,vs,rel,dd,pr⟩:=kd.dd I2;have lv:=qC z pr;rw[l] at lv;obtain⟨b,eb,rb⟩:=OR.some_of lv;obtain⟨w',hw,rw'⟩:=mJ.some_of (v:=b) (o:=valueAt vs (.inr z)) (by rw[<- eb];exact rel.val (.inr z));exact⟨dd.typeIs,wpAny_getItem_of (oM (k:=.inr z) ry) dd.mapOf hw ⟨b,H2,I2.tok _,rw',by rw[rb];exact q2⟩⟩
def adl(kvs:List (Str×Addr))(te:TD)(τ:DS)(M:MH)(Q:QD):Prop:=te τ M λ w M1=>∃ z d,w=.d (.str z)/\pO kvs z=some d/\Q (.m d) M1
end
section
variable {X:Cx}{pos p apos:Pos}{k:Nat}{f C:Addr}{fd:FuncData}{ps:List Str}{sp:SpX}{x m dz:Str}{e o:Expr}{es:List Expr}{t:TAd}{td:TD}{E:XE}
def oh(C:Addr)(m:Str)(sp:SpX)(dz:Str)(E:XE)(td:TD)(t:TAd)(τ:DS)(M:MH)(Q:QD):Prop:=td τ M λ w M1=>∃ a fs,w=.m a/\M1 a=some (.ins C fs)/\fs.lookup m=none/\t τ M1 λ ws M2=>sp (w::ws++[.d (.str dz)]) M2 Q λ a M'=>E a τ M'
theorem tX{pl:Sem Bool}(L:Lk X E)(he:PD X o td)(c:Cls X.K C)(hm:Meth X.K C m f)(F:bH X.prog X.w X.K X.mg X.base (CXE X.prog X.w) k f fd ps (eD X.K sp))(hr:dN k X.A)(hb:∃ tk,Binds X.K fd ps [.str dz tk])(ha:PAd X (e::es) t)
  (ht:eval (.Call (.Attribute o m apos) (e::es) [] pos) X.env=(do
   let ov <- eval o X.env
   standAt apos.atName
   let (f,first) <- holding [ov] (getMethod ov m pl)
   callWith pos f first (backTo pos (starEach (e::es) X.env)) (backToKw pos (keywordEach [] X.env))):=by rfl)
  (h1:dQ e=false:=by rfl)(h2:(es.all λ e=>!dQ e)=true:=by rfl):PD X (.Call (.Attribute o m apos) (e::es) [] pos) (oh C m sp dz E td t):=by
 intro pins s σ H Q I h;obtain⟨τ,M,Qd,A,h,k⟩:=h;refine W.methodCall_KW (pl:=pl) (thn (he pins s σ H (λ x H1=>∃ w M1,Kp H H1/\aH X.K H1 w x/\cz X.K H1 M1/\∃ a fs,w=.m a/\M1 a=some (.ins C fs)/\fs.lookup m=none/\t τ M1 λ ws M2=>sp (w::ws++[.d (.str dz)]) M2 Qd λ a M'=>E a τ M') I ⟨τ,M,_,A,h,λ v H1 w M1 kp r m q=>⟨w,M1,kp,r,m,q⟩⟩)
  λ u s1 ⟨y,H1,I1,ry,w,M1,kp1,r1,m1,a,fs,ew,hma,hl,q1⟩=>?_) ht
 subst ew;obtain⟨dx,l,e1,pr⟩:=m1 _ _ hma;cases (show y=.ref a from r1);obtain rfl:u=Value.ref a:=ry;have g:=eC m pr;rw[hl] at g;refine fH I1 e1 c hm (OR.none_of g) ?_;refine W.callWith_K (first:=[.ref a]) (h₀:=X.base) I.ok.mod.kin hm.kp (thn (ha pos pins s1 σ H1 (λ vs H2=>∃ ws M2,Kp H1 H2/\bj X.K H2 ws vs/\cz X.K H2 M2/\sp (.m a::ws++[.d (.str dz)]) M2 Qd λ a M'=>E a τ M') I1 ⟨τ,M1,_,A.go kp1 m1,q1,λ vs H2 ws M2 kp r m q=>⟨ws,M2,kp,r,m,q⟩⟩)
  λ us s2 ⟨vs,H2,I2,r,ws,M2,kp2,rw,m2,q⟩=>⟨I2.kIn,?_⟩) (bN e es X.env h1) (cf pos X.env es h2)
 obtain⟨tk,hb⟩:=hb;exact yu (us:=.ref a::us) (vs:=.ref a::vs) (dvs:=[.str dz]) (ds:=[.str dz tk]) (E:=λ v _ H'=>∃ a M',v=.ref a/\Kp H2 H'/\cz X.K H' M'/\E a τ M') F hr hb (.cons ⟨tk,rfl⟩ .nil) I2 (.cons rfl r) ⟨.m a::ws++[.d (.str dz)],M2,Qd,_,bj.append (.cons rfl rw) (.cons (by simp[aH,aA]) .nil),m2,q,kgo (kgo k kp1) kp2,λ a H' M' kp' m' e'=>⟨a,M',rfl,kp',m',e'⟩⟩ λ u s' hx=>nQ L I2 ((A.go kp1 m1).go kp2 m2) (λ v H' z=>z) hx
def agg(X:Cx)(C:Addr)(sp:SpD):Prop:=∃ k fd ps,bH X.prog X.w X.K X.mg X.base CX0 k C fd ps (dH X.K sp)/\dN k X.A/\W.keepIn X.K (.ref C)=true/\L2.Binds X.K fd ps []
theorem yv{y:Str}{sp:SpD}(hC:X.mg y=some (.ref C))(hm:X.mg y=some (.ref f))(F:bH X.prog X.w X.K X.mg X.base CX0 k f fd ps (dH X.K sp))(hr:dN k X.A)(hk:W.keepIn X.K (.ref f)=true)(hb:L2.Binds X.K fd ps []):agg X C sp:=by rw[hm] at hC;cases hC;exact⟨k,fd,ps,F,hr,hk,hb⟩
inductive kX(X:Cx):List (Addr×SpD)->Prop
 | nil:kX X []
 | cons {C:Addr} {sp:SpD} {l:List (Addr×SpD)} (h:agg X C sp) (t:kX X l):kX X ((C,sp)::l)
theorem kX.of{l:List (Addr×SpD)}(h:kX X l):∀ C sp,(C,sp)∈l->agg X C sp:=by
 induction h with
 | nil=>intro C sp z;cases z
 | cons h t ih =>
  intro C sp z;rcases List.mem_cons.mp z with z | z
  ·cases z;exact h
  ·exact ih C sp z
def vW(l:List (Addr×SpD))(td:TD)(t:TAd)(τ:DS)(M:MH)(Q:QD):Prop:=td τ M λ w M1=>∃ C sp,w=.m C/\(C,sp)∈l/\t τ M1 λ ws M2=>sp ws M2 Q
end
structure MfK(K:FG)(C:Addr)(x qual:Str)(st:Stmt)(ps:List Str)(dz:Str)(f:Addr)(fd:FuncData):Prop where
 fn:Fun K x qual st f fd
 me:Meth K C x f
 bd:∃ tk,L2.Binds K fd ps [.str dz tk]
theorem aao{s:Shared}{K:FG}{x qual:Str}{body:List Stmt}{sc:Scope}{doc pm cdv ct:Value}{an:Option Addr}{KD:Addr}{a1 a2 a3:Arg}{kd:List (Option Expr)}{v:Value}{u1 u2:Value}
   (h12:(a2.arg==a1.arg)=false)(h13:(a3.arg==a1.arg)=false)(h23:(a3.arg==a2.arg)=false)
   (hK:K.In s.heap)(dk:W.nsIn K KD a3.arg=some (some v)) :
   BindsTo s (W.fnOf x qual ⟨[],[a1,a2],none,[a3],kd,none,[]⟩ body sc .none (.ref KD) doc pm an cdv ct) ⟨[u1,u2],[]⟩ [(a1.arg,u1),(a2.arg,u2),(a3.arg,v)]:=by
 intro M A E Q q;have e1:List.lookup a3.arg [(a1.arg,u1),(a2.arg,u2)]=none:=by simp[List.lookup,h13,h23]
 have e2:List.lookup a1.arg [(a1.arg,u1),(a2.arg,u2)]=some u1:=by simp[List.lookup]
 have e3:List.lookup a2.arg [(a1.arg,u1),(a2.arg,u2)]=some u2:=by simp[List.lookup,h12]
 unfold bindArgs;refine wpAny_bind ?_;simp only[List.map_cons,List.map_nil,List.nil_append];rw[List.forIn_nil];refine wpAny_pure ?_;refine wpAny_bind ?_;refine wpAny_pure ?_;simp only[List.zip_cons_cons,List.zip_nil_right,List.length_cons,List.length_nil,List.cons_append,List.nil_append];simp (config:={decide:=true}) only[Option.isNone,Bool.and_true,Bool.and_false,if_false,ite_false];have t1:(List.take (0+1+1-(List.drop ((((none:Option (Array Value)).getD #[]).toList.length)-(0+1+1)) ((none:Option (Array Value)).getD #[]).toList).length) [a1.arg,a2.arg])=[a1.arg,a2.arg]:=rfl;have t2:(List.drop (0+1+1-(List.drop ((((none:Option (Array Value)).getD #[]).toList.length)-(0+1+1)) ((none:Option (Array Value)).getD #[]).toList).length) [a1.arg,a2.arg])=[]:=rfl;rw[t1,t2]
 split
 ·rename_i h
  simp[List.filter,e2,e3] at h
 simp only[List.zip_nil_left,List.forIn_nil];refine wpAny_bind (wpAny_pure ?_);simp only[List.forIn_cons,List.forIn_nil,e1];refine wpAny_bind ?_;refine wpAny_bind ?_;refine wpAny_bind ((W.looks_nsIn (M:=M) hK dk).at ?_);refine wpAny_pure (wpAny_pure ?_);show wpAny M A (pure (List.filterMap (λ n=>Option.map (λ x=>(n,x)) (List.lookup n [(a1.arg,u1),(a2.arg,u2),(a3.arg,v)])) [a1.arg,a2.arg,a3.arg])) Q E s;have ef:List.filterMap (λ n=>Option.map (λ x=>(n,x)) (List.lookup n [(a1.arg,u1),(a2.arg,u2),(a3.arg,v)])) [a1.arg,a2.arg,a3.arg]=[(a1.arg,u1),(a2.arg,u2),(a3.arg,v)]:=by simp[List.filterMap,List.lookup,h12,h13,h23]
 rw[ef];exact wpAny_pure q
theorem acJ{K:FG}{C:Addr}{x qual dz:Str}{st:Stmt}{a1 a2 a3:Arg}{kd:List (Option Expr)}{f KD:Addr}{oc:Value}{od an:Option Addr}{osl:Array (Option Value)}{doc pm cdv ct:Value}{tk:Tok}(hp:aE st=⟨[],[a1,a2],none,[a3],kd,none,[]⟩)(h12:(a2.arg==a1.arg)=false)(h13:(a3.arg==a1.arg)=false)(h23:(a3.arg==a2.arg)=false)(a:W.findIn K (.ref C) x=some (some (.ref f)))(i:W.isFn K (.ref f)=true)
  (l:K.lookup f=some ⟨oc,od,.func (W.fnOf x qual (aE st) (aD st) (ag st) .none (.ref KD) doc pm an cdv ct),osl⟩)(c:W.codeIn K cdv qual=true)(k:W.keepIn K (.ref f)=true)(dk:W.nsIn K KD a3.arg=some (some (.str dz tk))) :
  MfK K C x qual st [a1.arg,a2.arg,a3.arg] dz f (W.fnOf x qual (aE st) (aD st) (ag st) .none (.ref KD) doc pm an cdv ct):=
 ⟨qp (st:=st) l c k,⟨a,i,k⟩,tk,λ s us hK hl=>by
  rw[hp];have hl':us.length=2:=by simpa using hl
  obtain⟨u1,u2,rfl⟩:∃ u1 u2,us=[u1,u2]:=by
   match us,hl' with
   | [u1,u2],_=>exact⟨u1,u2,rfl⟩
  exact aao h12 h13 h23 hK dk⟩
section
variable {X:Cx}{e o i:Expr}{a:Addr}{x m dz:Str}{kvs:List (Str×Addr)}{pos p apos cpos tpos:Pos}{te td ti:TD}{k:Nat}{f C:Addr}{fd:FuncData}{ps:List Str}{sp:SpX}{es:List Expr}{t:TAd}{E:XE}
theorem yK(hg:Gl X x)(hm:X.mg x=some (.ref a))(kd:pz X.w X.K a kvs)(he:Jd (PD X e te))(hs:y0 e:=by exact λ _ _=>rfl)(hd:ND x:=by decide):Jd (PD X (.Subscript (.Name x p) e pos) (adl kvs te)):=⟨have he:=he.h;
 iH (aca hg hm kd he hs hd) λ σ H Q h=>by obtain⟨τ,M,Qd,A,h,k⟩:=h;refine⟨τ,M,_,A,h,λ y H1 w M1 kp r m1 hq99=>?_⟩;obtain⟨z,d,ew,l,q⟩:=hq99;subst ew;simp only[aH,aA] at r;exact⟨z,d,r,l,k _ H1 (.m d) M1 kp rfl m1 q⟩⟩
theorem tT{l:List (Addr×SpD)}(hl:kX X l)(hv:Jd (PD X (.Name x p) td))(ha:Jd (PAd X (e::es) t))(h1:dQ e=false:=by rfl)(h2:(es.all λ e=>!dQ e)=true:=by rfl):Jd (PD X (.Call (.Name x p) (e::es) [] pos) (vW l td t)):=⟨have hv:=hv.h;have ha:=ha.h;by
 intro pins s σ H Q I h;obtain⟨τ,M,Qd,A,h,k⟩:=h;refine wpAny_Call_Name_kw (thn (hv pins s σ H (λ v H1=>∃ C sp M1,v=.ref C/\(C,sp)∈l/\Kp H H1/\cz X.K H1 M1/\t τ M1 λ ws M2=>sp ws M2 Qd) I ⟨τ,M,_,A,h,λ v H1 w M1 kp r m ⟨C,sp,ew,hm,q⟩=>by subst ew;exact⟨C,sp,M1,r,hm,kp,m,q⟩⟩) λ u s0 hq100=>?_);obtain⟨v,H0,I0,rv,C,sp,M0,ev,hm,kp0,m0,q0⟩:=hq100;subst ev;obtain rfl:u=Value.ref C:=rv;obtain⟨kk,fd,ps,F,hr,hk,hb⟩:=hl.of C sp hm;refine W.callWith_K (h₀:=X.base) I.ok.mod.kin hk (thn (ha pos pins s0 σ H0 (λ vs H1=>∃ ws M1,Kp H0 H1/\bj X.K H1 ws vs/\cz X.K H1 M1/\sp ws M1 Qd) I0 ⟨τ,M0,_,A.go kp0 m0,q0,λ vs H1 ws M1 kp r m q=>⟨ws,M1,kp,r,m,q⟩⟩) λ us s1 ⟨vs,H1,I1,r,ws,M1,kp,rw,m1,q⟩=>⟨I1.kIn,?_⟩) (bN e es X.env h1) (cf pos X.env es h2);exact sY (dvs:=[]) (ds:=[]) (E:=E0) F hr hb .nil wM I1 r ⟨ws,M1,Qd,by rw[List.append_nil];exact rw,m1,q,kgo (kgo k kp0) kp⟩⟩
theorem aeM{pl:Sem Bool}(L:Lk X E)(he:Jd (PD X o td))(c:Cls X.K C)(hm:Meth X.K C m f)(F:bH X.prog X.w X.K X.mg X.base (CXE X.prog X.w) k f fd ps (eD X.K sp))(hr:dN k X.A)(hb:∃ tk,L2.Binds X.K fd ps [.str dz tk])(ha:Jd (PAd X (e::es) t))
  (ht:eval (.Call (.Attribute o m apos) (e::es) [] pos) X.env=(do
   let ov <- eval o X.env
   standAt apos.atName
   let (f,first) <- holding [ov] (getMethod ov m pl)
   callWith pos f first (backTo pos (starEach (e::es) X.env)) (backToKw pos (keywordEach [] X.env))):=by rfl)
  (h1:dQ e=false:=by rfl)(h2:(es.all λ e=>!dQ e)=true:=by rfl):Jd (PD X (.Call (.Attribute o m apos) (e::es) [] pos) (oh C m sp dz E td t)):=⟨D.tX (pl:=pl) L he.h c hm F hr hb ha.h ht h1 h2⟩
end
end D
namespace L2
section
variable {X:Cx}{CX:CXT}{k:Nat}{f C:Addr}{fd:FuncData}{ps:List Str}{sp:Sp}{E:XK}{pins:PN}{σ:St}{H:Hp}{s:Shared}{Q:VK}{us:List Value}{vs:List V}{v:V}{u:Value}{kn:Str}
theorem zv(F:bH X.prog X.w X.K X.mg X.base CX k f fd ps sp)(hr:dN k X.A)(hb:us.length+1=ps.length->BindsTo s fd ⟨us,[(kn,u)]⟩ (ps.zip (us++[u])))(I:Inv X pins σ H s)(r:Vals vs us)(rv:RelV v u)(h:sp (vs++[v]) H Q E)(hx:∀ e s',CX X.stack H s E e s'->X.xe e s') :
  wpAny (model X.prog X.w) X.A (call (.ref f) us [(kn,u)]) (EP X pins σ Q) X.xe s:=by
 have r2:Vals (vs++[v]) (us++[u]):=r.append (.cons rv .nil);have hl:(us++[u]).length=ps.length:=by rw[<- r2.length];exact F.len _ _ _ _ h
 refine wpAny_call (codeAny_mono (F.run X.A X.stack s H ⟨us,[(kn,u)]⟩ (us++[u]) (vs++[v]) Q E hr I.aaD (hb (by simpa using hl)) r2 h) λ r s' hq=>?_);cases r with
 | error e=>exact hx e s' hq
 | ok fl=>cases fl<;>first | exact I.after hq | exact False.elim hq
end
end L2
namespace D
open L2 XO
theorem yb{s:Shared}{x qual:Str}{body:List Stmt}{sc:Scope}{kV doc pm cdv ct:Value}{an:Option Addr}{a1 a2 a3:Arg}{kd:List (Option Expr)}{v:Value}{u1 u2:Value}
   (h12:(a2.arg==a1.arg)=false)(h13:(a3.arg==a1.arg)=false)(h23:(a3.arg==a2.arg)=false) :
   BindsTo s (W.fnOf x qual ⟨[],[a1,a2],none,[a3],kd,none,[]⟩ body sc .none kV doc pm an cdv ct) ⟨[u1,u2],[(a3.arg,v)]⟩ [(a1.arg,u1),(a2.arg,u2),(a3.arg,v)]:=by
 intro M A E Q q;have e1:List.lookup a3.arg [(a1.arg,u1),(a2.arg,u2)]=none:=by simp[List.lookup,h13,h23]
 have e0:List.lookup a3.arg [(a1.arg,u1),(a2.arg,u2),(a3.arg,v)]=some v:=by simp[List.lookup,h13,h23]
 have e2:List.lookup a1.arg [(a1.arg,u1),(a2.arg,u2),(a3.arg,v)]=some u1:=by simp[List.lookup]
 have e3:List.lookup a2.arg [(a1.arg,u1),(a2.arg,u2),(a3.arg,v)]=some u2:=by simp[List.lookup,h12]
 have c3:([a1.arg,a2.arg].contains a3.arg || [a3.arg].contains a3.arg)=true:=by simp
 unfold bindArgs;refine wpAny_bind ?_;simp only[List.map_cons,List.map_nil,List.nil_append,List.zip_cons_cons,List.zip_nil_right];rw[List.forIn_cons];simp only[c3,e1,if_true,List.forIn_nil];refine wpAny_bind ?_;simp (config:={decide:=true}) only[Option.isSome,if_false,ite_false];refine wpAny_pure (wpAny_pure ?_);refine wpAny_bind ?_;refine wpAny_pure ?_;simp only[List.zip_cons_cons,List.zip_nil_right,List.length_cons,List.length_nil,List.cons_append,List.nil_append];simp (config:={decide:=true}) only[Option.isNone,Bool.and_true,Bool.and_false,if_false,ite_false];have t1:(List.take (0+1+1-(List.drop ((((none:Option (Array Value)).getD #[]).toList.length)-(0+1+1)) ((none:Option (Array Value)).getD #[]).toList).length) [a1.arg,a2.arg])=[a1.arg,a2.arg]:=rfl;have t2:(List.drop (0+1+1-(List.drop ((((none:Option (Array Value)).getD #[]).toList.length)-(0+1+1)) ((none:Option (Array Value)).getD #[]).toList).length) [a1.arg,a2.arg])=[]:=rfl;rw[t1,t2]
 split
 ·rename_i h
  simp[List.filter,e2,e3] at h
 simp only[List.zip_nil_left,List.forIn_nil];refine wpAny_bind (wpAny_pure ?_);simp only[List.forIn_cons,List.forIn_nil,e0];rw[if_neg Bool.false_ne_true];refine wpAny_bind (wpAny_bind (wpAny_pure (wpAny_pure ?_)));show wpAny M A (pure (List.filterMap (λ n=>Option.map (λ x=>(n,x)) (List.lookup n [(a1.arg,u1),(a2.arg,u2),(a3.arg,v)])) [a1.arg,a2.arg,a3.arg])) Q E s;have ef:List.filterMap (λ n=>Option.map (λ x=>(n,x)) (List.lookup n [(a1.arg,u1),(a2.arg,u2),(a3.arg,v)])) [a1.arg,a2.arg,a3.arg]=[(a1.arg,u1),(a2.arg,u2),(a3.arg,v)]:=by simp[List.filterMap,List.lookup,h12,h13,h23]
 rw[ef];exact wpAny_pure q
def KB2(fd:FuncData)(ps:List Str)(kn:Str):Prop:=∀ (s:Shared) (us:List Value) (u:Value),us.length+1=ps.length->BindsTo s fd ⟨us,[(kn,u)]⟩ (ps.zip (us++[u]))
theorem adH{x qual:Str}{st:Stmt}{a1 a2 a3:Arg}{kd:List (Option Expr)}{kV doc pm cdv ct:Value}{an:Option Addr}(hp:aE st=⟨[],[a1,a2],none,[a3],kd,none,[]⟩)(h12:(a2.arg==a1.arg)=false)(h13:(a3.arg==a1.arg)=false)(h23:(a3.arg==a2.arg)=false) :
  KB2 (W.fnOf x qual (aE st) (aD st) (ag st) .none kV doc pm an cdv ct) [a1.arg,a2.arg,a3.arg] a3.arg:=λ s us u hl=>by
 rw[hp];have hl':us.length=2:=by simpa using hl
 obtain⟨u1,u2,rfl⟩:∃ u1 u2,us=[u1,u2]:=by
  match us,hl' with
  | [u1,u2],_=>exact⟨u1,u2,rfl⟩
 exact yb h12 h13 h23
section
variable {X:Cx}{pos p apos kpos:Pos}{k:Nat}{f C:Addr}{fd:FuncData}{ps:List Str}{sp:SpX}{m kn:Str}{e o g:Expr}{es:List Expr}{t:TAd}{td tk:TD}{E:XE}
def q9(C:Addr)(m:Str)(sp:SpX)(E:XE)(td:TD)(t:TAd)(tk:TD)(τ:DS)(M:MH)(Q:QD):Prop:=td τ M λ w M1=>∃ a fs,w=.m a/\M1 a=some (.ins C fs)/\fs.lookup m=none/\t τ M1 λ ws M2=>tk τ M2 λ kv M3=>sp (w::ws++[kv]) M3 Q λ a M'=>E a τ M'
theorem tN{pl:Sem Bool}(L:Lk X E)(he:PD X o td)(c:Cls X.K C)(hm:Meth X.K C m f)(F:bH X.prog X.w X.K X.mg X.base (CXE X.prog X.w) k f fd ps (eD X.K sp))(hr:dN k X.A)(hb:KB2 fd ps kn)(ha:PAd X (e::es) t)(hk:PD X g tk)
  (ht:eval (.Call (.Attribute o m apos) (e::es) [⟨some kn,g,kpos⟩] pos) X.env=(do
   let ov <- eval o X.env
   standAt apos.atName
   let (f,first) <- holding [ov] (getMethod ov m pl)
   callWith pos f first (backTo pos (starEach (e::es) X.env)) (backToKw pos (keywordEach [⟨some kn,g,kpos⟩] X.env))):=by rfl)
  (h1:dQ e=false:=by rfl)(h2:(es.all λ e=>!dQ e)=true:=by rfl):PD X (.Call (.Attribute o m apos) (e::es) [⟨some kn,g,kpos⟩] pos) (q9 C m sp E td t tk):=by
 intro pins s σ H Q I h;obtain⟨τ,M,Qd,A,h,k⟩:=h;refine W.methodCall_KW (pl:=pl) (thn (he pins s σ H (λ x H1=>∃ w M1,Kp H H1/\aH X.K H1 w x/\cz X.K H1 M1/\∃ a fs,w=.m a/\M1 a=some (.ins C fs)/\fs.lookup m=none/\t τ M1 λ ws M2=>tk τ M2 λ kv M3=>sp (w::ws++[kv]) M3 Qd λ a M'=>E a τ M') I ⟨τ,M,_,A,h,λ v H1 w M1 kp r m q=>⟨w,M1,kp,r,m,q⟩⟩)
  λ u s1 ⟨y,H1,I1,ry,w,M1,kp1,r1,m1,a,fs,ew,hma,hl,q1⟩=>?_) ht
 subst ew;obtain⟨dx,l,e1,pr⟩:=m1 _ _ hma;cases (show y=.ref a from r1);obtain rfl:u=Value.ref a:=ry;have g1:=eC m pr;rw[hl] at g1;refine fH I1 e1 c hm (OR.none_of g1) ?_;refine W.callWith_KW (first:=[.ref a]) (h₀:=X.base) I.ok.mod.kin hm.kp rfl (thn (ha pos pins s1 σ H1 (λ vs H2=>∃ ws M2,Kp H1 H2/\bj X.K H2 ws vs/\cz X.K H2 M2/\tk τ M2 λ kv M3=>sp (.m a::ws++[kv]) M3 Qd λ a M'=>E a τ M') I1 ⟨τ,M1,_,A.go kp1 m1,q1,λ vs H2 ws M2 kp r m q=>⟨ws,M2,kp,r,m,q⟩⟩)
  λ us s2 ⟨vs,H2,I2,r,ws,M2,kp2,rw,m2,q⟩=>?_) (by rw[bN e es X.env h1];show((false || (backTo pos (starEach es X.env)).any (·.1)) || false)=false;rw[cf pos X.env es h2];rfl) (bN e es X.env h1)
 show wpAny _ _ (evalAll [(do let v <- eval g X.env;standAt pos;pure v)]) _ _ s2;refine wpAny_evalAll_cons (wpAny_bind (thn (hk pins s2 σ H2 (λ v H3=>∃ kv M3,Kp H2 H3/\aH X.K H3 kv v/\cz X.K H3 M3/\sp (.m a::ws++[kv]) M3 Qd λ a M'=>E a τ M') I2
  ⟨τ,M2,_,(A.go kp1 m1).go kp2 m2,q,λ v H3 kv M3 kp r m q=>⟨kv,M3,kp,r,m,q⟩⟩) λ u s3 ⟨v,H3,I3,r3,kv,M3,kp3,rw3,m3,q3⟩=>wpAny_bind (wpAny_standAt (wpAny_pure (wpAny_evalAll_nil ⟨I3.kIn,?_⟩)))))
 show wpAny _ _ (call (.ref f) (.ref a::us) [(kn,u)]) _ _ s3;exact zv (us:=.ref a::us) (vs:=.ref a::vs) (E:=λ v _ H'=>∃ a M',v=.ref a/\Kp H3 H'/\cz X.K H' M'/\E a τ M') F hr (hb s3 _ u) I3 (.cons rfl r) r3 ⟨.m a::ws++[kv],M3,Qd,_,bj.append (.cons rfl (rw.keep kp3)) (.cons rw3 .nil),m3,q3,kgo (kgo (kgo k kp1) kp2) kp3,λ a H' M' kp' m' e'=>⟨a,M',rfl,kp',m',e'⟩⟩ λ u s' hx=>nQ L I3 (((A.go kp1 m1).go kp2 m2).go kp3 m3) (λ v H' z=>z) hx
end
structure MfL(K:FG)(C:Addr)(x qual:Str)(st:Stmt)(ps:List Str)(dz kn:Str)(f:Addr)(fd:FuncData):Prop extends MfK K C x qual st ps dz f fd where
 kb:KB2 fd ps kn
theorem aer{K:FG}{C:Addr}{x qual dz:Str}{st:Stmt}{a1 a2 a3:Arg}{kd:List (Option Expr)}{f KD:Addr}{oc:Value}{od an:Option Addr}{osl:Array (Option Value)}{doc pm cdv ct:Value}{tk:Tok}(hp:aE st=⟨[],[a1,a2],none,[a3],kd,none,[]⟩)(h12:(a2.arg==a1.arg)=false)(h13:(a3.arg==a1.arg)=false)(h23:(a3.arg==a2.arg)=false)(a:W.findIn K (.ref C) x=some (some (.ref f)))(i:W.isFn K (.ref f)=true)
  (l:K.lookup f=some ⟨oc,od,.func (W.fnOf x qual (aE st) (aD st) (ag st) .none (.ref KD) doc pm an cdv ct),osl⟩)(c:W.codeIn K cdv qual=true)(k:W.keepIn K (.ref f)=true)(dk:W.nsIn K KD a3.arg=some (some (.str dz tk))) :
  MfL K C x qual st [a1.arg,a2.arg,a3.arg] dz a3.arg f (W.fnOf x qual (aE st) (aD st) (ag st) .none (.ref KD) doc pm an cdv ct):=
 ⟨acJ hp h12 h13 h23 a i l c k dk,adH hp h12 h13 h23⟩
section
variable {X:Cx}{pos p apos kpos:Pos}{k:Nat}{f C:Addr}{fd:FuncData}{ps:List Str}{sp:SpX}{m kn:Str}{e o g:Expr}{es:List Expr}{t:TAd}{td tk:TD}{E:XE}
theorem afK{pl:Sem Bool}(L:Lk X E)(he:Jd (PD X o td))(c:Cls X.K C)(hm:Meth X.K C m f)(F:bH X.prog X.w X.K X.mg X.base (CXE X.prog X.w) k f fd ps (eD X.K sp))(hr:dN k X.A)(hb:KB2 fd ps kn)(ha:Jd (PAd X (e::es) t))(hk:Jd (PD X g tk))
  (ht:eval (.Call (.Attribute o m apos) (e::es) [⟨some kn,g,kpos⟩] pos) X.env=(do
   let ov <- eval o X.env
   standAt apos.atName
   let (f,first) <- holding [ov] (getMethod ov m pl)
   callWith pos f first (backTo pos (starEach (e::es) X.env)) (backToKw pos (keywordEach [⟨some kn,g,kpos⟩] X.env))):=by rfl)
  (h1:dQ e=false:=by rfl)(h2:(es.all λ e=>!dQ e)=true:=by rfl):Jd (PD X (.Call (.Attribute o m apos) (e::es) [⟨some kn,g,kpos⟩] pos) (q9 C m sp E td t tk)):=⟨D.tN (pl:=pl) L he.h c hm F hr hb ha.h hk.h ht h1 h2⟩
end
end D
namespace K24
open L2 D Rc Stc
abbrev lS:Addr:=41
abbrev iO:Addr:=54
abbrev dS:Addr:=62
abbrev cY:Addr:=93
abbrev bJ:Addr:=106
abbrev az:Addr:=118
abbrev bf:Addr:=137
abbrev aF:Addr:=156
abbrev bE:Addr:=175
abbrev mW:Addr:=194
abbrev ar:Addr:=213
abbrev ql:Addr:=216
abbrev jj:Addr:=217
abbrev lA:Addr:=227
abbrev hU:Addr:=252
abbrev dO:Addr:=259
abbrev cH:Addr:=266
abbrev cy:Addr:=273
abbrev fD:Addr:=280
abbrev qU:Addr:=287
abbrev kP:Addr:=294
abbrev my:Addr:=301
abbrev xv:Addr:=306
abbrev jn:Addr:=307
abbrev aj:Addr:=447
def iU:List (Str×PyData):=[("share",.tuple [.int (1),.int (9)]),("copies",.tuple [.int (0),.int (6)]),("keep",.tuple [.int (0),.int (5)]),("start",.tuple [.int (0),.int (2)]),("hands",.tuple [.int (1),.int (3)]),("place",.tuple [.int (0),.int (7)]),("asks",.tuple [.int (1),.int (20)])]
def lR:List (Str×PyData):=[("group",.int (4)),("wish",.int (8)),("store",.int (4)),("door",.int (6)),("rule",.int (4))]
def iJ:List (Str×PyData):=[("copies",.tuple [.str "wish",.int (1)]),("edition",.tuple [.str "wish",.int (1)]),("back",.tuple [.str "wish",.int (1)]),("rank",.tuple [.str "wish",.int (1)]),("store",.tuple [.str "wish",.int (2)]),("door",.tuple [.str "wish",.int (2)]),("rule",.tuple [.str "door",.int (2)]),("empty",.tuple [.str "machine",.int (1)]),("fill",.tuple [.str "machine",.int (1)])]
def lK:List (Str×PyData):=[("group",.tuple [.str "word",.str "share"]),("wish",.tuple [.str "word",.str "word",.str "copies",.str "keep",.str "start",.str "hands"]),("copies",.tuple [.str "word",.str "copies",.str "keep"]),("edition",.tuple [.str "word",.str "start",.str "hands"]),("back",.tuple [.str "word"]),("rank",.tuple [.str "word",.str "place"]),("store",.tuple [.str "word",.str "word"]),("door",.tuple [.str "word",.str "word"]),("rule",.tuple [.str "word",.str "word",.str "asks",.str "copies",.str "keep"]),("empty",.tuple [.str "word"]),("fill",.tuple [.str "word"]),("end",.tuple [.str "sort",.str "word"])]
def nP:List (Str×PyData):=[("wish",.tuple [.str "store",.str "door"]),("store",.tuple []),("door",.tuple [.str "rule"]),("rule",.tuple [])]
def iR:List (Str×Addr):=[("group",hU),("wish",dO),("copies",cH),("edition",cy),("back",fD),("rank",qU),("store",hU),("door",hU),("rule",hU),("empty",kP),("fill",my),("end",xv)]
abbrev ml:List Str:=["self", "at"]
abbrev jk:List Str:=["thing"]
def ji:TSd:=
  bI (dIf (dOr (qB (a9 (dCB gx (ai (ao 0) (ai (dC (.t "str")) (aW)))))) (qB (a9 (gD sU sU (dC (.d (.int 1))) (dCB l9 (ai (ao 0) (aW))) (dC (.d (.int 8)))))))
   (eK (dC (.d (.bool false))))
   (bX)) <|
  eK (dCB abg (ai (dLC (i7 (ao 0)) (gN 0) (abz) (gD sU sU (dC (.d (.str "a"))) (ao 0) (dC (.d (.str "z")))) 1 []) (aW)))
abbrev hZ:List Str:=["names", "at", "name"]
def iq(Ex:XE)(aQ:SpD):TSd:=
  bI (dIf (dOr (qB (a9 (dCB gx (ai (ao 0) (ai (dC (.t "list")) (aW)))))) (qB (aeW (ao 0))))
   (ib bf ["at"] Ex (ai (dC (.d (.int 0))) (aW)))
   (bX)) <|
  yJ (aeF (ai (ao 0) (aW))) (gT 2 (cA (gN 1) (cA (gN 2) (n9))))
   (dIf (dOr (a9 (dOp acw (ao 1) (dC (.d (.int 8))))) (dOr (qB (a9 (cN aQ (ai (ao 2) (aW))))) (a9 (dOp (oJ false) (ao 2) (dSl (ao 0) (fU) (mD (ao 1)))))))
    (ib bf ["at"] Ex (ai (ao 1) (aW)))
    (bX))
abbrev lY:List Str:=["self", "machines"]
def k9(Ex:XE)(bF:SpX):TSd:=
  bI (iI (aac bF Ex (ai (ao 1) (aW)))) <|
  bI (fX aj (ao 0) (aaN (dCB iK (ai (ao 1) (aW)))) "machine_names") <|
  bI (fX aj (ao 0) (qQ (aW)) "emptied_names") <|
  bI (fX aj (ao 0) (mL (aW)) "ranked") <|
  bI (fX aj (ao 0) (rq) "wished") <|
  bI (fX aj (ao 0) (mL (aW)) "ended") <|
  bI (fX aj (ao 0) (sy [(dC (.d (.str "group")),qQ (aW)),(dC (.d (.str "store")),qQ (aW)),(dC (.d (.str "door")),qQ (aW)),(dC (.d (.str "rule")),qQ (aW))]) "told_rows") <|
  fX aj (ao 0) (mL (aW)) "done"
abbrev hJ:List Str:=["thing"]
def gW:TSd:=
  eK (se (dCB gx (ai (ao 0) (ai (dC (.t "int")) (aW)))) (yP (dCB gx (ai (ao 0) (ai (dC (.t "bool")) (aW))))))
abbrev fK:List Str:=["thing", "low", "high"]
def fV(bq:SpD):TSd:=
  eK (se (cN bq (ai (ao 0) (aW))) (gD sU sU (ao 1) (ao 0) (ao 2)))
abbrev pd:List Str:=["form", "part", "low", "high"]
def pQ(aQ:SpD)(bD:SpD):TSd:=
  bI (dIf (a9 (dOp gm (ao 0) (dC (.d (.str "word")))))
   (eK (cN aQ (ai (ao 1) (aW))))
   (bX)) <|
  bI (dIf (a9 (dOp gm (ao 0) (dC (.d (.str "sort")))))
   (eK (se (dCB gx (ai (ao 1) (ai (dC (.t "str")) (aW)))) (dOp (oJ false) (ao 1) (dC (.d (.tuple [.str "wish",.str "store",.str "door",.str "rule"]))))))
   (bX)) <|
  bI (dW (acf iU (ao 0)) (gT 2 (cA (gN 2) (cA (gN 3) (n9))))) <|
  eK (cN bD (ai (ao 1) (ai (ao 2) (ai (ao 3) (aW)))))
abbrev k7:List Str:=["forms", "deed", "copies", "keep"]
def lu:TSd:=
  bI (dW (dOp dm (ao 1) (dOp gg (vR (ao 0) (dC (.d (.str "copies")))) (dC (.d (.int 1))))) (gN 2)) <|
  bI (dW (dOp dm (ao 1) (dOp gg (vR (ao 0) (dC (.d (.str "keep")))) (dC (.d (.int 1))))) (gN 3)) <|
  eK (dOp sU (ao 3) (dCB v3 (ai (dOp aay (ao 2) (dC (.d (.int 1)))) (ai (dC (.d (.int 0))) (aW)))))
abbrev pf:List Str:=["thing", "forms", "form", "part"]
def pA(df:SpD)(ck:SpD):TSd:=
  bI (dIf (dOr (qB (a9 (dCB gx (ai (ao 0) (ai (dC (.t "tuple")) (aW)))))) (dOr (qB (aeW (ao 0))) (qB (a9 (dCB gx (ai (dOp dm (ao 0) (dC (.d (.int 0)))) (ai (dC (.t "str")) (aW))))))))
   (eK (dC (.d (.bool false))))
   (bX)) <|
  bI (dW (abw lK (dOp dm (ao 0) (dC (.d (.int 0))))) (gN 1)) <|
  bI (dIf (dOr (a9 (dOp (ad4 false) (ao 1) (dC (.d .none)))) (a9 (dOp tZ (dCB l9 (ai (ao 0) (aW))) (dOp gg (dCB l9 (ai (ao 1) (aW))) (dC (.d (.int 1)))))))
   (eK (dC (.d (.bool false))))
   (bX)) <|
  bI (yJ (acF (ai (ao 1) (ai (dSl (ao 0) (mD (dC (.d (.int 1)))) (fU)) (aW)))) (gT 2 (cA (gN 2) (cA (gN 3) (n9))))
   (dIf (qB (a9 (cN df (ai (ao 2) (ai (ao 3) (aW))))))
    (eK (dC (.d (.bool false))))
    (bX))) <|
  eK (ae8 (dOp (oJ true) (dC (.d (.str "keep"))) (ao 1)) (cN ck (ai (ao 1) (ai (ao 0) (aW)))))
abbrev gA:List Str:=["self"]
def gM:TSd:=
  eK (dCB iK (ai (nH aj (ao 0) "machine_names") (aW)))
abbrev je:List Str:=["self"]
def iY:TSd:=
  eK (dCB iK (ai (nH aj (ao 0) "ranked") (aW)))
abbrev gF:List Str:=["self", "sort"]
def gu(bx:SpD)(a6:SpD):TSd:=
  bI (dIf (a9 (dOp gm (ao 1) (dC (.d (.str "machine")))))
   (eK (jN aj "machines" bx (ao 0) aW))
   (bX)) <|
  bI (dIf (a9 (dOp gm (ao 1) (dC (.d (.str "wish")))))
   (eK (jN aj "wishes" a6 (ao 0) aW))
   (bX)) <|
  eK (dLC (i7 (eW (nH aj (ao 0) "told_rows") (ao 1))) (gN 0) (abz) (dOp dm (ao 0) (dC (.d (.int 0)))) 1 [])
abbrev mw:List Str:=["self", "name"]
abbrev eh:List Str:=["self", "deed", "sort", "name", "place"]
def eB(Ex:XE)(aw:SpD):TSd:=
  bI (dIf (a9 (dOp gm (dOp dm (ao 1) (dC (.d (.int 0)))) (dC (.d (.str "end")))))
   (dW (dSl (ao 1) (mD (dC (.d (.int 1)))) (fU)) (gT 2 (cA (gN 2) (cA (gN 3) (n9)))))
   (dIf (a9 (aeH iJ (dOp dm (ao 1) (dC (.d (.int 0))))))
    (bI (dW (acf iJ (dOp dm (ao 1) (dC (.d (.int 0))))) (gT 2 (cA (gN 2) (cA (gN 4) (n9))))) <|
    dW (dOp dm (ao 1) (ao 4)) (gN 3))
    (acm))) <|
  dIf (a9 (dOp (oJ true) (ao 3) (jN aj "names_of" aw (ao 0) (ai (ao 2) (aW)))))
   (ib aF ["name"] Ex (ai (ao 3) (aW)))
   (bX)
abbrev qi:List Str:=["self", "name"]
abbrev ff:List Str:=["self", "deed", "sort", "name"]
def eQ(Ex:XE)(aw:SpD):TSd:=
  bI (afx 2 3 (ai (dOp dm (ao 1) (dC (.d (.int 0)))) (ai (dOp dm (ao 1) (dC (.d (.int 1)))) (aW)))) <|
  bI (dIf (aaJ (a9 (aeH lR (ao 2))) (a9 (dOp (oJ false) (ao 3) (jN aj "names_of" aw (ao 0) (ai (ao 2) (aW))))))
   (ib bE ["name"] Ex (ai (ao 3) (aW)))
   (bX)) <|
  dIf (aaJ (a9 (dOp gm (ao 2) (dC (.d (.str "wish"))))) (a9 (dOp (oJ false) (ao 3) (nH aj (ao 0) "ended"))))
   (ib bE ["name"] Ex (ai (ao 3) (aW)))
   (bX)
abbrev mz:List Str:=["self", "most"]
abbrev dM:List Str:=["self", "deed", "sort"]
def dG(Ex:XE)(aw:SpD):TSd:=
  bI (dW (dOp dm (ao 1) (dC (.d (.int 0)))) (gN 2)) <|
  bI (dIf (aaJ (a9 (aeH lR (ao 2))) (a9 (dOp acw (dCB l9 (ai (jN aj "names_of" aw (ao 0) (ai (ao 2) (aW))) (aW))) (acf lR (ao 2)))))
   (ib ar ["most"] Ex (ai (acf lR (ao 2)) (aW)))
   (bX)) <|
  dIf (aaJ (a9 (dOp gm (ao 2) (dC (.d (.str "edition"))))) (a9 (dOp acw (dCB l9 (ai (eW (eW (nH aj (ao 0) "wished") (dOp dm (ao 1) (dC (.d (.int 1))))) (dC (.d (.str "editions")))) (aW))) (dC (.d (.int 9))))))
   (ib ar ["most"] Ex (ai (dC (.d (.int 9))) (aW)))
   (bX)
abbrev d3:List Str:=["self", "deed"]
def d5(Ex:XE):TSd:=
  dIf (aaJ (a9 (dOp gm (dOp dm (ao 1) (dC (.d (.int 0)))) (dC (.d (.str "back"))))) (a9 (dOp gm (eW (eW (nH aj (ao 0) "wished") (dOp dm (ao 1) (dC (.d (.int 1))))) (dC (.d (.str "edition")))) (dC (.d (.int 1))))))
   (rU az Ex (ai (dC (.d (.str "the told edition is the first one"))) (aW)))
   (bX)
abbrev fm:List Str:=["self", "deed", "user", "row"]
def fq:TSd:=
  bI (dIf (a9 (dOp tZ (dOp dm (ao 1) (dC (.d (.int 0)))) (dC (.d (.str "end")))))
   (acm)
   (bX)) <|
  yJ (i7 (acf nP (dOp dm (ao 1) (dC (.d (.int 1)))))) (gN 2)
   (yJ (i7 (eW (nH aj (ao 0) "told_rows") (ao 2))) (gN 3)
    (dIf (a9 (dOp gm (dOp dm (ao 3) (dC (.d (.int 1)))) (dOp dm (ao 1) (dC (.d (.int 2))))))
     (vz)
     (bX)))
abbrev lJ:List Str:=["book", "deed", "name", "kind", "copies", "keep", "start", "hands"]
def ll:TSd:=
  bI (dW (dSl (ao 1) (mD (dC (.d (.int 1)))) (fU)) (gT 6 (cA (gN 2) (cA (gN 3) (cA (gN 4) (cA (gN 5) (cA (gN 6) (cA (gN 7) (n9))))))))) <|
  bI (iI (ix (nH aj (ao 0) "ranked") (ao 2))) <|
  pI (nH aj (ao 0) "wished") (ao 2) (sy [(dC (.d (.str "kind")),ao 3),(dC (.d (.str "copies")),ao 4),(dC (.d (.str "keep")),ao 5),(dC (.d (.str "edition")),dC (.d (.int 1))),(dC (.d (.str "editions")),mL (ai (jQ (ai (ao 6) (ai (ao 7) (aW)))) (aW)))])
abbrev jd:List Str:=["book", "deed", "name", "copies", "keep"]
def jl:TSd:=
  bI (dW (dSl (ao 1) (mD (dC (.d (.int 1)))) (fU)) (gT 3 (cA (gN 2) (cA (gN 3) (cA (gN 4) (n9)))))) <|
  bI (pI (eW (nH aj (ao 0) "wished") (ao 2)) (dC (.d (.str "copies"))) (ao 3)) <|
  pI (eW (nH aj (ao 0) "wished") (ao 2)) (dC (.d (.str "keep"))) (ao 4)
abbrev ir:List Str:=["book", "deed", "name", "start", "hands", "wish"]
def ip:TSd:=
  bI (dW (dSl (ao 1) (mD (dC (.d (.int 1)))) (fU)) (gT 3 (cA (gN 2) (cA (gN 3) (cA (gN 4) (n9)))))) <|
  bI (dW (eW (nH aj (ao 0) "wished") (ao 2)) (gN 5)) <|
  bI (iI (ix (eW (ao 5) (dC (.d (.str "editions")))) (jQ (ai (ao 3) (ai (ao 4) (aW)))))) <|
  pI (ao 5) (dC (.d (.str "edition"))) (dCB l9 (ai (eW (ao 5) (dC (.d (.str "editions")))) (aW)))
abbrev p6:List Str:=["book", "deed"]
def qL:TSd:=
  acC (eW (nH aj (ao 0) "wished") (dOp dm (ao 1) (dC (.d (.int 1))))) (dC (.d (.str "edition"))) (dC (.d (.int 1))) (λ i j=>i-j)
abbrev qt:List Str:=["self", "deed", "by", "doing"]
def pK(Ex:XE)(cX:SpD)(aL:SpX)(aS:SpX)(aI:SpX)(aK:SpX)(aZ:SpD)(bV:SpD)(bC:SpD)(bu:SpD)(cJ:SpD):TSd:=
  bI (dIf (qB (a9 (cN cX (ai (ao 1) (aW)))))
   (rU bJ Ex (ai (dC (.d (.str "this is no deed"))) (aW)))
   (bX)) <|
  bI (iI (nE aj "refuse_unknown" aL Ex (ao 0) (ai (ao 1) (aW)))) <|
  bI (iI (nE aj "refuse_known" aS Ex (ao 0) (ai (ao 1) (aW)))) <|
  bI (iI (nE aj "refuse_too_many" aI Ex (ao 0) (ai (ao 1) (aW)))) <|
  bI (iI (nE aj "refuse_no_back" aK Ex (ao 0) (ai (ao 1) (aW)))) <|
  bI (iI (jN aj "refuse_used" aZ (ao 0) (ai (ao 1) (aW)))) <|
  bI (dW (adl iR (dOp dm (ao 1) (dC (.d (.int 0))))) (gN 3)) <|
  bI (iI (vW [(dO,bV),(cH,bC),(cy,bu),(fD,cJ)] (ao 3) (ai (ao 0) (ai (ao 1) (aW))))) <|
  iI (ix (nH aj (ao 0) "done") (jQ (ai (ao 2) (ai (ao 1) (aW)))))
abbrev kO:List Str:=["_law_e"]
def kM:TSd:=
  bI (dIf (a9 (zX (wK [(ar,false),(az,false)]) (ao 0)))
   (eK (jQ (ai (dC (.d (.str "nodeed"))) (ai (dC (.d .none)) (aW)))))
   (bX)) <|
  bI (dIf (a9 (zX (wK [(ar,false),(az,false)]) (ao 0)))
   (eK (jQ (ai (dC (.d (.str "unknown"))) (ai (uk [] (ao 0) "name") (aW)))))
   (bX)) <|
  bI (dIf (a9 (zX (wK [(ar,false),(az,false)]) (ao 0)))
   (eK (jQ (ai (dC (.d (.str "known"))) (ai (uk [] (ao 0) "name") (aW)))))
   (bX)) <|
  bI (dIf (a9 (zX (wK [(ar,true),(az,false)]) (ao 0)))
   (eK (jQ (ai (dC (.d (.str "many"))) (ai (uk [ar] (ao 0) "most") (aW)))))
   (bX)) <|
  bI (dIf (a9 (zX (wK [(ar,false),(az,true)]) (ao 0)))
   (eK (jQ (ai (dC (.d (.str "noback"))) (ai (dC (.d .none)) (aW)))))
   (bX)) <|
  bI (dIf (a9 (zX (wK [(ar,false),(az,false)]) (ao 0)))
   (eK (jQ (ai (dC (.d (.str "used"))) (ai (uk [] (ao 0) "name") (aW)))))
   (bX)) <|
  eK (jQ (ai (dC (.d (.str "odd"))) (ai (dC (.d .none)) (aW))))
abbrev tj:List Str:=["_law_some", "_law_thing", "_law_who", "_law_found", "_law_e"]
def sL(bG:SpX)(cu:SpD):TSd:=
  bI (agq (λ Ex =>
   dIf (a9 (dOp gm (ao 2) (dC (.d (.str "hand")))))
    (dW (oh aj "do" bG "hand" Ex (ao 0) (ai (ao 1) (aW))) (gN 3))
    (dW (q9 aj "do" bG Ex (ao 0) (ai (ao 1) (aW)) (ao 2)) (gN 3))) (aby (wK [(ar,true),(az,true)]) 4
   (eK (cN cu (ai (ao 4) (aW)))) (λ _ _ _ _=>False))) <|
  eK (jQ (ai (dC (.d (.str "done"))) (ai (ao 3) (aW))))
abbrev sH:List Str:=["_law_bag_here", "_law_some", "_law_plans", "_law_name", "_law_plan", "_law_way", "_law_pair", "_law_due", "_law_copies"]
def sx(bp:SpD)(cP:SpD):TSd:=
  bI (dW (eW (ao 2) (ao 3)) (gN 4)) <|
  bI (dW (cN bp (ai (ao 0) (ai (dC (.d (.int 8))) (aW)))) (gN 5)) <|
  bI (dIf (a9 (dOp aeT (ao 5) (dC (.d (.int 4)))))
   (bI (dW (jQ (ai (cN bp (ai (ao 0) (ai (dC (.d (.int 3))) (aW)))) (ai (dOp gg (dC (.d (.int 1))) (cN bp (ai (ao 0) (ai (dC (.d (.int 3))) (aW))))) (aW)))) (gN 6)) <|
   bI (dW (jQ (ai (dC (.d (.str "done"))) (ai (dC (.d .none)) (aW)))) (gN 7)) <|
   bI (dIf (a9 (dOp gm (dCB l9 (ai (dOp dm (ao 4) (dC (.d (.int 0)))) (aW))) (dC (.d (.int 9)))))
    (dW (jQ (ai (dC (.d (.str "many"))) (ai (dC (.d (.int 9))) (aW)))) (gN 7))
    (bI (iI (ix (dOp dm (ao 4) (dC (.d (.int 0)))) (ao 6))) <|
    dW (dCB l9 (ai (dOp dm (ao 4) (dC (.d (.int 0)))) (aW))) (uO (ao 4) (dC (.d (.int 1)))))) <|
   eK (dOp gm (cN cP (ai (ao 1) (ai (jQ (ai (dC (.d (.str "edition"))) (ai (ao 3) (ai (dOp dm (ao 6) (dC (.d (.int 0)))) (ai (dOp dm (ao 6) (dC (.d (.int 1)))) (aW)))))) (ai (dC (.d (.str "hand"))) (aW))))) (ao 7)))
   (bX)) <|
  bI (dIf (a9 (dOp aeT (ao 5) (dC (.d (.int 7)))))
   (bI (dW (jQ (ai (dC (.d (.str "noback"))) (ai (dC (.d .none)) (aW)))) (gN 7)) <|
   bI (dIf (a9 (dOp acv (dOp dm (ao 4) (dC (.d (.int 1)))) (dC (.d (.int 1)))))
    (bI (dW (jQ (ai (dC (.d (.str "done"))) (ai (dC (.d .none)) (aW)))) (gN 7)) <|
    dW (dOp aay (dOp dm (ao 4) (dC (.d (.int 1)))) (dC (.d (.int 1)))) (uO (ao 4) (dC (.d (.int 1)))))
    (bX)) <|
   eK (dOp gm (cN cP (ai (ao 1) (ai (jQ (ai (dC (.d (.str "back"))) (ai (ao 3) (aW)))) (ai (dC (.d (.str "r"))) (aW))))) (ao 7)))
   (bX)) <|
  bI (dW (cN bp (ai (ao 0) (ai (dC (.d (.int 7))) (aW)))) (gN 8)) <|
  bI (dW (qQ (ai (ao 8) (ai (cN bp (ai (ao 0) (ai (dCB v3 (ai (dC (.d (.int 1))) (ai (ao 8) (aW)))) (aW)))) (ai (dOp dm (dOp dm (ao 4) (dC (.d (.int 2)))) (dC (.d (.int 2)))) (aW))))) (uO (ao 4) (dC (.d (.int 2))))) <|
  eK (dOp gm (cN cP (ai (ao 1) (ai (jQ (ai (dC (.d (.str "copies"))) (ai (ao 3) (ai (ao 8) (ai (dOp dm (dOp dm (ao 4) (dC (.d (.int 2)))) (dC (.d (.int 1)))) (aW)))))) (ai (dC (.d (.str "hand"))) (aW))))) (jQ (ai (dC (.d (.str "done"))) (ai (dC (.d .none)) (aW)))))
abbrev iX:List Str:=["wish", "twin"]
def i6:TSd:=
  bI (dW (dCB sM (ai (ao 0) (aW))) (gN 1)) <|
  bI (pI (ao 1) (dC (.d (.str "editions"))) (dCB iK (ai (eW (ao 0) (dC (.d (.str "editions")))) (aW)))) <|
  eK (ao 1)
abbrev lB:List Str:=["self", "name"]
def kQ(Ex:XE)(aQ:SpD)(bL:SpD):TSd:=
  bI (dIf (dOr (qB (a9 (cN aQ (ai (ao 1) (aW))))) (a9 (nX (ao 1) (nH aj (ao 0) "wished"))))
   (ib aF ["name"] Ex (ai (ao 1) (aW)))
   (bX)) <|
  eK (cN bL (ai (eW (nH aj (ao 0) "wished") (ao 1)) (aW)))
abbrev pw:List Str:=["_law_some", "_law_plans", "_law_name", "_law_told_here", "_law_plan"]
def oV(cn:SpX)(a6:SpD):TSd:=
  bI (uW (yJ (vB (ao 1)) (gN 2)
   (bI (dW (nE aj "wish" cn (λ _ _ _=>False) (ao 0) (ai (ao 2) (aW))) (gN 3)) <|
   bI (dW (eW (ao 1) (ao 2)) (gN 4)) <|
   bI (dIf (dOr (a9 (dOp tZ (dCB iy (ai (eW (ao 3) (dC (.d (.str "editions")))) (aW))) (dCB iy (ai (dOp dm (ao 4) (dC (.d (.int 0)))) (aW))))) (a9 (dOp tZ (dCB iy (ai (eW (ao 3) (dC (.d (.str "edition")))) (aW))) (dCB iy (ai (dOp dm (ao 4) (dC (.d (.int 1)))) (aW))))))
    (eK (dC (.d (.bool false))))
    (bX)) <|
   dIf (a9 (dOp tZ (dCB iy (ai (qQ (ai (eW (ao 3) (dC (.d (.str "copies")))) (ai (eW (ao 3) (dC (.d (.str "keep")))) (ai (eW (ao 3) (dC (.d (.str "kind")))) (aW))))) (aW))) (dCB iy (ai (dOp dm (ao 4) (dC (.d (.int 2)))) (aW)))))
    (eK (dC (.d (.bool false))))
    (bX)))) <|
  eK (dOp gm (jN aj "wishes" a6 (ao 0) aW) (dCB rZ (ai (ao 1) (aW))))
abbrev ada:List Str:=["_law_script", "_law_bag_here", "_law_some", "_law_plans", "_law_name", "_law_pair", "_law_k"]
def acW(ft:SpD)(cm:SpX)(bp:SpD)(bG:SpX)(d4:SpD)(cZ:SpD):TSd:=
  bI (dW (cN ft (ai (ao 0) (aW))) (gN 1)) <|
  bI (dW (zD aj cm (λ _ _ _=>False) (ai (qQ (ai (dC (.d (.str "m"))) (aW))) (aW))) (gN 2)) <|
  bI (dW (rq) (gN 3)) <|
  bI (yJ (i7 (dSl (qQ (ai (dC (.d (.str "web"))) (ai (dC (.d (.str "api"))) (ai (dC (.d (.str "log"))) (aW))))) (fU) (mD (dOp gg (dC (.d (.int 1))) (cN bp (ai (ao 1) (ai (dC (.d (.int 3))) (aW)))))))) (gN 4)
   (bI (dW (jQ (ai (cN bp (ai (ao 1) (ai (dC (.d (.int 3))) (aW)))) (ai (dOp gg (dC (.d (.int 1))) (cN bp (ai (ao 1) (ai (dC (.d (.int 3))) (aW))))) (aW)))) (gN 5)) <|
   bI (iI (oh aj "do" bG "hand" (λ _ _ _=>False) (ao 2) (ai (jQ (ai (dC (.d (.str "wish"))) (ai (ao 4) (ai (ao 4) (ai (dC (.d (.int 3))) (ai (dC (.d (.int 2))) (ai (dOp dm (ao 5) (dC (.d (.int 0)))) (ai (dOp dm (ao 5) (dC (.d (.int 1)))) (aW))))))))) (aW)))) <|
   pI (ao 3) (ao 4) (mL (ai (mL (ai (ao 5) (aW))) (ai (dC (.d (.int 1))) (ai (qQ (ai (dC (.d (.int 3))) (ai (dC (.d (.int 2))) (ai (ao 4) (aW))))) (aW))))))) <|
  bI (yJ (aa4 (ai (dOp gg (dC (.d (.int 15))) (cN bp (ai (ao 1) (ai (dC (.d (.int 36))) (aW))))) (aW))) (gN 6)
   (bI (dW (dOp dm (dCB rZ (ai (ao 3) (aW))) (cN bp (ai (ao 1) (ai (dCB aag (ai (ao 3) (aW))) (aW))))) (gN 4)) <|
   dIf (dOr (qB (a9 (cN d4 (ai (ao 1) (ai (ao 2) (ai (ao 3) (ai (ao 4) (aW)))))))) (qB (a9 (cN cZ (ai (ao 2) (ai (ao 3) (aW)))))))
    (eK (dC (.d (.bool false))))
    (bX))) <|
  eK (dC (.d (.bool true)))
def btw(i lo hi:Int):Bool:=decide (lo<=i)&&decide (i<=hi)
def sorts:List Str:=["wish", "store", "door", "rule"]
def aax(z:Str):Bool:=decide (z∈sorts)
theorem aa5{z:Str}:inA (.str z) (sorts.map PyData.str)=aax z:=by
 unfold inA aax;rw[List.any_map]
 by_cases h:z∈sorts
 ·rw[decide_eq_true h];exact List.any_eq_true.mpr ⟨z,h,by show PyData.eqv (.str z) (.str z)=true;rw[dP,decide_eq_true rfl]⟩
 ·rw[decide_eq_false h];refine List.any_eq_false.mpr λ y hy=>?_;show ¬ PyData.eqv (.str y) (.str z)=true;rw[dP];simp only[decide_eq_true_eq];intro e;exact h (e ▸ hy)
theorem vV{z:Str}(h:yE z=true):oR (.str z) (sorts.map PyData.str)=true:=by
 have e1:okD 1 (.str z)=true:=by simp only[okD];exact h
 have e2:okD 1 (.list (sorts.map PyData.str))=true:=by decide +kernel
 unfold oR;rw[jB (by decide) e1,jB (by decide) e2];rfl
inductive Cd | w | e | s | c | k | t | h | p | a
deriving DecidableEq
def cdF:Cd->Str
 | .w => "word" | .e => "sort" | .s => "share" | .c => "copies" | .k => "keep" | .t => "start" | .h => "hands" | .p => "place" | .a => "asks"
def cdL:Cd->Int
 | .s=>1 | .h=>1 | .a=>1 | _=>0
def cdH:Cd->Int
 | .s=>9 | .c=>6 | .k=>5 | .t=>2 | .h=>3 | .p=>7 | .a=>20 | _=>0
def tabS:List (Str×Str×List Cd):=[("group", "ws",[.w,.s]),("wish", "wwckth",[.w,.w,.c,.k,.t,.h]),("copies", "wck",[.w,.c,.k]),("edition", "wth",[.w,.t,.h]),("back", "w",[.w]),("rank", "wp",[.w,.p]),("store", "ww",[.w,.w]),("door", "ww",[.w,.w]),("rule", "wwack",[.w,.w,.a,.c,.k]),("empty", "w",[.w]),("fill", "w",[.w]),("end", "ew",[.e,.w])]
theorem acd:∀ x∈tabS,x.2.2.length<=6/\1<=x.2.2.length:=by decide +kernel
theorem wB:∀ x∈tabS,gz lK x.1=some (.tuple (x.2.2.map λ c=>.str (cdF c))):=by intro x hx;simp only[tabS,List.mem_cons,List.not_mem_nil,or_false] at hx;rcases hx with rfl | rfl | rfl | rfl | rfl | rfl | rfl | rfl | rfl | rfl | rfl | rfl<;>rfl
def dd(z:Str)(ds:List PyData):PyData:=.tuple (.str z::ds)
def isW:PyData->Bool
 | .str z=>wd z
 | _=>false
def inB(lo hi:Int):PyData->Bool
 | .int i=>btw i lo hi
 | _=>false
def Fl(d:PyData):Prop:=(∃ y:Str,d=.str y/\yE y=true/\y.length<=100000)\/(∃ i:Int,d=.int i)\/d=.none
def adX:PyData->Bool
 | .int _=>true
 | _=>false
def bq:SpD:=λ ws M Q=>∃ d,ws=[.d d]/\Fl d/\Q (.d (.bool (adX d))) M
theorem jY:∀ ws M Q,bq ws M Q->ws.length=1:=by rintro ws M Q ⟨d,rfl,_⟩;rfl
theorem iS:∀ ws M Q,bq ws M Q->gW {nx:=λ _ M'=>Q (.d .none) M',rt:=Q} (bh hJ ws) M:=by
 rintro ws M Q ⟨d,rfl,hf,k⟩;refine⟨_,rfl,_,_,_,rfl,.d,.int,_,rfl,?_⟩;rcases hf with ⟨y,rfl,_⟩ | ⟨i,rfl⟩ | rfl
 ·exact fh k
 ·exact n8 ⟨_,rfl,_,_,_,rfl,.d,.bool,_,rfl,k⟩
 ·exact fh k
def bD:SpD:=λ ws M Q=>∃ (d:PyData) (lo hi:Int),ws=[.d d,.d (.int lo),.d (.int hi)]/\Fl d/\Q (.d (.bool (inB lo hi d))) M
theorem jm:∀ ws M Q,bD ws M Q->ws.length=3:=by rintro ws M Q ⟨i,lo,hi,rfl,_⟩;rfl
theorem ia:∀ ws M Q,bD ws M Q->fV bq {nx:=λ _ M'=>Q (.d .none) M',rt:=Q} (bh fK ws) M:=by
 rintro ws M Q ⟨d,lo,hi,rfl,hf,k⟩;refine⟨_,rfl,d,rfl,hf,_,rfl,?_⟩;rcases hf with ⟨y,rfl,_⟩ | ⟨i,rfl⟩ | rfl
 ·exact fh k
 ·refine n8 ⟨_,rfl,_,rfl,.inl ⟨_,_,rfl,rfl,_,rfl,?_⟩⟩;have k':Q (.d (.bool (btw i lo hi))) M:=k;unfold btw at k'
  by_cases h:lo<=i
  ·rw[decide_eq_true h] at k' ⊢;exact n8 ⟨_,rfl,.inl ⟨_,_,rfl,rfl,k'⟩⟩
  ·rw[decide_eq_false h] at k' ⊢;exact fh k'
 ·exact fh k
def aQ:SpD:=λ ws M Q=>∃ d,ws=[.d d]/\Fl d/\Q (.d (.bool (isW d))) M
theorem k6:∀ ws M Q,aQ ws M Q->ws.length=1:=by rintro ws M Q ⟨d,rfl,_⟩;rfl
theorem af0(c:Nat):(!decide ((⟨#[c]⟩:Str).cps.toList<("a" : Str).cps.toList))=decide (97<=c)/\(!decide (("z" : Str).cps.toList<(⟨#[c]⟩:Str).cps.toList))=decide (c<=122):=by
 have ea:("a" : Str).cps.toList=[97]:=by decide +kernel
 have ez:("z" : Str).cps.toList=[122]:=by decide +kernel
 have ec:(⟨#[c]⟩:Str).cps.toList=[c]:=rfl;rw[ea,ez,ec,lt1,lt1];constructor
 ·by_cases h:c<97
  ·rw[decide_eq_true h,decide_eq_false (by omega)];rfl
  ·rw[decide_eq_false h,decide_eq_true (by omega)];rfl
 ·by_cases h:122<c
  ·rw[decide_eq_true h,decide_eq_false (by omega)];rfl
  ·rw[decide_eq_false h,decide_eq_true (by omega)];rfl
theorem jO:∀ ws M Q,aQ ws M Q->ji {nx:=λ _ M'=>Q (.d .none) M',rt:=Q} (bh jk ws) M:=by
 rintro ws M Q ⟨d,rfl,hf,k⟩;have s16':=s16;refine⟨_,rfl,_,_,_,rfl,.d,.str,_,rfl,?_⟩;rcases hf with ⟨z,rfl,_,hl⟩ | ⟨i,rfl⟩ | rfl
 ·have hfit:zW (.d (.str z))=true:=decide_eq_true (by omega);have k':Q (.d (.bool (wd z))) M:=k;refine cB (by rw[aav];rfl) ⟨_,rfl,_,_,rfl,rfl,hfit,.inl ⟨_,_,rfl,rfl,_,rfl,?_⟩⟩;have no:¬ (1<=z.length/\z.length<=8)->Q (.d (.bool false)) M:=λ h=>by
   have e:wd z=false:=by
    unfold wd
    by_cases h1:1<=z.length
    ·rw[decide_eq_false (show ¬ z.length<=8 from λ h2=>h ⟨h1,h2⟩)];simp
    ·rw[decide_eq_false h1];simp
   rw[e] at k';exact k'
  by_cases h1:1<=z.length
  ·refine eL (decide_eq_true (show(1:Int)<=(z.length:Nat) by omega)) (.inl ⟨_,_,rfl,rfl,_,rfl,?_⟩)
   by_cases h2:z.length<=8
   ·refine cB (by rw[decide_eq_true (show((z.length:Nat):Int)<=8 by omega)];rfl) ⟨_,rfl,_,rfl,?_⟩;dsimp only;refine vL z.cps.toList (λ c=>W.d (.str ⟨#[c]⟩)) (λ c=>.bool (jW c)) (λ τ=>∃ x,τ=[x]) (by rw[str_len];omega) ⟨_,rfl⟩ (λ c hc τ hτ R h=>?_) (λ τ=>?_)
    ·obtain⟨x,rfl⟩:=hτ;obtain⟨q1,q2⟩:=af0 c;have go:=h [some (.d (.str ⟨#[c]⟩))] ⟨_,rfl⟩;unfold jW at go;refine⟨_,rfl,.inr ⟨_,_,rfl,rfl,_,rfl,?_⟩⟩;refine oI (λ h0=>?_) (λ h0=>?_)
     ·rw[q1.symm.trans h0,Bool.true_and,<- q2] at go;exact .inr ⟨_,_,rfl,rfl,_,rfl,go⟩
     ·rw[q1.symm.trans h0,Bool.false_and] at go;exact⟨_,rfl,go⟩
    ·refine⟨z.cps.toList.map jW,by rw[List.map_map];rfl,?_⟩;have e:wd z=(z.cps.toList.map jW).all id:=by
      unfold wd;rw[decide_eq_true h1,decide_eq_true h2,List.all_map];rfl
     rw[e] at k';exact k'
   ·refine eL (by rw[decide_eq_false (show ¬ ((z.length:Nat):Int)<=8 by omega)];rfl) (no λ h=>h2 h.2)
  ·refine cB (decide_eq_false (show ¬ (1:Int)<=(z.length:Nat) by omega)) ?_;exact⟨_,rfl,eL rfl (no λ h=>h1 h.1)⟩
 ·exact eL rfl k
 ·exact eL rfl k
def pG(c:Cd)(d:PyData):Bool:=if c=.w then isW d else if c=.e then (match d with | .str y=>aax y | _=>false) else inB (cdL c) (cdH c) d
theorem yr(c:Cd):c ≠ .w->c ≠ .e->gz iU (cdF c)=some (.tuple [.int (cdL c),.int (cdH c)])/\cdF c ≠ "word" /\ cdF c ≠ "sort":= by intro h1 h2;cases c<;>first | exact absurd rfl h1 | exact absurd rfl h2 | exact⟨rfl,by decide +kernel,by decide +kernel⟩
def df:SpD:=λ ws M Q=>∃ (c:Cd) (d:PyData),ws=[.d (.str (cdF c)),.d d]/\Fl d/\Q (.d (.bool (pG c d))) M
theorem rz:∀ ws M Q,df ws M Q->ws.length=2:=by rintro ws M Q ⟨c,d,rfl,_⟩;rfl
theorem pT:∀ ws M Q,df ws M Q->pQ aQ bD {nx:=λ _ M'=>Q (.d .none) M',rt:=Q} (bh pd ws) M:=by
 rintro ws M Q ⟨c,d,rfl,hf,k⟩
 by_cases h1:c=.w
 ·subst h1;refine⟨_,rfl,_,_,.d,.d,rfl,_,rfl,?_⟩;rw[dP,decide_eq_true (show cdF .w = "word" from rfl)];exact n8 ⟨_,rfl,d,rfl,hf,k⟩
 by_cases h2:c=.e
 ·subst h2;refine⟨_,rfl,_,_,.d,.d,rfl,_,rfl,?_⟩;rw[dP,decide_eq_false (show ¬ cdF .e = "word" by decide +kernel)];refine fh ⟨_,rfl,_,_,.d,.d,rfl,_,rfl,?_⟩;rw[dP,decide_eq_true (show cdF .e = "sort" from rfl)];refine n8 ⟨_,rfl,_,_,_,rfl,.d,.str,_,rfl,?_⟩;rcases hf with ⟨y,rfl,ha,_⟩ | ⟨i,rfl⟩ | rfl
  ·refine n8 ⟨_,rfl,_,sorts.map PyData.str,.d,.inr rfl,vV ha,?_⟩;rw[Bool.false_xor,aa5];exact k
  ·exact fh k
  ·exact fh k
 ·obtain⟨g1,g2,g3⟩:=yr c h1 h2;refine⟨_,rfl,_,_,.d,.d,rfl,_,rfl,?_⟩;rw[dP,decide_eq_false g2];refine fh ⟨_,rfl,_,_,.d,.d,rfl,_,rfl,?_⟩;rw[dP,decide_eq_false g3];refine fh ⟨_,rfl,cdF c,_,rfl,g1,_,rfl,rfl,_,_,rfl,_,_,rfl,rfl,?_⟩;have e:pG c d=inB (cdL c) (cdH c) d:=by unfold pG;rw[if_neg h1,if_neg h2]
  rw[e] at k;exact⟨_,rfl,_,rfl,_,rfl,d,cdL c,cdH c,rfl,hf,k⟩
theorem fF{M:MH}{z:Str}{ds:List PyData}{j:Nat}{d:PyData}(h:((.str z:PyData)::ds)[j]? =some d):ixW M (.d (dd z ds)) (j:Int)=some (.d d):=by simp only[dd,ixW,ve h,Option.map_some]
theorem jv{M:MH}{z:Str}{ds:List PyData}:ixW M (.d (dd z ds)) 0=some (.d (.str z)):=fF (j:=0) rfl
def aeS(ds:List PyData)(d:PyData)(j:Nat):Bool:=decide (j<ds.length)&&PyData.eqv (ds.getD j .none) d&&(List.range j).all λ m=>!PyData.eqv (ds.getD m .none) d
theorem va{ds:List PyData}{d:PyData}{j:Nat}(h:aeS ds d j=true):zr ds d j:=by
 simp only[aeS,Bool.and_eq_true,decide_eq_true_eq,List.all_eq_true,List.mem_range,Bool.not_eq_true'] at h;obtain⟨⟨h1,h2⟩,h3⟩:=h;refine⟨h1,λ y e=>?_,λ m y hm e=>?_⟩
 ·simpa [List.getD,e] using h2
 ·simpa [List.getD,e] using h3 m hm
def eR(x:Str×Str×List Cd):List PyData:=x.2.2.map λ c=>.str (cdF c)
def kC(x:Str×Str×List Cd):Nat:=x.2.2.idxOf .c
def kK(x:Str×Str×List Cd):Nat:=x.2.2.idxOf .k
theorem k_is:∀ x∈tabS,Cd.k∈x.2.2->aeS (eR x) (.str "copies") (kC x)=true/\aeS (eR x) (.str "keep") (kK x)=true/\x.2.2[kC x]? =some .c/\x.2.2[kK x]? =some .k/\kC x+1=kK x:=by decide +kernel
theorem agy:∀ x∈tabS,oR (.str "copies") (eR x)=true/\oR (.str "keep") (eR x)=true/\inA (.str "keep") (eR x)=decide (Cd.k∈x.2.2):=by decide +kernel
def leK(a i:Int):Bool:=decide (i<=if 0 > a-1 then 0 else a-1)
def ck:SpD:=λ ws M Q=>∃ x∈tabS,Cd.k∈x.2.2/\∃ (ds:List PyData) (a i:Int),ws=[.d (.tuple (eR x)),.d (dd x.1 ds)]/\ds[kC x]? =some (.int a)/\ds[kK x]? =some (.int i)/\Q (.d (.bool (leK a i))) M
theorem nN:∀ ws M Q,ck ws M Q->ws.length=2:=by rintro ws M Q ⟨x,_,_,ds,a,i,rfl,_⟩;rfl
theorem mv:∀ ws M Q,ck ws M Q->lu {nx:=λ _ M'=>Q (.d .none) M',rt:=Q} (bh k7 ws) M:=by
 rintro ws M Q ⟨x,hx,hk,ds,a,i,rfl,ha,hi,k⟩;obtain⟨h1,h2,_⟩:=k_is x hx hk;obtain⟨o1,o2,_⟩:=agy x hx;have e1:ixW M (.d (dd x.1 ds)) (((kC x:Nat):Int)+1)=some (.d (.int a)):=fF (j:=kC x+1) (by simpa using ha);have e2:ixW M (.d (dd x.1 ds)) (((kK x:Nat):Int)+1)=some (.d (.int i)):=fF (j:=kK x+1) (by simpa using hi);refine⟨_,rfl,_,rfl,_,rfl,_,_,rfl,o1,va h1,.inl ⟨_,_,rfl,rfl,_,_,rfl,e1,rfl,?_⟩⟩;refine⟨_,rfl,_,rfl,_,rfl,_,_,rfl,o2,va h2,.inl ⟨_,_,rfl,rfl,_,_,rfl,e2,rfl,?_⟩⟩;exact⟨_,rfl,_,rfl,_,_,rfl,rfl,_,_,rfl,.inl ⟨_,_,rfl,rfl,k⟩⟩
def aaK(x:Str×Str×List Cd)(ds:List PyData):Bool:=match ds.getD (kC x) .none,ds.getD (kK x) .none with
 | .int a,.int i=>leK a i
 | _,_=>false
def pJ(x:Str×Str×List Cd)(ds:List PyData)(j:Nat):Bool:=pG (x.2.2.getD j .w) (ds.getD j .none)
def wU(x:Str×Str×List Cd)(ds:List PyData):Bool:=(List.range x.2.2.length).all (pJ x ds)&&(!decide (Cd.k∈x.2.2) || aaK x ds)
def cX:SpD:=λ ws M Q=>∃ x∈tabS,∃ ds:List PyData,ws=[.d (dd x.1 ds)]/\ds.length=x.2.2.length/\(∀ d∈ds,Fl d)/\Q (.d (.bool (wU x ds))) M
theorem rM:∀ ws M Q,cX ws M Q->ws.length=1:=by rintro ws M Q ⟨x,_,ds,rfl,_⟩;rfl
theorem ac7{n j:Nat}{f:Nat->Bool}(hj:j<n)(h:f j=false):(List.range n).all f=false:=by rw[List.all_eq_false];exact⟨j,List.mem_range.mpr hj,by simp[h]⟩
theorem aae{x:Str×Str×List Cd}{ds:List PyData}{j:Nat}{c:Cd}(hl:ds.length=x.2.2.length)(h:pJ x ds j=true)(hc:x.2.2[j]? =some c)(h1:c ≠ .w)(h2:c ≠ .e):∃ i:Int,ds[j]? =some (.int i):=by
 have hj:j<ds.length:=by rw[hl];exact(List.getElem?_eq_some_iff.mp hc).1
 have hd:ds[j]? =some ds[j]:=List.getElem?_eq_getElem hj;have e:pJ x ds j=inB (cdL c) (cdH c) ds[j]:=by simp only[pJ,List.getD,hc,hd,Option.getD_some];unfold pG;rw[if_neg h1,if_neg h2]
 rw[e] at h;rw[hd];cases hq:ds[j] with
 | int i=>exact⟨i,rfl⟩
 | _=>rw[hq] at h;cases h
theorem qg:∀ ws M Q,cX ws M Q->pA df ck {nx:=λ _ M'=>Q (.d .none) M',rt:=Q} (bh pf ws) M:=by
 rintro ws M Q ⟨x,hx,ds,rfl,hl,hfl,k⟩;have s16':=s16;obtain⟨n6,n1⟩:=acd x hx;refine⟨_,rfl,_,_,_,rfl,.d,.tuple,_,rfl,?_⟩;rw[show mG (dd x.1 ds) "tuple" = true from agk _];refine fh ⟨_,rfl,_,.t,fh ?_⟩;refine⟨_,rfl,_,_,rfl,jv,rfl,_,_,_,rfl,.d,.str,_,rfl,?_⟩;rw[show mG (.str x.1) "str" = true from aav _];refine fh ⟨_,rfl,_,_,rfl,jv,rfl,x.1,rfl,?_⟩;rw[wB x hx];have hfm:(eR x).length=x.2.2.length:=by simp[eR]
 have z2:(!PyData.eqv (.int ((ds.length+1:Nat):Int)) (.int (((eR x).length:Int)+1)))=false:=by rw[i8,decide_eq_true (by omega)];rfl
 refine⟨_,rfl,rfl,_,rfl,fh ⟨_,rfl,_,_,rfl,rfl,rfl,_,rfl,_,_,rfl,rfl,rfl,.inl ⟨_,_,rfl,rfl,_,_,.d,.d,rfl,_,rfl,cB (c:=!PyData.eqv (.int ((ds.length+1:Nat):Int)) (.int (((eR x).length:Int)+1))) z2 ?_⟩⟩⟩;have hs:slW (.d (dd x.1 ds)) (some 1) none=some (.d (.tuple ds)):=by
  have e1:HT.sIx (ds.length+1) 0 (some 1)=1:=by
   simp only[HT.sIx]
   split<;>omega
  have e2:HT.sIx (ds.length+1) (ds.length+1) none=ds.length+1:=rfl;simp only[slW,dd,xj,D.cutD,List.length_cons,e1,e2];simp
 refine⟨_,rfl,_,rfl,_,rfl,_,hs,rfl,eR x,ds,rfl,?_⟩;refine⟨λ i τ M'=>M'=M/\(∀ j<i,pJ x ds j=true)/\∃ y1 y2,τ=[some (.d (dd x.1 ds)),some (.d (.tuple (eR x))),y1,y2],⟨rfl,λ j h=>by omega,_,_,rfl⟩,?_,?_⟩
 ·rintro i w τ M' hw ⟨rfl,hall,y1,y2,rfl⟩;obtain⟨j,hj,rfl⟩:=zT hw;obtain⟨hlt,hj2⟩:=List.getElem?_eq_some_iff.mp hj;rw[List.getElem_range] at hj2;subst hj2;have hi:i<x.2.2.length:=by simpa [hfm,hl] using hlt
  obtain⟨c,hc⟩:∃ c,x.2.2[i]? =some c:=⟨_,List.getElem?_eq_getElem hi⟩;obtain⟨d',hd'⟩:∃ d',ds[i]? =some d':=⟨_,List.getElem?_eq_getElem (by omega)⟩;have ef:(eR x).getD i .none=.str (cdF c):=by simp[eR,List.getD,hc]
  have ed:ds.getD i .none=d':=by simp[List.getD,hd']
  rw[ef,ed];have hpj:pJ x ds i=pG c d':=by simp only[pJ,List.getD,hc,hd',Option.getD_some]
  refine⟨_,rfl,rfl,_,_,rfl,_,_,rfl,rfl,_,rfl,_,rfl,c,d',rfl,hfl d' (List.mem_of_getElem? hd'),_,rfl,?_⟩;cases hb:pG c d' with
  | true =>
   refine fh ⟨rfl,λ j hj=>?_,_,_,rfl⟩
   by_cases hji:j=i
   ·rw[hji,hpj,hb]
   ·exact hall j (by omega)
  | false =>
   refine n8 ?_;have:wU x ds=false:=by
    unfold wU;rw[ac7 hi (by rw[hpj,hb])];rfl
   rw[this] at k;exact k
 ·rintro τ M' ⟨rfl,hall,y1,y2,rfl⟩;have hlen:(abI (eR x) ds).length=x.2.2.length:=by simp[abI,hfm,hl]
  rw[hlen] at hall;have hA:(List.range x.2.2.length).all (pJ x ds)=true:=by rw[List.all_eq_true];intro j hj;exact hall j (List.mem_range.mp hj)
  obtain⟨_,o2,o3⟩:=agy x hx;refine⟨_,rfl,_,_,.d,.inr rfl,o2,_,rfl,?_⟩;rw[o3,Bool.true_xor];unfold wU at k;rw[hA,Bool.true_and] at k
  by_cases hk:Cd.k∈x.2.2
  ·rw[decide_eq_true hk] at k ⊢;obtain⟨_,_,c1,c2,_⟩:=k_is x hx hk;obtain⟨a,ea⟩:=aae hl (hall _ (List.getElem?_eq_some_iff.mp c1).1) c1 (by decide) (by decide);obtain⟨i,ei⟩:=aae hl (hall _ (List.getElem?_eq_some_iff.mp c2).1) c2 (by decide) (by decide);refine fh ⟨_,rfl,_,rfl,x,hx,hk,ds,a,i,rfl,ea,ei,?_⟩;have:aaK x ds=leK a i:=by simp only[aaK,List.getD,ea,ei,Option.getD_some]
   rw[this] at k;exact k
  ·rw[decide_eq_false hk] at k ⊢;exact n8 k
theorem eqS(x:Str):PyData.eqv (.str x) (.str x)=true:=by rw[dP,decide_eq_true rfl]
theorem neS{x y:Str}(h:x≠y):PyData.eqv (.str x) (.str y)=false:=by rw[dP,decide_eq_false h]
theorem yX(zs:List Str)(hz:∀ y∈zs,wd y=true):okA 0 (zs.map PyData.str)=true:=by
 induction zs with
 | nil=>rfl
 | cons y l ih =>
  simp only[List.map_cons,okA,okD,Bool.and_eq_true];exact⟨sA (hz y (by simp)),ih λ x hx=>hz x (by simp[hx])⟩
theorem rL{zs:List Str}(hz:∀ y∈zs,wd y=true):okD 1 (.list (zs.map PyData.str))=true:=by simp only[okD];exact yX zs hz
theorem acj{z:Str}{zs:List Str}(h:wd z=true)(hz:∀ y∈zs,wd y=true):oR (.str z) (zs.map PyData.str)=true:=by
 have e1:okD 1 (.str z)=true:=by simp only[okD];exact sA h
 unfold oR;rw[jB (by decide) e1,jB (by decide) (rL hz)];rfl
theorem aar(z:Str)(zs:List Str):inA (.str z) (zs.map PyData.str)=decide (z∈zs):=by
 unfold inA;rw[List.any_map]
 by_cases h:z∈zs
 ·rw[decide_eq_true h];exact List.any_eq_true.mpr ⟨z,h,eqS z⟩
 ·rw[decide_eq_false h];refine List.any_eq_false.mpr λ y hy=>?_;show ¬ PyData.eqv (.str y) (.str z)=true;rw[neS (λ e:y=z=>h (e ▸ hy))];simp
theorem o8(zs:List Str):eI zs=(zs.map PyData.str).map W.d:=by rw[List.map_map];rfl
abbrev nm2:List PyData:=[.str "m"]
def bF:SpX:=λ ws M Q _=>ws=[.d (.list nm2)]/\Q (.d .none) M
theorem jZ:∀ ws M Q E,bF ws M Q E->ws.length=1:=by rintro ws M Q E ⟨rfl,_⟩;rfl
theorem aep{ds:List PyData}{i:Nat}{w:W}(h:(qD ds)[i]? =some w):∃ d,ds[i]? =some d/\w=.d (.tuple [.int (i:Nat),d]):=by
 have h':(qD (ds.map id))[i]? =some w:=by rw[List.map_id];exact h
 exact yG h'
theorem two{d:PyData}{i:Nat}(h:nm2[i]? =some d):i<=0/\∃ z:Str,d=.str z/\wd z=true/\oR (.str z) (nm2.take i)=true/\inA (.str z) (nm2.take i)=false:=by
 match i,h with
 | 0,h=>cases h;exact⟨by omega, "m",rfl,by decide +kernel,by decide +kernel,rfl⟩
 | i+1,h=>cases h
theorem rV{z:Str}(h:wd z=true):Fl (.str z):=.inl ⟨z,rfl,sA h,by have:=(wF h).2;omega⟩
theorem jA:∀ ws M Q E,bF ws M Q E->iq (λ a _ M=>E a M) aQ {nx:=λ _ M'=>Q (.d .none) M',rt:=Q} (bh hZ ws) M:=by
 rintro ws M Q E ⟨rfl,k⟩;refine⟨_,rfl,_,_,_,rfl,.d,.list,_,rfl,?_⟩;rw[agn];refine fh ⟨_,rfl,_,.l,fh ⟨_,rfl,nm2,rfl,λ i τ M'=>M'=M/\∃ x2 x3,τ=[some (.d (.list nm2)),x2,x3],⟨rfl,_,_,rfl⟩,?_,?_⟩⟩
 ·rintro i w τ M' hw ⟨rfl,x2,x3,rfl⟩;obtain⟨d,hd,rfl⟩:=aep hw;obtain⟨hi,z,rfl,hz,h1,h2⟩:=two hd;refine⟨_,rfl,rfl,_,_,rfl,_,_,rfl,rfl,?_⟩;have ct:D.cutD nm2 none (some ((i:Nat):Int))=nm2.take i:=sG (by show i<=1;omega);refine⟨_,rfl,_,_,rfl,rfl,_,rfl,cB (decide_eq_false (show ¬ (8:Int)<=(i:Nat) by omega)) ⟨_,rfl,_,rfl,rV hz,_,rfl,?_⟩⟩;rw[show isW (.str z)=true from hz];refine fh ⟨_,rfl,_,rfl,_,rfl,_,rfl,_,rfl,rfl,.str z,D.cutD nm2 none (some ((i:Nat):Int)),.d,.inl .d,by rw[ct];exact h1,_,rfl,?_⟩;rw[ct,h2];exact fh ⟨rfl,_,_,rfl⟩
 ·rintro τ M' ⟨rfl,x2,x3,rfl⟩;exact k
abbrev FB(r w e t d:Addr):List (Str×W):=[("machine_names",.d (.list nm2)),("emptied_names",.d (.list [])),("ranked",.m r),("wished",.m w),("ended",.m e),("told_rows",.m t),("done",.m d)]
abbrev og:List (Key×W):=[(.inr "group",.d (.list [])),(.inr "store",.d (.list [])),(.inr "door",.d (.list [])),(.inr "rule",.d (.list []))]
structure Wi where
 k:PyData
 c:PyData
 p:PyData
 n:PyData
 ed:List PyData
 a:Addr
 l:Addr
abbrev wk(x:Wi):List (Key×W):=[(.inr "kind",.d x.k),(.inr "copies",.d x.c),(.inr "keep",.d x.p),(.inr "edition",.d x.n),(.inr "editions",.m x.l)]
inductive Ro | b | r | w | e | t | d | a (z:Str) | l (z:Str)
abbrev Rm:=Addr->Option Ro
structure Ads where
 b:Addr
 r:Addr
 w:Addr
 e:Addr
 t:Addr
 d:Addr
structure Bs where
 rs:List Str
 es:List Str
 T:List (Str×Wi)
 dn:List PyData
def kvT(T:List (Str×Wi)):List (Key×W):=T.map λ x=>(.inr x.1,.m x.2.a)
structure Bk(M:MH)(ρ:Rm)(A:Ads)(S:Bs):Prop where
 hb:M A.b=some (.ins aj (FB A.r A.w A.e A.t A.d))
 hr:M A.r=some (.lst (eI S.rs))
 hw:M A.w=some (.dic (kvT S.T))
 he:M A.e=some (.lst (eI S.es))
 ht:M A.t=some (.dic og)
 hd:M A.d=some (.lst (S.dn.map W.d))
 cb:ρ A.b=some .b
 cr:ρ A.r=some .r
 cw:ρ A.w=some .w
 ce:ρ A.e=some .e
 ct:ρ A.t=some .t
 cd:ρ A.d=some .d
 hT:∀ x∈S.T,M x.2.a=some (.dic (wk x.2))/\M x.2.l=some (.lst (x.2.ed.map W.d))/\ρ x.2.a=some (.a x.1)/\ρ x.2.l=some (.l x.1)
 tn:(S.T.map (·.1)).Nodup
theorem cne{ρ:Rm}{x y:Addr}{c c':Ro}(h:ρ x=some c)(h':ρ y=some c')(n:c≠c'):x≠y:=λ e=>n (by rw[e,h'] at h;exact(Option.some.inj h).symm)
section
variable {M M':MH}{ρ:Rm}{A:Ads}{S:Bs}
theorem Bk.ext(B:Bk M ρ A S)(x:Ext M M'):Bk M' ρ A S:=⟨x _ _ B.hb,x _ _ B.hr,x _ _ B.hw,x _ _ B.he,x _ _ B.ht,x _ _ B.hd,B.cb,B.cr,B.cw,B.ce,B.ct,B.cd,λ y hy=>⟨x _ _ (B.hT y hy).1,x _ _ (B.hT y hy).2.1,(B.hT y hy).2.2⟩,B.tn⟩
abbrev Fq(M M':MH)(p:Addr):Prop:=∀ q o,q≠p->M q=some o->M' q=some o
theorem Fq.upd(M:MH)(p:Addr)(o:MO):Fq M (bz M p o) p:=λ q u n e=>by rw[aq n];exact e
theorem Bk.ahk(B:Bk M ρ A S){rs:List Str}(f:Fq M M' A.r)(h:M' A.r=some (.lst (eI rs))):Bk M' ρ A {S with rs:=rs}:=
 ⟨f _ _ (cne B.cb B.cr nofun) B.hb,h,f _ _ (cne B.cw B.cr nofun) B.hw,f _ _ (cne B.ce B.cr nofun) B.he,f _ _ (cne B.ct B.cr nofun) B.ht,f _ _ (cne B.cd B.cr nofun) B.hd,B.cb,B.cr,B.cw,B.ce,B.ct,B.cd,λ y hy=>by obtain⟨h1,h2,h3,h4⟩:=B.hT y hy;exact⟨f _ _ (cne h3 B.cr nofun) h1,f _ _ (cne h4 B.cr nofun) h2,h3,h4⟩,B.tn⟩
theorem Bk.ahp(B:Bk M ρ A S){dn:List PyData}(f:Fq M M' A.d)(h:M' A.d=some (.lst (dn.map W.d))):Bk M' ρ A {S with dn:=dn}:=
 ⟨f _ _ (cne B.cb B.cd nofun) B.hb,f _ _ (cne B.cr B.cd nofun) B.hr,f _ _ (cne B.cw B.cd nofun) B.hw,f _ _ (cne B.ce B.cd nofun) B.he,f _ _ (cne B.ct B.cd nofun) B.ht,h,B.cb,B.cr,B.cw,B.ce,B.ct,B.cd,λ y hy=>by obtain⟨h1,h2,h3,h4⟩:=B.hT y hy;exact⟨f _ _ (cne h3 B.cd nofun) h1,f _ _ (cne h4 B.cd nofun) h2,h3,h4⟩,B.tn⟩
def rpT(T:List (Str×Wi))(z:Str)(y:Wi):List (Str×Wi):=T.map λ u=>if u.1=z then (z,y) else u
theorem kA(T:List (Str×Wi))(z:Str)(y:Wi):(rpT T z y).map (·.1)=T.map (·.1):=by
 unfold rpT;rw[List.map_map];refine List.map_congr_left λ u _=>?_;show(if u.1=z then (z,y) else u).1=u.1
 split
 ·rename_i h;exact h.symm
 ·rfl
theorem fg:∀ {T:List (Str×Wi)},(T.map (·.1)).Nodup->∀ {x u:Str×Wi},x∈T->u∈T->u.1=x.1->u=x
 | [],_,_,_,h,_,_=>nomatch h
 | v::T,nd,x,u,hx,hu,e=>by
  rw[List.map_cons,List.nodup_cons] at nd;rcases List.mem_cons.mp hx with h1 | h1
  ·rcases List.mem_cons.mp hu with h2 | h2
   ·rw[h1,h2]
   ·exact absurd (List.mem_map.mpr ⟨u,h2,by rw[e,h1]⟩:v.1∈T.map (·.1)) nd.1
  ·rcases List.mem_cons.mp hu with h2 | h2
   ·exact absurd (List.mem_map.mpr ⟨x,h1,by rw[<- e,h2]⟩:v.1∈T.map (·.1)) nd.1
   ·exact fg nd.2 h1 h2 e
theorem aea{T:List (Str×Wi)}{x:Str×Wi}{y:Wi}(nd:(T.map (·.1)).Nodup)(hx:x∈T)(ya:y.a=x.2.a):kvT (rpT T x.1 y)=kvT T:=by
 unfold kvT rpT;rw[List.map_map];refine List.map_congr_left λ u hu=>?_;show((.inr (if u.1=x.1 then (x.1,y) else u).1:Key),W.m (if u.1=x.1 then (x.1,y) else u).2.a)=_
 split
 ·rename_i h
  have:=fg nd hx hu h;rw[this,ya]
 ·rfl
theorem Bk.abY(B:Bk M ρ A S){x:Str×Wi}{y:Wi}(hx:x∈S.T)(ya:y.a=x.2.a)(yl:y.l=x.2.l)(f:∀ q o,q≠x.2.a->q≠x.2.l->M q=some o->M' q=some o)(h1:M' x.2.a=some (.dic (wk y)))(h2:M' x.2.l=some (.lst (y.ed.map W.d))):Bk M' ρ A {S with T:=rpT S.T x.1 y}:=by
 obtain⟨_,_,c1,c2⟩:=B.hT x hx;refine⟨f _ _ (cne B.cb c1 nofun) (cne B.cb c2 nofun) B.hb,f _ _ (cne B.cr c1 nofun) (cne B.cr c2 nofun) B.hr,?_,f _ _ (cne B.ce c1 nofun) (cne B.ce c2 nofun) B.he,f _ _ (cne B.ct c1 nofun) (cne B.ct c2 nofun) B.ht,f _ _ (cne B.cd c1 nofun) (cne B.cd c2 nofun) B.hd,B.cb,B.cr,B.cw,B.ce,B.ct,B.cd,λ u hu=>?_,?_⟩
 ·show M' A.w=some (.dic (kvT (rpT S.T x.1 y)));rw[aea B.tn hx ya];exact f _ _ (cne B.cw c1 nofun) (cne B.cw c2 nofun) B.hw
 ·obtain⟨v,hv,e⟩:=List.mem_map.mp hu
  by_cases h:v.1=x.1
  ·rw[if_pos h] at e;subst e;exact⟨by rw[ya];exact h1,by rw[yl];exact h2,by rw[ya];exact c1,by rw[yl];exact c2⟩
  ·rw[if_neg h] at e;subst e;obtain⟨g1,g2,g3,g4⟩:=B.hT v hv;have n:Ro.a v.1≠Ro.a x.1:=λ e=>h (by injection e);have n':Ro.l v.1≠Ro.l x.1:=λ e=>h (by injection e);exact⟨f _ _ (cne g3 c1 n) (cne g3 c2 nofun) g1,f _ _ (cne g4 c1 nofun) (cne g4 c2 n') g2,g3,g4⟩
 ·show((rpT S.T x.1 y).map (·.1)).Nodup;rw[kA];exact B.tn
theorem Bk.newX(B:Bk M ρ A S){z:Str}{y:Wi}(hz:z ∉ S.T.map (·.1))(ha:M y.a=none)(hl:M y.l=none)(al:y.a≠y.l)(f:Fq M M' A.w)(hw:M' A.w=some (.dic (kvT (S.T++[(z,y)]))))(h1:M' y.a=some (.dic (wk y)))(h2:M' y.l=some (.lst (y.ed.map W.d))):Bk M' (λ q=>if q=y.a then some (.a z) else if q=y.l then some (.l z) else ρ q) A {S with T:=S.T++[(z,y)]}:=by
 have cq:∀ {q:Addr} {o:MO},M q=some o->(if q=y.a then some (.a z) else if q=y.l then some (.l z) else ρ q)=ρ q:=λ {q o} e=>by rw[if_neg (bt e ha),if_neg (bt e hl)]
 refine⟨f _ _ (cne B.cb B.cw nofun) B.hb,f _ _ (cne B.cr B.cw nofun) B.hr,hw,f _ _ (cne B.ce B.cw nofun) B.he,f _ _ (cne B.ct B.cw nofun) B.ht,f _ _ (cne B.cd B.cw nofun) B.hd,(cq B.hb).trans B.cb,(cq B.hr).trans B.cr,(cq B.hw).trans B.cw,(cq B.he).trans B.ce,(cq B.ht).trans B.ct,(cq B.hd).trans B.cd,λ u hu=>?_,?_⟩
 ·rcases List.mem_append.mp hu with hu | hu
  ·obtain⟨g1,g2,g3,g4⟩:=B.hT u hu;exact⟨f _ _ (cne g3 B.cw nofun) g1,f _ _ (cne g4 B.cw nofun) g2,(cq g1).trans g3,(cq g2).trans g4⟩
  ·rw[List.mem_singleton.mp hu];exact⟨h1,h2,if_pos rfl,by rw[if_neg al.symm,if_pos rfl]⟩
 ·show((S.T++[(z,y)]).map (·.1)).Nodup;rw[List.map_append];exact List.nodup_append.mpr ⟨B.tn,by simp,λ a h1 b h2 e=>hz (by rw[List.mem_singleton.mp (show b∈[z] from h2)] at e;exact e ▸ h1)⟩
end
theorem fW:∀ {T:List (Str×Wi)} {x:Str×Wi},(T.map (·.1)).Nodup->x∈T->mK (kvT T) (.inr x.1)=some (.m x.2.a)
 | [],_,_,h=>nomatch h
 | v::T,x,nd,hx=>by
  rw[List.map_cons,List.nodup_cons] at nd;unfold mK kvT;rw[List.map_cons,List.find?_cons];rcases List.mem_cons.mp hx with rfl | hx
  ·rw[decide_eq_true rfl];rfl
  ·have n:v.1≠x.1:=λ e=>nd.1 (e ▸ List.mem_map.mpr ⟨x,hx,rfl⟩);rw[decide_eq_false (λ e=>n (Sum.inr.inj e))];exact fW nd.2 hx
theorem vd{T:List (Str×Wi)}{z:Str}{y:Wi}(hz:z ∉ T.map (·.1)):xS (kvT T) (.inr z) (.m y.a)=kvT (T++[(z,y)]):=by
 unfold xS;rw[if_neg]
 ·simp[kvT]
 ·rw[Bool.not_eq_true,List.any_eq_false];intro p hp;obtain⟨u,hu,rfl⟩:=List.mem_map.mp hp;simp only[decide_eq_true_eq];exact λ e=>hz (Sum.inr.inj e ▸ List.mem_map.mpr ⟨u,hu,rfl⟩)
structure Ok(S:Bs)(k:Nat):Prop where
 rn:S.rs.Nodup
 rT:∀ z,z∈S.rs ↔ z∈S.T.map (·.1)
 r8:S.rs.length<=8
 rw:∀ z∈S.rs,wd z=true
 ew:∀ z∈S.es,wd z=true
 el:S.es.length<=k
 dl:S.dn.length<=k
 tl:S.T.length<=k
 e9:∀ x∈S.T,x.2.ed.length<=9
theorem Ok.find{S:Bs}{k:Nat}(O:Ok S k){z:Str}(h:z∈S.rs):∃ x∈S.T,x.1=z:=by obtain⟨x,hx,e⟩:=List.mem_map.mp ((O.rT z).mp h);exact⟨x,hx,e⟩
structure Sg(M0 M:MH)(b:Addr)(fs:List (Str×W)):Prop where
 hb:M b=some (.ins aj fs)
 fr:∀ c o,c≠b->M0 c=some o->M c=some o
theorem Sg.put{M0 M:MH}{b:Addr}{fs fs':List (Str×W)}(h:Sg M0 M b fs):Sg M0 (bz M b (.ins aj fs')) b fs':=⟨ak,λ c o n e=>by rw[aq n];exact h.fr c o n e⟩
theorem Sg.new{M0 M:MH}{b q:Addr}{fs:List (Str×W)}{o:MO}(h:Sg M0 M b fs)(hq:M q=none):Sg M0 (bz M q o) b fs:=⟨by rw[aq (bt h.hb hq)];exact h.hb,λ c o n e=>by rw[aq (bt (h.fr c o n e) hq)];exact h.fr c o n e⟩
theorem st2{N:MH}{b x y:Addr}{o o1 o2:MO}(h:N x=some o)(hy:N y=none)(xb:x≠b):bz (bz N y o1) b o2 x=some o:=by rw[aq xb];exact iC h hy
theorem rX{N:MH}{b x:Addr}{o:MO}(h:N b=some o)(hx:N x=none):x≠b:=(bt h hx).symm
def cm:SpX:=λ ws M Q _=>∃ b,ws=[.m b,.d (.list nm2)]/\M b=some (.ins aj [])/\∀ ρ A M',A.b=b->Bk M' ρ A ⟨[],[],[],[]⟩->(∀ c o,c≠b->M c=some o->M' c=some o/\ρ c=none)->Q (.d .none) M'
theorem nR:∀ ws M Q E,cm ws M Q E->ws.length=2:=by rintro ws M Q E ⟨b,rfl,_⟩;rfl
theorem mB:∀ ws M Q E,cm ws M Q E->k9 (λ a _ M=>E a M) bF {nx:=λ _ M'=>Q (.d .none) M',rt:=Q} (bh lY ws) M:=by
 rintro ws M Q E ⟨b,rfl,h,k⟩;refine⟨_,rfl,rfl,?_⟩;refine⟨_,rfl,_,_,rfl,.l,λ l hl=>⟨l,nm2,rfl,ak,_,rfl,b,_,rfl,sealed hl _ _ h,by decide,?_⟩⟩;have x1:=sealed (o:=.lst (nm2.map W.d)) hl;generalize yI (bz M l (.lst (nm2.map W.d))) l=M1 at x1;have S1:Sg M (bz M1 b (.ins aj (bK "machine_names" (.d (.list nm2)) []))) b (bK "machine_names" (.d (.list nm2)) []):=⟨ak,λ c o n e=>by rw[aq n];exact x1 _ _ e⟩;refine⟨_,rfl,few (by simp),_,rfl,b,_,rfl,S1.hb,(by show 1<1000;decide),?_⟩;have S2:=S1.put (fs':=bK "emptied_names" (.d (.list [])) (bK "machine_names" (.d (.list nm2)) []));generalize bz (bz M1 b (.ins aj (bK "machine_names" (.d (.list nm2)) []))) b (.ins aj (bK "emptied_names" (.d (.list [])) (bK "machine_names" (.d (.list nm2)) [])))=N2 at S2;refine⟨few (by simp),λ r hr=>⟨_,rfl,b,_,rfl,(S2.new hr).hb,(by show 2<1000;decide),?_⟩⟩;have S4:=(S2.new (o:=.lst []) hr).put (fs':=bK "ranked" (.m r) (bK "emptied_names" (.d (.list [])) (bK "machine_names" (.d (.list nm2)) [])));have rb:=rX S2.hb hr;have r4:bz (bz N2 r (.lst [])) b (.ins aj (bK "ranked" (.m r) (bK "emptied_names" (.d (.list [])) (bK "machine_names" (.d (.list nm2)) [])))) r=some (.lst []):=by rw[aq rb,ak]
 generalize bz (bz N2 r (.lst [])) b (.ins aj (bK "ranked" (.m r) (bK "emptied_names" (.d (.list [])) (bK "machine_names" (.d (.list nm2)) []))))=N4 at S4 r4;refine λ w hw=>⟨_,rfl,b,_,rfl,(S4.new hw).hb,(by show 3<1000;decide),?_⟩;have S6:=(S4.new (o:=.dic []) hw).put (fs':=bK "wished" (.m w) (bK "ranked" (.m r) (bK "emptied_names" (.d (.list [])) (bK "machine_names" (.d (.list nm2)) []))));have wb:=rX S4.hb hw;have wr:=rX r4 hw;have r6:=st2 (o1:=.dic []) (o2:=.ins aj (bK "wished" (.m w) (bK "ranked" (.m r) (bK "emptied_names" (.d (.list [])) (bK "machine_names" (.d (.list nm2)) []))))) r4 hw rb;have w6:bz (bz N4 w (.dic [])) b (.ins aj (bK "wished" (.m w) (bK "ranked" (.m r) (bK "emptied_names" (.d (.list [])) (bK "machine_names" (.d (.list nm2)) []))))) w=some (.dic []):=by rw[aq wb,ak]
 generalize bz (bz N4 w (.dic [])) b (.ins aj (bK "wished" (.m w) (bK "ranked" (.m r) (bK "emptied_names" (.d (.list [])) (bK "machine_names" (.d (.list nm2)) [])))))=N6 at S6 r6 w6;refine⟨few (by simp),λ e he=>⟨_,rfl,b,_,rfl,(S6.new he).hb,(by show 4<1000;decide),?_⟩⟩;have S8:=(S6.new (o:=.lst []) he).put (fs':=bK "ended" (.m e) (bK "wished" (.m w) (bK "ranked" (.m r) (bK "emptied_names" (.d (.list [])) (bK "machine_names" (.d (.list nm2)) [])))));have eb:=rX S6.hb he;have er:=rX r6 he;have ew:=rX w6 he;have r8:=st2 (o1:=.lst []) (o2:=.ins aj (bK "ended" (.m e) (bK "wished" (.m w) (bK "ranked" (.m r) (bK "emptied_names" (.d (.list [])) (bK "machine_names" (.d (.list nm2)) [])))))) r6 he rb;have w8:=st2 (o1:=.lst []) (o2:=.ins aj (bK "ended" (.m e) (bK "wished" (.m w) (bK "ranked" (.m r) (bK "emptied_names" (.d (.list [])) (bK "machine_names" (.d (.list nm2)) [])))))) w6 he wb;have e8:bz (bz N6 e (.lst [])) b (.ins aj (bK "ended" (.m e) (bK "wished" (.m w) (bK "ranked" (.m r) (bK "emptied_names" (.d (.list [])) (bK "machine_names" (.d (.list nm2)) [])))))) e=some (.lst []):=by rw[aq eb,ak]
 generalize bz (bz N6 e (.lst [])) b (.ins aj (bK "ended" (.m e) (bK "wished" (.m w) (bK "ranked" (.m r) (bK "emptied_names" (.d (.list [])) (bK "machine_names" (.d (.list nm2)) []))))))=N8 at S8 r8 w8 e8;intro t ht;refine⟨_,rfl,few (by simp),_,rfl,few (by simp),_,rfl,few (by simp),_,rfl,few (by simp),ak,og,rfl,by decide,by decide +kernel,?_⟩;rw[qw];refine⟨_,rfl,b,_,rfl,(S8.new ht).hb,(by show 5<1000;decide),?_⟩;have S10:=(S8.new (o:=.dic og) ht).put (fs':=bK "told_rows" (.m t) (bK "ended" (.m e) (bK "wished" (.m w) (bK "ranked" (.m r) (bK "emptied_names" (.d (.list [])) (bK "machine_names" (.d (.list nm2)) []))))));have tb:=rX S8.hb ht;have tr:=rX r8 ht;have tw:=rX w8 ht;have te:=rX e8 ht;have r10:=st2 (o1:=.dic og) (o2:=.ins aj (bK "told_rows" (.m t) (bK "ended" (.m e) (bK "wished" (.m w) (bK "ranked" (.m r) (bK "emptied_names" (.d (.list [])) (bK "machine_names" (.d (.list nm2)) []))))))) r8 ht rb;have w10:=st2 (o1:=.dic og) (o2:=.ins aj (bK "told_rows" (.m t) (bK "ended" (.m e) (bK "wished" (.m w) (bK "ranked" (.m r) (bK "emptied_names" (.d (.list [])) (bK "machine_names" (.d (.list nm2)) []))))))) w8 ht wb;have e10:=st2 (o1:=.dic og) (o2:=.ins aj (bK "told_rows" (.m t) (bK "ended" (.m e) (bK "wished" (.m w) (bK "ranked" (.m r) (bK "emptied_names" (.d (.list [])) (bK "machine_names" (.d (.list nm2)) []))))))) e8 ht eb;have t10:bz (bz N8 t (.dic og)) b (.ins aj (bK "told_rows" (.m t) (bK "ended" (.m e) (bK "wished" (.m w) (bK "ranked" (.m r) (bK "emptied_names" (.d (.list [])) (bK "machine_names" (.d (.list nm2)) []))))))) t=some (.dic og):=by rw[aq tb,ak]
 generalize bz (bz N8 t (.dic og)) b (.ins aj (bK "told_rows" (.m t) (bK "ended" (.m e) (bK "wished" (.m w) (bK "ranked" (.m r) (bK "emptied_names" (.d (.list [])) (bK "machine_names" (.d (.list nm2)) [])))))))=N10 at S10 r10 w10 e10 t10;refine⟨few (by simp),λ d hd=>⟨_,rfl,b,_,rfl,(S10.new hd).hb,(by show 6<1000;decide),?_⟩⟩;have S12:=(S10.new (o:=.lst []) hd).put (fs':=FB r w e t d);have db:=rX S10.hb hd;have dr:=rX r10 hd;have dw:=rX w10 hd;have de:=rX e10 hd;have dt:=rX t10 hd;refine k (λ q=>if q=b then some .b else if q=r then some .r else if q=w then some .w else if q=e then some .e else if q=t then some .t else if q=d then some .d else none) ⟨b,r,w,e,t,d⟩ _ rfl ⟨S12.hb,st2 r10 hd rb,st2 w10 hd wb,st2 e10 hd eb,st2 t10 hd tb,by show bz (bz N10 d (.lst [])) b _ d=_;rw[aq db,ak];rfl,if_pos rfl,?_,?_,?_,?_,?_,(λ x hx=>nomatch hx),.nil⟩ λ c o n e0=>⟨S12.fr c o n e0,?_⟩
 ·show(if r=b then _ else _)=_;rw[if_neg rb,if_pos rfl]
 ·show(if w=b then _ else _)=_;rw[if_neg wb,if_neg wr,if_pos rfl]
 ·show(if e=b then _ else _)=_;rw[if_neg eb,if_neg er,if_neg ew,if_pos rfl]
 ·show(if t=b then _ else _)=_;rw[if_neg tb,if_neg tr,if_neg tw,if_neg te,if_pos rfl]
 ·show(if d=b then _ else _)=_;rw[if_neg db,if_neg dr,if_neg dw,if_neg de,if_neg dt,if_pos rfl]
 ·show(if c=b then _ else _)=_;rw[if_neg n,if_neg (bt (S2.fr c o n e0) hr),if_neg (bt (S4.fr c o n e0) hw),if_neg (bt (S6.fr c o n e0) he),if_neg (bt (S8.fr c o n e0) ht),if_neg (bt (S10.fr c o n e0) hd)]
def bx:SpD:=λ ws _ _=>ws.length=1/\False
theorem jK:∀ ws M Q,bx ws M Q->ws.length=1:=λ _ _ _ h=>h.1
theorem ju:∀ ws M Q,bx ws M Q->gM {nx:=λ _ M'=>Q (.d .none) M',rt:=Q} (bh gA ws) M:=λ _ _ _ h=>h.2.elim
def a6:SpD:=λ ws M Q=>∃ ρ A S,ws=[.m A.b]/\Bk M ρ A S/\∀ l M',M l=none->Ext M M'->M' l=some (.lst (eI S.rs))->Q (.m l) M'
theorem lL:∀ ws M Q,a6 ws M Q->ws.length=1:=by rintro ws M Q ⟨ρ,A,S,rfl,_⟩;rfl
theorem j8:∀ ws M Q,a6 ws M Q->iY {nx:=λ _ M'=>Q (.d .none) M',rt:=Q} (bh je ws) M:=by
 rintro ws M Q ⟨ρ,A,S,rfl,B,k⟩;exact⟨_,rfl,A.b,_,_,rfl,B.hb,rfl,_,_,rfl,.m B.hr,λ l hl=>k l _ hl (Ext.new hl) ak⟩
def aw:SpD:=λ ws M Q=>∃ ρ A S,ws=[.m A.b,.d (.str "wish")]/\Bk M ρ A S/\∀ l M',M l=none->Ext M M'->M' l=some (.lst (eI S.rs))->Q (.m l) M'
theorem jF:∀ ws M Q,aw ws M Q->ws.length=2:=by rintro ws M Q ⟨ρ,A,S,rfl,_⟩;rfl
theorem iT:∀ ws M Q,aw ws M Q->gu bx a6 {nx:=λ _ M'=>Q (.d .none) M',rt:=Q} (bh gF ws) M:=by
 rintro ws M Q ⟨ρ,A,S,rfl,B,k⟩;exact⟨_,rfl,_,_,.d,.d,rfl,_,rfl,cB (neS (by decide +kernel)) ⟨_,rfl,_,_,.d,.d,rfl,_,rfl,eL (eqS _) ⟨_,rfl,A.b,_,rfl,B.hb,rfl,ρ,A,S,rfl,B,k⟩⟩⟩
inductive De
 | gR (z kd:Str) (c p s h:Int)
 | copies (z:Str) (c p:Int)
 | edition (z:Str) (s h:Int)
 | back (z:Str)
def De.z:De->Str
 | .gR z _ _ _ _ _=>z
 | .copies z _ _=>z
 | .edition z _ _=>z
 | .back z=>z
def De.isW:De->Bool
 | .gR _ _ _ _ _ _=>true
 | _=>false
def De.isE:De->Bool
 | .edition _ _ _=>true
 | _=>false
def De.isB:De->Bool
 | .back _=>true
 | _=>false
def deD:De->PyData
 | .gR z kd c p s h=>dd "wish" [.str z,.str kd,.int c,.int p,.int s,.int h]
 | .copies z c p=>dd "copies" [.str z,.int c,.int p]
 | .edition z s h=>dd "edition" [.str z,.int s,.int h]
 | .back z=>dd "back" [.str z]
theorem jD{M0 M:MH}{E:XQ}{C:Addr}{fs:List (Str×W)}(x:Ext M0 M)(k:∀ a M',Ext M0 M'->M' a=some (.exc C fs)->E a M'):∀ a,M a=none->E a (bz M a (.exc C fs)):=λ a ha=>k a _ (x.trans (Ext.new ha)) ak
inductive dI(ws:List W) (M:MH) (Q:QD) (E:XQ):Prop
 | mk (ρ:Rm) (A:Ads) (S:Bs) (k:Nat) (D:De) (z0:ws=[.m A.b,.d (deD D)]) (B:Bk M ρ A S) (O:Ok S k) (hz:wd D.z=true) (q:(D.isW=true\/D.z∈S.rs)->∀ M',Ext M M'->Q (.d .none) M') (x:D.isW=false->D.z ∉ S.rs->∀ a M',Ext M M'->M' a=some (.exc aF [("name",.d (.str D.z))])->E a M'):dI ws M Q E
def aL:SpX:=dI
theorem fY:∀ ws M Q E,aL ws M Q E->ws.length=2:=by rintro ws M Q E ⟨ρ,A,S,k,D,rfl,_⟩;rfl
theorem oe{M:MH}{Q:QD}{E:XQ}{ρ:Rm}{A:Ads}{S:Bs}{k:Nat}{z:Str}{τ:DS}(B:Bk M ρ A S)(O:Ok S k)(hz:wd z=true)(h0:τ[0]? =some (some (.m A.b)))(h2:τ[2]? =some (some (.d (.str "wish"))))(h3:τ[3]? =some (some (.d (.str z))))(q:z∈S.rs->∀ M',Ext M M'->Q (.d .none) M')(x:z ∉ S.rs->∀ a M',Ext M M'->M' a=some (.exc aF [("name",.d (.str z))])->E a M') :
  (dIf (a9 (dOp (oJ true) (ao 3) (jN aj "names_of" aw (ao 0) (ai (ao 2) (aW)))))
   (ib aF ["name"] (λ a _ M=>E a M) (ai (ao 3) (aW)))
   (bX)) {nx:=λ _ M'=>Q (.d .none) M',rt:=Q} τ M:=by
 refine⟨_,h3,_,h0,A.b,_,rfl,B.hb,rfl,_,h2,ρ,A,S,rfl,B,λ l M' hl xt e=>⟨.str z,S.rs.map PyData.str,.d,.inl (.l (by rw[<- o8];exact e)),acj hz O.rw,_,rfl,?_⟩⟩;rw[aar]
 by_cases h:z∈S.rs
 ·exact cB (by rw[decide_eq_true h];rfl) (q h M' xt)
 ·exact eL (by rw[decide_eq_false h];rfl) ⟨_,h3,rfl,by simp,jD xt (x h)⟩
theorem fG:∀ ws M Q E,aL ws M Q E->eB (λ a _ M=>E a M) aw {nx:=λ _ M'=>Q (.d .none) M',rt:=Q} (bh eh ws) M:=by
 rintro ws M Q E ⟨ρ,A,S,k,D,rfl,B,O,hz,q,x⟩;cases D with
 | gR z kd c p s h =>
  exact⟨_,rfl,_,_,rfl,jv,rfl,_,_,.d,.d,rfl,_,rfl,cB (neS (by decide +kernel)) ⟨_,rfl,_,_,rfl,jv,rfl,_,rfl,_,rfl,cB (by decide +kernel) (q (.inl rfl) M (Ext.refl M))⟩⟩
 | copies z c p =>
  exact⟨_,rfl,_,_,rfl,jv,rfl,_,_,.d,.d,rfl,_,rfl,cB (neS (by decide +kernel)) ⟨_,rfl,_,_,rfl,jv,rfl,_,rfl,_,rfl,eL (by decide +kernel) ⟨_,rfl,_,_,rfl,jv,rfl, "copies",_,rfl,rfl,_,rfl,rfl,_,_,rfl,_,_,rfl,rfl,_,rfl,_,rfl,_,_,rfl,fF (j:=1) rfl,rfl,oe B O hz rfl rfl rfl (λ h=>q (.inr h)) (x rfl)⟩⟩⟩
 | edition z s h =>
  exact⟨_,rfl,_,_,rfl,jv,rfl,_,_,.d,.d,rfl,_,rfl,cB (neS (by decide +kernel)) ⟨_,rfl,_,_,rfl,jv,rfl,_,rfl,_,rfl,eL (by decide +kernel) ⟨_,rfl,_,_,rfl,jv,rfl, "edition",_,rfl,rfl,_,rfl,rfl,_,_,rfl,_,_,rfl,rfl,_,rfl,_,rfl,_,_,rfl,fF (j:=1) rfl,rfl,oe B O hz rfl rfl rfl (λ h=>q (.inr h)) (x rfl)⟩⟩⟩
 | back z =>
  exact⟨_,rfl,_,_,rfl,jv,rfl,_,_,.d,.d,rfl,_,rfl,cB (neS (by decide +kernel)) ⟨_,rfl,_,_,rfl,jv,rfl,_,rfl,_,rfl,eL (by decide +kernel) ⟨_,rfl,_,_,rfl,jv,rfl, "back",_,rfl,rfl,_,rfl,rfl,_,_,rfl,_,_,rfl,rfl,_,rfl,_,rfl,_,_,rfl,fF (j:=1) rfl,rfl,oe B O hz rfl rfl rfl (λ h=>q (.inr h)) (x rfl)⟩⟩⟩
theorem ago{M:MH}{l:Addr}{zs:List Str}(h:M l=some (.lst (eI zs))):ur M (.m l)=some zs.length:=by simp only[ur,h];simp[eI]
inductive eE(ws:List W) (M:MH) (Q:QD) (E:XQ):Prop
 | mk (ρ:Rm) (A:Ads) (S:Bs) (k:Nat) (D:De) (z0:ws=[.m A.b,.d (deD D)]) (B:Bk M ρ A S) (O:Ok S k) (hz:wd D.z=true) (q:(D.isW=true->D.z ∉ S.rs/\D.z ∉ S.es)->∀ M',Ext M M'->Q (.d .none) M') (x:D.isW=true->(D.z∈S.rs\/D.z∈S.es)->∀ a M',Ext M M'->M' a=some (.exc bE [("name",.d (.str D.z))])->E a M'):eE ws M Q E
def aS:SpX:=eE
theorem gy:∀ ws M Q E,aS ws M Q E->ws.length=2:=by rintro ws M Q E ⟨ρ,A,S,k,D,rfl,_⟩;rfl
theorem gj:∀ ws M Q E,aS ws M Q E->eQ (λ a _ M=>E a M) aw {nx:=λ _ M'=>Q (.d .none) M',rt:=Q} (bh ff ws) M:=by
 rintro ws M Q E ⟨ρ,A,S,k,D,rfl,B,O,hz,q,x⟩;cases D with
 | copies z c p=>exact⟨_,rfl,_,_,rfl,jv,rfl,_,rfl,_,_,rfl,fF (j:=1) rfl,rfl,_,_,rfl,_,rfl,_,rfl,_,rfl,cB (by decide +kernel) (fh ⟨_,rfl,_,_,.d,.d,rfl,_,rfl,cB (neS (by decide +kernel)) (fh (q nofun M (Ext.refl M)))⟩)⟩
 | edition z s h=>exact⟨_,rfl,_,_,rfl,jv,rfl,_,rfl,_,_,rfl,fF (j:=1) rfl,rfl,_,_,rfl,_,rfl,_,rfl,_,rfl,cB (by decide +kernel) (fh ⟨_,rfl,_,_,.d,.d,rfl,_,rfl,cB (neS (by decide +kernel)) (fh (q nofun M (Ext.refl M)))⟩)⟩
 | back z=>exact⟨_,rfl,_,_,rfl,jv,rfl,_,rfl,_,_,rfl,fF (j:=1) rfl,rfl,_,_,rfl,_,rfl,_,rfl,_,rfl,cB (by decide +kernel) (fh ⟨_,rfl,_,_,.d,.d,rfl,_,rfl,cB (neS (by decide +kernel)) (fh (q nofun M (Ext.refl M)))⟩)⟩
 | gR z kd c p s h =>
  have hz:wd z=true:=hz;refine⟨_,rfl,_,_,rfl,jv,rfl,_,rfl,_,_,rfl,fF (j:=1) rfl,rfl,_,_,rfl,_,rfl,_,rfl,_,rfl,eL (by decide +kernel) ⟨_,rfl,_,rfl,A.b,_,rfl,B.hb,rfl,_,rfl,ρ,A,S,rfl,B,λ l M' hl xt e=>⟨.str z,S.rs.map PyData.str,.d,.inl (.l (by rw[<- o8];exact e)),acj hz O.rw,_,rfl,?_⟩⟩⟩;rw[aar];have B':=B.ext xt
  by_cases h1:z∈S.rs
  ·exact eL (by rw[decide_eq_true h1];rfl) ⟨_,rfl,rfl,by simp,jD xt (x rfl (.inl h1))⟩
  ·refine cB (by rw[decide_eq_false h1];rfl) ⟨_,rfl,_,_,.d,.d,rfl,_,rfl,eL (eqS _) ⟨_,rfl,_,rfl,A.b,_,_,rfl,B'.hb,rfl,.str z,S.es.map PyData.str,.d,.inl (.l (by rw[<- o8];exact B'.he)),acj hz O.ew,_,rfl,?_⟩⟩;rw[aar]
   by_cases h2:z∈S.es
   ·exact eL (by rw[decide_eq_true h2];rfl) ⟨_,rfl,rfl,by simp,jD xt (x rfl (.inr h2))⟩
   ·exact cB (by rw[decide_eq_false h2];rfl) (q (λ _=>⟨h1,h2⟩) M' xt)
inductive dF(ws:List W) (M:MH) (Q:QD) (E:XQ):Prop
 | mk (ρ:Rm) (A:Ads) (S:Bs) (k:Nat) (D:De) (z0:ws=[.m A.b,.d (deD D)]) (B:Bk M ρ A S) (O:Ok S k) (hs:D.isW=false->D.z∈S.rs) (q:(D.isW=true->S.rs.length<8)->(D.isE=true->∀ x∈S.T,x.1=D.z->x.2.ed.length<9)->∀ M',Ext M M'->Q (.d .none) M') (x8:D.isW=true->8<=S.rs.length->∀ a M',Ext M M'->M' a=some (.exc ar [("most",.d (.int 8))])->E a M') (x9:D.isE=true->(∃ x∈S.T,x.1=D.z/\9<=x.2.ed.length)->∀ a M',Ext M M'->M' a=some (.exc ar [("most",.d (.int 9))])->E a M'):dF ws M Q E
def aI:SpX:=dF
theorem fC:∀ ws M Q E,aI ws M Q E->ws.length=2:=by rintro ws M Q E ⟨ρ,A,S,k,D,rfl,_⟩;rfl
theorem fy:∀ ws M Q E,aI ws M Q E->dG (λ a _ M=>E a M) aw {nx:=λ _ M'=>Q (.d .none) M',rt:=Q} (bh dM ws) M:=by
 rintro ws M Q E ⟨ρ,A,S,k,D,rfl,B,O,hs,q,x8,x9⟩;cases D with
 | copies z c p=>exact⟨_,rfl,_,_,rfl,jv,rfl,_,rfl,_,rfl,_,rfl,cB (by decide +kernel) (fh ⟨_,rfl,_,_,.d,.d,rfl,_,rfl,cB (neS (by decide +kernel)) (fh (q nofun nofun M (Ext.refl M)))⟩)⟩
 | back z=>exact⟨_,rfl,_,_,rfl,jv,rfl,_,rfl,_,rfl,_,rfl,cB (by decide +kernel) (fh ⟨_,rfl,_,_,.d,.d,rfl,_,rfl,cB (neS (by decide +kernel)) (fh (q nofun nofun M (Ext.refl M)))⟩)⟩
 | edition z s h =>
  obtain⟨x,hx,ez⟩:=O.find (hs rfl);have ez:x.1=z:=ez;obtain⟨g1,g2,_⟩:=B.hT x hx;refine⟨_,rfl,_,_,rfl,jv,rfl,_,rfl,_,rfl,_,rfl,cB (by decide +kernel) (fh ⟨_,rfl,_,_,.d,.d,rfl,_,rfl,eL (eqS _) ⟨_,rfl,A.b,_,_,rfl,B.hb,rfl,_,rfl,_,_,rfl,fF (j:=1) rfl,rfl,A.w,_,.inr z,_,rfl,.inl B.hw,rfl,(by rw[<- ez];exact fW B.tn hx),x.2.a,_,.inr "editions",_,rfl,.inl g1,rfl,rfl,_,x.2.ed.length,rfl,(by simp only[ur,g2];simp),rfl,_,_,rfl,rfl,_,rfl,?_⟩⟩)⟩
  by_cases h9:x.2.ed.length<9
  ·exact cB (decide_eq_false (show ¬ (9:Int)<=(x.2.ed.length:Nat) by omega)) (q nofun (λ _ u hu eu=>by rw[fg B.tn hx hu (eu.trans ez.symm)];exact h9) M (Ext.refl M))
  ·exact eL (decide_eq_true (show(9:Int)<=(x.2.ed.length:Nat) by omega)) ⟨rfl,by simp,jD (Ext.refl M) (x9 rfl ⟨x,hx,ez,by omega⟩)⟩
 | gR z kd c p s h =>
  refine⟨_,rfl,_,_,rfl,jv,rfl,_,rfl,_,rfl,_,rfl,eL (by decide +kernel) ⟨_,rfl,A.b,_,rfl,B.hb,rfl,_,rfl,ρ,A,S,rfl,B,λ l M' hl xt e=>⟨_,S.rs.length,rfl,ago e,rfl,_,rfl, "wish",.int 8,rfl,rfl,_,_,rfl,rfl,_,rfl,?_⟩⟩⟩
  by_cases h8:8<=S.rs.length
  ·exact eL (decide_eq_true (show(8:Int)<=(S.rs.length:Nat) by omega)) ⟨_,rfl, "wish",.int 8,rfl,rfl,rfl,by simp,jD xt (x8 rfl h8)⟩
  ·exact cB (decide_eq_false (show ¬ (8:Int)<=(S.rs.length:Nat) by omega)) ⟨_,rfl,_,_,.d,.d,rfl,_,rfl,cB (neS (by decide +kernel)) (fh (q (λ _=>by omega) nofun M' xt))⟩
inductive dJ(ws:List W) (M:MH) (Q:QD) (E:XQ):Prop
 | mk (ρ:Rm) (A:Ads) (S:Bs) (k:Nat) (D:De) (z0:ws=[.m A.b,.d (deD D)]) (B:Bk M ρ A S) (O:Ok S k) (hs:D.isW=false->D.z∈S.rs) (hn:∀ x∈S.T,∃ m:Int,x.2.n=.int m) (q:(D.isB=true->∀ x∈S.T,x.1=D.z->x.2.n ≠ .int 1)->Q (.d .none) M) (xb:D.isB=true->(∃ x∈S.T,x.1=D.z/\x.2.n=.int 1)->∀ a M',Ext M M'->M' a=some (.exc az [])->E a M'):dJ ws M Q E
def aK:SpX:=dJ
theorem fS:∀ ws M Q E,aK ws M Q E->ws.length=2:=by rintro ws M Q E ⟨ρ,A,S,k,D,rfl,_⟩;rfl
theorem fI:∀ ws M Q E,aK ws M Q E->d5 (λ a _ M=>E a M) {nx:=λ _ M'=>Q (.d .none) M',rt:=Q} (bh d3 ws) M:=by
 rintro ws M Q E ⟨ρ,A,S,k,D,rfl,B,O,hs,hn,q,xb⟩;cases D with
 | back z =>
  obtain⟨x,hx,ez⟩:=O.find (hs rfl);have ez:x.1=z:=ez;obtain⟨g1,g2,_⟩:=B.hT x hx;obtain⟨m,em⟩:=hn x hx;refine⟨_,rfl,_,_,rfl,jv,rfl,_,_,.d,.d,rfl,_,rfl,eL (eqS _) ⟨_,rfl,A.b,_,_,rfl,B.hb,rfl,_,rfl,_,_,rfl,fF (j:=1) rfl,rfl,A.w,_,.inr z,_,rfl,.inl B.hw,rfl,(by rw[<- ez];exact fW B.tn hx),x.2.a,_,.inr "edition",.d (.int m),rfl,.inl g1,rfl,(by rw[<- em];rfl),_,_,.d,.d,rfl,_,rfl,?_⟩⟩
  by_cases h:m=1
  ·exact eL (by rw[i8];exact decide_eq_true h) ⟨by simp,jD (Ext.refl M) (xb rfl ⟨x,hx,ez,by rw[em,h]⟩)⟩
  ·exact cB (by rw[i8];exact decide_eq_false h) (q λ _ u hu eu e=>by
    rw[fg B.tn hx hu (eu.trans ez.symm),em] at e
    injection e with e
    exact h e)
 | _=>exact⟨_,rfl,_,_,rfl,jv,rfl,_,_,.d,.d,rfl,_,rfl,cB (neS (by decide +kernel)) (fh (q nofun))⟩
def aZ:SpD:=λ ws M Q=>∃ (ρ:Rm) (A:Ads) (S:Bs) (D:De),ws=[.m A.b,.d (deD D)]/\Bk M ρ A S/\Q (.d .none) M
theorem hW:∀ ws M Q,aZ ws M Q->ws.length=2:=by rintro ws M Q ⟨ρ,A,S,D,rfl,_⟩;rfl
theorem gC:∀ ws M Q,aZ ws M Q->fq {nx:=λ _ M'=>Q (.d .none) M',rt:=Q} (bh fm ws) M:=by
 rintro ws M Q ⟨ρ,A,S,D,rfl,B,k⟩;cases D<;>exact⟨_,rfl,_,_,rfl,jv,rfl,_,_,.d,.d,rfl,_,rfl,eL (by rw[neS (by decide +kernel)];rfl) k⟩
def Fr2(M:MH)(ρ:Rm)(M':MH)(ρ':Rm):Prop:=∀ c o,M c=some o->ρ c=none->M' c=some o/\ρ' c=none
theorem Fr2.trans{A B C:MH}{ρ ρ' ρ'':Rm}(h:Fr2 A ρ B ρ')(k:Fr2 B ρ' C ρ''):Fr2 A ρ C ρ'':=λ c o e n=>k c o (h c o e n).1 (h c o e n).2
theorem Fr2.ext{M M':MH}{ρ:Rm}(x:Ext M M'):Fr2 M ρ M' ρ:=λ c o e n=>⟨x c o e,n⟩
theorem Fr2.upd{M:MH}{ρ:Rm}{p:Addr}{r:Ro}{o:MO}(h:ρ p=some r):Fr2 M ρ (bz M p o) ρ:=λ c u e n=>⟨by rw[aq (λ z=>by rw[z,h] at n;cases n)];exact e,n⟩
inductive jS(ws:List W) (M:MH) (Q:QD):Prop
 | mk (ρ:Rm) (A:Ads) (S:Bs) (z kd:Str) (c p s h:Int) (z0:ws=[.m A.b,.d (deD (.gR z kd c p s h))]) (B:Bk M ρ A S) (hz:z ∉ S.T.map (·.1)) (h8:S.rs.length<=100) (hT:S.T.length<=1000) (q:∀ ρ' a l M',Bk M' ρ' A ⟨S.rs++[z],S.es,S.T++[(z,⟨.str kd,.int c,.int p,.int 1,[.tuple [.int s,.int h]],a,l⟩)],S.dn⟩->Fr2 M ρ M' ρ'->Q (.d .none) M'):jS ws M Q
def bV:SpD:=jS
theorem oA:∀ ws M Q,bV ws M Q->ws.length=2:=by rintro ws M Q ⟨ρ,A,S,z,kd,c,p,s,h,rfl,_⟩;rfl
theorem zt(zs:List Str)(z:Str):eI zs++[.d (.str z)]=eI (zs++[z]):=by simp[eI]
theorem mj:∀ ws M Q,bV ws M Q->ll {nx:=λ _ M'=>Q (.d .none) M',rt:=Q} (bh lJ ws) M:=by
 rintro ws M Q ⟨ρ,A,S,z,kd,c,p,s,h,rfl,B,hz,h8,hT,k⟩;have sl:=s16;refine⟨_,rfl,_,rfl,_,rfl,rfl,_,rfl,rfl,_,_,rfl,_,_,rfl,_,_,rfl,_,_,rfl,_,_,rfl,_,_,rfl,rfl,?_⟩;refine⟨_,rfl,A.b,_,_,rfl,B.hb,rfl,A.r,_,rfl,B.hr,_,rfl,_,B.hr,(by simp only[eI,List.length_map];omega),?_⟩;rw[zt];have B1:Bk (bz M A.r (.lst (eI (S.rs++[z])))) ρ A {S with rs:=S.rs++[z]}:=B.ahk (Fq.upd _ _ _) ak;have f1:Fr2 M ρ (bz M A.r (.lst (eI (S.rs++[z])))) ρ:=Fr2.upd B.cr;generalize bz M A.r (.lst (eI (S.rs++[z])))=M1 at B1 f1;intro a ha;refine⟨_,rfl,_,rfl,_,rfl,_,rfl,_,rfl,_,rfl,few (by simp),few (by simp),λ l hl=>⟨?_,wk ⟨.str kd,.int c,.int p,.int 1,[.tuple [.int s,.int h]],a,l⟩,rfl,(by show 5<=15;decide),(by show([.inr "kind",.inr "copies",.inr "keep",.inr "edition",.inr "editions"]:List Key).Nodup;decide +kernel),?_⟩⟩
 ·exact iC ak hl
 have al:a≠l:=bt ak hl;have hl1:M1 l=none:=by rw[aq (Ne.symm al)] at hl;exact hl
 have wa:A.w≠a:=bt B1.hw ha;have wl:A.w≠l:=bt B1.hw hl1;have ba:A.b≠a:=bt B1.hb ha;have bl:A.b≠l:=bt B1.hb hl1;refine⟨_,rfl,A.b,_,_,rfl,(by rw[aq ba,aq bl,aq ba];exact B1.hb),rfl,_,rfl,A.w,_,.inr z,rfl,(by rw[aq wa,aq wl,aq wa];exact B1.hw),rfl,(by simp only[kvT,List.length_map];omega),?_⟩;refine k _ a l _ (B1.newX (y:=⟨.str kd,.int c,.int p,.int 1,[.tuple [.int s,.int h]],a,l⟩) hz ha hl1 al (λ q o n e=>?_) ?_ ?_ ?_) (f1.trans λ q o e n=>⟨?_,?_⟩)
 ·rw[aq n,aq (bt e ha),aq (bt e hl1),aq (bt e ha)];exact e
 ·rw[ak,<- vd hz]
 ·show bz _ A.w _ a=_;rw[aq (Ne.symm wa),ak]
 ·show bz _ A.w _ l=_;rw[aq (Ne.symm wl),aq (Ne.symm al),ak];rfl
 ·have nw:q≠A.w:=λ z=>by rw[z,B1.cw] at n;cases n
  rw[aq nw,aq (bt e ha),aq (bt e hl1),aq (bt e ha)];exact e
 ·show(if q=a then _ else if q=l then _ else _)=_;rw[if_neg (bt e ha),if_neg (bt e hl1)];exact n
inductive ie(ws:List W) (M:MH) (Q:QD):Prop
 | mk (ρ:Rm) (A:Ads) (S:Bs) (x:Str×Wi) (c p:Int) (z0:ws=[.m A.b,.d (deD (.copies x.1 c p))]) (B:Bk M ρ A S) (hx:x∈S.T) (q:∀ M',Bk M' ρ A {S with T:=rpT S.T x.1 {x.2 with c:=.int c,p:=.int p}}->Fr2 M ρ M' ρ->Q (.d .none) M'):ie ws M Q
def bC:SpD:=ie
theorem lN:∀ ws M Q,bC ws M Q->ws.length=2:=by rintro ws M Q ⟨ρ,A,S,x,c,p,rfl,_⟩;rfl
theorem kf:∀ ws M Q,bC ws M Q->jl {nx:=λ _ M'=>Q (.d .none) M',rt:=Q} (bh jd ws) M:=by
 rintro ws M Q ⟨ρ,A,S,x,c,p,rfl,B,hx,k⟩;have sl:=s16;obtain⟨g1,g2,c1,c2⟩:=B.hT x hx;have lk:=fW B.tn hx;have ba:A.b≠x.2.a:=cne B.cb c1 nofun;have wa:A.w≠x.2.a:=cne B.cw c1 nofun;have la:x.2.l≠x.2.a:=cne c2 c1 nofun;refine⟨_,rfl,_,rfl,_,rfl,rfl,_,rfl,rfl,_,_,rfl,_,_,rfl,_,_,rfl,rfl,?_⟩;refine⟨_,rfl,_,rfl,A.b,_,_,rfl,B.hb,rfl,_,rfl,A.w,_,.inr x.1,_,rfl,.inl B.hw,rfl,lk,x.2.a,_,.inr "copies",rfl,g1,rfl,(by show 5<sizeLine;omega),?_⟩;refine⟨_,rfl,_,rfl,A.b,_,_,rfl,(by rw[aq ba];exact B.hb),rfl,_,rfl,A.w,_,.inr x.1,_,rfl,.inl (by rw[aq wa];exact B.hw),rfl,lk,x.2.a,_,.inr "keep",rfl,ak,rfl,(by show 5<sizeLine;omega),?_⟩;rw[qw];exact k _ (B.abY (y:={x.2 with c:=.int c,p:=.int p}) hx rfl rfl (λ q o n _ e=>by rw[aq n];exact e) ak (by rw[aq la];exact g2)) (Fr2.upd c1)
inductive gv(ws:List W) (M:MH) (Q:QD):Prop
 | mk (ρ:Rm) (A:Ads) (S:Bs) (x:Str×Wi) (s h:Int) (z0:ws=[.m A.b,.d (deD (.edition x.1 s h))]) (B:Bk M ρ A S) (hx:x∈S.T) (h9:x.2.ed.length<9) (q:∀ M',Bk M' ρ A {S with T:=rpT S.T x.1 {x.2 with n:=.int ((x.2.ed.length+1:Nat):Int),ed:=x.2.ed++[.tuple [.int s,.int h]]}}->Fr2 M ρ M' ρ->Q (.d .none) M'):gv ws M Q
def bu:SpD:=gv
theorem j9:∀ ws M Q,bu ws M Q->ws.length=2:=by rintro ws M Q ⟨ρ,A,S,x,s,h,rfl,_⟩;rfl
theorem jL:∀ ws M Q,bu ws M Q->ip {nx:=λ _ M'=>Q (.d .none) M',rt:=Q} (bh ir ws) M:=by
 rintro ws M Q ⟨ρ,A,S,x,s,h,rfl,B,hx,h9,k⟩;have sl:=s16;obtain⟨g1,g2,c1,c2⟩:=B.hT x hx;have lk:=fW B.tn hx;have la:x.2.l≠x.2.a:=cne c2 c1 nofun;have al:=la.symm;refine⟨_,rfl,_,rfl,_,rfl,rfl,_,rfl,rfl,_,_,rfl,_,_,rfl,_,_,rfl,rfl,?_⟩;refine⟨_,rfl,A.b,_,_,rfl,B.hb,rfl,_,rfl,A.w,_,.inr x.1,_,rfl,.inl B.hw,rfl,lk,?_⟩;refine⟨_,rfl,x.2.a,_,.inr "editions",_,rfl,.inl g1,rfl,rfl,x.2.l,_,rfl,g2,_,rfl,_,rfl,_,rfl,few (by simp),_,g2,(by simp only[List.length_map];omega),?_⟩;have e1:bz M x.2.l (.lst (x.2.ed.map W.d++[.d (.tuple [.int s,.int h])])) x.2.a=some (.dic (wk x.2)):=by rw[aq al];exact g1
 refine⟨_,rfl,x.2.a,_,.inr "editions",_,rfl,.inl e1,rfl,rfl,_,x.2.ed.length+1,rfl,(by simp only[ur,ak];simp),rfl,_,rfl,x.2.a,_,.inr "edition",rfl,e1,rfl,(by show 5<sizeLine;omega),?_⟩;refine k _ (B.abY (y:={x.2 with n:=.int ((x.2.ed.length+1:Nat):Int),ed:=x.2.ed++[.tuple [.int s,.int h]]}) hx rfl rfl (λ q o n n' e=>by rw[aq n,aq n'];exact e) ak (by rw[aq la,ak];simp)) ((Fr2.upd c2).trans (Fr2.upd c1))
inductive mU(ws:List W) (M:MH) (Q:QD):Prop
 | mk (ρ:Rm) (A:Ads) (S:Bs) (x:Str×Wi) (m:Int) (z0:ws=[.m A.b,.d (deD (.back x.1))]) (B:Bk M ρ A S) (hx:x∈S.T) (hm:x.2.n=.int m) (q:∀ M',Bk M' ρ A {S with T:=rpT S.T x.1 {x.2 with n:=.int (m-1)}}->Fr2 M ρ M' ρ->Q (.d .none) M'):mU ws M Q
def cJ:SpD:=mU
theorem sr:∀ ws M Q,cJ ws M Q->ws.length=2:=by rintro ws M Q ⟨ρ,A,S,x,m,rfl,_⟩;rfl
theorem qj:∀ ws M Q,cJ ws M Q->qL {nx:=λ _ M'=>Q (.d .none) M',rt:=Q} (bh p6 ws) M:=by
 rintro ws M Q ⟨ρ,A,S,x,m,rfl,B,hx,hm,k⟩;have sl:=s16;obtain⟨g1,g2,c1,c2⟩:=B.hT x hx;have lk:=fW B.tn hx;have la:x.2.l≠x.2.a:=cne c2 c1 nofun;refine⟨_,rfl,A.b,_,_,rfl,B.hb,rfl,_,rfl,_,_,rfl,fF (j:=1) rfl,rfl,A.w,_,.inr x.1,_,rfl,.inl B.hw,rfl,lk,x.2.a,_,.inr "edition",m,rfl,rfl,g1,(by rw[<- hm];rfl),(by show 5<sizeLine;omega),_,rfl,rfl,?_⟩;exact k _ (B.abY (y:={x.2 with n:=.int (m-1)}) hx rfl rfl (λ q o n _ e=>by rw[aq n];exact e) ak (by rw[aq la];exact g2)) (Fr2.upd c1)
inductive h7(ws:List W) (M:MH) (Q:QD):Prop
 | mk (x:Wi) (z0:ws=[.m x.a]) (h1:M x.a=some (.dic (wk x))) (h2:M x.l=some (.lst (x.ed.map W.d))) (q:∀ c l M',M c=none->M l=none->Ext M M'->M' c=some (.dic (wk {x with l:=l}))->M' l=some (.lst (x.ed.map W.d))->Q (.m c) M'):h7 ws M Q
def bL:SpD:=h7
theorem kY:∀ ws M Q,bL ws M Q->ws.length=1:=by rintro ws M Q ⟨x,rfl,_⟩;rfl
theorem kj:∀ ws M Q,bL ws M Q->i6 {nx:=λ _ M'=>Q (.d .none) M',rt:=Q} (bh iX ws) M:=by
 rintro ws M Q ⟨x,rfl,h1,h2,k⟩;have sl:=s16;refine⟨_,rfl,x.a,_,rfl,h1,λ c hc=>?_⟩;refine⟨_,rfl,x.a,_,.inr "editions",_,rfl,.inl (iC h1 hc),rfl,rfl,_,_,rfl,.m (iC h2 hc),λ l hl=>?_⟩;have cl:c≠l:=bt ak hl;have hlM:M l=none:=by rw[aq (Ne.symm cl)] at hl;exact hl
 refine⟨_,rfl,c,_,.inr "editions",rfl,(by rw[aq cl];exact ak),rfl,(by show 5<sizeLine;omega),?_⟩;exact⟨_,rfl,k c l _ hc hlM (λ q o e=>by rw[aq (bt e hc),aq (bt e hlM),aq (bt e hc)];exact e) ak (by rw[aq (Ne.symm cl),ak])⟩
inductive jT(ws:List W) (M:MH) (Q:QD) (E:XQ):Prop
 | mk (ρ:Rm) (A:Ads) (S:Bs) (x:Str×Wi) (z0:ws=[.m A.b,.d (.str x.1)]) (B:Bk M ρ A S) (hx:x∈S.T) (hw:wd x.1=true) (q:∀ c l M',M c=none->M l=none->Ext M M'->M' c=some (.dic (wk {x.2 with l:=l}))->M' l=some (.lst (x.2.ed.map W.d))->Q (.m c) M'):jT ws M Q E
def cn:SpX:=jT
theorem oG:∀ ws M Q E,cn ws M Q E->ws.length=2:=by rintro ws M Q E ⟨ρ,A,S,x,rfl,_⟩;rfl
theorem mn:∀ ws M Q E,cn ws M Q E->kQ (λ a _ M=>E a M) aQ bL {nx:=λ _ M'=>Q (.d .none) M',rt:=Q} (bh lB ws) M:=by
 rintro ws M Q E ⟨ρ,A,S,x,rfl,B,hx,hw,k⟩;obtain⟨g1,g2,c1,c2⟩:=B.hT x hx;have lk:=fW B.tn hx;refine⟨_,rfl,_,rfl,rV hw,_,rfl,?_⟩;rw[show isW (.str x.1)=true from hw];refine fh ⟨_,rfl,_,rfl,A.b,_,_,rfl,B.hb,rfl,_,.k (k:=.inr x.1) B.hw,_,rfl,?_⟩;rw[lk];exact fh ⟨_,rfl,A.b,_,_,rfl,B.hb,rfl,_,rfl,A.w,_,.inr x.1,_,rfl,.inl B.hw,rfl,lk,.mk x.2 rfl g1 g2 k⟩
structure Dok(D:De):Prop where
 dw:wd D.z=true
 row:∃ x∈tabS,∃ ds,deD D=dd x.1 ds/\ds.length=x.2.2.length/\(∀ d∈ds,Fl d)/\wU x ds=true
theorem Ok.gR{S:Bs}{k:Nat}(O:Ok S k){z:Str}{y:Wi}{d:PyData}(hz:z ∉ S.rs)(hw:wd z=true)(h8:S.rs.length<8)(hy:y.ed.length=1):Ok ⟨S.rs++[z],S.es,S.T++[(z,y)],S.dn++[d]⟩ (k+1):=
 ⟨List.nodup_append.mpr ⟨O.rn,by simp,λ a h1 b h2 e=>hz (by rw[List.mem_singleton.mp h2] at e;exact e ▸ h1)⟩,λ v=>by
  show v∈S.rs++[z] ↔ v∈(S.T++[(z,y)]).map (·.1);rw[List.map_append,List.mem_append,List.mem_append,O.rT v];rfl,by simp;omega,λ v hv=>by
  rcases List.mem_append.mp hv with hv | hv
  ·exact O.rw v hv
  ·rw[List.mem_singleton.mp hv];exact hw,O.ew,Nat.le_succ_of_le O.el,by have:=O.dl;simp;omega,by have:=O.tl;simp;omega,λ x hx=>by
  rcases List.mem_append.mp hx with hx | hx
  ·exact O.e9 x hx
  ·rw[List.mem_singleton.mp hx];show y.ed.length<=9;omega⟩
theorem Ok.rep{S:Bs}{k:Nat}(O:Ok S k){x:Str×Wi}{y:Wi}{d:PyData}(hy:y.ed.length<=9):Ok ⟨S.rs,S.es,rpT S.T x.1 y,S.dn++[d]⟩ (k+1):=
 ⟨O.rn,λ v=>by show v∈S.rs ↔ v∈(rpT S.T x.1 y).map (·.1);rw[kA];exact O.rT v,O.r8,O.rw,O.ew,Nat.le_succ_of_le O.el,by have:=O.dl;simp;omega,by have:=O.tl;simp[rpT];omega,λ u hu=>by
  obtain⟨v,hv,e⟩:=List.mem_map.mp hu
  by_cases h:v.1=x.1
  ·rw[if_pos h] at e;subst e;exact hy
  ·rw[if_neg h] at e;subst e;exact O.e9 v hv⟩
inductive Ask(S:Bs):De->Prop
 | gR (z kd:Str) (c p s h:Int) (h1:z ∉ S.rs) (h2:z ∉ S.es) (h8:S.rs.length<8):Ask S (.gR z kd c p s h)
 | other (D:De) (hw:D.isW=false) (hz:D.z∈S.rs):Ask S D
inductive ni(ws:List W) (M:MH) (Q:QD) (E:XQ):Prop
 | mk (ρ:Rm) (A:Ads) (S:Bs) (k:Nat) (D:De) (y:Str) (z0:ws=[.m A.b,.d (deD D),.d (.str y)]) (B:Bk M ρ A S) (O:Ok S k) (hk:k<=900) (hD:Dok D) (hn:∀ x∈S.T,∃ m:Int,x.2.n=.int m) (ask:Ask S D)
  (q1:∀ z kd c p s h,D=.gR z kd c p s h->∀ ρ' a l dn M',Bk M' ρ' A ⟨S.rs++[z],S.es,S.T++[(z,⟨.str kd,.int c,.int p,.int 1,[.tuple [.int s,.int h]],a,l⟩)],dn⟩->Ok ⟨S.rs++[z],S.es,S.T++[(z,⟨.str kd,.int c,.int p,.int 1,[.tuple [.int s,.int h]],a,l⟩)],dn⟩ (k+1)->Fr2 M ρ M' ρ'->Q (.d .none) M')
  (q2:∀ x∈S.T,∀ c p,D=.copies x.1 c p->∀ dn M',Bk M' ρ A ⟨S.rs,S.es,rpT S.T x.1 {x.2 with c:=.int c,p:=.int p},dn⟩->Ok ⟨S.rs,S.es,rpT S.T x.1 {x.2 with c:=.int c,p:=.int p},dn⟩ (k+1)->Fr2 M ρ M' ρ->Q (.d .none) M')
  (q3:∀ x∈S.T,∀ s h,D=.edition x.1 s h->x.2.ed.length<9->∀ dn M',Bk M' ρ A ⟨S.rs,S.es,rpT S.T x.1 {x.2 with n:=.int ((x.2.ed.length+1:Nat):Int),ed:=x.2.ed++[.tuple [.int s,.int h]]},dn⟩->Ok ⟨S.rs,S.es,rpT S.T x.1 {x.2 with n:=.int ((x.2.ed.length+1:Nat):Int),ed:=x.2.ed++[.tuple [.int s,.int h]]},dn⟩ (k+1)->Fr2 M ρ M' ρ->Q (.d .none) M')
  (q4:∀ x∈S.T,∀ m,D=.back x.1->x.2.n=.int m->m≠1->∀ dn M',Bk M' ρ A ⟨S.rs,S.es,rpT S.T x.1 {x.2 with n:=.int (m-1)},dn⟩->Ok ⟨S.rs,S.es,rpT S.T x.1 {x.2 with n:=.int (m-1)},dn⟩ (k+1)->Fr2 M ρ M' ρ->Q (.d .none) M')
  (x3:D.isE=true->(∃ x∈S.T,x.1=D.z/\9<=x.2.ed.length)->∀ a M',Ext M M'->M' a=some (.exc ar [("most",.d (.int 9))])->E a M')
  (x4:D.isB=true->(∃ x∈S.T,x.1=D.z/\x.2.n=.int 1)->∀ a M',Ext M M'->M' a=some (.exc az [])->E a M'):ni ws M Q E
def bG:SpX:=ni
theorem sf:∀ ws M Q E,bG ws M Q E->ws.length=3:=by rintro ws M Q E ⟨ρ,A,S,k,D,y,rfl,_⟩;rfl
theorem s9{M:MH}{ρ:Rm}{A:Ads}{S:Bs}{Q:QD}{D:De}{τ:DS}{y:Str}(B:Bk M ρ A S)(hl:S.dn.length<=1000)(h0:τ[0]? =some (some (.m A.b)))(h1:τ[1]? =some (some (.d (deD D))))(h2:τ[2]? =some (some (.d (.str y))))(q:∀ M',Bk M' ρ A {S with dn:=S.dn++[.tuple [.str y,deD D]]}->Fr2 M ρ M' ρ->Q (.d .none) M') :
  (iI (ix (nH aj (ao 0) "done") (jQ (ai (ao 2) (ai (ao 1) (aW)))))) {nx:=λ _ M'=>Q (.d .none) M',rt:=Q} τ M:=by
 have sl:=s16;refine⟨_,h0,A.b,_,_,rfl,B.hb,rfl,A.d,_,rfl,B.hd,_,h2,_,h1,[.str y,deD D],rfl,few (by simp),_,B.hd,(by simp only[List.length_map];omega),?_⟩;rw[show S.dn.map W.d++[W.d (PyData.tuple [PyData.str y,deD D])]=(S.dn++[PyData.tuple [PyData.str y,deD D]]).map W.d by simp];exact q _ (B.ahp (Fq.upd _ _ _) ak) (Fr2.upd B.cd)
theorem p9:∀ ws M Q E,bG ws M Q E->pK (λ a _ M=>E a M) cX aL aS aI aK aZ bV bC bu cJ {nx:=λ _ M'=>Q (.d .none) M',rt:=Q} (bh qt ws) M:=by
 rintro ws M Q E ⟨ρ,A,S,k,D,y,rfl,B,O,hk,hD,hn,ask,q1,q2,q3,q4,x3,x4⟩;obtain⟨x,hx,ds,e,hl,hf,hg⟩:=hD.row;refine⟨_,rfl,x,hx,ds,(by rw[e]),hl,hf,_,rfl,cB (by rw[hg];rfl) ?_⟩;clear hx hl hf hg e x ds;have hs:D.isW=false->D.z∈S.rs:=λ w=>by
  cases ask with
  | gR=>cases w
  | other _ _ h=>exact h
 refine⟨_,rfl,A.b,_,rfl,B.hb,rfl,_,rfl,.mk ρ A S k D rfl B O hD.dw (λ u1 M1 e1=>?_) (λ w n=>absurd (hs w) n)⟩;have B1:=B.ext e1;refine⟨_,rfl,A.b,_,rfl,B1.hb,rfl,_,rfl,.mk ρ A S k D rfl B1 O hD.dw (λ u2 M2 e2=>?_) (λ w h=>by
  cases ask with
  | gR z kd c p s h' h1 h2=>exact absurd h (λ h=>h.elim h1 h2)
  | other _ w' _=>rw[w'] at w;cases w)⟩
 have B2:=B1.ext e2;have e12:=e1.trans e2;refine⟨_,rfl,A.b,_,rfl,B2.hb,rfl,_,rfl,.mk ρ A S k D rfl B2 O hs (λ u3 u4 M3 e3=>?_) (λ w h=>by
  cases ask with
  | gR z kd c p s h' h1 h2 h8=>omega
  | other _ w' _=>rw[w'] at w;cases w) (λ w h a M' e'=>x3 w h a M' (e12.trans e'))⟩
 have B3:=B2.ext e3;have e13:=e12.trans e3;have f3:Fr2 M ρ M3 ρ:=Fr2.ext e13;refine⟨_,rfl,A.b,_,rfl,B3.hb,rfl,_,rfl,.mk ρ A S k D rfl B3 O hs hn (λ u5=>?_) (λ w h a M' e'=>x4 w h a M' (e13.trans e'))⟩;refine⟨_,rfl,A.b,_,rfl,B3.hb,rfl,_,rfl,ρ,A,S,D,rfl,B3,?_⟩;clear e1 e2 e3 e12 e13 B B1 B2 x3 x4;have dl:=O.dl;have tl:=O.tl;have el:=O.el;have r8:=O.r8;cases D with
 | gR z kd c p s h =>
  obtain⟨n1,n2⟩:=u2 rfl;have h8:=u3 rfl;have n1:z ∉ S.rs:=n1;refine⟨_,rfl,_,_,rfl,jv,rfl, "wish",dO,rfl,rfl,_,rfl,dO,bV,rfl,.head _,_,rfl,_,rfl,.mk ρ A S z kd c p s h rfl B3 (λ h=>n1 ((O.rT z).mpr h)) (by omega) (by omega) λ ρ' a l M4 B4 f4=>?_⟩;exact s9 (D:=.gR z kd c p s h) (y:=y) B4 (by show S.dn.length<=1000;omega) rfl rfl rfl λ M5 B5 f5=>q1 _ _ _ _ _ _ rfl _ _ _ _ M5 B5 (O.gR n1 hD.dw h8 rfl) (f3.trans (f4.trans f5))
 | copies z c p =>
  obtain⟨x,hx,ez⟩:=O.find (hs rfl);have ez:x.1=z:=ez;subst ez;refine⟨_,rfl,_,_,rfl,jv,rfl, "copies",cH,rfl,rfl,_,rfl,cH,bC,rfl,.tail _ (.head _),_,rfl,_,rfl,.mk ρ A S x c p rfl B3 hx λ M4 B4 f4=>?_⟩;exact s9 (D:=.copies x.1 c p) (y:=y) B4 (by show S.dn.length<=1000;omega) rfl rfl rfl λ M5 B5 f5=>q2 x hx _ _ rfl _ M5 B5 (O.rep (O.e9 x hx)) (f3.trans (f4.trans f5))
 | edition z s h =>
  obtain⟨x,hx,ez⟩:=O.find (hs rfl);have ez:x.1=z:=ez;subst ez;have h9:=u4 rfl x hx rfl;refine⟨_,rfl,_,_,rfl,jv,rfl, "edition",cy,rfl,rfl,_,rfl,cy,bu,rfl,.tail _ (.tail _ (.head _)),_,rfl,_,rfl,.mk ρ A S x s h rfl B3 hx h9 λ M4 B4 f4=>?_⟩;exact s9 (D:=.edition x.1 s h) (y:=y) B4 (by show S.dn.length<=1000;omega) rfl rfl rfl λ M5 B5 f5=>q3 x hx _ _ rfl h9 _ M5 B5 (O.rep (by simp;omega)) (f3.trans (f4.trans f5))
 | back z =>
  obtain⟨x,hx,ez⟩:=O.find (hs rfl);have ez:x.1=z:=ez;subst ez;obtain⟨m,em⟩:=hn x hx;have m1:m≠1:=λ e=>u5 rfl x hx rfl (by rw[em,e]);refine⟨_,rfl,_,_,rfl,jv,rfl, "back",fD,rfl,rfl,_,rfl,fD,cJ,rfl,.tail _ (.tail _ (.tail _ (.head _))),_,rfl,_,rfl,.mk ρ A S x m rfl B3 hx em λ M4 B4 f4=>?_⟩;exact s9 (D:=.back x.1) (y:=y) B4 (by show S.dn.length<=1000;omega) rfl rfl rfl λ M5 B5 f5=>q4 x hx m rfl em m1 _ M5 B5 (O.rep (O.e9 x hx)) (f3.trans (f4.trans f5))
abbrev xG:PyData:=.tuple [.str "done",.none]
abbrev acZ:PyData:=.tuple [.str "many",.int 9]
abbrev xu:PyData:=.tuple [.str "noback",.none]
def cu:SpD:=λ ws M Q=>∃ a,ws=[.m a]/\((∃ n:Int,M a=some (.exc ar [("most",.d (.int n))])/\Q (.d (.tuple [.str "many",.int n])) M)\/(M a=some (.exc az [])/\Q (.d xu) M))
theorem oQ:∀ ws M Q,cu ws M Q->ws.length=1:=by rintro ws M Q ⟨a,rfl,_⟩;rfl
theorem mH:∀ ws M Q,cu ws M Q->kM {nx:=λ _ M'=>Q (.d .none) M',rt:=Q} (bh kO ws) M:=by
 rintro ws M Q ⟨a,rfl,⟨n,h,k⟩ | ⟨h,k⟩⟩
 ·exact⟨_,rfl,a,_,_,_,rfl,h,rfl,_,rfl,fh ⟨_,rfl,a,_,_,_,rfl,h,rfl,_,rfl,fh ⟨_,rfl,a,_,_,_,rfl,h,rfl,_,rfl,fh ⟨_,rfl,a,_,_,_,rfl,h,rfl,_,rfl,n8 ⟨_,rfl,a,_,_,_,rfl,h,by simp,rfl,_,rfl,few (by simp),k⟩⟩⟩⟩⟩
 ·exact⟨_,rfl,a,_,_,_,rfl,h,rfl,_,rfl,fh ⟨_,rfl,a,_,_,_,rfl,h,rfl,_,rfl,fh ⟨_,rfl,a,_,_,_,rfl,h,rfl,_,rfl,fh ⟨_,rfl,a,_,_,_,rfl,h,rfl,_,rfl,fh ⟨_,rfl,a,_,_,_,rfl,h,rfl,_,rfl,n8 ⟨_,rfl,few (by simp),k⟩⟩⟩⟩⟩⟩
inductive qG(ws:List W) (M:MH) (Q:QD):Prop
 | mk (ρ:Rm) (A:Ads) (S:Bs) (k:Nat) (D:De) (y:Str) (z0:ws=[.m A.b,.d (deD D),.d (.str y)]) (B:Bk M ρ A S) (O:Ok S k) (hk:k<=900) (hD:Dok D) (hn:∀ x∈S.T,∃ m:Int,x.2.n=.int m) (ask:Ask S D)
  (q1:∀ z kd c p s h,D=.gR z kd c p s h->∀ ρ' a l dn M',Bk M' ρ' A ⟨S.rs++[z],S.es,S.T++[(z,⟨.str kd,.int c,.int p,.int 1,[.tuple [.int s,.int h]],a,l⟩)],dn⟩->Ok ⟨S.rs++[z],S.es,S.T++[(z,⟨.str kd,.int c,.int p,.int 1,[.tuple [.int s,.int h]],a,l⟩)],dn⟩ (k+1)->Fr2 M ρ M' ρ'->Q (.d xG) M')
  (q2:∀ x∈S.T,∀ c p,D=.copies x.1 c p->∀ dn M',Bk M' ρ A ⟨S.rs,S.es,rpT S.T x.1 {x.2 with c:=.int c,p:=.int p},dn⟩->Ok ⟨S.rs,S.es,rpT S.T x.1 {x.2 with c:=.int c,p:=.int p},dn⟩ (k+1)->Fr2 M ρ M' ρ->Q (.d xG) M')
  (q3:∀ x∈S.T,∀ s h,D=.edition x.1 s h->x.2.ed.length<9->∀ dn M',Bk M' ρ A ⟨S.rs,S.es,rpT S.T x.1 {x.2 with n:=.int ((x.2.ed.length+1:Nat):Int),ed:=x.2.ed++[.tuple [.int s,.int h]]},dn⟩->Ok ⟨S.rs,S.es,rpT S.T x.1 {x.2 with n:=.int ((x.2.ed.length+1:Nat):Int),ed:=x.2.ed++[.tuple [.int s,.int h]]},dn⟩ (k+1)->Fr2 M ρ M' ρ->Q (.d xG) M')
  (q4:∀ x∈S.T,∀ m,D=.back x.1->x.2.n=.int m->m≠1->∀ dn M',Bk M' ρ A ⟨S.rs,S.es,rpT S.T x.1 {x.2 with n:=.int (m-1)},dn⟩->Ok ⟨S.rs,S.es,rpT S.T x.1 {x.2 with n:=.int (m-1)},dn⟩ (k+1)->Fr2 M ρ M' ρ->Q (.d xG) M')
  (x3:D.isE=true->(∃ x∈S.T,x.1=D.z/\9<=x.2.ed.length)->∀ M',Ext M M'->Q (.d acZ) M')
  (x4:D.isB=true->(∃ x∈S.T,x.1=D.z/\x.2.n=.int 1)->∀ M',Ext M M'->Q (.d xu) M'):qG ws M Q
def cP:SpD:=qG
theorem uL:∀ ws M Q,cP ws M Q->ws.length=3:=by rintro ws M Q ⟨ρ,A,S,k,D,y,rfl,_⟩;rfl
theorem rK:∀ ws M Q,cP ws M Q->sL bG cu {nx:=λ _ M'=>Q (.d .none) M',rt:=Q} (bh tj ws) M:=by
 rintro ws M Q ⟨ρ,A,S,k,D,y,rfl,B,O,hk,hD,hn,ask,q1,q2,q3,q4,x3,x4⟩;refine⟨_,rfl,_,_,.d,.d,rfl,_,rfl,oI (λ h=>?_) (λ _=>?_)⟩
 ·have ey:y = "hand":= by rw[dP] at h;exact of_decide_eq_true h
  subst ey;exact⟨_,rfl,A.b,_,rfl,B.hb,rfl,_,rfl,.mk ρ A S k D "hand" rfl B O hk hD hn ask (λ z kd c p s h e ρ' a l dn M' B' O' f=>⟨_,rfl,_,rfl,few (by simp),q1 z kd c p s h e ρ' a l dn M' B' O' f⟩) (λ x hx c p e dn M' B' O' f=>⟨_,rfl,_,rfl,few (by simp),q2 x hx c p e dn M' B' O' f⟩) (λ x hx s h e h9 dn M' B' O' f=>⟨_,rfl,_,rfl,few (by simp),q3 x hx s h e h9 dn M' B' O' f⟩) (λ x hx m e em m1 dn M' B' O' f=>⟨_,rfl,_,rfl,few (by simp),q4 x hx m e em m1 dn M' B' O' f⟩) (λ w h a M' xt ha=>⟨_,_,true,ha,rfl,n8 ⟨_,rfl,a,rfl,.inl ⟨_,ha,x3 w h M' xt⟩⟩⟩) (λ w h a M' xt ha=>⟨_,_,true,ha,rfl,n8 ⟨_,rfl,a,rfl,.inr ⟨ha,x4 w h M' xt⟩⟩⟩)⟩
 ·exact⟨_,rfl,A.b,_,rfl,B.hb,rfl,_,rfl,_,rfl,.mk ρ A S k D y rfl B O hk hD hn ask (λ z kd c p s h e ρ' a l dn M' B' O' f=>⟨_,rfl,_,rfl,few (by simp),q1 z kd c p s h e ρ' a l dn M' B' O' f⟩) (λ x hx c p e dn M' B' O' f=>⟨_,rfl,_,rfl,few (by simp),q2 x hx c p e dn M' B' O' f⟩) (λ x hx s h e h9 dn M' B' O' f=>⟨_,rfl,_,rfl,few (by simp),q3 x hx s h e h9 dn M' B' O' f⟩) (λ x hx m e em m1 dn M' B' O' f=>⟨_,rfl,_,rfl,few (by simp),q4 x hx m e em m1 dn M' B' O' f⟩) (λ w h a M' xt ha=>⟨_,_,true,ha,rfl,n8 ⟨_,rfl,a,rfl,.inl ⟨_,ha,x3 w h M' xt⟩⟩⟩) (λ w h a M' xt ha=>⟨_,_,true,ha,rfl,n8 ⟨_,rfl,a,rfl,.inr ⟨ha,x4 w h M' xt⟩⟩⟩)⟩
theorem gO{M:MH}{p a:Addr}{o:MO}(b:Bag M p)(n:p≠a):Bag (bz M a o) p:=by obtain⟨x,y,z,ns,e,h⟩:=b;exact⟨x,y,z,ns,by rw[aq n];exact e,h⟩
theorem v8{M M':MH}{p:Addr}(b:Bag M p)(f:∀ o,M p=some o->M' p=some o):Bag M' p:=by obtain⟨x,y,z,ns,e,h⟩:=b;exact⟨x,y,z,ns,f _ e,h⟩
theorem qA{M:MH}{p a:Addr}(b:Bag M p)(ha:M a=none):p≠a:=by obtain⟨_,_,_,_,e,_⟩:=b;exact bt e ha
theorem cno{ρ:Rm}{x y:Addr}{c:Ro}(h:ρ x=none)(h':ρ y=some c):x≠y:=λ e=>by rw[e,h'] at h;cases h
section
variable {M M':MH}{ρ:Rm}{A:Ads}{S:Bs}
theorem Bk.same(B:Bk M ρ A S)(h:∀ q r,ρ q=some r->M' q=M q):Bk M' ρ A S:=by refine⟨(h _ _ B.cb).trans B.hb,(h _ _ B.cr).trans B.hr,(h _ _ B.cw).trans B.hw,(h _ _ B.ce).trans B.he,(h _ _ B.ct).trans B.ht,(h _ _ B.cd).trans B.hd,B.cb,B.cr,B.cw,B.ce,B.ct,B.cd,λ x hx=>?_,B.tn⟩;obtain⟨g1,g2,g3,g4⟩:=B.hT x hx;exact⟨(h _ _ g3).trans g1,(h _ _ g4).trans g2,g3,g4⟩
theorem Bk.away(B:Bk M ρ A S){a:Addr}{o:MO}(c:ρ a=none):Bk (bz M a o) ρ A S:=B.same λ q r e=>aq λ z=>by rw[z,c] at e;cases e
theorem Bk.clear(B:Bk M ρ A S){a:Addr}(h:M a=none):Bk M (λ q=>if q=a then none else ρ q) A S:=by have cq:∀ {q:Addr} {o:MO},M q=some o->(if q=a then none else ρ q)=ρ q:=λ {q o} e=>if_neg (bt e h);refine⟨B.hb,B.hr,B.hw,B.he,B.ht,B.hd,(cq B.hb).trans B.cb,(cq B.hr).trans B.cr,(cq B.hw).trans B.cw,(cq B.he).trans B.ce,(cq B.ht).trans B.ct,(cq B.hd).trans B.cd,λ x hx=>?_,B.tn⟩;obtain⟨g1,g2,g3,g4⟩:=B.hT x hx;exact⟨g1,g2,(cq g1).trans g3,(cq g2).trans g4⟩
end
abbrev pl(x:Wi):List W:=[.m x.l,.d x.n,.d (.list [x.c,x.p,x.k])]
structure Pn(M:MH)(σ ρ:Rm)(P:Addr)(L:List (Str×Wi)):Prop where
 hp:M P=some (.dic (kvT L))
 cp:σ P=some .w
 rp:ρ P=none
 hL:∀ x∈L,M x.2.a=some (.lst (pl x.2))/\M x.2.l=some (.lst (x.2.ed.map W.d))/\σ x.2.a=some (.a x.1)/\σ x.2.l=some (.l x.1)/\ρ x.2.a=none/\ρ x.2.l=none
 tn:(L.map (·.1)).Nodup
section
variable {M M':MH}{σ ρ ρ':Rm}{P:Addr}{L:List (Str×Wi)}
theorem Pn.keep(N:Pn M σ ρ P L)(f:Fr2 M ρ M' ρ'):Pn M' σ ρ' P L:=
 ⟨(f _ _ N.hp N.rp).1,N.cp,(f _ _ N.hp N.rp).2,λ x hx=>by obtain⟨g1,g2,g3,g4,g5,g6⟩:=N.hL x hx;exact⟨(f _ _ g1 g5).1,(f _ _ g2 g6).1,g3,g4,(f _ _ g1 g5).2,(f _ _ g2 g6).2⟩,N.tn⟩
theorem Pn.same(N:Pn M σ ρ P L)(h:∀ q r,σ q=some r->M' q=M q):Pn M' σ ρ P L:=
 ⟨(h _ _ N.cp).trans N.hp,N.cp,N.rp,λ x hx=>by obtain⟨g1,g2,g3,g4,g5,g6⟩:=N.hL x hx;exact⟨(h _ _ g3).trans g1,(h _ _ g4).trans g2,g3,g4,g5,g6⟩,N.tn⟩
theorem Pn.clear(N:Pn M σ ρ P L)(a:Addr):Pn M σ (λ q=>if q=a then none else ρ q) P L:=by
 have cq:∀ {q:Addr},ρ q=none->(if q=a then none else ρ q)=none:=λ {q} e=>by split;rfl;exact e
 exact⟨N.hp,N.cp,cq N.rp,λ x hx=>by obtain⟨g1,g2,g3,g4,g5,g6⟩:=N.hL x hx;exact⟨g1,g2,g3,g4,cq g5,cq g6⟩,N.tn⟩
theorem Pn.abY(N:Pn M σ ρ P L){x:Str×Wi}{y:Wi}(hx:x∈L)(ya:y.a=x.2.a)(yl:y.l=x.2.l)(f:∀ q o,q≠x.2.a->q≠x.2.l->M q=some o->M' q=some o)(h1:M' x.2.a=some (.lst (pl y)))(h2:M' x.2.l=some (.lst (y.ed.map W.d))):Pn M' σ ρ P (rpT L x.1 y):=by
 obtain⟨_,_,c1,c2,r1,r2⟩:=N.hL x hx;refine⟨?_,N.cp,N.rp,λ u hu=>?_,by rw[kA];exact N.tn⟩
 ·rw[aea N.tn hx ya];exact f _ _ (cne N.cp c1 nofun) (cne N.cp c2 nofun) N.hp
 ·obtain⟨v,hv,e⟩:=List.mem_map.mp hu
  by_cases h:v.1=x.1
  ·rw[if_pos h] at e;subst e;exact⟨by rw[ya];exact h1,by rw[yl];exact h2,by rw[ya];exact c1,by rw[yl];exact c2,by rw[ya];exact r1,by rw[yl];exact r2⟩
  ·rw[if_neg h] at e;subst e;obtain⟨g1,g2,g3,g4,g5,g6⟩:=N.hL v hv;have n:Ro.a v.1≠Ro.a x.1:=λ e=>h (by injection e);have n':Ro.l v.1≠Ro.l x.1:=λ e=>h (by injection e);exact⟨f _ _ (cne g3 c1 n) (cne g3 c2 nofun) g1,f _ _ (cne g4 c1 nofun) (cne g4 c2 n') g2,g3,g4,g5,g6⟩
theorem Pn.newX(N:Pn M σ ρ P L){z:Str}{y:Wi}(hz:z ∉ L.map (·.1))(ha:M y.a=none)(hl:M y.l=none)(al:y.a≠y.l)(ra:ρ y.a=none)(rl:ρ y.l=none)(f:∀ q o,q≠P->M q=some o->M' q=some o)(hw:M' P=some (.dic (kvT (L++[(z,y)]))))(h1:M' y.a=some (.lst (pl y)))(h2:M' y.l=some (.lst (y.ed.map W.d))):Pn M' (λ q=>if q=y.a then some (.a z) else if q=y.l then some (.l z) else σ q) ρ P (L++[(z,y)]):=by
 have cq:∀ {q:Addr} {o:MO},M q=some o->(if q=y.a then some (.a z) else if q=y.l then some (.l z) else σ q)=σ q:=λ {q o} e=>by rw[if_neg (bt e ha),if_neg (bt e hl)]
 refine⟨hw,(cq N.hp).trans N.cp,N.rp,λ u hu=>?_,?_⟩
 ·rcases List.mem_append.mp hu with hu | hu
  ·obtain⟨g1,g2,g3,g4,g5,g6⟩:=N.hL u hu;exact⟨f _ _ (cne g3 N.cp nofun) g1,f _ _ (cne g4 N.cp nofun) g2,(cq g1).trans g3,(cq g2).trans g4,g5,g6⟩
  ·rw[List.mem_singleton.mp hu];exact⟨h1,h2,if_pos rfl,by rw[if_neg al.symm,if_pos rfl],ra,rl⟩
 ·rw[List.map_append];exact List.nodup_append.mpr ⟨N.tn,by simp,λ a h1 b h2 e=>hz (by rw[List.mem_singleton.mp (show b∈[z] from h2)] at e;exact e ▸ h1)⟩
end
def dat(x:Str×Wi):Str×List PyData×List PyData:=(x.1,[x.2.k,x.2.c,x.2.p,x.2.n],x.2.ed)
theorem wQ{x y:Str×Wi}(h:dat y=dat x):y.1=x.1/\y.2.k=x.2.k/\y.2.c=x.2.c/\y.2.p=x.2.p/\y.2.n=x.2.n/\y.2.ed=x.2.ed:=by simp only[dat,Prod.mk.injEq,List.cons.injEq,and_true] at h;obtain⟨a,⟨b,c,d,e⟩,f⟩:=h;exact⟨a,b,c,d,e,f⟩
theorem afn{L T:List (Str×Wi)}(h:L.map dat=T.map dat){z:Str}{y y':Wi}(e:dat (z,y)=dat (z,y')):(rpT L z y).map dat=(rpT T z y').map dat:=by
 have key:∀ (L:List (Str×Wi)) (y:Wi),(rpT L z y).map dat=(L.map dat).map λ d=>if d.1=z then dat (z,y) else d:=by
  intro L y;unfold rpT;rw[List.map_map,List.map_map];refine List.map_congr_left λ u _=>?_;show dat (if u.1=z then (z,y) else u)=if u.1=z then dat (z,y) else dat u
  split<;>rfl
 rw[key,key,h,e]
theorem aem{L T:List (Str×Wi)}(h:L.map dat=T.map dat){x:Str×Wi}(hx:x∈T):∃ y∈L,dat y=dat x:=by have:dat x∈L.map dat:=h ▸ List.mem_map_of_mem hx;exact List.mem_map.mp this
theorem yO{L T:List (Str×Wi)}(h:L.map dat=T.map dat):L.map (·.1)=T.map (·.1):=by
 have:(L.map dat).map (·.1)=(T.map dat).map (·.1):=by rw[h]
 rw[List.map_map,List.map_map] at this;exact this
structure Wok(x:Str×Wi):Prop where
 w:wd x.1=true
 kd:x.2.k=.str x.1
 c:∃ c:Int,x.2.c=.int c/\0<=c/\c<=6
 p:∃ p:Int,x.2.p=.int p/\0<=p/\p<=6
 n:∃ m:Int,x.2.n=.int m/\1<=m/\m<=9
 ed:∀ d∈x.2.ed,∃ s h:Int,d=.tuple [.int s,.int h]/\0<=s/\s<=2/\1<=h/\h<=3
structure Pt(M:MH)(ρ σ:Rm)(A:Ads)(P p:Addr)(S:Bs)(L:List (Str×Wi))(k:Nat):Prop where
 B:Bk M ρ A S
 O:Ok S k
 N:Pn M σ ρ P L
 sm:L.map dat=S.T.map dat
 wo:∀ x∈S.T,Wok x
 b:Bag M p
 rp:ρ p=none
 sp:σ p=none
 rs:S.rs=S.T.map (·.1)
theorem Ok.mono{S:Bs}{k j:Nat}(O:Ok S k)(h:k<=j):Ok S j:=⟨O.rn,O.rT,O.r8,O.rw,O.ew,Nat.le_trans O.el h,Nat.le_trans O.dl h,Nat.le_trans O.tl h,O.e9⟩
section
variable {M M':MH}{ρ σ:Rm}{A:Ads}{P p:Addr}{S:Bs}{L:List (Str×Wi)}{k:Nat}
theorem Pt.take(X:Pt M ρ σ A P p S L k)(b:Bag M' p)(f:∀ q,q≠p->M' q=M q):Pt M' ρ σ A P p S L k:=
 ⟨X.B.same λ q r e=>f q (λ z=>by rw[z,X.rp] at e;cases e),X.O,X.N.same λ q r e=>f q (λ z=>by rw[z,X.sp] at e;cases e),X.sm,X.wo,b,X.rp,X.sp,X.rs⟩
theorem Pt.ext(X:Pt M ρ σ A P p S L k)(x:Ext M M'):Pt M' ρ σ A P p S L k:=⟨X.B.ext x,X.O,X.N.keep (Fr2.ext x),X.sm,X.wo,Ext.bag x X.b,X.rp,X.sp,X.rs⟩
theorem Pt.mono(X:Pt M ρ σ A P p S L k):Pt M ρ σ A P p S L (k+1):=⟨X.B,X.O.mono (by omega),X.N,X.sm,X.wo,X.b,X.rp,X.sp,X.rs⟩
theorem Pt.hn(X:Pt M ρ σ A P p S L k):∀ x∈S.T,∃ m:Int,x.2.n=.int m:=λ x hx=>let ⟨m,h,_⟩:=(X.wo x hx).n; ⟨m,h⟩
theorem Pt.fin(X:Pt M ρ σ A P p S L k){M1:MH}{x:Str×Wi}{y y':Wi}{dn:List PyData}(N:Pn M1 σ ρ P (rpT L x.1 y))(b:Bag M1 p)(e:dat (x.1,y)=dat (x.1,y'))(hw:Wok (x.1,y'))(B':Bk M' ρ A ⟨S.rs,S.es,rpT S.T x.1 y',dn⟩)(O':Ok ⟨S.rs,S.es,rpT S.T x.1 y',dn⟩ (k+1))(f:Fr2 M1 ρ M' ρ):Pt M' ρ σ A P p ⟨S.rs,S.es,rpT S.T x.1 y',dn⟩ (rpT L x.1 y) (k+1):=
 ⟨B',O',N.keep f,afn X.sm e,λ u hu=>by
  obtain⟨v,hv,e⟩:=List.mem_map.mp hu
  by_cases h:v.1=x.1
  ·rw[if_pos h] at e;subst e;exact hw
  ·rw[if_neg h] at e;subst e;exact X.wo v hv,v8 b λ o e=>(f _ o e X.rp).1,X.rp,X.sp,by show S.rs=(rpT S.T x.1 y').map (·.1);rw[kA];exact X.rs⟩
end
theorem af2(i:Int):Fl (.int i):=.inr (.inl ⟨i,rfl⟩)
theorem uq{i lo hi:Int}(h1:lo<=i)(h2:i<=hi):btw i lo hi=true:=by unfold btw;rw[decide_eq_true h1,decide_eq_true h2];rfl
theorem rO{z:Str}{s h:Int}(hz:wd z=true)(s0:0<=s)(s1:s<=2)(h0:1<=h)(h1:h<=3):Dok (.edition z s h):=⟨hz,_,.tail _ (.tail _ (.tail _ (.head _))),_,rfl,rfl,λ d hd=>by
 simp only[List.mem_cons,List.not_mem_nil,or_false] at hd;rcases hd with rfl | rfl | rfl
 ·exact rV hz
 all_goals exact af2 _,by
 show((wd z&&(btw s 0 2&&(btw h 1 3&&true)))&&true)=true;rw[hz,uq s0 s1,uq h0 h1];rfl⟩
theorem xT{z:Str}(hz:wd z=true):Dok (.back z):=⟨hz,_,.tail _ (.tail _ (.tail _ (.tail _ (.head _)))),_,rfl,rfl,λ d hd=>by
 simp only[List.mem_cons,List.not_mem_nil,or_false] at hd;rcases hd with rfl;exact rV hz,by
 show((wd z&&true)&&true)=true;rw[hz];rfl⟩
theorem ub{z:Str}{c p:Int}(hz:wd z=true)(c0:0<=c)(c1:c<=6)(p0:0<=p)(p1:p<if c > 1 then c else 1):Dok (.copies z c p):=⟨hz,_,.tail _ (.tail _ (.head _)),_,rfl,rfl,λ d hd=>by
 simp only[List.mem_cons,List.not_mem_nil,or_false] at hd;rcases hd with rfl | rfl | rfl
 ·exact rV hz
 all_goals exact af2 _,by
 have p5:p<=5:=by split at p1<;>omega
 have lk:leK c p=true:=by
  unfold leK;refine decide_eq_true ?_
  split<;>split at p1<;>omega
 show((wd z&&(btw c 0 6&&(btw p 0 5&&true)))&&(false || leK c p))=true;rw[hz,uq c0 c1,uq p0 p5,lk];rfl⟩
theorem y6{z:Str}{s h:Int}(hz:wd z=true)(s0:0<=s)(s1:s<=2)(h0:1<=h)(h1:h<=3):Dok (.gR z z 3 2 s h):=⟨hz,_,.tail _ (.head _),_,rfl,rfl,λ d hd=>by
 simp only[List.mem_cons,List.not_mem_nil,or_false] at hd;rcases hd with rfl | rfl | rfl | rfl | rfl | rfl
 ·exact rV hz
 ·exact rV hz
 all_goals exact af2 _,by
 show((wd z&&(wd z&&(btw 3 0 6&&(btw 2 0 5&&(btw s 0 2&&(btw h 1 3&&true))))))&&(false || leK 3 2))=true;rw[hz,uq s0 s1,uq h0 h1];rfl⟩
theorem nh{Q:QD}{M:MH}{d:PyData}(ok:okD 1 d=true)(h:Q (.d (.bool true)) M):Q (.d (.bool (PyData.eqv d d))) M:=by rw[abR ok];exact h
theorem tK{d:PyData}(ok:okD 1 d=true):gb d d=true:=yZ (by decide) ok ok
theorem jG:okD 1 xG=true:=by decide +kernel
theorem vS:okD 1 acZ=true:=by decide +kernel
theorem qf:okD 1 xu=true:=by decide +kernel
inductive qO(ws:List W) (M:MH) (Q:QD):Prop
 | mk (ρ σ:Rm) (A:Ads) (P p:Addr) (S:Bs) (L:List (Str×Wi)) (k:Nat) (x:Str×Wi) (z0:ws=[.m p,.m A.b,.m P,.d (.str x.1)]) (X:Pt M ρ σ A P p S L k) (hk:k<=900) (hx:x∈S.T) (q:∀ M' S' L',Pt M' ρ σ A P p S' L' (k+1)->S'.rs=S.rs->Q (.d (.bool true)) M'):qO ws M Q
def d4:SpD:=qO
theorem uH:∀ ws M Q,d4 ws M Q->ws.length=4:=by rintro ws M Q ⟨ρ,σ,A,P,p,S,L,k,x,rfl,_⟩;rfl
theorem ix3{M:MH}{a:Addr}{w0 w1 w2:W}(h:M a=some (.lst [w0,w1,w2])):ixW M (.m a) 0=some w0/\ixW M (.m a) 1=some w1/\ixW M (.m a) 2=some w2:=by simp only[ixW,h];exact⟨rfl,rfl,rfl⟩
theorem qX:∀ ws M Q,d4 ws M Q->sx bp cP {nx:=λ _ M'=>Q (.d .none) M',rt:=Q} (bh sH ws) M:=by
 rintro ws M Q ⟨ρ,σ,A,P,p,S,L,k,x,rfl,X,hk,hx,q⟩;have sl:=s16;obtain⟨y,hy,ey⟩:=aem X.sm hx;obtain⟨y1,yk,yc,yp,yn,yd⟩:=wQ ey;have V0:=X.wo x hx;obtain⟨m,em,m1,m9⟩:=V0.n;have e9:=X.O.e9 x hx;have hzs:x.1∈S.rs:=by rw[X.rs];exact List.mem_map.mpr ⟨x,hx,rfl⟩
 have lk:mK (kvT L) (.inr x.1)=some (.m y.2.a):=by rw[<- y1];exact fW X.N.tn hy
 refine⟨_,rfl,_,rfl,P,_,.inr x.1,_,rfl,.inl X.N.hp,rfl,lk,_,rfl,p,8,rfl,X.b,by decide,by decide,λ w M1 w0 w1 b1 f1=>?_⟩;replace X:=X.take b1 f1;clear b1 f1;refine⟨_,rfl,_,_,rfl,rfl,_,rfl,oI (λ _=>?_) (λ _=>⟨_,rfl,_,_,rfl,rfl,_,rfl,oI (λ _=>?_) (λ _=>?_)⟩)⟩
 ·refine⟨_,rfl,p,3,rfl,X.b,by decide,by decide,λ s M2 s0 s1 b2 f2=>?_⟩;replace X:=X.take b2 f2;clear b2 f2;refine⟨_,rfl,p,3,rfl,X.b,by decide,by decide,λ h M3 h0 h1 b3 f3=>.inl ⟨_,_,rfl,rfl,[.int s,.int (1+h)],rfl,few (by simp),[.str "done",.none],rfl,few (by simp),?_⟩⟩;replace X:=X.take b3 f3;clear b3 f3;obtain⟨g1,g2,c1,c2,r1,r2⟩:=X.N.hL y hy;rw[yd] at g2;obtain⟨i0,i1,i2⟩:=ix3 g1;have D:=rO (z:=x.1) V0.w s0 (by omega:s<=2) (by omega:1<=1+h) (by omega);refine⟨_,rfl,_,_,rfl,i0,rfl,_,x.2.ed.length,rfl,(by simp only[ur,g2];simp),rfl,_,_,.d,.d,rfl,_,rfl,?_⟩
  by_cases h9:x.2.ed.length=9
  ·refine eL (by rw[i8];exact decide_eq_true (by omega)) ⟨[.str "many",.int 9],rfl,few (by simp),?_⟩;refine⟨_,rfl,_,rfl,_,rfl,_,_,rfl,rfl,rfl,_,rfl,_,_,rfl,rfl,rfl,[.str "edition",.str x.1,.int s,.int (1+h)],rfl,few (by simp),.mk ρ A S k (.edition x.1 s (1+h)) "hand" rfl X.B X.O hk D X.hn (.other _ rfl hzs) (λ _ _ _ _ _ _ e=>nomatch e) (λ _ _ _ _ e=>nomatch e) (λ u hu s' h' e h9'=>?_) (λ _ _ _ e=>nomatch e) (λ _ _ M' xt=>⟨_,rfl,_,_,.d,.d,tK vS,nh vS (q M' S L (X.ext xt).mono rfl)⟩) nofun⟩
   injection e with e1
   rw[fg X.B.tn hx hu e1.symm] at h9';omega
  ·refine cB (by rw[i8];exact decide_eq_false (by omega)) ⟨_,rfl,_,_,rfl,i0,rfl,y.2.l,_,rfl,g2,_,rfl,_,g2,(by simp only[List.length_map];omega),?_⟩;have al:y.2.a≠y.2.l:=cne c1 c2 nofun;have g1':bz M3 y.2.l (.lst (x.2.ed.map W.d++[.d (.tuple [.int s,.int (1+h)])])) y.2.a=some (.lst (pl y.2)):=by rw[aq al];exact g1
   refine⟨_,rfl,_,_,rfl,(ix3 g1').1,rfl,_,x.2.ed.length+1,rfl,(by simp only[ur,ak];simp),rfl,_,rfl,y.2.a,_,_,1,rfl,rfl,g1',rfl,?_⟩;have N4:=X.N.abY (y:={y.2 with n:=.int ((x.2.ed.length+1:Nat):Int),ed:=x.2.ed++[.tuple [.int s,.int (1+h)]]}) (M':=bz (bz M3 y.2.l (.lst (x.2.ed.map W.d++[.d (.tuple [.int s,.int (1+h)])]))) y.2.a (.lst ((pl y.2).set 1 (.d (.int ((x.2.ed.length+1:Nat):Int)))))) hy rfl rfl (λ q o n n' e=>by rw[aq n,aq n'];exact e) ak (by rw[aq al.symm,ak];simp);rw[y1] at N4;have B4:=(X.B.away (o:=.lst (x.2.ed.map W.d++[.d (.tuple [.int s,.int (1+h)])])) r2).away (o:=.lst ((pl y.2).set 1 (.d (.int ((x.2.ed.length+1:Nat):Int))))) r1;have b4:=gO (o:=.lst ((pl y.2).set 1 (.d (.int ((x.2.ed.length+1:Nat):Int))))) (gO (o:=.lst (x.2.ed.map W.d++[.d (.tuple [.int s,.int (1+h)])])) X.b (cno X.sp c2)) (cno X.sp c1);generalize bz (bz M3 y.2.l (.lst (x.2.ed.map W.d++[.d (.tuple [.int s,.int (1+h)])]))) y.2.a (.lst ((pl y.2).set 1 (.d (.int ((x.2.ed.length+1:Nat):Int)))))=M4 at N4 B4 b4;refine⟨_,rfl,_,rfl,_,rfl,_,_,rfl,rfl,rfl,_,rfl,_,_,rfl,rfl,rfl,[.str "edition",.str x.1,.int s,.int (1+h)],rfl,few (by simp),.mk ρ A S k (.edition x.1 s (1+h)) "hand" rfl B4 X.O hk D X.hn (.other _ rfl hzs) (λ _ _ _ _ _ _ e=>nomatch e) (λ _ _ _ _ e=>nomatch e) (λ u hu s' h' e h9' dn M' B' O' f=>?_) (λ _ _ _ e=>nomatch e) (λ _ ⟨u,hu,eu,hl⟩=>?_) nofun⟩
   ·injection e with e1 e2 e3
    have eu:=fg X.B.tn hx hu e1.symm;subst eu;subst e2 e3;exact⟨_,rfl,_,_,.d,.d,tK jG,nh jG (q M' _ _ (X.fin (y':={u.2 with n:=.int ((u.2.ed.length+1:Nat):Int),ed:=u.2.ed++[.tuple [.int s,.int (1+h)]]}) N4 b4 (by simp only[dat,yk,yc,yp]) ⟨V0.w,V0.kd,V0.c,V0.p,⟨_,rfl,by omega,by omega⟩,λ d hd=>by
     rcases List.mem_append.mp hd with hd | hd
     ·exact V0.ed d hd
     ·exact⟨s,1+h,List.mem_singleton.mp hd,s0,by omega,by omega,by omega⟩⟩ B' O' f) rfl)⟩
   ·rw[fg X.B.tn hx hu eu] at hl;omega
 ·obtain⟨g1,g2,c1,c2,r1,r2⟩:=X.N.hL y hy;obtain⟨i0,i1,i2⟩:=ix3 g1;rw[yn,em] at i1;have D:=xT (z:=x.1) V0.w;refine⟨[.str "noback",.none],rfl,few (by simp),_,rfl,_,_,rfl,i1,rfl,_,_,rfl,rfl,_,rfl,?_⟩
  by_cases h1:m > 1
  ·refine eL (decide_eq_true h1) ⟨[.str "done",.none],rfl,few (by simp),_,rfl,_,_,rfl,i1,rfl,_,_,rfl,rfl,_,rfl,y.2.a,_,_,1,rfl,rfl,g1,rfl,?_⟩;have al:y.2.a≠y.2.l:=cne c1 c2 nofun;have N4:=X.N.abY (y:={y.2 with n:=.int (m-1)}) (M':=bz M1 y.2.a (.lst ((pl y.2).set 1 (.d (.int (m-1)))))) hy rfl rfl (λ q o n n' e=>by rw[aq n];exact e) ak (by rw[aq al.symm];exact g2);rw[y1] at N4;have B4:=X.B.away (o:=.lst ((pl y.2).set 1 (.d (.int (m-1))))) r1;have b4:=gO (o:=.lst ((pl y.2).set 1 (.d (.int (m-1))))) X.b (cno X.sp c1);generalize bz M1 y.2.a (.lst ((pl y.2).set 1 (.d (.int (m-1)))))=M4 at N4 B4 b4;refine⟨_,rfl,_,rfl,[.str "back",.str x.1],rfl,few (by simp),.mk ρ A S k (.back x.1) "r" rfl B4 X.O hk D X.hn (.other _ rfl hzs) (λ _ _ _ _ _ _ e=>nomatch e) (λ _ _ _ _ e=>nomatch e) (λ _ _ _ _ e=>nomatch e) (λ u hu m' e em' n1 dn M' B' O' f=>?_) nofun (λ _ ⟨u,hu,eu,hl⟩=>?_)⟩
   ·injection e with e1
    have eu:=fg X.B.tn hx hu e1.symm;subst eu;rw[em] at em'
    injection em' with em'
    subst em';exact⟨_,rfl,_,_,.d,.d,tK jG,nh jG (q M' _ _ (X.fin (y':={u.2 with n:=.int (m-1)}) N4 b4 (by simp only[dat,yk,yc,yp,yd]) ⟨V0.w,V0.kd,V0.c,V0.p,⟨_,rfl,by omega,by omega⟩,V0.ed⟩ B' O' f) rfl)⟩
   ·rw[fg X.B.tn hx hu eu,em] at hl
    injection hl with hl
    omega
  ·have em1:m=1:=by omega
   refine cB (decide_eq_false h1) ⟨_,rfl,_,rfl,[.str "back",.str x.1],rfl,few (by simp),.mk ρ A S k (.back x.1) "r" rfl X.B X.O hk D X.hn (.other _ rfl hzs) (λ _ _ _ _ _ _ e=>nomatch e) (λ _ _ _ _ e=>nomatch e) (λ _ _ _ _ e=>nomatch e) (λ u hu m' e em' n1=>?_) nofun (λ _ _ M' xt=>⟨_,rfl,_,_,.d,.d,tK qf,nh qf (q M' S L (X.ext xt).mono rfl)⟩)⟩
   injection e with e1
   rw[fg X.B.tn hx hu e1.symm,em] at em'
   injection em' with em'
   omega
 ·refine⟨_,rfl,p,7,rfl,X.b,by decide,by decide,λ c M2 c0 c1' b2 f2=>?_⟩;replace X:=X.take b2 f2;clear b2 f2;refine⟨_,rfl,_,rfl,_,rfl,_,_,rfl,p,_,rfl,X.b,(by split<;>omega),(by split<;>omega),λ v M3 v0 v1 b3 f3=>?_⟩;replace X:=X.take b3 f3;clear b3 f3;obtain⟨g1,g2,c1,c2,r1,r2⟩:=X.N.hL y hy;obtain⟨i0,i1,i2⟩:=ix3 g1;refine⟨_,rfl,_,_,rfl,i2,rfl,_,_,rfl,rfl,rfl,[.int c,.int v,y.2.k],rfl,few (by simp),_,rfl,y.2.a,_,_,2,rfl,rfl,g1,rfl,?_⟩;have D:=ub (z:=x.1) V0.w c0 (by omega:c<=6) v0 v1;have al:y.2.a≠y.2.l:=cne c1 c2 nofun;have e4:bz M3 y.2.a (.lst ((pl y.2).set 2 (.d (.list [.int c,.int v,y.2.k])))) y.2.a=some (.lst (pl {y.2 with c:=.int c,p:=.int v})):=ak;have N4:=X.N.abY (y:={y.2 with c:=.int c,p:=.int v}) (M':=bz M3 y.2.a (.lst ((pl y.2).set 2 (.d (.list [.int c,.int v,y.2.k]))))) hy rfl rfl (λ q o n n' e=>by rw[aq n];exact e) ak (by rw[aq al.symm];exact g2);rw[y1] at N4;have B4:=X.B.away (o:=.lst ((pl y.2).set 2 (.d (.list [.int c,.int v,y.2.k])))) r1;have b4:=gO (o:=.lst ((pl y.2).set 2 (.d (.list [.int c,.int v,y.2.k])))) X.b (cno X.sp c1);generalize bz M3 y.2.a (.lst ((pl y.2).set 2 (.d (.list [.int c,.int v,y.2.k]))))=M4 at N4 B4 b4 e4;refine⟨_,rfl,_,rfl,_,rfl,_,rfl,_,_,rfl,(ix3 e4).2.2,rfl,_,_,rfl,rfl,rfl,[.str "copies",.str x.1,.int c,.int v],rfl,few (by simp),.mk ρ A S k (.copies x.1 c v) "hand" rfl B4 X.O hk D X.hn (.other _ rfl hzs) (λ _ _ _ _ _ _ e=>nomatch e) (λ u hu c' v' e dn M' B' O' f=>?_) (λ _ _ _ _ e=>nomatch e) (λ _ _ _ e=>nomatch e) nofun nofun⟩
  injection e with e1 e2 e3
  have eu:=fg X.B.tn hx hu e1.symm;subst eu;subst e2 e3;have v6:v<=6:=by split at v1<;>omega
  exact⟨[.str "done",.none],rfl,few (by simp),_,_,.d,.d,tK jG,nh jG (q M' _ _ (X.fin (y':={u.2 with c:=.int c,p:=.int v}) N4 b4 (by simp only[dat,yk,yn,yd]) ⟨V0.w,V0.kd,⟨_,rfl,c0,by omega⟩,⟨_,rfl,v0,v6⟩,V0.n,V0.ed⟩ B' O' f) rfl)⟩
theorem ac0:∀ {ds:List PyData},(∀ d∈ds,∃ s h:Int,d=.tuple [.int s,.int h]/\0<=s/\s<=2/\1<=h/\h<=3)->okA 1 ds=true
 | [],_=>rfl
 | d::ds,hd=>by obtain⟨s,h,e,s0,s1,h0,h1⟩:=hd d (by simp);simp only[okA,Bool.and_eq_true];refine⟨?_,ac0 λ x hx=>hd x (by simp[hx])⟩;rw[e];simp only[okD,okA,Bool.and_true,Bool.and_eq_true];exact⟨decide_eq_true (Nat.lt_of_le_of_lt (show s.natAbs<=3 by omega) (by decide)),decide_eq_true (Nat.lt_of_le_of_lt (show h.natAbs<=3 by omega) (by decide))⟩
theorem abc{ds:List PyData}(hd:∀ d∈ds,∃ s h:Int,d=.tuple [.int s,.int h]/\0<=s/\s<=2/\1<=h/\h<=3)(hl:ds.length<=9):fJ (.list ds)=true:=by
 refine lQ (k:=2) (by decide) (by simp only[okD];exact ac0 hd) ?_;have:=vf (c:=4010) (ds:=ds) λ d h=>by obtain⟨s,h,e,_⟩:=hd d h;rw[e];simp[big,uV]
 have:ds.length * (4010+2)<=9 * 4012:=Nat.mul_le_mul hl (by omega);simp only[big];omega
theorem afh{i:Int}(h0:0<=i)(h1:i<=9):okD 0 (.int i)=true:=by simp only[okD];exact decide_eq_true (Nat.lt_of_le_of_lt (show i.natAbs<=9 by omega) (by decide))
theorem aeE{i:Int}(h0:0<=i)(h1:i<=9):fJ (.int i)=true:=lQ (k:=0) (by decide) (afh h0 h1) (by simp[big])
theorem adF{c p:Int}{z:Str}(c0:0<=c)(c1:c<=6)(p0:0<=p)(p1:p<=6)(hz:wd z=true):fJ (.list [.int c,.int p,.str z])=true:=by
 refine lQ (k:=1) (by decide) ?_ ?_
 ·simp only[okD,okA,Bool.and_true,Bool.and_eq_true];exact⟨afh c0 (by omega),afh p0 (by omega),sA hz⟩
 ·have:=(wF hz).2;simp only[big,uV];omega
inductive mS(ws:List W) (M:MH) (Q:QD):Prop
 | mk (ρ σ:Rm) (A:Ads) (P p:Addr) (S:Bs) (L:List (Str×Wi)) (k:Nat) (z0:ws=[.m A.b,.m P]) (X:Pt M ρ σ A P p S L k) (q:∀ M',Ext M M'->Q (.d (.bool true)) M'):mS ws M Q
def cZ:SpD:=mS
theorem rg:∀ ws M Q,cZ ws M Q->ws.length=2:=by rintro ws M Q ⟨ρ,σ,A,P,p,S,L,k,rfl,_⟩;rfl
theorem oz(L:List (Str×Wi)):(kvT L).map (·.1)=(L.map (·.1)).map Sum.inr:=by
 unfold kvT;rw[List.map_map,List.map_map];rfl
theorem pV:∀ ws M Q,cZ ws M Q->oV cn a6 {nx:=λ _ M'=>Q (.d .none) M',rt:=Q} (bh pw ws) M:=by
 rintro ws M Q ⟨ρ,σ,A,P,p,S,L,k,rfl,X,q⟩;have B1:Bk (bz M P (.fdic (kvT L))) ρ A S:=X.B.away X.N.rp;have N1:∀ y∈L,bz M P (.fdic (kvT L)) y.2.a=some (.lst (pl y.2))/\bz M P (.fdic (kvT L)) y.2.l=some (.lst (y.2.ed.map W.d)):=λ y hy=>by obtain⟨g1,g2,c1,c2,r1,r2⟩:=X.N.hL y hy;exact⟨by rw[aq (cne c1 X.N.cp nofun)];exact g1,by rw[aq (cne c2 X.N.cp nofun)];exact g2⟩
 refine⟨P,kvT L,X.N.hp,_,rfl,P,_,rfl,ak,λ _ τ M'=>Ext (bz M P (.fdic (kvT L))) M'/\∃ x2 x3 x4,τ=[some (.m A.b),some (.m P),x2,x3,x4],⟨Ext.refl _,_,_,_,rfl⟩,?_,?_⟩
 ·rintro i w τ M' hw ⟨xt,x2,x3,x4,rfl⟩;rw[List.getElem?_map] at hw;obtain⟨kv,hkv,rfl⟩:=Option.map_eq_some_iff.mp hw;obtain⟨y,hy,rfl⟩:=List.mem_map.mp (List.mem_of_getElem? hkv);obtain⟨x,hx,ex⟩:=aem X.sm.symm hy;obtain⟨e1,ek,ec,ep,en,ed⟩:=wQ ex;have V0:=X.wo x hx;obtain⟨m,em,m1,m9⟩:=V0.n;obtain⟨c,ec',c0,c1⟩:=V0.c;obtain⟨v,ep',v0,v1⟩:=V0.p;have e9:=X.O.e9 x hx;have lk:=fW X.N.tn hy;refine⟨_,rfl,A.b,_,rfl,(B1.ext xt).hb,rfl,_,rfl,.mk ρ A S x (by rw[e1];rfl) (B1.ext xt) hx V0.w λ a l M2 ha hl xt2 h1 h2=>?_⟩;have xt2:=xt.trans xt2;obtain⟨g1,g2⟩:=N1 y hy;have g1:=xt2 _ _ g1;have g2:=xt2 _ _ g2;obtain⟨i0,i1,i2⟩:=ix3 g1;rw[<- ed] at g2;rw[<- en,em] at i1;rw[<- ec,<- ep,<- ek,ec',ep',V0.kd] at i2;have rp1:=abc V0.ed e9;have rp2:=aeE (i:=m) (by omega) m9;have rp3:=adF c0 c1 v0 v1 V0.w;refine⟨_,rfl,_,rfl,P,_,.inr y.1,_,rfl,.inr (xt2 _ _ ak),rfl,lk,?_⟩;refine⟨_,rfl,a,_,.inr "editions",_,rfl,.inl h1,rfl,rfl,_,.list x.2.ed,rfl,.l h2,rp1,_,rfl,_,_,rfl,i0,rfl,_,.list x.2.ed,rfl,.l g2,rp1,_,_,.d,.d,rfl,_,rfl,cB (by rw[eqS];rfl) ?_⟩;refine⟨_,rfl,a,_,.inr "edition",.d (.int m),rfl,.inl h1,rfl,(by rw[<- em];rfl),_,.int m,rfl,.d,rp2,_,rfl,_,_,rfl,i1,rfl,_,.int m,rfl,.d,rp2,_,_,.d,.d,rfl,_,rfl,cB (by rw[eqS];rfl) ?_⟩;refine⟨_,rfl,a,_,.inr "copies",.d (.int c),rfl,.inl h1,rfl,(by rw[<- ec'];rfl),_,rfl,a,_,.inr "keep",.d (.int v),rfl,.inl h1,rfl,(by rw[<- ep'];rfl),_,rfl,a,_,.inr "kind",.d (.str x.1),rfl,.inl h1,rfl,(by rw[<- V0.kd];rfl),[.int c,.int v,.str x.1],rfl,few (by simp),_,.list [.int c,.int v,.str x.1],rfl,.d,rp3,_,rfl,_,_,rfl,i2,rfl,_,.list [.int c,.int v,.str x.1],rfl,.d,rp3,_,_,.d,.d,rfl,_,rfl,cB (by rw[eqS];rfl) ?_⟩;exact⟨xt2,_,_,_,rfl⟩
 ·rintro τ M' ⟨xt,x2,x3,x4,rfl⟩;refine⟨xt _ _ ak,?_⟩;have xt0:Ext M (bz M' P (.dic (kvT L))):=λ r o e=>by
   by_cases h:r=P
   ·rw[h] at e ⊢;rw[ak,<- e];exact X.N.hp.symm
   ·rw[aq h];exact xt _ _ (by rw[aq h];exact e)
  have hP:bz M' P (.dic (kvT L)) P=some (.dic (kvT L)):=ak;generalize bz M' P (.dic (kvT L))=M1 at xt0 hP;have B2:=X.B.ext xt0;have en:L.map (·.1)=S.rs:=by rw[X.rs];exact yO X.sm
  refine⟨_,rfl,A.b,_,rfl,B2.hb,rfl,ρ,A,S,rfl,B2,λ l M2 hl xt2 h2=>⟨_,rfl,P,kvT L,S.rs,rfl,xt2 _ _ hP,(by rw[<- en];exact oz L),λ l2 hl2=>⟨.list (S.rs.map PyData.str),.list (S.rs.map PyData.str),.l (by rw[<- o8];exact iC h2 hl2),.l (by rw[<- o8];exact ak),tK (rL X.O.rw),nh (rL X.O.rw) (q _ (xt0.trans (xt2.trans (Ext.new hl2))))⟩⟩⟩
def lC:SpD:=λ ws M Q=>∃ ns:List Int,ws=[.d (.list (ns.map PyData.int))]/\ns.length<=63/\∀ M',Q (.d (.bool true)) M'
theorem ab0:∀ ws M Q,lC ws M Q->ws.length=1:=by rintro ws M Q ⟨d,rfl,_⟩;rfl
theorem yN:∀ ns:List Int,ns.length<=63->lC [.d (.list (ns.map PyData.int))] (λ _=>none) (λ w _=>w=.d (.bool true)):=λ ns h=>⟨ns,rfl,h,λ _=>rfl⟩
abbrev nm3:List Str:=["web", "api", "log"]
theorem aei:nm3.Nodup:=by decide +kernel
theorem ad6:∀ z∈nm3,wd z=true:=by decide +kernel
inductive LI(p P:Addr) (A:Ads) (k:Nat) (rs:List Str) (τ:DS) (M:MH):Prop
 | mk (ρ σ:Rm) (S:Bs) (L:List (Str×Wi)) (x0 x4 x5 x6:Option W) (X:Pt M ρ σ A P p S L k) (er:S.rs=rs) (ee:S.es=[]) (e:τ=[x0,some (.m p),some (.m A.b),some (.m P),x4,x5,x6]):LI p P A k rs τ M
inductive LJ(p P:Addr) (A:Ads) (k:Nat) (τ:DS) (M:MH):Prop
 | mk (ρ σ:Rm) (S:Bs) (L:List (Str×Wi)) (x0 x4 x5 x6:Option W) (X:Pt M ρ σ A P p S L k) (er:0<S.rs.length) (e:τ=[x0,some (.m p),some (.m A.b),some (.m P),x4,x5,x6]):LJ p P A k τ M
theorem ack{M:MH}{l:Addr}{zs:List Str}{v:Int}(h:M l=some (.lst (eI zs)))(v0:0<=v)(v1:v<(zs.length:Nat)):∃ z∈zs,ixW M (.m l) v=some (.d (.str z)):=by
 obtain⟨n,rfl⟩:=Int.eq_ofNat_of_zero_le v0;have hn:n<zs.length:=by omega
 refine⟨zs[n],List.getElem_mem hn,?_⟩;simp only[ixW,h];exact ve (by simp[eI,hn])
theorem zc:∀ ws M Q,lC ws M Q->acW ft cm bp bG d4 cZ {nx:=λ _ M'=>Q (.d .none) M',rt:=Q} (bh ada ws) M:=by
 rintro ws M Q ⟨ns,rfl,hl,h⟩;have sl:=s16;refine⟨_,rfl,ns,rfl,by omega,λ p M0 hp f0 b0=>?_⟩;refine⟨nm2,rfl,few (by simp),λ b hb=>⟨b,rfl,ak,λ ρ A M1 eb B f=>⟨rfl,?_⟩⟩⟩;subst eb;have pb:=qA b0 hb;have fp:∀ o,M0 p=some o->M1 p=some o/\ρ p=none:=λ o e=>f p o pb (iC e hb);have b1:Bag M1 p:=v8 b0 λ o e=>(fp o e).1;have cp1:ρ p=none:=by obtain⟨_,_,_,_,e,_⟩:=b0;exact(fp _ e).2
 clear f fp b0 f0 hp hb;intro P hP;have pP:=qA b1 hP;have O0:Ok ⟨[],[],[],[]⟩ 0:=⟨.nil,λ z=>⟨nofun,nofun⟩,by decide,nofun,nofun,by decide,by decide,by decide,nofun⟩;obtain⟨ρ2,σ2,X2⟩:∃ ρ2 σ2:Rm,Pt (bz M1 P (.dic [])) ρ2 σ2 A P p ⟨[],[],[],[]⟩ [] 0:=⟨λ q=>if q=P then none else ρ q,λ q=>if q=P then some .w else none,(B.clear hP).away (if_pos rfl),O0,⟨ak,if_pos rfl,if_pos rfl,nofun,.nil⟩,rfl,nofun,gO b1 pP,(if_neg pP).trans cp1,if_neg pP,rfl⟩;generalize bz M1 P (.dic [])=M2 at X2;clear B b1 cp1 hP pP;refine⟨[.str "web",.str "api",.str "log"],rfl,few (by simp),_,rfl,p,3,rfl,X2.b,by decide,by decide,λ n M3 n0 n1 b3 f3=>.inl ⟨_,_,rfl,rfl,_,rfl,_,rfl,rfl,_,rfl,?_⟩⟩;replace X2:=X2.take b3 f3;clear b3 f3;obtain⟨n,rfl⟩:=Int.eq_ofNat_of_zero_le n0;have hn:n<3:=by omega
 have ct:D.cutD ([.str "web",.str "api",.str "log"]:List PyData) none (some (1+((n:Nat):Int)))=(nm3.take (n+1)).map PyData.str:=by rw[show(1+((n:Nat):Int))=((n+1:Nat):Int) by omega,sG (show n+1<=3 by omega),List.map_take];rfl
 rw[ct];refine⟨λ i τ M=>LI p P A i (nm3.take i) τ M,.mk ρ2 σ2 _ _ _ _ _ _ X2 rfl rfl rfl,?_,?_⟩
 ·rintro i w τ M4 hw ⟨ρ,σ,S,L,x0,x4,x5,x6,X,er,ee,rfl⟩;rw[List.getElem?_map,List.getElem?_map] at hw;obtain⟨d,hd,rfl⟩:=Option.map_eq_some_iff.mp hw;obtain⟨z,hz',rfl⟩:=Option.map_eq_some_iff.mp hd;have hin:i<n+1:=by have:=(List.getElem?_eq_some_iff.mp hz').1;rw[List.length_take] at this;omega
  have hz:nm3[i]? =some z:=by rw[List.getElem?_take_of_lt hin] at hz';exact hz'
  have zm:=List.mem_of_getElem? hz;have wz:=ad6 z zm;have zn:z ∉ nm3.take i:=aaS aei hz;have et:nm3.take (i+1)=nm3.take i++[z]:=by rw[List.take_succ,hz];rfl
  refine⟨_,rfl,p,3,rfl,X.b,by decide,by decide,λ s M5 s0 s1 b5 f5=>?_⟩;replace X:=X.take b5 f5;clear b5 f5;refine⟨_,rfl,p,3,rfl,X.b,by decide,by decide,λ g M6 g0 g1 b6 f6=>.inl ⟨_,_,rfl,rfl,[.int s,.int (1+g)],rfl,few (by simp),?_⟩⟩;replace X:=X.take b6 f6;clear b6 f6;have tl:(nm3.take i).length<=3:=by rw[List.length_take];exact Nat.min_le_right _ _
  refine⟨_,rfl,A.b,_,rfl,X.B.hb,rfl,_,rfl,_,rfl,_,rfl,_,_,rfl,rfl,rfl,_,rfl,_,_,rfl,rfl,rfl,[.str "wish",.str z,.str z,.int 3,.int 2,.int s,.int (1+g)],rfl,few (by simp),.mk ρ A S i (.gR z z 3 2 s (1+g)) "hand" rfl X.B X.O (by omega) (y6 wz s0 (by omega) (by omega) (by omega)) X.hn (.gR z z 3 2 s (1+g) (by rw[er];exact zn) (by rw[ee];nofun) (by rw[er];omega)) (λ z' kd c v s' h' e ρ' a0 l0 dn M7 B7 O7 f7=>?_) (λ _ _ _ _ e=>nomatch e) (λ _ _ _ _ e=>nomatch e) (λ _ _ _ e=>nomatch e) nofun nofun⟩
  injection e with e1 e2 e3 e4 e5 e6
  subst e1 e2 e3 e4 e5 e6;have N7:=X.N.keep f7;have b7:Bag M7 p:=v8 X.b λ o e=>(f7 p o e X.rp).1;have rp7:ρ' p=none:=by obtain⟨_,_,_,_,e,_⟩:=X.b;exact(f7 _ _ e X.rp).2
  refine⟨_,rfl,few (by simp),λ l hl=>⟨_,rfl,[.int 3,.int 2,.str z],rfl,few (by simp),few (by simp),λ a ha=>?_⟩⟩;have al:a≠l:=(bt ak ha).symm;have ha7:M7 a=none:=by rw[aq al] at ha;exact ha
  have Pl:P≠l:=bt N7.hp hl;have Pa:P≠a:=bt N7.hp ha7;have pl':p≠l:=qA b7 hl;have pa':p≠a:=qA b7 ha7;have pP:p≠P:=cno X.sp X.N.cp;have hL3:L.length<=3:=by
   have:(L.map (·.1)).length=S.rs.length:=by rw[X.rs,yO X.sm]
   rw[er,List.length_map] at this;omega
  have zL:z ∉ L.map (·.1):=by rw[yO X.sm,<- X.rs,er];exact zn
  refine⟨_,rfl,_,rfl,P,_,.inr z,rfl,(by rw[aq Pa,aq Pl];exact N7.hp),rfl,(by simp only[kvT,List.length_map];omega),?_⟩;have N8:=((N7.clear l).clear a).newX (z:=z) (y:=⟨.str z,.int 3,.int 2,.int 1,[.tuple [.int s,.int (1+g)]],a,l⟩) (M':=bz (bz (bz M7 l (.lst [.d (.tuple [.int s,.int (1+g)])])) a (.lst (pl ⟨.str z,.int 3,.int 2,.int 1,[.tuple [.int s,.int (1+g)]],a,l⟩))) P (.dic (xS (kvT L) (.inr z) (.m a)))) zL ha7 hl al (if_pos rfl) (by show(if l=a then none else if l=l then none else ρ' l)=none;rw[if_neg al.symm,if_pos rfl]) (λ q o nq e=>by rw[aq nq,aq (bt e ha7),aq (bt e hl)];exact e) (by rw[ak,<- vd zL]) (by show bz _ P _ a=_;rw[aq Pa.symm,ak]) (by show bz _ P _ l=_;rw[aq Pl.symm,aq al.symm,ak];rfl);refine .mk _ _ ⟨S.rs++[z],S.es,_,dn⟩ _ _ _ _ _ ⟨(((B7.clear hl).clear ha7).away (o:=.lst [.d (.tuple [.int s,.int (1+g)])]) ?_ |>.away (a:=a) (if_pos rfl)).away N8.rp,O7,N8,?_,?_,gO (gO (gO b7 pl') pa') pP,?_,?_,?_⟩ ?_ ee rfl
  ·show(if l=a then none else if l=l then none else ρ' l)=none;rw[if_neg al.symm,if_pos rfl]
  ·rw[List.map_append,List.map_append,X.sm];rfl
  ·intro x hx;rcases List.mem_append.mp hx with hx | hx
   ·exact X.wo x hx
   ·rw[List.mem_singleton.mp hx];exact⟨wz,rfl,⟨3,rfl,by decide,by decide⟩,⟨2,rfl,by decide,by decide⟩,⟨1,rfl,by decide,by decide⟩,λ d hd=>⟨s,1+g,List.mem_singleton.mp hd,s0,by omega,by omega,by omega⟩⟩
  ·show(if p=a then none else if p=l then none else ρ' p)=none;rw[if_neg pa',if_neg pl'];exact rp7
  ·show(if p=a then _ else if p=l then _ else σ p)=none;rw[if_neg pa',if_neg pl'];exact X.sp
  ·show S.rs++[z]=List.map _ (S.T++_);rw[List.map_append,X.rs];rfl
  ·show S.rs++[z]=nm3.take (i+1);rw[et,er]
 rintro τ M4 ⟨ρ,σ,S,L,x0,x4,x5,x6,X,er,ee,rfl⟩;have hlen:((nm3.take (n+1)).map PyData.str |>.map W.d).length=n+1:=by rw[List.length_map,List.length_map,List.length_take];show min (n+1) 3=n+1;omega
 rw[hlen] at X er;have e0:0<S.rs.length:=by rw[er,List.length_take];show 0<min _ 3;omega
 have X:Pt M4 ρ σ A P p S L 9:=⟨X.B,X.O.mono (by omega),X.N,X.sm,X.wo,X.b,X.rp,X.sp,X.rs⟩;refine⟨_,rfl,p,36,rfl,X.b,by decide,by decide,λ m M5 m0 m1 b5 f5=>.inl ⟨_,_,rfl,rfl,15+m,rfl,by omega,by omega,λ i τ M=>LJ p P A (9+i) τ M,.mk ρ σ S L _ _ _ _ (X.take b5 f5) e0 rfl,?_,λ τ M7 _=>h M7⟩⟩;clear X e0 er ee;rintro i w τ M6 hw ⟨ρ,σ,S,L,x0,x4,x5,x6,X,er,rfl⟩;obtain⟨hi,rfl⟩:=abU hw;have en:L.map (·.1)=S.rs:=by rw[X.rs];exact yO X.sm
 have enl:(kvT L).length=S.rs.length:=by rw[<- en];simp[kvT]
 have r8:=X.O.r8;refine⟨_,rfl,P,kvT L,S.rs,rfl,X.N.hp,(by rw[<- en];exact oz L),λ l hl=>?_⟩;have pl':p≠l:=qA X.b hl;replace X:=X.ext (Ext.new (o:=.lst (eI S.rs)) hl);have hL:bz M6 l (.lst (eI S.rs)) l=some (.lst (eI S.rs)):=ak;generalize bz M6 l (.lst (eI S.rs))=M7 at X hL;refine⟨_,rfl,_,rfl,P,_,rfl,X.N.hp,p,_,rfl,X.b,(by rw[enl];omega),(by rw[enl];omega),λ v M8 v0 v1 b8 f8=>?_⟩;replace X:=X.take b8 f8;rw[enl] at v1;obtain⟨z,hz,ez⟩:=ack (M:=M8) (v:=v) ((f8 l pl'.symm).trans hL) v0 v1;obtain⟨x,hx,rfl⟩:=X.O.find hz;refine⟨_,_,rfl,ez,rfl,?_⟩;refine⟨_,rfl,_,rfl,_,rfl,_,rfl,.mk ρ σ A P p S L (9+i) x rfl X (by omega) hx λ M9 S9 L9 X9 e9=>⟨_,rfl,fh ?_⟩⟩;exact⟨_,rfl,_,rfl,.mk ρ σ A P p S9 L9 _ rfl X9 λ M10 xt=>⟨_,rfl,fh (.mk ρ σ S9 L9 _ _ _ _ (X9.ext xt) (by rw[e9];exact er) rfl)⟩⟩
def top(i:Nat):Stmt:=PySem.Challenge.pw_placedworks_k24_editions_and_back.main.body.getD i (.Pass ⟨0,0,0,0⟩)
abbrev kN:Stmt:=top 42
abbrev bZ:Stmt:=inClass (top 17) 0
abbrev eX:Stmt:=top 5
abbrev bW:Stmt:=top 28
abbrev cU:Stmt:=inClass (top 40) 0
abbrev iZ:Stmt:=top 43
abbrev fz:Stmt:=top 3
abbrev fj:Stmt:=top 4
abbrev gK:Stmt:=top 11
abbrev eV:Stmt:=top 12
abbrev gB:Stmt:=top 10
abbrev cF:Stmt:=inClass (top 40) 17
abbrev dA:Stmt:=inClass (top 40) 11
abbrev bO:Stmt:=inClass (top 40) 4
abbrev bM:Stmt:=inClass (top 18) 0
abbrev aY:Stmt:=inClass (top 40) 5
abbrev cC:Stmt:=inClass (top 19) 0
abbrev bo:Stmt:=inClass (top 40) 6
abbrev bY:Stmt:=inClass (top 21) 0
abbrev aV:Stmt:=inClass (top 40) 7
abbrev aX:Stmt:=inClass (top 40) 8
abbrev bT:Stmt:=inClass (top 40) 9
abbrev fb:Stmt:=top 31
abbrev dv:Stmt:=top 32
abbrev cQ:Stmt:=top 33
abbrev gn:Stmt:=top 34
abbrev dY:Stmt:=inClass (top 40) 3
abbrev cS:Stmt:=top 44
abbrev iN:Stmt:=top 45
abbrev iW:Stmt:=top 47
abbrev dq:Stmt:=top 29
abbrev cV:Stmt:=inClass (top 40) 12
abbrev gJ:Stmt:=top 46
abbrev nW:Stmt:=top 48
structure Env(w:World)(K:FG)(mg:Str->Option Value):Prop where
 k_Book:Cls K aj
 m_Book:mg "Book" = some (.ref aj)
 m_BadName:mg "BadName" = some (.ref bf)
 m_Known:mg "Known" = some (.ref bE)
 m_NoBack:mg "NoBack" = some (.ref az)
 m_NoDeed:mg "NoDeed" = some (.ref bJ)
 m_PlaceError:mg "PlaceError" = some (.ref cY)
 m_TooMany:mg "TooMany" = some (.ref ar)
 m_Unknown:mg "Unknown" = some (.ref aF)
 m_Used:mg "Used" = some (.ref mW)
 m_go_back:mg "go_back" = some (.ref fD)
 m_tell_copies:mg "tell_copies" = some (.ref cH)
 m_tell_edition:mg "tell_edition" = some (.ref cy)
 m_tell_wish:mg "tell_wish" = some (.ref dO)
 x_BadName:XO.XC K bf
 x_Known:XO.XC K bE
 x_NoBack:XO.XC K az
 x_NoDeed:XO.XC K bJ
 x_TooMany:XO.XC K ar
 x_Unknown:XO.XC K aF
 e_NoBack_PlaceError:W.exmOne K (.ref az) (.ref cY)=some true
 e_TooMany_PlaceError:W.exmOne K (.ref ar) (.ref cY)=some true
 i_NoBack_Known:W.kitAny K (.ref az) [.ref bE]=some false
 i_NoBack_NoBack:W.kitAny K (.ref az) [.ref az]=some true
 i_NoBack_NoDeed:W.kitAny K (.ref az) [.ref bJ]=some false
 i_NoBack_TooMany:W.kitAny K (.ref az) [.ref ar]=some false
 i_NoBack_Unknown:W.kitAny K (.ref az) [.ref aF]=some false
 i_NoBack_Used:W.kitAny K (.ref az) [.ref mW]=some false
 i_TooMany_Known:W.kitAny K (.ref ar) [.ref bE]=some false
 i_TooMany_NoBack:W.kitAny K (.ref ar) [.ref az]=some false
 i_TooMany_NoDeed:W.kitAny K (.ref ar) [.ref bJ]=some false
 i_TooMany_TooMany:W.kitAny K (.ref ar) [.ref ar]=some true
 i_TooMany_Unknown:W.kitAny K (.ref ar) [.ref aF]=some false
 i_TooMany_Used:W.kitAny K (.ref ar) [.ref mW]=some false
 xk_NoBack:W.keepIn K (.ref az)=true
 xk_NoDeed:W.keepIn K (.ref bJ)=true
 xn_NoBack:XO.xno K az=true
 xn_NoDeed:XO.xno K bJ=true
 xt_NoBack:W.typeIn K (.ref az)=some (.type "type")
 xt_NoDeed:W.typeIn K (.ref bJ)=some (.type "type")
 m_DOINGS:mg "DOINGS" = some (.ref jn)
 k_DOINGS:pz w K jn iR
 m_BOUNDS:mg "BOUNDS" = some (.ref iO)
 m_ENDING_SORTS:mg "ENDING_SORTS" = some (.ref dS)
 m_MOST:mg "MOST" = some (.ref ql)
 m_NEEDED:mg "NEEDED" = some (.ref jj)
 m_PARTS:mg "PARTS" = some (.ref lS)
 m_USERS:mg "USERS" = some (.ref lA)
 k_BOUNDS:iD w K iO iU
 k_MOST:iD w K ql lR
 k_NEEDED:iD w K jj iJ
 k_PARTS:iD w K lS lK
 k_USERS:iD w K lA nP
 t_ENDING_SORTS:rQ K (.ref dS) (.tuple [.str "wish",.str "store",.str "door",.str "rule"])=true
 n_BadName_at:cx K bf "at"
 n_Book_done:cx K aj "done"
 n_Book_emptied_names:cx K aj "emptied_names"
 n_Book_ended:cx K aj "ended"
 n_Book_machine_names:cx K aj "machine_names"
 n_Book_ranked:cx K aj "ranked"
 n_Book_told_rows:cx K aj "told_rows"
 n_Book_wished:cx K aj "wished"
 n_Known_name:cx K bE "name"
 n_TooMany_most:cx K ar "most"
 n_Unknown_name:cx K aF "name"
 b_abs:mg "abs" = none
 b_all:mg "all" = none
 b_bool:mg "bool" = none
 b_dict:mg "dict" = none
 b_enumerate:mg "enumerate" = none
 b_int:mg "int" = none
 b_isinstance:mg "isinstance" = none
 b_len:mg "len" = none
 b_list:mg "list" = none
 b_max:mg "max" = none
 b_range:mg "range" = none
 b_repr:mg "repr" = none
 b_str:mg "str" = none
 b_tuple:mg "tuple" = none
 b_zip:mg "zip" = none
 c_LONGEST_WORD:∃ t,mg "LONGEST_WORD" = some (.int 8 t)
 c_MOST_EDITIONS:∃ t,mg "MOST_EDITIONS" = some (.int 9 t)
 c_MOST_MACHINES:∃ t,mg "MOST_MACHINES" = some (.int 8 t)
section
variable (P:Program)(w:World)(K:FG)(mg:Str->Option Value)(base:Heap)
abbrev wm:=ZZ P w K mg base (Fn K mg "_law_bag" kN ["_law_script"]) 1 ["_law_script"] ft
abbrev nK:=ZZ P w K mg base (Fn K mg "_law_take" iZ ["_law_bag_here", "_law_many"]) 1 ["_law_bag_here", "_law_many"] bp
abbrev mY:=ZZ P w K mg base (Fn K mg "is_whole" fz ["thing"]) 1 ["thing"] bq
abbrev lO:=ZZ P w K mg base (Fn K mg "is_within" fj ["thing", "low", "high"]) 2 ["thing", "low", "high"] bD
abbrev pC:=ZZ P w K mg base (Fn K mg "is_part" gK ["form", "part"]) 3 ["form", "part"] df
abbrev kG:=ZZ P w K mg base (Fn K mg "keep_fits" eV ["forms", "deed"]) 1 ["forms", "deed"] ck
abbrev gE:=ZZ P w K mg base (Mf K aj "machines" "Book.machines" cF ["self"]) 1 ["self"] bx
abbrev fZ:=ZZ P w K mg base (Mf K aj "wishes" "Book.wishes" dA ["self"]) 1 ["self"] a6
abbrev sO:=ZZ P w K mg base (Fn K mg "_law_told" iN ["_law_some", "_law_thing", "_law_who"]) 6 ["_law_some", "_law_thing", "_law_who"] cP
abbrev sP:=ZZ P w K mg base (Fn K mg "_law_step" iW ["_law_bag_here", "_law_some", "_law_plans", "_law_name"]) 7 ["_law_bag_here", "_law_some", "_law_plans", "_law_name"] d4
abbrev pU:=ZZ P w K mg base (Fn K mg "_law_right" gJ ["_law_some", "_law_plans"]) 4 ["_law_some", "_law_plans"] cZ
end
section
variable {P:Program}{w:World}{K:FG}{mg:Str->Option Value}{base:Heap}
theorem agh:(["_law_cell"]:List Str).Nodup:=by decide +kernel
theorem xY:aJ xF ["_law_script"] (ag kN):=⟨rfl,rfl,rfl,by decide +kernel,rfl,by decide +kernel,by decide +kernel⟩
theorem yh{f:Addr}{fd:FuncData}(E:Env w K mg)(F:Fn K mg "_law_bag" kN ["_law_script"] f fd) :
  bH P w K mg base CX0 1 f fd ["_law_script"] (dH K ft):=by
 refine cO (t:=uZ) F.fn xY wC (λ cdv A outer s H E' hr=>?_) tU;refine Jd.h ?_;exact af (aB (fL (aC (ah) (aC (ah) (aC (ah) (aC (xa rfl (afb (own:=(["_law_cell"]:List Str)) (fr:=[]) rfl) (eP (d6 (dvQ 0) (dX) (d9 (ah)))) (λ _ _ _ _ _ _=>aG (i:=0) agh rfl (Or.inl rfl)) (λ _ _ _ _ _ _=>lG) (λ _ _ _ _ _ _=>jJ y8 ac3 rfl E.b_abs adw (aC (dvQ 0) (aa)))) (aa)))))))
theorem kL:aJ ml ["self", "at"] (ag bZ):=⟨rfl,rfl,rfl,by decide +kernel,rfl,by decide +kernel,by decide +kernel⟩
theorem lT{f:Addr}{fd:FuncData}(E:Env w K mg)(F:Xi K bf "BadName.__init__" bZ ["self", "at"] f fd):bH P w K mg base CX0 1 f fd ["self", "at"] (lj bf ["at"]):=yj F.fn kL F.xm.xc E.n_BadName_at rfl (λ _=>rfl) rfl rfl
theorem age:(["sign"]:List Str).Nodup:=by decide +kernel
theorem uK:aJ jk ["thing"] (ag eX):=⟨rfl,rfl,rfl,by decide +kernel,rfl,by decide +kernel,by decide +kernel⟩
theorem tW{f:Addr}{fd:FuncData}(E:Env w K mg)(F:Fn K mg "is_word" eX ["thing"] f fd) :
  bH P w K mg base CX0 1 f fd ["thing"] (dH K aQ):=by
 refine cO (t:=ji) F.fn uK k6 (λ cdv A outer s H E' hr=>?_) jO;refine Jd.h ?_;exact ae (aN (fB (fx (cI (b9 (jJ eS iw rfl E.b_isinstance bU (aC (dvQ 0) (aC (fQ rfl E.b_str v5) (aa)))))) (fk (cI (uo lq iu lq iu (ah) (jJ eN iL rfl E.b_len ig (aC (dvQ 0) (aa))) (jh rfl (E.c_LONGEST_WORD).choose_spec))))))
   (af (aB (jR)))
   (ay)) <|
  af (aB (jJ (vy rfl) adE rfl E.b_all aec (aC (xa rfl (afb (own:=(["sign"]:List Str)) (fr:=[]) rfl) (eP (dvQ 0)) (λ _ _ _ _ _ _=>aG (i:=0) age rfl (Or.inl rfl)) (λ _ _ _ _ _ _=>lG) (λ _ _ _ _ _ _=>qh lq iu lq iu (av) (dvQ 0) (av))) (aa))))
theorem eU:aJ hZ ["names"] (ag bW):=⟨rfl,rfl,rfl,by decide +kernel,rfl,by decide +kernel,by decide +kernel⟩
theorem lM{f:Addr}{fd:FuncData}(E:Env w K mg)(F:Fn K mg "refuse_names" bW ["names"] f fd)
  {f_BadName_init:Addr}{fd_BadName_init:FuncData}(G_BadName_init:Xi K bf "BadName.__init__" bZ ["self", "at"] f_BadName_init fd_BadName_init)(O_BadName_init:bH P w K mg base CX0 1 f_BadName_init fd_BadName_init ["self", "at"] (lj bf ["at"]))
  {f_is_word:Addr}{fd_is_word:FuncData}(G_is_word:Fn K mg "is_word" eX ["thing"] f_is_word fd_is_word)(O_is_word:bH P w K mg base CX0 1 f_is_word fd_is_word ["thing"] (dH K aQ)) :
  bH P w K mg base (CXE P w) 3 f fd ["names"] (eD K bF):=by
 refine gw (t:=λ Ex=>iq Ex aQ) F.fn eU jZ (λ cdv A outer s H E' Ex hr hE hP=>?_) jA;refine Jd.h ?_;exact ae (aN (fB (fx (cI (b9 (jJ eS iw rfl E.b_isinstance bU (aC (dvQ 0) (aC (fQ rfl E.b_list iz) (aa)))))) (fk (cI (nD (dvQ 0))))))
   (af (cW hE G_BadName_init.xm O_BadName_init (hr.mono (by decide)) rfl E.m_BadName G_BadName_init.bd (aC (ah) (aa))))
   (ay)) <|
  af (fO hP rfl (u9 rfl E.b_enumerate (aC (dvQ 0) (aa))) (fo rfl (aO (aG (i:=1) eU.nd rfl (Or.inl rfl)) (aO (aG (i:=2) eU.nd rfl (Or.inl rfl)) (eA))))
   (af (aN (fB (fx (aM xK sC (dvQ 1) (jh rfl (E.c_MOST_MACHINES).choose_spec)) (fx (cI (b9 (kh O_is_word (hr.mono (by decide)) rfl G_is_word.mg G_is_word.fn.kp G_is_word.bd (aC (dvQ 2) (aa))))) (fk (aM (tE hr.h) nG (dvQ 2) (d6 (dvQ 0) (dX) (d9 (dvQ 1))))))))
    (af (cW hE G_BadName_init.xm O_BadName_init (hr.mono (by decide)) rfl E.m_BadName G_BadName_init.bd (aC (dvQ 1) (aa))))
    (ay))))
theorem qc:aJ lY ["self", "machines"] (ag cU):=⟨rfl,rfl,rfl,by decide +kernel,rfl,by decide +kernel,by decide +kernel⟩
theorem qM{f:Addr}{fd:FuncData}(E:Env w K mg)(F:Mi K aj "Book.__init__" cU ["self", "machines"] f fd)
  {f_refuse_names:Addr}{fd_refuse_names:FuncData}(G_refuse_names:Fn K mg "refuse_names" bW ["names"] f_refuse_names fd_refuse_names)(O_refuse_names:bH P w K mg base (CXE P w) 3 f_refuse_names fd_refuse_names ["names"] (eD K bF)) :
  bH P w K mg base (CXE P w) 4 f fd ["self", "machines"] (eD K cm):=by
 refine gw (t:=λ Ex=>k9 Ex bF) F.fn qc nR (λ cdv A outer s H E' Ex hr hE hP=>?_) mB;refine Jd.h ?_;exact ae (cv (ag4 hE O_refuse_names (hr.mono (by decide)) rfl G_refuse_names.mg G_refuse_names.fn.kp G_refuse_names.bd (aC (dvQ 1) (aa)))) <|
  ae (fM E.k_Book E.n_Book_machine_names (dvQ 0) (ye (ab1 fu i9 rfl E.b_list iz (aC (dvQ 1) (aa))))) <|
  ae (fM E.k_Book E.n_Book_emptied_names (dvQ 0) (fv (aa))) <|
  ae (fM E.k_Book E.n_Book_ranked (dvQ 0) (fL (aa))) <|
  ae (fM E.k_Book E.n_Book_wished (dvQ 0) (mX)) <|
  ae (fM E.k_Book E.n_Book_ended (dvQ 0) (fL (aa))) <|
  ae (fM E.k_Book E.n_Book_told_rows (dvQ 0) (pR (trs:=[(dC (.d (.str "group")),qQ (aW)),(dC (.d (.str "store")),qQ (aW)),(dC (.d (.str "door")),qQ (aW)),(dC (.d (.str "rule")),qQ (aW))]) (du (av) (fv (aa)) (du (av) (fv (aa)) (du (av) (fv (aa)) (du (av) (fv (aa)) (sN))))))) <|
  af (fM E.k_Book E.n_Book_done (dvQ 0) (fL (aa)))
theorem fE:aJ tJ ["_law_bag_here", "_law_many"] (ag iZ):=⟨rfl,rfl,rfl,by decide +kernel,rfl,by decide +kernel,by decide +kernel⟩
theorem vU{f:Addr}{fd:FuncData}(E:Env w K mg)(F:Fn K mg "_law_take" iZ ["_law_bag_here", "_law_many"] f fd) :
  bH P w K mg base CX0 1 f fd ["_law_bag_here", "_law_many"] (dH K bp):=by
 refine cO (t:=su) F.fn fE uJ (λ cdv A outer s H E' hr=>?_) rm;refine Jd.h ?_;exact ae (aN (aM (z9 hr.h) acD (aT aR aU (dvQ 0) (ah)) (ah))
   (ae (aP (i:=2) fE.nd rfl (Or.inl rfl) (ah)) <|
   ae (aN (aM abj vt (aT aR aU (dvQ 0) (ah)) (jJ eN iL rfl E.b_len ig (aC (aT aR aU (dvQ 0) (ah)) (aa))))
    (af (aP (i:=2) fE.nd rfl (Or.inl rfl) (aT aR aU (aT aR aU (dvQ 0) (ah)) (aT aR aU (dvQ 0) (ah)))))
    (ay)) <|
   ae (xp (dvQ 0) (ah) (ah) adh) <|
   ae (aN (aM xK sC (dvQ 2) (ah))
    (af (cR (dvQ 2) (g9 (dvQ 0) (ah))))
    (ay)) <|
   af (cR (bS jV gq (bS eZ dB (bS eZ dB (bS nC jI (aT aR aU (dvQ 0) (ah)) (ah)) (bS jV gq (dvQ 2) (ah))) (bS nC jI (ah) (aT aR aU (dvQ 0) (ah)))) (ah)) (g9 (dvQ 0) (ah))))
   (ay)) <|
  ae (aN (aM ab5 wW (aT aR aU (dvQ 0) (ah)) (ah))
   (ae (aP (i:=3) fE.nd rfl (Or.inl rfl) (bS jV gq (aT aR aU (dvQ 0) (ah)) (dvQ 1))) <|
   ae (cR (bS vJ w9 (aT aR aU (dvQ 0) (ah)) (dvQ 1)) (g9 (dvQ 0) (ah))) <|
   af (aB (dvQ 3)))
   (ay)) <|
  ae (aP (i:=4) fE.nd rfl (Or.inl rfl) (bS jV gq (bS nC jI (bS eZ dB (aT aR aU (dvQ 0) (ah)) (ah)) (ah)) (ah))) <|
  ae (aP (i:=5) fE.nd rfl (Or.inl rfl) (bS jV gq (bS nC jI (bS jV gq (bS nC jI (dvQ 4) (dvQ 4)) (ah)) (ah)) (ah))) <|
  ae (aN (aM ab5 wW (dvQ 1) (ah))
   (af (aB (bS jV gq (bS eZ dB (bS nC jI (dvQ 5) (ah)) (dvQ 4)) (dvQ 1))))
   (ay)) <|
  af (aB (bS jV gq (bS vJ w9 (dvQ 5) (ah)) (dvQ 1)))
theorem rE:aJ hJ ["thing"] (ag fz):=⟨rfl,rfl,rfl,by decide +kernel,rfl,by decide +kernel,by decide +kernel⟩
theorem sj{f:Addr}{fd:FuncData}(E:Env w K mg)(F:Fn K mg "is_whole" fz ["thing"] f fd) :
  bH P w K mg base CX0 1 f fd ["thing"] (dH K bq):=by
 refine cO (t:=gW) F.fn rE jY (λ cdv A outer s H E' hr=>?_) iS;refine Jd.h ?_;exact af (aB (rY (jJ eS iw rfl E.b_isinstance bU (aC (dvQ 0) (aC (fQ rfl E.b_int adQ) (aa)))) (nU (abL (jJ eS iw rfl E.b_isinstance bU (aC (dvQ 0) (aC (fQ rfl E.b_bool aa6) (aa))))))))
theorem ph:aJ fK ["thing", "low", "high"] (ag fj):=⟨rfl,rfl,rfl,by decide +kernel,rfl,by decide +kernel,by decide +kernel⟩
theorem qK{f:Addr}{fd:FuncData}(E:Env w K mg)(F:Fn K mg "is_within" fj ["thing", "low", "high"] f fd)(z_is_whole:mY P w K mg base) :
  bH P w K mg base CX0 2 f fd ["thing", "low", "high"] (dH K bD):=by
 obtain⟨_,_,G_is_whole,O_is_whole⟩:=z_is_whole;refine cO (t:=fV bq) F.fn ph jm (λ cdv A outer s H E' hr=>?_) ia;refine Jd.h ?_;exact af (aB (rY (kh O_is_whole (hr.mono (by decide)) rfl G_is_whole.mg G_is_whole.fn.kp G_is_whole.bd (aC (dvQ 0) (aa))) (nU (qh lq iu lq iu (dvQ 1) (dvQ 0) (dvQ 2)))))
theorem jM:aJ pd ["form", "part"] (ag gK):=⟨rfl,rfl,rfl,by decide +kernel,rfl,by decide +kernel,by decide +kernel⟩
theorem uh{f:Addr}{fd:FuncData}(E:Env w K mg)(F:Fn K mg "is_part" gK ["form", "part"] f fd)
  {f_is_word:Addr}{fd_is_word:FuncData}(G_is_word:Fn K mg "is_word" eX ["thing"] f_is_word fd_is_word)(O_is_word:bH P w K mg base CX0 1 f_is_word fd_is_word ["thing"] (dH K aQ))(z_is_within:lO P w K mg base) :
  bH P w K mg base CX0 3 f fd ["form", "part"] (dH K df):=by
 obtain⟨_,_,G_is_within,O_is_within⟩:=z_is_within;refine cO (t:=pQ aQ bD) F.fn jM rz (λ cdv A outer s H E' hr=>?_) pT;refine Jd.h ?_;exact ae (aN (aM (eF hr.h) cM (dvQ 0) (av))
   (af (aB (kh O_is_word (hr.mono (by decide)) rfl G_is_word.mg G_is_word.fn.kp G_is_word.bd (aC (dvQ 1) (aa)))))
   (ay)) <|
  ae (aN (aM (eF hr.h) cM (dvQ 0) (av))
   (af (aB (rY (jJ eS iw rfl E.b_isinstance bU (aC (dvQ 1) (aC (fQ rfl E.b_str v5) (aa)))) (nU (iA (tE hr.h) nG (dvQ 1) (vQ rfl E.m_ENDING_SORTS E.t_ENDING_SORTS))))))
   (ay)) <|
  ae (cR (lP rfl E.m_BOUNDS E.k_BOUNDS (dvQ 0)) (fo rfl (aO (aG (i:=2) jM.nd rfl (Or.inl rfl)) (aO (aG (i:=3) jM.nd rfl (Or.inl rfl)) (eA))))) <|
  af (aB (kh O_is_within (hr.mono (by decide)) rfl G_is_within.mg G_is_within.fn.kp G_is_within.bd (aC (dvQ 1) (aC (dvQ 2) (aC (dvQ 3) (aa))))))
theorem gG:aJ k7 ["forms", "deed"] (ag eV):=⟨rfl,rfl,rfl,by decide +kernel,rfl,by decide +kernel,by decide +kernel⟩
theorem pM{f:Addr}{fd:FuncData}(E:Env w K mg)(F:Fn K mg "keep_fits" eV ["forms", "deed"] f fd) :
  bH P w K mg base CX0 1 f fd ["forms", "deed"] (dH K ck):=by
 refine cO (t:=lu) F.fn gG nN (λ cdv A outer s H E' hr=>?_) mv;refine Jd.h ?_;exact ae (aP (i:=2) gG.nd rfl (Or.inl rfl) (aT aR aU (dvQ 1) (bS eZ dB (pS hr (dvQ 0) (av)) (ah)))) <|
  ae (aP (i:=3) gG.nd rfl (Or.inl rfl) (aT aR aU (dvQ 1) (bS eZ dB (pS hr (dvQ 0) (av)) (ah)))) <|
  af (aB (iA lq iu (dvQ 3) (jJ (qe rfl) xC rfl E.b_max aad (aC (bS zI w5 (dvQ 2) (ah)) (aC (ah) (aa))))))
theorem gX:aJ pf ["thing"] (ag gB):=⟨rfl,rfl,rfl,by decide +kernel,rfl,by decide +kernel,by decide +kernel⟩
theorem uC{f:Addr}{fd:FuncData}(E:Env w K mg)(F:Fn K mg "is_deed" gB ["thing"] f fd)(z_is_part:pC P w K mg base)(z_keep_fits:kG P w K mg base) :
  bH P w K mg base CX0 4 f fd ["thing"] (dH K cX):=by
 obtain⟨_,_,G_is_part,O_is_part⟩:=z_is_part;obtain⟨_,_,G_keep_fits,O_keep_fits⟩:=z_keep_fits;refine cO (t:=pA df ck) F.fn gX rM (λ cdv A outer s H E' hr=>?_) qg;refine Jd.h ?_;exact ae (aN (fB (fx (cI (b9 (jJ eS iw rfl E.b_isinstance bU (aC (dvQ 0) (aC (fQ rfl E.b_tuple yA) (aa)))))) (fx (cI (nD (dvQ 0))) (fk (cI (b9 (jJ eS iw rfl E.b_isinstance bU (aC (aT aR aU (dvQ 0) (ah)) (aC (fQ rfl E.b_str v5) (aa))))))))))
   (af (aB (jR)))
   (ay)) <|
  ae (aP (i:=1) gX.nd rfl (Or.inl rfl) (zz rfl E.m_PARTS E.k_PARTS (aT aR aU (dvQ 0) (ah)))) <|
  ae (aN (fB (fx (aM adx abb (dvQ 1) (gp)) (fk (aM (pL hr.h) lI (jJ eN iL rfl E.b_len ig (aC (dvQ 0) (aa))) (bS eZ dB (jJ eN iL rfl E.b_len ig (aC (dvQ 1) (aa))) (ah))))))
   (af (aB (jR)))
   (ay)) <|
  ae (fO PassesOwn.never rfl (wV rfl E.b_zip (aC (dvQ 1) (aC (d6 (dvQ 0) (d9 (ah)) (dX)) (aa)))) (fo rfl (aO (aG (i:=2) gX.nd rfl (Or.inl rfl)) (aO (aG (i:=3) gX.nd rfl (Or.inl rfl)) (eA))))
   (af (aN (cI (b9 (kh O_is_part (hr.mono (by decide)) rfl G_is_part.mg G_is_part.fn.kp G_is_part.bd (aC (dvQ 2) (aC (dvQ 3) (aa))))))
    (af (aB (jR)))
    (ay)))) <|
  af (aB (ad9 (iA (pq hr.h) mR (av) (dvQ 1)) (nU (kh O_keep_fits (hr.mono (by decide)) rfl G_keep_fits.mg G_keep_fits.fn.kp G_keep_fits.bd (aC (dvQ 1) (aC (dvQ 0) (aa)))))))
theorem ka:aJ gA ["self"] (ag cF):=⟨rfl,rfl,rfl,by decide +kernel,rfl,by decide +kernel,by decide +kernel⟩
theorem j7{f:Addr}{fd:FuncData}(E:Env w K mg)(F:Mf K aj "machines" "Book.machines" cF ["self"] f fd) :
  bH P w K mg base CX0 1 f fd ["self"] (dH K bx):=by
 refine cO (t:=gM) F.fn ka jK (λ cdv A outer s H E' hr=>?_) ju;refine Jd.h ?_;exact af (aB (ab1 fu i9 rfl E.b_list iz (aC (cK E.k_Book E.n_Book_machine_names (dvQ 0)) (aa))))
theorem mE:aJ je ["self"] (ag dA):=⟨rfl,rfl,rfl,by decide +kernel,rfl,by decide +kernel,by decide +kernel⟩
theorem mq{f:Addr}{fd:FuncData}(E:Env w K mg)(F:Mf K aj "wishes" "Book.wishes" dA ["self"] f fd) :
  bH P w K mg base CX0 1 f fd ["self"] (dH K a6):=by
 refine cO (t:=iY) F.fn mE lL (λ cdv A outer s H E' hr=>?_) j8;refine Jd.h ?_;exact af (aB (ab1 fu i9 rfl E.b_list iz (aC (cK E.k_Book E.n_Book_ranked (dvQ 0)) (aa))))
theorem afF:(["row"]:List Str).Nodup:=by decide +kernel
theorem km:aJ gF ["self", "sort"] (ag bO):=⟨rfl,rfl,rfl,by decide +kernel,rfl,by decide +kernel,by decide +kernel⟩
theorem ko{f:Addr}{fd:FuncData}(E:Env w K mg)(F:Mf K aj "names_of" "Book.names_of" bO ["self", "sort"] f fd)(z_Book_machines:gE P w K mg base)(z_Book_wishes:fZ P w K mg base) :
  bH P w K mg base CX0 2 f fd ["self", "sort"] (dH K aw):=by
 obtain⟨_,_,G_Book_machines,O_Book_machines⟩:=z_Book_machines;obtain⟨_,_,G_Book_wishes,O_Book_wishes⟩:=z_Book_wishes;refine cO (t:=gu bx a6) F.fn km jF (λ cdv A outer s H E' hr=>?_) iT;refine Jd.h ?_;exact ae (aN (aM (eF hr.h) cM (dvQ 1) (av))
   (af (aB (lF (dvQ 0) E.k_Book G_Book_machines.me O_Book_machines (hr.mono (by decide)) G_Book_machines.bd)))
   (ay)) <|
  ae (aN (aM (eF hr.h) cM (dvQ 1) (av))
   (af (aB (lF (dvQ 0) E.k_Book G_Book_wishes.me O_Book_wishes (hr.mono (by decide)) G_Book_wishes.bd)))
   (ay)) <|
  af (aB (xa rfl (afb (own:=(["row"]:List Str)) (fr:=[]) rfl) (eP (bB (dE hr) (cK E.k_Book E.n_Book_told_rows (dvQ 0)) (dvQ 1))) (λ _ _ _ _ _ _=>aG (i:=0) afF rfl (Or.inl rfl)) (λ _ _ _ _ _ _=>lG) (λ _ _ _ _ _ _=>aT aR aU (dvQ 0) (ah))))
theorem ly:aJ mw ["self", "name"] (ag bM):=⟨rfl,rfl,rfl,by decide +kernel,rfl,by decide +kernel,by decide +kernel⟩
theorem k8{f:Addr}{fd:FuncData}(E:Env w K mg)(F:Xi K aF "Unknown.__init__" bM ["self", "name"] f fd):bH P w K mg base CX0 1 f fd ["self", "name"] (lj aF ["name"]):=yj F.fn ly F.xm.xc E.n_Unknown_name rfl (λ _=>rfl) rfl rfl
theorem bc:aJ eh ["self", "deed"] (ag aY):=⟨rfl,rfl,rfl,by decide +kernel,rfl,by decide +kernel,by decide +kernel⟩
theorem gk{f:Addr}{fd:FuncData}(E:Env w K mg)(F:Mf K aj "refuse_unknown" "Book.refuse_unknown" aY ["self", "deed"] f fd)
  {f_Book_names_of:Addr}{fd_Book_names_of:FuncData}(G_Book_names_of:Mf K aj "names_of" "Book.names_of" bO ["self", "sort"] f_Book_names_of fd_Book_names_of)(O_Book_names_of:bH P w K mg base CX0 2 f_Book_names_of fd_Book_names_of ["self", "sort"] (dH K aw))
  {f_Unknown_init:Addr}{fd_Unknown_init:FuncData}(G_Unknown_init:Xi K aF "Unknown.__init__" bM ["self", "name"] f_Unknown_init fd_Unknown_init)(O_Unknown_init:bH P w K mg base CX0 1 f_Unknown_init fd_Unknown_init ["self", "name"] (lj aF ["name"])) :
  bH P w K mg base (CXE P w) 3 f fd ["self", "deed"] (eD K aL):=by
 refine gw (t:=λ Ex=>eB Ex aw) F.fn bc fY (λ cdv A outer s H E' Ex hr hE hP=>?_) fG;refine Jd.h ?_;exact ae (aN (aM (eF hr.h) cM (aT aR aU (dvQ 1) (ah)) (av))
   (af (cR (d6 (dvQ 1) (d9 (ah)) (dX)) (fo rfl (aO (aG (i:=2) bc.nd rfl (Or.inl rfl)) (aO (aG (i:=3) bc.nd rfl (Or.inl rfl)) (eA))))))
   (af (aN (oO rfl E.m_NEEDED E.k_NEEDED (aT aR aU (dvQ 1) (ah)))
    (ae (cR (lP rfl E.m_NEEDED E.k_NEEDED (aT aR aU (dvQ 1) (ah))) (fo rfl (aO (aG (i:=2) bc.nd rfl (Or.inl rfl)) (aO (aG (i:=4) bc.nd rfl (Or.inl rfl)) (eA))))) <|
    af (aP (i:=3) bc.nd rfl (Or.inl rfl) (aT aR aU (dvQ 1) (dvQ 4))))
    (af (pE))))) <|
  af (aN (aM (pq hr.h) mR (dvQ 3) (kB (dvQ 0) E.k_Book G_Book_names_of.me O_Book_names_of (hr.mono (by decide)) G_Book_names_of.bd (aC (dvQ 2) (aa))))
   (af (cW hE G_Unknown_init.xm O_Unknown_init (hr.mono (by decide)) rfl E.m_Unknown G_Unknown_init.bd (aC (dvQ 3) (aa))))
   (ay))
theorem oK:aJ qi ["self", "name"] (ag cC):=⟨rfl,rfl,rfl,by decide +kernel,rfl,by decide +kernel,by decide +kernel⟩
theorem oq{f:Addr}{fd:FuncData}(E:Env w K mg)(F:Xi K bE "Known.__init__" cC ["self", "name"] f fd):bH P w K mg base CX0 1 f fd ["self", "name"] (lj bE ["name"]):=yj F.fn oK F.xm.xc E.n_Known_name rfl (λ _=>rfl) rfl rfl
theorem eG:aJ ff ["self", "deed"] (ag bo):=⟨rfl,rfl,rfl,by decide +kernel,rfl,by decide +kernel,by decide +kernel⟩
theorem hV{f:Addr}{fd:FuncData}(E:Env w K mg)(F:Mf K aj "refuse_known" "Book.refuse_known" bo ["self", "deed"] f fd)
  {f_Book_names_of:Addr}{fd_Book_names_of:FuncData}(G_Book_names_of:Mf K aj "names_of" "Book.names_of" bO ["self", "sort"] f_Book_names_of fd_Book_names_of)(O_Book_names_of:bH P w K mg base CX0 2 f_Book_names_of fd_Book_names_of ["self", "sort"] (dH K aw))
  {f_Known_init:Addr}{fd_Known_init:FuncData}(G_Known_init:Xi K bE "Known.__init__" cC ["self", "name"] f_Known_init fd_Known_init)(O_Known_init:bH P w K mg base CX0 1 f_Known_init fd_Known_init ["self", "name"] (lj bE ["name"])) :
  bH P w K mg base (CXE P w) 3 f fd ["self", "deed"] (eD K aS):=by
 refine gw (t:=λ Ex=>eQ Ex aw) F.fn eG gy (λ cdv A outer s H E' Ex hr hE hP=>?_) gj;refine Jd.h ?_;exact ae (yY (i:=2) (j:=3) rfl eG.nd rfl rfl (by decide) rfl rfl (aC (aT aR aU (dvQ 1) (ah)) (aC (aT aR aU (dvQ 1) (ah)) (aa)))) <|
  ae (aN (fB (jr (oO rfl E.m_MOST E.k_MOST (dvQ 2)) (gH (aM (tE hr.h) nG (dvQ 3) (kB (dvQ 0) E.k_Book G_Book_names_of.me O_Book_names_of (hr.mono (by decide)) G_Book_names_of.bd (aC (dvQ 2) (aa)))))))
   (af (cW hE G_Known_init.xm O_Known_init (hr.mono (by decide)) rfl E.m_Known G_Known_init.bd (aC (dvQ 3) (aa))))
   (ay)) <|
  af (aN (fB (jr (aM (eF hr.h) cM (dvQ 2) (av)) (gH (aM (tE hr.h) nG (dvQ 3) (cK E.k_Book E.n_Book_ended (dvQ 0))))))
   (af (cW hE G_Known_init.xm O_Known_init (hr.mono (by decide)) rfl E.m_Known G_Known_init.bd (aC (dvQ 3) (aa))))
   (ay))
theorem kI:aJ mz ["self", "most"] (ag bY):=⟨rfl,rfl,rfl,by decide +kernel,rfl,by decide +kernel,by decide +kernel⟩
theorem lp{f:Addr}{fd:FuncData}(E:Env w K mg)(F:Xi K ar "TooMany.__init__" bY ["self", "most"] f fd):bH P w K mg base CX0 1 f fd ["self", "most"] (lj ar ["most"]):=yj F.fn kI F.xm.xc E.n_TooMany_most rfl (λ _=>rfl) rfl rfl
theorem dh:aJ dM ["self", "deed"] (ag aV):=⟨rfl,rfl,rfl,by decide +kernel,rfl,by decide +kernel,by decide +kernel⟩
theorem fR{f:Addr}{fd:FuncData}(E:Env w K mg)(F:Mf K aj "refuse_too_many" "Book.refuse_too_many" aV ["self", "deed"] f fd)
  {f_Book_names_of:Addr}{fd_Book_names_of:FuncData}(G_Book_names_of:Mf K aj "names_of" "Book.names_of" bO ["self", "sort"] f_Book_names_of fd_Book_names_of)(O_Book_names_of:bH P w K mg base CX0 2 f_Book_names_of fd_Book_names_of ["self", "sort"] (dH K aw))
  {f_TooMany_init:Addr}{fd_TooMany_init:FuncData}(G_TooMany_init:Xi K ar "TooMany.__init__" bY ["self", "most"] f_TooMany_init fd_TooMany_init)(O_TooMany_init:bH P w K mg base CX0 1 f_TooMany_init fd_TooMany_init ["self", "most"] (lj ar ["most"])) :
  bH P w K mg base (CXE P w) 3 f fd ["self", "deed"] (eD K aI):=by
 refine gw (t:=λ Ex=>dG Ex aw) F.fn dh fC (λ cdv A outer s H E' Ex hr hE hP=>?_) fy;refine Jd.h ?_;exact ae (aP (i:=2) dh.nd rfl (Or.inl rfl) (aT aR aU (dvQ 1) (ah))) <|
  ae (aN (fB (jr (oO rfl E.m_MOST E.k_MOST (dvQ 2)) (gH (aM xK sC (jJ eN iL rfl E.b_len ig (aC (kB (dvQ 0) E.k_Book G_Book_names_of.me O_Book_names_of (hr.mono (by decide)) G_Book_names_of.bd (aC (dvQ 2) (aa))) (aa))) (lP rfl E.m_MOST E.k_MOST (dvQ 2))))))
   (af (cW hE G_TooMany_init.xm O_TooMany_init (hr.mono (by decide)) rfl E.m_TooMany G_TooMany_init.bd (aC (lP rfl E.m_MOST E.k_MOST (dvQ 2)) (aa))))
   (ay)) <|
  af (aN (fB (jr (aM (eF hr.h) cM (dvQ 2) (av)) (gH (aM xK sC (jJ eN iL rfl E.b_len ig (aC (bB (dE hr) (bB (dE hr) (cK E.k_Book E.n_Book_wished (dvQ 0)) (aT aR aU (dvQ 1) (ah))) (av)) (aa))) (jh rfl (E.c_MOST_EDITIONS).choose_spec)))))
   (af (cW hE G_TooMany_init.xm O_TooMany_init (hr.mono (by decide)) rfl E.m_TooMany G_TooMany_init.bd (aC (jh rfl (E.c_MOST_EDITIONS).choose_spec) (aa))))
   (ay))
theorem gi:aJ d3 ["self", "deed"] (ag aX):=⟨rfl,rfl,rfl,by decide +kernel,rfl,by decide +kernel,by decide +kernel⟩
theorem gh{f:Addr}{fd:FuncData}(E:Env w K mg)(F:Mf K aj "refuse_no_back" "Book.refuse_no_back" aX ["self", "deed"] f fd) :
  bH P w K mg base (CXE P w) 1 f fd ["self", "deed"] (eD K aK):=by
 refine gw (t:=λ Ex=>d5 Ex) F.fn gi fS (λ cdv A outer s H E' Ex hr hE hP=>?_) fI;refine Jd.h ?_;exact af (aN (fB (jr (aM (eF hr.h) cM (aT aR aU (dvQ 1) (ah)) (av)) (gH (aM (eF hr.h) cM (bB (dE hr) (bB (dE hr) (cK E.k_Book E.n_Book_wished (dvQ 0)) (aT aR aU (dvQ 1) (ah))) (av)) (ah)))))
   (af (kR hE E.x_NoBack E.xn_NoBack E.xt_NoBack E.xk_NoBack hr rfl E.m_NoBack (aC (av) (aa))))
   (ay))
theorem cT:aJ fm ["self", "deed"] (ag bT):=⟨rfl,rfl,rfl,by decide +kernel,rfl,by decide +kernel,by decide +kernel⟩
theorem iF{f:Addr}{fd:FuncData}(E:Env w K mg)(F:Mf K aj "refuse_used" "Book.refuse_used" bT ["self", "deed"] f fd) :
  bH P w K mg base CX0 1 f fd ["self", "deed"] (dH K aZ):=by
 refine cO (t:=fq) F.fn cT hW (λ cdv A outer s H E' hr=>?_) gC;refine Jd.h ?_;exact ae (aN (aM (pL hr.h) lI (aT aR aU (dvQ 1) (ah)) (av))
   (af (pE))
   (ay)) <|
  af (fO PassesOwn.never rfl (eP (lP rfl E.m_USERS E.k_USERS (aT aR aU (dvQ 1) (ah)))) (aG (i:=2) cT.nd rfl (Or.inl rfl))
   (af (fO PassesOwn.never rfl (eP (bB (dE hr) (cK E.k_Book E.n_Book_told_rows (dvQ 0)) (dvQ 2))) (aG (i:=3) cT.nd rfl (Or.inl rfl))
    (af (aN (aM (eF hr.h) cM (aT aR aU (dvQ 3) (ah)) (aT aR aU (dvQ 1) (ah)))
     (af (uI))
     (ay))))))
theorem cE:aJ lJ ["book", "deed"] (ag fb):=⟨rfl,rfl,rfl,by decide +kernel,rfl,by decide +kernel,by decide +kernel⟩
theorem pB{f:Addr}{fd:FuncData}(E:Env w K mg)(F:Fn K mg "tell_wish" fb ["book", "deed"] f fd) :
  bH P w K mg base CX0 1 f fd ["book", "deed"] (dH K bV):=by
 refine cO (t:=ll) F.fn cE oA (λ cdv A outer s H E' hr=>?_) mj;refine Jd.h ?_;exact ae (cR (d6 (dvQ 1) (d9 (ah)) (dX)) (fo rfl (aO (aG (i:=2) cE.nd rfl (Or.inl rfl)) (aO (aG (i:=3) cE.nd rfl (Or.inl rfl)) (aO (aG (i:=4) cE.nd rfl (Or.inl rfl)) (aO (aG (i:=5) cE.nd rfl (Or.inl rfl)) (aO (aG (i:=6) cE.nd rfl (Or.inl rfl)) (aO (aG (i:=7) cE.nd rfl (Or.inl rfl)) (eA))))))))) <|
  ae (cv (gZ (cK E.k_Book E.n_Book_ranked (dvQ 0)) (dvQ 2))) <|
  af (fA (dE hr) (cK E.k_Book E.n_Book_wished (dvQ 0)) (dvQ 2) (pR (trs:=[(dC (.d (.str "kind")),ao 3),(dC (.d (.str "copies")),ao 4),(dC (.d (.str "keep")),ao 5),(dC (.d (.str "edition")),dC (.d (.int 1))),(dC (.d (.str "editions")),mL (ai (jQ (ai (ao 6) (ai (ao 7) (aW)))) (aW)))]) (du (av) (dvQ 3) (du (av) (dvQ 4) (du (av) (dvQ 5) (du (av) (ah) (du (av) (fL (aC (bR (aC (dvQ 6) (aC (dvQ 7) (aa)))) (aa))) (sN))))))))
theorem dU:aJ jd ["book", "deed"] (ag dv):=⟨rfl,rfl,rfl,by decide +kernel,rfl,by decide +kernel,by decide +kernel⟩
theorem mF{f:Addr}{fd:FuncData}(E:Env w K mg)(F:Fn K mg "tell_copies" dv ["book", "deed"] f fd) :
  bH P w K mg base CX0 1 f fd ["book", "deed"] (dH K bC):=by
 refine cO (t:=jl) F.fn dU lN (λ cdv A outer s H E' hr=>?_) kf;refine Jd.h ?_;exact ae (cR (d6 (dvQ 1) (d9 (ah)) (dX)) (fo rfl (aO (aG (i:=2) dU.nd rfl (Or.inl rfl)) (aO (aG (i:=3) dU.nd rfl (Or.inl rfl)) (aO (aG (i:=4) dU.nd rfl (Or.inl rfl)) (eA)))))) <|
  ae (fA (dE hr) (bB (dE hr) (cK E.k_Book E.n_Book_wished (dvQ 0)) (dvQ 2)) (av) (dvQ 3)) <|
  af (fA (dE hr) (bB (dE hr) (cK E.k_Book E.n_Book_wished (dvQ 0)) (dvQ 2)) (av) (dvQ 4))
theorem cG:aJ ir ["book", "deed"] (ag cQ):=⟨rfl,rfl,rfl,by decide +kernel,rfl,by decide +kernel,by decide +kernel⟩
theorem lZ{f:Addr}{fd:FuncData}(E:Env w K mg)(F:Fn K mg "tell_edition" cQ ["book", "deed"] f fd) :
  bH P w K mg base CX0 1 f fd ["book", "deed"] (dH K bu):=by
 refine cO (t:=ip) F.fn cG j9 (λ cdv A outer s H E' hr=>?_) jL;refine Jd.h ?_;exact ae (cR (d6 (dvQ 1) (d9 (ah)) (dX)) (fo rfl (aO (aG (i:=2) cG.nd rfl (Or.inl rfl)) (aO (aG (i:=3) cG.nd rfl (Or.inl rfl)) (aO (aG (i:=4) cG.nd rfl (Or.inl rfl)) (eA)))))) <|
  ae (aP (i:=5) cG.nd rfl (Or.inl rfl) (bB (dE hr) (cK E.k_Book E.n_Book_wished (dvQ 0)) (dvQ 2))) <|
  ae (cv (gZ (bB (dE hr) (dvQ 5) (av)) (bR (aC (dvQ 3) (aC (dvQ 4) (aa)))))) <|
  af (fA (dE hr) (dvQ 5) (av) (jJ eN iL rfl E.b_len ig (aC (bB (dE hr) (dvQ 5) (av)) (aa))))
theorem ug:aJ p6 ["book", "deed"] (ag gn):=⟨rfl,rfl,rfl,by decide +kernel,rfl,by decide +kernel,by decide +kernel⟩
theorem uB{f:Addr}{fd:FuncData}(E:Env w K mg)(F:Fn K mg "go_back" gn ["book", "deed"] f fd) :
  bH P w K mg base CX0 1 f fd ["book", "deed"] (dH K cJ):=by
 refine cO (t:=qL) F.fn ug sr (λ cdv A outer s H E' hr=>?_) qj;refine Jd.h ?_;exact af (vZ (dE hr) (bB (dE hr) (cK E.k_Book E.n_Book_wished (dvQ 0)) (aT aR aU (dvQ 1) (ah))) (av) (ah) aeB)
theorem nz:aJ qt ["self", "deed", "by"] (ag dY):=⟨rfl,rfl,rfl,by decide +kernel,rfl,by decide +kernel,by decide +kernel⟩
theorem uf{f:Addr}{fd:FuncData}(E:Env w K mg)(F:MfL K aj "do" "Book.do" dY ["self", "deed", "by"] "hand" "by" f fd)
  {f_is_deed:Addr}{fd_is_deed:FuncData}(G_is_deed:Fn K mg "is_deed" gB ["thing"] f_is_deed fd_is_deed)(O_is_deed:bH P w K mg base CX0 4 f_is_deed fd_is_deed ["thing"] (dH K cX))
  {f_Book_refuse_unknown:Addr}{fd_Book_refuse_unknown:FuncData}(G_Book_refuse_unknown:Mf K aj "refuse_unknown" "Book.refuse_unknown" aY ["self", "deed"] f_Book_refuse_unknown fd_Book_refuse_unknown)(O_Book_refuse_unknown:bH P w K mg base (CXE P w) 3 f_Book_refuse_unknown fd_Book_refuse_unknown ["self", "deed"] (eD K aL))
  {f_Book_refuse_known:Addr}{fd_Book_refuse_known:FuncData}(G_Book_refuse_known:Mf K aj "refuse_known" "Book.refuse_known" bo ["self", "deed"] f_Book_refuse_known fd_Book_refuse_known)(O_Book_refuse_known:bH P w K mg base (CXE P w) 3 f_Book_refuse_known fd_Book_refuse_known ["self", "deed"] (eD K aS))
  {f_Book_refuse_too_many:Addr}{fd_Book_refuse_too_many:FuncData}(G_Book_refuse_too_many:Mf K aj "refuse_too_many" "Book.refuse_too_many" aV ["self", "deed"] f_Book_refuse_too_many fd_Book_refuse_too_many)(O_Book_refuse_too_many:bH P w K mg base (CXE P w) 3 f_Book_refuse_too_many fd_Book_refuse_too_many ["self", "deed"] (eD K aI))
  {f_Book_refuse_no_back:Addr}{fd_Book_refuse_no_back:FuncData}(G_Book_refuse_no_back:Mf K aj "refuse_no_back" "Book.refuse_no_back" aX ["self", "deed"] f_Book_refuse_no_back fd_Book_refuse_no_back)(O_Book_refuse_no_back:bH P w K mg base (CXE P w) 1 f_Book_refuse_no_back fd_Book_refuse_no_back ["self", "deed"] (eD K aK))
  {f_Book_refuse_used:Addr}{fd_Book_refuse_used:FuncData}(G_Book_refuse_used:Mf K aj "refuse_used" "Book.refuse_used" bT ["self", "deed"] f_Book_refuse_used fd_Book_refuse_used)(O_Book_refuse_used:bH P w K mg base CX0 1 f_Book_refuse_used fd_Book_refuse_used ["self", "deed"] (dH K aZ))
  {f_tell_wish:Addr}{fd_tell_wish:FuncData}(G_tell_wish:Fn K mg "tell_wish" fb ["book", "deed"] f_tell_wish fd_tell_wish)(O_tell_wish:bH P w K mg base CX0 1 f_tell_wish fd_tell_wish ["book", "deed"] (dH K bV))
  {f_tell_copies:Addr}{fd_tell_copies:FuncData}(G_tell_copies:Fn K mg "tell_copies" dv ["book", "deed"] f_tell_copies fd_tell_copies)(O_tell_copies:bH P w K mg base CX0 1 f_tell_copies fd_tell_copies ["book", "deed"] (dH K bC))
  {f_tell_edition:Addr}{fd_tell_edition:FuncData}(G_tell_edition:Fn K mg "tell_edition" cQ ["book", "deed"] f_tell_edition fd_tell_edition)(O_tell_edition:bH P w K mg base CX0 1 f_tell_edition fd_tell_edition ["book", "deed"] (dH K bu))
  {f_go_back:Addr}{fd_go_back:FuncData}(G_go_back:Fn K mg "go_back" gn ["book", "deed"] f_go_back fd_go_back)(O_go_back:bH P w K mg base CX0 1 f_go_back fd_go_back ["book", "deed"] (dH K cJ)) :
  bH P w K mg base (CXE P w) 5 f fd ["self", "deed", "by"] (eD K bG):=by
 refine gw (t:=λ Ex=>pK Ex cX aL aS aI aK aZ bV bC bu cJ) F.fn nz sf (λ cdv A outer s H E' Ex hr hE hP=>?_) p9;refine Jd.h ?_;exact ae (aN (cI (b9 (kh O_is_deed (hr.mono (by decide)) rfl G_is_deed.mg G_is_deed.fn.kp G_is_deed.bd (aC (dvQ 1) (aa)))))
   (af (kR hE E.x_NoDeed E.xn_NoDeed E.xt_NoDeed E.xk_NoDeed hr rfl E.m_NoDeed (aC (av) (aa))))
   (ay)) <|
  ae (cv (aeP hE (dvQ 0) E.k_Book G_Book_refuse_unknown.me O_Book_refuse_unknown (hr.mono (by decide)) G_Book_refuse_unknown.bd (aC (dvQ 1) (aa)))) <|
  ae (cv (aeP hE (dvQ 0) E.k_Book G_Book_refuse_known.me O_Book_refuse_known (hr.mono (by decide)) G_Book_refuse_known.bd (aC (dvQ 1) (aa)))) <|
  ae (cv (aeP hE (dvQ 0) E.k_Book G_Book_refuse_too_many.me O_Book_refuse_too_many (hr.mono (by decide)) G_Book_refuse_too_many.bd (aC (dvQ 1) (aa)))) <|
  ae (cv (aeP hE (dvQ 0) E.k_Book G_Book_refuse_no_back.me O_Book_refuse_no_back (hr.mono (by decide)) G_Book_refuse_no_back.bd (aC (dvQ 1) (aa)))) <|
  ae (cv (kB (dvQ 0) E.k_Book G_Book_refuse_used.me O_Book_refuse_used (hr.mono (by decide)) G_Book_refuse_used.bd (aC (dvQ 1) (aa)))) <|
  ae (aP (i:=3) nz.nd rfl (Or.inl rfl) (yK rfl E.m_DOINGS E.k_DOINGS (aT aR aU (dvQ 1) (ah)))) <|
  ae (cv (tT (kX.cons (yv E.m_tell_wish G_tell_wish.mg O_tell_wish (hr.mono (by decide)) G_tell_wish.fn.kp G_tell_wish.bd) (kX.cons (yv E.m_tell_copies G_tell_copies.mg O_tell_copies (hr.mono (by decide)) G_tell_copies.fn.kp G_tell_copies.bd) (kX.cons (yv E.m_tell_edition G_tell_edition.mg O_tell_edition (hr.mono (by decide)) G_tell_edition.fn.kp G_tell_edition.bd) (kX.cons (yv E.m_go_back G_go_back.mg O_go_back (hr.mono (by decide)) G_go_back.fn.kp G_go_back.bd) (kX.nil))))) (dvQ 3) (aC (dvQ 0) (aC (dvQ 1) (aa))))) <|
  af (cv (gZ (cK E.k_Book E.n_Book_done (dvQ 0)) (bR (aC (dvQ 2) (aC (dvQ 1) (aa))))))
theorem pY:aJ kO ["_law_e"] (ag cS):=⟨rfl,rfl,rfl,by decide +kernel,rfl,by decide +kernel,by decide +kernel⟩
theorem oW{f:Addr}{fd:FuncData}(E:Env w K mg)(F:Fn K mg "_law_word_of" cS ["_law_e"] f fd) :
  lg P w K mg base CX0 1 f fd ["_law_e"] (dH K cu):=by
 refine abl (t:=kM) F.fn pY oQ (λ cdv A outer s H E' hr=>?_) mH;refine Jd.h ?_;exact ae (aN (b9 (gU E.b_isinstance (jw.cons ⟨E.x_TooMany,E.i_TooMany_NoDeed⟩ (jw.cons ⟨E.x_NoBack,E.i_NoBack_NoDeed⟩ (jw.nil))) rfl E.m_NoDeed (dvQ 0)))
   (af (aB (bR (aC (av) (aC (gp) (aa))))))
   (ay)) <|
  ae (aN (b9 (gU E.b_isinstance (jw.cons ⟨E.x_TooMany,E.i_TooMany_Unknown⟩ (jw.cons ⟨E.x_NoBack,E.i_NoBack_Unknown⟩ (jw.nil))) rfl E.m_Unknown (dvQ 0)))
   (af (aB (bR (aC (av) (aC (kE (xw.nil) (dvQ 0)) (aa))))))
   (ay)) <|
  ae (aN (b9 (gU E.b_isinstance (jw.cons ⟨E.x_TooMany,E.i_TooMany_Known⟩ (jw.cons ⟨E.x_NoBack,E.i_NoBack_Known⟩ (jw.nil))) rfl E.m_Known (dvQ 0)))
   (af (aB (bR (aC (av) (aC (kE (xw.nil) (dvQ 0)) (aa))))))
   (ay)) <|
  ae (aN (b9 (gU E.b_isinstance (jw.cons ⟨E.x_TooMany,E.i_TooMany_TooMany⟩ (jw.cons ⟨E.x_NoBack,E.i_NoBack_TooMany⟩ (jw.nil))) rfl E.m_TooMany (dvQ 0)))
   (af (aB (bR (aC (av) (aC (kE (xw.cons ⟨E.x_TooMany,E.n_TooMany_most⟩ (xw.nil)) (dvQ 0)) (aa))))))
   (ay)) <|
  ae (aN (b9 (gU E.b_isinstance (jw.cons ⟨E.x_TooMany,E.i_TooMany_NoBack⟩ (jw.cons ⟨E.x_NoBack,E.i_NoBack_NoBack⟩ (jw.nil))) rfl E.m_NoBack (dvQ 0)))
   (af (aB (bR (aC (av) (aC (gp) (aa))))))
   (ay)) <|
  ae (aN (b9 (gU E.b_isinstance (jw.cons ⟨E.x_TooMany,E.i_TooMany_Used⟩ (jw.cons ⟨E.x_NoBack,E.i_NoBack_Used⟩ (jw.nil))) rfl E.m_Used (dvQ 0)))
   (af (aB (bR (aC (av) (aC (kE (xw.nil) (dvQ 0)) (aa))))))
   (ay)) <|
  af (aB (bR (aC (av) (aC (gp) (aa)))))
theorem iP:aJ tj ["_law_some", "_law_thing", "_law_who"] (ag iN):=⟨rfl,rfl,rfl,by decide +kernel,rfl,by decide +kernel,by decide +kernel⟩
theorem vX{f:Addr}{fd:FuncData}(E:Env w K mg)(F:Fn K mg "_law_told" iN ["_law_some", "_law_thing", "_law_who"] f fd)
  {f_Book_do:Addr}{fd_Book_do:FuncData}(G_Book_do:MfL K aj "do" "Book.do" dY ["self", "deed", "by"] "hand" "by" f_Book_do fd_Book_do)(O_Book_do:bH P w K mg base (CXE P w) 5 f_Book_do fd_Book_do ["self", "deed", "by"] (eD K bG))
  {f_l_word_of:Addr}{fd_l_word_of:FuncData}(G_l_word_of:Fn K mg "_law_word_of" cS ["_law_e"] f_l_word_of fd_l_word_of)(O_l_word_of:lg P w K mg base CX0 1 f_l_word_of fd_l_word_of ["_law_e"] (dH K cu)) :
  bH P w K mg base CX0 6 f fd ["_law_some", "_law_thing", "_law_who"] (dH K cP):=by
 refine cO (t:=sL bG cu) F.fn iP uL (λ cdv A outer s H E' hr=>?_) rK;refine Jd.h ?_;exact ae (zq rfl rfl (λ _ _ _ _ hE hP =>
   af (aN (aM (eF hr.h) cM (dvQ 2) (av))
    (af (aP (i:=3) iP.nd rfl (Or.inl rfl) (aeM hE (dvQ 0) E.k_Book G_Book_do.me O_Book_do (hr.mono (by decide)) G_Book_do.bd (aC (dvQ 1) (aa)))))
    (af (aP (i:=3) iP.nd rfl (Or.inl rfl) (afK hE (dvQ 0) E.k_Book G_Book_do.me O_Book_do (hr.mono (by decide)) G_Book_do.kb (aC (dvQ 1) (aa)) (dvQ 2)))))) (aeO (i:=4) rfl E.m_PlaceError (jw.cons E.e_TooMany_PlaceError (jw.cons E.e_NoBack_PlaceError (jw.nil))) iP.nd rfl rfl rfl (λ _ =>
   af (aB (afW O_l_word_of ((hr.h.mark _).mono (by decide)) rfl G_l_word_of.mg G_l_word_of.fn.kp G_l_word_of.bd (aC (dvQ 4) (aa))))) (zu))) <|
  af (aB (bR (aC (av) (aC (dvQ 3) (aa)))))
theorem dg:aJ sH ["_law_bag_here", "_law_some", "_law_plans", "_law_name"] (ag iW):=⟨rfl,rfl,rfl,by decide +kernel,rfl,by decide +kernel,by decide +kernel⟩
theorem wj{f:Addr}{fd:FuncData}(E:Env w K mg)(F:Fn K mg "_law_step" iW ["_law_bag_here", "_law_some", "_law_plans", "_law_name"] f fd)(z_l_take:nK P w K mg base)(z_l_told:sO P w K mg base) :
  bH P w K mg base CX0 7 f fd ["_law_bag_here", "_law_some", "_law_plans", "_law_name"] (dH K d4):=by
 obtain⟨_,_,G_l_take,O_l_take⟩:=z_l_take;obtain⟨_,_,G_l_told,O_l_told⟩:=z_l_told;refine cO (t:=sx bp cP) F.fn dg uH (λ cdv A outer s H E' hr=>?_) qX;refine Jd.h ?_;exact ae (aP (i:=4) dg.nd rfl (Or.inl rfl) (bB (dE hr) (dvQ 2) (dvQ 3))) <|
  ae (aP (i:=5) dg.nd rfl (Or.inl rfl) (kh O_l_take (hr.mono (by decide)) rfl G_l_take.mg G_l_take.fn.kp G_l_take.bd (aC (dvQ 0) (aC (ah) (aa))))) <|
  ae (aN (aM abj vt (dvQ 5) (ah))
   (ae (aP (i:=6) dg.nd rfl (Or.inl rfl) (bR (aC (kh O_l_take (hr.mono (by decide)) rfl G_l_take.mg G_l_take.fn.kp G_l_take.bd (aC (dvQ 0) (aC (ah) (aa)))) (aC (bS eZ dB (ah) (kh O_l_take (hr.mono (by decide)) rfl G_l_take.mg G_l_take.fn.kp G_l_take.bd (aC (dvQ 0) (aC (ah) (aa))))) (aa))))) <|
   ae (aP (i:=7) dg.nd rfl (Or.inl rfl) (bR (aC (av) (aC (gp) (aa))))) <|
   ae (aN (aM (eF hr.h) cM (jJ eN iL rfl E.b_len ig (aC (aT aR aU (dvQ 4) (ah)) (aa))) (ah))
    (af (aP (i:=7) dg.nd rfl (Or.inl rfl) (bR (aC (av) (aC (ah) (aa))))))
    (ae (cv (gZ (aT aR aU (dvQ 4) (ah)) (dvQ 6))) <|
    af (cR (jJ eN iL rfl E.b_len ig (aC (aT aR aU (dvQ 4) (ah)) (aa))) (g9 (dvQ 4) (ah))))) <|
   af (aB (iA (eF hr.h) cM (kh O_l_told (hr.mono (by decide)) rfl G_l_told.mg G_l_told.fn.kp G_l_told.bd (aC (dvQ 1) (aC (bR (aC (av) (aC (dvQ 3) (aC (aT aR aU (dvQ 6) (ah)) (aC (aT aR aU (dvQ 6) (ah)) (aa)))))) (aC (av) (aa))))) (dvQ 7))))
   (ay)) <|
  ae (aN (aM abj vt (dvQ 5) (ah))
   (ae (aP (i:=7) dg.nd rfl (Or.inl rfl) (bR (aC (av) (aC (gp) (aa))))) <|
   ae (aN (aM ab5 wW (aT aR aU (dvQ 4) (ah)) (ah))
    (ae (aP (i:=7) dg.nd rfl (Or.inl rfl) (bR (aC (av) (aC (gp) (aa))))) <|
    af (cR (bS zI w5 (aT aR aU (dvQ 4) (ah)) (ah)) (g9 (dvQ 4) (ah))))
    (ay)) <|
   af (aB (iA (eF hr.h) cM (kh O_l_told (hr.mono (by decide)) rfl G_l_told.mg G_l_told.fn.kp G_l_told.bd (aC (dvQ 1) (aC (bR (aC (av) (aC (dvQ 3) (aa)))) (aC (av) (aa))))) (dvQ 7))))
   (ay)) <|
  ae (aP (i:=8) dg.nd rfl (Or.inl rfl) (kh O_l_take (hr.mono (by decide)) rfl G_l_take.mg G_l_take.fn.kp G_l_take.bd (aC (dvQ 0) (aC (ah) (aa))))) <|
  ae (cR (fv (aC (dvQ 8) (aC (kh O_l_take (hr.mono (by decide)) rfl G_l_take.mg G_l_take.fn.kp G_l_take.bd (aC (dvQ 0) (aC (jJ (qe rfl) xC rfl E.b_max aad (aC (ah) (aC (dvQ 8) (aa)))) (aa)))) (aC (aT aR aU (aT aR aU (dvQ 4) (ah)) (ah)) (aa))))) (g9 (dvQ 4) (ah))) <|
  af (aB (iA (eF hr.h) cM (kh O_l_told (hr.mono (by decide)) rfl G_l_told.mg G_l_told.fn.kp G_l_told.bd (aC (dvQ 1) (aC (bR (aC (av) (aC (dvQ 3) (aC (dvQ 8) (aC (aT aR aU (aT aR aU (dvQ 4) (ah)) (ah)) (aa)))))) (aC (av) (aa))))) (bR (aC (av) (aC (gp) (aa))))))
theorem il:aJ iX ["wish"] (ag dq):=⟨rfl,rfl,rfl,by decide +kernel,rfl,by decide +kernel,by decide +kernel⟩
theorem mh{f:Addr}{fd:FuncData}(E:Env w K mg)(F:Fn K mg "wish_copied" dq ["wish"] f fd) :
  bH P w K mg base CX0 1 f fd ["wish"] (dH K bL):=by
 refine cO (t:=i6) F.fn il kY (λ cdv A outer s H E' hr=>?_) kj;refine Jd.h ?_;exact ae (aP (i:=1) il.nd rfl (Or.inl rfl) (ab1 rP xq rfl E.b_dict aa8 (aC (dvQ 0) (aa)))) <|
  ae (fA (dE hr) (dvQ 1) (av) (ab1 fu i9 rfl E.b_list iz (aC (bB (dE hr) (dvQ 0) (av)) (aa)))) <|
  af (aB (dvQ 1))
theorem qo:aJ lB ["self", "name"] (ag cV):=⟨rfl,rfl,rfl,by decide +kernel,rfl,by decide +kernel,by decide +kernel⟩
theorem pH{f:Addr}{fd:FuncData}(E:Env w K mg)(F:Mf K aj "wish" "Book.wish" cV ["self", "name"] f fd)
  {f_is_word:Addr}{fd_is_word:FuncData}(G_is_word:Fn K mg "is_word" eX ["thing"] f_is_word fd_is_word)(O_is_word:bH P w K mg base CX0 1 f_is_word fd_is_word ["thing"] (dH K aQ))
  {f_Unknown_init:Addr}{fd_Unknown_init:FuncData}(G_Unknown_init:Xi K aF "Unknown.__init__" bM ["self", "name"] f_Unknown_init fd_Unknown_init)(O_Unknown_init:bH P w K mg base CX0 1 f_Unknown_init fd_Unknown_init ["self", "name"] (lj aF ["name"]))
  {f_wish_copied:Addr}{fd_wish_copied:FuncData}(G_wish_copied:Fn K mg "wish_copied" dq ["wish"] f_wish_copied fd_wish_copied)(O_wish_copied:bH P w K mg base CX0 1 f_wish_copied fd_wish_copied ["wish"] (dH K bL)) :
  bH P w K mg base (CXE P w) 3 f fd ["self", "name"] (eD K cn):=by
 refine gw (t:=λ Ex=>kQ Ex aQ bL) F.fn qo oG (λ cdv A outer s H E' Ex hr hE hP=>?_) mn;refine Jd.h ?_;exact ae (aN (fB (fx (cI (b9 (kh O_is_word (hr.mono (by decide)) rfl G_is_word.mg G_is_word.fn.kp G_is_word.bd (aC (dvQ 1) (aa))))) (fk (rD (dE hr) (dvQ 1) (cK E.k_Book E.n_Book_wished (dvQ 0))))))
   (af (cW hE G_Unknown_init.xm O_Unknown_init (hr.mono (by decide)) rfl E.m_Unknown G_Unknown_init.bd (aC (dvQ 1) (aa))))
   (ay)) <|
  af (aB (kh O_wish_copied (hr.mono (by decide)) rfl G_wish_copied.mg G_wish_copied.fn.kp G_wish_copied.bd (aC (bB (dE hr) (cK E.k_Book E.n_Book_wished (dvQ 0)) (dvQ 1)) (aa))))
theorem gQ:aJ pw ["_law_some", "_law_plans"] (ag gJ):=⟨rfl,rfl,rfl,by decide +kernel,rfl,by decide +kernel,by decide +kernel⟩
theorem uG{f:Addr}{fd:FuncData}(E:Env w K mg)(F:Fn K mg "_law_right" gJ ["_law_some", "_law_plans"] f fd)
  {f_Book_wish:Addr}{fd_Book_wish:FuncData}(G_Book_wish:Mf K aj "wish" "Book.wish" cV ["self", "name"] f_Book_wish fd_Book_wish)(O_Book_wish:bH P w K mg base (CXE P w) 3 f_Book_wish fd_Book_wish ["self", "name"] (eD K cn))(z_Book_wishes:fZ P w K mg base) :
  bH P w K mg base CX0 4 f fd ["_law_some", "_law_plans"] (dH K cZ):=by
 obtain⟨_,_,G_Book_wishes,O_Book_wishes⟩:=z_Book_wishes;refine cO (t:=oV cn a6) F.fn gQ rg (λ cdv A outer s H E' hr=>?_) pV;refine Jd.h ?_;exact ae (tP (fO PassesOwn.never rfl (qT (dvQ 1)) (aG (i:=2) gQ.nd rfl (Or.inl rfl))
   (ae (aP (i:=3) gQ.nd rfl (Or.inl rfl) (aeP oF (dvQ 0) E.k_Book G_Book_wish.me O_Book_wish (hr.mono (by decide)) G_Book_wish.bd (aC (dvQ 2) (aa)))) <|
   ae (aP (i:=4) gQ.nd rfl (Or.inl rfl) (bB (dE hr) (dvQ 1) (dvQ 2))) <|
   ae (aN (fB (fx (aM (pL hr.h) lI (jJ (eO hr.h) gP rfl E.b_repr jE (aC (bB (dE hr) (dvQ 3) (av)) (aa))) (jJ (eO hr.h) gP rfl E.b_repr jE (aC (aT aR aU (dvQ 4) (ah)) (aa)))) (fk (aM (pL hr.h) lI (jJ (eO hr.h) gP rfl E.b_repr jE (aC (bB (dE hr) (dvQ 3) (av)) (aa))) (jJ (eO hr.h) gP rfl E.b_repr jE (aC (aT aR aU (dvQ 4) (ah)) (aa)))))))
    (af (aB (jR)))
    (ay)) <|
   af (aN (aM (pL hr.h) lI (jJ (eO hr.h) gP rfl E.b_repr jE (aC (fv (aC (bB (dE hr) (dvQ 3) (av)) (aC (bB (dE hr) (dvQ 3) (av)) (aC (bB (dE hr) (dvQ 3) (av)) (aa))))) (aa))) (jJ (eO hr.h) gP rfl E.b_repr jE (aC (aT aR aU (dvQ 4) (ah)) (aa))))
    (af (aB (jR)))
    (ay))))) <|
  af (aB (iA (eF hr.h) cM (lF (dvQ 0) E.k_Book G_Book_wishes.me O_Book_wishes (hr.mono (by decide)) G_Book_wishes.bd) (ab1 (nu rfl) sS rfl E.b_list iz (aC (dvQ 1) (aa)))))
theorem jX:aJ ada ["_law_script"] (ag nW):=⟨rfl,rfl,rfl,by decide +kernel,rfl,by decide +kernel,by decide +kernel⟩
theorem adV{f:Addr}{fd:FuncData}(E:Env w K mg)(F:Fn K mg "law" nW ["_law_script"] f fd)(z_l_bag:wm P w K mg base)
  {f_Book_init:Addr}{fd_Book_init:FuncData}(G_Book_init:Mi K aj "Book.__init__" cU ["self", "machines"] f_Book_init fd_Book_init)(O_Book_init:bH P w K mg base (CXE P w) 4 f_Book_init fd_Book_init ["self", "machines"] (eD K cm))(z_l_take:nK P w K mg base)
  {f_Book_do:Addr}{fd_Book_do:FuncData}(G_Book_do:MfL K aj "do" "Book.do" dY ["self", "deed", "by"] "hand" "by" f_Book_do fd_Book_do)(O_Book_do:bH P w K mg base (CXE P w) 5 f_Book_do fd_Book_do ["self", "deed", "by"] (eD K bG))(z_l_step:sP P w K mg base)(z_l_right:pU P w K mg base) :
  bH P w K mg base CX0 8 f fd ["_law_script"] (dH K lC):=by
 obtain⟨_,_,G_l_bag,O_l_bag⟩:=z_l_bag;obtain⟨_,_,G_l_take,O_l_take⟩:=z_l_take;obtain⟨_,_,G_l_step,O_l_step⟩:=z_l_step;obtain⟨_,_,G_l_right,O_l_right⟩:=z_l_right;refine cO (t:=acW ft cm bp bG d4 cZ) F.fn jX ab0 (λ cdv A outer s H E' hr=>?_) zc;refine Jd.h ?_;exact ae (aP (i:=1) jX.nd rfl (Or.inl rfl) (kh O_l_bag (hr.mono (by decide)) rfl G_l_bag.mg G_l_bag.fn.kp G_l_bag.bd (aC (dvQ 0) (aa)))) <|
  ae (aP (i:=2) jX.nd rfl (Or.inl rfl) (wY oF G_Book_init.mi O_Book_init (hr.mono (by decide)) rfl E.m_Book G_Book_init.bd (aC (fv (aC (av) (aa))) (aa)))) <|
  ae (aP (i:=3) jX.nd rfl (Or.inl rfl) (mX)) <|
  ae (fO PassesOwn.never rfl (eP (d6 (fv (aC (av) (aC (av) (aC (av) (aa))))) (dX) (d9 (bS eZ dB (ah) (kh O_l_take (hr.mono (by decide)) rfl G_l_take.mg G_l_take.fn.kp G_l_take.bd (aC (dvQ 1) (aC (ah) (aa)))))))) (aG (i:=4) jX.nd rfl (Or.inl rfl))
   (ae (aP (i:=5) jX.nd rfl (Or.inl rfl) (bR (aC (kh O_l_take (hr.mono (by decide)) rfl G_l_take.mg G_l_take.fn.kp G_l_take.bd (aC (dvQ 1) (aC (ah) (aa)))) (aC (bS eZ dB (ah) (kh O_l_take (hr.mono (by decide)) rfl G_l_take.mg G_l_take.fn.kp G_l_take.bd (aC (dvQ 1) (aC (ah) (aa))))) (aa))))) <|
   ae (cv (aeM oF (dvQ 2) E.k_Book G_Book_do.me O_Book_do (hr.mono (by decide)) G_Book_do.bd (aC (bR (aC (av) (aC (dvQ 4) (aC (dvQ 4) (aC (ah) (aC (ah) (aC (aT aR aU (dvQ 5) (ah)) (aC (aT aR aU (dvQ 5) (ah)) (aa))))))))) (aa)))) <|
   af (fA (dE hr) (dvQ 3) (dvQ 4) (fL (aC (fL (aC (dvQ 5) (aa))) (aC (ah) (aC (fv (aC (ah) (aC (ah) (aC (dvQ 4) (aa))))) (aa)))))))) <|
  ae (fO PassesOwn.never rfl (rJ rfl E.b_range (aC (bS eZ dB (ah) (kh O_l_take (hr.mono (by decide)) rfl G_l_take.mg G_l_take.fn.kp G_l_take.bd (aC (dvQ 1) (aC (ah) (aa))))) (aa))) (aG (i:=6) jX.nd rfl (Or.inl rfl))
   (ae (aP (i:=4) jX.nd rfl (Or.inl rfl) (aT aR aU (ab1 (nu rfl) sS rfl E.b_list iz (aC (dvQ 3) (aa))) (kh O_l_take (hr.mono (by decide)) rfl G_l_take.mg G_l_take.fn.kp G_l_take.bd (aC (dvQ 1) (aC (jJ vk abK rfl E.b_len ig (aC (dvQ 3) (aa))) (aa)))))) <|
   af (aN (fB (fx (cI (b9 (kh O_l_step (hr.mono (by decide)) rfl G_l_step.mg G_l_step.fn.kp G_l_step.bd (aC (dvQ 1) (aC (dvQ 2) (aC (dvQ 3) (aC (dvQ 4) (aa)))))))) (fk (cI (b9 (kh O_l_right (hr.mono (by decide)) rfl G_l_right.mg G_l_right.fn.kp G_l_right.bd (aC (dvQ 2) (aC (dvQ 3) (aa)))))))))
    (af (aB (jR)))
    (ay)))) <|
  af (aB (jR))
theorem all_mk{l:W.OpenLaw}{w:World}{K:FG}{h:Heap}{mg:Str->Option Value}{fa:Addr}(X:K.In h)(G:h.Ns mainGlobals mg)(hfa:mg "law" = some (.ref fa))
  (p_l_bag:PFn K "_law_bag" kN)
  {f_BadName_init:Addr}{oc_BadName_init kV_BadName_init dc_BadName_init pm_BadName_init cd_BadName_init ct_BadName_init:Value}{od_BadName_init an_BadName_init:Option Addr}{sl_BadName_init:Array (Option Value)}
  (a_BadName_init:W.findIn K (.ref bf) "__init__" = some (some (.ref f_BadName_init)))(i_BadName_init:W.typeIn K (.ref f_BadName_init)=some (.type "function"))(l_BadName_init:K.lookup f_BadName_init=some ⟨oc_BadName_init,od_BadName_init,.func (W.fnOf "__init__" "BadName.__init__" (aE bZ) (aD bZ) (ag bZ) .none kV_BadName_init dc_BadName_init pm_BadName_init an_BadName_init cd_BadName_init ct_BadName_init),sl_BadName_init⟩)(c_BadName_init:W.codeIn K cd_BadName_init "BadName.__init__" = true)(k_BadName_init:W.keepIn K (.ref f_BadName_init)=true)
  (xm_BadName_init:XO.xmk K bf=true)(xt_BadName_init:W.typeIn K (.ref bf)=some (.type "type"))(xk_BadName_init:W.keepIn K (.ref bf)=true)
  (p_is_word:PFn K "is_word" eX)
  {f_refuse_names:Addr}{oc_refuse_names kV_refuse_names dc_refuse_names pm_refuse_names cd_refuse_names ct_refuse_names:Value}{od_refuse_names an_refuse_names:Option Addr}{sl_refuse_names:Array (Option Value)}
  (a_refuse_names:W.nsIn K mainGlobals "refuse_names" = some (some (.ref f_refuse_names)))(l_refuse_names:K.lookup f_refuse_names=some ⟨oc_refuse_names,od_refuse_names,.func (W.fnOf "refuse_names" "refuse_names" (aE bW) (aD bW) (ag bW) .none kV_refuse_names dc_refuse_names pm_refuse_names an_refuse_names cd_refuse_names ct_refuse_names),sl_refuse_names⟩)(c_refuse_names:W.codeIn K cd_refuse_names "refuse_names" = true)(k_refuse_names:W.keepIn K (.ref f_refuse_names)=true)
  {f_Book_init:Addr}{oc_Book_init kV_Book_init dc_Book_init pm_Book_init cd_Book_init ct_Book_init:Value}{od_Book_init an_Book_init:Option Addr}{sl_Book_init:Array (Option Value)}
  (a_Book_init:W.findIn K (.ref aj) "__init__" = some (some (.ref f_Book_init)))(i_Book_init:W.isFn K (.ref f_Book_init)=true)(l_Book_init:K.lookup f_Book_init=some ⟨oc_Book_init,od_Book_init,.func (W.fnOf "__init__" "Book.__init__" (aE cU) (aD cU) (ag cU) .none kV_Book_init dc_Book_init pm_Book_init an_Book_init cd_Book_init ct_Book_init),sl_Book_init⟩)(c_Book_init:W.codeIn K cd_Book_init "Book.__init__" = true)(k_Book_init:W.keepIn K (.ref f_Book_init)=true)
  (p_l_take:PFn K "_law_take" iZ)
  (p_is_whole:PFn K "is_whole" fz)
  (p_is_within:PFn K "is_within" fj)
  (p_is_part:PFn K "is_part" gK)
  (p_keep_fits:PFn K "keep_fits" eV)
  (p_is_deed:PFn K "is_deed" gB)
  (p_Book_machines:PMf K aj "machines" "Book.machines" cF)
  (p_Book_wishes:PMf K aj "wishes" "Book.wishes" dA)
  (p_Book_names_of:PMf K aj "names_of" "Book.names_of" bO)
  {f_Unknown_init:Addr}{oc_Unknown_init kV_Unknown_init dc_Unknown_init pm_Unknown_init cd_Unknown_init ct_Unknown_init:Value}{od_Unknown_init an_Unknown_init:Option Addr}{sl_Unknown_init:Array (Option Value)}
  (a_Unknown_init:W.findIn K (.ref aF) "__init__" = some (some (.ref f_Unknown_init)))(i_Unknown_init:W.typeIn K (.ref f_Unknown_init)=some (.type "function"))(l_Unknown_init:K.lookup f_Unknown_init=some ⟨oc_Unknown_init,od_Unknown_init,.func (W.fnOf "__init__" "Unknown.__init__" (aE bM) (aD bM) (ag bM) .none kV_Unknown_init dc_Unknown_init pm_Unknown_init an_Unknown_init cd_Unknown_init ct_Unknown_init),sl_Unknown_init⟩)(c_Unknown_init:W.codeIn K cd_Unknown_init "Unknown.__init__" = true)(k_Unknown_init:W.keepIn K (.ref f_Unknown_init)=true)
  (xm_Unknown_init:XO.xmk K aF=true)(xt_Unknown_init:W.typeIn K (.ref aF)=some (.type "type"))(xk_Unknown_init:W.keepIn K (.ref aF)=true)
  {f_Book_refuse_unknown:Addr}{oc_Book_refuse_unknown kV_Book_refuse_unknown dc_Book_refuse_unknown pm_Book_refuse_unknown cd_Book_refuse_unknown ct_Book_refuse_unknown:Value}{od_Book_refuse_unknown an_Book_refuse_unknown:Option Addr}{sl_Book_refuse_unknown:Array (Option Value)}
  (a_Book_refuse_unknown:W.findIn K (.ref aj) "refuse_unknown" = some (some (.ref f_Book_refuse_unknown)))(i_Book_refuse_unknown:W.isFn K (.ref f_Book_refuse_unknown)=true)(l_Book_refuse_unknown:K.lookup f_Book_refuse_unknown=some ⟨oc_Book_refuse_unknown,od_Book_refuse_unknown,.func (W.fnOf "refuse_unknown" "Book.refuse_unknown" (aE aY) (aD aY) (ag aY) .none kV_Book_refuse_unknown dc_Book_refuse_unknown pm_Book_refuse_unknown an_Book_refuse_unknown cd_Book_refuse_unknown ct_Book_refuse_unknown),sl_Book_refuse_unknown⟩)(c_Book_refuse_unknown:W.codeIn K cd_Book_refuse_unknown "Book.refuse_unknown" = true)(k_Book_refuse_unknown:W.keepIn K (.ref f_Book_refuse_unknown)=true)
  {f_Known_init:Addr}{oc_Known_init kV_Known_init dc_Known_init pm_Known_init cd_Known_init ct_Known_init:Value}{od_Known_init an_Known_init:Option Addr}{sl_Known_init:Array (Option Value)}
  (a_Known_init:W.findIn K (.ref bE) "__init__" = some (some (.ref f_Known_init)))(i_Known_init:W.typeIn K (.ref f_Known_init)=some (.type "function"))(l_Known_init:K.lookup f_Known_init=some ⟨oc_Known_init,od_Known_init,.func (W.fnOf "__init__" "Known.__init__" (aE cC) (aD cC) (ag cC) .none kV_Known_init dc_Known_init pm_Known_init an_Known_init cd_Known_init ct_Known_init),sl_Known_init⟩)(c_Known_init:W.codeIn K cd_Known_init "Known.__init__" = true)(k_Known_init:W.keepIn K (.ref f_Known_init)=true)
  (xm_Known_init:XO.xmk K bE=true)(xt_Known_init:W.typeIn K (.ref bE)=some (.type "type"))(xk_Known_init:W.keepIn K (.ref bE)=true)
  {f_Book_refuse_known:Addr}{oc_Book_refuse_known kV_Book_refuse_known dc_Book_refuse_known pm_Book_refuse_known cd_Book_refuse_known ct_Book_refuse_known:Value}{od_Book_refuse_known an_Book_refuse_known:Option Addr}{sl_Book_refuse_known:Array (Option Value)}
  (a_Book_refuse_known:W.findIn K (.ref aj) "refuse_known" = some (some (.ref f_Book_refuse_known)))(i_Book_refuse_known:W.isFn K (.ref f_Book_refuse_known)=true)(l_Book_refuse_known:K.lookup f_Book_refuse_known=some ⟨oc_Book_refuse_known,od_Book_refuse_known,.func (W.fnOf "refuse_known" "Book.refuse_known" (aE bo) (aD bo) (ag bo) .none kV_Book_refuse_known dc_Book_refuse_known pm_Book_refuse_known an_Book_refuse_known cd_Book_refuse_known ct_Book_refuse_known),sl_Book_refuse_known⟩)(c_Book_refuse_known:W.codeIn K cd_Book_refuse_known "Book.refuse_known" = true)(k_Book_refuse_known:W.keepIn K (.ref f_Book_refuse_known)=true)
  {f_TooMany_init:Addr}{oc_TooMany_init kV_TooMany_init dc_TooMany_init pm_TooMany_init cd_TooMany_init ct_TooMany_init:Value}{od_TooMany_init an_TooMany_init:Option Addr}{sl_TooMany_init:Array (Option Value)}
  (a_TooMany_init:W.findIn K (.ref ar) "__init__" = some (some (.ref f_TooMany_init)))(i_TooMany_init:W.typeIn K (.ref f_TooMany_init)=some (.type "function"))(l_TooMany_init:K.lookup f_TooMany_init=some ⟨oc_TooMany_init,od_TooMany_init,.func (W.fnOf "__init__" "TooMany.__init__" (aE bY) (aD bY) (ag bY) .none kV_TooMany_init dc_TooMany_init pm_TooMany_init an_TooMany_init cd_TooMany_init ct_TooMany_init),sl_TooMany_init⟩)(c_TooMany_init:W.codeIn K cd_TooMany_init "TooMany.__init__" = true)(k_TooMany_init:W.keepIn K (.ref f_TooMany_init)=true)
  (xm_TooMany_init:XO.xmk K ar=true)(xt_TooMany_init:W.typeIn K (.ref ar)=some (.type "type"))(xk_TooMany_init:W.keepIn K (.ref ar)=true)
  {f_Book_refuse_too_many:Addr}{oc_Book_refuse_too_many kV_Book_refuse_too_many dc_Book_refuse_too_many pm_Book_refuse_too_many cd_Book_refuse_too_many ct_Book_refuse_too_many:Value}{od_Book_refuse_too_many an_Book_refuse_too_many:Option Addr}{sl_Book_refuse_too_many:Array (Option Value)}
  (a_Book_refuse_too_many:W.findIn K (.ref aj) "refuse_too_many" = some (some (.ref f_Book_refuse_too_many)))(i_Book_refuse_too_many:W.isFn K (.ref f_Book_refuse_too_many)=true)(l_Book_refuse_too_many:K.lookup f_Book_refuse_too_many=some ⟨oc_Book_refuse_too_many,od_Book_refuse_too_many,.func (W.fnOf "refuse_too_many" "Book.refuse_too_many" (aE aV) (aD aV) (ag aV) .none kV_Book_refuse_too_many dc_Book_refuse_too_many pm_Book_refuse_too_many an_Book_refuse_too_many cd_Book_refuse_too_many ct_Book_refuse_too_many),sl_Book_refuse_too_many⟩)(c_Book_refuse_too_many:W.codeIn K cd_Book_refuse_too_many "Book.refuse_too_many" = true)(k_Book_refuse_too_many:W.keepIn K (.ref f_Book_refuse_too_many)=true)
  {f_Book_refuse_no_back:Addr}{oc_Book_refuse_no_back kV_Book_refuse_no_back dc_Book_refuse_no_back pm_Book_refuse_no_back cd_Book_refuse_no_back ct_Book_refuse_no_back:Value}{od_Book_refuse_no_back an_Book_refuse_no_back:Option Addr}{sl_Book_refuse_no_back:Array (Option Value)}
  (a_Book_refuse_no_back:W.findIn K (.ref aj) "refuse_no_back" = some (some (.ref f_Book_refuse_no_back)))(i_Book_refuse_no_back:W.isFn K (.ref f_Book_refuse_no_back)=true)(l_Book_refuse_no_back:K.lookup f_Book_refuse_no_back=some ⟨oc_Book_refuse_no_back,od_Book_refuse_no_back,.func (W.fnOf "refuse_no_back" "Book.refuse_no_back" (aE aX) (aD aX) (ag aX) .none kV_Book_refuse_no_back dc_Book_refuse_no_back pm_Book_refuse_no_back an_Book_refuse_no_back cd_Book_refuse_no_back ct_Book_refuse_no_back),sl_Book_refuse_no_back⟩)(c_Book_refuse_no_back:W.codeIn K cd_Book_refuse_no_back "Book.refuse_no_back" = true)(k_Book_refuse_no_back:W.keepIn K (.ref f_Book_refuse_no_back)=true)
  (p_Book_refuse_used:PMf K aj "refuse_used" "Book.refuse_used" bT)
  (p_tell_wish:PFn K "tell_wish" fb)
  (p_tell_copies:PFn K "tell_copies" dv)
  (p_tell_edition:PFn K "tell_edition" cQ)
  (p_go_back:PFn K "go_back" gn)
  {KD_Book_do:Addr}{tk_Book_do:Tok}
  {f_Book_do:Addr}{oc_Book_do dc_Book_do pm_Book_do cd_Book_do ct_Book_do:Value}{od_Book_do an_Book_do:Option Addr}{sl_Book_do:Array (Option Value)}
  (a_Book_do:W.findIn K (.ref aj) "do" = some (some (.ref f_Book_do)))(i_Book_do:W.isFn K (.ref f_Book_do)=true)(l_Book_do:K.lookup f_Book_do=some ⟨oc_Book_do,od_Book_do,.func (W.fnOf "do" "Book.do" (aE dY) (aD dY) (ag dY) .none (.ref KD_Book_do) dc_Book_do pm_Book_do an_Book_do cd_Book_do ct_Book_do),sl_Book_do⟩)(c_Book_do:W.codeIn K cd_Book_do "Book.do" = true)(k_Book_do:W.keepIn K (.ref f_Book_do)=true)
  (dk_Book_do:W.nsIn K KD_Book_do "by" = some (some (.str "hand" tk_Book_do)))
  {f_l_word_of:Addr}{oc_l_word_of kV_l_word_of dc_l_word_of pm_l_word_of cd_l_word_of ct_l_word_of:Value}{od_l_word_of an_l_word_of:Option Addr}{sl_l_word_of:Array (Option Value)}
  (a_l_word_of:W.nsIn K mainGlobals "_law_word_of" = some (some (.ref f_l_word_of)))(l_l_word_of:K.lookup f_l_word_of=some ⟨oc_l_word_of,od_l_word_of,.func (W.fnOf "_law_word_of" "_law_word_of" (aE cS) (aD cS) (ag cS) .none kV_l_word_of dc_l_word_of pm_l_word_of an_l_word_of cd_l_word_of ct_l_word_of),sl_l_word_of⟩)(c_l_word_of:W.codeIn K cd_l_word_of "_law_word_of" = true)(k_l_word_of:W.keepIn K (.ref f_l_word_of)=true)
  (p_l_told:PFn K "_law_told" iN)
  (p_l_step:PFn K "_law_step" iW)
  (p_wish_copied:PFn K "wish_copied" dq)
  {f_Book_wish:Addr}{oc_Book_wish kV_Book_wish dc_Book_wish pm_Book_wish cd_Book_wish ct_Book_wish:Value}{od_Book_wish an_Book_wish:Option Addr}{sl_Book_wish:Array (Option Value)}
  (a_Book_wish:W.findIn K (.ref aj) "wish" = some (some (.ref f_Book_wish)))(i_Book_wish:W.isFn K (.ref f_Book_wish)=true)(l_Book_wish:K.lookup f_Book_wish=some ⟨oc_Book_wish,od_Book_wish,.func (W.fnOf "wish" "Book.wish" (aE cV) (aD cV) (ag cV) .none kV_Book_wish dc_Book_wish pm_Book_wish an_Book_wish cd_Book_wish ct_Book_wish),sl_Book_wish⟩)(c_Book_wish:W.codeIn K cd_Book_wish "Book.wish" = true)(k_Book_wish:W.keepIn K (.ref f_Book_wish)=true)
  (p_l_right:PFn K "_law_right" gJ)
  {f_law:Addr}{oc_law kV_law dc_law pm_law cd_law ct_law:Value}{od_law an_law:Option Addr}{sl_law:Array (Option Value)}
  (a_law:W.nsIn K mainGlobals "law" = some (some (.ref f_law)))(l_law:K.lookup f_law=some ⟨oc_law,od_law,.func (W.fnOf "law" "law" (aE nW) (aD nW) (ag nW) .none kV_law dc_law pm_law an_law cd_law ct_law),sl_law⟩)(c_law:W.codeIn K cd_law "law" = true)(k_law:W.keepIn K (.ref f_law)=true)
  (aC_Book:W.nsIn K mainGlobals "Book" = some (some (.ref aj)))(pg_Book:W.plainGet K aj Str.empty=true)(hd_Book:W.hasDictIn K aj=true)(po_Book:W.plainOver K aj=true)(sa_Book:W.findIn K (.ref aj) "__setattr__" = some (some (.builtin "object.__setattr__")))(mk_Book:W.makesIn K aj=true)(kc_Book:W.keepIn K (.ref aj)=true)
  (xg_BadName:W.nsIn K mainGlobals "BadName" = some (some (.ref bf)))
  (xg_Known:W.nsIn K mainGlobals "Known" = some (some (.ref bE)))
  (xg_NoBack:W.nsIn K mainGlobals "NoBack" = some (some (.ref az)))
  (xg_NoDeed:W.nsIn K mainGlobals "NoDeed" = some (some (.ref bJ)))
  (xg_PlaceError:W.nsIn K mainGlobals "PlaceError" = some (some (.ref cY)))
  (xg_TooMany:W.nsIn K mainGlobals "TooMany" = some (some (.ref ar)))
  (xg_Unknown:W.nsIn K mainGlobals "Unknown" = some (some (.ref aF)))
  (xg_Used:W.nsIn K mainGlobals "Used" = some (some (.ref mW)))
  (xg_go_back:W.nsIn K mainGlobals "go_back" = some (some (.ref fD)))
  (xg_tell_copies:W.nsIn K mainGlobals "tell_copies" = some (some (.ref cH)))
  (xg_tell_edition:W.nsIn K mainGlobals "tell_edition" = some (some (.ref cy)))
  (xg_tell_wish:W.nsIn K mainGlobals "tell_wish" = some (some (.ref dO)))
  (xg1:W.specialIn K (.builtin "object.__class__") "__get__" = some (some (.builtin "getset_descriptor.__get__")))(xg2:W.takesIn K (.builtin "object.__class__")=some true)
  (x1_BadName:XO.uP K bf=true)(x2_BadName:W.findIn K (.ref bf) "__setattr__" = some (some (.builtin "object.__setattr__")))(x3_BadName:W.findIn K (.ref bf) "__getattribute__" = some (some (.builtin "BaseException.__getattribute__")))(x4_BadName:W.findIn K (.ref bf) "__getattr__" = some none)(x5_BadName:W.findIn K (.ref bf) "__class__" = some (some (.builtin "object.__class__")))
  (x1_Known:XO.uP K bE=true)(x2_Known:W.findIn K (.ref bE) "__setattr__" = some (some (.builtin "object.__setattr__")))(x3_Known:W.findIn K (.ref bE) "__getattribute__" = some (some (.builtin "BaseException.__getattribute__")))(x4_Known:W.findIn K (.ref bE) "__getattr__" = some none)(x5_Known:W.findIn K (.ref bE) "__class__" = some (some (.builtin "object.__class__")))
  (x1_NoBack:XO.uP K az=true)(x2_NoBack:W.findIn K (.ref az) "__setattr__" = some (some (.builtin "object.__setattr__")))(x3_NoBack:W.findIn K (.ref az) "__getattribute__" = some (some (.builtin "BaseException.__getattribute__")))(x4_NoBack:W.findIn K (.ref az) "__getattr__" = some none)(x5_NoBack:W.findIn K (.ref az) "__class__" = some (some (.builtin "object.__class__")))
  (x1_NoDeed:XO.uP K bJ=true)(x2_NoDeed:W.findIn K (.ref bJ) "__setattr__" = some (some (.builtin "object.__setattr__")))(x3_NoDeed:W.findIn K (.ref bJ) "__getattribute__" = some (some (.builtin "BaseException.__getattribute__")))(x4_NoDeed:W.findIn K (.ref bJ) "__getattr__" = some none)(x5_NoDeed:W.findIn K (.ref bJ) "__class__" = some (some (.builtin "object.__class__")))
  (x1_TooMany:XO.uP K ar=true)(x2_TooMany:W.findIn K (.ref ar) "__setattr__" = some (some (.builtin "object.__setattr__")))(x3_TooMany:W.findIn K (.ref ar) "__getattribute__" = some (some (.builtin "BaseException.__getattribute__")))(x4_TooMany:W.findIn K (.ref ar) "__getattr__" = some none)(x5_TooMany:W.findIn K (.ref ar) "__class__" = some (some (.builtin "object.__class__")))
  (x1_Unknown:XO.uP K aF=true)(x2_Unknown:W.findIn K (.ref aF) "__setattr__" = some (some (.builtin "object.__setattr__")))(x3_Unknown:W.findIn K (.ref aF) "__getattribute__" = some (some (.builtin "BaseException.__getattribute__")))(x4_Unknown:W.findIn K (.ref aF) "__getattr__" = some none)(x5_Unknown:W.findIn K (.ref aF) "__class__" = some (some (.builtin "object.__class__")))
  (xf_e_NoBack_PlaceError:W.exmOne K (.ref az) (.ref cY)=some true)
  (xf_e_TooMany_PlaceError:W.exmOne K (.ref ar) (.ref cY)=some true)
  (xf_i_NoBack_Known:W.kitAny K (.ref az) [.ref bE]=some false)
  (xf_i_NoBack_NoBack:W.kitAny K (.ref az) [.ref az]=some true)
  (xf_i_NoBack_NoDeed:W.kitAny K (.ref az) [.ref bJ]=some false)
  (xf_i_NoBack_TooMany:W.kitAny K (.ref az) [.ref ar]=some false)
  (xf_i_NoBack_Unknown:W.kitAny K (.ref az) [.ref aF]=some false)
  (xf_i_NoBack_Used:W.kitAny K (.ref az) [.ref mW]=some false)
  (xf_i_TooMany_Known:W.kitAny K (.ref ar) [.ref bE]=some false)
  (xf_i_TooMany_NoBack:W.kitAny K (.ref ar) [.ref az]=some false)
  (xf_i_TooMany_NoDeed:W.kitAny K (.ref ar) [.ref bJ]=some false)
  (xf_i_TooMany_TooMany:W.kitAny K (.ref ar) [.ref ar]=some true)
  (xf_i_TooMany_Unknown:W.kitAny K (.ref ar) [.ref aF]=some false)
  (xf_i_TooMany_Used:W.kitAny K (.ref ar) [.ref mW]=some false)
  (xf_xk_NoBack:W.keepIn K (.ref az)=true)
  (xf_xk_NoDeed:W.keepIn K (.ref bJ)=true)
  (xf_xn_NoBack:XO.xno K az=true)
  (xf_xn_NoDeed:XO.xno K bJ=true)
  (xf_xt_NoBack:W.typeIn K (.ref az)=some (.type "type"))
  (xf_xt_NoDeed:W.typeIn K (.ref bJ)=some (.type "type"))
  (gm_DOINGS:W.nsIn K mainGlobals "DOINGS" = some (some (.ref jn)))
  (ki_DOINGS:afu K jn iR=true)(kh_DOINGS:hashesOf K jn=some (iR.map λ p=>PyData.keyHash w.params p.1))
  (gm_BOUNDS:W.nsIn K mainGlobals "BOUNDS" = some (some (.ref iO)))
  (gm_ENDING_SORTS:W.nsIn K mainGlobals "ENDING_SORTS" = some (some (.ref dS)))
  (gm_MOST:W.nsIn K mainGlobals "MOST" = some (some (.ref ql)))
  (gm_NEEDED:W.nsIn K mainGlobals "NEEDED" = some (some (.ref jj)))
  (gm_PARTS:W.nsIn K mainGlobals "PARTS" = some (some (.ref lS)))
  (gm_USERS:W.nsIn K mainGlobals "USERS" = some (some (.ref lA)))
  (ki_BOUNDS:aap K iO iU=true)(kh_BOUNDS:hashesOf K iO=some (iU.map λ p=>PyData.keyHash w.params p.1))
  (ki_MOST:aap K ql lR=true)(kh_MOST:hashesOf K ql=some (lR.map λ p=>PyData.keyHash w.params p.1))
  (ki_NEEDED:aap K jj iJ=true)(kh_NEEDED:hashesOf K jj=some (iJ.map λ p=>PyData.keyHash w.params p.1))
  (ki_PARTS:aap K lS lK=true)(kh_PARTS:hashesOf K lS=some (lK.map λ p=>PyData.keyHash w.params p.1))
  (ki_USERS:aap K lA nP=true)(kh_USERS:hashesOf K lA=some (nP.map λ p=>PyData.keyHash w.params p.1))
  (tt_ENDING_SORTS:rQ K (.ref dS) (.tuple [.str "wish",.str "store",.str "door",.str "rule"])=true)
  (n_BadName_at:W.findIn K (.ref bf) "at" = some none)
  (n_Book_done:W.findIn K (.ref aj) "done" = some none)
  (n_Book_emptied_names:W.findIn K (.ref aj) "emptied_names" = some none)
  (n_Book_ended:W.findIn K (.ref aj) "ended" = some none)
  (n_Book_machine_names:W.findIn K (.ref aj) "machine_names" = some none)
  (n_Book_ranked:W.findIn K (.ref aj) "ranked" = some none)
  (n_Book_told_rows:W.findIn K (.ref aj) "told_rows" = some none)
  (n_Book_wished:W.findIn K (.ref aj) "wished" = some none)
  (n_Known_name:W.findIn K (.ref bE) "name" = some none)
  (n_TooMany_most:W.findIn K (.ref ar) "most" = some none)
  (n_Unknown_name:W.findIn K (.ref aF) "name" = some none)
  (b_abs:W.nsIn K mainGlobals "abs" = some none)
  (b_all:W.nsIn K mainGlobals "all" = some none)
  (b_bool:W.nsIn K mainGlobals "bool" = some none)
  (b_dict:W.nsIn K mainGlobals "dict" = some none)
  (b_enumerate:W.nsIn K mainGlobals "enumerate" = some none)
  (b_int:W.nsIn K mainGlobals "int" = some none)
  (b_isinstance:W.nsIn K mainGlobals "isinstance" = some none)
  (b_len:W.nsIn K mainGlobals "len" = some none)
  (b_list:W.nsIn K mainGlobals "list" = some none)
  (b_max:W.nsIn K mainGlobals "max" = some none)
  (b_range:W.nsIn K mainGlobals "range" = some none)
  (b_repr:W.nsIn K mainGlobals "repr" = some none)
  (b_str:W.nsIn K mainGlobals "str" = some none)
  (b_tuple:W.nsIn K mainGlobals "tuple" = some none)
  (b_zip:W.nsIn K mainGlobals "zip" = some none)
  {t_LONGEST_WORD:Tok}(g_LONGEST_WORD:W.nsIn K mainGlobals "LONGEST_WORD" = some (some (.int 8 t_LONGEST_WORD)))
  {t_MOST_EDITIONS:Tok}(g_MOST_EDITIONS:W.nsIn K mainGlobals "MOST_EDITIONS" = some (some (.int 9 t_MOST_EDITIONS)))
  {t_MOST_MACHINES:Tok}(g_MOST_MACHINES:W.nsIn K mainGlobals "MOST_MACHINES" = some (some (.int 8 t_MOST_MACHINES))) :
  ∃ fd:FuncData,(∀ (s:Shared) (v:Value),BindsTo s fd ⟨[v],[]⟩ [("_law_script",v)])/\∀ base:Heap,K.In base->base.Ns mainGlobals mg->bH l.prog w K mg base CX0 8 fa fd ["_law_script"] (dH K lC):=by
 have e:=hfa.symm.trans (W.mg_of X G a_law);cases e;have E:Env w K mg:=⟨⟨pg_Book,hd_Book,po_Book,sa_Book⟩,W.mg_of X G aC_Book,W.mg_of X G xg_BadName,W.mg_of X G xg_Known,W.mg_of X G xg_NoBack,W.mg_of X G xg_NoDeed,W.mg_of X G xg_PlaceError,W.mg_of X G xg_TooMany,W.mg_of X G xg_Unknown,W.mg_of X G xg_Used,W.mg_of X G xg_go_back,W.mg_of X G xg_tell_copies,W.mg_of X G xg_tell_edition,W.mg_of X G xg_tell_wish,⟨x1_BadName,x2_BadName,x3_BadName,x4_BadName,x5_BadName,xg1,xg2⟩,⟨x1_Known,x2_Known,x3_Known,x4_Known,x5_Known,xg1,xg2⟩,⟨x1_NoBack,x2_NoBack,x3_NoBack,x4_NoBack,x5_NoBack,xg1,xg2⟩,⟨x1_NoDeed,x2_NoDeed,x3_NoDeed,x4_NoDeed,x5_NoDeed,xg1,xg2⟩,⟨x1_TooMany,x2_TooMany,x3_TooMany,x4_TooMany,x5_TooMany,xg1,xg2⟩,⟨x1_Unknown,x2_Unknown,x3_Unknown,x4_Unknown,x5_Unknown,xg1,xg2⟩,xf_e_NoBack_PlaceError,xf_e_TooMany_PlaceError,xf_i_NoBack_Known,xf_i_NoBack_NoBack,xf_i_NoBack_NoDeed,xf_i_NoBack_TooMany,xf_i_NoBack_Unknown,xf_i_NoBack_Used,xf_i_TooMany_Known,xf_i_TooMany_NoBack,xf_i_TooMany_NoDeed,xf_i_TooMany_TooMany,xf_i_TooMany_Unknown,xf_i_TooMany_Used,xf_xk_NoBack,xf_xk_NoDeed,xf_xn_NoBack,xf_xn_NoDeed,xf_xt_NoBack,xf_xt_NoDeed,W.mg_of X G gm_DOINGS,⟨ki_DOINGS,kh_DOINGS,by decide +kernel,by decide⟩,W.mg_of X G gm_BOUNDS,W.mg_of X G gm_ENDING_SORTS,W.mg_of X G gm_MOST,W.mg_of X G gm_NEEDED,W.mg_of X G gm_PARTS,W.mg_of X G gm_USERS,⟨ki_BOUNDS,kh_BOUNDS,by decide +kernel,by decide⟩,⟨ki_MOST,kh_MOST,by decide +kernel,by decide⟩,⟨ki_NEEDED,kh_NEEDED,by decide +kernel,by decide⟩,⟨ki_PARTS,kh_PARTS,by decide +kernel,by decide⟩,⟨ki_USERS,kh_USERS,by decide +kernel,by decide⟩,tt_ENDING_SORTS,n_BadName_at,n_Book_done,n_Book_emptied_names,n_Book_ended,n_Book_machine_names,n_Book_ranked,n_Book_told_rows,n_Book_wished,n_Known_name,n_TooMany_most,n_Unknown_name,W.mg_none_of X G b_abs,W.mg_none_of X G b_all,W.mg_none_of X G b_bool,W.mg_none_of X G b_dict,W.mg_none_of X G b_enumerate,W.mg_none_of X G b_int,W.mg_none_of X G b_isinstance,W.mg_none_of X G b_len,W.mg_none_of X G b_list,W.mg_none_of X G b_max,W.mg_none_of X G b_range,W.mg_none_of X G b_repr,W.mg_none_of X G b_str,W.mg_none_of X G b_tuple,W.mg_none_of X G b_zip,⟨_,W.mg_of X G g_LONGEST_WORD⟩,⟨_,W.mg_of X G g_MOST_EDITIONS⟩,⟨_,W.mg_of X G g_MOST_MACHINES⟩⟩;obtain⟨_,_,G_l_bag⟩:∃ f fd,Fn K mg "_law_bag" kN ["_law_script"] f fd:=p_l_bag.fn X G (λ _ _ _ _ _ _ us hl=>by obtain⟨_,rfl⟩:=D.l4 hl;rfl);have G_BadName_init:Xi K bf "BadName.__init__" bZ ["self", "at"] _ _:=yi E.x_BadName a_BadName_init i_BadName_init l_BadName_init c_BadName_init k_BadName_init xm_BadName_init xt_BadName_init xk_BadName_init (λ _ _ _ _ _ _ us hl=>by obtain⟨_,_,rfl⟩:=D.fw hl;rfl);obtain⟨_,_,G_is_word⟩:∃ f fd,Fn K mg "is_word" eX ["thing"] f fd:=p_is_word.fn X G (λ _ _ _ _ _ _ us hl=>by obtain⟨_,rfl⟩:=D.l4 hl;rfl);have G_refuse_names:Fn K mg "refuse_names" bW ["names"] _ _:=yV X G a_refuse_names l_refuse_names c_refuse_names k_refuse_names (λ _ _ _ _ _ _ us hl=>by obtain⟨_,rfl⟩:=D.l4 hl;rfl);have G_Book_init:Mi K aj "Book.__init__" cU ["self", "machines"] _ _:=afD a_Book_init i_Book_init l_Book_init c_Book_init k_Book_init mk_Book kc_Book (λ _ _ _ _ _ _ us hl=>by obtain⟨_,_,rfl⟩:=D.fw hl;rfl);obtain⟨_,_,G_l_take⟩:∃ f fd,Fn K mg "_law_take" iZ ["_law_bag_here", "_law_many"] f fd:=p_l_take.fn X G (λ _ _ _ _ _ _ us hl=>by obtain⟨_,_,rfl⟩:=D.fw hl;rfl);obtain⟨_,_,G_is_whole⟩:∃ f fd,Fn K mg "is_whole" fz ["thing"] f fd:=p_is_whole.fn X G (λ _ _ _ _ _ _ us hl=>by obtain⟨_,rfl⟩:=D.l4 hl;rfl);obtain⟨_,_,G_is_within⟩:∃ f fd,Fn K mg "is_within" fj ["thing", "low", "high"] f fd:=p_is_within.fn X G (λ _ _ _ _ _ _ us hl=>by obtain⟨_,_,_,rfl⟩:=D.aaO hl;rfl);obtain⟨_,_,G_is_part⟩:∃ f fd,Fn K mg "is_part" gK ["form", "part"] f fd:=p_is_part.fn X G (λ _ _ _ _ _ _ us hl=>by obtain⟨_,_,rfl⟩:=D.fw hl;rfl);obtain⟨_,_,G_keep_fits⟩:∃ f fd,Fn K mg "keep_fits" eV ["forms", "deed"] f fd:=p_keep_fits.fn X G (λ _ _ _ _ _ _ us hl=>by obtain⟨_,_,rfl⟩:=D.fw hl;rfl);obtain⟨_,_,G_is_deed⟩:∃ f fd,Fn K mg "is_deed" gB ["thing"] f fd:=p_is_deed.fn X G (λ _ _ _ _ _ _ us hl=>by obtain⟨_,rfl⟩:=D.l4 hl;rfl);obtain⟨_,_,G_Book_machines⟩:∃ f fd,Mf K aj "machines" "Book.machines" cF ["self"] f fd:=p_Book_machines.mf (λ _ _ _ _ _ _ us hl=>by obtain⟨_,rfl⟩:=D.l4 hl;rfl);obtain⟨_,_,G_Book_wishes⟩:∃ f fd,Mf K aj "wishes" "Book.wishes" dA ["self"] f fd:=p_Book_wishes.mf (λ _ _ _ _ _ _ us hl=>by obtain⟨_,rfl⟩:=D.l4 hl;rfl);obtain⟨_,_,G_Book_names_of⟩:∃ f fd,Mf K aj "names_of" "Book.names_of" bO ["self", "sort"] f fd:=p_Book_names_of.mf (λ _ _ _ _ _ _ us hl=>by obtain⟨_,_,rfl⟩:=D.fw hl;rfl);have G_Unknown_init:Xi K aF "Unknown.__init__" bM ["self", "name"] _ _:=yi E.x_Unknown a_Unknown_init i_Unknown_init l_Unknown_init c_Unknown_init k_Unknown_init xm_Unknown_init xt_Unknown_init xk_Unknown_init (λ _ _ _ _ _ _ us hl=>by obtain⟨_,_,rfl⟩:=D.fw hl;rfl);have G_Book_refuse_unknown:Mf K aj "refuse_unknown" "Book.refuse_unknown" aY ["self", "deed"] _ _:=tR a_Book_refuse_unknown i_Book_refuse_unknown l_Book_refuse_unknown c_Book_refuse_unknown k_Book_refuse_unknown (λ _ _ _ _ _ _ us hl=>by obtain⟨_,_,rfl⟩:=D.fw hl;rfl);have G_Known_init:Xi K bE "Known.__init__" cC ["self", "name"] _ _:=yi E.x_Known a_Known_init i_Known_init l_Known_init c_Known_init k_Known_init xm_Known_init xt_Known_init xk_Known_init (λ _ _ _ _ _ _ us hl=>by obtain⟨_,_,rfl⟩:=D.fw hl;rfl);have G_Book_refuse_known:Mf K aj "refuse_known" "Book.refuse_known" bo ["self", "deed"] _ _:=tR a_Book_refuse_known i_Book_refuse_known l_Book_refuse_known c_Book_refuse_known k_Book_refuse_known (λ _ _ _ _ _ _ us hl=>by obtain⟨_,_,rfl⟩:=D.fw hl;rfl);have G_TooMany_init:Xi K ar "TooMany.__init__" bY ["self", "most"] _ _:=yi E.x_TooMany a_TooMany_init i_TooMany_init l_TooMany_init c_TooMany_init k_TooMany_init xm_TooMany_init xt_TooMany_init xk_TooMany_init (λ _ _ _ _ _ _ us hl=>by obtain⟨_,_,rfl⟩:=D.fw hl;rfl);have G_Book_refuse_too_many:Mf K aj "refuse_too_many" "Book.refuse_too_many" aV ["self", "deed"] _ _:=tR a_Book_refuse_too_many i_Book_refuse_too_many l_Book_refuse_too_many c_Book_refuse_too_many k_Book_refuse_too_many (λ _ _ _ _ _ _ us hl=>by obtain⟨_,_,rfl⟩:=D.fw hl;rfl);have G_Book_refuse_no_back:Mf K aj "refuse_no_back" "Book.refuse_no_back" aX ["self", "deed"] _ _:=tR a_Book_refuse_no_back i_Book_refuse_no_back l_Book_refuse_no_back c_Book_refuse_no_back k_Book_refuse_no_back (λ _ _ _ _ _ _ us hl=>by obtain⟨_,_,rfl⟩:=D.fw hl;rfl);obtain⟨_,_,G_Book_refuse_used⟩:∃ f fd,Mf K aj "refuse_used" "Book.refuse_used" bT ["self", "deed"] f fd:=p_Book_refuse_used.mf (λ _ _ _ _ _ _ us hl=>by obtain⟨_,_,rfl⟩:=D.fw hl;rfl);obtain⟨_,_,G_tell_wish⟩:∃ f fd,Fn K mg "tell_wish" fb ["book", "deed"] f fd:=p_tell_wish.fn X G (λ _ _ _ _ _ _ us hl=>by obtain⟨_,_,rfl⟩:=D.fw hl;rfl);obtain⟨_,_,G_tell_copies⟩:∃ f fd,Fn K mg "tell_copies" dv ["book", "deed"] f fd:=p_tell_copies.fn X G (λ _ _ _ _ _ _ us hl=>by obtain⟨_,_,rfl⟩:=D.fw hl;rfl);obtain⟨_,_,G_tell_edition⟩:∃ f fd,Fn K mg "tell_edition" cQ ["book", "deed"] f fd:=p_tell_edition.fn X G (λ _ _ _ _ _ _ us hl=>by obtain⟨_,_,rfl⟩:=D.fw hl;rfl);obtain⟨_,_,G_go_back⟩:∃ f fd,Fn K mg "go_back" gn ["book", "deed"] f fd:=p_go_back.fn X G (λ _ _ _ _ _ _ us hl=>by obtain⟨_,_,rfl⟩:=D.fw hl;rfl);have G_Book_do:MfL K aj "do" "Book.do" dY ["self", "deed", "by"] "hand" "by" _ _:=aer rfl rfl rfl rfl a_Book_do i_Book_do l_Book_do c_Book_do k_Book_do dk_Book_do
 have G_l_word_of:Fn K mg "_law_word_of" cS ["_law_e"] _ _:=yV X G a_l_word_of l_l_word_of c_l_word_of k_l_word_of (λ _ _ _ _ _ _ us hl=>by obtain⟨_,rfl⟩:=D.l4 hl;rfl);obtain⟨_,_,G_l_told⟩:∃ f fd,Fn K mg "_law_told" iN ["_law_some", "_law_thing", "_law_who"] f fd:=p_l_told.fn X G (λ _ _ _ _ _ _ us hl=>by obtain⟨_,_,_,rfl⟩:=D.aaO hl;rfl);obtain⟨_,_,G_l_step⟩:∃ f fd,Fn K mg "_law_step" iW ["_law_bag_here", "_law_some", "_law_plans", "_law_name"] f fd:=p_l_step.fn X G (λ _ _ _ _ _ _ us hl=>by obtain⟨_,_,_,_,rfl⟩:=D.agm hl;rfl);obtain⟨_,_,G_wish_copied⟩:∃ f fd,Fn K mg "wish_copied" dq ["wish"] f fd:=p_wish_copied.fn X G (λ _ _ _ _ _ _ us hl=>by obtain⟨_,rfl⟩:=D.l4 hl;rfl);have G_Book_wish:Mf K aj "wish" "Book.wish" cV ["self", "name"] _ _:=tR a_Book_wish i_Book_wish l_Book_wish c_Book_wish k_Book_wish (λ _ _ _ _ _ _ us hl=>by obtain⟨_,_,rfl⟩:=D.fw hl;rfl);obtain⟨_,_,G_l_right⟩:∃ f fd,Fn K mg "_law_right" gJ ["_law_some", "_law_plans"] f fd:=p_l_right.fn X G (λ _ _ _ _ _ _ us hl=>by obtain⟨_,_,rfl⟩:=D.fw hl;rfl);have G_law:Fn K mg "law" nW ["_law_script"] _ _:=yV X G a_law l_law c_law k_law (λ _ _ _ _ _ _ us hl=>by obtain⟨_,rfl⟩:=D.l4 hl;rfl);refine⟨W.fnOf "law" "law" (aE nW) (aD nW) (ag nW) .none kV_law dc_law pm_law an_law cd_law ct_law,λ s v=>.of_eq rfl,λ base _ _=>?_⟩;have z_l_bag:wm l.prog w K mg base:=⟨_,_,G_l_bag,yh E G_l_bag⟩;have O_BadName_init:=lT (P:=l.prog) (w:=w) (base:=base) E G_BadName_init;have O_is_word:=tW (P:=l.prog) (w:=w) (base:=base) E G_is_word;have O_refuse_names:=lM (P:=l.prog) (w:=w) (base:=base) E G_refuse_names G_BadName_init O_BadName_init G_is_word O_is_word;have O_Book_init:=qM (P:=l.prog) (w:=w) (base:=base) E G_Book_init G_refuse_names O_refuse_names;have z_l_take:nK l.prog w K mg base:=⟨_,_,G_l_take,vU E G_l_take⟩;have z_is_whole:mY l.prog w K mg base:=⟨_,_,G_is_whole,sj E G_is_whole⟩;have z_is_within:lO l.prog w K mg base:=⟨_,_,G_is_within,qK E G_is_within z_is_whole⟩;have z_is_part:pC l.prog w K mg base:=⟨_,_,G_is_part,uh E G_is_part G_is_word O_is_word z_is_within⟩;have z_keep_fits:kG l.prog w K mg base:=⟨_,_,G_keep_fits,pM E G_keep_fits⟩;have O_is_deed:=uC (P:=l.prog) (w:=w) (base:=base) E G_is_deed z_is_part z_keep_fits;have z_Book_machines:gE l.prog w K mg base:=⟨_,_,G_Book_machines,j7 E G_Book_machines⟩;have z_Book_wishes:fZ l.prog w K mg base:=⟨_,_,G_Book_wishes,mq E G_Book_wishes⟩;have O_Book_names_of:=ko (P:=l.prog) (w:=w) (base:=base) E G_Book_names_of z_Book_machines z_Book_wishes;have O_Unknown_init:=k8 (P:=l.prog) (w:=w) (base:=base) E G_Unknown_init;have O_Book_refuse_unknown:=gk (P:=l.prog) (w:=w) (base:=base) E G_Book_refuse_unknown G_Book_names_of O_Book_names_of G_Unknown_init O_Unknown_init;have O_Known_init:=oq (P:=l.prog) (w:=w) (base:=base) E G_Known_init;have O_Book_refuse_known:=hV (P:=l.prog) (w:=w) (base:=base) E G_Book_refuse_known G_Book_names_of O_Book_names_of G_Known_init O_Known_init;have O_TooMany_init:=lp (P:=l.prog) (w:=w) (base:=base) E G_TooMany_init;have O_Book_refuse_too_many:=fR (P:=l.prog) (w:=w) (base:=base) E G_Book_refuse_too_many G_Book_names_of O_Book_names_of G_TooMany_init O_TooMany_init;have O_Book_refuse_no_back:=gh (P:=l.prog) (w:=w) (base:=base) E G_Book_refuse_no_back;have O_Book_refuse_used:=iF (P:=l.prog) (w:=w) (base:=base) E G_Book_refuse_used;have O_tell_wish:=pB (P:=l.prog) (w:=w) (base:=base) E G_tell_wish;have O_tell_copies:=mF (P:=l.prog) (w:=w) (base:=base) E G_tell_copies;have O_tell_edition:=lZ (P:=l.prog) (w:=w) (base:=base) E G_tell_edition;have O_go_back:=uB (P:=l.prog) (w:=w) (base:=base) E G_go_back;have O_Book_do:=uf (P:=l.prog) (w:=w) (base:=base) E G_Book_do G_is_deed O_is_deed G_Book_refuse_unknown O_Book_refuse_unknown G_Book_refuse_known O_Book_refuse_known G_Book_refuse_too_many O_Book_refuse_too_many G_Book_refuse_no_back O_Book_refuse_no_back G_Book_refuse_used O_Book_refuse_used G_tell_wish O_tell_wish G_tell_copies O_tell_copies G_tell_edition O_tell_edition G_go_back O_go_back;have O_l_word_of:=oW (P:=l.prog) (w:=w) (base:=base) E G_l_word_of;have z_l_told:sO l.prog w K mg base:=⟨_,_,G_l_told,vX E G_l_told G_Book_do O_Book_do G_l_word_of O_l_word_of⟩;have z_l_step:sP l.prog w K mg base:=⟨_,_,G_l_step,wj E G_l_step z_l_take z_l_told⟩;have O_wish_copied:=mh (P:=l.prog) (w:=w) (base:=base) E G_wish_copied;have O_Book_wish:=pH (P:=l.prog) (w:=w) (base:=base) E G_Book_wish G_is_word O_is_word G_Unknown_init O_Unknown_init G_wish_copied O_wish_copied;have z_l_right:pU l.prog w K mg base:=⟨_,_,G_l_right,uG E G_l_right G_Book_wish O_Book_wish z_Book_wishes⟩;have O_law:=adV (P:=l.prog) (w:=w) (base:=base) E G_law z_l_bag G_Book_init O_Book_init z_l_take G_Book_do O_Book_do z_l_step z_l_right;exact O_law
end
theorem walk{l:W.OpenLaw}{q:Program}{loose:List Str}{XP:(Str->Option Value)->Heap->Prop}{YP:World->Heap->Prop}{d:DefRec}{K:Params->FG}(hq:PyProof.Rows.importsNone q=true)(hn:l.most=some 63)(hdf:d.params.defaults=[])
  (hY:∀ (w:World) (h:Heap),YP w h->(K w.params).In h)
  (F:∀ (w:World) (mg:Str->Option Value) (fa:Addr) (h:Heap),(K w.params).In h->h.Ns mainGlobals mg->mg d.name=some (.ref fa) ->
   ∃ fd:FuncData,(∀ (s:Shared) (u:Value),BindsTo s fd ⟨[u],[]⟩ [("_law_script",u)])/\∀ base:Heap,(K w.params).In base->base.Ns mainGlobals mg->bH l.prog w (K w.params) mg base CX0 8 fa fd ["_law_script"] (dH (K w.params) lC)) :
  W.WalkO q loose XP YP l.row.toRowW d [] (λ f vs=>PySem.call f vs):=
 L2.abv (n:=63) (k:=8) (x:= "_law_script") (CX:=λ _=>CX0) (sp:=λ w=>dH (K w.params) lC) hq hn (by decide) hdf ⟨rfl,rfl,by decide,by decide⟩ hY F (λ _ H a ns hl hO hS=>D.vK hl hO hS yN) λ _ _ _ _ _ z=>z
end K24
end
namespace PySem.W.Fast
def tw6267138545104222463:=0
def tw12610479911798201885:=0
def tw8852329061164486204:=0
def tw17874027574462369882:=0
def tw7534005762454545720:=0
def tw4529303391632407479:=0
def tw9414858095965859895:=0
def tw7823493779329507765:=0
def tw4613244093554215923:=0
def tw9596178046792219539:=0
def tw15048125411483279666:=0
def tw11913165107174661808:=0
def tw7647481173820828523:=0
def tw5373161227918847243:=0
def tw9303339752973684939:=0
def tw10267171646050801162:=0
def tw17381043941295987146:=0
def tw5441116678232266278:=0
def tw1187869739294358372:=0
def tw2652313758147188576:=0
def tw11716432372984994357:=0
end PySem.W.Fast
open PySem PySem.W PyProof.Rows
local macro_rules | `(tactic| walk_at "kf")=>`(tactic| (refine' D.aeK ?a ?l ?c ?k; (case a=>k_is); (case l=>k_is); (case c=>k_is); (case k=>k_is)))
local macro_rules | `(tactic| walk_at "km")=>`(tactic| (refine' D.adU ?a ?i ?l ?c ?k; (case a=>k_is); (case i=>k_is); (case l=>k_is); (case c=>k_is); (case k=>k_is)))
set_option maxRecDepth 100000
set_option maxHeartbeats 0
theorem PySem.Challenge.cw_placedworks_k24_editions_and_back_holds : PySem.Challenge.rw_placedworks_k24_editions_and_back.Holds := by
 w_on;o_law;k_head; (case hw=>w_witness2)
 k_fill
 refine K24.walk (l:=PySem.Challenge.rw_placedworks_k24_editions_and_back) ?Q rfl rfl (λ w h Y=>PySem.W.kIn_of Y) ?F
 case Q=>kernel_rfl
 case F =>
  intro w mg fa h KX G hmg;refine' K24.all_mk KX G hmg ?p_l_bag ?a_BadName_init ?i_BadName_init ?l_BadName_init ?c_BadName_init ?k_BadName_init ?xm_BadName_init ?xt_BadName_init ?xk_BadName_init ?p_is_word ?a_refuse_names ?l_refuse_names ?c_refuse_names ?k_refuse_names ?a_Book_init ?i_Book_init ?l_Book_init ?c_Book_init ?k_Book_init ?p_l_take ?p_is_whole ?p_is_within ?p_is_part ?p_keep_fits ?p_is_deed ?p_Book_machines ?p_Book_wishes ?p_Book_names_of ?a_Unknown_init ?i_Unknown_init ?l_Unknown_init ?c_Unknown_init ?k_Unknown_init ?xm_Unknown_init ?xt_Unknown_init ?xk_Unknown_init ?a_Book_refuse_unknown ?i_Book_refuse_unknown ?l_Book_refuse_unknown ?c_Book_refuse_unknown ?k_Book_refuse_unknown ?a_Known_init ?i_Known_init ?l_Known_init ?c_Known_init ?k_Known_init ?xm_Known_init ?xt_Known_init ?xk_Known_init ?a_Book_refuse_known ?i_Book_refuse_known ?l_Book_refuse_known ?c_Book_refuse_known ?k_Book_refuse_known ?a_TooMany_init ?i_TooMany_init ?l_TooMany_init ?c_TooMany_init ?k_TooMany_init ?xm_TooMany_init ?xt_TooMany_init ?xk_TooMany_init ?a_Book_refuse_too_many ?i_Book_refuse_too_many ?l_Book_refuse_too_many ?c_Book_refuse_too_many ?k_Book_refuse_too_many ?a_Book_refuse_no_back ?i_Book_refuse_no_back ?l_Book_refuse_no_back ?c_Book_refuse_no_back ?k_Book_refuse_no_back ?p_Book_refuse_used ?p_tell_wish ?p_tell_copies ?p_tell_edition ?p_go_back ?a_Book_do ?i_Book_do ?l_Book_do ?c_Book_do ?k_Book_do ?dk_Book_do ?a_l_word_of ?l_l_word_of ?c_l_word_of ?k_l_word_of ?p_l_told ?p_l_step ?p_wish_copied ?a_Book_wish ?i_Book_wish ?l_Book_wish ?c_Book_wish ?k_Book_wish ?p_l_right ?a_law ?l_law ?c_law ?k_law ?aC_Book ?pg_Book ?hd_Book ?po_Book ?sa_Book ?mk_Book ?kc_Book ?xg_BadName ?xg_Known ?xg_NoBack ?xg_NoDeed ?xg_PlaceError ?xg_TooMany ?xg_Unknown ?xg_Used ?xg_go_back ?xg_tell_copies ?xg_tell_edition ?xg_tell_wish ?xg1 ?xg2 ?x1_BadName ?x2_BadName ?x3_BadName ?x4_BadName ?x5_BadName ?x1_Known ?x2_Known ?x3_Known ?x4_Known ?x5_Known ?x1_NoBack ?x2_NoBack ?x3_NoBack ?x4_NoBack ?x5_NoBack ?x1_NoDeed ?x2_NoDeed ?x3_NoDeed ?x4_NoDeed ?x5_NoDeed ?x1_TooMany ?x2_TooMany ?x3_TooMany ?x4_TooMany ?x5_TooMany ?x1_Unknown ?x2_Unknown ?x3_Unknown ?x4_Unknown ?x5_Unknown ?xf_e_NoBack_PlaceError ?xf_e_TooMany_PlaceError ?xf_i_NoBack_Known ?xf_i_NoBack_NoBack ?xf_i_NoBack_NoDeed ?xf_i_NoBack_TooMany ?xf_i_NoBack_Unknown ?xf_i_NoBack_Used ?xf_i_TooMany_Known ?xf_i_TooMany_NoBack ?xf_i_TooMany_NoDeed ?xf_i_TooMany_TooMany ?xf_i_TooMany_Unknown ?xf_i_TooMany_Used ?xf_xk_NoBack ?xf_xk_NoDeed ?xf_xn_NoBack ?xf_xn_NoDeed ?xf_xt_NoBack ?xf_xt_NoDeed ?gm_DOINGS ?ki_DOINGS ?kh_DOINGS ?gm_BOUNDS ?gm_ENDING_SORTS ?gm_MOST ?gm_NEEDED ?gm_PARTS ?gm_USERS ?ki_BOUNDS ?kh_BOUNDS ?ki_MOST ?kh_MOST ?ki_NEEDED ?kh_NEEDED ?ki_PARTS ?kh_PARTS ?ki_USERS ?kh_USERS ?tt_ENDING_SORTS ?n_BadName_at ?n_Book_done ?n_Book_emptied_names ?n_Book_ended ?n_Book_machine_names ?n_Book_ranked ?n_Book_told_rows ?n_Book_wished ?n_Known_name ?n_TooMany_most ?n_Unknown_name ?b_abs ?b_all ?b_bool ?b_dict ?b_enumerate ?b_int ?b_isinstance ?b_len ?b_list ?b_max ?b_range ?b_repr ?b_str ?b_tuple ?b_zip ?g_LONGEST_WORD ?g_MOST_EDITIONS ?g_MOST_MACHINES
  (case p_l_bag=>walk_at "kf")
  (case a_BadName_init=>k_is)
  (case i_BadName_init=>k_is)
  (case l_BadName_init=>k_is)
  (case c_BadName_init=>k_is)
  (case k_BadName_init=>k_is)
  (case xm_BadName_init=>kernel_rfl)
  (case xt_BadName_init=>k_is)
  (case xk_BadName_init=>k_is)
  (case p_is_word=>walk_at "kf")
  (case a_refuse_names=>k_is)
  (case l_refuse_names=>k_is)
  (case c_refuse_names=>k_is)
  (case k_refuse_names=>k_is)
  (case a_Book_init=>k_is)
  (case i_Book_init=>k_is)
  (case l_Book_init=>k_is)
  (case c_Book_init=>k_is)
  (case k_Book_init=>k_is)
  (case p_l_take=>walk_at "kf")
  (case p_is_whole=>walk_at "kf")
  (case p_is_within=>walk_at "kf")
  (case p_is_part=>walk_at "kf")
  (case p_keep_fits=>walk_at "kf")
  (case p_is_deed=>walk_at "kf")
  (case p_Book_machines=>walk_at "km")
  (case p_Book_wishes=>walk_at "km")
  (case p_Book_names_of=>walk_at "km")
  (case a_Unknown_init=>k_is)
  (case i_Unknown_init=>k_is)
  (case l_Unknown_init=>k_is)
  (case c_Unknown_init=>k_is)
  (case k_Unknown_init=>k_is)
  (case xm_Unknown_init=>kernel_rfl)
  (case xt_Unknown_init=>k_is)
  (case xk_Unknown_init=>k_is)
  (case a_Book_refuse_unknown=>k_is)
  (case i_Book_refuse_unknown=>k_is)
  (case l_Book_refuse_unknown=>k_is)
  (case c_Book_refuse_unknown=>k_is)
  (case k_Book_refuse_unknown=>k_is)
  (case a_Known_init=>k_is)
  (case i_Known_init=>k_is)
  (case l_Known_init=>k_is)
  (case c_Known_init=>k_is)
  (case k_Known_init=>k_is)
  (case xm_Known_init=>kernel_rfl)
  (case xt_Known_init=>k_is)
  (case xk_Known_init=>k_is)
  (case a_Book_refuse_known=>k_is)
  (case i_Book_refuse_known=>k_is)
  (case l_Book_refuse_known=>k_is)
  (case c_Book_refuse_known=>k_is)
  (case k_Book_refuse_known=>k_is)
  (case a_TooMany_init=>k_is)
  (case i_TooMany_init=>k_is)
  (case l_TooMany_init=>k_is)
  (case c_TooMany_init=>k_is)
  (case k_TooMany_init=>k_is)
  (case xm_TooMany_init=>kernel_rfl)
  (case xt_TooMany_init=>k_is)
  (case xk_TooMany_init=>k_is)
  (case a_Book_refuse_too_many=>k_is)
  (case i_Book_refuse_too_many=>k_is)
  (case l_Book_refuse_too_many=>k_is)
  (case c_Book_refuse_too_many=>k_is)
  (case k_Book_refuse_too_many=>k_is)
  (case a_Book_refuse_no_back=>k_is)
  (case i_Book_refuse_no_back=>k_is)
  (case l_Book_refuse_no_back=>k_is)
  (case c_Book_refuse_no_back=>k_is)
  (case k_Book_refuse_no_back=>k_is)
  (case p_Book_refuse_used=>walk_at "km")
  (case p_tell_wish=>walk_at "kf")
  (case p_tell_copies=>walk_at "kf")
  (case p_tell_edition=>walk_at "kf")
  (case p_go_back=>walk_at "kf")
  (case a_Book_do=>k_is)
  (case i_Book_do=>k_is)
  (case l_Book_do=>k_is)
  (case c_Book_do=>k_is)
  (case k_Book_do=>k_is)
  (case dk_Book_do=>k_is)
  (case a_l_word_of=>k_is)
  (case l_l_word_of=>k_is)
  (case c_l_word_of=>k_is)
  (case k_l_word_of=>k_is)
  (case p_l_told=>walk_at "kf")
  (case p_l_step=>walk_at "kf")
  (case p_wish_copied=>walk_at "kf")
  (case a_Book_wish=>k_is)
  (case i_Book_wish=>k_is)
  (case l_Book_wish=>k_is)
  (case c_Book_wish=>k_is)
  (case k_Book_wish=>k_is)
  (case p_l_right=>walk_at "kf")
  (case a_law=>k_is)
  (case l_law=>k_is)
  (case c_law=>k_is)
  (case k_law=>k_is)
  (case aC_Book=>k_is)
  (case pg_Book=>k_is)
  (case hd_Book=>k_is)
  (case po_Book=>k_is)
  (case sa_Book=>k_is)
  (case mk_Book=>k_is)
  (case kc_Book=>k_is)
  (case xg_BadName=>k_is)
  (case xg_Known=>k_is)
  (case xg_NoBack=>k_is)
  (case xg_NoDeed=>k_is)
  (case xg_PlaceError=>k_is)
  (case xg_TooMany=>k_is)
  (case xg_Unknown=>k_is)
  (case xg_Used=>k_is)
  (case xg_go_back=>k_is)
  (case xg_tell_copies=>k_is)
  (case xg_tell_edition=>k_is)
  (case xg_tell_wish=>k_is)
  (case xg1=>k_is)
  (case xg2=>k_is)
  (case x1_BadName=>kernel_rfl)
  (case x2_BadName=>k_is)
  (case x3_BadName=>k_is)
  (case x4_BadName=>k_is)
  (case x5_BadName=>k_is)
  (case x1_Known=>kernel_rfl)
  (case x2_Known=>k_is)
  (case x3_Known=>k_is)
  (case x4_Known=>k_is)
  (case x5_Known=>k_is)
  (case x1_NoBack=>kernel_rfl)
  (case x2_NoBack=>k_is)
  (case x3_NoBack=>k_is)
  (case x4_NoBack=>k_is)
  (case x5_NoBack=>k_is)
  (case x1_NoDeed=>kernel_rfl)
  (case x2_NoDeed=>k_is)
  (case x3_NoDeed=>k_is)
  (case x4_NoDeed=>k_is)
  (case x5_NoDeed=>k_is)
  (case x1_TooMany=>kernel_rfl)
  (case x2_TooMany=>k_is)
  (case x3_TooMany=>k_is)
  (case x4_TooMany=>k_is)
  (case x5_TooMany=>k_is)
  (case x1_Unknown=>kernel_rfl)
  (case x2_Unknown=>k_is)
  (case x3_Unknown=>k_is)
  (case x4_Unknown=>k_is)
  (case x5_Unknown=>k_is)
  (case xf_e_NoBack_PlaceError=>kernel_rfl)
  (case xf_e_TooMany_PlaceError=>kernel_rfl)
  (case xf_i_NoBack_Known=>kernel_rfl)
  (case xf_i_NoBack_NoBack=>kernel_rfl)
  (case xf_i_NoBack_NoDeed=>kernel_rfl)
  (case xf_i_NoBack_TooMany=>kernel_rfl)
  (case xf_i_NoBack_Unknown=>kernel_rfl)
  (case xf_i_NoBack_Used=>kernel_rfl)
  (case xf_i_TooMany_Known=>kernel_rfl)
  (case xf_i_TooMany_NoBack=>kernel_rfl)
  (case xf_i_TooMany_NoDeed=>kernel_rfl)
  (case xf_i_TooMany_TooMany=>kernel_rfl)
  (case xf_i_TooMany_Unknown=>kernel_rfl)
  (case xf_i_TooMany_Used=>kernel_rfl)
  (case xf_xk_NoBack=>kernel_rfl)
  (case xf_xk_NoDeed=>kernel_rfl)
  (case xf_xn_NoBack=>kernel_rfl)
  (case xf_xn_NoDeed=>kernel_rfl)
  (case xf_xt_NoBack=>kernel_rfl)
  (case xf_xt_NoDeed=>kernel_rfl)
  (case gm_DOINGS=>k_is)
  (case ki_DOINGS=>kernel_rfl)
  (case kh_DOINGS=>kernel_rfl)
  (case gm_BOUNDS=>k_is)
  (case gm_ENDING_SORTS=>k_is)
  (case gm_MOST=>k_is)
  (case gm_NEEDED=>k_is)
  (case gm_PARTS=>k_is)
  (case gm_USERS=>k_is)
  (case ki_BOUNDS=>kernel_rfl)
  (case kh_BOUNDS=>kernel_rfl)
  (case ki_MOST=>kernel_rfl)
  (case kh_MOST=>kernel_rfl)
  (case ki_NEEDED=>kernel_rfl)
  (case kh_NEEDED=>kernel_rfl)
  (case ki_PARTS=>kernel_rfl)
  (case kh_PARTS=>kernel_rfl)
  (case ki_USERS=>kernel_rfl)
  (case kh_USERS=>kernel_rfl)
  (case tt_ENDING_SORTS=>kernel_rfl)
  (case n_BadName_at=>k_is)
  (case n_Book_done=>k_is)
  (case n_Book_emptied_names=>k_is)
  (case n_Book_ended=>k_is)
  (case n_Book_machine_names=>k_is)
  (case n_Book_ranked=>k_is)
  (case n_Book_told_rows=>k_is)
  (case n_Book_wished=>k_is)
  (case n_Known_name=>k_is)
  (case n_TooMany_most=>k_is)
  (case n_Unknown_name=>k_is)
  (case b_abs=>k_is)
  (case b_all=>k_is)
  (case b_bool=>k_is)
  (case b_dict=>k_is)
  (case b_enumerate=>k_is)
  (case b_int=>k_is)
  (case b_isinstance=>k_is)
  (case b_len=>k_is)
  (case b_list=>k_is)
  (case b_max=>k_is)
  (case b_range=>k_is)
  (case b_repr=>k_is)
  (case b_str=>k_is)
  (case b_tuple=>k_is)
  (case b_zip=>k_is)
  (case g_LONGEST_WORD=>k_is)
  (case g_MOST_EDITIONS=>k_is)
  (case g_MOST_MACHINES=>k_is)
