import PyProof.Rows.All
import Wide.All
import OpenK.AllK
import Wide.FinOn
import Lean
import PyProof.EqAt
import PyProof.EqKinds
import PyProof.TupleCall
import KE.KSortTup
import KE.KDictSum
import PyProof.Rows.Range3
import PyProof.Rows.SortRev
import PyProof.StrBlock2
import PyProof.ZipIter
import PyProof.Rows.ZipGen
import PyProof.NeKinds
import PyProof.DictCompW
import PyProof.DictWalks
import PyProof.AttrMissHeap
import PyProof.WalksS
import KE.KDictOf
import KE.KListMore
import KE.KEqDict
import PyProof.StationsW
import PyProof.InstStoreFacts
import PyProof.ExcBaseAll.ValueError
import PyProof.ExcClass2
import PyProof.RulesAs
import KE.KTryMore
import PyProof.ExcArgs
import KE.KIsAll
import OpenK.KOwn
import PyProof.P3In
import PyProof.DictUpdate
import PyProof.MeetsSeq2
import KE.KIntText
import KE.KRevSl
import PyProof.Rows.StrLawsPart
import PyProof.EnumMake
import PyProof.Draws
import PyProof.ListRange
import PyProof.TupleOfStr
import KE.KLam
import KE.KNestM
import KE.KMinKey
import PyProof.Rows.StrSplitMax
import PyProof.StrLawsOccR
import PyProof.Rows.SetFrom
import PySem.Challenge.RW_placedworks_k57_whole_order_of_coming
set_option genSizeOf false
set_option genSizeOfSpec false
set_option bootstrap.genMatcherCode false
set_option Elab.async false
set_option linter.all false
set_option maxRecDepth 100000
abbrev FG:=PySem.W.Frag
abbrev PN:=List (PySem.Addr×PySem.Obj)
abbrev VP:=PySem.Value->PySem.Shared->Prop
abbrev ND(x:PySem.Str):Prop:=(x==("__debug__" : PySem.Str))=false
section
open PySem PySem.Spec PyProof.Rows
namespace L2
abbrev Key:=Sum Int Str
def nR:Key->Value->Bool
 | .inl k,v=>Value.isInt k v
 | .inr x,v=>Value.isStrOf x v
def adn(w:World):Key->Int
 | .inl k=>hashInt k
 | .inr x=>hashStr w x
theorem bt:∀ {k:Key} {v:Value},nR k v=true->(∃ i t,k=Sum.inl i/\v=Value.int i t)\/(∃ x t,k=Sum.inr x/\v=Value.str x t)
 | .inl i,v,h=>by obtain⟨t,e⟩:=Value.isInt_shape (k:=i) (v:=v) h;exact .inl ⟨i,t,rfl,e⟩
 | .inr x,v,h=>by obtain⟨t,e⟩:=Value.isStrOf_shape (x:=x) (v:=v) h;exact .inr ⟨x,t,rfl,e⟩
theorem qy(i:Int)(t:Tok):nR (.inl i) (.int i t)=true:=by simp[nR,Value.isInt]
theorem qP(x:Str)(t:Tok):nR (.inr x) (.str x t)=true:=by simp[nR,Value.isStrOf]
theorem aaj(a b:Int):decide ((Sum.inl a:Key)=Sum.inl b)=(a==b):=by
 by_cases e:a=b
 ·subst e;simp
 ·have h:¬ (Sum.inl a:Key)=Sum.inl b:=λ q=>e (Sum.inl.inj q);rw[decide_eq_false h];exact(beq_eq_false_iff_ne.mpr e).symm
theorem zG(a b:Str):decide ((Sum.inr a:Key)=Sum.inr b)=decide (a=b):=by
 by_cases e:a=b
 ·subst e;simp
 ·have h:¬ (Sum.inr a:Key)=Sum.inr b:=λ q=>e (Sum.inr.inj q);rw[decide_eq_false h,decide_eq_false e]
theorem aaP(a:Int)(b:Str):decide ((Sum.inl a:Key)=Sum.inr b)=false:=decide_eq_false (λ q=>nomatch q)
theorem aan(a:Str)(b:Int):decide ((Sum.inr a:Key)=Sum.inl b)=false:=decide_eq_false (λ q=>nomatch q)
def bK(prog:Program)(w:World):PySem.KeyKind prog w Key where
 is:=nR
 hash:=adn w
 inj:=λ v a b ha hb=>by
  rcases bt ha with ⟨i,t,rfl,rfl⟩ | ⟨x,t,rfl,rfl⟩
  ·rcases bt hb with ⟨j,u,rfl,e⟩ | ⟨y,u,rfl,e⟩
   ·injection e with e1 _;rw[e1]
   ·exact nomatch e
  ·rcases bt hb with ⟨j,u,rfl,e⟩ | ⟨y,u,rfl,e⟩
   ·exact nomatch e
   ·injection e with e1 _;rw[e1]
 byValue:=λ k v h=>by
  rcases bt h with ⟨i,t,rfl,rfl⟩ | ⟨x,t,rfl,rfl⟩<;>rfl
 pyHash:=λ hv h=>by
  rcases bt hv with ⟨i,t,rfl,rfl⟩ | ⟨x,t,rfl,rfl⟩
  ·exact wpAny_pyHash_int h
  ·exact wpAny_pyHash_str h
 eqBool:=λ hu hv h=>by
  rcases bt hu with ⟨i,t,rfl,rfl⟩ | ⟨x,t,rfl,rfl⟩
  ·rcases bt hv with ⟨j,u,rfl,rfl⟩ | ⟨y,u,rfl,rfl⟩
   ·rw[aaj] at h;exact wpAny_eqBool_int h
   ·rw[aaP] at h;exact SeqAt.EqAt.int_str i t y u _ _ _ _ h
  ·rcases bt hv with ⟨j,u,rfl,rfl⟩ | ⟨y,u,rfl,rfl⟩
   ·rw[aan] at h;exact SeqAt.EqAt.str_int x t j u _ _ _ _ h
   ·rw[zG] at h;exact wpAny_eqBool_str h
 «strs»:=λ k x t v h=>by
  rcases bt h with ⟨i,u,rfl,e⟩ | ⟨y,u,rfl,e⟩
  ·exact nomatch e
  ·injection e with e1 _
   subst e1;cases v<;>rfl
theorem l9(prog:Program)(w:World)(i:Int)(t:Tok):(bK prog w).is (.inl i) (.int i t)=true:=qy i t
theorem lu(prog:Program)(w:World)(x:Str)(t:Tok):(bK prog w).is (.inr x) (.str x t)=true:=qP x t
inductive V where
 | non | bl (b:Bool) | int (i:Int) | str (x:Str) | byt (b:Array UInt8) | flt (b:UInt64) | ref (a:Addr) | ty (n:String)
 deriving DecidableEq
def RelV:V->Value->Prop
 | .non,u=>u=Value.none
 | .bl b,u=>u=Value.bool b
 | .int i,u=>∃ t,u=Value.int i t
 | .str x,u=>∃ t,u=Value.str x t
 | .byt b,u=>∃ t,u=Value.bytes b t
 | .flt b,u=>∃ t,u=Value.float b t
 | .ref a,u=>u=Value.ref a
 | .ty n,u=>u=Value.type n
abbrev Vals:List V->List Value->Prop:=Paired RelV
theorem Vals.length{xs:List V}{us:List Value}(r:Vals xs us):xs.length=us.length:=Paired.length r
theorem Vals.get:∀ {xs:List V} {us:List Value} {i:Nat} {x:V},Vals xs us->xs[i]? =some x->∃ u,us[i]? =some u/\RelV x u
 | _,_,_,_,.nil,e=>by simp at e
 | _,_,0,_,.cons r _,e=>by simp at e;subst e;exact⟨_,rfl,r⟩
 | _,_,i+1,x,.cons _ t,e=>by obtain⟨u,h1,h2⟩:=Vals.get (i:=i) (x:=x) t (by simpa using e);exact⟨u,by simpa using h1,h2⟩
theorem Vals.set{x:V}{u:Value}(r:RelV x u):∀ {xs:List V} {us:List Value} (i:Nat),Vals xs us->Vals (xs.set i x) (us.set i u)
 | _,_,_,.nil=>.nil
 | _,_,0,.cons _ t=>.cons r t
 | _,_,i+1,.cons q t=>.cons q (Vals.set r i t)
theorem Vals.append:∀ {xs ys:List V} {us ws:List Value},Vals xs us->Vals ys ws->Vals (xs++ys) (us++ws)
 | _,_,_,_,.nil,s=>s
 | _,_,_,_,.cons r t,s=>.cons r (Vals.append t s)
theorem Vals.take:∀ {xs:List V} {us:List Value} (n:Nat),Vals xs us->Vals (xs.take n) (us.take n)
 | _,_,0,_=>.nil
 | _,_,_+1,.nil=>.nil
 | _,_,n+1,.cons r t=>.cons r (Vals.take n t)
theorem Vals.drop:∀ {xs:List V} {us:List Value} (n:Nat),Vals xs us->Vals (xs.drop n) (us.drop n)
 | _,_,0,r=>r
 | _,_,_+1,.nil=>.nil
 | _,_,n+1,.cons _ t=>Vals.drop n t
def l7:Option V->Option Value->Prop
 | some v,some u=>RelV v u
 | none,none=>True
 | _,_=>False
def KV{κ:Type}:List (κ×V)->List (κ×Value)->Prop:=Paired λ(p:κ×V) (q:κ×Value)=>p.1=q.1/\RelV p.2 q.2
def kV:Key->V
 | .inl i=>.int i
 | .inr x=>.str x
inductive HO where
 | lst (xs:List V)
 | tup (xs:List V)
 | dK (kvs:List (Key×V)) | dT (kvs:List (List Key×V))
 | set (S:Int->Bool) (n:Nat)
 | ins (C dx:Addr) (fs:List (Str×V))
 | own (x:Addr)
 | xd (fs:List (Str×V))
 | met (f x:Addr)
 | rng (lo hi:Int)
 | frz (o:Obj) (u:HO)
 | tbl (ps:Array Value)
 | ext (φ:Heap->Prop)
abbrev Hp:=Addr->Option HO
def upd(H:Hp)(a:Addr)(o:HO):Hp:=λ b=>if b=a then some o else H b
theorem av{H:Hp}{a:Addr}{o:HO}:upd H a o a=some o:=by unfold upd;rw[if_pos rfl]
theorem aj{H:Hp}{a b:Addr}{o:HO}(h:b≠a):upd H a o b=H b:=by unfold upd;rw[if_neg h]
theorem vV{H:Hp}{a:Addr}{o u:HO}:upd (upd H a o) a u=upd H a u:=by
 funext b;unfold upd;split<;>rfl
theorem oz{H:Hp}{a b:Addr}{o u:HO}(h:H a=some o)(h':H b=some u)(d:o≠u):a≠b:=by intro e;subst e;rw[h] at h';exact d (Option.some.inj h')
theorem aG{H:Hp}{a b:Addr}{o:HO}(h:H a=some o)(h':H b=none):a≠b:=by intro e;subst e;rw[h] at h';cases h'
def u9(h:Heap)(a:Addr)(items:Array Value):Prop:=∃ o,h.get? a=some o/\o.cls=.type "tuple" /\ o.dict=none/\∃ n,o.data=.seq items n
theorem u9.tup{h:Heap}{a:Addr}{items:Array Value}(x:u9 h a items):IsTup h a items:=let ⟨o,h1,h2,_,h3⟩:=x; ⟨o,h1,h2,h3⟩
theorem u9.new(h:Heap)(items:Array Value):u9 (h.push {cls:=.type "tuple",data:=.seq items}) h.objs.size items:=⟨_,Heap.get?_push_size _ rfl,rfl,rfl,_,rfl⟩
section
variable (P:Program)(w:World)
def bX(H:Hp)(h:Heap)(a:Addr):HO->Prop
 | .lst xs=>xs.length<=sizeLine/\∃ (its:List Value) (n:Nat),Vals xs its/\h.get? a=some {cls:=.type "list",data:=.seq its.toArray n}
 | .tup xs=>xs.length<=sizeLine/\∃ its:List Value,Vals xs its/\u9 h a its.toArray
 | .dK kvs=>kvs.length<=sizeLine/\(a==sysModules)=false/\∃ vs,KV kvs vs/\h.DictOf (bK P w) a vs
 | .dT kvs=>kvs.length<=sizeLine/\(a==sysModules)=false/\∃ xs:List (List Key×Addr×Value),
   Paired (λ(p:List Key×V) (q:List Key×Addr×Value)=>p.1=q.1/\H q.2.1=some (.tup (p.1.map kV))/\RelV p.2 q.2.2) kvs xs /\
   ∃ o es ep,h.get? a=some o/\o.ExactDict/\o.data=.dict es ep/\es.toList=xs.map (entryOfKey (tupleKind (bK P w)))/\(xs.map (·.1)).Nodup
 | .set S n=>h.SetOf (intKind P w) a S n
 | .ins C dx fs=>H dx=some (.own a)/\fs.length<=1000/\dx≠a/\h.get? a=some (W.instObj C dx) /\
   ∃ mA,h.Ns1 dx mA/\(∀ f,l7 (fs.lookup f) (mA f))/\PySem.Within mA (fs.map (·.1))
 | .own _=>∃ o,h.get? a=some o
 | .xd fs=>∃ mA,h.Ns1 a mA/\∀ f,l7 (fs.lookup f) (mA f)
 | .rng lo hi=>∃ t u v,h.get? a=some {cls:=.type "range",data:=.fields #[.int lo t,.int hi u,.int 1 v]}
 | .frz o u=>h.get? a=some o/\bX H h a u
 | .tbl ps=>h.get? a=some {cls:=.none,data:=.fields ps}
 | .met f x=>h.get? a=some (W.methodObj (.ref f) (.ref x))
 | .ext φ=>φ h/\(∃ o,h.get? a=some o)/\∀ h1 h2:Heap,φ h1->(∀ o,h1.get? a=some o->h2.get? a=some o)->φ h2
def HOk(H:Hp)(h:Heap):Prop:=∀ a o,H a=some o->bX P w H h a o
end
section
variable {P:Program}{w:World}{H H':Hp}{h h':Heap}{a:Addr}{o:HO}
theorem bX.lt(x:bX P w H h a o):a<h.objs.size:=by
 cases o with
 | lst xs=>obtain⟨_,_,_,_,e⟩:=x;exact Heap.lt_size e
 | tup xs=>obtain⟨_,_,_,p⟩:=x;exact p.tup.lt
 | dK kvs=>obtain⟨_,_,_,_,o,_,_,e,_⟩:=x;exact Heap.lt_size e
 | dT kvs=>obtain⟨_,_,_,_,o,_,_,e,_⟩:=x;exact Heap.lt_size e
 | set S n=>obtain⟨o,_,_,_,e,_⟩:=x;exact Heap.lt_size e
 | ins C dx fs=>obtain⟨_,_,_,e,_⟩:=x;exact Heap.lt_size e
 | own y=>obtain⟨_,e⟩:=x;exact Heap.lt_size e
 | xd fs=>obtain⟨_,⟨_,_,_,e,_⟩,_⟩:=x;exact Heap.lt_size e
 | rng lo hi=>obtain⟨_,_,_,e⟩:=x;exact Heap.lt_size e
 | frz ob u=>obtain⟨e,_⟩:=x;exact Heap.lt_size e
 | tbl ps=>exact Heap.lt_size (show h.get? a=some _ from x)
 | met f y=>exact Heap.lt_size (show h.get? a=some _ from x)
 | ext φ=>obtain⟨_,⟨_,e⟩,_⟩:=x;exact Heap.lt_size e
theorem Paired.fw{α β:Type}{F G:α->β->Prop}:∀ {l₁:List α} {l₂:List β},Paired F l₁ l₂->(∀ a b,F a b->G a b)->Paired G l₁ l₂
 | _,_,.nil,_=>.nil
 | _,_,.cons r t,f=>.cons (f _ _ r) (Paired.fw t f)
theorem bX.oW(x:bX P w H h a o)(k:∀ b u,(b=a\/H b=some (.own a))->h.get? b=some u->h'.get? b=some u)
  (ho:∀ b,H b=some (.own a)->H' b=some (.own a))(ht:∀ b xs,H b=some (.tup xs)->H' b=some (.tup xs)):bX P w H' h' a o:=by
 induction o with
 | lst xs=>obtain⟨z,its,n,r,e⟩:=x;exact⟨z,its,n,r,k _ _ (.inl rfl) e⟩
 | tup xs=>obtain⟨z,its,r,ob,e,c⟩:=x;exact⟨z,its,r,ob,k _ _ (.inl rfl) e,c⟩
 | dK kvs=>obtain⟨z,y,vs,r,ob,es,ep,e,c⟩:=x;exact⟨z,y,vs,r,ob,es,ep,k _ _ (.inl rfl) e,c⟩
 | dT kvs =>
  obtain⟨z,y,xs,r,ob,es,ep,e,c⟩:=x;exact⟨z,y,xs,Paired.fw r λ p q z=>⟨z.1,ht _ _ z.2.1,z.2.2⟩,ob,es,ep,k _ _ (.inl rfl) e,c⟩
 | set S n=>obtain⟨ob,es,ep,t,e,c⟩:=x;exact⟨ob,es,ep,t,k _ _ (.inl rfl) e,c⟩
 | ins C dx fs =>
  obtain⟨d,z,ne,e,mA,⟨od,es,ep,e2,c⟩,r⟩:=x;exact⟨ho _ d,z,ne,k _ _ (.inl rfl) e,mA,⟨od,es,ep,k _ _ (.inr d) e2,c⟩,r⟩
 | own y=>obtain⟨ob,e⟩:=x;exact⟨ob,k _ _ (.inl rfl) e⟩
 | xd fs=>obtain⟨mA,⟨od,es,ep,e,c⟩,r⟩:=x;exact⟨mA,⟨od,es,ep,k _ _ (.inl rfl) e,c⟩,r⟩
 | rng lo hi=>obtain⟨t,u,v,e⟩:=x;exact⟨t,u,v,k _ _ (.inl rfl) e⟩
 | frz ob u ih=>obtain⟨e,q⟩:=x;exact⟨k _ _ (.inl rfl) e,ih q⟩
 | tbl ps =>
  have e:h.get? a=some {cls:=.none,data:=.fields ps}:=x;show h'.get? a=some {cls:=.none,data:=.fields ps};exact k a _ (.inl rfl) e
 | met f y =>
  have e:h.get? a=some (W.methodObj (.ref f) (.ref y)):=x;show h'.get? a=some (W.methodObj (.ref f) (.ref y));exact k a _ (.inl rfl) e
 | ext φ=>obtain⟨p,⟨o,e⟩,st⟩:=x;exact⟨st _ _ p λ o q=>k _ _ (.inl rfl) q,⟨o,k _ _ (.inl rfl) e⟩,st⟩
theorem HOk.lt(x:HOk P w H h)(e:H a=some o):a<h.objs.size:=(x a o e).lt
theorem HOk.fresh(x:HOk P w H h)(e:h.objs.size<=a):H a=none:=by
 cases q:H a with
 | none=>rfl
 | some u=>exact absurd (Nat.lt_of_lt_of_le (x.lt q) e) (Nat.lt_irrefl _)
theorem HOk.kept(x:HOk P w H h)(k:∀ b u,h.get? b=some u->h'.get? b=some u):HOk P w H h':=λ a o e =>
 (x a o e).oW (λ b u _ q=>k b u q) (λ _ q=>q) λ _ _ q=>q
theorem HOk.laid(x:HOk P w H h)(k:∀ b u,h.get? b=some u->h'.get? b=some u)(hp:h.objs.size<=a)(new:bX P w (upd H a o) h' a o):HOk P w (upd H a o) h':=λ b u e=>by
 have hn:=x.fresh hp
 by_cases hb:b=a
 ·subst hb;rw[av] at e;cases e;exact new
 ·rw[aj hb] at e;exact(x b u e).oW (λ c v _ q=>k c v q) (λ c q=>by rw[aj (aG q hn)];exact q) λ c xs q=>by rw[aj (aG q hn)];exact q
end
def Rd(H:Hp)(a:Addr)(u:HO):Prop:=H a=some u\/∃ o,H a=some (.frz o u)
theorem Rd.ok{P:Program}{w:World}{H:Hp}{h:Heap}{a:Addr}{u:HO}(r:Rd H a u)(x:HOk P w H h):bX P w H h a u:=by
 rcases r with r | ⟨o,r⟩
 ·exact x a u r
 ·obtain⟨_,q⟩:=x a _ r;exact q
def Mut:Option HO->Prop
 | some (.lst _)=>True
 | some (.dK _)=>True
 | some (.dT _)=>True
 | some (.set _ _)=>True
 | some (.ins _ _ _)=>True
 | some (.ext _)=>True
 | _=>False
section
variable {P:Program}{w:World}{H:Hp}{h h':Heap}{x e:Addr}{o':HO}
theorem HOk.write(ok:HOk P w H h)(mu:Mut (H x))(he:e=x\/H e=some (.own x))(k:∀ b u,b≠e->h.get? b=some u->h'.get? b=some u)(heo:∃ u,h'.get? e=some u)
  (new:bX P w (upd H x o') h' x o'):HOk P w (upd H x o') h':=λ b u q=>by
 have nown:∀ c y,H c=some (.own y)->c≠x:=λ c y r z=>by subst z;rw[r] at mu;exact mu
 have ntup:∀ c xs,H c=some (.tup xs)->c≠x:=λ c xs r z=>by subst z;rw[r] at mu;exact mu
 by_cases hb:b=x
 ·subst hb;rw[av] at q;cases q;exact new
 ·rw[aj hb] at q
  by_cases hbe:b=e
  ·have q':H b=some (.own x):=by
    rcases he with z | z
    ·exact absurd (hbe.trans z) hb
    ·rw[hbe];exact z
   rw[q] at q';cases q';obtain⟨v,hv⟩:=heo;exact⟨v,by rw[hbe];exact hv⟩
  ·refine(ok b u q).oW (λ c v hc r=>k c v ?_ r) (λ c r=>by rw[aj (nown c b r)];exact r) λ c xs r=>by rw[aj (ntup c xs r)];exact r
   rcases hc with rfl | hc
   ·exact hbe
   ·rintro rfl;rcases he with z | z
    ·exact nown c b hc z
    ·rw[hc] at z;cases z;exact hb rfl
end
structure Un(fs ex:List Addr)(H H':Hp)(h h':Heap):Prop where
 keep:∀ b o,h.get? b=some o->H b=none->b ∉ fs->b ∉ ex->h'.get? b=some o
 slot:∀ b o,h.get? b=some o->H b=none->b∈fs->b ∉ ex->∃ sl,h'.get? b=some {o with slots:=sl}
 free:∀ b o,h.get? b=some o->H b=none->b ∉ ex->H' b=none
 there:∀ b o,h.get? b=some o->b ∉ ex->∃ o',h'.get? b=some o'
 mE:∀ b xs,H b=some (.tup xs)->H' b=some (.tup xs)
 frzs:∀ b o u,H b=some (.frz o u)->H' b=some (.frz o u)
 tbls:∀ b ps,H b=some (.tbl ps)->∃ more,H' b=some (.tbl (ps++more))
section
variable {fs fs' ex ex':List Addr}{H H1 H2:Hp}{h h1 h2 h':Heap}{a x e:Addr}{o:HO}
theorem Un.any(u:Un fs ex H H1 h h1){b:Addr}{ob:Obj}(q:h.get? b=some ob)(n:H b=none)(hx:b ∉ ex):∃ sl,h1.get? b=some {ob with slots:=sl}:=by
 by_cases hb:b∈fs
 ·exact u.slot b ob q n hb hx
 ·exact⟨ob.slots,u.keep b ob q n hb hx⟩
theorem Un.kept(k:∀ b u,h.get? b=some u->h'.get? b=some u):Un fs ex H H h h':=
 ⟨λ b ob q _ _ _=>k b ob q,λ b ob q _ _ _=>⟨ob.slots,k b ob q⟩,λ _ _ _ n _=>n,λ b ob q _=>⟨ob,k b ob q⟩,λ _ _ q=>q,λ _ _ _ q=>q,λ _ ps q=>⟨#[],by rw[q];simp⟩⟩
theorem Un.refl:Un fs ex H H h h:=Un.kept λ _ _ q=>q
theorem Un.laid(k:∀ b u,h.get? b=some u->h'.get? b=some u)(hp:h.objs.size<=a)(hn:H a=none):Un fs ex H (upd H a o) h h' where
 keep:=λ b u q _ _ _=>k b u q
 slot:=λ b u q _ _ _=>⟨u.slots,k b u q⟩
 free:=λ b u q n _=>by rw[aj (Nat.ne_of_lt (Nat.lt_of_lt_of_le (Heap.lt_size q) hp))];exact n
 there:=λ b u q _=>⟨u,k b u q⟩
 mE:=λ b xs q=>by rw[aj (aG q hn)];exact q
 frzs:=λ b u xs q=>by rw[aj (aG q hn)];exact q
 tbls:=λ b ps q=>⟨#[],by rw[aj (aG q hn),q];simp⟩
theorem Un.write(mu:Mut (H x))(he:e=x\/H e=some (.own x))(k:∀ b u,b≠e->h.get? b=some u->h'.get? b=some u)(heo:∃ u,h'.get? e=some u):Un fs ex H (upd H x o) h h':=by
 have hx:∀ b,H b=none->b≠x:=λ b n z=>by subst z;rw[n] at mu;exact mu
 have hb:∀ b,H b=none->b≠e:=λ b n z=>by
  subst z;rcases he with r | r
  ·exact hx b n r
  ·rw[n] at r;cases r
 have hm:∀ b u,H b=some u->¬ Mut (some u)->b≠x:=λ b u q nm z=>by subst z;rw[q] at mu;exact nm mu
 refine⟨λ b u q n _ _=>k b u (hb b n) q,λ b u q n _ _=>⟨u.slots,k b u (hb b n) q⟩,λ b u q n _=>by rw[aj (hx b n)];exact n,λ b u q _=>?_,
  λ b xs q=>by rw[aj (hm b _ q λ z=>z)];exact q,λ b u xs q=>by rw[aj (hm b _ q λ z=>z)];exact q,λ b ps q=>⟨#[],by rw[aj (hm b _ q λ z=>z),q];simp⟩⟩
 by_cases hbe:b=e
 ·subst hbe;exact heo
 ·exact⟨u,k b u hbe q⟩
end
def trk(h:Heap)(H:Hp):List Addr:=(List.range h.objs.size).filter λ a=>(H a).isSome
def uo(h:Heap)(H:Hp):Heap:=W.hideAll h (trk h H)
theorem pM(h:Heap)(H:Hp):(uo h H).objs.size=h.objs.size:=W.hideAll_size _ _
theorem ug{h:Heap}{H:Hp}{b:Addr}{o:Obj}(e:h.get? b=some o)(n:H b=none):(uo h H).get? b=some o:=
 W.hideAll_get _ e λ hm=>by have q:(H b).isSome=true:=(List.mem_filter.mp hm).2;rw[n] at q;simp at q
theorem wB{h:Heap}{H:Hp}{b:Addr}{o:Obj}(e:(uo h H).get? b=some o):h.get? b=some o/\H b=none:=by
 have e':h.get? b=some o:=W.of_hideAll (trk h H) e;refine⟨e',?_⟩;cases q:H b with
 | none=>rfl
 | some x =>
  have hm:b∈trk h H:=List.mem_filter.mpr ⟨List.mem_range.mpr (Heap.lt_size e'),by simp[q]⟩;have z:(uo h H).get? b=none:=W.hideAll_none (trk h H) hm;rw[z] at e;cases e
def BM(mg:Str->Option Value)(h:Heap):Prop:=(∃ bm o,mg "__builtins__" = some (.ref bm)/\bm≠builtinsNs/\h.get? bm=some o/\o.cls=.type "module" /\ o.dict=some builtinsNs/\o.data=.plain)/\∃ mm,h.Ns sysModules mm
structure Mod(K:FG)(mg:Str->Option Value)(base:Heap):Prop where
 kin:K.In base
 glob:base.Ns mainGlobals mg
 blt:∃ mb,base.Ns builtinsNs mb/\∀ x:Str,x ≠ "__name__" -> mb x=bootBuiltins x
 nolimit:base.NoLimit
 bm:BM mg base
structure Cx where
 prog:Program
 w:World
 K:FG
 mg:Str->Option Value
 base:Heap
 A:Around
 N:List Str
 s₀:Shared
 H₀:Hp
 env:Env
 outer:List Env
 stack:List Env
 ex:List Addr
 fn:Str->Bool
 calm:Bool
 pn:PN
 xe:VP
def frs(l:List Env):List Addr:=l.filterMap (·.frame)
abbrev Cx.fs(X:Cx):List Addr:=frs X.outer
def Vis(sc:Scope)(x:Str):Prop:=sc.names.lookup x=some .local\/sc.names.lookup x=some .cell\/sc.names.lookup x=some .free
def Loc(sc:Scope)(x:Str):Prop:=sc.names.lookup x=some .local\/sc.names.lookup x=some .cell
def Look(env:Env)(h:Heap)(m:Str->Option Value)(x:Str)(u:Value):Prop:=
 (env.kindOf x=some .local/\m x=some u)\/((env.kindOf x=some .cell\/env.kindOf x=some .free)/\∃ c,env.cells.lookup x=some c/\h.IsCell c (some u))
structure Cx.Ok(X:Cx):Prop where
 mod:Mod X.K X.mg X.base
 kind:X.env.scope.kind=.function
 glob:X.env.globals=mainGlobals
 blt:X.env.builtins=builtinsNs
 above:X.s₀.heap.objs.size<=X.env.locals
 inj:∀ x y c,X.env.cells.lookup x=some c->X.env.cells.lookup y=some c->x=y
 has:∀ x,(X.env.kindOf x=some .cell\/X.env.kindOf x=some .free)->∃ c,X.env.cells.lookup x=some c
 cab:∀ x c,X.fn x=true->X.env.cells.lookup x=some c->X.s₀.heap.objs.size<=c
 hd:X.calm=true->X.A.handled=none
 frames:X.A.frames=some X.stack
 stk:X.stack=X.outer\/(X.stack=X.env::X.outer/\X.env.frame=some X.env.locals)
 exf:∀ b∈X.ex,b≠X.env.locals/\∀ x c,X.env.cells.lookup x=some c->c≠b
 bs:∀ b o,X.base.get? b=some o->X.s₀.heap.get? b=some o/\X.H₀ b=none
 bsz:X.base.objs.size<=X.s₀.heap.objs.size
 noex:∀ b o,X.base.get? b=some o->b ∉ X.ex
 exfs:∀ b∈X.ex,b ∉ X.fs
 ll:X.s₀.heap.FunFrames X.base X.outer
 frf:∀ b∈X.fs,X.H₀ b=none
structure Inv(X:Cx)(pins:PN)(σ:List (Option V))(H:Hp)(s:Shared):Prop where
 ok:X.Ok
 os:s.os=X.s₀.os
 bare:AllBare s.gens
 base:Un X.fs X.ex X.H₀ H X.s₀.heap s.heap
 loc:∃ m,s.heap.Ns X.env.locals m/\∀ (i:Nat) (x:Str) (v:V),X.N[i]? =some x->σ[i]? =some (some v)->Vis X.env.scope x->∃ u,RelV v u/\Look X.env s.heap m x u
 cell:∀ x c,X.env.cells.lookup x=some c->∃ v,s.heap.IsCell c v
 free:H X.env.locals=none
 freeC:∀ x c,X.env.cells.lookup x=some c->H c=none
 pin:∀ p∈X.pn++pins,s.heap.get? p.1=some p.2/\H p.1=none/\p.1≠X.env.locals/\p.1 ∉ X.fs/\∀ v,p.2.data ≠ .cell v
 hok:HOk X.prog X.w H s.heap
 len:σ.length=X.N.length
section
variable {X:Cx}{pins:PN}{σ:List (Option V)}{H H':Hp}{s:Shared}{h':Heap}
theorem Cx.Ok.ac3(ok:X.Ok){b:Addr}{o:Obj}(e:X.base.get? b=some o):b ∉ X.fs:=λ hb=>by have:=(ok.ll.mem hb).1;rw[e] at this;cases this
theorem Inv.bs(I:Inv X pins σ H s):∀ b o,X.base.get? b=some o->s.heap.get? b=some o/\H b=none:=λ b o e =>
 ⟨I.base.keep b o (I.ok.bs b o e).1 (I.ok.bs b o e).2 (I.ok.ac3 e) (I.ok.noex b o e),I.base.free b o (I.ok.bs b o e).1 (I.ok.bs b o e).2 (I.ok.noex b o e)⟩
theorem Inv.bk(I:Inv X pins σ H s):∀ b o,X.base.get? b=some o->s.heap.get? b=some o:=λ b o e=>(I.bs b o e).1
theorem Inv.mod(I:Inv X pins σ H s):Mod X.K X.mg X.base:=I.ok.mod
theorem Inv.kIn(I:Inv X pins σ H s):X.K.In s.heap:=I.ok.mod.kin.keeps I.bk
theorem Inv.nolimit(I:Inv X pins σ H s):s.heap.NoLimit:=I.ok.mod.nolimit.keeps I.bk
theorem Inv.lt(I:Inv X pins σ H s):X.env.locals<s.heap.objs.size:=let ⟨_,hn,_⟩:=I.loc;hn.lt
theorem Inv.sz(I:Inv X pins σ H s):X.s₀.heap.objs.size<=s.heap.objs.size:=Nat.le_trans I.ok.above (Nat.le_of_lt I.lt)
theorem Inv.acJ(I:Inv X pins σ H s){a:Addr}(h:s.heap.objs.size<=a):a ∉ X.fs:=λ hb=>by obtain⟨_,o,ho,_⟩:=I.ok.ll.mem hb;exact absurd (Nat.lt_of_lt_of_le (Heap.lt_size ho) (Nat.le_trans I.sz h)) (Nat.lt_irrefl _)
theorem Inv.cne(I:Inv X pins σ H s):∀ x c,X.env.cells.lookup x=some c->c≠X.env.locals:=λ x c e z=>by obtain⟨v,o,ho,hd⟩:=I.cell x c e;obtain⟨m,⟨o',es,ep,ho',hd',_⟩,_⟩:=I.loc;rw[z,ho'] at ho;cases ho;rw[hd'] at hd;cases hd
theorem Inv.ll(I:Inv X pins σ H s):s.heap.FunFrames X.base X.outer:=by
 have all:∀ (l:List Env),(∀ b∈frs l,b∈X.fs)->X.s₀.heap.FunFrames X.base l->s.heap.FunFrames X.base l:=by
  intro l
  induction l with
  | nil=>intro _ _;trivial
  | cons env r ih =>
   intro hs hl;obtain⟨hk,⟨L,o,hf,hn,ho,hd⟩,hr⟩:=hl;have hL:L∈X.fs:=hs L (by unfold frs;rw[List.filterMap_cons,hf];exact List.mem_cons_self);obtain⟨sl,e⟩:=I.base.slot L o ho (I.ok.frf L hL) hL λ z=>I.ok.exfs L z hL;exact⟨hk,⟨L,_,hf,hn,e,hd⟩,ih (λ b hb=>hs b (by unfold frs;rw[List.filterMap_cons,hf];exact List.mem_cons_of_mem _ hb)) hr⟩
 exact all X.outer (λ _ hb=>hb) I.ok.ll
theorem Inv.stack(I:Inv X pins σ H s):s.heap.FunFrames X.base X.stack:=by
 rcases I.ok.stk with e | ⟨e,hf⟩
 ·rw[e];exact I.ll
 ·rw[e];obtain⟨m,hn,_⟩:=I.loc;refine .cons (by rw[I.ok.kind];decide) hf hn ?_ I.ll;exact Heap.get?_none_of_le (Nat.le_trans I.ok.bsz I.ok.above)
theorem Inv.fJ(I:Inv X pins σ H s):∀ b∈frs X.stack,b∈X.env.locals::X.fs:=λ b hb=>by
 rcases I.ok.stk with e | ⟨e,hf⟩
 ·rw[e] at hb;exact List.mem_cons_of_mem _ hb
 ·rw[e] at hb;unfold frs at hb;rw[List.filterMap_cons,hf] at hb;exact hb
theorem Inv.lP(I:Inv X pins σ H s):∀ b∈frs X.stack,H b=none:=λ b hb=>by
 rcases List.mem_cons.mp (I.fJ b hb) with e | hb
 ·rw[e];exact I.free
 ·obtain⟨_,o,ho,_⟩:=I.ok.ll.mem hb;exact I.base.free b o ho (I.ok.frf b hb) λ z=>I.ok.exfs b z hb
theorem Inv.step{g':Array GenState}{t':Nat}{d':Drawn}{ch:List Addr}(I:Inv X pins σ H s)
  (hch:∀ b∈ch,(b∈X.ex\/X.s₀.heap.objs.size<=b)/\b≠X.env.locals/\(∀ x c,X.env.cells.lookup x=some c->c≠b)/\∀ p∈X.pn++pins,p.1≠b)
  (keep:∀ b o,b≠X.env.locals->b ∉ X.fs->b ∉ ch->s.heap.get? b=some o->H b=none->h'.get? b=some o)
  (slot:∀ b o,b≠X.env.locals->b∈X.fs->b ∉ ch->s.heap.get? b=some o->H b=none->∃ sl,h'.get? b=some {o with slots:=sl})(free:∀ b o,b ∉ ch->s.heap.get? b=some o->H b=none->H' b=none)
  (there:∀ b o,b ∉ ch->s.heap.get? b=some o->∃ o',h'.get? b=some o')
  (mE:∀ b xs,H b=some (.tup xs)->H' b=some (.tup xs))(frzs:∀ b o u,H b=some (.frz o u)->H' b=some (.frz o u))(tbls:∀ b ps,H b=some (.tbl ps)->∃ more,H' b=some (.tbl (ps++more)))
  (ns:∀ m,s.heap.Ns X.env.locals m->h'.Ns X.env.locals m)(hok:HOk X.prog X.w H' h')(hg:AllBare g') :
  Inv X pins σ H' {s with heap:=h',gens:=g',drawn:=d',toks:=t'}:=by
 have neL:∀ b o,X.s₀.heap.get? b=some o->b≠X.env.locals:=λ b o e=>Nat.ne_of_lt (Nat.lt_of_lt_of_le (Heap.lt_size e) I.ok.above);have neC:∀ b o,X.s₀.heap.get? b=some o->b ∉ X.ex->b ∉ ch:=λ b o e hx hb=>by
  rcases(hch b hb).1 with z | z
  ·exact hx z
  ·exact absurd (Nat.lt_of_lt_of_le (Heap.lt_size e) z) (Nat.lt_irrefl _)
 have cellK:∀ x c,X.env.cells.lookup x=some c->∀ v,s.heap.IsCell c v->h'.IsCell c v:=λ x c e v hq0=>by
  obtain⟨o,ho,hd⟩:=hq0;have nch:c ∉ ch:=λ z=>(hch c z).2.2.1 x c e rfl
  by_cases hc:c∈X.fs
  ·obtain⟨sl,q⟩:=slot c o (I.cne x c e) hc nch ho (I.freeC x c e);exact⟨_,q,hd⟩
  ·exact⟨o,keep c o (I.cne x c e) hc nch ho (I.freeC x c e),hd⟩
 refine⟨I.ok,I.os,hg,⟨λ b o e n hb hx=>?_,λ b o e n hb hx=>?_,λ b o e n hx=>?_,λ b o e hx=>?_,λ b xs e=>mE b xs (I.base.mE b xs e),λ b o xs e=>frzs b o xs (I.base.frzs b o xs e),λ b ps e=>?_⟩,?_,λ x c e=>?_,?_,λ x c e=>?_,λ p hp=>?_,hok,I.len⟩
 ·exact keep b o (neL b o e) hb (neC b o e hx) (I.base.keep b o e n hb hx) (I.base.free b o e n hx)
 ·obtain⟨sl,e1⟩:=I.base.slot b o e n hb hx;obtain⟨sl',e2⟩:=slot b _ (neL b o e) hb (neC b o e hx) e1 (I.base.free b o e n hx);exact⟨sl',e2⟩
 ·obtain⟨o',e1⟩:=I.base.there b o e hx;exact free b o' (neC b o e hx) e1 (I.base.free b o e n hx)
 ·obtain⟨o',e1⟩:=I.base.there b o e hx;exact there b o' (neC b o e hx) e1
 ·obtain⟨m1,e1⟩:=I.base.tbls b ps e;obtain⟨m2,e2⟩:=tbls b _ e1;exact⟨m1++m2,by rw[e2,Array.append_assoc]⟩
 ·obtain⟨m,hn,hl⟩:=I.loc;refine⟨m,ns m hn,λ i x v e1 e2 e3=>?_⟩;obtain⟨u,r,l⟩:=hl i x v e1 e2 e3;refine⟨u,r,?_⟩;rcases l with l | ⟨k,c,e,z⟩
  ·exact .inl l
  ·exact .inr ⟨k,c,e,cellK x c e _ z⟩
 ·obtain⟨v,z⟩:=I.cell x c e;exact⟨v,cellK x c e v z⟩
 ·obtain⟨m,⟨o,_,_,ho,_⟩,_⟩:=I.loc;exact free _ o (λ z=>(hch _ z).2.1 rfl) ho I.free
 ·obtain⟨v,o,ho,hd⟩:=I.cell x c e;exact free c o (λ z=>(hch c z).2.2.1 x c e rfl) ho (I.freeC x c e)
 ·obtain⟨e,n,ne,nf,d⟩:=I.pin p hp;have nch:p.1 ∉ ch:=λ z=>(hch p.1 z).2.2.2 p hp rfl;exact⟨keep p.1 p.2 ne nf nch e n,free p.1 p.2 nch e n,ne,nf,d⟩
theorem Inv.un{t':Nat}(I:Inv X pins σ H s)(u:Un X.fs [] H H' s.heap h')(hok:HOk X.prog X.w H' h'):Inv X pins σ H' {s with heap:=h',toks:=t'}:=by
 obtain⟨m,⟨o,es,ep,ho,r⟩,_⟩:=id I.loc;obtain⟨sl,hL⟩:=u.any ho I.free (by simp);exact I.step (g':=s.gens) (d':=s.drawn) (ch:=[]) (λ _ z=>nomatch z) (λ b o _ hb _ e n=>u.keep b o e n hb (by simp)) (λ b o _ hb _ e n=>u.slot b o e n hb (by simp)) (λ b o _ e n=>u.free b o e n (by simp)) (λ b o _ e=>u.there b o e (by simp)) u.mE u.frzs u.tbls (λ m' hm=>by obtain⟨o',es',ep',ho',r'⟩:=hm;rw[ho] at ho';cases ho';exact⟨_,es',ep',hL,r'⟩) hok I.bare
theorem Inv.call{g':Array GenState}{t':Nat}{d':Drawn}{ch:List Addr}(I:Inv X pins σ H s)(u:Un (frs X.stack) ch H H' s.heap h')(hok:HOk X.prog X.w H' h')(hg:AllBare g')
  (hch:∀ b∈ch,(b∈X.ex\/X.s₀.heap.objs.size<=b)/\b≠X.env.locals/\(∀ x c,X.env.cells.lookup x=some c->c≠b)/\∀ p∈X.pn++pins,p.1≠b) :
  Inv X pins σ H' {s with heap:=h',gens:=g',drawn:=d',toks:=t'}:=by
 obtain⟨m,⟨o,es,ep,ho,r⟩,_⟩:=id I.loc;obtain⟨sl,hL⟩:=u.any ho I.free λ z=>(hch _ z).2.1 rfl;exact I.step (ch:=ch) hch (λ b o hL hb hc e n=>u.keep b o e n (λ z=>(List.mem_cons.mp (I.fJ b z)).elim hL hb) hc) (λ b o _ _ hc e n=>u.any e n hc) (λ b o hc e n=>u.free b o e n hc) (λ b o hc e=>u.there b o e hc) u.mE u.frzs u.tbls (λ m' hm=>by obtain⟨o',es',ep',ho',r'⟩:=hm;rw[ho] at ho';cases ho';exact⟨_,es',ep',hL,r'⟩) hok hg
theorem Inv.turned{t':Nat}{it:Addr}(I:Inv X pins σ H s)(k:∀ b o,b≠it->s.heap.get? b=some o->h'.get? b=some o)(hn:H it=none)(hL:it≠X.env.locals)
  (h1:it∈X.ex\/X.s₀.heap.objs.size<=it)(h2:∀ x c,X.env.cells.lookup x=some c->c≠it)(h3:∀ p∈X.pn++pins,p.1≠it):Inv X pins σ H {s with heap:=h',toks:=t'}:=by
 have nit:∀ b u,H b=some u->b≠it:=λ b u e z=>by rw[z,hn] at e;cases e
 refine I.step (g':=s.gens) (d':=s.drawn) (ch:=[it]) (λ b hb=>?_) (λ b o _ _ hc e _=>k b o (λ z=>hc (by simp[z])) e) (λ b o _ _ hc e _=>⟨o.slots,k b o (λ z=>hc (by simp[z])) e⟩) (λ _ _ _ _ n=>n)
  (λ b o hc e=>⟨o,k b o (λ z=>hc (by simp[z])) e⟩) (λ _ _ e=>e) (λ _ _ _ e=>e) (λ b ps e=>⟨#[],by rw[e];simp⟩) (λ m hm=>?_) (λ b u e=>?_) I.bare
 ·have e:b=it:=by simpa using hb
  subst e;exact⟨h1,hL,h2,h3⟩
 ·obtain⟨o,es,ep,ho,r⟩:=hm;exact⟨o,es,ep,k _ o (Ne.symm hL) ho,r⟩
 ·refine(I.hok b u e).oW (λ c v hc q=>k c v ?_ q) (λ _ q=>q) λ _ _ q=>q;rcases hc with z | z
  ·rw[z];exact nit b u e
  ·exact nit c _ z
theorem Inv.tok(I:Inv X pins σ H s)(t:Nat):Inv X pins σ H {s with toks:=t}:=I.un (h':=s.heap) (t':=t) Un.refl I.hok
theorem Inv.kept{t':Nat}(I:Inv X pins σ H s)(k:∀ b u,s.heap.get? b=some u->h'.get? b=some u):Inv X pins σ H {s with heap:=h',toks:=t'}:=I.un (Un.kept k) (I.hok.kept k)
theorem Inv.laid{a:Addr}{o:HO}{t':Nat}(I:Inv X pins σ H s)(k:∀ b u,s.heap.get? b=some u->h'.get? b=some u)(hp:s.heap.objs.size<=a)(new:bX X.prog X.w (upd H a o) h' a o) :
  Inv X pins σ (upd H a o) {s with heap:=h',toks:=t'}:=I.un (Un.laid k hp (I.hok.fresh hp)) (I.hok.laid k hp new)
theorem Inv.write{x e:Addr}{o:HO}{t':Nat}(I:Inv X pins σ H s)(mu:Mut (H x))(he:e=x\/H e=some (.own x))(k:∀ b u,b≠e->s.heap.get? b=some u->h'.get? b=some u)(heo:∃ u,h'.get? e=some u)
  (new:bX X.prog X.w (upd H x o) h' x o):Inv X pins σ (upd H x o) {s with heap:=h',toks:=t'}:=I.un (Un.write mu he k heo) (I.hok.write mu he k heo new)
theorem Inv.cQ{pins':PN}(I:Inv X pins σ H s)(h:∀ p∈pins',s.heap.get? p.1=some p.2/\H p.1=none/\p.1≠X.env.locals/\p.1 ∉ X.fs/\∀ v,p.2.data ≠ .cell v):Inv X pins' σ H s:=
 ⟨I.ok,I.os,I.bare,I.base,I.loc,I.cell,I.free,I.freeC,λ p hp=>(List.mem_append.mp hp).elim (λ z=>I.pin p (List.mem_append_left _ z)) (h p),I.hok,I.len⟩
theorem nj{N:List Str}(hN:N.Nodup){i j:Nat}{x:Str}(a:N[i]? =some x)(b:N[j]? =some x):i=j:=by obtain⟨h1,e1⟩:=List.getElem?_eq_some_iff.mp a;obtain⟨h2,e2⟩:=List.getElem?_eq_some_iff.mp b;exact(List.getElem_inj hN).mp (e1.trans e2.symm)
theorem oK{M:Model}{A:Around}{E:VP}{i:Nat}{x:Str}{v:V}{u:Value}{Q:Unit->Shared->Prop}(I:Inv X pins σ H s)(hN:X.N.Nodup)(hi:X.N[i]? =some x)(hx:Loc X.env.scope x)(r:RelV v u)
  (h:∀ s',Inv X pins (σ.set i (some v)) H s'->(∃ a,Heap.SameBut a s.heap s'.heap/\(a=X.env.locals\/X.env.cells.lookup x=some a))->Q () s')(hf:X.fn x=true\/X.env.scope.names.lookup x=some .local:=by first | exact .inl rfl | exact .inr rfl | assumption):wpAny M A (storeName X.env x u) Q E s:=by
 obtain⟨m,hn,hl⟩:=id I.loc;have hcls:(X.env.scope.kind==.class || (X.env.scope.kind==.module&&X.env.locals != X.env.globals))=false:=by rw[I.ok.kind];rfl
 have hiσ:i<σ.length:=by rw[I.len];exact(List.getElem?_eq_some_iff.mp hi).1
 have cne:=I.cne;have tracked:∀ {a:Addr} {h':Heap},(∃ o,s.heap.get? a=some o/\H a=none)->Heap.SameBut a s.heap h'->HOk X.prog X.w H h':=λ {a h'} ha hs b ob e=>by
  obtain⟨_,_,hfree⟩:=ha;refine(I.hok b ob e).oW (λ c w' hc q=>(hs.2 c ?_).trans q) (λ _ q=>q) λ _ _ q=>q;rintro rfl;rcases hc with rfl | hc
  ·rw[hfree] at e;cases e
  ·rw[hfree] at hc;cases hc
 rcases hx with hk | hk
 ·refine wpAny_storeName_local hk hn (λ h' hn' hs=>?_) hcls;obtain⟨oL,_,_,hoL,_⟩:=id hn;refine h _ ⟨I.ok,I.os,I.bare,⟨λ b o e n hb hx=>?_,λ b o e n hb hx=>?_,I.base.free,λ b o e hx=>?_,I.base.mE,I.base.frzs,I.base.tbls⟩,⟨_,hn',λ j y v' e1 e2 e3=>?_⟩,λ y c e=>?_,I.free,I.freeC,λ p hp=>?_,tracked ⟨oL,hoL,I.free⟩ hs,by simpa using I.len⟩ ⟨_,hs,.inl rfl⟩
  ·exact(hs.2 b (Nat.ne_of_lt (Nat.lt_of_lt_of_le (Heap.lt_size e) I.ok.above))).trans (I.base.keep b o e n hb hx)
  ·obtain⟨sl,e1⟩:=I.base.slot b o e n hb hx;exact⟨sl,(hs.2 b (Nat.ne_of_lt (Nat.lt_of_lt_of_le (Heap.lt_size e) I.ok.above))).trans e1⟩
  ·obtain⟨o',e1⟩:=I.base.there b o e hx;exact⟨o',(hs.2 b (Nat.ne_of_lt (Nat.lt_of_lt_of_le (Heap.lt_size e) I.ok.above))).trans e1⟩
  ·by_cases hj:j=i
   ·subst hj;rw[hi] at e1;cases e1;rw[List.getElem?_set_self hiσ] at e2;cases e2;exact⟨u,r,.inl ⟨hk,by simp⟩⟩
   ·rw[List.getElem?_set_ne (Ne.symm hj)] at e2;obtain⟨u',r',q⟩:=hl j y v' e1 e2 e3;refine⟨u',r',?_⟩;rcases q with ⟨k,e⟩ | ⟨k,c,e,z⟩
    ·refine .inl ⟨k,?_⟩;have:y≠x:=λ e=>hj (nj hN e1 (e ▸ hi));simp[this,e]
    ·exact .inr ⟨k,c,e,z.sameBut hs (cne y c e)⟩
  ·obtain⟨w',z⟩:=I.cell y c e;exact⟨w',z.sameBut hs (cne y c e)⟩
  ·obtain⟨e,n,ne,nf,d⟩:=I.pin p hp;exact⟨(hs.2 p.1 ne).trans e,n,ne,nf,d⟩
 ·have hfn:X.fn x=true:=by
   rcases hf with z | z
   ·exact z
   ·rw[z] at hk;cases hk
  obtain⟨c,hc⟩:=I.ok.has x (.inl hk);obtain⟨w',z⟩:=I.cell x c hc;refine wpAny_storeName_cell I.ok.kind hk hc z (λ h' hc' hs=>?_);obtain⟨oc,hoc,hocd⟩:=id z;refine h {s with heap:=h'} ⟨I.ok,I.os,I.bare,⟨λ b o e n hb hx=>?_,λ b o e n hb hx=>?_,I.base.free,λ b o e hx=>?_,I.base.mE,I.base.frzs,I.base.tbls⟩,⟨m,hn.sameBut hs (Ne.symm (cne x c hc)),λ j y v' e1 e2 e3=>?_⟩,λ y c' e=>?_,I.free,I.freeC,λ p hp=>?_,tracked ⟨oc,hoc,I.freeC x c hc⟩ hs,by simpa using I.len⟩ ⟨c,hs,.inr hc⟩
  ·exact(hs.2 b (Nat.ne_of_lt (Nat.lt_of_lt_of_le (Heap.lt_size e) (I.ok.cab x c hfn hc)))).trans (I.base.keep b o e n hb hx)
  ·obtain⟨sl,e1⟩:=I.base.slot b o e n hb hx;exact⟨sl,(hs.2 b (Nat.ne_of_lt (Nat.lt_of_lt_of_le (Heap.lt_size e) (I.ok.cab x c hfn hc)))).trans e1⟩
  ·obtain⟨o',e1⟩:=I.base.there b o e hx;exact⟨o',(hs.2 b (Nat.ne_of_lt (Nat.lt_of_lt_of_le (Heap.lt_size e) (I.ok.cab x c hfn hc)))).trans e1⟩
  ·by_cases hj:j=i
   ·subst hj;rw[hi] at e1;cases e1;rw[List.getElem?_set_self hiσ] at e2;cases e2;exact⟨u,r,.inr ⟨.inl hk,c,hc,hc'⟩⟩
   ·rw[List.getElem?_set_ne (Ne.symm hj)] at e2;obtain⟨u',r',q⟩:=hl j y v' e1 e2 e3;refine⟨u',r',?_⟩;rcases q with q | ⟨k,c',e,z'⟩
    ·exact .inl q
    ·refine .inr ⟨k,c',e,z'.sameBut hs ?_⟩;rintro rfl;exact hj (nj hN e1 (I.ok.inj _ _ _ e hc ▸ hi))
  ·by_cases hcc:c'=c
   ·subst hcc;exact⟨_,hc'⟩
   ·obtain⟨w2,z2⟩:=I.cell y c' e;exact⟨w2,z2.sameBut hs hcc⟩
  ·obtain⟨e,n,ne,nf,d⟩:=I.pin p hp;refine⟨(hs.2 p.1 ?_).trans e,n,ne,nf,d⟩;intro q;rw[q,hoc] at e;have q':oc=p.2:=Option.some.inj e;exact d w' (by rw[<- q'];exact hocd)
theorem eI{M:Model}{A:Around}{E:VP}{i:Nat}{x:Str}{v:V}{u:Value}{Q:Unit->Shared->Prop}(I:Inv X pins σ H s)(hN:X.N.Nodup)(hi:X.N[i]? =some x)(hx:Loc X.env.scope x)(r:RelV v u)
  (h:∀ s',Inv X pins (σ.set i (some v)) H s'->Q () s')(hf:X.fn x=true\/X.env.scope.names.lookup x=some .local:=by first | exact .inl rfl | exact .inr rfl | assumption):wpAny M A (storeName X.env x u) Q E s:=
 oK I hN hi hx r (λ s' I' _=>h s' I') hf
theorem Inv.yM{s':Shared}{ch:List Addr}(I:Inv X pins σ H s)(ho:s'.os=s.os)(u:Un (frs X.stack) ch H H' s.heap s'.heap)(hok:HOk X.prog X.w H' s'.heap)(hg:AllBare s'.gens)
  (hch:∀ b∈ch,(b∈X.ex\/X.s₀.heap.objs.size<=b)/\b≠X.env.locals/\(∀ x c,X.env.cells.lookup x=some c->c≠b)/\∀ p∈X.pn++pins,p.1≠b):Inv X pins σ H' s':=by
 obtain⟨h',g',d',t',o'⟩:=s';have e:o'=s.os:=ho;subst e;exact I.call (g':=g') (t':=t') (d':=d') u hok hg hch
end
abbrev XK:=Value->Option Addr->Hp->Prop
abbrev St:=List (Option V)
abbrev VK:=V->Hp->Prop
abbrev TE:=St->Hp->VK->Prop
abbrev TT:=St->Hp->(Bool->Hp->Prop)->Prop
abbrev TA:=St->Hp->(List V->Hp->Prop)->Prop
structure Ends where
 nx:St->Hp->Prop
 rt:VK
 bk:St->Hp->Prop:=λ _ _=>False
 ct:St->Hp->Prop:=λ _ _=>False
abbrev TS:=Ends->St->Hp->Prop
def EP(X:Cx)(pins:PN)(σ:St)(Q:VK)(u:Value)(s':Shared):Prop:=∃ v H',Inv X pins σ H' s'/\RelV v u/\Q v H'
def TP(X:Cx)(pins:PN)(σ:St)(Q:Bool->Hp->Prop)(b:Bool)(s':Shared):Prop:=∃ H',Inv X pins σ H' s'/\Q b H'
def AP(X:Cx)(pins:PN)(σ:St)(Q:List V->Hp->Prop)(us:List Value)(s':Shared):Prop:=∃ vs H',Inv X pins σ H' s'/\Vals vs us/\Q vs H'
def SP(X:Cx)(pins:PN)(D:Ends)(f:Flow)(s':Shared):Prop:=
 match f with
 | .next=>∃ σ' H',Inv X pins σ' H' s'/\D.nx σ' H'
 | .brk=>∃ σ' H',Inv X pins σ' H' s'/\D.bk σ' H'
 | .cont=>∃ σ' H',Inv X pins σ' H' s'/\D.ct σ' H'
 | .ret u=>∃ v σ' H',Inv X pins σ' H' s'/\RelV v u/\D.rt v H'
def PE(X:Cx)(e:Expr)(t:TE):Prop:=
 ∀ (pins:PN) (s:Shared) (σ:St) (H:Hp) (Q:VK),Inv X pins σ H s->t σ H Q->wpAny (model X.prog X.w) X.A (eval e X.env) (EP X pins σ Q) X.xe s
def PT(X:Cx)(e:Expr)(t:TT):Prop:=
 ∀ (pins:PN) (s:Shared) (σ:St) (H:Hp) (Q:Bool->Hp->Prop),Inv X pins σ H s->t σ H Q->wpAny (model X.prog X.w) X.A (isTrue e X.env (eval e X.env)) (TP X pins σ Q) X.xe s
def PW(X:Cx)(e:Expr)(t:TT):Prop:=
 ∀ (whole:Sem Value) (pins:PN) (s:Shared) (σ:St) (H:Hp) (Q:Bool->Hp->Prop),Inv X pins σ H s->t σ H Q->wpAny (model X.prog X.w) X.A (isTrue e X.env whole) (TP X pins σ Q) X.xe s
theorem PW.pt{X:Cx}{e:Expr}{t:TT}(h:PW X e t):PT X e t:=h _
def PA(X:Cx)(es:List Expr)(t:TA):Prop:=
 ∀ (pos:Pos) (pins:PN) (s:Shared) (σ:St) (H:Hp) (Q:List V->Hp->Prop),Inv X pins σ H s->t σ H Q->wpAny (model X.prog X.w) X.A (spliced (backTo pos (starEach es X.env))) (AP X pins σ Q) X.xe s
def PS(X:Cx)(st:Stmt)(t:TS):Prop:=
 ∀ (pins:PN) (s:Shared) (σ:St) (H:Hp) (D:Ends),Inv X pins σ H s->t D σ H->wpAny (model X.prog X.w) X.A (exec st X.env) (SP X pins D) X.xe s
def PSs(X:Cx)(st:List Stmt)(t:TS):Prop:=
 ∀ (pins:PN) (s:Shared) (σ:St) (H:Hp) (D:Ends),Inv X pins σ H s->t D σ H->wpAny (model X.prog X.w) X.A (execs st X.env) (SP X pins D) X.xe s
theorem thn{α:Type}{t:Sem α}{Q Q':α->Shared->Prop}{M:Model}{A:Around}{E:VP}{s:Shared}(h:wpAny M A t Q E s)(hQ:∀ a s,Q a s->Q' a s):wpAny M A t Q' E s:=wpAny_mono h hQ λ _ _ x=>x
section
variable {X:Cx}
def acI(i:Nat):TE:=λ σ H Q=>∃ v,σ[i]? =some (some v)/\Q v H
def tC(v:V):TE:=λ _ H Q=>Q v H
theorem y7{i:Nat}{x:Str}{pos:Pos}(hN:X.N[i]? =some x)(hv:Vis X.env.scope x)(hd:ND x:=by decide)(hcd:(x==("__classdict__" : Str))=false:=by decide):PE X (.Name x pos) (acI i):=by
 intro pins s σ H Q I h;obtain⟨v,e,h⟩:=h;obtain⟨m,hn,hl⟩:=I.loc;obtain⟨u,r,l⟩:=hl i x v hN e hv;have fin:EP X pins σ Q u s:=⟨v,H,I,r,h⟩;rcases l with ⟨hk,hm⟩ | ⟨hk,c,hc,hcell⟩
 ·exact wpAny_Name (wpAny_loadName_local I.ok.kind hk hn hm fin) hd
 ·rcases hk with hk | hk
  ·exact wpAny_Name (wpAny_loadName_cell I.ok.kind hk hc hcell fin) hd
  ·exact wpAny_Name (wpAny_loadName_free I.ok.kind hk hc hcell fin hcd) hd
theorem zk{i j pos}:PE X (.Constant (.int i) j pos) (tC (.int i)):=λ _ _ _ H _ I h=>wpAny_Constant_int ⟨.int i,H,I.tok _,⟨_,rfl⟩,h⟩
theorem abw{b j pos}:PE X (.Constant (.bool b) j pos) (tC (.bl b)):=λ _ _ _ H _ I h=>Constant_bool ⟨.bl b,H,I,rfl,h⟩
theorem zh{x j pos}:PE X (.Constant (.str x) j pos) (tC (.str x)):=λ _ _ _ H _ I h=>Calls.Constant_str ⟨.str x,H,I.tok _,⟨_,rfl⟩,h⟩
def Gl(X:Cx)(x:Str):Prop:=X.env.kindOf x=some .globalImplicit
theorem rP{E:VP}{pins:PN}{s:Shared}{σ:St}{H:Hp}{x:Str}{u:Value}{pos:Pos}{Q:VP}(I:Inv X pins σ H s)(hg:Gl X x)(hm:X.mg x=some u)(h:Q u s)
  (hd:ND x:=by decide):wpAny (model X.prog X.w) X.A (eval (.Name x pos) X.env) Q E s:=
 Calls.Name_function_global I.ok.kind hg (Calls.loadGlobal_global (by rw[I.ok.glob];exact I.mod.glob.keeps I.bk) hm h) hd
theorem iQ{E:VP}{pins:PN}{s:Shared}{σ:St}{H:Hp}{x:Str}{u:Value}{pos:Pos}{Q:VP}(I:Inv X pins σ H s)(hg:Gl X x)(hm:X.mg x=none)(hv:bootBuiltins x=some u)(h:Q u s)
  (hn:x ≠ "__name__":= by decide)(hd:ND x:=by decide):wpAny (model X.prog X.w) X.A (eval (.Name x pos) X.env) Q E s:=by
 obtain⟨mb,h1,h2⟩:=I.mod.blt;exact Calls.Name_function_global I.ok.kind hg (Calls.loadGlobal_builtin (by rw[I.ok.glob];exact I.mod.glob.keeps I.bk) hm (by rw[I.ok.blt];exact h1.keeps I.bk) ((h2 x hn).trans hv) h) hd
theorem vZ{x:Str}{v:V}{u:Value}{pos:Pos}(hg:Gl X x)(hm:X.mg x=none)(hv:bootBuiltins x=some u)(r:RelV v u)(hn:x ≠ "__name__":= by decide)(hd:ND x:=by decide):PE X (.Name x pos) (tC v):=
 λ _ _ _ H _ I h=>iQ I hg hm hv ⟨v,H,I,r,h⟩ hn hd
variable {a b:Expr}{ta tb:TE}{pos:Pos}
theorem fQ(b:Expr){op:CmpOp}(h:op ≠ .In)(h2:op ≠ .NotIn):behindInMarks op b=false:=by
 have e1:(op==CmpOp.In)=false:=by cases op<;>first | rfl | exact absurd rfl h
 have e2:(op==CmpOp.NotIn)=false:=by cases op<;>first | rfl | exact absurd rfl h2
 cases b<;>simp[behindInMarks,e1,e2]
def tB(t:TE):TT:=λ σ H Q=>t σ H λ x H1=>∃ c,x=.bl c/\Q c H1
theorem yI{e:Expr}{t:TE}(h:PE X e t)(he:∀ whole,isTrue e X.env whole=(do let v <- whole;standAt e.pos;holding [v] (truthy v)):=by intro _;rfl):PT X e (tB t):=by intro pins s σ H Q I hw;refine isTrue_plain (thn (h pins s σ H _ I hw) λ v s1 ⟨x,H1,I1,r1,q1⟩=>?_) (he _);obtain⟨d,rfl,q⟩:=q1;cases r1;exact wpAny_truthy_bool ⟨H1,I1,q⟩
variable {tA tB':TT}{rest:List Expr}
def acZ(t u:TT):TT:=λ σ H Q=>t σ H λ c H1=>if c=true then u σ H1 Q else Q false H1
def adb(t:TT):TT:=λ σ H Q=>t σ H λ c H1=>Q (!c) H1
theorem pw_and1(ha:PT X a tA):PW X (.BoolOp .And [a] pos) tA:=by
 intro wh pins s σ H Q I h;refine isTrue_and (thn (ha pins s σ H Q I h) λ c s1 e=>?_);cases c with
 | true=>exact isTrue_and_nil e
 | false=>exact e
theorem pw_and(ha:PT X a tA)(hb:PW X (.BoolOp .And (b::rest) pos) tB'):PW X (.BoolOp .And (a::b::rest) pos) (acZ tA tB'):=by
 intro wh pins s σ H Q I h;refine isTrue_and (thn (ha pins s σ H _ I h) λ c s1 hq1=>?_);obtain⟨H1,I1,q1⟩:=hq1;cases c with
 | true=>exact hb wh pins s1 σ H1 Q I1 q1
 | false=>exact⟨H1,I1,q1⟩
theorem aaf(ha:PT X a tA):PT X (.UnaryOp .Not a pos) (adb tA):=by intro pins s σ H Q I h;exact isTrue_not (ha pins s σ H (λ c H1=>Q (!c) H1) I h)
def abT(ta tb:TE):TE:=λ σ H Q=>ta σ H λ x H1=>∃ c,x=.bl c/\if c=true then tb σ H1 Q else Q (.bl false) H1
def acj(ta:TE):TE:=λ σ H Q=>ta σ H λ x H1=>∃ c,x=.bl c/\Q (.bl (!c)) H1
theorem zK{op}{t:TE}(h:PE X a t):PE X (.BoolOp op [a] pos) t:=λ pins s σ H Q I hw=>BoolOp_one (h pins s σ H Q I hw)
theorem yX(ha:PE X a ta)(hb:PE X (.BoolOp .And (b::rest) pos) tb):PE X (.BoolOp .And (a::b::rest) pos) (abT ta tb):=by
 intro pins s σ H Q I h;refine BoolOp_and (thn (ha pins s σ H _ I h) λ v s1 hq2=>?_);obtain⟨x,H1,I1,r1,q1⟩:=hq2;obtain⟨c,rfl,q1⟩:=q1;cases r1;refine wpAny_truthy_bool ?_;cases c with
 | true=>exact hb pins s1 σ H1 Q I1 q1
 | false=>exact⟨.bl false,H1,I1,rfl,q1⟩
theorem zB(ha:PE X a ta):PE X (.UnaryOp .Not a pos) (acj ta):=by intro pins s σ H Q I h;refine UnaryOp_ (thn (ha pins s σ H _ I h) λ v s1 hq3=>?_);obtain⟨x,H1,I1,r1,q1⟩:=hq3;obtain⟨c,rfl,q1⟩:=q1;cases r1;exact not_of (wpAny_truthy_bool ⟨.bl (!c),H1,I1,rfl,q1⟩)
end
def SqL(K:FG)(H:Hp)(a:Addr)(xs:List V):Prop:=
 Rd H a (.lst xs) \/
  ∃ (o:Obj) (its:Array Value) (n:Nat),K.lookup a=some o/\o.cls=.type "list" /\ o.dict=none/\o.data=.seq its n/\its.size<=sizeLine/\Vals xs its.toList
def SqT(K:FG)(H:Hp)(a:Addr)(xs:List V):Prop:=
 Rd H a (.tup xs) \/
  ∃ (o:Obj) (its:Array Value) (n:Nat),K.lookup a=some o/\o.cls=.type "tuple" /\ o.dict=none/\o.data=.seq its n/\its.size<=sizeLine/\Vals xs its.toList
def ac6:Value->Option V
 | .none=>some .non
 | .bool b=>some (.bl b)
 | .int i _=>some (.int i)
 | .str x _=>some (.str x)
 | .bytes b _=>some (.byt b)
 | .float b _=>some (.flt b)
 | .ref a=>some (.ref a)
 | .type n=>some (.ty n)
 | _=>none
theorem RelV.abs{x:V}{u:Value}(r:RelV x u):ac6 u=some x:=by
 cases x with
 | non=>cases r;rfl
 | bl _=>cases r;rfl
 | int _=>obtain⟨t,rfl⟩:=r;rfl
 | str _=>obtain⟨t,rfl⟩:=r;rfl
 | byt _=>obtain⟨t,rfl⟩:=r;rfl
 | flt _=>obtain⟨t,rfl⟩:=r;rfl
 | ref _=>cases r;rfl
 | ty _=>cases r;rfl
theorem RelV.inj{x y:V}{u:Value}(r:RelV x u)(q:RelV y u):x=y:=Option.some.inj (r.abs.symm.trans q.abs)
theorem Vals.inj:∀ {xs ys:List V} {us:List Value},Vals xs us->Vals ys us->xs=ys
 | _,_,_,.nil,.nil=>rfl
 | _,_,_,.cons r t,.cons r' t'=>by rw[r.inj r',Vals.inj t t']
section
variable {X:Cx}{pins:PN}{σ:St}{H:Hp}{s:Shared}{a:Addr}{xs ys:List V}
theorem SqL.of{K:FG}(h:H a=some (.lst xs)):SqL K H a xs:=.inl (.inl h)
theorem Inv.list(I:Inv X pins σ H s)(h:SqL X.K H a xs):∃ its:List Value,Vals xs its/\PlainL s.heap a its.toArray/\xs.length<=sizeLine:=by
 rcases h with h | ⟨o,its,n,hk,hc,hd,hs,hz,r⟩
 ·obtain⟨z,its,n,r,e⟩:=h.ok I.hok;exact⟨its,r,⟨_,n,e,rfl,rfl,rfl⟩,z⟩
 ·refine⟨its.toList,r,⟨o,n,I.kIn a o hk,hc,hd,by simpa using hs⟩,?_⟩;have e:=r.length;simp only[Array.length_toList] at e;omega
theorem Inv.acv(I:Inv X pins σ H s)(h:SqT X.K H a xs):∃ its:List Value,Vals xs its/\u9 s.heap a its.toArray/\xs.length<=sizeLine:=by
 rcases h with h | ⟨o,its,n,hk,hc,hd,hs,hz,r⟩
 ·obtain⟨z,its,r,p⟩:=h.ok I.hok;exact⟨its,r,p,z⟩
 ·refine⟨its.toList,r,⟨o,I.kIn a o hk,hc,hd,n,by simpa using hs⟩,?_⟩;have e:=r.length;simp only[Array.length_toList] at e;omega
theorem Inv.tuple(I:Inv X pins σ H s)(h:SqT X.K H a xs):∃ its:List Value,Vals xs its/\IsTup s.heap a its.toArray/\xs.length<=sizeLine:=by obtain⟨its,r,p,z⟩:=I.acv h;exact⟨its,r,p.tup,z⟩
theorem Inv.uc(I:Inv X pins σ H s)(h:SqL X.K H a xs)(h':SqL X.K H a ys):xs=ys:=by
 obtain⟨its,r,⟨o,n,e,_,_,d⟩,_⟩:=I.list h;obtain⟨its',r',⟨o',n',e',_,_,d'⟩,_⟩:=I.list h';rw[e] at e';cases e';rw[d] at d'
 injection d' with d1 _
 have:its=its':=by simpa using congrArg Array.toList d1
 subst this;exact r.inj r'
theorem Inv.qi(I:Inv X pins σ H s)(h:SqT X.K H a xs)(h':SqT X.K H a ys):xs=ys:=by
 obtain⟨its,r,⟨o,e,_,n,d⟩,_⟩:=I.tuple h;obtain⟨its',r',⟨o',e',_,n',d'⟩,_⟩:=I.tuple h';rw[e] at e';cases e';rw[d] at d'
 injection d' with d1 _
 have:its=its':=by simpa using congrArg Array.toList d1
 subst this;exact r.inj r'
end
abbrev Cx.su(X:Cx)(E:VP):Cx:={X with xe:=E}
abbrev Cx.nox(X:Cx):Cx:=X.su λ _ _=>False
theorem Cx.Ok.su{X:Cx}(ok:X.Ok)(E:VP):(X.su E).Ok:=
 ⟨ok.mod,ok.kind,ok.glob,ok.blt,ok.above,ok.inj,ok.has,ok.cab,ok.hd,ok.frames,ok.stk,ok.exf,ok.bs,ok.bsz,ok.noex,ok.exfs,ok.ll,ok.frf⟩
theorem Cx.Ok.fG{X:Cx}{E:VP}(ok:(X.su E).Ok):X.Ok:=
 ⟨ok.mod,ok.kind,ok.glob,ok.blt,ok.above,ok.inj,ok.has,ok.cab,ok.hd,ok.frames,ok.stk,ok.exf,ok.bs,ok.bsz,ok.noex,ok.exfs,ok.ll,ok.frf⟩
section
variable {X:Cx}{pins:PN}{σ:St}{H:Hp}{s:Shared}{E:VP}
theorem Inv.su(I:Inv X pins σ H s)(E:VP):Inv (X.su E) pins σ H s:=⟨I.ok.su E,I.os,I.bare,I.base,I.loc,I.cell,I.free,I.freeC,I.pin,I.hok,I.len⟩
theorem Inv.fG(I:Inv (X.su E) pins σ H s):Inv X pins σ H s:=⟨I.ok.fG,I.os,I.bare,I.base,I.loc,I.cell,I.free,I.freeC,I.pin,I.hok,I.len⟩
theorem SP.fG{D:Ends}{f:Flow}{s':Shared}(h:SP (X.su E) pins D f s'):SP X pins D f s':=by
 cases f with
 | next=>obtain⟨σ',H',I,q⟩:=h;exact⟨σ',H',I.fG,q⟩
 | brk=>obtain⟨σ',H',I,q⟩:=h;exact⟨σ',H',I.fG,q⟩
 | cont=>obtain⟨σ',H',I,q⟩:=h;exact⟨σ',H',I.fG,q⟩
 | ret u=>obtain⟨v,σ',H',I,r,q⟩:=h;exact⟨v,σ',H',I.fG,r,q⟩
theorem PSs.nox{st:List Stmt}{t:TS}(h:PSs X.nox st t):PSs X st t:=λ pins s σ H D I hw =>
 wpAny_mono (h pins s σ H D (I.su _) hw) (λ _ _ q=>q.fG) λ _ _ z=>False.elim z
end
section
variable {X:Cx}{st:Stmt}{rest:List Stmt}{t u:TS}{e:Expr}{te:TE}{pos:Pos}
def abl:TS:=λ D σ H=>D.nx σ H
def adh(t u:TS):TS:=λ D σ H=>t {D with nx:=u D} σ H
theorem wV:PSs X [] abl:=λ _ _ σ H _ I h=>wpAny_execs_nil ⟨σ,H,I,h⟩
theorem tO(h1:PS X st t)(h2:PSs X rest u):PSs X (st::rest) (adh t u):=by
 intro pins s σ H D I h;refine wpAny_execs_cons (thn (h1 pins s σ H {D with nx:=u D} I h) λ f s1 q=>?_);cases f with
 | next =>
  obtain⟨σ',H',I',q⟩:=q;exact h2 pins s1 σ' H' D I' q
 | ret v=>exact q
 | brk=>exact q
 | cont=>exact q
theorem wc(h1:PS X st t):PSs X [st] t:=by
 intro pins s σ H D I h;refine wpAny_execs_cons (thn (h1 pins s σ H D I h) λ f s1 q=>?_);cases f with
 | next=>exact wpAny_execs_nil q
 | ret v=>exact q
 | brk=>exact q
 | cont=>exact q
theorem Inv.quiet{pins:PN}{σ:St}{H:Hp}{s:Shared}(I:Inv X pins σ H s):interactive X.env=false:=by simp[interactive,I.ok.kind]
def abm(te:TE):TS:=λ D σ H=>te σ H λ _ H1=>D.nx σ H1
theorem wm(he:PE X e te)(hs:swapsWith e none pos.line X.env=pure false:=by rfl):PS X (.Expr e pos) (abm te):=by intro pins s σ H D I h;exact wpAny_Expr_any (thn (he pins s σ H _ I h) λ v s1 ⟨x,H1,I1,r1,q1⟩=>⟨σ,H1,I1,q1⟩) I.quiet hs
def acS(te:TE):TS:=λ D σ H=>te σ H D.rt
theorem zN(he:PE X e te):PS X (.Return (some e) pos) (acS te):=by intro pins s σ H D I h;exact wpAny_Return_some (thn (he pins s σ H _ I h) λ v s1 ⟨x,H1,I1,r1,q1⟩=>⟨x,σ,H1,I1,r1,q1⟩)
def acY(c:TT)(t u:TS):TS:=λ D σ H=>c σ H λ b H1=>if b=true then t D σ H1 else u D σ H1
theorem aca{c:Expr}{a b:List Stmt}{tc:TT}(hc:PT X c tc)(ha:PSs X a t)(hb:PSs X b u):PS X (.If c a b pos) (acY tc t u):=by
 intro pins s σ H D I h;refine wpAny_If (thn (hc pins s σ H _ I h) λ d s1 hq4=>?_);obtain⟨H1,I1,q1⟩:=hq4;cases d with
 | true=>exact ha pins s1 σ H1 D I1 q1
 | false=>exact hb pins s1 σ H1 D I1 q1
end
abbrev TG:=V->St->Hp->(St->Hp->Prop)->Prop
abbrev TGs:=List V->St->Hp->(St->Hp->Prop)->Prop
def PG(X:Cx)(target:Expr)(t:TG):Prop:=
 ∀ (pins:PN) (s:Shared) (σ:St) (H:Hp) (v:V) (u:Value) (Q:St->Hp->Prop),Inv X pins σ H s->RelV v u->t v σ H Q ->
  wpAny (model X.prog X.w) X.A (assign target X.env u) (λ _ s'=>∃ σ' H',Inv X pins σ' H' s'/\Q σ' H') X.xe s
def PGs(X:Cx)(ts:List Expr)(t:TGs):Prop:=
 ∀ (pins:PN) (s:Shared) (σ:St) (H:Hp) (vs:List V) (us:List Value) (Q:St->Hp->Prop),Inv X pins σ H s->Vals vs us->t vs σ H Q ->
  wpAny (model X.prog X.w) X.A (assignInOrder ((assignEach ts X.env).map (·.2)) us) (λ _ s'=>∃ σ' H',Inv X pins σ' H' s'/\Q σ' H') X.xe s
abbrev aat:=V->V->V->Hp->(Hp->Prop)->Prop
def abV(X:Cx)(t:aat):Prop:=
 ∀ (pins:PN) (s:Shared) (σ:St) (H:Hp) (o i v:V) (ov iv u:Value) (Q:Hp->Prop),Inv X pins σ H s->RelV o ov->RelV i iv->RelV v u->t o i v H Q ->
  wpAny (model X.prog X.w) X.A (setItem ov iv u) (λ _ s'=>∃ H',Inv X pins σ H' s'/\Q H') X.xe s
abbrev TIp:=V->V->Hp->VK->Prop
def PIp(X:Cx)(op:Operator)(t:TIp):Prop:=
 ∀ (pins:PN) (s:Shared) (σ:St) (H:Hp) (x y:V) (v u:Value) (Q:VK),Inv X pins σ H s->RelV x v->RelV y u->t x y H Q ->
  wpAny (model X.prog X.w) X.A (inplaceOp op v u) (EP X pins σ Q) X.xe s
section
variable {X:Cx}{pos:Pos}
def vC(i:Nat):TG:=λ v σ H Q=>Q (σ.set i (some v)) H
theorem rV{i:Nat}{x:Str}(hN:X.N.Nodup)(hi:X.N[i]? =some x)(hx:Loc X.env.scope x)(hf:X.fn x=true\/X.env.scope.names.lookup x=some .local:=by first | exact .inl rfl | exact .inr rfl | assumption):PG X (.Name x pos) (vC i):=by intro pins s σ H v u Q I r h;exact wpAny_assign_Name (eI I hN hi hx r (λ s' I'=>⟨_,H,I',h⟩) hf)
def acT:TGs:=λ vs σ H Q=>vs=[]/\Q σ H
def ab7(t:TG)(u:TGs):TGs:=λ vs σ H Q=>∃ v r,vs=v::r/\t v σ H λ σ' H'=>u r σ' H' Q
theorem wY:PGs X [] acT:=by intro pins s σ H vs us Q I r h;obtain⟨e,h⟩:=h;subst e;cases r;exact assignInOrder_nil ⟨σ,H,I,h⟩
theorem tR{e:Expr}{es:List Expr}{t:TG}{u:TGs}(h1:PG X e t)(h2:PGs X es u)
  (hs:(assignEach (e::es) X.env).map (·.2)=assign e X.env::(assignEach es X.env).map (·.2):=by rfl):PGs X (e::es) (ab7 t u):=by
 intro pins s σ H vs us Q I r h;obtain⟨v,vr,e1,h⟩:=h;subst e1;cases r with
 | cons r rr =>
  rw[hs];refine assignInOrder_cons (thn (h1 pins s σ H _ _ _ I r h) λ _ s1 hq5=>?_);obtain⟨σ1,H1,I1,q1⟩:=hq5;exact h2 pins s1 σ1 H1 _ _ Q I1 rr q1
def adm(K:FG)(n:Nat)(t:TGs):TG:=λ v σ H Q=>∃ a xs,v=.ref a/\SqT K H a xs/\xs.length=n/\t xs σ H Q
theorem zv{es:List Expr}{k:Nat}{t:TGs}{n:Nat}(hc:X.calm=true)(h:PGs X es t)
  (hn:(assignEach es X.env).length=n:=by rfl)(hst:(assignEach es X.env).findIdx? (·.1)=none:=by rfl):PG X (.Tuple es k pos) (adm X.K n t):=by
 intro pins s σ H v u Q I r hw;obtain⟨a,xs,e1,hq,hl,hw⟩:=hw;subst e1;cases r;obtain⟨its,rv,ht,hz⟩:=I.tuple hq;refine assign_Tuple_tuple (I.ok.hd hc) ht (by simp[hn,<- hl,rv.length]) hst λ h' hx=>?_;have I1:Inv X pins σ H {s with heap:=h'}:=I.kept (t':=s.toks) λ b o e=>hx b o (Nat.ne_of_lt (Heap.lt_size e)) e;exact h pins _ σ H xs _ Q I1 (by simpa using rv) hw
def adj(to ti:TE)(t:aat):TG:=λ v σ H Q=>to σ H λ o H1=>ti σ H1 λ i H2=>t o i v H2 λ H3=>Q σ H3
theorem aaH{o i:Expr}{to ti:TE}{t:aat}(ho:PE X o to)(hi:PE X i ti)(hs:abV X t)
  (ha:∀ v,assign (.Subscript o i pos) X.env v=(do
   let ov <- holding [v] (eval o X.env)
   let iv <- holding [v,ov] (eval i X.env)
   standAt pos
   holding [v,ov,iv] (setItem ov iv v)
   release [v,ov,iv] []):=by intro _;rfl):PG X (.Subscript o i pos) (adj to ti t):=by
 intro pins s σ H v u Q I r h;rw[ha];refine wpAny_bind (wpAny_holding (thn (ho pins s σ H _ I h) λ ov s1 hq6=>?_));obtain⟨x,H1,I1,r1,q1⟩:=hq6;refine wpAny_bind (wpAny_holding (thn (hi pins s1 σ H1 _ I1 q1) λ iv s2 hq7=>?_));obtain⟨y,H2,I2,r2,q2⟩:=hq7;refine wpAny_bind (wpAny_standAt (wpAny_bind (wpAny_holding (thn (hs pins s2 σ H2 x y v ov iv u _ I2 r1 r2 r q2) λ _ s3 hq8=>?_))));obtain⟨H3,I3,q3⟩:=hq8;exact wpAny_release ⟨σ,H3,I3,q3⟩
def aa1(te:TE)(g:TG):TS:=λ D σ H=>te σ H λ x H1=>g x σ H1 D.nx
theorem yO{tg e:Expr}{te:TE}{g:TG}(he:PE X e te)(hg:PG X tg g)(hs:swapsWithSole [tg] e pos.line X.env=pure false:=by rfl)(hw:swappedStores [tg] e X.env=pure none:=by rfl)
  (h1:(assignEach [tg] X.env).map (·.2)=[assign tg X.env]:=by rfl):PS X (.Assign [tg] e pos) (aa1 te g):=by
 intro pins s σ H D I h;refine wpAny_Assign_stores (thn (he pins s σ H _ I h) λ v s1 ⟨x,H1,I1,r1,q1⟩=>?_) hs hw;rw[h1];exact thn (hg pins s1 σ H1 x v _ I1 r1 q1) λ _ s2 q=>q
theorem zD{i:Nat}{x:Str}{e:Expr}{te:TE}{pos':Pos}(hN:X.N.Nodup)(hi:X.N[i]? =some x)(hx:Loc X.env.scope x)(he:PE X e te)(hs:swapsWith e (some (.Name x pos')) pos.line X.env=pure false:=by rfl)(hf:X.fn x=true\/X.env.scope.names.lookup x=some .local:=by first | exact .inl rfl | exact .inr rfl | assumption) :
  PS X (.Assign [.Name x pos'] e pos) (aa1 te (vC i)):=by
 intro pins s σ H D I h;refine wpAny_Assign_Name (thn (he pins s σ H _ I h) λ v s1 ⟨y,H1,I1,r1,q1⟩=>?_) hs;exact eI I1 hN hi hx r1 (λ s2 I2=>⟨_,H1,I2,q1⟩) hf
def abc(to ti te:TE)(il:V->V->Hp->VK->Prop)(tip:TIp)(tset:aat):TS:=λ D σ H=>to σ H λ o H1=>ti σ H1 λ i H2=>il o i H2 λ x H3=>te σ H3 λ y H4=>tip x y H4 λ z H5=>tset o i z H5 λ H6=>D.nx σ H6
def acx(X:Cx)(t:V->V->Hp->VK->Prop):Prop:=
 ∀ (pins:PN) (s:Shared) (σ:St) (H:Hp) (o i:V) (ov iv:Value) (Q:VK),Inv X pins σ H s->RelV o ov->RelV i iv->t o i H Q ->
  wpAny (model X.prog X.w) X.A (getItem ov iv) (EP X pins σ Q) X.xe s
theorem xM{o i e:Expr}{to ti te:TE}{il:V->V->Hp->VK->Prop}{tip:TIp}{tset:aat}{op:Operator}{tpos:Pos}(ho:PE X o to)(hi:PE X i ti)(hg:acx X il)(he:PE X e te)(hp:PIp X op tip)(hs:abV X tset)
  (ha:∀ ov iv new,augStore i ov iv new=(do holding [new,ov,iv] (setItem ov iv new);release [new,ov,iv] [];pure .next):=by intros;rfl):PS X (.AugAssign (.Subscript o i tpos) op e pos) (abc to ti te il tip tset):=by
 intro pins s σ H D I h;refine wpAny_AugAssign_SubscriptAny (thn (ho pins s σ H _ I h) λ ov s1 ⟨x1,H1,I1,r1,q1⟩=>?_) ha;refine thn (hi pins s1 σ H1 _ I1 q1) λ iv s2 hq9=>?_;obtain⟨x2,H2,I2,r2,q2⟩:=hq9;refine thn (hg pins s2 σ H2 x1 x2 ov iv _ I2 r1 r2 q2) λ old s3 hq10=>?_;obtain⟨x3,H3,I3,r3,q3⟩:=hq10;refine thn (he pins s3 σ H3 _ I3 q3) λ v s4 hq11=>?_;obtain⟨x4,H4,I4,r4,q4⟩:=hq11;refine thn (hp pins s4 σ H4 x3 x4 old v _ I4 r3 r4 q4) λ new s5 hq12=>?_;obtain⟨x5,H5,I5,r5,q5⟩:=hq12;exact thn (hs pins s5 σ H5 x1 x2 x5 ov iv new _ I5 r1 r2 r5 q5) λ _ s6 ⟨H6,I6,q6⟩=>⟨σ,H6,I6,q6⟩
def ipI(f:Int->Int->Int):TIp:=λ x y H Q=>∃ i j,x=.int i/\y=.int j/\Q (.int (f i j)) H
theorem zQ:PIp X .Add (ipI λ i j=>i+j):=by intro pins s σ H x y v u Q I r1 r2 h;obtain⟨i,j,e1,e2,q⟩:=h;subst e1;subst e2;obtain⟨t,rfl⟩:=r1;obtain⟨t',rfl⟩:=r2;exact iadd_int ⟨.int _,H,I.tok _,⟨_,rfl⟩,q⟩
end
section
variable {X:Cx}{pos:Pos}
def zC(c:TT)(tb:TS):TS:=λ D σ H=>∃ W:Nat->St->Hp->Prop,(∃ m,W m σ H)/\∀ m σ H,W m σ H ->
 c σ H λ b H1=>if b=true then ∃ N:St->Hp->Prop,(∀ σ' H',N σ' H'->∃ m',m'<m/\W m' σ' H')/\tb {D with nx:=N,ct:=N,bk:=D.nx} σ H1 else D.nx σ H1
theorem sJ{c:Expr}{body:List Stmt}{tc:TT}{tb:TS}(hp:PassesOwn (model X.prog X.w) X.A X.env X.xe)(hc:PT X c tc)(hb:PSs X body tb):PS X (.While c body [] pos) (zC tc tb):=by
 intro pins s σ H D I h;obtain⟨W,⟨m0,w0⟩,turn⟩:=h;refine wpAny_While (codeAny_whileLoop (λ n s'=>∃ σ' H',Inv X pins σ' H' s'/\W n σ' H') ?_ m0 ⟨σ,H,I,w0⟩);rintro n s1 ⟨σ1,H1,I1,w1⟩;refine wpAny_passesOwn hp (thn (hc pins s1 σ1 H1 _ I1 (turn n σ1 H1 w1)) λ b s2 hq13=>?_);obtain⟨H2,I2,q2⟩:=hq13;cases b with
 | true =>
  obtain⟨N,hN,q2⟩:=q2;rw[if_pos rfl];refine wpAny_passesOwn hp (thn (hb pins s2 σ1 H2 _ I2 q2) λ f s3 q3=>?_);cases f with
  | next =>
   obtain⟨σ3,H3,I3,n3⟩:=q3;obtain⟨m',hm,w3⟩:=hN σ3 H3 n3;exact⟨m',hm,σ3,H3,I3,w3⟩
  | cont =>
   obtain⟨σ3,H3,I3,n3⟩:=q3;obtain⟨m',hm,w3⟩:=hN σ3 H3 n3;exact⟨m',hm,σ3,H3,I3,w3⟩
  | brk=>exact q3
  | ret v=>exact q3
 | false =>
  rw[if_neg Bool.false_ne_true];exact wpAny_execs_nil ⟨σ1,H2,I2,q2⟩
end
structure It where
 go:Nat->Hp->Prop
 yld:Nat->Hp->V->Hp->Prop
 stop:Nat->Hp->Prop
def fU(X:Cx)(pins:PN)(H:Hp)(b:Addr):Prop:=
 H b=none/\b≠X.env.locals/\b ∉ X.fs/\(b∈X.ex\/X.s₀.heap.objs.size<=b)/\(∀ x c,X.env.cells.lookup x=some c->c≠b)/\∀ p∈X.pn++pins,p.1≠b
theorem Inv.rZ{X:Cx}{pins:PN}{σ:St}{H H':Hp}{s:Shared}{b:Addr}(I:Inv X pins σ H s)(hb:s.heap.objs.size<=b)(hn:H' b=none):fU X pins H' b:=by
 refine⟨hn,Nat.ne_of_gt (Nat.lt_of_lt_of_le I.lt hb),I.acJ hb,.inr (Nat.le_trans I.sz hb),λ x c e z=>?_,λ p hp z=>?_⟩
 ·obtain⟨v,q⟩:=I.cell x c e;exact absurd (Nat.lt_of_lt_of_le q.lt (by rw[z];exact hb)) (Nat.lt_irrefl _)
 ·exact absurd (Nat.lt_of_lt_of_le (Heap.lt_size (I.pin p hp).1) (by rw[z];exact hb)) (Nat.lt_irrefl _)
structure Turn(P:Program)(w:World)(K:FG)(tg:Expr)(J:It)(fp:List Addr)(it:Addr)(tn:Nat->Heap->Prop):Prop where
 mem:it∈fp
 obj:∀ i h,tn i h->∀ b∈fp,∃ o,h.get? b=some o/\∀ v,o.data ≠ .cell v
 keep:∀ i h h',tn i h->(∀ b∈fp,∀ o,h.get? b=some o->h'.get? b=some o)->tn i h'
 item:∀ (X:Cx),X.prog=P->X.w=w->X.K=K->X.calm=true->∀ (i:Nat) (pins:PN) (s:Shared) (σ:St) (H:Hp) (E:VP),Inv X pins σ H s->(∀ b∈fp,fU X pins H b)->tn i s.heap->J.go i H ->
  wpAny (model P w) X.A (pyNext (.ref it)) (λ r s1=>∃ u,r=some u /\
   wpAny (model P w) X.A (letOwnedTupleGo tg (.ref it) u) (λ _ s2=>∃ x H',Inv X pins σ H' s2/\RelV x u/\J.yld i H x H'/\tn (i+1) s2.heap/\∀ b∈fp,H' b=none) E s1) E s
 done:∀ (X:Cx),X.prog=P->X.w=w->X.K=K->X.calm=true->∀ (i:Nat) (pins:PN) (s:Shared) (σ:St) (H:Hp) (E:VP),Inv X pins σ H s->(∀ b∈fp,fU X pins H b)->tn i s.heap->J.stop i H ->
  wpAny (model P w) X.A (pyNext (.ref it)) (λ r s1=>r=none/\Inv X pins σ H s1) E s
 self:∀ (A:Around) (i:Nat) (s:Shared) (Q:VP) (E:VP),tn i s.heap->Q (.ref it) s->wpAny (model P w) A (pyIter (.ref it)) Q E s
abbrev TI:=St->Hp->(It->Hp->Prop)->Prop
def PIE(X:Cx)(pins:PN)(σ:St)(tg:Expr)(R:It->Hp->Prop)(itv:Value)(s2:Shared):Prop:=
 ∃ (it:Addr) (fp:List Addr) (tn:Nat->Heap->Prop) (J:It) (H':Hp),itv=.ref it/\Inv X pins σ H' s2/\Turn X.prog X.w X.K tg J fp it tn/\tn 0 s2.heap/\(∀ b∈fp,fU X pins H' b)/\R J H'
def PI(X:Cx)(tg iter:Expr)(wi:TI):Prop:=
 ∀ (pins:PN) (s:Shared) (σ:St) (H:Hp) (R:It->Hp->Prop),Inv X pins σ H s->wi σ H R ->
  wpAny (model X.prog X.w) X.A (eval iter X.env) (λ v s1=>wpAny (model X.prog X.w) X.A (pyIter v) (PIE X pins σ tg R) X.xe s1) X.xe s
theorem rX{M:Model}{A:Around}{E:VP}{s:Shared}{tg:Expr}{it:Addr}{u:Value}{o:Obj}{n:String}{vs:Array Value}{Q:Unit->Shared->Prop}(ho:s.heap.get? it=some o)(hc:o.cls=.type n)(hd:o.data=.fields vs)
  (hn:["enumerate", "zip", "dict_itemiterator", "dict_reverseitemiterator", "odict_iterator", "itertools.zip_longest", "itertools.pairwise"].contains n=false)(hQ:Q () s):wpAny M A (letOwnedTupleGo tg (.ref it) u) Q E s:=by
 unfold letOwnedTupleGo;cases tg<;>first
  | exact wpAny_pure hQ
  | (cases u<;>first
    | exact wpAny_pure hQ
    | (refine wpAny_bind (wpAny_load ho ?_)
       rw[hc,hd];show wpAny M A (if (["enumerate", "zip", "dict_itemiterator", "dict_reverseitemiterator", "odict_iterator", "itertools.zip_longest", "itertools.pairwise"].contains n&&vs[0]? == some (rawInt _))=true then _ else _) Q E s;rw[if_neg (by intro h;rw[hn,Bool.false_and] at h;cases h)];exact wpAny_pure hQ))
def Itl(K:FG)(a:Addr):It:=
 ⟨λ i H=>∃ xs x,SqL K H a xs/\xs[i]? =some x,λ i H x H'=>H'=H/\∀ xs,SqL K H a xs->xs[i]? =some x,λ i H=>∃ xs,SqL K H a xs/\xs.length<=i⟩
def Itt(K:FG)(a:Addr):It:=
 ⟨λ i H=>∃ xs x,SqT K H a xs/\xs[i]? =some x,λ i H x H'=>H'=H/\∀ xs,SqT K H a xs->xs[i]? =some x,λ i H=>∃ xs,SqT K H a xs/\xs.length<=i⟩
def Itr(lo:Int)(n:Nat):It:=⟨λ i _=>i<n,λ i H x H'=>H'=H/\x=.int (lo+i),λ i _=>n<=i⟩
theorem pO{P:Program}{w:World}{K:FG}{tg:Expr}(a it:Addr):Turn P w K tg (Itl K a) [it] it (λ i h=>h.IsListIter it a i) where
 mem:=by simp
 obj:=λ i h st b hb=>by
  have e:b=it:=by simpa using hb
  subst e;obtain⟨o,e,c,d⟩:=st;exact⟨o,e,λ v z=>by rw[d] at z;cases z⟩
 keep:=λ i h h' st k=>st.at λ o e=>k it (by simp) o e
 item:=by intro X hP hw hK hc i pins s σ H E I hf st hg;subst hP hw hK;obtain⟨xs,x,hq,hx⟩:=hg;obtain⟨its,rv,p,hz⟩:=I.list hq;obtain⟨u,hu,ru⟩:=rv.get hx;obtain⟨f0,f1,f2,f3,f4,f5⟩:=hf it (by simp);refine wpAny_pyNext_list_item st p.isList (x:=u) (by simpa using hu) λ h' st' sb=>?_;have I1:Inv X pins σ H {s with heap:=h'}:=I.turned (t':=s.toks) (λ b o hb e=>(sb.2 b hb).trans e) f0 f1 f3 f4 f5;obtain⟨o,e,c,d⟩:=id st';exact⟨u,rfl,rX (s:={s with heap:=h'}) e c d (by decide) ⟨x,H,I1,ru,⟨rfl,λ ys hy=>by rw[I.uc hy hq];exact hx⟩,st',λ b hb=>(hf b hb).1⟩⟩
 done:=by intro X hP hw hK hc i pins s σ H E I hf st hg;subst hP hw hK;obtain⟨xs,hq,hx⟩:=hg;obtain⟨its,rv,p,hz⟩:=I.list hq;obtain⟨f0,f1,f2,f3,f4,f5⟩:=hf it (by simp);have hl:=rv.length;exact wpAny_pyNext_list_end (I.ok.hd hc) st p.isList (by simp;omega) λ h' eb=>⟨rfl,I.turned (t':=s.toks) (λ b o hb e=>eb b o hb e) f0 f1 f3 f4 f5⟩
 self:=λ _ _ _ _ _ st h=>wpAny_pyIter_listiter st h
theorem nP{P:Program}{w:World}{K:FG}{tg:Expr}(a it:Addr):Turn P w K tg (Itt K a) [it] it (λ i h=>h.IsTupleIter it a i) where
 mem:=by simp
 obj:=λ i h st b hb=>by
  have e:b=it:=by simpa using hb
  subst e;obtain⟨o,e,c,d⟩:=st;exact⟨o,e,λ v z=>by rw[d] at z;cases z⟩
 keep:=λ i h h' st k=>st.at λ o e=>k it (by simp) o e
 item:=by intro X hP hw hK hc i pins s σ H E I hf st hg;subst hP hw hK;obtain⟨xs,x,hq,hx⟩:=hg;obtain⟨its,rv,p,hz⟩:=I.tuple hq;obtain⟨u,hu,ru⟩:=rv.get hx;obtain⟨f0,f1,f2,f3,f4,f5⟩:=hf it (by simp);refine wpAny_pyNext_tuple_item st (show s.heap.IsTuple a its.toArray from p) (x:=u) (by simpa using hu) λ h' st' sb=>?_;have I1:Inv X pins σ H {s with heap:=h'}:=I.turned (t':=s.toks) (λ b o hb e=>(sb.2 b hb).trans e) f0 f1 f3 f4 f5;obtain⟨o,e,c,d⟩:=id st';exact⟨u,rfl,rX (s:={s with heap:=h'}) e c d (by decide) ⟨x,H,I1,ru,⟨rfl,λ ys hy=>by rw[I.qi hy hq];exact hx⟩,st',λ b hb=>(hf b hb).1⟩⟩
 done:=by intro X hP hw hK hc i pins s σ H E I hf st hg;subst hP hw hK;obtain⟨xs,hq,hx⟩:=hg;obtain⟨its,rv,p,hz⟩:=I.tuple hq;obtain⟨f0,f1,f2,f3,f4,f5⟩:=hf it (by simp);have hl:=rv.length;exact wpAny_pyNext_tuple_end (I.ok.hd hc) st (show s.heap.IsTuple a its.toArray from p) (by simp;omega) λ h' eb=>⟨rfl,I.turned (t':=s.toks) (λ b o hb e=>eb b o hb e) f0 f1 f3 f4 f5⟩
 self:=λ _ _ _ _ _ st h=>wpAny_pyIter_tupleiter st h
theorem nM{P:Program}{w:World}{K:FG}{tg:Expr}(it:Addr)(lo:Int)(n:Nat):Turn P w K tg (Itr lo n) [it] it (λ i h=>IsRangeIter h it (lo+(i:Nat) * 1) ((n:Int)-(i:Nat)) 1) where
 mem:=by simp
 obj:=λ i h st b hb=>by
  have e:b=it:=by simpa using hb
  subst e;exact⟨_,st,λ v z=>by have z':Data.fields _=Data.cell v:=z;cases z'⟩
 keep:=λ i h h' st k=>k it (by simp) _ st
 item:=by intro X hP hw hK hc i pins s σ H E I hf st hg;subst hP hw hK;obtain⟨f0,f1,f2,f3,f4,f5⟩:=hf it (by simp);have W:=Walks.range (prog:=X.prog) (w:=X.w) (I.ok.hd hc) it lo 1 n;refine W.item i s _ _ hg st λ v h' tk hv st' kk=>?_;obtain⟨t,rfl⟩:=hv;have I1:Inv X pins σ H {s with heap:=h',toks:=tk}:=I.turned (λ b o hb e=>kk b o (by simpa using hb) e) f0 f1 f3 f4 f5;refine⟨_,rfl,rX (s:={s with heap:=h',toks:=tk}) (n:= "range_iterator") st' rfl rfl (by decide) ⟨.int (lo+i),H,I1,⟨t,?_⟩,⟨rfl,rfl⟩,st',λ b hb=>(hf b hb).1⟩⟩;rw[Int.mul_one]
 done:=by intro X hP hw hK hc i pins s σ H E I hf st hg;subst hP hw hK;obtain⟨f0,f1,f2,f3,f4,f5⟩:=hf it (by simp);exact wpAny_pyNext_range_end (I.ok.hd hc) st (by have:n<=i:=hg;omega) λ h' eb=>⟨rfl,I.turned (t':=s.toks) (λ b o hb e=>eb b o hb e) f0 f1 f3 f4 f5⟩
 self:=λ _ _ _ _ _ st h=>wpAny_pyIter_rangeiter st h
section
variable {X:Cx}{tg:Expr}
theorem mK{pins:PN}{σ:St}{H:Hp}{s:Shared}{R:It->Hp->Prop}{E:VP}{lo hi:Int}{t u v:Tok}{tk:Nat}(I:Inv X pins σ H s)(h1:-(2 ^ 62)<=lo)(h2:lo<2 ^ 62)(h3:-(2 ^ 62)<=hi)(h4:hi<2 ^ 62)
  (q:R (Itr lo (hi-lo).toNat) H):wpAny (model X.prog X.w) X.A (pyIter (.ref s.heap.objs.size)) (PIE X pins σ tg R) E {s with heap:=s.heap.push {cls:=.type "range",data:=.fields #[.int lo t,.int hi u,.int 1 v]},toks:=tk}:=by
 refine wpAny_pyIter_range (IsRange.new ..) (small_one h1 h2 h3 h4) ?_;have I1:Inv X pins σ H {s with heap:=s.heap.push {cls:=.type "range",data:=.fields #[.int lo t,.int hi u,.int 1 v]},toks:=tk}:=I.kept λ b o e=>Heap.get?_push_of_some _ e;refine⟨(s.heap.push {cls:=.type "range",data:=.fields #[.int lo t,.int hi u,.int 1 v]}).objs.size,[(s.heap.push {cls:=.type "range",data:=.fields #[.int lo t,.int hi u,.int 1 v]}).objs.size],_,_,H,rfl,
  I1.kept (t':=tk) λ b o e=>Heap.get?_push_of_some _ e,nM _ lo (hi-lo).toNat,?_,λ b hb=>?_,q⟩
 ·have e1:lo+((0:Nat):Int) * 1=lo:=by simp
  have e2:(((hi-lo).toNat:Nat):Int)-((0:Nat):Int)=Builtin.Range.rangeSize lo hi 1:=by rw[rangeSize_one];split<;>omega
  show IsRangeIter _ _ (lo+((0:Nat):Int) * 1) ((((hi-lo).toNat:Nat):Int)-((0:Nat):Int)) 1;rw[e1,e2];exact Heap.get?_push_size _ rfl
 ·have e:b=(s.heap.push {cls:=.type "range",data:=.fields #[.int lo t,.int hi u,.int 1 v]}).objs.size:=by simpa using hb
  subst e;exact I1.rZ (Nat.le_refl _) (I1.hok.fresh (Nat.le_refl _))
def ack(ta:TA):TI:=λ σ H R=>ta σ H λ vs H1=>∃ j:Int,vs=[.int j]/\-(2 ^ 62)<=j/\j<2 ^ 62/\R (Itr 0 j.toNat) H1
def aco(ta:TA):TI:=λ σ H R=>ta σ H λ vs H1=>∃ i j:Int,vs=[.int i,.int j]/\(-(2 ^ 62)<=i/\i<2 ^ 62/\-(2 ^ 62)<=j/\j<2 ^ 62)/\R (Itr i (j-i).toNat) H1
theorem pH{a:Expr}{ta:TA}{p pos:Pos}(hg:Gl X "range")(hm:X.mg "range" = none)(ha:PA X [a] ta)(hs:starEach [a] X.env=[(false,eval a X.env)]:=by rfl):PI X tg (.Call (.Name "range" p) [a] [] pos) (ack ta):=by
 intro pins s σ H R I h;refine Call_ (iQ I hg hm boot_range (PyProof.Rows.callWith_type1 (thn (ha pos pins s σ H _ I h) λ us s1 ⟨vs,H1,I1,r1,q1⟩=>?_) hs rfl));obtain⟨j,e,q1,q2,q⟩:=q1;subst e;cases r1 with
 | cons r rr =>
  cases rr;obtain⟨t,rfl⟩:=r;exact call_range_1 (mK I1 (by omega) (by omega) q1 q2 (by simpa using q))
theorem oT{a b:Expr}{ta:TA}{p pos:Pos}(hg:Gl X "range")(hm:X.mg "range" = none)(ha:PA X [a,b] ta)(hs:starEach [a,b] X.env=[(false,eval a X.env),(false,eval b X.env)]:=by rfl)(hs2:starEach [b] X.env=[(false,eval b X.env)]:=by rfl) :
  PI X tg (.Call (.Name "range" p) [a,b] [] pos) (aco ta):=by
 intro pins s σ H R I h;refine Call_ (iQ I hg hm boot_range (PyProof.Rows.callWith_type1 (thn (ha pos pins s σ H _ I h) λ us s1 ⟨vs,H1,I1,r1,q1⟩=>?_) (by rw[hs,hs2]) (by rw[hs2];rfl)));obtain⟨i,j,e,⟨q1,q2,q3,q4⟩,q⟩:=q1;subst e;cases r1 with
 | cons r rr =>
  cases rr with
  | cons r' rr =>
   cases rr;obtain⟨t,rfl⟩:=r;obtain⟨t',rfl⟩:=r';exact call_range_2 (mK I1 q1 q2 q3 q4 q)
def ade(wi:TI)(g:TG)(tb:TS):TS:=λ D σ H=>wi σ H λ J H1=>∃ W:Nat->Nat->St->Hp->Prop,(∃ m,W 0 m σ H1)/\∀ i m σ H,W i m σ H ->
 (J.stop i H/\D.nx σ H)\/(J.go i H/\∃ N:St->Hp->Prop,(∀ σ' H',N σ' H'->∃ m',m'<m/\W (i+1) m' σ' H')/\∀ x H',J.yld i H x H'->g x σ H' λ σ2 H2=>tb {D with nx:=N,ct:=N,bk:=D.nx} σ2 H2)
def gU(fp:List Addr)(h:Heap):PN:=fp.filterMap λ b=>(h.get? b).map λ o=>(b,o)
theorem cv{fp:List Addr}{h:Heap}{b:Addr}{o:Obj}(hb:b∈fp)(e:h.get? b=some o):(b,o)∈gU fp h:=List.mem_filterMap.mpr ⟨b,hb,by rw[e];rfl⟩
theorem qJ{fp:List Addr}{h:Heap}{p:Addr×Obj}(hp:p∈gU fp h):p.1∈fp/\h.get? p.1=some p.2:=by
 obtain⟨b,hb,e⟩:=List.mem_filterMap.mp hp;cases q:h.get? b with
 | none=>rw[q] at e;cases e
 | some o =>
  rw[q] at e;have e':(b,o)=p:=Option.some.inj e;subst e';exact⟨hb,q⟩
theorem Inv.pinned{pins:PN}{σ:St}{H:Hp}{s:Shared}{fp:List Addr}(I:Inv X pins σ H s)(hf:∀ b∈fp,fU X pins H b)(ho:∀ b∈fp,∃ o,s.heap.get? b=some o/\∀ v,o.data ≠ .cell v):Inv X (pins++gU fp s.heap) σ H s:=
 I.cQ λ p hp=>(List.mem_append.mp hp).elim (λ z=>I.pin p (List.mem_append_right _ z)) λ z=>by obtain⟨hb,e⟩:=qJ z;obtain⟨f0,f1,f2,_⟩:=hf p.1 hb;obtain⟨o,e',d⟩:=ho p.1 hb;rw[e] at e';cases e';exact⟨e,f0,f1,f2,d⟩
theorem Inv.fO{pins pl:PN}{σ:St}{H:Hp}{s:Shared}(I:Inv X (pins++pl) σ H s):Inv X pins σ H s:=I.cQ λ p hp=>I.pin p (List.mem_append_right _ (List.mem_append_left _ hp))
theorem aaU{iter:Expr}{body:List Stmt}{wi:TI}{g:TG}{tb:TS}{pos:Pos}(hp:PassesOwn (model X.prog X.w) X.A X.env X.xe)(hc:X.calm=true)(hi:PI X tg iter wi)(hg:PG X tg g)(hb:PSs X body tb)
  (hs:∀ x,foldedSetIterable iter X.env x=pure x:=by intro _;rfl):PS X (.For tg iter body [] pos) (ade wi g tb):=by
 intro pins s σ H D I h;refine wpAny_For (thn (hi pins s σ H _ I h) λ v s1 h1=>thn h1 λ itv s2 h2=>?_) hs;obtain⟨it,fp,tn,J,H2,e,I2,T,st2,f2,W,⟨m0,w0⟩,turn⟩:=h2;subst e;have stat:∀ {H':Hp},(∀ b∈fp,H' b=none)->∀ b∈fp,fU X pins H' b:=λ hn b hb=>⟨hn b hb,(f2 b hb).2⟩;refine codeAny_forLoop_any (λ n s'=>∃ i σ' H',Inv X pins σ' H' s'/\tn i s'.heap/\(∀ b∈fp,H' b=none)/\W i n σ' H') ?_ m0 ⟨0,σ,H2,I2,st2,λ b hb=>(f2 b hb).1,w0⟩;rintro n s3 ⟨i,σ3,H3,I3,st3,fr3,w3⟩;rcases turn i n σ3 H3 w3 with ⟨stop,qn⟩ | ⟨go,N,hN,step⟩
 ·refine wpAny_passesOwn hp (thn (T.done X rfl rfl rfl hc i pins s3 σ3 H3 X.xe I3 (stat fr3) st3 stop) λ r s4 ⟨hr,I4⟩=>?_);subst hr;exact wpAny_execs_nil ⟨σ3,H3,I4,qn⟩
 ·refine wpAny_passesOwn hp (thn (T.item X rfl rfl rfl hc i pins s3 σ3 H3 X.xe I3 (stat fr3) st3 go) λ r s4 ⟨u,hr,h4⟩=>?_);subst hr;refine wpAny_passesOwn hp (thn h4 λ _ s5 hq14=>?_);obtain⟨x,H5,I5,r5,y5,st5,fr5⟩:=hq14;have I5':=I5.pinned (stat fr5) (T.obj _ _ st5);refine wpAny_passesOwn hp (thn (hg _ s5 σ3 H5 x u _ I5' r5 (step x H5 y5)) λ _ s6 hq15=>?_);obtain⟨σ6,H6,I6,q6⟩:=hq15;refine wpAny_passesOwn hp (thn (hb _ s6 σ6 H6 _ I6 q6) λ f s7 q7=>?_);have again:∀ {σ7:St} {H7:Hp},Inv X (pins++gU fp s5.heap) σ7 H7 s7->N σ7 H7->∃ m,m<n/\∃ i σ' H',Inv X pins σ' H' s7/\tn i s7.heap/\(∀ b∈fp,H' b=none)/\W i m σ' H':=λ {σ7 H7} I7 n7=>by obtain⟨m',hm,w7⟩:=hN σ7 H7 n7;refine⟨m',hm,i+1,σ7,H7,I7.fO,T.keep _ _ _ st5 λ b hb o e=>(I7.pin (b,o) (List.mem_append_right _ (List.mem_append_right _ (cv hb e)))).1,λ b hb=>?_,w7⟩;obtain⟨o,e,d⟩:=T.obj _ _ st5 b hb;exact(I7.pin (b,o) (List.mem_append_right _ (List.mem_append_right _ (cv hb e)))).2.1
  cases f with
  | next=>obtain⟨σ7,H7,I7,n7⟩:=q7;exact again I7 n7
  | cont=>obtain⟨σ7,H7,I7,n7⟩:=q7;exact again I7 n7
  | brk=>obtain⟨σ7,H7,I7,q7⟩:=q7;exact⟨σ7,H7,I7.fO,q7⟩
  | ret v=>obtain⟨x7,σ7,H7,I7,r7,q7⟩:=q7;exact⟨x7,σ7,H7,I7.fO,r7,q7⟩
end
abbrev R2:=V->V->Hp->VK->Prop
def OpR(X:Cx)(f:Value->Value->Sem Value)(r:R2):Prop:=
 ∀ (pins:PN) (s:Shared) (σ:St) (H:Hp) (x y:V) (v u:Value) (Q:VK),Inv X pins σ H s->RelV x v->RelV y u->r x y H Q ->
  wpAny (model X.prog X.w) X.A (f v u) (EP X pins σ Q) X.xe s
def eA(X:Cx)(f:Value)(r:List V->Hp->VK->Prop):Prop:=
 ∀ (pins:PN) (s:Shared) (σ:St) (H:Hp) (xs:List V) (us:List Value) (Q:VK),Inv X pins σ H s->Vals xs us->r xs H Q ->
  wpAny (model X.prog X.w) X.A (call f us) (EP X pins σ Q) X.xe s
def tOp(r:R2)(ta tb:TE):TE:=λ σ H Q=>ta σ H λ x H1=>tb σ H1 λ y H2=>r x y H2 Q
def rI(C:Int->Int->Prop)(g:Int->Int->V):R2:=λ x y H Q=>∃ i j,x=.int i/\y=.int j/\C i j/\Q (g i j) H
def rI0(g:Int->Int->V):R2:=λ x y H Q=>∃ i j,x=.int i/\y=.int j/\Q (g i j) H
section
variable {X:Cx}{a b c:Expr}{ta tb tc:TE}{pos:Pos}
theorem acg(ha:PE X a ta)(hb:PE X b tb){pins:PN}{s:Shared}{σ:St}{H:Hp}{R:V->V->Hp->Prop}(I:Inv X pins σ H s)
  (h:ta σ H λ x H1=>tb σ H1 λ y H2=>R x y H2){Q:VP}{f:Value->Value->Sem Value}
  (hf:∀ v u s2 x y H2,Inv X pins σ H2 s2->RelV x v->RelV y u->R x y H2->wpAny (model X.prog X.w) X.A (f v u) Q X.xe s2) :
  wpAny (model X.prog X.w) X.A (eval a X.env) (λ v s₁=>wpAny (model X.prog X.w) X.A (eval b X.env) (λ u s₂=>wpAny (model X.prog X.w) X.A (f v u) Q X.xe s₂) X.xe s₁) X.xe s:=by
 refine thn (ha pins s σ H _ I h) λ v s1 hq16=>?_;obtain⟨x,H1,I1,r1,q1⟩:=hq16;refine thn (hb pins s1 σ H1 _ I1 q1) λ u s2 hq17=>?_;obtain⟨y,H2,I2,r2,q2⟩:=hq17;exact hf v u s2 x y H2 I2 r1 r2 q2
theorem abz{op:Operator}{r:R2}(ho:OpR X (binaryOp op) r)(ha:PE X a ta)(hb:PE X b tb):PE X (.BinOp a op b pos) (tOp r ta tb):=by intro pins s σ H Q I h;exact wpAny_BinOp (acg ha hb I h λ v u s2 x y H2 I2 rx ry q=>ho pins s2 σ H2 x y v u Q I2 rx ry q)
theorem opI{f:Value->Value->Sem Value}{C:Int->Int->Prop}{g:Int->Int->Int}
  (rule:∀ (i j:Int) (t u:Tok) (s:Shared) (Q:VP) (E:VP),C i j->Q (.int (g i j) s.toks) {s with toks:=s.toks+1}->wpAny (model X.prog X.w) X.A (f (.int i t) (.int j u)) Q E s) :
  OpR X f (rI C λ i j=>.int (g i j)):=by
 intro pins s σ H x y v u Q I rx ry h;obtain⟨i,j,rfl,rfl,hc,q⟩:=h;obtain⟨t,rfl⟩:=rx;obtain⟨t',rfl⟩:=ry;exact rule i j t t' s _ _ hc ⟨.int (g i j),H,I.tok _,⟨_,rfl⟩,q⟩
theorem acV{f:Value->Value->Sem Value}{g:Int->Int->Int}
  (rule:∀ (i j:Int) (t u:Tok) (s:Shared) (Q:VP) (E:VP),Q (.int (g i j) s.toks) {s with toks:=s.toks+1}->wpAny (model X.prog X.w) X.A (f (.int i t) (.int j u)) Q E s) :
  OpR X f (rI0 λ i j=>.int (g i j)):=by
 intro pins s σ H x y v u Q I rx ry h;obtain⟨i,j,rfl,rfl,q⟩:=h;obtain⟨t,rfl⟩:=rx;obtain⟨t',rfl⟩:=ry;exact rule i j t t' s _ _ ⟨.int (g i j),H,I.tok _,⟨_,rfl⟩,q⟩
theorem aa2{f:Value->Value->Sem Value}{g:Int->Int->Bool}
  (rule:∀ (i j:Int) (t u:Tok) (s:Shared) (Q:VP) (E:VP),Q (.bool (g i j)) s->wpAny (model X.prog X.w) X.A (f (.int i t) (.int j u)) Q E s) :
  OpR X f (rI0 λ i j=>.bl (g i j)):=by
 intro pins s σ H x y v u Q I rx ry h;obtain⟨i,j,rfl,rfl,q⟩:=h;obtain⟨t,rfl⟩:=rx;obtain⟨t',rfl⟩:=ry;exact rule i j t t' s _ _ ⟨.bl (g i j),H,I,rfl,q⟩
def ab9(i j:Int):Prop:=0<j/\j<1073741824
def aaw(i j:Int):Prop:=(-(2 ^ 64)<i/\i<2 ^ 64)\/(-(2 ^ 64)<j/\j<2 ^ 64)
theorem aaw.ok{i j:Int}(h:aaw i j):IntMulOk i j:=by
 rcases h with ⟨h1,h2⟩ | ⟨h1,h2⟩
 ·exact .of_left (intBits_le_64 h1 h2)
 ·exact .of_right (intBits_le_64 h1 h2)
theorem zS:OpR X (binaryOp .Add) (rI0 λ i j=>.int (i+j)):=acV λ _ _ _ _ _ _ _ q=>add_int q
theorem iV:OpR X (binaryOp .Mult) (rI aaw λ i j=>.int (i * j)):=opI λ _ _ _ _ _ _ _ hc q=>mul_int q hc.ok
theorem oV:OpR X (binaryOp .FloorDiv) (rI ab9 λ i j=>.int (i / j)):=opI λ i j _ _ _ _ _ hc q=>by have h1:(0:Int)<j:=hc.1;have h2:j<1073741824:=hc.2;exact floordiv_int (by omega) (by rw[Int.fdiv_eq_ediv_of_nonneg i (by omega)];exact q) (.inl (PyProof.noPylong_small (by omega)))
theorem fu:OpR X (binaryOp .Mod) (rI (λ _ j=>0<j) λ i j=>.int (i % j)):=opI λ i j _ _ _ _ _ hc q=>by have h1:(0:Int)<j:=hc;exact mod_int' (by omega) (by rw[Int.fmod_eq_emod_of_nonneg i (by omega)];exact q)
end
def acX:V->V->Bool
 | .non,.non=>true | .non,.int _=>true | .int _,.non=>true | .non,.bl _=>true | .bl _,.non=>true | .non,.str _=>true | .str _,.non=>true
 | .int _,.int _=>true | .bl _,.bl _=>true | .str _,.str _=>true | .byt _,.byt _=>true
 | .int _,.str _=>true | .str _,.int _=>true | .bl _,.str _=>true | .str _,.bl _=>true
 | _,_=>false
def rEq:R2:=λ x y H Q=>acX x y=true/\Q (.bl (decide (x=y))) H
theorem wD{i j:Int}:decide (V.int i=V.int j)=(i==j):=by rw[Bool.eq_iff_iff];simp
theorem zm{i j:Bool}:decide (V.bl i=V.bl j)=(i==j):=by rw[Bool.eq_iff_iff];simp
theorem xA{i j:Str}:decide (V.str i=V.str j)=(i==j):=by rw[Bool.eq_iff_iff];simp
theorem yi{i j:Array UInt8}:decide (V.byt i=V.byt j)=(i.toList==j.toList):=by rw[Bool.eq_iff_iff];cases i;cases j;simp
section
variable {X:Cx}{a b c:Expr}{ta tb tc:TE}{pos:Pos}
theorem cE{pins:PN}{σ:St}{H:Hp}{s:Shared}{Q:VK}{k k':Bool}(I:Inv X pins σ H s)(q:Q (.bl k) H)(e:k=k'):EP X pins σ Q (.bool k') s:=by subst e;exact⟨.bl k,H,I,rfl,q⟩
theorem abf:OpR X (compareOp .Eq) rEq:=by
 intro pins s σ H x y v u Q I rx ry h;obtain⟨hs,q⟩:=h;cases x with
 | non =>
  cases rx;cases y with
  | non=>cases ry;exact PySem.EqNone.eq_none_none (cE I q (by simp))
  | bl j=>cases ry;exact PySem.EqNone.eq_none_bool (cE I q (by simp))
  | int j=>obtain⟨t',rfl⟩:=ry;exact PySem.EqNone.eq_none_int (cE I q (by simp))
  | str j=>obtain⟨t',rfl⟩:=ry;exact PySem.EqNone.eq_none_str (cE I q (by simp))
  | _=>exact absurd (show false=true from hs) Bool.false_ne_true
 | bl i =>
  cases rx;cases y with
  | non=>cases ry;exact PySem.EqNone.eq_bool_none (cE I q (by simp))
  | bl j=>cases ry;exact eq_bool (cE I q zm)
  | str j=>obtain⟨t',rfl⟩:=ry;exact PySem.EqMixed.eq_bool_str (cE I q (by simp))
  | _=>exact absurd (show false=true from hs) Bool.false_ne_true
 | int i =>
  obtain⟨t,rfl⟩:=rx;cases y with
  | non=>cases ry;exact PySem.EqNone.eq_int_none (cE I q (by simp))
  | int j=>obtain⟨t',rfl⟩:=ry;exact eq_int (cE I q wD)
  | str j=>obtain⟨t',rfl⟩:=ry;exact PySem.EqMixed.eq_int_str (cE I q (by simp))
  | _=>exact absurd (show false=true from hs) Bool.false_ne_true
 | str i =>
  obtain⟨t,rfl⟩:=rx;cases y with
  | non=>cases ry;exact PySem.EqNone.eq_str_none (cE I q (by simp))
  | bl j=>cases ry;exact PySem.EqMixed.eq_str_bool (cE I q (by simp))
  | int j=>obtain⟨t',rfl⟩:=ry;exact PySem.EqMixed.eq_str_int (cE I q (by simp))
  | str j=>obtain⟨t',rfl⟩:=ry;exact eq_str (cE I q xA)
  | _=>exact absurd (show false=true from hs) Bool.false_ne_true
 | byt i =>
  obtain⟨t,rfl⟩:=rx;cases y with
  | byt j=>obtain⟨t',rfl⟩:=ry;exact W.eq_bytes (cE I q yi)
  | _=>exact absurd (show false=true from hs) Bool.false_ne_true
 | _=>cases y<;>exact absurd (show false=true from hs) Bool.false_ne_true
theorem uz:OpR X (compareOp .Lt) (rI0 λ i j=>.bl (decide (i<j))):=aa2 λ _ _ _ _ _ _ _ q=>lt_int q
theorem ab0:OpR X (compareOp .LtE) (rI0 λ i j=>.bl (decide (i<=j))):=aa2 λ _ _ _ _ _ _ _ q=>le_int q
theorem y8:OpR X (compareOp .Gt) (rI0 λ i j=>.bl (decide (j<i))):=aa2 λ _ _ _ _ _ _ _ q=>gt_int q
theorem abB:OpR X (compareOp .GtE) (rI0 λ i j=>.bl (decide (j<=i))):=aa2 λ _ _ _ _ _ _ _ q=>ge_int q
theorem vq{op:CmpOp}{r:R2}(ho:OpR X (compareOp op) r)(ha:PE X a ta)(hb:PE X b tb)(hm:behindInMarks op b=false):PE X (.Compare a [op] [b] pos) (tOp r ta tb):=by intro pins s σ H Q I h;exact wpAny_Compare1 (acg ha hb I h λ v u s2 x y H2 I2 rx ry q=>ho pins s2 σ H2 x y v u Q I2 rx ry q) hm
def aaL(t:TE):TT:=λ σ H Q=>t σ H λ x H'=>∃ k,x=.bl k/\Q k H'
theorem xq{op:CmpOp}{r:R2}(ho:OpR X (compareOp op) r)(ha:PE X a ta)(hb:PE X b tb)(hm:behindInMarks op b=false):PT X (.Compare a [op] [b] pos) (aaL (tOp r ta tb)):=by
 intro pins s σ H Q I h;refine wpAny_isTrue_Compare1 (thn (ha pins s σ H _ I h) λ v s1 ⟨x,H1,I1,r1,q1⟩=>thn (hb pins s1 σ H1 _ I1 q1) λ u s2 ⟨y,H2,I2,r2,q2⟩ =>
  thn (ho pins s2 σ H2 x y v u _ I2 r1 r2 q2) λ c s3 ⟨z,H3,I3,r3,k,e,q3⟩=>?_) hm
 subst e;cases r3;exact wpAny_truthy_bool ⟨H3,I3,q3⟩
theorem iJ:(sizeLine:Nat)<2 ^ 63:=by rw[sizeLine_eq];decide
theorem n8:OpR X (binaryOp .Add) (λ x y H Q=>∃ i j,x=.str i/\y=.str j/\i.length+j.length<=sizeLine/\Q (.str (i++j)) H):=by intro pins s σ H x y v u Q I rx ry h;obtain⟨i,j,rfl,rfl,hz,q⟩:=h;obtain⟨t,rfl⟩:=rx;obtain⟨t',rfl⟩:=ry;exact add_str (λ t' tk=>⟨.str (i++j),H,I.tok _,⟨_,rfl⟩,q⟩) hz
theorem vals1{x:V}{us:List Value}(r:Vals [x] us):∃ u,us=[u]/\RelV x u:=by
 cases r with
 | cons r1 r2=>cases r2;exact⟨_,rfl,r1⟩
theorem vals2{x y:V}{us:List Value}(r:Vals [x,y] us):∃ u w',us=[u,w']/\RelV x u/\RelV y w':=by
 cases r with
 | cons r1 r2 =>
  cases r2 with
  | cons r3 r4=>cases r4;exact⟨_,_,rfl,r1,r3⟩
theorem sO:eA X (.builtin "abs") (λ xs H Q=>∃ i,xs=[.int i]/\Q (.int (if i<0 then -i else i)) H):=by intro pins s σ H xs us Q I r h;obtain⟨i,rfl,q⟩:=h;obtain⟨u,rfl,t,rfl⟩:=vals1 r;exact call_abs_int λ u tk=>⟨.int (if i<0 then -i else i),H,I.tok _,⟨_,rfl⟩,q⟩
def acp(K:FG)(x:V)(H:Hp)(n:Nat):Prop:=
 match x with
 | .str y=>y.length<=sizeLine/\n=y.length
 | .byt y=>y.size<=sizeLine/\n=y.size
 | .ref p=>(∃ xs,SqL K H p xs/\n=xs.length)\/∃ xs,SqT K H p xs/\n=xs.length
 | _=>False
theorem dW:eA X (.builtin "len") (λ xs H Q=>∃ x n,xs=[x]/\acp X.K x H n/\Q (.int n) H):=by
 intro pins s σ H xs us Q I r h;obtain⟨x,n,rfl,e,q⟩:=h;obtain⟨u,rfl,rx⟩:=vals1 r;have hl:=iJ;have hs:sizeLine=16777216:=sizeLine_eq;cases x with
 | str y =>
  obtain⟨t,rfl⟩:=rx;obtain⟨hy,e'⟩:y.length<=sizeLine/\n=y.length:=e;subst e';exact len_str (by omega) ⟨.int _,H,I.tok _,⟨_,rfl⟩,q⟩
 | byt y =>
  obtain⟨t,rfl⟩:=rx;obtain⟨hy,e'⟩:y.size<=sizeLine/\n=y.size:=e;subst e';exact W.len_bytes (by omega) ⟨.int _,H,I.tok _,⟨_,rfl⟩,q⟩
 | ref p =>
  cases rx;have e':(∃ xs,SqL X.K H p xs/\n=xs.length)\/∃ xs,SqT X.K H p xs/\n=xs.length:=e;rcases e' with ⟨xs,hx,e'⟩ | ⟨xs,hx,e'⟩
  ·subst e';obtain⟨its,r',pl,hz⟩:=I.list hx;have hlen:=r'.length;exact Calls.call_len_list pl.isList (by simp only[List.size_toArray];omega) ⟨.int xs.length,H,I.tok _,⟨_,by simp only[List.size_toArray];rw[hlen]⟩,q⟩
  ·subst e';obtain⟨its,r',pl,hz⟩:=I.tuple hx;have hlen:=r'.length;exact len_tuple pl (by simp only[List.size_toArray];omega) ⟨.int xs.length,H,I.tok _,⟨_,by simp only[List.size_toArray];rw[hlen]⟩,q⟩
 | _=>exact(show False from e).elim
end
structure wt(h:Heap)(x dx C:Addr)(mA:Str->Option Value):Prop where
 obj:h.get? x=some (W.instObj C dx)
 ns:h.Ns1 dx mA
 ne:dx≠x
theorem o6{h:Heap}{dx:Addr}{mA:Str->Option Value}(n:h.Ns1 dx mA):∃ od,h.get? dx=some od/\∀ name,W.lookIn name od=some (mA name):=by
 obtain⟨o,es,ep,ho,hd,hk,_,hm⟩:=n;refine⟨o,ho,λ name=>?_⟩;have e:=hm name;unfold nsFind findBy at e;rw[<- Array.find?_toList] at e;unfold W.lookIn;rw[hd];dsimp only
 split
 ·rename_i y q
  rw[q] at e;exact congrArg some e
 ·rename_i q
  rw[q] at e;have a:es.toList.any (·.refKey)=false:=by rw[List.any_eq_false];intro y hy;obtain⟨z,t,hkey⟩:=hk y (Array.mem_toList_iff.mp hy);simp[DictEntry.refKey,hkey]
  have a':¬ es.toList.any (·.refKey)=true:=by rw[a];exact Bool.false_ne_true
  rw[if_neg a'];exact congrArg some e
theorem wt.look{h:Heap}{x dx C:Addr}{mA:Str->Option Value}(I:wt h x dx C mA):∃ od,W.InstAt h x (W.instObj C dx) C (some od)/\∀ name,W.lookIn name od=some (mA name):=
 let ⟨od,ho,hl⟩:=o6 I.ns
 ⟨od,⟨I.obj,rfl,rfl,ho⟩,hl⟩
section
variable {prog:Program}{w:World}{A:Around}{E:VP}{s:Shared}{K:FG}{x dx C f:Addr}{mA:Str->Option Value}{name:Str}{v:Value}
theorem get_map{expr:Bool}{Q:VP}(X:K.In s.heap)(I:wt s.heap x dx C mA)(hg:W.plainGet K C name=true)(hh:W.hasDictIn K C=true)
  (ha:W.findIn K (.ref C) name=some none)(hv:mA name=some v)(hv':W.handedIn v=true)(h:Q v {s with toks:=s.toks+1}) :
  wpAny (model prog w) A (getAttr (.ref x) name expr) Q E s:=by
 obtain⟨od,J,hl⟩:=I.look;exact W.get_value X J (W.plainGet_of hg).1 (W.findObj_own hh ha rfl (by rw[hl,hv])) hv' h
theorem ur{pl:Sem Bool}{Q:Value×List Value->Shared->Prop}(X:K.In s.heap)(I:wt s.heap x dx C mA)(hg:W.plainGet K C name=true)
  (hf:W.findIn K (.ref C) name=some (some (.ref f)))(ht:W.isFn K (.ref f)=true)(hv:mA name=none)(h:Q (.ref f,[.ref x]) s) :
  wpAny (model prog w) A (getMethod (.ref x) name pl) Q E s:=by
 obtain⟨od,J,hl⟩:=I.look;exact W.method_fn X J (W.plainGet_of hg).1 (W.plainGet_of hg).2 hf (beq_iff_eq.mp ht) (by show(W.lookIn name od).map (·.isSome)=some false;rw[hl,hv];rfl) h
theorem vw{ns:List Str}{Q:Unit->Shared->Prop}(X:K.In s.heap)(I:wt s.heap x dx C mA)
  (hs:W.findIn K (.ref C) "__setattr__" = some (some (.builtin "object.__setattr__")))(hp:W.plainOver K C=true)(ht:W.takerIn K C name=some none)(hh:W.hasDictIn K C=true)
  (hw:PySem.Within mA ns)(hsz:ns.length<=sizeLine)
  (h:∀ h',wt h' x dx C (λ y=>if y=name then some v else mA y)->Heap.SameBut dx s.heap h'->Q () {s with heap:=h',toks:=s.toks+2}) :
  wpAny (model prog w) A (setAttr (.ref x) name v) Q E s:=by
 obtain⟨od,J,hl⟩:=I.look;refine W.set_plain X J hs (W.osa_open (s:={s with toks:=s.toks+1}) (r:=none) X J hp ht λ b=>?_);obtain⟨cd,hc,hd'⟩:=W.any_some hh;have hx:s.heap.get? x=some ⟨.ref C,some dx,.plain,#[]⟩:=I.obj;refine wpAny_bind (wpAny_pure (wpAny_bind (wpAny_bind (wpAny_loadPart hx (wpAny_bind (W.Looks.here (s:={s with toks:=s.toks+1}) (W.looks_clsIn X hc) ?_))))));rw[hd'];refine wpAny_pure (a:=some dx) (wpAny_bind (wpAny_pure (wpAny_bind ?_)));refine wpAny_nsSet1 (s:={s with toks:=s.toks+1}) I.ns λ h' hn2 hs2=>?_;obtain⟨oD,esD,epD,hoD,hdD,hcD⟩:=hn2.count (PySem.Within.cons name v hw);refine wpAny_bind (wpAny_lookBehind hoD (by rw[hdD];exact pastItsLine_dict (Nat.le_trans hcD (by rw[List.length_cons];omega))) ?_);exact wpAny_pure (h _ ⟨(hs2.2 _ (Ne.symm I.ne)).trans I.obj,hn2,I.ne⟩ hs2)
theorem tD{R:Result->Shared->Prop}{vs:List Value}{kw:List (Str×Value)}(X:K.In s.heap)(hm:W.makesIn K C=true)
  (hi:W.findIn K (.ref C) "__init__" = some (some (.ref f)))(hf:W.typeIn K (.ref f)=some (.type "function"))
  (h:codeAny (model prog w) (A.under (.builtin "type.__call__" ⟨.ref C::vs,kw⟩)) (.call (.ref f) ⟨.ref (s.heap.objs.size+1)::vs,kw⟩) (W.InitBack (s.heap.objs.size+1) R)
   {s with heap:=(s.heap.push W.emptyDict).push (W.instObj C s.heap.objs.size)}) :
  codeAny (model prog w) A (.call (.ref C) ⟨vs,kw⟩) R s:=by
 obtain⟨hh,g,d,t,os⟩:=s;exact W.make_core (W.makes_of X hm) (W.looks_findIn X hi) (λ self=>W.bind_fn X self hf) (.inl rfl) h
end
def jq(f:Str)(v:V):List (Str×V)->List (Str×V)
 | []=>[(f,v)]
 | (g,x)::r=>if g=f then (g,v)::r else (g,x)::jq f v r
theorem hX(f g:Str)(v:V):∀ fs:List (Str×V),(jq f v fs).lookup g=if g=f then some v else fs.lookup g
 | []=>by
  show List.lookup g [(f,v)]=_
  by_cases h:g=f
  ·have hb:(g==f)=true:=beq_iff_eq.mpr h;simp only[List.lookup,hb,if_pos h]
  ·have hb:(g==f)=false:=beq_eq_false_iff_ne.mpr h;simp only[List.lookup,hb,if_neg h]
 | (k,x)::r=>by
  have ih:=hX f g v r;rw[show jq f v ((k,x)::r)=(if k=f then (k,v)::r else (k,x)::jq f v r) from rfl]
  by_cases hk:k=f
  ·rw[if_pos hk]
   by_cases h:g=k
   ·have hb:(g==k)=true:=beq_iff_eq.mpr h;simp only[List.lookup,hb,if_pos (h.trans hk)]
   ·have hb:(g==k)=false:=beq_eq_false_iff_ne.mpr h;simp only[List.lookup,hb,if_neg (λ e:g=f=>h (e.trans hk.symm))]
  ·rw[if_neg hk]
   by_cases h:g=k
   ·have hb:(g==k)=true:=beq_iff_eq.mpr h;simp only[List.lookup,hb,if_neg (λ e:g=f=>hk (h.symm.trans e))]
   ·have hb:(g==k)=false:=beq_eq_false_iff_ne.mpr h;simp only[List.lookup,hb];exact ih
theorem gh(f:Str)(v:V):∀ fs:List (Str×V),f∈(jq f v fs).map (·.1)/\∀ g,g∈fs.map (·.1)->g∈(jq f v fs).map (·.1)
 | []=>⟨by simp[jq],λ g h=>by simp at h⟩
 | (k,x)::r=>by
  obtain⟨i1,i2⟩:=gh f v r;rw[show jq f v ((k,x)::r)=(if k=f then (k,v)::r else (k,x)::jq f v r) from rfl]
  by_cases hk:k=f
  ·rw[if_pos hk];subst hk;exact⟨by simp,λ g h=>by simpa using h⟩
  ·rw[if_neg hk];refine⟨?_,λ g h=>?_⟩
   ·rw[List.map_cons];exact List.mem_cons_of_mem _ i1
   ·rw[List.map_cons] at h ⊢;rcases List.mem_cons.mp h with e | e
    ·exact List.mem_cons.mpr (.inl e)
    ·exact List.mem_cons_of_mem _ (i2 g e)
theorem hV(f:Str)(v:V):∀ fs:List (Str×V),(jq f v fs).length<=fs.length+1
 | []=>by simp[jq]
 | (k,x)::r=>by
  have ih:=hV f v r;rw[show jq f v ((k,x)::r)=(if k=f then (k,v)::r else (k,x)::jq f v r) from rfl]
  by_cases hk:k=f
  ·rw[if_pos hk,List.length_cons,List.length_cons];omega
  ·rw[if_neg hk,List.length_cons,List.length_cons];omega
theorem l7.some_of{v:V}{o:Option Value}(r:l7 (some v) o):∃ u,o=some u/\RelV v u:=by
 cases o with
 | none=>exact(show False from r).elim
 | some u=>exact⟨u,rfl,r⟩
theorem l7.none_of{o:Option Value}(r:l7 none o):o=none:=by
 cases o with
 | none=>rfl
 | some u=>exact(show False from r).elim
theorem rY{v:V}{u:Value}(r:RelV v u):W.handedIn u=true:=by
 cases v with
 | non=>cases (show u=Value.none from r);rfl
 | bl b=>cases (show u=Value.bool b from r);rfl
 | int i=>obtain⟨t,e⟩:=(show ∃ t,u=Value.int i t from r);cases e;rfl
 | str x=>obtain⟨t,e⟩:=(show ∃ t,u=Value.str x t from r);cases e;rfl
 | byt b=>obtain⟨t,e⟩:=(show ∃ t,u=Value.bytes b t from r);cases e;rfl
 | flt b=>obtain⟨t,e⟩:=(show ∃ t,u=Value.float b t from r);cases e;rfl
 | ref a=>cases (show u=Value.ref a from r);rfl
 | ty n=>cases (show u=Value.type n from r);rfl
section
variable {P:Program}{w:World}{H H':Hp}{h h':Heap}{a C dx:Addr}{fs fs':List (Str×V)}
theorem lD(hok:HOk P w H h)(e:H a=some (.ins C dx fs)):∃ mA,wt h a dx C mA/\(∀ f,l7 (fs.lookup f) (mA f))/\PySem.Within mA (fs.map (·.1))/\fs.length<=1000/\H dx=some (.own a):=by obtain⟨d,z,ne,ob,mA,n,r,q⟩:=(show bX P w H h a (.ins C dx fs) from hok a _ e);exact⟨mA,⟨ob,n,ne⟩,r,q,z,d⟩
end
structure Cls(K:FG)(C:Addr):Prop where
 pg:W.plainGet K C Str.empty=true
 hd:W.hasDictIn K C=true
 po:W.plainOver K C=true
 sa:W.findIn K (.ref C) "__setattr__" = some (some (.builtin "object.__setattr__"))
theorem Cls.get{K:FG}{C:Addr}(c:Cls K C)(f:Str):W.plainGet K C f=true:=c.pg
def cH(K:FG)(C:Addr)(f:Str):Prop:=W.findIn K (.ref C) f=some none
theorem cH.abA{K:FG}{C:Addr}{f:Str}(n:cH K C f):W.takerIn K C f=some none:=by
 unfold W.takerIn;rw[show W.findIn K (.ref C) f=some none from n];rfl
structure Meth(K:FG)(C:Addr)(m:Str)(f:Addr):Prop where
 at_:W.findIn K (.ref C) m=some (some (.ref f))
 fn:W.isFn K (.ref f)=true
 kp:W.keepIn K (.ref f)=true
section
variable {X:Cx}{pins:PN}{σ:St}{H:Hp}{s:Shared}{a C dx:Addr}{fs:List (Str×V)}{f:Str}{v:V}{A:Around}{E:VP}
theorem nX{b:Bool}{Q:VP}(I:Inv X pins σ H s)(e:H a=some (.ins C dx fs))(c:Cls X.K C)(n:cH X.K C f)(l:fs.lookup f=some v)
  (h:∀ u s',Inv X pins σ H s'->RelV v u->Q u s'):wpAny (model X.prog X.w) A (getAttr (.ref a) f b) Q E s:=by
 obtain⟨mA,O,r,_,_,_⟩:=lD I.hok e;obtain⟨u,hu,ru⟩:=l7.some_of (v:=v) (o:=mA f) (by rw[<- l];exact r f);exact get_map I.kIn O (c.get f) c.hd n hu (rY ru) (h u _ (I.tok _) ru)
theorem iL{m:Str}{g:Addr}{pl:Sem Bool}{Q:Value×List Value->Shared->Prop}(I:Inv X pins σ H s)(e:H a=some (.ins C dx fs))(c:Cls X.K C)(k:Meth X.K C m g)(l:fs.lookup m=none)
  (h:Q (.ref g,[.ref a]) s):wpAny (model X.prog X.w) A (getMethod (.ref a) m pl) Q E s:=by
 obtain⟨mA,O,r,_,_,_⟩:=lD I.hok e;have hn:mA m=none:=l7.none_of (by rw[<- l];exact r m);exact ur I.kIn O (c.get m) k.at_ k.fn hn h
theorem oj{y:V}{u:Value}{Q:Unit->Shared->Prop}(I:Inv X pins σ H s)(e:H a=some (.ins C dx fs))(c:Cls X.K C)(n:cH X.K C f)(hl:fs.length<1000)(ry:RelV y u)
  (h:∀ s',Inv X pins σ (upd H a (.ins C dx (jq f y fs))) s'->Q () s'):wpAny (model X.prog X.w) A (setAttr (.ref a) f u) Q E s:=by
 obtain⟨mA,O,r,wi,_,ho⟩:=lD I.hok e;have hz:(fs.map (·.1)).length<=sizeLine:=by rw[List.length_map,sizeLine_eq];omega
 refine vw I.kIn O c.sa c.po n.abA c.hd wi hz λ h' O' sb=>h _ ?_;have hd:∃ o,h'.get? dx=some o:=let ⟨o,_,_,e',_⟩:=O'.ns; ⟨o,e'⟩;refine I.write (x:=a) (e:=dx) (by rw[e];exact True.intro) (.inr ho) (λ b q hb z=>(sb.2 b hb).trans z) hd ?_;refine⟨by rw[aj O.ne];exact ho,?_,O.ne,O'.obj,_,O'.ns,λ g=>?_,λ g hg=>?_⟩
 ·have:=hV f y fs;omega
 ·show l7 ((jq f y fs).lookup g) (if g=f then some u else mA g);rw[hX]
  by_cases q:g=f
  ·rw[if_pos q,if_pos q];exact ry
  ·rw[if_neg q,if_neg q];exact r g
 ·by_cases q:g=f
  ·rw[q];exact(gh f y fs).1
  ·refine(gh f y fs).2 g (wi g λ z=>hg ?_);show(if g=f then some u else mA g)=none;rw[if_neg q];exact z
theorem Inv.made(I:Inv X pins σ H s):Inv X pins σ (upd (upd H s.heap.objs.size (.own (s.heap.objs.size+1))) (s.heap.objs.size+1) (.ins C s.heap.objs.size []))
  {s with heap:=(s.heap.push W.emptyDict).push (W.instObj C s.heap.objs.size)}:=by
 have e1:(s.heap.push W.emptyDict).get? s.heap.objs.size=some W.emptyDict:=Heap.get?_push_size s.heap rfl;have e2:((s.heap.push W.emptyDict).push (W.instObj C s.heap.objs.size)).get? (s.heap.objs.size+1)=some (W.instObj C s.heap.objs.size):=by
  have:=Heap.get?_push_size (s.heap.push W.emptyDict) (o:=W.instObj C s.heap.objs.size) rfl
  rwa[Heap.size_push] at this
 have e3:(s.heap.push W.emptyDict).Ns s.heap.objs.size (λ _=>none):=⟨W.emptyDict,#[],_,e1,rfl,(λ e he=>absurd he (by simp)),λ _=>rfl⟩;have I1:=I.laid (a:=s.heap.objs.size) (o:=.own (s.heap.objs.size+1)) (h':=s.heap.push W.emptyDict) (t':=s.toks) (λ b u q=>Heap.get?_push_of_some _ q) (Nat.le_refl _) ⟨_,e1⟩;refine I1.laid (a:=s.heap.objs.size+1) (o:=.ins C s.heap.objs.size []) (t':=s.toks) (λ b u q=>Heap.get?_push_of_some _ q) (Nat.le_of_eq (Heap.size_push _ _)) ?_;have ne:s.heap.objs.size≠s.heap.objs.size+1:=Nat.ne_of_lt (Nat.lt_succ_self _);refine⟨by rw[aj ne,av],Nat.zero_le _,ne,e2,λ _=>none,(Heap.Ns1.of_empty e3).at λ o q=>Heap.get?_push_of_some _ q,λ _=>True.intro,λ y hy=>absurd rfl hy⟩
theorem xB{prog:Program}{w:World}{env:Env}{e:Expr}{f:Str}{pos:Pos}{s:Shared}{Q:VP}(hb:attributeBase e f env (eval e env)=eval e env)
  (h:wpAny (model prog w) A (eval e env) (λ o s₁=>wpAny (model prog w) A (getAttr o f true) Q E s₁) E s):wpAny (model prog w) A (eval (.Attribute e f pos) env) Q E s:=
 Attribute_any_ h (by rw[arm_eval_Attribute,hb])
end
def adg(K:FG)(ta:TE)(f:Str):TE:=λ σ H Q=>ta σ H λ x H1=>∃ a C dx fs v,x=.ref a/\H1 a=some (.ins C dx fs)/\Cls K C/\cH K C f/\fs.lookup f=some v/\Q v H1
def ac8(K:FG)(ta tv:TE)(f:Str):TS:=λ D σ H=>tv σ H λ y H1=>ta σ H1 λ x H2=>∃ a C dx fs,x=.ref a/\H2 a=some (.ins C dx fs)/\Cls K C/\cH K C f/\fs.length<1000 /\
 D.nx σ (upd H2 a (.ins C dx (jq f y fs)))
section
variable {X:Cx}{o e value:Expr}{f:Str}{pos pos' tpos:Pos}{ta tv:TE}
theorem zW(he:PE X e ta)(hb:attributeBase e f X.env (eval e X.env)=eval e X.env):PE X (.Attribute e f pos) (adg X.K ta f):=by intro pins s σ H Q I h;refine xB hb (thn (he pins s σ H _ I h) λ u s1 hq18=>?_);obtain⟨x,H1,I1,rx,a,C,dx,fs,v,ex,ea,c,n,l,q⟩:=hq18;subst ex;obtain rfl:u=Value.ref a:=rx;exact nX I1 ea c n l λ u' s2 I2 ru=>⟨v,H1,I2,ru,q⟩
theorem zO(ha:PE X o ta)(hv:PE X value tv)(hs:swapsWith value (some (.Attribute o f pos')) pos.line X.env=pure false):PS X (.Assign [.Attribute o f pos'] value pos) (ac8 X.K ta tv f):=by intro pins s σ H D I h;refine plainObj_wpAny_Assign_Attribute (thn (hv pins s σ H _ I h) λ u s1 ⟨y,H1,I1,ry,q⟩=>thn (ha pins s1 σ H1 _ I1 q) λ ov s2 ⟨x,H2,I2,rx,a,C,dx,fs,ex,ea,c,n,l,q2⟩=>?_) hs;subst ex;obtain rfl:ov=Value.ref a:=rx;exact oj I2 ea c n l ry λ s3 I3=>⟨σ,_,I3,q2⟩
end
section
variable {X:Cx}{pins:PN}{σ:St}{H:Hp}{s:Shared}{A:Around}{E:VP}{Q:VP}{c:Value}{b:Bool}
end
structure cj(k:Nat)(A:Around):Prop where
 hd:A.handled=none
 gd:A.guards=some []
 dp:A.depth+3 * k+5<recursionLimit
 un:A.units+16 * k+200<cLine
theorem cj.mono{j k:Nat}{A:Around}(r:cj k A)(h:j<=k):cj j A:=⟨r.hd,r.gd,by have:=r.dp;omega,by have:=r.un;omega⟩
theorem cj.deeper{k:Nat}{A:Around}(r:cj (k+1) A)(env:Env):cj k (A.deeper env):=
 ⟨r.hd,r.gd,by have:=r.dp;show A.depth+1+3 * k+5<_;omega,by have:=r.un;show A.units+3+16 * k+200<_;omega⟩
theorem cj.in1{k:Nat}{A:Around}(r:cj (k+1) A):cj k A.in1:=
 ⟨r.hd,r.gd,by have:=r.dp;show A.depth+3 * k+5<_;omega,by have:=r.un;show A.units+1+16 * k+200<_;omega⟩
theorem ou{A:Around}{C:Addr}{us:List Value}{kw:List (Str×Value)}:(A.under (.builtin "type.__call__" ⟨.ref C::us,kw⟩)).depth=A.depth+1:=by
 first | rfl | simp[Around.under,Code.weight,Code.isCreation,Code.isGuard,Code.isCaller,Code.frames,Code.isFrame,guardIds]
theorem nJ{A:Around}{C:Addr}{us:List Value}{kw:List (Str×Value)}:(A.under (.builtin "type.__call__" ⟨.ref C::us,kw⟩)).units=A.units+1:=by
 first | rfl | simp[Around.under,Code.cUnits,Code.frames,Code.isFrame]
theorem cj.make{k:Nat}{A:Around}(r:cj (k+1) A)(C:Addr)(us:List Value)(kw:List (Str×Value)):cj k (A.under (.builtin "type.__call__" ⟨.ref C::us,kw⟩)):=
 ⟨r.hd,(by first | exact r.gd | (simpa [Around.under,Code.isGuard,Code.frames,Code.isFrame,guardIds] using r.gd)),by have:=r.dp;rw[ou];omega,by have:=r.un;rw[nJ];omega⟩
theorem cj.depth{k:Nat}{A:Around}(r:cj k A):A.depth<recursionLimit:=by have:=r.dp;omega
theorem cj.units{k:Nat}{A:Around}(r:cj k A):A.units+64<cLine:=by have:=r.un;omega
def aax:TA:=λ _ H Q=>Q [] H
def sS(ta:TE)(tr:TA):TA:=λ σ H Q=>ta σ H λ x H1=>tr σ H1 λ xs H2=>Q (x::xs) H2
section
variable {X:Cx}{e:Expr}{es:List Expr}{te:TE}{t:TA}{pos:Pos}
theorem uO:PA X [] aax:=λ _ _ _ _ H Q I h=>Calls.spliced_nil ⟨[],H,I,.nil,h⟩
theorem sd(ha:PE X e te)(hr:PA X es t)(hs:starEach (e::es) X.env=(false,eval e X.env)::starEach es X.env:=by rfl):PA X (e::es) (sS te t):=by intro pos pins s σ H Q I h;rw[hs];show wpAny _ _ (spliced ((false,eval e X.env)::backTo pos (starEach es X.env))) _ _ s;refine Calls.spliced_cons (thn (ha pins s σ H _ I h) λ u s1 hq19=>?_);obtain⟨x,H1,I1,r1,q1⟩:=hq19;exact thn (hr pos pins s1 σ H1 _ I1 q1) λ us s2 ⟨xs,H2,I2,r2,q2⟩=>⟨x::xs,H2,I2,.cons r1 r2,q2⟩
def acW(t:TA):TE:=λ σ H Q=>t σ H λ xs H1=>xs.length<=sizeLine/\∀ p,H1 p=none->Q (.ref p) (upd H1 p (.tup xs))
def ac2(t:TA):TE:=λ σ H Q=>t σ H λ xs H1=>xs.length<=sizeLine/\∀ p,H1 p=none->Q (.ref p) (upd H1 p (.lst xs))
theorem vo{x1}(h:PA X es t):PE X (.Tuple es x1 pos) (acW t):=by intro pins s σ H Q I hq;refine wpAny_Tuple_spliced (thn (h pos pins s σ H _ I hq) λ us s1 ⟨xs,H1,I1,r,z,q⟩=>⟨by rw[<- r.length];exact z,?_⟩);have hf:H1 s1.heap.objs.size=none:=I1.hok.fresh (Nat.le_refl _);refine⟨.ref s1.heap.objs.size,upd H1 s1.heap.objs.size (.tup xs),I1.laid (t':=s1.toks) (λ b u e=>Heap.get?_push_of_some _ e) (Nat.le_refl _) ?_,rfl,q _ hf⟩;exact⟨z,us,r,u9.new _ _⟩
theorem vj(h:PA X es t):PE X (.List es pos) (ac2 t):=by intro pins s σ H Q I hq;refine wpAny_List_spliced (thn (h pos pins s σ H _ I hq) λ us s1 ⟨xs,H1,I1,r,z,q⟩=>⟨by rw[<- r.length];exact z,?_⟩);have hf:H1 s1.heap.objs.size=none:=I1.hok.fresh (Nat.le_refl _);refine⟨.ref s1.heap.objs.size,upd H1 s1.heap.objs.size (.lst xs),I1.laid (t':=s1.toks) (λ b u e=>Heap.get?_push_of_some _ e) (Nat.le_refl _) ?_,rfl,q _ hf⟩;exact⟨z,us,0,r,Heap.get?_push_size _ rfl⟩
end
abbrev Sp:=List V->Hp->VK->XK->Prop
abbrev CXT:=List Env->Hp->Shared->XK->VP
structure yk(P:Program)(w:World)(K:FG)(mg:Str->Option Value)(base:Heap)(A:Around)(outer:List Env)(s:Shared)(H:Hp):Prop where
 frames:A.frames=some outer
 mod:Mod K mg base
 bs:∀ b o,base.get? b=some o->s.heap.get? b=some o/\H b=none
 bsz:base.objs.size<=s.heap.objs.size
 ll:s.heap.FunFrames base outer
 frf:∀ b∈frs outer,H b=none
 hok:HOk P w H s.heap
 bare:AllBare s.gens
def CE(outer:List Env)(P:Program)(w:World)(H:Hp)(s:Shared)(Q:VK)(u:Value)(s':Shared):Prop:=
 ∃ v H',s'.os=s.os/\AllBare s'.gens/\Un (frs outer) [] H H' s.heap s'.heap/\HOk P w H' s'.heap/\RelV v u/\Q v H'
def CR(CX:CXT)(outer:List Env)(P:Program)(w:World)(H:Hp)(s:Shared)(Q:VK)(E:XK)(r:Result)(s':Shared):Prop:=
 match r with
 | .ok (.ret u)=>CE outer P w H s Q u s'
 | .ok _=>False
 | .error e=>CX outer H s E e s'
structure cR(P:Program)(w:World)(K:FG)(mg:Str->Option Value)(base:Heap)(CX:CXT)(k:Nat)(f:Addr)(fd:FuncData)(ps:List Str)(sp:Sp):Prop where
 len:∀ vs H Q E,sp vs H Q E->vs.length=ps.length
 run:∀ (A:Around) (outer:List Env) (s:Shared) (H:Hp) (args:Args) (us:List Value) (vs:List V) (Q:VK) (E:XK),cj k A->yk P w K mg base A outer s H->BindsTo s fd args (ps.zip us)->Vals vs us->sp vs H Q E ->
  codeAny (model P w) A (.call (.ref f) args) (CR CX outer P w H s Q E) s
theorem yk.make{P:Program}{w:World}{K:FG}{mg:Str->Option Value}{base:Heap}{A:Around}{outer:List Env}{s:Shared}{H:Hp}(e:yk P w K mg base A outer s H)(C:Addr)(us:List Value)(kw:List (Str×Value)) :
  yk P w K mg base (A.under (.builtin "type.__call__" ⟨.ref C::us,kw⟩)) outer s H:=⟨by first | exact e.frames | (simpa [Around.under,Code.envs,Code.isFrame,pushEnvs] using e.frames),e.mod,e.bs,e.bsz,e.ll,e.frf,e.hok,e.bare⟩
section
variable {X:Cx}{pins:PN}{σ:St}{H:Hp}{s s':Shared}
theorem Inv.acw(I:Inv X pins σ H s):yk X.prog X.w X.K X.mg X.base X.A X.stack s H:=
 ⟨I.ok.frames,I.ok.mod,I.bs,Nat.le_trans I.ok.bsz I.sz,I.stack,I.lP,I.hok,I.bare⟩
theorem Inv.after{Q:VK}{u:Value}(I:Inv X pins σ H s)(h:CE X.stack X.prog X.w H s Q u s'):EP X pins σ Q u s':=by obtain⟨v,H',os,bare,un,hok,r,q⟩:=h;obtain⟨hh,g,d,t,os'⟩:=s';obtain rfl:os'=s.os:=os;exact⟨v,H',I.call (h':=hh) (g':=g) (d':=d) (t':=t) (ch:=[]) un hok bare (λ b z=>absurd z (by simp)),r,q⟩
end
def ab4(sp:Sp)(dvs:List V)(E:XK)(t:TA):TE:=λ σ H Q=>t σ H λ vs H1=>sp (vs++dvs) H1 Q E
def xw(C:Addr)(m:Str)(sp:Sp)(dvs:List V)(E:XK)(ta:TE)(t:TA):TE:=λ σ H Q=>ta σ H λ x H1=>∃ a dx fs,x=.ref a/\H1 a=some (.ins C dx fs)/\fs.lookup m=none /\
 t σ H1 λ vs H2=>sp (x::(vs++dvs)) H2 Q E
def abx(C:Addr)(sp:Sp)(dvs:List V)(E:XK)(t:TA):TE:=λ σ H Q=>t σ H λ vs H1=>∀ x dx,H1 x=none->H1 dx=none->dx≠x ->
 sp (.ref x::(vs++dvs)) (upd (upd H1 dx (.own x)) x (.ins C dx [])) (λ v H2=>v=.non/\Q (.ref x) H2) E
def Binds(K:FG)(fd:FuncData)(ps:List Str)(ds:List Value):Prop:=
 ∀ (s:Shared) (us:List Value),K.In s.heap->(us++ds).length=ps.length->BindsTo s fd ⟨us,[]⟩ (ps.zip (us++ds))
theorem Binds.all{K:FG}{fd:FuncData}{ps:List Str}(h:∀ us:List Value,us.length=ps.length->bindArgs fd ⟨us,[]⟩=pure (ps.zip us)):Binds K fd ps []:=λ s us _ hl=>by rw[List.append_nil] at hl ⊢;exact .of_eq (h us hl)
def Passes(CX:CXT)(X:Cx)(E:XK):Prop:=∀ (pins:PN) (σ:St) (H:Hp) (s:Shared) (e:Value) (s':Shared),Inv X pins σ H s->CX X.stack H s E e s'->X.xe e s'
section
variable {X:Cx}{CX:CXT}{k:Nat}{f C:Addr}{fd:FuncData}{ps:List Str}{sp:Sp}{dvs:List V}{ds:List Value}{E:XK}{x m:Str}{p pos apos:Pos}{e o:Expr}{es:List Expr}{ta:TE}{t:TA}
theorem qx{pins:PN}{σ:St}{H:Hp}{s:Shared}{Q:VK}{us:List Value}{vs:List V}(F:cR X.prog X.w X.K X.mg X.base CX k f fd ps sp)(hr:cj k X.A)(hb:Binds X.K fd ps ds)(hd:Vals dvs ds)(hx:Passes CX X E)
  (I:Inv X pins σ H s)(r:Vals vs us)(h:sp (vs++dvs) H Q E):wpAny (model X.prog X.w) X.A (call (.ref f) us) (EP X pins σ Q) X.xe s:=by
 have r2:Vals (vs++dvs) (us++ds):=r.append hd;have hl:(us++ds).length=ps.length:=by rw[<- r2.length];exact F.len _ _ _ _ h
 refine wpAny_call (codeAny_mono (F.run X.A X.stack s H ⟨us,[]⟩ (us++ds) (vs++dvs) Q E hr I.acw (hb s us I.kIn hl) r2 h) λ r s' hq=>?_);cases r with
 | error e=>exact hx pins σ H s e s' I hq
 | ok fl =>
  cases fl with
  | ret u=>exact I.after hq
  | next=>exact False.elim hq
  | brk=>exact False.elim hq
  | cont=>exact False.elim hq
theorem xo(F:cR X.prog X.w X.K X.mg X.base CX k f fd ps sp)(hr:cj k X.A)(hg:Gl X x)(hm:X.mg x=some (.ref f))(hk:W.keepIn X.K (.ref f)=true)(hb:Binds X.K fd ps ds)(hd:Vals dvs ds)(hx:Passes CX X E)
  (ha:PA X (e::es) t)(hdb:ND x:=by decide)(he:starEach (e::es) X.env=(false,eval e X.env)::starEach es X.env:=by rfl)(hpl:(backTo pos (starEach es X.env)).any (·.1)=false:=by rfl) :
  PE X (.Call (.Name x p) (e::es) [] pos) (ab4 sp dvs E t):=by
 intro pins s σ H Q I h;refine wpAny_Call_Name_kw (rP I hg hm ?_ hdb);refine W.callWith_K (h₀:=X.base) I.ok.mod.kin hk (thn (ha pos pins s σ H _ I h) λ us s1 ⟨vs,H1,I1,r,q⟩=>⟨I1.kIn,?_⟩) he hpl;exact qx F hr hb hd hx I1 r q
theorem ye{pl:Sem Bool}(he:PE X o ta)(c:Cls X.K C)(hm:Meth X.K C m f)(F:cR X.prog X.w X.K X.mg X.base CX k f fd ps sp)(hr:cj k X.A)(hb:Binds X.K fd ps ds)(hd:Vals dvs ds)(hx:Passes CX X E)(ha:PA X (e::es) t)
  (hst:starEach (e::es) X.env=(false,eval e X.env)::starEach es X.env:=by rfl)(hpl:(backTo pos (starEach es X.env)).any (·.1)=false:=by rfl)
  (ht:eval (.Call (.Attribute o m apos) (e::es) [] pos) X.env=(do
   let ov <- eval o X.env
   standAt apos.atName
   let (f,first) <- holding [ov] (getMethod ov m pl)
   callWith pos f first (backTo pos (starEach (e::es) X.env)) (backToKw pos (keywordEach [] X.env))):=by rfl) :
  PE X (.Call (.Attribute o m apos) (e::es) [] pos) (xw C m sp dvs E ta t):=by
 intro pins s σ H Q I h;refine W.methodCall_KW (pl:=pl) (thn (he pins s σ H _ I h) λ u s1 ⟨x,H1,I1,rx,a,dx,fs,ex,ea,l,q⟩=>?_) ht;subst ex;obtain rfl:u=Value.ref a:=rx;refine iL I1 ea c hm l ?_;refine W.callWith_K (first:=[.ref a]) (h₀:=X.base) I.ok.mod.kin hm.kp (thn (ha pos pins s1 σ H1 _ I1 q) λ us s2 ⟨vs,H2,I2,r,q2⟩=>⟨I2.kIn,?_⟩) hst hpl
 exact qx (us:=.ref a::us) (vs:=.ref a::vs) F hr hb hd hx I2 (.cons rfl r) q2
theorem tW{pl:Sem Bool}(he:PE X o ta)(c:Cls X.K C)(hm:Meth X.K C m f)(F:cR X.prog X.w X.K X.mg X.base CX k f fd ps sp)(hr:cj k X.A)(hb:Binds X.K fd ps ds)(hd:Vals dvs ds)(hx:Passes CX X E)
  (ht:eval (.Call (.Attribute o m apos) [] [] pos) X.env=(do
   let ov <- eval o X.env
   standAt apos.atName
   let (f,first) <- holding [ov] (getMethod ov m pl)
   callWith pos f first (backTo pos (starEach [] X.env)) (backToKw pos (keywordEach [] X.env))):=by rfl) :
  PE X (.Call (.Attribute o m apos) [] [] pos) (xw C m sp dvs E ta aax):=by
 intro pins s σ H Q I h;refine W.methodCall_KW (pl:=pl) (thn (he pins s σ H _ I h) λ u s1 ⟨x,H1,I1,rx,a,dx,fs,ex,ea,l,q⟩=>?_) ht;subst ex;obtain rfl:u=Value.ref a:=rx;refine iL I1 ea c hm l ?_;exact W.callWith_K0 (first:=[.ref a]) I1.kIn hm.kp (qx (us:=[.ref a]) (vs:=[.ref a]) F hr hb hd hx I1 (.cons rfl .nil) q)
structure Mk(K:FG)(C f:Addr):Prop where
 makes:W.makesIn K C=true
 init:W.findIn K (.ref C) "__init__" = some (some (.ref f))
 fn:W.isFn K (.ref f)=true
 kp:W.keepIn K (.ref C)=true
theorem tX{pins:PN}{σ:St}{H:Hp}{s:Shared}{Q:VK}{us:List Value}{vs:List V}(M:Mk X.K C f)(F:cR X.prog X.w X.K X.mg X.base CX k f fd ps sp)(hr:cj (k+1) X.A)(hb:Binds X.K fd ps ds)(hd:Vals dvs ds)
  (hx:Passes CX X E)(I:Inv X pins σ H s)(r:Vals vs us)
  (h:∀ x dx,H x=none->H dx=none->dx≠x->sp (.ref x::(vs++dvs)) (upd (upd H dx (.own x)) x (.ins C dx [])) (λ v H2=>v=.non/\Q (.ref x) H2) E) :
  wpAny (model X.prog X.w) X.A (call (.ref C) us) (EP X pins σ Q) X.xe s:=by
 have hq:=h (s.heap.objs.size+1) s.heap.objs.size (I.hok.fresh (Nat.le_succ _)) (I.hok.fresh (Nat.le_refl _)) (Nat.ne_of_lt (Nat.lt_succ_self _));have I2:=Inv.made (C:=C) I;have r2:Vals (V.ref (s.heap.objs.size+1)::(vs++dvs)) (Value.ref (s.heap.objs.size+1)::(us++ds)):=.cons rfl (r.append hd);have hl:(Value.ref (s.heap.objs.size+1)::us++ds).length=ps.length:=by have e:=r2.length;rw[F.len _ _ _ _ hq] at e;exact e.symm
 refine wpAny_call (tD (f:=f) I.kIn M.makes M.init (beq_iff_eq.mp M.fn) (codeAny_mono (F.run _ X.stack _ _ ⟨Value.ref (s.heap.objs.size+1)::us,[]⟩ (Value.ref (s.heap.objs.size+1)::(us++ds)) _ _ E (hr.make C us [])
  (I2.acw.make C us []) (hb _ (Value.ref (s.heap.objs.size+1)::us) I2.kIn hl) r2 hq) λ r s' hq'=>?_))
 cases r with
 | error e=>exact hx pins σ _ _ e s' I2 hq'
 | ok fl =>
  cases fl with
  | ret u =>
   obtain⟨v,H',I3,rv,ev,q3⟩:=I2.after hq';subst ev;exact⟨rv,⟨V.ref (s.heap.objs.size+1),H',I3,rfl,q3⟩⟩
  | next=>exact False.elim hq'
  | brk=>exact False.elim hq'
  | cont=>exact False.elim hq'
theorem wx(M:Mk X.K C f)(F:cR X.prog X.w X.K X.mg X.base CX k f fd ps sp)(hr:cj (k+1) X.A)(hg:Gl X x)(hm:X.mg x=some (.ref C))(hb:Binds X.K fd ps ds)(hd:Vals dvs ds)(hx:Passes CX X E)
  (ha:PA X (e::es) t)(hdb:ND x:=by decide)(he:starEach (e::es) X.env=(false,eval e X.env)::starEach es X.env:=by rfl)(hpl:(backTo pos (starEach es X.env)).any (·.1)=false:=by rfl) :
  PE X (.Call (.Name x p) (e::es) [] pos) (abx C sp dvs E t):=by
 intro pins s σ H Q I h;refine wpAny_Call_Name_kw (rP I hg hm ?_ hdb);refine W.callWith_K (h₀:=X.base) I.ok.mod.kin M.kp (thn (ha pos pins s σ H _ I h) λ us s1 ⟨vs,H1,I1,r,q⟩=>⟨I1.kIn,?_⟩) he hpl;exact tX M F hr hb hd hx I1 r q
end
def PK(X:Cx)(kws:List Keyword)(t:TA):Prop:=
 ∀ (pos:Pos) (pins:PN) (s:Shared) (σ:St) (H:Hp) (Q:List V->Hp->Prop),Inv X pins σ H s->t σ H Q->wpAny (model X.prog X.w) X.A (evalAll ((backToKw pos (keywordEach kws X.env)).map (·.2))) (AP X pins σ Q) X.xe s
section
variable {X:Cx}{CX:CXT}{k:Nat}{f C:Addr}{fd:FuncData}{ps ks:List Str}{sp:Sp}{E:XK}{x m:Str}{p pos apos kpos:Pos}{e o:Expr}{es:List Expr}{kws:List Keyword}{te ta:TE}{t tk:TA}{nm:Option Str}
theorem aaJ:PK X [] aax:=λ _ _ _ _ H Q I h=>wpAny_evalAll_nil ⟨[],H,I,.nil,h⟩
theorem x6(ha:PE X e te)(hr:PK X kws t):PK X (⟨nm,e,kpos⟩::kws) (sS te t):=by intro pos pins s σ H Q I h;show wpAny _ _ (evalAll ((do let v <- eval e X.env;standAt pos;pure v)::(backToKw pos (keywordEach kws X.env)).map (·.2))) _ _ s;refine wpAny_evalAll_cons (wpAny_bind (thn (ha pins s σ H _ I h) λ u s1 ⟨x,H1,I1,r1,q1⟩=>wpAny_bind (wpAny_standAt (wpAny_pure ?_))));exact thn (hr pos pins s1 σ H1 _ I1 q1) λ us s2 ⟨xs,H2,I2,r2,q2⟩=>⟨x::xs,H2,I2,.cons r1 r2,q2⟩
variable {g:List Value->List Value->List Value}{gV:List V->List V->List V}
end
structure bh(N P:List Str)(sc:Scope):Prop where
 kind:sc.kind=.function
 co:sc.isCoroutine=false
 gen:sc.isGenerator=false
 nd:N.Nodup
 pre:N.take P.length=P
 par:∀ x∈P,sc.names.lookup x=some .local\/sc.names.lookup x=some .cell
 nofree:∀ y∈sc.names,y.2 ≠ .free
theorem lb{kindOf:Str->Option NameKind}{x:Str}:∀ {binds:List (Str×Value)} {m:Str->Option Value},(∀ v,(x,v) ∉ binds)->bindL kindOf binds m x=m x
 | [],_,_=>rfl
 | (n,v)::r,m,h=>by
  unfold bindL;rw[lb λ w hw=>h w (List.mem_cons_of_mem _ hw)]
  split
  ·have:x≠n:=by rintro rfl;exact h v List.mem_cons_self
   simp[this]
  ·rfl
theorem j8{kindOf:Str->Option NameKind}{x:Str}:∀ {binds:List (Str×Value)} {m:Str->Option Value},(∀ v,(x,v) ∉ binds)->bindC kindOf binds m x=m x
 | [],_,_=>rfl
 | (n,v)::r,m,h=>by
  unfold bindC;rw[j8 λ w hw=>h w (List.mem_cons_of_mem _ hw)]
  split
  ·rfl
  ·have:x≠n:=by rintro rfl;exact h v List.mem_cons_self
   simp[this]
theorem j6{kindOf:Str->Option NameKind}{x:Str}{v:Value}:∀ {P:List Str} {vs:List Value} {i:Nat} {m:Str->Option Value},P.Nodup->P[i]? =some x->vs[i]? =some v->kindOf x=some .local ->
  bindL kindOf (P.zip vs) m x=some v
 | [],_,_,_,_,h,_,_=>by simp at h
 | _::_,[],_,_,_,_,h,_=>by simp at h
 | p::P,w::vs,0,m,nd,h1,h2,hk=>by simp at h1 h2;subst h1;subst h2;show bindL kindOf ((p,w)::P.zip vs) m p=_;unfold bindL;rw[lb λ v hv=>(List.nodup_cons.mp nd).1 (List.of_mem_zip hv).1,if_pos hk];simp
 | p::P,w::vs,i+1,m,nd,h1,h2,hk=>by show bindL kindOf ((p,w)::P.zip vs) m x=_;unfold bindL;exact j6 (i:=i) (List.nodup_cons.mp nd).2 (by simpa using h1) (by simpa using h2) hk
theorem kG{kindOf:Str->Option NameKind}{x:Str}{v:Value}:∀ {P:List Str} {vs:List Value} {i:Nat} {m:Str->Option Value},P.Nodup->P[i]? =some x->vs[i]? =some v->kindOf x≠some .local ->
  bindC kindOf (P.zip vs) m x=some v
 | [],_,_,_,_,h,_,_=>by simp at h
 | _::_,[],_,_,_,_,h,_=>by simp at h
 | p::P,w::vs,0,m,nd,h1,h2,hk=>by simp at h1 h2;subst h1;subst h2;show bindC kindOf ((p,w)::P.zip vs) m p=_;unfold bindC;rw[j8 λ v hv=>(List.nodup_cons.mp nd).1 (List.of_mem_zip hv).1,if_neg hk];simp
 | p::P,w::vs,i+1,m,nd,h1,h2,hk=>by show bindC kindOf ((p,w)::P.zip vs) m x=_;unfold bindC;exact kG (i:=i) (List.nodup_cons.mp nd).2 (by simpa using h1) (by simpa using h2) hk
def start(N:List Str)(vs:List V):St:=vs.map some++List.replicate (N.length-vs.length) none
def vc(CX:CXT)(P:Program)(w:World)(K:FG)(mg:Str->Option Value)(base:Heap)(N:List Str)(qual:Str)(scope:Scope)(f:Addr)(cd:Value)(A:Around)(outer:List Env)(s:Shared)(H:Hp)(E:XK):Cx where
 prog:=P
 w:=w
 K:=K
 mg:=mg
 base:=base
 A:=A.deeper (envOfC qual scope s.heap.objs.size f cd)
 N:=N
 s₀:=s
 H₀:=H
 env:=envOfC qual scope s.heap.objs.size f cd
 outer:=outer
 stack:=envOfC qual scope s.heap.objs.size f cd::outer
 ex:=[]
 calm:=true
 fn:=λ _=>true
 pn:=[]
 xe:=λ e s'=>wpAny (model P w) (A.deeper (envOfC qual scope s.heap.objs.size f cd)) (leaving (envOfC qual scope s.heap.objs.size f cd) e) (λ _ s''=>CX outer H s E e s'') (λ e' s''=>CX outer H s E e' s'') s'
theorem mW{sc:Scope}{n:Nat}{x:Str}(h:sc.names.lookup x=some .cell):∃ c,(cellsFrom n sc.names []).lookup x=some c:=by have q:=W.cellsFrom_some sc.names n [] (.inl h);exact Option.isSome_iff_exists.mp q
theorem pS{CX:CXT}{P:Program}{w:World}{K:FG}{mg:Str->Option Value}{base:Heap}{N ps:List Str}{qual:Str}{scope:Scope}{f:Addr}{cd:Value}{A:Around}{outer:List Env}{s s1:Shared}{H:Hp}{E:XK}{us:List Value}{vs:List V}
  (S:bh N ps scope)(hd:A.handled=none)(e0:yk P w K mg base A outer s H)(hl:vs.length=ps.length)(r:Vals vs us)
  (x:InCallC s s.heap.objs.size (bindL (envOfC qual scope s.heap.objs.size f cd).kindOf (ps.zip us) λ _=>none) (cellsFrom (s.heap.objs.size+1) scope.names []) (bindC (envOfC qual scope s.heap.objs.size f cd).kindOf (ps.zip us) λ _=>none) s1) :
  Inv (vc CX P w K mg base N qual scope f cd A outer s H E) [] (start N vs) H s1:=by
 have hpl:ps.length<=N.length:=by have:=congrArg List.length S.pre;rw[List.length_take] at this;omega
 obtain⟨h1,tk,rfl,hk⟩:=x.done;have noA:∀ b:Addr,b ∉ (vc CX P w K mg base N qual scope f cd A outer s H E).ex:=λ b z=>absurd (show b∈([]:List Addr) from z) (by simp);refine⟨⟨e0.mod,S.kind,rfl,rfl,Nat.le_refl _,λ y z c h1 h2=>?_,λ y hy=>?_,λ y c _ h=>?_,λ _=>hd,Around.frames_deeper e0.frames,.inr ⟨rfl,rfl⟩,λ b z=>absurd z (noA b),e0.bs,e0.bsz,λ b _ _=>noA b,λ b z=>absurd z (noA b),e0.ll,e0.frf⟩,
  rfl,e0.bare,Un.kept hk,⟨_,x.toInCall.ns,λ i y v h1 h2 h3=>?_⟩,λ y c h=>⟨_,x.cell y c h⟩,e0.hok.fresh (Nat.le_refl _),λ y c h=>?_,λ p hp=>absurd (show p∈([]:PN) from hp) (by simp),e0.hok.kept hk,?_⟩
 ·exact name_of_addr x.apart (PySem.mem_of_lookup h1) (PySem.mem_of_lookup h2)
 ·have hy:scope.names.lookup y=some .cell\/scope.names.lookup y=some .free:=hy;rcases hy with hy | hy
  ·exact mW hy
  ·exact absurd rfl (S.nofree _ (PySem.mem_of_lookup hy))
 ·exact Nat.le_of_lt (x.above y c (PySem.mem_of_lookup h))
 ·have hi:i<vs.length:=by
   unfold start at h2
   by_cases hi:i<vs.length
   ·exact hi
   ·rw[List.getElem?_append_right (by simpa using hi)] at h2;rw[List.getElem?_replicate] at h2
    split at h2<;>cases h2
  have ha:vs[i]? =some v:=by
   unfold start at h2;rw[List.getElem?_append_left (by simpa using hi),List.getElem?_map] at h2;cases e:vs[i]? with
   | none=>rw[e] at h2;cases h2
   | some a=>rw[e] at h2;cases h2;rfl
  obtain⟨u,hu,rv⟩:=r.get ha;have hp:ps[i]? =some y:=by rw[<- S.pre,List.getElem?_take_of_lt (by omega)];exact h1
  have ndP:ps.Nodup:=by rw[<- S.pre];exact S.nd.sublist (List.take_sublist _ _)
  refine⟨u,rv,?_⟩;rcases S.par y (List.mem_of_getElem? hp) with k | k
  ·exact .inl ⟨k,j6 ndP hp hu k⟩
  ·obtain⟨c,e⟩:=mW (n:=s.heap.objs.size+1) k;refine .inr ⟨.inl k,c,e,?_⟩;have q:=x.cell y c e;rw[kG ndP hp hu (by show scope.names.lookup y≠_;rw[k];decide)] at q;exact q
 ·exact e0.hok.fresh (Nat.le_of_lt (x.above y c (PySem.mem_of_lookup h)))
 ·unfold start;show _=N.length;rw[List.length_append,List.length_map,List.length_replicate];omega
theorem yE{CX:CXT}{P:Program}{w:World}{K:FG}{mg:Str->Option Value}{base:Heap}{k:Nat}{f:Addr}{name qual:Str}{params:Arguments}{body:List Stmt}{scope:Scope}{dV kV doc pm cdv ct oc:Value}{an od:Option Addr}
  {osl:Array (Option Value)}{N ps:List Str}{sp:Sp}(lk:K.lookup f=some ⟨oc,od,.func (W.fnOf name qual params body scope dV kV doc pm an cdv ct),osl⟩)(hcd:W.codeIn K cdv qual=true)(S:bh N ps scope)
  (len:∀ vs H Q E,sp vs H Q E->vs.length=ps.length)
  (hbody:∀ (A:Around) (outer:List Env) (s:Shared) (H:Hp) (vs:List V) (Q:VK) (E:XK),cj k (A.deeper (envOfC qual scope s.heap.objs.size f cdv))->sp vs H Q E ->
   ∃ t,PSs (vc CX P w K mg base N qual scope f cdv A outer s H E) body t/\t {nx:=λ _ H'=>Q .non H',rt:=Q} (start N vs) H) :
  cR P w K mg base CX (k+1) f (W.fnOf name qual params body scope dV kV doc pm an cdv ct) ps sp:=by
 refine⟨len,λ A outer s H args us vs Q E hr e0 hb r hsp=>?_⟩;have hl:=len _ _ _ _ hsp;have KX:K.In s.heap:=e0.mod.kin.keeps λ b o e=>(e0.bs b o e).1;have lim:s.heap.NoLimit:=e0.mod.nolimit.keeps λ b o e=>(e0.bs b o e).1;have hkind:∀ y∈ps.zip us,scope.names.lookup y.1=some .local\/(scope.names.lookup y.1=some .cell/\((cellsFrom (s.heap.objs.size+1) scope.names []).lookup y.1).isSome=true):=λ⟨n,v⟩ hy=>by
  rcases S.par n (List.of_mem_zip hy).1 with q | q
  ·exact .inl q
  ·exact .inr ⟨q,W.cellsFrom_some _ _ _ (.inl q)⟩
 refine codeAny_call_function hr.depth (KX _ _ lk) rfl S.co S.gen rfl (W.codeRec_of KX hcd) (hb _ _ _ _ ?_);refine wpAny_newFunctionEnv_cells S.kind hkind λ env he s1 x=>?_;subst he;refine⟨lim.keeps x.toInCall.keep,codeAny_func ?_⟩;obtain⟨t,ht,hq⟩:=hbody A outer s H vs Q E (hr.deeper _) hsp;have I:Inv (vc CX P w K mg base N qual scope f cdv A outer s H E) [] (start N vs) H s1:=pS S hr.hd e0 hl r x;refine wpAny_mono (ht [] s1 (start N vs) H _ I hq) (λ fl s' hs=>?_) λ e s' hs=>hs;have fin:∀ {σ':St} {H':Hp} {v:V} {u:Value},Inv (vc CX P w K mg base N qual scope f cdv A outer s H E) [] σ' H' s'->RelV v u->Q v H'->CE outer P w H s Q u s':=
  λ {σ' H' v u} J rv q=>⟨v,H',J.os,J.bare,J.base,J.hok,rv,q⟩
 cases fl with
 | ret u =>
  obtain⟨v,σ',H',J,rv,q⟩:=hs;exact fin J rv q
 | next =>
  obtain⟨σ',H',J,q⟩:=hs;exact fin (v:=V.non) (u:=Value.none) J rfl q
 | brk =>
  obtain⟨_,_,_,q⟩:=hs;exact False.elim q
 | cont =>
  obtain⟨_,_,_,q⟩:=hs;exact False.elim q
section
variable {X:Cx}{x:Str}{p pos:Pos}{e:Expr}{es:List Expr}{t:TA}{id T:String}{r:List V->Hp->VK->Prop}
def tCB(r:List V->Hp->VK->Prop)(t:TA):TE:=λ σ H Q=>t σ H λ vs H1=>r vs H1 Q
theorem tH(hc:eA X (.builtin id) r)(hg:Gl X x)(hm:X.mg x=none)(hv:bootBuiltins x=some (.builtin id))(ha:PA X (e::es) t)(hn:x ≠ "__name__":= by decide)(hdb:ND x:=by decide)
  (he:starEach (e::es) X.env=(false,eval e X.env)::starEach es X.env:=by rfl)(hpl:(backTo pos (starEach es X.env)).any (·.1)=false:=by rfl):PE X (.Call (.Name x p) (e::es) [] pos) (tCB r t):=by
 intro pins s σ H Q I h;refine wpAny_Call_Name_kw (iQ I hg hm hv ?_ hn hdb);exact PyProof.Rows.callWith_builtin1 (thn (ha pos pins s σ H _ I h) λ us s1 ⟨vs,H1,I1,r1,q1⟩=>hc pins s1 σ H1 vs us Q I1 r1 q1) he hpl
theorem pF(hc:eA X (.type T) r)(hg:Gl X x)(hm:X.mg x=none)(hv:bootBuiltins x=some (.type T))(ha:PA X (e::es) t)(hn:x ≠ "__name__":= by decide)(hdb:ND x:=by decide)
  (he:starEach (e::es) X.env=(false,eval e X.env)::starEach es X.env:=by rfl)(hpl:(backTo pos (starEach es X.env)).any (·.1)=false:=by rfl):PE X (.Call (.Name x p) (e::es) [] pos) (tCB r t):=by
 intro pins s σ H Q I h;refine wpAny_Call_Name_kw (iQ I hg hm hv ?_ hn hdb);exact PyProof.Rows.callWith_type1 (thn (ha pos pins s σ H _ I h) λ us s1 ⟨vs,H1,I1,r1,q1⟩=>hc pins s1 σ H1 vs us Q I1 r1 q1) he hpl
end
end L2
namespace HT
open PySem PyProof.Rows
section
open PySem.SeqAt
open PySem.AutoSeq1 (wpAny_loadPart')
open PySem.MeetsSeq PySem.MeetsSeq2 PySem.MeetsSeq3
end
section
variable {prog:Program}{w:World}{A:Around}{E:VP}{s:Shared}
def sIx(n d:Nat):Option Int->Nat
 | none=>d
 | some v=>if v<0 then (v+(n:Int)).toNat else min v.toNat n
theorem zY(n d:Nat)(hd:d<=n)(o:Option Int):sIx n d o<=n:=by
 cases o with
 | none=>exact hd
 | some v =>
  show(if v<0 then (v+(n:Int)).toNat else min v.toNat n)<=n
  by_cases hv:v<0
  ·rw[if_pos hv];omega
  ·rw[if_neg hv];exact Nat.min_le_right _ _
theorem qK(v:Int)(n d:Nat):(if v<0 then max (v+(n:Int)) 0 else min v (n:Int))=((sIx n d (some v):Nat):Int):=by
 show(if v<0 then max (v+(n:Int)) 0 else min v (n:Int))=(((if v<0 then (v+(n:Int)).toNat else min v.toNat n):Nat):Int)
 by_cases hv:v<0
 ·simp only[if_pos hv];omega
 ·simp only[if_neg hv];omega
theorem nI(lo hi:Option Int)(n:Nat):Builtin.Slice.sliceAdjust lo hi 1 (n:Int)=(((sIx n 0 lo:Nat):Int),((sIx n n hi:Nat):Int)):=by
 have h1:¬ ((1:Int)<0):=by omega
 unfold Builtin.Slice.sliceAdjust;simp only[h1,if_false];refine Prod.ext ?_ ?_
 ·cases lo with
  | none=>rfl
  | some v=>exact qK v n 0
 ·cases hi with
  | none=>rfl
  | some v=>exact qK v n n
theorem nG(i j:Nat):Builtin.Slice.slicePlaces (i:Int) (j:Int) 1=j-i:=by
 unfold Builtin.Slice.slicePlaces;have h1:(1:Int) > 0:=by omega
 simp only[h1,if_true,Int.ediv_one]
 split<;>omega
theorem iY{v:Value}{o:Option Int}{Q:Option Int->Shared->Prop}(p:IsPart v o)(h:Q o s):wpAny (model prog w) A (Builtin.Slice.slicePartIndex v) Q E s:=by
 cases p with
 | none=>exact slicePart_none h
 | int i t=>exact slicePart_int h
theorem fL{sl:Addr}{vl vu:Value}{lo hi:Option Int}{n:Nat}{Q:Int×Int×Nat->Shared->Prop}(hs:s.heap.IsSliceOf sl vl vu .none)(pl:IsPart vl lo)(pu:IsPart vu hi)
  (h:Q (((sIx n 0 lo:Nat):Int),1,sIx n n hi-sIx n 0 lo) s):wpAny (model prog w) A (Builtin.Slice.sliceApplied (.ref sl) (pure (n:Int))) Q E s:=by
 obtain⟨os,hos,hcs,hds⟩:=id hs;unfold Builtin.Slice.sliceApplied Builtin.Slice.sliceFields;refine wpAny_bind (wpAny_bind (wpAny_field hos hds (x:=vl) rfl (wpAny_bind (wpAny_field hos hds (x:=vu) rfl (wpAny_bind (wpAny_field hos hds (x:=.none) rfl (wpAny_pure ?_)))))));refine wpAny_bind (slicePart_none ?_);show wpAny _ _ (if ((1:Int)==0)=true then _ else _) _ _ s;rw[if_neg (by decide)];refine wpAny_bind (iY pl (wpAny_bind (iY pu (wpAny_bind (wpAny_pure ?_)))));show wpAny _ _ (match Builtin.Slice.sliceAdjust lo hi 1 (n:Int) with | (lo,hi)=>pure (lo,(1:Int),Builtin.Slice.slicePlaces lo hi 1)) _ _ s
 rw[nI lo hi n];show wpAny _ _ (pure (((sIx n 0 lo:Nat):Int),(1:Int),Builtin.Slice.slicePlaces ((sIx n 0 lo:Nat):Int) ((sIx n n hi:Nat):Int) 1)) _ _ s;rw[nG];exact wpAny_pure h
theorem uD(xs:Array Value)(i k:Nat):((List.range k).filterMap λ(m:Nat)=>xs[((i:Int)+(m:Int) * 1).toNat]?).toArray=((xs.toList.drop i).take k).toArray:=by
 have e:(λ(m:Nat)=>xs[((i:Int)+(m:Int) * 1).toNat]?)=λ m=>xs[i+m]?:=by
  funext m;have:((i:Int)+(m:Int) * 1).toNat=i+m:=by omega
  rw[this]
 rw[e];have:=pick_run xs i k;rw[List.filterMap_map] at this;have e2:((λ x=>xs[x]?) ∘ λ x=>i+x)=λ m=>xs[i+m]?:=rfl;rw[e2] at this;rw[this]
theorem fh{t sl:Addr}{items:Array Value}{vl vu:Value}{lo hi:Option Int}{Q:VP}(ht:IsTup s.heap t items)(hs:s.heap.IsSliceOf sl vl vu .none)(pl:IsPart vl lo)(pu:IsPart vu hi)
  (hw:¬ (sIx items.size 0 lo=0/\sIx items.size items.size hi=items.size))
  (h:Q (.ref s.heap.objs.size) {s with heap:=s.heap.push {cls:=.type "tuple",data:=.seq ((items.toList.drop (sIx items.size 0 lo)).take (sIx items.size items.size hi-sIx items.size 0 lo)).toArray}})
  (hsz:items.size<=sizeLine):wpAny (model prog w) A (getItem (.ref t) (.ref sl)) Q E s:=by
 have htake:sizeOk (.seq ((items.toList.drop (sIx items.size 0 lo)).take (sIx items.size items.size hi-sIx items.size 0 lo)).toArray):=by show((items.toList.drop (sIx items.size 0 lo)).take (sIx items.size items.size hi-sIx items.size 0 lo)).toArray.size<=sizeLine;rw[List.size_toArray,List.length_take,List.length_drop,Array.length_toList];omega
 have hj:sIx items.size items.size hi<=items.size:=zY _ _ (Nat.le_refl _) hi;obtain⟨os,hos,hcs,hds⟩:=id hs;have hTs:s.TypeIs (.ref sl) "slice":= ⟨os,hos,hcs⟩;unfold getItem
 try with_reducible refine wpAny_holding ?_
 first | refine wpAny_bind (wpAny_pure ?_) | skip
 refine wpAny_bind (wpAny_sequenceKey ht.typeIs (by decide) ?_);refine wpAny_bind (wpAny_callSpecial?_slot (name:=Str.ofString "__getitem__") ht.typeIs PyProof.Rows.slot_tuple_getitem
  (wpAny_call_entry PyProof.Rows.slot_tuple_getitem ht.typeIs entry_tuple_getitem ?_ (args_tuple_getitem _ _)))
 show wpAny _ _ (Builtin.Tuple.tupleItemsOf (.ref t) >>= _) _ _ s;refine wpAny_bind (tupleItemsOf_ ht ?_);refine wpAny_bind (wpAny_typeOf hTs ?_);rw[if_pos (by decide)];refine wpAny_bind (fL hs pl pu ?_);have hno:¬ ((((sIx items.size 0 lo:Nat):Int)==0&&(1:Int)==1&&(sIx items.size items.size hi-sIx items.size 0 lo)==items.size)=true):=by intro q;rw[Bool.and_eq_true,Bool.and_eq_true] at q;have q1:((sIx items.size 0 lo:Nat):Int)=0:=eq_of_beq q.1.1;have q2:sIx items.size items.size hi-sIx items.size 0 lo=items.size:=eq_of_beq q.2;exact hw ⟨by omega,by omega⟩
 show wpAny _ _ (if (((sIx items.size 0 lo:Nat):Int)==0&&(1:Int)==1&&(sIx items.size items.size hi-sIx items.size 0 lo)==items.size)=true then _ else _) _ _ s;rw[if_neg hno,uD]
 first
  | exact wpAny_bind (m:=Builtin.Tuple.tupleExact _) (wpAny_newObj_type (wpAny_pure ⟨_,rfl,wpAny_pure h⟩) htake)
  | exact wpAny_bind (m:=Builtin.Tuple.tupleExact _) (wpAny_newObj_type (wpAny_bind (wpAny_pure (wpAny_pure ⟨_,rfl,wpAny_pure h⟩))) htake)
  | exact wpAny_bind (wpAny_bind (m:=Builtin.Tuple.tupleExact _) (wpAny_newObj_type (wpAny_pure (wpAny_pure ⟨_,rfl,wpAny_pure h⟩)) htake))
  | exact wpAny_bind (wpAny_bind (m:=Builtin.Tuple.tupleExact _) (wpAny_newObj_type (wpAny_pure ⟨_,rfl,wpAny_pure h⟩) htake))
end
end HT
namespace L2
abbrev TO:=St->Hp->(Option Int->Hp->Prop)->Prop
def PO(X:Cx)(e:Option Expr)(t:TO):Prop:=
 ∀ (pins:PN) (s:Shared) (σ:St) (H:Hp) (Q:Option Int->Hp->Prop),Inv X pins σ H s->t σ H Q ->
  wpAny (model X.prog X.w) X.A (evalPart e X.env) (λ u s'=>∃ o H',Inv X pins σ H' s'/\IsPart u o/\Q o H') X.xe s
def wW:TO:=λ _ H Q=>Q none H
def abu(t:TE):TO:=λ σ H Q=>t σ H λ x H1=>∃ i,x=.int i/\Q (some i) H1
theorem intsAre_of{ns:List Int}:∀ {us:List Value},Vals (ns.map V.int) us->IntsAre us ns:=by
 induction ns with
 | nil=>intro us r;rw[List.map_nil] at r;cases r;exact .nil
 | cons n ns ih =>
  intro us r;rw[List.map_cons] at r;cases r with
  | cons r1 r2 =>
   obtain⟨t,e⟩:=r1;subst e;exact .cons n t (ih r2)
section
variable {X:Cx}{e:Expr}{te:TE}{lo hi:Option Expr}{tl th:TO}{pos p2:Pos}
theorem xC:PO X none wW:=by intro pins s σ H Q I h;rw[evalPart_none];exact wpAny_pure ⟨none,H,I,.none,h⟩
theorem xX(h:PE X e te):PO X (some e) (abu te):=by intro pins s σ H Q I hw;rw[evalPart_some];refine thn (h pins s σ H _ I hw) λ u s1 hq20=>?_;obtain⟨x,H1,I1,r1,q1⟩:=hq20;obtain⟨i,rfl,q⟩:=q1;obtain⟨t,rfl⟩:=r1;exact⟨some i,H1,I1,.int i t,q⟩
def SlR(X:Cx)(r:V->Option Int->Option Int->Hp->VK->Prop):Prop:=
 ∀ (pins:PN) (s:Shared) (σ:St) (H:Hp) (x:V) (v vl vu:Value) (lo hi:Option Int) (sl:Addr) (Q:VK),Inv X pins σ H s->RelV x v->s.heap.IsSliceOf sl vl vu .none->IsPart vl lo->IsPart vu hi->r x lo hi H Q ->
  ∃ T id,typeLookup (.type T) "__getitem__" = pure (some (.builtin id))/\s.TypeIs v T/\wpAny (model X.prog X.w) X.A (getItem v (.ref sl)) (EP X pins σ Q) X.xe s
theorem SlR.or{r r':V->Option Int->Option Int->Hp->VK->Prop}(h:SlR X r)(h':SlR X r'):SlR X (λ x lo hi H Q=>r x lo hi H Q\/r' x lo hi H Q):=by
 intro pins s σ H x v vl vu lo hi sl Q I rx hs pl pu q;rcases q with q | q
 ·exact h pins s σ H x v vl vu lo hi sl Q I rx hs pl pu q
 ·exact h' pins s σ H x v vl vu lo hi sl Q I rx hs pl pu q
def tSl(r:V->Option Int->Option Int->Hp->VK->Prop)(te:TE)(tl th:TO):TE:=λ σ H Q=>te σ H λ x H1=>tl σ H1 λ l H2=>th σ H2 λ u H3=>r x l u H3 Q
theorem uk{r:V->Option Int->Option Int->Hp->VK->Prop}(hr:SlR X r)(he:PE X e te)(hl:PO X lo tl)(hu:PO X hi th):PE X (.Subscript e (.Slice lo hi none p2) pos) (tSl r te tl th):=by intro pins s σ H Q I h;refine Subscript_ (thn (he pins s σ H _ I h) λ v s1 hq21=>?_);obtain⟨x,H1,I1,r1,q1⟩:=hq21;refine wpAny_Slice (thn (hl pins s1 σ H1 _ I1 q1) λ vl s2 ⟨l,H2,I2,pl,q2⟩=>thn (hu pins s2 σ H2 _ I2 q2) λ vu s3 hq22=>?_);obtain⟨u,H3,I3,pu,q3⟩:=hq22;rw[evalPart_none];refine wpAny_pure ?_;have I4:Inv X pins σ H3 {s3 with heap:=s3.heap.push {cls:=.type "slice",data:=.fields #[vl,vu,.none]}}:=I3.kept (t':=s3.toks) λ b ob q=>Heap.get?_push_of_some _ q;obtain⟨T,id,hT,ht,hg⟩:=hr pins {s3 with heap:=s3.heap.push {cls:=.type "slice",data:=.fields #[vl,vu,.none]}} σ H3 x v vl vu l u s3.heap.objs.size Q I4 r1 (Heap.IsSliceOf.new ..) pl pu q3;show wpAny (model X.prog X.w) X.A (subscriptTail e (.Slice lo hi none p2) v (.ref s3.heap.objs.size)) (EP X pins σ Q) X.xe {s3 with heap:=s3.heap.push {cls:=.type "slice",data:=.fields #[vl,vu,.none]}};exact tail_any (ops:=[.ref s3.heap.objs.size,v]) ht hT hg (by with_unfolding_all rfl)
def vk(xs:List V)(lo hi:Option Int):List V:=(xs.drop (HT.sIx xs.length 0 lo)).take (HT.sIx xs.length xs.length hi-HT.sIx xs.length 0 lo)
theorem gH(xs:List V)(lo hi:Option Int):(vk xs lo hi).length<=xs.length:=by
 unfold vk;rw[List.length_take,List.length_drop];omega
def acy(K:FG):V->Option Int->Option Int->Hp->VK->Prop:=λ x lo hi H Q=>∃ a xs,x=.ref a/\SqT K H a xs /\
 ¬ (HT.sIx xs.length 0 lo=0/\HT.sIx xs.length xs.length hi=xs.length)/\∀ p,H p=none->Q (.ref p) (upd H p (.tup (vk xs lo hi)))
theorem aaM:SlR X (acy X.K):=by
 intro pins s σ H x v vl vu lo hi sl Q I rx hs pl pu h;obtain⟨a,xs,rfl,hx,hw,q⟩:=h;cases rx;obtain⟨its,r,ht,hz⟩:=I.tuple hx;have hlen:its.toArray.size=xs.length:=by rw[List.size_toArray];exact r.length.symm
 refine⟨"tuple",_,PyProof.Rows.slot_tuple_getitem.lookup,ht.typeIs,?_⟩;refine HT.fh ht hs pl pu (by rw[hlen];exact hw) ?_ (by rw[hlen];exact hz);rw[hlen];refine⟨.ref s.heap.objs.size,_,I.laid (t':=s.toks) (o:=.tup (vk xs lo hi)) (λ b ob q=>Heap.get?_push_of_some _ q) (Nat.le_refl _) ?_,rfl,q _ (I.hok.fresh (Nat.le_refl _))⟩;exact⟨Nat.le_trans (gH xs lo hi) hz,_,(r.drop (HT.sIx xs.length 0 lo)).take (HT.sIx xs.length xs.length hi-HT.sIx xs.length 0 lo),u9.new _ _⟩
end
def ixN(n:Nat)(i:Int):Option Nat:=if 0<=i then (if i<n then some i.toNat else none) else if -(n:Int)<=i then some (i+n).toNat else none
def atI{α:Type}(xs:List α)(i:Int):Option α:=(ixN xs.length i).bind λ j=>xs[j]?
theorem qj{n:Nat}{i:Int}{j:Nat}(h:ixN n i=some j):seqIndex? i n=some j/\j<n/\-(n:Int)<=i/\i<n:=by
 unfold ixN at h
 by_cases h0:0<=i
 ·rw[if_pos h0] at h
  by_cases h1:i<n
  ·rw[if_pos h1] at h;have e:i.toNat=j:=Option.some.inj h;exact⟨by rw[seqIndex_of h0 h1,e],by omega,by omega,h1⟩
  ·rw[if_neg h1] at h;cases h
 ·rw[if_neg h0] at h
  by_cases h1:-(n:Int)<=i
  ·rw[if_pos h1] at h;have e:(i+n).toNat=j:=Option.some.inj h;exact⟨by rw[seqIndex_neg (by omega) h1,e],by omega,h1,by omega⟩
  ·rw[if_neg h1] at h;cases h
theorem jh{α:Type}{xs:List α}{i:Int}{v:α}(h:atI xs i=some v):∃ j,seqIndex? i xs.length=some j/\xs[j]? =some v/\j<xs.length/\-(xs.length:Int)<=i/\i<xs.length:=by
 unfold atI at h;cases e:ixN xs.length i with
 | none=>rw[e] at h;cases h
 | some j =>
  rw[e] at h;obtain⟨h1,h2,h3,h4⟩:=qj e;exact⟨j,h1,h,h2,h3,h4⟩
def lN(b:Expr):Prop:=∀ o i,subscripted b false o i=operate [o,i] (getItem o i)
def IxR(X:Cx)(r:R2):Prop:=
 ∀ (value slice:Expr) (pins:PN) (s:Shared) (σ:St) (H:Hp) (x y:V) (v u:Value) (Q:VK),Inv X pins σ H s->RelV x v->RelV y u->r x y H Q ->
  subscripted slice false v u=operate [v,u] (getItem v u)->wpAny (model X.prog X.w) X.A (subscriptTail value slice v u) (EP X pins σ Q) X.xe s
def MtR(X:Cx)(id:String)(r:V->List V->Hp->VK->Prop):Prop:=
 ∀ (pins:PN) (s:Shared) (σ:St) (H:Hp) (x:V) (xs:List V) (v:Value) (us:List Value) (Q:VK),Inv X pins σ H s->RelV x v->Vals xs us->r x xs H Q ->
  wpAny (model X.prog X.w) X.A (call (.builtin id) (v::us)) (EP X pins σ Q) X.xe s
section
variable {X:Cx}{a b:Expr}{ta tb:TE}{pos:Pos}
theorem IxR.or{r r':R2}(h:IxR X r)(h':IxR X r'):IxR X (λ x y H Q=>r x y H Q\/r' x y H Q):=by
 intro value slice pins s σ H x y v u Q I rx ry q hs;rcases q with q | q
 ·exact h value slice pins s σ H x y v u Q I rx ry q hs
 ·exact h' value slice pins s σ H x y v u Q I rx ry q hs
theorem abP{r:R2}(hr:IxR X r)(ha:PE X a ta)(hb:PE X b tb)(hs:lN b):PE X (.Subscript a b pos) (tOp r ta tb):=by intro pins s σ H Q I h;exact Subscript_ (acg ha hb I h λ v u s2 x y H2 I2 rx ry q=>hr a b pins s2 σ H2 x y v u Q I2 rx ry q (hs _ _))
def aby(K:FG):R2:=λ x y H Q=>∃ p xs i v,x=.ref p/\y=.int i/\SqL K H p xs/\atI xs i=some v/\Q v H
def acs(K:FG):R2:=λ x y H Q=>∃ p xs i v,x=.ref p/\y=.int i/\SqT K H p xs/\atI xs i=some v/\Q v H
def acR:R2:=λ x y H Q=>∃ z i c,x=.str z/\y=.int i/\z.length<=sizeLine/\atI z.cps.toList i=some c/\Q (.str ⟨#[c]⟩) H
theorem vD:IxR X (aby X.K):=by
 intro value slice pins s σ H x y v u Q I rx ry h hs;obtain⟨p,xs,i,z,rfl,rfl,hq,he,q⟩:=h;cases rx;obtain⟨t,rfl⟩:=ry;obtain⟨its,r,pl,hz⟩:=I.list hq;obtain⟨j,h1,h2,h3,h4,h5⟩:=jh he;obtain⟨w,ew,rw'⟩:=r.get h2;have hl:=r.length;have hn:=iJ;have fin:EP X pins σ Q w s:=⟨z,H,I,rw',q⟩
 by_cases h0:0<=i
 ·have hj:i.toNat=j:=by rw[seqIndex_of h0 h5] at h1;exact Option.some.inj h1
  exact item_listR pl.isList h0 (by omega) (by rw[hj];simpa using ew) fin hs
 ·have hj:(i+(its.toArray.size:Int)).toNat=j:=by rw[seqIndex_neg (by omega) h4] at h1;rw[List.size_toArray,<- hl];exact Option.some.inj h1
  exact subscriptTail_builtinR (x:=w) pl.isList.typeIs slot_list_getitem.lookup
   (wpAny_getItem_list_neg (Q:=λ r s'=>r=w/\EP X pins σ Q r s') pl.isList (by omega) (by rw[List.size_toArray]<;>omega) (by omega) (by rw[hj];simpa using ew) ⟨rfl,fin⟩) hs
theorem yV:IxR X (acs X.K):=by
 intro value slice pins s σ H x y v u Q I rx ry h hs;obtain⟨p,xs,i,z,rfl,rfl,hq,he,q⟩:=h;cases rx;obtain⟨t,rfl⟩:=ry;obtain⟨its,r,pl,hz⟩:=I.tuple hq;obtain⟨j,h1,h2,h3,h4,h5⟩:=jh he;obtain⟨w,ew,rw'⟩:=r.get h2;have hl:=r.length;have hn:=iJ;have fin:EP X pins σ Q w s:=⟨z,H,I,rw',q⟩;exact subscriptTail_builtinR (x:=w) pl.typeIs slot_tuple_getitem.lookup
  (getItem_tuple (j:=j) (Q:=λ r s'=>r=w/\EP X pins σ Q r s') pl (by omega) (by omega) (by rw[List.size_toArray,<- hl];exact h1) (by simpa using ew) ⟨rfl,fin⟩) hs
theorem aay:IxR X acR:=by
 intro value slice pins s σ H x y v u Q I rx ry h hs;obtain⟨z,i,c,rfl,rfl,hz,he,q⟩:=h;obtain⟨t,rfl⟩:=rx;obtain⟨t',rfl⟩:=ry;obtain⟨j,h1,h2,h3,h4,h5⟩:=jh he;have hl:z.cps.toList.length=z.length:=by simp[Str.length]
 rw[hl] at h1 h4 h5;have hn:=iJ;exact tail_any (typeIs_str s z t) slot_str_getitem.lookup (getItem_str (c:=c) (by have e1:decide (i < -(2 ^ 63:Int))=false:=decide_eq_false (by omega);have e2:decide (i >= 2 ^ 63)=false:=decide_eq_false (by omega);rw[e1,e2,Bool.or_false]) (by rw[h1];simpa using h2) ⟨.str ⟨#[c]⟩,H,I.tok _,⟨_,rfl⟩,q⟩) hs
def rIx(K:FG):R2:=λ x y H Q=>aby K x y H Q\/acs K x y H Q\/acR x y H Q
theorem bH:IxR X (rIx X.K):=vD.or (yV.or aay)
theorem ow(its:List Value)(n j:Nat)(u:Value):Obj.mapSeq (·.setIfInBounds j u) {cls:=.type "list",data:=.seq its.toArray n}={cls:=.type "list",data:=.seq (its.set j u).toArray n}:=by simp[Obj.mapSeq]
theorem Inv.lst{pins:PN}{σ:St}{H:Hp}{s:Shared}{p:Addr}{xs:List V}(I:Inv X pins σ H s)(h:H p=some (.lst xs)) :
  ∃ (its:List Value) (n:Nat),Vals xs its/\s.heap.get? p=some {cls:=.type "list",data:=.seq its.toArray n}/\xs.length<=sizeLine:=by
 obtain⟨z,its,n,r,e⟩:=I.hok p _ h;exact⟨its,n,r,e,z⟩
theorem Inv.aak{pins:PN}{σ:St}{H:Hp}{s:Shared}{p:Addr}{xs ys:List V}{its its':List Value}{n n':Nat}{f:Obj->Obj}(I:Inv X pins σ H s)(h:H p=some (.lst xs))
  (ho:s.heap.get? p=some {cls:=.type "list",data:=.seq its.toArray n})(hf:f {cls:=.type "list",data:=.seq its.toArray n}={cls:=.type "list",data:=.seq its'.toArray n'})(r:Vals ys its')(hz:ys.length<=sizeLine)(t:Nat) :
  Inv X pins σ (upd H p (.lst ys)) {s with heap:=s.heap.update p f,toks:=t}:=by
 have e:(s.heap.update p f).get? p=some {cls:=.type "list",data:=.seq its'.toArray n'}:=by rw[Heap.get?_update_self f ho (by rw[hf]<;>rfl),hf]
 refine I.write (x:=p) (e:=p) (by rw[h];trivial) (.inl rfl) (λ b u hb q=>(Heap.get?_update_other _ _ (Ne.symm hb)).trans q) ⟨_,e⟩ ?_;exact⟨hz,its',n',r,e⟩
def acd:V->V->V->Hp->(Hp->Prop)->Prop:=λ o i v H Q=>∃ p xs k j,o=.ref p/\i=.int k/\H p=some (.lst xs)/\ixN xs.length k=some j/\Q (upd H p (.lst (xs.set j v)))
theorem set_list:abV X acd:=by
 intro pins s σ H o i v ov iv u Q I ro ri rv h;obtain⟨p,xs,k,j,rfl,rfl,hp,hj,q⟩:=h;cases ro;obtain⟨t,rfl⟩:=ri;obtain⟨its,n,r,ho,hz⟩:=I.lst hp;obtain⟨h1,h2,h3,h4⟩:=qj hj;have hl:=r.length;have hn:=iJ;have I':Inv X pins σ (upd H p (.lst (xs.set j v))) {s with heap:=s.heap.update p (Obj.mapSeq (·.setIfInBounds j u))}:=
  I.aak hp ho (ow its n j u) (r.set rv j) (by rw[List.length_set];exact hz) s.toks
 by_cases h0:0<=k
 ·have hk:k.toNat=j:=by rw[seqIndex_of h0 h4] at h1;exact Option.some.inj h1
  exact W.ki_setAt ho h0 (by omega) (by rw[List.size_toArray,<- hl];exact h4) (by rw[hk];exact⟨_,I',q⟩)
 ·have hk:(k+(its.toArray.size:Int)).toNat=j:=by rw[seqIndex_neg (by omega) h3] at h1;rw[List.size_toArray,<- hl];exact Option.some.inj h1
  exact W.ki_setBack ho (by omega) (by rw[List.size_toArray,<- hl];exact h3) (by omega) (by rw[hk];exact⟨_,I',q⟩)
theorem jV(lo hi:Option Int)(n:Nat):(sliceBounds lo hi none n).1=((HT.sIx n 0 lo:Nat):Int)/\(sliceBounds lo hi none n).2.1=((HT.sIx n n hi:Nat):Int)/\(sliceBounds lo hi none n).2.2=1:=by
 refine⟨?_,?_,rfl⟩
 ·cases lo with
  | none=>simp[sliceBounds,HT.sIx]
  | some i =>
   simp only[sliceBounds,HT.sIx,Option.getD_none,show(1:Int) > 0 by decide,if_true]
   by_cases h:i<0
   ·simp only[h,if_true]<;>omega
   ·simp only[h,if_false]<;>omega
 ·cases hi with
  | none=>simp[sliceBounds,HT.sIx]
  | some i =>
   simp only[sliceBounds,HT.sIx,Option.getD_none,show(1:Int) > 0 by decide,if_true]
   by_cases h:i<0
   ·simp only[h,if_true]<;>omega
   ·simp only[h,if_false]<;>omega
theorem jJ(its:List Value)(lo hi:Option Int):slicePick its.toArray lo hi none=((its.drop (HT.sIx its.length 0 lo)).take (HT.sIx its.length its.length hi-HT.sIx its.length 0 lo)).toArray:=by obtain⟨h1,h2,h3⟩:=jV lo hi its.toArray.size;unfold slicePick;rw[h1,h2,h3];simp only[sliceRange_one,pick_run,List.size_toArray]<;>rfl
def acO(K:FG):V->Option Int->Option Int->Hp->VK->Prop:=λ x lo hi H Q=>∃ a xs,x=.ref a/\SqL K H a xs/\∀ p,H p=none->Q (.ref p) (upd H p (.lst (vk xs lo hi)))
theorem w4:SlR X (acO X.K):=by intro pins s σ H x v vl vu lo hi sl Q I rx hs pl pu h;obtain⟨a,xs,rfl,hx,q⟩:=h;cases rx;obtain⟨its,r,ht,hz⟩:=I.list hx;have hlen:=r.length;refine⟨"list",_,slot_list_getitem.lookup,ht.isList.typeIs,?_⟩;refine wpAny_getItem_list_slice ht.isList hs pl pu .none (by simp) ?_ (by rw[List.size_toArray]<;>omega);rw[jJ,<- hlen];refine⟨.ref s.heap.objs.size,_,I.laid (t':=s.toks) (o:=.lst (vk xs lo hi)) (λ b ob q=>Heap.get?_push_of_some _ q) (Nat.le_refl _) ?_,rfl,q _ (I.hok.fresh (Nat.le_refl _))⟩;exact⟨Nat.le_trans (gH xs lo hi) hz,_,0,(r.drop (HT.sIx xs.length 0 lo)).take (HT.sIx xs.length xs.length hi-HT.sIx xs.length 0 lo),Heap.get?_push_size _ rfl⟩
def iq:V->Bool
 | .non=>true
 | .bl _=>true
 | .int _=>true
 | .str _=>true
 | _=>false
def eqV:V->V->Bool
 | .non,.non=>true
 | .bl a,.bl b=>a==b
 | .bl a,.int b=>(if a then 1 else 0)==b
 | .int a,.bl b=>a==(if b then 1 else 0)
 | .int a,.int b=>a==b
 | .str a,.str b=>a==b
 | _,_=>false
theorem aaY{A:Around}{s:Shared}{y x:V}{u v:Value}(ry:RelV y u)(rx:RelV x v)(fy:iq y=true)(fx:iq x=true):SeqAt.EqAt A s u v (eqV y x):=by
 cases y with
 | non =>
  cases ry;cases x with
  | non=>cases rx;exact SeqAt.EqAt.same _
  | bl b=>cases rx;exact SeqAt.EqAt.none_bool b
  | int b=>obtain⟨t,rfl⟩:=rx;exact SeqAt.EqAt.none_int b t
  | str b=>obtain⟨t,rfl⟩:=rx;exact SeqAt.EqAt.none_str b t
  | _=>exact absurd (show false=true from fx) Bool.false_ne_true
 | bl a =>
  cases ry;cases x with
  | non=>cases rx;exact SeqAt.EqAt.bool_none a
  | bl b=>cases rx;exact SeqAt.EqAt.bool_bool a b
  | int b=>obtain⟨t,rfl⟩:=rx;exact SeqAt.EqAt.bool_int a b t
  | str b=>obtain⟨t,rfl⟩:=rx;exact SeqAt.EqAt.bool_str a b t
  | _=>exact absurd (show false=true from fx) Bool.false_ne_true
 | int a =>
  obtain⟨t',rfl⟩:=ry;cases x with
  | non=>cases rx;exact SeqAt.EqAt.int_none a t'
  | bl b=>cases rx;exact SeqAt.EqAt.int_bool a t' b
  | int b=>obtain⟨t,rfl⟩:=rx;exact SeqAt.EqAt.int_int a t' b t
  | str b=>obtain⟨t,rfl⟩:=rx;exact SeqAt.EqAt.int_str a t' b t
  | _=>exact absurd (show false=true from fx) Bool.false_ne_true
 | str a =>
  obtain⟨t',rfl⟩:=ry;cases x with
  | non=>cases rx;exact SeqAt.EqAt.str_none a t'
  | bl b=>cases rx;exact SeqAt.EqAt.str_bool a t' b
  | int b=>obtain⟨t,rfl⟩:=rx;exact SeqAt.EqAt.str_int a t' b t
  | str b=>obtain⟨t,rfl⟩:=rx;exact SeqAt.EqAt.str_str a t' b t
  | _=>exact absurd (show false=true from fx) Bool.false_ne_true
 | _=>exact absurd (show false=true from fy) Bool.false_ne_true
def eqU(x:V)(u:Value):Bool:=match u with
 | .none=>eqV .non x
 | .bool b=>eqV (.bl b) x
 | .int i _=>eqV (.int i) x
 | .str z _=>eqV (.str z) x
 | _=>false
theorem uM{x y:V}{u:Value}(r:RelV y u)(f:iq y=true):eqU x u=eqV y x:=by
 cases y with
 | non=>cases r;rfl
 | bl b=>cases r;rfl
 | int i=>obtain⟨t,rfl⟩:=r;rfl
 | str z=>obtain⟨t,rfl⟩:=r;rfl
 | _=>exact absurd (show false=true from f) Bool.false_ne_true
theorem lT{x:V}:∀ {xs:List V} {us:List Value},Vals xs us->xs.all iq=true->us.any (eqU x)=xs.any λ y=>eqV y x
 | _,_,.nil,_=>rfl
 | y::xs,u::us,.cons r t,f=>by rw[List.all_cons,Bool.and_eq_true] at f;rw[List.any_cons,List.any_cons,uM r f.1,lT t f.2]
theorem ju{A:Around}{s:Shared}{x:V}{v:Value}(rx:RelV x v)(fx:iq x=true):∀ {xs:List V} {us:List Value},Vals xs us->xs.all iq=true->∀ u∈us,SeqAt.EqAt A s u v (eqU x u)
 | _,_,.nil,_=>λ u hu=>by cases hu
 | y::xs,u::us,.cons r t,f=>λ u' hu=>by
  rw[List.all_cons,Bool.and_eq_true] at f;rcases List.mem_cons.mp hu with rfl | hu
  ·rw[uM r f.1];exact aaY r rx f.1 fx
  ·exact ju rx fx t f.2 u' hu
def inV(x:V)(xs:List V):Bool:=xs.any λ y=>eqV y x
def rIn(K:FG)(neg:Bool):R2:=λ x y H Q=>∃ p xs,y=.ref p/\(SqL K H p xs\/SqT K H p xs)/\iq x=true/\xs.all iq=true/\Q (.bl (if neg then !inV x xs else inV x xs)) H
theorem rh:OpR X (compareOp .In) (rIn X.K false):=by
 intro pins s σ H x y v u Q I rx ry h;obtain⟨p,xs,rfl,hq,fx,fs,q⟩:=h;cases ry;rcases hq with hq | hq
 ·obtain⟨its,r,pl,hz⟩:=I.list hq;refine SeqAt.in_listAt (eqU x) pl.isList (λ w hw=>ju rx fx r fs w (by simpa using hw)) ⟨.bl _,H,I,rfl,?_⟩;rw[show its.toArray.any (eqU x)=its.any (eqU x) by simp,lT r fs];exact q
 ·obtain⟨its,r,pl,hz⟩:=I.tuple hq;refine SeqAt.in_tupleAt (eqU x) pl (λ w hw=>ju rx fx r fs w (by simpa using hw)) ⟨.bl _,H,I,rfl,?_⟩;rw[show its.toArray.any (eqU x)=its.any (eqU x) by simp,lT r fs];exact q
theorem k8:eA X (.type "list") (λ xs H Q=>∃ p ys,xs=[.ref p]/\(SqL X.K H p ys\/SqT X.K H p ys)/\∀ l,H l=none->Q (.ref l) (upd H l (.lst ys))):=by
 intro pins s σ H xs us Q I r h;obtain⟨p,ys,rfl,hq,q⟩:=h;obtain⟨u,rfl,rx⟩:=vals1 r;cases rx;have fin:∀ (its:List Value),Vals ys its->ys.length<=sizeLine->∀ (h':Heap) (c':Nat),(∀ b o',s.heap.get? b=some o'->h'.get? b=some o') ->
   h'.get? s.heap.objs.size=some {cls:=.type "list",dict:=none,data:=.seq its.toArray c',slots:=#[]}->EP X pins σ Q (.ref s.heap.objs.size) {s with heap:=h'}:=λ its r' hz h' c' kp e =>
  ⟨.ref s.heap.objs.size,_,I.laid (t':=s.toks) kp (Nat.le_refl _) (show bX X.prog X.w _ h' _ (.lst ys) from⟨hz,its,c',r',e⟩),rfl,q _ (I.hok.fresh (Nat.le_refl _))⟩
 rcases hq with hq | hq
 ·obtain⟨its,r',pl,hz⟩:=I.list hq;have hlen:=r'.length;obtain⟨o,ho,hc,n,hd⟩:=pl.isList;exact call_list_seq p (.inl rfl) ho hc hd (λ h' c' kp e=>fin its r' hz h' c' kp e) (by simp only[List.size_toArray]<;>omega)
 ·obtain⟨its,r',pl,hz⟩:=I.tuple hq;have hlen:=r'.length;obtain⟨o,ho,hc,n,hd⟩:=pl;exact call_list_seq p (.inr rfl) ho hc hd (λ h' c' kp e=>fin its r' hz h' c' kp e) (by simp only[List.size_toArray]<;>omega)
def tyV(K:FG)(T:String)(x:V)(H:Hp):Prop:=match x with
 | .str _=>T = "str"
 | .int _=>T = "int"
 | .ref p=>(T = "list" /\ ∃ xs,SqL K H p xs)\/(T = "tuple" /\ ∃ xs,SqT K H p xs) \/
   (T = "dict" /\ ((∃ kvs,H p=some (.dK kvs))\/∃ kvs,H p=some (.dT kvs)))\/(T = "set" /\ ∃ S n,H p=some (.set S n))
 | _=>False
theorem zT{pins:PN}{σ:St}{H:Hp}{s:Shared}{T:String}{x:V}{v:Value}(I:Inv X pins σ H s)(r:RelV x v)(ty:tyV X.K T x H) :
  s.TypeIs v T/\∀ a,v=.ref a->∃ ob,s.heap.get? a=some ob/\ob.dict=none:=by
 cases x with
 | str z =>
  obtain⟨t,rfl⟩:=r;cases (show T = "str" from ty);exact⟨typeIs_str s z t,λ _ e=>nomatch e⟩
 | int i =>
  obtain⟨t,rfl⟩:=r;cases (show T = "int" from ty);exact⟨typeIs_int s i t,λ _ e=>nomatch e⟩
 | ref p =>
  cases r;rcases ty with ⟨rfl,xs,hq⟩ | ⟨rfl,xs,hq⟩ | ⟨rfl,hk⟩ | ⟨rfl,S,n,hk⟩
  ·obtain⟨its,_,pl,_⟩:=I.list hq;refine⟨pl.isList.typeIs,λ a e=>?_⟩;cases e;obtain⟨o,n,e,c,hd,_⟩:=pl;exact⟨o,e,hd⟩
  ·obtain⟨its,_,⟨o,h1,h2,h3,_⟩,_⟩:=I.acv hq;refine⟨⟨o,h1,h2⟩,λ a e=>?_⟩;cases e;exact⟨o,h1,h3⟩
  ·have z:∃ o,s.heap.get? p=some o/\o.ExactDict:=by
    rcases hk with ⟨kvs,hk⟩ | ⟨kvs,hk⟩
    ·obtain⟨_,_,_,_,o,_,_,e,ex,_⟩:=I.hok p _ hk;exact⟨o,e,ex⟩
    ·obtain⟨_,_,_,_,o,_,_,e,ex,_⟩:=I.hok p _ hk;exact⟨o,e,ex⟩
   obtain⟨o,e,ex⟩:=z;refine⟨⟨o,e,ex.1⟩,λ a e2=>?_⟩;cases e2;exact⟨o,e,ex.2.1⟩
  ·obtain⟨o,_,_,_,e,ex,_⟩:=I.hok p _ hk;refine⟨⟨o,e,ex.1⟩,λ a e2=>?_⟩;cases e2;exact⟨o,e,ex.2.1⟩
 | _=>exact False.elim ty
def tBM(K:FG)(T:String)(r:V->List V->Hp->VK->Prop)(to:TE)(t:TA):TE:=λ σ H Q=>to σ H λ x H1=>tyV K T x H1/\t σ H1 λ xs H2=>r x xs H2 Q
variable {o e:Expr}{es:List Expr}{to:TE}{t:TA}{name:Str}{apos cpos:Pos}{T id:String}{r:V->List V->Hp->VK->Prop}
theorem abp(pa:PlainAttrs T)(slot:Slot T name id)(hty:typeOf (.builtin id)=pure (.type "method_descriptor"))(hm:MtR X id r)(ho:PE X o to)(ha:PA X (e::es) t)
  (hbase:attributeBase o name X.env (eval o X.env)=eval o X.env:=by rfl)
  (hfew:((backTo cpos (starEach (e::es) X.env)).all (λ x=>!x.1)&&(backToKw cpos (keywordEach [] X.env)).all (λ x=>x.1.isSome)
   && decide ((e::es).length+([]:List Keyword).length+(if ([]:List Keyword).isEmpty then 0 else 1)<30))=true:=by rfl)
  (hline:(apos.endLine==cpos.line)=true:=by rfl)(hs:starEach (e::es) X.env=(false,eval e X.env)::starEach es X.env:=by rfl)(hplain:(backTo cpos (starEach es X.env)).any (·.1)=false:=by rfl) :
  PE X (.Call (.Attribute o name apos) (e::es) [] cpos) (tBM X.K T r to t):=by
 intro pins s σ H Q I h;refine wpAny_Call_method_late hbase hfew hline rfl (thn (ho pins s σ H _ I h) λ v s1 hq23=>?_);obtain⟨x,H1,I1,r1,ty,q1⟩:=hq23;obtain⟨h1,h2⟩:=zT I1 r1 ty;refine⟨T,id,pa,slot,hty,h1,h2,?_⟩;have hA:=ha cpos pins s1 σ H1 _ I1 q1;rw[hs] at hA ⊢;refine Calls.callWith_builtin (by show(false || (backTo cpos (starEach es X.env)).any (·.1))=false;rw[hplain]<;>rfl) (Calls.evalArgs_plain ?_);exact thn hA λ us s2 ⟨vs,H2,I2,r2,q2⟩=>hm pins s2 σ H2 x vs v us Q I2 r1 r2 q2
end
def MtM(X:Cx)(id:String)(r:V->List V->Hp->VK->Prop):Prop:=
 ∀ (pins:PN) (s:Shared) (σ:St) (H:Hp) (x:V) (xs:List V) (v:Value) (us:List Value) (Q:VK),Inv X pins σ H s->RelV x v->Vals xs us->r x xs H Q ->
  wpAny (model X.prog X.w) X.A (call (.builtin id) (v::us)) (EP X pins σ Q) X.xe s
theorem Vals.one:∀ {x:V} {us:List Value},Vals [x] us->∃ u,us=[u]/\RelV x u
 | _,_,.cons r .nil=>⟨_,rfl,r⟩
section
variable {X:Cx}{pins:PN}{σ:St}{H:Hp}{s:Shared}{l b:Addr}{xs ys zs:List V}
theorem Inv.ac9{its its':List Value}{n:Nat}{f:Array Value->Array Value}{t':Nat}(I:Inv X pins σ H s)(hH:H l=some (.lst xs))
  (e:s.heap.get? l=some {cls:=.type "list",data:=.seq its.toArray n})(hf:f its.toArray=its'.toArray)(hv:Vals ys its')(hz:ys.length<=sizeLine) :
  Inv X pins σ (upd H l (.lst ys)) {s with heap:=s.heap.update l (Obj.mapSeq f),toks:=t'}:=by
 have q:=PySem.IsL.update e f;rw[hf] at q;refine I.write (x:=l) (e:=l) (by rw[hH];exact trivial) (.inl rfl) (λ b' u hb hu=>(Heap.get?_update_other s.heap (Obj.mapSeq f) (Ne.symm hb)).trans hu) ⟨_,q⟩ ?_;exact⟨hz,its',_,hv,q⟩
theorem Inv.adl(I:Inv X pins σ H s)(hH:H l=some (.lst xs)):xs.length<=sizeLine/\∃ (its:List Value) (n:Nat),Vals xs its/\xs.length=its.length/\s.heap.get? l=some {cls:=.type "list",data:=.seq its.toArray n}:=by obtain⟨z,its,n,r,e⟩:=I.hok l _ hH;exact⟨z,its,n,r,r.length,e⟩
end
section
variable {X:Cx}
def wg:V->List V->Hp->VK->Prop:=λ x vs H Q=>∃ l xs y,x=.ref l/\vs=[y]/\H l=some (.lst xs)/\xs.length<sizeLine/\Q .non (upd H l (.lst (xs++[y])))
theorem rj:MtM X "list.append" wg:=by intro pins s σ H x vs v us Q I rx rv h;obtain⟨l,xs,y,rfl,rfl,hH,hz,q⟩:=h;cases rx;obtain⟨u,rfl,ru⟩:=rv.one;obtain⟨z,its,n,r,hl,e⟩:=I.adl hH;refine call_meets F.slot_list_append ⟨_,e,rfl⟩ F.entry_list_append (F.args_list_append_2 _ _) (PySem.list_append l its.toArray n u (by rw[List.size_toArray];omega)) ⟨e,?_⟩;refine⟨.non,_,I.ac9 (its':=its++[u]) hH e (by simp) (r.append (.cons ru .nil)) ?_,rfl,q⟩;rw[List.length_append,List.length_singleton];omega
end
section
variable {prog:Program}{w:World}{A:Around}{E:VP}{s:Shared}
end
section
variable {X:Cx}
end
end L2
namespace Att
open PySem PySem.W PySem.Calls PyProof.Rows
theorem gJ{P:Params}{h:Heap}:∀ (ns:List Int) (vs:List Value),WellAll P h vs (ns.map WData.int)->IntsAre vs ns:=by
 intro ns
 induction ns with
 | nil =>
  intro vs w;rw[List.map_nil] at w;cases w;exact .nil
 | cons n ns ih =>
  intro vs w;rw[List.map_cons] at w;cases w with
  | cons a b =>
   cases a;exact .cons _ _ (ih _ b)
theorem qY{l:OpenLaw}{n:Nat}(hn:l.most=some n){P:Params}{h:Heap}{args:List WData}{vals:List Value}
  (hpre:l.row.toRowW.claim.pre args=true)(hwl:WellAll P h vals args) :
  ∃ a vs ns,vals=[Value.ref a]/\args=[WData.list (ns.map WData.int)]/\h.get? a=some {cls:=.type "list",data:=.seq vs.toArray}/\IntsAre vs ns/\ns.length<=n:=by
 have hsh:WShape.hasAll [] args [.list .int]=true:=(pre_splitW hpre).1;have hc:l.pre.holds [] {args:=args}=true:=(pre_splitW hpre).2;obtain⟨d,r,rfl,h1,h2⟩:=hasAllW_cons hsh;obtain rfl:=hasAllW_nil h2;obtain⟨xs,rfl,h3⟩:=hasW_list h1;obtain⟨ns,rfl⟩:=items_int h3;have hlen:ns.length<=n:=by
  unfold OpenLaw.pre at hc;have h4:(WTm.not (.lt (.lit (.int (n:Int))) (.len (.arg 0)))).holds [] {args:=[.list (ns.map .int)]}=true:=by have h4:=(holds_andW hc).1;rw[hn] at h4;exact h4
  have h5:=condW_of h4 (w_not (w_lt w_lit (w_len_list (w_arg rfl))));rw[List.length_map] at h5;refine Nat.le_of_not_lt λ q=>?_;have q':(n:Int)<((ns.length:Nat):Int):=by omega
  first
   | (rw[decide_eq_true q'] at h5;exact absurd h5 (by decide))
   | (simp at h5;omega)
 cases hwl with
 | cons w1 w2 =>
  cases w2;cases w1 with
  | list ho hall=>exact⟨_,_,ns,rfl,rfl,ho,gJ ns _ hall,hlen⟩
theorem qe(l:OpenLaw)(args:List WData):l.row.toRowW.claim.post args (.bool true) args=true:=
 postW_of (r:=l.row.toRowW) (X:=(true==true))
  (show WShape.has [] (.bool true) .bool=true by first | rfl | decide | simp[WShape.has,WShape.arms,WShape.armsAll])
  (show(WTm.eq .res (.lit (.bool true))).value [] {args:=args,res:=some (.bool true),after:=args}=some (.bool (true==true)) from w_eq_bool (w_res rfl) w_lit) rfl
theorem ly{l:OpenLaw}{n:Nat}{q:Program}{loose:List Str}{XP:(Str->Option Value)->Heap->Prop}{YP:World->Heap->Prop}{d:DefRec}
  (hn:l.most=some n)(hdf:d.params.defaults=[])
  (call:∀ (w:World) (s₀ s₁:Shared) (mg mb:Str->Option Value) (fa:Addr) (o:Obj) (pm cd doc:Value) (a:Addr) (vs:List Value) (ns:List Int),
   Ground q loose [] XP w s₀ mg mb s₁.heap->YP w s₁.heap ->
   s₁.heap.get? fa=some o->o.data=.func (docDef d.name d.params d.body d.scope pm cd doc)->s₁.heap.CodeRec cd d.name->mg d.name=some (.ref fa) ->
   s₁.heap.get? a=some {cls:=.type "list",data:=.seq vs.toArray}->IntsAre vs ns->ns.length<=n->s₁.gens = #[] ->
   codeAny (model l.prog w) callerA (.call (.ref fa) ⟨[.ref a],[]⟩) (λ r s'=>r=.ok (.ret (.bool true))/\OldK s₁.heap s'.heap/\s'.os=s₁.os/\AllBare s'.gens) s₁) :
  WalkO q loose XP YP l.row.toRowW d [] (λ f vs=>PySem.call f vs):=by
 intro w s₀ s₁ mg mb G Y fa o pm cd doc dV kV ho hd hcd hD hmg hg args vals as hpre hlay hrd hwl hlo;obtain rfl:dV=.none:=Dflts.none hD hdf;obtain rfl:kV=.none:=Dflts.noKw hD;obtain⟨a,vs,ns,rfl,rfl,hobj,hints,hlen⟩:=qY hn hpre hwl;refine enter_call (codeAny_mono (call w s₀ s₁ mg mb fa o pm cd doc a vs ns G Y ho (fd_plain hd) hcd hmg hobj hints hlen hg) λ r s' hq=>?_);obtain⟨rfl,h2,h3,h4⟩:=hq;exact⟨.inl ⟨.bool true,.bool true,[],rfl,λ _=>rfl,.bool true,qe l _,λ _=>⟨List.Pairwise.nil,λ _ hm=>(nomatch hm)⟩⟩,h2,h3,h4⟩
section
variable {prog:Program}{w:World}{A:Around}{E:VP}{s:Shared}{K:Frag}
end
end Att
namespace L2
theorem kM:∀ {vs:List Value} {ns:List Int},IntsAre vs ns->Vals (ns.map V.int) vs
 | _,_,.nil=>.nil
 | _,_,.cons n t h=>.cons ⟨t,rfl⟩ (kM h)
def inClass(s:Stmt)(j:Nat):Stmt:=match s with
 | .ClassDef _ _ _ body _ _ _ _ _ _ _=>body.getD j (.Pass ⟨0,0,0,0⟩)
 | _=>.Pass ⟨0,0,0,0⟩
def aU(s:Stmt):Arguments:=match s with
 | .FunctionDef _ a _ _ _ _ _ _ _ _=>a
 | _=>{posonlyargs:=[],args:=[],vararg:=none,kwonlyargs:=[],kw_defaults:=[],kwarg:=none,defaults:=[]}
def aM(s:Stmt):List Stmt:=match s with
 | .FunctionDef _ _ b _ _ _ _ _ _ _=>b
 | _=>[]
def aq(s:Stmt):Scope:=match s with
 | .FunctionDef _ _ _ _ _ _ sc _ _ _=>sc
 | _=>{kind:=.function,names:=[],isGenerator:=false,isCoroutine:=false}
abbrev CX0:CXT:=λ _ _ _ _ _ _=>False
abbrev E0:XK:=λ _ _ _=>False
theorem uC{X:Cx}:Passes CX0 X E0:=λ _ _ _ _ _ _ _ h=>h.elim
structure Fun(K:FG)(x qual:Str)(st:Stmt)(f:Addr)(fd:FuncData):Prop where
 ex:∃ (oc:Value) (od:Option Addr) (kV doc pm:Value) (an:Option Addr) (cdv ct:Value) (osl:Array (Option Value)),
  fd=W.fnOf x qual (aU st) (aM st) (aq st) .none kV doc pm an cdv ct/\K.lookup f=some ⟨oc,od,.func fd,osl⟩/\W.codeIn K cdv qual=true
 kp:W.keepIn K (.ref f)=true
section
variable {P:Program}{w:World}{K:FG}{mg:Str->Option Value}{base:Heap}
theorem Fun.ok{x qual:Str}{st:Stmt}{f:Addr}{fd:FuncData}{N ps:List Str}{k:Nat}{sp:Sp}(F:Fun K x qual st f fd)(S:bh N ps (aq st))(len:∀ vs H Q E,sp vs H Q E->vs.length=ps.length)
  (hbody:∀ (cdv:Value) (A:Around) (outer:List Env) (s:Shared) (H:Hp) (vs:List V) (Q:VK) (E:XK),cj k (A.deeper (envOfC qual (aq st) s.heap.objs.size f cdv))->sp vs H Q E ->
   ∃ t,PSs (vc CX0 P w K mg base N qual (aq st) f cdv A outer s H E).nox (aM st) t/\t {nx:=λ _ H'=>Q .non H',rt:=Q} (start N vs) H):cR P w K mg base CX0 (k+1) f fd ps sp:=by
 obtain⟨oc,od,kV,doc,pm,an,cdv,ct,osl,rfl,lk,hcd⟩:=F.ex;refine yE lk hcd S len λ A outer s H vs Q E hr hsp=>?_;obtain⟨t,h,q⟩:=hbody cdv A outer s H vs Q E hr hsp;exact⟨t,h.nox,q⟩
theorem Fun.binds{x qual:Str}{st:Stmt}{f:Addr}{fd:FuncData}{ps:List Str}(F:Fun K x qual st f fd)
  (h:∀ (kV doc pm:Value) (an:Option Addr) (cdv ct:Value) (us:List Value),us.length=ps.length->bindArgs (W.fnOf x qual (aU st) (aM st) (aq st) .none kV doc pm an cdv ct) ⟨us,[]⟩=pure (ps.zip us)):Binds K fd ps []:=by
 obtain⟨oc,od,kV,doc,pm,an,cdv,ct,osl,rfl,lk,hcd⟩:=F.ex;exact .all (h kV doc pm an cdv ct)
theorem qH{x qual:Str}{st:Stmt}{f:Addr}{oc:Value}{od an:Option Addr}{osl:Array (Option Value)}{kV doc pm cdv ct:Value}(l:K.lookup f=some ⟨oc,od,.func (W.fnOf x qual (aU st) (aM st) (aq st) .none kV doc pm an cdv ct),osl⟩)
  (c:W.codeIn K cdv qual=true)(k:W.keepIn K (.ref f)=true):Fun K x qual st f (W.fnOf x qual (aU st) (aM st) (aq st) .none kV doc pm an cdv ct):=⟨⟨oc,od,kV,doc,pm,an,cdv,ct,osl,rfl,l,c⟩,k⟩
end
theorem da{A:Around}{k:Nat}(hr:cj k A):A.units+1<cLine:=Nat.lt_of_le_of_lt (Nat.add_le_add_left (by decide:1<=64) _) hr.units
section
variable {X:Cx}
end
theorem vL{A B:Prop}(h:B):if false=true then A else B:=by rw[if_neg Bool.false_ne_true];exact h
theorem yv{A B:Prop}(h:A):if true=true then A else B:=by rw[if_pos rfl];exact h
section
variable {κ:Type}[DecidableEq κ]
def qR(kvs:List (κ×V))(k:κ):Option V:=(kvs.find? λ kv=>decide (kv.1=k)).map (·.2)
def putK(kvs:List (κ×V))(k:κ)(v:V):List (κ×V):=
 if (kvs.any λ kv=>decide (kv.1=k))=true then kvs.map (λ kv=>if kv.1=k then (kv.1,v) else kv) else kvs++[(k,v)]
theorem fY{p:κ×V}{r:List (κ×V)}{k:κ}(e:p.1=k):qR (p::r) k=some p.2:=by simp[qR,List.find?_cons,e]
theorem fT{p:κ×V}{r:List (κ×V)}{k:κ}(e:¬ p.1=k):qR (p::r) k=qR r k:=by simp[qR,List.find?_cons,e]
theorem mN(k:κ):∀ kvs:List (κ×V),(kvs.any λ kv=>decide (kv.1=k))=(qR kvs k).isSome
 | []=>rfl
 | p::r=>by
  rw[List.any_cons]
  by_cases e:p.1=k
  ·simp only[fY e,decide_eq_true e,Bool.true_or,Option.isSome_some]
  ·rw[fT e,decide_eq_false e,Bool.false_or];exact mN k r
theorem eD(kvs:List (κ×V))(k:κ)(v:V):(putK kvs k v).length<=kvs.length+1:=by
 unfold putK
 split
 ·rw[List.length_map];omega
 ·rw[List.length_append,List.length_cons,List.length_nil];omega
theorem l7.qA{o:Option V}{u:Option Value}(r:l7 o u):o.isSome=u.isSome:=by
 cases o with
 | none=>cases u with
  | none=>rfl
  | some _=>exact(show False from r).elim
 | some _=>cases u with
  | none=>exact(show False from r).elim
  | some _=>rfl
theorem KV.val{kvs:List (κ×V)}{vs:List (κ×Value)}(r:KV kvs vs)(k:κ):l7 (qR kvs k) (valueAt vs k):=by
 unfold KV at r
 induction r with
 | nil=>exact True.intro
 | @cons p q ps qs h t ih =>
  obtain⟨h1,h2⟩:=h
  by_cases e:p.1=k
  ·have e':q.1=k:=h1.symm.trans e;have b:valueAt (q::qs) k=some q.2:=by simp[valueAt,List.find?_cons,e']
   rw[fY e,b];exact h2
  ·have e':¬ q.1=k:=λ z=>e (h1.trans z);have b:valueAt (q::qs) k=valueAt qs k:=by simp[valueAt,List.find?_cons,e']
   rw[fT e,b];exact ih
theorem KV.any{kvs:List (κ×V)}{vs:List (κ×Value)}(r:KV kvs vs)(k:κ):(kvs.any λ kv=>decide (kv.1=k))=vs.any λ kv=>decide (kv.1=k):=by
 unfold KV at r
 induction r with
 | nil=>rfl
 | cons h t ih=>rw[List.any_cons,List.any_cons,ih,h.1]
theorem KV.abo{kvs:List (κ×V)}{vs:List (κ×Value)}(r:KV kvs vs)(k:κ){y:V}{u:Value}(ry:RelV y u) :
  KV (kvs.map λ kv=>if kv.1=k then (kv.1,y) else kv) (vs.map λ kv=>if kv.1=k then (kv.1,u) else kv):=by
 unfold KV at r ⊢
 induction r with
 | nil=>exact .nil
 | @cons p q ps qs h t ih =>
  rw[List.map_cons,List.map_cons];refine .cons ?_ ih;obtain⟨h1,h2⟩:=h
  by_cases e:p.1=k
  ·rw[if_pos e,if_pos (h1.symm.trans e)];exact⟨h1,ry⟩
  ·rw[if_neg e,if_neg (λ z=>e (h1.trans z))];exact⟨h1,h2⟩
theorem KV.put{kvs:List (κ×V)}{vs:List (κ×Value)}(r:KV kvs vs)(k:κ){y:V}{u:Value}(ry:RelV y u):KV (putK kvs k y) (stored vs k u):=by
 unfold putK stored;rw[r.any k]
 by_cases e:(vs.any λ kv=>decide (kv.1=k))=true
 ·rw[if_pos e,if_pos e];exact r.abo k ry
 ·rw[if_neg e,if_neg e];exact Paired.snoc r ⟨rfl,ry⟩
theorem KV.length{kvs:List (κ×V)}{vs:List (κ×Value)}(r:KV kvs vs):kvs.length=vs.length:=Paired.length r
end
theorem rQ{P:Program}{w:World}{k:Key}{u:Value}(r:RelV (kV k) u):(bK P w).is k u=true:=by
 cases k with
 | inl i=>obtain⟨t,e⟩:=(show ∃ t,u=Value.int i t from r);subst e;exact l9 P w i t
 | inr x=>obtain⟨t,e⟩:=(show ∃ t,u=Value.str x t from r);subst e;exact lu P w x t
theorem jZ{P:Program}{w:World}:∀ {ks:List Key} {us:List Value},Vals (ks.map kV) us->ItemsAre (bK P w) ks us
 | [],_,r=>by rw[List.map_nil] at r;cases r;exact .nil
 | k::ks,_,r=>by
  rw[List.map_cons] at r;cases r with
  | cons h t=>exact .cons (rQ h) (jZ t)
abbrev KT(H:Hp):List (List Key×V)->List (List Key×Addr×Value)->Prop:=Paired λ p q=>p.1=q.1/\H q.2.1=some (.tup (p.1.map kV))/\RelV p.2 q.2.2
theorem KT.val{H:Hp}{kvs:List (List Key×V)}{xs:List (List Key×Addr×Value)}(r:KT H kvs xs)(k:List Key):l7 (qR kvs k) ((atKey xs k).map (·.2)):=by
 induction r with
 | nil=>exact True.intro
 | @cons p q ps qs h t ih =>
  obtain⟨h1,_,h2⟩:=h
  by_cases e:p.1=k
  ·have e':q.1=k:=h1.symm.trans e;have b:atKey (q::qs) k=some q.2:=by simp[atKey,List.find?_cons,e']
   rw[fY e,b];exact h2
  ·have e':¬ q.1=k:=λ z=>e (h1.trans z);have b:atKey (q::qs) k=atKey qs k:=by simp[atKey,List.find?_cons,e']
   rw[fT e,b];exact ih
theorem KT.abo{H:Hp}{kvs:List (List Key×V)}{xs:List (List Key×Addr×Value)}(r:KT H kvs xs)(k:List Key){y:V}{u:Value}(ry:RelV y u) :
  KT H (kvs.map λ kv=>if kv.1=k then (kv.1,y) else kv) (xs.map (putAt k u)):=by
 induction r with
 | nil=>exact .nil
 | @cons p q ps qs h t ih =>
  rw[List.map_cons,List.map_cons];refine .cons ?_ ih;obtain⟨h1,h2,h3⟩:=h;unfold putAt
  by_cases e:p.1=k
  ·rw[if_pos e,if_pos (h1.symm.trans e)];exact⟨h1,h2,ry⟩
  ·rw[if_neg e,if_neg (λ z=>e (h1.trans z))];exact⟨h1,h2,h3⟩
theorem KT.put{H:Hp}{kvs:List (List Key×V)}{xs:List (List Key×Addr×Value)}(r:KT H kvs xs)(k:List Key){b:Addr}{y:V}{u:Value}(hb:H b=some (.tup (k.map kV)))(ry:RelV y u) :
  KT H (putK kvs k y) (storedH xs k b u):=by
 have e:(kvs.any λ kv=>decide (kv.1=k))=(atKey xs k).isSome:=by rw[mN,(r.val k).qA,Option.isSome_map]
 unfold putK storedH;rw[e]
 by_cases q:(atKey xs k).isSome=true
 ·rw[if_pos q,if_pos q];exact r.abo k ry
 ·rw[if_neg q,if_neg q];exact Paired.snoc r ⟨rfl,hb,ry⟩
theorem KT.keeps{H H':Hp}{kvs:List (List Key×V)}{xs:List (List Key×Addr×Value)}(r:KT H kvs xs)(ht:∀ b ys,H b=some (.tup ys)->H' b=some (.tup ys)):KT H' kvs xs:=
 Paired.fw r λ _ _ z=>⟨z.1,ht _ _ z.2.1,z.2.2⟩
section
variable {P:Program}{w:World}{H:Hp}{h:Heap}{a:Addr}
theorem zE{u:HO}(ok:HOk P w H h)(e:Rd H a u):bX P w H h a u:=e.ok ok
theorem vX{kvs:List (Key×V)}(ok:HOk P w H h)(e:Rd H a (.dK kvs)):kvs.length<=sizeLine/\(a==sysModules)=false/\∃ vs,KV kvs vs/\h.DictOf (bK P w) a vs:=
 show bX P w H h a (.dK kvs) from zE ok e
theorem aaC{kvs:List (Key×V)}(ok:HOk P w H h)(e:H a=some (.dK kvs)):kvs.length<=sizeLine/\(a==sysModules)=false/\∃ vs,KV kvs vs/\h.DictOf (bK P w) a vs:=vX ok (.inl e)
theorem vm{ks:List Key}(ok:HOk P w H h)(e:H a=some (.tup (ks.map kV))):(tupleKind (bK P w)).is h ks a:=by obtain⟨_,its,r,o,h1,h2,_,n,h3⟩:=(show bX P w H h a (.tup (ks.map kV)) from ok a _ e);exact⟨o,its.toArray,n,h1,h2,h3,by simpa using jZ r⟩
theorem abQ{kvs:List (List Key×V)}(ok:HOk P w H h)(e:Rd H a (.dT kvs)):kvs.length<=sizeLine/\(a==sysModules)=false /\
  ∃ xs,KT H kvs xs/\h.DictOfH (tupleKind (bK P w)) a xs:=by
 obtain⟨z,y,xs,r,o,es,ep,h1,h2,h3,h4,h5⟩:=(show bX P w H h a (.dT kvs) from zE ok e);refine⟨z,y,xs,r,o,es,ep,h1,h2,h3,h4,λ x hx=>?_,h5⟩;have all:∀ {l:List (List Key×V)} {m:List (List Key×Addr×Value)},KT H l m->∀ x∈m,(tupleKind (bK P w)).is h x.1 x.2.1:=by
  intro l m q
  induction q with
  | nil=>intro x hx;exact nomatch hx
  | @cons p q ps qs hq t ih =>
   intro x hx;rcases List.mem_cons.mp hx with e | hx
   ·subst e;exact vm ok (by rw[<- hq.1];exact hq.2.1)
   ·exact ih x hx
 exact all r x hx
theorem abt{kvs:List (List Key×V)}(ok:HOk P w H h)(e:H a=some (.dT kvs)):kvs.length<=sizeLine/\(a==sysModules)=false /\
  ∃ xs,KT H kvs xs/\h.DictOfH (tupleKind (bK P w)) a xs:=abQ ok (.inl e)
end
def acz(H:Hp)(a:Addr)(y v:V)(H':Hp):Prop:=
 (∃ kvs k,H a=some (.dK kvs)/\y=kV k/\kvs.length<sizeLine/\H'=upd H a (.dK (putK kvs k v))) \/
 ∃ kvs k b,H a=some (.dT kvs)/\y=.ref b/\H b=some (.tup (k.map kV))/\kvs.length<sizeLine/\H'=upd H a (.dT (putK kvs k v))
section
variable {X:Cx}{pins:PN}{σ:St}{H:Hp}{s:Shared}{a:Addr}{y v:V}{u r:Value}{o:Option V}{A:Around}{E:VP}
theorem Inv.big(I:Inv X pins σ H s):sysModules<s.heap.objs.size:=by have h:mainGlobals<s.heap.objs.size:=(I.mod.glob.keeps I.bk).lt;exact Nat.lt_trans (by decide) h
theorem lV{h':Heap}{t':Nat}{ob:HO}(I:Inv X pins σ H s)(mu:Mut (H a))(hs:Heap.SameBut a s.heap h')(he:∃ q,h'.get? a=some q)(new:bX X.prog X.w (upd H a ob) h' a ob) :
  Inv X pins σ (upd H a ob) {s with heap:=h',toks:=t'}:=
 I.write (x:=a) (e:=a) mu (.inl rfl) (λ b q hb z=>(hs.2 b hb).trans z) he new
theorem rJ{P:Program}{w:World}{H':Hp}{h':Heap}{kvs:List (Key×V)}{vs:List (Key×Value)}(z:kvs.length<=sizeLine)(hd:(a==sysModules)=false)(rel:KV kvs vs)(dd:h'.DictOf (bK P w) a vs) :
  bX P w H' h' a (.dK kvs):=⟨z,hd,vs,rel,dd⟩
theorem ph{H':Hp}{Q:Unit->Shared->Prop}(hu:A.units+1<cLine)(I:Inv X pins σ H s)(g:acz H a y v H')(ry:RelV y u)(rv:RelV v r)(h:∀ s',Inv X pins σ H' s'->Q () s') :
  wpAny (model X.prog X.w) A (setItem (.ref a) u r) Q E s:=by
 rcases g with ⟨kvs,k,e,ey,l,eH⟩ | ⟨kvs,k,b,e,ey,eb,l,eH⟩
 ·subst ey eH;obtain⟨z,hd,vs,rel,dd⟩:=aaC I.hok e;have hz:vs.length<=sizeLine:=by rw[<- rel.length];exact z
  have hl:(putK kvs k v).length<=sizeLine:=by have:=eD kvs k v;omega
  refine wpAny_setItem_pairs (hsz:=hz) (rQ ry) dd λ h' dd' hs=>h _ ?_;have he:∃ q,h'.get? a=some q:=let ⟨q,_,_,hq,_⟩:=dd'; ⟨q,hq⟩;exact lV I (by rw[e];exact True.intro) hs he (rJ hl hd (rel.put k rv) dd')
 ·subst ey eH;cases (show u=Value.ref b from ry);obtain⟨z,hd,xs,rel,dd⟩:=abt I.hok e;have hz:xs.length<=sizeLine:=by rw[<- Paired.length rel];exact z
  have hl:(putK kvs k v).length<=sizeLine:=by have:=eD kvs k v;omega
  refine wpAny_setItem_heap (hsz:=hz) (tupleKind_room_in1 hu) (vm I.hok eb) dd λ h' dd' hs=>h _ ?_;obtain⟨q,es,ep,hq,h2,h3,h4,_,h5⟩:=dd';refine lV I (by rw[e];exact True.intro) hs ⟨q,hq⟩ ⟨hl,hd,_,(rel.put k eb rv).keeps λ c ys ec=>?_,q,es,ep,hq,h2,h3,h4,h5⟩;rw[aj (oz ec e (λ z=>nomatch z))];exact ec
end
section
variable {X:Cx}{pins:PN}{σ:St}{H:Hp}{s:Shared}{a:Addr}{kvs:List (Key×V)}{k:Key}{u:Value}{A:Around}{E:VP}
end
def aa6(i:Expr):Prop:=∀ ov iv,subscripted i false ov iv=operate [ov,iv] (getItem ov iv)
theorem ym{prog:Program}{w:World}{A:Around}{E:VP}{s:Shared}{env:Env}{value slice:Expr}{pos:Pos}{T id:String}{Q:VP}
  (hl:typeLookup (.type T) "__getitem__" = pure (some (.builtin id)))(hs:aa6 slice)
  (h:wpAny (model prog w) A (eval value env) (λ o s₁=>wpAny (model prog w) A (eval slice env) (λ i s₂=>s₂.TypeIs o T/\wpAny (model prog w) A (getItem o i) Q E s₂) E s₁) E s) :
  wpAny (model prog w) A (eval (.Subscript value slice pos) env) Q E s:=by
 refine Subscript_ (wpAny_mono h (λ o s₁ h₁=>wpAny_mono h₁ (λ i s₂ h₂=>?_) λ _ _ x=>x) λ _ _ x=>x);obtain⟨hT,h₂⟩:=h₂;unfold subscriptTail;refine wpAny_bind ?_;rw[getitemInPython_of_ne hT.not_modules];refine wpAny_bind (wpAny_specialOf hT hl ?_);have fin:wpAny (model prog w) A (subscripted slice false o i) (λ r s₃=>wpAny (model prog w) A (letTemporaryGo value o r >>= λ _=>pure r) Q E s₃) E s₂:=by rw[hs o i];exact wpAny_operating (wpAny_mono h₂ (λ r s₃ h₃=>wpAny_bind (wpAny_letTemporaryGo (wpAny_pure h₃))) λ _ _ x=>x)
 first
  | exact wpAny_pure (wpAny_bind fin)
  | exact wpAny_bind (wpAny_pure (wpAny_bind fin))
  | exact wpAny_bind fin
def abZ(td ty tv:TE):TS:=λ D σ H=>tv σ H λ v H1=>td σ H1 λ x H2=>ty σ H2 λ y H3=>∃ a H4,x=.ref a/\acz H3 a y v H4/\D.nx σ H4
section
variable {X:Cx}{o i e value:Expr}{pos pos' tpos:Pos}{td ty tv:TE}
theorem wI(hu:X.A.units+1<cLine)(ho:PE X o td)(hi:PE X i ty)(hv:PE X value tv)(hs:swapsWith value (some (.Subscript o i pos')) pos.line X.env=pure false) :
  PS X (.Assign [.Subscript o i pos'] value pos) (abZ td ty tv):=by
 intro pins s σ H D I h;refine wpAny_Assign_Subscript (thn (hv pins s σ H _ I h) λ r s1 ⟨v,H1,I1,rv,q1⟩=>thn (ho pins s1 σ H1 _ I1 q1) λ u s2 ⟨x,H2,I2,rx,q2⟩=>thn (hi pins s2 σ H2 _ I2 q2) λ iv s3 ⟨y,H3,I3,ry,a,H4,ex,g,q3⟩=>?_) hs;subst ex;obtain rfl:u=Value.ref a:=rx;exact ph hu I3 g ry rv λ s4 I4=>⟨σ,H4,I4,q3⟩
end
theorem mF{P:Program}{w:World}{H:Hp}(h:Heap)(hb:sysModules<h.objs.size):bX P w H (h.push {cls:=.type "dict",data:=.dict #[]}) h.objs.size (.dK []):=
 ⟨Nat.zero_le _,beq_eq_false_iff_ne.mpr (Ne.symm (Nat.ne_of_lt hb)),[],.nil,Heap.DictOf.new h⟩
def y6:TE:=λ _ H Q=>∀ p,H p=none->Q (.ref p) (upd H p (.dK []))
section
variable {X:Cx}{pos:Pos}
theorem tP:PE X (.Dict [] [] pos) y6:=λ pins s σ H Q I h =>
 wpAny_Dict_empty ⟨.ref s.heap.objs.size,_,I.laid (a:=s.heap.objs.size) (o:=.dK []) (t':=s.toks) (λ _ _ q=>Heap.get?_push_of_some _ q) (Nat.le_refl _) (mF s.heap I.big),rfl,h _ (I.hok.fresh (Nat.le_refl _))⟩
end
section
variable {X:Cx}{pins:PN}{σ:St}{H:Hp}{s:Shared}{a:Addr}{y d:V}{u r:Value}{o:Option V}{A:Around}{E:VP}
end
section
variable {X:Cx}{o e f:Expr}{apos cpos:Pos}{td ty tx:TE}
end
section
variable {X:Cx}{pins:PN}{σ:St}{H:Hp}{s:Shared}{a:Addr}{kvs:List (Key×V)}{A:Around}{E:VP}
end
section
variable {X:Cx}{pins:PN}{σ:St}{H:Hp}{s:Shared}{a:Addr}{y:V}{u:Value}{A:Around}{E:VP}
end
end L2
set_option maxHeartbeats 0
namespace L2
def Fz:HO->Prop
 | .lst _=>True
 | .dK _=>True
 | _=>False
theorem zZ(e:H p=some u)(f:Fz u):Un fs ex H (upd H p (.frz o u)) h h where
 keep:=λ b ob q _ _ _=>q
 slot:=λ b ob q _ _ _=>⟨ob.slots,q⟩
 free:=λ b ob _ n _=>by rw[aj (Ne.symm (aG e n))];exact n
 there:=λ b ob q _=>⟨ob,q⟩
 mE:=λ b xs q=>by
  have:b≠p:=λ z=>by subst z;rw[e] at q;cases q;exact f
  rw[aj this];exact q
 frzs:=λ b ob v q=>by
  have:b≠p:=λ z=>by subst z;rw[e] at q;cases q;exact f
  rw[aj this];exact q
 tbls:=λ b ps q=>by
  have:b≠p:=λ z=>by subst z;rw[e] at q;cases q;exact f
  exact⟨#[],by rw[aj this,q];simp⟩
theorem bX.abC(f:Fz u)(x:bX P w H h a u):bX P w H' h a u:=by
 cases u with
 | lst xs=>exact x
 | dK kvs=>exact x
 | _=>exact f.elim
theorem bX.obj(f:Fz u)(x:bX P w H h a u):∃ o,h.get? a=some o:=by
 cases u with
 | lst xs=>obtain⟨_,_,_,_,e⟩:=x;exact⟨_,e⟩
 | dK kvs=>obtain⟨_,_,_,_,o,_,_,e,_⟩:=x;exact⟨o,e⟩
 | _=>exact f.elim
theorem Inv.freeze(I:Inv X pins σ H s)(e:H p=some u)(f:Fz u):∃ o,Inv X pins σ (upd H p (.frz o u)) s:=by
 obtain⟨o,ho⟩:=(I.hok p u e).obj f;refine⟨o,I.un (h':=s.heap) (t':=s.toks) (zZ e f) λ b v q=>?_⟩
 by_cases hb:b=p
 ·subst hb;rw[av] at q;cases q;exact⟨ho,(I.hok b u e).abC f⟩
 ·rw[aj hb] at q;refine(I.hok b v q).oW (λ _ _ _ q=>q) (λ c r=>?_) λ c xs r=>?_
  ·have:c≠p:=λ z=>by subst z;rw[e] at r;cases r;exact f
   rw[aj this];exact r
  ·have:c≠p:=λ z=>by subst z;rw[e] at r;cases r;exact f
   rw[aj this];exact r
def acQ(t:TE):TE:=λ σ H Q=>t σ H λ v H1=>∃ p u,v=.ref p/\H1 p=some u/\Fz u/\∀ o,Q v (upd H1 p (.frz o u))
theorem qL(h:PE X e t):PE X e (acQ t):=by intro pins s σ H Q I hq;refine thn (h pins s σ H _ I hq) λ v s1 hq24=>?_;obtain⟨x,H1,I1,r1,p,u,e1,e2,f,q⟩:=hq24;obtain⟨o,I2⟩:=I1.freeze e2 f;exact⟨x,_,I2,r1,q o⟩
theorem Inv.tw(I:Inv X pins σ H s)(e:s.heap.get? D=some {cls:=.type "list",data:=.seq us.toArray n})(hn:H D=none)(hv:Vals ys us)(hz:ys.length<=sizeLine)
  (h0:X.s₀.heap.objs.size<=D)(hL:D≠X.env.locals)(hc:∀ x c,X.env.cells.lookup x=some c->c≠D)(hp:∀ p∈X.pn++pins,p.1≠D):Inv X pins σ (upd H D (.lst ys)) s:=by
 have ne:∀ b u,H b=some u->b≠D:=λ b u q=>aG q hn;refine I.step (h':=s.heap) (g':=s.gens) (d':=s.drawn) (t':=s.toks) (ch:=[D]) (λ b hb=>?_) (λ b o _ _ _ q _=>q) (λ b o _ _ _ q _=>⟨o.slots,q⟩) (λ b o hb q n=>?_) (λ b o _ q=>⟨o,q⟩)
  (λ b xs q=>by rw[aj (ne b _ q)];exact q) (λ b o u q=>by rw[aj (ne b _ q)];exact q) (λ b ps q=>⟨#[],by rw[aj (ne b _ q),q];simp⟩) (λ m hm=>hm) (λ b u q=>?_) I.bare
 ·have e:b=D:=by simpa using hb
  subst e;exact⟨.inr h0,hL,hc,hp⟩
 ·rw[aj (λ z=>hb (by simp[z]))];exact n
 ·by_cases hb:b=D
  ·subst hb;rw[av] at q;cases q;exact⟨hz,us,n,hv,e⟩
  ·rw[aj hb] at q;exact(I.hok b u q).oW (λ _ _ _ q=>q) (λ c r=>by rw[aj (ne c _ r)];exact r) λ c xs r=>by rw[aj (ne c _ r)];exact r
abbrev lR(ifs:List Expr)(env:Env):Sem Bool:=forIn ifs true λ c r=>if r=true then do let ok <- isTrue c env (eval c env);pure (ForInStep.yield ok) else pure (ForInStep.yield r)
theorem kP(I:Nat->Shared->Prop)
  (turn:∀ n s,I n s->wpAny (model prog w) A (pyNext it) (λ r s₁=>match r with
   | none=>R (.ok .next) s₁
   | some v=>wpAny (model prog w) A (letOwnedTupleGo target it v) (λ _ s₁'=>wpAny (model prog w) A (assign target env v) (λ _ s₂ =>
     wpAny (model prog w) A (lR ifs env) (λ ok s₃ =>
      if ok=true then wpAny (model prog w) A (eval elt env) (λ x s₄ =>
       wpAny (model prog w) A (call (.builtin "list.append") [acc,x]) (λ _ s₅=>∃ m,m<n/\I m s₅) (λ _ _=>False) s₄) (λ _ _=>False) s₃
      else ∃ m,m<n/\I m s₃) (λ _ _=>False) s₂) (λ _ _=>False) s₁') (λ _ _=>False) s₁) (λ _ _=>False) s)
  (n:Nat)(h:I n s) :
  codeAny (model prog w) A (.compLoop (.ListComp elt [⟨target,iter,ifs,0⟩] scope pos) 0 it acc env) R s:=by
 refine codeAny_loop rfl I (λ n s hI=>?_) n h;show wpAny _ A ((compTurn (.ListComp elt [⟨target,iter,ifs,0⟩] scope pos) 0 it acc env).onRaise (λ x=>do noteFrame x env;theTreesLotGoes x)) _ _ s;refine wpAny_noted ?_;rw[compTurn_list];refine wpAny_bind (wpAny_standAt (wpAny_bind (wpAny_mono (turn n s hI) (λ r s₁ h₁=>?_) λ _ _ h'=>h'.elim)));cases r with
 | none=>exact wpAny_pure h₁
 | some v =>
  refine wpAny_bind (wpAny_mono h₁ (λ _ s₁' h₁'=>?_) λ _ _ h'=>h'.elim);refine wpAny_bind (wpAny_mono h₁' (λ _ s₂ h₂=>wpAny_bind (wpAny_mono h₂ (λ ok s₃ h₃=>?_) λ _ _ h'=>h'.elim)) λ _ _ h'=>h'.elim);cases ok with
  | false=>exact wpAny_pure ⟨rfl,h₃⟩
  | true =>
   exact wpAny_bind (wpAny_bind (wpAny_mono h₃ (λ x s₄ h₄=>wpAny_bind (wpAny_mono h₄ (λ _ s₅ h₅=>wpAny_pure (wpAny_pure ⟨rfl,h₅⟩)) λ _ _ h'=>h'.elim)) λ _ _ h'=>h'.elim))
theorem fB(h:∀ x∈scope.names,x.2=.free->∃ c,env.cells.lookup x.1=some c) :
  ∃ cl,closureFor scope env=pure cl/\(∀ n c,cl.lookup n=some c->env.cells.lookup n=some c)/\(∀ n,(n,NameKind.free)∈scope.names->∃ c,cl.lookup n=some c):=by
 have key:∀ (l:List (Str×NameKind)) (cs:List (Str×Addr)),(∀ x∈l,x.2=.free->∃ c,env.cells.lookup x.1=some c)->(∀ n c,cs.lookup n=some c->env.cells.lookup n=some c) ->
   ∃ cl:List (Str×Addr),(forIn l cs λ x r=>match x with
    | (name,kind)=>if (kind==NameKind.free)=true then do let a <- cellOf env name;pure (ForInStep.yield ((name,a)::r)) else pure (ForInStep.yield r):Sem (List (Str×Addr)))=pure cl /\
    (∀ n c,cl.lookup n=some c->env.cells.lookup n=some c)/\(∀ n c,cs.lookup n=some c->∃ c,cl.lookup n=some c)/\(∀ n,(n,NameKind.free)∈l->∃ c,cl.lookup n=some c):=by
  intro l
  induction l with
  | nil=>intro cs _ hc;exact⟨cs,rfl,hc,λ n c e=>⟨c,e⟩,λ n hn=>nomatch hn⟩
  | cons x l ih =>
   intro cs hl hc;obtain⟨name,kind⟩:=x
   by_cases hk:kind=.free
   ·subst hk;obtain⟨c,e⟩:=hl (name,.free) List.mem_cons_self rfl;obtain⟨cl,h1,h2,h3,h4⟩:=ih ((name,c)::cs) (λ y hy=>hl y (List.mem_cons_of_mem _ hy)) (λ n d q=>by
     rw[List.lookup_cons] at q;cases hb:n==name with
     | true =>
      rw[hb] at q;cases q;rw[eq_of_beq hb];exact e
     | false =>
      rw[hb] at q;exact hc n d q)
    refine⟨cl,?_,h2,λ n d q=>?_,λ n hn=>?_⟩
    ·rw[List.forIn_cons];simp only[beq_self_eq_true,if_true,cellOf,e,pure_bind];exact h1
    ·cases hb:n==name with
     | true=>exact h3 n c (by rw[List.lookup_cons,hb])
     | false=>exact h3 n d (by rw[List.lookup_cons,hb];exact q)
    ·rcases List.mem_cons.mp hn with z | z
     ·cases z;exact h3 name c (by rw[List.lookup_cons];simp)
     ·exact h4 n z
   ·obtain⟨cl,h1,h2,h3,h4⟩:=ih cs (λ y hy=>hl y (List.mem_cons_of_mem _ hy)) hc;refine⟨cl,?_,h2,h3,λ n hn=>?_⟩
    ·rw[List.forIn_cons];have:(kind==NameKind.free)=false:=by simpa using hk
     simp only[this,Bool.false_eq_true,if_false,pure_bind];exact h1
    ·rcases List.mem_cons.mp hn with z | z
     ·cases z;exact absurd rfl hk
     ·exact h4 n z
 obtain⟨cl,h1,h2,_,h4⟩:=key scope.names [] h (λ n c e=>by simp at e);refine⟨cl,?_,h2,h4⟩;unfold closureFor;simp only[bind_pure];exact h1
theorem fF{sc:Scope}{env:Env}{x:Str}:∀ {names:List (Str×NameKind)},(names.map λ(n,k)=>if (k==NameKind.free&&env.scope.kind==.function&&env.kindOf n==some .cell) then (n,NameKind.cell) else (n,k)).lookup x=some .cell \/
  (names.map λ(n,k)=>if (k==NameKind.free&&env.scope.kind==.function&&env.kindOf n==some .cell) then (n,NameKind.cell) else (n,k)).lookup x=some .free->(∀ y∈names,y.2 ≠ .cell)->(x,NameKind.free)∈names
 | [],h,_=>by simp at h
 | (n,k)::r,h,hc=>by
  have ih:=@fF sc env x r
  by_cases hk:(k==NameKind.free&&env.scope.kind==.function&&env.kindOf n==some .cell)=true
  ·simp only[List.map_cons,if_pos hk,List.lookup_cons] at h;cases hx:x==n with
   | true =>
    have e:=eq_of_beq hx;subst e;simp only[Bool.and_eq_true] at hk;have:=eq_of_beq hk.1.1;subst this;exact List.mem_cons_self
   | false =>
    rw[hx] at h;exact List.mem_cons_of_mem _ (ih h λ y hy=>hc y (List.mem_cons_of_mem _ hy))
  ·simp only[List.map_cons,if_neg hk,List.lookup_cons] at h;cases hx:x==n with
   | true =>
    rw[hx] at h;have e:=eq_of_beq hx;subst e;rcases h with h | h
    ·cases h;exact absurd rfl (hc (x,.cell) List.mem_cons_self)
    ·cases h;exact List.mem_cons_self
   | false =>
    rw[hx] at h;exact List.mem_cons_of_mem _ (ih h λ y hy=>hc y (List.mem_cons_of_mem _ hy))
theorem cx{env:Env}{x:Str}:∀ {names:List (Str×NameKind)},names.lookup x=some .free ->
  (names.map λ(n,k)=>if (k==NameKind.free&&env.scope.kind==.function&&env.kindOf n==some .cell) then (n,NameKind.cell) else (n,k)).lookup x=some .cell \/
  (names.map λ(n,k)=>if (k==NameKind.free&&env.scope.kind==.function&&env.kindOf n==some .cell) then (n,NameKind.cell) else (n,k)).lookup x=some .free
 | [],h=>by simp at h
 | (n,k)::r,h=>by
  have ih:=@cx env x r
  by_cases hk:(k==NameKind.free&&env.scope.kind==.function&&env.kindOf n==some .cell)=true
  ·simp only[List.map_cons,if_pos hk,List.lookup_cons];cases hx:x==n with
   | true=>exact .inl rfl
   | false=>rw[List.lookup_cons,hx] at h;exact ih h
  ·simp only[List.map_cons,if_neg hk,List.lookup_cons];cases hx:x==n with
   | true=>rw[List.lookup_cons,hx] at h;exact .inr h
   | false=>rw[List.lookup_cons,hx] at h;exact ih h
def blk(X:Cx)(sc:Scope)(N':List Str)(cl:List (Str×Addr))(C:Addr)(s:Shared)(H:Hp)(ex:List Addr)(pins:PN):Cx:=
 {X with N:=N',s₀:=s,H₀:=H,env:=compEnvC sc cl C X.env,outer:=X.stack,ex:=ex,fn:=λ _=>false,pn:=X.pn++pins,xe:=λ _ _=>False}
def lcN(X:Cx)(own:List Str)(fr:List Nat):List Str:=own++fr.map λ j=>X.N.getD j Str.empty
def lcS(k:Nat)(fr:List Nat)(σ:St):St:=List.replicate k none++fr.map λ j=>(σ[j]?).getD none
def aaE(N:List Str)(sc:Scope)(fr:List Nat):Bool:=fr.all λ j=>match N[j]? with
 | some x=>sc.names.lookup x==some .free
 | none=>false
structure iE(X:Cx)(sc:Scope)(own:List Str)(fr:List Nat):Prop where
 kind:sc.kind=.function
 cell:∀ y∈sc.names,y.2 ≠ .cell
 free:∀ y∈sc.names,y.2=.free->(X.env.kindOf y.1=some .cell\/X.env.kindOf y.1=some .free)
 names:∀ y∈sc.names,y.2=.local->sc.names.lookup y.1=some .local
 fr:aaE X.N sc fr=true
def PTs(X:Cx)(ifs:List Expr)(t:TT):Prop:=
 ∀ (pins:PN) (s:Shared) (σ:St) (H:Hp) (Q:Bool->Hp->Prop),Inv X pins σ H s->t σ H Q->wpAny (model X.prog X.w) X.A (lR ifs X.env) (TP X pins σ Q) X.xe s
def acU:TT:=λ _ H Q=>Q true H
theorem xZ:PTs X [] acU:=λ _ _ _ H _ I h=>wpAny_tests_nil ⟨H,I,h⟩
theorem xl(h:PT X c t):PTs X [c] t:=λ pins s σ H Q I q=>wpAny_tests_one (h pins s σ H Q I q)
theorem mZ(h:aaE N sc fr=true)(hj:j∈fr):∃ x,N[j]? =some x/\sc.names.lookup x=some .free:=by
 have q:=List.all_eq_true.mp h j hj;cases e:N[j]? with
 | none=>simp[e] at q
 | some x =>
  simp only[e] at q;exact⟨x,rfl,eq_of_beq q⟩
theorem aab(L:iE X sc own fr)(I:Inv X pins σ H s)(hf:∀ b∈fp,fU X pins H b)(hb:∀ b∈fp,b<s.heap.objs.size)(hC:s.heap.objs.size<=C)
  (c1:∀ n c,cl.lookup n=some c->X.env.cells.lookup n=some c)(c2:∀ n,(n,NameKind.free)∈sc.names->∃ c,cl.lookup n=some c):(blk X sc (lcN X own fr) cl C s H fp pins).Ok where
 mod:=I.ok.mod
 kind:=L.kind
 glob:=I.ok.glob
 blt:=I.ok.blt
 above:=hC
 inj:=λ x y c a b=>I.ok.inj x y c (c1 _ _ a) (c1 _ _ b)
 has:=λ x hx=>c2 x (fF (sc:=sc) (env:=X.env) hx L.cell)
 cab:=λ x c z=>absurd (show false=true from z) Bool.false_ne_true
 hd:=I.ok.hd
 frames:=I.ok.frames
 stk:=.inl rfl
 exf:=λ b z=>⟨Nat.ne_of_lt (Nat.lt_of_lt_of_le (hb b z) hC),λ x c e=>(hf b z).2.2.2.2.1 x c (c1 _ _ e)⟩
 bs:=I.bs
 bsz:=Nat.le_trans I.ok.bsz I.sz
 noex:=λ b o e z=>by
  rcases(hf b z).2.2.2.1 with q | q
  ·exact I.ok.noex b o e q
  ·exact absurd (Nat.lt_of_lt_of_le (Heap.lt_size e) (Nat.le_trans I.ok.bsz q)) (Nat.lt_irrefl _)
 exfs:=λ b z q=>by
  rcases List.mem_cons.mp (I.fJ b q) with e | e
  ·exact(hf b z).2.1 e
  ·exact(hf b z).2.2.1 e
 ll:=I.stack
 frf:=I.lP
theorem pX(L:iE X sc own fr)(I:Inv X pins σ H s)(hf:∀ b∈fp,fU X pins H b)(hb:∀ b∈fp,b<s.heap.objs.size)(hC:s.heap.objs.size<=C)
  (c1:∀ n c,cl.lookup n=some c->X.env.cells.lookup n=some c)(c2:∀ n,(n,NameKind.free)∈sc.names->∃ c,cl.lookup n=some c)
(hn:h1.Ns C m) (k:∀ b o,s.heap.get? b=some o->h1.get? b=some o) :
  Inv (blk X sc (lcN X own fr) cl C s H fp pins) [] (lcS own.length fr σ) H {s with heap:=h1,toks:=tk}:=by
 have ok:=aab L I hf hb hC c1 c2;refine⟨ok,rfl,I.bare,Un.kept k,⟨m,hn,λ i x v e1 e2 e3=>?_⟩,λ x c e=>?_,I.hok.fresh hC,λ x c e=>I.freeC x c (c1 _ _ e),λ p hp=>?_,I.hok.kept k,?_⟩
 ·-- one of the names around
  have hi:¬ i<own.length:=λ hi=>by
   unfold lcS at e2;rw[List.getElem?_append_left (by simpa using hi),List.getElem?_replicate] at e2
   split at e2<;>cases e2
  have e1':(lcN X own fr)[i]? =some x:=e1;unfold lcN at e1';unfold lcS at e2;rw[List.getElem?_append_right (by omega),List.getElem?_map] at e1';rw[List.getElem?_append_right (by simpa using hi),List.getElem?_map,List.length_replicate] at e2;cases q:fr[i-own.length]? with
  | none=>rw[q] at e1';cases e1'
  | some j =>
   rw[q] at e1' e2;obtain⟨y,hy,hyf⟩:=mZ L.fr (List.mem_of_getElem? q);have ex:y=x:=by have:=Option.some.inj e1';rw[<- this];simp[List.getD,hy]
   subst ex;have ev:σ[j]? =some (some v):=by
    have z:(σ[j]?).getD none=some v:=Option.some.inj e2;cases w:σ[j]? with
    | none=>rw[w] at z;cases z
    | some o=>rw[w] at z;exact congrArg some z
   have hm:(y,NameKind.free)∈sc.names:=PySem.mem_of_lookup hyf;have hk:=L.free _ hm rfl;have vis:Vis X.env.scope y:=by
    rcases hk with z | z
    ·exact .inr (.inl z)
    ·exact .inr (.inr z)
   obtain⟨m0,hn0,hl⟩:=I.loc;obtain⟨u,r,l⟩:=hl j y v hy ev vis;refine⟨u,r,.inr ⟨?_,?_⟩⟩
   ·exact cx (env:=X.env) hyf
   ·obtain⟨c,hc⟩:=c2 y hm;rcases l with ⟨z,_⟩ | ⟨_,c',hc',hcell⟩
    ·rcases hk with q | q
     ·exact absurd (show X.env.kindOf y=some .local from z) (by rw[q];decide)
     ·exact absurd (show X.env.kindOf y=some .local from z) (by rw[q];decide)
    ·have:c=c':=Option.some.inj ((c1 _ _ hc).symm.trans hc');subst this;obtain⟨o,ho,hd⟩:=hcell;exact⟨c,hc,o,k _ _ ho,hd⟩
 ·obtain⟨v,o,ho,hd⟩:=I.cell x c (c1 _ _ e);exact⟨v,o,k _ _ ho,hd⟩
 ·have hp':p∈X.pn++pins:=by simpa [blk] using hp
  obtain⟨a1,a2,a3,a4,a5⟩:=I.pin p hp';refine⟨k _ _ a1,a2,Nat.ne_of_lt (Nat.lt_of_lt_of_le (Heap.lt_size a1) hC),λ q=>?_,a5⟩;rcases List.mem_cons.mp (I.fJ _ q) with e | e
  ·exact a3 e
  ·exact a4 e
 ·show(lcS own.length fr σ).length=(lcN X own fr).length;simp[lcS,lcN]
abbrev LcW:=Nat->Nat->List V->St->Hp->Prop
def uU(J:It)(g:TG)(tt:TT)(te:TE)(W:LcW)(Fin:List V->Hp->Prop):Prop:=∀ i m ys τ H,W i m ys τ H ->
 (J.stop i H/\Fin ys H)\/(J.go i H/\ys.length<sizeLine/\∀ x H',J.yld i H x H'->g x τ H' λ τ2 H2=>tt τ2 H2 λ b H3 =>
  if b=true then te τ2 H3 λ y H4=>∃ m',m'<m/\W (i+1) m' (ys++[y]) τ2 H4 else ∃ m',m'<m/\W (i+1) m' ys τ2 H3)
section
variable {X:Cx}{pins:PN}{σ:St}{H:Hp}{s:Shared}{sc:Scope}{own:List Str}{fr:List Nat}{cl:List (Str×Addr)}{fp:List Addr}{it:Addr}{J:It}{tn:Nat->Heap->Prop}{g:TG}{tt:TT}{te:TE}{W:LcW}{Fin:List V->Hp->Prop}
 {elt tg iter:Expr}{ifs:List Expr}{pos:Pos}{E:VP}
theorem oS{RR:Value->Addr->Result->Shared->Prop}(hc:X.calm=true)(L:iE X sc own fr)(hcl1:∀ n c,cl.lookup n=some c->X.env.cells.lookup n=some c)(hcl2:∀ n,(n,NameKind.free)∈sc.names->∃ c,cl.lookup n=some c)
  (hg:∀ C s H ex pl,PG (blk X sc (lcN X own fr) cl C s H ex pl) tg g)(ht:∀ C s H ex pl,PTs (blk X sc (lcN X own fr) cl C s H ex pl) ifs tt)(he:∀ C s H ex pl,PE (blk X sc (lcN X own fr) cl C s H ex pl) elt te)
  (I:Inv X pins σ H s)(T:Turn X.prog X.w X.K tg J fp it tn)(st:tn 0 s.heap)(hf:∀ b∈fp,fU X pins H b)(w0:∃ m,W 0 m [] (lcS own.length fr σ) H)(turn:uU J g tt te W Fin)
  (hRR:∀ (D C:Addr) (s':Shared) (H':Hp) (ys:List V) (us:List Value) (n:Nat) (m:Str->Option Value),Inv X pins σ H' s'->s'.heap.get? D=some {cls:=.type "list",data:=.seq us.toArray n}->Vals ys us->ys.length<=sizeLine->H' D=none->H' C=none ->
   s.heap.objs.size<=D->s.heap.objs.size<=C->D≠C->s'.heap.Ns C m->Fin ys H'->RR (.ref D) C (.ok .next) s') :
  wpAny (model X.prog X.w) X.A (newList []) (λ acc s₃=>wpAny (model X.prog X.w) X.A (newFunctionEnv sc X.env.globals cl [] X.env.qual none .none (some X.env)) (λ cenv s₄ =>
   codeAny (model X.prog X.w) X.A (.compStart (.ListComp elt [⟨tg,iter,ifs,0⟩] sc pos) 0 (.ref it) acc {cenv with scope:=relabel sc X.env}) (RR acc cenv.locals) s₄) E s₃) E s:=by
 refine wpAny_newObj_type (wpAny_newFunctionEnv L.cell (by intro y hy;simp at hy) (λ h₁ hns₁ hsb₁=>?_) L.kind);dsimp only at hns₁ hsb₁ ⊢;generalize hH2:s.heap.push {cls:=.type "list",dict:=none,data:=.seq ([]:List Value).toArray}=H2 at hns₁ hsb₁ ⊢;have hCs:H2.objs.size=s.heap.objs.size+1:=by rw[<- hH2,Heap.size_push]
 have hD0:s.heap.objs.size≠H2.objs.size:=by rw[hCs];exact Nat.ne_of_lt (Nat.lt_succ_self _)
 have hCle:s.heap.objs.size<=H2.objs.size:=by rw[hCs];exact Nat.le_succ _
 have below:∀ b,b<s.heap.objs.size->b≠H2.objs.size/\b≠s.heap.objs.size:=λ b hb=>⟨by rw[hCs];exact Nat.ne_of_lt (Nat.lt_succ_of_lt hb),Nat.ne_of_lt hb⟩;have old:∀ b o,s.heap.get? b=some o->h₁.get? b=some o:=λ b o e=>hsb₁.extBut b o (below b (Heap.lt_size e)).1 (Heap.get?_push_of_some _ (hH2 ▸ Heap.get?_push_of_some _ e));have hacc:h₁.get? s.heap.objs.size=some {cls:=.type "list",data:=.seq ([]:List Value).toArray 0}:=hsb₁.extBut _ _ hD0 (Heap.get?_push_of_some _ (hH2 ▸ Heap.get?_push_size _ rfl));have hfb:∀ b∈fp,b<s.heap.objs.size:=λ b hb=>by obtain⟨o,e,_⟩:=T.obj 0 _ st b hb;exact Heap.lt_size e
 have I1:Inv (blk X sc (lcN X own fr) cl H2.objs.size s H fp pins) [] (lcS own.length fr σ) H {s with heap:=h₁,toks:=s.toks+([]:List (Str×Value)).length}:=pX L I hf hfb hCle hcl1 hcl2 hns₁ old;have st1:tn 0 h₁:=T.keep 0 _ _ st λ b _ o e=>old b o e;generalize hY:blk X sc (lcN X own fr) cl H2.objs.size s H fp pins=Y at I1;have hYp:Y.prog=X.prog:=by rw[<- hY];rfl
 have hYw:Y.w=X.w:=by rw[<- hY];rfl
 have hYK:Y.K=X.K:=by rw[<- hY];rfl
 have hYA:Y.A=X.A:=by rw[<- hY];rfl
 have hYc:Y.calm=true:=by rw[<- hY];exact hc
 have hYe:Y.env=compEnvC sc cl H2.objs.size X.env:=by rw[<- hY];rfl
 have hYx:Y.xe=λ _ _=>False:=by rw[<- hY];rfl
 have hYpn:Y.pn=X.pn++pins:=by rw[<- hY];rfl
 have hYs:Y.s₀=s:=by rw[<- hY];rfl
 have hYH:Y.H₀=H:=by rw[<- hY];rfl
 have hYex:Y.ex=fp:=by rw[<- hY];rfl
 have hYfs:Y.fs=frs X.stack:=by rw[<- hY];rfl
 have gY:=hg H2.objs.size s H fp pins;have tY:=ht H2.objs.size s H fp pins;have eY:=he H2.objs.size s H fp pins;rw[hY] at gY tY eY;have D_pin:∀ p∈Y.pn++([]:PN),p.1≠s.heap.objs.size:=λ p hp=>by rw[hYpn,List.append_nil] at hp;exact(below _ (Heap.lt_size (I.pin p hp).1)).2
 have D_cell:∀ x c,Y.env.cells.lookup x=some c->c≠s.heap.objs.size:=λ x c e=>by rw[hYe] at e;obtain⟨v,z⟩:=I.cell x c (hcl1 _ _ e);exact(below _ z.lt).2
 have D_loc:s.heap.objs.size≠Y.env.locals:=by rw[hYe];exact hD0
 have D_fs:s.heap.objs.size ∉ Y.fs:=by
  rw[hYfs];intro z;rcases List.mem_cons.mp (I.fJ _ z) with e | e
  ·exact absurd I.lt (by rw[<- e];exact Nat.lt_irrefl _)
  ·exact I.acJ (Nat.le_refl _) e
 have fpY:∀ {H':Hp} (pl:PN),(∀ b∈fp,H' b=none)->(∀ p∈pl,p.1=s.heap.objs.size)->∀ b∈fp,fU Y pl H' b:=λ {H'} pl hn hp b hb=>by
  obtain⟨_,f1,f2,f3,f4,f5⟩:=hf b hb;refine⟨hn b hb,by rw[hYe];exact(below b (hfb b hb)).1,?_,.inl (by rw[hYex];exact hb),λ x c e=>?_,λ p q=>?_⟩
  ·rw[hYfs];intro z;rcases List.mem_cons.mp (I.fJ _ z) with e | e
   ·exact f1 e
   ·exact f2 e
  ·rw[hYe] at e;exact f4 x c (hcl1 _ _ e)
  ·rcases List.mem_append.mp q with z | z
   ·rw[hYpn] at z;exact f5 p z
   ·rw[hp p z];exact Ne.symm (below b (hfb b hb)).2
 have loop:∀ s₃:Shared,s₃={s with heap:=h₁,toks:=s.toks+([]:List (Str×Value)).length} ->
   codeAny (model X.prog X.w) X.A (.compLoop (.ListComp elt [⟨tg,iter,ifs,0⟩] sc pos) 0 (.ref it) (.ref s.heap.objs.size) (compEnvC sc cl H2.objs.size X.env)) (RR (.ref s.heap.objs.size) H2.objs.size) s₃:=by
  rintro s₃ rfl;obtain⟨m0,w0⟩:=w0;refine kP (λ n s'=>∃ i ys τ H' us k,Inv Y [] τ H' s'/\tn i s'.heap/\(∀ b∈fp,H' b=none)/\H' s.heap.objs.size=none/\s'.heap.get? s.heap.objs.size=some {cls:=.type "list",data:=.seq us.toArray k}/\Vals ys us/\ys.length<=sizeLine/\W i n ys τ H') ?_ m0
   ⟨0,[],_,H,[],0,I1,st1,λ b hb=>(hf b hb).1,I.hok.fresh (Nat.le_refl _),hacc,.nil,Nat.zero_le _,w0⟩
  rintro n s' ⟨i,ys,τ,H',us,k,I',st',hn',hD',ha',hv',hz',w'⟩;have Ip:Inv Y [(s.heap.objs.size,{cls:=.type "list",data:=.seq us.toArray k})] τ H' s':=I'.cQ λ p hp=>by
   have e:p=(s.heap.objs.size,{cls:=.type "list",data:=.seq us.toArray k}):=by simpa using hp
   subst e;exact⟨ha',hD',D_loc,D_fs,λ v z=>nomatch (show Data.seq _ _=Data.cell v from z)⟩
  have onlyD:∀ p∈[((s.heap.objs.size,{cls:=.type "list",data:=.seq us.toArray k}):Addr×Obj)],p.1=s.heap.objs.size:=λ p hp=>by
   have e:p=(s.heap.objs.size,{cls:=.type "list",data:=.seq us.toArray k}):=by simpa using hp
   subst e;rfl
  rcases turn i n ys τ H' w' with ⟨stop,fin⟩ | ⟨go,hlen,step⟩
  ·have q:=T.done Y hYp hYw hYK hYc i _ s' τ H' (λ _ _=>False) Ip (fpY _ hn' onlyD) st' stop;rw[hYA] at q;refine thn q λ r s4 hq25=>?_;obtain⟨hr,I4⟩:=hq25;subst hr;have un:Un (frs X.stack) fp H H' s.heap s4.heap:=by have z:=I4.base;rw[hYfs,hYex,hYH,hYs] at z;exact z
   have os4:s4.os=s.os:=by have z:=I4.os;rw[hYs] at z;exact z
   have hok4:HOk X.prog X.w H' s4.heap:=by have z:=I4.hok;rw[hYp,hYw] at z;exact z
   have hch:∀ b∈fp,(b∈X.ex\/X.s₀.heap.objs.size<=b)/\b≠X.env.locals/\(∀ x c,X.env.cells.lookup x=some c->c≠b)/\∀ p∈X.pn++pins,p.1≠b:=λ b hb=>by obtain⟨_,f1,f2,f3,f4,f5⟩:=hf b hb;exact⟨f3,f1,f4,f5⟩
   have IX:Inv X pins σ H' s4:=I.yM os4 un hok4 I4.bare hch;obtain⟨mC,hmC,_⟩:=I4.loc;have hCf:=I4.free;rw[hYe] at hmC hCf;have pD:=I4.pin (s.heap.objs.size,{cls:=.type "list",data:=.seq us.toArray k}) (List.mem_append_right _ (List.mem_singleton.mpr rfl));exact hRR _ _ s4 H' ys us k mC IX pD.1 hv' hz' pD.2.1 hCf (Nat.le_refl _) hCle hD0 hmC fin
  ·have q:=T.item Y hYp hYw hYK hYc i _ s' τ H' (λ _ _=>False) Ip (fpY _ hn' onlyD) st' go;rw[hYA] at q;refine thn q λ r s4 hq26=>?_;obtain⟨u,hr,h4⟩:=hq26;subst hr;refine thn h4 λ _ s5 hq27=>?_;obtain⟨x,H5,I5,r5,y5,st5,fr5⟩:=hq27;have I5':=I5.pinned (fpY _ fr5 onlyD) (T.obj _ _ st5);have g5:=gY _ s5 τ H5 x u _ I5' r5 (step x H5 y5);rw[hYp,hYw,hYA,hYe,hYx] at g5;refine thn g5 λ _ s6 hq28=>?_;obtain⟨σ6,H6,I6,q6⟩:=hq28;have t6:=tY _ s6 σ6 H6 _ I6 q6;rw[hYp,hYw,hYA,hYe,hYx] at t6;refine thn t6 λ ok s7 hq29=>?_;obtain⟨H7,I7,q7⟩:=hq29;have keepD:∀ {σ8:St} {H8:Hp} {s8:Shared},Inv Y ([(s.heap.objs.size,{cls:=.type "list",data:=.seq us.toArray k})]++gU fp s5.heap) σ8 H8 s8->s8.heap.get? s.heap.objs.size=some {cls:=.type "list",data:=.seq us.toArray k}/\H8 s.heap.objs.size=none:=
    λ {σ8 H8 s8} I8=>by have pD:=I8.pin (s.heap.objs.size,{cls:=.type "list",data:=.seq us.toArray k}) (List.mem_append_right _ (List.mem_append_left _ (List.mem_singleton.mpr rfl)));exact⟨pD.1,pD.2.1⟩
   have keepI:∀ {σ8:St} {H8:Hp} {s8:Shared},Inv Y ([(s.heap.objs.size,{cls:=.type "list",data:=.seq us.toArray k})]++gU fp s5.heap) σ8 H8 s8->tn (i+1) s8.heap/\∀ b∈fp,H8 b=none:=
    λ {σ8 H8 s8} I8=>by refine⟨T.keep _ _ _ st5 λ b hb o e=>(I8.pin (b,o) (List.mem_append_right _ (List.mem_append_right _ (cv hb e)))).1,λ b hb=>?_⟩;obtain⟨o,e,d⟩:=T.obj _ _ st5 b hb;exact(I8.pin (b,o) (List.mem_append_right _ (List.mem_append_right _ (cv hb e)))).2.1
   cases ok with
   | false =>
    rw[if_neg Bool.false_ne_true] at q7 ⊢;obtain⟨m',hm',w7⟩:=q7;obtain⟨a7,b7⟩:=keepD I7;obtain⟨c7,d7⟩:=keepI I7;exact⟨m',hm',i+1,ys,σ6,H7,us,k,I7.cQ (λ p hp=>(nomatch hp)),c7,d7,b7,a7,hv',hz',w7⟩
   | true =>
    rw[if_pos rfl] at q7 ⊢;have e7:=eY _ s7 σ6 H7 _ I7 q7;rw[hYp,hYw,hYA,hYe,hYx] at e7;refine thn e7 λ v s8 hq30=>?_;obtain⟨y,H8,I8,r8,m',hm',w8⟩:=hq30;obtain⟨a8,b8⟩:=keepD I8;obtain⟨c8,d8⟩:=keepI I8;have hl:=hv'.length;refine call_meets F.slot_list_append ⟨_,a8,rfl⟩ F.entry_list_append (F.args_list_append_2 _ _) (PySem.list_append s.heap.objs.size us.toArray k v (by rw[List.size_toArray];omega)) ⟨a8,?_⟩;have qu:=PySem.IsL.update a8 (λ xs=>xs.push v);have I9:=(I8.cQ (pins':=[]) λ p hp=>nomatch hp).turned (it:=s.heap.objs.size) (t':=s8.toks) (h':=s8.heap.update s.heap.objs.size (Obj.mapSeq λ xs=>xs.push v)) (λ b o hb e=>(Heap.get?_update_other s8.heap _ (Ne.symm hb)).trans e) b8 D_loc (.inr (by rw[hYs];exact Nat.le_refl _)) D_cell D_pin;have ep:us.toArray.push v=(us++[v]).toArray:=by simp
    rw[ep] at qu;refine⟨m',hm',i+1,ys++[y],σ6,H8,us++[v],(if (us++[v]).toArray.size==us.toArray.size then k else k+1),I9,T.keep _ _ _ c8 λ b hb o e=>(Heap.get?_update_other s8.heap _ (Ne.symm (below b (hfb b hb)).2)).trans e,d8,b8,?_,hv'.append (.cons r8 .nil),?_,w8⟩
    ·exact qu
    ·rw[List.length_append,List.length_singleton];omega
 exact codeAny_compStart_list (loop _ rfl) (T.self _ 0 _ _ _ st1 (loop _ rfl))
def tLC(wi:TI)(g:TG)(tt:TT)(te:TE)(k:Nat)(fr:List Nat):TE:=λ σ H Q=>wi σ H λ J H1=>∃ W:LcW,(∃ m,W 0 m [] (lcS k fr σ) H1)/\uU J g tt te W λ ys H2=>∀ p,H2 p=none->Q (.ref p) (upd H2 p (.lst ys))
theorem fe(L:iE X sc own fr)(ok:X.Ok):∃ cl,closureFor sc X.env=pure cl/\(∀ n c,cl.lookup n=some c->X.env.cells.lookup n=some c)/\(∀ n,(n,NameKind.free)∈sc.names->∃ c,cl.lookup n=some c):=
 fB λ x hx hf=>ok.has x.1 (L.free x hx hf)
theorem wd(hc:X.calm=true)(L:iE X sc own fr)(hi:PI X tg iter wi)
  (hg:∀ cl C s H ex pl,PG (blk X sc (lcN X own fr) cl C s H ex pl) tg g)(ht:∀ cl C s H ex pl,PTs (blk X sc (lcN X own fr) cl C s H ex pl) ifs tt)(he:∀ cl C s H ex pl,PE (blk X sc (lcN X own fr) cl C s H ex pl) elt te)
  (hs:∀ x,foldedSetIterable iter X.env x=pure x:=by intro _;rfl):PE X (.ListComp elt [⟨tg,iter,ifs,0⟩] sc pos) (tLC wi g tt te own.length fr):=by
 intro pins s σ H Q I h;obtain⟨cl,hcl,c1,c2⟩:=fe L I.ok;rw[eval_ListComp];refine wpAny_comprehension_free (use:=none) (g:=⟨tg,iter,ifs,0⟩) (gs:=[]) rfl hs hcl L.kind L.names ?_;refine thn (hi pins s σ H _ I h) λ v s1 h1=>thn h1 λ itv s2 h2=>?_;obtain⟨it,fp,tn,J,H2,e,I2,T,st2,f2,W,w0,turn⟩:=h2;subst e;refine oS (cl:=cl) hc L c1 c2 (hg cl) (ht cl) (he cl) I2 T st2 f2 w0 turn λ D C s' H' ys us n m I' a' hv hz hD hC dD dC hDC hns fin=>?_;refine⟨m,hns,λ h' sb=>?_⟩;have far:∀ b,s2.heap.objs.size<=b->(X.s₀.heap.objs.size<=b)/\b≠X.env.locals/\(∀ x c,X.env.cells.lookup x=some c->c≠b)/\∀ p∈X.pn++pins,p.1≠b:=λ b hb=>by obtain⟨_,f1,_,f3,f4,f5⟩:=I2.rZ (H':=λ _=>none) hb rfl;refine⟨Nat.le_trans I2.sz hb,f1,f4,f5⟩
 obtain⟨z1,z2,z3,z4⟩:=far C dC;obtain⟨y1,y2,y3,y4⟩:=far D dD;have I3:Inv X pins σ H' {s' with heap:=h'}:=I'.turned (t':=s'.toks) (λ b o hb e=>sb.extBut b o hb e) hC z2 (.inr z1) z3 z4;exact⟨.ref D,_,I3.tw (sb.extBut _ _ hDC a') hD hv hz y1 y2 y3 y4,rfl,fin D hD⟩
theorem mv(hN:X.N.Nodup)(hi':X.N[i]? =some x)(hx:Loc X.env.scope x)(hc:X.calm=true)(L:iE X sc own fr)(hi:PI X tg iter wi)
  (hg:∀ cl C s H ex pl,PG (blk X sc (lcN X own fr) cl C s H ex pl) tg g)(ht:∀ cl C s H ex pl,PTs (blk X sc (lcN X own fr) cl C s H ex pl) ifs tt)(he:∀ cl C s H ex pl,PE (blk X sc (lcN X own fr) cl C s H ex pl) elt te)
  (hsw:swapsWith (.ListComp elt [⟨tg,iter,ifs,0⟩] sc pos) (some (.Name x pos')) spos.line X.env=pure true:=by rfl)
  (hs:∀ x,foldedSetIterable iter X.env x=pure x:=by intro _;rfl)(hf:X.fn x=true\/X.env.scope.names.lookup x=some .local:=by first | exact .inl rfl | exact .inr rfl | assumption) :
  PS X (.Assign [.Name x pos'] (.ListComp elt [⟨tg,iter,ifs,0⟩] sc pos) spos) (aa1 (tLC wi g tt te own.length fr) (vC i)):=by
 intro pins s σ H D' I h;obtain⟨cl,hcl,c1,c2⟩:=fe L I.ok;rw[exec_Assign_Name_used _ _ _ _ hsw];refine wpAny_bind (wpAny_standAt (wpAny_bind ?_));show wpAny _ _ (evalThenUse (.ListComp elt [⟨tg,iter,ifs,0⟩] sc pos) X.env (assign (.Name x pos') X.env)) _ _ _;unfold evalThenUse;refine wpAny_bind ?_;refine wpAny_comprehension_free (use:=some (assign (.Name x pos') X.env)) (g:=⟨tg,iter,ifs,0⟩) (gs:=[]) rfl hs hcl L.kind L.names ?_;refine thn (hi pins s σ H _ I h) λ v s1 h1=>thn h1 λ itv s2 h2=>?_;obtain⟨it,fp,tn,J,H2,e,I2,T,st2,f2,W,w0,turn⟩:=h2;subst e;refine oS (cl:=cl) hc L c1 c2 (hg cl) (ht cl) (he cl) I2 T st2 f2 w0 turn λ D C s' H' ys us n m I' a' hv hz hD hC dD dC hDC hns fin=>?_;have far:∀ b,s2.heap.objs.size<=b->(X.s₀.heap.objs.size<=b)/\b≠X.env.locals/\(∀ x c,X.env.cells.lookup x=some c->c≠b)/\(b ∉ X.fs)/\∀ p∈X.pn++pins,p.1≠b:=λ b hb=>by obtain⟨_,f1,f2,f3,f4,f5⟩:=I2.rZ (H':=λ _=>none) hb rfl;refine⟨Nat.le_trans I2.sz hb,f1,f4,f2,f5⟩
 obtain⟨z1,z2,z3,z0,z4⟩:=far C dC;obtain⟨y1,y2,y3,_,y4⟩:=far D dD;have I3:=I'.tw a' hD hv hz y1 y2 y3 y4;obtain⟨oC,hoC,nsC⟩:∃ o,s'.heap.get? C=some o/\∃ es ep,o.data=.dict es ep:=by obtain⟨o,es,ep,e1,e2,_⟩:=hns;exact⟨o,e1,es,ep,e2⟩
 have hCt:(upd H' D (.lst ys)) C=none:=by rw[aj (Ne.symm hDC)];exact hC
 have I4:Inv X (pins++[(C,oC)]) σ (upd H' D (.lst ys)) s':=I3.cQ λ p hp=>by
  rcases List.mem_append.mp hp with z | z
  ·exact I3.pin p (List.mem_append_right _ z)
  ·have e:p=(C,oC):=by simpa using z
   subst e;obtain⟨es,ep,hd⟩:=nsC;exact⟨hoC,hCt,z2,z0,λ v z=>by have z':oC.data=.cell v:=z;rw[hd] at z';cases z'⟩
 refine thn (rV (pos:=pos') hN hi' hx hf _ s' σ _ (.ref D) (.ref D) _ I4 rfl (fin D hD)) λ _ s5 hq31=>?_;obtain⟨σ5,H5,I5,q5⟩:=hq31;have pC:=I5.pin (C,oC) (List.mem_append_right _ (List.mem_append_right _ (List.mem_singleton.mpr rfl)));obtain⟨o,es,ep,e1,e2,e3⟩:=hns;rw[hoC] at e1;cases e1;refine⟨m,⟨oC,es,ep,pC.1,e2,e3⟩,λ h' sb=>?_⟩;have I6:Inv X pins σ5 H5 {s5 with heap:=h'}:=(I5.fO).turned (t':=s5.toks) (λ b o hb e=>sb.extBut b o hb e) pC.2.1 z2 (.inr z1) z3 z4;exact wpAny_pure (wpAny_pure ⟨σ5,H5,I6,q5⟩)
end
end L2
namespace D
open L2
abbrev St:=L2.St
structure Kp(H H':Hp):Prop where
 tup:∀ b xs,H b=some (.tup xs)->H' b=some (.tup xs)
 frz:∀ b o u,H b=some (.frz o u)->H' b=some (.frz o u)
theorem Kp.refl(H:Hp):Kp H H:=⟨λ _ _ e=>e,λ _ _ _ e=>e⟩
theorem Kp.trans(a:Kp H H1)(b:Kp H1 H2):Kp H H2:=⟨λ c xs e=>b.tup c xs (a.tup c xs e),λ c o u e=>b.frz c o u (a.frz c o u e)⟩
theorem Kp.new(h:H p=none):Kp H (upd H p o):=⟨λ b xs e=>by rw[aj (aG e h)];exact e,λ b ob u e=>by rw[aj (aG e h)];exact e⟩
theorem Kp.set(h:H p=some u)(ht:∀ xs,u ≠ .tup xs)(hf:∀ ob v,u ≠ .frz ob v):Kp H (upd H p o):=
 ⟨λ b xs e=>by rw[aj (oz e h λ z=>ht _ z.symm)];exact e,λ b ob v e=>by rw[aj (oz e h λ z=>hf _ _ z.symm)];exact e⟩
def SqF(K:FG)(H:Hp)(a:Addr)(xs:List V):Prop:=
 (∃ o,H a=some (.frz o (.lst xs)))\/∃ (o:Obj) (its:Array Value) (n:Nat),K.lookup a=some o/\o.cls=.type "list" /\ o.dict=none/\o.data=.seq its n/\its.size<=sizeLine/\Vals xs its.toList
theorem SqF.sq{K:FG}{H:Hp}{a:Addr}{xs:List V}(h:SqF K H a xs):SqL K H a xs:=by
 rcases h with h | h
 ·exact .inl (.inr h)
 ·exact .inr h
theorem SqF.keep{K:FG}{H H':Hp}{a:Addr}{xs:List V}(k:Kp H H')(h:SqF K H a xs):SqF K H' a xs:=by
 rcases h with ⟨o,h⟩ | h
 ·exact .inl ⟨o,k.frz _ _ _ h⟩
 ·exact .inr h
theorem SqT.keep{K:FG}{H H':Hp}{a:Addr}{xs:List V}(k:Kp H H')(h:SqT K H a xs):SqT K H' a xs:=by
 rcases h with (h | ⟨o,h⟩) | h
 ·exact .inl (.inl (k.tup _ _ h))
 ·exact .inl (.inr ⟨o,k.frz _ _ _ h⟩)
 ·exact .inr h
def wa:Key->PyData
 | .inl i=>.int i
 | .inr x=>.str x
mutual
def aD(K:FG)(H:Hp):PyData->V->Prop
 | .none,v=>v=.non
 | .bool b,v=>v=.bl b
 | .int i,v=>v=.int i
 | .str x,v=>v=.str x
 | .list ds,v=>∃ a vs,v=.ref a/\SqF K H a vs/\aV K H ds vs
 | .tuple ds,v=>∃ a vs,v=.ref a/\SqT K H a vs/\aV K H ds vs
 | .dict kvs,v=>∃ a o l,v=.ref a/\H a=some (.frz o (.dK l))/\lr K H kvs l
def aV(K:FG)(H:Hp):List PyData->List V->Prop
 | [],vs=>vs=[]
 | d::ds,vs=>∃ v r,vs=v::r/\aD K H d v/\aV K H ds r
def lr(K:FG)(H:Hp):List (PyData×PyData)->List (Key×V)->Prop
 | [],l=>l=[]
 | (k,d)::ds,l=>∃ key v r,l=(key,v)::r/\k=wa key/\aD K H d v/\lr K H ds r
end
mutual
theorem aD.keep{K:FG}{H H':Hp}(k:Kp H H'):∀ {d:PyData} {v:V},aD K H d v->aD K H' d v
 | .none,v,h=>by simp only[aD] at h ⊢;exact h
 | .bool b,v,h=>by simp only[aD] at h ⊢;exact h
 | .int i,v,h=>by simp only[aD] at h ⊢;exact h
 | .str x,v,h=>by simp only[aD] at h ⊢;exact h
 | .list ds,v,h=>by simp only[aD] at h ⊢;obtain⟨a,vs,e,s,r⟩:=h;exact⟨a,vs,e,s.keep k,aV.keep k r⟩
 | .tuple ds,v,h=>by simp only[aD] at h ⊢;obtain⟨a,vs,e,s,r⟩:=h;exact⟨a,vs,e,SqT.keep k s,aV.keep k r⟩
 | .dict kvs,v,h=>by simp only[aD] at h ⊢;obtain⟨a,o,l,e,s,r⟩:=h;exact⟨a,o,l,e,k.frz _ _ _ s,lr.keep k r⟩
theorem aV.keep{K:FG}{H H':Hp}(k:Kp H H'):∀ {ds:List PyData} {vs:List V},aV K H ds vs->aV K H' ds vs
 | [],vs,h=>by simp only[aV] at h ⊢;exact h
 | d::ds,vs,h=>by simp only[aV] at h ⊢;obtain⟨v,r,e,h1,h2⟩:=h;exact⟨v,r,e,aD.keep k h1,aV.keep k h2⟩
theorem lr.keep{K:FG}{H H':Hp}(k:Kp H H'):∀ {ds:List (PyData×PyData)} {l:List (Key×V)},lr K H ds l->lr K H' ds l
 | [],l,h=>by simp only[lr] at h ⊢;exact h
 | (key,d)::ds,l,h=>by simp only[lr] at h ⊢;obtain⟨k',v,r,e,ek,h1,h2⟩:=h;exact⟨k',v,r,e,ek,aD.keep k h1,lr.keep k h2⟩
end
theorem aV.length{K:FG}{H:Hp}:∀ {ds:List PyData} {vs:List V},aV K H ds vs->vs.length=ds.length
 | [],vs,h=>by simp only[aV] at h;rw[h];rfl
 | d::ds,vs,h=>by simp only[aV] at h;obtain⟨v,r,e,_,h2⟩:=h;rw[e,List.length_cons,List.length_cons,aV.length h2]
theorem aV.get{K:FG}{H:Hp}:∀ {ds:List PyData} {vs:List V} {i:Nat} {d:PyData},aV K H ds vs->ds[i]? =some d->∃ v,vs[i]? =some v/\aD K H d v
 | [],_,_,_,_,e=>by simp at e
 | d::ds,vs,0,d',h,e=>by simp only[aV] at h;obtain⟨v,r,ev,h1,_⟩:=h;simp at e;subst e;exact⟨v,by rw[ev];rfl,h1⟩
 | d::ds,vs,i+1,d',h,e=>by simp only[aV] at h;obtain⟨v,r,ev,_,h2⟩:=h;obtain⟨v',e1,e2⟩:=aV.get (i:=i) h2 (by simpa using e);exact⟨v',by rw[ev];simpa using e1,e2⟩
theorem aV.get'{K:FG}{H:Hp}{ds:List PyData}{vs:List V}{i:Nat}{v:V}(h:aV K H ds vs)(e:vs[i]? =some v):∃ d,ds[i]? =some d/\aD K H d v:=by
 have hi:i<ds.length:=by have:=(List.getElem?_eq_some_iff.mp e).1;rw[h.length] at this;exact this
 obtain⟨v',e1,r⟩:=h.get (i:=i) (d:=ds[i]) (by simp[hi]);rw[e] at e1;cases e1;exact⟨ds[i],by simp[hi],r⟩
theorem aV.ints{K:FG}{H:Hp}:∀ (ns:List Int),aV K H (ns.map PyData.int) (ns.map V.int)
 | []=>by simp[aV]
 | n::ns=>by simp only[List.map_cons,aV];exact⟨_,_,rfl,by simp[aD],aV.ints ns⟩
theorem aV.append{K:FG}{H:Hp}:∀ {ds es:List PyData} {vs us:List V},aV K H ds vs->aV K H es us->aV K H (ds++es) (vs++us)
 | [],es,vs,us,h,q=>by simp only[aV] at h;subst h;exact q
 | d::ds,es,vs,us,h,q=>by simp only[aV] at h;obtain⟨v,r,e,h1,h2⟩:=h;subst e;simp only[List.cons_append,aV];exact⟨v,r++us,rfl,h1,aV.append h2 q⟩
theorem aV.drop{K:FG}{H:Hp}:∀ {ds:List PyData} {vs:List V} (n:Nat),aV K H ds vs->aV K H (ds.drop n) (vs.drop n)
 | ds,vs,0,h=>by simpa using h
 | [],vs,n+1,h=>by simp only[aV] at h;subst h;simp[aV]
 | d::ds,vs,n+1,h=>by
  simp only[aV] at h;obtain⟨v,r,e,_,h2⟩:=h;subst e
  simpa using aV.drop n h2
theorem aV.take{K:FG}{H:Hp}:∀ {ds:List PyData} {vs:List V} (n:Nat),aV K H ds vs->aV K H (ds.take n) (vs.take n)
 | ds,vs,0,h=>by simp[aV]
 | [],vs,n+1,h=>by simp only[aV] at h;subst h;simp[aV]
 | d::ds,vs,n+1,h=>by simp only[aV] at h;obtain⟨v,r,e,h1,h2⟩:=h;subst e;simp only[List.take_succ_cons,aV];exact⟨v,_,rfl,h1,aV.take n h2⟩
inductive W where
 | d (x:PyData)
 | m (a:Addr)
 | t (n:String)
inductive MO where
 | lst (ws:List W)
 | dic (kvs:List (Key×W))
 | dct (kvs:List (List Key×W))
 | fdic (kvs:List (Key×W))
 | ins (C:Addr) (fs:List (Str×W))
 | tup (ws:List W)
 | flst (ws:List W)
 | exc (C:Addr) (fs:List (Str×W))
 | code (q:Str) (pos:Pos)
abbrev MH:=Addr->Option MO
def aT(M:MH)(a:Addr)(o:MO):MH:=λ b=>if b=a then some o else M b
theorem aw:aT M a o a=some o:=if_pos rfl
theorem ax(h:b≠a):aT M a o b=M b:=if_neg h
theorem hJ:aT (aT M a o) a u=aT M a u:=by funext b;unfold aT;split<;>rfl
abbrev DS:=List (Option W)
def aI(K:FG)(H:Hp):W->V->Prop
 | .d x,v=>aD K H x v
 | .m a,v=>v=.ref a
 | .t n,v=>v=.ty n
theorem aI.keep{K:FG}{H H':Hp}(k:Kp H H'):∀ {w:W} {v:V},aI K H w v->aI K H' w v
 | .d _,_,h=>aD.keep k h
 | .m _,_,h=>h
 | .t _,_,h=>h
def aQ(K:FG)(H:Hp):List W->List V->Prop:=Paired (aI K H)
theorem aQ.keep{K:FG}{H H':Hp}(k:Kp H H'){ws:List W}{vs:List V}(h:aQ K H ws vs):aQ K H' ws vs:=Paired.fw h λ _ _ r=>r.keep k
theorem aQ.length{K:FG}{H:Hp}{ws:List W}{vs:List V}(h:aQ K H ws vs):ws.length=vs.length:=Paired.length h
theorem aQ.get{K:FG}{H:Hp}:∀ {ws:List W} {vs:List V} {i:Nat} {w:W},aQ K H ws vs->ws[i]? =some w->∃ v,vs[i]? =some v/\aI K H w v
 | _,_,_,_,.nil,e=>by simp at e
 | _,_,0,_,.cons r _,e=>by simp at e;subst e;exact⟨_,rfl,r⟩
 | _,_,i+1,_,.cons _ t,e=>by obtain⟨u,h1,h2⟩:=aQ.get (i:=i) t (by simpa using e);exact⟨u,by simpa using h1,h2⟩
theorem aQ.set{K:FG}{H:Hp}{w:W}{v:V}(r:aI K H w v):∀ {ws:List W} {vs:List V} (i:Nat),aQ K H ws vs->aQ K H (ws.set i w) (vs.set i v)
 | _,_,_,.nil=>.nil
 | _,_,0,.cons _ t=>.cons r t
 | _,_,i+1,.cons q t=>.cons q (aQ.set r i t)
theorem aQ.append{K:FG}{H:Hp}:∀ {ws ws':List W} {vs vs':List V},aQ K H ws vs->aQ K H ws' vs'->aQ K H (ws++ws') (vs++vs')
 | _,_,_,_,.nil,s=>s
 | _,_,_,_,.cons r t,s=>.cons r (aQ.append t s)
theorem aQ.data{K:FG}{H:Hp}:∀ {ds:List PyData} {vs:List V},aQ K H (ds.map W.d) vs->aV K H ds vs
 | [],_,h=>by cases h;simp[aV]
 | d::ds,_,h=>by
  cases h with
  | cons r t=>simp only[aV];exact⟨_,_,rfl,r,aQ.data t⟩
theorem aV.ws{K:FG}{H:Hp}:∀ {ds:List PyData} {vs:List V},aV K H ds vs->aQ K H (ds.map W.d) vs
 | [],vs,h=>by simp only[aV] at h;subst h;exact .nil
 | d::ds,vs,h=>by simp only[aV] at h;obtain⟨v,r,e,h1,h2⟩:=h;subst e;exact .cons h1 (aV.ws h2)
def wH(K:FG)(H:Hp)(a:Addr):MO->Prop
 | .lst ws=>∃ vs,H a=some (.lst vs)/\aQ K H ws vs
 | .dic kvs=>∃ l,H a=some (.dK l)/\Paired (λ(p:Key×W) (q:Key×V)=>p.1=q.1/\aI K H p.2 q.2) kvs l
 | .fdic kvs=>∃ o l,H a=some (.frz o (.frz o (.dK l)))/\Paired (λ(p:Key×W) (q:Key×V)=>p.1=q.1/\aI K H p.2 q.2) kvs l
 | .dct kvs=>∃ l,H a=some (.dT l)/\Paired (λ(p:List Key×W) (q:List Key×V)=>p.1=q.1/\aI K H p.2 q.2) kvs l
 | .ins C fs=>∃ dx l,H a=some (.ins C dx l)/\Paired (λ(p:Str×W) (q:Str×V)=>p.1=q.1/\aI K H p.2 q.2) fs l
 | .tup ws=>∃ vs,H a=some (.tup vs)/\aQ K H ws vs
 | .flst ws=>∃ o vs,H a=some (.frz o (.frz o (.lst vs)))/\aQ K H ws vs
 | .exc C fs=>∃ φ dct,H a=some (.ext φ)/\(∀ h,φ h->∃ vs,h.get? a=some {cls:=.ref C,dict:=dct,data:=.fields vs}/\(fs=[]->vs[2]? =some .none)) /\
   ((dct=none/\fs=[])\/∃ dx o l,dct=some dx/\H dx=some (.frz o (.xd l))/\Paired (λ(p:Str×W) (q:Str×V)=>p.1=q.1/\aI K H p.2 q.2) fs l)
 | .code q pos=>∃ ps,H a=some (.tbl ps)/\TriplesOk ps.toList/\(codeAmong pos ps.toList=none\/∃ c o vs t,codeAmong pos ps.toList=some (.ref c)/\H c=some (.frz o (.own 0))/\o.data=.fields vs/\vs[1]? =some (.str q t))
def cn(K:FG)(H:Hp)(M:MH):Prop:=∀ a o,M a=some o->wH K H a o
theorem wH.is{K:FG}{H:Hp}{a:Addr}{o:MO}(h:wH K H a o):∃ u,H a=some u:=by
 cases o with
 | lst ws=>obtain⟨vs,e,_⟩:=h;exact⟨_,e⟩
 | dic kvs=>obtain⟨l,e,_⟩:=h;exact⟨_,e⟩
 | dct kvs=>obtain⟨l,e,_⟩:=h;exact⟨_,e⟩
 | fdic kvs=>obtain⟨o,l,e,_⟩:=h;exact⟨_,e⟩
 | ins C fs=>obtain⟨dx,l,e,_⟩:=h;exact⟨_,e⟩
 | tup ws=>obtain⟨vs,e,_⟩:=h;exact⟨_,e⟩
 | flst ws=>obtain⟨o,vs,e,_⟩:=h;exact⟨_,e⟩
 | exc C fs=>obtain⟨φ,dct,e,_⟩:=h;exact⟨_,e⟩
 | code q pos=>obtain⟨ps,e,_⟩:=h;exact⟨_,e⟩
theorem cn.free{K:FG}{H:Hp}{M:MH}(h:cn K H M){p:Addr}(e:H p=none):M p=none:=by
 cases q:M p with
 | none=>rfl
 | some o =>
  obtain⟨u,z⟩:=(h p o q).is;rw[e] at z;cases z
theorem wH.keep{K:FG}{H H':Hp}{a:Addr}{o:MO}(k:Kp H H')(s:∀ u,H a=some u->H' a=some u)(h:wH K H a o):wH K H' a o:=by
 cases o with
 | lst ws=>obtain⟨vs,e,r⟩:=h;exact⟨vs,s _ e,r.keep k⟩
 | dic kvs=>obtain⟨l,e,r⟩:=h;exact⟨l,s _ e,Paired.fw r λ p q z=>⟨z.1,z.2.keep k⟩⟩
 | dct kvs=>obtain⟨l,e,r⟩:=h;exact⟨l,s _ e,Paired.fw r λ p q z=>⟨z.1,z.2.keep k⟩⟩
 | fdic kvs=>obtain⟨o,l,e,r⟩:=h;exact⟨o,l,s _ e,Paired.fw r λ p q z=>⟨z.1,z.2.keep k⟩⟩
 | ins C fs=>obtain⟨dx,l,e,r⟩:=h;exact⟨dx,l,s _ e,Paired.fw r λ p q z=>⟨z.1,z.2.keep k⟩⟩
 | tup ws=>obtain⟨vs,e,r⟩:=h;exact⟨vs,s _ e,r.keep k⟩
 | flst ws=>obtain⟨o,vs,e,r⟩:=h;exact⟨o,vs,s _ e,r.keep k⟩
 | exc C fs =>
  obtain⟨φ,dct,e,p,r⟩:=h;refine⟨φ,dct,s _ e,p,?_⟩;rcases r with r | ⟨dx,o,l,e1,e2,r⟩
  ·exact .inl r
  ·exact .inr ⟨dx,o,l,e1,k.frz _ _ _ e2,Paired.fw r λ p q z=>⟨z.1,z.2.keep k⟩⟩
 | code q pos =>
  obtain⟨ps,e,ht,hc⟩:=h;refine⟨ps,s _ e,ht,?_⟩;rcases hc with hc | ⟨c,o,vs,t,e1,e2,e3⟩
  ·exact .inl hc
  ·exact .inr ⟨c,o,vs,t,e1,k.frz _ _ _ e2,e3⟩
theorem cn.new{K:FG}{H:Hp}{M:MH}{p:Addr}{o:HO}(h:cn K H M)(e:H p=none):cn K (upd H p o) M:=λ a mo q =>
 (h a mo q).keep (Kp.new e) λ u z=>by rw[aj (aG z e)];exact z
theorem cn.put{K:FG}{H:Hp}{M:MH}{p:Addr}{o:HO}{mo:MO}(h:cn K H M)(k:Kp H (upd H p o))(r:wH K (upd H p o) p mo):cn K (upd H p o) (aT M p mo):=λ a mo' q=>by
 by_cases e:a=p
 ·subst e;rw[aw] at q;cases q;exact r
 ·rw[ax e] at q;exact(h a mo' q).keep k λ u z=>by rw[aj e];exact z
structure Abs(K:FG)(H:Hp)(σ:St)(τ:DS)(M:MH):Prop where
 len:σ.length=τ.length
 val:∀ (i:Nat) w,τ[i]? =some (some w)->∃ v,σ[i]? =some (some v)/\aI K H w v
 mem:cn K H M
theorem Abs.go{K:FG}{H H':Hp}{σ:St}{τ:DS}{M M':MH}(h:Abs K H σ τ M)(k:Kp H H')(m:cn K H' M'):Abs K H' σ τ M':=
 ⟨h.len,λ i w e=>let ⟨v,q,r⟩:=h.val i w e; ⟨v,q,r.keep k⟩,m⟩
theorem Abs.set{K:FG}{H:Hp}{σ:St}{τ:DS}{M:MH}{w:W}{v:V}(h:Abs K H σ τ M)(i:Nat)(r:aI K H w v):Abs K H (σ.set i (some v)) (τ.set i (some w)) M:=by
 refine⟨by rw[List.length_set,List.length_set];exact h.len,λ j w' e=>?_,h.mem⟩
 by_cases hj:i=j
 ·subst hj;have hl:i<τ.length:=by
   have:=(List.getElem?_eq_some_iff.mp e).1
   rwa[List.length_set] at this
  rw[List.getElem?_set_self hl] at e;cases e;exact⟨v,List.getElem?_set_self (by rw[h.len];exact hl),r⟩
 ·rw[List.getElem?_set_ne hj] at e;obtain⟨v',q,r'⟩:=h.val j w' e;exact⟨v',by rw[List.getElem?_set_ne hj];exact q,r'⟩
abbrev QD:=W->MH->Prop
abbrev TD:=DS->MH->QD->Prop
abbrev TTd:=DS->MH->(Bool->MH->Prop)->Prop
abbrev TAd:=DS->MH->(List W->MH->Prop)->Prop
structure Ed where
 nx:DS->MH->Prop
 rt:QD
 bk:DS->MH->Prop:=λ _ _=>False
 ct:DS->MH->Prop:=λ _ _=>False
abbrev TSd:=Ed->DS->MH->Prop
def up(K:FG)(t:TD):TE:=λ σ H Q=>∃ τ M Qd,Abs K H σ τ M/\t τ M Qd/\∀ v H' w M',Kp H H'->aI K H' w v->cn K H' M'->Qd w M'->Q v H'
def upT(K:FG)(t:TTd):TT:=λ σ H Q=>∃ τ M Qd,Abs K H σ τ M/\t τ M Qd/\∀ b H' M',Kp H H'->cn K H' M'->Qd b M'->Q b H'
def upA(K:FG)(t:TAd):TA:=λ σ H Q=>∃ τ M Qd,Abs K H σ τ M/\t τ M Qd/\∀ vs H' ws M',Kp H H'->aQ K H' ws vs->cn K H' M'->Qd ws M'->Q vs H'
def upS(K:FG)(t:TSd):TS:=λ D σ H=>∃ τ M Dd,Abs K H σ τ M/\t Dd τ M /\
 (∀ σ' H' τ' M',Kp H H'->Abs K H' σ' τ' M'->Dd.nx τ' M'->D.nx σ' H')/\(∀ v H' w M',Kp H H'->aI K H' w v->cn K H' M'->Dd.rt w M'->D.rt v H') /\
 (∀ σ' H' τ' M',Kp H H'->Abs K H' σ' τ' M'->Dd.bk τ' M'->D.bk σ' H')/\(∀ σ' H' τ' M',Kp H H'->Abs K H' σ' τ' M'->Dd.ct τ' M'->D.ct σ' H')
abbrev PD(X:Cx)(e:Expr)(t:TD):Prop:=PE X e (up X.K t)
abbrev PTd(X:Cx)(e:Expr)(t:TTd):Prop:=PT X e (upT X.K t)
abbrev PAd(X:Cx)(es:List Expr)(t:TAd):Prop:=PA X es (upA X.K t)
abbrev PSd(X:Cx)(st:Stmt)(t:TSd):Prop:=PS X st (upS X.K t)
abbrev lh(X:Cx)(st:List Stmt)(t:TSd):Prop:=PSs X st (upS X.K t)
theorem eW(h:PE X e t)(k:∀ σ H Q,t' σ H Q->t σ H Q):PE X e t':=λ pins s σ H Q I q=>h pins s σ H Q I (k σ H Q q)
theorem abv(h:PT X e t)(k:∀ σ H Q,t' σ H Q->t σ H Q):PT X e t':=λ pins s σ H Q I q=>h pins s σ H Q I (k σ H Q q)
theorem acG(h:PA X es t)(k:∀ σ H Q,t' σ H Q->t σ H Q):PA X es t':=λ pos pins s σ H Q I q=>h pos pins s σ H Q I (k σ H Q q)
theorem mH{st:Stmt}{t t':TS}(h:PS X st t)(k:∀ D σ H,t' D σ H->t D σ H):PS X st t':=λ pins s σ H D I q=>h pins s σ H D I (k D σ H q)
theorem aaD{st:List Stmt}{t t':TS}(h:PSs X st t)(k:∀ D σ H,t' D σ H->t D σ H):PSs X st t':=λ pins s σ H D I q=>h pins s σ H D I (k D σ H q)
end D
namespace D
open L2
section
variable {X:Cx}{pos:Pos}{a b c e:Expr}{ta tb tc te:TD}{K:FG}
abbrev Kont(K:FG)(H:Hp)(Qd:QD)(Q:VK):Prop:=∀ v H' w M',Kp H H'->aI K H' w v->cn K H' M'->Qd w M'->Q v H'
theorem kgo(k:Kont K H Qd Q)(kp:Kp H H1):Kont K H1 Qd Q:=λ v H' w M' k2 r m q=>k v H' w M' (kp.trans k2) r m q
inductive acA(i:Nat) (τ:DS) (M:MH) (Q:QD):Prop
 | mk (w:W) (z:τ[i]? =some (some w)) (q:Q w M):acA i τ M Q
def ai(i:Nat)(τ:DS)(M:MH)(Q:QD):Prop:=acA i τ M Q
theorem zM(h:PE X e (acI i)):PD X e (ai i):=eW h λ σ H Q hq32=>by obtain⟨τ,M,Qd,A,⟨w,e,q⟩,k⟩:=hq32;obtain⟨v,e',r⟩:=A.val i w e;exact⟨v,e',k v H w M (Kp.refl H) r A.mem q⟩
def dC(w:W)(_:DS)(M:MH)(Q:QD):Prop:=Q w M
theorem aba(h:PE X e (tC v))(r:∀ H,aI X.K H w v):PD X e (dC w):=eW h λ σ H Q ⟨τ,M,Qd,A,q,k⟩=>k v H w M (Kp.refl H) (r H) A.mem q
def OpD(K:FG)(r:R2)(rd:W->W->MH->QD->Prop):Prop:=∀ x y H w w' M Qd Q,aI K H w x->aI K H w' y->cn K H M->rd w w' M Qd->Kont K H Qd Q->r x y H Q
def dOp(rd:W->W->MH->QD->Prop)(ta tb:TD)(τ:DS)(M:MH)(Q:QD):Prop:=ta τ M λ w M1=>tb τ M1 λ w' M2=>rd w w' M2 Q
theorem nv(hd:OpD K r rd)(h:up K (dOp rd ta tb) σ H Q):tOp r (up K ta) (up K tb) σ H Q:=by obtain⟨τ,M,Qd,A,h,k⟩:=h;refine⟨τ,M,_,A,h,λ x H1 w M1 kp r1 m1 q1=>⟨τ,M1,_,A.go kp m1,q1,λ y H2 w' M2 kp2 r2 m2 q2=>?_⟩⟩;exact hd x y H2 w w' M2 Qd Q (r1.keep kp2) r2 m2 q2 (kgo k (kp.trans kp2))
theorem abW(ho:OpR X (binaryOp op) r)(hd:OpD X.K r rd)(ha:PD X a ta)(hb:PD X b tb):PD X (.BinOp a op b pos) (dOp rd ta tb):=eW (abz ho ha hb) λ σ H Q h=>nv hd h
theorem aaR(ho:OpR X (compareOp op) r)(hd:OpD X.K r rd)(ha:PD X a ta)(hb:PD X b tb)(hm:behindInMarks op b=false:=by first | exact fQ _ (by decide) (by decide) | rfl) :
  PD X (.Compare a [op] [b] pos) (dOp rd ta tb):=eW (vq ho ha hb hm) λ σ H Q h=>nv hd h
theorem abh(hr:IxR X r)(hd:OpD X.K r rd)(ha:PD X a ta)(hb:PD X b tb)(hs:lN b:=by intro _ _;rfl):PD X (.Subscript a b pos) (dOp rd ta tb):=eW (abP hr ha hb hs) λ σ H Q h=>nv hd h
def bP(t:TD)(τ:DS)(M:MH)(Q:Bool->MH->Prop):Prop:=t τ M λ w M1=>∃ k,w=.d (.bool k)/\Q k M1
theorem m9(hi:∀ σ H Q,up K ta σ H Q->t' σ H Q)(h:upT K (bP ta) σ H Q):aaL t' σ H Q:=by obtain⟨τ,M,Qd,A,h,k⟩:=h;refine hi σ H _ ⟨τ,M,_,A,h,λ v H' w M' kp r m hq33=>?_⟩;obtain⟨b,e,q⟩:=hq33;subst e;simp only[aI,aD] at r;exact⟨b,r,k b H' M' kp m q⟩
theorem vE(ho:OpR X (compareOp op) r)(hd:OpD X.K r rd)(ha:PD X a ta)(hb:PD X b tb)(hm:behindInMarks op b=false:=by first | exact fQ _ (by decide) (by decide) | rfl) :
  PTd X (.Compare a [op] [b] pos) (bP (dOp rd ta tb)):=abv (xq ho ha hb hm) λ σ H Q h=>m9 (λ _ _ _ q=>nv hd q) h
theorem xF(h:PD X e te)(he:∀ whole,isTrue e X.env whole=(do let v <- whole;standAt e.pos;holding [v] (truthy v)):=by intro _;rfl):PTd X e (bP te):=abv (yI h he) λ σ H Q q=>m9 (λ _ _ _ z=>z) q
variable {tA tB:TTd}{rest:List Expr}
def abI(t u:TTd)(τ:DS)(M:MH)(Q:Bool->MH->Prop):Prop:=t τ M λ k M1=>if k=true then u τ M1 Q else Q false M1
def abj(t:TTd)(τ:DS)(M:MH)(Q:Bool->MH->Prop):Prop:=t τ M λ k M1=>Q (!k) M1
abbrev PWd(X:Cx)(e:Expr)(t:TTd):Prop:=PW X e (upT X.K t)
theorem pw_w(h:PW X e t)(k:∀ σ H Q,t' σ H Q->t σ H Q):PW X e t':=λ w pins s σ H Q I q=>h w pins s σ H Q I (k σ H Q q)
theorem sR(ha:PTd X a tA):PWd X (.BoolOp .And [a] pos) tA:=pw_and1 ha
theorem vG(ha:PTd X a tA)(hb:PWd X (.BoolOp .And (b::rest) pos) tB):PWd X (.BoolOp .And (a::b::rest) pos) (abI tA tB):=pw_w (pw_and ha hb) λ σ H Q h=>by
 obtain⟨τ,M,Qd,A,h,k⟩:=h;refine⟨τ,M,_,A,h,λ b H1 M1 kp m1 q1=>?_⟩;cases b with
 | true=>rw[if_pos rfl] at q1 ⊢;exact⟨τ,M1,Qd,A.go kp m1,q1,λ b H2 M2 kp2 m2 q2=>k b H2 M2 (kp.trans kp2) m2 q2⟩
 | false=>rw[if_neg Bool.false_ne_true] at q1 ⊢;exact k _ H1 M1 kp m1 q1
theorem acb(h:PWd X e tA):PTd X e tA:=h.pt
theorem wO(ha:PTd X a tA):PTd X (.UnaryOp .Not a pos) (abj tA):=abv (aaf ha) λ σ H Q h=>by obtain⟨τ,M,Qd,A,h,k⟩:=h;exact⟨τ,M,_,A,h,λ b H1 M1 kp m1 q1=>k (!b) H1 M1 kp m1 q1⟩
def qG(ta tb:TD)(τ:DS)(M:MH)(Q:QD):Prop:=ta τ M λ x M1=>∃ k,x=.d (.bool k)/\if k=true then tb τ M1 Q else Q (.d (.bool false)) M1
def xD(ta:TD)(τ:DS)(M:MH)(Q:QD):Prop:=ta τ M λ x M1=>∃ k,x=.d (.bool k)/\Q (.d (.bool (!k))) M1
theorem zo{op}(h:PD X a ta):PD X (.BoolOp op [a] pos) ta:=zK h
theorem aaI(ha:PD X a ta)(hb:PD X (.BoolOp .And (b::rest) pos) tb):PD X (.BoolOp .And (a::b::rest) pos) (qG ta tb):=eW (yX ha hb) λ σ H Q h=>by
 obtain⟨τ,M,Qd,A,h,k⟩:=h;refine⟨τ,M,_,A,h,λ x H1 w M1 kp r1 m1 hq34=>?_⟩;obtain⟨b,e,q1⟩:=hq34;subst e;simp only[aI,aD] at r1;refine⟨b,r1,?_⟩;cases b with
 | true=>rw[if_pos rfl] at q1 ⊢;exact⟨τ,M1,Qd,A.go kp m1,q1,kgo k kp⟩
 | false=>rw[if_neg Bool.false_ne_true] at q1 ⊢;exact k _ H1 _ M1 kp (by simp[aI,aD]) m1 q1
theorem yQ(ha:PD X a ta):PD X (.UnaryOp .Not a pos) (xD ta):=eW (zB ha) λ σ H Q h=>by obtain⟨τ,M,Qd,A,h,k⟩:=h;refine⟨τ,M,_,A,h,λ x H1 w M1 kp r1 m1 hq35=>?_⟩;obtain⟨b,e,q1⟩:=hq35;subst e;simp only[aI,aD] at r1;exact⟨b,r1,k _ H1 _ M1 kp (by simp[aI,aD]) m1 q1⟩
variable {es:List Expr}{t:TAd}
def aR(_:DS)(M:MH)(Q:List W->MH->Prop):Prop:=Q [] M
def aa(ta:TD)(tr:TAd)(τ:DS)(M:MH)(Q:List W->MH->Prop):Prop:=ta τ M λ w M1=>tr τ M1 λ ws M2=>Q (w::ws) M2
theorem oJ:PAd X [] aR:=acG uO λ σ H Q ⟨τ,M,Qd,A,h,k⟩=>k [] H [] M (Kp.refl H) .nil A.mem h
theorem ub(ha:PD X e te)(hr:PAd X es t)(hs:starEach (e::es) X.env=(false,eval e X.env)::starEach es X.env:=by rfl):PAd X (e::es) (aa te t):=acG (sd ha hr hs) λ σ H Q h=>by obtain⟨τ,M,Qd,A,h,k⟩:=h;exact⟨τ,M,_,A,h,λ x H1 w M1 kp r1 m1 q1=>⟨τ,M1,_,A.go kp m1,q1,λ xs H2 ws M2 kp2 r2 m2 q2=>k _ H2 _ M2 (kp.trans kp2) (.cons (r1.keep kp2) r2) m2 q2⟩⟩
def jc:List W->Option (List PyData)
 | []=>some []
 | .d x::r=>(jc r).map (x::·)
 | _::_=>none
theorem jl:∀ {ws:List W} {ds:List PyData},jc ws=some ds->ws=ds.map W.d
 | [],ds,h=>by simp only[jc] at h;cases h;rfl
 | .d x::r,ds,h=>by
  simp only[jc] at h;cases q:jc r with
  | none=>rw[q] at h;cases h
  | some l=>rw[q] at h;cases h;rw[jl q];rfl
 | .m _::_,ds,h=>by simp[jc] at h
 | .t _::_,ds,h=>by simp[jc] at h
def yo(t:TAd)(τ:DS)(M:MH)(Q:QD):Prop:=t τ M λ ws M1=>∃ ds,jc ws=some ds/\ds.length<=sizeLine/\Q (.d (.list ds)) M1
theorem xf(hp:H p=none)(r:aV K H ds vs):aD K (upd H p (.frz o (.lst vs))) (.list ds) (.ref p):=by simp only[aD];exact⟨p,vs,rfl,.inl ⟨o,av⟩,r.keep (Kp.new hp)⟩
theorem lS(hp:H p=none)(r:aV K H ds vs)(m:cn K H M)(q:Qd (.d (.list ds)) M)(k:Kont K H Qd Q) :
  ∃ p' u,V.ref p=.ref p'/\(upd H p (.lst vs)) p'=some u/\Fz u/\∀ o,Q (.ref p) (upd (upd H p (.lst vs)) p' (.frz o u)):=by
 refine⟨p,_,rfl,av,trivial,λ o=>?_⟩;rw[vV];exact k _ _ (.d (.list ds)) M (Kp.new hp) (xf hp r) (m.new hp) q
theorem ze(h:PAd X es t):PD X (.List es pos) (yo t):=eW (qL (vj h)) λ σ H Q h=>by obtain⟨τ,M,Qd,A,h,k⟩:=h;refine⟨τ,M,_,A,h,λ vs H1 ws M1 kp r1 m1 hq36=>?_⟩;obtain⟨ds,e,hz,q1⟩:=hq36;have e':=jl e;subst e';have rA:=r1.data;exact⟨by rw[rA.length];exact hz,λ p hp=>lS hp rA m1 q1 (kgo k kp)⟩
def fN(t:TAd)(τ:DS)(M:MH)(Q:QD):Prop:=t τ M λ ws M1=>ws.length<=sizeLine/\∀ p,M1 p=none->Q (.m p) (aT M1 p (.lst ws))
theorem wG(h:PAd X es t):PD X (.List es pos) (fN t):=eW (vj h) λ σ H Q h=>by obtain⟨τ,M,Qd,A,h,k⟩:=h;refine⟨τ,M,_,A,h,λ vs H1 ws M1 kp r1 m1 ⟨hz,q1⟩=>⟨by rw[<- r1.length];exact hz,λ p hp=>?_⟩⟩;exact k _ _ (.m p) (aT M1 p (.lst ws)) (kp.trans (Kp.new hp)) rfl (m1.put (mo:=.lst ws) (Kp.new hp) ⟨vs,av,r1.keep (Kp.new hp)⟩) (q1 p (m1.free hp))
def oy(t:TAd)(τ:DS)(M:MH)(Q:QD):Prop:=t τ M λ ws M1=>∃ ds,jc ws=some ds/\ds.length<=sizeLine/\Q (.d (.tuple ds)) M1
theorem aaT{x1}(h:PAd X es t):PD X (.Tuple es x1 pos) (oy t):=eW (vo h) λ σ H Q h=>by obtain⟨τ,M,Qd,A,h,k⟩:=h;refine⟨τ,M,_,A,h,λ vs H1 ws M1 kp r1 m1 hq37=>?_⟩;obtain⟨ds,e,hz,q1⟩:=hq37;have e':=jl e;subst e';have rA:=r1.data;refine⟨by rw[rA.length];exact hz,λ p hp=>k _ _ (.d (.tuple ds)) M1 (kp.trans (Kp.new hp)) ?_ (m1.new hp) q1⟩;simp only[aI,aD];exact⟨p,vs,rfl,.inl (.inl av),rA.keep (Kp.new hp)⟩
variable {x:Str}{p:Pos}{id T:String}{r:List V->Hp->VK->Prop}{rd:List W->MH->QD->Prop}
def fc(K:FG)(r:List V->Hp->VK->Prop)(rd:List W->MH->QD->Prop):Prop:=∀ vs H ws M Qd Q,aQ K H ws vs->cn K H M->rd ws M Qd->Kont K H Qd Q->r vs H Q
def dCB(rd:List W->MH->QD->Prop)(t:TAd)(τ:DS)(M:MH)(Q:QD):Prop:=t τ M λ ws M1=>rd ws M1 Q
theorem vi(hd:fc K r rd)(h:up K (dCB rd t) σ H Q):tCB r (upA K t) σ H Q:=by obtain⟨τ,M,Qd,A,h,k⟩:=h;exact⟨τ,M,_,A,h,λ vs H1 ws M1 kp r1 m1 q1=>hd vs H1 ws M1 Qd Q r1 m1 q1 (kgo k kp)⟩
theorem sQ(hc:eA X (.builtin id) r)(hd:fc X.K r rd)(hg:Gl X x)(hm:X.mg x=none)(hv:bootBuiltins x=some (.builtin id))(ha:PAd X (e::es) t)(hn:x ≠ "__name__":= by decide)(hdb:ND x:=by decide)
  (he:starEach (e::es) X.env=(false,eval e X.env)::starEach es X.env:=by rfl)(hpl:(backTo pos (starEach es X.env)).any (·.1)=false:=by rfl):PD X (.Call (.Name x p) (e::es) [] pos) (dCB rd t):=
 eW (tH hc hg hm hv ha hn hdb he hpl) λ σ H Q h=>vi hd h
theorem sj(hc:eA X (.type T) r)(hd:fc X.K r rd)(hg:Gl X x)(hm:X.mg x=none)(hv:bootBuiltins x=some (.type T))(ha:PAd X (e::es) t)(hn:x ≠ "__name__":= by decide)(hdb:ND x:=by decide)
  (he:starEach (e::es) X.env=(false,eval e X.env)::starEach es X.env:=by rfl)(hpl:(backTo pos (starEach es X.env)).any (·.1)=false:=by rfl):PD X (.Call (.Name x p) (e::es) [] pos) (dCB rd t):=
 eW (pF hc hg hm hv ha hn hdb he hpl) λ σ H Q h=>vi hd h
end
section
variable {X:Cx}{pos:Pos}{st:Stmt}{sts:List Stmt}{t u:TSd}{e:Expr}{te:TD}{K:FG}
def dM(D:Ed)(τ:DS)(M:MH):Prop:=D.nx τ M
def bb(t u:TSd)(D:Ed)(τ:DS)(M:MH):Prop:=t {D with nx:=u D} τ M
theorem pI(h1:PSd X st t)(h2:lh X sts u):lh X (st::sts) (bb t u):=aaD (tO h1 h2) λ D σ H ⟨τ,M,Dd,A,h,k1,k2,k3,k4⟩ =>
 ⟨τ,M,{Dd with nx:=u Dd},A,h,λ σ' H' τ' M' kp A' q=>⟨τ',M',Dd,A',q,λ σ2 H2 τ2 M2 kp2=>k1 σ2 H2 τ2 M2 (kp.trans kp2),λ v H2 w M2 kp2=>k2 v H2 w M2 (kp.trans kp2),λ σ2 H2 τ2 M2 kp2=>k3 σ2 H2 τ2 M2 (kp.trans kp2),λ σ2 H2 τ2 M2 kp2=>k4 σ2 H2 τ2 M2 (kp.trans kp2)⟩,k2,k3,k4⟩
theorem sH(h1:PSd X st t):lh X [st] t:=wc h1
def cW(te:TD)(D:Ed)(τ:DS)(M:MH):Prop:=te τ M λ _ M1=>D.nx τ M1
theorem sG(he:PD X e te)(hs:swapsWith e none pos.line X.env=pure false:=by rfl):PSd X (.Expr e pos) (cW te):=mH (wm he hs) λ D σ H ⟨τ,M,Dd,A,h,k1,_⟩ =>
 ⟨τ,M,_,A,h,λ v H1 w M1 kp r m q=>k1 σ H1 τ M1 kp (A.go kp m) q⟩
def jL(te:TD)(D:Ed)(τ:DS)(M:MH):Prop:=te τ M D.rt
theorem vM(he:PD X e te):PSd X (.Return (some e) pos) (jL te):=mH (zN he) λ D σ H ⟨τ,M,Dd,A,h,k1,k2,_⟩=>⟨τ,M,_,A,h,λ v H1 w M1 kp r m q=>k2 v H1 w M1 kp r m q⟩
def dIf(c:TTd)(t u:TSd)(D:Ed)(τ:DS)(M:MH):Prop:=c τ M λ b M1=>if b=true then t D τ M1 else u D τ M1
theorem zP(hc:PTd X c tc)(ha:lh X a t)(hb:lh X b u):PSd X (.If c a b pos) (dIf tc t u):=mH (aca hc ha hb) λ D σ H hq38=>by
 obtain⟨τ,M,Dd,A,h,k1,k2,k3,k4⟩:=hq38;refine⟨τ,M,_,A,h,λ b H1 M1 kp m q=>?_⟩;have go:∀ {t':TSd},t' Dd τ M1->upS X.K t' D σ H1:=λ {t'} q=>⟨τ,M1,Dd,A.go kp m,q,λ σ2 H2 τ2 M2 kp2=>k1 σ2 H2 τ2 M2 (kp.trans kp2),λ v H2 w M2 kp2=>k2 v H2 w M2 (kp.trans kp2),λ σ2 H2 τ2 M2 kp2=>k3 σ2 H2 τ2 M2 (kp.trans kp2),λ σ2 H2 τ2 M2 kp2=>k4 σ2 H2 τ2 M2 (kp.trans kp2)⟩;cases b with
 | true=>rw[if_pos rfl] at q;show(if true=true then upS X.K t D σ H1 else upS X.K u D σ H1);rw[if_pos rfl];exact go q
 | false=>rw[if_neg Bool.false_ne_true] at q;show(if false=true then upS X.K t D σ H1 else upS X.K u D σ H1);rw[if_neg Bool.false_ne_true];exact go q
abbrev TGd:=W->DS->MH->(DS->MH->Prop)->Prop
def upG(K:FG)(g:TGd):TG:=λ v σ H Q=>∃ w τ M Qd,aI K H w v/\Abs K H σ τ M/\g w τ M Qd/\∀ σ' H' τ' M',Kp H H'->Abs K H' σ' τ' M'->Qd τ' M'->Q σ' H'
abbrev PGd(X:Cx)(e:Expr)(g:TGd):Prop:=PG X e (upG X.K g)
theorem abR(h:PG X e g)(k:∀ v σ H Q,g' v σ H Q->g v σ H Q):PG X e g':=λ pins s σ H v u Q I r q=>h pins s σ H v u Q I r (k v σ H Q q)
def gN(i:Nat)(w:W)(τ:DS)(M:MH)(Q:DS->MH->Prop):Prop:=Q (τ.set i (some w)) M
def bR(te:TD)(g:TGd)(D:Ed)(τ:DS)(M:MH):Prop:=te τ M λ w M1=>g w τ M1 D.nx
theorem we(h:upS K (bR te g) D σ H):aa1 (up K te) (upG K g) D σ H:=by obtain⟨τ,M,Dd,A,h,k1,_⟩:=h;exact⟨τ,M,_,A,h,λ v H1 w M1 kp r m q=>⟨w,τ,M1,_,r,A.go kp m,q,λ σ2 H2 τ2 M2 kp2 A2 q2=>k1 σ2 H2 τ2 M2 (kp.trans kp2) A2 q2⟩⟩
theorem w6(he:PD X e te)(hg:PGd X tg g)(hs:swapsWithSole [tg] e pos.line X.env=pure false:=by rfl)(hw:swappedStores [tg] e X.env=pure none:=by rfl)
  (h1:(assignEach [tg] X.env).map (·.2)=[assign tg X.env]:=by rfl):PSd X (.Assign [tg] e pos) (bR te g):=mH (yO he hg hs hw h1) λ D σ H h=>we h
theorem vU(hN:X.N.Nodup)(hi:X.N[i]? =some x)(hx:Loc X.env.scope x)(he:PD X e te)(hs:swapsWith e (some (.Name x pos')) pos.line X.env=pure false:=by rfl)(hf:X.fn x=true\/X.env.scope.names.lookup x=some .local:=by first | exact .inl rfl | exact .inr rfl | assumption) :
  PSd X (.Assign [.Name x pos'] e pos) (bR te (gN i)):=mH (zD hN hi hx he hs hf) λ D σ H ⟨τ,M,Dd,A,h,k1,_⟩ =>
 ⟨τ,M,_,A,h,λ v H1 w M1 kp r m q=>k1 _ H1 _ M1 kp ((A.go kp m).set i r) q⟩
end
abbrev SpD:=List W->MH->QD->Prop
def dy(K:FG)(sp:SpD):Sp:=λ vs H Q _=>∃ ws M Qd,aQ K H ws vs/\cn K H M/\sp ws M Qd/\Kont K H Qd Q
def bS(sp:SpD)(t:TAd)(τ:DS)(M:MH)(Q:QD):Prop:=t τ M λ ws M1=>sp ws M1 Q
theorem wu(F:cR X.prog X.w X.K X.mg X.base CX0 k f fd ps (dy X.K sp))(hr:cj k X.A)(hg:Gl X x)(hm:X.mg x=some (.ref f))(hk:W.keepIn X.K (.ref f)=true)(hb:Binds X.K fd ps [])
  (ha:PAd X (e::es) t)(hdb:ND x:=by decide)(he:starEach (e::es) X.env=(false,eval e X.env)::starEach es X.env:=by rfl)(hpl:(backTo pos (starEach es X.env)).any (·.1)=false:=by rfl) :
  PD X (.Call (.Name x p) (e::es) [] pos) (bS sp t):=eW (xo (E:=E0) (dvs:=[]) F hr hg hm hk hb .nil uC ha hdb he hpl) λ σ H Q h=>by
 obtain⟨τ,M,Qd,A,h,k⟩:=h;exact⟨τ,M,_,A,h,λ vs H1 ws M1 kp r1 m1 q1=>⟨ws,M1,Qd,by rw[List.append_nil];exact r1,m1,q1,kgo k kp⟩⟩
def bG(N:List Str)(ws:List W):DS:=ws.map some++List.replicate (N.length-ws.length) none
section
variable {P:Program}{w:World}{K:FG}{mg:Str->Option Value}{base:Heap}
theorem jU(r:aQ K H ws vs)(m:cn K H M):Abs K H (start N vs) (bG N ws) M:=by
 have hl:=r.length;refine⟨?_,λ i w e=>?_,m⟩
 ·simp[L2.start,bG,hl]
 ·unfold bG at e
  by_cases hi:i<ws.length
  ·rw[List.getElem?_append_left (by simpa using hi),List.getElem?_map] at e;cases q:ws[i]? with
   | none=>rw[q] at e;cases e
   | some w' =>
    rw[q] at e;cases e;obtain⟨v,e1,r1⟩:=r.get q;refine⟨v,?_,r1⟩;unfold L2.start;rw[List.getElem?_append_left (by rw[List.length_map,<- hl];exact hi),List.getElem?_map,e1];rfl
  ·rw[List.getElem?_append_right (by simpa using hi),List.getElem?_replicate] at e
   split at e<;>cases e
theorem cK{x qual:Str}{st:Stmt}{N ps:List Str}{k:Nat}{sp:SpD}{t:TSd}(F:Fun K x qual st f fd)(S:bh N ps (aq st))(len:∀ ws M Q,sp ws M Q->ws.length=ps.length)
  (hbody:∀ (cdv:Value) (A:Around) (outer:List Env) (s:Shared) (H:Hp) (E:XK),cj k (A.deeper (envOfC qual (aq st) s.heap.objs.size f cdv)) ->
   lh (vc CX0 P w K mg base N qual (aq st) f cdv A outer s H E).nox (aM st) t)
  (read:∀ ws M Q,sp ws M Q->t {nx:=λ _ M'=>Q (.d .none) M',rt:=Q} (bG N ws) M):cR P w K mg base CX0 (k+1) f fd ps (dy K sp):=by
 refine F.ok S (λ vs H Q E h=>?_) (λ cdv A outer s H vs Q E hr h=>?_)
 ·obtain⟨ws,M,Qd,r,_,q,_⟩:=h;rw[<- r.length];exact len _ _ _ q
 ·obtain⟨ws,M,Qd,r,m,q,kk⟩:=h;refine⟨_,hbody cdv A outer s H E hr,bG N ws,M,_,jU r m,read ws M Qd q,λ σ' H' τ' M' kp A' q'=>?_,λ v H' w' M' kp r' m' q'=>?_,λ σ' H' τ' M' kp A' q'=>q'.elim,λ σ' H' τ' M' kp A' q'=>q'.elim⟩
  ·exact kk _ H' _ M' kp (by simp[aI,aD]) A'.mem q'
  ·exact kk v H' w' M' kp r' m' q'
end
end D
namespace L2
structure qF(k:Nat)(A:Around):Prop where
 gd:A.guards=some []
 dp:A.depth+3 * k+5<recursionLimit
 un:A.units+16 * k+200<cLine
theorem qF.units(r:qF k A):A.units+64<cLine:=by have:=r.un;omega
theorem cj.h(r:cj k A):qF k A:=⟨r.gd,r.dp,r.un⟩
end L2
namespace D
open L2
mutual
theorem fX(I:Inv X pins σ H s):∀ (d:PyData) {x:V} {u:Value},aD X.K H d x->RelV x u->d.hasDict=false->∃ as,Reads s.heap u d as
 | .none,x,u,h,r,_=>by simp only[aD] at h;subst h;cases (show u=Value.none from r);exact⟨_,.none⟩
 | .bool b,x,u,h,r,_=>by simp only[aD] at h;subst h;cases (show u=Value.bool b from r);exact⟨_,.bool b⟩
 | .int i,x,u,h,r,_=>by simp only[aD] at h;subst h;obtain⟨t,e⟩:=(show ∃ t,u=Value.int i t from r);subst e;exact⟨_,.int i t⟩
 | .str z,x,u,h,r,_=>by simp only[aD] at h;subst h;obtain⟨t,e⟩:=(show ∃ t,u=Value.str z t from r);subst e;exact⟨_,.str z t⟩
 | .list ds,x,u,h,r,hd=>by simp only[aD] at h;obtain⟨a,vs,e,hs,ra⟩:=h;subst e;cases (show u=Value.ref a from r);obtain⟨its,rv,⟨o,n,e1,e2,e3,e4⟩,hz⟩:=I.list hs.sq;obtain⟨as,q⟩:=gn I ds ra rv (by simpa [PyData.hasDict] using hd);exact⟨_,.list e1 e2 e4 (by simpa using q)⟩
 | .tuple ds,x,u,h,r,hd=>by simp only[aD] at h;obtain⟨a,vs,e,hs,ra⟩:=h;subst e;cases (show u=Value.ref a from r);obtain⟨its,rv,⟨o,e1,e2,n,e4⟩,hz⟩:=I.tuple hs;obtain⟨as,q⟩:=gn I ds ra rv (by simpa [PyData.hasDict] using hd);exact⟨_,.tuple e1 e2 e4 (by simpa using q)⟩
 | .dict kvs,x,u,h,r,hd=>by simp[PyData.hasDict] at hd
theorem gn(I:Inv X pins σ H s):∀ (ds:List PyData) {xs:List V} {us:List Value},aV X.K H ds xs->Vals xs us->PyData.hasDictAll ds=false->∃ as,ReadsAll s.heap us ds as
 | [],xs,us,h,r,_=>by simp only[aV] at h;subst h;cases r;exact⟨_,.nil⟩
 | d::ds,xs,us,h,r,hd=>by
  simp only[aV] at h;obtain⟨v,vr,e,h1,h2⟩:=h;subst e;simp only[PyData.hasDictAll,Bool.or_eq_false_iff] at hd;cases r with
  | cons r1 r2 =>
   obtain⟨as,q1⟩:=fX I d h1 r1 hd.1;obtain⟨bs,q2⟩:=gn I ds h2 r2 hd.2;exact⟨_,.cons q1 q2⟩
end
def uZ(d:PyData):Bool:=SeqAt.shaped d&&!d.hasDict
def eS:PyData->PyData->Bool
 | .str _,.str _=>true
 | d,d'=>uZ d&&uZ d'
theorem gA(h:eS d d'=true):(∃ x y,d=.str x/\d'=.str y)\/(uZ d=true/\uZ d'=true):=by
 cases d with
 | str x =>
  cases d' with
  | str y=>exact .inl ⟨x,y,rfl,rfl⟩
  | _=>exact .inr (by simpa [eS] using h)
 | _=>exact .inr (by simpa [eS] using h)
theorem xt(x y:Str):decide (V.str x=V.str y)=PyData.eqv (.str x) (.str y):=by
 rw[PyData.eqv]
 by_cases e:x=y
 ·subst e;simp
 ·rw[decide_eq_false (λ z=>e (V.str.inj z))];exact(beq_eq_false_iff_ne.mpr e).symm
theorem uX(hr:qF k X.A):OpR X (compareOp .Eq) (λ x y H Q=>∃ d d',aD X.K H d x/\aD X.K H d' y/\eS d d'=true/\Q (.bl (PyData.eqv d d')) H):=by
 intro pins s σ H x y v u Q I rx ry h;obtain⟨d,d',h1,h2,o,q⟩:=h;rcases gA o with ⟨a,b,e1,e2⟩ | ⟨o1,o2⟩
 ·subst e1;subst e2;simp only[aD] at h1 h2;subst h1;subst h2;exact abf pins s σ H _ _ v u Q I rx ry ⟨rfl,by rw[xt];exact q⟩
 simp only[uZ,Bool.and_eq_true,Bool.not_eq_true'] at o1 o2;obtain⟨as,r1⟩:=fX I d h1 rx o1.2;obtain⟨bs,r2⟩:=fX I d' h2 ry o2.2;exact eq_dataH r1 r2 o1.1 o2.1 hr.units ⟨.bl _,H,I,rfl,q⟩
def tyD:PyData->String
 | .none => "NoneType"
 | .bool _ => "bool"
 | .int _ => "int"
 | .str _ => "str"
 | .list _ => "list"
 | .tuple _ => "tuple"
 | .dict _ => "dict"
inductive Ty6:String->Prop where
 | int:Ty6 "int" | bool:Ty6 "bool" | str:Ty6 "str" | list:Ty6 "list" | tuple:Ty6 "tuple" | dict:Ty6 "dict"
def oG(d:PyData)(T:String):Bool:=tyD d==T || (T == "int" && tyD d == "bool")
theorem qW{K:FG}(d:PyData){T:String}(h:Ty6 T):W.kitOne K (.type (tyD d)) (.type T)=some (oG d T):=by
 cases h<;>cases d<;>rfl
theorem qX:eA X (.builtin "isinstance") (λ xs H Q=>∃ x d T,xs=[x,.ty T]/\aD X.K H d x/\Ty6 T/\Q (.bl (oG d T)) H):=by
 intro pins s σ H xs us Q I r h;obtain⟨x,d,T,rfl,rd,h6,q⟩:=h;obtain⟨u,w',rfl,rx,ry⟩:=vals2 r;cases (show w'=Value.type T from ry);have e:=qW (K:=X.K) d h6;have fin:∀ tk,EP X pins σ Q (.bool (oG d T)) {s with toks:=tk}:=λ tk=>⟨.bl _,H,I.tok _,rfl,q⟩;generalize oG d T=b at e fin;cases d with
 | none=>simp only[aD] at rd;subst rd;cases (show u=Value.none from rx);exact W.kia_one W.kitx_none I.kIn True.intro e (λ z=>nomatch z) fin
 | bool y=>simp only[aD] at rd;subst rd;cases (show u=Value.bool y from rx);exact W.kia_one W.kitx_bool I.kIn True.intro e (λ z=>nomatch z) fin
 | int i=>simp only[aD] at rd;subst rd;obtain⟨t,z⟩:=(show ∃ t,u=Value.int i t from rx);subst z;exact W.kia_one W.kitx_int I.kIn True.intro e (λ z=>nomatch z) fin
 | str y=>simp only[aD] at rd;subst rd;obtain⟨t,z⟩:=(show ∃ t,u=Value.str y t from rx);subst z;exact W.kia_one W.kitx_str I.kIn True.intro e (λ z=>nomatch z) fin
 | list ds =>
  simp only[aD] at rd;obtain⟨a,vs,z,hs,_⟩:=rd;subst z;cases (show u=Value.ref a from rx);obtain⟨its,rv,⟨o,n,e1,e2,e3,e4⟩,hz⟩:=I.list hs.sq;exact W.kia_one W.kitx_list I.kIn ⟨_,e1,e2⟩ e (λ z=>nomatch z) fin
 | tuple ds =>
  simp only[aD] at rd;obtain⟨a,vs,z,hs,_⟩:=rd;subst z;cases (show u=Value.ref a from rx);obtain⟨its,rv,⟨o,e1,e2,e3⟩,hz⟩:=I.tuple hs;exact W.kia_one W.kitx_tuple I.kIn ⟨_,e1,e2⟩ e (λ z=>nomatch z) fin
 | dict kvs =>
  simp only[aD] at rd;obtain⟨a,o,l,z,ha,_⟩:=rd;subst z;cases (show u=Value.ref a from rx);obtain⟨_,hs,vs,kv,o',es,ep,e1,e2,_⟩:=vX I.hok (.inr ⟨o,ha⟩);exact W.kia_one W.kitx_dict I.kIn ⟨_,e1,e2.1⟩ e (λ z=>nomatch z) fin
end D
namespace D
open L2
section
variable {X:Cx}{K:FG}
theorem OpR.or(h:OpR X f r)(h':OpR X f r'):OpR X f (λ x y H Q=>r x y H Q\/r' x y H Q):=by
 intro pins s σ H x y v u Q I rx ry q;rcases q with q | q
 ·exact h pins s σ H x y v u Q I rx ry q
 ·exact h' pins s σ H x y v u Q I rx ry q
theorem OpD.or(h:OpD K r rd)(h':OpD K r' rd'):OpD K (λ x y H Q=>r x y H Q\/r' x y H Q) (λ w w' M Q=>rd w w' M Q\/rd' w w' M Q):=by
 intro x y H w w' M Qd Q r1 r2 m q k;rcases q with q | q
 ·exact .inl (h x y H w w' M Qd Q r1 r2 m q k)
 ·exact .inr (h' x y H w w' M Qd Q r1 r2 m q k)
def yA(g:Int->Int->PyData)(w:W)(w':W)(M:MH)(Q:QD):Prop:=∃ i j,w=.d (.int i)/\w'=.d (.int j)/\Q (.d (g i j)) M
def rdI(C:Int->Int->Prop)(g:Int->Int->PyData)(w:W)(w':W)(M:MH)(Q:QD):Prop:=∃ i j,w=.d (.int i)/\w'=.d (.int j)/\C i j/\Q (.d (g i j)) M
theorem kl(hg:∀ i j H,aD K H (gd i j) (g i j)):OpD K (rI0 g) (yA gd):=by intro x y H w w' M Qd Q r1 r2 m ⟨i,j,e1,e2,q⟩ k;subst e1;subst e2;simp only[aI,aD] at r1 r2;exact⟨i,j,r1,r2,k _ H (.d (gd i j)) M (Kp.refl H) (hg i j H) m q⟩
theorem wL(hg:∀ i j H,aD K H (gd i j) (g i j)):OpD K (rI C g) (rdI C gd):=by intro x y H w w' M Qd Q r1 r2 m ⟨i,j,e1,e2,c,q⟩ k;subst e1;subst e2;simp only[aI,aD] at r1 r2;exact⟨i,j,r1,r2,c,k _ H (.d (gd i j)) M (Kp.refl H) (hg i j H) m q⟩
def eB(w w':W)(M:MH)(Q:QD):Prop:=rdI aaw (λ i j=>.int (i * j)) w w' M Q
def c9(w w':W)(M:MH)(Q:QD):Prop:=rdI (λ _ j=>0<j) (λ i j=>.int (i % j)) w w' M Q
def qN(w w':W)(M:MH)(Q:QD):Prop:=rdI ab9 (λ i j=>.int (i / j)) w w' M Q
def bC(w:W)(w':W)(M:MH)(Q:QD):Prop:=yA (λ i j=>.int (i+j)) w w' M Q\/∃ x y,w=.d (.str x)/\w'=.d (.str y)/\x.length+y.length<=sizeLine/\Q (.d (.str (x++y))) M
theorem eX:OpD K (rI aaw λ i j=>.int (i * j)) eB:=wL λ _ _ _=>by simp[aD]
theorem dF:OpD K (rI (λ _ j=>0<j) λ i j=>.int (i % j)) c9:=wL λ _ _ _=>by simp[aD]
theorem rC:OpD K (rI ab9 λ i j=>.int (i / j)) qN:=wL λ _ _ _=>by simp[aD]
def wN:R2:=λ x y H Q=>∃ i j,x=.str i/\y=.str j/\i.length+j.length<=sizeLine/\Q (.str (i++j)) H
theorem tj:OpD K wN (λ w w' M Q=>∃ x y,w=.d (.str x)/\w'=.d (.str y)/\x.length+y.length<=sizeLine/\Q (.d (.str (x++y))) M):=by intro x y H w w' M Qd Q r1 r2 m ⟨i,j,e1,e2,c,q⟩ k;subst e1;subst e2;simp only[aI,aD] at r1 r2;exact⟨i,j,r1,r2,c,k _ H (.d (.str (i++j))) M (Kp.refl H) (by simp[aI,aD]) m q⟩
theorem bx:OpR X (binaryOp .Add) (λ x y H Q=>rI0 (λ i j=>.int (i+j)) x y H Q\/wN x y H Q):=OpR.or zS n8
theorem aZ:OpD K (λ x y H Q=>rI0 (λ i j=>.int (i+j)) x y H Q\/wN x y H Q) bC:=OpD.or (kl λ _ _ _=>by simp[aD]) tj
def rS(g:Str->Str->Bool):R2:=λ x y H Q=>∃ i j,x=.str i/\y=.str j/\Q (.bl (g i j)) H
def rdS(g:Str->Str->Bool)(w:W)(w':W)(M:MH)(Q:QD):Prop:=∃ i j,w=.d (.str i)/\w'=.d (.str j)/\Q (.d (.bool (g i j))) M
theorem abq:OpD K (rS g) (rdS g):=by intro x y H w w' M Qd Q r1 r2 m ⟨i,j,e1,e2,q⟩ k;subst e1;subst e2;simp only[aI,aD] at r1 r2;exact⟨i,j,r1,r2,k _ H (.d (.bool (g i j))) M (Kp.refl H) (by simp[aI,aD]) m q⟩
theorem pN:OpR X (compareOp .LtE) (rS λ x y=>!decide (y.cps.toList<x.cps.toList)):=by intro pins s σ H x y v u Q I rx ry h;obtain⟨i,j,rfl,rfl,q⟩:=h;obtain⟨t,rfl⟩:=rx;obtain⟨t',rfl⟩:=ry;exact PySem.P.le_str ⟨.bl _,H,I,rfl,q⟩
def aa5(w:W)(w':W)(M:MH)(Q:QD):Prop:=yA (λ i j=>.bool (decide (i<=j))) w w' M Q\/rdS (λ x y=>!decide (y.cps.toList<x.cps.toList)) w w' M Q
theorem ve:OpR X (compareOp .LtE) (λ x y H Q=>rI0 (λ i j=>.bl (decide (i<=j))) x y H Q\/rS (λ x y=>!decide (y.cps.toList<x.cps.toList)) x y H Q):=OpR.or ab0 pN
theorem sf:OpD K (λ x y H Q=>rI0 (λ i j=>.bl (decide (i<=j))) x y H Q\/rS (λ x y=>!decide (y.cps.toList<x.cps.toList)) x y H Q) aa5:=OpD.or (kl λ _ _ _=>by simp[aD]) abq
def yH(w w':W)(M:MH)(Q:QD):Prop:=yA (λ i j=>.bool (decide (i<j))) w w' M Q
def aaS(w w':W)(M:MH)(Q:QD):Prop:=yA (λ i j=>.bool (decide (j<i))) w w' M Q
def abF(w w':W)(M:MH)(Q:QD):Prop:=yA (λ i j=>.bool (decide (j<=i))) w w' M Q
theorem ny:OpD K (rI0 λ i j=>.bl (decide (i<j))) yH:=kl λ _ _ _=>by simp[aD]
theorem uN:OpD K (rI0 λ i j=>.bl (decide (j<i))) aaS:=kl λ _ _ _=>by simp[aD]
theorem zF:OpD K (rI0 λ i j=>.bl (decide (j<=i))) abF:=kl λ _ _ _=>by simp[aD]
def acF(w:W)(w':W)(M:MH)(Q:QD):Prop:=∃ d d',w=.d d/\w'=.d d'/\eS d d'=true/\Q (.d (.bool (PyData.eqv d d'))) M
theorem yD:OpD K (λ x y H Q=>∃ d d',aD K H d x/\aD K H d' y/\eS d d'=true/\Q (.bl (PyData.eqv d d')) H) acF:=by intro x y H w w' M Qd Q r1 r2 m ⟨d,d',e1,e2,o1,q⟩ k;subst e1;subst e2;exact⟨d,d',r1,r2,o1,k _ H (.d (.bool _)) M (Kp.refl H) (by simp[aI,aD]) m q⟩
def yz:W->Bool
 | .d (.str z)=>decide (z.length<=sizeLine)
 | _=>true
def ixW(M:MH):W->Int->Option W
 | .d (.list ds),i=>(atI ds i).map W.d
 | .d (.tuple ds),i=>(atI ds i).map W.d
 | .d (.str z),i=>(atI z.cps.toList i).map λ c=>W.d (.str ⟨#[c]⟩)
 | .m a,i=>match M a with
  | some (.lst ws)=>atI ws i
  | some (.tup ws)=>atI ws i
  | _=>none
 | _,_=>none
inductive RIx(w:W) (w':W) (M:MH) (Q:QD):Prop
 | mk (i:Int) (x:W) (z0:w'=.d (.int i)) (z1:ixW M w i=some x) (z2:yz w=true) (q:Q x M):RIx w w' M Q
def du(w:W)(w':W)(M:MH)(Q:QD):Prop:=RIx w w' M Q
theorem nq(r:aV K H ds vs)(e:atI ds i=some d):∃ v,atI vs i=some v/\aD K H d v:=by
 unfold atI at e ⊢;rw[r.length];cases q:ixN ds.length i with
 | none=>rw[q] at e;cases e
 | some j =>
  rw[q] at e;exact r.get e
theorem kH(r:aQ K H ds vs)(e:atI ds i=some d):∃ v,atI vs i=some v/\aI K H d v:=by
 unfold atI at e ⊢;rw[<- r.length];cases q:ixN ds.length i with
 | none=>rw[q] at e;cases e
 | some j =>
  rw[q] at e;exact r.get e
theorem bJ:OpD K (rIx K) du:=by
 intro x y H w w' M Qd Q r1 r2 m ⟨i,z,e2,ei,hf,q⟩ k;subst e2;simp only[aI,aD] at r2;cases w with
 | t n=>simp[ixW] at ei
 | m a =>
  simp only[aI] at r1;simp only[ixW] at ei;cases hm:M a with
  | none=>rw[hm] at ei;cases ei
  | some mo =>
   rw[hm] at ei;cases mo with
   | lst ws =>
    obtain⟨vs,e1,rw1⟩:=m a _ hm;obtain⟨v,e3,rv⟩:=kH rw1 ei;exact .inl ⟨a,vs,i,v,r1,r2,SqL.of e1,e3,k v H z M (Kp.refl H) rv m q⟩
   | dic _=>cases ei
   | dct _=>cases ei
   | fdic _=>cases ei
   | ins _ _=>cases ei
   | tup ws =>
    obtain⟨vs,e1,rw1⟩:=m a _ hm;obtain⟨v,e3,rv⟩:=kH rw1 ei;exact .inr (.inl ⟨a,vs,i,v,r1,r2,.inl (.inl e1),e3,k v H z M (Kp.refl H) rv m q⟩)
   | flst _=>cases ei
   | exc _ _=>cases ei
   | code _ _=>cases ei
 | d d =>
  cases d with
  | list ds =>
   simp only[aI,aD] at r1;obtain⟨a,vs,e1,hs,ra⟩:=r1;simp only[ixW] at ei;cases h:atI ds i with
   | none=>rw[h] at ei;cases ei
   | some d =>
    rw[h] at ei;cases ei;obtain⟨v,e3,rv⟩:=nq ra h;exact .inl ⟨a,vs,i,v,e1,r2,hs.sq,e3,k v H (.d d) M (Kp.refl H) rv m q⟩
  | tuple ds =>
   simp only[aI,aD] at r1;obtain⟨a,vs,e1,hs,ra⟩:=r1;simp only[ixW] at ei;cases h:atI ds i with
   | none=>rw[h] at ei;cases ei
   | some d =>
    rw[h] at ei;cases ei;obtain⟨v,e3,rv⟩:=nq ra h;exact .inr (.inl ⟨a,vs,i,v,e1,r2,hs,e3,k v H (.d d) M (Kp.refl H) rv m q⟩)
  | str s =>
   simp only[aI,aD] at r1;simp only[ixW] at ei;cases h:atI s.cps.toList i with
   | none=>rw[h] at ei;cases ei
   | some c =>
    rw[h] at ei;cases ei;exact .inr (.inr ⟨s,i,c,r1,r2,of_decide_eq_true hf,h,k _ H (.d (.str ⟨#[c]⟩)) M (Kp.refl H) (by simp[aI,aD]) m q⟩)
  | _=>simp[ixW] at ei
theorem vW(h:PE X e t):PE X e (λ σ H Q=>t σ H λ v H1=>Q v H1\/∃ p u,v=.ref p/\H1 p=some u/\Fz u/\∀ o,Q v (upd H1 p (.frz o u))):=by
 intro pins s σ H Q I hq;refine thn (h pins s σ H _ I hq) λ v s1 hq39=>?_;obtain⟨x,H1,I1,r1,q⟩:=hq39;rcases q with q | ⟨p,u,e1,e2,f,q⟩
 ·exact⟨x,_,I1,r1,q⟩
 ·obtain⟨o,I2⟩:=I1.freeze e2 f;exact⟨x,_,I2,r1,q o⟩
def acC:V->Option Int->Option Int->Hp->VK->Prop:=λ x lo hi H Q=>∃ z,x=.str z/\z.length<=sizeLine/\Q (.str (Txt.slice z lo hi)) H
theorem aag:SlR X acC:=by
 intro pins s σ H x v vl vu lo hi sl Q I rx hs pl pu h;obtain⟨z,rfl,hz,q⟩:=h;obtain⟨t,rfl⟩:=rx;have fin:∀ t' k,EP X pins σ Q (.str (Txt.slice z lo hi) t') {s with toks:=k}:=λ t' k=>⟨.str _,H,I.tok _,⟨_,rfl⟩,q⟩;refine⟨"str",_,F.slot_str_getitem.lookup,typeIs_str _ _ _,?_⟩;cases pl with
 | none =>
  cases pu with
  | none=>exact wpAny_getItem_str_slice (l:=none) (u:=none) (st:=none) hs rfl (post_val_or_str ⟨Nat.le_trans (Txt.slice_le z _ _) hz,fin⟩)
  | int j uj=>exact wpAny_getItem_str_slice (l:=none) (u:=some (j,uj)) (st:=none) hs rfl (post_val_or_str ⟨Nat.le_trans (Txt.slice_le z _ _) hz,fin⟩)
 | int i ui =>
  cases pu with
  | none=>exact wpAny_getItem_str_slice (l:=some (i,ui)) (u:=none) (st:=none) hs rfl (post_val_or_str ⟨Nat.le_trans (Txt.slice_le z _ _) hz,fin⟩)
  | int j uj=>exact wpAny_getItem_str_slice (l:=some (i,ui)) (u:=some (j,uj)) (st:=none) hs rfl (post_val_or_str ⟨Nat.le_trans (Txt.slice_le z _ _) hz,fin⟩)
abbrev TOd:=DS->MH->(Option Int->MH->Prop)->Prop
def upO(K:FG)(t:TOd):TO:=λ σ H Q=>∃ τ M Qd,Abs K H σ τ M/\t τ M Qd/\∀ b H' M',Kp H H'->cn K H' M'->Qd b M'->Q b H'
abbrev POd(X:Cx)(e:Option Expr)(t:TOd):Prop:=PO X e (upO X.K t)
theorem acq(h:PO X e t)(k:∀ σ H Q,t' σ H Q->t σ H Q):PO X e t':=λ pins s σ H Q I q=>h pins s σ H Q I (k σ H Q q)
def i8(_:DS)(M:MH)(Q:Option Int->MH->Prop):Prop:=Q none M
def qb(t:TD)(τ:DS)(M:MH)(Q:Option Int->MH->Prop):Prop:=t τ M λ w M1=>∃ i,w=.d (.int i)/\Q (some i) M1
theorem uE(h:PD X e te):POd X (some e) (qb te):=acq (xX h) λ σ H Q ⟨τ,M,Qd,A,q,k⟩=>⟨τ,M,_,A,q,λ v H1 w M1 kp r m hq40=>by obtain⟨i,e,q1⟩:=hq40;subst e;simp only[aI,aD] at r;exact⟨i,r,k _ H1 M1 kp m q1⟩⟩
def cutD(xs:List α)(lo hi:Option Int):List α:=(xs.drop (HT.sIx xs.length 0 lo)).take (HT.sIx xs.length xs.length hi-HT.sIx xs.length 0 lo)
def vf(n:Nat)(lo hi:Option Int):Bool:=decide (HT.sIx n 0 lo=0/\HT.sIx n n hi=n)
def slW:W->Option Int->Option Int->Option W
 | .d (.list ds),lo,hi=>some (.d (.list (cutD ds lo hi)))
 | .d (.tuple ds),lo,hi=>if vf ds.length lo hi then none else some (.d (.tuple (cutD ds lo hi)))
 | .d (.str z),lo,hi=>some (.d (.str (Txt.slice z lo hi)))
 | _,_,_=>none
def dSl(te:TD)(tl th:TOd)(τ:DS)(M:MH)(Q:QD):Prop:=te τ M λ w M1=>tl τ M1 λ lo M2=>th τ M2 λ hi M3=>∃ z,slW w lo hi=some z/\yz w=true/\Q z M3
theorem zd:SlR X (λ x lo hi H Q=>acO X.K x lo hi H Q\/acy X.K x lo hi H Q\/acC x lo hi H Q):=w4.or (aaM.or aag)
theorem aV.cut(r:aV K H ds vs)(lo hi:Option Int):aV K H (cutD ds lo hi) (vk vs lo hi):=by
 unfold cutD vk;rw[r.length];exact(r.drop _).take _
theorem sW{te:TD}{lo hi:Option Expr}{tl th:TOd}{pos p2:Pos}(he:PD X e te)(hl:POd X lo tl)(hu:POd X hi th):PD X (.Subscript e (.Slice lo hi none p2) pos) (dSl te tl th):=
 eW (vW (uk zd he hl hu)) λ σ H Q h=>by
  obtain⟨τ,M,Qd,A,h,k⟩:=h;refine⟨τ,M,_,A,h,λ v H1 w M1 kp1 r1 m1 q1=>⟨τ,M1,_,A.go kp1 m1,q1,λ lo H2 M2 kp2 m2 q2=>⟨τ,M2,_,A.go (kp1.trans kp2) m2,q2,λ hi H3 M3 kp3 m3 q3=>?_⟩⟩⟩;obtain⟨z,ez,hf,q⟩:=q3;have kp:=(kp1.trans kp2).trans kp3;have r:=r1.keep (kp2.trans kp3);cases w with
  | t n=>simp[slW] at ez
  | m a=>simp[slW] at ez
  | d d =>
   cases d with
   | list ds =>
    simp only[slW] at ez;cases ez;simp only[aI,aD] at r;obtain⟨a,vs,e1,hs,ra⟩:=r;exact .inl ⟨a,vs,e1,hs.sq,λ p hp=>.inr (lS hp (aV.cut ra lo hi) m3 q (kgo k kp))⟩
   | tuple ds =>
    simp only[slW] at ez
    split at ez
    ·cases ez
    ·rename_i hw
     cases ez;simp only[aI,aD] at r;obtain⟨a,vs,e1,hs,ra⟩:=r;refine .inr (.inl ⟨a,vs,e1,hs,?_,λ p hp=>.inl ?_⟩)
     ·rw[ra.length]
      simpa [vf] using hw
     ·refine k _ _ (.d (.tuple _)) M3 (kp.trans (Kp.new hp)) ?_ (m3.new hp) q;simp only[aI,aD];exact⟨p,_,rfl,.inl (.inl av),(aV.cut ra lo hi).keep (Kp.new hp)⟩
   | str s =>
    simp only[slW] at ez;cases ez;simp only[aI,aD] at r;exact .inr (.inr ⟨s,r,of_decide_eq_true hf,.inl (k _ H3 (.d (.str _)) M3 kp (by simp[aI,aD]) m3 q)⟩)
   | _=>simp[slW] at ez
def lA(to ti:TD)(v:W)(τ:DS)(M:MH)(Q:DS->MH->Prop):Prop:=to τ M λ w M1=>ti τ M1 λ w' M2=>∃ a ws i j,w=.m a/\w'=.d (.int i)/\M2 a=some (.lst ws)/\ixN ws.length i=some j/\Q τ (aT M2 a (.lst (ws.set j v)))
theorem rq(m:cn K H M)(e:H a=some (.lst vs))(rw1:aQ K H ws vs)(rv:aI K H w v) :
  Kp H (upd H a (.lst (vs.set j v)))/\cn K (upd H a (.lst (vs.set j v))) (aT M a (.lst (ws.set j w))):=by
 have kp:Kp H (upd H a (.lst (vs.set j v))):=Kp.set e (λ xs z=>nomatch z) λ _ _ z=>nomatch z;exact⟨kp,m.put kp ⟨_,av,(aQ.set rv j rw1).keep kp⟩⟩
theorem xg(ho:PD X o to)(hi:PD X i ti)
  (ha:∀ v,assign (.Subscript o i pos) X.env v=(do
   let ov <- holding [v] (eval o X.env)
   let iv <- holding [v,ov] (eval i X.env)
   standAt pos
   holding [v,ov,iv] (setItem ov iv v)
   release [v,ov,iv] []):=by intro _;rfl):PGd X (.Subscript o i pos) (lA to ti):=abR (aaH ho hi set_list ha) λ v σ H Q h=>by
 obtain⟨w,τ,M,Qd,rv,A,h,k⟩:=h;refine⟨τ,M,_,A,h,λ x H1 wo M1 kp1 r1 m1 q1=>⟨τ,M1,_,A.go kp1 m1,q1,λ y H2 wi M2 kp2 r2 m2 q2=>?_⟩⟩;obtain⟨a,ws,i,j,e1,e2,hm,hj,q⟩:=q2;subst e1;subst e2;simp only[aI,aD] at r1 r2;obtain⟨vs,e3,rw1⟩:=m2 a _ hm;have kp:=kp1.trans kp2;obtain⟨kp3,m3⟩:=rq (j:=j) m2 e3 rw1 (rv.keep kp);exact⟨a,vs,i,j,r1,r2,e3,by rw[<- rw1.length];exact hj,k σ _ τ _ (kp.trans kp3) (A.go (kp.trans kp3) m3) q⟩
theorem uF:acx X (aby X.K):=by
 intro pins s σ H o i ov iv Q I ro ri h;obtain⟨p,xs,k,z,rfl,rfl,hq,he,q⟩:=h;cases ro;obtain⟨t,rfl⟩:=ri;obtain⟨its,r,pl,hz⟩:=I.list hq;obtain⟨j,h1,h2,h3,h4,h5⟩:=jh he;obtain⟨w,ew,rw'⟩:=r.get h2;have hl:=r.length;have hn:=iJ;have fin:EP X pins σ Q w s:=⟨z,H,I,rw',q⟩
 by_cases h0:0<=k
 ·have hj:k.toNat=j:=by rw[seqIndex_of h0 h5] at h1;exact Option.some.inj h1
  exact wpAny_getItem_list pl.isList h0 (by omega) (by rw[hj];simpa using ew) fin
 ·have hj:(k+(its.toArray.size:Int)).toNat=j:=by rw[seqIndex_neg (by omega) h4] at h1;rw[List.size_toArray,<- hl];exact Option.some.inj h1
  exact wpAny_getItem_list_neg pl.isList (by omega) (by rw[List.size_toArray]<;>omega) (by omega) (by rw[hj];simpa using ew) fin
def tS(to ti te:TD)(f:Int->Int->Int)(D:Ed)(τ:DS)(M:MH):Prop:=to τ M λ w M1=>ti τ M1 λ w' M2=>∃ a ws i j n,w=.m a/\w'=.d (.int i)/\M2 a=some (.lst ws)/\ixN ws.length i=some j/\ws[j]? =some (.d (.int n)) /\
 te τ M2 λ y M3=>∃ n',y=.d (.int n')/\M3=M2/\D.nx τ (aT M3 a (.lst (ws.set j (.d (.int (f n n'))))))
theorem uu(ho:PD X o to)(hi:PD X i ti)(he:PD X e te)(hp:PIp X op (ipI f))
  (ha:∀ ov iv new,augStore i ov iv new=(do holding [new,ov,iv] (setItem ov iv new);release [new,ov,iv] [];pure .next):=by intros;rfl):PSd X (.AugAssign (.Subscript o i tpos) op e pos) (tS to ti te f):=
 mH (xM ho hi uF he hp set_list ha) λ D σ H h=>by
  obtain⟨τ,M,Dd,A,h,k1,_⟩:=h;refine⟨τ,M,_,A,h,λ x H1 wo M1 kp1 r1 m1 q1=>⟨τ,M1,_,A.go kp1 m1,q1,λ y H2 wi M2 kp2 r2 m2 q2=>?_⟩⟩;obtain⟨a,ws,i,j,n,e1,e2,hm,hj,hn,q⟩:=q2;subst e1;subst e2;simp only[aI,aD] at r1 r2;obtain⟨vs,e3,rw1⟩:=m2 a _ hm;obtain⟨v,e4,rv⟩:=rw1.get hn;simp only[aI,aD] at rv;have hj':ixN vs.length i=some j:=by rw[<- rw1.length];exact hj
  refine⟨a,vs,i,v,r1,r2,SqL.of e3,by unfold atI;rw[hj'];exact e4,?_⟩;refine⟨τ,M2,_,A.go (kp1.trans kp2) m2,q,λ z H3 wz M3 kp3 r3 m3 q3=>?_⟩;obtain⟨n',e5,e6,qn⟩:=q3;subst e5;subst e6;simp only[aI,aD] at r3;refine⟨n,n',rv,r3,?_⟩;obtain⟨vs',e3',rw2⟩:=m3 a _ hm;have kp:=(kp1.trans kp2).trans kp3;obtain⟨kp4,m4⟩:=rq (j:=j) (v:=.int (f n n')) (w:=.d (.int (f n n'))) m3 e3' rw2 (by simp[aI,aD]);exact⟨a,vs',i,j,r1,r2,e3',by rw[<- rw2.length];exact hj,k1 σ _ τ _ (kp.trans kp4) (A.go (kp.trans kp4) m4) qn⟩
end
section
variable {X:Cx}{K:FG}{tg:Expr}
def Its(z:Str):It:=⟨λ i _=>i<z.cps.size,λ i H x H'=>H'=H/\∃ c,z.cps[i]? =some c/\x=.str ⟨#[c]⟩,λ i _=>z.cps.size<=i⟩
theorem mz(it:Addr)(T:String)(z:Str)(t:Tok)
  (hT:["enumerate", "zip", "dict_itemiterator", "dict_reverseitemiterator", "odict_iterator", "itertools.zip_longest", "itertools.pairwise"].contains T=false)
  (W:∀ A:Around,A.handled=none->Walks P w A it [it] [it] z.cps.size (SignAt z) (λ i h=>h.IsStrIter it T z t i))(hself:∀ (A:Around) (i:Nat) (s:Shared) (Q:VP) (E:VP),s.heap.IsStrIter it T z t i->Q (.ref it) s->wpAny (model P w) A (pyIter (.ref it)) Q E s)
  (hend:∀ (A:Around) (i:Nat) (s:Shared) (Q:Option Value->Shared->Prop) (E:VP),A.handled=none->s.heap.IsStrIter it T z t i->z.cps[i]? =none->(∀ h',Heap.ExtBut it s.heap h'->Q none {s with heap:=h'})->wpAny (model P w) A (pyNext (.ref it)) Q E s) :
  Turn P w K tg (Its z) [it] it (λ i h=>h.IsStrIter it T z t i) where
 mem:=by simp
 obj:=λ i h st b hb=>by
  have e:b=it:=by simpa using hb
  subst e;obtain⟨o,e,c,d⟩:=st;exact⟨o,e,λ v q=>by rw[d] at q;cases q⟩
 keep:=λ i h h' st k=>by obtain⟨o,e,r⟩:=st;exact⟨o,k it (by simp) o e,r⟩
 item:=by intro X hP hw hK hc i pins s σ H E I hf st hg;subst hP hw hK;obtain⟨f0,f1,f2,f3,f4,f5⟩:=hf it (by simp);refine(W X.A (I.ok.hd hc)).item i s _ _ hg st λ v h' tk hv st' kk=>?_;obtain⟨c,u,hc',rfl⟩:=hv;have I1:Inv X pins σ H {s with heap:=h',toks:=tk}:=I.turned (λ b o hb e=>kk b o (by simpa using hb) e) f0 f1 f3 f4 f5;obtain⟨o,e,cl,d⟩:=id st';exact⟨_,rfl,rX (s:={s with heap:=h',toks:=tk}) e cl d hT ⟨.str ⟨#[c]⟩,H,I1,⟨u,rfl⟩,⟨rfl,c,hc',rfl⟩,st',λ b hb=>(hf b hb).1⟩⟩
 done:=by intro X hP hw hK hc i pins s σ H E I hf st hg;subst hP hw hK;obtain⟨f0,f1,f2,f3,f4,f5⟩:=hf it (by simp);have hn:z.cps.size<=i:=hg;exact hend X.A i s _ E (I.ok.hd hc) st (by simp[hn]) λ h' eb=>⟨rfl,I.turned (t':=s.toks) (λ b o hb e=>eb b o hb e) f0 f1 f3 f4 f5⟩
 self:=hself
section
variable {pins:PN}{σ:St}{H:Hp}{s:Shared}{R:It->Hp->Prop}{E:VP}
theorem zV(I:Inv X pins σ H s)(q:R (Its z) H):wpAny (model X.prog X.w) X.A (pyIter (.str z t)) (PIE X pins σ tg R) E s:=by
 cases ha:z.cps.all (·<128)
 ·refine wpAny_pyIter_wide ha ?_;refine⟨s.heap.objs.size,[s.heap.objs.size],_,_,H,rfl,I.kept (t':=s.toks) λ b o e=>Heap.get?_push_of_some _ e,
   mz _ "str_iterator" z t (by decide) (λ A hA=>Walks.strWide hA _ z t) (λ A i s Q E st h=>wpAny_pyIter_striter_wide st h) (λ A i s Q E hh st hx hQ=>wpAny_pyNext_wide_end hh st hx hQ),⟨_,Heap.get?_push_size _ rfl,rfl,rfl⟩,λ b hb=>?_,q⟩
  have e:b=s.heap.objs.size:=by simpa using hb
  subst e;exact I.rZ (Nat.le_refl _) (I.hok.fresh (Nat.le_refl _))
 ·refine wpAny_pyIter_ascii ha ?_;refine⟨s.heap.objs.size,[s.heap.objs.size],_,_,H,rfl,I.kept (t':=s.toks) λ b o e=>Heap.get?_push_of_some _ e,
   mz _ "str_ascii_iterator" z t (by decide) (λ A hA=>Walks.strAscii hA _ z t) (λ A i s Q E st h=>wpAny_pyIter_striter_ascii st h) (λ A i s Q E hh st hx hQ=>wpAny_pyNext_ascii_end hh st hx hQ),⟨_,Heap.get?_push_size _ rfl,rfl,rfl⟩,λ b hb=>?_,q⟩
  have e:b=s.heap.objs.size:=by simpa using hb
  subst e;exact I.rZ (Nat.le_refl _) (I.hok.fresh (Nat.le_refl _))
theorem xK(I:Inv X pins σ H s)(hq:SqL X.K H a xs)(q:R (Itl X.K a) H):wpAny (model X.prog X.w) X.A (pyIter (.ref a)) (PIE X pins σ tg R) E s:=by
 obtain⟨its,rv,p,hz⟩:=I.list hq;refine wpAny_pyIter_list p.isList ?_;refine⟨s.heap.objs.size,[s.heap.objs.size],_,_,H,rfl,I.kept (t':=s.toks) λ b o e=>Heap.get?_push_of_some _ e,pO a _,⟨_,Heap.get?_push_size _ rfl,rfl,rfl⟩,λ b hb=>?_,q⟩;have e:b=s.heap.objs.size:=by simpa using hb
 subst e;exact I.rZ (Nat.le_refl _) (I.hok.fresh (Nat.le_refl _))
theorem zR(I:Inv X pins σ H s)(hq:SqT X.K H a xs)(q:R (Itt X.K a) H):wpAny (model X.prog X.w) X.A (pyIter (.ref a)) (PIE X pins σ tg R) E s:=by
 obtain⟨its,rv,p,hz⟩:=I.tuple hq;refine wpAny_pyIter_tuple (show s.heap.IsTuple a its.toArray from p) ?_;refine⟨s.heap.objs.size,[s.heap.objs.size],_,_,H,rfl,I.kept (t':=s.toks) λ b o e=>Heap.get?_push_of_some _ e,nP a _,⟨_,Heap.get?_push_size _ rfl,rfl,rfl⟩,λ b hb=>?_,q⟩;have e:b=s.heap.objs.size:=by simpa using hb
 subst e;exact I.rZ (Nat.le_refl _) (I.hok.fresh (Nat.le_refl _))
end
def ada(K:FG)(tl:TE):TI:=λ σ H R=>tl σ H λ x H1=>(∃ a xs,x=.ref a/\SqL K H1 a xs/\R (Itl K a) H1)\/(∃ a xs,x=.ref a/\SqT K H1 a xs/\R (Itt K a) H1)\/∃ z,x=.str z/\R (Its z) H1
theorem yZ(hl:PE X l tl):PI X tg l (ada X.K tl):=by
 intro pins s σ H R I h;refine thn (hl pins s σ H _ I h) λ v s1 hq41=>?_;obtain⟨x,H1,I1,r1,q1⟩:=hq41;rcases q1 with ⟨a,xs,e,hq,q⟩ | ⟨a,xs,e,hq,q⟩ | ⟨z,e,q⟩
 ·subst e;cases r1;exact xK I1 hq q
 ·subst e;cases r1;exact zR I1 hq q
 ·subst e;obtain⟨t,rfl⟩:=r1;exact zV I1 q
def ItD(K:FG)(J:It)(H0:Hp)(ws:List W):Prop:=∀ H,Kp H0 H->∀ i:Nat,(i<ws.length->J.go i H)/\(ws.length<=i->J.stop i H) /\
 ∀ x H',i<ws.length->J.yld i H x H'->Kp H H'/\(∀ M,cn K H M->cn K H' M)/\∃ w,ws[i]? =some w/\aI K H' w x
abbrev TId:=DS->MH->(List W->MH->Prop)->Prop
def upI(K:FG)(t:TId):TI:=λ σ H R=>∃ τ M Rd,Abs K H σ τ M/\t τ M Rd/\∀ J H' ws M',Kp H H'->cn K H' M'->ItD K J H' ws->Rd ws M'->R J H'
abbrev PId(X:Cx)(tg iter:Expr)(t:TId):Prop:=PI X tg iter (upI X.K t)
theorem aa9(h:PI X tg iter t)(k:∀ σ H R,t' σ H R->t σ H R):PI X tg iter t':=λ pins s σ H R I q=>h pins s σ H R I (k σ H R q)
def g7:W->Option (List W)
 | .d (.list ds)=>some (ds.map W.d)
 | .d (.tuple ds)=>some (ds.map W.d)
 | .d (.str z)=>some (z.cps.toList.map λ c=>W.d (.str ⟨#[c]⟩))
 | _=>none
def bV(te:TD)(τ:DS)(M:MH)(R:List W->MH->Prop):Prop:=te τ M λ w M1=>∃ ws,g7 w=some ws/\R ws M1
theorem ya(hs:SqT K H a vs)(ra:aV K H ds vs):ItD K (Itt K a) H (ds.map W.d):=λ H1 kp i=>by
 have hl:=ra.length;refine⟨λ hi=>?_,λ hi=>⟨vs,SqT.keep kp hs,by rw[List.length_map] at hi;omega⟩,λ x H' hi y=>?_⟩
 ·rw[List.length_map] at hi;exact⟨vs,vs[i]'(by omega),SqT.keep kp hs,by simp⟩
 ·obtain⟨e,y⟩:=y;subst e;have ev:=y vs (SqT.keep kp hs);obtain⟨d,e1,rd⟩:=(ra.keep kp).get' ev;exact⟨Kp.refl _,λ M m=>m,.d d,by simp[e1],rd⟩
theorem wX(z:Str):ItD K (Its z) H (z.cps.toList.map λ c=>W.d (.str ⟨#[c]⟩)):=λ H1 kp i=>by refine⟨λ hi=>(show i<z.cps.size by simpa using hi),λ hi=>(show z.cps.size<=i by simpa using hi),λ x H' hi y=>?_⟩;obtain⟨e,c,hc,ex⟩:=y;subst e;subst ex;exact⟨Kp.refl _,λ M m=>m,.d (.str ⟨#[c]⟩),by simp[hc],by simp[aI,aD]⟩
theorem rN(lo:Int)(n:Nat):ItD K (Itr lo n) H ((List.range n).map λ i:Nat=>W.d (.int (lo+(i:Int)))):=λ H1 kp i=>by refine⟨λ hi=>(show i<n by simpa using hi),λ hi=>(show n<=i by simpa using hi),λ x H' hi y=>?_⟩;obtain⟨e,ex⟩:=y;subst e;subst ex;simp at hi;exact⟨Kp.refl _,λ M m=>m,.d (.int (lo+i)),by simp[hi],by simp[aI,aD]⟩
theorem qc(h:PD X l te):PId X tg l (bV te):=aa9 (yZ h) λ σ H R hq42=>by
 obtain⟨τ,M,Rd,A,h,k⟩:=hq42;refine⟨τ,M,_,A,h,λ v H1 w M1 kp r m hq43=>?_⟩;obtain⟨ws,e,q⟩:=hq43;cases w with
 | t n=>simp[g7] at e
 | m a=>simp[g7] at e
 | d d =>
  cases d with
  | list ds =>
   simp only[g7] at e;cases e;simp only[aI,aD] at r;obtain⟨a,vs,e1,hs,ra⟩:=r;refine .inl ⟨a,vs,e1,hs.sq,k _ H1 _ M1 kp m ?_ q⟩;intro H2 kp2 i;have hl:=ra.length;have hs2:=(hs.keep kp2).sq;refine⟨λ hi=>?_,λ hi=>⟨vs,hs2,by rw[List.length_map] at hi;omega⟩,λ x H' hi y=>?_⟩
   ·rw[List.length_map] at hi;exact⟨vs,vs[i]'(by omega),hs2,by simp⟩
   ·obtain⟨e,y⟩:=y;subst e;have ev:=y vs hs2;obtain⟨d,e1,rd⟩:=(ra.keep kp2).get' ev;exact⟨Kp.refl _,λ M m=>m,.d d,by simp[e1],rd⟩
  | tuple ds =>
   simp only[g7] at e;cases e;simp only[aI,aD] at r;obtain⟨a,vs,e1,hs,ra⟩:=r;exact .inr (.inl ⟨a,vs,e1,hs,k _ H1 _ M1 kp m (ya hs ra) q⟩)
  | str z =>
   simp only[g7] at e;cases e;simp only[aI,aD] at r;exact .inr (.inr ⟨z,r,k _ H1 _ M1 kp m (wX z) q⟩)
  | _=>simp[g7] at e
def dB(lo:Int)(n:Nat):List W:=(List.range n).map λ i:Nat=>W.d (.int (lo+(i:Int)))
def ip(ta:TAd)(τ:DS)(M:MH)(R:List W->MH->Prop):Prop:=ta τ M λ ws M1=>∃ j:Int,ws=[.d (.int j)]/\-(2 ^ 62)<=j/\j<2 ^ 62/\R (dB 0 j.toNat) M1
def sN(ta:TAd)(τ:DS)(M:MH)(R:List W->MH->Prop):Prop:=ta τ M λ ws M1=>∃ i j:Int,ws=[.d (.int i),.d (.int j)]/\(-(2 ^ 62)<=i/\i<2 ^ 62/\-(2 ^ 62)<=j/\j<2 ^ 62)/\R (dB i (j-i).toNat) M1
theorem hE(r:aQ K H [w] vs):∃ v,vs=[v]/\aI K H w v:=by
 cases r with
 | cons r1 r2=>cases r2;exact⟨_,rfl,r1⟩
theorem uR(r:aQ K H [w,w'] vs):∃ v v',vs=[v,v']/\aI K H w v/\aI K H w' v':=by
 cases r with
 | cons r1 r2 =>
  cases r2 with
  | cons r3 r4=>cases r4;exact⟨_,_,rfl,r1,r3⟩
theorem nU(hg:Gl X "range")(hm:X.mg "range" = none)(ha:PAd X [a] ta)(hs:starEach [a] X.env=[(false,eval a X.env)]:=by rfl):PId X tg (.Call (.Name "range" p) [a] [] pos) (ip ta):=
 aa9 (pH hg hm ha hs) λ σ H R ⟨τ,M,Rd,A,h,k⟩=>⟨τ,M,_,A,h,λ vs H1 ws M1 kp r m hq44=>by obtain⟨j,e,h1,h2,q⟩:=hq44;subst e;obtain⟨v,e1,r1⟩:=hE r;simp only[aI,aD] at r1;subst r1;exact⟨j,e1,h1,h2,k _ H1 _ M1 kp m (rN 0 j.toNat) q⟩⟩
theorem nE(hg:Gl X "range")(hm:X.mg "range" = none)(ha:PAd X [a,b] ta)(hs:starEach [a,b] X.env=[(false,eval a X.env),(false,eval b X.env)]:=by rfl)(hs2:starEach [b] X.env=[(false,eval b X.env)]:=by rfl) :
  PId X tg (.Call (.Name "range" p) [a,b] [] pos) (sN ta):=
 aa9 (oT hg hm ha hs hs2) λ σ H R ⟨τ,M,Rd,A,h,k⟩=>⟨τ,M,_,A,h,λ vs H1 ws M1 kp r m hq45=>by obtain⟨i,j,e,h1,q⟩:=hq45;subst e;obtain⟨v,v',e1,r1,r2⟩:=uR r;simp only[aI,aD] at r1 r2;subst r1;subst r2;exact⟨i,j,e1,h1,k _ H1 _ M1 kp m (rN i _) q⟩⟩
def lq(di:TId)(g:TGd)(tb:TSd)(D:Ed)(τ:DS)(M:MH):Prop:=di τ M λ ws M1=>∃ P:Nat->DS->MH->Prop,P 0 τ M1 /\
 (∀ i w τ M,ws[i]? =some w->P i τ M->g w τ M λ τ2 M2=>tb {D with nx:=P (i+1),ct:=P (i+1),bk:=D.nx} τ2 M2)/\∀ τ M,P ws.length τ M->D.nx τ M
theorem vI(hp:PassesOwn (model X.prog X.w) X.A X.env X.xe)(hc:X.calm=true)(hi:PId X tg iter di)(hg:PGd X tg g)(hb:lh X body tb)
  (hs:∀ x,foldedSetIterable iter X.env x=pure x:=by intro _;rfl):PSd X (.For tg iter body [] pos) (lq di g tb):=mH (aaU hp hc hi hg hb hs) λ D σ H hq46=>by
 obtain⟨τ,M,Dd,A,h,k1,k2,k3,k4⟩:=hq46;refine⟨τ,M,_,A,h,λ J H1 ws M1 kp m1 it hq47=>?_⟩;obtain⟨P,p0,pt,pe⟩:=hq47;refine⟨λ i n σ H'=>n=ws.length-i/\i<=ws.length/\Kp H1 H'/\∃ τ M,Abs X.K H' σ τ M/\P i τ M,⟨ws.length,by simp,Nat.zero_le _,Kp.refl _,τ,M1,A.go kp m1,p0⟩,?_⟩;rintro i n σ2 H2 ⟨rfl,hi,kp2,τ2,M2,A2,p2⟩;obtain⟨go,stop,yld⟩:=it H2 kp2 i
 by_cases hlt:i<ws.length
 ·refine .inr ⟨go hlt,λ σ3 H3=>Kp H2 H3/\∃ τ M,Abs X.K H3 σ3 τ M/\P (i+1) τ M,λ σ3 H3 ⟨kp3,τ3,M3,A3,p3⟩=>⟨ws.length-(i+1),by omega,rfl,hlt,kp2.trans kp3,τ3,M3,A3,p3⟩,λ x H3 y=>?_⟩;obtain⟨kp3,mk,w,ew,rw⟩:=yld x H3 hlt y;refine⟨w,τ2,M2,_,rw,A2.go kp3 (mk _ A2.mem),pt i w τ2 M2 ew p2,λ σ4 H4 τ4 M4 kp4 A4 q4=>?_⟩;have kq:=kp3.trans kp4;have kr:=(kp.trans kp2).trans kq;exact⟨τ4,M4,_,A4,q4,λ σ5 H5 τ5 M5 kp5 A5 q5=>⟨kq.trans kp5,τ5,M5,A5,q5⟩,λ v H5 w M5 kp5=>k2 v H5 w M5 (kr.trans kp5),λ σ5 H5 τ5 M5 kp5=>k1 σ5 H5 τ5 M5 (kr.trans kp5),λ σ5 H5 τ5 M5 kp5 A5 q5=>⟨kq.trans kp5,τ5,M5,A5,q5⟩⟩
 ·have hl:i=ws.length:=by omega
  subst hl;exact .inl ⟨stop (Nat.le_refl _),k1 σ2 H2 τ2 M2 (kp.trans kp2) A2 (pe τ2 M2 p2)⟩
def uQ(k:Nat)(fr:List Nat)(τ:DS):DS:=List.replicate k none++fr.map λ j=>(τ[j]?).getD none
theorem j9(A:Abs K H σ τ M)(k:Nat)(fr:List Nat):Abs K H (lcS k fr σ) (uQ k fr τ) M:=by
 refine⟨by simp[lcS,uQ],λ i w e=>?_,A.mem⟩;unfold uQ at e
 by_cases hi:i<k
 ·rw[List.getElem?_append_left (by simpa using hi),List.getElem?_replicate] at e
  split at e<;>cases e
 ·rw[List.getElem?_append_right (by simpa using hi),List.getElem?_map,List.length_replicate] at e;cases q:fr[i-k]? with
  | none=>rw[q] at e;cases e
  | some j =>
   rw[q] at e;have e':(τ[j]?).getD none=some w:=Option.some.inj e;have e2:τ[j]? =some (some w):=by
    cases z:τ[j]? with
    | none=>rw[z] at e';cases e'
    | some o=>rw[z] at e';exact congrArg some e'
   obtain⟨v,q1,r⟩:=A.val j w e2;refine⟨v,?_,r⟩;unfold lcS;rw[List.getElem?_append_right (by simpa using hi),List.getElem?_map,List.length_replicate,q];simp[q1]
def dLC(di:TId)(g:TGd)(tt:TTd)(te:TD)(k:Nat)(fr:List Nat)(τ:DS)(M:MH)(Q:QD):Prop:=di τ M λ ws M1=>∃ P:Nat->List PyData->DS->MH->Prop,P 0 [] (uQ k fr τ) M1 /\
 (∀ i w acc τ M,ws[i]? =some w->P i acc τ M->acc.length<sizeLine/\g w τ M λ τ2 M2=>tt τ2 M2 λ b M3=>if b=true then te τ2 M3 λ y M4=>∃ d,y=.d d/\P (i+1) (acc++[d]) τ2 M4 else P (i+1) acc τ2 M3) /\
 ∀ acc τ M,P ws.length acc τ M->Q (.d (.list acc)) M
theorem vd(h:up K (dLC di g tt te k fr) σ H Q) :
  acQ (tLC (upI K di) (upG K g) (upT K tt) (up K te) k fr) σ H Q:=by
 obtain⟨τ,M,Qd,A,h,kk⟩:=h;refine⟨τ,M,_,A,h,λ J H1 ws M1 kp m1 it hq48=>?_⟩;obtain⟨P,p0,pt,pe⟩:=hq48;refine⟨λ i n ys σ' H'=>n=ws.length-i/\i<=ws.length/\Kp H1 H'/\∃ acc τ M,aV K H' acc ys/\Abs K H' σ' τ M/\P i acc τ M,⟨ws.length,by simp,Nat.zero_le _,Kp.refl _,[],_,M1,by simp[aV],j9 (A.go kp m1) k fr,p0⟩,?_⟩;rintro i n ys σ2 H2 ⟨rfl,hi,kp2,acc,τ2,M2,ra,A2,p2⟩;obtain⟨go,stop,yld⟩:=it H2 kp2 i
 by_cases hlt:i<ws.length
 ·have hlen:=ra.length;refine .inr ⟨go hlt,?_,λ x H3 y=>?_⟩
  ·obtain⟨w,hw⟩:∃ w,ws[i]? =some w:=⟨ws[i],by simp[hlt]⟩;have:=(pt i w acc τ2 M2 hw p2).1;omega
  obtain⟨kp3,mk,w,ew,rw⟩:=yld x H3 hlt y;refine⟨w,τ2,M2,_,rw,A2.go kp3 (mk _ A2.mem),(pt i w acc τ2 M2 ew p2).2,λ σ4 H4 τ4 M4 kp4 A4 q4=>⟨τ4,M4,_,A4,q4,λ b H5 M5 kp5 m5 q5=>?_⟩⟩;have kq:=(kp3.trans kp4).trans kp5;cases b with
  | false =>
   rw[if_neg Bool.false_ne_true] at q5;show(if false=true then _ else _);rw[if_neg Bool.false_ne_true];exact⟨ws.length-(i+1),by omega,rfl,hlt,kp2.trans kq,acc,τ4,M5,ra.keep kq,A4.go kp5 m5,q5⟩
  | true =>
   rw[if_pos rfl] at q5;show(if true=true then _ else _);rw[if_pos rfl];refine⟨τ4,M5,_,A4.go kp5 m5,q5,λ v H6 wv M6 kp6 r6 m6 hq49=>?_⟩;obtain⟨d,e6,q6⟩:=hq49;subst e6;refine⟨ws.length-(i+1),by omega,rfl,hlt,kp2.trans (kq.trans kp6),acc++[d],τ4,M6,aV.append (ra.keep (kq.trans kp6)) ?_,A4.go (kp5.trans kp6) m6,q6⟩;simp only[aV];exact⟨v,[],rfl,r6,rfl⟩
 ·have hl:i=ws.length:=by omega
  subst hl;exact .inl ⟨stop (Nat.le_refl _),λ p hp=>lS hp ra A2.mem (pe acc τ2 M2 p2) (kgo kk (kp.trans kp2))⟩
section
variable {sc:Scope}{own:List Str}{fr:List Nat}{elt iter:Expr}{ifs:List Expr}{pos:Pos}{di:TId}{g:TGd}{tt:TTd}{te:TD}
abbrev lK(X:Cx)(ifs:List Expr)(t:TTd):Prop:=PTs X ifs (upT X.K t)
def oF(_:DS)(M:MH)(Q:Bool->MH->Prop):Prop:=Q true M
theorem sF(h:PTd X c t):lK X [c] t:=xl h
theorem abU(hc:X.calm=true)(L:iE X sc own fr)(hi:PId X tg iter di)
  (hg:∀ cl C s H ex pl,PGd (blk X sc (lcN X own fr) cl C s H ex pl) tg g)(ht:∀ cl C s H ex pl,lK (blk X sc (lcN X own fr) cl C s H ex pl) ifs tt)(he:∀ cl C s H ex pl,PD (blk X sc (lcN X own fr) cl C s H ex pl) elt te)
  (hs:∀ x,foldedSetIterable iter X.env x=pure x:=by intro _;rfl):PD X (.ListComp elt [⟨tg,iter,ifs,0⟩] sc pos) (dLC di g tt te own.length fr):=
 eW (qL (wd hc L hi hg ht he hs)) λ σ H Q h=>vd h
theorem aaB{st:Stmt}{t:TS}(h:PS X st t):PS X st (λ D σ H=>t {D with nx:=λ σ' H'=>∃ p u,H' p=some u/\Fz u/\∀ o,D.nx σ' (upd H' p (.frz o u))} σ H):=by
 intro pins s σ H D I hq;refine thn (h pins s σ H _ I hq) λ f s1 q=>?_;cases f with
 | next =>
  obtain⟨σ',H',I',p,u,e,fz,q⟩:=q;obtain⟨o,I2⟩:=I'.freeze e fz;exact⟨σ',_,I2,q o⟩
 | brk=>exact q
 | cont=>exact q
 | ret v=>exact q
theorem ql{i:Nat}{pos' spos:Pos}(hN:X.N.Nodup)(hi':X.N[i]? =some x)(hx:Loc X.env.scope x)(hc:X.calm=true)(L:iE X sc own fr)(hi:PId X tg iter di)
  (hg:∀ cl C s H ex pl,PGd (blk X sc (lcN X own fr) cl C s H ex pl) tg g)(ht:∀ cl C s H ex pl,lK (blk X sc (lcN X own fr) cl C s H ex pl) ifs tt)(he:∀ cl C s H ex pl,PD (blk X sc (lcN X own fr) cl C s H ex pl) elt te)
  (hsw:swapsWith (.ListComp elt [⟨tg,iter,ifs,0⟩] sc pos) (some (.Name x pos')) spos.line X.env=pure true:=by rfl)
  (hs:∀ x,foldedSetIterable iter X.env x=pure x:=by intro _;rfl)(hf:X.fn x=true\/X.env.scope.names.lookup x=some .local:=by first | exact .inl rfl | exact .inr rfl | assumption) :
  PSd X (.Assign [.Name x pos'] (.ListComp elt [⟨tg,iter,ifs,0⟩] sc pos) spos) (bR (dLC di g tt te own.length fr) (gN i)):=mH (aaB (mv hN hi' hx hc L hi hg ht he hsw hs hf)) λ D σ H hq50=>by
 obtain⟨τ,M,Dd,A,h,k1,_⟩:=hq50;have z:up X.K (dLC di g tt te own.length fr) σ H (λ v H'=>D.nx (σ.set i (some v)) H'):=⟨τ,M,_,A,h,λ v H1 w M1 kp r m q=>k1 _ H1 _ M1 kp ((A.go kp m).set i r) q⟩;obtain⟨τ',M',R',A',h',k'⟩:=vd z;refine⟨τ',M',R',A',h',λ J H1 ws M1 kp m1 it q=>?_⟩;obtain⟨W,w0,st⟩:=k' J H1 ws M1 kp m1 it q;refine⟨W,w0,λ i m ys τ H w=>?_⟩;rcases st i m ys τ H w with ⟨s1,s2⟩ | r
 ·refine .inl ⟨s1,λ p hp=>?_⟩;obtain⟨p',u,e1,e2,f,q⟩:=s2 p hp;cases e1;exact⟨p,u,e2,f,q⟩
 ·exact .inr r
end
end
section
variable {X:Cx}{K:FG}
def y9(ws:List W)(M:MH)(Q:QD):Prop:=∃ i:Int,ws=[.d (.int i)]/\Q (.d (.int (if i<0 then -i else i))) M
theorem aaV:fc K (λ xs H Q=>∃ i,xs=[.int i]/\Q (.int (if i<0 then -i else i)) H) y9:=by intro vs H ws M Qd Q r m ⟨i,e,q⟩ k;subst e;obtain⟨v,e1,r1⟩:=hE r;simp only[aI,aD] at r1;subst r1;exact⟨i,e1,k _ H (.d (.int _)) M (Kp.refl H) (by simp[aI,aD]) m q⟩
def sE(M:MH):W->Option Nat
 | .d (.list ds)=>some ds.length
 | .d (.tuple ds)=>some ds.length
 | .d (.str z)=>some z.length
 | .m a=>match M a with
  | some (.lst ws)=>some ws.length
  | _=>none
 | _=>none
def gu(ws:List W)(M:MH)(Q:QD):Prop:=∃ w n,ws=[w]/\sE M w=some n/\yz w=true/\Q (.d (.int (n:Nat))) M
theorem iO:fc K (λ xs H Q=>∃ x n,xs=[x]/\acp K x H n/\Q (.int n) H) gu:=by
 intro vs H ws M Qd Q r m ⟨w,n,e,hn,hf,q⟩ k;subst e;obtain⟨v,e1,r1⟩:=hE r;refine⟨v,n,e1,?_,k _ H (.d (.int _)) M (Kp.refl H) (by simp[aI,aD]) m q⟩;cases w with
 | t _=>simp[sE] at hn
 | m a =>
  simp only[aI] at r1;subst r1;simp only[sE] at hn;cases hm:M a with
  | none=>rw[hm] at hn;cases hn
  | some mo =>
   rw[hm] at hn;cases mo with
   | lst l=>cases hn;obtain⟨us,e2,rw1⟩:=m a _ hm;exact .inl ⟨us,SqL.of e2,rw1.length⟩
   | dic _=>cases hn
   | dct _=>cases hn
   | fdic _=>cases hn
   | ins _ _=>cases hn
   | tup _=>cases hn
   | flst _=>cases hn
   | exc _ _=>cases hn
   | code _ _=>cases hn
 | d d =>
  cases d with
  | list ds=>simp only[sE] at hn;cases hn;simp only[aI,aD] at r1;obtain⟨a,us,e2,hs,ra⟩:=r1;subst e2;exact .inl ⟨us,hs.sq,ra.length.symm⟩
  | tuple ds=>simp only[sE] at hn;cases hn;simp only[aI,aD] at r1;obtain⟨a,us,e2,hs,ra⟩:=r1;subst e2;exact .inr ⟨us,hs,ra.length.symm⟩
  | str z=>simp only[sE] at hn;cases hn;simp only[aI,aD] at r1;subst r1;exact⟨of_decide_eq_true hf,rfl⟩
  | _=>simp[sE] at hn
theorem qE(r:aD K H (wa key) v):v=kV key:=by
 cases key<;>(simp only[wa,aD] at r;exact r)
end
structure Fn(K:FG)(mg:Str->Option Value)(x:Str)(st:Stmt)(ps:List Str)(f:Addr)(fd:FuncData):Prop where
 fn:Fun K x x st f fd
 mg:mg x=some (.ref f)
 bd:Binds K fd ps []
section
variable {K:FG}{mg:Str->Option Value}{h:Heap}
theorem vp{st:Stmt}{ps:List Str}{oc:Value}{od an:Option Addr}{osl:Array (Option Value)}{kV doc pm cdv ct:Value}(X:K.In h)(G:h.Ns mainGlobals mg)(a:W.nsIn K mainGlobals x=some (some (.ref f)))
  (l:K.lookup f=some ⟨oc,od,.func (W.fnOf x x (aU st) (aM st) (aq st) .none kV doc pm an cdv ct),osl⟩)(c:W.codeIn K cdv x=true)(k:W.keepIn K (.ref f)=true)
  (b:∀ (kV doc pm:Value) (an:Option Addr) (cdv ct:Value) (us:List Value),us.length=ps.length->bindArgs (W.fnOf x x (aU st) (aM st) (aq st) .none kV doc pm an cdv ct) ⟨us,[]⟩=pure (ps.zip us)) :
  Fn K mg x st ps f (W.fnOf x x (aU st) (aM st) (aq st) .none kV doc pm an cdv ct):=
 have F:=qH (st:=st) l c k
 ⟨F,W.mg_of X G a,F.binds b⟩
end
def zU(sc scX:Scope)(N:List Str)(fr:List Nat):Bool:=
 (sc.kind==.function)&&sc.names.all (λ y=>!(y.2==.cell))&&sc.names.all (λ y=>!(y.2==.free) || scX.names.lookup y.1==some .cell || scX.names.lookup y.1==some .free) &&
  sc.names.all (λ y=>!(y.2==.local) || sc.names.lookup y.1==some .local)&&aaE N sc fr
theorem sC(h:zU sc X.env.scope X.N fr=true):iE X sc own fr:=by
 simp only[zU,Bool.and_eq_true] at h;obtain⟨⟨⟨⟨h1,h2⟩,h3⟩,h4⟩,h5⟩:=h;refine⟨eq_of_beq h1,λ y hy e=>?_,λ y hy e=>?_,λ y hy e=>?_,h5⟩
 ·have:=List.all_eq_true.mp h2 y hy;simp[e] at this
 ·have:=List.all_eq_true.mp h3 y hy;simp only[e,beq_self_eq_true,Bool.not_true,Bool.false_or,Bool.or_eq_true] at this;rcases this with z | z
  ·exact .inl (eq_of_beq z)
  ·exact .inr (eq_of_beq z)
 ·have:=List.all_eq_true.mp h4 y hy;simp only[e,beq_self_eq_true,Bool.not_true,Bool.false_or] at this;exact eq_of_beq this
theorem pJ:bootBuiltins "list" = some (.type "list"):=by decide +kernel
theorem uA:bootBuiltins "tuple" = some (.type "tuple"):=by decide +kernel
theorem rl:bootBuiltins "dict" = some (.type "dict"):=by decide +kernel
theorem iI:bootBuiltins "len" = some (.builtin "len"):=by decide +kernel
theorem zX:bootBuiltins "abs" = some (.builtin "abs"):=by decide +kernel
theorem dg:bootBuiltins "isinstance" = some (.builtin "isinstance"):=by decide +kernel
def eM:Expr->Bool
 | .Starred ..=>true
 | _=>false
theorem df(e:Expr)(es:List Expr)(env:PySem.Env)(h:eM e=false):starEach (e::es) env=(false,eval e env)::starEach es env:=by
 cases e<;>first | rfl | (exact absurd h (by simp[eM]))
theorem dt(pos:Pos)(env:PySem.Env):∀ es:List Expr,(es.all λ e=>!eM e)=true->(backTo pos (starEach es env)).any (·.1)=false
 | [],_=>rfl
 | e::es,h=>by rw[List.all_cons,Bool.and_eq_true,Bool.not_eq_true'] at h;rw[df e es env h.1];show(false || (backTo pos (starEach es env)).any (·.1))=false;rw[dt pos env es h.2];rfl
section
variable {X:Cx}{pos p:Pos}{e:Expr}{es:List Expr}{te:TD}{t:TAd}{x:Str}{id T:String}{r:List V->Hp->VK->Prop}{rd:List W->MH->QD->Prop}{k:Nat}{f:Addr}{fd:FuncData}{ps:List Str}{sp:SpD}
theorem pac(ha:PD X e te)(hr:PAd X es t)(h:eM e=false:=by rfl):PAd X (e::es) (aa te t):=ub ha hr (df e es X.env h)
theorem pcB(hc:eA X (.builtin id) r)(hd:fc X.K r rd)(hg:Gl X x)(hm:X.mg x=none)(hv:bootBuiltins x=some (.builtin id))(ha:PAd X (e::es) t)(hn:x ≠ "__name__":= by decide)(hdb:ND x:=by decide)
  (h1:eM e=false:=by rfl)(h2:(es.all λ e=>!eM e)=true:=by rfl):PD X (.Call (.Name x p) (e::es) [] pos) (dCB rd t):=sQ hc hd hg hm hv ha hn hdb (df e es X.env h1) (dt pos X.env es h2)
theorem pcF(F:cR X.prog X.w X.K X.mg X.base CX0 k f fd ps (dy X.K sp))(hr:cj k X.A)(hg:Gl X x)(hm:X.mg x=some (.ref f))(hk:W.keepIn X.K (.ref f)=true)(hb:Binds X.K fd ps [])
  (ha:PAd X (e::es) t)(hdb:ND x:=by decide)(h1:eM e=false:=by rfl)(h2:(es.all λ e=>!eM e)=true:=by rfl) :
  PD X (.Call (.Name x p) (e::es) [] pos) (bS sp t):=wu F hr hg hm hk hb ha hdb (df e es X.env h1) (dt pos X.env es h2)
end
structure Jd(p:Prop):Prop where
 h:p
section
variable {X:Cx}{pos:Pos}{a b c e:Expr}{ta tb tc te:TD}{K:FG}
theorem dvQ(i:Nat)(hN:X.N[i]? =some x:=by rfl)(hv:Vis X.env.scope x:=by first | exact Or.inl rfl | exact Or.inr (Or.inl rfl) | exact Or.inr (Or.inr rfl))(hd:ND x:=by decide)(hcd:(x==("__classdict__" : Str))=false:=by decide):Jd (PD X (.Name x pos) (ai i)):=⟨zM (y7 hN hv hd hcd)⟩
theorem af{i j pos}:Jd (PD X (.Constant (.int i) j pos) (dC (.d (.int i)))):=⟨aba zk λ H=>by simp[aI,aD]⟩
theorem fj{b j pos}:Jd (PD X (.Constant (.bool b) j pos) (dC (.d (.bool b)))):=⟨aba abw λ H=>by simp[aI,aD]⟩
theorem dE{x j pos}:Jd (PD X (.Constant (.str x) j pos) (dC (.d (.str x)))):=⟨aba zh λ H=>by simp[aI,aD]⟩
theorem jG(hg:Gl X x)(hm:X.mg x=none)(hv:bootBuiltins x=some (.type n))(hn:x ≠ "__name__":= by decide)(hd:ND x:=by decide):Jd (PD X (.Name x pos) (dC (.t n))):=⟨
 aba (vZ (v:=.ty n) hg hm hv rfl hn hd) λ H=>by simp[aI]⟩
theorem aS(ho:OpR X (binaryOp op) r)(hd:OpD X.K r rd)(ha:Jd (PD X a ta))(hb:Jd (PD X b tb)):Jd (PD X (.BinOp a op b pos) (dOp rd ta tb)):=⟨D.abW (ho:=ho) (hd:=hd) (ha:=ha.h) (hb:=hb.h)⟩
theorem jR(ho:OpR X (compareOp op) r)(hd:OpD X.K r rd)(ha:Jd (PD X a ta))(hb:Jd (PD X b tb))(hm:behindInMarks op b=false:=by first | exact fQ _ (by decide) (by decide) | rfl):Jd (PD X (.Compare a [op] [b] pos) (dOp rd ta tb)):=⟨D.aaR (ho:=ho) (hd:=hd) (ha:=ha.h) (hb:=hb.h) (hm:=hm)⟩
theorem bI(hr:IxR X r)(hd:OpD X.K r rd)(ha:Jd (PD X a ta))(hb:Jd (PD X b tb))(hs:lN b:=by intro _ _;rfl):Jd (PD X (.Subscript a b pos) (dOp rd ta tb)):=⟨D.abh (hr:=hr) (hd:=hd) (ha:=ha.h) (hb:=hb.h) (hs:=hs)⟩
theorem bM(ho:OpR X (compareOp op) r)(hd:OpD X.K r rd)(ha:Jd (PD X a ta))(hb:Jd (PD X b tb))(hm:behindInMarks op b=false:=by first | exact fQ _ (by decide) (by decide) | rfl):Jd (PTd X (.Compare a [op] [b] pos) (bP (dOp rd ta tb))):=⟨D.vE (ho:=ho) (hd:=hd) (ha:=ha.h) (hb:=hb.h) (hm:=hm)⟩
theorem dm(h:Jd (PD X e te))(he:∀ whole,isTrue e X.env whole=(do let v <- whole;standAt e.pos;holding [v] (truthy v)):=by intro _;rfl):Jd (PTd X e (bP te)):=⟨D.xF (h:=h.h) (he:=he)⟩
variable {tA tB:TTd}{rest:List Expr}
theorem pK(ha:Jd (PTd X a tA)):Jd (PWd X (.BoolOp .And [a] pos) tA):=⟨D.sR (ha:=ha.h)⟩
theorem um(ha:Jd (PTd X a tA))(hb:Jd (PWd X (.BoolOp .And (b::rest) pos) tB)):Jd (PWd X (.BoolOp .And (a::b::rest) pos) (abI tA tB)):=⟨D.vG (ha:=ha.h) (hb:=hb.h)⟩
theorem yS(h:Jd (PWd X e tA)):Jd (PTd X e tA):=⟨D.acb (h:=h.h)⟩
theorem t8(ha:Jd (PTd X a tA)):Jd (PTd X (.UnaryOp .Not a pos) (abj tA)):=⟨D.wO (ha:=ha.h)⟩
theorem se{op}(h:Jd (PD X a ta)):Jd (PD X (.BoolOp op [a] pos) ta):=⟨D.zo (h:=h.h)⟩
theorem pq(ha:Jd (PD X a ta))(hb:Jd (PD X (.BoolOp .And (b::rest) pos) tb)):Jd (PD X (.BoolOp .And (a::b::rest) pos) (qG ta tb)):=⟨D.aaI (ha:=ha.h) (hb:=hb.h)⟩
theorem vO(ha:Jd (PD X a ta)):Jd (PD X (.UnaryOp .Not a pos) (xD ta)):=⟨D.yQ (ha:=ha.h)⟩
variable {es:List Expr}{t:TAd}
theorem ag  : Jd (PAd X [] aR):=⟨D.oJ ⟩
theorem oP(h:Jd (PAd X es t)):Jd (PD X (.List es pos) (yo t)):=⟨D.ze (h:=h.h)⟩
theorem dU(h:Jd (PAd X es t)):Jd (PD X (.List es pos) (fN t)):=⟨D.wG (h:=h.h)⟩
theorem eh{x1}(h:Jd (PAd X es t)):Jd (PD X (.Tuple es x1 pos) (oy t)):=⟨D.aaT (h:=h.h)⟩
variable {x:Str}{p:Pos}{id T:String}{r:List V->Hp->VK->Prop}{rd:List W->MH->QD->Prop}
end
section
variable {X:Cx}{pos:Pos}{st:Stmt}{sts:List Stmt}{t u:TSd}{e:Expr}{te:TD}{K:FG}
theorem bD  : Jd (lh X [] dM):=⟨aaD wV λ D σ H ⟨τ,M,Dd,A,h,k1,_⟩=>k1 σ H τ M (Kp.refl H) A h⟩
theorem ab(h1:Jd (PSd X st t))(h2:Jd (lh X sts u)):Jd (lh X (st::sts) (bb t u)):=⟨D.pI (h1:=h1.h) (h2:=h2.h)⟩
theorem ao(h1:Jd (PSd X st t)):Jd (lh X [st] t):=⟨D.sH (h1:=h1.h)⟩
theorem bu(he:Jd (PD X e te))(hs:swapsWith e none pos.line X.env=pure false:=by rfl):Jd (PSd X (.Expr e pos) (cW te)):=⟨D.sG (he:=he.h) (hs:=hs)⟩
theorem bF(he:Jd (PD X e te)):Jd (PSd X (.Return (some e) pos) (jL te)):=⟨D.vM (he:=he.h)⟩
theorem bQ(hc:Jd (PTd X c tc))(ha:Jd (lh X a t))(hb:Jd (lh X b u)):Jd (PSd X (.If c a b pos) (dIf tc t u)):=⟨D.zP (hc:=hc.h) (ha:=ha.h) (hb:=hb.h)⟩
theorem aA(hN:X.N.Nodup)(hi:X.N[i]? =some x)(hx:Loc X.env.scope x)(hf:X.fn x=true\/X.env.scope.names.lookup x=some .local:=by first | exact .inl rfl | exact .inr rfl | assumption):Jd (PGd X (.Name x pos) (gN i)):=⟨
 abR (rV hN hi hx hf) λ v σ H Q ⟨w,τ,M,Qd,r,A,h,k⟩=>k _ H _ M (Kp.refl H) (A.set i r) h⟩
theorem bZ(he:Jd (PD X e te))(hg:Jd (PGd X tg g))(hs:swapsWithSole [tg] e pos.line X.env=pure false:=by rfl)(hw:swappedStores [tg] e X.env=pure none:=by rfl)(h1:(assignEach [tg] X.env).map (·.2)=[assign tg X.env]:=by rfl):Jd (PSd X (.Assign [tg] e pos) (bR te g)):=⟨D.w6 (he:=he.h) (hg:=hg.h) (hs:=hs) (hw:=hw) (h1:=h1)⟩
theorem aY(hN:X.N.Nodup)(hi:X.N[i]? =some x)(hx:Loc X.env.scope x)(he:Jd (PD X e te))(hs:swapsWith e (some (.Name x pos')) pos.line X.env=pure false:=by rfl)(hf:X.fn x=true\/X.env.scope.names.lookup x=some .local:=by first | exact .inl rfl | exact .inr rfl | assumption):Jd (PSd X (.Assign [.Name x pos'] e pos) (bR te (gN i))):=⟨D.vU (hN:=hN) (hi:=hi) (hx:=hx) (he:=he.h) (hs:=hs) (hf:=hf)⟩
end
theorem kN  : Jd (POd X none i8):=⟨acq xC λ σ H Q ⟨τ,M,Qd,A,q,k⟩=>k none H M (Kp.refl H) A.mem q⟩
theorem kO(h:Jd (PD X e te)):Jd (POd X (some e) (qb te)):=⟨D.uE (h:=h.h)⟩
theorem kC{te:TD}{lo hi:Option Expr}{tl th:TOd}{pos p2:Pos}(he:Jd (PD X e te))(hl:Jd (POd X lo tl))(hu:Jd (POd X hi th)):Jd (PD X (.Subscript e (.Slice lo hi none p2) pos) (dSl te tl th)):=⟨D.sW (he:=he.h) (hl:=hl.h) (hu:=hu.h)⟩
theorem cG(ho:Jd (PD X o to))(hi:Jd (PD X i ti))(ha:∀ v,assign (.Subscript o i pos) X.env v=(do
   let ov <- holding [v] (eval o X.env)
   let iv <- holding [v,ov] (eval i X.env)
   standAt pos
   holding [v,ov,iv] (setItem ov iv v)
   release [v,ov,iv] []):=by intro _;rfl):Jd (PGd X (.Subscript o i pos) (lA to ti)):=⟨D.xg (ho:=ho.h) (hi:=hi.h) (ha:=ha)⟩
theorem oM(ho:Jd (PD X o to))(hi:Jd (PD X i ti))(he:Jd (PD X e te))(hp:PIp X op (ipI f))(ha:∀ ov iv new,augStore i ov iv new=(do holding [new,ov,iv] (setItem ov iv new);release [new,ov,iv] [];pure .next):=by intros;rfl):Jd (PSd X (.AugAssign (.Subscript o i tpos) op e pos) (tS to ti te f)):=⟨D.uu (ho:=ho.h) (hi:=hi.h) (he:=he.h) (hp:=hp) (ha:=ha)⟩
theorem bw(h:Jd (PD X l te)):Jd (PId X tg l (bV te)):=⟨D.qc (h:=h.h)⟩
theorem dh(hg:Gl X "range")(hm:X.mg "range" = none)(ha:Jd (PAd X [a] ta))(hs:starEach [a] X.env=[(false,eval a X.env)]:=by rfl):Jd (PId X tg (.Call (.Name "range" p) [a] [] pos) (ip ta)):=⟨D.nU (hg:=hg) (hm:=hm) (ha:=ha.h) (hs:=hs)⟩
theorem l5(hg:Gl X "range")(hm:X.mg "range" = none)(ha:Jd (PAd X [a,b] ta))(hs:starEach [a,b] X.env=[(false,eval a X.env),(false,eval b X.env)]:=by rfl)(hs2:starEach [b] X.env=[(false,eval b X.env)]:=by rfl):Jd (PId X tg (.Call (.Name "range" p) [a,b] [] pos) (sN ta)):=⟨D.nE (hg:=hg) (hm:=hm) (ha:=ha.h) (hs:=hs) (hs2:=hs2)⟩
theorem de(hp:PassesOwn (model X.prog X.w) X.A X.env X.xe)(hc:X.calm=true)(hi:Jd (PId X tg iter di))(hg:Jd (PGd X tg g))(hb:Jd (lh X body tb))(hs:∀ x,foldedSetIterable iter X.env x=pure x:=by intro _;rfl):Jd (PSd X (.For tg iter body [] pos) (lq di g tb)):=⟨D.vI (hp:=hp) (hc:=hc) (hi:=hi.h) (hg:=hg.h) (hb:=hb.h) (hs:=hs)⟩
theorem cD  : Jd (lK X [] oF):=⟨λ pins s σ H Q I ⟨τ,M,Qd,A,q,k⟩=>xZ pins s σ H Q I (k true H M (Kp.refl H) A.mem q)⟩
theorem gp(h:Jd (PTd X c t)):Jd (lK X [c] t):=⟨D.sF (h:=h.h)⟩
theorem pY(hc:X.calm=true)(L:iE X sc own fr)(hi:Jd (PId X tg iter di))(hg:∀ cl C s H ex pl,Jd (PGd (blk X sc (lcN X own fr) cl C s H ex pl) tg g))(ht:∀ cl C s H ex pl,Jd (lK (blk X sc (lcN X own fr) cl C s H ex pl) ifs tt))(he:∀ cl C s H ex pl,Jd (PD (blk X sc (lcN X own fr) cl C s H ex pl) elt te))(hs:∀ x,foldedSetIterable iter X.env x=pure x:=by intro _;rfl):Jd (PD X (.ListComp elt [⟨tg,iter,ifs,0⟩] sc pos) (dLC di g tt te own.length fr)):=⟨D.abU (hc:=hc) (L:=L) (hi:=hi.h) (hg:=λ cl C s H ex pl=>(hg cl C s H ex pl).h) (ht:=λ cl C s H ex pl=>(ht cl C s H ex pl).h) (he:=λ cl C s H ex pl=>(he cl C s H ex pl).h) (hs:=hs)⟩
theorem nL(hN:X.N.Nodup)(hi':X.N[i]? =some x)(hx:Loc X.env.scope x)(hc:X.calm=true)(L:iE X sc own fr)(hi:Jd (PId X tg iter di))(hg:∀ cl C s H ex pl,Jd (PGd (blk X sc (lcN X own fr) cl C s H ex pl) tg g))(ht:∀ cl C s H ex pl,Jd (lK (blk X sc (lcN X own fr) cl C s H ex pl) ifs tt))(he:∀ cl C s H ex pl,Jd (PD (blk X sc (lcN X own fr) cl C s H ex pl) elt te))(hsw:swapsWith (.ListComp elt [⟨tg,iter,ifs,0⟩] sc pos) (some (.Name x pos')) spos.line X.env=pure true:=by rfl)(hs:∀ x,foldedSetIterable iter X.env x=pure x:=by intro _;rfl)(hf:X.fn x=true\/X.env.scope.names.lookup x=some .local:=by first | exact .inl rfl | exact .inr rfl | assumption):Jd (PSd X (.Assign [.Name x pos'] (.ListComp elt [⟨tg,iter,ifs,0⟩] sc pos) spos) (bR (dLC di g tt te own.length fr) (gN i))):=⟨D.ql (hN:=hN) (hi':=hi') (hx:=hx) (hc:=hc) (L:=L) (hi:=hi.h) (hg:=λ cl C s H ex pl=>(hg cl C s H ex pl).h) (ht:=λ cl C s H ex pl=>(ht cl C s H ex pl).h) (he:=λ cl C s H ex pl=>(he cl C s H ex pl).h) (hsw:=hsw) (hs:=hs) (hf:=hf)⟩
section
variable {X:Cx}{pos p:Pos}{e:Expr}{es:List Expr}{te:TD}{t:TAd}{x:Str}{id T:String}{r:List V->Hp->VK->Prop}{rd:List W->MH->QD->Prop}{k:Nat}{f:Addr}{fd:FuncData}{ps:List Str}{sp:SpD}
theorem aL(ha:Jd (PD X e te))(hr:Jd (PAd X es t))(h:eM e=false:=by rfl):Jd (PAd X (e::es) (aa te t)):=⟨D.pac (ha:=ha.h) (hr:=hr.h) (h:=h)⟩
theorem rf(hc:eA X (.builtin id) r)(hd:fc X.K r rd)(hg:Gl X x)(hm:X.mg x=none)(hv:bootBuiltins x=some (.builtin id))(ha:Jd (PAd X (e::es) t))(hn:x ≠ "__name__":= by decide)(hdb:ND x:=by decide)(h1:eM e=false:=by rfl)(h2:(es.all λ e=>!eM e)=true:=by rfl):Jd (PD X (.Call (.Name x p) (e::es) [] pos) (dCB rd t)):=⟨D.pcB (hc:=hc) (hd:=hd) (hg:=hg) (hm:=hm) (hv:=hv) (ha:=ha.h) (hn:=hn) (hdb:=hdb) (h1:=h1) (h2:=h2)⟩
theorem lI(F:cR X.prog X.w X.K X.mg X.base CX0 k f fd ps (dy X.K sp))(hr:cj k X.A)(hg:Gl X x)(hm:X.mg x=some (.ref f))(hk:W.keepIn X.K (.ref f)=true)(hb:Binds X.K fd ps [])(ha:Jd (PAd X (e::es) t))(hdb:ND x:=by decide)(h1:eM e=false:=by rfl)(h2:(es.all λ e=>!eM e)=true:=by rfl):Jd (PD X (.Call (.Name x p) (e::es) [] pos) (bS sp t)):=⟨D.pcF (F:=F) (hr:=hr) (hg:=hg) (hm:=hm) (hk:=hk) (hb:=hb) (ha:=ha.h) (hdb:=hdb) (h1:=h1) (h2:=h2)⟩
end
section
variable {κ α:Type}[DecidableEq κ]
def il(t:List (κ×α))(k:κ):Option α:=(t.find? λ p=>decide (p.1=k)).map (·.2)
def oE(t:List (κ×α))(k:κ)(v:α):List (κ×α):=if (t.any λ p=>decide (p.1=k))=true then t.map (λ p=>if p.1=k then (p.1,v) else p) else t++[(k,v)]
def OR(R:β->γ->Prop):Option β->Option γ->Prop
 | some a,some b=>R a b
 | none,none=>True
 | _,_=>False
theorem OR.some_of(h:OR R (some a) o):∃ b,o=some b/\R a b:=by
 cases o with
 | none=>exact h.elim
 | some b=>exact⟨b,rfl,h⟩
theorem OR.none_of(h:OR R none o):o=none:=by
 cases o with
 | none=>rfl
 | some b=>exact h.elim
theorem u0(k:κ):∀ {t:List (κ×α)} {l:List (κ×V)},Paired (λ p q=>p.1=q.1/\R p.2 q.2) t l->OR R (il t k) (qR l k)
 | _,_,.nil=>True.intro
 | _,_,.cons (a:=p) (b:=q) (l₁:=t1) h t=>by
  obtain⟨h1,h2⟩:=h
  by_cases e:p.1=k
  ·rw[fY (h1.symm.trans e),show il (p::t1) k=some p.2 by simp[il,List.find?_cons,e]];exact h2
  ·rw[fT (λ z=>e (h1.trans z)),show il (p::t1) k=il t1 k by simp[il,List.find?_cons,e]];exact u0 k t
theorem uG{R:α->V->Prop}(k:κ):∀ {t:List (κ×α)} {l:List (κ×V)},Paired (λ p q=>p.1=q.1/\R p.2 q.2) t l->(t.any λ p=>decide (p.1=k))=(l.any λ p=>decide (p.1=k))
 | _,_,.nil=>rfl
 | _,_,.cons (a:=p) (b:=q) h t=>by simp only[List.any_cons];rw[uG k t,h.1]
theorem uY{R:α->V->Prop}(k:κ){v:V}(r:R a v):∀ {t:List (κ×α)} {l:List (κ×V)},Paired (λ p q=>p.1=q.1/\R p.2 q.2) t l ->
  Paired (λ p q=>p.1=q.1/\R p.2 q.2) (t.map λ p=>if p.1=k then (p.1,a) else p) (l.map λ p=>if p.1=k then (p.1,v) else p)
 | _,_,.nil=>.nil
 | _,_,.cons (a:=p) (b:=q) h t=>by
  simp only[List.map_cons];refine .cons ?_ (uY k r t)
  by_cases e:p.1=k
  ·rw[if_pos e,if_pos (h.1.symm.trans e)];exact⟨h.1,r⟩
  ·rw[if_neg e,if_neg (λ z=>e (h.1.trans z))];exact h
theorem rD(r:P p q):∀ {t:List (κ×α)} {l:List (κ×V)},Paired P t l->Paired P (t++[p]) (l++[q])
 | _,_,.nil=>.cons r .nil
 | _,_,.cons h t=>.cons h (rD r t)
theorem uI{R:α->V->Prop}(k:κ){v:V}(r:R a v){t:List (κ×α)}{l:List (κ×V)}(h:Paired (λ p q=>p.1=q.1/\R p.2 q.2) t l) :
  Paired (λ p q=>p.1=q.1/\R p.2 q.2) (oE t k a) (putK l k v):=by
 unfold oE putK;rw[uG k h]
 split
 ·exact uY k r h
 ·exact rD ⟨rfl,r⟩ h
theorem o9:∀ {t:List (κ×α)} {l:List (κ×V)},Paired P t l->t.length=l.length
 | _,_,.nil=>rfl
 | _,_,.cons _ t=>by simp[o9 t]
theorem g8{t:List (κ×α)}{k:κ}:il (p::t) k=if p.1=k then some p.2 else il t k:=by
 by_cases e:p.1=k<;>simp[il,List.find?_cons,e]
theorem jx(k:κ):∀ t:List (κ×α),(t.any λ p=>decide (p.1=k))=(il t k).isSome
 | []=>rfl
 | p::t=>by
  rw[List.any_cons,jx k t,g8]
  by_cases e:p.1=k<;>simp[e]
end
def kW(k:Key):W:=.d (wa k)
theorem pW{K:FG}{H:Hp}{k:Key}{v:V}(r:aI K H (kW k) v):v=kV k:=qE r
def Rd2(H:Hp)(a:Addr)(u:HO):Prop:=Rd H a u\/∃ o,H a=some (.frz o (.frz o u))
theorem aap(ok:HOk P w H h)(e:Rd2 H a (.dK kvs)):kvs.length<=sizeLine/\(a==sysModules)=false/\∃ vs,KV kvs vs/\h.DictOf (bK P w) a vs:=by
 rcases e with e | ⟨o,e⟩
 ·exact vX ok e
 ·exact(ok a _ e).2.2
theorem nN(hu:A.units+1<cLine)(I:Inv X pins σ H s)(e:Rd2 H a (.dK kvs))(l:qR kvs k=some v)(ry:RelV (kV k) u)(h:∀ w' s',Inv X pins σ H s'->RelV v w'->Q w' s') :
  s.TypeIs (.ref a) "dict" /\ wpAny (model X.prog X.w) A (getItem (.ref a) u) Q E s:=by
 obtain⟨z,hd,vs,rel,dd⟩:=aap I.hok e;obtain⟨w',hw,rw'⟩:=l7.some_of (v:=v) (o:=valueAt vs k) (by rw[<- l];exact rel.val k);exact⟨dd.typeIs,wpAny_getItem_of (rQ ry) dd.mapOf hw (h w' _ (I.tok _) rw')⟩
def aar(td ty:TE):TE:=λ σ H Q=>td σ H λ x H1=>ty σ H1 λ y H2=>∃ a kvs k v,x=.ref a/\Rd2 H2 a (.dK kvs)/\y=kV k/\qR kvs k=some v/\Q v H2
theorem tM(hu:X.A.units+1<cLine)(ho:PE X o td)(hi:PE X i ty)(hs:aa6 i):PE X (.Subscript o i pos) (aar td ty):=by intro pins s σ H Q I h;refine ym PySem.F.slot_dict_getitem.lookup hs (thn (ho pins s σ H _ I h) λ u s1 ⟨x,H1,I1,rx,q1⟩=>thn (hi pins s1 σ H1 _ I1 q1) λ iv s2 hq51=>?_);obtain⟨y,H2,I2,ry,a,kvs,k,v,ex,g,ey,l,q2⟩:=hq51;subst ex ey;obtain rfl:u=Value.ref a:=rx;exact nN hu I2 g l ry λ w' s3 I3 rw'=>⟨v,H2,I3,rw',q2⟩
section
variable {X:Cx}{o i e f value:Expr}{es:List Expr}{pos pos' apos cpos:Pos}{td ti tx tv:TD}{t:TAd}
def ml(_:DS)(M:MH)(Q:QD):Prop:=∀ p,M p=none->Q (.m p) (aT M p (.dic []))
inductive yC(M2:MH) (w y:W) (Q:QD):Prop
 | mk (a:Addr) (kvs:List (Key×W)) (k:Key) (v:W) (z0:w=.m a) (z1:M2 a=some (.dic kvs)\/M2 a=some (.fdic kvs)) (z2:y=kW k) (z3:il kvs k=some v) (q:Q v M2):yC M2 w y Q
def cT(td ti:TD)(τ:DS)(M:MH)(Q:QD):Prop:=td τ M λ w M1=>ti τ M1 λ y M2=>yC M2 w y Q
theorem xx(hu:X.A.units+1<cLine)(ho:PD X o td)(hi:PD X i ti)(hs:aa6 i:=by exact λ _ _=>rfl):PD X (.Subscript o i pos) (cT td ti):=eW (tM hu ho hi hs) λ σ H Q h=>by
 obtain⟨τ,M,Qd,A,h,k⟩:=h;refine⟨τ,M,_,A,h,λ x H1 w M1 kp1 r1 m1 q1=>⟨τ,M1,_,A.go kp1 m1,q1,λ y H2 wy M2 kp2 r2 m2 hq52=>?_⟩⟩;obtain⟨a,kvs,key,v,ew,hm,ey,hv,q2⟩:=hq52;subst ew ey;obtain⟨l,e,pr⟩:∃ l,Rd2 H2 a (.dK l)/\Paired (λ(p:Key×W) (q:Key×V)=>p.1=q.1/\aI X.K H2 p.2 q.2) kvs l:=by
  rcases hm with hm | hm
  ·obtain⟨l,e,pr⟩:=m2 _ _ hm;exact⟨l,.inl (.inl e),pr⟩
  ·obtain⟨ob,l,e,pr⟩:=m2 _ _ hm;exact⟨l,.inr ⟨ob,e⟩,pr⟩
 have g:=u0 key pr;rw[hv] at g;obtain⟨b,eb,rb⟩:=OR.some_of g;refine⟨a,l,key,b,r1,e,pW r2,eb,?_⟩;exact k _ H2 v M2 (kp1.trans kp2) rb m2 q2
def j7(td ti tv:TD)(D:Ed)(τ:DS)(M:MH):Prop:=tv τ M λ v M1=>td τ M1 λ w M2=>ti τ M2 λ y M3=>∃ a kvs k,w=.m a/\M3 a=some (.dic kvs)/\y=kW k/\kvs.length<sizeLine/\D.nx τ (aT M3 a (.dic (oE kvs k v)))
theorem sM(hu:X.A.units+1<cLine)(ho:PD X o td)(hi:PD X i ti)(hv:PD X value tv)(hs:swapsWith value (some (.Subscript o i pos')) pos.line X.env=pure false:=by rfl) :
  PSd X (.Assign [.Subscript o i pos'] value pos) (j7 td ti tv):=mH (wI hu ho hi hv hs) λ D σ H h=>by
 obtain⟨τ,M,Dd,A,h,k1,_⟩:=h;refine⟨τ,M,_,A,h,λ v H1 wv M1 kp1 r1 m1 q1=>⟨τ,M1,_,A.go kp1 m1,q1,λ x H2 w M2 kp2 r2 m2 q2=>⟨τ,M2,_,A.go (kp1.trans kp2) m2,q2,λ y H3 wy M3 kp3 r3 m3 hq53=>?_⟩⟩⟩;obtain⟨a,kvs,key,ew,hm,ey,hl,q3⟩:=hq53;subst ew ey;obtain⟨l,e,pr⟩:=m3 _ _ hm;have kp4:Kp H3 (upd H3 a (.dK (putK l key v))):=Kp.set e (λ _ z=>nomatch z) (λ _ _ z=>nomatch z);refine⟨a,_,r2,.inl ⟨l,key,e,pW r3,by rw[<- o9 pr];exact hl,rfl⟩,?_⟩;have rv:aI X.K H3 wv v:=(r1.keep kp2).keep kp3;refine k1 _ _ _ _ (((kp1.trans kp2).trans kp3).trans kp4) (A.go (((kp1.trans kp2).trans kp3).trans kp4) (m3.put (mo:=.dic (oE kvs key wv)) kp4 ⟨_,av,?_⟩)) q3;exact Paired.fw (uI key rv pr) λ p q z=>⟨z.1,z.2.keep kp4⟩
end
def sv(f:Str)(v:W):List (Str×W)->List (Str×W)
 | []=>[(f,v)]
 | (g,x)::r=>if g=f then (g,v)::r else (g,x)::sv f v r
abbrev uy(K:FG)(H:Hp):List (Str×W)->List (Str×V)->Prop:=Paired (λ(p:Str×W) (q:Str×V)=>p.1=q.1/\aI K H p.2 q.2)
theorem eN{K:FG}{H:Hp}(f:Str):∀ {fs:List (Str×W)} {l:List (Str×V)},uy K H fs l->OR (aI K H) (fs.lookup f) (l.lookup f)
 | _,_,.nil=>True.intro
 | _,_,.cons (a:=p) (b:=q) (l₁:=t1) (l₂:=t2) h t=>by
  obtain⟨pk,pv⟩:=p;obtain⟨qk,qv⟩:=q;obtain⟨h1,h2⟩:=h;have h1':pk=qk:=h1;subst h1';rw[List.lookup_cons,List.lookup_cons];cases e:(f==pk) with
  | true=>exact h2
  | false=>exact eN f t
theorem uH{K:FG}{H:Hp}(f:Str){w:W}{v:V}(r:aI K H w v):∀ {fs:List (Str×W)} {l:List (Str×V)},uy K H fs l->uy K H (sv f w fs) (jq f v l)
 | _,_,.nil=>.cons ⟨rfl,r⟩ .nil
 | _,_,.cons (a:=p) (b:=q) (l₁:=t1) (l₂:=t2) h t=>by
  obtain⟨pk,pv⟩:=p;obtain⟨qk,qv⟩:=q;obtain⟨h1,h2⟩:=h;have h1':pk=qk:=h1;subst h1';show uy K H (if pk=f then (pk,w)::t1 else (pk,pv)::sv f w t1) (if pk=f then (pk,v)::t2 else (pk,qv)::jq f v t2)
  by_cases e:pk=f
  ·rw[if_pos e,if_pos e];exact .cons ⟨rfl,r⟩ t
  ·rw[if_neg e,if_neg e];exact .cons ⟨rfl,h2⟩ (uH f r t)
theorem u5{K:FG}{H:Hp}:∀ {fs:List (Str×W)} {l:List (Str×V)},uy K H fs l->fs.length=l.length
 | _,_,.nil=>rfl
 | _,_,.cons _ t=>by simp[u5 t]
theorem uy.keep{K:FG}{H H':Hp}(kp:Kp H H'){fs:List (Str×W)}{l:List (Str×V)}(h:uy K H fs l):uy K H' fs l:=Paired.fw h λ p q z=>⟨z.1,z.2.keep kp⟩
section
variable {X:Cx}{C f:Addr}{o e value:Expr}{es:List Expr}{fn m x:Str}{pos pos' apos p:Pos}{td tv te:TD}{t:TAd}{k:Nat}{fd:FuncData}{ps:List Str}{sp:SpD}
inductive acr(C:Addr) (fn:Str) (M1:MH) (w:W) (Q:QD):Prop
 | mk (a:Addr) (fs:List (Str×W)) (v:W) (z0:w=.m a) (z1:M1 a=some (.ins C fs)) (z2:fs.lookup fn=some v) (q:Q v M1):acr C fn M1 w Q
def mw(C:Addr)(td:TD)(fn:Str)(τ:DS)(M:MH)(Q:QD):Prop:=td τ M λ w M1=>acr C fn M1 w Q
theorem aam(c:Cls X.K C)(n:cH X.K C fn)(he:PD X e td)(hb:attributeBase e fn X.env (eval e X.env)=eval e X.env:=by rfl):PD X (.Attribute e fn pos) (mw C td fn):=eW (zW he hb) λ σ H Q h=>by obtain⟨τ,M,Qd,A,h,k⟩:=h;refine⟨τ,M,_,A,h,λ x H1 w M1 kp1 r1 m1 hq54=>?_⟩;obtain⟨a,fs,v,ew,hm,hl,q⟩:=hq54;subst ew;obtain⟨dx,l,e,pr⟩:=m1 _ _ hm;have g:=eN fn pr;rw[hl] at g;obtain⟨b,eb,rb⟩:=OR.some_of g;exact⟨a,C,dx,l,b,r1,e,c,n,eb,k _ H1 v M1 kp1 rb m1 q⟩
def dG(C:Addr)(td tv:TD)(fn:Str)(D:Ed)(τ:DS)(M:MH):Prop:=tv τ M λ v M1=>td τ M1 λ w M2=>∃ a fs,w=.m a/\M2 a=some (.ins C fs)/\fs.length<1000/\D.nx τ (aT M2 a (.ins C (sv fn v fs)))
theorem vH(c:Cls X.K C)(n:cH X.K C fn)(ha:PD X o td)(hv:PD X value tv)(hs:swapsWith value (some (.Attribute o fn pos')) pos.line X.env=pure false:=by rfl):PSd X (.Assign [.Attribute o fn pos'] value pos) (dG C td tv fn):=mH (zO ha hv hs) λ D σ H h=>by obtain⟨τ,M,Dd,A,h,k1,_⟩:=h;refine⟨τ,M,_,A,h,λ v H1 wv M1 kp1 r1 m1 q1=>⟨τ,M1,_,A.go kp1 m1,q1,λ x H2 w M2 kp2 r2 m2 hq55=>?_⟩⟩;obtain⟨a,fs,ew,hm,hl,q2⟩:=hq55;subst ew;obtain⟨dx,l,e,pr⟩:=m2 _ _ hm;have kp4:Kp H2 (upd H2 a (.ins C dx (jq fn v l))):=Kp.set e (λ _ z=>nomatch z) (λ _ _ z=>nomatch z);refine⟨a,C,dx,l,r2,e,c,n,by rw[<- u5 pr];exact hl,?_⟩;refine k1 _ _ _ _ ((kp1.trans kp2).trans kp4) (A.go ((kp1.trans kp2).trans kp4) (m2.put (mo:=.ins C (sv fn wv fs)) kp4 ⟨dx,_,av,?_⟩)) q2;exact uy.keep kp4 (uH fn (r1.keep kp2) pr)
inductive aaz(C:Addr) (m:Str) (M1:MH) (w:W) (q:Prop):Prop
 | mk (a:Addr) (fs:List (Str×W)) (z0:w=.m a) (z1:M1 a=some (.ins C fs)) (z2:fs.lookup m=none) (z3:q):aaz C m M1 w q
def cY(C:Addr)(m:Str)(sp:SpD)(td:TD)(t:TAd)(τ:DS)(M:MH)(Q:QD):Prop:=td τ M λ w M1=>aaz C m M1 w (t τ M1 λ ws M2=>sp (w::ws) M2 Q)
theorem tE{σ:St}{H:Hp}{Q:VK}(h:up X.K (cY C m sp td t) σ H Q):xw C m (dy X.K sp) [] E0 (up X.K td) (upA X.K t) σ H Q:=by obtain⟨τ,M,Qd,A,h,k⟩:=h;refine⟨τ,M,_,A,h,λ x H1 w M1 kp1 r1 m1 hq56=>?_⟩;obtain⟨a,fs,ew,hm,hl,q1⟩:=hq56;subst ew;obtain⟨dx,l,e,pr⟩:=m1 _ _ hm;have g:=eN m pr;rw[hl] at g;refine⟨a,dx,l,r1,e,OR.none_of g,τ,M1,_,A.go kp1 m1,q1,λ vs H2 ws M2 kp2 r2 m2 q2=>?_⟩;exact⟨.m a::ws,M2,Qd,by rw[List.append_nil];exact .cons r1 r2,m2,q2,kgo (kgo k kp1) kp2⟩
theorem yb(he:PD X o td)(c:Cls X.K C)(hm:Meth X.K C m f)(F:cR X.prog X.w X.K X.mg X.base CX0 k f fd ps (dy X.K sp))(hr:cj k X.A)(hb:Binds X.K fd ps [])(ha:PAd X (e::es) t)
  (ht:eval (.Call (.Attribute o m apos) (e::es) [] pos) X.env=(do
   let ov <- eval o X.env
   standAt apos.atName
   let (f,first) <- holding [ov] (getMethod ov m pl)
   callWith pos f first (backTo pos (starEach (e::es) X.env)) (backToKw pos (keywordEach [] X.env))):=by rfl)
  (h1:eM e=false:=by rfl)(h2:(es.all λ e=>!eM e)=true:=by rfl):PD X (.Call (.Attribute o m apos) (e::es) [] pos) (cY C m sp td t):=
 eW (ye (E:=E0) (dvs:=[]) he c hm F hr hb .nil uC ha (df e es X.env h1) (dt pos X.env es h2) ht) λ σ H Q h=>tE h
theorem sX{pl:Sem Bool}(he:PD X o td)(c:Cls X.K C)(hm:Meth X.K C m f)(F:cR X.prog X.w X.K X.mg X.base CX0 k f fd ps (dy X.K sp))(hr:cj k X.A)(hb:Binds X.K fd ps [])
  (ht:eval (.Call (.Attribute o m apos) [] [] pos) X.env=(do
   let ov <- eval o X.env
   standAt apos.atName
   let (f,first) <- holding [ov] (getMethod ov m pl)
   callWith pos f first (backTo pos (starEach [] X.env)) (backToKw pos (keywordEach [] X.env))):=by rfl):PD X (.Call (.Attribute o m apos) [] [] pos) (cY C m sp td aR):=
 eW (tW (E:=E0) (dvs:=[]) he c hm F hr hb .nil uC ht) λ σ H Q h=>by obtain⟨τ,M,Qd,A,h,k⟩:=h;refine⟨τ,M,_,A,h,λ x H1 w M1 kp1 r1 m1 hq57=>?_⟩;obtain⟨a,fs,ew,hm,hl,q1⟩:=hq57;subst ew;obtain⟨dx,l,e,pr⟩:=m1 _ _ hm;have g:=eN m pr;rw[hl] at g;exact⟨a,dx,l,r1,e,OR.none_of g,.m a::[],M1,Qd,.cons r1 .nil,m1,q1,kgo k kp1⟩
def tp(C:Addr)(sp:SpD)(t:TAd)(τ:DS)(M:MH)(Q:QD):Prop:=t τ M λ ws M1=>∀ a,M1 a=none->sp (.m a::ws) (aT M1 a (.ins C [])) (λ v M2=>v=.d .none/\Q (.m a) M2)
theorem tL{H1:Hp}{M1:MH}{a dx:Addr}(m1:cn X.K H1 M1)(ha:H1 a=none)(hd:H1 dx=none)(hn:dx≠a):Kp H1 (upd (upd H1 dx (.own a)) a (.ins C dx []))/\cn X.K (upd (upd H1 dx (.own a)) a (.ins C dx [])) (aT M1 a (.ins C [])):=by
 have k1:Kp H1 (upd H1 dx (.own a)):=Kp.new hd;have ha2:(upd H1 dx (.own a)) a=none:=by rw[aj (Ne.symm hn)];exact ha
 have k2:Kp (upd H1 dx (.own a)) (upd (upd H1 dx (.own a)) a (.ins C dx [])):=Kp.new ha2;exact⟨k1.trans k2,(m1.new hd).put (mo:=.ins C []) k2 ⟨dx,[],av,.nil⟩⟩
theorem xk(Mk':Mk X.K C f)(F:cR X.prog X.w X.K X.mg X.base CX0 k f fd ps (dy X.K sp))(hr:cj (k+1) X.A)(hg:Gl X x)(hm:X.mg x=some (.ref C))(hb:Binds X.K fd ps [])(ha:PAd X (e::es) t)(hdb:ND x:=by decide)
  (h1:eM e=false:=by rfl)(h2:(es.all λ e=>!eM e)=true:=by rfl):PD X (.Call (.Name x p) (e::es) [] pos) (tp C sp t):=
 eW (wx (E:=E0) (dvs:=[]) Mk' F hr hg hm hb .nil uC ha hdb (df e es X.env h1) (dt pos X.env es h2)) λ σ H Q h=>by
  obtain⟨τ,M,Qd,A,h,k⟩:=h;refine⟨τ,M,_,A,h,λ vs H1 ws M1 kp1 r1 m1 q1 a dx ha hd hn=>?_⟩;obtain⟨kp2,m2⟩:=tL (X:=X) (C:=C) m1 ha hd hn;exact⟨.m a::ws,_,_,by rw[List.append_nil];exact .cons rfl (r1.keep kp2),m2,q1 a (m1.free ha),λ v H' w M' kp3 r3 m3 hq58=>by obtain⟨e3,q3⟩:=hq58;subst e3;simp only[aI,aD] at r3;exact⟨r3,k _ H' (.m a) M' ((kp1.trans kp2).trans kp3) rfl m3 q3⟩⟩
end
def nC(M:MH)(a:Addr):MH:=λ b=>if b=a then none else M b
theorem vT(h:b≠a):nC M a b=M b:=if_neg h
theorem cn.del{K:FG}{H:Hp}{M:MH}{a:Addr}{o:HO}(m:cn K H M)(kp:Kp H (upd H a o)):cn K (upd H a o) (nC M a):=λ b mo hm=>by
 by_cases e:b=a
 ·subst e;simp[nC] at hm
 ·rw[vT e] at hm;exact(m b mo hm).keep kp λ u z=>by rw[aj e];exact z
def acu(R:W->MH->Prop)(ws:List W)(M:MH):Prop:=match ws with
 | [y]=>R y M
 | _=>False
theorem yj(h:acu R ws M):∃ y,ws=[y]/\R y M:=by
 match ws,h with
 | [y],h=>exact⟨y,rfl,h⟩
def lC(td:TD)(τ:DS)(M:MH)(Q:QD):Prop:=td τ M λ w M1=>∃ a ds,w=.m a/\M1 a=some (.lst (ds.map W.d))/\Q (.d (.list ds)) (nC M1 a)
theorem wb(h:PD X e td):PD X e (lC td):=eW (qL h) λ σ H Q h=>by obtain⟨τ,M,Qd,A,h,k⟩:=h;refine⟨τ,M,_,A,h,λ x H1 w M1 kp1 r1 m1 hq59=>?_⟩;obtain⟨a,ds,ew,hm,q⟩:=hq59;subst ew;obtain⟨vs,e,ra⟩:=m1 _ _ hm;refine⟨a,_,r1,e,trivial,λ ob=>?_⟩;have kp2:Kp H1 (upd H1 a (.frz ob (.lst vs))):=Kp.set e (λ _ z=>nomatch z) (λ _ _ z=>nomatch z);refine k _ _ (.d (.list ds)) (nC M1 a) (kp1.trans kp2) ?_ (m1.del kp2) q;simp only[aI,aD];exact⟨a,vs,r1,.inl ⟨ob,av⟩,ra.data.keep kp2⟩
def cL(td te:TD)(τ:DS)(M:MH)(Q:QD):Prop:=td τ M λ w M1=>∃ a ws,w=.m a/\M1 a=some (.lst ws)/\te τ M1 λ y M2=>∃ ws',M2 a=some (.lst ws')/\ws'.length<sizeLine/\Q (.d .none) (aT M2 a (.lst (ws'++[y])))
theorem qZ(ho:PD X o td)(he:PD X e te)
  (hbase:attributeBase o "append" X.env (eval o X.env)=eval o X.env:=by rfl)
  (hfew:((backTo cpos (starEach [e] X.env)).all (λ x=>!x.1)&&(backToKw cpos (keywordEach [] X.env)).all (λ x=>x.1.isSome)
   && decide (([e]:List Expr).length+([]:List Keyword).length+(if ([]:List Keyword).isEmpty then 0 else 1)<30))=true:=by rfl)
  (hline:(apos.endLine==cpos.line)=true:=by rfl)(hs:eM e=false:=by rfl):PD X (.Call (.Attribute o "append" apos) [e] [] cpos) (cL td te):=
 eW (abp PySem.F.plainAttrs_list PySem.F.slot_list_append PySem.F.type_list_append rj ho (pac he oJ hs) hbase hfew hline (df e [] X.env hs) rfl) λ σ H Q h=>by obtain⟨τ,M,Qd,A,h,k⟩:=h;refine⟨τ,M,_,A,h,λ x H1 w M1 kp1 r1 m1 hq60=>?_⟩;obtain⟨a,ws,ew,hm,q1⟩:=hq60;subst ew;obtain⟨vs,ea,ra⟩:=m1 _ _ hm;have r1':x=.ref a:=r1;subst r1';refine⟨.inl ⟨rfl,vs,.inl (.inl ea)⟩,τ,M1,acu (λ y M2=>∃ ws',M2 a=some (.lst ws')/\ws'.length<sizeLine/\Qd (.d .none) (aT M2 a (.lst (ws'++[y])))),A.go kp1 m1,q1,λ ys H2 wys M2 kp2 r2 m2 q2=>?_⟩;obtain⟨y,ey,ws',hm2,hl,q4⟩:=yj q2;subst ey;obtain⟨v,ev,rv⟩:=hE r2;subst ev;obtain⟨vs2,ea2,ra2⟩:=m2 _ _ hm2;have kp4:Kp H2 (upd H2 a (.lst (vs2++[v]))):=Kp.set ea2 (λ _ z=>nomatch z) (λ _ _ z=>nomatch z);refine⟨a,vs2,v,rfl,rfl,ea2,by rw[<- ra2.length];exact hl,?_⟩;exact k _ _ (.d .none) _ ((kp1.trans kp2).trans kp4) (by simp[aI,aD]) (m2.put (mo:=.lst (ws'++[y])) kp4 ⟨_,av,(aQ.append ra2 (.cons rv .nil)).keep kp4⟩) q4
def tT(K:FG)(H:Hp)(d:PyData)(x:V):Prop:=aD K H d x\/∃ a vs ds,d=.list ds/\x=.ref a/\H a=some (.lst vs)/\aV K H ds vs
inductive xO(M:MH):W->PyData->Prop
 | d {x:PyData}:xO M (.d x) x
 | l {a:Addr} {ds:List PyData} (h:M a=some (.lst (ds.map W.d))):xO M (.m a) (.list ds)
theorem xO.sound{K:FG}{H:Hp}{M:MH}{w:W}{d:PyData}{x:V}(g:xO M w d)(r:aI K H w x)(m:cn K H M):tT K H d x:=by
 cases g with
 | d=>exact .inl r
 | l h =>
  obtain⟨vs,e,ra⟩:=m _ _ h;exact .inr ⟨_,vs,_,rfl,r,e,ra.data⟩
theorem ac4(I:Inv X pins σ H s)(h:tT X.K H d x):∃ H',Inv X pins σ H' s/\aD X.K H' d x:=by
 rcases h with h | ⟨a,vs,ds,rfl,rfl,e,ra⟩
 ·exact⟨H,I,h⟩
 ·obtain⟨o,I2⟩:=I.freeze e trivial;have kp:Kp H (upd H a (.frz o (.lst vs))):=Kp.set e (λ _ z=>nomatch z) (λ _ _ z=>nomatch z);refine⟨_,I2,?_⟩;simp only[aD];exact⟨a,vs,rfl,.inl ⟨o,av⟩,ra.keep kp⟩
theorem kQ(I:Inv X pins σ H s)(d:PyData)(h:tT X.K H d x)(r:RelV x u)(hd:d.hasDict=false):∃ as,Reads s.heap u d as:=by obtain⟨H',I',h'⟩:=ac4 I h;exact fX I' d h' r hd
theorem kD(hr:qF k X.A):OpR X (compareOp .Eq) (λ x y H Q=>∃ d d',tT X.K H d x/\tT X.K H d' y/\eS d d'=true/\Q (.bl (PyData.eqv d d')) H):=by
 intro pins s σ H x y v u Q I rx ry h;obtain⟨d,d',h1,h2,o,q⟩:=h;rcases gA o with ⟨a,b,e1,e2⟩ | ⟨o1,o2⟩
 ·subst e1;subst e2;rcases h1 with h1 | ⟨_,_,_,z,_⟩
  ·rcases h2 with h2 | ⟨_,_,_,z,_⟩
   ·exact uX hr pins s σ H x y v u Q I rx ry ⟨_,_,h1,h2,o,q⟩
   ·cases z
  ·cases z
 simp only[uZ,Bool.and_eq_true,Bool.not_eq_true'] at o1 o2;obtain⟨as,r1⟩:=kQ I d h1 rx o1.2;obtain⟨bs,r2⟩:=kQ I d' h2 ry o2.2;exact eq_dataH r1 r2 o1.1 o2.1 hr.units ⟨.bl _,H,I,rfl,q⟩
section
variable {X:Cx}{K:FG}
def jt(w w':W)(M:MH)(Q:QD):Prop:=∃ d d',xO M w d/\xO M w' d'/\eS d d'=true/\Q (.d (.bool (PyData.eqv d d'))) M
theorem gK:OpD K (λ x y H Q=>∃ d d',tT K H d x/\tT K H d' y/\eS d d'=true/\Q (.bl (PyData.eqv d d')) H) jt:=by intro x y H w w' M Qd Q r1 r2 m ⟨d,d',g1,g2,o1,q⟩ k;exact⟨d,d',g1.sound r1 m,g2.sound r2 m,o1,k _ H (.d (.bool _)) M (Kp.refl H) (by simp[aI,aD]) m q⟩
inductive vR(M:MH):W->List W->Prop
 | l {ds:List PyData}:vR M (.d (.list ds)) (ds.map W.d)
 | t {ds:List PyData}:vR M (.d (.tuple ds)) (ds.map W.d)
 | m {a:Addr} {ws:List W} (h:M a=some (.lst ws)):vR M (.m a) ws
theorem vR.sound(g:vR M w ws)(r:aI K H w x)(m:cn K H M):∃ p ys,x=.ref p/\(SqL K H p ys\/SqT K H p ys)/\aQ K H ws ys:=by
 cases g with
 | l =>
  simp only[aI,aD] at r;obtain⟨a,vs,e,hs,ra⟩:=r;exact⟨a,vs,e,.inl hs.sq,ra.ws⟩
 | t =>
  simp only[aI,aD] at r;obtain⟨a,vs,e,hs,ra⟩:=r;exact⟨a,vs,e,.inr hs,ra.ws⟩
 | m h =>
  obtain⟨vs,e,ra⟩:=m _ _ h;exact⟨_,vs,r,.inl (.inl (.inl e)),ra⟩
def jD(ws:List W)(M:MH)(Q:QD):Prop:=∃ w xs,ws=[w]/\vR M w xs/\∀ p,M p=none->Q (.m p) (aT M p (.lst xs))
theorem o5:fc K (λ xs H Q=>∃ p ys,xs=[.ref p]/\(SqL K H p ys\/SqT K H p ys)/\∀ l,H l=none->Q (.ref l) (upd H l (.lst ys))) jD:=by intro vs H ws M Qd Q r m ⟨w,xs,e,g,q⟩ k;subst e;obtain⟨v,e1,r1⟩:=hE r;obtain⟨p,ys,ev,hs,rs⟩:=g.sound r1 m;subst ev;refine⟨p,ys,e1,hs,λ l hl=>?_⟩;have kp:Kp H (upd H l (.lst ys)):=Kp.new hl;exact k _ _ (.m l) _ kp rfl (m.put (mo:=.lst xs) kp ⟨ys,av,rs.keep kp⟩) (q l (m.free hl))
def xj(zs:List Str):List W:=zs.map λ z=>.d (.str z)
theorem mQ:∀ {zs:List Str} {vs:List V},aQ K H (xj zs) vs->vs=zs.map V.str
 | [],_,h=>by cases h;rfl
 | z::zs,_,h=>by
  cases h with
  | cons r t =>
   simp only[aI,aD] at r;rw[r,mQ t];rfl
theorem qU(z:Str):∀ zs:List Str,inV (.str z) (zs.map V.str)=decide (z∈zs)
 | []=>rfl
 | y::zs=>by
  have h:inV (.str z) ((y::zs).map V.str)=((y==z) || inV (.str z) (zs.map V.str)):=rfl;rw[h,qU z zs]
  by_cases e:z=y
  ·subst e;simp
  ·have e':(y==z)=false:=by
    cases q:(y==z) with
    | false=>rfl
    | true=>exact absurd (eq_of_beq q).symm e
   rw[e'];simp[e]
theorem qm:∀ zs:List Str,(zs.map V.str).all iq=true
 | []=>rfl
 | _::zs=>by simp[iq]
def aae(neg:Bool)(w w':W)(M:MH)(Q:QD):Prop:=∃ z zs,w=.d (.str z)/\vR M w' (xj zs)/\Q (.d (.bool (if neg then !decide (z∈zs) else decide (z∈zs)))) M
theorem tK(neg:Bool):OpD K (rIn K neg) (aae neg):=by intro x y H w w' M Qd Q r1 r2 m ⟨z,zs,ew,g,q⟩ k;subst ew;simp only[aI,aD] at r1;subst r1;obtain⟨p,ys,ey,hs,rs⟩:=g.sound r2 m;have e:=mQ rs;subst e;refine⟨p,_,ey,hs,rfl,qm zs,?_⟩;rw[qU];exact k _ H (.d (.bool _)) M (Kp.refl H) (by simp[aI,aD]) m q
end
section
variable {X:Cx}{K:FG}
inductive yR(M:MH):W->List PyData->Prop
 | d {ds:List PyData}:yR M (.d (.list ds)) ds
 | m {a:Addr} {ds:List PyData} (h:M a=some (.lst (ds.map W.d))):yR M (.m a) ds
theorem yR.sound(g:yR M w ds)(r:aI K H w x)(m:cn K H M):∃ p ys,x=.ref p/\SqL K H p ys/\aV K H ds ys:=by
 cases g with
 | d =>
  simp only[aI,aD] at r;obtain⟨a,vs,e,hs,ra⟩:=r;exact⟨a,vs,e,hs.sq,ra⟩
 | m h =>
  obtain⟨vs,e,ra⟩:=m _ _ h;exact⟨_,vs,r,.inl (.inl e),ra.data⟩
end
abbrev aa4:=List W->DS->MH->(DS->MH->Prop)->Prop
def adi(K:FG)(g:aa4):TGs:=λ vs σ H Q=>∃ ws τ M Qd,aQ K H ws vs/\Abs K H σ τ M/\g ws τ M Qd/\∀ σ' H' τ' M',Kp H H'->Abs K H' σ' τ' M'->Qd τ' M'->Q σ' H'
abbrev xJ(X:Cx)(es:List Expr)(g:aa4):Prop:=PGs X es (adi X.K g)
theorem aaX(h:PGs X es g)(k:∀ v σ H Q,g' v σ H Q->g v σ H Q):PGs X es g':=λ pins s σ H v u Q I r q=>h pins s σ H v u Q I r (k v σ H Q q)
def i9(ws:List W)(τ:DS)(M:MH)(Q:DS->MH->Prop):Prop:=ws=[]/\Q τ M
def bo(g:TGd)(gs:aa4)(ws:List W)(τ:DS)(M:MH)(Q:DS->MH->Prop):Prop:=∃ w r,ws=w::r/\g w τ M λ τ' M'=>gs r τ' M' Q
theorem qq(h1:PGd X e g)(h2:xJ X es gs)(hs:(assignEach (e::es) X.env).map (·.2)=assign e X.env::(assignEach es X.env).map (·.2):=by rfl):xJ X (e::es) (bo g gs):=
 aaX (tR h1 h2 hs) λ vs σ H Q hq62=>by
  obtain⟨ws,τ,M,Qd,r,A,⟨w,wr,ew,q⟩,k⟩:=hq62;subst ew;cases r with
  | cons r1 r2 =>
   refine⟨_,_,rfl,w,τ,M,_,r1,A,q,λ σ1 H1 τ1 M1 kp1 A1 q1=>?_⟩;exact⟨wr,τ1,M1,Qd,aQ.keep kp1 r2,A1,q1,λ σ2 H2 τ2 M2 kp2 A2 q2=>k σ2 H2 τ2 M2 (kp1.trans kp2) A2 q2⟩
def gT(n:Nat)(gs:aa4)(w:W)(τ:DS)(M:MH)(Q:DS->MH->Prop):Prop:=∃ ds,w=.d (.tuple ds)/\ds.length=n/\gs (ds.map W.d) τ M Q
theorem vz(hc:X.calm=true)(h:xJ X es gs)(hn:(assignEach es X.env).length=n:=by rfl)(hst:(assignEach es X.env).findIdx? (·.1)=none:=by rfl):PGd X (.Tuple es k pos) (gT n gs):=
 abR (zv hc h hn hst) λ v σ H Q hq63=>by obtain⟨w,τ,M,Qd,r,A,⟨ds,ew,hl,q⟩,kk⟩:=hq63;subst ew;simp only[aI,aD] at r;obtain⟨a,vs,ev,hs,ra⟩:=r;exact⟨a,vs,ev,hs,by rw[ra.length];exact hl,ds.map W.d,τ,M,Qd,ra.ws,A,q,kk⟩
structure Mf(K:FG)(C:Addr)(x qual:Str)(st:Stmt)(ps:List Str)(f:Addr)(fd:FuncData):Prop where
 fn:Fun K x qual st f fd
 me:Meth K C x f
 bd:Binds K fd ps []
structure Mi(K:FG)(C:Addr)(qual:Str)(st:Stmt)(ps:List Str)(f:Addr)(fd:FuncData):Prop where
 fn:Fun K "__init__" qual st f fd
 mi:Mk K C f
 bd:Binds K fd ps []
section
variable {K:FG}{C:Addr}
theorem aaN{x qual:Str}{st:Stmt}{ps:List Str}{oc:Value}{od an:Option Addr}{osl:Array (Option Value)}{kV doc pm cdv ct:Value}(a:W.findIn K (.ref C) x=some (some (.ref f)))(i:W.isFn K (.ref f)=true)
  (l:K.lookup f=some ⟨oc,od,.func (W.fnOf x qual (aU st) (aM st) (aq st) .none kV doc pm an cdv ct),osl⟩)(c:W.codeIn K cdv qual=true)(k:W.keepIn K (.ref f)=true)
  (b:∀ (kV doc pm:Value) (an:Option Addr) (cdv ct:Value) (us:List Value),us.length=ps.length->bindArgs (W.fnOf x qual (aU st) (aM st) (aq st) .none kV doc pm an cdv ct) ⟨us,[]⟩=pure (ps.zip us)) :
  Mf K C x qual st ps f (W.fnOf x qual (aU st) (aM st) (aq st) .none kV doc pm an cdv ct):=
 have F:=qH (st:=st) l c k
 ⟨F,⟨a,i,k⟩,F.binds b⟩
theorem acn{qual:Str}{st:Stmt}{ps:List Str}{oc:Value}{od an:Option Addr}{osl:Array (Option Value)}{kV doc pm cdv ct:Value}(a:W.findIn K (.ref C) "__init__" = some (some (.ref f)))(i:W.isFn K (.ref f)=true)
  (l:K.lookup f=some ⟨oc,od,.func (W.fnOf "__init__" qual (aU st) (aM st) (aq st) .none kV doc pm an cdv ct),osl⟩)(c:W.codeIn K cdv qual=true)(k:W.keepIn K (.ref f)=true)
  (mk:W.makesIn K C=true)(kc:W.keepIn K (.ref C)=true)
  (b:∀ (kV doc pm:Value) (an:Option Addr) (cdv ct:Value) (us:List Value),us.length=ps.length->bindArgs (W.fnOf "__init__" qual (aU st) (aM st) (aq st) .none kV doc pm an cdv ct) ⟨us,[]⟩=pure (ps.zip us)) :
  Mi K C qual st ps f (W.fnOf "__init__" qual (aU st) (aM st) (aq st) .none kV doc pm an cdv ct):=
 have F:=qH (st:=st) l c k
 ⟨F,⟨mk,a,i,kc⟩,F.binds b⟩
end
theorem pcT(hc:eA X (.type T) r)(hd:fc X.K r rd)(hg:Gl X x)(hm:X.mg x=none)(hv:bootBuiltins x=some (.type T))(ha:PAd X (e::es) t)(hn:x ≠ "__name__":= by decide)(hdb:ND x:=by decide)
  (h1:eM e=false:=by rfl)(h2:(es.all λ e=>!eM e)=true:=by rfl):PD X (.Call (.Name x p) (e::es) [] pos) (dCB rd t):=sj hc hd hg hm hv ha hn hdb (df e es X.env h1) (dt pos X.env es h2)
theorem oe  : Jd (PD X (.Dict [] [] pos) ml):=⟨eW tP λ σ H Q ⟨τ,M,Qd,A,h,k⟩ p hp =>
 k (.ref p) _ (.m p) (aT M p (.dic [])) (Kp.new hp) rfl (A.mem.put (mo:=.dic []) (Kp.new hp) ⟨[],av,.nil⟩) (h p (A.mem.free hp))⟩
theorem bA(hu:X.A.units+1<cLine)(ho:Jd (PD X o td))(hi:Jd (PD X i ti))(hs:aa6 i:=by exact λ _ _=>rfl):Jd (PD X (.Subscript o i pos) (cT td ti)):=⟨D.xx (hu:=hu) (ho:=ho.h) (hi:=hi.h) (hs:=hs)⟩
theorem dN(hu:X.A.units+1<cLine)(ho:Jd (PD X o td))(hi:Jd (PD X i ti))(hv:Jd (PD X value tv))(hs:swapsWith value (some (.Subscript o i pos')) pos.line X.env=pure false:=by rfl):Jd (PSd X (.Assign [.Subscript o i pos'] value pos) (j7 td ti tv)):=⟨D.sM (hu:=hu) (ho:=ho.h) (hi:=hi.h) (hv:=hv.h) (hs:=hs)⟩
theorem cg(c:Cls X.K C)(n:cH X.K C fn)(he:Jd (PD X e td))(hb:attributeBase e fn X.env (eval e X.env)=eval e X.env:=by rfl):Jd (PD X (.Attribute e fn pos) (mw C td fn)):=⟨D.aam (c:=c) (n:=n) (he:=he.h) (hb:=hb)⟩
theorem eT(c:Cls X.K C)(n:cH X.K C fn)(ha:Jd (PD X o td))(hv:Jd (PD X value tv))(hs:swapsWith value (some (.Attribute o fn pos')) pos.line X.env=pure false:=by rfl):Jd (PSd X (.Assign [.Attribute o fn pos'] value pos) (dG C td tv fn)):=⟨D.vH (c:=c) (n:=n) (ha:=ha.h) (hv:=hv.h) (hs:=hs)⟩
theorem cp(he:Jd (PD X o td))(c:Cls X.K C)(hm:Meth X.K C m f)(F:cR X.prog X.w X.K X.mg X.base CX0 k f fd ps (dy X.K sp))(hr:cj k X.A)(hb:Binds X.K fd ps [])(ha:Jd (PAd X (e::es) t))(ht:eval (.Call (.Attribute o m apos) (e::es) [] pos) X.env=(do
   let ov <- eval o X.env
   standAt apos.atName
   let (f,first) <- holding [ov] (getMethod ov m pl)
   callWith pos f first (backTo pos (starEach (e::es) X.env)) (backToKw pos (keywordEach [] X.env))):=by rfl)(h1:eM e=false:=by rfl)(h2:(es.all λ e=>!eM e)=true:=by rfl):Jd (PD X (.Call (.Attribute o m apos) (e::es) [] pos) (cY C m sp td t)):=⟨D.yb (he:=he.h) (c:=c) (hm:=hm) (F:=F) (hr:=hr) (hb:=hb) (ha:=ha.h) (ht:=ht) (h1:=h1) (h2:=h2)⟩
theorem qD(he:Jd (PD X o td))(c:Cls X.K C)(hm:Meth X.K C m f)(F:cR X.prog X.w X.K X.mg X.base CX0 k f fd ps (dy X.K sp))(hr:cj k X.A)(hb:Binds X.K fd ps [])(ht:eval (.Call (.Attribute o m apos) [] [] pos) X.env=(do
   let ov <- eval o X.env
   standAt apos.atName
   let (f,first) <- holding [ov] (getMethod ov m pl)
   callWith pos f first (backTo pos (starEach [] X.env)) (backToKw pos (keywordEach [] X.env))):=by rfl):Jd (PD X (.Call (.Attribute o m apos) [] [] pos) (cY C m sp td aR)):=⟨D.sX (he:=he.h) (c:=c) (hm:=hm) (F:=F) (hr:=hr) (hb:=hb) (ht:=ht)⟩
theorem sI(Mk':Mk X.K C f)(F:cR X.prog X.w X.K X.mg X.base CX0 k f fd ps (dy X.K sp))(hr:cj (k+1) X.A)(hg:Gl X x)(hm:X.mg x=some (.ref C))(hb:Binds X.K fd ps [])(ha:Jd (PAd X (e::es) t))(hdb:ND x:=by decide)(h1:eM e=false:=by rfl)(h2:(es.all λ e=>!eM e)=true:=by rfl):Jd (PD X (.Call (.Name x p) (e::es) [] pos) (tp C sp t)):=⟨D.xk (Mk':=Mk') (F:=F) (hr:=hr) (hg:=hg) (hm:=hm) (hb:=hb) (ha:=ha.h) (hdb:=hdb) (h1:=h1) (h2:=h2)⟩
theorem jS(h:Jd (PD X e td)):Jd (PD X e (lC td)):=⟨D.wb (h:=h.h)⟩
theorem cX(ho:Jd (PD X o td))(he:Jd (PD X e te))(hbase:attributeBase o "append" X.env (eval o X.env)=eval o X.env:=by rfl)(hfew:((backTo cpos (starEach [e] X.env)).all (λ x=>!x.1)&&(backToKw cpos (keywordEach [] X.env)).all (λ x=>x.1.isSome)
   && decide (([e]:List Expr).length+([]:List Keyword).length+(if ([]:List Keyword).isEmpty then 0 else 1)<30))=true:=by rfl)(hline:(apos.endLine==cpos.line)=true:=by rfl)(hs:eM e=false:=by rfl):Jd (PD X (.Call (.Attribute o "append" apos) [e] [] cpos) (cL td te)):=⟨D.qZ (ho:=ho.h) (he:=he.h) (hbase:=hbase) (hfew:=hfew) (hline:=hline) (hs:=hs)⟩
theorem dJ  : Jd (xJ X [] i9):=⟨aaX wY λ vs σ H Q hq61=>by obtain⟨ws,τ,M,Qd,r,A,⟨e,q⟩,k⟩:=hq61;subst e;cases r;exact⟨rfl,k σ H τ M (Kp.refl H) A q⟩⟩
theorem aO(h1:Jd (PGd X e g))(h2:Jd (xJ X es gs))(hs:(assignEach (e::es) X.env).map (·.2)=assign e X.env::(assignEach es X.env).map (·.2):=by rfl):Jd (xJ X (e::es) (bo g gs)):=⟨D.qq (h1:=h1.h) (h2:=h2.h) (hs:=hs)⟩
theorem eK(hc:X.calm=true)(h:Jd (xJ X es gs))(hn:(assignEach es X.env).length=n:=by rfl)(hst:(assignEach es X.env).findIdx? (·.1)=none:=by rfl):Jd (PGd X (.Tuple es k pos) (gT n gs)):=⟨D.vz (hc:=hc) (h:=h.h) (hn:=hn) (hst:=hst)⟩
theorem acH(hc:eA X (.type T) r)(hd:fc X.K r rd)(hg:Gl X x)(hm:X.mg x=none)(hv:bootBuiltins x=some (.type T))(ha:Jd (PAd X (e::es) t))(hn:x ≠ "__name__":= by decide)(hdb:ND x:=by decide)(h1:eM e=false:=by rfl)(h2:(es.all λ e=>!eM e)=true:=by rfl):Jd (PD X (.Call (.Name x p) (e::es) [] pos) (dCB rd t)):=⟨D.pcT (hc:=hc) (hd:=hd) (hg:=hg) (hm:=hm) (hv:=hv) (ha:=ha.h) (hn:=hn) (hdb:=hdb) (h1:=h1) (h2:=h2)⟩
@[simp] theorem aal (i j:Int):eS (.int i) (.int j)=true:=rfl
@[simp] theorem yP (x y:Str):eS (.str x) (.str y)=true:=rfl
@[simp] theorem yq (x y:Bool):eS (.bool x) (.bool y)=true:=rfl
@[simp] theorem rB (i j:Int):PyData.eqv (.int i) (.int j)=(i==j):=by rw[PyData.eqv]
@[simp] theorem ab1 (i j:Str):PyData.eqv (.str i) (.str j)=(i==j):=by rw[PyData.eqv]
@[simp] theorem acK (a:Addr):yz (.m a)=true:=rfl
@[simp] theorem zI (ds:List PyData):yz (.d (.list ds))=true:=rfl
@[simp] theorem yu (ds:List PyData):yz (.d (.tuple ds))=true:=rfl
@[simp] theorem aa0 (n:Nat):ixN (n+1) 0=some 0:=by unfold ixN;simp
theorem oU{α:Type}{xs:List α}{i:Int}(h0:0<=i)(h1:i<xs.length):atI xs i=some (xs[i.toNat]'(by omega)):=by
 unfold atI ixN;rw[if_pos h0,if_pos h1];simp
inductive Bag(M:MH) (p:Addr):Prop
 | mk (a b c:Int) (ns:List Int) (e:M p=some (.lst [.d (.int a),.d (.int b),.d (.int c),.d (.list (ns.map PyData.int))])) (z:0<=a/\0<=b/\b<2147483647/\0<=c/\(∀ n∈ns,0<=n)):Bag M p
def b9:SpD:=λ ws M Q=>∃ ns:List Int,ws=[.d (.list (ns.map PyData.int))]/\ns.length<=1000/\∀ p M',M p=none->(∀ q,q≠p->M' q=M q)->Bag M' p->Q (.m p) M'
inductive ke(ws:List W) (M:MH) (Q:QD):Prop
 | mk (p:Addr) (n:Int) (z0:ws=[.m p,.d (.int n)]) (z1:Bag M p) (z2:0<n) (z3:n<1073741824) (z4:∀ (r:Int) M',0<=r->r<n->Bag M' p->(∀ q,q≠p->M' q=M q)->Q (.d (.int r)) M'):ke ws M Q
def ay:SpD:=ke
theorem qt:∀ ws M Q,b9 ws M Q->ws.length=1:=by rintro ws M Q ⟨ns,rfl,_⟩;rfl
theorem nH:∀ ws M Q,ay ws M Q->ws.length=2:=by rintro ws M Q ⟨p,n,rfl,_⟩;rfl
theorem nF(hm:M p=some (.lst ws))(h:atI ws i=some x):ixW M (.m p) i=some x:=by simp only[ixW,hm];exact h
theorem eJ{c:Bool}{A B:Prop}(h1:c=true->A)(h2:c=false->B):if c=true then A else B:=by
 cases c with
 | true=>rw[if_pos rfl];exact h1 rfl
 | false=>rw[if_neg Bool.false_ne_true];exact h2 rfl
abbrev rp:List Str:=["_law_script"]
def qB:TSd:=
  jL (fN (aa (dC (.d (.int 0))) (aa (dC (.d (.int 1234567891))) (aa (dC (.d (.int 0))) (aa (dLC (bV (dSl (ai 0) (i8) (qb (dC (.d (.int 63)))))) (gN 0) (oF) (dCB y9 (aa (ai 0) (aR))) 1 []) (aR))))))
abbrev mJ:List Str:=["_law_bag_here", "_law_many", "_law_cell", "_law_value", "_law_first", "_law_second"]
def mU:TSd:=
  bb (dIf (bP (dOp acF (dOp du (ai 0) (dC (.d (.int 0)))) (dC (.d (.int 0)))))
   (bb (bR (dC (.d (.int 0))) (gN 2)) <|
   bb (dIf (bP (dOp yH (dOp du (ai 0) (dC (.d (.int 2)))) (dCB gu (aa (dOp du (ai 0) (dC (.d (.int 3)))) (aR)))))
    (bR (dOp du (dOp du (ai 0) (dC (.d (.int 3)))) (dOp du (ai 0) (dC (.d (.int 2))))) (gN 2))
    (dM)) <|
   bb (tS (ai 0) (dC (.d (.int 2))) (dC (.d (.int 1))) (λ i j=>i+j)) <|
   bb (dIf (bP (dOp abF (ai 2) (dC (.d (.int 1000000000000000000)))))
    (bR (ai 2) (lA (ai 0) (dC (.d (.int 0)))))
    (dM)) <|
   bR (dOp c9 (dOp bC (dOp bC (dOp eB (dOp du (ai 0) (dC (.d (.int 1)))) (dC (.d (.int 48271)))) (dOp c9 (ai 2) (dC (.d (.int 2147483647))))) (dOp eB (dC (.d (.int 7919))) (dOp du (ai 0) (dC (.d (.int 2)))))) (dC (.d (.int 2147483647)))) (lA (ai 0) (dC (.d (.int 1)))))
   (dM)) <|
  bb (dIf (bP (dOp aaS (dOp du (ai 0) (dC (.d (.int 0)))) (dC (.d (.int 0)))))
   (bb (bR (dOp c9 (dOp du (ai 0) (dC (.d (.int 0)))) (ai 1)) (gN 3)) <|
   bb (bR (dOp qN (dOp du (ai 0) (dC (.d (.int 0)))) (ai 1)) (lA (ai 0) (dC (.d (.int 0))))) <|
   jL (ai 3))
   (dM)) <|
  bb (bR (dOp c9 (dOp eB (dOp bC (dOp du (ai 0) (dC (.d (.int 1)))) (dC (.d (.int 1)))) (dC (.d (.int 39373)))) (dC (.d (.int 1000000007)))) (gN 4)) <|
  bb (bR (dOp c9 (dOp eB (dOp c9 (dOp eB (ai 4) (ai 4)) (dC (.d (.int 998244353)))) (dC (.d (.int 30011)))) (dC (.d (.int 998244353)))) (gN 5)) <|
  bb (dIf (bP (dOp aaS (ai 1) (dC (.d (.int 1000000)))))
   (jL (dOp c9 (dOp bC (dOp eB (ai 5) (dC (.d (.int 1000000007)))) (ai 4)) (ai 1)))
   (dM)) <|
  jL (dOp c9 (dOp qN (ai 5) (dC (.d (.int 7)))) (ai 1))
abbrev uf(a b c:Int)(ns:List Int):List W:=[.d (.int a),.d (.int b),.d (.int c),.d (.list (ns.map PyData.int))]
theorem ff(hm:M p=some (.lst (uf a b c ns)))(ha:0<=a)(hb:0<=b)(hb2:b<2147483647)(hc:0<=c)(hns:∀ n∈ns,0<=n)(hn:0<n)(hn2:n<1073741824)
  (k:∀ (r:Int) M',0<=r->r<n->Bag M' p->(∀ q,q≠p->M' q=M q)->Q (.d (.int r)) M')(hD:D.rt=Q) :
  (bb (dIf (bP (dOp aaS (dOp du (ai 0) (dC (.d (.int 0)))) (dC (.d (.int 0)))))
   (bb (bR (dOp c9 (dOp du (ai 0) (dC (.d (.int 0)))) (ai 1)) (gN 3)) <|
   bb (bR (dOp qN (dOp du (ai 0) (dC (.d (.int 0)))) (ai 1)) (lA (ai 0) (dC (.d (.int 0))))) <|
   jL (ai 3))
   (dM)) <|
  bb (bR (dOp c9 (dOp eB (dOp bC (dOp du (ai 0) (dC (.d (.int 1)))) (dC (.d (.int 1)))) (dC (.d (.int 39373)))) (dC (.d (.int 1000000007)))) (gN 4)) <|
  bb (bR (dOp c9 (dOp eB (dOp c9 (dOp eB (ai 4) (ai 4)) (dC (.d (.int 998244353)))) (dC (.d (.int 30011)))) (dC (.d (.int 998244353)))) (gN 5)) <|
  bb (dIf (bP (dOp aaS (ai 1) (dC (.d (.int 1000000)))))
   (jL (dOp c9 (dOp bC (dOp eB (ai 5) (dC (.d (.int 1000000007)))) (ai 4)) (ai 1)))
   (dM)) <|
  jL (dOp c9 (dOp qN (ai 5) (dC (.d (.int 7)))) (ai 1))) D [some (.m p),some (.d (.int n)),x,none,none,none] M:=by
 subst hD;have i0:ixW M (.m p) 0=some (.d (.int a)):=nF hm rfl;have i1:ixW M (.m p) 1=some (.d (.int b)):=nF hm rfl;have same:Bag M p:=⟨a,b,c,ns,hm,ha,hb,hb2,hc,hns⟩;refine⟨_,rfl,_,_,rfl,i0,rfl,_,_,rfl,rfl,_,rfl,?_⟩;refine eJ (λ h=>?_) (λ h=>?_)
 ·have h0:0<a:=of_decide_eq_true h;refine⟨_,rfl,_,_,rfl,i0,rfl,_,rfl,_,_,rfl,rfl,hn,?_⟩;refine⟨_,rfl,_,_,rfl,i0,rfl,_,rfl,_,_,rfl,rfl,⟨hn,hn2⟩,?_⟩;refine⟨_,rfl,_,_,_,_,rfl,rfl,hm,rfl,?_⟩;refine⟨_,rfl,?_⟩;refine k _ _ (Int.emod_nonneg _ (by omega)) (Int.emod_lt_of_pos _ hn) ⟨a / n,b,c,ns,aw,Int.ediv_nonneg ha (by omega),hb,hb2,hc,hns⟩ λ q hq=>ax hq
 ·refine⟨_,rfl,_,_,rfl,i1,rfl,.inl ?_⟩;refine⟨_,_,rfl,rfl,_,_,rfl,rfl,.inl ⟨by omega,by omega⟩,_,_,rfl,rfl,(by decide:(0:Int)<1000000007),?_⟩;have f0:0<=(b+1) * 39373 % 1000000007:=Int.emod_nonneg _ (by decide);have f1:(b+1) * 39373 % 1000000007<1000000007:=Int.emod_lt_of_pos _ (by decide);refine⟨_,rfl,_,rfl,_,_,rfl,rfl,.inl ⟨by omega,by omega⟩,_,_,rfl,rfl,(by decide:(0:Int)<998244353),?_⟩;have g0:0<=(b+1) * 39373 % 1000000007 * ((b+1) * 39373 % 1000000007) % 998244353:=Int.emod_nonneg _ (by decide);have g1:(b+1) * 39373 % 1000000007 * ((b+1) * 39373 % 1000000007) % 998244353<998244353:=Int.emod_lt_of_pos _ (by decide);refine⟨_,_,rfl,rfl,.inl ⟨by omega,by omega⟩,_,_,rfl,rfl,(by decide:(0:Int)<998244353),?_⟩;have e0:0<=(b+1) * 39373 % 1000000007 * ((b+1) * 39373 % 1000000007) % 998244353 * 30011 % 998244353:=Int.emod_nonneg _ (by decide);have e1:(b+1) * 39373 % 1000000007 * ((b+1) * 39373 % 1000000007) % 998244353 * 30011 % 998244353<998244353:=Int.emod_lt_of_pos _ (by decide);refine⟨_,rfl,_,_,rfl,rfl,_,rfl,?_⟩;refine eJ (λ h=>?_) (λ h=>?_)
  ·refine⟨_,rfl,_,_,rfl,rfl,.inl ⟨by omega,by omega⟩,_,rfl,.inl ⟨_,_,rfl,rfl,_,rfl,_,_,rfl,rfl,hn,?_⟩⟩;exact k _ _ (Int.emod_nonneg _ (by omega)) (Int.emod_lt_of_pos _ hn) same λ q _=>rfl
  ·refine⟨_,rfl,_,_,rfl,rfl,⟨by decide,by decide⟩,_,rfl,_,_,rfl,rfl,hn,?_⟩;exact k _ _ (Int.emod_nonneg _ (by omega)) (Int.emod_lt_of_pos _ hn) same λ q _=>rfl
theorem iX(hm:M p=some (.lst (uf a b c ns)))(ha:0<=a)(hb:0<=b)(hb2:b<2147483647)(hc:0<=c)(hcell:0<=cell)
  (k:∀ a' b' c' M',0<=a'->0<=b'->b'<2147483647->0<=c'->M' p=some (.lst (uf a' b' c' ns))->(∀ q,q≠p->M' q=M q)->D.nx [some (.m p),some (.d (.int n)),some (.d (.int cell)),none,none,none] M') :
  (bb (tS (ai 0) (dC (.d (.int 2))) (dC (.d (.int 1))) (λ i j=>i+j)) <|
   bb (dIf (bP (dOp abF (ai 2) (dC (.d (.int 1000000000000000000)))))
    (bR (ai 2) (lA (ai 0) (dC (.d (.int 0)))))
    (dM)) <|
   bR (dOp c9 (dOp bC (dOp bC (dOp eB (dOp du (ai 0) (dC (.d (.int 1)))) (dC (.d (.int 48271)))) (dOp c9 (ai 2) (dC (.d (.int 2147483647))))) (dOp eB (dC (.d (.int 7919))) (dOp du (ai 0) (dC (.d (.int 2)))))) (dC (.d (.int 2147483647)))) (lA (ai 0) (dC (.d (.int 1)))))
   D [some (.m p),some (.d (.int n)),some (.d (.int cell)),none,none,none] M:=by
 refine⟨_,rfl,_,_,_,_,_,rfl,rfl,hm,rfl,rfl,_,rfl,rfl,?_⟩;have m1:aT M p (.lst (uf a b (c+1) ns)) p=some (.lst (uf a b (c+1) ns)):=aw;have f1:∀ q,q≠p->aT M p (.lst (uf a b (c+1) ns)) q=M q:=λ q hq=>ax hq;show(bb _ _) D _ (aT M p (.lst (uf a b (c+1) ns)));generalize aT M p (.lst (uf a b (c+1) ns))=M1 at m1 f1;have fin:∀ (a':Int) (M2:MH),0<=a'->M2 p=some (.lst (uf a' b (c+1) ns))->(∀ q,q≠p->M2 q=M q) ->
   bR (dOp c9 (dOp bC (dOp bC (dOp eB (dOp du (ai 0) (dC (.d (.int 1)))) (dC (.d (.int 48271)))) (dOp c9 (ai 2) (dC (.d (.int 2147483647))))) (dOp eB (dC (.d (.int 7919))) (dOp du (ai 0) (dC (.d (.int 2)))))) (dC (.d (.int 2147483647)))) (lA (ai 0) (dC (.d (.int 1)))) D [some (.m p),some (.d (.int n)),some (.d (.int cell)),none,none,none] M2:=by
  intro a' M2 ha' m2 f2;have i1:ixW M2 (.m p) 1=some (.d (.int b)):=nF m2 rfl;have i2:ixW M2 (.m p) 2=some (.d (.int (c+1))):=nF m2 rfl;refine⟨_,rfl,_,_,rfl,i1,rfl,_,_,rfl,rfl,.inl ⟨by omega,by omega⟩,_,rfl,_,_,rfl,rfl,(by decide:(0:Int)<2147483647),.inl ?_⟩;refine⟨_,_,rfl,rfl,_,rfl,_,_,rfl,i2,rfl,_,_,rfl,rfl,.inl ⟨by decide,by decide⟩,.inl ?_⟩;refine⟨_,_,rfl,rfl,_,_,rfl,rfl,(by decide:(0:Int)<2147483647),_,rfl,_,_,_,_,rfl,rfl,m2,rfl,?_⟩;exact k a' _ (c+1) _ ha' (Int.emod_nonneg _ (by decide)) (Int.emod_lt_of_pos _ (by decide)) (by omega) aw λ q hq=>(ax hq).trans (f2 q hq)
 refine⟨_,rfl,_,_,rfl,rfl,_,rfl,?_⟩;refine eJ (λ h=>?_) (λ h=>?_)
 ·refine⟨_,rfl,_,rfl,_,_,_,_,rfl,rfl,m1,rfl,?_⟩;exact fin cell _ hcell aw λ q hq=>(ax hq).trans (f1 q hq)
 ·exact fin a M1 ha m1 f1
theorem lX:∀ ws M Q,ay ws M Q->mU {nx:=λ _ M'=>Q (.d .none) M',rt:=Q} (bG mJ ws) M:=by
 rintro ws M Q ⟨p,n,rfl,⟨a,b,c,ns,hm,ha,hb,hb2,hc,hns⟩,hn,hn2,k⟩;have i0:ixW M (.m p) 0=some (.d (.int a)):=nF hm rfl;have i2:ixW M (.m p) 2=some (.d (.int c)):=nF hm rfl;have i3:ixW M (.m p) 3=some (.d (.list (ns.map PyData.int))):=nF hm rfl;refine⟨_,rfl,_,_,rfl,i0,rfl,_,_,rfl,rfl,rfl,_,rfl,?_⟩;refine eJ (λ h=>?_) (λ h=>?_)
 ·refine⟨_,rfl,_,_,rfl,i2,rfl,_,rfl,_,_,rfl,i3,rfl,_,_,rfl,rfl,rfl,_,_,rfl,rfl,_,rfl,?_⟩;refine eJ (λ h=>?_) (λ h=>?_)
  ·have hlt:c<((ns.map PyData.int).length:Nat):=of_decide_eq_true h;have hlt':c.toNat<ns.length:=by rw[List.length_map] at hlt;omega
   have ic:ixW M (.d (.list (ns.map PyData.int))) c=some (.d (.int (ns[c.toNat]'hlt'))):=by simp only[ixW];rw[oU hc hlt];simp
   refine⟨_,rfl,_,_,rfl,i3,rfl,_,rfl,_,_,rfl,i2,rfl,_,_,rfl,ic,rfl,?_⟩;refine iX (cell:=ns[c.toNat]'hlt') hm ha hb hb2 hc (hns _ (List.getElem_mem _)) λ a' b' c' M' h1 h2 h3 h4 h5 h6=>?_;exact ff (x:=some (.d (.int (ns[c.toNat]'hlt')))) h5 h1 h2 h3 h4 hns hn hn2 (λ r M'' r0 r1 bg fr=>k r M'' r0 r1 bg λ q hq=>(fr q hq).trans (h6 q hq)) rfl
  ·refine iX (cell:=0) hm ha hb hb2 hc (Int.le_refl 0) λ a' b' c' M' h1 h2 h3 h4 h5 h6=>?_;exact ff (x:=some (.d (.int 0))) h5 h1 h2 h3 h4 hns hn hn2 (λ r M'' r0 r1 bg fr=>k r M'' r0 r1 bg λ q hq=>(fr q hq).trans (h6 q hq)) rfl
 ·exact ff (x:=none) hm ha hb hb2 hc hns hn hn2 k rfl
theorem pV{ws:List W}{i:Nat}(h:ws[i]? =some w):(ws.take (i+1)).filterMap f=(ws.take i).filterMap f++(f w).toList:=by rw[List.take_add_one,h,List.filterMap_append];cases e:f w<;>simp[e]
theorem jg{tt:TTd}{te:TD}{fr:List Nat}{τ:DS}{M:MH}{Q:List PyData->MH->Prop}{ws:List W}(f:W->Option PyData)(hl:ws.length<=sizeLine)
  (step:∀ w∈ws,∀ P':Option PyData->Prop,P' (f w)->tt (some w::fr.map λ j=>(τ[j]?).getD none) M λ b M3=>if b=true then te (some w::fr.map λ j=>(τ[j]?).getD none) M3 λ y M4=>∃ d,y=.d d/\M4=M/\P' (some d) else M3=M/\P' none)
  (q:Q (ws.filterMap f) M):∃ P:Nat->List PyData->DS->MH->Prop,P 0 [] (uQ 1 fr τ) M /\
   (∀ i w acc τ M,ws[i]? =some w->P i acc τ M->acc.length<sizeLine/\gN 0 w τ M λ τ2 M2=>tt τ2 M2 λ b M3=>if b=true then te τ2 M3 λ y M4=>∃ d,y=.d d/\P (i+1) (acc++[d]) τ2 M4 else P (i+1) acc τ2 M3) /\
   ∀ acc τ M,P ws.length acc τ M->Q acc M:=by
 let Pk:Nat->List PyData->DS->Prop:=λ i acc τ'=>i<=ws.length/\acc=(ws.take i).filterMap f/\∃ x,τ'=x::fr.map λ j=>(τ[j]?).getD none
 refine⟨λ i acc τ' M'=>M'=M/\Pk i acc τ',⟨rfl,Nat.zero_le _,rfl,none,rfl⟩,λ i w acc τ' M' hw hp=>?_,λ acc τ' M' hp=>?_⟩
 ·obtain⟨rfl,hi,rfl,x,rfl⟩:=hp;have hlt:i<ws.length:=(List.getElem?_eq_some_iff.mp hw).1;refine⟨?_,step w (List.mem_of_getElem? hw) (λ o=>match o with
   | some d=>Pk (i+1) ((ws.take i).filterMap f++[d]) (some w::fr.map λ j=>(τ[j]?).getD none)
   | none=>Pk (i+1) ((ws.take i).filterMap f) (some w::fr.map λ j=>(τ[j]?).getD none)) ?_⟩
  ·have h1:=List.length_filterMap_le f (ws.take i);rw[List.length_take] at h1;omega
  ·cases e:f w with
   | some d=>exact⟨hlt,by rw[pV hw,e];rfl,_,rfl⟩
   | none=>exact⟨hlt,by rw[pV hw,e];simp,_,rfl⟩
 ·obtain⟨rfl,hi,rfl,x,rfl⟩:=hp;rw[List.take_of_length_le (Nat.le_refl _)];exact q
theorem aav{α:Type}(g:α->W)(f:W->Option PyData)(h:α->PyData)(e:∀ a,f (g a)=some (h a))(l:List α):(l.map g).filterMap f=l.map h:=by
 induction l with
 | nil=>rfl
 | cons a l ih=>rw[List.map_cons,List.filterMap_cons,e,ih];rfl
theorem nV:∀ ws M Q,b9 ws M Q->qB {nx:=λ _ M'=>Q (.d .none) M',rt:=Q} (bG rp ws) M:=by
 rintro ws M Q ⟨ns,rfl,hl,k⟩;refine⟨_,rfl,_,rfl,_,rfl,rfl,_,rfl,?_⟩;have ec:cutD (ns.map PyData.int) none (some 63)=(cutD ns none (some 63)).map PyData.int:=by simp only[cutD,List.length_map,List.map_take,List.map_drop]
 have hlen:(cutD ns none (some 63)).length<=ns.length:=by simp only[cutD,List.length_take,List.length_drop];omega
 have h1000:(1000:Nat)<=sizeLine:=by rw[sizeLine_eq];decide
 dsimp only;refine jg (λ w=>match w with
  | .d (.int n)=>some (.int (if n<0 then -n else n))
  | _=>none) ?hl (λ w hw P' hp=>?_) ?_
 case hl=>rw[List.length_map,ec,List.length_map];omega
 ·rw[ec,List.map_map] at hw;obtain⟨n,_,rfl⟩:=List.mem_map.mp hw;exact⟨_,rfl,_,rfl,_,rfl,rfl,hp⟩
 ·have e2:(List.map W.d (cutD (ns.map PyData.int) none (some 63))).filterMap (λ w=>match w with
    | .d (.int n)=>some (PyData.int (if n<0 then -n else n))
    | _=>none)=((cutD ns none (some 63)).map λ n=>if n<0 then -n else n).map PyData.int:=by
   rw[ec,List.map_map,aav (W.d ∘ PyData.int) _ (λ n=>PyData.int (if n<0 then -n else n)) (λ n=>rfl),List.map_map];rfl
  rw[e2];refine⟨by simp[sizeLine_eq],λ p hp=>k p _ hp (λ q hq=>ax hq) ⟨0,1234567891,0,_,aw,Int.le_refl 0,by decide,by decide,Int.le_refl 0,λ n hn=>?_⟩⟩;obtain⟨m,_,rfl⟩:=List.mem_map.mp hn
  split<;>omega
def vP(z:Str):Bool:=z.cps.all (·<128)
theorem s16:(1000000:Nat)<=sizeLine:=by rw[sizeLine_eq];decide
def Asc(z:Str):Prop:=∀ c∈z.cps.toList,c<128
theorem vA(h:z.cps.all (·<128)=true):Asc z:=by
 intro c hc;have:=Array.all_eq_true_iff_forall_mem.mp h c (by simpa using hc)
 simpa using this
theorem Inv.swap(I:Inv X pins σ H s)(h:H a=some u)(n1:∀ xs,u ≠ .tup xs)(n2:∀ x,u ≠ .own x)(b1:∀ xs,X.H₀ a≠some (.tup xs))(b2:∀ o v,X.H₀ a≠some (.frz o v))(b3:∀ ps,X.H₀ a≠some (.tbl ps))
  (new:bX X.prog X.w (upd H a u') s.heap a u'):Inv X pins σ (upd H a u') s:=by
 have nn:∀ b,H b=none->b≠a:=λ b e z=>by rw[z,h] at e;cases e
 refine⟨I.ok,I.os,I.bare,⟨I.base.keep,I.base.slot,λ b ob q n x=>?_,I.base.there,λ b xs q=>?_,λ b ob v q=>?_,λ b ps q=>?_⟩,I.loc,I.cell,?_,λ x c q=>?_,λ p hp=>?_,λ b v q=>?_,I.len⟩
 ·have:=I.base.free b ob q n x;rw[aj (nn b this)];exact this
 ·rw[aj (λ z:b=a=>b1 xs (by rw[<- z];exact q))];exact I.base.mE b xs q
 ·rw[aj (λ z:b=a=>b2 ob v (by rw[<- z];exact q))];exact I.base.frzs b ob v q
 ·rw[aj (λ z:b=a=>b3 ps (by rw[<- z];exact q))];exact I.base.tbls b ps q
 ·rw[aj (nn _ I.free)];exact I.free
 ·have:=I.freeC x c q;rw[aj (nn c this)];exact this
 ·obtain⟨p1,p2,p3⟩:=I.pin p hp;exact⟨p1,by rw[aj (nn _ p2)];exact p2,p3⟩
 ·by_cases hb:b=a
  ·subst hb;rw[av] at q;cases q;exact new
  ·rw[aj hb] at q;refine(I.hok b v q).oW (λ _ _ _ q=>q) (λ c r=>?_) λ c xs r=>?_
   ·rw[aj (λ z=>by rw[z,h] at r;exact n2 _ (Option.some.inj r))];exact r
   ·rw[aj (λ z=>by rw[z,h] at r;exact n1 _ (Option.some.inj r))];exact r
section
variable {K:FG}{H:Hp}{a:Addr}{o:Obj}{l:List (Key×V)}
end
def mI(_:DS)(_:MH)(_:QD):Prop:=False
section
variable {X:Cx}{K:FG}{tg o:Expr}{apos cpos:Pos}{td:TD}
end
theorem ko:bootBuiltins "sorted" = some (.builtin "sorted"):=by decide +kernel
section
variable {X:Cx}{K:FG}
end
section
variable {X:Cx}{K:FG}
theorem hU:eA X (.builtin "isinstance") (λ xs H Q=>∃ x d T,xs=[x,.ty T]/\tT X.K H d x/\Ty6 T/\Q (.bl (oG d T)) H):=by
 intro pins s σ H xs us Q I r h;obtain⟨x,d,T,rfl,rd,h6,q⟩:=h;rcases rd with rd | ⟨a,vs,ds,rfl,rfl,ha,ra⟩
 ·exact qX pins s σ H _ us Q I r ⟨x,d,T,rfl,rd,h6,q⟩
 obtain⟨u,w',rfl,rx,ry⟩:=vals2 r;cases (show w'=Value.type T from ry);have e:=qW (K:=X.K) (.list ds) h6;have fin:∀ tk,EP X pins σ Q (.bool (oG (.list ds) T)) {s with toks:=tk}:=λ tk=>⟨.bl _,H,I.tok _,rfl,q⟩;generalize oG (.list ds) T=b at e fin;cases (show u=Value.ref a from rx);obtain⟨its,rv,⟨o,n,e1,e2,e3,e4⟩,hz⟩:=I.list (.inl (.inl ha));exact W.kia_one W.kitx_list I.kIn ⟨_,e1,e2⟩ e (λ z=>nomatch z) fin
def mS(ws:List W)(M:MH)(Q:QD):Prop:=∃ w d T,ws=[w,.t T]/\xO M w d/\Ty6 T/\Q (.d (.bool (oG d T))) M
theorem lW:fc K (λ xs H Q=>∃ x d T,xs=[x,.ty T]/\tT K H d x/\Ty6 T/\Q (.bl (oG d T)) H) mS:=by intro vs H ws M Qd Q r m ⟨w,d,T,e,g,h6,q⟩ k;subst e;obtain⟨v,v',e1,r1,r2⟩:=uR r;simp only[aI] at r2;subst r2;exact⟨v,d,T,e1,g.sound r1 m,h6,k _ H (.d (.bool _)) M (Kp.refl H) (by simp[aI,aD]) m q⟩
end
theorem tV{P:Program}{w:World}{K:FG}{mg:Str->Option Value}{base:Heap}{k:Nat}{f:Addr}{fd:FuncData}{ps:List Str}{sp:SpD}(h:∀ ws M Q,¬ sp ws M Q):cR P w K mg base CX0 k f fd ps (dy K sp):=
 ⟨λ vs H Q E ⟨ws,M,Qd,_,_,q,_⟩=>absurd q (h ws M Qd),λ A outer s H args us vs Q E _ _ _ _ ⟨ws,M,Qd,_,_,q,_⟩=>absurd q (h ws M Qd)⟩
theorem gq:Jd (PD X e mI):=⟨λ pins s σ H Q I ⟨τ,M,Qd,A,h,k⟩=>h.elim⟩
end D
namespace S
open PySem PySem.W PyProof.Rows
def go{α:Type}(lt:Nat->Nat->Bool):KasT α->α
 | .ret a=>a
 | .ask i j k=>go lt (k (lt i j))
theorem cB{α β:Type}(lt:Nat->Nat->Bool)(f:α->KasT β):∀ t:KasT α,go lt (t.bind f)=go lt (f (go lt t))
 | .ret _=>rfl
 | .ask i j k=>cB lt f (k (lt i j))
structure dw(lt:Nat->Nat->Bool):Prop where
 xr:∀ a b,lt a b=true->lt b a=false
 tr:∀ a b c,lt b a=false->lt c b=false->lt c a=false
theorem dw.irr(h:dw lt)(a:Nat):lt a a=false:=by
 cases e:lt a a with
 | false=>rfl
 | true=>have:=h.xr a a e;rw[e] at this;cases this
theorem dw.tI(h:dw lt){a b c:Nat}(h1:lt a b=true)(h2:lt c b=false):lt a c=true:=by
 cases e:lt a c with
 | true=>rfl
 | false =>
  have:=h.tr b c a h2 e;rw[h1] at this;cases this
theorem dw.yB(h:dw lt){a b c:Nat}(h1:lt b a=false)(h2:lt b c=true):lt a c=true:=by
 cases e:lt a c with
 | true=>rfl
 | false =>
  have:=h.tr c a b e h1;rw[h2] at this;cases this
def B(lt:Nat->Nat->Bool)(a b:Nat):Prop:=lt a b=true\/(lt a b=false/\lt b a=false/\a<b)
theorem B.of_le{a b:Nat}(h:lt b a=false)(h2:a<b):B lt a b:=by
 cases e:lt a b with
 | true=>exact .inl e
 | false=>exact .inr ⟨e,h,h2⟩
theorem B.le(h:dw lt){a b:Nat}(q:B lt a b):lt b a=false:=by
 rcases q with q | q
 ·exact h.xr _ _ q
 ·exact q.2.1
theorem B.tr(h:dw lt){a b c:Nat}(q:B lt a b)(r:B lt b c):B lt a c:=by
 rcases q with q | ⟨q1,q2,q3⟩
 ·rcases r with r | ⟨r1,r2,r3⟩
  ·exact .inl (h.tI q (h.xr _ _ r))
  ·exact .inl (h.tI q r2)
 ·rcases r with r | ⟨r1,r2,r3⟩
  ·exact .inl (h.yB q2 r)
  ·exact .inr ⟨h.tr _ _ _ r1 q1,h.tr _ _ _ q2 r2,by omega⟩
abbrev g(p:Array Nat)(i:Nat):Nat:=p.getD i 0
theorem nO(p:Array Nat)(i:Nat):g p i=(p[i]?).getD 0:=by simp[g]
theorem ir{p:Array Nat}{i j:Nat}(hj:j<=p.size)(k:Nat):g (kas_rev p i j) k=if i<=k/\k<j then g p (i+j-1-k) else g p k:=by
 rw[nO,nO,nO];unfold kas_rev;rw[getElem?_mirror_all hj k]
 split<;>rfl
theorem yL{p:Array Nat}{k d:Nat}(hk:k<p.size)(hd:d<=k)(i:Nat):g (bubble p k d) i=if i=k-d then g p k else if k-d<i/\i<=k then g p (i-1) else g p i:=by
 rw[nO,nO,nO,nO,getElem?_bubble hk d hd i]
 split
 ·rfl
 ·split<;>rfl
structure Un(p:Array Nat)(N n:Nat):Prop where
 size:p.size=N
 lo:∀ i,i<n->g p i<n
 hi:∀ i,n<=i->i<N->g p i=i
theorem Un.rev{p:Array Nat}{N n i j:Nat}(u:Un p N n)(hj:j<=n)(hn:n<=N):Un (kas_rev p i j) N n:=by
 have hs:=u.size;refine⟨(mirror_size _ _ _ _).trans u.size,λ k hk=>?_,λ k hk hk2=>?_⟩
 ·rw[ir (by omega)]
  split
  ·exact u.lo _ (by omega)
  ·exact u.lo _ hk
 ·rw[ir (by omega),if_neg (by omega)];exact u.hi k hk hk2
theorem Un.up{p:Array Nat}{N n m:Nat}(u:Un p N n)(h:n<=m)(hm:m<=N):Un p N m:=by
 refine⟨u.size,λ k hk=>?_,λ k hk hk2=>u.hi k (by omega) hk2⟩
 by_cases z:k<n
 ·have:=u.lo k z;omega
 ·have:=u.hi k (by omega) (by omega);omega
theorem fR{p:Array Nat}{i j:Nat}{l:List Nat}(h:p.toList.Perm l):(kas_rev p i j).toList.Perm l:=(Array.perm_iff_toList_perm.mp (mirror_perm p i j _)).trans h
def Up(lt:Nat->Nat->Bool)(p:Array Nat)(n:Nat):Prop:=∀ i j,i<j->j<n->B lt (g p i) (g p j)
def Dn(lt:Nat->Nat->Bool)(p:Array Nat)(n:Nat):Prop:=∀ i j,i<j->j<n->B lt (g p j) (g p i)
theorem Up.succ(h:dw lt){p:Array Nat}{n:Nat}(u:Up lt p n)(q:0<n->B lt (g p (n-1)) (g p n)):Up lt p (n+1):=by
 intro i j hij hj
 by_cases e:j<n
 ·exact u i j hij e
 ·have e:j=n:=by omega
  subst e;have q:=q (by omega)
  by_cases z:i=j-1
  ·rw[z];exact q
  ·exact(u i (j-1) (by omega) (by omega)).tr h q
theorem qO(h:dw lt){p:Array Nat}{N:Nat}:∀ (f n:Nat),n+f<=N->1<=n->Un p N n->Up lt p n ->
  n<=go lt (kas_asc p f n)/\go lt (kas_asc p f n)<=n+f/\Un p N (go lt (kas_asc p f n))/\Up lt p (go lt (kas_asc p f n))/\(go lt (kas_asc p f n)<n+f->lt (g p (go lt (kas_asc p f n))) (g p (go lt (kas_asc p f n)-1))=true)
 | 0,n,hf,h1,u,q=>⟨Nat.le_refl _,Nat.le_refl _,u,q,λ z=>absurd z (Nat.lt_irrefl _)⟩
 | f+1,n,hf,h1,u,q=>by
  simp only[kas_asc,go];cases e:lt (p.getD n 0) (p.getD (n-1) 0) with
  | true=>exact⟨Nat.le_refl _,by simp[go],u,q,λ _=>e⟩
  | false =>
   have hb:B lt (g p (n-1)) (g p n):=B.of_le e (by have:=u.lo (n-1) (by omega);have:=u.hi n (Nat.le_refl _) (by omega);omega);have r:=qO h (p:=p) (N:=N) f (n+1) (by omega) (by omega) (u.up (by omega) (by omega)) (q.succ h λ _=>hb);simp only[Bool.false_eq_true,if_false];have e2:n+1+f=n+(f+1):=by omega
   rw[e2] at r;exact⟨by have:=r.1;omega,r.2⟩
structure tU(lt:Nat->Nat->Bool)(p:Array Nat)(n q:Nat):Prop where
 q1:q+1<=n
 dn:∀ i j,i<j->j<n-1-q->B lt (g p j) (g p i)
 cr:∀ i j,i<n-1-q->n-1-q<=j->j<n->lt (g p j) (g p i)=true
 bl:∀ i j,n-1-q<=i->i<j->j<n->B lt (g p i) (g p j)/\lt (g p i) (g p j)=false
theorem tU.zA{p:Array Nat}{n:Nat}(x:tU lt p n 0):Dn lt p n:=λ i j hij hj=>by
 have:=x.q1
 by_cases e:j<n-1-0
 ·exact x.dn i j hij e
 ·exact .inl (x.cr i j (by omega) (by omega) hj)
theorem tU.rev{p:Array Nat}{n q N:Nat}(x:tU lt p n q)(hN:n<=p.size):Dn lt (kas_rev p (n-(q+1)) n) n:=λ i j hij hj=>by
 have:=x.q1;rw[ir hN,ir hN]
 by_cases e1:n-(q+1)<=i/\i<n
 ·rw[if_pos e1,if_pos ⟨by omega,hj⟩];exact(x.bl _ _ (by omega) (by omega) (by omega)).1
 ·rw[if_neg e1]
  by_cases e2:n-(q+1)<=j/\j<n
  ·rw[if_pos e2];exact .inl (x.cr _ _ (by omega) (by omega) (by omega))
  ·rw[if_neg e2];exact x.dn i j hij (by omega)
theorem Dn.aaZ(h:dw lt){p:Array Nat}{n:Nat}(h1:1<=n)(x:Dn lt p n)(q:lt (g p n) (g p (n-1))=true):tU lt p (n+1) 0:=by
 refine⟨by omega,λ i j hij hj=>x i j hij (by omega),λ i j hi hj hj2=>?_,λ i j hi hij hj=>by omega⟩;have e:j=n:=by omega
 subst e
 by_cases z:i=j-1
 ·rw[z];exact q
 ·exact h.tI q ((x i (j-1) (by omega) (by omega)).le h)
theorem jr(h:dw lt){N:Nat}:∀ (f:Nat) (p:Array Nat) (n q:Nat),n+f<=N->Un p N n->p.toList.Perm (List.range N)->tU lt p n q ->
  n<=(go lt (kas_desc f p n q)).2.1/\(go lt (kas_desc f p n q)).2.1<=n+f/\Un (go lt (kas_desc f p n q)).1 N (go lt (kas_desc f p n q)).2.1/\(go lt (kas_desc f p n q)).1.toList.Perm (List.range N)/\tU lt (go lt (kas_desc f p n q)).1 (go lt (kas_desc f p n q)).2.1 (go lt (kas_desc f p n q)).2.2
 | 0,p,n,q,hf,u,hp,x=>⟨Nat.le_refl _,Nat.le_refl _,u,hp,x⟩
 | f+1,p,n,q,hf,u,hp,x=>by
  have hs:=u.size;have hq1:=x.q1;simp only[kas_desc,go];cases e:lt (p.getD n 0) (p.getD (n-1) 0) with
  | true =>
   simp only[if_true]
   by_cases hq:q > 0
   ·rw[if_pos hq];have e2:lt (g (kas_rev p (n-(q+1)) n) n) (g (kas_rev p (n-(q+1)) n) (n-1))=true:=by
     rw[ir (by omega),ir (by omega),if_neg (by omega),if_pos (by omega)]
     by_cases z:n-(q+1)+n-1-(n-1)=n-1
     ·rw[z];exact e
     ·exact h.tI e (x.bl _ (n-1) (by omega) (by omega) (by omega)).2
    have r:=jr h f (kas_rev p (n-(q+1)) n) (n+1) 0 (by omega) ((u.rev (Nat.le_refl _) (by omega)).up (by omega) (by omega)) (fR hp) ((x.rev (N:=N) (by omega)).aaZ h (by omega) e2);exact⟨by have:=r.1;omega,by have:=r.2.1;omega,r.2.2⟩
   ·rw[if_neg hq];have eq0:q=0:=by omega
    subst eq0;have r:=jr h f p (n+1) 0 (by omega) (u.up (by omega) (by omega)) hp (x.zA.aaZ h (by omega) e);exact⟨by have:=r.1;omega,by have:=r.2.1;omega,r.2.2⟩
  | false =>
   simp only[Bool.false_eq_true,if_false,go];cases e2:lt (p.getD (n-1) 0) (p.getD n 0) with
   | true=>exact⟨Nat.le_refl _,by simp[go],u,hp,x⟩
   | false =>
    simp only[Bool.false_eq_true,if_false];have lo:=u.lo;have hin:=u.hi n (Nat.le_refl _) (by omega);have r:=jr h f p (n+1) (q+1) (by omega) (u.up (by omega) (by omega)) hp ⟨by omega,λ i j hij hj=>x.dn i j hij (by omega),λ i j hi hj hj2=>?_,λ i j hi hij hj=>?_⟩
    ·exact⟨by have:=r.1;omega,by have:=r.2.1;omega,r.2.2⟩
    ·by_cases z:j<n
     ·exact x.cr i j (by omega) (by omega) z
     ·have z:j=n:=by omega
      subst z;exact h.yB e2 (x.cr i (j-1) (by omega) (by omega) (by omega))
    ·by_cases z:j<n
     ·exact x.bl i j (by omega) hij z
     ·have z:j=n:=by omega
      subst z;have le1:lt (g p j) (g p i)=false:=by
       by_cases y:i=j-1
       ·rw[y];exact e
       ·exact h.tr _ _ _ ((x.bl i (j-1) (by omega) (by omega) (by omega)).1.le h) e
      have le2:lt (g p i) (g p j)=false:=by
       by_cases y:i=j-1
       ·rw[y];exact e2
       ·exact h.tr _ _ _ e2 (x.bl i (j-1) (by omega) (by omega) (by omega)).2
      exact⟨B.of_le le1 (by have:=lo i (by omega);omega),le2⟩
theorem Dn.up{p:Array Nat}{n:Nat}(x:Dn lt p n)(hN:n<=p.size):Up lt (kas_rev p 0 n) n:=λ i j hij hj=>by rw[ir hN,ir hN,if_pos (by omega),if_pos (by omega)];exact x _ _ (by omega) (by omega)
def Cnt(lt:Nat->Nat->Bool)(N:Nat)(r:Nat×Array Nat):Prop:=1<=r.1/\r.1<=N/\Un r.2 N r.1/\r.2.toList.Perm (List.range N)/\Up lt r.2 r.1
theorem mM(h:dw lt){N n:Nat}{p:Array Nat}(h1:1<=n)(hn:n<=N)(u:Un p N n)(hp:p.toList.Perm (List.range N))(x:Dn lt p n):Cnt lt N (go lt (kas_tail3 n N p)):=by
 unfold kas_tail3;rw[cB];have hs:=u.size;have r:=qO h (p:=kas_rev p 0 n) (N:=N) (N-n) n (by omega) h1 (u.rev (Nat.le_refl _) hn) (x.up (by omega));exact⟨by have:=r.1;show 1<=go lt (kas_asc (kas_rev p 0 n) (N-n) n);omega,by have:=r.2.1;show go lt (kas_asc (kas_rev p 0 n) (N-n) n)<=N;omega,r.2.2.1,fR hp,r.2.2.2.1⟩
theorem ik(h:dw lt){N n:Nat}{p:Array Nat}(hn:n+1<=N)(u:Un p N (n+1))(hp:p.toList.Perm (List.range N))(x:tU lt p (n+1) 0):Cnt lt N (go lt (kas_descPart n N p)):=by
 unfold kas_descPart;rw[cB];obtain⟨r1,r2,r3,r4,r5⟩:=jr h (N:=N) (N-(n+1)) p (n+1) 0 (by omega) u hp x;have hs:=r3.size
 by_cases hq:(go lt (kas_desc (N-(n+1)) p (n+1) 0)).2.2 > 0
 ·rw[if_pos hq];exact mM h (by omega) (by omega) (r3.rev (Nat.le_refl _) (by omega)) (fR r4) (r5.rev (N:=N) (by omega))
 ·rw[if_neg hq];have e:(go lt (kas_desc (N-(n+1)) p (n+1) 0)).2.2=0:=by omega
  rw[e] at r5;exact mM h (by omega) (by omega) r3 r4 r5.zA
theorem mY(h:dw lt){N:Nat}(hN:1<=N){p:Array Nat}(u:Un p N 1)(hp:p.toList.Perm (List.range N)):Cnt lt N (go lt (kas_count N p)):=by
 unfold kas_count;rw[cB];obtain⟨a1,a2,a3,a4,a5⟩:=qO h (p:=p) (N:=N) (N-1) 1 (by omega) (Nat.le_refl _) u (λ i j hij hj=>by omega);generalize go lt (kas_asc p (N-1) 1)=n at a1 a2 a3 a4 a5;have hs:=u.size
 by_cases e:(n==N)=true
 ·rw[if_pos e];exact⟨a1,by show n<=N;omega,a3,hp,a4⟩
 ·rw[if_neg e];have ne:n≠N:=λ z=>e (by simp[z]);have last:=a5 (by omega)
  by_cases h2:n > 1
  ·rw[if_pos h2];simp only[go];cases c:lt (p.getD 0 0) (p.getD (n-1) 0) with
   | true =>
    simp only[if_true,go];exact⟨a1,by show n<=N;omega,a3,hp,a4⟩
   | false =>
    simp only[Bool.false_eq_true,if_false];have eqv:∀ i j,i<j->j<n->lt (g p i) (g p j)=false:=λ i j hij hj=>by
     have t1:lt (g p i) (g p 0)=false:=by
      by_cases z:i=0
      ·rw[z];exact h.irr _
      ·exact(a4 0 i (by omega) (by omega)).le h
     have t2:lt (g p (n-1)) (g p j)=false:=by
      by_cases z:j=n-1
      ·rw[z];exact h.irr _
      ·exact(a4 j (n-1) (by omega) (by omega)).le h
     have t3:lt (g p 0) (g p j)=false:=by
      cases y:lt (g p 0) (g p j) with
      | false=>rfl
      | true=>have:=h.tI y t2;rw[c] at this;cases this
     cases y:lt (g p i) (g p j) with
     | false=>rfl
     | true=>have:=h.yB t1 y;rw[t3] at this;cases this
    have fa:tU lt p n (n-1):=⟨by omega,λ i j hij hj=>by omega,λ i j hi hj hj2=>by omega,λ i j hi hij hj=>⟨a4 i j hij hj,eqv i j hij hj⟩⟩;have dn:Dn lt (kas_rev p 0 n) n:=by
     have:=fa.rev (N:=N) (by omega)
     rwa[show n-(n-1+1)=0 by omega] at this
    have e2:lt (g (kas_rev p 0 n) n) (g (kas_rev p 0 n) (n-1))=true:=by rw[ir (by omega),ir (by omega),if_neg (by omega),if_pos (by omega)];rw[show 0+n-1-(n-1)=0 by omega];exact h.tI last c
    exact ik h (by omega) ((a3.rev (Nat.le_refl _) (by omega)).up (by omega) (by omega)) (fR hp) (dn.aaZ h a1 e2)
  ·rw[if_neg h2];have e1:n=1:=by omega
   subst e1;exact ik h (by omega) (a3.up (by omega) (by omega)) hp (Dn.aaZ h (Nat.le_refl _) (λ i j hij hj=>by omega) last)
theorem i7(h:dw lt){p:Array Nat}{k:Nat}(u:Up lt p k):∀ (f l r:Nat),r-l<=f->l<=r->r<=k->(∀ i,i<l->lt (g p k) (g p i)=false)->(∀ i,r<=i->i<k->lt (g p k) (g p i)=true) ->
  go lt (kas_place p k f l r)<=k/\(∀ i,i<go lt (kas_place p k f l r)->lt (g p k) (g p i)=false)/\∀ i,go lt (kas_place p k f l r)<=i->i<k->lt (g p k) (g p i)=true
 | 0,l,r,hf,hl,hr,a,b=>⟨by show l<=k;omega,a,λ i hi hk=>b i (by have:l<=i:=hi;omega) hk⟩
 | f+1,l,r,hf,hl,hr,a,b=>by
  simp only[kas_place]
  by_cases e:l >= r
  ·rw[if_pos e];exact⟨by show l<=k;omega,a,λ i hi hk=>b i (by have:l<=i:=hi;omega) hk⟩
  ·rw[if_neg e];simp only[go];cases c:lt (p.getD k 0) (p.getD ((l+r) / 2) 0) with
   | true =>
    simp only[if_true];refine i7 h u f l ((l+r) / 2) (by omega) (by omega) (by omega) a λ i hi hk=>?_
    by_cases z:i=(l+r) / 2
    ·rw[z];exact c
    ·exact h.tI c ((u ((l+r) / 2) i (by omega) hk).le h)
   | false =>
    simp only[Bool.false_eq_true,if_false];refine i7 h u f ((l+r) / 2+1) r (by omega) (by omega) hr (λ i hi=>?_) b
    by_cases z:i=(l+r) / 2
    ·rw[z];exact c
    ·exact h.tr _ _ _ ((u i ((l+r) / 2) (by omega) (by omega)).le h) c
theorem pE(h:dw lt){N:Nat}:∀ (f:Nat) (p:Array Nat) (k:Nat),k+f<=N->Un p N k->p.toList.Perm (List.range N)->Up lt p k->(go lt (kas_bin f p k)).toList.Perm (List.range N)/\Up lt (go lt (kas_bin f p k)) (k+f)
 | 0,p,k,hf,u,hp,x=>⟨hp,x⟩
 | f+1,p,k,hf,u,hp,x=>by
  simp only[kas_bin];rw[cB];obtain⟨h1,h2,h3⟩:=i7 h x k 0 k (by omega) (by omega) (Nat.le_refl _) (λ i hi=>by omega) (λ i hi hk=>by omega);generalize go lt (kas_place p k k 0 k)=l at h1 h2 h3;have hs:=u.size;have ek:k-(k-l)=l:=by omega
  have lo:=u.lo;have hk:=u.hi k (Nat.le_refl _) (by omega);have G:∀ i,g (bubble p k (k-l)) i=if i=l then g p k else if l<i/\i<=k then g p (i-1) else g p i:=λ i=>by rw[yL (by omega) (by omega),ek]
  have r:=pE h (N:=N) f (bubble p k (k-l)) (k+1) (by omega) ⟨(bubble_size _ _ _).trans hs,λ i hi=>?_,λ i hi hi2=>?_⟩ ((Array.perm_iff_toList_perm.mp (bubble_perm p k _)).trans hp) λ i j hij hj=>?_
  ·rw[show k+1+f=k+(f+1) by omega] at r;exact r
  ·rw[G]
   split
   ·omega
   ·split
    ·have:=lo (i-1) (by omega);omega
    ·have:=lo i (by omega);omega
  ·rw[G,if_neg (by omega),if_neg (by omega)];exact u.hi i (by omega) hi2
  ·have bk:∀ i,i<l->B lt (g p i) (g p k):=λ i hi=>B.of_le (h2 i hi) (by have:=lo i (by omega);omega);rw[G,G]
   by_cases i1:i=l
   ·rw[if_pos i1,if_neg (by omega),if_pos (by omega)];exact .inl (h3 _ (by omega) (by omega))
   ·rw[if_neg i1]
    by_cases i2:l<i/\i<=k
    ·rw[if_pos i2,if_neg (by omega),if_pos (by omega)];exact x _ _ (by omega) (by omega)
    ·rw[if_neg i2]
     by_cases j1:j=l
     ·rw[if_pos j1];exact bk i (by omega)
     ·rw[if_neg j1]
      by_cases j2:l<j/\j<=k
      ·rw[if_pos j2];exact x _ _ (by omega) (by omega)
      ·rw[if_neg j2];exact x _ _ hij (by omega)
theorem xE(h:dw lt){N:Nat}(hN:1<=N):(go lt (kas_sort N)).toList.Perm (List.range N)/\Up lt (go lt (kas_sort N)) N:=by
 unfold kas_sort;rw[cB];have e:∀ i,i<N->g (List.toArray (List.range N)) i=i:=λ i hi=>by rw[nO];simp[hi]
 obtain⟨c1,c2,c3,c4,c5⟩:=mY h hN (p:=List.toArray (List.range N)) ⟨by simp,λ i hi=>by rw[e i (by omega)];exact hi,λ i _ hi=>e i hi⟩ (by simp);generalize go lt (kas_count N (List.toArray (List.range N)))=r at c1 c2 c3 c4 c5
 by_cases z:r.1<N
 ·rw[if_pos z];have em:max r.1 1=r.1:=by omega
  rw[em];have b:=pE h (N-r.1) r.2 r.1 (by omega) c3 c4 c5;rw[show r.1+(N-r.1)=N by omega] at b;exact b
 ·rw[if_neg z];have em:r.1=N:=by omega
  rw[em] at c5;exact⟨c4,c5⟩
def d9(N:Nat)(R:α->Prop):KasT α->Prop
 | .ret a=>R a
 | .ask i j k=>i<N/\j<N/\∀ b,d9 N R (k b)
theorem d9.bind{α β:Type}{N:Nat}{R:α->Prop}{R':β->Prop}{f:α->KasT β}(hf:∀ a,R a->d9 N R' (f a)):∀ {t:KasT α},d9 N R t->d9 N R' (t.bind f)
 | .ret a,h=>hf a h
 | .ask i j k,h=>⟨h.1,h.2.1,λ b=>d9.bind hf (h.2.2 b)⟩
def Low(N:Nat)(p:Array Nat):Prop:=∀ i,g p i<N
theorem Low.of(hN:1<=N)(h:∀ x∈p.toList,x<N):Low N p:=λ i=>by
 rw[nO];cases e:p[i]? with
 | none=>simp;omega
 | some x=>exact h x (by rw[Array.mem_toList_iff];exact Array.mem_of_getElem? e)
theorem jo(h:Low N p):∀ f n,d9 N (λ _=>True) (kas_asc p f n)
 | 0,_=>trivial
 | f+1,n=>⟨h _,h _,λ b=>by
  cases b with
  | true=>exact trivial
  | false=>exact jo h f (n+1)⟩
theorem eZ{p:Array Nat}{k:Nat}(h:Low N p):∀ f l r,d9 N (λ _=>True) (kas_place p k f l r)
 | 0,_,_=>trivial
 | f+1,l,r=>by
  simp only[kas_place]
  split
  ·exact trivial
  ·refine⟨h _,h _,λ b=>?_⟩;cases b with
   | true=>exact eZ h f _ _
   | false=>exact eZ h f _ _
def ba(lt:Nat->Nat->Bool)(n:Nat):List Nat:=if n<2 then List.range n else (go lt (kas_sort n)).toList
theorem dX(h:dw lt)(n:Nat):(ba lt n).Perm (List.range n)/\(ba lt n).Pairwise (B lt):=by
 unfold ba
 by_cases z:n<2
 ·rw[if_pos z];refine⟨List.Perm.refl _,?_⟩
  match n,z with
  | 0,_=>exact List.Pairwise.nil
  | 1,_=>exact List.pairwise_singleton _ _
 ·rw[if_neg z];obtain⟨a,b⟩:=xE h (N:=n) (by omega);refine⟨a,?_⟩;rw[List.pairwise_iff_getElem];intro i j hi hj hij;have hl:=a.length_eq;rw[List.length_range] at hl;have r:=b i j hij (by omega);rw[nO,nO] at r;have hi':i<(go lt (kas_sort n)).size:=by simpa using hi
  have hj':j<(go lt (kas_sort n)).size:=by simpa using hj
  simpa [hi',hj'] using r
def cM(h:Heap)(a:Addr)(vs:List Value):Heap:=((h.update a (Obj.mapSeq λ _=>#[])).push (seqObj "tuple" vs.toArray 0)).push (seqObj "list" #[] 0)
def dH(h:Heap)(vs:List Value):Heap:=((h.push (seqObj "list" #[] 0)).update h.objs.size (Obj.mapSeq (· ++ vs.toArray))).push (seqObj "list" vs.toArray 0)
theorem iK(hb:h.get? b=some o):(dH h vs).get? b=some o:=by have q:b<h.objs.size:=Heap.lt_size hb;have q1:=Nat.ne_of_lt q;have q2:=Nat.ne_of_lt (Nat.lt_succ_of_lt q);unfold dH;rw[Heap.get?_push_ne _ _ _ (by rw[Heap.size_update,size_push'];exact q2),Heap.get?_update_ne _ _ _ _ q1,Heap.get?_push_ne _ _ _ q1];exact hb
theorem dq{h:Heap}{vs:List Value}:((h.push (seqObj "list" #[] 0)).update h.objs.size (Obj.mapSeq (· ++ vs.toArray))).objs.size=h.objs.size+1:=by rw[Heap.size_update,size_push']
theorem lB(hb:h.get? b=some o)(hne:b≠a):(cM h a vs).get? b=some o:=by have q:b<h.objs.size:=Heap.lt_size hb;have q1:=Nat.ne_of_lt q;have q2:=Nat.ne_of_lt (Nat.lt_succ_of_lt q);unfold cM;rw[Heap.get?_push_ne _ _ _ (by rw[size_push',Heap.size_update];exact q2),Heap.get?_push_ne _ _ _ (by rw[Heap.size_update];exact q1),Heap.get?_update_ne _ _ _ _ hne];exact hb
theorem nT{vs us:List Value}{n:Nat}(ho:h.get? a=some (seqObj "list" us.toArray n)):∃ e,(h.update a (Obj.mapSeq λ _=>(#[]:Array Value))).get? a=some (seqObj "list" #[] e)/\(cM h a vs).get? a=some (seqObj "list" #[] e):=by have q:a<h.objs.size:=Heap.lt_size ho;have q1:=Nat.ne_of_lt q;have q2:=Nat.ne_of_lt (Nat.lt_succ_of_lt q);refine⟨_,get?_update_seq ho λ _=>#[],?_⟩;unfold cM;rw[Heap.get?_push_ne _ _ _ (by rw[size_push',Heap.size_update];exact q2),Heap.get?_push_ne _ _ _ (by rw[Heap.size_update];exact q1)];exact get?_update_seq ho λ _=>#[]
def Shape:List Bool->List PyData->Prop
 | [],[]=>True
 | true::bs,d::ds=>(∃ x,d=.str x)/\Shape bs ds
 | false::bs,d::ds=>(∃ i,d=.int i)/\Shape bs ds
 | _,_=>False
def sEq:PyData->PyData->Bool
 | .int x,.int y=>x==y
 | .str x,.str y=>x==y
 | _,_=>false
def sLt:PyData->PyData->Bool
 | .int x,.int y=>decide (x<y)
 | .str x,.str y=>decide (x.cps.toList<y.cps.toList)
 | _,_=>false
def bT:List PyData->List PyData->Bool
 | a::as,b::bs=>if sEq a b=true then bT as bs else sLt a b
 | [],_::_=>true
 | _,_=>false
theorem xu{x y:Str}(h:x.cps.toList=y.cps.toList):x=y:=by
 cases x;cases y;simp only[Str.mk.injEq];exact Array.toList_inj.mp h
theorem cA(ha:Shape (t::sh) (a::as))(hb:Shape (t::sh) (b::bs)) :
  Shape sh as/\Shape sh bs/\((a=b/\bT (a::as) (b::bs)=bT as bs)\/(a≠b/\sLt a b=true/\sLt b a=false/\bT (a::as) (b::bs)=true)\/(a≠b/\sLt a b=false/\sLt b a=true/\bT (a::as) (b::bs)=false)):=by
 cases t with
 | true =>
  obtain⟨⟨x,rfl⟩,h⟩:=ha;obtain⟨⟨y,rfl⟩,h'⟩:=hb;refine⟨h,h',?_⟩
  by_cases e:x=y
  ·subst e;exact .inl ⟨rfl,by simp[bT,sEq]⟩
  ·have ne:PyData.str x≠PyData.str y:=λ z=>e (by injection z);have e2:sEq (.str x) (.str y)=false:=by simp[sEq,e]
   have hl:bT (.str x::as) (.str y::bs)=sLt (.str x) (.str y):=by simp[bT,e2]
   rw[hl];have nl:x.cps.toList≠y.cps.toList:=λ z=>e (xu z);simp only[sLt]
   by_cases q:x.cps.toList<y.cps.toList
   ·have:¬ y.cps.toList<x.cps.toList:=λ z=>List.lt_irrefl _ (List.lt_trans q z);exact .inr (.inl ⟨ne,by simp[q],by simp[this],by simp[q]⟩)
   ·have:y.cps.toList<x.cps.toList:=by
     apply Classical.byContradiction;intro z;exact nl (List.le_antisymm (List.not_lt.mp z) (List.not_lt.mp q))
    exact .inr (.inr ⟨ne,by simp[q],by simp[this],by simp[q]⟩)
 | false =>
  obtain⟨⟨x,rfl⟩,h⟩:=ha;obtain⟨⟨y,rfl⟩,h'⟩:=hb;refine⟨h,h',?_⟩
  by_cases e:x=y
  ·subst e;exact .inl ⟨rfl,by simp[bT,sEq]⟩
  ·have ne:PyData.int x≠PyData.int y:=λ z=>e (by injection z);have e2:sEq (.int x) (.int y)=false:=by simp[sEq,e]
   have hl:bT (.int x::as) (.int y::bs)=sLt (.int x) (.int y):=by simp[bT,e2]
   rw[hl];simp only[sLt]
   by_cases q:x<y
   ·exact .inr (.inl ⟨ne,by simp[q],by simp;omega,by simp[q]⟩)
   ·exact .inr (.inr ⟨ne,by simp[q],by simp;omega,by simp[q]⟩)
theorem aau(ha:Shape (t::sh) (a::as))(hb:Shape (t::sh) (b::bs))(hc:Shape (t::sh) (c::cs))(h1:sLt a b=true)(h2:sLt b c=true):sLt a c=true:=by
 cases t with
 | true =>
  obtain⟨⟨x,rfl⟩,_⟩:=ha;obtain⟨⟨y,rfl⟩,_⟩:=hb;obtain⟨⟨z,rfl⟩,_⟩:=hc;simp only[sLt,decide_eq_true_eq] at *;exact List.lt_trans h1 h2
 | false =>
  obtain⟨⟨x,rfl⟩,_⟩:=ha;obtain⟨⟨y,rfl⟩,_⟩:=hb;obtain⟨⟨z,rfl⟩,_⟩:=hc;simp only[sLt,decide_eq_true_eq] at *;omega
theorem mr:∀ {sh:List Bool} {xs ys:List PyData},Shape sh xs->Shape sh ys->bT xs ys=true->bT ys xs=false
 | [],[],[],_,_,h=>by simp[bT] at h
 | t::sh,a::as,b::bs,ha,hb,h=>by
  obtain⟨h1,h2,c⟩:=cA ha hb;obtain⟨_,_,c'⟩:=cA hb ha;rcases c with ⟨e,l⟩ | ⟨ne,l1,l2,l⟩ | ⟨ne,l1,l2,l⟩
  ·subst e;rcases c' with ⟨_,l'⟩ | ⟨ne,_⟩ | ⟨ne,_⟩
   ·rw[l'];rw[l] at h;exact mr h1 h2 h
   ·exact absurd rfl ne
   ·exact absurd rfl ne
  ·rcases c' with ⟨e,_⟩ | ⟨_,l3,_,_⟩ | ⟨_,_,_,l'⟩
   ·exact absurd e.symm ne
   ·rw[l2] at l3;cases l3
   ·exact l'
  ·rw[l] at h;cases h
 | [],a::as,_,h,_,_=>by cases h
 | [],[],b::bs,_,h,_=>by cases h
 | t::sh,[],_,h,_,_=>by cases t<;>cases h
 | t::sh,a::as,[],_,h,_=>by cases t<;>cases h
theorem jA:∀ {sh:List Bool} {xs ys:List PyData},Shape sh xs->Shape sh ys->bT xs ys=false->bT ys xs=false->xs=ys
 | [],[],[],_,_,_,_=>rfl
 | t::sh,a::as,b::bs,ha,hb,h,h'=>by
  obtain⟨h1,h2,c⟩:=cA ha hb;obtain⟨_,_,c'⟩:=cA hb ha;rcases c with ⟨e,l⟩ | ⟨ne,l1,l2,l⟩ | ⟨ne,l1,l2,l⟩
  ·subst e;rcases c' with ⟨_,l'⟩ | ⟨ne,_⟩ | ⟨ne,_⟩
   ·rw[l'] at h';rw[l] at h;rw[jA h1 h2 h h']
   ·exact absurd rfl ne
   ·exact absurd rfl ne
  ·rw[l] at h;cases h
  ·rcases c' with ⟨e,_⟩ | ⟨_,_,_,l'⟩ | ⟨_,l3,_,_⟩
   ·exact absurd e.symm ne
   ·rw[l'] at h';cases h'
   ·rw[l2] at l3;cases l3
 | [],a::as,_,h,_,_,_=>by cases h
 | [],[],b::bs,_,h,_,_=>by cases h
 | t::sh,[],_,h,_,_,_=>by cases t<;>cases h
 | t::sh,a::as,[],_,h,_,_=>by cases t<;>cases h
theorem uT:∀ {sh:List Bool} {xs ys zs:List PyData},Shape sh xs->Shape sh ys->Shape sh zs->bT xs ys=true->bT ys zs=true->bT xs zs=true
 | [],[],[],[],_,_,_,h,_=>by simp[bT] at h
 | t::sh,a::as,b::bs,c::cs,ha,hb,hc,h,h'=>by
  obtain⟨h1,h2,k1⟩:=cA ha hb;obtain⟨_,h3,k2⟩:=cA hb hc;obtain⟨_,_,k3⟩:=cA ha hc;rcases k1 with ⟨e,l⟩ | ⟨ne,l1,l2,l⟩ | ⟨ne,l1,l2,l⟩
  ·subst e;rcases k2 with ⟨e,m⟩ | ⟨ne,m1,m2,m⟩ | ⟨ne,m1,m2,m⟩
   ·subst e;rcases k3 with ⟨_,n⟩ | ⟨ne,_⟩ | ⟨ne,_⟩
    ·rw[n];rw[l] at h;rw[m] at h';exact uT h1 h2 h3 h h'
    ·exact absurd rfl ne
    ·exact absurd rfl ne
   ·rcases k3 with ⟨e,_⟩ | ⟨_,_,_,n⟩ | ⟨_,n1,_,_⟩
    ·exact absurd e ne
    ·exact n
    ·rw[m1] at n1;cases n1
   ·rw[m] at h';cases h'
  ·rcases k2 with ⟨e,m⟩ | ⟨ne',m1,m2,m⟩ | ⟨ne',m1,m2,m⟩
   ·subst e;rcases k3 with ⟨e,_⟩ | ⟨_,_,_,n⟩ | ⟨_,n1,_,_⟩
    ·exact absurd e ne
    ·exact n
    ·rw[l1] at n1;cases n1
   ·have q:=aau ha hb hc l1 m1;rcases k3 with ⟨e,_⟩ | ⟨_,_,_,n⟩ | ⟨_,n1,_,_⟩
    ·subst e;rw[l2] at m1;cases m1
    ·exact n
    ·rw[q] at n1;cases n1
   ·rw[m] at h';cases h'
  ·rw[l] at h;cases h
 | [],a::as,_,_,h,_,_,_,_=>by cases h
 | [],[],b::bs,_,_,h,_,_,_=>by cases h
 | [],[],[],c::cs,_,_,h,_,_=>by cases h
 | t::sh,[],_,_,h,_,_,_,_=>by cases t<;>cases h
 | t::sh,a::as,[],_,_,h,_,_,_=>by cases t<;>cases h
 | t::sh,a::as,b::bs,[],_,_,h,_,_=>by cases t<;>cases h
theorem pL(hx:Shape sh xs)(hy:Shape sh ys)(hz:Shape sh zs)(h:bT ys xs=false)(h':bT zs ys=false):bT zs xs=false:=by
 cases e:bT zs xs with
 | false=>rfl
 | true =>
  cases e2:bT xs ys with
  | true=>have:=uT hz hx hy e e2;rw[h'] at this;cases this
  | false =>
   have:=jA hx hy e2 h;subst this;rw[h'] at e;cases e
theorem l8{sh:List Bool}{as bs:List (List PyData)}(hs:∀ r∈as,Shape sh r)(p:as.Perm bs)(h1:as.Pairwise λ x y=>bT y x=false)(h2:bs.Pairwise λ x y=>bT y x=false):as=bs:=
 List.Perm.eq_of_pairwise (λ x y hx hy a b=>jA (hs x hx) (hs y (p.mem_iff.mpr hy)) b a) h1 h2 p
def rowAt(rows:List (List PyData))(i:Nat):List PyData:=rows.getD i (rows.headD [])
theorem cw(hne:rows≠[])(h:∀ r∈rows,Shape sh r)(i:Nat):Shape sh (rowAt rows i):=by
 unfold rowAt
 match rows,hne with
 | r::rs,_ =>
  by_cases hi:i<(r::rs).length
  ·rw[List.getD_eq_getElem?_getD,List.getElem?_eq_getElem hi];exact h _ (List.getElem_mem hi)
  ·rw[List.getD_eq_getElem?_getD,List.getElem?_eq_none (by omega)];exact h r (by simp)
theorem dP(hne:rows≠[])(h:∀ r∈rows,Shape sh r):dw λ i j=>bT (rowAt rows i) (rowAt rows j):=
 ⟨λ a b=>mr (cw hne h a) (cw hne h b),λ a b c=>pL (cw hne h a) (cw hne h b) (cw hne h c)⟩
theorem iz(d:α)(l:List α):(List.range l.length).map (λ i=>l.getD i d)=l:=by
 apply List.ext_getElem
 ·simp
 ·intro i h1 h2;simp at h1;simp[h1]
theorem gF(rows:List (List PyData)):(List.range rows.length).map (rowAt rows)=rows:=iz _ rows
theorem sU(hne:rows≠[])(h:∀ r∈rows,Shape sh r) :
  ((ba (λ i j=>bT (rowAt rows i) (rowAt rows j)) rows.length).map (rowAt rows)).Perm rows/\((ba (λ i j=>bT (rowAt rows i) (rowAt rows j)) rows.length).map (rowAt rows)).Pairwise λ x y=>bT y x=false:=by
 obtain⟨p,q⟩:=dX (dP hne h) rows.length;refine⟨?_,?_⟩
 ·have:=p.map (rowAt rows)
  rwa[gF] at this
 ·rw[List.pairwise_map];exact q.imp λ {a b} z=>B.le (dP hne h) z
def sy:List PyData->List Value->Prop:=Paired λ d u=>(∃ i t,d=.int i/\u=.int i t)\/∃ x t,d=.str x/\u=.str x t
theorem oN:∀ {sh:List Bool} {xs ys:List PyData} {us vs:List Value} (i:Nat) (s:Shared),Shape sh xs->Shape sh ys->sy xs us->sy ys vs->Q (bT xs ys) s->KatLex prog w A true false Q (us.zip vs) i s
 | [],[],[],us,vs,i,s,_,_,h1,h2,q=>by
  cases h1;exact q
 | t::sh,a::as,b::bs,us,vs,i,s,ha,hb,h1,h2,q=>by
  cases h1 with
  | cons r1 t1 =>
   cases h2 with
   | cons r2 t2 =>
    cases t with
    | true =>
     obtain⟨⟨x,rfl⟩,sa⟩:=ha;obtain⟨⟨y,rfl⟩,sb⟩:=hb;rcases r1 with ⟨_,_,e,_⟩ | ⟨x',tx,e,e'⟩
     ·cases e
     ·cases e;subst e';rcases r2 with ⟨_,_,e,_⟩ | ⟨y',ty,e,e'⟩
      ·cases e
      ·cases e;subst e';refine kat_cons (eqBool_str ?_)
       by_cases e:x=y
       ·subst e;have:(x==x)=true:=by simp
        rw[this];refine kat_yes (oN (i+1) s sa sb t1 t2 ?_)
        simpa [bT,sEq] using q
       ·have e1:(x==y)=false:=by simp[e]
        rw[e1];refine kat_no ?_;have q':Q (decide (x.cps.toList<y.cps.toList)) s:=by simpa [bT,sEq,e,sLt] using q
        cases hb:(true&&i==0) with
        | true=>exact oneLt_str q'
        | false=>exact kat_one _ _ (lt_str q')
    | false =>
     obtain⟨⟨x,rfl⟩,sa⟩:=ha;obtain⟨⟨y,rfl⟩,sb⟩:=hb;rcases r1 with ⟨x',tx,e,e'⟩ | ⟨_,_,e,_⟩
     ·cases e;subst e';rcases r2 with ⟨y',ty,e,e'⟩ | ⟨_,_,e,_⟩
      ·cases e;subst e';refine kat_cons (wpAny_eqBool_int ?_)
       by_cases e:x=y
       ·subst e;have:(x==x)=true:=by simp
        rw[this];refine kat_yes (oN (i+1) s sa sb t1 t2 ?_)
        simpa [bT,sEq] using q
       ·have e1:(x==y)=false:=by simp[e]
        rw[e1];refine kat_no ?_;have q':Q (decide (x<y)) s:=by simpa [bT,sEq,e,sLt] using q
        cases hb:(true&&i==0) with
        | true=>exact oneLt_int q'
        | false=>exact kat_one _ _ (lt_int q')
      ·cases e
     ·cases e
 | [],a::as,_,_,_,_,_,h,_,_,_,_=>by cases h
 | [],[],b::bs,_,_,_,_,_,h,_,_,_=>by cases h
 | t::sh,[],_,_,_,_,_,h,_,_,_,_=>by cases t<;>cases h
 | t::sh,a::as,[],_,_,_,_,_,h,_,_,_=>by cases t<;>cases h
end S
namespace D
open L2 S
section
variable {K:FG}
theorem jI:∀ {sh:List Bool} {ds:List PyData} {vs:List V} {us:List Value},Shape sh ds->aV K H ds vs->Vals vs us->sy ds us
 | [],[],vs,us,_,h,r=>by simp only[aV] at h;subst h;cases r;exact .nil
 | t::sh,d::ds,vs,us,hs,h,r=>by
  simp only[aV] at h;obtain⟨v,rs,e,h1,h2⟩:=h;subst e;cases r with
  | cons r1 r2 =>
   cases t with
   | true =>
    obtain⟨⟨x,rfl⟩,hs⟩:=hs;simp only[aD] at h1;subst h1;obtain⟨tk,e⟩:=(show ∃ t,_=Value.str x t from r1);exact .cons (.inr ⟨x,tk,rfl,e⟩) (jI hs h2 r2)
   | false =>
    obtain⟨⟨x,rfl⟩,hs⟩:=hs;simp only[aD] at h1;subst h1;obtain⟨tk,e⟩:=(show ∃ t,_=Value.int x t from r1);exact .cons (.inl ⟨x,tk,rfl,e⟩) (jI hs h2 r2)
 | [],d::ds,_,_,h,_,_=>by cases h
 | t::sh,[],_,_,h,_,_=>by cases t<;>cases h
theorem sy.len:∀ {ds:List PyData} {us:List Value},sy ds us->us.length=ds.length:=λ h=>(Paired.length h).symm
theorem eV:∀ {sh:List Bool} {ds:List PyData},Shape sh ds->ds.length=sh.length
 | [],[],_=>rfl
 | true::sh,d::ds,h=>by simp[eV h.2]
 | false::sh,d::ds,h=>by simp[eV h.2]
 | [],_::_,h=>by cases h
 | t::sh,[],h=>by cases t<;>cases h
def dA(h:Heap)(sh:List Bool)(rows:List (List PyData))(its:List Value):Prop:=Paired (λ row u=>Shape sh row/\∃ a o us n,u=Value.ref a/\h.get? a=some o/\o.cls=.type "tuple" /\ o.data=.seq us n/\sy row us.toList) rows its
theorem dA.keep(k:∀ b o,h.get? b=some o->h'.get? b=some o)(r:dA h sh rows its):dA h' sh rows its:=
 Paired.fw r λ row u ⟨s,a,o,us,n,e,g,c,d,q⟩=>⟨s,a,o,us,n,e,k _ _ g,c,d,q⟩
theorem dA.get:∀ {rows:List (List PyData)} {its:List Value} (i:Nat),i<rows.length->dA h sh rows its->∃ a o us n,its.getD i Value.none=.ref a/\h.get? a=some o/\o.cls=.type "tuple" /\ o.data=.seq us n/\Shape sh (rowAt rows i)/\sy (rowAt rows i) us.toList:=by
 have main:∀ {rows:List (List PyData)} {its:List Value} (i:Nat) (dflt:List PyData),i<rows.length->dA h sh rows its->∃ a o us n,its.getD i Value.none=.ref a/\h.get? a=some o/\o.cls=.type "tuple" /\ o.data=.seq us n/\Shape sh (rows.getD i dflt)/\sy (rows.getD i dflt) us.toList:=by
  intro rows
  induction rows with
  | nil=>intro its i d hi _;simp at hi
  | cons row rows ih =>
   intro its i d hi r;cases r with
   | cons r1 r2 =>
    cases i with
    | zero =>
     obtain⟨s,a,o,us,n,e,g,c,dd,q⟩:=r1;exact⟨a,o,us,n,e,g,c,dd,s,q⟩
    | succ i =>
     obtain⟨a,o,us,n,e,z⟩:=ih i d (by simpa using hi) r2;exact⟨a,o,us,n,by simpa using e,by simpa using z⟩
 exact λ {rows its} i hi r=>main i _ hi r
theorem dA.mE:∀ {rows:List (List PyData)} {its:List Value},dA h (t::sh) rows its->∃ fs,W.KatTups h its fs/\fs.length=its.length/\∀ v∈fs,(t=true/\∃ x k,v=Value.str x k)\/(t=false/\∃ i k,v=Value.int i k)
 | [],its,r=>by
  cases r;exact⟨[],.nil,rfl,λ v hv=>by simp at hv⟩
 | row::rows,its,r=>by
  cases r with
  | cons r1 r2 =>
   obtain⟨fs,h1,h2,h3⟩:=dA.mE r2;obtain⟨s,a,o,us,n,e,g,c,dd,q⟩:=r1;subst e
   match row,s with
   | d::ds,s =>
    obtain⟨f,us2,eu,hf⟩:∃ f us2,us.toList=f::us2/\((t=true/\∃ x k,f=Value.str x k)\/(t=false/\∃ i k,f=Value.int i k)):=by
     generalize us.toList=ul at q;cases q with
     | @cons _ u _ ul2 q1 q2 =>
      refine⟨u,ul2,rfl,?_⟩;cases t with
      | true =>
       obtain⟨⟨x,rfl⟩,_⟩:=s;rcases q1 with ⟨_,_,e,_⟩ | ⟨_,k,e,e'⟩
       ·cases e
       ·exact .inl ⟨rfl,_,_,e'⟩
      | false =>
       obtain⟨⟨x,rfl⟩,_⟩:=s;rcases q1 with ⟨_,k,e,e'⟩ | ⟨_,_,e,_⟩
       ·exact .inr ⟨rfl,_,_,e'⟩
       ·cases e
    have e0:us[0]? =some f:=by
     have:us.toList[0]? =some f:=by rw[eu];rfl
     simpa using this
    refine⟨f::fs,.cons g c dd e0 h1,by simp[h2],λ v hv=>?_⟩;rcases List.mem_cons.mp hv with rfl | hv
    ·exact hf
    ·exact h3 v hv
   | [],s=>cases t<;>cases s
end
section
variable {X:Cx}{K:FG}
theorem qa(I:Inv X pins σ H s):∀ {rows:List (List PyData)} {vs:List V} {its:List Value},(∀ r∈rows,Shape sh r)->aV X.K H (rows.map PyData.tuple) vs->Vals vs its->dA s.heap sh rows its
 | [],vs,its,_,h,r=>by simp only[List.map_nil,aV] at h;subst h;cases r;exact .nil
 | row::rows,vs,its,hs,h,r=>by
  simp only[List.map_cons,aV] at h;obtain⟨v,rs,e,h1,h2⟩:=h;subst e;cases r with
  | cons r1 r2 =>
   simp only[aD] at h1;obtain⟨a,us,ev,hq,ra⟩:=h1;subst ev;cases r1;obtain⟨uts,ru,⟨o,ho,hc,n,hd⟩,_⟩:=I.tuple hq;have s1:=hs row (by simp);exact .cons ⟨s1,a,o,uts.toArray,n,rfl,ho,hc,hd,by simpa using jI s1 ra ru⟩ (qa I (λ r hr=>hs r (by simp[hr])) h2 r2)
def nK(rows:List (List PyData)):List W:=rows.map λ r=>.d (.tuple r)
end
section
variable {X:Cx}{K:FG}
end
section
variable {X:Cx}{K:FG}
end
end D
namespace Rc
open L2 D
section
variable {α:Type}(nm:α->Str)
variable {nm}
end
mutual
def okD:Nat->PyData->Bool
 | _,.none=>true
 | _,.bool _=>true
 | _,.int i=>decide (i.natAbs<2 ^ 100)
 | _,.str z=>vP z
 | k+1,.list ds=>okA k ds
 | k+1,.tuple ds=>okA k ds
 | _,_=>false
def okA:Nat->List PyData->Bool
 | _,[]=>true
 | k,d::ds=>okD k d&&okA k ds
end
theorem u7:∀ {ds:List PyData},(∀ d∈ds,okD k d=true)->okA k ds=true
 | [],_=>by simp[okA]
 | d::ds,h=>by simp only[okA,Bool.and_eq_true];exact⟨h d (by simp),u7 λ x hx=>h x (by simp[hx])⟩
theorem uw(h:vP z=true):Asc z:=vA h
theorem qf(h:Asc z):PyData.strOk z=true:=by
 unfold PyData.strOk;rw[Array.all_eq_true_iff_forall_mem];intro c hc;exact decide_eq_true (by have:=h c (by simpa using hc);omega)
theorem wM(h:vP z=true):PyData.strOk z=true:=qf (uw h)
mutual
theorem qd:∀ (k:Nat) (d:PyData),okD k d=true->PyData.canLay0 d=true
 | _,.none,_=>by simp[PyData.canLay0]
 | _,.bool _,_=>by simp[PyData.canLay0]
 | _,.int i,h=>by simp[PyData.canLay0]
 | _,.str z,h=>by
  cases ‹Nat› <;> simp only[okD] at h<;>simp[PyData.canLay0,wM h]
 | k+1,.list ds,h=>by simp only[okD] at h;simp only[PyData.canLay0];exact lQ k ds h
 | k+1,.tuple ds,h=>by simp only[okD] at h;simp only[PyData.canLay0];exact lQ k ds h
 | 0,.list ds,h=>by simp[okD] at h
 | 0,.tuple ds,h=>by simp[okD] at h
 | k,.dict kvs,h=>by cases k<;>simp[okD] at h
theorem lQ:∀ (k:Nat) (ds:List PyData),okA k ds=true->PyData.canLayAll0 ds=true
 | _,[],_=>by simp[PyData.canLayAll0]
 | k,d::ds,h=>by simp only[okA,Bool.and_eq_true] at h;simp only[PyData.canLayAll0,qd k d h.1,lQ k ds h.2,Bool.and_self]
end
mutual
theorem mX:∀ (k:Nat) (d:PyData),okD k d=true->PyData.depth d<=k+1
 | _,.none,_=>by simp[PyData.depth]
 | _,.bool _,_=>by simp[PyData.depth]
 | _,.int i,h=>by simp[PyData.depth]
 | _,.str z,h=>by simp[PyData.depth]
 | k+1,.list ds,h=>by simp only[okD] at h;have:=gE k ds h;simp only[PyData.depth];omega
 | k+1,.tuple ds,h=>by simp only[okD] at h;have:=gE k ds h;simp only[PyData.depth];omega
 | 0,.list ds,h=>by simp[okD] at h
 | 0,.tuple ds,h=>by simp[okD] at h
 | k,.dict kvs,h=>by cases k<;>simp[okD] at h
theorem gE:∀ (k:Nat) (ds:List PyData),okA k ds=true->PyData.depthAll ds<=k+1
 | _,[],_=>by simp[PyData.depthAll]
 | k,d::ds,h=>by simp only[okA,Bool.and_eq_true] at h;have h1:=mX k d h.1;have h2:=gE k ds h.2;simp only[PyData.depthAll];omega
end
mutual
theorem vh:∀ (k:Nat) (d:PyData),okD k d=true->PyData.hasDict d=false
 | _,.none,_=>by simp[PyData.hasDict]
 | _,.bool _,_=>by simp[PyData.hasDict]
 | _,.int i,h=>by simp[PyData.hasDict]
 | _,.str z,h=>by simp[PyData.hasDict]
 | k+1,.list ds,h=>by simp only[okD] at h;simp only[PyData.hasDict];exact mj k ds h
 | k+1,.tuple ds,h=>by simp only[okD] at h;simp only[PyData.hasDict];exact mj k ds h
 | 0,.list ds,h=>by simp[okD] at h
 | 0,.tuple ds,h=>by simp[okD] at h
 | k,.dict kvs,h=>by cases k<;>simp[okD] at h
theorem mj:∀ (k:Nat) (ds:List PyData),okA k ds=true->PyData.hasDictAll ds=false
 | _,[],_=>by simp[PyData.hasDictAll]
 | k,d::ds,h=>by simp only[okA,Bool.and_eq_true] at h;simp only[PyData.hasDictAll,vh k d h.1,mj k ds h.2,Bool.or_self]
end
theorem sg(hk:k<=50)(h:okD k d=true):uZ d=true:=by have h1:=qd k d h;have h2:=mX k d h;have h3:=vh k d h;simp only[uZ,SeqAt.shaped,h1,h3,Bool.true_and,Bool.not_false,Bool.and_true];exact decide_eq_true (by omega)
theorem tm(hk:k<=50)(h:okD k d=true)(h':okD k d'=true):eS d d'=true:=by have h1:=sg hk h;have h2:=sg hk h';cases d<;>cases d'<;>simp[eS,h1,h2]
theorem yd(h:okD k d=true):PyData.eqv d d=true:=SeqAt.eqv_refl _ (qd k d h)
theorem zw{M:MH}{a b:Addr}{o u:MO}(ha:M a=some o)(hb:M b=some u)(h:o≠u):a≠b:=λ e=>h (by rw[e,hb] at ha;exact(Option.some.inj ha).symm)
theorem bU{M:MH}{a b:Addr}{o:MO}(ha:M a=some o)(hb:M b=none):a≠b:=λ e=>by rw[e,hb] at ha;cases ha
theorem ck{M:MH}{a b:Addr}{o u:MO}(h:M a=some o)(hb:M b=none):aT M b u a=some o:=by rw[ax (bU h hb)];exact h
end Rc
namespace Stc
open L2 D Rc
end Stc
namespace D
open L2
section
variable {K:FG}
def uV(di:TId)(g:TGd)(tt:TTd)(te:TD)(k:Nat)(fr:List Nat)(τ:DS)(M:MH)(Q:QD):Prop:=di τ M λ ws M1=>∃ P:Nat->List PyData->DS->MH->Prop,P 0 [] (uQ k fr τ) M1 /\
 (∀ i w acc τ M,ws[i]? =some w->P i acc τ M->acc.length<sizeLine/\g w τ M λ τ2 M2=>tt τ2 M2 λ b M3=>if b=true then te τ2 M3 λ y M4=>∃ d,y=.d d/\P (i+1) (acc++[d]) τ2 M4 else P (i+1) acc τ2 M3) /\
 ∀ acc τ M,P ws.length acc τ M->∀ p,M p=none->Q (.m p) (aT M p (.lst (acc.map W.d)))
theorem rG(h:up K (uV di g tt te k fr) σ H Q) :
  tLC (upI K di) (upG K g) (upT K tt) (up K te) k fr σ H Q:=by
 obtain⟨τ,M,Qd,A,h,kk⟩:=h;refine⟨τ,M,_,A,h,λ J H1 ws M1 kp m1 it hq64=>?_⟩;obtain⟨P,p0,pt,pe⟩:=hq64;refine⟨λ i n ys σ' H'=>n=ws.length-i/\i<=ws.length/\Kp H1 H'/\∃ acc τ M,aV K H' acc ys/\Abs K H' σ' τ M/\P i acc τ M,⟨ws.length,by simp,Nat.zero_le _,Kp.refl _,[],_,M1,by simp[aV],j9 (A.go kp m1) k fr,p0⟩,?_⟩;rintro i n ys σ2 H2 ⟨rfl,hi,kp2,acc,τ2,M2,ra,A2,p2⟩;obtain⟨go,stop,yld⟩:=it H2 kp2 i
 by_cases hlt:i<ws.length
 ·have hlen:=ra.length;refine .inr ⟨go hlt,?_,λ x H3 y=>?_⟩
  ·obtain⟨w,hw⟩:∃ w,ws[i]? =some w:=⟨ws[i],by simp[hlt]⟩;have:=(pt i w acc τ2 M2 hw p2).1;omega
  obtain⟨kp3,mk,w,ew,rw⟩:=yld x H3 hlt y;refine⟨w,τ2,M2,_,rw,A2.go kp3 (mk _ A2.mem),(pt i w acc τ2 M2 ew p2).2,λ σ4 H4 τ4 M4 kp4 A4 q4=>⟨τ4,M4,_,A4,q4,λ b H5 M5 kp5 m5 q5=>?_⟩⟩;have kq:=(kp3.trans kp4).trans kp5;cases b with
  | false =>
   rw[if_neg Bool.false_ne_true] at q5;show(if false=true then _ else _);rw[if_neg Bool.false_ne_true];exact⟨ws.length-(i+1),by omega,rfl,hlt,kp2.trans kq,acc,τ4,M5,ra.keep kq,A4.go kp5 m5,q5⟩
  | true =>
   rw[if_pos rfl] at q5;show(if true=true then _ else _);rw[if_pos rfl];refine⟨τ4,M5,_,A4.go kp5 m5,q5,λ v H6 wv M6 kp6 r6 m6 hq65=>?_⟩;obtain⟨d,e6,q6⟩:=hq65;subst e6;refine⟨ws.length-(i+1),by omega,rfl,hlt,kp2.trans (kq.trans kp6),acc++[d],τ4,M6,aV.append (ra.keep (kq.trans kp6)) ?_,A4.go (kp5.trans kp6) m6,q6⟩;simp only[aV];exact⟨v,[],rfl,r6,rfl⟩
 ·have hl:i=ws.length:=by omega
  subst hl;refine .inl ⟨stop (Nat.le_refl _),λ p hp=>?_⟩;have kp9:Kp H2 (upd H2 p (.lst ys)):=Kp.new hp;exact kgo kk (kp.trans kp2) _ _ (.m p) _ kp9 rfl (A2.mem.put (mo:=.lst (acc.map W.d)) kp9 ⟨_,av,(ra.keep kp9).ws⟩) (pe acc τ2 M2 p2 p (A2.mem.free hp))
variable {X:Cx}{sc:Scope}{own:List Str}{fr:List Nat}{di:TId}{g:TGd}{tt:TTd}{te:TD}{tg iter elt:Expr}{ifs:List Expr}{pos:Pos}
theorem xn(hc:X.calm=true)(L:iE X sc own fr)(hi:PId X tg iter di)
  (hg:∀ cl C s H ex pl,PGd (blk X sc (lcN X own fr) cl C s H ex pl) tg g)(ht:∀ cl C s H ex pl,lK (blk X sc (lcN X own fr) cl C s H ex pl) ifs tt)(he:∀ cl C s H ex pl,PD (blk X sc (lcN X own fr) cl C s H ex pl) elt te)
  (hs:∀ x,foldedSetIterable iter X.env x=pure x:=by intro _;rfl):PD X (.ListComp elt [⟨tg,iter,ifs,0⟩] sc pos) (uV di g tt te own.length fr):=
 eW (wd hc L hi hg ht he hs) λ σ H Q h=>rG h
end
section
variable {X:Cx}{K:FG}
end
theorem xG(hc:X.calm=true)(L:iE X sc own fr)(hi:Jd (PId X tg iter di))
  (hg:∀ cl C s H ex pl,Jd (PGd (blk X sc (lcN X own fr) cl C s H ex pl) tg g))(ht:∀ cl C s H ex pl,Jd (lK (blk X sc (lcN X own fr) cl C s H ex pl) ifs tt))(he:∀ cl C s H ex pl,Jd (PD (blk X sc (lcN X own fr) cl C s H ex pl) elt te))
  (hs:∀ x,foldedSetIterable iter X.env x=pure x:=by intro _;rfl):Jd (PD X (.ListComp elt [⟨tg,iter,ifs,0⟩] sc pos) (uV di g tt te own.length fr)):=
 ⟨D.xn hc L hi.h (λ cl C s H ex pl=>(hg cl C s H ex pl).h) (λ cl C s H ex pl=>(ht cl C s H ex pl).h) (λ cl C s H ex pl=>(he cl C s H ex pl).h) hs⟩
section
variable {P:Program}{w:World}{K:FG}{mg:Str->Option Value}{base h:Heap}
end
def uP(c:TTd)(tb:TSd)(D:Ed)(τ:DS)(M:MH):Prop:=∃ P:Nat->DS->MH->Prop,(∃ m,P m τ M)/\∀ m τ M,P m τ M ->
 c τ M λ b M1=>if b=true then tb {D with nx:=λ τ' M'=>∃ m',m'<m/\P m' τ' M',ct:=λ τ' M'=>∃ m',m'<m/\P m' τ' M',bk:=D.nx} τ M1 else D.nx τ M1
end D
open L2 D
theorem oA(hp:PassesOwn (model X.prog X.w) X.A X.env X.xe)(hc:Jd (PTd X c tc))(hb:Jd (lh X body tb)):Jd (PSd X (.While c body [] pos) (uP tc tb)):=⟨have hc:=hc.h;have hb:=hb.h;
 mH (sJ hp hc hb) λ D σ H hq66=>by
  obtain⟨τ,M,Dd,A,⟨P,⟨m0,p0⟩,step⟩,k1,k2,k3,k4⟩:=hq66;refine⟨λ m σ' H'=>Kp H H'/\∃ τ' M',Abs X.K H' σ' τ' M'/\P m τ' M',⟨m0,Kp.refl _,τ,M,A,p0⟩,?_⟩;rintro m σ1 H1 ⟨kp,τ1,M1,A1,p1⟩;refine⟨τ1,M1,_,A1,step m τ1 M1 p1,λ b H2 M2 kp2 m2 q=>?_⟩;have kq:=kp.trans kp2;cases b with
  | false =>
   rw[if_neg Bool.false_ne_true] at q;exact vL (k1 _ H2 _ M2 kq (A1.go kp2 m2) q)
  | true =>
   rw[if_pos rfl] at q;refine yv ⟨λ σ' H'=>Kp H2 H'/\∃ m',m'<m/\∃ τ' M',Abs X.K H' σ' τ' M'/\P m' τ' M',λ σ' H' ⟨kp3,m',hm,τ',M',A',p'⟩=>⟨m',hm,kq.trans kp3,τ',M',A',p'⟩,?_⟩;exact⟨τ1,M2,_,A1.go kp2 m2,q,λ σ3 H3 τ3 M3 kp3 A3 ⟨m',hm,p'⟩=>⟨kp3,m',hm,τ3,M3,A3,p'⟩,λ v H3 w M3 kp3=>k2 v H3 w M3 (kq.trans kp3),λ σ3 H3 τ3 M3 kp3=>k1 σ3 H3 τ3 M3 (kq.trans kp3),λ σ3 H3 τ3 M3 kp3 A3 ⟨m',hm,p'⟩=>⟨kp3,m',hm,τ3,M3,A3,p'⟩⟩⟩
namespace Stc
open L2 D Rc
def Ext(M M':MH):Prop:=∀ q o,M q=some o->M' q=some o
theorem Ext.trans(h:Ext A B)(k:Ext B C):Ext A C:=λ q o e=>k q o (h q o e)
theorem Ext.new(h:M p=none):Ext M (aT M p o):=λ q u e=>ck e h
theorem Ext.del(h:Ext M M')(hp:M p=none):Ext M (nC M' p):=λ q u e=>by have hq:q≠p:=bU e hp;simp only[nC,if_neg hq];exact h q u e
theorem Ext.none(h:Ext M M')(hp:M' p=none):M p=none:=by
 cases e:M p with
 | none=>rfl
 | some o=>rw[h p o e] at hp;cases hp
theorem Ext.bag(h:Ext M M')(hb:Bag M p):Bag M' p:=by obtain⟨a,b,c,ns,e,z⟩:=hb;exact⟨a,b,c,ns,h _ _ e,z⟩
theorem sm{α:Type}{gt:TGd}{te:TD}{Q:List PyData->DS->MH->Prop}{τ0:DS}{M:MH}(L:List α)(g:α->W)(f:α->PyData)(S:DS->Prop)(hL:L.length<=1000)(h0:S τ0)
  (step:∀ a∈L,∀ τ,S τ->∀ R:PyData->DS->MH->Prop,(∀ τ2,S τ2->R (f a) τ2 M)->gt (g a) τ M λ τ2 M2=>te τ2 M2 λ y M4=>∃ d,y=.d d/\R d τ2 M4)
  (q:∀ τ,Q (L.map f) τ M) :
  ∃ P:Nat->List PyData->DS->MH->Prop,P 0 [] τ0 M /\
   (∀ i w acc τ M,(L.map g)[i]? =some w->P i acc τ M->acc.length<sizeLine/\gt w τ M λ τ2 M2=>oF τ2 M2 λ b M3=>if b=true then te τ2 M3 λ y M4=>∃ d,y=.d d/\P (i+1) (acc++[d]) τ2 M4 else P (i+1) acc τ2 M3) /\
   ∀ acc τ M,P (L.map g).length acc τ M->Q acc τ M:=by
 refine⟨λ i acc τ M'=>M'=M/\acc=(L.take i).map f/\S τ,⟨rfl,rfl,h0⟩,?_,?_⟩
 ·rintro i w acc τ M' hw ⟨rfl,rfl,hs⟩;rw[List.getElem?_map] at hw;cases e:L[i]? with
  | none=>rw[e] at hw;cases hw
  | some a =>
   rw[e] at hw;cases hw;have hi:=(List.getElem?_eq_some_iff.mp e).1;refine⟨by rw[List.length_map,List.length_take];have:=s16;omega,?_⟩;refine step a (List.mem_of_getElem? e) τ hs (λ d τ2 M4=>M4=M'/\(L.take i).map f++[d]=(L.take (i+1)).map f/\S τ2) λ τ2 h2=>⟨rfl,?_,h2⟩;rw[List.take_succ,e];simp
 ·rintro acc τ M' ⟨rfl,rfl,hs⟩;rw[List.length_map,List.take_length];exact q τ
theorem sealed(hl:M l=none):Ext M (nC (aT M l o) l):=(Ext.new hl).del hl
theorem iS{α β:Type}{L:List α}{f:α->β}{i:Nat}{w:β}(h:(L.map f)[i]? =some w):∃ a,L[i]? =some a/\w=f a:=by
 rw[List.getElem?_map] at h;cases e:L[i]? with
 | none=>rw[e] at h;cases h
 | some a=>rw[e] at h;cases h;exact⟨a,rfl,rfl⟩
theorem t5{α:Type}{xs:List α}{i:Nat}(hi:i<=xs.length):D.cutD xs none (some (i:Int))=xs.take i:=by
 unfold D.cutD;have e:HT.sIx xs.length 0 none=0:=rfl;have e2:HT.sIx xs.length xs.length (some (i:Int))=i:=by
  unfold HT.sIx;simp;rw[if_neg (by omega)];omega
 rw[e,e2];simp
theorem vF{c:Bool}{A B:Prop}(e:c=false)(h:B):if c=true then A else B:=by rw[e];exact vL h
theorem rz{L:List Str}(h:L.Nodup){i:Nat}{z:Str}(e:L[i]? =some z):z ∉ L.take i:=by intro hm;obtain⟨j,hj,ej⟩:=List.getElem_of_mem hm;rw[List.length_take] at hj;rw[List.getElem_take] at ej;obtain⟨hi,ei⟩:=List.getElem?_eq_some_iff.mp e;have:=(List.getElem_inj (h₀:=by omega) (h₁:=hi) h).mp (ej.trans ei.symm);omega
end Stc
namespace HT
open PySem PyProof.Rows
section
open PySem.SeqAt
open PySem.MeetsSeq PySem.MeetsSeq2 PySem.MeetsSeq3
end
end HT
namespace D
open L2
section
variable {X:Cx}{K:FG}
end
end D
namespace Stc
open L2 D Rc
end Stc
namespace D
open L2
end D
open L2 D
namespace L2
theorem jy(I:Nat->Shared->Prop)
  (turn:∀ n s,I n s->wpAny (model prog w) A (pyNext it) (λ r s₁=>match r with
   | none=>R (.ok .next) s₁
   | some v=>wpAny (model prog w) A (letOwnedTupleGo target it v) (λ _ s₁'=>wpAny (model prog w) A (assign target env v) (λ _ s₂ =>
     wpAny (model prog w) A (lR ifs env) (λ ok s₃ =>
      if ok=true then wpAny (model prog w) A (eval kx env) (λ kv s₄=>wpAny (model prog w) A (eval vx env) (λ vv s₅ =>
       wpAny (model prog w) A (dictSet D kv vv) (λ _ s₆=>∃ m,m<n/\I m s₆) (λ _ _=>False) s₅) (λ _ _=>False) s₄) (λ _ _=>False) s₃
      else ∃ m,m<n/\I m s₃) (λ _ _=>False) s₂) (λ _ _=>False) s₁') (λ _ _=>False) s₁) (λ _ _=>False) s)
  (n:Nat)(h:I n s) :
  codeAny (model prog w) A (.compLoop (.DictComp kx vx [⟨target,iter,ifs,0⟩] scope pos) 0 it (.ref D) env) R s:=by
 refine codeAny_loop rfl I (λ n s hI=>?_) n h;show wpAny _ A ((compTurn (.DictComp kx vx [⟨target,iter,ifs,0⟩] scope pos) 0 it (.ref D) env).onRaise (λ x=>do noteFrame x env;theTreesLotGoes x)) _ _ s;refine wpAny_noted ?_;rw[compTurn_dict];refine wpAny_bind (wpAny_standAt (wpAny_bind (wpAny_mono (turn n s hI) (λ r s₁ h₁=>?_) λ _ _ h'=>h'.elim)));cases r with
 | none=>exact wpAny_pure h₁
 | some v =>
  refine wpAny_bind (wpAny_mono h₁ (λ _ s₁' h₁'=>?_) λ _ _ h'=>h'.elim);refine wpAny_bind (wpAny_mono h₁' (λ _ s₂ h₂=>wpAny_bind (wpAny_mono h₂ (λ ok s₃ h₃=>?_) λ _ _ h'=>h'.elim)) λ _ _ h'=>h'.elim);cases ok with
  | false=>exact wpAny_pure ⟨rfl,h₃⟩
  | true =>
   refine wpAny_bind ?_;refine wpAny_bind (wpAny_mono h₃ (λ kv s₄ h₄=>wpAny_bind (wpAny_holding (wpAny_mono h₄ (λ vv s₅ h₅=>wpAny_bind (wpAny_standAt (wpAny_holding (wpAny_mono h₅ (λ _ s₆ h₆=>wpAny_pure ⟨rfl,h₆⟩) λ _ _ h'=>h'.elim)))) λ _ _ h'=>h'.elim))) λ _ _ h'=>h'.elim)
theorem qh(I:Inv X pins σ H s)(e:H a=some (.dK kvs))(l:kvs.length<sizeLine)(ry:RelV (kV k) u)(rv:RelV v r)(h:∀ s',Inv X pins σ (upd H a (.dK (putK kvs k v))) s'->Q () s') :
  wpAny (model X.prog X.w) A (dictSet a u r) Q E s:=by
 obtain⟨z,hd,vs,rel,dd⟩:=aaC I.hok e;have hz:vs.length<=sizeLine:=by rw[<- rel.length];exact z
 have hl:(putK kvs k v).length<=sizeLine:=by have:=eD kvs k v;omega
 refine wpAny_dictSet_pairs (hsz:=hz) (rQ ry) dd λ h' dd' hs=>h _ ?_;have he:∃ q,h'.get? a=some q:=let ⟨q,_,_,hq,_⟩:=dd'; ⟨q,hq⟩;exact lV I (by rw[e];exact True.intro) hs he (rJ hl hd (rel.put k rv) dd')
abbrev DcW:=Nat->Nat->St->Hp->Prop
def vg(J:It)(g:TG)(tt:TT)(tk tv:TE)(D:Addr)(W:DcW)(Fin:Hp->Prop):Prop:=∀ i m τ H,W i m τ H ->
 (J.stop i H/\Fin H)\/(J.go i H/\∀ x H',J.yld i H x H'->g x τ H' λ τ2 H2=>tt τ2 H2 λ b H3 =>
  if b=true then tk τ2 H3 λ y H4=>tv τ2 H4 λ z H5=>∃ kvs k,H5 D=some (.dK kvs)/\y=kV k/\kvs.length<sizeLine/\∃ m',m'<m/\W (i+1) m' τ2 (upd H5 D (.dK (putK kvs k z))) else ∃ m',m'<m/\W (i+1) m' τ2 H3)
section
variable {X:Cx}{pins:PN}{σ:St}{H:Hp}{s:Shared}{sc:Scope}{own:List Str}{fr:List Nat}{cl:List (Str×Addr)}{fp:List Addr}{it D:Addr}{J:It}{tn:Nat->Heap->Prop}{g:TG}{tt:TT}{tk tv:TE}{W:DcW}{Fin:Hp->Prop}
 {kx vx tg iter:Expr}{ifs:List Expr}{pos:Pos}{E:VP}
theorem xh{RR:Addr->Result->Shared->Prop}(hc:X.calm=true)(L:iE X sc own fr)(hcl1:∀ n c,cl.lookup n=some c->X.env.cells.lookup n=some c)(hcl2:∀ n,(n,NameKind.free)∈sc.names->∃ c,cl.lookup n=some c)
  (hg:∀ C s H ex pl,PG (blk X sc (lcN X own fr) cl C s H ex pl) tg g)(ht:∀ C s H ex pl,PTs (blk X sc (lcN X own fr) cl C s H ex pl) ifs tt)(hk:∀ C s H ex pl,PE (blk X sc (lcN X own fr) cl C s H ex pl) kx tk)(hv:∀ C s H ex pl,PE (blk X sc (lcN X own fr) cl C s H ex pl) vx tv)
  (I:Inv X pins σ H s)(T:Turn X.prog X.w X.K tg J fp it tn)(st:tn 0 s.heap)(hf:∀ b∈fp,fU X pins H b)(w0:∃ m,W 0 m (lcS own.length fr σ) H)(turn:vg J g tt tk tv D W Fin)
  (hRR:∀ (C:Addr) (s':Shared) (H':Hp) (m:Str->Option Value),Inv X pins σ H' s'->H' C=none->s.heap.objs.size<=C->s'.heap.Ns C m->Fin H'->RR C (.ok .next) s') :
  wpAny (model X.prog X.w) X.A (newFunctionEnv sc X.env.globals cl [] X.env.qual none .none (some X.env)) (λ cenv s₄ =>
   codeAny (model X.prog X.w) X.A (.compStart (.DictComp kx vx [⟨tg,iter,ifs,0⟩] sc pos) 0 (.ref it) (.ref D) {cenv with scope:=relabel sc X.env}) (RR cenv.locals) s₄) E s:=by
 refine wpAny_newFunctionEnv L.cell (by intro y hy;simp at hy) (λ h₁ hns₁ hsb₁=>?_) L.kind
 try dsimp only at hns₁ hsb₁ ⊢
 have below:∀ b,b<s.heap.objs.size->b≠s.heap.objs.size:=λ b hb=>Nat.ne_of_lt hb;have old:∀ b o,s.heap.get? b=some o->h₁.get? b=some o:=λ b o e=>hsb₁.extBut b o (below b (Heap.lt_size e)) (Heap.get?_push_of_some _ e);have hfb:∀ b∈fp,b<s.heap.objs.size:=λ b hb=>by obtain⟨o,e,_⟩:=T.obj 0 _ st b hb;exact Heap.lt_size e
 have I1:Inv (blk X sc (lcN X own fr) cl s.heap.objs.size s H fp pins) [] (lcS own.length fr σ) H {s with heap:=h₁,toks:=s.toks+([]:List (Str×Value)).length}:=pX L I hf hfb (Nat.le_refl _) hcl1 hcl2 hns₁ old;have st1:tn 0 h₁:=T.keep 0 _ _ st λ b _ o e=>old b o e;generalize hY:blk X sc (lcN X own fr) cl s.heap.objs.size s H fp pins=Y at I1;have hYp:Y.prog=X.prog:=by rw[<- hY];rfl
 have hYw:Y.w=X.w:=by rw[<- hY];rfl
 have hYK:Y.K=X.K:=by rw[<- hY];rfl
 have hYA:Y.A=X.A:=by rw[<- hY];rfl
 have hYc:Y.calm=true:=by rw[<- hY];exact hc
 have hYe:Y.env=compEnvC sc cl s.heap.objs.size X.env:=by rw[<- hY];rfl
 have hYx:Y.xe=λ _ _=>False:=by rw[<- hY];rfl
 have hYpn:Y.pn=X.pn++pins:=by rw[<- hY];rfl
 have hYs:Y.s₀=s:=by rw[<- hY];rfl
 have hYH:Y.H₀=H:=by rw[<- hY];rfl
 have hYex:Y.ex=fp:=by rw[<- hY];rfl
 have hYfs:Y.fs=frs X.stack:=by rw[<- hY];rfl
 have gY:=hg s.heap.objs.size s H fp pins;have tY:=ht s.heap.objs.size s H fp pins;have kY:=hk s.heap.objs.size s H fp pins;have vY:=hv s.heap.objs.size s H fp pins;rw[hY] at gY tY kY vY;have fpY:∀ {H':Hp},(∀ b∈fp,H' b=none)->∀ b∈fp,fU Y [] H' b:=λ {H'} hn b hb=>by
  obtain⟨_,f1,f2,f3,f4,f5⟩:=hf b hb;refine⟨hn b hb,by rw[hYe];exact below b (hfb b hb),?_,.inl (by rw[hYex];exact hb),λ x c e=>?_,λ p q=>?_⟩
  ·rw[hYfs];intro z;rcases List.mem_cons.mp (I.fJ _ z) with e | e
   ·exact f1 e
   ·exact f2 e
  ·rw[hYe] at e;exact f4 x c (hcl1 _ _ e)
  ·rw[List.append_nil,hYpn] at q;exact f5 p q
 have loop:∀ s₃:Shared,s₃={s with heap:=h₁,toks:=s.toks+([]:List (Str×Value)).length} ->
   codeAny (model X.prog X.w) X.A (.compLoop (.DictComp kx vx [⟨tg,iter,ifs,0⟩] sc pos) 0 (.ref it) (.ref D) (compEnvC sc cl s.heap.objs.size X.env)) (RR s.heap.objs.size) s₃:=by
  rintro s₃ rfl;obtain⟨m0,w0⟩:=w0;refine jy (λ n s'=>∃ i τ H',Inv Y [] τ H' s'/\tn i s'.heap/\(∀ b∈fp,H' b=none)/\W i n τ H') ?_ m0 ⟨0,_,H,I1,st1,λ b hb=>(hf b hb).1,w0⟩;rintro n s' ⟨i,τ,H',I',st',hn',w'⟩;rcases turn i n τ H' w' with ⟨stop,fin⟩ | ⟨go,step⟩
  ·have q:=T.done Y hYp hYw hYK hYc i _ s' τ H' (λ _ _=>False) I' (fpY hn') st' stop;rw[hYA] at q;refine thn q λ r s4 hq67=>?_;obtain⟨hr,I4⟩:=hq67;subst hr;have un:Un (frs X.stack) fp H H' s.heap s4.heap:=by have z:=I4.base;rw[hYfs,hYex,hYH,hYs] at z;exact z
   have os4:s4.os=s.os:=by have z:=I4.os;rw[hYs] at z;exact z
   have hok4:HOk X.prog X.w H' s4.heap:=by have z:=I4.hok;rw[hYp,hYw] at z;exact z
   have hch:∀ b∈fp,(b∈X.ex\/X.s₀.heap.objs.size<=b)/\b≠X.env.locals/\(∀ x c,X.env.cells.lookup x=some c->c≠b)/\∀ p∈X.pn++pins,p.1≠b:=λ b hb=>by obtain⟨_,f1,f2,f3,f4,f5⟩:=hf b hb;exact⟨f3,f1,f4,f5⟩
   have IX:Inv X pins σ H' s4:=I.yM os4 un hok4 I4.bare hch;obtain⟨mC,hmC,_⟩:=I4.loc;have hCf:=I4.free;rw[hYe] at hmC hCf;exact hRR _ s4 H' mC IX hCf (Nat.le_refl _) hmC fin
  ·have q:=T.item Y hYp hYw hYK hYc i _ s' τ H' (λ _ _=>False) I' (fpY hn') st' go;rw[hYA] at q;refine thn q λ r s4 hq68=>?_;obtain⟨u,hr,h4⟩:=hq68;subst hr;refine thn h4 λ _ s5 hq69=>?_;obtain⟨x,H5,I5,r5,y5,st5,fr5⟩:=hq69;have I5':=I5.pinned (fpY fr5) (T.obj _ _ st5);have g5:=gY _ s5 τ H5 x u _ I5' r5 (step x H5 y5);rw[hYp,hYw,hYA,hYe,hYx] at g5;refine thn g5 λ _ s6 hq70=>?_;obtain⟨σ6,H6,I6,q6⟩:=hq70;have t6:=tY _ s6 σ6 H6 _ I6 q6;rw[hYp,hYw,hYA,hYe,hYx] at t6;refine thn t6 λ ok s7 hq71=>?_;obtain⟨H7,I7,q7⟩:=hq71;have keepI:∀ {σ8:St} {H8:Hp} {s8:Shared},Inv Y ([]++gU fp s5.heap) σ8 H8 s8->tn (i+1) s8.heap/\∀ b∈fp,H8 b=none:=
    λ {σ8 H8 s8} I8=>by refine⟨T.keep _ _ _ st5 λ b hb o e=>(I8.pin (b,o) (List.mem_append_right _ (List.mem_append_right _ (cv hb e)))).1,λ b hb=>?_⟩;obtain⟨o,e,d⟩:=T.obj _ _ st5 b hb;exact(I8.pin (b,o) (List.mem_append_right _ (List.mem_append_right _ (cv hb e)))).2.1
   cases ok with
   | false =>
    rw[if_neg Bool.false_ne_true] at q7 ⊢;obtain⟨m',hm',w7⟩:=q7;obtain⟨c7,d7⟩:=keepI I7;exact⟨m',hm',i+1,σ6,H7,I7.cQ (λ p hp=>(nomatch hp)),c7,d7,w7⟩
   | true =>
    rw[if_pos rfl] at q7 ⊢;have e7:=kY _ s7 σ6 H7 _ I7 q7;rw[hYp,hYw,hYA,hYe,hYx] at e7;refine thn e7 λ ku s8 hq72=>?_;obtain⟨y,H8,I8,r8,q8⟩:=hq72;have e8:=vY _ s8 σ6 H8 _ I8 q8;rw[hYp,hYw,hYA,hYe,hYx] at e8;refine thn e8 λ vu s9 hq73=>?_;obtain⟨z,H9,I9,r9,kvs,k,hD,ey,hlt,m',hm',w9⟩:=hq73;subst ey;have r8':RelV (kV k) ku:=r8;have q9:=qh (A:=X.A) (E:=λ _ _=>False) (Q:=λ _ s₆=>∃ m,m<n/\∃ i τ H',Inv Y [] τ H' s₆/\tn i s₆.heap/\(∀ b∈fp,H' b=none)/\W i m τ H') I9 hD hlt r8' r9 λ s10 I10=>by obtain⟨c8,d8⟩:=keepI I10;exact⟨m',hm',i+1,σ6,_,I10.cQ (λ p hp=>(nomatch hp)),c8,d8,w9⟩
    rw[hYp,hYw] at q9;exact q9
 exact codeAny_compStart_dict (loop _ rfl) (T.self _ 0 _ _ _ st1 (loop _ rfl))
def tDC(wi:TI)(g:TG)(tt:TT)(tk tv:TE)(k:Nat)(fr:List Nat):TE:=λ σ H Q=>wi σ H λ J H1=>∀ p,H1 p=none->∃ W:DcW,(∃ m,W 0 m (lcS k fr σ) (upd H1 p (.dK [])))/\vg J g tt tk tv p W λ H2=>Q (.ref p) H2
theorem abk(hc:X.calm=true)(L:iE X sc own fr)(hi:PI X tg iter wi)
  (hg:∀ cl C s H ex pl,PG (blk X sc (lcN X own fr) cl C s H ex pl) tg g)(ht:∀ cl C s H ex pl,PTs (blk X sc (lcN X own fr) cl C s H ex pl) ifs tt)(hk:∀ cl C s H ex pl,PE (blk X sc (lcN X own fr) cl C s H ex pl) kx tk)(hv:∀ cl C s H ex pl,PE (blk X sc (lcN X own fr) cl C s H ex pl) vx tv)
  (hs:∀ x,foldedSetIterable iter X.env x=pure x:=by intro _;rfl):PE X (.DictComp kx vx [⟨tg,iter,ifs,0⟩] sc pos) (tDC wi g tt tk tv own.length fr):=by
 intro pins s σ H Q I h;obtain⟨cl,hcl,c1,c2⟩:=fe L I.ok;show wpAny _ _ (comprehension (.DictComp kx vx [⟨tg,iter,ifs,0⟩] sc pos) sc X.env _ newDict false (eval iter X.env)) _ _ _;refine wpAny_comprehension_free (use:=none) (g:=⟨tg,iter,ifs,0⟩) (gs:=[]) rfl hs hcl L.kind L.names ?_;refine thn (hi pins s σ H _ I h) λ v s1 h1=>thn h1 λ itv s2 h2=>?_;obtain⟨it,fp,tn,J,H2,e,I2,T,st2,f2,q2⟩:=h2;subst e;obtain⟨W,w0,turn⟩:=q2 _ (I2.hok.fresh (Nat.le_refl s2.heap.objs.size));refine wpAny_newObj_type ?_;have I3:=I2.laid (a:=s2.heap.objs.size) (o:=.dK []) (h':=s2.heap.push {cls:=.type "dict",data:=.dict #[]}) (t':=s2.toks) (λ _ _ q=>Heap.get?_push_of_some _ q) (Nat.le_refl _) (mF s2.heap I2.big);have hfb:∀ b∈fp,b<s2.heap.objs.size:=λ b hb=>by obtain⟨o,e,_⟩:=T.obj 0 _ st2 b hb;exact Heap.lt_size e
 have f3:∀ b∈fp,fU X pins (upd H2 s2.heap.objs.size (.dK [])) b:=λ b hb=>by obtain⟨f0,fr⟩:=f2 b hb;exact⟨by rw[aj (Nat.ne_of_lt (hfb b hb))];exact f0,fr⟩
 have st3:tn 0 (s2.heap.push {cls:=.type "dict",data:=.dict #[]}):=T.keep 0 _ _ st2 λ b _ o e=>Heap.get?_push_of_some _ e;refine xh (cl:=cl) hc L c1 c2 (hg cl) (ht cl) (hk cl) (hv cl) I3 T st3 f3 w0 turn λ C s' H' m I' hC dC hns fin=>?_;refine⟨m,hns,λ h' sb=>?_⟩;have hC2:s2.heap.objs.size<=C:=Nat.le_trans (by rw[Heap.size_push];exact Nat.le_succ _) dC;obtain⟨_,z2,_,_,z3,z4⟩:=I2.rZ (H':=λ _=>none) hC2 rfl;have I4:Inv X pins σ H' {s' with heap:=h'}:=I'.turned (t':=s'.toks) (λ b o hb e=>sb.extBut b o hb e) hC z2 (.inr (Nat.le_trans I2.sz hC2)) z3 z4;exact⟨.ref _,_,I4,rfl,fin⟩
end
end L2
namespace D
open L2
section
variable {K:FG}
def dDC(di:TId)(g:TGd)(tt:TTd)(tk tv:TD)(k:Nat)(fr:List Nat)(τ:DS)(M:MH)(Q:QD):Prop:=di τ M λ ws M1=>∀ p,M1 p=none->∃ P:Nat->DS->MH->Prop,P 0 (uQ k fr τ) (aT M1 p (.dic [])) /\
 (∀ i w τ M,ws[i]? =some w->P i τ M->g w τ M λ τ2 M2=>tt τ2 M2 λ b M3=>if b=true then tk τ2 M3 λ y M4=>tv τ2 M4 λ z M5=>∃ kvs key,M5 p=some (.dic kvs)/\y=kW key/\kvs.length<sizeLine/\P (i+1) τ2 (aT M5 p (.dic (oE kvs key z))) else P (i+1) τ2 M3) /\
 ∀ τ M,P ws.length τ M->Q (.m p) M
theorem aaW(h:up K (dDC di g tt tk tv k fr) σ H Q) :
  tDC (upI K di) (upG K g) (upT K tt) (up K tk) (up K tv) k fr σ H Q:=by
 obtain⟨τ,M,Qd,A,h,kk⟩:=h;refine⟨τ,M,_,A,h,λ J H1 ws M1 kp m1 it hall p hp=>?_⟩;obtain⟨P,p0,pt,pe⟩:=hall p (m1.free hp);have kpn:Kp H1 (upd H1 p (.dK [])):=Kp.new hp;have mn:cn K (upd H1 p (.dK [])) (aT M1 p (.dic [])):=m1.put (mo:=.dic []) kpn ⟨_,av,.nil⟩;refine⟨λ i n σ' H'=>n=ws.length-i/\i<=ws.length/\Kp (upd H1 p (.dK [])) H'/\∃ τ M,Abs K H' σ' τ M/\P i τ M,⟨ws.length,by simp,Nat.zero_le _,Kp.refl _,_,_,j9 (A.go (kp.trans kpn) mn) k fr,p0⟩,?_⟩;rintro i n σ2 H2 ⟨rfl,hi,kp2,τ2,M2,A2,p2⟩;obtain⟨go,stop,yld⟩:=it H2 (kpn.trans kp2) i
 by_cases hlt:i<ws.length
 ·refine .inr ⟨go hlt,λ x H3 y=>?_⟩;obtain⟨kp3,mk,w,ew,rw⟩:=yld x H3 hlt y;refine⟨w,τ2,M2,_,rw,A2.go kp3 (mk _ A2.mem),pt i w τ2 M2 ew p2,λ σ4 H4 τ4 M4 kp4 A4 q4=>⟨τ4,M4,_,A4,q4,λ b H5 M5 kp5 m5 q5=>?_⟩⟩;have kq:=(kp3.trans kp4).trans kp5;cases b with
  | false =>
   rw[if_neg Bool.false_ne_true] at q5;exact vL ⟨ws.length-(i+1),by omega,rfl,hlt,kp2.trans kq,τ4,M5,A4.go kp5 m5,q5⟩
  | true =>
   rw[if_pos rfl] at q5;refine yv ⟨τ4,M5,_,A4.go kp5 m5,q5,λ ky H6 wy M6 kp6 r6 m6 q6=>⟨τ4,M6,_,A4.go (kp5.trans kp6) m6,q6,λ v H7 wv M7 kp7 r7 m7 hq74=>?_⟩⟩;obtain⟨kvs,key,hm,ey,hl,q7⟩:=hq74;subst ey;obtain⟨l,e,pr⟩:=m7 _ _ hm;have kp8:Kp H7 (upd H7 p (.dK (putK l key v))):=Kp.set e (λ _ z=>nomatch z) (λ _ _ z=>nomatch z);refine⟨l,key,e,pW r6,by rw[<- o9 pr];exact hl,ws.length-(i+1),by omega,rfl,hlt,kp2.trans (((kq.trans kp6).trans kp7).trans kp8),τ4,_,A4.go (((kp5.trans kp6).trans kp7).trans kp8) (m7.put (mo:=.dic (oE kvs key wv)) kp8 ⟨_,av,?_⟩),q7⟩;exact Paired.fw (uI key r7 pr) λ p q z=>⟨z.1,z.2.keep kp8⟩
 ·have hl:i=ws.length:=by omega
  subst hl;refine .inl ⟨stop (Nat.le_refl _),?_⟩;exact kk _ H2 (.m p) M2 (kp.trans (kpn.trans kp2)) rfl A2.mem (pe τ2 M2 p2)
variable {X:Cx}{sc:Scope}{own:List Str}{fr:List Nat}{di:TId}{g:TGd}{tt:TTd}{tk tv:TD}{tg iter kx vx:Expr}{ifs:List Expr}{pos:Pos}
theorem aah(hc:X.calm=true)(L:iE X sc own fr)(hi:PId X tg iter di)
  (hg:∀ cl C s H ex pl,PGd (blk X sc (lcN X own fr) cl C s H ex pl) tg g)(ht:∀ cl C s H ex pl,lK (blk X sc (lcN X own fr) cl C s H ex pl) ifs tt)(hk:∀ cl C s H ex pl,PD (blk X sc (lcN X own fr) cl C s H ex pl) kx tk)(hv:∀ cl C s H ex pl,PD (blk X sc (lcN X own fr) cl C s H ex pl) vx tv)
  (hs:∀ x,foldedSetIterable iter X.env x=pure x:=by intro _;rfl):PD X (.DictComp kx vx [⟨tg,iter,ifs,0⟩] sc pos) (dDC di g tt tk tv own.length fr):=
 eW (abk hc L hi hg ht hk hv hs) λ σ H Q h=>aaW h
end
end D
open L2 D
theorem si(hc:X.calm=true)(L:iE X sc own fr)(hi:Jd (PId X tg iter di))
  (hg:∀ cl C s H ex pl,Jd (PGd (blk X sc (lcN X own fr) cl C s H ex pl) tg g))(ht:∀ cl C s H ex pl,Jd (lK (blk X sc (lcN X own fr) cl C s H ex pl) ifs tt))(hk:∀ cl C s H ex pl,Jd (PD (blk X sc (lcN X own fr) cl C s H ex pl) kx tk))(hv:∀ cl C s H ex pl,Jd (PD (blk X sc (lcN X own fr) cl C s H ex pl) vx tv))
  (hs:∀ x,foldedSetIterable iter X.env x=pure x:=by intro _;rfl):Jd (PD X (.DictComp kx vx [⟨tg,iter,ifs,0⟩] sc pos) (dDC di g tt tk tv own.length fr)):=
 ⟨D.aah hc L hi.h (λ cl C s H ex pl=>(hg cl C s H ex pl).h) (λ cl C s H ex pl=>(ht cl C s H ex pl).h) (λ cl C s H ex pl=>(hk cl C s H ex pl).h) (λ cl C s H ex pl=>(hv cl C s H ex pl).h) hs⟩
namespace L2
end L2
namespace D
open L2
end D
open L2 D
namespace D
open L2
end D
open L2 D
namespace D
open L2
end D
open L2 D
namespace D
open L2
section
variable {X:Cx}{K:FG}
end
end D
namespace PySem
namespace Dp
theorem pA:typeLookup (.type "list") "keys" = pure none:=am_miss_of_fast (by decide +kernel)
theorem jX:entryFor table "dict.update.loop" = some Builtin.«dict.update.loop»:=entryFor_of_tree (by kernel_rfl)
theorem eF:plainId "dict.update.loop" = true:=by decide +kernel
section
variable {prog:Program}{w:World}{A:Around}{E:VP}{s:Shared}
set_option maxHeartbeats 1600000 in
theorem jj
  (hx:s.heap.get? a=some {cls:=.type "list",dict:=none,data:=.seq xs k,slots:=sl})(hA:A.handled=none)
  (h:∀ h' tk,(∀ b ob,s.heap.get? b=some ob->h'.get? b=some ob)->Q none {s with heap:=h',toks:=tk}) :
  wpAny (model prog w) A (getAttr? (.ref a) "keys") Q E s:=by
 obtain⟨hp,g,d,tk,os⟩:=s;have hT:∀ tk',(⟨hp,g,d,tk',os⟩:Shared).TypeIs (.ref a) "list":= λ _=>⟨_,hx,rfl⟩;have f1:=sub_AttributeError;have f3:=F.slot_list_getattribute.lookup;have f4:=F.slot_list_getattribute.bind (.ref a);have f5:=am_list_getattr_none;have hsz:("keys" : Str).length+100<=sizeLine:=by size_fits
 have hname:(["__module__", "__name__", "__qualname__", "__doc__", "__annotations__"]:List Str).contains "keys" = false:=by decide +kernel
 unfold getAttr? getAttrBy? getAttrBy
 repeat (any_goals (first | assumption | exact hT _ | ((with_reducible show wpAny _ _ (call (Value.builtin "list.__getattribute__") _ _) _ _ _);refine call_meets F.slot_list_getattribute (hT _) am_entry_list_getattribute (F.args_list_getattribute_2 _ _) (meets_getattribute_miss_list a xs k sl "keys" _ pA hname hsz) ⟨hx,hA,λ h' tk' e hx'=>?_⟩) | wp_step))
 obtain⟨t',u',he⟩:=hx'.there;show wpAny _ _ (getattributeRaised _ _ _ _ _ _ _) _ _ _;unfold getattributeRaised
 repeat (any_goals (first | assumption | wp_step))
 exact h _ _ hx'.keeps
variable {K:Type}[DecidableEq K]{knd:KeyKind prog w K}
theorem loop{I D l:Addr}{items:Array Value}{kvs:List (K×Value)}{R:Result->Shared->Prop}{h0:Heap}(hh:A.handled=none)(hDI:D≠I)(hDl:D≠l)(hlI:l≠I)(hsz:kvs.length<=sizeLine)(hlen:items.size=kvs.length)
  (ht:∀ i (hi:i<kvs.length),∃ a key k dct sl,items[i]? =some (.ref a)/\a≠D/\a≠I/\knd.is kvs[i].1 key=true/\h0.get? a=some {cls:=.type "tuple",dict:=dct,data:=.seq #[key,kvs[i].2] k,slots:=sl}) :
  ∀ (j i:Nat) (s:Shared),kvs.length-i=j->i<=kvs.length->s.heap.IsListIter I l i->s.heap.IsList l items->s.heap.DictOf knd D (merged [] (kvs.take i))->(∀ b o,b≠D->b≠I->h0.get? b=some o->s.heap.get? b=some o) ->
   (∀ h' tk,h'.DictOf knd D (merged [] kvs)->(∀ b o,b≠D->b≠I->h0.get? b=some o->h'.get? b=some o)->R (.ok (.ret .none)) {s with heap:=h',toks:=tk}) ->
   codeAny (model prog w) A (.builtin "dict.update.loop" ⟨[.ref D,.ref I,rawInt i,.none],[]⟩) R s:=by
 intro j
 induction j with
 | zero =>
  intro i s hj hi hit hl hd hk hR;have hin:i=kvs.length:=by omega
  subst hin;refine codeAny_builtin jX ?_;rw[Around.under_plainId eF _];show wpAny _ A.in1 (pyNext (.ref I) >>= _) _ _ s;refine wpAny_bind (wpAny_pyNext_list_end (by simpa using hh) hit hl (by simp[hlen]) λ h' he'=>?_);show wpAny _ A.in1 (Builtin.Dict.addKeywords D [] >>= _) _ _ _;refine wpAny_bind (wpAny_pure (wpAny_pure ?_));rw[List.take_length] at hd;refine hR h' s.toks ?_ λ b o b1 b2 e=>he' b o b2 (hk b o b1 b2 e);obtain⟨o,es,ep,ho,rest⟩:=hd;exact⟨o,es,ep,he' D o hDI ho,rest⟩
 | succ j ih =>
  intro i s hj hi hit hl hd hk hR;have hlt:i<kvs.length:=by omega
  obtain⟨a,key,k,dct,sl,e1,a1,a2,hkey,e2⟩:=ht i hlt;refine codeAny_builtin jX ?_;rw[Around.under_plainId eF _];show wpAny _ A.in1 (pyNext (.ref I) >>= _) _ _ s;refine wpAny_bind (wpAny_pyNext_list_item hit hl e1 λ h' hit' hs'=>?_);have e3:h'.get? a=some {cls:=.type "tuple",dict:=dct,data:=.seq #[key,kvs[i].2] k,slots:=sl}:=hs'.extBut a _ a2 (hk a _ a1 a2 e2);have hT:Shared.TypeIs {s with heap:=h'} (.ref a) "tuple":= ⟨_,e3,rfl⟩;have hd':h'.DictOf knd D (merged [] (kvs.take i)):=by obtain⟨o,es,ep,ho,rest⟩:=hd;exact⟨o,es,ep,hs'.extBut D o hDI ho,rest⟩
  have hl':h'.IsList l items:=hl.extBut hs'.extBut hlI;show wpAny _ A.in1 (holding [Value.ref a] _ >>= _) _ _ _;refine wpAny_bind (wpAny_holding ?_);refine wpAny_bind (m:=tryCatch (Builtin.Dict.pairItems (.ref a)) _) (wpAny_tryCatch ?_);unfold Builtin.Dict.pairItems;refine wpAny_bind (wpAny_typeOf hT ?_);rw[if_pos (by decide)];unfold seqItems?;obtain⟨hp,g,d,tk,os⟩:=s;generalize hDS:dictSet=DS
  repeat (any_goals (first | assumption | wp_step))
  subst hDS;have hl2:(merged [] (kvs.take i)).length<=sizeLine:=by have:=merged_length_le [] (kvs.take i);simp at this;omega
  refine wpAny_dictSet_pairs (hsz:=hl2) hkey hd' λ h2 hd2 hs2=>?_;refine wpAny_pure ⟨plainId_quiet eF _,ih (i+1) _ (by omega) hlt ?_ ?_ ?_ ?_ ?_⟩
  ·exact hit'.at λ o e=>hs2.extBut I o (Ne.symm hDI) e
  ·exact hl'.extBut hs2.extBut (Ne.symm hDl)
  ·rw[merged_take_succ [] kvs i kvs[i] (List.getElem?_eq_getElem hlt)];exact hd2
  ·exact λ b o b1 b2 e=>hs2.extBut b o b1 (hs'.extBut b o b2 (hk b o b1 b2 e))
  ·exact λ h' tk d k=>hR h' tk d k
set_option maxHeartbeats 1600000 in
theorem gR{l:Addr}{items:Array Value}{kk:Nat}{sl0:Array (Option Value)}{kvs:List (K×Value)}(hh:A.handled=none)(hsz:kvs.length<=sizeLine)(hlen:items.size=kvs.length)
  (hl:s.heap.get? l=some {cls:=.type "list",dict:=none,data:=.seq items kk,slots:=sl0})
  (ht:∀ i (hi:i<kvs.length),∃ a key k dct sl,items[i]? =some (.ref a)/\knd.is kvs[i].1 key=true/\s.heap.get? a=some {cls:=.type "tuple",dict:=dct,data:=.seq #[key,kvs[i].2] k,slots:=sl})
  (h:∀ h' tk,h'.DictOf knd s.heap.objs.size (merged [] kvs)->(∀ b o,s.heap.get? b=some o->h'.get? b=some o)->Q (.ref s.heap.objs.size) {s with heap:=h',toks:=tk}) :
  wpAny (model prog w) A (call (.type "dict") [.ref l]) Q E s:=by
 refine callType_codes (Q₁:=λ obj s₁=>obj=.ref s.heap.objs.size/\s₁={s with heap:=s.heap.push {cls:=.type "dict",data:=.dict #[]}}) F.kt_called_dict (F.kt_typeCall_dict_1 _) F.entry_dict_init (kt_code_dict_new _ ⟨rfl,rfl⟩) ?_;rintro obj s₁ ⟨rfl,rfl⟩;have hnew:(s.heap.push {cls:=.type "dict",data:=.dict #[]}).DictOf knd s.heap.objs.size []:=Heap.DictOf.new s.heap;have hl1:(s.heap.push {cls:=.type "dict",data:=.dict #[]}).get? l=some {cls:=.type "list",dict:=none,data:=.seq items kk,slots:=sl0}:=Heap.get?_push_of_some _ hl;have hT:Shared.TypeIs {s with heap:=s.heap.push {cls:=.type "dict",data:=.dict #[]}} (.ref l) "list":= ⟨_,hl1,rfl⟩;refine⟨hnew.typeIs,F.args_dict_init_2 _ _,?_⟩;unfold Builtin.«dict.__init__»;refine wpAny_bind ?_;unfold Builtin.Dict.selfAndRest;refine wpAny_bind (wpAny_notOrdered_dict hnew.typeIs ?_);show wpAny _ _ (pure (s.heap.objs.size,[Value.ref l])) _ _ _;refine wpAny_pure ?_;show wpAny _ _ (Builtin.Dict.updateFrom "dict.__init__" s.heap.objs.size (.ref l) [] .none) _ _ _;unfold Builtin.Dict.updateFrom;refine wpAny_bind (wpAny_typeOf hT ?_);rw[if_pos (by decide)];refine wpAny_bind (jj hl1 (by simpa using hh) λ h2 tk2 k2=>?_);rw[if_pos (by rfl)];have hl2:h2.get? l=some {cls:=.type "list",dict:=none,data:=.seq items kk,slots:=sl0}:=k2 _ _ hl1;have il2:h2.IsList l items:=⟨_,hl2,rfl,kk,rfl⟩;refine wpAny_bind (wpAny_rule (wpAny_bind (wpAny_pyIter_list il2 ?_)));have z:s.heap.objs.size<h2.objs.size:=by obtain⟨o,_,_,ho,_⟩:=hnew;exact Heap.lt_size (k2 _ _ ho)
 have zl:l<s.heap.objs.size:=Heap.lt_size hl;have d2:h2.DictOf knd s.heap.objs.size []:=by obtain⟨o,es,ep,ho,rest⟩:=hnew;exact⟨o,es,ep,k2 _ _ ho,rest⟩
 refine wpAny_pure ⟨plainId_quiet eF _,loop (knd:=knd) (h0:=h2) (by simpa using hh) (Nat.ne_of_lt z) (Ne.symm (Nat.ne_of_lt zl)) (Nat.ne_of_lt (Nat.lt_trans zl z)) hsz hlen (λ i hi=>?_) kvs.length 0 _ (by omega) (Nat.zero_le _) ⟨_,Heap.get?_push_size _ rfl,rfl,rfl⟩ (il2.push _) ?_ (λ b o _ _ e=>Heap.get?_push_of_some _ e) λ h' tk dd keep=>?_⟩
 ·obtain⟨a,key,k,dct,sl,e1,hk,e2⟩:=ht i hi;have za:a<s.heap.objs.size:=Heap.lt_size e2;exact⟨a,key,k,dct,sl,e1,Nat.ne_of_lt za,Nat.ne_of_lt (Nat.lt_trans za z),hk,k2 _ _ (Heap.get?_push_of_some _ e2)⟩
 ·exact d2.push _
 ·refine⟨rfl,h h' tk dd λ b o e=>?_⟩;have zb:b<s.heap.objs.size:=Heap.lt_size e;exact keep b o (Nat.ne_of_lt zb) (Nat.ne_of_lt (Nat.lt_trans zb z)) (k2 _ _ (Heap.get?_push_of_some _ e))
end
end Dp
end PySem
namespace D
open L2
section
variable {X:Cx}{K:FG}
theorem pairs_at(I:Inv X pins σ H s):∀ {kvs:List (Key×V)} {vs:List V} {its:List Value},Paired (λ(v:V) (kv:Key×V)=>∃ a,v=.ref a/\SqT X.K H a [kV kv.1,kv.2]) vs kvs->Vals vs its ->
  ∃ ks:List (Key×Value),KV kvs ks/\its.length=ks.length/\∀ i (hi:i<ks.length),∃ a key k dct sl,its[i]? =some (.ref a)/\(bK X.prog X.w).is ks[i].1 key=true/\s.heap.get? a=some {cls:=.type "tuple",dict:=dct,data:=.seq #[key,ks[i].2] k,slots:=sl}
 | _,_,_,.nil,.nil=>⟨[],.nil,rfl,λ i hi=>by simp at hi⟩
 | _,_,_,.cons (b:=b) ⟨a,ea,hq⟩ t,.cons r1 r2=>by
  obtain⟨ks,h1,h2,h3⟩:=pairs_at I t r2;subst ea;cases r1;obtain⟨its,rv,⟨o,e1,e2,n,e3⟩,_⟩:=I.tuple hq;obtain⟨c,dct,dat,sl⟩:=o;simp only at e2 e3;subst e2 e3;cases rv with
  | @cons _ u1 _ _ q1 rv1 =>
  cases rv1 with
  | @cons _ u2 _ _ q2 rv2 =>
  cases rv2;refine⟨(b.1,u2)::ks,.cons ⟨rfl,q2⟩ h1,by simp[h2],λ i hi=>?_⟩;cases i with
  | zero=>exact⟨a,u1,n,dct,sl,rfl,rQ q1,e1⟩
  | succ i =>
   have hi':i<ks.length:=by simpa using hi
   obtain⟨a',key,k',dct',sl',z1,z2,z3⟩:=h3 i hi';exact⟨a',key,k',dct',sl',by simpa using z1,z2,z3⟩
theorem pR:∀ {kvs:List (Key×V)} {ks:List (Key×Value)},KV kvs ks->ks.map (·.1)=kvs.map (·.1)
 | _,_,.nil=>rfl
 | _,_,.cons r t=>by rw[List.map_cons,List.map_cons,pR t,r.1]
theorem lO(hc:X.calm=true):eA X (.type "dict") (λ xs H Q=>∃ p vs,∃ kvs:List (Key×V),xs=[.ref p]/\SqL X.K H p vs/\Paired (λ(v:V) (kv:Key×V)=>∃ a,v=.ref a/\SqT X.K H a [kV kv.1,kv.2]) vs kvs/\(kvs.map (·.1)).Nodup/\∀ l,H l=none->Q (.ref l) (upd H l (.dK kvs))):=by
 intro pins s σ H xs us Q I r h;obtain⟨p,vs,kvs,rfl,hq,pr,nd,q⟩:=h;obtain⟨u,rfl,rx⟩:=vals1 r;cases rx;obtain⟨its,rv,⟨o,n,e0,e1,e2,e3⟩,hz⟩:=I.list hq;obtain⟨c,dct,dat,sl⟩:=o;simp only at e1 e2 e3;subst e1 e2 e3;obtain⟨ks,rel,hl,hk⟩:=pairs_at I pr rv;have hz2:ks.length<=sizeLine:=by rw[<- hl];have:=rv.length;omega
 have nd2:(ks.map (·.1)).Nodup:=by rw[pR rel];exact nd
 refine Dp.gR (knd:=bK X.prog X.w) (I.ok.hd hc) hz2 (by simpa using hl) e0 (λ i hi=>?_) λ h' tk dd keep=>?_
 ·obtain⟨a,key,k,dct,sl,z1,z2,z3⟩:=hk i hi;exact⟨a,key,k,dct,sl,by simpa using z1,z2,z3⟩
 ·rw[merged_nil_of_nodup ks nd2] at dd;exact⟨.ref _,_,I.laid (a:=s.heap.objs.size) (o:=.dK kvs) (t':=tk) keep (Nat.le_refl _) (rJ (by rw[rel.length];exact hz2) (beq_eq_false_iff_ne.mpr (Ne.symm (Nat.ne_of_lt I.big))) rel dd),rfl,q _ (I.hok.fresh (Nat.le_refl _))⟩
end
end D
namespace Stc
open L2 D Rc
end Stc
namespace D
open L2
section
variable {X:Cx}{K:FG}
end
end D
namespace S
open PySem PySem.W PyProof.Rows
def PR(N:Nat)(p:Array Nat):Prop:=p.Perm (List.toArray (List.range N))
theorem PR.low(hN:1<=N)(h:PR N p):Low N p:=.of hN λ x hx=>by
 have:=(Array.perm_iff_toList_perm.mp h).mem_iff.mp hx
 simpa using this
theorem PR.rev(h:PR N p):PR N (kas_rev p i j):=(mirror_perm _ _ _ _:(kas_rev p i j).Perm p).trans h
theorem qz(lt:Nat->Nat->Bool):∀ {t:KasT α},d9 N R t->R (go lt t)
 | .ret _,h=>h
 | .ask i j k,h=>qz lt (t:=k (lt i j)) (h.2.2 (lt i j))
theorem jn(hN:1<=N):∀ (f:Nat) {p:Array Nat} (n q:Nat),PR N p->d9 N (λ r=>PR N r.1) (kas_desc f p n q)
 | 0,p,n,q,h=>h
 | f+1,p,n,q,h=>⟨h.low hN _,h.low hN _,λ b=>by
  cases b with
  | true =>
   simp only[if_true]
   split
   ·exact jn hN f (n+1) 0 h.rev
   ·exact jn hN f (n+1) 0 h
  | false =>
   simp only[Bool.false_eq_true,if_false];refine⟨h.low hN _,h.low hN _,λ b=>?_⟩;cases b with
   | true=>exact h
   | false=>exact jn hN f (n+1) (q+1) h⟩
theorem mq(hN:1<=N)(h:PR N p):d9 N (λ(r:Nat×Array Nat)=>PR N r.2) (kas_tail3 n m p):=by
 unfold kas_tail3;refine d9.bind (λ k _=>?_) (jo (h.rev.low hN) _ _);exact(h.rev:PR N (kas_rev p 0 n))
theorem f7(hN:1<=N)(h:PR N p):d9 N (λ r=>PR N r.2) (kas_descPart n m p):=(jn hN _ _ _ h).bind λ r hr=>by
 split
 ·exact mq hN hr.rev
 ·exact mq hN hr
theorem uh(hN:1<=N)(h:PR N p):d9 N (λ r=>PR N r.2) (kas_count m p):=(jo (h.low hN) _ _).bind λ n _=>by
 split
 ·exact h
 ·split
  ·refine⟨h.low hN _,h.low hN _,λ b=>?_⟩;cases b with
   | true=>exact h
   | false=>exact f7 hN h.rev
  ·exact f7 hN h
theorem vb(hN:1<=N):∀ (f:Nat) {p:Array Nat} (k:Nat),PR N p->d9 N (PR N) (kas_bin f p k)
 | 0,_,_,h=>h
 | f+1,p,k,h=>(eZ (h.low hN) _ _ _).bind λ l _=>vb hN f (k+1) ((bubble_perm _ _ _:(bubble p k (k-l)).Perm p).trans h)
theorem xY(hN:1<=N):d9 N (PR N) (kas_sort N):=(uh hN (Array.Perm.refl _)).bind λ r hr=>by
 split
 ·exact vb hN _ _ hr
 ·exact hr
theorem ja(lt:Nat->Nat->Bool)(n:Nat):(ba lt n).Perm (List.range n):=by
 unfold ba
 by_cases z:n<2
 ·rw[if_pos z]
 ·rw[if_neg z];have:=Array.perm_iff_toList_perm.mp (show PR n (go lt (kas_sort n)) from qz lt (xY (N:=n) (by omega)))
  simpa using this
end S
namespace D
open L2 S
section
variable {X:Cx}{K:FG}
end
def aa8(M:MH):Nat->W->PyData->Prop
 | 0,w,d=>w=.d d
 | n+1,w,d=>w=.d d\/(∃ a ws ds,w=.m a/\M a=some (.lst ws)/\d=.list ds/\Paired (aa8 M n) ws ds)\/∃ a ws ds,w=.m a/\M a=some (.tup ws)/\d=.tuple ds/\Paired (aa8 M n) ws ds
theorem aa8.d:∀ {n:Nat},aa8 M n (.d x) x
 | 0=>rfl
 | _+1=>.inl rfl
section
variable {X:Cx}{K:FG}
def xv(t:TAd)(τ:DS)(M:MH)(Q:QD):Prop:=t τ M λ ws M1=>ws.length<=sizeLine/\∀ p,M1 p=none->Q (.m p) (aT M1 p (.tup ws))
end
theorem my(I:Inv X pins σ H s)(h:H a=some (.lst l)):(∀ xs,X.H₀ a≠some (.tup xs))/\(∀ o v,X.H₀ a≠some (.frz o v))/\∀ ps,X.H₀ a≠some (.tbl ps):=by
 refine⟨λ xs e=>?_,λ o v e=>?_,λ ps e=>?_⟩
 ·have:=I.base.mE a xs e;rw[h] at this;cases this
 ·have:=I.base.frzs a o v e;rw[h] at this;cases this
 ·obtain⟨m,this⟩:=I.base.tbls a ps e;rw[h] at this;cases this
theorem Inv.uK(I:Inv X pins σ H s)(h:H a=some (.lst l)):∃ o,Inv X pins σ (upd H a (.frz o (.frz o (.lst l)))) s:=by have f:Fz (.lst l):=trivial;obtain⟨o,ho⟩:=(I.hok a _ h).obj f;obtain⟨b1,b2,b3⟩:=my I h;exact⟨o,Inv.swap I h (λ _ z=>nomatch z) (λ _ z=>nomatch z) b1 b2 b3 ⟨ho,ho,(I.hok a _ h).abC f⟩⟩
theorem Inv.kI(I0:Inv X pins σ0 H0 s0)(h0:H0 a=some (.lst l))(I:Inv X pins σ H s)(h:H a=some (.frz o (.frz o (.lst l)))):Inv X pins σ (upd H a (.lst l)) s:=by have f:Fz (.lst l):=trivial;obtain⟨b1,b2,b3⟩:=my I0 h0;exact Inv.swap I h (λ _ z=>nomatch z) (λ _ z=>nomatch z) b1 b2 b3 ((I.hok a _ h).2.2.abC f)
def wK(t:TE):TE:=λ σ H Q=>∃ a l,H a=some (.lst l)/\∀ o,t σ (upd H a (.frz o (.frz o (.lst l)))) λ v H'=>H' a=some (.frz o (.frz o (.lst l)))/\Q v (upd H' a (.lst l))
theorem rK(h:PE X e t):PE X e (wK t):=by intro pins s σ H Q I ⟨a,l,ha,q⟩;obtain⟨o,I1⟩:=Inv.uK I ha;exact thn (h pins s σ _ _ I1 (q o)) λ v s1 ⟨x,H',I2,r,e,q2⟩=>⟨x,_,Inv.kI I ha I2 e,r,q2⟩
def wQ(t:TS):TS:=λ D σ H=>∃ a l,H a=some (.lst l)/\∀ o,t
 {nx:=λ σ' H'=>H' a=some (.frz o (.frz o (.lst l)))/\D.nx σ' (upd H' a (.lst l)),rt:=λ v H'=>H' a=some (.frz o (.frz o (.lst l)))/\D.rt v (upd H' a (.lst l)),
  bk:=λ σ' H'=>H' a=some (.frz o (.frz o (.lst l)))/\D.bk σ' (upd H' a (.lst l)),ct:=λ σ' H'=>H' a=some (.frz o (.frz o (.lst l)))/\D.ct σ' (upd H' a (.lst l))} σ (upd H a (.frz o (.frz o (.lst l))))
theorem o7{st:Stmt}{t:TS}(h:PS X st t):PS X st (wQ t):=by
 intro pins s σ H D I ⟨a,l,ha,q⟩;obtain⟨o,I1⟩:=Inv.uK I ha;refine thn (h pins s σ _ _ I1 (q o)) λ f s1 hf=>?_;cases f with
 | next=>obtain⟨σ',H',I2,e,q2⟩:=hf;exact⟨σ',_,Inv.kI I ha I2 e,q2⟩
 | brk=>obtain⟨σ',H',I2,e,q2⟩:=hf;exact⟨σ',_,Inv.kI I ha I2 e,q2⟩
 | cont=>obtain⟨σ',H',I2,e,q2⟩:=hf;exact⟨σ',_,Inv.kI I ha I2 e,q2⟩
 | ret u=>obtain⟨v,σ',H',I2,r,e,q2⟩:=hf;exact⟨v,σ',_,Inv.kI I ha I2 e,r,q2⟩
section
variable {K:FG}{H:Hp}{a:Addr}{o:Obj}{l:List V}
theorem Kp.br(h:H a=some (.frz o (.frz o (.lst l)))):(∀ b xs,H b=some (.tup xs)->upd H a (.lst l) b=some (.tup xs))/\(∀ b ob ys,H b=some (.frz ob (.lst ys))->upd H a (.lst l) b=some (.frz ob (.lst ys)))/\∀ b ob ys,H b=some (.frz ob (.dK ys))->upd H a (.lst l) b=some (.frz ob (.dK ys)):=by
 refine⟨λ b xs e=>?_,λ b ob ys e=>?_,λ b ob ys e=>?_⟩<;>
 ·rw[aj (λ z=>by rw[z,h] at e;cases e)];exact e
theorem SqT.br(h:H a=some (.frz o (.frz o (.lst l))))(r:SqT K H b vs):SqT K (upd H a (.lst l)) b vs:=by
 rcases r with (r | ⟨ob,r⟩) | r
 ·exact .inl (.inl ((Kp.br h).1 _ _ r))
 ·refine .inl (.inr ⟨ob,?_⟩);rw[aj (λ z=>by rw[z,h] at r;cases r)];exact r
 ·exact .inr r
theorem SqF.br(h:H a=some (.frz o (.frz o (.lst l))))(r:SqF K H b vs):SqF K (upd H a (.lst l)) b vs:=by
 rcases r with ⟨ob,r⟩ | r
 ·exact .inl ⟨ob,(Kp.br h).2.1 _ _ _ r⟩
 ·exact .inr r
mutual
theorem aD.br(h:H a=some (.frz o (.frz o (.lst l)))):∀ {d:PyData} {v:V},aD K H d v->aD K (upd H a (.lst l)) d v
 | .none,v,r=>by simp only[aD] at r ⊢;exact r
 | .bool b,v,r=>by simp only[aD] at r ⊢;exact r
 | .int i,v,r=>by simp only[aD] at r ⊢;exact r
 | .str x,v,r=>by simp only[aD] at r ⊢;exact r
 | .list ds,v,r=>by simp only[aD] at r ⊢;obtain⟨b,vs,e,q,r⟩:=r;exact⟨b,vs,e,SqF.br h q,aV.br h r⟩
 | .tuple ds,v,r=>by simp only[aD] at r ⊢;obtain⟨b,vs,e,q,r⟩:=r;exact⟨b,vs,e,SqT.br h q,aV.br h r⟩
 | .dict kvs,v,r=>by simp only[aD] at r ⊢;obtain⟨b,ob,m,e,q,r⟩:=r;exact⟨b,ob,m,e,(Kp.br h).2.2 _ _ _ q,lr.br h r⟩
theorem aV.br(h:H a=some (.frz o (.frz o (.lst l)))):∀ {ds:List PyData} {vs:List V},aV K H ds vs->aV K (upd H a (.lst l)) ds vs
 | [],vs,r=>by simp only[aV] at r ⊢;exact r
 | d::ds,vs,r=>by simp only[aV] at r ⊢;obtain⟨v,q,e,h1,h2⟩:=r;exact⟨v,q,e,aD.br h h1,aV.br h h2⟩
theorem lr.br(h:H a=some (.frz o (.frz o (.lst l)))):∀ {ds:List (PyData×PyData)} {m:List (Key×V)},lr K H ds m->lr K (upd H a (.lst l)) ds m
 | [],m,r=>by simp only[lr] at r ⊢;exact r
 | (key,d)::ds,m,r=>by simp only[lr] at r ⊢;obtain⟨k',v,q,e,ek,h1,h2⟩:=r;exact⟨k',v,q,e,ek,aD.br h h1,lr.br h h2⟩
end
theorem aI.br(h:H a=some (.frz o (.frz o (.lst l)))):∀ {w:W} {v:V},aI K H w v->aI K (upd H a (.lst l)) w v
 | .d _,_,r=>aD.br h r
 | .m _,_,r=>r
 | .t _,_,r=>r
theorem cn.br(h:H a=some (.frz o (.frz o (.lst l))))(m:cn K H M)(e:M a=some (.flst ws0)):cn K (upd H a (.lst l)) (aT M a (.lst ws0)):=λ b mo q=>by
 by_cases hb:b=a
 ·subst hb;rw[aw] at q;cases q;obtain⟨o',l',e',pr⟩:=m _ _ e;rw[h] at e';cases e';exact⟨l,av,Paired.fw pr λ _ _ z=>aI.br h z⟩
 ·rw[ax hb] at q;have r:=m b mo q;cases mo with
  | lst ws=>obtain⟨vs,e,r⟩:=r;exact⟨vs,by rw[aj hb];exact e,Paired.fw r λ _ _ z=>aI.br h z⟩
  | dic kvs=>obtain⟨l,e,r⟩:=r;exact⟨l,by rw[aj hb];exact e,Paired.fw r λ p q z=>⟨z.1,aI.br h z.2⟩⟩
  | dct kvs=>obtain⟨l,e,r⟩:=r;exact⟨l,by rw[aj hb];exact e,Paired.fw r λ p q z=>⟨z.1,aI.br h z.2⟩⟩
  | fdic kvs=>obtain⟨o,l,e,r⟩:=r;exact⟨o,l,by rw[aj hb];exact e,Paired.fw r λ p q z=>⟨z.1,aI.br h z.2⟩⟩
  | ins C fs=>obtain⟨dx,l,e,r⟩:=r;exact⟨dx,l,by rw[aj hb];exact e,Paired.fw r λ p q z=>⟨z.1,aI.br h z.2⟩⟩
  | tup ws=>obtain⟨vs,e,r⟩:=r;exact⟨vs,by rw[aj hb];exact e,Paired.fw r λ _ _ z=>aI.br h z⟩
  | flst ws=>obtain⟨o,vs,e,r⟩:=r;exact⟨o,vs,by rw[aj hb];exact e,Paired.fw r λ _ _ z=>aI.br h z⟩
  | exc C fs =>
   obtain⟨φ,dct,e,p,r⟩:=r;refine⟨φ,dct,by rw[aj hb];exact e,p,?_⟩;rcases r with r | ⟨dx,o',l',e1,e2,r⟩
   ·exact .inl r
   ·exact .inr ⟨dx,o',l',e1,by rw[aj (λ z=>by rw[z,h] at e2;cases e2)];exact e2,Paired.fw r λ p q z=>⟨z.1,aI.br h z.2⟩⟩
  | code q pos =>
   obtain⟨ps,e,ht,hc⟩:=r;refine⟨ps,by rw[aj hb];exact e,ht,?_⟩;rcases hc with hc | ⟨c,o',vs,t,e1,e2,e3⟩
   ·exact .inl hc
   ·exact .inr ⟨c,o',vs,t,e1,by rw[aj (λ z=>by rw[z,h] at e2;cases e2)];exact e2,e3⟩
theorem Abs.br(h:H a=some (.frz o (.frz o (.lst l))))(A:Abs K H σ τ M)(e:M a=some (.flst ws0)):Abs K (upd H a (.lst l)) σ τ (aT M a (.lst ws0)):=
 ⟨A.len,λ i w q=>let ⟨v,q1,r⟩:=A.val i w q; ⟨v,q1,aI.br h r⟩,cn.br h A.mem e⟩
end
def rL(t:TD)(τ:DS)(M:MH)(Q:QD):Prop:=∃ a ws,M a=some (.lst ws)/\t τ (aT M a (.flst ws)) λ v M'=>M' a=some (.flst ws)/\Q v (aT M' a (.lst ws))
theorem eO(e:H a=some (.lst l))(kp':Kp (upd H a (.frz o (.frz o (.lst l)))) H'):Kp H (upd H' a (.lst l)):=⟨λ b xs z=>by
  have hb:b≠a:=λ y=>by rw[y,e] at z;cases z
  rw[aj hb];exact kp'.tup b xs (by rw[aj hb];exact z),λ b ob u z=>by
  have hb:b≠a:=λ y=>by rw[y,e] at z;cases z
  rw[aj hb];exact kp'.frz b ob u (by rw[aj hb];exact z)⟩
def mR(t:TSd)(D:Ed)(τ:DS)(M:MH):Prop:=∃ a ws,M a=some (.lst ws)/\t
 {nx:=λ τ' M'=>M' a=some (.flst ws)/\D.nx τ' (aT M' a (.lst ws)),rt:=λ w M'=>M' a=some (.flst ws)/\D.rt w (aT M' a (.lst ws)),
  bk:=λ τ' M'=>M' a=some (.flst ws)/\D.bk τ' (aT M' a (.lst ws)),ct:=λ τ' M'=>M' a=some (.flst ws)/\D.ct τ' (aT M' a (.lst ws))} τ (aT M a (.flst ws))
abbrev ng(o:Obj)(l:List V):HO:=.frz o (.frz o (.lst l))
theorem gP(ok:HOk P w H h)(e:H a=some (ng o l)):∃ its:List Value,Vals l its/\h.IsList a its.toArray:=by obtain⟨ho,_,z,its,n,r,h1⟩:=ok a _ e;exact⟨its,r,⟨_,h1,rfl,n,rfl⟩⟩
def Itf(a:Addr)(o:Obj)(l:List V):It:=
 ⟨λ i H=>H a=some (ng o l)/\i<l.length,λ i H x H'=>H'=H/\l[i]? =some x,λ i H=>H a=some (ng o l)/\l.length<=i⟩
theorem oo{P:Program}{w:World}{K:FG}{tg:Expr}(a it:Addr)(o:Obj)(l:List V):Turn P w K tg (Itf a o l) [it] it (λ i h=>h.IsListIter it a i) where
 mem:=by simp
 obj:=λ i h st b hb=>by
  have e:b=it:=by simpa using hb
  subst e;obtain⟨o,e,c,d⟩:=st;exact⟨o,e,λ v z=>by rw[d] at z;cases z⟩
 keep:=λ i h h' st k=>st.at λ o e=>k it (by simp) o e
 item:=by intro X hP hw hK hc i pins s σ H E I hf st ⟨hg,hi⟩;subst hP hw hK;obtain⟨its,rv,p⟩:=gP I.hok hg;obtain⟨u,hu,ru⟩:=rv.get (List.getElem?_eq_getElem hi);obtain⟨f0,f1,f2,f3,f4,f5⟩:=hf it (by simp);refine wpAny_pyNext_list_item st p (x:=u) (by simpa using hu) λ h' st' sb=>?_;have I1:Inv X pins σ H {s with heap:=h'}:=I.turned (t':=s.toks) (λ b o hb e=>(sb.2 b hb).trans e) f0 f1 f3 f4 f5;obtain⟨o,e,c,d⟩:=id st';exact⟨u,rfl,rX (s:={s with heap:=h'}) e c d (by decide) ⟨_,H,I1,ru,⟨rfl,List.getElem?_eq_getElem hi⟩,st',λ b hb=>(hf b hb).1⟩⟩
 done:=by intro X hP hw hK hc i pins s σ H E I hf st ⟨hg,hi⟩;subst hP hw hK;obtain⟨its,rv,p⟩:=gP I.hok hg;obtain⟨f0,f1,f2,f3,f4,f5⟩:=hf it (by simp);have hl:=rv.length;exact wpAny_pyNext_list_end (I.ok.hd hc) st p (by simp;omega) λ h' eb=>⟨rfl,I.turned (t':=s.toks) (λ b o hb e=>eb b o hb e) f0 f1 f3 f4 f5⟩
 self:=λ _ _ _ _ _ st h=>wpAny_pyIter_listiter st h
def aaF(td:TE):TI:=λ σ H R=>td σ H λ x H1=>∃ a o l,x=.ref a/\H1 a=some (ng o l)/\R (Itf a o l) H1
theorem uq{td:TE}(ho:PE X o td):PI X tg o (aaF td):=by
 intro pins s σ H R I h;refine thn (ho pins s σ H _ I h) λ v s1 hq79=>?_;obtain⟨x,H1,I1,r1,a,ob,l,ex,hg,q⟩:=hq79;subst ex;cases r1;obtain⟨its,rv,p⟩:=gP I1.hok hg;refine wpAny_pyIter_list p ?_;refine⟨s1.heap.objs.size,[s1.heap.objs.size],_,_,H1,rfl,I1.kept (t':=s1.toks) λ b o e=>Heap.get?_push_of_some _ e,oo a _ ob l,⟨_,Heap.get?_push_size _ rfl,rfl,rfl⟩,λ b hb=>?_,q⟩;have e:b=s1.heap.objs.size:=by simpa using hb
 subst e;exact I1.rZ (Nat.le_refl _) (I1.hok.fresh (Nat.le_refl _))
def lJ(td:TD)(τ:DS)(M:MH)(R:List W->MH->Prop):Prop:=td τ M λ w M1=>∃ a ws,w=.m a/\M1 a=some (.flst ws)/\R ws M1
end D
namespace D
open L2
theorem ue{x1}(h:Jd (PAd X es t)):Jd (PD X (.Tuple es x1 pos) (xv t)):=⟨have h:=h.h;eW (vo h) λ σ H Q h=>by obtain⟨τ,M,Qd,A,h,k⟩:=h;refine⟨τ,M,_,A,h,λ vs H1 ws M1 kp r1 m1 hq75=>?_⟩;obtain⟨hz,q1⟩:=hq75;refine⟨by rw[<- r1.length];exact hz,λ p hp=>?_⟩;have kp2:Kp H1 (upd H1 p (.tup vs)):=Kp.new hp;exact k _ _ (.m p) _ (kp.trans kp2) rfl (m1.put (mo:=.tup ws) kp2 ⟨vs,av,aQ.keep kp2 r1⟩) (q1 p (m1.free hp))⟩
theorem om(h:Jd (PD X e t)):Jd (PD X e (rL t)):=⟨have h:=h.h;eW (rK h) λ σ H Q hq76=>by obtain⟨τ,M,Qd,A,⟨a,ws,hm,q⟩,k⟩:=hq76;obtain⟨l,e,pr⟩:=A.mem _ _ hm;refine⟨a,l,e,λ o=>?_⟩;have kp:Kp H (upd H a (.frz o (.frz o (.lst l)))):=Kp.set e (λ _ z=>nomatch z) (λ _ _ z=>nomatch z);have m1:cn X.K (upd H a (.frz o (.frz o (.lst l)))) (aT M a (.flst ws)):=A.mem.put (mo:=.flst ws) kp ⟨o,l,av,aQ.keep kp pr⟩;refine⟨τ,_,_,A.go kp m1,q,λ v H' w M' kp' r' m' hq77=>?_⟩;obtain⟨h1,q1⟩:=hq77;have e':=kp'.frz a o _ av;exact⟨e',k _ _ w _ (eO e kp') (aI.br e' r') (cn.br e' m' h1) q1⟩⟩
theorem lH{st:Stmt}{t:TSd}(h:Jd (PSd X st t)):Jd (PSd X st (mR t)):=⟨have h:=h.h;mH (o7 h) λ D σ H hq78=>by
 obtain⟨τ,M,Dd,A,⟨a,ws,hm,q⟩,k1,k2,k3,k4⟩:=hq78;obtain⟨l,e,pr⟩:=A.mem _ _ hm;refine⟨a,l,e,λ o=>?_⟩;have kp:Kp H (upd H a (.frz o (.frz o (.lst l)))):=Kp.set e (λ _ z=>nomatch z) (λ _ _ z=>nomatch z);have m1:cn X.K (upd H a (.frz o (.frz o (.lst l)))) (aT M a (.flst ws)):=A.mem.put (mo:=.flst ws) kp ⟨o,l,av,aQ.keep kp pr⟩;refine⟨τ,_,_,A.go kp m1,q,?_,?_,?_,?_⟩
 ·rintro σ' H' τ' M' kp' A' ⟨h1,q1⟩;have e':=kp'.frz a o _ av;exact⟨e',k1 _ _ _ _ (eO e kp') (Abs.br e' A' h1) q1⟩
 ·rintro v H' w M' kp' r' m' ⟨h1,q1⟩;have e':=kp'.frz a o _ av;exact⟨e',k2 _ _ _ _ (eO e kp') (aI.br e' r') (cn.br e' m' h1) q1⟩
 ·rintro σ' H' τ' M' kp' A' ⟨h1,q1⟩;have e':=kp'.frz a o _ av;exact⟨e',k3 _ _ _ _ (eO e kp') (Abs.br e' A' h1) q1⟩
 ·rintro σ' H' τ' M' kp' A' ⟨h1,q1⟩;have e':=kp'.frz a o _ av;exact⟨e',k4 _ _ _ _ (eO e kp') (Abs.br e' A' h1) q1⟩⟩
theorem gM(ho:Jd (PD X o td)):Jd (PId X tg o (lJ td)):=⟨have ho:=ho.h;aa9 (uq ho) λ σ H R hq80=>by obtain⟨τ,M,Rd,A,h,k⟩:=hq80;refine⟨τ,M,_,A,h,λ v H1 w M1 kp r m hq81=>?_⟩;obtain⟨a,ws,ew,hm,q⟩:=hq81;subst ew;obtain⟨ob,l,e,pr⟩:=m _ _ hm;refine⟨a,ob,l,r,e,k _ H1 _ M1 kp m (λ H2 kp2 i=>?_) q⟩;have hl:=pr.length;have e2:=kp2.frz a ob _ e;refine⟨λ hi=>⟨e2,by omega⟩,λ hi=>⟨e2,by omega⟩,λ x H' hi hq82=>?_⟩;obtain⟨eH,ex⟩:=hq82;subst eH;have hi2:i<ws.length:=hi;obtain⟨x',ex',rx⟩:=aQ.get (aQ.keep kp2 pr) (List.getElem?_eq_getElem hi2);rw[ex'] at ex;cases ex;exact⟨Kp.refl _,λ M m=>m,ws[i],List.getElem?_eq_getElem hi2,rx⟩⟩
theorem lZ(hN:X.N.Nodup)(hi':X.N[i]? =some x)(hx:Loc X.env.scope x)(hc:X.calm=true)(L:iE X sc own fr)(hi:PId X tg iter di)
  (hg:∀ cl C s H ex pl,PGd (blk X sc (lcN X own fr) cl C s H ex pl) tg g)(ht:∀ cl C s H ex pl,lK (blk X sc (lcN X own fr) cl C s H ex pl) ifs tt)(he:∀ cl C s H ex pl,PD (blk X sc (lcN X own fr) cl C s H ex pl) elt te)
  (hsw:swapsWith (.ListComp elt [⟨tg,iter,ifs,0⟩] sc pos) (some (.Name x pos')) spos.line X.env=pure true:=by rfl)
  (hs:∀ x,foldedSetIterable iter X.env x=pure x:=by intro _;rfl)(hf:X.fn x=true\/X.env.scope.names.lookup x=some .local:=by first | exact .inl rfl | exact .inr rfl | assumption) :
  PSd X (.Assign [.Name x pos'] (.ListComp elt [⟨tg,iter,ifs,0⟩] sc pos) spos) (bR (uV di g tt te own.length fr) (gN i)):=mH (mv hN hi' hx hc L hi hg ht he hsw hs hf) λ D σ H hq83=>by
 obtain⟨τ,M,Dd,A,h,k1,_⟩:=hq83;have z:up X.K (uV di g tt te own.length fr) σ H (λ v H'=>D.nx (σ.set i (some v)) H'):=⟨τ,M,_,A,h,λ v H1 w M1 kp r m q=>k1 _ H1 _ M1 kp ((A.go kp m).set i r) q⟩;exact rG z
theorem lY(hN:X.N.Nodup)(hi':X.N[i]? =some x)(hx:Loc X.env.scope x)(hc:X.calm=true)(L:iE X sc own fr)(hi:Jd (PId X tg iter di))
  (hg:∀ cl C s H ex pl,Jd (PGd (blk X sc (lcN X own fr) cl C s H ex pl) tg g))(ht:∀ cl C s H ex pl,Jd (lK (blk X sc (lcN X own fr) cl C s H ex pl) ifs tt))(he:∀ cl C s H ex pl,Jd (PD (blk X sc (lcN X own fr) cl C s H ex pl) elt te))
  (hsw:swapsWith (.ListComp elt [⟨tg,iter,ifs,0⟩] sc pos) (some (.Name x pos')) spos.line X.env=pure true:=by rfl)
  (hs:∀ x,foldedSetIterable iter X.env x=pure x:=by intro _;rfl)(hf:X.fn x=true\/X.env.scope.names.lookup x=some .local:=by first | exact .inl rfl | exact .inr rfl | assumption) :
  Jd (PSd X (.Assign [.Name x pos'] (.ListComp elt [⟨tg,iter,ifs,0⟩] sc pos) spos) (bR (uV di g tt te own.length fr) (gN i))):=⟨D.lZ hN hi' hx hc L hi.h (λ cl C s H ex pl=>(hg cl C s H ex pl).h) (λ cl C s H ex pl=>(ht cl C s H ex pl).h) (λ cl C s H ex pl=>(he cl C s H ex pl).h) hsw hs hf⟩
theorem abi(h:us.length=0):us=[]:=by exact List.eq_nil_of_length_eq_zero h
theorem tq(h:us.length=1):∃ a1:Value,us=[a1]:=by
 cases us with
 | nil=>simp at h
 | cons a r =>
  have e:r=[]:=abi (by simpa using h);subst e;exact⟨a,rfl⟩
theorem uv(h:us.length=2):∃ a1 a2:Value,us=[a1,a2]:=by
 cases us with
 | nil=>simp at h
 | cons a r =>
  obtain⟨b1,e⟩:=tq (us:=r) (by simpa using h);subst e;exact⟨a,b1,rfl⟩
theorem aaO(h:us.length=3):∃ a1 a2 a3:Value,us=[a1,a2,a3]:=by
 cases us with
 | nil=>simp at h
 | cons a r =>
  obtain⟨b1,b2,e⟩:=uv (us:=r) (by simpa using h);subst e;exact⟨a,b1,b2,rfl⟩
theorem abe(h:us.length=4):∃ a1 a2 a3 a4:Value,us=[a1,a2,a3,a4]:=by
 cases us with
 | nil=>simp at h
 | cons a r =>
  obtain⟨b1,b2,b3,e⟩:=aaO (us:=r) (by simpa using h);subst e;exact⟨a,b1,b2,b3,rfl⟩
section
variable {X:Cx}{K:FG}
end
section
variable {X:Cx}{K:FG}
end
section
variable {X:Cx}{K:FG}
end
section
variable {K:FG}
def yY(di:TId)(g:TGd)(tt:TTd)(te:TD)(k:Nat)(fr:List Nat)(τ:DS)(M:MH)(Q:QD):Prop:=di τ M λ ws M1=>∃ P:Nat->List W->DS->MH->Prop,P 0 [] (uQ k fr τ) M1 /\
 (∀ i w acc τ M,ws[i]? =some w->P i acc τ M->acc.length<sizeLine/\g w τ M λ τ2 M2=>tt τ2 M2 λ b M3=>if b=true then te τ2 M3 λ y M4=>P (i+1) (acc++[y]) τ2 M4 else P (i+1) acc τ2 M3) /\
 ∀ acc τ M,P ws.length acc τ M->∀ p,M p=none->Q (.m p) (aT M p (.lst acc))
theorem xP(h:up K (yY di g tt te k fr) σ H Q) :
  tLC (upI K di) (upG K g) (upT K tt) (up K te) k fr σ H Q:=by
 obtain⟨τ,M,Qd,A,h,kk⟩:=h;refine⟨τ,M,_,A,h,λ J H1 ws M1 kp m1 it hq84=>?_⟩;obtain⟨P,p0,pt,pe⟩:=hq84;refine⟨λ i n ys σ' H'=>n=ws.length-i/\i<=ws.length/\Kp H1 H'/\∃ acc τ M,aQ K H' acc ys/\Abs K H' σ' τ M/\P i acc τ M,⟨ws.length,by simp,Nat.zero_le _,Kp.refl _,[],_,M1,Paired.nil,j9 (A.go kp m1) k fr,p0⟩,?_⟩;rintro i n ys σ2 H2 ⟨rfl,hi,kp2,acc,τ2,M2,ra,A2,p2⟩;obtain⟨go,stop,yld⟩:=it H2 kp2 i
 by_cases hlt:i<ws.length
 ·have hlen:=ra.length;refine .inr ⟨go hlt,?_,λ x H3 y=>?_⟩
  ·obtain⟨w,hw⟩:∃ w,ws[i]? =some w:=⟨ws[i],by simp[hlt]⟩;have:=(pt i w acc τ2 M2 hw p2).1;omega
  obtain⟨kp3,mk,w,ew,rw⟩:=yld x H3 hlt y;refine⟨w,τ2,M2,_,rw,A2.go kp3 (mk _ A2.mem),(pt i w acc τ2 M2 ew p2).2,λ σ4 H4 τ4 M4 kp4 A4 q4=>⟨τ4,M4,_,A4,q4,λ b H5 M5 kp5 m5 q5=>?_⟩⟩;have kq:=(kp3.trans kp4).trans kp5;cases b with
  | false =>
   rw[if_neg Bool.false_ne_true] at q5;show(if false=true then _ else _);rw[if_neg Bool.false_ne_true];exact⟨ws.length-(i+1),by omega,rfl,hlt,kp2.trans kq,acc,τ4,M5,aQ.keep kq ra,A4.go kp5 m5,q5⟩
  | true =>
   rw[if_pos rfl] at q5;show(if true=true then _ else _);rw[if_pos rfl];refine⟨τ4,M5,_,A4.go kp5 m5,q5,λ v H6 wv M6 kp6 r6 m6 q6=>?_⟩;refine⟨ws.length-(i+1),by omega,rfl,hlt,kp2.trans (kq.trans kp6),acc++[wv],τ4,M6,aQ.append (aQ.keep (kq.trans kp6) ra) (.cons r6 .nil),A4.go (kp5.trans kp6) m6,q6⟩
 ·have hl:i=ws.length:=by omega
  subst hl;refine .inl ⟨stop (Nat.le_refl _),λ p hp=>?_⟩;have kp9:Kp H2 (upd H2 p (.lst ys)):=Kp.new hp;exact kgo kk (kp.trans kp2) _ _ (.m p) _ kp9 rfl (A2.mem.put (mo:=.lst acc) kp9 ⟨_,av,aQ.keep kp9 ra⟩) (pe acc τ2 M2 p2 p (A2.mem.free hp))
variable {X:Cx}{sc:Scope}{own:List Str}{fr:List Nat}{di:TId}{g:TGd}{tt:TTd}{te:TD}{tg iter elt:Expr}{ifs:List Expr}{pos:Pos}
theorem vN(hc:X.calm=true)(L:iE X sc own fr)(hi:PId X tg iter di)
  (hg:∀ cl C s H ex pl,PGd (blk X sc (lcN X own fr) cl C s H ex pl) tg g)(ht:∀ cl C s H ex pl,lK (blk X sc (lcN X own fr) cl C s H ex pl) ifs tt)(he:∀ cl C s H ex pl,PD (blk X sc (lcN X own fr) cl C s H ex pl) elt te)
  (hs:∀ x,foldedSetIterable iter X.env x=pure x:=by intro _;rfl):PD X (.ListComp elt [⟨tg,iter,ifs,0⟩] sc pos) (yY di g tt te own.length fr):=
 eW (wd hc L hi hg ht he hs) λ σ H Q h=>xP h
end
section
variable {X:Cx}{tg iter elt:Expr}{pos:Pos}{sc:Scope}{own:List Str}{fr:List Nat}{di:TId}{g:TGd}{tt:TTd}{te:TD}{ifs:List Expr}
end
theorem xI(hc:X.calm=true)(L:iE X sc own fr)(hi:Jd (PId X tg iter di))
  (hg:∀ cl C s H ex pl,Jd (PGd (blk X sc (lcN X own fr) cl C s H ex pl) tg g))(ht:∀ cl C s H ex pl,Jd (lK (blk X sc (lcN X own fr) cl C s H ex pl) ifs tt))(he:∀ cl C s H ex pl,Jd (PD (blk X sc (lcN X own fr) cl C s H ex pl) elt te))
  (hs:∀ x,foldedSetIterable iter X.env x=pure x:=by intro _;rfl):Jd (PD X (.ListComp elt [⟨tg,iter,ifs,0⟩] sc pos) (yY di g tt te own.length fr)):=
 ⟨D.vN hc L hi.h (λ cl C s H ex pl=>(hg cl C s H ex pl).h) (λ cl C s H ex pl=>(ht cl C s H ex pl).h) (λ cl C s H ex pl=>(he cl C s H ex pl).h) hs⟩
end D
namespace XO
open PySem.W Builtin.ObjectAttr
section
variable {prog:Program}{w:World}{A:Around}{E:VP}{s:Shared}{K:Frag}{x C:Addr}{name:Str}{v:Value}
end
section
variable {prog:Program}{w:World}{A:Around}{E:VP}{s:Shared}{K:Frag}{x C:Addr}{name:Str}{v:Value}{ox:Obj}{od:Option Obj}
end
section
variable {prog:Program}{w:World}{A:Around}{E:VP}{K:Frag}{C f:Addr}{h:Heap}{g:Array GenState}{d:Drawn}{t:Nat}{os:OsState}
end
end XO
namespace L2
open XO
end L2
namespace D
open L2 XO
section
variable {P:Program}{w:World}{K:FG}{mg:Str->Option Value}{base:Heap}
end
end D
namespace XO
open PySem.W
section
variable {prog:Program}{w:World}{A:Around}{E:VP}{s:Shared}{K:Frag}{env:PySem.Env}
end
end XO
namespace L2
open XO
section
variable {P:Program}{w:World}{K:FG}{mg:Str->Option Value}{base:Heap}{C f:Addr}{fd:FuncData}{qual:Str}{st:Stmt}
end
end L2
namespace D
open L2 XO
end D
namespace L2
open XO
end L2
namespace D
open L2 XO
section
variable {X:Cx}{pos np hpos:Pos}{body suite:List Stmt}{b0:Stmt}{hs:List ExceptHandler}{h0:ExceptHandler}{tb:XE->TSd}{th rest:Addr->TSd}{ts:TSd}
end
section
variable {X:Cx}{pos p p' apos cpos np hpos:Pos}{k:Nat}{f C:Addr}{fd:FuncData}{ps fs:List Str}{sp:SpX}{x m n:Str}{e o:Expr}{es:List Expr}{t:TAd}{td:TD}{E:XE}
variable {body suite:List Stmt}{b0:Stmt}{hs:List ExceptHandler}{h0:ExceptHandler}{tb:XE->TSd}{th rest:Addr->TSd}{ts:TSd}
end
section
variable {X:Cx}{K:FG}
end
section
variable {X:Cx}{K:FG}
end
def abn(i j l:Nat)(ta:TA):TS:=λ D σ H=>ta σ H λ vs H1=>∃ v w u,vs=[v,w,u]/\D.nx (((σ.set l (some u)).set j (some w)).set i (some v)) H1
theorem wJ{kt k2 pt2}(hc:X.calm=true)(hN:X.N.Nodup)(hi:X.N[i]? =some x)(hj:X.N[j]? =some y)(hl:X.N[l]? =some z)
  (hx:X.env.scope.names.lookup x=some .local)(hy:X.env.scope.names.lookup y=some .local)(hz:X.env.scope.names.lookup z=some .local)(ha:PA X [a,b,c] ta)
  (hw:swappedStores [.Tuple [.Name x px,.Name y py,.Name z pz] kt pt] (.Tuple [a,b,c] k2 pt2) X.env=pure (some [x,y,z]))
  (hs:swapsWithSole [.Tuple [.Name x px,.Name y py,.Name z pz] kt pt] (.Tuple [a,b,c] k2 pt2) pos.line X.env=pure false:=by rfl) :
  PS X (.Assign [.Tuple [.Name x px,.Name y py,.Name z pz] kt pt] (.Tuple [a,b,c] k2 pt2) pos) (abn i j l ta):=by
 intro pins s σ H D I h;rw[exec_Assign_arm];refine wpAny_bind (wpAny_standAt ?_);rw[hs];refine wpAny_bind (wpAny_pure ?_);rw[if_neg (by decide)];refine wpAny_bind (Tuple_ (thn (ha _ pins s σ H _ I h) λ us s1 hq85=>?_));obtain⟨vs,H1,I1,r1,q1⟩:=hq85;obtain⟨v,w,u,e1,q1⟩:=q1;subst e1;obtain⟨u1,u2,u3,rfl,rv,rw',ru⟩:∃ u1 u2 u3,us=[u1,u2,u3]/\RelV v u1/\RelV w u2/\RelV u u3:=by
  cases r1 with
  | cons p q =>
   cases q with
   | cons p' q' =>
    cases q' with
    | cons p'' q'' =>
     cases q'';exact⟨_,_,_,rfl,p,p',p''⟩
 refine wpAny_newObj_type ?_ (by show 3<=sizeLine;decide);have I2:Inv X pins σ H1 {s1 with heap:=s1.heap.push {cls:=.type "tuple",data:=.seq [u1,u2,u3].toArray}}:=I1.kept (t':=s1.toks) λ b o e=>Heap.get?_push_of_some _ e;rw[hw];refine wpAny_bind (wpAny_pure ?_);show wpAny (model X.prog X.w) X.A (do rule "assign.swapped-stores";let items <- unpackItems (.ref s1.heap.objs.size) 3 none;assignInOrder [λ v=>bindName X.env z v,λ v=>bindName X.env y v,λ v=>bindName X.env x v] items.reverse;pure Flow.next) _ _ _;refine wpAny_bind (wpAny_rule (wpAny_bind (unpackItems_tuple (items:=#[u1,u2,u3]) (I.ok.hd hc) (IsTup.new s1.heap _) λ h' hx'=>?_)));have I3:=I2.kept (h':=h') (t':=s1.toks) λ b o e=>hx' b o (Nat.ne_of_lt (Heap.lt_size e)) e;show wpAny _ _ (assignInOrder [λ v=>bindName X.env z v,λ v=>bindName X.env y v,λ v=>bindName X.env x v] [u3,u2,u1] >>= λ _=>pure Flow.next) _ _ _;refine wpAny_bind (assignInOrder_cons (wpAny_bindName (eI I3 hN hl (.inl hz) ru (λ s2 I4=>?_) (.inr hz))));refine assignInOrder_cons (wpAny_bindName (eI I4 hN hj (.inl hy) rw' (λ s3 I5=>?_) (.inr hy)));refine assignInOrder_cons (wpAny_bindName (eI I5 hN hi (.inl hx) rv (λ s4 I6=>assignInOrder_nil (wpAny_pure ?_)) (.inr hx)));exact⟨_,H1,I6,q1⟩
def wC(i j l:Nat)(t:TAd)(D:Ed)(τ:DS)(M:MH):Prop:=t τ M λ ws M1=>∃ v w u,ws=[v,w,u]/\D.nx (((τ.set l (some u)).set j (some w)).set i (some v)) M1
theorem rE{kt k2 pt2}(hc:X.calm=true)(hN:X.N.Nodup)(hi:X.N[i]? =some x)(hj:X.N[j]? =some y)(hl:X.N[l]? =some z)
  (hx:X.env.scope.names.lookup x=some .local)(hy:X.env.scope.names.lookup y=some .local)(hz:X.env.scope.names.lookup z=some .local)(ha:Jd (PAd X [a,b,c] t))
  (hw:swappedStores [.Tuple [.Name x px,.Name y py,.Name z pz] kt pt] (.Tuple [a,b,c] k2 pt2) X.env=pure (some [x,y,z]):=by rfl)
  (hs:swapsWithSole [.Tuple [.Name x px,.Name y py,.Name z pz] kt pt] (.Tuple [a,b,c] k2 pt2) pos.line X.env=pure false:=by rfl) :
  Jd (PSd X (.Assign [.Tuple [.Name x px,.Name y py,.Name z pz] kt pt] (.Tuple [a,b,c] k2 pt2) pos) (wC i j l t)):=⟨have ha:=ha.h;mH (wJ hc hN hi hj hl hx hy hz ha hw hs) λ D σ H h=>by
 obtain⟨τ,M,Dd,A,h,k1,_⟩:=h;refine⟨τ,M,_,A,h,λ vs H1 ws M1 kp1 r1 m1 hq86=>?_⟩;obtain⟨v,w,u,ew,q⟩:=hq86;subst ew;cases r1 with
 | cons r1 r2 =>
  cases r2 with
  | cons r3 r4 =>
   cases r4 with
   | cons r5 r6 =>
    cases r6;exact⟨_,_,_,rfl,k1 _ H1 _ M1 kp1 ((((A.go kp1 m1).set l r5).set j r3).set i r1) q⟩⟩
end D
namespace PySem.SeqAt
open MeetsSeq MeetsSeq2 MeetsSeq3 SeqRoads2
end PySem.SeqAt
namespace ZT
end ZT
namespace D
open L2
section
variable {X:Cx}{K:FG}{a b:Expr}{p pos:Pos}{t:TAd}
end
section
variable {X:Cx}{K:FG}
end
section
variable {X:Cx}{K:FG}
end
section
variable {X:Cx}{e st:Expr}{te:TE}{ts:TO}{pos p2:Pos}
end
section
variable {X:Cx}{K:FG}{e st:Expr}{te:TD}{ts:TOd}{pos p2:Pos}
end
section
variable {X:Cx}{e st:Expr}{a:Addr}{x:Str}{kvs:List (Str×PyData)}{pos p p2:Pos}{te:TD}{ts:TOd}
end
end D
namespace XO
open PySem.W
section
variable {prog:Program}{w:World}{A:Around}{E:VP}{K:Frag}{C:Addr}{h:Heap}{g:Array GenState}{d:Drawn}{t:Nat}{os:OsState}
end
end XO
namespace D
open L2 XO
section
variable {X:Cx}{pos p cpos np hpos:Pos}{k:Nat}{f C:Addr}{x:Str}{e:Expr}{es:List Expr}{t:TAd}{E:XE}
variable {body suite:List Stmt}{b0:Stmt}{hs:List ExceptHandler}{th rest:Addr->TSd}{ts:TSd}
end
section
variable {X:Cx}{K:FG}
variable {o e:Expr}{td te:TD}{apos cpos:Pos}
end
section
variable {X:Cx}{e st:Expr}{te:TE}{ts:TO}{pos p2:Pos}
end
section
variable {X:Cx}{e st:Expr}{te:TD}{ts:TOd}{pos p2:Pos}
end
section
variable {X:Cx}{K:FG}
end
section
variable {X:Cx}{pos p cpos apos np hpos p2:Pos}{k:Nat}{f C:Addr}{x y:Str}{e o st:Expr}{es:List Expr}{t:TAd}{E:XE}{body suite:List Stmt}{b0:Stmt}{hs:List ExceptHandler}{rest:Addr->TSd}{ts:TSd}{fd:FuncData}{ps:List Str}{sp:SpX}{td te:TD}{to:TOd}
end
end D
namespace ZS
end ZS
namespace D
open L2
section
variable {X:Cx}{K:FG}
end
end D
namespace RT
end RT
namespace D
open L2
section
variable {X:Cx}{K:FG}
variable {o e:Expr}{td:TD}{apos cpos:Pos}
variable {a:Expr}{ta:TA}{p p2 pos pos2:Pos}
end
end D
namespace L2
open PySem.W (envX kla_obj kla_fn)
def sD(X:Cx)(q:Str)(sc:Scope)(N':List Str)(cl:List (Str×Addr))(f c:Addr)(s:Shared)(H:Hp)(pins:PN):Cx:=
 {X with A:=X.A.deeper (envX q sc s.heap.objs.size f (.ref c) cl),N:=N',s₀:=s,H₀:=H,env:=envX q sc s.heap.objs.size f (.ref c) cl,outer:=X.stack,stack:=envX q sc s.heap.objs.size f (.ref c) cl::X.stack,ex:=[],fn:=λ _=>false,calm:=true,pn:=X.pn++pins,xe:=λ _ _=>False}
structure j5(X:Cx)(sc:Scope)(x:Str)(fr:List Nat):Prop where
 kind:sc.kind=.function
 co:sc.isCoroutine=false
 gen:sc.isGenerator=false
 cell:∀ y∈sc.names,y.2 ≠ .cell
 free:∀ y∈sc.names,y.2=.free->(X.env.kindOf y.1=some .cell\/X.env.kindOf y.1=some .free)
 own:sc.names.lookup x=some .local
 fr:aaE X.N sc fr=true
def pP(X:Cx)(x:Str)(fr:List Nat):List Str:=x::fr.map λ j=>X.N.getD j Str.empty
def yN(v:V)(fr:List Nat)(σ:St):St:=some v::fr.map λ j=>(σ[j]?).getD none
section
variable {X:Cx}{pins:PN}{σ:St}{H:Hp}{s:Shared}{sc:Scope}{x q:Str}{fr:List Nat}{cl:List (Str×Addr)}{f c:Addr}
theorem yT(L:j5 X sc x fr)(hc:X.calm=true)(I:Inv X pins σ H s)(c1:∀ n c,cl.lookup n=some c->X.env.cells.lookup n=some c)(c2:∀ n,(n,NameKind.free)∈sc.names->∃ c,cl.lookup n=some c):(sD X q sc (pP X x fr) cl f c s H pins).Ok where
 mod:=I.ok.mod
 kind:=L.kind
 glob:=rfl
 blt:=rfl
 above:=Nat.le_refl _
 inj:=λ x y c a b=>I.ok.inj x y c (c1 _ _ a) (c1 _ _ b)
 has:=λ y hy=>by
  have hy:sc.names.lookup y=some .cell\/sc.names.lookup y=some .free:=hy;rcases hy with hy | hy
  ·exact absurd rfl (L.cell _ (PySem.mem_of_lookup hy))
  ·exact c2 y (PySem.mem_of_lookup hy)
 cab:=λ x c z=>absurd (show false=true from z) Bool.false_ne_true
 hd:=λ _=>I.ok.hd hc
 frames:=Around.frames_deeper I.ok.frames
 stk:=.inr ⟨rfl,rfl⟩
 exf:=λ b z=>nomatch z
 bs:=I.bs
 bsz:=Nat.le_trans I.ok.bsz I.sz
 noex:=λ b o e z=>nomatch z
 exfs:=λ b z=>nomatch z
 ll:=I.stack
 frf:=I.lP
theorem vS(L:j5 X sc x fr)(hc:X.calm=true)(I:Inv X pins σ H s)(c1:∀ n c,cl.lookup n=some c->X.env.cells.lookup n=some c)(c2:∀ n,(n,NameKind.free)∈sc.names->∃ c,cl.lookup n=some c)
  {h1:Heap}{tk:Nat}{v:V}{u:Value}(rv:RelV v u)(hn:h1.Ns s.heap.objs.size (λ y=>[(x,u)].reverse.lookup y))(k:∀ b o,s.heap.get? b=some o->h1.get? b=some o) :
  Inv (sD X q sc (pP X x fr) cl f c s H pins) [] (yN v fr σ) H {s with heap:=h1,toks:=tk}:=by
 have ok:=yT (q:=q) (f:=f) (c:=c) L hc I c1 c2;refine⟨ok,rfl,I.bare,Un.kept k,⟨_,hn,λ i y v' e1 e2 e3=>?_⟩,λ y c e=>?_,I.hok.fresh (Nat.le_refl _),λ y c e=>I.freeC y c (c1 _ _ e),λ p hp=>?_,I.hok.kept k,?_⟩
 ·cases i with
  | zero =>
   have e1':some x=some y:=e1;have e2':some (some v)=some (some v'):=e2;cases e1';cases e2';exact⟨u,rv,.inl ⟨L.own,by simp⟩⟩
  | succ i =>
   have e1':(fr.map λ j=>X.N.getD j Str.empty)[i]? =some y:=e1;have e2':(fr.map λ j=>(σ[j]?).getD none)[i]? =some (some v'):=e2;rw[List.getElem?_map] at e1' e2';cases hq:fr[i]? with
   | none=>rw[hq] at e1';cases e1'
   | some j =>
    rw[hq] at e1' e2';obtain⟨z,hz,hzf⟩:=mZ L.fr (List.mem_of_getElem? hq);have ex:z=y:=by have:=Option.some.inj e1';rw[<- this];simp[List.getD,hz]
    subst ex;have ev:σ[j]? =some (some v'):=by
     have z':(σ[j]?).getD none=some v':=Option.some.inj e2';cases w:σ[j]? with
     | none=>rw[w] at z';cases z'
     | some o=>rw[w] at z';exact congrArg some z'
    have hm:(z,NameKind.free)∈sc.names:=PySem.mem_of_lookup hzf;have hk:=L.free _ hm rfl;have vis:Vis X.env.scope z:=by
     rcases hk with w | w
     ·exact .inr (.inl w)
     ·exact .inr (.inr w)
    obtain⟨m0,hn0,hl⟩:=I.loc;obtain⟨u',r,l⟩:=hl j z v' hz ev vis;refine⟨u',r,.inr ⟨.inr hzf,?_⟩⟩;obtain⟨c',hc'⟩:=c2 z hm;rcases l with ⟨w,_⟩ | ⟨_,c'',hc'',hcell⟩
    ·rcases hk with q' | q'
     ·exact absurd (show X.env.kindOf z=some .local from w) (by rw[q'];decide)
     ·exact absurd (show X.env.kindOf z=some .local from w) (by rw[q'];decide)
    ·have:c'=c'':=Option.some.inj ((c1 _ _ hc').symm.trans hc'');subst this;obtain⟨o,ho,hd⟩:=hcell;exact⟨c',hc',o,k _ _ ho,hd⟩
 ·obtain⟨w,o,ho,hd⟩:=I.cell y c (c1 _ _ e);exact⟨w,o,k _ _ ho,hd⟩
 ·have hp':p∈X.pn++pins:=by simpa [sD] using hp
  obtain⟨a1,a2,a3,a4,a5⟩:=I.pin p hp';refine⟨k _ _ a1,a2,Nat.ne_of_lt (Heap.lt_size a1),λ z=>?_,a5⟩;rcases List.mem_cons.mp (I.fJ _ z) with e | e
  ·exact a3 e
  ·exact a4 e
 ·show(yN v fr σ).length=(pP X x fr).length;simp[yN,pP]
def yp(H:Hp)(q x:Str)(params:Arguments)(body:Expr)(sc:Scope)(cl:List (Str×Addr))(pm:Value)(f:Addr):Prop:=
 ∃ c ctv oc vs t,H f=some (.frz (kla_obj "<lambda>" q params body sc cl pm c ctv) (.own 0))/\H c=some (.frz oc (.own 0))/\oc.data=.fields vs/\vs[1]? =some (.str q t)
theorem yh{k:Nat}{E:VP}{params:Arguments}{body:Expr}{pm:Value}{te:TE}{v:V}{u:Value}{Q:VK}(hr:cj (k+1) X.A)(hc:X.calm=true)(L:j5 X sc x fr)(c1:∀ n c,cl.lookup n=some c->X.env.cells.lookup n=some c)(c2:∀ n,(n,NameKind.free)∈sc.names->∃ c,cl.lookup n=some c)
  (hb:∀ cdv ctv u,bindArgs (kla_fn "<lambda>" q params body sc cl pm cdv ctv) ⟨[u],[]⟩=pure [(x,u)])
  (he:∀ c s H pl,cj k (sD X q sc (pP X x fr) cl f c s H pl).A->PE (sD X q sc (pP X x fr) cl f c s H pl) body te)
  (I:Inv X pins σ H s)(hf:yp H q x params body sc cl pm f)(rv:RelV v u)(h:te (yN v fr σ) H Q):wpAny (model X.prog X.w) X.A (call (.ref f) [u]) (EP X pins σ Q) E s:=by
 obtain⟨c,ctv,oc,vs,t,h1,h2,h3,h4⟩:=hf;obtain⟨g1,_⟩:=I.hok f _ h1;obtain⟨g2,_⟩:=I.hok c _ h2;refine wpAny_call (W.kla_callFunE hr.depth g1 rfl L.co L.gen rfl ⟨c,oc,vs,t,rfl,g2,h3,h4⟩ ?_);rw[hb];refine wpAny_pure (wpAny_newFunctionEnv L.cell (λ y hy=>by rw[List.mem_singleton.mp hy];exact L.own) (λ h₁ hns hsb=>⟨(I.nolimit).fresh _ hsb,?_⟩) L.kind);have hk₁:∀ b o,s.heap.get? b=some o->h₁.get? b=some o:=λ b o e=>hsb.extBut b o (Nat.ne_of_lt (Heap.lt_size e)) (Heap.get?_push_of_some _ e);have J:=vS (q:=q) (f:=f) (c:=c) (tk:=s.toks+1) L hc I c1 c2 rv hns hk₁;have hr':cj k (sD X q sc (pP X x fr) cl f c s H pins).A:=hr.deeper _;refine W.kla_codeExpr (wpAny_mono (he c s H pins hr' [] _ _ _ _ J h) (λ u' s' hh=>?_) λ _ _ z=>z.elim);obtain⟨v',H',J',r',q'⟩:=hh;exact I.after ⟨v',H',J'.os,J'.bare,J'.base,J'.hok,r',q'⟩
end
section
variable {X:Cx}{pins:PN}{σ:St}{H:Hp}{s:Shared}
theorem Inv.yn{P:Addr}{ps more:Array Value}{h':Heap}{t':Nat}(I:Inv X pins σ H s)(hP:H P=some (.tbl ps))(k:∀ b u,b≠P->s.heap.get? b=some u->h'.get? b=some u)(e:h'.get? P=some {cls:=.none,data:=.fields (ps++more)}) :
  Inv X pins σ (upd H P (.tbl (ps++more))) {s with heap:=h',toks:=t'}:=by
 have nn:∀ b,H b=none->b≠P:=λ b n=>Ne.symm (aG hP n);have nt:∀ b xs,H b=some (.tup xs)->b≠P:=λ b xs q=>oz q hP (λ z=>nomatch z);have nf:∀ b o u,H b=some (.frz o u)->b≠P:=λ b o u q=>oz q hP (λ z=>nomatch z);have no:∀ b y,H b=some (.own y)->b≠P:=λ b y q=>oz q hP (λ z=>nomatch z);refine I.un ⟨λ b o q n _ _=>k b o (nn b n) q,λ b o q n _ _=>⟨o.slots,k b o (nn b n) q⟩,λ b o _ n _=>by rw[aj (nn b n)];exact n,λ b o q _=>?_,λ b xs q=>by rw[aj (nt b xs q)];exact q,λ b o u q=>by rw[aj (nf b o u q)];exact q,λ b qs q=>?_⟩ λ b u q=>?_
 ·by_cases hb:b=P
  ·subst hb;exact⟨_,e⟩
  ·exact⟨o,k b o hb q⟩
 ·by_cases hb:b=P
  ·subst hb;rw[hP] at q;cases q;exact⟨more,av⟩
  ·exact⟨#[],by rw[aj hb,q];simp⟩
 ·by_cases hb:b=P
  ·subst hb;rw[av] at q;cases q;exact e
  ·rw[aj hb] at q;exact(I.hok b u q).oW (λ c v hc r=>k c v (by rcases hc with z | z;rw[z];exact hb;exact no c _ z) r) (λ c r=>by rw[aj (no c _ r)];exact r) λ c xs r=>by rw[aj (nt c xs r)];exact r
theorem Inv.hold{D:Addr}{ob:Obj}(I:Inv X pins σ H s)(e:s.heap.get? D=some ob)(hn:H D=none)
  (h0:X.s₀.heap.objs.size<=D)(hL:D≠X.env.locals)(hc:∀ x c,X.env.cells.lookup x=some c->c≠D)(hp:∀ p∈X.pn++pins,p.1≠D):Inv X pins σ (upd H D (.frz ob (.own 0))) s:=by
 have ne:∀ b u,H b=some u->b≠D:=λ b u q=>aG q hn;refine I.step (h':=s.heap) (g':=s.gens) (d':=s.drawn) (t':=s.toks) (ch:=[D]) (λ b hb=>?_) (λ b o _ _ _ q _=>q) (λ b o _ _ _ q _=>⟨o.slots,q⟩) (λ b o hb q n=>?_) (λ b o _ q=>⟨o,q⟩)
  (λ b xs q=>by rw[aj (ne b _ q)];exact q) (λ b o u q=>by rw[aj (ne b _ q)];exact q) (λ b ps q=>⟨#[],by rw[aj (ne b _ q),q];simp⟩) (λ m hm=>hm) (λ b u q=>?_) I.bare
 ·have e:b=D:=by simpa using hb
  subst e;exact⟨.inr h0,hL,hc,hp⟩
 ·rw[aj (λ z=>hb (by simp[z]))];exact n
 ·by_cases hb:b=D
  ·subst hb;rw[av] at q;cases q;exact⟨e,ob,e⟩
  ·rw[aj hb] at q;exact(I.hok b u q).oW (λ _ _ _ q=>q) (λ c r=>by rw[aj (ne c _ r)];exact r) λ c xs r=>by rw[aj (ne c _ r)];exact r
def abK(X:Cx)(sc:Scope)(cl:List (Str×Addr)):Prop:=(∀ n c,cl.lookup n=some c->X.env.cells.lookup n=some c)/\∀ n,(n,NameKind.free)∈sc.names->∃ c,cl.lookup n=some c
abbrev jw(ps:Array Value)(lpos:Pos)(c:Addr):Array Value:=ps ++ #[rawInt lpos.line,rawInt lpos.col,.ref c]
def acL(X:Cx)(P:Addr)(q:Str)(params:Arguments)(body:Expr)(sc:Scope)(lpos:Pos):TE:=λ σ H Q=>∃ ps,H P=some (.tbl ps)/\TriplesOk ps.toList /\
 ((codeAmong lpos ps.toList=none/\∀ c f oc vs t ctv cl,abK X sc cl->H c=none->H f=none->c≠f->oc.data=.fields vs->vs[1]? =some (.str q t) ->
   Q (.ref f) (upd (upd (upd H c (.frz oc (.own 0))) P (.tbl (jw ps lpos c))) f (.frz (kla_obj "<lambda>" q params body sc cl ((X.mg "__name__").getD .none) c ctv) (.own 0)))) \/
∃ c o vs t,codeAmong lpos ps.toList=some (.ref c)/\H c=some (.frz o (.own 0))/\o.data=.fields vs/\vs[1]? =some (.str q t)/\∀ f ctv cl,abK X sc cl->H f=none ->
   Q (.ref f) (upd H f (.frz (kla_obj "<lambda>" q params body sc cl ((X.mg "__name__").getD .none) c ctv) (.own 0))))
theorem zq{P cd:Addr}{params:Arguments}{body:Expr}{sc:Scope}{lpos:Pos}{x:Str}{fr:List Nat}(L:j5 X sc x fr)(hcode:X.env.code=.ref cd)(hcd:W.codeHdIn X.K cd P=true)(hdef:defaultsOf params X.env=([],[]):=by rfl) :
  PE X (.Lambda params body sc lpos) (acL X P (X.env.qual ++ "<lambda>") params body sc lpos):=by
 intro pins s σ H Q I h;obtain⟨ps,hP,ht,h⟩:=h;obtain⟨cl,hcl,c1,c2⟩:=fB (scope:=sc) (env:=X.env) λ y hy hf=>I.ok.has y.1 (L.free y hy hf);refine W.kla_eval hdef ?_;have hg:=I.ok.mod.glob.keeps I.bk;obtain⟨⟨bm,ob,b1,b2,b3,b4,b5,b6⟩,_⟩:=I.ok.mod.bm;have b3':=I.bk _ _ b3;have hPo:s.heap.get? P=some {cls:=.none,data:=.fields ps}:=I.hok P _ hP;have hgP:mainGlobals≠P:=λ z=>by obtain⟨o,es,ep,e,hd,_⟩:=hg;rw[z,hPo] at e;cases e;cases hd
 have hbP:bm≠P:=λ z=>by rw[z,hPo] at b3';cases b3';cases b4
 have hbG:bm≠mainGlobals:=λ z=>by obtain⟨o,es,ep,e,hd,_⟩:=hg;rw[z,e] at b3';cases b3';rw[hd] at b6;cases b6
 have C:=W.codeHd_of_K I.kIn hcd;rcases h with ⟨hnf,h⟩ | ⟨c,o,vs,t,hf,hc,hd,hv,h⟩
 ·refine W.kla_makeFunction (mg:=X.mg) hcl I.ok.glob hg hcode C hPo ht hnf hgP ⟨bm,ob,b1,b2,hbG,hbP,b3',b4,b5,b6⟩ λ c' ctv h' tk hx hge hlt hrec htb=>?_;obtain⟨c₂,oc,vs,t,e2,hoc,hd,hv⟩:=hrec;cases e2;have hcn:H c'=none:=I.hok.fresh hge;have hfn:H h'.objs.size=none:=I.hok.fresh (Nat.le_trans hge (Nat.le_of_lt hlt));have cP:c'≠P:=Ne.symm (aG hP hcn);have I1:=I.yn (t':=tk) hP (λ b u hb e=>hx b u hb e) htb;have I2:=I1.hold hoc (by rw[aj cP];exact hcn) (Nat.le_trans I.sz hge) (λ z=>by obtain⟨m,hn,_⟩:=I.loc;exact absurd (Nat.lt_of_lt_of_le hn.lt hge) (by rw[z];exact Nat.lt_irrefl _))
   (λ y c hy z=>by obtain⟨w,o,ho,_⟩:=I.cell y c hy;exact absurd (Nat.lt_of_lt_of_le (Heap.lt_size ho) hge) (by rw[z];exact Nat.lt_irrefl _))
   (λ p hp z=>by obtain⟨ho,_⟩:=I.pin p hp;exact absurd (Nat.lt_of_lt_of_le (Heap.lt_size ho) hge) (by rw[z];exact Nat.lt_irrefl _))
  have hsw:upd (upd H P (.tbl (jw ps lpos c'))) c' (.frz oc (.own 0))=upd (upd H c' (.frz oc (.own 0))) P (.tbl (jw ps lpos c')):=by
   funext b;unfold upd
   by_cases e1:b=c'
   ·rw[if_pos e1,if_neg (by rw[e1];exact cP),if_pos e1]
   ·rw[if_neg e1,if_neg e1]
  rw[hsw] at I2;have I3:=I2.laid (t':=tk) (o:=.frz (kla_obj "<lambda>" (X.env.qual ++ "<lambda>") params body sc cl ((X.mg "__name__").getD .none) c' ctv) (.own 0)) (h':=h'.push (kla_obj "<lambda>" (X.env.qual ++ "<lambda>") params body sc cl ((X.mg "__name__").getD .none) c' ctv)) (λ b u e=>Heap.get?_push_of_some _ e) (Nat.le_refl _) ⟨Heap.get?_push_size _ rfl,_,Heap.get?_push_size _ rfl⟩;exact⟨.ref _,_,I3,rfl,h c' h'.objs.size oc vs t ctv cl ⟨c1,c2⟩ hcn hfn (Nat.ne_of_lt hlt) hd hv⟩
 ·refine W.kla_makeFunctionHit (mg:=X.mg) hcl I.ok.glob hg hcode C hPo ht hf ⟨bm,ob,b1,b2,hbG,hbP,b3',b4,b5,b6⟩ λ ctv h' tk hk hsz=>?_;have I3:=(I.kept (t':=tk) hk).laid (t':=tk) (o:=.frz (kla_obj "<lambda>" (X.env.qual ++ "<lambda>") params body sc cl ((X.mg "__name__").getD .none) c ctv) (.own 0)) (h':=h'.push (kla_obj "<lambda>" (X.env.qual ++ "<lambda>") params body sc cl ((X.mg "__name__").getD .none) c ctv)) (λ b u e=>Heap.get?_push_of_some _ e) (Nat.le_refl _) ⟨Heap.get?_push_size _ rfl,_,Heap.get?_push_size _ rfl⟩;exact⟨.ref _,_,I3,rfl,h _ ctv cl ⟨c1,c2⟩ (I.hok.fresh hsz)⟩
end
def aa3(X:Cx):Cx:={X with A:=X.A.in1}
theorem Inv.in1(I:Inv X pins σ H s):Inv (aa3 X) pins σ H s:=
 ⟨⟨I.ok.mod,I.ok.kind,I.ok.glob,I.ok.blt,I.ok.above,I.ok.inj,I.ok.has,I.ok.cab,I.ok.hd,I.ok.frames,I.ok.stk,I.ok.exf,I.ok.bs,I.ok.bsz,I.ok.noex,I.ok.exfs,I.ok.ll,I.ok.frf⟩,I.os,I.bare,I.base,I.loc,I.cell,I.free,I.freeC,I.pin,I.hok,I.len⟩
theorem Inv.acP(I:Inv (aa3 X) pins σ H s):Inv X pins σ H s:=
 ⟨⟨I.ok.mod,I.ok.kind,I.ok.glob,I.ok.blt,I.ok.above,I.ok.inj,I.ok.has,I.ok.cab,I.ok.hd,I.ok.frames,I.ok.stk,I.ok.exf,I.ok.bs,I.ok.bsz,I.ok.noex,I.ok.exfs,I.ok.ll,I.ok.frf⟩,I.os,I.bare,I.base,I.loc,I.cell,I.free,I.freeC,I.pin,I.hok,I.len⟩
theorem Inv.sZ(I:Inv X pins σ H s)(f:fU X pins H it)(k:∀ b o,b≠it->s.heap.get? b=some o->h'.get? b=some o):Inv X pins σ H {s with heap:=h',toks:=t'}:=
 I.turned k f.1 f.2.1 f.2.2.2.1 f.2.2.2.2.1 f.2.2.2.2.2
theorem Inv.adk(I:Inv X pins σ H s)(fa:fU X pins H a)(fb:fU X pins H b)(ea:s.heap.get? a=some oa)(eb:s.heap.get? b=some ob)(ca:∀ v,oa.data ≠ .cell v)(cb:∀ v,ob.data ≠ .cell v):Inv X ((a,oa)::(b,ob)::pins) σ H s:=
 I.cQ λ p hp=>by
  rcases List.mem_cons.mp hp with e | hp
  ·subst e;exact⟨ea,fa.1,fa.2.1,fa.2.2.1,ca⟩
  rcases List.mem_cons.mp hp with e | hp
  ·subst e;exact⟨eb,fb.1,fb.2.1,fb.2.2.1,cb⟩
  ·exact I.pin p (List.mem_append_right _ hp)
theorem Inv.aaA(I:Inv X ((a,oa)::(b,ob)::pins) σ H s):Inv X pins σ H s/\(s.heap.get? a=some oa/\H a=none)/\s.heap.get? b=some ob/\H b=none:=
 have pa:=I.pin (a,oa) (List.mem_append_right _ (.head _));have pb:=I.pin (b,ob) (List.mem_append_right _ (.tail _ (.head _)))
 ⟨I.cQ λ p hp=>I.pin p (List.mem_append_right _ (.tail _ (.tail _ hp))),⟨pa.1,pa.2.1⟩,pb.1,pb.2.1⟩
end L2
namespace D
open L2
open PySem.W (kla_obj kla_fn)
def vy(w:W)(fr:List Nat)(τ:DS):DS:=some w::fr.map λ j=>(τ[j]?).getD none
section
variable {X:Cx}{K:FG}
theorem x8{H:Hp}{σ:St}{τ:DS}{M:MH}{v:V}{w:W}(A:Abs K H σ τ M)(r:aI K H w v)(fr:List Nat):Abs K H (yN v fr σ) (vy w fr τ) M:=(j9 A 1 fr).set 0 r
theorem wq{M:MH}{a:Addr}{o:MO}(h:M a=some o):aT M a o=M:=by
 funext b
 by_cases e:b=a
 ·rw[e,aw,h]
 ·rw[ax e]
theorem nZ{H:Hp}{M:MH}{P c:Addr}{ps:Array Value}{q:Str}{lpos:Pos}{oc:Obj}{vs:Array Value}{t:Tok}(m:cn K H M)(hP:M P=some (.code q lpos))(hT:H P=some (.tbl ps))(ht:TriplesOk ps.toList)(hn:codeAmong lpos ps.toList=none)(hc:H c=none)(hd:oc.data=.fields vs)(hv:vs[1]? =some (.str q t)) :
  Kp H (upd (upd H c (.frz oc (.own 0))) P (.tbl (jw ps lpos c)))/\cn K (upd (upd H c (.frz oc (.own 0))) P (.tbl (jw ps lpos c))) M:=by
 have cP:c≠P:=Ne.symm (aG hT hc);have hT':upd H c (.frz oc (.own 0)) P=some (.tbl ps):=by rw[aj (Ne.symm cP)];exact hT
 have k2:Kp (upd H c (.frz oc (.own 0))) (upd (upd H c (.frz oc (.own 0))) P (.tbl (jw ps lpos c))):=Kp.set hT' (λ _ z=>nomatch z) (λ _ _ z=>nomatch z);refine⟨(Kp.new hc).trans k2,?_⟩;have e:(jw ps lpos c).toList=ps.toList++[rawInt lpos.line,rawInt lpos.col,.ref c]:=by simp[jw]
 have:=(m.new (o:=.frz oc (.own 0)) hc).put (mo:=.code q lpos) k2 ⟨_,av,by rw[e];exact TriplesOk_snoc _ _ _ _ ht,.inr ⟨c,oc,vs,t,by rw[e];exact codeAmong_snoc _ ht hn,by rw[aj cP,av],hd,hv⟩⟩;rw[wq hP] at this;exact this
variable {P cd:Addr}{q x:Str}{lpos pos p kpos:Pos}{params:Arguments}{body o:Expr}{sc:Scope}{fr:List Nat}{to tb:TD}{k:Nat}
theorem yp.keep{H H':Hp}{q x:Str}{params:Arguments}{body:Expr}{sc:Scope}{cl:List (Str×Addr)}{pm:Value}{f:Addr}(h:yp H q x params body sc cl pm f)(kp:Kp H H'):yp H' q x params body sc cl pm f:=by obtain⟨c,ctv,oc,vs,t,h1,h2,h3,h4⟩:=h;exact⟨c,ctv,oc,vs,t,kp.frz _ _ _ h1,kp.frz _ _ _ h2,h3,h4⟩
end
end D
namespace L2
def tF(ts:List Addr)(H:Hp):Prop:=∀ b,H b=none\/(∃ o xs,H b=some (.frz o (.lst xs)))\/(b∈ts/\H b=some (.tbl #[]))
theorem rU{P:Program}{w:World}{K:FG}{mg mb:Str->Option Value}{CX:CXT}{k:Nat}{fa a:Addr}{fd:FuncData}{x:Str}{sp:Sp}{s₁:Shared}{vs:List Value}{ns:List Int}
  (KX:K.In s₁.heap)(hns:s₁.heap.Ns mainGlobals mg)(hb:s₁.heap.Ns builtinsNs mb)(hbb:∀ x:Str,x ≠ "__name__" -> mb x=bootBuiltins x)(hlim:s₁.heap.NoLimit)(hbm:BM mg s₁.heap)(hg:s₁.gens = #[])
  (ha:s₁.heap.get? a=some {cls:=.type "list",data:=.seq vs.toArray})(hi:IntsAre vs ns)(hl:ns.length<=sizeLine)(hr:cj k callerA)(ts:List Addr)(hts:∀ T∈ts,(∃ c,W.codeHdIn K c T=true)/\K.lookup T=none/\s₁.heap.get? T=some {cls:=.none,data:=.fields #[]})
  (F:∀ base:Heap,K.In base->base.Ns mainGlobals mg->cR P w K mg base CX k fa fd [x] sp)(hbind:∀ (s:Shared) (u:Value),BindsTo s fd ⟨[u],[]⟩ [(x,u)])
  (hsp:∀ H:Hp,tF ts H->(∀ T∈ts,H T=some (.tbl #[]))->SqL K H a (ns.map V.int)->sp [.ref a] H (λ v _=>v=.bl true) λ _ _ _=>False)
  (hCX:∀ H e s',CX [] H s₁ (λ _ _ _=>False) e s'->False) :
  codeAny (model P w) callerA (.call (.ref fa) ⟨[.ref a],[]⟩) (λ r s'=>r=.ok (.ret (.bool true))/\OldK s₁.heap s'.heap/\s'.os=s₁.os/\AllBare s'.gens) s₁:=by
 have rv:=kM hi;have lenV:=hi.length;have at':∀ T∈ts,T≠a:=λ T hT e=>by have h:=(hts T hT).2.2;rw[e,ha] at h;cases h
 have core:∀ H:Hp,tF ts H->(∀ T∈ts,H T=some (.tbl #[]))->SqL K H a (ns.map V.int)->HOk P w H s₁.heap->(∀ b,H b≠none->b=a\/b∈ts)->(H a≠none->K.lookup a=none) ->
   codeAny (model P w) callerA (.call (.ref fa) ⟨[.ref a],[]⟩) (λ r s'=>r=.ok (.ret (.bool true))/\OldK s₁.heap s'.heap/\s'.os=s₁.os/\AllBare s'.gens) s₁:=by
  intro H hO hTb hS hok hA hK;have base_of:∀ {b:Addr} {o:Obj},s₁.heap.get? b=some o->H b=none->(uo s₁.heap H).get? b=some o:=λ e n=>ug e n;have noA:∀ {b:Addr} {o:Obj} {es:Array DictEntry} {ep:Nat},s₁.heap.get? b=some o->o.data=.dict es ep->H b=none:=λ {b o es ep} e d=>by
   cases q:H b with
   | none=>rfl
   | some u =>
    rcases hA b (by rw[q];simp) with e' | e'
    ·subst e';rw[ha] at e;cases e;have d':Data.seq vs.toArray _=Data.dict es ep:=d;cases d'
    ·rw[(hts b e').2.2] at e;cases e;have d':Data.fields _=Data.dict es ep:=d;cases d'
  have nsK:∀ {b:Addr} {m:Str->Option Value},s₁.heap.Ns b m->(uo s₁.heap H).Ns b m:=λ {b m} ⟨o,es,ep,e,d,r⟩=>⟨o,es,ep,base_of e (noA e d),d,r⟩;have hKb:K.In (uo s₁.heap H):=λ b o e=>base_of (KX b o e) (by
   cases q:H b with
   | none=>rfl
   | some u =>
    rcases hA b (by rw[q];simp) with e' | e'
    ·subst e';rw[hK (by rw[q];simp)] at e;cases e
    ·rw[(hts b e').2.1] at e;cases e)
  have hM:Mod K mg (uo s₁.heap H):=⟨hKb,nsK hns,⟨mb,nsK hb,hbb⟩,let ⟨mc,h1,h2⟩:=hlim; ⟨mc,nsK h1,h2⟩,let ⟨⟨b,o,h1,h2,h3,h4,h5,h6⟩,mm,hmm⟩:=hbm; ⟨⟨b,o,h1,h2,base_of h3 (by cases q:H b with | none=>rfl | some u=>(rcases hA b (by rw[q];simp) with e' | e'; (subst e';rw[ha] at h3;cases h3;cases h6); (rw[(hts b e').2.2] at h3;cases h3;cases h6))),h4,h5,h6⟩,mm,nsK hmm⟩⟩;have e0:yk P w K mg (uo s₁.heap H) callerA [] s₁ H:=⟨rfl,hM,λ b o e=>wB e,Nat.le_of_eq (pM _ _),trivial,λ b hb=>absurd (show b∈([]:List Addr) from hb) (by simp),hok,.of_eq hg⟩;refine codeAny_mono ((F _ hKb (nsK hns)).run callerA [] s₁ H ⟨[.ref a],[]⟩ [.ref a] [.ref a] _ _ hr e0 (hbind s₁ (.ref a)) (.cons rfl .nil) (hsp H hO hTb hS)) λ r s' h=>?_;cases r with
  | error e=>exact(hCX H e s' h).elim
  | ok fl =>
   cases fl with
   | next=>exact False.elim h
   | brk=>exact False.elim h
   | cont=>exact False.elim h
   | ret u =>
    obtain⟨v,H',os,bare,un,hok',r',q⟩:=h;have q':v=.bl true:=q;subst q';obtain rfl:u=Value.bool true:=r';have old:∀ b o,s₁.heap.get? b=some o->s'.heap.get? b=some o\/∃ more,b∈ts/\s'.heap.get? b=some {cls:=.none,data:=.fields (#[]++more)}:=λ b o e=>?_;refine⟨rfl,⟨λ b o e=>?_,λ b o e=>(old b o e).elim (λ z=>⟨_,z⟩) λ⟨_,_,z⟩=>⟨_,z⟩⟩,os,bare⟩
    ·rcases old b o e with z | ⟨more,hb,z⟩
     ·exact .inl z
     ·obtain⟨⟨c,hc⟩,_,h3⟩:=hts b hb;rw[h3] at e;cases e;exact .inr (.inl ⟨((W.codeHd_of_K KX hc).tab h3).isCodeTable,rfl,#[],more,rfl,z⟩)
    cases q:H b with
    | none=>exact .inl <| un.keep b o e q (by intro z;exact absurd (show b∈([]:List Addr) from z) (by simp)) (by simp)
    | some u =>
     rcases hO b with z | ⟨ob,xs,z⟩ | ⟨hb,z⟩
     ·rw[q] at z;cases z
     ·refine .inl ?_;have z2:=un.frzs b ob _ z;obtain⟨e1,_⟩:=hok b _ z;obtain⟨e2,_⟩:=hok' b _ z2;rw[e] at e1;cases e1;exact e2
     ·obtain⟨more,z2⟩:=un.tbls b _ z;exact .inr ⟨more,hb,hok' b _ z2⟩
 cases hk:K.lookup a with
 | some o =>
  have e:=KX a o hk;rw[ha] at e;cases e;refine core (λ b=>if b∈ts then some (.tbl #[]) else none) (λ b=>?_) (λ T hT=>if_pos hT) (.inr ⟨_,vs.toArray,_,hk,rfl,rfl,rfl,by rw[List.size_toArray,lenV];exact hl,by simpa using rv⟩) (λ b u z=>?_) (λ b z=>?_) λ z=>absurd (if_neg λ h=>at' a h rfl) z
  ·by_cases hb:b∈ts
   ·exact .inr (.inr ⟨hb,if_pos hb⟩)
   ·exact .inl (if_neg hb)
  ·by_cases hb:b∈ts
   ·have z':=(if_pos hb).symm.trans z;cases z';exact(hts b hb).2.2
   ·have z':=(if_neg hb).symm.trans z;cases z'
  ·by_cases hb:b∈ts
   ·exact .inr hb
   ·exact absurd (if_neg hb) z
 | none =>
  refine core (λ b=>if b=a then some (.frz {cls:=.type "list",data:=.seq vs.toArray} (.lst (ns.map V.int))) else if b∈ts then some (.tbl #[]) else none) (λ b=>?_) (λ T hT=>(if_neg (at' T hT)).trans (if_pos hT)) (.inl (.inr ⟨{cls:=.type "list",data:=.seq vs.toArray},if_pos rfl⟩)) (λ b u z=>?_) (λ b z=>?_) λ _=>hk
  ·by_cases hb:b=a
   ·exact .inr (.inl ⟨_,_,if_pos hb⟩)
   ·by_cases hb2:b∈ts
    ·exact .inr (.inr ⟨hb2,(if_neg hb).trans (if_pos hb2)⟩)
    ·exact .inl ((if_neg hb).trans (if_neg hb2))
  ·by_cases hb:b=a
   ·have z':=(if_pos hb).symm.trans z;cases z';subst hb;exact⟨ha,by rw[List.length_map];exact hl,vs,_,rv,ha⟩
   ·have z0:=(if_neg hb).symm.trans z
    by_cases hb2:b∈ts
    ·have z':=(if_pos hb2).symm.trans z0;cases z';exact(hts b hb2).2.2
    ·have z':=(if_neg hb2).symm.trans z0;cases z'
  ·by_cases hb:b=a
   ·exact .inl hb
   ·by_cases hb2:b∈ts
    ·exact .inr hb2
    ·exact absurd ((if_neg hb).trans (if_neg hb2)) z
theorem sY{l:W.OpenLaw}{n k:Nat}{q:Program}{loose:List Str}{XP:(Str->Option Value)->Heap->Prop}{YP:World->Heap->Prop}{d:DefRec}{K:Params->FG}{CX:World->CXT}{sp:World->Sp}{x:Str}
  (hq:importsNone q=true)(hn:l.most=some n)(hn2:n<=sizeLine)(hdf:d.params.defaults=[])(hr:cj k callerA)
  (ts:List Addr)(hT:∀ w:World,∀ T∈ts,(∃ c,W.codeHdIn (K w.params) c T=true)/\(K w.params).lookup T=none)(hY:∀ (w:World) (h:Heap),YP w h->(K w.params).In h/\∀ T∈ts,h.get? T=some {cls:=.none,data:=.fields #[]})
  (F:∀ (w:World) (mg:Str->Option Value) (fa:Addr) (h:Heap),(K w.params).In h->h.Ns mainGlobals mg->mg d.name=some (.ref fa) ->
   ∃ fd:FuncData,(∀ (s:Shared) (u:Value),BindsTo s fd ⟨[u],[]⟩ [(x,u)]) /\
    ∀ base:Heap,(K w.params).In base->base.Ns mainGlobals mg->cR l.prog w (K w.params) mg base (CX w) k fa fd [x] (sp w))
  (hsp:∀ (w:World) (H:Hp) (a:Addr) (ns:List Int),ns.length<=n->tF ts H->(∀ T∈ts,H T=some (.tbl #[]))->SqL (K w.params) H a (ns.map V.int)->sp w [.ref a] H (λ v _=>v=.bl true) λ _ _ _=>False)
  (hCX:∀ (w:World) (H:Hp) (s:Shared) (e:Value) (s':Shared),CX w [] H s (λ _ _ _=>False) e s'->False) :
  W.WalkO q loose XP YP l.row.toRowW d [] (λ f vs=>PySem.call f vs):=by
 refine Att.ly hn hdf λ w s₀ s₁ mg mb fa o pm cd doc a vs ns G Y ho hd hcd hmg hobj hints hlen hg=>?_;obtain⟨KX,hTb⟩:=hY w _ Y;obtain⟨fd,hb,hF⟩:=F w mg fa _ KX G.T.g hmg;exact rU KX G.T.g G.T.b G.T.builtins G.T.nolimit (let ⟨bm,ob,b1,b2,b3,b4,b5,b6⟩:=G.T.bmain;let ⟨mm,hmm,_⟩:=(G.T.seer hq).mods; ⟨⟨bm,ob,b1,b2,b3,b4,b5,b6⟩,mm,hmm⟩) hg hobj hints (Nat.le_trans hlen hn2) hr ts (λ T h=>⟨(hT w T h).1,(hT w T h).2,hTb T h⟩) hF hb (λ H hO hB hS=>hsp w H a ns hlen hO hB hS) λ H e s'=>hCX w H s₁ e s'
end L2
namespace D
open L2
section
variable {P:Program}{w:World}{K:FG}{mg:Str->Option Value}{base:Heap}
theorem wZ{x qual:Str}{st:Stmt}{f cd:Addr}{N ps:List Str}{k:Nat}{sp:SpD}{t:TSd}(F:Fun K x qual st f fd)(hcd:fd.code=.ref cd)(S:bh N ps (aq st))(len:∀ ws M Q,sp ws M Q->ws.length=ps.length)
  (hbody:∀ (A:Around) (outer:List Env) (s:Shared) (H:Hp) (E:XK),cj k (A.deeper (envOfC qual (aq st) s.heap.objs.size f (.ref cd)))->lh (vc CX0 P w K mg base N qual (aq st) f (.ref cd) A outer s H E).nox (aM st) t)
  (read:∀ ws M Q,sp ws M Q->t {nx:=λ _ M'=>Q (.d .none) M',rt:=Q} (bG N ws) M):cR P w K mg base CX0 (k+1) f fd ps (dy K sp):=by
 obtain⟨oc,od,kV,doc,pm,an,cdv,ct,osl,e,lk,hcdv⟩:=F.ex;subst e;have e2:cdv=.ref cd:=hcd;subst e2;refine yE lk hcdv S (λ vs H Q E h=>?_) (λ A outer s H vs Q E hr h=>?_)
 ·obtain⟨ws,M,Qd,r,_,q,_⟩:=h;rw[<- r.length];exact len _ _ _ q
 ·obtain⟨ws,M,Qd,r,m,q,kk⟩:=h;refine⟨_,(hbody A outer s H E hr).nox,bG N ws,M,_,jU r m,read ws M Qd q,λ σ' H' τ' M' kp A' q'=>?_,λ v H' w' M' kp r' m' q'=>?_,λ σ' H' τ' M' kp A' q'=>q'.elim,λ σ' H' τ' M' kp A' q'=>q'.elim⟩
  ·exact kk _ H' _ M' kp (by simp[aI,aD]) A'.mem q'
  ·exact kk v H' w' M' kp r' m' q'
end
def M1T(T:Addr)(q:Str)(lpos:Pos):MH:=λ b=>if b=T then some (.code q lpos) else none
theorem nQ{K:FG}{H:Hp}{a T:Addr}{q:Str}{lpos:Pos}{ns:List Int}{sp:SpD}(hl:ns.length<=63)(hO:L2.tF [T] H)(hT:∀ x∈[T],H x=some (.tbl #[]))(hS:L2.SqL K H a (ns.map V.int))(h:∀ ns:List Int,ns.length<=63->sp [.d (.list (ns.map PyData.int))] (M1T T q lpos) (λ w _=>w=.d (.bool true))) :
  dy K sp [.ref a] H (λ v _=>v=.bl true) λ _ _ _=>False:=by
 refine⟨[.d (.list (ns.map PyData.int))],M1T T q lpos,_,.cons ?_ .nil,λ a o z=>?_,h ns hl,λ v H' w M' kp r m q=>?_⟩
 ·simp only[aI,aD];refine⟨a,_,rfl,?_,aV.ints ns⟩;rcases hS with (h | h) | h
  ·rcases hO a with z | ⟨ob,xs,z⟩ | ⟨_,z⟩
   ·rw[h] at z;cases z
   ·rw[h] at z;cases z
   ·rw[h] at z;cases z
  ·exact .inl h
  ·exact .inr h
 ·unfold M1T at z
  split at z
  ·cases z
   rename_i e
   subst e;exact⟨#[],hT _ (by simp),trivial,.inl rfl⟩
  ·cases z
 ·subst q;simp only[aI,aD] at r;exact r
def uS(sc scX:Scope)(x:Str)(N:List Str)(fr:List Nat):Bool:=
 (sc.kind==.function)&&!sc.isCoroutine&&!sc.isGenerator&&sc.names.all (λ y=>!(y.2==.cell))&&sc.names.all (λ y=>!(y.2==.free) || scX.names.lookup y.1==some .cell || scX.names.lookup y.1==some .free) &&
  (sc.names.lookup x==some .local)&&aaE N sc fr
theorem abO(h:uS sc X.env.scope x X.N fr=true):j5 X sc x fr:=by
 simp only[uS,Bool.and_eq_true,Bool.not_eq_true'] at h;obtain⟨⟨⟨⟨⟨⟨h1,h2⟩,h3⟩,h4⟩,h5⟩,h6⟩,h7⟩:=h;refine⟨eq_of_beq h1,h2,h3,λ y hy e=>?_,λ y hy e=>?_,eq_of_beq h6,h7⟩
 ·have:=List.all_eq_true.mp h4 y hy;simp[e] at this
 ·have:=List.all_eq_true.mp h5 y hy;simp only[e,beq_self_eq_true,Bool.not_true,Bool.false_or,Bool.or_eq_true] at this;rcases this with z | z
  ·exact .inl (eq_of_beq z)
  ·exact .inr (eq_of_beq z)
section
variable {X:Cx}{K:FG}
variable {o e:Expr}{to:TE}{td te:TD}{apos cpos p pos:Pos}
end
end D
set_option maxHeartbeats 0
namespace D
open L2
section
variable {X:Cx}{a b:Expr}{rest:List Expr}{pos:Pos}{ta tb:TE}
end
section
variable {X:Cx}{K:FG}{e:Expr}{te:TE}{p pos kpos kp:Pos}{j:Nat}
end
section
variable {X:Cx}{a b o e:Expr}{rest:List Expr}{ta tb td te:TD}{apos cpos p pos kpos kp:Pos}{j:Nat}
end
section
variable {X:Cx}{K:FG}{pins:PN}{σ:St}{H:Hp}{s:Shared}
end
section
variable {K:FG}
end
abbrev PFn(K:FG)(x:Str)(st:Stmt):Prop:=∃ (f:Addr) (oc kV dc pm cd ct:Value) (od an:Option Addr) (sl:Array (Option Value)),W.nsIn K mainGlobals x=some (some (.ref f))/\K.lookup f=some ⟨oc,od,.func (W.fnOf x x (aU st) (aM st) (aq st) .none kV dc pm an cd ct),sl⟩/\W.codeIn K cd x=true/\W.keepIn K (.ref f)=true
abbrev PMf(K:FG)(C:Addr)(m x:Str)(st:Stmt):Prop:=∃ (f:Addr) (oc kV dc pm cd ct:Value) (od an:Option Addr) (sl:Array (Option Value)),W.findIn K (.ref C) m=some (some (.ref f))/\W.isFn K (.ref f)=true/\K.lookup f=some ⟨oc,od,.func (W.fnOf m x (aU st) (aM st) (aq st) .none kV dc pm an cd ct),sl⟩/\W.codeIn K cd x=true/\W.keepIn K (.ref f)=true
theorem aad{K:FG}{x:Str}{st:Stmt}{f:Addr}{oc kV dc pm cd ct:Value}{od an:Option Addr}{sl:Array (Option Value)}(a:W.nsIn K mainGlobals x=some (some (.ref f)))(l:K.lookup f=some ⟨oc,od,.func (W.fnOf x x (aU st) (aM st) (aq st) .none kV dc pm an cd ct),sl⟩)(c:W.codeIn K cd x=true)(k:W.keepIn K (.ref f)=true):PFn K x st:=⟨_,_,_,_,_,_,_,_,_,_,a,l,c,k⟩
theorem zH{K:FG}{C:Addr}{m x:Str}{st:Stmt}{f:Addr}{oc kV dc pm cd ct:Value}{od an:Option Addr}{sl:Array (Option Value)}(a:W.findIn K (.ref C) m=some (some (.ref f)))(i:W.isFn K (.ref f)=true)(l:K.lookup f=some ⟨oc,od,.func (W.fnOf m x (aU st) (aM st) (aq st) .none kV dc pm an cd ct),sl⟩)(c:W.codeIn K cd x=true)(k:W.keepIn K (.ref f)=true):PMf K C m x st:=⟨_,_,_,_,_,_,_,_,_,_,a,i,l,c,k⟩
theorem PFn.fn{K:FG}{h:Heap}{mg:Str->Option Value}{x:Str}{st:Stmt}{ps:List Str}(p:PFn K x st)(X:K.In h)(G:h.Ns mainGlobals mg)
  (b:∀ (kV doc pm:Value) (an:Option Addr) (cdv ct:Value) (us:List Value),us.length=ps.length->bindArgs (W.fnOf x x (aU st) (aM st) (aq st) .none kV doc pm an cdv ct) ⟨us,[]⟩=pure (ps.zip us)):∃ f fd,Fn K mg x st ps f fd:=
 let ⟨f,_,_,_,_,_,_,_,_,_,a,l,c,k⟩:=p; ⟨f,_,vp X G a l c k b⟩
theorem PMf.mf{K:FG}{C:Addr}{m x:Str}{st:Stmt}{ps:List Str}(p:PMf K C m x st)
  (b:∀ (kV doc pm:Value) (an:Option Addr) (cdv ct:Value) (us:List Value),us.length=ps.length->bindArgs (W.fnOf m x (aU st) (aM st) (aq st) .none kV doc pm an cdv ct) ⟨us,[]⟩=pure (ps.zip us)):∃ f fd,Mf K C m x st ps f fd:=
 let ⟨f,_,_,_,_,_,_,_,_,_,a,i,l,c,k⟩:=p; ⟨f,_,aaN a i l c k b⟩
abbrev ZZ(P:Program)(w:World)(K:FG)(mg:Str->Option Value)(base:Heap)(F:Addr->FuncData->Prop)(n:Nat)(ps:List Str)(sp:SpD):Prop:=∃ f fd,F f fd/\cR P w K mg base CX0 n f fd ps (dy K sp)
end D
namespace L2
section
variable {P:Program}{w:World}{K:FG}{mg:Str->Option Value}{base:Heap}
end
end L2
namespace D
open L2
section
variable {P:Program}{w:World}{K:FG}{mg:Str->Option Value}{base:Heap}
end
open XO
section
variable {X:Cx}{K:FG}
end
end D
namespace PySem.AutoSeq1
open PySem.MeetsSeq PySem.MeetsSeq2 PySem.MeetsSeq3 PyProof.Rows
end PySem.AutoSeq1
namespace D
open L2
section
variable {P:Program}{w:World}{K:FG}{mg:Str->Option Value}{base:Heap}
end
end D
namespace PySem.AutoSeq1
open PySem.MeetsSeq PySem.MeetsSeq2 PySem.MeetsSeq3 PyProof.Rows
end PySem.AutoSeq1
namespace D
open L2
section
variable {X:Cx}{K:FG}
end
end D
namespace XO
open PySem.W
section
variable {prog:Program}{w:World}{A:Around}{E:VP}{s:Shared}{K:Frag}{env:PySem.Env}{e h0 C0:Addr}{dct0:Option Addr}{vs0:Array Value}
end
end XO
namespace L2
open XO
section
variable {P:Program}{w:World}{K:FG}{mg:Str->Option Value}{base:Heap}{C f:Addr}{fd:FuncData}{qual:Str}{st:Stmt}
end
end L2
namespace D
open L2 XO
section
variable {X:Cx}{pos p cpos:Pos}{k:Nat}{f C:Addr}{fd:FuncData}{ps fs:List Str}{x:Str}{e:Expr}{es:List Expr}{t:TAd}{E:XE}
variable {body suite:List Stmt}{b0:Stmt}{hs:List ExceptHandler}{th rest:Addr->TSd}{np hpos:Pos}
end
section
variable {X:Cx}{pos p cpos:Pos}{k:Nat}{f C:Addr}{fd:FuncData}{ps fs:List Str}{x:Str}{e:Expr}{es:List Expr}{t:TAd}{E:XE}
variable {suite:List Stmt}{b0:Stmt}{hs:List ExceptHandler}{rest:Addr->TSd}{np hpos:Pos}
end
section
variable {X:Cx}{K:FG}
variable {o e:Expr}{td te:TD}{apos cpos:Pos}
end
section
variable {X:Cx}{o i:Expr}{td ti:TD}{tpos pos:Pos}
end
end D
namespace L2
section
variable {X:Cx}{CX:CXT}{k:Nat}{f C:Addr}{fd:FuncData}{ps:List Str}{sp:Sp}{E:XK}{pins:PN}{σ:St}{H:Hp}{s:Shared}{Q:VK}{us:List Value}{vs:List V}{dvs:List V}{ds:List Value}
end
end L2
namespace D
open L2 XO
section
variable {X:Cx}{pins:PN}{σ:St}{H:Hp}{s:Shared}{a:Addr}{kvs:List (Str×Addr)}
end
section
variable {X:Cx}{e:Expr}{a:Addr}{x:Str}{kvs:List (Str×Addr)}{pos p apos cpos:Pos}{ty:TE}{te:TD}
end
section
variable {X:Cx}{pos p apos:Pos}{k:Nat}{f C:Addr}{fd:FuncData}{ps:List Str}{sp:SpX}{x m dz:Str}{e o:Expr}{es:List Expr}{t:TAd}{td:TD}{E:XE}
end
section
variable {X:Cx}{e o i:Expr}{a:Addr}{x m dz:Str}{kvs:List (Str×Addr)}{pos p apos cpos tpos:Pos}{te td ti:TD}{k:Nat}{f C:Addr}{fd:FuncData}{ps:List Str}{sp:SpX}{es:List Expr}{t:TAd}{E:XE}
end
end D
namespace L2
section
variable {X:Cx}{CX:CXT}{k:Nat}{f C:Addr}{fd:FuncData}{ps:List Str}{sp:Sp}{E:XK}{pins:PN}{σ:St}{H:Hp}{s:Shared}{Q:VK}{us:List Value}{vs:List V}{v:V}{u:Value}{kn:Str}
end
end L2
namespace D
open L2 XO
section
variable {X:Cx}{pos p apos kpos:Pos}{k:Nat}{f C:Addr}{fd:FuncData}{ps:List Str}{sp:SpX}{m kn:Str}{e o g:Expr}{es:List Expr}{t:TAd}{td tk:TD}{E:XE}
end
section
variable {X:Cx}{pos p apos kpos:Pos}{k:Nat}{f C:Addr}{fd:FuncData}{ps:List Str}{sp:SpX}{m kn:Str}{e o g:Expr}{es:List Expr}{t:TAd}{td tk:TD}{E:XE}
end
open S
section
variable {X:Cx}{pins:PN}{σ:St}{H H':Hp}{s:Shared}{h':Heap}
end
section
variable {X:Cx}{o:Expr}{to:TE}{apos cpos p pos:Pos}
end
section
variable {X:Cx}{o:Expr}{td:TD}{apos cpos p pos:Pos}
end
end D
namespace L2
theorem cj.m{j k:Nat}{A:PySem.Around}(r:cj k A)(h:j<=k:=by decide):cj j A:=r.mono h
end L2
namespace D
open L2
abbrev dS(z:Str):TD:=dC (.d (.str z))
abbrev dI(n:Int):TD:=dC (.d (.int n))
section
variable {prog:Program}{w:World}{A:Around}{E:VP}{s:Shared}{x y:Str}{t u v:Tok}{k:Int}{Q:VP}
end
section
variable {X:Cx}{K:FG}
variable {o e e':Expr}{td te tn:TD}{apos cpos:Pos}
end
section
variable {X:Cx}{e f:Expr}{a:Addr}{x:Str}{kvs:List (Str×PyData)}{pos p apos cpos:Pos}{ty tx:TE}{te tf:TD}
end
end D
namespace XO
open PySem.W
section
variable {M:Model}{A:Around}{E:VP}{s:Shared}{base:Heap}{env:PySem.Env}{outer:List PySem.Env}{L e C T:Addr}{dct:Option Addr}{vs:Array Value}
end
end XO
namespace D
open L2 XO
section
variable {X:Cx}{pins:PN}{σ:St}{H:Hp}{s:Shared}{a T:Addr}
end
section
variable {P:Program}{w:World}{K:FG}{mg:Str->Option Value}{base:Heap}
end
end D
namespace L2
open XO D
section
variable {prog:Program}{w:World}{A:Around}{E:VP}{R:Result->Shared->Prop}{s:Shared}
end
section
variable {X:Cx}{pins:PN}{σ:St}{H:Hp}{s:Shared}
end
section
variable {X:Cx}{pins:PN}{σ:St}{H:Hp}{s:Shared}{sc:Scope}{own:List Str}{fr:List Nat}{cl:List (Str×Addr)}{fp:List Addr}{it:Addr}{J:It}{tn:Nat->Heap->Prop}{g:TG}{tt:TT}{te:TE}{W:LcW}{Fin:List V->Hp->Prop}
 {elt tg iter:Expr}{ifs:List Expr}{pos:Pos}{E:VP}
end
end L2
namespace D
open L2 XO
section
variable {K:FG}
end
section
variable {X:Cx}{sc:Scope}{own:List Str}{fr:List Nat}{tg elt iter:Expr}{ifs:List Expr}{pos:Pos}{di:TId}{g:TGd}{tt:TTd}{te:XE->TD}{E:XE}
end
section
variable {P:Program}{w:World}{K:FG}{mg:Str->Option Value}{base:Heap}
end
variable {X:Cx}{sc:Scope}{own:List Str}{fr:List Nat}{tg elt iter:Expr}{ifs:List Expr}{pos:Pos}{di:TId}{g:TGd}{tt:TTd}{te:XE->TD}{E:XE}
end D
namespace D
open L2 S PySem.W
def ni(X:Cx):Cx:=aa3 (aa3 X)
section
variable {X:Cx}{pins:PN}{σ:St}{f a kS:Addr}{xs:List V}{us:List Value}{e1:Nat}
theorem Inv.tw{H:Hp}{s:Shared}{D:Addr}{vs:List V}{its:List Value}{n:Nat}(I:Inv X pins σ H s)(e:s.heap.get? D=some (seqObj "list" its.toArray n))(f:fU X pins H D)(hl:vs.length<=sizeLine)(rv:Vals vs its):Inv X pins σ (upd H D (.lst vs)) s:=by
 have hn:=f.1;have ne:∀ b u,H b=some u->b≠D:=λ b u q=>aG q hn;refine I.step (h':=s.heap) (g':=s.gens) (d':=s.drawn) (t':=s.toks) (ch:=[D]) (λ b hb=>?_) (λ b o _ _ _ q _=>q) (λ b o _ _ _ q _=>⟨o.slots,q⟩) (λ b o hb q n=>?_) (λ b o _ q=>⟨o,q⟩)
  (λ b xs q=>by rw[aj (ne b _ q)];exact q) (λ b o u q=>by rw[aj (ne b _ q)];exact q) (λ b ps q=>⟨#[],by rw[aj (ne b _ q),q];simp⟩) (λ m hm=>hm) (λ b u q=>?_) I.bare
 ·have e:b=D:=by simpa using hb
  subst e;exact⟨f.2.2.2.1,f.2.1,f.2.2.2.2.1,f.2.2.2.2.2⟩
 ·rw[aj (λ z=>hb (by simp[z]))];exact n
 ·by_cases hb:b=D
  ·subst hb;rw[av] at q;cases q;exact⟨hl,its,n,rv,e⟩
  ·rw[aj hb] at q;exact(I.hok b u q).oW (λ _ _ _ q=>q) (λ c r=>by rw[aj (ne c _ r)];exact r) λ c xs r=>by rw[aj (ne c _ r)];exact r
end
section
variable {X:Cx}{pins:PN}{σ:St}{f d:Addr}
theorem t7{lt:Nat->Nat->Bool}{xs:List V}{us:List Value}(rx:Vals xs us):Vals ((ba lt us.length).map λ i=>xs.getD i .non) ((ba lt us.length).map λ i=>us.getD i Value.none):=by
 have hl:=rx.length;have main:∀ is:List Nat,(∀ i∈is,i<us.length)->Vals (is.map λ i=>xs.getD i .non) (is.map λ i=>us.getD i Value.none):=by
  intro is
  induction is with
  | nil=>intro _;exact .nil
  | cons i is ih =>
   intro hi;refine .cons ?_ (ih λ j hj=>hi j (by simp[hj]));have h1:=hi i (by simp);obtain⟨u,e1,e2⟩:=Vals.get (i:=i) (x:=xs.getD i .non) rx (by simp[List.getD_eq_getElem?_getD,List.getElem?_eq_getElem (show i<xs.length by omega)]);have e3:us.getD i Value.none=u:=by rw[List.getD_eq_getElem?_getD,e1];rfl
   show RelV (xs.getD i .non) (us.getD i Value.none);rw[e3];exact e2
 refine main _ λ i hi=>?_
 simpa using (ja _ _).mem_iff.mp hi
end
open PySem.W (kla_obj kla_fn)
section
variable {X:Cx}{K:FG}
variable {P cd:Addr}{q x:Str}{lpos pos p kpos:Pos}{params:Arguments}{body o:Expr}{sc:Scope}{fr:List Nat}{to tb:TD}{k:Nat}
end
section
variable {X:Cx}{K:FG}
end
open XO
section
variable {X:Cx}{pins:PN}{σ:St}{H:Hp}{s:Shared}{CX:List Env->Hp->Shared->XK->VP}{k:Nat}{f:Addr}{fd:FuncData}{ps:List Str}
end
section
variable {X:Cx}{pos p:Pos}{k:Nat}{f:Addr}{fd:FuncData}{ps:List Str}{sp:SpX}{x:Str}{e:Expr}{es:List Expr}{t:TAd}{E:XE}{d:Int}
end
section
variable {X:Cx}{K:FG}
end
section
variable {X:Cx}{K:FG}
end
section
variable {X:Cx}{o e:Expr}{td te:TD}{apos cpos:Pos}
end
section
variable {X:Cx}{K:FG}
end
section
variable {prog:Program}{w:World}{A:Around}{R:Result->Shared->Prop}{I:Addr}{fp wr:List Addr}{G:Array GenState->Array GenState->Prop}{ks:List Str}{P:Nat->Value->Prop}{St:Nat->Shared->Prop}
end
section
variable {prog:Program}{w:World}{A:Around}{E:VP}{s:Shared}
end
open L2
section
variable {X:Cx}{K:FG}{e:Expr}{to:TE}{td:TD}{p1 p2 pos1 pos2:Pos}
end
section
variable {prog:Program}{w:World}{A:Around}{E:VP}{s:Shared}{a₀:Array Keyed}
theorem ud{vs:List Value}{ns:List Int}(h:IntsAre vs ns):∀ (i:Nat) (n:Int),ns[i]? =some n->∃ t,vs[i]? =some (.int n t):=by
 induction h with
 | nil=>intro i n e;simp at e
 | cons _ _ _ ih =>
  intro i n e;cases i with
  | zero=>cases e;exact⟨_,rfl⟩
  | succ i=>exact ih i n (by simpa using e)
theorem sk{vs:List Value}{ns:List Int}(h:IntsAre vs ns):vs.length=ns.length:=by
 induction h with
 | nil=>rfl
 | cons _ _ _ ih=>rw[List.length_cons,List.length_cons,ih]
end
section
variable {X:Cx}{K:FG}
end
local macro_rules | `(tactic| walk_at "op_gallop")=>`(tactic| unfold $(Lean.mkIdent (Lean.mkPrivateNameCore `PySem.Builtin.List.W1All `PySem.Builtin.gallop)):ident)
def dO:Bool->Keyed->Array Keyed->Nat->Nat->Nat->StateT SortSt Sem (Option Nat):=sortPriv% PySem.Builtin.gallop
section
variable {prog:Program}{w:World}{A:Around}{E:VP}{s:Shared}{st:SortSt}
def cO(l:Bool)(k:Keyed)(a:Array Keyed)(i:Nat):StateT SortSt Sem (Option Bool):=do
 let x <- elem' a i
 if l=true then lt' x k else do
  let r <- lt' k x
  pure (r.map (!·))
theorem o3{l:Bool}{k:Keyed}{a:Array Keyed}{b n p:Nat}(hb:∀ i,i<n->∀ R:Option Bool->SortSt->Prop,R (some (decide (i<p))) st->wpS (model prog w) A E s (cO l k a (b+i)) R st)
  (lo hi:Nat)(h1:lo<=p)(h2:p<=hi)(h3:hi<=n):wpS (model prog w) A E s (forIn [0:n] ((none,lo,hi):Option (Option Nat)×Nat×Nat) λ _ c =>
   if c.2.1 >= c.2.2 then pure (ForInStep.done (none,c.2.1,c.2.2)) else (do
    let x <- cO l k a (b+(c.2.1+(c.2.2-c.2.1) / 2))
    match x with
    | some more=>if more=true then pure (ForInStep.yield (none,c.2.1+(c.2.2-c.2.1) / 2+1,c.2.2)) else pure (ForInStep.yield (none,c.2.1,c.2.1+(c.2.2-c.2.1) / 2))
    | _=>pure (ForInStep.done (some none,c.2.1,c.2.2)))) (λ c t=>t=st/\c=(none,p,p)) st:=by
 refine wpS_forRange (I:=λ x c t=>t=st/\c.1=none/\c.2.1<=p/\p<=c.2.2/\c.2.2<=n/\c.2.2-c.2.1<=n-x) ?_ ?_ ⟨rfl,rfl,h1,h2,h3,by dsimp only;omega⟩
 ·rintro x ⟨c1,c2,c3⟩ t _ hx ⟨et,ec,g1,g2,g3,g4⟩;rw[et];clear et t;dsimp only at ec g1 g2 g3 g4 ⊢;subst ec
  by_cases z:c2 >= c3
  ·rw[if_pos z];refine wpS_pure ⟨rfl,?_⟩;have e1:c2=p:=by omega
   have e2:c3=p:=by omega
   rw[e1,e2]
  ·rw[if_neg z];refine wpS_bind (hb _ (by omega) _ ?_);dsimp only
   by_cases y:c2+(c3-c2) / 2<p
   ·rw[decide_eq_true y,if_pos rfl];exact wpS_pure ⟨rfl,rfl,by dsimp only;omega,by dsimp only;omega,by dsimp only;omega,by dsimp only;omega⟩
   ·rw[decide_eq_false y,if_neg (by decide)];exact wpS_pure ⟨rfl,rfl,by dsimp only;omega,by dsimp only;omega,by dsimp only;omega,by dsimp only;omega⟩
 ·rintro⟨c1,c2,c3⟩ t ⟨et,ec,g1,g2,g3,g4⟩;dsimp only at ec g1 g2 g3 g4;subst ec;refine⟨et,?_⟩;have e1:c2=p:=by omega
  have e2:c3=p:=by omega
  rw[e1,e2]
theorem cV{l:Bool}{k:Keyed}{a:Array Keyed}{b n h p:Nat}{Q:Option Nat->SortSt->Prop}(hh:h<n)(hp:p<=n)
  (hb:∀ i,i<n->∀ R:Option Bool->SortSt->Prop,R (some (decide (i<p))) st->wpS (model prog w) A E s (cO l k a (b+i)) R st)
  (q:Q (some p) st):wpS (model prog w) A E s (dO l k a b n h) Q st:=by
 have fin:∀ lo hi:Nat,lo<=p->p<=hi->hi<=n->wpS (model prog w) A E s (forIn [0:n] ((none,lo,hi):Option (Option Nat)×Nat×Nat) λ _ c =>
   if c.2.1 >= c.2.2 then pure (ForInStep.done (none,c.2.1,c.2.2)) else (do
    let x <- cO l k a (b+(c.2.1+(c.2.2-c.2.1) / 2))
    match x with
    | some more=>if more=true then pure (ForInStep.yield (none,c.2.1+(c.2.2-c.2.1) / 2+1,c.2.2)) else pure (ForInStep.yield (none,c.2.1,c.2.1+(c.2.2-c.2.1) / 2))
    | _=>pure (ForInStep.done (some none,c.2.1,c.2.2)))) (λ c t=>t=st/\c=(none,p,p)) st:=o3 hb
 unfold dO
 walk_at "op_gallop"
 dsimp only;refine wpS_bind (hb h hh _ ?_);dsimp only
 by_cases y:h<p
 ·rw[decide_eq_true y,if_pos rfl];refine wpS_bind (wpS_mono (wpS_forRange (I:=λ x c t=>t=st/\c.1=none/\h+c.2.1<p/\c.2.1<c.2.2/\x<=c.2.1+1) (Q:=λ c t=>t=st/\c.1=none/\h+c.2.1<p/\p<=h+min c.2.2 (n-h)) ?_ ?_ ⟨rfl,rfl,by dsimp only;omega,by dsimp only;omega,by dsimp only;omega⟩) ?_)
  ·rintro x ⟨c1,c2,c3⟩ t _ hx ⟨et,ec,g1,g2,g3⟩;rw[et];clear et t;dsimp only at ec g1 g2 g3 ⊢;subst ec
   by_cases z:c3 >= n-h
   ·rw[if_pos z];exact wpS_pure ⟨rfl,rfl,g1,by dsimp only;omega⟩
   ·rw[if_neg z];refine wpS_bind (hb (h+c3) (by omega) _ ?_);dsimp only
    by_cases v:h+c3<p
    ·rw[decide_eq_true v,if_neg (by decide)];exact wpS_pure ⟨rfl,rfl,by dsimp only;omega,by dsimp only;omega,by dsimp only;omega⟩
    ·rw[decide_eq_false v,if_pos (by decide)];exact wpS_pure ⟨rfl,rfl,g1,by dsimp only;omega⟩
  ·rintro⟨c1,c2,c3⟩ t ⟨et,ec,g1,g2,g3⟩;dsimp only at ec g1 g2 g3;exact⟨et,ec,g1,by dsimp only;omega⟩
  ·rintro⟨c1,c2,c3⟩ t ⟨et,ec,g1,g2⟩;dsimp only at ec g1 g2 ⊢;rw[et];subst ec;dsimp only;refine wpS_bind (wpS_mono (fin _ _ (by omega) g2 (by omega)) ?_);rintro c t' ⟨et',rfl⟩;rw[et'];exact wpS_pure q
 ·rw[decide_eq_false y,if_neg (by decide)];refine wpS_bind (wpS_mono (wpS_forRange (I:=λ x c t=>t=st/\c.1=none/\p<=h-c.2.1/\c.2.1<=h/\c.2.1<c.2.2/\x<=c.2.1+1) (Q:=λ c t=>t=st/\c.1=none/\p<=h-c.2.1/\h+1-min c.2.2 (h+1)<=p) ?_ ?_ ⟨rfl,rfl,by dsimp only;omega,by dsimp only;omega,by dsimp only;omega,by dsimp only;omega⟩) ?_)
  ·rintro x ⟨c1,c2,c3⟩ t _ hx ⟨et,ec,g1,g0,g2,g3⟩;rw[et];clear et t;dsimp only at ec g1 g0 g2 g3 ⊢;subst ec
   by_cases z:c3 >= h+1
   ·rw[if_pos z];exact wpS_pure ⟨rfl,rfl,g1,by dsimp only;omega⟩
   ·rw[if_neg z];refine wpS_bind (hb (h-c3) (by omega) _ ?_);dsimp only
    by_cases v:h-c3<p
    ·rw[decide_eq_true v,if_pos rfl];exact wpS_pure ⟨rfl,rfl,g1,by dsimp only;omega⟩
    ·rw[decide_eq_false v,if_neg (by decide)];exact wpS_pure ⟨rfl,rfl,by dsimp only;omega,by dsimp only;omega,by dsimp only;omega,by dsimp only;omega⟩
  ·rintro⟨c1,c2,c3⟩ t ⟨et,ec,g1,g0,g2,g3⟩;dsimp only at ec g1 g0 g2 g3;exact⟨et,ec,g1,by dsimp only;omega⟩
  ·rintro⟨c1,c2,c3⟩ t ⟨et,ec,g1,g2⟩;dsimp only at ec g1 g2 ⊢;rw[et];subst ec;dsimp only;refine wpS_bind (wpS_mono (fin _ _ g2 g1 (by omega)) ?_);rintro c t' ⟨et',rfl⟩;rw[et'];exact wpS_pure q
end
section
variable {α:Type}{bf:α->α->Prop}{as bs out:List α}{ia ib:Nat}
structure Mg(bf:α->α->Prop)(as bs out:List α)(ia ib:Nat):Prop where
 p:(out++(as.drop ia++bs.drop ib)).Perm (as++bs)
 s:out.Pairwise bf
 l:∀ x∈out,∀ y∈as.drop ia++bs.drop ib,bf x y
theorem Mg.start:Mg bf as bs [] 0 0:=⟨by simp,List.Pairwise.nil,λ _ h=>by cases h⟩
theorem pw_cut{as:List α}(h:as.Pairwise bf)(i k:Nat):((as.drop i).take k).Pairwise bf/\∀ x∈(as.drop i).take k,∀ y∈as.drop (i+k),bf x y:=by have h1:(as.drop i).Pairwise bf:=h.drop;rw[<- List.take_append_drop k (as.drop i),List.pairwise_append,List.drop_drop] at h1;exact⟨h1.1,h1.2.2⟩
theorem Mg.fv(h:Mg bf as bs out ia ib)(sa:as.Pairwise bf)(k:Nat)(hx:∀ x∈(as.drop ia).take k,∀ y∈bs.drop ib,bf x y):Mg bf as bs (out++(as.drop ia).take k) (ia+k) ib:=by
 have e:as.drop ia=(as.drop ia).take k++as.drop (ia+k):=by rw[<- List.drop_drop,List.take_append_drop]
 obtain⟨c1,c2⟩:=pw_cut sa ia k;have mem:∀ x∈(as.drop ia).take k,x∈as.drop ia++bs.drop ib:=λ x hx=>List.mem_append_left _ (List.mem_of_mem_take hx);refine⟨?_,?_,λ x hx' y hy=>?_⟩
 ·refine List.Perm.trans ?_ h.p;rw[List.append_assoc];refine List.Perm.append_left _ ?_;rw[<- List.append_assoc,<- e]
 ·rw[List.pairwise_append];exact⟨h.s,c1,λ x hx y hy=>h.l x hx y (mem y hy)⟩
 ·rcases List.mem_append.mp hx' with q | q
  ·refine h.l x q y ?_;rcases List.mem_append.mp hy with z | z
   ·exact List.mem_append_left _ (by rw[e];exact List.mem_append_right _ z)
   ·exact List.mem_append_right _ z
  ·rcases List.mem_append.mp hy with z | z
   ·exact c2 x q y z
   ·exact hx x q y z
theorem Mg.fk(h:Mg bf as bs out ia ib)(sb:bs.Pairwise bf)(k:Nat)(hx:∀ y∈(bs.drop ib).take k,∀ x∈as.drop ia,bf y x):Mg bf as bs (out++(bs.drop ib).take k) ia (ib+k):=by
 have e:bs.drop ib=(bs.drop ib).take k++bs.drop (ib+k):=by rw[<- List.drop_drop,List.take_append_drop]
 obtain⟨c1,c2⟩:=pw_cut sb ib k;have mem:∀ x∈(bs.drop ib).take k,x∈as.drop ia++bs.drop ib:=λ x hx=>List.mem_append_right _ (List.mem_of_mem_take hx);refine⟨?_,?_,λ x hx' y hy=>?_⟩
 ·refine List.Perm.trans ?_ h.p;rw[List.append_assoc];refine List.Perm.append_left _ ?_;refine List.Perm.trans ?_ (List.Perm.append_left _ (List.Perm.of_eq e.symm));rw[<- List.append_assoc,<- List.append_assoc];exact List.Perm.append_right _ List.perm_append_comm
 ·rw[List.pairwise_append];exact⟨h.s,c1,λ x hx y hy=>h.l x hx y (mem y hy)⟩
 ·rcases List.mem_append.mp hx' with q | q
  ·refine h.l x q y ?_;rcases List.mem_append.mp hy with z | z
   ·exact List.mem_append_left _ z
   ·exact List.mem_append_right _ (by rw[e];exact List.mem_append_right _ z)
  ·rcases List.mem_append.mp hy with z | z
   ·exact hx x q y z
   ·exact c2 x q y z
theorem Mg.done(h:Mg bf as bs out ia ib)(sa:as.Pairwise bf)(sb:bs.Pairwise bf)(hx:∀ x∈as.drop ia,∀ y∈bs.drop ib,bf x y):(out++as.drop ia++bs.drop ib).Pairwise bf/\(out++as.drop ia++bs.drop ib).Perm (as++bs):=by rw[List.append_assoc];refine⟨?_,h.p⟩;rw[List.pairwise_append,List.pairwise_append];exact⟨h.s,⟨sa.drop,sb.drop,hx⟩,h.l⟩
theorem Mg.aai(h:Mg bf as bs out ia ib)(sa:as.Pairwise bf)(sb:bs.Pairwise bf)(hx:∀ y∈bs.drop ib,∀ x∈as.drop ia,bf y x):(out++bs.drop ib++as.drop ia).Pairwise bf/\(out++bs.drop ib++as.drop ia).Perm (as++bs):=by
 rw[List.append_assoc];refine⟨?_,(List.Perm.append_left _ List.perm_append_comm).trans h.p⟩;rw[List.pairwise_append,List.pairwise_append];refine⟨h.s,⟨sb.drop,sa.drop,hx⟩,λ x q y z=>h.l x q y ?_⟩;rcases List.mem_append.mp z with z | z
 ·exact List.mem_append_right _ z
 ·exact List.mem_append_left _ z
end
end D
namespace Sw
open D
open L2 S PySem.W
local macro_rules | `(tactic| walk_at "op_setMinGallop")=>`(tactic| unfold $(Lean.mkIdent (Lean.mkPrivateNameCore `PySem.Builtin.List.W1All `PySem.Builtin.setMinGallop)):ident)
def mL:Array Keyed->Array Keyed->StateT SortSt Sem (Array Keyed):=sortPriv% PySem.Builtin.mergeLo
def mT:Array Keyed->Array Keyed->StateT SortSt Sem (Array Keyed):=sortPriv% PySem.Builtin.mergeHi
def zz:Nat->StateT SortSt Sem Unit:=sortPriv% PySem.Builtin.setMinGallop
def ar(it:Array Keyed)(l:List Nat):Array Keyed:=(l.map (kas_item it)).toArray
section
variable {it:Array Keyed}{l m:List Nat}{i k:Nat}
theorem jF:(ar it l).size=l.length:=by simp[ar]
theorem cU:ar it l++ar it m=ar it (l++m):=by simp[ar]
theorem mP:(ar it l).extract i (i+k)=ar it ((l.drop i).take k):=by simp[ar,List.extract_eq_take_drop,List.map_take,List.map_drop]
theorem m8:(ar it l).extract i l.length=ar it (l.drop i):=by simp only[ar,List.size_toArray,List.extract_toArray,List.extract_eq_take_drop,List.length_map,List.map_drop];rw[List.take_of_length_le (by simp)]
theorem lz(h:i<l.length):l.drop i=l.getD i 0::l.drop (i+1):=by rw[List.drop_eq_getElem_cons h,List.getD_eq_getElem?_getD,List.getElem?_eq_getElem h];rfl
theorem bj(h:i<l.length):l.getD i 0∈l:=by rw[List.getD_eq_getElem?_getD,List.getElem?_eq_getElem h];exact List.getElem_mem h
theorem gc{x:Nat}(h:x∈(l.drop i).take k):∃ j,j<k/\i+j<l.length/\x=l.getD (i+j) 0:=by obtain⟨j,hj,e⟩:=List.mem_iff_getElem.mp h;simp only[List.length_take,List.length_drop] at hj;refine⟨j,by omega,by omega,?_⟩;rw[<- e,List.getD_eq_getElem?_getD,List.getElem?_eq_getElem (by omega)];simp
end
section
variable {prog:Program}{w:World}{A:Around}{E:VP}{s:Shared}{st:SortSt}{κ:SortKind}{it:Array Keyed}{lt:Nat->Nat->Bool}{N:Nat}
def d9(prog:Program)(w:World)(A:Around)(s:Shared)(κ:SortKind)(it:Array Keyed)(lt:Nat->Nat->Bool)(N:Nat):Prop:=
 ∀ i j,i<N->j<N->∀ C:Bool->Shared->Prop,C (lt i j) s->kas_cmp prog w A κ it i j C s
theorem jC(hc:d9 prog w A s κ it lt N)(hk:kindOf st=κ){i j:Nat}(hi:i<N)(hj:j<N){R:Option Bool->SortSt->Prop}(r:R (some (lt i j)) st):wpS (model prog w) A E s (lt' (kas_item it i) (kas_item it j)) R st:=by rw[lt'_eq];refine wpS_bind (wpS_get ?_);rw[hk];refine wpS_bind (wpS_lift (wpAny_attempt (wpAny_mono (hc i j hi hj (λ c s'=>c=lt i j/\s'=s) ⟨rfl,rfl⟩) (λ c s' hc'=>⟨hc'.2,?_⟩) λ _ _ hF=>hF.elim)));rw[hc'.1];exact wpS_pure r
theorem cc{l:List Nat}{i:Nat}(hi:i<l.length){Q:Keyed->SortSt->Prop}(q:Q (kas_item it (l.getD i 0)) st):wpS (model prog w) A E s (elem' (ar it l) i) Q st:=by
 rw[elem'_eq];have e:(ar it l)[i]? =some (kas_item it (l.getD i 0)):=by simp[ar,List.getD_eq_getElem?_getD,List.getElem?_eq_getElem hi]
 rw[e];exact wpS_pure q
structure Lk(st st':SortSt):Prop where
 k:kindOf st'=kindOf st
 a:arrOf st'=arrOf st
 p:pendingOf st'=pendingOf st
 f:failedOf st'=failedOf st
theorem Lk.yt:Lk st st:=⟨rfl,rfl,rfl,rfl⟩
theorem Lk.tr{a b c:SortSt}(h:Lk a b)(q:Lk b c):Lk a c:=⟨q.k.trans h.k,q.a.trans h.a,q.p.trans h.p,q.f.trans h.f⟩
theorem jk{g:Nat}{Q:Unit->SortSt->Prop}(q:∀ st',Lk st st'->Q () st'):wpS (model prog w) A E s (zz g) Q st:=by
 unfold zz
 walk_at "op_setMinGallop"
 exact wpS_modify (q _ ⟨rfl,rfl,rfl,rfl⟩)
theorem xT(f:Nat->Bool):∀ n:Nat,(∀ i j,i<j->j<n->f j=true->f i=true)->∃ p,p<=n/\∀ i,i<n->f i=decide (i<p)
 | 0,_=>⟨0,Nat.le_refl _,λ i h=>by omega⟩
 | n+1,h=>by
  obtain⟨p,hp,e⟩:=xT f n λ i j hij hj=>h i j hij (by omega)
  by_cases z:f n=true
  ·refine⟨n+1,Nat.le_refl _,λ i hi=>?_⟩;rw[decide_eq_true hi]
   by_cases y:i=n
   ·rw[y];exact z
   ·exact h i n (by omega) (by omega) z
  ·refine⟨p,by omega,λ i hi=>?_⟩
   by_cases y:i=n
   ·subst y;rw[decide_eq_false (by omega)]
    simpa using z
   ·exact e i (by omega)
end
open L2 S PySem.W
local macro_rules | `(tactic| walk_at "op_mergeLo")=>`(tactic| unfold $(Lean.mkIdent (Lean.mkPrivateNameCore `PySem.Builtin.List.W1All `PySem.Builtin.mergeLo)):ident)
local macro_rules | `(tactic| walk_at "whr")=>`(tactic| ((repeat (extract_lets +onlyGivenNames -underBinder -merge a; (fail_if_success (have:_->_:=a));subst a)); (try dsimp (config:={zeta:=false,zetaHave:=false}) only); (repeat (extract_lets +onlyGivenNames -underBinder -merge a; (fail_if_success (have:_->_:=a));subst a))))
structure Two(lt:Nat->Nat->Bool)(N:Nat)(as bs:List Nat):Prop where
 w:dw lt
 sa:as.Pairwise (B lt)
 sb:bs.Pairwise (B lt)
 cr:∀ x∈as,∀ y∈bs,x<y
 na:∀ x∈as,x<N
 nb:∀ x∈bs,x<N
 a0:0<as.length
 b0:0<bs.length
 fi:lt (bs.getD 0 0) (as.getD 0 0)=true
 la:∀ y∈bs,lt y (as.getD (as.length-1) 0)=true
structure Wm(it:Array Keyed)(lt:Nat->Nat->Bool)(as bs:List Nat)(out:Array Keyed)(ia ib:Nat):Prop where
 ex:∃ o:List Nat,out=ar it o/\Mg (B lt) as bs o ia ib
 ha:ia<as.length
 hb:ib<=bs.length
def Rm(it:Array Keyed)(lt:Nat->Nat->Bool)(as bs:List Nat)(out:Array Keyed):Prop:=∃ o:List Nat,out=ar it o/\o.Pairwise (B lt)/\o.Perm (as++bs)
section
variable {it:Array Keyed}{lt:Nat->Nat->Bool}{N:Nat}{as bs:List Nat}{out:Array Keyed}{ia ib k:Nat}
theorem pw_head{l:List Nat}{i:Nat}(w:dw lt)(h:l.Pairwise (B lt))(hi:i<l.length){y:Nat}(r:B lt y (l.getD i 0)):∀ x∈l.drop i,B lt y x:=by
 have h1:(l.drop i).Pairwise (B lt):=h.drop;rw[lz hi] at h1 ⊢;intro x hx;rcases List.mem_cons.mp hx with e | e
 ·rw[e];exact r
 ·exact r.tr w (List.rel_of_pairwise_cons h1 e)
theorem pw_at{l:List Nat}(h:l.Pairwise (B lt)){i j:Nat}(hij:i<j)(hj:j<l.length):B lt (l.getD i 0) (l.getD j 0):=by have:=List.pairwise_iff_getElem.mp h i j (by omega) hj hij;rw[List.getD_eq_getElem?_getD,List.getD_eq_getElem?_getD,List.getElem?_eq_getElem hj,List.getElem?_eq_getElem (show i<l.length by omega)];exact this
theorem Wm.fv(t:Two lt N as bs)(h:Wm it lt as bs out ia ib)(hib:ib<bs.length)(hk:ia+k<as.length)(e:∀ j,j<k->lt (bs.getD ib 0) (as.getD (ia+j) 0)=false):Wm it lt as bs (out++(ar it as).extract ia (ia+k)) (ia+k) ib:=by obtain⟨o,rfl,m⟩:=h.ex;refine⟨⟨_,by rw[mP,cU],m.fv t.sa k λ x hx=>?_⟩,hk,h.hb⟩;obtain⟨j,j1,j2,rfl⟩:=gc hx;exact pw_head t.w t.sb hib (B.of_le (e j j1) (t.cr _ (bj j2) _ (bj hib)))
theorem Wm.fk(t:Two lt N as bs)(h:Wm it lt as bs out ia ib)(hk:ib+k<=bs.length)(e:∀ j,j<k->lt (bs.getD (ib+j) 0) (as.getD ia 0)=true):Wm it lt as bs (out++(ar it bs).extract ib (ib+k)) ia (ib+k):=by obtain⟨o,rfl,m⟩:=h.ex;refine⟨⟨_,by rw[mP,cU],m.fk t.sb k λ y hy=>?_⟩,h.ha,hk⟩;obtain⟨j,j1,j2,rfl⟩:=gc hy;exact pw_head t.w t.sa h.ha (.inl (e j j1))
theorem rR{l:List Nat}{i:Nat}(h:i<l.length):(ar it l).extract i (i+1) = #[kas_item it (l.getD i 0)]:=by rw[mP,lz h];rfl
theorem Wm.n0(t:Two lt N as bs)(h:Wm it lt as bs out ia ib)(hib:ib<bs.length)(hk:ia+1<as.length)(e:lt (bs.getD ib 0) (as.getD ia 0)=false):Wm it lt as bs (out.push (kas_item it (as.getD ia 0))) (ia+1) ib:=by
 have:=h.fv (k:=1) t hib hk λ j hj=>by rw[show j=0 by omega];exact e
 rw[rR h.ha] at this;exact this
theorem Wm.oB(t:Two lt N as bs)(h:Wm it lt as bs out ia ib)(hib:ib<bs.length)(e:lt (bs.getD ib 0) (as.getD ia 0)=true):Wm it lt as bs (out.push (kas_item it (bs.getD ib 0))) ia (ib+1):=by
 have:=h.fk (k:=1) t hib λ j hj=>by rw[show j=0 by omega];exact e
 rw[rR hib] at this;exact this
theorem Wm.done(t:Two lt N as bs)(h:Wm it lt as bs out ia ib)(hib:ib=bs.length):Rm it lt as bs (out++(ar it as).extract ia as.length++(ar it bs).extract ib bs.length):=by obtain⟨o,rfl,m⟩:=h.ex;refine⟨_,by rw[m8,m8,cU,cU],m.done t.sa t.sb λ x _ y hy=>?_⟩;rw[hib] at hy;simp at hy
theorem Wm.last(t:Two lt N as bs)(h:Wm it lt as bs out ia ib)(hia:ia+1=as.length):Rm it lt as bs (out++(ar it bs).extract ib bs.length++(ar it as).extract ia as.length):=by obtain⟨o,rfl,m⟩:=h.ex;refine⟨_,by rw[m8,m8,cU,cU],m.aai t.sa t.sb λ y hy x hx=>?_⟩;rw[lz h.ha,hia] at hx;simp only[List.drop_length,List.mem_singleton] at hx;rw[hx];have:=t.la y (List.mem_of_mem_drop hy);rw[show as.length-1=ia by omega] at this;exact .inl this
theorem Wm.start(t:Two lt N as bs):Wm it lt as bs #[kas_item it (bs.getD 0 0)] 0 1:=by have:=(Wm.mk ⟨[],rfl,Mg.start⟩ t.a0 (Nat.zero_le _):Wm it lt as bs #[] 0 0).oB t t.b0 t.fi;exact this
end
section
variable {prog:Program}{w:World}{A:Around}{E:VP}{s:Shared}{st:SortSt}{κ:SortKind}{it:Array Keyed}{lt:Nat->Nat->Bool}{N:Nat}{as bs:List Nat}
theorem ac5(hc:d9 prog w A s κ it lt N)(t:Two lt N as bs)(hk:kindOf st=κ){ia ib:Nat}(h1:ia<as.length)(h2:ib<bs.length){Q:Option Nat->SortSt->Prop}
  (q:∀ k,ia+k<as.length->(∀ j,j<k->lt (bs.getD ib 0) (as.getD (ia+j) 0)=false)->lt (bs.getD ib 0) (as.getD (ia+k) 0)=true->Q (some k) st) :
  wpS (model prog w) A E s (dO false (kas_item it (bs.getD ib 0)) (ar it as) ia (as.length-ia) 0) Q st:=by
 obtain⟨p,p1,p2⟩:=xT (λ i=>!lt (bs.getD ib 0) (as.getD (ia+i) 0)) (as.length-ia) λ i j hij hj e=>by
  have e:lt (bs.getD ib 0) (as.getD (ia+j) 0)=false:=by simpa using e
  have:=t.w.tr _ _ _ ((pw_at t.sa (show ia+i<ia+j by omega) (by omega)).le t.w) e;show(!lt (bs.getD ib 0) (as.getD (ia+i) 0))=true;rw[this];rfl
 have hla:lt (bs.getD ib 0) (as.getD (as.length-1) 0)=true:=t.la _ (bj h2);have hp:ia+p<as.length:=by
  have:=p2 (as.length-ia-1) (by omega);rw[show ia+(as.length-ia-1)=as.length-1 by omega,hla] at this;have:¬ (as.length-ia-1<p):=by simpa using this.symm
  omega
 refine cV (p:=p) (by omega) p1 (λ i hi R r=>?_) (q p hp (λ j hj=>?_) ?_)
 ·unfold cO;refine wpS_bind (cc (by omega) ?_);rw[if_neg (by decide)];refine wpS_bind (jC hc hk (t.nb _ (bj h2)) (t.na _ (bj (by omega))) (wpS_pure ?_));have:=p2 i hi;show R (some (!lt (bs.getD ib 0) (as.getD (ia+i) 0))) st;rw[this];exact r
 ·have:=p2 j (by omega);rw[decide_eq_true hj] at this
  simpa using this
 ·have:=p2 p (by omega);rw[decide_eq_false (Nat.lt_irrefl _)] at this
  simpa using this
theorem adf(hc:d9 prog w A s κ it lt N)(t:Two lt N as bs)(hk:kindOf st=κ){ia ib:Nat}(h1:ia<as.length)(h2:ib<bs.length){Q:Option Nat->SortSt->Prop}
  (q:∀ k,ib+k<=bs.length->(∀ j,j<k->lt (bs.getD (ib+j) 0) (as.getD ia 0)=true)->(ib+k<bs.length->lt (bs.getD (ib+k) 0) (as.getD ia 0)=false)->Q (some k) st) :
  wpS (model prog w) A E s (dO true (kas_item it (as.getD ia 0)) (ar it bs) ib (bs.length-ib) 0) Q st:=by
 obtain⟨p,p1,p2⟩:=xT (λ i=>lt (bs.getD (ib+i) 0) (as.getD ia 0)) (bs.length-ib) λ i j hij hj e => 
  t.w.yB ((pw_at t.sb (show ib+i<ib+j by omega) (by omega)).le t.w) e
 refine cV (p:=p) (by omega) p1 (λ i hi R r=>?_) (q p (by omega) (λ j hj=>?_) λ hlt=>?_)
 ·unfold cO;refine wpS_bind (cc (by omega) ?_);rw[if_pos rfl];refine jC hc hk (t.nb _ (bj (by omega))) (t.na _ (bj h1)) ?_;have:=p2 i hi;rw[this];exact r
 ·have:=p2 j (by omega);rw[this,decide_eq_true hj]
 ·have:=p2 p (by omega);rw[this,decide_eq_false (Nat.lt_irrefl _)]
structure Go(it:Array Keyed)(lt:Nat->Nat->Bool)(as bs:List Nat)(st:SortSt)(low:Nat)(out:Array Keyed)(ia ib:Nat)(st':SortSt):Prop where
 lk:Lk st st'
 m:Wm it lt as bs out ia ib
 a:ia+1<as.length
 b:ib<bs.length
 s:low<=ia+ib
def Be(it:Array Keyed)(lt:Nat->Nat->Bool)(as bs:List Nat)(st:SortSt)(low:Nat)(r:Option (Array Keyed))(out:Array Keyed)(ia ib:Nat)(st':SortSt):Prop:=
 (∃ x,r=some x/\Lk st st'/\Rm it lt as bs x)\/(r=none/\Go it lt as bs st low out ia ib st')
theorem jf{α:Type}{m:StateT SortSt Sem α}{Q:α->SortSt->Prop}(h:∀ Q':α->SortSt->Prop,(∀ a t,Q a t->Q' a t)->wpS (model prog w) A E s m Q' st):wpS (model prog w) A E s m Q st:=h Q λ _ _ h=>h
theorem oq(hc:d9 prog w A s κ it lt N)(t:Two lt N as bs)(hk:kindOf st=κ){Q:Array Keyed->SortSt->Prop}(q:∀ out st',Lk st st'->Rm it lt as bs out->Q out st') :
  wpS (model prog w) A E s (mL (ar it as) (ar it bs)) Q st:=by
 have b0:=t.b0;have a0:=t.a0;unfold mL
 walk_at "op_mergeLo"
 refine wpS_bind (wpS_lift (wpAny_rule ⟨rfl,?_⟩))
 walk_at "whr"
 refine wpS_bind (cc t.b0 ?_)
 walk_at "whr"
 simp (config:={zeta:=false,zetaHave:=false}) only[jF]
 split
 ·rename_i z
  exact wpS_pure (q _ _ .yt ((Wm.start t).done t (by simpa using z)))
 ·rename_i z
  split
  ·rename_i y
   exact wpS_pure (q _ _ .yt ((Wm.start t).last t (by simpa using y)))
  ·rename_i y
   have z:¬ 1=bs.length:=by simpa using z
   have y:¬ 1=as.length:=by simpa using y
   refine wpS_bind (wpS_get ?_)
   walk_at "whr"
   refine wpS_bind (wpS_mono (wpS_forRange (I:=λ x c st'=>c.1=none/\Go it lt as bs st (x+1) c.2.1 c.2.2.1 c.2.2.2.1 st') (Q:=λ c st'=>∃ x,c.1=some x/\Lk st st'/\Rm it lt as bs x) ?_ ?_ ?_) ?_)
   ·rintro x ⟨r,out,ia,ib,mg⟩ st1 _ hx ⟨er,G⟩;dsimp only at er G;subst er
    walk_at "whr"
    refine wpS_bind (wpS_mono (wpS_forRange (I:=λ x c st'=>c.1=none/\Go it lt as bs st (ia+ib+x) c.2.1 c.2.2.1 c.2.2.2.1 st') (Q:=λ c st'=>Be it lt as bs st (ia+ib+1) c.1 c.2.1 c.2.2.1 c.2.2.2.1 st') ?_ ?_ ?_) ?_)
    ·rintro x2 ⟨r,out,ia2,ib2,ac,bc⟩ st2 _ hx2 ⟨er,G2⟩;dsimp only at er G2;subst er
     walk_at "whr"
     have hk2:kindOf st2=κ:=G2.lk.k.trans hk;refine wpS_bind (cc G2.b ?_);refine wpS_bind (cc G2.m.ha ?_);refine wpS_bind (jC hc hk2 (t.nb _ (bj G2.b)) (t.na _ (bj G2.m.ha)) ?_)
     walk_at "whr"
     split
     ·rename_i e
      refine wpS_bind (cc G2.b ?_)
      walk_at "whr"
      have m2:=G2.m.oB t G2.b e
      split
      ·rename_i e2
       exact wpS_pure (.inl ⟨_,rfl,G2.lk,m2.done t (by simpa using e2)⟩)
      ·rename_i e2
       have e2:¬ ib2+1=bs.length:=by simpa using e2
       have G3:Go it lt as bs st (ia+ib+(x2+1)) _ ia2 (ib2+1) st2:=⟨G2.lk,m2,G2.a,by have:=G2.b;omega,by have:=G2.s;omega⟩
       split
       ·exact wpS_pure (.inr ⟨rfl,G3.lk,G3.m,G3.a,G3.b,by have:=G3.s;dsimp only;omega⟩)
       ·exact wpS_pure ⟨rfl,G3⟩
     ·rename_i e
      refine wpS_bind (cc G2.m.ha ?_)
      walk_at "whr"
      have m2:=G2.m.n0 t G2.b G2.a (by simpa using e)
      split
      ·rename_i e2
       exact wpS_pure (.inl ⟨_,rfl,G2.lk,m2.last t (by simpa using e2)⟩)
      ·rename_i e2
       have e2:¬ ia2+1+1=as.length:=by simpa using e2
       have G3:Go it lt as bs st (ia+ib+(x2+1)) _ (ia2+1) ib2 st2:=⟨G2.lk,m2,by have:=G2.a;omega,G2.b,by have:=G2.s;omega⟩
       split
       ·exact wpS_pure (.inr ⟨rfl,G3.lk,G3.m,G3.a,G3.b,by have:=G3.s;dsimp only;omega⟩)
       ·exact wpS_pure ⟨rfl,G3⟩
    ·rintro⟨r,out,ia2,ib2,ac,bc⟩ st2 ⟨er,G2⟩;exact .inr ⟨er,G2.lk,G2.m,G2.a,G2.b,by have:=G2.s;dsimp only at this ⊢;omega⟩
    ·exact⟨rfl,G.lk,G.m,G.a,G.b,Nat.le_refl _⟩
    ·rintro⟨r,out,ia2,ib2,ac,bc⟩ st2 hB;dsimp only[Be] at hB
     walk_at "whr"
     rcases hB with ⟨v,rfl,lk,rm⟩ | ⟨rfl,G2⟩
     ·exact wpS_pure ⟨v,rfl,lk,rm⟩
     walk_at "whr"
     refine wpS_bind (wpS_lift (wpAny_rule ⟨rfl,?_⟩))
     walk_at "whr"
     refine wpS_bind (wpS_mono (wpS_forRange (I:=λ x c st'=>c.1=none/\Go it lt as bs st (ia+ib+1) c.2.1 c.2.2.1 c.2.2.2.1 st') (Q:=λ c st'=>Be it lt as bs st (ia+ib+1) c.1 c.2.1 c.2.2.1 c.2.2.2.1 st') ?_ ?_ ⟨rfl,G2⟩) ?_)
     ·clear G2;rintro x2 ⟨r,out,ia2,ib2,mg,ac,bc⟩ st2 _ hx2 ⟨er,G2⟩;dsimp only at er G2;subst er
      walk_at "whr"
      refine jf λ Q' q'=>?_
      extract_lets +onlyGivenNames -underBinder -merge jp
      have hjp:∀ u g,wpS (model prog w) A E s (jp u g) Q' st2:=by
       intro u g;unfold jp
       walk_at "whr"
       refine wpS_bind (jk λ st3 lk3=>?_);have G3:Go it lt as bs st (ia+ib+1) out ia2 ib2 st3:=⟨G2.lk.tr lk3,G2.m,G2.a,G2.b,G2.s⟩;clear G2;have hk3:kindOf st3=κ:=G3.lk.k.trans hk;refine wpS_bind (cc G3.b ?_);refine wpS_bind (ac5 hc t hk3 G3.m.ha G3.b λ k k1 k2 k3=>?_)
       walk_at "whr"
       extract_lets +onlyGivenNames -underBinder -merge jp
       have hjp:∀ u out ia2,Go it lt as bs st (ia+ib+1) out ia2 ib2 st3->lt (bs.getD ib2 0) (as.getD ia2 0)=true->wpS (model prog w) A E s (jp u out ia2) Q' st3:=by
        clear k1 k2 k3 G3;intro u out ia2 G3 k3;unfold jp
        walk_at "whr"
        refine wpS_bind (cc G3.b ?_)
        walk_at "whr"
        have m4:=G3.m.oB t G3.b k3
        split
        ·rename_i e2
         exact wpS_pure (q' _ _ (.inl ⟨_,rfl,G3.lk,m4.done t (by simpa using e2)⟩))
        ·rename_i e2
         have e2:¬ ib2+1=bs.length:=by simpa using e2
         have b4:ib2+1<bs.length:=by have:=G3.b;omega
         refine wpS_bind (cc G3.m.ha ?_);refine wpS_bind (adf hc t hk3 G3.m.ha b4 λ k' k1' k2' k3'=>?_)
         walk_at "whr"
         extract_lets +onlyGivenNames -underBinder -merge jp
         have hjp:∀ u out ib3,Wm it lt as bs out ia2 ib3->ib2<=ib3->ib3<bs.length->lt (bs.getD ib3 0) (as.getD ia2 0)=false->wpS (model prog w) A E s (jp u out ib3) Q' st3:=by
          intro u out ib3 m5 h5 b5 e5;unfold jp
          walk_at "whr"
          refine wpS_bind (cc G3.m.ha ?_)
          walk_at "whr"
          have m6:=m5.n0 t b5 G3.a e5
          split
          ·rename_i e2
           exact wpS_pure (q' _ _ (.inl ⟨_,rfl,G3.lk,m6.last t (by simpa using e2)⟩))
          ·rename_i e2
           have e2:¬ ia2+1+1=as.length:=by simpa using e2
           have G6:Go it lt as bs st (ia+ib+1) _ (ia2+1) ib3 st3:=⟨G3.lk,m6,by have:=G3.a;omega,b5,by have:=G3.s;omega⟩
           split
           ·exact wpS_pure (q' _ _ (.inr ⟨rfl,G6⟩))
           ·exact wpS_pure (q' _ _ ⟨rfl,G6⟩)
         clear_value jp
         split
         ·walk_at "whr"
          have m5:=m4.fk t k1' k2'
          split
          ·rename_i e5
           exact wpS_pure (q' _ _ (.inl ⟨_,rfl,G3.lk,m5.done t (by simpa using e5)⟩))
          ·rename_i e5
           have e5:¬ ib2+1+k'=bs.length:=by simpa using e5
           have b5:ib2+1+k'<bs.length:=by omega
           exact hjp _ _ _ m5 (by omega) b5 (k3' b5)
         ·rename_i e5
          have e5:k'=0:=by omega
          subst e5;exact hjp _ _ _ m4 (by omega) b4 (k3' b4)
       clear_value jp
       split
       ·walk_at "whr"
        have m4:=G3.m.fv t G3.b k1 k2
        split
        ·rename_i e5
         exact wpS_pure (q' _ _ (.inl ⟨_,rfl,G3.lk,m4.last t (by simpa using e5)⟩))
        ·rename_i e5
         have e5:¬ ia2+k+1=as.length:=by simpa using e5
         split
         ·rename_i e6
          have e6:ia2+k=as.length:=by simpa using e6
          omega
         ·exact hjp _ _ _ ⟨G3.lk,m4,by omega,G3.b,by have:=G3.s;omega⟩ k3
       ·rename_i e5
        have e5:k=0:=by omega
        subst e5;exact hjp _ _ _ G3 k3
      clear_value jp
      split
      ·walk_at "whr"
       exact hjp _ _
      ·exact hjp _ _
     ·rintro⟨r,out,ia2,ib2,mg,ac,bc⟩ st2 ⟨er,G2⟩;exact .inr ⟨er,G2⟩
     ·rintro⟨r,out,ia2,ib2,mg,ac,bc⟩ st2 hB;dsimp only[Be] at hB
      walk_at "whr"
      rcases hB with ⟨v,rfl,lk,rm⟩ | ⟨rfl,G2⟩
      ·exact wpS_pure ⟨v,rfl,lk,rm⟩
      walk_at "whr"
      refine wpS_bind (jk λ st3 lk3=>?_);exact wpS_pure ⟨rfl,G2.lk.tr lk3,G2.m,G2.a,G2.b,by have:=G2.s;have:=G.s;dsimp only;omega⟩
   ·rintro⟨r,out,ia2,ib2,mg⟩ st2 ⟨er,G2⟩
    exfalso
    have:=G2.a;have:=G2.b;have:=G2.s;dsimp only at *;omega
   ·exact⟨rfl,.yt,Wm.start t,by dsimp only;omega,by dsimp only;omega,by dsimp only;omega⟩
   ·rintro⟨r,out,ia2,ib2,mg⟩ st2 ⟨v,er,lk,rm⟩;dsimp only at er;subst er
    walk_at "whr"
    exact wpS_pure (q _ _ lk rm)
end
open L2 S PySem.W
local macro_rules | `(tactic| walk_at "op_mergeHi")=>`(tactic| unfold $(Lean.mkIdent (Lean.mkPrivateNameCore `PySem.Builtin.List.W1All `PySem.Builtin.mergeHi)):ident)
local macro_rules | `(tactic| walk_at "whr")=>`(tactic| ((repeat (extract_lets +onlyGivenNames -underBinder -merge a; (fail_if_success (have:_->_:=a));subst a)); (try dsimp (config:={zeta:=false,zetaHave:=false}) only); (repeat (extract_lets +onlyGivenNames -underBinder -merge a; (fail_if_success (have:_->_:=a));subst a))))
section
variable {it:Array Keyed}{l:List Nat}{i k:Nat}
theorem mO:(ar it l).reverse=ar it l.reverse:=by simp[ar]
theorem fZ:(ar it l).extract i k=ar it ((l.take k).drop i):=by simp[ar,List.extract_eq_drop_take,List.map_take,List.map_drop,List.drop_take]
theorem cN(h:k<=l.length):l.reverse.drop (l.length-k)=(l.take k).reverse:=by rw[List.reverse_take]
theorem jB(h:k<=l.length)(hi:i<=k):(l.reverse.drop (l.length-k)).take (k-i)=((l.take k).drop i).reverse:=by rw[cN h,List.reverse_drop,List.length_take,Nat.min_eq_left h]
theorem mem_mid{x:Nat}(h:x∈(l.take k).drop i):∃ j,i<=j/\j<k/\j<l.length/\x=l.getD j 0:=by obtain⟨j,hj,e⟩:=List.mem_iff_getElem.mp h;simp only[List.length_take,List.length_drop] at hj;refine⟨i+j,by omega,by omega,by omega,?_⟩;rw[<- e,List.getD_eq_getElem?_getD,List.getElem?_eq_getElem (by omega)];simp
end
structure Wh(it:Array Keyed)(lt:Nat->Nat->Bool)(as bs:List Nat)(out:Array Keyed)(na nb:Nat):Prop where
 ex:∃ o:List Nat,out=ar it o/\Mg (λ x y=>B lt y x) as.reverse bs.reverse o (as.length-na) (bs.length-nb)
 ha:na<=as.length
 hb:0<nb
 hb':nb<=bs.length
section
variable {it:Array Keyed}{lt:Nat->Nat->Bool}{N:Nat}{as bs:List Nat}{out:Array Keyed}{na nb k:Nat}
theorem pw_le{l:List Nat}{i j:Nat}(w:dw lt)(h:l.Pairwise (B lt))(hij:i<=j)(hj:j<l.length){y:Nat}(r:B lt (l.getD j 0) y):B lt (l.getD i 0) y:=by
 by_cases e:i=j
 ·rw[e];exact r
 ·exact(pw_at h (by omega) hj).tr w r
theorem Wh.fv(t:Two lt N as bs)(h:Wh it lt as bs out na nb)(hk:k<=na)(e:∀ j,k<=j->j<na->lt (bs.getD (nb-1) 0) (as.getD j 0)=true):Wh it lt as bs (out++((ar it as).extract k na).reverse) k nb:=by
 obtain⟨o,rfl,m⟩:=h.ex;have h1:=h.ha;have h2:=h.hb;have h3:=h.hb';refine⟨⟨_,by rw[fZ,mO,cU],?_⟩,by omega,h.hb,h.hb'⟩;have:=m.fv (List.pairwise_reverse.mpr t.sa) (na-k) λ x hx y hy=>?_
 ·rw[jB h.ha hk,show as.length-na+(na-k)=as.length-k by omega] at this;exact this
 ·rw[jB h.ha hk] at hx;rw[cN h.hb'] at hy;obtain⟨j,j1,j2,j3,rfl⟩:=mem_mid (List.mem_reverse.mp hx);obtain⟨i,i1,i2,i3,rfl⟩:=mem_mid (i:=0) (by simpa using hy);exact pw_le t.w t.sb (show i<=nb-1 by omega) (by omega) (.inl (e j j1 j2))
theorem Wh.fk(t:Two lt N as bs)(h:Wh it lt as bs out na nb)(hk:k<=nb)(hk0:0<k)(hna:0<na)(e:∀ j,k<=j->j<nb->lt (bs.getD j 0) (as.getD (na-1) 0)=false):Wh it lt as bs (out++((ar it bs).extract k nb).reverse) na k:=by
 obtain⟨o,rfl,m⟩:=h.ex;have h1:=h.ha;have h2:=h.hb;have h3:=h.hb';refine⟨⟨_,by rw[fZ,mO,cU],?_⟩,h.ha,hk0,by omega⟩;have:=m.fk (List.pairwise_reverse.mpr t.sb) (nb-k) λ y hy x hx=>?_
 ·rw[jB h.hb' hk,show bs.length-nb+(nb-k)=bs.length-k by omega] at this;exact this
 ·rw[jB h.hb' hk] at hy;rw[cN h.ha] at hx;obtain⟨j,j1,j2,j3,rfl⟩:=mem_mid (List.mem_reverse.mp hy);obtain⟨i,i1,i2,i3,rfl⟩:=mem_mid (i:=0) (by simpa using hx);exact pw_le t.w t.sa (show i<=na-1 by omega) (by omega) (B.of_le (e j j1 j2) (t.cr _ (bj (by omega)) _ (bj j3)))
theorem o8{l:List Nat}{i:Nat}(h0:0<i)(h:i<=l.length):((ar it l).extract (i-1) i).reverse = #[kas_item it (l.getD (i-1) 0)]:=by have:=rR (it:=it) (l:=l) (i:=i-1) (by omega);rw[show i-1+1=i by omega] at this;rw[this];rfl
theorem Wh.n0(t:Two lt N as bs)(h:Wh it lt as bs out na nb)(hna:0<na)(e:lt (bs.getD (nb-1) 0) (as.getD (na-1) 0)=true):Wh it lt as bs (out.push (kas_item it (as.getD (na-1) 0))) (na-1) nb:=by
 have:=h.fv (k:=na-1) t (by omega) λ j j1 j2=>by rw[show j=na-1 by omega];exact e
 rw[o8 hna h.ha] at this;exact this
theorem Wh.oB(t:Two lt N as bs)(h:Wh it lt as bs out na nb)(hna:0<na)(hnb:1<nb)(e:lt (bs.getD (nb-1) 0) (as.getD (na-1) 0)=false):Wh it lt as bs (out.push (kas_item it (bs.getD (nb-1) 0))) na (nb-1):=by
 have:=h.fk (k:=nb-1) t (by omega) (by omega) hna λ j j1 j2=>by rw[show j=nb-1 by omega];exact e
 rw[o8 h.hb h.hb'] at this;exact this
theorem u6{X:List Nat}(h:X.Pairwise λ x y=>B lt y x)(p:X.Perm (as.reverse++bs.reverse)){out:Array Keyed}(e:out=ar it X.reverse):Rm it lt as bs out:=
 ⟨_,e,List.pairwise_reverse.mpr h,(List.reverse_perm X).trans (p.trans ((List.reverse_perm as).append (List.reverse_perm bs)))⟩
theorem Wh.done(t:Two lt N as bs)(h:Wh it lt as bs out na nb)(hna:na=0):Rm it lt as bs ((ar it as).extract 0 na++(ar it bs).extract 0 nb++out.reverse):=by
 obtain⟨o,rfl,m⟩:=h.ex;obtain⟨p1,p2⟩:=m.aai (List.pairwise_reverse.mpr t.sa) (List.pairwise_reverse.mpr t.sb) λ y _ x hx=>by rw[hna,cN (Nat.zero_le _)] at hx;simp at hx
 rw[cN h.ha,cN h.hb'] at p1 p2;refine u6 p1 p2 ?_;rw[fZ,fZ,mO,cU,cU];simp
theorem Wh.last(t:Two lt N as bs)(h:Wh it lt as bs out na nb)(hnb:nb=1):Rm it lt as bs ((ar it bs).extract 0 nb++(ar it as).extract 0 na++out.reverse):=by
 obtain⟨o,rfl,m⟩:=h.ex;obtain⟨p1,p2⟩:=m.done (List.pairwise_reverse.mpr t.sa) (List.pairwise_reverse.mpr t.sb) λ x hx y hy=>by rw[cN h.ha] at hx;rw[cN h.hb'] at hy;obtain⟨j,j1,j2,j3,rfl⟩:=mem_mid (i:=0) (by simpa using hx);obtain⟨i,i1,i2,i3,rfl⟩:=mem_mid (i:=0) (by simpa using hy);rw[show i=0 by omega];refine pw_head (i:=0) t.w t.sa t.a0 (.inl t.fi) _ ?_;rw[List.drop_zero];exact bj j3
 rw[cN h.ha,cN h.hb'] at p1 p2;refine u6 p1 p2 ?_;rw[fZ,fZ,mO,cU,cU];simp
theorem Wh.start(t:Two lt N as bs):Wh it lt as bs #[kas_item it (as.getD (as.length-1) 0)] (as.length-1) bs.length:=by have:=(Wh.mk ⟨[],rfl,by rw[Nat.sub_self,Nat.sub_self];exact Mg.start⟩ (Nat.le_refl _) t.b0 (Nat.le_refl _):Wh it lt as bs #[] as.length bs.length).n0 t t.a0 (t.la _ (bj (by have:=t.b0;omega)));exact this
end
section
variable {prog:Program}{w:World}{A:Around}{E:VP}{s:Shared}{st:SortSt}{κ:SortKind}{it:Array Keyed}{lt:Nat->Nat->Bool}{N:Nat}{as bs:List Nat}
theorem abJ(hc:d9 prog w A s κ it lt N)(t:Two lt N as bs)(hk:kindOf st=κ){na nb:Nat}(h1:0<na)(h1':na<=as.length)(h2:nb<bs.length){Q:Option Nat->SortSt->Prop}
  (q:∀ k,k<=na->(∀ j,k<=j->j<na->lt (bs.getD nb 0) (as.getD j 0)=true)->(0<k->lt (bs.getD nb 0) (as.getD (k-1) 0)=false)->Q (some k) st) :
  wpS (model prog w) A E s (dO false (kas_item it (bs.getD nb 0)) (ar it as) 0 na (na-1)) Q st:=by
 obtain⟨p,p1,p2⟩:=xT (λ i=>!lt (bs.getD nb 0) (as.getD (0+i) 0)) na λ i j hij hj e=>by
  have e:lt (bs.getD nb 0) (as.getD (0+j) 0)=false:=by simpa using e
  have:=t.w.tr _ _ _ ((pw_at t.sa (show 0+i<0+j by omega) (by omega)).le t.w) e;show(!lt (bs.getD nb 0) (as.getD (0+i) 0))=true;rw[this];rfl
 refine cV (p:=p) (by omega) p1 (λ i hi R r=>?_) (q p p1 (λ j hj hj2=>?_) λ hp=>?_)
 ·unfold cO;refine wpS_bind (cc (by omega) ?_);rw[if_neg (by decide)];refine wpS_bind (jC hc hk (t.nb _ (bj h2)) (t.na _ (bj (by omega))) (wpS_pure ?_));have:=p2 i hi;show R (some (!lt (bs.getD nb 0) (as.getD (0+i) 0))) st;rw[this];exact r
 ·have:=p2 j hj2;rw[decide_eq_false (by omega),Nat.zero_add] at this
  simpa using this
 ·have:=p2 (p-1) (by omega);rw[decide_eq_true (by omega),Nat.zero_add] at this
  simpa using this
theorem abM(hc:d9 prog w A s κ it lt N)(t:Two lt N as bs)(hk:kindOf st=κ){na nb:Nat}(h1:na<as.length)(h2:0<nb)(h2':nb<=bs.length){Q:Option Nat->SortSt->Prop}
  (q:∀ k,0<k->k<=nb->(∀ j,k<=j->j<nb->lt (bs.getD j 0) (as.getD na 0)=false)->lt (bs.getD (k-1) 0) (as.getD na 0)=true->Q (some k) st) :
  wpS (model prog w) A E s (dO true (kas_item it (as.getD na 0)) (ar it bs) 0 nb (nb-1)) Q st:=by
 obtain⟨p,p1,p2⟩:=xT (λ i=>lt (bs.getD (0+i) 0) (as.getD na 0)) nb λ i j hij hj e => 
  t.w.yB ((pw_at t.sb (show 0+i<0+j by omega) (by omega)).le t.w) e
 have hp:0<p:=by
  have h0:lt (bs.getD 0 0) (as.getD na 0)=true:=by
   by_cases e:na=0
   ·rw[e];exact t.fi
   ·exact t.w.tI t.fi ((pw_at t.sa (show 0<na by omega) h1).le t.w)
  have:=p2 0 h2;rw[Nat.zero_add,h0] at this
  simpa using this.symm
 refine cV (p:=p) (by omega) p1 (λ i hi R r=>?_) (q p hp p1 (λ j hj hj2=>?_) ?_)
 ·unfold cO;refine wpS_bind (cc (by omega) ?_);rw[if_pos rfl];refine jC hc hk (t.nb _ (bj (by omega))) (t.na _ (bj h1)) ?_;have:=p2 i hi;rw[this];exact r
 ·have:=p2 j hj2;rw[decide_eq_false (by omega),Nat.zero_add] at this;exact this
 ·have:=p2 (p-1) (by omega);rw[decide_eq_true (by omega),Nat.zero_add] at this;exact this
structure Gh(it:Array Keyed)(lt:Nat->Nat->Bool)(as bs:List Nat)(st:SortSt)(low:Nat)(out:Array Keyed)(na nb:Nat)(st':SortSt):Prop where
 lk:Lk st st'
 m:Wh it lt as bs out na nb
 a:0<na
 b:1<nb
 s:low+na+nb<=as.length+bs.length
def Bh(it:Array Keyed)(lt:Nat->Nat->Bool)(as bs:List Nat)(st:SortSt)(low:Nat)(r:Option (Array Keyed))(out:Array Keyed)(na nb:Nat)(st':SortSt):Prop:=
 (∃ x,r=some x/\Lk st st'/\Rm it lt as bs x)\/(r=none/\Gh it lt as bs st low out na nb st')
theorem nS(hc:d9 prog w A s κ it lt N)(t:Two lt N as bs)(hk:kindOf st=κ){Q:Array Keyed->SortSt->Prop}(q:∀ out st',Lk st st'->Rm it lt as bs out->Q out st') :
  wpS (model prog w) A E s (mT (ar it as) (ar it bs)) Q st:=by
 have b0:=t.b0;have a0:=t.a0;unfold mT
 walk_at "op_mergeHi"
 refine wpS_bind (wpS_lift (wpAny_rule ⟨rfl,?_⟩))
 walk_at "whr"
 simp (config:={zeta:=false,zetaHave:=false}) only[jF];refine wpS_bind (cc (by omega) ?_)
 walk_at "whr"
 split
 ·rename_i z
  exact wpS_pure (q _ _ .yt ((Wh.start t).done t (by simpa using z)))
 ·rename_i z
  split
  ·rename_i y
   exact wpS_pure (q _ _ .yt ((Wh.start t).last t (by simpa using y)))
  ·rename_i y
   have z:¬ as.length-1=0:=by simpa using z
   have y:¬ bs.length=1:=by simpa using y
   refine wpS_bind (wpS_get ?_)
   walk_at "whr"
   refine wpS_bind (wpS_mono (wpS_forRange (I:=λ x c st'=>c.1=none/\Gh it lt as bs st (x+1) c.2.2.2.1 c.2.1 c.2.2.1 st') (Q:=λ c st'=>∃ x,c.1=some x/\Lk st st'/\Rm it lt as bs x) ?_ ?_ ?_) ?_)
   ·rintro x ⟨r,na,nb,out,mg⟩ st1 _ hx ⟨er,G⟩;dsimp only at er G;subst er
    walk_at "whr"
    have Ga:=G.m.ha;have Gb:=G.m.hb';refine wpS_bind (wpS_mono (wpS_forRange (I:=λ x c st'=>c.1=none/\Gh it lt as bs st (as.length+bs.length-na-nb+x) c.2.2.2.1 c.2.1 c.2.2.1 st') (Q:=λ c st'=>Bh it lt as bs st (as.length+bs.length-na-nb+1) c.1 c.2.2.2.1 c.2.1 c.2.2.1 st') ?_ ?_ ?_) ?_)
    ·rintro x2 ⟨r,na2,nb2,out,ac,bc⟩ st2 _ hx2 ⟨er,G2⟩;dsimp only at er G2;subst er
     walk_at "whr"
     have hk2:kindOf st2=κ:=G2.lk.k.trans hk;have ha:=G2.a;have hb:=G2.b;have ha':=G2.m.ha;have hb':=G2.m.hb';have hs:=G2.s;refine wpS_bind (cc (by omega) ?_);refine wpS_bind (cc (by omega) ?_);refine wpS_bind (jC hc hk2 (t.nb _ (bj (by omega))) (t.na _ (bj (by omega))) ?_)
     walk_at "whr"
     split
     ·rename_i e
      walk_at "whr"
      refine wpS_bind (cc (by omega) ?_)
      walk_at "whr"
      have m2:=G2.m.n0 t G2.a e
      split
      ·rename_i e2
       exact wpS_pure (.inl ⟨_,rfl,G2.lk,m2.done t (by simpa using e2)⟩)
      ·rename_i e2
       have e2:¬ na2-1=0:=by simpa using e2
       have G3:Gh it lt as bs st (as.length+bs.length-na-nb+(x2+1)) _ (na2-1) nb2 st2:=⟨G2.lk,m2,by omega,G2.b,by omega⟩
       split
       ·exact wpS_pure (.inr ⟨rfl,G3.lk,G3.m,G3.a,G3.b,by dsimp only;omega⟩)
       ·exact wpS_pure ⟨rfl,G3⟩
     ·rename_i e
      walk_at "whr"
      refine wpS_bind (cc (by omega) ?_)
      walk_at "whr"
      have m2:=G2.m.oB t G2.a G2.b (by simpa using e)
      split
      ·rename_i e2
       exact wpS_pure (.inl ⟨_,rfl,G2.lk,m2.last t (by simpa using e2)⟩)
      ·rename_i e2
       have e2:¬ nb2-1=1:=by simpa using e2
       have G3:Gh it lt as bs st (as.length+bs.length-na-nb+(x2+1)) _ na2 (nb2-1) st2:=⟨G2.lk,m2,G2.a,by omega,by omega⟩
       split
       ·exact wpS_pure (.inr ⟨rfl,G3.lk,G3.m,G3.a,G3.b,by dsimp only;omega⟩)
       ·exact wpS_pure ⟨rfl,G3⟩
    ·rintro⟨r,na2,nb2,out,ac,bc⟩ st2 ⟨er,G2⟩;exact .inr ⟨er,G2.lk,G2.m,G2.a,G2.b,by have:=G2.s;dsimp only at this ⊢;omega⟩
    ·exact⟨rfl,G.lk,G.m,G.a,G.b,by dsimp only;omega⟩
    ·rintro⟨r,na2,nb2,out,ac,bc⟩ st2 hB;dsimp only[Bh] at hB
     walk_at "whr"
     rcases hB with ⟨v,rfl,lk,rm⟩ | ⟨rfl,G2⟩
     ·exact wpS_pure ⟨v,rfl,lk,rm⟩
     walk_at "whr"
     refine wpS_bind (wpS_lift (wpAny_rule ⟨rfl,?_⟩))
     walk_at "whr"
     refine wpS_bind (wpS_mono (wpS_forRange (I:=λ x c st'=>c.1=none/\Gh it lt as bs st (as.length+bs.length-na-nb+1) c.2.2.2.1 c.2.1 c.2.2.1 st') (Q:=λ c st'=>Bh it lt as bs st (as.length+bs.length-na-nb+1) c.1 c.2.2.2.1 c.2.1 c.2.2.1 st') ?_ ?_ ⟨rfl,G2⟩) ?_)
     ·clear G2;rintro x2 ⟨r,na2,nb2,out,mg,ac,bc⟩ st2 _ hx2 ⟨er,G2⟩;dsimp only at er G2;subst er
      walk_at "whr"
      refine jf λ Q' q'=>?_
      extract_lets +onlyGivenNames -underBinder -merge jp
      have hjp:∀ u g,wpS (model prog w) A E s (jp u g) Q' st2:=by
       intro u g;unfold jp
       walk_at "whr"
       refine wpS_bind (jk λ st3 lk3=>?_);have G3:Gh it lt as bs st (as.length+bs.length-na-nb+1) out na2 nb2 st3:=⟨G2.lk.tr lk3,G2.m,G2.a,G2.b,G2.s⟩;clear G2;have hk3:kindOf st3=κ:=G3.lk.k.trans hk;have b3:=G3.b;have b3':=G3.m.hb';refine wpS_bind (cc (by omega) ?_);refine wpS_bind (abJ hc t hk3 G3.a G3.m.ha (by omega) λ k k1 k2 k3=>?_)
       walk_at "whr"
       extract_lets +onlyGivenNames -underBinder -merge jp
       have hjp:∀ u na2 out,Gh it lt as bs st (as.length+bs.length-na-nb+1) out na2 nb2 st3->lt (bs.getD (nb2-1) 0) (as.getD (na2-1) 0)=false->wpS (model prog w) A E s (jp u na2 out) Q' st3:=by
        clear k1 k2 k3 G3;intro u na2 out G3 k3;unfold jp
        walk_at "whr"
        have a3:=G3.a;have a3':=G3.m.ha;have s3:=G3.s;refine wpS_bind (cc (by omega) ?_)
        walk_at "whr"
        have m4:=G3.m.oB t G3.a G3.b k3
        split
        ·rename_i e2
         exact wpS_pure (q' _ _ (.inl ⟨_,rfl,G3.lk,m4.last t (by simpa using e2)⟩))
        ·rename_i e2
         have e2:¬ nb2-1=1:=by simpa using e2
         refine wpS_bind (cc (by omega) ?_);refine wpS_bind (abM hc t hk3 (show na2-1<as.length by omega) (show 0<nb2-1 by omega) (by omega) λ k' k0' k1' k2' k3'=>?_)
         walk_at "whr"
         extract_lets +onlyGivenNames -underBinder -merge jp
         have hjp:∀ u nb3 out,Wh it lt as bs out na2 nb3->nb3<=nb2->1<nb3->lt (bs.getD (nb3-1) 0) (as.getD (na2-1) 0)=true->wpS (model prog w) A E s (jp u nb3 out) Q' st3:=by
          intro u nb3 out m5 h5 b5 e5;unfold jp
          walk_at "whr"
          refine wpS_bind (cc (by omega) ?_)
          walk_at "whr"
          have m6:=m5.n0 t G3.a e5
          split
          ·rename_i e2
           exact wpS_pure (q' _ _ (.inl ⟨_,rfl,G3.lk,m6.done t (by simpa using e2)⟩))
          ·rename_i e2
           have e2:¬ na2-1=0:=by simpa using e2
           have G6:Gh it lt as bs st (as.length+bs.length-na-nb+1) _ (na2-1) nb3 st3:=⟨G3.lk,m6,by omega,b5,by omega⟩
           split
           ·exact wpS_pure (q' _ _ (.inr ⟨rfl,G6⟩))
           ·exact wpS_pure (q' _ _ ⟨rfl,G6⟩)
         clear_value jp
         split
         ·walk_at "whr"
          have m5:=m4.fk t k1' k0' G3.a k2'
          split
          ·rename_i e5
           exact wpS_pure (q' _ _ (.inl ⟨_,rfl,G3.lk,m5.last t (by simpa using e5)⟩))
          ·rename_i e5
           have e5:¬ k'=1:=by simpa using e5
           split
           ·rename_i e6
            have e6:k'=0:=by simpa using e6
            omega
           ·exact hjp _ _ _ m5 (by omega) (by omega) k3'
         ·rename_i e5
          have e5:k'=nb2-1:=by omega
          subst e5;exact hjp _ _ _ m4 (by omega) (by omega) k3'
       clear_value jp
       have s3:=G3.s
       split
       ·walk_at "whr"
        have m4:=G3.m.fv t k1 k2
        split
        ·rename_i e5
         exact wpS_pure (q' _ _ (.inl ⟨_,rfl,G3.lk,m4.done t (by simpa using e5)⟩))
        ·rename_i e5
         have e5:¬ k=0:=by simpa using e5
         exact hjp _ _ _ ⟨G3.lk,m4,by omega,G3.b,by omega⟩ (k3 (by omega))
       ·rename_i e5
        have e5:k=na2:=by omega
        subst e5;exact hjp _ _ _ G3 (k3 G3.a)
      clear_value jp
      split
      ·walk_at "whr"
       exact hjp _ _
      ·exact hjp _ _
     ·rintro⟨r,na2,nb2,out,mg,ac,bc⟩ st2 ⟨er,G2⟩;exact .inr ⟨er,G2⟩
     ·rintro⟨r,na2,nb2,out,mg,ac,bc⟩ st2 hB;dsimp only[Bh] at hB
      walk_at "whr"
      rcases hB with ⟨v,rfl,lk,rm⟩ | ⟨rfl,G2⟩
      ·exact wpS_pure ⟨v,rfl,lk,rm⟩
      walk_at "whr"
      refine wpS_bind (jk λ st3 lk3=>?_);exact wpS_pure ⟨rfl,G2.lk.tr lk3,G2.m,G2.a,G2.b,by have:=G2.s;have:=G.s;dsimp only;omega⟩
   ·rintro⟨r,na2,nb2,out,mg⟩ st2 ⟨er,G2⟩
    exfalso
    have:=G2.a;have:=G2.b;have:=G2.s;dsimp only at *;omega
   ·exact⟨rfl,.yt,Wh.start t,by dsimp only;omega,by dsimp only;omega,by dsimp only;omega⟩
   ·rintro⟨r,na2,nb2,out,mg⟩ st2 ⟨v,er,lk,rm⟩;dsimp only at er;subst er
    walk_at "whr"
    exact wpS_pure (q _ _ lk rm)
end
open L2 S PySem.W
section
variable {α:Type}{pre xs:Array α}{lo:Nat}
theorem qp(hl:pre.size=lo){i j:Nat}(hi:i<xs.size)(hj:j<xs.size):(pre++xs).swapIfInBounds (lo+i) (lo+j)=pre++xs.swapIfInBounds i j:=by
 subst hl;apply Array.ext_getElem?;intro k;rw[getElem?_swapIB (by rw[Array.size_append];omega) (by rw[Array.size_append];omega)];have g:∀ (ys:Array α) n,(pre++ys)[pre.size+n]? =ys[n]?:=λ ys n=>by rw[Array.getElem?_append_right (by omega),Nat.add_sub_cancel_left]
 by_cases h:k<pre.size
 ·rw[if_neg (by omega),if_neg (by omega),Array.getElem?_append_left h,Array.getElem?_append_left h]
 ·obtain⟨m,rfl⟩:∃ m,k=pre.size+m:=⟨k-pre.size,by omega⟩;rw[g,g,g,g,getElem?_swapIB hi hj];simp only[Nat.add_left_cancel_iff]
theorem kT(hl:pre.size=lo){i j:Nat}(hj:j<=xs.size):∀ d,2 * d<=j-i->mirror (pre++xs) (lo+i) (lo+j) d=pre++mirror xs i j d
 | 0,_=>rfl
 | d+1,h=>by rw[mirror_succ,mirror_succ,kT hl hj d (by omega),show lo+i+d=lo+(i+d) by omega,show lo+j-1-d=lo+(j-1-d) by omega];exact qp hl (by rw[mirror_size];omega) (by rw[mirror_size];omega)
theorem j4(hl:pre.size=lo){k:Nat}(hk:k<xs.size):∀ d,d<=k->bubble (pre++xs) (lo+k) d=pre++bubble xs k d
 | 0,_=>rfl
 | d+1,h=>by rw[bubble_succ,bubble_succ,j4 hl hk d (by omega),show lo+k-d=lo+(k-d) by omega,show lo+(k-d)-1=lo+(k-d-1) by omega];exact qp hl (by rw[bubble_size];omega) (by rw[bubble_size];omega)
end
section
variable {prog:Program}{w:World}{A:Around}{E:VP}{s:Shared}{st:SortSt}{κ:SortKind}{f:Nat->Keyed}{lt:Nat->Nat->Bool}{N lo:Nat}{pre:Array Keyed}{p:Array Nat}
abbrev sA(st:SortSt)(pre:Array Keyed)(f:Nat->Keyed)(p:Array Nat):SortSt:=setArr st (pre++p.map f)
structure Bd(N:Nat)(p:Array Nat):Prop where
 z:p.size=N
 b:∀ x∈p.toList,x<N
theorem Bd.perm{p':Array Nat}(h:Bd N p)(q:p'.Perm p):Bd N p':=⟨q.size_eq.trans h.z,λ x hx=>h.b x ((Array.perm_iff_toList_perm.mp q).mem_iff.mp hx)⟩
theorem Bd.rev(h:Bd N p)(i j:Nat):Bd N (kas_rev p i j):=h.perm (mirror_perm p i j _)
theorem Bd.at(h:Bd N p){i:Nat}(hi:i<N):p.getD i 0<N:=by
 have hz:=h.z;have:p.getD i 0=p[i]:=by simp[Array.getD,show i<p.size by omega]
 rw[this];exact h.b _ (by simp)
def Ans(prog:Program)(w:World)(A:Around)(E:VP)(s:Shared)(κ:SortKind)(f:Nat->Keyed)(lt:Nat->Nat->Bool)(N:Nat):Prop:=
 ∀ i j,i<N->j<N->∀ (st:SortSt) (R:Option Bool->SortSt->Prop),kindOf st=κ->R (some (lt i j)) st->wpS (model prog w) A E s (lt' (f i) (f j)) R st
theorem zc(hl:pre.size=lo)(b:Bd N p){i:Nat}(hi:i<N):(pre++p.map f)[lo+i]? =some (f (p.getD i 0)):=by
 have hz:=b.z;subst hl;rw[Array.getElem?_append_right (by omega),Nat.add_sub_cancel_left];have:p.getD i 0=p[i]:=by simp[Array.getD,show i<p.size by omega]
 rw[this];simp[show i<p.size by omega]
theorem ltA(hc:Ans prog w A E s κ f lt N)(hk:kindOf st=κ)(hl:pre.size=lo)(b:Bd N p){i j:Nat}(hi:i<N)(hj:j<N){R:Option Bool->SortSt->Prop}(r:R (some (lt (p.getD i 0) (p.getD j 0))) (sA st pre f p)) :
  wpS (model prog w) A E s (ltAt' (lo+i) (lo+j)) R (sA st pre f p):=by
 rw[ltAt'_eq];refine wpS_bind (wpS_get ?_);show wpS _ _ _ _ (do let x <- elem' (pre++p.map f) (lo+i);let y <- elem' (pre++p.map f) (lo+j);lt' x y) R (sA st pre f p);rw[elem'_eq,elem'_eq,zc hl b hi,zc hl b hj];exact wpS_bind (wpS_pure (wpS_bind (wpS_pure (hc _ _ (b.at hi) (b.at hj) _ R hk r))))
theorem aa7(hl:pre.size=lo){i j:Nat}(hj:j<=p.size){R:Unit->SortSt->Prop}(r:R () (sA st pre f (kas_rev p i j))):wpS (model prog w) A E s (reverseSlice' (lo+i) (lo+j)) R (sA st pre f p):=by
 rw[reverseSlice'_eq];refine wpS_modify ?_;have e:mirror (pre++p.map f) (lo+i) (lo+j) ((lo+j-(lo+i)) / 2)=pre++(kas_rev p i j).map f:=by rw[kT hl (by rw[Array.size_map];exact hj) _ (by omega),show lo+j-(lo+i)=j-i by omega];congr 1;exact kas_swaps_map f (λ k=>i+k) (λ k=>j-1-k) _ p
 show R () (setArr st (mirror (pre++p.map f) (lo+i) (lo+j) ((lo+j-(lo+i)) / 2)));rw[e];exact r
theorem ac1(hl:pre.size=lo){k l:Nat}(hk:k<p.size){R:Unit->SortSt->Prop}(r:R () (sA st pre f (bubble p k (k-l)))):wpS (model prog w) A E s (moveDown' (lo+k) (lo+l)) R (sA st pre f p):=by
 rw[moveDown'_eq];refine wpS_modify ?_;have e:bubble (pre++p.map f) (lo+k) (lo+k-(lo+l))=pre++(bubble p k (k-l)).map f:=by rw[show lo+k-(lo+l)=k-l by omega,j4 hl (by rw[Array.size_map];exact hk) _ (by omega)];congr 1;exact kas_swaps_map f (λ i=>k-i) (λ i=>k-i-1) _ p
 show R () (setArr st (bubble (pre++p.map f) (lo+k) (lo+k-(lo+l))));rw[e];exact r
theorem acD(hc:Ans prog w A E s κ f lt N)(hk:kindOf st=κ)(hl:pre.size=lo)(b:Bd N p){a:Nat}(h1:1<=a)(ha:a<=N){Q:Option (Option Nat)×Nat->SortSt->Prop}(q:Q (none,go lt (kas_asc p (N-a) a)) (sA st pre f p)) :
  wpS (model prog w) A E s (forIn [a:N] ((none,a):Option (Option Nat)×Nat) λ _ __s=>do
   let __x <- ltAt' (lo+__s.snd) (lo+__s.snd-1)
   match __x with
   | some smaller=>if smaller=true then pure (ForInStep.done (none,__s.snd)) else pure (ForInStep.yield (none,__s.snd+1))
   | _=>pure (ForInStep.done (some none,__s.snd))) Q (sA st pre f p):=by
 refine wpS_forRange (I:=λ x c st'=>st'=sA st pre f p/\c=(none,x)/\go lt (kas_asc p (N-a) a)=go lt (kas_asc p (N-x) x)) ?_ ?_ ⟨rfl,rfl,rfl⟩
 ·rintro x c st' hax hx ⟨e1,rfl,e3⟩;rw[e1];dsimp only;rw[show lo+x-1=lo+(x-1) by omega];refine wpS_bind (ltA hc hk hl b hx (by omega) ?_);have ef:N-x=(N-(x+1))+1:=by omega
  rw[ef] at e3;simp only[kas_asc,go] at e3;dsimp only;cases e:lt (p.getD x 0) (p.getD (x-1) 0) with
  | true =>
   rw[e] at e3;simp only[if_true,go] at e3;refine wpS_pure ?_;show Q (none,x) _;rw[<- e3];exact q
  | false =>
   rw[e] at e3;simp only[Bool.false_eq_true,if_false] at e3 ⊢;exact wpS_pure ⟨rfl,rfl,e3⟩
 ·rintro c st' ⟨rfl,rfl,e3⟩;rw[show max a N=N by omega] at e3 ⊢;rw[Nat.sub_self] at e3;have e3:go lt (kas_asc p (N-a) a)=N:=e3;rw[e3] at q;exact q
theorem ab5(hc:Ans prog w A E s κ f lt N)(hk:kindOf st=κ)(hl:pre.size=lo)(b:Bd N p){a:Nat}(h1:1<=a)(ha:a<=N){Q:Option (Option Nat)×Nat×Nat->SortSt->Prop}
  (q:∀ p' m u,go lt (kas_desc (N-a) p a 0)=(p',m,u)->Bd N p'->a<=m->m<=N->u+1<=m->Q (none,m,u) (sA st pre f p')) :
  wpS (model prog w) A E s (forIn [a:N] ((none,a,0):Option (Option Nat)×Nat×Nat) λ _ __s=>do
   let __x <- ltAt' (lo+__s.snd.fst) (lo+__s.snd.fst-1)
   match __x with
   | some smaller =>
    if smaller=true then
     if __s.snd.snd > 0 then do
      reverseSlice' (lo+__s.snd.fst-(__s.snd.snd+1)) (lo+__s.snd.fst)
      pure (ForInStep.yield (none,__s.snd.fst+1,0))
     else pure (ForInStep.yield (none,__s.snd.fst+1,0))
    else do
     let __x <- ltAt' (lo+__s.snd.fst-1) (lo+__s.snd.fst)
     match __x with
     | some larger =>
      if larger=true then pure (ForInStep.done (none,__s.snd.fst,__s.snd.snd))
      else pure (ForInStep.yield (none,__s.snd.fst+1,__s.snd.snd+1))
     | _=>pure (ForInStep.done (some none,__s.snd.fst,__s.snd.snd))
   | _=>pure (ForInStep.done (some none,__s.snd.fst,__s.snd.snd))) Q (sA st pre f p):=by
 refine wpS_forRange (I:=λ x c st'=>∃ p' u,st'=sA st pre f p'/\c=(none,x,u)/\Bd N p'/\u+1<=x/\go lt (kas_desc (N-a) p a 0)=go lt (kas_desc (N-x) p' x u)) ?_ ?_ ⟨p,0,rfl,rfl,b,by omega,rfl⟩
 ·rintro x c st' hax hx ⟨p',u,e1,rfl,b',hu,e3⟩;rw[e1];dsimp only;rw[show lo+x-1=lo+(x-1) by omega,show lo+x-(u+1)=lo+(x-(u+1)) by omega];refine wpS_bind (ltA hc hk hl b' hx (by omega) ?_);have ef:N-x=(N-(x+1))+1:=by omega
  rw[ef] at e3;simp only[kas_desc,go] at e3;dsimp only;cases e:lt (p'.getD x 0) (p'.getD (x-1) 0) with
  | true =>
   rw[e] at e3;simp only[if_true] at e3 ⊢
   by_cases hq:u > 0
   ·rw[if_pos hq] at e3 ⊢;refine wpS_bind (aa7 hl (by have:=b'.z;omega) (wpS_pure ⟨_,_,rfl,rfl,b'.rev _ _,by omega,e3⟩))
   ·rw[if_neg hq] at e3 ⊢;exact wpS_pure ⟨_,_,rfl,rfl,b',by omega,e3⟩
  | false =>
   rw[e] at e3;simp only[Bool.false_eq_true,if_false,go] at e3 ⊢;refine wpS_bind (ltA hc hk hl b' (by omega) hx ?_);dsimp only;cases e':lt (p'.getD (x-1) 0) (p'.getD x 0) with
   | true =>
    rw[e'] at e3;simp only[if_true,go] at e3 ⊢;exact wpS_pure (q _ _ _ e3 b' hax (by omega) hu)
   | false =>
    rw[e'] at e3;simp only[Bool.false_eq_true,if_false] at e3 ⊢;exact wpS_pure ⟨_,_,rfl,rfl,b',by omega,e3⟩
 ·rintro c st' ⟨p',u,rfl,rfl,b',hu,e3⟩;rw[show max a N=N by omega] at e3 hu ⊢;rw[Nat.sub_self] at e3;exact q _ _ _ e3 b' ha (Nat.le_refl _) hu
end
open L2 S PySem.W
local macro_rules | `(tactic| walk_at "whr")=>`(tactic| ((repeat (extract_lets +onlyGivenNames -underBinder -merge a; (fail_if_success (have:_->_:=a));subst a)); (try dsimp (config:={zeta:=false,zetaHave:=false}) only); (repeat (extract_lets +onlyGivenNames -underBinder -merge a; (fail_if_success (have:_->_:=a));subst a))))
section
variable {prog:Program}{w:World}{A:Around}{E:VP}{s:Shared}{st:SortSt}{κ:SortKind}{f:Nat->Keyed}{lt:Nat->Nat->Bool}{N lo:Nat}{pre:Array Keyed}{p:Array Nat}
theorem va(lt:Nat->Nat->Bool)(p:Array Nat):∀ f n,n<=go lt (kas_asc p f n)/\go lt (kas_asc p f n)<=n+f
 | 0,n=>⟨Nat.le_refl _,Nat.le_refl _⟩
 | f+1,n=>by
  simp only[kas_asc,go]
  split
  ·exact⟨Nat.le_refl _,Nat.le_add_right _ _⟩
  ·have:=va lt p f (n+1);omega
theorem aao(hc:Ans prog w A E s κ f lt N)(hk:kindOf st=κ)(hl:pre.size=lo)(b:Bd N p)(hN:1<=N){Q:Option Nat->SortSt->Prop}
  (q:Q (some (go lt (kas_count N p)).1) (sA st pre f (go lt (kas_count N p)).2)):wpS (model prog w) A E s (countRun' lo N) Q (sA st pre f p):=by
 rw[countRun'_eq]
 walk_at "whr"
 refine wpS_bind (acD hc hk hl b (Nat.le_refl 1) hN ?_)
 walk_at "whr"
 unfold kas_count at q;rw[cB] at q;have hn:=va lt p (N-1) 1;generalize go lt (kas_asc p (N-1) 1)=n at q hn
 split
 ·rename_i e
  rw[if_pos e] at q;exact wpS_pure q
 ·rename_i e
  rw[if_neg e] at q;have e:¬ n=N:=by simpa using e
  extract_lets +onlyGivenNames -underBinder -merge jp
  have hjp:∀ p1 u,Bd N p1->Q (some (go lt (kas_descPart n N p1)).1) (sA st pre f (go lt (kas_descPart n N p1)).2)->wpS (model prog w) A E s (jp u) Q (sA st pre f p1):=by
   clear q b;intro p1 u b q;unfold jp
   walk_at "whr"
   refine wpS_bind (wpS_lift (wpAny_rule ⟨rfl,?_⟩))
   walk_at "whr"
   refine wpS_bind (ab5 hc hk hl b (by omega) (by omega) λ p2 m u2 e2 b2 hm hm2 hu=>?_)
   walk_at "whr"
   unfold kas_descPart at q;rw[cB,e2] at q
   extract_lets +onlyGivenNames -underBinder -merge jp
   have hjp:∀ p1 u,Bd N p1->Q (some (go lt (kas_tail3 m N p1)).1) (sA st pre f (go lt (kas_tail3 m N p1)).2)->wpS (model prog w) A E s (jp u) Q (sA st pre f p1):=by
    clear q b b2 e2;intro p1 u b q;unfold jp
    walk_at "whr"
    refine wpS_bind (aa7 (i:=0) hl (by have:=b.z;omega) ?_)
    walk_at "whr"
    refine wpS_bind (acD hc hk hl (b.rev _ _) (by omega) hm2 ?_)
    walk_at "whr"
    unfold kas_tail3 at q;rw[cB] at q;exact wpS_pure q
   clear_value jp
   dsimp only at q
   split
   ·rename_i e3
    rw[if_pos e3] at q;rw[show lo+m-(u2+1)=lo+(m-(u2+1)) by omega];refine wpS_bind (aa7 hl (by have:=b2.z;omega) ?_);exact hjp _ _ (b2.rev _ _) q
   ·rename_i e3
    rw[if_neg e3] at q;exact hjp _ _ b2 q
  clear_value jp
  split
  ·rename_i e3
   rw[if_pos e3] at q;rw[show lo+n-1=lo+(n-1) by omega];refine wpS_bind (ltA (i:=0) hc hk hl b (by omega) (by omega) ?_)
   walk_at "whr"
   simp only[go] at q
   split
   ·rename_i e4
    rw[if_pos e4] at q;exact wpS_pure q
   ·rename_i e4
    rw[if_neg e4] at q;refine wpS_bind (aa7 (i:=0) hl (by have:=b.z;omega) ?_);exact hjp _ _ (b.rev _ _) q
  ·rename_i e3
   rw[if_neg e3] at q;exact hjp _ _ b q
theorem jM(lt:Nat->Nat->Bool)(p:Array Nat)(k:Nat):∀ f l r,l<=r->go lt (kas_place p k f l r)<=r
 | 0,l,r,h=>h
 | f+1,l,r,h=>by
  simp only[kas_place]
  split
  ·exact h
  ·simp only[go]
   split
   ·have:=jM lt p k f l ((l+r) / 2) (by omega);omega
   ·exact jM lt p k f _ r (by omega)
theorem uJ(lt:Nat->Nat->Bool){N:Nat}:∀ (f:Nat) (p:Array Nat) (k:Nat),k+f<=N->Un p N k->Un (go lt (kas_bin f p k)) N (k+f)
 | 0,p,k,hf,u=>u
 | f+1,p,k,hf,u=>by
  simp only[kas_bin];rw[cB];have h1:=jM lt p k k 0 k (Nat.zero_le _);generalize go lt (kas_place p k k 0 k)=l at h1;have hs:=u.size;have ek:k-(k-l)=l:=by omega
  have lo:=u.lo;have hk:=u.hi k (Nat.le_refl _) (by omega);have G:∀ i,g (bubble p k (k-l)) i=if i=l then g p k else if l<i/\i<=k then g p (i-1) else g p i:=λ i=>by rw[yL (by omega) (by omega),ek]
  have r:=uJ lt (N:=N) f (bubble p k (k-l)) (k+1) (by omega) ⟨(bubble_size _ _ _).trans hs,λ i hi=>?_,λ i hi hi2=>?_⟩
  ·rw[show k+1+f=k+(f+1) by omega] at r;exact r
  ·rw[G]
   split
   ·omega
   ·split
    ·have:=lo (i-1) (by omega);omega
    ·have:=lo i (by omega);omega
  ·rw[G,if_neg (by omega),if_neg (by omega)];exact u.hi i (by omega) hi2
theorem ac0(hc:Ans prog w A E s κ f lt N)(hk:kindOf st=κ)(hl:pre.size=lo)(b:Bd N p){n ok:Nat}(hn:n<=N){Q:Bool->SortSt->Prop}
  (q:Q true (sA st pre f (go lt (kas_bin (n-max ok 1) p (max ok 1))))):wpS (model prog w) A E s (binarySort' lo n ok) Q (sA st pre f p):=by
 rw[binarySort'_eq]
 walk_at "whr"
 refine wpS_bind (wpS_mono (wpS_forRange (I:=λ x c st'=>∃ p',st'=sA st pre f p'/\c.1=none/\Bd N p'/\go lt (kas_bin (n-max ok 1) p (max ok 1))=go lt (kas_bin (n-x) p' x)) (Q:=λ c st'=>c.1=none/\st'=sA st pre f (go lt (kas_bin (n-max ok 1) p (max ok 1)))) ?_ ?_ ⟨p,rfl,rfl,b,rfl⟩) ?_)
 ·rintro k c st' hk1 hk2 ⟨p',e1,e0,b',e2⟩;rw[e1]
  walk_at "whr"
  refine wpS_bind (wpS_mono (wpS_forRange (I:=λ x c st'=>st'=sA st pre f p'/\c.1=none/\c.2.1<=c.2.2/\c.2.2<=k/\go lt (kas_place p' k k 0 k)=go lt (kas_place p' k (k-x) c.2.1 c.2.2)) (Q:=λ c st'=>st'=sA st pre f p'/\c.1=none/\c.2.1=go lt (kas_place p' k k 0 k)) ?_ ?_ ⟨rfl,rfl,Nat.zero_le _,Nat.le_refl _,rfl⟩) ?_)
  ·rintro x ⟨c0,l,r⟩ st2 _ hx ⟨f1,f2,f3,f4,f5⟩;rw[f1];dsimp only at f2 f3 f4 f5;subst f2
   walk_at "whr"
   rw[show k-x=(k-(x+1))+1 by omega] at f5;simp only[kas_place] at f5
   split
   ·rename_i z
    rw[if_pos z] at f5;exact wpS_pure ⟨rfl,rfl,f5.symm⟩
   ·rename_i z
    rw[if_neg z] at f5
    walk_at "whr"
    refine wpS_bind (ltA hc hk hl b' (by omega) (by omega) ?_)
    walk_at "whr"
    simp only[go] at f5
    split
    ·rename_i z2
     rw[if_pos z2] at f5
     walk_at "whr"
     exact wpS_pure ⟨rfl,rfl,by dsimp only;omega,by dsimp only;omega,f5⟩
    ·rename_i z2
     rw[if_neg z2] at f5
     walk_at "whr"
     exact wpS_pure ⟨rfl,rfl,by dsimp only;omega,by dsimp only;omega,f5⟩
  ·rintro⟨c0,l,r⟩ st2 ⟨f1,f2,f3,f4,f5⟩;refine⟨f1,f2,?_⟩;rw[f5,show k-max 0 k=0 by omega];rfl
  ·rintro⟨c0,l,r⟩ st2 ⟨f1,f2,f3⟩;rw[f1];dsimp only at f2 f3;subst f2
   walk_at "whr"
   refine wpS_bind (ac1 hl (by have:=b'.z;omega) (wpS_pure ⟨_,rfl,rfl,b'.perm (bubble_perm _ _ _),?_⟩));rw[e2,show n-k=(n-(k+1))+1 by omega];simp only[kas_bin];rw[cB,f3]
 ·rintro c st' ⟨p',rfl,e0,b',e2⟩;refine⟨e0,?_⟩;rw[e2,show n-max (max ok 1) n=0 by omega];rfl
 ·rintro c st' ⟨e0,rfl⟩
  walk_at "whr"
  rw[e0];exact wpS_pure q
end
open L2 S PySem.W
local macro_rules | `(tactic| walk_at "op_mergeAt")=>`(tactic| unfold $(Lean.mkIdent (Lean.mkPrivateNameCore `PySem.Builtin.List.W1All `PySem.Builtin.mergeAt)):ident)
local macro_rules | `(tactic| walk_at "whr")=>`(tactic| ((repeat (extract_lets +onlyGivenNames -underBinder -merge a; (fail_if_success (have:_->_:=a));subst a)); (try dsimp (config:={zeta:=false,zetaHave:=false}) only); (repeat (extract_lets +onlyGivenNames -underBinder -merge a; (fail_if_success (have:_->_:=a));subst a))))
section
variable {α:Type}
theorem kK(L X:List α)(k:Nat):(L++X).drop (L.length+k)=X.drop k:=by rw[List.drop_append,List.drop_eq_nil_of_le (by omega),Nat.add_sub_cancel_left];rfl
theorem oI(L X:List α)(k:Nat):(L++X).take (L.length+k)=L++X.take k:=by rw[List.take_append,List.take_of_length_le (by omega),Nat.add_sub_cancel_left]
theorem nc:∀ (m:List α) (L:List α) (base k:Nat),base+k+m.length<=L.length ->
  (m.zipIdx k).foldl (λ(l:List α) (x:α×Nat)=>l.set (base+x.2) x.1) L=L.take (base+k)++(m++L.drop (base+k+m.length))
 | [],L,base,k,h=>by simp
 | p::m,L,base,k,h=>by
  simp only[List.length_cons] at h;rw[List.zipIdx_cons,List.foldl_cons,nc m (L.set (base+k) p) base (k+1) (by rw[List.length_set];omega)];have e1:(L.set (base+k) p).take (base+(k+1))=L.take (base+k)++[p]:=by rw[show base+(k+1)=base+k+1 by omega,List.take_succ,List.take_set,List.set_eq_of_length_le (by simp;omega),List.getElem?_set_self (by omega)];rfl
  have e2:(L.set (base+k) p).drop (base+(k+1)+m.length)=L.drop (base+k+(p::m).length):=by rw[List.drop_set_of_lt (by omega),List.length_cons,show base+(k+1)+m.length=base+k+(m.length+1) by omega]
  rw[e1,e2];simp
theorem sT(m:List α)(a:Array α)(base:Nat)(h:base+m.length<=a.size) :
  (m.zipIdx.foldl (λ(l:Array α) (x:α×Nat)=>l.setIfInBounds (base+x.2) x.1) a)=(a.toList.take base++(m++a.toList.drop (base+m.length))).toArray:=by
 have main:∀ (zs:List (α×Nat)) (a:Array α),(zs.foldl (λ(l:Array α) (x:α×Nat)=>l.setIfInBounds (base+x.2) x.1) a).toList=zs.foldl (λ(l:List α) (x:α×Nat)=>l.set (base+x.2) x.1) a.toList:=by
  intro zs
  induction zs with
  | nil=>intro a;rfl
  | cons z zs ih=>intro a;rw[List.foldl_cons,List.foldl_cons,ih];simp
 apply Array.toList_inj.mp;rw[main,nc m a.toList base 0 (by simpa using h)];simp
end
section
variable {prog:Program}{w:World}{A:Around}{E:VP}{s:Shared}{st:SortSt}{κ:SortKind}{it:Array Keyed}{lt:Nat->Nat->Bool}{N:Nat}{L as bs R:List Nat}
theorem vB{o P:List Nat}{base:Nat}(h:base+o.length<=P.length) :
  ((ar it o).toList.zipIdx.foldl (λ(l:Array Keyed) (x:Keyed×Nat)=>l.setIfInBounds (base+x.2) x.1) (ar it P))=ar it (P.take base++(o++P.drop (base+o.length))):=by
 rw[sT _ _ _ (by simpa [ar] using h)];simp[ar,List.map_take,List.map_drop]
theorem fV{L as R:List Nat}{j:Nat}(h:j<as.length):(L++(as++R)).getD (L.length+j) 0=as.getD j 0:=by simp[List.getD_eq_getElem?_getD,List.getElem?_append_right,List.getElem?_append_left h]
structure Nb(lt:Nat->Nat->Bool)(N:Nat)(as bs:List Nat):Prop where
 w:dw lt
 sa:as.Pairwise (B lt)
 sb:bs.Pairwise (B lt)
 cr:∀ x∈as,∀ y∈bs,x<y
 na:∀ x∈as,x<N
 nb:∀ x∈bs,x<N
 a0:0<as.length
 b0:0<bs.length
theorem abN(hc:d9 prog w A s κ it lt N)(t:Nb lt N as bs)(hk:kindOf st=κ){Q:Option Nat->SortSt->Prop}
  (q:∀ k,k<=as.length->(∀ j,j<k->lt (bs.getD 0 0) (as.getD j 0)=false)->(k<as.length->lt (bs.getD 0 0) (as.getD k 0)=true)->Q (some k) st) :
  wpS (model prog w) A E s (dO false (kas_item it (bs.getD 0 0)) (ar it (L++(as++R))) L.length as.length 0) Q st:=by
 have b0:=t.b0;obtain⟨p,p1,p2⟩:=xT (λ i=>!lt (bs.getD 0 0) (as.getD i 0)) as.length λ i j hij hj e=>by
  have e:lt (bs.getD 0 0) (as.getD j 0)=false:=by simpa using e
  have:=t.w.tr _ _ _ ((pw_at t.sa hij hj).le t.w) e;show(!lt (bs.getD 0 0) (as.getD i 0))=true;rw[this];rfl
 refine cV (p:=p) t.a0 p1 (λ i hi R r=>?_) (q p p1 (λ j hj=>?_) λ hp=>?_)
 ·unfold cO;refine wpS_bind (cc (by simp;omega) ?_);rw[fV hi,if_neg (by decide)];refine wpS_bind (jC hc hk (t.nb _ (bj b0)) (t.na _ (bj hi)) (wpS_pure ?_));have:=p2 i hi;show R (some (!lt (bs.getD 0 0) (as.getD i 0))) st;rw[this];exact r
 ·have:=p2 j (by omega);rw[decide_eq_true hj] at this
  simpa using this
 ·have:=p2 p hp;rw[decide_eq_false (Nat.lt_irrefl _)] at this
  simpa using this
theorem abG(hc:d9 prog w A s κ it lt N)(t:Nb lt N as bs)(hk:kindOf st=κ){x:Nat}(hx:x∈as){Q:Option Nat->SortSt->Prop}
  (q:∀ k,k<=bs.length->(∀ j,j<k->lt (bs.getD j 0) x=true)->(∀ j,k<=j->j<bs.length->lt (bs.getD j 0) x=false)->Q (some k) st) :
  wpS (model prog w) A E s (dO true (kas_item it x) (ar it (L++(bs++R))) L.length bs.length (bs.length-1)) Q st:=by
 have b0:=t.b0;obtain⟨p,p1,p2⟩:=xT (λ i=>lt (bs.getD i 0) x) bs.length λ i j hij hj e => 
  t.w.yB ((pw_at t.sb hij hj).le t.w) e
 refine cV (p:=p) (by omega) p1 (λ i hi R r=>?_) (q p p1 (λ j hj=>?_) λ j hj hj2=>?_)
 ·unfold cO;refine wpS_bind (cc (by simp;omega) ?_);rw[fV hi,if_pos rfl];refine jC hc hk (t.nb _ (bj hi)) (t.na _ hx) ?_;have:=p2 i hi;rw[this];exact r
 ·have:=p2 j (by omega);rw[decide_eq_true hj] at this;exact this
 ·have:=p2 j hj2;rw[decide_eq_false (by omega)] at this;exact this
theorem zi(t:Nb lt N as bs){k m:Nat}{o:List Nat}(hk:k<=as.length)(hm:m<=bs.length)(k2:∀ j,j<k->lt (bs.getD 0 0) (as.getD j 0)=false)(m2:∀ j,m<=j->j<bs.length->lt (bs.getD j 0) (as.getD (as.length-1) 0)=false)
  (o1:o.Pairwise (B lt))(o2:o.Perm (as.drop k++bs.take m)):(as.take k++(o++bs.drop m)).Pairwise (B lt)/\(as.take k++(o++bs.drop m)).Perm (as++bs):=by
 have a0:=t.a0;have b0:=t.b0;have ca:∀ x∈as.take k,∀ y∈bs,B lt x y:=λ x hx y hy=>by obtain⟨j,j1,j2,rfl⟩:=gc (i:=0) (by simpa using hx);rw[Nat.zero_add] at j2 ⊢;have:=pw_head (i:=0) t.w t.sb b0 (B.of_le (k2 j j1) (t.cr _ (bj j2) _ (bj b0))) y;exact this (by simpa using hy)
 have cb:∀ y∈bs.drop m,∀ x∈as,B lt x y:=λ y hy x hx=>by
  obtain⟨j,j1,j2,rfl⟩:=gc (k:=bs.length) (show y∈(bs.drop m).take bs.length by rw[List.take_of_length_le (by simp)];exact hy);obtain⟨i,i1,e⟩:=List.mem_iff_getElem.mp hx;have e:as.getD i 0=x:=by rw[List.getD_eq_getElem?_getD,List.getElem?_eq_getElem i1];exact e
  rw[<- e];exact pw_le t.w t.sa (show i<=as.length-1 by omega) (by omega) (B.of_le (m2 _ (by omega) j2) (t.cr _ (bj (by omega)) _ (bj j2)))
 have pa:(as.take k++as.drop k).Pairwise (B lt):=by rw[List.take_append_drop];exact t.sa
 have pb:(bs.take m++bs.drop m).Pairwise (B lt):=by rw[List.take_append_drop];exact t.sb
 rw[List.pairwise_append] at pa pb;constructor
 ·rw[List.pairwise_append,List.pairwise_append];refine⟨pa.1,⟨o1,pb.2.1,λ x hx y hy=>?_⟩,λ x hx y hy=>?_⟩
  ·rcases List.mem_append.mp (o2.mem_iff.mp hx) with z | z
   ·exact cb y hy x (List.mem_of_mem_drop z)
   ·exact pb.2.2 x z y hy
  ·rcases List.mem_append.mp hy with z | z
   ·rcases List.mem_append.mp (o2.mem_iff.mp z) with z | z
    ·exact pa.2.2 x hx y z
    ·exact ca x hx y (List.mem_of_mem_take z)
   ·exact ca x hx y (List.mem_of_mem_drop z)
 ·refine(List.Perm.append_left _ (o2.append_right _)).trans (List.Perm.of_eq ?_);rw[List.append_assoc,List.take_append_drop,<- List.append_assoc,List.take_append_drop]
theorem xy{σ:Type}{M:Model}{st st2:σ}{Q:PUnit->σ->Prop}(h:∀ st0,st0=st2->Q ⟨⟩ st0):wpS M A E s (set st2:StateT σ Sem PUnit) Q st:=by
 unfold wpS;rw[StateT.run_set];exact wpAny_pure ⟨rfl,h _ rfl⟩
theorem nY(hc:d9 prog w A s κ it lt N)(t:Nb lt N as bs)(hk:kindOf st=κ)(hf:failedOf st=none)(ha:arrOf st=ar it (L++(as++(bs++R)))){i pw pw':Nat}
  (h1:(pendingOf st)[i]? =some (L.length,as.length,pw))(h2:(pendingOf st)[i+1]? =some (L.length+as.length,bs.length,pw')){Q:Bool->SortSt->Prop}
  (q:∀ st' o,PyProof.Rows.kindOf st'=κ->failedOf st'=none->arrOf st'=ar it (L++(o++R))->pendingOf st'=((pendingOf st).setIfInBounds i (L.length,as.length+bs.length,pw)).eraseIdxIfInBounds (i+1)->o.Pairwise (B lt)->o.Perm (as++bs)->Q true st') :
  wpS (model prog w) A E s (mergeAt' i) Q st:=by
 have b0:=t.b0;have a0:=t.a0;unfold mergeAt'
 walk_at "op_mergeAt"
 refine wpS_bind (wpS_get ?_)
 walk_at "whr"
 rw[h1,h2]
 walk_at "whr"
 refine wpS_bind (xy λ st0 e0=>?_);have k0:PyProof.Rows.kindOf st0=κ:=by rw[e0];exact hk
 have f0:failedOf st0=none:=by rw[e0];exact hf
 have a0':arrOf st0=ar it (L++(as++(bs++R))):=by rw[e0];exact ha
 have p0:pendingOf st0=((pendingOf st).setIfInBounds i (L.length,as.length+bs.length,pw)).eraseIdxIfInBounds (i+1):=by rw[e0]
 clear e0;dsimp only[PyProof.Rows.arrOf] at ha;rw[ha];have eb:(L++(as++(bs++R))).getD (L.length+as.length) 0=bs.getD 0 0:=by have:=fV (L:=L++as) (as:=bs) (R:=R) b0;rw[List.length_append,Nat.add_zero,List.append_assoc] at this;exact this
 refine wpS_bind (cc (by simp;omega) ?_);rw[eb];refine wpS_bind (abN hc t k0 λ k k1 k2 k3=>?_)
 walk_at "whr"
 split
 ·rename_i e
  have e:k=as.length:=by
   have:as.length-k=0:=by simpa using e
   omega
  have j3:=zi t (k:=k) (m:=0) (o:=[]) k1 (Nat.zero_le _) k2 (λ j _ hj=>?_) .nil (by rw[e];simp)
  ·rw[e] at j3;simp only[List.take_length,List.nil_append,List.drop_zero] at j3;refine wpS_pure (q _ (as++bs) k0 f0 ?_ p0 j3.1 j3.2);rw[a0',List.append_assoc]
  ·have k2':=k2 (as.length-1) (by omega);have:lt (bs.getD 0 0) (as.getD (as.length-1) 0)=false:=k2'
   by_cases z:j=0
   ·rw[z];exact this
   ·exact t.w.tr _ _ _ this ((pw_at t.sb (show 0<j by omega) hj).le t.w)
 ·rename_i e
  have e:¬ as.length-k=0:=by simpa using e
  have k3:=k3 (by omega);have ea:(L++(as++(bs++R))).getD (L.length+k+(as.length-k)-1) 0=as.getD (as.length-1) 0:=by rw[show L.length+k+(as.length-k)-1=L.length+(as.length-1) by omega];exact fV (by omega)
  refine wpS_bind (cc (by simp;omega) ?_);rw[ea];have eP:L++(as++(bs++R))=(L++as)++(bs++R):=by rw[List.append_assoc]
  have eL:L.length+as.length=(L++as).length:=by rw[List.length_append]
  have hla:as.getD (as.length-1) 0∈as:=bj (by omega);rw[show ar it (L++(as++(bs++R)))=ar it ((L++as)++(bs++R)) by rw[eP]];rw[eL];refine wpS_bind (abG hc t k0 hla λ m m1 m2 m3=>?_);have hm0:0<m:=by
   by_cases z:m=0
   ·exfalso
    have h0:=m3 0 (by omega) b0;have:lt (bs.getD 0 0) (as.getD (as.length-1) 0)=true:=by
     by_cases z:k=as.length-1
     ·rw[<- z];exact k3
     ·exact t.w.tI k3 ((pw_at t.sa (show k<as.length-1 by omega) (by omega)).le t.w)
    rw[this] at h0;cases h0
   ·omega
  walk_at "whr"
  split
  ·rename_i z
   have z:m=0:=by simpa using z
   omega
  ·walk_at "whr"
   have ex:(ar it ((L++as)++(bs++R))).extract (L.length+k) (L++as).length=ar it (as.drop k):=by rw[fZ,List.take_left' rfl,kK]
   have ey:(ar it ((L++as)++(bs++R))).extract (L++as).length ((L++as).length+m)=ar it (bs.take m):=by rw[mP,List.drop_left' rfl,List.take_append_of_le_length m1]
   rw[ex,ey];have T:Two lt N (as.drop k) (bs.take m):=by
    refine⟨t.w,t.sa.drop,t.sb.take,λ x hx y hy=>t.cr x (List.mem_of_mem_drop hx) y (List.mem_of_mem_take hy),λ x hx=>t.na x (List.mem_of_mem_drop hx),λ x hx=>t.nb x (List.mem_of_mem_take hx),by simp;omega,by simp;omega,?_,λ y hy=>?_⟩
    ·have a1:(bs.take m).getD 0 0=bs.getD 0 0:=by simp[List.getD_eq_getElem?_getD,List.getElem?_take,hm0]
     have a2:(as.drop k).getD 0 0=as.getD k 0:=by simp[List.getD_eq_getElem?_getD]
     rw[a1,a2];exact k3
    ·obtain⟨j,j1,j2,rfl⟩:=gc (i:=0) (by simpa using hy);have a2:(as.drop k).getD ((as.drop k).length-1) 0=as.getD (as.length-1) 0:=by simp only[List.getD_eq_getElem?_getD,List.getElem?_drop,List.length_drop];rw[show k+(as.length-k-1)=as.length-1 by omega]
     rw[a2,Nat.zero_add];exact m2 j j1
   extract_lets +onlyGivenNames -underBinder -merge jp
   have hjp:∀ out st2,Lk st0 st2->Rm it lt (as.drop k) (bs.take m) out->wpS (model prog w) A E s (jp out) Q st2:=by
    intro out st2 lk rm;unfold jp;obtain⟨o,rfl,o1,o2⟩:=rm
    walk_at "whr"
    refine wpS_bind (wpS_modify ?_);refine wpS_bind (wpS_get ?_)
    walk_at "whr"
    have e4:failedOf st2=none:=lk.f.trans f0;have e5:arrOf st2=ar it (L++(as++(bs++R))):=lk.a.trans a0';have ol:=o2.length_eq;simp only[List.length_append,List.length_drop,List.length_take] at ol;obtain⟨j1,j2⟩:=zi t k1 m1 k2 m3 o1 o2;rw[show(failedOf st2).isNone=true by rw[e4];rfl];refine wpS_pure (q _ _ (lk.k.trans k0) e4 ?_ (lk.p.trans p0) j1 j2);show((ar it o).toList.zipIdx.foldl (λ(l:Array Keyed) (x:Keyed×Nat)=>l.setIfInBounds (L.length+k+x.2) x.1) (arrOf st2))=_;rw[e5,vB (by simp;omega)];congr 1;have d1:(L++(as++(bs++R))).take (L.length+k)=L++as.take k:=by rw[oI,List.take_append_of_le_length k1]
    have d2:(L++(as++(bs++R))).drop (L.length+k+o.length)=bs.drop m++R:=by rw[ol,eP,show L.length+k+(as.length-k+min m bs.length)=(L++as).length+m by rw[List.length_append];omega,kK,List.drop_append_of_le_length m1]
    rw[d1,d2];simp
   clear_value jp
   split
   ·exact wpS_bind (oq hc T k0 λ out st' lk rm=>hjp out st' lk rm)
   ·exact wpS_bind (nS hc T k0 λ out st' lk rm=>hjp out st' lk rm)
end
open L2 S PySem.W
theorem kZ{α β:Type}(f:α->β):∀ (l:List α) (i:Nat),(l.eraseIdx i).map f=(l.map f).eraseIdx i
 | [],_=>rfl
 | _::_,0=>rfl
 | a::l,i+1=>by simp[List.eraseIdx_cons_succ,kZ f l i]
def pd:Nat->List (List Nat)->List (Nat×Nat)
 | _,[]=>[]
 | a,r::rs=>(a,r.length)::pd (a+r.length) rs
theorem nB:∀ (r1 r2:List (List Nat)) (a:Nat),pd a (r1++r2)=pd a r1++pd (a+r1.flatten.length) r2
 | [],_,a=>by simp[pd]
 | r::r1,r2,a=>by simp only[List.cons_append,pd,List.flatten_cons,List.length_append];rw[nB r1 r2,Nat.add_assoc]
theorem pQ:∀ (rs:List (List Nat)) (a:Nat),(pd a rs).length=rs.length
 | [],_=>rfl
 | r::rs,a=>by simp only[pd,List.length_cons,pQ rs]
structure Sr(κ:SortKind)(it:Array Keyed)(lt:Nat->Nat->Bool)(rs:List (List Nat))(T:List Nat)(st:SortSt):Prop where
 k:PyProof.Rows.kindOf st=κ
 f:failedOf st=none
 a:arrOf st=ar it (rs.flatten++T)
 p:(pendingOf st).toList.map (λ x=>(x.1,x.2.1))=pd 0 rs
 s:∀ r∈rs,0<r.length/\r.Pairwise (B lt)
 c:rs.Pairwise λ r1 r2=>∀ x∈r1,∀ y∈r2,x<y
 m:rs.flatten.Perm (List.range rs.flatten.length)
section
variable {prog:Program}{w:World}{A:Around}{E:VP}{s:Shared}{st:SortSt}{κ:SortKind}{it:Array Keyed}{lt:Nat->Nat->Bool}{N:Nat}{rs:List (List Nat)}{T:List Nat}
theorem Sr.pz(S:Sr κ it lt rs T st):(pendingOf st).size=rs.length:=by
 have:=congrArg List.length S.p
 simpa [pQ] using this
theorem ac7{i:Nat}(h:i+1<rs.length):∃ r1 as bs r2,rs=r1++as::bs::r2/\r1.length=i:=by refine⟨rs.take i,rs[i],rs[i+1],rs.drop (i+2),?_,by simp;omega⟩;rw[<- List.drop_eq_getElem_cons,<- List.drop_eq_getElem_cons,List.take_append_drop]
theorem iT(hc:d9 prog w A s κ it lt N)(wk:dw lt)(S:Sr κ it lt rs T st)(hN:rs.flatten.length<=N){i:Nat}(h:i+1<rs.length){Q:Bool->SortSt->Prop}
  (q:∀ rs' st',Sr κ it lt rs' T st'->rs'.length+1=rs.length->rs'.flatten.length=rs.flatten.length->Q true st'):wpS (model prog w) A E s (mergeAt' i) Q st:=by
 obtain⟨r1,as,bs,r2,rfl,hi⟩:=ac7 h;have mem:∀ r∈r1++as::bs::r2,∀ x∈r,x<N:=λ r hr x hx=>by have:x∈(r1++as::bs::r2).flatten:=List.mem_flatten.mpr ⟨r,hr,hx⟩;have:=S.m.mem_iff.mp this;rw[List.mem_range] at this;omega
 have sa:=S.s as (by simp);have sb:=S.s bs (by simp);have c:=S.c;rw[List.pairwise_append,List.pairwise_cons,List.pairwise_cons] at c;have t:Nb lt N as bs:=⟨wk,sa.2,sb.2,c.2.1.1 bs (by simp),mem as (by simp),mem bs (by simp),sa.1,sb.1⟩;have p:=S.p;rw[nB] at p;simp only[pd,Nat.zero_add] at p;have l1:(pd 0 r1).length=i:=by rw[pQ];exact hi
 have g1:=congrArg (·[i]?) p;have g2:=congrArg (·[i+1]?) p;rw[List.getElem?_append_right (by omega),l1,Nat.sub_self,List.getElem?_cons_zero,List.getElem?_map] at g1;rw[List.getElem?_append_right (by omega),l1,Nat.add_sub_cancel_left,List.getElem?_cons_succ,List.getElem?_cons_zero,List.getElem?_map] at g2;obtain⟨⟨s1,n1,w1⟩,e1,e1'⟩:=Option.map_eq_some_iff.mp g1;obtain⟨⟨s2,n2,w2⟩,e2,e2'⟩:=Option.map_eq_some_iff.mp g2;cases e1';cases e2';rw[Array.getElem?_toList] at e1 e2;have a:=S.a;have fl:(r1++as::bs::r2).flatten++T=r1.flatten++(as++(bs++(r2.flatten++T))):=by simp
 rw[fl] at a;refine nY hc t S.k S.f a e1 e2 λ st' o k f a' p' o1 o2=>q (r1++o::r2) st' ⟨k,f,?_,?_,λ r hr=>?_,?_,?_⟩ (by simp;omega) ?_
 ·rw[a'];simp
 ·rw[p',nB];simp only[Array.toList_setIfInBounds,Array.toList_eraseIdxIfInBounds,pd,Nat.zero_add];rw[kZ,List.map_set,p,List.set_append_right _ _ (by omega),l1,Nat.sub_self,List.set_cons_zero,List.eraseIdx_append_of_length_le (by omega),l1,Nat.add_sub_cancel_left,List.eraseIdx_cons_succ,List.eraseIdx_cons_zero];have ol:=o2.length_eq;rw[List.length_append] at ol;rw[ol,Nat.add_assoc]
 ·rcases List.mem_append.mp hr with z | z
  ·exact S.s r (by simp[z])
  ·rcases List.mem_cons.mp z with z | z
   ·subst z;have ol:=o2.length_eq;rw[List.length_append] at ol;exact⟨by have:=sa.1;omega,o1⟩
   ·exact S.s r (by simp[z])
 ·rw[List.pairwise_append,List.pairwise_cons];refine⟨c.1,⟨λ r hr x hx y hy=>?_,c.2.1.2.2⟩,λ r hr r' hr' x hx y hy=>?_⟩
  ·rcases List.mem_append.mp (o2.mem_iff.mp hx) with z | z
   ·exact c.2.1.1 r (by simp[hr]) x z y hy
   ·exact c.2.1.2.1 r hr x z y hy
  ·rcases List.mem_cons.mp hr' with z | z
   ·subst z;rcases List.mem_append.mp (o2.mem_iff.mp hy) with z | z
    ·exact c.2.2 r hr as (by simp) x hx y z
    ·exact c.2.2 r hr bs (by simp) x hx y z
   ·exact c.2.2 r hr r' (by simp[z]) x hx y hy
 ·have pp:(r1++o::r2).flatten.Perm (r1++as::bs::r2).flatten:=by simp only[List.flatten_append,List.flatten_cons];refine List.Perm.append_left _ ?_;rw[<- List.append_assoc];exact o2.append_right _
  rw[pp.length_eq];exact pp.trans S.m
 ·have ol:=o2.length_eq;simp only[List.length_append] at ol;simp;omega
theorem h8(a n:Nat):List.range (a+n)=List.range a++(List.range n).map (a + ·):=by rw[List.range_add]
theorem range_drop{a N:Nat}(h:a<=N):(List.range N).drop a=(List.range (N-a)).map (a + ·):=by rw[show N=a+(N-a) by omega,h8,List.drop_left' (by simp),show a+(N-a)-a=N-a by omega]
structure Nr(lt:Nat->Nat->Bool)(N lo n:Nat)(p:Array Nat)(r:List Nat):Prop where
 l:r.length=n
 s:r.Pairwise (B lt)
 e:p.toList.map (lo + ·)=r++(List.range N).drop (lo+n)
 p:r.Perm ((List.range n).map (lo + ·))
theorem xW{p:Array Nat}{n lo M:Nat}(hn:n<=M)(u:Un p M n)(pm:p.toList.Perm (List.range M))(up:Up (λ i j=>lt (lo+i) (lo+j)) p n):Nr lt (lo+M) lo n p ((p.toList.take n).map (lo + ·)):=by
 have hz:=u.size;have gt:∀ i,(h:i<p.size)->g p i=p.toList[i]'(by simpa using h):=λ i h=>by rw[nO];simp[h]
 have ed:p.toList.drop n=(List.range M).drop n:=by
  apply List.ext_getElem
  ·simp[hz]
  ·intro i h1 h2;simp only[List.length_drop,Array.length_toList] at h1;have:=u.hi (n+i) (by omega) (by omega);rw[gt _ (by omega)] at this;simp only[List.getElem_drop,List.getElem_range];exact this
 refine⟨by simp;omega,?_,?_,?_⟩
 ·rw[List.pairwise_map,List.pairwise_iff_getElem];intro i j hi hj hij;simp only[List.length_take,Array.length_toList] at hi hj;have:=up i j hij (by omega);rw[gt i (by omega),gt j (by omega)] at this;simp only[List.getElem_take];rcases this with z | ⟨z1,z2,z3⟩
  ·exact .inl z
  ·exact .inr ⟨z1,z2,by omega⟩
 ·rw[range_drop (show lo+n<=lo+M by omega),show lo+M-(lo+n)=M-n by omega];have:=congrArg (List.map (lo + ·)) ed;rw[range_drop hn,List.map_map] at this
  conv=>lhs;rw[<- List.take_append_drop n p.toList,List.map_append,this]
  congr 1;apply List.map_congr_left;intro x _;show lo+(n+x)=lo+n+x;omega
 ·refine List.Perm.map _ ?_;have e2:p.toList.take n++(List.range M).drop n=p.toList:=by rw[<- ed,List.take_append_drop]
  have e3:List.range n++(List.range M).drop n=List.range M:=by have:=List.take_append_drop n (List.range M);rw[List.take_range,Nat.min_eq_left hn] at this;exact this
  have:(p.toList.take n++(List.range M).drop n).Perm (List.range n++(List.range M).drop n):=by rw[e2,e3];exact pm
  exact(List.perm_append_right_iff _).mp this
end
open L2 S PySem.W
local macro_rules | `(tactic| walk_at "whr")=>`(tactic| ((repeat (extract_lets +onlyGivenNames -underBinder -merge a; (fail_if_success (have:_->_:=a));subst a)); (try dsimp (config:={zeta:=false,zetaHave:=false}) only); (repeat (extract_lets +onlyGivenNames -underBinder -merge a; (fail_if_success (have:_->_:=a));subst a))))
section
variable {prog:Program}{w:World}{A:Around}{E:VP}{s:Shared}{st:SortSt}{κ:SortKind}{it:Array Keyed}{lt:Nat->Nat->Bool}{N:Nat}{rs:List (List Nat)}{T:List Nat}
theorem oh{st:SortSt}{x:Array Keyed}(h:arrOf st=x):st=setArr st x:=by rw[<- h]
theorem Sr.more{r:List Nat}{lo n:Nat}{p:Array Nat}{st':SortSt}(S:Sr κ it lt rs (r++T) st)(hl:rs.flatten.length=lo)(h:Nr lt N lo n p r)(h1:1<=n)(hk:PyProof.Rows.kindOf st'=PyProof.Rows.kindOf st)(hf:failedOf st'=failedOf st)(ha:arrOf st'=arrOf st)
  (hp:(pendingOf st').toList.map (λ x=>(x.1,x.2.1))=(pendingOf st).toList.map (λ x=>(x.1,x.2.1))++[(lo,n)]):Sr κ it lt (rs++[r]) T st':=by
 refine⟨hk.trans S.k,hf.trans S.f,?_,?_,λ x hx=>?_,?_,?_⟩
 ·rw[ha,S.a];simp
 ·rw[hp,S.p,nB,hl,Nat.zero_add];simp[pd,h.l]
 ·rcases List.mem_append.mp hx with z | z
  ·exact S.s x z
  ·rw[List.mem_singleton] at z;subst z;exact⟨by rw[h.l];exact h1,h.s⟩
 ·rw[List.pairwise_append];refine⟨S.c,List.pairwise_singleton _ _,λ r1 hr1 r2 hr2 x hx y hy=>?_⟩;rw[List.mem_singleton] at hr2;subst hr2;have m1:=S.m.mem_iff.mp (List.mem_flatten.mpr ⟨r1,hr1,hx⟩);rw[List.mem_range,hl] at m1;obtain⟨j,_,rfl⟩:=List.mem_map.mp (h.p.mem_iff.mp hy);omega
 ·simp only[List.flatten_append,List.flatten_cons,List.flatten_nil,List.append_nil,List.length_append];rw[hl,h.l,h8];have m:=S.m;rw[hl] at m;exact m.append h.p
theorem iN{α β:Type}(f:α->α)(g:α->β)(h:∀ x,g (f x)=g x):∀ (l:List α) (i:Nat),(l.modify i f).map g=l.map g
 | [],0=>rfl
 | [],_+1=>rfl
 | a::l,0=>by simp[List.modify_cons,h]
 | a::l,i+1=>by simp[List.modify_cons,iN f g h l i]
theorem abr(b:Bool)(i:Nat):(if b=true then i-1 else i)<=i:=by split<;>omega
theorem nh{lo:Nat}(h:dw lt):dw λ i j=>lt (lo+i) (lo+j):=⟨λ a b=>h.xr _ _,λ a b c=>h.tr _ _ _⟩
theorem d9.shift{lo:Nat}(hc:d9 prog w A s κ it lt N)(hl:lo<=N):Ans prog w A E s κ (λ i=>kas_item it (lo+i)) (λ i j=>lt (lo+i) (lo+j)) (N-lo):=
 λ i j hi hj st R hk r=>jC hc hk (by omega) (by omega) r
theorem lU(hc:d9 prog w A s κ it lt N)(wk:dw lt)(hN:2<=N)(S:Sr κ it lt [] (List.range N) st){Q:Unit->SortSt->Prop}
  (q:∀ st' r,arrOf st'=ar it r->failedOf st'=none->r.Pairwise (B lt)->r.Perm (List.range N)->Q () st'):wpS (model prog w) A E s sortRuns' Q st:=by
 rw[sortRuns'_eq]
 walk_at "whr"
 refine wpS_bind (wpS_get ?_)
 walk_at "whr"
 have hz:(arrOf st).size=N:=by rw[S.a,jF];simp
 rw[hz];refine wpS_bind (wpS_mono (wpS_forRange (I:=λ x c st'=>c.1=none/\∃ rs,Sr κ it lt rs ((List.range N).drop rs.flatten.length) st'/\c.2=rs.flatten.length/\x<=rs.flatten.length/\rs.flatten.length<=N) (Q:=λ c st'=>c.1=none/\∃ rs,Sr κ it lt rs [] st'/\rs.flatten.length=N) ?_ ?_ ?_) ?_)
 ·rintro x ⟨c1,c2⟩ st1 _ hx ⟨e0,rs,S1,e1,h1,h2⟩;dsimp only at e0 e1;subst e0;rw[e1];clear e1 c2;generalize hlo:rs.flatten.length=lo at S1 h1 h2 ⊢
  walk_at "whr"
  split
  ·rename_i z
   refine wpS_pure ⟨rfl,rs,?_,by omega⟩;have:(List.range N).drop lo=[]:=by apply List.drop_eq_nil_of_le;rw[List.length_range];omega
   rw[this] at S1;exact S1
  ·rename_i z
   refine jf λ Q' q'=>?_;have ea:arrOf st1=ar it rs.flatten++(List.toArray (List.range (N-lo))).map (λ i=>kas_item it (lo+i)):=by rw[S1.a,range_drop h2];simp[ar]
   refine Eq.mpr (congrArg (wpS (model prog w) A E s _ _) (oh ea)) ?_;have hpre:(ar it rs.flatten).size=lo:=by rw[jF];exact hlo
   have A1:Ans prog w A E s κ (λ i=>kas_item it (lo+i)) (λ i j=>lt (lo+i) (lo+j)) (N-lo):=hc.shift h2;have b1:Bd (N-lo) (List.toArray (List.range (N-lo))):=⟨by simp,λ x hx=>by simpa using hx⟩;have eg:∀ i,i<N-lo->g (List.toArray (List.range (N-lo))) i=i:=λ i hi=>by rw[nO];simp[hi]
   obtain⟨d1,d2,d3,d4,d5⟩:=mY (nh (lo:=lo) wk) (show 1<=N-lo by omega) (p:=List.toArray (List.range (N-lo))) ⟨by simp,λ i hi=>by rw[eg i (by omega)];exact hi,λ i _ hi=>eg i hi⟩ (by simp);refine wpS_bind (aao A1 S1.k hpre b1 (by omega) ?_);generalize go (λ i j=>lt (lo+i) (lo+j)) (kas_count (N-lo) (List.toArray (List.range (N-lo))))=mp at d1 d2 d3 d4 d5 ⊢;obtain⟨m,p2⟩:=mp;dsimp only at d1 d2 d3 d4 d5
   walk_at "whr"
   extract_lets +onlyGivenNames -underBinder -merge jp
   have hjp:∀ u n p3,1<=n->n<=N-lo->Un p3 (N-lo) n->p3.toList.Perm (List.range (N-lo))->Up (λ i j=>lt (lo+i) (lo+j)) p3 n->wpS (model prog w) A E s (jp u n) Q' (sA st1 (ar it rs.flatten) (λ i=>kas_item it (lo+i)) p3):=by
    clear d1 d2 d3 d4 d5 m p2;intro u n p3 d1 d2 d3 d4 d5;unfold jp
    walk_at "whr"
    have nr:=xW (lt:=lt) (lo:=lo) d2 d3 d4 d5;rw[show lo+(N-lo)=N by omega] at nr;generalize (p3.toList.take n).map (lo + ·)=r at nr;have S2:Sr κ it lt rs (r++(List.range N).drop (lo+n)) (sA st1 (ar it rs.flatten) (λ i=>kas_item it (lo+i)) p3):=by
     refine⟨S1.k,S1.f,?_,S1.p,S1.s,S1.c,S1.m⟩;show ar it rs.flatten++p3.map (λ i=>kas_item it (lo+i))=_;have:p3.map (λ i=>kas_item it (lo+i))=ar it (r++(List.range N).drop (lo+n)):=by rw[<- nr.e];simp[ar,Function.comp_def];apply Array.toList_inj.mp;simp
     rw[this,cU]
    generalize sA st1 (ar it rs.flatten) (λ i=>kas_item it (lo+i)) p3=st2 at S2;refine wpS_bind (wpS_get ?_)
    walk_at "whr"
    extract_lets +onlyGivenNames -underBinder -merge jp
    have hjp:∀ u rs2 st3,Sr κ it lt rs2 (r++(List.range N).drop (lo+n)) st3->rs2.flatten.length=lo->wpS (model prog w) A E s (jp u) Q' st3:=by
     intro u rs2 st3 S3 h3;unfold jp
     walk_at "whr"
     refine wpS_bind (wpS_modify ?_)
     walk_at "whr"
     have fl:(rs2++[r]).flatten.length=lo+n:=by simp only[List.flatten_append,List.flatten_cons,List.flatten_nil,List.append_nil,List.length_append,h3,nr.l]
     refine wpS_pure (q' _ _ ⟨rfl,rs2++[r],?_,?_,?_,?_⟩)
     ·rw[fl];exact S3.more h3 nr d1 rfl rfl rfl (by show((pendingOf st3).push (lo,n,0)).toList.map _=_;simp)
     ·rw[fl]
     ·rw[fl];omega
     ·rw[fl];omega
    clear_value jp
    split
    ·rename_i s1 n1 _ _
     walk_at "whr"
     refine wpS_bind (wpS_mono (wpS_forRange (I:=λ x c st'=>c.1=none/\∃ rs2,Sr κ it lt rs2 (r++(List.range N).drop (lo+n)) st'/\rs2.flatten.length=lo) (Q:=λ c st'=>c.1=none/\∃ rs2,Sr κ it lt rs2 (r++(List.range N).drop (lo+n)) st'/\rs2.flatten.length=lo) ?_ (λ _ _ h=>h) ⟨rfl,rs,S2,hlo⟩) ?_)
     ·rintro x2 c st3 _ _ ⟨e3,rs2,S3,h3⟩
      walk_at "whr"
      refine wpS_bind (wpS_get ?_)
      walk_at "whr"
      split
      ·rename_i e4
       split at e4
       ·rename_i e5
        split
        ·exact wpS_pure ⟨rfl,rs2,S3,h3⟩
        ·refine wpS_bind (iT hc wk S3 (by omega) (by have:=S3.pz;omega) λ rs4 st4 S4 _ h4=>?_)
         walk_at "whr"
         rw[if_neg (by decide)];exact wpS_pure ⟨rfl,rs4,S4,h4.trans h3⟩
       ·cases e4
      ·exact wpS_pure ⟨rfl,rs2,S3,h3⟩
     ·rintro c st3 ⟨e3,rs2,S3,h3⟩
      walk_at "whr"
      rw[e3]
      walk_at "whr"
      refine wpS_bind (wpS_modify ?_);refine hjp _ rs2 _ ⟨S3.k,S3.f,S3.a,?_,S3.s,S3.c,S3.m⟩ h3;rw[<- S3.p];show((pendingOf st3).modify _ _).toList.map _=_;rw[Array.toList_modify];refine iN _ _ ?_ _ _;intro x;rfl
    ·exact hjp _ rs _ S2 hlo
   clear_value jp
   split
   ·rename_i z2
    refine wpS_bind (wpS_lift (wpAny_rule ⟨rfl,?_⟩))
    walk_at "whr"
    have bp:Bd (N-lo) p2:=⟨d3.size,λ x hx=>by simpa using d4.mem_iff.mp hx⟩;refine wpS_bind (ac0 A1 S1.k hpre bp (Nat.min_le_left _ _) ?_)
    walk_at "whr"
    rw[if_neg (by decide)]
    walk_at "whr"
    have em:max m 1=m:=by omega
    rw[em];have hf:m+(min (N-lo) (minRun' N N 0)-m)=min (N-lo) (minRun' N N 0):=by omega
    have o1:=pE (nh (lo:=lo) wk) (min (N-lo) (minRun' N N 0)-m) p2 m (by omega) d3 d4 d5;have o2:=uJ (λ i j=>lt (lo+i) (lo+j)) (min (N-lo) (minRun' N N 0)-m) p2 m (by omega) d3;rw[hf] at o1 o2;exact hjp _ _ _ (by omega) (by omega) o2 o1.1 o1.2
   ·exact hjp _ _ _ d1 d2 d3 d4 d5
 ·rintro⟨c1,c2⟩ st1 ⟨e0,rs,S1,e1,h1,h2⟩;refine⟨e0,rs,?_,by omega⟩;have:(List.range N).drop rs.flatten.length=[]:=by apply List.drop_eq_nil_of_le;rw[List.length_range];omega
  rw[this] at S1;exact S1
 ·exact⟨rfl,[],S,rfl,Nat.zero_le _,Nat.zero_le _⟩
 ·rintro⟨c1,c2⟩ st1 ⟨e0,rs,S1,e1⟩;dsimp only at e0;subst e0
  walk_at "whr"
  have hlen:rs.length<=N:=by
   rw[<- e1];have:∀ l:List (List Nat),(∀ r∈l,0<r.length)->l.length<=l.flatten.length:=by
    intro l
    induction l with
    | nil=>intro _;exact Nat.le_refl _
    | cons r l ih =>
     intro h;have h1:=h r (by simp);have h2:=ih λ r hr=>h r (by simp[hr]);simp only[List.length_cons,List.flatten_cons,List.length_append];omega
   exact this rs λ r hr=>(S1.s r hr).1
  refine wpS_bind (wpS_mono (wpS_forRange (I:=λ x c st'=>c.1=none/\∃ rs2,Sr κ it lt rs2 [] st'/\rs2.flatten.length=N/\rs2.length+x<=N) (Q:=λ c st'=>c.1=none/\∃ rs2,Sr κ it lt rs2 [] st'/\rs2.flatten.length=N/\rs2.length<=1) ?_ ?_ ⟨rfl,rs,S1,e1,by omega⟩) ?_)
  ·rintro x2 c st3 _ _ ⟨e3,rs2,S3,h3,h3'⟩
   walk_at "whr"
   refine wpS_bind (wpS_get ?_)
   walk_at "whr"
   have pz:=S3.pz
   split
   ·rename_i z
    exact wpS_pure ⟨rfl,rs2,S3,h3,by omega⟩
   ·rename_i z
    walk_at "whr"
    refine wpS_bind (iT hc wk S3 (by omega) (Nat.lt_of_le_of_lt (Nat.add_le_add_right (abr _ _) 1) (by omega)) λ rs4 st4 S4 h5 h4=>?_)
    walk_at "whr"
    rw[if_neg (by decide)];exact wpS_pure ⟨rfl,rs4,S4,h4.trans h3,by omega⟩
  ·rintro c st3 ⟨e3,rs2,S3,h3,h3'⟩;exact⟨e3,rs2,S3,h3,by omega⟩
  ·rintro c st3 ⟨e3,rs2,S3,h3,h3'⟩
   walk_at "whr"
   rw[e3]
   walk_at "whr"
   match rs2,h3,h3',S3 with
   | [],h3,_,_=>simp at h3;omega
   | [r],h3,_,S3 =>
    simp at h3;refine wpS_pure (q _ r ?_ S3.f (S3.s r (by simp)).2 ?_)
    ·rw[S3.a];simp
    ·have:=S3.m
     simpa [h3] using this
   | _::_::_,_,h,_=>simp at h
end
end Sw
namespace S
open PySem PySem.W PyProof.Rows
section
variable {prog:Program}{w:World}{A:Around}{E:VP}{s:Shared}
theorem B.xr{lt:Nat->Nat->Bool}(h:dw lt){a b:Nat}(q:B lt a b)(r:B lt b a):False:=by
 rcases q with q | ⟨q1,q2,q3⟩
 ·rcases r with r | ⟨r1,r2,r3⟩
  ·have:=h.xr _ _ q;rw[r] at this;cases this
  ·rw[q] at r2;cases r2
 ·rcases r with r | ⟨r1,r2,r3⟩
  ·rw[r] at q2;cases q2
  ·omega
theorem abE{lt:Nat->Nat->Bool}(h:dw lt):∀ {as bs:List Nat},as.Perm bs->as.Pairwise (B lt)->bs.Pairwise (B lt)->as=bs:=λ p q r =>
 List.Perm.eq_of_pairwise (λ _ _ _ _ x y=>(B.xr h x y).elim) q r p
theorem qI{κ:SortKind}{ks vs:List Value}{lt:Nat->Nat->Bool}(hl:ks.length=vs.length)(h2:2<=vs.length)(wk:dw lt)
  (hc:∀ i j,i<vs.length->j<vs.length->∀ (C:Bool->Shared->Prop),C (lt i j) s->kas_ask prog w A κ ks i j C s) :
  wpAny (model prog w) A ((sortRuns').run (SortSt.mk' κ (ks.toArray.zip vs.toArray) #[] 7 none)) (λ r s'=>s'=s/\failedOf r.2=none/\(arrOf r.2).map (·.2)=List.toArray ((ba lt vs.length).map λ i=>vs.getD i Value.none)/\(ba lt vs.length).length=vs.length) E s:=by
 rw[kat_ask_eq hl] at hc;have e:=kas_range (ks.toArray.zip vs.toArray);rw[show(ks.toArray.zip vs.toArray).size=vs.length by simp[hl]] at e;have S0:Sw.Sr κ (ks.toArray.zip vs.toArray) lt [] (List.range vs.length) (SortSt.mk' κ (ks.toArray.zip vs.toArray) #[] 7 none):=by refine⟨rfl,rfl,?_,rfl,λ _ h=>by simp at h,List.Pairwise.nil,by simp⟩;show ks.toArray.zip vs.toArray=_;refine e.symm.trans ?_;unfold Sw.ar;rw[List.map_toArray];rfl
 have main:=Sw.lU (prog:=prog) (w:=w) (A:=A) (E:=E) (s:=s) hc wk h2 S0 (Q:=λ _ st'=>failedOf st'=none/\(arrOf st').map (·.2)=List.toArray ((ba lt vs.length).map λ i=>vs.getD i Value.none)/\(ba lt vs.length).length=vs.length) λ st' r ha hf hp hr=>by
  obtain⟨o1,o2⟩:=dX wk vs.length;have er:r=ba lt vs.length:=abE wk (hr.trans o1.symm) hp o2;refine⟨hf,?_,by have:=o1.length_eq;simpa using this⟩;rw[<- er];have:=kat_snds (ks:=ks) (vs:=vs) hl (st:=st') (p:=r.toArray) (by rw[ha];simp[Sw.ar])
  simpa using this
 exact wpAny_mono main (λ r s' h=>h) λ _ _ e=>e
theorem ot{a:Addr}{vs:List Value}{n:Nat}{κ:SortKind}{lt:Nat->Nat->Bool}{P:PySem.Fin->Shared->Prop}(ho:s.heap.get? a=some (seqObj "list" vs.toArray n))(wk:dw lt)(h64:vs.length<=1000)
  (hk:2<=vs.length->∀ (Q:SortKind->Shared->Prop),Q κ {s with heap:=cM s.heap a vs}->wpAny (model prog w) A (keyKind' vs.toArray) Q E {s with heap:=cM s.heap a vs})
  (hc:∀ i j,i<vs.length->j<vs.length->∀ (C:Bool->Shared->Prop),C (lt i j) {s with heap:=cM s.heap a vs}->kas_ask prog w A κ vs i j C {s with heap:=cM s.heap a vs})
  (h:P (.done (.ret .none)) {s with heap:=sortedHeap s.heap a vs ((ba lt vs.length).map λ i=>vs.getD i Value.none).toArray}) :
  wpAny (model prog w) A (Builtin.«list.sort» ⟨[.ref a],[]⟩) P E s:=by
 have hz:vs.toArray.size=vs.length:=by simp
 obtain⟨e1,o1,o2⟩:=nT (vs:=vs) ho;rw[list_sort_plain];refine wpAny_bind (listItems_at ho rfl (wpAny_bind (listUpdate_at ho rfl (wpAny_bind (seqEpoch_at o1 rfl (wpAny_bind (wpAny_newTuple (wpAny_bind (wpAny_newList (wpAny_holding ?_))))))))));show wpAny _ _ _ P E {s with heap:=cM s.heap a vs};dsimp only;have fits:∀ {p:Array Nat},p.size=vs.length->(List.toArray (p.toList.map λ i=>vs.getD i Value.none)).size<=sizeLine+1:=λ {p} hp=>by rw[List.size_toArray,List.length_map,Array.length_toList,hp,sizeLine_eq];omega
 by_cases h2:vs.length<2
 ·rw[if_pos (by rw[hz];exact h2),if_pos (by rw[hz];exact h2)];refine wpAny_bind (wpAny_pure ?_);rw[StateT.run_pure];refine wpAny_bind (wpAny_pure ?_);dsimp only;have out:=kat_snds (ks:=vs) (vs:=vs) rfl (st:=SortSt.mk' general' (vs.toArray.zip vs.toArray) #[] 7 none) (p:=List.toArray (List.range vs.length)) (by have e:=kas_range (vs.toArray.zip vs.toArray);rw[show(vs.toArray.zip vs.toArray).size=vs.length by simp] at e;exact e.symm)
  rw[out];refine wpAny_bind (seqEpoch_at o2 rfl (wpAny_bind (listUpdate_at o2 rfl ?_ (hsz2:=fits (by simp)))));simp only[bne_self_eq_false,Bool.false_eq_true,if_false];unfold ba at h;rw[if_pos h2] at h;exact wpAny_pure h
 ·rw[if_neg (by rw[hz];exact h2),if_neg (by rw[hz];exact h2)];refine wpAny_bind (hk (by omega) _ (wpAny_bind (wpAny_mono (qI (ks:=vs) (vs:=vs) rfl (by omega) wk hc) ?_ λ _ _ e=>e)))
  ·rintro⟨⟨⟩,st'⟩ s' ⟨rfl,hf,har,hln⟩;dsimp only;rw[har];refine wpAny_bind (seqEpoch_at o2 rfl (wpAny_bind (listUpdate_at o2 rfl ?_ (hsz2:=by rw[List.size_toArray,List.length_map,hln,sizeLine_eq];omega))));rw[hf];simp only[bne_self_eq_false,Bool.false_eq_true,if_false];exact wpAny_pure h
theorem kB{l:Addr}{vs:List Value}{κ:SortKind}{lt:Nat->Nat->Bool}{Q:VP}(hl:s.heap.IsList l vs.toArray)(wk:dw lt)(h64:vs.length<=1000)
  (hk:∀ (A':Around) (h':Heap),(∀ b o,s.heap.get? b=some o->h'.get? b=some o)->2<=vs.length->∀ (Q':SortKind->Shared->Prop) E',Q' κ {s with heap:=h'}->wpAny (model prog w) A' (keyKind' vs.toArray) Q' E' {s with heap:=h'})
  (hc:∀ (A':Around) (h':Heap),(∀ b o,s.heap.get? b=some o->h'.get? b=some o)->∀ i j,i<vs.length->j<vs.length->∀ (C:Bool->Shared->Prop),C (lt i j) {s with heap:=h'}->kas_ask prog w A' κ vs i j C {s with heap:=h'})
  (h:Q (.ref (s.heap.objs.size+1)) {s with heap:=sortedAll s.heap vs ((ba lt vs.length).map λ i=>vs.getD i Value.none).toArray}) :
  wpAny (model prog w) A (call (.builtin "sorted") [.ref l]) Q E s:=by
 refine Calls.call_function_entry kind_sorted plain_sorted entry_sorted (args_sorted1 _) ?_;unfold Builtin.«sorted»;refine wpAny_bind (m:=checkCount "sorted" 1 1 _) (wpAny_pure (wpAny_bind (collect_list hl (wpAny_bind (wpAny_newList ?_)) (by rw[sizeLine_eq];omega))));have at1:(dH s.heap vs).get? (s.heap.objs.size+1)=some (seqObj "list" vs.toArray 0):=by
  unfold dH;rw[<- dq (h:=s.heap) (vs:=vs)];exact Heap.get?_push_size _ rfl
 show wpAny _ _ _ _ _ {s with heap:=dH s.heap vs};rw[dq];have old:∀ b o,s.heap.get? b=some o->(cM (dH s.heap vs) (s.heap.objs.size+1) vs).get? b=some o:=λ b o e=>lB (iK e) (Nat.ne_of_lt (Nat.lt_succ_of_lt (Heap.lt_size e)));refine wpAny_bind (wpAny_holding (wpAny_call_entry slot_list_sort ⟨_,at1,rfl⟩ entry_list_sort (ot (κ:=κ) (lt:=lt) (s:={s with heap:=dH s.heap vs}) at1 wk h64 (λ h2 Q' q=>hk _ _ old h2 Q' _ q) (λ i j hi hj C q=>hc _ _ old i j hi hj C q) ⟨_,rfl,wpAny_pure ⟨_,rfl,h⟩⟩) (args_list_sort _)))
end
end S
namespace D
open L2 S
section
variable {X:Cx}{K:FG}
theorem kL:eA X (.builtin "sorted") (λ xs H Q=>∃ p vs rows t sh,xs=[.ref p]/\SqL X.K H p vs/\aV X.K H (rows.map PyData.tuple) vs/\(∀ r∈rows,Shape (t::sh) r)/\rows.length<=1000 /\
  ∀ l,H l=none->Q (.ref l) (upd H l (.lst ((ba (λ i j=>bT (rowAt rows i) (rowAt rows j)) rows.length).map λ i=>vs.getD i .non)))):=by
 intro pins s σ H xs us Q I r h;obtain⟨p,vs,rows,t,sh,rfl,hq,ra,hs,hz,q⟩:=h;obtain⟨u,rfl,rx⟩:=vals1 r;cases rx;obtain⟨its,rv,pl,_⟩:=I.list hq;have hl:=rv.length;have hl2:=ra.length;rw[List.length_map] at hl2;have R:=qa I hs ra rv;have wk:dw λ i j=>bT (rowAt rows i) (rowAt rows j):=by
  by_cases z:rows=[]
  ·subst z;exact⟨λ a b h=>by simp[rowAt,bT] at h,λ a b c _ _=>by simp[rowAt,bT]⟩
  ·exact dP z hs
 refine kB (κ:=tuples' true) (lt:=λ i j=>bT (rowAt rows i) (rowAt rows j)) pl.isList wk (by omega) (λ A' h' k h2 Q' E' q'=>?_) (λ A' h' k i j hi hj C c=>?_) ?_
 ·obtain⟨fs,t1,t2,t3⟩:=dA.mE (R.keep k);cases t with
  | true=>exact W.kat_kind (s:={s with heap:=h'}) (T:=.type "str") t1 (by omega) (λ v hv=>by rcases t3 v hv with ⟨_,x,k,rfl⟩ | ⟨e,_⟩;exact .now;cases e) rfl q'
  | false=>exact W.kat_kind (s:={s with heap:=h'}) (T:=.type "int") t1 (by omega) (λ v hv=>by rcases t3 v hv with ⟨e,_⟩ | ⟨_,x,k,rfl⟩;cases e;exact .now) rfl q'
 ·obtain⟨a,oa,xa,na,e1,g1,c1,d1,s1,w1⟩:=(R.keep k).get i (by omega);obtain⟨b,ob,xb,nb,e2,g2,c2,d2,s2,w2⟩:=(R.keep k).get j (by omega);unfold W.kas_ask;rw[e1,e2];refine W.kat_lt (s:={s with heap:=h'}) g1 d1 g2 d2 ?_;have hn:decide (xa.size<xb.size)=false:=by have z1:=sy.len w1;have z2:=sy.len w2;rw[eV s1] at z1;rw[eV s2] at z2;simp only[Array.length_toList] at z1 z2;simp;omega
  rw[hn];exact oN 0 _ s1 s2 w1 w2 c
 ·obtain⟨n,e⟩:=sortedAll_at s.heap its ((ba (λ i j=>bT (rowAt rows i) (rowAt rows j)) its.length).map λ i=>its.getD i Value.none).toArray;have hfr:H (s.heap.objs.size+1)=none:=I.hok.fresh (Nat.le_succ _);have hlen:its.length=rows.length:=by omega
  rw[hlen] at e;rw[hlen];have olen:(ba (λ i j=>bT (rowAt rows i) (rowAt rows j)) rows.length).length<=1000:=by
   by_cases z:rows=[]
   ·subst z;simp[ba]
   ·have:=(dX (dP z hs) rows.length).1.length_eq;rw[List.length_range] at this;omega
  refine⟨.ref _,_,I.laid (a:=s.heap.objs.size+1) (o:=.lst ((ba (λ i j=>bT (rowAt rows i) (rowAt rows j)) rows.length).map λ i=>vs.getD i .non)) (t':=s.toks) (λ b o z=>sortedAll_old z) (Nat.le_succ _) ⟨?_,_,n,?_,e⟩,rfl,q _ hfr⟩
  ·rw[List.length_map];have:=s16;omega
  ·have main:∀ is:List Nat,(∀ i∈is,i<rows.length)->Vals (is.map λ i=>vs.getD i .non) (is.map λ i=>its.getD i Value.none):=by
    intro is
    induction is with
    | nil=>intro _;exact .nil
    | cons i is ih =>
     intro hi;refine .cons ?_ (ih λ j hj=>hi j (by simp[hj]));have h1:=hi i (by simp);obtain⟨u,e1,e2⟩:=Vals.get (i:=i) (x:=vs.getD i .non) rv (by simp[List.getD_eq_getElem?_getD,List.getElem?_eq_getElem (show i<vs.length by omega)]);have e3:its.getD i Value.none=u:=by rw[List.getD_eq_getElem?_getD,e1];rfl
     show RelV (vs.getD i .non) (its.getD i Value.none);rw[e3];exact e2
   refine main _ λ i hi=>?_
   by_cases z:rows=[]
   ·subst z;simp[ba] at hi
   ·simpa using (dX (dP z hs) rows.length).1.mem_iff.mp hi
def ma(ws:List W)(M:MH)(Q:QD):Prop:=∃ w rows t sh,ws=[w]/\yR M w (rows.map PyData.tuple)/\(∀ r∈rows,Shape (t::sh) r)/\rows.length<=1000/\∀ rows',rows'.Perm rows->(rows'.Pairwise λ x y=>bT y x=false)->∀ p,M p=none->Q (.m p) (aT M p (.lst (nK rows')))
theorem tZ:fc K (λ xs H Q=>∃ p vs rows t sh,xs=[.ref p]/\SqL K H p vs/\aV K H (rows.map PyData.tuple) vs/\(∀ r∈rows,Shape (t::sh) r)/\rows.length<=1000 /\
  ∀ l,H l=none->Q (.ref l) (upd H l (.lst ((ba (λ i j=>bT (rowAt rows i) (rowAt rows j)) rows.length).map λ i=>vs.getD i .non)))) ma:=by
 intro vs H ws M Qd Q r m ⟨w,rows,t,sh,e,g,hs,hz,q⟩ k;subst e;obtain⟨v,e1,r1⟩:=hE r;obtain⟨p,ys,ev,hq,ra⟩:=g.sound r1 m;subst ev;refine⟨p,ys,rows,t,sh,e1,hq,ra,hs,hz,λ l hl=>?_⟩;have hl2:=ra.length;rw[List.length_map] at hl2;obtain⟨pp,pw⟩:((ba (λ i j=>bT (rowAt rows i) (rowAt rows j)) rows.length).map (rowAt rows)).Perm rows/\((ba (λ i j=>bT (rowAt rows i) (rowAt rows j)) rows.length).map (rowAt rows)).Pairwise λ x y=>bT y x=false:=by
  by_cases z:rows=[]
  ·subst z;simp[ba]
  ·exact sU z hs
 have mem:∀ i∈ba (λ i j=>bT (rowAt rows i) (rowAt rows j)) rows.length,i<rows.length:=λ i hi=>by
  by_cases z:rows=[]
  ·subst z;simp[ba] at hi
  ·simpa using (dX (dP z hs) rows.length).1.mem_iff.mp hi
 generalize ba (λ i j=>bT (rowAt rows i) (rowAt rows j)) rows.length=is at pp pw mem;have kp:Kp H (upd H l (.lst (is.map λ i=>ys.getD i .non))):=Kp.new hl;refine k _ _ (.m l) _ kp rfl (m.put (mo:=.lst (nK (is.map (rowAt rows)))) kp ⟨_,av,?_⟩) (q _ pp pw l (m.free hl));clear pp pw
 induction is with
 | nil=>exact .nil
 | cons i is ih =>
  have hi:=mem i (by simp);obtain⟨v,e1,e2⟩:=ra.get (i:=i) (d:=.tuple (rowAt rows i)) (by rw[List.getElem?_map,List.getElem?_eq_getElem hi];simp[rowAt,List.getD_eq_getElem?_getD,List.getElem?_eq_getElem hi])
  have e3:ys.getD i .non=v:=by rw[List.getD_eq_getElem?_getD,e1];rfl
  refine .cons ?_ ?_
  ·show aI K _ (.d (.tuple (rowAt rows i))) (ys.getD i .non);rw[e3];exact aD.keep kp e2
  ·have:=ih (λ j hj=>mem j (by simp[hj])) (Kp.new hl);exact Paired.fw this λ a b z=>aI.keep ⟨λ b' xs' e'=>by
    by_cases y:b'=l
    ·subst y;rw[av] at e';cases e'
    ·rw[aj y] at e' ⊢;exact e',λ b' o' u' e'=>by
    by_cases y:b'=l
    ·subst y;rw[av] at e';cases e'
    ·rw[aj y] at e' ⊢;exact e'⟩ z
end
open PySem.W
section
variable {X:Cx}{pins:PN}{σ:St}{f a kS:Addr}{xs:List V}{us:List Value}{e1:Nat}
theorem k9{E:VP}(Wt:Nat->List V->Hp->Prop)(hak:a≠kS)(fA:∀ H:Hp,H a=none->fU X pins H a)(fS:∀ H:Hp,H kS=none->fU X pins H kS)(rx:Vals xs us)(h64:us.length<=1000)
  (turn:∀ (i:Nat) (ys:List V) (v:V) (u:Value) (pl:PN) (H:Hp) (s:Shared),xs[i]? =some v->RelV v u->Wt i ys H->Inv X pl σ H s->wpAny (model X.prog X.w) X.A (call (.ref f) [u]) (EP X pl σ λ y H'=>Wt (i+1) (ys++[y]) H') (λ _ _=>False) s)
  {body:Value->PUnit->Sem (ForInStep PUnit)}
  (hb:∀ x ks e (s:Shared) (C:VP),List.length ks<=1000->wpAny (model X.prog X.w) X.A (call (.ref f) [x]) (λ k s2=>s2.heap.get? kS=some (seqObj "list" (List.toArray ks) e)/\∀ h' c,Heap.SameBut kS s2.heap h'->h'.get? kS=some (seqObj "list" (List.toArray (ks++[k])) c)->C k {s2 with heap:=h'}) (λ _ _=>False) s ->
   wpAny (model X.prog X.w) X.A (body x ⟨⟩) (λ r s'=>r=.yield ⟨⟩/\∃ k c,s'.heap.get? kS=some (seqObj "list" (List.toArray (ks++[k])) c)/\C k s') E s) :
  ∀ (r:List Value) (i:Nat) (ys:List V) (ks:List Value) (e:Nat) (H:Hp) (s:Shared),us.drop i=r->i<=us.length->Vals ys ks->ks.length=i->Wt i ys H->Inv X pins σ H s->H a=none->H kS=none->s.heap.get? a=some (seqObj "list" #[] e1)->s.heap.get? kS=some (seqObj "list" (List.toArray ks) e) ->
   wpAny (model X.prog X.w) X.A (forIn r PUnit.unit body) (λ _ s'=>∃ ys ks e H,Vals ys ks/\ks.length=us.length/\Wt us.length ys H/\Inv X pins σ H s'/\H a=none/\H kS=none/\s'.heap.get? a=some (seqObj "list" #[] e1)/\s'.heap.get? kS=some (seqObj "list" (List.toArray ks) e)) E s
 | [],i,ys,ks,e,H,s,hr,hi,rv,hl,hW,I,na,nk,ga,gk=>by
  rw[List.forIn_nil];have:us.length<=i:=by have:=congrArg List.length hr;rw[List.length_drop] at this;simp at this;omega
  have ei:i=us.length:=by omega
  exact wpAny_pure ⟨ys,ks,e,H,rv,by omega,by rw[<- ei];exact hW,I,na,nk,ga,gk⟩
 | x::r,i,ys,ks,e,H,s,hr,hi,rv,hl,hW,I,na,nk,ga,gk=>by
  have hlt:i<us.length:=by have:=congrArg List.length hr;rw[List.length_drop] at this;simp at this;omega
  have hx:us[i]? =some x:=by
   have:=congrArg (·[0]?) hr
   simpa using this
  have hr':us.drop (i+1)=r:=by
   have:=congrArg List.tail hr
   simpa using this
  obtain⟨v,hv,ru⟩:∃ v,xs[i]? =some v/\RelV v x:=by obtain⟨v,hv⟩:∃ v,xs[i]? =some v:=⟨_,List.getElem?_eq_getElem (show i<xs.length by rw[rx.length];exact hlt)⟩;obtain⟨u,hu,ru⟩:=rx.get hv;rw[hx] at hu;cases hu;exact⟨v,hv,ru⟩
  rw[List.forIn_cons];have JP:=I.adk (fA H na) (fS H nk) ga gk (λ _ z=>nomatch z) (λ _ z=>nomatch z);refine wpAny_bind (wpAny_mono (hb x ks e s (λ k s'=>∃ y H',RelV y k/\Wt (i+1) (ys++[y]) H'/\Inv X pins σ H' s'/\H' a=none/\H' kS=none/\s'.heap.get? a=some (seqObj "list" #[] e1)) (by omega) (wpAny_mono (turn i ys v x _ H s hv ru hW JP) (λ k s2 he=>?_) λ _ _ z=>z)) (λ q s' hq=>?_) λ _ _ z=>z)
  ·obtain⟨y,H2,J2,ry,hW2⟩:=he;obtain⟨J3,⟨ga2,na2⟩,gk2,nk2⟩:=J2.aaA;refine⟨gk2,λ h' c s1 gk3=>⟨y,H2,ry,hW2,J3.sZ (t':=s2.toks) (fS H2 nk2) λ b o hb e=>(s1.2 b hb).trans e,na2,nk2,(s1.2 a hak).trans ga2⟩⟩
  ·obtain⟨rfl,k,c,gk3,y,H2,ry,hW2,J3,na2,nk2,ga2⟩:=hq;show wpAny (model X.prog X.w) X.A (forIn r PUnit.unit body) _ E s';refine k9 Wt hak fA fS rx h64 turn hb r (i+1) (ys++[y]) (ks++[k]) c H2 s' hr' hlt ?_ (by simp[hl]) hW2 J3 na2 nk2 ga2 gk3;exact Vals.append rv (.cons ry .nil)
theorem kJ{H:Hp}{s:Shared}{st:SortSt}{ks out:List Value}{e:Nat}{P:PySem.Fin->Shared->Prop}{E:VP}(hak:a≠kS)(fA:∀ H:Hp,H a=none->fU X pins H a)(fS:∀ H:Hp,H kS=none->fU X pins H kS)(I:Inv X pins σ H s)(na:H a=none)(nk:H kS=none)(ga:s.heap.get? a=some (seqObj "list" #[] e1))(gk:s.heap.get? kS=some (seqObj "list" (List.toArray ks) e))
  (hout:(arrOf st).map (·.2)=List.toArray out)(hz:out.length<=1000)(hkz:ks.length<=1000)(hf:failedOf st=none)
  (fin:∀ s' c,Inv X pins σ H s'->s'.heap.get? a=some (seqObj "list" (List.toArray out) c)->P (.done (.ret .none)) s'):wpAny (model X.prog X.w) X.A (ksk_tail a false e1 (.ref kS) st) P E s:=by
 have s1:=Heap.SameBut.update s.heap kS (Obj.mapSeq λ _=>(#[]:Array Value));have ga1:(s.heap.update kS (Obj.mapSeq λ _=>(#[]:Array Value))).get? a=some (seqObj "list" #[] e1):=(s1.2 a hak).trans ga;have s2:=Heap.SameBut.update (s.heap.update kS (Obj.mapSeq λ _=>(#[]:Array Value))) a (Obj.mapSeq λ _=>List.toArray out);obtain⟨c2,hc2⟩:∃ c2,((s.heap.update kS (Obj.mapSeq λ _=>(#[]:Array Value))).update a (Obj.mapSeq λ _=>List.toArray out)).get? a=some (seqObj "list" (List.toArray out) c2):=⟨_,get?_update_seq ga1 λ _=>List.toArray out⟩;have I1:=I.sZ (t':=s.toks) (h':=s.heap.update kS (Obj.mapSeq λ _=>(#[]:Array Value))) (fS H nk) λ b o hb e=>(s1.2 b hb).trans e;have I2:=I1.sZ (t':=s.toks) (h':=(s.heap.update kS (Obj.mapSeq λ _=>(#[]:Array Value))).update a (Obj.mapSeq λ _=>List.toArray out)) (fA H na) λ b o hb e=>(s2.2 b hb).trans e;unfold ksk_tail
 try dsimp only
 rw[hout];refine wpAny_bind (listUpdate_at gk rfl ?_ (by rw[List.size_toArray,sizeLine_eq];omega) (Nat.zero_le _));refine wpAny_bind (wpAny_letGo ?_);refine wpAny_bind (seqEpoch_at ga1 rfl ?_);simp only[Bool.false_eq_true,if_false];refine wpAny_bind (listUpdate_at ga1 rfl ?_ (Nat.zero_le _) (by rw[List.size_toArray,sizeLine_eq];omega));rw[hf];simp only[bne_self_eq_false,Bool.false_eq_true,if_false];exact wpAny_pure (fin _ c2 I2 hc2)
theorem qo{H:Hp}{s:Shared}{n:Nat}{lt:Nat->Nat->Bool}{P:PySem.Fin->Shared->Prop}{E:VP}(wk:dw lt)(Wt:Nat->List V->Hp->Prop)(I:Inv X pins σ H s)(hW:Wt 0 [] H)(ho:s.heap.get? a=some (seqObj "list" us.toArray n))(na:H a=none)(fA:∀ H:Hp,H a=none->fU X pins H a)(rx:Vals xs us)(h64:us.length<=1000)
  (turn:∀ (i:Nat) (ys:List V) (v:V) (u:Value) (pl:PN) (H:Hp) (s:Shared),xs[i]? =some v->RelV v u->Wt i ys H->Inv X pl σ H s->wpAny (model X.prog X.w) X.A (call (.ref f) [u]) (EP X pl σ λ y H'=>Wt (i+1) (ys++[y]) H') (λ _ _=>False) s)
  (cmp:∀ (ys:List V) (ks:List Value) (H:Hp) (s:Shared),Wt us.length ys H->Vals ys ks->Inv X pins σ H s->ks.length=us.length->2<=us.length->∃ κ,(∀ (Q:SortKind->Shared->Prop),Q κ s->wpAny (model X.prog X.w) X.A (keyKind' ks.toArray) Q (λ _ _=>False) s)/\∀ i j,i<us.length->j<us.length->∀ C:Bool->Shared->Prop,C (lt i j) s->kas_ask X.prog X.w X.A κ ks i j C s)
  (fin:∀ (ys:List V) (H:Hp) (s:Shared) (c:Nat),Wt us.length ys H->Inv X pins σ H s->H a=none->s.heap.get? a=some (seqObj "list" (List.toArray ((ba lt us.length).map λ i=>us.getD i Value.none)) c)->P (.done (.ret .none)) s) :
  wpAny (model X.prog X.w) X.A (ksk_tree a (.ref f) false) P E s:=by
 have ha:a<s.heap.objs.size:=Heap.lt_size ho;have s1:=Heap.SameBut.update s.heap a (Obj.mapSeq λ _=>(#[]:Array Value));obtain⟨e1,ho1⟩:∃ e1,(s.heap.update a (Obj.mapSeq λ _=>(#[]:Array Value))).get? a=some (seqObj "list" #[] e1):=⟨_,get?_update_seq ho λ _=>#[]⟩;have I1:=I.sZ (t':=s.toks) (h':=s.heap.update a (Obj.mapSeq λ _=>(#[]:Array Value))) (fA H na) λ b o hb e=>(s1.2 b hb).trans e;generalize hk:((s.heap.update a (Obj.mapSeq λ _=>(#[]:Array Value))).push (seqObj "tuple" us.toArray 0)).objs.size=kS;have hkS:kS=s.heap.objs.size+1:=by rw[<- hk,size_push',Heap.size_update]
 have hge:s.heap.objs.size<=kS:=by rw[hkS];exact Nat.le_succ _
 have nk:H kS=none:=I.hok.fresh hge;have fS:∀ H:Hp,H kS=none->fU X pins H kS:=λ H h=>I.rZ hge h;have hak:a≠kS:=by rw[hkS];exact Nat.ne_of_lt (Nat.lt_succ_of_lt ha)
 unfold ksk_tree;refine wpAny_bind (listItems_at ho rfl ?_);refine wpAny_bind (listUpdate_at ho rfl ?_ (by rw[List.size_toArray,sizeLine_eq];omega) (Nat.zero_le _));refine wpAny_bind (seqEpoch_at ho1 rfl ?_);refine wpAny_bind (wpAny_newTuple ?_ (by show us.length<=_;rw[sizeLine_eq];omega));refine wpAny_bind (wpAny_newList ?_ (Nat.zero_le _));refine wpAny_holding ?_;have kp:∀ b o,(s.heap.update a (Obj.mapSeq λ _=>(#[]:Array Value))).get? b=some o->(((s.heap.update a (Obj.mapSeq λ _=>(#[]:Array Value))).push (seqObj "tuple" us.toArray 0)).push (seqObj "list" #[] 0)).get? b=some o:=λ b o e=>Heap.get?_push_of_some _ (Heap.get?_push_of_some _ e);have I2:=I1.kept (t':=s.toks) kp;have gk:(((s.heap.update a (Obj.mapSeq λ _=>(#[]:Array Value))).push (seqObj "tuple" us.toArray 0)).push (seqObj "list" #[] 0)).get? kS=some (seqObj "list" (List.toArray []) 0):=by rw[<- hk];exact Heap.get?_push_size _ rfl
 have ga:=kp a _ ho1;show wpAny _ _ (ksk_rest a (.ref f) false us.toArray e1 (.ref ((s.heap.update a (Obj.mapSeq λ _=>(#[]:Array Value))).push (seqObj "tuple" us.toArray 0)).objs.size)) _ _ _;rw[hk];unfold ksk_rest;refine wpAny_bind (wpAny_rule ?_)
 first
  | rw[List.forIn_toArray]
  | (rw[<- Array.forIn_toList];simp only[List.toList_toArray])
  | rw[<- Array.forIn_toList]
 refine wpAny_bind (wpAny_mono (k9 (e1:=e1) Wt hak fA fS rx h64 turn (λ x ks e s' C hz hx=>?_) us 0 [] [] 0 H _ rfl (Nat.zero_le _) .nil rfl hW I2 na nk ga gk) (λ _ s' hd=>?_) λ _ _ x=>x)
 ·refine wpAny_bind (wpAny_attempt (wpAny_mono hx (λ k s2 hk2=>?_) λ _ _ hF=>hF.elim));obtain⟨gk2,c⟩:=hk2;have s3:=Heap.SameBut.update s2.heap kS (Obj.mapSeq (·.push k));have ea:(List.toArray ks).push k=List.toArray (ks++[k]):=by simp
  obtain⟨c2,hc2⟩:∃ c2,(s2.heap.update kS (Obj.mapSeq (·.push k))).get? kS=some (seqObj "list" (List.toArray (ks++[k])) c2):=⟨_,by rw[<- ea];exact get?_update_seq gk2 (·.push k)⟩
  try dsimp only
  refine wpAny_bind (listUpdate_at gk2 rfl ?_ (by rw[List.size_toArray,sizeLine_eq];omega) (Nat.le_trans (Nat.le_of_eq (Array.size_push ..)) (by rw[List.size_toArray,sizeLine_eq];omega)));exact wpAny_pure ⟨rfl,k,c2,hc2,c _ c2 s3 hc2⟩
 ·obtain⟨ys,ks,e,H',rv,hl,hW',J,na',nk',ga',gk'⟩:=hd
  try dsimp only
  refine wpAny_bind (listItems_at gk' rfl ?_);have hz:us.toArray.size=us.length:=by simp
  unfold ksk_end
  try dsimp only
  simp only[Bool.false_eq_true,if_false]
  by_cases h2:us.length<2
  ·rw[if_pos (by rw[hz];exact h2),if_pos (by rw[hz];exact h2)];refine wpAny_bind (wpAny_pure ?_);rw[StateT.run_pure];refine wpAny_bind (wpAny_pure ?_);dsimp only;have out:=kat_snds (ks:=ks) (vs:=us) hl (st:=SortSt.mk' general' (ks.toArray.zip us.toArray) #[] 7 none) (p:=List.toArray (List.range us.length)) (by have e:=kas_range (ks.toArray.zip us.toArray);rw[show(ks.toArray.zip us.toArray).size=us.length by simp[hl]] at e;exact e.symm)
   refine kJ hak fA fS J na' nk' ga' gk' out (by simp;omega) (by omega) rfl λ s3 c J3 g3=>fin ys H' s3 c hW' J3 na' ?_;unfold ba;rw[if_pos h2]
   simpa using g3
  ·rw[if_neg (by rw[hz];exact h2),if_neg (by rw[hz];exact h2)];obtain⟨κ,hk',hc'⟩:=cmp ys ks H' s' hW' rv J hl (by omega);refine wpAny_bind (wpAny_mono (hk' (λ κ' s3=>κ'=κ/\s3=s') ⟨rfl,rfl⟩) (λ κ' s3 e3=>?_) λ _ _ z=>z.elim);obtain⟨rfl,rfl⟩:=e3;refine wpAny_bind (wpAny_mono (qI (ks:=ks) (vs:=us) hl (by omega) wk hc') ?_ λ _ _ e=>e)
   ·rintro⟨⟨⟩,st'⟩ s4 ⟨rfl,hf,har,hln⟩;dsimp only;exact kJ hak fA fS J na' nk' ga' gk' har (by rw[List.length_map,hln];exact h64) (by omega) hf λ s4 c J4 g4=>fin ys H' s4 c hW' J4 na' g4
end
def ltI(ks:List Int)(i j:Nat):Bool:=decide (ks.getD i 0<ks.getD j 0)
theorem nA(ks:List Int):dw (ltI ks):=⟨λ a b h=>by simp only[ltI,decide_eq_true_eq,decide_eq_false_iff_not] at h ⊢;omega,λ a b c h1 h2=>by simp only[ltI,decide_eq_false_iff_not] at h1 h2 ⊢;omega⟩
section
variable {X:Cx}{pins:PN}{σ:St}{f d:Addr}
theorem ints_getD{vs:List Value}{ns:List Int}(h:IntsAre vs ns){i:Nat}(hi:i<ns.length):∃ t,vs.getD i Value.none=.int (ns.getD i 0) t:=by obtain⟨t,e⟩:=ud h i (ns.getD i 0) (by rw[List.getD_eq_getElem?_getD,List.getElem?_eq_getElem hi];rfl);exact⟨t,by rw[List.getD_eq_getElem?_getD,e];rfl⟩
theorem tQ{s:Shared}{ns:List Int}{ks:List Value}(rv:Vals (ns.map V.int) ks)(h2:2<=ns.length) :
  ∃ κ,(∀ (Q:SortKind->Shared->Prop),Q κ s->wpAny (model X.prog X.w) X.A (keyKind' ks.toArray) Q (λ _ _=>False) s)/\∀ i j,i<ns.length->j<ns.length->∀ C:Bool->Shared->Prop,C (ltI ns i j) s->kas_ask X.prog X.w X.A κ ks i j C s:=by
 have hI:IntsAre ks ns:=by have:=intsAre_of rv;simpa using this
 have hl:=sk hI;refine⟨oneType',λ Q q=>?_,λ i j hi hj C c=>?_⟩
 ·rw[ksk_kind (kz:=ns) (by simpa using hI) (by rw[List.size_toArray];omega)];exact wpAny_pure q
 ·obtain⟨t,e1⟩:=ints_getD hI hi;obtain⟨u,e2⟩:=ints_getD hI hj;unfold kas_ask;rw[e1,e2,keyLt'_oneType];exact oneLt_int c
theorem l0{H:Hp}{s:Shared}{xs:List V}{lt:Nat->Nat->Bool}{Q:VK}{E:VP}(wk:dw lt)(Wt:Nat->List V->Hp->Prop)(I:Inv X pins σ H s)(hW:Wt 0 [] H)(hq:SqL X.K H d xs)(hz:xs.length<=1000)
  (turn:∀ (i:Nat) (ys:List V) (v:V) (u:Value) (pl:PN) (H:Hp) (s:Shared),xs[i]? =some v->RelV v u->Wt i ys H->Inv (ni X) pl σ H s->wpAny (model X.prog X.w) (ni X).A (call (.ref f) [u]) (EP (ni X) pl σ λ y H'=>Wt (i+1) (ys++[y]) H') (λ _ _=>False) s)
  (cmp:∀ (ys:List V) (ks:List Value) (H:Hp) (s:Shared),Wt xs.length ys H->Vals ys ks->Inv (ni X) pins σ H s->ks.length=xs.length->2<=xs.length->∃ κ,(∀ (Q:SortKind->Shared->Prop),Q κ s->wpAny (model X.prog X.w) (ni X).A (keyKind' ks.toArray) Q (λ _ _=>False) s)/\∀ i j,i<xs.length->j<xs.length->∀ C:Bool->Shared->Prop,C (lt i j) s->kas_ask X.prog X.w (ni X).A κ ks i j C s)
  (fin:∀ (ys:List V) (H':Hp),Wt xs.length ys H'->∀ l,H' l=none->Q (.ref l) (upd H' l (.lst ((ba lt xs.length).map λ i=>xs.getD i .non)))) :
  wpAny (model X.prog X.w) X.A (call (.builtin "sorted") [.ref d] [(Str.ofString "key",.ref f)]) (EP X pins σ Q) E s:=by
 obtain⟨its,rv,pl,_⟩:=I.list hq;have hln:=rv.length;refine call_function_entry_kw kind_sorted plain_sorted entry_sorted (ksk_s1 _ _) ?_;unfold Builtin.«sorted»;refine wpAny_bind (m:=checkCount "sorted" 1 1 _) (wpAny_pure (wpAny_bind (collect_list pl.isList (wpAny_bind (wpAny_newList ?_)) (by rw[sizeLine_eq];omega))));have at1:(dH s.heap its).get? (s.heap.objs.size+1)=some (seqObj "list" its.toArray 0):=by
  unfold dH;rw[<- dq (h:=s.heap) (vs:=its)];exact Heap.get?_push_size _ rfl
 show wpAny _ _ _ _ _ {s with heap:=dH s.heap its};rw[dq];have I2:=I.kept (t':=s.toks) (h':=dH s.heap its) λ b o e=>iK e;have na:H (s.heap.objs.size+1)=none:=I.hok.fresh (Nat.le_succ _);have fA:∀ H:Hp,H (s.heap.objs.size+1)=none->fU X pins H (s.heap.objs.size+1):=λ H h=>I.rZ (Nat.le_succ _) h;refine wpAny_bind (wpAny_holding (wpAny_call_entry_kw slot_list_sort ⟨_,at1,rfl⟩ entry_list_sort ?body (ksk_l1 _ _)))
 case body =>
  show wpAny (model X.prog X.w) X.A.in1.in1 (Builtin.«list.sort» ⟨[.ref (s.heap.objs.size+1)],[(Str.ofString "key",.ref f)]⟩) _ _ _;rw[ksk_t1];refine qo (X:=ni X) (lt:=lt) wk Wt (Inv.in1 (Inv.in1 I2)) hW at1 na fA rv (by omega) (λ i ys v u pl H s hv ru hW' J=>turn i ys v u pl H s hv ru hW' J) (λ ys ks H s hW' rv J hl h2=>?_) λ ys H' s' c hW' J na' g=>?_
  ·rw[<- hln] at hW' hl h2 ⊢;exact cmp ys ks H s hW' rv J hl h2
  ·have J':Inv X pins σ H' s':=Inv.acP (Inv.acP J);have ov:=t7 (lt:=lt) rv;have hov:((ba lt its.length).map λ i=>xs.getD i .non).length<=sizeLine:=by rw[List.length_map];have:=(ja lt its.length).length_eq;rw[List.length_range] at this;have:=s16;omega
   have J2:=Inv.tw J' g (fA H' na') hov ov;refine⟨_,rfl,wpAny_pure ⟨_,rfl,.ref _,_,J2,rfl,?_⟩⟩;rw[<- hln] at hW' ⊢;exact fin ys H' hW' _ na'
end
def wR(ns:List Int)(ws:List W):List W:=(ba (ltI ns) ws.length).map λ i=>ws.getD i (.d .none)
def pf(P:Addr)(q:Str)(lpos:Pos)(to tb:TD)(fr:List Nat)(τ:DS)(M:MH)(Q:QD):Prop:=to τ M λ w M1=>∃ a ws,∃ ns:List Int,w=.m a/\M1 a=some (.lst ws)/\ws.length<=1000/\M1 P=some (.code q lpos)/\ns.length=ws.length/\(∀ (i:Nat) w n,ws[i]? =some w->ns[i]? =some n->tb (vy w fr τ) M1 λ y M2=>y=.d (.int n)/\M2=M1)/\∀ p,M1 p=none->Q (.m p) (aT M1 p (.lst (wR ns ws)))
open PySem.W (kla_obj kla_fn)
section
variable {X:Cx}{K:FG}
variable {P cd:Addr}{q x:Str}{lpos pos p kpos:Pos}{params:Arguments}{body o:Expr}{sc:Scope}{fr:List Nat}{to tb:TD}{k:Nat}
theorem oQ(hr:cj (k+3) X.A)(hc:X.calm=true)(hg:Gl X "sorted")(hm:X.mg "sorted" = none)(L:j5 X sc x fr)(hcode:X.env.code=.ref cd)(hcd:W.codeHdIn X.K cd P=true)(hq:X.env.qual ++ "<lambda>" = q)
  (hb:∀ cl pm cdv ctv u,bindArgs (kla_fn "<lambda>" q params body sc cl pm cdv ctv) ⟨[u],[]⟩=pure [(x,u)])(ho:PD X o to)
  (he:∀ cl f c s H pl,cj k (sD (ni X) q sc (pP X x fr) cl f c s H pl).A->PD (sD (ni X) q sc (pP X x fr) cl f c s H pl) body tb)(hso:eM o=false:=by rfl)(hdef:defaultsOf params X.env=([],[]):=by rfl) :
  PD X (.Call (.Name "sorted" p) [o] [⟨some "key",.Lambda params body sc lpos,kpos⟩] pos) (pf P q lpos to tb fr):=by
 intro pins s σ H Q I h;subst hq;have hst:starEach [o] X.env=(false,eval o X.env)::starEach [] X.env:=df o [] X.env hso;have pa:PA X [o] (sS (up X.K to) aax):=sd ho uO hst;have pk:PK X [⟨some "key",.Lambda params body sc lpos,kpos⟩] (sS (acL X P (X.env.qual ++ "<lambda>") params body sc lpos) aax):=x6 (zq L hcode hcd hdef) aaJ;obtain⟨τ,M,Qd,A,h,kk⟩:=h;refine wpAny_Call_Name_kw (iQ I hg hm ko (callWith_kw (he:=by rw[hst];rfl) (hplain:=dt pos X.env [o] (by simp[hso])) ?_));refine thn (pa pos pins s σ H (λ vs H1=>∃ v w M1,vs=[v]/\Kp H H1/\aI X.K H1 w v/\cn X.K H1 M1/\∃ a ws,∃ ns:List Int,w=.m a/\M1 a=some (.lst ws)/\ws.length<=1000/\M1 P=some (.code (X.env.qual ++ "<lambda>") lpos)/\ns.length=ws.length/\(∀ (i:Nat) w n,ws[i]? =some w->ns[i]? =some n->tb (vy w fr τ) M1 λ y M2=>y=.d (.int n)/\M2=M1)/\∀ p,M1 p=none->Qd (.m p) (aT M1 p (.lst (wR ns ws)))) I
  ⟨τ,M,_,A,h,λ x H1 w M1 kp r m z=>⟨x,w,M1,rfl,kp,r,m,z⟩⟩) λ us s1 ⟨vs,H1,I1,r1,hx⟩=>?_
 obtain⟨v,w,M1,ev,kp1,rw1,m1,a,ws,ns,ew,hMa,hz,hP,hnl,hkey,hfin⟩:=hx;subst ev ew;have ea:v=.ref a:=rw1;subst ea;obtain⟨u,rfl,ru⟩:=vals1 r1;cases (show u=Value.ref a from ru);obtain⟨ps,hT,ht,hcA⟩:=m1 P _ hP;refine thn (pk pos pins s1 σ H1 (λ ks H2=>∃ f cl,ks=[.ref f]/\Kp H1 H2/\cn X.K H2 M1/\abK X sc cl/\yp H2 (X.env.qual ++ "<lambda>") x params body sc cl ((X.mg "__name__").getD .none) f) I1 ?_) λ kus s2 ⟨ks,H2,I2,r2,f,cl,ek,kp2,m2,hcl,hlam⟩=>?_
 ·refine⟨ps,hT,ht,?_⟩;rcases hcA with hn | ⟨c,oc,vs,t,e1,e2,e3,e4⟩
  ·refine .inl ⟨hn,λ c f oc vs t ctv cl hcl hc0 hf0 hcf hd hv=>?_⟩;obtain⟨k3,m3⟩:=nZ m1 hP hT ht hn hc0 hd hv;have fP:f≠P:=Ne.symm (aG hT hf0);have cP:c≠P:=Ne.symm (aG hT hc0);have hf1:upd (upd H1 c (.frz oc (.own 0))) P (.tbl (jw ps lpos c)) f=none:=by rw[aj fP,aj (Ne.symm hcf)];exact hf0
   exact⟨f,cl,rfl,k3.trans (Kp.new hf1),m3.new hf1,hcl,c,ctv,oc,vs,t,av,by rw[aj hcf,aj cP,av],hd,hv⟩
  ·exact .inr ⟨c,oc,vs,t,e1,e2,e3,e4,λ f ctv cl hcl hf0=>⟨f,cl,rfl,Kp.new hf0,m1.new hf0,hcl,c,ctv,oc,vs,t,av,by rw[aj (aG e2 hf0)];exact e2,e3,e4⟩⟩
 subst ek;obtain⟨ku,rfl,rk⟩:=vals1 r2;cases (show ku=Value.ref f from rk);show wpAny _ _ (call (.builtin "sorted") [.ref a] [(Str.ofString "key",.ref f)]) _ _ s2;have L':j5 (ni X) sc x fr:=⟨L.kind,L.co,L.gen,L.cell,L.free,L.own,L.fr⟩;have A2:∀ {H'},Kp H2 H'->cn X.K H' M1->Abs X.K H' σ τ M1:=λ kp m=>A.go (kp1.trans (kp2.trans kp)) m;obtain⟨us,hl,pr⟩:=m2 _ _ hMa;have hul:=aQ.length pr;refine l0 (lt:=ltI ns) (nA ns) (λ i ys H'=>Kp H2 H'/\cn X.K H' M1/\ys=(ns.take i).map V.int) I2 ⟨Kp.refl _,m2,by simp⟩ (SqL.of hl) (by omega) (λ i ys v u pl H' s' hvi ru hW J=>?_) (λ ys ks H' s' hW rv J hlk h2=>?_) λ ys H' hW l hln=>?_
 ·have hi:i<us.length:=(List.getElem?_eq_some_iff.mp hvi).1;obtain⟨w,hwi⟩:∃ w,ws[i]? =some w:=⟨_,List.getElem?_eq_getElem (show i<ws.length by omega)⟩;obtain⟨n,hni⟩:∃ n,ns[i]? =some n:=⟨_,List.getElem?_eq_getElem (show i<ns.length by omega)⟩;obtain⟨v',hv',rv'⟩:=aQ.get pr hwi;rw[hvi] at hv';cases hv';refine yh (X:=ni X) (k:=k) (hr.in1.in1) hc L' hcl.1 hcl.2 (hb cl _) (te:=up X.K tb) (λ c s H pl hr'=>he cl f c s H pl hr') J (D.yp.keep hlam hW.1) ru ?_;refine⟨_,M1,_,x8 (A2 hW.1 hW.2.1) (w:=w) (aI.keep hW.1 rv') fr,hkey i w n hwi hni,λ y H3 w3 M3 kp3 r3 m3 z'=>?_⟩;obtain⟨e1,e2⟩:=z';subst e1 e2;refine⟨hW.1.trans kp3,m3,?_⟩;have ey:y=V.int n:=by simpa [aI,aD] using r3
  rw[ey,hW.2.2,List.take_succ,hni];simp
 ·obtain⟨_,_,rfl⟩:=hW;rw[<- hul,<- hnl,List.take_length] at rv;rw[<- hul,<- hnl] at h2 ⊢;exact tQ (X:=ni X) rv h2
 ·have kp:Kp H' (upd H' l (.lst ((ba (ltI ns) us.length).map λ i=>us.getD i .non))):=Kp.new hln;refine kk _ _ (.m l) _ (kp1.trans (kp2.trans (hW.1.trans kp))) rfl (hW.2.1.put (mo:=.lst (wR ns ws)) kp ⟨_,av,?_⟩) (hfin l (hW.2.1.free hln));have pr':=aQ.keep (hW.1.trans kp) pr;have mem:∀ i∈ba (ltI ns) us.length,i<ws.length:=λ i hi=>by
   have:i<us.length:=by simpa using (ja _ _).mem_iff.mp hi
   omega
  unfold wR;rw[hul];generalize upd H' l (.lst ((ba (ltI ns) us.length).map λ i=>us.getD i .non))=H4 at pr';clear kp hfin;generalize ba (ltI ns) us.length=is at mem
  induction is with
  | nil=>exact .nil
  | cons i is ih =>
   refine .cons ?_ (ih λ j hj=>mem j (by simp[hj]));have hi:=mem i (by simp);obtain⟨v,e1,e2⟩:=aQ.get (i:=i) (w:=ws.getD i (.d .none)) pr' (by rw[List.getD_eq_getElem?_getD,List.getElem?_eq_getElem hi];rfl);have e3:us.getD i .non=v:=by rw[List.getD_eq_getElem?_getD,e1];rfl
   show aI _ _ (ws.getD i (.d .none)) (us.getD i .non);rw[e3];exact e2
end
theorem rW{X:Cx}{P cd:Addr}{q x:Str}{lpos pos p kpos:Pos}{params:Arguments}{body o:Expr}{sc:Scope}{fr:List Nat}{to tb:TD}{k:Nat}(hr:cj (k+3) X.A)(hc:X.calm=true)(hg:Gl X "sorted")(hm:X.mg "sorted" = none)(L:j5 X sc x fr)(hcode:X.env.code=.ref cd)(hcd:W.codeHdIn X.K cd P=true)(hq:X.env.qual ++ "<lambda>" = q)
  (hb:∀ cl pm cdv ctv u,bindArgs (kla_fn "<lambda>" q params body sc cl pm cdv ctv) ⟨[u],[]⟩=pure [(x,u)])(ho:Jd (PD X o to))
  (he:∀ cl f c s H pl,cj k (sD (ni X) q sc (pP X x fr) cl f c s H pl).A->Jd (PD (sD (ni X) q sc (pP X x fr) cl f c s H pl) body tb))(hso:eM o=false:=by rfl)(hdef:defaultsOf params X.env=([],[]):=by rfl) :
  Jd (PD X (.Call (.Name "sorted" p) [o] [⟨some "key",.Lambda params body sc lpos,kpos⟩] pos) (pf P q lpos to tb fr)):=⟨D.oQ hr hc hg hm L hcode hcd hq hb ho.h (λ cl f c s H pl h=>(he cl f c s H pl h).h) hso hdef⟩
section
variable {X:Cx}{K:FG}
def gm(ws:List W)(M:MH)(Q:QD):Prop:=∃ a rows,∃ kws:List (Key×W),ws=[.m a]/\M a=some (.lst rows)/\Paired (λ(r:W) (kw:Key×W)=>∃ b,r=.m b/\M b=some (.tup [.d (wa kw.1),kw.2])) rows kws/\(kws.map (·.1)).Nodup/\∀ p,M p=none->Q (.m p) (aT M p (.dic kws))
theorem rT{H:Hp}{M:MH}(m:cn K H M):∀ {rows:List W} {kws:List (Key×W)} {vs:List V},Paired (λ(r:W) (kw:Key×W)=>∃ b,r=.m b/\M b=some (.tup [.d (wa kw.1),kw.2])) rows kws->aQ K H rows vs ->
  ∃ kvs:List (Key×V),Paired (λ(v:V) (kv:Key×V)=>∃ a,v=.ref a/\SqT K H a [kV kv.1,kv.2]) vs kvs/\Paired (λ(p:Key×W) (q:Key×V)=>p.1=q.1/\aI K H p.2 q.2) kws kvs/\kvs.map (·.1)=kws.map (·.1)
 | _,_,_,.nil,.nil=>⟨[],.nil,.nil,rfl⟩
 | _,_,_,.cons (b:=kw) ⟨b,eb,hb⟩ t,.cons r rs=>by
  obtain⟨kvs,h1,h2,h3⟩:=rT m t rs;subst eb;obtain⟨us,e,pr⟩:=m _ _ hb;cases pr with
  | cons q1 pr =>
  cases pr with
  | cons q2 pr =>
  cases pr
  rename_i v1 v2
  have ek:=qE q1;subst ek;exact⟨(kw.1,v2)::kvs,.cons ⟨b,r,.inl (.inl e)⟩ h1,.cons ⟨rfl,q2⟩ h2,by simp[h3]⟩
theorem oi:fc K (λ xs H Q=>∃ p vs,∃ kvs:List (Key×V),xs=[.ref p]/\SqL K H p vs/\Paired (λ(v:V) (kv:Key×V)=>∃ a,v=.ref a/\SqT K H a [kV kv.1,kv.2]) vs kvs/\(kvs.map (·.1)).Nodup/\∀ l,H l=none->Q (.ref l) (upd H l (.dK kvs))) gm:=by intro vs H ws M Qd Q r m ⟨a,rows,kws,e,g,pr,nd,q⟩ k;subst e;obtain⟨v,e1,r1⟩:=hE r;have ev:v=.ref a:=r1;subst ev;obtain⟨us,hl,rw1⟩:=m _ _ g;obtain⟨kvs,h1,h2,h3⟩:=rT m pr rw1;refine⟨a,us,kvs,e1,SqL.of hl,h1,by rw[h3];exact nd,λ l hl=>?_⟩;have kp:Kp H (upd H l (.dK kvs)):=Kp.new hl;exact k _ _ (.m l) _ kp rfl (m.put (mo:=.dic kws) kp ⟨kvs,av,Paired.fw h2 λ p q z=>⟨z.1,z.2.keep kp⟩⟩) (q l (m.free hl))
end
open Rc Stc
section
variable {R:Type}[DecidableEq R]
structure Wd(M:MH)(b:Addr)(C:R->Option (Addr×MO)):Prop where
 at':∀ {c p o},C c=some (p,o)->M p=some o
 inj:∀ {c c' p o o'},C c=some (p,o)->C c'=some (p,o')->c=c'
 bg:Bag M b
 nb:∀ {c p o},C c=some (p,o)->p≠b
def cf(C:R->Option (Addr×MO))(c:R)(x:Addr×MO):R->Option (Addr×MO):=λ d=>if d=c then some x else C d
variable {M M':MH}{b:Addr}{C:R->Option (Addr×MO)}
theorem Wd.ne(h:Wd M b C){c c':R}{p p':Addr}{o o':MO}(e:C c=some (p,o))(e':C c'=some (p',o'))(n:c≠c'):p≠p':=λ z=>n (h.inj e (by rw[z];exact e'))
theorem Bag.go{p:Addr}(h:Bag M p)(e:M' p=M p):Bag M' p:=by
 cases h with
 | mk a b c ns h z=>exact .mk a b c ns (e.trans h) z
theorem kA{p:Addr}(h:Bag M p):M p≠none:=by
 cases h with
 | mk a b c ns h z=>rw[h];exact λ e=>nomatch e
theorem Wd.ext(h:Wd M b C)(x:Ext M M'):Wd M' b C:=⟨λ e=>x _ _ (h.at' e),h.inj,Ext.bag x h.bg,h.nb⟩
theorem Wd.take(h:Wd M b C)(bg:Bag M' b)(f:∀ q,q≠b->M' q=M q):Wd M' b C:=⟨λ e=>(f _ (h.nb e)).trans (h.at' e),h.inj,bg,h.nb⟩
theorem Wd.set(h:Wd M b C){c:R}{p:Addr}{o:MO}(o':MO)(e:C c=some (p,o)):Wd (aT M p o') b (cf C c (p,o')):=by
 refine⟨λ {d q u} z=>?_,λ {d d' q u u'} z z'=>?_,h.bg.go (ax (h.nb e).symm),λ {d q u} z=>?_⟩
 ·unfold cf at z
  split at z
  ·cases z;exact aw
  ·rename_i n
   rw[ax (h.ne z e n)];exact h.at' z
 ·unfold cf at z z'
  split at z<;>split at z'
  ·rename_i e1 e2;rw[e1,e2]
  ·rename_i e1 n;cases z;exact absurd rfl (h.ne e z' (λ k=>n k.symm))
  ·rename_i n e1;cases z';exact absurd rfl (h.ne z e n)
  ·exact h.inj z z'
 ·unfold cf at z
  split at z
  ·cases z;exact h.nb e
  ·exact h.nb z
theorem Wd.new(h:Wd M b C)(c:R){p:Addr}(o:MO)(e:M p=none):Wd (aT M p o) b (cf C c (p,o)):=by
 refine⟨λ {d q u} z=>?_,λ {d d' q u u'} z z'=>?_,h.bg.go (ax λ z=>kA h.bg (by rw[z];exact e)),λ {d q u} z=>?_⟩
 ·unfold cf at z
  split at z
  ·cases z;exact aw
  ·exact ck (h.at' z) e
 ·unfold cf at z z'
  split at z<;>split at z'
  ·rename_i e1 e2;rw[e1,e2]
  ·cases z;exact absurd rfl (bU (h.at' z') e)
  ·cases z';exact absurd rfl (bU (h.at' z) e)
  ·exact h.inj z z'
 ·unfold cf at z
  split at z
  ·cases z;exact λ k=>kA h.bg (by rw[<- k];exact e)
  ·exact h.nb z
theorem Wd.move(h:Wd M b C){c d:R}(n:c≠d){p q r:Addr}{o u o' u':MO}(e:C c=some (p,o))(e':C d=some (q,u))(hr:M r=none)(hp:M' p=some o')(hr':M' r=some u')(f:∀ x y,x≠p->M x=some y->M' x=some y):Wd M' b (cf (cf C c (p,o')) d (r,u')):=by
 have hbb:M' b=M b:=by
  cases hb:M b with
  | none=>exact absurd hb (kA h.bg)
  | some y=>exact f _ _ (h.nb e).symm hb
 have key:∀ {x y z},cf (cf C c (p,o')) d (r,u') x=some (y,z)->(x=d/\y=r/\z=u')\/(x≠d/\x=c/\y=p/\z=o')\/(x≠d/\x≠c/\C x=some (y,z)):=by
  intro x y z k;unfold cf at k
  by_cases h1:x=d
  ·rw[if_pos h1] at k;cases k;exact .inl ⟨h1,rfl,rfl⟩
  ·rw[if_neg h1] at k
   by_cases h2:x=c
   ·rw[if_pos h2] at k;cases k;exact .inr (.inl ⟨h1,h2,rfl,rfl⟩)
   ·rw[if_neg h2] at k;exact .inr (.inr ⟨h1,h2,k⟩)
 have rn:∀ {x y z},C x=some (y,z)->y≠r:=λ k=>bU (h.at' k) hr;refine⟨λ {x y z} k=>?_,λ {x x' y z z'} k k'=>?_,h.bg.go hbb,λ {x y z} k=>?_⟩
 ·rcases key k with ⟨_,rfl,rfl⟩ | ⟨_,_,rfl,rfl⟩ | ⟨_,n2,k⟩
  ·exact hr'
  ·exact hp
  ·exact f _ _ (h.ne k e n2) (h.at' k)
 ·rcases key k with ⟨a1,a2,_⟩ | ⟨_,a1,a2,_⟩ | ⟨_,a1,a2⟩<;>rcases key k' with ⟨c1,c2,_⟩ | ⟨_,c1,c2,_⟩ | ⟨_,c1,c2⟩
  ·rw[a1,c1]
  ·exact absurd (c2.symm.trans a2) (rn e)
  ·exact absurd a2 (rn c2)
  ·exact absurd (a2.symm.trans c2) (rn e)
  ·rw[a1,c1]
  ·exact absurd a2 (h.ne c2 e c1)
  ·exact absurd c2 (rn a2)
  ·exact absurd c2 (h.ne a2 e a1)
  ·exact h.inj a2 c2
 ·rcases key k with ⟨_,rfl,_⟩ | ⟨_,_,rfl,_⟩ | ⟨_,_,k⟩
  ·exact λ z=>kA h.bg (by rw[<- z];exact hr)
  ·exact h.nb e
  ·exact h.nb k
end
def kf(N:List Str)(f:Str->W):List (Key×W):=N.map λ z=>(.inr z,f z)
def cF{α:Type}(f:Str->α)(z:Str)(v:α):Str->α:=λ y=>if y=z then v else f y
theorem kR(N:List Str)(f:Str->W):(kf N f).length=N.length:=by simp[kf]
theorem cC{f:Str->W}{z:Str}:∀ {N:List Str},z∈N->il (kf N f) (.inr z)=some (f z)
 | [],h=>nomatch h
 | y::N,h=>by
  show il ((.inr y,f y)::kf N f) (.inr z)=_;rw[g8]
  by_cases e:y=z
  ·subst e;rw[if_pos rfl]
  ·rw[if_neg λ k=>e (Sum.inr.inj k)];exact cC (by simpa [Ne.symm e] using h)
theorem yJ{f:Str->W}{z:Str}:∀ {N:List Str},z ∉ N->il (kf N f) (.inr z)=none
 | [],_=>rfl
 | y::N,h=>by show il ((.inr y,f y)::kf N f) (.inr z)=_;rw[g8,if_neg λ k=>h (by simp[Sum.inr.inj k])];exact yJ λ k=>h (by simp[k])
theorem mG{f:Str->W}{z:Str}{w:W}{N:List Str}(h:z∈N):oE (kf N f) (.inr z) w=kf N (cF f z w):=by
 unfold oE;rw[jx,cC h,Option.isSome_some,if_pos rfl];unfold kf;rw[List.map_map];refine List.map_congr_left λ y _=>?_;simp only[Function.comp,cF]
 by_cases e:y=z
 ·subst e;simp
 ·rw[if_neg λ k=>e (Sum.inr.inj k),if_neg e]
theorem wA{f:Str->W}{z:Str}{N:List Str}(h:z ∉ N):oE (kf N f) (.inr z) (f z)=kf (N++[z]) f:=by
 unfold oE;rw[jx,yJ h];simp[kf]
theorem rH{α:Type}{f:Str->α}{z:Str}{v:α}:cF f z v z=v:=if_pos rfl
theorem wU{α:Type}{f:Str->α}{z y:Str}{v:α}(h:y≠z):cF f z v y=f y:=if_neg h
abbrev nW(f:Str->Nat):Str->W:=λ z=>.d (.int (f z:Nat))
abbrev bW(f:Str->Bool):Str->W:=λ z=>.d (.bool (f z))
theorem aac(f:Str->Nat)(z:Str)(v:Nat):cF (nW f) z (.d (.int (v:Nat)))=nW (cF f z v):=by
 funext y;unfold cF nW;by_cases e:y=z<;>simp[e]
theorem pU(f:Str->Bool)(z:Str)(v:Bool):cF (bW f) z (.d (.bool v))=bW (cF f z v):=by
 funext y;unfold cF bW;by_cases e:y=z<;>simp[e]
abbrev dY(N:List Str):PyData:=.list (N.map PyData.str)
theorem qS{N:List Str}{c:W}{i:Nat}{τ:DS}{M:MH}{Q:QD}(nd:N.Nodup)(hl:N.length<=1000)(hv:τ[i]? =some (some (.d (dY N))))(k:∀ p,M p=none->Q (.m p) (aT M p (.dic (kf N λ _=>c)))):dDC (bV (ai i)) (gN 0) oF (ai 0) (dC c) 1 [] τ M Q:=by
 have sl:=s16;refine⟨_,hv,_,rfl,λ p hp=>⟨λ j τ' M'=>M'=aT M p (.dic (kf (N.take j) λ _=>c))/\∃ x,τ'=[x],⟨rfl,_,rfl⟩,?_,?_⟩⟩
 ·rintro j w τ' M' hw ⟨rfl,x,rfl⟩;rw[List.map_map] at hw;obtain⟨z,hz,rfl⟩:=iS hw;have hj:=(List.getElem?_eq_some_iff.mp hz).1;refine⟨_,rfl,_,.inr z,aw,rfl,?_,?_,_,rfl⟩
  ·rw[kR,List.length_take];omega
  ·rw[hJ,wA (rz nd hz)];have ht:N.take (j+1)=N.take j++[z]:=by rw[List.take_succ,hz];rfl
   rw[ht]
 ·rintro τ' M' ⟨e,x,rfl⟩;rw[e];have:N.take ((N.map PyData.str).map W.d).length=N:=List.take_of_length_le (by simp);rw[this];exact k p hp
theorem xH{α:Type}(D:List α)(key:α->Int)(f:α->W):∃ D':List α,wR (D.map key) (D.map f)=D'.map f/\D'.Perm D/\∀ T:α->α->Prop,D.Pairwise T->D'.Pairwise λ a b=>key a<key b\/(key a=key b/\T a b):=by
 cases hD:D with
 | nil=>exact⟨[],by simp[wR,ba],List.Perm.refl _,λ _ _=>.nil⟩
 | cons d0 D0 =>
 rw[<- hD];obtain⟨o1,o2⟩:=dX (nA (D.map key)) D.length;have mem:∀ i∈ba (ltI (D.map key)) D.length,i<D.length:=λ i hi=>by simpa using o1.mem_iff.mp hi
 refine⟨(ba (ltI (D.map key)) D.length).map λ i=>D.getD i d0,?_,?_,λ T hT=>?_⟩
 ·unfold wR;rw[List.length_map,List.map_map];refine List.map_congr_left λ i hi=>?_;simp[List.getD_eq_getElem?_getD,List.getElem?_eq_getElem (mem i hi)]
 ·have h:=o1.map λ i=>D.getD i d0;have e:(List.range D.length).map (λ i=>D.getD i d0)=D:=by refine List.ext_getElem (by simp) λ i h1 h2=>?_;simp[List.getD_eq_getElem?_getD,List.getElem?_eq_getElem h2]
  rw[e] at h;exact h
 ·rw[List.pairwise_map];refine List.Pairwise.imp_of_mem (λ {i j} hi hj h=>?_) o2;have li:=mem i hi;have lj:=mem j hj;have gi:D.getD i d0=D[i]:=by simp[List.getD_eq_getElem?_getD,List.getElem?_eq_getElem li]
  have gj:D.getD j d0=D[j]:=by simp[List.getD_eq_getElem?_getD,List.getElem?_eq_getElem lj]
  have ki:(D.map key).getD i 0=key D[i]:=by simp[List.getD_eq_getElem?_getD,List.getElem?_eq_getElem li]
  have kj:(D.map key).getD j 0=key D[j]:=by simp[List.getD_eq_getElem?_getD,List.getElem?_eq_getElem lj]
  rw[gi,gj];simp only[S.B,ltI,ki,kj,decide_eq_true_eq,decide_eq_false_iff_not] at h;rcases h with h | ⟨h1,h2,h3⟩
  ·exact .inl h
  ·exact .inr ⟨by omega,(List.pairwise_iff_getElem.mp hT) i j li lj h3⟩
end D
namespace K57
open L2 D Rc Stc
abbrev ae:Addr:=102
abbrev bL:Addr:=84
abbrev ak:Addr:=82
abbrev gw:List Str:=["self", "machines"]
def eo:TSd:=
  bb (dG ae (ai 0) (dDC (bV (ai 1)) (gN 0) (oF) (ai 0) (dI 0) 1 []) "lateness") <|
  bb (dG ae (ai 0) (dDC (bV (ai 1)) (gN 0) (oF) (ai 0) (dC (.d (.bool false))) 1 []) "doubled") <|
  bb (dG ae (ai 0) (dDC (bV (ai 1)) (gN 0) (oF) (ai 0) (dC (.d (.bool false))) 1 []) "cut_off") <|
  dG ae (ai 0) (fN (aR)) "messages"
abbrev eR:List Str:=["self", "message", "turn", "due", "machine", "thing"]
def eG:TSd:=
  bb (bR (ai 1) (gT 3 (bo (gN 3) (bo (gN 4) (bo (gN 5) (i9)))))) <|
  jL (qG (dOp aa5 (ai 3) (ai 2)) (xD (cT (mw ae (ai 0) "cut_off") (ai 4))))
abbrev gb:List Str:=["self", "turn", "due"]
abbrev cy:Str:=(("Road.come" : Str) ++ ".<locals>." ++ "<lambda>")
def gv(aP:SpD):TSd:=
  bb (mR (bR (uV (lJ (mw ae (ai 0) "messages")) (gN 0) (bP (cY ae "is_due" aP (ai 1) (aa (ai 0) (aa (ai 2) (aR))))) (ai 0) 1 [0,1]) (gN 2))) <|
  bb (dG ae (ai 0) (rL (uV (lJ (mw ae (ai 0) "messages")) (gN 0) (abj (bP (cY ae "is_due" aP (ai 1) (aa (ai 0) (aa (ai 2) (aR)))))) (ai 0) 1 [0,1])) "messages") <|
  jL (dLC (bV (lC (pf ak cy ⟨46,77,46,103⟩ (ai 2) (dOp du (ai 0) (dI 0)) []))) (gT 3 (bo (gN 0) (bo (gN 1) (bo (gN 2) (i9))))) (oF) (oy (aa (ai 1) (aa (ai 2) (aR)))) 3 [])
abbrev ig:List Str:=["self", "machine", "turns"]
def gg:TSd:=
  j7 (mw ae (ai 0) "lateness") (ai 1) (ai 2)
abbrev fC:List Str:=["self", "machine", "yes"]
def fm:TSd:=
  j7 (mw ae (ai 0) "doubled") (ai 1) (ai 2)
abbrev iR:List Str:=["self", "machine"]
def iU:TSd:=
  j7 (mw ae (ai 0) "cut_off") (ai 1) (dC (.d (.bool true)))
abbrev gW:List Str:=["self", "machine"]
def gI:TSd:=
  j7 (mw ae (ai 0) "cut_off") (ai 1) (dC (.d (.bool false)))
abbrev hZ:List Str:=["_law_bag_here", "_law_road", "_law_here", "_law_name", "_law_way"]
def g6(ay bq a6 bE aB:SpD):TSd:=
  bb (bR (bS ay (aa (ai 0) (aa (dI 7) (aR)))) (gN 4)) <|
  dIf (bP (dOp yH (ai 4) (dI 2)))
   (bb (bR (bS ay (aa (ai 0) (aa (dI 3) (aR)))) (lA (cT (ai 2) (ai 3)) (dI 0))) <|
   cW (cY ae "late" bq (ai 1) (aa (ai 3) (aa (dOp du (cT (ai 2) (ai 3)) (dI 0)) (aR)))))
   (dIf (bP (dOp yH (ai 4) (dI 4)))
    (bb (bR (bS ay (aa (ai 0) (aa (dI 2) (aR)))) (lA (cT (ai 2) (ai 3)) (dI 1))) <|
    cW (cY ae "twice" a6 (ai 1) (aa (ai 3) (aa (dOp jt (dOp du (cT (ai 2) (ai 3)) (dI 1)) (dI 1)) (aR)))))
    (dIf (bP (dOp jt (ai 4) (dI 4)))
     (bb (bR (dC (.d (.bool true))) (lA (cT (ai 2) (ai 3)) (dI 2))) <|
     cW (cY ae "cut" bE (ai 1) (aa (ai 3) (aR))))
     (bb (bR (dC (.d (.bool false))) (lA (cT (ai 2) (ai 3)) (dI 2))) <|
     cW (cY ae "join" aB (ai 1) (aa (ai 3) (aR))))))
abbrev d6:List Str:=["thing"]
def dZ(sp_self:SpD):TSd:=
  bb (dIf (bP (dCB mS (aa (ai 0) (aa (dC (.t "tuple")) (aR)))))
   (jL (mI))
   (dM)) <|
  bb (dIf (bP (dCB mS (aa (ai 0) (aa (dC (.t "list")) (aR)))))
   (jL (mI))
   (dM)) <|
  bb (dIf (bP (dCB mS (aa (ai 0) (aa (dC (.t "dict")) (aR)))))
   (jL (mI))
   (dM)) <|
  jL (ai 0)
abbrev iM:List Str:=["self", "machine", "thing", "turn", "due"]
def iZ(aX:SpD):TSd:=
  bb (bR (dOp bC (dOp bC (ai 3) (dI 1)) (cT (mw ae (ai 0) "lateness") (ai 1))) (gN 4)) <|
  bb (cW (cL (mw ae (ai 0) "messages") (oy (aa (ai 4) (aa (ai 1) (aa (bS aX (aa (ai 2) (aR))) (aR))))))) <|
  dIf (bP (cT (mw ae (ai 0) "doubled") (ai 1)))
   (cW (cL (mw ae (ai 0) "messages") (oy (aa (dOp bC (ai 4) (dI 1)) (aa (ai 1) (aa (bS aX (aa (ai 2) (aR))) (aR)))))))
   (dM)
abbrev fo:List Str:=["_law_due", "_law_name", "_law_cuts", "_law_last", "_law_turn"]
def fI:TSd:=
  bb (bR (ai 0) (gN 4)) <|
  bb (uP (abI (bP (dOp yH (ai 4) (ai 3))) (bP (dOp (aae false) (ai 1) (cT (ai 2) (ai 4)))))
   (bR (dOp bC (ai 4) (dI 1)) (gN 4))) <|
  jL (ai 4)
abbrev ij:List Str:=["self"]
def h9:TSd:=
  jL (dCB gu (aa (mw ae (ai 0) "messages") (aR)))
abbrev aaG:List Str:=["_law_script", "_law_bag_here", "_law_names", "_law_road", "_law_here", "_law_put", "_law_came", "_law_cuts", "_law_many", "_law_last", "_law_turn", "_law_name", "_law_number", "_law_k", "_law_due", "_law_first", "_law_twice_too", "_law_again", "_law_rows"]
def x9(b9 ay aW aF aE aJ aB aC aH:SpD):TSd:=
  bb (bR (bS b9 (aa (ai 0) (aR))) (gN 1)) <|
  bb (bR (dSl (yo (aa (dS "ma") (aa (dS "b") (aa (dS "zz") (aa (dS "m") (aa (dS "c") (aa (dS "east") (aa (dS "mb") (aa (dS "a") (aR)))))))))) (i8) (qb (dOp bC (dI 1) (bS ay (aa (ai 1) (aa (dOp du (yo (aa (dI 4) (aa (dI 8) (aR)))) (bS ay (aa (ai 1) (aa (dI 2) (aR))))) (aR))))))) (gN 2)) <|
  bb (bR (tp ae aW (aa (lC (dCB jD (aa (ai 2) (aR)))) (aR))) (gN 3)) <|
  bb (bR (dCB gm (aa (yY (bV (ai 2)) (gN 0) (oF) (xv (aa (ai 0) (aa (fN (aa (dI 0) (aa (dI 0) (aa (dC (.d (.bool false))) (aR))))) (aR)))) 1 []) (aR))) (gN 4)) <|
  bb (wC 5 6 7 (aa (fN (aR)) (aa (fN (aR)) (aa (ml) (aR))))) <|
  bb (bR (dOp bC (dI 2) (bS ay (aa (ai 1) (aa (dI 23) (aR))))) (gN 8)) <|
  bb (bR (dOp bC (ai 8) (dI 6)) (gN 9)) <|
  bb (lq (sN (aa (dI 1) (aa (dOp bC (ai 9) (dI 1)) (aR)))) (gN 10)
   (bb (j7 (ai 7) (ai 10) (dLC (bV (ai 2)) (gN 0) (bP (dOp du (cT (ai 1) (ai 0)) (dI 2))) (ai 0) 1 [4])) <|
   bb (lq (bV (cY ae "come" aF (ai 3) (aa (ai 10) (aR)))) (gT 2 (bo (gN 11) (bo (gN 12) (i9))))
    (cW (cL (ai 6) (oy (aa (ai 10) (aa (ai 11) (aa (ai 12) (aR)))))))) <|
   bb (dIf (bP (dOp aa5 (ai 10) (ai 8)))
    (bb (lq (ip (aa (bS ay (aa (ai 1) (aa (dI 4) (aR)))) (aR))) (gN 13)
     (cW (bS aE (aa (ai 1) (aa (ai 3) (aa (ai 4) (aa (dOp du (ai 2) (bS ay (aa (ai 1) (aa (dCB gu (aa (ai 2) (aR))) (aR))))) (aR)))))))) <|
    lq (ip (aa (bS ay (aa (ai 1) (aa (dI 5) (aR)))) (aR))) (gN 13)
     (bb (bR (dOp du (ai 2) (bS ay (aa (ai 1) (aa (dCB gu (aa (ai 2) (aR))) (aR))))) (gN 11)) <|
     bb (cW (cL (ai 5) (oy (aa (ai 11) (aa (dOp bC (dOp bC (ai 10) (dI 1)) (dOp du (cT (ai 4) (ai 11)) (dI 0))) (aa (dOp du (cT (ai 4) (ai 11)) (dI 1)) (aR))))))) <|
     cW (cY ae "put" aJ (ai 3) (aa (ai 11) (aa (dCB gu (aa (ai 5) (aR))) (aa (ai 10) (aR)))))))
    (dM)) <|
   dIf (bP (dOp jt (ai 10) (ai 8)))
    (lq (bV (ai 2)) (gN 11)
     (bb (bR (dC (.d (.bool false))) (lA (cT (ai 4) (ai 11)) (dI 2))) <|
     cW (cY ae "join" aB (ai 3) (aa (ai 11) (aR)))))
    (dM))) <|
  bb (bR (fN (aR)) (gN 14)) <|
  bb (lq (ip (aa (dCB gu (aa (ai 5) (aR))) (aR))) (gN 13)
   (bb (bR (dOp du (ai 5) (ai 13)) (gT 3 (bo (gN 11) (bo (gN 15) (bo (gN 16) (i9)))))) <|
   lq (ip (aa (dOp bC (dI 1) (ai 16)) (aR))) (gN 17)
    (bb (bR (bS aC (aa (dOp bC (ai 15) (ai 17)) (aa (ai 11) (aa (ai 7) (aa (ai 9) (aR)))))) (gN 10)) <|
    cW (cL (ai 14) (oy (aa (ai 10) (aa (dOp bC (ai 15) (ai 17)) (aa (dOp bC (ai 13) (dI 1)) (aa (ai 11) (aR)))))))))) <|
  bb (bR (dLC (bV (lC (dCB ma (aa (ai 14) (aR))))) (gT 4 (bo (gN 0) (bo (gN 1) (bo (gN 2) (bo (gN 3) (i9)))))) (oF) (oy (aa (ai 0) (aa (ai 3) (aa (ai 2) (aR))))) 4 []) (gN 18)) <|
  jL (qG (dOp jt (ai 6) (ai 18)) (dOp jt (cY ae "many" aH (ai 3) aR) (dI 0)))
abbrev FR(x y z g:Addr):List (Str×W):=[("lateness",.m x),("doubled",.m y),("cut_off",.m z),("messages",.m g)]
theorem acM{x y z g:Addr}:(FR x y z g).lookup ("lateness" : Str)=some (.m x):=rfl
theorem acE{x y z g:Addr}:(FR x y z g).lookup ("doubled" : Str)=some (.m y):=rfl
theorem abX{x y z g:Addr}:(FR x y z g).lookup ("cut_off" : Str)=some (.m z):=rfl
theorem zj{x y z g:Addr}:(FR x y z g).lookup ("messages" : Str)=some (.m g):=rfl
theorem zL{x y z g:Addr}:(FR x y z g).lookup ("is_due" : Str)=none:=rfl
theorem ab3{x y z g:Addr}:(FR x y z g).lookup ("come" : Str)=none:=rfl
theorem abL{x y z g:Addr}:(FR x y z g).lookup ("put" : Str)=none:=rfl
theorem ach{x y z g:Addr}:(FR x y z g).lookup ("late" : Str)=none:=rfl
theorem abH{x y z g:Addr}:(FR x y z g).lookup ("twice" : Str)=none:=rfl
theorem abd{x y z g:Addr}:(FR x y z g).lookup ("cut" : Str)=none:=rfl
theorem aaq{x y z g:Addr}:(FR x y z g).lookup ("join" : Str)=none:=rfl
theorem ab8{x y z g:Addr}:(FR x y z g).lookup ("many" : Str)=none:=rfl
abbrev cdC:MO:=.code cy ⟨46,77,46,103⟩
structure Msg where
 d:Nat
 z:Str
 k:PyData
abbrev Msg.D(m:Msg):PyData:=.tuple [.int (m.d:Nat),.str m.z,m.k]
abbrev msW(ms:List Msg):MO:=.lst (ms.map λ m=>W.d m.D)
def due(ct:Str->Bool)(t:Nat)(m:Msg):Bool:=decide (m.d<=t)&&!ct m.z
def aW:SpD:=λ ws M Q=>∃ (N:List Str) (r:Addr),ws=[.m r,.d (dY N)]/\N.Nodup/\N.length<=60/\M r=some (.ins ae []) /\
 ∀ x y z g M',(M x=none/\M y=none/\M z=none/\M g=none)->[x,y,z,g].Nodup->M' r=some (.ins ae (FR x y z g))->M' x=some (.dic (kf N (nW λ _=>0)))->M' y=some (.dic (kf N (bW λ _=>false)))->M' z=some (.dic (kf N (bW λ _=>false)))->M' g=some (.lst [])->(∀ b o,b≠r->M b=some o->M' b=some o)->Q (.d .none) M'
theorem jH:∀ ws M Q,aW ws M Q->ws.length=2:=by rintro ws M Q ⟨N,r,rfl,_⟩;rfl
theorem az{M:MH}{a b:Addr}{o:MO}(h:aT M a o b=none):M b=none:=by
 unfold aT at h
 split at h
 ·cases h
 ·exact h
theorem bz{M:MH}{a b:Addr}{o:MO}(h:aT M a o b=none):b≠a:=λ e=>by rw[e,aw] at h;cases h
theorem iG:∀ ws M Q,aW ws M Q->eo {nx:=λ _ M'=>Q (.d .none) M',rt:=Q} (bG gw ws) M:=by
 rintro ws M Q ⟨N,r,rfl,nd,hl,hr,k⟩;have sl:=s16;have hl':N.length<=1000:=by omega
 dsimp only[eo,bb,dG];refine qS nd hl' rfl λ x hx=>⟨_,rfl,r,_,rfl,ck hr hx,by decide,?_⟩;refine qS nd hl' rfl λ y hy=>⟨_,rfl,r,_,rfl,ck aw hy,(by show 1<1000;decide),?_⟩;refine qS nd hl' rfl λ z hz=>⟨_,rfl,r,_,rfl,ck aw hz,(by show 2<1000;decide),?_⟩;refine⟨by simp,λ g hg=>⟨_,rfl,r,_,rfl,ck aw hg,(by show 3<1000;decide),?_⟩⟩;have rx:r≠x:=bU hr hx;have y0:=az (az hy);have z0:=az (az (az (az hz)));have g0:=az (az (az (az (az (az hg)))));have yr:=bz hy;have yx:=bz (az hy);have zr:=bz hz;have zy:=bz (az hz);have zx:=bz (az (az (az hz)));have gr:=bz hg;have gz:=bz (az hg);have gy:=bz (az (az (az hg)));have gx:=bz (az (az (az (az (az hg)))));refine k x y z g _ ⟨hx,y0,z0,g0⟩ ?_ aw ?_ ?_ ?_ ?_ λ b o n e=>?_
 ·simp[Ne.symm yx,Ne.symm zx,Ne.symm gx,Ne.symm zy,Ne.symm gy,Ne.symm gz]
 ·rw[ax rx.symm,ax gx.symm,ax rx.symm,ax zx.symm,ax rx.symm,ax yx.symm,ax rx.symm,aw];rfl
 ·rw[ax yr,ax gy.symm,ax yr,ax zy.symm,ax yr,aw]
 ·rw[ax zr,ax gz.symm,ax zr,aw]
 ·rw[ax gr,aw]
 ·rw[ax n,ax (bU e g0),ax n,ax (bU e z0),ax n,ax (bU e y0),ax n,ax (bU e hx)];exact e
structure Rl(M:MH)(r x y z g:Addr)(N:List Str)(lt:Str->Nat)(db ct:Str->Bool):Prop where
 hr:M r=some (.ins ae (FR x y z g))
 hx:M x=some (.dic (kf N (nW lt)))
 hy:M y=some (.dic (kf N (bW db)))
 hz:M z=some (.dic (kf N (bW ct)))
def bq:SpD:=λ ws M Q=>∃ (r x y z g:Addr) (N:List Str) (f:Str->Nat) (a:Str) (n:Nat),ws=[.m r,.d (.str a),.d (.int (n:Nat))]/\M r=some (.ins ae (FR x y z g))/\M x=some (.dic (kf N (nW f)))/\a∈N/\N.length<=60/\Q (.d .none) (aT M x (.dic (kf N (nW (cF f a n)))))
theorem jT:∀ ws M Q,bq ws M Q->ws.length=3:=by rintro ws M Q ⟨r,x,y,z,g,N,f,a,n,rfl,_⟩;rfl
theorem iD:∀ ws M Q,bq ws M Q->gg {nx:=λ _ M'=>Q (.d .none) M',rt:=Q} (bG ig ws) M:=by
 rintro ws M Q ⟨r,x,y,z,g,N,f,a,n,rfl,hr,hx,ha,hl,k⟩;have sl:=s16;refine⟨_,rfl,_,rfl,r,_,_,rfl,hr,acM,_,rfl,x,_,.inr a,rfl,hx,rfl,by rw[kR];omega,?_⟩;rw[mG ha,aac];exact k
def a6:SpD:=λ ws M Q=>∃ (r x y z g:Addr) (N:List Str) (f:Str->Bool) (a:Str) (n:Bool),ws=[.m r,.d (.str a),.d (.bool n)]/\M r=some (.ins ae (FR x y z g))/\M y=some (.dic (kf N (bW f)))/\a∈N/\N.length<=60/\Q (.d .none) (aT M y (.dic (kf N (bW (cF f a n)))))
theorem iA:∀ ws M Q,a6 ws M Q->ws.length=3:=by rintro ws M Q ⟨r,x,y,z,g,N,f,a,n,rfl,_⟩;rfl
theorem gS:∀ ws M Q,a6 ws M Q->fm {nx:=λ _ M'=>Q (.d .none) M',rt:=Q} (bG fC ws) M:=by
 rintro ws M Q ⟨r,x,y,z,g,N,f,a,n,rfl,hr,hx,ha,hl,k⟩;have sl:=s16;refine⟨_,rfl,_,rfl,r,_,_,rfl,hr,acE,_,rfl,y,_,.inr a,rfl,hx,rfl,by rw[kR];omega,?_⟩;rw[mG ha,pU];exact k
def bE:SpD:=λ ws M Q=>∃ (r x y z g:Addr) (N:List Str) (f:Str->Bool) (a:Str),ws=[.m r,.d (.str a)]/\M r=some (.ins ae (FR x y z g))/\M z=some (.dic (kf N (bW f)))/\a∈N/\N.length<=60/\Q (.d .none) (aT M z (.dic (kf N (bW (cF f a true)))))
theorem k5:∀ ws M Q,bE ws M Q->ws.length=2:=by rintro ws M Q ⟨r,x,y,z,g,N,f,a,rfl,_⟩;rfl
theorem ji:∀ ws M Q,bE ws M Q->iU {nx:=λ _ M'=>Q (.d .none) M',rt:=Q} (bG iR ws) M:=by
 rintro ws M Q ⟨r,x,y,z,g,N,f,a,rfl,hr,hx,ha,hl,k⟩;have sl:=s16;refine⟨_,rfl,r,_,_,rfl,hr,abX,_,rfl,z,_,.inr a,rfl,hx,rfl,by rw[kR];omega,?_⟩;rw[mG ha,pU];exact k
def aB:SpD:=λ ws M Q=>∃ (r x y z g:Addr) (N:List Str) (f:Str->Bool) (a:Str),ws=[.m r,.d (.str a)]/\M r=some (.ins ae (FR x y z g))/\M z=some (.dic (kf N (bW f)))/\a∈N/\N.length<=60/\Q (.d .none) (aT M z (.dic (kf N (bW (cF f a false)))))
theorem je:∀ ws M Q,aB ws M Q->ws.length=2:=by rintro ws M Q ⟨r,x,y,z,g,N,f,a,rfl,_⟩;rfl
theorem iw:∀ ws M Q,aB ws M Q->gI {nx:=λ _ M'=>Q (.d .none) M',rt:=Q} (bG gW ws) M:=by
 rintro ws M Q ⟨r,x,y,z,g,N,f,a,rfl,hr,hx,ha,hl,k⟩;have sl:=s16;refine⟨_,rfl,r,_,_,rfl,hr,abX,_,rfl,z,_,.inr a,rfl,hx,rfl,by rw[kR];omega,?_⟩;rw[mG ha,pU];exact k
def aP:SpD:=λ ws M Q=>∃ (r x y z g:Addr) (N:List Str) (ct:Str->Bool) (m:Msg) (t:Nat),ws=[.m r,.d m.D,.d (.int (t:Nat))]/\M r=some (.ins ae (FR x y z g))/\M z=some (.dic (kf N (bW ct)))/\m.z∈N/\Q (.d (.bool (due ct t m))) M
theorem gL:∀ ws M Q,aP ws M Q->ws.length=3:=by rintro ws M Q ⟨r,x,y,z,g,N,ct,m,t,rfl,_⟩;rfl
theorem dle(a b:Nat):decide ((a:Int)<=(b:Int))=decide (a<=b):=by simp[Int.ofNat_le]
theorem dlt(a b:Nat):decide ((a:Int)<(b:Int))=decide (a<b):=by simp[Int.ofNat_lt]
theorem fK:∀ ws M Q,aP ws M Q->eG {nx:=λ _ M'=>Q (.d .none) M',rt:=Q} (bG eR ws) M:=by
 rintro ws M Q ⟨r,x,y,z,g,N,ct,m,t,rfl,hr,hz,hm,k⟩;refine⟨_,rfl,_,rfl,rfl,_,_,rfl,_,_,rfl,_,_,rfl,rfl,?_⟩;refine⟨_,rfl,_,rfl,.inl ⟨_,_,rfl,rfl,_,rfl,?_⟩⟩;rw[dle];unfold due at k;refine eJ (λ h=>?_) (λ h=>?_)
 ·rw[h,Bool.true_and] at k;exact⟨_,rfl,r,_,_,rfl,hr,abX,_,rfl,z,_,.inr m.z,_,rfl,.inl hz,rfl,cC hm,_,rfl,k⟩
 ·rw[h,Bool.false_and] at k;exact k
def aH:SpD:=λ ws M Q=>∃ (r x y z g:Addr) (l:List W),ws=[.m r]/\M r=some (.ins ae (FR x y z g))/\M g=some (.lst l)/\Q (.d (.int (l.length:Nat))) M
theorem jO:∀ ws M Q,aH ws M Q->ws.length=1:=by rintro ws M Q ⟨r,x,y,z,g,l,rfl,_⟩;rfl
theorem iB:∀ ws M Q,aH ws M Q->h9 {nx:=λ _ M'=>Q (.d .none) M',rt:=Q} (bG ij ws) M:=by
 rintro ws M Q ⟨r,x,y,z,g,l,rfl,hr,hg,k⟩;exact⟨_,rfl,r,_,_,rfl,hr,zj,_,_,rfl,by simp only[sE,hg],rfl,k⟩
def abb(ct:Str->Bool)(t:Nat)(n:Bool):W->Option PyData
 | .d (.tuple [.int d,.str z,k])=>if ((decide (d<=(t:Int))&&!ct z) != n)=true then some (.tuple [.int d,.str z,k]) else none
 | _=>none
theorem md(ct:Str->Bool)(t:Nat)(n:Bool)(m:Msg):abb ct t n (.d m.D)=if (due ct t m != n)=true then some m.D else none:=by show(if ((decide ((m.d:Int)<=(t:Int))&&!ct m.z) != n)=true then _ else _)=_;rw[dle];rfl
theorem jb(ct:Str->Bool)(t:Nat)(n:Bool):∀ ms:List Msg,(ms.map λ m=>W.d m.D).filterMap (abb ct t n)=(ms.filter λ m=>due ct t m != n).map Msg.D
 | []=>rfl
 | m::ms=>by
  rw[List.map_cons,List.filterMap_cons,md,jb ct t n ms]
  by_cases h:(due ct t m != n)=true
  ·rw[if_pos h,List.filter_cons_of_pos (by simpa using h)];rfl
  ·rw[if_neg h,List.filter_cons_of_neg (by simpa using h)]
theorem kE{M:MH}{g p:Addr}{ws:List W}{l:MO}(hg:M g=some (.lst ws))(hp:aT M g (.flst ws) p=none):M p=none/\p≠g/\Ext M (aT (aT (aT M g (.flst ws)) p l) g (.lst ws))/\aT (aT (aT M g (.flst ws)) p l) g (.lst ws) p=some l:=by
 have h1:=az hp;have h2:=bz hp;refine⟨h1,h2,λ b o e=>?_,by rw[ax h2,aw]⟩
 by_cases h:b=g
 ·subst h;rw[hg] at e;cases e;exact aw
 ·rw[ax h,ax (bU e h1),ax h];exact e
abbrev Msg.T(m:Msg):PyData:=.tuple [.str m.z,m.k]
def aF:SpD:=λ ws M Q=>∃ (r x y z g:Addr) (N:List Str) (ct:Str->Bool) (ms:List Msg) (t:Nat),ws=[.m r,.d (.int (t:Nat))]/\M ak=some cdC/\M r=some (.ins ae (FR x y z g))/\M z=some (.dic (kf N (bW ct)))/\M g=some (msW ms)/\(∀ m∈ms,m.z∈N)/\ms.length<=1000 /\
 ∀ (D':List Msg) (g':Addr) (M':MH),D'.Perm (ms.filter (due ct t))->(∀ T:Msg->Msg->Prop,(ms.filter (due ct t)).Pairwise T->D'.Pairwise λ a b=>a.d<b.d\/(a.d=b.d/\T a b))->M g'=none->M' r=some (.ins ae (FR x y z g'))->M' g'=some (msW (ms.filter λ m=>!due ct t m))->(∀ b o,b≠r->M b=some o->M' b=some o)->Q (.d (.list (D'.map Msg.T))) M'
theorem jP:∀ ws M Q,aF ws M Q->ws.length=2:=by rintro ws M Q ⟨r,x,y,z,g,N,ct,ms,t,rfl,_⟩;rfl
theorem iF:∀ ws M Q,aF ws M Q->gv aP {nx:=λ _ M'=>Q (.d .none) M',rt:=Q} (bG gb ws) M:=by
 rintro ws M Q ⟨r,x,y,z,g,N,ct,ms,t,rfl,hC,hr,hz,hg,hm,hl,k⟩;have sl:=s16;have rg:r≠g:=zw hr hg (λ e=>nomatch e);have zg:z≠g:=zw hz hg (λ e=>nomatch e);refine⟨g,_,hg,_,rfl,r,_,_,rfl,by rw[ax rg];exact hr,zj,g,_,rfl,aw,?_⟩;refine jg (abb ct t false) (by rw[List.length_map];omega) (λ w hw P' hp=>?_) ?_
 ·obtain⟨m,hm',rfl⟩:=List.mem_map.mp hw;rw[md] at hp;refine⟨_,rfl,r,_,rfl,by rw[ax rg];exact hr,zL (x:=x) (y:=y) (z:=z) (g:=g),_,rfl,_,rfl,r,x,y,z,g,N,ct,m,t,rfl,by rw[ax rg];exact hr,by rw[ax zg];exact hz,hm m hm',_,rfl,?_⟩;refine eJ (λ h=>?_) (λ h=>?_)
  ·rw[h] at hp;exact⟨_,rfl,_,rfl,rfl,hp⟩
  ·rw[h] at hp;exact⟨rfl,hp⟩
 rw[jb];intro p hp;obtain⟨hp0,pg,x1,hp1⟩:=kE (l:=.lst (((ms.filter λ m=>due ct t m != false).map Msg.D).map W.d)) hg hp;refine⟨ck aw hp,?_⟩;generalize aT (aT (aT M g (.flst _)) p _) g (.lst _)=M1 at x1 hp1;have e0:(ms.filter λ m=>due ct t m != false)=ms.filter (due ct t):=by simp
 rw[e0,List.map_map] at hp1;refine⟨g,_,x1 _ _ hg,_,rfl,r,_,_,rfl,by rw[ax rg];exact x1 _ _ hr,zj,g,_,rfl,aw,?_⟩;refine jg (abb ct t true) (by rw[List.length_map];omega) (λ w hw P' hq=>?_) ?_
 ·obtain⟨m,hm',rfl⟩:=List.mem_map.mp hw;rw[md] at hq;refine⟨_,rfl,r,_,rfl,by rw[ax rg];exact x1 _ _ hr,zL (x:=x) (y:=y) (z:=z) (g:=g),_,rfl,_,rfl,r,x,y,z,g,N,ct,m,t,rfl,by rw[ax rg];exact x1 _ _ hr,by rw[ax zg];exact x1 _ _ hz,hm m hm',_,rfl,?_⟩;refine eJ (λ h=>?_) (λ h=>?_)
  ·rw[Bool.not_eq_true'] at h;rw[h] at hq;exact⟨_,rfl,_,rfl,rfl,hq⟩
  ·rw[Bool.not_eq_false'] at h;rw[h] at hq;exact⟨rfl,hq⟩
 rw[jb];intro q hq;obtain⟨hq0,qg,x2,hq1⟩:=kE (l:=.lst (((ms.filter λ m=>due ct t m != true).map Msg.D).map W.d)) (x1 _ _ hg) hq;refine⟨ck aw hq,_,rfl,r,_,rfl,x2 _ _ (x1 _ _ hr),(by show 4<1000;decide),?_⟩;generalize aT (aT (aT M1 g (.flst _)) q _) g (.lst _)=M2 at x2 hq1;have e1:(ms.filter λ m=>due ct t m != true)=ms.filter λ m=>!due ct t m:=by simp
 rw[e1,List.map_map] at hq1;have qM:M q=none:=Ext.none x1 hq0;have x3:Ext M M2:=x1.trans x2;have qr:q≠r:=λ e=>by rw[e,hr] at qM;cases qM
 have pr:p≠r:=λ e=>by rw[e,hr] at hp0;cases hp0
 have Cr:ak≠r:=zw hC hr (λ e=>nomatch e);have hr3:aT M2 r (.ins ae (sv "messages" (.m q) (FR x y z g))) r=some (.ins ae (FR x y z q)):=aw;have x4:∀ b o,b≠r->M b=some o->aT M2 r (.ins ae (sv "messages" (.m q) (FR x y z g))) b=some o:=λ b o n e=>by rw[ax n];exact x3 _ _ e
 have hp3:aT M2 r (.ins ae (sv "messages" (.m q) (FR x y z g))) p=some (.lst ((ms.filter (due ct t)).map λ m=>W.d m.D)):=by rw[ax pr];exact x2 _ _ hp1
 have hq3:aT M2 r (.ins ae (sv "messages" (.m q) (FR x y z g))) q=some (msW (ms.filter λ m=>!due ct t m)):=by rw[ax qr];exact hq1
 generalize aT M2 r (.ins ae (sv "messages" (.m q) (FR x y z g)))=M3 at hr3 x4 hp3 hq3;have lf:(ms.filter (due ct t)).length<=ms.length:=List.length_filter_le _ _;obtain⟨D',e2,pm,od⟩:=xH (ms.filter (due ct t)) (λ m=>(m.d:Int)) (λ m=>W.d m.D);have ld:D'.length<=1000:=by rw[pm.length_eq];omega
 refine⟨_,rfl,p,_,(ms.filter (due ct t)).map λ m=>(m.d:Int),rfl,hp3,by rw[List.length_map];omega,x4 _ _ Cr hC,by simp,λ i w n hw hn=>?_,λ l hl'=>?_⟩
 ·obtain⟨m,h1,rfl⟩:=iS hw;obtain⟨m',h2,rfl⟩:=iS hn;rw[h1] at h2;cases h2;exact⟨_,rfl,0,_,rfl,rfl,rfl,rfl,rfl⟩
 rw[e2];have e3:(D'.map λ m=>W.d m.D)=(D'.map Msg.D).map W.d:=by rw[List.map_map];rfl
 have x5:Ext M3 (nC (aT M3 l (.lst (D'.map λ m=>W.d m.D))) l):=sealed hl';refine⟨l,D'.map Msg.D,rfl,by rw[aw,e3],_,rfl,?_⟩;rw[<- e3];generalize nC (aT M3 l (.lst (D'.map λ m=>W.d m.D))) l=M4 at x5;refine sm D' (λ m=>W.d m.D) Msg.T (λ τ=>∃ a b c,τ=[a,b,c]) ld ⟨_,_,_,rfl⟩ (λ m _ τ hτ R h=>?_) λ τ=>?_
 ·obtain⟨a,b,c,rfl⟩:=hτ;exact⟨_,rfl,rfl,_,_,rfl,_,_,rfl,_,_,rfl,rfl,_,rfl,_,rfl,_,rfl,(show 2<=sizeLine by omega),_,rfl,h _ ⟨_,_,_,rfl⟩⟩
 ·exact k D' q M4 pm (λ T hT=>(od T hT).imp λ {a b} h=>by rcases h with h | ⟨h1,h2⟩;exact .inl (by omega);exact .inr ⟨by omega,h2⟩) qM (x5 _ _ hr3) (x5 _ _ hq3) λ b o n e=>x5 _ _ (x4 _ _ n e)
def Pl(d:PyData):Prop:=oG d "tuple" = false/\oG d "list" = false/\oG d "dict" = false
def aK(j:Nat):SpD:=λ ws M Q=>∃ d:PyData,ws=[.d d]/\0<j/\Pl d/\Q (.d d) M
abbrev aX:SpD:=aK 1
theorem eQ:∀ ws M Q,¬ aK 0 ws M Q:=λ _ _ _ ⟨_,_,h,_⟩=>absurd h (by decide)
theorem fM(j:Nat):∀ ws M Q,aK j ws M Q->ws.length=1:=by rintro ws M Q ⟨d,rfl,_⟩;rfl
theorem e9(j:Nat):∀ ws M Q,aK (j+1) ws M Q->dZ (aK j) {nx:=λ _ M'=>Q (.d .none) M',rt:=Q} (bG d6 ws) M:=by
 rintro ws M Q ⟨d,rfl,_,⟨p1,p2,p3⟩,k⟩;refine⟨_,rfl,_,_,_,rfl,.d,.tuple,_,rfl,vF p1 ?_⟩;refine⟨_,rfl,_,_,_,rfl,.d,.list,_,rfl,vF p2 ?_⟩;exact⟨_,rfl,_,_,_,rfl,.d,.dict,_,rfl,vF p3 ⟨_,rfl,k⟩⟩
def news(lt:Str->Nat)(db:Str->Bool)(a:Str)(k:PyData)(t:Nat):List Msg:=if db a=true then [⟨t+1+lt a,a,k⟩,⟨t+1+lt a+1,a,k⟩] else [⟨t+1+lt a,a,k⟩]
def aJ:SpD:=λ ws M Q=>∃ (r x y z g:Addr) (N:List Str) (lt:Str->Nat) (db:Str->Bool) (ms:List Msg) (a:Str) (kd:PyData) (t:Nat),ws=[.m r,.d (.str a),.d kd,.d (.int (t:Nat))]/\Pl kd/\M r=some (.ins ae (FR x y z g))/\M x=some (.dic (kf N (nW lt)))/\M y=some (.dic (kf N (bW db)))/\M g=some (msW ms)/\a∈N/\ms.length<=1000/\Q (.d .none) (aT M g (msW (ms++news lt db a kd t)))
theorem kF:∀ ws M Q,aJ ws M Q->ws.length=4:=by rintro ws M Q ⟨r,x,y,z,g,N,lt,db,ms,a,kd,t,rfl,_⟩;rfl
theorem jv:∀ ws M Q,aJ ws M Q->iZ aX {nx:=λ _ M'=>Q (.d .none) M',rt:=Q} (bG iM ws) M:=by
 rintro ws M Q ⟨r,x,y,z,g,N,lt,db,ms,a,kd,t,rfl,pl,hr,hx,hy,hg,ha,hl,k⟩;have sl:=s16;have rg:r≠g:=zw hr hg (λ e=>nomatch e);have yg:y≠g:=zw hy hg (λ e=>nomatch e);refine⟨_,rfl,.inl ⟨_,_,rfl,rfl,_,rfl,r,_,_,rfl,hr,acM,_,rfl,x,_,.inr a,_,rfl,.inl hx,rfl,cC ha,.inl ⟨_,_,rfl,rfl,?_⟩⟩⟩;have e:((t:Int)+1+((lt a:Nat):Int))=((t+1+lt a:Nat):Int):=by omega
 dsimp only;rw[e];refine⟨_,rfl,r,_,_,rfl,hr,zj,g,_,rfl,hg,_,rfl,_,rfl,_,rfl,kd,rfl,by decide,pl,_,rfl,(show 3<=sizeLine by omega),_,hg,by rw[List.length_map];omega,?_⟩;have e1:(ms.map λ m:Msg=>W.d m.D)++[W.d (.tuple [.int ((t+1+lt a:Nat):Int),.str a,kd])]=(ms++[(⟨t+1+lt a,a,kd⟩:Msg)]).map λ m:Msg=>W.d m.D:=by rw[List.map_append];rfl
 rw[e1];refine⟨_,rfl,r,_,_,rfl,by rw[ax rg];exact hr,acE,_,rfl,y,_,.inr a,_,rfl,.inl (by rw[ax yg];exact hy),rfl,cC ha,_,rfl,?_⟩;unfold news at k;refine eJ (λ h=>?_) (λ h=>?_)
 ·rw[h,if_pos rfl] at k;refine⟨_,rfl,r,_,_,rfl,by rw[ax rg];exact hr,zj,g,_,rfl,aw,_,rfl,.inl ⟨_,_,rfl,rfl,_,rfl,_,rfl,kd,rfl,by decide,pl,_,rfl,(show 3<=sizeLine by omega),_,aw,by simp;omega,?_⟩⟩;have e2:(((ms++[(⟨t+1+lt a,a,kd⟩:Msg)]).map λ m:Msg=>W.d m.D)++[W.d (.tuple [.int (((t+1+lt a:Nat):Int)+1),.str a,kd])])=(ms++[(⟨t+1+lt a,a,kd⟩:Msg),⟨t+1+lt a+1,a,kd⟩]).map λ m:Msg=>W.d m.D:=by rw[List.map_append,List.map_append,List.append_assoc];rfl
  rw[e2,hJ];exact k
 ·rw[h,if_neg Bool.false_ne_true] at k;exact k
structure Ev where
 d:Nat
 z:Str
 k:Nat
abbrev Ev.m(e:Ev):Msg:=⟨e.d,e.z,.int (e.k:Nat)⟩
def evM(m:Msg):Ev:=⟨m.d,m.z,match m.k with | .int n=>n.toNat | _=>0⟩
theorem xS(e:Ev):evM e.m=e:=by
 cases e;simp[evM]
structure Pt where
 z:Str
 f:Nat
 w:Nat
abbrev Pt.D(p:Pt):PyData:=.tuple [.str p.z,.int (p.f:Nat),.int (p.w:Nat)]
def mkE(p:Pt)(k:Nat):List Ev:=if p.w=1 then [⟨p.f,p.z,k⟩,⟨p.f+1,p.z,k⟩] else [⟨p.f,p.z,k⟩]
def evs(ps:List Pt):List Ev:=(List.range ps.length).flatMap λ i=>mkE (ps.getD i ⟨"",0,0⟩) (i+1)
theorem eE(ps:List Pt)(p:Pt):evs (ps++[p])=evs ps++mkE p (ps.length+1):=by
 unfold evs;rw[List.length_append,List.length_singleton,List.range_succ,List.flatMap_append];congr 1
 ·rw[List.flatMap_def,List.flatMap_def];refine congrArg List.flatten (List.map_congr_left λ i hi=>?_);have hi':=List.mem_range.mp hi;simp[List.getD_eq_getElem?_getD,List.getElem?_append_left hi']
 ·simp[List.getD_eq_getElem?_getD]
def Lk(a b:Ev):Prop:=a.k<b.k\/(a.k=b.k/\a.d<b.d)
theorem oO{p:Pt}{k:Nat}{e:Ev}(h:e∈mkE p k):e.k=k/\e.z=p.z/\(e.d=p.f\/e.d=p.f+1):=by
 unfold mkE at h
 split at h<;>simp at h
 ·rcases h with rfl | rfl
  ·exact⟨rfl,rfl,.inl rfl⟩
  ·exact⟨rfl,rfl,.inr rfl⟩
 ·subst h;exact⟨rfl,rfl,.inl rfl⟩
theorem zf(p:Pt)(k:Nat):(mkE p k).Pairwise Lk:=by
 unfold mkE
 split
 ·simp[Lk]
 ·simp
theorem qV(p:Pt)(k:Nat):(mkE p k).length<=2:=by
 unfold mkE
 split<;>simp
theorem lE(P:Ev->Prop):∀ ps:List Pt,(∀ i p,ps[i]? =some p->∀ e∈mkE p (i+1),P e)->∀ e∈evs ps,P e:=by
 intro ps h e he;unfold evs at he;obtain⟨i,hi,he⟩:=List.mem_flatMap.mp he;have hi':=List.mem_range.mp hi;have hp:ps[i]? =some (ps.getD i ⟨"",0,0⟩):=by simp[List.getD_eq_getElem?_getD,List.getElem?_eq_getElem hi']
 exact h i _ hp e he
theorem zJ{ps:List Pt}:∀ e∈evs ps,e.k<=ps.length:=lE _ ps λ i p hp e he=>by have:=(List.getElem?_eq_some_iff.mp hp).1;have:=(oO he).1;omega
theorem jQ:∀ n (ps:List Pt),ps.length=n->(evs ps).length<=2 * n:=by
 intro n
 induction n with
 | zero=>intro ps h;cases ps with | nil=>simp[evs] | cons _ _=>simp at h
 | succ n ih =>
  intro ps h;have hne:ps≠[]:=λ e=>by simp[e] at h
  rw[<- List.dropLast_concat_getLast hne,eE,List.length_append];have:=ih ps.dropLast (by rw[List.length_dropLast];omega);have:=qV (ps.getLast hne) (ps.dropLast.length+1);omega
theorem zp:∀ n (ps:List Pt),ps.length=n->(evs ps).Pairwise Lk:=by
 intro n
 induction n with
 | zero=>intro ps h;cases ps with | nil=>simp[evs] | cons _ _=>simp at h
 | succ n ih =>
  intro ps h;have hne:ps≠[]:=λ e=>by simp[e] at h
  rw[<- List.dropLast_concat_getLast hne,eE];refine List.pairwise_append.mpr ⟨ih _ (by rw[List.length_dropLast];omega),zf _ _,λ a ha b hb=>?_⟩;have h1:=zJ a ha;have h2:=(oO hb).1;exact .inl (by omega)
abbrev Cs:=List (List Str)
def arr(C:Cs)(d:Nat)(z:Str):Option Nat:=((List.range C.length).find? λ i=>decide (d<=i+1)&&!decide (z∈C.getD i [])).map (· + 1)
theorem gf{C:Cs}{c:List Str}{i:Nat}(h:i<C.length):(C++[c]).getD i []=C.getD i []:=by simp[List.getD_eq_getElem?_getD,List.getElem?_append_left h]
theorem jm{C:Cs}{c:List Str}:(C++[c]).getD C.length []=c:=by simp[List.getD_eq_getElem?_getD]
theorem i5{α:Type}{p q:α->Bool}:∀ {l:List α},(∀ a∈l,p a=q a)->l.find? p=l.find? q
 | [],_=>rfl
 | a::l,h=>by rw[List.find?_cons,List.find?_cons,h a (by simp),i5 λ b hb=>h b (by simp[hb])]
theorem mD(C:Cs)(c:List Str)(d:Nat)(z:Str):arr (C++[c]) d z=(arr C d z).or (if (decide (d<=C.length+1)&&!decide (z∈c))=true then some (C.length+1) else none):=by
 unfold arr;rw[List.length_append,List.length_singleton,List.range_succ,List.find?_append];have e1:(List.range C.length).find? (λ i=>decide (d<=i+1)&&!decide (z∈(C++[c]).getD i []))=(List.range C.length).find? (λ i=>decide (d<=i+1)&&!decide (z∈C.getD i [])):=
  i5 λ i hi=>by rw[gf (List.mem_range.mp hi)]
 rw[e1,List.find?_singleton,jm];cases (List.range C.length).find? (λ i=>decide (d<=i+1)&&!decide (z∈C.getD i [])) with
 | some i=>rfl
 | none =>
  by_cases h:(decide (d<=C.length+1)&&!decide (z∈c))=true
  ·simp[h]
  ·simp[h]
theorem mV{C:Cs}{d t:Nat}{z:Str}(h:arr C d z=some t):∃ i,t=i+1/\i<C.length/\d<=i+1/\z ∉ C.getD i []/\∀ j,j<i->d<=j+1->z∈C.getD j []:=by
 unfold arr at h;obtain⟨i,hi,rfl⟩:=Option.map_eq_some_iff.mp h;rw[List.find?_range_eq_some] at hi;obtain⟨h1,h2,h3⟩:=hi;simp only[Bool.and_eq_true,decide_eq_true_eq,Bool.not_eq_true',decide_eq_false_iff_not] at h1;refine⟨i,rfl,List.mem_range.mp h2,h1.1,h1.2,λ j hj hd=>?_⟩;have:=h3 j hj
 simpa [hd] using this
theorem sP{C:Cs}{d:Nat}{z:Str}(h:C.length<d):arr C d z=none:=by
 unfold arr;rw[List.find?_eq_none.mpr λ i hi=>?_]
 ·rfl
 ·have:=List.mem_range.mp hi;simp;omega
theorem o4{C:Cs}{d i:Nat}{z:Str}(hi:i<C.length)(hd:d<=i+1)(hz:z ∉ C.getD i []):arr C d z≠none:=by
 unfold arr;intro h;rw[Option.map_eq_none_iff,List.find?_eq_none] at h;exact h i (List.mem_range.mpr hi) (by simp only[Bool.and_eq_true,decide_eq_true_eq,Bool.not_eq_true',decide_eq_false_iff_not];exact⟨hd,hz⟩)
theorem qQ{α β:Type}(f f':α->Option β)(p:α->Bool)(h:α->β):∀ l:List α,(∀ a∈l,f' a=(f a).or (if p a=true then some (h a) else none))->(l.filterMap f').Perm (l.filterMap f++(l.filter λ a=>(f a).isNone&&p a).map h)
 | [],_=>by simp
 | a::l,k=>by
  have ih:=qQ f f' p h l λ b hb=>k b (by simp[hb]);have ka:=k a (by simp);cases e:f a with
  | some b =>
   rw[e,Option.some_or] at ka;rw[List.filterMap_cons_some ka,List.filterMap_cons_some e,List.filter_cons_of_neg (by simp[e])];exact ih.cons b
  | none =>
   rw[e,Option.none_or] at ka
   by_cases q:p a=true
   ·rw[if_pos q] at ka;rw[List.filterMap_cons_some ka,List.filterMap_cons_none e,List.filter_cons_of_pos (by simp[e,q]),List.map_cons];exact(ih.cons (h a)).trans List.perm_middle.symm
   ·rw[if_neg q] at ka;rw[List.filterMap_cons_none ka,List.filterMap_cons_none e,List.filter_cons_of_neg (by simp[e,q])];exact ih
def onR(C:Cs)(ps:List Pt):List Ev:=(evs ps).filter λ e=>(arr C e.d e.z).isNone
def pB(C:Cs)(ps:List Pt):List (Nat×Ev):=(evs ps).filterMap λ e=>(arr C e.d e.z).map λ t=>(t,e)
def Lg(a b:Nat×Ev):Prop:=a.1<b.1\/(a.1=b.1/\(a.2.d<b.2.d\/(a.2.d=b.2.d/\a.2.k<b.2.k)))
structure Gs(C:Cs)(ps:List Pt)(G:List (Nat×Ev)):Prop where
 pw:G.Pairwise Lg
 pm:G.Perm (pB C ps)
theorem zt{C:Cs}{ps:List Pt}{G:List (Nat×Ev)}(h:Gs C ps G){p:Pt}(hp:C.length<p.f):Gs C (ps++[p]) G/\onR C (ps++[p])=onR C ps++mkE p (ps.length+1):=by
 have hn:∀ e∈mkE p (ps.length+1),arr C e.d e.z=none:=λ e he=>sP (by rcases(oO he).2.2 with q | q<;>omega);refine⟨⟨h.pw,?_⟩,?_⟩
 ·unfold pB;rw[eE,List.filterMap_append];have:(mkE p (ps.length+1)).filterMap (λ e=>(arr C e.d e.z).map λ t=>(t,e))=[]:=by rw[List.filterMap_eq_nil_iff];intro e he;rw[hn e he];rfl
  rw[this,List.append_nil];exact h.pm
 ·unfold onR;rw[eE,List.filter_append];congr 1;rw[List.filter_eq_self];intro e he;rw[hn e he];rfl
theorem acB{C:Cs}{ps:List Pt}{G:List (Nat×Ev)}(h:Gs C ps G):∀ g∈G,g.1<=C.length:=by intro g hg;have:=h.pm.mem_iff.mp hg;unfold pB at this;obtain⟨e,_,he⟩:=List.mem_filterMap.mp this;obtain⟨t,ht,rfl⟩:=Option.map_eq_some_iff.mp he;obtain⟨i,rfl,hi,_⟩:=mV ht;show i+1<=C.length;omega
theorem vQ{C:Cs}{ps:List Pt}{G:List (Nat×Ev)}(h:Gs C ps G){c:List Str}{ct:Str->Bool}(hc:∀ e∈evs ps,ct e.z=decide (e.z∈c)){D':List Msg}
  (pm:D'.Perm (((onR C ps).map Ev.m).filter (due ct (C.length+1))))(od:∀ T:Msg->Msg->Prop,(((onR C ps).map Ev.m).filter (due ct (C.length+1))).Pairwise T->D'.Pairwise λ a b=>a.d<b.d\/(a.d=b.d/\T a b)) :
  ∃ L:List Ev,D'=L.map Ev.m/\Gs (C++[c]) ps (G++L.map λ e=>(C.length+1,e))/\(((onR C ps).map Ev.m).filter λ m=>!due ct (C.length+1) m)=(onR (C++[c]) ps).map Ev.m:=by
 have hdue:∀ e∈evs ps,due ct (C.length+1) e.m=(decide (e.d<=C.length+1)&&!decide (e.z∈c)):=λ e he=>by
  unfold due;rw[hc e he]
 have mem:∀ e∈onR C ps,e∈evs ps:=λ e he=>(List.mem_filter.mp he).1;have fl:∀ q:Msg->Bool,((onR C ps).map Ev.m).filter q=((onR C ps).filter λ e=>q e.m).map Ev.m:=λ q=>by rw[List.filter_map];rfl
 refine⟨D'.map evM,?_,⟨?_,?_⟩,?_⟩
 ·rw[List.map_map]
  conv=>lhs;rw[<- List.map_id D']
  refine List.map_congr_left λ m hm=>?_;have:=pm.mem_iff.mp hm;rw[fl] at this;obtain⟨e,_,rfl⟩:=List.mem_map.mp this;show e.m=(evM e.m).m;rw[xS]
 ·refine List.pairwise_append.mpr ⟨h.pw,?_,λ a ha b hb=>?_⟩
  ·rw[List.pairwise_map,List.pairwise_map];refine(od (λ a b=>Lk (evM a) (evM b)) ?_).imp_of_mem λ {a b} ha hb z=>?_
   ·rw[fl,List.pairwise_map];simp only[xS];exact((zp _ ps rfl).filter _).filter _
   ·refine .inr ⟨rfl,?_⟩;show a.d<b.d\/(a.d=b.d/\(evM a).k<(evM b).k);rcases z with z | ⟨z1,z2⟩
    ·exact .inl z
    ·refine .inr ⟨z1,?_⟩;rcases z2 with z2 | ⟨_,z2⟩
     ·exact z2
     ·exact absurd z2 (by show ¬ a.d<b.d;omega)
  ·have:=acB h a ha;obtain⟨e,_,rfl⟩:=List.mem_map.mp hb;exact .inl (by show a.1<C.length+1;omega)
 ·unfold pB;refine List.Perm.trans ?_ (qQ (λ e=>(arr C e.d e.z).map λ t=>(t,e)) (λ e=>(arr (C++[c]) e.d e.z).map λ t=>(t,e)) (λ e=>decide (e.d<=C.length+1)&&!decide (e.z∈c)) (λ e=>(C.length+1,e)) (evs ps) λ e he=>?_).symm
  ·refine List.Perm.append h.pm (List.Perm.map _ ?_);have:=pm.map evM;rw[fl,List.map_map] at this;have e1:((onR C ps).filter λ e=>due ct (C.length+1) e.m).map (evM ∘ Ev.m)=(onR C ps).filter λ e=>due ct (C.length+1) e.m:=by
    conv=>rhs;rw[<- List.map_id ((onR C ps).filter λ e=>due ct (C.length+1) e.m)]
    exact List.map_congr_left λ e _=>xS e
   rw[e1] at this;refine this.trans (List.Perm.of_eq ?_);unfold onR;rw[List.filter_filter];refine List.filter_congr λ e he=>?_;rw[hdue e he,Option.isNone_map,Bool.and_comm]
  ·rw[mD];cases arr C e.d e.z with
   | some t=>rfl
   | none =>
    rw[Option.none_or]
    split<;>rfl
 ·rw[fl];congr 1;unfold onR;rw[List.filter_filter];refine List.filter_congr λ e he=>?_;rw[hdue e he,mD];cases arr C e.d e.z with
  | some t=>simp
  | none =>
   rw[Option.none_or]
   by_cases q:(decide (e.d<=C.length+1)&&!decide (e.z∈c))=true
   ·rw[if_pos q,q];rfl
   ·rw[if_neg q,Bool.eq_false_iff.mpr q];rfl
def val(C:Cs)(e:Ev):Nat×Ev:=((arr C e.d e.z).getD 0,e)
abbrev lp(g:Nat×Ev):List PyData:=[.int (g.1:Nat),.int (g.2.d:Nat),.int (g.2.k:Nat),.str g.2.z]
theorem mx{α β:Type}{f g:α->Option β}:∀ {l:List α},(∀ a∈l,f a=g a)->l.filterMap f=l.filterMap g
 | [],_=>rfl
 | a::l,h=>by rw[List.filterMap_cons,List.filterMap_cons,h a (by simp),mx λ b hb=>h b (by simp[hb])]
theorem yF{C:Cs}{ps:List Pt}{G:List (Nat×Ev)}(h:Gs C ps G)(ha:∀ e∈evs ps,arr C e.d e.z≠none):onR C ps=[]/\G.Perm ((evs ps).map (val C)):=by
 constructor
 ·unfold onR;rw[List.filter_eq_nil_iff];intro e he;have:=ha e he;cases q:arr C e.d e.z with
  | none=>exact absurd q this
  | some t=>simp
 ·refine h.pm.trans (List.Perm.of_eq ?_);unfold pB;rw[<- List.filterMap_eq_map];refine mx λ e he=>?_;have:=ha e he;unfold val;cases q:arr C e.d e.z with
  | none=>exact absurd q this
  | some t=>simp[q]
theorem l6{G:List (Nat×Ev)}(h:G.Pairwise Lg):(G.map lp).Pairwise λ x y=>S.bT y x=false:=by
 rw[List.pairwise_map];refine h.imp λ {a b} z=>?_;rcases z with z | ⟨z1,z | ⟨z2,z⟩⟩
 ·have e1:¬ (b.1:Int)=a.1:=by omega
  have e2:¬ (b.1:Int)<a.1:=by omega
  simp[S.bT,S.sEq,S.sLt,e1,e2]
 ·have e1:(b.1:Int)=a.1:=by omega
  have e3:¬ (b.2.d:Int)=a.2.d:=by omega
  have e4:¬ (b.2.d:Int)<a.2.d:=by omega
  simp[S.bT,S.sEq,S.sLt,e1,e3,e4]
 ·have e1:(b.1:Int)=a.1:=by omega
  have e2:(b.2.d:Int)=a.2.d:=by omega
  have e3:¬ (b.2.k:Int)=a.2.k:=by omega
  have e4:¬ (b.2.k:Int)<a.2.k:=by omega
  simp[S.bT,S.sEq,S.sLt,e1,e2,e3,e4]
theorem tJ{G:List (Nat×Ev)}{L:List (Nat×Ev)}(h:G.Pairwise Lg)(p:G.Perm L){rows:List (List PyData)}(q:rows.Perm (L.map lp))(s:rows.Pairwise λ x y=>S.bT y x=false):rows=G.map lp:=
 S.l8 (sh:=[false,false,false,true]) (λ r hr=>by obtain⟨g,_,rfl⟩:=List.mem_map.mp (q.mem_iff.mp hr);exact⟨⟨_,rfl⟩,⟨_,rfl⟩,⟨_,rfl⟩,⟨_,rfl⟩,trivial⟩) (q.trans (p.map _).symm) s (l6 h)
def cuK(C:Cs):List (Key×W):=(List.range C.length).map λ i=>(.inl ((i+1:Nat):Int),.d (dY (C.getD i [])))
theorem vJ{C:Cs}{i:Nat}(hi:i<C.length):il (cuK C) (.inl ((i+1:Nat):Int))=some (.d (dY (C.getD i []))):=by
 unfold il cuK;rw[List.find?_map];have:(List.range C.length).find? ((λ p:Key×W=>decide (p.1=.inl ((i+1:Nat):Int))) ∘ λ i=>(.inl ((i+1:Nat):Int),.d (dY (C.getD i []))))=some i:=by rw[List.find?_range_eq_some];refine⟨by simp,List.mem_range.mpr hi,λ j hj=>?_⟩;simp only[Function.comp,Bool.not_eq_true',decide_eq_false_iff_not];intro e;have:=Sum.inl.inj e;omega
 rw[this];rfl
theorem w5(C:Cs)(c:List Str):oE (cuK C) (.inl ((C.length+1:Nat):Int)) (.d (dY c))=cuK (C++[c]):=by
 unfold oE;rw[if_neg]
 ·unfold cuK;rw[List.length_append,List.length_singleton,List.range_succ,List.map_append,List.map_singleton,jm];congr 1;refine List.map_congr_left λ i hi=>?_;rw[gf (List.mem_range.mp hi)]
 ·intro h;obtain⟨p,hp,e⟩:=List.any_eq_true.mp h;obtain⟨i,hi,rfl⟩:=List.mem_map.mp hp;have:=Sum.inl.inj (of_decide_eq_true e);have:=List.mem_range.mp hi;omega
theorem aaQ(zs:List Str):xj zs=(zs.map PyData.str).map W.d:=by rw[List.map_map];rfl
def aC:SpD:=λ ws M Q=>∃ (d t:Nat) (z:Str) (C:Cs) (u:Addr),ws=[.d (.int (d:Nat)),.d (.str z),.m u,.d (.int (C.length:Nat))]/\M u=some (.dic (cuK C))/\1<=d/\arr C d z=some t/\Q (.d (.int (t:Nat))) M
theorem iu:∀ ws M Q,aC ws M Q->ws.length=4:=by rintro ws M Q ⟨d,t,z,C,u,rfl,_⟩;rfl
theorem gX:∀ ws M Q,aC ws M Q->fI {nx:=λ _ M'=>Q (.d .none) M',rt:=Q} (bG fo ws) M:=by
 rintro ws M Q ⟨d,t,z,C,u,rfl,hu,h1,ha,k⟩;obtain⟨i,rfl,hi,hd,hz,hb⟩:=mV ha;refine⟨_,rfl,λ m τ M'=>M'=M/\∃ c:Nat,d<=c/\c<=i+1/\m=i+1-c/\τ=[some (.d (.int (d:Nat))),some (.d (.str z)),some (.m u),some (.d (.int (C.length:Nat))),some (.d (.int (c:Nat)))],⟨_,rfl,d,Nat.le_refl _,hd,rfl,rfl⟩,?_⟩;rintro m τ M' ⟨rfl,c,c1,c2,rfl,rfl⟩;refine⟨_,rfl,_,rfl,_,_,rfl,rfl,_,rfl,?_⟩;rw[dlt]
 by_cases hc:c<C.length
 ·rw[decide_eq_true hc];obtain⟨j,rfl⟩:∃ j,c=j+1:=⟨c-1,by omega⟩;refine yv ⟨_,rfl,_,rfl,_,rfl,u,_,.inl ((j+1:Nat):Int),_,rfl,.inl hu,rfl,vJ (by omega),z,C.getD j [],rfl,by rw[aaQ];exact .l,_,rfl,?_⟩;rw[if_neg Bool.false_ne_true]
  by_cases q:j<i
  ·rw[decide_eq_true (hb j q (by omega))];refine yv ⟨_,rfl,.inl ⟨_,_,rfl,rfl,i+1-(j+1+1),by omega,rfl,j+1+1,by omega,by omega,rfl,?_⟩⟩;rfl
  ·have e:j=i:=by omega
   subst e;rw[decide_eq_false hz];exact vL ⟨_,rfl,k⟩
 ·rw[decide_eq_false hc];have e:c=i+1:=by omega
  subst e;exact vL (vL ⟨_,rfl,k⟩)
inductive Ro | t | r | x | y | z | g | h | l (a:Str) | p | c | u
deriving DecidableEq
structure Ad where
 r:Addr
 x:Addr
 y:Addr
 z:Addr
 h:Addr
 p:Addr
 c:Addr
 u:Addr
 L:Str->Addr
 N:List Str
structure St where
 a:Str->Nat
 b:Str->Nat
 c:Str->Bool
 g:Addr
 ms:List Msg
 ps:List Pt
 cm:List PyData
 C:Cs
abbrev hL(S:St)(z:Str):MO:=.lst [.d (.int (S.a z:Nat)),.d (.int (S.b z:Nat)),.d (.bool (S.c z))]
def cells(A:Ad)(S:St):Ro->Option (Addr×MO)
 | .t=>some (ak,cdC)
 | .r=>some (A.r,.ins ae (FR A.x A.y A.z S.g))
 | .x=>some (A.x,.dic (kf A.N (nW S.a)))
 | .y=>some (A.y,.dic (kf A.N (bW λ z=>decide (S.b z=1))))
 | .z=>some (A.z,.dic (kf A.N (bW S.c)))
 | .g=>some (S.g,msW S.ms)
 | .h=>some (A.h,.dic (kf A.N λ z=>.m (A.L z)))
 | .l z=>if z∈A.N then some (A.L z,hL S z) else none
 | .p=>some (A.p,.lst (S.ps.map λ p=>W.d p.D))
 | .c=>some (A.c,.lst (S.cm.map W.d))
 | .u=>some (A.u,.dic (cuK S.C))
section
variable {A:Ad}{S:St}{z:Str}
theorem mB(hz:z∈A.N):cells A S (.l z)=some (A.L z,hL S z):=if_pos hz
theorem yc(hz:z∈A.N)(n:Nat):cf (cf (cells A S) (.l z) (A.L z,.lst [.d (.int (n:Nat)),.d (.int (S.b z:Nat)),.d (.bool (S.c z))])) .x (A.x,.dic (kf A.N (nW (cF S.a z n))))=cells A {S with a:=cF S.a z n}:=by
 funext d;cases d with
 | l y =>
  by_cases e:y=z
  ·subst e;simp[cf,cells,hL,cF,hz]
  ·simp[cf,cells,hL,cF,e]
 | _=>simp[cf,cells]
theorem wj(hz:z∈A.N)(n:Nat):cf (cf (cells A S) (.l z) (A.L z,.lst [.d (.int (S.a z:Nat)),.d (.int (n:Nat)),.d (.bool (S.c z))])) .y (A.y,.dic (kf A.N (bW (cF (λ z=>decide (S.b z=1)) z (decide (n=1))))))=cells A {S with b:=cF S.b z n}:=by
 have e0:cF (λ z=>decide (S.b z=1)) z (decide (n=1))=λ y=>decide (cF S.b z n y=1):=by
  funext y;unfold cF;by_cases e:y=z<;>simp[e]
 rw[e0];funext d;cases d with
 | l y =>
  by_cases e:y=z
  ·subst e;simp[cf,cells,hL,cF,hz]
  ·simp[cf,cells,hL,cF,e]
 | _=>simp[cf,cells]
theorem pj(hz:z∈A.N)(n:Bool):cf (cf (cells A S) (.l z) (A.L z,.lst [.d (.int (S.a z:Nat)),.d (.int (S.b z:Nat)),.d (.bool n)])) .z (A.z,.dic (kf A.N (bW (cF S.c z n))))=cells A {S with c:=cF S.c z n}:=by
 funext d;cases d with
 | l y =>
  by_cases e:y=z
  ·subst e;simp[cf,cells,hL,cF,hz]
  ·simp[cf,cells,hL,cF,e]
 | _=>simp[cf,cells]
theorem xQ(g':Addr)(ms:List Msg):cf (cf (cells A S) .r (A.r,.ins ae (FR A.x A.y A.z g'))) .g (g',msW ms)=cells A {S with g:=g',ms:=ms}:=by
 funext d;cases d<;>simp[cf,cells,hL]
theorem xV(ms:List Msg):cf (cells A S) .g (S.g,msW ms)=cells A {S with ms:=ms}:=by
 funext d;cases d<;>simp[cf,cells,hL]
theorem vK(ps:List Pt):cf (cells A S) .p (A.p,.lst (ps.map λ p=>W.d p.D))=cells A {S with ps:=ps}:=by
 funext d;cases d<;>simp[cf,cells,hL]
theorem ux(cm:List PyData):cf (cells A S) .c (A.c,.lst (cm.map W.d))=cells A {S with cm:=cm}:=by
 funext d;cases d<;>simp[cf,cells,hL]
theorem xN(C:Cs):cf (cells A S) .u (A.u,.dic (cuK C))=cells A {S with C:=C}:=by
 funext d;cases d<;>simp[cf,cells,hL]
end
def aE:SpD:=λ ws M Q=>∃ (b:Addr) (A:Ad) (S:St) (z:Str),ws=[.m b,.m A.r,.m A.h,.d (.str z)]/\Wd M b (cells A S)/\z∈A.N/\A.N.length<=60/\(∀ y,S.a y<=2)/\(∀ y,S.b y<=1) /\
 ∀ a' b' c' M',(∀ y,a' y<=2)->(∀ y,b' y<=1)->Wd M' b (cells A {S with a:=a',b:=b',c:=c'})->Q (.d .none) M'
theorem jd:∀ ws M Q,aE ws M Q->ws.length=4:=by rintro ws M Q ⟨b,A,S,z,rfl,_⟩;rfl
theorem qw{f:Str->Nat}{z:Str}{n k:Nat}(h:∀ y,f y<=k)(hn:n<=k):∀ y,cF f z n y<=k:=λ y=>by unfold cF;split;exact hn;exact h y
theorem iC:∀ ws M Q,aE ws M Q->g6 ay bq a6 bE aB {nx:=λ _ M'=>Q (.d .none) M',rt:=Q} (bG hZ ws) M:=by
 rintro ws M Q ⟨b,A,S,z,rfl,W,hz,hl,ha,hb,k⟩;have oR:cells A S .r=_:=rfl;have oX:cells A S .x=_:=rfl;have oY:cells A S .y=_:=rfl;have oZ:cells A S .z=_:=rfl;have oH:cells A S .h=_:=rfl;refine⟨_,rfl,b,7,rfl,W.bg,by decide,by decide,λ w M1 _ _ bg f=>?_⟩;have W1:=W.take bg f;clear f bg W;refine⟨_,rfl,_,_,rfl,rfl,_,rfl,eJ (λ _=>?_) (λ _=>⟨_,rfl,_,_,rfl,rfl,_,rfl,eJ (λ _=>?_) (λ _=>?_)⟩)⟩
 ·refine⟨_,rfl,b,3,rfl,W1.bg,by decide,by decide,λ v M2 v0 v1 bg f=>?_⟩;have W2:=W1.take bg f;obtain⟨n,rfl⟩:∃ n:Nat,v=(n:Int):=⟨v.toNat,by omega⟩;refine⟨_,rfl,_,rfl,A.h,_,.inr z,_,rfl,.inl (W2.at' oH),rfl,cC hz,A.L z,_,0,0,rfl,rfl,W2.at' (mB hz),rfl,?_⟩;have W3:=W2.set (.lst [.d (.int (n:Nat)),.d (.int (S.b z:Nat)),.d (.bool (S.c z))]) (mB hz);have gl:cf (cells A S) (.l z) (A.L z,.lst [.d (.int (n:Nat)),.d (.int (S.b z:Nat)),.d (.bool (S.c z))]) (.l z)=_:=if_pos rfl;refine⟨_,rfl,A.r,_,rfl,W3.at' (c:=.r) rfl,ach (x:=A.x) (y:=A.y) (z:=A.z) (g:=S.g),_,rfl,_,rfl,_,rfl,A.h,_,.inr z,_,rfl,.inl (W3.at' (c:=.h) rfl),rfl,cC hz,0,_,rfl,nF (W3.at' gl) rfl,rfl,?_⟩;refine⟨A.r,A.x,A.y,A.z,S.g,A.N,S.a,z,n,rfl,W3.at' (c:=.r) rfl,W3.at' (c:=.x) rfl,hz,hl,?_⟩;refine k (cF S.a z n) S.b S.c _ (qw ha (by omega)) hb ?_;rw[<- yc hz];exact W3.set (c:=.x) _ rfl
 ·refine⟨_,rfl,b,2,rfl,W1.bg,by decide,by decide,λ v M2 v0 v1 bg f=>?_⟩;have W2:=W1.take bg f;obtain⟨n,rfl⟩:∃ n:Nat,v=(n:Int):=⟨v.toNat,by omega⟩;refine⟨_,rfl,_,rfl,A.h,_,.inr z,_,rfl,.inl (W2.at' oH),rfl,cC hz,A.L z,_,1,1,rfl,rfl,W2.at' (mB hz),rfl,?_⟩;have W3:=W2.set (.lst [.d (.int (S.a z:Nat)),.d (.int (n:Nat)),.d (.bool (S.c z))]) (mB hz);have gl:cf (cells A S) (.l z) (A.L z,.lst [.d (.int (S.a z:Nat)),.d (.int (n:Nat)),.d (.bool (S.c z))]) (.l z)=_:=if_pos rfl;refine⟨_,rfl,A.r,_,rfl,W3.at' (c:=.r) rfl,abH (x:=A.x) (y:=A.y) (z:=A.z) (g:=S.g),_,rfl,_,rfl,_,rfl,A.h,_,.inr z,_,rfl,.inl (W3.at' (c:=.h) rfl),rfl,cC hz,1,_,rfl,nF (W3.at' gl) rfl,rfl,_,_,.d,.d,rfl,?_⟩;have e1:PyData.eqv (.int (n:Nat)) (.int 1)=decide (n=1):=by
   rw[rB]
   by_cases q:n=1
   ·subst q;rfl
   ·rw[decide_eq_false q];exact beq_eq_false_iff_ne.mpr (by omega)
  rw[e1];refine⟨A.r,A.x,A.y,A.z,S.g,A.N,λ z=>decide (S.b z=1),z,decide (n=1),rfl,W3.at' (c:=.r) rfl,W3.at' (c:=.y) rfl,hz,hl,?_⟩;refine k S.a (cF S.b z n) S.c _ ha (qw hb (by omega)) ?_;rw[<- wj hz];exact W3.set (c:=.y) _ rfl
 ·refine⟨_,rfl,_,_,.d,.d,rfl,_,rfl,?_⟩;have main:∀ n:Bool,Wd (aT (aT M1 (A.L z) (.lst [.d (.int (S.a z:Nat)),.d (.int (S.b z:Nat)),.d (.bool n)])) A.z (.dic (kf A.N (bW (cF S.c z n))))) b (cells A {S with c:=cF S.c z n}):=λ n=>by rw[<- pj hz];exact(W1.set _ (mB hz)).set (c:=.z) _ rfl
  have o1:∀ n:Bool,aT M1 (A.L z) (.lst [.d (.int (S.a z:Nat)),.d (.int (S.b z:Nat)),.d (.bool n)]) A.r=some (.ins ae (FR A.x A.y A.z S.g)):=λ n=>(W1.set _ (mB hz)).at' (c:=.r) rfl;have o2:∀ n:Bool,aT M1 (A.L z) (.lst [.d (.int (S.a z:Nat)),.d (.int (S.b z:Nat)),.d (.bool n)]) A.z=some (.dic (kf A.N (bW S.c))):=λ n=>(W1.set _ (mB hz)).at' (c:=.z) rfl;refine eJ (λ _=>?_) (λ _=>?_)
  ·refine⟨_,rfl,_,rfl,A.h,_,.inr z,_,rfl,.inl (W1.at' oH),rfl,cC hz,A.L z,_,2,2,rfl,rfl,W1.at' (mB hz),rfl,?_⟩;refine⟨_,rfl,A.r,_,rfl,o1 true,abd (x:=A.x) (y:=A.y) (z:=A.z) (g:=S.g),_,rfl,A.r,A.x,A.y,A.z,S.g,A.N,S.c,z,rfl,o1 true,o2 true,hz,hl,?_⟩;exact k S.a S.b (cF S.c z true) _ ha hb (main true)
  ·refine⟨_,rfl,_,rfl,A.h,_,.inr z,_,rfl,.inl (W1.at' oH),rfl,cC hz,A.L z,_,2,2,rfl,rfl,W1.at' (mB hz),rfl,?_⟩;refine⟨_,rfl,A.r,_,rfl,o1 false,aaq (x:=A.x) (y:=A.y) (z:=A.z) (g:=S.g),_,rfl,A.r,A.x,A.y,A.z,S.g,A.N,S.c,z,rfl,o1 false,o2 false,hz,hl,?_⟩;exact k S.a S.b (cF S.c z false) _ ha hb (main false)
def pT:TSd:=(j7 (ai 7) (ai 10) (dLC (bV (ai 2)) (gN 0) (bP (dOp du (cT (ai 1) (ai 0)) (dI 2))) (ai 0) 1 [4]))
def rM(aF:SpD):TSd:=(lq (bV (cY ae "come" aF (ai 3) (aa (ai 10) (aR)))) (gT 2 (bo (gN 11) (bo (gN 12) (i9))))
    (cW (cL (ai 6) (oy (aa (ai 10) (aa (ai 11) (aa (ai 12) (aR))))))))
def pG(ay aE aJ:SpD):TSd:=(dIf (bP (dOp aa5 (ai 10) (ai 8)))
    (bb (lq (ip (aa (bS ay (aa (ai 1) (aa (dI 4) (aR)))) (aR))) (gN 13)
     (cW (bS aE (aa (ai 1) (aa (ai 3) (aa (ai 4) (aa (dOp du (ai 2) (bS ay (aa (ai 1) (aa (dCB gu (aa (ai 2) (aR))) (aR))))) (aR)))))))) <|
    lq (ip (aa (bS ay (aa (ai 1) (aa (dI 5) (aR)))) (aR))) (gN 13)
     (bb (bR (dOp du (ai 2) (bS ay (aa (ai 1) (aa (dCB gu (aa (ai 2) (aR))) (aR))))) (gN 11)) <|
     bb (cW (cL (ai 5) (oy (aa (ai 11) (aa (dOp bC (dOp bC (ai 10) (dI 1)) (dOp du (cT (ai 4) (ai 11)) (dI 0))) (aa (dOp du (cT (ai 4) (ai 11)) (dI 1)) (aR))))))) <|
     cW (cY ae "put" aJ (ai 3) (aa (ai 11) (aa (dCB gu (aa (ai 5) (aR))) (aa (ai 10) (aR)))))))
    (dM))
def lx(aB:SpD):TSd:=dIf (bP (dOp jt (ai 10) (ai 8)))
    (lq (bV (ai 2)) (gN 11)
     (bb (bR (dC (.d (.bool false))) (lA (cT (ai 4) (ai 11)) (dI 2))) <|
     cW (cY ae "join" aB (ai 3) (aa (ai 11) (aR)))))
    (dM)
def u4(aC:SpD):TSd:=(lq (ip (aa (dCB gu (aa (ai 5) (aR))) (aR))) (gN 13)
   (bb (bR (dOp du (ai 5) (ai 13)) (gT 3 (bo (gN 11) (bo (gN 15) (bo (gN 16) (i9)))))) <|
   lq (ip (aa (dOp bC (dI 1) (ai 16)) (aR))) (gN 17)
    (bb (bR (bS aC (aa (dOp bC (ai 15) (ai 17)) (aa (ai 11) (aa (ai 7) (aa (ai 9) (aR)))))) (gN 10)) <|
    cW (cL (ai 14) (oy (aa (ai 10) (aa (dOp bC (ai 15) (ai 17)) (aa (dOp bC (ai 13) (dI 1)) (aa (ai 11) (aR))))))))))
abbrev sx(g:Nat×Ev):PyData:=.tuple [.int (g.1:Nat),.str g.2.z,.int (g.2.k:Nat)]
structure Iv(A:Ad)(m:Nat)(S:St)(G:List (Nat×Ev)):Prop where
 gs:Gs S.C S.ps G
 ms:S.ms=(onR S.C S.ps).map Ev.m
 cm:S.cm=G.map sx
 pz:∀ p∈S.ps,p.z∈A.N/\2<=p.f/\p.f<=m+3/\p.w<=1
 ha:∀ z,S.a z<=2
 hb:∀ z,S.b z<=1
 cu:∀ i,m<=i->i<S.C.length->S.C.getD i []=[]
abbrev Tau(A:Ad)(b:Addr)(m:Nat)(x0 x10 x11 x12 x13:Option W):DS:=[x0,some (.m b),some (.d (dY A.N)),some (.m A.r),some (.m A.h),some (.m A.p),some (.m A.c),some (.m A.u),some (.d (.int (m:Nat))),some (.d (.int ((m+6:Nat):Int))),x10,x11,x12,x13,none,none,none,none,none]
abbrev iW(t:Nat):Option W:=some (.d (.int (t:Nat)))
theorem Iv.set{A:Ad}{m:Nat}{S:St}{G:List (Nat×Ev)}(I:Iv A m S G){a' b':Str->Nat}(c':Str->Bool)(ha:∀ z,a' z<=2)(hb:∀ z,b' z<=1):Iv A m {S with a:=a',b:=b',c:=c'} G:=⟨I.gs,I.ms,I.cm,I.pz,ha,hb,I.cu⟩
theorem yU{A:Ad}{ps:List Pt}(h:∀ p∈ps,p.z∈A.N):∀ e∈evs ps,e.z∈A.N:=lE _ ps λ i p hp e he=>by rw[(oO he).2.1];exact h p (List.mem_of_getElem? hp)
theorem so(C:Cs)(ps:List Pt):(onR C ps).length<=2 * ps.length:=Nat.le_trans (List.length_filter_le _ _) (jQ _ ps rfl)
theorem rO{C:Cs}{ps:List Pt}{G:List (Nat×Ev)}(h:Gs C ps G):G.length<=2 * ps.length:=by rw[h.pm.length_eq];exact Nat.le_trans (List.length_filterMap_le _ _) (jQ _ ps rfl)
def zu(c:Str->Bool):W->Option PyData
 | .d (.str z)=>if c z=true then some (.str z) else none
 | _=>none
theorem nD(c:Str->Bool):∀ N:List Str,(N.map λ z=>W.d (.str z)).filterMap (zu c)=(N.filter c).map PyData.str
 | []=>rfl
 | z::N=>by
  rw[List.map_cons,List.filterMap_cons,nD c N]
  by_cases h:c z=true
  ·simp[zu,h]
  ·simp[zu,h]
section
variable {A:Ad}{b:Addr}{m:Nat}{x0 x10 x11 x12 x13:Option W}{S:St}{M:MH}{D:Ed}{G:List (Nat×Ev)}
theorem wF{t:Nat}(wh:Wd M b (cells A S))(hl:A.N.length<=60)(hC:S.C.length+1=t)(ht:t<=1000)(k:∀ M',Wd M' b (cells A {S with C:=S.C++[A.N.filter S.c]})->D.nx (Tau A b m x0 (iW t) x11 x12 x13) M'):pT D (Tau A b m x0 (iW t) x11 x12 x13) M:=by
 have sl:=s16;refine⟨_,rfl,_,rfl,?_⟩;refine jg (zu S.c) (by rw[List.length_map,List.length_map];omega) (λ w hw P' hp=>?_) ?_
 ·rw[List.map_map] at hw;obtain⟨z,hz,rfl⟩:=List.mem_map.mp hw;refine⟨_,rfl,_,rfl,A.h,_,.inr z,_,rfl,.inl (wh.at' (c:=.h) rfl),rfl,cC hz,2,_,rfl,nF (wh.at' (mB hz)) rfl,rfl,_,rfl,?_⟩;have hp':P' (if S.c z=true then some (.str z) else none):=hp;refine eJ (λ h=>?_) (λ h=>?_)
  ·rw[h,if_pos rfl] at hp';exact⟨_,rfl,_,rfl,rfl,hp'⟩
  ·rw[h,if_neg Bool.false_ne_true] at hp';exact⟨rfl,hp'⟩
 rw[List.map_map];have e1:(A.N.map (W.d ∘ PyData.str)).filterMap (zu S.c)=(A.N.filter S.c).map PyData.str:=nD S.c A.N;rw[e1];have hlen:(cuK S.C).length<sizeLine:=by simp[cuK];omega
 refine⟨_,rfl,_,rfl,A.u,_,.inl ((S.C.length+1:Nat):Int),rfl,wh.at' (c:=.u) rfl,by rw[hC];rfl,hlen,?_⟩;rw[w5];refine k _ ?_;rw[<- xN];exact wh.set (c:=.u) _ rfl
theorem xp{t:Nat}{C0:Cs}(wh:Wd M b (cells A S))(eC:S.C=C0++[A.N.filter S.c])(ht:t=C0.length+1)(gs:Gs C0 S.ps G)(ems:S.ms=(onR C0 S.ps).map Ev.m)(ecm:S.cm=G.map sx)(pz:∀ p∈S.ps,p.z∈A.N)(hl:S.ps.length<=200)
  (k:∀ g' L x11 x12 M',Gs S.C S.ps (G++L)->Wd M' b (cells A {S with g:=g',ms:=(onR S.C S.ps).map Ev.m,cm:=(G++L).map sx})->D.nx (Tau A b m x0 (iW t) x11 x12 x13) M'):rM aF D (Tau A b m x0 (iW t) x11 x12 x13) M:=by
 have sl:=s16;have hz:=yU pz;have lm:=so C0 S.ps;have lg:=rO gs;subst ht;refine⟨_,rfl,A.r,_,rfl,wh.at' (c:=.r) rfl,ab3 (x:=A.x) (y:=A.y) (z:=A.z) (g:=S.g),_,rfl,A.r,A.x,A.y,A.z,S.g,A.N,S.c,S.ms,C0.length+1,rfl,wh.at' (c:=.t) rfl,wh.at' (c:=.r) rfl,wh.at' (c:=.z) rfl,wh.at' (c:=.g) rfl,λ q hq=>?_,by rw[ems,List.length_map];omega,λ D' g' M1 pm od hg' hr1 hm1 f1=>?_⟩
 ·rw[ems] at hq;obtain⟨e,he,rfl⟩:=List.mem_map.mp hq;exact hz e (List.mem_filter.mp he).1
 have hc:∀ e∈evs S.ps,S.c e.z=decide (e.z∈A.N.filter S.c):=λ e he=>by have:=hz e he;simp[this]
 rw[ems] at pm od hm1;obtain⟨L,rfl,gs',em'⟩:=vQ gs hc pm od;rw[em',<- eC] at hm1;rw[<- eC] at gs';have W1:=wh.move (c:=.r) (d:=.g) (λ e=>nomatch e) rfl rfl hg' hr1 hm1 f1;rw[xQ] at W1;have lL:L.length<=400:=by have:=rO gs';rw[List.length_append,List.length_map] at this;omega
 refine⟨_,rfl,λ j τ M'=>j<=L.length/\Wd M' b (cells A {S with g:=g',ms:=(onR S.C S.ps).map Ev.m,cm:=(G++(L.take j).map λ e=>(C0.length+1,e)).map sx})/\∃ x11 x12,τ=Tau A b m x0 (iW (C0.length+1)) x11 x12 x13,⟨Nat.zero_le _,?_,_,_,rfl⟩,?_,?_⟩
 ·rw[List.take_zero,List.map_nil,List.append_nil,<- ecm];exact W1
 ·rintro j w τ M' hw ⟨hj,W',y11,y12,rfl⟩;rw[List.map_map,List.map_map] at hw;obtain⟨e,he,rfl⟩:=iS hw;have hj':=(List.getElem?_eq_some_iff.mp he).1;refine⟨_,rfl,rfl,_,_,rfl,_,_,rfl,rfl,?_⟩;refine⟨_,rfl,A.c,_,rfl,W'.at' (c:=.c) rfl,_,rfl,_,rfl,_,rfl,_,rfl,(show 3<=sizeLine by omega),_,W'.at' (c:=.c) rfl,?_,hj',?_,_,_,rfl⟩
  ·rw[List.length_map,List.length_map,List.length_append,List.length_map,List.length_take];omega
  ·have ht:L.take (j+1)=L.take j++[e]:=by rw[List.take_succ,he];rfl
   have e2:((G++(L.take j).map λ e=>(C0.length+1,e)).map sx).map W.d++[W.d (.tuple [.int ((C0.length+1:Nat):Int),.str e.z,.int (e.k:Nat)])]=((G++(L.take (j+1)).map λ e=>(C0.length+1,e)).map sx).map W.d:=by rw[ht];simp
   rw[e2];have:=W'.set (c:=.c) (.lst (((G++(L.take (j+1)).map λ e=>(C0.length+1,e)).map sx).map W.d)) rfl;rw[ux] at this;exact this
 ·rintro τ M' ⟨_,W',y11,y12,rfl⟩;have e3:L.take (((L.map Ev.m).map Msg.T).map W.d).length=L:=List.take_of_length_le (by simp);rw[e3] at W';exact k g' _ y11 y12 M' gs' W'
end
section
variable {A:Ad}{b:Addr}{m:Nat}{x0 x10 x11 x12 x13:Option W}{S:St}{M:MH}{D:Ed}{G:List (Nat×Ev)}
theorem vn{M:MH}{a:Addr}{l:List W}(h:M a=some (.lst l)):sE M (.m a)=some l.length:=by simp only[sE,h]
theorem acN(N:List Str)(h:1<=N.length)(r:Int)(h0:0<=r)(h1:r<(N.length:Nat))(M:MH):∃ z,z∈N/\ixW M (.d (dY N)) r=some (.d (.str z)):=by
 obtain⟨i,rfl⟩:∃ i:Nat,r=(i:Int):=⟨r.toNat,by omega⟩;have hi:i<N.length:=by omega
 refine⟨N[i],List.getElem_mem _,?_⟩;show(atI (N.map PyData.str) (i:Int)).map W.d=_;rw[oU (by omega) (by rw[List.length_map];omega)];simp
theorem xi(S:St)(z:Str)(k t:Nat):news S.a (λ z=>decide (S.b z=1)) z (.int (k:Nat)) t=(mkE ⟨z,t+1+S.a z,S.b z⟩ k).map Ev.m:=by
 unfold news mkE
 by_cases h:S.b z=1<;>simp[h]
theorem Iv.put(I:Iv A m S G){z:Str}(hz:z∈A.N)(hC:1<=S.C.length)(hm:S.C.length<=m):Iv A m {S with ms:=S.ms++news S.a (λ z=>decide (S.b z=1)) z (.int ((S.ps.length+1:Nat):Int)) S.C.length,ps:=S.ps++[⟨z,S.C.length+1+S.a z,S.b z⟩]} G:=by
 have h2:=I.ha z;obtain⟨g1,g2⟩:=zt I.gs (p:=⟨z,S.C.length+1+S.a z,S.b z⟩) (by show S.C.length<S.C.length+1+S.a z;omega);refine⟨g1,?_,I.cm,λ p hp=>?_,I.ha,I.hb,I.cu⟩
 ·show S.ms++_=(onR S.C (S.ps++[_])).map Ev.m;rw[g2,List.map_append,I.ms,xi]
 ·rcases List.mem_append.mp hp with hp | hp
  ·exact I.pz p hp
  ·rw[List.mem_singleton.mp hp];exact⟨hz,by show 2<=S.C.length+1+S.a z;omega,by show S.C.length+1+S.a z<=m+3;omega,I.hb z⟩
theorem xc{t:Nat}(wh:Wd M b (cells A S))(hn:1<=A.N.length)(hl:A.N.length<=60)(I:Iv A m S G)(hC:S.C.length=t)(h1:1<=t)(hp:S.ps.length<=150)
  (k:∀ S' x11 x13 M',Wd M' b (cells A S')->Iv A m S' G->S'.C=S.C->S'.ps.length<=S.ps.length+(if t<=m then 4 else 0)->(m<t->S'.c=S.c)->D.nx (Tau A b m x0 (iW t) x11 x12 x13) M'):pG ay aE aJ D (Tau A b m x0 (iW t) x11 x12 x13) M:=by
 have sl:=s16;refine⟨_,rfl,_,rfl,.inl ⟨_,_,rfl,rfl,_,rfl,?_⟩⟩;rw[dle]
 by_cases htm:t<=m
 ·rw[decide_eq_true htm];rw[if_pos htm] at k;refine yv ⟨_,rfl,b,4,rfl,wh.bg,by decide,by decide,λ r M1 r0 r1 bg f=>⟨r,rfl,by omega,by omega,?_⟩⟩;have W1:=wh.take bg f;clear bg f;refine⟨λ i τ M'=>∃ S' x13,Wd M' b (cells A S')/\Iv A m S' G/\S'.C=S.C/\S'.ps=S.ps/\τ=Tau A b m x0 (iW t) x11 x12 x13,⟨S,_,W1,I,rfl,rfl,rfl⟩,?_,?_⟩
  ·rintro i w τ M' hw ⟨S',y13,W2,I2,e1,e2,rfl⟩;refine⟨_,rfl,_,rfl,_,rfl,_,rfl,_,rfl,_,rfl,_,_,rfl,rfl,rfl,b,_,rfl,W2.bg,?_,?_,λ r' M2 q0 q1 bg f=>?_⟩
   ·rw[List.length_map];omega
   ·rw[List.length_map];omega
   rw[List.length_map] at q1;have W3:=W2.take bg f;obtain⟨z,hz,hx⟩:=acN A.N hn r' q0 q1 M2;refine⟨r',_,rfl,hx,rfl,b,A,S',z,rfl,W3,hz,hl,I2.ha,I2.hb,λ a' b' c' M3 ha hb W4=>⟨_,_,W4,I2.set c' ha hb,e1,e2,rfl⟩⟩
  rintro τ M' ⟨S',y13,W2,I2,e1,e2,rfl⟩;refine⟨_,rfl,b,5,rfl,W2.bg,by decide,by decide,λ r M1 r0 r1 bg f=>⟨r,rfl,by omega,by omega,?_⟩⟩;have W3:=W2.take bg f;clear bg f;refine⟨λ i τ M'=>i<=r.toNat/\∃ S' x11 x13,Wd M' b (cells A S')/\Iv A m S' G/\S'.C=S.C/\S'.ps.length=S.ps.length+i/\τ=Tau A b m x0 (iW t) x11 x12 x13,⟨Nat.zero_le _,S',_,_,W3,I2,e1,by rw[e2];rfl,rfl⟩,?_,?_⟩
  ·rintro i w τ M' hw ⟨hi,S1,y11,y13,W4,I4,e4,e5,rfl⟩;have hi':i<r.toNat:=by
    have:=(List.getElem?_eq_some_iff.mp hw).1
    simpa [dB] using this
   refine⟨_,rfl,_,rfl,_,rfl,_,_,rfl,rfl,rfl,b,_,rfl,W4.bg,?_,?_,λ r' M2 q0 q1 bg f=>?_⟩
   ·rw[List.length_map];omega
   ·rw[List.length_map];omega
   rw[List.length_map] at q1;have W5:=W4.take bg f;clear bg f;obtain⟨z,hz,hx⟩:=acN A.N hn r' q0 q1 M2;refine⟨r',_,rfl,hx,rfl,?_⟩;refine⟨_,rfl,A.p,_,rfl,W5.at' (c:=.p) rfl,_,rfl,_,rfl,.inl ⟨_,_,rfl,rfl,_,rfl,_,rfl,A.h,_,.inr z,_,rfl,.inl (W5.at' (c:=.h) rfl),rfl,cC hz,0,_,rfl,nF (W5.at' (mB hz)) rfl,rfl,.inl ⟨_,_,rfl,rfl,_,rfl,_,rfl,A.h,_,.inr z,_,rfl,.inl (W5.at' (c:=.h) rfl),rfl,cC hz,1,_,rfl,nF (W5.at' (mB hz)) rfl,rfl,_,rfl,(show 3<=sizeLine by omega),_,W5.at' (c:=.p) rfl,by rw[List.length_map];omega,?_⟩⟩⟩;have e6:(S1.ps.map λ p=>W.d p.D)++[W.d (.tuple [.str z,.int ((t:Int)+1+(S1.a z:Nat)),.int (S1.b z:Nat)])]=(S1.ps++[(⟨z,t+1+S1.a z,S1.b z⟩:Pt)]).map λ p=>W.d p.D:=by rw[List.map_append];congr 1
   dsimp only;rw[e6];have W6:=W5.set (c:=.p) (.lst ((S1.ps++[(⟨z,t+1+S1.a z,S1.b z⟩:Pt)]).map λ p=>W.d p.D)) rfl;rw[vK] at W6;refine⟨_,rfl,A.r,_,rfl,W6.at' (c:=.r) rfl,abL (x:=A.x) (y:=A.y) (z:=A.z) (g:=S1.g),_,rfl,_,rfl,_,_,rfl,vn (W6.at' (c:=.p) rfl),rfl,_,rfl,?_⟩;refine⟨A.r,A.x,A.y,A.z,S1.g,A.N,S1.a,λ z=>decide (S1.b z=1),S1.ms,z,.int ((S1.ps.length+1:Nat):Int),t,?_,⟨rfl,rfl,rfl⟩,W6.at' (c:=.r) rfl,W6.at' (c:=.x) rfl,W6.at' (c:=.y) rfl,W6.at' (c:=.g) rfl,hz,?_,?_⟩
   ·rw[List.length_map,List.length_append,List.length_singleton]
   ·rw[I4.ms,List.length_map];have:=so S1.C S1.ps;omega
   ·have W7:=W6.set (c:=.g) (msW (S1.ms++news S1.a (λ z=>decide (S1.b z=1)) z (.int ((S1.ps.length+1:Nat):Int)) t)) rfl;rw[xV] at W7;have I5:=I4.put hz (by rw[e4];omega) (by rw[e4];omega);have e7:S1.C.length=t:=by rw[e4];exact hC
    rw[e7] at I5;exact⟨hi',_,_,_,W7,I5,e4,by show(S1.ps++[_]).length=_;rw[List.length_append,List.length_singleton];omega,rfl⟩
  ·rintro τ M' ⟨hi,S1,y11,y13,W4,I4,e4,e5,rfl⟩;refine k S1 _ _ M' W4 I4 e4 ?_ (λ h=>absurd h (by omega));have:(dB 0 r.toNat).length=r.toNat:=by simp[dB]
   omega
 ·rw[decide_eq_false htm];rw[if_neg htm] at k;exact vL (k S _ _ M wh I rfl (Nat.le_refl _) λ _=>rfl)
theorem sL{t:Nat}(wh:Wd M b (cells A S))(hl:A.N.length<=60)(I:Iv A m S G)(hC:S.C.length=t)
  (k:∀ S' x11 M',Wd M' b (cells A S')->Iv A m S' G->S'.C=S.C->S'.ps=S.ps->(m=t->∀ z∈A.N,S'.c z=false)->(m≠t->S'.c=S.c)->D.nx (Tau A b m x0 (iW t) x11 x12 x13) M'):lx aB D (Tau A b m x0 (iW t) x11 x12 x13) M:=by
 refine⟨_,rfl,_,rfl,_,_,.d,.d,rfl,_,rfl,?_⟩;have e1:PyData.eqv (.int (t:Nat)) (.int (m:Nat))=decide (m=t):=by
  rw[rB]
  by_cases q:m=t
  ·subst q;simp
  ·rw[decide_eq_false q];exact beq_eq_false_iff_ne.mpr (by omega)
 rw[e1];refine eJ (λ h=>?_) (λ h=>?_)
 ·have h:=of_decide_eq_true h;refine⟨_,rfl,_,rfl,λ j τ M'=>∃ c' x11,Wd M' b (cells A {S with c:=c'})/\(∀ z∈A.N.take j,c' z=false)/\τ=Tau A b m x0 (iW t) x11 x12 x13,⟨S.c,_,wh,λ z hz=>(by simp at hz),rfl⟩,?_,?_⟩
  ·rintro j w τ M' hw ⟨c',y11,W1,hc,rfl⟩;rw[List.map_map] at hw;obtain⟨z,hz,rfl⟩:=iS hw;have hz':=List.mem_of_getElem? hz;refine⟨_,rfl,_,rfl,A.h,_,.inr z,_,rfl,.inl (W1.at' (c:=.h) rfl),rfl,cC hz',A.L z,_,2,2,rfl,rfl,W1.at' (mB hz'),rfl,?_⟩;have W2:=W1.set (.lst [.d (.int (S.a z:Nat)),.d (.int (S.b z:Nat)),.d (.bool false)]) (mB hz');have W3:=W2.set (c:=.z) (.dic (kf A.N (bW (cF c' z false)))) rfl;have e2:=pj (S:={S with c:=c'}) hz' false;dsimp only at e2 W3;rw[e2] at W3;refine⟨_,rfl,A.r,_,rfl,W2.at' (c:=.r) rfl,aaq (x:=A.x) (y:=A.y) (z:=A.z) (g:=S.g),_,rfl,A.r,A.x,A.y,A.z,S.g,A.N,c',z,rfl,W2.at' (c:=.r) rfl,W2.at' (c:=.z) rfl,hz',hl,cF c' z false,_,W3,λ y hy=>?_,rfl⟩;rw[List.take_succ,hz] at hy;rcases List.mem_append.mp hy with hy | hy
   ·unfold cF
    split
    ·rfl
    ·exact hc y hy
   ·have:y=z:=by simpa using hy
    subst this;exact rH
  ·rintro τ M' ⟨c',y11,W1,hc,rfl⟩;have e3:A.N.take ((A.N.map PyData.str).map W.d).length=A.N:=List.take_of_length_le (by simp);rw[e3] at hc;exact k _ _ M' W1 (I.set c' I.ha I.hb) rfl rfl (λ _=>hc) (λ n=>absurd h n)
 ·have h:=of_decide_eq_false h;exact k S _ M wh I rfl rfl (λ e=>absurd e h) λ _=>rfl
end
theorem qT{lo:Int}{n i:Nat}{w:W}(h:(dB lo n)[i]? =some w):i<n/\w=.d (.int (lo+(i:Int))):=by
 unfold dB at h;rw[List.getElem?_map] at h;obtain⟨j,hj,rfl⟩:=Option.map_eq_some_iff.mp h;have:=List.getElem?_eq_some_iff.mp hj;obtain⟨h1,h2⟩:=this;rw[List.length_range] at h1;simp at h2;subst h2;exact⟨h1,rfl⟩
theorem mh{lo:Int}{n:Nat}:(dB lo n).length=n:=by simp[dB]
structure Jv(A:Ad)(m:Nat)(S:St)(G:List (Nat×Ev))(i:Nat):Prop where
 I:Iv A m S G
 n:S.C.length=i
 p:S.ps.length<=4 * min i m
 c:m<=i->∀ z∈A.N,S.c z=false
section
variable {A:Ad}{b:Addr}{m:Nat}{x0 x10 x11 x12 x13:Option W}{S:St}{M:MH}{D:Ed}{G:List (Nat×Ev)}
theorem yf{i:Nat}(wh:Wd M b (cells A S))(hn:1<=A.N.length)(hl:A.N.length<=60)(J:Jv A m S G i)(hm1:1<=m)(hm:m<=24)(hi:i<=40)
  (k:∀ S' G' x11 x12 x13 M',Wd M' b (cells A S')->Jv A m S' G' (i+1)->D.nx (Tau A b m x0 (iW (i+1)) x11 x12 x13) M') :
  (bb pT <| bb (rM aF) <| bb (pG ay aE aJ) <| lx aB) D (Tau A b m x0 (iW (i+1)) x11 x12 x13) M:=by
 obtain⟨I,eC,pl,cz⟩:=J;have pl2:S.ps.length<=96:=by omega
 refine wF (D:={D with nx:=_}) wh hl (by omega) (by omega) λ M1 W1=>?_;refine xp (D:={D with nx:=_}) (C0:=S.C) (G:=G) (S:={S with C:=S.C++[A.N.filter S.c]}) W1 rfl (by omega) I.gs I.ms I.cm (λ p hp=>(I.pz p hp).1) (by show S.ps.length<=200;omega) λ g' L y11 y12 M2 gs2 W2=>?_;have I2:Iv A m {S with C:=S.C++[A.N.filter S.c],g:=g',ms:=(onR (S.C++[A.N.filter S.c]) S.ps).map Ev.m,cm:=(G++L).map sx} (G++L):=by
  refine⟨gs2,rfl,rfl,I.pz,I.ha,I.hb,λ j hj hj2=>?_⟩;have hj2':j<S.C.length+1:=by have:j<(S.C++[A.N.filter S.c]).length:=hj2;rw[List.length_append,List.length_singleton] at this;exact this
  by_cases q:j<S.C.length
  ·show(S.C++[_]).getD j []=[];rw[gf q];exact I.cu j hj q
  ·have e:j=S.C.length:=by omega
   subst e;show(S.C++[_]).getD S.C.length []=[];rw[jm,List.filter_eq_nil_iff];intro z hz;rw[cz (by omega) z hz];exact Bool.false_ne_true
 refine xc (D:={D with nx:=_}) (t:=i+1) W2 hn hl I2 (by show(S.C++[_]).length=_;rw[List.length_append,List.length_singleton];omega) (by omega) (by show S.ps.length<=150;omega) λ S3 z11 z13 M3 W3 I3 e3 p3 c3=>?_;have e3':S3.C.length=i+1:=by rw[e3];show(S.C++[_]).length=_;rw[List.length_append,List.length_singleton];omega
 refine sL (t:=i+1) W3 hl I3 e3' λ S4 u11 M4 W4 I4 e4 p4 c4 d4=>?_;refine k S4 _ u11 _ _ M4 W4 ⟨I4,by rw[e4];exact e3',?_,λ hmi z hz=>?_⟩
 ·have p3':S3.ps.length<=S.ps.length+(if i+1<=m then 4 else 0):=p3;rw[p4]
  split at p3'<;>omega
 ·by_cases q:m=i+1
  ·exact c4 q z hz
  ·rw[d4 q,c3 (by omega)];exact cz (by omega) z hz
abbrev yG(A:Ad)(b:Addr)(m:Nat)(d:Addr)(x0 x10 x11 x12 x13 x15 x16 x17:Option W):DS:=[x0,some (.m b),some (.d (dY A.N)),some (.m A.r),some (.m A.h),some (.m A.p),some (.m A.c),some (.m A.u),some (.d (.int (m:Nat))),some (.d (.int ((m+6:Nat):Int))),x10,x11,x12,x13,some (.m d),x15,x16,x17,none]
abbrev tG(g:Nat×Ev):W:=.d (.tuple (lp g))
theorem nu{ps:List Pt}{i:Nat}{p:Pt}(h:ps[i]? =some p):evs (ps.take (i+1))=evs (ps.take i)++mkE p (i+1):=by have hi:=(List.getElem?_eq_some_iff.mp h).1;rw[List.take_succ,h];show evs (ps.take i++[p])=_;rw[eE,List.length_take,Nat.min_eq_left (by omega)]
theorem aaa{p:Pt}{k j:Nat}(hp:p.w<=1)(hj:j<1+p.w):(mkE p k)[j]? =some ⟨p.f+j,p.z,k⟩:=by
 unfold mkE
 by_cases h:p.w=1
 ·rw[if_pos h];have:j=0\/j=1:=by omega
  rcases this with rfl | rfl<;>rfl
 ·rw[if_neg h];have:j=0:=by omega
  subst this;rfl
theorem abg{p:Pt}{k:Nat}(hp:p.w<=1):(mkE p k).length=1+p.w:=by
 unfold mkE
 by_cases h:p.w=1
 ·rw[if_pos h];simp[h]
 ·rw[if_neg h];simp;omega
theorem vt{d:Addr}{x15 x16 x17:Option W}(wh:Wd M b (cells A S))(I:Iv A m S G)(hd:M d=none)(hC:S.C.length=m+6)(hp:S.ps.length<=150)(hall:∀ e∈evs S.ps,arr S.C e.d e.z≠none)
  (k:∀ x10 x11 x13 x15 x16 x17,D.nx (yG A b m d x0 x10 x11 x12 x13 x15 x16 x17) (aT M d (.lst (((evs S.ps).map (val S.C)).map tG)))):u4 aC D (yG A b m d x0 x10 x11 x12 x13 x15 x16 x17) (aT M d (.lst [])):=by
 have sl:=s16;have up:∀ o,Wd (aT M d o) b (cells A S):=λ o=>wh.ext (Ext.new hd);have le:∀ i,(evs (S.ps.take i)).length<=300:=λ i=>by have:=jQ _ (S.ps.take i) rfl;rw[List.length_take] at this;omega
 refine⟨_,rfl,_,_,rfl,vn ((up _).at' (c:=.p) rfl),rfl,_,rfl,by omega,by rw[List.length_map];omega,?_⟩;refine⟨λ i τ M'=>M'=aT M d (.lst (((evs (S.ps.take i)).map (val S.C)).map tG))/\∃ x10 x11 x13 x15 x16 x17,τ=yG A b m d x0 x10 x11 x12 x13 x15 x16 x17,⟨by rw[List.take_zero];rfl,_,_,_,_,_,_,rfl⟩,?_,?_⟩
 ·rintro i w τ M' hw ⟨rfl,y10,y11,y13,y15,y16,y17,rfl⟩;obtain⟨hi,rfl⟩:=qT hw;rw[List.length_map,Int.toNat_natCast] at hi;obtain⟨p,hpi⟩:∃ p,S.ps[i]? =some p:=⟨_,List.getElem?_eq_getElem hi⟩;obtain⟨p1,p2,p3,p4⟩:=I.pz p (List.mem_of_getElem? hpi);rw[Int.zero_add];have ix:ixW (aT M d (.lst (((evs (S.ps.take i)).map (val S.C)).map tG))) (.m A.p) (i:Int)=some (.d p.D):=nF ((up _).at' (c:=.p) rfl) (by rw[oU (by omega) (by rw[List.length_map];omega)];have:=(List.getElem?_eq_some_iff.mp hpi).2;simp only[Int.toNat_natCast,List.getElem_map,this])
  refine⟨_,rfl,_,rfl,i,_,rfl,ix,rfl,_,rfl,rfl,_,_,rfl,_,_,rfl,_,_,rfl,rfl,?_⟩;refine⟨_,rfl,.inl ⟨_,_,rfl,rfl,_,rfl,by omega,by omega,?_⟩⟩;refine⟨λ j τ M'=>M'=aT M d (.lst (((evs (S.ps.take i)).map (val S.C)).map tG++(((mkE p (i+1)).take j).map (val S.C)).map tG))/\∃ x10 x17,τ=yG A b m d x0 x10 (some (.d (.str p.z))) x12 (iW i) (iW p.f) (iW p.w) x17,⟨by simp,_,_,rfl⟩,?_,?_⟩
  ·rintro j w τ M' hw ⟨rfl,z10,z17,rfl⟩;obtain⟨hj,rfl⟩:=qT hw;have hj':j<1+p.w:=by omega
   rw[Int.zero_add];have he:=aaa (k:=i+1) p4 hj';have hin:(⟨p.f+j,p.z,i+1⟩:Ev)∈evs S.ps:=by
    have h1:(⟨p.f+j,p.z,i+1⟩:Ev)∈evs (S.ps.take (i+1)):=by rw[nu hpi];exact List.mem_append_right _ (List.mem_of_getElem? he)
    unfold evs at h1 ⊢;obtain⟨a,ha,hb⟩:=List.mem_flatMap.mp h1;have ha':=List.mem_range.mp ha;rw[List.length_take] at ha';refine List.mem_flatMap.mpr ⟨a,List.mem_range.mpr (by omega),?_⟩;have e1:(S.ps.take (i+1)).getD a ⟨"",0,0⟩=S.ps.getD a ⟨"",0,0⟩:=by simp[List.getD_eq_getElem?_getD,List.getElem?_take,show a<i+1 by omega]
    rw[e1] at hb;exact hb
   obtain⟨t,ht⟩:∃ t,arr S.C (p.f+j) p.z=some t:=by
    have:=hall _ hin;cases q:arr S.C (p.f+j) p.z with
    | none=>exact absurd q this
    | some t=>exact⟨t,rfl⟩
   refine⟨_,rfl,_,rfl,.inl ⟨_,_,rfl,rfl,_,rfl,_,rfl,_,rfl,p.f+j,t,p.z,S.C,A.u,?_,(up _).at' (c:=.u) rfl,by omega,ht,?_⟩⟩
   ·rw[hC];rfl
   refine⟨_,rfl,d,_,rfl,aw,_,rfl,_,rfl,_,rfl,.inl ⟨_,_,rfl,rfl,_,rfl,.inl ⟨_,_,rfl,rfl,_,rfl,_,rfl,(show 4<=sizeLine by omega),_,aw,?_,?_,_,_,rfl⟩⟩⟩
   ·have:=le i;have:=qV p (i+1);simp only[List.length_append,List.length_map,List.length_take];omega
   ·rw[hJ];have et:(mkE p (i+1)).take (j+1)=(mkE p (i+1)).take j++[⟨p.f+j,p.z,i+1⟩]:=by rw[List.take_succ,he];rfl
    rw[et,List.map_append,List.map_append,List.append_assoc];have ev:val S.C ⟨p.f+j,p.z,i+1⟩=(t,⟨p.f+j,p.z,i+1⟩):=by simp[val,ht]
    rw[List.map_singleton,List.map_singleton,ev];rfl
  ·rintro τ M' ⟨rfl,z10,z17,rfl⟩;refine⟨?_,_,_,_,_,_,_,rfl⟩;rw[nu hpi,List.map_append,List.map_append];have e1:(mkE p (i+1)).take (dB 0 ((1:Int)+((p.w:Nat):Int)).toNat).length=mkE p (i+1):=List.take_of_length_le (by rw[mh,abg p4];omega);rw[e1]
 ·rintro τ M' ⟨rfl,y10,y11,y13,y15,y16,y17,rfl⟩;have e1:S.ps.take (dB 0 ((S.ps.map λ p=>W.d p.D).length:Int).toNat).length=S.ps:=List.take_of_length_le (by rw[mh,List.length_map];omega);rw[e1];exact k _ _ _ _ _ _
end
def yK(aH:SpD):TSd:=bb (bR (dLC (bV (lC (dCB ma (aa (ai 14) (aR))))) (gT 4 (bo (gN 0) (bo (gN 1) (bo (gN 2) (bo (gN 3) (i9)))))) (oF) (oy (aa (ai 0) (aa (ai 3) (aa (ai 2) (aR))))) 4 []) (gN 18)) <|
  jL (qG (dOp jt (ai 6) (ai 18)) (dOp jt (cY ae "many" aH (ai 3) aR) (dI 0)))
section
variable {A:Ad}{b:Addr}{m:Nat}{x0 x10 x11 x12 x13:Option W}{S:St}{M:MH}{D:Ed}{G:List (Nat×Ev)}
theorem xR{ns:List Str}(hn:∀ z∈ns,vP z=true)(hG:∀ g∈G,g.1<=1000/\g.2.k<=1000/\g.2.z∈ns):okD 2 (.list (G.map sx))=true:=by
 simp only[okD];refine u7 λ d hd=>?_;obtain⟨g,hg,rfl⟩:=List.mem_map.mp hd;obtain⟨h1,h2,h3⟩:=hG g hg;have e1:((g.1:Nat):Int).natAbs<2 ^ 100:=by rw[Int.natAbs_natCast];exact Nat.lt_of_le_of_lt h1 (by decide)
 have e2:((g.2.k:Nat):Int).natAbs<2 ^ 100:=by rw[Int.natAbs_natCast];exact Nat.lt_of_le_of_lt h2 (by decide)
 simp only[okD,okA,Bool.and_eq_true,decide_eq_true_eq];exact⟨e1,hn _ h3,e2,trivial⟩
theorem aas{d:Addr}{x15 x16 x17:Option W}(wh:Wd M b (cells A S))(I:Iv A m S G)(ha:∀ z∈A.N,vP z=true)(hd:M d=none)(hC:S.C.length<=40)(hp:S.ps.length<=150)(hall:∀ e∈evs S.ps,arr S.C e.d e.z≠none)
  (k:∀ M',D.rt (.d (.bool true)) M'):yK aH D (yG A b m d x0 x10 x11 x12 x13 x15 x16 x17) (aT M d (.lst (((evs S.ps).map (val S.C)).map tG))):=by
 have sl:=s16;obtain⟨on,pm⟩:=yF I.gs hall;have lg:=rO I.gs;have W1:Wd (aT M d (.lst (((evs S.ps).map (val S.C)).map tG))) b (cells A S):=wh.ext (Ext.new hd);have hd1:aT M d (.lst (((evs S.ps).map (val S.C)).map tG)) d=some (.lst ((((evs S.ps).map (val S.C)).map λ g=>PyData.tuple (lp g)).map W.d)):=by rw[aw,List.map_map,List.map_map,List.map_map];rfl
 generalize aT M d (.lst (((evs S.ps).map (val S.C)).map tG))=M1 at W1 hd1;have el:((evs S.ps).map (val S.C)).map (λ g=>PyData.tuple (lp g))=(((evs S.ps).map (val S.C)).map lp).map PyData.tuple:=by rw[List.map_map (f:=lp)];rfl
 have ln:(((evs S.ps).map (val S.C)).map lp).length<=1000:=by rw[List.length_map,List.length_map];have:=jQ _ S.ps rfl;omega
 refine⟨_,rfl,.m d,((evs S.ps).map (val S.C)).map lp,false,[false,false,true],rfl,by rw[<- el];exact .m hd1,λ r hr=>?_,ln,λ rows' q1 q2 p hp'=>?_⟩
 ·obtain⟨g,_,rfl⟩:=List.mem_map.mp hr;exact⟨⟨_,rfl⟩,⟨_,rfl⟩,⟨_,rfl⟩,⟨_,rfl⟩,trivial⟩
 have er:=tJ I.gs.pw pm q1 q2;subst er;have et:nK (G.map lp)=(G.map λ g=>PyData.tuple (lp g)).map W.d:=by
  unfold nK;rw[List.map_map,List.map_map];rfl
 refine⟨p,G.map λ g=>PyData.tuple (lp g),rfl,by rw[aw];exact congrArg (λ l=>some (MO.lst l)) et,_,rfl,?_⟩;have W2:Wd (nC (aT M1 p (.lst (nK (G.map lp)))) p) b (cells A S):=W1.ext (sealed hp');generalize nC (aT M1 p (.lst (nK (G.map lp)))) p=M2 at W2;rw[List.map_map];refine sm G (W.d ∘ λ g=>PyData.tuple (lp g)) sx (λ τ=>∃ a b c d,τ=[a,b,c,d]) (by omega) ⟨_,_,_,_,rfl⟩ (λ g _ τ hτ R h=>?_) λ τ=>?_
 ·obtain⟨a,b,c,d,rfl⟩:=hτ;exact⟨_,rfl,rfl,_,_,rfl,_,_,rfl,_,_,rfl,_,_,rfl,rfl,_,rfl,_,rfl,_,rfl,_,rfl,(show 3<=sizeLine by omega),_,rfl,h _ ⟨_,_,_,_,rfl⟩⟩
 have gz:∀ g∈G,g.1<=1000/\g.2.k<=1000/\g.2.z∈A.N:=λ g hg=>by have h1:=acB I.gs g hg;obtain⟨e,he,rfl⟩:=List.mem_map.mp (pm.mem_iff.mp hg);have h2:=zJ e he;exact⟨by omega,by show e.k<=1000;omega,yU (λ p hp=>(I.pz p hp).1) e he⟩
 have ok:=xR ha gz;refine⟨_,rfl,_,rfl,_,_,.l (W2.at' (c:=.c) rfl),.d,?_,_,rfl,?_⟩
 ·rw[I.cm];exact tm (by decide) ok ok
 rw[I.cm,yd ok];refine yv ⟨_,rfl,A.r,_,rfl,W2.at' (c:=.r) rfl,ab8 (x:=A.x) (y:=A.y) (z:=A.z) (g:=S.g),A.r,A.x,A.y,A.z,S.g,_,rfl,W2.at' (c:=.r) rfl,W2.at' (c:=.g) rfl,_,_,.d,.d,rfl,?_⟩;rw[I.ms,on];exact k M2
end
def kh(r x y z g:Addr)(N:List Str):Ro->Option (Addr×MO)
 | .t=>some (ak,cdC)
 | .r=>some (r,.ins ae (FR x y z g))
 | .x=>some (x,.dic (kf N (nW λ _=>0)))
 | .y=>some (y,.dic (kf N (bW λ _=>false)))
 | .z=>some (z,.dic (kf N (bW λ _=>false)))
 | .g=>some (g,.lst [])
 | _=>none
abbrev ace:MO:=.lst [.d (.int 0),.d (.int 0),.d (.bool false)]
def dv(C:Ro->Option (Addr×MO))(L:Str->Addr)(K:List Str):Ro->Option (Addr×MO)
 | .l z=>if z∈K then some (L z,ace) else none
 | c=>C c
theorem og{C:Ro->Option (Addr×MO)}{L:Str->Addr}{K:List Str}{z:Str}{q:Addr}(h:z ∉ K):cf (dv C L K) (.l z) (q,ace)=dv C (cF L z q) (K++[z]):=by
 funext d;cases d with
 | l y =>
  by_cases e:y=z
  ·subst e;simp[cf,dv,cF]
  ·simp[cf,dv,cF,e]
 | _=>simp[cf,dv]
theorem sr{M M':MH}{b r x y z g:Addr}{N:List Str}(bg:Bag M b)(hC:M ak=some cdC)(cb:ak≠b)(hr0:M r=none)(fr:M x=none/\M y=none/\M z=none/\M g=none)(rx:r≠x/\r≠y/\r≠z/\r≠g)(nd:[x,y,z,g].Nodup)
  (hr:M' r=some (.ins ae (FR x y z g)))(hx:M' x=some (.dic (kf N (nW λ _=>0))))(hy:M' y=some (.dic (kf N (bW λ _=>false))))(hz:M' z=some (.dic (kf N (bW λ _=>false))))(hg:M' g=some (.lst []))(f:∀ b o,M b=some o->M' b=some o):Wd M' b (kh r x y z g N):=by
 obtain⟨fx,fy,fz,fg⟩:=fr;obtain⟨r1,r2,r3,r4⟩:=rx;simp only[List.nodup_cons,List.mem_cons,List.not_mem_nil,or_false,not_or,List.nodup_nil,and_true,not_false_eq_true] at nd;obtain⟨⟨n1,n2,n3⟩,⟨n4,n5⟩,n6⟩:=nd;have t0:ak≠r:=bU hC hr0;have t1:ak≠x:=bU hC fx;have t2:ak≠y:=bU hC fy;have t3:ak≠z:=bU hC fz;have t4:ak≠g:=bU hC fg;have bn:∀ q,M q=none->q≠b:=λ q hq e=>kA bg (by rw[<- e];exact hq);refine⟨λ {c p o} e=>?_,λ {c c' p o o'} e e'=>?_,Ext.bag f bg,λ {c p o} e=>?_⟩
 ·cases c<;>first | (cases e;assumption) | (cases e;exact f _ _ hC) | cases e
 ·cases c<;>cases c'<;>first | rfl | (cases e;done) | (cases e';done) | (cases e;cases e';contradiction) | (cases e;injection e' with e';injection e' with e1 e2;first | exact absurd e1 (by assumption) | exact absurd e1.symm (by assumption))
 ·cases c<;>first | (cases e;exact bn _ (by assumption)) | (cases e;exact cb) | cases e
def uL:TSd:=bR (dCB gm (aa (yY (bV (ai 2)) (gN 0) (oF) (xv (aa (ai 0) (aa (fN (aa (dI 0) (aa (dI 0) (aa (dC (.d (.bool false))) (aR))))) (aR)))) 1 []) (aR))) (gN 4)
def yW(b9 ay aW aF aE aJ aB aC aH:SpD):TSd:=
  bb (bR (bS b9 (aa (ai 0) (aR))) (gN 1)) <|
  bb (bR (dSl (yo (aa (dS "ma") (aa (dS "b") (aa (dS "zz") (aa (dS "m") (aa (dS "c") (aa (dS "east") (aa (dS "mb") (aa (dS "a") (aR)))))))))) (i8) (qb (dOp bC (dI 1) (bS ay (aa (ai 1) (aa (dOp du (yo (aa (dI 4) (aa (dI 8) (aR)))) (bS ay (aa (ai 1) (aa (dI 2) (aR))))) (aR))))))) (gN 2)) <|
  bb (bR (tp ae aW (aa (lC (dCB jD (aa (ai 2) (aR)))) (aR))) (gN 3)) <|
  bb uL <|
  bb (wC 5 6 7 (aa (fN (aR)) (aa (fN (aR)) (aa (ml) (aR))))) <|
  bb (bR (dOp bC (dI 2) (bS ay (aa (ai 1) (aa (dI 23) (aR))))) (gN 8)) <|
  bb (bR (dOp bC (ai 8) (dI 6)) (gN 9)) <|
  bb (lq (sN (aa (dI 1) (aa (dOp bC (ai 9) (dI 1)) (aR)))) (gN 10)
   (bb pT <| bb (rM aF) <| bb (pG ay aE aJ) <| lx aB)) <|
  bb (bR (fN (aR)) (gN 14)) <|
  bb (u4 aC) <|
  yK aH
theorem sV:@x9 = @yW:=rfl
theorem qC{α β:Type}{R:α->β->Prop}{a:α}{b:β}:∀ {as:List α} {bs:List β},Paired R as bs->R a b->Paired R (as++[a]) (bs++[b])
 | _,_,.nil,h=>.cons h .nil
 | _,_,.cons r t,h=>.cons r (qC t h)
theorem xm{N:List Str}{C:Ro->Option (Addr×MO)}{M:MH}{b:Addr}{D:Ed}{τ:DS}(wh:Wd M b C)(hC:∀ z,C (.l z)=none)(nd:N.Nodup)(hl:N.length<=60)(hv:τ[2]? =some (some (.d (dY N))))
  (k:∀ h L M',Wd M' b (cf (dv C L N) .h (h,.dic (kf N λ z=>.m (L z))))->D.nx (τ.set 4 (some (.m h))) M'):uL D τ M:=by
 have sl:=s16;refine⟨_,hv,_,rfl,?_⟩;refine⟨λ i acc τ' M'=>i<=N.length/\acc.length=i/\∃ L:Str->Addr,Wd M' b (dv C L (N.take i))/\Paired (λ(r:W) (kw:Key×W)=>∃ q,r=.m q/\M' q=some (.tup [.d (wa kw.1),kw.2])) acc ((N.take i).map λ z=>((.inr z:Key),W.m (L z)))/\∃ x,τ'=[x],⟨Nat.zero_le _,rfl,λ _=>0,?_,.nil,_,rfl⟩,?_,?_⟩
 ·have:dv C (λ _=>0) (N.take 0)=C:=by
   funext d;cases d with
   | l z=>simp[dv,hC]
   | _=>rfl
  rw[this];exact wh
 ·rintro i w acc τ' M' hw ⟨hi,ha,L,W1,pr,x,rfl⟩;rw[List.map_map] at hw;obtain⟨z,hz,rfl⟩:=iS hw;have hi':=(List.getElem?_eq_some_iff.mp hz).1;have nz:=rz nd hz;have ht:N.take (i+1)=N.take i++[z]:=by rw[List.take_succ,hz];rfl
  refine⟨by omega,_,rfl,(show 3<=sizeLine by omega),λ q hq=>⟨(show 2<=sizeLine by omega),λ p hp=>⟨hi',by rw[List.length_append,List.length_singleton,ha],cF L z q,?_,?_,_,rfl⟩⟩⟩
  ·have W2:=(W1.new (.l z) ace hq).ext (Ext.new (o:=.tup [.d (.str z),.m q]) hp);rw[og nz,<- ht] at W2;exact W2
  ·rw[ht,List.map_append];refine qC ?_ ⟨p,rfl,?_⟩
   ·have e1:((N.take i).map λ y=>((.inr y:Key),W.m (cF L z q y)))=(N.take i).map λ y=>((.inr y:Key),W.m (L y)):=List.map_congr_left λ y hy=>by rw[wU (λ e:y=z=>nz (e ▸ hy))]
    rw[e1];exact Paired.fw pr λ r kw ⟨u,e,hu⟩=>⟨u,e,ck (ck hu hq) hp⟩
   ·rw[aw];show _=some (MO.tup [.d (.str z),.m (cF L z q z)]);rw[rH];rfl
 ·rintro acc τ' M' ⟨_,ha,L,W1,pr,x,rfl⟩;have et:N.take ((N.map PyData.str).map W.d).length=N:=List.take_of_length_le (by simp);rw[et] at W1 pr;intro p hp;refine⟨p,acc,N.map λ z=>(.inr z,.m (L z)),rfl,aw,Paired.fw pr λ r kw ⟨u,e,hu⟩=>⟨u,e,ck hu hp⟩,?_,λ h hh=>k h L _ ?_⟩
  ·rw[List.map_map];exact List.pairwise_map.mpr (nd.imp λ h e=>h (Sum.inr.inj e))
  ·exact(W1.ext (Ext.new hp)).new .h _ hh
abbrev full:List Str:=["ma", "b", "zz", "m", "c", "east", "mb", "a"]
def g9:SpD:=λ ws M Q=>∃ ns:List Int,ws=[.d (.list (ns.map PyData.int))]/\ns.length<=63/\M ak=some cdC/\∀ M',Q (.d (.bool true)) M'
theorem xU:∀ ws M Q,g9 ws M Q->ws.length=1:=by rintro ws M Q ⟨d,rfl,_⟩;rfl
theorem tN:∀ ns:List Int,ns.length<=63->g9 [.d (.list (ns.map PyData.int))] (M1T ak cy ⟨46,77,46,103⟩) (λ w _=>w=.d (.bool true)):=λ ns h=>⟨ns,rfl,h,if_pos rfl,λ _=>rfl⟩
theorem t9:∀ ws M Q,g9 ws M Q->x9 b9 ay aW aF aE aJ aB aC aH {nx:=λ _ M'=>Q (.d .none) M',rt:=Q} (bG aaG ws) M:=by
 rintro ws M Q ⟨ns,rfl,hl,hC,k⟩;have sl:=s16;rw[sV];refine⟨_,rfl,ns,rfl,by omega,λ b M1 hb0 f1 bg1=>?_⟩;have cb:ak≠b:=bU hC hb0;have C1:M1 ak=some cdC:=by rw[f1 _ cb];exact hC
 refine⟨_,rfl,(show 8<=sizeLine by omega),_,rfl,_,rfl,(show 2<=sizeLine by omega),_,rfl,b,2,rfl,bg1,by decide,by decide,λ r2 M2 r20 r21 bg2 f2=>?_⟩;have C2:M2 ak=some cdC:=by rw[f2 _ cb];exact C1
 obtain⟨v,hv,ix⟩:∃ v:Nat,(v=4\/v=8)/\ixW M2 (.d (.list [.int 4,.int 8])) r2=some (.d (.int (v:Nat))):=by
  have:r2=0\/r2=1:=by omega
  rcases this with rfl | rfl
  ·exact⟨4,.inl rfl,rfl⟩
  ·exact⟨8,.inr rfl,rfl⟩
 refine⟨r2,_,rfl,ix,rfl,b,v,rfl,bg2,by omega,by omega,λ r3 M3 r30 r31 bg3 f3=>?_⟩;have C3:M3 ak=some cdC:=by rw[f3 _ cb];exact C2
 obtain⟨n,rfl⟩:∃ n:Nat,r3=(n:Int):=⟨r3.toNat,by omega⟩;refine .inl ⟨_,_,rfl,rfl,_,rfl,_,rfl,rfl,?_⟩;have e1:(1:Int)+(n:Int)=((1+n:Nat):Int):=by omega
 have e2:D.cutD (full.map PyData.str) none (some ((1:Int)+(n:Int)))=(full.take (1+n)).map PyData.str:=by rw[e1,t5 (by show 1+n<=8;omega),List.map_take]
 have e2':D.cutD [PyData.str "ma",PyData.str "b",PyData.str "zz",PyData.str "m",PyData.str "c",PyData.str "east",PyData.str "mb",PyData.str "a"] none (some ((1:Int)+(n:Int)))=(full.take (1+n)).map PyData.str:=e2;dsimp only;rw[e2'];have fnd:full.Nodup:=by decide
 have fasc:∀ z∈full,vP z=true:=by decide +kernel
 have hN1:1<=(full.take (1+n)).length:=by rw[List.length_take];show 1<=min (1+n) 8;omega
 have hN2:(full.take (1+n)).length<=60:=by rw[List.length_take];show min (1+n) 8<=60;omega
 have hNd:(full.take (1+n)).Nodup:=fnd.sublist (List.take_sublist _ _);have hNa:∀ z∈full.take (1+n),vP z=true:=λ z hz=>fasc z (List.mem_of_mem_take hz);generalize full.take (1+n)=N at hN1 hN2 hNd hNa;refine⟨_,rfl,_,_,rfl,.l,λ p hp=>⟨p,N.map PyData.str,rfl,aw,λ r hr=>?_⟩⟩;have x5:Ext M3 (nC (aT M3 p (.lst ((N.map PyData.str).map W.d))) p):=sealed hp;generalize nC (aT M3 p (.lst ((N.map PyData.str).map W.d))) p=M5 at x5 hr;refine⟨N,r,rfl,hNd,hN2,aw,λ x y z g M6 fr nd hr6 hx6 hy6 hz6 hg6 f6=>⟨rfl,?_⟩⟩;have W6:Wd M6 b (kh r x y z g N):=by obtain⟨q1,q2,q3,q4⟩:=fr;exact sr (M:=M5) (Ext.bag x5 bg3) (x5 _ _ C3) cb hr ⟨az q1,az q2,az q3,az q4⟩ ⟨(bz q1).symm,(bz q2).symm,(bz q3).symm,(bz q4).symm⟩ nd hr6 hx6 hy6 hz6 hg6 λ q o e=>f6 q o (bU e hr) (ck e hr)
 refine xm (D:={nx:=_,rt:=_,bk:=_,ct:=_}) W6 (λ _=>rfl) hNd hN2 rfl λ h L M7 W7=>?_;refine⟨by simp,λ p1 hp1=>⟨by simp,λ c hc u hu=>⟨_,_,_,rfl,?_⟩⟩⟩;have W8:=((W7.new .p (.lst []) hp1).new .c (.lst []) hc).new .u (.dic []) hu;have eC:cf (cf (cf (cf (dv (kh r x y z g N) L N) .h (h,.dic (kf N λ z=>.m (L z)))) .p (p1,.lst [])) .c (c,.lst [])) .u (u,.dic [])=cells ⟨r,x,y,z,h,p1,c,u,L,N⟩ ⟨λ _=>0,λ _=>0,λ _=>false,g,[],[],[],[]⟩:=by
  funext d;cases d with
  | l z=>by_cases q:z∈N<;>simp[cf,cells,kh,dv,q]
  | _=>simp[cf,cells,kh,dv,cuK]
 rw[eC] at W8;refine⟨_,rfl,b,23,rfl,W8.bg,by decide,by decide,λ r9 M9 r90 r91 bg9 f9=>.inl ⟨_,_,rfl,rfl,?_⟩⟩;have W9:=W8.take bg9 f9;clear W8 W7 W6 bg9 f9;obtain⟨n9,rfl⟩:∃ n:Nat,r9=(n:Int):=⟨r9.toNat,by omega⟩;obtain⟨m,hm,hm1,hm2⟩:∃ m:Nat,(2:Int)+(n9:Int)=(m:Int)/\2<=m/\m<=24:=⟨2+n9,by omega,by omega,by omega⟩;dsimp only;rw[hm];generalize hA:(⟨r,x,y,z,h,p1,c,u,L,N⟩:Ad)=A at W9;have aN:A.N=N:=by rw[<- hA]
 have ar:A.r=r:=by rw[<- hA]
 have ah:A.h=h:=by rw[<- hA]
 have ap:A.p=p1:=by rw[<- hA]
 have ac:A.c=c:=by rw[<- hA]
 have au:A.u=u:=by rw[<- hA]
 subst aN ar ah ap ac au;refine⟨_,rfl,.inl ⟨_,_,rfl,rfl,?_⟩⟩;refine⟨_,rfl,.inl ⟨_,_,rfl,rfl,1,_,rfl,⟨by decide,by decide,by omega,by omega⟩,?_⟩⟩;have en:((m:Int)+6+1-1).toNat=m+6:=by omega
 rw[en];refine⟨λ i τ M'=>i<=m+6/\∃ S G x0 x10 x11 x12 x13,Wd M' b (cells A S)/\Jv A m S G i/\τ=Tau A b m x0 x10 x11 x12 x13,⟨Nat.zero_le _,_,[],_,_,_,_,_,W9,⟨⟨⟨.nil,.refl _⟩,rfl,rfl,λ p hp=>(by cases hp),λ _=>Nat.zero_le _,λ _=>Nat.zero_le _,λ i _ h=>absurd h (Nat.not_lt_zero _)⟩,rfl,Nat.zero_le _,λ _ _ _=>rfl⟩,rfl⟩,?_,?_⟩
 ·rintro i w τ M' hw ⟨hi,S,G,x0,x10,x11,x12,x13,W1,J,rfl⟩;obtain⟨hi',rfl⟩:=qT hw;have ei:(1:Int)+(i:Int)=((i+1:Nat):Int):=by omega
  rw[ei];exact yf (D:={nx:=_,rt:=_,bk:=_,ct:=_}) W1 hN1 hN2 J (by omega) hm2 (by omega) λ S' G' y11 y12 y13 M2 W2 J2=>⟨hi',S',G',_,_,_,_,_,W2,J2,rfl⟩
 ·rintro τ M' ⟨_,S,G,x0,x10,x11,x12,x13,W1,J,rfl⟩;rw[mh] at J;have hp:=J.p;have hp':S.ps.length<=150:=by omega
  have hall:∀ e∈evs S.ps,arr S.C e.d e.z≠none:=by refine lE _ S.ps λ i p hpi e he=>?_;obtain⟨q1,q2,q3,q4⟩:=J.I.pz p (List.mem_of_getElem? hpi);have hd:=(oO he).2.2;refine o4 (i:=m+3) (by rw[J.n];omega) (by omega) ?_;rw[J.I.cu (m+3) (by omega) (by rw[J.n];omega)];simp
  refine⟨by simp,λ d hd=>?_⟩;refine vt (D:={nx:=_,rt:=_,bk:=_,ct:=_}) W1 J.I hd J.n hp' hall λ y10 y11 y13 y15 y16 y17=>?_;exact aas W1 J.I hNa hd (by rw[J.n];omega) hp' hall k
abbrev q_0:List Str:=["_law_script"]
abbrev q_1:List Str:=["_law_bag_here", "_law_many"]
abbrev q_2:List Str:=["self", "machines"]
abbrev q_3:List Str:=["self", "message", "turn"]
abbrev q_4:List Str:=["self", "turn"]
abbrev q_5:List Str:=["self", "machine", "turns"]
abbrev q_6:List Str:=["self", "machine", "yes"]
abbrev q_7:List Str:=["self", "machine"]
abbrev q_8:List Str:=["_law_bag_here", "_law_road", "_law_here", "_law_name"]
abbrev q_9:List Str:=["self", "machine", "thing", "turn"]
abbrev yw:List Str:=["_law_due", "_law_name", "_law_cuts", "_law_last"]
abbrev yy:List Str:=["self"]
abbrev uW:List Str:=["thing"]
local macro_rules | `(tactic| walk_at "sc")=>`(tactic| exact⟨rfl,rfl,rfl,by decide +kernel,rfl,by decide +kernel,by decide +kernel⟩)
local macro_rules | `(tactic| walk_at "b4")=>`(tactic| (intro _ _ _ _ _ _ us hl;obtain⟨_,_,_,_,e⟩:=D.abe hl;subst e;rfl))
local macro_rules | `(tactic| walk_at "b3")=>`(tactic| (intro _ _ _ _ _ _ us hl;obtain⟨_,_,_,e⟩:=D.aaO hl;subst e;rfl))
local macro_rules | `(tactic| walk_at "b2")=>`(tactic| (intro _ _ _ _ _ _ us hl;obtain⟨_,_,e⟩:=D.uv hl;subst e;rfl))
local macro_rules | `(tactic| walk_at "b1")=>`(tactic| (intro _ _ _ _ _ _ us hl;obtain⟨_,e⟩:=D.tq hl;subst e;rfl))
def top(i:Nat):Stmt:=PySem.Challenge.pw_placedworks_k57_whole_order_of_coming.main.body.getD i (.Pass ⟨0,0,0,0⟩)
abbrev js:Stmt:=top 6
abbrev fW:Stmt:=top 7
abbrev bO:Stmt:=inClass (top 4) 0
abbrev cq:Stmt:=inClass (top 4) 8
abbrev bN:Stmt:=inClass (top 4) 7
abbrev c6:Stmt:=inClass (top 4) 1
abbrev cI:Stmt:=inClass (top 4) 2
abbrev dQ:Stmt:=inClass (top 4) 3
abbrev dj:Stmt:=inClass (top 4) 4
abbrev cZ:Stmt:=top 8
abbrev a9:Stmt:=top 2
abbrev dR:Stmt:=inClass (top 4) 6
abbrev cJ:Stmt:=top 9
abbrev dk:Stmt:=inClass (top 4) 9
abbrev i6:Stmt:=top 10
structure Env(K:FG)(mg:Str->Option Value):Prop where
 k_Road:Cls K ae
 m_Road:mg "Road" = some (.ref ae)
 h_Road_come:W.codeHdIn K bL ak=true
 n_Road_cut_off:cH K ae "cut_off"
 n_Road_doubled:cH K ae "doubled"
 n_Road_lateness:cH K ae "lateness"
 n_Road_messages:cH K ae "messages"
 b_abs:mg "abs" = none
 b_dict:mg "dict" = none
 b_isinstance:mg "isinstance" = none
 b_len:mg "len" = none
 b_list:mg "list" = none
 b_range:mg "range" = none
 b_sorted:mg "sorted" = none
 b_tuple:mg "tuple" = none
section
variable (P:Program)(w:World)(K:FG)(mg:Str->Option Value)(base:Heap)
abbrev pZ:=ZZ P w K mg base (Fn K mg "_law_bag" js q_0) 1 q_0 b9
abbrev jE:=ZZ P w K mg base (Fn K mg "_law_take" fW q_1) 1 q_1 ay
abbrev ie:=ZZ P w K mg base (Mi K ae "Road.__init__" bO q_2) 1 q_2 aW
abbrev eU:=ZZ P w K mg base (Mf K ae "is_due" "Road.is_due" cq q_3) 1 q_3 aP
abbrev gQ:=ZZ P w K mg base (Mf K ae "come" "Road.come" bN q_4) 4 q_4 aF
abbrev gD:=ZZ P w K mg base (Mf K ae "late" "Road.late" c6 q_5) 1 q_5 bq
abbrev fE:=ZZ P w K mg base (Mf K ae "twice" "Road.twice" cI q_6) 1 q_6 a6
abbrev iH:=ZZ P w K mg base (Mf K ae "cut" "Road.cut" dQ q_7) 1 q_7 bE
abbrev ee:=ZZ P w K mg base (Mf K ae "join" "Road.join" dj q_7) 1 q_7 aB
abbrev gC:=ZZ P w K mg base (Fn K mg "_law_setting" cZ q_8) 2 q_8 aE
abbrev iP:=ZZ P w K mg base (Mf K ae "put" "Road.put" dR q_9) 2 q_9 aJ
abbrev ft:=ZZ P w K mg base (Fn K mg "_law_due_turn" cJ yw) 1 yw aC
abbrev gZ:=ZZ P w K mg base (Mf K ae "many" "Road.many" dk yy) 1 yy aH
end
section
variable {P:Program}{w:World}{K:FG}{mg:Str->Option Value}{base:Heap}
theorem abD:(["_law_cell"]:List Str).Nodup:=by decide +kernel
theorem uB:bh rp q_0 (aq js):=by walk_at "sc"
theorem tu(E:Env K mg)(F:Fn K mg "_law_bag" js q_0 f fq) :
  cR P w K mg base CX0 1 f fq q_0 (dy K b9):=by
 refine cK (t:=qB) F.fn uB qt (λ cdv A outer s H E' hr=>?_) nV;refine Jd.h ?_;exact ao (bF (dU (aL (af) (aL (af) (aL (af) (aL (pY rfl (sC (own:=(["_law_cell"]:List Str)) (fr:=[]) rfl) (bw (kC (dvQ 0) (kN) (kO (af)))) (λ _ _ _ _ _ _=>aA (i:=0) abD rfl (Or.inl rfl)) (λ _ _ _ _ _ _=>cD) (λ _ _ _ _ _ _=>rf sO aaV rfl E.b_abs zX (aL (dvQ 0) (ag)))) (ag)))))))
theorem cS:bh mJ q_1 (aq fW):=by walk_at "sc"
theorem rF(E:Env K mg)(F:Fn K mg "_law_take" fW q_1 f fq) :
  cR P w K mg base CX0 1 f fq q_1 (dy K ay):=by
 refine cK (t:=mU) F.fn cS nH (λ cdv A outer s H E' hr=>?_) lX;refine Jd.h ?_;exact ab (bQ (bM (uX hr.h) yD (bI bH bJ (dvQ 0) (af)) (af))
   (ab (aY (i:=2) cS.nd rfl (Or.inl rfl) (af)) <|
   ab (bQ (bM uz ny (bI bH bJ (dvQ 0) (af)) (rf dW iO rfl E.b_len iI (aL (bI bH bJ (dvQ 0) (af)) (ag))))
    (ao (aY (i:=2) cS.nd rfl (Or.inl rfl) (bI bH bJ (bI bH bJ (dvQ 0) (af)) (bI bH bJ (dvQ 0) (af)))))
    (bD)) <|
   ab (oM (dvQ 0) (af) (af) zQ) <|
   ab (bQ (bM abB zF (dvQ 2) (af))
    (ao (bZ (dvQ 2) (cG (dvQ 0) (af))))
    (bD)) <|
   ao (bZ (aS fu dF (aS bx aZ (aS bx aZ (aS iV eX (bI bH bJ (dvQ 0) (af)) (af)) (aS fu dF (dvQ 2) (af))) (aS iV eX (af) (bI bH bJ (dvQ 0) (af)))) (af)) (cG (dvQ 0) (af))))
   (bD)) <|
  ab (bQ (bM y8 uN (bI bH bJ (dvQ 0) (af)) (af))
   (ab (aY (i:=3) cS.nd rfl (Or.inl rfl) (aS fu dF (bI bH bJ (dvQ 0) (af)) (dvQ 1))) <|
   ab (bZ (aS oV rC (bI bH bJ (dvQ 0) (af)) (dvQ 1)) (cG (dvQ 0) (af))) <|
   ao (bF (dvQ 3)))
   (bD)) <|
  ab (aY (i:=4) cS.nd rfl (Or.inl rfl) (aS fu dF (aS iV eX (aS bx aZ (bI bH bJ (dvQ 0) (af)) (af)) (af)) (af))) <|
  ab (aY (i:=5) cS.nd rfl (Or.inl rfl) (aS fu dF (aS iV eX (aS fu dF (aS iV eX (dvQ 4) (dvQ 4)) (af)) (af)) (af))) <|
  ab (bQ (bM y8 uN (dvQ 1) (af))
   (ao (bF (aS fu dF (aS bx aZ (aS iV eX (dvQ 5) (af)) (dvQ 4)) (dvQ 1))))
   (bD)) <|
  ao (bF (aS fu dF (aS oV rC (dvQ 5) (af)) (dvQ 1)))
theorem ab6:(["machine"]:List Str).Nodup:=by decide +kernel
theorem ab2:(["machine"]:List Str).Nodup:=by decide +kernel
theorem acm:(["machine"]:List Str).Nodup:=by decide +kernel
theorem kb:bh gw q_2 (aq bO):=by walk_at "sc"
theorem k6(E:Env K mg)(F:Mi K ae "Road.__init__" bO q_2 f fq) :
  cR P w K mg base CX0 1 f fq q_2 (dy K aW):=by
 refine cK (t:=eo) F.fn kb jH (λ cdv A outer s H E' hr=>?_) iG;refine Jd.h ?_;exact ab (eT E.k_Road E.n_Road_lateness (dvQ 0) (si rfl (sC (own:=(["machine"]:List Str)) (fr:=[]) rfl) (bw (dvQ 1)) (λ _ _ _ _ _ _=>aA (i:=0) ab6 rfl (Or.inl rfl)) (λ _ _ _ _ _ _=>cD) (λ _ _ _ _ _ _=>dvQ 0) (λ _ _ _ _ _ _=>af))) <|
  ab (eT E.k_Road E.n_Road_doubled (dvQ 0) (si rfl (sC (own:=(["machine"]:List Str)) (fr:=[]) rfl) (bw (dvQ 1)) (λ _ _ _ _ _ _=>aA (i:=0) ab2 rfl (Or.inl rfl)) (λ _ _ _ _ _ _=>cD) (λ _ _ _ _ _ _=>dvQ 0) (λ _ _ _ _ _ _=>fj))) <|
  ab (eT E.k_Road E.n_Road_cut_off (dvQ 0) (si rfl (sC (own:=(["machine"]:List Str)) (fr:=[]) rfl) (bw (dvQ 1)) (λ _ _ _ _ _ _=>aA (i:=0) acm rfl (Or.inl rfl)) (λ _ _ _ _ _ _=>cD) (λ _ _ _ _ _ _=>dvQ 0) (λ _ _ _ _ _ _=>fj))) <|
  ao (eT E.k_Road E.n_Road_messages (dvQ 0) (dU (ag)))
theorem bY:bh eR q_3 (aq cq):=by walk_at "sc"
theorem iy(E:Env K mg)(F:Mf K ae "is_due" "Road.is_due" cq q_3 f fq) :
  cR P w K mg base CX0 1 f fq q_3 (dy K aP):=by
 refine cK (t:=eG) F.fn bY gL (λ cdv A outer s H E' hr=>?_) fK;refine Jd.h ?_;exact ab (bZ (dvQ 1) (eK rfl (aO (aA (i:=3) bY.nd rfl (Or.inl rfl)) (aO (aA (i:=4) bY.nd rfl (Or.inl rfl)) (aO (aA (i:=5) bY.nd rfl (Or.inl rfl)) (dJ)))))) <|
  ao (bF (pq (jR ve sf (dvQ 3) (dvQ 2)) (se (vO (bA (da hr) (cg E.k_Road E.n_Road_cut_off (dvQ 0)) (dvQ 4))))))
theorem abS:(["message", "self", "turn"]:List Str).Nodup:=by decide +kernel
theorem abY:(["message", "self", "turn"]:List Str).Nodup:=by decide +kernel
theorem yl:(["when", "machine", "thing"]:List Str).Nodup:=by decide +kernel
theorem fD:bh gb q_4 (aq bN):=by walk_at "sc"
theorem km(E:Env K mg)(F:Mf K ae "come" "Road.come" bN q_4 f fq)(hcd:fq.code=.ref bL)(z3:eU P w K mg base) :
  cR P w K mg base CX0 4 f fq q_4 (dy K aF):=by
 obtain⟨_,_,G3,O3⟩:=z3;refine wZ (t:=gv aP) F.fn hcd fD jP (λ A outer s H E' hr=>?_) iF;refine Jd.h ?_;exact ab (lH (lY (i:=2) fD.nd rfl (Or.inl rfl) rfl (sC (own:=(["message"]:List Str)) (fr:=[0,1]) rfl) (gM (cg E.k_Road E.n_Road_messages (dvQ 0))) (λ _ _ _ _ _ _=>aA (i:=0) abS rfl (Or.inl rfl)) (λ _ _ _ _ _ _=>gp (dm (cp (dvQ 1) E.k_Road G3.me O3 hr.m G3.bd (aL (dvQ 0) (aL (dvQ 2) (ag)))))) (λ _ _ _ _ _ _=>dvQ 0))) <|
  ab (eT E.k_Road E.n_Road_messages (dvQ 0) (om (xG rfl (sC (own:=(["message"]:List Str)) (fr:=[0,1]) rfl) (gM (cg E.k_Road E.n_Road_messages (dvQ 0))) (λ _ _ _ _ _ _=>aA (i:=0) abY rfl (Or.inl rfl)) (λ _ _ _ _ _ _=>gp (t8 (dm (cp (dvQ 1) E.k_Road G3.me O3 hr.m G3.bd (aL (dvQ 0) (aL (dvQ 2) (ag))))))) (λ _ _ _ _ _ _=>dvQ 0)))) <|
  ao (bF (pY rfl (sC (own:=(["when", "machine", "thing"]:List Str)) (fr:=[]) rfl) (bw (jS (rW (k:=0) (q:=cy) hr.m rfl rfl E.b_sorted (abO (x:= "message") (fr:=[]) rfl) rfl E.h_Road_come rfl (λ _ _ _ _ _=>rfl) (dvQ 2) (λ _ _ _ _ _ _ hr=>bI bH bJ (dvQ 0) (af))))) (λ _ _ _ _ _ _=>eK rfl (aO (aA (i:=0) yl rfl (Or.inl rfl)) (aO (aA (i:=1) yl rfl (Or.inl rfl)) (aO (aA (i:=2) yl rfl (Or.inl rfl)) (dJ))))) (λ _ _ _ _ _ _=>cD) (λ _ _ _ _ _ _=>eh (aL (dvQ 1) (aL (dvQ 2) (ag))))))
theorem jW:bh ig q_5 (aq c6):=by walk_at "sc"
theorem j0(E:Env K mg)(F:Mf K ae "late" "Road.late" c6 q_5 f fq) :
  cR P w K mg base CX0 1 f fq q_5 (dy K bq):=by
 refine cK (t:=gg) F.fn jW jT (λ cdv A outer s H E' hr=>?_) iD;refine Jd.h ?_;exact ao (dN (da hr) (cg E.k_Road E.n_Road_lateness (dvQ 0)) (dvQ 1) (dvQ 2))
theorem jN:bh fC q_6 (aq cI):=by walk_at "sc"
theorem jK(E:Env K mg)(F:Mf K ae "twice" "Road.twice" cI q_6 f fq) :
  cR P w K mg base CX0 1 f fq q_6 (dy K a6):=by
 refine cK (t:=fm) F.fn jN iA (λ cdv A outer s H E' hr=>?_) gS;refine Jd.h ?_;exact ao (dN (da hr) (cg E.k_Road E.n_Road_doubled (dvQ 0)) (dvQ 1) (dvQ 2))
theorem lG:bh iR q_7 (aq dQ):=by walk_at "sc"
theorem lM(E:Env K mg)(F:Mf K ae "cut" "Road.cut" dQ q_7 f fq) :
  cR P w K mg base CX0 1 f fq q_7 (dy K bE):=by
 refine cK (t:=iU) F.fn lG k5 (λ cdv A outer s H E' hr=>?_) ji;refine Jd.h ?_;exact ao (dN (da hr) (cg E.k_Road E.n_Road_cut_off (dvQ 0)) (dvQ 1) (fj))
theorem kg:bh gW q_7 (aq dj):=by walk_at "sc"
theorem jY(E:Env K mg)(F:Mf K ae "join" "Road.join" dj q_7 f fq) :
  cR P w K mg base CX0 1 f fq q_7 (dy K aB):=by
 refine cK (t:=gI) F.fn kg je (λ cdv A outer s H E' hr=>?_) iw;refine Jd.h ?_;exact ao (dN (da hr) (cg E.k_Road E.n_Road_cut_off (dvQ 0)) (dvQ 1) (fj))
theorem fH:bh hZ q_8 (aq cZ):=by walk_at "sc"
theorem k7(E:Env K mg)(F:Fn K mg "_law_setting" cZ q_8 f fq)(z1:jE P w K mg base)(z5:gD P w K mg base)(z6:fE P w K mg base)(z7:iH P w K mg base)(z8:ee P w K mg base) :
  cR P w K mg base CX0 2 f fq q_8 (dy K aE):=by
 obtain⟨_,_,G1,O1⟩:=z1;obtain⟨_,_,G5,O5⟩:=z5;obtain⟨_,_,G6,O6⟩:=z6;obtain⟨_,_,G7,O7⟩:=z7;obtain⟨_,_,G8,O8⟩:=z8;refine cK (t:=g6 ay bq a6 bE aB) F.fn fH jd (λ cdv A outer s H E' hr=>?_) iC;refine Jd.h ?_;exact ab (aY (i:=4) fH.nd rfl (Or.inl rfl) (lI O1 hr.m rfl G1.mg G1.fn.kp G1.bd (aL (dvQ 0) (aL (af) (ag))))) <|
  ao (bQ (bM uz ny (dvQ 4) (af))
   (ab (bZ (lI O1 hr.m rfl G1.mg G1.fn.kp G1.bd (aL (dvQ 0) (aL (af) (ag)))) (cG (bA (da hr) (dvQ 2) (dvQ 3)) (af))) <|
   ao (bu (cp (dvQ 1) E.k_Road G5.me O5 hr.m G5.bd (aL (dvQ 3) (aL (bI bH bJ (bA (da hr) (dvQ 2) (dvQ 3)) (af)) (ag))))))
   (ao (bQ (bM uz ny (dvQ 4) (af))
    (ab (bZ (lI O1 hr.m rfl G1.mg G1.fn.kp G1.bd (aL (dvQ 0) (aL (af) (ag)))) (cG (bA (da hr) (dvQ 2) (dvQ 3)) (af))) <|
    ao (bu (cp (dvQ 1) E.k_Road G6.me O6 hr.m G6.bd (aL (dvQ 3) (aL (jR (kD hr.h) gK (bI bH bJ (bA (da hr) (dvQ 2) (dvQ 3)) (af)) (af)) (ag))))))
    (ao (bQ (bM (kD hr.h) gK (dvQ 4) (af))
     (ab (bZ (fj) (cG (bA (da hr) (dvQ 2) (dvQ 3)) (af))) <|
     ao (bu (cp (dvQ 1) E.k_Road G7.me O7 hr.m G7.bd (aL (dvQ 3) (ag)))))
     (ab (bZ (fj) (cG (bA (da hr) (dvQ 2) (dvQ 3)) (af))) <|
     ao (bu (cp (dvQ 1) E.k_Road G8.me O8 hr.m G8.bd (aL (dvQ 3) (ag))))))))))
theorem gO:bh d6 uW (aq a9):=by walk_at "sc"
theorem gB(E:Env K mg)(F:Fn K mg "thing_copied" a9 uW f fq){j:Nat}(O_self:cR P w K mg base CX0 (j) f fq uW (dy K (aK j))) :
  cR P w K mg base CX0 (j+1) f fq uW (dy K (aK (j+1))):=by
 refine cK (t:=dZ (aK j)) F.fn gO (fM _) (λ cdv A outer s H E' hr=>?_) (e9 j);refine Jd.h ?_;exact ab (bQ (dm (rf hU lW rfl E.b_isinstance dg (aL (dvQ 0) (aL (jG rfl E.b_tuple uA) (ag)))))
   (ao (bF (gq)))
   (bD)) <|
  ab (bQ (dm (rf hU lW rfl E.b_isinstance dg (aL (dvQ 0) (aL (jG rfl E.b_list pJ) (ag)))))
   (ao (bF (gq)))
   (bD)) <|
  ab (bQ (dm (rf hU lW rfl E.b_isinstance dg (aL (dvQ 0) (aL (jG rfl E.b_dict rl) (ag)))))
   (ao (bF (gq)))
   (bD)) <|
  ao (bF (dvQ 0))
theorem gG:bh iM q_9 (aq dR):=by walk_at "sc"
theorem lF(E:Env K mg)(F:Mf K ae "put" "Road.put" dR q_9 f fq)
  (G10:Fn K mg "thing_copied" a9 uW f10 fd10)(O10:cR P w K mg base CX0 1 f10 fd10 uW (dy K aX)) :
  cR P w K mg base CX0 2 f fq q_9 (dy K aJ):=by
 refine cK (t:=iZ aX) F.fn gG kF (λ cdv A outer s H E' hr=>?_) jv;refine Jd.h ?_;exact ab (aY (i:=4) gG.nd rfl (Or.inl rfl) (aS bx aZ (aS bx aZ (dvQ 3) (af)) (bA (da hr) (cg E.k_Road E.n_Road_lateness (dvQ 0)) (dvQ 1)))) <|
  ab (bu (cX (cg E.k_Road E.n_Road_messages (dvQ 0)) (eh (aL (dvQ 4) (aL (dvQ 1) (aL (lI O10 hr.m rfl G10.mg G10.fn.kp G10.bd (aL (dvQ 2) (ag))) (ag))))))) <|
  ao (bQ (dm (bA (da hr) (cg E.k_Road E.n_Road_doubled (dvQ 0)) (dvQ 1)))
   (ao (bu (cX (cg E.k_Road E.n_Road_messages (dvQ 0)) (eh (aL (aS bx aZ (dvQ 4) (af)) (aL (dvQ 1) (aL (lI O10 hr.m rfl G10.mg G10.fn.kp G10.bd (aL (dvQ 2) (ag))) (ag))))))))
   (bD))
theorem dr:bh fo yw (aq cJ):=by walk_at "sc"
theorem jz(E:Env K mg)(F:Fn K mg "_law_due_turn" cJ yw f fq) :
  cR P w K mg base CX0 1 f fq yw (dy K aC):=by
 refine cK (t:=fI) F.fn dr iu (λ cdv A outer s H E' hr=>?_) gX;refine Jd.h ?_;exact ab (aY (i:=4) dr.nd rfl (Or.inl rfl) (dvQ 0)) <|
  ab (oA PassesOwn.never (yS (um (bM uz ny (dvQ 4) (dvQ 3)) (pK (bM rh (tK false) (dvQ 1) (bA (da hr) (dvQ 2) (dvQ 4))))))
   (ao (aY (i:=4) dr.nd rfl (Or.inl rfl) (aS bx aZ (dvQ 4) (af))))) <|
  ao (bF (dvQ 4))
theorem kX:bh ij yy (aq dk):=by walk_at "sc"
theorem kU(E:Env K mg)(F:Mf K ae "many" "Road.many" dk yy f fq) :
  cR P w K mg base CX0 1 f fq yy (dy K aH):=by
 refine cK (t:=h9) F.fn kX jO (λ cdv A outer s H E' hr=>?_) iB;refine Jd.h ?_;exact ao (bF (rf dW iO rfl E.b_len iI (aL (cg E.k_Road E.n_Road_messages (dvQ 0)) (ag))))
theorem aci:(["_law_name"]:List Str).Nodup:=by decide +kernel
theorem acf:(["_law_name", "_law_here"]:List Str).Nodup:=by decide +kernel
theorem ua:(["_law_turn", "_law_first", "_law_number", "_law_name"]:List Str).Nodup:=by decide +kernel
theorem bB:bh aaG q_0 (aq i6):=by walk_at "sc"
theorem aaK(E:Env K mg)(F:Fn K mg "law" i6 q_0 f fq)(z0:pZ P w K mg base)(z1:jE P w K mg base)(z2:ie P w K mg base)(z4:gQ P w K mg base)(z9:gC P w K mg base)(z11:iP P w K mg base)(z8:ee P w K mg base)(z12:ft P w K mg base)(z13:gZ P w K mg base) :
  cR P w K mg base CX0 5 f fq q_0 (dy K g9):=by
 obtain⟨_,_,G0,O0⟩:=z0;obtain⟨_,_,G1,O1⟩:=z1;obtain⟨_,_,G2,O2⟩:=z2;obtain⟨_,_,G4,O4⟩:=z4;obtain⟨_,_,G9,O9⟩:=z9;obtain⟨_,_,G11,O11⟩:=z11;obtain⟨_,_,G8,O8⟩:=z8;obtain⟨_,_,G12,O12⟩:=z12;obtain⟨_,_,G13,O13⟩:=z13;refine cK (t:=x9 b9 ay aW aF aE aJ aB aC aH) F.fn bB xU (λ cdv A outer s H E' hr=>?_) t9;refine Jd.h ?_;exact ab (aY (i:=1) bB.nd rfl (Or.inl rfl) (lI O0 hr.m rfl G0.mg G0.fn.kp G0.bd (aL (dvQ 0) (ag)))) <|
  ab (aY (i:=2) bB.nd rfl (Or.inl rfl) (kC (oP (aL (dE) (aL (dE) (aL (dE) (aL (dE) (aL (dE) (aL (dE) (aL (dE) (aL (dE) (ag)))))))))) (kN) (kO (aS bx aZ (af) (lI O1 hr.m rfl G1.mg G1.fn.kp G1.bd (aL (dvQ 1) (aL (bI bH bJ (oP (aL (af) (aL (af) (ag)))) (lI O1 hr.m rfl G1.mg G1.fn.kp G1.bd (aL (dvQ 1) (aL (af) (ag))))) (ag)))))))) <|
  ab (aY (i:=3) bB.nd rfl (Or.inl rfl) (sI G2.mi O2 hr.m rfl E.m_Road G2.bd (aL (jS (acH k8 o5 rfl E.b_list pJ (aL (dvQ 2) (ag)))) (ag)))) <|
  ab (aY (i:=4) bB.nd rfl (Or.inr rfl) (acH (lO rfl) oi rfl E.b_dict rl (aL (xI rfl (sC (own:=(["_law_name"]:List Str)) (fr:=[]) rfl) (bw (dvQ 2)) (λ _ _ _ _ _ _=>aA (i:=0) aci rfl (Or.inl rfl)) (λ _ _ _ _ _ _=>cD) (λ _ _ _ _ _ _=>ue (aL (dvQ 0) (aL (dU (aL (af) (aL (af) (aL (fj) (ag))))) (ag))))) (ag)))) <|
  ab (rE (i:=5) (j:=6) (l:=7) rfl bB.nd rfl rfl rfl rfl rfl rfl (aL (dU (ag)) (aL (dU (ag)) (aL (oe) (ag))))) <|
  ab (aY (i:=8) bB.nd rfl (Or.inl rfl) (aS bx aZ (af) (lI O1 hr.m rfl G1.mg G1.fn.kp G1.bd (aL (dvQ 1) (aL (af) (ag)))))) <|
  ab (aY (i:=9) bB.nd rfl (Or.inl rfl) (aS bx aZ (dvQ 8) (af))) <|
  ab (de PassesOwn.never rfl (l5 rfl E.b_range (aL (af) (aL (aS bx aZ (dvQ 9) (af)) (ag)))) (aA (i:=10) bB.nd rfl (Or.inl rfl))
   (ab (dN (da hr) (dvQ 7) (dvQ 10) (pY rfl (sC (own:=(["_law_name"]:List Str)) (fr:=[4]) rfl) (bw (dvQ 2)) (λ _ _ _ _ _ _=>aA (i:=0) acf rfl (Or.inl rfl)) (λ _ _ _ _ _ _=>gp (dm (bI bH bJ (bA (da hr) (dvQ 1) (dvQ 0)) (af)))) (λ _ _ _ _ _ _=>dvQ 0))) <|
   ab (de PassesOwn.never rfl (bw (cp (dvQ 3) E.k_Road G4.me O4 hr.m G4.bd (aL (dvQ 10) (ag)))) (eK rfl (aO (aA (i:=11) bB.nd rfl (Or.inl rfl)) (aO (aA (i:=12) bB.nd rfl (Or.inl rfl)) (dJ))))
    (ao (bu (cX (dvQ 6) (eh (aL (dvQ 10) (aL (dvQ 11) (aL (dvQ 12) (ag))))))))) <|
   ab (bQ (bM ve sf (dvQ 10) (dvQ 8))
    (ab (de PassesOwn.never rfl (dh rfl E.b_range (aL (lI O1 hr.m rfl G1.mg G1.fn.kp G1.bd (aL (dvQ 1) (aL (af) (ag)))) (ag))) (aA (i:=13) bB.nd rfl (Or.inl rfl))
     (ao (bu (lI O9 hr.m rfl G9.mg G9.fn.kp G9.bd (aL (dvQ 1) (aL (dvQ 3) (aL (dvQ 4) (aL (bI bH bJ (dvQ 2) (lI O1 hr.m rfl G1.mg G1.fn.kp G1.bd (aL (dvQ 1) (aL (rf dW iO rfl E.b_len iI (aL (dvQ 2) (ag))) (ag))))) (ag))))))))) <|
    ao (de PassesOwn.never rfl (dh rfl E.b_range (aL (lI O1 hr.m rfl G1.mg G1.fn.kp G1.bd (aL (dvQ 1) (aL (af) (ag)))) (ag))) (aA (i:=13) bB.nd rfl (Or.inl rfl))
     (ab (aY (i:=11) bB.nd rfl (Or.inl rfl) (bI bH bJ (dvQ 2) (lI O1 hr.m rfl G1.mg G1.fn.kp G1.bd (aL (dvQ 1) (aL (rf dW iO rfl E.b_len iI (aL (dvQ 2) (ag))) (ag)))))) <|
     ab (bu (cX (dvQ 5) (eh (aL (dvQ 11) (aL (aS bx aZ (aS bx aZ (dvQ 10) (af)) (bI bH bJ (bA (da hr) (dvQ 4) (dvQ 11)) (af))) (aL (bI bH bJ (bA (da hr) (dvQ 4) (dvQ 11)) (af)) (ag))))))) <|
     ao (bu (cp (dvQ 3) E.k_Road G11.me O11 hr.m G11.bd (aL (dvQ 11) (aL (rf dW iO rfl E.b_len iI (aL (dvQ 5) (ag))) (aL (dvQ 10) (ag)))))))))
    (bD)) <|
   ao (bQ (bM (kD hr.h) gK (dvQ 10) (dvQ 8))
    (ao (de PassesOwn.never rfl (bw (dvQ 2)) (aA (i:=11) bB.nd rfl (Or.inl rfl))
     (ab (bZ (fj) (cG (bA (da hr) (dvQ 4) (dvQ 11)) (af))) <|
     ao (bu (cp (dvQ 3) E.k_Road G8.me O8 hr.m G8.bd (aL (dvQ 11) (ag)))))))
    (bD)))) <|
  ab (aY (i:=14) bB.nd rfl (Or.inl rfl) (dU (ag))) <|
  ab (de PassesOwn.never rfl (dh rfl E.b_range (aL (rf dW iO rfl E.b_len iI (aL (dvQ 5) (ag))) (ag))) (aA (i:=13) bB.nd rfl (Or.inl rfl))
   (ab (bZ (bI bH bJ (dvQ 5) (dvQ 13)) (eK rfl (aO (aA (i:=11) bB.nd rfl (Or.inl rfl)) (aO (aA (i:=15) bB.nd rfl (Or.inl rfl)) (aO (aA (i:=16) bB.nd rfl (Or.inl rfl)) (dJ)))))) <|
   ao (de PassesOwn.never rfl (dh rfl E.b_range (aL (aS bx aZ (af) (dvQ 16)) (ag))) (aA (i:=17) bB.nd rfl (Or.inl rfl))
    (ab (aY (i:=10) bB.nd rfl (Or.inl rfl) (lI O12 hr.m rfl G12.mg G12.fn.kp G12.bd (aL (aS bx aZ (dvQ 15) (dvQ 17)) (aL (dvQ 11) (aL (dvQ 7) (aL (dvQ 9) (ag))))))) <|
    ao (bu (cX (dvQ 14) (eh (aL (dvQ 10) (aL (aS bx aZ (dvQ 15) (dvQ 17)) (aL (aS bx aZ (dvQ 13) (af)) (aL (dvQ 11) (ag)))))))))))) <|
  ab (nL (i:=18) bB.nd rfl (Or.inl rfl) rfl (sC (own:=(["_law_turn", "_law_first", "_law_number", "_law_name"]:List Str)) (fr:=[]) rfl) (bw (jS (rf kL tZ rfl E.b_sorted ko (aL (dvQ 14) (ag))))) (λ _ _ _ _ _ _=>eK rfl (aO (aA (i:=0) ua rfl (Or.inl rfl)) (aO (aA (i:=1) ua rfl (Or.inl rfl)) (aO (aA (i:=2) ua rfl (Or.inl rfl)) (aO (aA (i:=3) ua rfl (Or.inl rfl)) (dJ)))))) (λ _ _ _ _ _ _=>cD) (λ _ _ _ _ _ _=>eh (aL (dvQ 0) (aL (dvQ 3) (aL (dvQ 2) (ag)))))) <|
  ao (bF (pq (jR (kD hr.h) gK (dvQ 6) (dvQ 18)) (se (jR (kD hr.h) gK (qD (dvQ 3) E.k_Road G13.me O13 hr.m G13.bd) (af)))))
theorem all_mk{l:W.OpenLaw}{w:World}{K:FG}{h:Heap}{mg:Str->Option Value}{fa:Addr}(X:K.In h)(G:h.Ns mainGlobals mg)(hfa:mg "law" = some (.ref fa))
  (p0:PFn K "_law_bag" js)
  (p1:PFn K "_law_take" fW)
  {f2:Addr}{oc2 kV2 dc2 pm2 cd2 ct2:Value}{od2 an2:Option Addr}{sl2:Array (Option Value)}
  (a2:W.findIn K (.ref ae) "__init__" = some (some (.ref f2)))(i2:W.isFn K (.ref f2)=true)(l2:K.lookup f2=some ⟨oc2,od2,.func (W.fnOf "__init__" "Road.__init__" (aU bO) (aM bO) (aq bO) .none kV2 dc2 pm2 an2 cd2 ct2),sl2⟩)(c2:W.codeIn K cd2 "Road.__init__" = true)(k2:W.keepIn K (.ref f2)=true)
  (p3:PMf K ae "is_due" "Road.is_due" cq)
  {f4:Addr}{oc4 kV4 dc4 pm4 cd4 ct4:Value}{od4 an4:Option Addr}{sl4:Array (Option Value)}
  (a4:W.findIn K (.ref ae) "come" = some (some (.ref f4)))(i4:W.isFn K (.ref f4)=true)(l4:K.lookup f4=some ⟨oc4,od4,.func (W.fnOf "come" "Road.come" (aU bN) (aM bN) (aq bN) .none kV4 dc4 pm4 an4 cd4 ct4),sl4⟩)(c4:W.codeIn K cd4 "Road.come" = true)(k4:W.keepIn K (.ref f4)=true)
  (cc4:cd4=.ref bL)
  (p5:PMf K ae "late" "Road.late" c6)
  (p6:PMf K ae "twice" "Road.twice" cI)
  (p7:PMf K ae "cut" "Road.cut" dQ)
  (p8:PMf K ae "join" "Road.join" dj)
  (p9:PFn K "_law_setting" cZ)
  {f10:Addr}{oc10 kV10 dc10 pm10 cd10 ct10:Value}{od10 an10:Option Addr}{sl10:Array (Option Value)}
  (a10:W.nsIn K mainGlobals "thing_copied" = some (some (.ref f10)))(l10:K.lookup f10=some ⟨oc10,od10,.func (W.fnOf "thing_copied" "thing_copied" (aU a9) (aM a9) (aq a9) .none kV10 dc10 pm10 an10 cd10 ct10),sl10⟩)(c10:W.codeIn K cd10 "thing_copied" = true)(k10:W.keepIn K (.ref f10)=true)
  (p11:PMf K ae "put" "Road.put" dR)
  (p12:PFn K "_law_due_turn" cJ)
  (p13:PMf K ae "many" "Road.many" dk)
  {f14:Addr}{oc14 kV14 dc14 pm14 cd14 ct14:Value}{od14 an14:Option Addr}{sl14:Array (Option Value)}
  (a14:W.nsIn K mainGlobals "law" = some (some (.ref f14)))(l14:K.lookup f14=some ⟨oc14,od14,.func (W.fnOf "law" "law" (aU i6) (aM i6) (aq i6) .none kV14 dc14 pm14 an14 cd14 ct14),sl14⟩)(c14:W.codeIn K cd14 "law" = true)(k14:W.keepIn K (.ref f14)=true)
  (aC_Road:W.nsIn K mainGlobals "Road" = some (some (.ref ae)))(pg_Road:W.plainGet K ae Str.empty=true)(hd_Road:W.hasDictIn K ae=true)(po_Road:W.plainOver K ae=true)(sa_Road:W.findIn K (.ref ae) "__setattr__" = some (some (.builtin "object.__setattr__")))(mk_Road:W.makesIn K ae=true)(kc_Road:W.keepIn K (.ref ae)=true)
  (xf_h_Road_come:W.codeHdIn K bL ak=true)
  (n_Road_cut_off:W.findIn K (.ref ae) "cut_off" = some none)
  (n_Road_doubled:W.findIn K (.ref ae) "doubled" = some none)
  (n_Road_lateness:W.findIn K (.ref ae) "lateness" = some none)
  (n_Road_messages:W.findIn K (.ref ae) "messages" = some none)
  (b_abs:W.nsIn K mainGlobals "abs" = some none)
  (b_dict:W.nsIn K mainGlobals "dict" = some none)
  (b_isinstance:W.nsIn K mainGlobals "isinstance" = some none)
  (b_len:W.nsIn K mainGlobals "len" = some none)
  (b_list:W.nsIn K mainGlobals "list" = some none)
  (b_range:W.nsIn K mainGlobals "range" = some none)
  (b_sorted:W.nsIn K mainGlobals "sorted" = some none)
  (b_tuple:W.nsIn K mainGlobals "tuple" = some none) :
  ∃ fq:FuncData,(∀ (s:Shared) (v:Value),BindsTo s fq ⟨[v],[]⟩ [("_law_script",v)])/\∀ base:Heap,K.In base->base.Ns mainGlobals mg->cR l.prog w K mg base CX0 5 fa fq q_0 (dy K g9):=by
 have e:=hfa.symm.trans (W.mg_of X G a14);cases e;have E:Env K mg:=⟨⟨pg_Road,hd_Road,po_Road,sa_Road⟩,W.mg_of X G aC_Road,xf_h_Road_come,n_Road_cut_off,n_Road_doubled,n_Road_lateness,n_Road_messages,W.mg_none_of X G b_abs,W.mg_none_of X G b_dict,W.mg_none_of X G b_isinstance,W.mg_none_of X G b_len,W.mg_none_of X G b_list,W.mg_none_of X G b_range,W.mg_none_of X G b_sorted,W.mg_none_of X G b_tuple⟩;obtain⟨_,_,G0⟩:=p0.fn (ps:=q_0) X G (by walk_at "b1");obtain⟨_,_,G1⟩:=p1.fn (ps:=q_1) X G (by walk_at "b2");have G2:Mi K ae "Road.__init__" bO q_2 _ _:=acn a2 i2 l2 c2 k2 mk_Road kc_Road (λ _ _ _ _ _ _ us hl=>by obtain⟨_,_,rfl⟩:=D.uv hl;rfl);obtain⟨_,_,G3⟩:=p3.mf (ps:=q_3) (by walk_at "b3");have G4:Mf K ae "come" "Road.come" bN q_4 _ _:=aaN a4 i4 l4 c4 k4 (λ _ _ _ _ _ _ us hl=>by obtain⟨_,_,rfl⟩:=D.uv hl;rfl);obtain⟨_,_,G5⟩:=p5.mf (ps:=q_5) (by walk_at "b3");obtain⟨_,_,G6⟩:=p6.mf (ps:=q_6) (by walk_at "b3");obtain⟨_,_,G7⟩:=p7.mf (ps:=q_7) (by walk_at "b2");obtain⟨_,_,G8⟩:=p8.mf (ps:=q_7) (by walk_at "b2");obtain⟨_,_,G9⟩:=p9.fn (ps:=q_8) X G (by walk_at "b4");have G10:Fn K mg "thing_copied" a9 uW _ _:=vp X G a10 l10 c10 k10 (λ _ _ _ _ _ _ us hl=>by obtain⟨_,rfl⟩:=D.tq hl;rfl);obtain⟨_,_,G11⟩:=p11.mf (ps:=q_9) (by walk_at "b4");obtain⟨_,_,G12⟩:=p12.fn (ps:=yw) X G (by walk_at "b4");obtain⟨_,_,G13⟩:=p13.mf (ps:=yy) (by walk_at "b1");have G14:Fn K mg "law" i6 q_0 _ _:=vp X G a14 l14 c14 k14 (λ _ _ _ _ _ _ us hl=>by obtain⟨_,rfl⟩:=D.tq hl;rfl);refine⟨W.fnOf "law" "law" (aU i6) (aM i6) (aq i6) .none kV14 dc14 pm14 an14 cd14 ct14,λ s v=>.of_eq rfl,λ base _ _=>?_⟩;have z0:pZ l.prog w K mg base:=⟨_,_,G0,tu E G0⟩;have z1:jE l.prog w K mg base:=⟨_,_,G1,rF E G1⟩;have z2:ie l.prog w K mg base:=⟨_,_,G2,k6 E G2⟩;have z3:eU l.prog w K mg base:=⟨_,_,G3,iy E G3⟩;have z4:gQ l.prog w K mg base:=⟨_,_,G4,km E G4 cc4 z3⟩;have z5:gD l.prog w K mg base:=⟨_,_,G5,j0 E G5⟩;have z6:fE l.prog w K mg base:=⟨_,_,G6,jK E G6⟩;have z7:iH l.prog w K mg base:=⟨_,_,G7,lM E G7⟩;have z8:ee l.prog w K mg base:=⟨_,_,G8,jY E G8⟩;have z9:gC l.prog w K mg base:=⟨_,_,G9,k7 E G9 z1 z5 z6 z7 z8⟩;have O10:=(gB (P:=l.prog) (w:=w) (base:=base) E G10 (j:=0) (tV eQ:cR l.prog w K mg base CX0 0 _ _ uW (dy K (aK 0))));have z11:iP l.prog w K mg base:=⟨_,_,G11,lF E G11 G10 O10⟩;have z12:ft l.prog w K mg base:=⟨_,_,G12,jz E G12⟩;have z13:gZ l.prog w K mg base:=⟨_,_,G13,kU E G13⟩;have O14:=aaK (P:=l.prog) (w:=w) (base:=base) E G14 z0 z1 z2 z4 z9 z11 z8 z12 z13;exact O14
end
theorem walk{l:W.OpenLaw}{q:Program}{loose:List Str}{XP:(Str->Option Value)->Heap->Prop}{YP:World->Heap->Prop}{d:DefRec}{K:Params->FG}(hq:PyProof.Rows.importsNone q=true)(hn:l.most=some 63)(hdf:d.params.defaults=[])
  (hT:∀ w:World,W.codeHdIn (K w.params) bL ak=true/\(K w.params).lookup ak=none)(hY:∀ (w:World) (h:Heap),YP w h->(K w.params).In h/\∀ T∈[ak],h.get? T=some {cls:=.none,data:=.fields #[]})
  (F:∀ (w:World) (mg:Str->Option Value) (fa:Addr) (h:Heap),(K w.params).In h->h.Ns mainGlobals mg->mg d.name=some (.ref fa) ->
   ∃ fq:FuncData,(∀ (s:Shared) (u:Value),BindsTo s fq ⟨[u],[]⟩ [("_law_script",u)])/\∀ base:Heap,(K w.params).In base->base.Ns mainGlobals mg->cR l.prog w (K w.params) mg base CX0 5 fa fq q_0 (dy (K w.params) g9)) :
  W.WalkO q loose XP YP l.row.toRowW d [] (λ f vs=>PySem.call f vs):=
 L2.sY (n:=63) (k:=5) (x:= "_law_script") (CX:=λ _=>CX0) (sp:=λ w=>dy (K w.params) g9) hq hn (by decide) hdf ⟨rfl,rfl,by decide,by decide⟩ [ak] (λ w T h=>by rw[List.mem_singleton.mp h];exact⟨⟨_,(hT w).1⟩,(hT w).2⟩) hY F (λ _ H a ns hl hO hB hS=>D.nQ (q:=cy) (lpos:=⟨46,77,46,103⟩) hl hO hB hS tN) λ _ _ _ _ _ z=>z
end K57
end
namespace PySem.W.Fast
def tw7215842059546617150:=0
def tw15196757467234448859:=0
def tw4219975930998056410:=0
def tw11031906882477806582:=0
def tw18146008266161511413:=0
def tw1740835144195191025:=0
def tw16450364669445231148:=0
def tw11441911922299661034:=0
def tw4650089740230446305:=0
end PySem.W.Fast
open PySem PySem.W PyProof.Rows
local macro_rules | `(tactic| walk_at "kf")=>`(tactic| (refine' D.aad ?a ?l ?c ?k; (case a=>k_is); (case l=>k_is); (case c=>k_is); (case k=>k_is)))
local macro_rules | `(tactic| walk_at "km")=>`(tactic| (refine' D.zH ?a ?i ?l ?c ?k; (case a=>k_is); (case i=>k_is); (case l=>k_is); (case c=>k_is); (case k=>k_is)))
local macro_rules | `(tactic| walk_at "kx")=>`(tactic| (refine' D.pxi_mk ?a ?i ?l ?c ?k ?m ?t ?n; (case a=>k_is); (case i=>k_is); (case l=>k_is); (case c=>k_is); (case k=>k_is); (case m=>kernel_rfl); (case t=>k_is); (case n=>k_is)))
local macro_rules | `(tactic| walk_at "ke")=>`(tactic| (refine' ⟨?a,?b,?c,?d,?e⟩; (case a=>kernel_rfl); (case b=>k_is); (case c=>k_is); (case d=>k_is); (case e=>k_is)))
set_option maxRecDepth 100000
set_option maxHeartbeats 0
theorem PySem.Challenge.cw_placedworks_k57_whole_order_of_coming_holds : PySem.Challenge.rw_placedworks_k57_whole_order_of_coming.Holds := by
 w_on;o_law;k_head; (case hw=>w_witness2)
 k_fill
 refine K57.walk (l:=PySem.Challenge.rw_placedworks_k57_whole_order_of_coming) ?Q rfl rfl ?T (λ w h Y=>⟨PySem.W.km_in_of Y,PySem.W.km_tabs_of Y⟩) ?F
 case Q=>kernel_rfl
 case T=>(intro w;exact⟨by kernel_rfl,by kernel_rfl⟩)
 case F =>
  intro w mg fa h KX G hmg;refine' K57.all_mk KX G hmg ?v0 ?v1 ?v2 ?v3 ?v4 ?v5 ?v6 ?v7 ?v8 ?v9 ?v10 ?v11 ?v12 ?v13 ?v14 ?v15 ?v16 ?v17 ?v18 ?v19 ?v20 ?v21 ?v22 ?v23 ?v24 ?v25 ?v26 ?v27 ?v28 ?v29 ?v30 ?v31 ?v32 ?v33 ?v34 ?v35 ?v36 ?v37 ?v38 ?v39 ?v40 ?v41 ?v42 ?v43 ?v44 ?v45 ?v46 ?v47 ?v48 ?v49
  (case v0 | v1 | v18 | v24=>walk_at "kf")
  (case v2 | v3 | v4 | v5 | v6 | v8 | v9 | v10 | v11 | v12 | v19 | v20 | v21 | v22 | v26 | v27 | v28 | v29 | v30 | v31 | v32 | v33 | v34 | v35 | v36 | v38 | v39 | v40 | v41 | v42 | v43 | v44 | v45 | v46 | v47 | v48 | v49=>k_is)
  (case v7 | v14 | v15 | v16 | v17 | v23 | v25=>walk_at "km")
  (case v13=>exact rfl)
  (case v37=>kernel_rfl)
