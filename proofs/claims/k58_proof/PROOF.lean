import PyProof.Rows.All
import Wide.All
import OpenK.AllK
import Wide.FinOn
import Lean
import PyProof.EqAt
import PyProof.EqKinds
import PyProof.TupleCall
import KE.KSortTup
import KE.KDictSum
import PyProof.Rows.Range3
import PyProof.Rows.SortRev
import PyProof.StrBlock2
import PyProof.ZipIter
import PyProof.Rows.ZipGen
import PyProof.NeKinds
import PyProof.DictCompW
import PyProof.DictWalks
import PyProof.AttrMissHeap
import PyProof.WalksS
import KE.KDictOf
import KE.KListMore
import KE.KEqDict
import PyProof.StationsW
import PyProof.InstStoreFacts
import PyProof.ExcBaseAll.ValueError
import PyProof.ExcClass2
import PyProof.RulesAs
import KE.KTryMore
import PyProof.ExcArgs
import KE.KIsAll
import OpenK.KOwn
import PyProof.P3In
import PyProof.DictUpdate
import PyProof.MeetsSeq2
import KE.KIntText
import KE.KRevSl
import PyProof.Rows.StrLawsPart
import PyProof.EnumMake
import PyProof.Draws
import PyProof.ListRange
import PyProof.TupleOfStr
import KE.KLam
import KE.KNestM
import KE.KMinKey
import PyProof.Rows.StrSplitMax
import PyProof.StrLawsOccR
import PyProof.Rows.SetFrom
import PySem.Challenge.RW_placedworks_k58_whole_late_sheets_harmle
open PySem renaming wpAny_bind→wb0,wpAny_pure→wp
open List renaming length_map→lm
open Bool renaming false_ne_true→ft0,and_eq_true→ae00
open Nat renaming le_refl→lr0
set_option genSizeOf false
set_option genSizeOfSpec false
set_option bootstrap.genMatcherCode false
set_option Elab.async false
set_option linter.all false
set_option maxRecDepth 100000
abbrev FG:=PySem.W.Frag
abbrev PN:=List (PySem.Addr×PySem.Obj)
abbrev VP:=PySem.Value->PySem.Shared->Prop
abbrev ND(x:PySem.Str):Prop:=(x==("__debug__" : PySem.Str))=false
section
open PySem PySem.Spec PyProof.Rows
local macro_rules | `(tactic| walk_at "whr")=>`(tactic| ((repeat (extract_lets +onlyGivenNames -underBinder -merge a; (fail_if_success (have:_->_:=a));subst a)); (try dsimp (config:={zeta:=false,zetaHave:=false}) only); (repeat (extract_lets +onlyGivenNames -underBinder -merge a; (fail_if_success (have:_->_:=a));subst a))))
namespace L2
abbrev Key:=Sum Int Str
def tm:Key->Value->Bool
 | .inl k,v=>Value.isInt k v
 | .inr x,v=>Value.isStrOf x v
def alI(w:World):Key->Int
 | .inl k=>hashInt k
 | .inr x=>hashStr w x
theorem bK:∀ {k:Key} {v:Value},tm k v=true->(∃ i t,k=Sum.inl i/\v=Value.int i t)\/(∃ x t,k=Sum.inr x/\v=Value.str x t)
 | .inl i,v,h=>by obtain⟨t,e⟩:=Value.isInt_shape (k:=i) (v:=v) h;exact .inl ⟨i,t,rfl,e⟩
 | .inr x,v,h=>by obtain⟨t,e⟩:=Value.isStrOf_shape (x:=x) (v:=v) h;exact .inr ⟨x,t,rfl,e⟩
theorem yM(i:Int)(t:Tok):tm (.inl i) (.int i t)=true:=by simp[tm,Value.isInt]
theorem aaU(x:Str)(t:Tok):tm (.inr x) (.str x t)=true:=by simp[tm,Value.isStrOf]
theorem ajh(a b:Int):decide ((Sum.inl a:Key)=Sum.inl b)=(a==b):=by
 by_cases e:a=b
 .subst e;simp
 .have h:¬ (Sum.inl a:Key)=Sum.inl b:=λ q=>e (Sum.inl.inj q);rw[decide_eq_false h];exact(beq_eq_false_iff_ne.mpr e).symm
theorem ajf(a b:Str):decide ((Sum.inr a:Key)=Sum.inr b)=decide (a=b):=by
 by_cases e:a=b
 .subst e;simp
 .have h:¬ (Sum.inr a:Key)=Sum.inr b:=λ q=>e (Sum.inr.inj q);rw[decide_eq_false h,decide_eq_false e]
theorem aio(a:Int)(b:Str):decide ((Sum.inl a:Key)=Sum.inr b)=false:=decide_eq_false (λ q=>nomatch q)
theorem aiC(a:Str)(b:Int):decide ((Sum.inr a:Key)=Sum.inl b)=false:=decide_eq_false (λ q=>nomatch q)
def a9(prog:Program)(w:World):PySem.KeyKind prog w Key where
 is:=tm
 hash:=alI w
 inj:=λ v a b ha hb=>by
  rcases bK ha with ⟨i,t,rfl,rfl⟩ | ⟨x,t,rfl,rfl⟩
  .rcases bK hb with ⟨j,u,rfl,e⟩ | ⟨y,u,rfl,e⟩
   .injection e with e1 _;rw[e1]
   .exact nomatch e
  .rcases bK hb with ⟨j,u,rfl,e⟩ | ⟨y,u,rfl,e⟩
   .exact nomatch e
   .injection e with e1 _;rw[e1]
 byValue:=λ k v h=>by
  rcases bK h with ⟨i,t,rfl,rfl⟩ | ⟨x,t,rfl,rfl⟩<;>rfl
 pyHash:=λ hv h=>by
  rcases bK hv with ⟨i,t,rfl,rfl⟩ | ⟨x,t,rfl,rfl⟩
  .exact wpAny_pyHash_int h
  .exact wpAny_pyHash_str h
 eqBool:=λ hu hv h=>by
  rcases bK hu with ⟨i,t,rfl,rfl⟩ | ⟨x,t,rfl,rfl⟩
  .rcases bK hv with ⟨j,u,rfl,rfl⟩ | ⟨y,u,rfl,rfl⟩
   .rw[ajh] at h;exact wpAny_eqBool_int h
   .rw[aio] at h;exact SeqAt.EqAt.int_str i t y u _ _ _ _ h
  .rcases bK hv with ⟨j,u,rfl,rfl⟩ | ⟨y,u,rfl,rfl⟩
   .rw[aiC] at h;exact SeqAt.EqAt.str_int x t j u _ _ _ _ h
   .rw[ajf] at h;exact wpAny_eqBool_str h
 «strs»:=λ k x t v h=>by
  rcases bK h with ⟨i,u,rfl,e⟩ | ⟨y,u,rfl,e⟩
  .exact nomatch e
  .injection e with e1 _
   subst e1;cases v<;>rfl
theorem tM(prog:Program)(w:World)(i:Int)(t:Tok):(a9 prog w).is (.inl i) (.int i t)=true:=yM i t
theorem tN(prog:Program)(w:World)(x:Str)(t:Tok):(a9 prog w).is (.inr x) (.str x t)=true:=aaU x t
inductive V where
 | non | bl (b:Bool) | int (i:Int) | str (x:Str) | byt (b:Array UInt8) | flt (b:UInt64) | ref (a:Addr) | ty (n:String)
 deriving DecidableEq
def RelV:V->Value->Prop
 | .non,u=>u=Value.none
 | .bl b,u=>u=Value.bool b
 | .int i,u=>∃ t,u=Value.int i t
 | .str x,u=>∃ t,u=Value.str x t
 | .byt b,u=>∃ t,u=Value.bytes b t
 | .flt b,u=>∃ t,u=Value.float b t
 | .ref a,u=>u=Value.ref a
 | .ty n,u=>u=Value.type n
abbrev Vals:List V->List Value->Prop:=Paired RelV
theorem Vals.length(r:Vals xs us):xs.length=us.length:=Paired.length r
theorem Vals.get:∀ {xs:List V} {us:List Value} {i:Nat} {x:V},Vals xs us->xs[i]? =some x->∃ u,us[i]? =some u/\RelV x u
 | _,_,_,_,.nil,e=>by simp at e
 | _,_,0,_,.cons r _,e=>by simp at e;subst e;exact⟨_,rfl,r⟩
 | _,_,i+1,x,.cons _ t,e=>by obtain⟨u,h1,h2⟩:=Vals.get (i:=i) (x:=x) t (by simpa using e);exact⟨u,by simpa using h1,h2⟩
theorem Vals.set(r:RelV x u):∀ {xs:List V} {us:List Value} (i:Nat),Vals xs us->Vals (xs.set i x) (us.set i u)
 | _,_,_,.nil=>.nil
 | _,_,0,.cons _ t=>.cons r t
 | _,_,i+1,.cons q t=>.cons q (Vals.set r i t)
theorem Vals.append:∀ {xs ys:List V} {us ws:List Value},Vals xs us->Vals ys ws->Vals (xs++ys) (us++ws)
 | _,_,_,_,.nil,s=>s
 | _,_,_,_,.cons r t,s=>.cons r (Vals.append t s)
theorem Vals.take:∀ {xs:List V} {us:List Value} (n:Nat),Vals xs us->Vals (xs.take n) (us.take n)
 | _,_,0,_=>.nil
 | _,_,_+1,.nil=>.nil
 | _,_,n+1,.cons r t=>.cons r (Vals.take n t)
theorem Vals.drop:∀ {xs:List V} {us:List Value} (n:Nat),Vals xs us->Vals (xs.drop n) (us.drop n)
 | _,_,0,r=>r
 | _,_,_+1,.nil=>.nil
 | _,_,n+1,.cons _ t=>Vals.drop n t
def qP:Option V->Option Value->Prop
 | some v,some u=>RelV v u
 | none,none=>True
 | _,_=>False
def KV:List (κ×V)->List (κ×Value)->Prop:=Paired λ(p:κ×V) (q:κ×Value)=>p.1=q.1/\RelV p.2 q.2
def kV:Key->V
 | .inl i=>.int i
 | .inr x=>.str x
inductive HO where
 | lst (xs:List V)
 | tup (xs:List V)
 | dK (kvs:List (Key×V)) | dT (kvs:List (List Key×V))
 | set (S:Int->Bool) (n:Nat)
 | ins (C dx:Addr) (fs:List (Str×V))
 | own (x:Addr)
 | xd (fs:List (Str×V))
 | met (f x:Addr)
 | rng (lo hi:Int)
 | frz (o:Obj) (u:HO)
 | tbl (ps:Array Value)
 | ext (φ:Heap->Prop)
abbrev Hp:=Addr->Option HO
def upd(H:Hp)(a:Addr)(o:HO):Hp:=λ b=>if b=a then some o else H b
theorem aj:upd H a o a=some o:=by unfold upd;rw[if_pos rfl]
theorem ai(h:b≠a):upd H a o b=H b:=by unfold upd;rw[if_neg h]
theorem afP:upd (upd H a o) a u=upd H a u:=by
 funext b;unfold upd;split<;>rfl
theorem xj{H:Hp}{a b:Addr}{o u:HO}(h:H a=some o)(h':H b=some u)(d:o≠u):a≠b:=by intro e;subst e;rw[h] at h';exact d (Option.some.inj h')
theorem aR{H:Hp}{a b:Addr}{o:HO}(h:H a=some o)(h':H b=none):a≠b:=by intro e;subst e;rw[h] at h';cases h'
def abE(h:Heap)(a:Addr)(items:Array Value):Prop:=∃ o,h.get? a=some o/\o.cls=.type "tuple" /\ o.dict=none/\∃ n,o.data=.seq items n
theorem abE.tup(x:abE h a items):IsTup h a items:=let ⟨o,h1,h2,_,h3⟩:=x; ⟨o,h1,h2,h3⟩
theorem abE.new(h:Heap)(items:Array Value):abE (h.push {cls:=.type "tuple",data:=.seq items}) h.objs.size items:=⟨_,Heap.get?_push_size _ rfl,rfl,rfl,_,rfl⟩
section
variable (P:Program)(w:World)
def cF(H:Hp)(h:Heap)(a:Addr):HO->Prop
 | .lst xs=>xs.length<=sizeLine/\∃ (its:List Value) (n:Nat),Vals xs its/\h.get? a=some {cls:=.type "list",data:=.seq its.toArray n}
 | .tup xs=>xs.length<=sizeLine/\∃ its:List Value,Vals xs its/\abE h a its.toArray
 | .dK kvs=>kvs.length<=sizeLine/\(a==sysModules)=false/\∃ vs,KV kvs vs/\h.DictOf (a9 P w) a vs
 | .dT kvs=>kvs.length<=sizeLine/\(a==sysModules)=false/\∃ xs:List (List Key×Addr×Value),
   Paired (λ(p:List Key×V) (q:List Key×Addr×Value)=>p.1=q.1/\H q.2.1=some (.tup (p.1.map kV))/\RelV p.2 q.2.2) kvs xs /\
   ∃ o es ep,h.get? a=some o/\o.ExactDict/\o.data=.dict es ep/\es.toList=xs.map (entryOfKey (tupleKind (a9 P w)))/\(xs.map (·.1)).Nodup
 | .set S n=>h.SetOf (intKind P w) a S n
 | .ins C dx fs=>H dx=some (.own a)/\fs.length<=1000/\dx≠a/\h.get? a=some (W.instObj C dx) /\
   ∃ mA,h.Ns1 dx mA/\(∀ f,qP (fs.lookup f) (mA f))/\PySem.Within mA (fs.map (·.1))
 | .own _=>∃ o,h.get? a=some o
 | .xd fs=>∃ mA,h.Ns1 a mA/\∀ f,qP (fs.lookup f) (mA f)
 | .rng lo hi=>∃ t u v,h.get? a=some {cls:=.type "range",data:=.fields #[.int lo t,.int hi u,.int 1 v]}
 | .frz o u=>h.get? a=some o/\cF H h a u
 | .tbl ps=>h.get? a=some {cls:=.none,data:=.fields ps}
 | .met f x=>h.get? a=some (W.methodObj (.ref f) (.ref x))
 | .ext φ=>φ h/\(∃ o,h.get? a=some o)/\∀ h1 h2:Heap,φ h1->(∀ o,h1.get? a=some o->h2.get? a=some o)->φ h2
def HOk(H:Hp)(h:Heap):Prop:=∀ a o,H a=some o->cF P w H h a o
end
section
variable {P:Program}{w:World}{H H':Hp}{h h':Heap}{a:Addr}{o:HO}
theorem cF.lt(x:cF P w H h a o):a<h.objs.size:=by
 cases o with
 | lst xs=>obtain⟨_,_,_,_,e⟩:=x;exact Heap.lt_size e
 | tup xs=>obtain⟨_,_,_,p⟩:=x;exact p.tup.lt
 | dK kvs=>obtain⟨_,_,_,_,o,_,_,e,_⟩:=x;exact Heap.lt_size e
 | dT kvs=>obtain⟨_,_,_,_,o,_,_,e,_⟩:=x;exact Heap.lt_size e
 | set S n=>obtain⟨o,_,_,_,e,_⟩:=x;exact Heap.lt_size e
 | ins C dx fs=>obtain⟨_,_,_,e,_⟩:=x;exact Heap.lt_size e
 | own y=>obtain⟨_,e⟩:=x;exact Heap.lt_size e
 | xd fs=>obtain⟨_,⟨_,_,_,e,_⟩,_⟩:=x;exact Heap.lt_size e
 | rng lo hi=>obtain⟨_,_,_,e⟩:=x;exact Heap.lt_size e
 | frz ob u=>obtain⟨e,_⟩:=x;exact Heap.lt_size e
 | tbl ps=>exact Heap.lt_size (show h.get? a=some _ from x)
 | met f y=>exact Heap.lt_size (show h.get? a=some _ from x)
 | ext φ=>obtain⟨_,⟨_,e⟩,_⟩:=x;exact Heap.lt_size e
theorem Paired.fD:∀ {l₁:List α} {l₂:List β},Paired F l₁ l₂->(∀ a b,F a b->G a b)->Paired G l₁ l₂
 | _,_,.nil,_=>.nil
 | _,_,.cons r t,f=>.cons (f _ _ r) (Paired.fD t f)
theorem cF.xA(x:cF P w H h a o)(k:∀ b u,(b=a\/H b=some (.own a))->h.get? b=some u->h'.get? b=some u)
  (ho:∀ b,H b=some (.own a)->H' b=some (.own a))(ht:∀ b xs,H b=some (.tup xs)->H' b=some (.tup xs)):cF P w H' h' a o:=by
 induction o with
 | lst xs=>obtain⟨z,its,n,r,e⟩:=x;exact⟨z,its,n,r,k _ _ (.inl rfl) e⟩
 | tup xs=>obtain⟨z,its,r,ob,e,c⟩:=x;exact⟨z,its,r,ob,k _ _ (.inl rfl) e,c⟩
 | dK kvs=>obtain⟨z,y,vs,r,ob,es,ep,e,c⟩:=x;exact⟨z,y,vs,r,ob,es,ep,k _ _ (.inl rfl) e,c⟩
 | dT kvs =>
  obtain⟨z,y,xs,r,ob,es,ep,e,c⟩:=x;exact⟨z,y,xs,Paired.fD r λ p q z=>⟨z.1,ht _ _ z.2.1,z.2.2⟩,ob,es,ep,k _ _ (.inl rfl) e,c⟩
 | set S n=>obtain⟨ob,es,ep,t,e,c⟩:=x;exact⟨ob,es,ep,t,k _ _ (.inl rfl) e,c⟩
 | ins C dx fs =>
  obtain⟨d,z,ne,e,mA,⟨od,es,ep,e2,c⟩,r⟩:=x;exact⟨ho _ d,z,ne,k _ _ (.inl rfl) e,mA,⟨od,es,ep,k _ _ (.inr d) e2,c⟩,r⟩
 | own y=>obtain⟨ob,e⟩:=x;exact⟨ob,k _ _ (.inl rfl) e⟩
 | xd fs=>obtain⟨mA,⟨od,es,ep,e,c⟩,r⟩:=x;exact⟨mA,⟨od,es,ep,k _ _ (.inl rfl) e,c⟩,r⟩
 | rng lo hi=>obtain⟨t,u,v,e⟩:=x;exact⟨t,u,v,k _ _ (.inl rfl) e⟩
 | frz ob u ih=>obtain⟨e,q⟩:=x;exact⟨k _ _ (.inl rfl) e,ih q⟩
 | tbl ps =>
  have e:h.get? a=some {cls:=.none,data:=.fields ps}:=x;show h'.get? a=some {cls:=.none,data:=.fields ps};exact k a _ (.inl rfl) e
 | met f y =>
  have e:h.get? a=some (W.methodObj (.ref f) (.ref y)):=x;show h'.get? a=some (W.methodObj (.ref f) (.ref y));exact k a _ (.inl rfl) e
 | ext φ=>obtain⟨p,⟨o,e⟩,st⟩:=x;exact⟨st _ _ p λ o q=>k _ _ (.inl rfl) q,⟨o,k _ _ (.inl rfl) e⟩,st⟩
theorem HOk.lt(x:HOk P w H h)(e:H a=some o):a<h.objs.size:=(x a o e).lt
theorem HOk.fresh(x:HOk P w H h)(e:h.objs.size<=a):H a=none:=by
 cases q:H a with
 | none=>rfl
 | some u=>exact absurd (Nat.lt_of_lt_of_le (x.lt q) e) (Nat.lt_irrefl _)
theorem HOk.kept(x:HOk P w H h)(k:∀ b u,h.get? b=some u->h'.get? b=some u):HOk P w H h':=λ a o e =>
 (x a o e).xA (λ b u _ q=>k b u q) (λ _ q=>q) λ _ _ q=>q
theorem HOk.laid(x:HOk P w H h)(k:∀ b u,h.get? b=some u->h'.get? b=some u)(hp:h.objs.size<=a)(new:cF P w (upd H a o) h' a o):HOk P w (upd H a o) h':=λ b u e=>by
 have hn:=x.fresh hp
 by_cases hb:b=a
 .subst hb;rw[aj] at e;cases e;exact new
 .rw[ai hb] at e;exact(x b u e).xA (λ c v _ q=>k c v q) (λ c q=>by rw[ai (aR q hn)];exact q) λ c xs q=>by rw[ai (aR q hn)];exact q
end
def Rd(H:Hp)(a:Addr)(u:HO):Prop:=H a=some u\/∃ o,H a=some (.frz o u)
theorem Rd.ok(r:Rd H a u)(x:HOk P w H h):cF P w H h a u:=by
 rcases r with r | ⟨o,r⟩
 .exact x a u r
 .obtain⟨_,q⟩:=x a _ r;exact q
def Mut:Option HO->Prop
 | some (.lst _)=>True
 | some (.dK _)=>True
 | some (.dT _)=>True
 | some (.set _ _)=>True
 | some (.ins _ _ _)=>True
 | some (.ext _)=>True
 | _=>False
section
variable {P:Program}{w:World}{H:Hp}{h h':Heap}{x e:Addr}{o':HO}
theorem HOk.write(ok:HOk P w H h)(mu:Mut (H x))(he:e=x\/H e=some (.own x))(k:∀ b u,b≠e->h.get? b=some u->h'.get? b=some u)(heo:∃ u,h'.get? e=some u)
  (new:cF P w (upd H x o') h' x o'):HOk P w (upd H x o') h':=λ b u q=>by
 have nown:∀ c y,H c=some (.own y)->c≠x:=λ c y r z=>by subst z;rw[r] at mu;exact mu
 have ntup:∀ c xs,H c=some (.tup xs)->c≠x:=λ c xs r z=>by subst z;rw[r] at mu;exact mu
 by_cases hb:b=x
 .subst hb;rw[aj] at q;cases q;exact new
 .rw[ai hb] at q
  by_cases hbe:b=e
  .have q':H b=some (.own x):=by
    rcases he with z | z
    .exact absurd (hbe.trans z) hb
    .rw[hbe];exact z
   rw[q] at q';cases q';obtain⟨v,hv⟩:=heo;exact⟨v,by rw[hbe];exact hv⟩
  .refine(ok b u q).xA (λ c v hc r=>k c v ?_ r) (λ c r=>by rw[ai (nown c b r)];exact r) λ c xs r=>by rw[ai (ntup c xs r)];exact r
   rcases hc with rfl | hc
   .exact hbe
   .rintro rfl;rcases he with z | z
    .exact nown c b hc z
    .rw[hc] at z;cases z;exact hb rfl
end
structure Un(fs ex:List Addr)(H H':Hp)(h h':Heap):Prop where
 keep:∀ b o,h.get? b=some o->H b=none->b ∉ fs->b ∉ ex->h'.get? b=some o
 slot:∀ b o,h.get? b=some o->H b=none->b∈fs->b ∉ ex->∃ sl,h'.get? b=some {o with slots:=sl}
 free:∀ b o,h.get? b=some o->H b=none->b ∉ ex->H' b=none
 there:∀ b o,h.get? b=some o->b ∉ ex->∃ o',h'.get? b=some o'
 sO:∀ b xs,H b=some (.tup xs)->H' b=some (.tup xs)
 frzs:∀ b o u,H b=some (.frz o u)->H' b=some (.frz o u)
 tbls:∀ b ps,H b=some (.tbl ps)->∃ more,H' b=some (.tbl (ps++more))
theorem Un.any(u:Un fs ex H H1 h h1){b:Addr}{ob:Obj}(q:h.get? b=some ob)(n:H b=none)(hx:b ∉ ex):∃ sl,h1.get? b=some {ob with slots:=sl}:=by
 by_cases hb:b∈fs
 .exact u.slot b ob q n hb hx
 .exact⟨ob.slots,u.keep b ob q n hb hx⟩
theorem Un.kept(k:∀ b u,h.get? b=some u->h'.get? b=some u):Un fs ex H H h h':=
 ⟨λ b ob q _ _ _=>k b ob q,λ b ob q _ _ _=>⟨ob.slots,k b ob q⟩,λ _ _ _ n _=>n,λ b ob q _=>⟨ob,k b ob q⟩,λ _ _ q=>q,λ _ _ _ q=>q,λ _ ps q=>⟨#[],by rw[q];simp⟩⟩
theorem Un.refl:Un fs ex H H h h:=Un.kept λ _ _ q=>q
theorem Un.laid(k:∀ b u,h.get? b=some u->h'.get? b=some u)(hp:h.objs.size<=a)(hn:H a=none):Un fs ex H (upd H a o) h h' where
 keep:=λ b u q _ _ _=>k b u q
 slot:=λ b u q _ _ _=>⟨u.slots,k b u q⟩
 free:=λ b u q n _=>by rw[ai (Nat.ne_of_lt (Nat.lt_of_lt_of_le (Heap.lt_size q) hp))];exact n
 there:=λ b u q _=>⟨u,k b u q⟩
 sO:=λ b xs q=>by rw[ai (aR q hn)];exact q
 frzs:=λ b u xs q=>by rw[ai (aR q hn)];exact q
 tbls:=λ b ps q=>⟨#[],by rw[ai (aR q hn),q];simp⟩
theorem Un.write(mu:Mut (H x))(he:e=x\/H e=some (.own x))(k:∀ b u,b≠e->h.get? b=some u->h'.get? b=some u)(heo:∃ u,h'.get? e=some u):Un fs ex H (upd H x o) h h':=by
 have hx:∀ b,H b=none->b≠x:=λ b n z=>by subst z;rw[n] at mu;exact mu
 have hb:∀ b,H b=none->b≠e:=λ b n z=>by
  subst z;rcases he with r | r
  .exact hx b n r
  .rw[n] at r;cases r
 have hm:∀ b u,H b=some u->¬ Mut (some u)->b≠x:=λ b u q nm z=>by subst z;rw[q] at mu;exact nm mu
 refine⟨λ b u q n _ _=>k b u (hb b n) q,λ b u q n _ _=>⟨u.slots,k b u (hb b n) q⟩,λ b u q n _=>by rw[ai (hx b n)];exact n,λ b u q _=>?_,
  λ b xs q=>by rw[ai (hm b _ q λ z=>z)];exact q,λ b u xs q=>by rw[ai (hm b _ q λ z=>z)];exact q,λ b ps q=>⟨#[],by rw[ai (hm b _ q λ z=>z),q];simp⟩⟩
 by_cases hbe:b=e
 .subst hbe;exact heo
 .exact⟨u,k b u hbe q⟩
def trk(h:Heap)(H:Hp):List Addr:=(List.range h.objs.size).filter λ a=>(H a).isSome
def abD(h:Heap)(H:Hp):Heap:=W.hideAll h (trk h H)
theorem zq(h:Heap)(H:Hp):(abD h H).objs.size=h.objs.size:=W.hideAll_size _ _
theorem abI(e:h.get? b=some o)(n:H b=none):(abD h H).get? b=some o:=
 W.hideAll_get _ e λ hm=>by have q:(H b).isSome=true:=(List.mem_filter.mp hm).2;rw[n] at q;simp at q
theorem agh(e:(abD h H).get? b=some o):h.get? b=some o/\H b=none:=by
 have e':h.get? b=some o:=W.of_hideAll (trk h H) e;refine⟨e',?_⟩;cases q:H b with
 | none=>rfl
 | some x =>
  have hm:b∈trk h H:=List.mem_filter.mpr ⟨List.mem_range.mpr (Heap.lt_size e'),by simp[q]⟩;have z:(abD h H).get? b=none:=W.hideAll_none (trk h H) hm;rw[z] at e;cases e
def BM(mg:Str->Option Value)(h:Heap):Prop:=(∃ bm o,mg "__builtins__" = some (.ref bm)/\bm≠builtinsNs/\h.get? bm=some o/\o.cls=.type "module" /\ o.dict=some builtinsNs/\o.data=.plain)/\∃ mm,h.Ns sysModules mm
structure Mod(K:FG)(mg:Str->Option Value)(base:Heap):Prop where
 kin:K.In base
 glob:base.Ns mainGlobals mg
 blt:∃ mb,base.Ns builtinsNs mb/\∀ x:Str,x ≠ "__name__" -> mb x=bootBuiltins x
 nolimit:base.NoLimit
 bm:BM mg base
structure Cx where
 prog:Program
 w:World
 K:FG
 mg:Str->Option Value
 base:Heap
 A:Around
 N:List Str
 s₀:Shared
 H₀:Hp
 env:Env
 outer:List Env
 stack:List Env
 ex:List Addr
 fn:Str->Bool
 calm:Bool
 pn:PN
 xe:VP
def frs(l:List Env):List Addr:=l.filterMap (·.frame)
abbrev Cx.fs(X:Cx):List Addr:=frs X.outer
def Vis(sc:Scope)(x:Str):Prop:=sc.names.lookup x=some .local\/sc.names.lookup x=some .cell\/sc.names.lookup x=some .free
def Loc(sc:Scope)(x:Str):Prop:=sc.names.lookup x=some .local\/sc.names.lookup x=some .cell
def Look(env:Env)(h:Heap)(m:Str->Option Value)(x:Str)(u:Value):Prop:=
 (env.kindOf x=some .local/\m x=some u)\/((env.kindOf x=some .cell\/env.kindOf x=some .free)/\∃ c,env.cells.lookup x=some c/\h.IsCell c (some u))
structure Cx.Ok(X:Cx):Prop where
 mod:Mod X.K X.mg X.base
 kind:X.env.scope.kind=.function
 glob:X.env.globals=mainGlobals
 blt:X.env.builtins=builtinsNs
 above:X.s₀.heap.objs.size<=X.env.locals
 inj:∀ x y c,X.env.cells.lookup x=some c->X.env.cells.lookup y=some c->x=y
 has:∀ x,(X.env.kindOf x=some .cell\/X.env.kindOf x=some .free)->∃ c,X.env.cells.lookup x=some c
 cab:∀ x c,X.fn x=true->X.env.cells.lookup x=some c->X.s₀.heap.objs.size<=c
 hd:X.calm=true->X.A.handled=none
 frames:X.A.frames=some X.stack
 stk:X.stack=X.outer\/(X.stack=X.env::X.outer/\X.env.frame=some X.env.locals)
 exf:∀ b∈X.ex,b≠X.env.locals/\∀ x c,X.env.cells.lookup x=some c->c≠b
 bs:∀ b o,X.base.get? b=some o->X.s₀.heap.get? b=some o/\X.H₀ b=none
 bsz:X.base.objs.size<=X.s₀.heap.objs.size
 noex:∀ b o,X.base.get? b=some o->b ∉ X.ex
 exfs:∀ b∈X.ex,b ∉ X.fs
 sE:X.s₀.heap.FunFrames X.base X.outer
 frf:∀ b∈X.fs,X.H₀ b=none
structure Inv(X:Cx)(pins:PN)(σ:List (Option V))(H:Hp)(s:Shared):Prop where
 ok:X.Ok
 os:s.os=X.s₀.os
 bare:AllBare s.gens
 base:Un X.fs X.ex X.H₀ H X.s₀.heap s.heap
 loc:∃ m,s.heap.Ns X.env.locals m/\∀ (i:Nat) (x:Str) (v:V),X.N[i]? =some x->σ[i]? =some (some v)->Vis X.env.scope x->∃ u,RelV v u/\Look X.env s.heap m x u
 cell:∀ x c,X.env.cells.lookup x=some c->∃ v,s.heap.IsCell c v
 free:H X.env.locals=none
 freeC:∀ x c,X.env.cells.lookup x=some c->H c=none
 pin:∀ p∈X.pn++pins,s.heap.get? p.1=some p.2/\H p.1=none/\p.1≠X.env.locals/\p.1 ∉ X.fs/\∀ v,p.2.data ≠ .cell v
 hok:HOk X.prog X.w H s.heap
 len:σ.length=X.N.length
section
variable {X:Cx}{pins:PN}{σ:List (Option V)}{H H':Hp}{s:Shared}{h':Heap}
theorem Cx.Ok.alL(ok:X.Ok)(e:X.base.get? b=some o):b ∉ X.fs:=λ hb=>by have:=(ok.sE.mem hb).1;rw[e] at this;cases this
theorem Inv.bs(I:Inv X pins σ H s):∀ b o,X.base.get? b=some o->s.heap.get? b=some o/\H b=none:=λ b o e =>
 ⟨I.base.keep b o (I.ok.bs b o e).1 (I.ok.bs b o e).2 (I.ok.alL e) (I.ok.noex b o e),I.base.free b o (I.ok.bs b o e).1 (I.ok.bs b o e).2 (I.ok.noex b o e)⟩
theorem Inv.bk(I:Inv X pins σ H s):∀ b o,X.base.get? b=some o->s.heap.get? b=some o:=λ b o e=>(I.bs b o e).1
theorem Inv.mod(I:Inv X pins σ H s):Mod X.K X.mg X.base:=I.ok.mod
theorem Inv.kIn(I:Inv X pins σ H s):X.K.In s.heap:=I.ok.mod.kin.keeps I.bk
theorem Inv.nolimit(I:Inv X pins σ H s):s.heap.NoLimit:=I.ok.mod.nolimit.keeps I.bk
theorem Inv.lt(I:Inv X pins σ H s):X.env.locals<s.heap.objs.size:=let ⟨_,hn,_⟩:=I.loc;hn.lt
theorem Inv.sz(I:Inv X pins σ H s):X.s₀.heap.objs.size<=s.heap.objs.size:=Nat.le_trans I.ok.above (Nat.le_of_lt I.lt)
theorem Inv.alk(I:Inv X pins σ H s)(h:s.heap.objs.size<=a):a ∉ X.fs:=λ hb=>by obtain⟨_,o,ho,_⟩:=I.ok.sE.mem hb;exact absurd (Nat.lt_of_lt_of_le (Heap.lt_size ho) (Nat.le_trans I.sz h)) (Nat.lt_irrefl _)
theorem Inv.cne(I:Inv X pins σ H s):∀ x c,X.env.cells.lookup x=some c->c≠X.env.locals:=λ x c e z=>by obtain⟨v,o,ho,hd⟩:=I.cell x c e;obtain⟨m,⟨o',es,ep,ho',hd',_⟩,_⟩:=I.loc;rw[z,ho'] at ho;cases ho;rw[hd'] at hd;cases hd
theorem Inv.sE(I:Inv X pins σ H s):s.heap.FunFrames X.base X.outer:=by
 have all:∀ (l:List Env),(∀ b∈frs l,b∈X.fs)->X.s₀.heap.FunFrames X.base l->s.heap.FunFrames X.base l:=by
  intro l
  induction l with
  | nil=>intro _ _;trivial
  | cons env r ih =>
   intro hs hl;obtain⟨hk,⟨L,o,hf,hn,ho,hd⟩,hr⟩:=hl;have hL:L∈X.fs:=hs L (by unfold frs;rw[List.filterMap_cons,hf];exact List.mem_cons_self);obtain⟨sl,e⟩:=I.base.slot L o ho (I.ok.frf L hL) hL λ z=>I.ok.exfs L z hL;exact⟨hk,⟨L,_,hf,hn,e,hd⟩,ih (λ b hb=>hs b (by unfold frs;rw[List.filterMap_cons,hf];exact List.mem_cons_of_mem _ hb)) hr⟩
 exact all X.outer (λ _ hb=>hb) I.ok.sE
theorem Inv.stack(I:Inv X pins σ H s):s.heap.FunFrames X.base X.stack:=by
 rcases I.ok.stk with e | ⟨e,hf⟩
 .rw[e];exact I.sE
 .rw[e];obtain⟨m,hn,_⟩:=I.loc;refine .cons (by rw[I.ok.kind];decide) hf hn ?_ I.sE;exact Heap.get?_none_of_le (Nat.le_trans I.ok.bsz I.ok.above)
theorem Inv.jO(I:Inv X pins σ H s):∀ b∈frs X.stack,b∈X.env.locals::X.fs:=λ b hb=>by
 rcases I.ok.stk with e | ⟨e,hf⟩
 .rw[e] at hb;exact List.mem_cons_of_mem _ hb
 .rw[e] at hb;unfold frs at hb;rw[List.filterMap_cons,hf] at hb;exact hb
theorem Inv.sR(I:Inv X pins σ H s):∀ b∈frs X.stack,H b=none:=λ b hb=>by
 rcases List.mem_cons.mp (I.jO b hb) with e | hb
 .rw[e];exact I.free
 .obtain⟨_,o,ho,_⟩:=I.ok.sE.mem hb;exact I.base.free b o ho (I.ok.frf b hb) λ z=>I.ok.exfs b z hb
theorem Inv.step{g':Array GenState}{t':Nat}{d':Drawn}{ch:List Addr}(I:Inv X pins σ H s)
  (hch:∀ b∈ch,(b∈X.ex\/X.s₀.heap.objs.size<=b)/\b≠X.env.locals/\(∀ x c,X.env.cells.lookup x=some c->c≠b)/\∀ p∈X.pn++pins,p.1≠b)
  (keep:∀ b o,b≠X.env.locals->b ∉ X.fs->b ∉ ch->s.heap.get? b=some o->H b=none->h'.get? b=some o)
  (slot:∀ b o,b≠X.env.locals->b∈X.fs->b ∉ ch->s.heap.get? b=some o->H b=none->∃ sl,h'.get? b=some {o with slots:=sl})(free:∀ b o,b ∉ ch->s.heap.get? b=some o->H b=none->H' b=none)
  (there:∀ b o,b ∉ ch->s.heap.get? b=some o->∃ o',h'.get? b=some o')
  (sO:∀ b xs,H b=some (.tup xs)->H' b=some (.tup xs))(frzs:∀ b o u,H b=some (.frz o u)->H' b=some (.frz o u))(tbls:∀ b ps,H b=some (.tbl ps)->∃ more,H' b=some (.tbl (ps++more)))
  (ns:∀ m,s.heap.Ns X.env.locals m->h'.Ns X.env.locals m)(hok:HOk X.prog X.w H' h')(hg:AllBare g') :
  Inv X pins σ H' {s with heap:=h',gens:=g',drawn:=d',toks:=t'}:=by
 have neL:∀ b o,X.s₀.heap.get? b=some o->b≠X.env.locals:=λ b o e=>Nat.ne_of_lt (Nat.lt_of_lt_of_le (Heap.lt_size e) I.ok.above);have neC:∀ b o,X.s₀.heap.get? b=some o->b ∉ X.ex->b ∉ ch:=λ b o e hx hb=>by
  rcases(hch b hb).1 with z | z
  .exact hx z
  .exact absurd (Nat.lt_of_lt_of_le (Heap.lt_size e) z) (Nat.lt_irrefl _)
 have cellK:∀ x c,X.env.cells.lookup x=some c->∀ v,s.heap.IsCell c v->h'.IsCell c v:=λ x c e v hq0=>by
  obtain⟨o,ho,hd⟩:=hq0;have nch:c ∉ ch:=λ z=>(hch c z).2.2.1 x c e rfl
  by_cases hc:c∈X.fs
  .obtain⟨sl,q⟩:=slot c o (I.cne x c e) hc nch ho (I.freeC x c e);exact⟨_,q,hd⟩
  .exact⟨o,keep c o (I.cne x c e) hc nch ho (I.freeC x c e),hd⟩
 refine⟨I.ok,I.os,hg,⟨λ b o e n hb hx=>?_,λ b o e n hb hx=>?_,λ b o e n hx=>?_,λ b o e hx=>?_,λ b xs e=>sO b xs (I.base.sO b xs e),λ b o xs e=>frzs b o xs (I.base.frzs b o xs e),λ b ps e=>?_⟩,?_,λ x c e=>?_,?_,λ x c e=>?_,λ p hp=>?_,hok,I.len⟩
 .exact keep b o (neL b o e) hb (neC b o e hx) (I.base.keep b o e n hb hx) (I.base.free b o e n hx)
 .obtain⟨sl,e1⟩:=I.base.slot b o e n hb hx;obtain⟨sl',e2⟩:=slot b _ (neL b o e) hb (neC b o e hx) e1 (I.base.free b o e n hx);exact⟨sl',e2⟩
 .obtain⟨o',e1⟩:=I.base.there b o e hx;exact free b o' (neC b o e hx) e1 (I.base.free b o e n hx)
 .obtain⟨o',e1⟩:=I.base.there b o e hx;exact there b o' (neC b o e hx) e1
 .obtain⟨m1,e1⟩:=I.base.tbls b ps e;obtain⟨m2,e2⟩:=tbls b _ e1;exact⟨m1++m2,by rw[e2,Array.append_assoc]⟩
 .obtain⟨m,hn,hl⟩:=I.loc;refine⟨m,ns m hn,λ i x v e1 e2 e3=>?_⟩;obtain⟨u,r,l⟩:=hl i x v e1 e2 e3;refine⟨u,r,?_⟩;rcases l with l | ⟨k,c,e,z⟩
  .exact .inl l
  .exact .inr ⟨k,c,e,cellK x c e _ z⟩
 .obtain⟨v,z⟩:=I.cell x c e;exact⟨v,cellK x c e v z⟩
 .obtain⟨m,⟨o,_,_,ho,_⟩,_⟩:=I.loc;exact free _ o (λ z=>(hch _ z).2.1 rfl) ho I.free
 .obtain⟨v,o,ho,hd⟩:=I.cell x c e;exact free c o (λ z=>(hch c z).2.2.1 x c e rfl) ho (I.freeC x c e)
 .obtain⟨e,n,ne,nf,d⟩:=I.pin p hp;have nch:p.1 ∉ ch:=λ z=>(hch p.1 z).2.2.2 p hp rfl;exact⟨keep p.1 p.2 ne nf nch e n,free p.1 p.2 nch e n,ne,nf,d⟩
theorem Inv.un{t':Nat}(I:Inv X pins σ H s)(u:Un X.fs [] H H' s.heap h')(hok:HOk X.prog X.w H' h'):Inv X pins σ H' {s with heap:=h',toks:=t'}:=by
 obtain⟨m,⟨o,es,ep,ho,r⟩,_⟩:=id I.loc;obtain⟨sl,hL⟩:=u.any ho I.free (by simp);exact I.step (g':=s.gens) (d':=s.drawn) (ch:=[]) (λ _ z=>nomatch z) (λ b o _ hb _ e n=>u.keep b o e n hb (by simp)) (λ b o _ hb _ e n=>u.slot b o e n hb (by simp)) (λ b o _ e n=>u.free b o e n (by simp)) (λ b o _ e=>u.there b o e (by simp)) u.sO u.frzs u.tbls (λ m' hm=>by obtain⟨o',es',ep',ho',r'⟩:=hm;rw[ho] at ho';cases ho';exact⟨_,es',ep',hL,r'⟩) hok I.bare
theorem Inv.call{g':Array GenState}{t':Nat}{d':Drawn}{ch:List Addr}(I:Inv X pins σ H s)(u:Un (frs X.stack) ch H H' s.heap h')(hok:HOk X.prog X.w H' h')(hg:AllBare g')
  (hch:∀ b∈ch,(b∈X.ex\/X.s₀.heap.objs.size<=b)/\b≠X.env.locals/\(∀ x c,X.env.cells.lookup x=some c->c≠b)/\∀ p∈X.pn++pins,p.1≠b) :
  Inv X pins σ H' {s with heap:=h',gens:=g',drawn:=d',toks:=t'}:=by
 obtain⟨m,⟨o,es,ep,ho,r⟩,_⟩:=id I.loc;obtain⟨sl,hL⟩:=u.any ho I.free λ z=>(hch _ z).2.1 rfl;exact I.step (ch:=ch) hch (λ b o hL hb hc e n=>u.keep b o e n (λ z=>(List.mem_cons.mp (I.jO b z)).elim hL hb) hc) (λ b o _ _ hc e n=>u.any e n hc) (λ b o hc e n=>u.free b o e n hc) (λ b o hc e=>u.there b o e hc) u.sO u.frzs u.tbls (λ m' hm=>by obtain⟨o',es',ep',ho',r'⟩:=hm;rw[ho] at ho';cases ho';exact⟨_,es',ep',hL,r'⟩) hok hg
theorem Inv.turned{t':Nat}{it:Addr}(I:Inv X pins σ H s)(k:∀ b o,b≠it->s.heap.get? b=some o->h'.get? b=some o)(hn:H it=none)(hL:it≠X.env.locals)
  (h1:it∈X.ex\/X.s₀.heap.objs.size<=it)(h2:∀ x c,X.env.cells.lookup x=some c->c≠it)(h3:∀ p∈X.pn++pins,p.1≠it):Inv X pins σ H {s with heap:=h',toks:=t'}:=by
 have nit:∀ b u,H b=some u->b≠it:=λ b u e z=>by rw[z,hn] at e;cases e
 refine I.step (g':=s.gens) (d':=s.drawn) (ch:=[it]) (λ b hb=>?_) (λ b o _ _ hc e _=>k b o (λ z=>hc (by simp[z])) e) (λ b o _ _ hc e _=>⟨o.slots,k b o (λ z=>hc (by simp[z])) e⟩) (λ _ _ _ _ n=>n)
  (λ b o hc e=>⟨o,k b o (λ z=>hc (by simp[z])) e⟩) (λ _ _ e=>e) (λ _ _ _ e=>e) (λ b ps e=>⟨#[],by rw[e];simp⟩) (λ m hm=>?_) (λ b u e=>?_) I.bare
 .have e:b=it:=by simpa using hb
  subst e;exact⟨h1,hL,h2,h3⟩
 .obtain⟨o,es,ep,ho,r⟩:=hm;exact⟨o,es,ep,k _ o (Ne.symm hL) ho,r⟩
 .refine(I.hok b u e).xA (λ c v hc q=>k c v ?_ q) (λ _ q=>q) λ _ _ q=>q;rcases hc with z | z
  .rw[z];exact nit b u e
  .exact nit c _ z
theorem Inv.tok(I:Inv X pins σ H s)(t:Nat):Inv X pins σ H {s with toks:=t}:=I.un (h':=s.heap) (t':=t) Un.refl I.hok
theorem Inv.kept(I:Inv X pins σ H s)(k:∀ b u,s.heap.get? b=some u->h'.get? b=some u):Inv X pins σ H {s with heap:=h',toks:=t'}:=I.un (Un.kept k) (I.hok.kept k)
theorem Inv.laid(I:Inv X pins σ H s)(k:∀ b u,s.heap.get? b=some u->h'.get? b=some u)(hp:s.heap.objs.size<=a)(new:cF X.prog X.w (upd H a o) h' a o) :
  Inv X pins σ (upd H a o) {s with heap:=h',toks:=t'}:=I.un (Un.laid k hp (I.hok.fresh hp)) (I.hok.laid k hp new)
theorem Inv.write(I:Inv X pins σ H s)(mu:Mut (H x))(he:e=x\/H e=some (.own x))(k:∀ b u,b≠e->s.heap.get? b=some u->h'.get? b=some u)(heo:∃ u,h'.get? e=some u)
  (new:cF X.prog X.w (upd H x o) h' x o):Inv X pins σ (upd H x o) {s with heap:=h',toks:=t'}:=I.un (Un.write mu he k heo) (I.hok.write mu he k heo new)
theorem Inv.dH(I:Inv X pins σ H s)(h:∀ p∈pins',s.heap.get? p.1=some p.2/\H p.1=none/\p.1≠X.env.locals/\p.1 ∉ X.fs/\∀ v,p.2.data ≠ .cell v):Inv X pins' σ H s:=
 ⟨I.ok,I.os,I.bare,I.base,I.loc,I.cell,I.free,I.freeC,λ p hp=>(List.mem_append.mp hp).elim (λ z=>I.pin p (List.mem_append_left _ z)) (h p),I.hok,I.len⟩
theorem ux{N:List Str}(hN:N.Nodup){i j:Nat}(a:N[i]? =some x)(b:N[j]? =some x):i=j:=by obtain⟨h1,e1⟩:=List.getElem?_eq_some_iff.mp a;obtain⟨h2,e2⟩:=List.getElem?_eq_some_iff.mp b;exact(List.getElem_inj hN).mp (e1.trans e2.symm)
theorem zv(I:Inv X pins σ H s)(hN:X.N.Nodup)(hi:X.N[i]? =some x)(hx:Loc X.env.scope x)(r:RelV v u)
  (h:∀ s',Inv X pins (σ.set i (some v)) H s'->(∃ a,Heap.SameBut a s.heap s'.heap/\(a=X.env.locals\/X.env.cells.lookup x=some a))->Q () s')(hf:X.fn x=true\/X.env.scope.names.lookup x=some .local:=by first | exact .inl rfl | exact .inr rfl | assumption):wpAny M A (storeName X.env x u) Q E s:=by
 obtain⟨m,hn,hl⟩:=id I.loc;have hcls:(X.env.scope.kind==.class || (X.env.scope.kind==.module&&X.env.locals != X.env.globals))=false:=by rw[I.ok.kind];rfl
 have hiσ:i<σ.length:=by rw[I.len];exact(List.getElem?_eq_some_iff.mp hi).1
 have cne:=I.cne;have tracked:∀ {a:Addr} {h':Heap},(∃ o,s.heap.get? a=some o/\H a=none)->Heap.SameBut a s.heap h'->HOk X.prog X.w H h':=λ {a h'} ha hs b ob e=>by
  obtain⟨_,_,hfree⟩:=ha;refine(I.hok b ob e).xA (λ c w' hc q=>(hs.2 c ?_).trans q) (λ _ q=>q) λ _ _ q=>q;rintro rfl;rcases hc with rfl | hc
  .rw[hfree] at e;cases e
  .rw[hfree] at hc;cases hc
 rcases hx with hk | hk
 .refine wpAny_storeName_local hk hn (λ h' hn' hs=>?_) hcls;obtain⟨oL,_,_,hoL,_⟩:=id hn;refine h _ ⟨I.ok,I.os,I.bare,⟨λ b o e n hb hx=>?_,λ b o e n hb hx=>?_,I.base.free,λ b o e hx=>?_,I.base.sO,I.base.frzs,I.base.tbls⟩,⟨_,hn',λ j y v' e1 e2 e3=>?_⟩,λ y c e=>?_,I.free,I.freeC,λ p hp=>?_,tracked ⟨oL,hoL,I.free⟩ hs,by simpa using I.len⟩ ⟨_,hs,.inl rfl⟩
  .exact(hs.2 b (Nat.ne_of_lt (Nat.lt_of_lt_of_le (Heap.lt_size e) I.ok.above))).trans (I.base.keep b o e n hb hx)
  .obtain⟨sl,e1⟩:=I.base.slot b o e n hb hx;exact⟨sl,(hs.2 b (Nat.ne_of_lt (Nat.lt_of_lt_of_le (Heap.lt_size e) I.ok.above))).trans e1⟩
  .obtain⟨o',e1⟩:=I.base.there b o e hx;exact⟨o',(hs.2 b (Nat.ne_of_lt (Nat.lt_of_lt_of_le (Heap.lt_size e) I.ok.above))).trans e1⟩
  .by_cases hj:j=i
   .subst hj;rw[hi] at e1;cases e1;rw[List.getElem?_set_self hiσ] at e2;cases e2;exact⟨u,r,.inl ⟨hk,by simp⟩⟩
   .rw[List.getElem?_set_ne (Ne.symm hj)] at e2;obtain⟨u',r',q⟩:=hl j y v' e1 e2 e3;refine⟨u',r',?_⟩;rcases q with ⟨k,e⟩ | ⟨k,c,e,z⟩
    .refine .inl ⟨k,?_⟩;have:y≠x:=λ e=>hj (ux hN e1 (e ▸ hi));simp[this,e]
    .exact .inr ⟨k,c,e,z.sameBut hs (cne y c e)⟩
  .obtain⟨w',z⟩:=I.cell y c e;exact⟨w',z.sameBut hs (cne y c e)⟩
  .obtain⟨e,n,ne,nf,d⟩:=I.pin p hp;exact⟨(hs.2 p.1 ne).trans e,n,ne,nf,d⟩
 .have hfn:X.fn x=true:=by
   rcases hf with z | z
   .exact z
   .rw[z] at hk;cases hk
  obtain⟨c,hc⟩:=I.ok.has x (.inl hk);obtain⟨w',z⟩:=I.cell x c hc;refine wpAny_storeName_cell I.ok.kind hk hc z (λ h' hc' hs=>?_);obtain⟨oc,hoc,hocd⟩:=id z;refine h {s with heap:=h'} ⟨I.ok,I.os,I.bare,⟨λ b o e n hb hx=>?_,λ b o e n hb hx=>?_,I.base.free,λ b o e hx=>?_,I.base.sO,I.base.frzs,I.base.tbls⟩,⟨m,hn.sameBut hs (Ne.symm (cne x c hc)),λ j y v' e1 e2 e3=>?_⟩,λ y c' e=>?_,I.free,I.freeC,λ p hp=>?_,tracked ⟨oc,hoc,I.freeC x c hc⟩ hs,by simpa using I.len⟩ ⟨c,hs,.inr hc⟩
  .exact(hs.2 b (Nat.ne_of_lt (Nat.lt_of_lt_of_le (Heap.lt_size e) (I.ok.cab x c hfn hc)))).trans (I.base.keep b o e n hb hx)
  .obtain⟨sl,e1⟩:=I.base.slot b o e n hb hx;exact⟨sl,(hs.2 b (Nat.ne_of_lt (Nat.lt_of_lt_of_le (Heap.lt_size e) (I.ok.cab x c hfn hc)))).trans e1⟩
  .obtain⟨o',e1⟩:=I.base.there b o e hx;exact⟨o',(hs.2 b (Nat.ne_of_lt (Nat.lt_of_lt_of_le (Heap.lt_size e) (I.ok.cab x c hfn hc)))).trans e1⟩
  .by_cases hj:j=i
   .subst hj;rw[hi] at e1;cases e1;rw[List.getElem?_set_self hiσ] at e2;cases e2;exact⟨u,r,.inr ⟨.inl hk,c,hc,hc'⟩⟩
   .rw[List.getElem?_set_ne (Ne.symm hj)] at e2;obtain⟨u',r',q⟩:=hl j y v' e1 e2 e3;refine⟨u',r',?_⟩;rcases q with q | ⟨k,c',e,z'⟩
    .exact .inl q
    .refine .inr ⟨k,c',e,z'.sameBut hs ?_⟩;rintro rfl;exact hj (ux hN e1 (I.ok.inj _ _ _ e hc ▸ hi))
  .by_cases hcc:c'=c
   .subst hcc;exact⟨_,hc'⟩
   .obtain⟨w2,z2⟩:=I.cell y c' e;exact⟨w2,z2.sameBut hs hcc⟩
  .obtain⟨e,n,ne,nf,d⟩:=I.pin p hp;refine⟨(hs.2 p.1 ?_).trans e,n,ne,nf,d⟩;intro q;rw[q,hoc] at e;have q':oc=p.2:=Option.some.inj e;exact d w' (by rw[<- q'];exact hocd)
theorem iY(I:Inv X pins σ H s)(hN:X.N.Nodup)(hi:X.N[i]? =some x)(hx:Loc X.env.scope x)(r:RelV v u)
  (h:∀ s',Inv X pins (σ.set i (some v)) H s'->Q () s')(hf:X.fn x=true\/X.env.scope.names.lookup x=some .local:=by first | exact .inl rfl | exact .inr rfl | assumption):wpAny M A (storeName X.env x u) Q E s:=
 zv I hN hi hx r (λ s' I' _=>h s' I') hf
theorem Inv.aiM(I:Inv X pins σ H s)(ho:s'.os=s.os)(u:Un (frs X.stack) ch H H' s.heap s'.heap)(hok:HOk X.prog X.w H' s'.heap)(hg:AllBare s'.gens)
  (hch:∀ b∈ch,(b∈X.ex\/X.s₀.heap.objs.size<=b)/\b≠X.env.locals/\(∀ x c,X.env.cells.lookup x=some c->c≠b)/\∀ p∈X.pn++pins,p.1≠b):Inv X pins σ H' s':=by
 obtain⟨h',g',d',t',o'⟩:=s';have e:o'=s.os:=ho;subst e;exact I.call (g':=g') (t':=t') (d':=d') u hok hg hch
end
abbrev XK:=Value->Option Addr->Hp->Prop
abbrev St:=List (Option V)
abbrev VK:=V->Hp->Prop
abbrev TE:=St->Hp->VK->Prop
abbrev TT:=St->Hp->(Bool->Hp->Prop)->Prop
abbrev TA:=St->Hp->(List V->Hp->Prop)->Prop
structure Ends where
 nx:St->Hp->Prop
 rt:VK
 bk:St->Hp->Prop:=λ _ _=>False
 ct:St->Hp->Prop:=λ _ _=>False
abbrev TS:=Ends->St->Hp->Prop
def EP(X:Cx)(pins:PN)(σ:St)(Q:VK)(u:Value)(s':Shared):Prop:=∃ v H',Inv X pins σ H' s'/\RelV v u/\Q v H'
def TP(X:Cx)(pins:PN)(σ:St)(Q:Bool->Hp->Prop)(b:Bool)(s':Shared):Prop:=∃ H',Inv X pins σ H' s'/\Q b H'
def AP(X:Cx)(pins:PN)(σ:St)(Q:List V->Hp->Prop)(us:List Value)(s':Shared):Prop:=∃ vs H',Inv X pins σ H' s'/\Vals vs us/\Q vs H'
def SP(X:Cx)(pins:PN)(D:Ends)(f:Flow)(s':Shared):Prop:=
 match f with
 | .next=>∃ σ' H',Inv X pins σ' H' s'/\D.nx σ' H'
 | .brk=>∃ σ' H',Inv X pins σ' H' s'/\D.bk σ' H'
 | .cont=>∃ σ' H',Inv X pins σ' H' s'/\D.ct σ' H'
 | .ret u=>∃ v σ' H',Inv X pins σ' H' s'/\RelV v u/\D.rt v H'
def PE(X:Cx)(e:Expr)(t:TE):Prop:=
 ∀ (pins:PN) (s:Shared) (σ:St) (H:Hp) (Q:VK),Inv X pins σ H s->t σ H Q->wpAny (model X.prog X.w) X.A (eval e X.env) (EP X pins σ Q) X.xe s
def PT(X:Cx)(e:Expr)(t:TT):Prop:=
 ∀ (pins:PN) (s:Shared) (σ:St) (H:Hp) (Q:Bool->Hp->Prop),Inv X pins σ H s->t σ H Q->wpAny (model X.prog X.w) X.A (isTrue e X.env (eval e X.env)) (TP X pins σ Q) X.xe s
def PW(X:Cx)(e:Expr)(t:TT):Prop:=
 ∀ (whole:Sem Value) (pins:PN) (s:Shared) (σ:St) (H:Hp) (Q:Bool->Hp->Prop),Inv X pins σ H s->t σ H Q->wpAny (model X.prog X.w) X.A (isTrue e X.env whole) (TP X pins σ Q) X.xe s
theorem PW.pt(h:PW X e t):PT X e t:=h _
def PA(X:Cx)(es:List Expr)(t:TA):Prop:=
 ∀ (pos:Pos) (pins:PN) (s:Shared) (σ:St) (H:Hp) (Q:List V->Hp->Prop),Inv X pins σ H s->t σ H Q->wpAny (model X.prog X.w) X.A (spliced (backTo pos (starEach es X.env))) (AP X pins σ Q) X.xe s
def PS(X:Cx)(st:Stmt)(t:TS):Prop:=
 ∀ (pins:PN) (s:Shared) (σ:St) (H:Hp) (D:Ends),Inv X pins σ H s->t D σ H->wpAny (model X.prog X.w) X.A (exec st X.env) (SP X pins D) X.xe s
def PSs(X:Cx)(st:List Stmt)(t:TS):Prop:=
 ∀ (pins:PN) (s:Shared) (σ:St) (H:Hp) (D:Ends),Inv X pins σ H s->t D σ H->wpAny (model X.prog X.w) X.A (execs st X.env) (SP X pins D) X.xe s
theorem thn(h:wpAny M A t Q E s)(hQ:∀ a s,Q a s->Q' a s):wpAny M A t Q' E s:=wpAny_mono h hQ λ _ _ x=>x
section
variable {X:Cx}
def ak9(i:Nat):TE:=λ σ H Q=>∃ v,σ[i]? =some (some v)/\Q v H
def tC(v:V):TE:=λ _ H Q=>Q v H
theorem aib(hN:X.N[i]? =some x)(hv:Vis X.env.scope x)(hd:ND x:=by decide)(hcd:(x==("__classdict__" : Str))=false:=by decide):PE X (.Name x pos) (ak9 i):=by
 intro pins s σ H Q I h;obtain⟨v,e,h⟩:=h;obtain⟨m,hn,hl⟩:=I.loc;obtain⟨u,r,l⟩:=hl i x v hN e hv;have fin:EP X pins σ Q u s:=⟨v,H,I,r,h⟩;rcases l with ⟨hk,hm⟩ | ⟨hk,c,hc,hcell⟩
 .exact wpAny_Name (wpAny_loadName_local I.ok.kind hk hn hm fin) hd
 .rcases hk with hk | hk
  .exact wpAny_Name (wpAny_loadName_cell I.ok.kind hk hc hcell fin) hd
  .exact wpAny_Name (wpAny_loadName_free I.ok.kind hk hc hcell fin hcd) hd
theorem ain{i j pos}:PE X (.Constant (.int i) j pos) (tC (.int i)):=λ _ _ _ H _ I h=>wpAny_Constant_int ⟨.int i,H,I.tok _,⟨_,rfl⟩,h⟩
theorem akT{b j pos}:PE X (.Constant (.bool b) j pos) (tC (.bl b)):=λ _ _ _ H _ I h=>Constant_bool ⟨.bl b,H,I,rfl,h⟩
theorem ahG{j pos}:PE X (.Constant .none j pos) (tC .non):=λ _ _ _ H _ I h=>Constant_none ⟨.non,H,I,rfl,h⟩
theorem ais{x j pos}:PE X (.Constant (.str x) j pos) (tC (.str x)):=λ _ _ _ H _ I h=>Calls.Constant_str ⟨.str x,H,I.tok _,⟨_,rfl⟩,h⟩
def Gl(X:Cx)(x:Str):Prop:=X.env.kindOf x=some .globalImplicit
theorem tE(I:Inv X pins σ H s)(hg:Gl X x)(hm:X.mg x=some u)(h:Q u s)
  (hd:ND x:=by decide):wpAny (model X.prog X.w) X.A (eval (.Name x pos) X.env) Q E s:=
 Calls.Name_function_global I.ok.kind hg (Calls.loadGlobal_global (by rw[I.ok.glob];exact I.mod.glob.keeps I.bk) hm h) hd
theorem jV(I:Inv X pins σ H s)(hg:Gl X x)(hm:X.mg x=none)(hv:bootBuiltins x=some u)(h:Q u s)
  (hn:x ≠ "__name__":= by decide)(hd:ND x:=by decide):wpAny (model X.prog X.w) X.A (eval (.Name x pos) X.env) Q E s:=by
 obtain⟨mb,h1,h2⟩:=I.mod.blt;exact Calls.Name_function_global I.ok.kind hg (Calls.loadGlobal_builtin (by rw[I.ok.glob];exact I.mod.glob.keeps I.bk) hm (by rw[I.ok.blt];exact h1.keeps I.bk) ((h2 x hn).trans hv) h) hd
theorem ae3{x:Str}{v:V}{u:Value}{pos:Pos}(hg:Gl X x)(hm:X.mg x=none)(hv:bootBuiltins x=some u)(r:RelV v u)(hn:x ≠ "__name__":= by decide)(hd:ND x:=by decide):PE X (.Name x pos) (tC v):=
 λ _ _ _ H _ I h=>jV I hg hm hv ⟨v,H,I,r,h⟩ hn hd
variable {a b:Expr}{ta tb:TE}{pos:Pos}
def PC(X:Cx)(op:CmpOp)(a b:Expr)(t:TE):Prop:=
 ∀ (pins:PN) (s:Shared) (σ:St) (H:Hp) (Q:VK),Inv X pins σ H s->t σ H Q ->
  wpAny (model X.prog X.w) X.A (eval a X.env) (λ v s₁=>wpAny (model X.prog X.w) X.A (eval b X.env) (λ u s₂=>wpAny (model X.prog X.w) X.A (compareOp op v u) (EP X pins σ Q) X.xe s₂) X.xe s₁) X.xe s
def tB(t:TE):TT:=λ σ H Q=>t σ H λ x H1=>∃ c,x=.bl c/\Q c H1
theorem aiP(h:PC X op a b t)(h1:behindInMarks op b=false:=by first | exact nobehind _ (by decide) (by decide) | rfl):PE X (.Compare a [op] [b] pos) t:=λ pins s σ H Q I hw=>wpAny_Compare1 (h pins s σ H Q I hw) h1
theorem ah9(h:PC X op a b t)(h1:behindInMarks op b=false:=by first | exact nobehind _ (by decide) (by decide) | rfl):PT X (.Compare a [op] [b] pos) (tB t):=by intro pins s σ H Q I hw;refine wpAny_isTrue_Compare1 (thn (h pins s σ H _ I hw) λ v s1 h1=>thn h1 λ u s2 h2=>thn h2 λ c s3 ⟨x,H1,I1,r1,q1⟩=>?_) h1;obtain⟨d,rfl,q⟩:=q1;cases r1;exact wpAny_truthy_bool ⟨H1,I1,q⟩
theorem ah8(h:PE X e t)(he:∀ whole,isTrue e X.env whole=(do let v <- whole;standAt e.pos;holding [v] (truthy v)):=by intro _;rfl):PT X e (tB t):=by intro pins s σ H Q I hw;refine isTrue_plain (thn (h pins s σ H _ I hw) λ v s1 ⟨x,H1,I1,r1,q1⟩=>?_) (he _);obtain⟨d,rfl,q⟩:=q1;cases r1;exact wpAny_truthy_bool ⟨H1,I1,q⟩
variable {tA tB':TT}{rest:List Expr}
def al1(t u:TT):TT:=λ σ H Q=>t σ H λ c H1=>if c=true then u σ H1 Q else Q false H1
def tOr(t u:TT):TT:=λ σ H Q=>t σ H λ c H1=>if c=true then Q true H1 else u σ H1 Q
def alP(t:TT):TT:=λ σ H Q=>t σ H λ c H1=>Q (!c) H1
theorem pw_and1(ha:PT X a tA):PW X (.BoolOp .And [a] pos) tA:=by
 intro wh pins s σ H Q I h;refine isTrue_and (thn (ha pins s σ H Q I h) λ c s1 e=>?_);cases c with
 | true=>exact isTrue_and_nil e
 | false=>exact e
theorem pw_or1(ha:PT X a tA):PW X (.BoolOp .Or [a] pos) tA:=by
 intro wh pins s σ H Q I h;refine isTrue_or (thn (ha pins s σ H Q I h) λ c s1 e=>?_);cases c with
 | false=>exact isTrue_or_nil e
 | true=>exact e
theorem pw_and(ha:PT X a tA)(hb:PW X (.BoolOp .And (b::rest) pos) tB'):PW X (.BoolOp .And (a::b::rest) pos) (al1 tA tB'):=by
 intro wh pins s σ H Q I h;refine isTrue_and (thn (ha pins s σ H _ I h) λ c s1 hq1=>?_);obtain⟨H1,I1,q1⟩:=hq1;cases c with
 | true=>exact hb wh pins s1 σ H1 Q I1 q1
 | false=>exact⟨H1,I1,q1⟩
theorem pw_or(ha:PT X a tA)(hb:PW X (.BoolOp .Or (b::rest) pos) tB'):PW X (.BoolOp .Or (a::b::rest) pos) (tOr tA tB'):=by
 intro wh pins s σ H Q I h;refine isTrue_or (thn (ha pins s σ H _ I h) λ c s1 hq2=>?_);obtain⟨H1,I1,q1⟩:=hq2;cases c with
 | true=>exact⟨H1,I1,q1⟩
 | false=>exact hb wh pins s1 σ H1 Q I1 q1
theorem ag6(ha:PT X a tA):PT X (.UnaryOp .Not a pos) (alP tA):=by intro pins s σ H Q I h;exact isTrue_not (ha pins s σ H (λ c H1=>Q (!c) H1) I h)
def akL(ta tb:TE):TE:=λ σ H Q=>ta σ H λ x H1=>∃ c,x=.bl c/\if c=true then tb σ H1 Q else Q (.bl false) H1
def alW(ta tb:TE):TE:=λ σ H Q=>ta σ H λ x H1=>∃ c,x=.bl c/\if c=true then Q (.bl true) H1 else tb σ H1 Q
def ajP(ta:TE):TE:=λ σ H Q=>ta σ H λ x H1=>∃ c,x=.bl c/\Q (.bl (!c)) H1
theorem aja{op}(h:PE X a t):PE X (.BoolOp op [a] pos) t:=λ pins s σ H Q I hw=>BoolOp_one (h pins s σ H Q I hw)
theorem aiH(ha:PE X a ta)(hb:PE X (.BoolOp .And (b::rest) pos) tb):PE X (.BoolOp .And (a::b::rest) pos) (akL ta tb):=by
 intro pins s σ H Q I h;refine BoolOp_and (thn (ha pins s σ H _ I h) λ v s1 hq3=>?_);obtain⟨x,H1,I1,r1,q1⟩:=hq3;obtain⟨c,rfl,q1⟩:=q1;cases r1;refine wpAny_truthy_bool ?_;cases c with
 | true=>exact hb pins s1 σ H1 Q I1 q1
 | false=>exact⟨.bl false,H1,I1,rfl,q1⟩
theorem ajT(ha:PE X a ta)(hb:PE X (.BoolOp .Or (b::rest) pos) tb):PE X (.BoolOp .Or (a::b::rest) pos) (alW ta tb):=by
 intro pins s σ H Q I h;refine BoolOp_or (thn (ha pins s σ H _ I h) λ v s1 hq4=>?_);obtain⟨x,H1,I1,r1,q1⟩:=hq4;obtain⟨c,rfl,q1⟩:=q1;cases r1;refine wpAny_truthy_bool ?_;cases c with
 | false=>exact hb pins s1 σ H1 Q I1 q1
 | true=>exact⟨.bl true,H1,I1,rfl,q1⟩
theorem ahj(ha:PE X a ta):PE X (.UnaryOp .Not a pos) (ajP ta):=by intro pins s σ H Q I h;refine UnaryOp_ (thn (ha pins s σ H _ I h) λ v s1 hq5=>?_);obtain⟨x,H1,I1,r1,q1⟩:=hq5;obtain⟨c,rfl,q1⟩:=q1;cases r1;exact not_of (wpAny_truthy_bool ⟨.bl (!c),H1,I1,rfl,q1⟩)
end
def SqL(K:FG)(H:Hp)(a:Addr)(xs:List V):Prop:=
 Rd H a (.lst xs) \/
  ∃ (o:Obj) (its:Array Value) (n:Nat),K.lookup a=some o/\o.cls=.type "list" /\ o.dict=none/\o.data=.seq its n/\its.size<=sizeLine/\Vals xs its.toList
def SqT(K:FG)(H:Hp)(a:Addr)(xs:List V):Prop:=
 Rd H a (.tup xs) \/
  ∃ (o:Obj) (its:Array Value) (n:Nat),K.lookup a=some o/\o.cls=.type "tuple" /\ o.dict=none/\o.data=.seq its n/\its.size<=sizeLine/\Vals xs its.toList
def alE:Value->Option V
 | .none=>some .non
 | .bool b=>some (.bl b)
 | .int i _=>some (.int i)
 | .str x _=>some (.str x)
 | .bytes b _=>some (.byt b)
 | .float b _=>some (.flt b)
 | .ref a=>some (.ref a)
 | .type n=>some (.ty n)
 | _=>none
theorem RelV.abs(r:RelV x u):alE u=some x:=by
 cases x with
 | non=>cases r;rfl
 | bl _=>cases r;rfl
 | int _=>obtain⟨t,rfl⟩:=r;rfl
 | str _=>obtain⟨t,rfl⟩:=r;rfl
 | byt _=>obtain⟨t,rfl⟩:=r;rfl
 | flt _=>obtain⟨t,rfl⟩:=r;rfl
 | ref _=>cases r;rfl
 | ty _=>cases r;rfl
theorem RelV.inj(r:RelV x u)(q:RelV y u):x=y:=Option.some.inj (r.abs.symm.trans q.abs)
theorem Vals.inj:∀ {xs ys:List V} {us:List Value},Vals xs us->Vals ys us->xs=ys
 | _,_,_,.nil,.nil=>rfl
 | _,_,_,.cons r t,.cons r' t'=>by rw[r.inj r',Vals.inj t t']
theorem SqL.of{K:FG}(h:H a=some (.lst xs)):SqL K H a xs:=.inl (.inl h)
theorem Inv.list(I:Inv X pins σ H s)(h:SqL X.K H a xs):∃ its:List Value,Vals xs its/\PlainL s.heap a its.toArray/\xs.length<=sizeLine:=by
 rcases h with h | ⟨o,its,n,hk,hc,hd,hs,hz,r⟩
 .obtain⟨z,its,n,r,e⟩:=h.ok I.hok;exact⟨its,r,⟨_,n,e,rfl,rfl,rfl⟩,z⟩
 .refine⟨its.toList,r,⟨o,n,I.kIn a o hk,hc,hd,by simpa using hs⟩,?_⟩;have e:=r.length;simp only[Array.length_toList] at e;omega
theorem Inv.alp(I:Inv X pins σ H s)(h:SqT X.K H a xs):∃ its:List Value,Vals xs its/\abE s.heap a its.toArray/\xs.length<=sizeLine:=by
 rcases h with h | ⟨o,its,n,hk,hc,hd,hs,hz,r⟩
 .obtain⟨z,its,r,p⟩:=h.ok I.hok;exact⟨its,r,p,z⟩
 .refine⟨its.toList,r,⟨o,I.kIn a o hk,hc,hd,n,by simpa using hs⟩,?_⟩;have e:=r.length;simp only[Array.length_toList] at e;omega
theorem Inv.tuple(I:Inv X pins σ H s)(h:SqT X.K H a xs):∃ its:List Value,Vals xs its/\IsTup s.heap a its.toArray/\xs.length<=sizeLine:=by obtain⟨its,r,p,z⟩:=I.alp h;exact⟨its,r,p.tup,z⟩
theorem Inv.abA(I:Inv X pins σ H s)(h:SqL X.K H a xs)(h':SqL X.K H a ys):xs=ys:=by
 obtain⟨its,r,⟨o,n,e,_,_,d⟩,_⟩:=I.list h;obtain⟨its',r',⟨o',n',e',_,_,d'⟩,_⟩:=I.list h';rw[e] at e';cases e';rw[d] at d'
 injection d' with d1 _
 have:its=its':=by simpa using congrArg Array.toList d1
 subst this;exact r.inj r'
theorem Inv.aas(I:Inv X pins σ H s)(h:SqT X.K H a xs)(h':SqT X.K H a ys):xs=ys:=by
 obtain⟨its,r,⟨o,e,_,n,d⟩,_⟩:=I.tuple h;obtain⟨its',r',⟨o',e',_,n',d'⟩,_⟩:=I.tuple h';rw[e] at e';cases e';rw[d] at d'
 injection d' with d1 _
 have:its=its':=by simpa using congrArg Array.toList d1
 subst this;exact r.inj r'
abbrev Cx.tQ(X:Cx)(E:VP):Cx:={X with xe:=E}
abbrev Cx.nox(X:Cx):Cx:=X.tQ λ _ _=>False
theorem Cx.Ok.tQ{X:Cx}(ok:X.Ok)(E:VP):(X.tQ E).Ok:=
 ⟨ok.mod,ok.kind,ok.glob,ok.blt,ok.above,ok.inj,ok.has,ok.cab,ok.hd,ok.frames,ok.stk,ok.exf,ok.bs,ok.bsz,ok.noex,ok.exfs,ok.sE,ok.frf⟩
theorem Cx.Ok.jR{X:Cx}{E:VP}(ok:(X.tQ E).Ok):X.Ok:=
 ⟨ok.mod,ok.kind,ok.glob,ok.blt,ok.above,ok.inj,ok.has,ok.cab,ok.hd,ok.frames,ok.stk,ok.exf,ok.bs,ok.bsz,ok.noex,ok.exfs,ok.sE,ok.frf⟩
theorem Inv.tQ(I:Inv X pins σ H s)(E:VP):Inv (X.tQ E) pins σ H s:=⟨I.ok.tQ E,I.os,I.bare,I.base,I.loc,I.cell,I.free,I.freeC,I.pin,I.hok,I.len⟩
theorem Inv.jR(I:Inv (X.tQ E) pins σ H s):Inv X pins σ H s:=⟨I.ok.jR,I.os,I.bare,I.base,I.loc,I.cell,I.free,I.freeC,I.pin,I.hok,I.len⟩
theorem SP.jR(h:SP (X.tQ E) pins D f s'):SP X pins D f s':=by
 cases f with
 | next=>obtain⟨σ',H',I,q⟩:=h;exact⟨σ',H',I.jR,q⟩
 | brk=>obtain⟨σ',H',I,q⟩:=h;exact⟨σ',H',I.jR,q⟩
 | cont=>obtain⟨σ',H',I,q⟩:=h;exact⟨σ',H',I.jR,q⟩
 | ret u=>obtain⟨v,σ',H',I,r,q⟩:=h;exact⟨v,σ',H',I.jR,r,q⟩
theorem PSs.nox{st:List Stmt}{t:TS}(h:PSs X.nox st t):PSs X st t:=λ pins s σ H D I hw =>
 wpAny_mono (h pins s σ H D (I.tQ _) hw) (λ _ _ q=>q.jR) λ _ _ z=>False.elim z
section
variable {X:Cx}{st:Stmt}{rest:List Stmt}{t u:TS}{e:Expr}{te:TE}{pos:Pos}
def akw:TS:=λ D σ H=>D.nx σ H
def alv(t u:TS):TS:=λ D σ H=>t {D with nx:=u D} σ H
theorem aen:PSs X [] akw:=λ _ _ σ H _ I h=>wpAny_execs_nil ⟨σ,H,I,h⟩
theorem acC(h1:PS X st t)(h2:PSs X rest u):PSs X (st::rest) (alv t u):=by
 intro pins s σ H D I h;refine wpAny_execs_cons (thn (h1 pins s σ H {D with nx:=u D} I h) λ f s1 q=>?_);cases f with
 | next =>
  obtain⟨σ',H',I',q⟩:=q;exact h2 pins s1 σ' H' D I' q
 | ret v=>exact q
 | brk=>exact q
 | cont=>exact q
theorem aeC(h1:PS X st t):PSs X [st] t:=by
 intro pins s σ H D I h;refine wpAny_execs_cons (thn (h1 pins s σ H D I h) λ f s1 q=>?_);cases f with
 | next=>exact wpAny_execs_nil q
 | ret v=>exact q
 | brk=>exact q
 | cont=>exact q
theorem Inv.quiet(I:Inv X pins σ H s):interactive X.env=false:=by simp[interactive,I.ok.kind]
def ajV(te:TE):TS:=λ D σ H=>te σ H λ _ H1=>D.nx σ H1
theorem agb(he:PE X e te)(hs:swapsWith e none pos.line X.env=pure false:=by rfl):PS X (.Expr e pos) (ajV te):=by intro pins s σ H D I h;exact wpAny_Expr_any (thn (he pins s σ H _ I h) λ v s1 ⟨x,H1,I1,r1,q1⟩=>⟨σ,H1,I1,q1⟩) I.quiet hs
def alQ(te:TE):TS:=λ D σ H=>te σ H D.rt
theorem ag8(he:PE X e te):PS X (.Return (some e) pos) (alQ te):=by intro pins s σ H D I h;exact wpAny_Return_some (thn (he pins s σ H _ I h) λ v s1 ⟨x,H1,I1,r1,q1⟩=>⟨x,σ,H1,I1,r1,q1⟩)
def alZ(c:TT)(t u:TS):TS:=λ D σ H=>c σ H λ b H1=>if b=true then t D σ H1 else u D σ H1
theorem akx(hc:PT X c tc)(ha:PSs X a t)(hb:PSs X b u):PS X (.If c a b pos) (alZ tc t u):=by
 intro pins s σ H D I h;refine wpAny_If (thn (hc pins s σ H _ I h) λ d s1 hq6=>?_);obtain⟨H1,I1,q1⟩:=hq6;cases d with
 | true=>exact ha pins s1 σ H1 D I1 q1
 | false=>exact hb pins s1 σ H1 D I1 q1
end
abbrev TG:=V->St->Hp->(St->Hp->Prop)->Prop
abbrev TGs:=List V->St->Hp->(St->Hp->Prop)->Prop
def PG(X:Cx)(target:Expr)(t:TG):Prop:=
 ∀ (pins:PN) (s:Shared) (σ:St) (H:Hp) (v:V) (u:Value) (Q:St->Hp->Prop),Inv X pins σ H s->RelV v u->t v σ H Q ->
  wpAny (model X.prog X.w) X.A (assign target X.env u) (λ _ s'=>∃ σ' H',Inv X pins σ' H' s'/\Q σ' H') X.xe s
def PGs(X:Cx)(ts:List Expr)(t:TGs):Prop:=
 ∀ (pins:PN) (s:Shared) (σ:St) (H:Hp) (vs:List V) (us:List Value) (Q:St->Hp->Prop),Inv X pins σ H s->Vals vs us->t vs σ H Q ->
  wpAny (model X.prog X.w) X.A (assignInOrder ((assignEach ts X.env).map (·.2)) us) (λ _ s'=>∃ σ' H',Inv X pins σ' H' s'/\Q σ' H') X.xe s
abbrev ajY:=V->V->V->Hp->(Hp->Prop)->Prop
def ajZ(X:Cx)(t:ajY):Prop:=
 ∀ (pins:PN) (s:Shared) (σ:St) (H:Hp) (o i v:V) (ov iv u:Value) (Q:Hp->Prop),Inv X pins σ H s->RelV o ov->RelV i iv->RelV v u->t o i v H Q ->
  wpAny (model X.prog X.w) X.A (setItem ov iv u) (λ _ s'=>∃ H',Inv X pins σ H' s'/\Q H') X.xe s
abbrev TIp:=V->V->Hp->VK->Prop
def PIp(X:Cx)(op:Operator)(t:TIp):Prop:=
 ∀ (pins:PN) (s:Shared) (σ:St) (H:Hp) (x y:V) (v u:Value) (Q:VK),Inv X pins σ H s->RelV x v->RelV y u->t x y H Q ->
  wpAny (model X.prog X.w) X.A (inplaceOp op v u) (EP X pins σ Q) X.xe s
def ad4(i:Nat):TG:=λ v σ H Q=>Q (σ.set i (some v)) H
theorem xC(hN:X.N.Nodup)(hi:X.N[i]? =some x)(hx:Loc X.env.scope x)(hf:X.fn x=true\/X.env.scope.names.lookup x=some .local:=by first | exact .inl rfl | exact .inr rfl | assumption):PG X (.Name x pos) (ad4 i):=by intro pins s σ H v u Q I r h;exact wpAny_assign_Name (iY I hN hi hx r (λ s' I'=>⟨_,H,I',h⟩) hf)
def alF:TGs:=λ vs σ H Q=>vs=[]/\Q σ H
def ake(t:TG)(u:TGs):TGs:=λ vs σ H Q=>∃ v r,vs=v::r/\t v σ H λ σ' H'=>u r σ' H' Q
theorem afQ:PGs X [] alF:=by intro pins s σ H vs us Q I r h;obtain⟨e,h⟩:=h;subst e;cases r;exact assignInOrder_nil ⟨σ,H,I,h⟩
theorem abS(h1:PG X e t)(h2:PGs X es u)
  (hs:(assignEach (e::es) X.env).map (·.2)=assign e X.env::(assignEach es X.env).map (·.2):=by rfl):PGs X (e::es) (ake t u):=by
 intro pins s σ H vs us Q I r h;obtain⟨v,vr,e1,h⟩:=h;subst e1;cases r with
 | cons r rr =>
  rw[hs];refine assignInOrder_cons (thn (h1 pins s σ H _ _ _ I r h) λ _ s1 hq7=>?_);obtain⟨σ1,H1,I1,q1⟩:=hq7;exact h2 pins s1 σ1 H1 _ _ Q I1 rr q1
def alM(K:FG)(n:Nat)(t:TGs):TG:=λ v σ H Q=>∃ a xs,v=.ref a/\SqT K H a xs/\xs.length=n/\t xs σ H Q
theorem adg(hc:X.calm=true)(h:PGs X es t)
  (hn:(assignEach es X.env).length=n:=by rfl)(hst:(assignEach es X.env).findIdx? (·.1)=none:=by rfl):PG X (.Tuple es k pos) (alM X.K n t):=by
 intro pins s σ H v u Q I r hw;obtain⟨a,xs,e1,hq,hl,hw⟩:=hw;subst e1;cases r;obtain⟨its,rv,ht,hz⟩:=I.tuple hq;refine assign_Tuple_tuple (I.ok.hd hc) ht (by simp[hn,<- hl,rv.length]) hst λ h' hx=>?_;have I1:Inv X pins σ H {s with heap:=h'}:=I.kept (t':=s.toks) λ b o e=>hx b o (Nat.ne_of_lt (Heap.lt_size e)) e;exact h pins _ σ H xs _ Q I1 (by simpa using rv) hw
def alz(to ti:TE)(t:ajY):TG:=λ v σ H Q=>to σ H λ o H1=>ti σ H1 λ i H2=>t o i v H2 λ H3=>Q σ H3
theorem ahr(ho:PE X o to)(hi:PE X i ti)(hs:ajZ X t)
  (ha:∀ v,assign (.Subscript o i pos) X.env v=(do
   let ov <- holding [v] (eval o X.env)
   let iv <- holding [v,ov] (eval i X.env)
   standAt pos
   holding [v,ov,iv] (setItem ov iv v)
   release [v,ov,iv] []):=by intro _;rfl):PG X (.Subscript o i pos) (alz to ti t):=by
 intro pins s σ H v u Q I r h;rw[ha];refine wb0 (wpAny_holding (thn (ho pins s σ H _ I h) λ ov s1 hq8=>?_));obtain⟨x,H1,I1,r1,q1⟩:=hq8;refine wb0 (wpAny_holding (thn (hi pins s1 σ H1 _ I1 q1) λ iv s2 hq9=>?_));obtain⟨y,H2,I2,r2,q2⟩:=hq9;refine wb0 (wpAny_standAt (wb0 (wpAny_holding (thn (hs pins s2 σ H2 x y v ov iv u _ I2 r1 r2 r q2) λ _ s3 hq10=>?_))));obtain⟨H3,I3,q3⟩:=hq10;exact wpAny_release ⟨σ,H3,I3,q3⟩
def ajB(te:TE)(g:TG):TS:=λ D σ H=>te σ H λ x H1=>g x σ H1 D.nx
theorem adf(he:PE X e te)(hg:PG X tg g)(hs:swapsWithSole [tg] e pos.line X.env=pure false:=by rfl)(hw:swappedStores [tg] e X.env=pure none:=by rfl)
  (h1:(assignEach [tg] X.env).map (·.2)=[assign tg X.env]:=by rfl):PS X (.Assign [tg] e pos) (ajB te g):=by
 intro pins s σ H D I h;refine wpAny_Assign_stores (thn (he pins s σ H _ I h) λ v s1 ⟨x,H1,I1,r1,q1⟩=>?_) hs hw;rw[h1];exact thn (hg pins s1 σ H1 x v _ I1 r1 q1) λ _ s2 q=>q
theorem ai3(hN:X.N.Nodup)(hi:X.N[i]? =some x)(hx:Loc X.env.scope x)(he:PE X e te)(hs:swapsWith e (some (.Name x pos')) pos.line X.env=pure false:=by rfl)(hf:X.fn x=true\/X.env.scope.names.lookup x=some .local:=by first | exact .inl rfl | exact .inr rfl | assumption) :
  PS X (.Assign [.Name x pos'] e pos) (ajB te (ad4 i)):=by
 intro pins s σ H D I h;refine wpAny_Assign_Name (thn (he pins s σ H _ I h) λ v s1 ⟨y,H1,I1,r1,q1⟩=>?_) hs;exact iY I1 hN hi hx r1 (λ s2 I2=>⟨_,H1,I2,q1⟩) hf
def akj(to ti te:TE)(eV:V->V->Hp->VK->Prop)(tip:TIp)(tset:ajY):TS:=λ D σ H=>to σ H λ o H1=>ti σ H1 λ i H2=>eV o i H2 λ x H3=>te σ H3 λ y H4=>tip x y H4 λ z H5=>tset o i z H5 λ H6=>D.nx σ H6
def alq(X:Cx)(t:V->V->Hp->VK->Prop):Prop:=
 ∀ (pins:PN) (s:Shared) (σ:St) (H:Hp) (o i:V) (ov iv:Value) (Q:VK),Inv X pins σ H s->RelV o ov->RelV i iv->t o i H Q ->
  wpAny (model X.prog X.w) X.A (getItem ov iv) (EP X pins σ Q) X.xe s
theorem aeu(ho:PE X o to)(hi:PE X i ti)(hg:alq X eV)(he:PE X e te)(hp:PIp X op tip)(hs:ajZ X tset)
  (ha:∀ ov iv new,augStore i ov iv new=(do holding [new,ov,iv] (setItem ov iv new);release [new,ov,iv] [];pure .next):=by intros;rfl):PS X (.AugAssign (.Subscript o i tpos) op e pos) (akj to ti te eV tip tset):=by
 intro pins s σ H D I h;refine wpAny_AugAssign_SubscriptAny (thn (ho pins s σ H _ I h) λ ov s1 ⟨x1,H1,I1,r1,q1⟩=>?_) ha;refine thn (hi pins s1 σ H1 _ I1 q1) λ iv s2 hq11=>?_;obtain⟨x2,H2,I2,r2,q2⟩:=hq11;refine thn (hg pins s2 σ H2 x1 x2 ov iv _ I2 r1 r2 q2) λ old s3 hq12=>?_;obtain⟨x3,H3,I3,r3,q3⟩:=hq12;refine thn (he pins s3 σ H3 _ I3 q3) λ v s4 hq13=>?_;obtain⟨x4,H4,I4,r4,q4⟩:=hq13;refine thn (hp pins s4 σ H4 x3 x4 old v _ I4 r3 r4 q4) λ new s5 hq14=>?_;obtain⟨x5,H5,I5,r5,q5⟩:=hq14;exact thn (hs pins s5 σ H5 x1 x2 x5 ov iv new _ I5 r1 r2 r5 q5) λ _ s6 ⟨H6,I6,q6⟩=>⟨σ,H6,I6,q6⟩
def ipI(f:Int->Int->Int):TIp:=λ x y H Q=>∃ i j,x=.int i/\y=.int j/\Q (.int (f i j)) H
theorem aiY:PIp X .Add (ipI λ i j=>i+j):=by intro pins s σ H x y v u Q I r1 r2 h;obtain⟨i,j,e1,e2,q⟩:=h;subst e1;subst e2;obtain⟨t,rfl⟩:=r1;obtain⟨t',rfl⟩:=r2;exact iadd_int ⟨.int _,H,I.tok _,⟨_,rfl⟩,q⟩
structure It where
 go:Nat->Hp->Prop
 yld:Nat->Hp->V->Hp->Prop
 stop:Nat->Hp->Prop
def kO(X:Cx)(pins:PN)(H:Hp)(b:Addr):Prop:=
 H b=none/\b≠X.env.locals/\b ∉ X.fs/\(b∈X.ex\/X.s₀.heap.objs.size<=b)/\(∀ x c,X.env.cells.lookup x=some c->c≠b)/\∀ p∈X.pn++pins,p.1≠b
theorem Inv.uY(I:Inv X pins σ H s)(hb:s.heap.objs.size<=b)(hn:H' b=none):kO X pins H' b:=by
 refine⟨hn,Nat.ne_of_gt (Nat.lt_of_lt_of_le I.lt hb),I.alk hb,.inr (Nat.le_trans I.sz hb),λ x c e z=>?_,λ p hp z=>?_⟩
 .obtain⟨v,q⟩:=I.cell x c e;exact absurd (Nat.lt_of_lt_of_le q.lt (by rw[z];exact hb)) (Nat.lt_irrefl _)
 .exact absurd (Nat.lt_of_lt_of_le (Heap.lt_size (I.pin p hp).1) (by rw[z];exact hb)) (Nat.lt_irrefl _)
structure Turn(P:Program)(w:World)(K:FG)(tg:Expr)(J:It)(fp:List Addr)(it:Addr)(tn:Nat->Heap->Prop):Prop where
 mem:it∈fp
 obj:∀ i h,tn i h->∀ b∈fp,∃ o,h.get? b=some o/\∀ v,o.data ≠ .cell v
 keep:∀ i h h',tn i h->(∀ b∈fp,∀ o,h.get? b=some o->h'.get? b=some o)->tn i h'
 item:∀ (X:Cx),X.prog=P->X.w=w->X.K=K->X.calm=true->∀ (i:Nat) (pins:PN) (s:Shared) (σ:St) (H:Hp) (E:VP),Inv X pins σ H s->(∀ b∈fp,kO X pins H b)->tn i s.heap->J.go i H ->
  wpAny (model P w) X.A (pyNext (.ref it)) (λ r s1=>∃ u,r=some u /\
   wpAny (model P w) X.A (letOwnedTupleGo tg (.ref it) u) (λ _ s2=>∃ x H',Inv X pins σ H' s2/\RelV x u/\J.yld i H x H'/\tn (i+1) s2.heap/\∀ b∈fp,H' b=none) E s1) E s
 done:∀ (X:Cx),X.prog=P->X.w=w->X.K=K->X.calm=true->∀ (i:Nat) (pins:PN) (s:Shared) (σ:St) (H:Hp) (E:VP),Inv X pins σ H s->(∀ b∈fp,kO X pins H b)->tn i s.heap->J.stop i H ->
  wpAny (model P w) X.A (pyNext (.ref it)) (λ r s1=>r=none/\Inv X pins σ H s1) E s
 self:∀ (A:Around) (i:Nat) (s:Shared) (Q:VP) (E:VP),tn i s.heap->Q (.ref it) s->wpAny (model P w) A (pyIter (.ref it)) Q E s
abbrev TI:=St->Hp->(It->Hp->Prop)->Prop
def PIE(X:Cx)(pins:PN)(σ:St)(tg:Expr)(R:It->Hp->Prop)(itv:Value)(s2:Shared):Prop:=
 ∃ (it:Addr) (fp:List Addr) (tn:Nat->Heap->Prop) (J:It) (H':Hp),itv=.ref it/\Inv X pins σ H' s2/\Turn X.prog X.w X.K tg J fp it tn/\tn 0 s2.heap/\(∀ b∈fp,kO X pins H' b)/\R J H'
def PI(X:Cx)(tg iter:Expr)(wi:TI):Prop:=
 ∀ (pins:PN) (s:Shared) (σ:St) (H:Hp) (R:It->Hp->Prop),Inv X pins σ H s->wi σ H R ->
  wpAny (model X.prog X.w) X.A (eval iter X.env) (λ v s1=>wpAny (model X.prog X.w) X.A (pyIter v) (PIE X pins σ tg R) X.xe s1) X.xe s
theorem wK(ho:s.heap.get? it=some o)(hc:o.cls=.type n)(hd:o.data=.fields vs)
  (hn:["enumerate", "zip", "dict_itemiterator", "dict_reverseitemiterator", "odict_iterator", "itertools.zip_longest", "itertools.pairwise"].contains n=false)(hQ:Q () s):wpAny M A (letOwnedTupleGo tg (.ref it) u) Q E s:=by
 unfold letOwnedTupleGo;cases tg<;>first
  | exact wp hQ
  | (cases u<;>first
    | exact wp hQ
    | (refine wb0 (wpAny_load ho ?_)
       rw[hc,hd];show wpAny M A (if (["enumerate", "zip", "dict_itemiterator", "dict_reverseitemiterator", "odict_iterator", "itertools.zip_longest", "itertools.pairwise"].contains n&&vs[0]? == some (rawInt _))=true then _ else _) Q E s;rw[if_neg (by intro h;rw[hn,Bool.false_and] at h;cases h)];exact wp hQ))
def Itl(K:FG)(a:Addr):It:=
 ⟨λ i H=>∃ xs x,SqL K H a xs/\xs[i]? =some x,λ i H x H'=>H'=H/\∀ xs,SqL K H a xs->xs[i]? =some x,λ i H=>∃ xs,SqL K H a xs/\xs.length<=i⟩
def Itt(K:FG)(a:Addr):It:=
 ⟨λ i H=>∃ xs x,SqT K H a xs/\xs[i]? =some x,λ i H x H'=>H'=H/\∀ xs,SqT K H a xs->xs[i]? =some x,λ i H=>∃ xs,SqT K H a xs/\xs.length<=i⟩
def Itr(lo:Int)(n:Nat):It:=⟨λ i _=>i<n,λ i H x H'=>H'=H/\x=.int (lo+i),λ i _=>n<=i⟩
theorem aaF{P:Program}{w:World}{K:FG}{tg:Expr}(a it:Addr):Turn P w K tg (Itl K a) [it] it (λ i h=>h.IsListIter it a i) where
 mem:=by simp
 obj:=λ i h st b hb=>by
  have e:b=it:=by simpa using hb
  subst e;obtain⟨o,e,c,d⟩:=st;exact⟨o,e,λ v z=>by rw[d] at z;cases z⟩
 keep:=λ i h h' st k=>st.at λ o e=>k it (by simp) o e
 item:=by intro X hP hw hK hc i pins s σ H E I hf st hg;subst hP hw hK;obtain⟨xs,x,hq,hx⟩:=hg;obtain⟨its,rv,p,hz⟩:=I.list hq;obtain⟨u,hu,ru⟩:=rv.get hx;obtain⟨f0,f1,f2,f3,f4,f5⟩:=hf it (by simp);refine wpAny_pyNext_list_item st p.isList (x:=u) (by simpa using hu) λ h' st' sb=>?_;have I1:Inv X pins σ H {s with heap:=h'}:=I.turned (t':=s.toks) (λ b o hb e=>(sb.2 b hb).trans e) f0 f1 f3 f4 f5;obtain⟨o,e,c,d⟩:=id st';exact⟨u,rfl,wK (s:={s with heap:=h'}) e c d (by decide) ⟨x,H,I1,ru,⟨rfl,λ ys hy=>by rw[I.abA hy hq];exact hx⟩,st',λ b hb=>(hf b hb).1⟩⟩
 done:=by intro X hP hw hK hc i pins s σ H E I hf st hg;subst hP hw hK;obtain⟨xs,hq,hx⟩:=hg;obtain⟨its,rv,p,hz⟩:=I.list hq;obtain⟨f0,f1,f2,f3,f4,f5⟩:=hf it (by simp);have hl:=rv.length;exact wpAny_pyNext_list_end (I.ok.hd hc) st p.isList (by simp;omega) λ h' eb=>⟨rfl,I.turned (t':=s.toks) (λ b o hb e=>eb b o hb e) f0 f1 f3 f4 f5⟩
 self:=λ _ _ _ _ _ st h=>wpAny_pyIter_listiter st h
theorem xo{P:Program}{w:World}{K:FG}{tg:Expr}(a it:Addr):Turn P w K tg (Itt K a) [it] it (λ i h=>h.IsTupleIter it a i) where
 mem:=by simp
 obj:=λ i h st b hb=>by
  have e:b=it:=by simpa using hb
  subst e;obtain⟨o,e,c,d⟩:=st;exact⟨o,e,λ v z=>by rw[d] at z;cases z⟩
 keep:=λ i h h' st k=>st.at λ o e=>k it (by simp) o e
 item:=by intro X hP hw hK hc i pins s σ H E I hf st hg;subst hP hw hK;obtain⟨xs,x,hq,hx⟩:=hg;obtain⟨its,rv,p,hz⟩:=I.tuple hq;obtain⟨u,hu,ru⟩:=rv.get hx;obtain⟨f0,f1,f2,f3,f4,f5⟩:=hf it (by simp);refine wpAny_pyNext_tuple_item st (show s.heap.IsTuple a its.toArray from p) (x:=u) (by simpa using hu) λ h' st' sb=>?_;have I1:Inv X pins σ H {s with heap:=h'}:=I.turned (t':=s.toks) (λ b o hb e=>(sb.2 b hb).trans e) f0 f1 f3 f4 f5;obtain⟨o,e,c,d⟩:=id st';exact⟨u,rfl,wK (s:={s with heap:=h'}) e c d (by decide) ⟨x,H,I1,ru,⟨rfl,λ ys hy=>by rw[I.aas hy hq];exact hx⟩,st',λ b hb=>(hf b hb).1⟩⟩
 done:=by intro X hP hw hK hc i pins s σ H E I hf st hg;subst hP hw hK;obtain⟨xs,hq,hx⟩:=hg;obtain⟨its,rv,p,hz⟩:=I.tuple hq;obtain⟨f0,f1,f2,f3,f4,f5⟩:=hf it (by simp);have hl:=rv.length;exact wpAny_pyNext_tuple_end (I.ok.hd hc) st (show s.heap.IsTuple a its.toArray from p) (by simp;omega) λ h' eb=>⟨rfl,I.turned (t':=s.toks) (λ b o hb e=>eb b o hb e) f0 f1 f3 f4 f5⟩
 self:=λ _ _ _ _ _ st h=>wpAny_pyIter_tupleiter st h
theorem w6{P:Program}{w:World}{K:FG}{tg:Expr}(it:Addr)(lo:Int)(n:Nat):Turn P w K tg (Itr lo n) [it] it (λ i h=>IsRangeIter h it (lo+(i:Nat) * 1) ((n:Int)-(i:Nat)) 1) where
 mem:=by simp
 obj:=λ i h st b hb=>by
  have e:b=it:=by simpa using hb
  subst e;exact⟨_,st,λ v z=>by have z':Data.fields _=Data.cell v:=z;cases z'⟩
 keep:=λ i h h' st k=>k it (by simp) _ st
 item:=by intro X hP hw hK hc i pins s σ H E I hf st hg;subst hP hw hK;obtain⟨f0,f1,f2,f3,f4,f5⟩:=hf it (by simp);have W:=Walks.range (prog:=X.prog) (w:=X.w) (I.ok.hd hc) it lo 1 n;refine W.item i s _ _ hg st λ v h' tk hv st' kk=>?_;obtain⟨t,rfl⟩:=hv;have I1:Inv X pins σ H {s with heap:=h',toks:=tk}:=I.turned (λ b o hb e=>kk b o (by simpa using hb) e) f0 f1 f3 f4 f5;refine⟨_,rfl,wK (s:={s with heap:=h',toks:=tk}) (n:= "range_iterator") st' rfl rfl (by decide) ⟨.int (lo+i),H,I1,⟨t,?_⟩,⟨rfl,rfl⟩,st',λ b hb=>(hf b hb).1⟩⟩;rw[Int.mul_one]
 done:=by intro X hP hw hK hc i pins s σ H E I hf st hg;subst hP hw hK;obtain⟨f0,f1,f2,f3,f4,f5⟩:=hf it (by simp);exact wpAny_pyNext_range_end (I.ok.hd hc) st (by have:n<=i:=hg;omega) λ h' eb=>⟨rfl,I.turned (t':=s.toks) (λ b o hb e=>eb b o hb e) f0 f1 f3 f4 f5⟩
 self:=λ _ _ _ _ _ st h=>wpAny_pyIter_rangeiter st h
theorem uH{R:It->Hp->Prop}{lo hi:Int}{t u v:Tok}{tk:Nat}(I:Inv X pins σ H s)(h1:-(2 ^ 62)<=lo)(h2:lo<2 ^ 62)(h3:-(2 ^ 62)<=hi)(h4:hi<2 ^ 62)
  (q:R (Itr lo (hi-lo).toNat) H):wpAny (model X.prog X.w) X.A (pyIter (.ref s.heap.objs.size)) (PIE X pins σ tg R) E {s with heap:=s.heap.push {cls:=.type "range",data:=.fields #[.int lo t,.int hi u,.int 1 v]},toks:=tk}:=by
 refine wpAny_pyIter_range (IsRange.new ..) (small_one h1 h2 h3 h4) ?_;have I1:Inv X pins σ H {s with heap:=s.heap.push {cls:=.type "range",data:=.fields #[.int lo t,.int hi u,.int 1 v]},toks:=tk}:=I.kept λ b o e=>Heap.get?_push_of_some _ e;refine⟨(s.heap.push {cls:=.type "range",data:=.fields #[.int lo t,.int hi u,.int 1 v]}).objs.size,[(s.heap.push {cls:=.type "range",data:=.fields #[.int lo t,.int hi u,.int 1 v]}).objs.size],_,_,H,rfl,
  I1.kept (t':=tk) λ b o e=>Heap.get?_push_of_some _ e,w6 _ lo (hi-lo).toNat,?_,λ b hb=>?_,q⟩
 .have e1:lo+((0:Nat):Int) * 1=lo:=by simp
  have e2:(((hi-lo).toNat:Nat):Int)-((0:Nat):Int)=Builtin.Range.rangeSize lo hi 1:=by rw[rangeSize_one];split<;>omega
  show IsRangeIter _ _ (lo+((0:Nat):Int) * 1) ((((hi-lo).toNat:Nat):Int)-((0:Nat):Int)) 1;rw[e1,e2];exact Heap.get?_push_size _ rfl
 .have e:b=(s.heap.push {cls:=.type "range",data:=.fields #[.int lo t,.int hi u,.int 1 v]}).objs.size:=by simpa using hb
  subst e;exact I1.uY (lr0 _) (I1.hok.fresh (lr0 _))
def ajH(ta:TA):TI:=λ σ H R=>ta σ H λ vs H1=>∃ j:Int,vs=[.int j]/\-(2 ^ 62)<=j/\j<2 ^ 62/\R (Itr 0 j.toNat) H1
def akK(ta:TA):TI:=λ σ H R=>ta σ H λ vs H1=>∃ i j:Int,vs=[.int i,.int j]/\(-(2 ^ 62)<=i/\i<2 ^ 62/\-(2 ^ 62)<=j/\j<2 ^ 62)/\R (Itr i (j-i).toNat) H1
theorem aa0{ta:TA}{p pos:Pos}(hg:Gl X "range")(hm:X.mg "range" = none)(ha:PA X [a] ta)(hs:starEach [a] X.env=[(false,eval a X.env)]:=by rfl):PI X tg (.Call (.Name "range" p) [a] [] pos) (ajH ta):=by
 intro pins s σ H R I h;refine Call_ (jV I hg hm boot_range (PyProof.Rows.callWith_type1 (thn (ha pos pins s σ H _ I h) λ us s1 ⟨vs,H1,I1,r1,q1⟩=>?_) hs rfl));obtain⟨j,e,q1,q2,q⟩:=q1;subst e;cases r1 with
 | cons r rr =>
  cases rr;obtain⟨t,rfl⟩:=r;exact call_range_1 (uH I1 (by omega) (by omega) q1 q2 (by simpa using q))
theorem aat(hg:Gl X "range")(hm:X.mg "range" = none)(ha:PA X [a,b] ta)(hs:starEach [a,b] X.env=[(false,eval a X.env),(false,eval b X.env)]:=by rfl)(hs2:starEach [b] X.env=[(false,eval b X.env)]:=by rfl) :
  PI X tg (.Call (.Name "range" p) [a,b] [] pos) (akK ta):=by
 intro pins s σ H R I h;refine Call_ (jV I hg hm boot_range (PyProof.Rows.callWith_type1 (thn (ha pos pins s σ H _ I h) λ us s1 ⟨vs,H1,I1,r1,q1⟩=>?_) (by rw[hs,hs2]) (by rw[hs2];rfl)));obtain⟨i,j,e,⟨q1,q2,q3,q4⟩,q⟩:=q1;subst e;cases r1 with
 | cons r rr =>
  cases rr with
  | cons r' rr =>
   cases rr;obtain⟨t,rfl⟩:=r;obtain⟨t',rfl⟩:=r';exact call_range_2 (uH I1 q1 q2 q3 q4 q)
def alT(wi:TI)(g:TG)(tb:TS):TS:=λ D σ H=>wi σ H λ J H1=>∃ W:Nat->Nat->St->Hp->Prop,(∃ m,W 0 m σ H1)/\∀ i m σ H,W i m σ H ->
 (J.stop i H/\D.nx σ H)\/(J.go i H/\∃ N:St->Hp->Prop,(∀ σ' H',N σ' H'->∃ m',m'<m/\W (i+1) m' σ' H')/\∀ x H',J.yld i H x H'->g x σ H' λ σ2 H2=>tb {D with nx:=N,ct:=N,bk:=D.nx} σ2 H2)
def lX(fp:List Addr)(h:Heap):PN:=fp.filterMap λ b=>(h.get? b).map λ o=>(b,o)
theorem cZ(hb:b∈fp)(e:h.get? b=some o):(b,o)∈lX fp h:=List.mem_filterMap.mpr ⟨b,hb,by rw[e];rfl⟩
theorem zD(hp:p∈lX fp h):p.1∈fp/\h.get? p.1=some p.2:=by
 obtain⟨b,hb,e⟩:=List.mem_filterMap.mp hp;cases q:h.get? b with
 | none=>rw[q] at e;cases e
 | some o =>
  rw[q] at e;have e':(b,o)=p:=Option.some.inj e;subst e';exact⟨hb,q⟩
theorem Inv.pinned(I:Inv X pins σ H s)(hf:∀ b∈fp,kO X pins H b)(ho:∀ b∈fp,∃ o,s.heap.get? b=some o/\∀ v,o.data ≠ .cell v):Inv X (pins++lX fp s.heap) σ H s:=
 I.dH λ p hp=>(List.mem_append.mp hp).elim (λ z=>I.pin p (List.mem_append_right _ z)) λ z=>by obtain⟨hb,e⟩:=zD z;obtain⟨f0,f1,f2,_⟩:=hf p.1 hb;obtain⟨o,e',d⟩:=ho p.1 hb;rw[e] at e';cases e';exact⟨e,f0,f1,f2,d⟩
theorem Inv.kM(I:Inv X (pins++pl) σ H s):Inv X pins σ H s:=I.dH λ p hp=>I.pin p (List.mem_append_right _ (List.mem_append_left _ hp))
theorem ahn(hp:PassesOwn (model X.prog X.w) X.A X.env X.xe)(hc:X.calm=true)(hi:PI X tg iter wi)(hg:PG X tg g)(hb:PSs X body tb)
  (hs:∀ x,foldedSetIterable iter X.env x=pure x:=by intro _;rfl):PS X (.For tg iter body [] pos) (alT wi g tb):=by
 intro pins s σ H D I h;refine wpAny_For (thn (hi pins s σ H _ I h) λ v s1 h1=>thn h1 λ itv s2 h2=>?_) hs;obtain⟨it,fp,tn,J,H2,e,I2,T,st2,f2,W,⟨m0,w0⟩,turn⟩:=h2;subst e;have stat:∀ {H':Hp},(∀ b∈fp,H' b=none)->∀ b∈fp,kO X pins H' b:=λ hn b hb=>⟨hn b hb,(f2 b hb).2⟩;refine codeAny_forLoop_any (λ n s'=>∃ i σ' H',Inv X pins σ' H' s'/\tn i s'.heap/\(∀ b∈fp,H' b=none)/\W i n σ' H') ?_ m0 ⟨0,σ,H2,I2,st2,λ b hb=>(f2 b hb).1,w0⟩;rintro n s3 ⟨i,σ3,H3,I3,st3,fr3,w3⟩;rcases turn i n σ3 H3 w3 with ⟨stop,qn⟩ | ⟨go,N,hN,step⟩
 .refine wpAny_passesOwn hp (thn (T.done X rfl rfl rfl hc i pins s3 σ3 H3 X.xe I3 (stat fr3) st3 stop) λ r s4 ⟨hr,I4⟩=>?_);subst hr;exact wpAny_execs_nil ⟨σ3,H3,I4,qn⟩
 .refine wpAny_passesOwn hp (thn (T.item X rfl rfl rfl hc i pins s3 σ3 H3 X.xe I3 (stat fr3) st3 go) λ r s4 ⟨u,hr,h4⟩=>?_);subst hr;refine wpAny_passesOwn hp (thn h4 λ _ s5 hq15=>?_);obtain⟨x,H5,I5,r5,y5,st5,fr5⟩:=hq15;have I5':=I5.pinned (stat fr5) (T.obj _ _ st5);refine wpAny_passesOwn hp (thn (hg _ s5 σ3 H5 x u _ I5' r5 (step x H5 y5)) λ _ s6 hq16=>?_);obtain⟨σ6,H6,I6,q6⟩:=hq16;refine wpAny_passesOwn hp (thn (hb _ s6 σ6 H6 _ I6 q6) λ f s7 q7=>?_);have again:∀ {σ7:St} {H7:Hp},Inv X (pins++lX fp s5.heap) σ7 H7 s7->N σ7 H7->∃ m,m<n/\∃ i σ' H',Inv X pins σ' H' s7/\tn i s7.heap/\(∀ b∈fp,H' b=none)/\W i m σ' H':=λ {σ7 H7} I7 n7=>by obtain⟨m',hm,w7⟩:=hN σ7 H7 n7;refine⟨m',hm,i+1,σ7,H7,I7.kM,T.keep _ _ _ st5 λ b hb o e=>(I7.pin (b,o) (List.mem_append_right _ (List.mem_append_right _ (cZ hb e)))).1,λ b hb=>?_,w7⟩;obtain⟨o,e,d⟩:=T.obj _ _ st5 b hb;exact(I7.pin (b,o) (List.mem_append_right _ (List.mem_append_right _ (cZ hb e)))).2.1
  cases f with
  | next=>obtain⟨σ7,H7,I7,n7⟩:=q7;exact again I7 n7
  | cont=>obtain⟨σ7,H7,I7,n7⟩:=q7;exact again I7 n7
  | brk=>obtain⟨σ7,H7,I7,q7⟩:=q7;exact⟨σ7,H7,I7.kM,q7⟩
  | ret v=>obtain⟨x7,σ7,H7,I7,r7,q7⟩:=q7;exact⟨x7,σ7,H7,I7.kM,r7,q7⟩
abbrev R2:=V->V->Hp->VK->Prop
def OpR(X:Cx)(f:Value->Value->Sem Value)(r:R2):Prop:=
 ∀ (pins:PN) (s:Shared) (σ:St) (H:Hp) (x y:V) (v u:Value) (Q:VK),Inv X pins σ H s->RelV x v->RelV y u->r x y H Q ->
  wpAny (model X.prog X.w) X.A (f v u) (EP X pins σ Q) X.xe s
def dr(X:Cx)(f:Value)(r:List V->Hp->VK->Prop):Prop:=
 ∀ (pins:PN) (s:Shared) (σ:St) (H:Hp) (xs:List V) (us:List Value) (Q:VK),Inv X pins σ H s->Vals xs us->r xs H Q ->
  wpAny (model X.prog X.w) X.A (call f us) (EP X pins σ Q) X.xe s
def tOp(r:R2)(ta tb:TE):TE:=λ σ H Q=>ta σ H λ x H1=>tb σ H1 λ y H2=>r x y H2 Q
def rI(C:Int->Int->Prop)(g:Int->Int->V):R2:=λ x y H Q=>∃ i j,x=.int i/\y=.int j/\C i j/\Q (g i j) H
def rI0(g:Int->Int->V):R2:=λ x y H Q=>∃ i j,x=.int i/\y=.int j/\Q (g i j) H
theorem akM(ha:PE X a ta)(hb:PE X b tb){pins:PN}{s:Shared}{σ:St}{H:Hp}{R:V->V->Hp->Prop}(I:Inv X pins σ H s)
  (h:ta σ H λ x H1=>tb σ H1 λ y H2=>R x y H2){Q:VP}{f:Value->Value->Sem Value}
  (hf:∀ v u s2 x y H2,Inv X pins σ H2 s2->RelV x v->RelV y u->R x y H2->wpAny (model X.prog X.w) X.A (f v u) Q X.xe s2) :
  wpAny (model X.prog X.w) X.A (eval a X.env) (λ v s₁=>wpAny (model X.prog X.w) X.A (eval b X.env) (λ u s₂=>wpAny (model X.prog X.w) X.A (f v u) Q X.xe s₂) X.xe s₁) X.xe s:=by
 refine thn (ha pins s σ H _ I h) λ v s1 hq17=>?_;obtain⟨x,H1,I1,r1,q1⟩:=hq17;refine thn (hb pins s1 σ H1 _ I1 q1) λ u s2 hq18=>?_;obtain⟨y,H2,I2,r2,q2⟩:=hq18;exact hf v u s2 x y H2 I2 r1 r2 q2
theorem aiF(ho:OpR X (binaryOp op) r)(ha:PE X a ta)(hb:PE X b tb):PE X (.BinOp a op b pos) (tOp r ta tb):=by intro pins s σ H Q I h;exact wpAny_BinOp (akM ha hb I h λ v u s2 x y H2 I2 rx ry q=>ho pins s2 σ H2 x y v u Q I2 rx ry q)
theorem opI{g:Int->Int->Int}
  (rule:∀ (i j:Int) (t u:Tok) (s:Shared) (Q:VP) (E:VP),C i j->Q (.int (g i j) s.toks) {s with toks:=s.toks+1}->wpAny (model X.prog X.w) X.A (f (.int i t) (.int j u)) Q E s) :
  OpR X f (rI C λ i j=>.int (g i j)):=by
 intro pins s σ H x y v u Q I rx ry h;obtain⟨i,j,rfl,rfl,hc,q⟩:=h;obtain⟨t,rfl⟩:=rx;obtain⟨t',rfl⟩:=ry;exact rule i j t t' s _ _ hc ⟨.int (g i j),H,I.tok _,⟨_,rfl⟩,q⟩
theorem alj{g:Int->Int->Int}
  (rule:∀ (i j:Int) (t u:Tok) (s:Shared) (Q:VP) (E:VP),Q (.int (g i j) s.toks) {s with toks:=s.toks+1}->wpAny (model X.prog X.w) X.A (f (.int i t) (.int j u)) Q E s) :
  OpR X f (rI0 λ i j=>.int (g i j)):=by
 intro pins s σ H x y v u Q I rx ry h;obtain⟨i,j,rfl,rfl,q⟩:=h;obtain⟨t,rfl⟩:=rx;obtain⟨t',rfl⟩:=ry;exact rule i j t t' s _ _ ⟨.int (g i j),H,I.tok _,⟨_,rfl⟩,q⟩
theorem ajy{g:Int->Int->Bool}
  (rule:∀ (i j:Int) (t u:Tok) (s:Shared) (Q:VP) (E:VP),Q (.bool (g i j)) s->wpAny (model X.prog X.w) X.A (f (.int i t) (.int j u)) Q E s) :
  OpR X f (rI0 λ i j=>.bl (g i j)):=by
 intro pins s σ H x y v u Q I rx ry h;obtain⟨i,j,rfl,rfl,q⟩:=h;obtain⟨t,rfl⟩:=rx;obtain⟨t',rfl⟩:=ry;exact rule i j t t' s _ _ ⟨.bl (g i j),H,I,rfl,q⟩
def akE(i j:Int):Prop:=0<j/\j<1073741824
def aji(i j:Int):Prop:=(-(2 ^ 64)<i/\i<2 ^ 64)\/(-(2 ^ 64)<j/\j<2 ^ 64)
theorem aji.ok{i j:Int}(h:aji i j):IntMulOk i j:=by
 rcases h with ⟨h1,h2⟩ | ⟨h1,h2⟩
 .exact .of_left (intBits_le_64 h1 h2)
 .exact .of_right (intBits_le_64 h1 h2)
theorem ah6:OpR X (binaryOp .Add) (rI0 λ i j=>.int (i+j)):=alj λ _ _ _ _ _ _ _ q=>add_int q
theorem agS:OpR X (binaryOp .Sub) (rI0 λ i j=>.int (i-j)):=alj λ _ _ _ _ _ _ _ q=>sub_int q
theorem aiB:OpR X (binaryOp .Mult) (rI aji λ i j=>.int (i * j)):=opI λ _ _ _ _ _ _ _ hc q=>mul_int q hc.ok
theorem ae0:OpR X (binaryOp .FloorDiv) (rI akE λ i j=>.int (i / j)):=opI λ i j _ _ _ _ _ hc q=>by have h1:(0:Int)<j:=hc.1;have h2:j<1073741824:=hc.2;exact floordiv_int (by omega) (by rw[Int.fdiv_eq_ediv_of_nonneg i (by omega)];exact q) (.inl (PyProof.noPylong_small (by omega)))
theorem ah1:OpR X (binaryOp .Mod) (rI (λ _ j=>0<j) λ i j=>.int (i % j)):=opI λ i j _ _ _ _ _ hc q=>by have h1:(0:Int)<j:=hc;exact mod_int' (by omega) (by rw[Int.fmod_eq_emod_of_nonneg i (by omega)];exact q)
def afI:V->V->Bool
 | .non,.non=>true | .non,.int _=>true | .int _,.non=>true | .non,.bl _=>true | .bl _,.non=>true | .non,.str _=>true | .str _,.non=>true
 | .int _,.int _=>true | .bl _,.bl _=>true | .str _,.str _=>true | .byt _,.byt _=>true
 | .int _,.str _=>true | .str _,.int _=>true | .bl _,.str _=>true | .str _,.bl _=>true
 | _,_=>false
def rEq:R2:=λ x y H Q=>afI x y=true/\Q (.bl (decide (x=y))) H
def rNe:R2:=λ x y H Q=>afI x y=true/\Q (.bl (!decide (x=y))) H
theorem zj:decide (V.int i=V.int j)=(i==j):=by rw[Bool.eq_iff_iff];simp
theorem adB:decide (V.bl i=V.bl j)=(i==j):=by rw[Bool.eq_iff_iff];simp
theorem aau:decide (V.str i=V.str j)=(i==j):=by rw[Bool.eq_iff_iff];simp
theorem zT:decide (V.byt i=V.byt j)=(i.toList==j.toList):=by rw[Bool.eq_iff_iff];cases i;cases j;simp
theorem bE(I:Inv X pins σ H s)(q:Q (.bl k) H)(e:k=k'):EP X pins σ Q (.bool k') s:=by subst e;exact⟨.bl k,H,I,rfl,q⟩
theorem aj0:OpR X (compareOp .Eq) rEq:=by
 intro pins s σ H x y v u Q I rx ry h;obtain⟨hs,q⟩:=h;cases x with
 | non =>
  cases rx;cases y with
  | non=>cases ry;exact PySem.EqNone.eq_none_none (bE I q (by simp))
  | bl j=>cases ry;exact PySem.EqNone.eq_none_bool (bE I q (by simp))
  | int j=>obtain⟨t',rfl⟩:=ry;exact PySem.EqNone.eq_none_int (bE I q (by simp))
  | str j=>obtain⟨t',rfl⟩:=ry;exact PySem.EqNone.eq_none_str (bE I q (by simp))
  | _=>exact absurd (show false=true from hs) ft0
 | bl i =>
  cases rx;cases y with
  | non=>cases ry;exact PySem.EqNone.eq_bool_none (bE I q (by simp))
  | bl j=>cases ry;exact eq_bool (bE I q adB)
  | str j=>obtain⟨t',rfl⟩:=ry;exact PySem.EqMixed.eq_bool_str (bE I q (by simp))
  | _=>exact absurd (show false=true from hs) ft0
 | int i =>
  obtain⟨t,rfl⟩:=rx;cases y with
  | non=>cases ry;exact PySem.EqNone.eq_int_none (bE I q (by simp))
  | int j=>obtain⟨t',rfl⟩:=ry;exact eq_int (bE I q zj)
  | str j=>obtain⟨t',rfl⟩:=ry;exact PySem.EqMixed.eq_int_str (bE I q (by simp))
  | _=>exact absurd (show false=true from hs) ft0
 | str i =>
  obtain⟨t,rfl⟩:=rx;cases y with
  | non=>cases ry;exact PySem.EqNone.eq_str_none (bE I q (by simp))
  | bl j=>cases ry;exact PySem.EqMixed.eq_str_bool (bE I q (by simp))
  | int j=>obtain⟨t',rfl⟩:=ry;exact PySem.EqMixed.eq_str_int (bE I q (by simp))
  | str j=>obtain⟨t',rfl⟩:=ry;exact eq_str (bE I q aau)
  | _=>exact absurd (show false=true from hs) ft0
 | byt i =>
  obtain⟨t,rfl⟩:=rx;cases y with
  | byt j=>obtain⟨t',rfl⟩:=ry;exact W.eq_bytes (bE I q zT)
  | _=>exact absurd (show false=true from hs) ft0
 | _=>cases y<;>exact absurd (show false=true from hs) ft0
theorem aka:OpR X (compareOp .NotEq) rNe:=by
 intro pins s σ H x y v u Q I rx ry h;obtain⟨hs,q⟩:=h;cases x with
 | non =>
  cases rx;cases y with
  | non=>cases ry;exact PySem.EqNone.ne_none_none (bE I q (by simp))
  | bl j=>cases ry;exact PySem.EqNone.ne_none_bool (bE I q (by simp))
  | int j=>obtain⟨t',rfl⟩:=ry;exact PySem.EqNone.ne_none_int (bE I q (by simp))
  | str j=>obtain⟨t',rfl⟩:=ry;exact PySem.EqNone.ne_none_str (bE I q (by simp))
  | _=>exact absurd (show false=true from hs) ft0
 | bl i =>
  cases rx;cases y with
  | non=>cases ry;exact PySem.EqNone.ne_bool_none (bE I q (by simp))
  | bl j=>cases ry;exact ne_bool (bE I q (congrArg not adB))
  | str j=>obtain⟨t',rfl⟩:=ry;exact PySem.EqMixed.ne_bool_str (bE I q (by simp))
  | _=>exact absurd (show false=true from hs) ft0
 | int i =>
  obtain⟨t,rfl⟩:=rx;cases y with
  | non=>cases ry;exact PySem.EqNone.ne_int_none (bE I q (by simp))
  | int j=>obtain⟨t',rfl⟩:=ry;exact ne_int (bE I q (congrArg not zj))
  | str j=>obtain⟨t',rfl⟩:=ry;exact PySem.EqMixed.ne_int_str (bE I q (by simp))
  | _=>exact absurd (show false=true from hs) ft0
 | str i =>
  obtain⟨t,rfl⟩:=rx;cases y with
  | non=>cases ry;exact PySem.EqNone.ne_str_none (bE I q (by simp))
  | bl j=>cases ry;exact PySem.EqMixed.ne_str_bool (bE I q (by simp))
  | int j=>obtain⟨t',rfl⟩:=ry;exact PySem.EqMixed.ne_str_int (bE I q (by simp))
  | str j=>obtain⟨t',rfl⟩:=ry;exact ne_str (bE I q (congrArg not aau))
  | _=>exact absurd (show false=true from hs) ft0
 | byt i =>
  obtain⟨t,rfl⟩:=rx;cases y with
  | byt j=>obtain⟨t',rfl⟩:=ry;exact W.ne_bytes (bE I q (congrArg not zT))
  | _=>exact absurd (show false=true from hs) ft0
 | _=>cases y<;>exact absurd (show false=true from hs) ft0
theorem ajI:OpR X (compareOp .Lt) (rI0 λ i j=>.bl (decide (i<j))):=ajy λ _ _ _ _ _ _ _ q=>lt_int q
theorem ako:OpR X (compareOp .LtE) (rI0 λ i j=>.bl (decide (i<=j))):=ajy λ _ _ _ _ _ _ _ q=>le_int q
theorem akq:OpR X (compareOp .Gt) (rI0 λ i j=>.bl (decide (j<i))):=ajy λ _ _ _ _ _ _ _ q=>gt_int q
theorem akp:OpR X (compareOp .GtE) (rI0 λ i j=>.bl (decide (j<=i))):=ajy λ _ _ _ _ _ _ _ q=>ge_int q
theorem ahJ:OpR X (compareOp .Is) (λ x y H Q=>y=.non/\Q (.bl (decide (x=.non))) H):=by
 intro pins s σ H x y v u Q I rx ry h;obtain⟨rfl,q⟩:=h;cases ry;refine is_none_gen (bE I q ?_);cases x<;>first
  | (cases rx;rfl)
  | (obtain⟨t,rfl⟩:=rx;rfl)
theorem afT(ho:OpR X (compareOp op) r)(ha:PE X a ta)(hb:PE X b tb)(hm:behindInMarks op b=false):PE X (.Compare a [op] [b] pos) (tOp r ta tb):=by intro pins s σ H Q I h;exact wpAny_Compare1 (akM ha hb I h λ v u s2 x y H2 I2 rx ry q=>ho pins s2 σ H2 x y v u Q I2 rx ry q) hm
def ajb(t:TE):TT:=λ σ H Q=>t σ H λ x H'=>∃ k,x=.bl k/\Q k H'
theorem aeq(ho:OpR X (compareOp op) r)(ha:PE X a ta)(hb:PE X b tb)(hm:behindInMarks op b=false):PT X (.Compare a [op] [b] pos) (ajb (tOp r ta tb)):=by
 intro pins s σ H Q I h;refine wpAny_isTrue_Compare1 (thn (ha pins s σ H _ I h) λ v s1 ⟨x,H1,I1,r1,q1⟩=>thn (hb pins s1 σ H1 _ I1 q1) λ u s2 ⟨y,H2,I2,r2,q2⟩ =>
  thn (ho pins s2 σ H2 x y v u _ I2 r1 r2 q2) λ c s3 ⟨z,H3,I3,r3,k,e,q3⟩=>?_) hm
 subst e;cases r3;exact wpAny_truthy_bool ⟨H3,I3,q3⟩
theorem oG:(sizeLine:Nat)<2 ^ 63:=by rw[sizeLine_eq];decide
theorem xc:OpR X (binaryOp .Add) (λ x y H Q=>∃ i j,x=.str i/\y=.str j/\i.length+j.length<=sizeLine/\Q (.str (i++j)) H):=by intro pins s σ H x y v u Q I rx ry h;obtain⟨i,j,rfl,rfl,hz,q⟩:=h;obtain⟨t,rfl⟩:=rx;obtain⟨t',rfl⟩:=ry;exact add_str (λ t' tk=>⟨.str (i++j),H,I.tok _,⟨_,rfl⟩,q⟩) hz
theorem vals1(r:Vals [x] us):∃ u,us=[u]/\RelV x u:=by
 cases r with
 | cons r1 r2=>cases r2;exact⟨_,rfl,r1⟩
theorem vals2(r:Vals [x,y] us):∃ u w',us=[u,w']/\RelV x u/\RelV y w':=by
 cases r with
 | cons r1 r2 =>
  cases r2 with
  | cons r3 r4=>cases r4;exact⟨_,_,rfl,r1,r3⟩
theorem acK:dr X (.builtin "abs") (λ xs H Q=>∃ i,xs=[.int i]/\Q (.int (if i<0 then -i else i)) H):=by intro pins s σ H xs us Q I r h;obtain⟨i,rfl,q⟩:=h;obtain⟨u,rfl,t,rfl⟩:=vals1 r;exact call_abs_int λ u tk=>⟨.int (if i<0 then -i else i),H,I.tok _,⟨_,rfl⟩,q⟩
theorem xK(hc:X.calm=true):dr X (.builtin "max") (λ xs H Q=>∃ i j,xs=[.int i,.int j]/\Q (.int (if j > i then j else i)) H):=by
 intro pins s σ H xs us Q I r h;obtain⟨i,j,rfl,q⟩:=h;obtain⟨u,w',rfl,⟨t,rfl⟩,⟨t',rfl⟩⟩:=vals2 r;refine max_two_ints (I.ok.hd hc) λ h' tk k=>⟨_,H,I.kept k,?_,q⟩
 by_cases hj:j > i
 .rw[if_pos hj,if_pos hj];exact⟨_,rfl⟩
 .rw[if_neg hj,if_neg hj];exact⟨_,rfl⟩
theorem zz:dr X (.type "int") (λ xs H Q=>(∃ i,xs=[.int i]/\Q (.int i) H)\/∃ k,xs=[.bl k]/\Q (.int (if k then 1 else 0)) H):=by
 intro pins s σ H xs us Q I r h;rcases h with ⟨i,rfl,q⟩ | ⟨k,rfl,q⟩
 .obtain⟨u,rfl,t,rfl⟩:=vals1 r;exact call_int_int ⟨.int i,H,I,⟨_,rfl⟩,q⟩
 .obtain⟨u,rfl,r1⟩:=vals1 r;cases r1;exact call_int_bool ⟨.int (if k then 1 else 0),H,I.tok _,⟨_,rfl⟩,q⟩
def ali(K:FG)(x:V)(H:Hp)(n:Nat):Prop:=
 match x with
 | .str y=>y.length<=sizeLine/\n=y.length
 | .byt y=>y.size<=sizeLine/\n=y.size
 | .ref p=>(∃ xs,SqL K H p xs/\n=xs.length)\/∃ xs,SqT K H p xs/\n=xs.length
 | _=>False
theorem abh:dr X (.builtin "len") (λ xs H Q=>∃ x n,xs=[x]/\ali X.K x H n/\Q (.int n) H):=by
 intro pins s σ H xs us Q I r h;obtain⟨x,n,rfl,e,q⟩:=h;obtain⟨u,rfl,rx⟩:=vals1 r;have hl:=oG;have hs:sizeLine=16777216:=sizeLine_eq;cases x with
 | str y =>
  obtain⟨t,rfl⟩:=rx;obtain⟨hy,e'⟩:y.length<=sizeLine/\n=y.length:=e;subst e';exact len_str (by omega) ⟨.int _,H,I.tok _,⟨_,rfl⟩,q⟩
 | byt y =>
  obtain⟨t,rfl⟩:=rx;obtain⟨hy,e'⟩:y.size<=sizeLine/\n=y.size:=e;subst e';exact W.len_bytes (by omega) ⟨.int _,H,I.tok _,⟨_,rfl⟩,q⟩
 | ref p =>
  cases rx;have e':(∃ xs,SqL X.K H p xs/\n=xs.length)\/∃ xs,SqT X.K H p xs/\n=xs.length:=e;rcases e' with ⟨xs,hx,e'⟩ | ⟨xs,hx,e'⟩
  .subst e';obtain⟨its,r',pl,hz⟩:=I.list hx;have hlen:=r'.length;exact Calls.call_len_list pl.isList (by simp only[List.size_toArray];omega) ⟨.int xs.length,H,I.tok _,⟨_,by simp only[List.size_toArray];rw[hlen]⟩,q⟩
  .subst e';obtain⟨its,r',pl,hz⟩:=I.tuple hx;have hlen:=r'.length;exact len_tuple pl (by simp only[List.size_toArray];omega) ⟨.int xs.length,H,I.tok _,⟨_,by simp only[List.size_toArray];rw[hlen]⟩,q⟩
 | _=>exact(show False from e).elim
structure afW(h:Heap)(x dx C:Addr)(mA:Str->Option Value):Prop where
 obj:h.get? x=some (W.instObj C dx)
 ns:h.Ns1 dx mA
 ne:dx≠x
theorem yL{h:Heap}{dx:Addr}{mA:Str->Option Value}(n:h.Ns1 dx mA):∃ od,h.get? dx=some od/\∀ name,W.lookIn name od=some (mA name):=by
 obtain⟨o,es,ep,ho,hd,hk,_,hm⟩:=n;refine⟨o,ho,λ name=>?_⟩;have e:=hm name;unfold nsFind findBy at e;rw[<- Array.find?_toList] at e;unfold W.lookIn;rw[hd];dsimp only
 split
 .rename_i y q
  rw[q] at e;exact congrArg some e
 .rename_i q
  rw[q] at e;have a:es.toList.any (·.refKey)=false:=by rw[List.any_eq_false];intro y hy;obtain⟨z,t,hkey⟩:=hk y (Array.mem_toList_iff.mp hy);simp[DictEntry.refKey,hkey]
  have a':¬ es.toList.any (·.refKey)=true:=by rw[a];exact ft0
  rw[if_neg a'];exact congrArg some e
theorem afW.look(I:afW h x dx C mA):∃ od,W.InstAt h x (W.instObj C dx) C (some od)/\∀ name,W.lookIn name od=some (mA name):=
 let ⟨od,ho,hl⟩:=yL I.ns
 ⟨od,⟨I.obj,rfl,rfl,ho⟩,hl⟩
section
variable {prog:Program}{w:World}{A:Around}{E:VP}{s:Shared}{K:FG}{x dx C f:Addr}{mA:Str->Option Value}{name:Str}{v:Value}
theorem get_map(X:K.In s.heap)(I:afW s.heap x dx C mA)(hg:W.plainGet K C name=true)(hh:W.hasDictIn K C=true)
  (ha:W.findIn K (.ref C) name=some none)(hv:mA name=some v)(hv':W.handedIn v=true)(h:Q v {s with toks:=s.toks+1}) :
  wpAny (model prog w) A (getAttr (.ref x) name expr) Q E s:=by
 obtain⟨od,J,hl⟩:=I.look;exact W.get_value X J (W.plainGet_of hg).1 (W.findObj_own hh ha rfl (by rw[hl,hv])) hv' h
theorem abv(X:K.In s.heap)(I:afW s.heap x dx C mA)(hg:W.plainGet K C name=true)
  (hf:W.findIn K (.ref C) name=some (some (.ref f)))(ht:W.isFn K (.ref f)=true)(hv:mA name=none)(h:Q (.ref f,[.ref x]) s) :
  wpAny (model prog w) A (getMethod (.ref x) name pl) Q E s:=by
 obtain⟨od,J,hl⟩:=I.look;exact W.method_fn X J (W.plainGet_of hg).1 (W.plainGet_of hg).2 hf (beq_iff_eq.mp ht) (by show(W.lookIn name od).map (·.isSome)=some false;rw[hl,hv];rfl) h
theorem ad9(X:K.In s.heap)(I:afW s.heap x dx C mA)
  (hs:W.findIn K (.ref C) "__setattr__" = some (some (.builtin "object.__setattr__")))(hp:W.plainOver K C=true)(ht:W.takerIn K C name=some none)(hh:W.hasDictIn K C=true)
  (hw:PySem.Within mA ns)(hsz:ns.length<=sizeLine)
  (h:∀ h',afW h' x dx C (λ y=>if y=name then some v else mA y)->Heap.SameBut dx s.heap h'->Q () {s with heap:=h',toks:=s.toks+2}) :
  wpAny (model prog w) A (setAttr (.ref x) name v) Q E s:=by
 obtain⟨od,J,hl⟩:=I.look;refine W.set_plain X J hs (W.osa_open (s:={s with toks:=s.toks+1}) (r:=none) X J hp ht λ b=>?_);obtain⟨cd,hc,hd'⟩:=W.any_some hh;have hx:s.heap.get? x=some ⟨.ref C,some dx,.plain,#[]⟩:=I.obj;refine wb0 (wp (wb0 (wb0 (wpAny_loadPart hx (wb0 (W.Looks.here (s:={s with toks:=s.toks+1}) (W.looks_clsIn X hc) ?_))))));rw[hd'];refine wp (a:=some dx) (wb0 (wp (wb0 ?_)));refine wpAny_nsSet1 (s:={s with toks:=s.toks+1}) I.ns λ h' hn2 hs2=>?_;obtain⟨oD,esD,epD,hoD,hdD,hcD⟩:=hn2.count (PySem.Within.cons name v hw);refine wb0 (wpAny_lookBehind hoD (by rw[hdD];exact pastItsLine_dict (Nat.le_trans hcD (by rw[List.length_cons];omega))) ?_);exact wp (h _ ⟨(hs2.2 _ (Ne.symm I.ne)).trans I.obj,hn2,I.ne⟩ hs2)
theorem acF(X:K.In s.heap)(hm:W.makesIn K C=true)
  (hi:W.findIn K (.ref C) "__init__" = some (some (.ref f)))(hf:W.typeIn K (.ref f)=some (.type "function"))
  (h:codeAny (model prog w) (A.under (.builtin "type.__call__" ⟨.ref C::vs,kw⟩)) (.call (.ref f) ⟨.ref (s.heap.objs.size+1)::vs,kw⟩) (W.InitBack (s.heap.objs.size+1) R)
   {s with heap:=(s.heap.push W.emptyDict).push (W.instObj C s.heap.objs.size)}) :
  codeAny (model prog w) A (.call (.ref C) ⟨vs,kw⟩) R s:=by
 obtain⟨hh,g,d,t,os⟩:=s;exact W.make_core (W.makes_of X hm) (W.looks_findIn X hi) (λ self=>W.bind_fn X self hf) (.inl rfl) h
end
def ni(f:Str)(v:V):List (Str×V)->List (Str×V)
 | []=>[(f,v)]
 | (g,x)::r=>if g=f then (g,v)::r else (g,x)::ni f v r
theorem lx(f g:Str)(v:V):∀ fs:List (Str×V),(ni f v fs).lookup g=if g=f then some v else fs.lookup g
 | []=>by
  show List.lookup g [(f,v)]=_
  by_cases h:g=f
  .have hb:(g==f)=true:=beq_iff_eq.mpr h;simp only[List.lookup,hb,if_pos h]
  .have hb:(g==f)=false:=beq_eq_false_iff_ne.mpr h;simp only[List.lookup,hb,if_neg h]
 | (k,x)::r=>by
  have ih:=lx f g v r;rw[show ni f v ((k,x)::r)=(if k=f then (k,v)::r else (k,x)::ni f v r) from rfl]
  by_cases hk:k=f
  .rw[if_pos hk]
   by_cases h:g=k
   .have hb:(g==k)=true:=beq_iff_eq.mpr h;simp only[List.lookup,hb,if_pos (h.trans hk)]
   .have hb:(g==k)=false:=beq_eq_false_iff_ne.mpr h;simp only[List.lookup,hb,if_neg (λ e:g=f=>h (e.trans hk.symm))]
  .rw[if_neg hk]
   by_cases h:g=k
   .have hb:(g==k)=true:=beq_iff_eq.mpr h;simp only[List.lookup,hb,if_neg (λ e:g=f=>hk (h.symm.trans e))]
   .have hb:(g==k)=false:=beq_eq_false_iff_ne.mpr h;simp only[List.lookup,hb];exact ih
theorem lL(f:Str)(v:V):∀ fs:List (Str×V),f∈(ni f v fs).map (·.1)/\∀ g,g∈fs.map (·.1)->g∈(ni f v fs).map (·.1)
 | []=>⟨by simp[ni],λ g h=>by simp at h⟩
 | (k,x)::r=>by
  obtain⟨i1,i2⟩:=lL f v r;rw[show ni f v ((k,x)::r)=(if k=f then (k,v)::r else (k,x)::ni f v r) from rfl]
  by_cases hk:k=f
  .rw[if_pos hk];subst hk;exact⟨by simp,λ g h=>by simpa using h⟩
  .rw[if_neg hk];refine⟨?_,λ g h=>?_⟩
   .rw[List.map_cons];exact List.mem_cons_of_mem _ i1
   .rw[List.map_cons] at h ⊢;rcases List.mem_cons.mp h with e | e
    .exact List.mem_cons.mpr (.inl e)
    .exact List.mem_cons_of_mem _ (i2 g e)
theorem lM(f:Str)(v:V):∀ fs:List (Str×V),(ni f v fs).length<=fs.length+1
 | []=>by simp[ni]
 | (k,x)::r=>by
  have ih:=lM f v r;rw[show ni f v ((k,x)::r)=(if k=f then (k,v)::r else (k,x)::ni f v r) from rfl]
  by_cases hk:k=f
  .rw[if_pos hk,List.length_cons,List.length_cons];omega
  .rw[if_neg hk,List.length_cons,List.length_cons];omega
theorem qP.some_of(r:qP (some v) o):∃ u,o=some u/\RelV v u:=by
 cases o with
 | none=>exact(show False from r).elim
 | some u=>exact⟨u,rfl,r⟩
theorem qP.none_of(r:qP none o):o=none:=by
 cases o with
 | none=>rfl
 | some u=>exact(show False from r).elim
theorem xM(r:RelV v u):W.handedIn u=true:=by
 cases v with
 | non=>cases (show u=Value.none from r);rfl
 | bl b=>cases (show u=Value.bool b from r);rfl
 | int i=>obtain⟨t,e⟩:=(show ∃ t,u=Value.int i t from r);cases e;rfl
 | str x=>obtain⟨t,e⟩:=(show ∃ t,u=Value.str x t from r);cases e;rfl
 | byt b=>obtain⟨t,e⟩:=(show ∃ t,u=Value.bytes b t from r);cases e;rfl
 | flt b=>obtain⟨t,e⟩:=(show ∃ t,u=Value.float b t from r);cases e;rfl
 | ref a=>cases (show u=Value.ref a from r);rfl
 | ty n=>cases (show u=Value.type n from r);rfl
theorem tS(hok:HOk P w H h)(e:H a=some (.ins C dx fs)):∃ mA,afW h a dx C mA/\(∀ f,qP (fs.lookup f) (mA f))/\PySem.Within mA (fs.map (·.1))/\fs.length<=1000/\H dx=some (.own a):=by obtain⟨d,z,ne,ob,mA,n,r,q⟩:=(show cF P w H h a (.ins C dx fs) from hok a _ e);exact⟨mA,⟨ob,n,ne⟩,r,q,z,d⟩
structure Cls(K:FG)(C:Addr):Prop where
 pg:W.plainGet K C Str.empty=true
 hd:W.hasDictIn K C=true
 po:W.plainOver K C=true
 sa:W.findIn K (.ref C) "__setattr__" = some (some (.builtin "object.__setattr__"))
theorem Cls.get{K:FG}{C:Addr}(c:Cls K C)(f:Str):W.plainGet K C f=true:=c.pg
def cf(K:FG)(C:Addr)(f:Str):Prop:=W.findIn K (.ref C) f=some none
theorem cf.ajQ{K:FG}{C:Addr}{f:Str}(n:cf K C f):W.takerIn K C f=some none:=by
 unfold W.takerIn;rw[show W.findIn K (.ref C) f=some none from n];rfl
structure Meth(K:FG)(C:Addr)(m:Str)(f:Addr):Prop where
 at_:W.findIn K (.ref C) m=some (some (.ref f))
 fn:W.isFn K (.ref f)=true
 kp:W.keepIn K (.ref f)=true
theorem oj(I:Inv X pins σ H s)(e:H a=some (.ins C dx fs))(c:Cls X.K C)(n:cf X.K C f)(l:fs.lookup f=some v)
  (h:∀ u s',Inv X pins σ H s'->RelV v u->Q u s'):wpAny (model X.prog X.w) A (getAttr (.ref a) f b) Q E s:=by
 obtain⟨mA,O,r,_,_,_⟩:=tS I.hok e;obtain⟨u,hu,ru⟩:=qP.some_of (v:=v) (o:=mA f) (by rw[<- l];exact r f);exact get_map I.kIn O (c.get f) c.hd n hu (xM ru) (h u _ (I.tok _) ru)
theorem ow(I:Inv X pins σ H s)(e:H a=some (.ins C dx fs))(c:Cls X.K C)(k:Meth X.K C m g)(l:fs.lookup m=none)
  (h:Q (.ref g,[.ref a]) s):wpAny (model X.prog X.w) A (getMethod (.ref a) m pl) Q E s:=by
 obtain⟨mA,O,r,_,_,_⟩:=tS I.hok e;have hn:mA m=none:=qP.none_of (by rw[<- l];exact r m);exact abv I.kIn O (c.get m) k.at_ k.fn hn h
theorem nP(I:Inv X pins σ H s)(e:H a=some (.ins C dx fs))(c:Cls X.K C)(n:cf X.K C f)(hl:fs.length<1000)(ry:RelV y u)
  (h:∀ s',Inv X pins σ (upd H a (.ins C dx (ni f y fs))) s'->Q () s'):wpAny (model X.prog X.w) A (setAttr (.ref a) f u) Q E s:=by
 obtain⟨mA,O,r,wi,_,ho⟩:=tS I.hok e;have hz:(fs.map (·.1)).length<=sizeLine:=by rw[lm,sizeLine_eq];omega
 refine ad9 I.kIn O c.sa c.po n.ajQ c.hd wi hz λ h' O' sb=>h _ ?_;have hd:∃ o,h'.get? dx=some o:=let ⟨o,_,_,e',_⟩:=O'.ns; ⟨o,e'⟩;refine I.write (x:=a) (e:=dx) (by rw[e];exact True.intro) (.inr ho) (λ b q hb z=>(sb.2 b hb).trans z) hd ?_;refine⟨by rw[ai O.ne];exact ho,?_,O.ne,O'.obj,_,O'.ns,λ g=>?_,λ g hg=>?_⟩
 .have:=lM f y fs;omega
 .show qP ((ni f y fs).lookup g) (if g=f then some u else mA g);rw[lx]
  by_cases q:g=f
  .rw[if_pos q,if_pos q];exact ry
  .rw[if_neg q,if_neg q];exact r g
 .by_cases q:g=f
  .rw[q];exact(lL f y fs).1
  .refine(lL f y fs).2 g (wi g λ z=>hg ?_);show(if g=f then some u else mA g)=none;rw[if_neg q];exact z
theorem Inv.made(I:Inv X pins σ H s):Inv X pins σ (upd (upd H s.heap.objs.size (.own (s.heap.objs.size+1))) (s.heap.objs.size+1) (.ins C s.heap.objs.size []))
  {s with heap:=(s.heap.push W.emptyDict).push (W.instObj C s.heap.objs.size)}:=by
 have e1:(s.heap.push W.emptyDict).get? s.heap.objs.size=some W.emptyDict:=Heap.get?_push_size s.heap rfl;have e2:((s.heap.push W.emptyDict).push (W.instObj C s.heap.objs.size)).get? (s.heap.objs.size+1)=some (W.instObj C s.heap.objs.size):=by
  have:=Heap.get?_push_size (s.heap.push W.emptyDict) (o:=W.instObj C s.heap.objs.size) rfl
  rwa[Heap.size_push] at this
 have e3:(s.heap.push W.emptyDict).Ns s.heap.objs.size (λ _=>none):=⟨W.emptyDict,#[],_,e1,rfl,(λ e he=>absurd he (by simp)),λ _=>rfl⟩;have I1:=I.laid (a:=s.heap.objs.size) (o:=.own (s.heap.objs.size+1)) (h':=s.heap.push W.emptyDict) (t':=s.toks) (λ b u q=>Heap.get?_push_of_some _ q) (lr0 _) ⟨_,e1⟩;refine I1.laid (a:=s.heap.objs.size+1) (o:=.ins C s.heap.objs.size []) (t':=s.toks) (λ b u q=>Heap.get?_push_of_some _ q) (Nat.le_of_eq (Heap.size_push _ _)) ?_;have ne:s.heap.objs.size≠s.heap.objs.size+1:=Nat.ne_of_lt (Nat.lt_succ_self _);refine⟨by rw[ai ne,aj],Nat.zero_le _,ne,e2,λ _=>none,(Heap.Ns1.of_empty e3).at λ o q=>Heap.get?_push_of_some _ q,λ _=>True.intro,λ y hy=>absurd rfl hy⟩
theorem agv(hb:attributeBase e f env (eval e env)=eval e env)
  (h:wpAny (model prog w) A (eval e env) (λ o s₁=>wpAny (model prog w) A (getAttr o f true) Q E s₁) E s):wpAny (model prog w) A (eval (.Attribute e f pos) env) Q E s:=
 Attribute_any_ h (by rw[arm_eval_Attribute,hb])
def alY(K:FG)(ta:TE)(f:Str):TE:=λ σ H Q=>ta σ H λ x H1=>∃ a C dx fs v,x=.ref a/\H1 a=some (.ins C dx fs)/\Cls K C/\cf K C f/\fs.lookup f=some v/\Q v H1
def alu(K:FG)(ta tv:TE)(f:Str):TS:=λ D σ H=>tv σ H λ y H1=>ta σ H1 λ x H2=>∃ a C dx fs,x=.ref a/\H2 a=some (.ins C dx fs)/\Cls K C/\cf K C f/\fs.length<1000 /\
 D.nx σ (upd H2 a (.ins C dx (ni f y fs)))
def al0(X:Cx)(op:Operator)(rd:V->V->Hp->VK->Prop):Prop:=
 ∀ (pins:PN) (s:Shared) (σ:St) (H:Hp) (x y:V) (u v:Value) (Q:VK),Inv X pins σ H s->RelV x u->RelV y v->rd x y H Q->wpAny (model X.prog X.w) X.A (inplaceOp op u v) (EP X pins σ Q) X.xe s
def aer(K:FG)(ta tv:TE)(rd:V->V->Hp->VK->Prop)(f:Str):TS:=λ D σ H=>ta σ H λ x H1=>∃ a C dx fs v,x=.ref a/\H1 a=some (.ins C dx fs)/\Cls K C/\cf K C f/\fs.lookup f=some v /\
 tv σ H1 λ y H2=>rd v y H2 λ z H3=>∃ dx' fs',H3 a=some (.ins C dx' fs')/\fs'.length<1000/\D.nx σ (upd H3 a (.ins C dx' (ni f z fs')))
theorem ahV(he:PE X e ta)(hb:attributeBase e f X.env (eval e X.env)=eval e X.env):PE X (.Attribute e f pos) (alY X.K ta f):=by intro pins s σ H Q I h;refine agv hb (thn (he pins s σ H _ I h) λ u s1 hq19=>?_);obtain⟨x,H1,I1,rx,a,C,dx,fs,v,ex,ea,c,n,l,q⟩:=hq19;subst ex;obtain rfl:u=Value.ref a:=rx;exact oj I1 ea c n l λ u' s2 I2 ru=>⟨v,H1,I2,ru,q⟩
theorem aht(ha:PE X o ta)(hv:PE X value tv)(hs:swapsWith value (some (.Attribute o f pos')) pos.line X.env=pure false):PS X (.Assign [.Attribute o f pos'] value pos) (alu X.K ta tv f):=by intro pins s σ H D I h;refine plainObj_wpAny_Assign_Attribute (thn (hv pins s σ H _ I h) λ u s1 ⟨y,H1,I1,ry,q⟩=>thn (ha pins s1 σ H1 _ I1 q) λ ov s2 ⟨x,H2,I2,rx,a,C,dx,fs,ex,ea,c,n,l,q2⟩=>?_) hs;subst ex;obtain rfl:ov=Value.ref a:=rx;exact nP I2 ea c n l ry λ s3 I3=>⟨σ,_,I3,q2⟩
theorem yS(ha:PE X o ta)(hv:PE X value tv)(hop:al0 X op rd):PS X (.AugAssign (.Attribute o f tpos) op value pos) (aer X.K ta tv rd f):=by intro pins s σ H D I h;refine wpAny_AugAssign_AttributeAny (thn (ha pins s σ H _ I h) λ ov s1 hq20=>?_);obtain⟨x,H1,I1,rx,a,C,dx,fs,v,ex,ea,c,n,l,q⟩:=hq20;subst ex;obtain rfl:ov=Value.ref a:=rx;refine oj I1 ea c n l λ u s2 I2 ru=>thn (hv pins s2 σ H1 _ I2 q) λ w3 s3 ⟨y,H2,I3,ry,q3⟩=>thn (hop pins s3 σ H2 v y u w3 _ I3 ru ry q3) λ w4 s4 hq21=>?_;obtain⟨z,H3,I4,rz,dx',fs',ea',l',q4⟩:=hq21;exact nP I4 ea' c n l' rz λ s5 I5=>⟨σ,_,I5,q4⟩
structure cI(k:Nat)(A:Around):Prop where
 hd:A.handled=none
 gd:A.guards=some []
 dp:A.depth+3 * k+5<recursionLimit
 un:A.units+16 * k+200<cLine
theorem cI.mono(r:cI k A)(h:j<=k):cI j A:=⟨r.hd,r.gd,by have:=r.dp;omega,by have:=r.un;omega⟩
theorem cI.deeper(r:cI (k+1) A)(env:Env):cI k (A.deeper env):=
 ⟨r.hd,r.gd,by have:=r.dp;show A.depth+1+3 * k+5<_;omega,by have:=r.un;show A.units+3+16 * k+200<_;omega⟩
theorem cI.in1(r:cI (k+1) A):cI k A.in1:=
 ⟨r.hd,r.gd,by have:=r.dp;show A.depth+3 * k+5<_;omega,by have:=r.un;show A.units+1+16 * k+200<_;omega⟩
theorem xq{A:Around}{C:Addr}{us:List Value}{kw:List (Str×Value)}:(A.under (.builtin "type.__call__" ⟨.ref C::us,kw⟩)).depth=A.depth+1:=by
 first | rfl | simp[Around.under,Code.weight,Code.isCreation,Code.isGuard,Code.isCaller,Code.frames,Code.isFrame,guardIds]
theorem vV{A:Around}{C:Addr}{us:List Value}{kw:List (Str×Value)}:(A.under (.builtin "type.__call__" ⟨.ref C::us,kw⟩)).units=A.units+1:=by
 first | rfl | simp[Around.under,Code.cUnits,Code.frames,Code.isFrame]
theorem cI.make(r:cI (k+1) A)(C:Addr)(us:List Value)(kw:List (Str×Value)):cI k (A.under (.builtin "type.__call__" ⟨.ref C::us,kw⟩)):=
 ⟨r.hd,(by first | exact r.gd | (simpa [Around.under,Code.isGuard,Code.frames,Code.isFrame,guardIds] using r.gd)),by have:=r.dp;rw[xq];omega,by have:=r.un;rw[vV];omega⟩
theorem cI.depth(r:cI k A):A.depth<recursionLimit:=by have:=r.dp;omega
theorem cI.units(r:cI k A):A.units+64<cLine:=by have:=r.un;omega
def adS:TA:=λ _ H Q=>Q [] H
def zV(ta:TE)(tr:TA):TA:=λ σ H Q=>ta σ H λ x H1=>tr σ H1 λ xs H2=>Q (x::xs) H2
theorem aan:PA X [] adS:=λ _ _ _ _ H Q I h=>Calls.spliced_nil ⟨[],H,I,.nil,h⟩
theorem uc(ha:PE X e te)(hr:PA X es t)(hs:starEach (e::es) X.env=(false,eval e X.env)::starEach es X.env:=by rfl):PA X (e::es) (zV te t):=by intro pos pins s σ H Q I h;rw[hs];show wpAny _ _ (spliced ((false,eval e X.env)::backTo pos (starEach es X.env))) _ _ s;refine Calls.spliced_cons (thn (ha pins s σ H _ I h) λ u s1 hq22=>?_);obtain⟨x,H1,I1,r1,q1⟩:=hq22;exact thn (hr pos pins s1 σ H1 _ I1 q1) λ us s2 ⟨xs,H2,I2,r2,q2⟩=>⟨x::xs,H2,I2,.cons r1 r2,q2⟩
def alV(t:TA):TE:=λ σ H Q=>t σ H λ xs H1=>xs.length<=sizeLine/\∀ p,H1 p=none->Q (.ref p) (upd H1 p (.tup xs))
def aly(t:TA):TE:=λ σ H Q=>t σ H λ xs H1=>xs.length<=sizeLine/\∀ p,H1 p=none->Q (.ref p) (upd H1 p (.lst xs))
theorem uC{x1}(h:PA X es t):PE X (.Tuple es x1 pos) (alV t):=by intro pins s σ H Q I hq;refine wpAny_Tuple_spliced (thn (h pos pins s σ H _ I hq) λ us s1 ⟨xs,H1,I1,r,z,q⟩=>⟨by rw[<- r.length];exact z,?_⟩);have hf:H1 s1.heap.objs.size=none:=I1.hok.fresh (lr0 _);refine⟨.ref s1.heap.objs.size,upd H1 s1.heap.objs.size (.tup xs),I1.laid (t':=s1.toks) (λ b u e=>Heap.get?_push_of_some _ e) (lr0 _) ?_,rfl,q _ hf⟩;exact⟨z,us,r,abE.new _ _⟩
theorem acY(h:PA X es t):PE X (.List es pos) (aly t):=by intro pins s σ H Q I hq;refine wpAny_List_spliced (thn (h pos pins s σ H _ I hq) λ us s1 ⟨xs,H1,I1,r,z,q⟩=>⟨by rw[<- r.length];exact z,?_⟩);have hf:H1 s1.heap.objs.size=none:=I1.hok.fresh (lr0 _);refine⟨.ref s1.heap.objs.size,upd H1 s1.heap.objs.size (.lst xs),I1.laid (t':=s1.toks) (λ b u e=>Heap.get?_push_of_some _ e) (lr0 _) ?_,rfl,q _ hf⟩;exact⟨z,us,0,r,Heap.get?_push_size _ rfl⟩
abbrev Sp:=List V->Hp->VK->XK->Prop
abbrev CXT:=List Env->Hp->Shared->XK->VP
structure aex(P:Program)(w:World)(K:FG)(mg:Str->Option Value)(base:Heap)(A:Around)(outer:List Env)(s:Shared)(H:Hp):Prop where
 frames:A.frames=some outer
 mod:Mod K mg base
 bs:∀ b o,base.get? b=some o->s.heap.get? b=some o/\H b=none
 bsz:base.objs.size<=s.heap.objs.size
 sE:s.heap.FunFrames base outer
 frf:∀ b∈frs outer,H b=none
 hok:HOk P w H s.heap
 bare:AllBare s.gens
def CE(outer:List Env)(P:Program)(w:World)(H:Hp)(s:Shared)(Q:VK)(u:Value)(s':Shared):Prop:=
 ∃ v H',s'.os=s.os/\AllBare s'.gens/\Un (frs outer) [] H H' s.heap s'.heap/\HOk P w H' s'.heap/\RelV v u/\Q v H'
def CR(CX:CXT)(outer:List Env)(P:Program)(w:World)(H:Hp)(s:Shared)(Q:VK)(E:XK)(r:Result)(s':Shared):Prop:=
 match r with
 | .ok (.ret u)=>CE outer P w H s Q u s'
 | .ok _=>False
 | .error e=>CX outer H s E e s'
structure ck(P:Program)(w:World)(K:FG)(mg:Str->Option Value)(base:Heap)(CX:CXT)(k:Nat)(f:Addr)(fd:FuncData)(ps:List Str)(sp:Sp):Prop where
 len:∀ vs H Q E,sp vs H Q E->vs.length=ps.length
 run:∀ (A:Around) (outer:List Env) (s:Shared) (H:Hp) (args:Args) (us:List Value) (vs:List V) (Q:VK) (E:XK),cI k A->aex P w K mg base A outer s H->BindsTo s fd args (ps.zip us)->Vals vs us->sp vs H Q E ->
  codeAny (model P w) A (.call (.ref f) args) (CR CX outer P w H s Q E) s
theorem aex.make{P:Program}{w:World}{K:FG}{mg:Str->Option Value}{base:Heap}{A:Around}{outer:List Env}{s:Shared}{H:Hp}(e:aex P w K mg base A outer s H)(C:Addr)(us:List Value)(kw:List (Str×Value)) :
  aex P w K mg base (A.under (.builtin "type.__call__" ⟨.ref C::us,kw⟩)) outer s H:=⟨by first | exact e.frames | (simpa [Around.under,Code.envs,Code.isFrame,pushEnvs] using e.frames),e.mod,e.bs,e.bsz,e.sE,e.frf,e.hok,e.bare⟩
theorem Inv.ak1(I:Inv X pins σ H s):aex X.prog X.w X.K X.mg X.base X.A X.stack s H:=
 ⟨I.ok.frames,I.ok.mod,I.bs,Nat.le_trans I.ok.bsz I.sz,I.stack,I.sR,I.hok,I.bare⟩
theorem Inv.after(I:Inv X pins σ H s)(h:CE X.stack X.prog X.w H s Q u s'):EP X pins σ Q u s':=by obtain⟨v,H',os,bare,un,hok,r,q⟩:=h;obtain⟨hh,g,d,t,os'⟩:=s';obtain rfl:os'=s.os:=os;exact⟨v,H',I.call (h':=hh) (g':=g) (d':=d) (t':=t) (ch:=[]) un hok bare (λ b z=>absurd z (by simp)),r,q⟩
def aj6(sp:Sp)(dvs:List V)(E:XK)(t:TA):TE:=λ σ H Q=>t σ H λ vs H1=>sp (vs++dvs) H1 Q E
def agc(C:Addr)(m:Str)(sp:Sp)(dvs:List V)(E:XK)(ta:TE)(t:TA):TE:=λ σ H Q=>ta σ H λ x H1=>∃ a dx fs,x=.ref a/\H1 a=some (.ins C dx fs)/\fs.lookup m=none /\
 t σ H1 λ vs H2=>sp (x::(vs++dvs)) H2 Q E
def aip(C:Addr)(sp:Sp)(dvs:List V)(E:XK)(t:TA):TE:=λ σ H Q=>t σ H λ vs H1=>∀ x dx,H1 x=none->H1 dx=none->dx≠x ->
 sp (.ref x::(vs++dvs)) (upd (upd H1 dx (.own x)) x (.ins C dx [])) (λ v H2=>v=.non/\Q (.ref x) H2) E
def Binds(K:FG)(fd:FuncData)(ps:List Str)(ds:List Value):Prop:=
 ∀ (s:Shared) (us:List Value),K.In s.heap->(us++ds).length=ps.length->BindsTo s fd ⟨us,[]⟩ (ps.zip (us++ds))
theorem Binds.all{K:FG}{fd:FuncData}{ps:List Str}(h:∀ us:List Value,us.length=ps.length->bindArgs fd ⟨us,[]⟩=pure (ps.zip us)):Binds K fd ps []:=λ s us _ hl=>by rw[List.append_nil] at hl ⊢;exact .of_eq (h us hl)
def Passes(CX:CXT)(X:Cx)(E:XK):Prop:=∀ (pins:PN) (σ:St) (H:Hp) (s:Shared) (e:Value) (s':Shared),Inv X pins σ H s->CX X.stack H s E e s'->X.xe e s'
theorem aah(F:ck X.prog X.w X.K X.mg X.base CX k f fd ps sp)(hr:cI k X.A)(hb:Binds X.K fd ps ds)(hd:Vals dvs ds)(hx:Passes CX X E)
  (I:Inv X pins σ H s)(r:Vals vs us)(h:sp (vs++dvs) H Q E):wpAny (model X.prog X.w) X.A (call (.ref f) us) (EP X pins σ Q) X.xe s:=by
 have r2:Vals (vs++dvs) (us++ds):=r.append hd;have hl:(us++ds).length=ps.length:=by rw[<- r2.length];exact F.len _ _ _ _ h
 refine wpAny_call (codeAny_mono (F.run X.A X.stack s H ⟨us,[]⟩ (us++ds) (vs++dvs) Q E hr I.ak1 (hb s us I.kIn hl) r2 h) λ r s' hq=>?_);cases r with
 | error e=>exact hx pins σ H s e s' I hq
 | ok fl =>
  cases fl with
  | ret u=>exact I.after hq
  | next=>exact False.elim hq
  | brk=>exact False.elim hq
  | cont=>exact False.elim hq
theorem aeD(F:ck X.prog X.w X.K X.mg X.base CX k f fd ps sp)(hr:cI k X.A)(hg:Gl X x)(hm:X.mg x=some (.ref f))(hk:W.keepIn X.K (.ref f)=true)(hb:Binds X.K fd ps ds)(hd:Vals dvs ds)(hx:Passes CX X E)
  (ha:PA X (e::es) t)(hdb:ND x:=by decide)(he:starEach (e::es) X.env=(false,eval e X.env)::starEach es X.env:=by rfl)(hpl:(backTo pos (starEach es X.env)).any (·.1)=false:=by rfl) :
  PE X (.Call (.Name x p) (e::es) [] pos) (aj6 sp dvs E t):=by
 intro pins s σ H Q I h;refine wpAny_Call_Name_kw (tE I hg hm ?_ hdb);refine W.callWith_K (h₀:=X.base) I.ok.mod.kin hk (thn (ha pos pins s σ H _ I h) λ us s1 ⟨vs,H1,I1,r,q⟩=>⟨I1.kIn,?_⟩) he hpl;exact aah F hr hb hd hx I1 r q
theorem ae6(he:PE X o ta)(c:Cls X.K C)(hm:Meth X.K C m f)(F:ck X.prog X.w X.K X.mg X.base CX k f fd ps sp)(hr:cI k X.A)(hb:Binds X.K fd ps ds)(hd:Vals dvs ds)(hx:Passes CX X E)(ha:PA X (e::es) t)
  (hst:starEach (e::es) X.env=(false,eval e X.env)::starEach es X.env:=by rfl)(hpl:(backTo pos (starEach es X.env)).any (·.1)=false:=by rfl)
  (ht:eval (.Call (.Attribute o m apos) (e::es) [] pos) X.env=(do
   let ov <- eval o X.env
   standAt apos.atName
   let (f,first) <- holding [ov] (getMethod ov m pl)
   callWith pos f first (backTo pos (starEach (e::es) X.env)) (backToKw pos (keywordEach [] X.env))):=by rfl) :
  PE X (.Call (.Attribute o m apos) (e::es) [] pos) (agc C m sp dvs E ta t):=by
 intro pins s σ H Q I h;refine W.methodCall_KW (pl:=pl) (thn (he pins s σ H _ I h) λ u s1 ⟨x,H1,I1,rx,a,dx,fs,ex,ea,l,q⟩=>?_) ht;subst ex;obtain rfl:u=Value.ref a:=rx;refine ow I1 ea c hm l ?_;refine W.callWith_K (first:=[.ref a]) (h₀:=X.base) I.ok.mod.kin hm.kp (thn (ha pos pins s1 σ H1 _ I1 q) λ us s2 ⟨vs,H2,I2,r,q2⟩=>⟨I2.kIn,?_⟩) hst hpl
 exact aah (us:=.ref a::us) (vs:=.ref a::vs) F hr hb hd hx I2 (.cons rfl r) q2
theorem acw(he:PE X o ta)(c:Cls X.K C)(hm:Meth X.K C m f)(F:ck X.prog X.w X.K X.mg X.base CX k f fd ps sp)(hr:cI k X.A)(hb:Binds X.K fd ps ds)(hd:Vals dvs ds)(hx:Passes CX X E)
  (ht:eval (.Call (.Attribute o m apos) [] [] pos) X.env=(do
   let ov <- eval o X.env
   standAt apos.atName
   let (f,first) <- holding [ov] (getMethod ov m pl)
   callWith pos f first (backTo pos (starEach [] X.env)) (backToKw pos (keywordEach [] X.env))):=by rfl) :
  PE X (.Call (.Attribute o m apos) [] [] pos) (agc C m sp dvs E ta adS):=by
 intro pins s σ H Q I h;refine W.methodCall_KW (pl:=pl) (thn (he pins s σ H _ I h) λ u s1 ⟨x,H1,I1,rx,a,dx,fs,ex,ea,l,q⟩=>?_) ht;subst ex;obtain rfl:u=Value.ref a:=rx;refine ow I1 ea c hm l ?_;exact W.callWith_K0 (first:=[.ref a]) I1.kIn hm.kp (aah (us:=[.ref a]) (vs:=[.ref a]) F hr hb hd hx I1 (.cons rfl .nil) q)
structure Mk(K:FG)(C f:Addr):Prop where
 makes:W.makesIn K C=true
 init:W.findIn K (.ref C) "__init__" = some (some (.ref f))
 fn:W.isFn K (.ref f)=true
 kp:W.keepIn K (.ref C)=true
theorem vM(M:Mk X.K C f)(F:ck X.prog X.w X.K X.mg X.base CX k f fd ps sp)(hr:cI (k+1) X.A)(hb:Binds X.K fd ps ds)(hd:Vals dvs ds)
  (hx:Passes CX X E)(I:Inv X pins σ H s)(r:Vals vs us)
  (h:∀ x dx,H x=none->H dx=none->dx≠x->sp (.ref x::(vs++dvs)) (upd (upd H dx (.own x)) x (.ins C dx [])) (λ v H2=>v=.non/\Q (.ref x) H2) E) :
  wpAny (model X.prog X.w) X.A (call (.ref C) us) (EP X pins σ Q) X.xe s:=by
 have hq:=h (s.heap.objs.size+1) s.heap.objs.size (I.hok.fresh (Nat.le_succ _)) (I.hok.fresh (lr0 _)) (Nat.ne_of_lt (Nat.lt_succ_self _));have I2:=Inv.made (C:=C) I;have r2:Vals (V.ref (s.heap.objs.size+1)::(vs++dvs)) (Value.ref (s.heap.objs.size+1)::(us++ds)):=.cons rfl (r.append hd);have hl:(Value.ref (s.heap.objs.size+1)::us++ds).length=ps.length:=by have e:=r2.length;rw[F.len _ _ _ _ hq] at e;exact e.symm
 refine wpAny_call (acF (f:=f) I.kIn M.makes M.init (beq_iff_eq.mp M.fn) (codeAny_mono (F.run _ X.stack _ _ ⟨Value.ref (s.heap.objs.size+1)::us,[]⟩ (Value.ref (s.heap.objs.size+1)::(us++ds)) _ _ E (hr.make C us [])
  (I2.ak1.make C us []) (hb _ (Value.ref (s.heap.objs.size+1)::us) I2.kIn hl) r2 hq) λ r s' hq'=>?_))
 cases r with
 | error e=>exact hx pins σ _ _ e s' I2 hq'
 | ok fl =>
  cases fl with
  | ret u =>
   obtain⟨v,H',I3,rv,ev,q3⟩:=I2.after hq';subst ev;exact⟨rv,⟨V.ref (s.heap.objs.size+1),H',I3,rfl,q3⟩⟩
  | next=>exact False.elim hq'
  | brk=>exact False.elim hq'
  | cont=>exact False.elim hq'
theorem afa(M:Mk X.K C f)(F:ck X.prog X.w X.K X.mg X.base CX k f fd ps sp)(hr:cI (k+1) X.A)(hg:Gl X x)(hm:X.mg x=some (.ref C))(hb:Binds X.K fd ps ds)(hd:Vals dvs ds)(hx:Passes CX X E)
  (ha:PA X (e::es) t)(hdb:ND x:=by decide)(he:starEach (e::es) X.env=(false,eval e X.env)::starEach es X.env:=by rfl)(hpl:(backTo pos (starEach es X.env)).any (·.1)=false:=by rfl) :
  PE X (.Call (.Name x p) (e::es) [] pos) (aip C sp dvs E t):=by
 intro pins s σ H Q I h;refine wpAny_Call_Name_kw (tE I hg hm ?_ hdb);refine W.callWith_K (h₀:=X.base) I.ok.mod.kin M.kp (thn (ha pos pins s σ H _ I h) λ us s1 ⟨vs,H1,I1,r,q⟩=>⟨I1.kIn,?_⟩) he hpl;exact vM M F hr hb hd hx I1 r q
theorem acR(M:Mk X.K C f)(F:ck X.prog X.w X.K X.mg X.base CX k f fd ps sp)(hr:cI (k+1) X.A)(hg:Gl X x)(hm:X.mg x=some (.ref C))(hb:Binds X.K fd ps ds)(hd:Vals dvs ds)(hx:Passes CX X E)
  (hdb:ND x:=by decide):PE X (.Call (.Name x p) [] [] pos) (aip C sp dvs E adS):=by
 intro pins s σ H Q I h;refine wpAny_Call_Name_kw (tE I hg hm ?_ hdb);exact W.callWith_K0 I.kIn M.kp (vM (us:=[]) M F hr hb hd hx I .nil h)
def PK(X:Cx)(kws:List Keyword)(t:TA):Prop:=
 ∀ (pos:Pos) (pins:PN) (s:Shared) (σ:St) (H:Hp) (Q:List V->Hp->Prop),Inv X pins σ H s->t σ H Q->wpAny (model X.prog X.w) X.A (evalAll ((backToKw pos (keywordEach kws X.env)).map (·.2))) (AP X pins σ Q) X.xe s
theorem ahh:PK X [] adS:=λ _ _ _ _ H Q I h=>wpAny_evalAll_nil ⟨[],H,I,.nil,h⟩
theorem aed(ha:PE X e te)(hr:PK X kws t):PK X (⟨nm,e,kpos⟩::kws) (zV te t):=by intro pos pins s σ H Q I h;show wpAny _ _ (evalAll ((do let v <- eval e X.env;standAt pos;pure v)::(backToKw pos (keywordEach kws X.env)).map (·.2))) _ _ s;refine wpAny_evalAll_cons (wb0 (thn (ha pins s σ H _ I h) λ u s1 ⟨x,H1,I1,r1,q1⟩=>wb0 (wpAny_standAt (wp ?_))));exact thn (hr pos pins s1 σ H1 _ I1 q1) λ us s2 ⟨xs,H2,I2,r2,q2⟩=>⟨x::xs,H2,I2,.cons r1 r2,q2⟩
structure jo(N P:List Str)(sc:Scope):Prop where
 kind:sc.kind=.function
 co:sc.isCoroutine=false
 gen:sc.isGenerator=false
 nd:N.Nodup
 pre:N.take P.length=P
 par:∀ x∈P,sc.names.lookup x=some .local\/sc.names.lookup x=some .cell
 nofree:∀ y∈sc.names,y.2 ≠ .free
theorem sg{kindOf:Str->Option NameKind}:∀ {binds:List (Str×Value)} {m:Str->Option Value},(∀ v,(x,v) ∉ binds)->bindL kindOf binds m x=m x
 | [],_,_=>rfl
 | (n,v)::r,m,h=>by
  unfold bindL;rw[sg λ w hw=>h w (List.mem_cons_of_mem _ hw)]
  split
  .have:x≠n:=by rintro rfl;exact h v List.mem_cons_self
   simp[this]
  .rfl
theorem rV{kindOf:Str->Option NameKind}:∀ {binds:List (Str×Value)} {m:Str->Option Value},(∀ v,(x,v) ∉ binds)->bindC kindOf binds m x=m x
 | [],_,_=>rfl
 | (n,v)::r,m,h=>by
  unfold bindC;rw[rV λ w hw=>h w (List.mem_cons_of_mem _ hw)]
  split
  .rfl
  .have:x≠n:=by rintro rfl;exact h v List.mem_cons_self
   simp[this]
theorem rN{kindOf:Str->Option NameKind}{v:Value}:∀ {P:List Str} {vs:List Value} {i:Nat} {m:Str->Option Value},P.Nodup->P[i]? =some x->vs[i]? =some v->kindOf x=some .local ->
  bindL kindOf (P.zip vs) m x=some v
 | [],_,_,_,_,h,_,_=>by simp at h
 | _::_,[],_,_,_,_,h,_=>by simp at h
 | p::P,w::vs,0,m,nd,h1,h2,hk=>by simp at h1 h2;subst h1;subst h2;show bindL kindOf ((p,w)::P.zip vs) m p=_;unfold bindL;rw[sg λ v hv=>(List.nodup_cons.mp nd).1 (List.of_mem_zip hv).1,if_pos hk];simp
 | p::P,w::vs,i+1,m,nd,h1,h2,hk=>by show bindL kindOf ((p,w)::P.zip vs) m x=_;unfold bindL;exact rN (i:=i) (List.nodup_cons.mp nd).2 (by simpa using h1) (by simpa using h2) hk
theorem qS{kindOf:Str->Option NameKind}{v:Value}:∀ {P:List Str} {vs:List Value} {i:Nat} {m:Str->Option Value},P.Nodup->P[i]? =some x->vs[i]? =some v->kindOf x≠some .local ->
  bindC kindOf (P.zip vs) m x=some v
 | [],_,_,_,_,h,_,_=>by simp at h
 | _::_,[],_,_,_,_,h,_=>by simp at h
 | p::P,w::vs,0,m,nd,h1,h2,hk=>by simp at h1 h2;subst h1;subst h2;show bindC kindOf ((p,w)::P.zip vs) m p=_;unfold bindC;rw[rV λ v hv=>(List.nodup_cons.mp nd).1 (List.of_mem_zip hv).1,if_neg hk];simp
 | p::P,w::vs,i+1,m,nd,h1,h2,hk=>by show bindC kindOf ((p,w)::P.zip vs) m x=_;unfold bindC;exact qS (i:=i) (List.nodup_cons.mp nd).2 (by simpa using h1) (by simpa using h2) hk
def start(N:List Str)(vs:List V):St:=vs.map some++List.replicate (N.length-vs.length) none
def adl(CX:CXT)(P:Program)(w:World)(K:FG)(mg:Str->Option Value)(base:Heap)(N:List Str)(qual:Str)(scope:Scope)(f:Addr)(cd:Value)(A:Around)(outer:List Env)(s:Shared)(H:Hp)(E:XK):Cx where
 prog:=P
 w:=w
 K:=K
 mg:=mg
 base:=base
 A:=A.deeper (envOfC qual scope s.heap.objs.size f cd)
 N:=N
 s₀:=s
 H₀:=H
 env:=envOfC qual scope s.heap.objs.size f cd
 outer:=outer
 stack:=envOfC qual scope s.heap.objs.size f cd::outer
 ex:=[]
 calm:=true
 fn:=λ _=>true
 pn:=[]
 xe:=λ e s'=>wpAny (model P w) (A.deeper (envOfC qual scope s.heap.objs.size f cd)) (leaving (envOfC qual scope s.heap.objs.size f cd) e) (λ _ s''=>CX outer H s E e s'') (λ e' s''=>CX outer H s E e' s'') s'
theorem uv{sc:Scope}{n:Nat}(h:sc.names.lookup x=some .cell):∃ c,(cellsFrom n sc.names []).lookup x=some c:=by have q:=W.cellsFrom_some sc.names n [] (.inl h);exact Option.isSome_iff_exists.mp q
theorem yz{CX:CXT}{P:Program}{w:World}{K:FG}{mg:Str->Option Value}{base:Heap}{N ps:List Str}{qual:Str}{scope:Scope}{f:Addr}{cd:Value}{A:Around}{outer:List Env}{s s1:Shared}{H:Hp}{E:XK}{us:List Value}{vs:List V}
  (S:jo N ps scope)(hd:A.handled=none)(e0:aex P w K mg base A outer s H)(hl:vs.length=ps.length)(r:Vals vs us)
  (x:InCallC s s.heap.objs.size (bindL (envOfC qual scope s.heap.objs.size f cd).kindOf (ps.zip us) λ _=>none) (cellsFrom (s.heap.objs.size+1) scope.names []) (bindC (envOfC qual scope s.heap.objs.size f cd).kindOf (ps.zip us) λ _=>none) s1) :
  Inv (adl CX P w K mg base N qual scope f cd A outer s H E) [] (start N vs) H s1:=by
 have hpl:ps.length<=N.length:=by have:=congrArg List.length S.pre;rw[List.length_take] at this;omega
 obtain⟨h1,tk,rfl,hk⟩:=x.done;have noA:∀ b:Addr,b ∉ (adl CX P w K mg base N qual scope f cd A outer s H E).ex:=λ b z=>absurd (show b∈([]:List Addr) from z) (by simp);refine⟨⟨e0.mod,S.kind,rfl,rfl,lr0 _,λ y z c h1 h2=>?_,λ y hy=>?_,λ y c _ h=>?_,λ _=>hd,Around.frames_deeper e0.frames,.inr ⟨rfl,rfl⟩,λ b z=>absurd z (noA b),e0.bs,e0.bsz,λ b _ _=>noA b,λ b z=>absurd z (noA b),e0.sE,e0.frf⟩,
  rfl,e0.bare,Un.kept hk,⟨_,x.toInCall.ns,λ i y v h1 h2 h3=>?_⟩,λ y c h=>⟨_,x.cell y c h⟩,e0.hok.fresh (lr0 _),λ y c h=>?_,λ p hp=>absurd (show p∈([]:PN) from hp) (by simp),e0.hok.kept hk,?_⟩
 .exact name_of_addr x.apart (PySem.mem_of_lookup h1) (PySem.mem_of_lookup h2)
 .have hy:scope.names.lookup y=some .cell\/scope.names.lookup y=some .free:=hy;rcases hy with hy | hy
  .exact uv hy
  .exact absurd rfl (S.nofree _ (PySem.mem_of_lookup hy))
 .exact Nat.le_of_lt (x.above y c (PySem.mem_of_lookup h))
 .have hi:i<vs.length:=by
   unfold start at h2
   by_cases hi:i<vs.length
   .exact hi
   .rw[List.getElem?_append_right (by simpa using hi)] at h2;rw[List.getElem?_replicate] at h2
    split at h2<;>cases h2
  have ha:vs[i]? =some v:=by
   unfold start at h2;rw[List.getElem?_append_left (by simpa using hi),List.getElem?_map] at h2;cases e:vs[i]? with
   | none=>rw[e] at h2;cases h2
   | some a=>rw[e] at h2;cases h2;rfl
  obtain⟨u,hu,rv⟩:=r.get ha;have hp:ps[i]? =some y:=by rw[<- S.pre,List.getElem?_take_of_lt (by omega)];exact h1
  have ndP:ps.Nodup:=by rw[<- S.pre];exact S.nd.sublist (List.take_sublist _ _)
  refine⟨u,rv,?_⟩;rcases S.par y (List.mem_of_getElem? hp) with k | k
  .exact .inl ⟨k,rN ndP hp hu k⟩
  .obtain⟨c,e⟩:=uv (n:=s.heap.objs.size+1) k;refine .inr ⟨.inl k,c,e,?_⟩;have q:=x.cell y c e;rw[qS ndP hp hu (by show scope.names.lookup y≠_;rw[k];decide)] at q;exact q
 .exact e0.hok.fresh (Nat.le_of_lt (x.above y c (PySem.mem_of_lookup h)))
 .unfold start;show _=N.length;rw[List.length_append,lm,List.length_replicate];omega
theorem ajk{CX:CXT}{P:Program}{w:World}{K:FG}{mg:Str->Option Value}{base:Heap}{k:Nat}{f:Addr}{name qual:Str}{params:Arguments}{body:List Stmt}{scope:Scope}{dV kV doc pm cdv ct oc:Value}{an od:Option Addr}
  {osl:Array (Option Value)}{N ps:List Str}{sp:Sp}(lk:K.lookup f=some ⟨oc,od,.func (W.fnOf name qual params body scope dV kV doc pm an cdv ct),osl⟩)(hcd:W.codeIn K cdv qual=true)(S:jo N ps scope)
  (len:∀ vs H Q E,sp vs H Q E->vs.length=ps.length)
  (hbody:∀ (A:Around) (outer:List Env) (s:Shared) (H:Hp) (vs:List V) (Q:VK) (E:XK),cI k (A.deeper (envOfC qual scope s.heap.objs.size f cdv))->sp vs H Q E ->
   ∃ t,PSs (adl CX P w K mg base N qual scope f cdv A outer s H E) body t/\t {nx:=λ _ H'=>Q .non H',rt:=Q} (start N vs) H) :
  ck P w K mg base CX (k+1) f (W.fnOf name qual params body scope dV kV doc pm an cdv ct) ps sp:=by
 refine⟨len,λ A outer s H args us vs Q E hr e0 hb r hsp=>?_⟩;have hl:=len _ _ _ _ hsp;have KX:K.In s.heap:=e0.mod.kin.keeps λ b o e=>(e0.bs b o e).1;have lim:s.heap.NoLimit:=e0.mod.nolimit.keeps λ b o e=>(e0.bs b o e).1;have hkind:∀ y∈ps.zip us,scope.names.lookup y.1=some .local\/(scope.names.lookup y.1=some .cell/\((cellsFrom (s.heap.objs.size+1) scope.names []).lookup y.1).isSome=true):=λ⟨n,v⟩ hy=>by
  rcases S.par n (List.of_mem_zip hy).1 with q | q
  .exact .inl q
  .exact .inr ⟨q,W.cellsFrom_some _ _ _ (.inl q)⟩
 refine codeAny_call_function hr.depth (KX _ _ lk) rfl S.co S.gen rfl (W.codeRec_of KX hcd) (hb _ _ _ _ ?_);refine wpAny_newFunctionEnv_cells S.kind hkind λ env he s1 x=>?_;subst he;refine⟨lim.keeps x.toInCall.keep,codeAny_func ?_⟩;obtain⟨t,ht,hq⟩:=hbody A outer s H vs Q E (hr.deeper _) hsp;have I:Inv (adl CX P w K mg base N qual scope f cdv A outer s H E) [] (start N vs) H s1:=yz S hr.hd e0 hl r x;refine wpAny_mono (ht [] s1 (start N vs) H _ I hq) (λ fl s' hs=>?_) λ e s' hs=>hs;have fin:∀ {σ':St} {H':Hp} {v:V} {u:Value},Inv (adl CX P w K mg base N qual scope f cdv A outer s H E) [] σ' H' s'->RelV v u->Q v H'->CE outer P w H s Q u s':=
  λ {σ' H' v u} J rv q=>⟨v,H',J.os,J.bare,J.base,J.hok,rv,q⟩
 cases fl with
 | ret u =>
  obtain⟨v,σ',H',J,rv,q⟩:=hs;exact fin J rv q
 | next =>
  obtain⟨σ',H',J,q⟩:=hs;exact fin (v:=V.non) (u:=Value.none) J rfl q
 | brk =>
  obtain⟨_,_,_,q⟩:=hs;exact False.elim q
 | cont =>
  obtain⟨_,_,_,q⟩:=hs;exact False.elim q
section
variable {X:Cx}{x:Str}{p pos:Pos}{e:Expr}{es:List Expr}{t:TA}{id T:String}{r:List V->Hp->VK->Prop}
def tCB(r:List V->Hp->VK->Prop)(t:TA):TE:=λ σ H Q=>t σ H λ vs H1=>r vs H1 Q
theorem acO(hc:dr X (.builtin id) r)(hg:Gl X x)(hm:X.mg x=none)(hv:bootBuiltins x=some (.builtin id))(ha:PA X (e::es) t)(hn:x ≠ "__name__":= by decide)(hdb:ND x:=by decide)
  (he:starEach (e::es) X.env=(false,eval e X.env)::starEach es X.env:=by rfl)(hpl:(backTo pos (starEach es X.env)).any (·.1)=false:=by rfl):PE X (.Call (.Name x p) (e::es) [] pos) (tCB r t):=by
 intro pins s σ H Q I h;refine wpAny_Call_Name_kw (jV I hg hm hv ?_ hn hdb);exact PyProof.Rows.callWith_builtin1 (thn (ha pos pins s σ H _ I h) λ us s1 ⟨vs,H1,I1,r1,q1⟩=>hc pins s1 σ H1 vs us Q I1 r1 q1) he hpl
theorem aaV(hc:dr X (.type T) r)(hg:Gl X x)(hm:X.mg x=none)(hv:bootBuiltins x=some (.type T))(ha:PA X (e::es) t)(hn:x ≠ "__name__":= by decide)(hdb:ND x:=by decide)
  (he:starEach (e::es) X.env=(false,eval e X.env)::starEach es X.env:=by rfl)(hpl:(backTo pos (starEach es X.env)).any (·.1)=false:=by rfl):PE X (.Call (.Name x p) (e::es) [] pos) (tCB r t):=by
 intro pins s σ H Q I h;refine wpAny_Call_Name_kw (jV I hg hm hv ?_ hn hdb);exact PyProof.Rows.callWith_type1 (thn (ha pos pins s σ H _ I h) λ us s1 ⟨vs,H1,I1,r1,q1⟩=>hc pins s1 σ H1 vs us Q I1 r1 q1) he hpl
end
end L2
namespace HT
open PySem PyProof.Rows
section
open PySem.SeqAt
open PySem.AutoSeq1 (wpAny_loadPart')
open PySem.MeetsSeq PySem.MeetsSeq2 PySem.MeetsSeq3
end
def sIx(n d:Nat):Option Int->Nat
 | none=>d
 | some v=>if v<0 then (v+(n:Int)).toNat else min v.toNat n
theorem ahf(n d:Nat)(hd:d<=n)(o:Option Int):sIx n d o<=n:=by
 cases o with
 | none=>exact hd
 | some v =>
  show(if v<0 then (v+(n:Int)).toNat else min v.toNat n)<=n
  by_cases hv:v<0
  .rw[if_pos hv];omega
  .rw[if_neg hv];exact Nat.min_le_right _ _
theorem aaY(v:Int)(n d:Nat):(if v<0 then max (v+(n:Int)) 0 else min v (n:Int))=((sIx n d (some v):Nat):Int):=by
 show(if v<0 then max (v+(n:Int)) 0 else min v (n:Int))=(((if v<0 then (v+(n:Int)).toNat else min v.toNat n):Nat):Int)
 by_cases hv:v<0
 .simp only[if_pos hv];omega
 .simp only[if_neg hv];omega
theorem xf(lo hi:Option Int)(n:Nat):Builtin.Slice.sliceAdjust lo hi 1 (n:Int)=(((sIx n 0 lo:Nat):Int),((sIx n n hi:Nat):Int)):=by
 have h1:¬ ((1:Int)<0):=by omega
 unfold Builtin.Slice.sliceAdjust;simp only[h1,if_false];refine Prod.ext ?_ ?_
 .cases lo with
  | none=>rfl
  | some v=>exact aaY v n 0
 .cases hi with
  | none=>rfl
  | some v=>exact aaY v n n
theorem xr(i j:Nat):Builtin.Slice.slicePlaces (i:Int) (j:Int) 1=j-i:=by
 unfold Builtin.Slice.slicePlaces;have h1:(1:Int) > 0:=by omega
 simp only[h1,if_true,Int.ediv_one]
 split<;>omega
theorem nM(p:IsPart v o)(h:Q o s):wpAny (model prog w) A (Builtin.Slice.slicePartIndex v) Q E s:=by
 cases p with
 | none=>exact slicePart_none h
 | int i t=>exact slicePart_int h
theorem kA{sl:Addr}{vl vu:Value}{lo hi:Option Int}{n:Nat}(hs:s.heap.IsSliceOf sl vl vu .none)(pl:IsPart vl lo)(pu:IsPart vu hi)
  (h:Q (((sIx n 0 lo:Nat):Int),1,sIx n n hi-sIx n 0 lo) s):wpAny (model prog w) A (Builtin.Slice.sliceApplied (.ref sl) (pure (n:Int))) Q E s:=by
 obtain⟨os,hos,hcs,hds⟩:=id hs;unfold Builtin.Slice.sliceApplied Builtin.Slice.sliceFields;refine wb0 (wb0 (wpAny_field hos hds (x:=vl) rfl (wb0 (wpAny_field hos hds (x:=vu) rfl (wb0 (wpAny_field hos hds (x:=.none) rfl (wp ?_)))))));refine wb0 (slicePart_none ?_);show wpAny _ _ (if ((1:Int)==0)=true then _ else _) _ _ s;rw[if_neg (by decide)];refine wb0 (nM pl (wb0 (nM pu (wb0 (wp ?_)))));show wpAny _ _ (match Builtin.Slice.sliceAdjust lo hi 1 (n:Int) with | (lo,hi)=>pure (lo,(1:Int),Builtin.Slice.slicePlaces lo hi 1)) _ _ s
 rw[xf lo hi n];show wpAny _ _ (pure (((sIx n 0 lo:Nat):Int),(1:Int),Builtin.Slice.slicePlaces ((sIx n 0 lo:Nat):Int) ((sIx n n hi:Nat):Int) 1)) _ _ s;rw[xr];exact wp h
theorem abK(xs:Array Value)(i k:Nat):((List.range k).filterMap λ(m:Nat)=>xs[((i:Int)+(m:Int) * 1).toNat]?).toArray=((xs.toList.drop i).take k).toArray:=by
 have e:(λ(m:Nat)=>xs[((i:Int)+(m:Int) * 1).toNat]?)=λ m=>xs[i+m]?:=by
  funext m;have:((i:Int)+(m:Int) * 1).toNat=i+m:=by omega
  rw[this]
 rw[e];have:=pick_run xs i k;rw[List.filterMap_map] at this;have e2:((λ x=>xs[x]?) ∘ λ x=>i+x)=λ m=>xs[i+m]?:=rfl;rw[e2] at this;rw[this]
theorem jD{t sl:Addr}{items:Array Value}{vl vu:Value}{lo hi:Option Int}(ht:IsTup s.heap t items)(hs:s.heap.IsSliceOf sl vl vu .none)(pl:IsPart vl lo)(pu:IsPart vu hi)
  (hw:¬ (sIx items.size 0 lo=0/\sIx items.size items.size hi=items.size))
  (h:Q (.ref s.heap.objs.size) {s with heap:=s.heap.push {cls:=.type "tuple",data:=.seq ((items.toList.drop (sIx items.size 0 lo)).take (sIx items.size items.size hi-sIx items.size 0 lo)).toArray}})
  (hsz:items.size<=sizeLine):wpAny (model prog w) A (getItem (.ref t) (.ref sl)) Q E s:=by
 have htake:sizeOk (.seq ((items.toList.drop (sIx items.size 0 lo)).take (sIx items.size items.size hi-sIx items.size 0 lo)).toArray):=by show((items.toList.drop (sIx items.size 0 lo)).take (sIx items.size items.size hi-sIx items.size 0 lo)).toArray.size<=sizeLine;rw[List.size_toArray,List.length_take,List.length_drop,Array.length_toList];omega
 have hj:sIx items.size items.size hi<=items.size:=ahf _ _ (lr0 _) hi;obtain⟨os,hos,hcs,hds⟩:=id hs;have hTs:s.TypeIs (.ref sl) "slice":= ⟨os,hos,hcs⟩;unfold getItem
 try with_reducible refine wpAny_holding ?_
 first | refine wb0 (wp ?_) | skip
 refine wb0 (wpAny_sequenceKey ht.typeIs (by decide) ?_);refine wb0 (wpAny_callSpecial?_slot (name:=Str.ofString "__getitem__") ht.typeIs PyProof.Rows.slot_tuple_getitem
  (wpAny_call_entry PyProof.Rows.slot_tuple_getitem ht.typeIs entry_tuple_getitem ?_ (args_tuple_getitem _ _)))
 show wpAny _ _ (Builtin.Tuple.tupleItemsOf (.ref t) >>= _) _ _ s;refine wb0 (tupleItemsOf_ ht ?_);refine wb0 (wpAny_typeOf hTs ?_);rw[if_pos (by decide)];refine wb0 (kA hs pl pu ?_);have hno:¬ ((((sIx items.size 0 lo:Nat):Int)==0&&(1:Int)==1&&(sIx items.size items.size hi-sIx items.size 0 lo)==items.size)=true):=by intro q;rw[ae00,ae00] at q;have q1:((sIx items.size 0 lo:Nat):Int)=0:=eq_of_beq q.1.1;have q2:sIx items.size items.size hi-sIx items.size 0 lo=items.size:=eq_of_beq q.2;exact hw ⟨by omega,by omega⟩
 show wpAny _ _ (if (((sIx items.size 0 lo:Nat):Int)==0&&(1:Int)==1&&(sIx items.size items.size hi-sIx items.size 0 lo)==items.size)=true then _ else _) _ _ s;rw[if_neg hno,abK]
 first
  | exact wb0 (m:=Builtin.Tuple.tupleExact _) (wpAny_newObj_type (wp ⟨_,rfl,wp h⟩) htake)
  | exact wb0 (m:=Builtin.Tuple.tupleExact _) (wpAny_newObj_type (wb0 (wp (wp ⟨_,rfl,wp h⟩))) htake)
  | exact wb0 (wb0 (m:=Builtin.Tuple.tupleExact _) (wpAny_newObj_type (wp (wp ⟨_,rfl,wp h⟩)) htake))
  | exact wb0 (wb0 (m:=Builtin.Tuple.tupleExact _) (wpAny_newObj_type (wp ⟨_,rfl,wp h⟩) htake))
end HT
namespace L2
abbrev TO:=St->Hp->(Option Int->Hp->Prop)->Prop
def PO(X:Cx)(e:Option Expr)(t:TO):Prop:=
 ∀ (pins:PN) (s:Shared) (σ:St) (H:Hp) (Q:Option Int->Hp->Prop),Inv X pins σ H s->t σ H Q ->
  wpAny (model X.prog X.w) X.A (evalPart e X.env) (λ u s'=>∃ o H',Inv X pins σ H' s'/\IsPart u o/\Q o H') X.xe s
def agt:TO:=λ _ H Q=>Q none H
def ajK(t:TE):TO:=λ σ H Q=>t σ H λ x H1=>∃ i,x=.int i/\Q (some i) H1
theorem intsAre_of:∀ {us:List Value},Vals (ns.map V.int) us->IntsAre us ns:=by
 induction ns with
 | nil=>intro us r;rw[List.map_nil] at r;cases r;exact .nil
 | cons n ns ih =>
  intro us r;rw[List.map_cons] at r;cases r with
  | cons r1 r2 =>
   obtain⟨t,e⟩:=r1;subst e;exact .cons n t (ih r2)
section
variable {X:Cx}{e:Expr}{te:TE}{lo hi:Option Expr}{tl th:TO}{pos p2:Pos}
theorem afg:PO X none agt:=by intro pins s σ H Q I h;rw[evalPart_none];exact wp ⟨none,H,I,.none,h⟩
theorem age(h:PE X e te):PO X (some e) (ajK te):=by intro pins s σ H Q I hw;rw[evalPart_some];refine thn (h pins s σ H _ I hw) λ u s1 hq23=>?_;obtain⟨x,H1,I1,r1,q1⟩:=hq23;obtain⟨i,rfl,q⟩:=q1;obtain⟨t,rfl⟩:=r1;exact⟨some i,H1,I1,.int i t,q⟩
def SlR(X:Cx)(r:V->Option Int->Option Int->Hp->VK->Prop):Prop:=
 ∀ (pins:PN) (s:Shared) (σ:St) (H:Hp) (x:V) (v vl vu:Value) (lo hi:Option Int) (sl:Addr) (Q:VK),Inv X pins σ H s->RelV x v->s.heap.IsSliceOf sl vl vu .none->IsPart vl lo->IsPart vu hi->r x lo hi H Q ->
  ∃ T id,typeLookup (.type T) "__getitem__" = pure (some (.builtin id))/\s.TypeIs v T/\wpAny (model X.prog X.w) X.A (getItem v (.ref sl)) (EP X pins σ Q) X.xe s
theorem SlR.or(h:SlR X r)(h':SlR X r'):SlR X (λ x lo hi H Q=>r x lo hi H Q\/r' x lo hi H Q):=by
 intro pins s σ H x v vl vu lo hi sl Q I rx hs pl pu q;rcases q with q | q
 .exact h pins s σ H x v vl vu lo hi sl Q I rx hs pl pu q
 .exact h' pins s σ H x v vl vu lo hi sl Q I rx hs pl pu q
def tSl(r:V->Option Int->Option Int->Hp->VK->Prop)(te:TE)(tl th:TO):TE:=λ σ H Q=>te σ H λ x H1=>tl σ H1 λ l H2=>th σ H2 λ u H3=>r x l u H3 Q
theorem abm(hr:SlR X r)(he:PE X e te)(hl:PO X lo tl)(hu:PO X hi th):PE X (.Subscript e (.Slice lo hi none p2) pos) (tSl r te tl th):=by intro pins s σ H Q I h;refine Subscript_ (thn (he pins s σ H _ I h) λ v s1 hq24=>?_);obtain⟨x,H1,I1,r1,q1⟩:=hq24;refine wpAny_Slice (thn (hl pins s1 σ H1 _ I1 q1) λ vl s2 ⟨l,H2,I2,pl,q2⟩=>thn (hu pins s2 σ H2 _ I2 q2) λ vu s3 hq25=>?_);obtain⟨u,H3,I3,pu,q3⟩:=hq25;rw[evalPart_none];refine wp ?_;have I4:Inv X pins σ H3 {s3 with heap:=s3.heap.push {cls:=.type "slice",data:=.fields #[vl,vu,.none]}}:=I3.kept (t':=s3.toks) λ b ob q=>Heap.get?_push_of_some _ q;obtain⟨T,id,hT,ht,hg⟩:=hr pins {s3 with heap:=s3.heap.push {cls:=.type "slice",data:=.fields #[vl,vu,.none]}} σ H3 x v vl vu l u s3.heap.objs.size Q I4 r1 (Heap.IsSliceOf.new ..) pl pu q3;show wpAny (model X.prog X.w) X.A (subscriptTail e (.Slice lo hi none p2) v (.ref s3.heap.objs.size)) (EP X pins σ Q) X.xe {s3 with heap:=s3.heap.push {cls:=.type "slice",data:=.fields #[vl,vu,.none]}};exact tail_any (ops:=[.ref s3.heap.objs.size,v]) ht hT hg (by with_unfolding_all rfl)
def acU(xs:List V)(lo hi:Option Int):List V:=(xs.drop (HT.sIx xs.length 0 lo)).take (HT.sIx xs.length xs.length hi-HT.sIx xs.length 0 lo)
theorem lG(xs:List V)(lo hi:Option Int):(acU xs lo hi).length<=xs.length:=by
 unfold acU;rw[List.length_take,List.length_drop];omega
def alm(K:FG):V->Option Int->Option Int->Hp->VK->Prop:=λ x lo hi H Q=>∃ a xs,x=.ref a/\SqT K H a xs /\
 ¬ (HT.sIx xs.length 0 lo=0/\HT.sIx xs.length xs.length hi=xs.length)/\∀ p,H p=none->Q (.ref p) (upd H p (.tup (acU xs lo hi)))
theorem aiR:SlR X (alm X.K):=by
 intro pins s σ H x v vl vu lo hi sl Q I rx hs pl pu h;obtain⟨a,xs,rfl,hx,hw,q⟩:=h;cases rx;obtain⟨its,r,ht,hz⟩:=I.tuple hx;have hlen:its.toArray.size=xs.length:=by rw[List.size_toArray];exact r.length.symm
 refine⟨"tuple",_,PyProof.Rows.slot_tuple_getitem.lookup,ht.typeIs,?_⟩;refine HT.jD ht hs pl pu (by rw[hlen];exact hw) ?_ (by rw[hlen];exact hz);rw[hlen];refine⟨.ref s.heap.objs.size,_,I.laid (t':=s.toks) (o:=.tup (acU xs lo hi)) (λ b ob q=>Heap.get?_push_of_some _ q) (lr0 _) ?_,rfl,q _ (I.hok.fresh (lr0 _))⟩;exact⟨Nat.le_trans (lG xs lo hi) hz,_,(r.drop (HT.sIx xs.length 0 lo)).take (HT.sIx xs.length xs.length hi-HT.sIx xs.length 0 lo),abE.new _ _⟩
end
def ixN(n:Nat)(i:Int):Option Nat:=if 0<=i then (if i<n then some i.toNat else none) else if -(n:Int)<=i then some (i+n).toNat else none
def atI(xs:List α)(i:Int):Option α:=(ixN xs.length i).bind λ j=>xs[j]?
theorem zt(h:ixN n i=some j):seqIndex? i n=some j/\j<n/\-(n:Int)<=i/\i<n:=by
 unfold ixN at h
 by_cases h0:0<=i
 .rw[if_pos h0] at h
  by_cases h1:i<n
  .rw[if_pos h1] at h;have e:i.toNat=j:=Option.some.inj h;exact⟨by rw[seqIndex_of h0 h1,e],by omega,by omega,h1⟩
  .rw[if_neg h1] at h;cases h
 .rw[if_neg h0] at h
  by_cases h1:-(n:Int)<=i
  .rw[if_pos h1] at h;have e:(i+n).toNat=j:=Option.some.inj h;exact⟨by rw[seqIndex_neg (by omega) h1,e],by omega,h1,by omega⟩
  .rw[if_neg h1] at h;cases h
theorem qc(h:atI xs i=some v):∃ j,seqIndex? i xs.length=some j/\xs[j]? =some v/\j<xs.length/\-(xs.length:Int)<=i/\i<xs.length:=by
 unfold atI at h;cases e:ixN xs.length i with
 | none=>rw[e] at h;cases h
 | some j =>
  rw[e] at h;obtain⟨h1,h2,h3,h4⟩:=zt e;exact⟨j,h1,h,h2,h3,h4⟩
def oM(b:Expr):Prop:=∀ o i,subscripted b false o i=operate [o,i] (getItem o i)
def IxR(X:Cx)(r:R2):Prop:=
 ∀ (value slice:Expr) (pins:PN) (s:Shared) (σ:St) (H:Hp) (x y:V) (v u:Value) (Q:VK),Inv X pins σ H s->RelV x v->RelV y u->r x y H Q ->
  subscripted slice false v u=operate [v,u] (getItem v u)->wpAny (model X.prog X.w) X.A (subscriptTail value slice v u) (EP X pins σ Q) X.xe s
def MtR(X:Cx)(id:String)(r:V->List V->Hp->VK->Prop):Prop:=
 ∀ (pins:PN) (s:Shared) (σ:St) (H:Hp) (x:V) (xs:List V) (v:Value) (us:List Value) (Q:VK),Inv X pins σ H s->RelV x v->Vals xs us->r x xs H Q ->
  wpAny (model X.prog X.w) X.A (call (.builtin id) (v::us)) (EP X pins σ Q) X.xe s
section
variable {X:Cx}{a b:Expr}{ta tb:TE}{pos:Pos}
theorem IxR.or(h:IxR X r)(h':IxR X r'):IxR X (λ x y H Q=>r x y H Q\/r' x y H Q):=by
 intro value slice pins s σ H x y v u Q I rx ry q hs;rcases q with q | q
 .exact h value slice pins s σ H x y v u Q I rx ry q hs
 .exact h' value slice pins s σ H x y v u Q I rx ry q hs
theorem ajJ(hr:IxR X r)(ha:PE X a ta)(hb:PE X b tb)(hs:oM b):PE X (.Subscript a b pos) (tOp r ta tb):=by intro pins s σ H Q I h;exact Subscript_ (akM ha hb I h λ v u s2 x y H2 I2 rx ry q=>hr a b pins s2 σ H2 x y v u Q I2 rx ry q (hs _ _))
def ajX(K:FG):R2:=λ x y H Q=>∃ p xs i v,x=.ref p/\y=.int i/\SqL K H p xs/\atI xs i=some v/\Q v H
def ak8(K:FG):R2:=λ x y H Q=>∃ p xs i v,x=.ref p/\y=.int i/\SqT K H p xs/\atI xs i=some v/\Q v H
def ald:R2:=λ x y H Q=>∃ z i c,x=.str z/\y=.int i/\z.length<=sizeLine/\atI z.cps.toList i=some c/\Q (.str ⟨#[c]⟩) H
theorem adO:IxR X (ajX X.K):=by
 intro value slice pins s σ H x y v u Q I rx ry h hs;obtain⟨p,xs,i,z,rfl,rfl,hq,he,q⟩:=h;cases rx;obtain⟨t,rfl⟩:=ry;obtain⟨its,r,pl,hz⟩:=I.list hq;obtain⟨j,h1,h2,h3,h4,h5⟩:=qc he;obtain⟨w,ew,rw'⟩:=r.get h2;have hl:=r.length;have hn:=oG;have fin:EP X pins σ Q w s:=⟨z,H,I,rw',q⟩
 by_cases h0:0<=i
 .have hj:i.toNat=j:=by rw[seqIndex_of h0 h5] at h1;exact Option.some.inj h1
  exact item_listR pl.isList h0 (by omega) (by rw[hj];simpa using ew) fin hs
 .have hj:(i+(its.toArray.size:Int)).toNat=j:=by rw[seqIndex_neg (by omega) h4] at h1;rw[List.size_toArray,<- hl];exact Option.some.inj h1
  exact subscriptTail_builtinR (x:=w) pl.isList.typeIs slot_list_getitem.lookup
   (wpAny_getItem_list_neg (Q:=λ r s'=>r=w/\EP X pins σ Q r s') pl.isList (by omega) (by rw[List.size_toArray]<;>omega) (by omega) (by rw[hj];simpa using ew) ⟨rfl,fin⟩) hs
theorem ai8:IxR X (ak8 X.K):=by
 intro value slice pins s σ H x y v u Q I rx ry h hs;obtain⟨p,xs,i,z,rfl,rfl,hq,he,q⟩:=h;cases rx;obtain⟨t,rfl⟩:=ry;obtain⟨its,r,pl,hz⟩:=I.tuple hq;obtain⟨j,h1,h2,h3,h4,h5⟩:=qc he;obtain⟨w,ew,rw'⟩:=r.get h2;have hl:=r.length;have hn:=oG;have fin:EP X pins σ Q w s:=⟨z,H,I,rw',q⟩;exact subscriptTail_builtinR (x:=w) pl.typeIs slot_tuple_getitem.lookup
  (getItem_tuple (j:=j) (Q:=λ r s'=>r=w/\EP X pins σ Q r s') pl (by omega) (by omega) (by rw[List.size_toArray,<- hl];exact h1) (by simpa using ew) ⟨rfl,fin⟩) hs
theorem agW:IxR X ald:=by
 intro value slice pins s σ H x y v u Q I rx ry h hs;obtain⟨z,i,c,rfl,rfl,hz,he,q⟩:=h;obtain⟨t,rfl⟩:=rx;obtain⟨t',rfl⟩:=ry;obtain⟨j,h1,h2,h3,h4,h5⟩:=qc he;have hl:z.cps.toList.length=z.length:=by simp[Str.length]
 rw[hl] at h1 h4 h5;have hn:=oG;exact tail_any (typeIs_str s z t) slot_str_getitem.lookup (getItem_str (c:=c) (by have e1:decide (i < -(2 ^ 63:Int))=false:=decide_eq_false (by omega);have e2:decide (i >= 2 ^ 63)=false:=decide_eq_false (by omega);rw[e1,e2,Bool.or_false]) (by rw[h1];simpa using h2) ⟨.str ⟨#[c]⟩,H,I.tok _,⟨_,rfl⟩,q⟩) hs
def rIx(K:FG):R2:=λ x y H Q=>ajX K x y H Q\/ak8 K x y H Q\/ald x y H Q
theorem ac7:IxR X (rIx X.K):=adO.or (ai8.or agW)
theorem we(its:List Value)(n j:Nat)(u:Value):Obj.mapSeq (·.setIfInBounds j u) {cls:=.type "list",data:=.seq its.toArray n}={cls:=.type "list",data:=.seq (its.set j u).toArray n}:=by simp[Obj.mapSeq]
theorem Inv.lst(I:Inv X pins σ H s)(h:H p=some (.lst xs)) :
  ∃ (its:List Value) (n:Nat),Vals xs its/\s.heap.get? p=some {cls:=.type "list",data:=.seq its.toArray n}/\xs.length<=sizeLine:=by
 obtain⟨z,its,n,r,e⟩:=I.hok p _ h;exact⟨its,n,r,e,z⟩
theorem Inv.agK{xs ys:List V}{its its':List Value}{n n':Nat}(I:Inv X pins σ H s)(h:H p=some (.lst xs))
  (ho:s.heap.get? p=some {cls:=.type "list",data:=.seq its.toArray n})(hf:f {cls:=.type "list",data:=.seq its.toArray n}={cls:=.type "list",data:=.seq its'.toArray n'})(r:Vals ys its')(hz:ys.length<=sizeLine)(t:Nat) :
  Inv X pins σ (upd H p (.lst ys)) {s with heap:=s.heap.update p f,toks:=t}:=by
 have e:(s.heap.update p f).get? p=some {cls:=.type "list",data:=.seq its'.toArray n'}:=by rw[Heap.get?_update_self f ho (by rw[hf]<;>rfl),hf]
 refine I.write (x:=p) (e:=p) (by rw[h];trivial) (.inl rfl) (λ b u hb q=>(Heap.get?_update_other _ _ (Ne.symm hb)).trans q) ⟨_,e⟩ ?_;exact⟨hz,its',n',r,e⟩
def akB:V->V->V->Hp->(Hp->Prop)->Prop:=λ o i v H Q=>∃ p xs k j,o=.ref p/\i=.int k/\H p=some (.lst xs)/\ixN xs.length k=some j/\Q (upd H p (.lst (xs.set j v)))
theorem set_list:ajZ X akB:=by
 intro pins s σ H o i v ov iv u Q I ro ri rv h;obtain⟨p,xs,k,j,rfl,rfl,hp,hj,q⟩:=h;cases ro;obtain⟨t,rfl⟩:=ri;obtain⟨its,n,r,ho,hz⟩:=I.lst hp;obtain⟨h1,h2,h3,h4⟩:=zt hj;have hl:=r.length;have hn:=oG;have I':Inv X pins σ (upd H p (.lst (xs.set j v))) {s with heap:=s.heap.update p (Obj.mapSeq (·.setIfInBounds j u))}:=
  I.agK hp ho (we its n j u) (r.set rv j) (by rw[List.length_set];exact hz) s.toks
 by_cases h0:0<=k
 .have hk:k.toNat=j:=by rw[seqIndex_of h0 h4] at h1;exact Option.some.inj h1
  exact W.ki_setAt ho h0 (by omega) (by rw[List.size_toArray,<- hl];exact h4) (by rw[hk];exact⟨_,I',q⟩)
 .have hk:(k+(its.toArray.size:Int)).toNat=j:=by rw[seqIndex_neg (by omega) h3] at h1;rw[List.size_toArray,<- hl];exact Option.some.inj h1
  exact W.ki_setBack ho (by omega) (by rw[List.size_toArray,<- hl];exact h3) (by omega) (by rw[hk];exact⟨_,I',q⟩)
theorem so(lo hi:Option Int)(n:Nat):(sliceBounds lo hi none n).1=((HT.sIx n 0 lo:Nat):Int)/\(sliceBounds lo hi none n).2.1=((HT.sIx n n hi:Nat):Int)/\(sliceBounds lo hi none n).2.2=1:=by
 refine⟨?_,?_,rfl⟩
 .cases lo with
  | none=>simp[sliceBounds,HT.sIx]
  | some i =>
   simp only[sliceBounds,HT.sIx,Option.getD_none,show(1:Int) > 0 by decide,if_true]
   by_cases h:i<0
   .simp only[h,if_true]<;>omega
   .simp only[h,if_false]<;>omega
 .cases hi with
  | none=>simp[sliceBounds,HT.sIx]
  | some i =>
   simp only[sliceBounds,HT.sIx,Option.getD_none,show(1:Int) > 0 by decide,if_true]
   by_cases h:i<0
   .simp only[h,if_true]<;>omega
   .simp only[h,if_false]<;>omega
theorem pJ(its:List Value)(lo hi:Option Int):slicePick its.toArray lo hi none=((its.drop (HT.sIx its.length 0 lo)).take (HT.sIx its.length its.length hi-HT.sIx its.length 0 lo)).toArray:=by obtain⟨h1,h2,h3⟩:=so lo hi its.toArray.size;unfold slicePick;rw[h1,h2,h3];simp only[sliceRange_one,pick_run,List.size_toArray]<;>rfl
def ale(K:FG):V->Option Int->Option Int->Hp->VK->Prop:=λ x lo hi H Q=>∃ a xs,x=.ref a/\SqL K H a xs/\∀ p,H p=none->Q (.ref p) (upd H p (.lst (acU xs lo hi)))
theorem afJ:SlR X (ale X.K):=by intro pins s σ H x v vl vu lo hi sl Q I rx hs pl pu h;obtain⟨a,xs,rfl,hx,q⟩:=h;cases rx;obtain⟨its,r,ht,hz⟩:=I.list hx;have hlen:=r.length;refine⟨"list",_,slot_list_getitem.lookup,ht.isList.typeIs,?_⟩;refine wpAny_getItem_list_slice ht.isList hs pl pu .none (by simp) ?_ (by rw[List.size_toArray]<;>omega);rw[pJ,<- hlen];refine⟨.ref s.heap.objs.size,_,I.laid (t':=s.toks) (o:=.lst (acU xs lo hi)) (λ b ob q=>Heap.get?_push_of_some _ q) (lr0 _) ?_,rfl,q _ (I.hok.fresh (lr0 _))⟩;exact⟨Nat.le_trans (lG xs lo hi) hz,_,0,(r.drop (HT.sIx xs.length 0 lo)).take (HT.sIx xs.length xs.length hi-HT.sIx xs.length 0 lo),Heap.get?_push_size _ rfl⟩
theorem jQ:dr X (.type "list") (λ xs H Q=>∃ p ys,xs=[.ref p]/\(SqL X.K H p ys\/SqT X.K H p ys)/\∀ l,H l=none->Q (.ref l) (upd H l (.lst ys))):=by
 intro pins s σ H xs us Q I r h;obtain⟨p,ys,rfl,hq,q⟩:=h;obtain⟨u,rfl,rx⟩:=vals1 r;cases rx;have fin:∀ (its:List Value),Vals ys its->ys.length<=sizeLine->∀ (h':Heap) (c':Nat),(∀ b o',s.heap.get? b=some o'->h'.get? b=some o') ->
   h'.get? s.heap.objs.size=some {cls:=.type "list",dict:=none,data:=.seq its.toArray c',slots:=#[]}->EP X pins σ Q (.ref s.heap.objs.size) {s with heap:=h'}:=λ its r' hz h' c' kp e =>
  ⟨.ref s.heap.objs.size,_,I.laid (t':=s.toks) kp (lr0 _) (show cF X.prog X.w _ h' _ (.lst ys) from⟨hz,its,c',r',e⟩),rfl,q _ (I.hok.fresh (lr0 _))⟩
 rcases hq with hq | hq
 .obtain⟨its,r',pl,hz⟩:=I.list hq;have hlen:=r'.length;obtain⟨o,ho,hc,n,hd⟩:=pl.isList;exact call_list_seq p (.inl rfl) ho hc hd (λ h' c' kp e=>fin its r' hz h' c' kp e) (by simp only[List.size_toArray]<;>omega)
 .obtain⟨its,r',pl,hz⟩:=I.tuple hq;have hlen:=r'.length;obtain⟨o,ho,hc,n,hd⟩:=pl;exact call_list_seq p (.inr rfl) ho hc hd (λ h' c' kp e=>fin its r' hz h' c' kp e) (by simp only[List.size_toArray]<;>omega)
theorem pU:dr X (.type "tuple") (λ xs H Q=>∃ p ys,xs=[.ref p]/\((SqL X.K H p ys/\∀ l,H l=none->Q (.ref l) (upd H l (.tup ys)))\/(SqT X.K H p ys/\Q (.ref p) H))):=by
 intro pins s σ H xs us Q I r h;obtain⟨p,ys,rfl,h⟩:=h;obtain⟨u,rfl,rx⟩:=vals1 r;cases rx;rcases h with ⟨hq,q⟩ | ⟨hq,q⟩
 .obtain⟨its,r',pl,hz⟩:=I.list hq;have hlen:=r'.length;refine call_tuple_list pl.isList (λ h' kp=>?_) (by simp only[List.size_toArray]<;>omega);have I1:Inv X pins σ H {s with heap:=h'}:=I.kept (t':=s.toks) kp;have I2:Inv X pins σ (upd H h'.objs.size (.tup ys)) {s with heap:=h'.push {cls:=.type "tuple",data:=.seq its.toArray}}:=
   I1.laid (t':=s.toks) (λ b o e=>Heap.get?_push_of_some _ e) (lr0 _) (show cF X.prog X.w _ _ _ (.tup ys) from⟨hz,its,r',abE.new _ _⟩)
  exact⟨.ref h'.objs.size,_,I2,rfl,q _ (I1.hok.fresh (lr0 _))⟩
 .obtain⟨its,r',pl,hz⟩:=I.tuple hq;exact call_tuple_same pl ⟨.ref p,H,I,rfl,q⟩
def tyV(K:FG)(T:String)(x:V)(H:Hp):Prop:=match x with
 | .str _=>T = "str"
 | .int _=>T = "int"
 | .ref p=>(T = "list" /\ ∃ xs,SqL K H p xs)\/(T = "tuple" /\ ∃ xs,SqT K H p xs) \/
   (T = "dict" /\ ((∃ kvs,H p=some (.dK kvs))\/∃ kvs,H p=some (.dT kvs)))\/(T = "set" /\ ∃ S n,H p=some (.set S n))
 | _=>False
theorem aia(I:Inv X pins σ H s)(r:RelV x v)(ty:tyV X.K T x H) :
  s.TypeIs v T/\∀ a,v=.ref a->∃ ob,s.heap.get? a=some ob/\ob.dict=none:=by
 cases x with
 | str z =>
  obtain⟨t,rfl⟩:=r;cases (show T = "str" from ty);exact⟨typeIs_str s z t,λ _ e=>nomatch e⟩
 | int i =>
  obtain⟨t,rfl⟩:=r;cases (show T = "int" from ty);exact⟨typeIs_int s i t,λ _ e=>nomatch e⟩
 | ref p =>
  cases r;rcases ty with ⟨rfl,xs,hq⟩ | ⟨rfl,xs,hq⟩ | ⟨rfl,hk⟩ | ⟨rfl,S,n,hk⟩
  .obtain⟨its,_,pl,_⟩:=I.list hq;refine⟨pl.isList.typeIs,λ a e=>?_⟩;cases e;obtain⟨o,n,e,c,hd,_⟩:=pl;exact⟨o,e,hd⟩
  .obtain⟨its,_,⟨o,h1,h2,h3,_⟩,_⟩:=I.alp hq;refine⟨⟨o,h1,h2⟩,λ a e=>?_⟩;cases e;exact⟨o,h1,h3⟩
  .have z:∃ o,s.heap.get? p=some o/\o.ExactDict:=by
    rcases hk with ⟨kvs,hk⟩ | ⟨kvs,hk⟩
    .obtain⟨_,_,_,_,o,_,_,e,ex,_⟩:=I.hok p _ hk;exact⟨o,e,ex⟩
    .obtain⟨_,_,_,_,o,_,_,e,ex,_⟩:=I.hok p _ hk;exact⟨o,e,ex⟩
   obtain⟨o,e,ex⟩:=z;refine⟨⟨o,e,ex.1⟩,λ a e2=>?_⟩;cases e2;exact⟨o,e,ex.2.1⟩
  .obtain⟨o,_,_,_,e,ex,_⟩:=I.hok p _ hk;refine⟨⟨o,e,ex.1⟩,λ a e2=>?_⟩;cases e2;exact⟨o,e,ex.2.1⟩
 | _=>exact False.elim ty
def tBM(K:FG)(T:String)(r:V->List V->Hp->VK->Prop)(to:TE)(t:TA):TE:=λ σ H Q=>to σ H λ x H1=>tyV K T x H1/\t σ H1 λ xs H2=>r x xs H2 Q
variable {o e:Expr}{es:List Expr}{to:TE}{t:TA}{name:Str}{apos cpos:Pos}{T id:String}{r:V->List V->Hp->VK->Prop}
theorem ajG(pa:PlainAttrs T)(slot:Slot T name id)(hty:typeOf (.builtin id)=pure (.type "method_descriptor"))(hm:MtR X id r)(ho:PE X o to)(ha:PA X (e::es) t)
  (hbase:attributeBase o name X.env (eval o X.env)=eval o X.env:=by rfl)
  (hfew:((backTo cpos (starEach (e::es) X.env)).all (λ x=>!x.1)&&(backToKw cpos (keywordEach [] X.env)).all (λ x=>x.1.isSome)
   && decide ((e::es).length+([]:List Keyword).length+(if ([]:List Keyword).isEmpty then 0 else 1)<30))=true:=by rfl)
  (hline:(apos.endLine==cpos.line)=true:=by rfl)(hs:starEach (e::es) X.env=(false,eval e X.env)::starEach es X.env:=by rfl)(hplain:(backTo cpos (starEach es X.env)).any (·.1)=false:=by rfl) :
  PE X (.Call (.Attribute o name apos) (e::es) [] cpos) (tBM X.K T r to t):=by
 intro pins s σ H Q I h;refine wpAny_Call_method_late hbase hfew hline rfl (thn (ho pins s σ H _ I h) λ v s1 hq26=>?_);obtain⟨x,H1,I1,r1,ty,q1⟩:=hq26;obtain⟨h1,h2⟩:=aia I1 r1 ty;refine⟨T,id,pa,slot,hty,h1,h2,?_⟩;have hA:=ha cpos pins s1 σ H1 _ I1 q1;rw[hs] at hA ⊢;refine Calls.callWith_builtin (by show(false || (backTo cpos (starEach es X.env)).any (·.1))=false;rw[hplain]<;>rfl) (Calls.evalArgs_plain ?_);exact thn hA λ us s2 ⟨vs,H2,I2,r2,q2⟩=>hm pins s2 σ H2 x vs v us Q I2 r1 r2 q2
end
def MtM(X:Cx)(id:String)(r:V->List V->Hp->VK->Prop):Prop:=
 ∀ (pins:PN) (s:Shared) (σ:St) (H:Hp) (x:V) (xs:List V) (v:Value) (us:List Value) (Q:VK),Inv X pins σ H s->RelV x v->Vals xs us->r x xs H Q ->
  wpAny (model X.prog X.w) X.A (call (.builtin id) (v::us)) (EP X pins σ Q) X.xe s
theorem Vals.one:∀ {x:V} {us:List Value},Vals [x] us->∃ u,us=[u]/\RelV x u
 | _,_,.cons r .nil=>⟨_,rfl,r⟩
theorem Inv.alN{its its':List Value}{n:Nat}{t':Nat}(I:Inv X pins σ H s)(hH:H l=some (.lst xs))
  (e:s.heap.get? l=some {cls:=.type "list",data:=.seq its.toArray n})(hf:f its.toArray=its'.toArray)(hv:Vals ys its')(hz:ys.length<=sizeLine) :
  Inv X pins σ (upd H l (.lst ys)) {s with heap:=s.heap.update l (Obj.mapSeq f),toks:=t'}:=by
 have q:=PySem.IsL.update e f;rw[hf] at q;refine I.write (x:=l) (e:=l) (by rw[hH];exact trivial) (.inl rfl) (λ b' u hb hu=>(Heap.get?_update_other s.heap (Obj.mapSeq f) (Ne.symm hb)).trans hu) ⟨_,q⟩ ?_;exact⟨hz,its',_,hv,q⟩
theorem Inv.alw(I:Inv X pins σ H s)(hv:Vals ys its)(hz:ys.length<=sizeLine) :
  Inv X pins σ (upd H s.heap.objs.size (.lst ys)) {s with heap:=s.heap.push {cls:=.type "list",data:=.seq its.toArray},toks:=t'}:=
 I.laid (λ _ _ q=>Heap.get?_push_of_some _ q) (lr0 _) ⟨hz,its,0,hv,Heap.get?_push_size _ rfl⟩
theorem Inv.fresh(I:Inv X pins σ H s):H s.heap.objs.size=none:=I.hok.fresh (lr0 _)
theorem Inv.alR(I:Inv X pins σ H s)(hH:H l=some (.lst xs)):xs.length<=sizeLine/\∃ (its:List Value) (n:Nat),Vals xs its/\xs.length=its.length/\s.heap.get? l=some {cls:=.type "list",data:=.seq its.toArray n}:=by obtain⟨z,its,n,r,e⟩:=I.hok l _ hH;exact⟨z,its,n,r,r.length,e⟩
def aes:V->List V->Hp->VK->Prop:=λ x vs H Q=>∃ l xs y,x=.ref l/\vs=[y]/\H l=some (.lst xs)/\xs.length<sizeLine/\Q .non (upd H l (.lst (xs++[y])))
theorem zC:MtM X "list.append" aes:=by intro pins s σ H x vs v us Q I rx rv h;obtain⟨l,xs,y,rfl,rfl,hH,hz,q⟩:=h;cases rx;obtain⟨u,rfl,ru⟩:=rv.one;obtain⟨z,its,n,r,hl,e⟩:=I.alR hH;refine call_meets F.slot_list_append ⟨_,e,rfl⟩ F.entry_list_append (F.args_list_append_2 _ _) (PySem.list_append l its.toArray n u (by rw[List.size_toArray];omega)) ⟨e,?_⟩;refine⟨.non,_,I.alN (its':=its++[u]) hH e (by simp) (r.append (.cons ru .nil)) ?_,rfl,q⟩;rw[List.length_append,List.length_singleton];omega
end L2
namespace Att
open PySem PySem.W PySem.Calls PyProof.Rows
theorem k9:∀ (ns:List Int) (vs:List Value),WellAll P h vs (ns.map WData.int)->IntsAre vs ns:=by
 intro ns
 induction ns with
 | nil =>
  intro vs w;rw[List.map_nil] at w;cases w;exact .nil
 | cons n ns ih =>
  intro vs w;rw[List.map_cons] at w;cases w with
  | cons a b =>
   cases a;exact .cons _ _ (ih _ b)
theorem zd{l:OpenLaw}{n:Nat}(hn:l.most=some n){args:List WData}{vals:List Value}
  (hpre:l.row.toRowW.claim.pre args=true)(hwl:WellAll P h vals args) :
  ∃ a vs ns,vals=[Value.ref a]/\args=[WData.list (ns.map WData.int)]/\h.get? a=some {cls:=.type "list",data:=.seq vs.toArray}/\IntsAre vs ns/\ns.length<=n:=by
 have hsh:WShape.hasAll [] args [.list .int]=true:=(pre_splitW hpre).1;have hc:l.pre.holds [] {args:=args}=true:=(pre_splitW hpre).2;obtain⟨d,r,rfl,h1,h2⟩:=hasAllW_cons hsh;obtain rfl:=hasAllW_nil h2;obtain⟨xs,rfl,h3⟩:=hasW_list h1;obtain⟨ns,rfl⟩:=items_int h3;have hlen:ns.length<=n:=by
  unfold OpenLaw.pre at hc;have h4:(WTm.not (.lt (.lit (.int (n:Int))) (.len (.arg 0)))).holds [] {args:=[.list (ns.map .int)]}=true:=by have h4:=(holds_andW hc).1;rw[hn] at h4;exact h4
  have h5:=condW_of h4 (w_not (w_lt w_lit (w_len_list (w_arg rfl))));rw[lm] at h5;refine Nat.le_of_not_lt λ q=>?_;have q':(n:Int)<((ns.length:Nat):Int):=by omega
  first
   | (rw[decide_eq_true q'] at h5;exact absurd h5 (by decide))
   | (simp at h5;omega)
 cases hwl with
 | cons w1 w2 =>
  cases w2;cases w1 with
  | list ho hall=>exact⟨_,_,ns,rfl,rfl,ho,k9 ns _ hall,hlen⟩
theorem zw(l:OpenLaw)(args:List WData):l.row.toRowW.claim.post args (.bool true) args=true:=
 postW_of (r:=l.row.toRowW) (X:=(true==true))
  (show WShape.has [] (.bool true) .bool=true by first | rfl | decide | simp[WShape.has,WShape.arms,WShape.armsAll])
  (show(WTm.eq .res (.lit (.bool true))).value [] {args:=args,res:=some (.bool true),after:=args}=some (.bool (true==true)) from w_eq_bool (w_res rfl) w_lit) rfl
theorem uo{l:OpenLaw}{n:Nat}{q:Program}{loose:List Str}{XP:(Str->Option Value)->Heap->Prop}{YP:World->Heap->Prop}{d:DefRec}
  (hn:l.most=some n)(hdf:d.params.defaults=[])
  (call:∀ (w:World) (s₀ s₁:Shared) (mg mb:Str->Option Value) (fa:Addr) (o:Obj) (pm cd doc:Value) (a:Addr) (vs:List Value) (ns:List Int),
   Ground q loose [] XP w s₀ mg mb s₁.heap->YP w s₁.heap ->
   s₁.heap.get? fa=some o->o.data=.func (docDef d.name d.params d.body d.scope pm cd doc)->s₁.heap.CodeRec cd d.name->mg d.name=some (.ref fa) ->
   s₁.heap.get? a=some {cls:=.type "list",data:=.seq vs.toArray}->IntsAre vs ns->ns.length<=n->s₁.gens = #[] ->
   codeAny (model l.prog w) callerA (.call (.ref fa) ⟨[.ref a],[]⟩) (λ r s'=>r=.ok (.ret (.bool true))/\OldK s₁.heap s'.heap/\s'.os=s₁.os/\AllBare s'.gens) s₁) :
  WalkO q loose XP YP l.row.toRowW d [] (λ f vs=>PySem.call f vs):=by
 intro w s₀ s₁ mg mb G Y fa o pm cd doc dV kV ho hd hcd hD hmg hg args vals as hpre hlay hrd hwl hlo;obtain rfl:dV=.none:=Dflts.none hD hdf;obtain rfl:kV=.none:=Dflts.noKw hD;obtain⟨a,vs,ns,rfl,rfl,hobj,hints,hlen⟩:=zd hn hpre hwl;refine enter_call (codeAny_mono (call w s₀ s₁ mg mb fa o pm cd doc a vs ns G Y ho (fd_plain hd) hcd hmg hobj hints hlen hg) λ r s' hq=>?_);obtain⟨rfl,h2,h3,h4⟩:=hq;exact⟨.inl ⟨.bool true,.bool true,[],rfl,λ _=>rfl,.bool true,zw l _,λ _=>⟨List.Pairwise.nil,λ _ hm=>(nomatch hm)⟩⟩,h2,h3,h4⟩
section
variable {prog:Program}{w:World}{A:Around}{E:VP}{s:Shared}{K:Frag}
end
end Att
namespace L2
theorem qZ:∀ {vs:List Value} {ns:List Int},IntsAre vs ns->Vals (ns.map V.int) vs
 | _,_,.nil=>.nil
 | _,_,.cons n t h=>.cons ⟨t,rfl⟩ (qZ h)
def inClass(s:Stmt)(j:Nat):Stmt:=match s with
 | .ClassDef _ _ _ body _ _ _ _ _ _ _=>body.getD j (.Pass ⟨0,0,0,0⟩)
 | _=>.Pass ⟨0,0,0,0⟩
def bw(s:Stmt):Arguments:=match s with
 | .FunctionDef _ a _ _ _ _ _ _ _ _=>a
 | _=>{posonlyargs:=[],args:=[],vararg:=none,kwonlyargs:=[],kw_defaults:=[],kwarg:=none,defaults:=[]}
def aW(s:Stmt):List Stmt:=match s with
 | .FunctionDef _ _ b _ _ _ _ _ _ _=>b
 | _=>[]
def aC(s:Stmt):Scope:=match s with
 | .FunctionDef _ _ _ _ _ _ sc _ _ _=>sc
 | _=>{kind:=.function,names:=[],isGenerator:=false,isCoroutine:=false}
abbrev CX0:CXT:=λ _ _ _ _ _ _=>False
abbrev E0:XK:=λ _ _ _=>False
theorem zM:Passes CX0 X E0:=λ _ _ _ _ _ _ _ h=>h.elim
structure Fun(K:FG)(x qual:Str)(st:Stmt)(f:Addr)(fd:FuncData):Prop where
 ex:∃ (oc:Value) (od:Option Addr) (kV doc pm:Value) (an:Option Addr) (cdv ct:Value) (osl:Array (Option Value)),
  fd=W.fnOf x qual (bw st) (aW st) (aC st) .none kV doc pm an cdv ct/\K.lookup f=some ⟨oc,od,.func fd,osl⟩/\W.codeIn K cdv qual=true
 kp:W.keepIn K (.ref f)=true
section
variable {P:Program}{w:World}{K:FG}{mg:Str->Option Value}{base:Heap}
theorem Fun.ok{x qual:Str}{st:Stmt}{N ps:List Str}{k:Nat}{sp:Sp}(F:Fun K x qual st f fd)(S:jo N ps (aC st))(len:∀ vs H Q E,sp vs H Q E->vs.length=ps.length)
  (hbody:∀ (cdv:Value) (A:Around) (outer:List Env) (s:Shared) (H:Hp) (vs:List V) (Q:VK) (E:XK),cI k (A.deeper (envOfC qual (aC st) s.heap.objs.size f cdv))->sp vs H Q E ->
   ∃ t,PSs (adl CX0 P w K mg base N qual (aC st) f cdv A outer s H E).nox (aW st) t/\t {nx:=λ _ H'=>Q .non H',rt:=Q} (start N vs) H):ck P w K mg base CX0 (k+1) f fd ps sp:=by
 obtain⟨oc,od,kV,doc,pm,an,cdv,ct,osl,rfl,lk,hcd⟩:=F.ex;refine ajk lk hcd S len λ A outer s H vs Q E hr hsp=>?_;obtain⟨t,h,q⟩:=hbody cdv A outer s H vs Q E hr hsp;exact⟨t,h.nox,q⟩
theorem Fun.binds{x qual:Str}{st:Stmt}{ps:List Str}(F:Fun K x qual st f fd)
  (h:∀ (kV doc pm:Value) (an:Option Addr) (cdv ct:Value) (us:List Value),us.length=ps.length->bindArgs (W.fnOf x qual (bw st) (aW st) (aC st) .none kV doc pm an cdv ct) ⟨us,[]⟩=pure (ps.zip us)):Binds K fd ps []:=by
 obtain⟨oc,od,kV,doc,pm,an,cdv,ct,osl,rfl,lk,hcd⟩:=F.ex;exact .all (h kV doc pm an cdv ct)
theorem aaQ{x qual:Str}{st:Stmt}{oc:Value}{od an:Option Addr}{osl:Array (Option Value)}{kV doc pm cdv ct:Value}(l:K.lookup f=some ⟨oc,od,.func (W.fnOf x qual (bw st) (aW st) (aC st) .none kV doc pm an cdv ct),osl⟩)
  (c:W.codeIn K cdv qual=true)(k:W.keepIn K (.ref f)=true):Fun K x qual st f (W.fnOf x qual (bw st) (aW st) (aC st) .none kV doc pm an cdv ct):=⟨⟨oc,od,kV,doc,pm,an,cdv,ct,osl,rfl,l,c⟩,k⟩
end
theorem wt(hr:cI k A):A.units+1<cLine:=Nat.lt_of_le_of_lt (Nat.add_le_add_left (by decide:1<=64) _) hr.units
theorem jf{A B:Prop}(h:B):if false=true then A else B:=by rw[if_neg ft0];exact h
theorem sF{A B:Prop}(h:A):if true=true then A else B:=by rw[if_pos rfl];exact h
section
variable {κ:Type}[DecidableEq κ]
def xv(kvs:List (κ×V))(k:κ):Option V:=(kvs.find? λ kv=>decide (kv.1=k)).map (·.2)
def putK(kvs:List (κ×V))(k:κ)(v:V):List (κ×V):=
 if (kvs.any λ kv=>decide (kv.1=k))=true then kvs.map (λ kv=>if kv.1=k then (kv.1,v) else kv) else kvs++[(k,v)]
theorem kJ{r:List (κ×V)}{k:κ}(e:p.1=k):xv (p::r) k=some p.2:=by simp[xv,List.find?_cons,e]
theorem kK{r:List (κ×V)}{k:κ}(e:¬ p.1=k):xv (p::r) k=xv r k:=by simp[xv,List.find?_cons,e]
theorem uz(k:κ):∀ kvs:List (κ×V),(kvs.any λ kv=>decide (kv.1=k))=(xv kvs k).isSome
 | []=>rfl
 | p::r=>by
  rw[List.any_cons]
  by_cases e:p.1=k
  .simp only[kJ e,decide_eq_true e,Bool.true_or,Option.isSome_some]
  .rw[kK e,decide_eq_false e,Bool.false_or];exact uz k r
theorem iC(kvs:List (κ×V))(k:κ)(v:V):(putK kvs k v).length<=kvs.length+1:=by
 unfold putK
 split
 .rw[lm];omega
 .rw[List.length_append,List.length_cons,List.length_nil];omega
theorem qP.mD(r:qP o u):o.isSome=u.isSome:=by
 cases o with
 | none=>cases u with
  | none=>rfl
  | some _=>exact(show False from r).elim
 | some _=>cases u with
  | none=>exact(show False from r).elim
  | some _=>rfl
theorem qP.getD(r:qP o u)(rd:RelV d d'):RelV (o.getD d) (u.getD d'):=by
 cases o with
 | none=>cases u with
  | none=>exact rd
  | some _=>exact(show False from r).elim
 | some _=>cases u with
  | none=>exact(show False from r).elim
  | some _=>exact r
theorem KV.val(r:KV kvs vs)(k:κ):qP (xv kvs k) (valueAt vs k):=by
 unfold KV at r
 induction r with
 | nil=>exact True.intro
 | @cons p q ps qs h t ih =>
  obtain⟨h1,h2⟩:=h
  by_cases e:p.1=k
  .have e':q.1=k:=h1.symm.trans e;have b:valueAt (q::qs) k=some q.2:=by simp[valueAt,List.find?_cons,e']
   rw[kJ e,b];exact h2
  .have e':¬ q.1=k:=λ z=>e (h1.trans z);have b:valueAt (q::qs) k=valueAt qs k:=by simp[valueAt,List.find?_cons,e']
   rw[kK e,b];exact ih
theorem KV.any(r:KV kvs vs)(k:κ):(kvs.any λ kv=>decide (kv.1=k))=vs.any λ kv=>decide (kv.1=k):=by
 unfold KV at r
 induction r with
 | nil=>rfl
 | cons h t ih=>rw[List.any_cons,List.any_cons,ih,h.1]
theorem KV.akh(r:KV kvs vs)(k:κ)(ry:RelV y u) :
  KV (kvs.map λ kv=>if kv.1=k then (kv.1,y) else kv) (vs.map λ kv=>if kv.1=k then (kv.1,u) else kv):=by
 unfold KV at r ⊢
 induction r with
 | nil=>exact .nil
 | @cons p q ps qs h t ih =>
  rw[List.map_cons,List.map_cons];refine .cons ?_ ih;obtain⟨h1,h2⟩:=h
  by_cases e:p.1=k
  .rw[if_pos e,if_pos (h1.symm.trans e)];exact⟨h1,ry⟩
  .rw[if_neg e,if_neg (λ z=>e (h1.trans z))];exact⟨h1,h2⟩
theorem KV.put(r:KV kvs vs)(k:κ)(ry:RelV y u):KV (putK kvs k y) (stored vs k u):=by
 unfold putK stored;rw[r.any k]
 by_cases e:(vs.any λ kv=>decide (kv.1=k))=true
 .rw[if_pos e,if_pos e];exact r.akh k ry
 .rw[if_neg e,if_neg e];exact Paired.snoc r ⟨rfl,ry⟩
theorem KV.length(r:KV kvs vs):kvs.length=vs.length:=Paired.length r
end
theorem qO(r:RelV (kV k) u):(a9 P w).is k u=true:=by
 cases k with
 | inl i=>obtain⟨t,e⟩:=(show ∃ t,u=Value.int i t from r);subst e;exact tM P w i t
 | inr x=>obtain⟨t,e⟩:=(show ∃ t,u=Value.str x t from r);subst e;exact tN P w x t
theorem mR:∀ {ks:List Key} {us:List Value},Vals (ks.map kV) us->ItemsAre (a9 P w) ks us
 | [],_,r=>by rw[List.map_nil] at r;cases r;exact .nil
 | k::ks,_,r=>by
  rw[List.map_cons] at r;cases r with
  | cons h t=>exact .cons (qO h) (mR t)
abbrev KT(H:Hp):List (List Key×V)->List (List Key×Addr×Value)->Prop:=Paired λ p q=>p.1=q.1/\H q.2.1=some (.tup (p.1.map kV))/\RelV p.2 q.2.2
theorem KT.val(r:KT H kvs xs)(k:List Key):qP (xv kvs k) ((atKey xs k).map (·.2)):=by
 induction r with
 | nil=>exact True.intro
 | @cons p q ps qs h t ih =>
  obtain⟨h1,_,h2⟩:=h
  by_cases e:p.1=k
  .have e':q.1=k:=h1.symm.trans e;have b:atKey (q::qs) k=some q.2:=by simp[atKey,List.find?_cons,e']
   rw[kJ e,b];exact h2
  .have e':¬ q.1=k:=λ z=>e (h1.trans z);have b:atKey (q::qs) k=atKey qs k:=by simp[atKey,List.find?_cons,e']
   rw[kK e,b];exact ih
theorem KT.akh(r:KT H kvs xs)(k:List Key)(ry:RelV y u) :
  KT H (kvs.map λ kv=>if kv.1=k then (kv.1,y) else kv) (xs.map (putAt k u)):=by
 induction r with
 | nil=>exact .nil
 | @cons p q ps qs h t ih =>
  rw[List.map_cons,List.map_cons];refine .cons ?_ ih;obtain⟨h1,h2,h3⟩:=h;unfold putAt
  by_cases e:p.1=k
  .rw[if_pos e,if_pos (h1.symm.trans e)];exact⟨h1,h2,ry⟩
  .rw[if_neg e,if_neg (λ z=>e (h1.trans z))];exact⟨h1,h2,h3⟩
theorem KT.put(r:KT H kvs xs)(k:List Key)(hb:H b=some (.tup (k.map kV)))(ry:RelV y u) :
  KT H (putK kvs k y) (storedH xs k b u):=by
 have e:(kvs.any λ kv=>decide (kv.1=k))=(atKey xs k).isSome:=by rw[uz,(r.val k).mD,Option.isSome_map]
 unfold putK storedH;rw[e]
 by_cases q:(atKey xs k).isSome=true
 .rw[if_pos q,if_pos q];exact r.akh k ry
 .rw[if_neg q,if_neg q];exact Paired.snoc r ⟨rfl,hb,ry⟩
theorem KT.keeps(r:KT H kvs xs)(ht:∀ b ys,H b=some (.tup ys)->H' b=some (.tup ys)):KT H' kvs xs:=
 Paired.fD r λ _ _ z=>⟨z.1,ht _ _ z.2.1,z.2.2⟩
theorem ahz(ok:HOk P w H h)(e:Rd H a u):cF P w H h a u:=e.ok ok
theorem aaD(ok:HOk P w H h)(e:Rd H a (.dK kvs)):kvs.length<=sizeLine/\(a==sysModules)=false/\∃ vs,KV kvs vs/\h.DictOf (a9 P w) a vs:=
 show cF P w H h a (.dK kvs) from ahz ok e
theorem ahA(ok:HOk P w H h)(e:H a=some (.dK kvs)):kvs.length<=sizeLine/\(a==sysModules)=false/\∃ vs,KV kvs vs/\h.DictOf (a9 P w) a vs:=aaD ok (.inl e)
theorem ac9(ok:HOk P w H h)(e:H a=some (.tup (ks.map kV))):(tupleKind (a9 P w)).is h ks a:=by obtain⟨_,its,r,o,h1,h2,_,n,h3⟩:=(show cF P w H h a (.tup (ks.map kV)) from ok a _ e);exact⟨o,its.toArray,n,h1,h2,h3,by simpa using mR r⟩
theorem yq(ok:HOk P w H h)(e:Rd H a (.dT kvs)):kvs.length<=sizeLine/\(a==sysModules)=false /\
  ∃ xs,KT H kvs xs/\h.DictOfH (tupleKind (a9 P w)) a xs:=by
 obtain⟨z,y,xs,r,o,es,ep,h1,h2,h3,h4,h5⟩:=(show cF P w H h a (.dT kvs) from ahz ok e);refine⟨z,y,xs,r,o,es,ep,h1,h2,h3,h4,λ x hx=>?_,h5⟩;have all:∀ {l:List (List Key×V)} {m:List (List Key×Addr×Value)},KT H l m->∀ x∈m,(tupleKind (a9 P w)).is h x.1 x.2.1:=by
  intro l m q
  induction q with
  | nil=>intro x hx;exact nomatch hx
  | @cons p q ps qs hq t ih =>
   intro x hx;rcases List.mem_cons.mp hx with e | hx
   .subst e;exact ac9 ok (by rw[<- hq.1];exact hq.2.1)
   .exact ih x hx
 exact all r x hx
theorem aks(ok:HOk P w H h)(e:H a=some (.dT kvs)):kvs.length<=sizeLine/\(a==sysModules)=false /\
  ∃ xs,KT H kvs xs/\h.DictOfH (tupleKind (a9 P w)) a xs:=yq ok (.inl e)
def ala(H:Hp)(a:Addr)(y v:V)(H':Hp):Prop:=
 (∃ kvs k,H a=some (.dK kvs)/\y=kV k/\kvs.length<sizeLine/\H'=upd H a (.dK (putK kvs k v))) \/
 ∃ kvs k b,H a=some (.dT kvs)/\y=.ref b/\H b=some (.tup (k.map kV))/\kvs.length<sizeLine/\H'=upd H a (.dT (putK kvs k v))
section
variable {X:Cx}{pins:PN}{σ:St}{H:Hp}{s:Shared}{a:Addr}{y v:V}{u r:Value}{o:Option V}{A:Around}{E:VP}
theorem Inv.big(I:Inv X pins σ H s):sysModules<s.heap.objs.size:=by have h:mainGlobals<s.heap.objs.size:=(I.mod.glob.keeps I.bk).lt;exact Nat.lt_trans (by decide) h
theorem tG(I:Inv X pins σ H s)(mu:Mut (H a))(hs:Heap.SameBut a s.heap h')(he:∃ q,h'.get? a=some q)(new:cF X.prog X.w (upd H a ob) h' a ob) :
  Inv X pins σ (upd H a ob) {s with heap:=h',toks:=t'}:=
 I.write (x:=a) (e:=a) mu (.inl rfl) (λ b q hb z=>(hs.2 b hb).trans z) he new
theorem aay(z:kvs.length<=sizeLine)(hd:(a==sysModules)=false)(rel:KV kvs vs)(dd:h'.DictOf (a9 P w) a vs) :
  cF P w H' h' a (.dK kvs):=⟨z,hd,vs,rel,dd⟩
theorem yc(hu:A.units+1<cLine)(I:Inv X pins σ H s)(g:ala H a y v H')(ry:RelV y u)(rv:RelV v r)(h:∀ s',Inv X pins σ H' s'->Q () s') :
  wpAny (model X.prog X.w) A (setItem (.ref a) u r) Q E s:=by
 rcases g with ⟨kvs,k,e,ey,l,eH⟩ | ⟨kvs,k,b,e,ey,eb,l,eH⟩
 .subst ey eH;obtain⟨z,hd,vs,rel,dd⟩:=ahA I.hok e;have hz:vs.length<=sizeLine:=by rw[<- rel.length];exact z
  have hl:(putK kvs k v).length<=sizeLine:=by have:=iC kvs k v;omega
  refine wpAny_setItem_pairs (hsz:=hz) (qO ry) dd λ h' dd' hs=>h _ ?_;have he:∃ q,h'.get? a=some q:=let ⟨q,_,_,hq,_⟩:=dd'; ⟨q,hq⟩;exact tG I (by rw[e];exact True.intro) hs he (aay hl hd (rel.put k rv) dd')
 .subst ey eH;cases (show u=Value.ref b from ry);obtain⟨z,hd,xs,rel,dd⟩:=aks I.hok e;have hz:xs.length<=sizeLine:=by rw[<- Paired.length rel];exact z
  have hl:(putK kvs k v).length<=sizeLine:=by have:=iC kvs k v;omega
  refine wpAny_setItem_heap (hsz:=hz) (tupleKind_room_in1 hu) (ac9 I.hok eb) dd λ h' dd' hs=>h _ ?_;obtain⟨q,es,ep,hq,h2,h3,h4,_,h5⟩:=dd';refine tG I (by rw[e];exact True.intro) hs ⟨q,hq⟩ ⟨hl,hd,_,(rel.put k eb rv).keeps λ c ys ec=>?_,q,es,ep,hq,h2,h3,h4,h5⟩;rw[ai (xj ec e (λ z=>nomatch z))];exact ec
end
section
variable {X:Cx}{pins:PN}{σ:St}{H:Hp}{s:Shared}{a:Addr}{kvs:List (Key×V)}{k:Key}{u:Value}{A:Around}{E:VP}
end
def ajC(i:Expr):Prop:=∀ ov iv,subscripted i false ov iv=operate [ov,iv] (getItem ov iv)
theorem af8{env:Env}{value slice:Expr}{T id:String}
  (hl:typeLookup (.type T) "__getitem__" = pure (some (.builtin id)))(hs:ajC slice)
  (h:wpAny (model prog w) A (eval value env) (λ o s₁=>wpAny (model prog w) A (eval slice env) (λ i s₂=>s₂.TypeIs o T/\wpAny (model prog w) A (getItem o i) Q E s₂) E s₁) E s) :
  wpAny (model prog w) A (eval (.Subscript value slice pos) env) Q E s:=by
 refine Subscript_ (wpAny_mono h (λ o s₁ h₁=>wpAny_mono h₁ (λ i s₂ h₂=>?_) λ _ _ x=>x) λ _ _ x=>x);obtain⟨hT,h₂⟩:=h₂;unfold subscriptTail;refine wb0 ?_;rw[getitemInPython_of_ne hT.not_modules];refine wb0 (wpAny_specialOf hT hl ?_);have fin:wpAny (model prog w) A (subscripted slice false o i) (λ r s₃=>wpAny (model prog w) A (letTemporaryGo value o r >>= λ _=>pure r) Q E s₃) E s₂:=by rw[hs o i];exact wpAny_operating (wpAny_mono h₂ (λ r s₃ h₃=>wb0 (wpAny_letTemporaryGo (wp h₃))) λ _ _ x=>x)
 first
  | exact wp (wb0 fin)
  | exact wb0 (wp (wb0 fin))
  | exact wb0 fin
def akV(td ty tv:TE):TS:=λ D σ H=>tv σ H λ v H1=>td σ H1 λ x H2=>ty σ H2 λ y H3=>∃ a H4,x=.ref a/\ala H3 a y v H4/\D.nx σ H4
theorem aae(hu:X.A.units+1<cLine)(ho:PE X o td)(hi:PE X i ty)(hv:PE X value tv)(hs:swapsWith value (some (.Subscript o i pos')) pos.line X.env=pure false) :
  PS X (.Assign [.Subscript o i pos'] value pos) (akV td ty tv):=by
 intro pins s σ H D I h;refine wpAny_Assign_Subscript (thn (hv pins s σ H _ I h) λ r s1 ⟨v,H1,I1,rv,q1⟩=>thn (ho pins s1 σ H1 _ I1 q1) λ u s2 ⟨x,H2,I2,rx,q2⟩=>thn (hi pins s2 σ H2 _ I2 q2) λ iv s3 ⟨y,H3,I3,ry,a,H4,ex,g,q3⟩=>?_) hs;subst ex;obtain rfl:u=Value.ref a:=rx;exact yc hu I3 g ry rv λ s4 I4=>⟨σ,H4,I4,q3⟩
theorem vd(h:Heap)(hb:sysModules<h.objs.size):cF P w H (h.push {cls:=.type "dict",data:=.dict #[]}) h.objs.size (.dK []):=
 ⟨Nat.zero_le _,beq_eq_false_iff_ne.mpr (Ne.symm (Nat.ne_of_lt hb)),[],.nil,Heap.DictOf.new h⟩
theorem abz(h:Heap)(hb:sysModules<h.objs.size):cF P w H (h.push {cls:=.type "dict",data:=.dict #[]}) h.objs.size (.dT []):=
 ⟨Nat.zero_le _,beq_eq_false_iff_ne.mpr (Ne.symm (Nat.ne_of_lt hb)),[],.nil,_,#[],0,Heap.get?_push_size _ rfl,⟨rfl,rfl,rfl⟩,rfl,rfl,List.nodup_nil⟩
def ahN:TE:=λ _ H Q=>∀ p,H p=none->Q (.ref p) (upd H p (.dK []))
def ag1:TE:=λ _ H Q=>∀ p,H p=none->Q (.ref p) (upd H p (.dT []))
theorem abR:PE X (.Dict [] [] pos) ahN:=λ pins s σ H Q I h =>
 wpAny_Dict_empty ⟨.ref s.heap.objs.size,_,I.laid (a:=s.heap.objs.size) (o:=.dK []) (t':=s.toks) (λ _ _ q=>Heap.get?_push_of_some _ q) (lr0 _) (vd s.heap I.big),rfl,h _ (I.hok.fresh (lr0 _))⟩
theorem abV:PE X (.Dict [] [] pos) ag1:=λ pins s σ H Q I h =>
 wpAny_Dict_empty ⟨.ref s.heap.objs.size,_,I.laid (a:=s.heap.objs.size) (o:=.dT []) (t':=s.toks) (λ _ _ q=>Heap.get?_push_of_some _ q) (lr0 _) (abz s.heap I.big),rfl,h _ (I.hok.fresh (lr0 _))⟩
structure M1(X:Cx)(o:Expr)(m:Str)(apos:Pos)(e:Expr)(cpos:Pos):Prop where
 base:attributeBase o m X.env (eval o X.env)=eval o X.env
 few:((backTo cpos (starEach [e] X.env)).all (λ x=>!x.1)&&(backToKw cpos (keywordEach [] X.env)).all (λ x=>x.1.isSome)
  && decide (([e]:List Expr).length+([]:List Keyword).length+(if ([]:List Keyword).isEmpty then 0 else 1)<30))=true
 line:(apos.endLine==cpos.line)=true
 trees:backTo cpos (starEach [e] X.env)=[(false,eval e X.env)]
structure M2(X:Cx)(o:Expr)(m:Str)(apos:Pos)(e f:Expr)(cpos:Pos):Prop where
 base:attributeBase o m X.env (eval o X.env)=eval o X.env
 few:((backTo cpos (starEach [e,f] X.env)).all (λ x=>!x.1)&&(backToKw cpos (keywordEach [] X.env)).all (λ x=>x.1.isSome)
  && decide (([e,f]:List Expr).length+([]:List Keyword).length+(if ([]:List Keyword).isEmpty then 0 else 1)<30))=true
 line:(apos.endLine==cpos.line)=true
 trees:backTo cpos (starEach [e,f] X.env)=[(false,eval e X.env),(false,eval f X.env)]
def IsD(H:Hp)(a:Addr):Prop:=(∃ kvs,Rd H a (.dK kvs))\/∃ kvs,Rd H a (.dT kvs)
theorem ac1(I:Inv X pins σ H s)(d:IsD H a) :
  s.TypeIs (.ref a) "dict" /\ (∀ b,Value.ref a=.ref b->∃ ob,s.heap.get? b=some ob/\ob.dict=none)/\(a==sysModules)=false:=by
 rcases d with ⟨kvs,e⟩ | ⟨kvs,e⟩
 .obtain⟨_,hd,vs,_,dd⟩:=aaD I.hok e;refine⟨dd.typeIs,λ b q=>?_,hd⟩;cases q;obtain⟨ob,_,_,h1,h2,_⟩:=dd;exact⟨ob,h1,h2.2.1⟩
 .obtain⟨_,hd,xs,_,dd⟩:=yq I.hok e;refine⟨dd.typeIs,λ b q=>?_,hd⟩;cases q;obtain⟨ob,_,_,h1,h2,_⟩:=dd;exact⟨ob,h1,h2.2.1⟩
section
variable {X:Cx}{pins:PN}{σ:St}{H:Hp}{s:Shared}{a:Addr}{y d:V}{u r:Value}{o:Option V}{A:Around}{E:VP}
end
section
variable {X:Cx}{pins:PN}{σ:St}{H:Hp}{s:Shared}{a:Addr}{y:V}{u:Value}{A:Around}{E:VP}
end
end L2
set_option maxHeartbeats 0
namespace L2
def Fz:HO->Prop
 | .lst _=>True
 | .dK _=>True
 | _=>False
theorem aiO(e:H p=some u)(f:Fz u):Un fs ex H (upd H p (.frz o u)) h h where
 keep:=λ b ob q _ _ _=>q
 slot:=λ b ob q _ _ _=>⟨ob.slots,q⟩
 free:=λ b ob _ n _=>by rw[ai (Ne.symm (aR e n))];exact n
 there:=λ b ob q _=>⟨ob,q⟩
 sO:=λ b xs q=>by
  have:b≠p:=λ z=>by subst z;rw[e] at q;cases q;exact f
  rw[ai this];exact q
 frzs:=λ b ob v q=>by
  have:b≠p:=λ z=>by subst z;rw[e] at q;cases q;exact f
  rw[ai this];exact q
 tbls:=λ b ps q=>by
  have:b≠p:=λ z=>by subst z;rw[e] at q;cases q;exact f
  exact⟨#[],by rw[ai this,q];simp⟩
theorem cF.ahU(f:Fz u)(x:cF P w H h a u):cF P w H' h a u:=by
 cases u with
 | lst xs=>exact x
 | dK kvs=>exact x
 | _=>exact f.elim
theorem cF.obj(f:Fz u)(x:cF P w H h a u):∃ o,h.get? a=some o:=by
 cases u with
 | lst xs=>obtain⟨_,_,_,_,e⟩:=x;exact⟨_,e⟩
 | dK kvs=>obtain⟨_,_,_,_,o,_,_,e,_⟩:=x;exact⟨o,e⟩
 | _=>exact f.elim
theorem Inv.freeze(I:Inv X pins σ H s)(e:H p=some u)(f:Fz u):∃ o,Inv X pins σ (upd H p (.frz o u)) s:=by
 obtain⟨o,ho⟩:=(I.hok p u e).obj f;refine⟨o,I.un (h':=s.heap) (t':=s.toks) (aiO e f) λ b v q=>?_⟩
 by_cases hb:b=p
 .subst hb;rw[aj] at q;cases q;exact⟨ho,(I.hok b u e).ahU f⟩
 .rw[ai hb] at q;refine(I.hok b v q).xA (λ _ _ _ q=>q) (λ c r=>?_) λ c xs r=>?_
  .have:c≠p:=λ z=>by subst z;rw[e] at r;cases r;exact f
   rw[ai this];exact r
  .have:c≠p:=λ z=>by subst z;rw[e] at r;cases r;exact f
   rw[ai this];exact r
def alr(t:TE):TE:=λ σ H Q=>t σ H λ v H1=>∃ p u,v=.ref p/\H1 p=some u/\Fz u/\∀ o,Q v (upd H1 p (.frz o u))
theorem vb(h:PE X e t):PE X e (alr t):=by intro pins s σ H Q I hq;refine thn (h pins s σ H _ I hq) λ v s1 hq27=>?_;obtain⟨x,H1,I1,r1,p,u,e1,e2,f,q⟩:=hq27;obtain⟨o,I2⟩:=I1.freeze e2 f;exact⟨x,_,I2,r1,q o⟩
theorem Inv.abk(I:Inv X pins σ H s)(e:s.heap.get? D=some {cls:=.type "list",data:=.seq us.toArray n})(hn:H D=none)(hv:Vals ys us)(hz:ys.length<=sizeLine)
  (h0:X.s₀.heap.objs.size<=D)(hL:D≠X.env.locals)(hc:∀ x c,X.env.cells.lookup x=some c->c≠D)(hp:∀ p∈X.pn++pins,p.1≠D):Inv X pins σ (upd H D (.lst ys)) s:=by
 have ne:∀ b u,H b=some u->b≠D:=λ b u q=>aR q hn;refine I.step (h':=s.heap) (g':=s.gens) (d':=s.drawn) (t':=s.toks) (ch:=[D]) (λ b hb=>?_) (λ b o _ _ _ q _=>q) (λ b o _ _ _ q _=>⟨o.slots,q⟩) (λ b o hb q n=>?_) (λ b o _ q=>⟨o,q⟩)
  (λ b xs q=>by rw[ai (ne b _ q)];exact q) (λ b o u q=>by rw[ai (ne b _ q)];exact q) (λ b ps q=>⟨#[],by rw[ai (ne b _ q),q];simp⟩) (λ m hm=>hm) (λ b u q=>?_) I.bare
 .have e:b=D:=by simpa using hb
  subst e;exact⟨.inr h0,hL,hc,hp⟩
 .rw[ai (λ z=>hb (by simp[z]))];exact n
 .by_cases hb:b=D
  .subst hb;rw[aj] at q;cases q;exact⟨hz,us,n,hv,e⟩
  .rw[ai hb] at q;exact(I.hok b u q).xA (λ _ _ _ q=>q) (λ c r=>by rw[ai (ne c _ r)];exact r) λ c xs r=>by rw[ai (ne c _ r)];exact r
abbrev uk(ifs:List Expr)(env:Env):Sem Bool:=forIn ifs true λ c r=>if r=true then do let ok <- isTrue c env (eval c env);pure (ForInStep.yield ok) else pure (ForInStep.yield r)
theorem qJ(I:Nat->Shared->Prop)
  (turn:∀ n s,I n s->wpAny (model prog w) A (pyNext it) (λ r s₁=>match r with
   | none=>R (.ok .next) s₁
   | some v=>wpAny (model prog w) A (letOwnedTupleGo target it v) (λ _ s₁'=>wpAny (model prog w) A (assign target env v) (λ _ s₂ =>
     wpAny (model prog w) A (uk ifs env) (λ ok s₃ =>
      if ok=true then wpAny (model prog w) A (eval elt env) (λ x s₄ =>
       wpAny (model prog w) A (call (.builtin "list.append") [acc,x]) (λ _ s₅=>∃ m,m<n/\I m s₅) (λ _ _=>False) s₄) (λ _ _=>False) s₃
      else ∃ m,m<n/\I m s₃) (λ _ _=>False) s₂) (λ _ _=>False) s₁') (λ _ _=>False) s₁) (λ _ _=>False) s)
  (n:Nat)(h:I n s) :
  codeAny (model prog w) A (.compLoop (.ListComp elt [⟨target,iter,ifs,0⟩] scope pos) 0 it acc env) R s:=by
 refine codeAny_loop rfl I (λ n s hI=>?_) n h;show wpAny _ A ((compTurn (.ListComp elt [⟨target,iter,ifs,0⟩] scope pos) 0 it acc env).onRaise (λ x=>do noteFrame x env;theTreesLotGoes x)) _ _ s;refine wpAny_noted ?_;rw[compTurn_list];refine wb0 (wpAny_standAt (wb0 (wpAny_mono (turn n s hI) (λ r s₁ h₁=>?_) λ _ _ h'=>h'.elim)));cases r with
 | none=>exact wp h₁
 | some v =>
  refine wb0 (wpAny_mono h₁ (λ _ s₁' h₁'=>?_) λ _ _ h'=>h'.elim);refine wb0 (wpAny_mono h₁' (λ _ s₂ h₂=>wb0 (wpAny_mono h₂ (λ ok s₃ h₃=>?_) λ _ _ h'=>h'.elim)) λ _ _ h'=>h'.elim);cases ok with
  | false=>exact wp ⟨rfl,h₃⟩
  | true =>
   exact wb0 (wb0 (wpAny_mono h₃ (λ x s₄ h₄=>wb0 (wpAny_mono h₄ (λ _ s₅ h₅=>wp (wp ⟨rfl,h₅⟩)) λ _ _ h'=>h'.elim)) λ _ _ h'=>h'.elim))
theorem jY(h:∀ x∈scope.names,x.2=.free->∃ c,env.cells.lookup x.1=some c) :
  ∃ cl,closureFor scope env=pure cl/\(∀ n c,cl.lookup n=some c->env.cells.lookup n=some c)/\(∀ n,(n,NameKind.free)∈scope.names->∃ c,cl.lookup n=some c):=by
 have key:∀ (l:List (Str×NameKind)) (cs:List (Str×Addr)),(∀ x∈l,x.2=.free->∃ c,env.cells.lookup x.1=some c)->(∀ n c,cs.lookup n=some c->env.cells.lookup n=some c) ->
   ∃ cl:List (Str×Addr),(forIn l cs λ x r=>match x with
    | (name,kind)=>if (kind==NameKind.free)=true then do let a <- cellOf env name;pure (ForInStep.yield ((name,a)::r)) else pure (ForInStep.yield r):Sem (List (Str×Addr)))=pure cl /\
    (∀ n c,cl.lookup n=some c->env.cells.lookup n=some c)/\(∀ n c,cs.lookup n=some c->∃ c,cl.lookup n=some c)/\(∀ n,(n,NameKind.free)∈l->∃ c,cl.lookup n=some c):=by
  intro l
  induction l with
  | nil=>intro cs _ hc;exact⟨cs,rfl,hc,λ n c e=>⟨c,e⟩,λ n hn=>nomatch hn⟩
  | cons x l ih =>
   intro cs hl hc;obtain⟨name,kind⟩:=x
   by_cases hk:kind=.free
   .subst hk;obtain⟨c,e⟩:=hl (name,.free) List.mem_cons_self rfl;obtain⟨cl,h1,h2,h3,h4⟩:=ih ((name,c)::cs) (λ y hy=>hl y (List.mem_cons_of_mem _ hy)) (λ n d q=>by
     rw[List.lookup_cons] at q;cases hb:n==name with
     | true =>
      rw[hb] at q;cases q;rw[eq_of_beq hb];exact e
     | false =>
      rw[hb] at q;exact hc n d q)
    refine⟨cl,?_,h2,λ n d q=>?_,λ n hn=>?_⟩
    .rw[List.forIn_cons];simp only[beq_self_eq_true,if_true,cellOf,e,pure_bind];exact h1
    .cases hb:n==name with
     | true=>exact h3 n c (by rw[List.lookup_cons,hb])
     | false=>exact h3 n d (by rw[List.lookup_cons,hb];exact q)
    .rcases List.mem_cons.mp hn with z | z
     .cases z;exact h3 name c (by rw[List.lookup_cons];simp)
     .exact h4 n z
   .obtain⟨cl,h1,h2,h3,h4⟩:=ih cs (λ y hy=>hl y (List.mem_cons_of_mem _ hy)) hc;refine⟨cl,?_,h2,h3,λ n hn=>?_⟩
    .rw[List.forIn_cons];have:(kind==NameKind.free)=false:=by simpa using hk
     simp only[this,Bool.false_eq_true,if_false,pure_bind];exact h1
    .rcases List.mem_cons.mp hn with z | z
     .cases z;exact absurd rfl hk
     .exact h4 n z
 obtain⟨cl,h1,h2,_,h4⟩:=key scope.names [] h (λ n c e=>by simp at e);refine⟨cl,?_,h2,h4⟩;unfold closureFor;simp only[bind_pure];exact h1
theorem j0{sc:Scope}{env:Env}{x:Str}:∀ {names:List (Str×NameKind)},(names.map λ(n,k)=>if (k==NameKind.free&&env.scope.kind==.function&&env.kindOf n==some .cell) then (n,NameKind.cell) else (n,k)).lookup x=some .cell \/
  (names.map λ(n,k)=>if (k==NameKind.free&&env.scope.kind==.function&&env.kindOf n==some .cell) then (n,NameKind.cell) else (n,k)).lookup x=some .free->(∀ y∈names,y.2 ≠ .cell)->(x,NameKind.free)∈names
 | [],h,_=>by simp at h
 | (n,k)::r,h,hc=>by
  have ih:=@j0 sc env x r
  by_cases hk:(k==NameKind.free&&env.scope.kind==.function&&env.kindOf n==some .cell)=true
  .simp only[List.map_cons,if_pos hk,List.lookup_cons] at h;cases hx:x==n with
   | true =>
    have e:=eq_of_beq hx;subst e;simp only[ae00] at hk;have:=eq_of_beq hk.1.1;subst this;exact List.mem_cons_self
   | false =>
    rw[hx] at h;exact List.mem_cons_of_mem _ (ih h λ y hy=>hc y (List.mem_cons_of_mem _ hy))
  .simp only[List.map_cons,if_neg hk,List.lookup_cons] at h;cases hx:x==n with
   | true =>
    rw[hx] at h;have e:=eq_of_beq hx;subst e;rcases h with h | h
    .cases h;exact absurd rfl (hc (x,.cell) List.mem_cons_self)
    .cases h;exact List.mem_cons_self
   | false =>
    rw[hx] at h;exact List.mem_cons_of_mem _ (ih h λ y hy=>hc y (List.mem_cons_of_mem _ hy))
theorem c9{env:Env}{x:Str}:∀ {names:List (Str×NameKind)},names.lookup x=some .free ->
  (names.map λ(n,k)=>if (k==NameKind.free&&env.scope.kind==.function&&env.kindOf n==some .cell) then (n,NameKind.cell) else (n,k)).lookup x=some .cell \/
  (names.map λ(n,k)=>if (k==NameKind.free&&env.scope.kind==.function&&env.kindOf n==some .cell) then (n,NameKind.cell) else (n,k)).lookup x=some .free
 | [],h=>by simp at h
 | (n,k)::r,h=>by
  have ih:=@c9 env x r
  by_cases hk:(k==NameKind.free&&env.scope.kind==.function&&env.kindOf n==some .cell)=true
  .simp only[List.map_cons,if_pos hk,List.lookup_cons];cases hx:x==n with
   | true=>exact .inl rfl
   | false=>rw[List.lookup_cons,hx] at h;exact ih h
  .simp only[List.map_cons,if_neg hk,List.lookup_cons];cases hx:x==n with
   | true=>rw[List.lookup_cons,hx] at h;exact .inr h
   | false=>rw[List.lookup_cons,hx] at h;exact ih h
def blk(X:Cx)(sc:Scope)(N':List Str)(cl:List (Str×Addr))(C:Addr)(s:Shared)(H:Hp)(ex:List Addr)(pins:PN):Cx:=
 {X with N:=N',s₀:=s,H₀:=H,env:=compEnvC sc cl C X.env,outer:=X.stack,ex:=ex,fn:=λ _=>false,pn:=X.pn++pins,xe:=λ _ _=>False}
def lcN(X:Cx)(own:List Str)(fr:List Nat):List Str:=own++fr.map λ j=>X.N.getD j Str.empty
def lcS(k:Nat)(fr:List Nat)(σ:St):St:=List.replicate k none++fr.map λ j=>(σ[j]?).getD none
def agM(N:List Str)(sc:Scope)(fr:List Nat):Bool:=fr.all λ j=>match N[j]? with
 | some x=>sc.names.lookup x==some .free
 | none=>false
structure nq(X:Cx)(sc:Scope)(own:List Str)(fr:List Nat):Prop where
 kind:sc.kind=.function
 cell:∀ y∈sc.names,y.2 ≠ .cell
 free:∀ y∈sc.names,y.2=.free->(X.env.kindOf y.1=some .cell\/X.env.kindOf y.1=some .free)
 names:∀ y∈sc.names,y.2=.local->sc.names.lookup y.1=some .local
 fr:agM X.N sc fr=true
def PTs(X:Cx)(ifs:List Expr)(t:TT):Prop:=
 ∀ (pins:PN) (s:Shared) (σ:St) (H:Hp) (Q:Bool->Hp->Prop),Inv X pins σ H s->t σ H Q->wpAny (model X.prog X.w) X.A (uk ifs X.env) (TP X pins σ Q) X.xe s
def alS:TT:=λ _ H Q=>Q true H
theorem aeO:PTs X [] alS:=λ _ _ _ H _ I h=>wpAny_tests_nil ⟨H,I,h⟩
theorem aek(h:PT X c t):PTs X [c] t:=λ pins s σ H Q I q=>wpAny_tests_one (h pins s σ H Q I q)
theorem u5(h:agM N sc fr=true)(hj:j∈fr):∃ x,N[j]? =some x/\sc.names.lookup x=some .free:=by
 have q:=List.all_eq_true.mp h j hj;cases e:N[j]? with
 | none=>simp[e] at q
 | some x =>
  simp only[e] at q;exact⟨x,rfl,eq_of_beq q⟩
theorem aiW(L:nq X sc own fr)(I:Inv X pins σ H s)(hf:∀ b∈fp,kO X pins H b)(hb:∀ b∈fp,b<s.heap.objs.size)(hC:s.heap.objs.size<=C)
  (c1:∀ n c,cl.lookup n=some c->X.env.cells.lookup n=some c)(c2:∀ n,(n,NameKind.free)∈sc.names->∃ c,cl.lookup n=some c):(blk X sc (lcN X own fr) cl C s H fp pins).Ok where
 mod:=I.ok.mod
 kind:=L.kind
 glob:=I.ok.glob
 blt:=I.ok.blt
 above:=hC
 inj:=λ x y c a b=>I.ok.inj x y c (c1 _ _ a) (c1 _ _ b)
 has:=λ x hx=>c2 x (j0 (sc:=sc) (env:=X.env) hx L.cell)
 cab:=λ x c z=>absurd (show false=true from z) ft0
 hd:=I.ok.hd
 frames:=I.ok.frames
 stk:=.inl rfl
 exf:=λ b z=>⟨Nat.ne_of_lt (Nat.lt_of_lt_of_le (hb b z) hC),λ x c e=>(hf b z).2.2.2.2.1 x c (c1 _ _ e)⟩
 bs:=I.bs
 bsz:=Nat.le_trans I.ok.bsz I.sz
 noex:=λ b o e z=>by
  rcases(hf b z).2.2.2.1 with q | q
  .exact I.ok.noex b o e q
  .exact absurd (Nat.lt_of_lt_of_le (Heap.lt_size e) (Nat.le_trans I.ok.bsz q)) (Nat.lt_irrefl _)
 exfs:=λ b z q=>by
  rcases List.mem_cons.mp (I.jO b q) with e | e
  .exact(hf b z).2.1 e
  .exact(hf b z).2.2.1 e
 sE:=I.stack
 frf:=I.sR
theorem yZ(L:nq X sc own fr)(I:Inv X pins σ H s)(hf:∀ b∈fp,kO X pins H b)(hb:∀ b∈fp,b<s.heap.objs.size)(hC:s.heap.objs.size<=C)
  (c1:∀ n c,cl.lookup n=some c->X.env.cells.lookup n=some c)(c2:∀ n,(n,NameKind.free)∈sc.names->∃ c,cl.lookup n=some c)
(hn:h1.Ns C m) (k:∀ b o,s.heap.get? b=some o->h1.get? b=some o) :
  Inv (blk X sc (lcN X own fr) cl C s H fp pins) [] (lcS own.length fr σ) H {s with heap:=h1,toks:=tk}:=by
 have ok:=aiW L I hf hb hC c1 c2;refine⟨ok,rfl,I.bare,Un.kept k,⟨m,hn,λ i x v e1 e2 e3=>?_⟩,λ x c e=>?_,I.hok.fresh hC,λ x c e=>I.freeC x c (c1 _ _ e),λ p hp=>?_,I.hok.kept k,?_⟩
 .-- one of the names around
  have hi:¬ i<own.length:=λ hi=>by
   unfold lcS at e2;rw[List.getElem?_append_left (by simpa using hi),List.getElem?_replicate] at e2
   split at e2<;>cases e2
  have e1':(lcN X own fr)[i]? =some x:=e1;unfold lcN at e1';unfold lcS at e2;rw[List.getElem?_append_right (by omega),List.getElem?_map] at e1';rw[List.getElem?_append_right (by simpa using hi),List.getElem?_map,List.length_replicate] at e2;cases q:fr[i-own.length]? with
  | none=>rw[q] at e1';cases e1'
  | some j =>
   rw[q] at e1' e2;obtain⟨y,hy,hyf⟩:=u5 L.fr (List.mem_of_getElem? q);have ex:y=x:=by have:=Option.some.inj e1';rw[<- this];simp[List.getD,hy]
   subst ex;have ev:σ[j]? =some (some v):=by
    have z:(σ[j]?).getD none=some v:=Option.some.inj e2;cases w:σ[j]? with
    | none=>rw[w] at z;cases z
    | some o=>rw[w] at z;exact congrArg some z
   have hm:(y,NameKind.free)∈sc.names:=PySem.mem_of_lookup hyf;have hk:=L.free _ hm rfl;have vis:Vis X.env.scope y:=by
    rcases hk with z | z
    .exact .inr (.inl z)
    .exact .inr (.inr z)
   obtain⟨m0,hn0,hl⟩:=I.loc;obtain⟨u,r,l⟩:=hl j y v hy ev vis;refine⟨u,r,.inr ⟨?_,?_⟩⟩
   .exact c9 (env:=X.env) hyf
   .obtain⟨c,hc⟩:=c2 y hm;rcases l with ⟨z,_⟩ | ⟨_,c',hc',hcell⟩
    .rcases hk with q | q
     .exact absurd (show X.env.kindOf y=some .local from z) (by rw[q];decide)
     .exact absurd (show X.env.kindOf y=some .local from z) (by rw[q];decide)
    .have:c=c':=Option.some.inj ((c1 _ _ hc).symm.trans hc');subst this;obtain⟨o,ho,hd⟩:=hcell;exact⟨c,hc,o,k _ _ ho,hd⟩
 .obtain⟨v,o,ho,hd⟩:=I.cell x c (c1 _ _ e);exact⟨v,o,k _ _ ho,hd⟩
 .have hp':p∈X.pn++pins:=by simpa [blk] using hp
  obtain⟨a1,a2,a3,a4,a5⟩:=I.pin p hp';refine⟨k _ _ a1,a2,Nat.ne_of_lt (Nat.lt_of_lt_of_le (Heap.lt_size a1) hC),λ q=>?_,a5⟩;rcases List.mem_cons.mp (I.jO _ q) with e | e
  .exact a3 e
  .exact a4 e
 .show(lcS own.length fr σ).length=(lcN X own fr).length;simp[lcS,lcN]
abbrev LcW:=Nat->Nat->List V->St->Hp->Prop
def adi(J:It)(g:TG)(tt:TT)(te:TE)(W:LcW)(Fin:List V->Hp->Prop):Prop:=∀ i m ys τ H,W i m ys τ H ->
 (J.stop i H/\Fin ys H)\/(J.go i H/\ys.length<sizeLine/\∀ x H',J.yld i H x H'->g x τ H' λ τ2 H2=>tt τ2 H2 λ b H3 =>
  if b=true then te τ2 H3 λ y H4=>∃ m',m'<m/\W (i+1) m' (ys++[y]) τ2 H4 else ∃ m',m'<m/\W (i+1) m' ys τ2 H3)
section
variable {X:Cx}{pins:PN}{σ:St}{H:Hp}{s:Shared}{sc:Scope}{own:List Str}{fr:List Nat}{cl:List (Str×Addr)}{fp:List Addr}{it:Addr}{J:It}{tn:Nat->Heap->Prop}{g:TG}{tt:TT}{te:TE}{W:LcW}{Fin:List V->Hp->Prop}
 {elt tg iter:Expr}{ifs:List Expr}{pos:Pos}{E:VP}
theorem zG{RR:Value->Addr->Result->Shared->Prop}(hc:X.calm=true)(L:nq X sc own fr)(hcl1:∀ n c,cl.lookup n=some c->X.env.cells.lookup n=some c)(hcl2:∀ n,(n,NameKind.free)∈sc.names->∃ c,cl.lookup n=some c)
  (hg:∀ C s H ex pl,PG (blk X sc (lcN X own fr) cl C s H ex pl) tg g)(ht:∀ C s H ex pl,PTs (blk X sc (lcN X own fr) cl C s H ex pl) ifs tt)(he:∀ C s H ex pl,PE (blk X sc (lcN X own fr) cl C s H ex pl) elt te)
  (I:Inv X pins σ H s)(T:Turn X.prog X.w X.K tg J fp it tn)(st:tn 0 s.heap)(hf:∀ b∈fp,kO X pins H b)(w0:∃ m,W 0 m [] (lcS own.length fr σ) H)(turn:adi J g tt te W Fin)
  (hRR:∀ (D C:Addr) (s':Shared) (H':Hp) (ys:List V) (us:List Value) (n:Nat) (m:Str->Option Value),Inv X pins σ H' s'->s'.heap.get? D=some {cls:=.type "list",data:=.seq us.toArray n}->Vals ys us->ys.length<=sizeLine->H' D=none->H' C=none ->
   s.heap.objs.size<=D->s.heap.objs.size<=C->D≠C->s'.heap.Ns C m->Fin ys H'->RR (.ref D) C (.ok .next) s') :
  wpAny (model X.prog X.w) X.A (newList []) (λ acc s₃=>wpAny (model X.prog X.w) X.A (newFunctionEnv sc X.env.globals cl [] X.env.qual none .none (some X.env)) (λ cenv s₄ =>
   codeAny (model X.prog X.w) X.A (.compStart (.ListComp elt [⟨tg,iter,ifs,0⟩] sc pos) 0 (.ref it) acc {cenv with scope:=relabel sc X.env}) (RR acc cenv.locals) s₄) E s₃) E s:=by
 refine wpAny_newObj_type (wpAny_newFunctionEnv L.cell (by intro y hy;simp at hy) (λ h₁ hns₁ hsb₁=>?_) L.kind);dsimp only at hns₁ hsb₁ ⊢;generalize hH2:s.heap.push {cls:=.type "list",dict:=none,data:=.seq ([]:List Value).toArray}=H2 at hns₁ hsb₁ ⊢;have hCs:H2.objs.size=s.heap.objs.size+1:=by rw[<- hH2,Heap.size_push]
 have hD0:s.heap.objs.size≠H2.objs.size:=by rw[hCs];exact Nat.ne_of_lt (Nat.lt_succ_self _)
 have hCle:s.heap.objs.size<=H2.objs.size:=by rw[hCs];exact Nat.le_succ _
 have below:∀ b,b<s.heap.objs.size->b≠H2.objs.size/\b≠s.heap.objs.size:=λ b hb=>⟨by rw[hCs];exact Nat.ne_of_lt (Nat.lt_succ_of_lt hb),Nat.ne_of_lt hb⟩;have old:∀ b o,s.heap.get? b=some o->h₁.get? b=some o:=λ b o e=>hsb₁.extBut b o (below b (Heap.lt_size e)).1 (Heap.get?_push_of_some _ (hH2 ▸ Heap.get?_push_of_some _ e));have hacc:h₁.get? s.heap.objs.size=some {cls:=.type "list",data:=.seq ([]:List Value).toArray 0}:=hsb₁.extBut _ _ hD0 (Heap.get?_push_of_some _ (hH2 ▸ Heap.get?_push_size _ rfl));have hfb:∀ b∈fp,b<s.heap.objs.size:=λ b hb=>by obtain⟨o,e,_⟩:=T.obj 0 _ st b hb;exact Heap.lt_size e
 have I1:Inv (blk X sc (lcN X own fr) cl H2.objs.size s H fp pins) [] (lcS own.length fr σ) H {s with heap:=h₁,toks:=s.toks+([]:List (Str×Value)).length}:=yZ L I hf hfb hCle hcl1 hcl2 hns₁ old;have st1:tn 0 h₁:=T.keep 0 _ _ st λ b _ o e=>old b o e;generalize hY:blk X sc (lcN X own fr) cl H2.objs.size s H fp pins=Y at I1;have hYp:Y.prog=X.prog:=by rw[<- hY];rfl
 have hYw:Y.w=X.w:=by rw[<- hY];rfl
 have hYK:Y.K=X.K:=by rw[<- hY];rfl
 have hYA:Y.A=X.A:=by rw[<- hY];rfl
 have hYc:Y.calm=true:=by rw[<- hY];exact hc
 have hYe:Y.env=compEnvC sc cl H2.objs.size X.env:=by rw[<- hY];rfl
 have hYx:Y.xe=λ _ _=>False:=by rw[<- hY];rfl
 have hYpn:Y.pn=X.pn++pins:=by rw[<- hY];rfl
 have hYs:Y.s₀=s:=by rw[<- hY];rfl
 have hYH:Y.H₀=H:=by rw[<- hY];rfl
 have hYex:Y.ex=fp:=by rw[<- hY];rfl
 have hYfs:Y.fs=frs X.stack:=by rw[<- hY];rfl
 have gY:=hg H2.objs.size s H fp pins;have tY:=ht H2.objs.size s H fp pins;have eY:=he H2.objs.size s H fp pins;rw[hY] at gY tY eY;have D_pin:∀ p∈Y.pn++([]:PN),p.1≠s.heap.objs.size:=λ p hp=>by rw[hYpn,List.append_nil] at hp;exact(below _ (Heap.lt_size (I.pin p hp).1)).2
 have D_cell:∀ x c,Y.env.cells.lookup x=some c->c≠s.heap.objs.size:=λ x c e=>by rw[hYe] at e;obtain⟨v,z⟩:=I.cell x c (hcl1 _ _ e);exact(below _ z.lt).2
 have D_loc:s.heap.objs.size≠Y.env.locals:=by rw[hYe];exact hD0
 have D_fs:s.heap.objs.size ∉ Y.fs:=by
  rw[hYfs];intro z;rcases List.mem_cons.mp (I.jO _ z) with e | e
  .exact absurd I.lt (by rw[<- e];exact Nat.lt_irrefl _)
  .exact I.alk (lr0 _) e
 have fpY:∀ {H':Hp} (pl:PN),(∀ b∈fp,H' b=none)->(∀ p∈pl,p.1=s.heap.objs.size)->∀ b∈fp,kO Y pl H' b:=λ {H'} pl hn hp b hb=>by
  obtain⟨_,f1,f2,f3,f4,f5⟩:=hf b hb;refine⟨hn b hb,by rw[hYe];exact(below b (hfb b hb)).1,?_,.inl (by rw[hYex];exact hb),λ x c e=>?_,λ p q=>?_⟩
  .rw[hYfs];intro z;rcases List.mem_cons.mp (I.jO _ z) with e | e
   .exact f1 e
   .exact f2 e
  .rw[hYe] at e;exact f4 x c (hcl1 _ _ e)
  .rcases List.mem_append.mp q with z | z
   .rw[hYpn] at z;exact f5 p z
   .rw[hp p z];exact Ne.symm (below b (hfb b hb)).2
 have loop:∀ s₃:Shared,s₃={s with heap:=h₁,toks:=s.toks+([]:List (Str×Value)).length} ->
   codeAny (model X.prog X.w) X.A (.compLoop (.ListComp elt [⟨tg,iter,ifs,0⟩] sc pos) 0 (.ref it) (.ref s.heap.objs.size) (compEnvC sc cl H2.objs.size X.env)) (RR (.ref s.heap.objs.size) H2.objs.size) s₃:=by
  rintro s₃ rfl;obtain⟨m0,w0⟩:=w0;refine qJ (λ n s'=>∃ i ys τ H' us k,Inv Y [] τ H' s'/\tn i s'.heap/\(∀ b∈fp,H' b=none)/\H' s.heap.objs.size=none/\s'.heap.get? s.heap.objs.size=some {cls:=.type "list",data:=.seq us.toArray k}/\Vals ys us/\ys.length<=sizeLine/\W i n ys τ H') ?_ m0
   ⟨0,[],_,H,[],0,I1,st1,λ b hb=>(hf b hb).1,I.hok.fresh (lr0 _),hacc,.nil,Nat.zero_le _,w0⟩
  rintro n s' ⟨i,ys,τ,H',us,k,I',st',hn',hD',ha',hv',hz',w'⟩;have Ip:Inv Y [(s.heap.objs.size,{cls:=.type "list",data:=.seq us.toArray k})] τ H' s':=I'.dH λ p hp=>by
   have e:p=(s.heap.objs.size,{cls:=.type "list",data:=.seq us.toArray k}):=by simpa using hp
   subst e;exact⟨ha',hD',D_loc,D_fs,λ v z=>nomatch (show Data.seq _ _=Data.cell v from z)⟩
  have onlyD:∀ p∈[((s.heap.objs.size,{cls:=.type "list",data:=.seq us.toArray k}):Addr×Obj)],p.1=s.heap.objs.size:=λ p hp=>by
   have e:p=(s.heap.objs.size,{cls:=.type "list",data:=.seq us.toArray k}):=by simpa using hp
   subst e;rfl
  rcases turn i n ys τ H' w' with ⟨stop,fin⟩ | ⟨go,hlen,step⟩
  .have q:=T.done Y hYp hYw hYK hYc i _ s' τ H' (λ _ _=>False) Ip (fpY _ hn' onlyD) st' stop;rw[hYA] at q;refine thn q λ r s4 hq28=>?_;obtain⟨hr,I4⟩:=hq28;subst hr;have un:Un (frs X.stack) fp H H' s.heap s4.heap:=by have z:=I4.base;rw[hYfs,hYex,hYH,hYs] at z;exact z
   have os4:s4.os=s.os:=by have z:=I4.os;rw[hYs] at z;exact z
   have hok4:HOk X.prog X.w H' s4.heap:=by have z:=I4.hok;rw[hYp,hYw] at z;exact z
   have hch:∀ b∈fp,(b∈X.ex\/X.s₀.heap.objs.size<=b)/\b≠X.env.locals/\(∀ x c,X.env.cells.lookup x=some c->c≠b)/\∀ p∈X.pn++pins,p.1≠b:=λ b hb=>by obtain⟨_,f1,f2,f3,f4,f5⟩:=hf b hb;exact⟨f3,f1,f4,f5⟩
   have IX:Inv X pins σ H' s4:=I.aiM os4 un hok4 I4.bare hch;obtain⟨mC,hmC,_⟩:=I4.loc;have hCf:=I4.free;rw[hYe] at hmC hCf;have pD:=I4.pin (s.heap.objs.size,{cls:=.type "list",data:=.seq us.toArray k}) (List.mem_append_right _ (List.mem_singleton.mpr rfl));exact hRR _ _ s4 H' ys us k mC IX pD.1 hv' hz' pD.2.1 hCf (lr0 _) hCle hD0 hmC fin
  .have q:=T.item Y hYp hYw hYK hYc i _ s' τ H' (λ _ _=>False) Ip (fpY _ hn' onlyD) st' go;rw[hYA] at q;refine thn q λ r s4 hq29=>?_;obtain⟨u,hr,h4⟩:=hq29;subst hr;refine thn h4 λ _ s5 hq30=>?_;obtain⟨x,H5,I5,r5,y5,st5,fr5⟩:=hq30;have I5':=I5.pinned (fpY _ fr5 onlyD) (T.obj _ _ st5);have g5:=gY _ s5 τ H5 x u _ I5' r5 (step x H5 y5);rw[hYp,hYw,hYA,hYe,hYx] at g5;refine thn g5 λ _ s6 hq31=>?_;obtain⟨σ6,H6,I6,q6⟩:=hq31;have t6:=tY _ s6 σ6 H6 _ I6 q6;rw[hYp,hYw,hYA,hYe,hYx] at t6;refine thn t6 λ ok s7 hq32=>?_;obtain⟨H7,I7,q7⟩:=hq32;have keepD:∀ {σ8:St} {H8:Hp} {s8:Shared},Inv Y ([(s.heap.objs.size,{cls:=.type "list",data:=.seq us.toArray k})]++lX fp s5.heap) σ8 H8 s8->s8.heap.get? s.heap.objs.size=some {cls:=.type "list",data:=.seq us.toArray k}/\H8 s.heap.objs.size=none:=
    λ {σ8 H8 s8} I8=>by have pD:=I8.pin (s.heap.objs.size,{cls:=.type "list",data:=.seq us.toArray k}) (List.mem_append_right _ (List.mem_append_left _ (List.mem_singleton.mpr rfl)));exact⟨pD.1,pD.2.1⟩
   have keepI:∀ {σ8:St} {H8:Hp} {s8:Shared},Inv Y ([(s.heap.objs.size,{cls:=.type "list",data:=.seq us.toArray k})]++lX fp s5.heap) σ8 H8 s8->tn (i+1) s8.heap/\∀ b∈fp,H8 b=none:=
    λ {σ8 H8 s8} I8=>by refine⟨T.keep _ _ _ st5 λ b hb o e=>(I8.pin (b,o) (List.mem_append_right _ (List.mem_append_right _ (cZ hb e)))).1,λ b hb=>?_⟩;obtain⟨o,e,d⟩:=T.obj _ _ st5 b hb;exact(I8.pin (b,o) (List.mem_append_right _ (List.mem_append_right _ (cZ hb e)))).2.1
   cases ok with
   | false =>
    rw[if_neg ft0] at q7 ⊢;obtain⟨m',hm',w7⟩:=q7;obtain⟨a7,b7⟩:=keepD I7;obtain⟨c7,d7⟩:=keepI I7;exact⟨m',hm',i+1,ys,σ6,H7,us,k,I7.dH (λ p hp=>(nomatch hp)),c7,d7,b7,a7,hv',hz',w7⟩
   | true =>
    rw[if_pos rfl] at q7 ⊢;have e7:=eY _ s7 σ6 H7 _ I7 q7;rw[hYp,hYw,hYA,hYe,hYx] at e7;refine thn e7 λ v s8 hq33=>?_;obtain⟨y,H8,I8,r8,m',hm',w8⟩:=hq33;obtain⟨a8,b8⟩:=keepD I8;obtain⟨c8,d8⟩:=keepI I8;have hl:=hv'.length;refine call_meets F.slot_list_append ⟨_,a8,rfl⟩ F.entry_list_append (F.args_list_append_2 _ _) (PySem.list_append s.heap.objs.size us.toArray k v (by rw[List.size_toArray];omega)) ⟨a8,?_⟩;have qu:=PySem.IsL.update a8 (λ xs=>xs.push v);have I9:=(I8.dH (pins':=[]) λ p hp=>nomatch hp).turned (it:=s.heap.objs.size) (t':=s8.toks) (h':=s8.heap.update s.heap.objs.size (Obj.mapSeq λ xs=>xs.push v)) (λ b o hb e=>(Heap.get?_update_other s8.heap _ (Ne.symm hb)).trans e) b8 D_loc (.inr (by rw[hYs];exact lr0 _)) D_cell D_pin;have ep:us.toArray.push v=(us++[v]).toArray:=by simp
    rw[ep] at qu;refine⟨m',hm',i+1,ys++[y],σ6,H8,us++[v],(if (us++[v]).toArray.size==us.toArray.size then k else k+1),I9,T.keep _ _ _ c8 λ b hb o e=>(Heap.get?_update_other s8.heap _ (Ne.symm (below b (hfb b hb)).2)).trans e,d8,b8,?_,hv'.append (.cons r8 .nil),?_,w8⟩
    .exact qu
    .rw[List.length_append,List.length_singleton];omega
 exact codeAny_compStart_list (loop _ rfl) (T.self _ 0 _ _ _ st1 (loop _ rfl))
def tLC(wi:TI)(g:TG)(tt:TT)(te:TE)(k:Nat)(fr:List Nat):TE:=λ σ H Q=>wi σ H λ J H1=>∃ W:LcW,(∃ m,W 0 m [] (lcS k fr σ) H1)/\adi J g tt te W λ ys H2=>∀ p,H2 p=none->Q (.ref p) (upd H2 p (.lst ys))
theorem jK(L:nq X sc own fr)(ok:X.Ok):∃ cl,closureFor sc X.env=pure cl/\(∀ n c,cl.lookup n=some c->X.env.cells.lookup n=some c)/\(∀ n,(n,NameKind.free)∈sc.names->∃ c,cl.lookup n=some c):=
 jY λ x hx hf=>ok.has x.1 (L.free x hx hf)
theorem ad0(hc:X.calm=true)(L:nq X sc own fr)(hi:PI X tg iter wi)
  (hg:∀ cl C s H ex pl,PG (blk X sc (lcN X own fr) cl C s H ex pl) tg g)(ht:∀ cl C s H ex pl,PTs (blk X sc (lcN X own fr) cl C s H ex pl) ifs tt)(he:∀ cl C s H ex pl,PE (blk X sc (lcN X own fr) cl C s H ex pl) elt te)
  (hs:∀ x,foldedSetIterable iter X.env x=pure x:=by intro _;rfl):PE X (.ListComp elt [⟨tg,iter,ifs,0⟩] sc pos) (tLC wi g tt te own.length fr):=by
 intro pins s σ H Q I h;obtain⟨cl,hcl,c1,c2⟩:=jK L I.ok;rw[eval_ListComp];refine wpAny_comprehension_free (use:=none) (g:=⟨tg,iter,ifs,0⟩) (gs:=[]) rfl hs hcl L.kind L.names ?_;refine thn (hi pins s σ H _ I h) λ v s1 h1=>thn h1 λ itv s2 h2=>?_;obtain⟨it,fp,tn,J,H2,e,I2,T,st2,f2,W,w0,turn⟩:=h2;subst e;refine zG (cl:=cl) hc L c1 c2 (hg cl) (ht cl) (he cl) I2 T st2 f2 w0 turn λ D C s' H' ys us n m I' a' hv hz hD hC dD dC hDC hns fin=>?_;refine⟨m,hns,λ h' sb=>?_⟩;have far:∀ b,s2.heap.objs.size<=b->(X.s₀.heap.objs.size<=b)/\b≠X.env.locals/\(∀ x c,X.env.cells.lookup x=some c->c≠b)/\∀ p∈X.pn++pins,p.1≠b:=λ b hb=>by obtain⟨_,f1,_,f3,f4,f5⟩:=I2.uY (H':=λ _=>none) hb rfl;refine⟨Nat.le_trans I2.sz hb,f1,f4,f5⟩
 obtain⟨z1,z2,z3,z4⟩:=far C dC;obtain⟨y1,y2,y3,y4⟩:=far D dD;have I3:Inv X pins σ H' {s' with heap:=h'}:=I'.turned (t':=s'.toks) (λ b o hb e=>sb.extBut b o hb e) hC z2 (.inr z1) z3 z4;exact⟨.ref D,_,I3.abk (sb.extBut _ _ hDC a') hD hv hz y1 y2 y3 y4,rfl,fin D hD⟩
theorem uW(hN:X.N.Nodup)(hi':X.N[i]? =some x)(hx:Loc X.env.scope x)(hc:X.calm=true)(L:nq X sc own fr)(hi:PI X tg iter wi)
  (hg:∀ cl C s H ex pl,PG (blk X sc (lcN X own fr) cl C s H ex pl) tg g)(ht:∀ cl C s H ex pl,PTs (blk X sc (lcN X own fr) cl C s H ex pl) ifs tt)(he:∀ cl C s H ex pl,PE (blk X sc (lcN X own fr) cl C s H ex pl) elt te)
  (hsw:swapsWith (.ListComp elt [⟨tg,iter,ifs,0⟩] sc pos) (some (.Name x pos')) spos.line X.env=pure true:=by rfl)
  (hs:∀ x,foldedSetIterable iter X.env x=pure x:=by intro _;rfl)(hf:X.fn x=true\/X.env.scope.names.lookup x=some .local:=by first | exact .inl rfl | exact .inr rfl | assumption) :
  PS X (.Assign [.Name x pos'] (.ListComp elt [⟨tg,iter,ifs,0⟩] sc pos) spos) (ajB (tLC wi g tt te own.length fr) (ad4 i)):=by
 intro pins s σ H D' I h;obtain⟨cl,hcl,c1,c2⟩:=jK L I.ok;rw[exec_Assign_Name_used _ _ _ _ hsw];refine wb0 (wpAny_standAt (wb0 ?_));show wpAny _ _ (evalThenUse (.ListComp elt [⟨tg,iter,ifs,0⟩] sc pos) X.env (assign (.Name x pos') X.env)) _ _ _;unfold evalThenUse;refine wb0 ?_;refine wpAny_comprehension_free (use:=some (assign (.Name x pos') X.env)) (g:=⟨tg,iter,ifs,0⟩) (gs:=[]) rfl hs hcl L.kind L.names ?_;refine thn (hi pins s σ H _ I h) λ v s1 h1=>thn h1 λ itv s2 h2=>?_;obtain⟨it,fp,tn,J,H2,e,I2,T,st2,f2,W,w0,turn⟩:=h2;subst e;refine zG (cl:=cl) hc L c1 c2 (hg cl) (ht cl) (he cl) I2 T st2 f2 w0 turn λ D C s' H' ys us n m I' a' hv hz hD hC dD dC hDC hns fin=>?_;have far:∀ b,s2.heap.objs.size<=b->(X.s₀.heap.objs.size<=b)/\b≠X.env.locals/\(∀ x c,X.env.cells.lookup x=some c->c≠b)/\(b ∉ X.fs)/\∀ p∈X.pn++pins,p.1≠b:=λ b hb=>by obtain⟨_,f1,f2,f3,f4,f5⟩:=I2.uY (H':=λ _=>none) hb rfl;refine⟨Nat.le_trans I2.sz hb,f1,f4,f2,f5⟩
 obtain⟨z1,z2,z3,z0,z4⟩:=far C dC;obtain⟨y1,y2,y3,_,y4⟩:=far D dD;have I3:=I'.abk a' hD hv hz y1 y2 y3 y4;obtain⟨oC,hoC,nsC⟩:∃ o,s'.heap.get? C=some o/\∃ es ep,o.data=.dict es ep:=by obtain⟨o,es,ep,e1,e2,_⟩:=hns;exact⟨o,e1,es,ep,e2⟩
 have hCt:(upd H' D (.lst ys)) C=none:=by rw[ai (Ne.symm hDC)];exact hC
 have I4:Inv X (pins++[(C,oC)]) σ (upd H' D (.lst ys)) s':=I3.dH λ p hp=>by
  rcases List.mem_append.mp hp with z | z
  .exact I3.pin p (List.mem_append_right _ z)
  .have e:p=(C,oC):=by simpa using z
   subst e;obtain⟨es,ep,hd⟩:=nsC;exact⟨hoC,hCt,z2,z0,λ v z=>by have z':oC.data=.cell v:=z;rw[hd] at z';cases z'⟩
 refine thn (xC (pos:=pos') hN hi' hx hf _ s' σ _ (.ref D) (.ref D) _ I4 rfl (fin D hD)) λ _ s5 hq34=>?_;obtain⟨σ5,H5,I5,q5⟩:=hq34;have pC:=I5.pin (C,oC) (List.mem_append_right _ (List.mem_append_right _ (List.mem_singleton.mpr rfl)));obtain⟨o,es,ep,e1,e2,e3⟩:=hns;rw[hoC] at e1;cases e1;refine⟨m,⟨oC,es,ep,pC.1,e2,e3⟩,λ h' sb=>?_⟩;have I6:Inv X pins σ5 H5 {s5 with heap:=h'}:=(I5.kM).turned (t':=s5.toks) (λ b o hb e=>sb.extBut b o hb e) pC.2.1 z2 (.inr z1) z3 z4;exact wp (wp ⟨σ5,H5,I6,q5⟩)
end
end L2
namespace D
open L2
abbrev St:=L2.St
structure Kp(H H':Hp):Prop where
 tup:∀ b xs,H b=some (.tup xs)->H' b=some (.tup xs)
 frz:∀ b o u,H b=some (.frz o u)->H' b=some (.frz o u)
theorem Kp.refl(H:Hp):Kp H H:=⟨λ _ _ e=>e,λ _ _ _ e=>e⟩
theorem Kp.trans(a:Kp H H1)(b:Kp H1 H2):Kp H H2:=⟨λ c xs e=>b.tup c xs (a.tup c xs e),λ c o u e=>b.frz c o u (a.frz c o u e)⟩
theorem Kp.new(h:H p=none):Kp H (upd H p o):=⟨λ b xs e=>by rw[ai (aR e h)];exact e,λ b ob u e=>by rw[ai (aR e h)];exact e⟩
theorem Kp.set(h:H p=some u)(ht:∀ xs,u ≠ .tup xs)(hf:∀ ob v,u ≠ .frz ob v):Kp H (upd H p o):=
 ⟨λ b xs e=>by rw[ai (xj e h λ z=>ht _ z.symm)];exact e,λ b ob v e=>by rw[ai (xj e h λ z=>hf _ _ z.symm)];exact e⟩
def SqF(K:FG)(H:Hp)(a:Addr)(xs:List V):Prop:=
 (∃ o,H a=some (.frz o (.lst xs)))\/∃ (o:Obj) (its:Array Value) (n:Nat),K.lookup a=some o/\o.cls=.type "list" /\ o.dict=none/\o.data=.seq its n/\its.size<=sizeLine/\Vals xs its.toList
theorem SqF.sq{K:FG}{H:Hp}{a:Addr}{xs:List V}(h:SqF K H a xs):SqL K H a xs:=by
 rcases h with h | h
 .exact .inl (.inr h)
 .exact .inr h
theorem SqF.keep{K:FG}{H H':Hp}{a:Addr}{xs:List V}(k:Kp H H')(h:SqF K H a xs):SqF K H' a xs:=by
 rcases h with ⟨o,h⟩ | h
 .exact .inl ⟨o,k.frz _ _ _ h⟩
 .exact .inr h
theorem SqT.keep{K:FG}{H H':Hp}{a:Addr}{xs:List V}(k:Kp H H')(h:SqT K H a xs):SqT K H' a xs:=by
 rcases h with (h | ⟨o,h⟩) | h
 .exact .inl (.inl (k.tup _ _ h))
 .exact .inl (.inr ⟨o,k.frz _ _ _ h⟩)
 .exact .inr h
def qq:Key->PyData
 | .inl i=>.int i
 | .inr x=>.str x
mutual
def aB(K:FG)(H:Hp):PyData->V->Prop
 | .none,v=>v=.non
 | .bool b,v=>v=.bl b
 | .int i,v=>v=.int i
 | .str x,v=>v=.str x
 | .list ds,v=>∃ a vs,v=.ref a/\SqF K H a vs/\aX K H ds vs
 | .tuple ds,v=>∃ a vs,v=.ref a/\SqT K H a vs/\aX K H ds vs
 | .dict kvs,v=>∃ a o l,v=.ref a/\H a=some (.frz o (.dK l))/\i8 K H kvs l
def aX(K:FG)(H:Hp):List PyData->List V->Prop
 | [],vs=>vs=[]
 | d::ds,vs=>∃ v r,vs=v::r/\aB K H d v/\aX K H ds r
def i8(K:FG)(H:Hp):List (PyData×PyData)->List (Key×V)->Prop
 | [],l=>l=[]
 | (k,d)::ds,l=>∃ key v r,l=(key,v)::r/\k=qq key/\aB K H d v/\i8 K H ds r
end
mutual
theorem aB.keep{K:FG}{H H':Hp}(k:Kp H H'):∀ {d:PyData} {v:V},aB K H d v->aB K H' d v
 | .none,v,h=>by simp only[aB] at h ⊢;exact h
 | .bool b,v,h=>by simp only[aB] at h ⊢;exact h
 | .int i,v,h=>by simp only[aB] at h ⊢;exact h
 | .str x,v,h=>by simp only[aB] at h ⊢;exact h
 | .list ds,v,h=>by simp only[aB] at h ⊢;obtain⟨a,vs,e,s,r⟩:=h;exact⟨a,vs,e,s.keep k,aX.keep k r⟩
 | .tuple ds,v,h=>by simp only[aB] at h ⊢;obtain⟨a,vs,e,s,r⟩:=h;exact⟨a,vs,e,SqT.keep k s,aX.keep k r⟩
 | .dict kvs,v,h=>by simp only[aB] at h ⊢;obtain⟨a,o,l,e,s,r⟩:=h;exact⟨a,o,l,e,k.frz _ _ _ s,i8.keep k r⟩
theorem aX.keep{K:FG}{H H':Hp}(k:Kp H H'):∀ {ds:List PyData} {vs:List V},aX K H ds vs->aX K H' ds vs
 | [],vs,h=>by simp only[aX] at h ⊢;exact h
 | d::ds,vs,h=>by simp only[aX] at h ⊢;obtain⟨v,r,e,h1,h2⟩:=h;exact⟨v,r,e,aB.keep k h1,aX.keep k h2⟩
theorem i8.keep{K:FG}{H H':Hp}(k:Kp H H'):∀ {ds:List (PyData×PyData)} {l:List (Key×V)},i8 K H ds l->i8 K H' ds l
 | [],l,h=>by simp only[i8] at h ⊢;exact h
 | (key,d)::ds,l,h=>by simp only[i8] at h ⊢;obtain⟨k',v,r,e,ek,h1,h2⟩:=h;exact⟨k',v,r,e,ek,aB.keep k h1,i8.keep k h2⟩
end
theorem aX.length{K:FG}{H:Hp}:∀ {ds:List PyData} {vs:List V},aX K H ds vs->vs.length=ds.length
 | [],vs,h=>by simp only[aX] at h;rw[h];rfl
 | d::ds,vs,h=>by simp only[aX] at h;obtain⟨v,r,e,_,h2⟩:=h;rw[e,List.length_cons,List.length_cons,aX.length h2]
theorem aX.get{K:FG}{H:Hp}:∀ {ds:List PyData} {vs:List V} {i:Nat} {d:PyData},aX K H ds vs->ds[i]? =some d->∃ v,vs[i]? =some v/\aB K H d v
 | [],_,_,_,_,e=>by simp at e
 | d::ds,vs,0,d',h,e=>by simp only[aX] at h;obtain⟨v,r,ev,h1,_⟩:=h;simp at e;subst e;exact⟨v,by rw[ev];rfl,h1⟩
 | d::ds,vs,i+1,d',h,e=>by simp only[aX] at h;obtain⟨v,r,ev,_,h2⟩:=h;obtain⟨v',e1,e2⟩:=aX.get (i:=i) h2 (by simpa using e);exact⟨v',by rw[ev];simpa using e1,e2⟩
theorem aX.get'{K:FG}{H:Hp}{ds:List PyData}{vs:List V}{i:Nat}{v:V}(h:aX K H ds vs)(e:vs[i]? =some v):∃ d,ds[i]? =some d/\aB K H d v:=by
 have hi:i<ds.length:=by have:=(List.getElem?_eq_some_iff.mp e).1;rw[h.length] at this;exact this
 obtain⟨v',e1,r⟩:=h.get (i:=i) (d:=ds[i]) (by simp[hi]);rw[e] at e1;cases e1;exact⟨ds[i],by simp[hi],r⟩
theorem aX.ints{K:FG}{H:Hp}:∀ (ns:List Int),aX K H (ns.map PyData.int) (ns.map V.int)
 | []=>by simp[aX]
 | n::ns=>by simp only[List.map_cons,aX];exact⟨_,_,rfl,by simp[aB],aX.ints ns⟩
theorem aX.append{K:FG}{H:Hp}:∀ {ds es:List PyData} {vs us:List V},aX K H ds vs->aX K H es us->aX K H (ds++es) (vs++us)
 | [],es,vs,us,h,q=>by simp only[aX] at h;subst h;exact q
 | d::ds,es,vs,us,h,q=>by simp only[aX] at h;obtain⟨v,r,e,h1,h2⟩:=h;subst e;simp only[List.cons_append,aX];exact⟨v,r++us,rfl,h1,aX.append h2 q⟩
theorem aX.drop{K:FG}{H:Hp}:∀ {ds:List PyData} {vs:List V} (n:Nat),aX K H ds vs->aX K H (ds.drop n) (vs.drop n)
 | ds,vs,0,h=>by simpa using h
 | [],vs,n+1,h=>by simp only[aX] at h;subst h;simp[aX]
 | d::ds,vs,n+1,h=>by
  simp only[aX] at h;obtain⟨v,r,e,_,h2⟩:=h;subst e
  simpa using aX.drop n h2
theorem aX.take{K:FG}{H:Hp}:∀ {ds:List PyData} {vs:List V} (n:Nat),aX K H ds vs->aX K H (ds.take n) (vs.take n)
 | ds,vs,0,h=>by simp[aX]
 | [],vs,n+1,h=>by simp only[aX] at h;subst h;simp[aX]
 | d::ds,vs,n+1,h=>by simp only[aX] at h;obtain⟨v,r,e,h1,h2⟩:=h;subst e;simp only[List.take_succ_cons,aX];exact⟨v,_,rfl,h1,aX.take n h2⟩
inductive W where
 | d (x:PyData)
 | m (a:Addr)
 | t (n:String)
inductive MO where
 | lst (ws:List W)
 | dic (kvs:List (Key×W))
 | dct (kvs:List (List Key×W))
 | fdic (kvs:List (Key×W))
 | ins (C:Addr) (fs:List (Str×W))
 | tup (ws:List W)
 | flst (ws:List W)
 | exc (C:Addr) (fs:List (Str×W))
 | code (q:Str) (pos:Pos)
abbrev MH:=Addr->Option MO
def aS(M:MH)(a:Addr)(o:MO):MH:=λ b=>if b=a then some o else M b
theorem af:aS M a o a=some o:=if_pos rfl
theorem ah(h:b≠a):aS M a o b=M b:=if_neg h
theorem lh:aS (aS M a o) a u=aS M a u:=by funext b;unfold aS;split<;>rfl
abbrev DS:=List (Option W)
def aJ(K:FG)(H:Hp):W->V->Prop
 | .d x,v=>aB K H x v
 | .m a,v=>v=.ref a
 | .t n,v=>v=.ty n
theorem aJ.keep{K:FG}{H H':Hp}(k:Kp H H'):∀ {w:W} {v:V},aJ K H w v->aJ K H' w v
 | .d _,_,h=>aB.keep k h
 | .m _,_,h=>h
 | .t _,_,h=>h
def bh(K:FG)(H:Hp):List W->List V->Prop:=Paired (aJ K H)
theorem bh.keep{K:FG}{H H':Hp}(k:Kp H H'){ws:List W}{vs:List V}(h:bh K H ws vs):bh K H' ws vs:=Paired.fD h λ _ _ r=>r.keep k
theorem bh.length{K:FG}{H:Hp}{ws:List W}{vs:List V}(h:bh K H ws vs):ws.length=vs.length:=Paired.length h
theorem bh.get{K:FG}{H:Hp}:∀ {ws:List W} {vs:List V} {i:Nat} {w:W},bh K H ws vs->ws[i]? =some w->∃ v,vs[i]? =some v/\aJ K H w v
 | _,_,_,_,.nil,e=>by simp at e
 | _,_,0,_,.cons r _,e=>by simp at e;subst e;exact⟨_,rfl,r⟩
 | _,_,i+1,_,.cons _ t,e=>by obtain⟨u,h1,h2⟩:=bh.get (i:=i) t (by simpa using e);exact⟨u,by simpa using h1,h2⟩
theorem bh.set{K:FG}{H:Hp}{w:W}{v:V}(r:aJ K H w v):∀ {ws:List W} {vs:List V} (i:Nat),bh K H ws vs->bh K H (ws.set i w) (vs.set i v)
 | _,_,_,.nil=>.nil
 | _,_,0,.cons _ t=>.cons r t
 | _,_,i+1,.cons q t=>.cons q (bh.set r i t)
theorem bh.append{K:FG}{H:Hp}:∀ {ws ws':List W} {vs vs':List V},bh K H ws vs->bh K H ws' vs'->bh K H (ws++ws') (vs++vs')
 | _,_,_,_,.nil,s=>s
 | _,_,_,_,.cons r t,s=>.cons r (bh.append t s)
theorem bh.data{K:FG}{H:Hp}:∀ {ds:List PyData} {vs:List V},bh K H (ds.map W.d) vs->aX K H ds vs
 | [],_,h=>by cases h;simp[aX]
 | d::ds,_,h=>by
  cases h with
  | cons r t=>simp only[aX];exact⟨_,_,rfl,r,bh.data t⟩
theorem aX.ws{K:FG}{H:Hp}:∀ {ds:List PyData} {vs:List V},aX K H ds vs->bh K H (ds.map W.d) vs
 | [],vs,h=>by simp only[aX] at h;subst h;exact .nil
 | d::ds,vs,h=>by simp only[aX] at h;obtain⟨v,r,e,h1,h2⟩:=h;subst e;exact .cons h1 (aX.ws h2)
def adI(K:FG)(H:Hp)(a:Addr):MO->Prop
 | .lst ws=>∃ vs,H a=some (.lst vs)/\bh K H ws vs
 | .dic kvs=>∃ l,H a=some (.dK l)/\Paired (λ(p:Key×W) (q:Key×V)=>p.1=q.1/\aJ K H p.2 q.2) kvs l
 | .fdic kvs=>∃ o l,H a=some (.frz o (.frz o (.dK l)))/\Paired (λ(p:Key×W) (q:Key×V)=>p.1=q.1/\aJ K H p.2 q.2) kvs l
 | .dct kvs=>∃ l,H a=some (.dT l)/\Paired (λ(p:List Key×W) (q:List Key×V)=>p.1=q.1/\aJ K H p.2 q.2) kvs l
 | .ins C fs=>∃ dx l,H a=some (.ins C dx l)/\Paired (λ(p:Str×W) (q:Str×V)=>p.1=q.1/\aJ K H p.2 q.2) fs l
 | .tup ws=>∃ vs,H a=some (.tup vs)/\bh K H ws vs
 | .flst ws=>∃ o vs,H a=some (.frz o (.frz o (.lst vs)))/\bh K H ws vs
 | .exc C fs=>∃ φ dct,H a=some (.ext φ)/\(∀ h,φ h->∃ vs,h.get? a=some {cls:=.ref C,dict:=dct,data:=.fields vs}/\(fs=[]->vs[2]? =some .none)) /\
   ((dct=none/\fs=[])\/∃ dx o l,dct=some dx/\H dx=some (.frz o (.xd l))/\Paired (λ(p:Str×W) (q:Str×V)=>p.1=q.1/\aJ K H p.2 q.2) fs l)
 | .code q pos=>∃ ps,H a=some (.tbl ps)/\TriplesOk ps.toList/\(codeAmong pos ps.toList=none\/∃ c o vs t,codeAmong pos ps.toList=some (.ref c)/\H c=some (.frz o (.own 0))/\o.data=.fields vs/\vs[1]? =some (.str q t))
def cB(K:FG)(H:Hp)(M:MH):Prop:=∀ a o,M a=some o->adI K H a o
theorem adI.is{K:FG}{H:Hp}{a:Addr}{o:MO}(h:adI K H a o):∃ u,H a=some u:=by
 cases o with
 | lst ws=>obtain⟨vs,e,_⟩:=h;exact⟨_,e⟩
 | dic kvs=>obtain⟨l,e,_⟩:=h;exact⟨_,e⟩
 | dct kvs=>obtain⟨l,e,_⟩:=h;exact⟨_,e⟩
 | fdic kvs=>obtain⟨o,l,e,_⟩:=h;exact⟨_,e⟩
 | ins C fs=>obtain⟨dx,l,e,_⟩:=h;exact⟨_,e⟩
 | tup ws=>obtain⟨vs,e,_⟩:=h;exact⟨_,e⟩
 | flst ws=>obtain⟨o,vs,e,_⟩:=h;exact⟨_,e⟩
 | exc C fs=>obtain⟨φ,dct,e,_⟩:=h;exact⟨_,e⟩
 | code q pos=>obtain⟨ps,e,_⟩:=h;exact⟨_,e⟩
theorem cB.free{K:FG}{H:Hp}{M:MH}(h:cB K H M){p:Addr}(e:H p=none):M p=none:=by
 cases q:M p with
 | none=>rfl
 | some o =>
  obtain⟨u,z⟩:=(h p o q).is;rw[e] at z;cases z
theorem adI.keep{K:FG}{H H':Hp}{a:Addr}{o:MO}(k:Kp H H')(s:∀ u,H a=some u->H' a=some u)(h:adI K H a o):adI K H' a o:=by
 cases o with
 | lst ws=>obtain⟨vs,e,r⟩:=h;exact⟨vs,s _ e,r.keep k⟩
 | dic kvs=>obtain⟨l,e,r⟩:=h;exact⟨l,s _ e,Paired.fD r λ p q z=>⟨z.1,z.2.keep k⟩⟩
 | dct kvs=>obtain⟨l,e,r⟩:=h;exact⟨l,s _ e,Paired.fD r λ p q z=>⟨z.1,z.2.keep k⟩⟩
 | fdic kvs=>obtain⟨o,l,e,r⟩:=h;exact⟨o,l,s _ e,Paired.fD r λ p q z=>⟨z.1,z.2.keep k⟩⟩
 | ins C fs=>obtain⟨dx,l,e,r⟩:=h;exact⟨dx,l,s _ e,Paired.fD r λ p q z=>⟨z.1,z.2.keep k⟩⟩
 | tup ws=>obtain⟨vs,e,r⟩:=h;exact⟨vs,s _ e,r.keep k⟩
 | flst ws=>obtain⟨o,vs,e,r⟩:=h;exact⟨o,vs,s _ e,r.keep k⟩
 | exc C fs =>
  obtain⟨φ,dct,e,p,r⟩:=h;refine⟨φ,dct,s _ e,p,?_⟩;rcases r with r | ⟨dx,o,l,e1,e2,r⟩
  .exact .inl r
  .exact .inr ⟨dx,o,l,e1,k.frz _ _ _ e2,Paired.fD r λ p q z=>⟨z.1,z.2.keep k⟩⟩
 | code q pos =>
  obtain⟨ps,e,ht,hc⟩:=h;refine⟨ps,s _ e,ht,?_⟩;rcases hc with hc | ⟨c,o,vs,t,e1,e2,e3⟩
  .exact .inl hc
  .exact .inr ⟨c,o,vs,t,e1,k.frz _ _ _ e2,e3⟩
theorem cB.new{K:FG}{H:Hp}{M:MH}{p:Addr}{o:HO}(h:cB K H M)(e:H p=none):cB K (upd H p o) M:=λ a mo q =>
 (h a mo q).keep (Kp.new e) λ u z=>by rw[ai (aR z e)];exact z
theorem cB.put{K:FG}{H:Hp}{M:MH}{p:Addr}{o:HO}{mo:MO}(h:cB K H M)(k:Kp H (upd H p o))(r:adI K (upd H p o) p mo):cB K (upd H p o) (aS M p mo):=λ a mo' q=>by
 by_cases e:a=p
 .subst e;rw[af] at q;cases q;exact r
 .rw[ah e] at q;exact(h a mo' q).keep k λ u z=>by rw[ai e];exact z
structure Abs(K:FG)(H:Hp)(σ:St)(τ:DS)(M:MH):Prop where
 len:σ.length=τ.length
 val:∀ (i:Nat) w,τ[i]? =some (some w)->∃ v,σ[i]? =some (some v)/\aJ K H w v
 mem:cB K H M
theorem Abs.go{K:FG}{H H':Hp}{σ:St}{τ:DS}{M M':MH}(h:Abs K H σ τ M)(k:Kp H H')(m:cB K H' M'):Abs K H' σ τ M':=
 ⟨h.len,λ i w e=>let ⟨v,q,r⟩:=h.val i w e; ⟨v,q,r.keep k⟩,m⟩
theorem Abs.set{K:FG}{H:Hp}{σ:St}{τ:DS}{M:MH}{w:W}{v:V}(h:Abs K H σ τ M)(i:Nat)(r:aJ K H w v):Abs K H (σ.set i (some v)) (τ.set i (some w)) M:=by
 refine⟨by rw[List.length_set,List.length_set];exact h.len,λ j w' e=>?_,h.mem⟩
 by_cases hj:i=j
 .subst hj;have hl:i<τ.length:=by
   have:=(List.getElem?_eq_some_iff.mp e).1
   rwa[List.length_set] at this
  rw[List.getElem?_set_self hl] at e;cases e;exact⟨v,List.getElem?_set_self (by rw[h.len];exact hl),r⟩
 .rw[List.getElem?_set_ne hj] at e;obtain⟨v',q,r'⟩:=h.val j w' e;exact⟨v',by rw[List.getElem?_set_ne hj];exact q,r'⟩
abbrev QD:=W->MH->Prop
abbrev TD:=DS->MH->QD->Prop
abbrev TTd:=DS->MH->(Bool->MH->Prop)->Prop
abbrev TAd:=DS->MH->(List W->MH->Prop)->Prop
structure Ed where
 nx:DS->MH->Prop
 rt:QD
 bk:DS->MH->Prop:=λ _ _=>False
 ct:DS->MH->Prop:=λ _ _=>False
abbrev TSd:=Ed->DS->MH->Prop
def up(K:FG)(t:TD):TE:=λ σ H Q=>∃ τ M Qd,Abs K H σ τ M/\t τ M Qd/\∀ v H' w M',Kp H H'->aJ K H' w v->cB K H' M'->Qd w M'->Q v H'
def upT(K:FG)(t:TTd):TT:=λ σ H Q=>∃ τ M Qd,Abs K H σ τ M/\t τ M Qd/\∀ b H' M',Kp H H'->cB K H' M'->Qd b M'->Q b H'
def upA(K:FG)(t:TAd):TA:=λ σ H Q=>∃ τ M Qd,Abs K H σ τ M/\t τ M Qd/\∀ vs H' ws M',Kp H H'->bh K H' ws vs->cB K H' M'->Qd ws M'->Q vs H'
def upS(K:FG)(t:TSd):TS:=λ D σ H=>∃ τ M Dd,Abs K H σ τ M/\t Dd τ M /\
 (∀ σ' H' τ' M',Kp H H'->Abs K H' σ' τ' M'->Dd.nx τ' M'->D.nx σ' H')/\(∀ v H' w M',Kp H H'->aJ K H' w v->cB K H' M'->Dd.rt w M'->D.rt v H') /\
 (∀ σ' H' τ' M',Kp H H'->Abs K H' σ' τ' M'->Dd.bk τ' M'->D.bk σ' H')/\(∀ σ' H' τ' M',Kp H H'->Abs K H' σ' τ' M'->Dd.ct τ' M'->D.ct σ' H')
abbrev PD(X:Cx)(e:Expr)(t:TD):Prop:=PE X e (up X.K t)
abbrev PTd(X:Cx)(e:Expr)(t:TTd):Prop:=PT X e (upT X.K t)
abbrev PAd(X:Cx)(es:List Expr)(t:TAd):Prop:=PA X es (upA X.K t)
abbrev PSd(X:Cx)(st:Stmt)(t:TSd):Prop:=PS X st (upS X.K t)
abbrev t8(X:Cx)(st:List Stmt)(t:TSd):Prop:=PSs X st (upS X.K t)
theorem fN(h:PE X e t)(k:∀ σ H Q,t' σ H Q->t σ H Q):PE X e t':=λ pins s σ H Q I q=>h pins s σ H Q I (k σ H Q q)
theorem ajn(h:PT X e t)(k:∀ σ H Q,t' σ H Q->t σ H Q):PT X e t':=λ pins s σ H Q I q=>h pins s σ H Q I (k σ H Q q)
theorem akY(h:PA X es t)(k:∀ σ H Q,t' σ H Q->t σ H Q):PA X es t':=λ pos pins s σ H Q I q=>h pos pins s σ H Q I (k σ H Q q)
theorem qU{st:Stmt}{t t':TS}(h:PS X st t)(k:∀ D σ H,t' D σ H->t D σ H):PS X st t':=λ pins s σ H D I q=>h pins s σ H D I (k D σ H q)
theorem ahM{st:List Stmt}{t t':TS}(h:PSs X st t)(k:∀ D σ H,t' D σ H->t D σ H):PSs X st t':=λ pins s σ H D I q=>h pins s σ H D I (k D σ H q)
end D
namespace D
open L2
section
variable {X:Cx}{pos:Pos}{a b c e:Expr}{ta tb tc te:TD}{K:FG}
abbrev Kont(K:FG)(H:Hp)(Qd:QD)(Q:VK):Prop:=∀ v H' w M',Kp H H'->aJ K H' w v->cB K H' M'->Qd w M'->Q v H'
theorem kgo(k:Kont K H Qd Q)(kp:Kp H H1):Kont K H1 Qd Q:=λ v H' w M' k2 r m q=>k v H' w M' (kp.trans k2) r m q
inductive als(i:Nat) (τ:DS) (M:MH) (Q:QD):Prop
 | mk (w:W) (z:τ[i]? =some (some w)) (q:Q w M):als i τ M Q
def ag(i:Nat)(τ:DS)(M:MH)(Q:QD):Prop:=als i τ M Q
theorem aiS(h:PE X e (ak9 i)):PD X e (ag i):=fN h λ σ H Q hq35=>by obtain⟨τ,M,Qd,A,⟨w,e,q⟩,k⟩:=hq35;obtain⟨v,e',r⟩:=A.val i w e;exact⟨v,e',k v H w M (Kp.refl H) r A.mem q⟩
def dC(w:W)(_:DS)(M:MH)(Q:QD):Prop:=Q w M
theorem ahu(h:PE X e (tC v))(r:∀ H,aJ X.K H w v):PD X e (dC w):=fN h λ σ H Q ⟨τ,M,Qd,A,q,k⟩=>k v H w M (Kp.refl H) (r H) A.mem q
def OpD(K:FG)(r:R2)(rd:W->W->MH->QD->Prop):Prop:=∀ x y H w w' M Qd Q,aJ K H w x->aJ K H w' y->cB K H M->rd w w' M Qd->Kont K H Qd Q->r x y H Q
def dOp(rd:W->W->MH->QD->Prop)(ta tb:TD)(τ:DS)(M:MH)(Q:QD):Prop:=ta τ M λ w M1=>tb τ M1 λ w' M2=>rd w w' M2 Q
theorem uJ(hd:OpD K r rd)(h:up K (dOp rd ta tb) σ H Q):tOp r (up K ta) (up K tb) σ H Q:=by obtain⟨τ,M,Qd,A,h,k⟩:=h;refine⟨τ,M,_,A,h,λ x H1 w M1 kp r1 m1 q1=>⟨τ,M1,_,A.go kp m1,q1,λ y H2 w' M2 kp2 r2 m2 q2=>?_⟩⟩;exact hd x y H2 w w' M2 Qd Q (r1.keep kp2) r2 m2 q2 (kgo k (kp.trans kp2))
theorem akb(ho:OpR X (binaryOp op) r)(hd:OpD X.K r rd)(ha:PD X a ta)(hb:PD X b tb):PD X (.BinOp a op b pos) (dOp rd ta tb):=fN (aiF ho ha hb) λ σ H Q h=>uJ hd h
theorem aiI(ho:OpR X (compareOp op) r)(hd:OpD X.K r rd)(ha:PD X a ta)(hb:PD X b tb)(hm:behindInMarks op b=false:=by first | exact nobehind _ (by decide) (by decide) | rfl) :
  PD X (.Compare a [op] [b] pos) (dOp rd ta tb):=fN (afT ho ha hb hm) λ σ H Q h=>uJ hd h
theorem akN(hr:IxR X r)(hd:OpD X.K r rd)(ha:PD X a ta)(hb:PD X b tb)(hs:oM b:=by intro _ _;rfl):PD X (.Subscript a b pos) (dOp rd ta tb):=fN (ajJ hr ha hb hs) λ σ H Q h=>uJ hd h
def aT(t:TD)(τ:DS)(M:MH)(Q:Bool->MH->Prop):Prop:=t τ M λ w M1=>∃ k,w=.d (.bool k)/\Q k M1
theorem oU(hi:∀ σ H Q,up K ta σ H Q->t' σ H Q)(h:upT K (aT ta) σ H Q):ajb t' σ H Q:=by obtain⟨τ,M,Qd,A,h,k⟩:=h;refine hi σ H _ ⟨τ,M,_,A,h,λ v H' w M' kp r m hq36=>?_⟩;obtain⟨b,e,q⟩:=hq36;subst e;simp only[aJ,aB] at r;exact⟨b,r,k b H' M' kp m q⟩
theorem ae8(ho:OpR X (compareOp op) r)(hd:OpD X.K r rd)(ha:PD X a ta)(hb:PD X b tb)(hm:behindInMarks op b=false:=by first | exact nobehind _ (by decide) (by decide) | rfl) :
  PTd X (.Compare a [op] [b] pos) (aT (dOp rd ta tb)):=ajn (aeq ho ha hb hm) λ σ H Q h=>oU (λ _ _ _ q=>uJ hd q) h
theorem afA(h:PD X e te)(he:∀ whole,isTrue e X.env whole=(do let v <- whole;standAt e.pos;holding [v] (truthy v)):=by intro _;rfl):PTd X e (aT te):=ajn (ah8 h he) λ σ H Q q=>oU (λ _ _ _ z=>z) q
variable {tA tB:TTd}{rest:List Expr}
def ady(t u:TTd)(τ:DS)(M:MH)(Q:Bool->MH->Prop):Prop:=t τ M λ k M1=>if k=true then u τ M1 Q else Q false M1
def dOr(t u:TTd)(τ:DS)(M:MH)(Q:Bool->MH->Prop):Prop:=t τ M λ k M1=>if k=true then Q true M1 else u τ M1 Q
def zB(t:TTd)(τ:DS)(M:MH)(Q:Bool->MH->Prop):Prop:=t τ M λ k M1=>Q (!k) M1
abbrev PWd(X:Cx)(e:Expr)(t:TTd):Prop:=PW X e (upT X.K t)
theorem pw_w(h:PW X e t)(k:∀ σ H Q,t' σ H Q->t σ H Q):PW X e t':=λ w pins s σ H Q I q=>h w pins s σ H Q I (k σ H Q q)
theorem abT(ha:PTd X a tA):PWd X (.BoolOp .And [a] pos) tA:=pw_and1 ha
theorem adJ(ha:PTd X a tA):PWd X (.BoolOp .Or [a] pos) tA:=pw_or1 ha
theorem agm(ha:PTd X a tA)(hb:PWd X (.BoolOp .And (b::rest) pos) tB):PWd X (.BoolOp .And (a::b::rest) pos) (ady tA tB):=pw_w (pw_and ha hb) λ σ H Q h=>by
 obtain⟨τ,M,Qd,A,h,k⟩:=h;refine⟨τ,M,_,A,h,λ b H1 M1 kp m1 q1=>?_⟩;cases b with
 | true=>rw[if_pos rfl] at q1 ⊢;exact⟨τ,M1,Qd,A.go kp m1,q1,λ b H2 M2 kp2 m2 q2=>k b H2 M2 (kp.trans kp2) m2 q2⟩
 | false=>rw[if_neg ft0] at q1 ⊢;exact k _ H1 M1 kp m1 q1
theorem ajj(ha:PTd X a tA)(hb:PWd X (.BoolOp .Or (b::rest) pos) tB):PWd X (.BoolOp .Or (a::b::rest) pos) (dOr tA tB):=pw_w (pw_or ha hb) λ σ H Q h=>by
 obtain⟨τ,M,Qd,A,h,k⟩:=h;refine⟨τ,M,_,A,h,λ b H1 M1 kp m1 q1=>?_⟩;cases b with
 | false=>rw[if_neg ft0] at q1 ⊢;exact⟨τ,M1,Qd,A.go kp m1,q1,λ b H2 M2 kp2 m2 q2=>k b H2 M2 (kp.trans kp2) m2 q2⟩
 | true=>rw[if_pos rfl] at q1 ⊢;exact k _ H1 M1 kp m1 q1
theorem aj5(h:PWd X e tA):PTd X e tA:=h.pt
theorem aem(ha:PTd X a tA):PTd X (.UnaryOp .Not a pos) (zB tA):=ajn (ag6 ha) λ σ H Q h=>by obtain⟨τ,M,Qd,A,h,k⟩:=h;exact⟨τ,M,_,A,h,λ b H1 M1 kp m1 q1=>k (!b) H1 M1 kp m1 q1⟩
def acH(ta tb:TD)(τ:DS)(M:MH)(Q:QD):Prop:=ta τ M λ x M1=>∃ k,x=.d (.bool k)/\if k=true then tb τ M1 Q else Q (.d (.bool false)) M1
def ajt(ta tb:TD)(τ:DS)(M:MH)(Q:QD):Prop:=ta τ M λ x M1=>∃ k,x=.d (.bool k)/\if k=true then Q (.d (.bool true)) M1 else tb τ M1 Q
def afv(ta:TD)(τ:DS)(M:MH)(Q:QD):Prop:=ta τ M λ x M1=>∃ k,x=.d (.bool k)/\Q (.d (.bool (!k))) M1
theorem ahB{op}(h:PD X a ta):PD X (.BoolOp op [a] pos) ta:=aja h
theorem aiL(ha:PD X a ta)(hb:PD X (.BoolOp .And (b::rest) pos) tb):PD X (.BoolOp .And (a::b::rest) pos) (acH ta tb):=fN (aiH ha hb) λ σ H Q h=>by
 obtain⟨τ,M,Qd,A,h,k⟩:=h;refine⟨τ,M,_,A,h,λ x H1 w M1 kp r1 m1 hq37=>?_⟩;obtain⟨b,e,q1⟩:=hq37;subst e;simp only[aJ,aB] at r1;refine⟨b,r1,?_⟩;cases b with
 | true=>rw[if_pos rfl] at q1 ⊢;exact⟨τ,M1,Qd,A.go kp m1,q1,kgo k kp⟩
 | false=>rw[if_neg ft0] at q1 ⊢;exact k _ H1 _ M1 kp (by simp[aJ,aB]) m1 q1
theorem akD(ha:PD X a ta)(hb:PD X (.BoolOp .Or (b::rest) pos) tb):PD X (.BoolOp .Or (a::b::rest) pos) (ajt ta tb):=fN (ajT ha hb) λ σ H Q h=>by
 obtain⟨τ,M,Qd,A,h,k⟩:=h;refine⟨τ,M,_,A,h,λ x H1 w M1 kp r1 m1 hq38=>?_⟩;obtain⟨b,e,q1⟩:=hq38;subst e;simp only[aJ,aB] at r1;refine⟨b,r1,?_⟩;cases b with
 | false=>rw[if_neg ft0] at q1 ⊢;exact⟨τ,M1,Qd,A.go kp m1,q1,kgo k kp⟩
 | true=>rw[if_pos rfl] at q1 ⊢;exact k _ H1 _ M1 kp (by simp[aJ,aB]) m1 q1
theorem agO(ha:PD X a ta):PD X (.UnaryOp .Not a pos) (afv ta):=fN (ahj ha) λ σ H Q h=>by obtain⟨τ,M,Qd,A,h,k⟩:=h;refine⟨τ,M,_,A,h,λ x H1 w M1 kp r1 m1 hq39=>?_⟩;obtain⟨b,e,q1⟩:=hq39;subst e;simp only[aJ,aB] at r1;exact⟨b,r1,k _ H1 _ M1 kp (by simp[aJ,aB]) m1 q1⟩
variable {es:List Expr}{t:TAd}
def ay(_:DS)(M:MH)(Q:List W->MH->Prop):Prop:=Q [] M
def ab(ta:TD)(tr:TAd)(τ:DS)(M:MH)(Q:List W->MH->Prop):Prop:=ta τ M λ w M1=>tr τ M1 λ ws M2=>Q (w::ws) M2
theorem xI:PAd X [] ay:=akY aan λ σ H Q ⟨τ,M,Qd,A,h,k⟩=>k [] H [] M (Kp.refl H) .nil A.mem h
theorem abG(ha:PD X e te)(hr:PAd X es t)(hs:starEach (e::es) X.env=(false,eval e X.env)::starEach es X.env:=by rfl):PAd X (e::es) (ab te t):=akY (uc ha hr hs) λ σ H Q h=>by obtain⟨τ,M,Qd,A,h,k⟩:=h;exact⟨τ,M,_,A,h,λ x H1 w M1 kp r1 m1 q1=>⟨τ,M1,_,A.go kp m1,q1,λ xs H2 ws M2 kp2 r2 m2 q2=>k _ H2 _ M2 (kp.trans kp2) (.cons (r1.keep kp2) r2) m2 q2⟩⟩
def pS:List W->Option (List PyData)
 | []=>some []
 | .d x::r=>(pS r).map (x::·)
 | _::_=>none
theorem qh:∀ {ws:List W} {ds:List PyData},pS ws=some ds->ws=ds.map W.d
 | [],ds,h=>by simp only[pS] at h;cases h;rfl
 | .d x::r,ds,h=>by
  simp only[pS] at h;cases q:pS r with
  | none=>rw[q] at h;cases h
  | some l=>rw[q] at h;cases h;rw[qh q];rfl
 | .m _::_,ds,h=>by simp[pS] at h
 | .t _::_,ds,h=>by simp[pS] at h
def xy(t:TAd)(τ:DS)(M:MH)(Q:QD):Prop:=t τ M λ ws M1=>∃ ds,pS ws=some ds/\ds.length<=sizeLine/\Q (.d (.list ds)) M1
theorem afu(hp:H p=none)(r:aX K H ds vs):aB K (upd H p (.frz o (.lst vs))) (.list ds) (.ref p):=by simp only[aB];exact⟨p,vs,rfl,.inl ⟨o,aj⟩,r.keep (Kp.new hp)⟩
theorem qe(hp:H p=none)(r:aX K H ds vs)(m:cB K H M)(q:Qd (.d (.list ds)) M)(k:Kont K H Qd Q) :
  ∃ p' u,V.ref p=.ref p'/\(upd H p (.lst vs)) p'=some u/\Fz u/\∀ o,Q (.ref p) (upd (upd H p (.lst vs)) p' (.frz o u)):=by
 refine⟨p,_,rfl,aj,trivial,λ o=>?_⟩;rw[afP];exact k _ _ (.d (.list ds)) M (Kp.new hp) (afu hp r) (m.new hp) q
theorem aiv(h:PAd X es t):PD X (.List es pos) (xy t):=fN (vb (acY h)) λ σ H Q h=>by obtain⟨τ,M,Qd,A,h,k⟩:=h;refine⟨τ,M,_,A,h,λ vs H1 ws M1 kp r1 m1 hq40=>?_⟩;obtain⟨ds,e,hz,q1⟩:=hq40;have e':=qh e;subst e';have rA:=r1.data;exact⟨by rw[rA.length];exact hz,λ p hp=>qe hp rA m1 q1 (kgo k kp)⟩
def mU(t:TAd)(τ:DS)(M:MH)(Q:QD):Prop:=t τ M λ ws M1=>ws.length<=sizeLine/\∀ p,M1 p=none->Q (.m p) (aS M1 p (.lst ws))
theorem afz(h:PAd X es t):PD X (.List es pos) (mU t):=fN (acY h) λ σ H Q h=>by obtain⟨τ,M,Qd,A,h,k⟩:=h;refine⟨τ,M,_,A,h,λ vs H1 ws M1 kp r1 m1 ⟨hz,q1⟩=>⟨by rw[<- r1.length];exact hz,λ p hp=>?_⟩⟩;exact k _ _ (.m p) (aS M1 p (.lst ws)) (kp.trans (Kp.new hp)) rfl (m1.put (mo:=.lst ws) (Kp.new hp) ⟨vs,aj,r1.keep (Kp.new hp)⟩) (q1 p (m1.free hp))
def m9(t:TAd)(τ:DS)(M:MH)(Q:QD):Prop:=t τ M λ ws M1=>∃ ds,pS ws=some ds/\ds.length<=sizeLine/\Q (.d (.tuple ds)) M1
theorem ajd{x1}(h:PAd X es t):PD X (.Tuple es x1 pos) (m9 t):=fN (uC h) λ σ H Q h=>by obtain⟨τ,M,Qd,A,h,k⟩:=h;refine⟨τ,M,_,A,h,λ vs H1 ws M1 kp r1 m1 hq41=>?_⟩;obtain⟨ds,e,hz,q1⟩:=hq41;have e':=qh e;subst e';have rA:=r1.data;refine⟨by rw[rA.length];exact hz,λ p hp=>k _ _ (.d (.tuple ds)) M1 (kp.trans (Kp.new hp)) ?_ (m1.new hp) q1⟩;simp only[aJ,aB];exact⟨p,vs,rfl,.inl (.inl aj),rA.keep (Kp.new hp)⟩
variable {x:Str}{p:Pos}{id T:String}{r:List V->Hp->VK->Prop}{rd:List W->MH->QD->Prop}
def eK(K:FG)(r:List V->Hp->VK->Prop)(rd:List W->MH->QD->Prop):Prop:=∀ vs H ws M Qd Q,bh K H ws vs->cB K H M->rd ws M Qd->Kont K H Qd Q->r vs H Q
def dCB(rd:List W->MH->QD->Prop)(t:TAd)(τ:DS)(M:MH)(Q:QD):Prop:=t τ M λ ws M1=>rd ws M1 Q
theorem adk(hd:eK K r rd)(h:up K (dCB rd t) σ H Q):tCB r (upA K t) σ H Q:=by obtain⟨τ,M,Qd,A,h,k⟩:=h;exact⟨τ,M,_,A,h,λ vs H1 ws M1 kp r1 m1 q1=>hd vs H1 ws M1 Qd Q r1 m1 q1 (kgo k kp)⟩
theorem acd(hc:dr X (.builtin id) r)(hd:eK X.K r rd)(hg:Gl X x)(hm:X.mg x=none)(hv:bootBuiltins x=some (.builtin id))(ha:PAd X (e::es) t)(hn:x ≠ "__name__":= by decide)(hdb:ND x:=by decide)
  (he:starEach (e::es) X.env=(false,eval e X.env)::starEach es X.env:=by rfl)(hpl:(backTo pos (starEach es X.env)).any (·.1)=false:=by rfl):PD X (.Call (.Name x p) (e::es) [] pos) (dCB rd t):=
 fN (acO hc hg hm hv ha hn hdb he hpl) λ σ H Q h=>adk hd h
theorem aav(hc:dr X (.type T) r)(hd:eK X.K r rd)(hg:Gl X x)(hm:X.mg x=none)(hv:bootBuiltins x=some (.type T))(ha:PAd X (e::es) t)(hn:x ≠ "__name__":= by decide)(hdb:ND x:=by decide)
  (he:starEach (e::es) X.env=(false,eval e X.env)::starEach es X.env:=by rfl)(hpl:(backTo pos (starEach es X.env)).any (·.1)=false:=by rfl):PD X (.Call (.Name x p) (e::es) [] pos) (dCB rd t):=
 fN (aaV hc hg hm hv ha hn hdb he hpl) λ σ H Q h=>adk hd h
end
section
variable {X:Cx}{pos:Pos}{st:Stmt}{sts:List Stmt}{t u:TSd}{e:Expr}{te:TD}{K:FG}
def bL(D:Ed)(τ:DS)(M:MH):Prop:=D.nx τ M
def aV(t u:TSd)(D:Ed)(τ:DS)(M:MH):Prop:=t {D with nx:=u D} τ M
theorem xJ(h1:PSd X st t)(h2:t8 X sts u):t8 X (st::sts) (aV t u):=ahM (acC h1 h2) λ D σ H ⟨τ,M,Dd,A,h,k1,k2,k3,k4⟩ =>
 ⟨τ,M,{Dd with nx:=u Dd},A,h,λ σ' H' τ' M' kp A' q=>⟨τ',M',Dd,A',q,λ σ2 H2 τ2 M2 kp2=>k1 σ2 H2 τ2 M2 (kp.trans kp2),λ v H2 w M2 kp2=>k2 v H2 w M2 (kp.trans kp2),λ σ2 H2 τ2 M2 kp2=>k3 σ2 H2 τ2 M2 (kp.trans kp2),λ σ2 H2 τ2 M2 kp2=>k4 σ2 H2 τ2 M2 (kp.trans kp2)⟩,k2,k3,k4⟩
theorem ab7(h1:PSd X st t):t8 X [st] t:=aeC h1
def dt(te:TD)(D:Ed)(τ:DS)(M:MH):Prop:=te τ M λ _ M1=>D.nx τ M1
theorem abu(he:PD X e te)(hs:swapsWith e none pos.line X.env=pure false:=by rfl):PSd X (.Expr e pos) (dt te):=qU (agb he hs) λ D σ H ⟨τ,M,Dd,A,h,k1,_⟩ =>
 ⟨τ,M,_,A,h,λ v H1 w M1 kp r m q=>k1 σ H1 τ M1 kp (A.go kp m) q⟩
def cm(te:TD)(D:Ed)(τ:DS)(M:MH):Prop:=te τ M D.rt
theorem ad1(he:PD X e te):PSd X (.Return (some e) pos) (cm te):=qU (ag8 he) λ D σ H ⟨τ,M,Dd,A,h,k1,k2,_⟩=>⟨τ,M,_,A,h,λ v H1 w M1 kp r m q=>k2 v H1 w M1 kp r m q⟩
def dIf(c:TTd)(t u:TSd)(D:Ed)(τ:DS)(M:MH):Prop:=c τ M λ b M1=>if b=true then t D τ M1 else u D τ M1
theorem aiy(hc:PTd X c tc)(ha:t8 X a t)(hb:t8 X b u):PSd X (.If c a b pos) (dIf tc t u):=qU (akx hc ha hb) λ D σ H hq42=>by
 obtain⟨τ,M,Dd,A,h,k1,k2,k3,k4⟩:=hq42;refine⟨τ,M,_,A,h,λ b H1 M1 kp m q=>?_⟩;have go:∀ {t':TSd},t' Dd τ M1->upS X.K t' D σ H1:=λ {t'} q=>⟨τ,M1,Dd,A.go kp m,q,λ σ2 H2 τ2 M2 kp2=>k1 σ2 H2 τ2 M2 (kp.trans kp2),λ v H2 w M2 kp2=>k2 v H2 w M2 (kp.trans kp2),λ σ2 H2 τ2 M2 kp2=>k3 σ2 H2 τ2 M2 (kp.trans kp2),λ σ2 H2 τ2 M2 kp2=>k4 σ2 H2 τ2 M2 (kp.trans kp2)⟩;cases b with
 | true=>rw[if_pos rfl] at q;show(if true=true then upS X.K t D σ H1 else upS X.K u D σ H1);rw[if_pos rfl];exact go q
 | false=>rw[if_neg ft0] at q;show(if false=true then upS X.K t D σ H1 else upS X.K u D σ H1);rw[if_neg ft0];exact go q
abbrev TGd:=W->DS->MH->(DS->MH->Prop)->Prop
def upG(K:FG)(g:TGd):TG:=λ v σ H Q=>∃ w τ M Qd,aJ K H w v/\Abs K H σ τ M/\g w τ M Qd/\∀ σ' H' τ' M',Kp H H'->Abs K H' σ' τ' M'->Qd τ' M'->Q σ' H'
abbrev PGd(X:Cx)(e:Expr)(g:TGd):Prop:=PG X e (upG X.K g)
theorem akP(h:PG X e g)(k:∀ v σ H Q,g' v σ H Q->g v σ H Q):PG X e g':=λ pins s σ H v u Q I r q=>h pins s σ H v u Q I r (k v σ H Q q)
def gN(i:Nat)(w:W)(τ:DS)(M:MH)(Q:DS->MH->Prop):Prop:=Q (τ.set i (some w)) M
def cH(te:TD)(g:TGd)(D:Ed)(τ:DS)(M:MH):Prop:=te τ M λ w M1=>g w τ M1 D.nx
theorem afZ(h:upS K (cH te g) D σ H):ajB (up K te) (upG K g) D σ H:=by obtain⟨τ,M,Dd,A,h,k1,_⟩:=h;exact⟨τ,M,_,A,h,λ v H1 w M1 kp r m q=>⟨w,τ,M1,_,r,A.go kp m,q,λ σ2 H2 τ2 M2 kp2 A2 q2=>k1 σ2 H2 τ2 M2 (kp.trans kp2) A2 q2⟩⟩
theorem afY(he:PD X e te)(hg:PGd X tg g)(hs:swapsWithSole [tg] e pos.line X.env=pure false:=by rfl)(hw:swappedStores [tg] e X.env=pure none:=by rfl)
  (h1:(assignEach [tg] X.env).map (·.2)=[assign tg X.env]:=by rfl):PSd X (.Assign [tg] e pos) (cH te g):=qU (adf he hg hs hw h1) λ D σ H h=>afZ h
theorem aey(hN:X.N.Nodup)(hi:X.N[i]? =some x)(hx:Loc X.env.scope x)(he:PD X e te)(hs:swapsWith e (some (.Name x pos')) pos.line X.env=pure false:=by rfl)(hf:X.fn x=true\/X.env.scope.names.lookup x=some .local:=by first | exact .inl rfl | exact .inr rfl | assumption) :
  PSd X (.Assign [.Name x pos'] e pos) (cH te (gN i)):=qU (ai3 hN hi hx he hs hf) λ D σ H ⟨τ,M,Dd,A,h,k1,_⟩ =>
 ⟨τ,M,_,A,h,λ v H1 w M1 kp r m q=>k1 _ H1 _ M1 kp ((A.go kp m).set i r) q⟩
end
abbrev SpD:=List W->MH->QD->Prop
def cz(K:FG)(sp:SpD):Sp:=λ vs H Q _=>∃ ws M Qd,bh K H ws vs/\cB K H M/\sp ws M Qd/\Kont K H Qd Q
def bx(sp:SpD)(t:TAd)(τ:DS)(M:MH)(Q:QD):Prop:=t τ M λ ws M1=>sp ws M1 Q
theorem adV(F:ck X.prog X.w X.K X.mg X.base CX0 k f fd ps (cz X.K sp))(hr:cI k X.A)(hg:Gl X x)(hm:X.mg x=some (.ref f))(hk:W.keepIn X.K (.ref f)=true)(hb:Binds X.K fd ps [])
  (ha:PAd X (e::es) t)(hdb:ND x:=by decide)(he:starEach (e::es) X.env=(false,eval e X.env)::starEach es X.env:=by rfl)(hpl:(backTo pos (starEach es X.env)).any (·.1)=false:=by rfl) :
  PD X (.Call (.Name x p) (e::es) [] pos) (bx sp t):=fN (aeD (E:=E0) (dvs:=[]) F hr hg hm hk hb .nil zM ha hdb he hpl) λ σ H Q h=>by
 obtain⟨τ,M,Qd,A,h,k⟩:=h;exact⟨τ,M,_,A,h,λ vs H1 ws M1 kp r1 m1 q1=>⟨ws,M1,Qd,by rw[List.append_nil];exact r1,m1,q1,kgo k kp⟩⟩
def fG(N:List Str)(ws:List W):DS:=ws.map some++List.replicate (N.length-ws.length) none
section
variable {P:Program}{w:World}{K:FG}{mg:Str->Option Value}{base:Heap}
theorem rT(r:bh K H ws vs)(m:cB K H M):Abs K H (start N vs) (fG N ws) M:=by
 have hl:=r.length;refine⟨?_,λ i w e=>?_,m⟩
 .simp[L2.start,fG,hl]
 .unfold fG at e
  by_cases hi:i<ws.length
  .rw[List.getElem?_append_left (by simpa using hi),List.getElem?_map] at e;cases q:ws[i]? with
   | none=>rw[q] at e;cases e
   | some w' =>
    rw[q] at e;cases e;obtain⟨v,e1,r1⟩:=r.get q;refine⟨v,?_,r1⟩;unfold L2.start;rw[List.getElem?_append_left (by rw[lm,<- hl];exact hi),List.getElem?_map,e1];rfl
  .rw[List.getElem?_append_right (by simpa using hi),List.getElem?_replicate] at e
   split at e<;>cases e
theorem bb{x qual:Str}{st:Stmt}{N ps:List Str}{k:Nat}{sp:SpD}{t:TSd}(F:Fun K x qual st f fd)(S:jo N ps (aC st))(len:∀ ws M Q,sp ws M Q->ws.length=ps.length)
  (hbody:∀ (cdv:Value) (A:Around) (outer:List Env) (s:Shared) (H:Hp) (E:XK),cI k (A.deeper (envOfC qual (aC st) s.heap.objs.size f cdv)) ->
   t8 (adl CX0 P w K mg base N qual (aC st) f cdv A outer s H E).nox (aW st) t)
  (read:∀ ws M Q,sp ws M Q->t {nx:=λ _ M'=>Q (.d .none) M',rt:=Q} (fG N ws) M):ck P w K mg base CX0 (k+1) f fd ps (cz K sp):=by
 refine F.ok S (λ vs H Q E h=>?_) (λ cdv A outer s H vs Q E hr h=>?_)
 .obtain⟨ws,M,Qd,r,_,q,_⟩:=h;rw[<- r.length];exact len _ _ _ q
 .obtain⟨ws,M,Qd,r,m,q,kk⟩:=h;refine⟨_,hbody cdv A outer s H E hr,fG N ws,M,_,rT r m,read ws M Qd q,λ σ' H' τ' M' kp A' q'=>?_,λ v H' w' M' kp r' m' q'=>?_,λ σ' H' τ' M' kp A' q'=>q'.elim,λ σ' H' τ' M' kp A' q'=>q'.elim⟩
  .exact kk _ H' _ M' kp (by simp[aJ,aB]) A'.mem q'
  .exact kk v H' w' M' kp r' m' q'
end
end D
namespace L2
structure j5(k:Nat)(A:Around):Prop where
 gd:A.guards=some []
 dp:A.depth+3 * k+5<recursionLimit
 un:A.units+16 * k+200<cLine
theorem j5.units(r:j5 k A):A.units+64<cLine:=by have:=r.un;omega
theorem cI.h(r:cI k A):j5 k A:=⟨r.gd,r.dp,r.un⟩
end L2
namespace D
open L2
mutual
theorem fB(I:Inv X pins σ H s):∀ (d:PyData) {x:V} {u:Value},aB X.K H d x->RelV x u->d.hasDict=false->∃ as,Reads s.heap u d as
 | .none,x,u,h,r,_=>by simp only[aB] at h;subst h;cases (show u=Value.none from r);exact⟨_,.none⟩
 | .bool b,x,u,h,r,_=>by simp only[aB] at h;subst h;cases (show u=Value.bool b from r);exact⟨_,.bool b⟩
 | .int i,x,u,h,r,_=>by simp only[aB] at h;subst h;obtain⟨t,e⟩:=(show ∃ t,u=Value.int i t from r);subst e;exact⟨_,.int i t⟩
 | .str z,x,u,h,r,_=>by simp only[aB] at h;subst h;obtain⟨t,e⟩:=(show ∃ t,u=Value.str z t from r);subst e;exact⟨_,.str z t⟩
 | .list ds,x,u,h,r,hd=>by simp only[aB] at h;obtain⟨a,vs,e,hs,ra⟩:=h;subst e;cases (show u=Value.ref a from r);obtain⟨its,rv,⟨o,n,e1,e2,e3,e4⟩,hz⟩:=I.list hs.sq;obtain⟨as,q⟩:=mG I ds ra rv (by simpa [PyData.hasDict] using hd);exact⟨_,.list e1 e2 e4 (by simpa using q)⟩
 | .tuple ds,x,u,h,r,hd=>by simp only[aB] at h;obtain⟨a,vs,e,hs,ra⟩:=h;subst e;cases (show u=Value.ref a from r);obtain⟨its,rv,⟨o,e1,e2,n,e4⟩,hz⟩:=I.tuple hs;obtain⟨as,q⟩:=mG I ds ra rv (by simpa [PyData.hasDict] using hd);exact⟨_,.tuple e1 e2 e4 (by simpa using q)⟩
 | .dict kvs,x,u,h,r,hd=>by simp[PyData.hasDict] at hd
theorem mG(I:Inv X pins σ H s):∀ (ds:List PyData) {xs:List V} {us:List Value},aX X.K H ds xs->Vals xs us->PyData.hasDictAll ds=false->∃ as,ReadsAll s.heap us ds as
 | [],xs,us,h,r,_=>by simp only[aX] at h;subst h;cases r;exact⟨_,.nil⟩
 | d::ds,xs,us,h,r,hd=>by
  simp only[aX] at h;obtain⟨v,vr,e,h1,h2⟩:=h;subst e;simp only[PyData.hasDictAll,Bool.or_eq_false_iff] at hd;cases r with
  | cons r1 r2 =>
   obtain⟨as,q1⟩:=fB I d h1 r1 hd.1;obtain⟨bs,q2⟩:=mG I ds h2 r2 hd.2;exact⟨_,.cons q1 q2⟩
end
def afB:PyData->Bool
 | .none | .bool _ | .int _ | .str _=>true
 | _=>false
theorem xg:∀ {d:PyData} {x:V} {u:Value} {h:Heap} {K:FG} {H:Hp},afB d=true->aB K H d x->RelV x u->Reads h u d []
 | .none,x,u,h,K,H,_,e,r=>by simp only[aB] at e;subst e;cases (show u=Value.none from r);exact .none
 | .bool b,x,u,h,K,H,_,e,r=>by simp only[aB] at e;subst e;cases (show u=Value.bool b from r);exact .bool b
 | .int i,x,u,h,K,H,_,e,r=>by simp only[aB] at e;subst e;obtain⟨t,z⟩:=(show ∃ t,u=Value.int i t from r);subst z;exact .int i t
 | .str i,x,u,h,K,H,_,e,r=>by simp only[aB] at e;subst e;obtain⟨t,z⟩:=(show ∃ t,u=Value.str i t from r);subst z;exact .str i t
 | .list _,_,_,_,_,_,f,_,_=>nomatch f
 | .tuple _,_,_,_,_,_,f,_,_=>nomatch f
 | .dict _,_,_,_,_,_,f,_,_=>nomatch f
theorem lA{P:Program}{w:World}{h:Heap}{K:FG}{H:Hp}:∀ {kvs:List (PyData×PyData)} {l:List (Key×V)} {vs:List (Key×Value)} {es:List DictEntry},(kvs.all λ p=>afB p.2)=true->i8 K H kvs l->KV l vs->Pairs (a9 P w) es vs ->
  ReadsAll h (es.map (·.key)) (kvs.map (·.1)) []/\ReadsAll h (es.map (·.val)) (kvs.map (·.2)) []
 | [],l,vs,es,_,r,kv,p=>by simp only[i8] at r;subst r;cases kv;cases p;exact⟨.nil,.nil⟩
 | (k,d)::kvs,l,vs,es,f,r,kv,p=>by
  simp only[i8] at r;obtain⟨key,v,lr,e,ek,r1,r2⟩:=r;subst e;rw[List.all_cons,ae00] at f;cases kv with
  | cons q1 q2 =>
   rename_i kv0 vs0
   obtain⟨k0,u0⟩:=kv0;obtain⟨q1,q3⟩:=q1;cases p with
   | cons p1 p2 p3 =>
    rename_i en es0
    obtain⟨i1,i2⟩:=lA f.2 r2 q2 p3;have rk:Reads h en.key k []:=by
     have hk:tm k0 en.key=true:=p1;have hk0:key=k0:=q1;subst hk0;rw[ek];rcases bK hk with ⟨i,t,z1,z2⟩ | ⟨i,t,z1,z2⟩
     .subst z1;rw[z2];exact .int i t
     .subst z1;rw[z2];exact .str i t
    have rv:Reads h en.val d []:=by rw[p2];exact xg f.1 r1 q3
    exact⟨.cons rk i1,.cons rv i2⟩
def dE(d:PyData):Bool:=d.showable&&decide (d.shown.length<=sizeLine)&&decide (d.depth<=60)&&(!d.hasDict || match d with
 | .dict kvs=>kvs.all λ p=>afB p.2
 | _=>false)
theorem vW(I:Inv X pins σ H s){d:PyData}{x:V}{u:Value}(h:aB X.K H d x)(r:RelV x u)(ok:dE d=true):∃ as,Reads s.heap u d as/\(d.hasDict=true->sysModules ∉ as):=by
 simp only[dE,ae00,Bool.or_eq_true] at ok;cases hd:d.hasDict with
 | false =>
  obtain⟨as,q⟩:=fB I d h r hd;exact⟨as,q,λ z=>absurd z (by simp)⟩
 | true =>
  have f:=ok.2.resolve_left (by simp[hd]);cases d with
  | dict kvs =>
   simp only[aB] at h;obtain⟨a,o,l,e,ha,rk⟩:=h;subst e;cases (show u=Value.ref a from r);obtain⟨z,hs,vs,kv,o',es,ep,e1,e2,e3,e4,e5,e6⟩:=aaD I.hok (.inr ⟨o,ha⟩);obtain⟨q1,q2⟩:=lA (h:=s.heap) f rk kv e5;refine⟨_,.dict e1 e2.1 e3 q1 q2,λ _ hm=>?_⟩;simp only[List.append_nil] at hm;have hm':sysModules=a:=by simpa using hm
   rw[<- hm'] at hs;simp at hs
  | _=>exact absurd f (by simp)
def acX(d:PyData):Bool:=SeqAt.shaped d&&!d.hasDict
def gG:PyData->PyData->Bool
 | .str _,.str _=>true
 | d,d'=>acX d&&acX d'
theorem eZ(h:gG d d'=true):(∃ x y,d=.str x/\d'=.str y)\/(acX d=true/\acX d'=true):=by
 cases d with
 | str x =>
  cases d' with
  | str y=>exact .inl ⟨x,y,rfl,rfl⟩
  | _=>exact .inr (by simpa [gG] using h)
 | _=>exact .inr (by simpa [gG] using h)
theorem sU(x y:Str):decide (V.str x=V.str y)=PyData.eqv (.str x) (.str y):=by
 rw[PyData.eqv]
 by_cases e:x=y
 .subst e;simp
 .rw[decide_eq_false (λ z=>e (V.str.inj z))];exact(beq_eq_false_iff_ne.mpr e).symm
theorem adC(hr:j5 k X.A):OpR X (compareOp .Eq) (λ x y H Q=>∃ d d',aB X.K H d x/\aB X.K H d' y/\gG d d'=true/\Q (.bl (PyData.eqv d d')) H):=by
 intro pins s σ H x y v u Q I rx ry h;obtain⟨d,d',h1,h2,o,q⟩:=h;rcases eZ o with ⟨a,b,e1,e2⟩ | ⟨o1,o2⟩
 .subst e1;subst e2;simp only[aB] at h1 h2;subst h1;subst h2;exact aj0 pins s σ H _ _ v u Q I rx ry ⟨rfl,by rw[sU];exact q⟩
 simp only[acX,ae00,Bool.not_eq_true'] at o1 o2;obtain⟨as,r1⟩:=fB I d h1 rx o1.2;obtain⟨bs,r2⟩:=fB I d' h2 ry o2.2;exact eq_dataH r1 r2 o1.1 o2.1 hr.units ⟨.bl _,H,I,rfl,q⟩
theorem aid(hr:j5 k X.A):OpR X (compareOp .NotEq) (λ x y H Q=>∃ d d',aB X.K H d x/\aB X.K H d' y/\gG d d'=true/\Q (.bl (!PyData.eqv d d')) H):=by
 intro pins s σ H x y v u Q I rx ry h;obtain⟨d,d',h1,h2,o,q⟩:=h;rcases eZ o with ⟨a,b,e1,e2⟩ | ⟨o1,o2⟩
 .subst e1;subst e2;simp only[aB] at h1 h2;subst h1;subst h2;exact aka pins s σ H _ _ v u Q I rx ry ⟨rfl,by rw[sU];exact q⟩
 simp only[acX,ae00,Bool.not_eq_true'] at o1 o2;obtain⟨as,r1⟩:=fB I d h1 rx o1.2;obtain⟨bs,r2⟩:=fB I d' h2 ry o2.2;exact ne_dataH r1 r2 o1.1 o2.1 hr.units ⟨.bl _,H,I,rfl,q⟩
def tyD:PyData->String
 | .none => "NoneType"
 | .bool _ => "bool"
 | .int _ => "int"
 | .str _ => "str"
 | .list _ => "list"
 | .tuple _ => "tuple"
 | .dict _ => "dict"
inductive Ty6:String->Prop where
 | int:Ty6 "int" | bool:Ty6 "bool" | str:Ty6 "str" | list:Ty6 "list" | tuple:Ty6 "tuple" | dict:Ty6 "dict"
def tw(d:PyData)(T:String):Bool:=tyD d==T || (T == "int" && tyD d == "bool")
theorem ym{K:FG}(d:PyData){T:String}(h:Ty6 T):W.kitOne K (.type (tyD d)) (.type T)=some (tw d T):=by
 cases h<;>cases d<;>rfl
theorem zF:dr X (.builtin "isinstance") (λ xs H Q=>∃ x d T,xs=[x,.ty T]/\aB X.K H d x/\Ty6 T/\Q (.bl (tw d T)) H):=by
 intro pins s σ H xs us Q I r h;obtain⟨x,d,T,rfl,rd,h6,q⟩:=h;obtain⟨u,w',rfl,rx,ry⟩:=vals2 r;cases (show w'=Value.type T from ry);have e:=ym (K:=X.K) d h6;have fin:∀ tk,EP X pins σ Q (.bool (tw d T)) {s with toks:=tk}:=λ tk=>⟨.bl _,H,I.tok _,rfl,q⟩;generalize tw d T=b at e fin;cases d with
 | none=>simp only[aB] at rd;subst rd;cases (show u=Value.none from rx);exact W.kia_one W.kitx_none I.kIn True.intro e (λ z=>nomatch z) fin
 | bool y=>simp only[aB] at rd;subst rd;cases (show u=Value.bool y from rx);exact W.kia_one W.kitx_bool I.kIn True.intro e (λ z=>nomatch z) fin
 | int i=>simp only[aB] at rd;subst rd;obtain⟨t,z⟩:=(show ∃ t,u=Value.int i t from rx);subst z;exact W.kia_one W.kitx_int I.kIn True.intro e (λ z=>nomatch z) fin
 | str y=>simp only[aB] at rd;subst rd;obtain⟨t,z⟩:=(show ∃ t,u=Value.str y t from rx);subst z;exact W.kia_one W.kitx_str I.kIn True.intro e (λ z=>nomatch z) fin
 | list ds =>
  simp only[aB] at rd;obtain⟨a,vs,z,hs,_⟩:=rd;subst z;cases (show u=Value.ref a from rx);obtain⟨its,rv,⟨o,n,e1,e2,e3,e4⟩,hz⟩:=I.list hs.sq;exact W.kia_one W.kitx_list I.kIn ⟨_,e1,e2⟩ e (λ z=>nomatch z) fin
 | tuple ds =>
  simp only[aB] at rd;obtain⟨a,vs,z,hs,_⟩:=rd;subst z;cases (show u=Value.ref a from rx);obtain⟨its,rv,⟨o,e1,e2,e3⟩,hz⟩:=I.tuple hs;exact W.kia_one W.kitx_tuple I.kIn ⟨_,e1,e2⟩ e (λ z=>nomatch z) fin
 | dict kvs =>
  simp only[aB] at rd;obtain⟨a,o,l,z,ha,_⟩:=rd;subst z;cases (show u=Value.ref a from rx);obtain⟨_,hs,vs,kv,o',es,ep,e1,e2,_⟩:=aaD I.hok (.inr ⟨o,ha⟩);exact W.kia_one W.kitx_dict I.kIn ⟨_,e1,e2.1⟩ e (λ z=>nomatch z) fin
end D
namespace D
open L2
section
variable {X:Cx}{K:FG}
theorem OpR.or(h:OpR X f r)(h':OpR X f r'):OpR X f (λ x y H Q=>r x y H Q\/r' x y H Q):=by
 intro pins s σ H x y v u Q I rx ry q;rcases q with q | q
 .exact h pins s σ H x y v u Q I rx ry q
 .exact h' pins s σ H x y v u Q I rx ry q
theorem OpD.or(h:OpD K r rd)(h':OpD K r' rd'):OpD K (λ x y H Q=>r x y H Q\/r' x y H Q) (λ w w' M Q=>rd w w' M Q\/rd' w w' M Q):=by
 intro x y H w w' M Qd Q r1 r2 m q k;rcases q with q | q
 .exact .inl (h x y H w w' M Qd Q r1 r2 m q k)
 .exact .inr (h' x y H w w' M Qd Q r1 r2 m q k)
def agj(g:Int->Int->PyData)(w:W)(w':W)(M:MH)(Q:QD):Prop:=∃ i j,w=.d (.int i)/\w'=.d (.int j)/\Q (.d (g i j)) M
def rdI(C:Int->Int->Prop)(g:Int->Int->PyData)(w:W)(w':W)(M:MH)(Q:QD):Prop:=∃ i j,w=.d (.int i)/\w'=.d (.int j)/\C i j/\Q (.d (g i j)) M
theorem nI(hg:∀ i j H,aB K H (gd i j) (g i j)):OpD K (rI0 g) (agj gd):=by intro x y H w w' M Qd Q r1 r2 m ⟨i,j,e1,e2,q⟩ k;subst e1;subst e2;simp only[aJ,aB] at r1 r2;exact⟨i,j,r1,r2,k _ H (.d (gd i j)) M (Kp.refl H) (hg i j H) m q⟩
theorem aet(hg:∀ i j H,aB K H (gd i j) (g i j)):OpD K (rI C g) (rdI C gd):=by intro x y H w w' M Qd Q r1 r2 m ⟨i,j,e1,e2,c,q⟩ k;subst e1;subst e2;simp only[aJ,aB] at r1 r2;exact⟨i,j,r1,r2,c,k _ H (.d (gd i j)) M (Kp.refl H) (hg i j H) m q⟩
def abt(w w':W)(M:MH)(Q:QD):Prop:=agj (λ i j=>.int (i-j)) w w' M Q
def gF(w w':W)(M:MH)(Q:QD):Prop:=rdI aji (λ i j=>.int (i * j)) w w' M Q
def dQ(w w':W)(M:MH)(Q:QD):Prop:=rdI (λ _ j=>0<j) (λ i j=>.int (i % j)) w w' M Q
def yw(w w':W)(M:MH)(Q:QD):Prop:=rdI akE (λ i j=>.int (i / j)) w w' M Q
def cX(w:W)(w':W)(M:MH)(Q:QD):Prop:=agj (λ i j=>.int (i+j)) w w' M Q\/∃ x y,w=.d (.str x)/\w'=.d (.str y)/\x.length+y.length<=sizeLine/\Q (.d (.str (x++y))) M
theorem agu:OpD K (rI0 λ i j=>.int (i-j)) abt:=nI λ _ _ _=>by simp[aB]
theorem afN:OpD K (rI aji λ i j=>.int (i * j)) gF:=aet λ _ _ _=>by simp[aB]
theorem adN:OpD K (rI (λ _ j=>0<j) λ i j=>.int (i % j)) dQ:=aet λ _ _ _=>by simp[aB]
theorem ae2:OpD K (rI akE λ i j=>.int (i / j)) yw:=aet λ _ _ _=>by simp[aB]
def aei:R2:=λ x y H Q=>∃ i j,x=.str i/\y=.str j/\i.length+j.length<=sizeLine/\Q (.str (i++j)) H
theorem abU:OpD K aei (λ w w' M Q=>∃ x y,w=.d (.str x)/\w'=.d (.str y)/\x.length+y.length<=sizeLine/\Q (.d (.str (x++y))) M):=by intro x y H w w' M Qd Q r1 r2 m ⟨i,j,e1,e2,c,q⟩ k;subst e1;subst e2;simp only[aJ,aB] at r1 r2;exact⟨i,j,r1,r2,c,k _ H (.d (.str (i++j))) M (Kp.refl H) (by simp[aJ,aB]) m q⟩
theorem afR:OpR X (binaryOp .Add) (λ x y H Q=>rI0 (λ i j=>.int (i+j)) x y H Q\/aei x y H Q):=OpR.or ah6 xc
theorem abZ:OpD K (λ x y H Q=>rI0 (λ i j=>.int (i+j)) x y H Q\/aei x y H Q) cX:=OpD.or (nI λ _ _ _=>by simp[aB]) abU
def rS(g:Str->Str->Bool):R2:=λ x y H Q=>∃ i j,x=.str i/\y=.str j/\Q (.bl (g i j)) H
def rdS(g:Str->Str->Bool)(w:W)(w':W)(M:MH)(Q:QD):Prop:=∃ i j,w=.d (.str i)/\w'=.d (.str j)/\Q (.d (.bool (g i j))) M
theorem akf:OpD K (rS g) (rdS g):=by intro x y H w w' M Qd Q r1 r2 m ⟨i,j,e1,e2,q⟩ k;subst e1;subst e2;simp only[aJ,aB] at r1 r2;exact⟨i,j,r1,r2,k _ H (.d (.bool (g i j))) M (Kp.refl H) (by simp[aJ,aB]) m q⟩
theorem yh:OpR X (compareOp .LtE) (rS λ x y=>!decide (y.cps.toList<x.cps.toList)):=by intro pins s σ H x y v u Q I rx ry h;obtain⟨i,j,rfl,rfl,q⟩:=h;obtain⟨t,rfl⟩:=rx;obtain⟨t',rfl⟩:=ry;exact PySem.P.le_str ⟨.bl _,H,I,rfl,q⟩
def ajz(w:W)(w':W)(M:MH)(Q:QD):Prop:=agj (λ i j=>.bool (decide (i<=j))) w w' M Q\/rdS (λ x y=>!decide (y.cps.toList<x.cps.toList)) w w' M Q
theorem aic:OpR X (compareOp .LtE) (λ x y H Q=>rI0 (λ i j=>.bl (decide (i<=j))) x y H Q\/rS (λ x y=>!decide (y.cps.toList<x.cps.toList)) x y H Q):=OpR.or ako yh
theorem afV:OpD K (λ x y H Q=>rI0 (λ i j=>.bl (decide (i<=j))) x y H Q\/rS (λ x y=>!decide (y.cps.toList<x.cps.toList)) x y H Q) ajz:=OpD.or (nI λ _ _ _=>by simp[aB]) akf
def adn(w w':W)(M:MH)(Q:QD):Prop:=agj (λ i j=>.bool (decide (i<j))) w w' M Q
def aa5(w w':W)(M:MH)(Q:QD):Prop:=agj (λ i j=>.bool (decide (j<i))) w w' M Q
def akr(w w':W)(M:MH)(Q:QD):Prop:=agj (λ i j=>.bool (decide (j<=i))) w w' M Q
theorem aiQ:OpD K (rI0 λ i j=>.bl (decide (i<j))) adn:=nI λ _ _ _=>by simp[aB]
theorem ai2:OpD K (rI0 λ i j=>.bl (decide (j<i))) aa5:=nI λ _ _ _=>by simp[aB]
theorem ag3:OpD K (rI0 λ i j=>.bl (decide (j<=i))) akr:=nI λ _ _ _=>by simp[aB]
def ak3(w:W)(w':W)(M:MH)(Q:QD):Prop:=∃ d d',w=.d d/\w'=.d d'/\gG d d'=true/\Q (.d (.bool (PyData.eqv d d'))) M
theorem ahH:OpD K (λ x y H Q=>∃ d d',aB K H d x/\aB K H d' y/\gG d d'=true/\Q (.bl (PyData.eqv d d')) H) ak3:=by intro x y H w w' M Qd Q r1 r2 m ⟨d,d',e1,e2,o1,q⟩ k;subst e1;subst e2;exact⟨d,d',r1,r2,o1,k _ H (.d (.bool _)) M (Kp.refl H) (by simp[aJ,aB]) m q⟩
def agI:W->Bool
 | .d (.str z)=>decide (z.length<=sizeLine)
 | _=>true
def ixW(M:MH):W->Int->Option W
 | .d (.list ds),i=>(atI ds i).map W.d
 | .d (.tuple ds),i=>(atI ds i).map W.d
 | .d (.str z),i=>(atI z.cps.toList i).map λ c=>W.d (.str ⟨#[c]⟩)
 | .m a,i=>match M a with
  | some (.lst ws)=>atI ws i
  | some (.tup ws)=>atI ws i
  | _=>none
 | _,_=>none
inductive RIx(w:W) (w':W) (M:MH) (Q:QD):Prop
 | mk (i:Int) (x:W) (z0:w'=.d (.int i)) (z1:ixW M w i=some x) (z2:agI w=true) (q:Q x M):RIx w w' M Q
def bZ(w:W)(w':W)(M:MH)(Q:QD):Prop:=RIx w w' M Q
theorem uA(r:aX K H ds vs)(e:atI ds i=some d):∃ v,atI vs i=some v/\aB K H d v:=by
 unfold atI at e ⊢;rw[r.length];cases q:ixN ds.length i with
 | none=>rw[q] at e;cases e
 | some j =>
  rw[q] at e;exact r.get e
theorem qF(r:bh K H ds vs)(e:atI ds i=some d):∃ v,atI vs i=some v/\aJ K H d v:=by
 unfold atI at e ⊢;rw[<- r.length];cases q:ixN ds.length i with
 | none=>rw[q] at e;cases e
 | some j =>
  rw[q] at e;exact r.get e
theorem ac8:OpD K (rIx K) bZ:=by
 intro x y H w w' M Qd Q r1 r2 m ⟨i,z,e2,ei,hf,q⟩ k;subst e2;simp only[aJ,aB] at r2;cases w with
 | t n=>simp[ixW] at ei
 | m a =>
  simp only[aJ] at r1;simp only[ixW] at ei;cases hm:M a with
  | none=>rw[hm] at ei;cases ei
  | some mo =>
   rw[hm] at ei;cases mo with
   | lst ws =>
    obtain⟨vs,e1,rw1⟩:=m a _ hm;obtain⟨v,e3,rv⟩:=qF rw1 ei;exact .inl ⟨a,vs,i,v,r1,r2,SqL.of e1,e3,k v H z M (Kp.refl H) rv m q⟩
   | dic _=>cases ei
   | dct _=>cases ei
   | fdic _=>cases ei
   | ins _ _=>cases ei
   | tup ws =>
    obtain⟨vs,e1,rw1⟩:=m a _ hm;obtain⟨v,e3,rv⟩:=qF rw1 ei;exact .inr (.inl ⟨a,vs,i,v,r1,r2,.inl (.inl e1),e3,k v H z M (Kp.refl H) rv m q⟩)
   | flst _=>cases ei
   | exc _ _=>cases ei
   | code _ _=>cases ei
 | d d =>
  cases d with
  | list ds =>
   simp only[aJ,aB] at r1;obtain⟨a,vs,e1,hs,ra⟩:=r1;simp only[ixW] at ei;cases h:atI ds i with
   | none=>rw[h] at ei;cases ei
   | some d =>
    rw[h] at ei;cases ei;obtain⟨v,e3,rv⟩:=uA ra h;exact .inl ⟨a,vs,i,v,e1,r2,hs.sq,e3,k v H (.d d) M (Kp.refl H) rv m q⟩
  | tuple ds =>
   simp only[aJ,aB] at r1;obtain⟨a,vs,e1,hs,ra⟩:=r1;simp only[ixW] at ei;cases h:atI ds i with
   | none=>rw[h] at ei;cases ei
   | some d =>
    rw[h] at ei;cases ei;obtain⟨v,e3,rv⟩:=uA ra h;exact .inr (.inl ⟨a,vs,i,v,e1,r2,hs,e3,k v H (.d d) M (Kp.refl H) rv m q⟩)
  | str s =>
   simp only[aJ,aB] at r1;simp only[ixW] at ei;cases h:atI s.cps.toList i with
   | none=>rw[h] at ei;cases ei
   | some c =>
    rw[h] at ei;cases ei;exact .inr (.inr ⟨s,i,c,r1,r2,of_decide_eq_true hf,h,k _ H (.d (.str ⟨#[c]⟩)) M (Kp.refl H) (by simp[aJ,aB]) m q⟩)
  | _=>simp[ixW] at ei
theorem agw(h:PE X e t):PE X e (λ σ H Q=>t σ H λ v H1=>Q v H1\/∃ p u,v=.ref p/\H1 p=some u/\Fz u/\∀ o,Q v (upd H1 p (.frz o u))):=by
 intro pins s σ H Q I hq;refine thn (h pins s σ H _ I hq) λ v s1 hq43=>?_;obtain⟨x,H1,I1,r1,q⟩:=hq43;rcases q with q | ⟨p,u,e1,e2,f,q⟩
 .exact⟨x,_,I1,r1,q⟩
 .obtain⟨o,I2⟩:=I1.freeze e2 f;exact⟨x,_,I2,r1,q o⟩
def ak5:V->Option Int->Option Int->Hp->VK->Prop:=λ x lo hi H Q=>∃ z,x=.str z/\z.length<=sizeLine/\Q (.str (Txt.slice z lo hi)) H
theorem ai6:SlR X ak5:=by
 intro pins s σ H x v vl vu lo hi sl Q I rx hs pl pu h;obtain⟨z,rfl,hz,q⟩:=h;obtain⟨t,rfl⟩:=rx;have fin:∀ t' k,EP X pins σ Q (.str (Txt.slice z lo hi) t') {s with toks:=k}:=λ t' k=>⟨.str _,H,I.tok _,⟨_,rfl⟩,q⟩;refine⟨"str",_,F.slot_str_getitem.lookup,typeIs_str _ _ _,?_⟩;cases pl with
 | none =>
  cases pu with
  | none=>exact wpAny_getItem_str_slice (l:=none) (u:=none) (st:=none) hs rfl (post_val_or_str ⟨Nat.le_trans (Txt.slice_le z _ _) hz,fin⟩)
  | int j uj=>exact wpAny_getItem_str_slice (l:=none) (u:=some (j,uj)) (st:=none) hs rfl (post_val_or_str ⟨Nat.le_trans (Txt.slice_le z _ _) hz,fin⟩)
 | int i ui =>
  cases pu with
  | none=>exact wpAny_getItem_str_slice (l:=some (i,ui)) (u:=none) (st:=none) hs rfl (post_val_or_str ⟨Nat.le_trans (Txt.slice_le z _ _) hz,fin⟩)
  | int j uj=>exact wpAny_getItem_str_slice (l:=some (i,ui)) (u:=some (j,uj)) (st:=none) hs rfl (post_val_or_str ⟨Nat.le_trans (Txt.slice_le z _ _) hz,fin⟩)
abbrev TOd:=DS->MH->(Option Int->MH->Prop)->Prop
def upO(K:FG)(t:TOd):TO:=λ σ H Q=>∃ τ M Qd,Abs K H σ τ M/\t τ M Qd/\∀ b H' M',Kp H H'->cB K H' M'->Qd b M'->Q b H'
abbrev POd(X:Cx)(e:Option Expr)(t:TOd):Prop:=PO X e (upO X.K t)
theorem alo(h:PO X e t)(k:∀ σ H Q,t' σ H Q->t σ H Q):PO X e t':=λ pins s σ H Q I q=>h pins s σ H Q I (k σ H Q q)
def jE(_:DS)(M:MH)(Q:Option Int->MH->Prop):Prop:=Q none M
def sP(t:TD)(τ:DS)(M:MH)(Q:Option Int->MH->Prop):Prop:=t τ M λ w M1=>∃ i,w=.d (.int i)/\Q (some i) M1
theorem ab0(h:PD X e te):POd X (some e) (sP te):=alo (age h) λ σ H Q ⟨τ,M,Qd,A,q,k⟩=>⟨τ,M,_,A,q,λ v H1 w M1 kp r m hq44=>by obtain⟨i,e,q1⟩:=hq44;subst e;simp only[aJ,aB] at r;exact⟨i,r,k _ H1 M1 kp m q1⟩⟩
def cutD(xs:List α)(lo hi:Option Int):List α:=(xs.drop (HT.sIx xs.length 0 lo)).take (HT.sIx xs.length xs.length hi-HT.sIx xs.length 0 lo)
def ac5(n:Nat)(lo hi:Option Int):Bool:=decide (HT.sIx n 0 lo=0/\HT.sIx n n hi=n)
def slW:W->Option Int->Option Int->Option W
 | .d (.list ds),lo,hi=>some (.d (.list (cutD ds lo hi)))
 | .d (.tuple ds),lo,hi=>if ac5 ds.length lo hi then none else some (.d (.tuple (cutD ds lo hi)))
 | .d (.str z),lo,hi=>some (.d (.str (Txt.slice z lo hi)))
 | _,_,_=>none
def dSl(te:TD)(tl th:TOd)(τ:DS)(M:MH)(Q:QD):Prop:=te τ M λ w M1=>tl τ M1 λ lo M2=>th τ M2 λ hi M3=>∃ z,slW w lo hi=some z/\agI w=true/\Q z M3
theorem aif:SlR X (λ x lo hi H Q=>ale X.K x lo hi H Q\/alm X.K x lo hi H Q\/ak5 x lo hi H Q):=afJ.or (aiR.or ai6)
theorem aX.cut(r:aX K H ds vs)(lo hi:Option Int):aX K H (cutD ds lo hi) (acU vs lo hi):=by
 unfold cutD acU;rw[r.length];exact(r.drop _).take _
theorem acs{te:TD}{lo hi:Option Expr}{tl th:TOd}{pos p2:Pos}(he:PD X e te)(hl:POd X lo tl)(hu:POd X hi th):PD X (.Subscript e (.Slice lo hi none p2) pos) (dSl te tl th):=
 fN (agw (abm aif he hl hu)) λ σ H Q h=>by
  obtain⟨τ,M,Qd,A,h,k⟩:=h;refine⟨τ,M,_,A,h,λ v H1 w M1 kp1 r1 m1 q1=>⟨τ,M1,_,A.go kp1 m1,q1,λ lo H2 M2 kp2 m2 q2=>⟨τ,M2,_,A.go (kp1.trans kp2) m2,q2,λ hi H3 M3 kp3 m3 q3=>?_⟩⟩⟩;obtain⟨z,ez,hf,q⟩:=q3;have kp:=(kp1.trans kp2).trans kp3;have r:=r1.keep (kp2.trans kp3);cases w with
  | t n=>simp[slW] at ez
  | m a=>simp[slW] at ez
  | d d =>
   cases d with
   | list ds =>
    simp only[slW] at ez;cases ez;simp only[aJ,aB] at r;obtain⟨a,vs,e1,hs,ra⟩:=r;exact .inl ⟨a,vs,e1,hs.sq,λ p hp=>.inr (qe hp (aX.cut ra lo hi) m3 q (kgo k kp))⟩
   | tuple ds =>
    simp only[slW] at ez
    split at ez
    .cases ez
    .rename_i hw
     cases ez;simp only[aJ,aB] at r;obtain⟨a,vs,e1,hs,ra⟩:=r;refine .inr (.inl ⟨a,vs,e1,hs,?_,λ p hp=>.inl ?_⟩)
     .rw[ra.length]
      simpa [ac5] using hw
     .refine k _ _ (.d (.tuple _)) M3 (kp.trans (Kp.new hp)) ?_ (m3.new hp) q;simp only[aJ,aB];exact⟨p,_,rfl,.inl (.inl aj),(aX.cut ra lo hi).keep (Kp.new hp)⟩
   | str s =>
    simp only[slW] at ez;cases ez;simp only[aJ,aB] at r;exact .inr (.inr ⟨s,r,of_decide_eq_true hf,.inl (k _ H3 (.d (.str _)) M3 kp (by simp[aJ,aB]) m3 q)⟩)
   | _=>simp[slW] at ez
def ab3(to ti:TD)(v:W)(τ:DS)(M:MH)(Q:DS->MH->Prop):Prop:=to τ M λ w M1=>ti τ M1 λ w' M2=>∃ a ws i j,w=.m a/\w'=.d (.int i)/\M2 a=some (.lst ws)/\ixN ws.length i=some j/\Q τ (aS M2 a (.lst (ws.set j v)))
theorem aai(m:cB K H M)(e:H a=some (.lst vs))(rw1:bh K H ws vs)(rv:aJ K H w v) :
  Kp H (upd H a (.lst (vs.set j v)))/\cB K (upd H a (.lst (vs.set j v))) (aS M a (.lst (ws.set j w))):=by
 have kp:Kp H (upd H a (.lst (vs.set j v))):=Kp.set e (λ xs z=>nomatch z) λ _ _ z=>nomatch z;exact⟨kp,m.put kp ⟨_,aj,(bh.set rv j rw1).keep kp⟩⟩
theorem aeV(ho:PD X o to)(hi:PD X i ti)
  (ha:∀ v,assign (.Subscript o i pos) X.env v=(do
   let ov <- holding [v] (eval o X.env)
   let iv <- holding [v,ov] (eval i X.env)
   standAt pos
   holding [v,ov,iv] (setItem ov iv v)
   release [v,ov,iv] []):=by intro _;rfl):PGd X (.Subscript o i pos) (ab3 to ti):=akP (ahr ho hi set_list ha) λ v σ H Q h=>by
 obtain⟨w,τ,M,Qd,rv,A,h,k⟩:=h;refine⟨τ,M,_,A,h,λ x H1 wo M1 kp1 r1 m1 q1=>⟨τ,M1,_,A.go kp1 m1,q1,λ y H2 wi M2 kp2 r2 m2 q2=>?_⟩⟩;obtain⟨a,ws,i,j,e1,e2,hm,hj,q⟩:=q2;subst e1;subst e2;simp only[aJ,aB] at r1 r2;obtain⟨vs,e3,rw1⟩:=m2 a _ hm;have kp:=kp1.trans kp2;obtain⟨kp3,m3⟩:=aai (j:=j) m2 e3 rw1 (rv.keep kp);exact⟨a,vs,i,j,r1,r2,e3,by rw[<- rw1.length];exact hj,k σ _ τ _ (kp.trans kp3) (A.go (kp.trans kp3) m3) q⟩
theorem abp:alq X (ajX X.K):=by
 intro pins s σ H o i ov iv Q I ro ri h;obtain⟨p,xs,k,z,rfl,rfl,hq,he,q⟩:=h;cases ro;obtain⟨t,rfl⟩:=ri;obtain⟨its,r,pl,hz⟩:=I.list hq;obtain⟨j,h1,h2,h3,h4,h5⟩:=qc he;obtain⟨w,ew,rw'⟩:=r.get h2;have hl:=r.length;have hn:=oG;have fin:EP X pins σ Q w s:=⟨z,H,I,rw',q⟩
 by_cases h0:0<=k
 .have hj:k.toNat=j:=by rw[seqIndex_of h0 h5] at h1;exact Option.some.inj h1
  exact wpAny_getItem_list pl.isList h0 (by omega) (by rw[hj];simpa using ew) fin
 .have hj:(k+(its.toArray.size:Int)).toNat=j:=by rw[seqIndex_neg (by omega) h4] at h1;rw[List.size_toArray,<- hl];exact Option.some.inj h1
  exact wpAny_getItem_list_neg pl.isList (by omega) (by rw[List.size_toArray]<;>omega) (by omega) (by rw[hj];simpa using ew) fin
def abg(to ti te:TD)(f:Int->Int->Int)(D:Ed)(τ:DS)(M:MH):Prop:=to τ M λ w M1=>ti τ M1 λ w' M2=>∃ a ws i j n,w=.m a/\w'=.d (.int i)/\M2 a=some (.lst ws)/\ixN ws.length i=some j/\ws[j]? =some (.d (.int n)) /\
 te τ M2 λ y M3=>∃ n',y=.d (.int n')/\M3=M2/\D.nx τ (aS M3 a (.lst (ws.set j (.d (.int (f n n'))))))
theorem acj(ho:PD X o to)(hi:PD X i ti)(he:PD X e te)(hp:PIp X op (ipI f))
  (ha:∀ ov iv new,augStore i ov iv new=(do holding [new,ov,iv] (setItem ov iv new);release [new,ov,iv] [];pure .next):=by intros;rfl):PSd X (.AugAssign (.Subscript o i tpos) op e pos) (abg to ti te f):=
 qU (aeu ho hi abp he hp set_list ha) λ D σ H h=>by
  obtain⟨τ,M,Dd,A,h,k1,_⟩:=h;refine⟨τ,M,_,A,h,λ x H1 wo M1 kp1 r1 m1 q1=>⟨τ,M1,_,A.go kp1 m1,q1,λ y H2 wi M2 kp2 r2 m2 q2=>?_⟩⟩;obtain⟨a,ws,i,j,n,e1,e2,hm,hj,hn,q⟩:=q2;subst e1;subst e2;simp only[aJ,aB] at r1 r2;obtain⟨vs,e3,rw1⟩:=m2 a _ hm;obtain⟨v,e4,rv⟩:=rw1.get hn;simp only[aJ,aB] at rv;have hj':ixN vs.length i=some j:=by rw[<- rw1.length];exact hj
  refine⟨a,vs,i,v,r1,r2,SqL.of e3,by unfold atI;rw[hj'];exact e4,?_⟩;refine⟨τ,M2,_,A.go (kp1.trans kp2) m2,q,λ z H3 wz M3 kp3 r3 m3 q3=>?_⟩;obtain⟨n',e5,e6,qn⟩:=q3;subst e5;subst e6;simp only[aJ,aB] at r3;refine⟨n,n',rv,r3,?_⟩;obtain⟨vs',e3',rw2⟩:=m3 a _ hm;have kp:=(kp1.trans kp2).trans kp3;obtain⟨kp4,m4⟩:=aai (j:=j) (v:=.int (f n n')) (w:=.d (.int (f n n'))) m3 e3' rw2 (by simp[aJ,aB]);exact⟨a,vs',i,j,r1,r2,e3',by rw[<- rw2.length];exact hj,k1 σ _ τ _ (kp.trans kp4) (A.go (kp.trans kp4) m4) qn⟩
end
section
variable {X:Cx}{K:FG}{tg:Expr}
def Its(z:Str):It:=⟨λ i _=>i<z.cps.size,λ i H x H'=>H'=H/\∃ c,z.cps[i]? =some c/\x=.str ⟨#[c]⟩,λ i _=>z.cps.size<=i⟩
theorem vH(it:Addr)(T:String)(z:Str)(t:Tok)
  (hT:["enumerate", "zip", "dict_itemiterator", "dict_reverseitemiterator", "odict_iterator", "itertools.zip_longest", "itertools.pairwise"].contains T=false)
  (W:∀ A:Around,A.handled=none->Walks P w A it [it] [it] z.cps.size (SignAt z) (λ i h=>h.IsStrIter it T z t i))(hself:∀ (A:Around) (i:Nat) (s:Shared) (Q:VP) (E:VP),s.heap.IsStrIter it T z t i->Q (.ref it) s->wpAny (model P w) A (pyIter (.ref it)) Q E s)
  (hend:∀ (A:Around) (i:Nat) (s:Shared) (Q:Option Value->Shared->Prop) (E:VP),A.handled=none->s.heap.IsStrIter it T z t i->z.cps[i]? =none->(∀ h',Heap.ExtBut it s.heap h'->Q none {s with heap:=h'})->wpAny (model P w) A (pyNext (.ref it)) Q E s) :
  Turn P w K tg (Its z) [it] it (λ i h=>h.IsStrIter it T z t i) where
 mem:=by simp
 obj:=λ i h st b hb=>by
  have e:b=it:=by simpa using hb
  subst e;obtain⟨o,e,c,d⟩:=st;exact⟨o,e,λ v q=>by rw[d] at q;cases q⟩
 keep:=λ i h h' st k=>by obtain⟨o,e,r⟩:=st;exact⟨o,k it (by simp) o e,r⟩
 item:=by intro X hP hw hK hc i pins s σ H E I hf st hg;subst hP hw hK;obtain⟨f0,f1,f2,f3,f4,f5⟩:=hf it (by simp);refine(W X.A (I.ok.hd hc)).item i s _ _ hg st λ v h' tk hv st' kk=>?_;obtain⟨c,u,hc',rfl⟩:=hv;have I1:Inv X pins σ H {s with heap:=h',toks:=tk}:=I.turned (λ b o hb e=>kk b o (by simpa using hb) e) f0 f1 f3 f4 f5;obtain⟨o,e,cl,d⟩:=id st';exact⟨_,rfl,wK (s:={s with heap:=h',toks:=tk}) e cl d hT ⟨.str ⟨#[c]⟩,H,I1,⟨u,rfl⟩,⟨rfl,c,hc',rfl⟩,st',λ b hb=>(hf b hb).1⟩⟩
 done:=by intro X hP hw hK hc i pins s σ H E I hf st hg;subst hP hw hK;obtain⟨f0,f1,f2,f3,f4,f5⟩:=hf it (by simp);have hn:z.cps.size<=i:=hg;exact hend X.A i s _ E (I.ok.hd hc) st (by simp[hn]) λ h' eb=>⟨rfl,I.turned (t':=s.toks) (λ b o hb e=>eb b o hb e) f0 f1 f3 f4 f5⟩
 self:=hself
section
variable {pins:PN}{σ:St}{H:Hp}{s:Shared}{R:It->Hp->Prop}{E:VP}
theorem ahm(I:Inv X pins σ H s)(q:R (Its z) H):wpAny (model X.prog X.w) X.A (pyIter (.str z t)) (PIE X pins σ tg R) E s:=by
 cases ha:z.cps.all (·<128)
 .refine wpAny_pyIter_wide ha ?_;refine⟨s.heap.objs.size,[s.heap.objs.size],_,_,H,rfl,I.kept (t':=s.toks) λ b o e=>Heap.get?_push_of_some _ e,
   vH _ "str_iterator" z t (by decide) (λ A hA=>Walks.strWide hA _ z t) (λ A i s Q E st h=>wpAny_pyIter_striter_wide st h) (λ A i s Q E hh st hx hQ=>wpAny_pyNext_wide_end hh st hx hQ),⟨_,Heap.get?_push_size _ rfl,rfl,rfl⟩,λ b hb=>?_,q⟩
  have e:b=s.heap.objs.size:=by simpa using hb
  subst e;exact I.uY (lr0 _) (I.hok.fresh (lr0 _))
 .refine wpAny_pyIter_ascii ha ?_;refine⟨s.heap.objs.size,[s.heap.objs.size],_,_,H,rfl,I.kept (t':=s.toks) λ b o e=>Heap.get?_push_of_some _ e,
   vH _ "str_ascii_iterator" z t (by decide) (λ A hA=>Walks.strAscii hA _ z t) (λ A i s Q E st h=>wpAny_pyIter_striter_ascii st h) (λ A i s Q E hh st hx hQ=>wpAny_pyNext_ascii_end hh st hx hQ),⟨_,Heap.get?_push_size _ rfl,rfl,rfl⟩,λ b hb=>?_,q⟩
  have e:b=s.heap.objs.size:=by simpa using hb
  subst e;exact I.uY (lr0 _) (I.hok.fresh (lr0 _))
theorem ad8(I:Inv X pins σ H s)(hq:SqL X.K H a xs)(q:R (Itl X.K a) H):wpAny (model X.prog X.w) X.A (pyIter (.ref a)) (PIE X pins σ tg R) E s:=by
 obtain⟨its,rv,p,hz⟩:=I.list hq;refine wpAny_pyIter_list p.isList ?_;refine⟨s.heap.objs.size,[s.heap.objs.size],_,_,H,rfl,I.kept (t':=s.toks) λ b o e=>Heap.get?_push_of_some _ e,aaF a _,⟨_,Heap.get?_push_size _ rfl,rfl,rfl⟩,λ b hb=>?_,q⟩;have e:b=s.heap.objs.size:=by simpa using hb
 subst e;exact I.uY (lr0 _) (I.hok.fresh (lr0 _))
theorem aiX(I:Inv X pins σ H s)(hq:SqT X.K H a xs)(q:R (Itt X.K a) H):wpAny (model X.prog X.w) X.A (pyIter (.ref a)) (PIE X pins σ tg R) E s:=by
 obtain⟨its,rv,p,hz⟩:=I.tuple hq;refine wpAny_pyIter_tuple (show s.heap.IsTuple a its.toArray from p) ?_;refine⟨s.heap.objs.size,[s.heap.objs.size],_,_,H,rfl,I.kept (t':=s.toks) λ b o e=>Heap.get?_push_of_some _ e,xo a _,⟨_,Heap.get?_push_size _ rfl,rfl,rfl⟩,λ b hb=>?_,q⟩;have e:b=s.heap.objs.size:=by simpa using hb
 subst e;exact I.uY (lr0 _) (I.hok.fresh (lr0 _))
end
def alH(K:FG)(tl:TE):TI:=λ σ H R=>tl σ H λ x H1=>(∃ a xs,x=.ref a/\SqL K H1 a xs/\R (Itl K a) H1)\/(∃ a xs,x=.ref a/\SqT K H1 a xs/\R (Itt K a) H1)\/∃ z,x=.str z/\R (Its z) H1
theorem ah3(hl:PE X l tl):PI X tg l (alH X.K tl):=by
 intro pins s σ H R I h;refine thn (hl pins s σ H _ I h) λ v s1 hq45=>?_;obtain⟨x,H1,I1,r1,q1⟩:=hq45;rcases q1 with ⟨a,xs,e,hq,q⟩ | ⟨a,xs,e,hq,q⟩ | ⟨z,e,q⟩
 .subst e;cases r1;exact ad8 I1 hq q
 .subst e;cases r1;exact aiX I1 hq q
 .subst e;obtain⟨t,rfl⟩:=r1;exact ahm I1 q
def ItD(K:FG)(J:It)(H0:Hp)(ws:List W):Prop:=∀ H,Kp H0 H->∀ i:Nat,(i<ws.length->J.go i H)/\(ws.length<=i->J.stop i H) /\
 ∀ x H',i<ws.length->J.yld i H x H'->Kp H H'/\(∀ M,cB K H M->cB K H' M)/\∃ w,ws[i]? =some w/\aJ K H' w x
abbrev TId:=DS->MH->(List W->MH->Prop)->Prop
def upI(K:FG)(t:TId):TI:=λ σ H R=>∃ τ M Rd,Abs K H σ τ M/\t τ M Rd/\∀ J H' ws M',Kp H H'->cB K H' M'->ItD K J H' ws->Rd ws M'->R J H'
abbrev PId(X:Cx)(tg iter:Expr)(t:TId):Prop:=PI X tg iter (upI X.K t)
theorem agA(h:PI X tg iter t)(k:∀ σ H R,t' σ H R->t σ H R):PI X tg iter t':=λ pins s σ H R I q=>h pins s σ H R I (k σ H R q)
def lO:W->Option (List W)
 | .d (.list ds)=>some (ds.map W.d)
 | .d (.tuple ds)=>some (ds.map W.d)
 | .d (.str z)=>some (z.cps.toList.map λ c=>W.d (.str ⟨#[c]⟩))
 | _=>none
def bU(te:TD)(τ:DS)(M:MH)(R:List W->MH->Prop):Prop:=te τ M λ w M1=>∃ ws,lO w=some ws/\R ws M1
theorem afi(hs:SqT K H a vs)(ra:aX K H ds vs):ItD K (Itt K a) H (ds.map W.d):=λ H1 kp i=>by
 have hl:=ra.length;refine⟨λ hi=>?_,λ hi=>⟨vs,SqT.keep kp hs,by rw[lm] at hi;omega⟩,λ x H' hi y=>?_⟩
 .rw[lm] at hi;exact⟨vs,vs[i]'(by omega),SqT.keep kp hs,by simp⟩
 .obtain⟨e,y⟩:=y;subst e;have ev:=y vs (SqT.keep kp hs);obtain⟨d,e1,rd⟩:=(ra.keep kp).get' ev;exact⟨Kp.refl _,λ M m=>m,.d d,by simp[e1],rd⟩
theorem af1(z:Str):ItD K (Its z) H (z.cps.toList.map λ c=>W.d (.str ⟨#[c]⟩)):=λ H1 kp i=>by refine⟨λ hi=>(show i<z.cps.size by simpa using hi),λ hi=>(show z.cps.size<=i by simpa using hi),λ x H' hi y=>?_⟩;obtain⟨e,c,hc,ex⟩:=y;subst e;subst ex;exact⟨Kp.refl _,λ M m=>m,.d (.str ⟨#[c]⟩),by simp[hc],by simp[aJ,aB]⟩
theorem z8(lo:Int)(n:Nat):ItD K (Itr lo n) H ((List.range n).map λ i:Nat=>W.d (.int (lo+(i:Int)))):=λ H1 kp i=>by refine⟨λ hi=>(show i<n by simpa using hi),λ hi=>(show n<=i by simpa using hi),λ x H' hi y=>?_⟩;obtain⟨e,ex⟩:=y;subst e;subst ex;simp at hi;exact⟨Kp.refl _,λ M m=>m,.d (.int (lo+i)),by simp[hi],by simp[aJ,aB]⟩
theorem zk(h:PD X l te):PId X tg l (bU te):=agA (ah3 h) λ σ H R hq46=>by
 obtain⟨τ,M,Rd,A,h,k⟩:=hq46;refine⟨τ,M,_,A,h,λ v H1 w M1 kp r m hq47=>?_⟩;obtain⟨ws,e,q⟩:=hq47;cases w with
 | t n=>simp[lO] at e
 | m a=>simp[lO] at e
 | d d =>
  cases d with
  | list ds =>
   simp only[lO] at e;cases e;simp only[aJ,aB] at r;obtain⟨a,vs,e1,hs,ra⟩:=r;refine .inl ⟨a,vs,e1,hs.sq,k _ H1 _ M1 kp m ?_ q⟩;intro H2 kp2 i;have hl:=ra.length;have hs2:=(hs.keep kp2).sq;refine⟨λ hi=>?_,λ hi=>⟨vs,hs2,by rw[lm] at hi;omega⟩,λ x H' hi y=>?_⟩
   .rw[lm] at hi;exact⟨vs,vs[i]'(by omega),hs2,by simp⟩
   .obtain⟨e,y⟩:=y;subst e;have ev:=y vs hs2;obtain⟨d,e1,rd⟩:=(ra.keep kp2).get' ev;exact⟨Kp.refl _,λ M m=>m,.d d,by simp[e1],rd⟩
  | tuple ds =>
   simp only[lO] at e;cases e;simp only[aJ,aB] at r;obtain⟨a,vs,e1,hs,ra⟩:=r;exact .inr (.inl ⟨a,vs,e1,hs,k _ H1 _ M1 kp m (afi hs ra) q⟩)
  | str z =>
   simp only[lO] at e;cases e;simp only[aJ,aB] at r;exact .inr (.inr ⟨z,r,k _ H1 _ M1 kp m (af1 z) q⟩)
  | _=>simp[lO] at e
def lY(lo:Int)(n:Nat):List W:=(List.range n).map λ i:Nat=>W.d (.int (lo+(i:Int)))
def p8(ta:TAd)(τ:DS)(M:MH)(R:List W->MH->Prop):Prop:=ta τ M λ ws M1=>∃ j:Int,ws=[.d (.int j)]/\-(2 ^ 62)<=j/\j<2 ^ 62/\R (lY 0 j.toNat) M1
def yX(ta:TAd)(τ:DS)(M:MH)(R:List W->MH->Prop):Prop:=ta τ M λ ws M1=>∃ i j:Int,ws=[.d (.int i),.d (.int j)]/\(-(2 ^ 62)<=i/\i<2 ^ 62/\-(2 ^ 62)<=j/\j<2 ^ 62)/\R (lY i (j-i).toNat) M1
theorem fJ(r:bh K H [w] vs):∃ v,vs=[v]/\aJ K H w v:=by
 cases r with
 | cons r1 r2=>cases r2;exact⟨_,rfl,r1⟩
theorem zp(r:bh K H [w,w'] vs):∃ v v',vs=[v,v']/\aJ K H w v/\aJ K H w' v':=by
 cases r with
 | cons r1 r2 =>
  cases r2 with
  | cons r3 r4=>cases r4;exact⟨_,_,rfl,r1,r3⟩
theorem xu(hg:Gl X "range")(hm:X.mg "range" = none)(ha:PAd X [a] ta)(hs:starEach [a] X.env=[(false,eval a X.env)]:=by rfl):PId X tg (.Call (.Name "range" p) [a] [] pos) (p8 ta):=
 agA (aa0 hg hm ha hs) λ σ H R ⟨τ,M,Rd,A,h,k⟩=>⟨τ,M,_,A,h,λ vs H1 ws M1 kp r m hq48=>by obtain⟨j,e,h1,h2,q⟩:=hq48;subst e;obtain⟨v,e1,r1⟩:=fJ r;simp only[aJ,aB] at r1;subst r1;exact⟨j,e1,h1,h2,k _ H1 _ M1 kp m (z8 0 j.toNat) q⟩⟩
theorem wj(hg:Gl X "range")(hm:X.mg "range" = none)(ha:PAd X [a,b] ta)(hs:starEach [a,b] X.env=[(false,eval a X.env),(false,eval b X.env)]:=by rfl)(hs2:starEach [b] X.env=[(false,eval b X.env)]:=by rfl) :
  PId X tg (.Call (.Name "range" p) [a,b] [] pos) (yX ta):=
 agA (aat hg hm ha hs hs2) λ σ H R ⟨τ,M,Rd,A,h,k⟩=>⟨τ,M,_,A,h,λ vs H1 ws M1 kp r m hq49=>by obtain⟨i,j,e,h1,q⟩:=hq49;subst e;obtain⟨v,v',e1,r1,r2⟩:=zp r;simp only[aJ,aB] at r1 r2;subst r1;subst r2;exact⟨i,j,e1,h1,k _ H1 _ M1 kp m (z8 i _) q⟩⟩
def j4(di:TId)(g:TGd)(tb:TSd)(D:Ed)(τ:DS)(M:MH):Prop:=di τ M λ ws M1=>∃ P:Nat->DS->MH->Prop,P 0 τ M1 /\
 (∀ i w τ M,ws[i]? =some w->P i τ M->g w τ M λ τ2 M2=>tb {D with nx:=P (i+1),ct:=P (i+1),bk:=D.nx} τ2 M2)/\∀ τ M,P ws.length τ M->D.nx τ M
theorem afw(hp:PassesOwn (model X.prog X.w) X.A X.env X.xe)(hc:X.calm=true)(hi:PId X tg iter di)(hg:PGd X tg g)(hb:t8 X body tb)
  (hs:∀ x,foldedSetIterable iter X.env x=pure x:=by intro _;rfl):PSd X (.For tg iter body [] pos) (j4 di g tb):=qU (ahn hp hc hi hg hb hs) λ D σ H hq50=>by
 obtain⟨τ,M,Dd,A,h,k1,k2,k3,k4⟩:=hq50;refine⟨τ,M,_,A,h,λ J H1 ws M1 kp m1 it hq51=>?_⟩;obtain⟨P,p0,pt,pe⟩:=hq51;refine⟨λ i n σ H'=>n=ws.length-i/\i<=ws.length/\Kp H1 H'/\∃ τ M,Abs X.K H' σ τ M/\P i τ M,⟨ws.length,by simp,Nat.zero_le _,Kp.refl _,τ,M1,A.go kp m1,p0⟩,?_⟩;rintro i n σ2 H2 ⟨rfl,hi,kp2,τ2,M2,A2,p2⟩;obtain⟨go,stop,yld⟩:=it H2 kp2 i
 by_cases hlt:i<ws.length
 .refine .inr ⟨go hlt,λ σ3 H3=>Kp H2 H3/\∃ τ M,Abs X.K H3 σ3 τ M/\P (i+1) τ M,λ σ3 H3 ⟨kp3,τ3,M3,A3,p3⟩=>⟨ws.length-(i+1),by omega,rfl,hlt,kp2.trans kp3,τ3,M3,A3,p3⟩,λ x H3 y=>?_⟩;obtain⟨kp3,mk,w,ew,rw⟩:=yld x H3 hlt y;refine⟨w,τ2,M2,_,rw,A2.go kp3 (mk _ A2.mem),pt i w τ2 M2 ew p2,λ σ4 H4 τ4 M4 kp4 A4 q4=>?_⟩;have kq:=kp3.trans kp4;have kr:=(kp.trans kp2).trans kq;exact⟨τ4,M4,_,A4,q4,λ σ5 H5 τ5 M5 kp5 A5 q5=>⟨kq.trans kp5,τ5,M5,A5,q5⟩,λ v H5 w M5 kp5=>k2 v H5 w M5 (kr.trans kp5),λ σ5 H5 τ5 M5 kp5=>k1 σ5 H5 τ5 M5 (kr.trans kp5),λ σ5 H5 τ5 M5 kp5 A5 q5=>⟨kq.trans kp5,τ5,M5,A5,q5⟩⟩
 .have hl:i=ws.length:=by omega
  subst hl;exact .inl ⟨stop (lr0 _),k1 σ2 H2 τ2 M2 (kp.trans kp2) A2 (pe τ2 M2 p2)⟩
def aa3(k:Nat)(fr:List Nat)(τ:DS):DS:=List.replicate k none++fr.map λ j=>(τ[j]?).getD none
theorem rU(A:Abs K H σ τ M)(k:Nat)(fr:List Nat):Abs K H (lcS k fr σ) (aa3 k fr τ) M:=by
 refine⟨by simp[lcS,aa3],λ i w e=>?_,A.mem⟩;unfold aa3 at e
 by_cases hi:i<k
 .rw[List.getElem?_append_left (by simpa using hi),List.getElem?_replicate] at e
  split at e<;>cases e
 .rw[List.getElem?_append_right (by simpa using hi),List.getElem?_map,List.length_replicate] at e;cases q:fr[i-k]? with
  | none=>rw[q] at e;cases e
  | some j =>
   rw[q] at e;have e':(τ[j]?).getD none=some w:=Option.some.inj e;have e2:τ[j]? =some (some w):=by
    cases z:τ[j]? with
    | none=>rw[z] at e';cases e'
    | some o=>rw[z] at e';exact congrArg some e'
   obtain⟨v,q1,r⟩:=A.val j w e2;refine⟨v,?_,r⟩;unfold lcS;rw[List.getElem?_append_right (by simpa using hi),List.getElem?_map,List.length_replicate,q];simp[q1]
def dLC(di:TId)(g:TGd)(tt:TTd)(te:TD)(k:Nat)(fr:List Nat)(τ:DS)(M:MH)(Q:QD):Prop:=di τ M λ ws M1=>∃ P:Nat->List PyData->DS->MH->Prop,P 0 [] (aa3 k fr τ) M1 /\
 (∀ i w acc τ M,ws[i]? =some w->P i acc τ M->acc.length<sizeLine/\g w τ M λ τ2 M2=>tt τ2 M2 λ b M3=>if b=true then te τ2 M3 λ y M4=>∃ d,y=.d d/\P (i+1) (acc++[d]) τ2 M4 else P (i+1) acc τ2 M3) /\
 ∀ acc τ M,P ws.length acc τ M->Q (.d (.list acc)) M
theorem ac6(h:up K (dLC di g tt te k fr) σ H Q) :
  alr (tLC (upI K di) (upG K g) (upT K tt) (up K te) k fr) σ H Q:=by
 obtain⟨τ,M,Qd,A,h,kk⟩:=h;refine⟨τ,M,_,A,h,λ J H1 ws M1 kp m1 it hq52=>?_⟩;obtain⟨P,p0,pt,pe⟩:=hq52;refine⟨λ i n ys σ' H'=>n=ws.length-i/\i<=ws.length/\Kp H1 H'/\∃ acc τ M,aX K H' acc ys/\Abs K H' σ' τ M/\P i acc τ M,⟨ws.length,by simp,Nat.zero_le _,Kp.refl _,[],_,M1,by simp[aX],rU (A.go kp m1) k fr,p0⟩,?_⟩;rintro i n ys σ2 H2 ⟨rfl,hi,kp2,acc,τ2,M2,ra,A2,p2⟩;obtain⟨go,stop,yld⟩:=it H2 kp2 i
 by_cases hlt:i<ws.length
 .have hlen:=ra.length;refine .inr ⟨go hlt,?_,λ x H3 y=>?_⟩
  .obtain⟨w,hw⟩:∃ w,ws[i]? =some w:=⟨ws[i],by simp[hlt]⟩;have:=(pt i w acc τ2 M2 hw p2).1;omega
  obtain⟨kp3,mk,w,ew,rw⟩:=yld x H3 hlt y;refine⟨w,τ2,M2,_,rw,A2.go kp3 (mk _ A2.mem),(pt i w acc τ2 M2 ew p2).2,λ σ4 H4 τ4 M4 kp4 A4 q4=>⟨τ4,M4,_,A4,q4,λ b H5 M5 kp5 m5 q5=>?_⟩⟩;have kq:=(kp3.trans kp4).trans kp5;cases b with
  | false =>
   rw[if_neg ft0] at q5;show(if false=true then _ else _);rw[if_neg ft0];exact⟨ws.length-(i+1),by omega,rfl,hlt,kp2.trans kq,acc,τ4,M5,ra.keep kq,A4.go kp5 m5,q5⟩
  | true =>
   rw[if_pos rfl] at q5;show(if true=true then _ else _);rw[if_pos rfl];refine⟨τ4,M5,_,A4.go kp5 m5,q5,λ v H6 wv M6 kp6 r6 m6 hq53=>?_⟩;obtain⟨d,e6,q6⟩:=hq53;subst e6;refine⟨ws.length-(i+1),by omega,rfl,hlt,kp2.trans (kq.trans kp6),acc++[d],τ4,M6,aX.append (ra.keep (kq.trans kp6)) ?_,A4.go (kp5.trans kp6) m6,q6⟩;simp only[aX];exact⟨v,[],rfl,r6,rfl⟩
 .have hl:i=ws.length:=by omega
  subst hl;exact .inl ⟨stop (lr0 _),λ p hp=>qe hp ra A2.mem (pe acc τ2 M2 p2) (kgo kk (kp.trans kp2))⟩
section
variable {sc:Scope}{own:List Str}{fr:List Nat}{elt iter:Expr}{ifs:List Expr}{pos:Pos}{di:TId}{g:TGd}{tt:TTd}{te:TD}
abbrev sL(X:Cx)(ifs:List Expr)(t:TTd):Prop:=PTs X ifs (upT X.K t)
def iJ(_:DS)(M:MH)(Q:Bool->MH->Prop):Prop:=Q true M
theorem abb(h:PTd X c t):sL X [c] t:=aek h
theorem akW(hc:X.calm=true)(L:nq X sc own fr)(hi:PId X tg iter di)
  (hg:∀ cl C s H ex pl,PGd (blk X sc (lcN X own fr) cl C s H ex pl) tg g)(ht:∀ cl C s H ex pl,sL (blk X sc (lcN X own fr) cl C s H ex pl) ifs tt)(he:∀ cl C s H ex pl,PD (blk X sc (lcN X own fr) cl C s H ex pl) elt te)
  (hs:∀ x,foldedSetIterable iter X.env x=pure x:=by intro _;rfl):PD X (.ListComp elt [⟨tg,iter,ifs,0⟩] sc pos) (dLC di g tt te own.length fr):=
 fN (vb (ad0 hc L hi hg ht he hs)) λ σ H Q h=>ac6 h
theorem aiE{st:Stmt}{t:TS}(h:PS X st t):PS X st (λ D σ H=>t {D with nx:=λ σ' H'=>∃ p u,H' p=some u/\Fz u/\∀ o,D.nx σ' (upd H' p (.frz o u))} σ H):=by
 intro pins s σ H D I hq;refine thn (h pins s σ H _ I hq) λ f s1 q=>?_;cases f with
 | next =>
  obtain⟨σ',H',I',p,u,e,fz,q⟩:=q;obtain⟨o,I2⟩:=I'.freeze e fz;exact⟨σ',_,I2,q o⟩
 | brk=>exact q
 | cont=>exact q
 | ret v=>exact q
theorem aaN{i:Nat}{pos' spos:Pos}(hN:X.N.Nodup)(hi':X.N[i]? =some x)(hx:Loc X.env.scope x)(hc:X.calm=true)(L:nq X sc own fr)(hi:PId X tg iter di)
  (hg:∀ cl C s H ex pl,PGd (blk X sc (lcN X own fr) cl C s H ex pl) tg g)(ht:∀ cl C s H ex pl,sL (blk X sc (lcN X own fr) cl C s H ex pl) ifs tt)(he:∀ cl C s H ex pl,PD (blk X sc (lcN X own fr) cl C s H ex pl) elt te)
  (hsw:swapsWith (.ListComp elt [⟨tg,iter,ifs,0⟩] sc pos) (some (.Name x pos')) spos.line X.env=pure true:=by rfl)
  (hs:∀ x,foldedSetIterable iter X.env x=pure x:=by intro _;rfl)(hf:X.fn x=true\/X.env.scope.names.lookup x=some .local:=by first | exact .inl rfl | exact .inr rfl | assumption) :
  PSd X (.Assign [.Name x pos'] (.ListComp elt [⟨tg,iter,ifs,0⟩] sc pos) spos) (cH (dLC di g tt te own.length fr) (gN i)):=qU (aiE (uW hN hi' hx hc L hi hg ht he hsw hs hf)) λ D σ H hq54=>by
 obtain⟨τ,M,Dd,A,h,k1,_⟩:=hq54;have z:up X.K (dLC di g tt te own.length fr) σ H (λ v H'=>D.nx (σ.set i (some v)) H'):=⟨τ,M,_,A,h,λ v H1 w M1 kp r m q=>k1 _ H1 _ M1 kp ((A.go kp m).set i r) q⟩;obtain⟨τ',M',R',A',h',k'⟩:=ac6 z;refine⟨τ',M',R',A',h',λ J H1 ws M1 kp m1 it q=>?_⟩;obtain⟨W,w0,st⟩:=k' J H1 ws M1 kp m1 it q;refine⟨W,w0,λ i m ys τ H w=>?_⟩;rcases st i m ys τ H w with ⟨s1,s2⟩ | r
 .refine .inl ⟨s1,λ p hp=>?_⟩;obtain⟨p',u,e1,e2,f,q⟩:=s2 p hp;cases e1;exact⟨p,u,e2,f,q⟩
 .exact .inr r
end
end
section
variable {X:Cx}{K:FG}
def agR(ws:List W)(M:MH)(Q:QD):Prop:=∃ i:Int,ws=[.d (.int i)]/\Q (.d (.int (if i<0 then -i else i))) M
theorem ah2:eK K (λ xs H Q=>∃ i,xs=[.int i]/\Q (.int (if i<0 then -i else i)) H) agR:=by intro vs H ws M Qd Q r m ⟨i,e,q⟩ k;subst e;obtain⟨v,e1,r1⟩:=fJ r;simp only[aJ,aB] at r1;subst r1;exact⟨i,e1,k _ H (.d (.int _)) M (Kp.refl H) (by simp[aJ,aB]) m q⟩
def adF(M:MH):W->Option Nat
 | .d (.list ds)=>some ds.length
 | .d (.tuple ds)=>some ds.length
 | .d (.str z)=>some z.length
 | .m a=>match M a with
  | some (.lst ws)=>some ws.length
  | _=>none
 | _=>none
def aaq(ws:List W)(M:MH)(Q:QD):Prop:=∃ w n,ws=[w]/\adF M w=some n/\agI w=true/\Q (.d (.int (n:Nat))) M
theorem aiz:eK K (λ xs H Q=>∃ x n,xs=[x]/\ali K x H n/\Q (.int n) H) aaq:=by
 intro vs H ws M Qd Q r m ⟨w,n,e,hn,hf,q⟩ k;subst e;obtain⟨v,e1,r1⟩:=fJ r;refine⟨v,n,e1,?_,k _ H (.d (.int _)) M (Kp.refl H) (by simp[aJ,aB]) m q⟩;cases w with
 | t _=>simp[adF] at hn
 | m a =>
  simp only[aJ] at r1;subst r1;simp only[adF] at hn;cases hm:M a with
  | none=>rw[hm] at hn;cases hn
  | some mo =>
   rw[hm] at hn;cases mo with
   | lst l=>cases hn;obtain⟨us,e2,rw1⟩:=m a _ hm;exact .inl ⟨us,SqL.of e2,rw1.length⟩
   | dic _=>cases hn
   | dct _=>cases hn
   | fdic _=>cases hn
   | ins _ _=>cases hn
   | tup _=>cases hn
   | flst _=>cases hn
   | exc _ _=>cases hn
   | code _ _=>cases hn
 | d d =>
  cases d with
  | list ds=>simp only[adF] at hn;cases hn;simp only[aJ,aB] at r1;obtain⟨a,us,e2,hs,ra⟩:=r1;subst e2;exact .inl ⟨us,hs.sq,ra.length.symm⟩
  | tuple ds=>simp only[adF] at hn;cases hn;simp only[aJ,aB] at r1;obtain⟨a,us,e2,hs,ra⟩:=r1;subst e2;exact .inr ⟨us,hs,ra.length.symm⟩
  | str z=>simp only[adF] at hn;cases hn;simp only[aJ,aB] at r1;subst r1;exact⟨of_decide_eq_true hf,rfl⟩
  | _=>simp[adF] at hn
theorem sX(r:aB K H (qq key) v):v=kV key:=by
 cases key<;>(simp only[qq,aB] at r;exact r)
end
structure Fn(K:FG)(mg:Str->Option Value)(x:Str)(st:Stmt)(ps:List Str)(f:Addr)(fd:FuncData):Prop where
 fn:Fun K x x st f fd
 mg:mg x=some (.ref f)
 bd:Binds K fd ps []
section
variable {K:FG}{mg:Str->Option Value}{h:Heap}
theorem adQ{st:Stmt}{ps:List Str}{oc:Value}{od an:Option Addr}{osl:Array (Option Value)}{kV doc pm cdv ct:Value}(X:K.In h)(G:h.Ns mainGlobals mg)(a:W.nsIn K mainGlobals x=some (some (.ref f)))
  (l:K.lookup f=some ⟨oc,od,.func (W.fnOf x x (bw st) (aW st) (aC st) .none kV doc pm an cdv ct),osl⟩)(c:W.codeIn K cdv x=true)(k:W.keepIn K (.ref f)=true)
  (b:∀ (kV doc pm:Value) (an:Option Addr) (cdv ct:Value) (us:List Value),us.length=ps.length->bindArgs (W.fnOf x x (bw st) (aW st) (aC st) .none kV doc pm an cdv ct) ⟨us,[]⟩=pure (ps.zip us)) :
  Fn K mg x st ps f (W.fnOf x x (bw st) (aW st) (aC st) .none kV doc pm an cdv ct):=
 have F:=aaQ (st:=st) l c k
 ⟨F,W.mg_of X G a,F.binds b⟩
end
def aii(sc scX:Scope)(N:List Str)(fr:List Nat):Bool:=
 (sc.kind==.function)&&sc.names.all (λ y=>!(y.2==.cell))&&sc.names.all (λ y=>!(y.2==.free) || scX.names.lookup y.1==some .cell || scX.names.lookup y.1==some .free) &&
  sc.names.all (λ y=>!(y.2==.local) || sc.names.lookup y.1==some .local)&&agM N sc fr
theorem agy(h:aii sc X.env.scope X.N fr=true):nq X sc own fr:=by
 simp only[aii,ae00] at h;obtain⟨⟨⟨⟨h1,h2⟩,h3⟩,h4⟩,h5⟩:=h;refine⟨eq_of_beq h1,λ y hy e=>?_,λ y hy e=>?_,λ y hy e=>?_,h5⟩
 .have:=List.all_eq_true.mp h2 y hy;simp[e] at this
 .have:=List.all_eq_true.mp h3 y hy;simp only[e,beq_self_eq_true,Bool.not_true,Bool.false_or,Bool.or_eq_true] at this;rcases this with z | z
  .exact .inl (eq_of_beq z)
  .exact .inr (eq_of_beq z)
 .have:=List.all_eq_true.mp h4 y hy;simp only[e,beq_self_eq_true,Bool.not_true,Bool.false_or] at this;exact eq_of_beq this
theorem xX:bootBuiltins "list" = some (.type "list"):=by decide +kernel
theorem vw:bootBuiltins "tuple" = some (.type "tuple"):=by decide +kernel
theorem ad6:bootBuiltins "dict" = some (.type "dict"):=by decide +kernel
theorem ff:bootBuiltins "isinstance" = some (.builtin "isinstance"):=by decide +kernel
def gZ:Expr->Bool
 | .Starred ..=>true
 | _=>false
theorem dY(e:Expr)(es:List Expr)(env:PySem.Env)(h:gZ e=false):starEach (e::es) env=(false,eval e env)::starEach es env:=by
 cases e<;>first | rfl | (exact absurd h (by simp[gZ]))
theorem fm(pos:Pos)(env:PySem.Env):∀ es:List Expr,(es.all λ e=>!gZ e)=true->(backTo pos (starEach es env)).any (·.1)=false
 | [],_=>rfl
 | e::es,h=>by rw[List.all_cons,ae00,Bool.not_eq_true'] at h;rw[dY e es env h.1];show(false || (backTo pos (starEach es env)).any (·.1))=false;rw[fm pos env es h.2];rfl
section
variable {X:Cx}{pos p:Pos}{e:Expr}{es:List Expr}{te:TD}{t:TAd}{x:Str}{id T:String}{r:List V->Hp->VK->Prop}{rd:List W->MH->QD->Prop}{k:Nat}{f:Addr}{fd:FuncData}{ps:List Str}{sp:SpD}
theorem pac(ha:PD X e te)(hr:PAd X es t)(h:gZ e=false:=by rfl):PAd X (e::es) (ab te t):=abG ha hr (dY e es X.env h)
theorem pcB(hc:dr X (.builtin id) r)(hd:eK X.K r rd)(hg:Gl X x)(hm:X.mg x=none)(hv:bootBuiltins x=some (.builtin id))(ha:PAd X (e::es) t)(hn:x ≠ "__name__":= by decide)(hdb:ND x:=by decide)
  (h1:gZ e=false:=by rfl)(h2:(es.all λ e=>!gZ e)=true:=by rfl):PD X (.Call (.Name x p) (e::es) [] pos) (dCB rd t):=acd hc hd hg hm hv ha hn hdb (dY e es X.env h1) (fm pos X.env es h2)
theorem pcF(F:ck X.prog X.w X.K X.mg X.base CX0 k f fd ps (cz X.K sp))(hr:cI k X.A)(hg:Gl X x)(hm:X.mg x=some (.ref f))(hk:W.keepIn X.K (.ref f)=true)(hb:Binds X.K fd ps [])
  (ha:PAd X (e::es) t)(hdb:ND x:=by decide)(h1:gZ e=false:=by rfl)(h2:(es.all λ e=>!gZ e)=true:=by rfl) :
  PD X (.Call (.Name x p) (e::es) [] pos) (bx sp t):=adV F hr hg hm hk hb ha hdb (dY e es X.env h1) (fm pos X.env es h2)
end
structure Jd(p:Prop):Prop where
 h:p
section
variable {X:Cx}{pos:Pos}{a b c e:Expr}{ta tb tc te:TD}{K:FG}
theorem dvQ(i:Nat)(hN:X.N[i]? =some x:=by rfl)(hv:Vis X.env.scope x:=by first | exact Or.inl rfl | exact Or.inr (Or.inl rfl) | exact Or.inr (Or.inr rfl))(hd:ND x:=by decide)(hcd:(x==("__classdict__" : Str))=false:=by decide):Jd (PD X (.Name x pos) (ag i)):=⟨aiS (aib hN hv hd hcd)⟩
theorem aaL{i j pos}:Jd (PD X (.Constant (.int i) j pos) (dC (.d (.int i)))):=⟨ahu ain λ H=>by simp[aJ,aB]⟩
theorem aak{b j pos}:Jd (PD X (.Constant (.bool b) j pos) (dC (.d (.bool b)))):=⟨ahu akT λ H=>by simp[aJ,aB]⟩
theorem agi{j pos}:Jd (PD X (.Constant .none j pos) (dC (.d .none))):=⟨ahu ahG λ H=>by simp[aJ,aB]⟩
theorem af7{x j pos}:Jd (PD X (.Constant (.str x) j pos) (dC (.d (.str x)))):=⟨ahu ais λ H=>by simp[aJ,aB]⟩
theorem pM(hg:Gl X x)(hm:X.mg x=none)(hv:bootBuiltins x=some (.type n))(hn:x ≠ "__name__":= by decide)(hd:ND x:=by decide):Jd (PD X (.Name x pos) (dC (.t n))):=⟨
 ahu (ae3 (v:=.ty n) hg hm hv rfl hn hd) λ H=>by simp[aJ]⟩
theorem agX(ho:OpR X (binaryOp op) r)(hd:OpD X.K r rd)(ha:Jd (PD X a ta))(hb:Jd (PD X b tb)):Jd (PD X (.BinOp a op b pos) (dOp rd ta tb)):=⟨D.akb (ho:=ho) (hd:=hd) (ha:=ha.h) (hb:=hb.h)⟩
theorem aeU(ho:OpR X (compareOp op) r)(hd:OpD X.K r rd)(ha:Jd (PD X a ta))(hb:Jd (PD X b tb))(hm:behindInMarks op b=false:=by first | exact nobehind _ (by decide) (by decide) | rfl):Jd (PD X (.Compare a [op] [b] pos) (dOp rd ta tb)):=⟨D.aiI (ho:=ho) (hd:=hd) (ha:=ha.h) (hb:=hb.h) (hm:=hm)⟩
theorem ado(hr:IxR X r)(hd:OpD X.K r rd)(ha:Jd (PD X a ta))(hb:Jd (PD X b tb))(hs:oM b:=by intro _ _;rfl):Jd (PD X (.Subscript a b pos) (dOp rd ta tb)):=⟨D.akN (hr:=hr) (hd:=hd) (ha:=ha.h) (hb:=hb.h) (hs:=hs)⟩
theorem abf(ho:OpR X (compareOp op) r)(hd:OpD X.K r rd)(ha:Jd (PD X a ta))(hb:Jd (PD X b tb))(hm:behindInMarks op b=false:=by first | exact nobehind _ (by decide) (by decide) | rfl):Jd (PTd X (.Compare a [op] [b] pos) (aT (dOp rd ta tb))):=⟨D.ae8 (ho:=ho) (hd:=hd) (ha:=ha.h) (hb:=hb.h) (hm:=hm)⟩
theorem gA(h:Jd (PD X e te))(he:∀ whole,isTrue e X.env whole=(do let v <- whole;standAt e.pos;holding [v] (truthy v)):=by intro _;rfl):Jd (PTd X e (aT te)):=⟨D.afA (h:=h.h) (he:=he)⟩
variable {tA tB:TTd}{rest:List Expr}
theorem xT(ha:Jd (PTd X a tA)):Jd (PWd X (.BoolOp .And [a] pos) tA):=⟨D.abT (ha:=ha.h)⟩
theorem ach(ha:Jd (PTd X a tA)):Jd (PWd X (.BoolOp .Or [a] pos) tA):=⟨D.adJ (ha:=ha.h)⟩
theorem abB(ha:Jd (PTd X a tA))(hb:Jd (PWd X (.BoolOp .And (b::rest) pos) tB)):Jd (PWd X (.BoolOp .And (a::b::rest) pos) (ady tA tB)):=⟨D.agm (ha:=ha.h) (hb:=hb.h)⟩
theorem aew(ha:Jd (PTd X a tA))(hb:Jd (PWd X (.BoolOp .Or (b::rest) pos) tB)):Jd (PWd X (.BoolOp .Or (a::b::rest) pos) (dOr tA tB)):=⟨D.ajj (ha:=ha.h) (hb:=hb.h)⟩
theorem aha(h:Jd (PWd X e tA)):Jd (PTd X e tA):=⟨D.aj5 (h:=h.h)⟩
theorem vL(ha:Jd (PTd X a tA)):Jd (PTd X (.UnaryOp .Not a pos) (zB tA)):=⟨D.aem (ha:=ha.h)⟩
theorem afU{op}(h:Jd (PD X a ta)):Jd (PD X (.BoolOp op [a] pos) ta):=⟨D.ahB (h:=h.h)⟩
theorem agq(ha:Jd (PD X a ta))(hb:Jd (PD X (.BoolOp .And (b::rest) pos) tb)):Jd (PD X (.BoolOp .And (a::b::rest) pos) (acH ta tb)):=⟨D.aiL (ha:=ha.h) (hb:=hb.h)⟩
theorem ajg(ha:Jd (PD X a ta))(hb:Jd (PD X (.BoolOp .Or (b::rest) pos) tb)):Jd (PD X (.BoolOp .Or (a::b::rest) pos) (ajt ta tb)):=⟨D.akD (ha:=ha.h) (hb:=hb.h)⟩
theorem adU(ha:Jd (PD X a ta)):Jd (PD X (.UnaryOp .Not a pos) (afv ta)):=⟨D.agO (ha:=ha.h)⟩
variable {es:List Expr}{t:TAd}
theorem cv  : Jd (PAd X [] ay):=⟨D.xI ⟩
theorem afL(h:Jd (PAd X es t)):Jd (PD X (.List es pos) (xy t)):=⟨D.aiv (h:=h.h)⟩
theorem acS(h:Jd (PAd X es t)):Jd (PD X (.List es pos) (mU t)):=⟨D.afz (h:=h.h)⟩
theorem yN{x1}(h:Jd (PAd X es t)):Jd (PD X (.Tuple es x1 pos) (m9 t)):=⟨D.ajd (h:=h.h)⟩
variable {x:Str}{p:Pos}{id T:String}{r:List V->Hp->VK->Prop}{rd:List W->MH->QD->Prop}
end
section
variable {X:Cx}{pos:Pos}{st:Stmt}{sts:List Stmt}{t u:TSd}{e:Expr}{te:TD}{K:FG}
theorem iQ  : Jd (t8 X [] bL):=⟨ahM aen λ D σ H ⟨τ,M,Dd,A,h,k1,_⟩=>k1 σ H τ M (Kp.refl H) A h⟩
theorem cY(h1:Jd (PSd X st t))(h2:Jd (t8 X sts u)):Jd (t8 X (st::sts) (aV t u)):=⟨D.xJ (h1:=h1.h) (h2:=h2.h)⟩
theorem bF(h1:Jd (PSd X st t)):Jd (t8 X [st] t):=⟨D.ab7 (h1:=h1.h)⟩
theorem zS(he:Jd (PD X e te))(hs:swapsWith e none pos.line X.env=pure false:=by rfl):Jd (PSd X (.Expr e pos) (dt te)):=⟨D.abu (he:=he.h) (hs:=hs)⟩
theorem cN(he:Jd (PD X e te)):Jd (PSd X (.Return (some e) pos) (cm te)):=⟨D.ad1 (he:=he.h)⟩
theorem pV(hc:Jd (PTd X c tc))(ha:Jd (t8 X a t))(hb:Jd (t8 X b u)):Jd (PSd X (.If c a b pos) (dIf tc t u)):=⟨D.aiy (hc:=hc.h) (ha:=ha.h) (hb:=hb.h)⟩
theorem cR(hN:X.N.Nodup)(hi:X.N[i]? =some x)(hx:Loc X.env.scope x)(hf:X.fn x=true\/X.env.scope.names.lookup x=some .local:=by first | exact .inl rfl | exact .inr rfl | assumption):Jd (PGd X (.Name x pos) (gN i)):=⟨
 akP (xC hN hi hx hf) λ v σ H Q ⟨w,τ,M,Qd,r,A,h,k⟩=>k _ H _ M (Kp.refl H) (A.set i r) h⟩
theorem acA(he:Jd (PD X e te))(hg:Jd (PGd X tg g))(hs:swapsWithSole [tg] e pos.line X.env=pure false:=by rfl)(hw:swappedStores [tg] e X.env=pure none:=by rfl)(h1:(assignEach [tg] X.env).map (·.2)=[assign tg X.env]:=by rfl):Jd (PSd X (.Assign [tg] e pos) (cH te g)):=⟨D.afY (he:=he.h) (hg:=hg.h) (hs:=hs) (hw:=hw) (h1:=h1)⟩
theorem acM(hN:X.N.Nodup)(hi:X.N[i]? =some x)(hx:Loc X.env.scope x)(he:Jd (PD X e te))(hs:swapsWith e (some (.Name x pos')) pos.line X.env=pure false:=by rfl)(hf:X.fn x=true\/X.env.scope.names.lookup x=some .local:=by first | exact .inl rfl | exact .inr rfl | assumption):Jd (PSd X (.Assign [.Name x pos'] e pos) (cH te (gN i))):=⟨D.aey (hN:=hN) (hi:=hi) (hx:=hx) (he:=he.h) (hs:=hs) (hf:=hf)⟩
end
theorem zN  : Jd (POd X none jE):=⟨alo afg λ σ H Q ⟨τ,M,Qd,A,q,k⟩=>k none H M (Kp.refl H) A.mem q⟩
theorem yV(h:Jd (PD X e te)):Jd (POd X (some e) (sP te)):=⟨D.ab0 (h:=h.h)⟩
theorem yA{te:TD}{lo hi:Option Expr}{tl th:TOd}{pos p2:Pos}(he:Jd (PD X e te))(hl:Jd (POd X lo tl))(hu:Jd (POd X hi th)):Jd (PD X (.Subscript e (.Slice lo hi none p2) pos) (dSl te tl th)):=⟨D.acs (he:=he.h) (hl:=hl.h) (hu:=hu.h)⟩
theorem ab2(ho:Jd (PD X o to))(hi:Jd (PD X i ti))(ha:∀ v,assign (.Subscript o i pos) X.env v=(do
   let ov <- holding [v] (eval o X.env)
   let iv <- holding [v,ov] (eval i X.env)
   standAt pos
   holding [v,ov,iv] (setItem ov iv v)
   release [v,ov,iv] []):=by intro _;rfl):Jd (PGd X (.Subscript o i pos) (ab3 to ti)):=⟨D.aeV (ho:=ho.h) (hi:=hi.h) (ha:=ha)⟩
theorem aag(ho:Jd (PD X o to))(hi:Jd (PD X i ti))(he:Jd (PD X e te))(hp:PIp X op (ipI f))(ha:∀ ov iv new,augStore i ov iv new=(do holding [new,ov,iv] (setItem ov iv new);release [new,ov,iv] [];pure .next):=by intros;rfl):Jd (PSd X (.AugAssign (.Subscript o i tpos) op e pos) (abg to ti te f)):=⟨D.acj (ho:=ho.h) (hi:=hi.h) (he:=he.h) (hp:=hp) (ha:=ha)⟩
theorem gu(h:Jd (PD X l te)):Jd (PId X tg l (bU te)):=⟨D.zk (h:=h.h)⟩
theorem tR(hg:Gl X "range")(hm:X.mg "range" = none)(ha:Jd (PAd X [a] ta))(hs:starEach [a] X.env=[(false,eval a X.env)]:=by rfl):Jd (PId X tg (.Call (.Name "range" p) [a] [] pos) (p8 ta)):=⟨D.xu (hg:=hg) (hm:=hm) (ha:=ha.h) (hs:=hs)⟩
theorem tJ(hg:Gl X "range")(hm:X.mg "range" = none)(ha:Jd (PAd X [a,b] ta))(hs:starEach [a,b] X.env=[(false,eval a X.env),(false,eval b X.env)]:=by rfl)(hs2:starEach [b] X.env=[(false,eval b X.env)]:=by rfl):Jd (PId X tg (.Call (.Name "range" p) [a,b] [] pos) (yX ta)):=⟨D.wj (hg:=hg) (hm:=hm) (ha:=ha.h) (hs:=hs) (hs2:=hs2)⟩
theorem abM(hp:PassesOwn (model X.prog X.w) X.A X.env X.xe)(hc:X.calm=true)(hi:Jd (PId X tg iter di))(hg:Jd (PGd X tg g))(hb:Jd (t8 X body tb))(hs:∀ x,foldedSetIterable iter X.env x=pure x:=by intro _;rfl):Jd (PSd X (.For tg iter body [] pos) (j4 di g tb)):=⟨D.afw (hp:=hp) (hc:=hc) (hi:=hi.h) (hg:=hg.h) (hb:=hb.h) (hs:=hs)⟩
theorem iN  : Jd (sL X [] iJ):=⟨λ pins s σ H Q I ⟨τ,M,Qd,A,q,k⟩=>aeO pins s σ H Q I (k true H M (Kp.refl H) A.mem q)⟩
theorem mT(h:Jd (PTd X c t)):Jd (sL X [c] t):=⟨D.abb (h:=h.h)⟩
theorem uI(hc:X.calm=true)(L:nq X sc own fr)(hi:Jd (PId X tg iter di))(hg:∀ cl C s H ex pl,Jd (PGd (blk X sc (lcN X own fr) cl C s H ex pl) tg g))(ht:∀ cl C s H ex pl,Jd (sL (blk X sc (lcN X own fr) cl C s H ex pl) ifs tt))(he:∀ cl C s H ex pl,Jd (PD (blk X sc (lcN X own fr) cl C s H ex pl) elt te))(hs:∀ x,foldedSetIterable iter X.env x=pure x:=by intro _;rfl):Jd (PD X (.ListComp elt [⟨tg,iter,ifs,0⟩] sc pos) (dLC di g tt te own.length fr)):=⟨D.akW (hc:=hc) (L:=L) (hi:=hi.h) (hg:=λ cl C s H ex pl=>(hg cl C s H ex pl).h) (ht:=λ cl C s H ex pl=>(ht cl C s H ex pl).h) (he:=λ cl C s H ex pl=>(he cl C s H ex pl).h) (hs:=hs)⟩
theorem wm(hN:X.N.Nodup)(hi':X.N[i]? =some x)(hx:Loc X.env.scope x)(hc:X.calm=true)(L:nq X sc own fr)(hi:Jd (PId X tg iter di))(hg:∀ cl C s H ex pl,Jd (PGd (blk X sc (lcN X own fr) cl C s H ex pl) tg g))(ht:∀ cl C s H ex pl,Jd (sL (blk X sc (lcN X own fr) cl C s H ex pl) ifs tt))(he:∀ cl C s H ex pl,Jd (PD (blk X sc (lcN X own fr) cl C s H ex pl) elt te))(hsw:swapsWith (.ListComp elt [⟨tg,iter,ifs,0⟩] sc pos) (some (.Name x pos')) spos.line X.env=pure true:=by rfl)(hs:∀ x,foldedSetIterable iter X.env x=pure x:=by intro _;rfl)(hf:X.fn x=true\/X.env.scope.names.lookup x=some .local:=by first | exact .inl rfl | exact .inr rfl | assumption):Jd (PSd X (.Assign [.Name x pos'] (.ListComp elt [⟨tg,iter,ifs,0⟩] sc pos) spos) (cH (dLC di g tt te own.length fr) (gN i))):=⟨D.aaN (hN:=hN) (hi':=hi') (hx:=hx) (hc:=hc) (L:=L) (hi:=hi.h) (hg:=λ cl C s H ex pl=>(hg cl C s H ex pl).h) (ht:=λ cl C s H ex pl=>(ht cl C s H ex pl).h) (he:=λ cl C s H ex pl=>(he cl C s H ex pl).h) (hsw:=hsw) (hs:=hs) (hf:=hf)⟩
section
variable {X:Cx}{pos p:Pos}{e:Expr}{es:List Expr}{te:TD}{t:TAd}{x:Str}{id T:String}{r:List V->Hp->VK->Prop}{rd:List W->MH->QD->Prop}{k:Nat}{f:Addr}{fd:FuncData}{ps:List Str}{sp:SpD}
theorem qp(ha:Jd (PD X e te))(hr:Jd (PAd X es t))(h:gZ e=false:=by rfl):Jd (PAd X (e::es) (ab te t)):=⟨D.pac (ha:=ha.h) (hr:=hr.h) (h:=h)⟩
theorem ajo(hc:dr X (.builtin id) r)(hd:eK X.K r rd)(hg:Gl X x)(hm:X.mg x=none)(hv:bootBuiltins x=some (.builtin id))(ha:Jd (PAd X (e::es) t))(hn:x ≠ "__name__":= by decide)(hdb:ND x:=by decide)(h1:gZ e=false:=by rfl)(h2:(es.all λ e=>!gZ e)=true:=by rfl):Jd (PD X (.Call (.Name x p) (e::es) [] pos) (dCB rd t)):=⟨D.pcB (hc:=hc) (hd:=hd) (hg:=hg) (hm:=hm) (hv:=hv) (ha:=ha.h) (hn:=hn) (hdb:=hdb) (h1:=h1) (h2:=h2)⟩
theorem ajA(F:ck X.prog X.w X.K X.mg X.base CX0 k f fd ps (cz X.K sp))(hr:cI k X.A)(hg:Gl X x)(hm:X.mg x=some (.ref f))(hk:W.keepIn X.K (.ref f)=true)(hb:Binds X.K fd ps [])(ha:Jd (PAd X (e::es) t))(hdb:ND x:=by decide)(h1:gZ e=false:=by rfl)(h2:(es.all λ e=>!gZ e)=true:=by rfl):Jd (PD X (.Call (.Name x p) (e::es) [] pos) (bx sp t)):=⟨D.pcF (F:=F) (hr:=hr) (hg:=hg) (hm:=hm) (hk:=hk) (hb:=hb) (ha:=ha.h) (hdb:=hdb) (h1:=h1) (h2:=h2)⟩
end
section
variable {κ α:Type}[DecidableEq κ]
def eV(t:List (κ×α))(k:κ):Option α:=(t.find? λ p=>decide (p.1=k)).map (·.2)
def kG(t:List (κ×α))(k:κ)(v:α):List (κ×α):=if (t.any λ p=>decide (p.1=k))=true then t.map (λ p=>if p.1=k then (p.1,v) else p) else t++[(k,v)]
def OR(R:β->γ->Prop):Option β->Option γ->Prop
 | some a,some b=>R a b
 | none,none=>True
 | _,_=>False
theorem OR.some_of(h:OR R (some a) o):∃ b,o=some b/\R a b:=by
 cases o with
 | none=>exact h.elim
 | some b=>exact⟨b,rfl,h⟩
theorem OR.none_of(h:OR R none o):o=none:=by
 cases o with
 | none=>rfl
 | some b=>exact h.elim
theorem OR.isSome:∀ {a:Option β} {o:Option γ},OR R a o->a.isSome=o.isSome
 | some _,some _,_=>rfl
 | none,none,_=>rfl
 | some _,none,h=>h.elim
 | none,some _,h=>h.elim
theorem oz(k:κ):∀ {t:List (κ×α)} {l:List (κ×V)},Paired (λ p q=>p.1=q.1/\R p.2 q.2) t l->OR R (eV t k) (xv l k)
 | _,_,.nil=>True.intro
 | _,_,.cons (a:=p) (b:=q) (l₁:=t1) h t=>by
  obtain⟨h1,h2⟩:=h
  by_cases e:p.1=k
  .rw[kJ (h1.symm.trans e),show eV (p::t1) k=some p.2 by simp[eV,List.find?_cons,e]];exact h2
  .rw[kK (λ z=>e (h1.trans z)),show eV (p::t1) k=eV t1 k by simp[eV,List.find?_cons,e]];exact oz k t
theorem adj{R:α->V->Prop}(k:κ):∀ {t:List (κ×α)} {l:List (κ×V)},Paired (λ p q=>p.1=q.1/\R p.2 q.2) t l->(t.any λ p=>decide (p.1=k))=(l.any λ p=>decide (p.1=k))
 | _,_,.nil=>rfl
 | _,_,.cons (a:=p) (b:=q) h t=>by simp only[List.any_cons];rw[adj k t,h.1]
theorem adw{R:α->V->Prop}(k:κ){v:V}(r:R a v):∀ {t:List (κ×α)} {l:List (κ×V)},Paired (λ p q=>p.1=q.1/\R p.2 q.2) t l ->
  Paired (λ p q=>p.1=q.1/\R p.2 q.2) (t.map λ p=>if p.1=k then (p.1,a) else p) (l.map λ p=>if p.1=k then (p.1,v) else p)
 | _,_,.nil=>.nil
 | _,_,.cons (a:=p) (b:=q) h t=>by
  simp only[List.map_cons];refine .cons ?_ (adw k r t)
  by_cases e:p.1=k
  .rw[if_pos e,if_pos (h.1.symm.trans e)];exact⟨h.1,r⟩
  .rw[if_neg e,if_neg (λ z=>e (h.1.trans z))];exact h
theorem zK(r:P p q):∀ {t:List (κ×α)} {l:List (κ×V)},Paired P t l->Paired P (t++[p]) (l++[q])
 | _,_,.nil=>.cons r .nil
 | _,_,.cons h t=>.cons h (zK r t)
theorem yY{R:α->V->Prop}(k:κ){v:V}(r:R a v){t:List (κ×α)}{l:List (κ×V)}(h:Paired (λ p q=>p.1=q.1/\R p.2 q.2) t l) :
  Paired (λ p q=>p.1=q.1/\R p.2 q.2) (kG t k a) (putK l k v):=by
 unfold kG putK;rw[adj k h]
 split
 .exact adw k r h
 .exact zK ⟨rfl,r⟩ h
theorem vT:∀ {t:List (κ×α)} {l:List (κ×V)},Paired P t l->t.length=l.length
 | _,_,.nil=>rfl
 | _,_,.cons _ t=>by simp[vT t]
theorem acz:eV ([]:List (κ×α)) k=none:=rfl
theorem cn{t:List (κ×α)}{k:κ}:eV (p::t) k=if p.1=k then some p.2 else eV t k:=by
 by_cases e:p.1=k<;>simp[eV,List.find?_cons,e]
theorem gB(k:κ):∀ t:List (κ×α),(t.any λ p=>decide (p.1=k))=(eV t k).isSome
 | []=>rfl
 | p::t=>by
  rw[List.any_cons,gB k t,cn]
  by_cases e:p.1=k<;>simp[e]
theorem rP(k j:κ)(y:α):∀ t:List (κ×α),eV t k=none->eV (t++[(k,y)]) j=if j=k then some y else eV t j
 | [],_=>by
  rw[List.nil_append,cn,acz]
  by_cases e:j=k
  .subst e;simp
  .simp[e,Ne.symm e]
 | p::t,h=>by
  rw[cn] at h
  by_cases e:p.1=k
  .simp[e] at h
  .rw[if_neg e] at h;rw[List.cons_append,cn,cn,rP k j y t h]
   by_cases f:p.1=j
   .rw[if_pos f,if_pos f]
    by_cases g:j=k
    .exact absurd (f.trans g) e
    .rw[if_neg g]
   .rw[if_neg f,if_neg f]
theorem vR(k j:κ)(y:α):∀ t:List (κ×α),eV (t.map λ p=>if p.1=k then (p.1,y) else p) j=(eV t j).map λ x=>if j=k then y else x
 | []=>rfl
 | p::t=>by
  rw[List.map_cons,cn,cn,vR k j y t]
  by_cases e:p.1=k
  .rw[if_pos e]
   by_cases f:p.1=j
   .have g:j=k:=f.symm.trans e;rw[if_pos f,if_pos f,Option.map_some,if_pos g]
   .rw[if_neg f,if_neg f]
  .rw[if_neg e]
   by_cases f:p.1=j
   .have g:¬ j=k:=λ z=>e (f.trans z);simp[f,g]
   .simp[f]
theorem aci(t:List (κ×α))(k j:κ)(y:α):eV (kG t k y) j=if j=k then some y else eV t j:=by
 unfold kG;have h:=gB k t;cases q:eV t k with
 | none =>
  rw[q] at h;rw[h,if_neg (by simp)];exact rP k j y t q
 | some z =>
  rw[q] at h;rw[h,if_pos (by rfl),vR]
  by_cases e:j=k
  .subst e;rw[q];simp
  .rw[if_neg e];cases eV t j<;>simp[e]
theorem aeZ(t:List (κ×α))(k:κ)(y:α):(kG t k y).length<=t.length+1:=by
 unfold kG
 split<;>simp
end
def kW(k:Key):W:=.d (qq k)
theorem oH{K:FG}{H:Hp}{k:Key}{v:V}(r:aJ K H (kW k) v):v=kV k:=sX r
def tkW(ks:List Key):W:=.d (.tuple (ks.map qq))
theorem aeA{K:FG}{H:Hp}:∀ {ks:List Key} {vs:List V},aX K H (ks.map qq) vs->vs=ks.map kV
 | [],vs,h=>by simpa [aX] using h
 | k::ks,vs,h=>by simp only[List.map_cons,aX] at h;obtain⟨v,r,e,h1,h2⟩:=h;rw[e,sX h1,aeA h2];rfl
theorem aj3{K:FG}{H:Hp}{ks:List Key}{vs:List V}(h:bh K H (ks.map kW) vs):vs=ks.map kV:=by
 refine aeA (K:=K) (H:=H) ?_;have e:ks.map kW=(ks.map qq).map W.d:=by simp[kW]
 rw[e] at h;exact h.data
def Rd2(H:Hp)(a:Addr)(u:HO):Prop:=Rd H a u\/∃ o,H a=some (.frz o (.frz o u))
theorem uR(ok:HOk P w H h)(e:Rd2 H a (.dK kvs)):kvs.length<=sizeLine/\(a==sysModules)=false/\∃ vs,KV kvs vs/\h.DictOf (a9 P w) a vs:=by
 rcases e with e | ⟨o,e⟩
 .exact aaD ok e
 .exact(ok a _ e).2.2
def ug(K:FG)(H:Hp)(a:Addr)(y:V)(r:Option V):Prop:=
 (∃ kvs k,Rd2 H a (.dK kvs)/\y=kV k/\r=xv kvs k)\/∃ kvs k b,Rd H a (.dT kvs)/\y=.ref b/\SqT K H b (k.map kV)/\r=xv kvs k
theorem aaM(I:Inv X pins σ H s)(h:SqT X.K H b (ks.map kV)):(tupleKind (a9 X.prog X.w)).is s.heap ks b:=by obtain⟨its,r,⟨o,h1,h2,n,h3⟩,_⟩:=I.tuple h;exact⟨o,its.toArray,n,h1,h2,h3,by simpa using mR r⟩
theorem ajW(hu:A.units+1<cLine)(I:Inv X pins σ H s)(g:ug X.K H a y o)(ry:RelV y u)(h:∀ s',Inv X pins σ H s'->Q (.bool o.isSome) s') :
  wpAny (model X.prog X.w) A (compareOp .In u (.ref a)) Q E s:=by
 rcases g with ⟨kvs,k,e,ey,l⟩ | ⟨kvs,k,b,e,ey,eb,l⟩
 .subst ey;obtain⟨z,hd,vs,rel,dd⟩:=uR I.hok e;refine wpAny_in_of (qO ry) hd dd.mapOf ?_;rw[<- (rel.val k).mD,<- l];exact h _ (I.tok _)
 .subst ey;cases (show u=Value.ref b from ry);obtain⟨z,hd,xs,rel,dd⟩:=yq I.hok e;refine wpAny_in_heap (tupleKind_room_in1 hu) (aaM I eb) hd dd ?_;have q:=(rel.val k).mD;rw[Option.isSome_map] at q;rw[<- q,<- l];exact h _ (I.tok _)
theorem ad5(hu:A.units+1<cLine)(I:Inv X pins σ H s)(g:ug X.K H a y o)(ry:RelV y u)(h:∀ w' s',Inv X pins σ H s'->RelV (o.getD .non) w'->Q w' s') :
  wpAny (model X.prog X.w) A (call (.builtin "dict.get") [.ref a,u]) Q E s:=by
 rcases g with ⟨kvs,k,e,ey,l⟩ | ⟨kvs,k,b,e,ey,eb,l⟩
 .subst ey;obtain⟨z,hd,vs,rel,dd⟩:=uR I.hok e;refine call_meetsIn PySem.F.slot_dict_get dd.typeIs PySem.F.entry_dict_get (PySem.F.args_dict_get_2 _ _) (meets_dict_get (a9 X.prog X.w) a (qO ry) hd) ⟨_,dd.mapOf,h _ _ (I.tok _) ?_⟩;rw[l];exact(rel.val k).getD rfl
 .subst ey;cases (show u=Value.ref b from ry);obtain⟨z,hd,xs,rel,dd⟩:=yq I.hok e;refine call_meetsIn PySem.F.slot_dict_get dd.typeIs PySem.F.entry_dict_get (PySem.F.args_dict_get_2 _ _) (meetsH_dict_get (tupleKind (a9 X.prog X.w)) a b hd) ⟨tupleKind_room_in1 hu,k,xs,aaM I eb,dd,h _ _ (I.tok _) ?_⟩;rw[l];exact(rel.val k).getD rfl
theorem agp(hu:A.units+1<cLine)(I:Inv X pins σ H s)(g:ug X.K H a y o)(ry:RelV y u)(rd:RelV d r)(h:∀ w' s',Inv X pins σ H s'->RelV (o.getD d) w'->Q w' s') :
  wpAny (model X.prog X.w) A (call (.builtin "dict.get") [.ref a,u,r]) Q E s:=by
 rcases g with ⟨kvs,k,e,ey,l⟩ | ⟨kvs,k,b,e,ey,eb,l⟩
 .subst ey;obtain⟨z,hd,vs,rel,dd⟩:=uR I.hok e;refine call_meetsIn PySem.F.slot_dict_get dd.typeIs PySem.F.entry_dict_get (PySem.F.args_dict_get_3 _ _ _) (meets_dict_get_default (a9 X.prog X.w) a (qO ry) hd r) ⟨_,dd.mapOf,h _ _ (I.tok _) ?_⟩;rw[l];exact(rel.val k).getD rd
 .subst ey;cases (show u=Value.ref b from ry);obtain⟨z,hd,xs,rel,dd⟩:=yq I.hok e;refine call_meetsIn PySem.F.slot_dict_get dd.typeIs PySem.F.entry_dict_get (PySem.F.args_dict_get_3 _ _ _) (meetsH_dict_get_default (tupleKind (a9 X.prog X.w)) a b hd r) ⟨tupleKind_room_in1 hu,k,xs,aaM I eb,dd,h _ _ (I.tok _) ?_⟩;rw[l];exact(rel.val k).getD rd
theorem xw(hu:A.units+1<cLine)(I:Inv X pins σ H s)(e:Rd2 H a (.dK kvs))(l:xv kvs k=some v)(ry:RelV (kV k) u)(h:∀ w' s',Inv X pins σ H s'->RelV v w'->Q w' s') :
  s.TypeIs (.ref a) "dict" /\ wpAny (model X.prog X.w) A (getItem (.ref a) u) Q E s:=by
 obtain⟨z,hd,vs,rel,dd⟩:=uR I.hok e;obtain⟨w',hw,rw'⟩:=qP.some_of (v:=v) (o:=valueAt vs k) (by rw[<- l];exact rel.val k);exact⟨dd.typeIs,wpAny_getItem_of (qO ry) dd.mapOf hw (h w' _ (I.tok _) rw')⟩
inductive pR(M:MH):W->W->Option W->Prop
 | k {a:Addr} {kvs:List (Key×W)} {k:Key} (h:M a=some (.dic kvs)):pR M (.m a) (kW k) (eV kvs k)
 | t {a:Addr} {kvs:List (List Key×W)} {ks:List Key} (h:M a=some (.dct kvs)):pR M (.m a) (tkW ks) (eV kvs ks)
 | f {a:Addr} {kvs:List (Key×W)} {k:Key} (h:M a=some (.fdic kvs)):pR M (.m a) (kW k) (eV kvs k)
 | d {kvs:List (Key×PyData)} {k:Key}:pR M (.d (.dict (kvs.map λ p=>(qq p.1,p.2)))) (kW k) ((eV kvs k).map W.d)
inductive DIs(M:MH):W->Prop
 | k {a:Addr} {kvs:List (Key×W)} (h:M a=some (.dic kvs)):DIs M (.m a)
 | t {a:Addr} {kvs:List (List Key×W)} (h:M a=some (.dct kvs)):DIs M (.m a)
 | d {kvs:List (PyData×PyData)}:DIs M (.d (.dict kvs))
theorem acD(h:qq a=qq b):a=b:=by
 cases a<;>cases b<;>simp[qq] at h<;>rw[h]
theorem lI{K:FG}{H:Hp}:∀ {kvs:List (Key×PyData)} {l:List (Key×V)},i8 K H (kvs.map λ p=>(qq p.1,p.2)) l->Paired (λ(p:Key×PyData) (q:Key×V)=>p.1=q.1/\aB K H p.2 q.2) kvs l
 | [],l,h=>by simp only[List.map_nil,i8] at h;subst h;exact .nil
 | p::kvs,l,h=>by simp only[List.map_cons,i8] at h;obtain⟨key,v,r,e,ek,h1,h2⟩:=h;subst e;exact .cons ⟨acD ek,h1⟩ (lI h2)
theorem DIs.sound{K:FG}{H:Hp}{M:MH}{w:W}{x:V}(g:DIs M w)(r:aJ K H w x)(m:cB K H M):∃ a,x=.ref a/\IsD H a:=by
 cases g with
 | k h =>
  obtain⟨l,e,_⟩:=m _ _ h;exact⟨_,r,.inl ⟨l,.inl e⟩⟩
 | t h =>
  obtain⟨l,e,_⟩:=m _ _ h;exact⟨_,r,.inr ⟨l,.inl e⟩⟩
 | d =>
  simp only[aJ,aB] at r;obtain⟨a,o,l,e,h,_⟩:=r;exact⟨a,e,.inl ⟨l,.inr ⟨o,h⟩⟩⟩
theorem pR.sound{K:FG}{H:Hp}{M:MH}{w y:W}{o:Option W}{x v:V}(g:pR M w y o)(r:aJ K H w x)(ry:aJ K H y v)(m:cB K H M) :
  ∃ a p,x=.ref a/\ug K H a v p/\OR (aJ K H) o p:=by
 cases g with
 | @k a kvs k h =>
  obtain⟨l,e,pr⟩:=m _ _ h;exact⟨_,_,r,.inl ⟨l,k,.inl (.inl e),oH ry,rfl⟩,oz k pr⟩
 | @f a kvs k h =>
  obtain⟨ob,l,e,pr⟩:=m _ _ h;exact⟨_,_,r,.inl ⟨l,k,.inr ⟨ob,e⟩,oH ry,rfl⟩,oz k pr⟩
 | @t a kvs ks h =>
  obtain⟨l,e,pr⟩:=m _ _ h;simp only[tkW,aJ,aB] at ry;obtain⟨b,vs,eb,hs,ra⟩:=ry;rw[aeA ra] at hs;exact⟨_,_,r,.inr ⟨l,ks,b,.inl e,eb,hs,rfl⟩,oz ks pr⟩
 | @d kvs k =>
  simp only[aJ,aB] at r;obtain⟨a,ob,l,e,h,rk⟩:=r;refine⟨a,_,e,.inl ⟨l,k,.inl (.inr ⟨ob,h⟩),oH ry,rfl⟩,?_⟩;have g:=oz (R:=λ d q=>aB K H d q) k (lI rk);cases q:eV kvs k with
  | none=>rw[q] at g;rw[OR.none_of g];exact True.intro
  | some z =>
   rw[q] at g;obtain⟨b,eb,rb⟩:=OR.some_of g;rw[eb];exact rb
def agQ(K:FG)(ty td:TE):TE:=λ σ H Q=>ty σ H λ y H1=>td σ H1 λ x H2=>∃ a o,x=.ref a/\ug K H2 a y o/\Q (.bl o.isSome) H2
theorem yt(hu:X.A.units+1<cLine)(hi:PE X i ty)(ho:PE X o td):PC X .In i o (agQ X.K ty td):=by intro pins s σ H Q I h;refine thn (hi pins s σ H _ I h) λ iv s1 ⟨y,H1,I1,ry,q1⟩=>thn (ho pins s1 σ H1 _ I1 q1) λ u s2 hq55=>?_;obtain⟨x,H2,I2,rx,a,ov,ex,g,q2⟩:=hq55;subst ex;obtain rfl:u=Value.ref a:=rx;exact ajW hu I2 g ry λ s3 I3=>⟨.bl ov.isSome,H2,I3,rfl,q2⟩
def adZ(K:FG)(td ty:TE):TE:=λ σ H Q=>td σ H λ x H1=>∃ a,x=.ref a/\IsD H1 a/\ty σ H1 λ y H2=>∃ o,ug K H2 a y o/\Q (o.getD .non) H2
def aeG(K:FG)(td ty tx:TE):TE:=λ σ H Q=>td σ H λ x H1=>∃ a,x=.ref a/\IsD H1 a/\ty σ H1 λ y H2=>tx σ H2 λ z H3=>∃ o,ug K H3 a y o/\Q (o.getD z) H3
theorem ya(hu:X.A.units+1<cLine)(ho:PE X o td)(he:PE X e ty)(m:M1 X o "get" apos e cpos):PE X (.Call (.Attribute o "get" apos) [e] [] cpos) (adZ X.K td ty):=by intro pins s σ H Q I h;refine wpAny_Call_method m.base m.few m.line PySem.F.plainAttrs_dict PySem.F.slot_dict_get PySem.F.type_dict_get (thn (ho pins s σ H _ I h) λ u s1 hq56=>?_);obtain⟨x,H1,I1,rx,a,ex,d,q1⟩:=hq56;subst ex;obtain rfl:u=Value.ref a:=rx;obtain⟨t1,t2,_⟩:=ac1 I1 d;refine⟨t1,t2,?_⟩;rw[m.trees];refine Calls.callWith_builtin rfl (Calls.evalArgs_plain (Calls.spliced_cons (thn (he pins s1 σ H1 _ I1 q1) λ iv s2 ⟨y,H2,I2,ry,ov,g,q2⟩=>Calls.spliced_nil ?_)));exact ad5 hu I2 g ry λ w' s3 I3 rw'=>⟨_,H2,I3,rw',q2⟩
theorem xB(hu:X.A.units+1<cLine)(ho:PE X o td)(he:PE X e ty)(hf:PE X f tx)(m:M2 X o "get" apos e f cpos):PE X (.Call (.Attribute o "get" apos) [e,f] [] cpos) (aeG X.K td ty tx):=by
 intro pins s σ H Q I h;refine wpAny_Call_method m.base m.few m.line PySem.F.plainAttrs_dict PySem.F.slot_dict_get PySem.F.type_dict_get (thn (ho pins s σ H _ I h) λ u s1 hq57=>?_);obtain⟨x,H1,I1,rx,a,ex,d,q1⟩:=hq57;subst ex;obtain rfl:u=Value.ref a:=rx;obtain⟨t1,t2,_⟩:=ac1 I1 d;refine⟨t1,t2,?_⟩;rw[m.trees];refine Calls.callWith_builtin rfl (Calls.evalArgs_plain (Calls.spliced_cons (thn (he pins s1 σ H1 _ I1 q1) λ iv s2 ⟨y,H2,I2,ry,q2⟩ =>
  Calls.spliced_cons (thn (hf pins s2 σ H2 _ I2 q2) λ fv s3 ⟨z,H3,I3,rz,ov,g,q3⟩=>Calls.spliced_nil ?_))))
 exact agp hu I3 g ry rz λ w' s4 I4 rw'=>⟨_,H3,I4,rw',q3⟩
def agV(td ty:TE):TE:=λ σ H Q=>td σ H λ x H1=>ty σ H1 λ y H2=>∃ a kvs k v,x=.ref a/\Rd2 H2 a (.dK kvs)/\y=kV k/\xv kvs k=some v/\Q v H2
theorem abc(hu:X.A.units+1<cLine)(ho:PE X o td)(hi:PE X i ty)(hs:ajC i):PE X (.Subscript o i pos) (agV td ty):=by intro pins s σ H Q I h;refine af8 PySem.F.slot_dict_getitem.lookup hs (thn (ho pins s σ H _ I h) λ u s1 ⟨x,H1,I1,rx,q1⟩=>thn (hi pins s1 σ H1 _ I1 q1) λ iv s2 hq58=>?_);obtain⟨y,H2,I2,ry,a,kvs,k,v,ex,g,ey,l,q2⟩:=hq58;subst ex ey;obtain rfl:u=Value.ref a:=rx;exact xw hu I2 g l ry λ w' s3 I3 rw'=>⟨v,H2,I3,rw',q2⟩
section
variable {X:Cx}{o i e f value:Expr}{es:List Expr}{pos pos' apos cpos:Pos}{td ti tx tv:TD}{t:TAd}
def pI(_:DS)(M:MH)(Q:QD):Prop:=∀ p,M p=none->Q (.m p) (aS M p (.dic []))
def ur(_:DS)(M:MH)(Q:QD):Prop:=∀ p,M p=none->Q (.m p) (aS M p (.dct []))
def aea(ti td:TD)(τ:DS)(M:MH)(Q:QD):Prop:=ti τ M λ y M1=>td τ M1 λ w M2=>∃ o,pR M2 w y o/\Q (.d (.bool o.isSome)) M2
theorem aaH{σ:St}{H:Hp}{Q:VK}(h:up X.K (aea ti td) σ H Q):agQ X.K (up X.K ti) (up X.K td) σ H Q:=by obtain⟨τ,M,Qd,A,h,k⟩:=h;refine⟨τ,M,_,A,h,λ y H1 wy M1 kp1 r1 m1 q1=>⟨τ,M1,_,A.go kp1 m1,q1,λ x H2 w M2 kp2 r2 m2 hq59=>?_⟩⟩;obtain⟨o,g,q2⟩:=hq59;obtain⟨a,p,e,g',ro⟩:=g.sound r2 (r1.keep kp2) m2;refine⟨a,p,e,g',?_⟩;rw[<- ro.isSome];exact k _ H2 (.d (.bool _)) M2 (kp1.trans kp2) (by simp[aJ,aB]) m2 q2
theorem agL(hu:X.A.units+1<cLine)(hi:PD X i ti)(ho:PD X o td)(hm:behindInMarks .In o=false:=by rfl):PD X (.Compare i [.In] [o] pos) (aea ti td):=fN (aiP (yt hu hi ho) hm) λ σ H Q h=>aaH h
theorem afe(hu:X.A.units+1<cLine)(hi:PD X i ti)(ho:PD X o td)(hm:behindInMarks .In o=false:=by rfl):PTd X (.Compare i [.In] [o] pos) (aT (aea ti td)):=ajn (ah9 (yt hu hi ho) hm) λ σ H Q h=>oU (λ σ H Q h=>aaH h) h
inductive aiw(M2:MH) (w y:W) (Q:QD):Prop
 | mk (a:Addr) (kvs:List (Key×W)) (k:Key) (v:W) (z0:w=.m a) (z1:M2 a=some (.dic kvs)\/M2 a=some (.fdic kvs)) (z2:y=kW k) (z3:eV kvs k=some v) (q:Q v M2):aiw M2 w y Q
def cA(td ti:TD)(τ:DS)(M:MH)(Q:QD):Prop:=td τ M λ w M1=>ti τ M1 λ y M2=>aiw M2 w y Q
theorem aez(hu:X.A.units+1<cLine)(ho:PD X o td)(hi:PD X i ti)(hs:ajC i:=by exact λ _ _=>rfl):PD X (.Subscript o i pos) (cA td ti):=fN (abc hu ho hi hs) λ σ H Q h=>by
 obtain⟨τ,M,Qd,A,h,k⟩:=h;refine⟨τ,M,_,A,h,λ x H1 w M1 kp1 r1 m1 q1=>⟨τ,M1,_,A.go kp1 m1,q1,λ y H2 wy M2 kp2 r2 m2 hq60=>?_⟩⟩;obtain⟨a,kvs,key,v,ew,hm,ey,hv,q2⟩:=hq60;subst ew ey;obtain⟨l,e,pr⟩:∃ l,Rd2 H2 a (.dK l)/\Paired (λ(p:Key×W) (q:Key×V)=>p.1=q.1/\aJ X.K H2 p.2 q.2) kvs l:=by
  rcases hm with hm | hm
  .obtain⟨l,e,pr⟩:=m2 _ _ hm;exact⟨l,.inl (.inl e),pr⟩
  .obtain⟨ob,l,e,pr⟩:=m2 _ _ hm;exact⟨l,.inr ⟨ob,e⟩,pr⟩
 have g:=oz key pr;rw[hv] at g;obtain⟨b,eb,rb⟩:=OR.some_of g;refine⟨a,l,key,b,r1,e,oH r2,eb,?_⟩;exact k _ H2 v M2 (kp1.trans kp2) rb m2 q2
def aeE(td ti:TD)(τ:DS)(M:MH)(Q:QD):Prop:=td τ M λ w M1=>DIs M1 w/\ti τ M1 λ y M2=>∃ o,pR M2 w y o/\Q (o.getD (.d .none)) M2
def yn(td ti tx:TD)(τ:DS)(M:MH)(Q:QD):Prop:=td τ M λ w M1=>DIs M1 w/\ti τ M1 λ y M2=>tx τ M2 λ z M3=>∃ o,pR M3 w y o/\Q (o.getD z) M3
theorem OR.getD{K:FG}{H:Hp}{o:Option W}{p:Option V}{z:W}{v:V}(h:OR (aJ K H) o p)(r:aJ K H z v):aJ K H (o.getD z) (p.getD v):=by
 cases o with
 | none=>rw[OR.none_of h];exact r
 | some a=>obtain⟨b,e,q⟩:=OR.some_of h;rw[e];exact q
theorem adY(hu:X.A.units+1<cLine)(ho:PD X o td)(he:PD X e ti)(m:M1 X o "get" apos e cpos:=by exact⟨rfl,rfl,rfl,rfl⟩):PD X (.Call (.Attribute o "get" apos) [e] [] cpos) (aeE td ti):=fN (ya hu ho he m) λ σ H Q h=>by obtain⟨τ,M,Qd,A,h,k⟩:=h;refine⟨τ,M,_,A,h,λ x H1 w M1 kp1 r1 m1 hq61=>?_⟩;obtain⟨di,q1⟩:=hq61;obtain⟨a,ea,isd⟩:=di.sound r1 m1;refine⟨a,ea,isd,τ,M1,_,A.go kp1 m1,q1,λ y H2 wy M2 kp2 r2 m2 hq62=>?_⟩;obtain⟨o,g,q2⟩:=hq62;obtain⟨a',p,e',g',ro⟩:=g.sound (r1.keep kp2) r2 m2;rw[ea] at e';cases e';exact⟨p,g',k _ H2 _ M2 (kp1.trans kp2) (ro.getD (v:=.non) (by simp[aJ,aB])) m2 q2⟩
theorem agl(hu:X.A.units+1<cLine)(ho:PD X o td)(he:PD X e ti)(hf:PD X f tx)(m:M2 X o "get" apos e f cpos:=by exact⟨rfl,rfl,rfl,rfl⟩):PD X (.Call (.Attribute o "get" apos) [e,f] [] cpos) (yn td ti tx):=fN (xB hu ho he hf m) λ σ H Q h=>by obtain⟨τ,M,Qd,A,h,k⟩:=h;refine⟨τ,M,_,A,h,λ x H1 w M1 kp1 r1 m1 hq63=>?_⟩;obtain⟨di,q1⟩:=hq63;obtain⟨a,ea,isd⟩:=di.sound r1 m1;refine⟨a,ea,isd,τ,M1,_,A.go kp1 m1,q1,λ y H2 wy M2 kp2 r2 m2 q2=>⟨τ,M2,_,A.go (kp1.trans kp2) m2,q2,λ z H3 wz M3 kp3 r3 m3 hq64=>?_⟩⟩;obtain⟨o,g,q3⟩:=hq64;obtain⟨a',p,e',g',ro⟩:=g.sound (r1.keep (kp2.trans kp3)) (r2.keep kp3) m3;rw[ea] at e';cases e';exact⟨p,g',k _ H3 _ M3 ((kp1.trans kp2).trans kp3) (ro.getD r3) m3 q3⟩
def pF(td ti tv:TD)(D:Ed)(τ:DS)(M:MH):Prop:=tv τ M λ v M1=>td τ M1 λ w M2=>ti τ M2 λ y M3=>∃ a kvs k,w=.m a/\M3 a=some (.dic kvs)/\y=kW k/\kvs.length<sizeLine/\D.nx τ (aS M3 a (.dic (kG kvs k v)))
theorem acg(hu:X.A.units+1<cLine)(ho:PD X o td)(hi:PD X i ti)(hv:PD X value tv)(hs:swapsWith value (some (.Subscript o i pos')) pos.line X.env=pure false:=by rfl) :
  PSd X (.Assign [.Subscript o i pos'] value pos) (pF td ti tv):=qU (aae hu ho hi hv hs) λ D σ H h=>by
 obtain⟨τ,M,Dd,A,h,k1,_⟩:=h;refine⟨τ,M,_,A,h,λ v H1 wv M1 kp1 r1 m1 q1=>⟨τ,M1,_,A.go kp1 m1,q1,λ x H2 w M2 kp2 r2 m2 q2=>⟨τ,M2,_,A.go (kp1.trans kp2) m2,q2,λ y H3 wy M3 kp3 r3 m3 hq65=>?_⟩⟩⟩;obtain⟨a,kvs,key,ew,hm,ey,hl,q3⟩:=hq65;subst ew ey;obtain⟨l,e,pr⟩:=m3 _ _ hm;have kp4:Kp H3 (upd H3 a (.dK (putK l key v))):=Kp.set e (λ _ z=>nomatch z) (λ _ _ z=>nomatch z);refine⟨a,_,r2,.inl ⟨l,key,e,oH r3,by rw[<- vT pr];exact hl,rfl⟩,?_⟩;have rv:aJ X.K H3 wv v:=(r1.keep kp2).keep kp3;refine k1 _ _ _ _ (((kp1.trans kp2).trans kp3).trans kp4) (A.go (((kp1.trans kp2).trans kp3).trans kp4) (m3.put (mo:=.dic (kG kvs key wv)) kp4 ⟨_,aj,?_⟩)) q3;exact Paired.fD (yY key rv pr) λ p q z=>⟨z.1,z.2.keep kp4⟩
def qL(td:TD)(t:TAd)(tv:TD)(D:Ed)(τ:DS)(M:MH):Prop:=tv τ M λ v M1=>td τ M1 λ w M2=>t τ M2 λ ws M3=>∃ a kvs ks,w=.m a/\M3 a=some (.dct kvs)/\ws=ks.map kW/\kvs.length<sizeLine/\ks.length<=sizeLine/\D.nx τ (aS M3 a (.dct (kG kvs ks v)))
theorem aaJ(hu:X.A.units+1<cLine)(ho:PD X o td)(hi:PAd X es t)(hv:PD X value tv)(hs:swapsWith value (some (.Subscript o (.Tuple es x1 p2) pos')) pos.line X.env=pure false:=by rfl) :
  PSd X (.Assign [.Subscript o (.Tuple es x1 p2) pos'] value pos) (qL td t tv):=qU (aae hu ho (uC hi) hv hs) λ D σ H h=>by
 obtain⟨τ,M,Dd,A,h,k1,_⟩:=h;refine⟨τ,M,_,A,h,λ v H1 wv M1 kp1 r1 m1 q1=>⟨τ,M1,_,A.go kp1 m1,q1,λ x H2 w M2 kp2 r2 m2 q2=>⟨τ,M2,_,A.go (kp1.trans kp2) m2,q2,λ vs H3 ws M3 kp3 r3 m3 hq66=>?_⟩⟩⟩;obtain⟨a,kvs,ks,ew,hm,ey,hl,hk,q3⟩:=hq66;subst ew ey;have evs:=aj3 r3;subst evs;refine⟨by simpa using hk,λ p hp=>?_⟩;have kp5:Kp H3 (upd H3 p (.tup (ks.map kV))):=Kp.new hp;have m5:=m3.new (o:=.tup (ks.map kV)) hp;obtain⟨l,e,pr⟩:=m5 _ _ hm;have kp4:Kp (upd H3 p (.tup (ks.map kV))) (upd (upd H3 p (.tup (ks.map kV))) a (.dT (putK l ks v))):=Kp.set e (λ _ z=>nomatch z) (λ _ _ z=>nomatch z);refine⟨a,_,r2,.inr ⟨l,ks,p,e,rfl,aj,by rw[<- vT pr];exact hl,rfl⟩,?_⟩;have rv:aJ X.K (upd H3 p (.tup (ks.map kV))) wv v:=((r1.keep kp2).keep kp3).keep kp5;have kk:=(((kp1.trans kp2).trans kp3).trans kp5).trans kp4;refine k1 _ _ _ _ kk (A.go kk (m5.put (mo:=.dct (kG kvs ks wv)) kp4 ⟨_,aj,?_⟩)) q3;exact Paired.fD (yY ks rv pr) λ p q z=>⟨z.1,z.2.keep kp4⟩
end
def vB(f:Str)(v:W):List (Str×W)->List (Str×W)
 | []=>[(f,v)]
 | (g,x)::r=>if g=f then (g,v)::r else (g,x)::vB f v r
abbrev aa9(K:FG)(H:Hp):List (Str×W)->List (Str×V)->Prop:=Paired (λ(p:Str×W) (q:Str×V)=>p.1=q.1/\aJ K H p.2 q.2)
theorem gf{K:FG}{H:Hp}(f:Str):∀ {fs:List (Str×W)} {l:List (Str×V)},aa9 K H fs l->OR (aJ K H) (fs.lookup f) (l.lookup f)
 | _,_,.nil=>True.intro
 | _,_,.cons (a:=p) (b:=q) (l₁:=t1) (l₂:=t2) h t=>by
  obtain⟨pk,pv⟩:=p;obtain⟨qk,qv⟩:=q;obtain⟨h1,h2⟩:=h;have h1':pk=qk:=h1;subst h1';rw[List.lookup_cons,List.lookup_cons];cases e:(f==pk) with
  | true=>exact h2
  | false=>exact gf f t
theorem xQ{K:FG}{H:Hp}(f:Str){w:W}{v:V}(r:aJ K H w v):∀ {fs:List (Str×W)} {l:List (Str×V)},aa9 K H fs l->aa9 K H (vB f w fs) (ni f v l)
 | _,_,.nil=>.cons ⟨rfl,r⟩ .nil
 | _,_,.cons (a:=p) (b:=q) (l₁:=t1) (l₂:=t2) h t=>by
  obtain⟨pk,pv⟩:=p;obtain⟨qk,qv⟩:=q;obtain⟨h1,h2⟩:=h;have h1':pk=qk:=h1;subst h1';show aa9 K H (if pk=f then (pk,w)::t1 else (pk,pv)::vB f w t1) (if pk=f then (pk,v)::t2 else (pk,qv)::ni f v t2)
  by_cases e:pk=f
  .rw[if_pos e,if_pos e];exact .cons ⟨rfl,r⟩ t
  .rw[if_neg e,if_neg e];exact .cons ⟨rfl,h2⟩ (xQ f r t)
theorem xG{K:FG}{H:Hp}:∀ {fs:List (Str×W)} {l:List (Str×V)},aa9 K H fs l->fs.length=l.length
 | _,_,.nil=>rfl
 | _,_,.cons _ t=>by simp[xG t]
theorem aa9.keep{K:FG}{H H':Hp}(kp:Kp H H'){fs:List (Str×W)}{l:List (Str×V)}(h:aa9 K H fs l):aa9 K H' fs l:=Paired.fD h λ p q z=>⟨z.1,z.2.keep kp⟩
section
variable {X:Cx}{C f:Addr}{o e value:Expr}{es:List Expr}{fn m x:Str}{pos pos' apos p:Pos}{td tv te:TD}{t:TAd}{k:Nat}{fd:FuncData}{ps:List Str}{sp:SpD}
inductive ak2(C:Addr) (fn:Str) (M1:MH) (w:W) (Q:QD):Prop
 | mk (a:Addr) (fs:List (Str×W)) (v:W) (z0:w=.m a) (z1:M1 a=some (.ins C fs)) (z2:fs.lookup fn=some v) (q:Q v M1):ak2 C fn M1 w Q
def ft(C:Addr)(td:TD)(fn:Str)(τ:DS)(M:MH)(Q:QD):Prop:=td τ M λ w M1=>ak2 C fn M1 w Q
theorem ah5(c:Cls X.K C)(n:cf X.K C fn)(he:PD X e td)(hb:attributeBase e fn X.env (eval e X.env)=eval e X.env:=by rfl):PD X (.Attribute e fn pos) (ft C td fn):=fN (ahV he hb) λ σ H Q h=>by obtain⟨τ,M,Qd,A,h,k⟩:=h;refine⟨τ,M,_,A,h,λ x H1 w M1 kp1 r1 m1 hq67=>?_⟩;obtain⟨a,fs,v,ew,hm,hl,q⟩:=hq67;subst ew;obtain⟨dx,l,e,pr⟩:=m1 _ _ hm;have g:=gf fn pr;rw[hl] at g;obtain⟨b,eb,rb⟩:=OR.some_of g;exact⟨a,C,dx,l,b,r1,e,c,n,eb,k _ H1 v M1 kp1 rb m1 q⟩
def bA(C:Addr)(td tv:TD)(fn:Str)(D:Ed)(τ:DS)(M:MH):Prop:=tv τ M λ v M1=>td τ M1 λ w M2=>∃ a fs,w=.m a/\M2 a=some (.ins C fs)/\fs.length<1000/\D.nx τ (aS M2 a (.ins C (vB fn v fs)))
theorem adG(c:Cls X.K C)(n:cf X.K C fn)(ha:PD X o td)(hv:PD X value tv)(hs:swapsWith value (some (.Attribute o fn pos')) pos.line X.env=pure false:=by rfl):PSd X (.Assign [.Attribute o fn pos'] value pos) (bA C td tv fn):=qU (aht ha hv hs) λ D σ H h=>by obtain⟨τ,M,Dd,A,h,k1,_⟩:=h;refine⟨τ,M,_,A,h,λ v H1 wv M1 kp1 r1 m1 q1=>⟨τ,M1,_,A.go kp1 m1,q1,λ x H2 w M2 kp2 r2 m2 hq68=>?_⟩⟩;obtain⟨a,fs,ew,hm,hl,q2⟩:=hq68;subst ew;obtain⟨dx,l,e,pr⟩:=m2 _ _ hm;have kp4:Kp H2 (upd H2 a (.ins C dx (ni fn v l))):=Kp.set e (λ _ z=>nomatch z) (λ _ _ z=>nomatch z);refine⟨a,C,dx,l,r2,e,c,n,by rw[<- xG pr];exact hl,?_⟩;refine k1 _ _ _ _ ((kp1.trans kp2).trans kp4) (A.go ((kp1.trans kp2).trans kp4) (m2.put (mo:=.ins C (vB fn wv fs)) kp4 ⟨dx,_,aj,?_⟩)) q2;exact aa9.keep kp4 (xQ fn (r1.keep kp2) pr)
inductive ahZ(C:Addr) (m:Str) (M1:MH) (w:W) (q:Prop):Prop
 | mk (a:Addr) (fs:List (Str×W)) (z0:w=.m a) (z1:M1 a=some (.ins C fs)) (z2:fs.lookup m=none) (z3:q):ahZ C m M1 w q
def bj(C:Addr)(m:Str)(sp:SpD)(td:TD)(t:TAd)(τ:DS)(M:MH)(Q:QD):Prop:=td τ M λ w M1=>ahZ C m M1 w (t τ M1 λ ws M2=>sp (w::ws) M2 Q)
theorem acJ{σ:St}{H:Hp}{Q:VK}(h:up X.K (bj C m sp td t) σ H Q):agc C m (cz X.K sp) [] E0 (up X.K td) (upA X.K t) σ H Q:=by obtain⟨τ,M,Qd,A,h,k⟩:=h;refine⟨τ,M,_,A,h,λ x H1 w M1 kp1 r1 m1 hq69=>?_⟩;obtain⟨a,fs,ew,hm,hl,q1⟩:=hq69;subst ew;obtain⟨dx,l,e,pr⟩:=m1 _ _ hm;have g:=gf m pr;rw[hl] at g;refine⟨a,dx,l,r1,e,OR.none_of g,τ,M1,_,A.go kp1 m1,q1,λ vs H2 ws M2 kp2 r2 m2 q2=>?_⟩;exact⟨.m a::ws,M2,Qd,by rw[List.append_nil];exact .cons r1 r2,m2,q2,kgo (kgo k kp1) kp2⟩
theorem afX(he:PD X o td)(c:Cls X.K C)(hm:Meth X.K C m f)(F:ck X.prog X.w X.K X.mg X.base CX0 k f fd ps (cz X.K sp))(hr:cI k X.A)(hb:Binds X.K fd ps [])(ha:PAd X (e::es) t)
  (ht:eval (.Call (.Attribute o m apos) (e::es) [] pos) X.env=(do
   let ov <- eval o X.env
   standAt apos.atName
   let (f,first) <- holding [ov] (getMethod ov m pl)
   callWith pos f first (backTo pos (starEach (e::es) X.env)) (backToKw pos (keywordEach [] X.env))):=by rfl)
  (h1:gZ e=false:=by rfl)(h2:(es.all λ e=>!gZ e)=true:=by rfl):PD X (.Call (.Attribute o m apos) (e::es) [] pos) (bj C m sp td t):=
 fN (ae6 (E:=E0) (dvs:=[]) he c hm F hr hb .nil zM ha (dY e es X.env h1) (fm pos X.env es h2) ht) λ σ H Q h=>acJ h
theorem abY{pl:Sem Bool}(he:PD X o td)(c:Cls X.K C)(hm:Meth X.K C m f)(F:ck X.prog X.w X.K X.mg X.base CX0 k f fd ps (cz X.K sp))(hr:cI k X.A)(hb:Binds X.K fd ps [])
  (ht:eval (.Call (.Attribute o m apos) [] [] pos) X.env=(do
   let ov <- eval o X.env
   standAt apos.atName
   let (f,first) <- holding [ov] (getMethod ov m pl)
   callWith pos f first (backTo pos (starEach [] X.env)) (backToKw pos (keywordEach [] X.env))):=by rfl):PD X (.Call (.Attribute o m apos) [] [] pos) (bj C m sp td ay):=
 fN (acw (E:=E0) (dvs:=[]) he c hm F hr hb .nil zM ht) λ σ H Q h=>by obtain⟨τ,M,Qd,A,h,k⟩:=h;refine⟨τ,M,_,A,h,λ x H1 w M1 kp1 r1 m1 hq70=>?_⟩;obtain⟨a,fs,ew,hm,hl,q1⟩:=hq70;subst ew;obtain⟨dx,l,e,pr⟩:=m1 _ _ hm;have g:=gf m pr;rw[hl] at g;exact⟨a,dx,l,r1,e,OR.none_of g,.m a::[],M1,Qd,.cons r1 .nil,m1,q1,kgo k kp1⟩
def fZ(C:Addr)(sp:SpD)(t:TAd)(τ:DS)(M:MH)(Q:QD):Prop:=t τ M λ ws M1=>∀ a,M1 a=none->sp (.m a::ws) (aS M1 a (.ins C [])) (λ v M2=>v=.d .none/\Q (.m a) M2)
theorem uB{H1:Hp}{M1:MH}{a dx:Addr}(m1:cB X.K H1 M1)(ha:H1 a=none)(hd:H1 dx=none)(hn:dx≠a):Kp H1 (upd (upd H1 dx (.own a)) a (.ins C dx []))/\cB X.K (upd (upd H1 dx (.own a)) a (.ins C dx [])) (aS M1 a (.ins C [])):=by
 have k1:Kp H1 (upd H1 dx (.own a)):=Kp.new hd;have ha2:(upd H1 dx (.own a)) a=none:=by rw[ai (Ne.symm hn)];exact ha
 have k2:Kp (upd H1 dx (.own a)) (upd (upd H1 dx (.own a)) a (.ins C dx [])):=Kp.new ha2;exact⟨k1.trans k2,(m1.new hd).put (mo:=.ins C []) k2 ⟨dx,[],aj,.nil⟩⟩
theorem aev(Mk':Mk X.K C f)(F:ck X.prog X.w X.K X.mg X.base CX0 k f fd ps (cz X.K sp))(hr:cI (k+1) X.A)(hg:Gl X x)(hm:X.mg x=some (.ref C))(hb:Binds X.K fd ps [])(ha:PAd X (e::es) t)(hdb:ND x:=by decide)
  (h1:gZ e=false:=by rfl)(h2:(es.all λ e=>!gZ e)=true:=by rfl):PD X (.Call (.Name x p) (e::es) [] pos) (fZ C sp t):=
 fN (afa (E:=E0) (dvs:=[]) Mk' F hr hg hm hb .nil zM ha hdb (dY e es X.env h1) (fm pos X.env es h2)) λ σ H Q h=>by
  obtain⟨τ,M,Qd,A,h,k⟩:=h;refine⟨τ,M,_,A,h,λ vs H1 ws M1 kp1 r1 m1 q1 a dx ha hd hn=>?_⟩;obtain⟨kp2,m2⟩:=uB (X:=X) (C:=C) m1 ha hd hn;exact⟨.m a::ws,_,_,by rw[List.append_nil];exact .cons rfl (r1.keep kp2),m2,q1 a (m1.free ha),λ v H' w M' kp3 r3 m3 hq71=>by obtain⟨e3,q3⟩:=hq71;subst e3;simp only[aJ,aB] at r3;exact⟨r3,k _ H' (.m a) M' ((kp1.trans kp2).trans kp3) rfl m3 q3⟩⟩
end
def sG(M:MH)(a:Addr):MH:=λ b=>if b=a then none else M b
theorem ags(h:b≠a):sG M a b=M b:=if_neg h
theorem cB.del{K:FG}{H:Hp}{M:MH}{a:Addr}{o:HO}(m:cB K H M)(kp:Kp H (upd H a o)):cB K (upd H a o) (sG M a):=λ b mo hm=>by
 by_cases e:b=a
 .subst e;simp[sG] at hm
 .rw[ags e] at hm;exact(m b mo hm).keep kp λ u z=>by rw[ai e];exact z
def ak6(R:W->MH->Prop)(ws:List W)(M:MH):Prop:=match ws with
 | [y]=>R y M
 | _=>False
theorem aft(h:ak6 R ws M):∃ y,ws=[y]/\R y M:=by
 match ws,h with
 | [y],h=>exact⟨y,rfl,h⟩
def mV(td:TD)(τ:DS)(M:MH)(Q:QD):Prop:=td τ M λ w M1=>∃ a ds,w=.m a/\M1 a=some (.lst (ds.map W.d))/\Q (.d (.list ds)) (sG M1 a)
theorem agn(h:PD X e td):PD X e (mV td):=fN (vb h) λ σ H Q h=>by obtain⟨τ,M,Qd,A,h,k⟩:=h;refine⟨τ,M,_,A,h,λ x H1 w M1 kp1 r1 m1 hq73=>?_⟩;obtain⟨a,ds,ew,hm,q⟩:=hq73;subst ew;obtain⟨vs,e,ra⟩:=m1 _ _ hm;refine⟨a,_,r1,e,trivial,λ ob=>?_⟩;have kp2:Kp H1 (upd H1 a (.frz ob (.lst vs))):=Kp.set e (λ _ z=>nomatch z) (λ _ _ z=>nomatch z);refine k _ _ (.d (.list ds)) (sG M1 a) (kp1.trans kp2) ?_ (m1.del kp2) q;simp only[aJ,aB];exact⟨a,vs,r1,.inl ⟨ob,aj⟩,ra.data.keep kp2⟩
def lC(td te:TD)(τ:DS)(M:MH)(Q:QD):Prop:=td τ M λ w M1=>∃ a ws,w=.m a/\M1 a=some (.lst ws)/\te τ M1 λ y M2=>∃ ws',M2 a=some (.lst ws')/\ws'.length<sizeLine/\Q (.d .none) (aS M2 a (.lst (ws'++[y])))
theorem aam(ho:PD X o td)(he:PD X e te)
  (hbase:attributeBase o "append" X.env (eval o X.env)=eval o X.env:=by rfl)
  (hfew:((backTo cpos (starEach [e] X.env)).all (λ x=>!x.1)&&(backToKw cpos (keywordEach [] X.env)).all (λ x=>x.1.isSome)
   && decide (([e]:List Expr).length+([]:List Keyword).length+(if ([]:List Keyword).isEmpty then 0 else 1)<30))=true:=by rfl)
  (hline:(apos.endLine==cpos.line)=true:=by rfl)(hs:gZ e=false:=by rfl):PD X (.Call (.Attribute o "append" apos) [e] [] cpos) (lC td te):=
 fN (ajG PySem.F.plainAttrs_list PySem.F.slot_list_append PySem.F.type_list_append zC ho (pac he xI hs) hbase hfew hline (dY e [] X.env hs) rfl) λ σ H Q h=>by obtain⟨τ,M,Qd,A,h,k⟩:=h;refine⟨τ,M,_,A,h,λ x H1 w M1 kp1 r1 m1 hq74=>?_⟩;obtain⟨a,ws,ew,hm,q1⟩:=hq74;subst ew;obtain⟨vs,ea,ra⟩:=m1 _ _ hm;have r1':x=.ref a:=r1;subst r1';refine⟨.inl ⟨rfl,vs,.inl (.inl ea)⟩,τ,M1,ak6 (λ y M2=>∃ ws',M2 a=some (.lst ws')/\ws'.length<sizeLine/\Qd (.d .none) (aS M2 a (.lst (ws'++[y])))),A.go kp1 m1,q1,λ ys H2 wys M2 kp2 r2 m2 q2=>?_⟩;obtain⟨y,ey,ws',hm2,hl,q4⟩:=aft q2;subst ey;obtain⟨v,ev,rv⟩:=fJ r2;subst ev;obtain⟨vs2,ea2,ra2⟩:=m2 _ _ hm2;have kp4:Kp H2 (upd H2 a (.lst (vs2++[v]))):=Kp.set ea2 (λ _ z=>nomatch z) (λ _ _ z=>nomatch z);refine⟨a,vs2,v,rfl,rfl,ea2,by rw[<- ra2.length];exact hl,?_⟩;exact k _ _ (.d .none) _ ((kp1.trans kp2).trans kp4) (by simp[aJ,aB]) (m2.put (mo:=.lst (ws'++[y])) kp4 ⟨_,aj,(bh.append ra2 (.cons rv .nil)).keep kp4⟩) q4
def sH(K:FG)(H:Hp)(d:PyData)(x:V):Prop:=aB K H d x\/∃ a vs ds,d=.list ds/\x=.ref a/\H a=some (.lst vs)/\aX K H ds vs
inductive aa4(M:MH):W->PyData->Prop
 | d {x:PyData}:aa4 M (.d x) x
 | l {a:Addr} {ds:List PyData} (h:M a=some (.lst (ds.map W.d))):aa4 M (.m a) (.list ds)
theorem aa4.sound{K:FG}{H:Hp}{M:MH}{w:W}{d:PyData}{x:V}(g:aa4 M w d)(r:aJ K H w x)(m:cB K H M):sH K H d x:=by
 cases g with
 | d=>exact .inl r
 | l h =>
  obtain⟨vs,e,ra⟩:=m _ _ h;exact .inr ⟨_,vs,_,rfl,r,e,ra.data⟩
theorem ak7(I:Inv X pins σ H s)(h:sH X.K H d x):∃ H',Inv X pins σ H' s/\aB X.K H' d x:=by
 rcases h with h | ⟨a,vs,ds,rfl,rfl,e,ra⟩
 .exact⟨H,I,h⟩
 .obtain⟨o,I2⟩:=I.freeze e trivial;have kp:Kp H (upd H a (.frz o (.lst vs))):=Kp.set e (λ _ z=>nomatch z) (λ _ _ z=>nomatch z);refine⟨_,I2,?_⟩;simp only[aB];exact⟨a,vs,rfl,.inl ⟨o,aj⟩,ra.keep kp⟩
theorem i9(I:Inv X pins σ H s)(d:PyData)(h:sH X.K H d x)(r:RelV x u)(hd:d.hasDict=false):∃ as,Reads s.heap u d as:=by obtain⟨H',I',h'⟩:=ak7 I h;exact fB I' d h' r hd
theorem sT(I:Inv X pins σ H s)(h:sH X.K H d x)(r:RelV x u)(ok:dE d=true):∃ as,Reads s.heap u d as/\(d.hasDict=true->sysModules ∉ as):=by obtain⟨H',I',h'⟩:=ak7 I h;exact vW I' h' r ok
theorem wL(hr:j5 k X.A):dr X (.builtin "repr") (λ xs H Q=>∃ x d,xs=[x]/\sH X.K H d x/\dE d=true/\Q (.str d.shown) H):=by
 intro pins s σ H xs us Q I r h;obtain⟨x,d,rfl,rd,ok,q⟩:=h;obtain⟨u,rfl,rx⟩:=vals1 r;obtain⟨as,rr,hsm⟩:=sT I rd rx ok;have ok':=ok;simp only[dE,ae00,decide_eq_true_eq] at ok';obtain⟨⟨⟨hs,hz⟩,hd⟩,_⟩:=ok';have hu:=hr.units;cases rr with
 | none=>exact PySem.P.repr_of_none ⟨.str _,H,I.tok _,⟨_,rfl⟩,by simpa [PyData.shown] using q⟩
 | bool b=>exact PySem.P.repr_of_bool ⟨.str _,H,I.tok _,⟨_,rfl⟩,by simpa [PyData.shown] using q⟩
 | int i t =>
  refine PySem.P.repr_of_int (by simpa [PyData.showable] using hs) ⟨.str _,H,I.tok _,⟨_,rfl⟩,?_⟩;rw[PyData.shown] at q;exact q
 | str i t =>
  refine PySem.P.repr_of_str ⟨.str _,H,I.tok _,⟨_,rfl⟩,?_⟩ (by simpa [PyData.shown] using hz);rw[PyData.shown] at q;exact q
 | list e1 e2 e3 e4=>exact repr_of_reads' (.list e1 e2 e3 e4) hs hsm hr.gd (by omega) (λ _ _ z=>z) (λ h' u tk hk=>⟨.str _,H,I.kept hk,⟨_,rfl⟩,q⟩) hz
 | tuple e1 e2 e3 e4=>exact repr_of_reads' (.tuple e1 e2 e3 e4) hs hsm hr.gd (by omega) (λ _ _ z=>z) (λ h' u tk hk=>⟨.str _,H,I.kept hk,⟨_,rfl⟩,q⟩) hz
 | dict e1 e2 e3 e4 e5=>exact repr_of_reads' (.dict e1 e2 e3 e4 e5) hs hsm hr.gd (by omega) (λ _ _ z=>z) (λ h' u tk hk=>⟨.str _,H,I.kept hk,⟨_,rfl⟩,q⟩) hz
theorem ag7(hr:j5 k X.A):OpR X (compareOp .Eq) (λ x y H Q=>∃ d d',sH X.K H d x/\sH X.K H d' y/\gG d d'=true/\Q (.bl (PyData.eqv d d')) H):=by
 intro pins s σ H x y v u Q I rx ry h;obtain⟨d,d',h1,h2,o,q⟩:=h;rcases eZ o with ⟨a,b,e1,e2⟩ | ⟨o1,o2⟩
 .subst e1;subst e2;rcases h1 with h1 | ⟨_,_,_,z,_⟩
  .rcases h2 with h2 | ⟨_,_,_,z,_⟩
   .exact adC hr pins s σ H x y v u Q I rx ry ⟨_,_,h1,h2,o,q⟩
   .cases z
  .cases z
 simp only[acX,ae00,Bool.not_eq_true'] at o1 o2;obtain⟨as,r1⟩:=i9 I d h1 rx o1.2;obtain⟨bs,r2⟩:=i9 I d' h2 ry o2.2;exact eq_dataH r1 r2 o1.1 o2.1 hr.units ⟨.bl _,H,I,rfl,q⟩
theorem agP(hr:j5 k X.A):OpR X (compareOp .NotEq) (λ x y H Q=>∃ d d',sH X.K H d x/\sH X.K H d' y/\gG d d'=true/\Q (.bl (!PyData.eqv d d')) H):=by
 intro pins s σ H x y v u Q I rx ry h;obtain⟨d,d',h1,h2,o,q⟩:=h;rcases eZ o with ⟨a,b,e1,e2⟩ | ⟨o1,o2⟩
 .subst e1;subst e2;rcases h1 with h1 | ⟨_,_,_,z,_⟩
  .rcases h2 with h2 | ⟨_,_,_,z,_⟩
   .exact aid hr pins s σ H x y v u Q I rx ry ⟨_,_,h1,h2,o,q⟩
   .cases z
  .cases z
 simp only[acX,ae00,Bool.not_eq_true'] at o1 o2;obtain⟨as,r1⟩:=i9 I d h1 rx o1.2;obtain⟨bs,r2⟩:=i9 I d' h2 ry o2.2;exact ne_dataH r1 r2 o1.1 o2.1 hr.units ⟨.bl _,H,I,rfl,q⟩
section
variable {X:Cx}{K:FG}
def fL(w w':W)(M:MH)(Q:QD):Prop:=∃ d d',aa4 M w d/\aa4 M w' d'/\gG d d'=true/\Q (.d (.bool (PyData.eqv d d'))) M
def qm(w w':W)(M:MH)(Q:QD):Prop:=∃ d d',aa4 M w d/\aa4 M w' d'/\gG d d'=true/\Q (.d (.bool (!PyData.eqv d d'))) M
theorem agk:OpD K (λ x y H Q=>∃ d d',sH K H d x/\sH K H d' y/\gG d d'=true/\Q (.bl (PyData.eqv d d')) H) fL:=by intro x y H w w' M Qd Q r1 r2 m ⟨d,d',g1,g2,o1,q⟩ k;exact⟨d,d',g1.sound r1 m,g2.sound r2 m,o1,k _ H (.d (.bool _)) M (Kp.refl H) (by simp[aJ,aB]) m q⟩
theorem adL:OpD K (λ x y H Q=>∃ d d',sH K H d x/\sH K H d' y/\gG d d'=true/\Q (.bl (!PyData.eqv d d')) H) qm:=by intro x y H w w' M Qd Q r1 r2 m ⟨d,d',g1,g2,o1,q⟩ k;exact⟨d,d',g1.sound r1 m,g2.sound r2 m,o1,k _ H (.d (.bool _)) M (Kp.refl H) (by simp[aJ,aB]) m q⟩
def fu(ws:List W)(M:MH)(Q:QD):Prop:=∃ w d,ws=[w]/\aa4 M w d/\dE d=true/\Q (.d (.str d.shown)) M
theorem acm:eK K (λ xs H Q=>∃ x d,xs=[x]/\sH K H d x/\dE d=true/\Q (.str d.shown) H) fu:=by intro vs H ws M Qd Q r m ⟨w,d,e,g,ok,q⟩ k;subst e;obtain⟨v,e1,r1⟩:=fJ r;exact⟨v,d,e1,g.sound r1 m,ok,k _ H (.d (.str _)) M (Kp.refl H) (by simp[aJ,aB]) m q⟩
inductive aeo(M:MH):W->List W->Prop
 | l {ds:List PyData}:aeo M (.d (.list ds)) (ds.map W.d)
 | t {ds:List PyData}:aeo M (.d (.tuple ds)) (ds.map W.d)
 | m {a:Addr} {ws:List W} (h:M a=some (.lst ws)):aeo M (.m a) ws
theorem aeo.sound(g:aeo M w ws)(r:aJ K H w x)(m:cB K H M):∃ p ys,x=.ref p/\(SqL K H p ys\/SqT K H p ys)/\bh K H ws ys:=by
 cases g with
 | l =>
  simp only[aJ,aB] at r;obtain⟨a,vs,e,hs,ra⟩:=r;exact⟨a,vs,e,.inl hs.sq,ra.ws⟩
 | t =>
  simp only[aJ,aB] at r;obtain⟨a,vs,e,hs,ra⟩:=r;exact⟨a,vs,e,.inr hs,ra.ws⟩
 | m h =>
  obtain⟨vs,e,ra⟩:=m _ _ h;exact⟨_,vs,r,.inl (.inl (.inl e)),ra⟩
def eX(ws:List W)(M:MH)(Q:QD):Prop:=∃ w xs,ws=[w]/\aeo M w xs/\∀ p,M p=none->Q (.m p) (aS M p (.lst xs))
theorem rW:eK K (λ xs H Q=>∃ p ys,xs=[.ref p]/\(SqL K H p ys\/SqT K H p ys)/\∀ l,H l=none->Q (.ref l) (upd H l (.lst ys))) eX:=by intro vs H ws M Qd Q r m ⟨w,xs,e,g,q⟩ k;subst e;obtain⟨v,e1,r1⟩:=fJ r;obtain⟨p,ys,ev,hs,rs⟩:=g.sound r1 m;subst ev;refine⟨p,ys,e1,hs,λ l hl=>?_⟩;have kp:Kp H (upd H l (.lst ys)):=Kp.new hl;exact k _ _ (.m l) _ kp rfl (m.put (mo:=.lst xs) kp ⟨ys,aj,rs.keep kp⟩) (q l (m.free hl))
def lR(ws:List W)(M:MH)(Q:QD):Prop:=∃ w ds,ws=[w]/\aeo M w (ds.map W.d)/\Q (.d (.tuple ds)) M
theorem wZ:eK K (λ xs H Q=>∃ p ys,xs=[.ref p]/\((SqL K H p ys/\∀ l,H l=none->Q (.ref l) (upd H l (.tup ys)))\/(SqT K H p ys/\Q (.ref p) H))) lR:=by
 intro vs H ws M Qd Q r m ⟨w,ds,e,g,q⟩ k;subst e;obtain⟨v,e1,r1⟩:=fJ r;obtain⟨p,ys,ev,hs,rs⟩:=g.sound r1 m;subst ev;rcases hs with hs | hs
 .refine⟨p,ys,e1,.inl ⟨hs,λ l hl=>?_⟩⟩;have kp:Kp H (upd H l (.tup ys)):=Kp.new hl;refine k _ _ (.d (.tuple ds)) M kp ?_ (m.new hl) q;simp only[aJ,aB];exact⟨l,ys,rfl,.inl (.inl aj),rs.data.keep kp⟩
 .refine⟨p,ys,e1,.inr ⟨hs,?_⟩⟩;refine k _ _ (.d (.tuple ds)) M (Kp.refl H) ?_ m q;simp only[aJ,aB];exact⟨p,ys,rfl,hs,rs.data⟩
def agf(ws:List W)(M:MH)(Q:QD):Prop:=(∃ i,ws=[.d (.int i)]/\Q (.d (.int i)) M)\/∃ b,ws=[.d (.bool b)]/\Q (.d (.int (if b then 1 else 0))) M
theorem agY:eK K (λ xs H Q=>(∃ i,xs=[.int i]/\Q (.int i) H)\/∃ k,xs=[.bl k]/\Q (.int (if k then 1 else 0)) H) agf:=by
 intro vs H ws M Qd Q r m h k;rcases h with ⟨i,e,q⟩ | ⟨b,e,q⟩
 .subst e;obtain⟨v,e1,r1⟩:=fJ r;simp only[aJ,aB] at r1;subst r1;exact .inl ⟨i,e1,k _ H (.d (.int i)) M (Kp.refl H) (by simp[aJ,aB]) m q⟩
 .subst e;obtain⟨v,e1,r1⟩:=fJ r;simp only[aJ,aB] at r1;subst r1;exact .inr ⟨b,e1,k _ H (.d (.int _)) M (Kp.refl H) (by simp[aJ,aB]) m q⟩
def aac(ws:List W)(M:MH)(Q:QD):Prop:=∃ i j,ws=[.d (.int i),.d (.int j)]/\Q (.d (.int (if j > i then j else i))) M
theorem adT:eK K (λ xs H Q=>∃ i j,xs=[V.int i,V.int j]/\Q (V.int (if j > i then j else i)) H) aac:=by intro vs H ws M Qd Q r m ⟨i,j,e,q⟩ k;subst e;obtain⟨v,v',e1,r1,r2⟩:=zp r;simp only[aJ,aB] at r1 r2;subst r1 r2;exact⟨i,j,e1,k _ H (.d (.int _)) M (Kp.refl H) (by simp[aJ,aB]) m q⟩
end
section
variable {X:Cx}{K:FG}
def akG(K:FG):R2:=λ x y H Q=>∃ l b xs zs,x=.ref l/\y=.ref b/\SqL K H l xs/\SqL K H b zs/\xs.length+zs.length<=sizeLine/\∀ p,H p=none->Q (.ref p) (upd H p (.lst (xs++zs)))
theorem aeH:OpR X (binaryOp .Add) (akG X.K):=by
 intro pins s σ H x y v u Q I rx ry h;obtain⟨l,b,xs,zs,rfl,rfl,h1,h2,hz,q⟩:=h;cases rx;cases ry;obtain⟨its,r1,p1,_⟩:=I.list h1;obtain⟨its2,r2,p2,_⟩:=I.list h2;have t1:=p1.isList.typeIs (s:=s);have t2:=p2.isList.typeIs (s:=s);obtain⟨⟨oc,od,odt,osl⟩,n,e1,c1,d1,g1⟩:=p1;obtain⟨⟨oc2,od2,odt2,osl2⟩,n2,e2,c2,d2,g2⟩:=p2;dsimp only at c1 d1 g1 c2 d2 g2;subst c1 d1 g1 c2 d2 g2;have hl1:=r1.length;have hl2:=r2.length;refine wpAny_binaryOp_concat (T:= "list") t1 t2 noFill_list_add seq_list_add ?_;refine call_meets PySem.F.slot_list_add t1 PySem.F.entry_list_add (PySem.F.args_list_add_2 _ _) (list_addW l b its.toArray its2.toArray n n2 none none osl osl2 (by simp only[List.size_toArray];omega)) ⟨e1,e2,?_⟩;have ea:its.toArray++its2.toArray=(its++its2).toArray:=by simp
 rw[ea];exact⟨.ref _,_,I.alw (t':=s.toks) (r1.append r2) (by rw[List.length_append];omega),rfl,q _ I.fresh⟩
inductive abO(M:MH):W->List PyData->Prop
 | d {ds:List PyData}:abO M (.d (.list ds)) ds
 | m {a:Addr} {ds:List PyData} (h:M a=some (.lst (ds.map W.d))):abO M (.m a) ds
theorem abO.sound(g:abO M w ds)(r:aJ K H w x)(m:cB K H M):∃ p ys,x=.ref p/\SqL K H p ys/\aX K H ds ys:=by
 cases g with
 | d =>
  simp only[aJ,aB] at r;obtain⟨a,vs,e,hs,ra⟩:=r;exact⟨a,vs,e,hs.sq,ra⟩
 | m h =>
  obtain⟨vs,e,ra⟩:=m _ _ h;exact⟨_,vs,r,.inl (.inl e),ra.data⟩
def aj8(ta tb:TD)(τ:DS)(M:MH)(Q:QD):Prop:=ta τ M λ w M1=>tb τ M1 λ w' M2=>∃ xs ys,abO M2 w xs/\abO M2 w' ys/\xs.length+ys.length<=sizeLine/\Q (.d (.list (xs++ys))) M2
theorem ai1(ha:PD X a ta)(hb:PD X b tb):PD X (.BinOp a .Add b pos) (aj8 ta tb):=fN (vb (aiF aeH ha hb)) λ σ H Q h=>by obtain⟨τ,M,Qd,A,h,k⟩:=h;refine⟨τ,M,_,A,h,λ x H1 w M1 kp1 r1 m1 q1=>⟨τ,M1,_,A.go kp1 m1,q1,λ y H2 w' M2 kp2 r2 m2 hq75=>?_⟩⟩;obtain⟨xs,ys,g1,g2,hz,q⟩:=hq75;obtain⟨p,vs,e1,s1,ra1⟩:=g1.sound (r1.keep kp2) m2;obtain⟨p',vs',e2,s2,ra2⟩:=g2.sound r2 m2;refine⟨p,p',vs,vs',e1,e2,s1,s2,by rw[ra1.length,ra2.length];exact hz,λ c hc=>?_⟩;exact qe hc (ra1.append ra2) m2 q (kgo (kgo k kp1) kp2)
theorem qV:∀ {ns:List Int} {vs:List V},aX K H (ns.map PyData.int) vs->vs=ns.map V.int
 | [],vs,h=>by simpa [aX] using h
 | n::ns,vs,h=>by simp only[List.map_cons,aX] at h;obtain⟨v,r,e,h1,h2⟩:=h;simp only[aB] at h1;rw[e,h1,qV h2];rfl
end
abbrev aih:=List W->DS->MH->(DS->MH->Prop)->Prop
def alD(K:FG)(g:aih):TGs:=λ vs σ H Q=>∃ ws τ M Qd,bh K H ws vs/\Abs K H σ τ M/\g ws τ M Qd/\∀ σ' H' τ' M',Kp H H'->Abs K H' σ' τ' M'->Qd τ' M'->Q σ' H'
abbrev acT(X:Cx)(es:List Expr)(g:aih):Prop:=PGs X es (alD X.K g)
theorem aiq(h:PGs X es g)(k:∀ v σ H Q,g' v σ H Q->g v σ H Q):PGs X es g':=λ pins s σ H v u Q I r q=>h pins s σ H v u Q I r (k v σ H Q q)
def fc(ws:List W)(τ:DS)(M:MH)(Q:DS->MH->Prop):Prop:=ws=[]/\Q τ M
def aD(g:TGd)(gs:aih)(ws:List W)(τ:DS)(M:MH)(Q:DS->MH->Prop):Prop:=∃ w r,ws=w::r/\g w τ M λ τ' M'=>gs r τ' M' Q
theorem xY(h1:PGd X e g)(h2:acT X es gs)(hs:(assignEach (e::es) X.env).map (·.2)=assign e X.env::(assignEach es X.env).map (·.2):=by rfl):acT X (e::es) (aD g gs):=
 aiq (abS h1 h2 hs) λ vs σ H Q hq77=>by
  obtain⟨ws,τ,M,Qd,r,A,⟨w,wr,ew,q⟩,k⟩:=hq77;subst ew;cases r with
  | cons r1 r2 =>
   refine⟨_,_,rfl,w,τ,M,_,r1,A,q,λ σ1 H1 τ1 M1 kp1 A1 q1=>?_⟩;exact⟨wr,τ1,M1,Qd,bh.keep kp1 r2,A1,q1,λ σ2 H2 τ2 M2 kp2 A2 q2=>k σ2 H2 τ2 M2 (kp1.trans kp2) A2 q2⟩
def gT(n:Nat)(gs:aih)(w:W)(τ:DS)(M:MH)(Q:DS->MH->Prop):Prop:=∃ ds,w=.d (.tuple ds)/\ds.length=n/\gs (ds.map W.d) τ M Q
theorem af4(hc:X.calm=true)(h:acT X es gs)(hn:(assignEach es X.env).length=n:=by rfl)(hst:(assignEach es X.env).findIdx? (·.1)=none:=by rfl):PGd X (.Tuple es k pos) (gT n gs):=
 akP (adg hc h hn hst) λ v σ H Q hq78=>by obtain⟨w,τ,M,Qd,r,A,⟨ds,ew,hl,q⟩,kk⟩:=hq78;subst ew;simp only[aJ,aB] at r;obtain⟨a,vs,ev,hs,ra⟩:=r;exact⟨a,vs,ev,hs,by rw[ra.length];exact hl,ds.map W.d,τ,M,Qd,ra.ws,A,q,kk⟩
structure Mf(K:FG)(C:Addr)(x qual:Str)(st:Stmt)(ps:List Str)(f:Addr)(fd:FuncData):Prop where
 fn:Fun K x qual st f fd
 me:Meth K C x f
 bd:Binds K fd ps []
structure Mi(K:FG)(C:Addr)(qual:Str)(st:Stmt)(ps:List Str)(f:Addr)(fd:FuncData):Prop where
 fn:Fun K "__init__" qual st f fd
 mi:Mk K C f
 bd:Binds K fd ps []
section
variable {K:FG}{C:Addr}
theorem ahb{x qual:Str}{st:Stmt}{ps:List Str}{oc:Value}{od an:Option Addr}{osl:Array (Option Value)}{kV doc pm cdv ct:Value}(a:W.findIn K (.ref C) x=some (some (.ref f)))(i:W.isFn K (.ref f)=true)
  (l:K.lookup f=some ⟨oc,od,.func (W.fnOf x qual (bw st) (aW st) (aC st) .none kV doc pm an cdv ct),osl⟩)(c:W.codeIn K cdv qual=true)(k:W.keepIn K (.ref f)=true)
  (b:∀ (kV doc pm:Value) (an:Option Addr) (cdv ct:Value) (us:List Value),us.length=ps.length->bindArgs (W.fnOf x qual (bw st) (aW st) (aC st) .none kV doc pm an cdv ct) ⟨us,[]⟩=pure (ps.zip us)) :
  Mf K C x qual st ps f (W.fnOf x qual (bw st) (aW st) (aC st) .none kV doc pm an cdv ct):=
 have F:=aaQ (st:=st) l c k
 ⟨F,⟨a,i,k⟩,F.binds b⟩
theorem aeK{qual:Str}{st:Stmt}{ps:List Str}{oc:Value}{od an:Option Addr}{osl:Array (Option Value)}{kV doc pm cdv ct:Value}(a:W.findIn K (.ref C) "__init__" = some (some (.ref f)))(i:W.isFn K (.ref f)=true)
  (l:K.lookup f=some ⟨oc,od,.func (W.fnOf "__init__" qual (bw st) (aW st) (aC st) .none kV doc pm an cdv ct),osl⟩)(c:W.codeIn K cdv qual=true)(k:W.keepIn K (.ref f)=true)
  (mk:W.makesIn K C=true)(kc:W.keepIn K (.ref C)=true)
  (b:∀ (kV doc pm:Value) (an:Option Addr) (cdv ct:Value) (us:List Value),us.length=ps.length->bindArgs (W.fnOf "__init__" qual (bw st) (aW st) (aC st) .none kV doc pm an cdv ct) ⟨us,[]⟩=pure (ps.zip us)) :
  Mi K C qual st ps f (W.fnOf "__init__" qual (bw st) (aW st) (aC st) .none kV doc pm an cdv ct):=
 have F:=aaQ (st:=st) l c k
 ⟨F,⟨mk,a,i,kc⟩,F.binds b⟩
end
theorem pcT(hc:dr X (.type T) r)(hd:eK X.K r rd)(hg:Gl X x)(hm:X.mg x=none)(hv:bootBuiltins x=some (.type T))(ha:PAd X (e::es) t)(hn:x ≠ "__name__":= by decide)(hdb:ND x:=by decide)
  (h1:gZ e=false:=by rfl)(h2:(es.all λ e=>!gZ e)=true:=by rfl):PD X (.Call (.Name x p) (e::es) [] pos) (dCB rd t):=aav hc hd hg hm hv ha hn hdb (dY e es X.env h1) (fm pos X.env es h2)
theorem oy  : Jd (PD X (.Dict [] [] pos) pI):=⟨fN abR λ σ H Q ⟨τ,M,Qd,A,h,k⟩ p hp =>
 k (.ref p) _ (.m p) (aS M p (.dic [])) (Kp.new hp) rfl (A.mem.put (mo:=.dic []) (Kp.new hp) ⟨[],aj,.nil⟩) (h p (A.mem.free hp))⟩
theorem wc  : Jd (PD X (.Dict [] [] pos) ur):=⟨fN abV λ σ H Q ⟨τ,M,Qd,A,h,k⟩ p hp =>
 k (.ref p) _ (.m p) (aS M p (.dct [])) (Kp.new hp) rfl (A.mem.put (mo:=.dct []) (Kp.new hp) ⟨[],aj,.nil⟩) (h p (A.mem.free hp))⟩
theorem afD(hu:X.A.units+1<cLine)(hi:Jd (PD X i ti))(ho:Jd (PD X o td))(hm:behindInMarks .In o=false:=by rfl):Jd (PD X (.Compare i [.In] [o] pos) (aea ti td)):=⟨D.agL (hu:=hu) (hi:=hi.h) (ho:=ho.h) (hm:=hm)⟩
theorem abx(hu:X.A.units+1<cLine)(hi:Jd (PD X i ti))(ho:Jd (PD X o td))(hm:behindInMarks .In o=false:=by rfl):Jd (PTd X (.Compare i [.In] [o] pos) (aT (aea ti td))):=⟨D.afe (hu:=hu) (hi:=hi.h) (ho:=ho.h) (hm:=hm)⟩
theorem aca(hu:X.A.units+1<cLine)(ho:Jd (PD X o td))(hi:Jd (PD X i ti))(hs:ajC i:=by exact λ _ _=>rfl):Jd (PD X (.Subscript o i pos) (cA td ti)):=⟨D.aez (hu:=hu) (ho:=ho.h) (hi:=hi.h) (hs:=hs)⟩
theorem acp(hu:X.A.units+1<cLine)(ho:Jd (PD X o td))(he:Jd (PD X e ti))(m:M1 X o "get" apos e cpos:=by exact⟨rfl,rfl,rfl,rfl⟩):Jd (PD X (.Call (.Attribute o "get" apos) [e] [] cpos) (aeE td ti)):=⟨D.adY (hu:=hu) (ho:=ho.h) (he:=he.h) (m:=m)⟩
theorem abP(hu:X.A.units+1<cLine)(ho:Jd (PD X o td))(he:Jd (PD X e ti))(hf:Jd (PD X f tx))(m:M2 X o "get" apos e f cpos:=by exact⟨rfl,rfl,rfl,rfl⟩):Jd (PD X (.Call (.Attribute o "get" apos) [e,f] [] cpos) (yn td ti tx)):=⟨D.agl (hu:=hu) (ho:=ho.h) (he:=he.h) (hf:=hf.h) (m:=m)⟩
theorem gh(hu:X.A.units+1<cLine)(ho:Jd (PD X o td))(hi:Jd (PD X i ti))(hv:Jd (PD X value tv))(hs:swapsWith value (some (.Subscript o i pos')) pos.line X.env=pure false:=by rfl):Jd (PSd X (.Assign [.Subscript o i pos'] value pos) (pF td ti tv)):=⟨D.acg (hu:=hu) (ho:=ho.h) (hi:=hi.h) (hv:=hv.h) (hs:=hs)⟩
theorem wR(hu:X.A.units+1<cLine)(ho:Jd (PD X o td))(hi:Jd (PAd X es t))(hv:Jd (PD X value tv))(hs:swapsWith value (some (.Subscript o (.Tuple es x1 p2) pos')) pos.line X.env=pure false:=by rfl):Jd (PSd X (.Assign [.Subscript o (.Tuple es x1 p2) pos'] value pos) (qL td t tv)):=⟨D.aaJ (hu:=hu) (ho:=ho.h) (hi:=hi.h) (hv:=hv.h) (hs:=hs)⟩
theorem dm(c:Cls X.K C)(n:cf X.K C fn)(he:Jd (PD X e td))(hb:attributeBase e fn X.env (eval e X.env)=eval e X.env:=by rfl):Jd (PD X (.Attribute e fn pos) (ft C td fn)):=⟨D.ah5 (c:=c) (n:=n) (he:=he.h) (hb:=hb)⟩
theorem o9(c:Cls X.K C)(n:cf X.K C fn)(ha:Jd (PD X o td))(hv:Jd (PD X value tv))(hs:swapsWith value (some (.Attribute o fn pos')) pos.line X.env=pure false:=by rfl):Jd (PSd X (.Assign [.Attribute o fn pos'] value pos) (bA C td tv fn)):=⟨D.adG (c:=c) (n:=n) (ha:=ha.h) (hv:=hv.h) (hs:=hs)⟩
theorem o7(he:Jd (PD X o td))(c:Cls X.K C)(hm:Meth X.K C m f)(F:ck X.prog X.w X.K X.mg X.base CX0 k f fd ps (cz X.K sp))(hr:cI k X.A)(hb:Binds X.K fd ps [])(ha:Jd (PAd X (e::es) t))(ht:eval (.Call (.Attribute o m apos) (e::es) [] pos) X.env=(do
   let ov <- eval o X.env
   standAt apos.atName
   let (f,first) <- holding [ov] (getMethod ov m pl)
   callWith pos f first (backTo pos (starEach (e::es) X.env)) (backToKw pos (keywordEach [] X.env))):=by rfl)(h1:gZ e=false:=by rfl)(h2:(es.all λ e=>!gZ e)=true:=by rfl):Jd (PD X (.Call (.Attribute o m apos) (e::es) [] pos) (bj C m sp td t)):=⟨D.afX (he:=he.h) (c:=c) (hm:=hm) (F:=F) (hr:=hr) (hb:=hb) (ha:=ha.h) (ht:=ht) (h1:=h1) (h2:=h2)⟩
theorem zU(he:Jd (PD X o td))(c:Cls X.K C)(hm:Meth X.K C m f)(F:ck X.prog X.w X.K X.mg X.base CX0 k f fd ps (cz X.K sp))(hr:cI k X.A)(hb:Binds X.K fd ps [])(ht:eval (.Call (.Attribute o m apos) [] [] pos) X.env=(do
   let ov <- eval o X.env
   standAt apos.atName
   let (f,first) <- holding [ov] (getMethod ov m pl)
   callWith pos f first (backTo pos (starEach [] X.env)) (backToKw pos (keywordEach [] X.env))):=by rfl):Jd (PD X (.Call (.Attribute o m apos) [] [] pos) (bj C m sp td ay)):=⟨D.abY (he:=he.h) (c:=c) (hm:=hm) (F:=F) (hr:=hr) (hb:=hb) (ht:=ht)⟩
theorem abC(Mk':Mk X.K C f)(F:ck X.prog X.w X.K X.mg X.base CX0 k f fd ps (cz X.K sp))(hr:cI (k+1) X.A)(hg:Gl X x)(hm:X.mg x=some (.ref C))(hb:Binds X.K fd ps [])(ha:Jd (PAd X (e::es) t))(hdb:ND x:=by decide)(h1:gZ e=false:=by rfl)(h2:(es.all λ e=>!gZ e)=true:=by rfl):Jd (PD X (.Call (.Name x p) (e::es) [] pos) (fZ C sp t)):=⟨D.aev (Mk':=Mk') (F:=F) (hr:=hr) (hg:=hg) (hm:=hm) (hb:=hb) (ha:=ha.h) (hdb:=hdb) (h1:=h1) (h2:=h2)⟩
theorem zm(Mk':Mk X.K C f)(F:ck X.prog X.w X.K X.mg X.base CX0 k f fd ps (cz X.K sp))(hr:cI (k+1) X.A)(hg:Gl X x)(hm:X.mg x=some (.ref C))(hb:Binds X.K fd ps [])(hdb:ND x:=by decide):Jd (PD X (.Call (.Name x p) [] [] pos) (fZ C sp ay)):=⟨
 fN (acR (E:=E0) (dvs:=[]) Mk' F hr hg hm hb .nil zM hdb) λ σ H Q h=>by
  obtain⟨τ,M,Qd,A,h,k⟩:=h;intro a dx ha hd hn;obtain⟨kp2,m2⟩:=uB (X:=X) (C:=C) A.mem ha hd hn;exact⟨.m a::[],_,_,.cons rfl .nil,m2,h a (A.mem.free ha),λ v H' w M' kp3 r3 m3 hq72=>by obtain⟨e3,q3⟩:=hq72;subst e3;simp only[aJ,aB] at r3;exact⟨r3,k _ H' (.m a) M' (kp2.trans kp3) rfl m3 q3⟩⟩⟩
theorem oN(h:Jd (PD X e td)):Jd (PD X e (mV td)):=⟨D.agn (h:=h.h)⟩
theorem wW(ho:Jd (PD X o td))(he:Jd (PD X e te))(hbase:attributeBase o "append" X.env (eval o X.env)=eval o X.env:=by rfl)(hfew:((backTo cpos (starEach [e] X.env)).all (λ x=>!x.1)&&(backToKw cpos (keywordEach [] X.env)).all (λ x=>x.1.isSome)
   && decide (([e]:List Expr).length+([]:List Keyword).length+(if ([]:List Keyword).isEmpty then 0 else 1)<30))=true:=by rfl)(hline:(apos.endLine==cpos.line)=true:=by rfl)(hs:gZ e=false:=by rfl):Jd (PD X (.Call (.Attribute o "append" apos) [e] [] cpos) (lC td te)):=⟨D.aam (ho:=ho.h) (he:=he.h) (hbase:=hbase) (hfew:=hfew) (hline:=hline) (hs:=hs)⟩
theorem aeI(ha:Jd (PD X a ta))(hb:Jd (PD X b tb)):Jd (PD X (.BinOp a .Add b pos) (aj8 ta tb)):=⟨D.ai1 (ha:=ha.h) (hb:=hb.h)⟩
theorem rZ  : Jd (acT X [] fc):=⟨aiq afQ λ vs σ H Q hq76=>by obtain⟨ws,τ,M,Qd,r,A,⟨e,q⟩,k⟩:=hq76;subst e;cases r;exact⟨rfl,k σ H τ M (Kp.refl H) A q⟩⟩
theorem gC(h1:Jd (PGd X e g))(h2:Jd (acT X es gs))(hs:(assignEach (e::es) X.env).map (·.2)=assign e X.env::(assignEach es X.env).map (·.2):=by rfl):Jd (acT X (e::es) (aD g gs)):=⟨D.xY (h1:=h1.h) (h2:=h2.h) (hs:=hs)⟩
theorem vt(hc:X.calm=true)(h:Jd (acT X es gs))(hn:(assignEach es X.env).length=n:=by rfl)(hst:(assignEach es X.env).findIdx? (·.1)=none:=by rfl):Jd (PGd X (.Tuple es k pos) (gT n gs)):=⟨D.af4 (hc:=hc) (h:=h.h) (hn:=hn) (hst:=hst)⟩
theorem aj7(hc:dr X (.type T) r)(hd:eK X.K r rd)(hg:Gl X x)(hm:X.mg x=none)(hv:bootBuiltins x=some (.type T))(ha:Jd (PAd X (e::es) t))(hn:x ≠ "__name__":= by decide)(hdb:ND x:=by decide)(h1:gZ e=false:=by rfl)(h2:(es.all λ e=>!gZ e)=true:=by rfl):Jd (PD X (.Call (.Name x p) (e::es) [] pos) (dCB rd t)):=⟨D.pcT (hc:=hc) (hd:=hd) (hg:=hg) (hm:=hm) (hv:=hv) (ha:=ha.h) (hn:=hn) (hdb:=hdb) (h1:=h1) (h2:=h2)⟩
@[simp] theorem agT (i j:Int):gG (.int i) (.int j)=true:=rfl
@[simp] theorem ahL (x y:Str):gG (.str x) (.str y)=true:=rfl
@[simp] theorem agB (x y:Bool):gG (.bool x) (.bool y)=true:=rfl
@[simp] theorem aku (i j:Int):PyData.eqv (.int i) (.int j)=(i==j):=by rw[PyData.eqv]
@[simp] theorem akg (i j:Str):PyData.eqv (.str i) (.str j)=(i==j):=by rw[PyData.eqv]
@[simp] theorem alc (a:Addr):agI (.m a)=true:=rfl
@[simp] theorem aie (ds:List PyData):agI (.d (.list ds))=true:=rfl
@[simp] theorem agz (ds:List PyData):agI (.d (.tuple ds))=true:=rfl
@[simp] theorem ajq (n:Nat):ixN (n+1) 0=some 0:=by unfold ixN;simp
theorem adu{α:Type}{xs:List α}{i:Int}(h0:0<=i)(h1:i<xs.length):atI xs i=some (xs[i.toNat]'(by omega)):=by
 unfold atI ixN;rw[if_pos h0,if_pos h1];simp
inductive Bag(M:MH) (p:Addr):Prop
 | mk (a b c:Int) (ns:List Int) (e:M p=some (.lst [.d (.int a),.d (.int b),.d (.int c),.d (.list (ns.map PyData.int))])) (z:0<=a/\0<=b/\b<2147483647/\0<=c/\(∀ n∈ns,0<=n)):Bag M p
def cM:SpD:=λ ws M Q=>∃ ns:List Int,ws=[.d (.list (ns.map PyData.int))]/\ns.length<=1000/\∀ p M',M p=none->(∀ q,q≠p->M' q=M q)->Bag M' p->Q (.m p) M'
inductive rY(ws:List W) (M:MH) (Q:QD):Prop
 | mk (p:Addr) (n:Int) (z0:ws=[.m p,.d (.int n)]) (z1:Bag M p) (z2:0<n) (z3:n<1073741824) (z4:∀ (r:Int) M',0<=r->r<n->Bag M' p->(∀ q,q≠p->M' q=M q)->Q (.d (.int r)) M'):rY ws M Q
def av:SpD:=rY
theorem yW:∀ ws M Q,cM ws M Q->ws.length=1:=by rintro ws M Q ⟨ns,rfl,_⟩;rfl
theorem wC:∀ ws M Q,av ws M Q->ws.length=2:=by rintro ws M Q ⟨p,n,rfl,_⟩;rfl
theorem aff{n:Nat}{i:Int}(h0:0<=i)(h1:i<n):ixN n i=some i.toNat:=by unfold ixN;rw[if_pos h0,if_pos h1]
theorem nB(hm:M p=some (.lst ws))(h:atI ws i=some x):ixW M (.m p) i=some x:=by simp only[ixW,hm];exact h
theorem e9{c:Bool}{A B:Prop}(h1:c=true->A)(h2:c=false->B):if c=true then A else B:=by
 cases c with
 | true=>rw[if_pos rfl];exact h1 rfl
 | false=>rw[if_neg ft0];exact h2 rfl
abbrev yE:List Str:=["_law_script"]
def aax:TSd:=
  cm (mU (ab (dC (.d (.int 0))) (ab (dC (.d (.int 1234567891))) (ab (dC (.d (.int 0))) (ab (dLC (bU (dSl (ag 0) jE (sP (dC (.d (.int 63)))))) (gN 0) iJ (dCB agR (ab (ag 0) ay)) 1 []) ay)))))
abbrev vj:List Str:=["_law_bag_here", "_law_many", "_law_cell", "_law_value", "_law_first", "_law_second"]
def uG:TSd:=
  aV (dIf (aT (dOp ak3 (dOp bZ (ag 0) (dC (.d (.int 0)))) (dC (.d (.int 0)))))
   (aV (cH (dC (.d (.int 0))) (gN 2)) <|
   aV (dIf (aT (dOp adn (dOp bZ (ag 0) (dC (.d (.int 2)))) (dCB aaq (ab (dOp bZ (ag 0) (dC (.d (.int 3)))) ay))))
    (cH (dOp bZ (dOp bZ (ag 0) (dC (.d (.int 3)))) (dOp bZ (ag 0) (dC (.d (.int 2))))) (gN 2))
    bL) <|
   aV (abg (ag 0) (dC (.d (.int 2))) (dC (.d (.int 1))) (λ i j=>i+j)) <|
   aV (dIf (aT (dOp akr (ag 2) (dC (.d (.int 1000000000000000000)))))
    (cH (ag 2) (ab3 (ag 0) (dC (.d (.int 0)))))
    bL) <|
   cH (dOp dQ (dOp cX (dOp cX (dOp gF (dOp bZ (ag 0) (dC (.d (.int 1)))) (dC (.d (.int 48271)))) (dOp dQ (ag 2) (dC (.d (.int 2147483647))))) (dOp gF (dC (.d (.int 7919))) (dOp bZ (ag 0) (dC (.d (.int 2)))))) (dC (.d (.int 2147483647)))) (ab3 (ag 0) (dC (.d (.int 1)))))
   bL) <|
  aV (dIf (aT (dOp aa5 (dOp bZ (ag 0) (dC (.d (.int 0)))) (dC (.d (.int 0)))))
   (aV (cH (dOp dQ (dOp bZ (ag 0) (dC (.d (.int 0)))) (ag 1)) (gN 3)) <|
   aV (cH (dOp yw (dOp bZ (ag 0) (dC (.d (.int 0)))) (ag 1)) (ab3 (ag 0) (dC (.d (.int 0))))) <|
   cm (ag 3))
   bL) <|
  aV (cH (dOp dQ (dOp gF (dOp cX (dOp bZ (ag 0) (dC (.d (.int 1)))) (dC (.d (.int 1)))) (dC (.d (.int 39373)))) (dC (.d (.int 1000000007)))) (gN 4)) <|
  aV (cH (dOp dQ (dOp gF (dOp dQ (dOp gF (ag 4) (ag 4)) (dC (.d (.int 998244353)))) (dC (.d (.int 30011)))) (dC (.d (.int 998244353)))) (gN 5)) <|
  aV (dIf (aT (dOp aa5 (ag 1) (dC (.d (.int 1000000)))))
   (cm (dOp dQ (dOp cX (dOp gF (ag 5) (dC (.d (.int 1000000007)))) (ag 4)) (ag 1)))
   bL) <|
  cm (dOp dQ (dOp yw (ag 5) (dC (.d (.int 7)))) (ag 1))
abbrev abw(a b c:Int)(ns:List Int):List W:=[.d (.int a),.d (.int b),.d (.int c),.d (.list (ns.map PyData.int))]
theorem jI(hm:M p=some (.lst (abw a b c ns)))(ha:0<=a)(hb:0<=b)(hb2:b<2147483647)(hc:0<=c)(hns:∀ n∈ns,0<=n)(hn:0<n)(hn2:n<1073741824)
  (k:∀ (r:Int) M',0<=r->r<n->Bag M' p->(∀ q,q≠p->M' q=M q)->Q (.d (.int r)) M')(hD:D.rt=Q) :
  (aV (dIf (aT (dOp aa5 (dOp bZ (ag 0) (dC (.d (.int 0)))) (dC (.d (.int 0)))))
   (aV (cH (dOp dQ (dOp bZ (ag 0) (dC (.d (.int 0)))) (ag 1)) (gN 3)) <|
   aV (cH (dOp yw (dOp bZ (ag 0) (dC (.d (.int 0)))) (ag 1)) (ab3 (ag 0) (dC (.d (.int 0))))) <|
   cm (ag 3))
   bL) <|
  aV (cH (dOp dQ (dOp gF (dOp cX (dOp bZ (ag 0) (dC (.d (.int 1)))) (dC (.d (.int 1)))) (dC (.d (.int 39373)))) (dC (.d (.int 1000000007)))) (gN 4)) <|
  aV (cH (dOp dQ (dOp gF (dOp dQ (dOp gF (ag 4) (ag 4)) (dC (.d (.int 998244353)))) (dC (.d (.int 30011)))) (dC (.d (.int 998244353)))) (gN 5)) <|
  aV (dIf (aT (dOp aa5 (ag 1) (dC (.d (.int 1000000)))))
   (cm (dOp dQ (dOp cX (dOp gF (ag 5) (dC (.d (.int 1000000007)))) (ag 4)) (ag 1)))
   bL) <|
  cm (dOp dQ (dOp yw (ag 5) (dC (.d (.int 7)))) (ag 1))) D [some (.m p),some (.d (.int n)),x,none,none,none] M:=by
 subst hD;have i0:ixW M (.m p) 0=some (.d (.int a)):=nB hm rfl;have i1:ixW M (.m p) 1=some (.d (.int b)):=nB hm rfl;have same:Bag M p:=⟨a,b,c,ns,hm,ha,hb,hb2,hc,hns⟩;refine⟨_,rfl,_,_,rfl,i0,rfl,_,_,rfl,rfl,_,rfl,?_⟩;refine e9 (λ h=>?_) (λ h=>?_)
 .have h0:0<a:=of_decide_eq_true h;refine⟨_,rfl,_,_,rfl,i0,rfl,_,rfl,_,_,rfl,rfl,hn,?_⟩;refine⟨_,rfl,_,_,rfl,i0,rfl,_,rfl,_,_,rfl,rfl,⟨hn,hn2⟩,?_⟩;refine⟨_,rfl,_,_,_,_,rfl,rfl,hm,rfl,?_⟩;refine⟨_,rfl,?_⟩;refine k _ _ (Int.emod_nonneg _ (by omega)) (Int.emod_lt_of_pos _ hn) ⟨a / n,b,c,ns,af,Int.ediv_nonneg ha (by omega),hb,hb2,hc,hns⟩ λ q hq=>ah hq
 .refine⟨_,rfl,_,_,rfl,i1,rfl,.inl ?_⟩;refine⟨_,_,rfl,rfl,_,_,rfl,rfl,.inl ⟨by omega,by omega⟩,_,_,rfl,rfl,(by decide:(0:Int)<1000000007),?_⟩;have f0:0<=(b+1) * 39373 % 1000000007:=Int.emod_nonneg _ (by decide);have f1:(b+1) * 39373 % 1000000007<1000000007:=Int.emod_lt_of_pos _ (by decide);refine⟨_,rfl,_,rfl,_,_,rfl,rfl,.inl ⟨by omega,by omega⟩,_,_,rfl,rfl,(by decide:(0:Int)<998244353),?_⟩;have g0:0<=(b+1) * 39373 % 1000000007 * ((b+1) * 39373 % 1000000007) % 998244353:=Int.emod_nonneg _ (by decide);have g1:(b+1) * 39373 % 1000000007 * ((b+1) * 39373 % 1000000007) % 998244353<998244353:=Int.emod_lt_of_pos _ (by decide);refine⟨_,_,rfl,rfl,.inl ⟨by omega,by omega⟩,_,_,rfl,rfl,(by decide:(0:Int)<998244353),?_⟩;have e0:0<=(b+1) * 39373 % 1000000007 * ((b+1) * 39373 % 1000000007) % 998244353 * 30011 % 998244353:=Int.emod_nonneg _ (by decide);have e1:(b+1) * 39373 % 1000000007 * ((b+1) * 39373 % 1000000007) % 998244353 * 30011 % 998244353<998244353:=Int.emod_lt_of_pos _ (by decide);refine⟨_,rfl,_,_,rfl,rfl,_,rfl,?_⟩;refine e9 (λ h=>?_) (λ h=>?_)
  .refine⟨_,rfl,_,_,rfl,rfl,.inl ⟨by omega,by omega⟩,_,rfl,.inl ⟨_,_,rfl,rfl,_,rfl,_,_,rfl,rfl,hn,?_⟩⟩;exact k _ _ (Int.emod_nonneg _ (by omega)) (Int.emod_lt_of_pos _ hn) same λ q _=>rfl
  .refine⟨_,rfl,_,_,rfl,rfl,⟨by decide,by decide⟩,_,rfl,_,_,rfl,rfl,hn,?_⟩;exact k _ _ (Int.emod_nonneg _ (by omega)) (Int.emod_lt_of_pos _ hn) same λ q _=>rfl
theorem nU(hm:M p=some (.lst (abw a b c ns)))(ha:0<=a)(hb:0<=b)(hb2:b<2147483647)(hc:0<=c)(hcell:0<=cell)
  (k:∀ a' b' c' M',0<=a'->0<=b'->b'<2147483647->0<=c'->M' p=some (.lst (abw a' b' c' ns))->(∀ q,q≠p->M' q=M q)->D.nx [some (.m p),some (.d (.int n)),some (.d (.int cell)),none,none,none] M') :
  (aV (abg (ag 0) (dC (.d (.int 2))) (dC (.d (.int 1))) (λ i j=>i+j)) <|
   aV (dIf (aT (dOp akr (ag 2) (dC (.d (.int 1000000000000000000)))))
    (cH (ag 2) (ab3 (ag 0) (dC (.d (.int 0)))))
    bL) <|
   cH (dOp dQ (dOp cX (dOp cX (dOp gF (dOp bZ (ag 0) (dC (.d (.int 1)))) (dC (.d (.int 48271)))) (dOp dQ (ag 2) (dC (.d (.int 2147483647))))) (dOp gF (dC (.d (.int 7919))) (dOp bZ (ag 0) (dC (.d (.int 2)))))) (dC (.d (.int 2147483647)))) (ab3 (ag 0) (dC (.d (.int 1)))))
   D [some (.m p),some (.d (.int n)),some (.d (.int cell)),none,none,none] M:=by
 refine⟨_,rfl,_,_,_,_,_,rfl,rfl,hm,rfl,rfl,_,rfl,rfl,?_⟩;have m1:aS M p (.lst (abw a b (c+1) ns)) p=some (.lst (abw a b (c+1) ns)):=af;have f1:∀ q,q≠p->aS M p (.lst (abw a b (c+1) ns)) q=M q:=λ q hq=>ah hq;show(aV _ _) D _ (aS M p (.lst (abw a b (c+1) ns)));generalize aS M p (.lst (abw a b (c+1) ns))=M1 at m1 f1;have fin:∀ (a':Int) (M2:MH),0<=a'->M2 p=some (.lst (abw a' b (c+1) ns))->(∀ q,q≠p->M2 q=M q) ->
   cH (dOp dQ (dOp cX (dOp cX (dOp gF (dOp bZ (ag 0) (dC (.d (.int 1)))) (dC (.d (.int 48271)))) (dOp dQ (ag 2) (dC (.d (.int 2147483647))))) (dOp gF (dC (.d (.int 7919))) (dOp bZ (ag 0) (dC (.d (.int 2)))))) (dC (.d (.int 2147483647)))) (ab3 (ag 0) (dC (.d (.int 1)))) D [some (.m p),some (.d (.int n)),some (.d (.int cell)),none,none,none] M2:=by
  intro a' M2 ha' m2 f2;have i1:ixW M2 (.m p) 1=some (.d (.int b)):=nB m2 rfl;have i2:ixW M2 (.m p) 2=some (.d (.int (c+1))):=nB m2 rfl;refine⟨_,rfl,_,_,rfl,i1,rfl,_,_,rfl,rfl,.inl ⟨by omega,by omega⟩,_,rfl,_,_,rfl,rfl,(by decide:(0:Int)<2147483647),.inl ?_⟩;refine⟨_,_,rfl,rfl,_,rfl,_,_,rfl,i2,rfl,_,_,rfl,rfl,.inl ⟨by decide,by decide⟩,.inl ?_⟩;refine⟨_,_,rfl,rfl,_,_,rfl,rfl,(by decide:(0:Int)<2147483647),_,rfl,_,_,_,_,rfl,rfl,m2,rfl,?_⟩;exact k a' _ (c+1) _ ha' (Int.emod_nonneg _ (by decide)) (Int.emod_lt_of_pos _ (by decide)) (by omega) af λ q hq=>(ah hq).trans (f2 q hq)
 refine⟨_,rfl,_,_,rfl,rfl,_,rfl,?_⟩;refine e9 (λ h=>?_) (λ h=>?_)
 .refine⟨_,rfl,_,rfl,_,_,_,_,rfl,rfl,m1,rfl,?_⟩;exact fin cell _ hcell af λ q hq=>(ah hq).trans (f1 q hq)
 .exact fin a M1 ha m1 f1
theorem sN:∀ ws M Q,av ws M Q->uG {nx:=λ _ M'=>Q (.d .none) M',rt:=Q} (fG vj ws) M:=by
 rintro ws M Q ⟨p,n,rfl,⟨a,b,c,ns,hm,ha,hb,hb2,hc,hns⟩,hn,hn2,k⟩;have i0:ixW M (.m p) 0=some (.d (.int a)):=nB hm rfl;have i2:ixW M (.m p) 2=some (.d (.int c)):=nB hm rfl;have i3:ixW M (.m p) 3=some (.d (.list (ns.map PyData.int))):=nB hm rfl;refine⟨_,rfl,_,_,rfl,i0,rfl,_,_,rfl,rfl,rfl,_,rfl,?_⟩;refine e9 (λ h=>?_) (λ h=>?_)
 .refine⟨_,rfl,_,_,rfl,i2,rfl,_,rfl,_,_,rfl,i3,rfl,_,_,rfl,rfl,rfl,_,_,rfl,rfl,_,rfl,?_⟩;refine e9 (λ h=>?_) (λ h=>?_)
  .have hlt:c<((ns.map PyData.int).length:Nat):=of_decide_eq_true h;have hlt':c.toNat<ns.length:=by rw[lm] at hlt;omega
   have ic:ixW M (.d (.list (ns.map PyData.int))) c=some (.d (.int (ns[c.toNat]'hlt'))):=by simp only[ixW];rw[adu hc hlt];simp
   refine⟨_,rfl,_,_,rfl,i3,rfl,_,rfl,_,_,rfl,i2,rfl,_,_,rfl,ic,rfl,?_⟩;refine nU (cell:=ns[c.toNat]'hlt') hm ha hb hb2 hc (hns _ (List.getElem_mem _)) λ a' b' c' M' h1 h2 h3 h4 h5 h6=>?_;exact jI (x:=some (.d (.int (ns[c.toNat]'hlt')))) h5 h1 h2 h3 h4 hns hn hn2 (λ r M'' r0 r1 bg fr=>k r M'' r0 r1 bg λ q hq=>(fr q hq).trans (h6 q hq)) rfl
  .refine nU (cell:=0) hm ha hb hb2 hc (Int.le_refl 0) λ a' b' c' M' h1 h2 h3 h4 h5 h6=>?_;exact jI (x:=some (.d (.int 0))) h5 h1 h2 h3 h4 hns hn hn2 (λ r M'' r0 r1 bg fr=>k r M'' r0 r1 bg λ q hq=>(fr q hq).trans (h6 q hq)) rfl
 .exact jI (x:=none) hm ha hb hb2 hc hns hn hn2 k rfl
theorem zL{ws:List W}{i:Nat}(h:ws[i]? =some w):(ws.take (i+1)).filterMap f=(ws.take i).filterMap f++(f w).toList:=by rw[List.take_add_one,h,List.filterMap_append];cases e:f w<;>simp[e]
theorem pL{tt:TTd}{te:TD}{fr:List Nat}{τ:DS}{M:MH}{Q:List PyData->MH->Prop}{ws:List W}(f:W->Option PyData)(hl:ws.length<=sizeLine)
  (step:∀ w∈ws,∀ P':Option PyData->Prop,P' (f w)->tt (some w::fr.map λ j=>(τ[j]?).getD none) M λ b M3=>if b=true then te (some w::fr.map λ j=>(τ[j]?).getD none) M3 λ y M4=>∃ d,y=.d d/\M4=M/\P' (some d) else M3=M/\P' none)
  (q:Q (ws.filterMap f) M):∃ P:Nat->List PyData->DS->MH->Prop,P 0 [] (aa3 1 fr τ) M /\
   (∀ i w acc τ M,ws[i]? =some w->P i acc τ M->acc.length<sizeLine/\gN 0 w τ M λ τ2 M2=>tt τ2 M2 λ b M3=>if b=true then te τ2 M3 λ y M4=>∃ d,y=.d d/\P (i+1) (acc++[d]) τ2 M4 else P (i+1) acc τ2 M3) /\
   ∀ acc τ M,P ws.length acc τ M->Q acc M:=by
 let Pk:Nat->List PyData->DS->Prop:=λ i acc τ'=>i<=ws.length/\acc=(ws.take i).filterMap f/\∃ x,τ'=x::fr.map λ j=>(τ[j]?).getD none
 refine⟨λ i acc τ' M'=>M'=M/\Pk i acc τ',⟨rfl,Nat.zero_le _,rfl,none,rfl⟩,λ i w acc τ' M' hw hp=>?_,λ acc τ' M' hp=>?_⟩
 .obtain⟨rfl,hi,rfl,x,rfl⟩:=hp;have hlt:i<ws.length:=(List.getElem?_eq_some_iff.mp hw).1;refine⟨?_,step w (List.mem_of_getElem? hw) (λ o=>match o with
   | some d=>Pk (i+1) ((ws.take i).filterMap f++[d]) (some w::fr.map λ j=>(τ[j]?).getD none)
   | none=>Pk (i+1) ((ws.take i).filterMap f) (some w::fr.map λ j=>(τ[j]?).getD none)) ?_⟩
  .have h1:=List.length_filterMap_le f (ws.take i);rw[List.length_take] at h1;omega
  .cases e:f w with
   | some d=>exact⟨hlt,by rw[zL hw,e];rfl,_,rfl⟩
   | none=>exact⟨hlt,by rw[zL hw,e];simp,_,rfl⟩
 .obtain⟨rfl,hi,rfl,x,rfl⟩:=hp;rw[List.take_of_length_le (lr0 _)];exact q
theorem adv{α:Type}(g:α->W)(f:W->Option PyData)(h:α->PyData)(e:∀ a,f (g a)=some (h a))(l:List α):(l.map g).filterMap f=l.map h:=by
 induction l with
 | nil=>rfl
 | cons a l ih=>rw[List.map_cons,List.filterMap_cons,e,ih];rfl
theorem wB:∀ ws M Q,cM ws M Q->aax {nx:=λ _ M'=>Q (.d .none) M',rt:=Q} (fG yE ws) M:=by
 rintro ws M Q ⟨ns,rfl,hl,k⟩;refine⟨_,rfl,_,rfl,_,rfl,rfl,_,rfl,?_⟩;have ec:cutD (ns.map PyData.int) none (some 63)=(cutD ns none (some 63)).map PyData.int:=by simp only[cutD,lm,List.map_take,List.map_drop]
 have hlen:(cutD ns none (some 63)).length<=ns.length:=by simp only[cutD,List.length_take,List.length_drop];omega
 have h1000:(1000:Nat)<=sizeLine:=by rw[sizeLine_eq];decide
 dsimp only;refine pL (λ w=>match w with
  | .d (.int n)=>some (.int (if n<0 then -n else n))
  | _=>none) ?hl (λ w hw P' hp=>?_) ?_
 case hl=>rw[lm,ec,lm];omega
 .rw[ec,List.map_map] at hw;obtain⟨n,_,rfl⟩:=List.mem_map.mp hw;exact⟨_,rfl,_,rfl,_,rfl,rfl,hp⟩
 .have e2:(List.map W.d (cutD (ns.map PyData.int) none (some 63))).filterMap (λ w=>match w with
    | .d (.int n)=>some (PyData.int (if n<0 then -n else n))
    | _=>none)=((cutD ns none (some 63)).map λ n=>if n<0 then -n else n).map PyData.int:=by
   rw[ec,List.map_map,adv (W.d ∘ PyData.int) _ (λ n=>PyData.int (if n<0 then -n else n)) (λ n=>rfl),List.map_map];rfl
  rw[e2];refine⟨by simp[sizeLine_eq],λ p hp=>k p _ hp (λ q hq=>ah hq) ⟨0,1234567891,0,_,af,Int.le_refl 0,by decide,by decide,Int.le_refl 0,λ n hn=>?_⟩⟩;obtain⟨m,_,rfl⟩:=List.mem_map.mp hn
  split<;>omega
def oe(z:Str):Bool:=z.cps.all (·<128)
mutual
def big:PyData->Nat
 | .none=>4
 | .bool _=>5
 | .int _=>2000
 | .str z=>10 * z.length+2
 | .list ds=>tT ds+2
 | .tuple ds=>tT ds+3
 | .dict kvs=>ag4 kvs+2
def tT:List PyData->Nat
 | []=>0
 | d::ds=>big d+2+tT ds
def ag4:List (PyData×PyData)->Nat
 | []=>0
 | (k,d)::ds=>big k+2+big d+2+ag4 ds
end
mutual
def fK:PyData->Bool
 | .none=>true
 | .bool _=>true
 | .int i=>decide (i.natAbs.log2<1920)
 | .str z=>oe z
 | .list ds=>nF ds
 | .tuple ds=>nF ds
 | .dict kvs=>wN kvs
def nF:List PyData->Bool
 | []=>true
 | d::ds=>fK d&&nF ds
def wN:List (PyData×PyData)->Bool
 | []=>true
 | (k,d)::ds=>fK k&&fK d&&wN ds
end
theorem sZ:∀ ts:List Str,(listText ts).length<=piled ts+2
 | []=>by decide +kernel
 | t::r=>by
  have h:=textFrom_length_pos r 1 (("[" : Str)++(if (0:Nat) > 0 then ", " else "" : String)++t) (Nat.succ_pos 0);have e:((("[" : Str)++(if (0:Nat) > 0 then ", " else "" : String)++t)).length=1+t.length:=by rw[strLen_append,strLen_append];rfl
  have hX:(listText (t::r)).length=(textFrom 0 "[" (t::r)).length+1:=by show(textFrom 0 "[" (t::r) ++ "]").length=_;rw[strLen_append];rfl
  have h2:(textFrom 0 "[" (t::r)).length=(1+t.length)+piled r:=by rw[<- e];exact h
  have h3:piled (t::r)=t.length+2+piled r:=by simp[piled]
  omega
theorem join_le(ts:List Str):(Str.join ", " ts).length<=piled ts:=by
 cases ts with
 | nil=>decide +kernel
 | cons t r=>have:=join_length_add (t::r) (by simp);omega
theorem rp(ts:List Str):(tupleText ts).length<=piled ts+3:=by
 unfold tupleText;rw[strLen_append,strLen_append];have e1:((("(" : String):Str)).length=1:=rfl;have e3:(((if ts.length==1 then ",)" else ")" : String):Str)).length<=2:=by split<;>decide
 have:=join_le ts;omega
theorem tI(ts:List Str):(dictText ts).length<=piled ts+2:=by
 unfold dictText;rw[strLen_append,strLen_append];have e1:((("{" : String):Str)).length=1:=rfl;have e2:((("}" : String):Str)).length=1:=rfl;have:=join_le ts;omega
theorem aec{i:Int}(h:i.natAbs.log2<1920):(Str.ofString (toString i)).length<=2000:=by have e:=int_text_length_le (k:=1920) (by decide) h;rw[PySem.ofString_length];omega
theorem repr_len(h:oe z=true):(reprText z).length<=10 * z.length+2:=StrLaws.reprText_len z λ c hc=>by
 have:=Array.all_eq_true_iff_forall_mem.mp h c (by simpa using hc);have h2:c<128:=by simpa using this
 omega
mutual
theorem shown_le:∀ d:PyData,fK d=true->d.shown.length<=big d
 | .none,_=>by rw[PyData.shown];decide +kernel
 | .bool b,_=>by rw[PyData.shown];cases b<;>decide +kernel
 | .int i,h=>by rw[PyData.shown];exact aec (by simpa [fK] using h)
 | .str z,h=>by rw[PyData.shown,big];exact repr_len (by simpa [fK] using h)
 | .list ds,h=>by have h1:=mN ds (by simpa [fK] using h);have h2:=sZ (PyData.shownAll ds);rw[PyData.shown,big];omega
 | .tuple ds,h=>by have h1:=mN ds (by simpa [fK] using h);have h2:=rp (PyData.shownAll ds);rw[PyData.shown,big];omega
 | .dict ds,h=>by have h1:=rQ ds (by simpa [fK] using h);have h2:=tI (PyData.shownKv ds);rw[PyData.shown,big];omega
theorem mN:∀ ds:List PyData,nF ds=true->piled (PyData.shownAll ds)<=tT ds
 | [],_=>by simp[PyData.shownAll,piled,tT]
 | d::ds,h=>by simp only[nF,ae00] at h;have h1:=shown_le d h.1;have h2:=mN ds h.2;simp only[PyData.shownAll,piled_cons,tT];omega
theorem rQ:∀ ds:List (PyData×PyData),wN ds=true->piled (PyData.shownKv ds)<=ag4 ds
 | [],_=>by simp[PyData.shownKv,piled,ag4]
 | (k,d)::ds,h=>by simp only[wN,ae00] at h;have h1:=shown_le k h.1.1;have h3:=shown_le d h.1.2;have h2:=rQ ds h.2;have e:((((": " : String):Str))).length=2:=rfl;simp only[PyData.shownKv,piled_cons,ag4,strLen_append,e];omega
end
mutual
theorem i6:∀ d:PyData,fK d=true->d.showable=true
 | .none,_=>by simp[PyData.showable]
 | .bool b,_=>by simp[PyData.showable]
 | .int i,h=>by simpa [PyData.showable,fK] using h
 | .str z,h=>by simp[PyData.showable]
 | .list ds,h=>by simpa [PyData.showable] using jk ds (by simpa [fK] using h)
 | .tuple ds,h=>by simpa [PyData.showable] using jk ds (by simpa [fK] using h)
 | .dict ds,h=>by simpa [PyData.showable] using nK ds (by simpa [fK] using h)
theorem jk:∀ ds:List PyData,nF ds=true->PyData.showableAll ds=true
 | [],_=>by simp[PyData.showableAll]
 | d::ds,h=>by simp only[nF,ae00] at h;simp[PyData.showableAll,i6 d h.1,jk ds h.2]
theorem nK:∀ ds:List (PyData×PyData),wN ds=true->PyData.showableKv ds=true
 | [],_=>by simp[PyData.showableKv]
 | (k,d)::ds,h=>by simp only[wN,ae00] at h;simp[PyData.showableKv,i6 k h.1.1,i6 d h.1.2,nK ds h.2]
end
theorem s16:(1000000:Nat)<=sizeLine:=by rw[sizeLine_eq];decide
theorem af5(h:fK d=true)(hb:big d<=1000000)(hd:d.depth<=60)(hk:d.hasDict=false):dE d=true:=by have h1:=i6 d h;have h2:=shown_le d h;have h3:=s16;simp only[dE,h1,Bool.true_and,ae00,decide_eq_true_eq,Bool.or_eq_true,Bool.not_eq_true'];exact⟨⟨by omega,hd⟩,.inl hk⟩
end D
namespace D
open L2
theorem log2_small(h:n<2 ^ 100):n.log2<1920:=by
 by_cases h0:n=0
 .subst h0;decide
 .exact Nat.lt_of_lt_of_le ((Nat.log2_lt h0).mpr h) (by decide)
theorem few(h:n<=1000):n<=sizeLine:=by have:=s16;omega
theorem Inv.swap(I:Inv X pins σ H s)(h:H a=some u)(n1:∀ xs,u ≠ .tup xs)(n2:∀ x,u ≠ .own x)(b1:∀ xs,X.H₀ a≠some (.tup xs))(b2:∀ o v,X.H₀ a≠some (.frz o v))(b3:∀ ps,X.H₀ a≠some (.tbl ps))
  (new:cF X.prog X.w (upd H a u') s.heap a u'):Inv X pins σ (upd H a u') s:=by
 have nn:∀ b,H b=none->b≠a:=λ b e z=>by rw[z,h] at e;cases e
 refine⟨I.ok,I.os,I.bare,⟨I.base.keep,I.base.slot,λ b ob q n x=>?_,I.base.there,λ b xs q=>?_,λ b ob v q=>?_,λ b ps q=>?_⟩,I.loc,I.cell,?_,λ x c q=>?_,λ p hp=>?_,λ b v q=>?_,I.len⟩
 .have:=I.base.free b ob q n x;rw[ai (nn b this)];exact this
 .rw[ai (λ z:b=a=>b1 xs (by rw[<- z];exact q))];exact I.base.sO b xs q
 .rw[ai (λ z:b=a=>b2 ob v (by rw[<- z];exact q))];exact I.base.frzs b ob v q
 .rw[ai (λ z:b=a=>b3 ps (by rw[<- z];exact q))];exact I.base.tbls b ps q
 .rw[ai (nn _ I.free)];exact I.free
 .have:=I.freeC x c q;rw[ai (nn c this)];exact this
 .obtain⟨p1,p2,p3⟩:=I.pin p hp;exact⟨p1,by rw[ai (nn _ p2)];exact p2,p3⟩
 .by_cases hb:b=a
  .subst hb;rw[aj] at q;cases q;exact new
  .rw[ai hb] at q;refine(I.hok b v q).xA (λ _ _ _ q=>q) (λ c r=>?_) λ c xs r=>?_
   .rw[ai (λ z=>by rw[z,h] at r;exact n2 _ (Option.some.inj r))];exact r
   .rw[ai (λ z=>by rw[z,h] at r;exact n1 _ (Option.some.inj r))];exact r
theorem jH(I:Inv X pins σ H s)(h:H a=some (.dK l)):(∀ xs,X.H₀ a≠some (.tup xs))/\(∀ o v,X.H₀ a≠some (.frz o v))/\∀ ps,X.H₀ a≠some (.tbl ps):=by
 refine⟨λ xs e=>?_,λ o v e=>?_,λ ps e=>?_⟩
 .have:=I.base.sO a xs e;rw[h] at this;cases this
 .have:=I.base.frzs a o v e;rw[h] at this;cases this
 .obtain⟨m,this⟩:=I.base.tbls a ps e;rw[h] at this;cases this
theorem Inv.zu(I:Inv X pins σ H s)(h:H a=some (.dK l)):∃ o,Inv X pins σ (upd H a (.frz o (.frz o (.dK l)))) s:=by have f:Fz (.dK l):=trivial;obtain⟨o,ho⟩:=(I.hok a _ h).obj f;obtain⟨b1,b2,b3⟩:=jH I h;exact⟨o,Inv.swap I h (λ _ z=>nomatch z) (λ _ z=>nomatch z) b1 b2 b3 ⟨ho,ho,(I.hok a _ h).ahU f⟩⟩
theorem Inv.again(I0:Inv X pins σ0 H0 s0)(h0:H0 a=some (.dK l))(I:Inv X pins σ H s)(h:H a=some (.frz o (.frz o (.dK l)))):Inv X pins σ (upd H a (.dK l)) s:=by have f:Fz (.dK l):=trivial;obtain⟨b1,b2,b3⟩:=jH I0 h0;exact Inv.swap I h (λ _ z=>nomatch z) (λ _ z=>nomatch z) b1 b2 b3 ((I.hok a _ h).2.2.ahU f)
def ahc(t:TE):TE:=λ σ H Q=>∃ a l,H a=some (.dK l)/\∀ o,t σ (upd H a (.frz o (.frz o (.dK l)))) λ v H'=>H' a=some (.frz o (.frz o (.dK l)))/\Q v (upd H' a (.dK l))
theorem abj(h:PE X e t):PE X e (ahc t):=by intro pins s σ H Q I ⟨a,l,ha,q⟩;obtain⟨o,I1⟩:=Inv.zu I ha;exact thn (h pins s σ _ _ I1 (q o)) λ v s1 ⟨x,H',I2,r,e,q2⟩=>⟨x,_,Inv.again I ha I2 e,r,q2⟩
section
variable {K:FG}{H:Hp}{a:Addr}{o:Obj}{l:List (Key×V)}
theorem Kp.back(h:H a=some (.frz o (.frz o (.dK l)))):(∀ b xs,H b=some (.tup xs)->upd H a (.dK l) b=some (.tup xs))/\(∀ b ob ys,H b=some (.frz ob (.lst ys))->upd H a (.dK l) b=some (.frz ob (.lst ys)))/\∀ b ob ys,H b=some (.frz ob (.dK ys))->upd H a (.dK l) b=some (.frz ob (.dK ys)):=by
 refine⟨λ b xs e=>?_,λ b ob ys e=>?_,λ b ob ys e=>?_⟩<;>
 .rw[ai (λ z=>by rw[z,h] at e;cases e)];exact e
theorem SqT.back(h:H a=some (.frz o (.frz o (.dK l))))(r:SqT K H b vs):SqT K (upd H a (.dK l)) b vs:=by
 rcases r with (r | ⟨ob,r⟩) | r
 .exact .inl (.inl ((Kp.back h).1 _ _ r))
 .refine .inl (.inr ⟨ob,?_⟩);rw[ai (λ z=>by rw[z,h] at r;cases r)];exact r
 .exact .inr r
theorem SqF.back(h:H a=some (.frz o (.frz o (.dK l))))(r:SqF K H b vs):SqF K (upd H a (.dK l)) b vs:=by
 rcases r with ⟨ob,r⟩ | r
 .exact .inl ⟨ob,(Kp.back h).2.1 _ _ _ r⟩
 .exact .inr r
mutual
theorem aB.back(h:H a=some (.frz o (.frz o (.dK l)))):∀ {d:PyData} {v:V},aB K H d v->aB K (upd H a (.dK l)) d v
 | .none,v,r=>by simp only[aB] at r ⊢;exact r
 | .bool b,v,r=>by simp only[aB] at r ⊢;exact r
 | .int i,v,r=>by simp only[aB] at r ⊢;exact r
 | .str x,v,r=>by simp only[aB] at r ⊢;exact r
 | .list ds,v,r=>by simp only[aB] at r ⊢;obtain⟨b,vs,e,q,r⟩:=r;exact⟨b,vs,e,SqF.back h q,aX.back h r⟩
 | .tuple ds,v,r=>by simp only[aB] at r ⊢;obtain⟨b,vs,e,q,r⟩:=r;exact⟨b,vs,e,SqT.back h q,aX.back h r⟩
 | .dict kvs,v,r=>by simp only[aB] at r ⊢;obtain⟨b,ob,m,e,q,r⟩:=r;exact⟨b,ob,m,e,(Kp.back h).2.2 _ _ _ q,i8.back h r⟩
theorem aX.back(h:H a=some (.frz o (.frz o (.dK l)))):∀ {ds:List PyData} {vs:List V},aX K H ds vs->aX K (upd H a (.dK l)) ds vs
 | [],vs,r=>by simp only[aX] at r ⊢;exact r
 | d::ds,vs,r=>by simp only[aX] at r ⊢;obtain⟨v,q,e,h1,h2⟩:=r;exact⟨v,q,e,aB.back h h1,aX.back h h2⟩
theorem i8.back(h:H a=some (.frz o (.frz o (.dK l)))):∀ {ds:List (PyData×PyData)} {m:List (Key×V)},i8 K H ds m->i8 K (upd H a (.dK l)) ds m
 | [],m,r=>by simp only[i8] at r ⊢;exact r
 | (key,d)::ds,m,r=>by simp only[i8] at r ⊢;obtain⟨k',v,q,e,ek,h1,h2⟩:=r;exact⟨k',v,q,e,ek,aB.back h h1,i8.back h h2⟩
end
theorem aJ.back(h:H a=some (.frz o (.frz o (.dK l)))):∀ {w:W} {v:V},aJ K H w v->aJ K (upd H a (.dK l)) w v
 | .d _,_,r=>aB.back h r
 | .m _,_,r=>r
 | .t _,_,r=>r
theorem cB.back(h:H a=some (.frz o (.frz o (.dK l))))(m:cB K H M)(e:M a=some (.fdic kvs)):cB K (upd H a (.dK l)) (aS M a (.dic kvs)):=λ b mo q=>by
 by_cases hb:b=a
 .subst hb;rw[af] at q;cases q;obtain⟨o',l',e',pr⟩:=m _ _ e;rw[h] at e';cases e';exact⟨l,aj,Paired.fD pr λ p q z=>⟨z.1,aJ.back h z.2⟩⟩
 .rw[ah hb] at q;have r:=m b mo q;cases mo with
  | lst ws=>obtain⟨vs,e,r⟩:=r;exact⟨vs,by rw[ai hb];exact e,Paired.fD r λ _ _ z=>aJ.back h z⟩
  | dic kvs=>obtain⟨l,e,r⟩:=r;exact⟨l,by rw[ai hb];exact e,Paired.fD r λ p q z=>⟨z.1,aJ.back h z.2⟩⟩
  | dct kvs=>obtain⟨l,e,r⟩:=r;exact⟨l,by rw[ai hb];exact e,Paired.fD r λ p q z=>⟨z.1,aJ.back h z.2⟩⟩
  | fdic kvs=>obtain⟨o,l,e,r⟩:=r;exact⟨o,l,by rw[ai hb];exact e,Paired.fD r λ p q z=>⟨z.1,aJ.back h z.2⟩⟩
  | ins C fs=>obtain⟨dx,l,e,r⟩:=r;exact⟨dx,l,by rw[ai hb];exact e,Paired.fD r λ p q z=>⟨z.1,aJ.back h z.2⟩⟩
  | tup ws=>obtain⟨vs,e,r⟩:=r;exact⟨vs,by rw[ai hb];exact e,Paired.fD r λ _ _ z=>aJ.back h z⟩
  | flst ws=>obtain⟨o,vs,e,r⟩:=r;exact⟨o,vs,by rw[ai hb];exact e,Paired.fD r λ _ _ z=>aJ.back h z⟩
  | exc C fs =>
   obtain⟨φ,dct,e,p,r⟩:=r;refine⟨φ,dct,by rw[ai hb];exact e,p,?_⟩;rcases r with r | ⟨dx,o',l',e1,e2,r⟩
   .exact .inl r
   .exact .inr ⟨dx,o',l',e1,by rw[ai (λ z=>by rw[z,h] at e2;cases e2)];exact e2,Paired.fD r λ p q z=>⟨z.1,aJ.back h z.2⟩⟩
  | code q pos =>
   obtain⟨ps,e,ht,hc⟩:=r;refine⟨ps,by rw[ai hb];exact e,ht,?_⟩;rcases hc with hc | ⟨c,o',vs,t,e1,e2,e3⟩
   .exact .inl hc
   .exact .inr ⟨c,o',vs,t,e1,by rw[ai (λ z=>by rw[z,h] at e2;cases e2)];exact e2,e3⟩
end
def uO(t:TD)(τ:DS)(M:MH)(Q:QD):Prop:=∃ a kvs,M a=some (.dic kvs)/\t τ (aS M a (.fdic kvs)) λ v M'=>M' a=some (.fdic kvs)/\Q v (aS M' a (.dic kvs))
theorem acu(h:PD X e t):PD X e (uO t):=fN (abj h) λ σ H Q hq79=>by
 obtain⟨τ,M,Qd,A,⟨a,kvs,hm,q⟩,k⟩:=hq79;obtain⟨l,e,pr⟩:=A.mem _ _ hm;refine⟨a,l,e,λ o=>?_⟩;have kp:Kp H (upd H a (.frz o (.frz o (.dK l)))):=Kp.set e (λ _ z=>nomatch z) (λ _ _ z=>nomatch z);have m1:cB X.K (upd H a (.frz o (.frz o (.dK l)))) (aS M a (.fdic kvs)):=A.mem.put (mo:=.fdic kvs) kp ⟨o,l,aj,Paired.fD pr λ p q z=>⟨z.1,z.2.keep kp⟩⟩;refine⟨τ,_,_,A.go kp m1,q,λ v H' w M' kp' r' m' hq80=>?_⟩;obtain⟨h1,q1⟩:=hq80;have e':=kp'.frz a o _ aj;refine⟨e',k _ _ w _ ⟨λ b xs z=>?_,λ b ob u z=>?_⟩ (aJ.back e' r') (cB.back e' m' h1) q1⟩
 .have hb:b≠a:=λ y=>by rw[y,e] at z;cases z
  rw[ai hb];exact kp'.tup b xs (by rw[ai hb];exact z)
 .have hb:b≠a:=λ y=>by rw[y,e] at z;cases z
  rw[ai hb];exact kp'.frz b ob u (by rw[ai hb];exact z)
def adh(_:DS)(_:MH)(_:QD):Prop:=False
end D
namespace D
open L2
theorem Inv.aiJ{D:Addr}{ys:List V}{us:List Value}{n:Nat}(I:Inv X pins σ H s)(e:s.heap.get? D=some {cls:=.type "tuple",data:=.seq us.toArray n})(hn:H D=none)(hv:Vals ys us)(hz:ys.length<=sizeLine)
  (h0:D∈X.ex\/X.s₀.heap.objs.size<=D)(hL:D≠X.env.locals)(hc:∀ x c,X.env.cells.lookup x=some c->c≠D)(hp:∀ p∈X.pn++pins,p.1≠D):Inv X pins σ (upd H D (.tup ys)) s:=by
 have ne:∀ b u,H b=some u->b≠D:=λ b u q=>aR q hn;refine I.step (h':=s.heap) (g':=s.gens) (d':=s.drawn) (t':=s.toks) (ch:=[D]) (λ b hb=>?_) (λ b o _ _ _ q _=>q) (λ b o _ _ _ q _=>⟨o.slots,q⟩) (λ b o hb q n=>?_) (λ b o _ q=>⟨o,q⟩)
  (λ b xs q=>by rw[ai (ne b _ q)];exact q) (λ b o u q=>by rw[ai (ne b _ q)];exact q) (λ b ps q=>⟨#[],by rw[ai (ne b _ q),q];simp⟩) (λ m hm=>hm) (λ b u q=>?_) I.bare
 .have e:b=D:=by simpa using hb
  subst e;exact⟨h0,hL,hc,hp⟩
 .rw[ai (λ z=>hb (by simp[z]))];exact n
 .by_cases hb:b=D
  .subst hb;rw[aj] at q;cases q;exact⟨hz,us,hv,⟨_,e,rfl,rfl,n,rfl⟩⟩
  .rw[ai hb] at q;exact(I.hok b u q).xA (λ _ _ _ q=>q) (λ c r=>by rw[ai (ne c _ r)];exact r) λ c xs r=>by rw[ai (ne c _ r)];exact r
abbrev lN(o:Obj)(l:List (Key×V)):HO:=.frz o (.frz o (.dK l))
theorem dy{P:Program}{w:World}{H:Hp}{h:Heap}{a:Addr}{o:Obj}{l:List (Key×V)}(ok:HOk P w H h)(e:H a=some (lN o l)):(a==sysModules)=false/\∃ vs es ep,KV l vs/\o.data=.dict es ep/\h.DictAt (a9 P w) a vs ep:=by obtain⟨ho,_,z,hd,vs,rel,o',es,ep,h1,h2,h3,h4⟩:=ok a _ e;rw[ho] at h1;cases h1;exact⟨hd,vs,es,ep,rel,h3,o,es,ho,h2,h3,h4⟩
def Itd(a:Addr)(o:Obj)(l:List (Key×V)):It:=
 ⟨λ i H=>H a=some (lN o l)/\i<l.length,λ i H x H'=>∃ T kv,l[i]? =some kv/\H T=none/\x=.ref T/\H'=upd H T (.tup [kV kv.1,kv.2]),λ i H=>H a=some (lN o l)/\l.length<=i⟩
theorem ahK{κ:Type}[DecidableEq κ]{l:List (κ×V)}{vs:List (κ×Value)}(r:KV l vs){i:Nat}(h:i<l.length):∃ kv k v,l[i]? =some kv/\vs[i]? =some (k,v)/\kv.1=k/\RelV kv.2 v:=by
 unfold KV at r
 induction r generalizing i with
 | nil=>simp at h
 | @cons p q ps qs hp t ih =>
  cases i with
  | zero=>exact⟨p,q.1,q.2,rfl,rfl,hp.1,hp.2⟩
  | succ i =>
   obtain⟨kv,k,v,e1,e2,e3,e4⟩:=ih (i:=i) (by simpa using h);exact⟨kv,k,v,by simpa using e1,by simpa using e2,e3,e4⟩
theorem ahq{P:Program}{w:World}{k:Key}{u:Value}(h:(a9 P w).is k u=true):RelV (kV k) u:=by
 cases k with
 | inl i =>
  have h':Value.isInt i u=true:=h;unfold Value.isInt at h'
  split at h'
  .rename_i j t
   have:j=i:=by simpa using h'
   subst this;exact⟨t,rfl⟩
  .cases h'
 | inr x =>
  have h':Value.isStrOf x u=true:=h;unfold Value.isStrOf at h'
  split at h'
  .rename_i j t
   have:j=x:=by simpa using h'
   subst this;exact⟨t,rfl⟩
  .cases h'
theorem ue{P:Program}{w:World}{K:FG}{elts:List Expr}{x1:Nat}{tpos:Pos}(a it:Addr)(o:Obj)(l:List (Key×V))(es:Array DictEntry)(ep:Nat)(ho:o.data=.dict es ep) :
  Turn P w K (.Tuple elts x1 tpos) (Itd a o l) [it] it (λ i h=>∃ ok ov,IsItemIter h it a i l.length ep ok ov) where
 mem:=by simp
 obj:=λ i h st b hb=>by
  have e:b=it:=by simpa using hb
  subst e;obtain⟨ok,ov,st⟩:=st;exact⟨_,st,λ v z=>by cases z⟩
 keep:=λ i h h' ⟨ok,ov,st⟩ k=>⟨ok,ov,k it (by simp) _ st⟩
 item:=by
  intro X hP hw hK hc i pins s σ H E I hf ⟨ok,ov,st⟩ ⟨hg,hi⟩;subst hP hw hK;obtain⟨f0,f1,f2,f3,f4,f5⟩:=hf it (by simp);obtain⟨hd,vs,es',ep',rel,ho',da⟩:=dy I.hok hg;rw[ho] at ho';cases ho';obtain⟨kv,k,v,e1,e2,e3,e4⟩:=ahK rel hi;have hl:l.length=vs.length:=rel.length;rw[hl] at st;refine wpAny_pyNext_items_item st da e2 λ key h' hk st' ht hsz kp=>?_;refine⟨_,rfl,wpAny_letOwnedTupleGo_items st' λ h'' st'' sb=>?_⟩;have T:=I.uY (lr0 _) (I.hok.fresh (lr0 _));obtain⟨t0,t1,t2,t3,t4,t5⟩:=T;have hit:it<s.heap.objs.size:=Heap.lt_size st;have nT:s.heap.objs.size≠it:=Nat.ne_of_gt hit;have I1:Inv X pins σ H {s with heap:=h''}:=I.turned (t':=s.toks) (λ b ob hb e=>(sb.2 b hb).trans (kp b ob hb e)) f0 f1 f3 f4 f5;have eT:h''.get? s.heap.objs.size=some {cls:=.type "tuple",data:=.seq #[key,v]}:=(sb.2 _ nT).trans ht;have I2:=Inv.aiJ (us:=[key,v]) (ys:=[kV kv.1,kv.2]) I1 eT t0 (.cons (by rw[e3];exact ahq hk) (.cons e4 .nil)) (by simp;have:=s16;omega) t3 t1 t4 t5;refine⟨.ref s.heap.objs.size,_,I2,rfl,⟨_,kv,e1,t0,rfl,rfl⟩,⟨_,_,by rw[hl];exact st''⟩,λ b hb=>?_⟩;have e:b=it:=by simpa using hb
  subst e;rw[ai nT.symm];exact f0
 done:=by intro X hP hw hK hc i pins s σ H E I hf ⟨ok,ov,st⟩ ⟨hg,hi⟩;subst hP hw hK;obtain⟨f0,f1,f2,f3,f4,f5⟩:=hf it (by simp);obtain⟨hd,vs,es',ep',rel,ho',da⟩:=dy I.hok hg;rw[ho] at ho';cases ho';have hl:l.length=vs.length:=rel.length;rw[hl] at st hi;exact wpAny_pyNext_items_end (I.ok.hd hc) st da (List.getElem?_eq_none hi) λ h' eb=>⟨rfl,I.turned (t':=s.toks) (λ b o hb e=>eb b o hb e) f0 f1 f3 f4 f5⟩
 self:=λ _ _ _ _ _ ⟨ok,ov,st⟩ h=>W.kcp_self st h
def aef(td:TE):TI:=λ σ H R=>td σ H λ x H1=>∃ a o l,x=.ref a/\H1 a=some (lN o l)/\R (Itd a o l) H1
theorem aa2{elts:List Expr}{x1:Nat}{tpos:Pos}(ho:PE X o td)(hbase:attributeBase o "items" X.env (eval o X.env)=eval o X.env:=by rfl)(hline:(apos.endLine==cpos.line)=true:=by rfl) :
  PI X (.Tuple elts x1 tpos) (.Call (.Attribute o "items" apos) [] [] cpos) (aef td):=by
 intro pins s σ H R I h;refine wpAny_Call_method0_late hbase hline (thn (ho pins s σ H _ I h) λ v s1 hq81=>?_);obtain⟨x,H1,I1,r1,a,ob,l,ex,hg,q⟩:=hq81;subst ex;cases r1;obtain⟨hd,vs,es,ep,rel,hdat,da⟩:=dy I1.hok hg;have dd:s1.heap.DictOf (a9 X.prog X.w) a vs:=let ⟨o,es,h⟩:=da; ⟨o,es,ep,h⟩;have hnd:∀ b,Value.ref a=.ref b->∃ ob,s1.heap.get? b=some ob/\ob.dict=none:=λ b e=>by
  cases e;obtain⟨oo,es',h1,h2,_⟩:=da;exact⟨oo,h1,h2.2.1⟩
 refine⟨"dict", "dict.items",PySem.F.plainAttrs_dict,PySem.F.slot_dict_items,PySem.F.type_dict_items,dd.typeIs,hnd,Calls.callWith_builtin rfl (PySem.evalArgs_none ?_)⟩;refine call_meetsIn PySem.F.slot_dict_items dd.typeIs PySem.F.entry_dict_items (PySem.F.args_dict_items_1 _) (meets_dict_items (a9 X.prog X.w) a hd) ⟨⟨vs,dd⟩,?_⟩;have I2:Inv X pins σ H1 {s1 with heap:=s1.heap.push {cls:=.type "dict_items",data:=.fields #[.ref a]}}:=I1.kept (t':=s1.toks) λ b o e=>Heap.get?_push_of_some _ e;obtain⟨_,vs2,es2,ep2,rel2,hdat2,da2⟩:=dy I2.hok hg;rw[hdat] at hdat2;cases hdat2;refine wpAny_pyIter_items ⟨_,Heap.get?_push_size _ rfl,rfl,rfl⟩ da2 ?_;refine⟨_,[_],_,_,H1,rfl,I2.kept (t':=s1.toks) λ b o e=>Heap.get?_push_of_some _ e,ue a _ ob l es ep hdat,⟨.none,.none,?_⟩,λ b hb=>?_,q⟩
 .have:=Heap.get?_push_size (s1.heap.push {cls:=.type "dict_items",data:=.fields #[.ref a]}) (o:={cls:=.type "dict_itemiterator",data:=.fields #[.none,.bool false,.ref a,.int 0 0,.int (vs2.length:Nat) 0,.int (ep:Nat) 0,.none,.none]}) rfl;rw[rel2.length];exact this
 .rw[List.mem_singleton] at hb;rw[hb];exact I2.uY (lr0 _) (I2.hok.fresh (lr0 _))
section
variable {X:Cx}{K:FG}{tg o:Expr}{apos cpos:Pos}{td:TD}
def gW(kds:List (Key×PyData)):List W:=kds.map λ p=>.d (.tuple [qq p.1,p.2])
def bt(kds:List (Key×PyData)):List (Key×W):=kds.map λ p=>(p.1,.d p.2)
theorem aaS{H:Hp}:∀ {kds:List (Key×PyData)} {l:List (Key×V)},Paired (λ(p:Key×W) (q:Key×V)=>p.1=q.1/\aJ K H p.2 q.2) (bt kds) l->l.length=kds.length/\∀ (i:Nat) kv,l[i]? =some kv->∃ p,kds[i]? =some p/\p.1=kv.1/\aB K H p.2 kv.2
 | [],l,h=>by
  cases h;exact⟨rfl,λ i kv e=>by simp at e⟩
 | p::kds,l,h=>by
  cases h with
  | cons r t =>
   obtain⟨h1,h2⟩:=aaS t;refine⟨by simp[h1],λ i kv e=>?_⟩;cases i with
   | zero =>
    simp at e;subst e;exact⟨p,rfl,r.1,r.2⟩
   | succ i =>
    obtain⟨p',e1,e2⟩:=h2 i kv (by simpa using e);exact⟨p',by simpa using e1,e2⟩
def qa(td:TD)(τ:DS)(M:MH)(R:List W->MH->Prop):Prop:=td τ M λ w M1=>∃ a kds,w=.m a/\M1 a=some (.fdic (bt kds))/\R (gW kds) M1
theorem wA{elts:List Expr}{x1:Nat}{tpos:Pos}(ho:PD X o td)(hbase:attributeBase o "items" X.env (eval o X.env)=eval o X.env:=by rfl)(hline:(apos.endLine==cpos.line)=true:=by rfl) :
  PId X (.Tuple elts x1 tpos) (.Call (.Attribute o "items" apos) [] [] cpos) (qa td):=agA (aa2 ho hbase hline) λ σ H R hq82=>by
 obtain⟨τ,M,Rd,A,h,k⟩:=hq82;refine⟨τ,M,_,A,h,λ v H1 w M1 kp r m hq83=>?_⟩;obtain⟨a,kds,ew,hm,q⟩:=hq83;subst ew;obtain⟨ob,l,e,pr⟩:=m _ _ hm;obtain⟨hlen,hget⟩:=aaS pr;refine⟨a,ob,l,r,e,k _ H1 _ M1 kp m (λ H2 kp2 i=>?_) q⟩;have hlw:(gW kds).length=l.length:=by rw[hlen];simp[gW]
 have e2:=kp2.frz a ob _ e;refine⟨λ hi=>⟨e2,by omega⟩,λ hi=>⟨e2,by omega⟩,λ x H' hi hq84=>?_⟩;obtain⟨T,kv,hkv,hT,ex,eH⟩:=hq84;subst ex eH;obtain⟨p,e3,e4,e5⟩:=hget i kv hkv;have kpn:Kp H2 (upd H2 T (.tup [kV kv.1,kv.2])):=Kp.new hT;refine⟨kpn,λ M m=>m.new hT,.d (.tuple [qq p.1,p.2]),by simp[gW,e3],?_⟩;simp only[aJ,aB,aX];refine⟨T,_,rfl,.inl (.inl aj),_,_,rfl,?_,_,_,rfl,(e5.keep kp2).keep kpn,rfl⟩;rw[e4];cases kv.1<;>simp[qq,kV,aB]
end
theorem zY:bootBuiltins "sorted" = some (.builtin "sorted"):=by decide +kernel
section
variable {X:Cx}{K:FG}
end
section
variable {X:Cx}{K:FG}
theorem ml:dr X (.builtin "isinstance") (λ xs H Q=>∃ x d T,xs=[x,.ty T]/\sH X.K H d x/\Ty6 T/\Q (.bl (tw d T)) H):=by
 intro pins s σ H xs us Q I r h;obtain⟨x,d,T,rfl,rd,h6,q⟩:=h;rcases rd with rd | ⟨a,vs,ds,rfl,rfl,ha,ra⟩
 .exact zF pins s σ H _ us Q I r ⟨x,d,T,rfl,rd,h6,q⟩
 obtain⟨u,w',rfl,rx,ry⟩:=vals2 r;cases (show w'=Value.type T from ry);have e:=ym (K:=X.K) (.list ds) h6;have fin:∀ tk,EP X pins σ Q (.bool (tw (.list ds) T)) {s with toks:=tk}:=λ tk=>⟨.bl _,H,I.tok _,rfl,q⟩;generalize tw (.list ds) T=b at e fin;cases (show u=Value.ref a from rx);obtain⟨its,rv,⟨o,n,e1,e2,e3,e4⟩,hz⟩:=I.list (.inl (.inl ha));exact W.kia_one W.kitx_list I.kIn ⟨_,e1,e2⟩ e (λ z=>nomatch z) fin
def uQ(ws:List W)(M:MH)(Q:QD):Prop:=∃ w d T,ws=[w,.t T]/\aa4 M w d/\Ty6 T/\Q (.d (.bool (tw d T))) M
theorem sY:eK K (λ xs H Q=>∃ x d T,xs=[x,.ty T]/\sH K H d x/\Ty6 T/\Q (.bl (tw d T)) H) uQ:=by intro vs H ws M Qd Q r m ⟨w,d,T,e,g,h6,q⟩ k;subst e;obtain⟨v,v',e1,r1,r2⟩:=zp r;simp only[aJ] at r2;subst r2;exact⟨v,d,T,e1,g.sound r1 m,h6,k _ H (.d (.bool _)) M (Kp.refl H) (by simp[aJ,aB]) m q⟩
end
theorem abd{P:Program}{w:World}{K:FG}{mg:Str->Option Value}{base:Heap}{k:Nat}{f:Addr}{fd:FuncData}{ps:List Str}{sp:SpD}(h:∀ ws M Q,¬ sp ws M Q):ck P w K mg base CX0 k f fd ps (cz K sp):=
 ⟨λ vs H Q E ⟨ws,M,Qd,_,_,q,_⟩=>absurd q (h ws M Qd),λ A outer s H args us vs Q E _ _ _ _ ⟨ws,M,Qd,_,_,q,_⟩=>absurd q (h ws M Qd)⟩
theorem zI(h:Jd (PD X e t)):Jd (PD X e (uO t)):=⟨D.acu (h:=h.h)⟩
theorem aaw:Jd (PD X e adh):=⟨λ pins s σ H Q I ⟨τ,M,Qd,A,h,k⟩=>h.elim⟩
theorem tq(ho:Jd (PD X o td))(hbase:attributeBase o "items" X.env (eval o X.env)=eval o X.env:=by rfl)(hline:(apos.endLine==cpos.line)=true:=by rfl):Jd (PId X (.Tuple elts x1 tpos) (.Call (.Attribute o "items" apos) [] [] cpos) (qa td)):=⟨D.wA (ho:=ho.h) (hbase:=hbase) (hline:=hline)⟩
end D
namespace S
open PySem PySem.W PyProof.Rows
def go{α:Type}(lt:Nat->Nat->Bool):KasT α->α
 | .ret a=>a
 | .ask i j k=>go lt (k (lt i j))
theorem dq{α β:Type}(lt:Nat->Nat->Bool)(f:α->KasT β):∀ t:KasT α,go lt (t.bind f)=go lt (f (go lt t))
 | .ret _=>rfl
 | .ask i j k=>dq lt f (k (lt i j))
structure gH(lt:Nat->Nat->Bool):Prop where
 aeP:∀ a b,lt a b=true->lt b a=false
 tr:∀ a b c,lt b a=false->lt c b=false->lt c a=false
theorem gH.irr(h:gH lt)(a:Nat):lt a a=false:=by
 cases e:lt a a with
 | false=>rfl
 | true=>have:=h.aeP a a e;rw[e] at this;cases this
theorem gH.ab1(h:gH lt){a b c:Nat}(h1:lt a b=true)(h2:lt c b=false):lt a c=true:=by
 cases e:lt a c with
 | true=>rfl
 | false =>
  have:=h.tr b c a h2 e;rw[h1] at this;cases this
theorem gH.agH(h:gH lt){a b c:Nat}(h1:lt b a=false)(h2:lt b c=true):lt a c=true:=by
 cases e:lt a c with
 | true=>rfl
 | false =>
  have:=h.tr c a b e h1;rw[h2] at this;cases this
def B(lt:Nat->Nat->Bool)(a b:Nat):Prop:=lt a b=true\/(lt a b=false/\lt b a=false/\a<b)
theorem B.of_le{a b:Nat}(h:lt b a=false)(h2:a<b):B lt a b:=by
 cases e:lt a b with
 | true=>exact .inl e
 | false=>exact .inr ⟨e,h,h2⟩
theorem B.le(h:gH lt){a b:Nat}(q:B lt a b):lt b a=false:=by
 rcases q with q | q
 .exact h.aeP _ _ q
 .exact q.2.1
theorem B.tr(h:gH lt){a b c:Nat}(q:B lt a b)(r:B lt b c):B lt a c:=by
 rcases q with q | ⟨q1,q2,q3⟩
 .rcases r with r | ⟨r1,r2,r3⟩
  .exact .inl (h.ab1 q (h.aeP _ _ r))
  .exact .inl (h.ab1 q r2)
 .rcases r with r | ⟨r1,r2,r3⟩
  .exact .inl (h.agH q2 r)
  .exact .inr ⟨h.tr _ _ _ r1 q1,h.tr _ _ _ q2 r2,by omega⟩
abbrev g(p:Array Nat)(i:Nat):Nat:=p.getD i 0
theorem vO(p:Array Nat)(i:Nat):g p i=(p[i]?).getD 0:=by simp[g]
theorem nc{p:Array Nat}{i j:Nat}(hj:j<=p.size)(k:Nat):g (kas_rev p i j) k=if i<=k/\k<j then g p (i+j-1-k) else g p k:=by
 rw[vO,vO,vO];unfold kas_rev;rw[getElem?_mirror_all hj k]
 split<;>rfl
theorem ag2{p:Array Nat}{k d:Nat}(hk:k<p.size)(hd:d<=k)(i:Nat):g (bubble p k d) i=if i=k-d then g p k else if k-d<i/\i<=k then g p (i-1) else g p i:=by
 rw[vO,vO,vO,vO,getElem?_bubble hk d hd i]
 split
 .rfl
 .split<;>rfl
structure Un(p:Array Nat)(N n:Nat):Prop where
 size:p.size=N
 lo:∀ i,i<n->g p i<n
 hi:∀ i,n<=i->i<N->g p i=i
theorem Un.rev{p:Array Nat}{N n i j:Nat}(u:Un p N n)(hj:j<=n)(hn:n<=N):Un (kas_rev p i j) N n:=by
 have hs:=u.size;refine⟨(mirror_size _ _ _ _).trans u.size,λ k hk=>?_,λ k hk hk2=>?_⟩
 .rw[nc (by omega)]
  split
  .exact u.lo _ (by omega)
  .exact u.lo _ hk
 .rw[nc (by omega),if_neg (by omega)];exact u.hi k hk hk2
theorem Un.up{p:Array Nat}{N n m:Nat}(u:Un p N n)(h:n<=m)(hm:m<=N):Un p N m:=by
 refine⟨u.size,λ k hk=>?_,λ k hk hk2=>u.hi k (by omega) hk2⟩
 by_cases z:k<n
 .have:=u.lo k z;omega
 .have:=u.hi k (by omega) (by omega);omega
theorem kN{p:Array Nat}{i j:Nat}{l:List Nat}(h:p.toList.Perm l):(kas_rev p i j).toList.Perm l:=(Array.perm_iff_toList_perm.mp (mirror_perm p i j _)).trans h
def Up(lt:Nat->Nat->Bool)(p:Array Nat)(n:Nat):Prop:=∀ i j,i<j->j<n->B lt (g p i) (g p j)
def Dn(lt:Nat->Nat->Bool)(p:Array Nat)(n:Nat):Prop:=∀ i j,i<j->j<n->B lt (g p j) (g p i)
theorem Up.succ(h:gH lt){p:Array Nat}{n:Nat}(u:Up lt p n)(q:0<n->B lt (g p (n-1)) (g p n)):Up lt p (n+1):=by
 intro i j hij hj
 by_cases e:j<n
 .exact u i j hij e
 .have e:j=n:=by omega
  subst e;have q:=q (by omega)
  by_cases z:i=j-1
  .rw[z];exact q
  .exact(u i (j-1) (by omega) (by omega)).tr h q
theorem zi(h:gH lt){p:Array Nat}{N:Nat}:∀ (f n:Nat),n+f<=N->1<=n->Un p N n->Up lt p n ->
  n<=go lt (kas_asc p f n)/\go lt (kas_asc p f n)<=n+f/\Un p N (go lt (kas_asc p f n))/\Up lt p (go lt (kas_asc p f n))/\(go lt (kas_asc p f n)<n+f->lt (g p (go lt (kas_asc p f n))) (g p (go lt (kas_asc p f n)-1))=true)
 | 0,n,hf,h1,u,q=>⟨lr0 _,lr0 _,u,q,λ z=>absurd z (Nat.lt_irrefl _)⟩
 | f+1,n,hf,h1,u,q=>by
  simp only[kas_asc,go];cases e:lt (p.getD n 0) (p.getD (n-1) 0) with
  | true=>exact⟨lr0 _,by simp[go],u,q,λ _=>e⟩
  | false =>
   have hb:B lt (g p (n-1)) (g p n):=B.of_le e (by have:=u.lo (n-1) (by omega);have:=u.hi n (lr0 _) (by omega);omega);have r:=zi h (p:=p) (N:=N) f (n+1) (by omega) (by omega) (u.up (by omega) (by omega)) (q.succ h λ _=>hb);simp only[Bool.false_eq_true,if_false];have e2:n+1+f=n+(f+1):=by omega
   rw[e2] at r;exact⟨by have:=r.1;omega,r.2⟩
structure acN(lt:Nat->Nat->Bool)(p:Array Nat)(n q:Nat):Prop where
 q1:q+1<=n
 dn:∀ i j,i<j->j<n-1-q->B lt (g p j) (g p i)
 cr:∀ i j,i<n-1-q->n-1-q<=j->j<n->lt (g p j) (g p i)=true
 bl:∀ i j,n-1-q<=i->i<j->j<n->B lt (g p i) (g p j)/\lt (g p i) (g p j)=false
theorem acN.ahQ{p:Array Nat}{n:Nat}(x:acN lt p n 0):Dn lt p n:=λ i j hij hj=>by
 have:=x.q1
 by_cases e:j<n-1-0
 .exact x.dn i j hij e
 .exact .inl (x.cr i j (by omega) (by omega) hj)
theorem acN.rev{p:Array Nat}{n q N:Nat}(x:acN lt p n q)(hN:n<=p.size):Dn lt (kas_rev p (n-(q+1)) n) n:=λ i j hij hj=>by
 have:=x.q1;rw[nc hN,nc hN]
 by_cases e1:n-(q+1)<=i/\i<n
 .rw[if_pos e1,if_pos ⟨by omega,hj⟩];exact(x.bl _ _ (by omega) (by omega) (by omega)).1
 .rw[if_neg e1]
  by_cases e2:n-(q+1)<=j/\j<n
  .rw[if_pos e2];exact .inl (x.cr _ _ (by omega) (by omega) (by omega))
  .rw[if_neg e2];exact x.dn i j hij (by omega)
theorem Dn.agG(h:gH lt){p:Array Nat}{n:Nat}(h1:1<=n)(x:Dn lt p n)(q:lt (g p n) (g p (n-1))=true):acN lt p (n+1) 0:=by
 refine⟨by omega,λ i j hij hj=>x i j hij (by omega),λ i j hi hj hj2=>?_,λ i j hi hij hj=>by omega⟩;have e:j=n:=by omega
 subst e
 by_cases z:i=j-1
 .rw[z];exact q
 .exact h.ab1 q ((x i (j-1) (by omega) (by omega)).le h)
theorem pQ(h:gH lt){N:Nat}:∀ (f:Nat) (p:Array Nat) (n q:Nat),n+f<=N->Un p N n->p.toList.Perm (List.range N)->acN lt p n q ->
  n<=(go lt (kas_desc f p n q)).2.1/\(go lt (kas_desc f p n q)).2.1<=n+f/\Un (go lt (kas_desc f p n q)).1 N (go lt (kas_desc f p n q)).2.1/\(go lt (kas_desc f p n q)).1.toList.Perm (List.range N)/\acN lt (go lt (kas_desc f p n q)).1 (go lt (kas_desc f p n q)).2.1 (go lt (kas_desc f p n q)).2.2
 | 0,p,n,q,hf,u,hp,x=>⟨lr0 _,lr0 _,u,hp,x⟩
 | f+1,p,n,q,hf,u,hp,x=>by
  have hs:=u.size;have hq1:=x.q1;simp only[kas_desc,go];cases e:lt (p.getD n 0) (p.getD (n-1) 0) with
  | true =>
   simp only[if_true]
   by_cases hq:q > 0
   .rw[if_pos hq];have e2:lt (g (kas_rev p (n-(q+1)) n) n) (g (kas_rev p (n-(q+1)) n) (n-1))=true:=by
     rw[nc (by omega),nc (by omega),if_neg (by omega),if_pos (by omega)]
     by_cases z:n-(q+1)+n-1-(n-1)=n-1
     .rw[z];exact e
     .exact h.ab1 e (x.bl _ (n-1) (by omega) (by omega) (by omega)).2
    have r:=pQ h f (kas_rev p (n-(q+1)) n) (n+1) 0 (by omega) ((u.rev (lr0 _) (by omega)).up (by omega) (by omega)) (kN hp) ((x.rev (N:=N) (by omega)).agG h (by omega) e2);exact⟨by have:=r.1;omega,by have:=r.2.1;omega,r.2.2⟩
   .rw[if_neg hq];have eq0:q=0:=by omega
    subst eq0;have r:=pQ h f p (n+1) 0 (by omega) (u.up (by omega) (by omega)) hp (x.ahQ.agG h (by omega) e);exact⟨by have:=r.1;omega,by have:=r.2.1;omega,r.2.2⟩
  | false =>
   simp only[Bool.false_eq_true,if_false,go];cases e2:lt (p.getD (n-1) 0) (p.getD n 0) with
   | true=>exact⟨lr0 _,by simp[go],u,hp,x⟩
   | false =>
    simp only[Bool.false_eq_true,if_false];have lo:=u.lo;have hin:=u.hi n (lr0 _) (by omega);have r:=pQ h f p (n+1) (q+1) (by omega) (u.up (by omega) (by omega)) hp ⟨by omega,λ i j hij hj=>x.dn i j hij (by omega),λ i j hi hj hj2=>?_,λ i j hi hij hj=>?_⟩
    .exact⟨by have:=r.1;omega,by have:=r.2.1;omega,r.2.2⟩
    .by_cases z:j<n
     .exact x.cr i j (by omega) (by omega) z
     .have z:j=n:=by omega
      subst z;exact h.agH e2 (x.cr i (j-1) (by omega) (by omega) (by omega))
    .by_cases z:j<n
     .exact x.bl i j (by omega) hij z
     .have z:j=n:=by omega
      subst z;have le1:lt (g p j) (g p i)=false:=by
       by_cases y:i=j-1
       .rw[y];exact e
       .exact h.tr _ _ _ ((x.bl i (j-1) (by omega) (by omega) (by omega)).1.le h) e
      have le2:lt (g p i) (g p j)=false:=by
       by_cases y:i=j-1
       .rw[y];exact e2
       .exact h.tr _ _ _ e2 (x.bl i (j-1) (by omega) (by omega) (by omega)).2
      exact⟨B.of_le le1 (by have:=lo i (by omega);omega),le2⟩
theorem Dn.up{p:Array Nat}{n:Nat}(x:Dn lt p n)(hN:n<=p.size):Up lt (kas_rev p 0 n) n:=λ i j hij hj=>by rw[nc hN,nc hN,if_pos (by omega),if_pos (by omega)];exact x _ _ (by omega) (by omega)
def Cnt(lt:Nat->Nat->Bool)(N:Nat)(r:Nat×Array Nat):Prop:=1<=r.1/\r.1<=N/\Un r.2 N r.1/\r.2.toList.Perm (List.range N)/\Up lt r.2 r.1
theorem vh(h:gH lt){N n:Nat}{p:Array Nat}(h1:1<=n)(hn:n<=N)(u:Un p N n)(hp:p.toList.Perm (List.range N))(x:Dn lt p n):Cnt lt N (go lt (kas_tail3 n N p)):=by
 unfold kas_tail3;rw[dq];have hs:=u.size;have r:=zi h (p:=kas_rev p 0 n) (N:=N) (N-n) n (by omega) h1 (u.rev (lr0 _) hn) (x.up (by omega));exact⟨by have:=r.1;show 1<=go lt (kas_asc (kas_rev p 0 n) (N-n) n);omega,by have:=r.2.1;show go lt (kas_asc (kas_rev p 0 n) (N-n) n)<=N;omega,r.2.2.1,kN hp,r.2.2.2.1⟩
theorem lU(h:gH lt){N n:Nat}{p:Array Nat}(hn:n+1<=N)(u:Un p N (n+1))(hp:p.toList.Perm (List.range N))(x:acN lt p (n+1) 0):Cnt lt N (go lt (kas_descPart n N p)):=by
 unfold kas_descPart;rw[dq];obtain⟨r1,r2,r3,r4,r5⟩:=pQ h (N:=N) (N-(n+1)) p (n+1) 0 (by omega) u hp x;have hs:=r3.size
 by_cases hq:(go lt (kas_desc (N-(n+1)) p (n+1) 0)).2.2 > 0
 .rw[if_pos hq];exact vh h (by omega) (by omega) (r3.rev (lr0 _) (by omega)) (kN r4) (r5.rev (N:=N) (by omega))
 .rw[if_neg hq];have e:(go lt (kas_desc (N-(n+1)) p (n+1) 0)).2.2=0:=by omega
  rw[e] at r5;exact vh h (by omega) (by omega) r3 r4 r5.ahQ
theorem vG(h:gH lt){N:Nat}(hN:1<=N){p:Array Nat}(u:Un p N 1)(hp:p.toList.Perm (List.range N)):Cnt lt N (go lt (kas_count N p)):=by
 unfold kas_count;rw[dq];obtain⟨a1,a2,a3,a4,a5⟩:=zi h (p:=p) (N:=N) (N-1) 1 (by omega) (lr0 _) u (λ i j hij hj=>by omega);generalize go lt (kas_asc p (N-1) 1)=n at a1 a2 a3 a4 a5;have hs:=u.size
 by_cases e:(n==N)=true
 .rw[if_pos e];exact⟨a1,by show n<=N;omega,a3,hp,a4⟩
 .rw[if_neg e];have ne:n≠N:=λ z=>e (by simp[z]);have last:=a5 (by omega)
  by_cases h2:n > 1
  .rw[if_pos h2];simp only[go];cases c:lt (p.getD 0 0) (p.getD (n-1) 0) with
   | true =>
    simp only[if_true,go];exact⟨a1,by show n<=N;omega,a3,hp,a4⟩
   | false =>
    simp only[Bool.false_eq_true,if_false];have eqv:∀ i j,i<j->j<n->lt (g p i) (g p j)=false:=λ i j hij hj=>by
     have t1:lt (g p i) (g p 0)=false:=by
      by_cases z:i=0
      .rw[z];exact h.irr _
      .exact(a4 0 i (by omega) (by omega)).le h
     have t2:lt (g p (n-1)) (g p j)=false:=by
      by_cases z:j=n-1
      .rw[z];exact h.irr _
      .exact(a4 j (n-1) (by omega) (by omega)).le h
     have t3:lt (g p 0) (g p j)=false:=by
      cases y:lt (g p 0) (g p j) with
      | false=>rfl
      | true=>have:=h.ab1 y t2;rw[c] at this;cases this
     cases y:lt (g p i) (g p j) with
     | false=>rfl
     | true=>have:=h.agH t1 y;rw[t3] at this;cases this
    have fa:acN lt p n (n-1):=⟨by omega,λ i j hij hj=>by omega,λ i j hi hj hj2=>by omega,λ i j hi hij hj=>⟨a4 i j hij hj,eqv i j hij hj⟩⟩;have dn:Dn lt (kas_rev p 0 n) n:=by
     have:=fa.rev (N:=N) (by omega)
     rwa[show n-(n-1+1)=0 by omega] at this
    have e2:lt (g (kas_rev p 0 n) n) (g (kas_rev p 0 n) (n-1))=true:=by rw[nc (by omega),nc (by omega),if_neg (by omega),if_pos (by omega)];rw[show 0+n-1-(n-1)=0 by omega];exact h.ab1 last c
    exact lU h (by omega) ((a3.rev (lr0 _) (by omega)).up (by omega) (by omega)) (kN hp) (dn.agG h a1 e2)
  .rw[if_neg h2];have e1:n=1:=by omega
   subst e1;exact lU h (by omega) (a3.up (by omega) (by omega)) hp (Dn.agG h (lr0 _) (λ i j hij hj=>by omega) last)
theorem oT(h:gH lt){p:Array Nat}{k:Nat}(u:Up lt p k):∀ (f l r:Nat),r-l<=f->l<=r->r<=k->(∀ i,i<l->lt (g p k) (g p i)=false)->(∀ i,r<=i->i<k->lt (g p k) (g p i)=true) ->
  go lt (kas_place p k f l r)<=k/\(∀ i,i<go lt (kas_place p k f l r)->lt (g p k) (g p i)=false)/\∀ i,go lt (kas_place p k f l r)<=i->i<k->lt (g p k) (g p i)=true
 | 0,l,r,hf,hl,hr,a,b=>⟨by show l<=k;omega,a,λ i hi hk=>b i (by have:l<=i:=hi;omega) hk⟩
 | f+1,l,r,hf,hl,hr,a,b=>by
  simp only[kas_place]
  by_cases e:l >= r
  .rw[if_pos e];exact⟨by show l<=k;omega,a,λ i hi hk=>b i (by have:l<=i:=hi;omega) hk⟩
  .rw[if_neg e];simp only[go];cases c:lt (p.getD k 0) (p.getD ((l+r) / 2) 0) with
   | true =>
    simp only[if_true];refine oT h u f l ((l+r) / 2) (by omega) (by omega) (by omega) a λ i hi hk=>?_
    by_cases z:i=(l+r) / 2
    .rw[z];exact c
    .exact h.ab1 c ((u ((l+r) / 2) i (by omega) hk).le h)
   | false =>
    simp only[Bool.false_eq_true,if_false];refine oT h u f ((l+r) / 2+1) r (by omega) (by omega) hr (λ i hi=>?_) b
    by_cases z:i=(l+r) / 2
    .rw[z];exact c
    .exact h.tr _ _ _ ((u i ((l+r) / 2) (by omega) (by omega)).le h) c
theorem aaP(h:gH lt){N:Nat}:∀ (f:Nat) (p:Array Nat) (k:Nat),k+f<=N->Un p N k->p.toList.Perm (List.range N)->Up lt p k->(go lt (kas_bin f p k)).toList.Perm (List.range N)/\Up lt (go lt (kas_bin f p k)) (k+f)
 | 0,p,k,hf,u,hp,x=>⟨hp,x⟩
 | f+1,p,k,hf,u,hp,x=>by
  simp only[kas_bin];rw[dq];obtain⟨h1,h2,h3⟩:=oT h x k 0 k (by omega) (by omega) (lr0 _) (λ i hi=>by omega) (λ i hi hk=>by omega);generalize go lt (kas_place p k k 0 k)=l at h1 h2 h3;have hs:=u.size;have ek:k-(k-l)=l:=by omega
  have lo:=u.lo;have hk:=u.hi k (lr0 _) (by omega);have G:∀ i,g (bubble p k (k-l)) i=if i=l then g p k else if l<i/\i<=k then g p (i-1) else g p i:=λ i=>by rw[ag2 (by omega) (by omega),ek]
  have r:=aaP h (N:=N) f (bubble p k (k-l)) (k+1) (by omega) ⟨(bubble_size _ _ _).trans hs,λ i hi=>?_,λ i hi hi2=>?_⟩ ((Array.perm_iff_toList_perm.mp (bubble_perm p k _)).trans hp) λ i j hij hj=>?_
  .rw[show k+1+f=k+(f+1) by omega] at r;exact r
  .rw[G]
   split
   .omega
   .split
    .have:=lo (i-1) (by omega);omega
    .have:=lo i (by omega);omega
  .rw[G,if_neg (by omega),if_neg (by omega)];exact u.hi i (by omega) hi2
  .have bk:∀ i,i<l->B lt (g p i) (g p k):=λ i hi=>B.of_le (h2 i hi) (by have:=lo i (by omega);omega);rw[G,G]
   by_cases i1:i=l
   .rw[if_pos i1,if_neg (by omega),if_pos (by omega)];exact .inl (h3 _ (by omega) (by omega))
   .rw[if_neg i1]
    by_cases i2:l<i/\i<=k
    .rw[if_pos i2,if_neg (by omega),if_pos (by omega)];exact x _ _ (by omega) (by omega)
    .rw[if_neg i2]
     by_cases j1:j=l
     .rw[if_pos j1];exact bk i (by omega)
     .rw[if_neg j1]
      by_cases j2:l<j/\j<=k
      .rw[if_pos j2];exact x _ _ (by omega) (by omega)
      .rw[if_neg j2];exact x _ _ hij (by omega)
theorem aeb(h:gH lt){N:Nat}(hN:1<=N):(go lt (kas_sort N)).toList.Perm (List.range N)/\Up lt (go lt (kas_sort N)) N:=by
 unfold kas_sort;rw[dq];have e:∀ i,i<N->g (List.toArray (List.range N)) i=i:=λ i hi=>by rw[vO];simp[hi]
 obtain⟨c1,c2,c3,c4,c5⟩:=vG h hN (p:=List.toArray (List.range N)) ⟨by simp,λ i hi=>by rw[e i (by omega)];exact hi,λ i _ hi=>e i hi⟩ (by simp);generalize go lt (kas_count N (List.toArray (List.range N)))=r at c1 c2 c3 c4 c5
 by_cases z:r.1<N
 .rw[if_pos z];have em:max r.1 1=r.1:=by omega
  rw[em];have b:=aaP h (N-r.1) r.2 r.1 (by omega) c3 c4 c5;rw[show r.1+(N-r.1)=N by omega] at b;exact b
 .rw[if_neg z];have em:r.1=N:=by omega
  rw[em] at c5;exact⟨c4,c5⟩
def fj(N:Nat)(R:α->Prop):KasT α->Prop
 | .ret a=>R a
 | .ask i j k=>i<N/\j<N/\∀ b,fj N R (k b)
theorem fj.bind{α β:Type}{N:Nat}{R:α->Prop}{R':β->Prop}{f:α->KasT β}(hf:∀ a,R a->fj N R' (f a)):∀ {t:KasT α},fj N R t->fj N R' (t.bind f)
 | .ret a,h=>hf a h
 | .ask i j k,h=>⟨h.1,h.2.1,λ b=>fj.bind hf (h.2.2 b)⟩
theorem ads(hc:∀ i j,i<N->j<N->∀ (C:Bool->Shared->Prop),C (lt i j) s->cmp i j C s) :
  ∀ t:KasT α,fj N R t->Q (go lt t) s->t.kasWp cmp Q s
 | .ret _,_,h=>h
 | .ask i j k,a,h=>hc i j a.1 a.2.1 _ (ads hc (k (lt i j)) (a.2.2 _) h)
def Low(N:Nat)(p:Array Nat):Prop:=∀ i,g p i<N
theorem Low.of(hN:1<=N)(h:∀ x∈p.toList,x<N):Low N p:=λ i=>by
 rw[vO];cases e:p[i]? with
 | none=>simp;omega
 | some x=>exact h x (by rw[Array.mem_toList_iff];exact Array.mem_of_getElem? e)
theorem Low.mem(h:Low N p):∀ x∈p.toList,x<N:=λ x hx=>by rw[Array.mem_toList_iff] at hx;obtain⟨i,hi,e⟩:=Array.mem_iff_getElem.mp hx;have:=h i;rw[vO] at this;simp[hi] at this;omega
theorem Low.perm(hN:1<=N)(h:Low N p)(e:q.Perm p):Low N q:=.of hN λ x hx=>h.mem x ((Array.perm_iff_toList_perm.mp e).mem_iff.mp hx)
theorem Low.rev(hN:1<=N)(h:Low N p):Low N (kas_rev p i j):=h.perm hN (mirror_perm _ _ _ _)
theorem iK(h:Low N p):∀ f n,fj N (λ _=>True) (kas_asc p f n)
 | 0,_=>trivial
 | f+1,n=>⟨h _,h _,λ b=>by
  cases b with
  | true=>exact trivial
  | false=>exact iK h f (n+1)⟩
theorem jd(hN:1<=N):∀ (f:Nat) {p:Array Nat} (n q:Nat),Low N p->fj N (λ r=>Low N r.1) (kas_desc f p n q)
 | 0,p,n,q,h=>h
 | f+1,p,n,q,h=>⟨h _,h _,λ b=>by
  cases b with
  | true =>
   simp only[if_true]
   split
   .exact jd hN f (n+1) 0 (h.rev hN)
   .exact jd hN f (n+1) 0 h
  | false =>
   simp only[Bool.false_eq_true,if_false];refine⟨h _,h _,λ b=>?_⟩;cases b with
   | true=>exact h
   | false=>exact jd hN f (n+1) (q+1) h⟩
theorem og(hN:1<=N){p:Array Nat}{n m:Nat}(h:Low N p):fj N (λ(r:Nat×Array Nat)=>Low N r.2) (kas_tail3 n m p):=by
 unfold kas_tail3;refine fj.bind (λ k _=>?_) (iK (h.rev hN) _ _);exact(h.rev hN:Low N (kas_rev p 0 n))
theorem i5(hN:1<=N){p:Array Nat}{n m:Nat}(h:Low N p):fj N (λ r=>Low N r.2) (kas_descPart n m p):=(jd hN _ _ _ h).bind λ r hr=>by
 split
 .exact og hN (hr.rev hN)
 .exact og hN hr
theorem xi(hN:1<=N){p:Array Nat}{m:Nat}(h:Low N p):fj N (λ r=>Low N r.2) (kas_count m p):=(iK h _ _).bind λ n _=>by
 split
 .exact h
 .split
  .refine⟨h _,h _,λ b=>?_⟩;cases b with
   | true=>exact h
   | false=>exact i5 hN (h.rev hN)
  .exact i5 hN h
theorem gv{p:Array Nat}{k:Nat}(h:Low N p):∀ f l r,fj N (λ _=>True) (kas_place p k f l r)
 | 0,_,_=>trivial
 | f+1,l,r=>by
  simp only[kas_place]
  split
  .exact trivial
  .refine⟨h _,h _,λ b=>?_⟩;cases b with
   | true=>exact gv h f _ _
   | false=>exact gv h f _ _
theorem vi(hN:1<=N):∀ (f:Nat) {p:Array Nat} (k:Nat),Low N p->fj N (λ _=>True) (kas_bin f p k)
 | 0,_,_,_=>trivial
 | f+1,p,k,h=>(gv h _ _ _).bind λ l _=>vi hN f (k+1) (h.perm hN (bubble_perm _ _ _))
theorem yI(hN:1<=N):fj N (λ _=>True) (kas_sort N):=(xi hN (.of hN λ x hx=>by simpa using hx)).bind λ r hr=>by
 split
 .exact vi hN _ _ hr
 .exact trivial
def bS(lt:Nat->Nat->Bool)(n:Nat):List Nat:=if n<2 then List.range n else (go lt (kas_sort n)).toList
theorem vI(h:gH lt)(n:Nat):(bS lt n).Perm (List.range n)/\(bS lt n).Pairwise (B lt):=by
 unfold bS
 by_cases z:n<2
 .rw[if_pos z];refine⟨List.Perm.refl _,?_⟩
  match n,z with
  | 0,_=>exact List.Pairwise.nil
  | 1,_=>exact List.pairwise_singleton _ _
 .rw[if_neg z];obtain⟨a,b⟩:=aeb h (N:=n) (by omega);refine⟨a,?_⟩;rw[List.pairwise_iff_getElem];intro i j hi hj hij;have hl:=a.length_eq;rw[List.length_range] at hl;have r:=b i j hij (by omega);rw[vO,vO] at r;have hi':i<(go lt (kas_sort n)).size:=by simpa using hi
  have hj':j<(go lt (kas_sort n)).size:=by simpa using hj
  simpa [hi',hj'] using r
def cS(h:Heap)(a:Addr)(vs:List Value):Heap:=((h.update a (Obj.mapSeq λ _=>#[])).push (seqObj "tuple" vs.toArray 0)).push (seqObj "list" #[] 0)
def fQ(h:Heap)(vs:List Value):Heap:=((h.push (seqObj "list" #[] 0)).update h.objs.size (Obj.mapSeq (· ++ vs.toArray))).push (seqObj "list" vs.toArray 0)
theorem oA(hb:h.get? b=some o):(fQ h vs).get? b=some o:=by have q:b<h.objs.size:=Heap.lt_size hb;have q1:=Nat.ne_of_lt q;have q2:=Nat.ne_of_lt (Nat.lt_succ_of_lt q);unfold fQ;rw[Heap.get?_push_ne _ _ _ (by rw[Heap.size_update,size_push'];exact q2),Heap.get?_update_ne _ _ _ _ q1,Heap.get?_push_ne _ _ _ q1];exact hb
theorem fo{h:Heap}{vs:List Value}:((h.push (seqObj "list" #[] 0)).update h.objs.size (Obj.mapSeq (· ++ vs.toArray))).objs.size=h.objs.size+1:=by rw[Heap.size_update,size_push']
theorem ua(hb:h.get? b=some o)(hne:b≠a):(cS h a vs).get? b=some o:=by have q:b<h.objs.size:=Heap.lt_size hb;have q1:=Nat.ne_of_lt q;have q2:=Nat.ne_of_lt (Nat.lt_succ_of_lt q);unfold cS;rw[Heap.get?_push_ne _ _ _ (by rw[size_push',Heap.size_update];exact q2),Heap.get?_push_ne _ _ _ (by rw[Heap.size_update];exact q1),Heap.get?_update_ne _ _ _ _ hne];exact hb
theorem xp{vs us:List Value}{n:Nat}(ho:h.get? a=some (seqObj "list" us.toArray n)):∃ e,(h.update a (Obj.mapSeq λ _=>(#[]:Array Value))).get? a=some (seqObj "list" #[] e)/\(cS h a vs).get? a=some (seqObj "list" #[] e):=by have q:a<h.objs.size:=Heap.lt_size ho;have q1:=Nat.ne_of_lt q;have q2:=Nat.ne_of_lt (Nat.lt_succ_of_lt q);refine⟨_,get?_update_seq ho λ _=>#[],?_⟩;unfold cS;rw[Heap.get?_push_ne _ _ _ (by rw[size_push',Heap.size_update];exact q2),Heap.get?_push_ne _ _ _ (by rw[Heap.size_update];exact q1)];exact get?_update_seq ho λ _=>#[]
theorem xP(ho:s.heap.get? a=some (seqObj "list" vs.toArray n))(h64:vs.length<64)
  (hk:2<=vs.length->∀ (Q:SortKind->Shared->Prop),Q κ {s with heap:=cS s.heap a vs}->wpAny (model prog w) A (keyKind' vs.toArray) Q E {s with heap:=cS s.heap a vs})
  (hc:∀ i j,i<vs.length->j<vs.length->∀ (C:Bool->Shared->Prop),C (lt i j) {s with heap:=cS s.heap a vs}->kas_ask prog w A κ vs i j C {s with heap:=cS s.heap a vs})
  (h:P (.done (.ret .none)) {s with heap:=sortedHeap s.heap a vs ((bS lt vs.length).map λ i=>vs.getD i Value.none).toArray}) :
  wpAny (model prog w) A (Builtin.«list.sort» ⟨[.ref a],[]⟩) P E s:=by
 have hz:vs.toArray.size=vs.length:=by simp
 obtain⟨e1,o1,o2⟩:=xp (vs:=vs) ho;rw[list_sort_plain];refine wb0 (listItems_at ho rfl (wb0 (listUpdate_at ho rfl (wb0 (seqEpoch_at o1 rfl (wb0 (wpAny_newTuple (wb0 (wpAny_newList (wpAny_holding ?_))))))))));show wpAny _ _ _ P E {s with heap:=cS s.heap a vs};dsimp only;have fits:∀ {p:Array Nat},p.size=vs.length->(List.toArray (p.toList.map λ i=>vs.getD i Value.none)).size<=sizeLine+1:=λ {p} hp=>by rw[List.size_toArray,lm,Array.length_toList,hp,sizeLine_eq];omega
 by_cases h2:vs.length<2
 .rw[if_pos (by rw[hz];exact h2),if_pos (by rw[hz];exact h2)];refine wb0 (wp ?_);rw[StateT.run_pure];refine wb0 (wp ?_);dsimp only;have out:=kat_snds (ks:=vs) (vs:=vs) rfl (st:=SortSt.mk' general' (vs.toArray.zip vs.toArray) #[] 7 none) (p:=List.toArray (List.range vs.length)) (by have e:=kas_range (vs.toArray.zip vs.toArray);rw[show(vs.toArray.zip vs.toArray).size=vs.length by simp] at e;exact e.symm)
  rw[out];refine wb0 (seqEpoch_at o2 rfl (wb0 (listUpdate_at o2 rfl ?_ (hsz2:=fits (by simp)))));simp only[bne_self_eq_false,Bool.false_eq_true,if_false];unfold bS at h;rw[if_pos h2] at h;exact wp h
 .rw[if_neg (by rw[hz];exact h2),if_neg (by rw[hz];exact h2)];refine wb0 (hk (by omega) _ (wb0 (wpAny_mono (kat_run (ks:=vs) (vs:=vs) (κ:=κ) (Q:=λ st' s'=>s'={s with heap:=cS s.heap a vs}/\failedOf st'=none/\(arrOf st').map (·.2)=List.toArray ((bS lt vs.length).map λ i=>vs.getD i Value.none)/\(bS lt vs.length).length=vs.length)
   (G:=λ p s'=>s'={s with heap:=cS s.heap a vs}/\p=go lt (kas_sort vs.length)) rfl (by omega) h64 (λ p st' s' a1 a2 a3 a4=>⟨a4.1,a3,?_,?_⟩) (ads hc _ (yI (by omega)) ⟨rfl,rfl⟩)) ?_ λ _ _ e=>e)))
  .unfold bS;rw[if_neg h2,<- a4.2];exact kat_snds rfl a2
  .unfold bS;rw[if_neg h2,<- a4.2,Array.length_toList,a1]
  .rintro⟨⟨⟩,st'⟩ s' ⟨rfl,hf,har,hln⟩;dsimp only;rw[har];refine wb0 (seqEpoch_at o2 rfl (wb0 (listUpdate_at o2 rfl ?_ (hsz2:=by rw[List.size_toArray,lm,hln,sizeLine_eq];omega))));rw[hf];simp only[bne_self_eq_false,Bool.false_eq_true,if_false];exact wp h
theorem t7{l:Addr}{vs:List Value}{κ:SortKind}{lt:Nat->Nat->Bool}{Q:VP}(hl:s.heap.IsList l vs.toArray)(h64:vs.length<64)
  (hk:∀ (A':Around) (h':Heap),(∀ b o,s.heap.get? b=some o->h'.get? b=some o)->2<=vs.length->∀ (Q':SortKind->Shared->Prop) E',Q' κ {s with heap:=h'}->wpAny (model prog w) A' (keyKind' vs.toArray) Q' E' {s with heap:=h'})
  (hc:∀ (A':Around) (h':Heap),(∀ b o,s.heap.get? b=some o->h'.get? b=some o)->∀ i j,i<vs.length->j<vs.length->∀ (C:Bool->Shared->Prop),C (lt i j) {s with heap:=h'}->kas_ask prog w A' κ vs i j C {s with heap:=h'})
  (h:Q (.ref (s.heap.objs.size+1)) {s with heap:=sortedAll s.heap vs ((bS lt vs.length).map λ i=>vs.getD i Value.none).toArray}) :
  wpAny (model prog w) A (call (.builtin "sorted") [.ref l]) Q E s:=by
 refine Calls.call_function_entry kind_sorted plain_sorted entry_sorted (args_sorted1 _) ?_;unfold Builtin.«sorted»;refine wb0 (m:=checkCount "sorted" 1 1 _) (wp (wb0 (collect_list hl (wb0 (wpAny_newList ?_)) (by rw[sizeLine_eq];omega))));have at1:(fQ s.heap vs).get? (s.heap.objs.size+1)=some (seqObj "list" vs.toArray 0):=by
  unfold fQ;rw[<- fo (h:=s.heap) (vs:=vs)];exact Heap.get?_push_size _ rfl
 show wpAny _ _ _ _ _ {s with heap:=fQ s.heap vs};rw[fo];have old:∀ b o,s.heap.get? b=some o->(cS (fQ s.heap vs) (s.heap.objs.size+1) vs).get? b=some o:=λ b o e=>ua (oA e) (Nat.ne_of_lt (Nat.lt_succ_of_lt (Heap.lt_size e)));refine wb0 (wpAny_holding (wpAny_call_entry slot_list_sort ⟨_,at1,rfl⟩ entry_list_sort (xP (κ:=κ) (lt:=lt) (s:={s with heap:=fQ s.heap vs}) at1 h64 (λ h2 Q' q=>hk _ _ old h2 Q' _ q) (λ i j hi hj C q=>hc _ _ old i j hi hj C q) ⟨_,rfl,wp ⟨_,rfl,h⟩⟩) (args_list_sort _)))
def Shape:List Bool->List PyData->Prop
 | [],[]=>True
 | true::bs,d::ds=>(∃ x,d=.str x)/\Shape bs ds
 | false::bs,d::ds=>(∃ i,d=.int i)/\Shape bs ds
 | _,_=>False
def sEq:PyData->PyData->Bool
 | .int x,.int y=>x==y
 | .str x,.str y=>x==y
 | _,_=>false
def sLt:PyData->PyData->Bool
 | .int x,.int y=>decide (x<y)
 | .str x,.str y=>decide (x.cps.toList<y.cps.toList)
 | _,_=>false
def qK:List PyData->List PyData->Bool
 | a::as,b::bs=>if sEq a b=true then qK as bs else sLt a b
 | [],_::_=>true
 | _,_=>false
def rowAt(rows:List (List PyData))(i:Nat):List PyData:=rows.getD i (rows.headD [])
def aa6:List PyData->List Value->Prop:=Paired λ d u=>(∃ i t,d=.int i/\u=.int i t)\/∃ x t,d=.str x/\u=.str x t
theorem aaE:∀ {sh:List Bool} {xs ys:List PyData} {us vs:List Value} (i:Nat) (s:Shared),Shape sh xs->Shape sh ys->aa6 xs us->aa6 ys vs->Q (qK xs ys) s->KatLex prog w A true false Q (us.zip vs) i s
 | [],[],[],us,vs,i,s,_,_,h1,h2,q=>by
  cases h1;exact q
 | t::sh,a::as,b::bs,us,vs,i,s,ha,hb,h1,h2,q=>by
  cases h1 with
  | cons r1 t1 =>
   cases h2 with
   | cons r2 t2 =>
    cases t with
    | true =>
     obtain⟨⟨x,rfl⟩,sa⟩:=ha;obtain⟨⟨y,rfl⟩,sb⟩:=hb;rcases r1 with ⟨_,_,e,_⟩ | ⟨x',tx,e,e'⟩
     .cases e
     .cases e;subst e';rcases r2 with ⟨_,_,e,_⟩ | ⟨y',ty,e,e'⟩
      .cases e
      .cases e;subst e';refine kat_cons (eqBool_str ?_)
       by_cases e:x=y
       .subst e;have:(x==x)=true:=by simp
        rw[this];refine kat_yes (aaE (i+1) s sa sb t1 t2 ?_)
        simpa [qK,sEq] using q
       .have e1:(x==y)=false:=by simp[e]
        rw[e1];refine kat_no ?_;have q':Q (decide (x.cps.toList<y.cps.toList)) s:=by simpa [qK,sEq,e,sLt] using q
        cases hb:(true&&i==0) with
        | true=>exact oneLt_str q'
        | false=>exact kat_one _ _ (lt_str q')
    | false =>
     obtain⟨⟨x,rfl⟩,sa⟩:=ha;obtain⟨⟨y,rfl⟩,sb⟩:=hb;rcases r1 with ⟨x',tx,e,e'⟩ | ⟨_,_,e,_⟩
     .cases e;subst e';rcases r2 with ⟨y',ty,e,e'⟩ | ⟨_,_,e,_⟩
      .cases e;subst e';refine kat_cons (wpAny_eqBool_int ?_)
       by_cases e:x=y
       .subst e;have:(x==x)=true:=by simp
        rw[this];refine kat_yes (aaE (i+1) s sa sb t1 t2 ?_)
        simpa [qK,sEq] using q
       .have e1:(x==y)=false:=by simp[e]
        rw[e1];refine kat_no ?_;have q':Q (decide (x<y)) s:=by simpa [qK,sEq,e,sLt] using q
        cases hb:(true&&i==0) with
        | true=>exact oneLt_int q'
        | false=>exact kat_one _ _ (lt_int q')
      .cases e
     .cases e
 | [],a::as,_,_,_,_,_,h,_,_,_,_=>by cases h
 | [],[],b::bs,_,_,_,_,_,h,_,_,_=>by cases h
 | t::sh,[],_,_,_,_,_,h,_,_,_,_=>by cases t<;>cases h
 | t::sh,a::as,[],_,_,_,_,_,h,_,_,_=>by cases t<;>cases h
end S
namespace D
open L2 S
section
variable {K:FG}
theorem pj:∀ {sh:List Bool} {ds:List PyData} {vs:List V} {us:List Value},Shape sh ds->aX K H ds vs->Vals vs us->aa6 ds us
 | [],[],vs,us,_,h,r=>by simp only[aX] at h;subst h;cases r;exact .nil
 | t::sh,d::ds,vs,us,hs,h,r=>by
  simp only[aX] at h;obtain⟨v,rs,e,h1,h2⟩:=h;subst e;cases r with
  | cons r1 r2 =>
   cases t with
   | true =>
    obtain⟨⟨x,rfl⟩,hs⟩:=hs;simp only[aB] at h1;subst h1;obtain⟨tk,e⟩:=(show ∃ t,_=Value.str x t from r1);exact .cons (.inr ⟨x,tk,rfl,e⟩) (pj hs h2 r2)
   | false =>
    obtain⟨⟨x,rfl⟩,hs⟩:=hs;simp only[aB] at h1;subst h1;obtain⟨tk,e⟩:=(show ∃ t,_=Value.int x t from r1);exact .cons (.inl ⟨x,tk,rfl,e⟩) (pj hs h2 r2)
 | [],d::ds,_,_,h,_,_=>by cases h
 | t::sh,[],_,_,h,_,_=>by cases t<;>cases h
theorem aa6.len:∀ {ds:List PyData} {us:List Value},aa6 ds us->us.length=ds.length:=λ h=>(Paired.length h).symm
theorem iV:∀ {sh:List Bool} {ds:List PyData},Shape sh ds->ds.length=sh.length
 | [],[],_=>rfl
 | true::sh,d::ds,h=>by simp[iV h.2]
 | false::sh,d::ds,h=>by simp[iV h.2]
 | [],_::_,h=>by cases h
 | t::sh,[],h=>by cases t<;>cases h
def gg(h:Heap)(sh:List Bool)(rows:List (List PyData))(its:List Value):Prop:=Paired (λ row u=>Shape sh row/\∃ a o us n,u=Value.ref a/\h.get? a=some o/\o.cls=.type "tuple" /\ o.data=.seq us n/\aa6 row us.toList) rows its
theorem gg.keep(k:∀ b o,h.get? b=some o->h'.get? b=some o)(r:gg h sh rows its):gg h' sh rows its:=
 Paired.fD r λ row u ⟨s,a,o,us,n,e,g,c,d,q⟩=>⟨s,a,o,us,n,e,k _ _ g,c,d,q⟩
theorem gg.get:∀ {rows:List (List PyData)} {its:List Value} (i:Nat),i<rows.length->gg h sh rows its->∃ a o us n,its.getD i Value.none=.ref a/\h.get? a=some o/\o.cls=.type "tuple" /\ o.data=.seq us n/\Shape sh (rowAt rows i)/\aa6 (rowAt rows i) us.toList:=by
 have main:∀ {rows:List (List PyData)} {its:List Value} (i:Nat) (dflt:List PyData),i<rows.length->gg h sh rows its->∃ a o us n,its.getD i Value.none=.ref a/\h.get? a=some o/\o.cls=.type "tuple" /\ o.data=.seq us n/\Shape sh (rows.getD i dflt)/\aa6 (rows.getD i dflt) us.toList:=by
  intro rows
  induction rows with
  | nil=>intro its i d hi _;simp at hi
  | cons row rows ih =>
   intro its i d hi r;cases r with
   | cons r1 r2 =>
    cases i with
    | zero =>
     obtain⟨s,a,o,us,n,e,g,c,dd,q⟩:=r1;exact⟨a,o,us,n,e,g,c,dd,s,q⟩
    | succ i =>
     obtain⟨a,o,us,n,e,z⟩:=ih i d (by simpa using hi) r2;exact⟨a,o,us,n,by simpa using e,by simpa using z⟩
 exact λ {rows its} i hi r=>main i _ hi r
theorem gg.sO:∀ {rows:List (List PyData)} {its:List Value},gg h (t::sh) rows its->∃ fs,W.KatTups h its fs/\fs.length=its.length/\∀ v∈fs,(t=true/\∃ x k,v=Value.str x k)\/(t=false/\∃ i k,v=Value.int i k)
 | [],its,r=>by
  cases r;exact⟨[],.nil,rfl,λ v hv=>by simp at hv⟩
 | row::rows,its,r=>by
  cases r with
  | cons r1 r2 =>
   obtain⟨fs,h1,h2,h3⟩:=gg.sO r2;obtain⟨s,a,o,us,n,e,g,c,dd,q⟩:=r1;subst e
   match row,s with
   | d::ds,s =>
    obtain⟨f,us2,eu,hf⟩:∃ f us2,us.toList=f::us2/\((t=true/\∃ x k,f=Value.str x k)\/(t=false/\∃ i k,f=Value.int i k)):=by
     generalize us.toList=ul at q;cases q with
     | @cons _ u _ ul2 q1 q2 =>
      refine⟨u,ul2,rfl,?_⟩;cases t with
      | true =>
       obtain⟨⟨x,rfl⟩,_⟩:=s;rcases q1 with ⟨_,_,e,_⟩ | ⟨_,k,e,e'⟩
       .cases e
       .exact .inl ⟨rfl,_,_,e'⟩
      | false =>
       obtain⟨⟨x,rfl⟩,_⟩:=s;rcases q1 with ⟨_,k,e,e'⟩ | ⟨_,_,e,_⟩
       .exact .inr ⟨rfl,_,_,e'⟩
       .cases e
    have e0:us[0]? =some f:=by
     have:us.toList[0]? =some f:=by rw[eu];rfl
     simpa using this
    refine⟨f::fs,.cons g c dd e0 h1,by simp[h2],λ v hv=>?_⟩;rcases List.mem_cons.mp hv with rfl | hv
    .exact hf
    .exact h3 v hv
   | [],s=>cases t<;>cases s
end
section
variable {X:Cx}{K:FG}
theorem yU(I:Inv X pins σ H s):∀ {rows:List (List PyData)} {vs:List V} {its:List Value},(∀ r∈rows,Shape sh r)->aX X.K H (rows.map PyData.tuple) vs->Vals vs its->gg s.heap sh rows its
 | [],vs,its,_,h,r=>by simp only[List.map_nil,aX] at h;subst h;cases r;exact .nil
 | row::rows,vs,its,hs,h,r=>by
  simp only[List.map_cons,aX] at h;obtain⟨v,rs,e,h1,h2⟩:=h;subst e;cases r with
  | cons r1 r2 =>
   simp only[aB] at h1;obtain⟨a,us,ev,hq,ra⟩:=h1;subst ev;cases r1;obtain⟨uts,ru,⟨o,ho,hc,n,hd⟩,_⟩:=I.tuple hq;have s1:=hs row (by simp);exact .cons ⟨s1,a,o,uts.toArray,n,rfl,ho,hc,hd,by simpa using pj s1 ra ru⟩ (yU I (λ r hr=>hs r (by simp[hr])) h2 r2)
def nj(rows:List (List PyData)):List W:=rows.map λ r=>.d (.tuple r)
end
section
variable {X:Cx}{K:FG}
def isNone:W->Bool
 | .d .none=>true
 | _=>false
theorem xh(r:aJ K H w v):decide (v=.non)=isNone w:=by
 cases w with
 | m a=>cases (show v=.ref a from r);rfl
 | t n=>cases (show v=.ty n from r);rfl
 | d x =>
  cases x<;>simp only[aJ,aB] at r
  .subst r;rfl
  .subst r;rfl
  .subst r;rfl
  .subst r;rfl
  all_goals first
   | (obtain⟨a,vs,e,_⟩:=r;subst e;rfl)
   | (obtain⟨a,o,l,e,_⟩:=r;subst e;rfl)
def aeL(neg:Bool)(w:W)(w':W)(M:MH)(Q:QD):Prop:=w'=.d .none/\Q (.d (.bool (xor neg (isNone w)))) M
theorem aeJ:OpD K (λ x y H Q=>y=.non/\Q (.bl (decide (x=.non))) H) (aeL false):=by intro x y H w w' M Qd Q r1 r2 m ⟨e,q⟩ k;subst e;simp only[aJ,aB] at r2;refine⟨r2,k _ _ (.d (.bool (isNone w))) M (Kp.refl _) ?_ m (by simpa using q)⟩;rw[xh r1];simp[aJ,aB]
end
section
variable {X:Cx}{K:FG}
end
end D
namespace Rc
open L2 D
section
variable {α:Type}(nm:α->Str)
variable {nm}
end
mutual
def okD:Nat->PyData->Bool
 | _,.none=>true
 | _,.bool _=>true
 | _,.int i=>decide (i.natAbs<2 ^ 100)
 | _,.str z=>oe z
 | k+1,.list ds=>okA k ds
 | k+1,.tuple ds=>okA k ds
 | _,_=>false
def okA:Nat->List PyData->Bool
 | _,[]=>true
 | k,d::ds=>okD k d&&okA k ds
end
theorem qQ:∀ {ds:List PyData},(∀ d∈ds,okD k d=true)->okA k ds=true
 | [],_=>by simp[okA]
 | d::ds,h=>by simp only[okA,ae00];exact⟨h d (by simp),qQ λ x hx=>h x (by simp[hx])⟩
mutual
theorem yD:∀ (k:Nat) (d:PyData),okD k d=true->fK d=true
 | _,.none,_=>rfl
 | _,.bool _,_=>rfl
 | _,.int i,h=>by
  cases ‹Nat› <;> simp only[okD,decide_eq_true_eq] at h<;>exact decide_eq_true (log2_small h)
 | _,.str z,h=>by
  cases ‹Nat› <;> simp only[okD] at h<;>exact h
 | k+1,.list ds,h=>by simp only[okD] at h;simp only[fK];exact pK k ds h
 | k+1,.tuple ds,h=>by simp only[okD] at h;simp only[fK];exact pK k ds h
 | 0,.list ds,h=>by simp[okD] at h
 | 0,.tuple ds,h=>by simp[okD] at h
 | k,.dict kvs,h=>by cases k<;>simp[okD] at h
theorem pK:∀ (k:Nat) (ds:List PyData),okA k ds=true->nF ds=true
 | _,[],_=>by simp[nF]
 | k,d::ds,h=>by simp only[okA,ae00] at h;simp only[nF,yD k d h.1,pK k ds h.2,Bool.and_self]
end
mutual
theorem vJ:∀ (k:Nat) (d:PyData),okD k d=true->PyData.depth d<=k+1
 | _,.none,_=>by simp[PyData.depth]
 | _,.bool _,_=>by simp[PyData.depth]
 | _,.int i,h=>by simp[PyData.depth]
 | _,.str z,h=>by simp[PyData.depth]
 | k+1,.list ds,h=>by simp only[okD] at h;have:=kQ k ds h;simp only[PyData.depth];omega
 | k+1,.tuple ds,h=>by simp only[okD] at h;have:=kQ k ds h;simp only[PyData.depth];omega
 | 0,.list ds,h=>by simp[okD] at h
 | 0,.tuple ds,h=>by simp[okD] at h
 | k,.dict kvs,h=>by cases k<;>simp[okD] at h
theorem kQ:∀ (k:Nat) (ds:List PyData),okA k ds=true->PyData.depthAll ds<=k+1
 | _,[],_=>by simp[PyData.depthAll]
 | k,d::ds,h=>by simp only[okA,ae00] at h;have h1:=vJ k d h.1;have h2:=kQ k ds h.2;simp only[PyData.depthAll];omega
end
mutual
theorem adp:∀ (k:Nat) (d:PyData),okD k d=true->PyData.hasDict d=false
 | _,.none,_=>by simp[PyData.hasDict]
 | _,.bool _,_=>by simp[PyData.hasDict]
 | _,.int i,h=>by simp[PyData.hasDict]
 | _,.str z,h=>by simp[PyData.hasDict]
 | k+1,.list ds,h=>by simp only[okD] at h;simp only[PyData.hasDict];exact tV k ds h
 | k+1,.tuple ds,h=>by simp only[okD] at h;simp only[PyData.hasDict];exact tV k ds h
 | 0,.list ds,h=>by simp[okD] at h
 | 0,.tuple ds,h=>by simp[okD] at h
 | k,.dict kvs,h=>by cases k<;>simp[okD] at h
theorem tV:∀ (k:Nat) (ds:List PyData),okA k ds=true->PyData.hasDictAll ds=false
 | _,[],_=>by simp[PyData.hasDictAll]
 | k,d::ds,h=>by simp only[okA,ae00] at h;simp only[PyData.hasDictAll,adp k d h.1,tV k ds h.2,Bool.or_self]
end
theorem kU(hk:k<=50)(h:okD k d=true)(hb:big d<=1000000):dE d=true:=
 af5 (yD k d h) hb (by have:=vJ k d h;omega) (adp k d h)
theorem eW(x y:Str):PyData.eqv (.str x) (.str y)=decide (x=y):=by
 rw[<- sU]
 by_cases e:x=y
 .subst e;simp
 .simp[e]
theorem fh(x y:Int):PyData.eqv (.int x) (.int y)=decide (x=y):=by
 rw[PyData.eqv]
 by_cases e:x=y
 .subst e;simp
 .simp[e]
theorem agD{M:MH}{a b:Addr}{o u:MO}(ha:M a=some o)(hb:M b=some u)(h:o≠u):a≠b:=λ e=>h (by rw[e,hb] at ha;exact(Option.some.inj ha).symm)
theorem bN{M:MH}{a b:Addr}{o:MO}(ha:M a=some o)(hb:M b=none):a≠b:=λ e=>by rw[e,hb] at ha;cases ha
theorem cC{M:MH}{a b:Addr}{o u:MO}(h:M a=some o)(hb:M b=none):aS M b u a=some o:=by rw[ah (bN h hb)];exact h
theorem uw(h:M d=some y):aS (aS M d x) d y=M:=by
 rw[lh];funext q
 by_cases e:q=d
 .rw[e,af,h]
 .rw[ah e]
end Rc
namespace Stc
open L2 D Rc
theorem ahl(h0:0<=r)(h1:r<ds.length):∃ d,ixW M (.d (.list ds)) r=some (.d d)/\d∈ds:=by
 have hn:r.toNat<ds.length:=by omega
 refine⟨ds[r.toNat],?_,List.getElem_mem hn⟩;simp only[ixW,atI,aff h0 h1,Option.bind_some,List.getElem?_eq_getElem hn,Option.map_some]
theorem aab{ns:List Int}{r:Int}(h0:0<=r)(h1:r<ns.length):∃ i,ixW M (.d (.list (ns.map PyData.int))) r=some (.d (.int i))/\i∈ns:=by obtain⟨d,e,hd⟩:=ahl (M:=M) (ds:=ns.map PyData.int) h0 (by simpa using h1);obtain⟨i,hi,rfl⟩:=List.mem_map.mp hd;exact⟨i,e,hi⟩
theorem lS{zs:List Str}{r:Int}(h0:0<=r)(h1:r<zs.length):∃ z,ixW M (.d (.list (zs.map PyData.str))) r=some (.d (.str z))/\z∈zs:=by obtain⟨d,e,hd⟩:=ahl (M:=M) (ds:=zs.map PyData.str) h0 (by simpa using h1);obtain⟨i,hi,rfl⟩:=List.mem_map.mp hd;exact⟨i,e,hi⟩
theorem uX(h:Bag M p)(e:M' p=M p):Bag M' p:=by obtain⟨a,b,c,ns,h1,h2⟩:=h;exact⟨a,b,c,ns,e.trans h1,h2⟩
end Stc
namespace D
open L2
section
variable {K:FG}
def adt(di:TId)(g:TGd)(tt:TTd)(te:TD)(k:Nat)(fr:List Nat)(τ:DS)(M:MH)(Q:QD):Prop:=di τ M λ ws M1=>∃ P:Nat->List PyData->DS->MH->Prop,P 0 [] (aa3 k fr τ) M1 /\
 (∀ i w acc τ M,ws[i]? =some w->P i acc τ M->acc.length<sizeLine/\g w τ M λ τ2 M2=>tt τ2 M2 λ b M3=>if b=true then te τ2 M3 λ y M4=>∃ d,y=.d d/\P (i+1) (acc++[d]) τ2 M4 else P (i+1) acc τ2 M3) /\
 ∀ acc τ M,P ws.length acc τ M->∀ p,M p=none->Q (.m p) (aS M p (.lst (acc.map W.d)))
theorem aaZ(h:up K (adt di g tt te k fr) σ H Q) :
  tLC (upI K di) (upG K g) (upT K tt) (up K te) k fr σ H Q:=by
 obtain⟨τ,M,Qd,A,h,kk⟩:=h;refine⟨τ,M,_,A,h,λ J H1 ws M1 kp m1 it hq85=>?_⟩;obtain⟨P,p0,pt,pe⟩:=hq85;refine⟨λ i n ys σ' H'=>n=ws.length-i/\i<=ws.length/\Kp H1 H'/\∃ acc τ M,aX K H' acc ys/\Abs K H' σ' τ M/\P i acc τ M,⟨ws.length,by simp,Nat.zero_le _,Kp.refl _,[],_,M1,by simp[aX],rU (A.go kp m1) k fr,p0⟩,?_⟩;rintro i n ys σ2 H2 ⟨rfl,hi,kp2,acc,τ2,M2,ra,A2,p2⟩;obtain⟨go,stop,yld⟩:=it H2 kp2 i
 by_cases hlt:i<ws.length
 .have hlen:=ra.length;refine .inr ⟨go hlt,?_,λ x H3 y=>?_⟩
  .obtain⟨w,hw⟩:∃ w,ws[i]? =some w:=⟨ws[i],by simp[hlt]⟩;have:=(pt i w acc τ2 M2 hw p2).1;omega
  obtain⟨kp3,mk,w,ew,rw⟩:=yld x H3 hlt y;refine⟨w,τ2,M2,_,rw,A2.go kp3 (mk _ A2.mem),(pt i w acc τ2 M2 ew p2).2,λ σ4 H4 τ4 M4 kp4 A4 q4=>⟨τ4,M4,_,A4,q4,λ b H5 M5 kp5 m5 q5=>?_⟩⟩;have kq:=(kp3.trans kp4).trans kp5;cases b with
  | false =>
   rw[if_neg ft0] at q5;show(if false=true then _ else _);rw[if_neg ft0];exact⟨ws.length-(i+1),by omega,rfl,hlt,kp2.trans kq,acc,τ4,M5,ra.keep kq,A4.go kp5 m5,q5⟩
  | true =>
   rw[if_pos rfl] at q5;show(if true=true then _ else _);rw[if_pos rfl];refine⟨τ4,M5,_,A4.go kp5 m5,q5,λ v H6 wv M6 kp6 r6 m6 hq86=>?_⟩;obtain⟨d,e6,q6⟩:=hq86;subst e6;refine⟨ws.length-(i+1),by omega,rfl,hlt,kp2.trans (kq.trans kp6),acc++[d],τ4,M6,aX.append (ra.keep (kq.trans kp6)) ?_,A4.go (kp5.trans kp6) m6,q6⟩;simp only[aX];exact⟨v,[],rfl,r6,rfl⟩
 .have hl:i=ws.length:=by omega
  subst hl;refine .inl ⟨stop (lr0 _),λ p hp=>?_⟩;have kp9:Kp H2 (upd H2 p (.lst ys)):=Kp.new hp;exact kgo kk (kp.trans kp2) _ _ (.m p) _ kp9 rfl (A2.mem.put (mo:=.lst (acc.map W.d)) kp9 ⟨_,aj,(ra.keep kp9).ws⟩) (pe acc τ2 M2 p2 p (A2.mem.free hp))
variable {X:Cx}{sc:Scope}{own:List Str}{fr:List Nat}{di:TId}{g:TGd}{tt:TTd}{te:TD}{tg iter elt:Expr}{ifs:List Expr}{pos:Pos}
theorem ad7(hc:X.calm=true)(L:nq X sc own fr)(hi:PId X tg iter di)
  (hg:∀ cl C s H ex pl,PGd (blk X sc (lcN X own fr) cl C s H ex pl) tg g)(ht:∀ cl C s H ex pl,sL (blk X sc (lcN X own fr) cl C s H ex pl) ifs tt)(he:∀ cl C s H ex pl,PD (blk X sc (lcN X own fr) cl C s H ex pl) elt te)
  (hs:∀ x,foldedSetIterable iter X.env x=pure x:=by intro _;rfl):PD X (.ListComp elt [⟨tg,iter,ifs,0⟩] sc pos) (adt di g tt te own.length fr):=
 fN (ad0 hc L hi hg ht he hs) λ σ H Q h=>aaZ h
end
section
variable {X:Cx}{K:FG}
end
theorem om:∀ {ns:List Int} {us:List Value},IntsAre us ns->Vals (ns.map V.int) us
 | _,_,.nil=>.nil
 | _,_,.cons n t h=>.cons ⟨t,rfl⟩ (om h)
def sI(ns:List Int):List W:=ns.map λ n=>.d (.int n)
theorem sk{K:FG}{H:Hp}:∀ (ns:List Int),bh K H (sI ns) (ns.map V.int)
 | []=>.nil
 | n::ns=>.cons (by simp[aJ,aB]) (sk ns)
theorem adM(hc:X.calm=true)(L:nq X sc own fr)(hi:Jd (PId X tg iter di))
  (hg:∀ cl C s H ex pl,Jd (PGd (blk X sc (lcN X own fr) cl C s H ex pl) tg g))(ht:∀ cl C s H ex pl,Jd (sL (blk X sc (lcN X own fr) cl C s H ex pl) ifs tt))(he:∀ cl C s H ex pl,Jd (PD (blk X sc (lcN X own fr) cl C s H ex pl) elt te))
  (hs:∀ x,foldedSetIterable iter X.env x=pure x:=by intro _;rfl):Jd (PD X (.ListComp elt [⟨tg,iter,ifs,0⟩] sc pos) (adt di g tt te own.length fr)):=
 ⟨D.ad7 hc L hi.h (λ cl C s H ex pl=>(hg cl C s H ex pl).h) (λ cl C s H ex pl=>(ht cl C s H ex pl).h) (λ cl C s H ex pl=>(he cl C s H ex pl).h) hs⟩
section
variable {P:Program}{w:World}{K:FG}{mg:Str->Option Value}{base h:Heap}
end
end D
open L2 D
namespace Stc
open L2 D Rc
def Ext(M M':MH):Prop:=∀ q o,M q=some o->M' q=some o
theorem Ext.trans(h:Ext A B)(k:Ext B C):Ext A C:=λ q o e=>k q o (h q o e)
theorem Ext.new(h:M p=none):Ext M (aS M p o):=λ q u e=>cC e h
theorem Ext.del(h:Ext M M')(hp:M p=none):Ext M (sG M' p):=λ q u e=>by have hq:q≠p:=bN e hp;simp only[sG,if_neg hq];exact h q u e
theorem Ext.none(h:Ext M M')(hp:M' p=none):M p=none:=by
 cases e:M p with
 | none=>rfl
 | some o=>rw[h p o e] at hp;cases hp
theorem Ext.bag(h:Ext M M')(hb:Bag M p):Bag M' p:=by obtain⟨a,b,c,ns,e,z⟩:=hb;exact⟨a,b,c,ns,h _ _ e,z⟩
theorem l5{α:Type}{gt:TGd}{te:TD}{Q:List PyData->DS->MH->Prop}{τ0:DS}{M:MH}(L:List α)(g:α->W)(f:α->PyData)(S:DS->Prop)(hL:L.length<=1000)(h0:S τ0)
  (step:∀ a∈L,∀ τ,S τ->∀ R:PyData->DS->MH->Prop,(∀ τ2,S τ2->R (f a) τ2 M)->gt (g a) τ M λ τ2 M2=>te τ2 M2 λ y M4=>∃ d,y=.d d/\R d τ2 M4)
  (q:∀ τ,Q (L.map f) τ M) :
  ∃ P:Nat->List PyData->DS->MH->Prop,P 0 [] τ0 M /\
   (∀ i w acc τ M,(L.map g)[i]? =some w->P i acc τ M->acc.length<sizeLine/\gt w τ M λ τ2 M2=>iJ τ2 M2 λ b M3=>if b=true then te τ2 M3 λ y M4=>∃ d,y=.d d/\P (i+1) (acc++[d]) τ2 M4 else P (i+1) acc τ2 M3) /\
   ∀ acc τ M,P (L.map g).length acc τ M->Q acc τ M:=by
 refine⟨λ i acc τ M'=>M'=M/\acc=(L.take i).map f/\S τ,⟨rfl,rfl,h0⟩,?_,?_⟩
 .rintro i w acc τ M' hw ⟨rfl,rfl,hs⟩;rw[List.getElem?_map] at hw;cases e:L[i]? with
  | none=>rw[e] at hw;cases hw
  | some a =>
   rw[e] at hw;cases hw;have hi:=(List.getElem?_eq_some_iff.mp e).1;refine⟨by rw[lm,List.length_take];have:=s16;omega,?_⟩;refine step a (List.mem_of_getElem? e) τ hs (λ d τ2 M4=>M4=M'/\(L.take i).map f++[d]=(L.take (i+1)).map f/\S τ2) λ τ2 h2=>⟨rfl,?_,h2⟩;rw[List.take_succ,e];simp
 .rintro acc τ M' ⟨rfl,rfl,hs⟩;rw[lm,List.take_length];exact q τ
theorem ints_map(ns:List Int):(ns.map PyData.int).map W.d=sI ns:=by rw[List.map_map];rfl
theorem sealed(hl:M l=none):Ext M (sG (aS M l o) l):=(Ext.new hl).del hl
theorem dF{α β:Type}{L:List α}{f:α->β}{i:Nat}{w:β}(h:(L.map f)[i]? =some w):∃ a,L[i]? =some a/\w=f a:=by
 rw[List.getElem?_map] at h;cases e:L[i]? with
 | none=>rw[e] at h;cases h
 | some a=>rw[e] at h;cases h;exact⟨a,rfl,rfl⟩
theorem nR{lo:Int}{n i:Nat}{w:W}(h:(lY lo n)[i]? =some w):i<n/\w=.d (.int (lo+(i:Int))):=by
 unfold lY at h;obtain⟨j,hj,rfl⟩:=dF h;obtain⟨h1,h2⟩:=List.getElem?_eq_some_iff.mp hj;simp at h1 h2;subst h2;exact⟨h1,rfl⟩
theorem ab8{α:Type}{xs:List α}{i:Nat}(hi:i<=xs.length):D.cutD xs none (some (i:Int))=xs.take i:=by
 unfold D.cutD;have e:HT.sIx xs.length 0 none=0:=rfl;have e2:HT.sIx xs.length xs.length (some (i:Int))=i:=by
  unfold HT.sIx;simp;rw[if_neg (by omega)];omega
 rw[e,e2];simp
theorem pq{c:Bool}{A B:Prop}(e:c=true)(h:A):if c=true then A else B:=by rw[e];exact sF h
theorem qy{c:Bool}{A B:Prop}(e:c=false)(h:B):if c=true then A else B:=by rw[e];exact jf h
theorem um{L:List Str}(h:L.Nodup){i:Nat}{z:Str}(e:L[i]? =some z):z ∉ L.take i:=by intro hm;obtain⟨j,hj,ej⟩:=List.getElem_of_mem hm;rw[List.length_take] at hj;rw[List.getElem_take] at ej;obtain⟨hi,ei⟩:=List.getElem?_eq_some_iff.mp e;have:=(List.getElem_inj (h₀:=by omega) (h₁:=hi) h).mp (ej.trans ei.symm);omega
end Stc
namespace HT
open PySem PyProof.Rows
section
open PySem.SeqAt
open PySem.MeetsSeq PySem.MeetsSeq2 PySem.MeetsSeq3
end
end HT
namespace D
open L2
section
variable {X:Cx}{K:FG}
end
end D
namespace Stc
open L2 D Rc
theorem afk(h:(lY 0 n)[i]? =some w):i<n/\w=.d (.int (i:Int)):=by obtain⟨h1,h2⟩:=nR h;rw[Int.zero_add] at h2;exact⟨h1,h2⟩
end Stc
namespace D
open L2
end D
open L2 D
namespace L2
theorem ql(I:Nat->Shared->Prop)
  (turn:∀ n s,I n s->wpAny (model prog w) A (pyNext it) (λ r s₁=>match r with
   | none=>R (.ok .next) s₁
   | some v=>wpAny (model prog w) A (letOwnedTupleGo target it v) (λ _ s₁'=>wpAny (model prog w) A (assign target env v) (λ _ s₂ =>
     wpAny (model prog w) A (uk ifs env) (λ ok s₃ =>
      if ok=true then wpAny (model prog w) A (eval kx env) (λ kv s₄=>wpAny (model prog w) A (eval vx env) (λ vv s₅ =>
       wpAny (model prog w) A (dictSet D kv vv) (λ _ s₆=>∃ m,m<n/\I m s₆) (λ _ _=>False) s₅) (λ _ _=>False) s₄) (λ _ _=>False) s₃
      else ∃ m,m<n/\I m s₃) (λ _ _=>False) s₂) (λ _ _=>False) s₁') (λ _ _=>False) s₁) (λ _ _=>False) s)
  (n:Nat)(h:I n s) :
  codeAny (model prog w) A (.compLoop (.DictComp kx vx [⟨target,iter,ifs,0⟩] scope pos) 0 it (.ref D) env) R s:=by
 refine codeAny_loop rfl I (λ n s hI=>?_) n h;show wpAny _ A ((compTurn (.DictComp kx vx [⟨target,iter,ifs,0⟩] scope pos) 0 it (.ref D) env).onRaise (λ x=>do noteFrame x env;theTreesLotGoes x)) _ _ s;refine wpAny_noted ?_;rw[compTurn_dict];refine wb0 (wpAny_standAt (wb0 (wpAny_mono (turn n s hI) (λ r s₁ h₁=>?_) λ _ _ h'=>h'.elim)));cases r with
 | none=>exact wp h₁
 | some v =>
  refine wb0 (wpAny_mono h₁ (λ _ s₁' h₁'=>?_) λ _ _ h'=>h'.elim);refine wb0 (wpAny_mono h₁' (λ _ s₂ h₂=>wb0 (wpAny_mono h₂ (λ ok s₃ h₃=>?_) λ _ _ h'=>h'.elim)) λ _ _ h'=>h'.elim);cases ok with
  | false=>exact wp ⟨rfl,h₃⟩
  | true =>
   refine wb0 ?_;refine wb0 (wpAny_mono h₃ (λ kv s₄ h₄=>wb0 (wpAny_holding (wpAny_mono h₄ (λ vv s₅ h₅=>wb0 (wpAny_standAt (wpAny_holding (wpAny_mono h₅ (λ _ s₆ h₆=>wp ⟨rfl,h₆⟩) λ _ _ h'=>h'.elim)))) λ _ _ h'=>h'.elim))) λ _ _ h'=>h'.elim)
theorem xZ(I:Inv X pins σ H s)(e:H a=some (.dK kvs))(l:kvs.length<sizeLine)(ry:RelV (kV k) u)(rv:RelV v r)(h:∀ s',Inv X pins σ (upd H a (.dK (putK kvs k v))) s'->Q () s') :
  wpAny (model X.prog X.w) A (dictSet a u r) Q E s:=by
 obtain⟨z,hd,vs,rel,dd⟩:=ahA I.hok e;have hz:vs.length<=sizeLine:=by rw[<- rel.length];exact z
 have hl:(putK kvs k v).length<=sizeLine:=by have:=iC kvs k v;omega
 refine wpAny_dictSet_pairs (hsz:=hz) (qO ry) dd λ h' dd' hs=>h _ ?_;have he:∃ q,h'.get? a=some q:=let ⟨q,_,_,hq,_⟩:=dd'; ⟨q,hq⟩;exact tG I (by rw[e];exact True.intro) hs he (aay hl hd (rel.put k rv) dd')
abbrev DcW:=Nat->Nat->St->Hp->Prop
def ac3(J:It)(g:TG)(tt:TT)(tk tv:TE)(D:Addr)(W:DcW)(Fin:Hp->Prop):Prop:=∀ i m τ H,W i m τ H ->
 (J.stop i H/\Fin H)\/(J.go i H/\∀ x H',J.yld i H x H'->g x τ H' λ τ2 H2=>tt τ2 H2 λ b H3 =>
  if b=true then tk τ2 H3 λ y H4=>tv τ2 H4 λ z H5=>∃ kvs k,H5 D=some (.dK kvs)/\y=kV k/\kvs.length<sizeLine/\∃ m',m'<m/\W (i+1) m' τ2 (upd H5 D (.dK (putK kvs k z))) else ∃ m',m'<m/\W (i+1) m' τ2 H3)
section
variable {X:Cx}{pins:PN}{σ:St}{H:Hp}{s:Shared}{sc:Scope}{own:List Str}{fr:List Nat}{cl:List (Str×Addr)}{fp:List Addr}{it D:Addr}{J:It}{tn:Nat->Heap->Prop}{g:TG}{tt:TT}{tk tv:TE}{W:DcW}{Fin:Hp->Prop}
 {kx vx tg iter:Expr}{ifs:List Expr}{pos:Pos}{E:VP}
theorem adK{RR:Addr->Result->Shared->Prop}(hc:X.calm=true)(L:nq X sc own fr)(hcl1:∀ n c,cl.lookup n=some c->X.env.cells.lookup n=some c)(hcl2:∀ n,(n,NameKind.free)∈sc.names->∃ c,cl.lookup n=some c)
  (hg:∀ C s H ex pl,PG (blk X sc (lcN X own fr) cl C s H ex pl) tg g)(ht:∀ C s H ex pl,PTs (blk X sc (lcN X own fr) cl C s H ex pl) ifs tt)(hk:∀ C s H ex pl,PE (blk X sc (lcN X own fr) cl C s H ex pl) kx tk)(hv:∀ C s H ex pl,PE (blk X sc (lcN X own fr) cl C s H ex pl) vx tv)
  (I:Inv X pins σ H s)(T:Turn X.prog X.w X.K tg J fp it tn)(st:tn 0 s.heap)(hf:∀ b∈fp,kO X pins H b)(w0:∃ m,W 0 m (lcS own.length fr σ) H)(turn:ac3 J g tt tk tv D W Fin)
  (hRR:∀ (C:Addr) (s':Shared) (H':Hp) (m:Str->Option Value),Inv X pins σ H' s'->H' C=none->s.heap.objs.size<=C->s'.heap.Ns C m->Fin H'->RR C (.ok .next) s') :
  wpAny (model X.prog X.w) X.A (newFunctionEnv sc X.env.globals cl [] X.env.qual none .none (some X.env)) (λ cenv s₄ =>
   codeAny (model X.prog X.w) X.A (.compStart (.DictComp kx vx [⟨tg,iter,ifs,0⟩] sc pos) 0 (.ref it) (.ref D) {cenv with scope:=relabel sc X.env}) (RR cenv.locals) s₄) E s:=by
 refine wpAny_newFunctionEnv L.cell (by intro y hy;simp at hy) (λ h₁ hns₁ hsb₁=>?_) L.kind
 try dsimp only at hns₁ hsb₁ ⊢
 have below:∀ b,b<s.heap.objs.size->b≠s.heap.objs.size:=λ b hb=>Nat.ne_of_lt hb;have old:∀ b o,s.heap.get? b=some o->h₁.get? b=some o:=λ b o e=>hsb₁.extBut b o (below b (Heap.lt_size e)) (Heap.get?_push_of_some _ e);have hfb:∀ b∈fp,b<s.heap.objs.size:=λ b hb=>by obtain⟨o,e,_⟩:=T.obj 0 _ st b hb;exact Heap.lt_size e
 have I1:Inv (blk X sc (lcN X own fr) cl s.heap.objs.size s H fp pins) [] (lcS own.length fr σ) H {s with heap:=h₁,toks:=s.toks+([]:List (Str×Value)).length}:=yZ L I hf hfb (lr0 _) hcl1 hcl2 hns₁ old;have st1:tn 0 h₁:=T.keep 0 _ _ st λ b _ o e=>old b o e;generalize hY:blk X sc (lcN X own fr) cl s.heap.objs.size s H fp pins=Y at I1;have hYp:Y.prog=X.prog:=by rw[<- hY];rfl
 have hYw:Y.w=X.w:=by rw[<- hY];rfl
 have hYK:Y.K=X.K:=by rw[<- hY];rfl
 have hYA:Y.A=X.A:=by rw[<- hY];rfl
 have hYc:Y.calm=true:=by rw[<- hY];exact hc
 have hYe:Y.env=compEnvC sc cl s.heap.objs.size X.env:=by rw[<- hY];rfl
 have hYx:Y.xe=λ _ _=>False:=by rw[<- hY];rfl
 have hYpn:Y.pn=X.pn++pins:=by rw[<- hY];rfl
 have hYs:Y.s₀=s:=by rw[<- hY];rfl
 have hYH:Y.H₀=H:=by rw[<- hY];rfl
 have hYex:Y.ex=fp:=by rw[<- hY];rfl
 have hYfs:Y.fs=frs X.stack:=by rw[<- hY];rfl
 have gY:=hg s.heap.objs.size s H fp pins;have tY:=ht s.heap.objs.size s H fp pins;have kY:=hk s.heap.objs.size s H fp pins;have vY:=hv s.heap.objs.size s H fp pins;rw[hY] at gY tY kY vY;have fpY:∀ {H':Hp},(∀ b∈fp,H' b=none)->∀ b∈fp,kO Y [] H' b:=λ {H'} hn b hb=>by
  obtain⟨_,f1,f2,f3,f4,f5⟩:=hf b hb;refine⟨hn b hb,by rw[hYe];exact below b (hfb b hb),?_,.inl (by rw[hYex];exact hb),λ x c e=>?_,λ p q=>?_⟩
  .rw[hYfs];intro z;rcases List.mem_cons.mp (I.jO _ z) with e | e
   .exact f1 e
   .exact f2 e
  .rw[hYe] at e;exact f4 x c (hcl1 _ _ e)
  .rw[List.append_nil,hYpn] at q;exact f5 p q
 have loop:∀ s₃:Shared,s₃={s with heap:=h₁,toks:=s.toks+([]:List (Str×Value)).length} ->
   codeAny (model X.prog X.w) X.A (.compLoop (.DictComp kx vx [⟨tg,iter,ifs,0⟩] sc pos) 0 (.ref it) (.ref D) (compEnvC sc cl s.heap.objs.size X.env)) (RR s.heap.objs.size) s₃:=by
  rintro s₃ rfl;obtain⟨m0,w0⟩:=w0;refine ql (λ n s'=>∃ i τ H',Inv Y [] τ H' s'/\tn i s'.heap/\(∀ b∈fp,H' b=none)/\W i n τ H') ?_ m0 ⟨0,_,H,I1,st1,λ b hb=>(hf b hb).1,w0⟩;rintro n s' ⟨i,τ,H',I',st',hn',w'⟩;rcases turn i n τ H' w' with ⟨stop,fin⟩ | ⟨go,step⟩
  .have q:=T.done Y hYp hYw hYK hYc i _ s' τ H' (λ _ _=>False) I' (fpY hn') st' stop;rw[hYA] at q;refine thn q λ r s4 hq87=>?_;obtain⟨hr,I4⟩:=hq87;subst hr;have un:Un (frs X.stack) fp H H' s.heap s4.heap:=by have z:=I4.base;rw[hYfs,hYex,hYH,hYs] at z;exact z
   have os4:s4.os=s.os:=by have z:=I4.os;rw[hYs] at z;exact z
   have hok4:HOk X.prog X.w H' s4.heap:=by have z:=I4.hok;rw[hYp,hYw] at z;exact z
   have hch:∀ b∈fp,(b∈X.ex\/X.s₀.heap.objs.size<=b)/\b≠X.env.locals/\(∀ x c,X.env.cells.lookup x=some c->c≠b)/\∀ p∈X.pn++pins,p.1≠b:=λ b hb=>by obtain⟨_,f1,f2,f3,f4,f5⟩:=hf b hb;exact⟨f3,f1,f4,f5⟩
   have IX:Inv X pins σ H' s4:=I.aiM os4 un hok4 I4.bare hch;obtain⟨mC,hmC,_⟩:=I4.loc;have hCf:=I4.free;rw[hYe] at hmC hCf;exact hRR _ s4 H' mC IX hCf (lr0 _) hmC fin
  .have q:=T.item Y hYp hYw hYK hYc i _ s' τ H' (λ _ _=>False) I' (fpY hn') st' go;rw[hYA] at q;refine thn q λ r s4 hq88=>?_;obtain⟨u,hr,h4⟩:=hq88;subst hr;refine thn h4 λ _ s5 hq89=>?_;obtain⟨x,H5,I5,r5,y5,st5,fr5⟩:=hq89;have I5':=I5.pinned (fpY fr5) (T.obj _ _ st5);have g5:=gY _ s5 τ H5 x u _ I5' r5 (step x H5 y5);rw[hYp,hYw,hYA,hYe,hYx] at g5;refine thn g5 λ _ s6 hq90=>?_;obtain⟨σ6,H6,I6,q6⟩:=hq90;have t6:=tY _ s6 σ6 H6 _ I6 q6;rw[hYp,hYw,hYA,hYe,hYx] at t6;refine thn t6 λ ok s7 hq91=>?_;obtain⟨H7,I7,q7⟩:=hq91;have keepI:∀ {σ8:St} {H8:Hp} {s8:Shared},Inv Y ([]++lX fp s5.heap) σ8 H8 s8->tn (i+1) s8.heap/\∀ b∈fp,H8 b=none:=
    λ {σ8 H8 s8} I8=>by refine⟨T.keep _ _ _ st5 λ b hb o e=>(I8.pin (b,o) (List.mem_append_right _ (List.mem_append_right _ (cZ hb e)))).1,λ b hb=>?_⟩;obtain⟨o,e,d⟩:=T.obj _ _ st5 b hb;exact(I8.pin (b,o) (List.mem_append_right _ (List.mem_append_right _ (cZ hb e)))).2.1
   cases ok with
   | false =>
    rw[if_neg ft0] at q7 ⊢;obtain⟨m',hm',w7⟩:=q7;obtain⟨c7,d7⟩:=keepI I7;exact⟨m',hm',i+1,σ6,H7,I7.dH (λ p hp=>(nomatch hp)),c7,d7,w7⟩
   | true =>
    rw[if_pos rfl] at q7 ⊢;have e7:=kY _ s7 σ6 H7 _ I7 q7;rw[hYp,hYw,hYA,hYe,hYx] at e7;refine thn e7 λ ku s8 hq92=>?_;obtain⟨y,H8,I8,r8,q8⟩:=hq92;have e8:=vY _ s8 σ6 H8 _ I8 q8;rw[hYp,hYw,hYA,hYe,hYx] at e8;refine thn e8 λ vu s9 hq93=>?_;obtain⟨z,H9,I9,r9,kvs,k,hD,ey,hlt,m',hm',w9⟩:=hq93;subst ey;have r8':RelV (kV k) ku:=r8;have q9:=xZ (A:=X.A) (E:=λ _ _=>False) (Q:=λ _ s₆=>∃ m,m<n/\∃ i τ H',Inv Y [] τ H' s₆/\tn i s₆.heap/\(∀ b∈fp,H' b=none)/\W i m τ H') I9 hD hlt r8' r9 λ s10 I10=>by obtain⟨c8,d8⟩:=keepI I10;exact⟨m',hm',i+1,σ6,_,I10.dH (λ p hp=>(nomatch hp)),c8,d8,w9⟩
    rw[hYp,hYw] at q9;exact q9
 exact codeAny_compStart_dict (loop _ rfl) (T.self _ 0 _ _ _ st1 (loop _ rfl))
def tDC(wi:TI)(g:TG)(tt:TT)(tk tv:TE)(k:Nat)(fr:List Nat):TE:=λ σ H Q=>wi σ H λ J H1=>∀ p,H1 p=none->∃ W:DcW,(∃ m,W 0 m (lcS k fr σ) (upd H1 p (.dK [])))/\ac3 J g tt tk tv p W λ H2=>Q (.ref p) H2
theorem akc(hc:X.calm=true)(L:nq X sc own fr)(hi:PI X tg iter wi)
  (hg:∀ cl C s H ex pl,PG (blk X sc (lcN X own fr) cl C s H ex pl) tg g)(ht:∀ cl C s H ex pl,PTs (blk X sc (lcN X own fr) cl C s H ex pl) ifs tt)(hk:∀ cl C s H ex pl,PE (blk X sc (lcN X own fr) cl C s H ex pl) kx tk)(hv:∀ cl C s H ex pl,PE (blk X sc (lcN X own fr) cl C s H ex pl) vx tv)
  (hs:∀ x,foldedSetIterable iter X.env x=pure x:=by intro _;rfl):PE X (.DictComp kx vx [⟨tg,iter,ifs,0⟩] sc pos) (tDC wi g tt tk tv own.length fr):=by
 intro pins s σ H Q I h;obtain⟨cl,hcl,c1,c2⟩:=jK L I.ok;show wpAny _ _ (comprehension (.DictComp kx vx [⟨tg,iter,ifs,0⟩] sc pos) sc X.env _ newDict false (eval iter X.env)) _ _ _;refine wpAny_comprehension_free (use:=none) (g:=⟨tg,iter,ifs,0⟩) (gs:=[]) rfl hs hcl L.kind L.names ?_;refine thn (hi pins s σ H _ I h) λ v s1 h1=>thn h1 λ itv s2 h2=>?_;obtain⟨it,fp,tn,J,H2,e,I2,T,st2,f2,q2⟩:=h2;subst e;obtain⟨W,w0,turn⟩:=q2 _ (I2.hok.fresh (lr0 s2.heap.objs.size));refine wpAny_newObj_type ?_;have I3:=I2.laid (a:=s2.heap.objs.size) (o:=.dK []) (h':=s2.heap.push {cls:=.type "dict",data:=.dict #[]}) (t':=s2.toks) (λ _ _ q=>Heap.get?_push_of_some _ q) (lr0 _) (vd s2.heap I2.big);have hfb:∀ b∈fp,b<s2.heap.objs.size:=λ b hb=>by obtain⟨o,e,_⟩:=T.obj 0 _ st2 b hb;exact Heap.lt_size e
 have f3:∀ b∈fp,kO X pins (upd H2 s2.heap.objs.size (.dK [])) b:=λ b hb=>by obtain⟨f0,fr⟩:=f2 b hb;exact⟨by rw[ai (Nat.ne_of_lt (hfb b hb))];exact f0,fr⟩
 have st3:tn 0 (s2.heap.push {cls:=.type "dict",data:=.dict #[]}):=T.keep 0 _ _ st2 λ b _ o e=>Heap.get?_push_of_some _ e;refine adK (cl:=cl) hc L c1 c2 (hg cl) (ht cl) (hk cl) (hv cl) I3 T st3 f3 w0 turn λ C s' H' m I' hC dC hns fin=>?_;refine⟨m,hns,λ h' sb=>?_⟩;have hC2:s2.heap.objs.size<=C:=Nat.le_trans (by rw[Heap.size_push];exact Nat.le_succ _) dC;obtain⟨_,z2,_,_,z3,z4⟩:=I2.uY (H':=λ _=>none) hC2 rfl;have I4:Inv X pins σ H' {s' with heap:=h'}:=I'.turned (t':=s'.toks) (λ b o hb e=>sb.extBut b o hb e) hC z2 (.inr (Nat.le_trans I2.sz hC2)) z3 z4;exact⟨.ref _,_,I4,rfl,fin⟩
end
end L2
namespace D
open L2
section
variable {K:FG}
def dDC(di:TId)(g:TGd)(tt:TTd)(tk tv:TD)(k:Nat)(fr:List Nat)(τ:DS)(M:MH)(Q:QD):Prop:=di τ M λ ws M1=>∀ p,M1 p=none->∃ P:Nat->DS->MH->Prop,P 0 (aa3 k fr τ) (aS M1 p (.dic [])) /\
 (∀ i w τ M,ws[i]? =some w->P i τ M->g w τ M λ τ2 M2=>tt τ2 M2 λ b M3=>if b=true then tk τ2 M3 λ y M4=>tv τ2 M4 λ z M5=>∃ kvs key,M5 p=some (.dic kvs)/\y=kW key/\kvs.length<sizeLine/\P (i+1) τ2 (aS M5 p (.dic (kG kvs key z))) else P (i+1) τ2 M3) /\
 ∀ τ M,P ws.length τ M->Q (.m p) M
theorem ahP(h:up K (dDC di g tt tk tv k fr) σ H Q) :
  tDC (upI K di) (upG K g) (upT K tt) (up K tk) (up K tv) k fr σ H Q:=by
 obtain⟨τ,M,Qd,A,h,kk⟩:=h;refine⟨τ,M,_,A,h,λ J H1 ws M1 kp m1 it hall p hp=>?_⟩;obtain⟨P,p0,pt,pe⟩:=hall p (m1.free hp);have kpn:Kp H1 (upd H1 p (.dK [])):=Kp.new hp;have mn:cB K (upd H1 p (.dK [])) (aS M1 p (.dic [])):=m1.put (mo:=.dic []) kpn ⟨_,aj,.nil⟩;refine⟨λ i n σ' H'=>n=ws.length-i/\i<=ws.length/\Kp (upd H1 p (.dK [])) H'/\∃ τ M,Abs K H' σ' τ M/\P i τ M,⟨ws.length,by simp,Nat.zero_le _,Kp.refl _,_,_,rU (A.go (kp.trans kpn) mn) k fr,p0⟩,?_⟩;rintro i n σ2 H2 ⟨rfl,hi,kp2,τ2,M2,A2,p2⟩;obtain⟨go,stop,yld⟩:=it H2 (kpn.trans kp2) i
 by_cases hlt:i<ws.length
 .refine .inr ⟨go hlt,λ x H3 y=>?_⟩;obtain⟨kp3,mk,w,ew,rw⟩:=yld x H3 hlt y;refine⟨w,τ2,M2,_,rw,A2.go kp3 (mk _ A2.mem),pt i w τ2 M2 ew p2,λ σ4 H4 τ4 M4 kp4 A4 q4=>⟨τ4,M4,_,A4,q4,λ b H5 M5 kp5 m5 q5=>?_⟩⟩;have kq:=(kp3.trans kp4).trans kp5;cases b with
  | false =>
   rw[if_neg ft0] at q5;exact jf ⟨ws.length-(i+1),by omega,rfl,hlt,kp2.trans kq,τ4,M5,A4.go kp5 m5,q5⟩
  | true =>
   rw[if_pos rfl] at q5;refine sF ⟨τ4,M5,_,A4.go kp5 m5,q5,λ ky H6 wy M6 kp6 r6 m6 q6=>⟨τ4,M6,_,A4.go (kp5.trans kp6) m6,q6,λ v H7 wv M7 kp7 r7 m7 hq94=>?_⟩⟩;obtain⟨kvs,key,hm,ey,hl,q7⟩:=hq94;subst ey;obtain⟨l,e,pr⟩:=m7 _ _ hm;have kp8:Kp H7 (upd H7 p (.dK (putK l key v))):=Kp.set e (λ _ z=>nomatch z) (λ _ _ z=>nomatch z);refine⟨l,key,e,oH r6,by rw[<- vT pr];exact hl,ws.length-(i+1),by omega,rfl,hlt,kp2.trans (((kq.trans kp6).trans kp7).trans kp8),τ4,_,A4.go (((kp5.trans kp6).trans kp7).trans kp8) (m7.put (mo:=.dic (kG kvs key wv)) kp8 ⟨_,aj,?_⟩),q7⟩;exact Paired.fD (yY key r7 pr) λ p q z=>⟨z.1,z.2.keep kp8⟩
 .have hl:i=ws.length:=by omega
  subst hl;refine .inl ⟨stop (lr0 _),?_⟩;exact kk _ H2 (.m p) M2 (kp.trans (kpn.trans kp2)) rfl A2.mem (pe τ2 M2 p2)
variable {X:Cx}{sc:Scope}{own:List Str}{fr:List Nat}{di:TId}{g:TGd}{tt:TTd}{tk tv:TD}{tg iter kx vx:Expr}{ifs:List Expr}{pos:Pos}
theorem ah0(hc:X.calm=true)(L:nq X sc own fr)(hi:PId X tg iter di)
  (hg:∀ cl C s H ex pl,PGd (blk X sc (lcN X own fr) cl C s H ex pl) tg g)(ht:∀ cl C s H ex pl,sL (blk X sc (lcN X own fr) cl C s H ex pl) ifs tt)(hk:∀ cl C s H ex pl,PD (blk X sc (lcN X own fr) cl C s H ex pl) kx tk)(hv:∀ cl C s H ex pl,PD (blk X sc (lcN X own fr) cl C s H ex pl) vx tv)
  (hs:∀ x,foldedSetIterable iter X.env x=pure x:=by intro _;rfl):PD X (.DictComp kx vx [⟨tg,iter,ifs,0⟩] sc pos) (dDC di g tt tk tv own.length fr):=
 fN (akc hc L hi hg ht hk hv hs) λ σ H Q h=>ahP h
end
end D
open L2 D
theorem ah7(hc:X.calm=true)(L:nq X sc own fr)(hi:Jd (PId X tg iter di))
  (hg:∀ cl C s H ex pl,Jd (PGd (blk X sc (lcN X own fr) cl C s H ex pl) tg g))(ht:∀ cl C s H ex pl,Jd (sL (blk X sc (lcN X own fr) cl C s H ex pl) ifs tt))(hk:∀ cl C s H ex pl,Jd (PD (blk X sc (lcN X own fr) cl C s H ex pl) kx tk))(hv:∀ cl C s H ex pl,Jd (PD (blk X sc (lcN X own fr) cl C s H ex pl) vx tv))
  (hs:∀ x,foldedSetIterable iter X.env x=pure x:=by intro _;rfl):Jd (PD X (.DictComp kx vx [⟨tg,iter,ifs,0⟩] sc pos) (dDC di g tt tk tv own.length fr)):=
 ⟨D.ah0 hc L hi.h (λ cl C s H ex pl=>(hg cl C s H ex pl).h) (λ cl C s H ex pl=>(ht cl C s H ex pl).h) (λ cl C s H ex pl=>(hk cl C s H ex pl).h) (λ cl C s H ex pl=>(hv cl C s H ex pl).h) hs⟩
namespace L2
end L2
namespace D
open L2
end D
open L2 D
namespace D
open L2
def aaa(C:Addr)(td tv:TD)(fn:Str)(f:Int->Int->Int)(D:Ed)(τ:DS)(M:MH):Prop:=td τ M λ w M1=>∃ a fs i,w=.m a/\M1 a=some (.ins C fs)/\fs.lookup fn=some (.d (.int i)) /\
 tv τ M1 λ y M2=>∃ j fs',y=.d (.int j)/\M2 a=some (.ins C fs')/\fs'.length<1000/\D.nx τ (aS M2 a (.ins C (vB fn (.d (.int (f i j))) fs')))
end D
open L2 D
theorem tU(c:Cls X.K C)(n:cf X.K C fn)(ha:Jd (PD X o td))(hv:Jd (PD X value tv))(hop:PIp X op (ipI f)):Jd (PSd X (.AugAssign (.Attribute o fn tpos) op value pos) (aaa C td tv fn f)):=⟨have ha:=ha.h;have hv:=hv.h;
 qU (yS (rd:=ipI f) ha hv hop) λ D σ H h=>by obtain⟨τ,M,Dd,A,h,k1,_⟩:=h;refine⟨τ,M,_,A,h,λ x H1 w M1 kp1 r1 m1 hq95=>?_⟩;obtain⟨a,fs,i,ew,hm,hl,q1⟩:=hq95;subst ew;obtain⟨dx,l,e,pr⟩:=m1 _ _ hm;have g:=gf fn pr;rw[hl] at g;obtain⟨b,eb,rb⟩:=OR.some_of g;simp only[aJ,aB] at rb;subst rb;refine⟨a,C,dx,l,_,r1,e,c,n,eb,τ,M1,_,A.go kp1 m1,q1,λ y H2 wy M2 kp2 r2 m2 hq96=>?_⟩;obtain⟨j,fs',ey,hm2,hl2,q2⟩:=hq96;subst ey;simp only[aJ,aB] at r2;subst r2;obtain⟨dx2,l2,e2,pr2⟩:=m2 _ _ hm2;refine⟨i,j,rfl,rfl,dx2,l2,e2,by rw[<- xG pr2];exact hl2,?_⟩;have kp4:Kp H2 (upd H2 a (.ins C dx2 (ni fn (.int (f i j)) l2))):=Kp.set e2 (λ _ z=>nomatch z) (λ _ _ z=>nomatch z);refine k1 _ _ _ _ ((kp1.trans kp2).trans kp4) (A.go ((kp1.trans kp2).trans kp4) (m2.put (mo:=.ins C (vB fn (.d (.int (f i j))) fs')) kp4 ⟨dx2,_,aj,?_⟩)) q2;exact aa9.keep kp4 (xQ fn (w:=.d (.int (f i j))) (by simp[aJ,aB]) pr2)⟩
namespace D
open L2
def Itv(a:Addr)(o:Obj)(l:List (Key×V)):It:=
 ⟨λ i H=>H a=some (lN o l)/\i<l.length,λ i H x H'=>H'=H/\∃ kv,l[i]? =some kv/\x=kv.2,λ i H=>H a=some (lN o l)/\l.length<=i⟩
theorem wO{P:Program}{w:World}{K:FG}{tg:Expr}(a it:Addr)(o:Obj)(l:List (Key×V))(es:Array DictEntry)(ep:Nat)(ho:o.data=.dict es ep)
  (hself:∀ (A:Around) (i:Nat) (s:Shared) (Q:VP) (E:VP),s.heap.IsValIter it a i l.length ep->Q (.ref it) s->wpAny (model P w) A (pyIter (.ref it)) Q E s) :
  Turn P w K tg (Itv a o l) [it] it (λ i h=>h.IsValIter it a i l.length ep) where
 mem:=by simp
 obj:=λ i h st b hb=>by
  have e:b=it:=by simpa using hb
  subst e;obtain⟨o,e,c,d⟩:=st;exact⟨o,e,λ v z=>by rw[d] at z;cases z⟩
 keep:=λ i h h' ⟨o,e,c,d⟩ k=>⟨o,k it (by simp) _ e,c,d⟩
 item:=by intro X hP hw hK hc i pins s σ H E I hf st ⟨hg,hi⟩;subst hP hw hK;obtain⟨f0,f1,f2,f3,f4,f5⟩:=hf it (by simp);obtain⟨hd,vs,es',ep',rel,ho',da⟩:=dy I.hok hg;rw[ho] at ho';cases ho';obtain⟨kv,k,v,e1,e2,e3,e4⟩:=ahK rel hi;have hl:l.length=vs.length:=rel.length;rw[hl] at st;refine wpAny_pyNext_values_item st da e2 λ h' st' sb=>?_;have I1:Inv X pins σ H {s with heap:=h'}:=I.turned (t':=s.toks) (λ b o hb e=>(sb.2 b hb).trans e) f0 f1 f3 f4 f5;obtain⟨ob,e,c,d⟩:=id st';exact⟨_,rfl,wK (s:={s with heap:=h'}) e c d (by decide) ⟨kv.2,H,I1,e4,⟨rfl,kv,e1,rfl⟩,by rw[hl];exact st',λ b hb=>(hf b hb).1⟩⟩
 done:=by intro X hP hw hK hc i pins s σ H E I hf st ⟨hg,hi⟩;subst hP hw hK;obtain⟨f0,f1,f2,f3,f4,f5⟩:=hf it (by simp);obtain⟨hd,vs,es',ep',rel,ho',da⟩:=dy I.hok hg;rw[ho] at ho';cases ho';have hl:l.length=vs.length:=rel.length;rw[hl] at st hi;exact wpAny_pyNext_values_end (I.ok.hd hc) st da (List.getElem?_eq_none hi) λ h' eb=>⟨rfl,I.turned (t':=s.toks) (λ b o hb e=>eb b o hb e) f0 f1 f3 f4 f5⟩
 self:=λ A i s Q E st h=>hself A i s Q E st h
theorem qY{P:Program}{w:World}{it a:Addr}{n ep:Nat}(A:Around)(i:Nat)(s:Shared)(Q:VP)(E:VP)(st:s.heap.IsValIter it a i n ep)(h:Q (.ref it) s):wpAny (model P w) A (pyIter (.ref it)) Q E s:=
 wpAny_pyIter_valiter st h
def ahX(td:TE):TI:=λ σ H R=>td σ H λ x H1=>∃ a o l,x=.ref a/\H1 a=some (lN o l)/\R (Itv a o l) H1
theorem abL(ho:PE X o td)(hbase:attributeBase o "values" X.env (eval o X.env)=eval o X.env:=by rfl)(hline:(apos.endLine==cpos.line)=true:=by rfl) :
  PI X tg (.Call (.Attribute o "values" apos) [] [] cpos) (ahX td):=by
 intro pins s σ H R I h;refine wpAny_Call_method0_late hbase hline (thn (ho pins s σ H _ I h) λ v s1 hq97=>?_);obtain⟨x,H1,I1,r1,a,ob,l,ex,hg,q⟩:=hq97;subst ex;cases r1;obtain⟨hd,vs,es,ep,rel,hdat,da⟩:=dy I1.hok hg;have dd:s1.heap.DictOf (a9 X.prog X.w) a vs:=let ⟨o,es,h⟩:=da; ⟨o,es,ep,h⟩;have hnd:∀ b,Value.ref a=.ref b->∃ ob,s1.heap.get? b=some ob/\ob.dict=none:=λ b e=>by
  cases e;obtain⟨oo,es',h1,h2,_⟩:=da;exact⟨oo,h1,h2.2.1⟩
 refine⟨"dict", "dict.values",PySem.F.plainAttrs_dict,PySem.F.slot_dict_values,PySem.F.type_dict_values,dd.typeIs,hnd,Calls.callWith_builtin rfl (PySem.evalArgs_none ?_)⟩;refine call_meetsIn PySem.F.slot_dict_values dd.typeIs PySem.F.entry_dict_values (PySem.F.args_dict_values_1 _) (meets_dict_values (a9 X.prog X.w) a hd) ⟨⟨vs,dd⟩,?_⟩;have I2:Inv X pins σ H1 {s1 with heap:=s1.heap.push {cls:=.type "dict_values",data:=.fields #[.ref a]}}:=I1.kept (t':=s1.toks) λ b o e=>Heap.get?_push_of_some _ e;obtain⟨_,vs2,es2,ep2,rel2,hdat2,da2⟩:=dy I2.hok hg;rw[hdat] at hdat2;cases hdat2;refine wpAny_pyIter_values ⟨_,Heap.get?_push_size _ rfl,rfl,rfl⟩ da2 ?_;refine⟨_,[_],_,_,H1,rfl,I2.kept (t':=s1.toks) λ b o e=>Heap.get?_push_of_some _ e,wO a _ ob l es ep hdat qY,⟨_,Heap.get?_push_size _ rfl,rfl,?_⟩,λ b hb=>?_,q⟩
 .rw[rel2.length];rfl
 .rw[List.mem_singleton] at hb;rw[hb];exact I2.uY (lr0 _) (I2.hok.fresh (lr0 _))
def jg(kds:List (Key×PyData)):List W:=kds.map λ p=>.d p.2
def acV(td:TD)(τ:DS)(M:MH)(R:List W->MH->Prop):Prop:=td τ M λ w M1=>∃ a kds,w=.m a/\M1 a=some (.fdic (bt kds))/\R (jg kds) M1
end D
open L2 D
theorem wb(ho:Jd (PD X o td))(hbase:attributeBase o "values" X.env (eval o X.env)=eval o X.env:=by rfl)(hline:(apos.endLine==cpos.line)=true:=by rfl):Jd (PId X tg (.Call (.Attribute o "values" apos) [] [] cpos) (acV td)):=⟨have ho:=ho.h;agA (abL ho hbase hline) λ σ H R hq98=>by
 obtain⟨τ,M,Rd,A,h,k⟩:=hq98;refine⟨τ,M,_,A,h,λ v H1 w M1 kp r m hq99=>?_⟩;obtain⟨a,kds,ew,hm,q⟩:=hq99;subst ew;obtain⟨ob,l,e,pr⟩:=m _ _ hm;obtain⟨hlen,hget⟩:=aaS pr;refine⟨a,ob,l,r,e,k _ H1 _ M1 kp m (λ H2 kp2 i=>?_) q⟩;have hlw:(jg kds).length=l.length:=by rw[hlen];simp[jg]
 have e2:=kp2.frz a ob _ e;refine⟨λ hi=>⟨e2,by omega⟩,λ hi=>⟨e2,by omega⟩,λ x H' hi hq100=>?_⟩;obtain⟨eH,kv,hkv,ex⟩:=hq100;subst ex eH;obtain⟨p,e3,e4,e5⟩:=hget i kv hkv;exact⟨Kp.refl _,λ M m=>m,.d p.2,by simp[jg,e3],e5.keep kp2⟩⟩
namespace D
open L2
section
variable {X:Cx}{K:FG}
theorem sx:dr X (.builtin "sorted") (λ xs H Q=>∃ p,∃ ns:List Int,xs=[.ref p]/\SqL X.K H p (ns.map V.int)/\ns.length<64/\∀ ns':List Int,ns'.Perm ns->(ns'.Pairwise (· <= ·))->∀ l,H l=none->Q (.ref l) (upd H l (.lst (ns'.map V.int)))):=by
 intro pins s σ H xs us Q I r h;obtain⟨p,ns,rfl,hq,hz,q⟩:=h;obtain⟨u,rfl,rx⟩:=vals1 r;cases rx;obtain⟨its,rv,pl,_⟩:=I.list hq;have hl:=rv.length;rw[lm] at hl;have hI:IntsAre its ns:=by have:=intsAre_of rv;simpa using this
 refine sorted_ints pl.isList hI (by omega) λ out ns' hs hp hso=>?_;obtain⟨n,e⟩:=sortedAll_at s.heap its out;have hfr:H (s.heap.objs.size+1)=none:=I.hok.fresh (Nat.le_succ _);refine⟨.ref _,_,I.laid (a:=s.heap.objs.size+1) (o:=.lst (ns'.map V.int)) (t':=s.toks) (λ b o z=>sortedAll_old z) (Nat.le_succ _) ⟨?_,out.toList,n,om hs,?_⟩,rfl,q ns' hp hso _ hfr⟩
 .rw[lm,hp.length_eq];have:=s16;omega
 .simpa using e
def yC(ws:List W)(M:MH)(Q:QD):Prop:=∃ w,∃ ns:List Int,ws=[w]/\abO M w (ns.map PyData.int)/\ns.length<64/\∀ ns':List Int,ns'.Perm ns->(ns'.Pairwise (· <= ·))->∀ p,M p=none->Q (.m p) (aS M p (.lst (sI ns')))
theorem acn:eK K (λ xs H Q=>∃ p,∃ ns:List Int,xs=[.ref p]/\SqL K H p (ns.map V.int)/\ns.length<64/\∀ ns':List Int,ns'.Perm ns->(ns'.Pairwise (· <= ·))->∀ l,H l=none->Q (.ref l) (upd H l (.lst (ns'.map V.int)))) yC:=by intro vs H ws M Qd Q r m ⟨w,ns,e,g,hz,q⟩ k;subst e;obtain⟨v,e1,r1⟩:=fJ r;obtain⟨p,ys,ev,hs,ra⟩:=g.sound r1 m;have ey:=qV ra;subst ev ey;refine⟨p,ns,e1,hs,hz,λ ns' h1 h2 l hl=>?_⟩;have kp:Kp H (upd H l (.lst (ns'.map V.int))):=Kp.new hl;exact k _ _ (.m l) _ kp rfl (m.put (mo:=.lst (sI ns')) kp ⟨_,aj,sk ns'⟩) (q ns' h1 h2 l (m.free hl))
end
end D
namespace PySem
namespace Dp
theorem aaA:typeLookup (.type "list") "keys" = pure none:=am_miss_of_fast (by decide +kernel)
theorem qA:entryFor table "dict.update.loop" = some Builtin.«dict.update.loop»:=entryFor_of_tree (by kernel_rfl)
theorem iO:plainId "dict.update.loop" = true:=by decide +kernel
section
variable {prog:Program}{w:World}{A:Around}{E:VP}{s:Shared}
set_option maxHeartbeats 1600000 in
theorem pT
  (hx:s.heap.get? a=some {cls:=.type "list",dict:=none,data:=.seq xs k,slots:=sl})(hA:A.handled=none)
  (h:∀ h' tk,(∀ b ob,s.heap.get? b=some ob->h'.get? b=some ob)->Q none {s with heap:=h',toks:=tk}) :
  wpAny (model prog w) A (getAttr? (.ref a) "keys") Q E s:=by
 obtain⟨hp,g,d,tk,os⟩:=s;have hT:∀ tk',(⟨hp,g,d,tk',os⟩:Shared).TypeIs (.ref a) "list":= λ _=>⟨_,hx,rfl⟩;have f1:=sub_AttributeError;have f3:=F.slot_list_getattribute.lookup;have f4:=F.slot_list_getattribute.bind (.ref a);have f5:=am_list_getattr_none;have hsz:("keys" : Str).length+100<=sizeLine:=by size_fits
 have hname:(["__module__", "__name__", "__qualname__", "__doc__", "__annotations__"]:List Str).contains "keys" = false:=by decide +kernel
 unfold getAttr? getAttrBy? getAttrBy
 repeat (any_goals (first | assumption | exact hT _ | ((with_reducible show wpAny _ _ (call (Value.builtin "list.__getattribute__") _ _) _ _ _);refine call_meets F.slot_list_getattribute (hT _) am_entry_list_getattribute (F.args_list_getattribute_2 _ _) (meets_getattribute_miss_list a xs k sl "keys" _ aaA hname hsz) ⟨hx,hA,λ h' tk' e hx'=>?_⟩) | wp_step))
 obtain⟨t',u',he⟩:=hx'.there;show wpAny _ _ (getattributeRaised _ _ _ _ _ _ _) _ _ _;unfold getattributeRaised
 repeat (any_goals (first | assumption | wp_step))
 exact h _ _ hx'.keeps
variable {K:Type}[DecidableEq K]{knd:KeyKind prog w K}
theorem loop{I D l:Addr}{items:Array Value}{kvs:List (K×Value)}{R:Result->Shared->Prop}{h0:Heap}(hh:A.handled=none)(hDI:D≠I)(hDl:D≠l)(hlI:l≠I)(hsz:kvs.length<=sizeLine)(hlen:items.size=kvs.length)
  (ht:∀ i (hi:i<kvs.length),∃ a key k dct sl,items[i]? =some (.ref a)/\a≠D/\a≠I/\knd.is kvs[i].1 key=true/\h0.get? a=some {cls:=.type "tuple",dict:=dct,data:=.seq #[key,kvs[i].2] k,slots:=sl}) :
  ∀ (j i:Nat) (s:Shared),kvs.length-i=j->i<=kvs.length->s.heap.IsListIter I l i->s.heap.IsList l items->s.heap.DictOf knd D (merged [] (kvs.take i))->(∀ b o,b≠D->b≠I->h0.get? b=some o->s.heap.get? b=some o) ->
   (∀ h' tk,h'.DictOf knd D (merged [] kvs)->(∀ b o,b≠D->b≠I->h0.get? b=some o->h'.get? b=some o)->R (.ok (.ret .none)) {s with heap:=h',toks:=tk}) ->
   codeAny (model prog w) A (.builtin "dict.update.loop" ⟨[.ref D,.ref I,rawInt i,.none],[]⟩) R s:=by
 intro j
 induction j with
 | zero =>
  intro i s hj hi hit hl hd hk hR;have hin:i=kvs.length:=by omega
  subst hin;refine codeAny_builtin qA ?_;rw[Around.under_plainId iO _];show wpAny _ A.in1 (pyNext (.ref I) >>= _) _ _ s;refine wb0 (wpAny_pyNext_list_end (by simpa using hh) hit hl (by simp[hlen]) λ h' he'=>?_);show wpAny _ A.in1 (Builtin.Dict.addKeywords D [] >>= _) _ _ _;refine wb0 (wp (wp ?_));rw[List.take_length] at hd;refine hR h' s.toks ?_ λ b o b1 b2 e=>he' b o b2 (hk b o b1 b2 e);obtain⟨o,es,ep,ho,rest⟩:=hd;exact⟨o,es,ep,he' D o hDI ho,rest⟩
 | succ j ih =>
  intro i s hj hi hit hl hd hk hR;have hlt:i<kvs.length:=by omega
  obtain⟨a,key,k,dct,sl,e1,a1,a2,hkey,e2⟩:=ht i hlt;refine codeAny_builtin qA ?_;rw[Around.under_plainId iO _];show wpAny _ A.in1 (pyNext (.ref I) >>= _) _ _ s;refine wb0 (wpAny_pyNext_list_item hit hl e1 λ h' hit' hs'=>?_);have e3:h'.get? a=some {cls:=.type "tuple",dict:=dct,data:=.seq #[key,kvs[i].2] k,slots:=sl}:=hs'.extBut a _ a2 (hk a _ a1 a2 e2);have hT:Shared.TypeIs {s with heap:=h'} (.ref a) "tuple":= ⟨_,e3,rfl⟩;have hd':h'.DictOf knd D (merged [] (kvs.take i)):=by obtain⟨o,es,ep,ho,rest⟩:=hd;exact⟨o,es,ep,hs'.extBut D o hDI ho,rest⟩
  have hl':h'.IsList l items:=hl.extBut hs'.extBut hlI;show wpAny _ A.in1 (holding [Value.ref a] _ >>= _) _ _ _;refine wb0 (wpAny_holding ?_);refine wb0 (m:=tryCatch (Builtin.Dict.pairItems (.ref a)) _) (wpAny_tryCatch ?_);unfold Builtin.Dict.pairItems;refine wb0 (wpAny_typeOf hT ?_);rw[if_pos (by decide)];unfold seqItems?;obtain⟨hp,g,d,tk,os⟩:=s;generalize hDS:dictSet=DS
  repeat (any_goals (first | assumption | wp_step))
  subst hDS;have hl2:(merged [] (kvs.take i)).length<=sizeLine:=by have:=merged_length_le [] (kvs.take i);simp at this;omega
  refine wpAny_dictSet_pairs (hsz:=hl2) hkey hd' λ h2 hd2 hs2=>?_;refine wp ⟨plainId_quiet iO _,ih (i+1) _ (by omega) hlt ?_ ?_ ?_ ?_ ?_⟩
  .exact hit'.at λ o e=>hs2.extBut I o (Ne.symm hDI) e
  .exact hl'.extBut hs2.extBut (Ne.symm hDl)
  .rw[merged_take_succ [] kvs i kvs[i] (List.getElem?_eq_getElem hlt)];exact hd2
  .exact λ b o b1 b2 e=>hs2.extBut b o b1 (hs'.extBut b o b2 (hk b o b1 b2 e))
  .exact λ h' tk d k=>hR h' tk d k
set_option maxHeartbeats 1600000 in
theorem mv{l:Addr}{items:Array Value}{kk:Nat}{sl0:Array (Option Value)}{kvs:List (K×Value)}(hh:A.handled=none)(hsz:kvs.length<=sizeLine)(hlen:items.size=kvs.length)
  (hl:s.heap.get? l=some {cls:=.type "list",dict:=none,data:=.seq items kk,slots:=sl0})
  (ht:∀ i (hi:i<kvs.length),∃ a key k dct sl,items[i]? =some (.ref a)/\knd.is kvs[i].1 key=true/\s.heap.get? a=some {cls:=.type "tuple",dict:=dct,data:=.seq #[key,kvs[i].2] k,slots:=sl})
  (h:∀ h' tk,h'.DictOf knd s.heap.objs.size (merged [] kvs)->(∀ b o,s.heap.get? b=some o->h'.get? b=some o)->Q (.ref s.heap.objs.size) {s with heap:=h',toks:=tk}) :
  wpAny (model prog w) A (call (.type "dict") [.ref l]) Q E s:=by
 refine callType_codes (Q₁:=λ obj s₁=>obj=.ref s.heap.objs.size/\s₁={s with heap:=s.heap.push {cls:=.type "dict",data:=.dict #[]}}) F.kt_called_dict (F.kt_typeCall_dict_1 _) F.entry_dict_init (kt_code_dict_new _ ⟨rfl,rfl⟩) ?_;rintro obj s₁ ⟨rfl,rfl⟩;have hnew:(s.heap.push {cls:=.type "dict",data:=.dict #[]}).DictOf knd s.heap.objs.size []:=Heap.DictOf.new s.heap;have hl1:(s.heap.push {cls:=.type "dict",data:=.dict #[]}).get? l=some {cls:=.type "list",dict:=none,data:=.seq items kk,slots:=sl0}:=Heap.get?_push_of_some _ hl;have hT:Shared.TypeIs {s with heap:=s.heap.push {cls:=.type "dict",data:=.dict #[]}} (.ref l) "list":= ⟨_,hl1,rfl⟩;refine⟨hnew.typeIs,F.args_dict_init_2 _ _,?_⟩;unfold Builtin.«dict.__init__»;refine wb0 ?_;unfold Builtin.Dict.selfAndRest;refine wb0 (wpAny_notOrdered_dict hnew.typeIs ?_);show wpAny _ _ (pure (s.heap.objs.size,[Value.ref l])) _ _ _;refine wp ?_;show wpAny _ _ (Builtin.Dict.updateFrom "dict.__init__" s.heap.objs.size (.ref l) [] .none) _ _ _;unfold Builtin.Dict.updateFrom;refine wb0 (wpAny_typeOf hT ?_);rw[if_pos (by decide)];refine wb0 (pT hl1 (by simpa using hh) λ h2 tk2 k2=>?_);rw[if_pos (by rfl)];have hl2:h2.get? l=some {cls:=.type "list",dict:=none,data:=.seq items kk,slots:=sl0}:=k2 _ _ hl1;have il2:h2.IsList l items:=⟨_,hl2,rfl,kk,rfl⟩;refine wb0 (wpAny_rule (wb0 (wpAny_pyIter_list il2 ?_)));have z:s.heap.objs.size<h2.objs.size:=by obtain⟨o,_,_,ho,_⟩:=hnew;exact Heap.lt_size (k2 _ _ ho)
 have zl:l<s.heap.objs.size:=Heap.lt_size hl;have d2:h2.DictOf knd s.heap.objs.size []:=by obtain⟨o,es,ep,ho,rest⟩:=hnew;exact⟨o,es,ep,k2 _ _ ho,rest⟩
 refine wp ⟨plainId_quiet iO _,loop (knd:=knd) (h0:=h2) (by simpa using hh) (Nat.ne_of_lt z) (Ne.symm (Nat.ne_of_lt zl)) (Nat.ne_of_lt (Nat.lt_trans zl z)) hsz hlen (λ i hi=>?_) kvs.length 0 _ (by omega) (Nat.zero_le _) ⟨_,Heap.get?_push_size _ rfl,rfl,rfl⟩ (il2.push _) ?_ (λ b o _ _ e=>Heap.get?_push_of_some _ e) λ h' tk dd keep=>?_⟩
 .obtain⟨a,key,k,dct,sl,e1,hk,e2⟩:=ht i hi;have za:a<s.heap.objs.size:=Heap.lt_size e2;exact⟨a,key,k,dct,sl,e1,Nat.ne_of_lt za,Nat.ne_of_lt (Nat.lt_trans za z),hk,k2 _ _ (Heap.get?_push_of_some _ e2)⟩
 .exact d2.push _
 .refine⟨rfl,h h' tk dd λ b o e=>?_⟩;have zb:b<s.heap.objs.size:=Heap.lt_size e;exact keep b o (Nat.ne_of_lt zb) (Nat.ne_of_lt (Nat.lt_trans zb z)) (k2 _ _ (Heap.get?_push_of_some _ e))
end
end Dp
end PySem
namespace D
open L2
section
variable {X:Cx}{K:FG}
theorem pairs_at(I:Inv X pins σ H s):∀ {kvs:List (Key×V)} {vs:List V} {its:List Value},Paired (λ(v:V) (kv:Key×V)=>∃ a,v=.ref a/\SqT X.K H a [kV kv.1,kv.2]) vs kvs->Vals vs its ->
  ∃ ks:List (Key×Value),KV kvs ks/\its.length=ks.length/\∀ i (hi:i<ks.length),∃ a key k dct sl,its[i]? =some (.ref a)/\(a9 X.prog X.w).is ks[i].1 key=true/\s.heap.get? a=some {cls:=.type "tuple",dict:=dct,data:=.seq #[key,ks[i].2] k,slots:=sl}
 | _,_,_,.nil,.nil=>⟨[],.nil,rfl,λ i hi=>by simp at hi⟩
 | _,_,_,.cons (b:=b) ⟨a,ea,hq⟩ t,.cons r1 r2=>by
  obtain⟨ks,h1,h2,h3⟩:=pairs_at I t r2;subst ea;cases r1;obtain⟨its,rv,⟨o,e1,e2,n,e3⟩,_⟩:=I.tuple hq;obtain⟨c,dct,dat,sl⟩:=o;simp only at e2 e3;subst e2 e3;cases rv with
  | @cons _ u1 _ _ q1 rv1 =>
  cases rv1 with
  | @cons _ u2 _ _ q2 rv2 =>
  cases rv2;refine⟨(b.1,u2)::ks,.cons ⟨rfl,q2⟩ h1,by simp[h2],λ i hi=>?_⟩;cases i with
  | zero=>exact⟨a,u1,n,dct,sl,rfl,qO q1,e1⟩
  | succ i =>
   have hi':i<ks.length:=by simpa using hi
   obtain⟨a',key,k',dct',sl',z1,z2,z3⟩:=h3 i hi';exact⟨a',key,k',dct',sl',by simpa using z1,z2,z3⟩
theorem xN:∀ {kvs:List (Key×V)} {ks:List (Key×Value)},KV kvs ks->ks.map (·.1)=kvs.map (·.1)
 | _,_,.nil=>rfl
 | _,_,.cons r t=>by rw[List.map_cons,List.map_cons,xN t,r.1]
theorem ub(hc:X.calm=true):dr X (.type "dict") (λ xs H Q=>∃ p vs,∃ kvs:List (Key×V),xs=[.ref p]/\SqL X.K H p vs/\Paired (λ(v:V) (kv:Key×V)=>∃ a,v=.ref a/\SqT X.K H a [kV kv.1,kv.2]) vs kvs/\(kvs.map (·.1)).Nodup/\∀ l,H l=none->Q (.ref l) (upd H l (.dK kvs))):=by
 intro pins s σ H xs us Q I r h;obtain⟨p,vs,kvs,rfl,hq,pr,nd,q⟩:=h;obtain⟨u,rfl,rx⟩:=vals1 r;cases rx;obtain⟨its,rv,⟨o,n,e0,e1,e2,e3⟩,hz⟩:=I.list hq;obtain⟨c,dct,dat,sl⟩:=o;simp only at e1 e2 e3;subst e1 e2 e3;obtain⟨ks,rel,hl,hk⟩:=pairs_at I pr rv;have hz2:ks.length<=sizeLine:=by rw[<- hl];have:=rv.length;omega
 have nd2:(ks.map (·.1)).Nodup:=by rw[xN rel];exact nd
 refine Dp.mv (knd:=a9 X.prog X.w) (I.ok.hd hc) hz2 (by simpa using hl) e0 (λ i hi=>?_) λ h' tk dd keep=>?_
 .obtain⟨a,key,k,dct,sl,z1,z2,z3⟩:=hk i hi;exact⟨a,key,k,dct,sl,by simpa using z1,z2,z3⟩
 .rw[merged_nil_of_nodup ks nd2] at dd;exact⟨.ref _,_,I.laid (a:=s.heap.objs.size) (o:=.dK kvs) (t':=tk) keep (lr0 _) (aay (by rw[rel.length];exact hz2) (beq_eq_false_iff_ne.mpr (Ne.symm (Nat.ne_of_lt I.big))) rel dd),rfl,q _ (I.hok.fresh (lr0 _))⟩
end
end D
namespace Stc
open L2 D Rc
end Stc
namespace D
open L2
section
variable {X:Cx}{K:FG}
def ahw(n:Nat)(t:TAd)(gs:aih)(D:Ed)(τ:DS)(M:MH):Prop:=t τ M λ ws M1=>ws.length=n/\n<=sizeLine/\gs ws τ M1 D.nx
def aiU(t:TS):TS:=λ D σ H=>∃ a l,H a=some (.dK l)/\∀ o,t
 {nx:=λ σ' H'=>H' a=some (.frz o (.frz o (.dK l)))/\D.nx σ' (upd H' a (.dK l)),rt:=λ v H'=>H' a=some (.frz o (.frz o (.dK l)))/\D.rt v (upd H' a (.dK l)),
  bk:=λ σ' H'=>H' a=some (.frz o (.frz o (.dK l)))/\D.bk σ' (upd H' a (.dK l)),ct:=λ σ' H'=>H' a=some (.frz o (.frz o (.dK l)))/\D.ct σ' (upd H' a (.dK l))} σ (upd H a (.frz o (.frz o (.dK l))))
theorem abQ{st:Stmt}{t:TS}(h:PS X st t):PS X st (aiU t):=by
 intro pins s σ H D I ⟨a,l,ha,q⟩;obtain⟨o,I1⟩:=Inv.zu I ha;refine thn (h pins s σ _ _ I1 (q o)) λ f s1 hf=>?_;cases f with
 | next=>obtain⟨σ',H',I2,e,q2⟩:=hf;exact⟨σ',_,Inv.again I ha I2 e,q2⟩
 | brk=>obtain⟨σ',H',I2,e,q2⟩:=hf;exact⟨σ',_,Inv.again I ha I2 e,q2⟩
 | cont=>obtain⟨σ',H',I2,e,q2⟩:=hf;exact⟨σ',_,Inv.again I ha I2 e,q2⟩
 | ret u=>obtain⟨v,σ',H',I2,r,e,q2⟩:=hf;exact⟨v,σ',_,Inv.again I ha I2 e,r,q2⟩
def yF(t:TSd)(D:Ed)(τ:DS)(M:MH):Prop:=∃ a kvs,M a=some (.dic kvs)/\t
 {nx:=λ τ' M'=>M' a=some (.fdic kvs)/\D.nx τ' (aS M' a (.dic kvs)),rt:=λ w M'=>M' a=some (.fdic kvs)/\D.rt w (aS M' a (.dic kvs)),
  bk:=λ τ' M'=>M' a=some (.fdic kvs)/\D.bk τ' (aS M' a (.dic kvs)),ct:=λ τ' M'=>M' a=some (.fdic kvs)/\D.ct τ' (aS M' a (.dic kvs))} τ (aS M a (.fdic kvs))
theorem Abs.back(h:H a=some (.frz o (.frz o (.dK l))))(A:Abs K H σ τ M)(e:M a=some (.fdic kvs)):Abs K (upd H a (.dK l)) σ τ (aS M a (.dic kvs)):=
 ⟨A.len,λ i w q=>let ⟨v,q1,r⟩:=A.val i w q; ⟨v,q1,aJ.back h r⟩,cB.back h A.mem e⟩
end
theorem aal(hc:X.calm=true)(ha:Jd (PAd X es t))(hg:Jd (acT X ts gs))(hn:(assignEach ts X.env).length=n:=by rfl)(hst:(assignEach ts X.env).findIdx? (·.1)=none:=by rfl)
  (hs:swapsWithSole [.Tuple ts k p1] (.Tuple es k2 p2) pos.line X.env=pure false:=by rfl)(hw:swappedStores [.Tuple ts k p1] (.Tuple es k2 p2) X.env=pure none:=by rfl)
  (h1:(assignEach [.Tuple ts k p1] X.env).map (·.2)=[assign (.Tuple ts k p1) X.env]:=by rfl):Jd (PSd X (.Assign [.Tuple ts k p1] (.Tuple es k2 p2) pos) (ahw n t gs)):=⟨have ha:=ha.h;have hg:=hg.h;
 qU (adf (uC ha) (adg hc hg hn hst) hs hw h1) λ D σ H h=>by obtain⟨τ,M,Dd,A,h,k1,_⟩:=h;refine⟨τ,M,_,A,h,λ vs H1 ws M1 kp1 r1 m1 hq101=>?_⟩;obtain⟨el,hz,q⟩:=hq101;have hl:=r1.length;refine⟨by omega,λ p hp=>?_⟩;have kp2:Kp H1 (upd H1 p (.tup vs)):=Kp.new hp;refine⟨p,vs,rfl,.inl (.inl aj),by omega,ws,τ,M1,_,bh.keep kp2 r1,A.go (kp1.trans kp2) (m1.new hp),q,λ σ' H' τ' M' kp' A' q'=>?_⟩;exact k1 σ' H' τ' M' ((kp1.trans kp2).trans kp') A' q'⟩
theorem wU{st:Stmt}{t:TSd}(h:Jd (PSd X st t)):Jd (PSd X st (yF t)):=⟨have h:=h.h;qU (abQ h) λ D σ H hq102=>by
 obtain⟨τ,M,Dd,A,⟨a,kvs,hm,q⟩,k1,k2,k3,k4⟩:=hq102;obtain⟨l,e,pr⟩:=A.mem _ _ hm;refine⟨a,l,e,λ o=>?_⟩;have kp:Kp H (upd H a (.frz o (.frz o (.dK l)))):=Kp.set e (λ _ z=>nomatch z) (λ _ _ z=>nomatch z);have m1:cB X.K (upd H a (.frz o (.frz o (.dK l)))) (aS M a (.fdic kvs)):=A.mem.put (mo:=.fdic kvs) kp ⟨o,l,aj,Paired.fD pr λ p q z=>⟨z.1,z.2.keep kp⟩⟩;have kpb:∀ H',Kp (upd H a (.frz o (.frz o (.dK l)))) H'->Kp H (upd H' a (.dK l)):=λ H' kp'=>⟨λ b xs z=>by
   have hb:b≠a:=λ y=>by rw[y,e] at z;cases z
   rw[ai hb];exact kp'.tup b xs (by rw[ai hb];exact z),λ b ob u z=>by
   have hb:b≠a:=λ y=>by rw[y,e] at z;cases z
   rw[ai hb];exact kp'.frz b ob u (by rw[ai hb];exact z)⟩
 refine⟨τ,_,_,A.go kp m1,q,?_,?_,?_,?_⟩
 .rintro σ' H' τ' M' kp' A' ⟨h1,q1⟩;have e':=kp'.frz a o _ aj;exact⟨e',k1 _ _ _ _ (kpb H' kp') (Abs.back e' A' h1) q1⟩
 .rintro v H' w M' kp' r' m' ⟨h1,q1⟩;have e':=kp'.frz a o _ aj;exact⟨e',k2 _ _ _ _ (kpb H' kp') (aJ.back e' r') (cB.back e' m' h1) q1⟩
 .rintro σ' H' τ' M' kp' A' ⟨h1,q1⟩;have e':=kp'.frz a o _ aj;exact⟨e',k3 _ _ _ _ (kpb H' kp') (Abs.back e' A' h1) q1⟩
 .rintro σ' H' τ' M' kp' A' ⟨h1,q1⟩;have e':=kp'.frz a o _ aj;exact⟨e',k4 _ _ _ _ (kpb H' kp') (Abs.back e' A' h1) q1⟩⟩
end D
namespace S
open PySem PySem.W PyProof.Rows
def PR(N:Nat)(p:Array Nat):Prop:=p.Perm (List.toArray (List.range N))
theorem PR.low(hN:1<=N)(h:PR N p):Low N p:=.of hN λ x hx=>by
 have:=(Array.perm_iff_toList_perm.mp h).mem_iff.mp hx
 simpa using this
theorem PR.rev(h:PR N p):PR N (kas_rev p i j):=(mirror_perm _ _ _ _:(kas_rev p i j).Perm p).trans h
theorem yb(lt:Nat->Nat->Bool):∀ {t:KasT α},fj N R t->R (go lt t)
 | .ret _,h=>h
 | .ask i j k,h=>yb lt (t:=k (lt i j)) (h.2.2 (lt i j))
theorem pY(hN:1<=N):∀ (f:Nat) {p:Array Nat} (n q:Nat),PR N p->fj N (λ r=>PR N r.1) (kas_desc f p n q)
 | 0,p,n,q,h=>h
 | f+1,p,n,q,h=>⟨h.low hN _,h.low hN _,λ b=>by
  cases b with
  | true =>
   simp only[if_true]
   split
   .exact pY hN f (n+1) 0 h.rev
   .exact pY hN f (n+1) 0 h
  | false =>
   simp only[Bool.false_eq_true,if_false];refine⟨h.low hN _,h.low hN _,λ b=>?_⟩;cases b with
   | true=>exact h
   | false=>exact pY hN f (n+1) (q+1) h⟩
theorem vK(hN:1<=N)(h:PR N p):fj N (λ(r:Nat×Array Nat)=>PR N r.2) (kas_tail3 n m p):=by
 unfold kas_tail3;refine fj.bind (λ k _=>?_) (iK (h.rev.low hN) _ _);exact(h.rev:PR N (kas_rev p 0 n))
theorem mW(hN:1<=N)(h:PR N p):fj N (λ r=>PR N r.2) (kas_descPart n m p):=(pY hN _ _ _ h).bind λ r hr=>by
 split
 .exact vK hN hr.rev
 .exact vK hN hr
theorem ace(hN:1<=N)(h:PR N p):fj N (λ r=>PR N r.2) (kas_count m p):=(iK (h.low hN) _ _).bind λ n _=>by
 split
 .exact h
 .split
  .refine⟨h.low hN _,h.low hN _,λ b=>?_⟩;cases b with
   | true=>exact h
   | false=>exact mW hN h.rev
  .exact mW hN h
theorem adz(hN:1<=N):∀ (f:Nat) {p:Array Nat} (k:Nat),PR N p->fj N (PR N) (kas_bin f p k)
 | 0,_,_,h=>h
 | f+1,p,k,h=>(gv (h.low hN) _ _ _).bind λ l _=>adz hN f (k+1) ((bubble_perm _ _ _:(bubble p k (k-l)).Perm p).trans h)
theorem ae4(hN:1<=N):fj N (PR N) (kas_sort N):=(ace hN (Array.Perm.refl _)).bind λ r hr=>by
 split
 .exact adz hN _ _ hr
 .exact hr
theorem fw(lt:Nat->Nat->Bool)(n:Nat):(bS lt n).Perm (List.range n):=by
 unfold bS
 by_cases z:n<2
 .rw[if_pos z]
 .rw[if_neg z];have:=Array.perm_iff_toList_perm.mp (show PR n (go lt (kas_sort n)) from yb lt (ae4 (N:=n) (by omega)))
  simpa using this
end S
namespace D
open L2 S
section
variable {X:Cx}{K:FG}
theorem rh:dr X (.builtin "sorted") (λ xs H Q=>∃ p vs rows t sh,xs=[.ref p]/\SqL X.K H p vs/\aX X.K H (rows.map PyData.tuple) vs/\(∀ r∈rows,Shape (t::sh) r)/\rows.length<64 /\
  ∀ l,H l=none->Q (.ref l) (upd H l (.lst ((bS (λ i j=>qK (rowAt rows i) (rowAt rows j)) rows.length).map λ i=>vs.getD i .non)))):=by
 intro pins s σ H xs us Q I r h;obtain⟨p,vs,rows,t,sh,rfl,hq,ra,hs,hz,q⟩:=h;obtain⟨u,rfl,rx⟩:=vals1 r;cases rx;obtain⟨its,rv,pl,_⟩:=I.list hq;have hl:=rv.length;have hl2:=ra.length;rw[lm] at hl2;have R:=yU I hs ra rv;refine t7 (κ:=tuples' true) (lt:=λ i j=>qK (rowAt rows i) (rowAt rows j)) pl.isList (by omega) (λ A' h' k h2 Q' E' q'=>?_) (λ A' h' k i j hi hj C c=>?_) ?_
 .obtain⟨fs,t1,t2,t3⟩:=gg.sO (R.keep k);cases t with
  | true=>exact W.kat_kind (s:={s with heap:=h'}) (T:=.type "str") t1 (by omega) (λ v hv=>by rcases t3 v hv with ⟨_,x,k,rfl⟩ | ⟨e,_⟩;exact .now;cases e) rfl q'
  | false=>exact W.kat_kind (s:={s with heap:=h'}) (T:=.type "int") t1 (by omega) (λ v hv=>by rcases t3 v hv with ⟨e,_⟩ | ⟨_,x,k,rfl⟩;cases e;exact .now) rfl q'
 .obtain⟨a,oa,xa,na,e1,g1,c1,d1,s1,w1⟩:=(R.keep k).get i (by omega);obtain⟨b,ob,xb,nb,e2,g2,c2,d2,s2,w2⟩:=(R.keep k).get j (by omega);unfold W.kas_ask;rw[e1,e2];refine W.kat_lt (s:={s with heap:=h'}) g1 d1 g2 d2 ?_;have hn:decide (xa.size<xb.size)=false:=by have z1:=aa6.len w1;have z2:=aa6.len w2;rw[iV s1] at z1;rw[iV s2] at z2;simp only[Array.length_toList] at z1 z2;simp;omega
  rw[hn];exact aaE 0 _ s1 s2 w1 w2 c
 .obtain⟨n,e⟩:=sortedAll_at s.heap its ((bS (λ i j=>qK (rowAt rows i) (rowAt rows j)) its.length).map λ i=>its.getD i Value.none).toArray;have hfr:H (s.heap.objs.size+1)=none:=I.hok.fresh (Nat.le_succ _);have hlen:its.length=rows.length:=by omega
  rw[hlen] at e;rw[hlen];have olen:(bS (λ i j=>qK (rowAt rows i) (rowAt rows j)) rows.length).length<=64:=by have:=(fw (λ i j=>qK (rowAt rows i) (rowAt rows j)) rows.length).length_eq;rw[List.length_range] at this;omega
  refine⟨.ref _,_,I.laid (a:=s.heap.objs.size+1) (o:=.lst ((bS (λ i j=>qK (rowAt rows i) (rowAt rows j)) rows.length).map λ i=>vs.getD i .non)) (t':=s.toks) (λ b o z=>sortedAll_old z) (Nat.le_succ _) ⟨?_,_,n,?_,e⟩,rfl,q _ hfr⟩
  .rw[lm];have:=s16;omega
  .have main:∀ is:List Nat,(∀ i∈is,i<rows.length)->Vals (is.map λ i=>vs.getD i .non) (is.map λ i=>its.getD i Value.none):=by
    intro is
    induction is with
    | nil=>intro _;exact .nil
    | cons i is ih =>
     intro hi;refine .cons ?_ (ih λ j hj=>hi j (by simp[hj]));have h1:=hi i (by simp);obtain⟨u,e1,e2⟩:=Vals.get (i:=i) (x:=vs.getD i .non) rv (by simp[List.getD_eq_getElem?_getD,List.getElem?_eq_getElem (show i<vs.length by omega)]);have e3:its.getD i Value.none=u:=by rw[List.getD_eq_getElem?_getD,e1];rfl
     show RelV (vs.getD i .non) (its.getD i Value.none);rw[e3];exact e2
   refine main _ λ i hi=>?_
   simpa using (fw _ _).mem_iff.mp hi
def aar(ws:List W)(M:MH)(Q:QD):Prop:=∃ w rows t sh,ws=[w]/\abO M w (rows.map PyData.tuple)/\(∀ r∈rows,Shape (t::sh) r)/\rows.length<64/\∀ rows',rows'.Perm rows->∀ p,M p=none->Q (.m p) (aS M p (.lst (nj rows')))
theorem aco:eK K (λ xs H Q=>∃ p vs rows t sh,xs=[.ref p]/\SqL K H p vs/\aX K H (rows.map PyData.tuple) vs/\(∀ r∈rows,Shape (t::sh) r)/\rows.length<64 /\
  ∀ l,H l=none->Q (.ref l) (upd H l (.lst ((bS (λ i j=>qK (rowAt rows i) (rowAt rows j)) rows.length).map λ i=>vs.getD i .non)))) aar:=by
 intro vs H ws M Qd Q r m ⟨w,rows,t,sh,e,g,hs,hz,q⟩ k;subst e;obtain⟨v,e1,r1⟩:=fJ r;obtain⟨p,ys,ev,hq,ra⟩:=g.sound r1 m;subst ev;refine⟨p,ys,rows,t,sh,e1,hq,ra,hs,hz,λ l hl=>?_⟩;have hl2:=ra.length;rw[lm] at hl2;have pp:((bS (λ i j=>qK (rowAt rows i) (rowAt rows j)) rows.length).map (rowAt rows)).Perm rows:=by
  have h:=(fw (λ i j=>qK (rowAt rows i) (rowAt rows j)) rows.length).map (rowAt rows);have e:(List.range rows.length).map (rowAt rows)=rows:=by refine List.ext_getElem (by simp) λ i h1 h2=>?_;simp[rowAt,List.getD_eq_getElem?_getD,List.getElem?_eq_getElem h2]
  rw[e] at h;exact h
 have mem:∀ i∈bS (λ i j=>qK (rowAt rows i) (rowAt rows j)) rows.length,i<rows.length:=λ i hi=>by
  simpa using (fw _ _).mem_iff.mp hi
 generalize bS (λ i j=>qK (rowAt rows i) (rowAt rows j)) rows.length=is at pp mem;have kp:Kp H (upd H l (.lst (is.map λ i=>ys.getD i .non))):=Kp.new hl;refine k _ _ (.m l) _ kp rfl (m.put (mo:=.lst (nj (is.map (rowAt rows)))) kp ⟨_,aj,?_⟩) (q _ pp l (m.free hl));clear pp
 induction is with
 | nil=>exact .nil
 | cons i is ih =>
  have hi:=mem i (by simp);obtain⟨v,e1,e2⟩:=ra.get (i:=i) (d:=.tuple (rowAt rows i)) (by rw[List.getElem?_map,List.getElem?_eq_getElem hi];simp[rowAt,List.getD_eq_getElem?_getD,List.getElem?_eq_getElem hi])
  have e3:ys.getD i .non=v:=by rw[List.getD_eq_getElem?_getD,e1];rfl
  refine .cons ?_ ?_
  .show aJ K _ (.d (.tuple (rowAt rows i))) (ys.getD i .non);rw[e3];exact aB.keep kp e2
  .have:=ih (λ j hj=>mem j (by simp[hj])) (Kp.new hl);exact Paired.fD this λ a b z=>aJ.keep ⟨λ b' xs' e'=>by
    by_cases y:b'=l
    .subst y;rw[aj] at e';cases e'
    .rw[ai y] at e' ⊢;exact e',λ b' o' u' e'=>by
    by_cases y:b'=l
    .subst y;rw[aj] at e';cases e'
    .rw[ai y] at e' ⊢;exact e'⟩ z
end
def ajw(M:MH):Nat->W->PyData->Prop
 | 0,w,d=>w=.d d
 | n+1,w,d=>w=.d d\/(∃ a ws ds,w=.m a/\M a=some (.lst ws)/\d=.list ds/\Paired (ajw M n) ws ds)\/∃ a ws ds,w=.m a/\M a=some (.tup ws)/\d=.tuple ds/\Paired (ajw M n) ws ds
theorem ajw.d:∀ {n:Nat},ajw M n (.d x) x
 | 0=>rfl
 | _+1=>.inl rfl
section
variable {X:Cx}{K:FG}
def adX(t:TAd)(τ:DS)(M:MH)(Q:QD):Prop:=t τ M λ ws M1=>ws.length<=sizeLine/\∀ p,M1 p=none->Q (.m p) (aS M1 p (.tup ws))
end
theorem u4(I:Inv X pins σ H s)(h:H a=some (.lst l)):(∀ xs,X.H₀ a≠some (.tup xs))/\(∀ o v,X.H₀ a≠some (.frz o v))/\∀ ps,X.H₀ a≠some (.tbl ps):=by
 refine⟨λ xs e=>?_,λ o v e=>?_,λ ps e=>?_⟩
 .have:=I.base.sO a xs e;rw[h] at this;cases this
 .have:=I.base.frzs a o v e;rw[h] at this;cases this
 .obtain⟨m,this⟩:=I.base.tbls a ps e;rw[h] at this;cases this
theorem Inv.adx(I:Inv X pins σ H s)(h:H a=some (.lst l)):∃ o,Inv X pins σ (upd H a (.frz o (.frz o (.lst l)))) s:=by have f:Fz (.lst l):=trivial;obtain⟨o,ho⟩:=(I.hok a _ h).obj f;obtain⟨b1,b2,b3⟩:=u4 I h;exact⟨o,Inv.swap I h (λ _ z=>nomatch z) (λ _ z=>nomatch z) b1 b2 b3 ⟨ho,ho,(I.hok a _ h).ahU f⟩⟩
theorem Inv.qB(I0:Inv X pins σ0 H0 s0)(h0:H0 a=some (.lst l))(I:Inv X pins σ H s)(h:H a=some (.frz o (.frz o (.lst l)))):Inv X pins σ (upd H a (.lst l)) s:=by have f:Fz (.lst l):=trivial;obtain⟨b1,b2,b3⟩:=u4 I0 h0;exact Inv.swap I h (λ _ z=>nomatch z) (λ _ z=>nomatch z) b1 b2 b3 ((I.hok a _ h).2.2.ahU f)
def aeB(t:TE):TE:=λ σ H Q=>∃ a l,H a=some (.lst l)/\∀ o,t σ (upd H a (.frz o (.frz o (.lst l)))) λ v H'=>H' a=some (.frz o (.frz o (.lst l)))/\Q v (upd H' a (.lst l))
theorem yu(h:PE X e t):PE X e (aeB t):=by intro pins s σ H Q I ⟨a,l,ha,q⟩;obtain⟨o,I1⟩:=Inv.adx I ha;exact thn (h pins s σ _ _ I1 (q o)) λ v s1 ⟨x,H',I2,r,e,q2⟩=>⟨x,_,Inv.qB I ha I2 e,r,q2⟩
def afo(t:TS):TS:=λ D σ H=>∃ a l,H a=some (.lst l)/\∀ o,t
 {nx:=λ σ' H'=>H' a=some (.frz o (.frz o (.lst l)))/\D.nx σ' (upd H' a (.lst l)),rt:=λ v H'=>H' a=some (.frz o (.frz o (.lst l)))/\D.rt v (upd H' a (.lst l)),
  bk:=λ σ' H'=>H' a=some (.frz o (.frz o (.lst l)))/\D.bk σ' (upd H' a (.lst l)),ct:=λ σ' H'=>H' a=some (.frz o (.frz o (.lst l)))/\D.ct σ' (upd H' a (.lst l))} σ (upd H a (.frz o (.frz o (.lst l))))
theorem zZ{st:Stmt}{t:TS}(h:PS X st t):PS X st (afo t):=by
 intro pins s σ H D I ⟨a,l,ha,q⟩;obtain⟨o,I1⟩:=Inv.adx I ha;refine thn (h pins s σ _ _ I1 (q o)) λ f s1 hf=>?_;cases f with
 | next=>obtain⟨σ',H',I2,e,q2⟩:=hf;exact⟨σ',_,Inv.qB I ha I2 e,q2⟩
 | brk=>obtain⟨σ',H',I2,e,q2⟩:=hf;exact⟨σ',_,Inv.qB I ha I2 e,q2⟩
 | cont=>obtain⟨σ',H',I2,e,q2⟩:=hf;exact⟨σ',_,Inv.qB I ha I2 e,q2⟩
 | ret u=>obtain⟨v,σ',H',I2,r,e,q2⟩:=hf;exact⟨v,σ',_,Inv.qB I ha I2 e,r,q2⟩
section
variable {K:FG}{H:Hp}{a:Addr}{o:Obj}{l:List V}
theorem Kp.bT(h:H a=some (.frz o (.frz o (.lst l)))):(∀ b xs,H b=some (.tup xs)->upd H a (.lst l) b=some (.tup xs))/\(∀ b ob ys,H b=some (.frz ob (.lst ys))->upd H a (.lst l) b=some (.frz ob (.lst ys)))/\∀ b ob ys,H b=some (.frz ob (.dK ys))->upd H a (.lst l) b=some (.frz ob (.dK ys)):=by
 refine⟨λ b xs e=>?_,λ b ob ys e=>?_,λ b ob ys e=>?_⟩<;>
 .rw[ai (λ z=>by rw[z,h] at e;cases e)];exact e
theorem SqT.bT(h:H a=some (.frz o (.frz o (.lst l))))(r:SqT K H b vs):SqT K (upd H a (.lst l)) b vs:=by
 rcases r with (r | ⟨ob,r⟩) | r
 .exact .inl (.inl ((Kp.bT h).1 _ _ r))
 .refine .inl (.inr ⟨ob,?_⟩);rw[ai (λ z=>by rw[z,h] at r;cases r)];exact r
 .exact .inr r
theorem SqF.bT(h:H a=some (.frz o (.frz o (.lst l))))(r:SqF K H b vs):SqF K (upd H a (.lst l)) b vs:=by
 rcases r with ⟨ob,r⟩ | r
 .exact .inl ⟨ob,(Kp.bT h).2.1 _ _ _ r⟩
 .exact .inr r
mutual
theorem aB.bT(h:H a=some (.frz o (.frz o (.lst l)))):∀ {d:PyData} {v:V},aB K H d v->aB K (upd H a (.lst l)) d v
 | .none,v,r=>by simp only[aB] at r ⊢;exact r
 | .bool b,v,r=>by simp only[aB] at r ⊢;exact r
 | .int i,v,r=>by simp only[aB] at r ⊢;exact r
 | .str x,v,r=>by simp only[aB] at r ⊢;exact r
 | .list ds,v,r=>by simp only[aB] at r ⊢;obtain⟨b,vs,e,q,r⟩:=r;exact⟨b,vs,e,SqF.bT h q,aX.bT h r⟩
 | .tuple ds,v,r=>by simp only[aB] at r ⊢;obtain⟨b,vs,e,q,r⟩:=r;exact⟨b,vs,e,SqT.bT h q,aX.bT h r⟩
 | .dict kvs,v,r=>by simp only[aB] at r ⊢;obtain⟨b,ob,m,e,q,r⟩:=r;exact⟨b,ob,m,e,(Kp.bT h).2.2 _ _ _ q,i8.bT h r⟩
theorem aX.bT(h:H a=some (.frz o (.frz o (.lst l)))):∀ {ds:List PyData} {vs:List V},aX K H ds vs->aX K (upd H a (.lst l)) ds vs
 | [],vs,r=>by simp only[aX] at r ⊢;exact r
 | d::ds,vs,r=>by simp only[aX] at r ⊢;obtain⟨v,q,e,h1,h2⟩:=r;exact⟨v,q,e,aB.bT h h1,aX.bT h h2⟩
theorem i8.bT(h:H a=some (.frz o (.frz o (.lst l)))):∀ {ds:List (PyData×PyData)} {m:List (Key×V)},i8 K H ds m->i8 K (upd H a (.lst l)) ds m
 | [],m,r=>by simp only[i8] at r ⊢;exact r
 | (key,d)::ds,m,r=>by simp only[i8] at r ⊢;obtain⟨k',v,q,e,ek,h1,h2⟩:=r;exact⟨k',v,q,e,ek,aB.bT h h1,i8.bT h h2⟩
end
theorem aJ.bT(h:H a=some (.frz o (.frz o (.lst l)))):∀ {w:W} {v:V},aJ K H w v->aJ K (upd H a (.lst l)) w v
 | .d _,_,r=>aB.bT h r
 | .m _,_,r=>r
 | .t _,_,r=>r
theorem cB.bT(h:H a=some (.frz o (.frz o (.lst l))))(m:cB K H M)(e:M a=some (.flst ws0)):cB K (upd H a (.lst l)) (aS M a (.lst ws0)):=λ b mo q=>by
 by_cases hb:b=a
 .subst hb;rw[af] at q;cases q;obtain⟨o',l',e',pr⟩:=m _ _ e;rw[h] at e';cases e';exact⟨l,aj,Paired.fD pr λ _ _ z=>aJ.bT h z⟩
 .rw[ah hb] at q;have r:=m b mo q;cases mo with
  | lst ws=>obtain⟨vs,e,r⟩:=r;exact⟨vs,by rw[ai hb];exact e,Paired.fD r λ _ _ z=>aJ.bT h z⟩
  | dic kvs=>obtain⟨l,e,r⟩:=r;exact⟨l,by rw[ai hb];exact e,Paired.fD r λ p q z=>⟨z.1,aJ.bT h z.2⟩⟩
  | dct kvs=>obtain⟨l,e,r⟩:=r;exact⟨l,by rw[ai hb];exact e,Paired.fD r λ p q z=>⟨z.1,aJ.bT h z.2⟩⟩
  | fdic kvs=>obtain⟨o,l,e,r⟩:=r;exact⟨o,l,by rw[ai hb];exact e,Paired.fD r λ p q z=>⟨z.1,aJ.bT h z.2⟩⟩
  | ins C fs=>obtain⟨dx,l,e,r⟩:=r;exact⟨dx,l,by rw[ai hb];exact e,Paired.fD r λ p q z=>⟨z.1,aJ.bT h z.2⟩⟩
  | tup ws=>obtain⟨vs,e,r⟩:=r;exact⟨vs,by rw[ai hb];exact e,Paired.fD r λ _ _ z=>aJ.bT h z⟩
  | flst ws=>obtain⟨o,vs,e,r⟩:=r;exact⟨o,vs,by rw[ai hb];exact e,Paired.fD r λ _ _ z=>aJ.bT h z⟩
  | exc C fs =>
   obtain⟨φ,dct,e,p,r⟩:=r;refine⟨φ,dct,by rw[ai hb];exact e,p,?_⟩;rcases r with r | ⟨dx,o',l',e1,e2,r⟩
   .exact .inl r
   .exact .inr ⟨dx,o',l',e1,by rw[ai (λ z=>by rw[z,h] at e2;cases e2)];exact e2,Paired.fD r λ p q z=>⟨z.1,aJ.bT h z.2⟩⟩
  | code q pos =>
   obtain⟨ps,e,ht,hc⟩:=r;refine⟨ps,by rw[ai hb];exact e,ht,?_⟩;rcases hc with hc | ⟨c,o',vs,t,e1,e2,e3⟩
   .exact .inl hc
   .exact .inr ⟨c,o',vs,t,e1,by rw[ai (λ z=>by rw[z,h] at e2;cases e2)];exact e2,e3⟩
theorem Abs.bT(h:H a=some (.frz o (.frz o (.lst l))))(A:Abs K H σ τ M)(e:M a=some (.flst ws0)):Abs K (upd H a (.lst l)) σ τ (aS M a (.lst ws0)):=
 ⟨A.len,λ i w q=>let ⟨v,q1,r⟩:=A.val i w q; ⟨v,q1,aJ.bT h r⟩,cB.bT h A.mem e⟩
end
def gn(t:TD)(τ:DS)(M:MH)(Q:QD):Prop:=∃ a ws,M a=some (.lst ws)/\t τ (aS M a (.flst ws)) λ v M'=>M' a=some (.flst ws)/\Q v (aS M' a (.lst ws))
theorem iZ(e:H a=some (.lst l))(kp':Kp (upd H a (.frz o (.frz o (.lst l)))) H'):Kp H (upd H' a (.lst l)):=⟨λ b xs z=>by
  have hb:b≠a:=λ y=>by rw[y,e] at z;cases z
  rw[ai hb];exact kp'.tup b xs (by rw[ai hb];exact z),λ b ob u z=>by
  have hb:b≠a:=λ y=>by rw[y,e] at z;cases z
  rw[ai hb];exact kp'.frz b ob u (by rw[ai hb];exact z)⟩
def dG(t:TSd)(D:Ed)(τ:DS)(M:MH):Prop:=∃ a ws,M a=some (.lst ws)/\t
 {nx:=λ τ' M'=>M' a=some (.flst ws)/\D.nx τ' (aS M' a (.lst ws)),rt:=λ w M'=>M' a=some (.flst ws)/\D.rt w (aS M' a (.lst ws)),
  bk:=λ τ' M'=>M' a=some (.flst ws)/\D.bk τ' (aS M' a (.lst ws)),ct:=λ τ' M'=>M' a=some (.flst ws)/\D.ct τ' (aS M' a (.lst ws))} τ (aS M a (.flst ws))
abbrev uF(o:Obj)(l:List V):HO:=.frz o (.frz o (.lst l))
theorem mI(ok:HOk P w H h)(e:H a=some (uF o l)):∃ its:List Value,Vals l its/\h.IsList a its.toArray:=by obtain⟨ho,_,z,its,n,r,h1⟩:=ok a _ e;exact⟨its,r,⟨_,h1,rfl,n,rfl⟩⟩
def Itf(a:Addr)(o:Obj)(l:List V):It:=
 ⟨λ i H=>H a=some (uF o l)/\i<l.length,λ i H x H'=>H'=H/\l[i]? =some x,λ i H=>H a=some (uF o l)/\l.length<=i⟩
theorem wG{P:Program}{w:World}{K:FG}{tg:Expr}(a it:Addr)(o:Obj)(l:List V):Turn P w K tg (Itf a o l) [it] it (λ i h=>h.IsListIter it a i) where
 mem:=by simp
 obj:=λ i h st b hb=>by
  have e:b=it:=by simpa using hb
  subst e;obtain⟨o,e,c,d⟩:=st;exact⟨o,e,λ v z=>by rw[d] at z;cases z⟩
 keep:=λ i h h' st k=>st.at λ o e=>k it (by simp) o e
 item:=by intro X hP hw hK hc i pins s σ H E I hf st ⟨hg,hi⟩;subst hP hw hK;obtain⟨its,rv,p⟩:=mI I.hok hg;obtain⟨u,hu,ru⟩:=rv.get (List.getElem?_eq_getElem hi);obtain⟨f0,f1,f2,f3,f4,f5⟩:=hf it (by simp);refine wpAny_pyNext_list_item st p (x:=u) (by simpa using hu) λ h' st' sb=>?_;have I1:Inv X pins σ H {s with heap:=h'}:=I.turned (t':=s.toks) (λ b o hb e=>(sb.2 b hb).trans e) f0 f1 f3 f4 f5;obtain⟨o,e,c,d⟩:=id st';exact⟨u,rfl,wK (s:={s with heap:=h'}) e c d (by decide) ⟨_,H,I1,ru,⟨rfl,List.getElem?_eq_getElem hi⟩,st',λ b hb=>(hf b hb).1⟩⟩
 done:=by intro X hP hw hK hc i pins s σ H E I hf st ⟨hg,hi⟩;subst hP hw hK;obtain⟨its,rv,p⟩:=mI I.hok hg;obtain⟨f0,f1,f2,f3,f4,f5⟩:=hf it (by simp);have hl:=rv.length;exact wpAny_pyNext_list_end (I.ok.hd hc) st p (by simp;omega) λ h' eb=>⟨rfl,I.turned (t':=s.toks) (λ b o hb e=>eb b o hb e) f0 f1 f3 f4 f5⟩
 self:=λ _ _ _ _ _ st h=>wpAny_pyIter_listiter st h
def aiZ(td:TE):TI:=λ σ H R=>td σ H λ x H1=>∃ a o l,x=.ref a/\H1 a=some (uF o l)/\R (Itf a o l) H1
theorem acx{td:TE}(ho:PE X o td):PI X tg o (aiZ td):=by
 intro pins s σ H R I h;refine thn (ho pins s σ H _ I h) λ v s1 hq107=>?_;obtain⟨x,H1,I1,r1,a,ob,l,ex,hg,q⟩:=hq107;subst ex;cases r1;obtain⟨its,rv,p⟩:=mI I1.hok hg;refine wpAny_pyIter_list p ?_;refine⟨s1.heap.objs.size,[s1.heap.objs.size],_,_,H1,rfl,I1.kept (t':=s1.toks) λ b o e=>Heap.get?_push_of_some _ e,wG a _ ob l,⟨_,Heap.get?_push_size _ rfl,rfl,rfl⟩,λ b hb=>?_,q⟩;have e:b=s1.heap.objs.size:=by simpa using hb
 subst e;exact I1.uY (lr0 _) (I1.hok.fresh (lr0 _))
def cw(td:TD)(τ:DS)(M:MH)(R:List W->MH->Prop):Prop:=td τ M λ w M1=>∃ a ws,w=.m a/\M1 a=some (.flst ws)/\R ws M1
end D
namespace D
open L2
theorem abF{x1}(h:Jd (PAd X es t)):Jd (PD X (.Tuple es x1 pos) (adX t)):=⟨have h:=h.h;fN (uC h) λ σ H Q h=>by obtain⟨τ,M,Qd,A,h,k⟩:=h;refine⟨τ,M,_,A,h,λ vs H1 ws M1 kp r1 m1 hq103=>?_⟩;obtain⟨hz,q1⟩:=hq103;refine⟨by rw[<- r1.length];exact hz,λ p hp=>?_⟩;have kp2:Kp H1 (upd H1 p (.tup vs)):=Kp.new hp;exact k _ _ (.m p) _ (kp.trans kp2) rfl (m1.put (mo:=.tup ws) kp2 ⟨vs,aj,bh.keep kp2 r1⟩) (q1 p (m1.free hp))⟩
theorem nV(h:Jd (PD X e t)):Jd (PD X e (gn t)):=⟨have h:=h.h;fN (yu h) λ σ H Q hq104=>by obtain⟨τ,M,Qd,A,⟨a,ws,hm,q⟩,k⟩:=hq104;obtain⟨l,e,pr⟩:=A.mem _ _ hm;refine⟨a,l,e,λ o=>?_⟩;have kp:Kp H (upd H a (.frz o (.frz o (.lst l)))):=Kp.set e (λ _ z=>nomatch z) (λ _ _ z=>nomatch z);have m1:cB X.K (upd H a (.frz o (.frz o (.lst l)))) (aS M a (.flst ws)):=A.mem.put (mo:=.flst ws) kp ⟨o,l,aj,bh.keep kp pr⟩;refine⟨τ,_,_,A.go kp m1,q,λ v H' w M' kp' r' m' hq105=>?_⟩;obtain⟨h1,q1⟩:=hq105;have e':=kp'.frz a o _ aj;exact⟨e',k _ _ w _ (iZ e kp') (aJ.bT e' r') (cB.bT e' m' h1) q1⟩⟩
theorem kX{st:Stmt}{t:TSd}(h:Jd (PSd X st t)):Jd (PSd X st (dG t)):=⟨have h:=h.h;qU (zZ h) λ D σ H hq106=>by
 obtain⟨τ,M,Dd,A,⟨a,ws,hm,q⟩,k1,k2,k3,k4⟩:=hq106;obtain⟨l,e,pr⟩:=A.mem _ _ hm;refine⟨a,l,e,λ o=>?_⟩;have kp:Kp H (upd H a (.frz o (.frz o (.lst l)))):=Kp.set e (λ _ z=>nomatch z) (λ _ _ z=>nomatch z);have m1:cB X.K (upd H a (.frz o (.frz o (.lst l)))) (aS M a (.flst ws)):=A.mem.put (mo:=.flst ws) kp ⟨o,l,aj,bh.keep kp pr⟩;refine⟨τ,_,_,A.go kp m1,q,?_,?_,?_,?_⟩
 .rintro σ' H' τ' M' kp' A' ⟨h1,q1⟩;have e':=kp'.frz a o _ aj;exact⟨e',k1 _ _ _ _ (iZ e kp') (Abs.bT e' A' h1) q1⟩
 .rintro v H' w M' kp' r' m' ⟨h1,q1⟩;have e':=kp'.frz a o _ aj;exact⟨e',k2 _ _ _ _ (iZ e kp') (aJ.bT e' r') (cB.bT e' m' h1) q1⟩
 .rintro σ' H' τ' M' kp' A' ⟨h1,q1⟩;have e':=kp'.frz a o _ aj;exact⟨e',k3 _ _ _ _ (iZ e kp') (Abs.bT e' A' h1) q1⟩
 .rintro σ' H' τ' M' kp' A' ⟨h1,q1⟩;have e':=kp'.frz a o _ aj;exact⟨e',k4 _ _ _ _ (iZ e kp') (Abs.bT e' A' h1) q1⟩⟩
theorem iE(ho:Jd (PD X o td)):Jd (PId X tg o (cw td)):=⟨have ho:=ho.h;agA (acx ho) λ σ H R hq108=>by obtain⟨τ,M,Rd,A,h,k⟩:=hq108;refine⟨τ,M,_,A,h,λ v H1 w M1 kp r m hq109=>?_⟩;obtain⟨a,ws,ew,hm,q⟩:=hq109;subst ew;obtain⟨ob,l,e,pr⟩:=m _ _ hm;refine⟨a,ob,l,r,e,k _ H1 _ M1 kp m (λ H2 kp2 i=>?_) q⟩;have hl:=pr.length;have e2:=kp2.frz a ob _ e;refine⟨λ hi=>⟨e2,by omega⟩,λ hi=>⟨e2,by omega⟩,λ x H' hi hq110=>?_⟩;obtain⟨eH,ex⟩:=hq110;subst eH;have hi2:i<ws.length:=hi;obtain⟨x',ex',rx⟩:=bh.get (bh.keep kp2 pr) (List.getElem?_eq_getElem hi2);rw[ex'] at ex;cases ex;exact⟨Kp.refl _,λ M m=>m,ws[i],List.getElem?_eq_getElem hi2,rx⟩⟩
theorem tD(hN:X.N.Nodup)(hi':X.N[i]? =some x)(hx:Loc X.env.scope x)(hc:X.calm=true)(L:nq X sc own fr)(hi:PId X tg iter di)
  (hg:∀ cl C s H ex pl,PGd (blk X sc (lcN X own fr) cl C s H ex pl) tg g)(ht:∀ cl C s H ex pl,sL (blk X sc (lcN X own fr) cl C s H ex pl) ifs tt)(he:∀ cl C s H ex pl,PD (blk X sc (lcN X own fr) cl C s H ex pl) elt te)
  (hsw:swapsWith (.ListComp elt [⟨tg,iter,ifs,0⟩] sc pos) (some (.Name x pos')) spos.line X.env=pure true:=by rfl)
  (hs:∀ x,foldedSetIterable iter X.env x=pure x:=by intro _;rfl)(hf:X.fn x=true\/X.env.scope.names.lookup x=some .local:=by first | exact .inl rfl | exact .inr rfl | assumption) :
  PSd X (.Assign [.Name x pos'] (.ListComp elt [⟨tg,iter,ifs,0⟩] sc pos) spos) (cH (adt di g tt te own.length fr) (gN i)):=qU (uW hN hi' hx hc L hi hg ht he hsw hs hf) λ D σ H hq111=>by
 obtain⟨τ,M,Dd,A,h,k1,_⟩:=hq111;have z:up X.K (adt di g tt te own.length fr) σ H (λ v H'=>D.nx (σ.set i (some v)) H'):=⟨τ,M,_,A,h,λ v H1 w M1 kp r m q=>k1 _ H1 _ M1 kp ((A.go kp m).set i r) q⟩;exact aaZ z
theorem tF(hN:X.N.Nodup)(hi':X.N[i]? =some x)(hx:Loc X.env.scope x)(hc:X.calm=true)(L:nq X sc own fr)(hi:Jd (PId X tg iter di))
  (hg:∀ cl C s H ex pl,Jd (PGd (blk X sc (lcN X own fr) cl C s H ex pl) tg g))(ht:∀ cl C s H ex pl,Jd (sL (blk X sc (lcN X own fr) cl C s H ex pl) ifs tt))(he:∀ cl C s H ex pl,Jd (PD (blk X sc (lcN X own fr) cl C s H ex pl) elt te))
  (hsw:swapsWith (.ListComp elt [⟨tg,iter,ifs,0⟩] sc pos) (some (.Name x pos')) spos.line X.env=pure true:=by rfl)
  (hs:∀ x,foldedSetIterable iter X.env x=pure x:=by intro _;rfl)(hf:X.fn x=true\/X.env.scope.names.lookup x=some .local:=by first | exact .inl rfl | exact .inr rfl | assumption) :
  Jd (PSd X (.Assign [.Name x pos'] (.ListComp elt [⟨tg,iter,ifs,0⟩] sc pos) spos) (cH (adt di g tt te own.length fr) (gN i))):=⟨D.tD hN hi' hx hc L hi.h (λ cl C s H ex pl=>(hg cl C s H ex pl).h) (λ cl C s H ex pl=>(ht cl C s H ex pl).h) (λ cl C s H ex pl=>(he cl C s H ex pl).h) hsw hs hf⟩
theorem aj4(h:us.length=0):us=[]:=by exact List.eq_nil_of_length_eq_zero h
theorem aaW(h:us.length=1):∃ a1:Value,us=[a1]:=by
 cases us with
 | nil=>simp at h
 | cons a r =>
  have e:r=[]:=aj4 (by simpa using h);subst e;exact⟨a,rfl⟩
theorem abr(h:us.length=2):∃ a1 a2:Value,us=[a1,a2]:=by
 cases us with
 | nil=>simp at h
 | cons a r =>
  obtain⟨b1,e⟩:=aaW (us:=r) (by simpa using h);subst e;exact⟨a,b1,rfl⟩
theorem af2(h:us.length=3):∃ a1 a2 a3:Value,us=[a1,a2,a3]:=by
 cases us with
 | nil=>simp at h
 | cons a r =>
  obtain⟨b1,b2,e⟩:=abr (us:=r) (by simpa using h);subst e;exact⟨a,b1,b2,rfl⟩
theorem ag9(h:us.length=4):∃ a1 a2 a3 a4:Value,us=[a1,a2,a3,a4]:=by
 cases us with
 | nil=>simp at h
 | cons a r =>
  obtain⟨b1,b2,b3,e⟩:=af2 (us:=r) (by simpa using h);subst e;exact⟨a,b1,b2,b3,rfl⟩
theorem ajS(h:us.length=5):∃ a1 a2 a3 a4 a5:Value,us=[a1,a2,a3,a4,a5]:=by
 cases us with
 | nil=>simp at h
 | cons a r =>
  obtain⟨b1,b2,b3,b4,e⟩:=ag9 (us:=r) (by simpa using h);subst e;exact⟨a,b1,b2,b3,b4,rfl⟩
section
variable {X:Cx}{K:FG}
end
section
variable {X:Cx}{K:FG}
end
section
variable {X:Cx}{K:FG}
end
section
variable {K:FG}
def ajl(di:TId)(g:TGd)(tt:TTd)(te:TD)(k:Nat)(fr:List Nat)(τ:DS)(M:MH)(Q:QD):Prop:=di τ M λ ws M1=>∃ P:Nat->List W->DS->MH->Prop,P 0 [] (aa3 k fr τ) M1 /\
 (∀ i w acc τ M,ws[i]? =some w->P i acc τ M->acc.length<sizeLine/\g w τ M λ τ2 M2=>tt τ2 M2 λ b M3=>if b=true then te τ2 M3 λ y M4=>P (i+1) (acc++[y]) τ2 M4 else P (i+1) acc τ2 M3) /\
 ∀ acc τ M,P ws.length acc τ M->∀ p,M p=none->Q (.m p) (aS M p (.lst acc))
theorem aeM(h:up K (ajl di g tt te k fr) σ H Q) :
  tLC (upI K di) (upG K g) (upT K tt) (up K te) k fr σ H Q:=by
 obtain⟨τ,M,Qd,A,h,kk⟩:=h;refine⟨τ,M,_,A,h,λ J H1 ws M1 kp m1 it hq112=>?_⟩;obtain⟨P,p0,pt,pe⟩:=hq112;refine⟨λ i n ys σ' H'=>n=ws.length-i/\i<=ws.length/\Kp H1 H'/\∃ acc τ M,bh K H' acc ys/\Abs K H' σ' τ M/\P i acc τ M,⟨ws.length,by simp,Nat.zero_le _,Kp.refl _,[],_,M1,Paired.nil,rU (A.go kp m1) k fr,p0⟩,?_⟩;rintro i n ys σ2 H2 ⟨rfl,hi,kp2,acc,τ2,M2,ra,A2,p2⟩;obtain⟨go,stop,yld⟩:=it H2 kp2 i
 by_cases hlt:i<ws.length
 .have hlen:=ra.length;refine .inr ⟨go hlt,?_,λ x H3 y=>?_⟩
  .obtain⟨w,hw⟩:∃ w,ws[i]? =some w:=⟨ws[i],by simp[hlt]⟩;have:=(pt i w acc τ2 M2 hw p2).1;omega
  obtain⟨kp3,mk,w,ew,rw⟩:=yld x H3 hlt y;refine⟨w,τ2,M2,_,rw,A2.go kp3 (mk _ A2.mem),(pt i w acc τ2 M2 ew p2).2,λ σ4 H4 τ4 M4 kp4 A4 q4=>⟨τ4,M4,_,A4,q4,λ b H5 M5 kp5 m5 q5=>?_⟩⟩;have kq:=(kp3.trans kp4).trans kp5;cases b with
  | false =>
   rw[if_neg ft0] at q5;show(if false=true then _ else _);rw[if_neg ft0];exact⟨ws.length-(i+1),by omega,rfl,hlt,kp2.trans kq,acc,τ4,M5,bh.keep kq ra,A4.go kp5 m5,q5⟩
  | true =>
   rw[if_pos rfl] at q5;show(if true=true then _ else _);rw[if_pos rfl];refine⟨τ4,M5,_,A4.go kp5 m5,q5,λ v H6 wv M6 kp6 r6 m6 q6=>?_⟩;refine⟨ws.length-(i+1),by omega,rfl,hlt,kp2.trans (kq.trans kp6),acc++[wv],τ4,M6,bh.append (bh.keep (kq.trans kp6) ra) (.cons r6 .nil),A4.go (kp5.trans kp6) m6,q6⟩
 .have hl:i=ws.length:=by omega
  subst hl;refine .inl ⟨stop (lr0 _),λ p hp=>?_⟩;have kp9:Kp H2 (upd H2 p (.lst ys)):=Kp.new hp;exact kgo kk (kp.trans kp2) _ _ (.m p) _ kp9 rfl (A2.mem.put (mo:=.lst acc) kp9 ⟨_,aj,bh.keep kp9 ra⟩) (pe acc τ2 M2 p2 p (A2.mem.free hp))
variable {X:Cx}{sc:Scope}{own:List Str}{fr:List Nat}{di:TId}{g:TGd}{tt:TTd}{te:TD}{tg iter elt:Expr}{ifs:List Expr}{pos:Pos}
theorem afm(hc:X.calm=true)(L:nq X sc own fr)(hi:PId X tg iter di)
  (hg:∀ cl C s H ex pl,PGd (blk X sc (lcN X own fr) cl C s H ex pl) tg g)(ht:∀ cl C s H ex pl,sL (blk X sc (lcN X own fr) cl C s H ex pl) ifs tt)(he:∀ cl C s H ex pl,PD (blk X sc (lcN X own fr) cl C s H ex pl) elt te)
  (hs:∀ x,foldedSetIterable iter X.env x=pure x:=by intro _;rfl):PD X (.ListComp elt [⟨tg,iter,ifs,0⟩] sc pos) (ajl di g tt te own.length fr):=
 fN (ad0 hc L hi hg ht he hs) λ σ H Q h=>aeM h
end
section
variable {X:Cx}{tg iter elt:Expr}{pos:Pos}{sc:Scope}{own:List Str}{fr:List Nat}{di:TId}{g:TGd}{tt:TTd}{te:TD}{ifs:List Expr}
end
theorem afy(hc:X.calm=true)(L:nq X sc own fr)(hi:Jd (PId X tg iter di))
  (hg:∀ cl C s H ex pl,Jd (PGd (blk X sc (lcN X own fr) cl C s H ex pl) tg g))(ht:∀ cl C s H ex pl,Jd (sL (blk X sc (lcN X own fr) cl C s H ex pl) ifs tt))(he:∀ cl C s H ex pl,Jd (PD (blk X sc (lcN X own fr) cl C s H ex pl) elt te))
  (hs:∀ x,foldedSetIterable iter X.env x=pure x:=by intro _;rfl):Jd (PD X (.ListComp elt [⟨tg,iter,ifs,0⟩] sc pos) (ajl di g tt te own.length fr)):=
 ⟨D.afm hc L hi.h (λ cl C s H ex pl=>(hg cl C s H ex pl).h) (λ cl C s H ex pl=>(ht cl C s H ex pl).h) (λ cl C s H ex pl=>(he cl C s H ex pl).h) hs⟩
end D
namespace XO
open PySem.W Builtin.ObjectAttr
section
variable {prog:Program}{w:World}{A:Around}{E:VP}{s:Shared}{K:Frag}{x C:Addr}{name:Str}{v:Value}
end
section
variable {prog:Program}{w:World}{A:Around}{E:VP}{s:Shared}{K:Frag}{x C:Addr}{name:Str}{v:Value}{ox:Obj}{od:Option Obj}
end
section
variable {prog:Program}{w:World}{A:Around}{E:VP}{K:Frag}{C f:Addr}{h:Heap}{g:Array GenState}{d:Drawn}{t:Nat}{os:OsState}
end
end XO
namespace L2
open XO
end L2
namespace D
open L2 XO
section
variable {P:Program}{w:World}{K:FG}{mg:Str->Option Value}{base:Heap}
end
end D
namespace XO
open PySem.W
section
variable {prog:Program}{w:World}{A:Around}{E:VP}{s:Shared}{K:Frag}{env:PySem.Env}
end
end XO
namespace L2
open XO
section
variable {P:Program}{w:World}{K:FG}{mg:Str->Option Value}{base:Heap}{C f:Addr}{fd:FuncData}{qual:Str}{st:Stmt}
end
end L2
namespace D
open L2 XO
end D
namespace L2
open XO
end L2
namespace D
open L2 XO
section
variable {X:Cx}{pos np hpos:Pos}{body suite:List Stmt}{b0:Stmt}{hs:List ExceptHandler}{h0:ExceptHandler}{tb:XE->TSd}{th rest:Addr->TSd}{ts:TSd}
end
section
variable {X:Cx}{pos p p' apos cpos np hpos:Pos}{k:Nat}{f C:Addr}{fd:FuncData}{ps fs:List Str}{sp:SpX}{x m n:Str}{e o:Expr}{es:List Expr}{t:TAd}{td:TD}{E:XE}
variable {body suite:List Stmt}{b0:Stmt}{hs:List ExceptHandler}{h0:ExceptHandler}{tb:XE->TSd}{th rest:Addr->TSd}{ts:TSd}
end
section
variable {X:Cx}{K:FG}
end
section
variable {X:Cx}{K:FG}
end
def akz(i j l:Nat)(ta:TA):TS:=λ D σ H=>ta σ H λ vs H1=>∃ v w u,vs=[v,w,u]/\D.nx (((σ.set l (some u)).set j (some w)).set i (some v)) H1
theorem afr{kt k2 pt2}(hc:X.calm=true)(hN:X.N.Nodup)(hi:X.N[i]? =some x)(hj:X.N[j]? =some y)(hl:X.N[l]? =some z)
  (hx:X.env.scope.names.lookup x=some .local)(hy:X.env.scope.names.lookup y=some .local)(hz:X.env.scope.names.lookup z=some .local)(ha:PA X [a,b,c] ta)
  (hw:swappedStores [.Tuple [.Name x px,.Name y py,.Name z pz] kt pt] (.Tuple [a,b,c] k2 pt2) X.env=pure (some [x,y,z]))
  (hs:swapsWithSole [.Tuple [.Name x px,.Name y py,.Name z pz] kt pt] (.Tuple [a,b,c] k2 pt2) pos.line X.env=pure false:=by rfl) :
  PS X (.Assign [.Tuple [.Name x px,.Name y py,.Name z pz] kt pt] (.Tuple [a,b,c] k2 pt2) pos) (akz i j l ta):=by
 intro pins s σ H D I h;rw[exec_Assign_arm];refine wb0 (wpAny_standAt ?_);rw[hs];refine wb0 (wp ?_);rw[if_neg (by decide)];refine wb0 (Tuple_ (thn (ha _ pins s σ H _ I h) λ us s1 hq113=>?_));obtain⟨vs,H1,I1,r1,q1⟩:=hq113;obtain⟨v,w,u,e1,q1⟩:=q1;subst e1;obtain⟨u1,u2,u3,rfl,rv,rw',ru⟩:∃ u1 u2 u3,us=[u1,u2,u3]/\RelV v u1/\RelV w u2/\RelV u u3:=by
  cases r1 with
  | cons p q =>
   cases q with
   | cons p' q' =>
    cases q' with
    | cons p'' q'' =>
     cases q'';exact⟨_,_,_,rfl,p,p',p''⟩
 refine wpAny_newObj_type ?_ (by show 3<=sizeLine;decide);have I2:Inv X pins σ H1 {s1 with heap:=s1.heap.push {cls:=.type "tuple",data:=.seq [u1,u2,u3].toArray}}:=I1.kept (t':=s1.toks) λ b o e=>Heap.get?_push_of_some _ e;rw[hw];refine wb0 (wp ?_);show wpAny (model X.prog X.w) X.A (do rule "assign.swapped-stores";let items <- unpackItems (.ref s1.heap.objs.size) 3 none;assignInOrder [λ v=>bindName X.env z v,λ v=>bindName X.env y v,λ v=>bindName X.env x v] items.reverse;pure Flow.next) _ _ _;refine wb0 (wpAny_rule (wb0 (unpackItems_tuple (items:=#[u1,u2,u3]) (I.ok.hd hc) (IsTup.new s1.heap _) λ h' hx'=>?_)));have I3:=I2.kept (h':=h') (t':=s1.toks) λ b o e=>hx' b o (Nat.ne_of_lt (Heap.lt_size e)) e;show wpAny _ _ (assignInOrder [λ v=>bindName X.env z v,λ v=>bindName X.env y v,λ v=>bindName X.env x v] [u3,u2,u1] >>= λ _=>pure Flow.next) _ _ _;refine wb0 (assignInOrder_cons (wpAny_bindName (iY I3 hN hl (.inl hz) ru (λ s2 I4=>?_) (.inr hz))));refine assignInOrder_cons (wpAny_bindName (iY I4 hN hj (.inl hy) rw' (λ s3 I5=>?_) (.inr hy)));refine assignInOrder_cons (wpAny_bindName (iY I5 hN hi (.inl hx) rv (λ s4 I6=>assignInOrder_nil (wp ?_)) (.inr hx)));exact⟨_,H1,I6,q1⟩
def ago(i j l:Nat)(t:TAd)(D:Ed)(τ:DS)(M:MH):Prop:=t τ M λ ws M1=>∃ v w u,ws=[v,w,u]/\D.nx (((τ.set l (some u)).set j (some w)).set i (some v)) M1
theorem xU{kt k2 pt2}(hc:X.calm=true)(hN:X.N.Nodup)(hi:X.N[i]? =some x)(hj:X.N[j]? =some y)(hl:X.N[l]? =some z)
  (hx:X.env.scope.names.lookup x=some .local)(hy:X.env.scope.names.lookup y=some .local)(hz:X.env.scope.names.lookup z=some .local)(ha:Jd (PAd X [a,b,c] t))
  (hw:swappedStores [.Tuple [.Name x px,.Name y py,.Name z pz] kt pt] (.Tuple [a,b,c] k2 pt2) X.env=pure (some [x,y,z]):=by rfl)
  (hs:swapsWithSole [.Tuple [.Name x px,.Name y py,.Name z pz] kt pt] (.Tuple [a,b,c] k2 pt2) pos.line X.env=pure false:=by rfl) :
  Jd (PSd X (.Assign [.Tuple [.Name x px,.Name y py,.Name z pz] kt pt] (.Tuple [a,b,c] k2 pt2) pos) (ago i j l t)):=⟨have ha:=ha.h;qU (afr hc hN hi hj hl hx hy hz ha hw hs) λ D σ H h=>by
 obtain⟨τ,M,Dd,A,h,k1,_⟩:=h;refine⟨τ,M,_,A,h,λ vs H1 ws M1 kp1 r1 m1 hq114=>?_⟩;obtain⟨v,w,u,ew,q⟩:=hq114;subst ew;cases r1 with
 | cons r1 r2 =>
  cases r2 with
  | cons r3 r4 =>
   cases r4 with
   | cons r5 r6 =>
    cases r6;exact⟨_,_,_,rfl,k1 _ H1 _ M1 kp1 ((((A.go kp1 m1).set l r5).set j r3).set i r1) q⟩⟩
end D
namespace PySem.SeqAt
open MeetsSeq MeetsSeq2 MeetsSeq3 SeqRoads2
end PySem.SeqAt
namespace ZT
end ZT
namespace D
open L2
section
variable {X:Cx}{K:FG}{a b:Expr}{p pos:Pos}{t:TAd}
end
section
variable {X:Cx}{K:FG}
end
section
variable {X:Cx}{K:FG}
end
section
variable {X:Cx}{e st:Expr}{te:TE}{ts:TO}{pos p2:Pos}
end
section
variable {X:Cx}{K:FG}{e st:Expr}{te:TD}{ts:TOd}{pos p2:Pos}
end
section
variable {X:Cx}{e st:Expr}{a:Addr}{x:Str}{kvs:List (Str×PyData)}{pos p p2:Pos}{te:TD}{ts:TOd}
end
end D
namespace XO
open PySem.W
section
variable {prog:Program}{w:World}{A:Around}{E:VP}{K:Frag}{C:Addr}{h:Heap}{g:Array GenState}{d:Drawn}{t:Nat}{os:OsState}
end
end XO
namespace D
open L2 XO
section
variable {X:Cx}{pos p cpos np hpos:Pos}{k:Nat}{f C:Addr}{x:Str}{e:Expr}{es:List Expr}{t:TAd}{E:XE}
variable {body suite:List Stmt}{b0:Stmt}{hs:List ExceptHandler}{th rest:Addr->TSd}{ts:TSd}
end
section
variable {X:Cx}{K:FG}
variable {o e:Expr}{td te:TD}{apos cpos:Pos}
end
section
variable {X:Cx}{e st:Expr}{te:TE}{ts:TO}{pos p2:Pos}
end
section
variable {X:Cx}{e st:Expr}{te:TD}{ts:TOd}{pos p2:Pos}
end
section
variable {X:Cx}{K:FG}
end
section
variable {X:Cx}{pos p cpos apos np hpos p2:Pos}{k:Nat}{f C:Addr}{x y:Str}{e o st:Expr}{es:List Expr}{t:TAd}{E:XE}{body suite:List Stmt}{b0:Stmt}{hs:List ExceptHandler}{rest:Addr->TSd}{ts:TSd}{fd:FuncData}{ps:List Str}{sp:SpX}{td te:TD}{to:TOd}
end
end D
namespace ZS
end ZS
namespace D
open L2
section
variable {X:Cx}{K:FG}
end
end D
namespace RT
end RT
namespace D
open L2
section
variable {X:Cx}{K:FG}
variable {o e:Expr}{td:TD}{apos cpos:Pos}
variable {a:Expr}{ta:TA}{p p2 pos pos2:Pos}
end
end D
namespace L2
open PySem.W (envX kla_obj kla_fn)
def aba(X:Cx)(q:Str)(sc:Scope)(N':List Str)(cl:List (Str×Addr))(f c:Addr)(s:Shared)(H:Hp)(pins:PN):Cx:=
 {X with A:=X.A.deeper (envX q sc s.heap.objs.size f (.ref c) cl),N:=N',s₀:=s,H₀:=H,env:=envX q sc s.heap.objs.size f (.ref c) cl,outer:=X.stack,stack:=envX q sc s.heap.objs.size f (.ref c) cl::X.stack,ex:=[],fn:=λ _=>false,calm:=true,pn:=X.pn++pins,xe:=λ _ _=>False}
structure sd(X:Cx)(sc:Scope)(x:Str)(fr:List Nat):Prop where
 kind:sc.kind=.function
 co:sc.isCoroutine=false
 gen:sc.isGenerator=false
 cell:∀ y∈sc.names,y.2 ≠ .cell
 free:∀ y∈sc.names,y.2=.free->(X.env.kindOf y.1=some .cell\/X.env.kindOf y.1=some .free)
 own:sc.names.lookup x=some .local
 fr:agM X.N sc fr=true
def yy(X:Cx)(x:Str)(fr:List Nat):List Str:=x::fr.map λ j=>X.N.getD j Str.empty
def aik(v:V)(fr:List Nat)(σ:St):St:=some v::fr.map λ j=>(σ[j]?).getD none
section
variable {X:Cx}{pins:PN}{σ:St}{H:Hp}{s:Shared}{sc:Scope}{x q:Str}{fr:List Nat}{cl:List (Str×Addr)}{f c:Addr}
theorem aje(L:sd X sc x fr)(hc:X.calm=true)(I:Inv X pins σ H s)(c1:∀ n c,cl.lookup n=some c->X.env.cells.lookup n=some c)(c2:∀ n,(n,NameKind.free)∈sc.names->∃ c,cl.lookup n=some c):(aba X q sc (yy X x fr) cl f c s H pins).Ok where
 mod:=I.ok.mod
 kind:=L.kind
 glob:=rfl
 blt:=rfl
 above:=lr0 _
 inj:=λ x y c a b=>I.ok.inj x y c (c1 _ _ a) (c1 _ _ b)
 has:=λ y hy=>by
  have hy:sc.names.lookup y=some .cell\/sc.names.lookup y=some .free:=hy;rcases hy with hy | hy
  .exact absurd rfl (L.cell _ (PySem.mem_of_lookup hy))
  .exact c2 y (PySem.mem_of_lookup hy)
 cab:=λ x c z=>absurd (show false=true from z) ft0
 hd:=λ _=>I.ok.hd hc
 frames:=Around.frames_deeper I.ok.frames
 stk:=.inr ⟨rfl,rfl⟩
 exf:=λ b z=>nomatch z
 bs:=I.bs
 bsz:=Nat.le_trans I.ok.bsz I.sz
 noex:=λ b o e z=>nomatch z
 exfs:=λ b z=>nomatch z
 sE:=I.stack
 frf:=I.sR
theorem afM(L:sd X sc x fr)(hc:X.calm=true)(I:Inv X pins σ H s)(c1:∀ n c,cl.lookup n=some c->X.env.cells.lookup n=some c)(c2:∀ n,(n,NameKind.free)∈sc.names->∃ c,cl.lookup n=some c)
  {h1:Heap}{tk:Nat}{v:V}{u:Value}(rv:RelV v u)(hn:h1.Ns s.heap.objs.size (λ y=>[(x,u)].reverse.lookup y))(k:∀ b o,s.heap.get? b=some o->h1.get? b=some o) :
  Inv (aba X q sc (yy X x fr) cl f c s H pins) [] (aik v fr σ) H {s with heap:=h1,toks:=tk}:=by
 have ok:=aje (q:=q) (f:=f) (c:=c) L hc I c1 c2;refine⟨ok,rfl,I.bare,Un.kept k,⟨_,hn,λ i y v' e1 e2 e3=>?_⟩,λ y c e=>?_,I.hok.fresh (lr0 _),λ y c e=>I.freeC y c (c1 _ _ e),λ p hp=>?_,I.hok.kept k,?_⟩
 .cases i with
  | zero =>
   have e1':some x=some y:=e1;have e2':some (some v)=some (some v'):=e2;cases e1';cases e2';exact⟨u,rv,.inl ⟨L.own,by simp⟩⟩
  | succ i =>
   have e1':(fr.map λ j=>X.N.getD j Str.empty)[i]? =some y:=e1;have e2':(fr.map λ j=>(σ[j]?).getD none)[i]? =some (some v'):=e2;rw[List.getElem?_map] at e1' e2';cases hq:fr[i]? with
   | none=>rw[hq] at e1';cases e1'
   | some j =>
    rw[hq] at e1' e2';obtain⟨z,hz,hzf⟩:=u5 L.fr (List.mem_of_getElem? hq);have ex:z=y:=by have:=Option.some.inj e1';rw[<- this];simp[List.getD,hz]
    subst ex;have ev:σ[j]? =some (some v'):=by
     have z':(σ[j]?).getD none=some v':=Option.some.inj e2';cases w:σ[j]? with
     | none=>rw[w] at z';cases z'
     | some o=>rw[w] at z';exact congrArg some z'
    have hm:(z,NameKind.free)∈sc.names:=PySem.mem_of_lookup hzf;have hk:=L.free _ hm rfl;have vis:Vis X.env.scope z:=by
     rcases hk with w | w
     .exact .inr (.inl w)
     .exact .inr (.inr w)
    obtain⟨m0,hn0,hl⟩:=I.loc;obtain⟨u',r,l⟩:=hl j z v' hz ev vis;refine⟨u',r,.inr ⟨.inr hzf,?_⟩⟩;obtain⟨c',hc'⟩:=c2 z hm;rcases l with ⟨w,_⟩ | ⟨_,c'',hc'',hcell⟩
    .rcases hk with q' | q'
     .exact absurd (show X.env.kindOf z=some .local from w) (by rw[q'];decide)
     .exact absurd (show X.env.kindOf z=some .local from w) (by rw[q'];decide)
    .have:c'=c'':=Option.some.inj ((c1 _ _ hc').symm.trans hc'');subst this;obtain⟨o,ho,hd⟩:=hcell;exact⟨c',hc',o,k _ _ ho,hd⟩
 .obtain⟨w,o,ho,hd⟩:=I.cell y c (c1 _ _ e);exact⟨w,o,k _ _ ho,hd⟩
 .have hp':p∈X.pn++pins:=by simpa [aba] using hp
  obtain⟨a1,a2,a3,a4,a5⟩:=I.pin p hp';refine⟨k _ _ a1,a2,Nat.ne_of_lt (Heap.lt_size a1),λ z=>?_,a5⟩;rcases List.mem_cons.mp (I.jO _ z) with e | e
  .exact a3 e
  .exact a4 e
 .show(aik v fr σ).length=(yy X x fr).length;simp[aik,yy]
def agx(H:Hp)(q x:Str)(params:Arguments)(body:Expr)(sc:Scope)(cl:List (Str×Addr))(pm:Value)(f:Addr):Prop:=
 ∃ c ctv oc vs t,H f=some (.frz (kla_obj "<lambda>" q params body sc cl pm c ctv) (.own 0))/\H c=some (.frz oc (.own 0))/\oc.data=.fields vs/\vs[1]? =some (.str q t)
theorem af3{k:Nat}{E:VP}{params:Arguments}{body:Expr}{pm:Value}{te:TE}{v:V}{u:Value}{Q:VK}(hr:cI (k+1) X.A)(hc:X.calm=true)(L:sd X sc x fr)(c1:∀ n c,cl.lookup n=some c->X.env.cells.lookup n=some c)(c2:∀ n,(n,NameKind.free)∈sc.names->∃ c,cl.lookup n=some c)
  (hb:∀ cdv ctv u,bindArgs (kla_fn "<lambda>" q params body sc cl pm cdv ctv) ⟨[u],[]⟩=pure [(x,u)])
  (he:∀ c s H pl,cI k (aba X q sc (yy X x fr) cl f c s H pl).A->PE (aba X q sc (yy X x fr) cl f c s H pl) body te)
  (I:Inv X pins σ H s)(hf:agx H q x params body sc cl pm f)(rv:RelV v u)(h:te (aik v fr σ) H Q):wpAny (model X.prog X.w) X.A (call (.ref f) [u]) (EP X pins σ Q) E s:=by
 obtain⟨c,ctv,oc,vs,t,h1,h2,h3,h4⟩:=hf;obtain⟨g1,_⟩:=I.hok f _ h1;obtain⟨g2,_⟩:=I.hok c _ h2;refine wpAny_call (W.kla_callFunE hr.depth g1 rfl L.co L.gen rfl ⟨c,oc,vs,t,rfl,g2,h3,h4⟩ ?_);rw[hb];refine wp (wpAny_newFunctionEnv L.cell (λ y hy=>by rw[List.mem_singleton.mp hy];exact L.own) (λ h₁ hns hsb=>⟨(I.nolimit).fresh _ hsb,?_⟩) L.kind);have hk₁:∀ b o,s.heap.get? b=some o->h₁.get? b=some o:=λ b o e=>hsb.extBut b o (Nat.ne_of_lt (Heap.lt_size e)) (Heap.get?_push_of_some _ e);have J:=afM (q:=q) (f:=f) (c:=c) (tk:=s.toks+1) L hc I c1 c2 rv hns hk₁;have hr':cI k (aba X q sc (yy X x fr) cl f c s H pins).A:=hr.deeper _;refine W.kla_codeExpr (wpAny_mono (he c s H pins hr' [] _ _ _ _ J h) (λ u' s' hh=>?_) λ _ _ z=>z.elim);obtain⟨v',H',J',r',q'⟩:=hh;exact I.after ⟨v',H',J'.os,J'.bare,J'.base,J'.hok,r',q'⟩
end
section
variable {X:Cx}{pins:PN}{σ:St}{H:Hp}{s:Shared}
theorem Inv.aeS{P:Addr}{ps more:Array Value}{h':Heap}{t':Nat}(I:Inv X pins σ H s)(hP:H P=some (.tbl ps))(k:∀ b u,b≠P->s.heap.get? b=some u->h'.get? b=some u)(e:h'.get? P=some {cls:=.none,data:=.fields (ps++more)}) :
  Inv X pins σ (upd H P (.tbl (ps++more))) {s with heap:=h',toks:=t'}:=by
 have nn:∀ b,H b=none->b≠P:=λ b n=>Ne.symm (aR hP n);have nt:∀ b xs,H b=some (.tup xs)->b≠P:=λ b xs q=>xj q hP (λ z=>nomatch z);have nf:∀ b o u,H b=some (.frz o u)->b≠P:=λ b o u q=>xj q hP (λ z=>nomatch z);have no:∀ b y,H b=some (.own y)->b≠P:=λ b y q=>xj q hP (λ z=>nomatch z);refine I.un ⟨λ b o q n _ _=>k b o (nn b n) q,λ b o q n _ _=>⟨o.slots,k b o (nn b n) q⟩,λ b o _ n _=>by rw[ai (nn b n)];exact n,λ b o q _=>?_,λ b xs q=>by rw[ai (nt b xs q)];exact q,λ b o u q=>by rw[ai (nf b o u q)];exact q,λ b qs q=>?_⟩ λ b u q=>?_
 .by_cases hb:b=P
  .subst hb;exact⟨_,e⟩
  .exact⟨o,k b o hb q⟩
 .by_cases hb:b=P
  .subst hb;rw[hP] at q;cases q;exact⟨more,aj⟩
  .exact⟨#[],by rw[ai hb,q];simp⟩
 .by_cases hb:b=P
  .subst hb;rw[aj] at q;cases q;exact e
  .rw[ai hb] at q;exact(I.hok b u q).xA (λ c v hc r=>k c v (by rcases hc with z | z;rw[z];exact hb;exact no c _ z) r) (λ c r=>by rw[ai (no c _ r)];exact r) λ c xs r=>by rw[ai (nt c xs r)];exact r
theorem Inv.hold{D:Addr}{ob:Obj}(I:Inv X pins σ H s)(e:s.heap.get? D=some ob)(hn:H D=none)
  (h0:X.s₀.heap.objs.size<=D)(hL:D≠X.env.locals)(hc:∀ x c,X.env.cells.lookup x=some c->c≠D)(hp:∀ p∈X.pn++pins,p.1≠D):Inv X pins σ (upd H D (.frz ob (.own 0))) s:=by
 have ne:∀ b u,H b=some u->b≠D:=λ b u q=>aR q hn;refine I.step (h':=s.heap) (g':=s.gens) (d':=s.drawn) (t':=s.toks) (ch:=[D]) (λ b hb=>?_) (λ b o _ _ _ q _=>q) (λ b o _ _ _ q _=>⟨o.slots,q⟩) (λ b o hb q n=>?_) (λ b o _ q=>⟨o,q⟩)
  (λ b xs q=>by rw[ai (ne b _ q)];exact q) (λ b o u q=>by rw[ai (ne b _ q)];exact q) (λ b ps q=>⟨#[],by rw[ai (ne b _ q),q];simp⟩) (λ m hm=>hm) (λ b u q=>?_) I.bare
 .have e:b=D:=by simpa using hb
  subst e;exact⟨.inr h0,hL,hc,hp⟩
 .rw[ai (λ z=>hb (by simp[z]))];exact n
 .by_cases hb:b=D
  .subst hb;rw[aj] at q;cases q;exact⟨e,ob,e⟩
  .rw[ai hb] at q;exact(I.hok b u q).xA (λ _ _ _ q=>q) (λ c r=>by rw[ai (ne c _ r)];exact r) λ c xs r=>by rw[ai (ne c _ r)];exact r
def akF(X:Cx)(sc:Scope)(cl:List (Str×Addr)):Prop:=(∀ n c,cl.lookup n=some c->X.env.cells.lookup n=some c)/\∀ n,(n,NameKind.free)∈sc.names->∃ c,cl.lookup n=some c
abbrev pZ(ps:Array Value)(lpos:Pos)(c:Addr):Array Value:=ps ++ #[rawInt lpos.line,rawInt lpos.col,.ref c]
def akZ(X:Cx)(P:Addr)(q:Str)(params:Arguments)(body:Expr)(sc:Scope)(lpos:Pos):TE:=λ σ H Q=>∃ ps,H P=some (.tbl ps)/\TriplesOk ps.toList /\
 ((codeAmong lpos ps.toList=none/\∀ c f oc vs t ctv cl,akF X sc cl->H c=none->H f=none->c≠f->oc.data=.fields vs->vs[1]? =some (.str q t) ->
   Q (.ref f) (upd (upd (upd H c (.frz oc (.own 0))) P (.tbl (pZ ps lpos c))) f (.frz (kla_obj "<lambda>" q params body sc cl ((X.mg "__name__").getD .none) c ctv) (.own 0)))) \/
∃ c o vs t,codeAmong lpos ps.toList=some (.ref c)/\H c=some (.frz o (.own 0))/\o.data=.fields vs/\vs[1]? =some (.str q t)/\∀ f ctv cl,akF X sc cl->H f=none ->
   Q (.ref f) (upd H f (.frz (kla_obj "<lambda>" q params body sc cl ((X.mg "__name__").getD .none) c ctv) (.own 0))))
theorem ahx{P cd:Addr}{params:Arguments}{body:Expr}{sc:Scope}{lpos:Pos}{x:Str}{fr:List Nat}(L:sd X sc x fr)(hcode:X.env.code=.ref cd)(hcd:W.codeHdIn X.K cd P=true)(hdef:defaultsOf params X.env=([],[]):=by rfl) :
  PE X (.Lambda params body sc lpos) (akZ X P (X.env.qual ++ "<lambda>") params body sc lpos):=by
 intro pins s σ H Q I h;obtain⟨ps,hP,ht,h⟩:=h;obtain⟨cl,hcl,c1,c2⟩:=jY (scope:=sc) (env:=X.env) λ y hy hf=>I.ok.has y.1 (L.free y hy hf);refine W.kla_eval hdef ?_;have hg:=I.ok.mod.glob.keeps I.bk;obtain⟨⟨bm,ob,b1,b2,b3,b4,b5,b6⟩,_⟩:=I.ok.mod.bm;have b3':=I.bk _ _ b3;have hPo:s.heap.get? P=some {cls:=.none,data:=.fields ps}:=I.hok P _ hP;have hgP:mainGlobals≠P:=λ z=>by obtain⟨o,es,ep,e,hd,_⟩:=hg;rw[z,hPo] at e;cases e;cases hd
 have hbP:bm≠P:=λ z=>by rw[z,hPo] at b3';cases b3';cases b4
 have hbG:bm≠mainGlobals:=λ z=>by obtain⟨o,es,ep,e,hd,_⟩:=hg;rw[z,e] at b3';cases b3';rw[hd] at b6;cases b6
 have C:=W.codeHd_of_K I.kIn hcd;rcases h with ⟨hnf,h⟩ | ⟨c,o,vs,t,hf,hc,hd,hv,h⟩
 .refine W.kla_makeFunction (mg:=X.mg) hcl I.ok.glob hg hcode C hPo ht hnf hgP ⟨bm,ob,b1,b2,hbG,hbP,b3',b4,b5,b6⟩ λ c' ctv h' tk hx hge hlt hrec htb=>?_;obtain⟨c₂,oc,vs,t,e2,hoc,hd,hv⟩:=hrec;cases e2;have hcn:H c'=none:=I.hok.fresh hge;have hfn:H h'.objs.size=none:=I.hok.fresh (Nat.le_trans hge (Nat.le_of_lt hlt));have cP:c'≠P:=Ne.symm (aR hP hcn);have I1:=I.aeS (t':=tk) hP (λ b u hb e=>hx b u hb e) htb;have I2:=I1.hold hoc (by rw[ai cP];exact hcn) (Nat.le_trans I.sz hge) (λ z=>by obtain⟨m,hn,_⟩:=I.loc;exact absurd (Nat.lt_of_lt_of_le hn.lt hge) (by rw[z];exact Nat.lt_irrefl _))
   (λ y c hy z=>by obtain⟨w,o,ho,_⟩:=I.cell y c hy;exact absurd (Nat.lt_of_lt_of_le (Heap.lt_size ho) hge) (by rw[z];exact Nat.lt_irrefl _))
   (λ p hp z=>by obtain⟨ho,_⟩:=I.pin p hp;exact absurd (Nat.lt_of_lt_of_le (Heap.lt_size ho) hge) (by rw[z];exact Nat.lt_irrefl _))
  have hsw:upd (upd H P (.tbl (pZ ps lpos c'))) c' (.frz oc (.own 0))=upd (upd H c' (.frz oc (.own 0))) P (.tbl (pZ ps lpos c')):=by
   funext b;unfold upd
   by_cases e1:b=c'
   .rw[if_pos e1,if_neg (by rw[e1];exact cP),if_pos e1]
   .rw[if_neg e1,if_neg e1]
  rw[hsw] at I2;have I3:=I2.laid (t':=tk) (o:=.frz (kla_obj "<lambda>" (X.env.qual ++ "<lambda>") params body sc cl ((X.mg "__name__").getD .none) c' ctv) (.own 0)) (h':=h'.push (kla_obj "<lambda>" (X.env.qual ++ "<lambda>") params body sc cl ((X.mg "__name__").getD .none) c' ctv)) (λ b u e=>Heap.get?_push_of_some _ e) (lr0 _) ⟨Heap.get?_push_size _ rfl,_,Heap.get?_push_size _ rfl⟩;exact⟨.ref _,_,I3,rfl,h c' h'.objs.size oc vs t ctv cl ⟨c1,c2⟩ hcn hfn (Nat.ne_of_lt hlt) hd hv⟩
 .refine W.kla_makeFunctionHit (mg:=X.mg) hcl I.ok.glob hg hcode C hPo ht hf ⟨bm,ob,b1,b2,hbG,hbP,b3',b4,b5,b6⟩ λ ctv h' tk hk hsz=>?_;have I3:=(I.kept (t':=tk) hk).laid (t':=tk) (o:=.frz (kla_obj "<lambda>" (X.env.qual ++ "<lambda>") params body sc cl ((X.mg "__name__").getD .none) c ctv) (.own 0)) (h':=h'.push (kla_obj "<lambda>" (X.env.qual ++ "<lambda>") params body sc cl ((X.mg "__name__").getD .none) c ctv)) (λ b u e=>Heap.get?_push_of_some _ e) (lr0 _) ⟨Heap.get?_push_size _ rfl,_,Heap.get?_push_size _ rfl⟩;exact⟨.ref _,_,I3,rfl,h _ ctv cl ⟨c1,c2⟩ (I.hok.fresh hsz)⟩
end
def ajx(X:Cx):Cx:={X with A:=X.A.in1}
theorem Inv.in1(I:Inv X pins σ H s):Inv (ajx X) pins σ H s:=
 ⟨⟨I.ok.mod,I.ok.kind,I.ok.glob,I.ok.blt,I.ok.above,I.ok.inj,I.ok.has,I.ok.cab,I.ok.hd,I.ok.frames,I.ok.stk,I.ok.exf,I.ok.bs,I.ok.bsz,I.ok.noex,I.ok.exfs,I.ok.sE,I.ok.frf⟩,I.os,I.bare,I.base,I.loc,I.cell,I.free,I.freeC,I.pin,I.hok,I.len⟩
theorem Inv.aln(I:Inv (ajx X) pins σ H s):Inv X pins σ H s:=
 ⟨⟨I.ok.mod,I.ok.kind,I.ok.glob,I.ok.blt,I.ok.above,I.ok.inj,I.ok.has,I.ok.cab,I.ok.hd,I.ok.frames,I.ok.stk,I.ok.exf,I.ok.bs,I.ok.bsz,I.ok.noex,I.ok.exfs,I.ok.sE,I.ok.frf⟩,I.os,I.bare,I.base,I.loc,I.cell,I.free,I.freeC,I.pin,I.hok,I.len⟩
theorem Inv.abX(I:Inv X pins σ H s)(f:kO X pins H it)(k:∀ b o,b≠it->s.heap.get? b=some o->h'.get? b=some o):Inv X pins σ H {s with heap:=h',toks:=t'}:=
 I.turned k f.1 f.2.1 f.2.2.2.1 f.2.2.2.2.1 f.2.2.2.2.2
theorem Inv.alx(I:Inv X pins σ H s)(fa:kO X pins H a)(fb:kO X pins H b)(ea:s.heap.get? a=some oa)(eb:s.heap.get? b=some ob)(ca:∀ v,oa.data ≠ .cell v)(cb:∀ v,ob.data ≠ .cell v):Inv X ((a,oa)::(b,ob)::pins) σ H s:=
 I.dH λ p hp=>by
  rcases List.mem_cons.mp hp with e | hp
  .subst e;exact⟨ea,fa.1,fa.2.1,fa.2.2.1,ca⟩
  rcases List.mem_cons.mp hp with e | hp
  .subst e;exact⟨eb,fb.1,fb.2.1,fb.2.2.1,cb⟩
  .exact I.pin p (List.mem_append_right _ hp)
theorem Inv.ahS(I:Inv X ((a,oa)::(b,ob)::pins) σ H s):Inv X pins σ H s/\(s.heap.get? a=some oa/\H a=none)/\s.heap.get? b=some ob/\H b=none:=
 have pa:=I.pin (a,oa) (List.mem_append_right _ (.head _));have pb:=I.pin (b,ob) (List.mem_append_right _ (.tail _ (.head _)))
 ⟨I.dH λ p hp=>I.pin p (List.mem_append_right _ (.tail _ (.tail _ hp))),⟨pa.1,pa.2.1⟩,pb.1,pb.2.1⟩
end L2
namespace D
open L2
open PySem.W (kla_obj kla_fn)
def afn(w:W)(fr:List Nat)(τ:DS):DS:=some w::fr.map λ j=>(τ[j]?).getD none
section
variable {X:Cx}{K:FG}
theorem afj{H:Hp}{σ:St}{τ:DS}{M:MH}{v:V}{w:W}(A:Abs K H σ τ M)(r:aJ K H w v)(fr:List Nat):Abs K H (aik v fr σ) (afn w fr τ) M:=(rU A 1 fr).set 0 r
theorem afK{M:MH}{a:Addr}{o:MO}(h:M a=some o):aS M a o=M:=by
 funext b
 by_cases e:b=a
 .rw[e,af,h]
 .rw[ah e]
theorem wx{H:Hp}{M:MH}{P c:Addr}{ps:Array Value}{q:Str}{lpos:Pos}{oc:Obj}{vs:Array Value}{t:Tok}(m:cB K H M)(hP:M P=some (.code q lpos))(hT:H P=some (.tbl ps))(ht:TriplesOk ps.toList)(hn:codeAmong lpos ps.toList=none)(hc:H c=none)(hd:oc.data=.fields vs)(hv:vs[1]? =some (.str q t)) :
  Kp H (upd (upd H c (.frz oc (.own 0))) P (.tbl (pZ ps lpos c)))/\cB K (upd (upd H c (.frz oc (.own 0))) P (.tbl (pZ ps lpos c))) M:=by
 have cP:c≠P:=Ne.symm (aR hT hc);have hT':upd H c (.frz oc (.own 0)) P=some (.tbl ps):=by rw[ai (Ne.symm cP)];exact hT
 have k2:Kp (upd H c (.frz oc (.own 0))) (upd (upd H c (.frz oc (.own 0))) P (.tbl (pZ ps lpos c))):=Kp.set hT' (λ _ z=>nomatch z) (λ _ _ z=>nomatch z);refine⟨(Kp.new hc).trans k2,?_⟩;have e:(pZ ps lpos c).toList=ps.toList++[rawInt lpos.line,rawInt lpos.col,.ref c]:=by simp[pZ]
 have:=(m.new (o:=.frz oc (.own 0)) hc).put (mo:=.code q lpos) k2 ⟨_,aj,by rw[e];exact TriplesOk_snoc _ _ _ _ ht,.inr ⟨c,oc,vs,t,by rw[e];exact codeAmong_snoc _ ht hn,by rw[ai cP,aj],hd,hv⟩⟩;rw[afK hP] at this;exact this
variable {P cd:Addr}{q x:Str}{lpos pos p kpos:Pos}{params:Arguments}{body o:Expr}{sc:Scope}{fr:List Nat}{to tb:TD}{k:Nat}
theorem agx.keep{H H':Hp}{q x:Str}{params:Arguments}{body:Expr}{sc:Scope}{cl:List (Str×Addr)}{pm:Value}{f:Addr}(h:agx H q x params body sc cl pm f)(kp:Kp H H'):agx H' q x params body sc cl pm f:=by obtain⟨c,ctv,oc,vs,t,h1,h2,h3,h4⟩:=h;exact⟨c,ctv,oc,vs,t,kp.frz _ _ _ h1,kp.frz _ _ _ h2,h3,h4⟩
end
end D
namespace L2
def abi(ts:List Addr)(H:Hp):Prop:=∀ b,H b=none\/(∃ o xs,H b=some (.frz o (.lst xs)))\/(b∈ts/\H b=some (.tbl #[]))
theorem aaI{P:Program}{w:World}{K:FG}{mg mb:Str->Option Value}{CX:CXT}{k:Nat}{fa a:Addr}{fd:FuncData}{x:Str}{sp:Sp}{s₁:Shared}{vs:List Value}{ns:List Int}
  (KX:K.In s₁.heap)(hns:s₁.heap.Ns mainGlobals mg)(hb:s₁.heap.Ns builtinsNs mb)(hbb:∀ x:Str,x ≠ "__name__" -> mb x=bootBuiltins x)(hlim:s₁.heap.NoLimit)(hbm:BM mg s₁.heap)(hg:s₁.gens = #[])
  (ha:s₁.heap.get? a=some {cls:=.type "list",data:=.seq vs.toArray})(hi:IntsAre vs ns)(hl:ns.length<=sizeLine)(hr:cI k callerA)(ts:List Addr)(hts:∀ T∈ts,(∃ c,W.codeHdIn K c T=true)/\K.lookup T=none/\s₁.heap.get? T=some {cls:=.none,data:=.fields #[]})
  (F:∀ base:Heap,K.In base->base.Ns mainGlobals mg->ck P w K mg base CX k fa fd [x] sp)(hbind:∀ (s:Shared) (u:Value),BindsTo s fd ⟨[u],[]⟩ [(x,u)])
  (hsp:∀ H:Hp,abi ts H->(∀ T∈ts,H T=some (.tbl #[]))->SqL K H a (ns.map V.int)->sp [.ref a] H (λ v _=>v=.bl true) λ _ _ _=>False)
  (hCX:∀ H e s',CX [] H s₁ (λ _ _ _=>False) e s'->False) :
  codeAny (model P w) callerA (.call (.ref fa) ⟨[.ref a],[]⟩) (λ r s'=>r=.ok (.ret (.bool true))/\OldK s₁.heap s'.heap/\s'.os=s₁.os/\AllBare s'.gens) s₁:=by
 have rv:=qZ hi;have lenV:=hi.length;have at':∀ T∈ts,T≠a:=λ T hT e=>by have h:=(hts T hT).2.2;rw[e,ha] at h;cases h
 have core:∀ H:Hp,abi ts H->(∀ T∈ts,H T=some (.tbl #[]))->SqL K H a (ns.map V.int)->HOk P w H s₁.heap->(∀ b,H b≠none->b=a\/b∈ts)->(H a≠none->K.lookup a=none) ->
   codeAny (model P w) callerA (.call (.ref fa) ⟨[.ref a],[]⟩) (λ r s'=>r=.ok (.ret (.bool true))/\OldK s₁.heap s'.heap/\s'.os=s₁.os/\AllBare s'.gens) s₁:=by
  intro H hO hTb hS hok hA hK;have jH:∀ {b:Addr} {o:Obj},s₁.heap.get? b=some o->H b=none->(abD s₁.heap H).get? b=some o:=λ e n=>abI e n;have noA:∀ {b:Addr} {o:Obj} {es:Array DictEntry} {ep:Nat},s₁.heap.get? b=some o->o.data=.dict es ep->H b=none:=λ {b o es ep} e d=>by
   cases q:H b with
   | none=>rfl
   | some u =>
    rcases hA b (by rw[q];simp) with e' | e'
    .subst e';rw[ha] at e;cases e;have d':Data.seq vs.toArray _=Data.dict es ep:=d;cases d'
    .rw[(hts b e').2.2] at e;cases e;have d':Data.fields _=Data.dict es ep:=d;cases d'
  have nsK:∀ {b:Addr} {m:Str->Option Value},s₁.heap.Ns b m->(abD s₁.heap H).Ns b m:=λ {b m} ⟨o,es,ep,e,d,r⟩=>⟨o,es,ep,jH e (noA e d),d,r⟩;have hKb:K.In (abD s₁.heap H):=λ b o e=>jH (KX b o e) (by
   cases q:H b with
   | none=>rfl
   | some u =>
    rcases hA b (by rw[q];simp) with e' | e'
    .subst e';rw[hK (by rw[q];simp)] at e;cases e
    .rw[(hts b e').2.1] at e;cases e)
  have hM:Mod K mg (abD s₁.heap H):=⟨hKb,nsK hns,⟨mb,nsK hb,hbb⟩,let ⟨mc,h1,h2⟩:=hlim; ⟨mc,nsK h1,h2⟩,let ⟨⟨b,o,h1,h2,h3,h4,h5,h6⟩,mm,hmm⟩:=hbm; ⟨⟨b,o,h1,h2,jH h3 (by cases q:H b with | none=>rfl | some u=>(rcases hA b (by rw[q];simp) with e' | e'; (subst e';rw[ha] at h3;cases h3;cases h6); (rw[(hts b e').2.2] at h3;cases h3;cases h6))),h4,h5,h6⟩,mm,nsK hmm⟩⟩;have e0:aex P w K mg (abD s₁.heap H) callerA [] s₁ H:=⟨rfl,hM,λ b o e=>agh e,Nat.le_of_eq (zq _ _),trivial,λ b hb=>absurd (show b∈([]:List Addr) from hb) (by simp),hok,.of_eq hg⟩;refine codeAny_mono ((F _ hKb (nsK hns)).run callerA [] s₁ H ⟨[.ref a],[]⟩ [.ref a] [.ref a] _ _ hr e0 (hbind s₁ (.ref a)) (.cons rfl .nil) (hsp H hO hTb hS)) λ r s' h=>?_;cases r with
  | error e=>exact(hCX H e s' h).elim
  | ok fl =>
   cases fl with
   | next=>exact False.elim h
   | brk=>exact False.elim h
   | cont=>exact False.elim h
   | ret u =>
    obtain⟨v,H',os,bare,un,hok',r',q⟩:=h;have q':v=.bl true:=q;subst q';obtain rfl:u=Value.bool true:=r';have old:∀ b o,s₁.heap.get? b=some o->s'.heap.get? b=some o\/∃ more,b∈ts/\s'.heap.get? b=some {cls:=.none,data:=.fields (#[]++more)}:=λ b o e=>?_;refine⟨rfl,⟨λ b o e=>?_,λ b o e=>(old b o e).elim (λ z=>⟨_,z⟩) λ⟨_,_,z⟩=>⟨_,z⟩⟩,os,bare⟩
    .rcases old b o e with z | ⟨more,hb,z⟩
     .exact .inl z
     .obtain⟨⟨c,hc⟩,_,h3⟩:=hts b hb;rw[h3] at e;cases e;exact .inr (.inl ⟨((W.codeHd_of_K KX hc).tab h3).isCodeTable,rfl,#[],more,rfl,z⟩)
    cases q:H b with
    | none=>exact .inl <| un.keep b o e q (by intro z;exact absurd (show b∈([]:List Addr) from z) (by simp)) (by simp)
    | some u =>
     rcases hO b with z | ⟨ob,xs,z⟩ | ⟨hb,z⟩
     .rw[q] at z;cases z
     .refine .inl ?_;have z2:=un.frzs b ob _ z;obtain⟨e1,_⟩:=hok b _ z;obtain⟨e2,_⟩:=hok' b _ z2;rw[e] at e1;cases e1;exact e2
     .obtain⟨more,z2⟩:=un.tbls b _ z;exact .inr ⟨more,hb,hok' b _ z2⟩
 cases hk:K.lookup a with
 | some o =>
  have e:=KX a o hk;rw[ha] at e;cases e;refine core (λ b=>if b∈ts then some (.tbl #[]) else none) (λ b=>?_) (λ T hT=>if_pos hT) (.inr ⟨_,vs.toArray,_,hk,rfl,rfl,rfl,by rw[List.size_toArray,lenV];exact hl,by simpa using rv⟩) (λ b u z=>?_) (λ b z=>?_) λ z=>absurd (if_neg λ h=>at' a h rfl) z
  .by_cases hb:b∈ts
   .exact .inr (.inr ⟨hb,if_pos hb⟩)
   .exact .inl (if_neg hb)
  .by_cases hb:b∈ts
   .have z':=(if_pos hb).symm.trans z;cases z';exact(hts b hb).2.2
   .have z':=(if_neg hb).symm.trans z;cases z'
  .by_cases hb:b∈ts
   .exact .inr hb
   .exact absurd (if_neg hb) z
 | none =>
  refine core (λ b=>if b=a then some (.frz {cls:=.type "list",data:=.seq vs.toArray} (.lst (ns.map V.int))) else if b∈ts then some (.tbl #[]) else none) (λ b=>?_) (λ T hT=>(if_neg (at' T hT)).trans (if_pos hT)) (.inl (.inr ⟨{cls:=.type "list",data:=.seq vs.toArray},if_pos rfl⟩)) (λ b u z=>?_) (λ b z=>?_) λ _=>hk
  .by_cases hb:b=a
   .exact .inr (.inl ⟨_,_,if_pos hb⟩)
   .by_cases hb2:b∈ts
    .exact .inr (.inr ⟨hb2,(if_neg hb).trans (if_pos hb2)⟩)
    .exact .inl ((if_neg hb).trans (if_neg hb2))
  .by_cases hb:b=a
   .have z':=(if_pos hb).symm.trans z;cases z';subst hb;exact⟨ha,by rw[lm];exact hl,vs,_,rv,ha⟩
   .have z0:=(if_neg hb).symm.trans z
    by_cases hb2:b∈ts
    .have z':=(if_pos hb2).symm.trans z0;cases z';exact(hts b hb2).2.2
    .have z':=(if_neg hb2).symm.trans z0;cases z'
  .by_cases hb:b=a
   .exact .inl hb
   .by_cases hb2:b∈ts
    .exact .inr hb2
    .exact absurd ((if_neg hb).trans (if_neg hb2)) z
theorem abe{l:W.OpenLaw}{n k:Nat}{q:Program}{loose:List Str}{XP:(Str->Option Value)->Heap->Prop}{YP:World->Heap->Prop}{d:DefRec}{K:Params->FG}{CX:World->CXT}{sp:World->Sp}{x:Str}
  (hq:importsNone q=true)(hn:l.most=some n)(hn2:n<=sizeLine)(hdf:d.params.defaults=[])(hr:cI k callerA)
  (ts:List Addr)(hT:∀ w:World,∀ T∈ts,(∃ c,W.codeHdIn (K w.params) c T=true)/\(K w.params).lookup T=none)(hY:∀ (w:World) (h:Heap),YP w h->(K w.params).In h/\∀ T∈ts,h.get? T=some {cls:=.none,data:=.fields #[]})
  (F:∀ (w:World) (mg:Str->Option Value) (fa:Addr) (h:Heap),(K w.params).In h->h.Ns mainGlobals mg->mg d.name=some (.ref fa) ->
   ∃ fd:FuncData,(∀ (s:Shared) (u:Value),BindsTo s fd ⟨[u],[]⟩ [(x,u)]) /\
    ∀ base:Heap,(K w.params).In base->base.Ns mainGlobals mg->ck l.prog w (K w.params) mg base (CX w) k fa fd [x] (sp w))
  (hsp:∀ (w:World) (H:Hp) (a:Addr) (ns:List Int),ns.length<=n->abi ts H->(∀ T∈ts,H T=some (.tbl #[]))->SqL (K w.params) H a (ns.map V.int)->sp w [.ref a] H (λ v _=>v=.bl true) λ _ _ _=>False)
  (hCX:∀ (w:World) (H:Hp) (s:Shared) (e:Value) (s':Shared),CX w [] H s (λ _ _ _=>False) e s'->False) :
  W.WalkO q loose XP YP l.row.toRowW d [] (λ f vs=>PySem.call f vs):=by
 refine Att.uo hn hdf λ w s₀ s₁ mg mb fa o pm cd doc a vs ns G Y ho hd hcd hmg hobj hints hlen hg=>?_;obtain⟨KX,hTb⟩:=hY w _ Y;obtain⟨fd,hb,hF⟩:=F w mg fa _ KX G.T.g hmg;exact aaI KX G.T.g G.T.b G.T.builtins G.T.nolimit (let ⟨bm,ob,b1,b2,b3,b4,b5,b6⟩:=G.T.bmain;let ⟨mm,hmm,_⟩:=(G.T.seer hq).mods; ⟨⟨bm,ob,b1,b2,b3,b4,b5,b6⟩,mm,hmm⟩) hg hobj hints (Nat.le_trans hlen hn2) hr ts (λ T h=>⟨(hT w T h).1,(hT w T h).2,hTb T h⟩) hF hb (λ H hO hB hS=>hsp w H a ns hlen hO hB hS) λ H e s'=>hCX w H s₁ e s'
end L2
namespace D
open L2
section
variable {P:Program}{w:World}{K:FG}{mg:Str->Option Value}{base:Heap}
theorem aeN{x qual:Str}{st:Stmt}{f cd:Addr}{N ps:List Str}{k:Nat}{sp:SpD}{t:TSd}(F:Fun K x qual st f fd)(hcd:fd.code=.ref cd)(S:jo N ps (aC st))(len:∀ ws M Q,sp ws M Q->ws.length=ps.length)
  (hbody:∀ (A:Around) (outer:List Env) (s:Shared) (H:Hp) (E:XK),cI k (A.deeper (envOfC qual (aC st) s.heap.objs.size f (.ref cd)))->t8 (adl CX0 P w K mg base N qual (aC st) f (.ref cd) A outer s H E).nox (aW st) t)
  (read:∀ ws M Q,sp ws M Q->t {nx:=λ _ M'=>Q (.d .none) M',rt:=Q} (fG N ws) M):ck P w K mg base CX0 (k+1) f fd ps (cz K sp):=by
 obtain⟨oc,od,kV,doc,pm,an,cdv,ct,osl,e,lk,hcdv⟩:=F.ex;subst e;have e2:cdv=.ref cd:=hcd;subst e2;refine ajk lk hcdv S (λ vs H Q E h=>?_) (λ A outer s H vs Q E hr h=>?_)
 .obtain⟨ws,M,Qd,r,_,q,_⟩:=h;rw[<- r.length];exact len _ _ _ q
 .obtain⟨ws,M,Qd,r,m,q,kk⟩:=h;refine⟨_,(hbody A outer s H E hr).nox,fG N ws,M,_,rT r m,read ws M Qd q,λ σ' H' τ' M' kp A' q'=>?_,λ v H' w' M' kp r' m' q'=>?_,λ σ' H' τ' M' kp A' q'=>q'.elim,λ σ' H' τ' M' kp A' q'=>q'.elim⟩
  .exact kk _ H' _ M' kp (by simp[aJ,aB]) A'.mem q'
  .exact kk v H' w' M' kp r' m' q'
end
def M1T(T:Addr)(q:Str)(lpos:Pos):MH:=λ b=>if b=T then some (.code q lpos) else none
theorem wJ{K:FG}{H:Hp}{a T:Addr}{q:Str}{lpos:Pos}{ns:List Int}{sp:SpD}(hl:ns.length<=63)(hO:L2.abi [T] H)(hT:∀ x∈[T],H x=some (.tbl #[]))(hS:L2.SqL K H a (ns.map V.int))(h:∀ ns:List Int,ns.length<=63->sp [.d (.list (ns.map PyData.int))] (M1T T q lpos) (λ w _=>w=.d (.bool true))) :
  cz K sp [.ref a] H (λ v _=>v=.bl true) λ _ _ _=>False:=by
 refine⟨[.d (.list (ns.map PyData.int))],M1T T q lpos,_,.cons ?_ .nil,λ a o z=>?_,h ns hl,λ v H' w M' kp r m q=>?_⟩
 .simp only[aJ,aB];refine⟨a,_,rfl,?_,aX.ints ns⟩;rcases hS with (h | h) | h
  .rcases hO a with z | ⟨ob,xs,z⟩ | ⟨_,z⟩
   .rw[h] at z;cases z
   .rw[h] at z;cases z
   .rw[h] at z;cases z
  .exact .inl h
  .exact .inr h
 .unfold M1T at z
  split at z
  .cases z
   rename_i e
   subst e;exact⟨#[],hT _ (by simp),trivial,.inl rfl⟩
  .cases z
 .subst q;simp only[aJ,aB] at r;exact r
def adm(sc scX:Scope)(x:Str)(N:List Str)(fr:List Nat):Bool:=
 (sc.kind==.function)&&!sc.isCoroutine&&!sc.isGenerator&&sc.names.all (λ y=>!(y.2==.cell))&&sc.names.all (λ y=>!(y.2==.free) || scX.names.lookup y.1==some .cell || scX.names.lookup y.1==some .free) &&
  (sc.names.lookup x==some .local)&&agM N sc fr
theorem akO(h:adm sc X.env.scope x X.N fr=true):sd X sc x fr:=by
 simp only[adm,ae00,Bool.not_eq_true'] at h;obtain⟨⟨⟨⟨⟨⟨h1,h2⟩,h3⟩,h4⟩,h5⟩,h6⟩,h7⟩:=h;refine⟨eq_of_beq h1,h2,h3,λ y hy e=>?_,λ y hy e=>?_,eq_of_beq h6,h7⟩
 .have:=List.all_eq_true.mp h4 y hy;simp[e] at this
 .have:=List.all_eq_true.mp h5 y hy;simp only[e,beq_self_eq_true,Bool.not_true,Bool.false_or,Bool.or_eq_true] at this;rcases this with z | z
  .exact .inl (eq_of_beq z)
  .exact .inr (eq_of_beq z)
section
variable {X:Cx}{K:FG}
variable {o e:Expr}{to:TE}{td te:TD}{apos cpos p pos:Pos}
end
end D
set_option maxHeartbeats 0
namespace D
open L2
section
variable {X:Cx}{a b:Expr}{rest:List Expr}{pos:Pos}{ta tb:TE}
end
section
variable {X:Cx}{K:FG}{e:Expr}{te:TE}{p pos kpos kp:Pos}{j:Nat}
end
section
variable {X:Cx}{a b o e:Expr}{rest:List Expr}{ta tb td te:TD}{apos cpos p pos kpos kp:Pos}{j:Nat}
end
section
variable {X:Cx}{K:FG}{pins:PN}{σ:St}{H:Hp}{s:Shared}
end
section
variable {K:FG}
end
abbrev PFn(K:FG)(x:Str)(st:Stmt):Prop:=∃ (f:Addr) (oc kV dc pm cd ct:Value) (od an:Option Addr) (sl:Array (Option Value)),W.nsIn K mainGlobals x=some (some (.ref f))/\K.lookup f=some ⟨oc,od,.func (W.fnOf x x (bw st) (aW st) (aC st) .none kV dc pm an cd ct),sl⟩/\W.codeIn K cd x=true/\W.keepIn K (.ref f)=true
abbrev PMf(K:FG)(C:Addr)(m x:Str)(st:Stmt):Prop:=∃ (f:Addr) (oc kV dc pm cd ct:Value) (od an:Option Addr) (sl:Array (Option Value)),W.findIn K (.ref C) m=some (some (.ref f))/\W.isFn K (.ref f)=true/\K.lookup f=some ⟨oc,od,.func (W.fnOf m x (bw st) (aW st) (aC st) .none kV dc pm an cd ct),sl⟩/\W.codeIn K cd x=true/\W.keepIn K (.ref f)=true
theorem ahv{K:FG}{x:Str}{st:Stmt}{f:Addr}{oc kV dc pm cd ct:Value}{od an:Option Addr}{sl:Array (Option Value)}(a:W.nsIn K mainGlobals x=some (some (.ref f)))(l:K.lookup f=some ⟨oc,od,.func (W.fnOf x x (bw st) (aW st) (aC st) .none kV dc pm an cd ct),sl⟩)(c:W.codeIn K cd x=true)(k:W.keepIn K (.ref f)=true):PFn K x st:=⟨_,_,_,_,_,_,_,_,_,_,a,l,c,k⟩
theorem agZ{K:FG}{C:Addr}{m x:Str}{st:Stmt}{f:Addr}{oc kV dc pm cd ct:Value}{od an:Option Addr}{sl:Array (Option Value)}(a:W.findIn K (.ref C) m=some (some (.ref f)))(i:W.isFn K (.ref f)=true)(l:K.lookup f=some ⟨oc,od,.func (W.fnOf m x (bw st) (aW st) (aC st) .none kV dc pm an cd ct),sl⟩)(c:W.codeIn K cd x=true)(k:W.keepIn K (.ref f)=true):PMf K C m x st:=⟨_,_,_,_,_,_,_,_,_,_,a,i,l,c,k⟩
theorem PFn.fn{K:FG}{h:Heap}{mg:Str->Option Value}{x:Str}{st:Stmt}{ps:List Str}(p:PFn K x st)(X:K.In h)(G:h.Ns mainGlobals mg)
  (b:∀ (kV doc pm:Value) (an:Option Addr) (cdv ct:Value) (us:List Value),us.length=ps.length->bindArgs (W.fnOf x x (bw st) (aW st) (aC st) .none kV doc pm an cdv ct) ⟨us,[]⟩=pure (ps.zip us)):∃ f fd,Fn K mg x st ps f fd:=
 let ⟨f,_,_,_,_,_,_,_,_,_,a,l,c,k⟩:=p; ⟨f,_,adQ X G a l c k b⟩
theorem PMf.mf{K:FG}{C:Addr}{m x:Str}{st:Stmt}{ps:List Str}(p:PMf K C m x st)
  (b:∀ (kV doc pm:Value) (an:Option Addr) (cdv ct:Value) (us:List Value),us.length=ps.length->bindArgs (W.fnOf m x (bw st) (aW st) (aC st) .none kV doc pm an cdv ct) ⟨us,[]⟩=pure (ps.zip us)):∃ f fd,Mf K C m x st ps f fd:=
 let ⟨f,_,_,_,_,_,_,_,_,_,a,i,l,c,k⟩:=p; ⟨f,_,ahb a i l c k b⟩
abbrev ZZ(P:Program)(w:World)(K:FG)(mg:Str->Option Value)(base:Heap)(F:Addr->FuncData->Prop)(n:Nat)(ps:List Str)(sp:SpD):Prop:=∃ f fd,F f fd/\ck P w K mg base CX0 n f fd ps (cz K sp)
end D
namespace L2
section
variable {P:Program}{w:World}{K:FG}{mg:Str->Option Value}{base:Heap}
end
end L2
namespace D
open L2
section
variable {P:Program}{w:World}{K:FG}{mg:Str->Option Value}{base:Heap}
end
open XO
section
variable {X:Cx}{K:FG}
end
end D
namespace PySem.AutoSeq1
open PySem.MeetsSeq PySem.MeetsSeq2 PySem.MeetsSeq3 PyProof.Rows
end PySem.AutoSeq1
namespace D
open L2
section
variable {P:Program}{w:World}{K:FG}{mg:Str->Option Value}{base:Heap}
end
end D
namespace PySem.AutoSeq1
open PySem.MeetsSeq PySem.MeetsSeq2 PySem.MeetsSeq3 PyProof.Rows
end PySem.AutoSeq1
namespace D
open L2
section
variable {X:Cx}{K:FG}
end
end D
namespace XO
open PySem.W
section
variable {prog:Program}{w:World}{A:Around}{E:VP}{s:Shared}{K:Frag}{env:PySem.Env}{e h0 C0:Addr}{dct0:Option Addr}{vs0:Array Value}
end
end XO
namespace L2
open XO
section
variable {P:Program}{w:World}{K:FG}{mg:Str->Option Value}{base:Heap}{C f:Addr}{fd:FuncData}{qual:Str}{st:Stmt}
end
end L2
namespace D
open L2 XO
section
variable {X:Cx}{pos p cpos:Pos}{k:Nat}{f C:Addr}{fd:FuncData}{ps fs:List Str}{x:Str}{e:Expr}{es:List Expr}{t:TAd}{E:XE}
variable {body suite:List Stmt}{b0:Stmt}{hs:List ExceptHandler}{th rest:Addr->TSd}{np hpos:Pos}
end
section
variable {X:Cx}{pos p cpos:Pos}{k:Nat}{f C:Addr}{fd:FuncData}{ps fs:List Str}{x:Str}{e:Expr}{es:List Expr}{t:TAd}{E:XE}
variable {suite:List Stmt}{b0:Stmt}{hs:List ExceptHandler}{rest:Addr->TSd}{np hpos:Pos}
end
section
variable {X:Cx}{K:FG}
variable {o e:Expr}{td te:TD}{apos cpos:Pos}
end
section
variable {X:Cx}{o i:Expr}{td ti:TD}{tpos pos:Pos}
end
end D
namespace L2
section
variable {X:Cx}{CX:CXT}{k:Nat}{f C:Addr}{fd:FuncData}{ps:List Str}{sp:Sp}{E:XK}{pins:PN}{σ:St}{H:Hp}{s:Shared}{Q:VK}{us:List Value}{vs:List V}{dvs:List V}{ds:List Value}
end
end L2
namespace D
open L2 XO
section
variable {X:Cx}{pins:PN}{σ:St}{H:Hp}{s:Shared}{a:Addr}{kvs:List (Str×Addr)}
end
section
variable {X:Cx}{e:Expr}{a:Addr}{x:Str}{kvs:List (Str×Addr)}{pos p apos cpos:Pos}{ty:TE}{te:TD}
end
section
variable {X:Cx}{pos p apos:Pos}{k:Nat}{f C:Addr}{fd:FuncData}{ps:List Str}{sp:SpX}{x m dz:Str}{e o:Expr}{es:List Expr}{t:TAd}{td:TD}{E:XE}
end
section
variable {X:Cx}{e o i:Expr}{a:Addr}{x m dz:Str}{kvs:List (Str×Addr)}{pos p apos cpos tpos:Pos}{te td ti:TD}{k:Nat}{f C:Addr}{fd:FuncData}{ps:List Str}{sp:SpX}{es:List Expr}{t:TAd}{E:XE}
end
end D
namespace L2
section
variable {X:Cx}{CX:CXT}{k:Nat}{f C:Addr}{fd:FuncData}{ps:List Str}{sp:Sp}{E:XK}{pins:PN}{σ:St}{H:Hp}{s:Shared}{Q:VK}{us:List Value}{vs:List V}{v:V}{u:Value}{kn:Str}
end
end L2
namespace D
open L2 XO
section
variable {X:Cx}{pos p apos kpos:Pos}{k:Nat}{f C:Addr}{fd:FuncData}{ps:List Str}{sp:SpX}{m kn:Str}{e o g:Expr}{es:List Expr}{t:TAd}{td tk:TD}{E:XE}
end
section
variable {X:Cx}{pos p apos kpos:Pos}{k:Nat}{f C:Addr}{fd:FuncData}{ps:List Str}{sp:SpX}{m kn:Str}{e o g:Expr}{es:List Expr}{t:TAd}{td tk:TD}{E:XE}
end
open S
section
variable {X:Cx}{pins:PN}{σ:St}{H H':Hp}{s:Shared}{h':Heap}
end
section
variable {X:Cx}{o:Expr}{to:TE}{apos cpos p pos:Pos}
end
section
variable {X:Cx}{o:Expr}{td:TD}{apos cpos p pos:Pos}
end
end D
namespace L2
theorem cI.m{j k:Nat}{A:PySem.Around}(r:cI k A)(h:j<=k:=by decide):cI j A:=r.mono h
end L2
namespace D
open L2
abbrev EdQ(Q:QD):Ed:={nx:=λ _ M'=>Q (.d .none) M',rt:=Q}
abbrev Ln(sp:SpD)(n:Nat):Prop:=∀ ws M Q,sp ws M Q->ws.length=n
abbrev Rd(sp:SpD)(t:TSd)(N:List Str):Prop:=∀ ws M Q,sp ws M Q->t (EdQ Q) (fG N ws) M
abbrev dS(z:Str):TD:=dC (.d (.str z))
abbrev dI(n:Int):TD:=dC (.d (.int n))
section
variable {prog:Program}{w:World}{A:Around}{E:VP}{s:Shared}{x y:Str}{t u v:Tok}{k:Int}{Q:VP}
end
section
variable {X:Cx}{K:FG}
variable {o e e':Expr}{td te tn:TD}{apos cpos:Pos}
end
section
variable {X:Cx}{e f:Expr}{a:Addr}{x:Str}{kvs:List (Str×PyData)}{pos p apos cpos:Pos}{ty tx:TE}{te tf:TD}
end
end D
namespace XO
open PySem.W
section
variable {M:Model}{A:Around}{E:VP}{s:Shared}{base:Heap}{env:PySem.Env}{outer:List PySem.Env}{L e C T:Addr}{dct:Option Addr}{vs:Array Value}
end
end XO
namespace D
open L2 XO
section
variable {X:Cx}{pins:PN}{σ:St}{H:Hp}{s:Shared}{a T:Addr}
end
section
variable {P:Program}{w:World}{K:FG}{mg:Str->Option Value}{base:Heap}
end
end D
namespace L2
open XO D
section
variable {prog:Program}{w:World}{A:Around}{E:VP}{R:Result->Shared->Prop}{s:Shared}
end
section
variable {X:Cx}{pins:PN}{σ:St}{H:Hp}{s:Shared}
end
section
variable {X:Cx}{pins:PN}{σ:St}{H:Hp}{s:Shared}{sc:Scope}{own:List Str}{fr:List Nat}{cl:List (Str×Addr)}{fp:List Addr}{it:Addr}{J:It}{tn:Nat->Heap->Prop}{g:TG}{tt:TT}{te:TE}{W:LcW}{Fin:List V->Hp->Prop}
 {elt tg iter:Expr}{ifs:List Expr}{pos:Pos}{E:VP}
end
end L2
namespace D
open L2 XO
section
variable {K:FG}
end
section
variable {X:Cx}{sc:Scope}{own:List Str}{fr:List Nat}{tg elt iter:Expr}{ifs:List Expr}{pos:Pos}{di:TId}{g:TGd}{tt:TTd}{te:XE->TD}{E:XE}
end
section
variable {P:Program}{w:World}{K:FG}{mg:Str->Option Value}{base:Heap}
end
variable {X:Cx}{sc:Scope}{own:List Str}{fr:List Nat}{tg elt iter:Expr}{ifs:List Expr}{pos:Pos}{di:TId}{g:TGd}{tt:TTd}{te:XE->TD}{E:XE}
end D
namespace D
open L2 S PySem.W
def uu(X:Cx):Cx:=ajx (ajx X)
section
variable {X:Cx}{pins:PN}{σ:St}{f a kS:Addr}{xs:List V}{us:List Value}{e1:Nat}
theorem Inv.abk{H:Hp}{s:Shared}{D:Addr}{vs:List V}{its:List Value}{n:Nat}(I:Inv X pins σ H s)(e:s.heap.get? D=some (seqObj "list" its.toArray n))(f:kO X pins H D)(hl:vs.length<=sizeLine)(rv:Vals vs its):Inv X pins σ (upd H D (.lst vs)) s:=by
 have hn:=f.1;have ne:∀ b u,H b=some u->b≠D:=λ b u q=>aR q hn;refine I.step (h':=s.heap) (g':=s.gens) (d':=s.drawn) (t':=s.toks) (ch:=[D]) (λ b hb=>?_) (λ b o _ _ _ q _=>q) (λ b o _ _ _ q _=>⟨o.slots,q⟩) (λ b o hb q n=>?_) (λ b o _ q=>⟨o,q⟩)
  (λ b xs q=>by rw[ai (ne b _ q)];exact q) (λ b o u q=>by rw[ai (ne b _ q)];exact q) (λ b ps q=>⟨#[],by rw[ai (ne b _ q),q];simp⟩) (λ m hm=>hm) (λ b u q=>?_) I.bare
 .have e:b=D:=by simpa using hb
  subst e;exact⟨f.2.2.2.1,f.2.1,f.2.2.2.2.1,f.2.2.2.2.2⟩
 .rw[ai (λ z=>hb (by simp[z]))];exact n
 .by_cases hb:b=D
  .subst hb;rw[aj] at q;cases q;exact⟨hl,its,n,rv,e⟩
  .rw[ai hb] at q;exact(I.hok b u q).xA (λ _ _ _ q=>q) (λ c r=>by rw[ai (ne c _ r)];exact r) λ c xs r=>by rw[ai (ne c _ r)];exact r
end
section
variable {X:Cx}{pins:PN}{σ:St}{f d:Addr}
theorem ab4{lt:Nat->Nat->Bool}{xs:List V}{us:List Value}(rx:Vals xs us):Vals ((bS lt us.length).map λ i=>xs.getD i .non) ((bS lt us.length).map λ i=>us.getD i Value.none):=by
 have hl:=rx.length;have main:∀ is:List Nat,(∀ i∈is,i<us.length)->Vals (is.map λ i=>xs.getD i .non) (is.map λ i=>us.getD i Value.none):=by
  intro is
  induction is with
  | nil=>intro _;exact .nil
  | cons i is ih =>
   intro hi;refine .cons ?_ (ih λ j hj=>hi j (by simp[hj]));have h1:=hi i (by simp);obtain⟨u,e1,e2⟩:=Vals.get (i:=i) (x:=xs.getD i .non) rx (by simp[List.getD_eq_getElem?_getD,List.getElem?_eq_getElem (show i<xs.length by omega)]);have e3:us.getD i Value.none=u:=by rw[List.getD_eq_getElem?_getD,e1];rfl
   show RelV (xs.getD i .non) (us.getD i Value.none);rw[e3];exact e2
 refine main _ λ i hi=>?_
 simpa using (fw _ _).mem_iff.mp hi
end
open PySem.W (kla_obj kla_fn)
section
variable {X:Cx}{K:FG}
variable {P cd:Addr}{q x:Str}{lpos pos p kpos:Pos}{params:Arguments}{body o:Expr}{sc:Scope}{fr:List Nat}{to tb:TD}{k:Nat}
end
section
variable {X:Cx}{K:FG}
end
open XO
section
variable {X:Cx}{pins:PN}{σ:St}{H:Hp}{s:Shared}{CX:List Env->Hp->Shared->XK->VP}{k:Nat}{f:Addr}{fd:FuncData}{ps:List Str}
end
section
variable {X:Cx}{pos p:Pos}{k:Nat}{f:Addr}{fd:FuncData}{ps:List Str}{sp:SpX}{x:Str}{e:Expr}{es:List Expr}{t:TAd}{E:XE}{d:Int}
end
section
variable {X:Cx}{K:FG}
end
section
variable {X:Cx}{K:FG}
end
section
variable {X:Cx}{o e:Expr}{td te:TD}{apos cpos:Pos}
end
section
variable {X:Cx}{K:FG}
end
def dnT(ks:List Str):Nat->Nat
 | 0=>0
 | i+1=>if ks.getD i "" ∈ ks.take i then dnT ks i else dnT ks i+1
theorem yo(ks:List Str):∀ i,dnT ks i<=i
 | 0=>lr0 _
 | i+1=>by
  have:=yo ks i;unfold dnT
  split<;>omega
theorem ack{ks:List Str}{i:Nat}(hi:i<ks.length)(k:Str):decide (k∈ks.take (i+1))=(decide (k∈ks.take i) || decide (k=ks.getD i "")):=by
 have e:ks.take (i+1)=ks.take i++[ks.getD i ""]:=by rw[List.take_add_one,List.getElem?_eq_getElem hi];simp[List.getD,List.getElem?_eq_getElem hi]
 rw[e];simp
section
variable {prog:Program}{w:World}{A:Around}{R:Result->Shared->Prop}{I:Addr}{fp wr:List Addr}{G:Array GenState->Array GenState->Prop}{ks:List Str}{P:Nat->Value->Prop}{St:Nat->Shared->Prop}
abbrev ada(prog:Program)(w:World)(h:Heap)(S:Addr)(ks:List Str)(i:Nat):Prop:=h.SetOf (strKind prog w) S (λ k=>decide (k∈ks.take i)) (dnT ks i)
theorem zc(Wk:WalksS prog w A.in1 I fp wr G ks.length P St)(S:Addr)(hS:S ∉ fp)(hP:∀ i v,P i v->∃ t,v=.str (ks.getD i "") t)(hb:ks.length+1<scanBound) :
  ∀ (n i:Nat) (s:Shared),i+n=ks.length->St i s->ada prog w s.heap S ks i->(∀ s',Moved (S::wr) G s s'->ada prog w s'.heap S ks ks.length->R (.ok (.ret .none)) s') ->
   codeAny (model prog w) A (.builtin "set.update.loop" ⟨[.ref S,.ref I],[]⟩) R s:=by
 have hw:S ∉ wr:=λ h=>hS (Wk.sub _ h);have up:∀ b∈wr,b∈S::wr:=λ b h=>List.mem_cons_of_mem _ h;have zu:∀ {s s':Shared} {i:Nat},Moved wr G s s'->ada prog w s.heap S ks i->ada prog w s'.heap S ks i:=λ hm h=>by obtain⟨o,es,ep,t,ho,rest⟩:=h;exact⟨o,es,ep,t,hm.heap S _ hw ho,rest⟩
 intro n
 induction n with
 | zero =>
  intro i s hi hst hs k;cases (show i=ks.length by omega);refine codeAny_builtin PyProof.Rows.F.entry_set_update_loop ?_;rw[Around.under_plainId PyProof.Rows.F.plain_set_update_loop _];show wpAny _ A.in1 (pyNext (.ref I) >>= _) _ _ s;exact wb0 (Wk.done s _ _ hst λ s' hm=>wp (k s' (hm.mono up) (zu hm hs)))
 | succ n ih =>
  intro i s hi hst hs k;have hlt:i<ks.length:=by omega
  refine codeAny_builtin PyProof.Rows.F.entry_set_update_loop ?_;rw[Around.under_plainId PyProof.Rows.F.plain_set_update_loop _];show wpAny _ A.in1 (pyNext (.ref I) >>= _) _ _ s;refine wb0 (Wk.item i s _ _ hlt hst λ v s1 hv hst1 hm=>?_);obtain⟨t,rfl⟩:=hP i v hv;have hs1:=zu hm hs;show wpAny _ A.in1 (holding [Value.str (ks.getD i "") t] (setAdd S (.str (ks.getD i "") t)) >>= _) _ _ s1;refine wb0 (wpAny_holding ?_);unfold setAdd;refine wpAny_holding (wb0 ((strKind prog w).pyHash (k:=ks.getD i "") (strKind_is _ _ _ _) ?_));have hroom:dnT ks i+1<scanBound:=by have:=yo ks i;omega
  refine wpAny_setAddHashed_of (knd:=strKind prog w) (s:={s1 with toks:=s1.toks+1}) (strKind_is _ _ _ _) rfl hs1 hroom λ h' hsb hs2=>?_;have hs3:ada prog w h' S ks (i+1):=SetOf_congr hs2 (λ k=>(ack hlt k).symm) (by
   rw[dnT]
   by_cases q:ks.getD i "" ∈ ks.take i
   .rw[if_pos q,if_pos (decide_eq_true q)]
   .rw[if_neg q,if_neg (by simpa using q)])
  refine wp ⟨plainId_quiet PyProof.Rows.F.plain_set_update_loop _,ih (i+1) _ (by omega) (Wk.frame _ s1 _ _ hst1 (Nat.le_succ _) λ b hb o e=>?_) hs3 λ s2 hm2 hf=>?_⟩
  .rw[hsb.2 b λ z=>hS (by rw[<- z];exact hb)];exact e
  .refine k s2 (Moved.trans Wk.gtrans ((hm.mono up).then_heap (Nat.le_succ _) λ b o hb e=>?_) hm2) hf;rw[hsb.2 b λ z=>hb (by rw[z];exact List.mem_cons_self)];exact e
end
section
variable {prog:Program}{w:World}{A:Around}{E:VP}{s:Shared}
abbrev aa7(led:Bool):Obj:={cls:=.type "set",dict:=none,data:=.set #[] 0 (.fresh 0 0 led)}
theorem zJ{l:Addr}{items:Array Value}{ks:List Str}{led:Bool}(hh:A.handled=none)(hl:s.heap.IsList l items)(hn:items.size=ks.length)(hi:∀ (i:Nat) (v:Value),items[i]? =some v->∃ t,v=Value.str (ks.getD i "") t)(hb:ks.length+1<scanBound)
  {Q:VP}(h:∀ (h':Heap) (tk:Nat),ada prog w h' s.heap.objs.size ks ks.length->(∀ b o,b<s.heap.objs.size->s.heap.get? b=some o->h'.get? b=some o)->Q .none {s with heap:=h',toks:=tk}) :
  codeAny (model prog w) A (.call (.builtin "set.__init__") ⟨[.ref s.heap.objs.size,.ref l],[]⟩) (wants Q E) {s with heap:=s.heap.push (aa7 led)}:=by
 have hS:(s.heap.push (aa7 led)).get? s.heap.objs.size=some (aa7 led):=Heap.get?_push_size _ rfl;refine codeAny_call_builtin PySem.F.called_set.init.plain PySem.F.entry_set_init (check_set_init_1 ⟨_,hS,rfl⟩ ?_);obtain⟨⟨ocls,odict,odata,oslots⟩,hol,hcl,nl,hdl⟩:=hl;simp only at hcl hdl;subst hcl hdl;have hol':=Heap.get?_push_of_some (aa7 led) hol;have hsls:=PySem.F.sub_list_set;have hslf:=PySem.F.sub_list_frozenset;have hne:(Value.type "list" == Value.type "dict")=false:=by decide
 have hl1:(s.heap.push (aa7 led)).IsList l items:=⟨_,hol',rfl,nl,rfl⟩;have hlS:l<s.heap.objs.size:=Heap.lt_size hol;unfold Builtin.«set.__init__» noKeywords Builtin.Frozenset.updateFrom;generalize hPI:pyIter=PI
 wp_walk
 subst hPI;refine wpAny_pyIter_list hl1 (wb0 (wpAny_runValue ?_));have hz:(s.heap.push (aa7 led)).objs.size=s.heap.objs.size+1:=Heap.size_push _ _;have h1:l≠(s.heap.push (aa7 led)).objs.size:=by rw[hz];exact Nat.ne_of_lt (Nat.lt_succ_of_lt hlS)
 have h2:s.heap.objs.size ∉ [(s.heap.push (aa7 led)).objs.size,l]:=by rw[hz];simp only[List.mem_cons,List.not_mem_nil,or_false,not_or];exact⟨Nat.ne_of_lt (Nat.lt_succ_self _),Nat.ne_of_gt hlS⟩
 have Wk:=(Walks.list (prog:=prog) (w:=w) (A:=A.in1.in1) (by simp[hh]) _ l h1 items).toS;rw[hn] at Wk;refine zc Wk s.heap.objs.size h2 hi hb ks.length 0 _ (by omega) ?_ ?_ ?_
 .exact⟨⟨_,Heap.get?_push_size _ rfl,rfl,rfl⟩,hl1.push _⟩
 .exact SetOf_congr ((setObjOf_fresh (knd:=strKind prog w) led).setOf (Heap.get?_push_of_some _ hS) (by unfold scanBound;omega)) (λ k=>by simp) rfl
 .intro s' hm hs;obtain⟨h',g',d',tk',os'⟩:=s';have e1:g'=s.gens:=hm.gens;have e2:d'=s.drawn:=hm.drawn;have e3:os'=s.os:=hm.os;subst e1 e2 e3;refine wp (wp (h h' tk' hs λ b o hb e=>?_));refine hm.heap b o ?_ (Heap.get?_push_of_some _ (Heap.get?_push_of_some _ e));simp only[List.mem_cons,List.not_mem_nil,or_false,not_or];exact⟨Nat.ne_of_lt hb,by rw[hz];exact Nat.ne_of_lt (Nat.lt_succ_of_lt hb)⟩
theorem yd{l:Addr}{items:Array Value}{ks:List Str}(hh:A.handled=none)(hl:s.heap.IsList l items)(hn:items.size=ks.length)(hi:∀ (i:Nat) (v:Value),items[i]? =some v->∃ t,v=Value.str (ks.getD i "") t)(hb:ks.length+1<scanBound)
  {Q:VP}(h:∀ (h':Heap) (tk:Nat),ada prog w h' s.heap.objs.size ks ks.length->(∀ b o,b<s.heap.objs.size->s.heap.get? b=some o->h'.get? b=some o)->Q (.ref s.heap.objs.size) {s with heap:=h',toks:=tk}) :
  wpAny (model prog w) A (call (.type "set") [.ref l]) Q E s:=by
 obtain⟨c,tl,hmro⟩:=PySem.F.called_set.mro;have hmade:=PySem.F.called_set.made;have hsub:=PySem.F.called_set.sub;have h1:=PySem.F.called_set.notType;have h2:=PySem.F.called_set.canCreate;have hct:=PySem.F.typeCall_set_1 (.ref l);refine wpAny_call (codeAny_of_tree ?_);show wpAny _ _ (callAny (.type "set") _) _ _ _;refine wp ⟨Code.quiet_builtin _ (by decide +kernel),codeAny_builtin PySem.F.entry_type_call ?_⟩;rw[Around.under_plain (weight_type_call_type "set" [.ref l] []) rfl]
 repeat (any_goals (first | assumption | wp_step))
 refine codeAny_mono (code_set_new_1 (.ref l) (E:=E) (Q₁:=λ x s1=>∃ led:Bool,x=.ref s.heap.objs.size/\s1={s with heap:=s.heap.push (aa7 led)}) λ led=>⟨led,rfl,rfl⟩) λ r s1 hr=>?_
 match r,hr with
 | .ok (.ret _),⟨led,e1,e2⟩ =>
  subst e1 e2;have hT:Shared.TypeIs {s with heap:=s.heap.push (aa7 led)} (.ref s.heap.objs.size) "set":= ⟨_,Heap.get?_push_size _ rfl,rfl⟩;have hli:=PySem.F.called_set.init.lookup;have hbi:=PySem.F.called_set.init.bind (.ref s.heap.objs.size)
  repeat (any_goals (first | assumption | wp_step))
  refine codeAny_mono (zJ (E:=E) (Q:=λ x s2=>x=.none/\∃ h' tk,s2={s with heap:=h',toks:=tk}/\ada prog w h' s.heap.objs.size ks ks.length/\∀ b o,b<s.heap.objs.size->s.heap.get? b=some o->h'.get? b=some o) (by simp[hh]) hl hn hi hb λ h' tk a b=>⟨rfl,h',tk,rfl,a,b⟩) λ r2 s2 hr2=>?_
  match r2,hr2 with
  | .ok (.ret _),⟨e3,h',tk,e4,a,b⟩ =>
   subst e3 e4
   repeat (any_goals (first | assumption | wp_step))
   exact h h' tk a b
  | .error _,q=>exact q
 | .error _,q=>exact q
end
open L2
section
variable {X:Cx}{K:FG}{e:Expr}{to:TE}{td:TD}{p1 p2 pos1 pos2:Pos}
theorem qz:∀ {zs:List Str} {its:List Value},Vals (zs.map V.str) its->∀ (i:Nat) (v:Value),its[i]? =some v->∃ t,v=Value.str (zs.getD i "") t
 | [],_,.nil,i,v,h=>by simp at h
 | z::zs,_,.cons a r,0,v,h=>by obtain⟨t,e⟩:=a;simp only[List.getElem?_cons_zero,Option.some.injEq] at h;exact⟨t,by rw[<- h,e];rfl⟩
 | z::zs,_,.cons a r,i+1,v,h=>by simp only[List.getElem?_cons_succ] at h;obtain⟨t,e⟩:=qz r i v h;exact⟨t,by rw[e];rfl⟩
def afl(Q:V->Hp->Prop)(vs:List V)(H:Hp):Prop:=match vs with
 | [x]=>Q x H
 | _=>False
theorem abN{Q:V->Hp->Prop}{vs:List V}{H:Hp}(h:afl Q vs H):∃ x,vs=[x]/\Q x H:=by
 match vs,h with
 | [x],h=>exact⟨x,rfl,h⟩
def ajE(K:FG)(Q:VK)(x:V)(H1:Hp):Prop:=∃ (a:Addr) (zs:List Str),x=.ref a/\SqL K H1 a (zs.map V.str)/\zs.length<=1000/\Q (.int (dnT zs zs.length:Nat)) H1
def aee(K:FG)(to:TE):TE:=λ σ H Q=>to σ H (ajE K Q)
theorem zW(hc:X.calm=true)(hg1:Gl X "len")(hm1:X.mg "len" = none)(hg2:Gl X "set")(hm2:X.mg "set" = none)(he:PE X e to)(hs:starEach [e] X.env=(false,eval e X.env)::starEach [] X.env:=by rfl)(hpl:(backTo pos2 (starEach [] X.env)).any (·.1)=false:=by rfl) :
  PE X (.Call (.Name "len" p1) [.Call (.Name "set" p2) [e] [] pos2] [] pos1) (aee X.K to):=by
 intro pins s σ H Q I h;refine wpAny_Call_Name_kw (jV I hg1 hm1 (u:=.builtin "len") rfl ?_);refine PyProof.Rows.callWith_builtin1 ?_;show wpAny _ _ (spliced ((false,eval (.Call (.Name "set" p2) [e] [] pos2) X.env)::backTo pos1 (starEach [] X.env))) _ _ s;refine Calls.spliced_cons ?_;refine wpAny_Call_Name_kw (jV I hg2 hm2 (u:=.type "set") rfl ?_);refine PyProof.Rows.callWith_type1 (thn (uc he aan hs pos2 pins s σ H (afl (ajE X.K Q)) I (show zV to adS σ H (afl (ajE X.K Q)) from h)) λ us s1 ⟨vs,H1,I1,r1,q1⟩=>?_) hs hpl;obtain⟨x,rfl,a,zs,rfl,hsq,hl,q⟩:=abN q1;obtain⟨u,rfl,rx⟩:=vals1 r1;cases rx;obtain⟨its,rv,pl,_⟩:=I1.list hsq;have hn:its.toArray.size=zs.length:=by have:=rv.length;simp only[lm] at this;simp only[List.size_toArray];omega
 refine yd (I1.ok.hd hc) pl.isList hn (λ i v hv=>qz rv i v (by simpa using hv)) (by unfold scanBound;omega) λ h' tk hS hk=>?_;have I2:Inv X pins σ H1 {s1 with heap:=h',toks:=tk}:=I1.kept λ b o e=>hk b o (Heap.lt_size e) e;refine Calls.spliced_nil ?_;obtain⟨o,es,ep,t,ho,hex,hd,_,_,_,hf,hz⟩:=hS;have hle:=yo zs zs.length;refine call_len_set ho hex hd hf (by rw[hz];omega) ⟨.int (dnT zs zs.length:Nat),H1,I2.tok _,⟨_,by rw[hz]⟩,q⟩
def iH(td:TD)(τ:DS)(M:MH)(Q:QD):Prop:=td τ M λ w M1=>∃ zs:List Str,abO M1 w (zs.map PyData.str)/\zs.length<=1000/\Q (.d (.int (dnT zs zs.length:Nat))) M1
theorem se{H:Hp}:∀ {zs:List Str} {vs:List V},aX K H (zs.map PyData.str) vs->vs=zs.map V.str
 | [],_,h=>by simp only[List.map_nil,aX] at h;rw[h];rfl
 | z::zs,_,h=>by simp only[List.map_cons,aX] at h;obtain⟨v,vs,rfl,h1,h2⟩:=h;simp only[aB] at h1;rw[h1,se h2];rfl
end
theorem wI{X:Cx}{e:Expr}{td:TD}{p1 p2 pos1 pos2:Pos}(hc:X.calm=true)(hg1:Gl X "len")(hm1:X.mg "len" = none)(hg2:Gl X "set")(hm2:X.mg "set" = none)(he:Jd (PD X e td))(hs:gZ e=false:=by rfl) :
  Jd (PD X (.Call (.Name "len" p1) [.Call (.Name "set" p2) [e] [] pos2] [] pos1) (iH td)):=⟨have he:=he.h;fN (zW hc hg1 hm1 hg2 hm2 he (dY e [] X.env hs)) λ σ H Q hq115=>by
 obtain⟨τ,M,Qd,A,h,k⟩:=hq115;refine⟨τ,M,_,A,h,λ x H1 w M1 kp1 r1 m1 hq116=>?_⟩;obtain⟨zs,g,hl,q⟩:=hq116;obtain⟨a,vs,e1,hsq,ra⟩:=g.sound r1 m1;rw[se ra] at hsq;exact⟨a,zs,e1,hsq,hl,k _ H1 (.d (.int _)) M1 kp1 (by simp[aJ,aB]) m1 q⟩⟩
section
variable {prog:Program}{w:World}{A:Around}{E:VP}{s:Shared}{a₀:Array Keyed}
theorem acv{vs:List Value}{ns:List Int}(h:IntsAre vs ns):∀ (i:Nat) (n:Int),ns[i]? =some n->∃ t,vs[i]? =some (.int n t):=by
 induction h with
 | nil=>intro i n e;simp at e
 | cons _ _ _ ih =>
  intro i n e;cases i with
  | zero=>cases e;exact⟨_,rfl⟩
  | succ i=>exact ih i n (by simpa using e)
theorem zH{vs:List Value}{ns:List Int}(h:IntsAre vs ns):vs.length=ns.length:=by
 induction h with
 | nil=>rfl
 | cons _ _ _ ih=>rw[List.length_cons,List.length_cons,ih]
end
section
variable {X:Cx}{K:FG}
end
local macro_rules | `(tactic| walk_at "op_gallop")=>`(tactic| unfold $(Lean.mkIdent (Lean.mkPrivateNameCore `PySem.Builtin.List.W1All `PySem.Builtin.gallop)):ident)
def fU:Bool->Keyed->Array Keyed->Nat->Nat->Nat->StateT SortSt Sem (Option Nat):=sortPriv% PySem.Builtin.gallop
section
variable {prog:Program}{w:World}{A:Around}{E:VP}{s:Shared}{st:SortSt}
def dX(l:Bool)(k:Keyed)(a:Array Keyed)(i:Nat):StateT SortSt Sem (Option Bool):=do
 let x <- elem' a i
 if l=true then lt' x k else do
  let r <- lt' k x
  pure (r.map (!·))
theorem yJ{l:Bool}{k:Keyed}{a:Array Keyed}{b n p:Nat}(hb:∀ i,i<n->∀ R:Option Bool->SortSt->Prop,R (some (decide (i<p))) st->wpS (model prog w) A E s (dX l k a (b+i)) R st)
  (lo hi:Nat)(h1:lo<=p)(h2:p<=hi)(h3:hi<=n):wpS (model prog w) A E s (forIn [0:n] ((none,lo,hi):Option (Option Nat)×Nat×Nat) λ _ c =>
   if c.2.1 >= c.2.2 then pure (ForInStep.done (none,c.2.1,c.2.2)) else (do
    let x <- dX l k a (b+(c.2.1+(c.2.2-c.2.1) / 2))
    match x with
    | some more=>if more=true then pure (ForInStep.yield (none,c.2.1+(c.2.2-c.2.1) / 2+1,c.2.2)) else pure (ForInStep.yield (none,c.2.1,c.2.1+(c.2.2-c.2.1) / 2))
    | _=>pure (ForInStep.done (some none,c.2.1,c.2.2)))) (λ c t=>t=st/\c=(none,p,p)) st:=by
 refine wpS_forRange (I:=λ x c t=>t=st/\c.1=none/\c.2.1<=p/\p<=c.2.2/\c.2.2<=n/\c.2.2-c.2.1<=n-x) ?_ ?_ ⟨rfl,rfl,h1,h2,h3,by dsimp only;omega⟩
 .rintro x ⟨c1,c2,c3⟩ t _ hx ⟨et,ec,g1,g2,g3,g4⟩;rw[et];clear et t;dsimp only at ec g1 g2 g3 g4 ⊢;subst ec
  by_cases z:c2 >= c3
  .rw[if_pos z];refine wpS_pure ⟨rfl,?_⟩;have e1:c2=p:=by omega
   have e2:c3=p:=by omega
   rw[e1,e2]
  .rw[if_neg z];refine wpS_bind (hb _ (by omega) _ ?_);dsimp only
   by_cases y:c2+(c3-c2) / 2<p
   .rw[decide_eq_true y,if_pos rfl];exact wpS_pure ⟨rfl,rfl,by dsimp only;omega,by dsimp only;omega,by dsimp only;omega,by dsimp only;omega⟩
   .rw[decide_eq_false y,if_neg (by decide)];exact wpS_pure ⟨rfl,rfl,by dsimp only;omega,by dsimp only;omega,by dsimp only;omega,by dsimp only;omega⟩
 .rintro⟨c1,c2,c3⟩ t ⟨et,ec,g1,g2,g3,g4⟩;dsimp only at ec g1 g2 g3 g4;subst ec;refine⟨et,?_⟩;have e1:c2=p:=by omega
  have e2:c3=p:=by omega
  rw[e1,e2]
theorem eO{l:Bool}{k:Keyed}{a:Array Keyed}{b n h p:Nat}{Q:Option Nat->SortSt->Prop}(hh:h<n)(hp:p<=n)
  (hb:∀ i,i<n->∀ R:Option Bool->SortSt->Prop,R (some (decide (i<p))) st->wpS (model prog w) A E s (dX l k a (b+i)) R st)
  (q:Q (some p) st):wpS (model prog w) A E s (fU l k a b n h) Q st:=by
 have fin:∀ lo hi:Nat,lo<=p->p<=hi->hi<=n->wpS (model prog w) A E s (forIn [0:n] ((none,lo,hi):Option (Option Nat)×Nat×Nat) λ _ c =>
   if c.2.1 >= c.2.2 then pure (ForInStep.done (none,c.2.1,c.2.2)) else (do
    let x <- dX l k a (b+(c.2.1+(c.2.2-c.2.1) / 2))
    match x with
    | some more=>if more=true then pure (ForInStep.yield (none,c.2.1+(c.2.2-c.2.1) / 2+1,c.2.2)) else pure (ForInStep.yield (none,c.2.1,c.2.1+(c.2.2-c.2.1) / 2))
    | _=>pure (ForInStep.done (some none,c.2.1,c.2.2)))) (λ c t=>t=st/\c=(none,p,p)) st:=yJ hb
 unfold fU
 walk_at "op_gallop"
 dsimp only;refine wpS_bind (hb h hh _ ?_);dsimp only
 by_cases y:h<p
 .rw[decide_eq_true y,if_pos rfl];refine wpS_bind (wpS_mono (wpS_forRange (I:=λ x c t=>t=st/\c.1=none/\h+c.2.1<p/\c.2.1<c.2.2/\x<=c.2.1+1) (Q:=λ c t=>t=st/\c.1=none/\h+c.2.1<p/\p<=h+min c.2.2 (n-h)) ?_ ?_ ⟨rfl,rfl,by dsimp only;omega,by dsimp only;omega,by dsimp only;omega⟩) ?_)
  .rintro x ⟨c1,c2,c3⟩ t _ hx ⟨et,ec,g1,g2,g3⟩;rw[et];clear et t;dsimp only at ec g1 g2 g3 ⊢;subst ec
   by_cases z:c3 >= n-h
   .rw[if_pos z];exact wpS_pure ⟨rfl,rfl,g1,by dsimp only;omega⟩
   .rw[if_neg z];refine wpS_bind (hb (h+c3) (by omega) _ ?_);dsimp only
    by_cases v:h+c3<p
    .rw[decide_eq_true v,if_neg (by decide)];exact wpS_pure ⟨rfl,rfl,by dsimp only;omega,by dsimp only;omega,by dsimp only;omega⟩
    .rw[decide_eq_false v,if_pos (by decide)];exact wpS_pure ⟨rfl,rfl,g1,by dsimp only;omega⟩
  .rintro⟨c1,c2,c3⟩ t ⟨et,ec,g1,g2,g3⟩;dsimp only at ec g1 g2 g3;exact⟨et,ec,g1,by dsimp only;omega⟩
  .rintro⟨c1,c2,c3⟩ t ⟨et,ec,g1,g2⟩;dsimp only at ec g1 g2 ⊢;rw[et];subst ec;dsimp only;refine wpS_bind (wpS_mono (fin _ _ (by omega) g2 (by omega)) ?_);rintro c t' ⟨et',rfl⟩;rw[et'];exact wpS_pure q
 .rw[decide_eq_false y,if_neg (by decide)];refine wpS_bind (wpS_mono (wpS_forRange (I:=λ x c t=>t=st/\c.1=none/\p<=h-c.2.1/\c.2.1<=h/\c.2.1<c.2.2/\x<=c.2.1+1) (Q:=λ c t=>t=st/\c.1=none/\p<=h-c.2.1/\h+1-min c.2.2 (h+1)<=p) ?_ ?_ ⟨rfl,rfl,by dsimp only;omega,by dsimp only;omega,by dsimp only;omega,by dsimp only;omega⟩) ?_)
  .rintro x ⟨c1,c2,c3⟩ t _ hx ⟨et,ec,g1,g0,g2,g3⟩;rw[et];clear et t;dsimp only at ec g1 g0 g2 g3 ⊢;subst ec
   by_cases z:c3 >= h+1
   .rw[if_pos z];exact wpS_pure ⟨rfl,rfl,g1,by dsimp only;omega⟩
   .rw[if_neg z];refine wpS_bind (hb (h-c3) (by omega) _ ?_);dsimp only
    by_cases v:h-c3<p
    .rw[decide_eq_true v,if_pos rfl];exact wpS_pure ⟨rfl,rfl,g1,by dsimp only;omega⟩
    .rw[decide_eq_false v,if_neg (by decide)];exact wpS_pure ⟨rfl,rfl,by dsimp only;omega,by dsimp only;omega,by dsimp only;omega,by dsimp only;omega⟩
  .rintro⟨c1,c2,c3⟩ t ⟨et,ec,g1,g0,g2,g3⟩;dsimp only at ec g1 g0 g2 g3;exact⟨et,ec,g1,by dsimp only;omega⟩
  .rintro⟨c1,c2,c3⟩ t ⟨et,ec,g1,g2⟩;dsimp only at ec g1 g2 ⊢;rw[et];subst ec;dsimp only;refine wpS_bind (wpS_mono (fin _ _ g2 g1 (by omega)) ?_);rintro c t' ⟨et',rfl⟩;rw[et'];exact wpS_pure q
end
section
variable {α:Type}{bf:α->α->Prop}{as bs out:List α}{ia ib:Nat}
structure Mg(bf:α->α->Prop)(as bs out:List α)(ia ib:Nat):Prop where
 p:(out++(as.drop ia++bs.drop ib)).Perm (as++bs)
 s:out.Pairwise bf
 l:∀ x∈out,∀ y∈as.drop ia++bs.drop ib,bf x y
theorem Mg.start:Mg bf as bs [] 0 0:=⟨by simp,List.Pairwise.nil,λ _ h=>by cases h⟩
theorem pw_cut{as:List α}(h:as.Pairwise bf)(i k:Nat):((as.drop i).take k).Pairwise bf/\∀ x∈(as.drop i).take k,∀ y∈as.drop (i+k),bf x y:=by have h1:(as.drop i).Pairwise bf:=h.drop;rw[<- List.take_append_drop k (as.drop i),List.pairwise_append,List.drop_drop] at h1;exact⟨h1.1,h1.2.2⟩
theorem Mg.jW(h:Mg bf as bs out ia ib)(sa:as.Pairwise bf)(k:Nat)(hx:∀ x∈(as.drop ia).take k,∀ y∈bs.drop ib,bf x y):Mg bf as bs (out++(as.drop ia).take k) (ia+k) ib:=by
 have e:as.drop ia=(as.drop ia).take k++as.drop (ia+k):=by rw[<- List.drop_drop,List.take_append_drop]
 obtain⟨c1,c2⟩:=pw_cut sa ia k;have mem:∀ x∈(as.drop ia).take k,x∈as.drop ia++bs.drop ib:=λ x hx=>List.mem_append_left _ (List.mem_of_mem_take hx);refine⟨?_,?_,λ x hx' y hy=>?_⟩
 .refine List.Perm.trans ?_ h.p;rw[List.append_assoc];refine List.Perm.append_left _ ?_;rw[<- List.append_assoc,<- e]
 .rw[List.pairwise_append];exact⟨h.s,c1,λ x hx y hy=>h.l x hx y (mem y hy)⟩
 .rcases List.mem_append.mp hx' with q | q
  .refine h.l x q y ?_;rcases List.mem_append.mp hy with z | z
   .exact List.mem_append_left _ (by rw[e];exact List.mem_append_right _ z)
   .exact List.mem_append_right _ z
  .rcases List.mem_append.mp hy with z | z
   .exact c2 x q y z
   .exact hx x q y z
theorem Mg.jZ(h:Mg bf as bs out ia ib)(sb:bs.Pairwise bf)(k:Nat)(hx:∀ y∈(bs.drop ib).take k,∀ x∈as.drop ia,bf y x):Mg bf as bs (out++(bs.drop ib).take k) ia (ib+k):=by
 have e:bs.drop ib=(bs.drop ib).take k++bs.drop (ib+k):=by rw[<- List.drop_drop,List.take_append_drop]
 obtain⟨c1,c2⟩:=pw_cut sb ib k;have mem:∀ x∈(bs.drop ib).take k,x∈as.drop ia++bs.drop ib:=λ x hx=>List.mem_append_right _ (List.mem_of_mem_take hx);refine⟨?_,?_,λ x hx' y hy=>?_⟩
 .refine List.Perm.trans ?_ h.p;rw[List.append_assoc];refine List.Perm.append_left _ ?_;refine List.Perm.trans ?_ (List.Perm.append_left _ (List.Perm.of_eq e.symm));rw[<- List.append_assoc,<- List.append_assoc];exact List.Perm.append_right _ List.perm_append_comm
 .rw[List.pairwise_append];exact⟨h.s,c1,λ x hx y hy=>h.l x hx y (mem y hy)⟩
 .rcases List.mem_append.mp hx' with q | q
  .refine h.l x q y ?_;rcases List.mem_append.mp hy with z | z
   .exact List.mem_append_left _ z
   .exact List.mem_append_right _ (by rw[e];exact List.mem_append_right _ z)
  .rcases List.mem_append.mp hy with z | z
   .exact hx x q y z
   .exact c2 x q y z
theorem Mg.done(h:Mg bf as bs out ia ib)(sa:as.Pairwise bf)(sb:bs.Pairwise bf)(hx:∀ x∈as.drop ia,∀ y∈bs.drop ib,bf x y):(out++as.drop ia++bs.drop ib).Pairwise bf/\(out++as.drop ia++bs.drop ib).Perm (as++bs):=by rw[List.append_assoc];refine⟨?_,h.p⟩;rw[List.pairwise_append,List.pairwise_append];exact⟨h.s,⟨sa.drop,sb.drop,hx⟩,h.l⟩
theorem Mg.ahW(h:Mg bf as bs out ia ib)(sa:as.Pairwise bf)(sb:bs.Pairwise bf)(hx:∀ y∈bs.drop ib,∀ x∈as.drop ia,bf y x):(out++bs.drop ib++as.drop ia).Pairwise bf/\(out++bs.drop ib++as.drop ia).Perm (as++bs):=by
 rw[List.append_assoc];refine⟨?_,(List.Perm.append_left _ List.perm_append_comm).trans h.p⟩;rw[List.pairwise_append,List.pairwise_append];refine⟨h.s,⟨sb.drop,sa.drop,hx⟩,λ x q y z=>h.l x q y ?_⟩;rcases List.mem_append.mp z with z | z
 .exact List.mem_append_right _ z
 .exact List.mem_append_left _ z
end
end D
namespace Sw
open D
open L2 S PySem.W
local macro_rules | `(tactic| walk_at "op_setMinGallop")=>`(tactic| unfold $(Lean.mkIdent (Lean.mkPrivateNameCore `PySem.Builtin.List.W1All `PySem.Builtin.setMinGallop)):ident)
def vE:Array Keyed->Array Keyed->StateT SortSt Sem (Array Keyed):=sortPriv% PySem.Builtin.mergeLo
def uU:Array Keyed->Array Keyed->StateT SortSt Sem (Array Keyed):=sortPriv% PySem.Builtin.mergeHi
def aho:Nat->StateT SortSt Sem Unit:=sortPriv% PySem.Builtin.setMinGallop
def ar(it:Array Keyed)(l:List Nat):Array Keyed:=(l.map (kas_item it)).toArray
section
variable {it:Array Keyed}{l m:List Nat}{i k:Nat}
theorem qf:(ar it l).size=l.length:=by simp[ar]
theorem eU:ar it l++ar it m=ar it (l++m):=by simp[ar]
theorem vy:(ar it l).extract i (i+k)=ar it ((l.drop i).take k):=by simp[ar,List.extract_eq_take_drop,List.map_take,List.map_drop]
theorem vN:(ar it l).extract i l.length=ar it (l.drop i):=by simp only[ar,List.size_toArray,List.extract_toArray,List.extract_eq_take_drop,lm,List.map_drop];rw[List.take_of_length_le (by simp)]
theorem tK(h:i<l.length):l.drop i=l.getD i 0::l.drop (i+1):=by rw[List.drop_eq_getElem_cons h,List.getD_eq_getElem?_getD,List.getElem?_eq_getElem h];rfl
theorem bM(h:i<l.length):l.getD i 0∈l:=by rw[List.getD_eq_getElem?_getD,List.getElem?_eq_getElem h];exact List.getElem_mem h
theorem mO{x:Nat}(h:x∈(l.drop i).take k):∃ j,j<k/\i+j<l.length/\x=l.getD (i+j) 0:=by obtain⟨j,hj,e⟩:=List.mem_iff_getElem.mp h;simp only[List.length_take,List.length_drop] at hj;refine⟨j,by omega,by omega,?_⟩;rw[<- e,List.getD_eq_getElem?_getD,List.getElem?_eq_getElem (by omega)];simp
end
section
variable {prog:Program}{w:World}{A:Around}{E:VP}{s:Shared}{st:SortSt}{κ:SortKind}{it:Array Keyed}{lt:Nat->Nat->Bool}{N:Nat}
def fj(prog:Program)(w:World)(A:Around)(s:Shared)(κ:SortKind)(it:Array Keyed)(lt:Nat->Nat->Bool)(N:Nat):Prop:=
 ∀ i j,i<N->j<N->∀ C:Bool->Shared->Prop,C (lt i j) s->kas_cmp prog w A κ it i j C s
theorem oO(hc:fj prog w A s κ it lt N)(hk:kindOf st=κ){i j:Nat}(hi:i<N)(hj:j<N){R:Option Bool->SortSt->Prop}(r:R (some (lt i j)) st):wpS (model prog w) A E s (lt' (kas_item it i) (kas_item it j)) R st:=by rw[lt'_eq];refine wpS_bind (wpS_get ?_);rw[hk];refine wpS_bind (wpS_lift (wpAny_attempt (wpAny_mono (hc i j hi hj (λ c s'=>c=lt i j/\s'=s) ⟨rfl,rfl⟩) (λ c s' hc'=>⟨hc'.2,?_⟩) λ _ _ hF=>hF.elim)));rw[hc'.1];exact wpS_pure r
theorem cQ{l:List Nat}{i:Nat}(hi:i<l.length){Q:Keyed->SortSt->Prop}(q:Q (kas_item it (l.getD i 0)) st):wpS (model prog w) A E s (elem' (ar it l) i) Q st:=by
 rw[elem'_eq];have e:(ar it l)[i]? =some (kas_item it (l.getD i 0)):=by simp[ar,List.getD_eq_getElem?_getD,List.getElem?_eq_getElem hi]
 rw[e];exact wpS_pure q
structure Lk(st st':SortSt):Prop where
 k:kindOf st'=kindOf st
 a:arrOf st'=arrOf st
 p:pendingOf st'=pendingOf st
 f:failedOf st'=failedOf st
theorem Lk.agJ:Lk st st:=⟨rfl,rfl,rfl,rfl⟩
theorem Lk.tr{a b c:SortSt}(h:Lk a b)(q:Lk b c):Lk a c:=⟨q.k.trans h.k,q.a.trans h.a,q.p.trans h.p,q.f.trans h.f⟩
theorem pN{g:Nat}{Q:Unit->SortSt->Prop}(q:∀ st',Lk st st'->Q () st'):wpS (model prog w) A E s (aho g) Q st:=by
 unfold aho
 walk_at "op_setMinGallop"
 exact wpS_modify (q _ ⟨rfl,rfl,rfl,rfl⟩)
theorem aeQ(f:Nat->Bool):∀ n:Nat,(∀ i j,i<j->j<n->f j=true->f i=true)->∃ p,p<=n/\∀ i,i<n->f i=decide (i<p)
 | 0,_=>⟨0,lr0 _,λ i h=>by omega⟩
 | n+1,h=>by
  obtain⟨p,hp,e⟩:=aeQ f n λ i j hij hj=>h i j hij (by omega)
  by_cases z:f n=true
  .refine⟨n+1,lr0 _,λ i hi=>?_⟩;rw[decide_eq_true hi]
   by_cases y:i=n
   .rw[y];exact z
   .exact h i n (by omega) (by omega) z
  .refine⟨p,by omega,λ i hi=>?_⟩
   by_cases y:i=n
   .subst y;rw[decide_eq_false (by omega)]
    simpa using z
   .exact e i (by omega)
end
open L2 S PySem.W
local macro_rules | `(tactic| walk_at "op_mergeLo")=>`(tactic| unfold $(Lean.mkIdent (Lean.mkPrivateNameCore `PySem.Builtin.List.W1All `PySem.Builtin.mergeLo)):ident)
structure Two(lt:Nat->Nat->Bool)(N:Nat)(as bs:List Nat):Prop where
 w:gH lt
 sa:as.Pairwise (B lt)
 sb:bs.Pairwise (B lt)
 cr:∀ x∈as,∀ y∈bs,x<y
 na:∀ x∈as,x<N
 nb:∀ x∈bs,x<N
 a0:0<as.length
 b0:0<bs.length
 fi:lt (bs.getD 0 0) (as.getD 0 0)=true
 la:∀ y∈bs,lt y (as.getD (as.length-1) 0)=true
structure Wm(it:Array Keyed)(lt:Nat->Nat->Bool)(as bs:List Nat)(out:Array Keyed)(ia ib:Nat):Prop where
 ex:∃ o:List Nat,out=ar it o/\Mg (B lt) as bs o ia ib
 ha:ia<as.length
 hb:ib<=bs.length
def Rm(it:Array Keyed)(lt:Nat->Nat->Bool)(as bs:List Nat)(out:Array Keyed):Prop:=∃ o:List Nat,out=ar it o/\o.Pairwise (B lt)/\o.Perm (as++bs)
section
variable {it:Array Keyed}{lt:Nat->Nat->Bool}{N:Nat}{as bs:List Nat}{out:Array Keyed}{ia ib k:Nat}
theorem pw_head{l:List Nat}{i:Nat}(w:gH lt)(h:l.Pairwise (B lt))(hi:i<l.length){y:Nat}(r:B lt y (l.getD i 0)):∀ x∈l.drop i,B lt y x:=by
 have h1:(l.drop i).Pairwise (B lt):=h.drop;rw[tK hi] at h1 ⊢;intro x hx;rcases List.mem_cons.mp hx with e | e
 .rw[e];exact r
 .exact r.tr w (List.rel_of_pairwise_cons h1 e)
theorem pw_at{l:List Nat}(h:l.Pairwise (B lt)){i j:Nat}(hij:i<j)(hj:j<l.length):B lt (l.getD i 0) (l.getD j 0):=by have:=List.pairwise_iff_getElem.mp h i j (by omega) hj hij;rw[List.getD_eq_getElem?_getD,List.getD_eq_getElem?_getD,List.getElem?_eq_getElem hj,List.getElem?_eq_getElem (show i<l.length by omega)];exact this
theorem Wm.jW(t:Two lt N as bs)(h:Wm it lt as bs out ia ib)(hib:ib<bs.length)(hk:ia+k<as.length)(e:∀ j,j<k->lt (bs.getD ib 0) (as.getD (ia+j) 0)=false):Wm it lt as bs (out++(ar it as).extract ia (ia+k)) (ia+k) ib:=by obtain⟨o,rfl,m⟩:=h.ex;refine⟨⟨_,by rw[vy,eU],m.jW t.sa k λ x hx=>?_⟩,hk,h.hb⟩;obtain⟨j,j1,j2,rfl⟩:=mO hx;exact pw_head t.w t.sb hib (B.of_le (e j j1) (t.cr _ (bM j2) _ (bM hib)))
theorem Wm.jZ(t:Two lt N as bs)(h:Wm it lt as bs out ia ib)(hk:ib+k<=bs.length)(e:∀ j,j<k->lt (bs.getD (ib+j) 0) (as.getD ia 0)=true):Wm it lt as bs (out++(ar it bs).extract ib (ib+k)) ia (ib+k):=by obtain⟨o,rfl,m⟩:=h.ex;refine⟨⟨_,by rw[vy,eU],m.jZ t.sb k λ y hy=>?_⟩,h.ha,hk⟩;obtain⟨j,j1,j2,rfl⟩:=mO hy;exact pw_head t.w t.sa h.ha (.inl (e j j1))
theorem xO{l:List Nat}{i:Nat}(h:i<l.length):(ar it l).extract i (i+1) = #[kas_item it (l.getD i 0)]:=by rw[vy,tK h];rfl
theorem Wm.wQ(t:Two lt N as bs)(h:Wm it lt as bs out ia ib)(hib:ib<bs.length)(hk:ia+1<as.length)(e:lt (bs.getD ib 0) (as.getD ia 0)=false):Wm it lt as bs (out.push (kas_item it (as.getD ia 0))) (ia+1) ib:=by
 have:=h.jW (k:=1) t hib hk λ j hj=>by rw[show j=0 by omega];exact e
 rw[xO h.ha] at this;exact this
theorem Wm.wM(t:Two lt N as bs)(h:Wm it lt as bs out ia ib)(hib:ib<bs.length)(e:lt (bs.getD ib 0) (as.getD ia 0)=true):Wm it lt as bs (out.push (kas_item it (bs.getD ib 0))) ia (ib+1):=by
 have:=h.jZ (k:=1) t hib λ j hj=>by rw[show j=0 by omega];exact e
 rw[xO hib] at this;exact this
theorem Wm.done(t:Two lt N as bs)(h:Wm it lt as bs out ia ib)(hib:ib=bs.length):Rm it lt as bs (out++(ar it as).extract ia as.length++(ar it bs).extract ib bs.length):=by obtain⟨o,rfl,m⟩:=h.ex;refine⟨_,by rw[vN,vN,eU,eU],m.done t.sa t.sb λ x _ y hy=>?_⟩;rw[hib] at hy;simp at hy
theorem Wm.last(t:Two lt N as bs)(h:Wm it lt as bs out ia ib)(hia:ia+1=as.length):Rm it lt as bs (out++(ar it bs).extract ib bs.length++(ar it as).extract ia as.length):=by obtain⟨o,rfl,m⟩:=h.ex;refine⟨_,by rw[vN,vN,eU,eU],m.ahW t.sa t.sb λ y hy x hx=>?_⟩;rw[tK h.ha,hia] at hx;simp only[List.drop_length,List.mem_singleton] at hx;rw[hx];have:=t.la y (List.mem_of_mem_drop hy);rw[show as.length-1=ia by omega] at this;exact .inl this
theorem Wm.start(t:Two lt N as bs):Wm it lt as bs #[kas_item it (bs.getD 0 0)] 0 1:=by have:=(Wm.mk ⟨[],rfl,Mg.start⟩ t.a0 (Nat.zero_le _):Wm it lt as bs #[] 0 0).wM t t.b0 t.fi;exact this
end
section
variable {prog:Program}{w:World}{A:Around}{E:VP}{s:Shared}{st:SortSt}{κ:SortKind}{it:Array Keyed}{lt:Nat->Nat->Bool}{N:Nat}{as bs:List Nat}
theorem alK(hc:fj prog w A s κ it lt N)(t:Two lt N as bs)(hk:kindOf st=κ){ia ib:Nat}(h1:ia<as.length)(h2:ib<bs.length){Q:Option Nat->SortSt->Prop}
  (q:∀ k,ia+k<as.length->(∀ j,j<k->lt (bs.getD ib 0) (as.getD (ia+j) 0)=false)->lt (bs.getD ib 0) (as.getD (ia+k) 0)=true->Q (some k) st) :
  wpS (model prog w) A E s (fU false (kas_item it (bs.getD ib 0)) (ar it as) ia (as.length-ia) 0) Q st:=by
 obtain⟨p,p1,p2⟩:=aeQ (λ i=>!lt (bs.getD ib 0) (as.getD (ia+i) 0)) (as.length-ia) λ i j hij hj e=>by
  have e:lt (bs.getD ib 0) (as.getD (ia+j) 0)=false:=by simpa using e
  have:=t.w.tr _ _ _ ((pw_at t.sa (show ia+i<ia+j by omega) (by omega)).le t.w) e;show(!lt (bs.getD ib 0) (as.getD (ia+i) 0))=true;rw[this];rfl
 have hla:lt (bs.getD ib 0) (as.getD (as.length-1) 0)=true:=t.la _ (bM h2);have hp:ia+p<as.length:=by
  have:=p2 (as.length-ia-1) (by omega);rw[show ia+(as.length-ia-1)=as.length-1 by omega,hla] at this;have:¬ (as.length-ia-1<p):=by simpa using this.symm
  omega
 refine eO (p:=p) (by omega) p1 (λ i hi R r=>?_) (q p hp (λ j hj=>?_) ?_)
 .unfold dX;refine wpS_bind (cQ (by omega) ?_);rw[if_neg (by decide)];refine wpS_bind (oO hc hk (t.nb _ (bM h2)) (t.na _ (bM (by omega))) (wpS_pure ?_));have:=p2 i hi;show R (some (!lt (bs.getD ib 0) (as.getD (ia+i) 0))) st;rw[this];exact r
 .have:=p2 j (by omega);rw[decide_eq_true hj] at this
  simpa using this
 .have:=p2 p (by omega);rw[decide_eq_false (Nat.lt_irrefl _)] at this
  simpa using this
theorem alU(hc:fj prog w A s κ it lt N)(t:Two lt N as bs)(hk:kindOf st=κ){ia ib:Nat}(h1:ia<as.length)(h2:ib<bs.length){Q:Option Nat->SortSt->Prop}
  (q:∀ k,ib+k<=bs.length->(∀ j,j<k->lt (bs.getD (ib+j) 0) (as.getD ia 0)=true)->(ib+k<bs.length->lt (bs.getD (ib+k) 0) (as.getD ia 0)=false)->Q (some k) st) :
  wpS (model prog w) A E s (fU true (kas_item it (as.getD ia 0)) (ar it bs) ib (bs.length-ib) 0) Q st:=by
 obtain⟨p,p1,p2⟩:=aeQ (λ i=>lt (bs.getD (ib+i) 0) (as.getD ia 0)) (bs.length-ib) λ i j hij hj e => 
  t.w.agH ((pw_at t.sb (show ib+i<ib+j by omega) (by omega)).le t.w) e
 refine eO (p:=p) (by omega) p1 (λ i hi R r=>?_) (q p (by omega) (λ j hj=>?_) λ hlt=>?_)
 .unfold dX;refine wpS_bind (cQ (by omega) ?_);rw[if_pos rfl];refine oO hc hk (t.nb _ (bM (by omega))) (t.na _ (bM h1)) ?_;have:=p2 i hi;rw[this];exact r
 .have:=p2 j (by omega);rw[this,decide_eq_true hj]
 .have:=p2 p (by omega);rw[this,decide_eq_false (Nat.lt_irrefl _)]
structure Go(it:Array Keyed)(lt:Nat->Nat->Bool)(as bs:List Nat)(st:SortSt)(low:Nat)(out:Array Keyed)(ia ib:Nat)(st':SortSt):Prop where
 lk:Lk st st'
 m:Wm it lt as bs out ia ib
 a:ia+1<as.length
 b:ib<bs.length
 s:low<=ia+ib
def Be(it:Array Keyed)(lt:Nat->Nat->Bool)(as bs:List Nat)(st:SortSt)(low:Nat)(r:Option (Array Keyed))(out:Array Keyed)(ia ib:Nat)(st':SortSt):Prop:=
 (∃ x,r=some x/\Lk st st'/\Rm it lt as bs x)\/(r=none/\Go it lt as bs st low out ia ib st')
theorem pB{α:Type}{m:StateT SortSt Sem α}{Q:α->SortSt->Prop}(h:∀ Q':α->SortSt->Prop,(∀ a t,Q a t->Q' a t)->wpS (model prog w) A E s m Q' st):wpS (model prog w) A E s m Q st:=h Q λ _ _ h=>h
theorem wY(hc:fj prog w A s κ it lt N)(t:Two lt N as bs)(hk:kindOf st=κ){Q:Array Keyed->SortSt->Prop}(q:∀ out st',Lk st st'->Rm it lt as bs out->Q out st') :
  wpS (model prog w) A E s (vE (ar it as) (ar it bs)) Q st:=by
 have b0:=t.b0;have a0:=t.a0;unfold vE
 walk_at "op_mergeLo"
 refine wpS_bind (wpS_lift (wpAny_rule ⟨rfl,?_⟩))
 walk_at "whr"
 refine wpS_bind (cQ t.b0 ?_)
 walk_at "whr"
 simp (config:={zeta:=false,zetaHave:=false}) only[qf]
 split
 .rename_i z
  exact wpS_pure (q _ _ .agJ ((Wm.start t).done t (by simpa using z)))
 .rename_i z
  split
  .rename_i y
   exact wpS_pure (q _ _ .agJ ((Wm.start t).last t (by simpa using y)))
  .rename_i y
   have z:¬ 1=bs.length:=by simpa using z
   have y:¬ 1=as.length:=by simpa using y
   refine wpS_bind (wpS_get ?_)
   walk_at "whr"
   refine wpS_bind (wpS_mono (wpS_forRange (I:=λ x c st'=>c.1=none/\Go it lt as bs st (x+1) c.2.1 c.2.2.1 c.2.2.2.1 st') (Q:=λ c st'=>∃ x,c.1=some x/\Lk st st'/\Rm it lt as bs x) ?_ ?_ ?_) ?_)
   .rintro x ⟨r,out,ia,ib,mg⟩ st1 _ hx ⟨er,G⟩;dsimp only at er G;subst er
    walk_at "whr"
    refine wpS_bind (wpS_mono (wpS_forRange (I:=λ x c st'=>c.1=none/\Go it lt as bs st (ia+ib+x) c.2.1 c.2.2.1 c.2.2.2.1 st') (Q:=λ c st'=>Be it lt as bs st (ia+ib+1) c.1 c.2.1 c.2.2.1 c.2.2.2.1 st') ?_ ?_ ?_) ?_)
    .rintro x2 ⟨r,out,ia2,ib2,ac,bc⟩ st2 _ hx2 ⟨er,G2⟩;dsimp only at er G2;subst er
     walk_at "whr"
     have hk2:kindOf st2=κ:=G2.lk.k.trans hk;refine wpS_bind (cQ G2.b ?_);refine wpS_bind (cQ G2.m.ha ?_);refine wpS_bind (oO hc hk2 (t.nb _ (bM G2.b)) (t.na _ (bM G2.m.ha)) ?_)
     walk_at "whr"
     split
     .rename_i e
      refine wpS_bind (cQ G2.b ?_)
      walk_at "whr"
      have m2:=G2.m.wM t G2.b e
      split
      .rename_i e2
       exact wpS_pure (.inl ⟨_,rfl,G2.lk,m2.done t (by simpa using e2)⟩)
      .rename_i e2
       have e2:¬ ib2+1=bs.length:=by simpa using e2
       have G3:Go it lt as bs st (ia+ib+(x2+1)) _ ia2 (ib2+1) st2:=⟨G2.lk,m2,G2.a,by have:=G2.b;omega,by have:=G2.s;omega⟩
       split
       .exact wpS_pure (.inr ⟨rfl,G3.lk,G3.m,G3.a,G3.b,by have:=G3.s;dsimp only;omega⟩)
       .exact wpS_pure ⟨rfl,G3⟩
     .rename_i e
      refine wpS_bind (cQ G2.m.ha ?_)
      walk_at "whr"
      have m2:=G2.m.wQ t G2.b G2.a (by simpa using e)
      split
      .rename_i e2
       exact wpS_pure (.inl ⟨_,rfl,G2.lk,m2.last t (by simpa using e2)⟩)
      .rename_i e2
       have e2:¬ ia2+1+1=as.length:=by simpa using e2
       have G3:Go it lt as bs st (ia+ib+(x2+1)) _ (ia2+1) ib2 st2:=⟨G2.lk,m2,by have:=G2.a;omega,G2.b,by have:=G2.s;omega⟩
       split
       .exact wpS_pure (.inr ⟨rfl,G3.lk,G3.m,G3.a,G3.b,by have:=G3.s;dsimp only;omega⟩)
       .exact wpS_pure ⟨rfl,G3⟩
    .rintro⟨r,out,ia2,ib2,ac,bc⟩ st2 ⟨er,G2⟩;exact .inr ⟨er,G2.lk,G2.m,G2.a,G2.b,by have:=G2.s;dsimp only at this ⊢;omega⟩
    .exact⟨rfl,G.lk,G.m,G.a,G.b,lr0 _⟩
    .rintro⟨r,out,ia2,ib2,ac,bc⟩ st2 hB;dsimp only[Be] at hB
     walk_at "whr"
     rcases hB with ⟨v,rfl,lk,rm⟩ | ⟨rfl,G2⟩
     .exact wpS_pure ⟨v,rfl,lk,rm⟩
     walk_at "whr"
     refine wpS_bind (wpS_lift (wpAny_rule ⟨rfl,?_⟩))
     walk_at "whr"
     refine wpS_bind (wpS_mono (wpS_forRange (I:=λ x c st'=>c.1=none/\Go it lt as bs st (ia+ib+1) c.2.1 c.2.2.1 c.2.2.2.1 st') (Q:=λ c st'=>Be it lt as bs st (ia+ib+1) c.1 c.2.1 c.2.2.1 c.2.2.2.1 st') ?_ ?_ ⟨rfl,G2⟩) ?_)
     .clear G2;rintro x2 ⟨r,out,ia2,ib2,mg,ac,bc⟩ st2 _ hx2 ⟨er,G2⟩;dsimp only at er G2;subst er
      walk_at "whr"
      refine pB λ Q' q'=>?_
      extract_lets +onlyGivenNames -underBinder -merge jp
      have hjp:∀ u g,wpS (model prog w) A E s (jp u g) Q' st2:=by
       intro u g;unfold jp
       walk_at "whr"
       refine wpS_bind (pN λ st3 lk3=>?_);have G3:Go it lt as bs st (ia+ib+1) out ia2 ib2 st3:=⟨G2.lk.tr lk3,G2.m,G2.a,G2.b,G2.s⟩;clear G2;have hk3:kindOf st3=κ:=G3.lk.k.trans hk;refine wpS_bind (cQ G3.b ?_);refine wpS_bind (alK hc t hk3 G3.m.ha G3.b λ k k1 k2 k3=>?_)
       walk_at "whr"
       extract_lets +onlyGivenNames -underBinder -merge jp
       have hjp:∀ u out ia2,Go it lt as bs st (ia+ib+1) out ia2 ib2 st3->lt (bs.getD ib2 0) (as.getD ia2 0)=true->wpS (model prog w) A E s (jp u out ia2) Q' st3:=by
        clear k1 k2 k3 G3;intro u out ia2 G3 k3;unfold jp
        walk_at "whr"
        refine wpS_bind (cQ G3.b ?_)
        walk_at "whr"
        have m4:=G3.m.wM t G3.b k3
        split
        .rename_i e2
         exact wpS_pure (q' _ _ (.inl ⟨_,rfl,G3.lk,m4.done t (by simpa using e2)⟩))
        .rename_i e2
         have e2:¬ ib2+1=bs.length:=by simpa using e2
         have b4:ib2+1<bs.length:=by have:=G3.b;omega
         refine wpS_bind (cQ G3.m.ha ?_);refine wpS_bind (alU hc t hk3 G3.m.ha b4 λ k' k1' k2' k3'=>?_)
         walk_at "whr"
         extract_lets +onlyGivenNames -underBinder -merge jp
         have hjp:∀ u out ib3,Wm it lt as bs out ia2 ib3->ib2<=ib3->ib3<bs.length->lt (bs.getD ib3 0) (as.getD ia2 0)=false->wpS (model prog w) A E s (jp u out ib3) Q' st3:=by
          intro u out ib3 m5 h5 b5 e5;unfold jp
          walk_at "whr"
          refine wpS_bind (cQ G3.m.ha ?_)
          walk_at "whr"
          have m6:=m5.wQ t b5 G3.a e5
          split
          .rename_i e2
           exact wpS_pure (q' _ _ (.inl ⟨_,rfl,G3.lk,m6.last t (by simpa using e2)⟩))
          .rename_i e2
           have e2:¬ ia2+1+1=as.length:=by simpa using e2
           have G6:Go it lt as bs st (ia+ib+1) _ (ia2+1) ib3 st3:=⟨G3.lk,m6,by have:=G3.a;omega,b5,by have:=G3.s;omega⟩
           split
           .exact wpS_pure (q' _ _ (.inr ⟨rfl,G6⟩))
           .exact wpS_pure (q' _ _ ⟨rfl,G6⟩)
         clear_value jp
         split
         .walk_at "whr"
          have m5:=m4.jZ t k1' k2'
          split
          .rename_i e5
           exact wpS_pure (q' _ _ (.inl ⟨_,rfl,G3.lk,m5.done t (by simpa using e5)⟩))
          .rename_i e5
           have e5:¬ ib2+1+k'=bs.length:=by simpa using e5
           have b5:ib2+1+k'<bs.length:=by omega
           exact hjp _ _ _ m5 (by omega) b5 (k3' b5)
         .rename_i e5
          have e5:k'=0:=by omega
          subst e5;exact hjp _ _ _ m4 (by omega) b4 (k3' b4)
       clear_value jp
       split
       .walk_at "whr"
        have m4:=G3.m.jW t G3.b k1 k2
        split
        .rename_i e5
         exact wpS_pure (q' _ _ (.inl ⟨_,rfl,G3.lk,m4.last t (by simpa using e5)⟩))
        .rename_i e5
         have e5:¬ ia2+k+1=as.length:=by simpa using e5
         split
         .rename_i e6
          have e6:ia2+k=as.length:=by simpa using e6
          omega
         .exact hjp _ _ _ ⟨G3.lk,m4,by omega,G3.b,by have:=G3.s;omega⟩ k3
       .rename_i e5
        have e5:k=0:=by omega
        subst e5;exact hjp _ _ _ G3 k3
      clear_value jp
      split
      .walk_at "whr"
       exact hjp _ _
      .exact hjp _ _
     .rintro⟨r,out,ia2,ib2,mg,ac,bc⟩ st2 ⟨er,G2⟩;exact .inr ⟨er,G2⟩
     .rintro⟨r,out,ia2,ib2,mg,ac,bc⟩ st2 hB;dsimp only[Be] at hB
      walk_at "whr"
      rcases hB with ⟨v,rfl,lk,rm⟩ | ⟨rfl,G2⟩
      .exact wpS_pure ⟨v,rfl,lk,rm⟩
      walk_at "whr"
      refine wpS_bind (pN λ st3 lk3=>?_);exact wpS_pure ⟨rfl,G2.lk.tr lk3,G2.m,G2.a,G2.b,by have:=G2.s;have:=G.s;dsimp only;omega⟩
   .rintro⟨r,out,ia2,ib2,mg⟩ st2 ⟨er,G2⟩
    exfalso
    have:=G2.a;have:=G2.b;have:=G2.s;dsimp only at *;omega
   .exact⟨rfl,.agJ,Wm.start t,by dsimp only;omega,by dsimp only;omega,by dsimp only;omega⟩
   .rintro⟨r,out,ia2,ib2,mg⟩ st2 ⟨v,er,lk,rm⟩;dsimp only at er;subst er
    walk_at "whr"
    exact wpS_pure (q _ _ lk rm)
end
open L2 S PySem.W
local macro_rules | `(tactic| walk_at "op_mergeHi")=>`(tactic| unfold $(Lean.mkIdent (Lean.mkPrivateNameCore `PySem.Builtin.List.W1All `PySem.Builtin.mergeHi)):ident)
section
variable {it:Array Keyed}{l:List Nat}{i k:Nat}
theorem vp:(ar it l).reverse=ar it l.reverse:=by simp[ar]
theorem kP:(ar it l).extract i k=ar it ((l.take k).drop i):=by simp[ar,List.extract_eq_drop_take,List.map_take,List.map_drop,List.drop_take]
theorem eI(h:k<=l.length):l.reverse.drop (l.length-k)=(l.take k).reverse:=by rw[List.reverse_take]
theorem oP(h:k<=l.length)(hi:i<=k):(l.reverse.drop (l.length-k)).take (k-i)=((l.take k).drop i).reverse:=by rw[eI h,List.reverse_drop,List.length_take,Nat.min_eq_left h]
theorem mem_mid{x:Nat}(h:x∈(l.take k).drop i):∃ j,i<=j/\j<k/\j<l.length/\x=l.getD j 0:=by obtain⟨j,hj,e⟩:=List.mem_iff_getElem.mp h;simp only[List.length_take,List.length_drop] at hj;refine⟨i+j,by omega,by omega,by omega,?_⟩;rw[<- e,List.getD_eq_getElem?_getD,List.getElem?_eq_getElem (by omega)];simp
end
structure Wh(it:Array Keyed)(lt:Nat->Nat->Bool)(as bs:List Nat)(out:Array Keyed)(na nb:Nat):Prop where
 ex:∃ o:List Nat,out=ar it o/\Mg (λ x y=>B lt y x) as.reverse bs.reverse o (as.length-na) (bs.length-nb)
 ha:na<=as.length
 hb:0<nb
 hb':nb<=bs.length
section
variable {it:Array Keyed}{lt:Nat->Nat->Bool}{N:Nat}{as bs:List Nat}{out:Array Keyed}{na nb k:Nat}
theorem pw_le{l:List Nat}{i j:Nat}(w:gH lt)(h:l.Pairwise (B lt))(hij:i<=j)(hj:j<l.length){y:Nat}(r:B lt (l.getD j 0) y):B lt (l.getD i 0) y:=by
 by_cases e:i=j
 .rw[e];exact r
 .exact(pw_at h (by omega) hj).tr w r
theorem Wh.jW(t:Two lt N as bs)(h:Wh it lt as bs out na nb)(hk:k<=na)(e:∀ j,k<=j->j<na->lt (bs.getD (nb-1) 0) (as.getD j 0)=true):Wh it lt as bs (out++((ar it as).extract k na).reverse) k nb:=by
 obtain⟨o,rfl,m⟩:=h.ex;have h1:=h.ha;have h2:=h.hb;have h3:=h.hb';refine⟨⟨_,by rw[kP,vp,eU],?_⟩,by omega,h.hb,h.hb'⟩;have:=m.jW (List.pairwise_reverse.mpr t.sa) (na-k) λ x hx y hy=>?_
 .rw[oP h.ha hk,show as.length-na+(na-k)=as.length-k by omega] at this;exact this
 .rw[oP h.ha hk] at hx;rw[eI h.hb'] at hy;obtain⟨j,j1,j2,j3,rfl⟩:=mem_mid (List.mem_reverse.mp hx);obtain⟨i,i1,i2,i3,rfl⟩:=mem_mid (i:=0) (by simpa using hy);exact pw_le t.w t.sb (show i<=nb-1 by omega) (by omega) (.inl (e j j1 j2))
theorem Wh.jZ(t:Two lt N as bs)(h:Wh it lt as bs out na nb)(hk:k<=nb)(hk0:0<k)(hna:0<na)(e:∀ j,k<=j->j<nb->lt (bs.getD j 0) (as.getD (na-1) 0)=false):Wh it lt as bs (out++((ar it bs).extract k nb).reverse) na k:=by
 obtain⟨o,rfl,m⟩:=h.ex;have h1:=h.ha;have h2:=h.hb;have h3:=h.hb';refine⟨⟨_,by rw[kP,vp,eU],?_⟩,h.ha,hk0,by omega⟩;have:=m.jZ (List.pairwise_reverse.mpr t.sb) (nb-k) λ y hy x hx=>?_
 .rw[oP h.hb' hk,show bs.length-nb+(nb-k)=bs.length-k by omega] at this;exact this
 .rw[oP h.hb' hk] at hy;rw[eI h.ha] at hx;obtain⟨j,j1,j2,j3,rfl⟩:=mem_mid (List.mem_reverse.mp hy);obtain⟨i,i1,i2,i3,rfl⟩:=mem_mid (i:=0) (by simpa using hx);exact pw_le t.w t.sa (show i<=na-1 by omega) (by omega) (B.of_le (e j j1 j2) (t.cr _ (bM (by omega)) _ (bM j3)))
theorem yG{l:List Nat}{i:Nat}(h0:0<i)(h:i<=l.length):((ar it l).extract (i-1) i).reverse = #[kas_item it (l.getD (i-1) 0)]:=by have:=xO (it:=it) (l:=l) (i:=i-1) (by omega);rw[show i-1+1=i by omega] at this;rw[this];rfl
theorem Wh.wQ(t:Two lt N as bs)(h:Wh it lt as bs out na nb)(hna:0<na)(e:lt (bs.getD (nb-1) 0) (as.getD (na-1) 0)=true):Wh it lt as bs (out.push (kas_item it (as.getD (na-1) 0))) (na-1) nb:=by
 have:=h.jW (k:=na-1) t (by omega) λ j j1 j2=>by rw[show j=na-1 by omega];exact e
 rw[yG hna h.ha] at this;exact this
theorem Wh.wM(t:Two lt N as bs)(h:Wh it lt as bs out na nb)(hna:0<na)(hnb:1<nb)(e:lt (bs.getD (nb-1) 0) (as.getD (na-1) 0)=false):Wh it lt as bs (out.push (kas_item it (bs.getD (nb-1) 0))) na (nb-1):=by
 have:=h.jZ (k:=nb-1) t (by omega) (by omega) hna λ j j1 j2=>by rw[show j=nb-1 by omega];exact e
 rw[yG h.hb h.hb'] at this;exact this
theorem acZ{X:List Nat}(h:X.Pairwise λ x y=>B lt y x)(p:X.Perm (as.reverse++bs.reverse)){out:Array Keyed}(e:out=ar it X.reverse):Rm it lt as bs out:=
 ⟨_,e,List.pairwise_reverse.mpr h,(List.reverse_perm X).trans (p.trans ((List.reverse_perm as).append (List.reverse_perm bs)))⟩
theorem Wh.done(t:Two lt N as bs)(h:Wh it lt as bs out na nb)(hna:na=0):Rm it lt as bs ((ar it as).extract 0 na++(ar it bs).extract 0 nb++out.reverse):=by
 obtain⟨o,rfl,m⟩:=h.ex;obtain⟨p1,p2⟩:=m.ahW (List.pairwise_reverse.mpr t.sa) (List.pairwise_reverse.mpr t.sb) λ y _ x hx=>by rw[hna,eI (Nat.zero_le _)] at hx;simp at hx
 rw[eI h.ha,eI h.hb'] at p1 p2;refine acZ p1 p2 ?_;rw[kP,kP,vp,eU,eU];simp
theorem Wh.last(t:Two lt N as bs)(h:Wh it lt as bs out na nb)(hnb:nb=1):Rm it lt as bs ((ar it bs).extract 0 nb++(ar it as).extract 0 na++out.reverse):=by
 obtain⟨o,rfl,m⟩:=h.ex;obtain⟨p1,p2⟩:=m.done (List.pairwise_reverse.mpr t.sa) (List.pairwise_reverse.mpr t.sb) λ x hx y hy=>by rw[eI h.ha] at hx;rw[eI h.hb'] at hy;obtain⟨j,j1,j2,j3,rfl⟩:=mem_mid (i:=0) (by simpa using hx);obtain⟨i,i1,i2,i3,rfl⟩:=mem_mid (i:=0) (by simpa using hy);rw[show i=0 by omega];refine pw_head (i:=0) t.w t.sa t.a0 (.inl t.fi) _ ?_;rw[List.drop_zero];exact bM j3
 rw[eI h.ha,eI h.hb'] at p1 p2;refine acZ p1 p2 ?_;rw[kP,kP,vp,eU,eU];simp
theorem Wh.start(t:Two lt N as bs):Wh it lt as bs #[kas_item it (as.getD (as.length-1) 0)] (as.length-1) bs.length:=by have:=(Wh.mk ⟨[],rfl,by rw[Nat.sub_self,Nat.sub_self];exact Mg.start⟩ (lr0 _) t.b0 (lr0 _):Wh it lt as bs #[] as.length bs.length).wQ t t.a0 (t.la _ (bM (by have:=t.b0;omega)));exact this
end
section
variable {prog:Program}{w:World}{A:Around}{E:VP}{s:Shared}{st:SortSt}{κ:SortKind}{it:Array Keyed}{lt:Nat->Nat->Bool}{N:Nat}{as bs:List Nat}
theorem akQ(hc:fj prog w A s κ it lt N)(t:Two lt N as bs)(hk:kindOf st=κ){na nb:Nat}(h1:0<na)(h1':na<=as.length)(h2:nb<bs.length){Q:Option Nat->SortSt->Prop}
  (q:∀ k,k<=na->(∀ j,k<=j->j<na->lt (bs.getD nb 0) (as.getD j 0)=true)->(0<k->lt (bs.getD nb 0) (as.getD (k-1) 0)=false)->Q (some k) st) :
  wpS (model prog w) A E s (fU false (kas_item it (bs.getD nb 0)) (ar it as) 0 na (na-1)) Q st:=by
 obtain⟨p,p1,p2⟩:=aeQ (λ i=>!lt (bs.getD nb 0) (as.getD (0+i) 0)) na λ i j hij hj e=>by
  have e:lt (bs.getD nb 0) (as.getD (0+j) 0)=false:=by simpa using e
  have:=t.w.tr _ _ _ ((pw_at t.sa (show 0+i<0+j by omega) (by omega)).le t.w) e;show(!lt (bs.getD nb 0) (as.getD (0+i) 0))=true;rw[this];rfl
 refine eO (p:=p) (by omega) p1 (λ i hi R r=>?_) (q p p1 (λ j hj hj2=>?_) λ hp=>?_)
 .unfold dX;refine wpS_bind (cQ (by omega) ?_);rw[if_neg (by decide)];refine wpS_bind (oO hc hk (t.nb _ (bM h2)) (t.na _ (bM (by omega))) (wpS_pure ?_));have:=p2 i hi;show R (some (!lt (bs.getD nb 0) (as.getD (0+i) 0))) st;rw[this];exact r
 .have:=p2 j hj2;rw[decide_eq_false (by omega),Nat.zero_add] at this
  simpa using this
 .have:=p2 (p-1) (by omega);rw[decide_eq_true (by omega),Nat.zero_add] at this
  simpa using this
theorem ajR(hc:fj prog w A s κ it lt N)(t:Two lt N as bs)(hk:kindOf st=κ){na nb:Nat}(h1:na<as.length)(h2:0<nb)(h2':nb<=bs.length){Q:Option Nat->SortSt->Prop}
  (q:∀ k,0<k->k<=nb->(∀ j,k<=j->j<nb->lt (bs.getD j 0) (as.getD na 0)=false)->lt (bs.getD (k-1) 0) (as.getD na 0)=true->Q (some k) st) :
  wpS (model prog w) A E s (fU true (kas_item it (as.getD na 0)) (ar it bs) 0 nb (nb-1)) Q st:=by
 obtain⟨p,p1,p2⟩:=aeQ (λ i=>lt (bs.getD (0+i) 0) (as.getD na 0)) nb λ i j hij hj e => 
  t.w.agH ((pw_at t.sb (show 0+i<0+j by omega) (by omega)).le t.w) e
 have hp:0<p:=by
  have h0:lt (bs.getD 0 0) (as.getD na 0)=true:=by
   by_cases e:na=0
   .rw[e];exact t.fi
   .exact t.w.ab1 t.fi ((pw_at t.sa (show 0<na by omega) h1).le t.w)
  have:=p2 0 h2;rw[Nat.zero_add,h0] at this
  simpa using this.symm
 refine eO (p:=p) (by omega) p1 (λ i hi R r=>?_) (q p hp p1 (λ j hj hj2=>?_) ?_)
 .unfold dX;refine wpS_bind (cQ (by omega) ?_);rw[if_pos rfl];refine oO hc hk (t.nb _ (bM (by omega))) (t.na _ (bM h1)) ?_;have:=p2 i hi;rw[this];exact r
 .have:=p2 j hj2;rw[decide_eq_false (by omega),Nat.zero_add] at this;exact this
 .have:=p2 (p-1) (by omega);rw[decide_eq_true (by omega),Nat.zero_add] at this;exact this
structure Gh(it:Array Keyed)(lt:Nat->Nat->Bool)(as bs:List Nat)(st:SortSt)(low:Nat)(out:Array Keyed)(na nb:Nat)(st':SortSt):Prop where
 lk:Lk st st'
 m:Wh it lt as bs out na nb
 a:0<na
 b:1<nb
 s:low+na+nb<=as.length+bs.length
def Bh(it:Array Keyed)(lt:Nat->Nat->Bool)(as bs:List Nat)(st:SortSt)(low:Nat)(r:Option (Array Keyed))(out:Array Keyed)(na nb:Nat)(st':SortSt):Prop:=
 (∃ x,r=some x/\Lk st st'/\Rm it lt as bs x)\/(r=none/\Gh it lt as bs st low out na nb st')
theorem wu(hc:fj prog w A s κ it lt N)(t:Two lt N as bs)(hk:kindOf st=κ){Q:Array Keyed->SortSt->Prop}(q:∀ out st',Lk st st'->Rm it lt as bs out->Q out st') :
  wpS (model prog w) A E s (uU (ar it as) (ar it bs)) Q st:=by
 have b0:=t.b0;have a0:=t.a0;unfold uU
 walk_at "op_mergeHi"
 refine wpS_bind (wpS_lift (wpAny_rule ⟨rfl,?_⟩))
 walk_at "whr"
 simp (config:={zeta:=false,zetaHave:=false}) only[qf];refine wpS_bind (cQ (by omega) ?_)
 walk_at "whr"
 split
 .rename_i z
  exact wpS_pure (q _ _ .agJ ((Wh.start t).done t (by simpa using z)))
 .rename_i z
  split
  .rename_i y
   exact wpS_pure (q _ _ .agJ ((Wh.start t).last t (by simpa using y)))
  .rename_i y
   have z:¬ as.length-1=0:=by simpa using z
   have y:¬ bs.length=1:=by simpa using y
   refine wpS_bind (wpS_get ?_)
   walk_at "whr"
   refine wpS_bind (wpS_mono (wpS_forRange (I:=λ x c st'=>c.1=none/\Gh it lt as bs st (x+1) c.2.2.2.1 c.2.1 c.2.2.1 st') (Q:=λ c st'=>∃ x,c.1=some x/\Lk st st'/\Rm it lt as bs x) ?_ ?_ ?_) ?_)
   .rintro x ⟨r,na,nb,out,mg⟩ st1 _ hx ⟨er,G⟩;dsimp only at er G;subst er
    walk_at "whr"
    have Ga:=G.m.ha;have Gb:=G.m.hb';refine wpS_bind (wpS_mono (wpS_forRange (I:=λ x c st'=>c.1=none/\Gh it lt as bs st (as.length+bs.length-na-nb+x) c.2.2.2.1 c.2.1 c.2.2.1 st') (Q:=λ c st'=>Bh it lt as bs st (as.length+bs.length-na-nb+1) c.1 c.2.2.2.1 c.2.1 c.2.2.1 st') ?_ ?_ ?_) ?_)
    .rintro x2 ⟨r,na2,nb2,out,ac,bc⟩ st2 _ hx2 ⟨er,G2⟩;dsimp only at er G2;subst er
     walk_at "whr"
     have hk2:kindOf st2=κ:=G2.lk.k.trans hk;have ha:=G2.a;have hb:=G2.b;have ha':=G2.m.ha;have hb':=G2.m.hb';have hs:=G2.s;refine wpS_bind (cQ (by omega) ?_);refine wpS_bind (cQ (by omega) ?_);refine wpS_bind (oO hc hk2 (t.nb _ (bM (by omega))) (t.na _ (bM (by omega))) ?_)
     walk_at "whr"
     split
     .rename_i e
      walk_at "whr"
      refine wpS_bind (cQ (by omega) ?_)
      walk_at "whr"
      have m2:=G2.m.wQ t G2.a e
      split
      .rename_i e2
       exact wpS_pure (.inl ⟨_,rfl,G2.lk,m2.done t (by simpa using e2)⟩)
      .rename_i e2
       have e2:¬ na2-1=0:=by simpa using e2
       have G3:Gh it lt as bs st (as.length+bs.length-na-nb+(x2+1)) _ (na2-1) nb2 st2:=⟨G2.lk,m2,by omega,G2.b,by omega⟩
       split
       .exact wpS_pure (.inr ⟨rfl,G3.lk,G3.m,G3.a,G3.b,by dsimp only;omega⟩)
       .exact wpS_pure ⟨rfl,G3⟩
     .rename_i e
      walk_at "whr"
      refine wpS_bind (cQ (by omega) ?_)
      walk_at "whr"
      have m2:=G2.m.wM t G2.a G2.b (by simpa using e)
      split
      .rename_i e2
       exact wpS_pure (.inl ⟨_,rfl,G2.lk,m2.last t (by simpa using e2)⟩)
      .rename_i e2
       have e2:¬ nb2-1=1:=by simpa using e2
       have G3:Gh it lt as bs st (as.length+bs.length-na-nb+(x2+1)) _ na2 (nb2-1) st2:=⟨G2.lk,m2,G2.a,by omega,by omega⟩
       split
       .exact wpS_pure (.inr ⟨rfl,G3.lk,G3.m,G3.a,G3.b,by dsimp only;omega⟩)
       .exact wpS_pure ⟨rfl,G3⟩
    .rintro⟨r,na2,nb2,out,ac,bc⟩ st2 ⟨er,G2⟩;exact .inr ⟨er,G2.lk,G2.m,G2.a,G2.b,by have:=G2.s;dsimp only at this ⊢;omega⟩
    .exact⟨rfl,G.lk,G.m,G.a,G.b,by dsimp only;omega⟩
    .rintro⟨r,na2,nb2,out,ac,bc⟩ st2 hB;dsimp only[Bh] at hB
     walk_at "whr"
     rcases hB with ⟨v,rfl,lk,rm⟩ | ⟨rfl,G2⟩
     .exact wpS_pure ⟨v,rfl,lk,rm⟩
     walk_at "whr"
     refine wpS_bind (wpS_lift (wpAny_rule ⟨rfl,?_⟩))
     walk_at "whr"
     refine wpS_bind (wpS_mono (wpS_forRange (I:=λ x c st'=>c.1=none/\Gh it lt as bs st (as.length+bs.length-na-nb+1) c.2.2.2.1 c.2.1 c.2.2.1 st') (Q:=λ c st'=>Bh it lt as bs st (as.length+bs.length-na-nb+1) c.1 c.2.2.2.1 c.2.1 c.2.2.1 st') ?_ ?_ ⟨rfl,G2⟩) ?_)
     .clear G2;rintro x2 ⟨r,na2,nb2,out,mg,ac,bc⟩ st2 _ hx2 ⟨er,G2⟩;dsimp only at er G2;subst er
      walk_at "whr"
      refine pB λ Q' q'=>?_
      extract_lets +onlyGivenNames -underBinder -merge jp
      have hjp:∀ u g,wpS (model prog w) A E s (jp u g) Q' st2:=by
       intro u g;unfold jp
       walk_at "whr"
       refine wpS_bind (pN λ st3 lk3=>?_);have G3:Gh it lt as bs st (as.length+bs.length-na-nb+1) out na2 nb2 st3:=⟨G2.lk.tr lk3,G2.m,G2.a,G2.b,G2.s⟩;clear G2;have hk3:kindOf st3=κ:=G3.lk.k.trans hk;have b3:=G3.b;have b3':=G3.m.hb';refine wpS_bind (cQ (by omega) ?_);refine wpS_bind (akQ hc t hk3 G3.a G3.m.ha (by omega) λ k k1 k2 k3=>?_)
       walk_at "whr"
       extract_lets +onlyGivenNames -underBinder -merge jp
       have hjp:∀ u na2 out,Gh it lt as bs st (as.length+bs.length-na-nb+1) out na2 nb2 st3->lt (bs.getD (nb2-1) 0) (as.getD (na2-1) 0)=false->wpS (model prog w) A E s (jp u na2 out) Q' st3:=by
        clear k1 k2 k3 G3;intro u na2 out G3 k3;unfold jp
        walk_at "whr"
        have a3:=G3.a;have a3':=G3.m.ha;have s3:=G3.s;refine wpS_bind (cQ (by omega) ?_)
        walk_at "whr"
        have m4:=G3.m.wM t G3.a G3.b k3
        split
        .rename_i e2
         exact wpS_pure (q' _ _ (.inl ⟨_,rfl,G3.lk,m4.last t (by simpa using e2)⟩))
        .rename_i e2
         have e2:¬ nb2-1=1:=by simpa using e2
         refine wpS_bind (cQ (by omega) ?_);refine wpS_bind (ajR hc t hk3 (show na2-1<as.length by omega) (show 0<nb2-1 by omega) (by omega) λ k' k0' k1' k2' k3'=>?_)
         walk_at "whr"
         extract_lets +onlyGivenNames -underBinder -merge jp
         have hjp:∀ u nb3 out,Wh it lt as bs out na2 nb3->nb3<=nb2->1<nb3->lt (bs.getD (nb3-1) 0) (as.getD (na2-1) 0)=true->wpS (model prog w) A E s (jp u nb3 out) Q' st3:=by
          intro u nb3 out m5 h5 b5 e5;unfold jp
          walk_at "whr"
          refine wpS_bind (cQ (by omega) ?_)
          walk_at "whr"
          have m6:=m5.wQ t G3.a e5
          split
          .rename_i e2
           exact wpS_pure (q' _ _ (.inl ⟨_,rfl,G3.lk,m6.done t (by simpa using e2)⟩))
          .rename_i e2
           have e2:¬ na2-1=0:=by simpa using e2
           have G6:Gh it lt as bs st (as.length+bs.length-na-nb+1) _ (na2-1) nb3 st3:=⟨G3.lk,m6,by omega,b5,by omega⟩
           split
           .exact wpS_pure (q' _ _ (.inr ⟨rfl,G6⟩))
           .exact wpS_pure (q' _ _ ⟨rfl,G6⟩)
         clear_value jp
         split
         .walk_at "whr"
          have m5:=m4.jZ t k1' k0' G3.a k2'
          split
          .rename_i e5
           exact wpS_pure (q' _ _ (.inl ⟨_,rfl,G3.lk,m5.last t (by simpa using e5)⟩))
          .rename_i e5
           have e5:¬ k'=1:=by simpa using e5
           split
           .rename_i e6
            have e6:k'=0:=by simpa using e6
            omega
           .exact hjp _ _ _ m5 (by omega) (by omega) k3'
         .rename_i e5
          have e5:k'=nb2-1:=by omega
          subst e5;exact hjp _ _ _ m4 (by omega) (by omega) k3'
       clear_value jp
       have s3:=G3.s
       split
       .walk_at "whr"
        have m4:=G3.m.jW t k1 k2
        split
        .rename_i e5
         exact wpS_pure (q' _ _ (.inl ⟨_,rfl,G3.lk,m4.done t (by simpa using e5)⟩))
        .rename_i e5
         have e5:¬ k=0:=by simpa using e5
         exact hjp _ _ _ ⟨G3.lk,m4,by omega,G3.b,by omega⟩ (k3 (by omega))
       .rename_i e5
        have e5:k=na2:=by omega
        subst e5;exact hjp _ _ _ G3 (k3 G3.a)
      clear_value jp
      split
      .walk_at "whr"
       exact hjp _ _
      .exact hjp _ _
     .rintro⟨r,na2,nb2,out,mg,ac,bc⟩ st2 ⟨er,G2⟩;exact .inr ⟨er,G2⟩
     .rintro⟨r,na2,nb2,out,mg,ac,bc⟩ st2 hB;dsimp only[Bh] at hB
      walk_at "whr"
      rcases hB with ⟨v,rfl,lk,rm⟩ | ⟨rfl,G2⟩
      .exact wpS_pure ⟨v,rfl,lk,rm⟩
      walk_at "whr"
      refine wpS_bind (pN λ st3 lk3=>?_);exact wpS_pure ⟨rfl,G2.lk.tr lk3,G2.m,G2.a,G2.b,by have:=G2.s;have:=G.s;dsimp only;omega⟩
   .rintro⟨r,na2,nb2,out,mg⟩ st2 ⟨er,G2⟩
    exfalso
    have:=G2.a;have:=G2.b;have:=G2.s;dsimp only at *;omega
   .exact⟨rfl,.agJ,Wh.start t,by dsimp only;omega,by dsimp only;omega,by dsimp only;omega⟩
   .rintro⟨r,na2,nb2,out,mg⟩ st2 ⟨v,er,lk,rm⟩;dsimp only at er;subst er
    walk_at "whr"
    exact wpS_pure (q _ _ lk rm)
end
open L2 S PySem.W
section
variable {α:Type}{pre xs:Array α}{lo:Nat}
theorem aa1(hl:pre.size=lo){i j:Nat}(hi:i<xs.size)(hj:j<xs.size):(pre++xs).swapIfInBounds (lo+i) (lo+j)=pre++xs.swapIfInBounds i j:=by
 subst hl;apply Array.ext_getElem?;intro k;rw[getElem?_swapIB (by rw[Array.size_append];omega) (by rw[Array.size_append];omega)];have g:∀ (ys:Array α) n,(pre++ys)[pre.size+n]? =ys[n]?:=λ ys n=>by rw[Array.getElem?_append_right (by omega),Nat.add_sub_cancel_left]
 by_cases h:k<pre.size
 .rw[if_neg (by omega),if_neg (by omega),Array.getElem?_append_left h,Array.getElem?_append_left h]
 .obtain⟨m,rfl⟩:∃ m,k=pre.size+m:=⟨k-pre.size,by omega⟩;rw[g,g,g,g,getElem?_swapIB hi hj];simp only[Nat.add_left_cancel_iff]
theorem rC(hl:pre.size=lo){i j:Nat}(hj:j<=xs.size):∀ d,2 * d<=j-i->mirror (pre++xs) (lo+i) (lo+j) d=pre++mirror xs i j d
 | 0,_=>rfl
 | d+1,h=>by rw[mirror_succ,mirror_succ,rC hl hj d (by omega),show lo+i+d=lo+(i+d) by omega,show lo+j-1-d=lo+(j-1-d) by omega];exact aa1 hl (by rw[mirror_size];omega) (by rw[mirror_size];omega)
theorem rK(hl:pre.size=lo){k:Nat}(hk:k<xs.size):∀ d,d<=k->bubble (pre++xs) (lo+k) d=pre++bubble xs k d
 | 0,_=>rfl
 | d+1,h=>by rw[bubble_succ,bubble_succ,rK hl hk d (by omega),show lo+k-d=lo+(k-d) by omega,show lo+(k-d)-1=lo+(k-d-1) by omega];exact aa1 hl (by rw[bubble_size];omega) (by rw[bubble_size];omega)
end
section
variable {prog:Program}{w:World}{A:Around}{E:VP}{s:Shared}{st:SortSt}{κ:SortKind}{f:Nat->Keyed}{lt:Nat->Nat->Bool}{N lo:Nat}{pre:Array Keyed}{p:Array Nat}
abbrev sA(st:SortSt)(pre:Array Keyed)(f:Nat->Keyed)(p:Array Nat):SortSt:=setArr st (pre++p.map f)
structure Bd(N:Nat)(p:Array Nat):Prop where
 z:p.size=N
 b:∀ x∈p.toList,x<N
theorem Bd.perm{p':Array Nat}(h:Bd N p)(q:p'.Perm p):Bd N p':=⟨q.size_eq.trans h.z,λ x hx=>h.b x ((Array.perm_iff_toList_perm.mp q).mem_iff.mp hx)⟩
theorem Bd.rev(h:Bd N p)(i j:Nat):Bd N (kas_rev p i j):=h.perm (mirror_perm p i j _)
theorem Bd.at(h:Bd N p){i:Nat}(hi:i<N):p.getD i 0<N:=by
 have hz:=h.z;have:p.getD i 0=p[i]:=by simp[Array.getD,show i<p.size by omega]
 rw[this];exact h.b _ (by simp)
def Ans(prog:Program)(w:World)(A:Around)(E:VP)(s:Shared)(κ:SortKind)(f:Nat->Keyed)(lt:Nat->Nat->Bool)(N:Nat):Prop:=
 ∀ i j,i<N->j<N->∀ (st:SortSt) (R:Option Bool->SortSt->Prop),kindOf st=κ->R (some (lt i j)) st->wpS (model prog w) A E s (lt' (f i) (f j)) R st
theorem aiD(hl:pre.size=lo)(b:Bd N p){i:Nat}(hi:i<N):(pre++p.map f)[lo+i]? =some (f (p.getD i 0)):=by
 have hz:=b.z;subst hl;rw[Array.getElem?_append_right (by omega),Nat.add_sub_cancel_left];have:p.getD i 0=p[i]:=by simp[Array.getD,show i<p.size by omega]
 rw[this];simp[show i<p.size by omega]
theorem ltA(hc:Ans prog w A E s κ f lt N)(hk:kindOf st=κ)(hl:pre.size=lo)(b:Bd N p){i j:Nat}(hi:i<N)(hj:j<N){R:Option Bool->SortSt->Prop}(r:R (some (lt (p.getD i 0) (p.getD j 0))) (sA st pre f p)) :
  wpS (model prog w) A E s (ltAt' (lo+i) (lo+j)) R (sA st pre f p):=by
 rw[ltAt'_eq];refine wpS_bind (wpS_get ?_);show wpS _ _ _ _ (do let x <- elem' (pre++p.map f) (lo+i);let y <- elem' (pre++p.map f) (lo+j);lt' x y) R (sA st pre f p);rw[elem'_eq,elem'_eq,aiD hl b hi,aiD hl b hj];exact wpS_bind (wpS_pure (wpS_bind (wpS_pure (hc _ _ (b.at hi) (b.at hj) _ R hk r))))
theorem ajD(hl:pre.size=lo){i j:Nat}(hj:j<=p.size){R:Unit->SortSt->Prop}(r:R () (sA st pre f (kas_rev p i j))):wpS (model prog w) A E s (reverseSlice' (lo+i) (lo+j)) R (sA st pre f p):=by
 rw[reverseSlice'_eq];refine wpS_modify ?_;have e:mirror (pre++p.map f) (lo+i) (lo+j) ((lo+j-(lo+i)) / 2)=pre++(kas_rev p i j).map f:=by rw[rC hl (by rw[Array.size_map];exact hj) _ (by omega),show lo+j-(lo+i)=j-i by omega];congr 1;exact kas_swaps_map f (λ k=>i+k) (λ k=>j-1-k) _ p
 show R () (setArr st (mirror (pre++p.map f) (lo+i) (lo+j) ((lo+j-(lo+i)) / 2)));rw[e];exact r
theorem alO(hl:pre.size=lo){k l:Nat}(hk:k<p.size){R:Unit->SortSt->Prop}(r:R () (sA st pre f (bubble p k (k-l)))):wpS (model prog w) A E s (moveDown' (lo+k) (lo+l)) R (sA st pre f p):=by
 rw[moveDown'_eq];refine wpS_modify ?_;have e:bubble (pre++p.map f) (lo+k) (lo+k-(lo+l))=pre++(bubble p k (k-l)).map f:=by rw[show lo+k-(lo+l)=k-l by omega,rK hl (by rw[Array.size_map];exact hk) _ (by omega)];congr 1;exact kas_swaps_map f (λ i=>k-i) (λ i=>k-i-1) _ p
 show R () (setArr st (bubble (pre++p.map f) (lo+k) (lo+k-(lo+l))));rw[e];exact r
theorem akX(hc:Ans prog w A E s κ f lt N)(hk:kindOf st=κ)(hl:pre.size=lo)(b:Bd N p){a:Nat}(h1:1<=a)(ha:a<=N){Q:Option (Option Nat)×Nat->SortSt->Prop}(q:Q (none,go lt (kas_asc p (N-a) a)) (sA st pre f p)) :
  wpS (model prog w) A E s (forIn [a:N] ((none,a):Option (Option Nat)×Nat) λ _ __s=>do
   let __x <- ltAt' (lo+__s.snd) (lo+__s.snd-1)
   match __x with
   | some smaller=>if smaller=true then pure (ForInStep.done (none,__s.snd)) else pure (ForInStep.yield (none,__s.snd+1))
   | _=>pure (ForInStep.done (some none,__s.snd))) Q (sA st pre f p):=by
 refine wpS_forRange (I:=λ x c st'=>st'=sA st pre f p/\c=(none,x)/\go lt (kas_asc p (N-a) a)=go lt (kas_asc p (N-x) x)) ?_ ?_ ⟨rfl,rfl,rfl⟩
 .rintro x c st' hax hx ⟨e1,rfl,e3⟩;rw[e1];dsimp only;rw[show lo+x-1=lo+(x-1) by omega];refine wpS_bind (ltA hc hk hl b hx (by omega) ?_);have ef:N-x=(N-(x+1))+1:=by omega
  rw[ef] at e3;simp only[kas_asc,go] at e3;dsimp only;cases e:lt (p.getD x 0) (p.getD (x-1) 0) with
  | true =>
   rw[e] at e3;simp only[if_true,go] at e3;refine wpS_pure ?_;show Q (none,x) _;rw[<- e3];exact q
  | false =>
   rw[e] at e3;simp only[Bool.false_eq_true,if_false] at e3 ⊢;exact wpS_pure ⟨rfl,rfl,e3⟩
 .rintro c st' ⟨rfl,rfl,e3⟩;rw[show max a N=N by omega] at e3 ⊢;rw[Nat.sub_self] at e3;have e3:go lt (kas_asc p (N-a) a)=N:=e3;rw[e3] at q;exact q
theorem akk(hc:Ans prog w A E s κ f lt N)(hk:kindOf st=κ)(hl:pre.size=lo)(b:Bd N p){a:Nat}(h1:1<=a)(ha:a<=N){Q:Option (Option Nat)×Nat×Nat->SortSt->Prop}
  (q:∀ p' m u,go lt (kas_desc (N-a) p a 0)=(p',m,u)->Bd N p'->a<=m->m<=N->u+1<=m->Q (none,m,u) (sA st pre f p')) :
  wpS (model prog w) A E s (forIn [a:N] ((none,a,0):Option (Option Nat)×Nat×Nat) λ _ __s=>do
   let __x <- ltAt' (lo+__s.snd.fst) (lo+__s.snd.fst-1)
   match __x with
   | some smaller =>
    if smaller=true then
     if __s.snd.snd > 0 then do
      reverseSlice' (lo+__s.snd.fst-(__s.snd.snd+1)) (lo+__s.snd.fst)
      pure (ForInStep.yield (none,__s.snd.fst+1,0))
     else pure (ForInStep.yield (none,__s.snd.fst+1,0))
    else do
     let __x <- ltAt' (lo+__s.snd.fst-1) (lo+__s.snd.fst)
     match __x with
     | some larger =>
      if larger=true then pure (ForInStep.done (none,__s.snd.fst,__s.snd.snd))
      else pure (ForInStep.yield (none,__s.snd.fst+1,__s.snd.snd+1))
     | _=>pure (ForInStep.done (some none,__s.snd.fst,__s.snd.snd))
   | _=>pure (ForInStep.done (some none,__s.snd.fst,__s.snd.snd))) Q (sA st pre f p):=by
 refine wpS_forRange (I:=λ x c st'=>∃ p' u,st'=sA st pre f p'/\c=(none,x,u)/\Bd N p'/\u+1<=x/\go lt (kas_desc (N-a) p a 0)=go lt (kas_desc (N-x) p' x u)) ?_ ?_ ⟨p,0,rfl,rfl,b,by omega,rfl⟩
 .rintro x c st' hax hx ⟨p',u,e1,rfl,b',hu,e3⟩;rw[e1];dsimp only;rw[show lo+x-1=lo+(x-1) by omega,show lo+x-(u+1)=lo+(x-(u+1)) by omega];refine wpS_bind (ltA hc hk hl b' hx (by omega) ?_);have ef:N-x=(N-(x+1))+1:=by omega
  rw[ef] at e3;simp only[kas_desc,go] at e3;dsimp only;cases e:lt (p'.getD x 0) (p'.getD (x-1) 0) with
  | true =>
   rw[e] at e3;simp only[if_true] at e3 ⊢
   by_cases hq:u > 0
   .rw[if_pos hq] at e3 ⊢;refine wpS_bind (ajD hl (by have:=b'.z;omega) (wpS_pure ⟨_,_,rfl,rfl,b'.rev _ _,by omega,e3⟩))
   .rw[if_neg hq] at e3 ⊢;exact wpS_pure ⟨_,_,rfl,rfl,b',by omega,e3⟩
  | false =>
   rw[e] at e3;simp only[Bool.false_eq_true,if_false,go] at e3 ⊢;refine wpS_bind (ltA hc hk hl b' (by omega) hx ?_);dsimp only;cases e':lt (p'.getD (x-1) 0) (p'.getD x 0) with
   | true =>
    rw[e'] at e3;simp only[if_true,go] at e3 ⊢;exact wpS_pure (q _ _ _ e3 b' hax (by omega) hu)
   | false =>
    rw[e'] at e3;simp only[Bool.false_eq_true,if_false] at e3 ⊢;exact wpS_pure ⟨_,_,rfl,rfl,b',by omega,e3⟩
 .rintro c st' ⟨p',u,rfl,rfl,b',hu,e3⟩;rw[show max a N=N by omega] at e3 hu ⊢;rw[Nat.sub_self] at e3;exact q _ _ _ e3 b' ha (lr0 _) hu
end
open L2 S PySem.W
section
variable {prog:Program}{w:World}{A:Around}{E:VP}{s:Shared}{st:SortSt}{κ:SortKind}{f:Nat->Keyed}{lt:Nat->Nat->Bool}{N lo:Nat}{pre:Array Keyed}{p:Array Nat}
theorem adb(lt:Nat->Nat->Bool)(p:Array Nat):∀ f n,n<=go lt (kas_asc p f n)/\go lt (kas_asc p f n)<=n+f
 | 0,n=>⟨lr0 _,lr0 _⟩
 | f+1,n=>by
  simp only[kas_asc,go]
  split
  .exact⟨lr0 _,Nat.le_add_right _ _⟩
  .have:=adb lt p f (n+1);omega
theorem ahy(hc:Ans prog w A E s κ f lt N)(hk:kindOf st=κ)(hl:pre.size=lo)(b:Bd N p)(hN:1<=N){Q:Option Nat->SortSt->Prop}
  (q:Q (some (go lt (kas_count N p)).1) (sA st pre f (go lt (kas_count N p)).2)):wpS (model prog w) A E s (countRun' lo N) Q (sA st pre f p):=by
 rw[countRun'_eq]
 walk_at "whr"
 refine wpS_bind (akX hc hk hl b (lr0 1) hN ?_)
 walk_at "whr"
 unfold kas_count at q;rw[dq] at q;have hn:=adb lt p (N-1) 1;generalize go lt (kas_asc p (N-1) 1)=n at q hn
 split
 .rename_i e
  rw[if_pos e] at q;exact wpS_pure q
 .rename_i e
  rw[if_neg e] at q;have e:¬ n=N:=by simpa using e
  extract_lets +onlyGivenNames -underBinder -merge jp
  have hjp:∀ p1 u,Bd N p1->Q (some (go lt (kas_descPart n N p1)).1) (sA st pre f (go lt (kas_descPart n N p1)).2)->wpS (model prog w) A E s (jp u) Q (sA st pre f p1):=by
   clear q b;intro p1 u b q;unfold jp
   walk_at "whr"
   refine wpS_bind (wpS_lift (wpAny_rule ⟨rfl,?_⟩))
   walk_at "whr"
   refine wpS_bind (akk hc hk hl b (by omega) (by omega) λ p2 m u2 e2 b2 hm hm2 hu=>?_)
   walk_at "whr"
   unfold kas_descPart at q;rw[dq,e2] at q
   extract_lets +onlyGivenNames -underBinder -merge jp
   have hjp:∀ p1 u,Bd N p1->Q (some (go lt (kas_tail3 m N p1)).1) (sA st pre f (go lt (kas_tail3 m N p1)).2)->wpS (model prog w) A E s (jp u) Q (sA st pre f p1):=by
    clear q b b2 e2;intro p1 u b q;unfold jp
    walk_at "whr"
    refine wpS_bind (ajD (i:=0) hl (by have:=b.z;omega) ?_)
    walk_at "whr"
    refine wpS_bind (akX hc hk hl (b.rev _ _) (by omega) hm2 ?_)
    walk_at "whr"
    unfold kas_tail3 at q;rw[dq] at q;exact wpS_pure q
   clear_value jp
   dsimp only at q
   split
   .rename_i e3
    rw[if_pos e3] at q;rw[show lo+m-(u2+1)=lo+(m-(u2+1)) by omega];refine wpS_bind (ajD hl (by have:=b2.z;omega) ?_);exact hjp _ _ (b2.rev _ _) q
   .rename_i e3
    rw[if_neg e3] at q;exact hjp _ _ b2 q
  clear_value jp
  split
  .rename_i e3
   rw[if_pos e3] at q;rw[show lo+n-1=lo+(n-1) by omega];refine wpS_bind (ltA (i:=0) hc hk hl b (by omega) (by omega) ?_)
   walk_at "whr"
   simp only[go] at q
   split
   .rename_i e4
    rw[if_pos e4] at q;exact wpS_pure q
   .rename_i e4
    rw[if_neg e4] at q;refine wpS_bind (ajD (i:=0) hl (by have:=b.z;omega) ?_);exact hjp _ _ (b.rev _ _) q
  .rename_i e3
   rw[if_neg e3] at q;exact hjp _ _ b q
theorem oJ(lt:Nat->Nat->Bool)(p:Array Nat)(k:Nat):∀ f l r,l<=r->go lt (kas_place p k f l r)<=r
 | 0,l,r,h=>h
 | f+1,l,r,h=>by
  simp only[kas_place]
  split
  .exact h
  .simp only[go]
   split
   .have:=oJ lt p k f l ((l+r) / 2) (by omega);omega
   .exact oJ lt p k f _ r (by omega)
theorem adA(lt:Nat->Nat->Bool){N:Nat}:∀ (f:Nat) (p:Array Nat) (k:Nat),k+f<=N->Un p N k->Un (go lt (kas_bin f p k)) N (k+f)
 | 0,p,k,hf,u=>u
 | f+1,p,k,hf,u=>by
  simp only[kas_bin];rw[dq];have h1:=oJ lt p k k 0 k (Nat.zero_le _);generalize go lt (kas_place p k k 0 k)=l at h1;have hs:=u.size;have ek:k-(k-l)=l:=by omega
  have lo:=u.lo;have hk:=u.hi k (lr0 _) (by omega);have G:∀ i,g (bubble p k (k-l)) i=if i=l then g p k else if l<i/\i<=k then g p (i-1) else g p i:=λ i=>by rw[ag2 (by omega) (by omega),ek]
  have r:=adA lt (N:=N) f (bubble p k (k-l)) (k+1) (by omega) ⟨(bubble_size _ _ _).trans hs,λ i hi=>?_,λ i hi hi2=>?_⟩
  .rw[show k+1+f=k+(f+1) by omega] at r;exact r
  .rw[G]
   split
   .omega
   .split
    .have:=lo (i-1) (by omega);omega
    .have:=lo i (by omega);omega
  .rw[G,if_neg (by omega),if_neg (by omega)];exact u.hi i (by omega) hi2
theorem alG(hc:Ans prog w A E s κ f lt N)(hk:kindOf st=κ)(hl:pre.size=lo)(b:Bd N p){n ok:Nat}(hn:n<=N){Q:Bool->SortSt->Prop}
  (q:Q true (sA st pre f (go lt (kas_bin (n-max ok 1) p (max ok 1))))):wpS (model prog w) A E s (binarySort' lo n ok) Q (sA st pre f p):=by
 rw[binarySort'_eq]
 walk_at "whr"
 refine wpS_bind (wpS_mono (wpS_forRange (I:=λ x c st'=>∃ p',st'=sA st pre f p'/\c.1=none/\Bd N p'/\go lt (kas_bin (n-max ok 1) p (max ok 1))=go lt (kas_bin (n-x) p' x)) (Q:=λ c st'=>c.1=none/\st'=sA st pre f (go lt (kas_bin (n-max ok 1) p (max ok 1)))) ?_ ?_ ⟨p,rfl,rfl,b,rfl⟩) ?_)
 .rintro k c st' hk1 hk2 ⟨p',e1,e0,b',e2⟩;rw[e1]
  walk_at "whr"
  refine wpS_bind (wpS_mono (wpS_forRange (I:=λ x c st'=>st'=sA st pre f p'/\c.1=none/\c.2.1<=c.2.2/\c.2.2<=k/\go lt (kas_place p' k k 0 k)=go lt (kas_place p' k (k-x) c.2.1 c.2.2)) (Q:=λ c st'=>st'=sA st pre f p'/\c.1=none/\c.2.1=go lt (kas_place p' k k 0 k)) ?_ ?_ ⟨rfl,rfl,Nat.zero_le _,lr0 _,rfl⟩) ?_)
  .rintro x ⟨c0,l,r⟩ st2 _ hx ⟨f1,f2,f3,f4,f5⟩;rw[f1];dsimp only at f2 f3 f4 f5;subst f2
   walk_at "whr"
   rw[show k-x=(k-(x+1))+1 by omega] at f5;simp only[kas_place] at f5
   split
   .rename_i z
    rw[if_pos z] at f5;exact wpS_pure ⟨rfl,rfl,f5.symm⟩
   .rename_i z
    rw[if_neg z] at f5
    walk_at "whr"
    refine wpS_bind (ltA hc hk hl b' (by omega) (by omega) ?_)
    walk_at "whr"
    simp only[go] at f5
    split
    .rename_i z2
     rw[if_pos z2] at f5
     walk_at "whr"
     exact wpS_pure ⟨rfl,rfl,by dsimp only;omega,by dsimp only;omega,f5⟩
    .rename_i z2
     rw[if_neg z2] at f5
     walk_at "whr"
     exact wpS_pure ⟨rfl,rfl,by dsimp only;omega,by dsimp only;omega,f5⟩
  .rintro⟨c0,l,r⟩ st2 ⟨f1,f2,f3,f4,f5⟩;refine⟨f1,f2,?_⟩;rw[f5,show k-max 0 k=0 by omega];rfl
  .rintro⟨c0,l,r⟩ st2 ⟨f1,f2,f3⟩;rw[f1];dsimp only at f2 f3;subst f2
   walk_at "whr"
   refine wpS_bind (alO hl (by have:=b'.z;omega) (wpS_pure ⟨_,rfl,rfl,b'.perm (bubble_perm _ _ _),?_⟩));rw[e2,show n-k=(n-(k+1))+1 by omega];simp only[kas_bin];rw[dq,f3]
 .rintro c st' ⟨p',rfl,e0,b',e2⟩;refine⟨e0,?_⟩;rw[e2,show n-max (max ok 1) n=0 by omega];rfl
 .rintro c st' ⟨e0,rfl⟩
  walk_at "whr"
  rw[e0];exact wpS_pure q
end
open L2 S PySem.W
local macro_rules | `(tactic| walk_at "op_mergeAt")=>`(tactic| unfold $(Lean.mkIdent (Lean.mkPrivateNameCore `PySem.Builtin.List.W1All `PySem.Builtin.mergeAt)):ident)
section
variable {α:Type}
theorem qw(L X:List α)(k:Nat):(L++X).drop (L.length+k)=X.drop k:=by rw[List.drop_append,List.drop_eq_nil_of_le (by omega),Nat.add_sub_cancel_left];rfl
theorem yv(L X:List α)(k:Nat):(L++X).take (L.length+k)=L++X.take k:=by rw[List.take_append,List.take_of_length_le (by omega),Nat.add_sub_cancel_left]
theorem vf:∀ (m:List α) (L:List α) (base k:Nat),base+k+m.length<=L.length ->
  (m.zipIdx k).foldl (λ(l:List α) (x:α×Nat)=>l.set (base+x.2) x.1) L=L.take (base+k)++(m++L.drop (base+k+m.length))
 | [],L,base,k,h=>by simp
 | p::m,L,base,k,h=>by
  simp only[List.length_cons] at h;rw[List.zipIdx_cons,List.foldl_cons,vf m (L.set (base+k) p) base (k+1) (by rw[List.length_set];omega)];have e1:(L.set (base+k) p).take (base+(k+1))=L.take (base+k)++[p]:=by rw[show base+(k+1)=base+k+1 by omega,List.take_succ,List.take_set,List.set_eq_of_length_le (by simp;omega),List.getElem?_set_self (by omega)];rfl
  have e2:(L.set (base+k) p).drop (base+(k+1)+m.length)=L.drop (base+k+(p::m).length):=by rw[List.drop_set_of_lt (by omega),List.length_cons,show base+(k+1)+m.length=base+k+(m.length+1) by omega]
  rw[e1,e2];simp
theorem acQ(m:List α)(a:Array α)(base:Nat)(h:base+m.length<=a.size) :
  (m.zipIdx.foldl (λ(l:Array α) (x:α×Nat)=>l.setIfInBounds (base+x.2) x.1) a)=(a.toList.take base++(m++a.toList.drop (base+m.length))).toArray:=by
 have main:∀ (zs:List (α×Nat)) (a:Array α),(zs.foldl (λ(l:Array α) (x:α×Nat)=>l.setIfInBounds (base+x.2) x.1) a).toList=zs.foldl (λ(l:List α) (x:α×Nat)=>l.set (base+x.2) x.1) a.toList:=by
  intro zs
  induction zs with
  | nil=>intro a;rfl
  | cons z zs ih=>intro a;rw[List.foldl_cons,List.foldl_cons,ih];simp
 apply Array.toList_inj.mp;rw[main,vf m a.toList base 0 (by simpa using h)];simp
end
section
variable {prog:Program}{w:World}{A:Around}{E:VP}{s:Shared}{st:SortSt}{κ:SortKind}{it:Array Keyed}{lt:Nat->Nat->Bool}{N:Nat}{L as bs R:List Nat}
theorem afG{o P:List Nat}{base:Nat}(h:base+o.length<=P.length) :
  ((ar it o).toList.zipIdx.foldl (λ(l:Array Keyed) (x:Keyed×Nat)=>l.setIfInBounds (base+x.2) x.1) (ar it P))=ar it (P.take base++(o++P.drop (base+o.length))):=by
 rw[acQ _ _ _ (by simpa [ar] using h)];simp[ar,List.map_take,List.map_drop]
theorem kI{L as R:List Nat}{j:Nat}(h:j<as.length):(L++(as++R)).getD (L.length+j) 0=as.getD j 0:=by simp[List.getD_eq_getElem?_getD,List.getElem?_append_right,List.getElem?_append_left h]
structure Nb(lt:Nat->Nat->Bool)(N:Nat)(as bs:List Nat):Prop where
 w:gH lt
 sa:as.Pairwise (B lt)
 sb:bs.Pairwise (B lt)
 cr:∀ x∈as,∀ y∈bs,x<y
 na:∀ x∈as,x<N
 nb:∀ x∈bs,x<N
 a0:0<as.length
 b0:0<bs.length
theorem ajU(hc:fj prog w A s κ it lt N)(t:Nb lt N as bs)(hk:kindOf st=κ){Q:Option Nat->SortSt->Prop}
  (q:∀ k,k<=as.length->(∀ j,j<k->lt (bs.getD 0 0) (as.getD j 0)=false)->(k<as.length->lt (bs.getD 0 0) (as.getD k 0)=true)->Q (some k) st) :
  wpS (model prog w) A E s (fU false (kas_item it (bs.getD 0 0)) (ar it (L++(as++R))) L.length as.length 0) Q st:=by
 have b0:=t.b0;obtain⟨p,p1,p2⟩:=aeQ (λ i=>!lt (bs.getD 0 0) (as.getD i 0)) as.length λ i j hij hj e=>by
  have e:lt (bs.getD 0 0) (as.getD j 0)=false:=by simpa using e
  have:=t.w.tr _ _ _ ((pw_at t.sa hij hj).le t.w) e;show(!lt (bs.getD 0 0) (as.getD i 0))=true;rw[this];rfl
 refine eO (p:=p) t.a0 p1 (λ i hi R r=>?_) (q p p1 (λ j hj=>?_) λ hp=>?_)
 .unfold dX;refine wpS_bind (cQ (by simp;omega) ?_);rw[kI hi,if_neg (by decide)];refine wpS_bind (oO hc hk (t.nb _ (bM b0)) (t.na _ (bM hi)) (wpS_pure ?_));have:=p2 i hi;show R (some (!lt (bs.getD 0 0) (as.getD i 0))) st;rw[this];exact r
 .have:=p2 j (by omega);rw[decide_eq_true hj] at this
  simpa using this
 .have:=p2 p hp;rw[decide_eq_false (Nat.lt_irrefl _)] at this
  simpa using this
theorem aky(hc:fj prog w A s κ it lt N)(t:Nb lt N as bs)(hk:kindOf st=κ){x:Nat}(hx:x∈as){Q:Option Nat->SortSt->Prop}
  (q:∀ k,k<=bs.length->(∀ j,j<k->lt (bs.getD j 0) x=true)->(∀ j,k<=j->j<bs.length->lt (bs.getD j 0) x=false)->Q (some k) st) :
  wpS (model prog w) A E s (fU true (kas_item it x) (ar it (L++(bs++R))) L.length bs.length (bs.length-1)) Q st:=by
 have b0:=t.b0;obtain⟨p,p1,p2⟩:=aeQ (λ i=>lt (bs.getD i 0) x) bs.length λ i j hij hj e => 
  t.w.agH ((pw_at t.sb hij hj).le t.w) e
 refine eO (p:=p) (by omega) p1 (λ i hi R r=>?_) (q p p1 (λ j hj=>?_) λ j hj hj2=>?_)
 .unfold dX;refine wpS_bind (cQ (by simp;omega) ?_);rw[kI hi,if_pos rfl];refine oO hc hk (t.nb _ (bM hi)) (t.na _ hx) ?_;have:=p2 i hi;rw[this];exact r
 .have:=p2 j (by omega);rw[decide_eq_true hj] at this;exact this
 .have:=p2 j hj2;rw[decide_eq_false (by omega)] at this;exact this
theorem ahR(t:Nb lt N as bs){k m:Nat}{o:List Nat}(hk:k<=as.length)(hm:m<=bs.length)(k2:∀ j,j<k->lt (bs.getD 0 0) (as.getD j 0)=false)(m2:∀ j,m<=j->j<bs.length->lt (bs.getD j 0) (as.getD (as.length-1) 0)=false)
  (o1:o.Pairwise (B lt))(o2:o.Perm (as.drop k++bs.take m)):(as.take k++(o++bs.drop m)).Pairwise (B lt)/\(as.take k++(o++bs.drop m)).Perm (as++bs):=by
 have a0:=t.a0;have b0:=t.b0;have ca:∀ x∈as.take k,∀ y∈bs,B lt x y:=λ x hx y hy=>by obtain⟨j,j1,j2,rfl⟩:=mO (i:=0) (by simpa using hx);rw[Nat.zero_add] at j2 ⊢;have:=pw_head (i:=0) t.w t.sb b0 (B.of_le (k2 j j1) (t.cr _ (bM j2) _ (bM b0))) y;exact this (by simpa using hy)
 have cb:∀ y∈bs.drop m,∀ x∈as,B lt x y:=λ y hy x hx=>by
  obtain⟨j,j1,j2,rfl⟩:=mO (k:=bs.length) (show y∈(bs.drop m).take bs.length by rw[List.take_of_length_le (by simp)];exact hy);obtain⟨i,i1,e⟩:=List.mem_iff_getElem.mp hx;have e:as.getD i 0=x:=by rw[List.getD_eq_getElem?_getD,List.getElem?_eq_getElem i1];exact e
  rw[<- e];exact pw_le t.w t.sa (show i<=as.length-1 by omega) (by omega) (B.of_le (m2 _ (by omega) j2) (t.cr _ (bM (by omega)) _ (bM j2)))
 have pa:(as.take k++as.drop k).Pairwise (B lt):=by rw[List.take_append_drop];exact t.sa
 have pb:(bs.take m++bs.drop m).Pairwise (B lt):=by rw[List.take_append_drop];exact t.sb
 rw[List.pairwise_append] at pa pb;constructor
 .rw[List.pairwise_append,List.pairwise_append];refine⟨pa.1,⟨o1,pb.2.1,λ x hx y hy=>?_⟩,λ x hx y hy=>?_⟩
  .rcases List.mem_append.mp (o2.mem_iff.mp hx) with z | z
   .exact cb y hy x (List.mem_of_mem_drop z)
   .exact pb.2.2 x z y hy
  .rcases List.mem_append.mp hy with z | z
   .rcases List.mem_append.mp (o2.mem_iff.mp z) with z | z
    .exact pa.2.2 x hx y z
    .exact ca x hx y (List.mem_of_mem_take z)
   .exact ca x hx y (List.mem_of_mem_drop z)
 .refine(List.Perm.append_left _ (o2.append_right _)).trans (List.Perm.of_eq ?_);rw[List.append_assoc,List.take_append_drop,<- List.append_assoc,List.take_append_drop]
theorem ael{σ:Type}{M:Model}{st st2:σ}{Q:PUnit->σ->Prop}(h:∀ st0,st0=st2->Q ⟨⟩ st0):wpS M A E s (set st2:StateT σ Sem PUnit) Q st:=by
 unfold wpS;rw[StateT.run_set];exact wp ⟨rfl,h _ rfl⟩
theorem xk(hc:fj prog w A s κ it lt N)(t:Nb lt N as bs)(hk:kindOf st=κ)(hf:failedOf st=none)(ha:arrOf st=ar it (L++(as++(bs++R)))){i pw pw':Nat}
  (h1:(pendingOf st)[i]? =some (L.length,as.length,pw))(h2:(pendingOf st)[i+1]? =some (L.length+as.length,bs.length,pw')){Q:Bool->SortSt->Prop}
  (q:∀ st' o,PyProof.Rows.kindOf st'=κ->failedOf st'=none->arrOf st'=ar it (L++(o++R))->pendingOf st'=((pendingOf st).setIfInBounds i (L.length,as.length+bs.length,pw)).eraseIdxIfInBounds (i+1)->o.Pairwise (B lt)->o.Perm (as++bs)->Q true st') :
  wpS (model prog w) A E s (mergeAt' i) Q st:=by
 have b0:=t.b0;have a0:=t.a0;unfold mergeAt'
 walk_at "op_mergeAt"
 refine wpS_bind (wpS_get ?_)
 walk_at "whr"
 rw[h1,h2]
 walk_at "whr"
 refine wpS_bind (ael λ st0 e0=>?_);have k0:PyProof.Rows.kindOf st0=κ:=by rw[e0];exact hk
 have f0:failedOf st0=none:=by rw[e0];exact hf
 have a0':arrOf st0=ar it (L++(as++(bs++R))):=by rw[e0];exact ha
 have p0:pendingOf st0=((pendingOf st).setIfInBounds i (L.length,as.length+bs.length,pw)).eraseIdxIfInBounds (i+1):=by rw[e0]
 clear e0;dsimp only[PyProof.Rows.arrOf] at ha;rw[ha];have eb:(L++(as++(bs++R))).getD (L.length+as.length) 0=bs.getD 0 0:=by have:=kI (L:=L++as) (as:=bs) (R:=R) b0;rw[List.length_append,Nat.add_zero,List.append_assoc] at this;exact this
 refine wpS_bind (cQ (by simp;omega) ?_);rw[eb];refine wpS_bind (ajU hc t k0 λ k k1 k2 k3=>?_)
 walk_at "whr"
 split
 .rename_i e
  have e:k=as.length:=by
   have:as.length-k=0:=by simpa using e
   omega
  have j3:=ahR t (k:=k) (m:=0) (o:=[]) k1 (Nat.zero_le _) k2 (λ j _ hj=>?_) .nil (by rw[e];simp)
  .rw[e] at j3;simp only[List.take_length,List.nil_append,List.drop_zero] at j3;refine wpS_pure (q _ (as++bs) k0 f0 ?_ p0 j3.1 j3.2);rw[a0',List.append_assoc]
  .have k2':=k2 (as.length-1) (by omega);have:lt (bs.getD 0 0) (as.getD (as.length-1) 0)=false:=k2'
   by_cases z:j=0
   .rw[z];exact this
   .exact t.w.tr _ _ _ this ((pw_at t.sb (show 0<j by omega) hj).le t.w)
 .rename_i e
  have e:¬ as.length-k=0:=by simpa using e
  have k3:=k3 (by omega);have ea:(L++(as++(bs++R))).getD (L.length+k+(as.length-k)-1) 0=as.getD (as.length-1) 0:=by rw[show L.length+k+(as.length-k)-1=L.length+(as.length-1) by omega];exact kI (by omega)
  refine wpS_bind (cQ (by simp;omega) ?_);rw[ea];have eP:L++(as++(bs++R))=(L++as)++(bs++R):=by rw[List.append_assoc]
  have eL:L.length+as.length=(L++as).length:=by rw[List.length_append]
  have hla:as.getD (as.length-1) 0∈as:=bM (by omega);rw[show ar it (L++(as++(bs++R)))=ar it ((L++as)++(bs++R)) by rw[eP]];rw[eL];refine wpS_bind (aky hc t k0 hla λ m m1 m2 m3=>?_);have hm0:0<m:=by
   by_cases z:m=0
   .exfalso
    have h0:=m3 0 (by omega) b0;have:lt (bs.getD 0 0) (as.getD (as.length-1) 0)=true:=by
     by_cases z:k=as.length-1
     .rw[<- z];exact k3
     .exact t.w.ab1 k3 ((pw_at t.sa (show k<as.length-1 by omega) (by omega)).le t.w)
    rw[this] at h0;cases h0
   .omega
  walk_at "whr"
  split
  .rename_i z
   have z:m=0:=by simpa using z
   omega
  .walk_at "whr"
   have ex:(ar it ((L++as)++(bs++R))).extract (L.length+k) (L++as).length=ar it (as.drop k):=by rw[kP,List.take_left' rfl,qw]
   have ey:(ar it ((L++as)++(bs++R))).extract (L++as).length ((L++as).length+m)=ar it (bs.take m):=by rw[vy,List.drop_left' rfl,List.take_append_of_le_length m1]
   rw[ex,ey];have T:Two lt N (as.drop k) (bs.take m):=by
    refine⟨t.w,t.sa.drop,t.sb.take,λ x hx y hy=>t.cr x (List.mem_of_mem_drop hx) y (List.mem_of_mem_take hy),λ x hx=>t.na x (List.mem_of_mem_drop hx),λ x hx=>t.nb x (List.mem_of_mem_take hx),by simp;omega,by simp;omega,?_,λ y hy=>?_⟩
    .have a1:(bs.take m).getD 0 0=bs.getD 0 0:=by simp[List.getD_eq_getElem?_getD,List.getElem?_take,hm0]
     have a2:(as.drop k).getD 0 0=as.getD k 0:=by simp[List.getD_eq_getElem?_getD]
     rw[a1,a2];exact k3
    .obtain⟨j,j1,j2,rfl⟩:=mO (i:=0) (by simpa using hy);have a2:(as.drop k).getD ((as.drop k).length-1) 0=as.getD (as.length-1) 0:=by simp only[List.getD_eq_getElem?_getD,List.getElem?_drop,List.length_drop];rw[show k+(as.length-k-1)=as.length-1 by omega]
     rw[a2,Nat.zero_add];exact m2 j j1
   extract_lets +onlyGivenNames -underBinder -merge jp
   have hjp:∀ out st2,Lk st0 st2->Rm it lt (as.drop k) (bs.take m) out->wpS (model prog w) A E s (jp out) Q st2:=by
    intro out st2 lk rm;unfold jp;obtain⟨o,rfl,o1,o2⟩:=rm
    walk_at "whr"
    refine wpS_bind (wpS_modify ?_);refine wpS_bind (wpS_get ?_)
    walk_at "whr"
    have e4:failedOf st2=none:=lk.f.trans f0;have e5:arrOf st2=ar it (L++(as++(bs++R))):=lk.a.trans a0';have ol:=o2.length_eq;simp only[List.length_append,List.length_drop,List.length_take] at ol;obtain⟨j1,j2⟩:=ahR t k1 m1 k2 m3 o1 o2;rw[show(failedOf st2).isNone=true by rw[e4];rfl];refine wpS_pure (q _ _ (lk.k.trans k0) e4 ?_ (lk.p.trans p0) j1 j2);show((ar it o).toList.zipIdx.foldl (λ(l:Array Keyed) (x:Keyed×Nat)=>l.setIfInBounds (L.length+k+x.2) x.1) (arrOf st2))=_;rw[e5,afG (by simp;omega)];congr 1;have d1:(L++(as++(bs++R))).take (L.length+k)=L++as.take k:=by rw[yv,List.take_append_of_le_length k1]
    have d2:(L++(as++(bs++R))).drop (L.length+k+o.length)=bs.drop m++R:=by rw[ol,eP,show L.length+k+(as.length-k+min m bs.length)=(L++as).length+m by rw[List.length_append];omega,qw,List.drop_append_of_le_length m1]
    rw[d1,d2];simp
   clear_value jp
   split
   .exact wpS_bind (wY hc T k0 λ out st' lk rm=>hjp out st' lk rm)
   .exact wpS_bind (wu hc T k0 λ out st' lk rm=>hjp out st' lk rm)
end
open L2 S PySem.W
theorem qG{α β:Type}(f:α->β):∀ (l:List α) (i:Nat),(l.eraseIdx i).map f=(l.map f).eraseIdx i
 | [],_=>rfl
 | _::_,0=>rfl
 | a::l,i+1=>by simp[List.eraseIdx_cons_succ,qG f l i]
def pd:Nat->List (List Nat)->List (Nat×Nat)
 | _,[]=>[]
 | a,r::rs=>(a,r.length)::pd (a+r.length) rs
theorem vg:∀ (r1 r2:List (List Nat)) (a:Nat),pd a (r1++r2)=pd a r1++pd (a+r1.flatten.length) r2
 | [],_,a=>by simp[pd]
 | r::r1,r2,a=>by simp only[List.cons_append,pd,List.flatten_cons,List.length_append];rw[vg r1 r2,Nat.add_assoc]
theorem yB:∀ (rs:List (List Nat)) (a:Nat),(pd a rs).length=rs.length
 | [],_=>rfl
 | r::rs,a=>by simp only[pd,List.length_cons,yB rs]
structure Sr(κ:SortKind)(it:Array Keyed)(lt:Nat->Nat->Bool)(rs:List (List Nat))(T:List Nat)(st:SortSt):Prop where
 k:PyProof.Rows.kindOf st=κ
 f:failedOf st=none
 a:arrOf st=ar it (rs.flatten++T)
 p:(pendingOf st).toList.map (λ x=>(x.1,x.2.1))=pd 0 rs
 s:∀ r∈rs,0<r.length/\r.Pairwise (B lt)
 c:rs.Pairwise λ r1 r2=>∀ x∈r1,∀ y∈r2,x<y
 m:rs.flatten.Perm (List.range rs.flatten.length)
section
variable {prog:Program}{w:World}{A:Around}{E:VP}{s:Shared}{st:SortSt}{κ:SortKind}{it:Array Keyed}{lt:Nat->Nat->Bool}{N:Nat}{rs:List (List Nat)}{T:List Nat}
theorem Sr.pz(S:Sr κ it lt rs T st):(pendingOf st).size=rs.length:=by
 have:=congrArg List.length S.p
 simpa [yB] using this
theorem alC{i:Nat}(h:i+1<rs.length):∃ r1 as bs r2,rs=r1++as::bs::r2/\r1.length=i:=by refine⟨rs.take i,rs[i],rs[i+1],rs.drop (i+2),?_,by simp;omega⟩;rw[<- List.drop_eq_getElem_cons,<- List.drop_eq_getElem_cons,List.take_append_drop]
theorem nL(hc:fj prog w A s κ it lt N)(wk:gH lt)(S:Sr κ it lt rs T st)(hN:rs.flatten.length<=N){i:Nat}(h:i+1<rs.length){Q:Bool->SortSt->Prop}
  (q:∀ rs' st',Sr κ it lt rs' T st'->rs'.length+1=rs.length->rs'.flatten.length=rs.flatten.length->Q true st'):wpS (model prog w) A E s (mergeAt' i) Q st:=by
 obtain⟨r1,as,bs,r2,rfl,hi⟩:=alC h;have mem:∀ r∈r1++as::bs::r2,∀ x∈r,x<N:=λ r hr x hx=>by have:x∈(r1++as::bs::r2).flatten:=List.mem_flatten.mpr ⟨r,hr,hx⟩;have:=S.m.mem_iff.mp this;rw[List.mem_range] at this;omega
 have sa:=S.s as (by simp);have sb:=S.s bs (by simp);have c:=S.c;rw[List.pairwise_append,List.pairwise_cons,List.pairwise_cons] at c;have t:Nb lt N as bs:=⟨wk,sa.2,sb.2,c.2.1.1 bs (by simp),mem as (by simp),mem bs (by simp),sa.1,sb.1⟩;have p:=S.p;rw[vg] at p;simp only[pd,Nat.zero_add] at p;have l1:(pd 0 r1).length=i:=by rw[yB];exact hi
 have g1:=congrArg (·[i]?) p;have g2:=congrArg (·[i+1]?) p;rw[List.getElem?_append_right (by omega),l1,Nat.sub_self,List.getElem?_cons_zero,List.getElem?_map] at g1;rw[List.getElem?_append_right (by omega),l1,Nat.add_sub_cancel_left,List.getElem?_cons_succ,List.getElem?_cons_zero,List.getElem?_map] at g2;obtain⟨⟨s1,n1,w1⟩,e1,e1'⟩:=Option.map_eq_some_iff.mp g1;obtain⟨⟨s2,n2,w2⟩,e2,e2'⟩:=Option.map_eq_some_iff.mp g2;cases e1';cases e2';rw[Array.getElem?_toList] at e1 e2;have a:=S.a;have fl:(r1++as::bs::r2).flatten++T=r1.flatten++(as++(bs++(r2.flatten++T))):=by simp
 rw[fl] at a;refine xk hc t S.k S.f a e1 e2 λ st' o k f a' p' o1 o2=>q (r1++o::r2) st' ⟨k,f,?_,?_,λ r hr=>?_,?_,?_⟩ (by simp;omega) ?_
 .rw[a'];simp
 .rw[p',vg];simp only[Array.toList_setIfInBounds,Array.toList_eraseIdxIfInBounds,pd,Nat.zero_add];rw[qG,List.map_set,p,List.set_append_right _ _ (by omega),l1,Nat.sub_self,List.set_cons_zero,List.eraseIdx_append_of_length_le (by omega),l1,Nat.add_sub_cancel_left,List.eraseIdx_cons_succ,List.eraseIdx_cons_zero];have ol:=o2.length_eq;rw[List.length_append] at ol;rw[ol,Nat.add_assoc]
 .rcases List.mem_append.mp hr with z | z
  .exact S.s r (by simp[z])
  .rcases List.mem_cons.mp z with z | z
   .subst z;have ol:=o2.length_eq;rw[List.length_append] at ol;exact⟨by have:=sa.1;omega,o1⟩
   .exact S.s r (by simp[z])
 .rw[List.pairwise_append,List.pairwise_cons];refine⟨c.1,⟨λ r hr x hx y hy=>?_,c.2.1.2.2⟩,λ r hr r' hr' x hx y hy=>?_⟩
  .rcases List.mem_append.mp (o2.mem_iff.mp hx) with z | z
   .exact c.2.1.1 r (by simp[hr]) x z y hy
   .exact c.2.1.2.1 r hr x z y hy
  .rcases List.mem_cons.mp hr' with z | z
   .subst z;rcases List.mem_append.mp (o2.mem_iff.mp hy) with z | z
    .exact c.2.2 r hr as (by simp) x hx y z
    .exact c.2.2 r hr bs (by simp) x hx y z
   .exact c.2.2 r hr r' (by simp[z]) x hx y hy
 .have pp:(r1++o::r2).flatten.Perm (r1++as::bs::r2).flatten:=by simp only[List.flatten_append,List.flatten_cons];refine List.Perm.append_left _ ?_;rw[<- List.append_assoc];exact o2.append_right _
  rw[pp.length_eq];exact pp.trans S.m
 .have ol:=o2.length_eq;simp only[List.length_append] at ol;simp;omega
theorem lD(a n:Nat):List.range (a+n)=List.range a++(List.range n).map (a + ·):=by rw[List.range_add]
theorem range_drop{a N:Nat}(h:a<=N):(List.range N).drop a=(List.range (N-a)).map (a + ·):=by rw[show N=a+(N-a) by omega,lD,List.drop_left' (by simp),show a+(N-a)-a=N-a by omega]
structure Nr(lt:Nat->Nat->Bool)(N lo n:Nat)(p:Array Nat)(r:List Nat):Prop where
 l:r.length=n
 s:r.Pairwise (B lt)
 e:p.toList.map (lo + ·)=r++(List.range N).drop (lo+n)
 p:r.Perm ((List.range n).map (lo + ·))
theorem aeh{p:Array Nat}{n lo M:Nat}(hn:n<=M)(u:Un p M n)(pm:p.toList.Perm (List.range M))(up:Up (λ i j=>lt (lo+i) (lo+j)) p n):Nr lt (lo+M) lo n p ((p.toList.take n).map (lo + ·)):=by
 have hz:=u.size;have gt:∀ i,(h:i<p.size)->g p i=p.toList[i]'(by simpa using h):=λ i h=>by rw[vO];simp[h]
 have ed:p.toList.drop n=(List.range M).drop n:=by
  apply List.ext_getElem
  .simp[hz]
  .intro i h1 h2;simp only[List.length_drop,Array.length_toList] at h1;have:=u.hi (n+i) (by omega) (by omega);rw[gt _ (by omega)] at this;simp only[List.getElem_drop,List.getElem_range];exact this
 refine⟨by simp;omega,?_,?_,?_⟩
 .rw[List.pairwise_map,List.pairwise_iff_getElem];intro i j hi hj hij;simp only[List.length_take,Array.length_toList] at hi hj;have:=up i j hij (by omega);rw[gt i (by omega),gt j (by omega)] at this;simp only[List.getElem_take];rcases this with z | ⟨z1,z2,z3⟩
  .exact .inl z
  .exact .inr ⟨z1,z2,by omega⟩
 .rw[range_drop (show lo+n<=lo+M by omega),show lo+M-(lo+n)=M-n by omega];have:=congrArg (List.map (lo + ·)) ed;rw[range_drop hn,List.map_map] at this
  conv=>lhs;rw[<- List.take_append_drop n p.toList,List.map_append,this]
  congr 1;apply List.map_congr_left;intro x _;show lo+(n+x)=lo+n+x;omega
 .refine List.Perm.map _ ?_;have e2:p.toList.take n++(List.range M).drop n=p.toList:=by rw[<- ed,List.take_append_drop]
  have e3:List.range n++(List.range M).drop n=List.range M:=by have:=List.take_append_drop n (List.range M);rw[List.take_range,Nat.min_eq_left hn] at this;exact this
  have:(p.toList.take n++(List.range M).drop n).Perm (List.range n++(List.range M).drop n):=by rw[e2,e3];exact pm
  exact(List.perm_append_right_iff _).mp this
end
open L2 S PySem.W
section
variable {prog:Program}{w:World}{A:Around}{E:VP}{s:Shared}{st:SortSt}{κ:SortKind}{it:Array Keyed}{lt:Nat->Nat->Bool}{N:Nat}{rs:List (List Nat)}{T:List Nat}
theorem wF{st:SortSt}{x:Array Keyed}(h:arrOf st=x):st=setArr st x:=by rw[<- h]
theorem Sr.more{r:List Nat}{lo n:Nat}{p:Array Nat}{st':SortSt}(S:Sr κ it lt rs (r++T) st)(hl:rs.flatten.length=lo)(h:Nr lt N lo n p r)(h1:1<=n)(hk:PyProof.Rows.kindOf st'=PyProof.Rows.kindOf st)(hf:failedOf st'=failedOf st)(ha:arrOf st'=arrOf st)
  (hp:(pendingOf st').toList.map (λ x=>(x.1,x.2.1))=(pendingOf st).toList.map (λ x=>(x.1,x.2.1))++[(lo,n)]):Sr κ it lt (rs++[r]) T st':=by
 refine⟨hk.trans S.k,hf.trans S.f,?_,?_,λ x hx=>?_,?_,?_⟩
 .rw[ha,S.a];simp
 .rw[hp,S.p,vg,hl,Nat.zero_add];simp[pd,h.l]
 .rcases List.mem_append.mp hx with z | z
  .exact S.s x z
  .rw[List.mem_singleton] at z;subst z;exact⟨by rw[h.l];exact h1,h.s⟩
 .rw[List.pairwise_append];refine⟨S.c,List.pairwise_singleton _ _,λ r1 hr1 r2 hr2 x hx y hy=>?_⟩;rw[List.mem_singleton] at hr2;subst hr2;have m1:=S.m.mem_iff.mp (List.mem_flatten.mpr ⟨r1,hr1,hx⟩);rw[List.mem_range,hl] at m1;obtain⟨j,_,rfl⟩:=List.mem_map.mp (h.p.mem_iff.mp hy);omega
 .simp only[List.flatten_append,List.flatten_cons,List.flatten_nil,List.append_nil,List.length_append];rw[hl,h.l,lD];have m:=S.m;rw[hl] at m;exact m.append h.p
theorem oF{α β:Type}(f:α->α)(g:α->β)(h:∀ x,g (f x)=g x):∀ (l:List α) (i:Nat),(l.modify i f).map g=l.map g
 | [],0=>rfl
 | [],_+1=>rfl
 | a::l,0=>by simp[List.modify_cons,h]
 | a::l,i+1=>by simp[List.modify_cons,oF f g h l i]
theorem akR(b:Bool)(i:Nat):(if b=true then i-1 else i)<=i:=by split<;>omega
theorem vP{lo:Nat}(h:gH lt):gH λ i j=>lt (lo+i) (lo+j):=⟨λ a b=>h.aeP _ _,λ a b c=>h.tr _ _ _⟩
theorem fj.shift{lo:Nat}(hc:fj prog w A s κ it lt N)(hl:lo<=N):Ans prog w A E s κ (λ i=>kas_item it (lo+i)) (λ i j=>lt (lo+i) (lo+j)) (N-lo):=
 λ i j hi hj st R hk r=>oO hc hk (by omega) (by omega) r
theorem tX(hc:fj prog w A s κ it lt N)(wk:gH lt)(hN:2<=N)(S:Sr κ it lt [] (List.range N) st){Q:Unit->SortSt->Prop}
  (q:∀ st' r,arrOf st'=ar it r->failedOf st'=none->r.Pairwise (B lt)->r.Perm (List.range N)->Q () st'):wpS (model prog w) A E s sortRuns' Q st:=by
 rw[sortRuns'_eq]
 walk_at "whr"
 refine wpS_bind (wpS_get ?_)
 walk_at "whr"
 have hz:(arrOf st).size=N:=by rw[S.a,qf];simp
 rw[hz];refine wpS_bind (wpS_mono (wpS_forRange (I:=λ x c st'=>c.1=none/\∃ rs,Sr κ it lt rs ((List.range N).drop rs.flatten.length) st'/\c.2=rs.flatten.length/\x<=rs.flatten.length/\rs.flatten.length<=N) (Q:=λ c st'=>c.1=none/\∃ rs,Sr κ it lt rs [] st'/\rs.flatten.length=N) ?_ ?_ ?_) ?_)
 .rintro x ⟨c1,c2⟩ st1 _ hx ⟨e0,rs,S1,e1,h1,h2⟩;dsimp only at e0 e1;subst e0;rw[e1];clear e1 c2;generalize hlo:rs.flatten.length=lo at S1 h1 h2 ⊢
  walk_at "whr"
  split
  .rename_i z
   refine wpS_pure ⟨rfl,rs,?_,by omega⟩;have:(List.range N).drop lo=[]:=by apply List.drop_eq_nil_of_le;rw[List.length_range];omega
   rw[this] at S1;exact S1
  .rename_i z
   refine pB λ Q' q'=>?_;have ea:arrOf st1=ar it rs.flatten++(List.toArray (List.range (N-lo))).map (λ i=>kas_item it (lo+i)):=by rw[S1.a,range_drop h2];simp[ar]
   refine Eq.mpr (congrArg (wpS (model prog w) A E s _ _) (wF ea)) ?_;have hpre:(ar it rs.flatten).size=lo:=by rw[qf];exact hlo
   have A1:Ans prog w A E s κ (λ i=>kas_item it (lo+i)) (λ i j=>lt (lo+i) (lo+j)) (N-lo):=hc.shift h2;have b1:Bd (N-lo) (List.toArray (List.range (N-lo))):=⟨by simp,λ x hx=>by simpa using hx⟩;have eg:∀ i,i<N-lo->g (List.toArray (List.range (N-lo))) i=i:=λ i hi=>by rw[vO];simp[hi]
   obtain⟨d1,d2,d3,d4,d5⟩:=vG (vP (lo:=lo) wk) (show 1<=N-lo by omega) (p:=List.toArray (List.range (N-lo))) ⟨by simp,λ i hi=>by rw[eg i (by omega)];exact hi,λ i _ hi=>eg i hi⟩ (by simp);refine wpS_bind (ahy A1 S1.k hpre b1 (by omega) ?_);generalize go (λ i j=>lt (lo+i) (lo+j)) (kas_count (N-lo) (List.toArray (List.range (N-lo))))=mp at d1 d2 d3 d4 d5 ⊢;obtain⟨m,p2⟩:=mp;dsimp only at d1 d2 d3 d4 d5
   walk_at "whr"
   extract_lets +onlyGivenNames -underBinder -merge jp
   have hjp:∀ u n p3,1<=n->n<=N-lo->Un p3 (N-lo) n->p3.toList.Perm (List.range (N-lo))->Up (λ i j=>lt (lo+i) (lo+j)) p3 n->wpS (model prog w) A E s (jp u n) Q' (sA st1 (ar it rs.flatten) (λ i=>kas_item it (lo+i)) p3):=by
    clear d1 d2 d3 d4 d5 m p2;intro u n p3 d1 d2 d3 d4 d5;unfold jp
    walk_at "whr"
    have nr:=aeh (lt:=lt) (lo:=lo) d2 d3 d4 d5;rw[show lo+(N-lo)=N by omega] at nr;generalize (p3.toList.take n).map (lo + ·)=r at nr;have S2:Sr κ it lt rs (r++(List.range N).drop (lo+n)) (sA st1 (ar it rs.flatten) (λ i=>kas_item it (lo+i)) p3):=by
     refine⟨S1.k,S1.f,?_,S1.p,S1.s,S1.c,S1.m⟩;show ar it rs.flatten++p3.map (λ i=>kas_item it (lo+i))=_;have:p3.map (λ i=>kas_item it (lo+i))=ar it (r++(List.range N).drop (lo+n)):=by rw[<- nr.e];simp[ar,Function.comp_def];apply Array.toList_inj.mp;simp
     rw[this,eU]
    generalize sA st1 (ar it rs.flatten) (λ i=>kas_item it (lo+i)) p3=st2 at S2;refine wpS_bind (wpS_get ?_)
    walk_at "whr"
    extract_lets +onlyGivenNames -underBinder -merge jp
    have hjp:∀ u rs2 st3,Sr κ it lt rs2 (r++(List.range N).drop (lo+n)) st3->rs2.flatten.length=lo->wpS (model prog w) A E s (jp u) Q' st3:=by
     intro u rs2 st3 S3 h3;unfold jp
     walk_at "whr"
     refine wpS_bind (wpS_modify ?_)
     walk_at "whr"
     have fl:(rs2++[r]).flatten.length=lo+n:=by simp only[List.flatten_append,List.flatten_cons,List.flatten_nil,List.append_nil,List.length_append,h3,nr.l]
     refine wpS_pure (q' _ _ ⟨rfl,rs2++[r],?_,?_,?_,?_⟩)
     .rw[fl];exact S3.more h3 nr d1 rfl rfl rfl (by show((pendingOf st3).push (lo,n,0)).toList.map _=_;simp)
     .rw[fl]
     .rw[fl];omega
     .rw[fl];omega
    clear_value jp
    split
    .rename_i s1 n1 _ _
     walk_at "whr"
     refine wpS_bind (wpS_mono (wpS_forRange (I:=λ x c st'=>c.1=none/\∃ rs2,Sr κ it lt rs2 (r++(List.range N).drop (lo+n)) st'/\rs2.flatten.length=lo) (Q:=λ c st'=>c.1=none/\∃ rs2,Sr κ it lt rs2 (r++(List.range N).drop (lo+n)) st'/\rs2.flatten.length=lo) ?_ (λ _ _ h=>h) ⟨rfl,rs,S2,hlo⟩) ?_)
     .rintro x2 c st3 _ _ ⟨e3,rs2,S3,h3⟩
      walk_at "whr"
      refine wpS_bind (wpS_get ?_)
      walk_at "whr"
      split
      .rename_i e4
       split at e4
       .rename_i e5
        split
        .exact wpS_pure ⟨rfl,rs2,S3,h3⟩
        .refine wpS_bind (nL hc wk S3 (by omega) (by have:=S3.pz;omega) λ rs4 st4 S4 _ h4=>?_)
         walk_at "whr"
         rw[if_neg (by decide)];exact wpS_pure ⟨rfl,rs4,S4,h4.trans h3⟩
       .cases e4
      .exact wpS_pure ⟨rfl,rs2,S3,h3⟩
     .rintro c st3 ⟨e3,rs2,S3,h3⟩
      walk_at "whr"
      rw[e3]
      walk_at "whr"
      refine wpS_bind (wpS_modify ?_);refine hjp _ rs2 _ ⟨S3.k,S3.f,S3.a,?_,S3.s,S3.c,S3.m⟩ h3;rw[<- S3.p];show((pendingOf st3).modify _ _).toList.map _=_;rw[Array.toList_modify];refine oF _ _ ?_ _ _;intro x;rfl
    .exact hjp _ rs _ S2 hlo
   clear_value jp
   split
   .rename_i z2
    refine wpS_bind (wpS_lift (wpAny_rule ⟨rfl,?_⟩))
    walk_at "whr"
    have bp:Bd (N-lo) p2:=⟨d3.size,λ x hx=>by simpa using d4.mem_iff.mp hx⟩;refine wpS_bind (alG A1 S1.k hpre bp (Nat.min_le_left _ _) ?_)
    walk_at "whr"
    rw[if_neg (by decide)]
    walk_at "whr"
    have em:max m 1=m:=by omega
    rw[em];have hf:m+(min (N-lo) (minRun' N N 0)-m)=min (N-lo) (minRun' N N 0):=by omega
    have o1:=aaP (vP (lo:=lo) wk) (min (N-lo) (minRun' N N 0)-m) p2 m (by omega) d3 d4 d5;have o2:=adA (λ i j=>lt (lo+i) (lo+j)) (min (N-lo) (minRun' N N 0)-m) p2 m (by omega) d3;rw[hf] at o1 o2;exact hjp _ _ _ (by omega) (by omega) o2 o1.1 o1.2
   .exact hjp _ _ _ d1 d2 d3 d4 d5
 .rintro⟨c1,c2⟩ st1 ⟨e0,rs,S1,e1,h1,h2⟩;refine⟨e0,rs,?_,by omega⟩;have:(List.range N).drop rs.flatten.length=[]:=by apply List.drop_eq_nil_of_le;rw[List.length_range];omega
  rw[this] at S1;exact S1
 .exact⟨rfl,[],S,rfl,Nat.zero_le _,Nat.zero_le _⟩
 .rintro⟨c1,c2⟩ st1 ⟨e0,rs,S1,e1⟩;dsimp only at e0;subst e0
  walk_at "whr"
  have hlen:rs.length<=N:=by
   rw[<- e1];have:∀ l:List (List Nat),(∀ r∈l,0<r.length)->l.length<=l.flatten.length:=by
    intro l
    induction l with
    | nil=>intro _;exact lr0 _
    | cons r l ih =>
     intro h;have h1:=h r (by simp);have h2:=ih λ r hr=>h r (by simp[hr]);simp only[List.length_cons,List.flatten_cons,List.length_append];omega
   exact this rs λ r hr=>(S1.s r hr).1
  refine wpS_bind (wpS_mono (wpS_forRange (I:=λ x c st'=>c.1=none/\∃ rs2,Sr κ it lt rs2 [] st'/\rs2.flatten.length=N/\rs2.length+x<=N) (Q:=λ c st'=>c.1=none/\∃ rs2,Sr κ it lt rs2 [] st'/\rs2.flatten.length=N/\rs2.length<=1) ?_ ?_ ⟨rfl,rs,S1,e1,by omega⟩) ?_)
  .rintro x2 c st3 _ _ ⟨e3,rs2,S3,h3,h3'⟩
   walk_at "whr"
   refine wpS_bind (wpS_get ?_)
   walk_at "whr"
   have pz:=S3.pz
   split
   .rename_i z
    exact wpS_pure ⟨rfl,rs2,S3,h3,by omega⟩
   .rename_i z
    walk_at "whr"
    refine wpS_bind (nL hc wk S3 (by omega) (Nat.lt_of_le_of_lt (Nat.add_le_add_right (akR _ _) 1) (by omega)) λ rs4 st4 S4 h5 h4=>?_)
    walk_at "whr"
    rw[if_neg (by decide)];exact wpS_pure ⟨rfl,rs4,S4,h4.trans h3,by omega⟩
  .rintro c st3 ⟨e3,rs2,S3,h3,h3'⟩;exact⟨e3,rs2,S3,h3,by omega⟩
  .rintro c st3 ⟨e3,rs2,S3,h3,h3'⟩
   walk_at "whr"
   rw[e3]
   walk_at "whr"
   match rs2,h3,h3',S3 with
   | [],h3,_,_=>simp at h3;omega
   | [r],h3,_,S3 =>
    simp at h3;refine wpS_pure (q _ r ?_ S3.f (S3.s r (by simp)).2 ?_)
    .rw[S3.a];simp
    .have:=S3.m
     simpa [h3] using this
   | _::_::_,_,h,_=>simp at h
end
end Sw
namespace S
open PySem PySem.W PyProof.Rows
section
variable {prog:Program}{w:World}{A:Around}{E:VP}{s:Shared}
theorem B.aeP{lt:Nat->Nat->Bool}(h:gH lt){a b:Nat}(q:B lt a b)(r:B lt b a):False:=by
 rcases q with q | ⟨q1,q2,q3⟩
 .rcases r with r | ⟨r1,r2,r3⟩
  .have:=h.aeP _ _ q;rw[r] at this;cases this
  .rw[q] at r2;cases r2
 .rcases r with r | ⟨r1,r2,r3⟩
  .rw[r] at q2;cases q2
  .omega
theorem ajL{lt:Nat->Nat->Bool}(h:gH lt):∀ {as bs:List Nat},as.Perm bs->as.Pairwise (B lt)->bs.Pairwise (B lt)->as=bs:=λ p q r =>
 List.Perm.eq_of_pairwise (λ _ _ _ _ x y=>(B.aeP h x y).elim) q r p
theorem agg{κ:SortKind}{ks vs:List Value}{lt:Nat->Nat->Bool}(hl:ks.length=vs.length)(h2:2<=vs.length)(wk:gH lt)
  (hc:∀ i j,i<vs.length->j<vs.length->∀ (C:Bool->Shared->Prop),C (lt i j) s->kas_ask prog w A κ ks i j C s) :
  wpAny (model prog w) A ((sortRuns').run (SortSt.mk' κ (ks.toArray.zip vs.toArray) #[] 7 none)) (λ r s'=>s'=s/\failedOf r.2=none/\(arrOf r.2).map (·.2)=List.toArray ((bS lt vs.length).map λ i=>vs.getD i Value.none)/\(bS lt vs.length).length=vs.length) E s:=by
 rw[kat_ask_eq hl] at hc;have e:=kas_range (ks.toArray.zip vs.toArray);rw[show(ks.toArray.zip vs.toArray).size=vs.length by simp[hl]] at e;have S0:Sw.Sr κ (ks.toArray.zip vs.toArray) lt [] (List.range vs.length) (SortSt.mk' κ (ks.toArray.zip vs.toArray) #[] 7 none):=by refine⟨rfl,rfl,?_,rfl,λ _ h=>by simp at h,List.Pairwise.nil,by simp⟩;show ks.toArray.zip vs.toArray=_;refine e.symm.trans ?_;unfold Sw.ar;rw[List.map_toArray];rfl
 have main:=Sw.tX (prog:=prog) (w:=w) (A:=A) (E:=E) (s:=s) hc wk h2 S0 (Q:=λ _ st'=>failedOf st'=none/\(arrOf st').map (·.2)=List.toArray ((bS lt vs.length).map λ i=>vs.getD i Value.none)/\(bS lt vs.length).length=vs.length) λ st' r ha hf hp hr=>by
  obtain⟨o1,o2⟩:=vI wk vs.length;have er:r=bS lt vs.length:=ajL wk (hr.trans o1.symm) hp o2;refine⟨hf,?_,by have:=o1.length_eq;simpa using this⟩;rw[<- er];have:=kat_snds (ks:=ks) (vs:=vs) hl (st:=st') (p:=r.toArray) (by rw[ha];simp[Sw.ar])
  simpa using this
 exact wpAny_mono main (λ r s' h=>h) λ _ _ e=>e
end
end S
namespace D
open L2 S
section
variable {X:Cx}{K:FG}
end
open PySem.W
section
variable {X:Cx}{pins:PN}{σ:St}{f a kS:Addr}{xs:List V}{us:List Value}{e1:Nat}
theorem rq{E:VP}(Wt:Nat->List V->Hp->Prop)(hak:a≠kS)(fA:∀ H:Hp,H a=none->kO X pins H a)(fS:∀ H:Hp,H kS=none->kO X pins H kS)(rx:Vals xs us)(h64:us.length<=1000)
  (turn:∀ (i:Nat) (ys:List V) (v:V) (u:Value) (pl:PN) (H:Hp) (s:Shared),xs[i]? =some v->RelV v u->Wt i ys H->Inv X pl σ H s->wpAny (model X.prog X.w) X.A (call (.ref f) [u]) (EP X pl σ λ y H'=>Wt (i+1) (ys++[y]) H') (λ _ _=>False) s)
  {body:Value->PUnit->Sem (ForInStep PUnit)}
  (hb:∀ x ks e (s:Shared) (C:VP),List.length ks<=1000->wpAny (model X.prog X.w) X.A (call (.ref f) [x]) (λ k s2=>s2.heap.get? kS=some (seqObj "list" (List.toArray ks) e)/\∀ h' c,Heap.SameBut kS s2.heap h'->h'.get? kS=some (seqObj "list" (List.toArray (ks++[k])) c)->C k {s2 with heap:=h'}) (λ _ _=>False) s ->
   wpAny (model X.prog X.w) X.A (body x ⟨⟩) (λ r s'=>r=.yield ⟨⟩/\∃ k c,s'.heap.get? kS=some (seqObj "list" (List.toArray (ks++[k])) c)/\C k s') E s) :
  ∀ (r:List Value) (i:Nat) (ys:List V) (ks:List Value) (e:Nat) (H:Hp) (s:Shared),us.drop i=r->i<=us.length->Vals ys ks->ks.length=i->Wt i ys H->Inv X pins σ H s->H a=none->H kS=none->s.heap.get? a=some (seqObj "list" #[] e1)->s.heap.get? kS=some (seqObj "list" (List.toArray ks) e) ->
   wpAny (model X.prog X.w) X.A (forIn r PUnit.unit body) (λ _ s'=>∃ ys ks e H,Vals ys ks/\ks.length=us.length/\Wt us.length ys H/\Inv X pins σ H s'/\H a=none/\H kS=none/\s'.heap.get? a=some (seqObj "list" #[] e1)/\s'.heap.get? kS=some (seqObj "list" (List.toArray ks) e)) E s
 | [],i,ys,ks,e,H,s,hr,hi,rv,hl,hW,I,na,nk,ga,gk=>by
  rw[List.forIn_nil];have:us.length<=i:=by have:=congrArg List.length hr;rw[List.length_drop] at this;simp at this;omega
  have ei:i=us.length:=by omega
  exact wp ⟨ys,ks,e,H,rv,by omega,by rw[<- ei];exact hW,I,na,nk,ga,gk⟩
 | x::r,i,ys,ks,e,H,s,hr,hi,rv,hl,hW,I,na,nk,ga,gk=>by
  have hlt:i<us.length:=by have:=congrArg List.length hr;rw[List.length_drop] at this;simp at this;omega
  have hx:us[i]? =some x:=by
   have:=congrArg (·[0]?) hr
   simpa using this
  have hr':us.drop (i+1)=r:=by
   have:=congrArg List.tail hr
   simpa using this
  obtain⟨v,hv,ru⟩:∃ v,xs[i]? =some v/\RelV v x:=by obtain⟨v,hv⟩:∃ v,xs[i]? =some v:=⟨_,List.getElem?_eq_getElem (show i<xs.length by rw[rx.length];exact hlt)⟩;obtain⟨u,hu,ru⟩:=rx.get hv;rw[hx] at hu;cases hu;exact⟨v,hv,ru⟩
  rw[List.forIn_cons];have JP:=I.alx (fA H na) (fS H nk) ga gk (λ _ z=>nomatch z) (λ _ z=>nomatch z);refine wb0 (wpAny_mono (hb x ks e s (λ k s'=>∃ y H',RelV y k/\Wt (i+1) (ys++[y]) H'/\Inv X pins σ H' s'/\H' a=none/\H' kS=none/\s'.heap.get? a=some (seqObj "list" #[] e1)) (by omega) (wpAny_mono (turn i ys v x _ H s hv ru hW JP) (λ k s2 he=>?_) λ _ _ z=>z)) (λ q s' hq=>?_) λ _ _ z=>z)
  .obtain⟨y,H2,J2,ry,hW2⟩:=he;obtain⟨J3,⟨ga2,na2⟩,gk2,nk2⟩:=J2.ahS;refine⟨gk2,λ h' c s1 gk3=>⟨y,H2,ry,hW2,J3.abX (t':=s2.toks) (fS H2 nk2) λ b o hb e=>(s1.2 b hb).trans e,na2,nk2,(s1.2 a hak).trans ga2⟩⟩
  .obtain⟨rfl,k,c,gk3,y,H2,ry,hW2,J3,na2,nk2,ga2⟩:=hq;show wpAny (model X.prog X.w) X.A (forIn r PUnit.unit body) _ E s';refine rq Wt hak fA fS rx h64 turn hb r (i+1) (ys++[y]) (ks++[k]) c H2 s' hr' hlt ?_ (by simp[hl]) hW2 J3 na2 nk2 ga2 gk3;exact Vals.append rv (.cons ry .nil)
theorem rB{H:Hp}{s:Shared}{st:SortSt}{ks out:List Value}{e:Nat}{P:PySem.Fin->Shared->Prop}{E:VP}(hak:a≠kS)(fA:∀ H:Hp,H a=none->kO X pins H a)(fS:∀ H:Hp,H kS=none->kO X pins H kS)(I:Inv X pins σ H s)(na:H a=none)(nk:H kS=none)(ga:s.heap.get? a=some (seqObj "list" #[] e1))(gk:s.heap.get? kS=some (seqObj "list" (List.toArray ks) e))
  (hout:(arrOf st).map (·.2)=List.toArray out)(hz:out.length<=1000)(hkz:ks.length<=1000)(hf:failedOf st=none)
  (fin:∀ s' c,Inv X pins σ H s'->s'.heap.get? a=some (seqObj "list" (List.toArray out) c)->P (.done (.ret .none)) s'):wpAny (model X.prog X.w) X.A (ksk_tail a false e1 (.ref kS) st) P E s:=by
 have s1:=Heap.SameBut.update s.heap kS (Obj.mapSeq λ _=>(#[]:Array Value));have ga1:(s.heap.update kS (Obj.mapSeq λ _=>(#[]:Array Value))).get? a=some (seqObj "list" #[] e1):=(s1.2 a hak).trans ga;have s2:=Heap.SameBut.update (s.heap.update kS (Obj.mapSeq λ _=>(#[]:Array Value))) a (Obj.mapSeq λ _=>List.toArray out);obtain⟨c2,hc2⟩:∃ c2,((s.heap.update kS (Obj.mapSeq λ _=>(#[]:Array Value))).update a (Obj.mapSeq λ _=>List.toArray out)).get? a=some (seqObj "list" (List.toArray out) c2):=⟨_,get?_update_seq ga1 λ _=>List.toArray out⟩;have I1:=I.abX (t':=s.toks) (h':=s.heap.update kS (Obj.mapSeq λ _=>(#[]:Array Value))) (fS H nk) λ b o hb e=>(s1.2 b hb).trans e;have I2:=I1.abX (t':=s.toks) (h':=(s.heap.update kS (Obj.mapSeq λ _=>(#[]:Array Value))).update a (Obj.mapSeq λ _=>List.toArray out)) (fA H na) λ b o hb e=>(s2.2 b hb).trans e;unfold ksk_tail
 try dsimp only
 rw[hout];refine wb0 (listUpdate_at gk rfl ?_ (by rw[List.size_toArray,sizeLine_eq];omega) (Nat.zero_le _));refine wb0 (wpAny_letGo ?_);refine wb0 (seqEpoch_at ga1 rfl ?_);simp only[Bool.false_eq_true,if_false];refine wb0 (listUpdate_at ga1 rfl ?_ (Nat.zero_le _) (by rw[List.size_toArray,sizeLine_eq];omega));rw[hf];simp only[bne_self_eq_false,Bool.false_eq_true,if_false];exact wp (fin _ c2 I2 hc2)
theorem yp{H:Hp}{s:Shared}{n:Nat}{lt:Nat->Nat->Bool}{P:PySem.Fin->Shared->Prop}{E:VP}(wk:gH lt)(Wt:Nat->List V->Hp->Prop)(I:Inv X pins σ H s)(hW:Wt 0 [] H)(ho:s.heap.get? a=some (seqObj "list" us.toArray n))(na:H a=none)(fA:∀ H:Hp,H a=none->kO X pins H a)(rx:Vals xs us)(h64:us.length<=1000)
  (turn:∀ (i:Nat) (ys:List V) (v:V) (u:Value) (pl:PN) (H:Hp) (s:Shared),xs[i]? =some v->RelV v u->Wt i ys H->Inv X pl σ H s->wpAny (model X.prog X.w) X.A (call (.ref f) [u]) (EP X pl σ λ y H'=>Wt (i+1) (ys++[y]) H') (λ _ _=>False) s)
  (cmp:∀ (ys:List V) (ks:List Value) (H:Hp) (s:Shared),Wt us.length ys H->Vals ys ks->Inv X pins σ H s->ks.length=us.length->2<=us.length->∃ κ,(∀ (Q:SortKind->Shared->Prop),Q κ s->wpAny (model X.prog X.w) X.A (keyKind' ks.toArray) Q (λ _ _=>False) s)/\∀ i j,i<us.length->j<us.length->∀ C:Bool->Shared->Prop,C (lt i j) s->kas_ask X.prog X.w X.A κ ks i j C s)
  (fin:∀ (ys:List V) (H:Hp) (s:Shared) (c:Nat),Wt us.length ys H->Inv X pins σ H s->H a=none->s.heap.get? a=some (seqObj "list" (List.toArray ((bS lt us.length).map λ i=>us.getD i Value.none)) c)->P (.done (.ret .none)) s) :
  wpAny (model X.prog X.w) X.A (ksk_tree a (.ref f) false) P E s:=by
 have ha:a<s.heap.objs.size:=Heap.lt_size ho;have s1:=Heap.SameBut.update s.heap a (Obj.mapSeq λ _=>(#[]:Array Value));obtain⟨e1,ho1⟩:∃ e1,(s.heap.update a (Obj.mapSeq λ _=>(#[]:Array Value))).get? a=some (seqObj "list" #[] e1):=⟨_,get?_update_seq ho λ _=>#[]⟩;have I1:=I.abX (t':=s.toks) (h':=s.heap.update a (Obj.mapSeq λ _=>(#[]:Array Value))) (fA H na) λ b o hb e=>(s1.2 b hb).trans e;generalize hk:((s.heap.update a (Obj.mapSeq λ _=>(#[]:Array Value))).push (seqObj "tuple" us.toArray 0)).objs.size=kS;have hkS:kS=s.heap.objs.size+1:=by rw[<- hk,size_push',Heap.size_update]
 have hge:s.heap.objs.size<=kS:=by rw[hkS];exact Nat.le_succ _
 have nk:H kS=none:=I.hok.fresh hge;have fS:∀ H:Hp,H kS=none->kO X pins H kS:=λ H h=>I.uY hge h;have hak:a≠kS:=by rw[hkS];exact Nat.ne_of_lt (Nat.lt_succ_of_lt ha)
 unfold ksk_tree;refine wb0 (listItems_at ho rfl ?_);refine wb0 (listUpdate_at ho rfl ?_ (by rw[List.size_toArray,sizeLine_eq];omega) (Nat.zero_le _));refine wb0 (seqEpoch_at ho1 rfl ?_);refine wb0 (wpAny_newTuple ?_ (by show us.length<=_;rw[sizeLine_eq];omega));refine wb0 (wpAny_newList ?_ (Nat.zero_le _));refine wpAny_holding ?_;have kp:∀ b o,(s.heap.update a (Obj.mapSeq λ _=>(#[]:Array Value))).get? b=some o->(((s.heap.update a (Obj.mapSeq λ _=>(#[]:Array Value))).push (seqObj "tuple" us.toArray 0)).push (seqObj "list" #[] 0)).get? b=some o:=λ b o e=>Heap.get?_push_of_some _ (Heap.get?_push_of_some _ e);have I2:=I1.kept (t':=s.toks) kp;have gk:(((s.heap.update a (Obj.mapSeq λ _=>(#[]:Array Value))).push (seqObj "tuple" us.toArray 0)).push (seqObj "list" #[] 0)).get? kS=some (seqObj "list" (List.toArray []) 0):=by rw[<- hk];exact Heap.get?_push_size _ rfl
 have ga:=kp a _ ho1;show wpAny _ _ (ksk_rest a (.ref f) false us.toArray e1 (.ref ((s.heap.update a (Obj.mapSeq λ _=>(#[]:Array Value))).push (seqObj "tuple" us.toArray 0)).objs.size)) _ _ _;rw[hk];unfold ksk_rest;refine wb0 (wpAny_rule ?_)
 first
  | rw[List.forIn_toArray]
  | (rw[<- Array.forIn_toList];simp only[List.toList_toArray])
  | rw[<- Array.forIn_toList]
 refine wb0 (wpAny_mono (rq (e1:=e1) Wt hak fA fS rx h64 turn (λ x ks e s' C hz hx=>?_) us 0 [] [] 0 H _ rfl (Nat.zero_le _) .nil rfl hW I2 na nk ga gk) (λ _ s' hd=>?_) λ _ _ x=>x)
 .refine wb0 (wpAny_attempt (wpAny_mono hx (λ k s2 hk2=>?_) λ _ _ hF=>hF.elim));obtain⟨gk2,c⟩:=hk2;have s3:=Heap.SameBut.update s2.heap kS (Obj.mapSeq (·.push k));have ea:(List.toArray ks).push k=List.toArray (ks++[k]):=by simp
  obtain⟨c2,hc2⟩:∃ c2,(s2.heap.update kS (Obj.mapSeq (·.push k))).get? kS=some (seqObj "list" (List.toArray (ks++[k])) c2):=⟨_,by rw[<- ea];exact get?_update_seq gk2 (·.push k)⟩
  try dsimp only
  refine wb0 (listUpdate_at gk2 rfl ?_ (by rw[List.size_toArray,sizeLine_eq];omega) (Nat.le_trans (Nat.le_of_eq (Array.size_push ..)) (by rw[List.size_toArray,sizeLine_eq];omega)));exact wp ⟨rfl,k,c2,hc2,c _ c2 s3 hc2⟩
 .obtain⟨ys,ks,e,H',rv,hl,hW',J,na',nk',ga',gk'⟩:=hd
  try dsimp only
  refine wb0 (listItems_at gk' rfl ?_);have hz:us.toArray.size=us.length:=by simp
  unfold ksk_end
  try dsimp only
  simp only[Bool.false_eq_true,if_false]
  by_cases h2:us.length<2
  .rw[if_pos (by rw[hz];exact h2),if_pos (by rw[hz];exact h2)];refine wb0 (wp ?_);rw[StateT.run_pure];refine wb0 (wp ?_);dsimp only;have out:=kat_snds (ks:=ks) (vs:=us) hl (st:=SortSt.mk' general' (ks.toArray.zip us.toArray) #[] 7 none) (p:=List.toArray (List.range us.length)) (by have e:=kas_range (ks.toArray.zip us.toArray);rw[show(ks.toArray.zip us.toArray).size=us.length by simp[hl]] at e;exact e.symm)
   refine rB hak fA fS J na' nk' ga' gk' out (by simp;omega) (by omega) rfl λ s3 c J3 g3=>fin ys H' s3 c hW' J3 na' ?_;unfold bS;rw[if_pos h2]
   simpa using g3
  .rw[if_neg (by rw[hz];exact h2),if_neg (by rw[hz];exact h2)];obtain⟨κ,hk',hc'⟩:=cmp ys ks H' s' hW' rv J hl (by omega);refine wb0 (wpAny_mono (hk' (λ κ' s3=>κ'=κ/\s3=s') ⟨rfl,rfl⟩) (λ κ' s3 e3=>?_) λ _ _ z=>z.elim);obtain⟨rfl,rfl⟩:=e3;refine wb0 (wpAny_mono (agg (ks:=ks) (vs:=us) hl (by omega) wk hc') ?_ λ _ _ e=>e)
   .rintro⟨⟨⟩,st'⟩ s4 ⟨rfl,hf,har,hln⟩;dsimp only;exact rB hak fA fS J na' nk' ga' gk' har (by rw[lm,hln];exact h64) (by omega) hf λ s4 c J4 g4=>fin ys H' s4 c hW' J4 na' g4
end
def ltI(ks:List Int)(i j:Nat):Bool:=decide (ks.getD i 0<ks.getD j 0)
theorem uS(ks:List Int):gH (ltI ks):=⟨λ a b h=>by simp only[ltI,decide_eq_true_eq,decide_eq_false_iff_not] at h ⊢;omega,λ a b c h1 h2=>by simp only[ltI,decide_eq_false_iff_not] at h1 h2 ⊢;omega⟩
section
variable {X:Cx}{pins:PN}{σ:St}{f d:Addr}
theorem ints_getD{vs:List Value}{ns:List Int}(h:IntsAre vs ns){i:Nat}(hi:i<ns.length):∃ t,vs.getD i Value.none=.int (ns.getD i 0) t:=by obtain⟨t,e⟩:=acv h i (ns.getD i 0) (by rw[List.getD_eq_getElem?_getD,List.getElem?_eq_getElem hi];rfl);exact⟨t,by rw[List.getD_eq_getElem?_getD,e];rfl⟩
theorem ab6{s:Shared}{ns:List Int}{ks:List Value}(rv:Vals (ns.map V.int) ks)(h2:2<=ns.length) :
  ∃ κ,(∀ (Q:SortKind->Shared->Prop),Q κ s->wpAny (model X.prog X.w) X.A (keyKind' ks.toArray) Q (λ _ _=>False) s)/\∀ i j,i<ns.length->j<ns.length->∀ C:Bool->Shared->Prop,C (ltI ns i j) s->kas_ask X.prog X.w X.A κ ks i j C s:=by
 have hI:IntsAre ks ns:=by have:=intsAre_of rv;simpa using this
 have hl:=zH hI;refine⟨oneType',λ Q q=>?_,λ i j hi hj C c=>?_⟩
 .rw[ksk_kind (kz:=ns) (by simpa using hI) (by rw[List.size_toArray];omega)];exact wp q
 .obtain⟨t,e1⟩:=ints_getD hI hi;obtain⟨u,e2⟩:=ints_getD hI hj;unfold kas_ask;rw[e1,e2,keyLt'_oneType];exact oneLt_int c
theorem tL{H:Hp}{s:Shared}{xs:List V}{lt:Nat->Nat->Bool}{Q:VK}{E:VP}(wk:gH lt)(Wt:Nat->List V->Hp->Prop)(I:Inv X pins σ H s)(hW:Wt 0 [] H)(hq:SqL X.K H d xs)(hz:xs.length<=1000)
  (turn:∀ (i:Nat) (ys:List V) (v:V) (u:Value) (pl:PN) (H:Hp) (s:Shared),xs[i]? =some v->RelV v u->Wt i ys H->Inv (uu X) pl σ H s->wpAny (model X.prog X.w) (uu X).A (call (.ref f) [u]) (EP (uu X) pl σ λ y H'=>Wt (i+1) (ys++[y]) H') (λ _ _=>False) s)
  (cmp:∀ (ys:List V) (ks:List Value) (H:Hp) (s:Shared),Wt xs.length ys H->Vals ys ks->Inv (uu X) pins σ H s->ks.length=xs.length->2<=xs.length->∃ κ,(∀ (Q:SortKind->Shared->Prop),Q κ s->wpAny (model X.prog X.w) (uu X).A (keyKind' ks.toArray) Q (λ _ _=>False) s)/\∀ i j,i<xs.length->j<xs.length->∀ C:Bool->Shared->Prop,C (lt i j) s->kas_ask X.prog X.w (uu X).A κ ks i j C s)
  (fin:∀ (ys:List V) (H':Hp),Wt xs.length ys H'->∀ l,H' l=none->Q (.ref l) (upd H' l (.lst ((bS lt xs.length).map λ i=>xs.getD i .non)))) :
  wpAny (model X.prog X.w) X.A (call (.builtin "sorted") [.ref d] [(Str.ofString "key",.ref f)]) (EP X pins σ Q) E s:=by
 obtain⟨its,rv,pl,_⟩:=I.list hq;have hln:=rv.length;refine call_function_entry_kw kind_sorted plain_sorted entry_sorted (ksk_s1 _ _) ?_;unfold Builtin.«sorted»;refine wb0 (m:=checkCount "sorted" 1 1 _) (wp (wb0 (collect_list pl.isList (wb0 (wpAny_newList ?_)) (by rw[sizeLine_eq];omega))));have at1:(fQ s.heap its).get? (s.heap.objs.size+1)=some (seqObj "list" its.toArray 0):=by
  unfold fQ;rw[<- fo (h:=s.heap) (vs:=its)];exact Heap.get?_push_size _ rfl
 show wpAny _ _ _ _ _ {s with heap:=fQ s.heap its};rw[fo];have I2:=I.kept (t':=s.toks) (h':=fQ s.heap its) λ b o e=>oA e;have na:H (s.heap.objs.size+1)=none:=I.hok.fresh (Nat.le_succ _);have fA:∀ H:Hp,H (s.heap.objs.size+1)=none->kO X pins H (s.heap.objs.size+1):=λ H h=>I.uY (Nat.le_succ _) h;refine wb0 (wpAny_holding (wpAny_call_entry_kw slot_list_sort ⟨_,at1,rfl⟩ entry_list_sort ?body (ksk_l1 _ _)))
 case body =>
  show wpAny (model X.prog X.w) X.A.in1.in1 (Builtin.«list.sort» ⟨[.ref (s.heap.objs.size+1)],[(Str.ofString "key",.ref f)]⟩) _ _ _;rw[ksk_t1];refine yp (X:=uu X) (lt:=lt) wk Wt (Inv.in1 (Inv.in1 I2)) hW at1 na fA rv (by omega) (λ i ys v u pl H s hv ru hW' J=>turn i ys v u pl H s hv ru hW' J) (λ ys ks H s hW' rv J hl h2=>?_) λ ys H' s' c hW' J na' g=>?_
  .rw[<- hln] at hW' hl h2 ⊢;exact cmp ys ks H s hW' rv J hl h2
  .have J':Inv X pins σ H' s':=Inv.aln (Inv.aln J);have ov:=ab4 (lt:=lt) rv;have hov:((bS lt its.length).map λ i=>xs.getD i .non).length<=sizeLine:=by rw[lm];have:=(fw lt its.length).length_eq;rw[List.length_range] at this;have:=s16;omega
   have J2:=Inv.abk J' g (fA H' na') hov ov;refine⟨_,rfl,wp ⟨_,rfl,.ref _,_,J2,rfl,?_⟩⟩;rw[<- hln] at hW' ⊢;exact fin ys H' hW' _ na'
end
def afS(ns:List Int)(ws:List W):List W:=(bS (ltI ns) ws.length).map λ i=>ws.getD i (.d .none)
def zE(P:Addr)(q:Str)(lpos:Pos)(to tb:TD)(fr:List Nat)(τ:DS)(M:MH)(Q:QD):Prop:=to τ M λ w M1=>∃ a ws,∃ ns:List Int,w=.m a/\M1 a=some (.lst ws)/\ws.length<=1000/\M1 P=some (.code q lpos)/\ns.length=ws.length/\(∀ (i:Nat) w n,ws[i]? =some w->ns[i]? =some n->tb (afn w fr τ) M1 λ y M2=>y=.d (.int n)/\M2=M1)/\∀ p,M1 p=none->Q (.m p) (aS M1 p (.lst (afS ns ws)))
open PySem.W (kla_obj kla_fn)
section
variable {X:Cx}{K:FG}
variable {P cd:Addr}{q x:Str}{lpos pos p kpos:Pos}{params:Arguments}{body o:Expr}{sc:Scope}{fr:List Nat}{to tb:TD}{k:Nat}
theorem aaT(hr:cI (k+3) X.A)(hc:X.calm=true)(hg:Gl X "sorted")(hm:X.mg "sorted" = none)(L:sd X sc x fr)(hcode:X.env.code=.ref cd)(hcd:W.codeHdIn X.K cd P=true)(hq:X.env.qual ++ "<lambda>" = q)
  (hb:∀ cl pm cdv ctv u,bindArgs (kla_fn "<lambda>" q params body sc cl pm cdv ctv) ⟨[u],[]⟩=pure [(x,u)])(ho:PD X o to)
  (he:∀ cl f c s H pl,cI k (aba (uu X) q sc (yy X x fr) cl f c s H pl).A->PD (aba (uu X) q sc (yy X x fr) cl f c s H pl) body tb)(hso:gZ o=false:=by rfl)(hdef:defaultsOf params X.env=([],[]):=by rfl) :
  PD X (.Call (.Name "sorted" p) [o] [⟨some "key",.Lambda params body sc lpos,kpos⟩] pos) (zE P q lpos to tb fr):=by
 intro pins s σ H Q I h;subst hq;have hst:starEach [o] X.env=(false,eval o X.env)::starEach [] X.env:=dY o [] X.env hso;have pa:PA X [o] (zV (up X.K to) adS):=uc ho aan hst;have pk:PK X [⟨some "key",.Lambda params body sc lpos,kpos⟩] (zV (akZ X P (X.env.qual ++ "<lambda>") params body sc lpos) adS):=aed (ahx L hcode hcd hdef) ahh;obtain⟨τ,M,Qd,A,h,kk⟩:=h;refine wpAny_Call_Name_kw (jV I hg hm zY (callWith_kw (he:=by rw[hst];rfl) (hplain:=fm pos X.env [o] (by simp[hso])) ?_));refine thn (pa pos pins s σ H (λ vs H1=>∃ v w M1,vs=[v]/\Kp H H1/\aJ X.K H1 w v/\cB X.K H1 M1/\∃ a ws,∃ ns:List Int,w=.m a/\M1 a=some (.lst ws)/\ws.length<=1000/\M1 P=some (.code (X.env.qual ++ "<lambda>") lpos)/\ns.length=ws.length/\(∀ (i:Nat) w n,ws[i]? =some w->ns[i]? =some n->tb (afn w fr τ) M1 λ y M2=>y=.d (.int n)/\M2=M1)/\∀ p,M1 p=none->Qd (.m p) (aS M1 p (.lst (afS ns ws)))) I
  ⟨τ,M,_,A,h,λ x H1 w M1 kp r m z=>⟨x,w,M1,rfl,kp,r,m,z⟩⟩) λ us s1 ⟨vs,H1,I1,r1,hx⟩=>?_
 obtain⟨v,w,M1,ev,kp1,rw1,m1,a,ws,ns,ew,hMa,hz,hP,hnl,hkey,hfin⟩:=hx;subst ev ew;have ea:v=.ref a:=rw1;subst ea;obtain⟨u,rfl,ru⟩:=vals1 r1;cases (show u=Value.ref a from ru);obtain⟨ps,hT,ht,hcA⟩:=m1 P _ hP;refine thn (pk pos pins s1 σ H1 (λ ks H2=>∃ f cl,ks=[.ref f]/\Kp H1 H2/\cB X.K H2 M1/\akF X sc cl/\agx H2 (X.env.qual ++ "<lambda>") x params body sc cl ((X.mg "__name__").getD .none) f) I1 ?_) λ kus s2 ⟨ks,H2,I2,r2,f,cl,ek,kp2,m2,hcl,hlam⟩=>?_
 .refine⟨ps,hT,ht,?_⟩;rcases hcA with hn | ⟨c,oc,vs,t,e1,e2,e3,e4⟩
  .refine .inl ⟨hn,λ c f oc vs t ctv cl hcl hc0 hf0 hcf hd hv=>?_⟩;obtain⟨k3,m3⟩:=wx m1 hP hT ht hn hc0 hd hv;have fP:f≠P:=Ne.symm (aR hT hf0);have cP:c≠P:=Ne.symm (aR hT hc0);have hf1:upd (upd H1 c (.frz oc (.own 0))) P (.tbl (pZ ps lpos c)) f=none:=by rw[ai fP,ai (Ne.symm hcf)];exact hf0
   exact⟨f,cl,rfl,k3.trans (Kp.new hf1),m3.new hf1,hcl,c,ctv,oc,vs,t,aj,by rw[ai hcf,ai cP,aj],hd,hv⟩
  .exact .inr ⟨c,oc,vs,t,e1,e2,e3,e4,λ f ctv cl hcl hf0=>⟨f,cl,rfl,Kp.new hf0,m1.new hf0,hcl,c,ctv,oc,vs,t,aj,by rw[ai (aR e2 hf0)];exact e2,e3,e4⟩⟩
 subst ek;obtain⟨ku,rfl,rk⟩:=vals1 r2;cases (show ku=Value.ref f from rk);show wpAny _ _ (call (.builtin "sorted") [.ref a] [(Str.ofString "key",.ref f)]) _ _ s2;have L':sd (uu X) sc x fr:=⟨L.kind,L.co,L.gen,L.cell,L.free,L.own,L.fr⟩;have A2:∀ {H'},Kp H2 H'->cB X.K H' M1->Abs X.K H' σ τ M1:=λ kp m=>A.go (kp1.trans (kp2.trans kp)) m;obtain⟨us,hl,pr⟩:=m2 _ _ hMa;have hul:=bh.length pr;refine tL (lt:=ltI ns) (uS ns) (λ i ys H'=>Kp H2 H'/\cB X.K H' M1/\ys=(ns.take i).map V.int) I2 ⟨Kp.refl _,m2,by simp⟩ (SqL.of hl) (by omega) (λ i ys v u pl H' s' hvi ru hW J=>?_) (λ ys ks H' s' hW rv J hlk h2=>?_) λ ys H' hW l hln=>?_
 .have hi:i<us.length:=(List.getElem?_eq_some_iff.mp hvi).1;obtain⟨w,hwi⟩:∃ w,ws[i]? =some w:=⟨_,List.getElem?_eq_getElem (show i<ws.length by omega)⟩;obtain⟨n,hni⟩:∃ n,ns[i]? =some n:=⟨_,List.getElem?_eq_getElem (show i<ns.length by omega)⟩;obtain⟨v',hv',rv'⟩:=bh.get pr hwi;rw[hvi] at hv';cases hv';refine af3 (X:=uu X) (k:=k) (hr.in1.in1) hc L' hcl.1 hcl.2 (hb cl _) (te:=up X.K tb) (λ c s H pl hr'=>he cl f c s H pl hr') J (D.agx.keep hlam hW.1) ru ?_;refine⟨_,M1,_,afj (A2 hW.1 hW.2.1) (w:=w) (aJ.keep hW.1 rv') fr,hkey i w n hwi hni,λ y H3 w3 M3 kp3 r3 m3 z'=>?_⟩;obtain⟨e1,e2⟩:=z';subst e1 e2;refine⟨hW.1.trans kp3,m3,?_⟩;have ey:y=V.int n:=by simpa [aJ,aB] using r3
  rw[ey,hW.2.2,List.take_succ,hni];simp
 .obtain⟨_,_,rfl⟩:=hW;rw[<- hul,<- hnl,List.take_length] at rv;rw[<- hul,<- hnl] at h2 ⊢;exact ab6 (X:=uu X) rv h2
 .have kp:Kp H' (upd H' l (.lst ((bS (ltI ns) us.length).map λ i=>us.getD i .non))):=Kp.new hln;refine kk _ _ (.m l) _ (kp1.trans (kp2.trans (hW.1.trans kp))) rfl (hW.2.1.put (mo:=.lst (afS ns ws)) kp ⟨_,aj,?_⟩) (hfin l (hW.2.1.free hln));have pr':=bh.keep (hW.1.trans kp) pr;have mem:∀ i∈bS (ltI ns) us.length,i<ws.length:=λ i hi=>by
   have:i<us.length:=by simpa using (fw _ _).mem_iff.mp hi
   omega
  unfold afS;rw[hul];generalize upd H' l (.lst ((bS (ltI ns) us.length).map λ i=>us.getD i .non))=H4 at pr';clear kp hfin;generalize bS (ltI ns) us.length=is at mem
  induction is with
  | nil=>exact .nil
  | cons i is ih =>
   refine .cons ?_ (ih λ j hj=>mem j (by simp[hj]));have hi:=mem i (by simp);obtain⟨v,e1,e2⟩:=bh.get (i:=i) (w:=ws.getD i (.d .none)) pr' (by rw[List.getD_eq_getElem?_getD,List.getElem?_eq_getElem hi];rfl);have e3:us.getD i .non=v:=by rw[List.getD_eq_getElem?_getD,e1];rfl
   show aJ _ _ (ws.getD i (.d .none)) (us.getD i .non);rw[e3];exact e2
end
theorem zo{X:Cx}{P cd:Addr}{q x:Str}{lpos pos p kpos:Pos}{params:Arguments}{body o:Expr}{sc:Scope}{fr:List Nat}{to tb:TD}{k:Nat}(hr:cI (k+3) X.A)(hc:X.calm=true)(hg:Gl X "sorted")(hm:X.mg "sorted" = none)(L:sd X sc x fr)(hcode:X.env.code=.ref cd)(hcd:W.codeHdIn X.K cd P=true)(hq:X.env.qual ++ "<lambda>" = q)
  (hb:∀ cl pm cdv ctv u,bindArgs (kla_fn "<lambda>" q params body sc cl pm cdv ctv) ⟨[u],[]⟩=pure [(x,u)])(ho:Jd (PD X o to))
  (he:∀ cl f c s H pl,cI k (aba (uu X) q sc (yy X x fr) cl f c s H pl).A->Jd (PD (aba (uu X) q sc (yy X x fr) cl f c s H pl) body tb))(hso:gZ o=false:=by rfl)(hdef:defaultsOf params X.env=([],[]):=by rfl) :
  Jd (PD X (.Call (.Name "sorted" p) [o] [⟨some "key",.Lambda params body sc lpos,kpos⟩] pos) (zE P q lpos to tb fr)):=⟨D.aaT hr hc hg hm L hcode hcd hq hb ho.h (λ cl f c s H pl h=>(he cl f c s H pl h).h) hso hdef⟩
section
variable {X:Cx}{K:FG}
def ma(ws:List W)(M:MH)(Q:QD):Prop:=∃ a rows,∃ kws:List (Key×W),ws=[.m a]/\M a=some (.lst rows)/\Paired (λ(r:W) (kw:Key×W)=>∃ b,r=.m b/\M b=some (.tup [.d (qq kw.1),kw.2])) rows kws/\(kws.map (·.1)).Nodup/\∀ p,M p=none->Q (.m p) (aS M p (.dic kws))
theorem xD{H:Hp}{M:MH}(m:cB K H M):∀ {rows:List W} {kws:List (Key×W)} {vs:List V},Paired (λ(r:W) (kw:Key×W)=>∃ b,r=.m b/\M b=some (.tup [.d (qq kw.1),kw.2])) rows kws->bh K H rows vs ->
  ∃ kvs:List (Key×V),Paired (λ(v:V) (kv:Key×V)=>∃ a,v=.ref a/\SqT K H a [kV kv.1,kv.2]) vs kvs/\Paired (λ(p:Key×W) (q:Key×V)=>p.1=q.1/\aJ K H p.2 q.2) kws kvs/\kvs.map (·.1)=kws.map (·.1)
 | _,_,_,.nil,.nil=>⟨[],.nil,.nil,rfl⟩
 | _,_,_,.cons (b:=kw) ⟨b,eb,hb⟩ t,.cons r rs=>by
  obtain⟨kvs,h1,h2,h3⟩:=xD m t rs;subst eb;obtain⟨us,e,pr⟩:=m _ _ hb;cases pr with
  | cons q1 pr =>
  cases pr with
  | cons q2 pr =>
  cases pr
  rename_i v1 v2
  have ek:=sX q1;subst ek;exact⟨(kw.1,v2)::kvs,.cons ⟨b,r,.inl (.inl e)⟩ h1,.cons ⟨rfl,q2⟩ h2,by simp[h3]⟩
theorem wq:eK K (λ xs H Q=>∃ p vs,∃ kvs:List (Key×V),xs=[.ref p]/\SqL K H p vs/\Paired (λ(v:V) (kv:Key×V)=>∃ a,v=.ref a/\SqT K H a [kV kv.1,kv.2]) vs kvs/\(kvs.map (·.1)).Nodup/\∀ l,H l=none->Q (.ref l) (upd H l (.dK kvs))) ma:=by intro vs H ws M Qd Q r m ⟨a,rows,kws,e,g,pr,nd,q⟩ k;subst e;obtain⟨v,e1,r1⟩:=fJ r;have ev:v=.ref a:=r1;subst ev;obtain⟨us,hl,rw1⟩:=m _ _ g;obtain⟨kvs,h1,h2,h3⟩:=xD m pr rw1;refine⟨a,us,kvs,e1,SqL.of hl,h1,by rw[h3];exact nd,λ l hl=>?_⟩;have kp:Kp H (upd H l (.dK kvs)):=Kp.new hl;exact k _ _ (.m l) _ kp rfl (m.put (mo:=.dic kws) kp ⟨kvs,aj,Paired.fD h2 λ p q z=>⟨z.1,z.2.keep kp⟩⟩) (q l (m.free hl))
end
open Rc Stc
section
variable {R:Type}[DecidableEq R]
structure Wd(M:MH)(b:Addr)(C:R->Option (Addr×MO)):Prop where
 at':∀ {c p o},C c=some (p,o)->M p=some o
 inj:∀ {c c' p o o'},C c=some (p,o)->C c'=some (p,o')->c=c'
 bg:Bag M b
 nb:∀ {c p o},C c=some (p,o)->p≠b
def ba(C:R->Option (Addr×MO))(c:R)(x:Addr×MO):R->Option (Addr×MO):=λ d=>if d=c then some x else C d
variable {M M':MH}{b:Addr}{C:R->Option (Addr×MO)}
theorem Wd.ne(h:Wd M b C){c c':R}{p p':Addr}{o o':MO}(e:C c=some (p,o))(e':C c'=some (p',o'))(n:c≠c'):p≠p':=λ z=>n (h.inj e (by rw[z];exact e'))
theorem Bag.go{p:Addr}(h:Bag M p)(e:M' p=M p):Bag M' p:=by
 cases h with
 | mk a b c ns h z=>exact .mk a b c ns (e.trans h) z
theorem ly{p:Addr}(h:Bag M p):M p≠none:=by
 cases h with
 | mk a b c ns h z=>rw[h];exact λ e=>nomatch e
theorem Wd.ext(h:Wd M b C)(x:Ext M M'):Wd M' b C:=⟨λ e=>x _ _ (h.at' e),h.inj,Ext.bag x h.bg,h.nb⟩
theorem Wd.take(h:Wd M b C)(bg:Bag M' b)(f:∀ q,q≠b->M' q=M q):Wd M' b C:=⟨λ e=>(f _ (h.nb e)).trans (h.at' e),h.inj,bg,h.nb⟩
theorem Wd.set(h:Wd M b C){c:R}{p:Addr}{o:MO}(o':MO)(e:C c=some (p,o)):Wd (aS M p o') b (ba C c (p,o')):=by
 refine⟨λ {d q u} z=>?_,λ {d d' q u u'} z z'=>?_,h.bg.go (ah (h.nb e).symm),λ {d q u} z=>?_⟩
 .unfold ba at z
  split at z
  .cases z;exact af
  .rename_i n
   rw[ah (h.ne z e n)];exact h.at' z
 .unfold ba at z z'
  split at z<;>split at z'
  .rename_i e1 e2;rw[e1,e2]
  .rename_i e1 n;cases z;exact absurd rfl (h.ne e z' (λ k=>n k.symm))
  .rename_i n e1;cases z';exact absurd rfl (h.ne z e n)
  .exact h.inj z z'
 .unfold ba at z
  split at z
  .cases z;exact h.nb e
  .exact h.nb z
theorem Wd.new(h:Wd M b C)(c:R){p:Addr}(o:MO)(e:M p=none):Wd (aS M p o) b (ba C c (p,o)):=by
 refine⟨λ {d q u} z=>?_,λ {d d' q u u'} z z'=>?_,h.bg.go (ah λ z=>ly h.bg (by rw[z];exact e)),λ {d q u} z=>?_⟩
 .unfold ba at z
  split at z
  .cases z;exact af
  .exact cC (h.at' z) e
 .unfold ba at z z'
  split at z<;>split at z'
  .rename_i e1 e2;rw[e1,e2]
  .cases z;exact absurd rfl (bN (h.at' z') e)
  .cases z';exact absurd rfl (bN (h.at' z) e)
  .exact h.inj z z'
 .unfold ba at z
  split at z
  .cases z;exact λ k=>ly h.bg (by rw[<- k];exact e)
  .exact h.nb z
theorem Wd.move(h:Wd M b C){c d:R}(n:c≠d){p q r:Addr}{o u o' u':MO}(e:C c=some (p,o))(e':C d=some (q,u))(hr:M r=none)(hp:M' p=some o')(hr':M' r=some u')(f:∀ x y,x≠p->M x=some y->M' x=some y):Wd M' b (ba (ba C c (p,o')) d (r,u')):=by
 have hbb:M' b=M b:=by
  cases hb:M b with
  | none=>exact absurd hb (ly h.bg)
  | some y=>exact f _ _ (h.nb e).symm hb
 have key:∀ {x y z},ba (ba C c (p,o')) d (r,u') x=some (y,z)->(x=d/\y=r/\z=u')\/(x≠d/\x=c/\y=p/\z=o')\/(x≠d/\x≠c/\C x=some (y,z)):=by
  intro x y z k;unfold ba at k
  by_cases h1:x=d
  .rw[if_pos h1] at k;cases k;exact .inl ⟨h1,rfl,rfl⟩
  .rw[if_neg h1] at k
   by_cases h2:x=c
   .rw[if_pos h2] at k;cases k;exact .inr (.inl ⟨h1,h2,rfl,rfl⟩)
   .rw[if_neg h2] at k;exact .inr (.inr ⟨h1,h2,k⟩)
 have rn:∀ {x y z},C x=some (y,z)->y≠r:=λ k=>bN (h.at' k) hr;refine⟨λ {x y z} k=>?_,λ {x x' y z z'} k k'=>?_,h.bg.go hbb,λ {x y z} k=>?_⟩
 .rcases key k with ⟨_,rfl,rfl⟩ | ⟨_,_,rfl,rfl⟩ | ⟨_,n2,k⟩
  .exact hr'
  .exact hp
  .exact f _ _ (h.ne k e n2) (h.at' k)
 .rcases key k with ⟨a1,a2,_⟩ | ⟨_,a1,a2,_⟩ | ⟨_,a1,a2⟩<;>rcases key k' with ⟨c1,c2,_⟩ | ⟨_,c1,c2,_⟩ | ⟨_,c1,c2⟩
  .rw[a1,c1]
  .exact absurd (c2.symm.trans a2) (rn e)
  .exact absurd a2 (rn c2)
  .exact absurd (a2.symm.trans c2) (rn e)
  .rw[a1,c1]
  .exact absurd a2 (h.ne c2 e c1)
  .exact absurd c2 (rn a2)
  .exact absurd c2 (h.ne a2 e a1)
  .exact h.inj a2 c2
 .rcases key k with ⟨_,rfl,_⟩ | ⟨_,_,rfl,_⟩ | ⟨_,_,k⟩
  .exact λ z=>ly h.bg (by rw[<- z];exact hr)
  .exact h.nb e
  .exact h.nb k
theorem Wd.add(h:Wd M b C)(c:R){p:Addr}{o:MO}(e:M p=some o)(n:∀ {d q u},C d=some (q,u)->q≠p)(nb:p≠b):Wd M b (ba C c (p,o)):=by
 refine⟨λ {d q u} z=>?_,λ {d d' q u u'} z z'=>?_,h.bg,λ {d q u} z=>?_⟩
 .unfold ba at z
  split at z
  .cases z;exact e
  .exact h.at' z
 .unfold ba at z z'
  split at z<;>split at z'
  .rename_i e1 e2;rw[e1,e2]
  .cases z;exact absurd rfl (n z')
  .cases z';exact absurd rfl (n z)
  .exact h.inj z z'
 .unfold ba at z
  split at z
  .cases z;exact nb
  .exact h.nb z
theorem de{c:R}{p p':Addr}{o:MO}(n:∀ {d q u},C d=some (q,u)->q≠p')(m:p≠p'):∀ {d q u},ba C c (p,o) d=some (q,u)->q≠p':=λ {d q u} z=>by
 unfold ba at z
 split at z
 .cases z;exact m
 .exact n z
theorem Wd.frame(h:Wd M b C)(bg:Bag M' b)(f:∀ q y,q≠b->M q=some y->M' q=some y):Wd M' b C:=⟨λ e=>f _ _ (h.nb e) (h.at' e),h.inj,bg,h.nb⟩
end
def kf(N:List Str)(f:Str->W):List (Key×W):=N.map λ z=>(.inr z,f z)
def cG{α:Type}(f:Str->α)(z:Str)(v:α):Str->α:=λ y=>if y=z then v else f y
theorem nZ(N:List Str)(f:Str->W):(kf N f).length=N.length:=by simp[kf]
theorem eR{f:Str->W}{z:Str}:∀ {N:List Str},z∈N->eV (kf N f) (.inr z)=some (f z)
 | [],h=>nomatch h
 | y::N,h=>by
  show eV ((.inr y,f y)::kf N f) (.inr z)=_;rw[cn]
  by_cases e:y=z
  .subst e;rw[if_pos rfl]
  .rw[if_neg λ k=>e (Sum.inr.inj k)];exact eR (by simpa [Ne.symm e] using h)
theorem af6{f:Str->W}{z:Str}:∀ {N:List Str},z ∉ N->eV (kf N f) (.inr z)=none
 | [],_=>rfl
 | y::N,h=>by show eV ((.inr y,f y)::kf N f) (.inr z)=_;rw[cn,if_neg λ k=>h (by simp[Sum.inr.inj k])];exact af6 λ k=>h (by simp[k])
theorem rH{f:Str->W}{z:Str}{w:W}{N:List Str}(h:z∈N):kG (kf N f) (.inr z) w=kf N (cG f z w):=by
 unfold kG;rw[gB,eR h,Option.isSome_some,if_pos rfl];unfold kf;rw[List.map_map];refine List.map_congr_left λ y _=>?_;simp only[Function.comp,cG]
 by_cases e:y=z
 .subst e;simp
 .rw[if_neg λ k=>e (Sum.inr.inj k),if_neg e]
theorem ze{f:Str->W}{z:Str}{N:List Str}(h:z ∉ N):kG (kf N f) (.inr z) (f z)=kf (N++[z]) f:=by
 unfold kG;rw[gB,af6 h];simp[kf]
theorem vm{f g:Str->W}{N:List Str}(h:∀ z∈N,f z=g z):kf N f=kf N g:=List.map_congr_left λ z hz=>by rw[h z hz]
theorem eB{α:Type}{f:Str->α}{z:Str}{v:α}:cG f z v z=v:=if_pos rfl
theorem fY{α:Type}{f:Str->α}{z y:Str}{v:α}(h:y≠z):cG f z v y=f y:=if_neg h
abbrev nW(f:Str->Nat):Str->W:=λ z=>.d (.int (f z:Nat))
abbrev bW(f:Str->Bool):Str->W:=λ z=>.d (.bool (f z))
theorem ajm(f:Str->Nat)(z:Str)(v:Nat):cG (nW f) z (.d (.int (v:Nat)))=nW (cG f z v):=by
 funext y;unfold cG nW;by_cases e:y=z<;>simp[e]
theorem aaC(f:Str->Bool)(z:Str)(v:Bool):cG (bW f) z (.d (.bool v))=bW (cG f z v):=by
 funext y;unfold cG bW;by_cases e:y=z<;>simp[e]
abbrev qE(N:List Str):PyData:=.list (N.map PyData.str)
theorem yf{N:List Str}{c:W}{i:Nat}{τ:DS}{M:MH}{Q:QD}(nd:N.Nodup)(hl:N.length<=1000)(hv:τ[i]? =some (some (.d (qE N))))(k:∀ p,M p=none->Q (.m p) (aS M p (.dic (kf N λ _=>c)))):dDC (bU (ag i)) (gN 0) iJ (ag 0) (dC c) 1 [] τ M Q:=by
 have sl:=s16;refine⟨_,hv,_,rfl,λ p hp=>⟨λ j τ' M'=>M'=aS M p (.dic (kf (N.take j) λ _=>c))/\∃ x,τ'=[x],⟨rfl,_,rfl⟩,?_,?_⟩⟩
 .rintro j w τ' M' hw ⟨rfl,x,rfl⟩;rw[List.map_map] at hw;obtain⟨z,hz,rfl⟩:=dF hw;have hj:=(List.getElem?_eq_some_iff.mp hz).1;refine⟨_,rfl,_,.inr z,af,rfl,?_,?_,_,rfl⟩
  .rw[nZ,List.length_take];omega
  .rw[lh,ze (um nd hz)];have ht:N.take (j+1)=N.take j++[z]:=by rw[List.take_succ,hz];rfl
   rw[ht]
 .rintro τ' M' ⟨e,x,rfl⟩;rw[e];have:N.take ((N.map PyData.str).map W.d).length=N:=List.take_of_length_le (by simp);rw[this];exact k p hp
theorem afq{α:Type}(D:List α)(key:α->Int)(f:α->W):∃ D':List α,afS (D.map key) (D.map f)=D'.map f/\D'.Perm D/\∀ T:α->α->Prop,D.Pairwise T->D'.Pairwise λ a b=>key a<key b\/(key a=key b/\T a b):=by
 cases hD:D with
 | nil=>exact⟨[],by simp[afS,bS],List.Perm.refl _,λ _ _=>.nil⟩
 | cons d0 D0 =>
 rw[<- hD];obtain⟨o1,o2⟩:=vI (uS (D.map key)) D.length;have mem:∀ i∈bS (ltI (D.map key)) D.length,i<D.length:=λ i hi=>by simpa using o1.mem_iff.mp hi
 refine⟨(bS (ltI (D.map key)) D.length).map λ i=>D.getD i d0,?_,?_,λ T hT=>?_⟩
 .unfold afS;rw[lm,List.map_map];refine List.map_congr_left λ i hi=>?_;simp[List.getD_eq_getElem?_getD,List.getElem?_eq_getElem (mem i hi)]
 .have h:=o1.map λ i=>D.getD i d0;have e:(List.range D.length).map (λ i=>D.getD i d0)=D:=by refine List.ext_getElem (by simp) λ i h1 h2=>?_;simp[List.getD_eq_getElem?_getD,List.getElem?_eq_getElem h2]
  rw[e] at h;exact h
 .rw[List.pairwise_map];refine List.Pairwise.imp_of_mem (λ {i j} hi hj h=>?_) o2;have li:=mem i hi;have lj:=mem j hj;have gi:D.getD i d0=D[i]:=by simp[List.getD_eq_getElem?_getD,List.getElem?_eq_getElem li]
  have gj:D.getD j d0=D[j]:=by simp[List.getD_eq_getElem?_getD,List.getElem?_eq_getElem lj]
  have ki:(D.map key).getD i 0=key D[i]:=by simp[List.getD_eq_getElem?_getD,List.getElem?_eq_getElem li]
  have kj:(D.map key).getD j 0=key D[j]:=by simp[List.getD_eq_getElem?_getD,List.getElem?_eq_getElem lj]
  rw[gi,gj];simp only[S.B,ltI,ki,kj,decide_eq_true_eq,decide_eq_false_iff_not] at h;rcases h with h | ⟨h1,h2,h3⟩
  .exact .inl h
  .exact .inr ⟨by omega,(List.pairwise_iff_getElem.mp hT) i j li lj h3⟩
section
variable {prog:Program}{w:World}{A:Around}{s:Shared}{vs:List Value}{zs:List Str}
end
section
variable {X:Cx}{K:FG}
end
def ownOf(sc:Scope):List Str:=(sc.names.drop 1).filterMap λ y=>if y.2==.local then some y.1 else none
def isIn(o:Option NameKind):Bool:=match o with
 | some .local=>true
 | some .cell=>true
 | some .free=>true
 | _=>false
def ak0(o:Option NameKind):Bool:=match o with
 | some .local=>true
 | some .cell=>true
 | _=>false
theorem ahE{sc:Scope}{x:Str}(h:isIn (sc.names.lookup x)=true):Vis sc x:=by
 unfold isIn at h
 split at h
 .exact .inl (by assumption)
 .exact .inr (.inl (by assumption))
 .exact .inr (.inr (by assumption))
 .cases h
theorem ahI{sc:Scope}{x:Str}(h:ak0 (sc.names.lookup x)=true):Loc sc x:=by
 unfold ak0 at h
 split at h
 .exact .inl (by assumption)
 .exact .inr (by assumption)
 .cases h
def aiT:List Str->Bool
 | []=>false
 | x::l=>l.elem x || aiT l
theorem ahO:∀ {l:List Str},aiT l=false->l.Nodup
 | [],_=>.nil
 | x::l,h=>by have h:=Bool.or_eq_false_iff.mp h;refine List.nodup_cons.mpr ⟨λ m=>?_,ahO h.2⟩;rw[List.elem_eq_true_of_mem m] at h;exact Bool.noConfusion h.1
theorem akI{a:Bool}{o:Option NameKind}(h:(a || o==some .local)=true):a=true\/o=some .local:=by
 cases a with
 | true=>exact .inl rfl
 | false=>exact .inr (eq_of_beq (by simpa using h))
section
variable {X:Cx}{a b e:Expr}{ta tb:TD}{pos p:Pos}{es:List Expr}{t:TAd}{x:Str}{id T:String}{rd:W->W->MH->QD->Prop}{rl:List W->MH->QD->Prop}
def OB(X:Cx)(op:Operator)(rd:W->W->MH->QD->Prop):Prop:=∃ r,OpR X (binaryOp op) r/\OpD X.K r rd
def CB(X:Cx)(op:CmpOp)(rd:W->W->MH->QD->Prop):Prop:=∃ r,OpR X (compareOp op) r/\OpD X.K r rd
def LB(X:Cx)(v:Value)(rd:List W->MH->QD->Prop):Prop:=∃ r,dr X v r/\eK X.K r rd
theorem xR{op:Operator}{r:R2}(h:OpR X (binaryOp op) r)(d:OpD X.K r rd):OB X op rd:=⟨r,h,d⟩
theorem qT{op:CmpOp}{r:R2}(h:OpR X (compareOp op) r)(d:OpD X.K r rd):CB X op rd:=⟨r,h,d⟩
theorem o8{v:Value}{r:List V->Hp->VK->Prop}(h:dr X v r)(d:eK X.K r rl):LB X v rl:=⟨r,h,d⟩
theorem ajM{op:Operator}(h:OB X op rd)(ha:Jd (PD X a ta))(hb:Jd (PD X b tb)):Jd (PD X (.BinOp a op b pos) (dOp rd ta tb)):=let ⟨_,o,d⟩:=h;agX o d ha hb
theorem air{op:CmpOp}(h:CB X op rd)(ha:Jd (PD X a ta))(hb:Jd (PD X b tb))(hm:behindInMarks op b=false):Jd (PD X (.Compare a [op] [b] pos) (dOp rd ta tb)):=let ⟨_,o,d⟩:=h;aeU o d ha hb hm
theorem afc{op:CmpOp}(h:CB X op rd)(ha:Jd (PD X a ta))(hb:Jd (PD X b tb))(hm:behindInMarks op b=false):Jd (PTd X (.Compare a [op] [b] pos) (aT (dOp rd ta tb))):=let ⟨_,o,d⟩:=h;abf o d ha hb hm
theorem ajN(ha:Jd (PD X a ta))(hb:Jd (PD X b tb))(hs:oM b):Jd (PD X (.Subscript a b pos) (dOp bZ ta tb)):=ado ac7 ac8 ha hb hs
def alB:Value->Bool
 | .builtin _=>true
 | .type _=>true
 | _=>false
theorem akv{v:Value}(h:LB X v rl)(hg:Gl X x)(hm:X.mg x=none)(hv:bootBuiltins x=some v)(ha:Jd (PAd X (e::es) t))(hk:alB v=true)(hn:(x==("__name__" : Str))=false)(hdb:ND x)(h1:gZ e=false)(h2:(es.all λ e=>!gZ e)=true) :
  Jd (PD X (.Call (.Name x p) (e::es) [] pos) (dCB rl t)):=by
 have n:x ≠ "__name__":= by intro z;rw[z] at hn;exact absurd hn (by decide)
 obtain⟨_,c,d⟩:=h;cases v with
 | builtin id=>exact ajo c d hg hm hv ha n hdb h1 h2
 | type T=>exact aj7 c d hg hm hv ha n hdb h1 h2
 | _=>cases hk
end
end D
namespace K58
open L2 D Rc Stc
abbrev aa:Addr:=170
abbrev ak:Addr:=234
abbrev ao:Addr:=314
abbrev cu:Addr:=296
abbrev ax:Addr:=294
abbrev mX:List Str:=["self", "machines"]
def iD:TSd:=
  aV (bA ao (ag 0) (dDC (bU (ag 1)) (gN 0) iJ (ag 0) (dI 0) 1 []) "lateness") <|
  aV (bA ao (ag 0) (dDC (bU (ag 1)) (gN 0) iJ (ag 0) (dC (.d (.bool false))) 1 []) "doubled") <|
  aV (bA ao (ag 0) (dDC (bU (ag 1)) (gN 0) iJ (ag 0) (dC (.d (.bool false))) 1 []) "cut_off") <|
  bA ao (ag 0) (mU ay) "messages"
abbrev hG:List Str:=["self"]
def iq:TSd:=
  bA ak (ag 0) pI "newest"
abbrev hU:List Str:=["self", "name", "berths"]
def gK:TSd:=
  aV (bA aa (ag 0) (ag 1) "name") <|
  aV (bA aa (ag 0) (ag 2) "berth_count") <|
  aV (bA aa (ag 0) (dC (.d (.bool false))) "standing") <|
  aV (bA aa (ag 0) (dI 0) "lives") <|
  aV (bA aa (ag 0) (dI 0) "sheet_turn") <|
  aV (bA aa (ag 0) pI "laid") <|
  bA aa (ag 0) (xy ay) "known_leases"
abbrev ij:List Str:=["self"]
def gS:TSd:=
  aV (dIf (aT (ft aa (ag 0) "standing"))
   (cm (dC (.d (.bool false))))
   bL) <|
  aV (bA aa (ag 0) (dC (.d (.bool true))) "standing") <|
  aV (aaa aa (ag 0) (dI 1) "lives" (λ i j=>i+j)) <|
  aV (bA aa (ag 0) (dI 0) "sheet_turn") <|
  cm (dC (.d (.bool true)))
abbrev iS:List Str:=["self", "message", "turn", "due", "machine", "thing"]
def iR:TSd:=
  aV (cH (ag 1) (gT 3 (aD (gN 3) (aD (gN 4) (aD (gN 5) fc))))) <|
  cm (acH (dOp ajz (ag 3) (ag 2)) (afv (cA (ft ao (ag 0) "cut_off") (ag 4))))
abbrev lW:List Str:=["self", "turn", "due"]
abbrev c6:Str:=(("Road.come" : Str) ++ ".<locals>." ++ "<lambda>")
def kR(bq:SpD):TSd:=
  aV (dG (cH (adt (cw (ft ao (ag 0) "messages")) (gN 0) (aT (bj ao "is_due" bq (ag 1) (ab (ag 0) (ab (ag 2) ay)))) (ag 0) 1 [0,1]) (gN 2))) <|
  aV (bA ao (ag 0) (gn (adt (cw (ft ao (ag 0) "messages")) (gN 0) (zB (aT (bj ao "is_due" bq (ag 1) (ab (ag 0) (ab (ag 2) ay))))) (ag 0) 1 [0,1])) "messages") <|
  cm (dLC (bU (mV (zE ax c6 ⟨177,77,177,103⟩ (ag 2) (dOp bZ (ag 0) (dI 0)) []))) (gT 3 (aD (gN 0) (aD (gN 1) (aD (gN 2) fc)))) iJ (m9 (ab (ag 1) (ab (ag 2) ay))) 3 [])
abbrev ee:List Str:=["thing"]
def dZ(sp_self:SpD):TSd:=
  aV (dIf (aT (dCB uQ (ab (ag 0) (ab (dC (.t "tuple")) ay))))
   (cm (dCB lR (ab (dLC (bU (ag 0)) (gN 0) iJ (bx sp_self (ab (ag 0) ay)) 1 []) ay)))
   bL) <|
  aV (dIf (aT (dCB uQ (ab (ag 0) (ab (dC (.t "list")) ay))))
   (cm (dLC (bU (ag 0)) (gN 0) iJ (bx sp_self (ab (ag 0) ay)) 1 []))
   bL) <|
  aV (dIf (aT (dCB uQ (ab (ag 0) (ab (dC (.t "dict")) ay))))
   (cm adh)
   bL) <|
  cm (ag 0)
abbrev gP:List Str:=["self", "machine"]
def hV(au:SpD):TSd:=
  cm (bx au (ab (aeE (ft ak (ag 0) "newest") (ag 1)) ay))
abbrev gX:List Str:=["self", "beat", "machine", "life", "turn", "sheet", "rows"]
def gR(au:SpD):TSd:=
  aV (cH (ag 1) (gT 5 (aD (gN 2) (aD (gN 3) (aD (gN 4) (aD (gN 5) (aD (gN 6) fc))))))) <|
  aV (dIf (ady (aT (aea (ag 2) (ft ak (ag 0) "newest"))) (aT (dOp ajz (ag 4) (dOp bZ (cA (ft ak (ag 0) "newest") (ag 2)) (dI 2)))))
   (cm (dC (.d (.bool false))))
   bL) <|
  aV (pF (ft ak (ag 0) "newest") (ag 2) (bx au (ab (ag 1) ay))) <|
  cm (dC (.d (.bool true)))
abbrev oh:List Str:=["row", "number", "wish", "kind", "edition", "start", "hands"]
def oB:TSd:=
  aV (cH (ag 0) (gT 6 (aD (gN 1) (aD (gN 2) (aD (gN 3) (aD (gN 4) (aD (gN 5) (aD (gN 6) fc)))))))) <|
  cm (m9 (ab (ag 0) (ab (dS "starting") (ab (ag 5) ay))))
abbrev il:List Str:=["self", "sheet", "life", "turn", "rows", "leases"]
def gO(bz:SpD):TSd:=
  aV (cH (ag 1) (gT 4 (aD (gN 2) (aD (gN 3) (aD (gN 4) (aD (gN 5) fc)))))) <|
  aV (dIf (dOr (zB (aT (ft aa (ag 0) "standing"))) (dOr (aT (dOp qm (ag 2) (ft aa (ag 0) "lives"))) (aT (dOp ajz (ag 3) (ft aa (ag 0) "sheet_turn")))))
   (cm (dC (.d (.bool false))))
   bL) <|
  aV (bA aa (ag 0) (ag 3) "sheet_turn") <|
  aV (bA aa (ag 0) (dDC (bU (ag 4)) (gN 0) iJ (dOp bZ (ag 0) (dI 0)) (yn (ft aa (ag 1) "laid") (dOp bZ (ag 0) (dI 0)) (bx bz (ab (ag 0) ay))) 1 [0]) "laid") <|
  aV (bA aa (ag 0) (mV (dCB eX (ab (ag 5) ay))) "known_leases") <|
  cm (dC (.d (.bool true)))
abbrev qI:List Str:=["_law_roads", "_law_three", "_law_hearings", "_law_newest", "_law_turn", "_law_k", "_law_name", "_law_word", "_law_thing", "_law_due"]
def lp(bC aq aO aH:SpD):TSd:=
  aV (j4 (p8 (ab (dI 2) ay)) (gN 5)
   (j4 (bU (bj ao "come" bC (dOp bZ (ag 0) (ag 5)) (ab (ag 4) ay))) (gT 2 (aD (gN 6) (aD (gT 2 (aD (gN 7) (aD (gN 8) fc))) fc)))
    (dIf (aT (dOp fL (ag 7) (dS "beat")))
     (aV (cH (ajt (dOp (aeL false) (bj ak "kept" aq (dOp bZ (ag 2) (ag 5)) (ab (ag 6) ay)) (dC (.d .none))) (dOp adn (dOp bZ (bj ak "kept" aq (dOp bZ (ag 2) (ag 5)) (ab (ag 6) ay)) (dI 2)) (dOp bZ (ag 8) (dI 2)))) (gN 9)) <|
     dIf (aT (dOp qm (bj ak "hear" aO (dOp bZ (ag 2) (ag 5)) (ab (ag 8) ay)) (ag 9)))
      (cm (dC (.d (.bool false))))
      bL)
     (aV (dt (bj aa "take" aH (dOp bZ (cA (ag 1) (ag 6)) (ag 5)) (ab (ag 8) ay))) <|
     dIf (ady (aT (dOp fL (ag 5) (dI 0))) (aT (dOp aa5 (dOp bZ (ag 8) (dI 1)) (yn (ag 3) (m9 (ab (ag 6) (ab (dOp bZ (ag 8) (dI 0)) ay))) (dI 0)))))
      (aV (qL (ag 3) (ab (ag 6) (ab (dOp bZ (ag 8) (dI 0)) ay)) (dOp bZ (ag 8) (dI 1))) <|
      dt (bj aa "take" aH (dOp bZ (cA (ag 1) (ag 6)) (dI 2)) (ab (ag 8) ay)))
      bL)))) <|
  cm (dC (.d (.bool true)))
abbrev iu:List Str:=["self"]
def hJ:TSd:=
  aV (dIf (zB (aT (ft aa (ag 0) "standing")))
   (cm (dC (.d (.bool false))))
   bL) <|
  aV (bA aa (ag 0) (dC (.d (.bool false))) "standing") <|
  aV (bA aa (ag 0) pI "laid") <|
  aV (bA aa (ag 0) (xy ay) "known_leases") <|
  cm (dC (.d (.bool true)))
abbrev gJ:List Str:=["copy", "row", "state", "left"]
def ir:TSd:=
  aV (cH (ag 0) (gT 3 (aD (gN 1) (aD (gN 2) (aD (gN 3) fc))))) <|
  cm (dOp fL (ag 2) (dS "answering"))
abbrev eQ:List Str:=["self", "number"]
def eN(aL:SpD):TSd:=
  cm (acH (aea (ag 1) (ft aa (ag 0) "laid")) (bx aL (ab (cA (ft aa (ag 0) "laid") (ag 1)) ay)))
abbrev vz:List Str:=["copy", "row", "state", "left"]
def vo:TSd:=
  aV (cH (ag 0) (gT 3 (aD (gN 1) (aD (gN 2) (aD (gN 3) fc))))) <|
  cm (m9 (ab (ag 1) (ab (dS "failed") (ab (dI 0) ay))))
abbrev gI:List Str:=["self", "number"]
def gV(aA cO:SpD):TSd:=
  aV (dIf (zB (aT (bj aa "answers" aA (ag 0) (ab (ag 1) ay))))
   (cm (dC (.d (.bool false))))
   bL) <|
  aV (pF (ft aa (ag 0) "laid") (ag 1) (bx cO (ab (cA (ft aa (ag 0) "laid") (ag 1)) ay))) <|
  cm (dC (.d (.bool true)))
abbrev kZ:List Str:=["self", "machine", "turns"]
def kT:TSd:=
  pF (ft ao (ag 0) "lateness") (ag 1) (ag 2)
abbrev ou:List Str:=["self", "machine"]
def nN:TSd:=
  pF (ft ao (ag 0) "cut_off") (ag 1) (dC (.d (.bool true)))
abbrev lg:List Str:=["self", "machine"]
def mq:TSd:=
  pF (ft ao (ag 0) "cut_off") (ag 1) (dC (.d (.bool false)))
abbrev jX:List Str:=["self", "machine", "yes"]
def jS:TSd:=
  pF (ft ao (ag 0) "doubled") (ag 1) (ag 2)
abbrev oq:List Str:=["_law_bag_here", "_law_roads", "_law_three", "_law_name", "_law_way", "_law_late", "_law_yes", "_law_number", "_law_road"]
def nJ(av br aI bu bO cg bQ bI:SpD):TSd:=
  aV (cH (bx av (ab (ag 0) (ab (dI 14) ay))) (gN 4)) <|
  aV (ahw 3 (ab (bx av (ab (ag 0) (ab (dI 3) ay))) (ab (dOp fL (bx av (ab (ag 0) (ab (dI 2) ay))) (dI 0)) (ab (dOp cX (dI 1) (bx av (ab (ag 0) (ab (dI 12) ay)))) ay))) (aD (gN 5) (aD (gN 6) (aD (gN 7) fc)))) <|
  aV (dIf (aT (dOp fL (ag 4) (dI 0)))
   (cm (dOp fL (iH (gn (dLC (cw (cA (ag 2) (ag 3))) (gN 0) iJ (dCB fu (ab (bj aa "fall" br (ag 0) ay) ay)) 1 []))) (dI 1)))
   bL) <|
  aV (dIf (aT (dOp adn (ag 4) (dI 3)))
   (cm (dOp fL (iH (gn (dLC (cw (cA (ag 2) (ag 3))) (gN 0) iJ (dCB fu (ab (bj aa "rise" aI (ag 0) ay) ay)) 1 []))) (dI 1)))
   bL) <|
  aV (dIf (aT (dOp adn (ag 4) (dI 5)))
   (cm (dOp fL (iH (gn (dLC (cw (cA (ag 2) (ag 3))) (gN 0) iJ (dCB fu (ab (bj aa "fail" bu (ag 0) (ab (ag 1) ay)) ay)) 1 [7]))) (dI 1)))
   bL) <|
  aV (dG (j4 (cw (ag 1)) (gN 8)
   (dIf (aT (dOp adn (ag 4) (dI 7)))
    (dt (bj ao "late" bO (ag 8) (ab (ag 3) (ab (ag 5) ay))))
    (dIf (aT (dOp fL (ag 4) (dI 7)))
     (dt (bj ao "cut" cg (ag 8) (ab (ag 3) ay)))
     (dIf (aT (dOp adn (ag 4) (dI 10)))
      (dt (bj ao "join" bQ (ag 8) (ab (ag 3) ay)))
      bL))))) <|
  aV (dIf (aT (dOp aa5 (ag 4) (dI 9)))
   (dt (bj ao "twice" bI (dOp bZ (ag 1) (dI 0)) (ab (ag 3) (ab (ag 6) ay))))
   bL) <|
  cm (dC (.d (.bool true)))
abbrev qC:List Str:=["copy", "row", "state", "left"]
def sy(bz:SpD):TSd:=
  aV (cH (ag 0) (gT 3 (aD (gN 1) (aD (gN 2) (aD (gN 3) fc))))) <|
  aV (dIf (aT (dOp fL (ag 2) (dS "failed")))
   (cm (bx bz (ab (ag 1) ay)))
   bL) <|
  aV (dIf (ady (aT (dOp fL (ag 2) (dS "starting"))) (aT (dOp aa5 (ag 3) (dI 0))))
   (cm (m9 (ab (ag 1) (ab (dS "starting") (ab (dOp abt (ag 3) (dI 1)) ay)))))
   bL) <|
  cm (m9 (ab (ag 1) (ab (dS "answering") (ab (dI 0) ay))))
abbrev fO:List Str:=["self"]
def fW(cy:SpD):TSd:=
  bA aa (ag 0) (uO (dDC (qa (ft aa (ag 0) "laid")) (gT 2 (aD (gN 0) (aD (gN 1) fc))) iJ (ag 0) (bx cy (ab (ag 1) ay)) 2 [])) "laid"
abbrev gU:List Str:=["self"]
def ie:TSd:=
  cm (ft aa (ag 0) "lives")
abbrev jU:List Str:=["_law_bag_here", "_law_number", "_law_kind", "_law_wish"]
def jP(av:SpD):TSd:=
  aV (cH (dOp bZ (xy (ab (dS "front") (ab (dS "back") (ab (dS "side") (ab (dS "zzzzzzzz") (ab (dS "x") (ab (dS "kind") ay))))))) (dOp dQ (ag 1) (dI 6))) (gN 2)) <|
  aV (cH (dOp bZ (xy (ab (dS "web") (ab (dS "db") (ab (dS "web") (ab (dS "a") ay))))) (dOp dQ (ag 1) (dI 4))) (gN 3)) <|
  cm (m9 (ab (ag 1) (ab (ag 3) (ab (ag 2) (ab (dOp cX (dI 1) (bx av (ab (ag 0) (ab (dI 3) ay)))) (ab (bx av (ab (ag 0) (ab (dI 3) ay))) (ab (dOp cX (dI 1) (bx av (ab (ag 0) (ab (dI 3) ay)))) ay)))))))
abbrev rR:List Str:=["_law_bag_here", "_law_life", "_law_turn", "_law_most", "_law_numbers", "_law_rows", "_law_some", "_law_leases", "_law_k", "_law_number"]
def rG(av bH:SpD):TSd:=
  aV (cH (dLC (yX (ab (dI 1) (ab (dI 7) ay))) (gN 0) (aT (dOp fL (bx av (ab (ag 1) (ab (dI 2) ay))) (dI 0))) (dOp cX (ag 0) (dOp gF (dI 6) (bx av (ab (ag 1) (ab (dI 2) ay))))) 1 [0]) (gN 4)) <|
  aV (cH (dLC (bU (dSl (mV (dCB yC (ab (ag 4) ay))) jE (sP (ag 3)))) (gN 0) iJ (bx bH (ab (ag 1) (ab (ag 0) ay))) 1 [0]) (gN 5)) <|
  aV (cH (dSl (aj8 (dLC (bU (ag 5)) (gN 0) iJ (dOp bZ (ag 0) (dI 0)) 1 []) (xy (ab (dI 20) ay))) jE (sP (dI 3))) (gN 6)) <|
  aV (cH (mU ay) (gN 7)) <|
  aV (j4 (p8 (ab (bx av (ab (ag 0) (ab (dI 5) ay))) ay)) (gN 8)
   (aV (cH (dOp bZ (ag 6) (bx av (ab (ag 0) (ab (dCB aaq (ab (ag 6) ay)) ay)))) (gN 9)) <|
   dt (lC (ag 7) (m9 (ab (dOp bZ (xy (ab (dS "s") (ab (dS "t") (ab (dS "log") (ab (dS "u") ay))))) (ag 8)) (ab (dOp cX (dI 1) (bx av (ab (ag 0) (ab (dI 9) ay)))) (ab (ag 9) (ab (dOp cX (ag 2) (bx av (ab (ag 0) (ab (dI 9) ay)))) ay)))))))) <|
  cm (m9 (ab (ag 1) (ab (ag 2) (ab (ag 5) (ab (mV (dCB aar (ab (ag 7) ay))) ay)))))
abbrev nO:List Str:=["self", "machine", "thing", "turn", "due"]
def nX(au:SpD):TSd:=
  aV (cH (dOp cX (dOp cX (ag 3) (dI 1)) (cA (ft ao (ag 0) "lateness") (ag 1))) (gN 4)) <|
  aV (dt (lC (ft ao (ag 0) "messages") (m9 (ab (ag 4) (ab (ag 1) (ab (bx au (ab (ag 2) ay)) ay)))))) <|
  dIf (aT (cA (ft ao (ag 0) "doubled") (ag 1)))
   (dt (lC (ft ao (ag 0) "messages") (m9 (ab (dOp cX (ag 4) (dI 1)) (ab (ag 1) (ab (bx au (ab (ag 2) ay)) ay))))))
   (bL)
abbrev fE:List Str:=["self"]
def fI:TSd:=
  cm (ft aa (ag 0) "standing")
abbrev ig:List Str:=["self", "turn", "rows"]
def gQ(aL:SpD):TSd:=
  aV (dIf (zB (aT (ft aa (ag 0) "standing")))
   (cm (dC (.d .none)))
   bL) <|
  aV (yF (cH (dLC (qa (ft aa (ag 0) "laid")) (gT 2 (aD (gN 0) (aD (gN 1) fc))) iJ (m9 (ab (ag 0) (ab (bx aL (ab (ag 1) ay)) ay))) 2 []) (gN 2))) <|
  cm (m9 (ab (ft aa (ag 0) "name") (ab (ft aa (ag 0) "lives") (ab (ag 1) (ab (ft aa (ag 0) "sheet_turn") (ab (ag 2) ay))))))
abbrev dA:List Str:=["self", "store", "turn", "leased", "token", "number", "until"]
def dB(aA:SpD):TSd:=
  aV (j4 (bU (ft aa (ag 0) "known_leases")) (gT 4 (aD (gN 3) (aD (gN 4) (aD (gN 5) (aD (gN 6) fc)))))
   (dIf (ady (aT (dOp fL (ag 3) (ag 1))) (ady (aT (dOp aa5 (ag 6) (ag 2))) (aT (bj aa "answers" aA (ag 0) (ab (ag 5) ay)))))
    (cm (m9 (ab (ag 5) (ab (ag 4) ay))))
    bL)) <|
  cm (dC (.d .none))
abbrev ll:List Str:=["copy", "number", "wish", "kind", "edition", "start", "hands", "state", "left"]
def lu:TSd:=
  aV (cH (ag 0) (gT 3 (aD (gT 6 (aD (gN 1) (aD (gN 2) (aD (gN 3) (aD (gN 4) (aD (gN 5) (aD (gN 6) fc))))))) (aD (gN 7) (aD (gN 8) fc))))) <|
  cm (m9 (ab (ag 1) (ab (ag 2) (ab (ag 3) (ab (ag 4) (ab (ag 7) ay))))))
abbrev fV:List Str:=["self"]
def fT(bP:SpD):TSd:=
  cm (uO (dLC (acV (ft aa (ag 0) "laid")) (gN 0) iJ (bx bP (ab (ag 0) ay)) 1 []))
abbrev fC:List Str:=["self"]
def fH:TSd:=
  cm (mV (dCB eX (ab (ft aa (ag 0) "known_leases") ay)))
abbrev va:List Str:=["_law_machine", "_law_turn", "_law_leases", "_law_told"]
def uT(aM aG aw aZ aU aE:SpD):TSd:=
  aV (cH (dLC (bU (xy (ab (dS "s") (ab (dS "t") (ab (dS "log") (ab (dS "u") ay)))))) (gN 0) iJ (bj aa "lease_at" aM (ag 1) (ab (ag 0) (ab (ag 2) ay))) 1 [0,1]) (gN 2)) <|
  aV (cH (xy (ab (bj aa "life" aG (ag 0) ay) (ab (bj aa "stands" aw (ag 0) ay) (ab (bj aa "lying" aZ (ag 0) ay) (ab (bj aa "leases" aU (ag 0) ay) (ab (bj aa "beat" aE (ag 0) (ab (ag 1) ay)) (ab (ag 2) ay))))))) (gN 3)) <|
  cm (dCB fu (ab (ag 3) ay))
abbrev ag0:List Str:=["_law_script", "_law_bag_here", "_law_names", "_law_roads", "_law_hearings", "_law_newest", "_law_three", "_law_name", "_law_machine", "_law_turn", "_law_k", "_law_life", "_law_sheet_here"]
def afE(cM av aY aK aF aI bY bJ aQ aG cc bB aw aE cq aq:SpD):TSd:=
  aV (cH (bx cM (ab (ag 0) ay)) (gN 1)) <|
  aV (cH (dSl (xy (ab (dS "ma") (ab (dS "mb") (ab (dS "mc") ay)))) jE (sP (dOp cX (dI 1) (bx av (ab (ag 1) (ab (dI 3) ay)))))) (gN 2)) <|
  aV (ago 3 4 5 (ab (mU (ab (fZ ao aY (ab (mV (dCB eX (ab (ag 2) ay))) ay)) (ab (fZ ao aY (ab (mV (dCB eX (ab (ag 2) ay))) ay)) ay))) (ab (mU (ab (fZ ak aK ay) (ab (fZ ak aK ay) ay))) (ab ur ay)))) <|
  aV (cH (dCB ma (ab (ajl (bU (ag 2)) (gN 0) iJ (adX (ab (ag 0) (ab (mU (ab (fZ aa aF (ab (ag 0) (ab (dI 6) ay))) (ab (fZ aa aF (ab (ag 0) (ab (dI 6) ay))) (ab (fZ aa aF (ab (ag 0) (ab (dI 6) ay))) ay)))) ay))) 1 []) ay)) (gN 6)) <|
  aV (j4 (bU (ag 2)) (gN 7)
   (dG (j4 (cw (cA (ag 6) (ag 7))) (gN 8)
    (dt (bj aa "rise" aI (ag 8) ay))))) <|
  aV (j4 (yX (ab (dI 1) (ab (dOp cX (dI 5) (bx av (ab (ag 1) (ab (dI 20) ay)))) ay))) (gN 9)
   (aV (dIf (zB (aT (bx bY (ab (ag 3) (ab (ag 6) (ab (ag 4) (ab (ag 5) (ab (ag 9) ay))))))))
    (cm (dC (.d (.bool false))))
    bL) <|
   aV (j4 (p8 (ab (bx av (ab (ag 1) (ab (dI 4) ay))) ay)) (gN 10)
    (dIf (zB (aT (bx bJ (ab (ag 1) (ab (ag 3) (ab (ag 6) (ab (dOp bZ (ag 2) (bx av (ab (ag 1) (ab (dCB aaq (ab (ag 2) ay)) ay)))) ay)))))))
     (cm (dC (.d (.bool false))))
     bL)) <|
   j4 (bU (ag 2)) (gN 7)
    (aV (dG (j4 (cw (cA (ag 6) (ag 7))) (gN 8)
     (dt (bj aa "go_on" aQ (ag 8) ay)))) <|
    aV (cH (dCB aac (ab (dI 1) (ab (dOp abt (bj aa "life" aG (dOp bZ (cA (ag 6) (ag 7)) (dI 0)) ay) (dCB agf (ab (dOp fL (bx av (ab (ag 1) (ab (dI 6) ay))) (dI 0)) ay))) ay))) (gN 11)) <|
    aV (cH (bx cc (ab (ag 1) (ab (ag 11) (ab (ag 9) (ab (dI 6) ay))))) (gN 12)) <|
    aV (j4 (p8 (ab (dI 2) ay)) (gN 10)
     (aV (dt (bj ao "put" bB (dOp bZ (ag 3) (ag 10)) (ab (ag 7) (ab (m9 (ab (dS "sheet") (ab (ag 12) ay))) (ab (ag 9) ay))))) <|
     dIf (aT (bj aa "stands" aw (dOp bZ (cA (ag 6) (ag 7)) (ag 10)) ay))
      (dt (bj ao "put" bB (dOp bZ (ag 3) (ag 10)) (ab (ag 7) (ab (m9 (ab (dS "beat") (ab (bj aa "beat" aE (dOp bZ (cA (ag 6) (ag 7)) (ag 10)) (ab (ag 9) ay)) ay))) (ab (ag 9) ay)))))
      bL)) <|
    aV (dIf (aT (dOp qm (iH (gn (dLC (cw (cA (ag 6) (ag 7))) (gN 0) iJ (bx cq (ab (ag 0) (ab (ag 1) ay))) 1 [9]))) (dI 1)))
     (cm (dC (.d (.bool false))))
     bL) <|
    dIf (aT (dOp qm (dCB fu (ab (bj ak "kept" aq (dOp bZ (ag 4) (dI 0)) (ab (ag 7) ay)) ay)) (dCB fu (ab (bj ak "kept" aq (dOp bZ (ag 4) (dI 1)) (ab (ag 7) ay)) ay))))
     (cm (dC (.d (.bool false))))
     bL))) <|
  cm (dC (.d (.bool true)))
structure Mc where
 num:Int
 tQ:Str
 kind:Str
 ed:Int
 start:Int
 hands:Int
 st:Str
 left:Int
def wg(c:Mc):PyData:=.tuple [.int c.num,.str c.tQ,.str c.kind,.int c.ed,.int c.start,.int c.hands]
def cpD(c:Mc):PyData:=.tuple [wg c,.str c.st,.int c.left]
def Fr(M M':MH)(T:List Addr):Prop:=∀ q o,M q=some o->q ∉ T->M' q=some o
theorem Fr.refl(M:MH)(T:List Addr):Fr M M T:=λ _ _ h _=>h
theorem Fr.trans{A B C:MH}{T U:List Addr}(h:Fr A B T)(k:Fr B C U):Fr A C (T++U):=λ q o e n=>k q o (h q o e λ z=>n (List.mem_append_left _ z)) λ z=>n (List.mem_append_right _ z)
theorem Fr.mono{A B:MH}{T U:List Addr}(h:Fr A B T)(s:∀ q∈T,q∈U):Fr A B U:=λ q o e n=>h q o e λ z=>n (s q z)
theorem Fr.vS{A B:MH}(h:Ext A B)(T:List Addr):Fr A B T:=λ q o e _=>h q o e
theorem Fr.of_eq{A B:MH}{p:Addr}(h:∀ q,q≠p->B q=A q):Fr A B [p]:=λ q o e n=>by rw[h q (by simpa using n)];exact e
theorem Fr.upd{A B:MH}{T:List Addr}{p:Addr}{o:MO}(h:Fr A B T):Fr A (aS B p o) (p::T):=λ q u e n=>by rw[ah (λ z=>n (by simp[z]))];exact h q u e λ z=>n (by simp[z])
theorem Fr.alJ{A B:MH}{T:List Addr}{p:Addr}{o:MO}(h:Fr A B T)(hp:p∈T):Fr A (aS B p o) T:=λ q u e n=>by rw[ah (λ z:q=p=>n (by rw[z];exact hp))];exact h q u e n
theorem Fr.bag{A B:MH}{T:List Addr}{p:Addr}(h:Fr A B T)(hb:Bag A p)(n:p ∉ T):Bag B p:=by obtain⟨a,b,c,ns,h1,h2⟩:=hb;exact⟨a,b,c,ns,h p _ h1 n,h2⟩
structure Mst where
 up:Bool
 life:Int
 sheet:Int
 L:List Mc
 lz:List PyData
abbrev flm(nm:Str)(room:Int)(S:Mst)(d:Addr):List (Str×W):=[("name",.d (.str nm)),("berth_count",.d (.int room)),("standing",.d (.bool S.up)),("lives",.d (.int S.life)),("sheet_turn",.d (.int S.sheet)),("laid",.m d),("known_leases",.d (.list S.lz))]
def ri(L:List Mc):List (Key×PyData):=L.map λ c=>(.inl c.num,cpD c)
structure Pm(M:MH)(s d:Addr)(nm:Str)(room:Int)(S:Mst):Prop where
 hs:M s=some (.ins aa (flm nm room S d))
 hd:M d=some (.dic (bt (ri S.L)))
theorem Pm.ne{M:MH}{s d:Addr}{nm:Str}{room:Int}{S:Mst}(h:Pm M s d nm room S):s≠d:=agD h.hs h.hd nofun
theorem Pm.keep{M M':MH}{s d:Addr}{nm:Str}{room:Int}{S:Mst}{T:List Addr}(h:Pm M s d nm room S)(f:Fr M M' T)(n1:s ∉ T)(n2:d ∉ T):Pm M' s d nm room S:=⟨f _ _ h.hs n1,f _ _ h.hd n2⟩
def fi(L:List Mc)(n:Int):Option Mc:=L.find? λ c=>decide (c.num=n)
theorem adH(c:Mc)(L:List Mc)(n:Int):fi (c::L) n=if c.num=n then some c else fi L n:=by
 by_cases e:c.num=n<;>simp[fi,List.find?_cons,e]
theorem vD{L:List Mc}{n:Int}{c:Mc}(h:fi L n=some c):c∈L/\c.num=n:=by
 unfold fi at h;have h1:=List.find?_some h;exact⟨List.mem_of_find?_eq_some h,by simpa using h1⟩
theorem afd{L:List Mc}{n:Int}(h:fi L n=none):∀ c∈L,c.num≠n:=by
 unfold fi at h;intro b hb e;have:=List.find?_eq_none.mp h b hb;simp[e] at this
theorem lq(L:List Mc)(n:Int):eV (bt (ri L)) (.inl n)=(fi L n).map λ c=>.d (cpD c):=by
 induction L with
 | nil=>rfl
 | cons c L ih =>
  have e1:bt (ri (c::L))=((.inl c.num:Key),W.d (cpD c))::bt (ri L):=rfl;rw[e1,cn,adH,ih]
  by_cases e:c.num=n
  .simp[e]
  .have e':¬ (Sum.inl c.num:Key)=.inl n:=λ z=>e (Sum.inl.inj z);simp[e,e']
theorem yQ(L:List Mc):(bt (ri L)).length=L.length:=by simp[bt,ri]
def up1(L:List Mc)(n:Int)(f:Mc->Mc):List Mc:=L.map λ c=>if c.num=n then f c else c
theorem afp{L:List Mc}{n:Int}{c:Mc}{f:Mc->Mc}(nd:(L.map Mc.num).Nodup)(h:fi L n=some c)(hf:∀ c,(f c).num=c.num):kG (bt (ri L)) (.inl n) (.d (cpD (f c)))=bt (ri (up1 L n f)):=by
 unfold kG;rw[gB,lq,h,if_pos (by rfl)];have e1:bt (ri L)=L.map λ c=>((.inl c.num:Key),W.d (cpD c)):=by simp[bt,ri]
 have e2:bt (ri (up1 L n f))=L.map λ y=>((.inl (if y.num=n then f y else y).num:Key),W.d (cpD (if y.num=n then f y else y))):=by simp[bt,ri,up1]
 rw[e1,e2,List.map_map];refine List.map_congr_left λ y hy=>?_
 by_cases e:y.num=n
 .have:y=c:=by
   obtain⟨h1,h2⟩:=vD h;clear e1 e2 h
   induction L with
   | nil=>cases hy
   | cons x L ih =>
    rw[List.map_cons,List.nodup_cons] at nd;rcases List.mem_cons.mp hy with a | a<;>rcases List.mem_cons.mp h1 with b | b
    .rw[a,b]
    .exact absurd (List.mem_map.mpr ⟨c,b,by rw[h2,<- e,a]⟩) nd.1
    .exact absurd (List.mem_map.mpr ⟨y,a,by rw[e,<- h2,b]⟩) nd.1
    .exact ih nd.2 a b
  subst this;simp[e,hf]
 .have e':¬ (Sum.inl y.num:Key)=.inl n:=λ z=>e (Sum.inl.inj z);simp[e,e']
def st0:Mst:=⟨false,0,0,[],[]⟩
def aF:SpD:=λ ws M Q=>∃ (s:Addr) (nm:Str) (room:Int),ws=[.m s,.d (.str nm),.d (.int room)]/\M s=some (.ins aa [])/\∀ d M',M d=none->Pm M' s d nm room st0->Fr M M' [s]->Q (.d .none) M'
theorem kb:Ln aF 3:=by rintro ws M Q ⟨s,nm,room,rfl,_⟩;rfl
theorem ju:Rd aF gK hU:=by
 rintro ws M Q ⟨s,nm,room,rfl,hs,k⟩;have c1:∀ n:Nat,n<10->n<1000:=λ n h=>by omega
 refine⟨_,rfl,_,rfl,s,_,rfl,hs,c1 _ (by decide),?_⟩;refine⟨_,rfl,_,rfl,s,_,rfl,af,c1 _ (by show 1<10;decide),?_⟩;refine⟨_,rfl,s,_,rfl,af,c1 _ (by show 2<10;decide),?_⟩;refine⟨_,rfl,s,_,rfl,af,c1 _ (by show 3<10;decide),?_⟩;refine⟨_,rfl,s,_,rfl,af,c1 _ (by show 4<10;decide),?_⟩;refine λ d hd=>⟨_,rfl,s,_,rfl,cC af hd,c1 _ (by show 5<10;decide),?_⟩;have n1:d≠s:=λ e=>by rw[e,af] at hd;cases hd
 have hdM:M d=none:=by rw[ah n1,ah n1,ah n1,ah n1,ah n1] at hd;exact hd
 refine⟨_,rfl,few (by simp),_,rfl,s,_,rfl,af,c1 _ (by show 6<10;decide),?_⟩;refine k d _ hdM ⟨by rw[af];rfl,?_⟩ ?_
 .rw[ah n1,ah n1,af];rfl
 .intro q o e n;have n2:q≠s:=by simpa using n
  have n3:q≠d:=λ z=>by rw[z,hdM] at e;cases e
  rw[ah n2,ah n2,ah n3,ah n2,ah n2,ah n2,ah n2,ah n2];exact e
def isA(c:Mc):Bool:=decide (c.st = "answering")
def aL:SpD:=λ ws M Q=>∃ c,ws=[.d (cpD c)]/\Q (.d (.bool (isA c))) M
theorem kD:Ln aL 1:=by rintro ws M Q ⟨c,rfl,_⟩;rfl
theorem jz:Rd aL ir gJ:=by
 rintro ws M Q ⟨c,rfl,k⟩;refine⟨_,rfl,_,rfl,rfl,_,_,rfl,_,_,rfl,_,_,rfl,rfl,_,rfl,_,_,.d,.d,rfl,?_⟩;rw[eW];exact k
def vZ(c:Mc):Mc:={c with st:= "failed",left:=0}
def cO:SpD:=λ ws M Q=>∃ c,ws=[.d (cpD c)]/\Q (.d (cpD (vZ c))) M
theorem wD:Ln cO 1:=by rintro ws M Q ⟨c,rfl,_⟩;rfl
theorem sQ:Rd cO vo vz:=by
 rintro ws M Q ⟨c,rfl,k⟩;exact⟨_,rfl,_,rfl,rfl,_,_,rfl,_,_,rfl,_,_,rfl,rfl,_,rfl,_,rfl,few (by simp),k⟩
def yT(L:List Mc)(n:Int):Bool:=match fi L n with
 | some c=>isA c
 | none=>false
def aA:SpD:=λ ws M Q=>∃ s d nm room S n,ws=[.m s,.d (.int n)]/\Pm M s d nm room S/\Q (.d (.bool (yT S.L n))) M
theorem iz:Ln aA 2:=by rintro ws M Q ⟨s,d,nm,room,S,n,rfl,_⟩;rfl
theorem gm{nm:Str}{room:Int}{S:Mst}{d:Addr}:(flm nm room S d).lookup ("laid" : Str)=some (.m d):=rfl
theorem gE:Rd aA (eN aL) eQ:=by
 rintro ws M Q ⟨s,d,nm,room,S,n,rfl,H,k⟩;refine⟨_,rfl,_,rfl,s,_,_,rfl,H.hs,gm,_,.k (k:=.inl n) H.hd,?_⟩;have t1:=lq S.L n;rw[t1];unfold yT at k;cases e:fi S.L n with
 | none =>
  rw[e] at k;exact⟨_,rfl,jf k⟩
 | some c =>
  rw[e] at k t1;exact⟨_,rfl,sF ⟨_,rfl,s,_,_,rfl,H.hs,gm,_,rfl,d,_,.inl n,_,rfl,.inl H.hd,rfl,t1,c,rfl,k⟩⟩
theorem ac0{nm:Str}{room:Int}{S:Mst}{d:Addr}:(flm nm room S d).lookup ("answers" : Str)=none:=rfl
def nA(L:List Mc)(n:Int):List Mc:=up1 L n λ c=>if isA c=true then vZ c else c
theorem qN(c:Mc):(if isA c=true then vZ c else c).num=c.num:=by split<;>rfl
theorem acL{L:List Mc}{n:Int}(nd:(L.map Mc.num).Nodup)(h:yT L n=false):nA L n=L:=by
 unfold nA up1;refine(List.map_congr_left λ c hc=>?_).trans (List.map_id L)
 by_cases e:c.num=n
 .have:isA c=false:=by
   unfold yT at h;cases q:fi L n with
   | none=>exact absurd e (afd q c hc)
   | some c' =>
    rw[q] at h;obtain⟨h1,h2⟩:=vD q;have:c=c':=by
     clear h q
     induction L with
     | nil=>cases hc
     | cons x L ih =>
      rw[List.map_cons,List.nodup_cons] at nd;rcases List.mem_cons.mp hc with a | a<;>rcases List.mem_cons.mp h1 with b | b
      .rw[a,b]
      .exact absurd (List.mem_map.mpr ⟨c',b,by rw[h2,<- e,a]⟩) nd.1
      .exact absurd (List.mem_map.mpr ⟨c,a,by rw[e,<- h2,b]⟩) nd.1
      .exact ih nd.2 a b
    rw[this];exact h
  simp[e,this]
 .simp[e]
def bu:SpD:=λ ws M Q=>∃ s d nm room S n,ws=[.m s,.d (.int n)]/\Pm M s d nm room S/\(S.L.map Mc.num).Nodup/\S.L.length<=100/\∀ M',Pm M' s d nm room {S with L:=nA S.L n}->Fr M M' [d]->Q (.d (.bool (yT S.L n))) M'
theorem kh:Ln bu 2:=by rintro ws M Q ⟨s,d,nm,room,S,n,rfl,_⟩;rfl
theorem jr:Rd bu (gV aA cO) gI:=by
 rintro ws M Q ⟨s,d,nm,room,S,n,rfl,H,nd,hl,k⟩;have s16':=s16;refine⟨_,rfl,s,_,rfl,H.hs,ac0,_,rfl,s,d,nm,room,S,n,rfl,H,_,rfl,?_⟩;cases q:yT S.L n with
 | false =>
  rw[q] at k;refine sF ?_;exact k M (by rw[acL nd q];exact H) (Fr.refl _ _)
 | true =>
  rw[q] at k;have t1:=lq S.L n;unfold yT at q;cases e:fi S.L n with
  | none=>rw[e] at q;cases q
  | some c =>
   rw[e] at q t1;dsimp only at q;refine jf ⟨_,rfl,s,_,_,rfl,H.hs,gm,_,rfl,d,_,.inl n,_,rfl,.inl H.hd,rfl,t1,c,rfl,_,rfl,s,_,_,rfl,H.hs,gm,_,rfl,d,_,.inl n,rfl,H.hd,rfl,by rw[yQ];omega,?_⟩;have tp:=afp (f:=λ c=>if isA c=true then vZ c else c) nd e qN;rw[if_pos q] at tp;refine k _ ⟨by rw[ah H.ne];exact H.hs,?_⟩ (Fr.upd (Fr.refl _ _));rw[af];exact congrArg (λ z=>some (MO.dic z)) tp
def dM(S:Mst):Mst:=if S.up=true then S else {S with up:=true,life:=S.life+1,sheet:=0}
def aI:SpD:=λ ws M Q=>∃ s d nm room S,ws=[.m s]/\Pm M s d nm room S/\∀ M',Pm M' s d nm room (dM S)->Fr M M' [s]->Q (.d (.bool (!S.up))) M'
theorem kl:Ln aI 1:=by rintro ws M Q ⟨s,d,nm,room,S,rfl,_⟩;rfl
theorem dg{nm:Str}{room:Int}{S:Mst}{d:Addr}:(flm nm room S d).lookup ("standing" : Str)=some (.d (.bool S.up)):=rfl
theorem jL:Rd aI gS ij:=by
 rintro ws M Q ⟨s,d,nm,room,S,rfl,H,k⟩;have c7:(7:Nat)<1000:=by decide
 refine⟨_,rfl,s,_,_,rfl,H.hs,dg,_,rfl,?_⟩;unfold dM at k;cases q:S.up with
 | true =>
  rw[q] at k;refine sF ?_;exact k M (by rw[if_pos rfl];exact H) (Fr.refl _ _)
 | false =>
  rw[q,if_neg (by decide)] at k;refine jf ?_;refine⟨_,rfl,s,_,rfl,H.hs,c7,?_⟩;refine⟨_,rfl,s,_,S.life,rfl,af,rfl,1,_,rfl,af,c7,?_⟩;refine⟨_,rfl,s,_,rfl,af,c7,?_⟩;have n1:=H.ne;refine k _ ⟨by rw[af];rfl,by rw[ah n1.symm,ah n1.symm,ah n1.symm];exact H.hd⟩ ?_;intro q o e n;have n2:q≠s:=by simpa using n
  rw[ah n2,ah n2,ah n2];exact e
def br:SpD:=λ ws M Q=>∃ s d nm room S,ws=[.m s]/\Pm M s d nm room S /\
 (S.up=false->Q (.d (.bool false)) M)/\(S.up=true->∀ d' M',M d'=none->Pm M' s d' nm room {S with up:=false,L:=[],lz:=[]}->Fr M M' [s]->Q (.d (.bool true)) M')
theorem j7:Ln br 1:=by rintro ws M Q ⟨s,d,nm,room,S,rfl,_⟩;rfl
theorem js:Rd br hJ iu:=by
 rintro ws M Q ⟨s,d,nm,room,S,rfl,H,k1,k2⟩;have c7:(7:Nat)<1000:=by decide
 refine⟨_,rfl,s,_,_,rfl,H.hs,dg,_,rfl,?_⟩;cases q:S.up with
 | false=>exact sF (k1 q)
 | true =>
  refine jf ?_;refine⟨_,rfl,s,_,rfl,H.hs,c7,?_⟩;refine λ d' hd'=>⟨_,rfl,s,_,rfl,cC af hd',c7,?_⟩;refine⟨_,rfl,few (by simp),_,rfl,s,_,rfl,af,c7,?_⟩;have n1:d'≠s:=λ e=>by rw[e,af] at hd';cases hd'
  have hdM:M d'=none:=by rw[ah n1] at hd';exact hd'
  refine k2 q d' _ hdM ⟨by rw[af];rfl,by rw[ah n1,ah n1,af];rfl⟩ ?_;intro q o e n;have n2:q≠s:=by simpa using n
  have n3:q≠d':=λ z=>by rw[z,hdM] at e;cases e
  rw[ah n2,ah n2,ah n3,ah n2];exact e
def agr(c:Mc):Mc:={c with st:= "starting",left:=c.start}
def bz:SpD:=λ ws M Q=>∃ c,ws=[.d (wg c)]/\Q (.d (cpD (agr c))) M
theorem rE:Ln bz 1:=by rintro ws M Q ⟨c,rfl,_⟩;rfl
theorem oS:Rd bz oB oh:=by
 rintro ws M Q ⟨c,rfl,k⟩;exact⟨_,rfl,_,rfl,rfl,_,_,rfl,_,_,rfl,_,_,rfl,_,_,rfl,_,_,rfl,_,_,rfl,rfl,_,rfl,_,rfl,_,rfl,few (by simp),k⟩
def goC(c:Mc):Mc:=if c.st = "failed" then agr c else if c.st = "starting" /\ 0<c.left then {c with left:=c.left-1} else {c with st:= "answering",left:=0}
theorem uq(c:Mc):(goC c).num=c.num:=by
 unfold goC
 split
 .rfl
 .split<;>rfl
def cy:SpD:=λ ws M Q=>∃ c,ws=[.d (cpD c)]/\Q (.d (cpD (goC c))) M
theorem tW:Ln cy 1:=by rintro ws M Q ⟨c,rfl,_⟩;rfl
theorem su:Rd cy (sy bz) qC:=by
 rintro ws M Q ⟨c,rfl,k⟩;unfold goC at k;refine⟨_,rfl,_,rfl,rfl,_,_,rfl,_,_,rfl,_,_,rfl,rfl,_,rfl,_,_,.d,.d,rfl,_,rfl,?_⟩;rw[eW]
 by_cases h1:c.st = "failed"
 .rw[if_pos h1] at k;exact pq (decide_eq_true h1) ⟨_,rfl,c,rfl,k⟩
 .rw[if_neg h1] at k;refine qy (decide_eq_false h1) ?_;refine⟨_,rfl,_,_,.d,.d,rfl,_,rfl,?_⟩;rw[eW]
  by_cases h2:c.st = "starting"
  .refine pq (decide_eq_true h2) ⟨_,rfl,_,_,rfl,rfl,_,rfl,?_⟩
   by_cases h3:0<c.left
   .rw[if_pos ⟨h2,h3⟩] at k;refine pq (decide_eq_true h3) ⟨_,rfl,_,rfl,_,_,rfl,rfl,_,rfl,few (by simp),?_⟩;rw[<- h2];exact k
   .rw[if_neg (λ z=>h3 z.2)] at k;refine qy (decide_eq_false h3) ⟨_,rfl,_,rfl,few (by simp),k⟩
  .rw[if_neg (λ z=>h2 z.1)] at k;refine qy (decide_eq_false h2) ?_;exact jf ⟨_,rfl,_,rfl,few (by simp),k⟩
theorem aj2{L:List Mc}{n:Int}(h:n ∉ L.map Mc.num):fi L n=none:=by
 unfold fi;rw[List.find?_eq_none];intro c hc e;exact h (List.mem_map.mpr ⟨c,hc,by simpa using e⟩)
theorem vn{L:List Mc}{n:Int}{c:Mc}(h:n ∉ L.map Mc.num)(hc:c.num=n):kG (bt (ri L)) (.inl n) (.d (cpD c))=bt (ri (L++[c])):=by
 unfold kG;rw[gB,lq,aj2 h,if_neg (by simp)];subst hc;simp[bt,ri]
theorem ye{α:Type}{f:α->Int}{L:List α}(nd:(L.map f).Nodup){i:Nat}{c:α}(h:L[i]? =some c):f c ∉ (L.take i).map f:=by intro hm;obtain⟨b,hb,e⟩:=List.mem_map.mp hm;obtain⟨j,hj,rfl⟩:=List.mem_iff_getElem.mp hb;obtain⟨hi,h2⟩:=List.getElem?_eq_some_iff.mp h;rw[List.length_take] at hj;rw[List.nodup_iff_pairwise_ne,List.pairwise_iff_getElem] at nd;refine nd j i (by simp;omega) (by simpa using hi) (by omega) ?_;simp[h2] at e ⊢;exact e
def aQ:SpD:=λ ws M Q=>∃ s d nm room S,ws=[.m s]/\Pm M s d nm room S/\(S.L.map Mc.num).Nodup/\S.L.length<=100/\∀ d' M',M d'=none->Pm M' s d' nm room {S with L:=S.L.map goC}->Fr M M' [s]->Q (.d .none) M'
theorem jG:Ln aQ 1:=by rintro ws M Q ⟨s,d,nm,room,S,rfl,_⟩;rfl
theorem zA{L:List Mc}{i:Nat}{w:W}(h:(gW (ri L))[i]? =some w):∃ c,L[i]? =some c/\w=.d (.tuple [.int c.num,cpD c]):=by
 unfold gW ri at h;rw[List.map_map] at h;obtain⟨c,e,rfl⟩:=dF h;exact⟨c,e,rfl⟩
theorem xn(L:List Mc):(gW (ri L)).length=L.length:=by simp[gW,ri]
theorem iM:Rd aQ (fW cy) fO:=by
 rintro ws M Q ⟨s,d,nm,room,S,rfl,H,nd,hl,k⟩;have s16':=s16;have n1:=H.ne;refine⟨d,_,H.hd,_,rfl,s,_,_,rfl,by rw[ah n1];exact H.hs,gm,d,ri S.L,rfl,af,λ p hp=>?_⟩;have np:p≠d:=λ z=>by rw[z,af] at hp;cases hp
 have hpM:M p=none:=by rw[ah np] at hp;exact hp
 refine⟨λ i τ M'=>i<=S.L.length/\M' p=some (.dic (bt (ri ((S.L.take i).map goC))))/\(∀ q,q≠p->M' q=aS M d (.fdic (bt (ri S.L))) q)/\∃ x y,τ=[x,y],⟨Nat.zero_le _,af,λ q h=>ah h,_,_,rfl⟩,?_,?_⟩
 .rintro i w τ M' hw ⟨hi,h1,h2,x,y,rfl⟩;obtain⟨c,hc,rfl⟩:=zA hw;have hlt:=(List.getElem?_eq_some_iff.mp hc).1;refine⟨_,rfl,rfl,_,_,rfl,_,_,rfl,rfl,?_⟩;dsimp only[iJ];rw[if_pos rfl];refine⟨_,rfl,_,rfl,c,rfl,_,.inl c.num,h1,rfl,by rw[yQ,lm,List.length_take];omega,hlt,?_,λ q hq=>by rw[ah hq];exact h2 q hq,_,_,rfl⟩;rw[af];have hn:c.num ∉ ((S.L.take i).map goC).map Mc.num:=by rw[List.map_map,show(Mc.num ∘ goC)=Mc.num from funext uq];exact ye nd hc
  have e1:(S.L.take (i+1)).map goC=(S.L.take i).map goC++[goC c]:=by rw[List.take_succ,hc,List.map_append];rfl
  rw[e1];exact congrArg (λ z=>some (MO.dic z)) (vn hn (uq c))
 .rintro τ M' ⟨hi,h1,h2,x,y,rfl⟩;rw[xn,List.take_length] at h1;have hd':M' d=some (.fdic (bt (ri S.L))):=by rw[h2 d np.symm,af]
  have hs':M' s=M s:=by rw[h2 s (bN H.hs hpM),ah n1]
  refine⟨hd',_,rfl,s,_,rfl,by rw[ah n1,hs'];exact H.hs,by show 7<1000;decide,?_⟩;refine k p _ hpM ⟨by rw[af];rfl,by rw[ah (bN H.hs hpM).symm,ah np];exact h1⟩ ?_;intro q o e n;have n2:q≠s:=by simpa using n
  have n3:q≠p:=λ z=>by rw[z,hpM] at e;cases e
  rw[ah n2]
  by_cases qd:q=d
  .subst qd;rw[af,<- H.hd];exact e
  .rw[ah qd,h2 q n3,ah qd];exact e
def dj(life turn:Int)(rows:List Mc)(lz:List PyData):PyData:=.tuple [.int life,.int turn,.list (rows.map wg),.list lz]
def fR(L rows:List Mc):List Mc:=rows.map λ r=>(fi L r.num).getD r
def okT(S:Mst)(life turn:Int):Bool:=S.up&&decide (life=S.life)&&decide (S.sheet<turn)
theorem oR{L:List Mc}{r:Mc}:((fi L r.num).getD r).num=r.num:=by
 cases e:fi L r.num with
 | none=>rfl
 | some c=>exact(vD e).2
theorem pG{nm:Str}{room:Int}{S:Mst}{d:Addr}:(flm nm room S d).lookup ("lives" : Str)=some (.d (.int S.life)):=rfl
theorem vc{nm:Str}{room:Int}{S:Mst}{d:Addr}:(flm nm room S d).lookup ("sheet_turn" : Str)=some (.d (.int S.sheet)):=rfl
theorem ae7{nm:Str}{room:Int}{S:Mst}{d:Addr}:(flm nm room S d).lookup ("name" : Str)=some (.d (.str nm)):=rfl
def aH:SpD:=λ ws M Q=>∃ s d nm room S life turn rows lz,ws=[.m s,.d (dj life turn rows lz)]/\Pm M s d nm room S/\(rows.map Mc.num).Nodup/\rows.length<=100/\(∀ r∈rows,agr r=r) /\
 (okT S life turn=false->Q (.d (.bool false)) M)/\(okT S life turn=true->∀ d' M',M d'=none->Pm M' s d' nm room {S with sheet:=turn,L:=fR S.L rows,lz:=lz}->Fr M M' [s]->Q (.d (.bool true)) M')
theorem j8:Ln aH 2:=by rintro ws M Q ⟨s,d,nm,room,S,life,turn,rows,lz,rfl,_⟩;rfl
theorem jF:Rd aH (gO bz) il:=by
 rintro ws M Q ⟨s,d,nm,room,S,life,turn,rows,lz,rfl,H,nd,hl,hn,k1,k2⟩;have s16':=s16;have n1:=H.ne;have c7:(7:Nat)<1000:=by decide
 have no:okT S life turn=false->cm (dC (.d (.bool false))) (EdQ Q) [some (.m s),some (.d (dj life turn rows lz)),some (.d (.int life)),some (.d (.int turn)),some (.d (.list (rows.map wg))),some (.d (.list lz))] M:=λ h=>k1 h;refine⟨_,rfl,_,rfl,rfl,_,_,rfl,_,_,rfl,_,_,rfl,_,_,rfl,rfl,?_⟩;refine⟨_,rfl,s,_,_,rfl,H.hs,dg,_,rfl,?_⟩;unfold okT at k1 k2;cases q1:S.up with
 | false=>rw[q1] at k1;exact sF (sF (k1 rfl))
 | true =>
  rw[q1] at k1 k2;refine jf ⟨_,rfl,_,rfl,s,_,_,rfl,H.hs,pG,_,_,.d,.d,rfl,_,rfl,?_⟩;rw[fh]
  by_cases q2:life=S.life
  .rw[decide_eq_true q2] at k1 k2 ⊢;refine jf ⟨_,rfl,_,rfl,s,_,_,rfl,H.hs,vc,.inl ⟨_,_,rfl,rfl,_,rfl,?_⟩⟩
   by_cases q3:S.sheet<turn
   .rw[decide_eq_true q3] at k1 k2;refine qy (decide_eq_false (by omega)) ?_;refine⟨_,rfl,_,rfl,s,_,rfl,H.hs,c7,?_⟩;have H1:Pm (aS M s (.ins aa (flm nm room {S with sheet:=turn} d))) s d nm room {S with sheet:=turn}:=⟨af,by rw[ah n1.symm];exact H.hd⟩;have f1:Fr M (aS M s (.ins aa (flm nm room {S with sheet:=turn} d))) [s]:=Fr.upd (Fr.refl _ _);have eM:aS M s (.ins aa (vB "sheet_turn" (.d (.int turn)) (flm nm room S d)))=aS M s (.ins aa (flm nm room {S with sheet:=turn} d)):=rfl;rw[eM];generalize aS M s (.ins aa (flm nm room {S with sheet:=turn} d))=M1 at H1 f1;refine⟨_,rfl,_,rfl,λ p hp=>?_⟩;have hps:p≠s:=λ z=>by rw[z,H1.hs] at hp;cases hp
    have hpd:p≠d:=λ z=>by rw[z,H1.hd] at hp;cases hp
    refine⟨λ i τ M'=>i<=rows.length/\M' p=some (.dic (bt (ri (fR S.L (rows.take i)))))/\(∀ q,q≠p->M' q=M1 q)/\∃ x,τ=[x,some (.m s)],⟨Nat.zero_le _,af,λ q h=>ah h,_,rfl⟩,?_,?_⟩
    .rintro i w τ M' hw ⟨hi,h1,h2,x,rfl⟩;obtain⟨w',hw',rfl⟩:=dF hw;obtain⟨r,hr,rfl⟩:=dF hw';have hlt:=(List.getElem?_eq_some_iff.mp hr).1;have Hs:M' s=some (.ins aa (flm nm room {S with sheet:=turn} d)):=by rw[h2 s hps.symm];exact H1.hs
     have Hd:M' d=some (.dic (bt (ri S.L))):=by rw[h2 d hpd.symm];exact H1.hd
     dsimp only[iJ,gN];rw[if_pos rfl];refine⟨_,rfl,_,_,rfl,rfl,rfl,_,rfl,s,_,_,rfl,Hs,gm,.k Hd,_,rfl,_,_,rfl,rfl,rfl,_,rfl,r,rfl,_,.k (k:=.inl r.num) Hd,_,.inl r.num,h1,rfl,by rw[yQ,fR,lm,List.length_take];omega,hlt,?_,λ q hq=>by rw[ah hq];exact h2 q hq,_,rfl⟩;rw[af,lq];have hnn:r.num ∉ (fR S.L (rows.take i)).map Mc.num:=by
      unfold fR;rw[List.map_map,show(Mc.num ∘ λ r=>(fi S.L r.num).getD r)=Mc.num from funext λ r=>oR];exact ye nd hr
     have e1:fR S.L (rows.take (i+1))=fR S.L (rows.take i)++[(fi S.L r.num).getD r]:=by unfold fR;rw[List.take_succ,hr,List.map_append];rfl
     have e2:((fi S.L r.num).map λ c=>W.d (cpD c)).getD (.d (cpD (agr r)))=.d (cpD ((fi S.L r.num).getD r)):=by rw[hn r (List.mem_of_getElem? hr)];cases fi S.L r.num<;>rfl
     rw[e1,e2];exact congrArg (λ z=>some (MO.dic z)) (vn hnn oR)
    .rintro τ M' ⟨hi,h1,h2,x,rfl⟩;rw[show((rows.map wg).map W.d).length=rows.length from by simp,List.take_length] at h1;have Hs:M' s=some (.ins aa (flm nm room {S with sheet:=turn} d)):=by rw[h2 s hps.symm];exact H1.hs
     refine⟨_,rfl,s,_,rfl,Hs,c7,?_⟩;have eM2:aS M' s (.ins aa (vB "laid" (.m p) (flm nm room {S with sheet:=turn} d)))=aS M' s (.ins aa (flm nm room {S with sheet:=turn} p)):=rfl;rw[eM2];have hs2:aS M' s (.ins aa (flm nm room {S with sheet:=turn} p)) s=some (.ins aa (flm nm room {S with sheet:=turn} p)):=af;have hp2:aS M' s (.ins aa (flm nm room {S with sheet:=turn} p)) p=some (.dic (bt (ri (fR S.L rows)))):=by rw[ah hps];exact h1
     have hpM:M p=none:=by
      cases e:M p with
      | none=>rfl
      | some o=>rw[f1 p o e (by simpa using hps)] at hp;cases hp
     have f2:Fr M (aS M' s (.ins aa (flm nm room {S with sheet:=turn} p))) [s]:=λ q o e n=>by
      have n2:q≠s:=by simpa using n
      have n3:q≠p:=λ z=>by rw[z,hpM] at e;cases e
      rw[ah n2,h2 q n3];exact f1 q o e n
     generalize aS M' s (.ins aa (flm nm room {S with sheet:=turn} p))=M2 at hs2 hp2 f2;refine⟨_,rfl,_,_,rfl,.l,λ l hl'=>?_⟩;have x2:=sealed (o:=.lst (lz.map W.d)) hl';refine⟨l,lz,rfl,af,_,rfl,s,_,rfl,x2 _ _ hs2,(by show 7<1000;decide),?_⟩;refine k2 rfl p _ hpM ⟨by rw[af,<- q1];rfl,by rw[ah hps];exact x2 _ _ hp2⟩ ?_;exact((f2.trans (Fr.vS x2 [])).mono (by simp)).alJ (by simp)
   .rw[decide_eq_false q3] at k1;refine pq (decide_eq_true (by omega)) (k1 rfl)
  .rw[decide_eq_false q2] at k1 ⊢;exact sF (k1 rfl)
def oQ(c:Mc):PyData:=.tuple [.int c.num,.str c.tQ,.str c.kind,.int c.ed,.str c.st]
def bP:SpD:=λ ws M Q=>∃ c,ws=[.d (cpD c)]/\Q (.d (oQ c)) M
theorem p7:Ln bP 1:=by rintro ws M Q ⟨c,rfl,_⟩;rfl
theorem nG:Rd bP lu ll:=by
 rintro ws M Q ⟨c,rfl,k⟩;exact⟨_,rfl,_,rfl,rfl,_,_,rfl,⟨_,rfl,rfl,_,_,rfl,_,_,rfl,_,_,rfl,_,_,rfl,_,_,rfl,_,_,rfl,rfl,_,_,rfl,_,_,rfl,rfl,_,rfl,_,rfl,_,rfl,_,rfl,_,rfl,_,rfl,few (by simp),k⟩⟩
def aZ:SpD:=λ ws M Q=>∃ s d nm room S,ws=[.m s]/\Pm M s d nm room S/\S.L.length<=100/\Q (.d (.list (S.L.map oQ))) M
theorem jq:Ln aZ 1:=by rintro ws M Q ⟨s,d,nm,room,S,rfl,_⟩;rfl
theorem aeY(L:List Mc):jg (ri L)=L.map λ c=>W.d (cpD c):=by unfold jg ri;rw[List.map_map];rfl
theorem abJ(L:List Mc):gW (ri L)=L.map λ c=>W.d (.tuple [.int c.num,cpD c]):=by unfold gW ri;rw[List.map_map];rfl
theorem ja:Rd aZ (fT bP) fV:=by
 rintro ws M Q ⟨s,d,nm,room,S,rfl,H,hl,k⟩;have n1:=H.ne;refine⟨d,_,H.hd,_,rfl,s,_,_,rfl,by rw[ah n1];exact H.hs,gm,d,ri S.L,rfl,af,?_⟩;rw[aeY];refine l5 S.L (λ c=>W.d (cpD c)) oQ (λ τ=>∃ x,τ=[x]) (by omega) ⟨_,rfl⟩ (λ c hc τ hτ R h=>?_) (λ τ=>?_)
 .obtain⟨x,rfl⟩:=hτ;exact⟨_,rfl,c,rfl,_,rfl,h _ ⟨_,rfl⟩⟩
 .refine⟨af,?_⟩;rw[uw H.hd];exact k
def lQ(c:Mc):PyData:=.tuple [.int c.num,.bool (isA c)]
def pE(nm:Str)(S:Mst)(turn:Int):PyData:=if S.up=true then .tuple [.str nm,.int S.life,.int turn,.int S.sheet,.list (S.L.map lQ)] else .none
def aE:SpD:=λ ws M Q=>∃ s d nm room S turn,ws=[.m s,.d (.int turn)]/\Pm M s d nm room S/\S.L.length<=100/\Q (.d (pE nm S turn)) M
theorem j6:Ln aE 2:=by rintro ws M Q ⟨s,d,nm,room,S,turn,rfl,_⟩;rfl
theorem jB:Rd aE (gQ aL) ig:=by
 rintro ws M Q ⟨s,d,nm,room,S,turn,rfl,H,hl,k⟩;have n1:=H.ne;refine⟨_,rfl,s,_,_,rfl,H.hs,dg,_,rfl,?_⟩;unfold pE at k;cases q:S.up with
 | false =>
  rw[q,if_neg (by decide)] at k;exact sF k
 | true =>
  rw[q,if_pos rfl] at k;refine jf ?_;refine⟨d,_,H.hd,_,rfl,s,_,_,rfl,by rw[ah n1];exact H.hs,gm,d,ri S.L,rfl,af,?_⟩;rw[abJ];refine l5 S.L (λ c=>W.d (.tuple [.int c.num,cpD c])) lQ (λ τ=>∃ x y,τ=[x,y]) (by omega) ⟨_,_,rfl⟩ (λ c hc τ hτ R h=>?_) (λ τ=>?_)
  .obtain⟨x,y,rfl⟩:=hτ;exact⟨_,rfl,rfl,_,_,rfl,_,_,rfl,rfl,_,rfl,_,rfl,c,rfl,_,rfl,few (by simp),_,rfl,h _ ⟨_,_,rfl⟩⟩
  .refine⟨af,?_⟩;rw[uw H.hd];exact⟨_,rfl,s,_,_,rfl,H.hs,ae7,_,rfl,s,_,_,rfl,H.hs,pG,_,rfl,_,rfl,s,_,_,rfl,H.hs,vc,_,rfl,_,rfl,few (by simp),k⟩
structure OkC(c:Mc):Prop where
 st:(c.st = "starting" /\ 0<=c.left)\/(c.st = "answering" /\ c.left=0)\/(c.st = "failed" /\ c.left=0)
 num:0<=c.num/\c.num<=1000
 ed:0<=c.ed/\c.ed<=1000
 start:0<=c.start/\c.start<=1000
 wa:oe c.tQ=true/\c.tQ.length<=8
 ka:oe c.kind=true/\c.kind.length<=8
theorem yP{ns:List Int}(a:ns.Pairwise (· < ·)):ns.Nodup:=by rw[List.nodup_iff_pairwise_ne];exact a.imp λ h=>by omega
def ab5(d:PyData):Prop:=(∃ z t n u,d=.tuple [.str z,.int t,.int n,.int u])/\okD 1 d=true/\big d<=7000
structure OkS(S:Mst):Prop where
 asc:(S.L.map Mc.num).Pairwise (· < ·)
 len:S.L.length<=6
 ok:∀ c∈S.L,OkC c
 life:0<=S.life/\S.life<=1000000
 sheet:0<=S.sheet/\S.sheet<=10000000
 down:S.up=false->S.L=[]/\S.lz=[]
 lz:∀ d∈S.lz,ab5 d
 lzl:S.lz.length<=4
theorem ajr:(2:Nat) ^ 100 > 1000000000:=by decide
theorem ahg{k:Nat}{i:Int}(h0:0<=i)(h1:i<=100000000):okD k (.int i)=true:=by have:=ajr;cases k<;>simp only[okD,decide_eq_true_eq]<;>omega
theorem aiA{c:Mc}(h:OkC c):oe c.st=true:=by
 rcases h.st with h | h | h<;>rw[h.1]<;>decide +kernel
theorem je(b:Bool):dE (.bool b)=true:=by cases b<;>rfl
theorem aga{L:List Mc}(h:∀ c∈L,OkC c):okD 2 (.list (L.map oQ))=true:=by simp only[okD];refine qQ λ d hd=>?_;obtain⟨c,hc,rfl⟩:=List.mem_map.mp hd;have oc:=h c hc;have hn:=oc.num;have he:=oc.ed;simp only[oQ,okD,okA,oc.wa.1,oc.ka.1,aiA oc,Bool.and_true,Bool.true_and];have:=ajr;simp only[ae00,decide_eq_true_eq];omega
theorem zf{nm:Str}{S:Mst}{turn:Int}(hn:oe nm=true)(o:OkS S)(t0:0<=turn)(t1:turn<=100000000):okD 3 (pE nm S turn)=true:=by
 unfold pE;have hlife:=o.life;have hsheet:=o.sheet;have:=ajr
 split
 .have hr:okA 1 (S.L.map lQ)=true:=qQ λ d hd=>by obtain⟨c,hc,rfl⟩:=List.mem_map.mp hd;have oc:=(o.ok c hc).num;simp only[lQ,okD,okA,Bool.and_true,decide_eq_true_eq];omega
  simp only[okD,okA,hn,hr,Bool.and_true,Bool.true_and,ae00,decide_eq_true_eq];omega
 .rfl
theorem acI{nm:Str}{room:Int}{S:Mst}{d:Addr}:(flm nm room S d).lookup ("go_on" : Str)=none:=rfl
theorem ae1{nm:Str}{room:Int}{S:Mst}{d:Addr}:(flm nm room S d).lookup ("fail" : Str)=none:=rfl
theorem acf{nm:Str}{room:Int}{S:Mst}{d:Addr}:(flm nm room S d).lookup ("lying" : Str)=none:=rfl
theorem aaB{nm:Str}{room:Int}{S:Mst}{d:Addr}:(flm nm room S d).lookup ("beat" : Str)=none:=rfl
theorem yi{nm:Str}{room:Int}{S:Mst}{d:Addr}:(flm nm room S d).lookup ("leases" : Str)=none:=rfl
theorem sV{nm:Str}{room:Int}{S:Mst}{d:Addr}:(flm nm room S d).lookup ("lease_at" : Str)=none:=rfl
theorem zP{nm:Str}{room:Int}{S:Mst}{d:Addr}:(flm nm room S d).lookup ("life" : Str)=none:=rfl
theorem qW{nm:Str}{room:Int}{S:Mst}{d:Addr}:(flm nm room S d).lookup ("stands" : Str)=none:=rfl
theorem yH{nm:Str}{room:Int}{S:Mst}{d:Addr}:(flm nm room S d).lookup ("take" : Str)=none:=rfl
theorem yK{nm:Str}{room:Int}{S:Mst}{d:Addr}:(flm nm room S d).lookup ("rise" : Str)=none:=rfl
theorem aeR{nm:Str}{room:Int}{S:Mst}{d:Addr}:(flm nm room S d).lookup ("fall" : Str)=none:=rfl
def acW:List Str:=["front", "back", "side", "zzzzzzzz", "x", "kind"]
def aaO:List Str:=["web", "db", "web", "a"]
theorem xS:∀ z∈acW,oe z=true/\z.length<=8:=by decide +kernel
theorem vX:∀ z∈aaO,oe z=true/\z.length<=8:=by decide +kernel
def bH:SpD:=λ ws M Q=>∃ p n,ws=[.m p,.d (.int n)]/\Bag M p/\0<=n/\n<=1000/\∀ r M',r.num=n->OkC r->agr r=r->Bag M' p->(∀ q,q≠p->M' q=M q)->Q (.d (wg r)) M'
theorem nh:Ln bH 2:=by rintro ws M Q ⟨p,n,rfl,_⟩;rfl
theorem lb:Rd bH (jP av) jU:=by
 rintro ws M Q ⟨p,n,rfl,hb,n0,n1,k⟩;have m6:0<=n % 6/\n % 6<6:=⟨Int.emod_nonneg _ (by decide),Int.emod_lt_of_pos _ (by decide)⟩;have m4:0<=n % 4/\n % 4<4:=⟨Int.emod_nonneg _ (by decide),Int.emod_lt_of_pos _ (by decide)⟩;obtain⟨kd,e1,h1⟩:=lS (M:=M) (zs:=acW) (r:=n % 6) m6.1 m6.2;obtain⟨wi,e2,h2⟩:=lS (M:=M) (zs:=aaO) (r:=n % 4) m4.1 m4.2;refine⟨_,rfl,few (by simp),_,rfl,_,_,rfl,rfl,(by show(0:Int)<6;decide),_,_,rfl,e1,rfl,?_⟩;refine⟨_,rfl,few (by simp),_,rfl,_,_,rfl,rfl,(by show(0:Int)<4;decide),_,_,rfl,e2,rfl,?_⟩;refine⟨_,rfl,_,rfl,_,rfl,_,rfl,p,3,rfl,hb,by decide,by decide,λ r1 M1 a1 a2 b1 f1=>.inl ⟨_,_,rfl,rfl,?_⟩⟩;refine⟨_,rfl,p,3,rfl,b1,by decide,by decide,λ r2 M2 a3 a4 b2 f2=>?_⟩;refine⟨_,rfl,p,3,rfl,b2,by decide,by decide,λ r3 M3 a5 a6 b3 f3=>.inl ⟨_,_,rfl,rfl,_,rfl,few (by simp),?_⟩⟩;refine k ⟨n,wi,kd,1+r1,r2,1+r3, "starting",r2⟩ M3 rfl ⟨.inl ⟨rfl,a3⟩,⟨n0,n1⟩,⟨by show 0<=1+r1;omega,by show 1+r1<=1000;omega⟩,⟨a3,by show r2<=1000;omega⟩,vX wi h2,xS kd h1⟩ rfl b3 λ q hq=>?_;rw[f3 q hq,f2 q hq,f1 q hq]
theorem uP{α:Type}{xs:List α}{t:Int}(h:0<=t):_root_.D.cutD xs none (some t)=xs.take t.toNat:=by
 unfold _root_.D.cutD;have e:HT.sIx xs.length 0 none=0:=rfl;have e2:HT.sIx xs.length xs.length (some t)=min t.toNat xs.length:=by
  unfold HT.sIx;dsimp only;rw[if_neg (by omega)]
 rw[e,e2];simp only[List.drop_zero,Nat.sub_zero]
 by_cases q:t.toNat<=xs.length
 .rw[Nat.min_eq_left q]
 .rw[Nat.min_eq_right (by omega),List.take_length,List.take_of_length_le (by omega)]
structure oi(rows:List Mc):Prop where
 asc:(rows.map Mc.num).Pairwise (· < ·)
 len:rows.length<=6
 ok:∀ r∈rows,OkC r/\agr r=r
theorem tZ{ns:List Int}(h:ns.Pairwise (· <= ·))(nd:ns.Nodup):ns.Pairwise (· < ·):=by rw[List.nodup_iff_pairwise_ne] at nd;exact(h.and nd).imp λ⟨a,b⟩=>by omega
def cc:SpD:=λ ws M Q=>∃ p life turn most,ws=[.m p,.d (.int life),.d (.int turn),.d (.int most)]/\Bag M p/\0<=most/\most<=6/\0<=turn/\turn<=1000000 /\
 ∀ rows lz M',oi rows->(rows.length:Int)<=most->(lz.length<=4/\∀ d∈lz,ab5 d)->Bag M' p->Fr M M' [p]->Q (.d (dj life turn rows lz)) M'
theorem tH:Ln cc 4:=by rintro ws M Q ⟨p,life,turn,most,rfl,_⟩;rfl
def iB:List Str:=["s", "t", "log", "u"]
theorem xt:∀ z∈iB,oe z=true/\z.length<=8:=by decide +kernel
theorem qH:Rd cc (rG av bH) rR:=by
 rintro ws M Q ⟨p,life,turn,most,rfl,hb,m0,m6,t0,t1,k⟩;have s16':=s16;refine⟨1,7,rfl,⟨by decide,by decide,by decide,by decide⟩,?_⟩;refine⟨λ i acc τ M'=>i<=6/\(∃ ns:List Int,acc=ns.map PyData.int/\ns.length<=i/\ns.Nodup/\∀ n∈ns,1<=n/\n<=12/\(n-1) % 6<(i:Int))/\Bag M' p/\(∀ q,q≠p->M' q=M q)/\∃ x,τ=[x,some (.m p)],⟨by decide,⟨[],rfl,by decide,List.nodup_nil,by simp⟩,hb,λ _ _=>rfl,_,rfl⟩,?_,?_⟩
 .rintro i w acc τ M' hw ⟨hi6,⟨ns,rfl,hl,nd,hn⟩,b1,f1,x,rfl⟩;obtain⟨hi,rfl⟩:=nR hw;have hi':i<6:=hi;refine⟨by rw[lm];omega,_,rfl,p,2,rfl,b1,by decide,by decide,λ r1 M1 a1 a2 b2 f2=>⟨_,_,.d,.d,rfl,_,rfl,?_⟩⟩;rw[fh]
  by_cases h0:r1=0
  .refine pq (decide_eq_true h0) ?_;refine⟨_,rfl,_,rfl,p,2,rfl,b2,by decide,by decide,λ r2 M2 a3 a4 b3 f3=>⟨_,_,rfl,rfl,.inl ⟨by decide,by decide⟩,.inl ⟨_,_,rfl,rfl,_,rfl,?_⟩⟩⟩;refine⟨by omega,⟨ns++[1+(i:Int)+6 * r2],by rw[List.map_append];rfl,by rw[List.length_append];simp;omega,?_,λ n h=>?_⟩,b3,λ q hq=>by rw[f3 q hq,f2 q hq,f1 q hq],_,rfl⟩
   .rw[List.nodup_append];refine⟨nd,by simp,λ a ha b hb=>?_⟩;have:b=1+(i:Int)+6 * r2:=by simpa using hb
    have h3:=(hn a ha).2.2;intro y;rw[y,this] at h3;omega
   .rcases List.mem_append.mp h with h | h
    .have:=hn n h;omega
    .have:n=1+(i:Int)+6 * r2:=by simpa using h
     omega
  .refine qy (decide_eq_false h0) ?_;exact⟨by omega,⟨ns,rfl,by omega,nd,λ n h=>by have:=hn n h;omega⟩,b2,λ q hq=>by rw[f2 q hq,f1 q hq],_,rfl⟩
 .rintro acc τ M1 ⟨_,⟨ns,rfl,hl,nd,hn⟩,b1,f1,x,rfl⟩;have hl6:ns.length<=6:=hl;refine⟨_,rfl,_,ns,rfl,.d,by omega,λ ns' hp hs g hg=>⟨g,ns'.map PyData.int,rfl,by rw[af,Stc.ints_map],?_⟩⟩;have x1:=sealed (o:=.lst (sI ns')) hg;have b2:=x1.bag b1;have F1:Fr M (sG (aS M1 g (.lst (sI ns'))) g) [p]:=((Fr.of_eq f1).trans (Fr.vS x1 [])).mono (by simp);generalize sG (aS M1 g (.lst (sI ns'))) g=M2 at b2 F1;have nd':ns'.Nodup:=hp.nodup_iff.mpr nd;have asc':=tZ hs nd';refine⟨_,rfl,_,rfl,_,rfl,rfl,_,rfl,?_⟩;rw[uP m0,<- List.map_take];have ascT:(ns'.take most.toNat).Pairwise (· < ·):=asc'.sublist (List.take_sublist _ _);have lenT:((ns'.take most.toNat).length:Int)<=most/\(ns'.take most.toNat).length<=6:=by rw[List.length_take];have:=hp.length_eq;omega
  have memT:∀ n∈ns'.take most.toNat,1<=n/\n<=12:=λ n h=>by have:=hn n (hp.mem_iff.mp (List.mem_of_mem_take h));omega
  generalize ns'.take most.toNat=us at ascT lenT memT;refine⟨λ i acc τ M'=>i<=us.length/\(∃ rs:List Mc,acc=rs.map wg/\rs.map Mc.num=us.take i/\∀ r∈rs,OkC r/\agr r=r)/\Bag M' p/\Fr M M' [p]/\∃ x,τ=[x,some (.m p)],⟨Nat.zero_le _,⟨[],rfl,rfl,by simp⟩,b2,F1,_,rfl⟩,?_,?_⟩
  .rintro i w acc τ M' hw ⟨hi,⟨rs,rfl,hr,ho⟩,b3,F3,x,rfl⟩;obtain⟨w',hw',rfl⟩:=dF hw;obtain⟨n,hn',rfl⟩:=dF hw';have hlt:=(List.getElem?_eq_some_iff.mp hn').1;have hm:=memT n (List.mem_of_getElem? hn');have hrl:rs.length=i:=by have:=congrArg List.length hr;rw[lm,List.length_take] at this;omega
   dsimp only[iJ,gN];refine⟨by rw[lm];omega,?_⟩;rw[if_pos rfl];refine⟨_,rfl,_,rfl,p,n,rfl,b3,by omega,by omega,λ r M4 e1 e2 e3 b4 f4=>⟨_,rfl,hlt,⟨rs++[r],by rw[List.map_append];rfl,?_,λ y hy=>?_⟩,b4,(F3.trans (Fr.of_eq f4)).mono (by simp),_,rfl⟩⟩
   .rw[List.map_append,hr,List.take_succ,hn'];simp[e1]
   .rcases List.mem_append.mp hy with h | h
    .exact ho y h
    .have:y=r:=by simpa using h
     subst this;exact⟨e2,e3⟩
  .rintro acc τ M3 ⟨_,⟨rs,rfl,hr,ho⟩,b3,F3,x,rfl⟩;rw[show((us.map PyData.int).map W.d).length=us.length from by simp,List.take_length] at hr;have hrl:rs.length=us.length:=by have:=congrArg List.length hr;rw[lm] at this;exact this
   have okR:oi rs:=⟨by rw[hr];exact ascT,by omega,ho⟩;refine⟨_,rfl,_,rfl,?_⟩;rw[show(rs.map wg).map W.d=rs.map (W.d ∘ wg) from List.map_map];refine l5 rs (W.d ∘ wg) (λ r=>.int r.num) (λ τ=>∃ x,τ=[x]) (by omega) ⟨_,rfl⟩ (λ r hr' τ hτ R h=>?_) (λ τ=>?_)
   .obtain⟨x,rfl⟩:=hτ;exact⟨_,rfl,_,_,rfl,rfl,rfl,_,rfl,h _ ⟨_,rfl⟩⟩
   .refine⟨_,rfl,few (by simp),_,_,.d,.d,by rw[lm];simp;omega,_,rfl,_,rfl,rfl,?_⟩;have e20:_root_.D.cutD (rs.map (λ r=>PyData.int r.num)++[PyData.int 20]) none (some 3)=((us++[20]).take 3).map PyData.int:=by rw[uP (by decide),<- hr];simp[List.map_take];rfl
    rw[e20];have v1:1<=((us++[20]).take 3).length/\((us++[20]).take 3).length<=3:=by rw[List.length_take,List.length_append];simp;omega
    have v2:∀ n∈(us++[20]).take 3,0<=n/\n<=20:=λ n h=>by
     rcases List.mem_append.mp (List.mem_of_mem_take h) with h | h
     .have:=memT n h;omega
     .have:n=20:=by simpa using h
      omega
    generalize (us++[20]).take 3=vs at v1 v2;refine⟨few (by simp),λ f hf=>?_⟩;have fp:f≠p:=λ y=>by obtain⟨a,b,c,ns,h1,_⟩:=b3;rw[y,h1] at hf;cases hf
    have hfM:M f=none:=by
     cases e:M f with
     | none=>rfl
     | some o=>rw[F3 f o e (by simpa using fp)] at hf;cases hf
    have b4:Bag (aS M3 f (.lst [])) p:=uX b3 (ah fp.symm);refine⟨_,rfl,p,5,rfl,b4,by decide,by decide,λ r M4 a1 a2 b5 f5=>⟨r,rfl,by omega,by omega,?_⟩⟩;refine⟨λ i τ M'=>i<=4/\Bag M' p/\Fr M M' [p]/\(∃ ts:List (List PyData),M' f=some (.lst (nj ts))/\ts.length<=i/\∀ t∈ts,S.Shape [true,false,false,false] t/\okD 1 (.tuple t)=true/\big (.tuple t)<=7000)/\∃ x8 x9,τ=[some (.m p),some (.d (.int life)),some (.d (.int turn)),some (.d (.int most)),some (.d (.list (ns.map PyData.int))),some (.d (.list (rs.map wg))),some (.d (.list (vs.map PyData.int))),some (.m f),x8,x9],
     ⟨by decide,b5,?_,⟨[],by rw[f5 f fp,af];rfl,by decide,by simp⟩,_,_,rfl⟩,?_,?_⟩
    .intro q o h n;have n2:q≠p:=by simpa using n
     rw[f5 q n2,ah (bN h hfM)];exact F3 q o h n
    .rintro i w τ M5 hw ⟨hi,b6,F6,⟨ts,hts,hlt,hok⟩,x8,x9,rfl⟩;obtain⟨hi4,rfl⟩:=afk hw;have i4:i<4:=by omega
     refine⟨_,rfl,_,rfl,_,rfl,_,_,rfl,rfl,rfl,p,_,rfl,b6,by rw[lm];omega,by rw[lm];omega,λ r2 M6 c1 c2 b7 f7=>?_⟩;rw[lm] at c2;obtain⟨nu,e1,e2⟩:=aab (M:=M6) (ns:=vs) (r:=r2) c1 (by omega);have nub:=v2 nu e2;have hts6:M6 f=some (.lst (nj ts)):=by rw[f7 f fp];exact hts
     obtain⟨sn,e3,e4⟩:=lS (M:=M6) (zs:=iB) (r:=(i:Int)) (by omega) (by show(i:Int)<4;omega);refine⟨_,_,rfl,e1,rfl,?_⟩;refine⟨_,rfl,f,_,rfl,hts6,_,rfl,few (by simp),_,rfl,_,_,rfl,e3,rfl,_,rfl,p,9,rfl,b7,by decide,by decide,λ r3 M7 d1 d2 b8 f8=>.inl ⟨_,_,rfl,rfl,?_⟩⟩;refine⟨_,rfl,_,rfl,_,rfl,p,9,rfl,b8,by decide,by decide,λ r4 M8 d3 d4 b9 f9=>.inl ⟨_,_,rfl,rfl,_,rfl,few (by simp),?_⟩⟩;have hts8:M8 f=some (.lst (nj ts)):=by rw[f9 f fp,f8 f fp];exact hts6
     refine⟨_,hts8,by unfold nj;rw[lm];omega,?_⟩;refine⟨by omega,uX b9 (ah fp.symm),?_,⟨ts++[[.str sn,.int (1+r3),.int nu,.int (turn+r4)]],?_,by rw[List.length_append];simp;omega,λ t ht=>?_⟩,_,_,rfl⟩
     .intro q o h n;have n2:q≠p:=by simpa using n
      rw[ah (bN h hfM),f9 q n2,f8 q n2,f7 q n2];exact F6 q o h n
     .rw[af];unfold nj;rw[List.map_append];rfl
     .rcases List.mem_append.mp ht with h | h
      .exact hok t h
      .have:t=[.str sn,.int (1+r3),.int nu,.int (turn+r4)]:=by simpa using h
       subst this;have hsn:=xt sn e4;refine⟨⟨⟨_,rfl⟩,⟨_,rfl⟩,⟨_,rfl⟩,⟨_,rfl⟩,trivial⟩,?_,?_⟩
       .have:=ajr;simp only[okD,okA,hsn.1,Bool.and_true,Bool.true_and,ae00,decide_eq_true_eq];omega
       .simp only[big,tT];omega
    .rintro τ M5 ⟨hi,b6,F6,⟨ts,hts,hlt,hok⟩,x8,x9,rfl⟩;have hl4:ts.length<=4:=by have:=hlt;simp[lY] at this;omega
     refine⟨_,rfl,_,rfl,_,rfl,_,rfl,_,ts,true,[false,false,false],rfl,.m (by rw[hts];unfold nj;rw[List.map_map];rfl),λ t ht=>(hok t ht).1,by omega,λ rows' hp' g hg=>?_⟩;have x6:=sealed (o:=.lst (nj rows')) hg;refine⟨g,rows'.map PyData.tuple,rfl,by rw[af];unfold nj;rw[List.map_map];rfl,_,rfl,few (by simp),?_⟩;refine k rs (rows'.map PyData.tuple) _ okR (by omega) ⟨by rw[lm,hp'.length_eq];exact hl4,λ d hd=>?_⟩ (x6.bag b6) ((F6.trans (Fr.vS x6 [])).mono (by simp));obtain⟨t,ht,rfl⟩:=List.mem_map.mp hd;obtain⟨h1,h2⟩:=hok t (hp'.mem_iff.mp ht);refine⟨?_,h2⟩
     match t,h1 with
     | [_,_,_,_],⟨⟨z,e1⟩,⟨t',e2⟩,⟨n,e3⟩,⟨u,e4⟩,_⟩=>exact⟨z,t',n,u,by rw[e1,e2,e3,e4]⟩
theorem OkC.go{c:Mc}(h:OkC c):OkC (goC c):=by
 unfold goC;have h3:=h.start
 by_cases h1:c.st = "failed"
 .rw[if_pos h1];exact⟨.inl ⟨rfl,h3.1⟩,h.num,h.ed,h.start,h.wa,h.ka⟩
 .rw[if_neg h1]
  by_cases h2:c.st = "starting" /\ 0<c.left
  .rw[if_pos h2];exact⟨.inl ⟨h2.1,by show 0<=c.left-1;omega⟩,h.num,h.ed,h.start,h.wa,h.ka⟩
  .rw[if_neg h2];exact⟨.inr (.inl ⟨rfl,rfl⟩),h.num,h.ed,h.start,h.wa,h.ka⟩
theorem OkS.go{S:Mst}(h:OkS S):OkS {S with L:=S.L.map goC}:=by
 refine⟨?_,by show(S.L.map goC).length<=6;rw[lm];exact h.len,λ c hc=>?_,h.life,h.sheet,λ q=>?_,h.lz,h.lzl⟩
 .show((S.L.map goC).map Mc.num).Pairwise (· < ·);rw[List.map_map,show(Mc.num ∘ goC)=Mc.num from funext uq];exact h.asc
 .obtain⟨c',h',rfl⟩:=List.mem_map.mp hc;exact(h.ok c' h').go
 .obtain⟨h1,h2⟩:=h.down q;exact⟨by show S.L.map goC=[];rw[h1];rfl,h2⟩
theorem OkS.fail{S:Mst}(h:OkS S)(n:Int):OkS {S with L:=nA S.L n}:=by
 have hnum:∀ c:Mc,(if c.num=n then (if isA c=true then vZ c else c) else c).num=c.num:=λ c=>by
  by_cases hq:c.num=n
  .rw[if_pos hq];exact qN c
  .rw[if_neg hq]
 refine⟨?_,by show(nA S.L n).length<=6;unfold nA up1;rw[lm];exact h.len,λ c hc=>?_,h.life,h.sheet,λ q=>?_,h.lz,h.lzl⟩
 .show((nA S.L n).map Mc.num).Pairwise (· < ·);unfold nA up1;rw[List.map_map,show(Mc.num ∘ λ c=>if c.num=n then (if isA c=true then vZ c else c) else c)=Mc.num from funext hnum];exact h.asc
 .obtain⟨c',h',rfl⟩:=List.mem_map.mp hc;have o:=h.ok c' h'
  by_cases h1:c'.num=n
  .rw[if_pos h1];dsimp only
   by_cases h2:isA c'=true
   .rw[if_pos h2];exact⟨.inr (.inr ⟨rfl,rfl⟩),o.num,o.ed,o.start,o.wa,o.ka⟩
   .rw[if_neg h2];exact o
  .rw[if_neg h1];exact o
 .obtain⟨h1,h2⟩:=h.down q;exact⟨by show nA S.L n=[];rw[h1];rfl,h2⟩
theorem zQ(L rows:List Mc):(fR L rows).map Mc.num=rows.map Mc.num:=by
 unfold fR;rw[List.map_map,show(Mc.num ∘ λ r=>(fi L r.num).getD r)=Mc.num from funext λ r=>oR]
theorem OkS.take{S:Mst}(h:OkS S){rows:List Mc}{lz:List PyData}{life turn:Int}(hr:oi rows)(hz:lz.length<=4/\∀ d∈lz,ab5 d)(hk:okT S life turn=true)(t0:0<=turn)(t1:turn<=10000000):OkS {S with sheet:=turn,L:=fR S.L rows,lz:=lz}:=by
 refine⟨by show((fR S.L rows).map Mc.num).Pairwise (· < ·);rw[zQ];exact hr.asc,by show(fR S.L rows).length<=6;unfold fR;rw[lm];exact hr.len,λ c hc=>?_,h.life,⟨t0,t1⟩,λ q=>?_,hz.2,hz.1⟩
 .obtain⟨r,hr',rfl⟩:=List.mem_map.mp hc;cases q:fi S.L r.num with
  | none=>exact(hr.ok r hr').1
  | some c=>exact h.ok c (vD q).1
 .have q':S.up=false:=q;unfold okT at hk;rw[q'] at hk;cases hk
theorem OkS.rise{S:Mst}(h:OkS S)(hl:S.life<=999999):OkS (dM S):=by
 unfold dM
 by_cases q:S.up=true
 .rw[if_pos q];exact h
 .rw[if_neg q];have h1:=h.life;exact⟨h.asc,h.len,h.ok,⟨by show 0<=S.life+1;omega,by show S.life+1<=1000000;omega⟩,⟨by show(0:Int)<=0;decide,by show(0:Int)<=10000000;decide⟩,(λ y=>nomatch y),h.lz,h.lzl⟩
theorem OkS.agG{S:Mst}(h:OkS S):OkS {S with up:=false,L:=[],lz:=[]}:=⟨.nil,by show(0:Nat)<=6;decide,by simp,h.life,h.sheet,λ _=>⟨rfl,rfl⟩,by simp,by show(0:Nat)<=4;decide⟩
def cW(L:List Mc)(store:Str)(turn:Int):List PyData->PyData
 | []=>.none
 | .tuple [.str z,.int t,.int n,.int u]::r=>if z=store/\turn<u/\yT L n=true then .tuple [.int n,.int t] else cW L store turn r
 | _::r=>cW L store turn r
theorem lH{L:List Mc}{store z:Str}{turn t n u:Int}{r:List PyData}:cW L store turn (.tuple [.str z,.int t,.int n,.int u]::r)=if z=store/\turn<u/\yT L n=true then .tuple [.int n,.int t] else cW L store turn r:=by rw[cW]
theorem vA{nm:Str}{room:Int}{S:Mst}{d:Addr}:(flm nm room S d).lookup ("known_leases" : Str)=some (.d (.list S.lz)):=rfl
def aU:SpD:=λ ws M Q=>∃ s d nm room S,ws=[.m s]/\Pm M s d nm room S/\∀ M',Ext M M'->Q (.d (.list S.lz)) M'
theorem jb:Ln aU 1:=by rintro ws M Q ⟨s,d,nm,room,S,rfl,_⟩;rfl
theorem iG:Rd aU fH fC:=by
 rintro ws M Q ⟨s,d,nm,room,S,rfl,H,k⟩;exact⟨_,rfl,s,_,_,rfl,H.hs,vA,_,_,rfl,.l,λ p hp=>⟨p,S.lz,rfl,af,k _ (sealed hp)⟩⟩
def aG:SpD:=λ ws M Q=>∃ s d nm room S,ws=[.m s]/\Pm M s d nm room S/\Q (.d (.int S.life)) M
theorem km:Ln aG 1:=by rintro ws M Q ⟨s,d,nm,room,S,rfl,_⟩;rfl
theorem jw:Rd aG ie gU:=by
 rintro ws M Q ⟨s,d,nm,room,S,rfl,H,k⟩;exact⟨_,rfl,s,_,_,rfl,H.hs,pG,k⟩
def aw:SpD:=λ ws M Q=>∃ s d nm room S,ws=[.m s]/\Pm M s d nm room S/\Q (.d (.bool S.up)) M
theorem jc:Ln aw 1:=by rintro ws M Q ⟨s,d,nm,room,S,rfl,_⟩;rfl
theorem ix:Rd aw fI fE:=by
 rintro ws M Q ⟨s,d,nm,room,S,rfl,H,k⟩;exact⟨_,rfl,s,_,_,rfl,H.hs,dg,k⟩
def aM:SpD:=λ ws M Q=>∃ s d nm room S store turn,ws=[.m s,.d (.str store),.d (.int turn)]/\Pm M s d nm room S/\(∀ x∈S.lz,ab5 x)/\Q (.d (cW S.L store turn S.lz)) M
theorem gD:Ln aM 3:=by rintro ws M Q ⟨s,d,nm,room,S,store,turn,rfl,_⟩;rfl
theorem drop_cons{α:Type}{L:List α}{i:Nat}{a:α}(h:L[i]? =some a):L.drop i=a::L.drop (i+1):=by obtain⟨hi,e⟩:=List.getElem?_eq_some_iff.mp h;rw[List.drop_eq_getElem_cons hi,e]
theorem f6:Rd aM (dB aA) dA:=by
 rintro ws M Q ⟨s,d,nm,room,S,store,turn,rfl,H,hz,k⟩;refine⟨_,rfl,s,_,_,rfl,H.hs,vA,_,rfl,?_⟩;dsimp only;refine⟨λ i τ M'=>M'=M/\cW S.L store turn (S.lz.drop i)=cW S.L store turn S.lz/\∃ x3 x4 x5 x6,τ=[some (.m s),some (.d (.str store)),some (.d (.int turn)),x3,x4,x5,x6],⟨rfl,rfl,_,_,_,_,rfl⟩,?_,?_⟩
 .rintro i w τ M' hw ⟨rfl,he,x3,x4,x5,x6,rfl⟩;obtain⟨dl,hd,rfl⟩:=dF hw;obtain⟨⟨z,t,n,u,rfl⟩,_⟩:=hz dl (List.mem_of_getElem? hd);rw[drop_cons hd,lH] at he;refine⟨_,rfl,rfl,_,_,rfl,_,_,rfl,_,_,rfl,_,_,rfl,rfl,?_⟩;refine⟨_,rfl,_,rfl,_,_,.d,.d,rfl,_,rfl,?_⟩;rw[eW]
  by_cases h1:z=store
  .refine pq (decide_eq_true h1) ⟨_,rfl,_,rfl,_,_,rfl,rfl,_,rfl,?_⟩
   by_cases h2:turn<u
   .refine pq (decide_eq_true h2) ⟨_,rfl,s,_,rfl,H.hs,ac0,_,rfl,s,d,_,_,S,n,rfl,H,_,rfl,?_⟩
    by_cases h3:yT S.L n=true
    .rw[if_pos ⟨h1,h2,h3⟩] at he;rw[<- he] at k;exact pq h3 ⟨_,rfl,_,rfl,_,rfl,few (by simp),k⟩
    .rw[if_neg (λ y=>h3 y.2.2)] at he;exact qy (by simpa using h3) ⟨rfl,he,_,_,_,_,rfl⟩
   .rw[if_neg (λ y=>h2 y.2.1)] at he;exact qy (decide_eq_false h2) (jf ⟨rfl,he,_,_,_,_,rfl⟩)
  .rw[if_neg (λ y=>h1 y.1)] at he;exact qy (decide_eq_false h1) (jf ⟨rfl,he,_,_,_,_,rfl⟩)
 .rintro τ M' ⟨rfl,he,x3,x4,x5,x6,rfl⟩;rw[show(S.lz.map W.d).length=S.lz.length from by simp,List.drop_length] at he;rw[<- he] at k;exact k
mutual
theorem pH:∀ (k:Nat) (d:PyData),okD k d=true->okD (k+1) d=true
 | _,.none,_=>rfl
 | _,.bool _,_=>rfl
 | k,.int i,h=>by cases k<;>(simp only[okD] at h ⊢;exact h)
 | k,.str z,h=>by cases k<;>(simp only[okD] at h ⊢;exact h)
 | k+1,.list ds,h=>by simp only[okD] at h ⊢;exact pX k ds h
 | k+1,.tuple ds,h=>by simp only[okD] at h ⊢;exact pX k ds h
 | 0,.list ds,h=>by simp[okD] at h
 | 0,.tuple ds,h=>by simp[okD] at h
 | k,.dict kvs,h=>by cases k<;>simp[okD] at h
theorem pX:∀ (k:Nat) (ds:List PyData),okA k ds=true->okA (k+1) ds=true
 | _,[],_=>by simp[okA]
 | k,d::ds,h=>by simp only[okA,ae00] at h ⊢;exact⟨pH k d h.1,pX k ds h.2⟩
end
theorem mw{n:Nat}:∀ {ds:List PyData},(∀ d∈ds,big d<=n)->tT ds<=(n+2) * ds.length
 | [],_=>by simp[tT]
 | d::ds,h=>by have h1:=h d (by simp);have h2:=mw (n:=n) (ds:=ds) λ x hx=>h x (by simp[hx]);simp only[tT,List.length_cons,Nat.mul_add];omega
theorem mF{L:List Mc}{store:Str}{turn:Int}:∀ {zs:List PyData},(∀ d∈zs,ab5 d)->okD 1 (cW L store turn zs)=true/\big (cW L store turn zs)<=5000
 | [],_=>⟨by simp[cW,okD],by simp[cW,big]⟩
 | d::zs,h=>by
  obtain⟨⟨z,t,n,u,rfl⟩,h2,_⟩:=h d (by simp);rw[lH]
  split
  .simp only[okD,okA,Bool.and_true,ae00] at h2 ⊢;exact⟨⟨h2.2.2.1,h2.2.1⟩,by simp only[big,tT];omega⟩
  .exact mF λ x hx=>h x (by simp[hx])
def aaR(nm:Str)(S:Mst)(turn:Int):PyData:=.list [.int S.life,.bool S.up,.list (S.L.map oQ),.list S.lz,pE nm S turn,.list (iB.map λ z=>cW S.L z turn S.lz)]
theorem abW{c:Mc}(h:OkC c):big (oQ c)<=5000:=by
 have h1:=h.wa.2;have h2:=h.ka.2;have h3:c.st.length<=9:=by rcases h.st with h | h | h<;>rw[h.1]<;>decide +kernel
 simp only[oQ,big,tT];omega
theorem uD{nm:Str}{S:Mst}{turn:Int}(hl:nm.length<=8)(o:OkS S):big (pE nm S turn)<=30000:=by
 unfold pE
 split
 .have:=mw (n:=2020) (ds:=S.L.map lQ) λ d hd=>by obtain⟨c,hc,rfl⟩:=List.mem_map.mp hd;simp only[lQ,big,tT];omega
  have h6:=o.len;rw[lm] at this;simp only[big,tT];omega
 .show(4:Nat)<=30000
  decide
theorem aaf{nm:Str}{S:Mst}{turn:Int}(hn:oe nm=true)(hl:nm.length<=8)(o:OkS S)(t0:0<=turn)(t1:turn<=100000000):dE (aaR nm S turn)=true:=by
 refine kU (k:=4) (by decide) ?_ ?_
 .have h1:=pH _ _ (aga o.ok);have h2:okD 3 (.list S.lz)=true:=by simp only[okD];exact qQ λ d hd=>pH _ _ (o.lz d hd).2.1
  have h3:=zf hn o t0 t1;have h4:okD 3 (.int S.life)=true:=ahg o.life.1 (by have:=o.life.2;omega);have h5:okD 3 (.list (iB.map λ z=>cW S.L z turn S.lz))=true:=by simp only[okD];refine qQ λ d hd=>?_;obtain⟨z,_,rfl⟩:=List.mem_map.mp hd;exact pH _ _ (mF o.lz).1
  unfold aaR;rw[okD];simp only[okA,h1,h2,h3,h4,h5,Bool.and_true,Bool.true_and];simp[okD]
 .have h1:=mw (n:=5000) (ds:=S.L.map oQ) λ d hd=>by obtain⟨c,hc,rfl⟩:=List.mem_map.mp hd;exact abW (o.ok c hc)
  have h2:=mw (n:=7000) (ds:=S.lz) λ d hd=>(o.lz d hd).2.2;have h3:=uD (turn:=turn) hl o;have h5:=mw (n:=5000) (ds:=iB.map λ z=>cW S.L z turn S.lz) λ d hd=>by obtain⟨z,_,rfl⟩:=List.mem_map.mp hd;exact(mF o.lz).2
  have h6:=o.len;have h7:=o.lzl;rw[lm] at h1 h5;have h8:iB.length=4:=rfl;rw[h8] at h5;simp only[aaR,big,tT];omega
def cq:SpD:=λ ws M Q=>∃ s d nm room S turn,ws=[.m s,.d (.int turn)]/\Pm M s d nm room S/\OkS S/\oe nm=true/\nm.length<=8/\0<=turn/\turn<=100000000/\∀ M',Ext M M'->Q (.d (.str (aaR nm S turn).shown)) M'
theorem wd:Ln cq 2:=by rintro ws M Q ⟨s,d,nm,room,S,turn,rfl,_⟩;rfl
theorem uf:Rd cq (uT aM aG aw aZ aU aE) va:=by
 rintro ws M Q ⟨s,d,nm,room,S,turn,rfl,H,o,hn,hl,t0,t1,k⟩;have l6:=o.len;refine⟨_,rfl,few (by simp),_,rfl,?_⟩;refine l5 iB (λ z=>W.d (.str z)) (λ z=>cW S.L z turn S.lz) (λ τ=>∃ x,τ=[x,some (.m s),some (.d (.int turn))]) (by decide) ⟨_,rfl⟩ (λ z hz τ hτ R h=>?_) (λ τ=>?_)
 .obtain⟨x,rfl⟩:=hτ;exact⟨_,rfl,s,_,rfl,H.hs,sV,_,rfl,_,rfl,s,d,nm,room,S,z,turn,rfl,H,o.lz,_,rfl,h _ ⟨_,rfl⟩⟩
 .refine⟨_,rfl,s,_,rfl,H.hs,zP,s,d,nm,room,S,rfl,H,?_⟩;refine⟨_,rfl,s,_,rfl,H.hs,qW,s,d,nm,room,S,rfl,H,?_⟩;refine⟨_,rfl,s,_,rfl,H.hs,acf,s,d,nm,room,S,rfl,H,by omega,?_⟩;refine⟨_,rfl,s,_,rfl,H.hs,yi,s,d,nm,room,S,rfl,H,λ M1 x1=>?_⟩;have H1:Pm M1 s d nm room S:=H.keep (Fr.vS x1 []) (by simp) (by simp);refine⟨_,rfl,s,_,rfl,H1.hs,aaB,_,rfl,s,d,nm,room,S,turn,rfl,H1,by omega,?_⟩;exact⟨_,rfl,_,rfl,few (by simp),_,rfl,_,_,rfl,.d,aaf hn hl o t0 t1,k M1 x1⟩
abbrev FR(x y z g:Addr):List (Str×W):=[("lateness",.m x),("doubled",.m y),("cut_off",.m z),("messages",.m g)]
theorem alg{x y z g:Addr}:(FR x y z g).lookup ("lateness" : Str)=some (.m x):=rfl
theorem alh{x y z g:Addr}:(FR x y z g).lookup ("doubled" : Str)=some (.m y):=rfl
theorem akl{x y z g:Addr}:(FR x y z g).lookup ("cut_off" : Str)=some (.m z):=rfl
theorem ajp{x y z g:Addr}:(FR x y z g).lookup ("messages" : Str)=some (.m g):=rfl
theorem ahY{x y z g:Addr}:(FR x y z g).lookup ("is_due" : Str)=none:=rfl
theorem akn{x y z g:Addr}:(FR x y z g).lookup ("come" : Str)=none:=rfl
theorem ahF{x y z g:Addr}:(FR x y z g).lookup ("put" : Str)=none:=rfl
theorem akC{x y z g:Addr}:(FR x y z g).lookup ("late" : Str)=none:=rfl
theorem akt{x y z g:Addr}:(FR x y z g).lookup ("twice" : Str)=none:=rfl
theorem akH{x y z g:Addr}:(FR x y z g).lookup ("cut" : Str)=none:=rfl
theorem aki{x y z g:Addr}:(FR x y z g).lookup ("join" : Str)=none:=rfl
abbrev cdC:MO:=.code c6 ⟨177,77,177,103⟩
structure ke where
 name:Str
 life:Int
 turn:Int
 sheet:Int
 rows:List PyData
def btD(b:ke):PyData:=.tuple [.str b.name,.int b.life,.int b.turn,.int b.sheet,.list b.rows]
inductive Th
 | sheet (life turn:Int) (rows:List Mc) (lz:List PyData)
 | beat (b:ke)
def Th.D:Th->PyData
 | .sheet l t r z=>.tuple [.str "sheet",dj l t r z]
 | .beat b=>.tuple [.str "beat",btD b]
structure Msg where
 d:Nat
 z:Str
 h:Th
 n:Nat
 u:Bool
abbrev Msg.k(m:Msg):PyData:=m.h.D
abbrev Msg.D(m:Msg):PyData:=.tuple [.int (m.d:Nat),.str m.z,m.k]
abbrev msW(ms:List Msg):MO:=.lst (ms.map λ m=>W.d m.D)
def due(ct:Str->Bool)(t:Nat)(m:Msg):Bool:=decide (m.d<=t)&&!ct m.z
def aY:SpD:=λ ws M Q=>∃ (N:List Str) (r:Addr),ws=[.m r,.d (qE N)]/\N.Nodup/\N.length<=60/\M r=some (.ins ao []) /\
 ∀ x y z g M',(M x=none/\M y=none/\M z=none/\M g=none)->[x,y,z,g].Nodup->M' r=some (.ins ao (FR x y z g))->M' x=some (.dic (kf N (nW λ _=>0)))->M' y=some (.dic (kf N (bW λ _=>false)))->M' z=some (.dic (kf N (bW λ _=>false)))->M' g=some (.lst [])->(∀ b o,b≠r->M b=some o->M' b=some o)->Q (.d .none) M'
theorem qo:Ln aY 2:=by rintro ws M Q ⟨N,r,rfl,_⟩;rfl
theorem az{M:MH}{a b:Addr}{o:MO}(h:aS M a o b=none):M b=none:=by
 unfold aS at h
 split at h
 .cases h
 .exact h
theorem bR{M:MH}{a b:Addr}{o:MO}(h:aS M a o b=none):b≠a:=λ e=>by rw[e,af] at h;cases h
theorem nD:Rd aY iD mX:=by
 rintro ws M Q ⟨N,r,rfl,nd,hl,hr,k⟩;have sl:=s16;have hl':N.length<=1000:=by omega
 dsimp only[iD,aV,bA];refine yf nd hl' rfl λ x hx=>⟨_,rfl,r,_,rfl,cC hr hx,by decide,?_⟩;refine yf nd hl' rfl λ y hy=>⟨_,rfl,r,_,rfl,cC af hy,(by show 1<1000;decide),?_⟩;refine yf nd hl' rfl λ z hz=>⟨_,rfl,r,_,rfl,cC af hz,(by show 2<1000;decide),?_⟩;refine⟨by simp,λ g hg=>⟨_,rfl,r,_,rfl,cC af hg,(by show 3<1000;decide),?_⟩⟩;have rx:r≠x:=bN hr hx;have y0:=az (az hy);have z0:=az (az (az (az hz)));have g0:=az (az (az (az (az (az hg)))));have yr:=bR hy;have yx:=bR (az hy);have zr:=bR hz;have zy:=bR (az hz);have zx:=bR (az (az (az hz)));have gr:=bR hg;have gz:=bR (az hg);have gy:=bR (az (az (az hg)));have gx:=bR (az (az (az (az (az hg)))));refine k x y z g _ ⟨hx,y0,z0,g0⟩ ?_ af ?_ ?_ ?_ ?_ λ b o n e=>?_
 .simp[Ne.symm yx,Ne.symm zx,Ne.symm gx,Ne.symm zy,Ne.symm gy,Ne.symm gz]
 .rw[ah rx.symm,ah gx.symm,ah rx.symm,ah zx.symm,ah rx.symm,ah yx.symm,ah rx.symm,af];rfl
 .rw[ah yr,ah gy.symm,ah yr,ah zy.symm,ah yr,af]
 .rw[ah zr,ah gz.symm,ah zr,af]
 .rw[ah gr,af]
 .rw[ah n,ah (bN e g0),ah n,ah (bN e z0),ah n,ah (bN e y0),ah n,ah (bN e hx)];exact e
structure Rl(M:MH)(r x y z g:Addr)(N:List Str)(lt:Str->Nat)(db ct:Str->Bool):Prop where
 hr:M r=some (.ins ao (FR x y z g))
 hx:M x=some (.dic (kf N (nW lt)))
 hy:M y=some (.dic (kf N (bW db)))
 hz:M z=some (.dic (kf N (bW ct)))
def bO:SpD:=λ ws M Q=>∃ (r x y z g:Addr) (N:List Str) (f:Str->Nat) (a:Str) (n:Nat),ws=[.m r,.d (.str a),.d (.int (n:Nat))]/\M r=some (.ins ao (FR x y z g))/\M x=some (.dic (kf N (nW f)))/\a∈N/\N.length<=60/\Q (.d .none) (aS M x (.dic (kf N (nW (cG f a n)))))
theorem oI:Ln bO 3:=by rintro ws M Q ⟨r,x,y,z,g,N,f,a,n,rfl,_⟩;rfl
theorem nH:Rd bO kT kZ:=by
 rintro ws M Q ⟨r,x,y,z,g,N,f,a,n,rfl,hr,hx,ha,hl,k⟩;have sl:=s16;refine⟨_,rfl,_,rfl,r,_,_,rfl,hr,alg,_,rfl,x,_,.inr a,rfl,hx,rfl,by rw[nZ];omega,?_⟩;rw[rH ha,ajm];exact k
def bI:SpD:=λ ws M Q=>∃ (r x y z g:Addr) (N:List Str) (f:Str->Bool) (a:Str) (n:Bool),ws=[.m r,.d (.str a),.d (.bool n)]/\M r=some (.ins ao (FR x y z g))/\M y=some (.dic (kf N (bW f)))/\a∈N/\N.length<=60/\Q (.d .none) (aS M y (.dic (kf N (bW (cG f a n)))))
theorem nC:Ln bI 3:=by rintro ws M Q ⟨r,x,y,z,g,N,f,a,n,rfl,_⟩;rfl
theorem mZ:Rd bI jS jX:=by
 rintro ws M Q ⟨r,x,y,z,g,N,f,a,n,rfl,hr,hx,ha,hl,k⟩;have sl:=s16;refine⟨_,rfl,_,rfl,r,_,_,rfl,hr,alh,_,rfl,y,_,.inr a,rfl,hx,rfl,by rw[nZ];omega,?_⟩;rw[rH ha,aaC];exact k
def cg:SpD:=λ ws M Q=>∃ (r x y z g:Addr) (N:List Str) (f:Str->Bool) (a:Str),ws=[.m r,.d (.str a)]/\M r=some (.ins ao (FR x y z g))/\M z=some (.dic (kf N (bW f)))/\a∈N/\N.length<=60/\Q (.d .none) (aS M z (.dic (kf N (bW (cG f a true)))))
theorem rM:Ln cg 2:=by rintro ws M Q ⟨r,x,y,z,g,N,f,a,rfl,_⟩;rfl
theorem pP:Rd cg nN ou:=by
 rintro ws M Q ⟨r,x,y,z,g,N,f,a,rfl,hr,hx,ha,hl,k⟩;have sl:=s16;refine⟨_,rfl,r,_,_,rfl,hr,akl,_,rfl,z,_,.inr a,rfl,hx,rfl,by rw[nZ];omega,?_⟩;rw[rH ha,aaC];exact k
def bQ:SpD:=λ ws M Q=>∃ (r x y z g:Addr) (N:List Str) (f:Str->Bool) (a:Str),ws=[.m r,.d (.str a)]/\M r=some (.ins ao (FR x y z g))/\M z=some (.dic (kf N (bW f)))/\a∈N/\N.length<=60/\Q (.d .none) (aS M z (.dic (kf N (bW (cG f a false)))))
theorem oY:Ln bQ 2:=by rintro ws M Q ⟨r,x,y,z,g,N,f,a,rfl,_⟩;rfl
theorem ng:Rd bQ mq lg:=by
 rintro ws M Q ⟨r,x,y,z,g,N,f,a,rfl,hr,hx,ha,hl,k⟩;have sl:=s16;refine⟨_,rfl,r,_,_,rfl,hr,akl,_,rfl,z,_,.inr a,rfl,hx,rfl,by rw[nZ];omega,?_⟩;rw[rH ha,aaC];exact k
def bq:SpD:=λ ws M Q=>∃ (r x y z g:Addr) (N:List Str) (ct:Str->Bool) (m:Msg) (t:Nat),ws=[.m r,.d m.D,.d (.int (t:Nat))]/\M r=some (.ins ao (FR x y z g))/\M z=some (.dic (kf N (bW ct)))/\m.z∈N/\Q (.d (.bool (due ct t m))) M
theorem l0:Ln bq 3:=by rintro ws M Q ⟨r,x,y,z,g,N,ct,m,t,rfl,_⟩;rfl
theorem dle(a b:Nat):decide ((a:Int)<=(b:Int))=decide (a<=b):=by simp[Int.ofNat_le]
theorem ko:Rd bq iR iS:=by
 rintro ws M Q ⟨r,x,y,z,g,N,ct,m,t,rfl,hr,hz,hm,k⟩;refine⟨_,rfl,_,rfl,rfl,_,_,rfl,_,_,rfl,_,_,rfl,rfl,?_⟩;refine⟨_,rfl,_,rfl,.inl ⟨_,_,rfl,rfl,_,rfl,?_⟩⟩;rw[dle];unfold due at k;refine e9 (λ h=>?_) (λ h=>?_)
 .rw[h,Bool.true_and] at k;exact⟨_,rfl,r,_,_,rfl,hr,akl,_,rfl,z,_,.inr m.z,_,rfl,.inl hz,rfl,eR hm,_,rfl,k⟩
 .rw[h,Bool.false_and] at k;exact k
def aju(ct:Str->Bool)(t:Nat)(n:Bool):W->Option PyData
 | .d (.tuple [.int d,.str z,k])=>if ((decide (d<=(t:Int))&&!ct z) != n)=true then some (.tuple [.int d,.str z,k]) else none
 | _=>none
theorem tO(ct:Str->Bool)(t:Nat)(n:Bool)(m:Msg):aju ct t n (.d m.D)=if (due ct t m != n)=true then some m.D else none:=by show(if ((decide ((m.d:Int)<=(t:Int))&&!ct m.z) != n)=true then _ else _)=_;rw[dle];rfl
theorem ph(ct:Str->Bool)(t:Nat)(n:Bool):∀ ms:List Msg,(ms.map λ m=>W.d m.D).filterMap (aju ct t n)=(ms.filter λ m=>due ct t m != n).map Msg.D
 | []=>rfl
 | m::ms=>by
  rw[List.map_cons,List.filterMap_cons,tO,ph ct t n ms]
  by_cases h:(due ct t m != n)=true
  .rw[if_pos h,List.filter_cons_of_pos (by simpa using h)];rfl
  .rw[if_neg h,List.filter_cons_of_neg (by simpa using h)]
theorem rO{M:MH}{g p:Addr}{ws:List W}{l:MO}(hg:M g=some (.lst ws))(hp:aS M g (.flst ws) p=none):M p=none/\p≠g/\Ext M (aS (aS (aS M g (.flst ws)) p l) g (.lst ws))/\aS (aS (aS M g (.flst ws)) p l) g (.lst ws) p=some l:=by
 have h1:=az hp;have h2:=bR hp;refine⟨h1,h2,λ b o e=>?_,by rw[ah h2,af]⟩
 by_cases h:b=g
 .subst h;rw[hg] at e;cases e;exact af
 .rw[ah h,ah (bN e h1),ah h];exact e
abbrev Msg.T(m:Msg):PyData:=.tuple [.str m.z,m.k]
def bC:SpD:=λ ws M Q=>∃ (r x y z g:Addr) (N:List Str) (ct:Str->Bool) (ms:List Msg) (t:Nat),ws=[.m r,.d (.int (t:Nat))]/\M ax=some cdC/\M r=some (.ins ao (FR x y z g))/\M z=some (.dic (kf N (bW ct)))/\M g=some (msW ms)/\(∀ m∈ms,m.z∈N)/\ms.length<=1000 /\
 ∀ (D':List Msg) (g':Addr) (M':MH),D'.Perm (ms.filter (due ct t))->(∀ T:Msg->Msg->Prop,(ms.filter (due ct t)).Pairwise T->D'.Pairwise λ a b=>a.d<b.d\/(a.d=b.d/\T a b))->M g'=none->M' r=some (.ins ao (FR x y z g'))->M' g'=some (msW (ms.filter λ m=>!due ct t m))->(∀ b o,b≠r->M b=some o->M' b=some o)->Q (.d (.list (D'.map Msg.T))) M'
theorem qj:Ln bC 2:=by rintro ws M Q ⟨r,x,y,z,g,N,ct,ms,t,rfl,_⟩;rfl
theorem ny:Rd bC (kR bq) lW:=by
 rintro ws M Q ⟨r,x,y,z,g,N,ct,ms,t,rfl,hC,hr,hz,hg,hm,hl,k⟩;have sl:=s16;have rg:r≠g:=agD hr hg (λ e=>nomatch e);have zg:z≠g:=agD hz hg (λ e=>nomatch e);refine⟨g,_,hg,_,rfl,r,_,_,rfl,by rw[ah rg];exact hr,ajp,g,_,rfl,af,?_⟩;refine pL (aju ct t false) (by rw[lm];omega) (λ w hw P' hp=>?_) ?_
 .obtain⟨m,hm',rfl⟩:=List.mem_map.mp hw;rw[tO] at hp;refine⟨_,rfl,r,_,rfl,by rw[ah rg];exact hr,ahY (x:=x) (y:=y) (z:=z) (g:=g),_,rfl,_,rfl,r,x,y,z,g,N,ct,m,t,rfl,by rw[ah rg];exact hr,by rw[ah zg];exact hz,hm m hm',_,rfl,?_⟩;refine e9 (λ h=>?_) (λ h=>?_)
  .rw[h] at hp;exact⟨_,rfl,_,rfl,rfl,hp⟩
  .rw[h] at hp;exact⟨rfl,hp⟩
 rw[ph];intro p hp;obtain⟨hp0,pg,x1,hp1⟩:=rO (l:=.lst (((ms.filter λ m=>due ct t m != false).map Msg.D).map W.d)) hg hp;refine⟨cC af hp,?_⟩;generalize aS (aS (aS M g (.flst _)) p _) g (.lst _)=M1 at x1 hp1;have e0:(ms.filter λ m=>due ct t m != false)=ms.filter (due ct t):=by simp
 rw[e0,List.map_map] at hp1;refine⟨g,_,x1 _ _ hg,_,rfl,r,_,_,rfl,by rw[ah rg];exact x1 _ _ hr,ajp,g,_,rfl,af,?_⟩;refine pL (aju ct t true) (by rw[lm];omega) (λ w hw P' hq=>?_) ?_
 .obtain⟨m,hm',rfl⟩:=List.mem_map.mp hw;rw[tO] at hq;refine⟨_,rfl,r,_,rfl,by rw[ah rg];exact x1 _ _ hr,ahY (x:=x) (y:=y) (z:=z) (g:=g),_,rfl,_,rfl,r,x,y,z,g,N,ct,m,t,rfl,by rw[ah rg];exact x1 _ _ hr,by rw[ah zg];exact x1 _ _ hz,hm m hm',_,rfl,?_⟩;refine e9 (λ h=>?_) (λ h=>?_)
  .rw[Bool.not_eq_true'] at h;rw[h] at hq;exact⟨_,rfl,_,rfl,rfl,hq⟩
  .rw[Bool.not_eq_false'] at h;rw[h] at hq;exact⟨rfl,hq⟩
 rw[ph];intro q hq;obtain⟨hq0,qg,x2,hq1⟩:=rO (l:=.lst (((ms.filter λ m=>due ct t m != true).map Msg.D).map W.d)) (x1 _ _ hg) hq;refine⟨cC af hq,_,rfl,r,_,rfl,x2 _ _ (x1 _ _ hr),(by show 4<1000;decide),?_⟩;generalize aS (aS (aS M1 g (.flst _)) q _) g (.lst _)=M2 at x2 hq1;have e1:(ms.filter λ m=>due ct t m != true)=ms.filter λ m=>!due ct t m:=by simp
 rw[e1,List.map_map] at hq1;have qM:M q=none:=Ext.none x1 hq0;have x3:Ext M M2:=x1.trans x2;have qr:q≠r:=λ e=>by rw[e,hr] at qM;cases qM
 have pr:p≠r:=λ e=>by rw[e,hr] at hp0;cases hp0
 have Cr:ax≠r:=agD hC hr (λ e=>nomatch e);have hr3:aS M2 r (.ins ao (vB "messages" (.m q) (FR x y z g))) r=some (.ins ao (FR x y z q)):=af;have x4:∀ b o,b≠r->M b=some o->aS M2 r (.ins ao (vB "messages" (.m q) (FR x y z g))) b=some o:=λ b o n e=>by rw[ah n];exact x3 _ _ e
 have hp3:aS M2 r (.ins ao (vB "messages" (.m q) (FR x y z g))) p=some (.lst ((ms.filter (due ct t)).map λ m=>W.d m.D)):=by rw[ah pr];exact x2 _ _ hp1
 have hq3:aS M2 r (.ins ao (vB "messages" (.m q) (FR x y z g))) q=some (msW (ms.filter λ m=>!due ct t m)):=by rw[ah qr];exact hq1
 generalize aS M2 r (.ins ao (vB "messages" (.m q) (FR x y z g)))=M3 at hr3 x4 hp3 hq3;have lf:(ms.filter (due ct t)).length<=ms.length:=List.length_filter_le _ _;obtain⟨D',e2,pm,od⟩:=afq (ms.filter (due ct t)) (λ m=>(m.d:Int)) (λ m=>W.d m.D);have ld:D'.length<=1000:=by rw[pm.length_eq];omega
 refine⟨_,rfl,p,_,(ms.filter (due ct t)).map λ m=>(m.d:Int),rfl,hp3,by rw[lm];omega,x4 _ _ Cr hC,by simp,λ i w n hw hn=>?_,λ l hl'=>?_⟩
 .obtain⟨m,h1,rfl⟩:=dF hw;obtain⟨m',h2,rfl⟩:=dF hn;rw[h1] at h2;cases h2;exact⟨_,rfl,0,_,rfl,rfl,rfl,rfl,rfl⟩
 rw[e2];have e3:(D'.map λ m=>W.d m.D)=(D'.map Msg.D).map W.d:=by rw[List.map_map];rfl
 have x5:Ext M3 (sG (aS M3 l (.lst (D'.map λ m=>W.d m.D))) l):=sealed hl';refine⟨l,D'.map Msg.D,rfl,by rw[af,e3],_,rfl,?_⟩;rw[<- e3];generalize sG (aS M3 l (.lst (D'.map λ m=>W.d m.D))) l=M4 at x5;refine l5 D' (λ m=>W.d m.D) Msg.T (λ τ=>∃ a b c,τ=[a,b,c]) ld ⟨_,_,_,rfl⟩ (λ m _ τ hτ R h=>?_) λ τ=>?_
 .obtain⟨a,b,c,rfl⟩:=hτ;exact⟨_,rfl,rfl,_,_,rfl,_,_,rfl,_,_,rfl,rfl,_,rfl,_,rfl,_,rfl,(show 2<=sizeLine by omega),_,rfl,h _ ⟨_,_,_,rfl⟩⟩
 .exact k D' q M4 pm (λ T hT=>(od T hT).imp λ {a b} h=>by rcases h with h | ⟨h1,h2⟩;exact .inl (by omega);exact .inr ⟨by omega,h2⟩) qM (x5 _ _ hr3) (x5 _ _ hq3) λ b o n e=>x5 _ _ (x4 _ _ n e)
def cp:Nat->PyData->Bool
 | 0,_=>false
 | j+1,d=>match d with
  | .list ds=>decide (ds.length<=1000)&&ds.all (cp j)
  | .tuple ds=>decide (ds.length<=1000)&&ds.all (cp j)
  | .dict _=>false
  | _=>true
def aP(j:Nat):SpD:=λ ws M Q=>∃ d,ws=[.d d]/\cp j d=true/\Q (.d d) M
abbrev au:SpD:=aP 5
theorem iT:∀ ws M Q,¬ aP 0 ws M Q:=λ ws M Q ⟨d,_,h,_⟩=>by cases h
theorem kF(j:Nat):∀ ws M Q,aP j ws M Q->ws.length=1:=by rintro ws M Q ⟨d,rfl,_⟩;rfl
def aep:W->Option PyData
 | .d x=>some x
 | _=>none
theorem zX(ds:List PyData):(ds.map W.d).filterMap aep=ds:=by rw[adv W.d aep (λ d=>d) (λ d=>rfl)];simp
theorem qX{j:Nat}{τ:DS}{M:MH}{Q:List PyData->MH->Prop}(ds:List PyData)(hl:ds.length<=1000)(ha:ds.all (cp j)=true)(q:Q ds M) :
  ∃ P:Nat->List PyData->DS->MH->Prop,P 0 [] (aa3 1 [] τ) M /\
   (∀ i w acc τ M,(ds.map W.d)[i]? =some w->P i acc τ M->acc.length<sizeLine/\gN 0 w τ M λ τ2 M2=>iJ τ2 M2 λ b M3=>if b=true then bx (aP j) (ab (ag 0) ay) τ2 M3 λ y M4=>∃ d,y=.d d/\P (i+1) (acc++[d]) τ2 M4 else P (i+1) acc τ2 M3) /\
   ∀ acc τ M,P (ds.map W.d).length acc τ M->Q acc M:=by
 refine pL aep (by rw[lm];exact few hl) (λ w hw P' hp=>?_) (by rw[zX];exact q);obtain⟨x,hx,rfl⟩:=List.mem_map.mp hw;exact⟨_,rfl,x,rfl,List.all_eq_true.mp ha x hx,x,rfl,rfl,hp⟩
theorem jh(j:Nat):∀ ws M Q,aP (j+1) ws M Q->dZ (aP j) (EdQ Q) (fG ee ws) M:=by
 rintro ws M Q ⟨d,rfl,hc,k⟩;have afI:tw d "tuple" = false->tw d "list" = false->tw d "dict" = false->dZ (aP j) (EdQ Q) (fG ee [.d d]) M:=by intro h1 h2 h3;refine⟨_,rfl,_,_,_,rfl,.d,.tuple,_,rfl,?_⟩;rw[h1];refine jf ⟨_,rfl,_,_,_,rfl,.d,.list,_,rfl,?_⟩;rw[h2];refine jf ⟨_,rfl,_,_,_,rfl,.d,.dict,_,rfl,?_⟩;rw[h3];exact jf ⟨_,rfl,k⟩
 cases d with
 | none=>exact afI rfl rfl rfl
 | bool b=>exact afI rfl rfl rfl
 | int i=>exact afI rfl rfl rfl
 | str z=>exact afI rfl rfl rfl
 | dict kvs=>cases hc
 | list ds =>
  simp only[cp,ae00,decide_eq_true_eq] at hc;refine⟨_,rfl,_,_,_,rfl,.d,.tuple,_,rfl,?_⟩;rw[show tw (.list ds) "tuple" = false from rfl];refine jf ⟨_,rfl,_,_,_,rfl,.d,.list,_,rfl,?_⟩;rw[show tw (.list ds) "list" = true from rfl];refine sF ⟨_,rfl,_,rfl,?_⟩;exact qX (Q:=λ acc M=>Q (.d (.list acc)) M) ds hc.1 hc.2 k
 | tuple ds =>
  simp only[cp,ae00,decide_eq_true_eq] at hc;refine⟨_,rfl,_,_,_,rfl,.d,.tuple,_,rfl,?_⟩;rw[show tw (.tuple ds) "tuple" = true from rfl];refine sF ⟨_,rfl,_,rfl,?_⟩;exact qX (Q:=λ acc M=>lR [.d (.list acc)] M Q) ds hc.1 hc.2 ⟨_,ds,rfl,.l,k⟩
def news(lt:Str->Nat)(db:Str->Bool)(a:Str)(k:Th)(t n:Nat):List Msg:=if db a=true then [⟨t+1+lt a,a,k,n,false⟩,⟨t+1+lt a+1,a,k,n+1,true⟩] else [⟨t+1+lt a,a,k,n,false⟩]
def bB:SpD:=λ ws M Q=>∃ (r x y z g:Addr) (N:List Str) (lt:Str->Nat) (db:Str->Bool) (ms:List Msg) (a:Str) (kd:Th) (t n:Nat),ws=[.m r,.d (.str a),.d kd.D,.d (.int (t:Nat))]/\cp 5 kd.D=true/\M r=some (.ins ao (FR x y z g))/\M x=some (.dic (kf N (nW lt)))/\M y=some (.dic (kf N (bW db)))/\M g=some (msW ms)/\a∈N/\ms.length<=1000/\Q (.d .none) (aS M g (msW (ms++news lt db a kd t n)))
theorem rf:Ln bB 4:=by rintro ws M Q ⟨r,x,y,z,g,N,lt,db,ms,a,kd,t,n,rfl,_⟩;rfl
theorem oW:Rd bB (nX au) nO:=by
 rintro ws M Q ⟨r,x,y,z,g,N,lt,db,ms,a,kd,t,n,rfl,pl,hr,hx,hy,hg,ha,hl,k⟩;have sl:=s16;have rg:r≠g:=agD hr hg (λ e=>nomatch e);have yg:y≠g:=agD hy hg (λ e=>nomatch e);refine⟨_,rfl,.inl ⟨_,_,rfl,rfl,_,rfl,r,_,_,rfl,hr,alg,_,rfl,x,_,.inr a,_,rfl,.inl hx,rfl,eR ha,.inl ⟨_,_,rfl,rfl,?_⟩⟩⟩;have e:((t:Int)+1+((lt a:Nat):Int))=((t+1+lt a:Nat):Int):=by omega
 dsimp only;rw[e];refine⟨_,rfl,r,_,_,rfl,hr,ajp,g,_,rfl,hg,_,rfl,_,rfl,_,rfl,kd.D,rfl,pl,_,rfl,(show 3<=sizeLine by omega),_,hg,by rw[lm];omega,?_⟩;have e1:(ms.map λ m:Msg=>W.d m.D)++[W.d (.tuple [.int ((t+1+lt a:Nat):Int),.str a,kd.D])]=(ms++[(⟨t+1+lt a,a,kd,n,false⟩:Msg)]).map λ m:Msg=>W.d m.D:=by rw[List.map_append];rfl
 rw[e1];refine⟨_,rfl,r,_,_,rfl,by rw[ah rg];exact hr,alh,_,rfl,y,_,.inr a,_,rfl,.inl (by rw[ah yg];exact hy),rfl,eR ha,_,rfl,?_⟩;unfold news at k;refine e9 (λ h=>?_) (λ h=>?_)
 .rw[h,if_pos rfl] at k;refine⟨_,rfl,r,_,_,rfl,by rw[ah rg];exact hr,ajp,g,_,rfl,af,_,rfl,.inl ⟨_,_,rfl,rfl,_,rfl,_,rfl,kd.D,rfl,pl,_,rfl,(show 3<=sizeLine by omega),_,af,by simp;omega,?_⟩⟩;have e2:(((ms++[(⟨t+1+lt a,a,kd,n,false⟩:Msg)]).map λ m:Msg=>W.d m.D)++[W.d (.tuple [.int (((t+1+lt a:Nat):Int)+1),.str a,kd.D])])=(ms++[(⟨t+1+lt a,a,kd,n,false⟩:Msg),⟨t+1+lt a+1,a,kd,n+1,true⟩]).map λ m:Msg=>W.d m.D:=by rw[List.map_append,List.map_append,List.append_assoc];rfl
  rw[e2,lh];exact k
 .rw[h,if_neg ft0] at k;exact k
def ve(K:List Str)(z:Str):List Str:=if z∈K then K else K++[z]
theorem ahi{α:Type}{K:List Str}{f:Str->α}{g:α->W}{z:Str}{v:α}:kG (kf K λ y=>g (f y)) (.inr z) (g v)=kf (ve K z) λ y=>g (cG f z v y):=by
 unfold ve
 by_cases h:z∈K
 .rw[if_pos h,rH h];exact vm λ y _=>by unfold cG;split<;>rfl
 .rw[if_neg h];have e:kf K (λ y=>g (f y))=kf K λ y=>g (cG f z v y):=vm λ y hy=>by rw[fY (λ q:y=z=>h (q ▸ hy))]
  have e2:g v=(λ y=>g (cG f z v y)) z:=by show g v=g (cG f z v z);rw[eB]
  rw[e,e2];exact ze h
theorem qb{K:List Str}{z y:Str}:y∈ve K z ↔ y∈K\/y=z:=by
 unfold ve
 split
 .rename_i h
  exact⟨.inl,λ q=>q.elim id λ e=>e ▸ h⟩
 .simp
theorem afb{K:List Str}{z:Str}(h:K.Nodup):(ve K z).Nodup:=by
 unfold ve
 split
 .exact h
 .rename_i hz
  exact List.nodup_append.mpr ⟨h,by simp,λ a ha b hb e=>hz (by rw[<- List.mem_singleton.mp hb,<- e];exact ha)⟩
abbrev acb(d:Addr):List (Str×W):=[("newest",.m d)]
theorem ajs{d:Addr}:(acb d).lookup ("newest" : Str)=some (.m d):=rfl
theorem adD{d:Addr}:(acb d).lookup ("hear" : Str)=none:=rfl
theorem pO{d:Addr}:(acb d).lookup ("kept" : Str)=none:=rfl
abbrev hW(K:List Str)(f:Str->ke):MO:=.dic (kf K λ z=>.d (btD (f z)))
def hv(K:List Str)(f:Str->ke)(z:Str):Option ke:=if z∈K then some (f z) else none
def oD:Option ke->PyData
 | some b=>btD b
 | none=>.none
theorem xH{K:List Str}{f:Str->ke}{z:Str}:eV (kf K λ z=>W.d (btD (f z))) (.inr z)=(hv K f z).map λ b=>.d (btD b):=by
 unfold hv
 by_cases h:z∈K
 .rw[eR h,if_pos h];rfl
 .rw[af6 h,if_neg h];rfl
theorem ahk{K:List Str}{f:Str->ke}{z y:Str}{b:ke}:hv (ve K z) (cG f z b) y=if y=z then some b else hv K f y:=by
 unfold hv
 by_cases e:y=z
 .subst e;rw[if_pos (qb.mpr (.inr rfl)),if_pos rfl,eB]
 .rw[if_neg e]
  by_cases h:y∈K
  .rw[if_pos (qb.mpr (.inl h)),if_pos h,fY e]
  .rw[if_neg (λ q=>(qb.mp q).elim h e),if_neg h]
theorem aiK{o:Option ke}:((o.map λ b=>W.d (btD b)).getD (.d .none))=.d (oD o):=by cases o<;>rfl
def aK:SpD:=λ ws M Q=>∃ h,ws=[.m h]/\M h=some (.ins ak [])/\∀ d M',M d=none->d≠h->M' h=some (.ins ak (acb d))->M' d=some (.dic [])->(∀ q,q≠h->q≠d->M' q=M q)->Q (.d .none) M'
theorem kE:Ln aK 1:=by rintro ws M Q ⟨h,rfl,_⟩;rfl
theorem jj:Rd aK iq hG:=by
 rintro ws M Q ⟨h,rfl,hh,k⟩;intro d hd;have n1:d≠h:=λ e=>by rw[e,hh] at hd;cases hd
 refine⟨_,rfl,h,_,rfl,by rw[ah n1.symm];exact hh,by decide,?_⟩;exact k d _ hd n1 (by rw[af];rfl) (by rw[ah n1,af]) λ q q1 q2=>by rw[ah q1,ah q2]
def aq:SpD:=λ ws M Q=>∃ (h d:Addr) (K:List Str) (f:Str->ke) (z:Str),ws=[.m h,.d (.str z)]/\M h=some (.ins ak (acb d))/\M d=some (hW K f)/\cp 5 (oD (hv K f z))=true/\Q (.d (oD (hv K f z))) M
theorem kB:Ln aq 2:=by rintro ws M Q ⟨h,d,K,f,z,rfl,_⟩;rfl
theorem jm:Rd aq (hV au) gP:=by
 rintro ws M Q ⟨h,d,K,f,z,rfl,hh,hd,hc,k⟩;refine⟨_,rfl,h,_,_,rfl,hh,ajs,.k hd,_,rfl,_,.k (k:=.inr z) hd,?_⟩;rw[xH,aiK];exact⟨_,rfl,hc,k⟩
def fM(o:Option ke)(t:Int):Bool:=match o with
 | none=>true
 | some x=>decide (x.turn<t)
def aO:SpD:=λ ws M Q=>∃ (h d:Addr) (K:List Str) (f:Str->ke) (b:ke),ws=[.m h,.d (btD b)]/\M h=some (.ins ak (acb d))/\M d=some (hW K f)/\cp 5 (btD b)=true/\K.length<=1000 /\
 (fM (hv K f b.name) b.turn=false->Q (.d (.bool false)) M)/\(fM (hv K f b.name) b.turn=true->Q (.d (.bool true)) (aS M d (hW (ve K b.name) (cG f b.name b))))
theorem kg:Ln aO 2:=by rintro ws M Q ⟨h,d,K,f,b,rfl,_⟩;rfl
theorem jy:Rd aO (gR au) gX:=by
 rintro ws M Q ⟨h,d,K,f,b,rfl,hh,hd,hc,hl,k1,k2⟩;have s16':=s16;refine⟨_,rfl,_,rfl,rfl,_,_,rfl,_,_,rfl,_,_,rfl,_,_,rfl,_,_,rfl,rfl,?_⟩;have put:fM (hv K f b.name) b.turn=true->(aV (pF (ft ak (ag 0) "newest") (ag 2) (bx au (ab (ag 1) ay))) <|
   cm (dC (.d (.bool true)))) (EdQ Q) [some (.m h),some (.d (btD b)),some (.d (.str b.name)),some (.d (.int b.life)),some (.d (.int b.turn)),some (.d (.int b.sheet)),some (.d (.list b.rows))] M:=by
  intro hx;refine⟨_,rfl,btD b,rfl,hc,_,rfl,h,_,_,rfl,hh,ajs,_,rfl,d,_,.inr b.name,rfl,hd,rfl,by rw[nZ];omega,?_⟩;have e:=ahi (K:=K) (f:=f) (g:=λ x:ke=>W.d (btD x)) (z:=b.name) (v:=b);rw[e];exact k2 hx
 refine⟨_,rfl,_,rfl,h,_,_,rfl,hh,ajs,_,.k (k:=.inr b.name) hd,_,rfl,?_⟩;rw[xH];cases e:hv K f b.name with
 | none=>rw[e] at put;exact jf (jf (put rfl))
 | some x =>
  rw[e] at put k1;refine sF ?_;refine⟨_,rfl,_,rfl,h,_,_,rfl,hh,ajs,_,rfl,d,_,.inr b.name,_,rfl,.inl hd,rfl,by rw[xH,e];rfl,_,_,rfl,rfl,rfl,.inl ⟨_,_,rfl,rfl,_,rfl,?_⟩⟩;refine e9 (λ le=>?_) (λ gt=>?_)
  .have hle:¬ x.turn<b.turn:=by have:=of_decide_eq_true le;omega
   exact k1 (decide_eq_false hle)
  .refine put (decide_eq_true ?_);have:=of_decide_eq_false gt;omega
structure Wl where
 m:Str->Mst
 v:Str->Option ke
def cE(s:Mst)(l t:Int)(r:List Mc)(z:List PyData):Mst:=if okT s l t=true then {s with sheet:=t,L:=fR s.L r,lz:=z} else s
def stp(w:Wl)(x:Msg):Wl:=match x.h with
 | .sheet l t r z=>{w with m:=cG w.m x.z (cE (w.m x.z) l t r z)}
 | .beat b=>{w with v:=cG w.v x.z (if fM (w.v x.z) b.turn=true then some b else w.v x.z)}
def Dn(s:Mst)(l t:Int):Prop:=l<s.life\/(l=s.life/\(s.up=false\/t<=s.sheet))
def Done(w:Wl)(z:Str):Th->Prop
 | .sheet l t _ _=>Dn (w.m z) l t
 | .beat b=>fM (w.v z) b.turn=false
def Good(w:Wl)(x:Msg):Prop:=∀ l t r q,x.h=.sheet l t r q->l<=(w.m x.z).life
theorem mP{α:Type}(f:Str->α)(z:Str):cG f z (f z)=f:=by
 funext y;unfold cG
 split
 .rename_i e;rw[e]
 .rfl
theorem akd{s:Mst}{l t:Int}(h:Dn s l t):okT s l t=false:=by
 unfold okT;rcases h with h | ⟨h,h2 | h2⟩
 .rw[decide_eq_false (show ¬ l=s.life by omega)];simp
 .rw[h2];simp
 .rw[decide_eq_false (show ¬ s.sheet<t by omega)];simp
theorem uM{s:Mst}{l t:Int}{r:List Mc}{z:List PyData}(h:Dn s l t):cE s l t r z=s:=by
 unfold cE;rw[akd h,if_neg ft0]
theorem jJ(s:Mst)(l t:Int)(r:List Mc)(z:List PyData):(cE s l t r z).life=s.life/\(cE s l t r z).up=s.up/\s.sheet<=(cE s l t r z).sheet:=by
 unfold cE
 split
 .rename_i h
  unfold okT at h;simp only[ae00,decide_eq_true_eq] at h;exact⟨rfl,rfl,by show s.sheet<=t;omega⟩
 .exact⟨rfl,rfl,Int.le_refl _⟩
theorem aao{s:Mst}{l t l' t':Int}{r:List Mc}{z:List PyData}(h:Dn s l t):Dn (cE s l' t' r z) l t:=by
 obtain⟨h1,h2,h3⟩:=jJ s l' t' r z;unfold Dn at h ⊢;rw[h1,h2];rcases h with h | ⟨h,h4 | h4⟩
 .exact .inl h
 .exact .inr ⟨h,.inl h4⟩
 .exact .inr ⟨h,.inr (by omega)⟩
theorem vQ{s:Mst}{l t:Int}{r:List Mc}{z:List PyData}(h:l<=s.life):Dn (cE s l t r z) l t:=by
 unfold cE
 split
 .rename_i q
  unfold okT at q;simp only[ae00,decide_eq_true_eq] at q;exact .inr ⟨q.1.2,.inr (Int.le_refl _)⟩
 .rename_i q
  by_cases e:l=s.life
  .refine .inr ⟨e,?_⟩
   by_cases u:s.up=true
   .refine .inr ?_;unfold okT at q;simp only[ae00,decide_eq_true_eq,not_and] at q;have:=q ⟨u,e⟩;omega
   .exact .inl (by simpa using u)
  .exact .inl (by omega)
theorem abn{o:Option ke}{t:Int}(h:fM o t=false):∃ x,o=some x/\t<=x.turn:=by
 cases o with
 | none=>cases h
 | some x=>exact⟨x,rfl,by have:=of_decide_eq_false h;omega⟩
theorem yl{w:Wl}{x:Msg}(h:Done w x.z x.h):stp w x=w:=by
 unfold stp;cases e:x.h with
 | sheet l t r q =>
  rw[e] at h;have h':Dn (w.m x.z) l t:=h;simp only[uM h',mP]
 | beat b =>
  rw[e] at h;have h':fM (w.v x.z) b.turn=false:=h;simp only[h',Bool.false_eq_true,if_false,mP]
theorem sr{w:Wl}{z:Str}{h:Th}(d:Done w z h)(y:Msg):Done (stp w y) z h:=by
 cases h with
 | sheet l t r q =>
  have d':Dn (w.m z) l t:=d;show Dn ((stp w y).m z) l t;unfold stp;cases e:y.h with
  | sheet l' t' r' q' =>
   show Dn (cG w.m y.z (cE (w.m y.z) l' t' r' q') z) l t
   by_cases ez:z=y.z
   .rw[<- ez,eB];exact aao d'
   .rw[fY ez];exact d'
  | beat b=>exact d'
 | beat b =>
  have d':fM (w.v z) b.turn=false:=d;show fM ((stp w y).v z) b.turn=false;unfold stp;cases e:y.h with
  | sheet l' t' r' q'=>exact d'
  | beat b' =>
   show fM (cG w.v y.z (if fM (w.v y.z) b'.turn=true then some b' else w.v y.z) z) b.turn=false
   by_cases ez:z=y.z
   .rw[<- ez,eB];obtain⟨x,hx,ht⟩:=abn d'
    by_cases hn:fM (w.v z) b'.turn=true
    .rw[if_pos hn];rw[hx] at hn;have:=of_decide_eq_true hn;exact decide_eq_false (by omega)
    .rw[if_neg hn];exact d'
   .rw[fY ez];exact d'
theorem nQ{w:Wl}{x:Msg}(g:Good w x):Done (stp w x) x.z x.h:=by
 unfold stp Good at *;cases e:x.h with
 | sheet l t r q =>
  show Dn (cG w.m x.z (cE (w.m x.z) l t r q) x.z) l t;rw[eB];exact vQ (g l t r q e)
 | beat b =>
  show fM (cG w.v x.z (if fM (w.v x.z) b.turn=true then some b else w.v x.z) x.z) b.turn=false;rw[eB]
  by_cases hn:fM (w.v x.z) b.turn=true
  .rw[if_pos hn];exact decide_eq_false (by omega)
  .rw[if_neg hn];simpa using hn
theorem vU(w:Wl)(x:Msg)(z:Str):((stp w x).m z).life=(w.m z).life/\((stp w x).m z).up=(w.m z).up:=by
 unfold stp;cases e:x.h with
 | sheet l t r q =>
  show(cG w.m x.z (cE (w.m x.z) l t r q) z).life=_/\(cG w.m x.z (cE (w.m x.z) l t r q) z).up=_
  by_cases ez:z=x.z
  .rw[<- ez,eB];exact⟨(jJ _ _ _ _ _).1,(jJ _ _ _ _ _).2.1⟩
  .rw[fY ez];exact⟨rfl,rfl⟩
 | beat b=>exact⟨rfl,rfl⟩
theorem lB{w:Wl}{x:Msg}(g:Good w x)(y:Msg):Good (stp w y) x:=λ l t r q e=>by rw[(vU w y x.z).1];exact g l t r q e
theorem rF:∀ (F:List Msg) (w:Wl),(∀ x∈F,Good w x)->(∀ (j:Nat) (x:Msg),F[j]? =some x->x.u=true->Done w x.z x.h\/∃ (i:Nat) (y:Msg),i<j/\F[i]? =some y/\y.z=x.z/\y.h=x.h)->F.foldl stp w=(F.filter λ x=>!x.u).foldl stp w
 | [],_,_,_=>rfl
 | x::F,w,g,h=>by
  have gx:=g x (by simp);have tl:F.foldl stp (stp w x)=(F.filter λ x=>!x.u).foldl stp (stp w x):=by
   refine rF F (stp w x) (λ y hy=>lB (g y (by simp[hy])) x) λ j y hj hu=>?_;rcases h (j+1) y (by simpa using hj) hu with d | ⟨i,y',hi,ei,ez,eh⟩
   .exact .inl (sr d x)
   .cases i with
    | zero =>
     have:x=y':=by simpa using ei
     subst this;have:=nQ gx;rw[ez,eh] at this;exact .inl this
    | succ i=>exact .inr ⟨i,y',by omega,by simpa using ei,ez,eh⟩
  cases hu:x.u with
  | false =>
   rw[List.filter_cons_of_pos (by simp[hu])];exact tl
  | true =>
   rw[List.filter_cons_of_neg (by simp[hu])];rcases h 0 x (by simp) hu with d | ⟨i,_,hi,_⟩
   .show F.foldl stp (stp w x)=_;rw[tl,yl d]
   .omega
abbrev Lx(a b:Msg):Prop:=a.d<b.d\/(a.d=b.d/\a.n<b.n)
theorem zR{F G:List Msg}(p:F.Perm G)(h1:F.Pairwise Lx)(h2:G.Pairwise Lx):F=G:=
 List.Perm.eq_of_pairwise (le:=Lx) (λ a b _ _ h k=>by unfold Lx at h k;omega) h1 h2 p
inductive Ro | t | rs | hs | th | e | r (k:Bool) | x (k:Bool) | y (k:Bool) | z (k:Bool) | g (k:Bool) | hh (k:Bool) | hn (k:Bool) | l (a:Str) | s (p:Str×Fin 3) | d (p:Str×Fin 3)
deriving DecidableEq
structure Ad where
 r:Bool->Addr
 x:Bool->Addr
 y:Bool->Addr
 z:Bool->Addr
 hh:Bool->Addr
 hn:Bool->Addr
 rs:Addr
 hs:Addr
 th:Addr
 e:Addr
 l:Str->Addr
 L:Str×Fin 3->Addr
 N:List Str
structure St where
 a:Bool->Str->Nat
 b:Bool->Str->Bool
 c:Bool->Str->Bool
 g:Bool->Addr
 ms:Bool->List Msg
 m:Str×Fin 3->Mst
 D:Str×Fin 3->Addr
 K:Bool->List Str
 f:Bool->Str->ke
 T:List (List Key×W)
 fz:Option Str
 fr:Bool
def up{β α:Type}[DecidableEq β](f:β->α)(k:β)(v:α):β->α:=λ j=>if j=k then v else f j
theorem iP{β α:Type}[DecidableEq β]{f:β->α}{k:β}{v:α}:up f k v k=v:=if_pos rfl
theorem iA{β α:Type}[DecidableEq β]{f:β->α}{k j:β}{v:α}(h:j≠k):up f k v j=f j:=if_neg h
theorem fe{β α:Type}[DecidableEq β](f:β->α)(k:β):up f k (f k)=f:=by
 funext y;unfold up
 split
 .rename_i e;rw[e]
 .rfl
abbrev lsW(A:Ad)(z:Str):List W:=[.m (A.L (z,0)),.m (A.L (z,1)),.m (A.L (z,2))]
abbrev rsW(A:Ad):List W:=[.m (A.r false),.m (A.r true)]
def cells(A:Ad)(S:St):Ro->Option (Addr×MO)
 | .t=>some (ax,cdC)
 | .rs=>some (A.rs,if S.fr=true then .flst (rsW A) else .lst (rsW A))
 | .hs=>some (A.hs,.lst [.m (A.hh false),.m (A.hh true)])
 | .th=>some (A.th,.dic (kf A.N λ z=>.m (A.l z)))
 | .e=>some (A.e,.dct S.T)
 | .r k=>some (A.r k,.ins ao (FR (A.x k) (A.y k) (A.z k) (S.g k)))
 | .x k=>some (A.x k,.dic (kf A.N (nW (S.a k))))
 | .y k=>some (A.y k,.dic (kf A.N (bW (S.b k))))
 | .z k=>some (A.z k,.dic (kf A.N (bW (S.c k))))
 | .g k=>some (S.g k,msW (S.ms k))
 | .hh k=>some (A.hh k,.ins ak (acb (A.hn k)))
 | .hn k=>some (A.hn k,hW (S.K k) (S.f k))
 | .l z=>if z∈A.N then some (A.l z,if S.fz=some z then .flst (lsW A z) else .lst (lsW A z)) else none
 | .s p=>if p.1∈A.N then some (A.L p,.ins aa (flm p.1 6 (S.m p) (S.D p))) else none
 | .d p=>if p.1∈A.N then some (S.D p,.dic (bt (ri (S.m p).L))) else none
section
variable {A:Ad}{S:St}{z:Str}{p:Str×Fin 3}{k:Bool}
theorem sC(hz:p.1∈A.N):cells A S (.s p)=some (A.L p,.ins aa (flm p.1 6 (S.m p) (S.D p))):=if_pos hz
theorem ajO(hz:p.1∈A.N):cells A S (.d p)=some (S.D p,.dic (bt (ri (S.m p).L))):=if_pos hz
theorem acG(hz:z∈A.N)(h:S.fz=none):cells A S (.l z)=some (A.l z,.lst (lsW A z)):=by simp[cells,hz,h]
theorem wX(hz:z∈A.N)(h:S.fz=some z):cells A S (.l z)=some (A.l z,.flst (lsW A z)):=by simp[cells,hz,h]
theorem agF(h:S.fr=false):cells A S .rs=some (A.rs,.lst (rsW A)):=by simp[cells,h]
theorem aeT(h:S.fr=true):cells A S .rs=some (A.rs,.flst (rsW A)):=by simp[cells,h]
theorem afx(hz:p.1∈A.N)(s:Mst)(d:Addr):ba (ba (cells A S) (.s p) (A.L p,.ins aa (flm p.1 6 s d))) (.d p) (d,.dic (bt (ri s.L)))=cells A {S with m:=up S.m p s,D:=up S.D p d}:=by
 funext c;cases c with
 | s q =>
  by_cases e:q=p
  .subst e;simp[ba,cells,up,hz]
  .simp[ba,cells,up,e]
 | d q =>
  by_cases e:q=p
  .subst e;simp[ba,cells,up,hz]
  .simp[ba,cells,up,e]
 | _=>simp[ba,cells]
theorem ae5(f:Str->Nat):ba (cells A S) (.x k) (A.x k,.dic (kf A.N (nW f)))=cells A {S with a:=up S.a k f}:=by
 funext c;cases c with
 | x j =>
  by_cases e:j=k
  .subst e;simp[ba,cells,up]
  .simp[ba,cells,up,e]
 | _=>simp[ba,cells]
theorem adW(f:Str->Bool):ba (cells A S) (.y k) (A.y k,.dic (kf A.N (bW f)))=cells A {S with b:=up S.b k f}:=by
 funext c;cases c with
 | y j =>
  by_cases e:j=k
  .subst e;simp[ba,cells,up]
  .simp[ba,cells,up,e]
 | _=>simp[ba,cells]
theorem xE(f:Str->Bool):ba (cells A S) (.z k) (A.z k,.dic (kf A.N (bW f)))=cells A {S with c:=up S.c k f}:=by
 funext c;cases c with
 | z j =>
  by_cases e:j=k
  .subst e;simp[ba,cells,up]
  .simp[ba,cells,up,e]
 | _=>simp[ba,cells]
theorem agd(g':Addr)(ms:List Msg):ba (ba (cells A S) (.r k) (A.r k,.ins ao (FR (A.x k) (A.y k) (A.z k) g'))) (.g k) (g',msW ms)=cells A {S with g:=up S.g k g',ms:=up S.ms k ms}:=by
 funext c;cases c with
 | r j =>
  by_cases e:j=k
  .subst e;simp[ba,cells,up]
  .simp[ba,cells,up,e]
 | g j =>
  by_cases e:j=k
  .subst e;simp[ba,cells,up]
  .simp[ba,cells,up,e]
 | _=>simp[ba,cells]
theorem zO(ms:List Msg):ba (cells A S) (.g k) (S.g k,msW ms)=cells A {S with ms:=up S.ms k ms}:=by
 funext c;cases c with
 | g j =>
  by_cases e:j=k
  .subst e;simp[ba,cells,up]
  .simp[ba,cells,up,e]
 | _=>simp[ba,cells]
theorem ad2(K:List Str)(f:Str->ke):ba (cells A S) (.hn k) (A.hn k,hW K f)=cells A {S with K:=up S.K k K,f:=up S.f k f}:=by
 funext c;cases c with
 | hn j =>
  by_cases e:j=k
  .subst e;simp[ba,cells,up]
  .simp[ba,cells,up,e]
 | _=>simp[ba,cells]
theorem af9(T:List (List Key×W)):ba (cells A S) .e (A.e,.dct T)=cells A {S with T:=T}:=by
 funext c;cases c<;>simp[ba,cells]
theorem aaK(hz:z∈A.N)(h:S.fz=none):ba (cells A S) (.l z) (A.l z,.flst (lsW A z))=cells A {S with fz:=some z}:=by
 funext c;cases c with
 | l y =>
  by_cases e:y=z
  .subst e;simp[ba,cells,hz]
  .simp[ba,cells,e,h,Ne.symm e]
 | _=>simp[ba,cells]
theorem yR(hz:z∈A.N)(h:S.fz=some z):ba (cells A S) (.l z) (A.l z,.lst (lsW A z))=cells A {S with fz:=none}:=by
 funext c;cases c with
 | l y =>
  by_cases e:y=z
  .subst e;simp[ba,cells,hz]
  .simp[ba,cells,e,h,Ne.symm e]
 | _=>simp[ba,cells]
theorem acq:ba (cells A S) .rs (A.rs,.flst (rsW A))=cells A {S with fr:=true}:=by
 funext c;cases c<;>simp[ba,cells]
theorem abq:ba (cells A S) .rs (A.rs,.lst (rsW A))=cells A {S with fr:=false}:=by
 funext c;cases c<;>simp[ba,cells]
end
section
variable {A:Ad}{S:St}{p:Str×Fin 3}{M M':MH}{b:Addr}
theorem oK(wh:Wd M b (cells A S))(hz:p.1∈A.N):Pm M (A.L p) (S.D p) p.1 6 (S.m p):=⟨wh.at' (sC hz),wh.at' (ajO hz)⟩
theorem gw(wh:Wd M b (cells A S))(hz:p.1∈A.N){s:Mst}{d:Addr}(P:Pm M' (A.L p) d p.1 6 s)(F:Fr M M' [A.L p,S.D p])(hd:d=S.D p\/M d=none):Wd M' b (cells A {S with m:=up S.m p s,D:=up S.D p d}):=by
 rw[<- afx hz];have w1:∃ M1,Wd M1 b (ba (ba (cells A S) (.s p) (A.L p,.ins aa (flm p.1 6 s d))) (.d p) (d,.dic (bt (ri s.L)))):=by
  rcases hd with hd | hd
  .subst hd;exact⟨_,(wh.set (.ins aa (flm p.1 6 s (S.D p))) (sC hz)).set (c:=.d p) (p:=S.D p) (o:=.dic (bt (ri (S.m p).L))) _ (by simp[ba,cells,hz])⟩
  .refine⟨_,(wh.set (.ins aa (flm p.1 6 s d)) (sC hz)).new (.d p) _ ?_⟩;rw[ah (bN (wh.at' (sC hz)) hd).symm];exact hd
 obtain⟨M1,W1⟩:=w1;refine⟨λ {c q o} e=>?_,W1.inj,F.bag wh.bg ?_,W1.nb⟩
 .unfold ba at e
  split at e
  .cases e;exact P.hd
  .rename_i n1
   split at e
   .cases e;exact P.hs
   .rename_i n2
    refine F q o (wh.at' e) ?_;have h1:=wh.ne e (sC hz) n2;have h2:=wh.ne e (ajO hz) n1;simp[h1,h2]
 .have h1:=wh.nb (sC hz);have h2:=wh.nb (ajO hz);simp[Ne.symm h1,Ne.symm h2]
end
def ac2:TSd:=aV (cH (ajt (dOp (aeL false) (bj ak "kept" aq (dOp bZ (ag 2) (ag 5)) (ab (ag 6) ay)) (dC (.d .none))) (dOp adn (dOp bZ (bj ak "kept" aq (dOp bZ (ag 2) (ag 5)) (ab (ag 6) ay)) (dI 2)) (dOp bZ (ag 8) (dI 2)))) (gN 9)) <| dIf (aT (dOp qm (bj ak "hear" aO (dOp bZ (ag 2) (ag 5)) (ab (ag 8) ay)) (ag 9))) (cm (dC (.d (.bool false)))) (bL)
def aaz:TSd:=aV (dt (bj aa "take" aH (dOp bZ (cA (ag 1) (ag 6)) (ag 5)) (ab (ag 8) ay))) <| dIf (ady (aT (dOp fL (ag 5) (dI 0))) (aT (dOp aa5 (dOp bZ (ag 8) (dI 1)) (yn (ag 3) (m9 (ab (ag 6) (ab (dOp bZ (ag 8) (dI 0)) ay))) (dI 0))))) (aV (qL (ag 3) (ab (ag 6) (ab (dOp bZ (ag 8) (dI 0)) ay)) (dOp bZ (ag 8) (dI 1))) <| dt (bj aa "take" aH (dOp bZ (cA (ag 1) (ag 6)) (dI 2)) (ab (ag 8) ay))) (bL)
def ail:TSd:=dIf (aT (dOp fL (ag 7) (dS "beat"))) ac2 aaz
def alb:TSd:=j4 (bU (bj ao "come" bC (dOp bZ (ag 0) (ag 5)) (ab (ag 4) ay))) (gT 2 (aD (gN 6) (aD (gT 2 (aD (gN 7) (aD (gN 8) fc))) fc))) ail
def vq:TSd:=aV (j4 (p8 (ab (dI 2) ay)) (gN 5) alb) <|
  cm (dC (.d (.bool true)))
theorem xm:lp bC aq aO aH=vq:=rfl
def jx:Bool->Fin 3
 | false=>0
 | true=>1
def ik:Bool->Int
 | false=>0
 | true=>1
def wl(S:St)(k:Bool):Wl:=⟨λ z=>S.m (z,jx k),λ z=>hv (S.K k) (S.f k) z⟩
def akS(b:ke):Prop:=cp 5 (btD b)=true/\dE (btD b)=true
def adP(z:Str):Th->Prop
 | .sheet _ t r q=>oi r/\(q.length<=4/\∀ d∈q,ab5 d)/\1<=t/\t<=1000
 | .beat b=>b.name=z/\akS b
def Th.w:Th->Str
 | .sheet _ _ _ _ => "sheet"
 | .beat _ => "beat"
def Th.v:Th->PyData
 | .sheet l t r q=>dj l t r q
 | .beat b=>btD b
theorem Th.eD(h:Th):h.D=.tuple [.str h.w,h.v]:=by cases h<;>rfl
structure Mid(A:Ad)(S:St):Prop where
 ok:∀ p:Str×Fin 3,p.1∈A.N->OkS (S.m p)
 hb:∀ k z b,hv (S.K k) (S.f k) z=some b->akS b
 kn:∀ k,(S.K k).Nodup/\∀ z∈S.K k,z∈A.N
 fz:S.fz=none
 fr:S.fr=false
theorem adq:∀ {K N:List Str},K.Nodup->(∀ z∈K,z∈N)->K.length<=N.length
 | [],_,_,_=>Nat.zero_le _
 | z::K,N,h,s=>by obtain⟨h1,h2⟩:=List.nodup_cons.mp h;have hz:=s z (by simp);have:=adq (N:=N.erase z) h2 λ y hy=>(List.mem_erase_of_ne (λ e:y=z=>h1 (e ▸ hy))).mpr (s y (by simp[hy]));rw[List.length_erase_of_mem hz] at this;have:=List.length_pos_of_mem hz;simp only[List.length_cons];omega
theorem aeg{f:Str×Fin 3->Mst}{z:Str}{j:Fin 3}{v:Mst}:(λ y=>up f (z,j) v (y,j))=cG (λ y=>f (y,j)) z v:=by
 funext y;unfold cG
 by_cases e:y=z
 .subst e;rw[if_pos rfl,iP]
 .rw[if_neg e,iA (λ q=>e (Prod.mk.inj q).1)]
theorem dv{f:Str×Fin 3->Mst}{z y:Str}{i j:Fin 3}{v:Mst}(h:i≠j):up f (z,j) v (y,i)=f (y,i):=iA λ q=>h (Prod.mk.inj q).2
def Thd(S:St):Prop:=(∀ z,S.m (z,2)=S.m (z,0))/\∀ z l w,eV S.T [.inr z,.inl l]=some w->∃ v:Int,w=.d (.int v)/\Dn (S.m (z,0)) l v
def Oth(k:Bool)(S S':St):Prop:=wl S' (!k)=wl S (!k)/\S'.a=S.a/\S'.b=S.b/\S'.c=S.c/\S'.ms=S.ms/\(k=true->S'.T=S.T/\∀ z,S'.m (z,2)=S.m (z,2))
theorem Oth.refl(k:Bool)(S:St):Oth k S S:=⟨rfl,rfl,rfl,rfl,rfl,λ _=>⟨rfl,λ _=>rfl⟩⟩
theorem Oth.trans{k:Bool}{S T U:St}(h:Oth k S T)(g:Oth k T U):Oth k S U:=by obtain⟨h1,h2,h3,h4,h5,h6⟩:=h;obtain⟨g1,g2,g3,g4,g5,g6⟩:=g;exact⟨g1.trans h1,g2.trans h2,g3.trans h3,g4.trans h4,g5.trans h5,λ e=>⟨(g6 e).1.trans (h6 e).1,λ z=>((g6 e).2 z).trans ((h6 e).2 z)⟩⟩
section
variable {A:Ad}{S:St}{z:Str}{M:MH}{b:Addr}{D:Ed}
theorem aaG{Q:QD}{p:Str×Fin 3}{l t:Int}{r:List Mc}{q:List PyData}(wh:Wd M b (cells A S))(Md:Mid A S)(hz:p.1∈A.N)(hr:oi r)(hq:q.length<=4/\∀ d∈q,ab5 d)(t1:1<=t/\t<=1000)
  (k:∀ v D' M',Wd M' b (cells A {S with m:=up S.m p (cE (S.m p) l t r q),D:=D'})->Mid A {S with m:=up S.m p (cE (S.m p) l t r q),D:=D'}->Q (.d (.bool v)) M'):aH [.m (A.L p),.d (dj l t r q)] M Q:=by
 have h6:=hr.len;refine⟨A.L p,S.D p,p.1,6,S.m p,l,t,r,q,rfl,oK wh hz,yP hr.asc,by omega,λ x hx=>(hr.ok x hx).2,λ ht=>?_,λ ht d' M' hd' P F=>?_⟩
 .have e:cE (S.m p) l t r q=S.m p:=by unfold cE;rw[ht,if_neg ft0]
  have e2:({S with m:=up S.m p (cE (S.m p) l t r q),D:=S.D}:St)=S:=by rw[e,fe]
  exact k false S.D M (by rw[e2];exact wh) (by rw[e2];exact Md)
 .have e:cE (S.m p) l t r q={S.m p with sheet:=t,L:=fR (S.m p).L r,lz:=q}:=by unfold cE;rw[ht,if_pos rfl]
  refine k true (up S.D p d') M' (by rw[e];exact gw wh hz P (F.mono (by simp)) (.inr hd')) ⟨λ u hu=>?_,Md.hb,Md.kn,Md.fz,Md.fr⟩;show OkS (up S.m p (cE (S.m p) l t r q) u)
  by_cases eu:u=p
  .subst eu;rw[iP,e];exact(Md.ok u hz).take hr hq ht (by omega) (by omega)
  .rw[iA eu];exact Md.ok u hu
def TB(A:Ad)(t:Nat)(k:Bool)(x6 x7 x8 x9:Option W):DS:=[some (.m A.rs),some (.m A.th),some (.m A.hs),some (.m A.e),some (.d (.int (t:Nat))),some (.d (.int (ik k))),x6,x7,x8,x9]
abbrev sW(z:Str):Option W:=some (.d (.str z))
theorem afO(A:Ad)(z:Str)(k:Bool):atI (lsW A z) (ik k)=some (.m (A.L (z,jx k))):=by cases k<;>rfl
theorem aeF(A:Ad)(k:Bool):atI [W.m (A.hh false),.m (A.hh true)] (ik k)=some (.m (A.hh k)):=by cases k<;>rfl
theorem aeX(A:Ad)(k:Bool):atI (rsW A) (ik k)=some (.m (A.r k)):=by cases k<;>rfl
theorem aj1{s:Mst}{l t v:Int}(h:Dn s l v)(le:t<=v):Dn s l t:=by
 rcases h with h | ⟨h,h2 | h2⟩
 .exact .inl h
 .exact .inr ⟨h,.inl h2⟩
 .exact .inr ⟨h,.inr (by omega)⟩
theorem yj{k:Bool}{t:Nat}{x:Msg}{l tu:Int}{r:List Mc}{q:List PyData}{x9:Option W}(eh:x.h=.sheet l tu r q)(wh:Wd M b (cells A S))(Md:Mid A S)(hz:x.z∈A.N)(ho:adP x.z x.h)(g:Good (wl S k) x)(hT:S.T.length<=900000)(t3:k=false->Thd S)
  (kk:∀ S' M',Wd M' b (cells A S')->Mid A S'->wl S' k=stp (wl S k) x->Oth k S S'->(k=false->Thd S')->S'.T.length<=S.T.length+1->D.nx (TB A t k (sW x.z) (sW "sheet") (some (.d (dj l tu r q))) x9) M'):aaz D (TB A t k (sW x.z) (sW "sheet") (some (.d (dj l tu r q))) x9) M:=by
 have sl:=s16;rw[eh] at ho;obtain⟨hr,hq,t1,t2⟩:=ho;have gl:=g l tu r q eh;refine⟨_,rfl,_,rfl,A.th,_,.inr x.z,_,rfl,.inl (wh.at' (c:=.th) rfl),rfl,eR hz,_,rfl,ik k,_,rfl,nB (wh.at' (acG hz Md.fz)) (afO A x.z k),rfl,A.L (x.z,jx k),_,rfl,wh.at' (sC (p:=(x.z,jx k)) hz),yH,_,rfl,?_⟩;dsimp only[ay];refine aaG (p:=(x.z,jx k)) wh Md hz hr hq ⟨t1,t2⟩ λ v D1 M1 W1 Md1=>?_;have e1:wl {S with m:=up S.m (x.z,jx k) (cE (S.m (x.z,jx k)) l tu r q),D:=D1} k=stp (wl S k) x:=by
  unfold stp;rw[eh];show Wl.mk _ _=Wl.mk _ _;congr 1;exact aeg
 generalize hS1:({S with m:=up S.m (x.z,jx k) (cE (S.m (x.z,jx k)) l tu r q),D:=D1}:St)=S1 at W1 Md1 e1;have T1:S1.T=S.T:=by rw[<- hS1]
 refine⟨_,rfl,_,_,.d,.d,rfl,_,rfl,?_⟩;rw[fh];cases k with
 | true =>
  refine jf (jf (kk S1 M1 W1 Md1 e1 ?_ (λ e=>nomatch e) (by rw[T1];omega)));rw[<- hS1];refine⟨?_,rfl,rfl,rfl,rfl,λ _=>⟨rfl,λ z=>dv (by decide)⟩⟩;show Wl.mk _ _=Wl.mk _ _;congr 1;funext y;exact dv (by decide)
 | false =>
  obtain⟨h3,hn⟩:=t3 rfl;have m0:S1.m=up S.m (x.z,0) (cE (S.m (x.z,0)) l tu r q):=by rw[<- hS1];rfl
  have o1:∀ (S':St),(∀ y,S'.m (y,1)=S1.m (y,1))->S'.K=S1.K->S'.f=S1.f->S'.a=S1.a->S'.b=S1.b->S'.c=S1.c->S'.ms=S1.ms->Oth false S S':=by
   intro S' q1 q2 q3 q4 q5 q6 q7;refine⟨?_,by rw[q4,<- hS1],by rw[q5,<- hS1],by rw[q6,<- hS1],by rw[q7,<- hS1],λ e=>nomatch e⟩;show Wl.mk _ _=Wl.mk _ _;have a1:(λ z=>S'.m (z,jx true))=λ z=>S.m (z,jx true):=by
    funext y;show S'.m (y,1)=S.m (y,1);rw[q1,m0];exact dv (by decide)
   have a2:(λ z=>hv (S'.K true) (S'.f true) z)=λ z=>hv (S.K true) (S.f true) z:=by rw[q2,q3,<- hS1]
   exact congr (congrArg Wl.mk a1) a2
  have W1e:=W1.at' (c:=.e) rfl;refine sF ⟨_,rfl,1,_,rfl,rfl,rfl,_,rfl,.t W1e,_,rfl,_,rfl,0,_,rfl,rfl,rfl,_,rfl,(show 2<=sizeLine by omega),_,.t (ks:=[.inr x.z,.inl l]) W1e,?_⟩;rw[T1];have yes:(∀ w,eV S.T [.inr x.z,.inl l]=some w->∃ v:Int,w=.d (.int v)/\v<tu)->aV (qL (ag 3) (ab (ag 6) (ab (dOp bZ (ag 8) (dI 0)) ay)) (dOp bZ (ag 8) (dI 1))) (dt (bj aa "take" aH (dOp bZ (cA (ag 1) (ag 6)) (dI 2)) (ab (ag 8) ay))) D (TB A t false (sW x.z) (sW "sheet") (some (.d (dj l tu r q))) x9) M1:=by
   intro hlt;refine⟨_,rfl,1,_,rfl,rfl,rfl,_,rfl,_,rfl,_,rfl,0,_,rfl,rfl,rfl,A.e,S1.T,[.inr x.z,.inl l],rfl,W1e,rfl,by rw[T1];omega,by simp;omega,?_⟩;have W2:=W1.set (.dct (kG S1.T [.inr x.z,.inl l] (.d (.int tu)))) (c:=.e) (p:=A.e) rfl;rw[af9] at W2;have Md2:Mid A {S1 with T:=kG S1.T [.inr x.z,.inl l] (.d (.int tu))}:=⟨Md1.ok,Md1.hb,Md1.kn,Md1.fz,Md1.fr⟩;refine⟨_,rfl,_,rfl,A.th,_,.inr x.z,_,rfl,.inl (W2.at' (c:=.th) rfl),rfl,eR hz,2,_,rfl,nB (W2.at' (acG hz Md2.fz)) rfl,rfl,A.L (x.z,2),_,rfl,W2.at' (sC (p:=(x.z,2)) hz),yH,_,rfl,?_⟩;dsimp only[ay];refine aaG (p:=(x.z,2)) W2 Md2 hz hr hq ⟨t1,t2⟩ λ v D3 M3 W3 Md3=>?_;have m2:S1.m (x.z,2)=S.m (x.z,0):=by rw[m0,dv (by decide),h3]
   refine kk _ M3 W3 Md3 ?_ (o1 _ ?_ rfl rfl rfl rfl rfl rfl) (λ _=>⟨λ y=>?_,λ y l' w hw=>?_⟩) ?_
   .rw[<- e1];show Wl.mk _ _=Wl.mk _ _;congr 1;funext y;exact dv (by decide)
   .exact λ y=>dv (by decide)
   .show up S1.m (x.z,2) (cE (S1.m (x.z,2)) l tu r q) (y,2)=up S1.m (x.z,2) (cE (S1.m (x.z,2)) l tu r q) (y,0);rw[dv (show(0:Fin 3)≠2 by decide),m2,m0]
    by_cases e:y=x.z
    .subst e;rw[iP,iP]
    .rw[iA (λ q=>e (Prod.mk.inj q).1),iA (λ q=>e (Prod.mk.inj q).1),iA (λ q=>e (Prod.mk.inj q).1)];exact h3 y
   .have hw':eV (kG S1.T [.inr x.z,.inl l] (.d (.int tu))) [.inr y,.inl l']=some w:=hw;show ∃ v:Int,w=.d (.int v)/\Dn (up S1.m (x.z,2) (cE (S1.m (x.z,2)) l tu r q) (y,0)) l' v;rw[dv (show(0:Fin 3)≠2 by decide),m0];rw[aci] at hw'
    split at hw'
    .rename_i e
     have e1:y=x.z:=Sum.inr.inj (List.cons.inj e).1;have e2:l'=l:=Sum.inl.inj (List.cons.inj (List.cons.inj e).2).1;cases hw';subst e1 e2;rw[iP];exact⟨tu,rfl,vQ gl⟩
    .rw[T1] at hw';obtain⟨v,e,dn⟩:=hn y l' w hw';refine⟨v,e,?_⟩
     by_cases ey:y=x.z
     .subst ey;rw[iP];exact aao dn
     .rw[iA (λ q=>ey (Prod.mk.inj q).1)];exact dn
   .show(kG S1.T [.inr x.z,.inl l] (.d (.int tu))).length<=_;have:=aeZ S1.T [.inr x.z,.inl l] (.d (.int tu));rw[T1] at this ⊢;exact this
  have no:(∃ v:Int,eV S.T [.inr x.z,.inl l]=some (.d (.int v))/\tu<=v)->D.nx (TB A t false (sW x.z) (sW "sheet") (some (.d (dj l tu r q))) x9) M1:=by
   rintro⟨v,hv,le⟩;obtain⟨v',ev,dn⟩:=hn x.z l _ hv;cases ev;have e0:cE (S.m (x.z,0)) l tu r q=S.m (x.z,0):=uM (aj1 dn le);have m1:S1.m=S.m:=by rw[m0,e0,fe]
   refine kk S1 M1 W1 Md1 e1 (o1 S1 (λ _=>rfl) rfl rfl rfl rfl rfl rfl) (λ _=>⟨λ y=>by rw[m1];exact h3 y,λ y l' w hw=>by rw[m1];rw[T1] at hw;exact hn y l' w hw⟩) (by rw[T1];omega)
  cases eg:eV S.T [.inr x.z,.inl l] with
  | none =>
   refine⟨_,_,rfl,rfl,_,rfl,?_⟩;exact pq (decide_eq_true (by omega)) (yes λ w hw=>by rw[eg] at hw;cases hw)
  | some w =>
   obtain⟨v,ew,_⟩:=hn x.z l w eg;subst ew;refine⟨_,_,rfl,rfl,_,rfl,?_⟩;refine e9 (λ h=>yes λ w hw=>?_) (λ h=>no ⟨v,eg,?_⟩)
   .rw[eg] at hw;cases hw;exact⟨v,rfl,of_decide_eq_true h⟩
   .have:=of_decide_eq_false h;omega
theorem aby{k:Bool}{t:Nat}{x:Msg}{be:ke}{x9:Option W}(eh:x.h=.beat be)(wh:Wd M b (cells A S))(Md:Mid A S)(hz:x.z∈A.N)(hN:A.N.length<=3)(ho:adP x.z x.h)(t3:k=false->Thd S)
  (kk:∀ S' M' x9,Wd M' b (cells A S')->Mid A S'->wl S' k=stp (wl S k) x->Oth k S S'->(k=false->Thd S')->S'.T.length<=S.T.length+1->D.nx (TB A t k (sW x.z) (sW "beat") (some (.d (btD be))) x9) M'):ac2 D (TB A t k (sW x.z) (sW "beat") (some (.d (btD be))) x9) M:=by
 rw[eh] at ho;obtain⟨hn,hc,hrp⟩:=ho;have hk:=Md.kn k;have hlK:(S.K k).length<=1000:=by have:=adq hk.1 hk.2;omega
 have hcp:cp 5 (oD (hv (S.K k) (S.f k) x.z))=true:=by
  cases e:hv (S.K k) (S.f k) x.z with
  | none=>rfl
  | some y=>exact(Md.hb k _ _ e).1
 have rest:dIf (aT (dOp qm (bj ak "hear" aO (dOp bZ (ag 2) (ag 5)) (ab (ag 8) ay)) (ag 9))) (cm (dC (.d (.bool false)))) bL D (TB A t k (sW x.z) (sW "beat") (some (.d (btD be))) (some (.d (.bool (fM (hv (S.K k) (S.f k) x.z) be.turn))))) M:=by
  refine⟨_,rfl,_,rfl,ik k,_,rfl,nB (wh.at' (c:=.hs) rfl) (aeF A k),rfl,A.hh k,_,rfl,wh.at' (c:=.hh k) rfl,adD,_,rfl,A.hh k,A.hn k,S.K k,S.f k,be,rfl,wh.at' (c:=.hh k) rfl,wh.at' (c:=.hn k) rfl,hc,hlK,λ h=>?_,λ h=>?_⟩
  .rw[hn] at h;refine⟨_,rfl,_,_,.d,.d,rfl,_,rfl,?_⟩;rw[h];refine jf (kk S M _ wh Md ?_ (Oth.refl k S) t3 (by omega));unfold stp;rw[eh];have h':fM ((wl S k).v x.z) be.turn=false:=h;show wl S k=Wl.mk _ _;rw[h',if_neg ft0,mP]
  .rw[hn] at h;refine⟨_,rfl,_,_,.d,.d,rfl,_,rfl,?_⟩;rw[h];have W1:=wh.set (hW (ve (S.K k) be.name) (cG (S.f k) be.name be)) (c:=.hn k) (p:=A.hn k) rfl;rw[ad2] at W1;rw[hn] at W1 ⊢;have hvs:∀ y,hv (ve (S.K k) x.z) (cG (S.f k) x.z be) y=if y=x.z then some be else hv (S.K k) (S.f k) y:=λ y=>ahk;refine jf (kk _ _ _ W1 ⟨Md.ok,λ j y c hy=>?_,λ j=>?_,Md.fz,Md.fr⟩ ?_ ?_ t3 (by show S.T.length<=_;omega))
   .have hy':hv (up S.K k (ve (S.K k) x.z) j) (up S.f k (cG (S.f k) x.z be) j) y=some c:=hy
    by_cases e:j=k
    .subst e;rw[iP,iP,hvs] at hy'
     split at hy'
     .cases hy';exact⟨hc,hrp⟩
     .exact Md.hb _ _ _ hy'
    .rw[iA e,iA e] at hy';exact Md.hb _ _ _ hy'
   .show(up S.K k (ve (S.K k) x.z) j).Nodup/\_
    by_cases e:j=k
    .subst e;simp only[iP];exact⟨afb hk.1,λ y hy=>(qb.mp hy).elim (hk.2 y) λ e=>e ▸ hz⟩
    .simp only[iA e];exact Md.kn j
   .unfold stp;rw[eh];have h':fM ((wl S k).v x.z) be.turn=true:=h;show Wl.mk _ _=Wl.mk _ _;rw[h',if_pos rfl];congr 1;funext y;show hv (up S.K k (ve (S.K k) x.z) k) (up S.f k (cG (S.f k) x.z be) k) y=cG (λ z=>hv (S.K k) (S.f k) z) x.z (some be) y;rw[iP,iP,hvs];rfl
   .refine⟨?_,rfl,rfl,rfl,rfl,λ _=>⟨rfl,λ _=>rfl⟩⟩;show Wl.mk _ _=Wl.mk _ _;congr 1;funext y;show hv (up S.K k (ve (S.K k) x.z) (!k)) (up S.f k (cG (S.f k) x.z be) (!k)) y=_;rw[iA (by cases k<;>decide),iA (by cases k<;>decide)]
 refine⟨_,rfl,_,rfl,ik k,_,rfl,nB (wh.at' (c:=.hs) rfl) (aeF A k),rfl,A.hh k,_,rfl,wh.at' (c:=.hh k) rfl,pO,_,rfl,A.hh k,A.hn k,S.K k,S.f k,x.z,rfl,wh.at' (c:=.hh k) rfl,wh.at' (c:=.hn k) rfl,hcp,rfl,_,rfl,?_⟩;cases e:hv (S.K k) (S.f k) x.z with
 | none =>
  rw[e] at rest;exact sF rest
 | some y =>
  rw[e] at rest hcp;refine jf ⟨_,rfl,_,rfl,ik k,_,rfl,nB (wh.at' (c:=.hs) rfl) (aeF A k),rfl,A.hh k,_,rfl,wh.at' (c:=.hh k) rfl,pO,_,rfl,A.hh k,A.hn k,S.K k,S.f k,x.z,rfl,wh.at' (c:=.hh k) rfl,wh.at' (c:=.hn k) rfl,by rw[e];exact hcp,?_⟩;rw[e];exact⟨2,_,rfl,rfl,rfl,_,rfl,2,_,rfl,rfl,rfl,_,_,rfl,rfl,rest⟩
end
theorem lZ{x:Msg}:∀ (F:List Msg) {w:Wl},Good w x->Good (F.foldl stp w) x
 | [],_,h=>h
 | y::F,_,h=>lZ F (lB h y)
theorem mr{z:Str}{h:Th}:∀ (F:List Msg) {w:Wl},Done w z h->Done (F.foldl stp w) z h
 | [],_,d=>d
 | y::F,_,d=>mr F (sr d y)
theorem uE{x:Msg}:∀ (F:List Msg) {w:Wl},x∈F->Good w x->Done (F.foldl stp w) x.z x.h
 | y::F,w,hx,g=>by
  rcases List.mem_cons.mp hx with e | hx
  .subst e;exact mr F (nQ g)
  .exact uE F hx (lB g y)
theorem rD(z:Str):∀ (F:List Msg) (w:Wl),((F.foldl stp w).m z).life=(w.m z).life
 | [],_=>rfl
 | y::F,w=>(rD z F (stp w y)).trans (vU w y z).1
section
variable {A:Ad}{S:St}{M:MH}{b:Addr}{D:Ed}
theorem aiu{k:Bool}{t:Nat}{x:Msg}{x9:Option W}(wh:Wd M b (cells A S))(Md:Mid A S)(hz:x.z∈A.N)(hN:A.N.length<=3)(ho:adP x.z x.h)(g:Good (wl S k) x)(hT:S.T.length<=900000)(t3:k=false->Thd S)
  (kk:∀ S' M' x9,Wd M' b (cells A S')->Mid A S'->wl S' k=stp (wl S k) x->Oth k S S'->(k=false->Thd S')->S'.T.length<=S.T.length+1->D.nx (TB A t k (sW x.z) (sW x.h.w) (some (.d x.h.v)) x9) M'):ail D (TB A t k (sW x.z) (sW x.h.w) (some (.d x.h.v)) x9) M:=by
 cases eh:x.h with
 | sheet l tu r q =>
  rw[eh] at kk;refine⟨_,rfl,_,_,.d,.d,rfl,_,rfl,?_⟩;rw[show PyData.eqv (.str (Th.sheet l tu r q).w) (.str "beat")=false from by rw[eW];exact decide_eq_false (show ¬ ("sheet" : Str) = "beat" by decide)];exact jf (yj eh wh Md hz ho g hT t3 λ S' M' h1 h2 h3 h4 h5 h6=>kk S' M' x9 h1 h2 h3 h4 h5 h6)
 | beat be =>
  rw[eh] at kk;refine⟨_,rfl,_,_,.d,.d,rfl,_,rfl,?_⟩;rw[show PyData.eqv (.str (Th.beat be).w) (.str "beat")=true from by rw[eW];exact decide_eq_true (show("beat" : Str) = "beat" from rfl)];exact sF (aby eh wh Md hz hN ho t3 kk)
theorem ah4{k:Bool}{t:Nat}{x6 x7 x8 x9:Option W}(wh:Wd M b (cells A S))(Md:Mid A S)(hN:A.N.length<=3)(hm:∀ x∈S.ms k,x.z∈A.N/\adP x.z x.h/\Good (wl S k) x)(hl:(S.ms k).length<=900)(hT:S.T.length<=800000)(t3:k=false->Thd S)
  (kk:∀ (F:List Msg) S' M' x6 x7 x8 x9,Wd M' b (cells A S')->Mid A S'->F.Perm ((S.ms k).filter (due (S.c k) t))->(∀ T:Msg->Msg->Prop,((S.ms k).filter (due (S.c k) t)).Pairwise T->F.Pairwise λ a b=>a.d<b.d\/(a.d=b.d/\T a b))->wl S' k=F.foldl stp (wl S k)->wl S' (!k)=wl S (!k)->S'.a=S.a->S'.b=S.b->S'.c=S.c->S'.ms=up S.ms k ((S.ms k).filter λ m=>!due (S.c k) t m)->(k=true->S'.T=S.T/\∀ z,S'.m (z,2)=S.m (z,2))->(k=false->Thd S')->S'.T.length<=S.T.length+900->D.nx (TB A t k x6 x7 x8 x9) M'):alb D (TB A t k x6 x7 x8 x9) M:=by
 have sl:=s16;refine⟨_,rfl,_,rfl,ik k,_,rfl,nB (wh.at' (agF Md.fr)) (aeX A k),rfl,A.r k,_,rfl,wh.at' (c:=.r k) rfl,akn (x:=A.x k) (y:=A.y k) (z:=A.z k) (g:=S.g k),_,rfl,A.r k,A.x k,A.y k,A.z k,S.g k,A.N,S.c k,S.ms k,t,rfl,wh.at' (c:=.t) rfl,wh.at' (c:=.r k) rfl,wh.at' (c:=.z k) rfl,wh.at' (c:=.g k) rfl,λ m h=>(hm m h).1,by omega,λ F g' M1 pm od hg' hr1 hm1 f1=>?_⟩;have W1:=wh.move (c:=.r k) (d:=.g k) (λ e=>nomatch e) rfl rfl hg' hr1 hm1 f1;rw[agd] at W1;have mem:∀ m∈F,m∈S.ms k:=λ m h=>(List.mem_filter.mp (pm.mem_iff.mp h)).1;have lF:F.length<=900:=by rw[pm.length_eq];exact Nat.le_trans (List.length_filter_le _ _) hl
 have Md1:Mid A {S with g:=up S.g k g',ms:=up S.ms k ((S.ms k).filter λ m=>!due (S.c k) t m)}:=⟨Md.ok,Md.hb,Md.kn,Md.fz,Md.fr⟩;refine⟨_,rfl,λ j τ M'=>j<=F.length/\∃ S' y6 y7 y8 y9,Wd M' b (cells A S')/\Mid A S'/\wl S' k=(F.take j).foldl stp (wl S k)/\Oth k {S with g:=up S.g k g',ms:=up S.ms k ((S.ms k).filter λ m=>!due (S.c k) t m)} S'/\(k=false->Thd S')/\S'.T.length<=S.T.length+j/\τ=TB A t k y6 y7 y8 y9,⟨Nat.zero_le _,_,_,_,_,_,W1,Md1,rfl,Oth.refl _ _,t3,lr0 _,rfl⟩,?_,?_⟩
 .rintro j w τ M2 hw ⟨hj,S2,y6,y7,y8,y9,W2,Md2,ew,ot,h3,lT,rfl⟩;rw[List.map_map] at hw;obtain⟨m,hm',rfl⟩:=dF hw;have hlt:=(List.getElem?_eq_some_iff.mp hm').1;obtain⟨hz,ho,g⟩:=hm m (mem m (List.mem_of_getElem? hm'));have g2:Good (wl S2 k) m:=by rw[ew];exact lZ _ g
  rw[show(W.d ∘ Msg.T) m=.d (.tuple [.str m.z,.tuple [.str m.h.w,m.h.v]]) from by show W.d (.tuple [.str m.z,m.h.D])=_;rw[Th.eD]];refine⟨_,rfl,rfl,_,_,rfl,_,_,rfl,_,rfl,rfl,_,_,rfl,_,_,rfl,rfl,rfl,?_⟩;refine aiu (D:={D with nx:=_,ct:=_,bk:=_}) W2 Md2 hz hN ho g2 (by omega) h3 λ S3 M3 u9 W3 Md3 e3 o3 t4 l3=>⟨hlt,S3,_,_,_,_,W3,Md3,?_,ot.trans o3,t4,by omega,rfl⟩;have ht:F.take (j+1)=F.take j++[m]:=by rw[List.take_succ,hm'];rfl
  rw[e3,ew,ht,List.foldl_append];rfl
 .rintro τ M2 ⟨_,S2,y6,y7,y8,y9,W2,Md2,ew,⟨o1,o2,o3,o4,o5,o6⟩,h3,lT,rfl⟩;have el:(((F.map Msg.T).map W.d)).length=F.length:=by simp
  rw[el,List.take_length] at ew;rw[el] at lT;exact kk F S2 M2 _ _ _ _ W2 Md2 pm od ew o1 o2 o3 o4 o5 o6 h3 (by omega)
end
structure Iv(A:Ad)(S:St)(B:Int)(c:Nat):Prop where
 mid:Mid A S
 eq:wl S true=wl S false
 thd:Thd S
 lf:∀ z∈A.N,1<=(S.m (z,0)).life/\(S.m (z,0)).life<=B
 ac:S.a true=S.a false/\S.c true=S.c false/\S.b true=λ _=>false
 ms:S.ms true=(S.ms false).filter λ x=>!x.u
 od:(S.ms false).Pairwise λ a b=>a.n<b.n
 lt:∀ x∈S.ms false,x.n<c
 th:∀ x∈S.ms false,x.z∈A.N/\adP x.z x.h/\Good (wl S false) x
 du:∀ x∈S.ms false,x.u=true->Done (wl S false) x.z x.h\/∃ y:Msg,y∈S.ms false/\y.u=false/\y.z=x.z/\y.h=x.h/\y.d<x.d
section
variable {A:Ad}{S:St}{M:MH}{b:Addr}{D:Ed}{B:Int}{c:Nat}
theorem qR{p q:Msg->Bool}{L:List Msg}:(L.filter p).filter q=(L.filter q).filter p:=by rw[List.filter_filter,List.filter_filter];exact List.filter_congr λ x _=>Bool.and_comm _ _
theorem abo{t:Nat}{F0 F1:List Msg}(I:Iv A S B c)(p0:F0.Perm ((S.ms false).filter (due (S.c false) t)))(o0:∀ T:Msg->Msg->Prop,((S.ms false).filter (due (S.c false) t)).Pairwise T->F0.Pairwise λ a b=>a.d<b.d\/(a.d=b.d/\T a b))
  (p1:F1.Perm ((S.ms true).filter (due (S.c true) t)))(o1:∀ T:Msg->Msg->Prop,((S.ms true).filter (due (S.c true) t)).Pairwise T->F1.Pairwise λ a b=>a.d<b.d\/(a.d=b.d/\T a b)):F1.foldl stp (wl S false)=F0.foldl stp (wl S false):=by
 rw[I.ac.2.1,I.ms] at p1 o1;have s0:F0.Pairwise Lx:=o0 _ (I.od.filter _);have s1:F1.Pairwise Lx:=o1 _ ((I.od.filter _).filter _);have e1:F1=F0.filter λ x=>!x.u:=by refine zR ?_ s1 (s0.filter _);refine p1.trans ?_;rw[qR];exact(p0.filter _).symm
 rw[e1];refine(rF F0 (wl S false) (λ x hx=>(I.th x (List.mem_filter.mp (p0.mem_iff.mp hx)).1).2.2) λ j x hj hu=>?_).symm;have hx:=List.mem_filter.mp (p0.mem_iff.mp (List.mem_of_getElem? hj));rcases I.du x hx.1 hu with d | ⟨y,hy,_,ez,eh,ed⟩
 .exact .inl d
 .have hyF:y∈F0:=by refine p0.mem_iff.mpr (List.mem_filter.mpr ⟨hy,?_⟩);have h2:=hx.2;unfold due at h2 ⊢;simp only[ae00,decide_eq_true_eq] at h2 ⊢;rw[ez];exact⟨by omega,h2.2⟩
  obtain⟨i,hi,ei⟩:=List.getElem_of_mem hyF;obtain⟨hj',ej⟩:=List.getElem?_eq_some_iff.mp hj;refine .inr ⟨i,y,?_,by rw[List.getElem?_eq_getElem hi,ei],ez,eh⟩;rcases Nat.lt_trichotomy i j with h | h | h
  .exact h
  .subst h;rw[ei] at ej;subst ej;omega
  .have:=(List.pairwise_iff_getElem.mp s0) j i hj' hi h;rw[ei,ej] at this;unfold Lx at this;omega
theorem abl{t:Nat}{x5 x6 x7 x8 x9:Option W}(wh:Wd M b (cells A S))(I:Iv A S B c)(hN:A.N.length<=3)(hl:(S.ms false).length<=900)(hT:S.T.length<=700000)
  (kk:∀ S' M',Wd M' b (cells A S')->Iv A S' B c->(S'.ms false).length<=(S.ms false).length->S'.T.length<=S.T.length+900->D.rt (.d (.bool true)) M'):vq D [some (.m A.rs),some (.m A.th),some (.m A.hs),some (.m A.e),some (.d (.int (t:Nat))),x5,x6,x7,x8,x9] M:=by
 have hl1:(S.ms true).length<=900:=by rw[I.ms];exact Nat.le_trans (List.length_filter_le _ _) hl
 refine⟨2,rfl,by decide,by decide,?_⟩
 let P1:St->Prop:=λ S1=>∃ F0:List Msg,F0.Perm ((S.ms false).filter (due (S.c false) t))/\(∀ T:Msg->Msg->Prop,((S.ms false).filter (due (S.c false) t)).Pairwise T->F0.Pairwise λ a b=>a.d<b.d\/(a.d=b.d/\T a b))/\wl S1 false=F0.foldl stp (wl S false)/\wl S1 true=wl S true/\S1.a=S.a/\S1.b=S.b/\S1.c=S.c/\S1.ms=up S.ms false ((S.ms false).filter λ m=>!due (S.c false) t m)/\Thd S1/\S1.T.length<=S.T.length+900
 let P2:St->Prop:=λ S2=>∃ S1:St,P1 S1/\∃ F1:List Msg,F1.Perm ((S.ms true).filter (due (S.c true) t))/\(∀ T:Msg->Msg->Prop,((S.ms true).filter (due (S.c true) t)).Pairwise T->F1.Pairwise λ a b=>a.d<b.d\/(a.d=b.d/\T a b))/\wl S2 true=F1.foldl stp (wl S true)/\wl S2 false=wl S1 false/\S2.a=S.a/\S2.b=S.b/\S2.c=S.c/\S2.ms=up S1.ms true ((S.ms true).filter λ m=>!due (S.c true) t m)/\S2.T=S1.T/\∀ z,S2.m (z,2)=S1.m (z,2)
 refine⟨λ j τ M'=>∃ S' y5 y6 y7 y8 y9,Wd M' b (cells A S')/\Mid A S'/\(j=0->S'=S)/\(j=1->P1 S')/\(j=2->P2 S')/\τ=[some (.m A.rs),some (.m A.th),some (.m A.hs),some (.m A.e),some (.d (.int (t:Nat))),y5,y6,y7,y8,y9],⟨S,_,_,_,_,_,wh,I.mid,λ _=>rfl,(λ e=>nomatch e),(λ e=>nomatch e),rfl⟩,?_,?_⟩
 .rintro j w τ M1 hw ⟨S1,y5,y6,y7,y8,y9,W1,Md1,h0,h1,h2,rfl⟩;obtain⟨hj,rfl⟩:=nR hw;have hj':j=0\/j=1:=by have:j<2:=hj;omega
  rcases hj' with rfl | rfl
  .have e:=h0 rfl;subst e;exact ah4 (k:=false) (D:={D with nx:=_,ct:=_,bk:=_}) W1 Md1 hN (λ x hx=>I.th x hx) hl (by omega) (λ _=>I.thd) λ F S2 M2 u6 u7 u8 u9 W2 Md2 p o ew eo ea eb ec em _ t3 lT =>
    ⟨S2,_,_,_,_,_,W2,Md2,(λ e=>nomatch e),λ _=>⟨F,p,o,ew,eo,ea,eb,ec,em,t3 rfl,lT⟩,(λ e=>nomatch e),rfl⟩
  .have Q:=h1 rfl;obtain⟨F0,p0,o0,ew,eo,ea,eb,ec,em,t3,lT⟩:=h1 rfl;have em1:S1.ms true=S.ms true:=by rw[em,iA (by decide)]
   refine ah4 (k:=true) (D:={D with nx:=_,ct:=_,bk:=_}) W1 Md1 hN (λ x hx=>?_) (by rw[em1];exact hl1) (by omega) (λ e=>nomatch e) λ F S2 M2 u6 u7 u8 u9 W2 Md2 p o ew2 eo2 ea2 eb2 ec2 em2 h3 _ lT2 =>
    ⟨S2,_,_,_,_,_,W2,Md2,(λ e=>nomatch e),(λ e=>nomatch e),λ _=>⟨S1,Q,F,?_⟩,rfl⟩
   .rw[em1,I.ms] at hx;obtain⟨a1,a2,a3⟩:=I.th x (List.mem_filter.mp hx).1;exact⟨a1,a2,by rw[eo,I.eq];exact a3⟩
   .rw[em1,ec] at p o em2;rw[eo] at ew2;exact⟨p,o,ew2,eo2,ea2.trans ea,eb2.trans eb,ec2.trans ec,em2,(h3 rfl).1,(h3 rfl).2⟩
 .rintro τ M1 ⟨S2,y5,y6,y7,y8,y9,W2,Md2,_,_,h2,rfl⟩;obtain⟨S1,⟨F0,p0,o0,ew,eo,ea,eb,ec,em,t3,lT⟩,F1,p1,o1,ew2,eo2,ea2,eb2,ec2,em2,eT,e3⟩:=h2 rfl;have hw:=abo I p0 o0 p1 o1;have w0:wl S2 false=F0.foldl stp (wl S false):=eo2.trans ew;have w1:wl S2 true=wl S2 false:=by rw[ew2,I.eq,hw,w0]
  have m0:S2.ms false=(S.ms false).filter λ m=>!due (S.c false) t m:=by rw[em2,iA (by decide),em,iP]
  have m1:S2.ms true=(S.ms true).filter λ m=>!due (S.c true) t m:=by rw[em2,iP]
  have mem:∀ x∈S2.ms false,x∈S.ms false:=λ x hx=>by rw[m0] at hx;exact(List.mem_filter.mp hx).1
  have s0:∀ z,S2.m (z,0)=S1.m (z,0):=λ z=>congrArg (λ w:Wl=>w.m z) eo2;have lf0:∀ z,(S2.m (z,0)).life=(S.m (z,0)).life:=λ z=>by have:(S2.m (z,0))=((F0.foldl stp (wl S false)).m z):=congrArg (λ w:Wl=>w.m z) w0;rw[this];exact rD z F0 (wl S false)
  refine kk S2 M1 W2 ⟨Md2,w1,⟨λ z=>by rw[e3,s0,t3.1],λ z l w hw=>by rw[s0];rw[eT] at hw;exact t3.2 z l w hw⟩,λ z hz=>by rw[lf0];exact I.lf z hz,⟨by rw[ea2];exact I.ac.1,by rw[ec2];exact I.ac.2.1,by rw[eb2];exact I.ac.2.2⟩,?_,?_,λ x hx=>I.lt x (mem x hx),λ x hx=>?_,λ x hx hu=>?_⟩ ?_ (by rw[eT];exact lT)
  .rw[m0,m1,I.ms,I.ac.2.1,qR]
  .rw[m0];exact I.od.filter _
  .obtain⟨a1,a2,a3⟩:=I.th x (mem x hx);exact⟨a1,a2,by rw[w0];exact lZ F0 a3⟩
  .rw[w0];rcases I.du x (mem x hx) hu with d | ⟨y,hy,uy,ez,eh,ed⟩
   .exact .inl (mr F0 d)
   .by_cases hd:due (S.c false) t y=true
    .have hyF:y∈F0:=p0.mem_iff.mpr (List.mem_filter.mpr ⟨hy,hd⟩);have:=uE F0 hyF (I.th y hy).2.2;rw[ez,eh] at this;exact .inl this
    .exact .inr ⟨y,by rw[m0];exact List.mem_filter.mpr ⟨hy,by simpa using hd⟩,uy,ez,eh,ed⟩
  .rw[m0];exact List.length_filter_le _ _
end
def bY:SpD:=λ ws M Q=>∃ (b:Addr) (A:Ad) (S:St) (B:Int) (c t:Nat),ws=[.m A.rs,.m A.th,.m A.hs,.m A.e,.d (.int (t:Nat))]/\Wd M b (cells A S)/\Iv A S B c/\A.N.length<=3/\(S.ms false).length<=900/\S.T.length<=700000 /\
 ∀ S' M',Wd M' b (cells A S')->Iv A S' B c->(S'.ms false).length<=(S.ms false).length->S'.T.length<=S.T.length+900->Q (.d (.bool true)) M'
theorem sS:Ln bY 5:=by rintro ws M Q ⟨b,A,S,B,c,t,rfl,_⟩;rfl
theorem sf:Rd bY (lp bC aq aO aH) qI:=by
 rintro ws M Q ⟨b,A,S,B,c,t,rfl,wh,I,hN,hl,hT,k⟩;rw[xm];exact abl wh I hN hl hT k
def m3(m:Str×Fin 3->Mst)(z:Str)(s:Mst)(i:Nat):Str×Fin 3->Mst:=λ p=>if p.1=z/\p.2.val<i then s else m p
theorem alf{m:Str×Fin 3->Mst}{z:Str}{s:Mst}:m3 m z s 0=m:=by funext p;simp[m3]
theorem ait{m:Str×Fin 3->Mst}{z:Str}{s:Mst}{j:Fin 3}:m3 m z s j.val (z,j)=m (z,j):=by simp[m3]
theorem aiN{m:Str×Fin 3->Mst}{z:Str}{s:Mst}{j:Fin 3}:up (m3 m z s j.val) (z,j) s=m3 m z s (j.val+1):=by
 funext p;unfold up m3
 by_cases e:p=(z,j)
 .subst e;simp
 .rw[if_neg e]
  by_cases ez:p.1=z
  .have hj:p.2.val≠j.val:=λ q=>e (Prod.ext ez (Fin.ext q))
   by_cases h:p.2.val<j.val
   .rw[if_pos ⟨ez,h⟩,if_pos ⟨ez,by omega⟩]
   .rw[if_neg (λ q=>h q.2),if_neg (λ q=>by have:=q.2;omega)]
  .rw[if_neg (λ q=>ez q.1),if_neg (λ q=>ez q.1)]
theorem agE{m:Str×Fin 3->Mst}{z:Str}{s:Mst}{j:Fin 3}:m3 m z s 3 (z,j)=s:=if_pos ⟨rfl,j.isLt⟩
theorem agC{m:Str×Fin 3->Mst}{z y:Str}{s:Mst}{j:Fin 3}(h:y≠z):m3 m z s 3 (y,j)=m (y,j):=if_neg λ q=>h q.1
theorem vC{A:Ad}{z:Str}{i:Nat}{w:W}(h:(lsW A z)[i]? =some w):∃ j:Fin 3,j.val=i/\w=.m (A.L (z,j)):=by
 have hi:i<3:=(List.getElem?_eq_some_iff.mp h).1;have:i=0\/i=1\/i=2:=by omega
 rcases this with rfl | rfl | rfl
 .exact⟨0,rfl,(Option.some.inj h).symm⟩
 .exact⟨1,rfl,(Option.some.inj h).symm⟩
 .exact⟨2,rfl,(Option.some.inj h).symm⟩
section
variable {A:Ad}{S:St}{M:MH}{b:Addr}{D:Ed}{B:Int}{c:Nat}{z:Str}
theorem kL{i1 i2:Nat}{te:TD}{fr:List Nat}{ρ τ:DS}{Q:QD}{s s':Mst}{T:Str}(wh:Wd M b (cells A S))(fz:S.fz=none)(hz:z∈A.N)(h1:τ[i1]? =some (some (.m A.th)))(h2:τ[i2]? =some (some (.d (.str z))))(hρ:aa3 1 fr τ=none::ρ)(hs:∀ j,S.m (z,j)=s)
  (step:∀ (S1:St) (j:Fin 3) (M1:MH),Wd M1 b (cells A S1)->S1.m (z,j)=s->∀ R:QD,(∀ D' M2,Wd M2 b (cells A {S1 with m:=up S1.m (z,j) s',D:=D'})->R (.d (.str T)) M2)->te (some (.m (A.L (z,j)))::ρ) M1 R)
  (k:∀ D' M',Wd M' b (cells A {S with m:=m3 S.m z s' 3,D:=D'})->Q (.d (.int 1)) M'):iH (gn (dLC (cw (cA (ag i1) (ag i2))) (gN 0) iJ te 1 fr)) τ M Q:=by
 have sl:=s16;refine⟨A.l z,lsW A z,wh.at' (acG hz fz),?_⟩;have W1:=wh.set (.flst (lsW A z)) (acG hz fz);rw[aaK hz fz] at W1;refine⟨_,h1,_,h2,A.th,_,.inr z,_,rfl,.inl (W1.at' (c:=.th) rfl),rfl,eR hz,A.l z,_,rfl,W1.at' (wX hz rfl),?_⟩;refine⟨λ i acc τ' M'=>i<=3/\acc=List.replicate i (.str T)/\(∃ x,τ'=x::ρ)/\∃ D',Wd M' b (cells A {S with fz:=some z,m:=m3 S.m z s' i,D:=D'}),⟨by decide,rfl,⟨none,hρ⟩,S.D,by rw[alf];exact W1⟩,?_,?_⟩
 .rintro i w acc τ' M' hw ⟨hi,rfl,⟨x,rfl⟩,D1,W2⟩;obtain⟨j,rfl,rfl⟩:=vC hw;refine⟨by rw[List.length_replicate];omega,?_⟩;dsimp only[iJ,gN];rw[if_pos rfl];show te (some (.m (A.L (z,j)))::ρ) M' _;refine step _ j M' W2 (by show m3 S.m z s' j.val (z,j)=s;rw[ait];exact hs j) _ λ D2 M2 W3=>⟨_,rfl,j.isLt,by rw[List.replicate_succ'],⟨_,rfl⟩,D2,?_⟩;rw[<- aiN];exact W3
 .rintro acc τ' M' ⟨_,rfl,_,D1,W2⟩;refine⟨W2.at' (wX hz rfl),[T,T,T],.d,by simp,?_⟩;have W3:=W2.set (.lst (lsW A z)) (wX hz rfl);rw[yR hz rfl] at W3;have e:({S with fz:=none,m:=m3 S.m z s' 3,D:=D1}:St)={S with m:=m3 S.m z s' 3,D:=D1}:=by simp[fz]
  have e2:dnT [T,T,T] [T,T,T].length=1:=by simp[dnT]
  rw[e2];refine k D1 _ ?_;rw[<- e];exact W3
theorem afs{k:Bool}{s':Mst}{D':Str×Fin 3->Addr}:wl {S with m:=m3 S.m z s' 3,D:=D'} k={wl S k with m:=cG (wl S k).m z s'}:=by
 show Wl.mk _ _=Wl.mk _ _;congr 1;funext y;show m3 S.m z s' 3 (y,jx k)=_
 by_cases e:y=z
 .subst e;rw[agE];exact eB.symm
 .rw[agC e];exact(fY (f:=(wl S k).m) (v:=s') e).symm
theorem Iv.all(I:Iv A S B c)(j:Fin 3):S.m (z,j)=S.m (z,0):=by
 have h1:S.m (z,1)=S.m (z,0):=congrArg (λ w:Wl=>w.m z) I.eq
 match j with
 | 0=>rfl
 | 1=>exact h1
 | 2=>exact I.thd.1 z
theorem Iv.ajv(I:Iv A S B c){s':Mst}{B':Int}{D':Str×Fin 3->Addr}(ok:OkS s')(l1:(S.m (z,0)).life<=s'.life)(l2:s'.life<=B')(hB:B<=B')(dn:∀ l t,Dn (S.m (z,0)) l t->Dn s' l t):Iv A {S with m:=m3 S.m z s' 3,D:=D'} B' c:=by
 have w0:∀ y h,Done (wl S false) y h->Done (wl {S with m:=m3 S.m z s' 3,D:=D'} false) y h:=by
  intro y h d;rw[afs];cases h with
  | sheet l t r q =>
   show Dn (cG (wl S false).m z s' y) l t
   by_cases e:y=z
   .subst e;rw[eB];exact dn l t d
   .rw[fY e];exact d
  | beat be=>exact d
 have lfe:∀ y,(S.m (y,0)).life<=(m3 S.m z s' 3 (y,0)).life:=λ y=>by
  by_cases e:y=z
  .subst e;rw[agE];exact l1
  .rw[agC e];omega
 refine⟨⟨λ p hp=>?_,I.mid.hb,I.mid.kn,I.mid.fz,I.mid.fr⟩,by rw[afs,afs,I.eq],⟨λ y=>?_,λ y l w hw=>?_⟩,λ y hy=>?_,I.ac,I.ms,I.od,I.lt,λ x hx=>?_,λ x hx hu=>?_⟩
 .show OkS (m3 S.m z s' 3 p);unfold m3
  split
  .exact ok
  .exact I.mid.ok p hp
 .show m3 S.m z s' 3 (y,2)=m3 S.m z s' 3 (y,0)
  by_cases e:y=z
  .subst e;rw[agE,agE]
  .rw[agC e,agC e];exact I.thd.1 y
 .obtain⟨v,ev,d⟩:=I.thd.2 y l w hw;refine⟨v,ev,?_⟩;show Dn (m3 S.m z s' 3 (y,0)) l v
  by_cases e:y=z
  .subst e;rw[agE];exact dn l v d
  .rw[agC e];exact d
 .obtain⟨a1,a2⟩:=I.lf y hy;show 1<=(m3 S.m z s' 3 (y,0)).life/\(m3 S.m z s' 3 (y,0)).life<=B'
  by_cases e:y=z
  .subst e;rw[agE];exact⟨by omega,l2⟩
  .rw[agC e];exact⟨a1,by omega⟩
 .obtain⟨a1,a2,a3⟩:=I.th x hx;refine⟨a1,a2,λ l t r q e=>?_⟩;have h1:l<=(S.m (x.z,0)).life:=a3 l t r q e;exact Int.le_trans h1 (lfe x.z)
 .rcases I.du x hx hu with d | h
  .exact .inl (w0 _ _ d)
  .exact .inr h
end
def kH(s:Mst):Mst:=if s.up=true then {s with up:=false,L:=[],lz:=[]} else s
section
variable {A:Ad}{S:St}{M:MH}{b:Addr}{D:Ed}{B:Int}{c:Nat}{z:Str}
theorem afH{s:Mst}{l t:Int}(h:Dn s l t):Dn (kH s) l t:=by
 unfold kH
 split
 .rcases h with h | ⟨h,_⟩
  .exact .inl h
  .exact .inr ⟨h,.inl rfl⟩
 .exact h
theorem adR{s:Mst}{l t:Int}(h:Dn s l t):Dn (dM s) l t:=by
 unfold dM
 split
 .exact h
 .rename_i u
  rcases h with h | ⟨h,_⟩
  .exact .inl (by show l<s.life+1;omega)
  .exact .inl (by show l<s.life+1;omega)
theorem Iv.road(I:Iv A S B c){a:Bool->Str->Nat}{e f:Bool->Str->Bool}(h1:a true=a false)(h2:f true=f false)(h3:e true=λ _=>false):Iv A {S with a:=a,b:=e,c:=f} B c:=⟨⟨I.mid.ok,I.mid.hb,I.mid.kn,I.mid.fz,I.mid.fr⟩,I.eq,I.thd,I.lf,⟨h1,h2,h3⟩,I.ms,I.od,I.lt,I.th,I.du⟩
theorem Iv.up(I:Iv A S B c){B':Int}(h:B<=B'):Iv A S B' c:=⟨I.mid,I.eq,I.thd,λ z hz=>by have:=I.lf z hz;omega,I.ac,I.ms,I.od,I.lt,I.th,I.du⟩
theorem pf:PyData.eqv (.int 1) (.int 1)=true:=by rw[fh];rfl
theorem aiV{A:Ad}{i:Nat}{w:W}(h:(rsW A)[i]? =some w):∃ k:Bool,i=(if k then 1 else 0)/\w=.m (A.r k):=by
 have hi:i<2:=(List.getElem?_eq_some_iff.mp h).1;have:i=0\/i=1:=by omega
 rcases this with rfl | rfl
 .exact⟨false,rfl,(Option.some.inj h).symm⟩
 .exact⟨true,rfl,(Option.some.inj h).symm⟩
end
def bJ:SpD:=λ ws M Q=>∃ (b:Addr) (A:Ad) (S:St) (B:Int) (c:Nat) (z:Str),ws=[.m b,.m A.rs,.m A.th,.d (.str z)]/\Wd M b (cells A S)/\Iv A S B c/\z∈A.N/\A.N.length<=3/\B<=999999 /\
 ∀ S' M',Wd M' b (cells A S')->Iv A S' (B+1) c->S'.ms=S.ms->S'.T=S.T->Q (.d (.bool true)) M'
theorem qt:Ln bJ 4:=by rintro ws M Q ⟨b,A,S,B,c,z,rfl,_⟩;rfl
theorem p4:Rd bJ (nJ av br aI bu bO cg bQ bI) oq:=by
 rintro ws M Q ⟨b,A,S,B,c,z,rfl,wh,I,hz,hN,hB,k⟩;have sl:=s16;refine⟨_,rfl,b,14,rfl,wh.bg,by decide,by decide,λ w M1 _ _ bg1 f1=>?_⟩;have W1:=wh.take bg1 f1;refine⟨_,rfl,b,3,rfl,W1.bg,by decide,by decide,λ v M2 v0 v1 bg2 f2=>?_⟩;have W2:=W1.take bg2 f2;refine⟨_,rfl,b,2,rfl,W2.bg,by decide,by decide,λ y M3 y0 y1 bg3 f3=>⟨_,_,.d,.d,rfl,?_⟩⟩;have W3:=W2.take bg3 f3;refine⟨_,rfl,b,12,rfl,W3.bg,by decide,by decide,λ n M4 n0 n1 bg4 f4=>.inl ⟨_,_,rfl,rfl,rfl,(show 3<=sizeLine by omega),_,_,rfl,_,_,rfl,_,_,rfl,rfl,?_⟩⟩;have W4:=W3.take bg4 f4;clear W1 W2 W3 bg1 bg2 bg3 bg4 f1 f2 f3 f4 wh;obtain⟨nv,rfl⟩:=Int.eq_ofNat_of_zero_le v0;have ok:=I.mid.ok (z,0) hz;obtain⟨l1,l2⟩:=I.lf z hz;have l6:=ok.len;have nd:=yP ok.asc;generalize hyes:PyData.eqv (.int y) (.int 0)=yes;refine⟨_,rfl,_,_,.d,.d,rfl,_,rfl,e9 (λ _=>?_) (λ _=>⟨_,rfl,_,_,rfl,rfl,_,rfl,e9 (λ _=>?_) (λ _=>⟨_,rfl,_,_,rfl,rfl,_,rfl,e9 (λ _=>?_) (λ _=>?_)⟩)⟩)⟩
 .dsimp only[cm,dOp];refine kL (i1:=2) (i2:=3) (ρ:=[]) (s:=S.m (z,0)) (s':=kH (S.m (z,0))) (T:=(PyData.bool (S.m (z,0)).up).shown) W4 I.mid.fz hz rfl rfl rfl I.all (λ S1 j M1 Ws es R h=>?_) λ D' M' W'=>⟨_,_,.d,.d,rfl,?_⟩
  .refine⟨_,rfl,A.L (z,j),_,rfl,Ws.at' (sC (p:=(z,j)) hz),aeR,A.L (z,j),S1.D (z,j),z,6,S1.m (z,j),rfl,oK (p:=(z,j)) Ws hz,λ hu=>?_,λ hu d' M2 hd' P F=>?_⟩
   .rw[es] at hu;refine⟨_,.bool _,rfl,.d,je _,?_⟩;have e:({S1 with m:=up S1.m (z,j) (kH (S.m (z,0))),D:=S1.D}:St)=S1:=by
     have:kH (S.m (z,0))=S1.m (z,j):=by rw[es];unfold kH;rw[hu,if_neg ft0]
     rw[this,fe]
    rw[<- hu];exact h S1.D M1 (by rw[e];exact Ws)
   .rw[es] at hu;refine⟨_,.bool _,rfl,.d,je _,?_⟩;rw[<- hu];refine h (up S1.D (z,j) d') M2 ?_;have e:kH (S.m (z,0))={S1.m (z,j) with up:=false,L:=[],lz:=[]}:=by rw[es];unfold kH;rw[hu,if_pos rfl]
    rw[e];exact gw (p:=(z,j)) Ws hz P (F.mono (by simp)) (.inr hd')
  .rw[pf];refine k _ M' W' (I.ajv ?_ ?_ ?_ (by omega) λ l t=>afH) rfl rfl
   .unfold kH;split
    .exact ok.agG
    .exact ok
   .unfold kH;split<;>exact Int.le_refl _
   .have:(kH (S.m (z,0))).life=(S.m (z,0)).life:=by unfold kH;split<;>rfl
    rw[this];omega
 .dsimp only[cm,dOp];refine kL (i1:=2) (i2:=3) (ρ:=[]) (s:=S.m (z,0)) (s':=dM (S.m (z,0))) (T:=(PyData.bool (!(S.m (z,0)).up)).shown) W4 I.mid.fz hz rfl rfl rfl I.all (λ S1 j M1 Ws es R h=>?_) λ D' M' W'=>⟨_,_,.d,.d,rfl,?_⟩
  .refine⟨_,rfl,A.L (z,j),_,rfl,Ws.at' (sC (p:=(z,j)) hz),yK,A.L (z,j),S1.D (z,j),z,6,S1.m (z,j),rfl,oK (p:=(z,j)) Ws hz,λ M2 P F=>?_⟩;refine⟨_,.bool _,rfl,.d,je _,?_⟩;rw[es] at P ⊢;exact h _ M2 (gw (p:=(z,j)) Ws hz P (F.mono (by simp)) (.inl rfl))
  .rw[pf];refine k _ M' W' (I.ajv (ok.rise (by omega)) ?_ ?_ (by omega) λ l t=>adR) rfl rfl
   .unfold dM;split
    .exact Int.le_refl _
    .show _<=(S.m (z,0)).life+1;omega
   .unfold dM;split
    .omega
    .show(S.m (z,0)).life+1<=_;omega
 .dsimp only[cm,dOp];refine kL (i1:=2) (i2:=3) (ρ:=[some (.d (.int (1+n)))]) (s:=S.m (z,0)) (s':={S.m (z,0) with L:=nA (S.m (z,0)).L (1+n)}) (T:=(PyData.bool (yT (S.m (z,0)).L (1+n))).shown) W4 I.mid.fz hz rfl rfl rfl I.all (λ S1 j M1 Ws es R h=>?_) λ D' M' W'=>⟨_,_,.d,.d,rfl,?_⟩
  .refine⟨_,rfl,A.L (z,j),_,rfl,Ws.at' (sC (p:=(z,j)) hz),ae1,_,rfl,A.L (z,j),S1.D (z,j),z,6,S1.m (z,j),1+n,rfl,oK (p:=(z,j)) Ws hz,by rw[es];exact nd,by rw[es];omega,λ M2 P F=>?_⟩;refine⟨_,.bool _,rfl,.d,je _,?_⟩;rw[es] at P ⊢;exact h _ M2 (gw (p:=(z,j)) Ws hz P (F.mono (by simp)) (.inl rfl))
  .rw[pf];exact k _ M' W' (I.ajv (ok.fail _) (Int.le_refl _) (by show(S.m (z,0)).life<=_;omega) (by omega) λ l t h=>h) rfl rfl
 .let ga:(Str->Nat)->Str->Nat:=λ f=>if w<7 then cG f z nv else f
  let gc:(Str->Bool)->Str->Bool:=λ f=>if w<7 then f else if w=7 then cG f z true else if w<10 then cG f z false else f
  refine⟨A.rs,rsW A,W4.at' (agF I.mid.fr),?_⟩;have W5:=W4.set (.flst (rsW A)) (agF I.mid.fr);rw[acq] at W5;refine⟨_,rfl,A.rs,_,rfl,W5.at' (aeT rfl),?_⟩;refine⟨λ j τ M'=>∃ (a:Bool->Str->Nat) (e:Bool->Str->Bool) (x8:Option W),Wd M' b (cells A {S with fr:=true,a:=a,c:=e})/\(∀ q:Bool,a q=if (if q then 1 else 0)<j then ga (S.a q) else S.a q)/\(∀ q:Bool,e q=if (if q then 1 else 0)<j then gc (S.c q) else S.c q)/\τ=[some (.m b),some (.m A.rs),some (.m A.th),some (.d (.str z)),some (.d (.int w)),some (.d (.int (nv:Nat))),some (.d (.bool yes)),some (.d (.int (1+n))),x8],⟨S.a,S.c,_,W5,λ q=>by simp,λ q=>by simp,rfl⟩,?_,?_⟩
  .rintro j w' τ M5 hw ⟨a,e,x8,W6,ha,he,rfl⟩;obtain⟨q,rfl,rfl⟩:=aiV hw;have stepA:∀ p:Bool,up a q (ga (a q)) p=if (if p then 1 else 0)<(if q then 1 else 0)+1 then ga (S.a p) else S.a p:=λ p=>by
    cases p<;>cases q<;>simp[up,ha]
   have stepE:∀ p:Bool,up e q (gc (e q)) p=if (if p then 1 else 0)<(if q then 1 else 0)+1 then gc (S.c p) else S.c p:=λ p=>by
    cases p<;>cases q<;>simp[up,he]
   have fin:∀ M6,Wd M6 b (cells A {S with fr:=true,a:=up a q (ga (a q)),c:=up e q (gc (e q))})->∃ (a:Bool->Str->Nat) (e:Bool->Str->Bool) (x8:Option W),Wd M6 b (cells A {S with fr:=true,a:=a,c:=e})/\(∀ p:Bool,a p=if (if p then 1 else 0)<(if q then 1 else 0)+1 then ga (S.a p) else S.a p)/\(∀ p:Bool,e p=if (if p then 1 else 0)<(if q then 1 else 0)+1 then gc (S.c p) else S.c p)/\[some (W.m b),some (.m A.rs),some (.m A.th),some (.d (.str z)),some (.d (.int w)),some (.d (.int (nv:Nat))),some (.d (.bool yes)),some (.d (.int (1+n))),some (.m (A.r q))]=[some (.m b),some (.m A.rs),some (.m A.th),some (.d (.str z)),some (.d (.int w)),some (.d (.int (nv:Nat))),some (.d (.bool yes)),some (.d (.int (1+n))),x8]:=λ M6 W=>⟨_,_,_,W,stepA,stepE,rfl⟩;refine⟨_,rfl,_,_,rfl,rfl,_,rfl,e9 (λ h=>?_) (λ h=>⟨_,rfl,_,_,.d,.d,rfl,_,rfl,e9 (λ h2=>?_) (λ h2=>⟨_,rfl,_,_,rfl,rfl,_,rfl,e9 (λ h3=>?_) (λ h3=>?_)⟩)⟩)⟩
   .have hw7:=of_decide_eq_true h;refine⟨_,rfl,A.r q,_,rfl,W6.at' (c:=.r q) rfl,akC (x:=A.x q) (y:=A.y q) (z:=A.z q) (g:=S.g q),_,rfl,_,rfl,A.r q,A.x q,A.y q,A.z q,S.g q,A.N,a q,z,nv,rfl,W6.at' (c:=.r q) rfl,W6.at' (c:=.x q) rfl,hz,by omega,fin _ ?_⟩;have W7:=W6.set (.dic (kf A.N (nW (cG (a q) z nv)))) (c:=.x q) (p:=A.x q) rfl;rw[ae5] at W7;have e1:ga (a q)=cG (a q) z nv:=if_pos hw7;have e2:gc (e q)=e q:=if_pos hw7;rw[e1,e2,fe];exact W7
   .have hw7:¬ w<7:=of_decide_eq_false h;rw[fh] at h2;have hw8:=of_decide_eq_true h2;have e1:ga (a q)=a q:=if_neg hw7;have e2:gc (e q)=cG (e q) z true:=(if_neg hw7).trans (if_pos hw8);refine⟨_,rfl,A.r q,_,rfl,W6.at' (c:=.r q) rfl,akH (x:=A.x q) (y:=A.y q) (z:=A.z q) (g:=S.g q),_,rfl,A.r q,A.x q,A.y q,A.z q,S.g q,A.N,e q,z,rfl,W6.at' (c:=.r q) rfl,W6.at' (c:=.z q) rfl,hz,by omega,fin _ ?_⟩;have W7:=W6.set (.dic (kf A.N (bW (cG (e q) z true)))) (c:=.z q) (p:=A.z q) rfl;rw[xE] at W7;rw[e1,e2,fe];exact W7
   .have hw7:¬ w<7:=of_decide_eq_false h;rw[fh] at h2;have hw8:=of_decide_eq_false h2;have hw9:=of_decide_eq_true h3;have e1:ga (a q)=a q:=if_neg hw7;have e2:gc (e q)=cG (e q) z false:=(if_neg hw7).trans ((if_neg hw8).trans (if_pos hw9));refine⟨_,rfl,A.r q,_,rfl,W6.at' (c:=.r q) rfl,aki (x:=A.x q) (y:=A.y q) (z:=A.z q) (g:=S.g q),_,rfl,A.r q,A.x q,A.y q,A.z q,S.g q,A.N,e q,z,rfl,W6.at' (c:=.r q) rfl,W6.at' (c:=.z q) rfl,hz,by omega,fin _ ?_⟩;have W7:=W6.set (.dic (kf A.N (bW (cG (e q) z false)))) (c:=.z q) (p:=A.z q) rfl;rw[xE] at W7;rw[e1,e2,fe];exact W7
   .have hw7:¬ w<7:=of_decide_eq_false h;rw[fh] at h2;have hw8:=of_decide_eq_false h2;have hw9:¬ w<10:=of_decide_eq_false h3;have e1:ga (a q)=a q:=if_neg hw7;have e2:gc (e q)=e q:=(if_neg hw7).trans ((if_neg hw8).trans (if_neg hw9));refine fin _ ?_;rw[e1,e2,fe,fe];exact W6
  .rintro τ M5 ⟨a,e,x8,W6,ha,he,rfl⟩;have hal:a true=a false:=by rw[ha,ha];simp[I.ac.1]
   have hel:e true=e false:=by rw[he,he];simp[I.ac.2.1]
   refine⟨W6.at' (aeT rfl),?_⟩;have W7:=W6.set (.lst (rsW A)) (aeT rfl);rw[abq] at W7;have eS:({S with fr:=false,a:=a,c:=e}:St)={S with a:=a,c:=e}:=by have:=I.mid.fr;simp[this]
   have W8:Wd (aS M5 A.rs (.lst (rsW A))) b (cells A {S with a:=a,c:=e}):=by rw[<- eS];exact W7
   have fr8:({S with a:=a,c:=e}:St).fr=false:=I.mid.fr;refine⟨_,rfl,_,_,rfl,rfl,_,rfl,e9 (λ h=>?_) (λ h=>?_)⟩
   .refine⟨_,rfl,0,_,rfl,nB (W8.at' (agF fr8)) rfl,rfl,A.r false,_,rfl,W8.at' (c:=.r false) rfl,akt (x:=A.x false) (y:=A.y false) (z:=A.z false) (g:=S.g false),_,rfl,_,rfl,A.r false,A.x false,A.y false,A.z false,S.g false,A.N,S.b false,z,yes,rfl,W8.at' (c:=.r false) rfl,W8.at' (c:=.y false) rfl,hz,by omega,?_⟩;have W9:=W8.set (.dic (kf A.N (bW (cG (S.b false) z yes)))) (c:=.y false) (p:=A.y false) rfl;rw[adW] at W9;exact k _ _ W9 ((I.up (B':=B+1) (by omega)).road hal hel (by rw[iA (by decide)];exact I.ac.2.2)) rfl rfl
   .exact k _ _ W8 ((I.up (B':=B+1) (by omega)).road (e:=S.b) hal hel I.ac.2.2) rfl rfl
def ade:TSd:=cH (dCB ma (ab (ajl (bU (ag 2)) (gN 0) iJ (adX (ab (ag 0) (ab (mU (ab (fZ aa aF (ab (ag 0) (ab (dI 6) ay))) (ab (fZ aa aF (ab (ag 0) (ab (dI 6) ay))) (ab (fZ aa aF (ab (ag 0) (ab (dI 6) ay))) ay)))) ay))) 1 []) ay)) (gN 6)
def afF:TSd:=j4 (bU (ag 2)) (gN 7) (dG (j4 (cw (cA (ag 6) (ag 7))) (gN 8) (dt (bj aa "rise" aI (ag 8) ay))))
def vF:TSd:=dIf (zB (aT (bx bY (ab (ag 3) (ab (ag 6) (ab (ag 4) (ab (ag 5) (ab (ag 9) ay)))))))) (cm (dC (.d (.bool false)))) (bL)
def yO:TSd:=j4 (p8 (ab (bx av (ab (ag 1) (ab (dI 4) ay))) ay)) (gN 10) (dIf (zB (aT (bx bJ (ab (ag 1) (ab (ag 3) (ab (ag 6) (ab (dOp bZ (ag 2) (bx av (ab (ag 1) (ab (dCB aaq (ab (ag 2) ay)) ay)))) ay))))))) (cm (dC (.d (.bool false)))) bL)
def ak4:TSd:=dG (j4 (cw (cA (ag 6) (ag 7))) (gN 8) (dt (bj aa "go_on" aQ (ag 8) ay)))
def ai7:TSd:=cH (dCB aac (ab (dI 1) (ab (dOp abt (bj aa "life" aG (dOp bZ (cA (ag 6) (ag 7)) (dI 0)) ay) (dCB agf (ab (dOp fL (bx av (ab (ag 1) (ab (dI 6) ay))) (dI 0)) ay))) ay))) (gN 11)
def alX:TSd:=cH (bx cc (ab (ag 1) (ab (ag 11) (ab (ag 9) (ab (dI 6) ay))))) (gN 12)
def ac4:TSd:=j4 (p8 (ab (dI 2) ay)) (gN 10) (aV (dt (bj ao "put" bB (dOp bZ (ag 3) (ag 10)) (ab (ag 7) (ab (m9 (ab (dS "sheet") (ab (ag 12) ay))) (ab (ag 9) ay))))) <| dIf (aT (bj aa "stands" aw (dOp bZ (cA (ag 6) (ag 7)) (ag 10)) ay)) (dt (bj ao "put" bB (dOp bZ (ag 3) (ag 10)) (ab (ag 7) (ab (m9 (ab (dS "beat") (ab (bj aa "beat" aE (dOp bZ (cA (ag 6) (ag 7)) (ag 10)) (ab (ag 9) ay)) ay))) (ab (ag 9) ay))))) bL)
def tj:TSd:=dIf (aT (dOp qm (iH (gn (dLC (cw (cA (ag 6) (ag 7))) (gN 0) iJ (bx cq (ab (ag 0) (ab (ag 1) ay))) 1 [9]))) (dI 1))) (cm (dC (.d (.bool false)))) (bL)
def aap:TSd:=dIf (aT (dOp qm (dCB fu (ab (bj ak "kept" aq (dOp bZ (ag 4) (dI 0)) (ab (ag 7) ay)) ay)) (dCB fu (ab (bj ak "kept" aq (dOp bZ (ag 4) (dI 1)) (ab (ag 7) ay)) ay)))) (cm (dC (.d (.bool false)))) (bL)
def uN:TSd:=aV ak4 <| aV ai7 <| aV alX <| aV ac4 <| aV tj aap
def aix:TSd:=
  aV (cH (bx cM (ab (ag 0) ay)) (gN 1)) <|
  aV (cH (dSl (xy (ab (dS "ma") (ab (dS "mb") (ab (dS "mc") ay)))) jE (sP (dOp cX (dI 1) (bx av (ab (ag 1) (ab (dI 3) ay)))))) (gN 2)) <|
  aV (ago 3 4 5 (ab (mU (ab (fZ ao aY (ab (mV (dCB eX (ab (ag 2) ay))) ay)) (ab (fZ ao aY (ab (mV (dCB eX (ab (ag 2) ay))) ay)) ay))) (ab (mU (ab (fZ ak aK ay) (ab (fZ ak aK ay) ay))) (ab ur ay)))) <|
  aV ade <|
  aV afF <|
  aV (j4 (yX (ab (dI 1) (ab (dOp cX (dI 5) (bx av (ab (ag 1) (ab (dI 20) ay)))) ay))) (gN 9)
   (aV vF <| aV yO (j4 (bU (ag 2)) (gN 7) uN))) <|
  cm (dC (.d (.bool true)))
theorem acy:afE cM av aY aK aF aI bY bJ aQ aG cc bB aw aE cq aq=aix:=rfl
def Tau(A:Ad)(b:Addr)(w0:W)(x7 x8 x9 x10 x11 x12:Option W):DS:=[some w0,some (.m b),some (.d (qE A.N)),some (.m A.rs),some (.m A.hs),some (.m A.e),some (.m A.th),x7,x8,x9,x10,x11,x12]
abbrev iW(t:Nat):Option W:=some (.d (.int (t:Nat)))
def sD(z:Str)(s:Mst)(t:Int):ke:=⟨z,s.life,t,s.sheet,s.L.map lQ⟩
theorem xF{z:Str}{s:Mst}{t:Int}(h:s.up=true):pE z s t=btD (sD z s t):=by unfold pE;rw[if_pos h];rfl
theorem agU{z:Str}{s:Mst}{t:Int}(o:OkS s)(j:Nat):cp (j+4) (btD (sD z s t))=true:=by
 have h6:=o.len;have h1:(s.L.map lQ).length<=1000:=by rw[lm];omega
 have h2:(s.L.map lQ).all (cp (j+2))=true:=List.all_eq_true.mpr λ d hd=>by obtain⟨x,_,rfl⟩:=List.mem_map.mp hd;rfl
 have h3:cp (j+3) (.list (s.L.map lQ))=true:=by show(decide (_<=1000)&&_)=true;rw[decide_eq_true h1,h2];rfl
 show(decide ((5:Nat)<=1000)&&List.all [PyData.str z,.int s.life,.int t,.int s.sheet,.list (s.L.map lQ)] (cp (j+3)))=true;simp only[List.all_cons,List.all_nil,h3];rfl
theorem agN{z:Str}{s:Mst}{t:Int}(h:s.up=true)(o:OkS s)(hz:oe z=true/\z.length<=8)(t0:0<=t)(t1:t<=100000000):akS (sD z s t):=by
 have e:=xF (z:=z) (t:=t) h;refine⟨agU o 1,?_⟩
 .rw[<- e];exact kU (k:=3) (by decide) (zf hz.1 o t0 t1) (by have:=uD (nm:=z) (turn:=t) hz.2 o;omega)
theorem akU{l t:Int}{r:List Mc}{q:List PyData}(hr:r.length<=6)(hq:q.length<=4/\∀ d∈q,ab5 d):cp 5 (Th.sheet l t r q).D=true:=by
 have h1:cp 3 (.list (r.map wg))=true:=by
  show(decide (_<=1000)&&_)=true;rw[decide_eq_true (by rw[lm];omega),Bool.true_and];exact List.all_eq_true.mpr λ d hd=>by obtain⟨x,_,rfl⟩:=List.mem_map.mp hd;rfl
 have h2:cp 3 (.list q)=true:=by
  show(decide (_<=1000)&&_)=true;rw[decide_eq_true (by omega),Bool.true_and];exact List.all_eq_true.mpr λ d hd=>by obtain⟨⟨z,t,n,u,rfl⟩,_⟩:=hq.2 d hd;rfl
 have h3:cp 4 (dj l t r q)=true:=by show(decide ((4:Nat)<=1000)&&List.all [PyData.int l,.int t,.list (r.map wg),.list q] (cp 3))=true;simp only[List.all_cons,List.all_nil,h1,h2];rfl
 show(decide ((2:Nat)<=1000)&&List.all [PyData.str "sheet",dj l t r q] (cp 4))=true;simp only[List.all_cons,List.all_nil,h3];rfl
structure ahp(lt:Str->Nat)(db:Str->Bool)(a:Str)(k:Th)(t n:Nat)(L:List Msg):Prop where
 zh:∀ x∈L,x.z=a/\x.h=k/\n<=x.n/\x.n<n+2
 pw:L.Pairwise λ a b=>a.n<b.n
 fl:(L.filter λ x=>!x.u)=news lt (λ _=>false) a k t n
 du:∀ x∈L,x.u=true->∃ y:Msg,y∈L/\y.u=false/\y.z=x.z/\y.h=x.h/\y.d<x.d
 ln:L.length<=2
theorem mL(lt:Str->Nat)(db:Str->Bool)(a:Str)(k:Th)(t n:Nat):ahp lt db a k t n (news lt db a k t n):=by
 by_cases h:db a=true
 .have e:news lt db a k t n=[⟨t+1+lt a,a,k,n,false⟩,⟨t+1+lt a+1,a,k,n+1,true⟩]:=if_pos h;rw[e];refine⟨λ x hx=>?_,?_,rfl,λ x hx hu=>?_,by simp⟩
  .rcases List.mem_cons.mp hx with rfl | hx
   .exact⟨rfl,rfl,lr0 _,by show n<n+2;omega⟩
   .rw[List.mem_singleton.mp hx];exact⟨rfl,rfl,by show n<=n+1;omega,by show n+1<n+2;omega⟩
  .simp
  .rcases List.mem_cons.mp hx with rfl | hx
   .cases hu
   .rw[List.mem_singleton.mp hx];exact⟨_,List.mem_cons_self ..,rfl,rfl,rfl,by show t+1+lt a<t+1+lt a+1;omega⟩
 .have e:news lt db a k t n=[⟨t+1+lt a,a,k,n,false⟩]:=if_neg h;rw[e];refine⟨λ x hx=>?_,by simp,rfl,λ x hx hu=>?_,by simp⟩
  .rw[List.mem_singleton.mp hx];exact⟨rfl,rfl,lr0 _,by show n<n+2;omega⟩
  .rw[List.mem_singleton.mp hx] at hu;cases hu
def nS(S:St)(z:Str)(t c:Nat)(sh:Th)(be:ke)(u:Bool)(q:Bool):List Msg:=news (S.a q) (S.b q) z sh t c++(if u=true then news (S.a q) (S.b q) z (.beat be) t (c+2) else [])
section
variable {A:Ad}{S:St}{M:MH}{b:Addr}{D:Ed}{B:Int}{c t:Nat}{z:Str}{w0:W}{x7 x8 x9 x10 x11 x12:Option W}
theorem ahd{sh:Th}{be:ke}{u q:Bool}:(nS S z t c sh be u q).length<=4:=by
 unfold nS;have h1:=(mL (S.a q) (S.b q) z sh t c).ln;have h2:=(mL (S.a q) (S.b q) z (.beat be) t (c+2)).ln;rw[List.length_append]
 split
 .omega
 .simp;omega
theorem Iv.put(I:Iv A S B c)(hz:z∈A.N){sh:Th}{be:ke}{u:Bool}(o1:adP z sh)(g:∀ l t r q,sh=.sheet l t r q->l<=(S.m (z,0)).life)(o2:u=true->adP z (.beat be)) :
  Iv A {S with ms:=λ q=>S.ms q++nS S z t c sh be u q} B (c+4):=by
 have n1:=mL (S.a false) (S.b false) z sh t c;have n2:=mL (S.a false) (S.b false) z (.beat be) t (c+2);have mem:∀ x∈nS S z t c sh be u false,(x∈news (S.a false) (S.b false) z sh t c)\/(u=true/\x∈news (S.a false) (S.b false) z (.beat be) t (c+2)):=λ x hx=>by
  unfold nS at hx;rcases List.mem_append.mp hx with h | h
  .exact .inl h
  .split at h
   .rename_i hu;exact .inr ⟨hu,h⟩
   .cases h
 have rng:∀ x∈nS S z t c sh be u false,x.z=z/\c<=x.n/\x.n<c+4:=λ x hx=>by
  rcases mem x hx with h | ⟨_,h⟩
  .have:=n1.zh x h;exact⟨this.1,this.2.2.1,by omega⟩
  .have:=n2.zh x h;exact⟨this.1,by omega,by omega⟩
 refine⟨⟨I.mid.ok,I.mid.hb,I.mid.kn,I.mid.fz,I.mid.fr⟩,I.eq,I.thd,I.lf,I.ac,?_,?_,λ x hx=>?_,λ x hx=>?_,λ x hx hu=>?_⟩
 .show S.ms true++nS S z t c sh be u true=(S.ms false++nS S z t c sh be u false).filter λ x=>!x.u;rw[List.filter_append,<- I.ms];congr 1;unfold nS;rw[List.filter_append,n1.fl,I.ac.1,I.ac.2.2];congr 1
  split
  .exact n2.fl.symm
  .rfl
 .refine List.pairwise_append.mpr ⟨I.od,?_,λ x hx y hy=>?_⟩
  .unfold nS;refine List.pairwise_append.mpr ⟨n1.pw,?_,λ x hx y hy=>?_⟩
   .split
    .exact n2.pw
    .exact .nil
   .split at hy
    .have h1:=n1.zh x hx;have h2:=n2.zh y hy;omega
    .cases hy
  .have h1:=I.lt x hx;have h2:=rng y hy;omega
 .rcases List.mem_append.mp hx with h | h
  .have:=I.lt x h;omega
  .exact(rng x h).2.2
 .rcases List.mem_append.mp hx with h | h
  .exact I.th x h
  .rcases mem x h with h | ⟨hu,h⟩
   .obtain⟨e1,e2,_⟩:=n1.zh x h;rw[e1];refine⟨hz,by rw[e2];exact o1,λ l t r q e=>?_⟩;rw[e2] at e;show l<=(S.m (x.z,0)).life;rw[e1];exact g l t r q e
   .obtain⟨e1,e2,_⟩:=n2.zh x h;rw[e1];refine⟨hz,by rw[e2];exact o2 hu,λ l t r q e=>?_⟩;rw[e2] at e;cases e
 .rcases List.mem_append.mp hx with h | h
  .rcases I.du x h hu with d | ⟨y,hy,r⟩
   .exact .inl d
   .exact .inr ⟨y,List.mem_append_left _ hy,r⟩
  .rcases mem x h with h | ⟨h',h⟩
   .obtain⟨y,hy,r⟩:=n1.du x h hu;exact .inr ⟨y,List.mem_append_right _ (List.mem_append_left _ hy),r⟩
   .obtain⟨y,hy,r⟩:=n2.du x h hu;refine .inr ⟨y,List.mem_append_right _ (List.mem_append_right _ ?_),r⟩;rw[if_pos h'];exact hy
theorem vk{body:TSd}{s s':Mst}(wh:Wd M b (cells A S))(fz:S.fz=none)(hz:z∈A.N)(hs:∀ j,S.m (z,j)=s)
  (step:∀ (S1:St) (j:Fin 3) (M1:MH) (D1:Ed),Wd M1 b (cells A S1)->S1.m (z,j)=s->(∀ D' M2,Wd M2 b (cells A {S1 with m:=up S1.m (z,j) s',D:=D'})->D1.nx (Tau A b w0 (sW z) (some (.m (A.L (z,j)))) x9 x10 x11 x12) M2)->body D1 (Tau A b w0 (sW z) (some (.m (A.L (z,j)))) x9 x10 x11 x12) M1)
  (k:∀ D' M' x8,Wd M' b (cells A {S with m:=m3 S.m z s' 3,D:=D'})->D.nx (Tau A b w0 (sW z) x8 x9 x10 x11 x12) M'):dG (j4 (cw (cA (ag 6) (ag 7))) (gN 8) body) D (Tau A b w0 (sW z) x8 x9 x10 x11 x12) M:=by
 refine⟨A.l z,lsW A z,wh.at' (acG hz fz),?_⟩;have W1:=wh.set (.flst (lsW A z)) (acG hz fz);rw[aaK hz fz] at W1;refine⟨_,rfl,_,rfl,A.th,_,.inr z,_,rfl,.inl (W1.at' (c:=.th) rfl),rfl,eR hz,A.l z,_,rfl,W1.at' (wX hz rfl),?_⟩;refine⟨λ i τ' M'=>i<=3/\∃ D' y8,Wd M' b (cells A {S with fz:=some z,m:=m3 S.m z s' i,D:=D'})/\τ'=Tau A b w0 (sW z) y8 x9 x10 x11 x12,⟨by decide,S.D,_,by rw[alf];exact W1,rfl⟩,?_,?_⟩
 .rintro i w τ' M' hw ⟨hi,D1,y8,W2,rfl⟩;obtain⟨j,rfl,rfl⟩:=vC hw;refine step _ j M' _ W2 (by show m3 S.m z s' j.val (z,j)=s;rw[ait];exact hs j) λ D2 M2 W3=>⟨j.isLt,D2,_,?_,rfl⟩;rw[<- aiN];exact W3
 .rintro τ' M' ⟨_,D1,y8,W2,rfl⟩;refine⟨W2.at' (wX hz rfl),?_⟩;have W3:=W2.set (.lst (lsW A z)) (wX hz rfl);rw[yR hz rfl] at W3;have e:({S with fz:=none,m:=m3 S.m z s' 3,D:=D1}:St)={S with m:=m3 S.m z s' 3,D:=D1}:=by simp[fz]
  refine k D1 _ _ ?_;rw[<- e];exact W3
end
section
variable {A:Ad}{S:St}{M:MH}{b:Addr}{D:Ed}{B:Int}{c t:Nat}{z:Str}{w0:W}{x7 x8 x9 x10 x11 x12:Option W}
theorem akm(wh:Wd M b (cells A S))(I:Iv A S B c)(hz:z∈A.N)(k:∀ S' M' x8,Wd M' b (cells A S')->Iv A S' B c->S'.ms=S.ms->S'.T=S.T->D.nx (Tau A b w0 (sW z) x8 x9 x10 x11 x12) M'):ak4 D (Tau A b w0 (sW z) x8 x9 x10 x11 x12) M:=by
 have ok:=I.mid.ok (z,0) hz;obtain⟨l1,l2⟩:=I.lf z hz;have l6:=ok.len;refine vk (s:=S.m (z,0)) (s':={S.m (z,0) with L:=(S.m (z,0)).L.map goC}) wh I.mid.fz hz I.all (λ S1 j M1 D1 Ws es h=>?_) λ D' M' y8 W'=>?_
 .refine⟨_,rfl,A.L (z,j),_,rfl,Ws.at' (sC (p:=(z,j)) hz),acI,A.L (z,j),S1.D (z,j),z,6,S1.m (z,j),rfl,oK (p:=(z,j)) Ws hz,by rw[es];exact yP ok.asc,by rw[es];omega,λ d' M2 hd' P F=>?_⟩;rw[es] at P;exact h _ M2 (gw (p:=(z,j)) Ws hz P (F.mono (by simp)) (.inr hd'))
 .exact k _ M' y8 W' (I.ajv ok.go (Int.le_refl _) l2 (by omega) λ l t h=>h) rfl rfl
theorem aeW{lf:Int}{r:List Mc}{q:List PyData}(wh:Wd M b (cells A S))(I:Iv A S B c)(hz:z∈A.N)(hN:A.N.length<=3)(hA:oe z=true/\z.length<=8)(t1:1<=t)(t2:t<=1000)(hr:oi r)(hq:q.length<=4/\∀ d∈q,ab5 d)(hl:lf<=(S.m (z,0)).life)(hm:(S.ms false).length<=900)
  (k:∀ S' M' x10,Wd M' b (cells A S')->Iv A S' B (c+4)->(S'.ms false).length<=(S.ms false).length+4->S'.T=S.T->D.nx (Tau A b w0 (sW z) x8 (iW t) x10 x11 (some (.d (dj lf t r q)))) M'):ac4 D (Tau A b w0 (sW z) x8 (iW t) x10 x11 (some (.d (dj lf t r q)))) M:=by
 have sl:=s16;have ok:=I.mid.ok (z,0) hz;have hlen:∀ p:Bool,(S.ms p).length<=900:=λ p=>by
  cases p with
  | false=>exact hm
  | true=>rw[I.ms];exact Nat.le_trans (List.length_filter_le _ _) hm
 have h6:=hr.len;have l6:=ok.len;have I2:=I.put (t:=t) (u:=(S.m (z,0)).up) hz (sh:=.sheet lf t r q) (be:=sD z (S.m (z,0)) t) ⟨hr,hq,by omega,by omega⟩ (λ l t' r' q' e=>by cases e;exact hl) λ hu=>⟨rfl,agN hu ok hA (by omega) (by omega)⟩;refine⟨2,rfl,by decide,by decide,?_⟩;refine⟨λ j τ M'=>∃ (ms:Bool->List Msg) (y10:Option W),Wd M' b (cells A {S with ms:=ms})/\(∀ p:Bool,ms p=if (if p then 1 else 0)<j then S.ms p++nS S z t c (.sheet lf t r q) (sD z (S.m (z,0)) t) (S.m (z,0)).up p else S.ms p)/\τ=Tau A b w0 (sW z) x8 (iW t) y10 x11 (some (.d (dj lf t r q))),⟨S.ms,_,wh,λ p=>by simp,rfl⟩,?_,?_⟩
 .rintro j w τ M1 hw ⟨ms,y10,W1,hms,rfl⟩;obtain⟨hj,rfl⟩:=nR hw;obtain⟨p,rfl,ep⟩:∃ p:Bool,j=(if p then 1 else 0)/\(0:Int)+(j:Int)=ik p:=by
   have:j=0\/j=1:=by have:j<2:=hj;omega
   rcases this with rfl | rfl
   .exact⟨false,rfl,rfl⟩
   .exact⟨true,rfl,rfl⟩
  rw[ep];have mp:ms p=S.ms p:=by rw[hms];simp
  have hmp:=hlen p;refine⟨_,rfl,_,rfl,ik p,_,rfl,nB (W1.at' (agF I.mid.fr)) (aeX A p),rfl,A.r p,_,rfl,W1.at' (c:=.r p) rfl,ahF (x:=A.x p) (y:=A.y p) (z:=A.z p) (g:=S.g p),_,rfl,_,rfl,_,rfl,(show 2<=sizeLine by omega),_,rfl,A.r p,A.x p,A.y p,A.z p,S.g p,A.N,S.a p,S.b p,ms p,z,.sheet lf t r q,t,c,rfl,akU h6 hq,W1.at' (c:=.r p) rfl,W1.at' (c:=.x p) rfl,W1.at' (c:=.y p) rfl,W1.at' (c:=.g p) rfl,hz,by rw[mp];omega,?_⟩;have W2:=W1.set (msW (ms p++news (S.a p) (S.b p) z (.sheet lf t r q) t c)) (c:=.g p) (p:=S.g p) rfl;rw[zO] at W2;dsimp only;generalize aS M1 (S.g p) (msW (ms p++news (S.a p) (S.b p) z (.sheet lf t r q) t c))=M2 at W2;have hs:S.m (z,jx p)=S.m (z,0):=I.all _;have P2:=oK (p:=(z,jx p)) W2 hz;have fin:∀ l:List Msg,l=S.ms p++nS S z t c (.sheet lf t r q) (sD z (S.m (z,0)) t) (S.m (z,0)).up p->∀ e:Bool,up ms p l e=if (if e then 1 else 0)<(if p then 1 else 0)+1 then S.ms e++nS S z t c (.sheet lf t r q) (sD z (S.m (z,0)) t) (S.m (z,0)).up e else S.ms e:=λ l hl e=>by subst hl;cases e<;>cases p<;>simp[up,hms]
  refine⟨_,rfl,_,rfl,A.th,_,.inr z,_,rfl,.inl (W2.at' (c:=.th) rfl),rfl,eR hz,_,rfl,ik p,_,rfl,nB (W2.at' (acG hz I.mid.fz)) (afO A z p),rfl,A.L (z,jx p),_,rfl,W2.at' (sC (p:=(z,jx p)) hz),qW,A.L (z,jx p),S.D (z,jx p),z,6,S.m (z,jx p),rfl,P2,_,rfl,e9 (λ hu=>?_) (λ hu=>?_)⟩
  .rw[hs] at hu;refine⟨_,rfl,_,rfl,ik p,_,rfl,nB (W2.at' (agF I.mid.fr)) (aeX A p),rfl,A.r p,_,rfl,W2.at' (c:=.r p) rfl,ahF (x:=A.x p) (y:=A.y p) (z:=A.z p) (g:=S.g p),_,rfl,_,rfl,_,rfl,A.th,_,.inr z,_,rfl,.inl (W2.at' (c:=.th) rfl),rfl,eR hz,_,rfl,ik p,_,rfl,nB (W2.at' (acG hz I.mid.fz)) (afO A z p),rfl,A.L (z,jx p),_,rfl,W2.at' (sC (p:=(z,jx p)) hz),aaB,_,rfl,A.L (z,jx p),S.D (z,jx p),z,6,S.m (z,jx p),(t:Int),rfl,P2,by rw[hs];omega,?_⟩;rw[hs,xF hu];have bo:=agN (z:=z) (t:=(t:Int)) hu ok hA (by omega) (by omega);have bc:cp 5 (Th.beat (sD z (S.m (z,0)) t)).D=true:=by have h5:cp 4 (btD (sD z (S.m (z,0)) t))=true:=agU ok 0;show(decide ((2:Nat)<=1000)&&List.all [PyData.str "beat",btD (sD z (S.m (z,0)) t)] (cp 4))=true;simp only[List.all_cons,List.all_nil,h5];rfl
   refine⟨_,rfl,(show 2<=sizeLine by omega),_,rfl,A.r p,A.x p,A.y p,A.z p,S.g p,A.N,S.a p,S.b p,ms p++news (S.a p) (S.b p) z (.sheet lf t r q) t c,z,.beat (sD z (S.m (z,0)) t),t,c+2,rfl,bc,W2.at' (c:=.r p) rfl,W2.at' (c:=.x p) rfl,W2.at' (c:=.y p) rfl,?_,hz,?_,?_⟩
   .have h3:M2 (S.g p)=some (msW (up ms p (ms p++news (S.a p) (S.b p) z (.sheet lf t r q) t c) p)):=W2.at' (c:=.g p) rfl;rw[iP] at h3;exact h3
   .have:=(mL (S.a p) (S.b p) z (.sheet lf t r q) t c).ln;rw[List.length_append,mp];omega
   have W3:=W2.set (msW (ms p++news (S.a p) (S.b p) z (.sheet lf t r q) t c++news (S.a p) (S.b p) z (.beat (sD z (S.m (z,0)) t)) t (c+2))) (c:=.g p) (p:=S.g p) rfl;rw[zO] at W3;refine⟨_,_,W3,?_,rfl⟩;have eu:up (up ms p (ms p++news (S.a p) (S.b p) z (.sheet lf t r q) t c)) p (ms p++news (S.a p) (S.b p) z (.sheet lf t r q) t c++news (S.a p) (S.b p) z (.beat (sD z (S.m (z,0)) t)) t (c+2))=up ms p (ms p++news (S.a p) (S.b p) z (.sheet lf t r q) t c++news (S.a p) (S.b p) z (.beat (sD z (S.m (z,0)) t)) t (c+2)):=by
    funext e;unfold up
    split<;>rfl
   show ∀ e:Bool,up (up ms p _) p _ e=_;rw[eu];refine fin _ ?_;rw[mp,List.append_assoc];unfold nS;rw[hu,if_pos rfl]
  .rw[hs] at hu;refine⟨_,_,W2,fin _ ?_,rfl⟩;rw[mp];unfold nS;rw[hu,if_neg ft0,List.append_nil]
 .rintro τ M1 ⟨ms,y10,W1,hms,rfl⟩;have e:ms=λ p=>S.ms p++nS S z t c (.sheet lf t r q) (sD z (S.m (z,0)) t) (S.m (z,0)).up p:=by
   funext p;rw[hms];cases p<;>rfl
  subst e;refine k _ M1 _ W1 I2 ?_ rfl;have:=ahd (S:=S) (z:=z) (t:=t) (c:=c) (sh:=.sheet lf t r q) (be:=sD z (S.m (z,0)) t) (u:=(S.m (z,0)).up) (q:=false);show(S.ms false++_).length<=_;rw[List.length_append];omega
theorem acE(wh:Wd M b (cells A S))(I:Iv A S B c)(hz:z∈A.N)(hA:oe z=true/\z.length<=8)(t2:t<=1000)(k:∀ D' M',Wd M' b (cells A {S with D:=D'})->D.nx (Tau A b w0 (sW z) x8 (iW t) x10 x11 x12) M'):tj D (Tau A b w0 (sW z) x8 (iW t) x10 x11 x12) M:=by
 have ok:=I.mid.ok (z,0) hz;have em:m3 S.m z (S.m (z,0)) 3=S.m:=by
  funext p;unfold m3
  split
  .rename_i h
   have:p=(z,p.2):=Prod.ext h.1 rfl;rw[this];exact(I.all _).symm
  .rfl
 dsimp only[tj,dIf,aT,dOp];refine kL (i1:=6) (i2:=7) (ρ:=[iW t]) (s:=S.m (z,0)) (s':=S.m (z,0)) (T:=(aaR z (S.m (z,0)) (t:Int)).shown) wh I.mid.fz hz rfl rfl rfl I.all (λ S1 j M1 Ws es R h=>?_) λ D' M' W'=>⟨_,_,.d,.d,rfl,_,rfl,?_⟩
 .refine⟨_,rfl,_,rfl,A.L (z,j),S1.D (z,j),z,6,S1.m (z,j),(t:Int),rfl,oK (p:=(z,j)) Ws hz,by rw[es];exact ok,hA.1,hA.2,by omega,by omega,λ M2 x2=>?_⟩;rw[es];refine h S1.D M2 ?_;rw[<- es,fe];exact Ws.ext x2
 .rw[pf];rw[em] at W';exact jf (k D' M' W')
theorem acr(wh:Wd M b (cells A S))(I:Iv A S B c)(k:D.nx (Tau A b w0 (sW z) x8 x9 x10 x11 x12) M):aap D (Tau A b w0 (sW z) x8 x9 x10 x11 x12) M:=by
 have ev:hv (S.K true) (S.f true) z=hv (S.K false) (S.f false) z:=congrArg (λ w:Wl=>w.v z) I.eq;have ho:cp 5 (oD (hv (S.K false) (S.f false) z))=true/\dE (oD (hv (S.K false) (S.f false) z))=true:=by
  cases e:hv (S.K false) (S.f false) z with
  | none=>exact⟨rfl,kU (k:=1) (by decide) rfl (by show(4:Nat)<=_;decide)⟩
  | some y=>exact I.mid.hb false z y e
 refine⟨_,rfl,0,_,rfl,nB (wh.at' (c:=.hs) rfl) rfl,rfl,A.hh false,_,rfl,wh.at' (c:=.hh false) rfl,pO,_,rfl,A.hh false,A.hn false,S.K false,S.f false,z,rfl,wh.at' (c:=.hh false) rfl,wh.at' (c:=.hn false) rfl,ho.1,_,_,rfl,.d,ho.2,?_⟩;refine⟨_,rfl,1,_,rfl,nB (wh.at' (c:=.hs) rfl) rfl,rfl,A.hh true,_,rfl,wh.at' (c:=.hh true) rfl,pO,_,rfl,A.hh true,A.hn true,S.K true,S.f true,z,rfl,wh.at' (c:=.hh true) rfl,wh.at' (c:=.hn true) rfl,by rw[ev];exact ho.1,_,_,rfl,.d,by rw[ev];exact ho.2,?_⟩;rw[ev];refine⟨_,_,.d,.d,rfl,_,rfl,?_⟩;rw[show PyData.eqv (.str (oD (hv (S.K false) (S.f false) z)).shown) (.str (oD (hv (S.K false) (S.f false) z)).shown)=true from by rw[eW];simp];exact jf k
end
section
variable {A:Ad}{S:St}{M:MH}{b:Addr}{D:Ed}{B:Int}{c t:Nat}{z:Str}{w0:W}{x7 x8 x9 x10 x11 x12:Option W}
theorem af0(wh:Wd M b (cells A S))(I:Iv A S B c)(hz:z∈A.N)(hN:A.N.length<=3)(hA:oe z=true/\z.length<=8)(t1:1<=t)(t2:t<=1000)(hm:(S.ms false).length<=900)
  (k:∀ S' M' x8 x10 x11 x12,Wd M' b (cells A S')->Iv A S' B (c+4)->(S'.ms false).length<=(S.ms false).length+4->S'.T=S.T->D.nx (Tau A b w0 (sW z) x8 (iW t) x10 x11 x12) M'):uN D (Tau A b w0 (sW z) x8 (iW t) x10 x11 x12) M:=by
 refine akm (D:={D with nx:=_}) wh I hz λ S1 M1 y8 W1 I1 m1 T1=>?_;obtain⟨l1,l2⟩:=I1.lf z hz;refine⟨_,rfl,_,rfl,A.th,_,.inr z,_,rfl,.inl (W1.at' (c:=.th) rfl),rfl,eR hz,0,_,rfl,nB (W1.at' (acG hz I1.mid.fz)) rfl,rfl,A.L (z,0),_,rfl,W1.at' (sC (p:=(z,0)) hz),zP,A.L (z,0),S1.D (z,0),z,6,S1.m (z,0),rfl,oK (p:=(z,0)) W1 hz,_,rfl,b,6,rfl,W1.bg,by decide,by decide,λ v M2 v0 v1 bg f=>⟨_,_,.d,.d,rfl,.inr ⟨_,rfl,_,_,rfl,rfl,_,_,rfl,?_⟩⟩⟩;have W2:=W1.take bg f;have hx:(0:Int)<=(if PyData.eqv (.int v) (.int 0)=true then 1 else 0):=by split<;>decide
 generalize (if PyData.eqv (.int v) (.int 0)=true then 1 else 0:Int)=xx at hx;obtain⟨lf,hlf,hle⟩:∃ lf:Int,(if (S1.m (z,0)).life-xx > 1 then (S1.m (z,0)).life-xx else 1)=lf/\lf<=(S1.m (z,0)).life:=⟨_,rfl,by split<;>omega⟩;rw[hlf];refine⟨_,rfl,_,rfl,_,rfl,b,lf,(t:Int),6,rfl,W2.bg,by decide,by decide,by omega,by omega,λ rows lz M4 okR hrl hlz bg4 F4=>?_⟩;have W4:Wd M4 b (cells A S1):=W2.frame bg4 λ q y hq e=>F4 q y e (by simpa using hq);refine aeW (D:={D with nx:=_}) W4 I1 hz hN hA t1 t2 okR hlz hle (by rw[m1];exact hm) λ S3 M5 y10 W5 I5 m5 T5=>?_;refine acE (D:={D with nx:=_}) W5 I5 hz hA t2 λ D' M6 W6=>?_;have I6:Iv A {S3 with D:=D'} B (c+4):=⟨⟨I5.mid.ok,I5.mid.hb,I5.mid.kn,I5.mid.fz,I5.mid.fr⟩,I5.eq,I5.thd,I5.lf,I5.ac,I5.ms,I5.od,I5.lt,I5.th,I5.du⟩;refine acr W6 I6 ?_;exact k _ M6 _ _ _ _ W6 I6 (by rw[m1] at m5;exact m5) (T5.trans T1)
theorem ab9(wh:Wd M b (cells A S))(I:Iv A S B c)(hN:A.N.length<=3)(hA:∀ z∈A.N,oe z=true/\z.length<=8)(t1:1<=t)(t2:t<=1000)(hm:(S.ms false).length<=800)
  (k:∀ S' M' c' x7 x8 x10 x11 x12,Wd M' b (cells A S')->Iv A S' B c'->(S'.ms false).length<=(S.ms false).length+12->S'.T=S.T->D.nx (Tau A b w0 x7 x8 (iW t) x10 x11 x12) M'):j4 (bU (ag 2)) (gN 7) uN D (Tau A b w0 x7 x8 (iW t) x10 x11 x12) M:=by
 refine⟨_,rfl,_,rfl,λ j τ M'=>j<=A.N.length/\∃ S' c' y7 y8 y10 y11 y12,Wd M' b (cells A S')/\Iv A S' B c'/\(S'.ms false).length<=(S.ms false).length+4 * j/\S'.T=S.T/\τ=Tau A b w0 y7 y8 (iW t) y10 y11 y12,⟨Nat.zero_le _,S,c,_,_,_,_,_,wh,I,lr0 _,rfl,rfl⟩,?_,?_⟩
 .rintro j w τ M1 hw ⟨hj,S1,c1,y7,y8,y10,y11,y12,W1,I1,e1,e2,rfl⟩;rw[List.map_map] at hw;obtain⟨z,hz,rfl⟩:=dF hw;have hlt:=(List.getElem?_eq_some_iff.mp hz).1;have hzN:=List.mem_of_getElem? hz;exact af0 (D:={D with nx:=_,ct:=_,bk:=_}) W1 I1 hzN hN (hA z hzN) t1 t2 (by omega) λ S2 M2 u8 u10 u11 u12 W2 I2 e3 e4=>⟨hlt,S2,_,_,_,_,_,_,W2,I2,by omega,e4.trans e2,rfl⟩
 .rintro τ M1 ⟨_,S1,c1,y7,y8,y10,y11,y12,W1,I1,e1,e2,rfl⟩;simp only[lm] at e1;exact k S1 M1 c1 _ _ _ _ _ W1 I1 (by omega) e2
theorem alA(N:List Str)(h:1<=N.length)(r:Int)(h0:0<=r)(h1:r<(N.length:Nat))(M:MH):∃ z,z∈N/\ixW M (.d (qE N)) r=some (.d (.str z)):=by
 obtain⟨i,rfl⟩:∃ i:Nat,r=(i:Int):=⟨r.toNat,by omega⟩;have hi:i<N.length:=by omega
 refine⟨N[i],List.getElem_mem _,?_⟩;show(atI (N.map PyData.str) (i:Int)).map W.d=_;rw[adu (by omega) (by rw[lm];omega)];simp
theorem aej(wh:Wd M b (cells A S))(I:Iv A S B c)(hN1:1<=A.N.length)(hN:A.N.length<=3)(hB:B<=900000)(k:∀ S' M' x10,Wd M' b (cells A S')->Iv A S' (B+3) c->S'.ms=S.ms->S'.T=S.T->D.nx (Tau A b w0 x7 x8 x9 x10 x11 x12) M'):yO D (Tau A b w0 x7 x8 x9 x10 x11 x12) M:=by
 refine⟨_,rfl,b,4,rfl,wh.bg,by decide,by decide,λ v M1 v0 v1 bg f=>⟨_,rfl,by omega,by omega,?_⟩⟩;have W1:=wh.take bg f;refine⟨λ j τ M'=>j<=v.toNat/\∃ S' x,Wd M' b (cells A S')/\Iv A S' (B+(j:Nat)) c/\S'.ms=S.ms/\S'.T=S.T/\τ=Tau A b w0 x7 x8 x9 x x11 x12,⟨Nat.zero_le _,S,_,W1,I.up (by omega),rfl,rfl,rfl⟩,?_,?_⟩
 .rintro j w τ M2 hw ⟨hj,S1,x,W2,I1,e1,e2,rfl⟩;obtain⟨hj',rfl⟩:=nR hw;refine⟨_,rfl,_,rfl,_,rfl,_,rfl,_,rfl,_,rfl,_,_,rfl,rfl,rfl,b,_,rfl,W2.bg,?_,?_,λ r4 M4 q0 q1 bg4 f4=>?_⟩
  .rw[lm];omega
  .rw[lm];omega
  rw[lm] at q1;have W4:=W2.take bg4 f4;obtain⟨one,h1,hx⟩:=alA A.N hN1 r4 q0 q1 M4;refine⟨r4,_,rfl,hx,rfl,b,A,S1,B+(j:Nat),c,one,rfl,W4,I1,h1,hN,by omega,λ S2 M5 W5 I5 e3 e4=>⟨_,rfl,jf ?_⟩⟩;exact⟨hj',S2,_,W5,I5.up (by omega),e3.trans e1,e4.trans e2,rfl⟩
 .rintro τ M2 ⟨_,S1,x,W2,I1,e1,e2,rfl⟩;refine k S1 M2 _ W2 (I1.up ?_) e1 e2;simp only[lY,lm,List.length_range];omega
def Jv(A:Ad)(S:St)(i:Nat):Prop:=(∃ c,Iv A S (3+3 * (i:Int)) c)/\(S.ms false).length<=12 * i/\S.T.length<=900 * i
theorem afC{i:Nat}(wh:Wd M b (cells A S))(J:Jv A S i)(hi:i<=30)(hN1:1<=A.N.length)(hN:A.N.length<=3)(hA:∀ z∈A.N,oe z=true/\z.length<=8)
  (k:∀ S' M' x7 x8 x10 x11 x12,Wd M' b (cells A S')->Jv A S' (i+1)->D.nx (Tau A b w0 x7 x8 (iW (i+1)) x10 x11 x12) M'):(aV vF <| aV yO (j4 (bU (ag 2)) (gN 7) uN)) D (Tau A b w0 x7 x8 (iW (i+1)) x10 x11 x12) M:=by
 obtain⟨⟨c,I⟩,L,T⟩:=J;refine⟨_,rfl,_,rfl,_,rfl,_,rfl,_,rfl,b,A,S,_,c,i+1,rfl,wh,I,hN,by omega,by omega,λ S1 M1 W1 I1 l1 T1=>⟨_,rfl,jf ?_⟩⟩;refine aej (D:={D with nx:=_}) W1 I1 hN1 hN (by omega) λ S2 M2 y10 W2 I2 l2 T2=>?_;refine ab9 W2 I2 hN hA (by omega) (by omega) (by rw[l2];omega) λ S3 M3 c3 u7 u8 u10 u11 u12 W3 I3 l3 T3=>k S3 M3 _ _ _ _ _ W3 ⟨⟨c3,I3.up (by omega)⟩,by rw[l2] at l3;omega,by rw[T3,T2];omega⟩
end
def dh:Ro->Option (Addr×MO)
 | .t=>some (ax,cdC)
 | _=>none
theorem ahT{M:MH}{b:Addr}(bg:Bag M b)(hC:M ax=some cdC)(cb:ax≠b):Wd M b dh:=by
 refine⟨λ {c p o} e=>?_,λ {c c' p o o'} e e'=>?_,bg,λ {c p o} e=>?_⟩
 .cases c<;>first | (cases e;exact hC) | cases e
 .cases c<;>cases c'<;>first | rfl | (cases e;done) | (cases e';done)
 .cases c<;>first | (cases e;exact cb) | cases e
abbrev CR(C:Ro->Option (Addr×MO))(k:Bool)(r x y z g:Addr)(N:List Str):Ro->Option (Addr×MO):=
 ba (ba (ba (ba (ba C (.r k) (r,.ins ao (FR x y z g))) (.x k) (x,.dic (kf N (nW λ _=>0)))) (.y k) (y,.dic (kf N (bW λ _=>false)))) (.z k) (z,.dic (kf N (bW λ _=>false)))) (.g k) (g,.lst [])
theorem uV{M M':MH}{b r x y z g:Addr}{C:Ro->Option (Addr×MO)}{N:List Str}(k:Bool)(wh:Wd M b C)(hr0:M r=none)(fr:aS M r (.ins ao []) x=none/\aS M r (.ins ao []) y=none/\aS M r (.ins ao []) z=none/\aS M r (.ins ao []) g=none)(nd:[x,y,z,g].Nodup)
  (hr:M' r=some (.ins ao (FR x y z g)))(hx:M' x=some (.dic (kf N (nW λ _=>0))))(hy:M' y=some (.dic (kf N (bW λ _=>false))))(hz:M' z=some (.dic (kf N (bW λ _=>false))))(hg:M' g=some (.lst []))(f:∀ b o,b≠r->aS M r (.ins ao []) b=some o->M' b=some o):Wd M' b (CR C k r x y z g N):=by
 obtain⟨fx,fy,fz,fg⟩:=fr;simp only[List.nodup_cons,List.mem_cons,List.not_mem_nil,or_false,not_or,List.nodup_nil,and_true,not_false_eq_true] at nd;obtain⟨⟨n1,n2,n3⟩,⟨n4,n5⟩,n6⟩:=nd;have W0:Wd M' b C:=wh.ext λ q o e=>f q o (bN e hr0) (cC e hr0);have nw:∀ {q:Addr},M q=none->∀ {d:Ro} {v:Addr} {u:MO},C d=some (v,u)->v≠q:=by intro q hq d v u e';exact bN (wh.at' e') hq
 have nb:∀ {q:Addr},M q=none->q≠b:=λ hq e=>ly wh.bg (by rw[<- e];exact hq);have mx:=az fx;have my:=az fy;have mz:=az fz;have mg:=az fg;have rx:=(bR fx).symm;have ry:=(bR fy).symm;have rz:=(bR fz).symm;have rg:=(bR fg).symm;have W1:=W0.add (.r k) hr (nw hr0) (nb hr0);have W2:=W1.add (.x k) hx (de (nw mx) rx) (nb mx);have W3:=W2.add (.y k) hy (de (de (nw my) ry) n1) (nb my);have W4:=W3.add (.z k) hz (de (de (de (nw mz) rz) n2) n4) (nb mz);exact W4.add (.g k) hg (de (de (de (de (nw mg) rg) n3) n5) n6) (nb mg)
theorem uL{M M':MH}{b h d:Addr}{C:Ro->Option (Addr×MO)}(k:Bool)(wh:Wd M b C)(hh0:M h=none)(hd0:aS M h (.ins ak []) d=none)(hh:M' h=some (.ins ak (acb d)))(hd:M' d=some (.dic []))(f:∀ q,q≠h->q≠d->M' q=aS M h (.ins ak []) q):Wd M' b (ba (ba C (.hh k) (h,.ins ak (acb d))) (.hn k) (d,.dic [])):=by
 have md:=az hd0;have W0:Wd M' b C:=wh.ext λ q o e=>by rw[f q (bN e hh0) (bN e md),ah (bN e hh0)];exact e
 have nw:∀ {q:Addr},M q=none->∀ {d:Ro} {v:Addr} {u:MO},C d=some (v,u)->v≠q:=by intro q hq d v u e';exact bN (wh.at' e') hq
 have nb:∀ {q:Addr},M q=none->q≠b:=λ hq e=>ly wh.bg (by rw[<- e];exact hq);have W1:=W0.add (.hh k) hh (nw hh0) (nb hh0);exact W1.add (.hn k) hd (de (nw md) (bR hd0).symm) (nb md)
def bG(C:Ro->Option (Addr×MO))(l:Str->Addr)(L D0:Str×Fin 3->Addr)(N:List Str):Ro->Option (Addr×MO)
 | .l z=>if z∈N then some (l z,.lst [.m (L (z,0)),.m (L (z,1)),.m (L (z,2))]) else none
 | .s p=>if p.1∈N then some (L p,.ins aa (flm p.1 6 st0 (D0 p))) else none
 | .d p=>if p.1∈N then some (D0 p,.dic (bt (ri st0.L))) else none
 | c=>C c
theorem oX{M M':MH}{b s d:Addr}{C:Ro->Option (Addr×MO)}{p:Str×Fin 3}(wh:Wd M b C)(hs:M s=none)(hd:aS M s (.ins aa []) d=none)(P:Pm M' s d p.1 6 st0)(F:Fr (aS M s (.ins aa [])) M' [s]):Wd M' b (ba (ba C (.s p) (s,.ins aa (flm p.1 6 st0 d))) (.d p) (d,.dic (bt (ri st0.L)))):=by
 have n:d≠s:=λ e=>by rw[e,af] at hd;cases hd
 have hd':aS M s (.ins aa (flm p.1 6 st0 d)) d=none:=by rw[ah n] at hd ⊢;exact hd
 have W1:=(wh.new (.s p) (.ins aa (flm p.1 6 st0 d)) hs).new (.d p) (.dic (bt (ri st0.L))) hd';have sb:s≠b:=λ e=>ly wh.bg (by rw[<- e];exact hs);refine⟨λ {c q o} e=>?_,W1.inj,F.bag ((wh.ext (Ext.new hs)).bg) (by simpa using sb.symm),W1.nb⟩;unfold ba at e
 split at e
 .cases e;exact P.hd
 .split at e
  .cases e;exact P.hs
  .have h1:=wh.at' e;have h2:=bN h1 hs;exact F q o (by rw[ah h2];exact h1) (by simpa using h2)
theorem sM{M M':MH}{s:Addr}{o:MO}(hs:M s=none)(F:Fr (aS M s o) M' [s]):Ext M M':=λ q u e=>F q u (by rw[ah (bN e hs)];exact e) (by simpa using bN e hs)
abbrev up3(L:Str×Fin 3->Addr)(z:Str)(a b c:Addr):Str×Fin 3->Addr:=up (up (up L (z,0) a) (z,1) b) (z,2) c
theorem w5{C:Ro->Option (Addr×MO)}{l:Str->Addr}{L D0:Str×Fin 3->Addr}{N:List Str}{z:Str}{p s0 d0 s1 d1 s2 d2:Addr}(h:z ∉ N) :
  ba (ba (ba (ba (ba (ba (ba (bG C l L D0 N) (.s (z,0)) (s0,.ins aa (flm z 6 st0 d0))) (.d (z,0)) (d0,.dic (bt (ri st0.L)))) (.s (z,1)) (s1,.ins aa (flm z 6 st0 d1))) (.d (z,1)) (d1,.dic (bt (ri st0.L)))) (.s (z,2)) (s2,.ins aa (flm z 6 st0 d2))) (.d (z,2)) (d2,.dic (bt (ri st0.L)))) (.l z) (p,.lst [.m s0,.m s1,.m s2])=bG C (cG l z p) (up3 L z s0 s1 s2) (up3 D0 z d0 d1 d2) (N++[z]):=by
 funext c;cases c with
 | l y =>
  by_cases e:y=z
  .subst e;simp[ba,bG,cG,up]
  .simp[ba,bG,cG,up,e]
 | s q =>
  obtain⟨y,j⟩:=q
  by_cases e:y=z
  .subst e
   match j with
   | 0=>simp[ba,bG,up]
   | 1=>simp[ba,bG,up]
   | 2=>simp[ba,bG,up]
  .simp[ba,bG,up,e]
 | d q =>
  obtain⟨y,j⟩:=q
  by_cases e:y=z
  .subst e
   match j with
   | 0=>simp[ba,bG,up]
   | 1=>simp[ba,bG,up]
   | 2=>simp[ba,bG,up]
  .simp[ba,bG,up,e]
 | _=>simp[ba,bG]
theorem aaX{α β:Type}{R:α->β->Prop}{a:α}{b:β}:∀ {as:List α} {bs:List β},Paired R as bs->R a b->Paired R (as++[a]) (bs++[b])
 | _,_,.nil,h=>.cons h .nil
 | _,_,.cons r t,h=>.cons r (aaX t h)
theorem adE{N:List Str}{C:Ro->Option (Addr×MO)}{M:MH}{b:Addr}{D:Ed}{τ:DS}(wh:Wd M b C)(hC:∀ z,C (.l z)=none/\∀ j,C (.s (z,j))=none/\C (.d (z,j))=none)(nd:N.Nodup)(hl:N.length<=60)(hv:τ[2]? =some (some (.d (qE N))))
  (k:∀ h l L D0 M',Wd M' b (ba (bG C l L D0 N) .th (h,.dic (kf N λ z=>.m (l z))))->D.nx (τ.set 6 (some (.m h))) M'):ade D τ M:=by
 have sl:=s16;refine⟨_,hv,_,rfl,?_⟩;refine⟨λ i acc τ' M'=>i<=N.length/\acc.length=i/\∃ (l:Str->Addr) (L D0:Str×Fin 3->Addr),Wd M' b (bG C l L D0 (N.take i))/\Paired (λ(r:W) (kw:Key×W)=>∃ q,r=.m q/\M' q=some (.tup [.d (qq kw.1),kw.2])) acc ((N.take i).map λ z=>((.inr z:Key),W.m (l z)))/\∃ x,τ'=[x],⟨Nat.zero_le _,rfl,λ _=>0,λ _=>0,λ _=>0,?_,.nil,_,rfl⟩,?_,?_⟩
 .have:bG C (λ _=>0) (λ _=>0) (λ _=>0) (N.take 0)=C:=by
   funext d;cases d with
   | l z=>simp[bG,(hC z).1]
   | s p=>simp[bG,((hC p.1).2 p.2).1]
   | d p=>simp[bG,((hC p.1).2 p.2).2]
   | _=>rfl
  rw[this];exact wh
 .rintro i w acc τ' M' hw ⟨hi,ha,l,L,D0,W1,pr,x,rfl⟩;rw[List.map_map] at hw;obtain⟨z,hz,rfl⟩:=dF hw;have hi':=(List.getElem?_eq_some_iff.mp hz).1;have nz:=um nd hz;have ht:N.take (i+1)=N.take i++[z]:=by rw[List.take_succ,hz];rfl
  refine⟨by omega,_,rfl,_,rfl,λ s0 h0=>⟨s0,z,6,rfl,af,λ d0 M2 g0 P0 F0=>⟨rfl,?_⟩⟩⟩;have W2:=oX (p:=(z,0)) W1 h0 g0 P0 F0;refine⟨_,rfl,λ s1 h1=>⟨s1,z,6,rfl,af,λ d1 M3 g1 P1 F1=>⟨rfl,?_⟩⟩⟩;have W3:=oX (p:=(z,1)) W2 h1 g1 P1 F1;refine⟨_,rfl,λ s2 h2=>⟨s2,z,6,rfl,af,λ d2 M4 g2 P2 F2=>⟨rfl,?_⟩⟩⟩;have W4:=oX (p:=(z,2)) W3 h2 g2 P2 F2;refine⟨(show 3<=sizeLine by omega),λ p hp=>⟨(show 2<=sizeLine by omega),λ u hu=>⟨hi',by rw[List.length_append,List.length_singleton,ha],cG l z p,up3 L z s0 s1 s2,up3 D0 z d0 d1 d2,?_,?_,_,rfl⟩⟩⟩
  .have W5:=(W4.new (.l z) (.lst [.m s0,.m s1,.m s2]) hp).ext (Ext.new (o:=.tup [.d (.str z),.m p]) hu);rw[w5 nz,<- ht] at W5;exact W5
  .rw[ht,List.map_append];refine aaX ?_ ⟨u,rfl,?_⟩
   .have e1:((N.take i).map λ y=>((.inr y:Key),W.m (cG l z p y)))=(N.take i).map λ y=>((.inr y:Key),W.m (l y)):=List.map_congr_left λ y hy=>by rw[fY (λ e:y=z=>nz (e ▸ hy))]
    rw[e1];exact Paired.fD pr λ r kw ⟨v,e,hv'⟩=>⟨v,e,cC (cC (sM h2 F2 _ _ (sM h1 F1 _ _ (sM h0 F0 _ _ hv'))) hp) hu⟩
   .rw[af];show _=some (MO.tup [.d (.str z),.m (cG l z p z)]);rw[eB];rfl
 .rintro acc τ' M' ⟨_,ha,l,L,D0,W1,pr,x,rfl⟩;have et:N.take ((N.map PyData.str).map W.d).length=N:=List.take_of_length_le (by simp);rw[et] at W1 pr;intro p hp;refine⟨p,acc,N.map λ z=>(.inr z,.m (l z)),rfl,af,Paired.fD pr λ r kw ⟨u,e,hu⟩=>⟨u,e,cC hu hp⟩,?_,λ h hh=>k h l L D0 _ ?_⟩
  .rw[List.map_map];exact List.pairwise_map.mpr (nd.imp λ h e=>h (Sum.inr.inj e))
  .exact(W1.ext (Ext.new hp)).new .th _ hh
theorem aiG:OkS (dM st0)/\OkS st0:=by have h:OkS st0:=⟨.nil,by decide,λ c hc=>(by cases hc),by decide,by decide,λ _=>⟨rfl,rfl⟩,λ d hd=>(by cases hd),by decide⟩;exact⟨h.rise (by decide),h⟩
abbrev full:List Str:=["ma", "mb", "mc"]
theorem ae9:∀ z∈full,oe z=true/\z.length<=8:=by decide +kernel
def mQ:SpD:=λ ws M Q=>∃ ns:List Int,ws=[.d (.list (ns.map PyData.int))]/\ns.length<=63/\M ax=some cdC/\∀ M',Q (.d (.bool true)) M'
theorem ad3:Ln mQ 1:=by rintro ws M Q ⟨d,rfl,_⟩;rfl
theorem acB:∀ ns:List Int,ns.length<=63->mQ [.d (.list (ns.map PyData.int))] (M1T ax c6 ⟨177,77,177,103⟩) (λ w _=>w=.d (.bool true)):=λ ns h=>⟨ns,rfl,h,if_pos rfl,λ _=>rfl⟩
theorem abH:Rd mQ (afE cM av aY aK aF aI bY bJ aQ aG cc bB aw aE cq aq) ag0:=by
 rintro ws M Q ⟨ns,rfl,hl,hC,k⟩;have sl:=s16;rw[acy];refine⟨_,rfl,ns,rfl,by omega,λ b M1 hb0 f1 bg1=>?_⟩;have cb:ax≠b:=bN hC hb0;have C1:M1 ax=some cdC:=by rw[f1 _ cb];exact hC
 refine⟨_,rfl,(show 3<=sizeLine by omega),_,rfl,b,3,rfl,bg1,by decide,by decide,λ r3 M3 r30 r31 bg3 f3=>?_⟩;have C3:M3 ax=some cdC:=by rw[f3 _ cb];exact C1
 obtain⟨n,rfl⟩:∃ n:Nat,r3=(n:Int):=⟨r3.toNat,by omega⟩;refine .inl ⟨_,_,rfl,rfl,_,rfl,_,rfl,rfl,?_⟩;have e1:(1:Int)+(n:Int)=((1+n:Nat):Int):=by omega
 have e2:D.cutD [PyData.str "ma",PyData.str "mb",PyData.str "mc"] none (some ((1:Int)+(n:Int)))=(full.take (1+n)).map PyData.str:=by rw[e1];show D.cutD (full.map PyData.str) none _=_;rw[ab8 (by show 1+n<=3;omega),List.map_take]
 dsimp only;rw[e2];have fnd:full.Nodup:=by decide
 have hN1:1<=(full.take (1+n)).length:=by rw[List.length_take];show 1<=min (1+n) 3;omega
 have hN2:(full.take (1+n)).length<=3:=by rw[List.length_take];show min (1+n) 3<=3;omega
 have hNd:(full.take (1+n)).Nodup:=fnd.sublist (List.take_sublist _ _);have hNa:∀ z∈full.take (1+n),oe z=true/\z.length<=8:=λ z hz=>ae9 z (List.mem_of_mem_take hz);generalize full.take (1+n)=N at hN1 hN2 hNd hNa;have W3:=ahT bg3 C3 cb;refine⟨_,rfl,_,_,rfl,.l,λ p hp=>⟨p,N.map PyData.str,rfl,af,λ r0 hr0=>?_⟩⟩;have x4:Ext M3 (sG (aS M3 p (.lst ((N.map PyData.str).map W.d))) p):=sealed hp;generalize sG (aS M3 p (.lst ((N.map PyData.str).map W.d))) p=M4 at x4 hr0;refine⟨N,r0,rfl,hNd,by omega,af,λ x0 y0 z0 g0 M5 fr0 nd0 hr5 hx5 hy5 hz5 hg5 f5=>⟨rfl,?_⟩⟩;have W5:=uV false (W3.ext x4) hr0 fr0 nd0 hr5 hx5 hy5 hz5 hg5 f5;refine⟨_,rfl,_,_,rfl,.l,λ p' hp'=>⟨p',N.map PyData.str,rfl,af,λ r1 hr1=>?_⟩⟩;have x6:Ext M5 (sG (aS M5 p' (.lst ((N.map PyData.str).map W.d))) p'):=sealed hp';generalize sG (aS M5 p' (.lst ((N.map PyData.str).map W.d))) p'=M6 at x6 hr1;refine⟨N,r1,rfl,hNd,by omega,af,λ x1 y1 z1 g1 M7 fr1 nd1 hr7 hx7 hy7 hz7 hg7 f7=>⟨rfl,?_⟩⟩;have W7:=uV true (W5.ext x6) hr1 fr1 nd1 hr7 hx7 hy7 hz7 hg7 f7;refine⟨(show 2<=sizeLine by omega),λ rs hrs=>?_⟩;have W8:=W7.new .rs (.lst [.m r0,.m r1]) hrs;refine λ h0 hh0=>⟨h0,rfl,af,λ d0 M9 hd0 _ hh9 hd9 f9=>⟨rfl,?_⟩⟩;have W9:=uL false W8 hh0 hd0 hh9 hd9 f9;refine λ h1 hh1=>⟨h1,rfl,af,λ d1 M10 hd1 _ hh10 hd10 f10=>⟨rfl,?_⟩⟩;have W10:=uL true W9 hh1 hd1 hh10 hd10 f10;refine⟨(show 2<=sizeLine by omega),λ hs hhs=>?_⟩;have W11:=W10.new .hs (.lst [.m h0,.m h1]) hhs;refine λ e he=>⟨_,_,_,rfl,?_⟩;have W12:=W11.new .e (.dct []) he;refine adE (D:={nx:=_,rt:=_,bk:=_,ct:=_}) W12 (λ z=>⟨by simp[ba,dh],λ j=>⟨by simp[ba,dh],by simp[ba,dh]⟩⟩) hNd (by omega) rfl λ th l L D0 M13 W13=>?_;obtain⟨A,hA,aN,ars,ahs,ae,ath⟩:∃ A:Ad,Wd M13 b (cells A ⟨λ _ _=>0,λ _ _=>false,λ _ _=>false,λ q=>if q then g1 else g0,λ _=>[],λ _=>st0,D0,λ _=>[],λ _ _=>⟨"",0,0,0,[]⟩,[],none,false⟩)/\A.N=N/\A.rs=rs/\A.hs=hs/\A.e=e/\A.th=th:=by
  refine⟨⟨λ q=>if q then r1 else r0,λ q=>if q then x1 else x0,λ q=>if q then y1 else y0,λ q=>if q then z1 else z0,λ q=>if q then h1 else h0,λ q=>if q then d1 else d0,rs,hs,th,e,l,L,N⟩,?_,rfl,rfl,rfl,rfl,rfl⟩;have eC:∀ C1:Ro->Option (Addr×MO),C1=cells ⟨λ q=>if q then r1 else r0,λ q=>if q then x1 else x0,λ q=>if q then y1 else y0,λ q=>if q then z1 else z0,λ q=>if q then h1 else h0,λ q=>if q then d1 else d0,rs,hs,th,e,l,L,N⟩ ⟨λ _ _=>0,λ _ _=>false,λ _ _=>false,λ q=>if q then g1 else g0,λ _=>[],λ _=>st0,D0,λ _=>[],λ _ _=>⟨"",0,0,0,[]⟩,[],none,false⟩->Wd M13 b C1->Wd M13 b (cells ⟨λ q=>if q then r1 else r0,λ q=>if q then x1 else x0,λ q=>if q then y1 else y0,λ q=>if q then z1 else z0,λ q=>if q then h1 else h0,λ q=>if q then d1 else d0,rs,hs,th,e,l,L,N⟩ ⟨λ _ _=>0,λ _ _=>false,λ _ _=>false,λ q=>if q then g1 else g0,λ _=>[],λ _=>st0,D0,λ _=>[],λ _ _=>⟨"",0,0,0,[]⟩,[],none,false⟩):=λ C1 h W=>h ▸ W;refine eC _ ?_ W13;funext d;cases d with
  | l z=>by_cases q:z∈N<;>simp[ba,cells,bG,dh,q]
  | s p=>by_cases q:p.1∈N<;>simp[ba,cells,bG,dh,q]
  | d p=>by_cases q:p.1∈N<;>simp[ba,cells,bG,dh,q]
  | r q=>cases q<;>simp[ba,cells,bG,dh]
  | x q=>cases q<;>simp[ba,cells,bG,dh]
  | y q=>cases q<;>simp[ba,cells,bG,dh]
  | z q=>cases q<;>simp[ba,cells,bG,dh]
  | g q=>cases q<;>simp[ba,cells,bG,dh]
  | hh q=>cases q<;>simp[ba,cells,bG,dh]
  | hn q=>cases q<;>simp[ba,cells,bG,dh,kf]
  | _=>simp[ba,cells,bG,dh]
 clear W3 W5 W7 W8 W9 W10 W11 W12 W13;subst aN ars ahs ae ath;generalize hS:(⟨λ _ _=>0,λ _ _=>false,λ _ _=>false,λ q=>if q then g1 else g0,λ _=>[],λ _=>st0,D0,λ _=>[],λ _ _=>⟨"",0,0,0,[]⟩,[],none,false⟩:St)=S0 at hA;have sfz:S0.fz=none:=by rw[<- hS]
 have sm:S0.m=λ _=>st0:=by rw[<- hS]
 have e0:(λ p:Str×Fin 3=>if p.1∈A.N.take 0 then dM st0 else st0)=S0.m:=by rw[sm];funext p;simp
 refine⟨_,rfl,_,rfl,λ j τ M'=>j<=A.N.length/\∃ D' y7 y8,Wd M' b (cells A {S0 with m:=λ p=>if p.1∈A.N.take j then dM st0 else st0,D:=D'})/\τ=Tau A b (.d (.list (ns.map PyData.int))) y7 y8 none none none none,⟨Nat.zero_le _,S0.D,_,_,by rw[e0];exact hA,rfl⟩,?_,?_⟩
 .rintro j w τ M14 hw ⟨hj,D1,y7,y8,W1,rfl⟩;rw[List.map_map] at hw;obtain⟨z,hz,rfl⟩:=dF hw;have hlt:=(List.getElem?_eq_some_iff.mp hz).1;have hzN:=List.mem_of_getElem? hz;have nz:=um hNd hz;refine vk (s:=st0) (s':=dM st0) W1 sfz hzN (λ i=>if_neg nz) (λ S1 i M15 D2 Ws es h=>?_) λ D' M15 x8 W'=>⟨hlt,D',_,x8,?_,rfl⟩
  .refine⟨_,rfl,A.L (z,i),_,rfl,Ws.at' (sC (p:=(z,i)) hzN),yK,A.L (z,i),S1.D (z,i),z,6,S1.m (z,i),rfl,oK (p:=(z,i)) Ws hzN,λ M16 P F=>?_⟩;rw[es] at P;exact h _ M16 (gw (p:=(z,i)) Ws hzN P (F.mono (by simp)) (.inl rfl))
  .have em:m3 (λ p:Str×Fin 3=>if p.1∈A.N.take j then dM st0 else st0) z (dM st0) 3=λ p=>if p.1∈A.N.take (j+1) then dM st0 else st0:=by
    have ht:A.N.take (j+1)=A.N.take j++[z]:=by rw[List.take_succ,hz];rfl
    rw[ht];funext p;unfold m3
    by_cases e:p.1=z
    .simp[e,p.2.isLt]
    .simp[e]
   rw[<- em];exact W'
 .rintro τ M14 ⟨_,D1,y7,y8,W1,rfl⟩;have et:A.N.take ((A.N.map PyData.str).map W.d).length=A.N:=List.take_of_length_le (by simp);rw[et] at W1;have I1:Iv A {S0 with m:=λ p=>if p.1∈A.N then dM st0 else st0,D:=D1} 3 0:=by
   rw[<- hS];refine⟨⟨λ p hp=>?_,λ q z c h=>(by simp[hv] at h),λ q=>⟨.nil,λ z hz=>(by cases hz)⟩,rfl,rfl⟩,rfl,⟨λ z=>rfl,λ z l w h=>(by cases h)⟩,λ z hz=>?_,⟨rfl,rfl,rfl⟩,rfl,.nil,λ x hx=>(by cases hx),λ x hx=>(by cases hx),λ x hx=>(by cases hx)⟩
   .show OkS (if p.1∈A.N then dM st0 else st0);rw[if_pos hp];exact aiG.1
   .show 1<=(if z∈A.N then dM st0 else st0).life/\(if z∈A.N then dM st0 else st0).life<=3;rw[if_pos hz]
    decide
  have ms0:S0.ms=λ _=>[]:=by rw[<- hS]
  have T0:S0.T=[]:=by rw[<- hS]
  have J1:Jv A {S0 with m:=λ p=>if p.1∈A.N then dM st0 else st0,D:=D1} 0:=⟨⟨0,I1⟩,by show(S0.ms false).length<=_;rw[ms0];exact lr0 _,by show S0.T.length<=_;rw[T0];exact lr0 _⟩;refine⟨_,rfl,b,20,rfl,W1.bg,by decide,by decide,λ v M15 v0 v1 bg f=>.inl ⟨_,_,rfl,rfl,_,_,rfl,⟨by decide,by decide,by omega,by omega⟩,?_⟩⟩;have W2:=W1.take bg f;refine⟨λ i τ M'=>i<=24/\∃ S x7 x8 x9 x10 x11 x12,Wd M' b (cells A S)/\Jv A S i/\τ=Tau A b (.d (.list (ns.map PyData.int))) x7 x8 x9 x10 x11 x12,⟨by decide,_,_,_,_,_,_,_,W2,J1,rfl⟩,?_,?_⟩
  .rintro i w τ M' hw ⟨hi,S,x7,x8,x9,x10,x11,x12,W3,J,rfl⟩;obtain⟨hi',rfl⟩:=nR hw;have ei:(1:Int)+(i:Int)=((i+1:Nat):Int):=by omega
   rw[ei];exact afC (D:={nx:=_,rt:=_,bk:=_,ct:=_}) W3 J (by omega) hN1 hN2 hNa λ S' M' y7 y8 y10 y11 y12 W4 J4=>⟨by omega,S',_,_,_,_,_,_,W4,J4,rfl⟩
  .rintro τ M' _;exact k _
end K58
namespace K58
open L2 D Stc
abbrev q_0:List Str:=["_law_script"]
abbrev q_1:List Str:=["_law_bag_here", "_law_many"]
abbrev q_2:List Str:=["self", "machines"]
abbrev q_3:List Str:=["self"]
abbrev q_4:List Str:=["self", "name", "berths"]
abbrev q_5:List Str:=["self", "message", "turn"]
abbrev q_6:List Str:=["self", "turn"]
abbrev q_7:List Str:=["self", "machine"]
abbrev q_8:List Str:=["self", "beat"]
abbrev q_9:List Str:=["row"]
abbrev ai9:List Str:=["self", "sheet"]
abbrev ag5:List Str:=["_law_roads", "_law_three", "_law_hearings", "_law_newest", "_law_turn"]
abbrev n9:List Str:=["copy"]
abbrev aa8:List Str:=["self", "number"]
abbrev ahe:List Str:=["self", "machine", "turns"]
abbrev ahC:List Str:=["self", "machine", "yes"]
abbrev ajc:List Str:=["_law_bag_here", "_law_roads", "_law_three", "_law_name"]
abbrev aij:List Str:=["_law_bag_here", "_law_number"]
abbrev ai0:List Str:=["_law_bag_here", "_law_life", "_law_turn", "_law_most"]
abbrev ai5:List Str:=["self", "machine", "thing", "turn"]
abbrev ai4:List Str:=["self", "store", "turn"]
abbrev aim:List Str:=["_law_machine", "_law_turn"]
abbrev aaj:List Str:=["thing"]
def g0{X:Cx}:=o8 (X:=X) acK ah2
def g1{X:Cx}{k:Nat}(h:j5 k X.A):=qT (X:=X) (adC h) ahH
def g2{X:Cx}:=qT (X:=X) ajI aiQ
def g3{X:Cx}:=qT (X:=X) akp ag3
def g4{X:Cx}:=qT (X:=X) akq ai2
def g5{X:Cx}:=xR (X:=X) ah1 adN
def g6{X:Cx}:=xR (X:=X) afR abZ
def g7{X:Cx}:=xR (X:=X) aiB afN
def g8{X:Cx}:=xR (X:=X) ae0 ae2
def g9{X:Cx}:=o8 (X:=X) abh aiz
def g10{X:Cx}:=qT (X:=X) aic afV
def g11{X:Cx}:=o8 (X:=X) jQ rW
def g12{X:Cx}{k:Nat}(h:j5 k X.A):=qT (X:=X) (agP h) adL
def g13{X:Cx}{k:Nat}(h:j5 k X.A):=qT (X:=X) (ag7 h) agk
def g14{X:Cx}:=qT (X:=X) ahJ aeJ
def g15{X:Cx}{k:Nat}(h:j5 k X.A):=o8 (X:=X) (wL h) acm
def g16{X:Cx}:=xR (X:=X) agS agu
def g17{X:Cx}:=o8 (X:=X) sx acn
def g18{X:Cx}:=o8 (X:=X) rh aco
def g19{X:Cx}(h:X.calm=true):=o8 (X:=X) (ub h) wq
def g20{X:Cx}:=o8 (X:=X) zz agY
def g21{X:Cx}(h:X.calm=true):=o8 (X:=X) (xK h) adT
local macro_rules | `(tactic| walk_at "go")=>do let m (s:String):=(s.splitOn " ").toArray.mapM λ s=>`(Lean.Parser.Tactic.SolveByElim.arg| @$(Lean.mkIdent s.toName):ident); let x<-m "dvQ qp cv aaL af7 aca dm cR aak yN agq wW aeI afD abP afL acS abC zm wc oy agi adU ajg oN wI yA zI nV abF ab2 vt gC rZ tq wb gu iE tR tJ zN yV abx vL iN mT abB xT aew ach g0 g1 g10 g11 g12 g13 g14 g15 g16 g17 g18 g19 g2 g20 g21 g3 g4 g5 g6 g7 g8 g9 air ajN ajM akv afc o7 zU"; let y<-m "cY bF aag gh wR zS o9 tU abM pV xU aal cN acM wU kX iQ"; `(tactic| (refine Jd.h ?_; (repeat (rename ZZ _ _ _ _ _ _ _ _ _=>z;obtain⟨_,_,⟨⟨_,_⟩,_,_⟩,_⟩:=z));have hm:=λ j h=>L2.cI.mono (j:=j) $(Lean.mkIdent `hr):ident (Nat.le_of_ble_eq_true h);have:=L2.cI.h $(Lean.mkIdent `hr):ident;have:=wt $(Lean.mkIdent `hr):ident;obtain⟨⟩:=$(Lean.mkIdent `E):ident; (repeat' (first | apply_rules (maxDepth:=10000) (transparency:=.reducible) -symm -exfalso only[$x,*] | rfl | (apply (λ sc=>@ah7 (sc:=sc) (own:=ownOf sc))<;>intros) | (apply (λ sc=>@uI (sc:=sc) (own:=ownOf sc))<;>intros) | (apply (λ sc=>@afy (sc:=sc) (own:=ownOf sc))<;>intros) | apply_rules (maxDepth:=10000) -symm -exfalso only[λ sc=>@wm (sc:=sc) (own:=ownOf sc),$y,*] | with_reducible apply @afU | with_reducible apply @ajA | with_reducible apply @gA | with_reducible apply @aha | (show ∀ _ _ _ _ _ _,Jd _;intros) | apply @acA));all_goals first | exact ahE rfl | exact ahI rfl | exact ahO rfl | exact akI rfl | exact agy rfl | exact hm _ rfl | exact⟨rfl,rfl,rfl,rfl⟩ | exact PassesOwn.never | exact aiY | (intro _;rfl) | (intro _ _;rfl) | (intro _ _ _;rfl) | assumption | exact Nat.le_of_ble_eq_true rfl | decide))
local macro_rules | `(tactic| walk_at "sc")=>`(tactic| exact⟨rfl,rfl,rfl,by decide +kernel,rfl,by decide +kernel,by decide +kernel⟩)
local macro_rules | `(tactic| walk_at "b5")=>`(tactic| (intro _ _ _ _ _ _ us hl;obtain⟨_,_,_,_,_,e⟩:=D.ajS hl;subst e;rfl))
local macro_rules | `(tactic| walk_at "b4")=>`(tactic| (intro _ _ _ _ _ _ us hl;obtain⟨_,_,_,_,e⟩:=D.ag9 hl;subst e;rfl))
local macro_rules | `(tactic| walk_at "b3")=>`(tactic| (intro _ _ _ _ _ _ us hl;obtain⟨_,_,_,e⟩:=D.af2 hl;subst e;rfl))
local macro_rules | `(tactic| walk_at "b2")=>`(tactic| (intro _ _ _ _ _ _ us hl;obtain⟨_,_,e⟩:=D.abr hl;subst e;rfl))
local macro_rules | `(tactic| walk_at "b1")=>`(tactic| (intro _ _ _ _ _ _ us hl;obtain⟨_,e⟩:=D.aaW hl;subst e;rfl))
def top(i:Nat):Stmt:=PySem.Challenge.pw_placedworks_k58_whole_late_sheets_harmle.main.body.getD i (.Pass ⟨0,0,0,0⟩)
abbrev ud:Stmt:=top 17
abbrev qi:Stmt:=top 18
abbrev cK:Stmt:=inClass (top 15) 0
abbrev bV:Stmt:=inClass (top 13) 0
abbrev bX:Stmt:=inClass (top 8) 0
abbrev eJ:Stmt:=inClass (top 8) 2
abbrev fk:Stmt:=inClass (top 15) 8
abbrev cx:Stmt:=inClass (top 15) 7
abbrev bD:Stmt:=top 11
abbrev eG:Stmt:=inClass (top 13) 3
abbrev dO:Stmt:=inClass (top 13) 1
abbrev jt:Stmt:=top 2
abbrev d9:Stmt:=inClass (top 8) 4
abbrev m8:Stmt:=top 23
abbrev eA:Stmt:=inClass (top 8) 3
abbrev dP:Stmt:=top 5
abbrev cJ:Stmt:=inClass (top 8) 13
abbrev oV:Stmt:=top 4
abbrev dJ:Stmt:=inClass (top 8) 6
abbrev iI:Stmt:=inClass (top 15) 1
abbrev ji:Stmt:=inClass (top 15) 3
abbrev iy:Stmt:=inClass (top 15) 4
abbrev gp:Stmt:=inClass (top 15) 2
abbrev jv:Stmt:=top 22
abbrev mM:Stmt:=top 3
abbrev dk:Stmt:=inClass (top 8) 5
abbrev eF:Stmt:=inClass (top 8) 11
abbrev gq:Stmt:=top 19
abbrev mJ:Stmt:=top 20
abbrev jC:Stmt:=inClass (top 15) 6
abbrev cV:Stmt:=inClass (top 8) 10
abbrev dW:Stmt:=inClass (top 8) 7
abbrev cD:Stmt:=inClass (top 8) 15
abbrev iw:Stmt:=top 6
abbrev df:Stmt:=inClass (top 8) 12
abbrev cU:Stmt:=inClass (top 8) 14
abbrev pW:Stmt:=top 21
abbrev rj:Stmt:=top 24
structure Env(K:FG)(mg:Str->Option Value):Prop where
 k_Hearing:Cls K ak
 m_Hearing:mg "Hearing" = some (.ref ak)
 k_Machine:Cls K aa
 m_Machine:mg "Machine" = some (.ref aa)
 k_Road:Cls K ao
 m_Road:mg "Road" = some (.ref ao)
 h_Road_come:W.codeHdIn K cu ax=true
 n_Hearing_newest:cf K ak "newest"
 n_Machine_berth_count:cf K aa "berth_count"
 n_Machine_known_leases:cf K aa "known_leases"
 n_Machine_laid:cf K aa "laid"
 n_Machine_lives:cf K aa "lives"
 n_Machine_name:cf K aa "name"
 n_Machine_sheet_turn:cf K aa "sheet_turn"
 n_Machine_standing:cf K aa "standing"
 n_Road_cut_off:cf K ao "cut_off"
 n_Road_doubled:cf K ao "doubled"
 n_Road_lateness:cf K ao "lateness"
 n_Road_messages:cf K ao "messages"
 b_abs:mg "abs" = none
 b_dict:mg "dict" = none
 b_int:mg "int" = none
 b_isinstance:mg "isinstance" = none
 b_len:mg "len" = none
 b_list:mg "list" = none
 b_max:mg "max" = none
 b_range:mg "range" = none
 b_repr:mg "repr" = none
 b_set:mg "set" = none
 b_sorted:mg "sorted" = none
 b_tuple:mg "tuple" = none
section
variable (P:Program)(w:World)(K:FG)(mg:Str->Option Value)(base:Heap)
abbrev xV:=ZZ P w K mg base (Fn K mg "_law_bag" ud q_0) 1 q_0 cM
abbrev iL:=ZZ P w K mg base (Fn K mg "_law_take" qi q_1) 1 q_1 av
abbrev mB:=ZZ P w K mg base (Mi K ao "Road.__init__" cK q_2) 1 q_2 aY
abbrev hE:=ZZ P w K mg base (Mi K ak "Hearing.__init__" bV q_3) 1 q_3 aK
abbrev gM:=ZZ P w K mg base (Mi K aa "Machine.__init__" bX q_4) 1 q_4 aF
abbrev dR:=ZZ P w K mg base (Mf K aa "rise" "Machine.rise" eJ q_3) 1 q_3 aI
abbrev iX:=ZZ P w K mg base (Mf K ao "is_due" "Road.is_due" fk q_5) 1 q_5 bq
abbrev lE:=ZZ P w K mg base (Mf K ao "come" "Road.come" cx q_6) 4 q_6 bC
abbrev eE:=ZZ P w K mg base (Mf K ak "kept" "Hearing.kept" eG q_7) 6 q_7 aq
abbrev gL:=ZZ P w K mg base (Mf K ak "hear" "Hearing.hear" dO q_8) 6 q_8 aO
abbrev jA:=ZZ P w K mg base (Fn K mg "new_copy" jt q_9) 1 q_9 bz
abbrev h9:=ZZ P w K mg base (Mf K aa "take" "Machine.take" d9 ai9) 2 ai9 aH
abbrev rL:=ZZ P w K mg base (Fn K mg "_law_bring" m8 ag5) 7 ag5 bY
abbrev ip:=ZZ P w K mg base (Mf K aa "fall" "Machine.fall" eA q_3) 1 q_3 br
abbrev dU:=ZZ P w K mg base (Fn K mg "is_answering" dP n9) 1 n9 aL
abbrev cL:=ZZ P w K mg base (Mf K aa "answers" "Machine.answers" cJ aa8) 2 aa8 aA
abbrev uZ:=ZZ P w K mg base (Fn K mg "failed" oV n9) 1 n9 cO
abbrev hZ:=ZZ P w K mg base (Mf K aa "fail" "Machine.fail" dJ aa8) 3 aa8 bu
abbrev k6:=ZZ P w K mg base (Mf K ao "late" "Road.late" iI ahe) 1 ahe bO
abbrev nY:=ZZ P w K mg base (Mf K ao "cut" "Road.cut" ji q_7) 1 q_7 cg
abbrev lV:=ZZ P w K mg base (Mf K ao "join" "Road.join" iy q_7) 1 q_7 bQ
abbrev jT:=ZZ P w K mg base (Mf K ao "twice" "Road.twice" gp ahC) 1 ahC bI
abbrev oE:=ZZ P w K mg base (Fn K mg "_law_happen" jv ajc) 4 ajc bJ
abbrev rJ:=ZZ P w K mg base (Fn K mg "gone_on" mM n9) 2 n9 cy
abbrev gb:=ZZ P w K mg base (Mf K aa "go_on" "Machine.go_on" dk q_3) 3 q_3 aQ
abbrev dN:=ZZ P w K mg base (Mf K aa "life" "Machine.life" eF q_3) 1 q_3 aG
abbrev jN:=ZZ P w K mg base (Fn K mg "_law_copy_row" gq aij) 2 aij bH
abbrev qx:=ZZ P w K mg base (Fn K mg "_law_sheet" mJ ai0) 3 ai0 cc
abbrev n8:=ZZ P w K mg base (Mf K ao "put" "Road.put" jC ai5) 6 ai5 bB
abbrev cT:=ZZ P w K mg base (Mf K aa "stands" "Machine.stands" cV q_3) 1 q_3 aw
abbrev d6:=ZZ P w K mg base (Mf K aa "beat" "Machine.beat" dW q_6) 2 q_6 aE
abbrev dw:=ZZ P w K mg base (Mf K aa "lease_at" "Machine.lease_at" cD ai4) 3 ai4 aM
abbrev k5:=ZZ P w K mg base (Fn K mg "told_copy" iw n9) 1 n9 bP
abbrev fX:=ZZ P w K mg base (Mf K aa "lying" "Machine.lying" df q_3) 2 q_3 aZ
abbrev fF:=ZZ P w K mg base (Mf K aa "leases" "Machine.leases" cU q_3) 1 q_3 aU
abbrev uK:=ZZ P w K mg base (Fn K mg "_law_seen" pW aim) 4 aim cq
end
section
variable {P:Program}{w:World}{K:FG}{mg:Str->Option Value}{base:Heap}
theorem acP(E:Env K mg)(F:Fn K mg "_law_bag" ud q_0 f fq) :
  ck P w K mg base CX0 1 f fq q_0 (cz K cM):=by
 refine bb (N:=yE) (t:=aax) F.fn (by walk_at "sc") yW (λ _ _ _ _ _ _ hr=>?_) wB
 walk_at "go"
theorem aad(E:Env K mg)(F:Fn K mg "_law_take" qi q_1 f fq) :
  ck P w K mg base CX0 1 f fq q_1 (cz K av):=by
 refine bb (N:=vj) (t:=uG) F.fn (by walk_at "sc") wC (λ _ _ _ _ _ _ hr=>?_) sN
 walk_at "go"
theorem si(E:Env K mg)(F:Mi K ao "Road.__init__" cK q_2 f fq) :
  ck P w K mg base CX0 1 f fq q_2 (cz K aY):=by
 refine bb (N:=mX) (t:=iD) F.fn (by walk_at "sc") qo (λ _ _ _ _ _ _ hr=>?_) nD
 walk_at "go"
theorem mE(E:Env K mg)(F:Mi K ak "Hearing.__init__" bV q_3 f fq) :
  ck P w K mg base CX0 1 f fq q_3 (cz K aK):=by
 refine bb (N:=hG) (t:=iq) F.fn (by walk_at "sc") kE (λ cdv A outer s H E' hr=>?_) jj;refine Jd.h ?_;exact bF (o9 E.k_Hearing E.n_Hearing_newest (dvQ 0) oy)
theorem lK(E:Env K mg)(F:Mi K aa "Machine.__init__" bX q_4 f fq) :
  ck P w K mg base CX0 1 f fq q_4 (cz K aF):=by
 refine bb (N:=hU) (t:=gK) F.fn (by walk_at "sc") kb (λ _ _ _ _ _ _ hr=>?_) ju
 walk_at "go"
theorem lP(E:Env K mg)(F:Mf K aa "rise" "Machine.rise" eJ q_3 f fq) :
  ck P w K mg base CX0 1 f fq q_3 (cz K aI):=by
 refine bb (N:=ij) (t:=gS) F.fn (by walk_at "sc") kl (λ _ _ _ _ _ _ hr=>?_) jL
 walk_at "go"
theorem nE(E:Env K mg)(F:Mf K ao "is_due" "Road.is_due" fk q_5 f fq) :
  ck P w K mg base CX0 1 f fq q_5 (cz K bq):=by
 refine bb (N:=iS) (t:=iR) F.fn (by walk_at "sc") l0 (λ _ _ _ _ _ _ hr=>?_) ko
 walk_at "go"
theorem akJ:(["message", "self", "turn"]:List Str).Nodup:=by decide +kernel
theorem akA:(["message", "self", "turn"]:List Str).Nodup:=by decide +kernel
theorem afh:(["when", "machine", "thing"]:List Str).Nodup:=by decide +kernel
theorem jM:jo lW q_6 (aC cx):=by walk_at "sc"
theorem sj(E:Env K mg)(F:Mf K ao "come" "Road.come" cx q_6 f fq)(hcd:fq.code=.ref cu)(z6:iX P w K mg base) :
  ck P w K mg base CX0 4 f fq q_6 (cz K bC):=by
 obtain⟨_,_,G6,O6⟩:=z6;refine aeN (t:=kR bq) F.fn hcd jM qj (λ A outer s H E' hr=>?_) ny;refine Jd.h ?_;exact cY (kX (tF (i:=2) jM.nd rfl (Or.inl rfl) rfl (agy (own:=(["message"]:List Str)) (fr:=[0,1]) rfl) (iE (dm E.k_Road E.n_Road_messages (dvQ 0))) (λ _ _ _ _ _ _=>cR (i:=0) akJ rfl (Or.inl rfl)) (λ _ _ _ _ _ _=>mT (gA (o7 (dvQ 1) E.k_Road G6.me O6 hr.m G6.bd (qp (dvQ 0) (qp (dvQ 2) cv))))) (λ _ _ _ _ _ _=>dvQ 0))) <|
  cY (o9 E.k_Road E.n_Road_messages (dvQ 0) (nV (adM rfl (agy (own:=(["message"]:List Str)) (fr:=[0,1]) rfl) (iE (dm E.k_Road E.n_Road_messages (dvQ 0))) (λ _ _ _ _ _ _=>cR (i:=0) akA rfl (Or.inl rfl)) (λ _ _ _ _ _ _=>mT (vL (gA (o7 (dvQ 1) E.k_Road G6.me O6 hr.m G6.bd (qp (dvQ 0) (qp (dvQ 2) cv)))))) (λ _ _ _ _ _ _=>dvQ 0)))) <|
  bF (cN (uI rfl (agy (own:=(["when", "machine", "thing"]:List Str)) (fr:=[]) rfl) (gu (oN (zo (k:=0) (q:=c6) hr.m rfl rfl E.b_sorted (akO (x:= "message") (fr:=[]) rfl) rfl E.h_Road_come rfl (λ _ _ _ _ _=>rfl) (dvQ 2) (λ _ _ _ _ _ _ hr=>ado ac7 ac8 (dvQ 0) aaL)))) (λ _ _ _ _ _ _=>vt rfl (gC (cR (i:=0) afh rfl (Or.inl rfl)) (gC (cR (i:=1) afh rfl (Or.inl rfl)) (gC (cR (i:=2) afh rfl (Or.inl rfl)) rZ)))) (λ _ _ _ _ _ _=>iN) (λ _ _ _ _ _ _=>yN (qp (dvQ 1) (qp (dvQ 2) cv)))))
theorem aj9:(["each"]:List Str).Nodup:=by decide +kernel
theorem ajF:(["each"]:List Str).Nodup:=by decide +kernel
theorem cj(E:Env K mg)(F:Fn K mg "thing_copied" bD aaj f fq){j:Nat}(O_self:ck P w K mg base CX0 j f fq aaj (cz K (aP j))) :
  ck P w K mg base CX0 (j+1) f fq aaj (cz K (aP (j+1))):=by
 refine bb (N:=ee) (t:=dZ (aP j)) F.fn (by walk_at "sc") (kF _) (λ cdv A outer s H E' hr=>?_) (jh j);refine Jd.h ?_;exact cY (pV (gA (ajo ml sY rfl E.b_isinstance ff (qp (dvQ 0) (qp (pM rfl E.b_tuple vw) cv))))
   (bF (cN (aj7 pU wZ rfl E.b_tuple vw (qp (uI rfl (agy (own:=(["each"]:List Str)) (fr:=[]) rfl) (gu (dvQ 0)) (λ _ _ _ _ _ _=>cR (i:=0) aj9 rfl (Or.inl rfl)) (λ _ _ _ _ _ _=>iN) (λ _ _ _ _ _ _=>ajA O_self (hr.mono (lr0 _)) rfl F.mg F.fn.kp F.bd (qp (dvQ 0) cv))) cv))))
   iQ) <|
  cY (pV (gA (ajo ml sY rfl E.b_isinstance ff (qp (dvQ 0) (qp (pM rfl E.b_list xX) cv))))
   (bF (cN (uI rfl (agy (own:=(["each"]:List Str)) (fr:=[]) rfl) (gu (dvQ 0)) (λ _ _ _ _ _ _=>cR (i:=0) ajF rfl (Or.inl rfl)) (λ _ _ _ _ _ _=>iN) (λ _ _ _ _ _ _=>ajA O_self (hr.mono (lr0 _)) rfl F.mg F.fn.kp F.bd (qp (dvQ 0) cv)))))
   iQ) <|
  cY (pV (gA (ajo ml sY rfl E.b_isinstance ff (qp (dvQ 0) (qp (pM rfl E.b_dict ad6) cv))))
   (bF (cN aaw))
   iQ) <|
  bF (cN (dvQ 0))
theorem lJ(E:Env K mg)(F:Mf K ak "kept" "Hearing.kept" eG q_7 f fq)
  (G8:Fn K mg "thing_copied" bD aaj f8 fd8)(O8:ck P w K mg base CX0 5 f8 fd8 aaj (cz K au)) :
  ck P w K mg base CX0 6 f fq q_7 (cz K aq):=by
 refine bb (N:=gP) (t:=hV au) F.fn (by walk_at "sc") kB (λ cdv A outer s H E' hr=>?_) jm;refine Jd.h ?_;exact bF (cN (ajA O8 hr.m rfl G8.mg G8.fn.kp G8.bd (qp (acp (wt hr) (dm E.k_Hearing E.n_Hearing_newest (dvQ 0)) (dvQ 1)) cv)))
theorem mS(E:Env K mg)(F:Mf K ak "hear" "Hearing.hear" dO q_8 f fq)
  (G8:Fn K mg "thing_copied" bD aaj f8 fd8)(O8:ck P w K mg base CX0 5 f8 fd8 aaj (cz K au)) :
  ck P w K mg base CX0 6 f fq q_8 (cz K aO):=by
 refine bb (N:=gX) (t:=gR au) F.fn (by walk_at "sc") kg (λ _ _ _ _ _ _ hr=>?_) jy;obtain⟨⟨_,_⟩,_,_⟩:=G8
 walk_at "go"
theorem t9(E:Env K mg)(F:Fn K mg "new_copy" jt q_9 f fq) :
  ck P w K mg base CX0 1 f fq q_9 (cz K bz):=by
 refine bb (N:=oh) (t:=oB) F.fn (by walk_at "sc") rE (λ _ _ _ _ _ _ hr=>?_) oS
 walk_at "go"
theorem mH(E:Env K mg)(F:Mf K aa "take" "Machine.take" d9 ai9 f fq)(z11:jA P w K mg base) :
  ck P w K mg base CX0 2 f fq ai9 (cz K aH):=by
 refine bb (N:=il) (t:=gO bz) F.fn (by walk_at "sc") j8 (λ _ _ _ _ _ _ hr=>?_) jF
 walk_at "go"
theorem wH(E:Env K mg)(F:Fn K mg "_law_bring" m8 ag5 f fq)(z7:lE P w K mg base)(z9:eE P w K mg base)(z10:gL P w K mg base)(z12:h9 P w K mg base) :
  ck P w K mg base CX0 7 f fq ag5 (cz K bY):=by
 refine bb (N:=qI) (t:=lp bC aq aO aH) F.fn (by walk_at "sc") sS (λ _ _ _ _ _ _ hr=>?_) sf
 walk_at "go"
theorem mh(E:Env K mg)(F:Mf K aa "fall" "Machine.fall" eA q_3 f fq) :
  ck P w K mg base CX0 1 f fq q_3 (cz K br):=by
 refine bb (N:=iu) (t:=hJ) F.fn (by walk_at "sc") j7 (λ _ _ _ _ _ _ hr=>?_) js
 walk_at "go"
theorem mK(E:Env K mg)(F:Fn K mg "is_answering" dP n9 f fq) :
  ck P w K mg base CX0 1 f fq n9 (cz K aL):=by
 refine bb (N:=gJ) (t:=ir) F.fn (by walk_at "sc") kD (λ _ _ _ _ _ _ hr=>?_) jz
 walk_at "go"
theorem iU(E:Env K mg)(F:Mf K aa "answers" "Machine.answers" cJ aa8 f fq)(z15:dU P w K mg base) :
  ck P w K mg base CX0 2 f fq aa8 (cz K aA):=by
 refine bb (N:=eQ) (t:=eN aL) F.fn (by walk_at "sc") iz (λ _ _ _ _ _ _ hr=>?_) gE
 walk_at "go"
theorem xW(E:Env K mg)(F:Fn K mg "failed" oV n9 f fq) :
  ck P w K mg base CX0 1 f fq n9 (cz K cO):=by
 refine bb (N:=vz) (t:=vo) F.fn (by walk_at "sc") wD (λ _ _ _ _ _ _ hr=>?_) sQ
 walk_at "go"
theorem l9(E:Env K mg)(F:Mf K aa "fail" "Machine.fail" dJ aa8 f fq)(z16:cL P w K mg base)(z17:uZ P w K mg base) :
  ck P w K mg base CX0 3 f fq aa8 (cz K bu):=by
 refine bb (N:=gI) (t:=gV aA cO) F.fn (by walk_at "sc") kh (λ _ _ _ _ _ _ hr=>?_) jr
 walk_at "go"
theorem sv(E:Env K mg)(F:Mf K ao "late" "Road.late" iI ahe f fq) :
  ck P w K mg base CX0 1 f fq ahe (cz K bO):=by
 refine bb (N:=kZ) (t:=kT) F.fn (by walk_at "sc") oI (λ cdv A outer s H E' hr=>?_) nH;refine Jd.h ?_;exact bF (gh (wt hr) (dm E.k_Road E.n_Road_lateness (dvQ 0)) (dvQ 1) (dvQ 2))
theorem tP(E:Env K mg)(F:Mf K ao "cut" "Road.cut" ji q_7 f fq) :
  ck P w K mg base CX0 1 f fq q_7 (cz K cg):=by
 refine bb (N:=ou) (t:=nN) F.fn (by walk_at "sc") rM (λ cdv A outer s H E' hr=>?_) pP;refine Jd.h ?_;exact bF (gh (wt hr) (dm E.k_Road E.n_Road_cut_off (dvQ 0)) (dvQ 1) aak)
theorem rX(E:Env K mg)(F:Mf K ao "join" "Road.join" iy q_7 f fq) :
  ck P w K mg base CX0 1 f fq q_7 (cz K bQ):=by
 refine bb (N:=lg) (t:=mq) F.fn (by walk_at "sc") oY (λ cdv A outer s H E' hr=>?_) ng;refine Jd.h ?_;exact bF (gh (wt hr) (dm E.k_Road E.n_Road_cut_off (dvQ 0)) (dvQ 1) aak)
theorem pA(E:Env K mg)(F:Mf K ao "twice" "Road.twice" gp ahC f fq) :
  ck P w K mg base CX0 1 f fq ahC (cz K bI):=by
 refine bb (N:=jX) (t:=jS) F.fn (by walk_at "sc") nC (λ cdv A outer s H E' hr=>?_) mZ;refine Jd.h ?_;exact bF (gh (wt hr) (dm E.k_Road E.n_Road_doubled (dvQ 0)) (dvQ 1) (dvQ 2))
theorem sJ(E:Env K mg)(F:Fn K mg "_law_happen" jv ajc f fq)(z1:iL P w K mg base)(z14:ip P w K mg base)(z5:dR P w K mg base)(z18:hZ P w K mg base)(z19:k6 P w K mg base)(z20:nY P w K mg base)(z21:lV P w K mg base)(z22:jT P w K mg base) :
  ck P w K mg base CX0 4 f fq ajc (cz K bJ):=by
 refine bb (N:=oq) (t:=nJ av br aI bu bO cg bQ bI) F.fn (by walk_at "sc") qt (λ _ _ _ _ _ _ hr=>?_) p4
 walk_at "go"
theorem wV(E:Env K mg)(F:Fn K mg "gone_on" mM n9 f fq)(z11:jA P w K mg base) :
  ck P w K mg base CX0 2 f fq n9 (cz K cy):=by
 refine bb (N:=qC) (t:=sy bz) F.fn (by walk_at "sc") tW (λ _ _ _ _ _ _ hr=>?_) su
 walk_at "go"
theorem j9(E:Env K mg)(F:Mf K aa "go_on" "Machine.go_on" dk q_3 f fq)(z24:rJ P w K mg base) :
  ck P w K mg base CX0 3 f fq q_3 (cz K aQ):=by
 refine bb (N:=fO) (t:=fW cy) F.fn (by walk_at "sc") jG (λ _ _ _ _ _ _ hr=>?_) iM
 walk_at "go"
theorem mj(E:Env K mg)(F:Mf K aa "life" "Machine.life" eF q_3 f fq) :
  ck P w K mg base CX0 1 f fq q_3 (cz K aG):=by
 refine bb (N:=gU) (t:=ie) F.fn (by walk_at "sc") km (λ cdv A outer s H E' hr=>?_) jw;refine Jd.h ?_;exact bF (cN (dm E.k_Machine E.n_Machine_lives (dvQ 0)))
theorem oZ(E:Env K mg)(F:Fn K mg "_law_copy_row" gq aij f fq)(z1:iL P w K mg base) :
  ck P w K mg base CX0 2 f fq aij (cz K bH):=by
 refine bb (N:=jU) (t:=jP av) F.fn (by walk_at "sc") nh (λ _ _ _ _ _ _ hr=>?_) lb
 walk_at "go"
theorem xl(E:Env K mg)(F:Fn K mg "_law_sheet" mJ ai0 f fq)(z1:iL P w K mg base)(z27:jN P w K mg base) :
  ck P w K mg base CX0 3 f fq ai0 (cz K cc):=by
 refine bb (N:=rR) (t:=rG av bH) F.fn (by walk_at "sc") tH (λ _ _ _ _ _ _ hr=>?_) qH
 walk_at "go"
theorem uh(E:Env K mg)(F:Mf K ao "put" "Road.put" jC ai5 f fq)
  (G8:Fn K mg "thing_copied" bD aaj f8 fd8)(O8:ck P w K mg base CX0 5 f8 fd8 aaj (cz K au)) :
  ck P w K mg base CX0 6 f fq ai5 (cz K bB):=by
 refine bb (N:=nO) (t:=nX au) F.fn (by walk_at "sc") rf (λ _ _ _ _ _ _ hr=>?_) oW;obtain⟨⟨_,_⟩,_,_⟩:=G8
 walk_at "go"
theorem jn(E:Env K mg)(F:Mf K aa "stands" "Machine.stands" cV q_3 f fq) :
  ck P w K mg base CX0 1 f fq q_3 (cz K aw):=by
 refine bb (N:=fE) (t:=fI) F.fn (by walk_at "sc") jc (λ cdv A outer s H E' hr=>?_) ix;refine Jd.h ?_;exact bF (cN (dm E.k_Machine E.n_Machine_standing (dvQ 0)))
theorem mY(E:Env K mg)(F:Mf K aa "beat" "Machine.beat" dW q_6 f fq)(z15:dU P w K mg base) :
  ck P w K mg base CX0 2 f fq q_6 (cz K aE):=by
 refine bb (N:=ig) (t:=gQ aL) F.fn (by walk_at "sc") j6 (λ _ _ _ _ _ _ hr=>?_) jB
 walk_at "go"
theorem iF(E:Env K mg)(F:Mf K aa "lease_at" "Machine.lease_at" cD ai4 f fq)(z16:cL P w K mg base) :
  ck P w K mg base CX0 3 f fq ai4 (cz K aM):=by
 refine bb (N:=dA) (t:=dB aA) F.fn (by walk_at "sc") gD (λ _ _ _ _ _ _ hr=>?_) f6
 walk_at "go"
theorem qD(E:Env K mg)(F:Fn K mg "told_copy" iw n9 f fq) :
  ck P w K mg base CX0 1 f fq n9 (cz K bP):=by
 refine bb (N:=ll) (t:=lu) F.fn (by walk_at "sc") p7 (λ _ _ _ _ _ _ hr=>?_) nG
 walk_at "go"
theorem kC(E:Env K mg)(F:Mf K aa "lying" "Machine.lying" df q_3 f fq)(z33:k5 P w K mg base) :
  ck P w K mg base CX0 2 f fq q_3 (cz K aZ):=by
 refine bb (N:=fV) (t:=fT bP) F.fn (by walk_at "sc") jq (λ _ _ _ _ _ _ hr=>?_) ja
 walk_at "go"
theorem jl(E:Env K mg)(F:Mf K aa "leases" "Machine.leases" cU q_3 f fq) :
  ck P w K mg base CX0 1 f fq q_3 (cz K aU):=by
 refine bb (N:=fC) (t:=fH) F.fn (by walk_at "sc") jb (λ cdv A outer s H E' hr=>?_) iG;refine Jd.h ?_;exact bF (cN (oN (aj7 jQ rW rfl E.b_list xX (qp (dm E.k_Machine E.n_Machine_known_leases (dvQ 0)) cv))))
theorem yk(E:Env K mg)(F:Fn K mg "_law_seen" pW aim f fq)(z32:dw P w K mg base)(z26:dN P w K mg base)(z30:cT P w K mg base)(z34:fX P w K mg base)(z35:fF P w K mg base)(z31:d6 P w K mg base) :
  ck P w K mg base CX0 4 f fq aim (cz K cq):=by
 refine bb (N:=va) (t:=uT aM aG aw aZ aU aE) F.fn (by walk_at "sc") wd (λ _ _ _ _ _ _ hr=>?_) uf
 walk_at "go"
theorem ahD(E:Env K mg)(F:Fn K mg "law" rj q_0 f fq)(z0:xV P w K mg base)(z1:iL P w K mg base)(z2:mB P w K mg base)(z3:hE P w K mg base)(z4:gM P w K mg base)(z5:dR P w K mg base)(z13:rL P w K mg base)(z23:oE P w K mg base)(z25:gb P w K mg base)(z26:dN P w K mg base)(z28:qx P w K mg base)(z29:n8 P w K mg base)(z30:cT P w K mg base)(z31:d6 P w K mg base)(z36:uK P w K mg base)(z9:eE P w K mg base) :
  ck P w K mg base CX0 8 f fq q_0 (cz K mQ):=by
 refine bb (N:=ag0) (t:=afE cM av aY aK aF aI bY bJ aQ aG cc bB aw aE cq aq) F.fn (by walk_at "sc") ad3 (λ _ _ _ _ _ _ hr=>?_) abH
 walk_at "go"
theorem all_mk{l:W.OpenLaw}{w:World}{K:FG}{h:Heap}{mg:Str->Option Value}{fa:Addr}(X:K.In h)(G:h.Ns mainGlobals mg)(hfa:mg "law" = some (.ref fa))
  (p0:PFn K "_law_bag" ud)
  (p1:PFn K "_law_take" qi)
  {f2:Addr}{oc2 kV2 dc2 pm2 cd2 ct2:Value}{od2 an2:Option Addr}{sl2:Array (Option Value)}
  (a2:W.findIn K (.ref ao) "__init__" = some (some (.ref f2)))(i2:W.isFn K (.ref f2)=true)(l2:K.lookup f2=some ⟨oc2,od2,.func (W.fnOf "__init__" "Road.__init__" (bw cK) (aW cK) (aC cK) .none kV2 dc2 pm2 an2 cd2 ct2),sl2⟩)(c2:W.codeIn K cd2 "Road.__init__" = true)(k2:W.keepIn K (.ref f2)=true)
  {f3:Addr}{oc3 kV3 dc3 pm3 cd3 ct3:Value}{od3 an3:Option Addr}{sl3:Array (Option Value)}
  (a3:W.findIn K (.ref ak) "__init__" = some (some (.ref f3)))(i3:W.isFn K (.ref f3)=true)(l3:K.lookup f3=some ⟨oc3,od3,.func (W.fnOf "__init__" "Hearing.__init__" (bw bV) (aW bV) (aC bV) .none kV3 dc3 pm3 an3 cd3 ct3),sl3⟩)(c3:W.codeIn K cd3 "Hearing.__init__" = true)(k3:W.keepIn K (.ref f3)=true)
  {f4:Addr}{oc4 kV4 dc4 pm4 cd4 ct4:Value}{od4 an4:Option Addr}{sl4:Array (Option Value)}
  (a4:W.findIn K (.ref aa) "__init__" = some (some (.ref f4)))(i4:W.isFn K (.ref f4)=true)(l4:K.lookup f4=some ⟨oc4,od4,.func (W.fnOf "__init__" "Machine.__init__" (bw bX) (aW bX) (aC bX) .none kV4 dc4 pm4 an4 cd4 ct4),sl4⟩)(c4:W.codeIn K cd4 "Machine.__init__" = true)(k4:W.keepIn K (.ref f4)=true)
  (p5:PMf K aa "rise" "Machine.rise" eJ)
  (p6:PMf K ao "is_due" "Road.is_due" fk)
  {f7:Addr}{oc7 kV7 dc7 pm7 cd7 ct7:Value}{od7 an7:Option Addr}{sl7:Array (Option Value)}
  (a7:W.findIn K (.ref ao) "come" = some (some (.ref f7)))(i7:W.isFn K (.ref f7)=true)(l7:K.lookup f7=some ⟨oc7,od7,.func (W.fnOf "come" "Road.come" (bw cx) (aW cx) (aC cx) .none kV7 dc7 pm7 an7 cd7 ct7),sl7⟩)(c7:W.codeIn K cd7 "Road.come" = true)(k7:W.keepIn K (.ref f7)=true)
  (cc7:cd7=.ref cu)
  {f8:Addr}{oc8 kV8 dc8 pm8 cd8 ct8:Value}{od8 an8:Option Addr}{sl8:Array (Option Value)}
  (a8:W.nsIn K mainGlobals "thing_copied" = some (some (.ref f8)))(l8:K.lookup f8=some ⟨oc8,od8,.func (W.fnOf "thing_copied" "thing_copied" (bw bD) (aW bD) (aC bD) .none kV8 dc8 pm8 an8 cd8 ct8),sl8⟩)(c8:W.codeIn K cd8 "thing_copied" = true)(k8:W.keepIn K (.ref f8)=true)
  (p9:PMf K ak "kept" "Hearing.kept" eG)
  (p10:PMf K ak "hear" "Hearing.hear" dO)
  (p11:PFn K "new_copy" jt)
  (p12:PMf K aa "take" "Machine.take" d9)
  (p13:PFn K "_law_bring" m8)
  (p14:PMf K aa "fall" "Machine.fall" eA)
  (p15:PFn K "is_answering" dP)
  (p16:PMf K aa "answers" "Machine.answers" cJ)
  (p17:PFn K "failed" oV)
  (p18:PMf K aa "fail" "Machine.fail" dJ)
  (p19:PMf K ao "late" "Road.late" iI)
  (p20:PMf K ao "cut" "Road.cut" ji)
  (p21:PMf K ao "join" "Road.join" iy)
  (p22:PMf K ao "twice" "Road.twice" gp)
  (p23:PFn K "_law_happen" jv)
  (p24:PFn K "gone_on" mM)
  (p25:PMf K aa "go_on" "Machine.go_on" dk)
  (p26:PMf K aa "life" "Machine.life" eF)
  (p27:PFn K "_law_copy_row" gq)
  (p28:PFn K "_law_sheet" mJ)
  (p29:PMf K ao "put" "Road.put" jC)
  (p30:PMf K aa "stands" "Machine.stands" cV)
  (p31:PMf K aa "beat" "Machine.beat" dW)
  (p32:PMf K aa "lease_at" "Machine.lease_at" cD)
  (p33:PFn K "told_copy" iw)
  (p34:PMf K aa "lying" "Machine.lying" df)
  (p35:PMf K aa "leases" "Machine.leases" cU)
  (p36:PFn K "_law_seen" pW)
  {f37:Addr}{oc37 kV37 dc37 pm37 cd37 ct37:Value}{od37 an37:Option Addr}{sl37:Array (Option Value)}
  (a37:W.nsIn K mainGlobals "law" = some (some (.ref f37)))(l37:K.lookup f37=some ⟨oc37,od37,.func (W.fnOf "law" "law" (bw rj) (aW rj) (aC rj) .none kV37 dc37 pm37 an37 cd37 ct37),sl37⟩)(c37:W.codeIn K cd37 "law" = true)(k37:W.keepIn K (.ref f37)=true)
  (aC_Hearing:W.nsIn K mainGlobals "Hearing" = some (some (.ref ak)))(pg_Hearing:W.plainGet K ak Str.empty=true)(hd_Hearing:W.hasDictIn K ak=true)(po_Hearing:W.plainOver K ak=true)(sa_Hearing:W.findIn K (.ref ak) "__setattr__" = some (some (.builtin "object.__setattr__")))(mk_Hearing:W.makesIn K ak=true)(kc_Hearing:W.keepIn K (.ref ak)=true)
  (aC_Machine:W.nsIn K mainGlobals "Machine" = some (some (.ref aa)))(pg_Machine:W.plainGet K aa Str.empty=true)(hd_Machine:W.hasDictIn K aa=true)(po_Machine:W.plainOver K aa=true)(sa_Machine:W.findIn K (.ref aa) "__setattr__" = some (some (.builtin "object.__setattr__")))(mk_Machine:W.makesIn K aa=true)(kc_Machine:W.keepIn K (.ref aa)=true)
  (aC_Road:W.nsIn K mainGlobals "Road" = some (some (.ref ao)))(pg_Road:W.plainGet K ao Str.empty=true)(hd_Road:W.hasDictIn K ao=true)(po_Road:W.plainOver K ao=true)(sa_Road:W.findIn K (.ref ao) "__setattr__" = some (some (.builtin "object.__setattr__")))(mk_Road:W.makesIn K ao=true)(kc_Road:W.keepIn K (.ref ao)=true)
  (xf_h_Road_come:W.codeHdIn K cu ax=true)
  (n_Hearing_newest:W.findIn K (.ref ak) "newest" = some none)
  (n_Machine_berth_count:W.findIn K (.ref aa) "berth_count" = some none)
  (n_Machine_known_leases:W.findIn K (.ref aa) "known_leases" = some none)
  (n_Machine_laid:W.findIn K (.ref aa) "laid" = some none)
  (n_Machine_lives:W.findIn K (.ref aa) "lives" = some none)
  (n_Machine_name:W.findIn K (.ref aa) "name" = some none)
  (n_Machine_sheet_turn:W.findIn K (.ref aa) "sheet_turn" = some none)
  (n_Machine_standing:W.findIn K (.ref aa) "standing" = some none)
  (n_Road_cut_off:W.findIn K (.ref ao) "cut_off" = some none)
  (n_Road_doubled:W.findIn K (.ref ao) "doubled" = some none)
  (n_Road_lateness:W.findIn K (.ref ao) "lateness" = some none)
  (n_Road_messages:W.findIn K (.ref ao) "messages" = some none)
  (b_abs:W.nsIn K mainGlobals "abs" = some none)
  (b_dict:W.nsIn K mainGlobals "dict" = some none)
  (b_int:W.nsIn K mainGlobals "int" = some none)
  (b_isinstance:W.nsIn K mainGlobals "isinstance" = some none)
  (b_len:W.nsIn K mainGlobals "len" = some none)
  (b_list:W.nsIn K mainGlobals "list" = some none)
  (b_max:W.nsIn K mainGlobals "max" = some none)
  (b_range:W.nsIn K mainGlobals "range" = some none)
  (b_repr:W.nsIn K mainGlobals "repr" = some none)
  (b_set:W.nsIn K mainGlobals "set" = some none)
  (b_sorted:W.nsIn K mainGlobals "sorted" = some none)
  (b_tuple:W.nsIn K mainGlobals "tuple" = some none) :
  ∃ fq:FuncData,(∀ (s:Shared) (v:Value),BindsTo s fq ⟨[v],[]⟩ [("_law_script",v)])/\∀ base:Heap,K.In base->base.Ns mainGlobals mg->ck l.prog w K mg base CX0 8 fa fq q_0 (cz K mQ):=by
 have e:=hfa.symm.trans (W.mg_of X G a37);cases e;have E:Env K mg:=⟨⟨pg_Hearing,hd_Hearing,po_Hearing,sa_Hearing⟩,W.mg_of X G aC_Hearing,⟨pg_Machine,hd_Machine,po_Machine,sa_Machine⟩,W.mg_of X G aC_Machine,⟨pg_Road,hd_Road,po_Road,sa_Road⟩,W.mg_of X G aC_Road,xf_h_Road_come,n_Hearing_newest,n_Machine_berth_count,n_Machine_known_leases,n_Machine_laid,n_Machine_lives,n_Machine_name,n_Machine_sheet_turn,n_Machine_standing,n_Road_cut_off,n_Road_doubled,n_Road_lateness,n_Road_messages,W.mg_none_of X G b_abs,W.mg_none_of X G b_dict,W.mg_none_of X G b_int,W.mg_none_of X G b_isinstance,W.mg_none_of X G b_len,W.mg_none_of X G b_list,W.mg_none_of X G b_max,W.mg_none_of X G b_range,W.mg_none_of X G b_repr,W.mg_none_of X G b_set,W.mg_none_of X G b_sorted,W.mg_none_of X G b_tuple⟩;obtain⟨_,_,G0⟩:=p0.fn (ps:=q_0) X G (by walk_at "b1");obtain⟨_,_,G1⟩:=p1.fn (ps:=q_1) X G (by walk_at "b2");have G2:Mi K ao "Road.__init__" cK q_2 _ _:=aeK a2 i2 l2 c2 k2 mk_Road kc_Road (λ _ _ _ _ _ _ us hl=>by obtain⟨_,_,rfl⟩:=D.abr hl;rfl);have G3:Mi K ak "Hearing.__init__" bV q_3 _ _:=aeK a3 i3 l3 c3 k3 mk_Hearing kc_Hearing (λ _ _ _ _ _ _ us hl=>by obtain⟨_,rfl⟩:=D.aaW hl;rfl);have G4:Mi K aa "Machine.__init__" bX q_4 _ _:=aeK a4 i4 l4 c4 k4 mk_Machine kc_Machine (λ _ _ _ _ _ _ us hl=>by obtain⟨_,_,_,rfl⟩:=D.af2 hl;rfl);obtain⟨_,_,G5⟩:=p5.mf (ps:=q_3) (by walk_at "b1");obtain⟨_,_,G6⟩:=p6.mf (ps:=q_5) (by walk_at "b3");have G7:Mf K ao "come" "Road.come" cx q_6 _ _:=ahb a7 i7 l7 c7 k7 (λ _ _ _ _ _ _ us hl=>by obtain⟨_,_,rfl⟩:=D.abr hl;rfl);have G8:Fn K mg "thing_copied" bD aaj _ _:=adQ X G a8 l8 c8 k8 (λ _ _ _ _ _ _ us hl=>by obtain⟨_,rfl⟩:=D.aaW hl;rfl);obtain⟨_,_,G9⟩:=p9.mf (ps:=q_7) (by walk_at "b2");obtain⟨_,_,G10⟩:=p10.mf (ps:=q_8) (by walk_at "b2");obtain⟨_,_,G11⟩:=p11.fn (ps:=q_9) X G (by walk_at "b1");obtain⟨_,_,G12⟩:=p12.mf (ps:=ai9) (by walk_at "b2");obtain⟨_,_,G13⟩:=p13.fn (ps:=ag5) X G (by walk_at "b5");obtain⟨_,_,G14⟩:=p14.mf (ps:=q_3) (by walk_at "b1");obtain⟨_,_,G15⟩:=p15.fn (ps:=n9) X G (by walk_at "b1");obtain⟨_,_,G16⟩:=p16.mf (ps:=aa8) (by walk_at "b2");obtain⟨_,_,G17⟩:=p17.fn (ps:=n9) X G (by walk_at "b1");obtain⟨_,_,G18⟩:=p18.mf (ps:=aa8) (by walk_at "b2");obtain⟨_,_,G19⟩:=p19.mf (ps:=ahe) (by walk_at "b3");obtain⟨_,_,G20⟩:=p20.mf (ps:=q_7) (by walk_at "b2");obtain⟨_,_,G21⟩:=p21.mf (ps:=q_7) (by walk_at "b2");obtain⟨_,_,G22⟩:=p22.mf (ps:=ahC) (by walk_at "b3");obtain⟨_,_,G23⟩:=p23.fn (ps:=ajc) X G (by walk_at "b4");obtain⟨_,_,G24⟩:=p24.fn (ps:=n9) X G (by walk_at "b1");obtain⟨_,_,G25⟩:=p25.mf (ps:=q_3) (by walk_at "b1");obtain⟨_,_,G26⟩:=p26.mf (ps:=q_3) (by walk_at "b1");obtain⟨_,_,G27⟩:=p27.fn (ps:=aij) X G (by walk_at "b2");obtain⟨_,_,G28⟩:=p28.fn (ps:=ai0) X G (by walk_at "b4");obtain⟨_,_,G29⟩:=p29.mf (ps:=ai5) (by walk_at "b4");obtain⟨_,_,G30⟩:=p30.mf (ps:=q_3) (by walk_at "b1");obtain⟨_,_,G31⟩:=p31.mf (ps:=q_6) (by walk_at "b2");obtain⟨_,_,G32⟩:=p32.mf (ps:=ai4) (by walk_at "b3");obtain⟨_,_,G33⟩:=p33.fn (ps:=n9) X G (by walk_at "b1");obtain⟨_,_,G34⟩:=p34.mf (ps:=q_3) (by walk_at "b1");obtain⟨_,_,G35⟩:=p35.mf (ps:=q_3) (by walk_at "b1");obtain⟨_,_,G36⟩:=p36.fn (ps:=aim) X G (by walk_at "b2");have G37:Fn K mg "law" rj q_0 _ _:=adQ X G a37 l37 c37 k37 (λ _ _ _ _ _ _ us hl=>by obtain⟨_,rfl⟩:=D.aaW hl;rfl);refine⟨W.fnOf "law" "law" (bw rj) (aW rj) (aC rj) .none kV37 dc37 pm37 an37 cd37 ct37,λ s v=>.of_eq rfl,λ base _ _=>?_⟩;have z0:xV l.prog w K mg base:=⟨_,_,G0,acP E G0⟩;have z1:iL l.prog w K mg base:=⟨_,_,G1,aad E G1⟩;have z2:mB l.prog w K mg base:=⟨_,_,G2,si E G2⟩;have z3:hE l.prog w K mg base:=⟨_,_,G3,mE E G3⟩;have z4:gM l.prog w K mg base:=⟨_,_,G4,lK E G4⟩;have z5:dR l.prog w K mg base:=⟨_,_,G5,lP E G5⟩;have z6:iX l.prog w K mg base:=⟨_,_,G6,nE E G6⟩;have z7:lE l.prog w K mg base:=⟨_,_,G7,sj E G7 cc7 z6⟩;have O8:=(cj (P:=l.prog) (w:=w) (base:=base) E G8 (j:=4) (cj (P:=l.prog) (w:=w) (base:=base) E G8 (j:=3) (cj (P:=l.prog) (w:=w) (base:=base) E G8 (j:=2) (cj (P:=l.prog) (w:=w) (base:=base) E G8 (j:=1) (cj (P:=l.prog) (w:=w) (base:=base) E G8 (j:=0) (abd iT:ck l.prog w K mg base CX0 0 _ _ aaj (cz K (aP 0))))))));have z9:eE l.prog w K mg base:=⟨_,_,G9,lJ E G9 G8 O8⟩;have z10:gL l.prog w K mg base:=⟨_,_,G10,mS E G10 G8 O8⟩;have z11:jA l.prog w K mg base:=⟨_,_,G11,t9 E G11⟩;have z12:h9 l.prog w K mg base:=⟨_,_,G12,mH E G12 z11⟩;have z13:rL l.prog w K mg base:=⟨_,_,G13,wH E G13 z7 z9 z10 z12⟩;have z14:ip l.prog w K mg base:=⟨_,_,G14,mh E G14⟩;have z15:dU l.prog w K mg base:=⟨_,_,G15,mK E G15⟩;have z16:cL l.prog w K mg base:=⟨_,_,G16,iU E G16 z15⟩;have z17:uZ l.prog w K mg base:=⟨_,_,G17,xW E G17⟩;have z18:hZ l.prog w K mg base:=⟨_,_,G18,l9 E G18 z16 z17⟩;have z19:k6 l.prog w K mg base:=⟨_,_,G19,sv E G19⟩;have z20:nY l.prog w K mg base:=⟨_,_,G20,tP E G20⟩;have z21:lV l.prog w K mg base:=⟨_,_,G21,rX E G21⟩;have z22:jT l.prog w K mg base:=⟨_,_,G22,pA E G22⟩;have z23:oE l.prog w K mg base:=⟨_,_,G23,sJ E G23 z1 z14 z5 z18 z19 z20 z21 z22⟩;have z24:rJ l.prog w K mg base:=⟨_,_,G24,wV E G24 z11⟩;have z25:gb l.prog w K mg base:=⟨_,_,G25,j9 E G25 z24⟩;have z26:dN l.prog w K mg base:=⟨_,_,G26,mj E G26⟩;have z27:jN l.prog w K mg base:=⟨_,_,G27,oZ E G27 z1⟩;have z28:qx l.prog w K mg base:=⟨_,_,G28,xl E G28 z1 z27⟩;have z29:n8 l.prog w K mg base:=⟨_,_,G29,uh E G29 G8 O8⟩;have z30:cT l.prog w K mg base:=⟨_,_,G30,jn E G30⟩;have z31:d6 l.prog w K mg base:=⟨_,_,G31,mY E G31 z15⟩;have z32:dw l.prog w K mg base:=⟨_,_,G32,iF E G32 z16⟩;have z33:k5 l.prog w K mg base:=⟨_,_,G33,qD E G33⟩;have z34:fX l.prog w K mg base:=⟨_,_,G34,kC E G34 z33⟩;have z35:fF l.prog w K mg base:=⟨_,_,G35,jl E G35⟩;have z36:uK l.prog w K mg base:=⟨_,_,G36,yk E G36 z32 z26 z30 z34 z35 z31⟩;have O37:=ahD (P:=l.prog) (w:=w) (base:=base) E G37 z0 z1 z2 z3 z4 z5 z13 z23 z25 z26 z28 z29 z30 z31 z36 z9;exact O37
end
theorem walk{l:W.OpenLaw}{q:Program}{loose:List Str}{XP:(Str->Option Value)->Heap->Prop}{YP:World->Heap->Prop}{d:DefRec}{K:Params->FG}(hq:PyProof.Rows.importsNone q=true)(hn:l.most=some 63)(hdf:d.params.defaults=[])
  (hT:∀ w:World,W.codeHdIn (K w.params) cu ax=true/\(K w.params).lookup ax=none)(hY:∀ (w:World) (h:Heap),YP w h->(K w.params).In h/\∀ T∈[ax],h.get? T=some {cls:=.none,data:=.fields #[]})
  (F:∀ (w:World) (mg:Str->Option Value) (fa:Addr) (h:Heap),(K w.params).In h->h.Ns mainGlobals mg->mg d.name=some (.ref fa) ->
   ∃ fq:FuncData,(∀ (s:Shared) (u:Value),BindsTo s fq ⟨[u],[]⟩ [("_law_script",u)])/\∀ base:Heap,(K w.params).In base->base.Ns mainGlobals mg->ck l.prog w (K w.params) mg base CX0 8 fa fq q_0 (cz (K w.params) mQ)) :
  W.WalkO q loose XP YP l.row.toRowW d [] (λ f vs=>PySem.call f vs):=
 L2.abe (n:=63) (k:=8) (x:= "_law_script") (CX:=λ _=>CX0) (sp:=λ w=>cz (K w.params) mQ) hq hn (by decide) hdf ⟨rfl,rfl,by decide,by decide⟩ [ax] (λ w T h=>by rw[List.mem_singleton.mp h];exact⟨⟨_,(hT w).1⟩,(hT w).2⟩) hY F (λ _ H a ns hl hO hB hS=>D.wJ (q:=c6) (lpos:=⟨177,77,177,103⟩) hl hO hB hS acB) λ _ _ _ _ _ z=>z
end K58
end
set_option genInjectivity false
structure PySem.W.Fast where(tw15351783687520030875 tw807204321846980217 tw15350140588915877079 tw16239323847021462801 tw3814608059551367343 tw16687052080581715278 tw1133528382502331341 tw2049354146047012173 tw3324403327111895083 tw3415643647750389290 tw15201941307624025927 tw6319960301362826917 tw13885811015782623746 tw8880810690284720706 tw12040819530796782818 tw10319273918457164861 tw11265460273584523291 tw7929573917576700428 tw4392852071303098018 tw549489023023301872 tw9305181290034641085 tw12760370305372221775 tw11787386667339669013 tw768918087535186329 tw5339843677375853378 tw8409293277877373153 tw12508281540614497983 tw15603922058593340987 tw11050871380282371679 tw17935726134802167751 tw16341985808887602425 tw1169706248277219288 tw3953833051523576780 tw15597384078071560103 tw9894631931393508411 tw5872476147331571939 tw18009672303608306218 tw9331875727763786815 tw12437149483769790649 tw10882198165967165257 tw12504210569247014523 tw10748739895204546129 tw7762992558018414773 tw17805446558181370055 tw7420435485641812402 tw4367443566302962322 tw421808500682960898 tw14755837180040778122 tw12112046656969834911 tw15183278256850446656 tw3898025483042883502 tw2860625455967218041 tw7474110625303217618 tw3749981032232788647 tw13739559733273720611 tw13426483270452140963 tw891403536925747088 tw9827975679444942874 tw15821857285901955065 tw17770506351519693050 tw11731118115332178272 tw17635839991222006067 tw5184425859702789852 tw15864289377689554867 tw5172223620994202670 tw4812626007193347441 tw12698097512812223531 tw13327148203300985114 tw11090633379598396621 tw3313786629988088543 tw11973840974951100773 tw2818763017628692533 tw18395531343286743877 tw615020479664516694 tw2228842018948207275 tw17150246788535524788 tw14228749517431503139 tw849018712754152468 tw15468891006961988889 tw2727019034704460270 tw10285746653064434970 tw3898969313267492535 tw15116624308166986138 tw8738840499826765005 tw15184967342843022347 tw12161956200192023772 tw15586159225084691485 tw5461710716821293593 tw3817335653222066747 tw11257138459739330706 tw6103911724332967962 tw12820811749005101977 tw8002558009821174760 tw14542658068490515045 tw7479236232404524392 tw12360768736614511000 tw15943203388398181965 tw3571657241774287518 tw4721599104905230878 tw6138984679652812079 tw5524926718931868162 tw4405040968851792331 tw7040875432962103527 tw5334515388619773803 tw2234931177879925178 tw2059490547988856356 tw1880028631487066390 tw11552613239361126602 tw16595841634308532321 tw767132071608605553 tw5816984701844130304 tw3222801433956624041 tw2888606151784095876 tw4033055370561947343 tw8211725848369009291 tw4479472229909069657 tw15863872487283153308 tw7422354060378447308 tw9177119191273686814 tw16081864648750791453 tw8981512415255917375 tw2193836559423555105 tw18400693201034951546 tw1470685934069236745 tw9826401381822133651 tw18348395957744922549 tw4381518394761281704 tw649469291826570227 tw15365239285292230549 tw16874668946617035610 tw837689222341747846 tw10668962247397278081 tw148649334402161614 tw10827957814094470130 tw11447481981018004900 tw7988667527297796753 tw12227870978294268737 tw11212435823631371399 tw2241237642508269955 tw15572140768841420595 tw11077143551711788291 tw7729964203210183819 tw3244939480658218962 tw2635451858449514825 tw13461706515587487790 tw7752177934369187442 tw13724462995990749828 tw16568012516221606739 tw6727187749055470031 tw3277806995885024317 tw8598246560530481471 tw12115571152083823228 tw11223703630276481203 tw10732675466825040434 tw14572551963939253232 tw1736746994960722285 tw12521042547497093172 tw7990258137840709590 tw13015829180055117812 tw7538956637293895955 tw4697198772267408745 tw4526405892497787744 tw15392353293284008132 tw4996297298569542272 tw7904205174712044349 tw16071488051317706362 tw10050123138911091387 tw5329021625740598961 tw5218193294517188760 tw403384563386622855 tw3969588092605180984 tw17595049610675463958 tw3553586717574736764 tw2538159075496787965 tw681803836741438523 tw5222994274383078909 tw15563274639384702382 tw12634032647740995021 tw5441089881897093967 tw5179262343945691967 tw17837781438466447221 tw7276803232553609177 tw7037283682758306393 tw13828056904385270814 tw9430818380969353149 tw2138418460805880270 tw16225670134205077521 tw6015358494004703732 tw703586536458348414 tw14590788679214204439 tw6436501117208929522 tw5155037557356149633 tw2120487037109628721 tw12188985347427875261 tw8921093646165530554 tw6958578581587451675 tw2134598176029111476 tw1840704073032023795 tw9878874215342017047 tw14972145266004859439 tw17892089830081047263 tw10650984671920563655 tw6182247595745529479 tw8088664163365113700 tw6083657656602581467 tw4398942442076369397 tw552748696121042283 tw17437729791855027657 tw8930284129764299177 tw12771458739327228058 tw9224456832640674930 tw1955659641862270517 tw383072818925876959 tw9075188844893067914 tw3425343572139380520 tw16384358658230058655 tw11903274873037470504 tw825471158447553734 tw12680274498560660691 tw16891693430945414542 tw16368015592882039748 tw9545961814767079189 tw15459305935230861207 tw3966694219569089042 tw179573958534206726 tw10042180501056784675 tw2911906554290860812 tw12396912595021739895 tw15935966599510004173 tw9065557970021738035 tw5587441934336612262 tw2561133674847355197 tw16780054936310800949 tw13160180568500020259 tw961794625055580097 tw6616896329048294792 tw13437751202321926796 tw15233541756335563483 tw9204620792782755388 tw6009209472266797490 tw501178980675484911 tw1886234828122834333 tw13351505480519920107 tw5159671391650804275 tw14772599209155090257 tw10325009405035364356 tw3574991069576247726 tw17088572841609111290 tw13562941374648732759 tw2700088745402871364 tw1679995901739912330 tw12653766217983681122 tw4805123083469960879 tw8749919010085219036 tw8827935405434149051 tw8212458951219291967 tw81957964865207737 tw7876926570349994215 tw6062120893185462571 tw4878554885508829387 tw4811143561572332062 tw2333329401375356643 tw18229720817792347334 tw16378467251808044139 tw16324536789401388654 tw14784248629803058452 tw13714197743861908077 tw13532286928397435287 tw13315976921122809103 tw13182736737934679994 tw12010232397891565480 tw12963075866441755779 tw5068273730028497632 tw4555204849432576605 tw14385588941580113283 tw12652743876109115542 tw2640538907651203753 tw11323919735158611449 tw10117981241438054214 tw6193819118067274255 tw16103527103830968202 tw10763649675566926029 tw9926992721592278444 tw9868375198818301178 tw9842007426995390209 tw9721022926300741876 tw9583293283944516464 tw9540087532065591092 tw9536720835399846795 tw9137823291516183274 tw8833997589671182298 tw878819456331611784 tw8773067634329597556 tw8731086519419420766 tw8591230615722609946 tw8237217623208979208 tw8176467200916179311 tw814071905698109887 tw7983892124482898330 tw7956828386331349135 tw7881048450010829838 tw7736406482918869732 tw7647420623474980836 tw7498764870933528917 tw7489482702257167770 tw7409085161532469953 tw7376910758107082956 tw7198001306880744281 tw7127411960796101766 tw7097343438994894925 tw7066432156534415373 tw6704777758372750815 tw6671332348096500945 tw6550141436772166403 tw6539483285166108879 tw6415983710092315610 tw6401017925199830708 tw6332664321110488247 tw6090731573439256130 tw5979530311589066439 tw5836628293951820340 tw5707376966556217455 tw5706850466403966912 tw5363528982181026979 tw5134252197901713256 tw4539992961028762184 tw4420946406911850548 tw4295096007982143634 tw4281628100180833597 tw4272186913089996263 tw4255720332776130702 tw3794369300227763246 tw3616111549696345332 tw3542397078781855424 tw3334505145836838564 tw3276275818717795720 tw3014638335024315469 tw2984533738281761657 tw2936643606927595043 tw2813187852342336934 tw2534149893507972885 tw2462919351758981660 tw2088699755867316152 tw1897096760911799726 tw18402718839037289469 tw18386692795510904822 tw18371981384179201803 tw18128932661714104803 tw18060969467095940753 tw18018399257385880787 tw17606666610645516284 tw17581528050253368169 tw17372860233219859108 tw17227231845170322836 tw16993578963739383650 tw16911933072166079957 tw16773066276999769283 tw16670414613993633664 tw16421708179740559003 tw16212298443659758882 tw16186496133535130120 tw16128867524595770740 tw16090485580809770167 tw16076964800610388204 tw15945804544031847123 tw15837988241391985378 tw15778696229072693166 tw15647095050396394958 tw15568728972730170061 tw15238518112781724634 tw1519568155425775407 tw15132346164378138313 tw1492229213705458612 tw14833131987623937071 tw14766560952846954794 tw14712559223833526666 tw14659735483371974850 tw1370782809509628313 tw13432042210590563256 tw13354994109945706524 tw13346574472061044548 tw12761970825350974199 tw12761078932630817211 tw12463622769449751074 tw12231027873416175476 tw12177968642061328442 tw12162288035621095191 tw12160597919511896362 tw12048016081037401439 tw11416905125105789840 tw10760597818687021000 tw10379846068669612718 tw10339720882219387292 tw10199451201395528182 tw4668111940171517153 tw125946175513637704 tw15317226102843808908 tw2808840773556030892 tw16491582436263474222 tw9533783184448192110 tw10046685738913874004 tw9156872877752393021:Nat)
open PySem PySem.W PyProof.Rows
local macro_rules | `(tactic| walk_at "kf")=>`(tactic| (refine' D.ahv ?a ?l ?c ?k; (case a=>k_is); (case l=>k_is); (case c=>k_is); (case k=>k_is)))
local macro_rules | `(tactic| walk_at "km")=>`(tactic| (refine' D.agZ ?a ?i ?l ?c ?k; (case a=>k_is); (case i=>k_is); (case l=>k_is); (case c=>k_is); (case k=>k_is)))
local macro_rules | `(tactic| walk_at "kx")=>`(tactic| (refine' D.pxi_mk ?a ?i ?l ?c ?k ?m ?t ?n; (case a=>k_is); (case i=>k_is); (case l=>k_is); (case c=>k_is); (case k=>k_is); (case m=>kernel_rfl); (case t=>k_is); (case n=>k_is)))
local macro_rules | `(tactic| walk_at "ke")=>`(tactic| (refine' ⟨?a,?b,?c,?d,?e⟩; (case a=>kernel_rfl); (case b=>k_is); (case c=>k_is); (case d=>k_is); (case e=>k_is)))
set_option maxRecDepth 100000
set_option maxHeartbeats 0
theorem PySem.Challenge.cw_placedworks_k58_whole_late_sheets_harmle_holds : PySem.Challenge.rw_placedworks_k58_whole_late_sheets_harmle.Holds := by
 w_on;o_law;k_head; (case hw=>w_witness2)
 k_fill
 refine K58.walk (l:=PySem.Challenge.rw_placedworks_k58_whole_late_sheets_harmle) ?Q rfl rfl ?T (λ w h Y=>⟨PySem.W.km_in_of Y,PySem.W.km_tabs_of Y⟩) ?F
 case Q=>kernel_rfl
 case T=>(intro w;exact⟨by kernel_rfl,by kernel_rfl⟩)
 case F =>
  intro w mg fa h KX G hmg;refine' K58.all_mk KX G hmg ?v0 ?v1 ?v2 ?v3 ?v4 ?v5 ?v6 ?v7 ?v8 ?v9 ?v10 ?v11 ?v12 ?v13 ?v14 ?v15 ?v16 ?v17 ?v18 ?v19 ?v20 ?v21 ?v22 ?v23 ?v24 ?v25 ?v26 ?v27 ?v28 ?v29 ?v30 ?v31 ?v32 ?v33 ?v34 ?v35 ?v36 ?v37 ?v38 ?v39 ?v40 ?v41 ?v42 ?v43 ?v44 ?v45 ?v46 ?v47 ?v48 ?v49 ?v50 ?v51 ?v52 ?v53 ?v54 ?v55 ?v56 ?v57 ?v58 ?v59 ?v60 ?v61 ?v62 ?v63 ?v64 ?v65 ?v66 ?v67 ?v68 ?v69 ?v70 ?v71 ?v72 ?v73 ?v74 ?v75 ?v76 ?v77 ?v78 ?v79 ?v80 ?v81 ?v82 ?v83 ?v84 ?v85 ?v86 ?v87 ?v88 ?v89 ?v90 ?v91 ?v92 ?v93 ?v94 ?v95 ?v96 ?v97 ?v98 ?v99 ?v100 ?v101 ?v102 ?v103 ?v104 ?v105 ?v106
  (case v0 | v1 | v31 | v33 | v35 | v37 | v43 | v44 | v47 | v48 | v53 | v56=>walk_at "kf")
  (case v2 | v3 | v4 | v5 | v6 | v7 | v8 | v9 | v10 | v11 | v12 | v13 | v14 | v15 | v16 | v19 | v20 | v21 | v22 | v23 | v25 | v26 | v27 | v28 | v57 | v58 | v59 | v60 | v61 | v62 | v63 | v64 | v65 | v66 | v67 | v68 | v69 | v70 | v71 | v72 | v73 | v74 | v75 | v76 | v77 | v78 | v79 | v80 | v81 | v83 | v84 | v85 | v86 | v87 | v88 | v89 | v90 | v91 | v92 | v93 | v94 | v95 | v96 | v97 | v98 | v99 | v100 | v101 | v102 | v103 | v104 | v105 | v106=>k_is)
  (case v17 | v18 | v29 | v30 | v32 | v34 | v36 | v38 | v39 | v40 | v41 | v42 | v45 | v46 | v49 | v50 | v51 | v52 | v54 | v55=>walk_at "km")
  (case v24=>exact rfl)
  (case v82=>kernel_rfl)
