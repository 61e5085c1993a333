import PyProof.Rows.All
import Wide.All
import OpenK.AllK
import Wide.FinOn
import Lean
import PyProof.EqAt
import PyProof.EqKinds
import PyProof.TupleCall
import KE.KSortTup
import KE.KDictSum
import PyProof.Rows.Range3
import PyProof.Rows.SortRev
import PyProof.StrBlock2
import PyProof.ZipIter
import PyProof.Rows.ZipGen
import PyProof.NeKinds
import PyProof.DictCompW
import PyProof.DictWalks
import PyProof.AttrMissHeap
import PyProof.WalksS
import KE.KDictOf
import KE.KListMore
import KE.KEqDict
import PyProof.StationsW
import PyProof.InstStoreFacts
import PyProof.ExcBaseAll.ValueError
import PyProof.ExcClass2
import PyProof.RulesAs
import KE.KTryMore
import PyProof.ExcArgs
import KE.KIsAll
import OpenK.KOwn
import PyProof.P3In
import PyProof.DictUpdate
import PyProof.MeetsSeq2
import KE.KIntText
import KE.KRevSl
import PyProof.Rows.StrLawsPart
import PyProof.EnumMake
import PyProof.Draws
import PyProof.ListRange
import PyProof.TupleOfStr
import KE.KLam
import KE.KNestM
import KE.KMinKey
import PySem.Challenge.RW_placedworks_k21_books_made
set_option genSizeOf false
set_option genSizeOfSpec false
set_option bootstrap.genMatcherCode false
set_option Elab.async false
set_option linter.all false
set_option maxRecDepth 100000
namespace L2
open PySem PySem.Spec PyProof.Rows
noncomputable abbrev Key:=Sum Int Str
noncomputable def keyIs:Key->Value->Bool
 | .inl k,v=>Value.isInt k v
 | .inr x,v=>Value.isStrOf x v
noncomputable def keyH (w:World):Key->Int
 | .inl k=>hashInt k
 | .inr x=>hashStr w x
theorem keyIs_shape:∀ {k:Key} {v:Value},keyIs k v=true->(∃ i t,k=Sum.inl i/\v=Value.int i t)\/(∃ x t,k=Sum.inr x/\v=Value.str x t)
 | .inl i,v,h=>by
  obtain ⟨t,e⟩:=Value.isInt_shape (k:=i) (v:=v) h
  exact .inl ⟨i,t,rfl,e⟩
 | .inr x,v,h=>by
  obtain ⟨t,e⟩:=Value.isStrOf_shape (x:=x) (v:=v) h
  exact .inr ⟨x,t,rfl,e⟩
theorem keyIs_int (i:Int)(t:Tok):keyIs (.inl i) (.int i t)=true:=by simp [keyIs,Value.isInt]
theorem keyIs_str (x:Str)(t:Tok):keyIs (.inr x) (.str x t)=true:=by simp [keyIs,Value.isStrOf]
theorem key_ll (a b:Int):decide ((Sum.inl a:Key)=Sum.inl b)=(a == b):=by
 by_cases e:a=b
 ·subst e; simp
 ·have h:¬ (Sum.inl a:Key)=Sum.inl b:=λ q=>e (Sum.inl.inj q)
  rw [decide_eq_false h]
  exact (beq_eq_false_iff_ne.mpr e).symm
theorem key_rr (a b:Str):decide ((Sum.inr a:Key)=Sum.inr b)=decide (a=b):=by
 by_cases e:a=b
 ·subst e; simp
 ·have h:¬ (Sum.inr a:Key)=Sum.inr b:=λ q=>e (Sum.inr.inj q)
  rw [decide_eq_false h,decide_eq_false e]
theorem key_lr (a:Int)(b:Str):decide ((Sum.inl a:Key)=Sum.inr b)=false:=decide_eq_false (λ q=>nomatch q)
theorem key_rl (a:Str)(b:Int):decide ((Sum.inr a:Key)=Sum.inl b)=false:=decide_eq_false (λ q=>nomatch q)
noncomputable def mixKind (prog:Program)(w:World):PySem.KeyKind prog w Key where
 is:=keyIs
 hash:=keyH w
 inj:=λ v a b ha hb=>by
  rcases keyIs_shape ha with ⟨i,t,rfl,rfl⟩ | ⟨x,t,rfl,rfl⟩
  ·rcases keyIs_shape hb with ⟨j,u,rfl,e⟩ | ⟨y,u,rfl,e⟩
   ·injection e with e1 _; rw [e1]
   ·exact nomatch e
  ·rcases keyIs_shape hb with ⟨j,u,rfl,e⟩ | ⟨y,u,rfl,e⟩
   ·exact nomatch e
   ·injection e with e1 _; rw [e1]
 byValue:=λ k v h=>by
  rcases keyIs_shape h with ⟨i,t,rfl,rfl⟩ | ⟨x,t,rfl,rfl⟩ <;> rfl
 pyHash:=λ hv h=>by
  rcases keyIs_shape hv with ⟨i,t,rfl,rfl⟩ | ⟨x,t,rfl,rfl⟩
  ·exact wpAny_pyHash_int h
  ·exact wpAny_pyHash_str h
 eqBool:=λ hu hv h=>by
  rcases keyIs_shape hu with ⟨i,t,rfl,rfl⟩ | ⟨x,t,rfl,rfl⟩
  ·rcases keyIs_shape hv with ⟨j,u,rfl,rfl⟩ | ⟨y,u,rfl,rfl⟩
   ·rw [key_ll] at h; exact wpAny_eqBool_int h
   ·rw [key_lr] at h; exact SeqAt.EqAt.int_str i t y u _ _ _ _ h
  ·rcases keyIs_shape hv with ⟨j,u,rfl,rfl⟩ | ⟨y,u,rfl,rfl⟩
   ·rw [key_rl] at h; exact SeqAt.EqAt.str_int x t j u _ _ _ _ h
   ·rw [key_rr] at h; exact wpAny_eqBool_str h
 «strs»:=λ k x t v h=>by
  rcases keyIs_shape h with ⟨i,u,rfl,e⟩ | ⟨y,u,rfl,e⟩
  ·exact nomatch e
  ·injection e with e1 _
   subst e1
   cases v <;> rfl
theorem mixKind_int (prog:Program)(w:World)(i:Int)(t:Tok):(mixKind prog w).is (.inl i) (.int i t)=true:=keyIs_int i t
theorem mixKind_str (prog:Program)(w:World)(x:Str)(t:Tok):(mixKind prog w).is (.inr x) (.str x t)=true:=keyIs_str x t
end L2
namespace L2
open PySem PySem.Spec PyProof.Rows
inductive V where
 | non | bl (b:Bool) | int (i:Int) | str (x:Str) | byt (b:Array UInt8) | flt (b:UInt64) | ref (a:Addr) | ty (n:String)
 deriving DecidableEq
noncomputable def RelV:V->Value->Prop
 | .non,u=>u=Value.none
 | .bl b,u=>u=Value.bool b
 | .int i,u=>∃ t,u=Value.int i t
 | .str x,u=>∃ t,u=Value.str x t
 | .byt b,u=>∃ t,u=Value.bytes b t
 | .flt b,u=>∃ t,u=Value.float b t
 | .ref a,u=>u=Value.ref a
 | .ty n,u=>u=Value.type n
noncomputable abbrev Vals:List V->List Value->Prop:=Paired RelV
theorem Vals.length {xs:List V}{us:List Value}(r:Vals xs us):xs.length=us.length:=Paired.length r
theorem Vals.get:∀ {xs:List V} {us:List Value} {i:Nat} {x:V},Vals xs us->xs[i]? = some x->∃ u,us[i]? = some u/\RelV x u
 | _,_,_,_,.nil,e=>by simp at e
 | _,_,0,_,.cons r _,e=>by simp at e; subst e; exact ⟨_,rfl,r⟩
 | _,_,i+1,x,.cons _ t,e=>by
  obtain ⟨u,h1,h2⟩:=Vals.get (i:=i) (x:=x) t (by simpa using e)
  exact ⟨u,by simpa using h1,h2⟩
theorem Vals.set {x:V}{u:Value}(r:RelV x u):∀ {xs:List V} {us:List Value} (i:Nat),Vals xs us->Vals (xs.set i x) (us.set i u)
 | _,_,_,.nil=>.nil
 | _,_,0,.cons _ t=>.cons r t
 | _,_,i+1,.cons q t=>.cons q (Vals.set r i t)
theorem Vals.append:∀ {xs ys:List V} {us ws:List Value},Vals xs us->Vals ys ws->Vals (xs++ys) (us++ws)
 | _,_,_,_,.nil,s=>s
 | _,_,_,_,.cons r t,s=>.cons r (Vals.append t s)
theorem Vals.take:∀ {xs:List V} {us:List Value} (n:Nat),Vals xs us->Vals (xs.take n) (us.take n)
 | _,_,0,_=>.nil
 | _,_,_+1,.nil=>.nil
 | _,_,n+1,.cons r t=>.cons r (Vals.take n t)
theorem Vals.drop:∀ {xs:List V} {us:List Value} (n:Nat),Vals xs us->Vals (xs.drop n) (us.drop n)
 | _,_,0,r=>r
 | _,_,_+1,.nil=>.nil
 | _,_,n+1,.cons _ t=>Vals.drop n t
theorem Vals.none_of:∀ {xs:List V} {us:List Value} {i:Nat},Vals xs us->xs[i]? = none->us[i]? = none:=λ {xs us i} r e=>by
 have h1:=r.length
 have h2:xs.length<=i:=List.getElem?_eq_none_iff.mp e
 exact List.getElem?_eq_none_iff.mpr (by omega)
noncomputable def RelO:Option V->Option Value->Prop
 | some v,some u=>RelV v u
 | none,none=>True
 | _,_=>False
noncomputable def KV {κ:Type}:List (κ×V)->List (κ×Value)->Prop:=Paired λ (p:κ×V) (q:κ×Value)=>p.1=q.1/\RelV p.2 q.2
noncomputable def kV:Key->V
 | .inl i=>.int i
 | .inr x=>.str x
inductive HO where
 | lst (xs:List V)
 | tup (xs:List V)
 | dK (kvs:List (Key×V)) | dT (kvs:List (List Key×V))
 | set (S:Int->Bool) (n:Nat)
 | ins (C dx:Addr) (fs:List (Str×V))
 | own (x:Addr)
 | xd (fs:List (Str×V))
 | met (f x:Addr)
 | rng (lo hi:Int)
 | frz (o:Obj) (u:HO)
 | tbl (ps:Array Value)
 | ext (φ:Heap->Prop)
noncomputable abbrev Hp:=Addr->Option HO
noncomputable def upd (H:Hp)(a:Addr)(o:HO):Hp:=λ b=>if b=a then some o else H b
theorem upd_same {H:Hp}{a:Addr}{o:HO}:upd H a o a=some o:=by unfold upd; rw [if_pos rfl]
theorem upd_ne {H:Hp}{a b:Addr}{o:HO}(h:b≠a):upd H a o b=H b:=by unfold upd; rw [if_neg h]
theorem upd_upd {H:Hp}{a:Addr}{o u:HO}:upd (upd H a o) a u=upd H a u:=by
 funext b; unfold upd; split <;> rfl
theorem ne_of {H:Hp}{a b:Addr}{o u:HO}(h:H a=some o)(h':H b=some u)(d:o≠u):a≠b:=by
 intro e; subst e; rw [h] at h'; exact d (Option.some.inj h')
theorem ne_of_none {H:Hp}{a b:Addr}{o:HO}(h:H a=some o)(h':H b=none):a≠b:=by
 intro e; subst e; rw [h] at h'; cases h'
noncomputable def TupN (h:Heap)(a:Addr)(items:Array Value):Prop:=∃ o,h.get? a=some o/\o.cls=.type "tuple" /\ o.dict=none/\∃ n,o.data=.seq items n
theorem TupN.tup {h:Heap}{a:Addr}{items:Array Value}(x:TupN h a items):IsTup h a items:=let ⟨o,h1,h2,_,h3⟩:=x; ⟨o,h1,h2,h3⟩
theorem TupN.new (h:Heap)(items:Array Value):TupN (h.push { cls:=.type "tuple",data:=.seq items }) h.objs.size items:=⟨_,Heap.get?_push_size _ rfl,rfl,rfl,_,rfl⟩
section
variable (P:Program)(w:World)
noncomputable def ObjOk (H:Hp)(h:Heap)(a:Addr):HO->Prop
 | .lst xs=>xs.length<=sizeLine/\∃ (its:List Value) (n:Nat),Vals xs its/\h.get? a=some { cls:=.type "list",data:=.seq its.toArray n }
 | .tup xs=>xs.length<=sizeLine/\∃ its:List Value,Vals xs its/\TupN h a its.toArray
 | .dK kvs=>kvs.length<=sizeLine/\(a == sysModules)=false/\∃ vs,KV kvs vs/\h.DictOf (mixKind P w) a vs
 | .dT kvs=>kvs.length<=sizeLine/\(a == sysModules)=false/\∃ xs:List (List Key×Addr×Value),
   Paired (λ (p:List Key×V) (q:List Key×Addr×Value)=>p.1=q.1/\H q.2.1=some (.tup (p.1.map kV))/\RelV p.2 q.2.2) kvs xs /\
   ∃ o es ep,h.get? a=some o/\o.ExactDict/\o.data=.dict es ep/\es.toList=xs.map (entryOfKey (tupleKind (mixKind P w)))/\(xs.map (·.1)).Nodup
 | .set S n=>h.SetOf (intKind P w) a S n
 | .ins C dx fs=>H dx=some (.own a)/\fs.length<=1000/\dx≠a/\h.get? a=some (PySem.W.instObj C dx) /\
   ∃ mA,h.Ns1 dx mA/\(∀ f,RelO (fs.lookup f) (mA f))/\PySem.Within mA (fs.map (·.1))
 | .own _=>∃ o,h.get? a=some o
 | .xd fs=>∃ mA,h.Ns1 a mA/\∀ f,RelO (fs.lookup f) (mA f)
 | .rng lo hi=>∃ t u v,h.get? a=some { cls:=.type "range",data:=.fields #[.int lo t,.int hi u,.int 1 v] }
 | .frz o u=>h.get? a=some o/\ObjOk H h a u
 | .tbl ps=>h.get? a=some { cls:=.none,data:=.fields ps }
 | .met f x=>h.get? a=some (PySem.W.methodObj (.ref f) (.ref x))
 | .ext φ=>φ h/\(∃ o,h.get? a=some o)/\∀ h1 h2:Heap,φ h1->(∀ o,h1.get? a=some o->h2.get? a=some o)->φ h2
noncomputable def HOk (H:Hp)(h:Heap):Prop:=∀ a o,H a=some o->ObjOk P w H h a o
end
section
variable {P:Program}{w:World}{H H':Hp}{h h':Heap}{a:Addr}{o:HO}
theorem ObjOk.lt (x:ObjOk P w H h a o):a < h.objs.size:=by
 cases o with
 | lst xs=>obtain ⟨_,_,_,_,e⟩:=x; exact Heap.lt_size e
 | tup xs=>obtain ⟨_,_,_,p⟩:=x; exact p.tup.lt
 | dK kvs=>obtain ⟨_,_,_,_,o,_,_,e,_⟩:=x; exact Heap.lt_size e
 | dT kvs=>obtain ⟨_,_,_,_,o,_,_,e,_⟩:=x; exact Heap.lt_size e
 | set S n=>obtain ⟨o,_,_,_,e,_⟩:=x; exact Heap.lt_size e
 | ins C dx fs=>obtain ⟨_,_,_,e,_⟩:=x; exact Heap.lt_size e
 | own y=>obtain ⟨_,e⟩:=x; exact Heap.lt_size e
 | xd fs=>obtain ⟨_,⟨_,_,_,e,_⟩,_⟩:=x; exact Heap.lt_size e
 | rng lo hi=>obtain ⟨_,_,_,e⟩:=x; exact Heap.lt_size e
 | frz ob u=>obtain ⟨e,_⟩:=x; exact Heap.lt_size e
 | tbl ps=>exact Heap.lt_size (show h.get? a=some _ from x)
 | met f y=>exact Heap.lt_size (show h.get? a=some _ from x)
 | ext φ=>obtain ⟨_,⟨_,e⟩,_⟩:=x; exact Heap.lt_size e
theorem Paired.mapP {α β:Type}{F G:α->β->Prop}:∀ {l₁:List α} {l₂:List β},Paired F l₁ l₂->(∀ a b,F a b->G a b)->Paired G l₁ l₂
 | _,_,.nil,_=>.nil
 | _,_,.cons r t,f=>.cons (f _ _ r) (Paired.mapP t f)
theorem ObjOk.stay (x:ObjOk P w H h a o)(k:∀ b u,(b=a\/H b=some (.own a))->h.get? b=some u->h'.get? b=some u)
  (ho:∀ b,H b=some (.own a)->H' b=some (.own a))(ht:∀ b xs,H b=some (.tup xs)->H' b=some (.tup xs)):ObjOk P w H' h' a o:=by
 induction o with
 | lst xs=>obtain ⟨z,its,n,r,e⟩:=x; exact ⟨z,its,n,r,k _ _ (.inl rfl) e⟩
 | tup xs=>obtain ⟨z,its,r,ob,e,c⟩:=x; exact ⟨z,its,r,ob,k _ _ (.inl rfl) e,c⟩
 | dK kvs=>obtain ⟨z,y,vs,r,ob,es,ep,e,c⟩:=x; exact ⟨z,y,vs,r,ob,es,ep,k _ _ (.inl rfl) e,c⟩
 | dT kvs =>
  obtain ⟨z,y,xs,r,ob,es,ep,e,c⟩:=x
  exact ⟨z,y,xs,Paired.mapP r λ p q z=>⟨z.1,ht _ _ z.2.1,z.2.2⟩,ob,es,ep,k _ _ (.inl rfl) e,c⟩
 | set S n=>obtain ⟨ob,es,ep,t,e,c⟩:=x; exact ⟨ob,es,ep,t,k _ _ (.inl rfl) e,c⟩
 | ins C dx fs =>
  obtain ⟨d,z,ne,e,mA,⟨od,es,ep,e2,c⟩,r⟩:=x
  exact ⟨ho _ d,z,ne,k _ _ (.inl rfl) e,mA,⟨od,es,ep,k _ _ (.inr d) e2,c⟩,r⟩
 | own y=>obtain ⟨ob,e⟩:=x; exact ⟨ob,k _ _ (.inl rfl) e⟩
 | xd fs=>obtain ⟨mA,⟨od,es,ep,e,c⟩,r⟩:=x; exact ⟨mA,⟨od,es,ep,k _ _ (.inl rfl) e,c⟩,r⟩
 | rng lo hi=>obtain ⟨t,u,v,e⟩:=x; exact ⟨t,u,v,k _ _ (.inl rfl) e⟩
 | frz ob u ih=>obtain ⟨e,q⟩:=x; exact ⟨k _ _ (.inl rfl) e,ih q⟩
 | tbl ps =>
  have e:h.get? a=some { cls:=.none,data:=.fields ps }:=x
  show h'.get? a=some { cls:=.none,data:=.fields ps }
  exact k a _ (.inl rfl) e
 | met f y =>
  have e:h.get? a=some (PySem.W.methodObj (.ref f) (.ref y)):=x
  show h'.get? a=some (PySem.W.methodObj (.ref f) (.ref y))
  exact k a _ (.inl rfl) e
 | ext φ=>obtain ⟨p,⟨o,e⟩,st⟩:=x; exact ⟨st _ _ p λ o q=>k _ _ (.inl rfl) q,⟨o,k _ _ (.inl rfl) e⟩,st⟩
theorem HOk.lt (x:HOk P w H h)(e:H a=some o):a < h.objs.size:=(x a o e).lt
theorem HOk.fresh (x:HOk P w H h)(e:h.objs.size<=a):H a=none:=by
 cases q:H a with
 | none=>rfl
 | some u=>exact absurd (Nat.lt_of_lt_of_le (x.lt q) e) (Nat.lt_irrefl _)
theorem HOk.kept (x:HOk P w H h)(k:∀ b u,h.get? b=some u->h'.get? b=some u):HOk P w H h':=λ a o e =>
 (x a o e).stay (λ b u _ q=>k b u q) (λ _ q=>q) λ _ _ q=>q
theorem HOk.laid (x:HOk P w H h)(k:∀ b u,h.get? b=some u->h'.get? b=some u)(hp:h.objs.size<=a)(new:ObjOk P w (upd H a o) h' a o):HOk P w (upd H a o) h':=λ b u e=>by
 have hn:=x.fresh hp
 by_cases hb:b=a
 ·subst hb; rw [upd_same] at e; cases e; exact new
 ·rw [upd_ne hb] at e
  exact (x b u e).stay (λ c v _ q=>k c v q) (λ c q=>by rw [upd_ne (ne_of_none q hn)]; exact q) λ c xs q=>by rw [upd_ne (ne_of_none q hn)]; exact q
end
noncomputable def Rd (H:Hp)(a:Addr)(u:HO):Prop:=H a=some u\/∃ o,H a=some (.frz o u)
theorem Rd.of {H:Hp}{a:Addr}{u:HO}(h:H a=some u):Rd H a u:=.inl h
theorem Rd.ok {P:Program}{w:World}{H:Hp}{h:Heap}{a:Addr}{u:HO}(r:Rd H a u)(x:HOk P w H h):ObjOk P w H h a u:=by
 rcases r with r | ⟨o,r⟩
 ·exact x a u r
 ·obtain ⟨_,q⟩:=x a _ r
  exact q
noncomputable def Mut:Option HO->Prop
 | some (.lst _)=>True
 | some (.dK _)=>True
 | some (.dT _)=>True
 | some (.set _ _)=>True
 | some (.ins _ _ _)=>True
 | some (.ext _)=>True
 | _=>False
section
variable {P:Program}{w:World}{H:Hp}{h h':Heap}{x e:Addr}{o':HO}
theorem HOk.write (ok:HOk P w H h)(mu:Mut (H x))(he:e=x\/H e=some (.own x))(k:∀ b u,b≠e->h.get? b=some u->h'.get? b=some u)(heo:∃ u,h'.get? e=some u)
  (new:ObjOk P w (upd H x o') h' x o'):HOk P w (upd H x o') h':=λ b u q=>by
 have nown:∀ c y,H c=some (.own y)->c≠x:=λ c y r z=>by subst z; rw [r] at mu; exact mu
 have ntup:∀ c xs,H c=some (.tup xs)->c≠x:=λ c xs r z=>by subst z; rw [r] at mu; exact mu
 by_cases hb:b=x
 ·subst hb; rw [upd_same] at q; cases q; exact new
 ·rw [upd_ne hb] at q
  by_cases hbe:b=e
  ·have q':H b=some (.own x):=by
    rcases he with z | z
    ·exact absurd (hbe.trans z) hb
    ·rw [hbe]; exact z
   rw [q] at q'; cases q'
   obtain ⟨v,hv⟩:=heo
   exact ⟨v,by rw [hbe]; exact hv⟩
  ·refine (ok b u q).stay (λ c v hc r=>k c v ?_ r) (λ c r=>by rw [upd_ne (nown c b r)]; exact r) λ c xs r=>by rw [upd_ne (ntup c xs r)]; exact r
   rcases hc with rfl | hc
   ·exact hbe
   ·rintro rfl
    rcases he with z | z
    ·exact nown c b hc z
    ·rw [hc] at z; cases z; exact hb rfl
end
structure Un (fs ex:List Addr)(H H':Hp)(h h':Heap):Prop where
 keep:∀ b o,h.get? b=some o->H b=none->b ∉ fs->b ∉ ex->h'.get? b=some o
 slot:∀ b o,h.get? b=some o->H b=none->b∈fs->b ∉ ex->∃ sl,h'.get? b=some { o with slots:=sl }
 free:∀ b o,h.get? b=some o->H b=none->b ∉ ex->H' b=none
 there:∀ b o,h.get? b=some o->b ∉ ex->∃ o',h'.get? b=some o'
 tups:∀ b xs,H b=some (.tup xs)->H' b=some (.tup xs)
 frzs:∀ b o u,H b=some (.frz o u)->H' b=some (.frz o u)
 tbls:∀ b ps,H b=some (.tbl ps)->∃ more,H' b=some (.tbl (ps++more))
section
variable {fs fs' ex ex':List Addr}{H H1 H2:Hp}{h h1 h2 h':Heap}{a x e:Addr}{o:HO}
theorem Un.any (u:Un fs ex H H1 h h1){b:Addr}{ob:Obj}(q:h.get? b=some ob)(n:H b=none)(hx:b ∉ ex):∃ sl,h1.get? b=some { ob with slots:=sl }:=by
 by_cases hb:b∈fs
 ·exact u.slot b ob q n hb hx
 ·exact ⟨ob.slots,u.keep b ob q n hb hx⟩
theorem Un.trans (a:Un fs ex H H1 h h1)(b:Un fs ex H1 H2 h1 h2):Un fs ex H H2 h h2 where
 keep:=λ c ob q n hc hx=>b.keep c ob (a.keep c ob q n hc hx) (a.free c ob q n hx) hc hx
 slot:=λ c ob q n hc hx=>by
  obtain ⟨sl,e1⟩:=a.slot c ob q n hc hx
  obtain ⟨sl',e2⟩:=b.slot c _ e1 (a.free c ob q n hx) hc hx
  exact ⟨sl',e2⟩
 free:=λ c ob q n hx=>by
  obtain ⟨o',e1⟩:=a.there c ob q hx
  exact b.free c o' e1 (a.free c ob q n hx) hx
 there:=λ c ob q hx=>by
  obtain ⟨o',e1⟩:=a.there c ob q hx
  exact b.there c o' e1 hx
 tups:=λ c xs q=>b.tups c xs (a.tups c xs q)
 frzs:=λ c ob xs q=>b.frzs c ob xs (a.frzs c ob xs q)
 tbls:=λ c ps q=>by
  obtain ⟨m1,e1⟩:=a.tbls c ps q
  obtain ⟨m2,e2⟩:=b.tbls c _ e1
  exact ⟨m1++m2,by rw [e2,Array.append_assoc]⟩
theorem Un.kept (k:∀ b u,h.get? b=some u->h'.get? b=some u):Un fs ex H H h h' :=
 ⟨λ b ob q _ _ _=>k b ob q,λ b ob q _ _ _=>⟨ob.slots,k b ob q⟩,λ _ _ _ n _=>n,λ b ob q _=>⟨ob,k b ob q⟩,λ _ _ q=>q,λ _ _ _ q=>q,λ _ ps q=>⟨#[],by rw [q]; simp⟩⟩
theorem Un.refl:Un fs ex H H h h:=Un.kept λ _ _ q=>q
theorem Un.laid (k:∀ b u,h.get? b=some u->h'.get? b=some u)(hp:h.objs.size<=a)(hn:H a=none):Un fs ex H (upd H a o) h h' where
 keep:=λ b u q _ _ _=>k b u q
 slot:=λ b u q _ _ _=>⟨u.slots,k b u q⟩
 free:=λ b u q n _=>by rw [upd_ne (Nat.ne_of_lt (Nat.lt_of_lt_of_le (Heap.lt_size q) hp))]; exact n
 there:=λ b u q _=>⟨u,k b u q⟩
 tups:=λ b xs q=>by rw [upd_ne (ne_of_none q hn)]; exact q
 frzs:=λ b u xs q=>by rw [upd_ne (ne_of_none q hn)]; exact q
 tbls:=λ b ps q=>⟨#[],by rw [upd_ne (ne_of_none q hn),q]; simp⟩
theorem Un.write (mu:Mut (H x))(he:e=x\/H e=some (.own x))(k:∀ b u,b≠e->h.get? b=some u->h'.get? b=some u)(heo:∃ u,h'.get? e=some u):Un fs ex H (upd H x o) h h':=by
 have hx:∀ b,H b=none->b≠x:=λ b n z=>by subst z; rw [n] at mu; exact mu
 have hb:∀ b,H b=none->b≠e:=λ b n z=>by
  subst z
  rcases he with r | r
  ·exact hx b n r
  ·rw [n] at r; cases r
 have hm:∀ b u,H b=some u->¬ Mut (some u)->b≠x:=λ b u q nm z=>by subst z; rw [q] at mu; exact nm mu
 refine ⟨λ b u q n _ _=>k b u (hb b n) q,λ b u q n _ _=>⟨u.slots,k b u (hb b n) q⟩,λ b u q n _=>by rw [upd_ne (hx b n)]; exact n,λ b u q _=>?_,
  λ b xs q=>by rw [upd_ne (hm b _ q λ z=>z)]; exact q,λ b u xs q=>by rw [upd_ne (hm b _ q λ z=>z)]; exact q,λ b ps q=>⟨#[],by rw [upd_ne (hm b _ q λ z=>z),q]; simp⟩⟩
 by_cases hbe:b=e
 ·subst hbe; exact heo
 ·exact ⟨u,k b u hbe q⟩
theorem Un.mono (u:Un fs ex H H1 h h1)(hs:∀ b∈fs,b∈fs')(hx:∀ b∈ex,b∈ex'):Un fs' ex' H H1 h h1 :=
 ⟨λ b ob q n hb he=>u.keep b ob q n (λ z=>hb (hs b z)) λ z=>he (hx b z),λ _ _ q n _ he=>u.any q n λ z=>he (hx _ z),λ b ob q n he=>u.free b ob q n λ z=>he (hx b z),λ b ob q he=>u.there b ob q λ z=>he (hx b z),u.tups,u.frzs,u.tbls⟩
end
noncomputable def trk (h:Heap)(H:Hp):List Addr:=(List.range h.objs.size).filter λ a=>(H a).isSome
noncomputable def hidT (h:Heap)(H:Hp):Heap:=PySem.W.hideAll h (trk h H)
theorem hidT_size (h:Heap)(H:Hp):(hidT h H).objs.size=h.objs.size:=PySem.W.hideAll_size _ _
theorem hidT_get {h:Heap}{H:Hp}{b:Addr}{o:Obj}(e:h.get? b=some o)(n:H b=none):(hidT h H).get? b=some o :=
 PySem.W.hideAll_get _ e λ hm=>by
  have q:(H b).isSome=true:=(List.mem_filter.mp hm).2
  rw [n] at q; simp at q
theorem of_hidT {h:Heap}{H:Hp}{b:Addr}{o:Obj}(e:(hidT h H).get? b=some o):h.get? b=some o/\H b=none:=by
 have e':h.get? b=some o:=PySem.W.of_hideAll (trk h H) e
 refine ⟨e',?_⟩
 cases q:H b with
 | none=>rfl
 | some x =>
  have hm:b∈trk h H:=List.mem_filter.mpr ⟨List.mem_range.mpr (Heap.lt_size e'),by simp [q]⟩
  have z:(hidT h H).get? b=none:=PySem.W.hideAll_none (trk h H) hm
  rw [z] at e; cases e
noncomputable def allNews (g h:Heap)(L:Addr):List (Addr×Obj):=(List.range h.objs.size).filterMap λ a=>if a=L\/(g.get? a).isSome=true then none else (h.get? a).map λ o=>(a,o)
noncomputable def rest (g h:Heap)(L d:Addr):List (Addr×Obj):=(allNews g h L).filter λ p=>decide (p.1≠d)
end L2
namespace L2
open PySem PySem.Spec PyProof.Rows
noncomputable def BM (mg:Str->Option Value)(h:Heap):Prop:=(∃ bm o,mg "__builtins__" = some (.ref bm)/\bm≠builtinsNs/\h.get? bm=some o/\o.cls=.type "module" /\ o.dict=some builtinsNs/\o.data=.plain)/\∃ mm,h.Ns sysModules mm
structure Mod (K:PySem.W.Frag)(mg:Str->Option Value)(base:Heap):Prop where
 kin:K.In base
 glob:base.Ns mainGlobals mg
 blt:∃ mb,base.Ns builtinsNs mb/\∀ x:Str,x ≠ "__name__" -> mb x=bootBuiltins x
 nolimit:base.NoLimit
 bm:BM mg base
structure Cx where
 prog:Program
 w:World
 K:PySem.W.Frag
 mg:Str->Option Value
 base:Heap
 A:Around
 N:List Str
 s₀:Shared
 H₀:Hp
 env:Env
 outer:List Env
 stack:List Env
 ex:List Addr
 fn:Str->Bool
 calm:Bool
 pn:List (Addr×Obj)
 xe:Value->Shared->Prop
noncomputable def frs (l:List Env):List Addr:=l.filterMap (·.frame)
noncomputable abbrev Cx.fs (X:Cx):List Addr:=frs X.outer
noncomputable def Vis (sc:Scope)(x:Str):Prop:=sc.names.lookup x=some .local\/sc.names.lookup x=some .cell\/sc.names.lookup x=some .free
noncomputable def Loc (sc:Scope)(x:Str):Prop:=sc.names.lookup x=some .local\/sc.names.lookup x=some .cell
noncomputable def Look (env:Env)(h:Heap)(m:Str->Option Value)(x:Str)(u:Value):Prop :=
 (env.kindOf x=some .local/\m x=some u)\/((env.kindOf x=some .cell\/env.kindOf x=some .free)/\∃ c,env.cells.lookup x=some c/\h.IsCell c (some u))
structure Cx.Ok (X:Cx):Prop where
 mod:Mod X.K X.mg X.base
 kind:X.env.scope.kind=.function
 glob:X.env.globals=mainGlobals
 blt:X.env.builtins=builtinsNs
 above:X.s₀.heap.objs.size<=X.env.locals
 inj:∀ x y c,X.env.cells.lookup x=some c->X.env.cells.lookup y=some c->x=y
 has:∀ x,(X.env.kindOf x=some .cell\/X.env.kindOf x=some .free)->∃ c,X.env.cells.lookup x=some c
 cab:∀ x c,X.fn x=true->X.env.cells.lookup x=some c->X.s₀.heap.objs.size<=c
 hd:X.calm=true->X.A.handled=none
 frames:X.A.frames=some X.stack
 stk:X.stack=X.outer\/(X.stack=X.env :: X.outer/\X.env.frame=some X.env.locals)
 exf:∀ b∈X.ex,b≠X.env.locals/\∀ x c,X.env.cells.lookup x=some c->c≠b
 bs:∀ b o,X.base.get? b=some o->X.s₀.heap.get? b=some o/\X.H₀ b=none
 bsz:X.base.objs.size<=X.s₀.heap.objs.size
 noex:∀ b o,X.base.get? b=some o->b ∉ X.ex
 exfs:∀ b∈X.ex,b ∉ X.fs
 funs:X.s₀.heap.FunFrames X.base X.outer
 frf:∀ b∈X.fs,X.H₀ b=none
structure Inv (X:Cx)(pins:List (Addr×Obj))(σ:List (Option V))(H:Hp)(s:Shared):Prop where
 ok:X.Ok
 os:s.os=X.s₀.os
 bare:AllBare s.gens
 base:Un X.fs X.ex X.H₀ H X.s₀.heap s.heap
 loc:∃ m,s.heap.Ns X.env.locals m/\∀ (i:Nat) (x:Str) (v:V),X.N[i]? = some x->σ[i]? = some (some v)->Vis X.env.scope x->∃ u,RelV v u/\Look X.env s.heap m x u
 cell:∀ x c,X.env.cells.lookup x=some c->∃ v,s.heap.IsCell c v
 free:H X.env.locals=none
 freeC:∀ x c,X.env.cells.lookup x=some c->H c=none
 pin:∀ p∈X.pn++pins,s.heap.get? p.1=some p.2/\H p.1=none/\p.1≠X.env.locals/\p.1 ∉ X.fs/\∀ v,p.2.data ≠ .cell v
 hok:HOk X.prog X.w H s.heap
 len:σ.length=X.N.length
section
variable {X:Cx}{pins:List (Addr×Obj)}{σ:List (Option V)}{H H':Hp}{s:Shared}{h':Heap}
theorem Cx.Ok.nofr (ok:X.Ok){b:Addr}{o:Obj}(e:X.base.get? b=some o):b ∉ X.fs:=λ hb=>by
 have:=(ok.funs.mem hb).1
 rw [e] at this; cases this
theorem Inv.bs (I:Inv X pins σ H s):∀ b o,X.base.get? b=some o->s.heap.get? b=some o/\H b=none:=λ b o e =>
 ⟨I.base.keep b o (I.ok.bs b o e).1 (I.ok.bs b o e).2 (I.ok.nofr e) (I.ok.noex b o e),I.base.free b o (I.ok.bs b o e).1 (I.ok.bs b o e).2 (I.ok.noex b o e)⟩
theorem Inv.bk (I:Inv X pins σ H s):∀ b o,X.base.get? b=some o->s.heap.get? b=some o:=λ b o e=>(I.bs b o e).1
theorem Inv.mod (I:Inv X pins σ H s):Mod X.K X.mg X.base:=I.ok.mod
theorem Inv.kIn (I:Inv X pins σ H s):X.K.In s.heap:=I.ok.mod.kin.keeps I.bk
theorem Inv.nolimit (I:Inv X pins σ H s):s.heap.NoLimit:=I.ok.mod.nolimit.keeps I.bk
theorem Inv.fr (I:Inv X pins σ H s):∃ m,Fr X.base X.env.locals s.heap m :=
 let ⟨m,hn,_⟩:=I.loc
 ⟨m,hn,I.bk,Nat.le_trans I.ok.bsz I.ok.above⟩
theorem Inv.lt (I:Inv X pins σ H s):X.env.locals < s.heap.objs.size:=let ⟨_,hn,_⟩:=I.loc; hn.lt
theorem Inv.sz (I:Inv X pins σ H s):X.s₀.heap.objs.size<=s.heap.objs.size:=Nat.le_trans I.ok.above (Nat.le_of_lt I.lt)
theorem Inv.nofs (I:Inv X pins σ H s){a:Addr}(h:s.heap.objs.size<=a):a ∉ X.fs:=λ hb=>by
 obtain ⟨_,o,ho,_⟩:=I.ok.funs.mem hb
 exact absurd (Nat.lt_of_lt_of_le (Heap.lt_size ho) (Nat.le_trans I.sz h)) (Nat.lt_irrefl _)
theorem Inv.cne (I:Inv X pins σ H s):∀ x c,X.env.cells.lookup x=some c->c≠X.env.locals:=λ x c e z=>by
 obtain ⟨v,o,ho,hd⟩:=I.cell x c e
 obtain ⟨m,⟨o',es,ep,ho',hd',_⟩,_⟩:=I.loc
 rw [z,ho'] at ho; cases ho; rw [hd'] at hd; cases hd
theorem Inv.funs (I:Inv X pins σ H s):s.heap.FunFrames X.base X.outer:=by
 have all:∀ (l:List Env),(∀ b∈frs l,b∈X.fs)->X.s₀.heap.FunFrames X.base l->s.heap.FunFrames X.base l:=by
  intro l
  induction l with
  | nil=>intro _ _; trivial
  | cons env r ih =>
   intro hs hl
   obtain ⟨hk,⟨L,o,hf,hn,ho,hd⟩,hr⟩:=hl
   have hL:L∈X.fs:=hs L (by unfold frs; rw [List.filterMap_cons,hf]; exact List.mem_cons_self)
   obtain ⟨sl,e⟩:=I.base.slot L o ho (I.ok.frf L hL) hL λ z=>I.ok.exfs L z hL
   exact ⟨hk,⟨L,_,hf,hn,e,hd⟩,ih (λ b hb=>hs b (by unfold frs; rw [List.filterMap_cons,hf]; exact List.mem_cons_of_mem _ hb)) hr⟩
 exact all X.outer (λ _ hb=>hb) I.ok.funs
theorem Inv.stack (I:Inv X pins σ H s):s.heap.FunFrames X.base X.stack:=by
 rcases I.ok.stk with e | ⟨e,hf⟩
 ·rw [e]; exact I.funs
 ·rw [e]
  obtain ⟨m,hn,_⟩:=I.loc
  refine .cons (by rw [I.ok.kind]; decide) hf hn ?_ I.funs
  exact Heap.get?_none_of_le (Nat.le_trans I.ok.bsz I.ok.above)
theorem Inv.stkSub (I:Inv X pins σ H s):∀ b∈frs X.stack,b∈X.env.locals :: X.fs:=λ b hb=>by
 rcases I.ok.stk with e | ⟨e,hf⟩
 ·rw [e] at hb; exact List.mem_cons_of_mem _ hb
 ·rw [e] at hb
  unfold frs at hb
  rw [List.filterMap_cons,hf] at hb
  exact hb
theorem Inv.stkFree (I:Inv X pins σ H s):∀ b∈frs X.stack,H b=none:=λ b hb=>by
 rcases List.mem_cons.mp (I.stkSub b hb) with e | hb
 ·rw [e]; exact I.free
 ·obtain ⟨_,o,ho,_⟩:=I.ok.funs.mem hb
  exact I.base.free b o ho (I.ok.frf b hb) λ z=>I.ok.exfs b z hb
theorem Inv.step {g':Array GenState}{t':Nat}{d':Drawn}{ch:List Addr}(I:Inv X pins σ H s)
  (hch:∀ b∈ch,(b∈X.ex\/X.s₀.heap.objs.size<=b)/\b≠X.env.locals/\(∀ x c,X.env.cells.lookup x=some c->c≠b)/\∀ p∈X.pn++pins,p.1≠b)
  (keep:∀ b o,b≠X.env.locals->b ∉ X.fs->b ∉ ch->s.heap.get? b=some o->H b=none->h'.get? b=some o)
  (slot:∀ b o,b≠X.env.locals->b∈X.fs->b ∉ ch->s.heap.get? b=some o->H b=none->∃ sl,h'.get? b=some { o with slots:=sl })(free:∀ b o,b ∉ ch->s.heap.get? b=some o->H b=none->H' b=none)
  (there:∀ b o,b ∉ ch->s.heap.get? b=some o->∃ o',h'.get? b=some o')
  (tups:∀ b xs,H b=some (.tup xs)->H' b=some (.tup xs))(frzs:∀ b o u,H b=some (.frz o u)->H' b=some (.frz o u))(tbls:∀ b ps,H b=some (.tbl ps)->∃ more,H' b=some (.tbl (ps++more)))
  (ns:∀ m,s.heap.Ns X.env.locals m->h'.Ns X.env.locals m)(hok:HOk X.prog X.w H' h')(hg:AllBare g') :
  Inv X pins σ H' { s with heap:=h',gens:=g',drawn:=d',toks:=t' }:=by
 have neL:∀ b o,X.s₀.heap.get? b=some o->b≠X.env.locals:=λ b o e=>Nat.ne_of_lt (Nat.lt_of_lt_of_le (Heap.lt_size e) I.ok.above)
 have neC:∀ b o,X.s₀.heap.get? b=some o->b ∉ X.ex->b ∉ ch:=λ b o e hx hb=>by
  rcases (hch b hb).1 with z | z
  ·exact hx z
  ·exact absurd (Nat.lt_of_lt_of_le (Heap.lt_size e) z) (Nat.lt_irrefl _)
 have cellK:∀ x c,X.env.cells.lookup x=some c->∀ v,s.heap.IsCell c v->h'.IsCell c v:=λ x c e v hq0=>by
  obtain ⟨o,ho,hd⟩:=hq0
  have nch:c ∉ ch:=λ z=>(hch c z).2.2.1 x c e rfl
  by_cases hc:c∈X.fs
  ·obtain ⟨sl,q⟩:=slot c o (I.cne x c e) hc nch ho (I.freeC x c e)
   exact ⟨_,q,hd⟩
  ·exact ⟨o,keep c o (I.cne x c e) hc nch ho (I.freeC x c e),hd⟩
 refine ⟨I.ok,I.os,hg,⟨λ b o e n hb hx=>?_,λ b o e n hb hx=>?_,λ b o e n hx=>?_,λ b o e hx=>?_,λ b xs e=>tups b xs (I.base.tups b xs e),λ b o xs e=>frzs b o xs (I.base.frzs b o xs e),λ b ps e=>?_⟩,?_,λ x c e=>?_,?_,λ x c e=>?_,λ p hp=>?_,hok,I.len⟩
 ·exact keep b o (neL b o e) hb (neC b o e hx) (I.base.keep b o e n hb hx) (I.base.free b o e n hx)
 ·obtain ⟨sl,e1⟩:=I.base.slot b o e n hb hx
  obtain ⟨sl',e2⟩:=slot b _ (neL b o e) hb (neC b o e hx) e1 (I.base.free b o e n hx)
  exact ⟨sl',e2⟩
 ·obtain ⟨o',e1⟩:=I.base.there b o e hx
  exact free b o' (neC b o e hx) e1 (I.base.free b o e n hx)
 ·obtain ⟨o',e1⟩:=I.base.there b o e hx
  exact there b o' (neC b o e hx) e1
 ·obtain ⟨m1,e1⟩:=I.base.tbls b ps e
  obtain ⟨m2,e2⟩:=tbls b _ e1
  exact ⟨m1++m2,by rw [e2,Array.append_assoc]⟩
 ·obtain ⟨m,hn,hl⟩:=I.loc
  refine ⟨m,ns m hn,λ i x v e1 e2 e3=>?_⟩
  obtain ⟨u,r,l⟩:=hl i x v e1 e2 e3
  refine ⟨u,r,?_⟩
  rcases l with l | ⟨k,c,e,z⟩
  ·exact .inl l
  ·exact .inr ⟨k,c,e,cellK x c e _ z⟩
 ·obtain ⟨v,z⟩:=I.cell x c e
  exact ⟨v,cellK x c e v z⟩
 ·obtain ⟨m,⟨o,_,_,ho,_⟩,_⟩:=I.loc
  exact free _ o (λ z=>(hch _ z).2.1 rfl) ho I.free
 ·obtain ⟨v,o,ho,hd⟩:=I.cell x c e
  exact free c o (λ z=>(hch c z).2.2.1 x c e rfl) ho (I.freeC x c e)
 ·obtain ⟨e,n,ne,nf,d⟩:=I.pin p hp
  have nch:p.1 ∉ ch:=λ z=>(hch p.1 z).2.2.2 p hp rfl
  exact ⟨keep p.1 p.2 ne nf nch e n,free p.1 p.2 nch e n,ne,nf,d⟩
theorem Inv.un {t':Nat}(I:Inv X pins σ H s)(u:Un X.fs [] H H' s.heap h')(hok:HOk X.prog X.w H' h'):Inv X pins σ H' { s with heap:=h',toks:=t' }:=by
 obtain ⟨m,⟨o,es,ep,ho,r⟩,_⟩:=id I.loc
 obtain ⟨sl,hL⟩:=u.any ho I.free (by simp)
 exact I.step (g':=s.gens) (d':=s.drawn) (ch:=[]) (λ _ z=>nomatch z) (λ b o _ hb _ e n=>u.keep b o e n hb (by simp)) (λ b o _ hb _ e n=>u.slot b o e n hb (by simp)) (λ b o _ e n=>u.free b o e n (by simp)) (λ b o _ e=>u.there b o e (by simp)) u.tups u.frzs u.tbls (λ m' hm=>by
  obtain ⟨o',es',ep',ho',r'⟩:=hm
  rw [ho] at ho'; cases ho'
  exact ⟨_,es',ep',hL,r'⟩) hok I.bare
theorem Inv.call {g':Array GenState}{t':Nat}{d':Drawn}{ch:List Addr}(I:Inv X pins σ H s)(u:Un (frs X.stack) ch H H' s.heap h')(hok:HOk X.prog X.w H' h')(hg:AllBare g')
  (hch:∀ b∈ch,(b∈X.ex\/X.s₀.heap.objs.size<=b)/\b≠X.env.locals/\(∀ x c,X.env.cells.lookup x=some c->c≠b)/\∀ p∈X.pn++pins,p.1≠b) :
  Inv X pins σ H' { s with heap:=h',gens:=g',drawn:=d',toks:=t' }:=by
 obtain ⟨m,⟨o,es,ep,ho,r⟩,_⟩:=id I.loc
 obtain ⟨sl,hL⟩:=u.any ho I.free λ z=>(hch _ z).2.1 rfl
 exact I.step (ch:=ch) hch (λ b o hL hb hc e n=>u.keep b o e n (λ z=>(List.mem_cons.mp (I.stkSub b z)).elim hL hb) hc) (λ b o _ _ hc e n=>u.any e n hc) (λ b o hc e n=>u.free b o e n hc) (λ b o hc e=>u.there b o e hc) u.tups u.frzs u.tbls (λ m' hm=>by
  obtain ⟨o',es',ep',ho',r'⟩:=hm
  rw [ho] at ho'; cases ho'
  exact ⟨_,es',ep',hL,r'⟩) hok hg
theorem Inv.turned {t':Nat}{it:Addr}(I:Inv X pins σ H s)(k:∀ b o,b≠it->s.heap.get? b=some o->h'.get? b=some o)(hn:H it=none)(hL:it≠X.env.locals)
  (h1:it∈X.ex\/X.s₀.heap.objs.size<=it)(h2:∀ x c,X.env.cells.lookup x=some c->c≠it)(h3:∀ p∈X.pn++pins,p.1≠it):Inv X pins σ H { s with heap:=h',toks:=t' }:=by
 have nit:∀ b u,H b=some u->b≠it:=λ b u e z=>by rw [z,hn] at e; cases e
 refine I.step (g':=s.gens) (d':=s.drawn) (ch:=[it]) (λ b hb=>?_) (λ b o _ _ hc e _=>k b o (λ z=>hc (by simp [z])) e) (λ b o _ _ hc e _=>⟨o.slots,k b o (λ z=>hc (by simp [z])) e⟩) (λ _ _ _ _ n=>n)
  (λ b o hc e=>⟨o,k b o (λ z=>hc (by simp [z])) e⟩) (λ _ _ e=>e) (λ _ _ _ e=>e) (λ b ps e=>⟨#[],by rw [e]; simp⟩) (λ m hm=>?_) (λ b u e=>?_) I.bare
 ·have e:b=it:=by simpa using hb
  subst e
  exact ⟨h1,hL,h2,h3⟩
 ·obtain ⟨o,es,ep,ho,r⟩:=hm
  exact ⟨o,es,ep,k _ o (Ne.symm hL) ho,r⟩
 ·refine (I.hok b u e).stay (λ c v hc q=>k c v ?_ q) (λ _ q=>q) λ _ _ q=>q
  rcases hc with z | z
  ·rw [z]; exact nit b u e
  ·exact nit c _ z
theorem Inv.tok (I:Inv X pins σ H s)(t:Nat):Inv X pins σ H { s with toks:=t }:=I.un (h':=s.heap) (t':=t) Un.refl I.hok
theorem Inv.kept {t':Nat}(I:Inv X pins σ H s)(k:∀ b u,s.heap.get? b=some u->h'.get? b=some u):Inv X pins σ H { s with heap:=h',toks:=t' }:=I.un (Un.kept k) (I.hok.kept k)
theorem Inv.laid {a:Addr}{o:HO}{t':Nat}(I:Inv X pins σ H s)(k:∀ b u,s.heap.get? b=some u->h'.get? b=some u)(hp:s.heap.objs.size<=a)(new:ObjOk X.prog X.w (upd H a o) h' a o) :
  Inv X pins σ (upd H a o) { s with heap:=h',toks:=t' }:=I.un (Un.laid k hp (I.hok.fresh hp)) (I.hok.laid k hp new)
theorem Inv.write {x e:Addr}{o:HO}{t':Nat}(I:Inv X pins σ H s)(mu:Mut (H x))(he:e=x\/H e=some (.own x))(k:∀ b u,b≠e->s.heap.get? b=some u->h'.get? b=some u)(heo:∃ u,h'.get? e=some u)
  (new:ObjOk X.prog X.w (upd H x o) h' x o):Inv X pins σ (upd H x o) { s with heap:=h',toks:=t' }:=I.un (Un.write mu he k heo) (I.hok.write mu he k heo new)
theorem Inv.pins_of {pins':List (Addr×Obj)}(I:Inv X pins σ H s)(h:∀ p∈pins',s.heap.get? p.1=some p.2/\H p.1=none/\p.1≠X.env.locals/\p.1 ∉ X.fs/\∀ v,p.2.data ≠ .cell v):Inv X pins' σ H s :=
 ⟨I.ok,I.os,I.bare,I.base,I.loc,I.cell,I.free,I.freeC,λ p hp=>(List.mem_append.mp hp).elim (λ z=>I.pin p (List.mem_append_left _ z)) (h p),I.hok,I.len⟩
theorem nodup_ix {N:List Str}(hN:N.Nodup){i j:Nat}{x:Str}(a:N[i]? = some x)(b:N[j]? = some x):i=j:=by
 obtain ⟨h1,e1⟩:=List.getElem?_eq_some_iff.mp a
 obtain ⟨h2,e2⟩:=List.getElem?_eq_some_iff.mp b
 exact (List.getElem_inj hN).mp (e1.trans e2.symm)
theorem store_ok2 {M:Model}{A:Around}{E:Value->Shared->Prop}{i:Nat}{x:Str}{v:V}{u:Value}{Q:Unit->Shared->Prop}(I:Inv X pins σ H s)(hN:X.N.Nodup)(hi:X.N[i]? = some x)(hx:Loc X.env.scope x)(r:RelV v u)
  (h:∀ s',Inv X pins (σ.set i (some v)) H s'->(∃ a,Heap.SameBut a s.heap s'.heap/\(a=X.env.locals\/X.env.cells.lookup x=some a))->Q () s')(hf:X.fn x=true\/X.env.scope.names.lookup x=some .local:=by first | exact .inl rfl | exact .inr rfl | assumption):wpAny M A (storeName X.env x u) Q E s:=by
 obtain ⟨m,hn,hl⟩:=id I.loc
 have hcls:(X.env.scope.kind == .class || (X.env.scope.kind == .module && X.env.locals != X.env.globals))=false:=by rw [I.ok.kind]; rfl
 have hiσ:i < σ.length:=by rw [I.len]; exact (List.getElem?_eq_some_iff.mp hi).1
 have cne:=I.cne
 have tracked:∀ {a:Addr} {h':Heap},(∃ o,s.heap.get? a=some o/\H a=none)->Heap.SameBut a s.heap h'->HOk X.prog X.w H h':=λ {a h'} ha hs b ob e=>by
  obtain ⟨_,_,hfree⟩:=ha
  refine (I.hok b ob e).stay (λ c w' hc q=>(hs.2 c ?_).trans q) (λ _ q=>q) λ _ _ q=>q
  rintro rfl
  rcases hc with rfl | hc
  ·rw [hfree] at e; cases e
  ·rw [hfree] at hc; cases hc
 rcases hx with hk | hk
 ·refine wpAny_storeName_local hk hn (λ h' hn' hs=>?_) hcls
  obtain ⟨oL,_,_,hoL,_⟩:=id hn
  refine h _ ⟨I.ok,I.os,I.bare,⟨λ b o e n hb hx=>?_,λ b o e n hb hx=>?_,I.base.free,λ b o e hx=>?_,I.base.tups,I.base.frzs,I.base.tbls⟩,⟨_,hn',λ j y v' e1 e2 e3=>?_⟩,λ y c e=>?_,I.free,I.freeC,λ p hp=>?_,tracked ⟨oL,hoL,I.free⟩ hs,by simpa using I.len⟩ ⟨_,hs,.inl rfl⟩
  ·exact (hs.2 b (Nat.ne_of_lt (Nat.lt_of_lt_of_le (Heap.lt_size e) I.ok.above))).trans (I.base.keep b o e n hb hx)
  ·obtain ⟨sl,e1⟩:=I.base.slot b o e n hb hx
   exact ⟨sl,(hs.2 b (Nat.ne_of_lt (Nat.lt_of_lt_of_le (Heap.lt_size e) I.ok.above))).trans e1⟩
  ·obtain ⟨o',e1⟩:=I.base.there b o e hx
   exact ⟨o',(hs.2 b (Nat.ne_of_lt (Nat.lt_of_lt_of_le (Heap.lt_size e) I.ok.above))).trans e1⟩
  ·by_cases hj:j=i
   ·subst hj
    rw [hi] at e1; cases e1
    rw [List.getElem?_set_self hiσ] at e2
    cases e2
    exact ⟨u,r,.inl ⟨hk,by simp⟩⟩
   ·rw [List.getElem?_set_ne (Ne.symm hj)] at e2
    obtain ⟨u',r',q⟩:=hl j y v' e1 e2 e3
    refine ⟨u',r',?_⟩
    rcases q with ⟨k,e⟩ | ⟨k,c,e,z⟩
    ·refine .inl ⟨k,?_⟩
     have:y≠x:=λ e=>hj (nodup_ix hN e1 (e ▸ hi))
     simp [this,e]
    ·exact .inr ⟨k,c,e,z.sameBut hs (cne y c e)⟩
  ·obtain ⟨w',z⟩:=I.cell y c e
   exact ⟨w',z.sameBut hs (cne y c e)⟩
  ·obtain ⟨e,n,ne,nf,d⟩:=I.pin p hp
   exact ⟨(hs.2 p.1 ne).trans e,n,ne,nf,d⟩
 ·have hfn:X.fn x=true:=by
   rcases hf with z | z
   ·exact z
   ·rw [z] at hk; cases hk
  obtain ⟨c,hc⟩:=I.ok.has x (.inl hk)
  obtain ⟨w',z⟩:=I.cell x c hc
  refine wpAny_storeName_cell I.ok.kind hk hc z (λ h' hc' hs=>?_)
  obtain ⟨oc,hoc,hocd⟩:=id z
  refine h { s with heap:=h' } ⟨I.ok,I.os,I.bare,⟨λ b o e n hb hx=>?_,λ b o e n hb hx=>?_,I.base.free,λ b o e hx=>?_,I.base.tups,I.base.frzs,I.base.tbls⟩,⟨m,hn.sameBut hs (Ne.symm (cne x c hc)),λ j y v' e1 e2 e3=>?_⟩,λ y c' e=>?_,I.free,I.freeC,λ p hp=>?_,tracked ⟨oc,hoc,I.freeC x c hc⟩ hs,by simpa using I.len⟩ ⟨c,hs,.inr hc⟩
  ·exact (hs.2 b (Nat.ne_of_lt (Nat.lt_of_lt_of_le (Heap.lt_size e) (I.ok.cab x c hfn hc)))).trans (I.base.keep b o e n hb hx)
  ·obtain ⟨sl,e1⟩:=I.base.slot b o e n hb hx
   exact ⟨sl,(hs.2 b (Nat.ne_of_lt (Nat.lt_of_lt_of_le (Heap.lt_size e) (I.ok.cab x c hfn hc)))).trans e1⟩
  ·obtain ⟨o',e1⟩:=I.base.there b o e hx
   exact ⟨o',(hs.2 b (Nat.ne_of_lt (Nat.lt_of_lt_of_le (Heap.lt_size e) (I.ok.cab x c hfn hc)))).trans e1⟩
  ·by_cases hj:j=i
   ·subst hj
    rw [hi] at e1; cases e1
    rw [List.getElem?_set_self hiσ] at e2
    cases e2
    exact ⟨u,r,.inr ⟨.inl hk,c,hc,hc'⟩⟩
   ·rw [List.getElem?_set_ne (Ne.symm hj)] at e2
    obtain ⟨u',r',q⟩:=hl j y v' e1 e2 e3
    refine ⟨u',r',?_⟩
    rcases q with q | ⟨k,c',e,z'⟩
    ·exact .inl q
    ·refine .inr ⟨k,c',e,z'.sameBut hs ?_⟩
     rintro rfl
     exact hj (nodup_ix hN e1 (I.ok.inj _ _ _ e hc ▸ hi))
  ·by_cases hcc:c'=c
   ·subst hcc; exact ⟨_,hc'⟩
   ·obtain ⟨w2,z2⟩:=I.cell y c' e
    exact ⟨w2,z2.sameBut hs hcc⟩
  ·obtain ⟨e,n,ne,nf,d⟩:=I.pin p hp
   refine ⟨(hs.2 p.1 ?_).trans e,n,ne,nf,d⟩
   intro q
   rw [q,hoc] at e
   have q':oc=p.2:=Option.some.inj e
   exact d w' (by rw [<- q']; exact hocd)
theorem store_ok {M:Model}{A:Around}{E:Value->Shared->Prop}{i:Nat}{x:Str}{v:V}{u:Value}{Q:Unit->Shared->Prop}(I:Inv X pins σ H s)(hN:X.N.Nodup)(hi:X.N[i]? = some x)(hx:Loc X.env.scope x)(r:RelV v u)
  (h:∀ s',Inv X pins (σ.set i (some v)) H s'->Q () s')(hf:X.fn x=true\/X.env.scope.names.lookup x=some .local:=by first | exact .inl rfl | exact .inr rfl | assumption):wpAny M A (storeName X.env x u) Q E s :=
 store_ok2 I hN hi hx r (λ s' I' _=>h s' I') hf
theorem Inv.call' {s':Shared}{ch:List Addr}(I:Inv X pins σ H s)(ho:s'.os=s.os)(u:Un (frs X.stack) ch H H' s.heap s'.heap)(hok:HOk X.prog X.w H' s'.heap)(hg:AllBare s'.gens)
  (hch:∀ b∈ch,(b∈X.ex\/X.s₀.heap.objs.size<=b)/\b≠X.env.locals/\(∀ x c,X.env.cells.lookup x=some c->c≠b)/\∀ p∈X.pn++pins,p.1≠b):Inv X pins σ H' s':=by
 obtain ⟨h',g',d',t',o'⟩:=s'
 have e:o'=s.os:=ho
 subst e
 exact I.call (g':=g') (t':=t') (d':=d') u hok hg hch
end
noncomputable abbrev XK:=Value->Option Addr->Hp->Prop
noncomputable abbrev St:=List (Option V)
noncomputable abbrev VK:=V->Hp->Prop
noncomputable abbrev TE:=St->Hp->VK->Prop
noncomputable abbrev TT:=St->Hp->(Bool->Hp->Prop)->Prop
noncomputable abbrev TA:=St->Hp->(List V->Hp->Prop)->Prop
structure Ends where
 nx:St->Hp->Prop
 rt:VK
 bk:St->Hp->Prop:=λ _ _=>False
 ct:St->Hp->Prop:=λ _ _=>False
noncomputable abbrev TS:=Ends->St->Hp->Prop
noncomputable def EP (X:Cx)(pins:List (Addr×Obj))(σ:St)(Q:VK)(u:Value)(s':Shared):Prop:=∃ v H',Inv X pins σ H' s'/\RelV v u/\Q v H'
noncomputable def TP (X:Cx)(pins:List (Addr×Obj))(σ:St)(Q:Bool->Hp->Prop)(b:Bool)(s':Shared):Prop:=∃ H',Inv X pins σ H' s'/\Q b H'
noncomputable def AP (X:Cx)(pins:List (Addr×Obj))(σ:St)(Q:List V->Hp->Prop)(us:List Value)(s':Shared):Prop:=∃ vs H',Inv X pins σ H' s'/\Vals vs us/\Q vs H'
noncomputable def SP (X:Cx)(pins:List (Addr×Obj))(D:Ends)(f:Flow)(s':Shared):Prop :=
 match f with
 | .next=>∃ σ' H',Inv X pins σ' H' s'/\D.nx σ' H'
 | .brk=>∃ σ' H',Inv X pins σ' H' s'/\D.bk σ' H'
 | .cont=>∃ σ' H',Inv X pins σ' H' s'/\D.ct σ' H'
 | .ret u=>∃ v σ' H',Inv X pins σ' H' s'/\RelV v u/\D.rt v H'
noncomputable def PE (X:Cx)(e:Expr)(t:TE):Prop :=
 ∀ (pins:List (Addr×Obj)) (s:Shared) (σ:St) (H:Hp) (Q:VK),Inv X pins σ H s->t σ H Q->wpAny (model X.prog X.w) X.A (eval e X.env) (EP X pins σ Q) X.xe s
noncomputable def PT (X:Cx)(e:Expr)(t:TT):Prop :=
 ∀ (pins:List (Addr×Obj)) (s:Shared) (σ:St) (H:Hp) (Q:Bool->Hp->Prop),Inv X pins σ H s->t σ H Q->wpAny (model X.prog X.w) X.A (isTrue e X.env (eval e X.env)) (TP X pins σ Q) X.xe s
noncomputable def PW (X:Cx)(e:Expr)(t:TT):Prop :=
 ∀ (whole:Sem Value) (pins:List (Addr×Obj)) (s:Shared) (σ:St) (H:Hp) (Q:Bool->Hp->Prop),Inv X pins σ H s->t σ H Q->wpAny (model X.prog X.w) X.A (isTrue e X.env whole) (TP X pins σ Q) X.xe s
theorem PW.pt {X:Cx}{e:Expr}{t:TT}(h:PW X e t):PT X e t:=h _
noncomputable def PA (X:Cx)(es:List Expr)(t:TA):Prop :=
 ∀ (pos:Pos) (pins:List (Addr×Obj)) (s:Shared) (σ:St) (H:Hp) (Q:List V->Hp->Prop),Inv X pins σ H s->t σ H Q->wpAny (model X.prog X.w) X.A (spliced (backTo pos (starEach es X.env))) (AP X pins σ Q) X.xe s
noncomputable def PS (X:Cx)(st:Stmt)(t:TS):Prop :=
 ∀ (pins:List (Addr×Obj)) (s:Shared) (σ:St) (H:Hp) (D:Ends),Inv X pins σ H s->t D σ H->wpAny (model X.prog X.w) X.A (exec st X.env) (SP X pins D) X.xe s
noncomputable def PSs (X:Cx)(st:List Stmt)(t:TS):Prop :=
 ∀ (pins:List (Addr×Obj)) (s:Shared) (σ:St) (H:Hp) (D:Ends),Inv X pins σ H s->t D σ H->wpAny (model X.prog X.w) X.A (execs st X.env) (SP X pins D) X.xe s
theorem thn {α:Type}{t:Sem α}{Q Q':α->Shared->Prop}{M:Model}{A:Around}{E:Value->Shared->Prop}{s:Shared}(h:wpAny M A t Q E s)(hQ:∀ a s,Q a s->Q' a s):wpAny M A t Q' E s:=wpAny_mono h hQ λ _ _ x=>x
end L2
namespace L2
open PySem PySem.Spec PyProof.Rows
section
variable {X:Cx}
noncomputable def tVar (i:Nat):TE:=λ σ H Q=>∃ v,σ[i]? = some (some v)/\Q v H
noncomputable def tC (v:V):TE:=λ _ H Q=>Q v H
theorem pe_var {i:Nat}{x:Str}{pos:Pos}(hN:X.N[i]? = some x)(hv:Vis X.env.scope x)(hd:(x == ("__debug__" : Str))=false:=by decide)(hcd:(x == ("__classdict__" : Str))=false:=by decide):PE X (.Name x pos) (tVar i):=by
 intro pins s σ H Q I h
 obtain ⟨v,e,h⟩:=h
 obtain ⟨m,hn,hl⟩:=I.loc
 obtain ⟨u,r,l⟩:=hl i x v hN e hv
 have fin:EP X pins σ Q u s:=⟨v,H,I,r,h⟩
 rcases l with ⟨hk,hm⟩ | ⟨hk,c,hc,hcell⟩
 ·exact wpAny_Name (wpAny_loadName_local I.ok.kind hk hn hm fin) hd
 ·rcases hk with hk | hk
  ·exact wpAny_Name (wpAny_loadName_cell I.ok.kind hk hc hcell fin) hd
  ·exact wpAny_Name (wpAny_loadName_free I.ok.kind hk hc hcell fin hcd) hd
theorem pe_int {i j pos}:PE X (.Constant (.int i) j pos) (tC (.int i)):=λ _ _ _ H _ I h=>wpAny_Constant_int ⟨.int i,H,I.tok _,⟨_,rfl⟩,h⟩
theorem pe_bl {b j pos}:PE X (.Constant (.bool b) j pos) (tC (.bl b)):=λ _ _ _ H _ I h=>Constant_bool ⟨.bl b,H,I,rfl,h⟩
theorem pe_non {j pos}:PE X (.Constant .none j pos) (tC .non):=λ _ _ _ H _ I h=>Constant_none ⟨.non,H,I,rfl,h⟩
theorem pe_str {x j pos}:PE X (.Constant (.str x) j pos) (tC (.str x)):=λ _ _ _ H _ I h=>Calls.Constant_str ⟨.str x,H,I.tok _,⟨_,rfl⟩,h⟩
noncomputable def Gl (X:Cx)(x:Str):Prop:=X.env.kindOf x=some .globalImplicit
theorem ld_glob {E:Value->Shared->Prop}{pins:List (Addr×Obj)}{s:Shared}{σ:St}{H:Hp}{x:Str}{u:Value}{pos:Pos}{Q:Value->Shared->Prop}(I:Inv X pins σ H s)(hg:Gl X x)(hm:X.mg x=some u)(h:Q u s)
  (hd:(x == ("__debug__" : Str))=false:=by decide):wpAny (model X.prog X.w) X.A (eval (.Name x pos) X.env) Q E s :=
 Calls.Name_function_global I.ok.kind hg (Calls.loadGlobal_global (by rw [I.ok.glob]; exact I.mod.glob.keeps I.bk) hm h) hd
theorem ld_blt {E:Value->Shared->Prop}{pins:List (Addr×Obj)}{s:Shared}{σ:St}{H:Hp}{x:Str}{u:Value}{pos:Pos}{Q:Value->Shared->Prop}(I:Inv X pins σ H s)(hg:Gl X x)(hm:X.mg x=none)(hv:bootBuiltins x=some u)(h:Q u s)
  (hn:x ≠ "__name__" := by decide)(hd:(x == ("__debug__" : Str))=false:=by decide):wpAny (model X.prog X.w) X.A (eval (.Name x pos) X.env) Q E s:=by
 obtain ⟨mb,h1,h2⟩:=I.mod.blt
 exact Calls.Name_function_global I.ok.kind hg (Calls.loadGlobal_builtin (by rw [I.ok.glob]; exact I.mod.glob.keeps I.bk) hm (by rw [I.ok.blt]; exact h1.keeps I.bk) ((h2 x hn).trans hv) h) hd
theorem pe_glob {x:Str}{v:V}{u:Value}{pos:Pos}(hg:Gl X x)(hm:X.mg x=some u)(r:RelV v u)(hd:(x == ("__debug__" : Str))=false:=by decide):PE X (.Name x pos) (tC v) :=
 λ _ _ _ H _ I h=>ld_glob I hg hm ⟨v,H,I,r,h⟩ hd
theorem pe_bltn {x:Str}{v:V}{u:Value}{pos:Pos}(hg:Gl X x)(hm:X.mg x=none)(hv:bootBuiltins x=some u)(r:RelV v u)(hn:x ≠ "__name__" := by decide)(hd:(x == ("__debug__" : Str))=false:=by decide):PE X (.Name x pos) (tC v) :=
 λ _ _ _ H _ I h=>ld_blt I hg hm hv ⟨v,H,I,r,h⟩ hn hd
variable {a b:Expr}{ta tb:TE}{pos:Pos}
noncomputable def PC (X:Cx)(op:CmpOp)(a b:Expr)(t:TE):Prop :=
 ∀ (pins:List (Addr×Obj)) (s:Shared) (σ:St) (H:Hp) (Q:VK),Inv X pins σ H s->t σ H Q ->
  wpAny (model X.prog X.w) X.A (eval a X.env) (λ v s₁=>wpAny (model X.prog X.w) X.A (eval b X.env) (λ u s₂=>wpAny (model X.prog X.w) X.A (compareOp op v u) (EP X pins σ Q) X.xe s₂) X.xe s₁) X.xe s
theorem nobehind (b:Expr){op:CmpOp}(h:op ≠ .In)(h2:op ≠ .NotIn):behindInMarks op b=false:=by
 have e1:(op == CmpOp.In)=false:=by cases op <;> first | rfl | exact absurd rfl h
 have e2:(op == CmpOp.NotIn)=false:=by cases op <;> first | rfl | exact absurd rfl h2
 cases b <;> simp [behindInMarks,e1,e2]
noncomputable def tB (t:TE):TT:=λ σ H Q=>t σ H λ x H1=>∃ c,x=.bl c/\Q c H1
theorem pt_cmp {op:CmpOp}{t:TE}(h:PC X op a b t)(h1:behindInMarks op b=false:=by first | exact nobehind _ (by decide) (by decide) | rfl):PT X (.Compare a [op] [b] pos) (tB t):=by
 intro pins s σ H Q I hw
 refine wpAny_isTrue_Compare1 (thn (h pins s σ H _ I hw) λ v s1 h1=>thn h1 λ u s2 h2=>thn h2 λ c s3 ⟨x,H1,I1,r1,q1⟩=>?_) h1
 obtain ⟨d,rfl,q⟩:=q1
 cases r1
 exact wpAny_truthy_bool ⟨H1,I1,q⟩
theorem pt_val {e:Expr}{t:TE}(h:PE X e t)(he:∀ whole,isTrue e X.env whole=(do let v <- whole; standAt e.pos; holding [v] (truthy v)):=by intro _; rfl):PT X e (tB t):=by
 intro pins s σ H Q I hw
 refine isTrue_plain (thn (h pins s σ H _ I hw) λ v s1 ⟨x,H1,I1,r1,q1⟩=>?_) (he _)
 obtain ⟨d,rfl,q⟩:=q1
 cases r1
 exact wpAny_truthy_bool ⟨H1,I1,q⟩
variable {tA tB':TT}{rest:List Expr}
noncomputable def tOr (t u:TT):TT:=λ σ H Q=>t σ H λ c H1=>if c=true then Q true H1 else u σ H1 Q
noncomputable def tNot (t:TT):TT:=λ σ H Q=>t σ H λ c H1=>Q (!c) H1
theorem pw_or1 (ha:PT X a tA):PW X (.BoolOp .Or [a] pos) tA:=by
 intro wh pins s σ H Q I h
 refine isTrue_or (thn (ha pins s σ H Q I h) λ c s1 e=>?_)
 cases c with
 | false=>exact isTrue_or_nil e
 | true=>exact e
theorem pw_or (ha:PT X a tA)(hb:PW X (.BoolOp .Or (b :: rest) pos) tB'):PW X (.BoolOp .Or (a :: b :: rest) pos) (tOr tA tB'):=by
 intro wh pins s σ H Q I h
 refine isTrue_or (thn (ha pins s σ H _ I h) λ c s1 hq1=>?_)
 obtain ⟨H1,I1,q1⟩:=hq1
 cases c with
 | true=>exact ⟨H1,I1,q1⟩
 | false=>exact hb wh pins s1 σ H1 Q I1 q1
theorem pt_not (ha:PT X a tA):PT X (.UnaryOp .Not a pos) (tNot tA):=by
 intro pins s σ H Q I h
 exact isTrue_not (ha pins s σ H (λ c H1=>Q (!c) H1) I h)
noncomputable def tAndV (ta tb:TE):TE:=λ σ H Q=>ta σ H λ x H1=>∃ c,x=.bl c/\if c=true then tb σ H1 Q else Q (.bl false) H1
theorem pe_one {op}{t:TE}(h:PE X a t):PE X (.BoolOp op [a] pos) t:=λ pins s σ H Q I hw=>BoolOp_one (h pins s σ H Q I hw)
theorem pe_and (ha:PE X a ta)(hb:PE X (.BoolOp .And (b :: rest) pos) tb):PE X (.BoolOp .And (a :: b :: rest) pos) (tAndV ta tb):=by
 intro pins s σ H Q I h
 refine BoolOp_and (thn (ha pins s σ H _ I h) λ v s1 hq2=>?_)
 obtain ⟨x,H1,I1,r1,q1⟩:=hq2
 obtain ⟨c,rfl,q1⟩:=q1
 cases r1
 refine wpAny_truthy_bool ?_
 cases c with
 | true=>exact hb pins s1 σ H1 Q I1 q1
 | false=>exact ⟨.bl false,H1,I1,rfl,q1⟩
end
end L2
namespace L2
open PySem PySem.Spec PyProof.Rows
noncomputable def SqL (K:PySem.W.Frag)(H:Hp)(a:Addr)(xs:List V):Prop :=
 Rd H a (.lst xs) \/
  ∃ (o:Obj) (its:Array Value) (n:Nat),K.lookup a=some o/\o.cls=.type "list" /\ o.dict=none/\o.data=.seq its n/\its.size<=sizeLine/\Vals xs its.toList
noncomputable def SqT (K:PySem.W.Frag)(H:Hp)(a:Addr)(xs:List V):Prop :=
 Rd H a (.tup xs) \/
  ∃ (o:Obj) (its:Array Value) (n:Nat),K.lookup a=some o/\o.cls=.type "tuple" /\ o.dict=none/\o.data=.seq its n/\its.size<=sizeLine/\Vals xs its.toList
noncomputable def absV:Value->Option V
 | .none=>some .non
 | .bool b=>some (.bl b)
 | .int i _=>some (.int i)
 | .str x _=>some (.str x)
 | .bytes b _=>some (.byt b)
 | .float b _=>some (.flt b)
 | .ref a=>some (.ref a)
 | .type n=>some (.ty n)
 | _=>none
theorem RelV.abs {x:V}{u:Value}(r:RelV x u):absV u=some x:=by
 cases x with
 | non=>cases r; rfl
 | bl _=>cases r; rfl
 | int _=>obtain ⟨t,rfl⟩:=r; rfl
 | str _=>obtain ⟨t,rfl⟩:=r; rfl
 | byt _=>obtain ⟨t,rfl⟩:=r; rfl
 | flt _=>obtain ⟨t,rfl⟩:=r; rfl
 | ref _=>cases r; rfl
 | ty _=>cases r; rfl
theorem RelV.inj {x y:V}{u:Value}(r:RelV x u)(q:RelV y u):x=y:=Option.some.inj (r.abs.symm.trans q.abs)
theorem Vals.inj:∀ {xs ys:List V} {us:List Value},Vals xs us->Vals ys us->xs=ys
 | _,_,_,.nil,.nil=>rfl
 | _,_,_,.cons r t,.cons r' t'=>by rw [r.inj r',Vals.inj t t']
section
variable {X:Cx}{pins:List (Addr×Obj)}{σ:St}{H:Hp}{s:Shared}{a:Addr}{xs ys:List V}
theorem SqL.of {K:PySem.W.Frag}(h:H a=some (.lst xs)):SqL K H a xs:=.inl (.inl h)
theorem SqT.of {K:PySem.W.Frag}(h:H a=some (.tup xs)):SqT K H a xs:=.inl (.inl h)
theorem Inv.list (I:Inv X pins σ H s)(h:SqL X.K H a xs):∃ its:List Value,Vals xs its/\PlainL s.heap a its.toArray/\xs.length<=sizeLine:=by
 rcases h with h | ⟨o,its,n,hk,hc,hd,hs,hz,r⟩
 ·obtain ⟨z,its,n,r,e⟩:=h.ok I.hok
  exact ⟨its,r,⟨_,n,e,rfl,rfl,rfl⟩,z⟩
 ·refine ⟨its.toList,r,⟨o,n,I.kIn a o hk,hc,hd,by simpa using hs⟩,?_⟩
  have e:=r.length
  simp only [Array.length_toList] at e
  omega
theorem Inv.tupN (I:Inv X pins σ H s)(h:SqT X.K H a xs):∃ its:List Value,Vals xs its/\TupN s.heap a its.toArray/\xs.length<=sizeLine:=by
 rcases h with h | ⟨o,its,n,hk,hc,hd,hs,hz,r⟩
 ·obtain ⟨z,its,r,p⟩:=h.ok I.hok
  exact ⟨its,r,p,z⟩
 ·refine ⟨its.toList,r,⟨o,I.kIn a o hk,hc,hd,n,by simpa using hs⟩,?_⟩
  have e:=r.length
  simp only [Array.length_toList] at e
  omega
theorem Inv.tuple (I:Inv X pins σ H s)(h:SqT X.K H a xs):∃ its:List Value,Vals xs its/\IsTup s.heap a its.toArray/\xs.length<=sizeLine:=by
 obtain ⟨its,r,p,z⟩:=I.tupN h
 exact ⟨its,r,p.tup,z⟩
theorem Inv.list_inj (I:Inv X pins σ H s)(h:SqL X.K H a xs)(h':SqL X.K H a ys):xs=ys:=by
 obtain ⟨its,r,⟨o,n,e,_,_,d⟩,_⟩:=I.list h
 obtain ⟨its',r',⟨o',n',e',_,_,d'⟩,_⟩:=I.list h'
 rw [e] at e'; cases e'
 rw [d] at d'
 injection d' with d1 _
 have:its=its':=by simpa using congrArg Array.toList d1
 subst this
 exact r.inj r'
theorem Inv.tuple_inj (I:Inv X pins σ H s)(h:SqT X.K H a xs)(h':SqT X.K H a ys):xs=ys:=by
 obtain ⟨its,r,⟨o,e,_,n,d⟩,_⟩:=I.tuple h
 obtain ⟨its',r',⟨o',e',_,n',d'⟩,_⟩:=I.tuple h'
 rw [e] at e'; cases e'
 rw [d] at d'
 injection d' with d1 _
 have:its=its':=by simpa using congrArg Array.toList d1
 subst this
 exact r.inj r'
end
noncomputable abbrev Cx.wish (X:Cx)(E:Value->Shared->Prop):Cx:={ X with xe:=E }
noncomputable abbrev Cx.nox (X:Cx):Cx:=X.wish λ _ _=>False
theorem Cx.Ok.wish {X:Cx}(ok:X.Ok)(E:Value->Shared->Prop):(X.wish E).Ok :=
 ⟨ok.mod,ok.kind,ok.glob,ok.blt,ok.above,ok.inj,ok.has,ok.cab,ok.hd,ok.frames,ok.stk,ok.exf,ok.bs,ok.bsz,ok.noex,ok.exfs,ok.funs,ok.frf⟩
theorem Cx.Ok.unwish {X:Cx}{E:Value->Shared->Prop}(ok:(X.wish E).Ok):X.Ok :=
 ⟨ok.mod,ok.kind,ok.glob,ok.blt,ok.above,ok.inj,ok.has,ok.cab,ok.hd,ok.frames,ok.stk,ok.exf,ok.bs,ok.bsz,ok.noex,ok.exfs,ok.funs,ok.frf⟩
section
variable {X:Cx}{pins:List (Addr×Obj)}{σ:St}{H:Hp}{s:Shared}{E:Value->Shared->Prop}
theorem Inv.wish (I:Inv X pins σ H s)(E:Value->Shared->Prop):Inv (X.wish E) pins σ H s:=⟨I.ok.wish E,I.os,I.bare,I.base,I.loc,I.cell,I.free,I.freeC,I.pin,I.hok,I.len⟩
theorem Inv.unwish (I:Inv (X.wish E) pins σ H s):Inv X pins σ H s:=⟨I.ok.unwish,I.os,I.bare,I.base,I.loc,I.cell,I.free,I.freeC,I.pin,I.hok,I.len⟩
theorem SP.unwish {D:Ends}{f:Flow}{s':Shared}(h:SP (X.wish E) pins D f s'):SP X pins D f s':=by
 cases f with
 | next=>obtain ⟨σ',H',I,q⟩:=h; exact ⟨σ',H',I.unwish,q⟩
 | brk=>obtain ⟨σ',H',I,q⟩:=h; exact ⟨σ',H',I.unwish,q⟩
 | cont=>obtain ⟨σ',H',I,q⟩:=h; exact ⟨σ',H',I.unwish,q⟩
 | ret u=>obtain ⟨v,σ',H',I,r,q⟩:=h; exact ⟨v,σ',H',I.unwish,r,q⟩
theorem PE.nox {e:Expr}{t:TE}(h:PE X.nox e t):PE X e t:=λ pins s σ H Q I hw =>
 wpAny_mono (h pins s σ H Q (I.wish _) hw) (λ _ _ ⟨v,H',I',r,q⟩=>⟨v,H',I'.unwish,r,q⟩) λ _ _ z=>False.elim z
theorem PT.nox {e:Expr}{t:TT}(h:PT X.nox e t):PT X e t:=λ pins s σ H Q I hw =>
 wpAny_mono (h pins s σ H Q (I.wish _) hw) (λ _ _ ⟨H',I',q⟩=>⟨H',I'.unwish,q⟩) λ _ _ z=>False.elim z
theorem PSs.nox {st:List Stmt}{t:TS}(h:PSs X.nox st t):PSs X st t:=λ pins s σ H D I hw =>
 wpAny_mono (h pins s σ H D (I.wish _) hw) (λ _ _ q=>q.unwish) λ _ _ z=>False.elim z
end
section
variable {X:Cx}{st:Stmt}{rest:List Stmt}{t u:TS}{e:Expr}{te:TE}{pos:Pos}
noncomputable def tNext:TS:=λ D σ H=>D.nx σ H
noncomputable def tSeq (t u:TS):TS:=λ D σ H=>t { D with nx:=u D } σ H
theorem pss_nil:PSs X [] tNext:=λ _ _ σ H _ I h=>wpAny_execs_nil ⟨σ,H,I,h⟩
theorem pss_cons (h1:PS X st t)(h2:PSs X rest u):PSs X (st :: rest) (tSeq t u):=by
 intro pins s σ H D I h
 refine wpAny_execs_cons (thn (h1 pins s σ H { D with nx:=u D } I h) λ f s1 q=>?_)
 cases f with
 | next =>
  obtain ⟨σ',H',I',q⟩:=q
  exact h2 pins s1 σ' H' D I' q
 | ret v=>exact q
 | brk=>exact q
 | cont=>exact q
theorem pss_one (h1:PS X st t):PSs X [st] t:=by
 intro pins s σ H D I h
 refine wpAny_execs_cons (thn (h1 pins s σ H D I h) λ f s1 q=>?_)
 cases f with
 | next=>exact wpAny_execs_nil q
 | ret v=>exact q
 | brk=>exact q
 | cont=>exact q
theorem Inv.quiet {pins:List (Addr×Obj)}{σ:St}{H:Hp}{s:Shared}(I:Inv X pins σ H s):interactive X.env=false:=by simp [interactive,I.ok.kind]
noncomputable def tDrop (te:TE):TS:=λ D σ H=>te σ H λ _ H1=>D.nx σ H1
theorem ps_expr (he:PE X e te)(hs:swapsWith e none pos.line X.env=pure false:=by rfl):PS X (.Expr e pos) (tDrop te):=by
 intro pins s σ H D I h
 exact wpAny_Expr_any (thn (he pins s σ H _ I h) λ v s1 ⟨x,H1,I1,r1,q1⟩=>⟨σ,H1,I1,q1⟩) I.quiet hs
noncomputable def tRet (te:TE):TS:=λ D σ H=>te σ H D.rt
theorem ps_ret (he:PE X e te):PS X (.Return (some e) pos) (tRet te):=by
 intro pins s σ H D I h
 exact wpAny_Return_some (thn (he pins s σ H _ I h) λ v s1 ⟨x,H1,I1,r1,q1⟩=>⟨x,σ,H1,I1,r1,q1⟩)
noncomputable def tIfS (c:TT)(t u:TS):TS:=λ D σ H=>c σ H λ b H1=>if b=true then t D σ H1 else u D σ H1
theorem ps_if {c:Expr}{a b:List Stmt}{tc:TT}(hc:PT X c tc)(ha:PSs X a t)(hb:PSs X b u):PS X (.If c a b pos) (tIfS tc t u):=by
 intro pins s σ H D I h
 refine wpAny_If (thn (hc pins s σ H _ I h) λ d s1 hq3=>?_)
 obtain ⟨H1,I1,q1⟩:=hq3
 cases d with
 | true=>exact ha pins s1 σ H1 D I1 q1
 | false=>exact hb pins s1 σ H1 D I1 q1
end
noncomputable abbrev TG:=V->St->Hp->(St->Hp->Prop)->Prop
noncomputable abbrev TGs:=List V->St->Hp->(St->Hp->Prop)->Prop
noncomputable def PG (X:Cx)(target:Expr)(t:TG):Prop :=
 ∀ (pins:List (Addr×Obj)) (s:Shared) (σ:St) (H:Hp) (v:V) (u:Value) (Q:St->Hp->Prop),Inv X pins σ H s->RelV v u->t v σ H Q ->
  wpAny (model X.prog X.w) X.A (assign target X.env u) (λ _ s'=>∃ σ' H',Inv X pins σ' H' s'/\Q σ' H') X.xe s
noncomputable def PGs (X:Cx)(ts:List Expr)(t:TGs):Prop :=
 ∀ (pins:List (Addr×Obj)) (s:Shared) (σ:St) (H:Hp) (vs:List V) (us:List Value) (Q:St->Hp->Prop),Inv X pins σ H s->Vals vs us->t vs σ H Q ->
  wpAny (model X.prog X.w) X.A (assignInOrder ((assignEach ts X.env).map (·.2)) us) (λ _ s'=>∃ σ' H',Inv X pins σ' H' s'/\Q σ' H') X.xe s
noncomputable abbrev TSet:=V->V->V->Hp->(Hp->Prop)->Prop
noncomputable def PSet (X:Cx)(t:TSet):Prop :=
 ∀ (pins:List (Addr×Obj)) (s:Shared) (σ:St) (H:Hp) (o i v:V) (ov iv u:Value) (Q:Hp->Prop),Inv X pins σ H s->RelV o ov->RelV i iv->RelV v u->t o i v H Q ->
  wpAny (model X.prog X.w) X.A (setItem ov iv u) (λ _ s'=>∃ H',Inv X pins σ H' s'/\Q H') X.xe s
noncomputable abbrev TIp:=V->V->Hp->VK->Prop
noncomputable def PIp (X:Cx)(op:Operator)(t:TIp):Prop :=
 ∀ (pins:List (Addr×Obj)) (s:Shared) (σ:St) (H:Hp) (x y:V) (v u:Value) (Q:VK),Inv X pins σ H s->RelV x v->RelV y u->t x y H Q ->
  wpAny (model X.prog X.w) X.A (inplaceOp op v u) (EP X pins σ Q) X.xe s
section
variable {X:Cx}{pos:Pos}
noncomputable def gName (i:Nat):TG:=λ v σ H Q=>Q (σ.set i (some v)) H
theorem pg_name {i:Nat}{x:Str}(hN:X.N.Nodup)(hi:X.N[i]? = some x)(hx:Loc X.env.scope x)(hf:X.fn x=true\/X.env.scope.names.lookup x=some .local:=by first | exact .inl rfl | exact .inr rfl | assumption):PG X (.Name x pos) (gName i):=by
 intro pins s σ H v u Q I r h
 exact wpAny_assign_Name (store_ok I hN hi hx r (λ s' I'=>⟨_,H,I',h⟩) hf)
noncomputable def gNil:TGs:=λ vs σ H Q=>vs=[]/\Q σ H
noncomputable def gCons (t:TG)(u:TGs):TGs:=λ vs σ H Q=>∃ v r,vs=v :: r/\t v σ H λ σ' H'=>u r σ' H' Q
theorem pgs_nil:PGs X [] gNil:=by
 intro pins s σ H vs us Q I r h
 obtain ⟨e,h⟩:=h
 subst e
 cases r
 exact assignInOrder_nil ⟨σ,H,I,h⟩
theorem pgs_cons {e:Expr}{es:List Expr}{t:TG}{u:TGs}(h1:PG X e t)(h2:PGs X es u)
  (hs:(assignEach (e :: es) X.env).map (·.2)=assign e X.env :: (assignEach es X.env).map (·.2):=by rfl):PGs X (e :: es) (gCons t u):=by
 intro pins s σ H vs us Q I r h
 obtain ⟨v,vr,e1,h⟩:=h
 subst e1
 cases r with
 | cons r rr =>
  rw [hs]
  refine assignInOrder_cons (thn (h1 pins s σ H _ _ _ I r h) λ _ s1 hq4=>?_)
  obtain ⟨σ1,H1,I1,q1⟩:=hq4
  exact h2 pins s1 σ1 H1 _ _ Q I1 rr q1
noncomputable def gTup (K:PySem.W.Frag)(n:Nat)(t:TGs):TG:=λ v σ H Q=>∃ a xs,v=.ref a/\SqT K H a xs/\xs.length=n/\t xs σ H Q
theorem pg_tup {es:List Expr}{k:Nat}{t:TGs}{n:Nat}(hc:X.calm=true)(h:PGs X es t)
  (hn:(assignEach es X.env).length=n:=by rfl)(hst:(assignEach es X.env).findIdx? (·.1)=none:=by rfl):PG X (.Tuple es k pos) (gTup X.K n t):=by
 intro pins s σ H v u Q I r hw
 obtain ⟨a,xs,e1,hq,hl,hw⟩:=hw
 subst e1
 cases r
 obtain ⟨its,rv,ht,hz⟩:=I.tuple hq
 refine assign_Tuple_tuple (I.ok.hd hc) ht (by simp [hn,<- hl,rv.length]) hst λ h' hx=>?_
 have I1:Inv X pins σ H { s with heap:=h' }:=I.kept (t':=s.toks) λ b o e=>hx b o (Nat.ne_of_lt (Heap.lt_size e)) e
 exact h pins _ σ H xs _ Q I1 (by simpa using rv) hw
noncomputable def gSub (to ti:TE)(t:TSet):TG:=λ v σ H Q=>to σ H λ o H1=>ti σ H1 λ i H2=>t o i v H2 λ H3=>Q σ H3
theorem pg_sub {o i:Expr}{to ti:TE}{t:TSet}(ho:PE X o to)(hi:PE X i ti)(hs:PSet X t)
  (ha:∀ v,assign (.Subscript o i pos) X.env v=(do
   let ov <- holding [v] (eval o X.env)
   let iv <- holding [v,ov] (eval i X.env)
   standAt pos
   holding [v,ov,iv] (setItem ov iv v)
   release [v,ov,iv] []):=by intro _; rfl):PG X (.Subscript o i pos) (gSub to ti t):=by
 intro pins s σ H v u Q I r h
 rw [ha]
 refine wpAny_bind (wpAny_holding (thn (ho pins s σ H _ I h) λ ov s1 hq5=>?_))
 obtain ⟨x,H1,I1,r1,q1⟩:=hq5
 refine wpAny_bind (wpAny_holding (thn (hi pins s1 σ H1 _ I1 q1) λ iv s2 hq6=>?_))
 obtain ⟨y,H2,I2,r2,q2⟩:=hq6
 refine wpAny_bind (wpAny_standAt (wpAny_bind (wpAny_holding (thn (hs pins s2 σ H2 x y v ov iv u _ I2 r1 r2 r q2) λ _ s3 hq7=>?_))))
 obtain ⟨H3,I3,q3⟩:=hq7
 exact wpAny_release ⟨σ,H3,I3,q3⟩
noncomputable def tAsg (te:TE)(g:TG):TS:=λ D σ H=>te σ H λ x H1=>g x σ H1 D.nx
theorem ps_asg {tg e:Expr}{te:TE}{g:TG}(he:PE X e te)(hg:PG X tg g)(hs:swapsWithSole [tg] e pos.line X.env=pure false:=by rfl)(hw:swappedStores [tg] e X.env=pure none:=by rfl)
  (h1:(assignEach [tg] X.env).map (·.2)=[assign tg X.env]:=by rfl):PS X (.Assign [tg] e pos) (tAsg te g):=by
 intro pins s σ H D I h
 refine wpAny_Assign_stores (thn (he pins s σ H _ I h) λ v s1 ⟨x,H1,I1,r1,q1⟩=>?_) hs hw
 rw [h1]
 exact thn (hg pins s1 σ H1 x v _ I1 r1 q1) λ _ s2 q=>q
theorem ps_set {i:Nat}{x:Str}{e:Expr}{te:TE}{pos':Pos}(hN:X.N.Nodup)(hi:X.N[i]? = some x)(hx:Loc X.env.scope x)(he:PE X e te)(hs:swapsWith e (some (.Name x pos')) pos.line X.env=pure false:=by rfl)(hf:X.fn x=true\/X.env.scope.names.lookup x=some .local:=by first | exact .inl rfl | exact .inr rfl | assumption) :
  PS X (.Assign [.Name x pos'] e pos) (tAsg te (gName i)):=by
 intro pins s σ H D I h
 refine wpAny_Assign_Name (thn (he pins s σ H _ I h) λ v s1 ⟨y,H1,I1,r1,q1⟩=>?_) hs
 exact store_ok I1 hN hi hx r1 (λ s2 I2=>⟨_,H1,I2,q1⟩) hf
noncomputable def tAugS (to ti te:TE)(tget:V->V->Hp->VK->Prop)(tip:TIp)(tset:TSet):TS:=λ D σ H=>to σ H λ o H1=>ti σ H1 λ i H2=>tget o i H2 λ x H3=>te σ H3 λ y H4=>tip x y H4 λ z H5=>tset o i z H5 λ H6=>D.nx σ H6
noncomputable def PGet (X:Cx)(t:V->V->Hp->VK->Prop):Prop :=
 ∀ (pins:List (Addr×Obj)) (s:Shared) (σ:St) (H:Hp) (o i:V) (ov iv:Value) (Q:VK),Inv X pins σ H s->RelV o ov->RelV i iv->t o i H Q ->
  wpAny (model X.prog X.w) X.A (getItem ov iv) (EP X pins σ Q) X.xe s
theorem ps_augS {o i e:Expr}{to ti te:TE}{tget:V->V->Hp->VK->Prop}{tip:TIp}{tset:TSet}{op:Operator}{tpos:Pos}(ho:PE X o to)(hi:PE X i ti)(hg:PGet X tget)(he:PE X e te)(hp:PIp X op tip)(hs:PSet X tset)
  (ha:∀ ov iv new,augStore i ov iv new=(do holding [new,ov,iv] (setItem ov iv new); release [new,ov,iv] []; pure .next):=by intros; rfl):PS X (.AugAssign (.Subscript o i tpos) op e pos) (tAugS to ti te tget tip tset):=by
 intro pins s σ H D I h
 refine wpAny_AugAssign_SubscriptAny (thn (ho pins s σ H _ I h) λ ov s1 ⟨x1,H1,I1,r1,q1⟩=>?_) ha
 refine thn (hi pins s1 σ H1 _ I1 q1) λ iv s2 hq8=>?_
 obtain ⟨x2,H2,I2,r2,q2⟩:=hq8
 refine thn (hg pins s2 σ H2 x1 x2 ov iv _ I2 r1 r2 q2) λ old s3 hq9=>?_
 obtain ⟨x3,H3,I3,r3,q3⟩:=hq9
 refine thn (he pins s3 σ H3 _ I3 q3) λ v s4 hq10=>?_
 obtain ⟨x4,H4,I4,r4,q4⟩:=hq10
 refine thn (hp pins s4 σ H4 x3 x4 old v _ I4 r3 r4 q4) λ new s5 hq11=>?_
 obtain ⟨x5,H5,I5,r5,q5⟩:=hq11
 exact thn (hs pins s5 σ H5 x1 x2 x5 ov iv new _ I5 r1 r2 r5 q5) λ _ s6 ⟨H6,I6,q6⟩=>⟨σ,H6,I6,q6⟩
noncomputable def ipI (f:Int->Int->Int):TIp:=λ x y H Q=>∃ i j,x=.int i/\y=.int j/\Q (.int (f i j)) H
theorem ip_add:PIp X .Add (ipI λ i j=>i+j):=by
 intro pins s σ H x y v u Q I r1 r2 h
 obtain ⟨i,j,e1,e2,q⟩:=h
 subst e1; subst e2
 obtain ⟨t,rfl⟩:=r1
 obtain ⟨t',rfl⟩:=r2
 exact iadd_int ⟨.int _,H,I.tok _,⟨_,rfl⟩,q⟩
end
section
variable {X:Cx}{pos:Pos}
end
structure It where
 go:Nat->Hp->Prop
 yld:Nat->Hp->V->Hp->Prop
 stop:Nat->Hp->Prop
noncomputable def FpOk (X:Cx)(pins:List (Addr×Obj))(H:Hp)(b:Addr):Prop :=
 H b=none/\b≠X.env.locals/\b ∉ X.fs/\(b∈X.ex\/X.s₀.heap.objs.size<=b)/\(∀ x c,X.env.cells.lookup x=some c->c≠b)/\∀ p∈X.pn++pins,p.1≠b
theorem Inv.fpOk {X:Cx}{pins:List (Addr×Obj)}{σ:St}{H H':Hp}{s:Shared}{b:Addr}(I:Inv X pins σ H s)(hb:s.heap.objs.size<=b)(hn:H' b=none):FpOk X pins H' b:=by
 refine ⟨hn,Nat.ne_of_gt (Nat.lt_of_lt_of_le I.lt hb),I.nofs hb,.inr (Nat.le_trans I.sz hb),λ x c e z=>?_,λ p hp z=>?_⟩
 ·obtain ⟨v,q⟩:=I.cell x c e
  exact absurd (Nat.lt_of_lt_of_le q.lt (by rw [z]; exact hb)) (Nat.lt_irrefl _)
 ·exact absurd (Nat.lt_of_lt_of_le (Heap.lt_size (I.pin p hp).1) (by rw [z]; exact hb)) (Nat.lt_irrefl _)
structure Turn (P:Program)(w:World)(K:PySem.W.Frag)(tg:Expr)(J:It)(fp:List Addr)(it:Addr)(tn:Nat->Heap->Prop):Prop where
 mem:it∈fp
 obj:∀ i h,tn i h->∀ b∈fp,∃ o,h.get? b=some o/\∀ v,o.data ≠ .cell v
 keep:∀ i h h',tn i h->(∀ b∈fp,∀ o,h.get? b=some o->h'.get? b=some o)->tn i h'
 item:∀ (X:Cx),X.prog=P->X.w=w->X.K=K->X.calm=true->∀ (i:Nat) (pins:List (Addr×Obj)) (s:Shared) (σ:St) (H:Hp) (E:Value->Shared->Prop),Inv X pins σ H s->(∀ b∈fp,FpOk X pins H b)->tn i s.heap->J.go i H ->
  wpAny (model P w) X.A (pyNext (.ref it)) (λ r s1=>∃ u,r=some u /\
   wpAny (model P w) X.A (letOwnedTupleGo tg (.ref it) u) (λ _ s2=>∃ x H',Inv X pins σ H' s2/\RelV x u/\J.yld i H x H'/\tn (i+1) s2.heap/\∀ b∈fp,H' b=none) E s1) E s
 done:∀ (X:Cx),X.prog=P->X.w=w->X.K=K->X.calm=true->∀ (i:Nat) (pins:List (Addr×Obj)) (s:Shared) (σ:St) (H:Hp) (E:Value->Shared->Prop),Inv X pins σ H s->(∀ b∈fp,FpOk X pins H b)->tn i s.heap->J.stop i H ->
  wpAny (model P w) X.A (pyNext (.ref it)) (λ r s1=>r=none/\Inv X pins σ H s1) E s
 self:∀ (A:Around) (i:Nat) (s:Shared) (Q:Value->Shared->Prop) (E:Value->Shared->Prop),tn i s.heap->Q (.ref it) s->wpAny (model P w) A (pyIter (.ref it)) Q E s
noncomputable abbrev TI:=St->Hp->(It->Hp->Prop)->Prop
noncomputable def PIE (X:Cx)(pins:List (Addr×Obj))(σ:St)(tg:Expr)(R:It->Hp->Prop)(itv:Value)(s2:Shared):Prop :=
 ∃ (it:Addr) (fp:List Addr) (tn:Nat->Heap->Prop) (J:It) (H':Hp),itv=.ref it/\Inv X pins σ H' s2/\Turn X.prog X.w X.K tg J fp it tn/\tn 0 s2.heap/\(∀ b∈fp,FpOk X pins H' b)/\R J H'
noncomputable def PI (X:Cx)(tg iter:Expr)(wi:TI):Prop :=
 ∀ (pins:List (Addr×Obj)) (s:Shared) (σ:St) (H:Hp) (R:It->Hp->Prop),Inv X pins σ H s->wi σ H R ->
  wpAny (model X.prog X.w) X.A (eval iter X.env) (λ v s1=>wpAny (model X.prog X.w) X.A (pyIter v) (PIE X pins σ tg R) X.xe s1) X.xe s
theorem go_of {M:Model}{A:Around}{E:Value->Shared->Prop}{s:Shared}{tg:Expr}{it:Addr}{u:Value}{o:Obj}{n:String}{vs:Array Value}{Q:Unit->Shared->Prop}(ho:s.heap.get? it=some o)(hc:o.cls=.type n)(hd:o.data=.fields vs)
  (hn:["enumerate", "zip", "dict_itemiterator", "dict_reverseitemiterator", "odict_iterator", "itertools.zip_longest", "itertools.pairwise"].contains n=false)(hQ:Q () s):wpAny M A (letOwnedTupleGo tg (.ref it) u) Q E s:=by
 unfold letOwnedTupleGo
 cases tg <;> first
  | exact wpAny_pure hQ
  | (cases u <;> first
    | exact wpAny_pure hQ
    | (refine wpAny_bind (wpAny_load ho ?_)
       rw [hc,hd]
       show wpAny M A (if (["enumerate", "zip", "dict_itemiterator", "dict_reverseitemiterator", "odict_iterator", "itertools.zip_longest", "itertools.pairwise"].contains n && vs[0]? == some (rawInt _))=true then _ else _) Q E s
       rw [if_neg (by intro h; rw [hn,Bool.false_and] at h; cases h)]
       exact wpAny_pure hQ))
noncomputable def Itl (K:PySem.W.Frag)(a:Addr):It :=
 ⟨λ i H=>∃ xs x,SqL K H a xs/\xs[i]? = some x,λ i H x H'=>H'=H/\∀ xs,SqL K H a xs->xs[i]? = some x,λ i H=>∃ xs,SqL K H a xs/\xs.length<=i⟩
noncomputable def Itt (K:PySem.W.Frag)(a:Addr):It :=
 ⟨λ i H=>∃ xs x,SqT K H a xs/\xs[i]? = some x,λ i H x H'=>H'=H/\∀ xs,SqT K H a xs->xs[i]? = some x,λ i H=>∃ xs,SqT K H a xs/\xs.length<=i⟩
noncomputable def Itr (lo:Int)(n:Nat):It:=⟨λ i _=>i < n,λ i H x H'=>H'=H/\x=.int (lo+i),λ i _=>n<=i⟩
theorem turn_list {P:Program}{w:World}{K:PySem.W.Frag}{tg:Expr}(a it:Addr):Turn P w K tg (Itl K a) [it] it (λ i h=>h.IsListIter it a i) where
 mem:=by simp
 obj:=λ i h st b hb=>by
  have e:b=it:=by simpa using hb
  subst e
  obtain ⟨o,e,c,d⟩:=st
  exact ⟨o,e,λ v z=>by rw [d] at z; cases z⟩
 keep:=λ i h h' st k=>st.at λ o e=>k it (by simp) o e
 item:=by
  intro X hP hw hK hc i pins s σ H E I hf st hg
  subst hP hw hK
  obtain ⟨xs,x,hq,hx⟩:=hg
  obtain ⟨its,rv,p,hz⟩:=I.list hq
  obtain ⟨u,hu,ru⟩:=rv.get hx
  obtain ⟨f0,f1,f2,f3,f4,f5⟩:=hf it (by simp)
  refine wpAny_pyNext_list_item st p.isList (x:=u) (by simpa using hu) λ h' st' sb=>?_
  have I1:Inv X pins σ H { s with heap:=h' }:=I.turned (t':=s.toks) (λ b o hb e=>(sb.2 b hb).trans e) f0 f1 f3 f4 f5
  obtain ⟨o,e,c,d⟩:=id st'
  exact ⟨u,rfl,go_of (s:={ s with heap:=h' }) e c d (by decide) ⟨x,H,I1,ru,⟨rfl,λ ys hy=>by rw [I.list_inj hy hq]; exact hx⟩,st',λ b hb=>(hf b hb).1⟩⟩
 done:=by
  intro X hP hw hK hc i pins s σ H E I hf st hg
  subst hP hw hK
  obtain ⟨xs,hq,hx⟩:=hg
  obtain ⟨its,rv,p,hz⟩:=I.list hq
  obtain ⟨f0,f1,f2,f3,f4,f5⟩:=hf it (by simp)
  have hl:=rv.length
  exact wpAny_pyNext_list_end (I.ok.hd hc) st p.isList (by simp; omega) λ h' eb=>⟨rfl,I.turned (t':=s.toks) (λ b o hb e=>eb b o hb e) f0 f1 f3 f4 f5⟩
 self:=λ _ _ _ _ _ st h=>wpAny_pyIter_listiter st h
theorem turn_tuple {P:Program}{w:World}{K:PySem.W.Frag}{tg:Expr}(a it:Addr):Turn P w K tg (Itt K a) [it] it (λ i h=>h.IsTupleIter it a i) where
 mem:=by simp
 obj:=λ i h st b hb=>by
  have e:b=it:=by simpa using hb
  subst e
  obtain ⟨o,e,c,d⟩:=st
  exact ⟨o,e,λ v z=>by rw [d] at z; cases z⟩
 keep:=λ i h h' st k=>st.at λ o e=>k it (by simp) o e
 item:=by
  intro X hP hw hK hc i pins s σ H E I hf st hg
  subst hP hw hK
  obtain ⟨xs,x,hq,hx⟩:=hg
  obtain ⟨its,rv,p,hz⟩:=I.tuple hq
  obtain ⟨u,hu,ru⟩:=rv.get hx
  obtain ⟨f0,f1,f2,f3,f4,f5⟩:=hf it (by simp)
  refine wpAny_pyNext_tuple_item st (show s.heap.IsTuple a its.toArray from p) (x:=u) (by simpa using hu) λ h' st' sb=>?_
  have I1:Inv X pins σ H { s with heap:=h' }:=I.turned (t':=s.toks) (λ b o hb e=>(sb.2 b hb).trans e) f0 f1 f3 f4 f5
  obtain ⟨o,e,c,d⟩:=id st'
  exact ⟨u,rfl,go_of (s:={ s with heap:=h' }) e c d (by decide) ⟨x,H,I1,ru,⟨rfl,λ ys hy=>by rw [I.tuple_inj hy hq]; exact hx⟩,st',λ b hb=>(hf b hb).1⟩⟩
 done:=by
  intro X hP hw hK hc i pins s σ H E I hf st hg
  subst hP hw hK
  obtain ⟨xs,hq,hx⟩:=hg
  obtain ⟨its,rv,p,hz⟩:=I.tuple hq
  obtain ⟨f0,f1,f2,f3,f4,f5⟩:=hf it (by simp)
  have hl:=rv.length
  exact wpAny_pyNext_tuple_end (I.ok.hd hc) st (show s.heap.IsTuple a its.toArray from p) (by simp; omega) λ h' eb=>⟨rfl,I.turned (t':=s.toks) (λ b o hb e=>eb b o hb e) f0 f1 f3 f4 f5⟩
 self:=λ _ _ _ _ _ st h=>wpAny_pyIter_tupleiter st h
theorem turn_range {P:Program}{w:World}{K:PySem.W.Frag}{tg:Expr}(it:Addr)(lo:Int)(n:Nat):Turn P w K tg (Itr lo n) [it] it (λ i h=>IsRangeIter h it (lo+(i:Nat) * 1) ((n:Int) - (i:Nat)) 1) where
 mem:=by simp
 obj:=λ i h st b hb=>by
  have e:b=it:=by simpa using hb
  subst e
  exact ⟨_,st,λ v z=>by
   have z':Data.fields _=Data.cell v:=z
   cases z'⟩
 keep:=λ i h h' st k=>k it (by simp) _ st
 item:=by
  intro X hP hw hK hc i pins s σ H E I hf st hg
  subst hP hw hK
  obtain ⟨f0,f1,f2,f3,f4,f5⟩:=hf it (by simp)
  have W:=Walks.range (prog:=X.prog) (w:=X.w) (I.ok.hd hc) it lo 1 n
  refine W.item i s _ _ hg st λ v h' tk hv st' kk=>?_
  obtain ⟨t,rfl⟩:=hv
  have I1:Inv X pins σ H { s with heap:=h',toks:=tk }:=I.turned (λ b o hb e=>kk b o (by simpa using hb) e) f0 f1 f3 f4 f5
  refine ⟨_,rfl,go_of (s:={ s with heap:=h',toks:=tk }) (n := "range_iterator") st' rfl rfl (by decide) ⟨.int (lo+i),H,I1,⟨t,?_⟩,⟨rfl,rfl⟩,st',λ b hb=>(hf b hb).1⟩⟩
  rw [Int.mul_one]
 done:=by
  intro X hP hw hK hc i pins s σ H E I hf st hg
  subst hP hw hK
  obtain ⟨f0,f1,f2,f3,f4,f5⟩:=hf it (by simp)
  exact wpAny_pyNext_range_end (I.ok.hd hc) st (by have:n<=i:=hg; omega) λ h' eb=>⟨rfl,I.turned (t':=s.toks) (λ b o hb e=>eb b o hb e) f0 f1 f3 f4 f5⟩
 self:=λ _ _ _ _ _ st h=>wpAny_pyIter_rangeiter st h
end L2
namespace L2
open PySem PySem.Spec PyProof.Rows
section
variable {X:Cx}{tg:Expr}
theorem range_it {pins:List (Addr×Obj)}{σ:St}{H:Hp}{s:Shared}{R:It->Hp->Prop}{E:Value->Shared->Prop}{lo hi:Int}{t u v:Tok}{tk:Nat}(I:Inv X pins σ H s)(h1:-(2 ^ 62)<=lo)(h2:lo < 2 ^ 62)(h3:-(2 ^ 62)<=hi)(h4:hi < 2 ^ 62)
  (q:R (Itr lo (hi - lo).toNat) H):wpAny (model X.prog X.w) X.A (pyIter (.ref s.heap.objs.size)) (PIE X pins σ tg R) E { s with heap:=s.heap.push { cls:=.type "range",data:=.fields #[.int lo t,.int hi u,.int 1 v] },toks:=tk }:=by
 refine wpAny_pyIter_range (IsRange.new ..) (small_one h1 h2 h3 h4) ?_
 have I1:Inv X pins σ H { s with heap:=s.heap.push { cls:=.type "range",data:=.fields #[.int lo t,.int hi u,.int 1 v] },toks:=tk }:=I.kept λ b o e=>Heap.get?_push_of_some _ e
 refine ⟨(s.heap.push { cls:=.type "range",data:=.fields #[.int lo t,.int hi u,.int 1 v] }).objs.size,[(s.heap.push { cls:=.type "range",data:=.fields #[.int lo t,.int hi u,.int 1 v] }).objs.size],_,_,H,rfl,
  I1.kept (t':=tk) λ b o e=>Heap.get?_push_of_some _ e,turn_range _ lo (hi - lo).toNat,?_,λ b hb=>?_,q⟩
 ·have e1:lo+((0:Nat):Int) * 1=lo:=by simp
  have e2:(((hi - lo).toNat:Nat):Int) - ((0:Nat):Int)=Builtin.Range.rangeSize lo hi 1:=by rw [rangeSize_one]; split <;> omega
  show IsRangeIter _ _ (lo+((0:Nat):Int) * 1) ((((hi - lo).toNat:Nat):Int) - ((0:Nat):Int)) 1
  rw [e1,e2]
  exact Heap.get?_push_size _ rfl
 ·have e:b=(s.heap.push { cls:=.type "range",data:=.fields #[.int lo t,.int hi u,.int 1 v] }).objs.size:=by simpa using hb
  subst e
  exact I1.fpOk (Nat.le_refl _) (I1.hok.fresh (Nat.le_refl _))
noncomputable def iRng1 (ta:TA):TI:=λ σ H R=>ta σ H λ vs H1=>∃ j:Int,vs=[.int j]/\-(2 ^ 62)<=j/\j < 2 ^ 62/\R (Itr 0 j.toNat) H1
theorem pi_range1 {a:Expr}{ta:TA}{p pos:Pos}(hg:Gl X "range")(hm:X.mg "range" = none)(ha:PA X [a] ta)(hs:starEach [a] X.env=[(false,eval a X.env)]:=by rfl):PI X tg (.Call (.Name "range" p) [a] [] pos) (iRng1 ta):=by
 intro pins s σ H R I h
 refine Call_ (ld_blt I hg hm boot_range (PyProof.Rows.callWith_type1 (thn (ha pos pins s σ H _ I h) λ us s1 ⟨vs,H1,I1,r1,q1⟩=>?_) hs rfl))
 obtain ⟨j,e,q1,q2,q⟩:=q1
 subst e
 cases r1 with
 | cons r rr =>
  cases rr
  obtain ⟨t,rfl⟩:=r
  exact call_range_1 (range_it I1 (by omega) (by omega) q1 q2 (by simpa using q))
noncomputable def tFor (wi:TI)(g:TG)(tb:TS):TS:=λ D σ H=>wi σ H λ J H1=>∃ W:Nat->Nat->St->Hp->Prop,(∃ m,W 0 m σ H1)/\∀ i m σ H,W i m σ H ->
 (J.stop i H/\D.nx σ H)\/(J.go i H/\∃ N:St->Hp->Prop,(∀ σ' H',N σ' H'->∃ m',m' < m/\W (i+1) m' σ' H')/\∀ x H',J.yld i H x H'->g x σ H' λ σ2 H2=>tb { D with nx:=N,ct:=N,bk:=D.nx } σ2 H2)
noncomputable def pinsAt (fp:List Addr)(h:Heap):List (Addr×Obj):=fp.filterMap λ b=>(h.get? b).map λ o=>(b,o)
theorem mem_pinsAt {fp:List Addr}{h:Heap}{b:Addr}{o:Obj}(hb:b∈fp)(e:h.get? b=some o):(b,o)∈pinsAt fp h:=List.mem_filterMap.mpr ⟨b,hb,by rw [e]; rfl⟩
theorem of_pinsAt {fp:List Addr}{h:Heap}{p:Addr×Obj}(hp:p∈pinsAt fp h):p.1∈fp/\h.get? p.1=some p.2:=by
 obtain ⟨b,hb,e⟩:=List.mem_filterMap.mp hp
 cases q:h.get? b with
 | none=>rw [q] at e; cases e
 | some o =>
  rw [q] at e
  have e':(b,o)=p:=Option.some.inj e
  subst e'
  exact ⟨hb,q⟩
theorem Inv.pinned {pins:List (Addr×Obj)}{σ:St}{H:Hp}{s:Shared}{fp:List Addr}(I:Inv X pins σ H s)(hf:∀ b∈fp,FpOk X pins H b)(ho:∀ b∈fp,∃ o,s.heap.get? b=some o/\∀ v,o.data ≠ .cell v):Inv X (pins++pinsAt fp s.heap) σ H s :=
 I.pins_of λ p hp=>(List.mem_append.mp hp).elim (λ z=>I.pin p (List.mem_append_right _ z)) λ z=>by
  obtain ⟨hb,e⟩:=of_pinsAt z
  obtain ⟨f0,f1,f2,_⟩:=hf p.1 hb
  obtain ⟨o,e',d⟩:=ho p.1 hb
  rw [e] at e'; cases e'
  exact ⟨e,f0,f1,f2,d⟩
theorem Inv.unpinned {pins pl:List (Addr×Obj)}{σ:St}{H:Hp}{s:Shared}(I:Inv X (pins++pl) σ H s):Inv X pins σ H s:=I.pins_of λ p hp=>I.pin p (List.mem_append_right _ (List.mem_append_left _ hp))
theorem ps_for {iter:Expr}{body:List Stmt}{wi:TI}{g:TG}{tb:TS}{pos:Pos}(hp:PassesOwn (model X.prog X.w) X.A X.env X.xe)(hc:X.calm=true)(hi:PI X tg iter wi)(hg:PG X tg g)(hb:PSs X body tb)
  (hs:∀ x,foldedSetIterable iter X.env x=pure x:=by intro _; rfl):PS X (.For tg iter body [] pos) (tFor wi g tb):=by
 intro pins s σ H D I h
 refine wpAny_For (thn (hi pins s σ H _ I h) λ v s1 h1=>thn h1 λ itv s2 h2=>?_) hs
 obtain ⟨it,fp,tn,J,H2,e,I2,T,st2,f2,W,⟨m0,w0⟩,turn⟩:=h2
 subst e
 have stat:∀ {H':Hp},(∀ b∈fp,H' b=none)->∀ b∈fp,FpOk X pins H' b:=λ hn b hb=>⟨hn b hb,(f2 b hb).2⟩
 refine codeAny_forLoop_any (λ n s'=>∃ i σ' H',Inv X pins σ' H' s'/\tn i s'.heap/\(∀ b∈fp,H' b=none)/\W i n σ' H') ?_ m0 ⟨0,σ,H2,I2,st2,λ b hb=>(f2 b hb).1,w0⟩
 rintro n s3 ⟨i,σ3,H3,I3,st3,fr3,w3⟩
 rcases turn i n σ3 H3 w3 with ⟨stop,qn⟩ | ⟨go,N,hN,step⟩
 ·refine wpAny_passesOwn hp (thn (T.done X rfl rfl rfl hc i pins s3 σ3 H3 X.xe I3 (stat fr3) st3 stop) λ r s4 ⟨hr,I4⟩=>?_)
  subst hr
  exact wpAny_execs_nil ⟨σ3,H3,I4,qn⟩
 ·refine wpAny_passesOwn hp (thn (T.item X rfl rfl rfl hc i pins s3 σ3 H3 X.xe I3 (stat fr3) st3 go) λ r s4 ⟨u,hr,h4⟩=>?_)
  subst hr
  refine wpAny_passesOwn hp (thn h4 λ _ s5 hq12=>?_)
  obtain ⟨x,H5,I5,r5,y5,st5,fr5⟩:=hq12
  have I5':=I5.pinned (stat fr5) (T.obj _ _ st5)
  refine wpAny_passesOwn hp (thn (hg _ s5 σ3 H5 x u _ I5' r5 (step x H5 y5)) λ _ s6 hq13=>?_)
  obtain ⟨σ6,H6,I6,q6⟩:=hq13
  refine wpAny_passesOwn hp (thn (hb _ s6 σ6 H6 _ I6 q6) λ f s7 q7=>?_)
  have again:∀ {σ7:St} {H7:Hp},Inv X (pins++pinsAt fp s5.heap) σ7 H7 s7->N σ7 H7->∃ m,m < n/\∃ i σ' H',Inv X pins σ' H' s7/\tn i s7.heap/\(∀ b∈fp,H' b=none)/\W i m σ' H':=λ {σ7 H7} I7 n7=>by
   obtain ⟨m',hm,w7⟩:=hN σ7 H7 n7
   refine ⟨m',hm,i+1,σ7,H7,I7.unpinned,T.keep _ _ _ st5 λ b hb o e=>(I7.pin (b,o) (List.mem_append_right _ (List.mem_append_right _ (mem_pinsAt hb e)))).1,λ b hb=>?_,w7⟩
   obtain ⟨o,e,d⟩:=T.obj _ _ st5 b hb
   exact (I7.pin (b,o) (List.mem_append_right _ (List.mem_append_right _ (mem_pinsAt hb e)))).2.1
  cases f with
  | next=>obtain ⟨σ7,H7,I7,n7⟩:=q7; exact again I7 n7
  | cont=>obtain ⟨σ7,H7,I7,n7⟩:=q7; exact again I7 n7
  | brk=>obtain ⟨σ7,H7,I7,q7⟩:=q7; exact ⟨σ7,H7,I7.unpinned,q7⟩
  | ret v=>obtain ⟨x7,σ7,H7,I7,r7,q7⟩:=q7; exact ⟨x7,σ7,H7,I7.unpinned,r7,q7⟩
end
end L2
namespace L2
open PySem PySem.Spec PyProof.Rows
noncomputable abbrev R2:=V->V->Hp->VK->Prop
noncomputable def OpR (X:Cx)(f:Value->Value->Sem Value)(r:R2):Prop :=
 ∀ (pins:List (Addr×Obj)) (s:Shared) (σ:St) (H:Hp) (x y:V) (v u:Value) (Q:VK),Inv X pins σ H s->RelV x v->RelV y u->r x y H Q ->
  wpAny (model X.prog X.w) X.A (f v u) (EP X pins σ Q) X.xe s
noncomputable def CallR (X:Cx)(f:Value)(r:List V->Hp->VK->Prop):Prop :=
 ∀ (pins:List (Addr×Obj)) (s:Shared) (σ:St) (H:Hp) (xs:List V) (us:List Value) (Q:VK),Inv X pins σ H s->Vals xs us->r xs H Q ->
  wpAny (model X.prog X.w) X.A (call f us) (EP X pins σ Q) X.xe s
noncomputable def TruR (X:Cx)(r:V->Hp->(Bool->Hp->Prop)->Prop):Prop :=
 ∀ (pins:List (Addr×Obj)) (s:Shared) (σ:St) (H:Hp) (x:V) (v:Value) (Q:Bool->Hp->Prop),Inv X pins σ H s->RelV x v->r x H Q ->
  wpAny (model X.prog X.w) X.A (truthy v) (TP X pins σ Q) X.xe s
noncomputable def tOp (r:R2)(ta tb:TE):TE:=λ σ H Q=>ta σ H λ x H1=>tb σ H1 λ y H2=>r x y H2 Q
noncomputable def rI (C:Int->Int->Prop)(g:Int->Int->V):R2:=λ x y H Q=>∃ i j,x=.int i/\y=.int j/\C i j/\Q (g i j) H
noncomputable def rI0 (g:Int->Int->V):R2:=λ x y H Q=>∃ i j,x=.int i/\y=.int j/\Q (g i j) H
section
variable {X:Cx}{a b c:Expr}{ta tb tc:TE}{pos:Pos}
theorem binT (ha:PE X a ta)(hb:PE X b tb){pins:List (Addr×Obj)}{s:Shared}{σ:St}{H:Hp}{R:V->V->Hp->Prop}(I:Inv X pins σ H s)
  (h:ta σ H λ x H1=>tb σ H1 λ y H2=>R x y H2){Q:Value->Shared->Prop}{f:Value->Value->Sem Value}
  (hf:∀ v u s2 x y H2,Inv X pins σ H2 s2->RelV x v->RelV y u->R x y H2->wpAny (model X.prog X.w) X.A (f v u) Q X.xe s2) :
  wpAny (model X.prog X.w) X.A (eval a X.env) (λ v s₁=>wpAny (model X.prog X.w) X.A (eval b X.env) (λ u s₂=>wpAny (model X.prog X.w) X.A (f v u) Q X.xe s₂) X.xe s₁) X.xe s:=by
 refine thn (ha pins s σ H _ I h) λ v s1 hq14=>?_
 obtain ⟨x,H1,I1,r1,q1⟩:=hq14
 refine thn (hb pins s1 σ H1 _ I1 q1) λ u s2 hq15=>?_
 obtain ⟨y,H2,I2,r2,q2⟩:=hq15
 exact hf v u s2 x y H2 I2 r1 r2 q2
theorem pe_op {op:Operator}{r:R2}(ho:OpR X (binaryOp op) r)(ha:PE X a ta)(hb:PE X b tb):PE X (.BinOp a op b pos) (tOp r ta tb):=by
 intro pins s σ H Q I h
 exact wpAny_BinOp (binT ha hb I h λ v u s2 x y H2 I2 rx ry q=>ho pins s2 σ H2 x y v u Q I2 rx ry q)
theorem opI {f:Value->Value->Sem Value}{C:Int->Int->Prop}{g:Int->Int->Int}
  (rule:∀ (i j:Int) (t u:Tok) (s:Shared) (Q:Value->Shared->Prop) (E:Value->Shared->Prop),C i j->Q (.int (g i j) s.toks) { s with toks:=s.toks+1 }->wpAny (model X.prog X.w) X.A (f (.int i t) (.int j u)) Q E s) :
  OpR X f (rI C λ i j=>.int (g i j)):=by
 intro pins s σ H x y v u Q I rx ry h
 obtain ⟨i,j,rfl,rfl,hc,q⟩:=h
 obtain ⟨t,rfl⟩:=rx
 obtain ⟨t',rfl⟩:=ry
 exact rule i j t t' s _ _ hc ⟨.int (g i j),H,I.tok _,⟨_,rfl⟩,q⟩
theorem opI0 {f:Value->Value->Sem Value}{g:Int->Int->Int}
  (rule:∀ (i j:Int) (t u:Tok) (s:Shared) (Q:Value->Shared->Prop) (E:Value->Shared->Prop),Q (.int (g i j) s.toks) { s with toks:=s.toks+1 }->wpAny (model X.prog X.w) X.A (f (.int i t) (.int j u)) Q E s) :
  OpR X f (rI0 λ i j=>.int (g i j)):=by
 intro pins s σ H x y v u Q I rx ry h
 obtain ⟨i,j,rfl,rfl,q⟩:=h
 obtain ⟨t,rfl⟩:=rx
 obtain ⟨t',rfl⟩:=ry
 exact rule i j t t' s _ _ ⟨.int (g i j),H,I.tok _,⟨_,rfl⟩,q⟩
theorem opB0 {f:Value->Value->Sem Value}{g:Int->Int->Bool}
  (rule:∀ (i j:Int) (t u:Tok) (s:Shared) (Q:Value->Shared->Prop) (E:Value->Shared->Prop),Q (.bool (g i j)) s->wpAny (model X.prog X.w) X.A (f (.int i t) (.int j u)) Q E s) :
  OpR X f (rI0 λ i j=>.bl (g i j)):=by
 intro pins s σ H x y v u Q I rx ry h
 obtain ⟨i,j,rfl,rfl,q⟩:=h
 obtain ⟨t,rfl⟩:=rx
 obtain ⟨t',rfl⟩:=ry
 exact rule i j t t' s _ _ ⟨.bl (g i j),H,I,rfl,q⟩
noncomputable def CDiv (i j:Int):Prop:=0 < j/\j < 1073741824
noncomputable def CMul (i j:Int):Prop:=(-(2 ^ 64) < i/\i < 2 ^ 64)\/(-(2 ^ 64) < j/\j < 2 ^ 64)
theorem CMul.ok {i j:Int}(h:CMul i j):IntMulOk i j:=by
 rcases h with ⟨h1,h2⟩ | ⟨h1,h2⟩
 ·exact .of_left (intBits_le_64 h1 h2)
 ·exact .of_right (intBits_le_64 h1 h2)
theorem op_add:OpR X (binaryOp .Add) (rI0 λ i j=>.int (i+j)):=opI0 λ _ _ _ _ _ _ _ q=>add_int q
theorem op_mul:OpR X (binaryOp .Mult) (rI CMul λ i j=>.int (i * j)):=opI λ _ _ _ _ _ _ _ hc q=>mul_int q hc.ok
theorem op_fdiv:OpR X (binaryOp .FloorDiv) (rI CDiv λ i j=>.int (i / j)):=opI λ i j _ _ _ _ _ hc q=>by
 have h1:(0:Int) < j:=hc.1
 have h2:j < 1073741824:=hc.2
 exact floordiv_int (by omega) (by rw [Int.fdiv_eq_ediv_of_nonneg i (by omega)]; exact q) (.inl (PyProof.noPylong_small (by omega)))
theorem op_mod:OpR X (binaryOp .Mod) (rI (λ _ j=>0 < j) λ i j=>.int (i % j)):=opI λ i j _ _ _ _ _ hc q=>by
 have h1:(0:Int) < j:=hc
 exact mod_int' (by omega) (by rw [Int.fmod_eq_emod_of_nonneg i (by omega)]; exact q)
end
noncomputable def scal:V->V->Bool
 | .non,.non=>true | .non,.int _=>true | .int _,.non=>true | .non,.bl _=>true | .bl _,.non=>true | .non,.str _=>true | .str _,.non=>true
 | .int _,.int _=>true | .bl _,.bl _=>true | .str _,.str _=>true | .byt _,.byt _=>true
 | .int _,.str _=>true | .str _,.int _=>true | .bl _,.str _=>true | .str _,.bl _=>true
 | _,_=>false
noncomputable def rEq:R2:=λ x y H Q=>scal x y=true/\Q (.bl (decide (x=y))) H
noncomputable def rNe:R2:=λ x y H Q=>scal x y=true/\Q (.bl (!decide (x=y))) H
theorem dec_int {i j:Int}:decide (V.int i=V.int j)=(i == j):=by
 rw [Bool.eq_iff_iff]
 simp
theorem dec_bl {i j:Bool}:decide (V.bl i=V.bl j)=(i == j):=by
 rw [Bool.eq_iff_iff]
 simp
theorem dec_str {i j:Str}:decide (V.str i=V.str j)=(i == j):=by
 rw [Bool.eq_iff_iff]
 simp
theorem dec_byt {i j:Array UInt8}:decide (V.byt i=V.byt j)=(i.toList == j.toList):=by
 rw [Bool.eq_iff_iff]
 cases i
 cases j
 simp
section
variable {X:Cx}{a b c:Expr}{ta tb tc:TE}{pos:Pos}
theorem fin_bl {pins:List (Addr×Obj)}{σ:St}{H:Hp}{s:Shared}{Q:VK}{k k':Bool}(I:Inv X pins σ H s)(q:Q (.bl k) H)(e:k=k'):EP X pins σ Q (.bool k') s:=by
 subst e
 exact ⟨.bl k,H,I,rfl,q⟩
theorem op_eq:OpR X (compareOp .Eq) rEq:=by
 intro pins s σ H x y v u Q I rx ry h
 obtain ⟨hs,q⟩:=h
 cases x with
 | non =>
  cases rx
  cases y with
  | non=>cases ry; exact PySem.EqNone.eq_none_none (fin_bl I q (by simp))
  | bl j=>cases ry; exact PySem.EqNone.eq_none_bool (fin_bl I q (by simp))
  | int j=>obtain ⟨t',rfl⟩:=ry; exact PySem.EqNone.eq_none_int (fin_bl I q (by simp))
  | str j=>obtain ⟨t',rfl⟩:=ry; exact PySem.EqNone.eq_none_str (fin_bl I q (by simp))
  | _=>exact absurd (show false=true from hs) Bool.false_ne_true
 | bl i =>
  cases rx
  cases y with
  | non=>cases ry; exact PySem.EqNone.eq_bool_none (fin_bl I q (by simp))
  | bl j=>cases ry; exact eq_bool (fin_bl I q dec_bl)
  | str j=>obtain ⟨t',rfl⟩:=ry; exact PySem.EqMixed.eq_bool_str (fin_bl I q (by simp))
  | _=>exact absurd (show false=true from hs) Bool.false_ne_true
 | int i =>
  obtain ⟨t,rfl⟩:=rx
  cases y with
  | non=>cases ry; exact PySem.EqNone.eq_int_none (fin_bl I q (by simp))
  | int j=>obtain ⟨t',rfl⟩:=ry; exact eq_int (fin_bl I q dec_int)
  | str j=>obtain ⟨t',rfl⟩:=ry; exact PySem.EqMixed.eq_int_str (fin_bl I q (by simp))
  | _=>exact absurd (show false=true from hs) Bool.false_ne_true
 | str i =>
  obtain ⟨t,rfl⟩:=rx
  cases y with
  | non=>cases ry; exact PySem.EqNone.eq_str_none (fin_bl I q (by simp))
  | bl j=>cases ry; exact PySem.EqMixed.eq_str_bool (fin_bl I q (by simp))
  | int j=>obtain ⟨t',rfl⟩:=ry; exact PySem.EqMixed.eq_str_int (fin_bl I q (by simp))
  | str j=>obtain ⟨t',rfl⟩:=ry; exact eq_str (fin_bl I q dec_str)
  | _=>exact absurd (show false=true from hs) Bool.false_ne_true
 | byt i =>
  obtain ⟨t,rfl⟩:=rx
  cases y with
  | byt j=>obtain ⟨t',rfl⟩:=ry; exact PySem.W.eq_bytes (fin_bl I q dec_byt)
  | _=>exact absurd (show false=true from hs) Bool.false_ne_true
 | _=>cases y <;> exact absurd (show false=true from hs) Bool.false_ne_true
theorem op_ne:OpR X (compareOp .NotEq) rNe:=by
 intro pins s σ H x y v u Q I rx ry h
 obtain ⟨hs,q⟩:=h
 cases x with
 | non =>
  cases rx
  cases y with
  | non=>cases ry; exact PySem.EqNone.ne_none_none (fin_bl I q (by simp))
  | bl j=>cases ry; exact PySem.EqNone.ne_none_bool (fin_bl I q (by simp))
  | int j=>obtain ⟨t',rfl⟩:=ry; exact PySem.EqNone.ne_none_int (fin_bl I q (by simp))
  | str j=>obtain ⟨t',rfl⟩:=ry; exact PySem.EqNone.ne_none_str (fin_bl I q (by simp))
  | _=>exact absurd (show false=true from hs) Bool.false_ne_true
 | bl i =>
  cases rx
  cases y with
  | non=>cases ry; exact PySem.EqNone.ne_bool_none (fin_bl I q (by simp))
  | bl j=>cases ry; exact ne_bool (fin_bl I q (congrArg not dec_bl))
  | str j=>obtain ⟨t',rfl⟩:=ry; exact PySem.EqMixed.ne_bool_str (fin_bl I q (by simp))
  | _=>exact absurd (show false=true from hs) Bool.false_ne_true
 | int i =>
  obtain ⟨t,rfl⟩:=rx
  cases y with
  | non=>cases ry; exact PySem.EqNone.ne_int_none (fin_bl I q (by simp))
  | int j=>obtain ⟨t',rfl⟩:=ry; exact ne_int (fin_bl I q (congrArg not dec_int))
  | str j=>obtain ⟨t',rfl⟩:=ry; exact PySem.EqMixed.ne_int_str (fin_bl I q (by simp))
  | _=>exact absurd (show false=true from hs) Bool.false_ne_true
 | str i =>
  obtain ⟨t,rfl⟩:=rx
  cases y with
  | non=>cases ry; exact PySem.EqNone.ne_str_none (fin_bl I q (by simp))
  | bl j=>cases ry; exact PySem.EqMixed.ne_str_bool (fin_bl I q (by simp))
  | int j=>obtain ⟨t',rfl⟩:=ry; exact PySem.EqMixed.ne_str_int (fin_bl I q (by simp))
  | str j=>obtain ⟨t',rfl⟩:=ry; exact ne_str (fin_bl I q (congrArg not dec_str))
  | _=>exact absurd (show false=true from hs) Bool.false_ne_true
 | byt i =>
  obtain ⟨t,rfl⟩:=rx
  cases y with
  | byt j=>obtain ⟨t',rfl⟩:=ry; exact PySem.W.ne_bytes (fin_bl I q (congrArg not dec_byt))
  | _=>exact absurd (show false=true from hs) Bool.false_ne_true
 | _=>cases y <;> exact absurd (show false=true from hs) Bool.false_ne_true
theorem op_lt:OpR X (compareOp .Lt) (rI0 λ i j=>.bl (decide (i < j))):=opB0 λ _ _ _ _ _ _ _ q=>lt_int q
theorem op_le:OpR X (compareOp .LtE) (rI0 λ i j=>.bl (decide (i<=j))):=opB0 λ _ _ _ _ _ _ _ q=>le_int q
theorem op_gt:OpR X (compareOp .Gt) (rI0 λ i j=>.bl (decide (j < i))):=opB0 λ _ _ _ _ _ _ _ q=>gt_int q
theorem op_ge:OpR X (compareOp .GtE) (rI0 λ i j=>.bl (decide (j<=i))):=opB0 λ _ _ _ _ _ _ _ q=>ge_int q
theorem op_in_str:OpR X (compareOp .In) (λ x y H Q=>∃ i j,x=.str i/\y=.str j/\Q (.bl (!(Builtin.Str.occurrences j i 0 j.length 1).isEmpty)) H):=by
 intro pins s σ H x y v u Q I rx ry h
 obtain ⟨i,j,rfl,rfl,q⟩:=h
 obtain ⟨t,rfl⟩:=rx
 obtain ⟨t',rfl⟩:=ry
 exact in_str (fin_bl I q rfl)
theorem OpR.or {f:Value->Value->Sem Value}{r r':R2}(h:OpR X f r)(h':OpR X f r'):OpR X f (λ x y H Q=>r x y H Q\/r' x y H Q):=by
 intro pins s σ H x y v u Q I rx ry q
 rcases q with q | q
 ·exact h pins s σ H x y v u Q I rx ry q
 ·exact h' pins s σ H x y v u Q I rx ry q
theorem pe_cmpR {op:CmpOp}{r:R2}(ho:OpR X (compareOp op) r)(ha:PE X a ta)(hb:PE X b tb)(hm:behindInMarks op b=false):PE X (.Compare a [op] [b] pos) (tOp r ta tb):=by
 intro pins s σ H Q I h
 exact wpAny_Compare1 (binT ha hb I h λ v u s2 x y H2 I2 rx ry q=>ho pins s2 σ H2 x y v u Q I2 rx ry q) hm
noncomputable def tTest (t:TE):TT:=λ σ H Q=>t σ H λ x H'=>∃ k,x=.bl k/\Q k H'
theorem pt_cmpR {op:CmpOp}{r:R2}(ho:OpR X (compareOp op) r)(ha:PE X a ta)(hb:PE X b tb)(hm:behindInMarks op b=false):PT X (.Compare a [op] [b] pos) (tTest (tOp r ta tb)):=by
 intro pins s σ H Q I h
 refine wpAny_isTrue_Compare1 (thn (ha pins s σ H _ I h) λ v s1 ⟨x,H1,I1,r1,q1⟩=>thn (hb pins s1 σ H1 _ I1 q1) λ u s2 ⟨y,H2,I2,r2,q2⟩ =>
  thn (ho pins s2 σ H2 x y v u _ I2 r1 r2 q2) λ c s3 ⟨z,H3,I3,r3,k,e,q3⟩=>?_) hm
 subst e
 cases r3
 exact wpAny_truthy_bool ⟨H3,I3,q3⟩
noncomputable def tChain (r r':R2)(ta tb tc:TE):TE:=λ σ H Q=>ta σ H λ x H1=>tb σ H1 λ y H2=>r x y H2 λ z H3=>∃ k,z=.bl k /\
 (if k=true then tc σ H3 λ w' H4=>r' y w' H4 Q else Q (.bl false) H3)
theorem pe_chain {op op':CmpOp}{r r':R2}(ho:OpR X (compareOp op) r)(ho':OpR X (compareOp op') r')(ha:PE X a ta)(hb:PE X b tb)(hc:PE X c tc)
  (hm:lastMarks [op,op'] [b,c]=false:=by with_unfolding_all rfl):PE X (.Compare a [op,op'] [b,c] pos) (tChain r r' ta tb tc):=by
 intro pins s σ H Q I h
 refine Compare_chain (thn (ha pins s σ H _ I h) λ v s1 ⟨x,H1,I1,r1,q1⟩=>chain_link (thn (hb pins s1 σ H1 _ I1 q1) λ u s2 ⟨y,H2,I2,r2,q2⟩ =>
  thn (ho pins s2 σ H2 x y v u _ I2 r1 r2 q2) λ d s3 ⟨z,H3,I3,r3,k,e,q3⟩=>?_)) hm
 subst e
 cases r3
 refine wpAny_truthy_bool ?_
 cases k with
 | false=>exact ite_ff ⟨.bl false,H3,I3,rfl,q3⟩
 | true=>exact ite_tt (chain_last (thn (hc pins s3 σ H3 _ I3 q3) λ w' s4 ⟨z',H4,I4,r4,q4⟩=>ho' pins s4 σ H4 y z' u w' Q I4 r2 r4 q4))
theorem pt_chain {op op':CmpOp}{r r':R2}(ho:OpR X (compareOp op) r)(ho':OpR X (compareOp op') r')(ha:PE X a ta)(hb:PE X b tb)(hc:PE X c tc)
  (hm:lastMarks [op,op'] [b,c]=false:=by with_unfolding_all rfl):PT X (.Compare a [op,op'] [b,c] pos) (tTest (tChain r r' ta tb tc)):=by
 intro pins s σ H Q I h
 refine isTrue_chain (thn (ha pins s σ H _ I h) λ v s1 ⟨x,H1,I1,r1,q1⟩=>test_link (thn (hb pins s1 σ H1 _ I1 q1) λ u s2 ⟨y,H2,I2,r2,q2⟩ =>
  thn (ho pins s2 σ H2 x y v u _ I2 r1 r2 q2) λ d s3 ⟨z,H3,I3,r3,k,e,q3⟩=>?_)) hm
 subst e
 cases r3
 refine wpAny_truthy_bool ?_
 cases k with
 | false =>
  obtain ⟨k',e',q'⟩:=q3
  cases e'
  exact ite_ff ⟨H3,I3,q'⟩
 | true =>
  refine ite_tt (test_last (thn (hc pins s3 σ H3 _ I3 q3) λ w' s4 ⟨z',H4,I4,r4,q4⟩=>thn (ho' pins s4 σ H4 y z' u w' _ I4 r2 r4 q4) λ d' s5 hq16=>?_))
  obtain ⟨z2,H5,I5,r5,k2,e2,q5⟩:=hq16
  subst e2
  cases r5
  exact wpAny_truthy_bool ⟨H5,I5,q5⟩
noncomputable def TruV (K:PySem.W.Frag)(x:V)(H:Hp)(k:Bool):Prop :=
 match x with
 | .non=>k=false
 | .bl b=>k=b
 | .int i=>k=(i != 0)
 | .str y=>y.length<=sizeLine/\k=((y.length:Int) != 0)
 | .byt y=>y.size<=sizeLine/\k=((y.size:Int) != 0)
 | .ref p=>(∃ xs,SqL K H p xs/\k=!xs.isEmpty)\/(∃ xs,SqT K H p xs/\k=!xs.isEmpty)\/∃ kvs,H p=some (.dK kvs)/\k=!kvs.isEmpty
 | _=>False
theorem isEmpty_kv {κ:Type}{kvs:List (κ×V)}{vs:List (κ×Value)}(r:KV kvs vs):(!vs.isEmpty)=!kvs.isEmpty:=by
 cases r <;> rfl
theorem isEmpty_of {xs:List V}{its:List Value}(r:Vals xs its):(!its.toArray.isEmpty)=!xs.isEmpty:=by
 cases r <;> simp
theorem line63:(sizeLine:Nat) < 2 ^ 63:=by rw [sizeLine_eq]; decide
theorem tru_ok:TruR X (λ x H Q=>∃ k,TruV X.K x H k/\Q k H):=by
 intro pins s σ H x v Q I rx h
 obtain ⟨k,e,q⟩:=h
 have hl:=line63
 have hs:sizeLine=16777216:=sizeLine_eq
 cases x with
 | non =>
  cases rx
  have e':k=false:=e
  subst e'
  exact truthy_none ⟨H,I,q⟩
 | bl b =>
  cases rx
  have e':k=b:=e
  subst e'
  exact wpAny_truthy_bool ⟨H,I,q⟩
 | int i =>
  obtain ⟨t,rfl⟩:=rx
  have e':k=(i != 0):=e
  subst e'
  exact PySem.P.truthy_int ⟨H,I,q⟩
 | str y =>
  obtain ⟨t,rfl⟩:=rx
  obtain ⟨hy,e'⟩:y.length<=sizeLine/\k=((y.length:Int) != 0):=e
  subst e'
  exact PySem.P.truthy_str (by omega) ⟨H,I.tok _,q⟩
 | byt y =>
  obtain ⟨t,rfl⟩:=rx
  obtain ⟨hy,e'⟩:y.size<=sizeLine/\k=((y.size:Int) != 0):=e
  subst e'
  exact PySem.W.truthy_bytes (by omega) ⟨H,I.tok _,q⟩
 | ref p =>
  cases rx
  have e':(∃ xs,SqL X.K H p xs/\k=!xs.isEmpty)\/(∃ xs,SqT X.K H p xs/\k=!xs.isEmpty)\/∃ kvs,H p=some (.dK kvs)/\k=!kvs.isEmpty:=e
  rcases e' with ⟨xs,hx,e'⟩ | ⟨xs,hx,e'⟩ | ⟨kvs,hx,e'⟩
  ·subst e'
   obtain ⟨its,r,pl,hz⟩:=I.list hx
   have hlen:=r.length
   exact wpAny_truthy_list pl.isList (by simp only [List.size_toArray]; omega) ⟨H,I.tok _,by rw [isEmpty_of r]; exact q⟩
  ·subst e'
   obtain ⟨its,r,pl,hz⟩:=I.tuple hx
   have hlen:=r.length
   exact truthy_tuple pl (by simp only [List.size_toArray]; omega) ⟨H,I.tok _,by rw [isEmpty_of r]; exact q⟩
  ·subst e'
   obtain ⟨hz,hS,vs,r,m⟩:kvs.length<=sizeLine/\(p == sysModules)=false/\∃ vs,KV kvs vs/\s.heap.DictOf (mixKind X.prog X.w) p vs:=I.hok p _ hx
   have hlen:kvs.length=vs.length:=Paired.length r
   exact wpAny_truthy_dict hS m (by omega) ⟨H,I.tok _,by rw [isEmpty_kv r]; exact q⟩
 | _=>exact (show False from e).elim
theorem pt_truth (ha:PE X a ta)(he:∀ whole,isTrue a X.env whole=(do let v <- whole; standAt a.pos; holding [v] (truthy v))) :
  PT X a (λ σ H Q=>ta σ H λ x H'=>∃ k,TruV X.K x H' k/\Q k H'):=by
 intro pins s σ H Q I h
 exact isTrue_plain (thn (ha pins s σ H _ I h) λ v s1 ⟨x,H1,I1,r1,q1⟩=>tru_ok pins s1 σ H1 x v Q I1 r1 q1) (he _)
theorem op_add_str:OpR X (binaryOp .Add) (λ x y H Q=>∃ i j,x=.str i/\y=.str j/\i.length+j.length<=sizeLine/\Q (.str (i++j)) H):=by
 intro pins s σ H x y v u Q I rx ry h
 obtain ⟨i,j,rfl,rfl,hz,q⟩:=h
 obtain ⟨t,rfl⟩:=rx
 obtain ⟨t',rfl⟩:=ry
 exact add_str (λ t' tk=>⟨.str (i++j),H,I.tok _,⟨_,rfl⟩,q⟩) hz
theorem vals1 {x:V}{us:List Value}(r:Vals [x] us):∃ u,us=[u]/\RelV x u:=by
 cases r with
 | cons r1 r2=>cases r2; exact ⟨_,rfl,r1⟩
theorem vals2 {x y:V}{us:List Value}(r:Vals [x,y] us):∃ u w',us=[u,w']/\RelV x u/\RelV y w':=by
 cases r with
 | cons r1 r2 =>
  cases r2 with
  | cons r3 r4=>cases r4; exact ⟨_,_,rfl,r1,r3⟩
theorem call_abs:CallR X (.builtin "abs") (λ xs H Q=>∃ i,xs=[.int i]/\Q (.int (if i < 0 then -i else i)) H):=by
 intro pins s σ H xs us Q I r h
 obtain ⟨i,rfl,q⟩:=h
 obtain ⟨u,rfl,t,rfl⟩:=vals1 r
 exact call_abs_int λ u tk=>⟨.int (if i < 0 then -i else i),H,I.tok _,⟨_,rfl⟩,q⟩
noncomputable def LenV (K:PySem.W.Frag)(x:V)(H:Hp)(n:Nat):Prop :=
 match x with
 | .str y=>y.length<=sizeLine/\n=y.length
 | .byt y=>y.size<=sizeLine/\n=y.size
 | .ref p=>(∃ xs,SqL K H p xs/\n=xs.length)\/∃ xs,SqT K H p xs/\n=xs.length
 | _=>False
theorem call_len:CallR X (.builtin "len") (λ xs H Q=>∃ x n,xs=[x]/\LenV X.K x H n/\Q (.int n) H):=by
 intro pins s σ H xs us Q I r h
 obtain ⟨x,n,rfl,e,q⟩:=h
 obtain ⟨u,rfl,rx⟩:=vals1 r
 have hl:=line63
 have hs:sizeLine=16777216:=sizeLine_eq
 cases x with
 | str y =>
  obtain ⟨t,rfl⟩:=rx
  obtain ⟨hy,e'⟩:y.length<=sizeLine/\n=y.length:=e
  subst e'
  exact len_str (by omega) ⟨.int _,H,I.tok _,⟨_,rfl⟩,q⟩
 | byt y =>
  obtain ⟨t,rfl⟩:=rx
  obtain ⟨hy,e'⟩:y.size<=sizeLine/\n=y.size:=e
  subst e'
  exact PySem.W.len_bytes (by omega) ⟨.int _,H,I.tok _,⟨_,rfl⟩,q⟩
 | ref p =>
  cases rx
  have e':(∃ xs,SqL X.K H p xs/\n=xs.length)\/∃ xs,SqT X.K H p xs/\n=xs.length:=e
  rcases e' with ⟨xs,hx,e'⟩ | ⟨xs,hx,e'⟩
  ·subst e'
   obtain ⟨its,r',pl,hz⟩:=I.list hx
   have hlen:=r'.length
   exact Calls.call_len_list pl.isList (by simp only [List.size_toArray]; omega) ⟨.int xs.length,H,I.tok _,⟨_,by simp only [List.size_toArray]; rw [hlen]⟩,q⟩
  ·subst e'
   obtain ⟨its,r',pl,hz⟩:=I.tuple hx
   have hlen:=r'.length
   exact len_tuple pl (by simp only [List.size_toArray]; omega) ⟨.int xs.length,H,I.tok _,⟨_,by simp only [List.size_toArray]; rw [hlen]⟩,q⟩
 | _=>exact (show False from e).elim
end
end L2
namespace L2
open PySem PySem.Spec PyProof.Rows
structure ObjM (h:Heap)(x dx C:Addr)(mA:Str->Option Value):Prop where
 obj:h.get? x=some (PySem.W.instObj C dx)
 ns:h.Ns1 dx mA
 ne:dx≠x
theorem lookIn_ns {h:Heap}{dx:Addr}{mA:Str->Option Value}(n:h.Ns1 dx mA):∃ od,h.get? dx=some od/\∀ name,PySem.W.lookIn name od=some (mA name):=by
 obtain ⟨o,es,ep,ho,hd,hk,_,hm⟩:=n
 refine ⟨o,ho,λ name=>?_⟩
 have e:=hm name
 unfold nsFind findBy at e
 rw [<- Array.find?_toList] at e
 unfold PySem.W.lookIn
 rw [hd]
 dsimp only
 split
 ·rename_i y q
  rw [q] at e
  exact congrArg some e
 ·rename_i q
  rw [q] at e
  have a:es.toList.any (·.refKey)=false:=by
   rw [List.any_eq_false]
   intro y hy
   obtain ⟨z,t,hkey⟩:=hk y (Array.mem_toList_iff.mp hy)
   simp [DictEntry.refKey,hkey]
  have a':¬ es.toList.any (·.refKey)=true:=by rw [a]; exact Bool.false_ne_true
  rw [if_neg a']
  exact congrArg some e
theorem ObjM.look {h:Heap}{x dx C:Addr}{mA:Str->Option Value}(I:ObjM h x dx C mA):∃ od,PySem.W.InstAt h x (PySem.W.instObj C dx) C (some od)/\∀ name,PySem.W.lookIn name od=some (mA name) :=
 let ⟨od,ho,hl⟩:=lookIn_ns I.ns
 ⟨od,⟨I.obj,rfl,rfl,ho⟩,hl⟩
section
variable {prog:Program}{w:World}{A:Around}{E:Value->Shared->Prop}{s:Shared}{K:PySem.W.Frag}{x dx C f:Addr}{mA:Str->Option Value}{name:Str}{v:Value}
theorem get_map {expr:Bool}{Q:Value->Shared->Prop}(X:K.In s.heap)(I:ObjM s.heap x dx C mA)(hg:PySem.W.plainGet K C name=true)(hh:PySem.W.hasDictIn K C=true)
  (ha:PySem.W.findIn K (.ref C) name=some none)(hv:mA name=some v)(hv':PySem.W.handedIn v=true)(h:Q v { s with toks:=s.toks+1 }) :
  wpAny (model prog w) A (getAttr (.ref x) name expr) Q E s:=by
 obtain ⟨od,J,hl⟩:=I.look
 exact PySem.W.get_value X J (PySem.W.plainGet_of hg).1 (PySem.W.findObj_own hh ha rfl (by rw [hl,hv])) hv' h
theorem get_meth {pl:Sem Bool}{Q:Value×List Value->Shared->Prop}(X:K.In s.heap)(I:ObjM s.heap x dx C mA)(hg:PySem.W.plainGet K C name=true)
  (hf:PySem.W.findIn K (.ref C) name=some (some (.ref f)))(ht:PySem.W.isFn K (.ref f)=true)(hv:mA name=none)(h:Q (.ref f,[.ref x]) s) :
  wpAny (model prog w) A (getMethod (.ref x) name pl) Q E s:=by
 obtain ⟨od,J,hl⟩:=I.look
 exact PySem.W.method_fn X J (PySem.W.plainGet_of hg).1 (PySem.W.plainGet_of hg).2 hf (beq_iff_eq.mp ht) (by show (PySem.W.lookIn name od).map (·.isSome)=some false; rw [hl,hv]; rfl) h
theorem set_map {ns:List Str}{Q:Unit->Shared->Prop}(X:K.In s.heap)(I:ObjM s.heap x dx C mA)
  (hs:PySem.W.findIn K (.ref C) "__setattr__" = some (some (.builtin "object.__setattr__")))(hp:PySem.W.plainOver K C=true)(ht:PySem.W.takerIn K C name=some none)(hh:PySem.W.hasDictIn K C=true)
  (hw:PySem.Within mA ns)(hsz:ns.length<=sizeLine)
  (h:∀ h',ObjM h' x dx C (λ y=>if y=name then some v else mA y)->Heap.SameBut dx s.heap h'->Q () { s with heap:=h',toks:=s.toks+2 }) :
  wpAny (model prog w) A (setAttr (.ref x) name v) Q E s:=by
 obtain ⟨od,J,hl⟩:=I.look
 refine PySem.W.set_plain X J hs (PySem.W.osa_open (s:={ s with toks:=s.toks+1 }) (r:=none) X J hp ht λ b=>?_)
 obtain ⟨cd,hc,hd'⟩:=PySem.W.any_some hh
 have hx:s.heap.get? x=some ⟨.ref C,some dx,.plain,#[]⟩:=I.obj
 refine wpAny_bind (wpAny_pure (wpAny_bind (wpAny_bind (wpAny_loadPart hx (wpAny_bind (PySem.W.Looks.here (s:={ s with toks:=s.toks+1 }) (PySem.W.looks_clsIn X hc) ?_))))))
 rw [hd']
 refine wpAny_pure (a:=some dx) (wpAny_bind (wpAny_pure (wpAny_bind ?_)))
 refine wpAny_nsSet1 (s:={ s with toks:=s.toks+1 }) I.ns λ h' hn2 hs2=>?_
 obtain ⟨oD,esD,epD,hoD,hdD,hcD⟩:=hn2.count (PySem.Within.cons name v hw)
 refine wpAny_bind (wpAny_lookBehind hoD (by rw [hdD]; exact pastItsLine_dict (Nat.le_trans hcD (by rw [List.length_cons]; omega))) ?_)
 exact wpAny_pure (h _ ⟨(hs2.2 _ (Ne.symm I.ne)).trans I.obj,hn2,I.ne⟩ hs2)
theorem make_map {R:Result->Shared->Prop}{vs:List Value}{kw:List (Str×Value)}(X:K.In s.heap)(hm:PySem.W.makesIn K C=true)
  (hi:PySem.W.findIn K (.ref C) "__init__" = some (some (.ref f)))(hf:PySem.W.typeIn K (.ref f)=some (.type "function"))
  (h:codeAny (model prog w) (A.under (.builtin "type.__call__" ⟨.ref C :: vs,kw⟩)) (.call (.ref f) ⟨.ref (s.heap.objs.size+1) :: vs,kw⟩) (PySem.W.InitBack (s.heap.objs.size+1) R)
   {s with heap:=(s.heap.push PySem.W.emptyDict).push (PySem.W.instObj C s.heap.objs.size) }) :
  codeAny (model prog w) A (.call (.ref C) ⟨vs,kw⟩) R s:=by
 obtain ⟨hh,g,d,t,os⟩:=s
 exact PySem.W.make_core (PySem.W.makes_of X hm) (PySem.W.looks_findIn X hi) (λ self=>PySem.W.bind_fn X self hf) (.inl rfl) h
end
noncomputable def putF (f:Str)(v:V):List (Str×V)->List (Str×V)
 | []=>[(f,v)]
 | (g,x) :: r=>if g=f then (g,v) :: r else (g,x) :: putF f v r
theorem lookup_putF (f g:Str)(v:V):∀ fs:List (Str×V),(putF f v fs).lookup g=if g=f then some v else fs.lookup g
 | []=>by
  show List.lookup g [(f,v)]=_
  by_cases h:g=f
  ·have hb:(g == f)=true:=beq_iff_eq.mpr h
   simp only [List.lookup,hb,if_pos h]
  ·have hb:(g == f)=false:=beq_eq_false_iff_ne.mpr h
   simp only [List.lookup,hb,if_neg h]
 | (k,x) :: r=>by
  have ih:=lookup_putF f g v r
  rw [show putF f v ((k,x) :: r)=(if k=f then (k,v) :: r else (k,x) :: putF f v r) from rfl]
  by_cases hk:k=f
  ·rw [if_pos hk]
   by_cases h:g=k
   ·have hb:(g == k)=true:=beq_iff_eq.mpr h
    simp only [List.lookup,hb,if_pos (h.trans hk)]
   ·have hb:(g == k)=false:=beq_eq_false_iff_ne.mpr h
    simp only [List.lookup,hb,if_neg (λ e:g=f=>h (e.trans hk.symm))]
  ·rw [if_neg hk]
   by_cases h:g=k
   ·have hb:(g == k)=true:=beq_iff_eq.mpr h
    simp only [List.lookup,hb,if_neg (λ e:g=f=>hk (h.symm.trans e))]
   ·have hb:(g == k)=false:=beq_eq_false_iff_ne.mpr h
    simp only [List.lookup,hb]
    exact ih
theorem keys_putF (f:Str)(v:V):∀ fs:List (Str×V),f∈(putF f v fs).map (·.1)/\∀ g,g∈fs.map (·.1)->g∈(putF f v fs).map (·.1)
 | []=>⟨by simp [putF],λ g h=>by simp at h⟩
 | (k,x) :: r=>by
  obtain ⟨i1,i2⟩:=keys_putF f v r
  rw [show putF f v ((k,x) :: r)=(if k=f then (k,v) :: r else (k,x) :: putF f v r) from rfl]
  by_cases hk:k=f
  ·rw [if_pos hk]
   subst hk
   exact ⟨by simp,λ g h=>by simpa using h⟩
  ·rw [if_neg hk]
   refine ⟨?_,λ g h=>?_⟩
   ·rw [List.map_cons]
    exact List.mem_cons_of_mem _ i1
   ·rw [List.map_cons] at h ⊢
    rcases List.mem_cons.mp h with e | e
    ·exact List.mem_cons.mpr (.inl e)
    ·exact List.mem_cons_of_mem _ (i2 g e)
theorem length_putF (f:Str)(v:V):∀ fs:List (Str×V),(putF f v fs).length<=fs.length+1
 | []=>by simp [putF]
 | (k,x) :: r=>by
  have ih:=length_putF f v r
  rw [show putF f v ((k,x) :: r)=(if k=f then (k,v) :: r else (k,x) :: putF f v r) from rfl]
  by_cases hk:k=f
  ·rw [if_pos hk,List.length_cons,List.length_cons]; omega
  ·rw [if_neg hk,List.length_cons,List.length_cons]; omega
theorem RelO.some_of {v:V}{o:Option Value}(r:RelO (some v) o):∃ u,o=some u/\RelV v u:=by
 cases o with
 | none=>exact (show False from r).elim
 | some u=>exact ⟨u,rfl,r⟩
theorem RelO.none_of {o:Option Value}(r:RelO none o):o=none:=by
 cases o with
 | none=>rfl
 | some u=>exact (show False from r).elim
theorem handed_of {v:V}{u:Value}(r:RelV v u):PySem.W.handedIn u=true:=by
 cases v with
 | non=>cases (show u=Value.none from r); rfl
 | bl b=>cases (show u=Value.bool b from r); rfl
 | int i=>obtain ⟨t,e⟩:=(show ∃ t,u=Value.int i t from r); cases e; rfl
 | str x=>obtain ⟨t,e⟩:=(show ∃ t,u=Value.str x t from r); cases e; rfl
 | byt b=>obtain ⟨t,e⟩:=(show ∃ t,u=Value.bytes b t from r); cases e; rfl
 | flt b=>obtain ⟨t,e⟩:=(show ∃ t,u=Value.float b t from r); cases e; rfl
 | ref a=>cases (show u=Value.ref a from r); rfl
 | ty n=>cases (show u=Value.type n from r); rfl
section
variable {P:Program}{w:World}{H H':Hp}{h h':Heap}{a C dx:Addr}{fs fs':List (Str×V)}
theorem ins_get (hok:HOk P w H h)(e:H a=some (.ins C dx fs)):∃ mA,ObjM h a dx C mA/\(∀ f,RelO (fs.lookup f) (mA f))/\PySem.Within mA (fs.map (·.1))/\fs.length<=1000/\H dx=some (.own a):=by
 obtain ⟨d,z,ne,ob,mA,n,r,q⟩:=(show ObjOk P w H h a (.ins C dx fs) from hok a _ e)
 exact ⟨mA,⟨ob,n,ne⟩,r,q,z,d⟩
end
structure Cls (K:PySem.W.Frag)(C:Addr):Prop where
 pg:PySem.W.plainGet K C Str.empty=true
 hd:PySem.W.hasDictIn K C=true
 po:PySem.W.plainOver K C=true
 sa:PySem.W.findIn K (.ref C) "__setattr__" = some (some (.builtin "object.__setattr__"))
theorem Cls.get {K:PySem.W.Frag}{C:Addr}(c:Cls K C)(f:Str):PySem.W.plainGet K C f=true:=c.pg
noncomputable def NoAttr (K:PySem.W.Frag)(C:Addr)(f:Str):Prop:=PySem.W.findIn K (.ref C) f=some none
theorem NoAttr.taker {K:PySem.W.Frag}{C:Addr}{f:Str}(n:NoAttr K C f):PySem.W.takerIn K C f=some none:=by
 unfold PySem.W.takerIn
 rw [show PySem.W.findIn K (.ref C) f=some none from n]
 rfl
structure Meth (K:PySem.W.Frag)(C:Addr)(m:Str)(f:Addr):Prop where
 at_:PySem.W.findIn K (.ref C) m=some (some (.ref f))
 fn:PySem.W.isFn K (.ref f)=true
 kp:PySem.W.keepIn K (.ref f)=true
section
variable {X:Cx}{pins:List (Addr×Obj)}{σ:St}{H:Hp}{s:Shared}{a C dx:Addr}{fs:List (Str×V)}{f:Str}{v:V}{A:Around}{E:Value->Shared->Prop}
theorem getattr_ok {b:Bool}{Q:Value->Shared->Prop}(I:Inv X pins σ H s)(e:H a=some (.ins C dx fs))(c:Cls X.K C)(n:NoAttr X.K C f)(l:fs.lookup f=some v)
  (h:∀ u s',Inv X pins σ H s'->RelV v u->Q u s'):wpAny (model X.prog X.w) A (getAttr (.ref a) f b) Q E s:=by
 obtain ⟨mA,O,r,_,_,_⟩:=ins_get I.hok e
 obtain ⟨u,hu,ru⟩:=RelO.some_of (v:=v) (o:=mA f) (by rw [<- l]; exact r f)
 exact get_map I.kIn O (c.get f) c.hd n hu (handed_of ru) (h u _ (I.tok _) ru)
theorem getmeth_ok {m:Str}{g:Addr}{pl:Sem Bool}{Q:Value×List Value->Shared->Prop}(I:Inv X pins σ H s)(e:H a=some (.ins C dx fs))(c:Cls X.K C)(k:Meth X.K C m g)(l:fs.lookup m=none)
  (h:Q (.ref g,[.ref a]) s):wpAny (model X.prog X.w) A (getMethod (.ref a) m pl) Q E s:=by
 obtain ⟨mA,O,r,_,_,_⟩:=ins_get I.hok e
 have hn:mA m=none:=RelO.none_of (by rw [<- l]; exact r m)
 exact get_meth I.kIn O (c.get m) k.at_ k.fn hn h
theorem setattr_ok {y:V}{u:Value}{Q:Unit->Shared->Prop}(I:Inv X pins σ H s)(e:H a=some (.ins C dx fs))(c:Cls X.K C)(n:NoAttr X.K C f)(hl:fs.length < 1000)(ry:RelV y u)
  (h:∀ s',Inv X pins σ (upd H a (.ins C dx (putF f y fs))) s'->Q () s'):wpAny (model X.prog X.w) A (setAttr (.ref a) f u) Q E s:=by
 obtain ⟨mA,O,r,wi,_,ho⟩:=ins_get I.hok e
 have hz:(fs.map (·.1)).length<=sizeLine:=by rw [List.length_map,sizeLine_eq]; omega
 refine set_map I.kIn O c.sa c.po n.taker c.hd wi hz λ h' O' sb=>h _ ?_
 have hd:∃ o,h'.get? dx=some o:=let ⟨o,_,_,e',_⟩:=O'.ns; ⟨o,e'⟩
 refine I.write (x:=a) (e:=dx) (by rw [e]; exact True.intro) (.inr ho) (λ b q hb z=>(sb.2 b hb).trans z) hd ?_
 refine ⟨by rw [upd_ne O.ne]; exact ho,?_,O.ne,O'.obj,_,O'.ns,λ g=>?_,λ g hg=>?_⟩
 ·have:=length_putF f y fs; omega
 ·show RelO ((putF f y fs).lookup g) (if g=f then some u else mA g)
  rw [lookup_putF]
  by_cases q:g=f
  ·rw [if_pos q,if_pos q]; exact ry
  ·rw [if_neg q,if_neg q]; exact r g
 ·by_cases q:g=f
  ·rw [q]; exact (keys_putF f y fs).1
  ·refine (keys_putF f y fs).2 g (wi g λ z=>hg ?_)
   show (if g=f then some u else mA g)=none
   rw [if_neg q]; exact z
theorem Inv.made (I:Inv X pins σ H s):Inv X pins σ (upd (upd H s.heap.objs.size (.own (s.heap.objs.size+1))) (s.heap.objs.size+1) (.ins C s.heap.objs.size []))
  {s with heap:=(s.heap.push PySem.W.emptyDict).push (PySem.W.instObj C s.heap.objs.size) }:=by
 have e1:(s.heap.push PySem.W.emptyDict).get? s.heap.objs.size=some PySem.W.emptyDict:=Heap.get?_push_size s.heap rfl
 have e2:((s.heap.push PySem.W.emptyDict).push (PySem.W.instObj C s.heap.objs.size)).get? (s.heap.objs.size+1)=some (PySem.W.instObj C s.heap.objs.size):=by
  have:=Heap.get?_push_size (s.heap.push PySem.W.emptyDict) (o:=PySem.W.instObj C s.heap.objs.size) rfl
  rwa [Heap.size_push] at this
 have e3:(s.heap.push PySem.W.emptyDict).Ns s.heap.objs.size (λ _=>none):=⟨PySem.W.emptyDict,#[],_,e1,rfl,(λ e he=>absurd he (by simp)),λ _=>rfl⟩
 have I1:=I.laid (a:=s.heap.objs.size) (o:=.own (s.heap.objs.size+1)) (h':=s.heap.push PySem.W.emptyDict) (t':=s.toks) (λ b u q=>Heap.get?_push_of_some _ q) (Nat.le_refl _) ⟨_,e1⟩
 refine I1.laid (a:=s.heap.objs.size+1) (o:=.ins C s.heap.objs.size []) (t':=s.toks) (λ b u q=>Heap.get?_push_of_some _ q) (Nat.le_of_eq (Heap.size_push _ _)) ?_
 have ne:s.heap.objs.size≠s.heap.objs.size+1:=Nat.ne_of_lt (Nat.lt_succ_self _)
 refine ⟨by rw [upd_ne ne,upd_same],Nat.zero_le _,ne,e2,λ _=>none,(Heap.Ns1.of_empty e3).at λ o q=>Heap.get?_push_of_some _ q,λ _=>True.intro,λ y hy=>absurd rfl hy⟩
theorem attr_of {prog:Program}{w:World}{env:Env}{e:Expr}{f:Str}{pos:Pos}{s:Shared}{Q:Value->Shared->Prop}(hb:attributeBase e f env (eval e env)=eval e env)
  (h:wpAny (model prog w) A (eval e env) (λ o s₁=>wpAny (model prog w) A (getAttr o f true) Q E s₁) E s):wpAny (model prog w) A (eval (.Attribute e f pos) env) Q E s :=
 Attribute_any_ h (by rw [arm_eval_Attribute,hb])
end
noncomputable def tFld (K:PySem.W.Frag)(ta:TE)(f:Str):TE:=λ σ H Q=>ta σ H λ x H1=>∃ a C dx fs v,x=.ref a/\H1 a=some (.ins C dx fs)/\Cls K C/\NoAttr K C f/\fs.lookup f=some v/\Q v H1
noncomputable def sFld (K:PySem.W.Frag)(ta tv:TE)(f:Str):TS:=λ D σ H=>tv σ H λ y H1=>ta σ H1 λ x H2=>∃ a C dx fs,x=.ref a/\H2 a=some (.ins C dx fs)/\Cls K C/\NoAttr K C f/\fs.length < 1000 /\
 D.nx σ (upd H2 a (.ins C dx (putF f y fs)))
section
variable {X:Cx}{o e value:Expr}{f:Str}{pos pos' tpos:Pos}{ta tv:TE}
theorem pe_fld (he:PE X e ta)(hb:attributeBase e f X.env (eval e X.env)=eval e X.env):PE X (.Attribute e f pos) (tFld X.K ta f):=by
 intro pins s σ H Q I h
 refine attr_of hb (thn (he pins s σ H _ I h) λ u s1 hq17=>?_)
 obtain ⟨x,H1,I1,rx,a,C,dx,fs,v,ex,ea,c,n,l,q⟩:=hq17
 subst ex
 obtain rfl:u=Value.ref a:=rx
 exact getattr_ok I1 ea c n l λ u' s2 I2 ru=>⟨v,H1,I2,ru,q⟩
theorem ps_fld (ha:PE X o ta)(hv:PE X value tv)(hs:swapsWith value (some (.Attribute o f pos')) pos.line X.env=pure false):PS X (.Assign [.Attribute o f pos'] value pos) (sFld X.K ta tv f):=by
 intro pins s σ H D I h
 refine plainObj_wpAny_Assign_Attribute (thn (hv pins s σ H _ I h) λ u s1 ⟨y,H1,I1,ry,q⟩=>thn (ha pins s1 σ H1 _ I1 q) λ ov s2 ⟨x,H2,I2,rx,a,C,dx,fs,ex,ea,c,n,l,q2⟩=>?_) hs
 subst ex
 obtain rfl:ov=Value.ref a:=rx
 exact setattr_ok I2 ea c n l ry λ s3 I3=>⟨σ,_,I3,q2⟩
end
section
variable {X:Cx}{pins:List (Addr×Obj)}{σ:St}{H:Hp}{s:Shared}{A:Around}{E:Value->Shared->Prop}{Q:Value->Shared->Prop}{c:Value}{b:Bool}
end
end L2
namespace L2
open PySem PySem.Spec PyProof.Rows
structure Room (k:Nat)(A:Around):Prop where
 hd:A.handled=none
 gd:A.guards=some []
 dp:A.depth+3 * k+5 < recursionLimit
 un:A.units+16 * k+200 < cLine
theorem Room.mono {j k:Nat}{A:Around}(r:Room k A)(h:j<=k):Room j A:=⟨r.hd,r.gd,by have:=r.dp; omega,by have:=r.un; omega⟩
theorem Room.deeper {k:Nat}{A:Around}(r:Room (k+1) A)(env:Env):Room k (A.deeper env) :=
 ⟨r.hd,r.gd,by have:=r.dp; show A.depth+1+3 * k+5 < _; omega,by have:=r.un; show A.units+3+16 * k+200 < _; omega⟩
theorem Room.in1 {k:Nat}{A:Around}(r:Room (k+1) A):Room k A.in1 :=
 ⟨r.hd,r.gd,by have:=r.dp; show A.depth+3 * k+5 < _; omega,by have:=r.un; show A.units+1+16 * k+200 < _; omega⟩
theorem make_depth {A:Around}{C:Addr}{us:List Value}{kw:List (Str×Value)}:(A.under (.builtin "type.__call__" ⟨.ref C :: us,kw⟩)).depth=A.depth+1:=by
 first | rfl | simp [Around.under,Code.weight,Code.isCreation,Code.isGuard,Code.isCaller,Code.frames,Code.isFrame,guardIds]
theorem make_units {A:Around}{C:Addr}{us:List Value}{kw:List (Str×Value)}:(A.under (.builtin "type.__call__" ⟨.ref C :: us,kw⟩)).units=A.units+1:=by
 first | rfl | simp [Around.under,Code.cUnits,Code.frames,Code.isFrame]
theorem Room.make {k:Nat}{A:Around}(r:Room (k+1) A)(C:Addr)(us:List Value)(kw:List (Str×Value)):Room k (A.under (.builtin "type.__call__" ⟨.ref C :: us,kw⟩)) :=
 ⟨r.hd,(by first | exact r.gd | (simpa [Around.under,Code.isGuard,Code.frames,Code.isFrame,guardIds] using r.gd)),by have:=r.dp; rw [make_depth]; omega,by have:=r.un; rw [make_units]; omega⟩
theorem Room.depth {k:Nat}{A:Around}(r:Room k A):A.depth < recursionLimit:=by have:=r.dp; omega
theorem Room.units {k:Nat}{A:Around}(r:Room k A):A.units+64 < cLine:=by have:=r.un; omega
noncomputable def tNil:TA:=λ _ H Q=>Q [] H
noncomputable def tCons (ta:TE)(tr:TA):TA:=λ σ H Q=>ta σ H λ x H1=>tr σ H1 λ xs H2=>Q (x :: xs) H2
section
variable {X:Cx}{e:Expr}{es:List Expr}{te:TE}{t:TA}{pos:Pos}
theorem pa_nil:PA X [] tNil:=λ _ _ _ _ H Q I h=>Calls.spliced_nil ⟨[],H,I,.nil,h⟩
theorem pa_cons (ha:PE X e te)(hr:PA X es t)(hs:starEach (e :: es) X.env=(false,eval e X.env) :: starEach es X.env:=by rfl):PA X (e :: es) (tCons te t):=by
 intro pos pins s σ H Q I h
 rw [hs]
 show wpAny _ _ (spliced ((false,eval e X.env) :: backTo pos (starEach es X.env))) _ _ s
 refine Calls.spliced_cons (thn (ha pins s σ H _ I h) λ u s1 hq18=>?_)
 obtain ⟨x,H1,I1,r1,q1⟩:=hq18
 exact thn (hr pos pins s1 σ H1 _ I1 q1) λ us s2 ⟨xs,H2,I2,r2,q2⟩=>⟨x :: xs,H2,I2,.cons r1 r2,q2⟩
noncomputable def tTup (t:TA):TE:=λ σ H Q=>t σ H λ xs H1=>xs.length<=sizeLine/\∀ p,H1 p=none->Q (.ref p) (upd H1 p (.tup xs))
noncomputable def tLst (t:TA):TE:=λ σ H Q=>t σ H λ xs H1=>xs.length<=sizeLine/\∀ p,H1 p=none->Q (.ref p) (upd H1 p (.lst xs))
theorem pe_tup {x1}(h:PA X es t):PE X (.Tuple es x1 pos) (tTup t):=by
 intro pins s σ H Q I hq
 refine wpAny_Tuple_spliced (thn (h pos pins s σ H _ I hq) λ us s1 ⟨xs,H1,I1,r,z,q⟩=>⟨by rw [<- r.length]; exact z,?_⟩)
 have hf:H1 s1.heap.objs.size=none:=I1.hok.fresh (Nat.le_refl _)
 refine ⟨.ref s1.heap.objs.size,upd H1 s1.heap.objs.size (.tup xs),I1.laid (t':=s1.toks) (λ b u e=>Heap.get?_push_of_some _ e) (Nat.le_refl _) ?_,rfl,q _ hf⟩
 exact ⟨z,us,r,TupN.new _ _⟩
theorem pe_lst (h:PA X es t):PE X (.List es pos) (tLst t):=by
 intro pins s σ H Q I hq
 refine wpAny_List_spliced (thn (h pos pins s σ H _ I hq) λ us s1 ⟨xs,H1,I1,r,z,q⟩=>⟨by rw [<- r.length]; exact z,?_⟩)
 have hf:H1 s1.heap.objs.size=none:=I1.hok.fresh (Nat.le_refl _)
 refine ⟨.ref s1.heap.objs.size,upd H1 s1.heap.objs.size (.lst xs),I1.laid (t':=s1.toks) (λ b u e=>Heap.get?_push_of_some _ e) (Nat.le_refl _) ?_,rfl,q _ hf⟩
 exact ⟨z,us,0,r,Heap.get?_push_size _ rfl⟩
end
noncomputable abbrev Sp:=List V->Hp->VK->XK->Prop
noncomputable abbrev CXT:=List Env->Hp->Shared->XK->Value->Shared->Prop
structure Env0 (P:Program)(w:World)(K:PySem.W.Frag)(mg:Str->Option Value)(base:Heap)(A:Around)(outer:List Env)(s:Shared)(H:Hp):Prop where
 frames:A.frames=some outer
 mod:Mod K mg base
 bs:∀ b o,base.get? b=some o->s.heap.get? b=some o/\H b=none
 bsz:base.objs.size<=s.heap.objs.size
 funs:s.heap.FunFrames base outer
 frf:∀ b∈frs outer,H b=none
 hok:HOk P w H s.heap
 bare:AllBare s.gens
noncomputable def CE (outer:List Env)(P:Program)(w:World)(H:Hp)(s:Shared)(Q:VK)(u:Value)(s':Shared):Prop :=
 ∃ v H',s'.os=s.os/\AllBare s'.gens/\Un (frs outer) [] H H' s.heap s'.heap/\HOk P w H' s'.heap/\RelV v u/\Q v H'
noncomputable def CR (CX:CXT)(outer:List Env)(P:Program)(w:World)(H:Hp)(s:Shared)(Q:VK)(E:XK)(r:Result)(s':Shared):Prop :=
 match r with
 | .ok (.ret u)=>CE outer P w H s Q u s'
 | .ok _=>False
 | .error e=>CX outer H s E e s'
structure FnOk (P:Program)(w:World)(K:PySem.W.Frag)(mg:Str->Option Value)(base:Heap)(CX:CXT)(k:Nat)(f:Addr)(fd:FuncData)(ps:List Str)(sp:Sp):Prop where
 len:∀ vs H Q E,sp vs H Q E->vs.length=ps.length
 run:∀ (A:Around) (outer:List Env) (s:Shared) (H:Hp) (args:Args) (us:List Value) (vs:List V) (Q:VK) (E:XK),Room k A->Env0 P w K mg base A outer s H->BindsTo s fd args (ps.zip us)->Vals vs us->sp vs H Q E ->
  codeAny (model P w) A (.call (.ref f) args) (CR CX outer P w H s Q E) s
theorem FnOk.mono {P:Program}{w:World}{K:PySem.W.Frag}{mg:Str->Option Value}{base:Heap}{CX:CXT}{j k:Nat}{f:Addr}{fd:FuncData}{ps:List Str}{sp:Sp}(F:FnOk P w K mg base CX j f fd ps sp)(h:j<=k) :
  FnOk P w K mg base CX k f fd ps sp:=⟨F.len,λ A outer s H args us vs Q E hr=>F.run A outer s H args us vs Q E (hr.mono h)⟩
theorem Env0.make {P:Program}{w:World}{K:PySem.W.Frag}{mg:Str->Option Value}{base:Heap}{A:Around}{outer:List Env}{s:Shared}{H:Hp}(e:Env0 P w K mg base A outer s H)(C:Addr)(us:List Value)(kw:List (Str×Value)) :
  Env0 P w K mg base (A.under (.builtin "type.__call__" ⟨.ref C :: us,kw⟩)) outer s H:=⟨by first | exact e.frames | (simpa [Around.under,Code.envs,Code.isFrame,pushEnvs] using e.frames),e.mod,e.bs,e.bsz,e.funs,e.frf,e.hok,e.bare⟩
theorem Env0.in1 {P:Program}{w:World}{K:PySem.W.Frag}{mg:Str->Option Value}{base:Heap}{A:Around}{outer:List Env}{s:Shared}{H:Hp}(e:Env0 P w K mg base A outer s H) :
  Env0 P w K mg base A.in1 outer s H:=⟨e.frames,e.mod,e.bs,e.bsz,e.funs,e.frf,e.hok,e.bare⟩
section
variable {X:Cx}{pins:List (Addr×Obj)}{σ:St}{H:Hp}{s s':Shared}
theorem Inv.env0 (I:Inv X pins σ H s):Env0 X.prog X.w X.K X.mg X.base X.A X.stack s H :=
 ⟨I.ok.frames,I.ok.mod,I.bs,Nat.le_trans I.ok.bsz I.sz,I.stack,I.stkFree,I.hok,I.bare⟩
theorem Inv.after {Q:VK}{u:Value}(I:Inv X pins σ H s)(h:CE X.stack X.prog X.w H s Q u s'):EP X pins σ Q u s':=by
 obtain ⟨v,H',os,bare,un,hok,r,q⟩:=h
 obtain ⟨hh,g,d,t,os'⟩:=s'
 obtain rfl:os'=s.os:=os
 exact ⟨v,H',I.call (h':=hh) (g':=g) (d':=d) (t':=t) (ch:=[]) un hok bare (λ b z=>absurd z (by simp)),r,q⟩
end
noncomputable def tCall (sp:Sp)(dvs:List V)(E:XK)(t:TA):TE:=λ σ H Q=>t σ H λ vs H1=>sp (vs++dvs) H1 Q E
noncomputable def tMeth (C:Addr)(m:Str)(sp:Sp)(dvs:List V)(E:XK)(ta:TE)(t:TA):TE:=λ σ H Q=>ta σ H λ x H1=>∃ a dx fs,x=.ref a/\H1 a=some (.ins C dx fs)/\fs.lookup m=none /\
 t σ H1 λ vs H2=>sp (x :: (vs++dvs)) H2 Q E
noncomputable def Binds (K:PySem.W.Frag)(fd:FuncData)(ps:List Str)(ds:List Value):Prop :=
 ∀ (s:Shared) (us:List Value),K.In s.heap->(us++ds).length=ps.length->BindsTo s fd ⟨us,[]⟩ (ps.zip (us++ds))
theorem Binds.all {K:PySem.W.Frag}{fd:FuncData}{ps:List Str}(h:∀ us:List Value,us.length=ps.length->bindArgs fd ⟨us,[]⟩=pure (ps.zip us)):Binds K fd ps []:=λ s us _ hl=>by
 rw [List.append_nil] at hl ⊢
 exact .of_eq (h us hl)
noncomputable def Passes (CX:CXT)(X:Cx)(E:XK):Prop:=∀ (pins:List (Addr×Obj)) (σ:St) (H:Hp) (s:Shared) (e:Value) (s':Shared),Inv X pins σ H s->CX X.stack H s E e s'->X.xe e s'
section
variable {X:Cx}{CX:CXT}{k:Nat}{f C:Addr}{fd:FuncData}{ps:List Str}{sp:Sp}{dvs:List V}{ds:List Value}{E:XK}{x m:Str}{p pos apos:Pos}{e o:Expr}{es:List Expr}{ta:TE}{t:TA}
theorem run_fn {pins:List (Addr×Obj)}{σ:St}{H:Hp}{s:Shared}{Q:VK}{us:List Value}{vs:List V}(F:FnOk X.prog X.w X.K X.mg X.base CX k f fd ps sp)(hr:Room k X.A)(hb:Binds X.K fd ps ds)(hd:Vals dvs ds)(hx:Passes CX X E)
  (I:Inv X pins σ H s)(r:Vals vs us)(h:sp (vs++dvs) H Q E):wpAny (model X.prog X.w) X.A (call (.ref f) us) (EP X pins σ Q) X.xe s:=by
 have r2:Vals (vs++dvs) (us++ds):=r.append hd
 have hl:(us++ds).length=ps.length:=by rw [<- r2.length]; exact F.len _ _ _ _ h
 refine wpAny_call (codeAny_mono (F.run X.A X.stack s H ⟨us,[]⟩ (us++ds) (vs++dvs) Q E hr I.env0 (hb s us I.kIn hl) r2 h) λ r s' hq=>?_)
 cases r with
 | error e=>exact hx pins σ H s e s' I hq
 | ok fl =>
  cases fl with
  | ret u=>exact I.after hq
  | next=>exact False.elim hq
  | brk=>exact False.elim hq
  | cont=>exact False.elim hq
theorem pe_call (F:FnOk X.prog X.w X.K X.mg X.base CX k f fd ps sp)(hr:Room k X.A)(hg:Gl X x)(hm:X.mg x=some (.ref f))(hk:PySem.W.keepIn X.K (.ref f)=true)(hb:Binds X.K fd ps ds)(hd:Vals dvs ds)(hx:Passes CX X E)
  (ha:PA X (e :: es) t)(hdb:(x == ("__debug__" : Str))=false:=by decide)(he:starEach (e :: es) X.env=(false,eval e X.env) :: starEach es X.env:=by rfl)(hpl:(backTo pos (starEach es X.env)).any (·.1)=false:=by rfl) :
  PE X (.Call (.Name x p) (e :: es) [] pos) (tCall sp dvs E t):=by
 intro pins s σ H Q I h
 refine wpAny_Call_Name_kw (ld_glob I hg hm ?_ hdb)
 refine PySem.W.callWith_K (h₀:=X.base) I.ok.mod.kin hk (thn (ha pos pins s σ H _ I h) λ us s1 ⟨vs,H1,I1,r,q⟩=>⟨I1.kIn,?_⟩) he hpl
 exact run_fn F hr hb hd hx I1 r q
theorem pe_meth0 {pl:Sem Bool}(he:PE X o ta)(c:Cls X.K C)(hm:Meth X.K C m f)(F:FnOk X.prog X.w X.K X.mg X.base CX k f fd ps sp)(hr:Room k X.A)(hb:Binds X.K fd ps ds)(hd:Vals dvs ds)(hx:Passes CX X E)
  (ht:eval (.Call (.Attribute o m apos) [] [] pos) X.env=(do
   let ov <- eval o X.env
   standAt apos.atName
   let (f,first) <- holding [ov] (getMethod ov m pl)
   callWith pos f first (backTo pos (starEach [] X.env)) (backToKw pos (keywordEach [] X.env))):=by rfl) :
  PE X (.Call (.Attribute o m apos) [] [] pos) (tMeth C m sp dvs E ta tNil):=by
 intro pins s σ H Q I h
 refine PySem.W.methodCall_KW (pl:=pl) (thn (he pins s σ H _ I h) λ u s1 ⟨x,H1,I1,rx,a,dx,fs,ex,ea,l,q⟩=>?_) ht
 subst ex
 obtain rfl:u=Value.ref a:=rx
 refine getmeth_ok I1 ea c hm l ?_
 exact PySem.W.callWith_K0 (first:=[.ref a]) I1.kIn hm.kp (run_fn (us:=[.ref a]) (vs:=[.ref a]) F hr hb hd hx I1 (.cons rfl .nil) q)
structure Mk (K:PySem.W.Frag)(C f:Addr):Prop where
 makes:PySem.W.makesIn K C=true
 init:PySem.W.findIn K (.ref C) "__init__" = some (some (.ref f))
 fn:PySem.W.isFn K (.ref f)=true
 kp:PySem.W.keepIn K (.ref C)=true
end
section
variable {X:Cx}{CX:CXT}{k:Nat}{f C:Addr}{fd:FuncData}{ps ks:List Str}{sp:Sp}{E:XK}{x m:Str}{p pos apos kpos:Pos}{e o:Expr}{es:List Expr}{kws:List Keyword}{te ta:TE}{t tk:TA}{nm:Option Str}
variable {g:List Value->List Value->List Value}{gV:List V->List V->List V}
end
structure FnScope (N P:List Str)(sc:Scope):Prop where
 kind:sc.kind=.function
 co:sc.isCoroutine=false
 gen:sc.isGenerator=false
 nd:N.Nodup
 pre:N.take P.length=P
 par:∀ x∈P,sc.names.lookup x=some .local\/sc.names.lookup x=some .cell
 nofree:∀ y∈sc.names,y.2 ≠ .free
theorem bindL_out {kindOf:Str->Option NameKind}{x:Str}:∀ {binds:List (Str×Value)} {m:Str->Option Value},(∀ v,(x,v) ∉ binds)->bindL kindOf binds m x=m x
 | [],_,_=>rfl
 | (n,v) :: r,m,h=>by
  unfold bindL
  rw [bindL_out λ w hw=>h w (List.mem_cons_of_mem _ hw)]
  split
  ·have:x≠n:=by rintro rfl; exact h v List.mem_cons_self
   simp [this]
  ·rfl
theorem bindC_out {kindOf:Str->Option NameKind}{x:Str}:∀ {binds:List (Str×Value)} {m:Str->Option Value},(∀ v,(x,v) ∉ binds)->bindC kindOf binds m x=m x
 | [],_,_=>rfl
 | (n,v) :: r,m,h=>by
  unfold bindC
  rw [bindC_out λ w hw=>h w (List.mem_cons_of_mem _ hw)]
  split
  ·rfl
  ·have:x≠n:=by rintro rfl; exact h v List.mem_cons_self
   simp [this]
theorem bindL_get {kindOf:Str->Option NameKind}{x:Str}{v:Value}:∀ {P:List Str} {vs:List Value} {i:Nat} {m:Str->Option Value},P.Nodup->P[i]? = some x->vs[i]? = some v->kindOf x=some .local ->
  bindL kindOf (P.zip vs) m x=some v
 | [],_,_,_,_,h,_,_=>by simp at h
 | _ :: _,[],_,_,_,_,h,_=>by simp at h
 | p :: P,w :: vs,0,m,nd,h1,h2,hk=>by
  simp at h1 h2; subst h1; subst h2
  show bindL kindOf ((p,w) :: P.zip vs) m p=_
  unfold bindL
  rw [bindL_out λ v hv=>(List.nodup_cons.mp nd).1 (List.of_mem_zip hv).1,if_pos hk]
  simp
 | p :: P,w :: vs,i+1,m,nd,h1,h2,hk=>by
  show bindL kindOf ((p,w) :: P.zip vs) m x=_
  unfold bindL
  exact bindL_get (i:=i) (List.nodup_cons.mp nd).2 (by simpa using h1) (by simpa using h2) hk
theorem bindC_get {kindOf:Str->Option NameKind}{x:Str}{v:Value}:∀ {P:List Str} {vs:List Value} {i:Nat} {m:Str->Option Value},P.Nodup->P[i]? = some x->vs[i]? = some v->kindOf x≠some .local ->
  bindC kindOf (P.zip vs) m x=some v
 | [],_,_,_,_,h,_,_=>by simp at h
 | _ :: _,[],_,_,_,_,h,_=>by simp at h
 | p :: P,w :: vs,0,m,nd,h1,h2,hk=>by
  simp at h1 h2; subst h1; subst h2
  show bindC kindOf ((p,w) :: P.zip vs) m p=_
  unfold bindC
  rw [bindC_out λ v hv=>(List.nodup_cons.mp nd).1 (List.of_mem_zip hv).1,if_neg hk]
  simp
 | p :: P,w :: vs,i+1,m,nd,h1,h2,hk=>by
  show bindC kindOf ((p,w) :: P.zip vs) m x=_
  unfold bindC
  exact bindC_get (i:=i) (List.nodup_cons.mp nd).2 (by simpa using h1) (by simpa using h2) hk
noncomputable def start (N:List Str)(vs:List V):St:=vs.map some++List.replicate (N.length - vs.length) none
noncomputable def cxOf (CX:CXT)(P:Program)(w:World)(K:PySem.W.Frag)(mg:Str->Option Value)(base:Heap)(N:List Str)(qual:Str)(scope:Scope)(f:Addr)(cd:Value)(A:Around)(outer:List Env)(s:Shared)(H:Hp)(E:XK):Cx where
 prog:=P
 w:=w
 K:=K
 mg:=mg
 base:=base
 A:=A.deeper (envOfC qual scope s.heap.objs.size f cd)
 N:=N
 s₀:=s
 H₀:=H
 env:=envOfC qual scope s.heap.objs.size f cd
 outer:=outer
 stack:=envOfC qual scope s.heap.objs.size f cd :: outer
 ex:=[]
 calm:=true
 fn:=λ _=>true
 pn:=[]
 xe:=λ e s'=>wpAny (model P w) (A.deeper (envOfC qual scope s.heap.objs.size f cd)) (leaving (envOfC qual scope s.heap.objs.size f cd) e) (λ _ s''=>CX outer H s E e s'') (λ e' s''=>CX outer H s E e' s'') s'
theorem cell_has {sc:Scope}{n:Nat}{x:Str}(h:sc.names.lookup x=some .cell):∃ c,(cellsFrom n sc.names []).lookup x=some c:=by
 have q:=PySem.W.cellsFrom_some sc.names n [] (.inl h)
 exact Option.isSome_iff_exists.mp q
theorem inv_start {CX:CXT}{P:Program}{w:World}{K:PySem.W.Frag}{mg:Str->Option Value}{base:Heap}{N ps:List Str}{qual:Str}{scope:Scope}{f:Addr}{cd:Value}{A:Around}{outer:List Env}{s s1:Shared}{H:Hp}{E:XK}{us:List Value}{vs:List V}
  (S:FnScope N ps scope)(hd:A.handled=none)(e0:Env0 P w K mg base A outer s H)(hl:vs.length=ps.length)(r:Vals vs us)
  (x:InCallC s s.heap.objs.size (bindL (envOfC qual scope s.heap.objs.size f cd).kindOf (ps.zip us) λ _=>none) (cellsFrom (s.heap.objs.size+1) scope.names []) (bindC (envOfC qual scope s.heap.objs.size f cd).kindOf (ps.zip us) λ _=>none) s1) :
  Inv (cxOf CX P w K mg base N qual scope f cd A outer s H E) [] (start N vs) H s1:=by
 have hpl:ps.length<=N.length:=by have:=congrArg List.length S.pre; rw [List.length_take] at this; omega
 obtain ⟨h1,tk,rfl,hk⟩:=x.done
 have noA:∀ b:Addr,b ∉ (cxOf CX P w K mg base N qual scope f cd A outer s H E).ex:=λ b z=>absurd (show b∈([]:List Addr) from z) (by simp)
 refine ⟨⟨e0.mod,S.kind,rfl,rfl,Nat.le_refl _,λ y z c h1 h2=>?_,λ y hy=>?_,λ y c _ h=>?_,λ _=>hd,Around.frames_deeper e0.frames,.inr ⟨rfl,rfl⟩,λ b z=>absurd z (noA b),e0.bs,e0.bsz,λ b _ _=>noA b,λ b z=>absurd z (noA b),e0.funs,e0.frf⟩,
  rfl,e0.bare,Un.kept hk,⟨_,x.toInCall.ns,λ i y v h1 h2 h3=>?_⟩,λ y c h=>⟨_,x.cell y c h⟩,e0.hok.fresh (Nat.le_refl _),λ y c h=>?_,λ p hp=>absurd (show p∈([]:List (Addr×Obj)) from hp) (by simp),e0.hok.kept hk,?_⟩
 ·exact name_of_addr x.apart (PySem.mem_of_lookup h1) (PySem.mem_of_lookup h2)
 ·have hy:scope.names.lookup y=some .cell\/scope.names.lookup y=some .free:=hy
  rcases hy with hy | hy
  ·exact cell_has hy
  ·exact absurd rfl (S.nofree _ (PySem.mem_of_lookup hy))
 ·exact Nat.le_of_lt (x.above y c (PySem.mem_of_lookup h))
 ·have hi:i < vs.length:=by
   unfold start at h2
   by_cases hi:i < vs.length
   ·exact hi
   ·rw [List.getElem?_append_right (by simpa using hi)] at h2
    rw [List.getElem?_replicate] at h2
    split at h2 <;> cases h2
  have ha:vs[i]? = some v:=by
   unfold start at h2
   rw [List.getElem?_append_left (by simpa using hi),List.getElem?_map] at h2
   cases e:vs[i]? with
   | none=>rw [e] at h2; cases h2
   | some a=>rw [e] at h2; cases h2; rfl
  obtain ⟨u,hu,rv⟩:=r.get ha
  have hp:ps[i]? = some y:=by
   rw [<- S.pre,List.getElem?_take_of_lt (by omega)]; exact h1
  have ndP:ps.Nodup:=by rw [<- S.pre]; exact S.nd.sublist (List.take_sublist _ _)
  refine ⟨u,rv,?_⟩
  rcases S.par y (List.mem_of_getElem? hp) with k | k
  ·exact .inl ⟨k,bindL_get ndP hp hu k⟩
  ·obtain ⟨c,e⟩:=cell_has (n:=s.heap.objs.size+1) k
   refine .inr ⟨.inl k,c,e,?_⟩
   have q:=x.cell y c e
   rw [bindC_get ndP hp hu (by show scope.names.lookup y≠_; rw [k]; decide)] at q
   exact q
 ·exact e0.hok.fresh (Nat.le_of_lt (x.above y c (PySem.mem_of_lookup h)))
 ·unfold start
  show _=N.length
  rw [List.length_append,List.length_map,List.length_replicate]
  omega
theorem fn_of {CX:CXT}{P:Program}{w:World}{K:PySem.W.Frag}{mg:Str->Option Value}{base:Heap}{k:Nat}{f:Addr}{name qual:Str}{params:Arguments}{body:List Stmt}{scope:Scope}{dV kV doc pm cdv ct oc:Value}{an od:Option Addr}
  {osl:Array (Option Value)}{N ps:List Str}{sp:Sp}(lk:K.lookup f=some ⟨oc,od,.func (PySem.W.fnOf name qual params body scope dV kV doc pm an cdv ct),osl⟩)(hcd:PySem.W.codeIn K cdv qual=true)(S:FnScope N ps scope)
  (len:∀ vs H Q E,sp vs H Q E->vs.length=ps.length)
  (hbody:∀ (A:Around) (outer:List Env) (s:Shared) (H:Hp) (vs:List V) (Q:VK) (E:XK),Room k (A.deeper (envOfC qual scope s.heap.objs.size f cdv))->sp vs H Q E ->
   ∃ t,PSs (cxOf CX P w K mg base N qual scope f cdv A outer s H E) body t/\t { nx:=λ _ H'=>Q .non H',rt:=Q } (start N vs) H) :
  FnOk P w K mg base CX (k+1) f (PySem.W.fnOf name qual params body scope dV kV doc pm an cdv ct) ps sp:=by
 refine ⟨len,λ A outer s H args us vs Q E hr e0 hb r hsp=>?_⟩
 have hl:=len _ _ _ _ hsp
 have KX:K.In s.heap:=e0.mod.kin.keeps λ b o e=>(e0.bs b o e).1
 have lim:s.heap.NoLimit:=e0.mod.nolimit.keeps λ b o e=>(e0.bs b o e).1
 have hkind:∀ y∈ps.zip us,scope.names.lookup y.1=some .local\/(scope.names.lookup y.1=some .cell/\((cellsFrom (s.heap.objs.size+1) scope.names []).lookup y.1).isSome=true):=λ ⟨n,v⟩ hy=>by
  rcases S.par n (List.of_mem_zip hy).1 with q | q
  ·exact .inl q
  ·exact .inr ⟨q,PySem.W.cellsFrom_some _ _ _ (.inl q)⟩
 refine codeAny_call_function hr.depth (KX _ _ lk) rfl S.co S.gen rfl (PySem.W.codeRec_of KX hcd) (hb _ _ _ _ ?_)
 refine wpAny_newFunctionEnv_cells S.kind hkind λ env he s1 x=>?_
 subst he
 refine ⟨lim.keeps x.toInCall.keep,codeAny_func ?_⟩
 obtain ⟨t,ht,hq⟩:=hbody A outer s H vs Q E (hr.deeper _) hsp
 have I:Inv (cxOf CX P w K mg base N qual scope f cdv A outer s H E) [] (start N vs) H s1:=inv_start S hr.hd e0 hl r x
 refine wpAny_mono (ht [] s1 (start N vs) H _ I hq) (λ fl s' hs=>?_) λ e s' hs=>hs
 have fin:∀ {σ':St} {H':Hp} {v:V} {u:Value},Inv (cxOf CX P w K mg base N qual scope f cdv A outer s H E) [] σ' H' s'->RelV v u->Q v H'->CE outer P w H s Q u s' :=
  λ {σ' H' v u} J rv q=>⟨v,H',J.os,J.bare,J.base,J.hok,rv,q⟩
 cases fl with
 | ret u =>
  obtain ⟨v,σ',H',J,rv,q⟩:=hs
  exact fin J rv q
 | next =>
  obtain ⟨σ',H',J,q⟩:=hs
  exact fin (v:=V.non) (u:=Value.none) J rfl q
 | brk =>
  obtain ⟨_,_,_,q⟩:=hs
  exact False.elim q
 | cont =>
  obtain ⟨_,_,_,q⟩:=hs
  exact False.elim q
end L2
namespace L2
open PySem PySem.Spec PyProof.Rows
section
variable {X:Cx}{x:Str}{p pos:Pos}{e:Expr}{es:List Expr}{t:TA}{id T:String}{r:List V->Hp->VK->Prop}
noncomputable def tCB (r:List V->Hp->VK->Prop)(t:TA):TE:=λ σ H Q=>t σ H λ vs H1=>r vs H1 Q
theorem pe_callB (hc:CallR X (.builtin id) r)(hg:Gl X x)(hm:X.mg x=none)(hv:bootBuiltins x=some (.builtin id))(ha:PA X (e :: es) t)(hn:x ≠ "__name__" := by decide)(hdb:(x == ("__debug__" : Str))=false:=by decide)
  (he:starEach (e :: es) X.env=(false,eval e X.env) :: starEach es X.env:=by rfl)(hpl:(backTo pos (starEach es X.env)).any (·.1)=false:=by rfl):PE X (.Call (.Name x p) (e :: es) [] pos) (tCB r t):=by
 intro pins s σ H Q I h
 refine wpAny_Call_Name_kw (ld_blt I hg hm hv ?_ hn hdb)
 exact PyProof.Rows.callWith_builtin1 (thn (ha pos pins s σ H _ I h) λ us s1 ⟨vs,H1,I1,r1,q1⟩=>hc pins s1 σ H1 vs us Q I1 r1 q1) he hpl
theorem pe_callTy (hc:CallR X (.type T) r)(hg:Gl X x)(hm:X.mg x=none)(hv:bootBuiltins x=some (.type T))(ha:PA X (e :: es) t)(hn:x ≠ "__name__" := by decide)(hdb:(x == ("__debug__" : Str))=false:=by decide)
  (he:starEach (e :: es) X.env=(false,eval e X.env) :: starEach es X.env:=by rfl)(hpl:(backTo pos (starEach es X.env)).any (·.1)=false:=by rfl):PE X (.Call (.Name x p) (e :: es) [] pos) (tCB r t):=by
 intro pins s σ H Q I h
 refine wpAny_Call_Name_kw (ld_blt I hg hm hv ?_ hn hdb)
 exact PyProof.Rows.callWith_type1 (thn (ha pos pins s σ H _ I h) λ us s1 ⟨vs,H1,I1,r1,q1⟩=>hc pins s1 σ H1 vs us Q I1 r1 q1) he hpl
end
end L2
namespace HT
open PySem PyProof.Rows
section
open PySem.SeqAt
open PySem.AutoSeq1 (wpAny_loadPart')
open PySem.MeetsSeq PySem.MeetsSeq2 PySem.MeetsSeq3
end
section
variable {prog:Program}{w:World}{A:Around}{E:Value->Shared->Prop}{s:Shared}
noncomputable def sIx (n d:Nat):Option Int->Nat
 | none=>d
 | some v=>if v < 0 then (v+(n:Int)).toNat else min v.toNat n
theorem sIx_none (n d:Nat):sIx n d none=d:=rfl
theorem sIx_nat (n d k:Nat):sIx n d (some (k:Int))=min k n:=by
 show (if (k:Int) < 0 then ((k:Int)+(n:Int)).toNat else min (k:Int).toNat n)=min k n
 rw [if_neg (by omega),Int.toNat_natCast]
theorem sIx_le (n d:Nat)(hd:d<=n)(o:Option Int):sIx n d o<=n:=by
 cases o with
 | none=>exact hd
 | some v =>
  show (if v < 0 then (v+(n:Int)).toNat else min v.toNat n)<=n
  by_cases hv:v < 0
  ·rw [if_pos hv]; omega
  ·rw [if_neg hv]; exact Nat.min_le_right _ _
theorem clip_eq (v:Int)(n d:Nat):(if v < 0 then max (v+(n:Int)) 0 else min v (n:Int))=((sIx n d (some v):Nat):Int):=by
 show (if v < 0 then max (v+(n:Int)) 0 else min v (n:Int))=(((if v < 0 then (v+(n:Int)).toNat else min v.toNat n):Nat):Int)
 by_cases hv:v < 0
 ·simp only [if_pos hv]; omega
 ·simp only [if_neg hv]; omega
theorem adjust_gen (lo hi:Option Int)(n:Nat):Builtin.Slice.sliceAdjust lo hi 1 (n:Int)=(((sIx n 0 lo:Nat):Int),((sIx n n hi:Nat):Int)):=by
 have h1:¬ ((1:Int) < 0):=by omega
 unfold Builtin.Slice.sliceAdjust
 simp only [h1,if_false]
 refine Prod.ext ?_ ?_
 ·cases lo with
  | none=>rfl
  | some v=>exact clip_eq v n 0
 ·cases hi with
  | none=>rfl
  | some v=>exact clip_eq v n n
theorem places_gen (i j:Nat):Builtin.Slice.slicePlaces (i:Int) (j:Int) 1=j - i:=by
 unfold Builtin.Slice.slicePlaces
 have h1:(1:Int) > 0:=by omega
 simp only [h1,if_true,Int.ediv_one]
 split <;> omega
theorem slicePart_ {v:Value}{o:Option Int}{Q:Option Int->Shared->Prop}(p:IsPart v o)(h:Q o s):wpAny (model prog w) A (Builtin.Slice.slicePartIndex v) Q E s:=by
 cases p with
 | none=>exact slicePart_none h
 | int i t=>exact slicePart_int h
theorem sliceApplied_gen {sl:Addr}{vl vu:Value}{lo hi:Option Int}{n:Nat}{Q:Int×Int×Nat->Shared->Prop}(hs:s.heap.IsSliceOf sl vl vu .none)(pl:IsPart vl lo)(pu:IsPart vu hi)
  (h:Q (((sIx n 0 lo:Nat):Int),1,sIx n n hi - sIx n 0 lo) s):wpAny (model prog w) A (Builtin.Slice.sliceApplied (.ref sl) (pure (n:Int))) Q E s:=by
 obtain ⟨os,hos,hcs,hds⟩:=id hs
 unfold Builtin.Slice.sliceApplied Builtin.Slice.sliceFields
 refine wpAny_bind (wpAny_bind (wpAny_field hos hds (x:=vl) rfl (wpAny_bind (wpAny_field hos hds (x:=vu) rfl (wpAny_bind (wpAny_field hos hds (x:=.none) rfl (wpAny_pure ?_)))))))
 refine wpAny_bind (slicePart_none ?_)
 show wpAny _ _ (if ((1:Int) == 0)=true then _ else _) _ _ s
 rw [if_neg (by decide)]
 refine wpAny_bind (slicePart_ pl (wpAny_bind (slicePart_ pu (wpAny_bind (wpAny_pure ?_)))))
 show wpAny _ _ (match Builtin.Slice.sliceAdjust lo hi 1 (n:Int) with | (lo,hi)=>pure (lo,(1:Int),Builtin.Slice.slicePlaces lo hi 1)) _ _ s
 rw [adjust_gen lo hi n]
 show wpAny _ _ (pure (((sIx n 0 lo:Nat):Int),(1:Int),Builtin.Slice.slicePlaces ((sIx n 0 lo:Nat):Int) ((sIx n n hi:Nat):Int) 1)) _ _ s
 rw [places_gen]
 exact wpAny_pure h
theorem pick_gen (xs:Array Value)(i k:Nat):((List.range k).filterMap λ (m:Nat)=>xs[((i:Int)+(m:Int) * 1).toNat]?).toArray=((xs.toList.drop i).take k).toArray:=by
 have e:(λ (m:Nat)=>xs[((i:Int)+(m:Int) * 1).toNat]?)=λ m=>xs[i+m]?:=by
  funext m
  have:((i:Int)+(m:Int) * 1).toNat=i+m:=by omega
  rw [this]
 rw [e]
 have:=pick_run xs i k
 rw [List.filterMap_map] at this
 have e2:((λ x=>xs[x]?) ∘ λ x=>i+x)=λ m=>xs[i+m]?:=rfl
 rw [e2] at this
 rw [this]
theorem getItem_tuple_cut {t sl:Addr}{items:Array Value}{vl vu:Value}{lo hi:Option Int}{Q:Value->Shared->Prop}(ht:IsTup s.heap t items)(hs:s.heap.IsSliceOf sl vl vu .none)(pl:IsPart vl lo)(pu:IsPart vu hi)
  (hw:¬ (sIx items.size 0 lo=0/\sIx items.size items.size hi=items.size))
  (h:Q (.ref s.heap.objs.size) { s with heap:=s.heap.push { cls:=.type "tuple",data:=.seq ((items.toList.drop (sIx items.size 0 lo)).take (sIx items.size items.size hi - sIx items.size 0 lo)).toArray } })
  (hsz:items.size<=sizeLine):wpAny (model prog w) A (getItem (.ref t) (.ref sl)) Q E s:=by
 have htake:sizeOk (.seq ((items.toList.drop (sIx items.size 0 lo)).take (sIx items.size items.size hi - sIx items.size 0 lo)).toArray):=by
  show ((items.toList.drop (sIx items.size 0 lo)).take (sIx items.size items.size hi - sIx items.size 0 lo)).toArray.size<=sizeLine
  rw [List.size_toArray,List.length_take,List.length_drop,Array.length_toList]
  omega
 have hj:sIx items.size items.size hi<=items.size:=sIx_le _ _ (Nat.le_refl _) hi
 obtain ⟨os,hos,hcs,hds⟩:=id hs
 have hTs:s.TypeIs (.ref sl) "slice" := ⟨os,hos,hcs⟩
 unfold getItem
 try with_reducible refine wpAny_holding ?_
 first | refine wpAny_bind (wpAny_pure ?_) | skip
 refine wpAny_bind (wpAny_sequenceKey ht.typeIs (by decide) ?_)
 refine wpAny_bind (wpAny_callSpecial?_slot (name:=Str.ofString "__getitem__") ht.typeIs PyProof.Rows.slot_tuple_getitem
  (wpAny_call_entry PyProof.Rows.slot_tuple_getitem ht.typeIs entry_tuple_getitem ?_ (args_tuple_getitem _ _)))
 show wpAny _ _ (Builtin.Tuple.tupleItemsOf (.ref t) >>= _) _ _ s
 refine wpAny_bind (tupleItemsOf_ ht ?_)
 refine wpAny_bind (wpAny_typeOf hTs ?_)
 rw [if_pos (by decide)]
 refine wpAny_bind (sliceApplied_gen hs pl pu ?_)
 have hno:¬ ((((sIx items.size 0 lo:Nat):Int) == 0 && (1:Int) == 1 && (sIx items.size items.size hi - sIx items.size 0 lo) == items.size)=true):=by
  intro q
  rw [Bool.and_eq_true,Bool.and_eq_true] at q
  have q1:((sIx items.size 0 lo:Nat):Int)=0:=eq_of_beq q.1.1
  have q2:sIx items.size items.size hi - sIx items.size 0 lo=items.size:=eq_of_beq q.2
  exact hw ⟨by omega,by omega⟩
 show wpAny _ _ (if (((sIx items.size 0 lo:Nat):Int) == 0 && (1:Int) == 1 && (sIx items.size items.size hi - sIx items.size 0 lo) == items.size)=true then _ else _) _ _ s
 rw [if_neg hno,pick_gen]
 first
  | exact wpAny_bind (m:=Builtin.Tuple.tupleExact _) (wpAny_newObj_type (wpAny_pure ⟨_,rfl,wpAny_pure h⟩) htake)
  | exact wpAny_bind (m:=Builtin.Tuple.tupleExact _) (wpAny_newObj_type (wpAny_bind (wpAny_pure (wpAny_pure ⟨_,rfl,wpAny_pure h⟩))) htake)
  | exact wpAny_bind (wpAny_bind (m:=Builtin.Tuple.tupleExact _) (wpAny_newObj_type (wpAny_pure (wpAny_pure ⟨_,rfl,wpAny_pure h⟩)) htake))
  | exact wpAny_bind (wpAny_bind (m:=Builtin.Tuple.tupleExact _) (wpAny_newObj_type (wpAny_pure ⟨_,rfl,wpAny_pure h⟩) htake))
end
end HT
namespace L2
open PySem PySem.Spec PyProof.Rows
noncomputable abbrev TO:=St->Hp->(Option Int->Hp->Prop)->Prop
noncomputable def PO (X:Cx)(e:Option Expr)(t:TO):Prop :=
 ∀ (pins:List (Addr×Obj)) (s:Shared) (σ:St) (H:Hp) (Q:Option Int->Hp->Prop),Inv X pins σ H s->t σ H Q ->
  wpAny (model X.prog X.w) X.A (evalPart e X.env) (λ u s'=>∃ o H',Inv X pins σ H' s'/\IsPart u o/\Q o H') X.xe s
noncomputable def tNoPart:TO:=λ _ H Q=>Q none H
noncomputable def tPart (t:TE):TO:=λ σ H Q=>t σ H λ x H1=>∃ i,x=.int i/\Q (some i) H1
section
variable {X:Cx}{e:Expr}{te:TE}{lo hi:Option Expr}{tl th:TO}{pos p2:Pos}
theorem po_none:PO X none tNoPart:=by
 intro pins s σ H Q I h
 rw [evalPart_none]
 exact wpAny_pure ⟨none,H,I,.none,h⟩
theorem po_some (h:PE X e te):PO X (some e) (tPart te):=by
 intro pins s σ H Q I hw
 rw [evalPart_some]
 refine thn (h pins s σ H _ I hw) λ u s1 hq19=>?_
 obtain ⟨x,H1,I1,r1,q1⟩:=hq19
 obtain ⟨i,rfl,q⟩:=q1
 obtain ⟨t,rfl⟩:=r1
 exact ⟨some i,H1,I1,.int i t,q⟩
noncomputable def SlR (X:Cx)(r:V->Option Int->Option Int->Hp->VK->Prop):Prop :=
 ∀ (pins:List (Addr×Obj)) (s:Shared) (σ:St) (H:Hp) (x:V) (v vl vu:Value) (lo hi:Option Int) (sl:Addr) (Q:VK),Inv X pins σ H s->RelV x v->s.heap.IsSliceOf sl vl vu .none->IsPart vl lo->IsPart vu hi->r x lo hi H Q ->
  ∃ T id,typeLookup (.type T) "__getitem__" = pure (some (.builtin id))/\s.TypeIs v T/\wpAny (model X.prog X.w) X.A (getItem v (.ref sl)) (EP X pins σ Q) X.xe s
theorem SlR.or {r r':V->Option Int->Option Int->Hp->VK->Prop}(h:SlR X r)(h':SlR X r'):SlR X (λ x lo hi H Q=>r x lo hi H Q\/r' x lo hi H Q):=by
 intro pins s σ H x v vl vu lo hi sl Q I rx hs pl pu q
 rcases q with q | q
 ·exact h pins s σ H x v vl vu lo hi sl Q I rx hs pl pu q
 ·exact h' pins s σ H x v vl vu lo hi sl Q I rx hs pl pu q
noncomputable def tSl (r:V->Option Int->Option Int->Hp->VK->Prop)(te:TE)(tl th:TO):TE:=λ σ H Q=>te σ H λ x H1=>tl σ H1 λ l H2=>th σ H2 λ u H3=>r x l u H3 Q
theorem pe_slice {r:V->Option Int->Option Int->Hp->VK->Prop}(hr:SlR X r)(he:PE X e te)(hl:PO X lo tl)(hu:PO X hi th):PE X (.Subscript e (.Slice lo hi none p2) pos) (tSl r te tl th):=by
 intro pins s σ H Q I h
 refine Subscript_ (thn (he pins s σ H _ I h) λ v s1 hq20=>?_)
 obtain ⟨x,H1,I1,r1,q1⟩:=hq20
 refine wpAny_Slice (thn (hl pins s1 σ H1 _ I1 q1) λ vl s2 ⟨l,H2,I2,pl,q2⟩=>thn (hu pins s2 σ H2 _ I2 q2) λ vu s3 hq21=>?_)
 obtain ⟨u,H3,I3,pu,q3⟩:=hq21
 rw [evalPart_none]
 refine wpAny_pure ?_
 have I4:Inv X pins σ H3 { s3 with heap:=s3.heap.push { cls:=.type "slice",data:=.fields #[vl,vu,.none] } }:=I3.kept (t':=s3.toks) λ b ob q=>Heap.get?_push_of_some _ q
 obtain ⟨T,id,hT,ht,hg⟩:=hr pins { s3 with heap:=s3.heap.push { cls:=.type "slice",data:=.fields #[vl,vu,.none] } } σ H3 x v vl vu l u s3.heap.objs.size Q I4 r1 (Heap.IsSliceOf.new ..) pl pu q3
 show wpAny (model X.prog X.w) X.A (subscriptTail e (.Slice lo hi none p2) v (.ref s3.heap.objs.size)) (EP X pins σ Q) X.xe { s3 with heap:=s3.heap.push { cls:=.type "slice",data:=.fields #[vl,vu,.none] } }
 exact tail_any (ops:=[.ref s3.heap.objs.size,v]) ht hT hg (by with_unfolding_all rfl)
noncomputable def cutV (xs:List V)(lo hi:Option Int):List V:=(xs.drop (HT.sIx xs.length 0 lo)).take (HT.sIx xs.length xs.length hi - HT.sIx xs.length 0 lo)
theorem cutV_length (xs:List V)(lo hi:Option Int):(cutV xs lo hi).length<=xs.length:=by
 unfold cutV
 rw [List.length_take,List.length_drop]
 omega
noncomputable def rSlT (K:PySem.W.Frag):V->Option Int->Option Int->Hp->VK->Prop:=λ x lo hi H Q=>∃ a xs,x=.ref a/\SqT K H a xs /\
 ¬ (HT.sIx xs.length 0 lo=0/\HT.sIx xs.length xs.length hi=xs.length)/\∀ p,H p=none->Q (.ref p) (upd H p (.tup (cutV xs lo hi)))
theorem sl_tup:SlR X (rSlT X.K):=by
 intro pins s σ H x v vl vu lo hi sl Q I rx hs pl pu h
 obtain ⟨a,xs,rfl,hx,hw,q⟩:=h
 cases rx
 obtain ⟨its,r,ht,hz⟩:=I.tuple hx
 have hlen:its.toArray.size=xs.length:=by rw [List.size_toArray]; exact r.length.symm
 refine ⟨"tuple",_,PyProof.Rows.slot_tuple_getitem.lookup,ht.typeIs,?_⟩
 refine HT.getItem_tuple_cut ht hs pl pu (by rw [hlen]; exact hw) ?_ (by rw [hlen]; exact hz)
 rw [hlen]
 refine ⟨.ref s.heap.objs.size,_,I.laid (t':=s.toks) (o:=.tup (cutV xs lo hi)) (λ b ob q=>Heap.get?_push_of_some _ q) (Nat.le_refl _) ?_,rfl,q _ (I.hok.fresh (Nat.le_refl _))⟩
 exact ⟨Nat.le_trans (cutV_length xs lo hi) hz,_,(r.drop (HT.sIx xs.length 0 lo)).take (HT.sIx xs.length xs.length hi - HT.sIx xs.length 0 lo),TupN.new _ _⟩
end
end L2
namespace L2
open PySem PySem.Spec PyProof.Rows
noncomputable def ixN (n:Nat)(i:Int):Option Nat:=if 0<=i then (if i < n then some i.toNat else none) else if -(n:Int)<=i then some (i+n).toNat else none
noncomputable def atI {α:Type}(xs:List α)(i:Int):Option α:=(ixN xs.length i).bind λ j=>xs[j]?
theorem ixN_seq {n:Nat}{i:Int}{j:Nat}(h:ixN n i=some j):seqIndex? i n=some j/\j < n/\-(n:Int)<=i/\i < n:=by
 unfold ixN at h
 by_cases h0:0<=i
 ·rw [if_pos h0] at h
  by_cases h1:i < n
  ·rw [if_pos h1] at h
   have e:i.toNat=j:=Option.some.inj h
   exact ⟨by rw [seqIndex_of h0 h1,e],by omega,by omega,h1⟩
  ·rw [if_neg h1] at h; cases h
 ·rw [if_neg h0] at h
  by_cases h1:-(n:Int)<=i
  ·rw [if_pos h1] at h
   have e:(i+n).toNat=j:=Option.some.inj h
   exact ⟨by rw [seqIndex_neg (by omega) h1,e],by omega,h1,by omega⟩
  ·rw [if_neg h1] at h; cases h
theorem atI_get {α:Type}{xs:List α}{i:Int}{v:α}(h:atI xs i=some v):∃ j,seqIndex? i xs.length=some j/\xs[j]? = some v/\j < xs.length/\-(xs.length:Int)<=i/\i < xs.length:=by
 unfold atI at h
 cases e:ixN xs.length i with
 | none=>rw [e] at h; cases h
 | some j =>
  rw [e] at h
  obtain ⟨h1,h2,h3,h4⟩:=ixN_seq e
  exact ⟨j,h1,h,h2,h3,h4⟩
theorem atI_nat {α:Type}{xs:List α}{j:Nat}{v:α}(h:xs[j]? = some v):atI xs (j:Int)=some v:=by
 have hj:j < xs.length:=(List.getElem?_eq_some_iff.mp h).1
 have e:ixN xs.length (j:Int)=some j:=by
  unfold ixN
  rw [if_pos (by omega),if_pos (by omega)]; simp
 unfold atI; rw [e]; exact h
noncomputable def PlainIx (b:Expr):Prop:=∀ o i,subscripted b false o i=operate [o,i] (getItem o i)
noncomputable def IxR (X:Cx)(r:R2):Prop :=
 ∀ (value slice:Expr) (pins:List (Addr×Obj)) (s:Shared) (σ:St) (H:Hp) (x y:V) (v u:Value) (Q:VK),Inv X pins σ H s->RelV x v->RelV y u->r x y H Q ->
  subscripted slice false v u=operate [v,u] (getItem v u)->wpAny (model X.prog X.w) X.A (subscriptTail value slice v u) (EP X pins σ Q) X.xe s
noncomputable def MtR (X:Cx)(id:String)(r:V->List V->Hp->VK->Prop):Prop :=
 ∀ (pins:List (Addr×Obj)) (s:Shared) (σ:St) (H:Hp) (x:V) (xs:List V) (v:Value) (us:List Value) (Q:VK),Inv X pins σ H s->RelV x v->Vals xs us->r x xs H Q ->
  wpAny (model X.prog X.w) X.A (call (.builtin id) (v :: us)) (EP X pins σ Q) X.xe s
section
variable {X:Cx}{a b:Expr}{ta tb:TE}{pos:Pos}
theorem IxR.or {r r':R2}(h:IxR X r)(h':IxR X r'):IxR X (λ x y H Q=>r x y H Q\/r' x y H Q):=by
 intro value slice pins s σ H x y v u Q I rx ry q hs
 rcases q with q | q
 ·exact h value slice pins s σ H x y v u Q I rx ry q hs
 ·exact h' value slice pins s σ H x y v u Q I rx ry q hs
theorem MtR.or {id:String}{r r':V->List V->Hp->VK->Prop}(h:MtR X id r)(h':MtR X id r'):MtR X id (λ x xs H Q=>r x xs H Q\/r' x xs H Q):=by
 intro pins s σ H x xs v us Q I rx rs q
 rcases q with q | q
 ·exact h pins s σ H x xs v us Q I rx rs q
 ·exact h' pins s σ H x xs v us Q I rx rs q
theorem pe_ix {r:R2}(hr:IxR X r)(ha:PE X a ta)(hb:PE X b tb)(hs:PlainIx b):PE X (.Subscript a b pos) (tOp r ta tb):=by
 intro pins s σ H Q I h
 exact Subscript_ (binT ha hb I h λ v u s2 x y H2 I2 rx ry q=>hr a b pins s2 σ H2 x y v u Q I2 rx ry q (hs _ _))
noncomputable def rIxL (K:PySem.W.Frag):R2:=λ x y H Q=>∃ p xs i v,x=.ref p/\y=.int i/\SqL K H p xs/\atI xs i=some v/\Q v H
noncomputable def rIxT (K:PySem.W.Frag):R2:=λ x y H Q=>∃ p xs i v,x=.ref p/\y=.int i/\SqT K H p xs/\atI xs i=some v/\Q v H
noncomputable def rIxS:R2:=λ x y H Q=>∃ z i c,x=.str z/\y=.int i/\z.length<=sizeLine/\atI z.cps.toList i=some c/\Q (.str ⟨#[c]⟩) H
theorem ix_list:IxR X (rIxL X.K):=by
 intro value slice pins s σ H x y v u Q I rx ry h hs
 obtain ⟨p,xs,i,z,rfl,rfl,hq,he,q⟩:=h
 cases rx
 obtain ⟨t,rfl⟩:=ry
 obtain ⟨its,r,pl,hz⟩:=I.list hq
 obtain ⟨j,h1,h2,h3,h4,h5⟩:=atI_get he
 obtain ⟨w,ew,rw'⟩:=r.get h2
 have hl:=r.length
 have hn:=line63
 have fin:EP X pins σ Q w s:=⟨z,H,I,rw',q⟩
 by_cases h0:0<=i
 ·have hj:i.toNat=j:=by
   rw [seqIndex_of h0 h5] at h1
   exact Option.some.inj h1
  exact item_listR pl.isList h0 (by omega) (by rw [hj]; simpa using ew) fin hs
 ·have hj:(i+(its.toArray.size:Int)).toNat=j:=by
   rw [seqIndex_neg (by omega) h4] at h1
   rw [List.size_toArray,<- hl]
   exact Option.some.inj h1
  exact subscriptTail_builtinR (x:=w) pl.isList.typeIs slot_list_getitem.lookup
   (wpAny_getItem_list_neg (Q:=λ r s'=>r=w/\EP X pins σ Q r s') pl.isList (by omega) (by rw [List.size_toArray] <;> omega) (by omega) (by rw [hj]; simpa using ew) ⟨rfl,fin⟩) hs
theorem ix_tup:IxR X (rIxT X.K):=by
 intro value slice pins s σ H x y v u Q I rx ry h hs
 obtain ⟨p,xs,i,z,rfl,rfl,hq,he,q⟩:=h
 cases rx
 obtain ⟨t,rfl⟩:=ry
 obtain ⟨its,r,pl,hz⟩:=I.tuple hq
 obtain ⟨j,h1,h2,h3,h4,h5⟩:=atI_get he
 obtain ⟨w,ew,rw'⟩:=r.get h2
 have hl:=r.length
 have hn:=line63
 have fin:EP X pins σ Q w s:=⟨z,H,I,rw',q⟩
 exact subscriptTail_builtinR (x:=w) pl.typeIs slot_tuple_getitem.lookup
  (getItem_tuple (j:=j) (Q:=λ r s'=>r=w/\EP X pins σ Q r s') pl (by omega) (by omega) (by rw [List.size_toArray,<- hl]; exact h1) (by simpa using ew) ⟨rfl,fin⟩) hs
theorem ix_str:IxR X rIxS:=by
 intro value slice pins s σ H x y v u Q I rx ry h hs
 obtain ⟨z,i,c,rfl,rfl,hz,he,q⟩:=h
 obtain ⟨t,rfl⟩:=rx
 obtain ⟨t',rfl⟩:=ry
 obtain ⟨j,h1,h2,h3,h4,h5⟩:=atI_get he
 have hl:z.cps.toList.length=z.length:=by simp [Str.length]
 rw [hl] at h1 h4 h5
 have hn:=line63
 exact tail_any (typeIs_str s z t) slot_str_getitem.lookup (getItem_str (c:=c) (by
  have e1:decide (i < -(2 ^ 63:Int))=false:=decide_eq_false (by omega)
  have e2:decide (i >= 2 ^ 63)=false:=decide_eq_false (by omega)
  rw [e1,e2,Bool.or_false]) (by rw [h1]; simpa using h2) ⟨.str ⟨#[c]⟩,H,I.tok _,⟨_,rfl⟩,q⟩) hs
noncomputable def rIx (K:PySem.W.Frag):R2:=λ x y H Q=>rIxL K x y H Q\/rIxT K x y H Q\/rIxS x y H Q
theorem ix_seq:IxR X (rIx X.K):=ix_list.or (ix_tup.or ix_str)
theorem mapSeq_set (its:List Value)(n j:Nat)(u:Value):Obj.mapSeq (·.setIfInBounds j u) { cls:=.type "list",data:=.seq its.toArray n }={ cls:=.type "list",data:=.seq (its.set j u).toArray n }:=by
 simp [Obj.mapSeq]
theorem Inv.lst {pins:List (Addr×Obj)}{σ:St}{H:Hp}{s:Shared}{p:Addr}{xs:List V}(I:Inv X pins σ H s)(h:H p=some (.lst xs)) :
  ∃ (its:List Value) (n:Nat),Vals xs its/\s.heap.get? p=some { cls:=.type "list",data:=.seq its.toArray n }/\xs.length<=sizeLine:=by
 obtain ⟨z,its,n,r,e⟩:=I.hok p _ h
 exact ⟨its,n,r,e,z⟩
theorem Inv.lstUpd {pins:List (Addr×Obj)}{σ:St}{H:Hp}{s:Shared}{p:Addr}{xs ys:List V}{its its':List Value}{n n':Nat}{f:Obj->Obj}(I:Inv X pins σ H s)(h:H p=some (.lst xs))
  (ho:s.heap.get? p=some { cls:=.type "list",data:=.seq its.toArray n })(hf:f { cls:=.type "list",data:=.seq its.toArray n }={ cls:=.type "list",data:=.seq its'.toArray n' })(r:Vals ys its')(hz:ys.length<=sizeLine)(t:Nat) :
  Inv X pins σ (upd H p (.lst ys)) { s with heap:=s.heap.update p f,toks:=t }:=by
 have e:(s.heap.update p f).get? p=some { cls:=.type "list",data:=.seq its'.toArray n' }:=by
  rw [Heap.get?_update_self f ho (by rw [hf] <;> rfl),hf]
 refine I.write (x:=p) (e:=p) (by rw [h]; trivial) (.inl rfl) (λ b u hb q=>(Heap.get?_update_other _ _ (Ne.symm hb)).trans q) ⟨_,e⟩ ?_
 exact ⟨hz,its',n',r,e⟩
noncomputable def rSetL:V->V->V->Hp->(Hp->Prop)->Prop:=λ o i v H Q=>∃ p xs k j,o=.ref p/\i=.int k/\H p=some (.lst xs)/\ixN xs.length k=some j/\Q (upd H p (.lst (xs.set j v)))
theorem set_list:PSet X rSetL:=by
 intro pins s σ H o i v ov iv u Q I ro ri rv h
 obtain ⟨p,xs,k,j,rfl,rfl,hp,hj,q⟩:=h
 cases ro
 obtain ⟨t,rfl⟩:=ri
 obtain ⟨its,n,r,ho,hz⟩:=I.lst hp
 obtain ⟨h1,h2,h3,h4⟩:=ixN_seq hj
 have hl:=r.length
 have hn:=line63
 have I':Inv X pins σ (upd H p (.lst (xs.set j v))) { s with heap:=s.heap.update p (Obj.mapSeq (·.setIfInBounds j u)) } :=
  I.lstUpd hp ho (mapSeq_set its n j u) (r.set rv j) (by rw [List.length_set]; exact hz) s.toks
 by_cases h0:0<=k
 ·have hk:k.toNat=j:=by
   rw [seqIndex_of h0 h4] at h1
   exact Option.some.inj h1
  exact PySem.W.ki_setAt ho h0 (by omega) (by rw [List.size_toArray,<- hl]; exact h4) (by rw [hk]; exact ⟨_,I',q⟩)
 ·have hk:(k+(its.toArray.size:Int)).toNat=j:=by
   rw [seqIndex_neg (by omega) h3] at h1
   rw [List.size_toArray,<- hl]
   exact Option.some.inj h1
  exact PySem.W.ki_setBack ho (by omega) (by rw [List.size_toArray,<- hl]; exact h3) (by omega) (by rw [hk]; exact ⟨_,I',q⟩)
theorem slice_bounds (lo hi:Option Int)(n:Nat):(sliceBounds lo hi none n).1=((HT.sIx n 0 lo:Nat):Int)/\(sliceBounds lo hi none n).2.1=((HT.sIx n n hi:Nat):Int)/\(sliceBounds lo hi none n).2.2=1:=by
 refine ⟨?_,?_,rfl⟩
 ·cases lo with
  | none=>simp [sliceBounds,HT.sIx]
  | some i =>
   simp only [sliceBounds,HT.sIx,Option.getD_none,show (1:Int) > 0 by decide,if_true]
   by_cases h:i < 0
   ·simp only [h,if_true] <;> omega
   ·simp only [h,if_false] <;> omega
 ·cases hi with
  | none=>simp [sliceBounds,HT.sIx]
  | some i =>
   simp only [sliceBounds,HT.sIx,Option.getD_none,show (1:Int) > 0 by decide,if_true]
   by_cases h:i < 0
   ·simp only [h,if_true] <;> omega
   ·simp only [h,if_false] <;> omega
theorem slicePick_cut (its:List Value)(lo hi:Option Int):slicePick its.toArray lo hi none=((its.drop (HT.sIx its.length 0 lo)).take (HT.sIx its.length its.length hi - HT.sIx its.length 0 lo)).toArray:=by
 obtain ⟨h1,h2,h3⟩:=slice_bounds lo hi its.toArray.size
 unfold slicePick
 rw [h1,h2,h3]
 simp only [sliceRange_one,pick_run,List.size_toArray] <;> rfl
noncomputable def rSlL (K:PySem.W.Frag):V->Option Int->Option Int->Hp->VK->Prop:=λ x lo hi H Q=>∃ a xs,x=.ref a/\SqL K H a xs/\∀ p,H p=none->Q (.ref p) (upd H p (.lst (cutV xs lo hi)))
theorem sl_list:SlR X (rSlL X.K):=by
 intro pins s σ H x v vl vu lo hi sl Q I rx hs pl pu h
 obtain ⟨a,xs,rfl,hx,q⟩:=h
 cases rx
 obtain ⟨its,r,ht,hz⟩:=I.list hx
 have hlen:=r.length
 refine ⟨"list",_,slot_list_getitem.lookup,ht.isList.typeIs,?_⟩
 refine wpAny_getItem_list_slice ht.isList hs pl pu .none (by simp) ?_ (by rw [List.size_toArray] <;> omega)
 rw [slicePick_cut,<- hlen]
 refine ⟨.ref s.heap.objs.size,_,I.laid (t':=s.toks) (o:=.lst (cutV xs lo hi)) (λ b ob q=>Heap.get?_push_of_some _ q) (Nat.le_refl _) ?_,rfl,q _ (I.hok.fresh (Nat.le_refl _))⟩
 exact ⟨Nat.le_trans (cutV_length xs lo hi) hz,_,0,(r.drop (HT.sIx xs.length 0 lo)).take (HT.sIx xs.length xs.length hi - HT.sIx xs.length 0 lo),Heap.get?_push_size _ rfl⟩
theorem CallR.or {f:Value}{r r':List V->Hp->VK->Prop}(h:CallR X f r)(h':CallR X f r'):CallR X f (λ xs H Q=>r xs H Q\/r' xs H Q):=by
 intro pins s σ H xs us Q I rs q
 rcases q with q | q
 ·exact h pins s σ H xs us Q I rs q
 ·exact h' pins s σ H xs us Q I rs q
theorem call_list_of:CallR X (.type "list") (λ xs H Q=>∃ p ys,xs=[.ref p]/\(SqL X.K H p ys\/SqT X.K H p ys)/\∀ l,H l=none->Q (.ref l) (upd H l (.lst ys))):=by
 intro pins s σ H xs us Q I r h
 obtain ⟨p,ys,rfl,hq,q⟩:=h
 obtain ⟨u,rfl,rx⟩:=vals1 r
 cases rx
 have fin:∀ (its:List Value),Vals ys its->ys.length<=sizeLine->∀ (h':Heap) (c':Nat),(∀ b o',s.heap.get? b=some o'->h'.get? b=some o') ->
   h'.get? s.heap.objs.size=some { cls:=.type "list",dict:=none,data:=.seq its.toArray c',slots:=#[] }->EP X pins σ Q (.ref s.heap.objs.size) { s with heap:=h' }:=λ its r' hz h' c' kp e =>
  ⟨.ref s.heap.objs.size,_,I.laid (t':=s.toks) kp (Nat.le_refl _) (show ObjOk X.prog X.w _ h' _ (.lst ys) from ⟨hz,its,c',r',e⟩),rfl,q _ (I.hok.fresh (Nat.le_refl _))⟩
 rcases hq with hq | hq
 ·obtain ⟨its,r',pl,hz⟩:=I.list hq
  have hlen:=r'.length
  obtain ⟨o,ho,hc,n,hd⟩:=pl.isList
  exact call_list_seq p (.inl rfl) ho hc hd (λ h' c' kp e=>fin its r' hz h' c' kp e) (by simp only [List.size_toArray] <;> omega)
 ·obtain ⟨its,r',pl,hz⟩:=I.tuple hq
  have hlen:=r'.length
  obtain ⟨o,ho,hc,n,hd⟩:=pl
  exact call_list_seq p (.inr rfl) ho hc hd (λ h' c' kp e=>fin its r' hz h' c' kp e) (by simp only [List.size_toArray] <;> omega)
theorem call_tuple_of:CallR X (.type "tuple") (λ xs H Q=>∃ p ys,xs=[.ref p]/\((SqL X.K H p ys/\∀ l,H l=none->Q (.ref l) (upd H l (.tup ys)))\/(SqT X.K H p ys/\Q (.ref p) H))):=by
 intro pins s σ H xs us Q I r h
 obtain ⟨p,ys,rfl,h⟩:=h
 obtain ⟨u,rfl,rx⟩:=vals1 r
 cases rx
 rcases h with ⟨hq,q⟩ | ⟨hq,q⟩
 ·obtain ⟨its,r',pl,hz⟩:=I.list hq
  have hlen:=r'.length
  refine call_tuple_list pl.isList (λ h' kp=>?_) (by simp only [List.size_toArray] <;> omega)
  have I1:Inv X pins σ H { s with heap:=h' }:=I.kept (t':=s.toks) kp
  have I2:Inv X pins σ (upd H h'.objs.size (.tup ys)) { s with heap:=h'.push { cls:=.type "tuple",data:=.seq its.toArray } } :=
   I1.laid (t':=s.toks) (λ b o e=>Heap.get?_push_of_some _ e) (Nat.le_refl _) (show ObjOk X.prog X.w _ _ _ (.tup ys) from ⟨hz,its,r',TupN.new _ _⟩)
  exact ⟨.ref h'.objs.size,_,I2,rfl,q _ (I1.hok.fresh (Nat.le_refl _))⟩
 ·obtain ⟨its,r',pl,hz⟩:=I.tuple hq
  exact call_tuple_same pl ⟨.ref p,H,I,rfl,q⟩
noncomputable def tyV (K:PySem.W.Frag)(T:String)(x:V)(H:Hp):Prop:=match x with
 | .str _=>T = "str"
 | .int _=>T = "int"
 | .ref p=>(T = "list" /\ ∃ xs,SqL K H p xs)\/(T = "tuple" /\ ∃ xs,SqT K H p xs) \/
   (T = "dict" /\ ((∃ kvs,H p=some (.dK kvs))\/∃ kvs,H p=some (.dT kvs)))\/(T = "set" /\ ∃ S n,H p=some (.set S n))
 | _=>False
theorem tyV_is {pins:List (Addr×Obj)}{σ:St}{H:Hp}{s:Shared}{T:String}{x:V}{v:Value}(I:Inv X pins σ H s)(r:RelV x v)(ty:tyV X.K T x H) :
  s.TypeIs v T/\∀ a,v=.ref a->∃ ob,s.heap.get? a=some ob/\ob.dict=none:=by
 cases x with
 | str z =>
  obtain ⟨t,rfl⟩:=r
  cases (show T = "str" from ty)
  exact ⟨typeIs_str s z t,λ _ e=>nomatch e⟩
 | int i =>
  obtain ⟨t,rfl⟩:=r
  cases (show T = "int" from ty)
  exact ⟨typeIs_int s i t,λ _ e=>nomatch e⟩
 | ref p =>
  cases r
  rcases ty with ⟨rfl,xs,hq⟩ | ⟨rfl,xs,hq⟩ | ⟨rfl,hk⟩ | ⟨rfl,S,n,hk⟩
  ·obtain ⟨its,_,pl,_⟩:=I.list hq
   refine ⟨pl.isList.typeIs,λ a e=>?_⟩
   cases e
   obtain ⟨o,n,e,c,hd,_⟩:=pl
   exact ⟨o,e,hd⟩
  ·obtain ⟨its,_,⟨o,h1,h2,h3,_⟩,_⟩:=I.tupN hq
   refine ⟨⟨o,h1,h2⟩,λ a e=>?_⟩
   cases e
   exact ⟨o,h1,h3⟩
  ·have z:∃ o,s.heap.get? p=some o/\o.ExactDict:=by
    rcases hk with ⟨kvs,hk⟩ | ⟨kvs,hk⟩
    ·obtain ⟨_,_,_,_,o,_,_,e,ex,_⟩:=I.hok p _ hk
     exact ⟨o,e,ex⟩
    ·obtain ⟨_,_,_,_,o,_,_,e,ex,_⟩:=I.hok p _ hk
     exact ⟨o,e,ex⟩
   obtain ⟨o,e,ex⟩:=z
   refine ⟨⟨o,e,ex.1⟩,λ a e2=>?_⟩
   cases e2
   exact ⟨o,e,ex.2.1⟩
  ·obtain ⟨o,_,_,_,e,ex,_⟩:=I.hok p _ hk
   refine ⟨⟨o,e,ex.1⟩,λ a e2=>?_⟩
   cases e2
   exact ⟨o,e,ex.2.1⟩
 | _=>exact False.elim ty
noncomputable def tBM (K:PySem.W.Frag)(T:String)(r:V->List V->Hp->VK->Prop)(to:TE)(t:TA):TE:=λ σ H Q=>to σ H λ x H1=>tyV K T x H1/\t σ H1 λ xs H2=>r x xs H2 Q
variable {o e:Expr}{es:List Expr}{to:TE}{t:TA}{name:Str}{apos cpos:Pos}{T id:String}{r:V->List V->Hp->VK->Prop}
theorem pe_bm (pa:PlainAttrs T)(slot:Slot T name id)(hty:typeOf (.builtin id)=pure (.type "method_descriptor"))(hm:MtR X id r)(ho:PE X o to)(ha:PA X (e :: es) t)
  (hbase:attributeBase o name X.env (eval o X.env)=eval o X.env:=by rfl)
  (hfew:((backTo cpos (starEach (e :: es) X.env)).all (λ x=>!x.1) && (backToKw cpos (keywordEach [] X.env)).all (λ x=>x.1.isSome)
   && decide ((e :: es).length+([]:List Keyword).length+(if ([]:List Keyword).isEmpty then 0 else 1) < 30))=true:=by rfl)
  (hline:(apos.endLine == cpos.line)=true:=by rfl)(hs:starEach (e :: es) X.env=(false,eval e X.env) :: starEach es X.env:=by rfl)(hplain:(backTo cpos (starEach es X.env)).any (·.1)=false:=by rfl) :
  PE X (.Call (.Attribute o name apos) (e :: es) [] cpos) (tBM X.K T r to t):=by
 intro pins s σ H Q I h
 refine wpAny_Call_method_late hbase hfew hline rfl (thn (ho pins s σ H _ I h) λ v s1 hq22=>?_)
 obtain ⟨x,H1,I1,r1,ty,q1⟩:=hq22
 obtain ⟨h1,h2⟩:=tyV_is I1 r1 ty
 refine ⟨T,id,pa,slot,hty,h1,h2,?_⟩
 have hA:=ha cpos pins s1 σ H1 _ I1 q1
 rw [hs] at hA ⊢
 refine Calls.callWith_builtin (by show (false || (backTo cpos (starEach es X.env)).any (·.1))=false; rw [hplain] <;> rfl) (Calls.evalArgs_plain ?_)
 exact thn hA λ us s2 ⟨vs,H2,I2,r2,q2⟩=>hm pins s2 σ H2 x vs v us Q I2 r1 r2 q2
end
end L2
namespace L2
open PySem PySem.Spec PyProof.Rows
noncomputable def MtM (X:Cx)(id:String)(r:V->List V->Hp->VK->Prop):Prop :=
 ∀ (pins:List (Addr×Obj)) (s:Shared) (σ:St) (H:Hp) (x:V) (xs:List V) (v:Value) (us:List Value) (Q:VK),Inv X pins σ H s->RelV x v->Vals xs us->r x xs H Q ->
  wpAny (model X.prog X.w) X.A (call (.builtin id) (v :: us)) (EP X pins σ Q) X.xe s
theorem Vals.one:∀ {x:V} {us:List Value},Vals [x] us->∃ u,us=[u]/\RelV x u
 | _,_,.cons r .nil=>⟨_,rfl,r⟩
theorem Vals.zero:∀ {us:List Value},Vals [] us->us=[]
 | _,.nil=>rfl
section
variable {X:Cx}{pins:List (Addr×Obj)}{σ:St}{H:Hp}{s:Shared}{l b:Addr}{xs ys zs:List V}
theorem Inv.lset {its its':List Value}{n:Nat}{f:Array Value->Array Value}{t':Nat}(I:Inv X pins σ H s)(hH:H l=some (.lst xs))
  (e:s.heap.get? l=some { cls:=.type "list",data:=.seq its.toArray n })(hf:f its.toArray=its'.toArray)(hv:Vals ys its')(hz:ys.length<=sizeLine) :
  Inv X pins σ (upd H l (.lst ys)) { s with heap:=s.heap.update l (Obj.mapSeq f),toks:=t' }:=by
 have q:=PySem.IsL.update e f
 rw [hf] at q
 refine I.write (x:=l) (e:=l) (by rw [hH]; exact trivial) (.inl rfl) (λ b' u hb hu=>(Heap.get?_update_other s.heap (Obj.mapSeq f) (Ne.symm hb)).trans hu) ⟨_,q⟩ ?_
 exact ⟨hz,its',_,hv,q⟩
theorem Inv.fresh (I:Inv X pins σ H s):H s.heap.objs.size=none:=I.hok.fresh (Nat.le_refl _)
theorem Inv.lstM (I:Inv X pins σ H s)(hH:H l=some (.lst xs)):xs.length<=sizeLine/\∃ (its:List Value) (n:Nat),Vals xs its/\xs.length=its.length/\s.heap.get? l=some { cls:=.type "list",data:=.seq its.toArray n }:=by
 obtain ⟨z,its,n,r,e⟩:=I.hok l _ hH
 exact ⟨z,its,n,r,r.length,e⟩
end
section
variable {X:Cx}
noncomputable def rAppend:V->List V->Hp->VK->Prop:=λ x vs H Q=>∃ l xs y,x=.ref l/\vs=[y]/\H l=some (.lst xs)/\xs.length < sizeLine/\Q .non (upd H l (.lst (xs++[y])))
theorem mt_append:MtM X "list.append" rAppend:=by
 intro pins s σ H x vs v us Q I rx rv h
 obtain ⟨l,xs,y,rfl,rfl,hH,hz,q⟩:=h
 cases rx
 obtain ⟨u,rfl,ru⟩:=rv.one
 obtain ⟨z,its,n,r,hl,e⟩:=I.lstM hH
 refine call_meets F.slot_list_append ⟨_,e,rfl⟩ F.entry_list_append (F.args_list_append_2 _ _) (PySem.list_append l its.toArray n u (by rw [List.size_toArray]; omega)) ⟨e,?_⟩
 refine ⟨.non,_,I.lset (its':=its++[u]) hH e (by simp) (r.append (.cons ru .nil)) ?_,rfl,q⟩
 rw [List.length_append,List.length_singleton]
 omega
end
section
variable {prog:Program}{w:World}{A:Around}{E:Value->Shared->Prop}{s:Shared}
end
section
variable {X:Cx}
end
end L2
namespace Att
open PySem PySem.W PySem.Calls PyProof.Rows
theorem ints_of_wellAll {P:Params}{h:Heap}:∀ (ns:List Int) (vs:List Value),WellAll P h vs (ns.map WData.int)->IntsAre vs ns:=by
 intro ns
 induction ns with
 | nil =>
  intro vs w
  rw [List.map_nil] at w
  cases w
  exact .nil
 | cons n ns ih =>
  intro vs w
  rw [List.map_cons] at w
  cases w with
  | cons a b =>
   cases a
   exact .cons _ _ (ih _ b)
theorem script_of {l:OpenLaw}{n:Nat}(hn:l.most=some n){P:Params}{h:Heap}{args:List WData}{vals:List Value}
  (hpre:l.row.toRowW.claim.pre args=true)(hwl:WellAll P h vals args) :
  ∃ a vs ns,vals=[Value.ref a]/\args=[WData.list (ns.map WData.int)]/\h.get? a=some { cls:=.type "list",data:=.seq vs.toArray }/\IntsAre vs ns/\ns.length<=n:=by
 have hsh:WShape.hasAll [] args [.list .int]=true:=(pre_splitW hpre).1
 have hc:l.pre.holds [] { args:=args }=true:=(pre_splitW hpre).2
 obtain ⟨d,r,rfl,h1,h2⟩:=hasAllW_cons hsh
 obtain rfl:=hasAllW_nil h2
 obtain ⟨xs,rfl,h3⟩:=hasW_list h1
 obtain ⟨ns,rfl⟩:=items_int h3
 have hlen:ns.length<=n:=by
  unfold OpenLaw.pre at hc
  have h4:(WTm.not (.lt (.lit (.int (n:Int))) (.len (.arg 0)))).holds [] { args:=[.list (ns.map .int)] }=true:=by
   have h4:=(holds_andW hc).1
   rw [hn] at h4
   exact h4
  have h5:=condW_of h4 (w_not (w_lt w_lit (w_len_list (w_arg rfl))))
  rw [List.length_map] at h5
  refine Nat.le_of_not_lt λ q=>?_
  have q':(n:Int) < ((ns.length:Nat):Int):=by omega
  first
   | (rw [decide_eq_true q'] at h5; exact absurd h5 (by decide))
   | (simp at h5; omega)
 cases hwl with
 | cons w1 w2 =>
  cases w2
  cases w1 with
  | list ho hall=>exact ⟨_,_,ns,rfl,rfl,ho,ints_of_wellAll ns _ hall,hlen⟩
theorem post_true (l:OpenLaw)(args:List WData):l.row.toRowW.claim.post args (.bool true) args=true :=
 postW_of (r:=l.row.toRowW) (X:=(true == true))
  (show WShape.has [] (.bool true) .bool=true by first | rfl | decide | simp [WShape.has,WShape.arms,WShape.armsAll])
  (show (WTm.eq .res (.lit (.bool true))).value [] { args:=args,res:=some (.bool true),after:=args }=some (.bool (true == true)) from w_eq_bool (w_res rfl) w_lit) rfl
theorem attach_call {l:OpenLaw}{n:Nat}{q:Program}{loose:List Str}{XP:(Str->Option Value)->Heap->Prop}{YP:World->Heap->Prop}{d:DefRec}
  (hn:l.most=some n)(hdf:d.params.defaults=[])
  (call:∀ (w:World) (s₀ s₁:Shared) (mg mb:Str->Option Value) (fa:Addr) (o:Obj) (pm cd doc:Value) (a:Addr) (vs:List Value) (ns:List Int),
   Ground q loose [] XP w s₀ mg mb s₁.heap->YP w s₁.heap ->
   s₁.heap.get? fa=some o->o.data=.func (docDef d.name d.params d.body d.scope pm cd doc)->s₁.heap.CodeRec cd d.name->mg d.name=some (.ref fa) ->
   s₁.heap.get? a=some { cls:=.type "list",data:=.seq vs.toArray }->IntsAre vs ns->ns.length<=n->s₁.gens = #[] ->
   codeAny (model l.prog w) callerA (.call (.ref fa) ⟨[.ref a],[]⟩) (λ r s'=>r=.ok (.ret (.bool true))/\OldK s₁.heap s'.heap/\s'.os=s₁.os/\AllBare s'.gens) s₁) :
  WalkO q loose XP YP l.row.toRowW d [] (λ f vs=>PySem.call f vs):=by
 intro w s₀ s₁ mg mb G Y fa o pm cd doc dV kV ho hd hcd hD hmg hg args vals as hpre hlay hrd hwl hlo
 obtain rfl:dV=.none:=Dflts.none hD hdf
 obtain rfl:kV=.none:=Dflts.noKw hD
 obtain ⟨a,vs,ns,rfl,rfl,hobj,hints,hlen⟩:=script_of hn hpre hwl
 refine enter_call (codeAny_mono (call w s₀ s₁ mg mb fa o pm cd doc a vs ns G Y ho (fd_plain hd) hcd hmg hobj hints hlen hg) λ r s' hq=>?_)
 obtain ⟨rfl,h2,h3,h4⟩:=hq
 exact ⟨.inl ⟨.bool true,.bool true,[],rfl,λ _=>rfl,.bool true,post_true l _,λ _=>⟨List.Pairwise.nil,λ _ hm=>(nomatch hm)⟩⟩,h2,h3,h4⟩
section
variable {prog:Program}{w:World}{A:Around}{E:Value->Shared->Prop}{s:Shared}{K:Frag}
end
end Att
namespace L2
open PySem PySem.Spec PyProof.Rows
theorem vals_ints:∀ {vs:List Value} {ns:List Int},IntsAre vs ns->Vals (ns.map V.int) vs
 | _,_,.nil=>.nil
 | _,_,.cons n t h=>.cons ⟨t,rfl⟩ (vals_ints h)
noncomputable def Only (H:Hp):Prop:=∀ b,H b=none\/∃ o xs,H b=some (.frz o (.lst xs))
theorem law_call {P:Program}{w:World}{K:PySem.W.Frag}{mg mb:Str->Option Value}{CX:CXT}{k:Nat}{fa a:Addr}{fd:FuncData}{x:Str}{sp:Sp}{s₁:Shared}{vs:List Value}{ns:List Int}
  (KX:K.In s₁.heap)(hns:s₁.heap.Ns mainGlobals mg)(hb:s₁.heap.Ns builtinsNs mb)(hbb:∀ x:Str,x ≠ "__name__" -> mb x=bootBuiltins x)(hlim:s₁.heap.NoLimit)(hbm:BM mg s₁.heap)(hg:s₁.gens = #[])
  (ha:s₁.heap.get? a=some { cls:=.type "list",data:=.seq vs.toArray })(hi:IntsAre vs ns)(hl:ns.length<=sizeLine)(hr:Room k callerA)
  (F:∀ base:Heap,K.In base->base.Ns mainGlobals mg->FnOk P w K mg base CX k fa fd [x] sp)(hbind:∀ (s:Shared) (u:Value),BindsTo s fd ⟨[u],[]⟩ [(x,u)])
  (hsp:∀ H:Hp,Only H->SqL K H a (ns.map V.int)->sp [.ref a] H (λ v _=>v=.bl true) λ _ _ _=>False)
  (hCX:∀ H e s',CX [] H s₁ (λ _ _ _=>False) e s'->False) :
  codeAny (model P w) callerA (.call (.ref fa) ⟨[.ref a],[]⟩) (λ r s'=>r=.ok (.ret (.bool true))/\OldK s₁.heap s'.heap/\s'.os=s₁.os/\AllBare s'.gens) s₁:=by
 have rv:=vals_ints hi
 have lenV:=hi.length
 have core:∀ H:Hp,Only H->SqL K H a (ns.map V.int)->HOk P w H s₁.heap->(∀ b,H b≠none->b=a)->(H a≠none->K.lookup a=none) ->
   codeAny (model P w) callerA (.call (.ref fa) ⟨[.ref a],[]⟩) (λ r s'=>r=.ok (.ret (.bool true))/\OldK s₁.heap s'.heap/\s'.os=s₁.os/\AllBare s'.gens) s₁:=by
  intro H hO hS hok hA hK
  have base_of:∀ {b:Addr} {o:Obj},s₁.heap.get? b=some o->H b=none->(hidT s₁.heap H).get? b=some o:=λ e n=>hidT_get e n
  have noA:∀ {b:Addr} {o:Obj} {es:Array DictEntry} {ep:Nat},s₁.heap.get? b=some o->o.data=.dict es ep->H b=none:=λ {b o es ep} e d=>by
   cases q:H b with
   | none=>rfl
   | some u =>
    have e':b=a:=hA b (by rw [q]; simp)
    subst e'
    rw [ha] at e; cases e
    have d':Data.seq vs.toArray _=Data.dict es ep:=d
    cases d'
  have nsK:∀ {b:Addr} {m:Str->Option Value},s₁.heap.Ns b m->(hidT s₁.heap H).Ns b m:=λ {b m} ⟨o,es,ep,e,d,r⟩=>⟨o,es,ep,base_of e (noA e d),d,r⟩
  have hKb:K.In (hidT s₁.heap H):=λ b o e=>base_of (KX b o e) (by
   cases q:H b with
   | none=>rfl
   | some u =>
    have e':b=a:=hA b (by rw [q]; simp)
    subst e'
    rw [hK (by rw [q]; simp)] at e; cases e)
  have hM:Mod K mg (hidT s₁.heap H):=⟨hKb,nsK hns,⟨mb,nsK hb,hbb⟩,let ⟨mc,h1,h2⟩:=hlim; ⟨mc,nsK h1,h2⟩,let ⟨⟨b,o,h1,h2,h3,h4,h5,h6⟩,mm,hmm⟩:=hbm; ⟨⟨b,o,h1,h2,base_of h3 (by cases q:H b with | none=>rfl | some u=>(have e':b=a:=hA b (by rw [q]; simp); subst e'; rw [ha] at h3; cases h3; cases h6)),h4,h5,h6⟩,mm,nsK hmm⟩⟩
  have e0:Env0 P w K mg (hidT s₁.heap H) callerA [] s₁ H:=⟨rfl,hM,λ b o e=>of_hidT e,Nat.le_of_eq (hidT_size _ _),trivial,λ b hb=>absurd (show b∈([]:List Addr) from hb) (by simp),hok,.of_eq hg⟩
  refine codeAny_mono ((F _ hKb (nsK hns)).run callerA [] s₁ H ⟨[.ref a],[]⟩ [.ref a] [.ref a] _ _ hr e0 (hbind s₁ (.ref a)) (.cons rfl .nil) (hsp H hO hS)) λ r s' h=>?_
  cases r with
  | error e=>exact (hCX H e s' h).elim
  | ok fl =>
   cases fl with
   | next=>exact False.elim h
   | brk=>exact False.elim h
   | cont=>exact False.elim h
   | ret u =>
    obtain ⟨v,H',os,bare,un,hok',r',q⟩:=h
    have q':v=.bl true:=q
    subst q'
    obtain rfl:u=Value.bool true:=r'
    refine ⟨rfl,OldK.of_keep λ b o e=>?_,os,bare⟩
    cases q:H b with
    | none=>exact un.keep b o e q (by intro z; exact absurd (show b∈([]:List Addr) from z) (by simp)) (by simp)
    | some u =>
     rcases hO b with z | ⟨ob,xs,z⟩
     ·rw [q] at z; cases z
     ·have z2:=un.frzs b ob _ z
      obtain ⟨e1,_⟩:=hok b _ z
      obtain ⟨e2,_⟩:=hok' b _ z2
      rw [e] at e1; cases e1
      exact e2
 cases hk:K.lookup a with
 | some o =>
  have e:=KX a o hk
  rw [ha] at e
  cases e
  refine core (λ _=>none) (λ _=>.inl rfl) (.inr ⟨_,vs.toArray,_,hk,rfl,rfl,rfl,by rw [List.size_toArray,lenV]; exact hl,by simpa using rv⟩) (λ b u z=>by have z':(none:Option HO)=some u:=z; cases z') (λ b z=>absurd rfl z) λ z=>absurd rfl z
 | none =>
  refine core (λ b=>if b=a then some (.frz { cls:=.type "list",data:=.seq vs.toArray } (.lst (ns.map V.int))) else none) (λ b=>?_) (.inl (.inr ⟨{ cls:=.type "list",data:=.seq vs.toArray },if_pos rfl⟩)) (λ b u z=>?_) (λ b z=>?_) λ _=>hk
  ·by_cases hb:b=a
   ·exact .inr ⟨_,_,if_pos hb⟩
   ·exact .inl (if_neg hb)
  ·by_cases hb:b=a
   ·have z':=(if_pos hb).symm.trans z
    cases z'
    subst hb
    exact ⟨ha,by rw [List.length_map]; exact hl,vs,_,rv,ha⟩
   ·have z':=(if_neg hb).symm.trans z
    cases z'
  ·by_cases hb:b=a
   ·exact hb
   ·exact absurd (if_neg hb) z
end L2
namespace L2
open PySem PySem.Spec PyProof.Rows
theorem walk_of {l:PySem.W.OpenLaw}{n k:Nat}{q:Program}{loose:List Str}{XP:(Str->Option Value)->Heap->Prop}{YP:World->Heap->Prop}{d:DefRec}{K:Params->PySem.W.Frag}{CX:World->CXT}{sp:World->Sp}{x:Str}
  (hq:importsNone q=true)(hn:l.most=some n)(hn2:n<=sizeLine)(hdf:d.params.defaults=[])(hr:Room k callerA)
  (hY:∀ (w:World) (h:Heap),YP w h->(K w.params).In h)
  (F:∀ (w:World) (mg:Str->Option Value) (fa:Addr) (h:Heap),(K w.params).In h->h.Ns mainGlobals mg->mg d.name=some (.ref fa) ->
   ∃ fd:FuncData,(∀ (s:Shared) (u:Value),BindsTo s fd ⟨[u],[]⟩ [(x,u)]) /\
    ∀ base:Heap,(K w.params).In base->base.Ns mainGlobals mg->FnOk l.prog w (K w.params) mg base (CX w) k fa fd [x] (sp w))
  (hsp:∀ (w:World) (H:Hp) (a:Addr) (ns:List Int),ns.length<=n->Only H->SqL (K w.params) H a (ns.map V.int)->sp w [.ref a] H (λ v _=>v=.bl true) λ _ _ _=>False)
  (hCX:∀ (w:World) (H:Hp) (s:Shared) (e:Value) (s':Shared),CX w [] H s (λ _ _ _=>False) e s'->False) :
  PySem.W.WalkO q loose XP YP l.row.toRowW d [] (λ f vs=>PySem.call f vs):=by
 refine Att.attach_call hn hdf λ w s₀ s₁ mg mb fa o pm cd doc a vs ns G Y ho hd hcd hmg hobj hints hlen hg=>?_
 have KX:=hY w _ Y
 obtain ⟨fd,hb,hF⟩:=F w mg fa _ KX G.T.g hmg
 exact law_call KX G.T.g G.T.b G.T.builtins G.T.nolimit (let ⟨bm,ob,b1,b2,b3,b4,b5,b6⟩:=G.T.bmain; let ⟨mm,hmm,_⟩:=(G.T.seer hq).mods; ⟨⟨bm,ob,b1,b2,b3,b4,b5,b6⟩,mm,hmm⟩) hg hobj hints (Nat.le_trans hlen hn2) hr hF hb (λ H hO hS=>hsp w H a ns hlen hO hS) λ H e s'=>hCX w H s₁ e s'
end L2
namespace L2
open PySem PySem.Spec PyProof.Rows
noncomputable def inClass (s:Stmt)(j:Nat):Stmt:=match s with
 | .ClassDef _ _ _ body _ _ _ _ _ _ _=>body.getD j (.Pass ⟨0,0,0,0⟩)
 | _=>.Pass ⟨0,0,0,0⟩
noncomputable def defArgs (s:Stmt):Arguments:=match s with
 | .FunctionDef _ a _ _ _ _ _ _ _ _=>a
 | _=>{ posonlyargs:=[],args:=[],vararg:=none,kwonlyargs:=[],kw_defaults:=[],kwarg:=none,defaults:=[] }
noncomputable def defBody (s:Stmt):List Stmt:=match s with
 | .FunctionDef _ _ b _ _ _ _ _ _ _=>b
 | _=>[]
noncomputable def defScope (s:Stmt):Scope:=match s with
 | .FunctionDef _ _ _ _ _ _ sc _ _ _=>sc
 | _=>{ kind:=.function,names:=[],isGenerator:=false,isCoroutine:=false }
noncomputable abbrev CX0:CXT:=λ _ _ _ _ _ _=>False
noncomputable abbrev E0:XK:=λ _ _ _=>False
theorem pass0 {X:Cx}:Passes CX0 X E0:=λ _ _ _ _ _ _ _ h=>h.elim
structure Fun (K:PySem.W.Frag)(x qual:Str)(st:Stmt)(f:Addr)(fd:FuncData):Prop where
 ex:∃ (oc:Value) (od:Option Addr) (kV doc pm:Value) (an:Option Addr) (cdv ct:Value) (osl:Array (Option Value)),
  fd=PySem.W.fnOf x qual (defArgs st) (defBody st) (defScope st) .none kV doc pm an cdv ct/\K.lookup f=some ⟨oc,od,.func fd,osl⟩/\PySem.W.codeIn K cdv qual=true
 kp:PySem.W.keepIn K (.ref f)=true
section
variable {P:Program}{w:World}{K:PySem.W.Frag}{mg:Str->Option Value}{base:Heap}
theorem Fun.ok {x qual:Str}{st:Stmt}{f:Addr}{fd:FuncData}{N ps:List Str}{k:Nat}{sp:Sp}(F:Fun K x qual st f fd)(S:FnScope N ps (defScope st))(len:∀ vs H Q E,sp vs H Q E->vs.length=ps.length)
  (hbody:∀ (cdv:Value) (A:Around) (outer:List Env) (s:Shared) (H:Hp) (vs:List V) (Q:VK) (E:XK),Room k (A.deeper (envOfC qual (defScope st) s.heap.objs.size f cdv))->sp vs H Q E ->
   ∃ t,PSs (cxOf CX0 P w K mg base N qual (defScope st) f cdv A outer s H E).nox (defBody st) t/\t { nx:=λ _ H'=>Q .non H',rt:=Q } (start N vs) H):FnOk P w K mg base CX0 (k+1) f fd ps sp:=by
 obtain ⟨oc,od,kV,doc,pm,an,cdv,ct,osl,rfl,lk,hcd⟩:=F.ex
 refine fn_of lk hcd S len λ A outer s H vs Q E hr hsp=>?_
 obtain ⟨t,h,q⟩:=hbody cdv A outer s H vs Q E hr hsp
 exact ⟨t,h.nox,q⟩
theorem Fun.binds {x qual:Str}{st:Stmt}{f:Addr}{fd:FuncData}{ps:List Str}(F:Fun K x qual st f fd)
  (h:∀ (kV doc pm:Value) (an:Option Addr) (cdv ct:Value) (us:List Value),us.length=ps.length->bindArgs (PySem.W.fnOf x qual (defArgs st) (defBody st) (defScope st) .none kV doc pm an cdv ct) ⟨us,[]⟩=pure (ps.zip us)):Binds K fd ps []:=by
 obtain ⟨oc,od,kV,doc,pm,an,cdv,ct,osl,rfl,lk,hcd⟩:=F.ex
 exact .all (h kV doc pm an cdv ct)
theorem fun_mk {x qual:Str}{st:Stmt}{f:Addr}{oc:Value}{od an:Option Addr}{osl:Array (Option Value)}{kV doc pm cdv ct:Value}(l:K.lookup f=some ⟨oc,od,.func (PySem.W.fnOf x qual (defArgs st) (defBody st) (defScope st) .none kV doc pm an cdv ct),osl⟩)
  (c:PySem.W.codeIn K cdv qual=true)(k:PySem.W.keepIn K (.ref f)=true):Fun K x qual st f (PySem.W.fnOf x qual (defArgs st) (defBody st) (defScope st) .none kV doc pm an cdv ct):=⟨⟨oc,od,kV,doc,pm,an,cdv,ct,osl,rfl,l,c⟩,k⟩
end
theorem hu_of {A:Around}{k:Nat}(hr:Room k A):A.units+1 < cLine:=Nat.lt_of_le_of_lt (Nat.add_le_add_left (by decide:1<=64) _) hr.units
section
variable {X:Cx}
theorem pv (i:Nat){x:Str}{pos:Pos}(hN:X.N[i]? = some x:=by rfl)(hv:Vis X.env.scope x:=by first | exact Or.inl rfl | exact Or.inr (Or.inl rfl) | exact Or.inr (Or.inr rfl))(hd:(x == ("__debug__" : Str))=false:=by decide)
  (hcd:(x == ("__classdict__" : Str))=false:=by decide):PE X (.Name x pos) (tVar i):=pe_var hN hv hd hcd
end
theorem iteF {A B:Prop}(h:B):if false=true then A else B:=by
 rw [if_neg Bool.false_ne_true]
 exact h
theorem iteT {A B:Prop}(h:A):if true=true then A else B:=by
 rw [if_pos rfl]
 exact h
noncomputable def Same (H H':Hp):Prop:=∀ b o,H b=some o->H' b=some o
theorem Same.refl (H:Hp):Same H H:=λ _ _ h=>h
theorem Same.trans {H H1 H2:Hp}(a:Same H H1)(b:Same H1 H2):Same H H2:=λ c o h=>b c o (a c o h)
theorem Same.free {H H':Hp}(e:Same H H'){l:Addr}(h:H' l=Option.none):H l=Option.none:=by
 cases q:H l with
 | none=>rfl
 | some o =>
  rw [e l o q] at h
  cases h
theorem Same.seq {K:PySem.W.Frag}{H H':Hp}{a:Addr}{xs:List V}(e:Same H H')(h:SqL K H a xs):SqL K H' a xs:=by
 rcases h with (h | ⟨o,h⟩) | h
 ·exact .inl (.inl (e _ _ h))
 ·exact .inl (.inr ⟨o,e _ _ h⟩)
 ·exact .inr h
end L2
namespace L2
open PySem PySem.Spec PyProof.Rows
section
variable {κ:Type}[DecidableEq κ]
noncomputable def valV (kvs:List (κ×V))(k:κ):Option V:=(kvs.find? λ kv=>decide (kv.1=k)).map (·.2)
noncomputable def putK (kvs:List (κ×V))(k:κ)(v:V):List (κ×V) :=
 if (kvs.any λ kv=>decide (kv.1=k))=true then kvs.map (λ kv=>if kv.1=k then (kv.1,v) else kv) else kvs++[(k,v)]
noncomputable def dropK (kvs:List (κ×V))(k:κ):List (κ×V):=kvs.filter λ kv=>decide (kv.1≠k)
theorem valV_pos {p:κ×V}{r:List (κ×V)}{k:κ}(e:p.1=k):valV (p :: r) k=some p.2:=by simp [valV,List.find?_cons,e]
theorem valV_neg {p:κ×V}{r:List (κ×V)}{k:κ}(e:¬ p.1=k):valV (p :: r) k=valV r k:=by simp [valV,List.find?_cons,e]
theorem valV_any (k:κ):∀ kvs:List (κ×V),(kvs.any λ kv=>decide (kv.1=k))=(valV kvs k).isSome
 | []=>rfl
 | p :: r=>by
  rw [List.any_cons]
  by_cases e:p.1=k
  ·simp only [valV_pos e,decide_eq_true e,Bool.true_or,Option.isSome_some]
  ·rw [valV_neg e,decide_eq_false e,Bool.false_or]; exact valV_any k r
theorem length_putK (kvs:List (κ×V))(k:κ)(v:V):(putK kvs k v).length<=kvs.length+1:=by
 unfold putK
 split
 ·rw [List.length_map]; omega
 ·rw [List.length_append,List.length_cons,List.length_nil]; omega
theorem putK_new {kvs:List (κ×V)}{k:κ}(v:V)(h:valV kvs k=none):putK kvs k v=kvs++[(k,v)]:=by
 unfold putK
 rw [valV_any,h]
 exact if_neg (by decide)
theorem RelO.isSome_eq {o:Option V}{u:Option Value}(r:RelO o u):o.isSome=u.isSome:=by
 cases o with
 | none=>cases u with
  | none=>rfl
  | some _=>exact (show False from r).elim
 | some _=>cases u with
  | none=>exact (show False from r).elim
  | some _=>rfl
theorem RelO.getD {o:Option V}{u:Option Value}{d:V}{d':Value}(r:RelO o u)(rd:RelV d d'):RelV (o.getD d) (u.getD d'):=by
 cases o with
 | none=>cases u with
  | none=>exact rd
  | some _=>exact (show False from r).elim
 | some _=>cases u with
  | none=>exact (show False from r).elim
  | some _=>exact r
theorem KV.val {kvs:List (κ×V)}{vs:List (κ×Value)}(r:KV kvs vs)(k:κ):RelO (valV kvs k) (valueAt vs k):=by
 unfold KV at r
 induction r with
 | nil=>exact True.intro
 | @cons p q ps qs h t ih =>
  obtain ⟨h1,h2⟩:=h
  by_cases e:p.1=k
  ·have e':q.1=k:=h1.symm.trans e
   have b:valueAt (q :: qs) k=some q.2:=by simp [valueAt,List.find?_cons,e']
   rw [valV_pos e,b]; exact h2
  ·have e':¬ q.1=k:=λ z=>e (h1.trans z)
   have b:valueAt (q :: qs) k=valueAt qs k:=by simp [valueAt,List.find?_cons,e']
   rw [valV_neg e,b]; exact ih
theorem KV.any {kvs:List (κ×V)}{vs:List (κ×Value)}(r:KV kvs vs)(k:κ):(kvs.any λ kv=>decide (kv.1=k))=vs.any λ kv=>decide (kv.1=k):=by
 unfold KV at r
 induction r with
 | nil=>rfl
 | cons h t ih=>rw [List.any_cons,List.any_cons,ih,h.1]
theorem KV.repl {kvs:List (κ×V)}{vs:List (κ×Value)}(r:KV kvs vs)(k:κ){y:V}{u:Value}(ry:RelV y u) :
  KV (kvs.map λ kv=>if kv.1=k then (kv.1,y) else kv) (vs.map λ kv=>if kv.1=k then (kv.1,u) else kv):=by
 unfold KV at r ⊢
 induction r with
 | nil=>exact .nil
 | @cons p q ps qs h t ih =>
  rw [List.map_cons,List.map_cons]
  refine .cons ?_ ih
  obtain ⟨h1,h2⟩:=h
  by_cases e:p.1=k
  ·rw [if_pos e,if_pos (h1.symm.trans e)]; exact ⟨h1,ry⟩
  ·rw [if_neg e,if_neg (λ z=>e (h1.trans z))]; exact ⟨h1,h2⟩
theorem KV.put {kvs:List (κ×V)}{vs:List (κ×Value)}(r:KV kvs vs)(k:κ){y:V}{u:Value}(ry:RelV y u):KV (putK kvs k y) (stored vs k u):=by
 unfold putK stored
 rw [r.any k]
 by_cases e:(vs.any λ kv=>decide (kv.1=k))=true
 ·rw [if_pos e,if_pos e]; exact r.repl k ry
 ·rw [if_neg e,if_neg e]; exact Paired.snoc r ⟨rfl,ry⟩
theorem KV.drop {kvs:List (κ×V)}{vs:List (κ×Value)}(r:KV kvs vs)(k:κ):KV (dropK kvs k) (without vs k):=by
 unfold KV at r ⊢
 unfold dropK without
 induction r with
 | nil=>exact .nil
 | @cons p q ps qs h t ih =>
  obtain ⟨h1,h2⟩:=h
  rw [List.filter_cons,List.filter_cons]
  by_cases e:p.1=k
  ·have a:¬ decide (p.1≠k)=true:=by simp [e]
   have b:¬ decide (q.1≠k)=true:=by simp [h1.symm.trans e]
   rw [if_neg a,if_neg b]; exact ih
  ·have e':¬ q.1=k:=λ z=>e (h1.trans z)
   have a:decide (p.1≠k)=true:=by simp [e]
   have b:decide (q.1≠k)=true:=by simp [e']
   rw [if_pos a,if_pos b]; exact .cons ⟨h1,h2⟩ ih
theorem KV.keys {kvs:List (κ×V)}{vs:List (κ×Value)}(r:KV kvs vs):kvs.map (·.1)=vs.map (·.1):=by
 unfold KV at r
 induction r with
 | nil=>rfl
 | cons h t ih=>rw [List.map_cons,List.map_cons,ih,h.1]
theorem KV.length {kvs:List (κ×V)}{vs:List (κ×Value)}(r:KV kvs vs):kvs.length=vs.length:=Paired.length r
end
theorem kV_is {P:Program}{w:World}{k:Key}{u:Value}(r:RelV (kV k) u):(mixKind P w).is k u=true:=by
 cases k with
 | inl i=>obtain ⟨t,e⟩:=(show ∃ t,u=Value.int i t from r); subst e; exact mixKind_int P w i t
 | inr x=>obtain ⟨t,e⟩:=(show ∃ t,u=Value.str x t from r); subst e; exact mixKind_str P w x t
theorem items_are {P:Program}{w:World}:∀ {ks:List Key} {us:List Value},Vals (ks.map kV) us->ItemsAre (mixKind P w) ks us
 | [],_,r=>by rw [List.map_nil] at r; cases r; exact .nil
 | k :: ks,_,r=>by
  rw [List.map_cons] at r
  cases r with
  | cons h t=>exact .cons (kV_is h) (items_are t)
noncomputable abbrev KT (H:Hp):List (List Key×V)->List (List Key×Addr×Value)->Prop:=Paired λ p q=>p.1=q.1/\H q.2.1=some (.tup (p.1.map kV))/\RelV p.2 q.2.2
theorem KT.val {H:Hp}{kvs:List (List Key×V)}{xs:List (List Key×Addr×Value)}(r:KT H kvs xs)(k:List Key):RelO (valV kvs k) ((atKey xs k).map (·.2)):=by
 induction r with
 | nil=>exact True.intro
 | @cons p q ps qs h t ih =>
  obtain ⟨h1,_,h2⟩:=h
  by_cases e:p.1=k
  ·have e':q.1=k:=h1.symm.trans e
   have b:atKey (q :: qs) k=some q.2:=by simp [atKey,List.find?_cons,e']
   rw [valV_pos e,b]; exact h2
  ·have e':¬ q.1=k:=λ z=>e (h1.trans z)
   have b:atKey (q :: qs) k=atKey qs k:=by simp [atKey,List.find?_cons,e']
   rw [valV_neg e,b]; exact ih
theorem KT.repl {H:Hp}{kvs:List (List Key×V)}{xs:List (List Key×Addr×Value)}(r:KT H kvs xs)(k:List Key){y:V}{u:Value}(ry:RelV y u) :
  KT H (kvs.map λ kv=>if kv.1=k then (kv.1,y) else kv) (xs.map (putAt k u)):=by
 induction r with
 | nil=>exact .nil
 | @cons p q ps qs h t ih =>
  rw [List.map_cons,List.map_cons]
  refine .cons ?_ ih
  obtain ⟨h1,h2,h3⟩:=h
  unfold putAt
  by_cases e:p.1=k
  ·rw [if_pos e,if_pos (h1.symm.trans e)]; exact ⟨h1,h2,ry⟩
  ·rw [if_neg e,if_neg (λ z=>e (h1.trans z))]; exact ⟨h1,h2,h3⟩
theorem KT.put {H:Hp}{kvs:List (List Key×V)}{xs:List (List Key×Addr×Value)}(r:KT H kvs xs)(k:List Key){b:Addr}{y:V}{u:Value}(hb:H b=some (.tup (k.map kV)))(ry:RelV y u) :
  KT H (putK kvs k y) (storedH xs k b u):=by
 have e:(kvs.any λ kv=>decide (kv.1=k))=(atKey xs k).isSome:=by
  rw [valV_any,(r.val k).isSome_eq,Option.isSome_map]
 unfold putK storedH
 rw [e]
 by_cases q:(atKey xs k).isSome=true
 ·rw [if_pos q,if_pos q]; exact r.repl k ry
 ·rw [if_neg q,if_neg q]; exact Paired.snoc r ⟨rfl,hb,ry⟩
theorem KT.keeps {H H':Hp}{kvs:List (List Key×V)}{xs:List (List Key×Addr×Value)}(r:KT H kvs xs)(ht:∀ b ys,H b=some (.tup ys)->H' b=some (.tup ys)):KT H' kvs xs :=
 Paired.mapP r λ _ _ z=>⟨z.1,ht _ _ z.2.1,z.2.2⟩
section
variable {P:Program}{w:World}{H:Hp}{h:Heap}{a:Addr}
theorem rd_of {u:HO}(ok:HOk P w H h)(e:Rd H a u):ObjOk P w H h a u:=e.ok ok
theorem dk_rd {kvs:List (Key×V)}(ok:HOk P w H h)(e:Rd H a (.dK kvs)):kvs.length<=sizeLine/\(a == sysModules)=false/\∃ vs,KV kvs vs/\h.DictOf (mixKind P w) a vs :=
 show ObjOk P w H h a (.dK kvs) from rd_of ok e
theorem dk_of {kvs:List (Key×V)}(ok:HOk P w H h)(e:H a=some (.dK kvs)):kvs.length<=sizeLine/\(a == sysModules)=false/\∃ vs,KV kvs vs/\h.DictOf (mixKind P w) a vs:=dk_rd ok (.inl e)
theorem key_of {ks:List Key}(ok:HOk P w H h)(e:H a=some (.tup (ks.map kV))):(tupleKind (mixKind P w)).is h ks a:=by
 obtain ⟨_,its,r,o,h1,h2,_,n,h3⟩:=(show ObjOk P w H h a (.tup (ks.map kV)) from ok a _ e)
 exact ⟨o,its.toArray,n,h1,h2,h3,by simpa using items_are r⟩
theorem dt_rd {kvs:List (List Key×V)}(ok:HOk P w H h)(e:Rd H a (.dT kvs)):kvs.length<=sizeLine/\(a == sysModules)=false /\
  ∃ xs,KT H kvs xs/\h.DictOfH (tupleKind (mixKind P w)) a xs:=by
 obtain ⟨z,y,xs,r,o,es,ep,h1,h2,h3,h4,h5⟩:=(show ObjOk P w H h a (.dT kvs) from rd_of ok e)
 refine ⟨z,y,xs,r,o,es,ep,h1,h2,h3,h4,λ x hx=>?_,h5⟩
 have all:∀ {l:List (List Key×V)} {m:List (List Key×Addr×Value)},KT H l m->∀ x∈m,(tupleKind (mixKind P w)).is h x.1 x.2.1:=by
  intro l m q
  induction q with
  | nil=>intro x hx; exact nomatch hx
  | @cons p q ps qs hq t ih =>
   intro x hx
   rcases List.mem_cons.mp hx with e | hx
   ·subst e
    exact key_of ok (by rw [<- hq.1]; exact hq.2.1)
   ·exact ih x hx
 exact all r x hx
end
noncomputable def DGet (H:Hp)(a:Addr)(y:V)(r:Option V):Prop :=
 (∃ kvs k,Rd H a (.dK kvs)/\y=kV k/\r=valV kvs k)\/∃ kvs k b,Rd H a (.dT kvs)/\y=.ref b/\H b=some (.tup (k.map kV))/\r=valV kvs k
noncomputable def DPut (H:Hp)(a:Addr)(y v:V)(H':Hp):Prop :=
 (∃ kvs k,H a=some (.dK kvs)/\y=kV k/\kvs.length < sizeLine/\H'=upd H a (.dK (putK kvs k v))) \/
 ∃ kvs k b,H a=some (.dT kvs)/\y=.ref b/\H b=some (.tup (k.map kV))/\kvs.length < sizeLine/\H'=upd H a (.dT (putK kvs k v))
theorem DGet.k {H:Hp}{a:Addr}{kvs:List (Key×V)}{k:Key}(e:H a=some (.dK kvs)):DGet H a (kV k) (valV kvs k):=.inl ⟨kvs,k,.inl e,rfl,rfl⟩
theorem DGet.t {H:Hp}{a b:Addr}{kvs:List (List Key×V)}{k:List Key}(e:H a=some (.dT kvs))(eb:H b=some (.tup (k.map kV))):DGet H a (.ref b) (valV kvs k):=.inr ⟨kvs,k,b,.inl e,rfl,eb,rfl⟩
theorem DPut.k {H:Hp}{a:Addr}{kvs:List (Key×V)}{k:Key}{v:V}(e:H a=some (.dK kvs))(hl:kvs.length < sizeLine):DPut H a (kV k) v (upd H a (.dK (putK kvs k v))):=.inl ⟨kvs,k,e,rfl,hl,rfl⟩
theorem DPut.t {H:Hp}{a b:Addr}{kvs:List (List Key×V)}{k:List Key}{v:V}(e:H a=some (.dT kvs))(eb:H b=some (.tup (k.map kV)))(hl:kvs.length < sizeLine) :
  DPut H a (.ref b) v (upd H a (.dT (putK kvs k v))):=.inr ⟨kvs,k,b,e,rfl,eb,hl,rfl⟩
section
variable {X:Cx}{pins:List (Addr×Obj)}{σ:St}{H:Hp}{s:Shared}{a:Addr}{y v:V}{u r:Value}{o:Option V}{A:Around}{E:Value->Shared->Prop}
theorem Inv.big (I:Inv X pins σ H s):sysModules < s.heap.objs.size:=by
 have h:mainGlobals < s.heap.objs.size:=(I.mod.glob.keeps I.bk).lt
 exact Nat.lt_trans (by decide) h
theorem d_write {h':Heap}{t':Nat}{ob:HO}(I:Inv X pins σ H s)(mu:Mut (H a))(hs:Heap.SameBut a s.heap h')(he:∃ q,h'.get? a=some q)(new:ObjOk X.prog X.w (upd H a ob) h' a ob) :
  Inv X pins σ (upd H a ob) { s with heap:=h',toks:=t' } :=
 I.write (x:=a) (e:=a) mu (.inl rfl) (λ b q hb z=>(hs.2 b hb).trans z) he new
theorem dk_new {P:Program}{w:World}{H':Hp}{h':Heap}{kvs:List (Key×V)}{vs:List (Key×Value)}(z:kvs.length<=sizeLine)(hd:(a == sysModules)=false)(rel:KV kvs vs)(dd:h'.DictOf (mixKind P w) a vs) :
  ObjOk P w H' h' a (.dK kvs):=⟨z,hd,vs,rel,dd⟩
end
section
variable {X:Cx}{pins:List (Addr×Obj)}{σ:St}{H:Hp}{s:Shared}{a:Addr}{kvs:List (Key×V)}{k:Key}{u:Value}{A:Around}{E:Value->Shared->Prop}
end
noncomputable def NoSl (i:Expr):Prop:=∀ ov iv,subscripted i false ov iv=operate [ov,iv] (getItem ov iv)
theorem subD_of {prog:Program}{w:World}{A:Around}{E:Value->Shared->Prop}{s:Shared}{env:Env}{value slice:Expr}{pos:Pos}{T id:String}{Q:Value->Shared->Prop}
  (hl:typeLookup (.type T) "__getitem__" = pure (some (.builtin id)))(hs:NoSl slice)
  (h:wpAny (model prog w) A (eval value env) (λ o s₁=>wpAny (model prog w) A (eval slice env) (λ i s₂=>s₂.TypeIs o T/\wpAny (model prog w) A (getItem o i) Q E s₂) E s₁) E s) :
  wpAny (model prog w) A (eval (.Subscript value slice pos) env) Q E s:=by
 refine Subscript_ (wpAny_mono h (λ o s₁ h₁=>wpAny_mono h₁ (λ i s₂ h₂=>?_) λ _ _ x=>x) λ _ _ x=>x)
 obtain ⟨hT,h₂⟩:=h₂
 unfold subscriptTail
 refine wpAny_bind ?_
 rw [getitemInPython_of_ne hT.not_modules]
 refine wpAny_bind (wpAny_specialOf hT hl ?_)
 have fin:wpAny (model prog w) A (subscripted slice false o i) (λ r s₃=>wpAny (model prog w) A (letTemporaryGo value o r >>= λ _=>pure r) Q E s₃) E s₂:=by
  rw [hs o i]
  exact wpAny_operating (wpAny_mono h₂ (λ r s₃ h₃=>wpAny_bind (wpAny_letTemporaryGo (wpAny_pure h₃))) λ _ _ x=>x)
 first
  | exact wpAny_pure (wpAny_bind fin)
  | exact wpAny_bind (wpAny_pure (wpAny_bind fin))
  | exact wpAny_bind fin
section
variable {X:Cx}{o i e value:Expr}{pos pos' tpos:Pos}{td ty tv:TE}
end
theorem dk_empty {P:Program}{w:World}{H:Hp}(h:Heap)(hb:sysModules < h.objs.size):ObjOk P w H (h.push { cls:=.type "dict",data:=.dict #[] }) h.objs.size (.dK []) :=
 ⟨Nat.zero_le _,beq_eq_false_iff_ne.mpr (Ne.symm (Nat.ne_of_lt hb)),[],.nil,Heap.DictOf.new h⟩
noncomputable def tDNewK:TE:=λ _ H Q=>∀ p,H p=none->Q (.ref p) (upd H p (.dK []))
section
variable {X:Cx}{pos:Pos}
theorem pe_dnewK:PE X (.Dict [] [] pos) tDNewK:=λ pins s σ H Q I h =>
 wpAny_Dict_empty ⟨.ref s.heap.objs.size,_,I.laid (a:=s.heap.objs.size) (o:=.dK []) (t':=s.toks) (λ _ _ q=>Heap.get?_push_of_some _ q) (Nat.le_refl _) (dk_empty s.heap I.big),rfl,h _ (I.hok.fresh (Nat.le_refl _))⟩
end
noncomputable def tPairs:List (TE×TE)->St->Hp->(List (V×V)->Hp->Prop)->Prop
 | [],_,H,Q=>Q [] H
 | (tk,tv) :: r,σ,H,Q=>tk σ H λ x H1=>tv σ H1 λ y H2=>tPairs r σ H2 λ ps H3=>Q ((x,y) :: ps) H3
noncomputable abbrev VV:List (V×V)->List (Value×Value)->Prop:=Paired λ p q=>RelV p.1 q.1/\RelV p.2 q.2
noncomputable def PPs (X:Cx)(pos:Pos)(keys:List (Option Expr))(values:List Expr)(trs:List (TE×TE)):Prop :=
 ∀ (pins:List (Addr×Obj)) (s:Shared) (σ:St) (H:Hp) (Q:List (V×V)->Hp->Prop),Inv X pins σ H s->tPairs trs σ H Q ->
  wpAny (model X.prog X.w) X.A (evalPairs (pairTrees keys values X.env pos)) (λ vs s'=>∃ ps H',Inv X pins σ H' s'/\VV ps vs/\Q ps H') X.xe s
theorem pps_nil {X:Cx}{pos:Pos}:PPs X pos [] [] []:=λ pins s σ H Q I h=>pairTrees_nil_walk ⟨[],H,I,.nil,h⟩
theorem pps_cons {X:Cx}{pos:Pos}{k v:Expr}{ks:List (Option Expr)}{vs:List Expr}{tk tv:TE}{trs:List (TE×TE)}(hk:PE X k tk)(hv:PE X v tv)(hr:PPs X pos ks vs trs) :
  PPs X pos (some k :: ks) (v :: vs) ((tk,tv) :: trs):=λ pins s σ H Q I h =>
 pairTrees_cons_walk (thn (hk pins s σ H _ I h) λ u s1 ⟨x,H1,I1,rx,q1⟩=>thn (hv pins s1 σ H1 _ I1 q1) λ w2 s2 ⟨y,H2,I2,ry,q2⟩ =>
  thn (hr pins s2 σ H2 _ I2 q2) λ ws s3 ⟨ps,H3,I3,rel,q3⟩=>⟨(x,y) :: ps,H3,I3,.cons ⟨rx,ry⟩ rel,q3⟩)
noncomputable def mergeK (kvs more:List (Key×V)):List (Key×V):=more.foldl (λ acc kv=>putK acc kv.1 kv.2) kvs
theorem KV.merge:∀ {more:List (Key×V)} {rs:List (Key×Value)} {kvs:List (Key×V)} {vs:List (Key×Value)},KV more rs->KV kvs vs->KV (mergeK kvs more) (merged vs rs):=by
 intro more rs kvs vs r
 unfold KV at r
 induction r generalizing kvs vs with
 | nil=>intro q; exact q
 | @cons p q ps qs h t ih =>
  intro r0
  have e:KV (putK kvs p.1 p.2) (stored vs q.1 q.2):=by
   have:=r0.put p.1 h.2
   rw [<- h.1]; exact this
  exact ih e
theorem length_mergeK:∀ (more kvs:List (Key×V)),(mergeK kvs more).length<=kvs.length+more.length
 | [],kvs=>by show kvs.length<=kvs.length+0; omega
 | p :: r,kvs=>by
  have h1:=length_mergeK r (putK kvs p.1 p.2)
  have h2:=length_putK kvs p.1 p.2
  show (mergeK (putK kvs p.1 p.2) r).length<=_
  rw [List.length_cons]; omega
theorem carries_of {P:Program}{w:World}:∀ {kvs:List (Key×V)} {ws:List (Value×Value)},VV (kvs.map λ kv=>(kV kv.1,kv.2)) ws->∃ rs,Carries (mixKind P w) ws rs/\KV kvs rs
 | [],_,r=>by rw [List.map_nil] at r; cases r; exact ⟨[],True.intro,.nil⟩
 | p :: kvs,_,r=>by
  rw [List.map_cons] at r
  cases r with
  | @cons a b as bs h t =>
   obtain ⟨rs,c,q⟩:=carries_of (P:=P) (w:=w) t
   obtain ⟨b1,b2⟩:=b
   exact ⟨(p.1,b2) :: rs,⟨kV_is h.1,rfl,c⟩,.cons ⟨rfl,h.2⟩ q⟩
noncomputable def tDisp (trs:List (TE×TE)):TE:=λ σ H Q=>∀ p,H p=none->tPairs trs σ (upd H p (.dK [])) λ ps H2=>H2 p=some (.dK [])/\∃ kvs:List (Key×V),ps=kvs.map (λ kv=>(kV kv.1,kv.2))/\kvs.length<=15/\Q (.ref p) (upd H2 p (.dK (mergeK [] kvs)))
theorem pe_disp {X:Cx}{pos:Pos}{keys:List (Option Expr)}{values:List Expr}{trs:List (TE×TE)}(h:PPs X pos keys values trs)(hall:keys.all (·.isSome)=true)(hl:keys.length=values.length)(h0:keys≠[])
  (h15:keys.length<=15):PE X (.Dict keys values pos) (tDisp trs):=by
 intro pins s σ H Q I q
 have hn:=I.hok.fresh (Nat.le_refl s.heap.objs.size)
 have I1:=I.laid (a:=s.heap.objs.size) (o:=.dK []) (h':=s.heap.push { cls:=.type "dict",data:=.dict #[] }) (t':=s.toks) (λ _ _ q=>Heap.get?_push_of_some _ q) (Nat.le_refl _) (dk_empty s.heap I.big)
 refine wpAny_Dict_walk (knd:=mixKind X.prog X.w) hall hl h0 h15 (thn (h pins _ σ _ _ I1 (q _ hn)) λ ws s2 hq23=>?_)
 obtain ⟨ps,H2,I2,rel,e,kvs,ep,lk,q2⟩:=hq23
 subst ep
 obtain ⟨rs,c,rk⟩:=carries_of (P:=X.prog) (w:=X.w) rel
 obtain ⟨z,hd,vs0,r0,dd⟩:=dk_of I2.hok e
 cases r0
 refine ⟨rs,c,dd,λ h' dd' hs=>⟨.ref s.heap.objs.size,_,?_,rfl,q2⟩⟩
 have hz:(mergeK [] kvs).length<=sizeLine:=by
  have h1:=length_mergeK kvs []
  rw [List.length_nil] at h1
  rw [sizeLine_eq]; omega
 have he:∃ q,h'.get? s.heap.objs.size=some q:=let ⟨q,_,_,hq,_⟩:=dd'; ⟨q,hq⟩
 exact d_write I2 (by rw [e]; exact True.intro) hs he (dk_new hz hd (rk.merge .nil) dd')
structure M1 (X:Cx)(o:Expr)(m:Str)(apos:Pos)(e:Expr)(cpos:Pos):Prop where
 base:attributeBase o m X.env (eval o X.env)=eval o X.env
 few:((backTo cpos (starEach [e] X.env)).all (λ x=>!x.1) && (backToKw cpos (keywordEach [] X.env)).all (λ x=>x.1.isSome)
  && decide (([e]:List Expr).length+([]:List Keyword).length+(if ([]:List Keyword).isEmpty then 0 else 1) < 30))=true
 line:(apos.endLine == cpos.line)=true
 trees:backTo cpos (starEach [e] X.env)=[(false,eval e X.env)]
structure M2 (X:Cx)(o:Expr)(m:Str)(apos:Pos)(e f:Expr)(cpos:Pos):Prop where
 base:attributeBase o m X.env (eval o X.env)=eval o X.env
 few:((backTo cpos (starEach [e,f] X.env)).all (λ x=>!x.1) && (backToKw cpos (keywordEach [] X.env)).all (λ x=>x.1.isSome)
  && decide (([e,f]:List Expr).length+([]:List Keyword).length+(if ([]:List Keyword).isEmpty then 0 else 1) < 30))=true
 line:(apos.endLine == cpos.line)=true
 trees:backTo cpos (starEach [e,f] X.env)=[(false,eval e X.env),(false,eval f X.env)]
noncomputable def IsD (H:Hp)(a:Addr):Prop:=(∃ kvs,Rd H a (.dK kvs))\/∃ kvs,Rd H a (.dT kvs)
section
variable {X:Cx}{pins:List (Addr×Obj)}{σ:St}{H:Hp}{s:Shared}{a:Addr}{y d:V}{u r:Value}{o:Option V}{A:Around}{E:Value->Shared->Prop}
end
section
variable {X:Cx}{o e f:Expr}{apos cpos:Pos}{td ty tx:TE}
end
section
variable {X:Cx}{pins:List (Addr×Obj)}{σ:St}{H:Hp}{s:Shared}{a:Addr}{kvs:List (Key×V)}{A:Around}{E:Value->Shared->Prop}
end
section
variable {X:Cx}{pins:List (Addr×Obj)}{σ:St}{H:Hp}{s:Shared}{a:Addr}{y:V}{u:Value}{A:Around}{E:Value->Shared->Prop}
end
end L2
set_option maxHeartbeats 0
namespace L2
open PySem PySem.Spec PyProof.Rows
noncomputable def Fz:HO->Prop
 | .lst _=>True
 | .dK _=>True
 | _=>False
section
variable {X:Cx}{pins:List (Addr×Obj)}{σ:St}{H:Hp}{s:Shared}{p:Addr}{u:HO}
theorem un_frz {fs ex:List Addr}{h:Heap}{o:Obj}(e:H p=some u)(f:Fz u):Un fs ex H (upd H p (.frz o u)) h h where
 keep:=λ b ob q _ _ _=>q
 slot:=λ b ob q _ _ _=>⟨ob.slots,q⟩
 free:=λ b ob _ n _=>by rw [upd_ne (Ne.symm (ne_of_none e n))]; exact n
 there:=λ b ob q _=>⟨ob,q⟩
 tups:=λ b xs q=>by
  have:b≠p:=λ z=>by subst z; rw [e] at q; cases q; exact f
  rw [upd_ne this]; exact q
 frzs:=λ b ob v q=>by
  have:b≠p:=λ z=>by subst z; rw [e] at q; cases q; exact f
  rw [upd_ne this]; exact q
 tbls:=λ b ps q=>by
  have:b≠p:=λ z=>by subst z; rw [e] at q; cases q; exact f
  exact ⟨#[],by rw [upd_ne this,q]; simp⟩
theorem ObjOk.anyH {P:Program}{w:World}{H H':Hp}{h:Heap}{a:Addr}(f:Fz u)(x:ObjOk P w H h a u):ObjOk P w H' h a u:=by
 cases u with
 | lst xs=>exact x
 | dK kvs=>exact x
 | _=>exact f.elim
theorem ObjOk.obj {P:Program}{w:World}{H:Hp}{h:Heap}{a:Addr}(f:Fz u)(x:ObjOk P w H h a u):∃ o,h.get? a=some o:=by
 cases u with
 | lst xs=>obtain ⟨_,_,_,_,e⟩:=x; exact ⟨_,e⟩
 | dK kvs=>obtain ⟨_,_,_,_,o,_,_,e,_⟩:=x; exact ⟨o,e⟩
 | _=>exact f.elim
theorem Inv.freeze (I:Inv X pins σ H s)(e:H p=some u)(f:Fz u):∃ o,Inv X pins σ (upd H p (.frz o u)) s:=by
 obtain ⟨o,ho⟩:=(I.hok p u e).obj f
 refine ⟨o,I.un (h':=s.heap) (t':=s.toks) (un_frz e f) λ b v q=>?_⟩
 by_cases hb:b=p
 ·subst hb
  rw [upd_same] at q
  cases q
  exact ⟨ho,(I.hok b u e).anyH f⟩
 ·rw [upd_ne hb] at q
  refine (I.hok b v q).stay (λ _ _ _ q=>q) (λ c r=>?_) λ c xs r=>?_
  ·have:c≠p:=λ z=>by subst z; rw [e] at r; cases r; exact f
   rw [upd_ne this]; exact r
  ·have:c≠p:=λ z=>by subst z; rw [e] at r; cases r; exact f
   rw [upd_ne this]; exact r
noncomputable def tFrz (t:TE):TE:=λ σ H Q=>t σ H λ v H1=>∃ p u,v=.ref p/\H1 p=some u/\Fz u/\∀ o,Q v (upd H1 p (.frz o u))
theorem pe_frz {e:Expr}{t:TE}(h:PE X e t):PE X e (tFrz t):=by
 intro pins s σ H Q I hq
 refine thn (h pins s σ H _ I hq) λ v s1 hq24=>?_
 obtain ⟨x,H1,I1,r1,p,u,e1,e2,f,q⟩:=hq24
 obtain ⟨o,I2⟩:=I1.freeze e2 f
 exact ⟨x,_,I2,r1,q o⟩
theorem Inv.track {D:Addr}{ys:List V}{us:List Value}{n:Nat}(I:Inv X pins σ H s)(e:s.heap.get? D=some { cls:=.type "list",data:=.seq us.toArray n })(hn:H D=none)(hv:Vals ys us)(hz:ys.length<=sizeLine)
  (h0:X.s₀.heap.objs.size<=D)(hL:D≠X.env.locals)(hc:∀ x c,X.env.cells.lookup x=some c->c≠D)(hp:∀ p∈X.pn++pins,p.1≠D):Inv X pins σ (upd H D (.lst ys)) s:=by
 have ne:∀ b u,H b=some u->b≠D:=λ b u q=>ne_of_none q hn
 refine I.step (h':=s.heap) (g':=s.gens) (d':=s.drawn) (t':=s.toks) (ch:=[D]) (λ b hb=>?_) (λ b o _ _ _ q _=>q) (λ b o _ _ _ q _=>⟨o.slots,q⟩) (λ b o hb q n=>?_) (λ b o _ q=>⟨o,q⟩)
  (λ b xs q=>by rw [upd_ne (ne b _ q)]; exact q) (λ b o u q=>by rw [upd_ne (ne b _ q)]; exact q) (λ b ps q=>⟨#[],by rw [upd_ne (ne b _ q),q]; simp⟩) (λ m hm=>hm) (λ b u q=>?_) I.bare
 ·have e:b=D:=by simpa using hb
  subst e
  exact ⟨.inr h0,hL,hc,hp⟩
 ·rw [upd_ne (λ z=>hb (by simp [z]))]; exact n
 ·by_cases hb:b=D
  ·subst hb
   rw [upd_same] at q
   cases q
   exact ⟨hz,us,n,hv,e⟩
  ·rw [upd_ne hb] at q
   exact (I.hok b u q).stay (λ _ _ _ q=>q) (λ c r=>by rw [upd_ne (ne c _ r)]; exact r) λ c xs r=>by rw [upd_ne (ne c _ r)]; exact r
end
section
variable {prog:Program}{w:World}{A:Around}{E:Value->Shared->Prop}{R:Result->Shared->Prop}{s:Shared}
noncomputable abbrev testsOf (ifs:List Expr)(env:Env):Sem Bool:=forIn ifs true λ c r=>if r=true then do let ok <- isTrue c env (eval c env); pure (ForInStep.yield ok) else pure (ForInStep.yield r)
theorem compLoop_own {elt target iter:Expr}{ifs:List Expr}{scope:Scope}{pos:Pos}{it acc:Value}{env:Env}(I:Nat->Shared->Prop)
  (turn:∀ n s,I n s->wpAny (model prog w) A (pyNext it) (λ r s₁=>match r with
   | none=>R (.ok .next) s₁
   | some v=>wpAny (model prog w) A (letOwnedTupleGo target it v) (λ _ s₁'=>wpAny (model prog w) A (assign target env v) (λ _ s₂ =>
     wpAny (model prog w) A (testsOf ifs env) (λ ok s₃ =>
      if ok=true then wpAny (model prog w) A (eval elt env) (λ x s₄ =>
       wpAny (model prog w) A (call (.builtin "list.append") [acc,x]) (λ _ s₅=>∃ m,m < n/\I m s₅) (λ _ _=>False) s₄) (λ _ _=>False) s₃
      else ∃ m,m < n/\I m s₃) (λ _ _=>False) s₂) (λ _ _=>False) s₁') (λ _ _=>False) s₁) (λ _ _=>False) s)
  (n:Nat)(h:I n s) :
  codeAny (model prog w) A (.compLoop (.ListComp elt [⟨target,iter,ifs,0⟩] scope pos) 0 it acc env) R s:=by
 refine codeAny_loop rfl I (λ n s hI=>?_) n h
 show wpAny _ A ((compTurn (.ListComp elt [⟨target,iter,ifs,0⟩] scope pos) 0 it acc env).onRaise (λ x=>do noteFrame x env; theTreesLotGoes x)) _ _ s
 refine wpAny_noted ?_
 rw [compTurn_list]
 refine wpAny_bind (wpAny_standAt (wpAny_bind (wpAny_mono (turn n s hI) (λ r s₁ h₁=>?_) λ _ _ h'=>h'.elim)))
 cases r with
 | none=>exact wpAny_pure h₁
 | some v =>
  refine wpAny_bind (wpAny_mono h₁ (λ _ s₁' h₁'=>?_) λ _ _ h'=>h'.elim)
  refine wpAny_bind (wpAny_mono h₁' (λ _ s₂ h₂=>wpAny_bind (wpAny_mono h₂ (λ ok s₃ h₃=>?_) λ _ _ h'=>h'.elim)) λ _ _ h'=>h'.elim)
  cases ok with
  | false=>exact wpAny_pure ⟨rfl,h₃⟩
  | true =>
   exact wpAny_bind (wpAny_bind (wpAny_mono h₃ (λ x s₄ h₄=>wpAny_bind (wpAny_mono h₄ (λ _ s₅ h₅=>wpAny_pure (wpAny_pure ⟨rfl,h₅⟩)) λ _ _ h'=>h'.elim)) λ _ _ h'=>h'.elim))
end
theorem closure_some {scope:Scope}{env:Env}(h:∀ x∈scope.names,x.2=.free->∃ c,env.cells.lookup x.1=some c) :
  ∃ cl,closureFor scope env=pure cl/\(∀ n c,cl.lookup n=some c->env.cells.lookup n=some c)/\(∀ n,(n,NameKind.free)∈scope.names->∃ c,cl.lookup n=some c):=by
 have key:∀ (l:List (Str×NameKind)) (cs:List (Str×Addr)),(∀ x∈l,x.2=.free->∃ c,env.cells.lookup x.1=some c)->(∀ n c,cs.lookup n=some c->env.cells.lookup n=some c) ->
   ∃ cl:List (Str×Addr),(forIn l cs λ x r=>match x with
    | (name,kind)=>if (kind == NameKind.free)=true then do let a <- cellOf env name; pure (ForInStep.yield ((name,a) :: r)) else pure (ForInStep.yield r):Sem (List (Str×Addr)))=pure cl /\
    (∀ n c,cl.lookup n=some c->env.cells.lookup n=some c)/\(∀ n c,cs.lookup n=some c->∃ c,cl.lookup n=some c)/\(∀ n,(n,NameKind.free)∈l->∃ c,cl.lookup n=some c):=by
  intro l
  induction l with
  | nil=>intro cs _ hc; exact ⟨cs,rfl,hc,λ n c e=>⟨c,e⟩,λ n hn=>nomatch hn⟩
  | cons x l ih =>
   intro cs hl hc
   obtain ⟨name,kind⟩:=x
   by_cases hk:kind=.free
   ·subst hk
    obtain ⟨c,e⟩:=hl (name,.free) List.mem_cons_self rfl
    obtain ⟨cl,h1,h2,h3,h4⟩:=ih ((name,c) :: cs) (λ y hy=>hl y (List.mem_cons_of_mem _ hy)) (λ n d q=>by
     rw [List.lookup_cons] at q
     cases hb:n == name with
     | true =>
      rw [hb] at q
      cases q
      rw [eq_of_beq hb]; exact e
     | false =>
      rw [hb] at q
      exact hc n d q)
    refine ⟨cl,?_,h2,λ n d q=>?_,λ n hn=>?_⟩
    ·rw [List.forIn_cons]
     simp only [beq_self_eq_true,if_true,cellOf,e,pure_bind]
     exact h1
    ·cases hb:n == name with
     | true=>exact h3 n c (by rw [List.lookup_cons,hb])
     | false=>exact h3 n d (by rw [List.lookup_cons,hb]; exact q)
    ·rcases List.mem_cons.mp hn with z | z
     ·cases z
      exact h3 name c (by rw [List.lookup_cons]; simp)
     ·exact h4 n z
   ·obtain ⟨cl,h1,h2,h3,h4⟩:=ih cs (λ y hy=>hl y (List.mem_cons_of_mem _ hy)) hc
    refine ⟨cl,?_,h2,h3,λ n hn=>?_⟩
    ·rw [List.forIn_cons]
     have:(kind == NameKind.free)=false:=by simpa using hk
     simp only [this,Bool.false_eq_true,if_false,pure_bind]
     exact h1
    ·rcases List.mem_cons.mp hn with z | z
     ·cases z; exact absurd rfl hk
     ·exact h4 n z
 obtain ⟨cl,h1,h2,_,h4⟩:=key scope.names [] h (λ n c e=>by simp at e)
 refine ⟨cl,?_,h2,h4⟩
 unfold closureFor
 simp only [bind_pure]
 exact h1
theorem relabel_free {sc:Scope}{env:Env}{x:Str}:∀ {names:List (Str×NameKind)},(names.map λ (n,k)=>if (k == NameKind.free && env.scope.kind == .function && env.kindOf n == some .cell) then (n,NameKind.cell) else (n,k)).lookup x=some .cell \/
  (names.map λ (n,k)=>if (k == NameKind.free && env.scope.kind == .function && env.kindOf n == some .cell) then (n,NameKind.cell) else (n,k)).lookup x=some .free->(∀ y∈names,y.2 ≠ .cell)->(x,NameKind.free)∈names
 | [],h,_=>by simp at h
 | (n,k) :: r,h,hc=>by
  have ih:=@relabel_free sc env x r
  by_cases hk:(k == NameKind.free && env.scope.kind == .function && env.kindOf n == some .cell)=true
  ·simp only [List.map_cons,if_pos hk,List.lookup_cons] at h
   cases hx:x == n with
   | true =>
    have e:=eq_of_beq hx
    subst e
    simp only [Bool.and_eq_true] at hk
    have:=eq_of_beq hk.1.1
    subst this
    exact List.mem_cons_self
   | false =>
    rw [hx] at h
    exact List.mem_cons_of_mem _ (ih h λ y hy=>hc y (List.mem_cons_of_mem _ hy))
  ·simp only [List.map_cons,if_neg hk,List.lookup_cons] at h
   cases hx:x == n with
   | true =>
    rw [hx] at h
    have e:=eq_of_beq hx
    subst e
    rcases h with h | h
    ·cases h; exact absurd rfl (hc (x,.cell) List.mem_cons_self)
    ·cases h; exact List.mem_cons_self
   | false =>
    rw [hx] at h
    exact List.mem_cons_of_mem _ (ih h λ y hy=>hc y (List.mem_cons_of_mem _ hy))
theorem relabel_lookup_free {env:Env}{x:Str}:∀ {names:List (Str×NameKind)},names.lookup x=some .free ->
  (names.map λ (n,k)=>if (k == NameKind.free && env.scope.kind == .function && env.kindOf n == some .cell) then (n,NameKind.cell) else (n,k)).lookup x=some .cell \/
  (names.map λ (n,k)=>if (k == NameKind.free && env.scope.kind == .function && env.kindOf n == some .cell) then (n,NameKind.cell) else (n,k)).lookup x=some .free
 | [],h=>by simp at h
 | (n,k) :: r,h=>by
  have ih:=@relabel_lookup_free env x r
  by_cases hk:(k == NameKind.free && env.scope.kind == .function && env.kindOf n == some .cell)=true
  ·simp only [List.map_cons,if_pos hk,List.lookup_cons]
   cases hx:x == n with
   | true=>exact .inl rfl
   | false=>rw [List.lookup_cons,hx] at h; exact ih h
  ·simp only [List.map_cons,if_neg hk,List.lookup_cons]
   cases hx:x == n with
   | true=>rw [List.lookup_cons,hx] at h; exact .inr h
   | false=>rw [List.lookup_cons,hx] at h; exact ih h
noncomputable def blk (X:Cx)(sc:Scope)(N':List Str)(cl:List (Str×Addr))(C:Addr)(s:Shared)(H:Hp)(ex:List Addr)(pins:List (Addr×Obj)):Cx :=
 {X with N:=N',s₀:=s,H₀:=H,env:=compEnvC sc cl C X.env,outer:=X.stack,ex:=ex,fn:=λ _=>false,pn:=X.pn++pins,xe:=λ _ _=>False }
noncomputable def lcN (X:Cx)(own:List Str)(fr:List Nat):List Str:=own++fr.map λ j=>X.N.getD j Str.empty
noncomputable def lcS (k:Nat)(fr:List Nat)(σ:St):St:=List.replicate k none++fr.map λ j=>(σ[j]?).getD none
noncomputable def frOk (N:List Str)(sc:Scope)(fr:List Nat):Bool:=fr.all λ j=>match N[j]? with
 | some x=>sc.names.lookup x == some .free
 | none=>false
structure LcOk (X:Cx)(sc:Scope)(own:List Str)(fr:List Nat):Prop where
 kind:sc.kind=.function
 cell:∀ y∈sc.names,y.2 ≠ .cell
 free:∀ y∈sc.names,y.2=.free->(X.env.kindOf y.1=some .cell\/X.env.kindOf y.1=some .free)
 names:∀ y∈sc.names,y.2=.local->sc.names.lookup y.1=some .local
 fr:frOk X.N sc fr=true
noncomputable def PTs (X:Cx)(ifs:List Expr)(t:TT):Prop :=
 ∀ (pins:List (Addr×Obj)) (s:Shared) (σ:St) (H:Hp) (Q:Bool->Hp->Prop),Inv X pins σ H s->t σ H Q->wpAny (model X.prog X.w) X.A (testsOf ifs X.env) (TP X pins σ Q) X.xe s
noncomputable def tYes:TT:=λ _ H Q=>Q true H
theorem pts_nil {X:Cx}:PTs X [] tYes:=λ _ _ _ H _ I h=>wpAny_tests_nil ⟨H,I,h⟩
theorem pts_one {X:Cx}{c:Expr}{t:TT}(h:PT X c t):PTs X [c] t:=λ pins s σ H Q I q=>wpAny_tests_one (h pins s σ H Q I q)
section
variable {X:Cx}{pins:List (Addr×Obj)}{σ:St}{H:Hp}{s:Shared}{sc:Scope}{own:List Str}{fr:List Nat}{cl:List (Str×Addr)}{fp:List Addr}{C D:Addr}{s1:Shared}
theorem frOk_get {N:List Str}{sc:Scope}{fr:List Nat}(h:frOk N sc fr=true){j:Nat}(hj:j∈fr):∃ x,N[j]? = some x/\sc.names.lookup x=some .free:=by
 have q:=List.all_eq_true.mp h j hj
 cases e:N[j]? with
 | none=>simp [e] at q
 | some x =>
  simp only [e] at q
  exact ⟨x,rfl,eq_of_beq q⟩
theorem blk_ok (L:LcOk X sc own fr)(I:Inv X pins σ H s)(hf:∀ b∈fp,FpOk X pins H b)(hb:∀ b∈fp,b < s.heap.objs.size)(hC:s.heap.objs.size<=C)
  (c1:∀ n c,cl.lookup n=some c->X.env.cells.lookup n=some c)(c2:∀ n,(n,NameKind.free)∈sc.names->∃ c,cl.lookup n=some c):(blk X sc (lcN X own fr) cl C s H fp pins).Ok where
 mod:=I.ok.mod
 kind:=L.kind
 glob:=I.ok.glob
 blt:=I.ok.blt
 above:=hC
 inj:=λ x y c a b=>I.ok.inj x y c (c1 _ _ a) (c1 _ _ b)
 has:=λ x hx=>c2 x (relabel_free (sc:=sc) (env:=X.env) hx L.cell)
 cab:=λ x c z=>absurd (show false=true from z) Bool.false_ne_true
 hd:=I.ok.hd
 frames:=I.ok.frames
 stk:=.inl rfl
 exf:=λ b z=>⟨Nat.ne_of_lt (Nat.lt_of_lt_of_le (hb b z) hC),λ x c e=>(hf b z).2.2.2.2.1 x c (c1 _ _ e)⟩
 bs:=I.bs
 bsz:=Nat.le_trans I.ok.bsz I.sz
 noex:=λ b o e z=>by
  rcases (hf b z).2.2.2.1 with q | q
  ·exact I.ok.noex b o e q
  ·exact absurd (Nat.lt_of_lt_of_le (Heap.lt_size e) (Nat.le_trans I.ok.bsz q)) (Nat.lt_irrefl _)
 exfs:=λ b z q=>by
  rcases List.mem_cons.mp (I.stkSub b q) with e | e
  ·exact (hf b z).2.1 e
  ·exact (hf b z).2.2.1 e
 funs:=I.stack
 frf:=I.stkFree
theorem blk_inv (L:LcOk X sc own fr)(I:Inv X pins σ H s)(hf:∀ b∈fp,FpOk X pins H b)(hb:∀ b∈fp,b < s.heap.objs.size)(hC:s.heap.objs.size<=C)
  (c1:∀ n c,cl.lookup n=some c->X.env.cells.lookup n=some c)(c2:∀ n,(n,NameKind.free)∈sc.names->∃ c,cl.lookup n=some c)
  {h1:Heap}{tk:Nat}{m:Str->Option Value}(hn:h1.Ns C m)(k:∀ b o,s.heap.get? b=some o->h1.get? b=some o) :
  Inv (blk X sc (lcN X own fr) cl C s H fp pins) [] (lcS own.length fr σ) H { s with heap:=h1,toks:=tk }:=by
 have ok:=blk_ok L I hf hb hC c1 c2
 refine ⟨ok,rfl,I.bare,Un.kept k,⟨m,hn,λ i x v e1 e2 e3=>?_⟩,λ x c e=>?_,I.hok.fresh hC,λ x c e=>I.freeC x c (c1 _ _ e),λ p hp=>?_,I.hok.kept k,?_⟩
 ·-- one of the names around
  have hi:¬ i < own.length:=λ hi=>by
   unfold lcS at e2
   rw [List.getElem?_append_left (by simpa using hi),List.getElem?_replicate] at e2
   split at e2 <;> cases e2
  have e1':(lcN X own fr)[i]? = some x:=e1
  unfold lcN at e1'
  unfold lcS at e2
  rw [List.getElem?_append_right (by omega),List.getElem?_map] at e1'
  rw [List.getElem?_append_right (by simpa using hi),List.getElem?_map,List.length_replicate] at e2
  cases q:fr[i - own.length]? with
  | none=>rw [q] at e1'; cases e1'
  | some j =>
   rw [q] at e1' e2
   obtain ⟨y,hy,hyf⟩:=frOk_get L.fr (List.mem_of_getElem? q)
   have ex:y=x:=by
    have:=Option.some.inj e1'
    rw [<- this]
    simp [List.getD,hy]
   subst ex
   have ev:σ[j]? = some (some v):=by
    have z:(σ[j]?).getD none=some v:=Option.some.inj e2
    cases w:σ[j]? with
    | none=>rw [w] at z; cases z
    | some o=>rw [w] at z; exact congrArg some z
   have hm:(y,NameKind.free)∈sc.names:=PySem.mem_of_lookup hyf
   have hk:=L.free _ hm rfl
   have vis:Vis X.env.scope y:=by
    rcases hk with z | z
    ·exact .inr (.inl z)
    ·exact .inr (.inr z)
   obtain ⟨m0,hn0,hl⟩:=I.loc
   obtain ⟨u,r,l⟩:=hl j y v hy ev vis
   refine ⟨u,r,.inr ⟨?_,?_⟩⟩
   ·exact relabel_lookup_free (env:=X.env) hyf
   ·obtain ⟨c,hc⟩:=c2 y hm
    rcases l with ⟨z,_⟩ | ⟨_,c',hc',hcell⟩
    ·rcases hk with q | q
     ·exact absurd (show X.env.kindOf y=some .local from z) (by rw [q]; decide)
     ·exact absurd (show X.env.kindOf y=some .local from z) (by rw [q]; decide)
    ·have:c=c':=Option.some.inj ((c1 _ _ hc).symm.trans hc')
     subst this
     obtain ⟨o,ho,hd⟩:=hcell
     exact ⟨c,hc,o,k _ _ ho,hd⟩
 ·obtain ⟨v,o,ho,hd⟩:=I.cell x c (c1 _ _ e)
  exact ⟨v,o,k _ _ ho,hd⟩
 ·have hp':p∈X.pn++pins:=by simpa [blk] using hp
  obtain ⟨a1,a2,a3,a4,a5⟩:=I.pin p hp'
  refine ⟨k _ _ a1,a2,Nat.ne_of_lt (Nat.lt_of_lt_of_le (Heap.lt_size a1) hC),λ q=>?_,a5⟩
  rcases List.mem_cons.mp (I.stkSub _ q) with e | e
  ·exact a3 e
  ·exact a4 e
 ·show (lcS own.length fr σ).length=(lcN X own fr).length
  simp [lcS,lcN]
end
noncomputable abbrev LcW:=Nat->Nat->List V->St->Hp->Prop
noncomputable def lcStep (J:It)(g:TG)(tt:TT)(te:TE)(W:LcW)(Fin:List V->Hp->Prop):Prop:=∀ i m ys τ H,W i m ys τ H ->
 (J.stop i H/\Fin ys H)\/(J.go i H/\ys.length < sizeLine/\∀ x H',J.yld i H x H'->g x τ H' λ τ2 H2=>tt τ2 H2 λ b H3 =>
  if b=true then te τ2 H3 λ y H4=>∃ m',m' < m/\W (i+1) m' (ys++[y]) τ2 H4 else ∃ m',m' < m/\W (i+1) m' ys τ2 H3)
section
variable {X:Cx}{pins:List (Addr×Obj)}{σ:St}{H:Hp}{s:Shared}{sc:Scope}{own:List Str}{fr:List Nat}{cl:List (Str×Addr)}{fp:List Addr}{it:Addr}{J:It}{tn:Nat->Heap->Prop}{g:TG}{tt:TT}{te:TE}{W:LcW}{Fin:List V->Hp->Prop}
 {elt tg iter:Expr}{ifs:List Expr}{pos:Pos}{E:Value->Shared->Prop}
theorem lc_core {RR:Value->Addr->Result->Shared->Prop}(hc:X.calm=true)(L:LcOk X sc own fr)(hcl1:∀ n c,cl.lookup n=some c->X.env.cells.lookup n=some c)(hcl2:∀ n,(n,NameKind.free)∈sc.names->∃ c,cl.lookup n=some c)
  (hg:∀ C s H ex pl,PG (blk X sc (lcN X own fr) cl C s H ex pl) tg g)(ht:∀ C s H ex pl,PTs (blk X sc (lcN X own fr) cl C s H ex pl) ifs tt)(he:∀ C s H ex pl,PE (blk X sc (lcN X own fr) cl C s H ex pl) elt te)
  (I:Inv X pins σ H s)(T:Turn X.prog X.w X.K tg J fp it tn)(st:tn 0 s.heap)(hf:∀ b∈fp,FpOk X pins H b)(w0:∃ m,W 0 m [] (lcS own.length fr σ) H)(turn:lcStep J g tt te W Fin)
  (hRR:∀ (D C:Addr) (s':Shared) (H':Hp) (ys:List V) (us:List Value) (n:Nat) (m:Str->Option Value),Inv X pins σ H' s'->s'.heap.get? D=some { cls:=.type "list",data:=.seq us.toArray n }->Vals ys us->ys.length<=sizeLine->H' D=none->H' C=none ->
   s.heap.objs.size<=D->s.heap.objs.size<=C->D≠C->s'.heap.Ns C m->Fin ys H'->RR (.ref D) C (.ok .next) s') :
  wpAny (model X.prog X.w) X.A (newList []) (λ acc s₃=>wpAny (model X.prog X.w) X.A (newFunctionEnv sc X.env.globals cl [] X.env.qual none .none (some X.env)) (λ cenv s₄ =>
   codeAny (model X.prog X.w) X.A (.compStart (.ListComp elt [⟨tg,iter,ifs,0⟩] sc pos) 0 (.ref it) acc { cenv with scope:=relabel sc X.env }) (RR acc cenv.locals) s₄) E s₃) E s:=by
 refine wpAny_newObj_type (wpAny_newFunctionEnv L.cell (by intro y hy; simp at hy) (λ h₁ hns₁ hsb₁=>?_) L.kind)
 dsimp only at hns₁ hsb₁ ⊢
 generalize hH2:s.heap.push { cls:=.type "list",dict:=none,data:=.seq ([]:List Value).toArray }=H2 at hns₁ hsb₁ ⊢
 have hCs:H2.objs.size=s.heap.objs.size+1:=by rw [<- hH2,Heap.size_push]
 have hD0:s.heap.objs.size≠H2.objs.size:=by rw [hCs]; exact Nat.ne_of_lt (Nat.lt_succ_self _)
 have hCle:s.heap.objs.size<=H2.objs.size:=by rw [hCs]; exact Nat.le_succ _
 have below:∀ b,b < s.heap.objs.size->b≠H2.objs.size/\b≠s.heap.objs.size:=λ b hb=>⟨by rw [hCs]; exact Nat.ne_of_lt (Nat.lt_succ_of_lt hb),Nat.ne_of_lt hb⟩
 have old:∀ b o,s.heap.get? b=some o->h₁.get? b=some o:=λ b o e=>hsb₁.extBut b o (below b (Heap.lt_size e)).1 (Heap.get?_push_of_some _ (hH2 ▸ Heap.get?_push_of_some _ e))
 have hacc:h₁.get? s.heap.objs.size=some { cls:=.type "list",data:=.seq ([]:List Value).toArray 0 }:=hsb₁.extBut _ _ hD0 (Heap.get?_push_of_some _ (hH2 ▸ Heap.get?_push_size _ rfl))
 have hfb:∀ b∈fp,b < s.heap.objs.size:=λ b hb=>by
  obtain ⟨o,e,_⟩:=T.obj 0 _ st b hb
  exact Heap.lt_size e
 have I1:Inv (blk X sc (lcN X own fr) cl H2.objs.size s H fp pins) [] (lcS own.length fr σ) H { s with heap:=h₁,toks:=s.toks+([]:List (Str×Value)).length }:=blk_inv L I hf hfb hCle hcl1 hcl2 hns₁ old
 have st1:tn 0 h₁:=T.keep 0 _ _ st λ b _ o e=>old b o e
 generalize hY:blk X sc (lcN X own fr) cl H2.objs.size s H fp pins=Y at I1
 have hYp:Y.prog=X.prog:=by rw [<- hY]; rfl
 have hYw:Y.w=X.w:=by rw [<- hY]; rfl
 have hYK:Y.K=X.K:=by rw [<- hY]; rfl
 have hYA:Y.A=X.A:=by rw [<- hY]; rfl
 have hYc:Y.calm=true:=by rw [<- hY]; exact hc
 have hYe:Y.env=compEnvC sc cl H2.objs.size X.env:=by rw [<- hY]; rfl
 have hYx:Y.xe=λ _ _=>False:=by rw [<- hY]; rfl
 have hYpn:Y.pn=X.pn++pins:=by rw [<- hY]; rfl
 have hYs:Y.s₀=s:=by rw [<- hY]; rfl
 have hYH:Y.H₀=H:=by rw [<- hY]; rfl
 have hYex:Y.ex=fp:=by rw [<- hY]; rfl
 have hYfs:Y.fs=frs X.stack:=by rw [<- hY]; rfl
 have gY:=hg H2.objs.size s H fp pins
 have tY:=ht H2.objs.size s H fp pins
 have eY:=he H2.objs.size s H fp pins
 rw [hY] at gY tY eY
 have D_pin:∀ p∈Y.pn++([]:List (Addr×Obj)),p.1≠s.heap.objs.size:=λ p hp=>by
  rw [hYpn,List.append_nil] at hp
  exact (below _ (Heap.lt_size (I.pin p hp).1)).2
 have D_cell:∀ x c,Y.env.cells.lookup x=some c->c≠s.heap.objs.size:=λ x c e=>by
  rw [hYe] at e
  obtain ⟨v,z⟩:=I.cell x c (hcl1 _ _ e)
  exact (below _ z.lt).2
 have D_loc:s.heap.objs.size≠Y.env.locals:=by rw [hYe]; exact hD0
 have D_fs:s.heap.objs.size ∉ Y.fs:=by
  rw [hYfs]
  intro z
  rcases List.mem_cons.mp (I.stkSub _ z) with e | e
  ·exact absurd I.lt (by rw [<- e]; exact Nat.lt_irrefl _)
  ·exact I.nofs (Nat.le_refl _) e
 have fpY:∀ {H':Hp} (pl:List (Addr×Obj)),(∀ b∈fp,H' b=none)->(∀ p∈pl,p.1=s.heap.objs.size)->∀ b∈fp,FpOk Y pl H' b:=λ {H'} pl hn hp b hb=>by
  obtain ⟨_,f1,f2,f3,f4,f5⟩:=hf b hb
  refine ⟨hn b hb,by rw [hYe]; exact (below b (hfb b hb)).1,?_,.inl (by rw [hYex]; exact hb),λ x c e=>?_,λ p q=>?_⟩
  ·rw [hYfs]
   intro z
   rcases List.mem_cons.mp (I.stkSub _ z) with e | e
   ·exact f1 e
   ·exact f2 e
  ·rw [hYe] at e
   exact f4 x c (hcl1 _ _ e)
  ·rcases List.mem_append.mp q with z | z
   ·rw [hYpn] at z
    exact f5 p z
   ·rw [hp p z]
    exact Ne.symm (below b (hfb b hb)).2
 have loop:∀ s₃:Shared,s₃={ s with heap:=h₁,toks:=s.toks+([]:List (Str×Value)).length } ->
   codeAny (model X.prog X.w) X.A (.compLoop (.ListComp elt [⟨tg,iter,ifs,0⟩] sc pos) 0 (.ref it) (.ref s.heap.objs.size) (compEnvC sc cl H2.objs.size X.env)) (RR (.ref s.heap.objs.size) H2.objs.size) s₃:=by
  rintro s₃ rfl
  obtain ⟨m0,w0⟩:=w0
  refine compLoop_own (λ n s'=>∃ i ys τ H' us k,Inv Y [] τ H' s'/\tn i s'.heap/\(∀ b∈fp,H' b=none)/\H' s.heap.objs.size=none/\s'.heap.get? s.heap.objs.size=some { cls:=.type "list",data:=.seq us.toArray k }/\Vals ys us/\ys.length<=sizeLine/\W i n ys τ H') ?_ m0
   ⟨0,[],_,H,[],0,I1,st1,λ b hb=>(hf b hb).1,I.hok.fresh (Nat.le_refl _),hacc,.nil,Nat.zero_le _,w0⟩
  rintro n s' ⟨i,ys,τ,H',us,k,I',st',hn',hD',ha',hv',hz',w'⟩
  have Ip:Inv Y [(s.heap.objs.size,{ cls:=.type "list",data:=.seq us.toArray k })] τ H' s':=I'.pins_of λ p hp=>by
   have e:p=(s.heap.objs.size,{ cls:=.type "list",data:=.seq us.toArray k }):=by simpa using hp
   subst e
   exact ⟨ha',hD',D_loc,D_fs,λ v z=>nomatch (show Data.seq _ _=Data.cell v from z)⟩
  have onlyD:∀ p∈[((s.heap.objs.size,{ cls:=.type "list",data:=.seq us.toArray k }):Addr×Obj)],p.1=s.heap.objs.size:=λ p hp=>by
   have e:p=(s.heap.objs.size,{ cls:=.type "list",data:=.seq us.toArray k }):=by simpa using hp
   subst e
   rfl
  rcases turn i n ys τ H' w' with ⟨stop,fin⟩ | ⟨go,hlen,step⟩
  ·have q:=T.done Y hYp hYw hYK hYc i _ s' τ H' (λ _ _=>False) Ip (fpY _ hn' onlyD) st' stop
   rw [hYA] at q
   refine thn q λ r s4 hq25=>?_
   obtain ⟨hr,I4⟩:=hq25
   subst hr
   have un:Un (frs X.stack) fp H H' s.heap s4.heap:=by
    have z:=I4.base
    rw [hYfs,hYex,hYH,hYs] at z
    exact z
   have os4:s4.os=s.os:=by
    have z:=I4.os
    rw [hYs] at z
    exact z
   have hok4:HOk X.prog X.w H' s4.heap:=by
    have z:=I4.hok
    rw [hYp,hYw] at z
    exact z
   have hch:∀ b∈fp,(b∈X.ex\/X.s₀.heap.objs.size<=b)/\b≠X.env.locals/\(∀ x c,X.env.cells.lookup x=some c->c≠b)/\∀ p∈X.pn++pins,p.1≠b:=λ b hb=>by
    obtain ⟨_,f1,f2,f3,f4,f5⟩:=hf b hb
    exact ⟨f3,f1,f4,f5⟩
   have IX:Inv X pins σ H' s4:=I.call' os4 un hok4 I4.bare hch
   obtain ⟨mC,hmC,_⟩:=I4.loc
   have hCf:=I4.free
   rw [hYe] at hmC hCf
   have pD:=I4.pin (s.heap.objs.size,{ cls:=.type "list",data:=.seq us.toArray k }) (List.mem_append_right _ (List.mem_singleton.mpr rfl))
   exact hRR _ _ s4 H' ys us k mC IX pD.1 hv' hz' pD.2.1 hCf (Nat.le_refl _) hCle hD0 hmC fin
  ·have q:=T.item Y hYp hYw hYK hYc i _ s' τ H' (λ _ _=>False) Ip (fpY _ hn' onlyD) st' go
   rw [hYA] at q
   refine thn q λ r s4 hq26=>?_
   obtain ⟨u,hr,h4⟩:=hq26
   subst hr
   refine thn h4 λ _ s5 hq27=>?_
   obtain ⟨x,H5,I5,r5,y5,st5,fr5⟩:=hq27
   have I5':=I5.pinned (fpY _ fr5 onlyD) (T.obj _ _ st5)
   have g5:=gY _ s5 τ H5 x u _ I5' r5 (step x H5 y5)
   rw [hYp,hYw,hYA,hYe,hYx] at g5
   refine thn g5 λ _ s6 hq28=>?_
   obtain ⟨σ6,H6,I6,q6⟩:=hq28
   have t6:=tY _ s6 σ6 H6 _ I6 q6
   rw [hYp,hYw,hYA,hYe,hYx] at t6
   refine thn t6 λ ok s7 hq29=>?_
   obtain ⟨H7,I7,q7⟩:=hq29
   have keepD:∀ {σ8:St} {H8:Hp} {s8:Shared},Inv Y ([(s.heap.objs.size,{ cls:=.type "list",data:=.seq us.toArray k })]++pinsAt fp s5.heap) σ8 H8 s8->s8.heap.get? s.heap.objs.size=some { cls:=.type "list",data:=.seq us.toArray k }/\H8 s.heap.objs.size=none :=
    λ {σ8 H8 s8} I8=>by
     have pD:=I8.pin (s.heap.objs.size,{ cls:=.type "list",data:=.seq us.toArray k }) (List.mem_append_right _ (List.mem_append_left _ (List.mem_singleton.mpr rfl)))
     exact ⟨pD.1,pD.2.1⟩
   have keepI:∀ {σ8:St} {H8:Hp} {s8:Shared},Inv Y ([(s.heap.objs.size,{ cls:=.type "list",data:=.seq us.toArray k })]++pinsAt fp s5.heap) σ8 H8 s8->tn (i+1) s8.heap/\∀ b∈fp,H8 b=none :=
    λ {σ8 H8 s8} I8=>by
     refine ⟨T.keep _ _ _ st5 λ b hb o e=>(I8.pin (b,o) (List.mem_append_right _ (List.mem_append_right _ (mem_pinsAt hb e)))).1,λ b hb=>?_⟩
     obtain ⟨o,e,d⟩:=T.obj _ _ st5 b hb
     exact (I8.pin (b,o) (List.mem_append_right _ (List.mem_append_right _ (mem_pinsAt hb e)))).2.1
   cases ok with
   | false =>
    rw [if_neg Bool.false_ne_true] at q7 ⊢
    obtain ⟨m',hm',w7⟩:=q7
    obtain ⟨a7,b7⟩:=keepD I7
    obtain ⟨c7,d7⟩:=keepI I7
    exact ⟨m',hm',i+1,ys,σ6,H7,us,k,I7.pins_of (λ p hp=>(nomatch hp)),c7,d7,b7,a7,hv',hz',w7⟩
   | true =>
    rw [if_pos rfl] at q7 ⊢
    have e7:=eY _ s7 σ6 H7 _ I7 q7
    rw [hYp,hYw,hYA,hYe,hYx] at e7
    refine thn e7 λ v s8 hq30=>?_
    obtain ⟨y,H8,I8,r8,m',hm',w8⟩:=hq30
    obtain ⟨a8,b8⟩:=keepD I8
    obtain ⟨c8,d8⟩:=keepI I8
    have hl:=hv'.length
    refine call_meets F.slot_list_append ⟨_,a8,rfl⟩ F.entry_list_append (F.args_list_append_2 _ _) (PySem.list_append s.heap.objs.size us.toArray k v (by rw [List.size_toArray]; omega)) ⟨a8,?_⟩
    have qu:=PySem.IsL.update a8 (λ xs=>xs.push v)
    have I9:=(I8.pins_of (pins':=[]) λ p hp=>nomatch hp).turned (it:=s.heap.objs.size) (t':=s8.toks) (h':=s8.heap.update s.heap.objs.size (Obj.mapSeq λ xs=>xs.push v)) (λ b o hb e=>(Heap.get?_update_other s8.heap _ (Ne.symm hb)).trans e) b8 D_loc (.inr (by rw [hYs]; exact Nat.le_refl _)) D_cell D_pin
    have ep:us.toArray.push v=(us++[v]).toArray:=by simp
    rw [ep] at qu
    refine ⟨m',hm',i+1,ys++[y],σ6,H8,us++[v],(if (us++[v]).toArray.size == us.toArray.size then k else k+1),I9,T.keep _ _ _ c8 λ b hb o e=>(Heap.get?_update_other s8.heap _ (Ne.symm (below b (hfb b hb)).2)).trans e,d8,b8,?_,hv'.append (.cons r8 .nil),?_,w8⟩
    ·exact qu
    ·rw [List.length_append,List.length_singleton]; omega
 exact codeAny_compStart_list (loop _ rfl) (T.self _ 0 _ _ _ st1 (loop _ rfl))
noncomputable def tLC (wi:TI)(g:TG)(tt:TT)(te:TE)(k:Nat)(fr:List Nat):TE:=λ σ H Q=>wi σ H λ J H1=>∃ W:LcW,(∃ m,W 0 m [] (lcS k fr σ) H1)/\lcStep J g tt te W λ ys H2=>∀ p,H2 p=none->Q (.ref p) (upd H2 p (.lst ys))
theorem lc_closure (L:LcOk X sc own fr)(ok:X.Ok):∃ cl,closureFor sc X.env=pure cl/\(∀ n c,cl.lookup n=some c->X.env.cells.lookup n=some c)/\(∀ n,(n,NameKind.free)∈sc.names->∃ c,cl.lookup n=some c) :=
 closure_some λ x hx hf=>ok.has x.1 (L.free x hx hf)
theorem pe_lc {wi:TI}(hc:X.calm=true)(L:LcOk X sc own fr)(hi:PI X tg iter wi)
  (hg:∀ cl C s H ex pl,PG (blk X sc (lcN X own fr) cl C s H ex pl) tg g)(ht:∀ cl C s H ex pl,PTs (blk X sc (lcN X own fr) cl C s H ex pl) ifs tt)(he:∀ cl C s H ex pl,PE (blk X sc (lcN X own fr) cl C s H ex pl) elt te)
  (hs:∀ x,foldedSetIterable iter X.env x=pure x:=by intro _; rfl):PE X (.ListComp elt [⟨tg,iter,ifs,0⟩] sc pos) (tLC wi g tt te own.length fr):=by
 intro pins s σ H Q I h
 obtain ⟨cl,hcl,c1,c2⟩:=lc_closure L I.ok
 rw [eval_ListComp]
 refine wpAny_comprehension_free (use:=none) (g:=⟨tg,iter,ifs,0⟩) (gs:=[]) rfl hs hcl L.kind L.names ?_
 refine thn (hi pins s σ H _ I h) λ v s1 h1=>thn h1 λ itv s2 h2=>?_
 obtain ⟨it,fp,tn,J,H2,e,I2,T,st2,f2,W,w0,turn⟩:=h2
 subst e
 refine lc_core (cl:=cl) hc L c1 c2 (hg cl) (ht cl) (he cl) I2 T st2 f2 w0 turn λ D C s' H' ys us n m I' a' hv hz hD hC dD dC hDC hns fin=>?_
 refine ⟨m,hns,λ h' sb=>?_⟩
 have far:∀ b,s2.heap.objs.size<=b->(X.s₀.heap.objs.size<=b)/\b≠X.env.locals/\(∀ x c,X.env.cells.lookup x=some c->c≠b)/\∀ p∈X.pn++pins,p.1≠b:=λ b hb=>by
  obtain ⟨_,f1,_,f3,f4,f5⟩:=I2.fpOk (H':=λ _=>none) hb rfl
  refine ⟨Nat.le_trans I2.sz hb,f1,f4,f5⟩
 obtain ⟨z1,z2,z3,z4⟩:=far C dC
 obtain ⟨y1,y2,y3,y4⟩:=far D dD
 have I3:Inv X pins σ H' { s' with heap:=h' }:=I'.turned (t':=s'.toks) (λ b o hb e=>sb.extBut b o hb e) hC z2 (.inr z1) z3 z4
 exact ⟨.ref D,_,I3.track (sb.extBut _ _ hDC a') hD hv hz y1 y2 y3 y4,rfl,fin D hD⟩
theorem ps_setLC {wi:TI}{i:Nat}{x:Str}{pos' spos:Pos}(hN:X.N.Nodup)(hi':X.N[i]? = some x)(hx:Loc X.env.scope x)(hc:X.calm=true)(L:LcOk X sc own fr)(hi:PI X tg iter wi)
  (hg:∀ cl C s H ex pl,PG (blk X sc (lcN X own fr) cl C s H ex pl) tg g)(ht:∀ cl C s H ex pl,PTs (blk X sc (lcN X own fr) cl C s H ex pl) ifs tt)(he:∀ cl C s H ex pl,PE (blk X sc (lcN X own fr) cl C s H ex pl) elt te)
  (hsw:swapsWith (.ListComp elt [⟨tg,iter,ifs,0⟩] sc pos) (some (.Name x pos')) spos.line X.env=pure true:=by rfl)
  (hs:∀ x,foldedSetIterable iter X.env x=pure x:=by intro _; rfl)(hf:X.fn x=true\/X.env.scope.names.lookup x=some .local:=by first | exact .inl rfl | exact .inr rfl | assumption) :
  PS X (.Assign [.Name x pos'] (.ListComp elt [⟨tg,iter,ifs,0⟩] sc pos) spos) (tAsg (tLC wi g tt te own.length fr) (gName i)):=by
 intro pins s σ H D' I h
 obtain ⟨cl,hcl,c1,c2⟩:=lc_closure L I.ok
 rw [exec_Assign_Name_used _ _ _ _ hsw]
 refine wpAny_bind (wpAny_standAt (wpAny_bind ?_))
 show wpAny _ _ (evalThenUse (.ListComp elt [⟨tg,iter,ifs,0⟩] sc pos) X.env (assign (.Name x pos') X.env)) _ _ _
 unfold evalThenUse
 refine wpAny_bind ?_
 refine wpAny_comprehension_free (use:=some (assign (.Name x pos') X.env)) (g:=⟨tg,iter,ifs,0⟩) (gs:=[]) rfl hs hcl L.kind L.names ?_
 refine thn (hi pins s σ H _ I h) λ v s1 h1=>thn h1 λ itv s2 h2=>?_
 obtain ⟨it,fp,tn,J,H2,e,I2,T,st2,f2,W,w0,turn⟩:=h2
 subst e
 refine lc_core (cl:=cl) hc L c1 c2 (hg cl) (ht cl) (he cl) I2 T st2 f2 w0 turn λ D C s' H' ys us n m I' a' hv hz hD hC dD dC hDC hns fin=>?_
 have far:∀ b,s2.heap.objs.size<=b->(X.s₀.heap.objs.size<=b)/\b≠X.env.locals/\(∀ x c,X.env.cells.lookup x=some c->c≠b)/\(b ∉ X.fs)/\∀ p∈X.pn++pins,p.1≠b:=λ b hb=>by
  obtain ⟨_,f1,f2,f3,f4,f5⟩:=I2.fpOk (H':=λ _=>none) hb rfl
  refine ⟨Nat.le_trans I2.sz hb,f1,f4,f2,f5⟩
 obtain ⟨z1,z2,z3,z0,z4⟩:=far C dC
 obtain ⟨y1,y2,y3,_,y4⟩:=far D dD
 have I3:=I'.track a' hD hv hz y1 y2 y3 y4
 obtain ⟨oC,hoC,nsC⟩:∃ o,s'.heap.get? C=some o/\∃ es ep,o.data=.dict es ep:=by
  obtain ⟨o,es,ep,e1,e2,_⟩:=hns
  exact ⟨o,e1,es,ep,e2⟩
 have hCt:(upd H' D (.lst ys)) C=none:=by rw [upd_ne (Ne.symm hDC)]; exact hC
 have I4:Inv X (pins++[(C,oC)]) σ (upd H' D (.lst ys)) s':=I3.pins_of λ p hp=>by
  rcases List.mem_append.mp hp with z | z
  ·exact I3.pin p (List.mem_append_right _ z)
  ·have e:p=(C,oC):=by simpa using z
   subst e
   obtain ⟨es,ep,hd⟩:=nsC
   exact ⟨hoC,hCt,z2,z0,λ v z=>by have z':oC.data=.cell v:=z; rw [hd] at z'; cases z'⟩
 refine thn (pg_name (pos:=pos') hN hi' hx hf _ s' σ _ (.ref D) (.ref D) _ I4 rfl (fin D hD)) λ _ s5 hq31=>?_
 obtain ⟨σ5,H5,I5,q5⟩:=hq31
 have pC:=I5.pin (C,oC) (List.mem_append_right _ (List.mem_append_right _ (List.mem_singleton.mpr rfl)))
 obtain ⟨o,es,ep,e1,e2,e3⟩:=hns
 rw [hoC] at e1
 cases e1
 refine ⟨m,⟨oC,es,ep,pC.1,e2,e3⟩,λ h' sb=>?_⟩
 have I6:Inv X pins σ5 H5 { s5 with heap:=h' }:=(I5.unpinned).turned (t':=s5.toks) (λ b o hb e=>sb.extBut b o hb e) pC.2.1 z2 (.inr z1) z3 z4
 exact wpAny_pure (wpAny_pure ⟨σ5,H5,I6,q5⟩)
end
end L2
namespace D
open PySem PySem.Spec PyProof.Rows L2
noncomputable abbrev St:=L2.St
structure Kp (H H':Hp):Prop where
 tup:∀ b xs,H b=some (.tup xs)->H' b=some (.tup xs)
 frz:∀ b o u,H b=some (.frz o u)->H' b=some (.frz o u)
theorem Kp.refl (H:Hp):Kp H H:=⟨λ _ _ e=>e,λ _ _ _ e=>e⟩
theorem Kp.trans {H H1 H2:Hp}(a:Kp H H1)(b:Kp H1 H2):Kp H H2:=⟨λ c xs e=>b.tup c xs (a.tup c xs e),λ c o u e=>b.frz c o u (a.frz c o u e)⟩
theorem Kp.new {H:Hp}{p:Addr}{o:HO}(h:H p=none):Kp H (upd H p o):=⟨λ b xs e=>by rw [upd_ne (ne_of_none e h)]; exact e,λ b ob u e=>by rw [upd_ne (ne_of_none e h)]; exact e⟩
theorem Kp.set {H:Hp}{p:Addr}{o u:HO}(h:H p=some u)(ht:∀ xs,u ≠ .tup xs)(hf:∀ ob v,u ≠ .frz ob v):Kp H (upd H p o) :=
 ⟨λ b xs e=>by rw [upd_ne (ne_of e h λ z=>ht _ z.symm)]; exact e,λ b ob v e=>by rw [upd_ne (ne_of e h λ z=>hf _ _ z.symm)]; exact e⟩
theorem Kp.un {fs ex:List Addr}{H H':Hp}{h h':Heap}(u:Un fs ex H H' h h'):Kp H H':=⟨u.tups,u.frzs⟩
noncomputable def SqF (K:PySem.W.Frag)(H:Hp)(a:Addr)(xs:List V):Prop :=
 (∃ o,H a=some (.frz o (.lst xs)))\/∃ (o:Obj) (its:Array Value) (n:Nat),K.lookup a=some o/\o.cls=.type "list" /\ o.dict=none/\o.data=.seq its n/\its.size<=sizeLine/\Vals xs its.toList
theorem SqF.sq {K:PySem.W.Frag}{H:Hp}{a:Addr}{xs:List V}(h:SqF K H a xs):SqL K H a xs:=by
 rcases h with h | h
 ·exact .inl (.inr h)
 ·exact .inr h
theorem SqF.keep {K:PySem.W.Frag}{H H':Hp}{a:Addr}{xs:List V}(k:Kp H H')(h:SqF K H a xs):SqF K H' a xs:=by
 rcases h with ⟨o,h⟩ | h
 ·exact .inl ⟨o,k.frz _ _ _ h⟩
 ·exact .inr h
theorem SqT.keep {K:PySem.W.Frag}{H H':Hp}{a:Addr}{xs:List V}(k:Kp H H')(h:SqT K H a xs):SqT K H' a xs:=by
 rcases h with (h | ⟨o,h⟩) | h
 ·exact .inl (.inl (k.tup _ _ h))
 ·exact .inl (.inr ⟨o,k.frz _ _ _ h⟩)
 ·exact .inr h
noncomputable def keyD:Key->PyData
 | .inl i=>.int i
 | .inr x=>.str x
mutual
noncomputable def RepD (K:PySem.W.Frag)(H:Hp):PyData->V->Prop
 | .none,v=>v=.non
 | .bool b,v=>v=.bl b
 | .int i,v=>v=.int i
 | .str x,v=>v=.str x
 | .list ds,v=>∃ a vs,v=.ref a/\SqF K H a vs/\RepA K H ds vs
 | .tuple ds,v=>∃ a vs,v=.ref a/\SqT K H a vs/\RepA K H ds vs
 | .dict kvs,v=>∃ a o l,v=.ref a/\H a=some (.frz o (.dK l))/\RepK K H kvs l
noncomputable def RepA (K:PySem.W.Frag)(H:Hp):List PyData->List V->Prop
 | [],vs=>vs=[]
 | d :: ds,vs=>∃ v r,vs=v :: r/\RepD K H d v/\RepA K H ds r
noncomputable def RepK (K:PySem.W.Frag)(H:Hp):List (PyData×PyData)->List (Key×V)->Prop
 | [],l=>l=[]
 | (k,d) :: ds,l=>∃ key v r,l=(key,v) :: r/\k=keyD key/\RepD K H d v/\RepK K H ds r
end
mutual
theorem RepD.keep {K:PySem.W.Frag}{H H':Hp}(k:Kp H H'):∀ {d:PyData} {v:V},RepD K H d v->RepD K H' d v
 | .none,v,h=>by simp only [RepD] at h ⊢; exact h
 | .bool b,v,h=>by simp only [RepD] at h ⊢; exact h
 | .int i,v,h=>by simp only [RepD] at h ⊢; exact h
 | .str x,v,h=>by simp only [RepD] at h ⊢; exact h
 | .list ds,v,h=>by
  simp only [RepD] at h ⊢
  obtain ⟨a,vs,e,s,r⟩:=h
  exact ⟨a,vs,e,s.keep k,RepA.keep k r⟩
 | .tuple ds,v,h=>by
  simp only [RepD] at h ⊢
  obtain ⟨a,vs,e,s,r⟩:=h
  exact ⟨a,vs,e,SqT.keep k s,RepA.keep k r⟩
 | .dict kvs,v,h=>by
  simp only [RepD] at h ⊢
  obtain ⟨a,o,l,e,s,r⟩:=h
  exact ⟨a,o,l,e,k.frz _ _ _ s,RepK.keep k r⟩
theorem RepA.keep {K:PySem.W.Frag}{H H':Hp}(k:Kp H H'):∀ {ds:List PyData} {vs:List V},RepA K H ds vs->RepA K H' ds vs
 | [],vs,h=>by simp only [RepA] at h ⊢; exact h
 | d :: ds,vs,h=>by
  simp only [RepA] at h ⊢
  obtain ⟨v,r,e,h1,h2⟩:=h
  exact ⟨v,r,e,RepD.keep k h1,RepA.keep k h2⟩
theorem RepK.keep {K:PySem.W.Frag}{H H':Hp}(k:Kp H H'):∀ {ds:List (PyData×PyData)} {l:List (Key×V)},RepK K H ds l->RepK K H' ds l
 | [],l,h=>by simp only [RepK] at h ⊢; exact h
 | (key,d) :: ds,l,h=>by
  simp only [RepK] at h ⊢
  obtain ⟨k',v,r,e,ek,h1,h2⟩:=h
  exact ⟨k',v,r,e,ek,RepD.keep k h1,RepK.keep k h2⟩
end
theorem RepA.length {K:PySem.W.Frag}{H:Hp}:∀ {ds:List PyData} {vs:List V},RepA K H ds vs->vs.length=ds.length
 | [],vs,h=>by simp only [RepA] at h; rw [h]; rfl
 | d :: ds,vs,h=>by
  simp only [RepA] at h
  obtain ⟨v,r,e,_,h2⟩:=h
  rw [e,List.length_cons,List.length_cons,RepA.length h2]
theorem RepA.get {K:PySem.W.Frag}{H:Hp}:∀ {ds:List PyData} {vs:List V} {i:Nat} {d:PyData},RepA K H ds vs->ds[i]? = some d->∃ v,vs[i]? = some v/\RepD K H d v
 | [],_,_,_,_,e=>by simp at e
 | d :: ds,vs,0,d',h,e=>by
  simp only [RepA] at h
  obtain ⟨v,r,ev,h1,_⟩:=h
  simp at e
  subst e
  exact ⟨v,by rw [ev]; rfl,h1⟩
 | d :: ds,vs,i+1,d',h,e=>by
  simp only [RepA] at h
  obtain ⟨v,r,ev,_,h2⟩:=h
  obtain ⟨v',e1,e2⟩:=RepA.get (i:=i) h2 (by simpa using e)
  exact ⟨v',by rw [ev]; simpa using e1,e2⟩
theorem RepA.get' {K:PySem.W.Frag}{H:Hp}{ds:List PyData}{vs:List V}{i:Nat}{v:V}(h:RepA K H ds vs)(e:vs[i]? = some v):∃ d,ds[i]? = some d/\RepD K H d v:=by
 have hi:i < ds.length:=by
  have:=(List.getElem?_eq_some_iff.mp e).1
  rw [h.length] at this
  exact this
 obtain ⟨v',e1,r⟩:=h.get (i:=i) (d:=ds[i]) (by simp [hi])
 rw [e] at e1
 cases e1
 exact ⟨ds[i],by simp [hi],r⟩
theorem RepA.ints {K:PySem.W.Frag}{H:Hp}:∀ (ns:List Int),RepA K H (ns.map PyData.int) (ns.map V.int)
 | []=>by simp [RepA]
 | n :: ns=>by
  simp only [List.map_cons,RepA]
  exact ⟨_,_,rfl,by simp [RepD],RepA.ints ns⟩
theorem RepA.append {K:PySem.W.Frag}{H:Hp}:∀ {ds es:List PyData} {vs us:List V},RepA K H ds vs->RepA K H es us->RepA K H (ds++es) (vs++us)
 | [],es,vs,us,h,q=>by simp only [RepA] at h; subst h; exact q
 | d :: ds,es,vs,us,h,q=>by
  simp only [RepA] at h
  obtain ⟨v,r,e,h1,h2⟩:=h
  subst e
  simp only [List.cons_append,RepA]
  exact ⟨v,r++us,rfl,h1,RepA.append h2 q⟩
theorem RepA.drop {K:PySem.W.Frag}{H:Hp}:∀ {ds:List PyData} {vs:List V} (n:Nat),RepA K H ds vs->RepA K H (ds.drop n) (vs.drop n)
 | ds,vs,0,h=>by simpa using h
 | [],vs,n+1,h=>by simp only [RepA] at h; subst h; simp [RepA]
 | d :: ds,vs,n+1,h=>by
  simp only [RepA] at h
  obtain ⟨v,r,e,_,h2⟩:=h
  subst e
  simpa using RepA.drop n h2
theorem RepA.take {K:PySem.W.Frag}{H:Hp}:∀ {ds:List PyData} {vs:List V} (n:Nat),RepA K H ds vs->RepA K H (ds.take n) (vs.take n)
 | ds,vs,0,h=>by simp [RepA]
 | [],vs,n+1,h=>by simp only [RepA] at h; subst h; simp [RepA]
 | d :: ds,vs,n+1,h=>by
  simp only [RepA] at h
  obtain ⟨v,r,e,h1,h2⟩:=h
  subst e
  simp only [List.take_succ_cons,RepA]
  exact ⟨v,_,rfl,h1,RepA.take n h2⟩
inductive W where
 | d (x:PyData)
 | m (a:Addr)
 | t (n:String)
inductive MO where
 | lst (ws:List W)
 | dic (kvs:List (Key×W))
 | dct (kvs:List (List Key×W))
 | fdic (kvs:List (Key×W))
 | ins (C:Addr) (fs:List (Str×W))
 | tup (ws:List W)
 | flst (ws:List W)
 | exc (C:Addr) (fs:List (Str×W))
 | code (q:Str) (pos:Pos)
noncomputable abbrev MH:=Addr->Option MO
noncomputable def updM (M:MH)(a:Addr)(o:MO):MH:=λ b=>if b=a then some o else M b
theorem updM_same {M:MH}{a:Addr}{o:MO}:updM M a o a=some o:=if_pos rfl
theorem updM_ne {M:MH}{a b:Addr}{o:MO}(h:b≠a):updM M a o b=M b:=if_neg h
theorem updM_updM {M:MH}{a:Addr}{o u:MO}:updM (updM M a o) a u=updM M a u:=by funext b; unfold updM; split <;> rfl
noncomputable abbrev DS:=List (Option W)
noncomputable def RepW (K:PySem.W.Frag)(H:Hp):W->V->Prop
 | .d x,v=>RepD K H x v
 | .m a,v=>v=.ref a
 | .t n,v=>v=.ty n
theorem RepW.keep {K:PySem.W.Frag}{H H':Hp}(k:Kp H H'):∀ {w:W} {v:V},RepW K H w v->RepW K H' w v
 | .d _,_,h=>RepD.keep k h
 | .m _,_,h=>h
 | .t _,_,h=>h
noncomputable def RepWs (K:PySem.W.Frag)(H:Hp):List W->List V->Prop:=Paired (RepW K H)
theorem RepWs.keep {K:PySem.W.Frag}{H H':Hp}(k:Kp H H'){ws:List W}{vs:List V}(h:RepWs K H ws vs):RepWs K H' ws vs:=Paired.mapP h λ _ _ r=>r.keep k
theorem RepWs.length {K:PySem.W.Frag}{H:Hp}{ws:List W}{vs:List V}(h:RepWs K H ws vs):ws.length=vs.length:=Paired.length h
theorem RepWs.get {K:PySem.W.Frag}{H:Hp}:∀ {ws:List W} {vs:List V} {i:Nat} {w:W},RepWs K H ws vs->ws[i]? = some w->∃ v,vs[i]? = some v/\RepW K H w v
 | _,_,_,_,.nil,e=>by simp at e
 | _,_,0,_,.cons r _,e=>by simp at e; subst e; exact ⟨_,rfl,r⟩
 | _,_,i+1,_,.cons _ t,e=>by
  obtain ⟨u,h1,h2⟩:=RepWs.get (i:=i) t (by simpa using e)
  exact ⟨u,by simpa using h1,h2⟩
theorem RepWs.set {K:PySem.W.Frag}{H:Hp}{w:W}{v:V}(r:RepW K H w v):∀ {ws:List W} {vs:List V} (i:Nat),RepWs K H ws vs->RepWs K H (ws.set i w) (vs.set i v)
 | _,_,_,.nil=>.nil
 | _,_,0,.cons _ t=>.cons r t
 | _,_,i+1,.cons q t=>.cons q (RepWs.set r i t)
theorem RepWs.append {K:PySem.W.Frag}{H:Hp}:∀ {ws ws':List W} {vs vs':List V},RepWs K H ws vs->RepWs K H ws' vs'->RepWs K H (ws++ws') (vs++vs')
 | _,_,_,_,.nil,s=>s
 | _,_,_,_,.cons r t,s=>.cons r (RepWs.append t s)
theorem RepWs.data {K:PySem.W.Frag}{H:Hp}:∀ {ds:List PyData} {vs:List V},RepWs K H (ds.map W.d) vs->RepA K H ds vs
 | [],_,h=>by cases h; simp [RepA]
 | d :: ds,_,h=>by
  cases h with
  | cons r t=>simp only [RepA]; exact ⟨_,_,rfl,r,RepWs.data t⟩
theorem RepA.ws {K:PySem.W.Frag}{H:Hp}:∀ {ds:List PyData} {vs:List V},RepA K H ds vs->RepWs K H (ds.map W.d) vs
 | [],vs,h=>by simp only [RepA] at h; subst h; exact .nil
 | d :: ds,vs,h=>by
  simp only [RepA] at h
  obtain ⟨v,r,e,h1,h2⟩:=h
  subst e
  exact .cons h1 (RepA.ws h2)
noncomputable def RepM (K:PySem.W.Frag)(H:Hp)(a:Addr):MO->Prop
 | .lst ws=>∃ vs,H a=some (.lst vs)/\RepWs K H ws vs
 | .dic kvs=>∃ l,H a=some (.dK l)/\Paired (λ (p:Key×W) (q:Key×V)=>p.1=q.1/\RepW K H p.2 q.2) kvs l
 | .fdic kvs=>∃ o l,H a=some (.frz o (.frz o (.dK l)))/\Paired (λ (p:Key×W) (q:Key×V)=>p.1=q.1/\RepW K H p.2 q.2) kvs l
 | .dct kvs=>∃ l,H a=some (.dT l)/\Paired (λ (p:List Key×W) (q:List Key×V)=>p.1=q.1/\RepW K H p.2 q.2) kvs l
 | .ins C fs=>∃ dx l,H a=some (.ins C dx l)/\Paired (λ (p:Str×W) (q:Str×V)=>p.1=q.1/\RepW K H p.2 q.2) fs l
 | .tup ws=>∃ vs,H a=some (.tup vs)/\RepWs K H ws vs
 | .flst ws=>∃ o vs,H a=some (.frz o (.frz o (.lst vs)))/\RepWs K H ws vs
 | .exc C fs=>∃ φ dct,H a=some (.ext φ)/\(∀ h,φ h->∃ vs,h.get? a=some { cls:=.ref C,dict:=dct,data:=.fields vs }) /\
   ((dct=none/\fs=[])\/∃ dx o l,dct=some dx/\H dx=some (.frz o (.xd l))/\Paired (λ (p:Str×W) (q:Str×V)=>p.1=q.1/\RepW K H p.2 q.2) fs l)
 | .code q pos=>∃ ps,H a=some (.tbl ps)/\TriplesOk ps.toList/\(codeAmong pos ps.toList=none\/∃ c o vs t,codeAmong pos ps.toList=some (.ref c)/\H c=some (.frz o (.own 0))/\o.data=.fields vs/\vs[1]? = some (.str q t))
noncomputable def MAbs (K:PySem.W.Frag)(H:Hp)(M:MH):Prop:=∀ a o,M a=some o->RepM K H a o
theorem RepM.is {K:PySem.W.Frag}{H:Hp}{a:Addr}{o:MO}(h:RepM K H a o):∃ u,H a=some u:=by
 cases o with
 | lst ws=>obtain ⟨vs,e,_⟩:=h; exact ⟨_,e⟩
 | dic kvs=>obtain ⟨l,e,_⟩:=h; exact ⟨_,e⟩
 | dct kvs=>obtain ⟨l,e,_⟩:=h; exact ⟨_,e⟩
 | fdic kvs=>obtain ⟨o,l,e,_⟩:=h; exact ⟨_,e⟩
 | ins C fs=>obtain ⟨dx,l,e,_⟩:=h; exact ⟨_,e⟩
 | tup ws=>obtain ⟨vs,e,_⟩:=h; exact ⟨_,e⟩
 | flst ws=>obtain ⟨o,vs,e,_⟩:=h; exact ⟨_,e⟩
 | exc C fs=>obtain ⟨φ,dct,e,_⟩:=h; exact ⟨_,e⟩
 | code q pos=>obtain ⟨ps,e,_⟩:=h; exact ⟨_,e⟩
theorem MAbs.free {K:PySem.W.Frag}{H:Hp}{M:MH}(h:MAbs K H M){p:Addr}(e:H p=none):M p=none:=by
 cases q:M p with
 | none=>rfl
 | some o =>
  obtain ⟨u,z⟩:=(h p o q).is
  rw [e] at z
  cases z
theorem RepM.keep {K:PySem.W.Frag}{H H':Hp}{a:Addr}{o:MO}(k:Kp H H')(s:∀ u,H a=some u->H' a=some u)(h:RepM K H a o):RepM K H' a o:=by
 cases o with
 | lst ws=>obtain ⟨vs,e,r⟩:=h; exact ⟨vs,s _ e,r.keep k⟩
 | dic kvs=>obtain ⟨l,e,r⟩:=h; exact ⟨l,s _ e,Paired.mapP r λ p q z=>⟨z.1,z.2.keep k⟩⟩
 | dct kvs=>obtain ⟨l,e,r⟩:=h; exact ⟨l,s _ e,Paired.mapP r λ p q z=>⟨z.1,z.2.keep k⟩⟩
 | fdic kvs=>obtain ⟨o,l,e,r⟩:=h; exact ⟨o,l,s _ e,Paired.mapP r λ p q z=>⟨z.1,z.2.keep k⟩⟩
 | ins C fs=>obtain ⟨dx,l,e,r⟩:=h; exact ⟨dx,l,s _ e,Paired.mapP r λ p q z=>⟨z.1,z.2.keep k⟩⟩
 | tup ws=>obtain ⟨vs,e,r⟩:=h; exact ⟨vs,s _ e,r.keep k⟩
 | flst ws=>obtain ⟨o,vs,e,r⟩:=h; exact ⟨o,vs,s _ e,r.keep k⟩
 | exc C fs =>
  obtain ⟨φ,dct,e,p,r⟩:=h
  refine ⟨φ,dct,s _ e,p,?_⟩
  rcases r with r | ⟨dx,o,l,e1,e2,r⟩
  ·exact .inl r
  ·exact .inr ⟨dx,o,l,e1,k.frz _ _ _ e2,Paired.mapP r λ p q z=>⟨z.1,z.2.keep k⟩⟩
 | code q pos =>
  obtain ⟨ps,e,ht,hc⟩:=h
  refine ⟨ps,s _ e,ht,?_⟩
  rcases hc with hc | ⟨c,o,vs,t,e1,e2,e3⟩
  ·exact .inl hc
  ·exact .inr ⟨c,o,vs,t,e1,k.frz _ _ _ e2,e3⟩
theorem MAbs.new {K:PySem.W.Frag}{H:Hp}{M:MH}{p:Addr}{o:HO}(h:MAbs K H M)(e:H p=none):MAbs K (upd H p o) M:=λ a mo q =>
 (h a mo q).keep (Kp.new e) λ u z=>by rw [upd_ne (ne_of_none z e)]; exact z
theorem MAbs.put {K:PySem.W.Frag}{H:Hp}{M:MH}{p:Addr}{o:HO}{mo:MO}(h:MAbs K H M)(k:Kp H (upd H p o))(r:RepM K (upd H p o) p mo):MAbs K (upd H p o) (updM M p mo):=λ a mo' q=>by
 by_cases e:a=p
 ·subst e
  rw [updM_same] at q
  cases q
  exact r
 ·rw [updM_ne e] at q
  exact (h a mo' q).keep k λ u z=>by rw [upd_ne e]; exact z
structure Abs (K:PySem.W.Frag)(H:Hp)(σ:St)(τ:DS)(M:MH):Prop where
 len:σ.length=τ.length
 val:∀ (i:Nat) w,τ[i]? = some (some w)->∃ v,σ[i]? = some (some v)/\RepW K H w v
 mem:MAbs K H M
theorem Abs.go {K:PySem.W.Frag}{H H':Hp}{σ:St}{τ:DS}{M M':MH}(h:Abs K H σ τ M)(k:Kp H H')(m:MAbs K H' M'):Abs K H' σ τ M' :=
 ⟨h.len,λ i w e=>let ⟨v,q,r⟩:=h.val i w e; ⟨v,q,r.keep k⟩,m⟩
theorem Abs.set {K:PySem.W.Frag}{H:Hp}{σ:St}{τ:DS}{M:MH}{w:W}{v:V}(h:Abs K H σ τ M)(i:Nat)(r:RepW K H w v):Abs K H (σ.set i (some v)) (τ.set i (some w)) M:=by
 refine ⟨by rw [List.length_set,List.length_set]; exact h.len,λ j w' e=>?_,h.mem⟩
 by_cases hj:i=j
 ·subst hj
  have hl:i < τ.length:=by
   have:=(List.getElem?_eq_some_iff.mp e).1
   rwa [List.length_set] at this
  rw [List.getElem?_set_self hl] at e
  cases e
  exact ⟨v,List.getElem?_set_self (by rw [h.len]; exact hl),r⟩
 ·rw [List.getElem?_set_ne hj] at e
  obtain ⟨v',q,r'⟩:=h.val j w' e
  exact ⟨v',by rw [List.getElem?_set_ne hj]; exact q,r'⟩
noncomputable abbrev QD:=W->MH->Prop
noncomputable abbrev TD:=DS->MH->QD->Prop
noncomputable abbrev TTd:=DS->MH->(Bool->MH->Prop)->Prop
noncomputable abbrev TAd:=DS->MH->(List W->MH->Prop)->Prop
structure Ed where
 nx:DS->MH->Prop
 rt:QD
 bk:DS->MH->Prop:=λ _ _=>False
 ct:DS->MH->Prop:=λ _ _=>False
noncomputable abbrev TSd:=Ed->DS->MH->Prop
noncomputable def up (K:PySem.W.Frag)(t:TD):TE:=λ σ H Q=>∃ τ M Qd,Abs K H σ τ M/\t τ M Qd/\∀ v H' w M',Kp H H'->RepW K H' w v->MAbs K H' M'->Qd w M'->Q v H'
noncomputable def upT (K:PySem.W.Frag)(t:TTd):TT:=λ σ H Q=>∃ τ M Qd,Abs K H σ τ M/\t τ M Qd/\∀ b H' M',Kp H H'->MAbs K H' M'->Qd b M'->Q b H'
noncomputable def upA (K:PySem.W.Frag)(t:TAd):TA:=λ σ H Q=>∃ τ M Qd,Abs K H σ τ M/\t τ M Qd/\∀ vs H' ws M',Kp H H'->RepWs K H' ws vs->MAbs K H' M'->Qd ws M'->Q vs H'
noncomputable def upS (K:PySem.W.Frag)(t:TSd):TS:=λ D σ H=>∃ τ M Dd,Abs K H σ τ M/\t Dd τ M /\
 (∀ σ' H' τ' M',Kp H H'->Abs K H' σ' τ' M'->Dd.nx τ' M'->D.nx σ' H')/\(∀ v H' w M',Kp H H'->RepW K H' w v->MAbs K H' M'->Dd.rt w M'->D.rt v H') /\
 (∀ σ' H' τ' M',Kp H H'->Abs K H' σ' τ' M'->Dd.bk τ' M'->D.bk σ' H')/\(∀ σ' H' τ' M',Kp H H'->Abs K H' σ' τ' M'->Dd.ct τ' M'->D.ct σ' H')
section
variable {X:Cx}
noncomputable abbrev PD (X:Cx)(e:Expr)(t:TD):Prop:=PE X e (up X.K t)
noncomputable abbrev PTd (X:Cx)(e:Expr)(t:TTd):Prop:=PT X e (upT X.K t)
noncomputable abbrev PAd (X:Cx)(es:List Expr)(t:TAd):Prop:=PA X es (upA X.K t)
noncomputable abbrev PSd (X:Cx)(st:Stmt)(t:TSd):Prop:=PS X st (upS X.K t)
noncomputable abbrev PSsd (X:Cx)(st:List Stmt)(t:TSd):Prop:=PSs X st (upS X.K t)
theorem pe_w {e:Expr}{t t':TE}(h:PE X e t)(k:∀ σ H Q,t' σ H Q->t σ H Q):PE X e t':=λ pins s σ H Q I q=>h pins s σ H Q I (k σ H Q q)
theorem pt_w {e:Expr}{t t':TT}(h:PT X e t)(k:∀ σ H Q,t' σ H Q->t σ H Q):PT X e t':=λ pins s σ H Q I q=>h pins s σ H Q I (k σ H Q q)
theorem pa_w {es:List Expr}{t t':TA}(h:PA X es t)(k:∀ σ H Q,t' σ H Q->t σ H Q):PA X es t':=λ pos pins s σ H Q I q=>h pos pins s σ H Q I (k σ H Q q)
theorem ps_w {st:Stmt}{t t':TS}(h:PS X st t)(k:∀ D σ H,t' D σ H->t D σ H):PS X st t':=λ pins s σ H D I q=>h pins s σ H D I (k D σ H q)
theorem pss_w {st:List Stmt}{t t':TS}(h:PSs X st t)(k:∀ D σ H,t' D σ H->t D σ H):PSs X st t':=λ pins s σ H D I q=>h pins s σ H D I (k D σ H q)
end
end D
namespace D
open PySem PySem.Spec PyProof.Rows L2
section
variable {X:Cx}{pos:Pos}{a b c e:Expr}{ta tb tc te:TD}{K:PySem.W.Frag}
noncomputable abbrev Kont (K:PySem.W.Frag)(H:Hp)(Qd:QD)(Q:VK):Prop:=∀ v H' w M',Kp H H'->RepW K H' w v->MAbs K H' M'->Qd w M'->Q v H'
theorem kgo {H H1:Hp}{Qd:QD}{Q:VK}(k:Kont K H Qd Q)(kp:Kp H H1):Kont K H1 Qd Q:=λ v H' w M' k2 r m q=>k v H' w M' (kp.trans k2) r m q
inductive DVar (i:Nat) (τ:DS) (M:MH) (Q:QD):Prop
 | mk (w:W) (z:τ[i]? = some (some w)) (q:Q w M):DVar i τ M Q
noncomputable def dVar (i:Nat)(τ:DS)(M:MH)(Q:QD):Prop:=DVar i τ M Q
theorem pd_var {i:Nat}(h:PE X e (tVar i)):PD X e (dVar i):=pe_w h λ σ H Q hq32=>by
 obtain ⟨τ,M,Qd,A,⟨w,e,q⟩,k⟩:=hq32
 obtain ⟨v,e',r⟩:=A.val i w e
 exact ⟨v,e',k v H w M (Kp.refl H) r A.mem q⟩
theorem dv (i:Nat){x:Str}{pos:Pos}(hN:X.N[i]? = some x:=by rfl)(hv:Vis X.env.scope x:=by first | exact Or.inl rfl | exact Or.inr (Or.inl rfl) | exact Or.inr (Or.inr rfl))(hd:(x == ("__debug__" : Str))=false:=by decide)
  (hcd:(x == ("__classdict__" : Str))=false:=by decide):PD X (.Name x pos) (dVar i):=pd_var (pe_var hN hv hd hcd)
noncomputable def dC (w:W)(_:DS)(M:MH)(Q:QD):Prop:=Q w M
theorem pd_c {v:V}{w:W}(h:PE X e (tC v))(r:∀ H,RepW X.K H w v):PD X e (dC w):=pe_w h λ σ H Q ⟨τ,M,Qd,A,q,k⟩=>k v H w M (Kp.refl H) (r H) A.mem q
theorem pd_int {i j pos}:PD X (.Constant (.int i) j pos) (dC (.d (.int i))):=pd_c pe_int λ H=>by simp [RepW,RepD]
theorem pd_bl {b j pos}:PD X (.Constant (.bool b) j pos) (dC (.d (.bool b))):=pd_c pe_bl λ H=>by simp [RepW,RepD]
theorem pd_non {j pos}:PD X (.Constant .none j pos) (dC (.d .none)):=pd_c pe_non λ H=>by simp [RepW,RepD]
theorem pd_str {x j pos}:PD X (.Constant (.str x) j pos) (dC (.d (.str x))):=pd_c pe_str λ H=>by simp [RepW,RepD]
theorem pd_globI {x:Str}{i:Int}{t:Tok}{pos:Pos}(hg:Gl X x)(hm:X.mg x=some (.int i t))(hd:(x == ("__debug__" : Str))=false:=by decide):PD X (.Name x pos) (dC (.d (.int i))):=pd_c (pe_glob (v:=.int i) hg hm ⟨t,rfl⟩ hd) λ H=>by simp [RepW,RepD]
theorem pd_type {x:Str}{n:String}{pos:Pos}(hg:Gl X x)(hm:X.mg x=none)(hv:bootBuiltins x=some (.type n))(hn:x ≠ "__name__" := by decide)(hd:(x == ("__debug__" : Str))=false:=by decide):PD X (.Name x pos) (dC (.t n)) :=
 pd_c (pe_bltn (v:=.ty n) hg hm hv rfl hn hd) λ H=>by simp [RepW]
noncomputable def OpD (K:PySem.W.Frag)(r:R2)(rd:W->W->MH->QD->Prop):Prop:=∀ x y H w w' M Qd Q,RepW K H w x->RepW K H w' y->MAbs K H M->rd w w' M Qd->Kont K H Qd Q->r x y H Q
noncomputable def dOp (rd:W->W->MH->QD->Prop)(ta tb:TD)(τ:DS)(M:MH)(Q:QD):Prop:=ta τ M λ w M1=>tb τ M1 λ w' M2=>rd w w' M2 Q
theorem imp_op {r:R2}{rd:W->W->MH->QD->Prop}(hd:OpD K r rd){σ:St}{H:Hp}{Q:VK}(h:up K (dOp rd ta tb) σ H Q):tOp r (up K ta) (up K tb) σ H Q:=by
 obtain ⟨τ,M,Qd,A,h,k⟩:=h
 refine ⟨τ,M,_,A,h,λ x H1 w M1 kp r1 m1 q1=>⟨τ,M1,_,A.go kp m1,q1,λ y H2 w' M2 kp2 r2 m2 q2=>?_⟩⟩
 exact hd x y H2 w w' M2 Qd Q (r1.keep kp2) r2 m2 q2 (kgo k (kp.trans kp2))
theorem pd_op {op:Operator}{r:R2}{rd:W->W->MH->QD->Prop}(ho:OpR X (binaryOp op) r)(hd:OpD X.K r rd)(ha:PD X a ta)(hb:PD X b tb):PD X (.BinOp a op b pos) (dOp rd ta tb):=pe_w (pe_op ho ha hb) λ σ H Q h=>imp_op hd h
theorem pd_cmp {op:CmpOp}{r:R2}{rd:W->W->MH->QD->Prop}(ho:OpR X (compareOp op) r)(hd:OpD X.K r rd)(ha:PD X a ta)(hb:PD X b tb)(hm:behindInMarks op b=false:=by first | exact nobehind _ (by decide) (by decide) | rfl) :
  PD X (.Compare a [op] [b] pos) (dOp rd ta tb):=pe_w (pe_cmpR ho ha hb hm) λ σ H Q h=>imp_op hd h
theorem pd_ix {r:R2}{rd:W->W->MH->QD->Prop}(hr:IxR X r)(hd:OpD X.K r rd)(ha:PD X a ta)(hb:PD X b tb)(hs:PlainIx b:=by intro _ _; rfl):PD X (.Subscript a b pos) (dOp rd ta tb):=pe_w (pe_ix hr ha hb hs) λ σ H Q h=>imp_op hd h
noncomputable def dTest (t:TD)(τ:DS)(M:MH)(Q:Bool->MH->Prop):Prop:=t τ M λ w M1=>∃ k,w=.d (.bool k)/\Q k M1
theorem imp_test {t':TE}(hi:∀ σ H Q,up K ta σ H Q->t' σ H Q){σ:St}{H:Hp}{Q:Bool->Hp->Prop}(h:upT K (dTest ta) σ H Q):tTest t' σ H Q:=by
 obtain ⟨τ,M,Qd,A,h,k⟩:=h
 refine hi σ H _ ⟨τ,M,_,A,h,λ v H' w M' kp r m hq33=>?_⟩
 obtain ⟨b,e,q⟩:=hq33
 subst e
 simp only [RepW,RepD] at r
 exact ⟨b,r,k b H' M' kp m q⟩
theorem ptd_cmp {op:CmpOp}{r:R2}{rd:W->W->MH->QD->Prop}(ho:OpR X (compareOp op) r)(hd:OpD X.K r rd)(ha:PD X a ta)(hb:PD X b tb)(hm:behindInMarks op b=false:=by first | exact nobehind _ (by decide) (by decide) | rfl) :
  PTd X (.Compare a [op] [b] pos) (dTest (dOp rd ta tb)):=pt_w (pt_cmpR ho ha hb hm) λ σ H Q h=>imp_test (λ _ _ _ q=>imp_op hd q) h
theorem ptd_val (h:PD X e te)(he:∀ whole,isTrue e X.env whole=(do let v <- whole; standAt e.pos; holding [v] (truthy v)):=by intro _; rfl):PTd X e (dTest te):=pt_w (pt_val h he) λ σ H Q q=>imp_test (λ _ _ _ z=>z) q
noncomputable def dChain (r r':W->W->MH->QD->Prop)(ta tb tc:TD)(τ:DS)(M:MH)(Q:QD):Prop:=ta τ M λ x M1=>tb τ M1 λ y M2=>r x y M2 λ z M3=>∃ k,z=.d (.bool k)/\(if k=true then tc τ M3 λ w' M4=>r' y w' M4 Q else Q (.d (.bool false)) M3)
theorem imp_chain {r r':R2}{rd rd':W->W->MH->QD->Prop}(hd:OpD K r rd)(hd':OpD K r' rd'){σ:St}{H:Hp}{Q:VK}(h:up K (dChain rd rd' ta tb tc) σ H Q):tChain r r' (up K ta) (up K tb) (up K tc) σ H Q:=by
 obtain ⟨τ,M,Qd,A,h,k⟩:=h
 refine ⟨τ,M,_,A,h,λ x H1 w M1 kp r1 m1 q1=>⟨τ,M1,_,A.go kp m1,q1,λ y H2 w' M2 kp2 r2 m2 q2=>?_⟩⟩
 have kq:=kp.trans kp2
 refine hd x y H2 w w' M2 _ _ (r1.keep kp2) r2 m2 q2 λ v H3 w'' M3 kp3 r3 m3 hq34=>?_
 obtain ⟨b,e,q3⟩:=hq34
 subst e
 simp only [RepW,RepD] at r3
 refine ⟨b,r3,?_⟩
 have kr:=kq.trans kp3
 cases b with
 | false =>
  rw [if_neg Bool.false_ne_true] at q3 ⊢
  exact k _ H3 _ M3 kr (by simp [RepW,RepD]) m3 q3
 | true =>
  rw [if_pos rfl] at q3 ⊢
  exact ⟨τ,M3,_,A.go kr m3,q3,λ u H4 w4 M4 kp4 r4 m4 q4=>hd' y u H4 w' w4 M4 Qd Q (r2.keep (kp3.trans kp4)) r4 m4 q4 (kgo k (kr.trans kp4))⟩
theorem pd_chain {op op':CmpOp}{r r':R2}{rd rd':W->W->MH->QD->Prop}(ho:OpR X (compareOp op) r)(hd:OpD X.K r rd)(ho':OpR X (compareOp op') r')(hd':OpD X.K r' rd')(ha:PD X a ta)(hb:PD X b tb)(hc:PD X c tc)
  (hm:lastMarks [op,op'] [b,c]=false:=by with_unfolding_all rfl):PD X (.Compare a [op,op'] [b,c] pos) (dChain rd rd' ta tb tc):=pe_w (pe_chain ho ho' ha hb hc hm) λ σ H Q h=>imp_chain hd hd' h
theorem ptd_chain {op op':CmpOp}{r r':R2}{rd rd':W->W->MH->QD->Prop}(ho:OpR X (compareOp op) r)(hd:OpD X.K r rd)(ho':OpR X (compareOp op') r')(hd':OpD X.K r' rd')(ha:PD X a ta)(hb:PD X b tb)(hc:PD X c tc)
  (hm:lastMarks [op,op'] [b,c]=false:=by with_unfolding_all rfl):PTd X (.Compare a [op,op'] [b,c] pos) (dTest (dChain rd rd' ta tb tc)):=pt_w (pt_chain ho ho' ha hb hc hm) λ σ H Q h=>imp_test (λ _ _ _ q=>imp_chain hd hd' q) h
variable {tA tB:TTd}{rest:List Expr}
noncomputable def dOr (t u:TTd)(τ:DS)(M:MH)(Q:Bool->MH->Prop):Prop:=t τ M λ k M1=>if k=true then Q true M1 else u τ M1 Q
noncomputable def dNot (t:TTd)(τ:DS)(M:MH)(Q:Bool->MH->Prop):Prop:=t τ M λ k M1=>Q (!k) M1
noncomputable abbrev PWd (X:Cx)(e:Expr)(t:TTd):Prop:=PW X e (upT X.K t)
theorem pw_w {e:Expr}{t t':TT}(h:PW X e t)(k:∀ σ H Q,t' σ H Q->t σ H Q):PW X e t':=λ w pins s σ H Q I q=>h w pins s σ H Q I (k σ H Q q)
theorem pwd_or1 (ha:PTd X a tA):PWd X (.BoolOp .Or [a] pos) tA:=pw_or1 ha
theorem pwd_or (ha:PTd X a tA)(hb:PWd X (.BoolOp .Or (b :: rest) pos) tB):PWd X (.BoolOp .Or (a :: b :: rest) pos) (dOr tA tB):=pw_w (pw_or ha hb) λ σ H Q h=>by
 obtain ⟨τ,M,Qd,A,h,k⟩:=h
 refine ⟨τ,M,_,A,h,λ b H1 M1 kp m1 q1=>?_⟩
 cases b with
 | false=>rw [if_neg Bool.false_ne_true] at q1 ⊢; exact ⟨τ,M1,Qd,A.go kp m1,q1,λ b H2 M2 kp2 m2 q2=>k b H2 M2 (kp.trans kp2) m2 q2⟩
 | true=>rw [if_pos rfl] at q1 ⊢; exact k _ H1 M1 kp m1 q1
theorem ptd_w (h:PWd X e tA):PTd X e tA:=h.pt
theorem ptd_not (ha:PTd X a tA):PTd X (.UnaryOp .Not a pos) (dNot tA):=pt_w (pt_not ha) λ σ H Q h=>by
 obtain ⟨τ,M,Qd,A,h,k⟩:=h
 exact ⟨τ,M,_,A,h,λ b H1 M1 kp m1 q1=>k (!b) H1 M1 kp m1 q1⟩
noncomputable def dAndV (ta tb:TD)(τ:DS)(M:MH)(Q:QD):Prop:=ta τ M λ x M1=>∃ k,x=.d (.bool k)/\if k=true then tb τ M1 Q else Q (.d (.bool false)) M1
theorem pd_one {op}(h:PD X a ta):PD X (.BoolOp op [a] pos) ta:=pe_one h
theorem pd_and (ha:PD X a ta)(hb:PD X (.BoolOp .And (b :: rest) pos) tb):PD X (.BoolOp .And (a :: b :: rest) pos) (dAndV ta tb):=pe_w (pe_and ha hb) λ σ H Q h=>by
 obtain ⟨τ,M,Qd,A,h,k⟩:=h
 refine ⟨τ,M,_,A,h,λ x H1 w M1 kp r1 m1 hq35=>?_⟩
 obtain ⟨b,e,q1⟩:=hq35
 subst e
 simp only [RepW,RepD] at r1
 refine ⟨b,r1,?_⟩
 cases b with
 | true=>rw [if_pos rfl] at q1 ⊢; exact ⟨τ,M1,Qd,A.go kp m1,q1,kgo k kp⟩
 | false=>rw [if_neg Bool.false_ne_true] at q1 ⊢; exact k _ H1 _ M1 kp (by simp [RepW,RepD]) m1 q1
variable {es:List Expr}{t:TAd}
noncomputable def dNil (_:DS)(M:MH)(Q:List W->MH->Prop):Prop:=Q [] M
noncomputable def dCons (ta:TD)(tr:TAd)(τ:DS)(M:MH)(Q:List W->MH->Prop):Prop:=ta τ M λ w M1=>tr τ M1 λ ws M2=>Q (w :: ws) M2
theorem pad_nil:PAd X [] dNil:=pa_w pa_nil λ σ H Q ⟨τ,M,Qd,A,h,k⟩=>k [] H [] M (Kp.refl H) .nil A.mem h
theorem pad_cons (ha:PD X e te)(hr:PAd X es t)(hs:starEach (e :: es) X.env=(false,eval e X.env) :: starEach es X.env:=by rfl):PAd X (e :: es) (dCons te t):=pa_w (pa_cons ha hr hs) λ σ H Q h=>by
 obtain ⟨τ,M,Qd,A,h,k⟩:=h
 exact ⟨τ,M,_,A,h,λ x H1 w M1 kp r1 m1 q1=>⟨τ,M1,_,A.go kp m1,q1,λ xs H2 ws M2 kp2 r2 m2 q2=>k _ H2 _ M2 (kp.trans kp2) (.cons (r1.keep kp2) r2) m2 q2⟩⟩
noncomputable def datas:List W->Option (List PyData)
 | []=>some []
 | .d x :: r=>(datas r).map (x :: ·)
 | _ :: _=>none
theorem datas_eq:∀ {ws:List W} {ds:List PyData},datas ws=some ds->ws=ds.map W.d
 | [],ds,h=>by simp only [datas] at h; cases h; rfl
 | .d x :: r,ds,h=>by
  simp only [datas] at h
  cases q:datas r with
  | none=>rw [q] at h; cases h
  | some l=>rw [q] at h; cases h; rw [datas_eq q]; rfl
 | .m _ :: _,ds,h=>by simp [datas] at h
 | .t _ :: _,ds,h=>by simp [datas] at h
noncomputable def dLst (t:TAd)(τ:DS)(M:MH)(Q:QD):Prop:=t τ M λ ws M1=>∃ ds,datas ws=some ds/\ds.length<=sizeLine/\Q (.d (.list ds)) M1
theorem frz_new {H:Hp}{p:Addr}{o:Obj}{vs:List V}{ds:List PyData}(hp:H p=none)(r:RepA K H ds vs):RepD K (upd H p (.frz o (.lst vs))) (.list ds) (.ref p):=by
 simp only [RepD]
 exact ⟨p,vs,rfl,.inl ⟨o,upd_same⟩,r.keep (Kp.new hp)⟩
theorem imp_frz {H:Hp}{vs:List V}{ds:List PyData}{M:MH}{Qd:QD}{Q:VK}{p:Addr}(hp:H p=none)(r:RepA K H ds vs)(m:MAbs K H M)(q:Qd (.d (.list ds)) M)(k:Kont K H Qd Q) :
  ∃ p' u,V.ref p=.ref p'/\(upd H p (.lst vs)) p'=some u/\Fz u/\∀ o,Q (.ref p) (upd (upd H p (.lst vs)) p' (.frz o u)):=by
 refine ⟨p,_,rfl,upd_same,trivial,λ o=>?_⟩
 rw [upd_upd]
 exact k _ _ (.d (.list ds)) M (Kp.new hp) (frz_new hp r) (m.new hp) q
theorem pd_lst (h:PAd X es t):PD X (.List es pos) (dLst t):=pe_w (pe_frz (pe_lst h)) λ σ H Q h=>by
 obtain ⟨τ,M,Qd,A,h,k⟩:=h
 refine ⟨τ,M,_,A,h,λ vs H1 ws M1 kp r1 m1 hq36=>?_⟩
 obtain ⟨ds,e,hz,q1⟩:=hq36
 have e':=datas_eq e
 subst e'
 have rA:=r1.data
 exact ⟨by rw [rA.length]; exact hz,λ p hp=>imp_frz hp rA m1 q1 (kgo k kp)⟩
noncomputable def dLstM (t:TAd)(τ:DS)(M:MH)(Q:QD):Prop:=t τ M λ ws M1=>ws.length<=sizeLine/\∀ p,M1 p=none->Q (.m p) (updM M1 p (.lst ws))
theorem pd_lstM (h:PAd X es t):PD X (.List es pos) (dLstM t):=pe_w (pe_lst h) λ σ H Q h=>by
 obtain ⟨τ,M,Qd,A,h,k⟩:=h
 refine ⟨τ,M,_,A,h,λ vs H1 ws M1 kp r1 m1 ⟨hz,q1⟩=>⟨by rw [<- r1.length]; exact hz,λ p hp=>?_⟩⟩
 exact k _ _ (.m p) (updM M1 p (.lst ws)) (kp.trans (Kp.new hp)) rfl (m1.put (mo:=.lst ws) (Kp.new hp) ⟨vs,upd_same,r1.keep (Kp.new hp)⟩) (q1 p (m1.free hp))
noncomputable def dTup (t:TAd)(τ:DS)(M:MH)(Q:QD):Prop:=t τ M λ ws M1=>∃ ds,datas ws=some ds/\ds.length<=sizeLine/\Q (.d (.tuple ds)) M1
theorem pd_tup {x1}(h:PAd X es t):PD X (.Tuple es x1 pos) (dTup t):=pe_w (pe_tup h) λ σ H Q h=>by
 obtain ⟨τ,M,Qd,A,h,k⟩:=h
 refine ⟨τ,M,_,A,h,λ vs H1 ws M1 kp r1 m1 hq37=>?_⟩
 obtain ⟨ds,e,hz,q1⟩:=hq37
 have e':=datas_eq e
 subst e'
 have rA:=r1.data
 refine ⟨by rw [rA.length]; exact hz,λ p hp=>k _ _ (.d (.tuple ds)) M1 (kp.trans (Kp.new hp)) ?_ (m1.new hp) q1⟩
 simp only [RepW,RepD]
 exact ⟨p,vs,rfl,.inl (.inl upd_same),rA.keep (Kp.new hp)⟩
variable {x:Str}{p:Pos}{id T:String}{r:List V->Hp->VK->Prop}{rd:List W->MH->QD->Prop}
noncomputable def CallD (K:PySem.W.Frag)(r:List V->Hp->VK->Prop)(rd:List W->MH->QD->Prop):Prop:=∀ vs H ws M Qd Q,RepWs K H ws vs->MAbs K H M->rd ws M Qd->Kont K H Qd Q->r vs H Q
noncomputable def dCB (rd:List W->MH->QD->Prop)(t:TAd)(τ:DS)(M:MH)(Q:QD):Prop:=t τ M λ ws M1=>rd ws M1 Q
theorem imp_cb (hd:CallD K r rd){σ:St}{H:Hp}{Q:VK}(h:up K (dCB rd t) σ H Q):tCB r (upA K t) σ H Q:=by
 obtain ⟨τ,M,Qd,A,h,k⟩:=h
 exact ⟨τ,M,_,A,h,λ vs H1 ws M1 kp r1 m1 q1=>hd vs H1 ws M1 Qd Q r1 m1 q1 (kgo k kp)⟩
theorem pd_callB (hc:CallR X (.builtin id) r)(hd:CallD X.K r rd)(hg:Gl X x)(hm:X.mg x=none)(hv:bootBuiltins x=some (.builtin id))(ha:PAd X (e :: es) t)(hn:x ≠ "__name__" := by decide)(hdb:(x == ("__debug__" : Str))=false:=by decide)
  (he:starEach (e :: es) X.env=(false,eval e X.env) :: starEach es X.env:=by rfl)(hpl:(backTo pos (starEach es X.env)).any (·.1)=false:=by rfl):PD X (.Call (.Name x p) (e :: es) [] pos) (dCB rd t) :=
 pe_w (pe_callB hc hg hm hv ha hn hdb he hpl) λ σ H Q h=>imp_cb hd h
theorem pd_callTy (hc:CallR X (.type T) r)(hd:CallD X.K r rd)(hg:Gl X x)(hm:X.mg x=none)(hv:bootBuiltins x=some (.type T))(ha:PAd X (e :: es) t)(hn:x ≠ "__name__" := by decide)(hdb:(x == ("__debug__" : Str))=false:=by decide)
  (he:starEach (e :: es) X.env=(false,eval e X.env) :: starEach es X.env:=by rfl)(hpl:(backTo pos (starEach es X.env)).any (·.1)=false:=by rfl):PD X (.Call (.Name x p) (e :: es) [] pos) (dCB rd t) :=
 pe_w (pe_callTy hc hg hm hv ha hn hdb he hpl) λ σ H Q h=>imp_cb hd h
end
section
variable {X:Cx}{pos:Pos}{st:Stmt}{sts:List Stmt}{t u:TSd}{e:Expr}{te:TD}{K:PySem.W.Frag}
noncomputable def dNext (D:Ed)(τ:DS)(M:MH):Prop:=D.nx τ M
noncomputable def dSeq (t u:TSd)(D:Ed)(τ:DS)(M:MH):Prop:=t { D with nx:=u D } τ M
theorem pssd_nil:PSsd X [] dNext:=pss_w pss_nil λ D σ H ⟨τ,M,Dd,A,h,k1,_⟩=>k1 σ H τ M (Kp.refl H) A h
theorem pssd_cons (h1:PSd X st t)(h2:PSsd X sts u):PSsd X (st :: sts) (dSeq t u):=pss_w (pss_cons h1 h2) λ D σ H ⟨τ,M,Dd,A,h,k1,k2,k3,k4⟩ =>
 ⟨τ,M,{ Dd with nx:=u Dd },A,h,λ σ' H' τ' M' kp A' q=>⟨τ',M',Dd,A',q,λ σ2 H2 τ2 M2 kp2=>k1 σ2 H2 τ2 M2 (kp.trans kp2),λ v H2 w M2 kp2=>k2 v H2 w M2 (kp.trans kp2),λ σ2 H2 τ2 M2 kp2=>k3 σ2 H2 τ2 M2 (kp.trans kp2),λ σ2 H2 τ2 M2 kp2=>k4 σ2 H2 τ2 M2 (kp.trans kp2)⟩,k2,k3,k4⟩
theorem pssd_one (h1:PSd X st t):PSsd X [st] t:=pss_one h1
noncomputable def dDrop (te:TD)(D:Ed)(τ:DS)(M:MH):Prop:=te τ M λ _ M1=>D.nx τ M1
theorem psd_expr (he:PD X e te)(hs:swapsWith e none pos.line X.env=pure false:=by rfl):PSd X (.Expr e pos) (dDrop te):=ps_w (ps_expr he hs) λ D σ H ⟨τ,M,Dd,A,h,k1,_⟩ =>
 ⟨τ,M,_,A,h,λ v H1 w M1 kp r m q=>k1 σ H1 τ M1 kp (A.go kp m) q⟩
noncomputable def dRet (te:TD)(D:Ed)(τ:DS)(M:MH):Prop:=te τ M D.rt
theorem psd_ret (he:PD X e te):PSd X (.Return (some e) pos) (dRet te):=ps_w (ps_ret he) λ D σ H ⟨τ,M,Dd,A,h,k1,k2,_⟩=>⟨τ,M,_,A,h,λ v H1 w M1 kp r m q=>k2 v H1 w M1 kp r m q⟩
noncomputable def dIf (c:TTd)(t u:TSd)(D:Ed)(τ:DS)(M:MH):Prop:=c τ M λ b M1=>if b=true then t D τ M1 else u D τ M1
theorem psd_if {c:Expr}{a b:List Stmt}{tc:TTd}(hc:PTd X c tc)(ha:PSsd X a t)(hb:PSsd X b u):PSd X (.If c a b pos) (dIf tc t u):=ps_w (ps_if hc ha hb) λ D σ H hq38=>by
 obtain ⟨τ,M,Dd,A,h,k1,k2,k3,k4⟩:=hq38
 refine ⟨τ,M,_,A,h,λ b H1 M1 kp m q=>?_⟩
 have go:∀ {t':TSd},t' Dd τ M1->upS X.K t' D σ H1:=λ {t'} q=>⟨τ,M1,Dd,A.go kp m,q,λ σ2 H2 τ2 M2 kp2=>k1 σ2 H2 τ2 M2 (kp.trans kp2),λ v H2 w M2 kp2=>k2 v H2 w M2 (kp.trans kp2),λ σ2 H2 τ2 M2 kp2=>k3 σ2 H2 τ2 M2 (kp.trans kp2),λ σ2 H2 τ2 M2 kp2=>k4 σ2 H2 τ2 M2 (kp.trans kp2)⟩
 cases b with
 | true=>rw [if_pos rfl] at q; show (if true=true then upS X.K t D σ H1 else upS X.K u D σ H1); rw [if_pos rfl]; exact go q
 | false=>rw [if_neg Bool.false_ne_true] at q; show (if false=true then upS X.K t D σ H1 else upS X.K u D σ H1); rw [if_neg Bool.false_ne_true]; exact go q
noncomputable abbrev TGd:=W->DS->MH->(DS->MH->Prop)->Prop
noncomputable def upG (K:PySem.W.Frag)(g:TGd):TG:=λ v σ H Q=>∃ w τ M Qd,RepW K H w v/\Abs K H σ τ M/\g w τ M Qd/\∀ σ' H' τ' M',Kp H H'->Abs K H' σ' τ' M'->Qd τ' M'->Q σ' H'
noncomputable abbrev PGd (X:Cx)(e:Expr)(g:TGd):Prop:=PG X e (upG X.K g)
theorem pg_w {e:Expr}{g g':TG}(h:PG X e g)(k:∀ v σ H Q,g' v σ H Q->g v σ H Q):PG X e g':=λ pins s σ H v u Q I r q=>h pins s σ H v u Q I r (k v σ H Q q)
noncomputable def gN (i:Nat)(w:W)(τ:DS)(M:MH)(Q:DS->MH->Prop):Prop:=Q (τ.set i (some w)) M
theorem pgd_name {i:Nat}{x:Str}(hN:X.N.Nodup)(hi:X.N[i]? = some x)(hx:Loc X.env.scope x)(hf:X.fn x=true\/X.env.scope.names.lookup x=some .local:=by first | exact .inl rfl | exact .inr rfl | assumption):PGd X (.Name x pos) (gN i) :=
 pg_w (pg_name hN hi hx hf) λ v σ H Q ⟨w,τ,M,Qd,r,A,h,k⟩=>k _ H _ M (Kp.refl H) (A.set i r) h
noncomputable def dAsg (te:TD)(g:TGd)(D:Ed)(τ:DS)(M:MH):Prop:=te τ M λ w M1=>g w τ M1 D.nx
theorem imp_asg {g:TGd}{D:Ends}{σ:St}{H:Hp}(h:upS K (dAsg te g) D σ H):tAsg (up K te) (upG K g) D σ H:=by
 obtain ⟨τ,M,Dd,A,h,k1,_⟩:=h
 exact ⟨τ,M,_,A,h,λ v H1 w M1 kp r m q=>⟨w,τ,M1,_,r,A.go kp m,q,λ σ2 H2 τ2 M2 kp2 A2 q2=>k1 σ2 H2 τ2 M2 (kp.trans kp2) A2 q2⟩⟩
theorem psd_asg {tg:Expr}{g:TGd}(he:PD X e te)(hg:PGd X tg g)(hs:swapsWithSole [tg] e pos.line X.env=pure false:=by rfl)(hw:swappedStores [tg] e X.env=pure none:=by rfl)
  (h1:(assignEach [tg] X.env).map (·.2)=[assign tg X.env]:=by rfl):PSd X (.Assign [tg] e pos) (dAsg te g):=ps_w (ps_asg he hg hs hw h1) λ D σ H h=>imp_asg h
theorem psd_set {i:Nat}{x:Str}{pos':Pos}(hN:X.N.Nodup)(hi:X.N[i]? = some x)(hx:Loc X.env.scope x)(he:PD X e te)(hs:swapsWith e (some (.Name x pos')) pos.line X.env=pure false:=by rfl)(hf:X.fn x=true\/X.env.scope.names.lookup x=some .local:=by first | exact .inl rfl | exact .inr rfl | assumption) :
  PSd X (.Assign [.Name x pos'] e pos) (dAsg te (gN i)):=ps_w (ps_set hN hi hx he hs hf) λ D σ H ⟨τ,M,Dd,A,h,k1,_⟩ =>
 ⟨τ,M,_,A,h,λ v H1 w M1 kp r m q=>k1 _ H1 _ M1 kp ((A.go kp m).set i r) q⟩
end
noncomputable abbrev SpD:=List W->MH->QD->Prop
noncomputable def upSp (K:PySem.W.Frag)(sp:SpD):Sp:=λ vs H Q _=>∃ ws M Qd,RepWs K H ws vs/\MAbs K H M/\sp ws M Qd/\Kont K H Qd Q
section
variable {X:Cx}{pos p:Pos}{k:Nat}{f:Addr}{fd:FuncData}{ps:List Str}{sp:SpD}{x:Str}{e:Expr}{es:List Expr}{t:TAd}
noncomputable def dCall (sp:SpD)(t:TAd)(τ:DS)(M:MH)(Q:QD):Prop:=t τ M λ ws M1=>sp ws M1 Q
theorem pd_call (F:FnOk X.prog X.w X.K X.mg X.base CX0 k f fd ps (upSp X.K sp))(hr:Room k X.A)(hg:Gl X x)(hm:X.mg x=some (.ref f))(hk:PySem.W.keepIn X.K (.ref f)=true)(hb:Binds X.K fd ps [])
  (ha:PAd X (e :: es) t)(hdb:(x == ("__debug__" : Str))=false:=by decide)(he:starEach (e :: es) X.env=(false,eval e X.env) :: starEach es X.env:=by rfl)(hpl:(backTo pos (starEach es X.env)).any (·.1)=false:=by rfl) :
  PD X (.Call (.Name x p) (e :: es) [] pos) (dCall sp t):=pe_w (pe_call (E:=E0) (dvs:=[]) F hr hg hm hk hb .nil pass0 ha hdb he hpl) λ σ H Q h=>by
 obtain ⟨τ,M,Qd,A,h,k⟩:=h
 exact ⟨τ,M,_,A,h,λ vs H1 ws M1 kp r1 m1 q1=>⟨ws,M1,Qd,by rw [List.append_nil]; exact r1,m1,q1,kgo k kp⟩⟩
end
noncomputable def startD (N:List Str)(ws:List W):DS:=ws.map some++List.replicate (N.length - ws.length) none
section
variable {P:Program}{w:World}{K:PySem.W.Frag}{mg:Str->Option Value}{base:Heap}
theorem abs_start {H:Hp}{N:List Str}{ws:List W}{vs:List V}{M:MH}(r:RepWs K H ws vs)(m:MAbs K H M):Abs K H (start N vs) (startD N ws) M:=by
 have hl:=r.length
 refine ⟨?_,λ i w e=>?_,m⟩
 ·simp [L2.start,startD,hl]
 ·unfold startD at e
  by_cases hi:i < ws.length
  ·rw [List.getElem?_append_left (by simpa using hi),List.getElem?_map] at e
   cases q:ws[i]? with
   | none=>rw [q] at e; cases e
   | some w' =>
    rw [q] at e
    cases e
    obtain ⟨v,e1,r1⟩:=r.get q
    refine ⟨v,?_,r1⟩
    unfold L2.start
    rw [List.getElem?_append_left (by rw [List.length_map,<- hl]; exact hi),List.getElem?_map,e1]
    rfl
  ·rw [List.getElem?_append_right (by simpa using hi),List.getElem?_replicate] at e
   split at e <;> cases e
theorem fun_ok {x qual:Str}{st:Stmt}{f:Addr}{fd:FuncData}{N ps:List Str}{k:Nat}{sp:SpD}{t:TSd}(F:Fun K x qual st f fd)(S:FnScope N ps (defScope st))(len:∀ ws M Q,sp ws M Q->ws.length=ps.length)
  (hbody:∀ (cdv:Value) (A:Around) (outer:List Env) (s:Shared) (H:Hp) (E:XK),Room k (A.deeper (envOfC qual (defScope st) s.heap.objs.size f cdv)) ->
   PSsd (cxOf CX0 P w K mg base N qual (defScope st) f cdv A outer s H E).nox (defBody st) t)
  (read:∀ ws M Q,sp ws M Q->t { nx:=λ _ M'=>Q (.d .none) M',rt:=Q } (startD N ws) M):FnOk P w K mg base CX0 (k+1) f fd ps (upSp K sp):=by
 refine F.ok S (λ vs H Q E h=>?_) (λ cdv A outer s H vs Q E hr h=>?_)
 ·obtain ⟨ws,M,Qd,r,_,q,_⟩:=h
  rw [<- r.length]
  exact len _ _ _ q
 ·obtain ⟨ws,M,Qd,r,m,q,kk⟩:=h
  refine ⟨_,hbody cdv A outer s H E hr,startD N ws,M,_,abs_start r m,read ws M Qd q,λ σ' H' τ' M' kp A' q'=>?_,λ v H' w' M' kp r' m' q'=>?_,λ σ' H' τ' M' kp A' q'=>q'.elim,λ σ' H' τ' M' kp A' q'=>q'.elim⟩
  ·exact kk _ H' _ M' kp (by simp [RepW,RepD]) A'.mem q'
  ·exact kk v H' w' M' kp r' m' q'
end
end D
namespace L2
open PySem PySem.Spec PyProof.Rows
structure RoomH (k:Nat)(A:Around):Prop where
 gd:A.guards=some []
 dp:A.depth+3 * k+5 < recursionLimit
 un:A.units+16 * k+200 < cLine
theorem RoomH.mono {j k:Nat}{A:Around}(r:RoomH k A)(h:j<=k):RoomH j A:=⟨r.gd,by have:=r.dp; omega,by have:=r.un; omega⟩
theorem RoomH.deeper {k:Nat}{A:Around}(r:RoomH (k+1) A)(env:Env):RoomH k (A.deeper env) :=
 ⟨r.gd,by have:=r.dp; show A.depth+1+3 * k+5 < _; omega,by have:=r.un; show A.units+3+16 * k+200 < _; omega⟩
theorem RoomH.depth {k:Nat}{A:Around}(r:RoomH k A):A.depth < recursionLimit:=by have:=r.dp; omega
theorem RoomH.units {k:Nat}{A:Around}(r:RoomH k A):A.units+64 < cLine:=by have:=r.un; omega
theorem Room.h {k:Nat}{A:Around}(r:Room k A):RoomH k A:=⟨r.gd,r.dp,r.un⟩
theorem RoomH.mark {k:Nat}{A:Around}(r:RoomH k A)(v:Value):RoomH k (A.mark (some v)):=⟨r.gd,r.dp,r.un⟩
end L2
namespace D
open PySem PySem.Spec PyProof.Rows L2
section
variable {X:Cx}{pins:List (Addr×Obj)}{σ:St}{H:Hp}{s:Shared}
mutual
theorem reads_of (I:Inv X pins σ H s):∀ (d:PyData) {x:V} {u:Value},RepD X.K H d x->RelV x u->d.hasDict=false->∃ as,Reads s.heap u d as
 | .none,x,u,h,r,_=>by
  simp only [RepD] at h; subst h
  cases (show u=Value.none from r)
  exact ⟨_,.none⟩
 | .bool b,x,u,h,r,_=>by
  simp only [RepD] at h; subst h
  cases (show u=Value.bool b from r)
  exact ⟨_,.bool b⟩
 | .int i,x,u,h,r,_=>by
  simp only [RepD] at h; subst h
  obtain ⟨t,e⟩:=(show ∃ t,u=Value.int i t from r)
  subst e
  exact ⟨_,.int i t⟩
 | .str z,x,u,h,r,_=>by
  simp only [RepD] at h; subst h
  obtain ⟨t,e⟩:=(show ∃ t,u=Value.str z t from r)
  subst e
  exact ⟨_,.str z t⟩
 | .list ds,x,u,h,r,hd=>by
  simp only [RepD] at h
  obtain ⟨a,vs,e,hs,ra⟩:=h
  subst e
  cases (show u=Value.ref a from r)
  obtain ⟨its,rv,⟨o,n,e1,e2,e3,e4⟩,hz⟩:=I.list hs.sq
  obtain ⟨as,q⟩:=readsA_of I ds ra rv (by simpa [PyData.hasDict] using hd)
  exact ⟨_,.list e1 e2 e4 (by simpa using q)⟩
 | .tuple ds,x,u,h,r,hd=>by
  simp only [RepD] at h
  obtain ⟨a,vs,e,hs,ra⟩:=h
  subst e
  cases (show u=Value.ref a from r)
  obtain ⟨its,rv,⟨o,e1,e2,n,e4⟩,hz⟩:=I.tuple hs
  obtain ⟨as,q⟩:=readsA_of I ds ra rv (by simpa [PyData.hasDict] using hd)
  exact ⟨_,.tuple e1 e2 e4 (by simpa using q)⟩
 | .dict kvs,x,u,h,r,hd=>by simp [PyData.hasDict] at hd
theorem readsA_of (I:Inv X pins σ H s):∀ (ds:List PyData) {xs:List V} {us:List Value},RepA X.K H ds xs->Vals xs us->PyData.hasDictAll ds=false->∃ as,ReadsAll s.heap us ds as
 | [],xs,us,h,r,_=>by
  simp only [RepA] at h; subst h
  cases r
  exact ⟨_,.nil⟩
 | d :: ds,xs,us,h,r,hd=>by
  simp only [RepA] at h
  obtain ⟨v,vr,e,h1,h2⟩:=h
  subst e
  simp only [PyData.hasDictAll,Bool.or_eq_false_iff] at hd
  cases r with
  | cons r1 r2 =>
   obtain ⟨as,q1⟩:=reads_of I d h1 r1 hd.1
   obtain ⟨bs,q2⟩:=readsA_of I ds h2 r2 hd.2
   exact ⟨_,.cons q1 q2⟩
end
noncomputable def flatD:PyData->Bool
 | .none | .bool _ | .int _ | .str _=>true
 | _=>false
theorem reads_flat:∀ {d:PyData} {x:V} {u:Value} {h:Heap} {K:PySem.W.Frag} {H:Hp},flatD d=true->RepD K H d x->RelV x u->Reads h u d []
 | .none,x,u,h,K,H,_,e,r=>by simp only [RepD] at e; subst e; cases (show u=Value.none from r); exact .none
 | .bool b,x,u,h,K,H,_,e,r=>by simp only [RepD] at e; subst e; cases (show u=Value.bool b from r); exact .bool b
 | .int i,x,u,h,K,H,_,e,r=>by simp only [RepD] at e; subst e; obtain ⟨t,z⟩:=(show ∃ t,u=Value.int i t from r); subst z; exact .int i t
 | .str i,x,u,h,K,H,_,e,r=>by simp only [RepD] at e; subst e; obtain ⟨t,z⟩:=(show ∃ t,u=Value.str i t from r); subst z; exact .str i t
 | .list _,_,_,_,_,_,f,_,_=>nomatch f
 | .tuple _,_,_,_,_,_,f,_,_=>nomatch f
 | .dict _,_,_,_,_,_,f,_,_=>nomatch f
theorem pairs_reads {P:Program}{w:World}{h:Heap}{K:PySem.W.Frag}{H:Hp}:∀ {kvs:List (PyData×PyData)} {l:List (Key×V)} {vs:List (Key×Value)} {es:List DictEntry},(kvs.all λ p=>flatD p.2)=true->RepK K H kvs l->KV l vs->Pairs (mixKind P w) es vs ->
  ReadsAll h (es.map (·.key)) (kvs.map (·.1)) []/\ReadsAll h (es.map (·.val)) (kvs.map (·.2)) []
 | [],l,vs,es,_,r,kv,p=>by
  simp only [RepK] at r; subst r
  cases kv
  cases p
  exact ⟨.nil,.nil⟩
 | (k,d) :: kvs,l,vs,es,f,r,kv,p=>by
  simp only [RepK] at r
  obtain ⟨key,v,lr,e,ek,r1,r2⟩:=r
  subst e
  rw [List.all_cons,Bool.and_eq_true] at f
  cases kv with
  | cons q1 q2 =>
   rename_i kv0 vs0
   obtain ⟨k0,u0⟩:=kv0
   obtain ⟨q1,q3⟩:=q1
   cases p with
   | cons p1 p2 p3 =>
    rename_i en es0
    obtain ⟨i1,i2⟩:=pairs_reads f.2 r2 q2 p3
    have rk:Reads h en.key k []:=by
     have hk:keyIs k0 en.key=true:=p1
     have hk0:key=k0:=q1
     subst hk0
     rw [ek]
     rcases keyIs_shape hk with ⟨i,t,z1,z2⟩ | ⟨i,t,z1,z2⟩
     ·subst z1; rw [z2]; exact .int i t
     ·subst z1; rw [z2]; exact .str i t
    have rv:Reads h en.val d []:=by
     rw [p2]
     exact reads_flat f.1 r1 q3
    exact ⟨.cons rk i1,.cons rv i2⟩
noncomputable def reprOk (d:PyData):Bool:=d.showable && decide (d.shown.length<=sizeLine) && decide (d.depth<=60) && (!d.hasDict || match d with
 | .dict kvs=>kvs.all λ p=>flatD p.2
 | _=>false)
theorem reads_repr (I:Inv X pins σ H s){d:PyData}{x:V}{u:Value}(h:RepD X.K H d x)(r:RelV x u)(ok:reprOk d=true):∃ as,Reads s.heap u d as/\(d.hasDict=true->sysModules ∉ as):=by
 simp only [reprOk,Bool.and_eq_true,Bool.or_eq_true] at ok
 cases hd:d.hasDict with
 | false =>
  obtain ⟨as,q⟩:=reads_of I d h r hd
  exact ⟨as,q,λ z=>absurd z (by simp)⟩
 | true =>
  have f:=ok.2.resolve_left (by simp [hd])
  cases d with
  | dict kvs =>
   simp only [RepD] at h
   obtain ⟨a,o,l,e,ha,rk⟩:=h
   subst e
   cases (show u=Value.ref a from r)
   obtain ⟨z,hs,vs,kv,o',es,ep,e1,e2,e3,e4,e5,e6⟩:=dk_rd I.hok (.inr ⟨o,ha⟩)
   obtain ⟨q1,q2⟩:=pairs_reads (h:=s.heap) f rk kv e5
   refine ⟨_,.dict e1 e2.1 e3 q1 q2,λ _ hm=>?_⟩
   simp only [List.append_nil] at hm
   have hm':sysModules=a:=by simpa using hm
   rw [<- hm'] at hs
   simp at hs
  | _=>exact absurd f (by simp)
noncomputable def eqOk (d:PyData):Bool:=SeqAt.shaped d && !d.hasDict
noncomputable def eqOk2:PyData->PyData->Bool
 | .str _,.str _=>true
 | d,d'=>eqOk d && eqOk d'
theorem eqOk2_cases {d d':PyData}(h:eqOk2 d d'=true):(∃ x y,d=.str x/\d'=.str y)\/(eqOk d=true/\eqOk d'=true):=by
 cases d with
 | str x =>
  cases d' with
  | str y=>exact .inl ⟨x,y,rfl,rfl⟩
  | _=>exact .inr (by simpa [eqOk2] using h)
 | _=>exact .inr (by simpa [eqOk2] using h)
theorem str_dec (x y:Str):decide (V.str x=V.str y)=PyData.eqv (.str x) (.str y):=by
 rw [PyData.eqv]
 by_cases e:x=y
 ·subst e; simp
 ·rw [decide_eq_false (λ z=>e (V.str.inj z))]
  exact (beq_eq_false_iff_ne.mpr e).symm
theorem op_eqD {k:Nat}(hr:RoomH k X.A):OpR X (compareOp .Eq) (λ x y H Q=>∃ d d',RepD X.K H d x/\RepD X.K H d' y/\eqOk2 d d'=true/\Q (.bl (PyData.eqv d d')) H):=by
 intro pins s σ H x y v u Q I rx ry h
 obtain ⟨d,d',h1,h2,o,q⟩:=h
 rcases eqOk2_cases o with ⟨a,b,e1,e2⟩ | ⟨o1,o2⟩
 ·subst e1; subst e2
  simp only [RepD] at h1 h2
  subst h1; subst h2
  exact op_eq pins s σ H _ _ v u Q I rx ry ⟨rfl,by rw [str_dec]; exact q⟩
 simp only [eqOk,Bool.and_eq_true,Bool.not_eq_true'] at o1 o2
 obtain ⟨as,r1⟩:=reads_of I d h1 rx o1.2
 obtain ⟨bs,r2⟩:=reads_of I d' h2 ry o2.2
 exact eq_dataH r1 r2 o1.1 o2.1 hr.units ⟨.bl _,H,I,rfl,q⟩
theorem op_neD {k:Nat}(hr:RoomH k X.A):OpR X (compareOp .NotEq) (λ x y H Q=>∃ d d',RepD X.K H d x/\RepD X.K H d' y/\eqOk2 d d'=true/\Q (.bl (!PyData.eqv d d')) H):=by
 intro pins s σ H x y v u Q I rx ry h
 obtain ⟨d,d',h1,h2,o,q⟩:=h
 rcases eqOk2_cases o with ⟨a,b,e1,e2⟩ | ⟨o1,o2⟩
 ·subst e1; subst e2
  simp only [RepD] at h1 h2
  subst h1; subst h2
  exact op_ne pins s σ H _ _ v u Q I rx ry ⟨rfl,by rw [str_dec]; exact q⟩
 simp only [eqOk,Bool.and_eq_true,Bool.not_eq_true'] at o1 o2
 obtain ⟨as,r1⟩:=reads_of I d h1 rx o1.2
 obtain ⟨bs,r2⟩:=reads_of I d' h2 ry o2.2
 exact ne_dataH r1 r2 o1.1 o2.1 hr.units ⟨.bl _,H,I,rfl,q⟩
noncomputable def tyD:PyData->String
 | .none => "NoneType"
 | .bool _ => "bool"
 | .int _ => "int"
 | .str _ => "str"
 | .list _ => "list"
 | .tuple _ => "tuple"
 | .dict _ => "dict"
inductive Ty6:String->Prop where
 | int:Ty6 "int" | bool:Ty6 "bool" | str:Ty6 "str" | list:Ty6 "list" | tuple:Ty6 "tuple" | dict:Ty6 "dict"
noncomputable def isiD (d:PyData)(T:String):Bool:=tyD d == T || (T == "int" && tyD d == "bool")
theorem isi_kit {K:PySem.W.Frag}(d:PyData){T:String}(h:Ty6 T):PySem.W.kitOne K (.type (tyD d)) (.type T)=some (isiD d T):=by
 cases h <;> cases d <;> rfl
theorem call_isiD:CallR X (.builtin "isinstance") (λ xs H Q=>∃ x d T,xs=[x,.ty T]/\RepD X.K H d x/\Ty6 T/\Q (.bl (isiD d T)) H):=by
 intro pins s σ H xs us Q I r h
 obtain ⟨x,d,T,rfl,rd,h6,q⟩:=h
 obtain ⟨u,w',rfl,rx,ry⟩:=vals2 r
 cases (show w'=Value.type T from ry)
 have e:=isi_kit (K:=X.K) d h6
 have fin:∀ tk,EP X pins σ Q (.bool (isiD d T)) { s with toks:=tk }:=λ tk=>⟨.bl _,H,I.tok _,rfl,q⟩
 generalize isiD d T=b at e fin
 cases d with
 | none=>simp only [RepD] at rd; subst rd; cases (show u=Value.none from rx); exact PySem.W.kia_one PySem.W.kitx_none I.kIn True.intro e (λ z=>nomatch z) fin
 | bool y=>simp only [RepD] at rd; subst rd; cases (show u=Value.bool y from rx); exact PySem.W.kia_one PySem.W.kitx_bool I.kIn True.intro e (λ z=>nomatch z) fin
 | int i=>simp only [RepD] at rd; subst rd; obtain ⟨t,z⟩:=(show ∃ t,u=Value.int i t from rx); subst z; exact PySem.W.kia_one PySem.W.kitx_int I.kIn True.intro e (λ z=>nomatch z) fin
 | str y=>simp only [RepD] at rd; subst rd; obtain ⟨t,z⟩:=(show ∃ t,u=Value.str y t from rx); subst z; exact PySem.W.kia_one PySem.W.kitx_str I.kIn True.intro e (λ z=>nomatch z) fin
 | list ds =>
  simp only [RepD] at rd
  obtain ⟨a,vs,z,hs,_⟩:=rd
  subst z
  cases (show u=Value.ref a from rx)
  obtain ⟨its,rv,⟨o,n,e1,e2,e3,e4⟩,hz⟩:=I.list hs.sq
  exact PySem.W.kia_one PySem.W.kitx_list I.kIn ⟨_,e1,e2⟩ e (λ z=>nomatch z) fin
 | tuple ds =>
  simp only [RepD] at rd
  obtain ⟨a,vs,z,hs,_⟩:=rd
  subst z
  cases (show u=Value.ref a from rx)
  obtain ⟨its,rv,⟨o,e1,e2,e3⟩,hz⟩:=I.tuple hs
  exact PySem.W.kia_one PySem.W.kitx_tuple I.kIn ⟨_,e1,e2⟩ e (λ z=>nomatch z) fin
 | dict kvs =>
  simp only [RepD] at rd
  obtain ⟨a,o,l,z,ha,_⟩:=rd
  subst z
  cases (show u=Value.ref a from rx)
  obtain ⟨_,hs,vs,kv,o',es,ep,e1,e2,_⟩:=dk_rd I.hok (.inr ⟨o,ha⟩)
  exact PySem.W.kia_one PySem.W.kitx_dict I.kIn ⟨_,e1,e2.1⟩ e (λ z=>nomatch z) fin
theorem bools_are {K:PySem.W.Frag}{H:Hp}:∀ {bs:List Bool} {vs:List V} {us:List Value},RepA K H (bs.map PyData.bool) vs->Vals vs us->LSm.BoolsAre us bs
 | [],vs,us,h,r=>by simp only [List.map_nil,RepA] at h; subst h; cases r; exact .nil
 | b :: bs,vs,us,h,r=>by
  simp only [List.map_cons,RepA] at h
  obtain ⟨v,vr,e,h1,h2⟩:=h
  subst e
  simp only [RepD] at h1
  subst h1
  cases r with
  | cons r1 r2=>cases (show _=Value.bool b from r1); exact .cons b (bools_are h2 r2)
theorem call_allD (hc:X.calm=true):CallR X (.builtin "all") (λ xs H Q=>∃ (x:V) (bs:List Bool),xs=[x]/\RepD X.K H (.list (bs.map PyData.bool)) x/\Q (.bl (bs.all id)) H):=by
 intro pins s σ H xs us Q I r h
 obtain ⟨x,bs,rfl,rd,q⟩:=h
 obtain ⟨u,rfl,rx⟩:=vals1 r
 simp only [RepD] at rd
 obtain ⟨a,vs,z,hs,ra⟩:=rd
 subst z
 cases (show u=Value.ref a from rx)
 obtain ⟨its,rv,pl,hz⟩:=I.list hs.sq
 obtain ⟨m,F⟩:=I.fr
 have N:News X.base X.env.locals s.heap []:=λ p hp=>nomatch hp
 have hb:=bools_are ra rv
 have hl:s.heap.IsList a its.toArray:=pl.isList
 have hlt:a < s.heap.objs.size:=by obtain ⟨_,e,_⟩:=hl; exact Heap.lt_size e
 refine call_all_walk (wpAny_pyIter_list hl ?_)
 refine ⟨s.heap.objs.size,[s.heap.objs.size,a],[s.heap.objs.size],its.toArray.size,_,_,λ i=>(bs[i]?).getD true,rfl,Walks.list (A:=X.A.in1) (I.ok.hd hc) _ a (Nat.ne_of_lt hlt) its.toArray,
  ⟨⟨_,Heap.get?_push_size _ rfl,rfl,rfl⟩,hl.push _⟩,λ i v s' Q' E' hP hQ=>?_,λ h' tk hk=>?_⟩
 ·obtain ⟨b,e,rfl⟩:=hb.get i v (by simpa using hP)
  simp only [e,Option.getD_some] at hQ
  exact wpAny_truthy_bool hQ
 ·have e:((List.range its.toArray.size).all λ i=>(bs[i]?).getD true)=bs.all id:=by
   rw [List.size_toArray,hb.length]; exact LSm.range_all bs
  rw [e]
  exact ⟨.bl _,H,I.kept (LSm.kept_iter hk),rfl,q⟩
end
end D
namespace D
open PySem PySem.Spec PyProof.Rows L2
section
variable {X:Cx}{K:PySem.W.Frag}
theorem OpR.or {f:Value->Value->Sem Value}{r r':R2}(h:OpR X f r)(h':OpR X f r'):OpR X f (λ x y H Q=>r x y H Q\/r' x y H Q):=by
 intro pins s σ H x y v u Q I rx ry q
 rcases q with q | q
 ·exact h pins s σ H x y v u Q I rx ry q
 ·exact h' pins s σ H x y v u Q I rx ry q
theorem OpD.or {r r':R2}{rd rd':W->W->MH->QD->Prop}(h:OpD K r rd)(h':OpD K r' rd'):OpD K (λ x y H Q=>r x y H Q\/r' x y H Q) (λ w w' M Q=>rd w w' M Q\/rd' w w' M Q):=by
 intro x y H w w' M Qd Q r1 r2 m q k
 rcases q with q | q
 ·exact .inl (h x y H w w' M Qd Q r1 r2 m q k)
 ·exact .inr (h' x y H w w' M Qd Q r1 r2 m q k)
noncomputable def rdI0 (g:Int->Int->PyData)(w:W)(w':W)(M:MH)(Q:QD):Prop:=∃ i j,w=.d (.int i)/\w'=.d (.int j)/\Q (.d (g i j)) M
noncomputable def rdI (C:Int->Int->Prop)(g:Int->Int->PyData)(w:W)(w':W)(M:MH)(Q:QD):Prop:=∃ i j,w=.d (.int i)/\w'=.d (.int j)/\C i j/\Q (.d (g i j)) M
theorem opd_I0 {g:Int->Int->V}{gd:Int->Int->PyData}(hg:∀ i j H,RepD K H (gd i j) (g i j)):OpD K (rI0 g) (rdI0 gd):=by
 intro x y H w w' M Qd Q r1 r2 m ⟨i,j,e1,e2,q⟩ k
 subst e1; subst e2
 simp only [RepW,RepD] at r1 r2
 exact ⟨i,j,r1,r2,k _ H (.d (gd i j)) M (Kp.refl H) (hg i j H) m q⟩
theorem opd_I {C:Int->Int->Prop}{g:Int->Int->V}{gd:Int->Int->PyData}(hg:∀ i j H,RepD K H (gd i j) (g i j)):OpD K (rI C g) (rdI C gd):=by
 intro x y H w w' M Qd Q r1 r2 m ⟨i,j,e1,e2,c,q⟩ k
 subst e1; subst e2
 simp only [RepW,RepD] at r1 r2
 exact ⟨i,j,r1,r2,c,k _ H (.d (gd i j)) M (Kp.refl H) (hg i j H) m q⟩
noncomputable def rdMul (w w':W)(M:MH)(Q:QD):Prop:=rdI CMul (λ i j=>.int (i * j)) w w' M Q
noncomputable def rdMod (w w':W)(M:MH)(Q:QD):Prop:=rdI (λ _ j=>0 < j) (λ i j=>.int (i % j)) w w' M Q
noncomputable def rdDiv (w w':W)(M:MH)(Q:QD):Prop:=rdI CDiv (λ i j=>.int (i / j)) w w' M Q
noncomputable def rdAdd (w:W)(w':W)(M:MH)(Q:QD):Prop:=rdI0 (λ i j=>.int (i+j)) w w' M Q\/∃ x y,w=.d (.str x)/\w'=.d (.str y)/\x.length+y.length<=sizeLine/\Q (.d (.str (x++y))) M
theorem opd_mul:OpD K (rI CMul λ i j=>.int (i * j)) rdMul:=opd_I λ _ _ _=>by simp [RepD]
theorem opd_mod:OpD K (rI (λ _ j=>0 < j) λ i j=>.int (i % j)) rdMod:=opd_I λ _ _ _=>by simp [RepD]
theorem opd_div:OpD K (rI CDiv λ i j=>.int (i / j)) rdDiv:=opd_I λ _ _ _=>by simp [RepD]
noncomputable def rStr2:R2:=λ x y H Q=>∃ i j,x=.str i/\y=.str j/\i.length+j.length<=sizeLine/\Q (.str (i++j)) H
theorem opd_addS:OpD K rStr2 (λ w w' M Q=>∃ x y,w=.d (.str x)/\w'=.d (.str y)/\x.length+y.length<=sizeLine/\Q (.d (.str (x++y))) M):=by
 intro x y H w w' M Qd Q r1 r2 m ⟨i,j,e1,e2,c,q⟩ k
 subst e1; subst e2
 simp only [RepW,RepD] at r1 r2
 exact ⟨i,j,r1,r2,c,k _ H (.d (.str (i++j))) M (Kp.refl H) (by simp [RepW,RepD]) m q⟩
theorem op_add2:OpR X (binaryOp .Add) (λ x y H Q=>rI0 (λ i j=>.int (i+j)) x y H Q\/rStr2 x y H Q):=OpR.or op_add op_add_str
theorem opd_add2:OpD K (λ x y H Q=>rI0 (λ i j=>.int (i+j)) x y H Q\/rStr2 x y H Q) rdAdd:=OpD.or (opd_I0 λ _ _ _=>by simp [RepD]) opd_addS
noncomputable def rS (g:Str->Str->Bool):R2:=λ x y H Q=>∃ i j,x=.str i/\y=.str j/\Q (.bl (g i j)) H
noncomputable def rdS (g:Str->Str->Bool)(w:W)(w':W)(M:MH)(Q:QD):Prop:=∃ i j,w=.d (.str i)/\w'=.d (.str j)/\Q (.d (.bool (g i j))) M
theorem opd_S {g:Str->Str->Bool}:OpD K (rS g) (rdS g):=by
 intro x y H w w' M Qd Q r1 r2 m ⟨i,j,e1,e2,q⟩ k
 subst e1; subst e2
 simp only [RepW,RepD] at r1 r2
 exact ⟨i,j,r1,r2,k _ H (.d (.bool (g i j))) M (Kp.refl H) (by simp [RepW,RepD]) m q⟩
theorem op_le_str:OpR X (compareOp .LtE) (rS λ x y=>!decide (y.cps.toList < x.cps.toList)):=by
 intro pins s σ H x y v u Q I rx ry h
 obtain ⟨i,j,rfl,rfl,q⟩:=h
 obtain ⟨t,rfl⟩:=rx
 obtain ⟨t',rfl⟩:=ry
 exact PySem.P.le_str ⟨.bl _,H,I,rfl,q⟩
noncomputable def rdLe (w:W)(w':W)(M:MH)(Q:QD):Prop:=rdI0 (λ i j=>.bool (decide (i<=j))) w w' M Q\/rdS (λ x y=>!decide (y.cps.toList < x.cps.toList)) w w' M Q
theorem op_le2:OpR X (compareOp .LtE) (λ x y H Q=>rI0 (λ i j=>.bl (decide (i<=j))) x y H Q\/rS (λ x y=>!decide (y.cps.toList < x.cps.toList)) x y H Q):=OpR.or op_le op_le_str
theorem opd_le2:OpD K (λ x y H Q=>rI0 (λ i j=>.bl (decide (i<=j))) x y H Q\/rS (λ x y=>!decide (y.cps.toList < x.cps.toList)) x y H Q) rdLe:=OpD.or (opd_I0 λ _ _ _=>by simp [RepD]) opd_S
noncomputable def rdLt (w w':W)(M:MH)(Q:QD):Prop:=rdI0 (λ i j=>.bool (decide (i < j))) w w' M Q
noncomputable def rdGt (w w':W)(M:MH)(Q:QD):Prop:=rdI0 (λ i j=>.bool (decide (j < i))) w w' M Q
noncomputable def rdGe (w w':W)(M:MH)(Q:QD):Prop:=rdI0 (λ i j=>.bool (decide (j<=i))) w w' M Q
theorem opd_lt:OpD K (rI0 λ i j=>.bl (decide (i < j))) rdLt:=opd_I0 λ _ _ _=>by simp [RepD]
theorem opd_gt:OpD K (rI0 λ i j=>.bl (decide (j < i))) rdGt:=opd_I0 λ _ _ _=>by simp [RepD]
theorem opd_ge:OpD K (rI0 λ i j=>.bl (decide (j<=i))) rdGe:=opd_I0 λ _ _ _=>by simp [RepD]
noncomputable def rdEq (w:W)(w':W)(M:MH)(Q:QD):Prop:=∃ d d',w=.d d/\w'=.d d'/\eqOk2 d d'=true/\Q (.d (.bool (PyData.eqv d d'))) M
theorem opd_eq:OpD K (λ x y H Q=>∃ d d',RepD K H d x/\RepD K H d' y/\eqOk2 d d'=true/\Q (.bl (PyData.eqv d d')) H) rdEq:=by
 intro x y H w w' M Qd Q r1 r2 m ⟨d,d',e1,e2,o1,q⟩ k
 subst e1; subst e2
 exact ⟨d,d',r1,r2,o1,k _ H (.d (.bool _)) M (Kp.refl H) (by simp [RepW,RepD]) m q⟩
noncomputable def inS (x y:Str):Bool:=!(Builtin.Str.occurrences y x 0 y.length 1).isEmpty
noncomputable def rdInS (w w':W)(M:MH)(Q:QD):Prop:=rdS inS w w' M Q
theorem opd_inS:OpD K (rS inS) rdInS:=opd_S
theorem op_inS:OpR X (compareOp .In) (rS inS):=op_in_str
noncomputable def fitW:W->Bool
 | .d (.str z)=>decide (z.length<=sizeLine)
 | _=>true
noncomputable def ixW (M:MH):W->Int->Option W
 | .d (.list ds),i=>(atI ds i).map W.d
 | .d (.tuple ds),i=>(atI ds i).map W.d
 | .d (.str z),i=>(atI z.cps.toList i).map λ c=>W.d (.str ⟨#[c]⟩)
 | .m a,i=>match M a with
  | some (.lst ws)=>atI ws i
  | some (.tup ws)=>atI ws i
  | _=>none
 | _,_=>none
inductive RIx (w:W) (w':W) (M:MH) (Q:QD):Prop
 | mk (i:Int) (x:W) (z0:w'=.d (.int i)) (z1:ixW M w i=some x) (z2:fitW w=true) (q:Q x M):RIx w w' M Q
noncomputable def rdIx (w:W)(w':W)(M:MH)(Q:QD):Prop:=RIx w w' M Q
theorem atI_repA {H:Hp}{ds:List PyData}{vs:List V}{i:Int}{d:PyData}(r:RepA K H ds vs)(e:atI ds i=some d):∃ v,atI vs i=some v/\RepD K H d v:=by
 unfold atI at e ⊢
 rw [r.length]
 cases q:ixN ds.length i with
 | none=>rw [q] at e; cases e
 | some j =>
  rw [q] at e
  exact r.get e
theorem atI_repWs {H:Hp}{ds:List W}{vs:List V}{i:Int}{d:W}(r:RepWs K H ds vs)(e:atI ds i=some d):∃ v,atI vs i=some v/\RepW K H d v:=by
 unfold atI at e ⊢
 rw [<- r.length]
 cases q:ixN ds.length i with
 | none=>rw [q] at e; cases e
 | some j =>
  rw [q] at e
  exact r.get e
theorem opd_ix:OpD K (rIx K) rdIx:=by
 intro x y H w w' M Qd Q r1 r2 m ⟨i,z,e2,ei,hf,q⟩ k
 subst e2
 simp only [RepW,RepD] at r2
 cases w with
 | t n=>simp [ixW] at ei
 | m a =>
  simp only [RepW] at r1
  simp only [ixW] at ei
  cases hm:M a with
  | none=>rw [hm] at ei; cases ei
  | some mo =>
   rw [hm] at ei
   cases mo with
   | lst ws =>
    obtain ⟨vs,e1,rw1⟩:=m a _ hm
    obtain ⟨v,e3,rv⟩:=atI_repWs rw1 ei
    exact .inl ⟨a,vs,i,v,r1,r2,SqL.of e1,e3,k v H z M (Kp.refl H) rv m q⟩
   | dic _=>cases ei
   | dct _=>cases ei
   | fdic _=>cases ei
   | ins _ _=>cases ei
   | tup ws =>
    obtain ⟨vs,e1,rw1⟩:=m a _ hm
    obtain ⟨v,e3,rv⟩:=atI_repWs rw1 ei
    exact .inr (.inl ⟨a,vs,i,v,r1,r2,.inl (.inl e1),e3,k v H z M (Kp.refl H) rv m q⟩)
   | flst _=>cases ei
   | exc _ _=>cases ei
   | code _ _=>cases ei
 | d d =>
  cases d with
  | list ds =>
   simp only [RepW,RepD] at r1
   obtain ⟨a,vs,e1,hs,ra⟩:=r1
   simp only [ixW] at ei
   cases h:atI ds i with
   | none=>rw [h] at ei; cases ei
   | some d =>
    rw [h] at ei
    cases ei
    obtain ⟨v,e3,rv⟩:=atI_repA ra h
    exact .inl ⟨a,vs,i,v,e1,r2,hs.sq,e3,k v H (.d d) M (Kp.refl H) rv m q⟩
  | tuple ds =>
   simp only [RepW,RepD] at r1
   obtain ⟨a,vs,e1,hs,ra⟩:=r1
   simp only [ixW] at ei
   cases h:atI ds i with
   | none=>rw [h] at ei; cases ei
   | some d =>
    rw [h] at ei
    cases ei
    obtain ⟨v,e3,rv⟩:=atI_repA ra h
    exact .inr (.inl ⟨a,vs,i,v,e1,r2,hs,e3,k v H (.d d) M (Kp.refl H) rv m q⟩)
  | str s =>
   simp only [RepW,RepD] at r1
   simp only [ixW] at ei
   cases h:atI s.cps.toList i with
   | none=>rw [h] at ei; cases ei
   | some c =>
    rw [h] at ei
    cases ei
    exact .inr (.inr ⟨s,i,c,r1,r2,of_decide_eq_true hf,h,k _ H (.d (.str ⟨#[c]⟩)) M (Kp.refl H) (by simp [RepW,RepD]) m q⟩)
  | _=>simp [ixW] at ei
theorem pe_frzO {e:Expr}{t:TE}(h:PE X e t):PE X e (λ σ H Q=>t σ H λ v H1=>Q v H1\/∃ p u,v=.ref p/\H1 p=some u/\Fz u/\∀ o,Q v (upd H1 p (.frz o u))):=by
 intro pins s σ H Q I hq
 refine thn (h pins s σ H _ I hq) λ v s1 hq39=>?_
 obtain ⟨x,H1,I1,r1,q⟩:=hq39
 rcases q with q | ⟨p,u,e1,e2,f,q⟩
 ·exact ⟨x,_,I1,r1,q⟩
 ·obtain ⟨o,I2⟩:=I1.freeze e2 f
  exact ⟨x,_,I2,r1,q o⟩
noncomputable def rSlS:V->Option Int->Option Int->Hp->VK->Prop:=λ x lo hi H Q=>∃ z,x=.str z/\z.length<=sizeLine/\Q (.str (Txt.slice z lo hi)) H
theorem sl_str:SlR X rSlS:=by
 intro pins s σ H x v vl vu lo hi sl Q I rx hs pl pu h
 obtain ⟨z,rfl,hz,q⟩:=h
 obtain ⟨t,rfl⟩:=rx
 have fin:∀ t' k,EP X pins σ Q (.str (Txt.slice z lo hi) t') { s with toks:=k }:=λ t' k=>⟨.str _,H,I.tok _,⟨_,rfl⟩,q⟩
 refine ⟨"str",_,F.slot_str_getitem.lookup,typeIs_str _ _ _,?_⟩
 cases pl with
 | none =>
  cases pu with
  | none=>exact wpAny_getItem_str_slice (l:=none) (u:=none) (st:=none) hs rfl (post_val_or_str ⟨Nat.le_trans (Txt.slice_le z _ _) hz,fin⟩)
  | int j uj=>exact wpAny_getItem_str_slice (l:=none) (u:=some (j,uj)) (st:=none) hs rfl (post_val_or_str ⟨Nat.le_trans (Txt.slice_le z _ _) hz,fin⟩)
 | int i ui =>
  cases pu with
  | none=>exact wpAny_getItem_str_slice (l:=some (i,ui)) (u:=none) (st:=none) hs rfl (post_val_or_str ⟨Nat.le_trans (Txt.slice_le z _ _) hz,fin⟩)
  | int j uj=>exact wpAny_getItem_str_slice (l:=some (i,ui)) (u:=some (j,uj)) (st:=none) hs rfl (post_val_or_str ⟨Nat.le_trans (Txt.slice_le z _ _) hz,fin⟩)
noncomputable abbrev TOd:=DS->MH->(Option Int->MH->Prop)->Prop
noncomputable def upO (K:PySem.W.Frag)(t:TOd):TO:=λ σ H Q=>∃ τ M Qd,Abs K H σ τ M/\t τ M Qd/\∀ b H' M',Kp H H'->MAbs K H' M'->Qd b M'->Q b H'
noncomputable abbrev POd (X:Cx)(e:Option Expr)(t:TOd):Prop:=PO X e (upO X.K t)
theorem po_w {e:Option Expr}{t t':TO}(h:PO X e t)(k:∀ σ H Q,t' σ H Q->t σ H Q):PO X e t':=λ pins s σ H Q I q=>h pins s σ H Q I (k σ H Q q)
noncomputable def dNoPart (_:DS)(M:MH)(Q:Option Int->MH->Prop):Prop:=Q none M
noncomputable def dPart (t:TD)(τ:DS)(M:MH)(Q:Option Int->MH->Prop):Prop:=t τ M λ w M1=>∃ i,w=.d (.int i)/\Q (some i) M1
theorem pod_none:POd X none dNoPart:=po_w po_none λ σ H Q ⟨τ,M,Qd,A,q,k⟩=>k none H M (Kp.refl H) A.mem q
theorem pod_some {e:Expr}{te:TD}(h:PD X e te):POd X (some e) (dPart te):=po_w (po_some h) λ σ H Q ⟨τ,M,Qd,A,q,k⟩=>⟨τ,M,_,A,q,λ v H1 w M1 kp r m hq40=>by
 obtain ⟨i,e,q1⟩:=hq40
 subst e
 simp only [RepW,RepD] at r
 exact ⟨i,r,k _ H1 M1 kp m q1⟩⟩
noncomputable def cutD {α:Type}(xs:List α)(lo hi:Option Int):List α:=(xs.drop (HT.sIx xs.length 0 lo)).take (HT.sIx xs.length xs.length hi - HT.sIx xs.length 0 lo)
noncomputable def wholeD (n:Nat)(lo hi:Option Int):Bool:=decide (HT.sIx n 0 lo=0/\HT.sIx n n hi=n)
noncomputable def slW:W->Option Int->Option Int->Option W
 | .d (.list ds),lo,hi=>some (.d (.list (cutD ds lo hi)))
 | .d (.tuple ds),lo,hi=>if wholeD ds.length lo hi then none else some (.d (.tuple (cutD ds lo hi)))
 | .d (.str z),lo,hi=>some (.d (.str (Txt.slice z lo hi)))
 | _,_,_=>none
noncomputable def dSl (te:TD)(tl th:TOd)(τ:DS)(M:MH)(Q:QD):Prop:=te τ M λ w M1=>tl τ M1 λ lo M2=>th τ M2 λ hi M3=>∃ z,slW w lo hi=some z/\fitW w=true/\Q z M3
theorem sl_any:SlR X (λ x lo hi H Q=>rSlL X.K x lo hi H Q\/rSlT X.K x lo hi H Q\/rSlS x lo hi H Q):=sl_list.or (sl_tup.or sl_str)
theorem RepA.cut {H:Hp}{ds:List PyData}{vs:List V}(r:RepA K H ds vs)(lo hi:Option Int):RepA K H (cutD ds lo hi) (cutV vs lo hi):=by
 unfold cutD cutV
 rw [r.length]
 exact (r.drop _).take _
theorem pd_slice {e:Expr}{te:TD}{lo hi:Option Expr}{tl th:TOd}{pos p2:Pos}(he:PD X e te)(hl:POd X lo tl)(hu:POd X hi th):PD X (.Subscript e (.Slice lo hi none p2) pos) (dSl te tl th) :=
 pe_w (pe_frzO (pe_slice sl_any he hl hu)) λ σ H Q h=>by
  obtain ⟨τ,M,Qd,A,h,k⟩:=h
  refine ⟨τ,M,_,A,h,λ v H1 w M1 kp1 r1 m1 q1=>⟨τ,M1,_,A.go kp1 m1,q1,λ lo H2 M2 kp2 m2 q2=>⟨τ,M2,_,A.go (kp1.trans kp2) m2,q2,λ hi H3 M3 kp3 m3 q3=>?_⟩⟩⟩
  obtain ⟨z,ez,hf,q⟩:=q3
  have kp:=(kp1.trans kp2).trans kp3
  have r:=r1.keep (kp2.trans kp3)
  cases w with
  | t n=>simp [slW] at ez
  | m a=>simp [slW] at ez
  | d d =>
   cases d with
   | list ds =>
    simp only [slW] at ez
    cases ez
    simp only [RepW,RepD] at r
    obtain ⟨a,vs,e1,hs,ra⟩:=r
    exact .inl ⟨a,vs,e1,hs.sq,λ p hp=>.inr (imp_frz hp (RepA.cut ra lo hi) m3 q (kgo k kp))⟩
   | tuple ds =>
    simp only [slW] at ez
    split at ez
    ·cases ez
    ·rename_i hw
     cases ez
     simp only [RepW,RepD] at r
     obtain ⟨a,vs,e1,hs,ra⟩:=r
     refine .inr (.inl ⟨a,vs,e1,hs,?_,λ p hp=>.inl ?_⟩)
     ·rw [ra.length]
      simpa [wholeD] using hw
     ·refine k _ _ (.d (.tuple _)) M3 (kp.trans (Kp.new hp)) ?_ (m3.new hp) q
      simp only [RepW,RepD]
      exact ⟨p,_,rfl,.inl (.inl upd_same),(RepA.cut ra lo hi).keep (Kp.new hp)⟩
   | str s =>
    simp only [slW] at ez
    cases ez
    simp only [RepW,RepD] at r
    exact .inr (.inr ⟨s,r,of_decide_eq_true hf,.inl (k _ H3 (.d (.str _)) M3 kp (by simp [RepW,RepD]) m3 q)⟩)
   | _=>simp [slW] at ez
noncomputable def gSet (to ti:TD)(v:W)(τ:DS)(M:MH)(Q:DS->MH->Prop):Prop:=to τ M λ w M1=>ti τ M1 λ w' M2=>∃ a ws i j,w=.m a/\w'=.d (.int i)/\M2 a=some (.lst ws)/\ixN ws.length i=some j/\Q τ (updM M2 a (.lst (ws.set j v)))
theorem set_rep {H:Hp}{M:MH}{a:Addr}{ws:List W}{vs:List V}{j:Nat}{v:V}{w:W}(m:MAbs K H M)(e:H a=some (.lst vs))(rw1:RepWs K H ws vs)(rv:RepW K H w v) :
  Kp H (upd H a (.lst (vs.set j v)))/\MAbs K (upd H a (.lst (vs.set j v))) (updM M a (.lst (ws.set j w))):=by
 have kp:Kp H (upd H a (.lst (vs.set j v))):=Kp.set e (λ xs z=>nomatch z) λ _ _ z=>nomatch z
 exact ⟨kp,m.put kp ⟨_,upd_same,(RepWs.set rv j rw1).keep kp⟩⟩
theorem pgd_sub {o i:Expr}{to ti:TD}{pos:Pos}(ho:PD X o to)(hi:PD X i ti)
  (ha:∀ v,assign (.Subscript o i pos) X.env v=(do
   let ov <- holding [v] (eval o X.env)
   let iv <- holding [v,ov] (eval i X.env)
   standAt pos
   holding [v,ov,iv] (setItem ov iv v)
   release [v,ov,iv] []):=by intro _; rfl):PGd X (.Subscript o i pos) (gSet to ti):=pg_w (pg_sub ho hi set_list ha) λ v σ H Q h=>by
 obtain ⟨w,τ,M,Qd,rv,A,h,k⟩:=h
 refine ⟨τ,M,_,A,h,λ x H1 wo M1 kp1 r1 m1 q1=>⟨τ,M1,_,A.go kp1 m1,q1,λ y H2 wi M2 kp2 r2 m2 q2=>?_⟩⟩
 obtain ⟨a,ws,i,j,e1,e2,hm,hj,q⟩:=q2
 subst e1; subst e2
 simp only [RepW,RepD] at r1 r2
 obtain ⟨vs,e3,rw1⟩:=m2 a _ hm
 have kp:=kp1.trans kp2
 obtain ⟨kp3,m3⟩:=set_rep (j:=j) m2 e3 rw1 (rv.keep kp)
 exact ⟨a,vs,i,j,r1,r2,e3,by rw [<- rw1.length]; exact hj,k σ _ τ _ (kp.trans kp3) (A.go (kp.trans kp3) m3) q⟩
theorem get_list:PGet X (rIxL X.K):=by
 intro pins s σ H o i ov iv Q I ro ri h
 obtain ⟨p,xs,k,z,rfl,rfl,hq,he,q⟩:=h
 cases ro
 obtain ⟨t,rfl⟩:=ri
 obtain ⟨its,r,pl,hz⟩:=I.list hq
 obtain ⟨j,h1,h2,h3,h4,h5⟩:=atI_get he
 obtain ⟨w,ew,rw'⟩:=r.get h2
 have hl:=r.length
 have hn:=line63
 have fin:EP X pins σ Q w s:=⟨z,H,I,rw',q⟩
 by_cases h0:0<=k
 ·have hj:k.toNat=j:=by
   rw [seqIndex_of h0 h5] at h1
   exact Option.some.inj h1
  exact wpAny_getItem_list pl.isList h0 (by omega) (by rw [hj]; simpa using ew) fin
 ·have hj:(k+(its.toArray.size:Int)).toNat=j:=by
   rw [seqIndex_neg (by omega) h4] at h1
   rw [List.size_toArray,<- hl]
   exact Option.some.inj h1
  exact wpAny_getItem_list_neg pl.isList (by omega) (by rw [List.size_toArray] <;> omega) (by omega) (by rw [hj]; simpa using ew) fin
noncomputable def dAugS (to ti te:TD)(f:Int->Int->Int)(D:Ed)(τ:DS)(M:MH):Prop:=to τ M λ w M1=>ti τ M1 λ w' M2=>∃ a ws i j n,w=.m a/\w'=.d (.int i)/\M2 a=some (.lst ws)/\ixN ws.length i=some j/\ws[j]? = some (.d (.int n)) /\
 te τ M2 λ y M3=>∃ n',y=.d (.int n')/\M3=M2/\D.nx τ (updM M3 a (.lst (ws.set j (.d (.int (f n n'))))))
theorem psd_augS {o i e:Expr}{to ti te:TD}{op:Operator}{f:Int->Int->Int}{pos tpos:Pos}(ho:PD X o to)(hi:PD X i ti)(he:PD X e te)(hp:PIp X op (ipI f))
  (ha:∀ ov iv new,augStore i ov iv new=(do holding [new,ov,iv] (setItem ov iv new); release [new,ov,iv] []; pure .next):=by intros; rfl):PSd X (.AugAssign (.Subscript o i tpos) op e pos) (dAugS to ti te f) :=
 ps_w (ps_augS ho hi get_list he hp set_list ha) λ D σ H h=>by
  obtain ⟨τ,M,Dd,A,h,k1,_⟩:=h
  refine ⟨τ,M,_,A,h,λ x H1 wo M1 kp1 r1 m1 q1=>⟨τ,M1,_,A.go kp1 m1,q1,λ y H2 wi M2 kp2 r2 m2 q2=>?_⟩⟩
  obtain ⟨a,ws,i,j,n,e1,e2,hm,hj,hn,q⟩:=q2
  subst e1; subst e2
  simp only [RepW,RepD] at r1 r2
  obtain ⟨vs,e3,rw1⟩:=m2 a _ hm
  obtain ⟨v,e4,rv⟩:=rw1.get hn
  simp only [RepW,RepD] at rv
  have hj':ixN vs.length i=some j:=by rw [<- rw1.length]; exact hj
  refine ⟨a,vs,i,v,r1,r2,SqL.of e3,by unfold atI; rw [hj']; exact e4,?_⟩
  refine ⟨τ,M2,_,A.go (kp1.trans kp2) m2,q,λ z H3 wz M3 kp3 r3 m3 q3=>?_⟩
  obtain ⟨n',e5,e6,qn⟩:=q3
  subst e5; subst e6
  simp only [RepW,RepD] at r3
  refine ⟨n,n',rv,r3,?_⟩
  obtain ⟨vs',e3',rw2⟩:=m3 a _ hm
  have kp:=(kp1.trans kp2).trans kp3
  obtain ⟨kp4,m4⟩:=set_rep (j:=j) (v:=.int (f n n')) (w:=.d (.int (f n n'))) m3 e3' rw2 (by simp [RepW,RepD])
  exact ⟨a,vs',i,j,r1,r2,e3',by rw [<- rw2.length]; exact hj,k1 σ _ τ _ (kp.trans kp4) (A.go (kp.trans kp4) m4) qn⟩
end
end D
namespace D
open PySem PySem.Spec PyProof.Rows L2
section
variable {X:Cx}{K:PySem.W.Frag}{tg:Expr}
noncomputable def Its (z:Str):It:=⟨λ i _=>i < z.cps.size,λ i H x H'=>H'=H/\∃ c,z.cps[i]? = some c/\x=.str ⟨#[c]⟩,λ i _=>z.cps.size<=i⟩
theorem turn_str {P:Program}{w:World}{K:PySem.W.Frag}{tg:Expr}(it:Addr)(T:String)(z:Str)(t:Tok)
  (hT:["enumerate", "zip", "dict_itemiterator", "dict_reverseitemiterator", "odict_iterator", "itertools.zip_longest", "itertools.pairwise"].contains T=false)
  (W:∀ A:Around,A.handled=none->Walks P w A it [it] [it] z.cps.size (SignAt z) (λ i h=>h.IsStrIter it T z t i))(hself:∀ (A:Around) (i:Nat) (s:Shared) (Q:Value->Shared->Prop) (E:Value->Shared->Prop),s.heap.IsStrIter it T z t i->Q (.ref it) s->wpAny (model P w) A (pyIter (.ref it)) Q E s)
  (hend:∀ (A:Around) (i:Nat) (s:Shared) (Q:Option Value->Shared->Prop) (E:Value->Shared->Prop),A.handled=none->s.heap.IsStrIter it T z t i->z.cps[i]? = none->(∀ h',Heap.ExtBut it s.heap h'->Q none { s with heap:=h' })->wpAny (model P w) A (pyNext (.ref it)) Q E s) :
  Turn P w K tg (Its z) [it] it (λ i h=>h.IsStrIter it T z t i) where
 mem:=by simp
 obj:=λ i h st b hb=>by
  have e:b=it:=by simpa using hb
  subst e
  obtain ⟨o,e,c,d⟩:=st
  exact ⟨o,e,λ v q=>by rw [d] at q; cases q⟩
 keep:=λ i h h' st k=>by
  obtain ⟨o,e,r⟩:=st
  exact ⟨o,k it (by simp) o e,r⟩
 item:=by
  intro X hP hw hK hc i pins s σ H E I hf st hg
  subst hP hw hK
  obtain ⟨f0,f1,f2,f3,f4,f5⟩:=hf it (by simp)
  refine (W X.A (I.ok.hd hc)).item i s _ _ hg st λ v h' tk hv st' kk=>?_
  obtain ⟨c,u,hc',rfl⟩:=hv
  have I1:Inv X pins σ H { s with heap:=h',toks:=tk }:=I.turned (λ b o hb e=>kk b o (by simpa using hb) e) f0 f1 f3 f4 f5
  obtain ⟨o,e,cl,d⟩:=id st'
  exact ⟨_,rfl,go_of (s:={ s with heap:=h',toks:=tk }) e cl d hT ⟨.str ⟨#[c]⟩,H,I1,⟨u,rfl⟩,⟨rfl,c,hc',rfl⟩,st',λ b hb=>(hf b hb).1⟩⟩
 done:=by
  intro X hP hw hK hc i pins s σ H E I hf st hg
  subst hP hw hK
  obtain ⟨f0,f1,f2,f3,f4,f5⟩:=hf it (by simp)
  have hn:z.cps.size<=i:=hg
  exact hend X.A i s _ E (I.ok.hd hc) st (by simp [hn]) λ h' eb=>⟨rfl,I.turned (t':=s.toks) (λ b o hb e=>eb b o hb e) f0 f1 f3 f4 f5⟩
 self:=hself
section
variable {pins:List (Addr×Obj)}{σ:St}{H:Hp}{s:Shared}{R:It->Hp->Prop}{E:Value->Shared->Prop}
theorem it_str {z:Str}{t:Tok}(I:Inv X pins σ H s)(q:R (Its z) H):wpAny (model X.prog X.w) X.A (pyIter (.str z t)) (PIE X pins σ tg R) E s:=by
 cases ha:z.cps.all (· < 128)
 ·refine wpAny_pyIter_wide ha ?_
  refine ⟨s.heap.objs.size,[s.heap.objs.size],_,_,H,rfl,I.kept (t':=s.toks) λ b o e=>Heap.get?_push_of_some _ e,
   turn_str _ "str_iterator" z t (by decide) (λ A hA=>Walks.strWide hA _ z t) (λ A i s Q E st h=>wpAny_pyIter_striter_wide st h) (λ A i s Q E hh st hx hQ=>wpAny_pyNext_wide_end hh st hx hQ),⟨_,Heap.get?_push_size _ rfl,rfl,rfl⟩,λ b hb=>?_,q⟩
  have e:b=s.heap.objs.size:=by simpa using hb
  subst e
  exact I.fpOk (Nat.le_refl _) (I.hok.fresh (Nat.le_refl _))
 ·refine wpAny_pyIter_ascii ha ?_
  refine ⟨s.heap.objs.size,[s.heap.objs.size],_,_,H,rfl,I.kept (t':=s.toks) λ b o e=>Heap.get?_push_of_some _ e,
   turn_str _ "str_ascii_iterator" z t (by decide) (λ A hA=>Walks.strAscii hA _ z t) (λ A i s Q E st h=>wpAny_pyIter_striter_ascii st h) (λ A i s Q E hh st hx hQ=>wpAny_pyNext_ascii_end hh st hx hQ),⟨_,Heap.get?_push_size _ rfl,rfl,rfl⟩,λ b hb=>?_,q⟩
  have e:b=s.heap.objs.size:=by simpa using hb
  subst e
  exact I.fpOk (Nat.le_refl _) (I.hok.fresh (Nat.le_refl _))
theorem it_list {a:Addr}{xs:List V}(I:Inv X pins σ H s)(hq:SqL X.K H a xs)(q:R (Itl X.K a) H):wpAny (model X.prog X.w) X.A (pyIter (.ref a)) (PIE X pins σ tg R) E s:=by
 obtain ⟨its,rv,p,hz⟩:=I.list hq
 refine wpAny_pyIter_list p.isList ?_
 refine ⟨s.heap.objs.size,[s.heap.objs.size],_,_,H,rfl,I.kept (t':=s.toks) λ b o e=>Heap.get?_push_of_some _ e,turn_list a _,⟨_,Heap.get?_push_size _ rfl,rfl,rfl⟩,λ b hb=>?_,q⟩
 have e:b=s.heap.objs.size:=by simpa using hb
 subst e
 exact I.fpOk (Nat.le_refl _) (I.hok.fresh (Nat.le_refl _))
theorem it_tup {a:Addr}{xs:List V}(I:Inv X pins σ H s)(hq:SqT X.K H a xs)(q:R (Itt X.K a) H):wpAny (model X.prog X.w) X.A (pyIter (.ref a)) (PIE X pins σ tg R) E s:=by
 obtain ⟨its,rv,p,hz⟩:=I.tuple hq
 refine wpAny_pyIter_tuple (show s.heap.IsTuple a its.toArray from p) ?_
 refine ⟨s.heap.objs.size,[s.heap.objs.size],_,_,H,rfl,I.kept (t':=s.toks) λ b o e=>Heap.get?_push_of_some _ e,turn_tuple a _,⟨_,Heap.get?_push_size _ rfl,rfl,rfl⟩,λ b hb=>?_,q⟩
 have e:b=s.heap.objs.size:=by simpa using hb
 subst e
 exact I.fpOk (Nat.le_refl _) (I.hok.fresh (Nat.le_refl _))
end
noncomputable def iAny (K:PySem.W.Frag)(tl:TE):TI:=λ σ H R=>tl σ H λ x H1=>(∃ a xs,x=.ref a/\SqL K H1 a xs/\R (Itl K a) H1)\/(∃ a xs,x=.ref a/\SqT K H1 a xs/\R (Itt K a) H1)\/∃ z,x=.str z/\R (Its z) H1
theorem pi_any {l:Expr}{tl:TE}(hl:PE X l tl):PI X tg l (iAny X.K tl):=by
 intro pins s σ H R I h
 refine thn (hl pins s σ H _ I h) λ v s1 hq41=>?_
 obtain ⟨x,H1,I1,r1,q1⟩:=hq41
 rcases q1 with ⟨a,xs,e,hq,q⟩ | ⟨a,xs,e,hq,q⟩ | ⟨z,e,q⟩
 ·subst e; cases r1; exact it_list I1 hq q
 ·subst e; cases r1; exact it_tup I1 hq q
 ·subst e; obtain ⟨t,rfl⟩:=r1; exact it_str I1 q
noncomputable def ItD (K:PySem.W.Frag)(J:It)(H0:Hp)(ws:List W):Prop:=∀ H,Kp H0 H->∀ i:Nat,(i < ws.length->J.go i H)/\(ws.length<=i->J.stop i H) /\
 ∀ x H',i < ws.length->J.yld i H x H'->Kp H H'/\(∀ M,MAbs K H M->MAbs K H' M)/\∃ w,ws[i]? = some w/\RepW K H' w x
noncomputable abbrev TId:=DS->MH->(List W->MH->Prop)->Prop
noncomputable def upI (K:PySem.W.Frag)(t:TId):TI:=λ σ H R=>∃ τ M Rd,Abs K H σ τ M/\t τ M Rd/\∀ J H' ws M',Kp H H'->MAbs K H' M'->ItD K J H' ws->Rd ws M'->R J H'
noncomputable abbrev PId (X:Cx)(tg iter:Expr)(t:TId):Prop:=PI X tg iter (upI X.K t)
theorem pi_w {iter:Expr}{t t':TI}(h:PI X tg iter t)(k:∀ σ H R,t' σ H R->t σ H R):PI X tg iter t':=λ pins s σ H R I q=>h pins s σ H R I (k σ H R q)
noncomputable def itemsW:W->Option (List W)
 | .d (.list ds)=>some (ds.map W.d)
 | .d (.tuple ds)=>some (ds.map W.d)
 | .d (.str z)=>some (z.cps.toList.map λ c=>W.d (.str ⟨#[c]⟩))
 | _=>none
noncomputable def dItems (te:TD)(τ:DS)(M:MH)(R:List W->MH->Prop):Prop:=te τ M λ w M1=>∃ ws,itemsW w=some ws/\R ws M1
theorem itd_tup {H:Hp}{a:Addr}{vs:List V}{ds:List PyData}(hs:SqT K H a vs)(ra:RepA K H ds vs):ItD K (Itt K a) H (ds.map W.d):=λ H1 kp i=>by
 have hl:=ra.length
 refine ⟨λ hi=>?_,λ hi=>⟨vs,SqT.keep kp hs,by rw [List.length_map] at hi; omega⟩,λ x H' hi y=>?_⟩
 ·rw [List.length_map] at hi
  exact ⟨vs,vs[i]'(by omega),SqT.keep kp hs,by simp⟩
 ·obtain ⟨e,y⟩:=y
  subst e
  have ev:=y vs (SqT.keep kp hs)
  obtain ⟨d,e1,rd⟩:=(ra.keep kp).get' ev
  exact ⟨Kp.refl _,λ M m=>m,.d d,by simp [e1],rd⟩
theorem itd_str {H:Hp}(z:Str):ItD K (Its z) H (z.cps.toList.map λ c=>W.d (.str ⟨#[c]⟩)):=λ H1 kp i=>by
 refine ⟨λ hi=>(show i < z.cps.size by simpa using hi),λ hi=>(show z.cps.size<=i by simpa using hi),λ x H' hi y=>?_⟩
 obtain ⟨e,c,hc,ex⟩:=y
 subst e; subst ex
 exact ⟨Kp.refl _,λ M m=>m,.d (.str ⟨#[c]⟩),by simp [hc],by simp [RepW,RepD]⟩
theorem itd_rng {H:Hp}(lo:Int)(n:Nat):ItD K (Itr lo n) H ((List.range n).map λ i:Nat=>W.d (.int (lo+(i:Int)))):=λ H1 kp i=>by
 refine ⟨λ hi=>(show i < n by simpa using hi),λ hi=>(show n<=i by simpa using hi),λ x H' hi y=>?_⟩
 obtain ⟨e,ex⟩:=y
 subst e; subst ex
 simp at hi
 exact ⟨Kp.refl _,λ M m=>m,.d (.int (lo+i)),by simp [hi],by simp [RepW,RepD]⟩
theorem pid_items {l:Expr}{te:TD}(h:PD X l te):PId X tg l (dItems te):=pi_w (pi_any h) λ σ H R hq42=>by
 obtain ⟨τ,M,Rd,A,h,k⟩:=hq42
 refine ⟨τ,M,_,A,h,λ v H1 w M1 kp r m hq43=>?_⟩
 obtain ⟨ws,e,q⟩:=hq43
 cases w with
 | t n=>simp [itemsW] at e
 | m a=>simp [itemsW] at e
 | d d =>
  cases d with
  | list ds =>
   simp only [itemsW] at e
   cases e
   simp only [RepW,RepD] at r
   obtain ⟨a,vs,e1,hs,ra⟩:=r
   refine .inl ⟨a,vs,e1,hs.sq,k _ H1 _ M1 kp m ?_ q⟩
   intro H2 kp2 i
   have hl:=ra.length
   have hs2:=(hs.keep kp2).sq
   refine ⟨λ hi=>?_,λ hi=>⟨vs,hs2,by rw [List.length_map] at hi; omega⟩,λ x H' hi y=>?_⟩
   ·rw [List.length_map] at hi
    exact ⟨vs,vs[i]'(by omega),hs2,by simp⟩
   ·obtain ⟨e,y⟩:=y
    subst e
    have ev:=y vs hs2
    obtain ⟨d,e1,rd⟩:=(ra.keep kp2).get' ev
    exact ⟨Kp.refl _,λ M m=>m,.d d,by simp [e1],rd⟩
  | tuple ds =>
   simp only [itemsW] at e
   cases e
   simp only [RepW,RepD] at r
   obtain ⟨a,vs,e1,hs,ra⟩:=r
   exact .inr (.inl ⟨a,vs,e1,hs,k _ H1 _ M1 kp m (itd_tup hs ra) q⟩)
  | str z =>
   simp only [itemsW] at e
   cases e
   simp only [RepW,RepD] at r
   exact .inr (.inr ⟨z,r,k _ H1 _ M1 kp m (itd_str z) q⟩)
  | _=>simp [itemsW] at e
noncomputable def rangeW (lo:Int)(n:Nat):List W:=(List.range n).map λ i:Nat=>W.d (.int (lo+(i:Int)))
noncomputable def dRng1 (ta:TAd)(τ:DS)(M:MH)(R:List W->MH->Prop):Prop:=ta τ M λ ws M1=>∃ j:Int,ws=[.d (.int j)]/\-(2 ^ 62)<=j/\j < 2 ^ 62/\R (rangeW 0 j.toNat) M1
theorem repWs1 {H:Hp}{vs:List V}{w:W}(r:RepWs K H [w] vs):∃ v,vs=[v]/\RepW K H w v:=by
 cases r with
 | cons r1 r2=>cases r2; exact ⟨_,rfl,r1⟩
theorem repWs2 {H:Hp}{vs:List V}{w w':W}(r:RepWs K H [w,w'] vs):∃ v v',vs=[v,v']/\RepW K H w v/\RepW K H w' v':=by
 cases r with
 | cons r1 r2 =>
  cases r2 with
  | cons r3 r4=>cases r4; exact ⟨_,_,rfl,r1,r3⟩
theorem pid_range1 {a:Expr}{ta:TAd}{p pos:Pos}(hg:Gl X "range")(hm:X.mg "range" = none)(ha:PAd X [a] ta)(hs:starEach [a] X.env=[(false,eval a X.env)]:=by rfl):PId X tg (.Call (.Name "range" p) [a] [] pos) (dRng1 ta) :=
 pi_w (pi_range1 hg hm ha hs) λ σ H R ⟨τ,M,Rd,A,h,k⟩=>⟨τ,M,_,A,h,λ vs H1 ws M1 kp r m hq44=>by
  obtain ⟨j,e,h1,h2,q⟩:=hq44
  subst e
  obtain ⟨v,e1,r1⟩:=repWs1 r
  simp only [RepW,RepD] at r1
  subst r1
  exact ⟨j,e1,h1,h2,k _ H1 _ M1 kp m (itd_rng 0 j.toNat) q⟩⟩
noncomputable def dFor (di:TId)(g:TGd)(tb:TSd)(D:Ed)(τ:DS)(M:MH):Prop:=di τ M λ ws M1=>∃ P:Nat->DS->MH->Prop,P 0 τ M1 /\
 (∀ i w τ M,ws[i]? = some w->P i τ M->g w τ M λ τ2 M2=>tb { D with nx:=P (i+1),ct:=P (i+1),bk:=D.nx } τ2 M2)/\∀ τ M,P ws.length τ M->D.nx τ M
theorem psd_for {iter:Expr}{body:List Stmt}{di:TId}{g:TGd}{tb:TSd}{pos:Pos}(hp:PassesOwn (model X.prog X.w) X.A X.env X.xe)(hc:X.calm=true)(hi:PId X tg iter di)(hg:PGd X tg g)(hb:PSsd X body tb)
  (hs:∀ x,foldedSetIterable iter X.env x=pure x:=by intro _; rfl):PSd X (.For tg iter body [] pos) (dFor di g tb):=ps_w (ps_for hp hc hi hg hb hs) λ D σ H hq45=>by
 obtain ⟨τ,M,Dd,A,h,k1,k2,k3,k4⟩:=hq45
 refine ⟨τ,M,_,A,h,λ J H1 ws M1 kp m1 it hq46=>?_⟩
 obtain ⟨P,p0,pt,pe⟩:=hq46
 refine ⟨λ i n σ H'=>n=ws.length - i/\i<=ws.length/\Kp H1 H'/\∃ τ M,Abs X.K H' σ τ M/\P i τ M,⟨ws.length,by simp,Nat.zero_le _,Kp.refl _,τ,M1,A.go kp m1,p0⟩,?_⟩
 rintro i n σ2 H2 ⟨rfl,hi,kp2,τ2,M2,A2,p2⟩
 obtain ⟨go,stop,yld⟩:=it H2 kp2 i
 by_cases hlt:i < ws.length
 ·refine .inr ⟨go hlt,λ σ3 H3=>Kp H2 H3/\∃ τ M,Abs X.K H3 σ3 τ M/\P (i+1) τ M,λ σ3 H3 ⟨kp3,τ3,M3,A3,p3⟩=>⟨ws.length - (i+1),by omega,rfl,hlt,kp2.trans kp3,τ3,M3,A3,p3⟩,λ x H3 y=>?_⟩
  obtain ⟨kp3,mk,w,ew,rw⟩:=yld x H3 hlt y
  refine ⟨w,τ2,M2,_,rw,A2.go kp3 (mk _ A2.mem),pt i w τ2 M2 ew p2,λ σ4 H4 τ4 M4 kp4 A4 q4=>?_⟩
  have kq:=kp3.trans kp4
  have kr:=(kp.trans kp2).trans kq
  exact ⟨τ4,M4,_,A4,q4,λ σ5 H5 τ5 M5 kp5 A5 q5=>⟨kq.trans kp5,τ5,M5,A5,q5⟩,λ v H5 w M5 kp5=>k2 v H5 w M5 (kr.trans kp5),λ σ5 H5 τ5 M5 kp5=>k1 σ5 H5 τ5 M5 (kr.trans kp5),λ σ5 H5 τ5 M5 kp5 A5 q5=>⟨kq.trans kp5,τ5,M5,A5,q5⟩⟩
 ·have hl:i=ws.length:=by omega
  subst hl
  exact .inl ⟨stop (Nat.le_refl _),k1 σ2 H2 τ2 M2 (kp.trans kp2) A2 (pe τ2 M2 p2)⟩
noncomputable def lcSD (k:Nat)(fr:List Nat)(τ:DS):DS:=List.replicate k none++fr.map λ j=>(τ[j]?).getD none
theorem abs_lc {H:Hp}{σ:St}{τ:DS}{M:MH}(A:Abs K H σ τ M)(k:Nat)(fr:List Nat):Abs K H (lcS k fr σ) (lcSD k fr τ) M:=by
 refine ⟨by simp [lcS,lcSD],λ i w e=>?_,A.mem⟩
 unfold lcSD at e
 by_cases hi:i < k
 ·rw [List.getElem?_append_left (by simpa using hi),List.getElem?_replicate] at e
  split at e <;> cases e
 ·rw [List.getElem?_append_right (by simpa using hi),List.getElem?_map,List.length_replicate] at e
  cases q:fr[i - k]? with
  | none=>rw [q] at e; cases e
  | some j =>
   rw [q] at e
   have e':(τ[j]?).getD none=some w:=Option.some.inj e
   have e2:τ[j]? = some (some w):=by
    cases z:τ[j]? with
    | none=>rw [z] at e'; cases e'
    | some o=>rw [z] at e'; exact congrArg some e'
   obtain ⟨v,q1,r⟩:=A.val j w e2
   refine ⟨v,?_,r⟩
   unfold lcS
   rw [List.getElem?_append_right (by simpa using hi),List.getElem?_map,List.length_replicate,q]
   simp [q1]
noncomputable def dLC (di:TId)(g:TGd)(tt:TTd)(te:TD)(k:Nat)(fr:List Nat)(τ:DS)(M:MH)(Q:QD):Prop:=di τ M λ ws M1=>∃ P:Nat->List PyData->DS->MH->Prop,P 0 [] (lcSD k fr τ) M1 /\
 (∀ i w acc τ M,ws[i]? = some w->P i acc τ M->acc.length < sizeLine/\g w τ M λ τ2 M2=>tt τ2 M2 λ b M3=>if b=true then te τ2 M3 λ y M4=>∃ d,y=.d d/\P (i+1) (acc++[d]) τ2 M4 else P (i+1) acc τ2 M3) /\
 ∀ acc τ M,P ws.length acc τ M->Q (.d (.list acc)) M
theorem imp_lc {di:TId}{g:TGd}{tt:TTd}{te:TD}{k:Nat}{fr:List Nat}{σ:St}{H:Hp}{Q:VK}(h:up K (dLC di g tt te k fr) σ H Q) :
  tFrz (tLC (upI K di) (upG K g) (upT K tt) (up K te) k fr) σ H Q:=by
 obtain ⟨τ,M,Qd,A,h,kk⟩:=h
 refine ⟨τ,M,_,A,h,λ J H1 ws M1 kp m1 it hq47=>?_⟩
 obtain ⟨P,p0,pt,pe⟩:=hq47
 refine ⟨λ i n ys σ' H'=>n=ws.length - i/\i<=ws.length/\Kp H1 H'/\∃ acc τ M,RepA K H' acc ys/\Abs K H' σ' τ M/\P i acc τ M,⟨ws.length,by simp,Nat.zero_le _,Kp.refl _,[],_,M1,by simp [RepA],abs_lc (A.go kp m1) k fr,p0⟩,?_⟩
 rintro i n ys σ2 H2 ⟨rfl,hi,kp2,acc,τ2,M2,ra,A2,p2⟩
 obtain ⟨go,stop,yld⟩:=it H2 kp2 i
 by_cases hlt:i < ws.length
 ·have hlen:=ra.length
  refine .inr ⟨go hlt,?_,λ x H3 y=>?_⟩
  ·obtain ⟨w,hw⟩:∃ w,ws[i]? = some w:=⟨ws[i],by simp [hlt]⟩
   have:=(pt i w acc τ2 M2 hw p2).1
   omega
  obtain ⟨kp3,mk,w,ew,rw⟩:=yld x H3 hlt y
  refine ⟨w,τ2,M2,_,rw,A2.go kp3 (mk _ A2.mem),(pt i w acc τ2 M2 ew p2).2,λ σ4 H4 τ4 M4 kp4 A4 q4=>⟨τ4,M4,_,A4,q4,λ b H5 M5 kp5 m5 q5=>?_⟩⟩
  have kq:=(kp3.trans kp4).trans kp5
  cases b with
  | false =>
   rw [if_neg Bool.false_ne_true] at q5
   show (if false=true then _ else _)
   rw [if_neg Bool.false_ne_true]
   exact ⟨ws.length - (i+1),by omega,rfl,hlt,kp2.trans kq,acc,τ4,M5,ra.keep kq,A4.go kp5 m5,q5⟩
  | true =>
   rw [if_pos rfl] at q5
   show (if true=true then _ else _)
   rw [if_pos rfl]
   refine ⟨τ4,M5,_,A4.go kp5 m5,q5,λ v H6 wv M6 kp6 r6 m6 hq48=>?_⟩
   obtain ⟨d,e6,q6⟩:=hq48
   subst e6
   refine ⟨ws.length - (i+1),by omega,rfl,hlt,kp2.trans (kq.trans kp6),acc++[d],τ4,M6,RepA.append (ra.keep (kq.trans kp6)) ?_,A4.go (kp5.trans kp6) m6,q6⟩
   simp only [RepA]
   exact ⟨v,[],rfl,r6,rfl⟩
 ·have hl:i=ws.length:=by omega
  subst hl
  exact .inl ⟨stop (Nat.le_refl _),λ p hp=>imp_frz hp ra A2.mem (pe acc τ2 M2 p2) (kgo kk (kp.trans kp2))⟩
section
variable {sc:Scope}{own:List Str}{fr:List Nat}{elt iter:Expr}{ifs:List Expr}{pos:Pos}{di:TId}{g:TGd}{tt:TTd}{te:TD}
noncomputable abbrev PTsd (X:Cx)(ifs:List Expr)(t:TTd):Prop:=PTs X ifs (upT X.K t)
noncomputable def dYes (_:DS)(M:MH)(Q:Bool->MH->Prop):Prop:=Q true M
theorem ptsd_nil:PTsd X [] dYes:=λ pins s σ H Q I ⟨τ,M,Qd,A,q,k⟩=>pts_nil pins s σ H Q I (k true H M (Kp.refl H) A.mem q)
theorem ptsd_one {c:Expr}{t:TTd}(h:PTd X c t):PTsd X [c] t:=pts_one h
theorem pd_lc (hc:X.calm=true)(L:LcOk X sc own fr)(hi:PId X tg iter di)
  (hg:∀ cl C s H ex pl,PGd (blk X sc (lcN X own fr) cl C s H ex pl) tg g)(ht:∀ cl C s H ex pl,PTsd (blk X sc (lcN X own fr) cl C s H ex pl) ifs tt)(he:∀ cl C s H ex pl,PD (blk X sc (lcN X own fr) cl C s H ex pl) elt te)
  (hs:∀ x,foldedSetIterable iter X.env x=pure x:=by intro _; rfl):PD X (.ListComp elt [⟨tg,iter,ifs,0⟩] sc pos) (dLC di g tt te own.length fr) :=
 pe_w (pe_frz (pe_lc hc L hi hg ht he hs)) λ σ H Q h=>imp_lc h
theorem ps_frz {st:Stmt}{t:TS}(h:PS X st t):PS X st (λ D σ H=>t { D with nx:=λ σ' H'=>∃ p u,H' p=some u/\Fz u/\∀ o,D.nx σ' (upd H' p (.frz o u)) } σ H):=by
 intro pins s σ H D I hq
 refine thn (h pins s σ H _ I hq) λ f s1 q=>?_
 cases f with
 | next =>
  obtain ⟨σ',H',I',p,u,e,fz,q⟩:=q
  obtain ⟨o,I2⟩:=I'.freeze e fz
  exact ⟨σ',_,I2,q o⟩
 | brk=>exact q
 | cont=>exact q
 | ret v=>exact q
theorem psd_setLC {i:Nat}{x:Str}{pos' spos:Pos}(hN:X.N.Nodup)(hi':X.N[i]? = some x)(hx:Loc X.env.scope x)(hc:X.calm=true)(L:LcOk X sc own fr)(hi:PId X tg iter di)
  (hg:∀ cl C s H ex pl,PGd (blk X sc (lcN X own fr) cl C s H ex pl) tg g)(ht:∀ cl C s H ex pl,PTsd (blk X sc (lcN X own fr) cl C s H ex pl) ifs tt)(he:∀ cl C s H ex pl,PD (blk X sc (lcN X own fr) cl C s H ex pl) elt te)
  (hsw:swapsWith (.ListComp elt [⟨tg,iter,ifs,0⟩] sc pos) (some (.Name x pos')) spos.line X.env=pure true:=by rfl)
  (hs:∀ x,foldedSetIterable iter X.env x=pure x:=by intro _; rfl)(hf:X.fn x=true\/X.env.scope.names.lookup x=some .local:=by first | exact .inl rfl | exact .inr rfl | assumption) :
  PSd X (.Assign [.Name x pos'] (.ListComp elt [⟨tg,iter,ifs,0⟩] sc pos) spos) (dAsg (dLC di g tt te own.length fr) (gN i)):=ps_w (ps_frz (ps_setLC hN hi' hx hc L hi hg ht he hsw hs hf)) λ D σ H hq49=>by
 obtain ⟨τ,M,Dd,A,h,k1,_⟩:=hq49
 have z:up X.K (dLC di g tt te own.length fr) σ H (λ v H'=>D.nx (σ.set i (some v)) H'):=⟨τ,M,_,A,h,λ v H1 w M1 kp r m q=>k1 _ H1 _ M1 kp ((A.go kp m).set i r) q⟩
 obtain ⟨τ',M',R',A',h',k'⟩:=imp_lc z
 refine ⟨τ',M',R',A',h',λ J H1 ws M1 kp m1 it q=>?_⟩
 obtain ⟨W,w0,st⟩:=k' J H1 ws M1 kp m1 it q
 refine ⟨W,w0,λ i m ys τ H w=>?_⟩
 rcases st i m ys τ H w with ⟨s1,s2⟩ | r
 ·refine .inl ⟨s1,λ p hp=>?_⟩
  obtain ⟨p',u,e1,e2,f,q⟩:=s2 p hp
  cases e1
  exact ⟨p,u,e2,f,q⟩
 ·exact .inr r
end
end
end D
namespace D
open PySem PySem.Spec PyProof.Rows L2
section
variable {X:Cx}{K:PySem.W.Frag}
noncomputable def rdAbs (ws:List W)(M:MH)(Q:QD):Prop:=∃ i:Int,ws=[.d (.int i)]/\Q (.d (.int (if i < 0 then -i else i))) M
theorem cd_abs:CallD K (λ xs H Q=>∃ i,xs=[.int i]/\Q (.int (if i < 0 then -i else i)) H) rdAbs:=by
 intro vs H ws M Qd Q r m ⟨i,e,q⟩ k
 subst e
 obtain ⟨v,e1,r1⟩:=repWs1 r
 simp only [RepW,RepD] at r1
 subst r1
 exact ⟨i,e1,k _ H (.d (.int _)) M (Kp.refl H) (by simp [RepW,RepD]) m q⟩
noncomputable def lenW (M:MH):W->Option Nat
 | .d (.list ds)=>some ds.length
 | .d (.tuple ds)=>some ds.length
 | .d (.str z)=>some z.length
 | .m a=>match M a with
  | some (.lst ws)=>some ws.length
  | _=>none
 | _=>none
noncomputable def rdLen (ws:List W)(M:MH)(Q:QD):Prop:=∃ w n,ws=[w]/\lenW M w=some n/\fitW w=true/\Q (.d (.int (n:Nat))) M
theorem cd_len:CallD K (λ xs H Q=>∃ x n,xs=[x]/\LenV K x H n/\Q (.int n) H) rdLen:=by
 intro vs H ws M Qd Q r m ⟨w,n,e,hn,hf,q⟩ k
 subst e
 obtain ⟨v,e1,r1⟩:=repWs1 r
 refine ⟨v,n,e1,?_,k _ H (.d (.int _)) M (Kp.refl H) (by simp [RepW,RepD]) m q⟩
 cases w with
 | t _=>simp [lenW] at hn
 | m a =>
  simp only [RepW] at r1
  subst r1
  simp only [lenW] at hn
  cases hm:M a with
  | none=>rw [hm] at hn; cases hn
  | some mo =>
   rw [hm] at hn
   cases mo with
   | lst l=>cases hn; obtain ⟨us,e2,rw1⟩:=m a _ hm; exact .inl ⟨us,SqL.of e2,rw1.length⟩
   | dic _=>cases hn
   | dct _=>cases hn
   | fdic _=>cases hn
   | ins _ _=>cases hn
   | tup _=>cases hn
   | flst _=>cases hn
   | exc _ _=>cases hn
   | code _ _=>cases hn
 | d d =>
  cases d with
  | list ds=>simp only [lenW] at hn; cases hn; simp only [RepW,RepD] at r1; obtain ⟨a,us,e2,hs,ra⟩:=r1; subst e2; exact .inl ⟨us,hs.sq,ra.length.symm⟩
  | tuple ds=>simp only [lenW] at hn; cases hn; simp only [RepW,RepD] at r1; obtain ⟨a,us,e2,hs,ra⟩:=r1; subst e2; exact .inr ⟨us,hs,ra.length.symm⟩
  | str z=>simp only [lenW] at hn; cases hn; simp only [RepW,RepD] at r1; subst r1; exact ⟨of_decide_eq_true hf,rfl⟩
  | _=>simp [lenW] at hn
noncomputable def rdAll (ws:List W)(M:MH)(Q:QD):Prop:=∃ bs:List Bool,ws=[.d (.list (bs.map PyData.bool))]/\Q (.d (.bool (bs.all id))) M
theorem cd_all:CallD K (λ xs H Q=>∃ (x:V) (bs:List Bool),xs=[x]/\RepD K H (.list (bs.map PyData.bool)) x/\Q (.bl (bs.all id)) H) rdAll:=by
 intro vs H ws M Qd Q r m ⟨bs,e,q⟩ k
 subst e
 obtain ⟨v,e1,r1⟩:=repWs1 r
 exact ⟨v,bs,e1,r1,k _ H (.d (.bool _)) M (Kp.refl H) (by simp [RepW,RepD]) m q⟩
theorem strs_are {H:Hp}:∀ {ys:List Str} {vs:List V} {us:List Value},RepA K H (ys.map PyData.str) vs->Vals vs us->StrsAre us ys
 | [],vs,us,h,r=>by simp only [List.map_nil,RepA] at h; subst h; cases r; exact .nil
 | y :: ys,vs,us,h,r=>by
  simp only [List.map_cons,RepA] at h
  obtain ⟨v,vr,e,h1,h2⟩:=h
  subst e
  simp only [RepD] at h1
  subst h1
  cases r with
  | cons r1 r2 =>
   obtain ⟨t,e⟩:=(show ∃ t,_=Value.str y t from r1)
   subst e
   exact .cons _ _ (strs_are h2 r2)
noncomputable def MtD (K:PySem.W.Frag)(r:V->List V->Hp->VK->Prop)(rd:W->List W->MH->QD->Prop):Prop:=∀ x vs H w ws M Qd Q,RepW K H w x->RepWs K H ws vs->MAbs K H M->rd w ws M Qd->Kont K H Qd Q->r x vs H Q
noncomputable def dMS (rd:W->List W->MH->QD->Prop)(to:TD)(t:TAd)(τ:DS)(M:MH)(Q:QD):Prop:=to τ M λ w M1=>(∃ z,w=.d (.str z))/\t τ M1 λ ws M2=>rd w ws M2 Q
theorem pd_ms {o e:Expr}{es:List Expr}{to:TD}{t:TAd}{name:Str}{apos cpos:Pos}{id:String}{r:V->List V->Hp->VK->Prop}{rd:W->List W->MH->QD->Prop}(slot:Slot "str" name id)(hty:typeOf (.builtin id)=pure (.type "method_descriptor"))(hm:MtR X id r)(hd:MtD X.K r rd)(ho:PD X o to)(ha:PAd X (e :: es) t)
  (hbase:attributeBase o name X.env (eval o X.env)=eval o X.env:=by rfl)
  (hfew:((backTo cpos (starEach (e :: es) X.env)).all (λ x=>!x.1) && (backToKw cpos (keywordEach [] X.env)).all (λ x=>x.1.isSome)
   && decide ((e :: es).length+([]:List Keyword).length+(if ([]:List Keyword).isEmpty then 0 else 1) < 30))=true:=by rfl)
  (hline:(apos.endLine == cpos.line)=true:=by rfl)(hs:starEach (e :: es) X.env=(false,eval e X.env) :: starEach es X.env:=by rfl)(hplain:(backTo cpos (starEach es X.env)).any (·.1)=false:=by rfl) :
  PD X (.Call (.Attribute o name apos) (e :: es) [] cpos) (dMS rd to t):=pe_w (pe_bm PySem.F.plainAttrs_str slot hty hm ho ha hbase hfew hline hs hplain) λ σ H Q hq50=>by
 obtain ⟨τ,M,Qd,A,h,k⟩:=hq50
 refine ⟨τ,M,_,A,h,λ x H1 w M1 kp1 r1 m1 hq51=>?_⟩
 obtain ⟨⟨z,ez⟩,q1⟩:=hq51
 subst ez
 have r1':=r1
 simp only [RepW,RepD] at r1'
 subst r1'
 exact ⟨rfl,τ,M1,_,A.go kp1 m1,q1,λ vs H2 ws M2 kp2 r2 m2 q2=>hd _ vs H2 _ ws M2 Qd Q (r1.keep kp2) r2 m2 q2 (kgo k (kp1.trans kp2))⟩
noncomputable def rJoin (K:PySem.W.Frag):V->List V->Hp->VK->Prop:=λ x vs H Q=>∃ (sep:Str) (v:V) (ys:List Str),x=.str sep/\vs=[v]/\RepD K H (.list (ys.map PyData.str)) v/\(ys.map (·.length)).sum+ys.length * sep.length<=16777216/\Q (.str (Txt.join sep ys)) H
theorem mt_join:MtR X "str.join" (rJoin X.K):=by
 intro pins s σ H x vs v us Q I rx rv h
 obtain ⟨sep,y,ys,rfl,rfl,rd,hz,q⟩:=h
 obtain ⟨t,rfl⟩:=rx
 obtain ⟨u,rfl,ru⟩:=vals1 rv
 simp only [RepD] at rd
 obtain ⟨a,xs,e,hs,ra⟩:=rd
 subst e
 cases (show u=Value.ref a from ru)
 obtain ⟨its,r,pl,hz'⟩:=I.list hs.sq
 exact join_list pl.isList (by simpa using strs_are ra r) hz λ t' k=>⟨.str _,H,I.tok _,⟨_,rfl⟩,q⟩
noncomputable def rdJoin (w:W)(ws:List W)(M:MH)(Q:QD):Prop:=∃ (sep:Str) (ys:List Str),w=.d (.str sep)/\ws=[.d (.list (ys.map PyData.str))]/\(ys.map (·.length)).sum+ys.length * sep.length<=16777216/\Q (.d (.str (Txt.join sep ys))) M
theorem md_join:MtD K (rJoin K) rdJoin:=by
 intro x vs H w ws M Qd Q r1 r2 m ⟨sep,ys,e1,e2,hz,q⟩ k
 subst e1; subst e2
 obtain ⟨v,e3,r3⟩:=repWs1 r2
 simp only [RepW,RepD] at r1
 exact ⟨sep,v,ys,r1,e3,r3,hz,k _ H (.d (.str _)) M (Kp.refl H) (by simp [RepW,RepD]) m q⟩
theorem pd_join {o e:Expr}{to te:TD}{apos cpos:Pos}(ho:PD X o to)(ha:PD X e te)
  (hbase:attributeBase o "join" X.env (eval o X.env)=eval o X.env:=by rfl)(hs:starEach [e] X.env=[(false,eval e X.env)]:=by rfl)
  (hfew:((backTo cpos (starEach [e] X.env)).all (λ x=>!x.1) && (backToKw cpos (keywordEach [] X.env)).all (λ x=>x.1.isSome)
   && decide (([e]:List Expr).length+([]:List Keyword).length+(if ([]:List Keyword).isEmpty then 0 else 1) < 30))=true:=by rfl)
  (hline:(apos.endLine == cpos.line)=true:=by rfl) :
  PD X (.Call (.Attribute o "join" apos) [e] [] cpos) (dMS rdJoin to (dCons te dNil)):=pd_ms PySem.F.slot_str_join PySem.F.type_str_join mt_join md_join ho (pad_cons ha pad_nil hs) hbase hfew hline hs
noncomputable def dDict0 (_:DS)(M:MH)(Q:QD):Prop:=Q (.d (.dict [])) M
theorem pd_dict0 {pos:Pos}:PD X (.Dict [] [] pos) dDict0:=pe_w (pe_frz pe_dnewK) λ σ H Q ⟨τ,M,Qd,A,q,k⟩=>λ p hp=>by
 refine ⟨p,_,rfl,upd_same,trivial,λ o=>?_⟩
 rw [upd_upd]
 refine k _ _ (.d (.dict [])) M (Kp.new hp) ?_ (A.mem.new hp) q
 simp only [RepW,RepD,RepK]
 exact ⟨p,o,[],rfl,upd_same,rfl⟩
noncomputable def dPairs:List (TD×TD)->DS->MH->(List (W×W)->MH->Prop)->Prop
 | [],_,M,Q=>Q [] M
 | (tk,tv) :: r,τ,M,Q=>tk τ M λ x M1=>tv τ M1 λ y M2=>dPairs r τ M2 λ ps M3=>Q ((x,y) :: ps) M3
theorem imp_pairs:∀ {trs:List (TD×TD)} {σ:St} {H:Hp} {τ:DS} {M:MH} {Qd:List (W×W)->MH->Prop} {Q:List (V×V)->Hp->Prop},Abs K H σ τ M->dPairs trs τ M Qd ->
  (∀ ps H' ws M',Kp H H'->Paired (λ (p:W×W) (q:V×V)=>RepW K H' p.1 q.1/\RepW K H' p.2 q.2) ws ps->MAbs K H' M'->Qd ws M'->Q ps H')->tPairs (trs.map λ p=>(up K p.1,up K p.2)) σ H Q
 | [],σ,H,τ,M,Qd,Q,A,h,k=>k [] H [] M (Kp.refl H) .nil A.mem h
 | (tk,tv) :: r,σ,H,τ,M,Qd,Q,A,h,k=>by
  show (up K tk) σ H _
  refine ⟨τ,M,_,A,h,λ x H1 w M1 kp1 r1 m1 q1=>⟨τ,M1,_,A.go kp1 m1,q1,λ y H2 w' M2 kp2 r2 m2 q2=>?_⟩⟩
  refine imp_pairs (A.go (kp1.trans kp2) m2) q2 λ ps H3 ws M3 kp3 r3 m3 q3=>?_
  exact k _ H3 _ M3 ((kp1.trans kp2).trans kp3) (.cons ⟨r1.keep (kp2.trans kp3),r2.keep kp3⟩ r3) m3 q3
noncomputable def dDict (trs:List (TD×TD))(τ:DS)(M:MH)(Q:QD):Prop:=∀ p,M p=none->dPairs trs τ (updM M p (.dic [])) λ ps M2=>M2=updM M p (.dic [])/\∃ kvs:List (Key×PyData),ps=kvs.map (λ q=>(W.d (keyD q.1),W.d q.2))/\kvs.length<=15/\(kvs.map (·.1)).Nodup /\
 Q (.d (.dict (kvs.map λ q=>(keyD q.1,q.2)))) M
theorem mergeK_new:∀ {more kvs:List (Key×V)},((kvs++more).map (·.1)).Nodup->mergeK kvs more=kvs++more
 | [],kvs,_=>by simp [mergeK]
 | p :: r,kvs,h=>by
  have hn:valV kvs p.1=none:=by
   cases e:valV kvs p.1 with
   | none=>rfl
   | some v =>
    have q:(kvs.any λ kv=>decide (kv.1=p.1))=true:=by rw [valV_any,e]; rfl
    obtain ⟨z,hz,ez⟩:=List.any_eq_true.mp q
    rw [List.map_append,List.nodup_append] at h
    exact absurd (of_decide_eq_true ez) (h.2.2 _ (List.mem_map_of_mem hz) _ (by simp))
  show mergeK (putK kvs p.1 p.2) r=_
  rw [putK_new _ hn,mergeK_new (by simpa using h)]
  simp
theorem key_rep {H:Hp}{key:Key}{v:V}(r:RepD K H (keyD key) v):v=kV key:=by
 cases key <;> (simp only [keyD,RepD] at r; exact r)
theorem pairs_key {H:Hp}:∀ {kvs:List (Key×PyData)} {ps:List (V×V)},Paired (λ (p:W×W) (q:V×V)=>RepW K H p.1 q.1/\RepW K H p.2 q.2) (kvs.map λ q=>(W.d (keyD q.1),W.d q.2)) ps ->
  ∃ l:List (Key×V),ps=l.map (λ kv=>(kV kv.1,kv.2))/\l.map (·.1)=kvs.map (·.1)/\RepK K H (kvs.map λ q=>(keyD q.1,q.2)) l
 | [],ps,h=>by cases h; exact ⟨[],rfl,rfl,by simp [RepK]⟩
 | (k,d) :: kvs,ps,h=>by
  cases h with
  | cons r t =>
   rename_i q qs
   obtain ⟨x,y⟩:=q
   obtain ⟨l,e1,e2,e3⟩:=pairs_key t
   refine ⟨(k,y) :: l,?_,by simp [e2],?_⟩
   ·rw [List.map_cons,<- e1,<- key_rep r.1]
   ·simp only [List.map_cons,RepK]
    exact ⟨k,y,l,rfl,rfl,r.2,e3⟩
theorem pd_dict {pos:Pos}{keys:List (Option Expr)}{values:List Expr}{trs:List (TD×TD)}(h:PPs X pos keys values (trs.map λ p=>(up X.K p.1,up X.K p.2)))(hall:keys.all (·.isSome)=true:=by rfl)(hl:keys.length=values.length:=by rfl)(h0:keys≠[]:=by simp)
  (h15:keys.length<=15:=by decide):PD X (.Dict keys values pos) (dDict trs):=pe_w (pe_frz (pe_disp h hall hl h0 h15)) λ σ H Q ⟨τ,M,Qd,A,q,k⟩=>λ p hp=>by
 have kp0:Kp H (upd H p (.dK [])):=Kp.new hp
 have m0:MAbs X.K (upd H p (.dK [])) (updM M p (.dic [])):=A.mem.put (mo:=.dic []) kp0 ⟨[],upd_same,.nil⟩
 have hM:=A.mem.free hp
 refine imp_pairs (A.go kp0 m0) (q p hM) λ ps H2 ws M2 kp2 r2 m2 hq52=>?_
 obtain ⟨eM,kvs,ews,hlen,hnd,qq⟩:=hq52
 subst eM; subst ews
 obtain ⟨l0,e0,pr0⟩:=m2 p _ updM_same
 have el0:l0=[]:=by cases pr0; rfl
 subst el0
 obtain ⟨l,e1,e2,e3⟩:=pairs_key r2
 have elen:l.length=kvs.length:=by
  have:=congrArg List.length e2
  simpa using this
 refine ⟨e0,l,e1,by omega,p,_,rfl,upd_same,trivial,λ o=>?_⟩
 have em:mergeK [] l=l:=by rw [mergeK_new (by simpa [e2] using hnd)]; rfl
 rw [upd_upd,em]
 have kp3:Kp H2 (upd H2 p (.frz o (.dK l))):=Kp.set e0 (λ xs z=>nomatch z) λ _ _ z=>nomatch z
 refine k _ _ (.d (.dict _)) M ((kp0.trans kp2).trans kp3) ?_ (λ a mo hm=>?_) qq
 ·simp only [RepW,RepD]
  exact ⟨p,o,l,rfl,upd_same,e3.keep kp3⟩
 ·have hne:a≠p:=λ z=>by rw [z,hM] at hm; cases hm
  exact (m2 a mo (by rw [updM_ne hne]; exact hm)).keep kp3 λ u z=>by rw [upd_ne hne]; exact z
end
end D
namespace D
open PySem PySem.Spec PyProof.Rows L2
structure Fn (K:PySem.W.Frag)(mg:Str->Option Value)(x:Str)(st:Stmt)(ps:List Str)(f:Addr)(fd:FuncData):Prop where
 fn:Fun K x x st f fd
 mg:mg x=some (.ref f)
 bd:Binds K fd ps []
section
variable {K:PySem.W.Frag}{mg:Str->Option Value}{h:Heap}
theorem fn_mk {x:Str}{st:Stmt}{ps:List Str}{f:Addr}{oc:Value}{od an:Option Addr}{osl:Array (Option Value)}{kV doc pm cdv ct:Value}(X:K.In h)(G:h.Ns mainGlobals mg)(a:PySem.W.nsIn K mainGlobals x=some (some (.ref f)))
  (l:K.lookup f=some ⟨oc,od,.func (PySem.W.fnOf x x (defArgs st) (defBody st) (defScope st) .none kV doc pm an cdv ct),osl⟩)(c:PySem.W.codeIn K cdv x=true)(k:PySem.W.keepIn K (.ref f)=true)
  (b:∀ (kV doc pm:Value) (an:Option Addr) (cdv ct:Value) (us:List Value),us.length=ps.length->bindArgs (PySem.W.fnOf x x (defArgs st) (defBody st) (defScope st) .none kV doc pm an cdv ct) ⟨us,[]⟩=pure (ps.zip us)) :
  Fn K mg x st ps f (PySem.W.fnOf x x (defArgs st) (defBody st) (defScope st) .none kV doc pm an cdv ct) :=
 have F:=fun_mk (st:=st) l c k
 ⟨F,PySem.W.mg_of X G a,F.binds b⟩
end
noncomputable def lcOkB (sc scX:Scope)(N:List Str)(fr:List Nat):Bool :=
 (sc.kind == .function) && sc.names.all (λ y=>!(y.2 == .cell)) && sc.names.all (λ y=>!(y.2 == .free) || scX.names.lookup y.1 == some .cell || scX.names.lookup y.1 == some .free) &&
  sc.names.all (λ y=>!(y.2 == .local) || sc.names.lookup y.1 == some .local) && frOk N sc fr
theorem lcOk {X:Cx}{sc:Scope}{own:List Str}{fr:List Nat}(h:lcOkB sc X.env.scope X.N fr=true):LcOk X sc own fr:=by
 simp only [lcOkB,Bool.and_eq_true] at h
 obtain ⟨⟨⟨⟨h1,h2⟩,h3⟩,h4⟩,h5⟩:=h
 refine ⟨eq_of_beq h1,λ y hy e=>?_,λ y hy e=>?_,λ y hy e=>?_,h5⟩
 ·have:=List.all_eq_true.mp h2 y hy
  simp [e] at this
 ·have:=List.all_eq_true.mp h3 y hy
  simp only [e,beq_self_eq_true,Bool.not_true,Bool.false_or,Bool.or_eq_true] at this
  rcases this with z | z
  ·exact .inl (eq_of_beq z)
  ·exact .inr (eq_of_beq z)
 ·have:=List.all_eq_true.mp h4 y hy
  simp only [e,beq_self_eq_true,Bool.not_true,Bool.false_or] at this
  exact eq_of_beq this
theorem bt_str:bootBuiltins "str" = some (.type "str"):=by decide +kernel
theorem bt_list:bootBuiltins "list" = some (.type "list"):=by decide +kernel
theorem bt_tuple:bootBuiltins "tuple" = some (.type "tuple"):=by decide +kernel
theorem bt_dict:bootBuiltins "dict" = some (.type "dict"):=by decide +kernel
theorem bb_len:bootBuiltins "len" = some (.builtin "len"):=by decide +kernel
theorem bb_abs:bootBuiltins "abs" = some (.builtin "abs"):=by decide +kernel
theorem bb_repr:bootBuiltins "repr" = some (.builtin "repr"):=by decide +kernel
theorem bb_all:bootBuiltins "all" = some (.builtin "all"):=by decide +kernel
theorem bb_isinstance:bootBuiltins "isinstance" = some (.builtin "isinstance"):=by decide +kernel
end D
namespace D
open PySem PySem.Spec PyProof.Rows L2
noncomputable def isSt:Expr->Bool
 | .Starred ..=>true
 | _=>false
theorem star_ok (e:Expr)(es:List Expr)(env:PySem.Env)(h:isSt e=false):starEach (e :: es) env=(false,eval e env) :: starEach es env:=by
 cases e <;> first | rfl | (exact absurd h (by simp [isSt]))
theorem plain_ok (pos:Pos)(env:PySem.Env):∀ es:List Expr,(es.all λ e=>!isSt e)=true->(backTo pos (starEach es env)).any (·.1)=false
 | [],_=>rfl
 | e :: es,h=>by
  rw [List.all_cons,Bool.and_eq_true,Bool.not_eq_true'] at h
  rw [star_ok e es env h.1]
  show (false || (backTo pos (starEach es env)).any (·.1))=false
  rw [plain_ok pos env es h.2]
  rfl
section
variable {X:Cx}{pos p:Pos}{e:Expr}{es:List Expr}{te:TD}{t:TAd}{x:Str}{id T:String}{r:List V->Hp->VK->Prop}{rd:List W->MH->QD->Prop}{k:Nat}{f:Addr}{fd:FuncData}{ps:List Str}{sp:SpD}
theorem pac (ha:PD X e te)(hr:PAd X es t)(h:isSt e=false:=by rfl):PAd X (e :: es) (dCons te t):=pad_cons ha hr (star_ok e es X.env h)
theorem pcB (hc:CallR X (.builtin id) r)(hd:CallD X.K r rd)(hg:Gl X x)(hm:X.mg x=none)(hv:bootBuiltins x=some (.builtin id))(ha:PAd X (e :: es) t)(hn:x ≠ "__name__" := by decide)(hdb:(x == ("__debug__" : Str))=false:=by decide)
  (h1:isSt e=false:=by rfl)(h2:(es.all λ e=>!isSt e)=true:=by rfl):PD X (.Call (.Name x p) (e :: es) [] pos) (dCB rd t):=pd_callB hc hd hg hm hv ha hn hdb (star_ok e es X.env h1) (plain_ok pos X.env es h2)
theorem pcF (F:FnOk X.prog X.w X.K X.mg X.base CX0 k f fd ps (upSp X.K sp))(hr:Room k X.A)(hg:Gl X x)(hm:X.mg x=some (.ref f))(hk:PySem.W.keepIn X.K (.ref f)=true)(hb:Binds X.K fd ps [])
  (ha:PAd X (e :: es) t)(hdb:(x == ("__debug__" : Str))=false:=by decide)(h1:isSt e=false:=by rfl)(h2:(es.all λ e=>!isSt e)=true:=by rfl) :
  PD X (.Call (.Name x p) (e :: es) [] pos) (dCall sp t):=pd_call F hr hg hm hk hb ha hdb (star_ok e es X.env h1) (plain_ok pos X.env es h2)
end
end D
namespace D
open PySem PySem.Spec PyProof.Rows L2
structure Jd (p:Prop):Prop where
 h:p
namespace Q
noncomputable abbrev pm (K:PySem.W.Frag)(p:TD×TD):TE×TE:=(up K p.1,up K p.2)
section
variable {X:Cx}{pos:Pos}{a b c e:Expr}{ta tb tc te:TD}{K:PySem.W.Frag}
theorem pd_var {i:Nat}(h:PE X e (tVar i)):Jd (PD X e (dVar i)):=⟨D.pd_var (h:=h)⟩
theorem dv (i:Nat){x:Str}{pos:Pos}(hN:X.N[i]? = some x:=by rfl)(hv:Vis X.env.scope x:=by first | exact Or.inl rfl | exact Or.inr (Or.inl rfl) | exact Or.inr (Or.inr rfl))(hd:(x == ("__debug__" : Str))=false:=by decide)(hcd:(x == ("__classdict__" : Str))=false:=by decide):Jd (PD X (.Name x pos) (dVar i)):=⟨D.dv (i:=i) (hN:=hN) (hv:=hv) (hd:=hd) (hcd:=hcd)⟩
theorem pd_c {v:V}{w:W}(h:PE X e (tC v))(r:∀ H,RepW X.K H w v):Jd (PD X e (dC w)):=⟨D.pd_c (h:=h) (r:=r)⟩
theorem pd_int {i j pos}:Jd (PD X (.Constant (.int i) j pos) (dC (.d (.int i)))):=⟨D.pd_int ⟩
theorem pd_bl {b j pos}:Jd (PD X (.Constant (.bool b) j pos) (dC (.d (.bool b)))):=⟨D.pd_bl ⟩
theorem pd_non {j pos}:Jd (PD X (.Constant .none j pos) (dC (.d .none))):=⟨D.pd_non ⟩
theorem pd_str {x j pos}:Jd (PD X (.Constant (.str x) j pos) (dC (.d (.str x)))):=⟨D.pd_str ⟩
theorem pd_globI {x:Str}{i:Int}{t:Tok}{pos:Pos}(hg:Gl X x)(hm:X.mg x=some (.int i t))(hd:(x == ("__debug__" : Str))=false:=by decide):Jd (PD X (.Name x pos) (dC (.d (.int i)))):=⟨D.pd_globI (hg:=hg) (hm:=hm) (hd:=hd)⟩
theorem pd_type {x:Str}{n:String}{pos:Pos}(hg:Gl X x)(hm:X.mg x=none)(hv:bootBuiltins x=some (.type n))(hn:x ≠ "__name__" := by decide)(hd:(x == ("__debug__" : Str))=false:=by decide):Jd (PD X (.Name x pos) (dC (.t n))):=⟨D.pd_type (hg:=hg) (hm:=hm) (hv:=hv) (hn:=hn) (hd:=hd)⟩
theorem pd_op {op:Operator}{r:R2}{rd:W->W->MH->QD->Prop}(ho:OpR X (binaryOp op) r)(hd:OpD X.K r rd)(ha:Jd (PD X a ta))(hb:Jd (PD X b tb)):Jd (PD X (.BinOp a op b pos) (dOp rd ta tb)):=⟨D.pd_op (ho:=ho) (hd:=hd) (ha:=ha.h) (hb:=hb.h)⟩
theorem pd_cmp {op:CmpOp}{r:R2}{rd:W->W->MH->QD->Prop}(ho:OpR X (compareOp op) r)(hd:OpD X.K r rd)(ha:Jd (PD X a ta))(hb:Jd (PD X b tb))(hm:behindInMarks op b=false:=by first | exact nobehind _ (by decide) (by decide) | rfl):Jd (PD X (.Compare a [op] [b] pos) (dOp rd ta tb)):=⟨D.pd_cmp (ho:=ho) (hd:=hd) (ha:=ha.h) (hb:=hb.h) (hm:=hm)⟩
theorem pd_ix {r:R2}{rd:W->W->MH->QD->Prop}(hr:IxR X r)(hd:OpD X.K r rd)(ha:Jd (PD X a ta))(hb:Jd (PD X b tb))(hs:PlainIx b:=by intro _ _; rfl):Jd (PD X (.Subscript a b pos) (dOp rd ta tb)):=⟨D.pd_ix (hr:=hr) (hd:=hd) (ha:=ha.h) (hb:=hb.h) (hs:=hs)⟩
theorem ptd_cmp {op:CmpOp}{r:R2}{rd:W->W->MH->QD->Prop}(ho:OpR X (compareOp op) r)(hd:OpD X.K r rd)(ha:Jd (PD X a ta))(hb:Jd (PD X b tb))(hm:behindInMarks op b=false:=by first | exact nobehind _ (by decide) (by decide) | rfl):Jd (PTd X (.Compare a [op] [b] pos) (dTest (dOp rd ta tb))):=⟨D.ptd_cmp (ho:=ho) (hd:=hd) (ha:=ha.h) (hb:=hb.h) (hm:=hm)⟩
theorem ptd_val (h:Jd (PD X e te))(he:∀ whole,isTrue e X.env whole=(do let v <- whole; standAt e.pos; holding [v] (truthy v)):=by intro _; rfl):Jd (PTd X e (dTest te)):=⟨D.ptd_val (h:=h.h) (he:=he)⟩
theorem pd_chain {op op':CmpOp}{r r':R2}{rd rd':W->W->MH->QD->Prop}(ho:OpR X (compareOp op) r)(hd:OpD X.K r rd)(ho':OpR X (compareOp op') r')(hd':OpD X.K r' rd')(ha:Jd (PD X a ta))(hb:Jd (PD X b tb))(hc:Jd (PD X c tc))(hm:lastMarks [op,op'] [b,c]=false:=by with_unfolding_all rfl):Jd (PD X (.Compare a [op,op'] [b,c] pos) (dChain rd rd' ta tb tc)):=⟨D.pd_chain (ho:=ho) (hd:=hd) (ho':=ho') (hd':=hd') (ha:=ha.h) (hb:=hb.h) (hc:=hc.h) (hm:=hm)⟩
theorem ptd_chain {op op':CmpOp}{r r':R2}{rd rd':W->W->MH->QD->Prop}(ho:OpR X (compareOp op) r)(hd:OpD X.K r rd)(ho':OpR X (compareOp op') r')(hd':OpD X.K r' rd')(ha:Jd (PD X a ta))(hb:Jd (PD X b tb))(hc:Jd (PD X c tc))(hm:lastMarks [op,op'] [b,c]=false:=by with_unfolding_all rfl):Jd (PTd X (.Compare a [op,op'] [b,c] pos) (dTest (dChain rd rd' ta tb tc))):=⟨D.ptd_chain (ho:=ho) (hd:=hd) (ho':=ho') (hd':=hd') (ha:=ha.h) (hb:=hb.h) (hc:=hc.h) (hm:=hm)⟩
variable {tA tB:TTd}{rest:List Expr}
theorem pwd_or1 (ha:Jd (PTd X a tA)):Jd (PWd X (.BoolOp .Or [a] pos) tA):=⟨D.pwd_or1 (ha:=ha.h)⟩
theorem pwd_or (ha:Jd (PTd X a tA))(hb:Jd (PWd X (.BoolOp .Or (b :: rest) pos) tB)):Jd (PWd X (.BoolOp .Or (a :: b :: rest) pos) (dOr tA tB)):=⟨D.pwd_or (ha:=ha.h) (hb:=hb.h)⟩
theorem ptd_w (h:Jd (PWd X e tA)):Jd (PTd X e tA):=⟨D.ptd_w (h:=h.h)⟩
theorem ptd_not (ha:Jd (PTd X a tA)):Jd (PTd X (.UnaryOp .Not a pos) (dNot tA)):=⟨D.ptd_not (ha:=ha.h)⟩
theorem pd_one {op}(h:Jd (PD X a ta)):Jd (PD X (.BoolOp op [a] pos) ta):=⟨D.pd_one (h:=h.h)⟩
theorem pd_and (ha:Jd (PD X a ta))(hb:Jd (PD X (.BoolOp .And (b :: rest) pos) tb)):Jd (PD X (.BoolOp .And (a :: b :: rest) pos) (dAndV ta tb)):=⟨D.pd_and (ha:=ha.h) (hb:=hb.h)⟩
variable {es:List Expr}{t:TAd}
theorem pad_nil  : Jd (PAd X [] dNil):=⟨D.pad_nil ⟩
theorem pad_cons (ha:Jd (PD X e te))(hr:Jd (PAd X es t))(hs:starEach (e :: es) X.env=(false,eval e X.env) :: starEach es X.env:=by rfl):Jd (PAd X (e :: es) (dCons te t)):=⟨D.pad_cons (ha:=ha.h) (hr:=hr.h) (hs:=hs)⟩
theorem pd_lst (h:Jd (PAd X es t)):Jd (PD X (.List es pos) (dLst t)):=⟨D.pd_lst (h:=h.h)⟩
theorem pd_lstM (h:Jd (PAd X es t)):Jd (PD X (.List es pos) (dLstM t)):=⟨D.pd_lstM (h:=h.h)⟩
theorem pd_tup {x1}(h:Jd (PAd X es t)):Jd (PD X (.Tuple es x1 pos) (dTup t)):=⟨D.pd_tup (h:=h.h)⟩
variable {x:Str}{p:Pos}{id T:String}{r:List V->Hp->VK->Prop}{rd:List W->MH->QD->Prop}
theorem pd_callB (hc:CallR X (.builtin id) r)(hd:CallD X.K r rd)(hg:Gl X x)(hm:X.mg x=none)(hv:bootBuiltins x=some (.builtin id))(ha:Jd (PAd X (e :: es) t))(hn:x ≠ "__name__" := by decide)(hdb:(x == ("__debug__" : Str))=false:=by decide)(he:starEach (e :: es) X.env=(false,eval e X.env) :: starEach es X.env:=by rfl)(hpl:(backTo pos (starEach es X.env)).any (·.1)=false:=by rfl):Jd (PD X (.Call (.Name x p) (e :: es) [] pos) (dCB rd t)):=⟨D.pd_callB (hc:=hc) (hd:=hd) (hg:=hg) (hm:=hm) (hv:=hv) (ha:=ha.h) (hn:=hn) (hdb:=hdb) (he:=he) (hpl:=hpl)⟩
theorem pd_callTy (hc:CallR X (.type T) r)(hd:CallD X.K r rd)(hg:Gl X x)(hm:X.mg x=none)(hv:bootBuiltins x=some (.type T))(ha:Jd (PAd X (e :: es) t))(hn:x ≠ "__name__" := by decide)(hdb:(x == ("__debug__" : Str))=false:=by decide)(he:starEach (e :: es) X.env=(false,eval e X.env) :: starEach es X.env:=by rfl)(hpl:(backTo pos (starEach es X.env)).any (·.1)=false:=by rfl):Jd (PD X (.Call (.Name x p) (e :: es) [] pos) (dCB rd t)):=⟨D.pd_callTy (hc:=hc) (hd:=hd) (hg:=hg) (hm:=hm) (hv:=hv) (ha:=ha.h) (hn:=hn) (hdb:=hdb) (he:=he) (hpl:=hpl)⟩
end
section
variable {X:Cx}{pos:Pos}{st:Stmt}{sts:List Stmt}{t u:TSd}{e:Expr}{te:TD}{K:PySem.W.Frag}
theorem pssd_nil  : Jd (PSsd X [] dNext):=⟨D.pssd_nil ⟩
theorem pssd_cons (h1:Jd (PSd X st t))(h2:Jd (PSsd X sts u)):Jd (PSsd X (st :: sts) (dSeq t u)):=⟨D.pssd_cons (h1:=h1.h) (h2:=h2.h)⟩
theorem pssd_one (h1:Jd (PSd X st t)):Jd (PSsd X [st] t):=⟨D.pssd_one (h1:=h1.h)⟩
theorem psd_expr (he:Jd (PD X e te))(hs:swapsWith e none pos.line X.env=pure false:=by rfl):Jd (PSd X (.Expr e pos) (dDrop te)):=⟨D.psd_expr (he:=he.h) (hs:=hs)⟩
theorem psd_ret (he:Jd (PD X e te)):Jd (PSd X (.Return (some e) pos) (dRet te)):=⟨D.psd_ret (he:=he.h)⟩
theorem psd_if {c:Expr}{a b:List Stmt}{tc:TTd}(hc:Jd (PTd X c tc))(ha:Jd (PSsd X a t))(hb:Jd (PSsd X b u)):Jd (PSd X (.If c a b pos) (dIf tc t u)):=⟨D.psd_if (hc:=hc.h) (ha:=ha.h) (hb:=hb.h)⟩
theorem pgd_name {i:Nat}{x:Str}(hN:X.N.Nodup)(hi:X.N[i]? = some x)(hx:Loc X.env.scope x)(hf:X.fn x=true\/X.env.scope.names.lookup x=some .local:=by first | exact .inl rfl | exact .inr rfl | assumption):Jd (PGd X (.Name x pos) (gN i)):=⟨D.pgd_name (hN:=hN) (hi:=hi) (hx:=hx) (hf:=hf)⟩
theorem psd_asg {tg:Expr}{g:TGd}(he:Jd (PD X e te))(hg:Jd (PGd X tg g))(hs:swapsWithSole [tg] e pos.line X.env=pure false:=by rfl)(hw:swappedStores [tg] e X.env=pure none:=by rfl)(h1:(assignEach [tg] X.env).map (·.2)=[assign tg X.env]:=by rfl):Jd (PSd X (.Assign [tg] e pos) (dAsg te g)):=⟨D.psd_asg (he:=he.h) (hg:=hg.h) (hs:=hs) (hw:=hw) (h1:=h1)⟩
theorem psd_set {i:Nat}{x:Str}{pos':Pos}(hN:X.N.Nodup)(hi:X.N[i]? = some x)(hx:Loc X.env.scope x)(he:Jd (PD X e te))(hs:swapsWith e (some (.Name x pos')) pos.line X.env=pure false:=by rfl)(hf:X.fn x=true\/X.env.scope.names.lookup x=some .local:=by first | exact .inl rfl | exact .inr rfl | assumption):Jd (PSd X (.Assign [.Name x pos'] e pos) (dAsg te (gN i))):=⟨D.psd_set (hN:=hN) (hi:=hi) (hx:=hx) (he:=he.h) (hs:=hs) (hf:=hf)⟩
end
section
variable {X:Cx}{pos p:Pos}{k:Nat}{f:Addr}{fd:FuncData}{ps:List Str}{sp:SpD}{x:Str}{e:Expr}{es:List Expr}{t:TAd}
theorem pd_call (F:FnOk X.prog X.w X.K X.mg X.base CX0 k f fd ps (upSp X.K sp))(hr:Room k X.A)(hg:Gl X x)(hm:X.mg x=some (.ref f))(hk:PySem.W.keepIn X.K (.ref f)=true)(hb:Binds X.K fd ps [])(ha:Jd (PAd X (e :: es) t))(hdb:(x == ("__debug__" : Str))=false:=by decide)(he:starEach (e :: es) X.env=(false,eval e X.env) :: starEach es X.env:=by rfl)(hpl:(backTo pos (starEach es X.env)).any (·.1)=false:=by rfl):Jd (PD X (.Call (.Name x p) (e :: es) [] pos) (dCall sp t)):=⟨D.pd_call (F:=F) (hr:=hr) (hg:=hg) (hm:=hm) (hk:=hk) (hb:=hb) (ha:=ha.h) (hdb:=hdb) (he:=he) (hpl:=hpl)⟩
end
section
variable {P:Program}{w:World}{K:PySem.W.Frag}{mg:Str->Option Value}{base:Heap}
end
section
variable {X:Cx}{K:PySem.W.Frag}
theorem pod_none  : Jd (POd X none dNoPart):=⟨D.pod_none ⟩
theorem pod_some {e:Expr}{te:TD}(h:Jd (PD X e te)):Jd (POd X (some e) (dPart te)):=⟨D.pod_some (h:=h.h)⟩
theorem pd_slice {e:Expr}{te:TD}{lo hi:Option Expr}{tl th:TOd}{pos p2:Pos}(he:Jd (PD X e te))(hl:Jd (POd X lo tl))(hu:Jd (POd X hi th)):Jd (PD X (.Subscript e (.Slice lo hi none p2) pos) (dSl te tl th)):=⟨D.pd_slice (he:=he.h) (hl:=hl.h) (hu:=hu.h)⟩
theorem pgd_sub {o i:Expr}{to ti:TD}{pos:Pos}(ho:Jd (PD X o to))(hi:Jd (PD X i ti))(ha:∀ v,assign (.Subscript o i pos) X.env v=(do
   let ov <- holding [v] (eval o X.env)
   let iv <- holding [v,ov] (eval i X.env)
   standAt pos
   holding [v,ov,iv] (setItem ov iv v)
   release [v,ov,iv] []):=by intro _; rfl):Jd (PGd X (.Subscript o i pos) (gSet to ti)):=⟨D.pgd_sub (ho:=ho.h) (hi:=hi.h) (ha:=ha)⟩
theorem psd_augS {o i e:Expr}{to ti te:TD}{op:Operator}{f:Int->Int->Int}{pos tpos:Pos}(ho:Jd (PD X o to))(hi:Jd (PD X i ti))(he:Jd (PD X e te))(hp:PIp X op (ipI f))(ha:∀ ov iv new,augStore i ov iv new=(do holding [new,ov,iv] (setItem ov iv new); release [new,ov,iv] []; pure .next):=by intros; rfl):Jd (PSd X (.AugAssign (.Subscript o i tpos) op e pos) (dAugS to ti te f)):=⟨D.psd_augS (ho:=ho.h) (hi:=hi.h) (he:=he.h) (hp:=hp) (ha:=ha)⟩
end
section
variable {X:Cx}{K:PySem.W.Frag}{tg:Expr}
section
variable {pins:List (Addr×Obj)}{σ:St}{H:Hp}{s:Shared}{R:It->Hp->Prop}{E:Value->Shared->Prop}
end
theorem pid_items {l:Expr}{te:TD}(h:Jd (PD X l te)):Jd (PId X tg l (dItems te)):=⟨D.pid_items (h:=h.h)⟩
theorem pid_range1 {a:Expr}{ta:TAd}{p pos:Pos}(hg:Gl X "range")(hm:X.mg "range" = none)(ha:Jd (PAd X [a] ta))(hs:starEach [a] X.env=[(false,eval a X.env)]:=by rfl):Jd (PId X tg (.Call (.Name "range" p) [a] [] pos) (dRng1 ta)):=⟨D.pid_range1 (hg:=hg) (hm:=hm) (ha:=ha.h) (hs:=hs)⟩
theorem psd_for {iter:Expr}{body:List Stmt}{di:TId}{g:TGd}{tb:TSd}{pos:Pos}(hp:PassesOwn (model X.prog X.w) X.A X.env X.xe)(hc:X.calm=true)(hi:Jd (PId X tg iter di))(hg:Jd (PGd X tg g))(hb:Jd (PSsd X body tb))(hs:∀ x,foldedSetIterable iter X.env x=pure x:=by intro _; rfl):Jd (PSd X (.For tg iter body [] pos) (dFor di g tb)):=⟨D.psd_for (hp:=hp) (hc:=hc) (hi:=hi.h) (hg:=hg.h) (hb:=hb.h) (hs:=hs)⟩
section
variable {sc:Scope}{own:List Str}{fr:List Nat}{elt iter:Expr}{ifs:List Expr}{pos:Pos}{di:TId}{g:TGd}{tt:TTd}{te:TD}
theorem ptsd_nil  : Jd (PTsd X [] dYes):=⟨D.ptsd_nil ⟩
theorem ptsd_one {c:Expr}{t:TTd}(h:Jd (PTd X c t)):Jd (PTsd X [c] t):=⟨D.ptsd_one (h:=h.h)⟩
theorem pd_lc (hc:X.calm=true)(L:LcOk X sc own fr)(hi:Jd (PId X tg iter di))(hg:∀ cl C s H ex pl,Jd (PGd (blk X sc (lcN X own fr) cl C s H ex pl) tg g))(ht:∀ cl C s H ex pl,Jd (PTsd (blk X sc (lcN X own fr) cl C s H ex pl) ifs tt))(he:∀ cl C s H ex pl,Jd (PD (blk X sc (lcN X own fr) cl C s H ex pl) elt te))(hs:∀ x,foldedSetIterable iter X.env x=pure x:=by intro _; rfl):Jd (PD X (.ListComp elt [⟨tg,iter,ifs,0⟩] sc pos) (dLC di g tt te own.length fr)):=⟨D.pd_lc (hc:=hc) (L:=L) (hi:=hi.h) (hg:=λ cl C s H ex pl=>(hg cl C s H ex pl).h) (ht:=λ cl C s H ex pl=>(ht cl C s H ex pl).h) (he:=λ cl C s H ex pl=>(he cl C s H ex pl).h) (hs:=hs)⟩
theorem psd_setLC {i:Nat}{x:Str}{pos' spos:Pos}(hN:X.N.Nodup)(hi':X.N[i]? = some x)(hx:Loc X.env.scope x)(hc:X.calm=true)(L:LcOk X sc own fr)(hi:Jd (PId X tg iter di))(hg:∀ cl C s H ex pl,Jd (PGd (blk X sc (lcN X own fr) cl C s H ex pl) tg g))(ht:∀ cl C s H ex pl,Jd (PTsd (blk X sc (lcN X own fr) cl C s H ex pl) ifs tt))(he:∀ cl C s H ex pl,Jd (PD (blk X sc (lcN X own fr) cl C s H ex pl) elt te))(hsw:swapsWith (.ListComp elt [⟨tg,iter,ifs,0⟩] sc pos) (some (.Name x pos')) spos.line X.env=pure true:=by rfl)(hs:∀ x,foldedSetIterable iter X.env x=pure x:=by intro _; rfl)(hf:X.fn x=true\/X.env.scope.names.lookup x=some .local:=by first | exact .inl rfl | exact .inr rfl | assumption):Jd (PSd X (.Assign [.Name x pos'] (.ListComp elt [⟨tg,iter,ifs,0⟩] sc pos) spos) (dAsg (dLC di g tt te own.length fr) (gN i))):=⟨D.psd_setLC (hN:=hN) (hi':=hi') (hx:=hx) (hc:=hc) (L:=L) (hi:=hi.h) (hg:=λ cl C s H ex pl=>(hg cl C s H ex pl).h) (ht:=λ cl C s H ex pl=>(ht cl C s H ex pl).h) (he:=λ cl C s H ex pl=>(he cl C s H ex pl).h) (hsw:=hsw) (hs:=hs) (hf:=hf)⟩
end
end
section
variable {X:Cx}{K:PySem.W.Frag}
theorem pd_ms {o e:Expr}{es:List Expr}{to:TD}{t:TAd}{name:Str}{apos cpos:Pos}{id:String}{r:V->List V->Hp->VK->Prop}{rd:W->List W->MH->QD->Prop}(slot:Slot "str" name id)(hty:typeOf (.builtin id)=pure (.type "method_descriptor"))(hm:MtR X id r)(hd:MtD X.K r rd)(ho:Jd (PD X o to))(ha:Jd (PAd X (e :: es) t))(hbase:attributeBase o name X.env (eval o X.env)=eval o X.env:=by rfl)(hfew:((backTo cpos (starEach (e :: es) X.env)).all (λ x=>!x.1) && (backToKw cpos (keywordEach [] X.env)).all (λ x=>x.1.isSome)
   && decide ((e :: es).length+([]:List Keyword).length+(if ([]:List Keyword).isEmpty then 0 else 1) < 30))=true:=by rfl)(hline:(apos.endLine == cpos.line)=true:=by rfl)(hs:starEach (e :: es) X.env=(false,eval e X.env) :: starEach es X.env:=by rfl)(hplain:(backTo cpos (starEach es X.env)).any (·.1)=false:=by rfl):Jd (PD X (.Call (.Attribute o name apos) (e :: es) [] cpos) (dMS rd to t)):=⟨D.pd_ms (slot:=slot) (hty:=hty) (hm:=hm) (hd:=hd) (ho:=ho.h) (ha:=ha.h) (hbase:=hbase) (hfew:=hfew) (hline:=hline) (hs:=hs) (hplain:=hplain)⟩
theorem pd_join {o e:Expr}{to te:TD}{apos cpos:Pos}(ho:Jd (PD X o to))(ha:Jd (PD X e te))(hbase:attributeBase o "join" X.env (eval o X.env)=eval o X.env:=by rfl)(hs:starEach [e] X.env=[(false,eval e X.env)]:=by rfl)(hfew:((backTo cpos (starEach [e] X.env)).all (λ x=>!x.1) && (backToKw cpos (keywordEach [] X.env)).all (λ x=>x.1.isSome)
   && decide (([e]:List Expr).length+([]:List Keyword).length+(if ([]:List Keyword).isEmpty then 0 else 1) < 30))=true:=by rfl)(hline:(apos.endLine == cpos.line)=true:=by rfl):Jd (PD X (.Call (.Attribute o "join" apos) [e] [] cpos) (dMS rdJoin to (dCons te dNil))):=⟨D.pd_join (ho:=ho.h) (ha:=ha.h) (hbase:=hbase) (hs:=hs) (hfew:=hfew) (hline:=hline)⟩
theorem pd_dict0 {pos:Pos}:Jd (PD X (.Dict [] [] pos) dDict0):=⟨D.pd_dict0 ⟩
theorem pd_dict {pos:Pos}{keys:List (Option Expr)}{values:List Expr}{trs:List (TD×TD)}(h:Jd (PPs X pos keys values (trs.map (pm X.K))))(hall:keys.all (·.isSome)=true:=by rfl)(hl:keys.length=values.length:=by rfl)(h0:keys≠[]:=by simp)(h15:keys.length<=15:=by decide):Jd (PD X (.Dict keys values pos) (dDict trs)):=⟨D.pd_dict (h:=h.h) (hall:=hall) (hl:=hl) (h0:=h0) (h15:=h15)⟩
end
section
variable {X:Cx}{pos p:Pos}{e:Expr}{es:List Expr}{te:TD}{t:TAd}{x:Str}{id T:String}{r:List V->Hp->VK->Prop}{rd:List W->MH->QD->Prop}{k:Nat}{f:Addr}{fd:FuncData}{ps:List Str}{sp:SpD}
theorem pac (ha:Jd (PD X e te))(hr:Jd (PAd X es t))(h:isSt e=false:=by rfl):Jd (PAd X (e :: es) (dCons te t)):=⟨D.pac (ha:=ha.h) (hr:=hr.h) (h:=h)⟩
theorem pcB (hc:CallR X (.builtin id) r)(hd:CallD X.K r rd)(hg:Gl X x)(hm:X.mg x=none)(hv:bootBuiltins x=some (.builtin id))(ha:Jd (PAd X (e :: es) t))(hn:x ≠ "__name__" := by decide)(hdb:(x == ("__debug__" : Str))=false:=by decide)(h1:isSt e=false:=by rfl)(h2:(es.all λ e=>!isSt e)=true:=by rfl):Jd (PD X (.Call (.Name x p) (e :: es) [] pos) (dCB rd t)):=⟨D.pcB (hc:=hc) (hd:=hd) (hg:=hg) (hm:=hm) (hv:=hv) (ha:=ha.h) (hn:=hn) (hdb:=hdb) (h1:=h1) (h2:=h2)⟩
theorem pcF (F:FnOk X.prog X.w X.K X.mg X.base CX0 k f fd ps (upSp X.K sp))(hr:Room k X.A)(hg:Gl X x)(hm:X.mg x=some (.ref f))(hk:PySem.W.keepIn X.K (.ref f)=true)(hb:Binds X.K fd ps [])(ha:Jd (PAd X (e :: es) t))(hdb:(x == ("__debug__" : Str))=false:=by decide)(h1:isSt e=false:=by rfl)(h2:(es.all λ e=>!isSt e)=true:=by rfl):Jd (PD X (.Call (.Name x p) (e :: es) [] pos) (dCall sp t)):=⟨D.pcF (F:=F) (hr:=hr) (hg:=hg) (hm:=hm) (hk:=hk) (hb:=hb) (ha:=ha.h) (hdb:=hdb) (h1:=h1) (h2:=h2)⟩
end
theorem pps_nil {X:Cx}{pos:Pos}:Jd (PPs X pos [] [] (([]:List (TD×TD)).map (pm X.K))):=⟨L2.pps_nil⟩
theorem pps_cons {X:Cx}{pos:Pos}{k v:Expr}{ks:List (Option Expr)}{vs:List Expr}{tk tv:TD}{trs:List (TD×TD)}(hk:Jd (PD X k tk))(hv:Jd (PD X v tv))(hr:Jd (PPs X pos ks vs (trs.map (pm X.K)))):Jd (PPs X pos (some k :: ks) (v :: vs) (((tk,tv) :: trs).map (pm X.K))):=⟨L2.pps_cons hk.h hv.h hr.h⟩
end Q
end D
namespace D
open PySem PySem.Spec PyProof.Rows L2
section
variable {κ α:Type}[DecidableEq κ]
noncomputable def tget (t:List (κ×α))(k:κ):Option α:=(t.find? λ p=>decide (p.1=k)).map (·.2)
noncomputable def OR {β γ:Type}(R:β->γ->Prop):Option β->Option γ->Prop
 | some a,some b=>R a b
 | none,none=>True
 | _,_=>False
theorem OR.some_of {β γ:Type}{R:β->γ->Prop}{a:β}{o:Option γ}(h:OR R (some a) o):∃ b,o=some b/\R a b:=by
 cases o with
 | none=>exact h.elim
 | some b=>exact ⟨b,rfl,h⟩
theorem OR.none_of {β γ:Type}{R:β->γ->Prop}{o:Option γ}(h:OR R none o):o=none:=by
 cases o with
 | none=>rfl
 | some b=>exact h.elim
theorem OR.isSome {β γ:Type}{R:β->γ->Prop}:∀ {a:Option β} {o:Option γ},OR R a o->a.isSome=o.isSome
 | some _,some _,_=>rfl
 | none,none,_=>rfl
 | some _,none,h=>h.elim
 | none,some _,h=>h.elim
theorem tb_get {R:α->V->Prop}(k:κ):∀ {t:List (κ×α)} {l:List (κ×V)},Paired (λ p q=>p.1=q.1/\R p.2 q.2) t l->OR R (tget t k) (valV l k)
 | _,_,.nil=>True.intro
 | _,_,.cons (a:=p) (b:=q) (l₁:=t1) h t=>by
  obtain ⟨h1,h2⟩:=h
  by_cases e:p.1=k
  ·rw [valV_pos (h1.symm.trans e),show tget (p :: t1) k=some p.2 by simp [tget,List.find?_cons,e]]
   exact h2
  ·rw [valV_neg (λ z=>e (h1.trans z)),show tget (p :: t1) k=tget t1 k by simp [tget,List.find?_cons,e]]
   exact tb_get k t
theorem tb_len {P:κ×α->κ×V->Prop}:∀ {t:List (κ×α)} {l:List (κ×V)},Paired P t l->t.length=l.length
 | _,_,.nil=>rfl
 | _,_,.cons _ t=>by simp [tb_len t]
end
noncomputable def kW (k:Key):W:=.d (keyD k)
theorem kW_rep {K:PySem.W.Frag}{H:Hp}{k:Key}{v:V}(r:RepW K H (kW k) v):v=kV k:=key_rep r
noncomputable def tkW (ks:List Key):W:=.d (.tuple (ks.map keyD))
theorem keysA {K:PySem.W.Frag}{H:Hp}:∀ {ks:List Key} {vs:List V},RepA K H (ks.map keyD) vs->vs=ks.map kV
 | [],vs,h=>by simpa [RepA] using h
 | k :: ks,vs,h=>by
  simp only [List.map_cons,RepA] at h
  obtain ⟨v,r,e,h1,h2⟩:=h
  rw [e,key_rep h1,keysA h2]
  rfl
noncomputable def Rd2 (H:Hp)(a:Addr)(u:HO):Prop:=Rd H a u\/∃ o,H a=some (.frz o (.frz o u))
theorem dk_rd2 {P:Program}{w:World}{H:Hp}{h:Heap}{a:Addr}{kvs:List (Key×V)}(ok:HOk P w H h)(e:Rd2 H a (.dK kvs)):kvs.length<=sizeLine/\(a == sysModules)=false/\∃ vs,KV kvs vs/\h.DictOf (mixKind P w) a vs:=by
 rcases e with e | ⟨o,e⟩
 ·exact dk_rd ok e
 ·exact (ok a _ e).2.2
noncomputable def DGetS (K:PySem.W.Frag)(H:Hp)(a:Addr)(y:V)(r:Option V):Prop :=
 (∃ kvs k,Rd2 H a (.dK kvs)/\y=kV k/\r=valV kvs k)\/∃ kvs k b,Rd H a (.dT kvs)/\y=.ref b/\SqT K H b (k.map kV)/\r=valV kvs k
theorem key_sq {X:Cx}{pins:List (Addr×Obj)}{σ:St}{H:Hp}{s:Shared}{b:Addr}{ks:List Key}(I:Inv X pins σ H s)(h:SqT X.K H b (ks.map kV)):(tupleKind (mixKind X.prog X.w)).is s.heap ks b:=by
 obtain ⟨its,r,⟨o,h1,h2,n,h3⟩,_⟩:=I.tuple h
 exact ⟨o,its.toArray,n,h1,h2,h3,by simpa using items_are r⟩
section
variable {X:Cx}{pins:List (Addr×Obj)}{σ:St}{H:Hp}{s:Shared}{a:Addr}{y d:V}{u r:Value}{o:Option V}{A:Around}{E:Value->Shared->Prop}
theorem ds_notIn {Q:Value->Shared->Prop}(hu:A.units+1 < cLine)(I:Inv X pins σ H s)(g:DGetS X.K H a y o)(ry:RelV y u)(h:∀ s',Inv X pins σ H s'->Q (.bool (!o.isSome)) s') :
  wpAny (model X.prog X.w) A (compareOp .NotIn u (.ref a)) Q E s:=by
 rcases g with ⟨kvs,k,e,ey,l⟩ | ⟨kvs,k,b,e,ey,eb,l⟩
 ·subst ey
  obtain ⟨z,hd,vs,rel,dd⟩:=dk_rd2 I.hok e
  refine wpAny_notIn_of (kV_is ry) hd dd.mapOf ?_
  rw [<- (rel.val k).isSome_eq,<- l]
  exact h _ (I.tok _)
 ·subst ey
  cases (show u=Value.ref b from ry)
  obtain ⟨z,hd,xs,rel,dd⟩:=dt_rd I.hok e
  refine wpAny_notIn_heap (tupleKind_room_in1 hu) (key_sq I eb) hd dd ?_
  have q:=(rel.val k).isSome_eq
  rw [Option.isSome_map] at q
  rw [<- q,<- l]
  exact h _ (I.tok _)
theorem ds_getItem {v:V}{Q:Value->Shared->Prop}(hu:A.units+1 < cLine)(I:Inv X pins σ H s){kvs:List (Key×V)}{k:Key}(e:Rd2 H a (.dK kvs))(l:valV kvs k=some v)(ry:RelV (kV k) u)(h:∀ w' s',Inv X pins σ H s'->RelV v w'->Q w' s') :
  s.TypeIs (.ref a) "dict" /\ wpAny (model X.prog X.w) A (getItem (.ref a) u) Q E s:=by
 obtain ⟨z,hd,vs,rel,dd⟩:=dk_rd2 I.hok e
 obtain ⟨w',hw,rw'⟩:=RelO.some_of (v:=v) (o:=valueAt vs k) (by rw [<- l]; exact rel.val k)
 exact ⟨dd.typeIs,wpAny_getItem_of (kV_is ry) dd.mapOf hw (h w' _ (I.tok _) rw')⟩
end
end D
namespace D
open PySem PySem.Spec PyProof.Rows L2
inductive DLook (M:MH):W->W->Option W->Prop
 | k {a:Addr} {kvs:List (Key×W)} {k:Key} (h:M a=some (.dic kvs)):DLook M (.m a) (kW k) (tget kvs k)
 | t {a:Addr} {kvs:List (List Key×W)} {ks:List Key} (h:M a=some (.dct kvs)):DLook M (.m a) (tkW ks) (tget kvs ks)
 | f {a:Addr} {kvs:List (Key×W)} {k:Key} (h:M a=some (.fdic kvs)):DLook M (.m a) (kW k) (tget kvs k)
 | d {kvs:List (Key×PyData)} {k:Key}:DLook M (.d (.dict (kvs.map λ p=>(keyD p.1,p.2)))) (kW k) ((tget kvs k).map W.d)
inductive DIs (M:MH):W->Prop
 | k {a:Addr} {kvs:List (Key×W)} (h:M a=some (.dic kvs)):DIs M (.m a)
 | t {a:Addr} {kvs:List (List Key×W)} (h:M a=some (.dct kvs)):DIs M (.m a)
 | d {kvs:List (PyData×PyData)}:DIs M (.d (.dict kvs))
theorem keyD_inj {a b:Key}(h:keyD a=keyD b):a=b:=by
 cases a <;> cases b <;> simp [keyD] at h <;> rw [h]
theorem repK_paired {K:PySem.W.Frag}{H:Hp}:∀ {kvs:List (Key×PyData)} {l:List (Key×V)},RepK K H (kvs.map λ p=>(keyD p.1,p.2)) l->Paired (λ (p:Key×PyData) (q:Key×V)=>p.1=q.1/\RepD K H p.2 q.2) kvs l
 | [],l,h=>by
  simp only [List.map_nil,RepK] at h
  subst h
  exact .nil
 | p :: kvs,l,h=>by
  simp only [List.map_cons,RepK] at h
  obtain ⟨key,v,r,e,ek,h1,h2⟩:=h
  subst e
  exact .cons ⟨keyD_inj ek,h1⟩ (repK_paired h2)
theorem DIs.sound {K:PySem.W.Frag}{H:Hp}{M:MH}{w:W}{x:V}(g:DIs M w)(r:RepW K H w x)(m:MAbs K H M):∃ a,x=.ref a/\IsD H a:=by
 cases g with
 | k h =>
  obtain ⟨l,e,_⟩:=m _ _ h
  exact ⟨_,r,.inl ⟨l,.inl e⟩⟩
 | t h =>
  obtain ⟨l,e,_⟩:=m _ _ h
  exact ⟨_,r,.inr ⟨l,.inl e⟩⟩
 | d =>
  simp only [RepW,RepD] at r
  obtain ⟨a,o,l,e,h,_⟩:=r
  exact ⟨a,e,.inl ⟨l,.inr ⟨o,h⟩⟩⟩
theorem DLook.sound {K:PySem.W.Frag}{H:Hp}{M:MH}{w y:W}{o:Option W}{x v:V}(g:DLook M w y o)(r:RepW K H w x)(ry:RepW K H y v)(m:MAbs K H M) :
  ∃ a p,x=.ref a/\DGetS K H a v p/\OR (RepW K H) o p:=by
 cases g with
 | @k a kvs k h =>
  obtain ⟨l,e,pr⟩:=m _ _ h
  exact ⟨_,_,r,.inl ⟨l,k,.inl (.inl e),kW_rep ry,rfl⟩,tb_get k pr⟩
 | @f a kvs k h =>
  obtain ⟨ob,l,e,pr⟩:=m _ _ h
  exact ⟨_,_,r,.inl ⟨l,k,.inr ⟨ob,e⟩,kW_rep ry,rfl⟩,tb_get k pr⟩
 | @t a kvs ks h =>
  obtain ⟨l,e,pr⟩:=m _ _ h
  simp only [tkW,RepW,RepD] at ry
  obtain ⟨b,vs,eb,hs,ra⟩:=ry
  rw [keysA ra] at hs
  exact ⟨_,_,r,.inr ⟨l,ks,b,.inl e,eb,hs,rfl⟩,tb_get ks pr⟩
 | @d kvs k =>
  simp only [RepW,RepD] at r
  obtain ⟨a,ob,l,e,h,rk⟩:=r
  refine ⟨a,_,e,.inl ⟨l,k,.inl (.inr ⟨ob,h⟩),kW_rep ry,rfl⟩,?_⟩
  have g:=tb_get (R:=λ d q=>RepD K H d q) k (repK_paired rk)
  cases q:tget kvs k with
  | none=>rw [q] at g; rw [OR.none_of g]; exact True.intro
  | some z =>
   rw [q] at g
   obtain ⟨b,eb,rb⟩:=OR.some_of g
   rw [eb]
   exact rb
section
variable {X:Cx}{o i e f:Expr}{pos apos cpos:Pos}{td ty tx:TE}
noncomputable def tDNotInS (K:PySem.W.Frag)(ty td:TE):TE:=λ σ H Q=>ty σ H λ y H1=>td σ H1 λ x H2=>∃ a o,x=.ref a/\DGetS K H2 a y o/\Q (.bl (!o.isSome)) H2
theorem pc_dnotinS (hu:X.A.units+1 < cLine)(hi:PE X i ty)(ho:PE X o td):PC X .NotIn i o (tDNotInS X.K ty td):=by
 intro pins s σ H Q I h
 refine thn (hi pins s σ H _ I h) λ iv s1 ⟨y,H1,I1,ry,q1⟩=>thn (ho pins s1 σ H1 _ I1 q1) λ u s2 hq53=>?_
 obtain ⟨x,H2,I2,rx,a,ov,ex,g,q2⟩:=hq53
 subst ex
 obtain rfl:u=Value.ref a:=rx
 exact ds_notIn hu I2 g ry λ s3 I3=>⟨.bl (!ov.isSome),H2,I3,rfl,q2⟩
end
section
variable {X:Cx}{o i:Expr}{pos:Pos}{td ty:TE}
noncomputable def tDGetS (td ty:TE):TE:=λ σ H Q=>td σ H λ x H1=>ty σ H1 λ y H2=>∃ a kvs k v,x=.ref a/\Rd2 H2 a (.dK kvs)/\y=kV k/\valV kvs k=some v/\Q v H2
theorem pe_dgetS (hu:X.A.units+1 < cLine)(ho:PE X o td)(hi:PE X i ty)(hs:NoSl i):PE X (.Subscript o i pos) (tDGetS td ty):=by
 intro pins s σ H Q I h
 refine subD_of PySem.F.slot_dict_getitem.lookup hs (thn (ho pins s σ H _ I h) λ u s1 ⟨x,H1,I1,rx,q1⟩=>thn (hi pins s1 σ H1 _ I1 q1) λ iv s2 hq54=>?_)
 obtain ⟨y,H2,I2,ry,a,kvs,k,v,ex,g,ey,l,q2⟩:=hq54
 subst ex ey
 obtain rfl:u=Value.ref a:=rx
 exact ds_getItem hu I2 g l ry λ w' s3 I3 rw'=>⟨v,H2,I3,rw',q2⟩
end
section
variable {X:Cx}{o i e f value:Expr}{es:List Expr}{pos pos' apos cpos:Pos}{td ti tx tv:TD}{t:TAd}
noncomputable def dNewDic (_:DS)(M:MH)(Q:QD):Prop:=∀ p,M p=none->Q (.m p) (updM M p (.dic []))
theorem pd_newDic:PD X (.Dict [] [] pos) dNewDic:=pe_w pe_dnewK λ σ H Q ⟨τ,M,Qd,A,h,k⟩ p hp =>
 k (.ref p) _ (.m p) (updM M p (.dic [])) (Kp.new hp) rfl (A.mem.put (mo:=.dic []) (Kp.new hp) ⟨[],upd_same,.nil⟩) (h p (A.mem.free hp))
noncomputable def dDNotIn (ti td:TD)(τ:DS)(M:MH)(Q:QD):Prop:=ti τ M λ y M1=>td τ M1 λ w M2=>∃ o,DLook M2 w y o/\Q (.d (.bool (!o.isSome))) M2
theorem imp_dnotin {σ:St}{H:Hp}{Q:VK}(h:up X.K (dDNotIn ti td) σ H Q):tDNotInS X.K (up X.K ti) (up X.K td) σ H Q:=by
 obtain ⟨τ,M,Qd,A,h,k⟩:=h
 refine ⟨τ,M,_,A,h,λ y H1 wy M1 kp1 r1 m1 q1=>⟨τ,M1,_,A.go kp1 m1,q1,λ x H2 w M2 kp2 r2 m2 hq55=>?_⟩⟩
 obtain ⟨o,g,q2⟩:=hq55
 obtain ⟨a,p,e,g',ro⟩:=g.sound r2 (r1.keep kp2) m2
 refine ⟨a,p,e,g',?_⟩
 rw [<- ro.isSome]
 exact k _ H2 (.d (.bool _)) M2 (kp1.trans kp2) (by simp [RepW,RepD]) m2 q2
theorem ptd_dnotin (hu:X.A.units+1 < cLine)(hi:PD X i ti)(ho:PD X o td)(hm:behindInMarks .NotIn o=false:=by rfl):PTd X (.Compare i [.NotIn] [o] pos) (dTest (dDNotIn ti td)):=pt_w (pt_cmp (pc_dnotinS hu hi ho) hm) λ σ H Q h=>imp_test (λ σ H Q h=>imp_dnotin h) h
inductive DGetI (M2:MH) (w y:W) (Q:QD):Prop
 | mk (a:Addr) (kvs:List (Key×W)) (k:Key) (v:W) (z0:w=.m a) (z1:M2 a=some (.dic kvs)\/M2 a=some (.fdic kvs)) (z2:y=kW k) (z3:tget kvs k=some v) (q:Q v M2):DGetI M2 w y Q
noncomputable def dDGet (td ti:TD)(τ:DS)(M:MH)(Q:QD):Prop:=td τ M λ w M1=>ti τ M1 λ y M2=>DGetI M2 w y Q
theorem pd_dget (hu:X.A.units+1 < cLine)(ho:PD X o td)(hi:PD X i ti)(hs:NoSl i:=by exact λ _ _=>rfl):PD X (.Subscript o i pos) (dDGet td ti):=pe_w (pe_dgetS hu ho hi hs) λ σ H Q h=>by
 obtain ⟨τ,M,Qd,A,h,k⟩:=h
 refine ⟨τ,M,_,A,h,λ x H1 w M1 kp1 r1 m1 q1=>⟨τ,M1,_,A.go kp1 m1,q1,λ y H2 wy M2 kp2 r2 m2 hq56=>?_⟩⟩
 obtain ⟨a,kvs,key,v,ew,hm,ey,hv,q2⟩:=hq56
 subst ew ey
 obtain ⟨l,e,pr⟩:∃ l,Rd2 H2 a (.dK l)/\Paired (λ (p:Key×W) (q:Key×V)=>p.1=q.1/\RepW X.K H2 p.2 q.2) kvs l:=by
  rcases hm with hm | hm
  ·obtain ⟨l,e,pr⟩:=m2 _ _ hm
   exact ⟨l,.inl (.inl e),pr⟩
  ·obtain ⟨ob,l,e,pr⟩:=m2 _ _ hm
   exact ⟨l,.inr ⟨ob,e⟩,pr⟩
 have g:=tb_get key pr
 rw [hv] at g
 obtain ⟨b,eb,rb⟩:=OR.some_of g
 refine ⟨a,l,key,b,r1,e,kW_rep r2,eb,?_⟩
 exact k _ H2 v M2 (kp1.trans kp2) rb m2 q2
theorem OR.getD {K:PySem.W.Frag}{H:Hp}{o:Option W}{p:Option V}{z:W}{v:V}(h:OR (RepW K H) o p)(r:RepW K H z v):RepW K H (o.getD z) (p.getD v):=by
 cases o with
 | none=>rw [OR.none_of h]; exact r
 | some a=>obtain ⟨b,e,q⟩:=OR.some_of h; rw [e]; exact q
end
end D
namespace D
open PySem PySem.Spec PyProof.Rows L2
noncomputable def putW (f:Str)(v:W):List (Str×W)->List (Str×W)
 | []=>[(f,v)]
 | (g,x) :: r=>if g=f then (g,v) :: r else (g,x) :: putW f v r
noncomputable abbrev FRep (K:PySem.W.Frag)(H:Hp):List (Str×W)->List (Str×V)->Prop:=Paired (λ (p:Str×W) (q:Str×V)=>p.1=q.1/\RepW K H p.2 q.2)
theorem fr_lookup {K:PySem.W.Frag}{H:Hp}(f:Str):∀ {fs:List (Str×W)} {l:List (Str×V)},FRep K H fs l->OR (RepW K H) (fs.lookup f) (l.lookup f)
 | _,_,.nil=>True.intro
 | _,_,.cons (a:=p) (b:=q) (l₁:=t1) (l₂:=t2) h t=>by
  obtain ⟨pk,pv⟩:=p
  obtain ⟨qk,qv⟩:=q
  obtain ⟨h1,h2⟩:=h
  have h1':pk=qk:=h1
  subst h1'
  rw [List.lookup_cons,List.lookup_cons]
  cases e:(f == pk) with
  | true=>exact h2
  | false=>exact fr_lookup f t
theorem fr_put {K:PySem.W.Frag}{H:Hp}(f:Str){w:W}{v:V}(r:RepW K H w v):∀ {fs:List (Str×W)} {l:List (Str×V)},FRep K H fs l->FRep K H (putW f w fs) (putF f v l)
 | _,_,.nil=>.cons ⟨rfl,r⟩ .nil
 | _,_,.cons (a:=p) (b:=q) (l₁:=t1) (l₂:=t2) h t=>by
  obtain ⟨pk,pv⟩:=p
  obtain ⟨qk,qv⟩:=q
  obtain ⟨h1,h2⟩:=h
  have h1':pk=qk:=h1
  subst h1'
  show FRep K H (if pk=f then (pk,w) :: t1 else (pk,pv) :: putW f w t1) (if pk=f then (pk,v) :: t2 else (pk,qv) :: putF f v t2)
  by_cases e:pk=f
  ·rw [if_pos e,if_pos e]
   exact .cons ⟨rfl,r⟩ t
  ·rw [if_neg e,if_neg e]
   exact .cons ⟨rfl,h2⟩ (fr_put f r t)
theorem fr_len {K:PySem.W.Frag}{H:Hp}:∀ {fs:List (Str×W)} {l:List (Str×V)},FRep K H fs l->fs.length=l.length
 | _,_,.nil=>rfl
 | _,_,.cons _ t=>by simp [fr_len t]
theorem FRep.keep {K:PySem.W.Frag}{H H':Hp}(kp:Kp H H'){fs:List (Str×W)}{l:List (Str×V)}(h:FRep K H fs l):FRep K H' fs l:=Paired.mapP h λ p q z=>⟨z.1,z.2.keep kp⟩
section
variable {X:Cx}{C f:Addr}{o e value:Expr}{es:List Expr}{fn m x:Str}{pos pos' apos p:Pos}{td tv te:TD}{t:TAd}{k:Nat}{fd:FuncData}{ps:List Str}{sp:SpD}
inductive DFld (C:Addr) (fn:Str) (M1:MH) (w:W) (Q:QD):Prop
 | mk (a:Addr) (fs:List (Str×W)) (v:W) (z0:w=.m a) (z1:M1 a=some (.ins C fs)) (z2:fs.lookup fn=some v) (q:Q v M1):DFld C fn M1 w Q
noncomputable def dFld (C:Addr)(td:TD)(fn:Str)(τ:DS)(M:MH)(Q:QD):Prop:=td τ M λ w M1=>DFld C fn M1 w Q
theorem pd_fld (c:Cls X.K C)(n:NoAttr X.K C fn)(he:PD X e td)(hb:attributeBase e fn X.env (eval e X.env)=eval e X.env:=by rfl):PD X (.Attribute e fn pos) (dFld C td fn):=pe_w (pe_fld he hb) λ σ H Q h=>by
 obtain ⟨τ,M,Qd,A,h,k⟩:=h
 refine ⟨τ,M,_,A,h,λ x H1 w M1 kp1 r1 m1 hq57=>?_⟩
 obtain ⟨a,fs,v,ew,hm,hl,q⟩:=hq57
 subst ew
 obtain ⟨dx,l,e,pr⟩:=m1 _ _ hm
 have g:=fr_lookup fn pr
 rw [hl] at g
 obtain ⟨b,eb,rb⟩:=OR.some_of g
 exact ⟨a,C,dx,l,b,r1,e,c,n,eb,k _ H1 v M1 kp1 rb m1 q⟩
noncomputable def dFldPut (C:Addr)(td tv:TD)(fn:Str)(D:Ed)(τ:DS)(M:MH):Prop:=tv τ M λ v M1=>td τ M1 λ w M2=>∃ a fs,w=.m a/\M2 a=some (.ins C fs)/\fs.length < 1000/\D.nx τ (updM M2 a (.ins C (putW fn v fs)))
theorem psd_fld (c:Cls X.K C)(n:NoAttr X.K C fn)(ha:PD X o td)(hv:PD X value tv)(hs:swapsWith value (some (.Attribute o fn pos')) pos.line X.env=pure false:=by rfl):PSd X (.Assign [.Attribute o fn pos'] value pos) (dFldPut C td tv fn):=ps_w (ps_fld ha hv hs) λ D σ H h=>by
 obtain ⟨τ,M,Dd,A,h,k1,_⟩:=h
 refine ⟨τ,M,_,A,h,λ v H1 wv M1 kp1 r1 m1 q1=>⟨τ,M1,_,A.go kp1 m1,q1,λ x H2 w M2 kp2 r2 m2 hq58=>?_⟩⟩
 obtain ⟨a,fs,ew,hm,hl,q2⟩:=hq58
 subst ew
 obtain ⟨dx,l,e,pr⟩:=m2 _ _ hm
 have kp4:Kp H2 (upd H2 a (.ins C dx (putF fn v l))):=Kp.set e (λ _ z=>nomatch z) (λ _ _ z=>nomatch z)
 refine ⟨a,C,dx,l,r2,e,c,n,by rw [<- fr_len pr]; exact hl,?_⟩
 refine k1 _ _ _ _ ((kp1.trans kp2).trans kp4) (A.go ((kp1.trans kp2).trans kp4) (m2.put (mo:=.ins C (putW fn wv fs)) kp4 ⟨dx,_,upd_same,?_⟩)) q2
 exact FRep.keep kp4 (fr_put fn (r1.keep kp2) pr)
inductive DMeth (C:Addr) (m:Str) (M1:MH) (w:W) (q:Prop):Prop
 | mk (a:Addr) (fs:List (Str×W)) (z0:w=.m a) (z1:M1 a=some (.ins C fs)) (z2:fs.lookup m=none) (z3:q):DMeth C m M1 w q
noncomputable def dMeth (C:Addr)(m:Str)(sp:SpD)(td:TD)(t:TAd)(τ:DS)(M:MH)(Q:QD):Prop:=td τ M λ w M1=>DMeth C m M1 w (t τ M1 λ ws M2=>sp (w :: ws) M2 Q)
theorem pd_meth0 {pl:Sem Bool}(he:PD X o td)(c:Cls X.K C)(hm:Meth X.K C m f)(F:FnOk X.prog X.w X.K X.mg X.base CX0 k f fd ps (upSp X.K sp))(hr:Room k X.A)(hb:Binds X.K fd ps [])
  (ht:eval (.Call (.Attribute o m apos) [] [] pos) X.env=(do
   let ov <- eval o X.env
   standAt apos.atName
   let (f,first) <- holding [ov] (getMethod ov m pl)
   callWith pos f first (backTo pos (starEach [] X.env)) (backToKw pos (keywordEach [] X.env))):=by rfl):PD X (.Call (.Attribute o m apos) [] [] pos) (dMeth C m sp td dNil) :=
 pe_w (pe_meth0 (E:=E0) (dvs:=[]) he c hm F hr hb .nil pass0 ht) λ σ H Q h=>by
  obtain ⟨τ,M,Qd,A,h,k⟩:=h
  refine ⟨τ,M,_,A,h,λ x H1 w M1 kp1 r1 m1 hq59=>?_⟩
  obtain ⟨a,fs,ew,hm,hl,q1⟩:=hq59
  subst ew
  obtain ⟨dx,l,e,pr⟩:=m1 _ _ hm
  have g:=fr_lookup m pr
  rw [hl] at g
  exact ⟨a,dx,l,r1,e,OR.none_of g,.m a :: [],M1,Qd,.cons r1 .nil,m1,q1,kgo k kp1⟩
theorem made_abs {H1:Hp}{M1:MH}{a dx:Addr}(m1:MAbs X.K H1 M1)(ha:H1 a=none)(hd:H1 dx=none)(hn:dx≠a):Kp H1 (upd (upd H1 dx (.own a)) a (.ins C dx []))/\MAbs X.K (upd (upd H1 dx (.own a)) a (.ins C dx [])) (updM M1 a (.ins C [])):=by
 have k1:Kp H1 (upd H1 dx (.own a)):=Kp.new hd
 have ha2:(upd H1 dx (.own a)) a=none:=by rw [upd_ne (Ne.symm hn)]; exact ha
 have k2:Kp (upd H1 dx (.own a)) (upd (upd H1 dx (.own a)) a (.ins C dx [])):=Kp.new ha2
 exact ⟨k1.trans k2,(m1.new hd).put (mo:=.ins C []) k2 ⟨dx,[],upd_same,.nil⟩⟩
end
noncomputable def delM (M:MH)(a:Addr):MH:=λ b=>if b=a then none else M b
theorem delM_ne {M:MH}{a b:Addr}(h:b≠a):delM M a b=M b:=if_neg h
theorem MAbs.del {K:PySem.W.Frag}{H:Hp}{M:MH}{a:Addr}{o:HO}(m:MAbs K H M)(kp:Kp H (upd H a o)):MAbs K (upd H a o) (delM M a):=λ b mo hm=>by
 by_cases e:b=a
 ·subst e; simp [delM] at hm
 ·rw [delM_ne e] at hm
  exact (m b mo hm).keep kp λ u z=>by rw [upd_ne e]; exact z
noncomputable def one1 (R:W->MH->Prop)(ws:List W)(M:MH):Prop:=match ws with
 | [y]=>R y M
 | _=>False
theorem one1_of {R:W->MH->Prop}{ws:List W}{M:MH}(h:one1 R ws M):∃ y,ws=[y]/\R y M:=by
 match ws,h with
 | [y],h=>exact ⟨y,rfl,h⟩
section
variable {X:Cx}{o e:Expr}{pos apos cpos:Pos}{td te:TD}
noncomputable def dSeal (td:TD)(τ:DS)(M:MH)(Q:QD):Prop:=td τ M λ w M1=>∃ a ds,w=.m a/\M1 a=some (.lst (ds.map W.d))/\Q (.d (.list ds)) (delM M1 a)
theorem pd_seal (h:PD X e td):PD X e (dSeal td):=pe_w (pe_frz h) λ σ H Q h=>by
 obtain ⟨τ,M,Qd,A,h,k⟩:=h
 refine ⟨τ,M,_,A,h,λ x H1 w M1 kp1 r1 m1 hq60=>?_⟩
 obtain ⟨a,ds,ew,hm,q⟩:=hq60
 subst ew
 obtain ⟨vs,e,ra⟩:=m1 _ _ hm
 refine ⟨a,_,r1,e,trivial,λ ob=>?_⟩
 have kp2:Kp H1 (upd H1 a (.frz ob (.lst vs))):=Kp.set e (λ _ z=>nomatch z) (λ _ _ z=>nomatch z)
 refine k _ _ (.d (.list ds)) (delM M1 a) (kp1.trans kp2) ?_ (m1.del kp2) q
 simp only [RepW,RepD]
 exact ⟨a,vs,r1,.inl ⟨ob,upd_same⟩,ra.data.keep kp2⟩
noncomputable def dAppend (td te:TD)(τ:DS)(M:MH)(Q:QD):Prop:=td τ M λ w M1=>∃ a ws,w=.m a/\M1 a=some (.lst ws)/\te τ M1 λ y M2=>∃ ws',M2 a=some (.lst ws')/\ws'.length < sizeLine/\Q (.d .none) (updM M2 a (.lst (ws'++[y])))
theorem pd_append (ho:PD X o td)(he:PD X e te)
  (hbase:attributeBase o "append" X.env (eval o X.env)=eval o X.env:=by rfl)
  (hfew:((backTo cpos (starEach [e] X.env)).all (λ x=>!x.1) && (backToKw cpos (keywordEach [] X.env)).all (λ x=>x.1.isSome)
   && decide (([e]:List Expr).length+([]:List Keyword).length+(if ([]:List Keyword).isEmpty then 0 else 1) < 30))=true:=by rfl)
  (hline:(apos.endLine == cpos.line)=true:=by rfl)(hs:isSt e=false:=by rfl):PD X (.Call (.Attribute o "append" apos) [e] [] cpos) (dAppend td te) :=
 pe_w (pe_bm PySem.F.plainAttrs_list PySem.F.slot_list_append PySem.F.type_list_append mt_append ho (pac he pad_nil hs) hbase hfew hline (star_ok e [] X.env hs) rfl) λ σ H Q h=>by
  obtain ⟨τ,M,Qd,A,h,k⟩:=h
  refine ⟨τ,M,_,A,h,λ x H1 w M1 kp1 r1 m1 hq61=>?_⟩
  obtain ⟨a,ws,ew,hm,q1⟩:=hq61
  subst ew
  obtain ⟨vs,ea,ra⟩:=m1 _ _ hm
  have r1':x=.ref a:=r1
  subst r1'
  refine ⟨.inl ⟨rfl,vs,.inl (.inl ea)⟩,τ,M1,one1 (λ y M2=>∃ ws',M2 a=some (.lst ws')/\ws'.length < sizeLine/\Qd (.d .none) (updM M2 a (.lst (ws'++[y])))),A.go kp1 m1,q1,λ ys H2 wys M2 kp2 r2 m2 q2=>?_⟩
  obtain ⟨y,ey,ws',hm2,hl,q4⟩:=one1_of q2
  subst ey
  obtain ⟨v,ev,rv⟩:=repWs1 r2
  subst ev
  obtain ⟨vs2,ea2,ra2⟩:=m2 _ _ hm2
  have kp4:Kp H2 (upd H2 a (.lst (vs2++[v]))):=Kp.set ea2 (λ _ z=>nomatch z) (λ _ _ z=>nomatch z)
  refine ⟨a,vs2,v,rfl,rfl,ea2,by rw [<- ra2.length]; exact hl,?_⟩
  exact k _ _ (.d .none) _ ((kp1.trans kp2).trans kp4) (by simp [RepW,RepD]) (m2.put (mo:=.lst (ws'++[y])) kp4 ⟨_,upd_same,(RepWs.append ra2 (.cons rv .nil)).keep kp4⟩) q4
end
end D
namespace D
open PySem PySem.Spec PyProof.Rows L2
noncomputable def RepT (K:PySem.W.Frag)(H:Hp)(d:PyData)(x:V):Prop:=RepD K H d x\/∃ a vs ds,d=.list ds/\x=.ref a/\H a=some (.lst vs)/\RepA K H ds vs
inductive DatW (M:MH):W->PyData->Prop
 | d {x:PyData}:DatW M (.d x) x
 | l {a:Addr} {ds:List PyData} (h:M a=some (.lst (ds.map W.d))):DatW M (.m a) (.list ds)
theorem DatW.sound {K:PySem.W.Frag}{H:Hp}{M:MH}{w:W}{d:PyData}{x:V}(g:DatW M w d)(r:RepW K H w x)(m:MAbs K H M):RepT K H d x:=by
 cases g with
 | d=>exact .inl r
 | l h =>
  obtain ⟨vs,e,ra⟩:=m _ _ h
  exact .inr ⟨_,vs,_,rfl,r,e,ra.data⟩
section
variable {X:Cx}{pins:List (Addr×Obj)}{σ:St}{H:Hp}{s:Shared}
theorem thaw (I:Inv X pins σ H s){d:PyData}{x:V}(h:RepT X.K H d x):∃ H',Inv X pins σ H' s/\RepD X.K H' d x:=by
 rcases h with h | ⟨a,vs,ds,rfl,rfl,e,ra⟩
 ·exact ⟨H,I,h⟩
 ·obtain ⟨o,I2⟩:=I.freeze e trivial
  have kp:Kp H (upd H a (.frz o (.lst vs))):=Kp.set e (λ _ z=>nomatch z) (λ _ _ z=>nomatch z)
  refine ⟨_,I2,?_⟩
  simp only [RepD]
  exact ⟨a,vs,rfl,.inl ⟨o,upd_same⟩,ra.keep kp⟩
theorem readsT_of (I:Inv X pins σ H s)(d:PyData){x:V}{u:Value}(h:RepT X.K H d x)(r:RelV x u)(hd:d.hasDict=false):∃ as,Reads s.heap u d as:=by
 obtain ⟨H',I',h'⟩:=thaw I h
 exact reads_of I' d h' r hd
theorem readsT_repr (I:Inv X pins σ H s){d:PyData}{x:V}{u:Value}(h:RepT X.K H d x)(r:RelV x u)(ok:reprOk d=true):∃ as,Reads s.heap u d as/\(d.hasDict=true->sysModules ∉ as):=by
 obtain ⟨H',I',h'⟩:=thaw I h
 exact reads_repr I' h' r ok
end
section
variable {X:Cx}
theorem call_reprT {k:Nat}(hr:RoomH k X.A):CallR X (.builtin "repr") (λ xs H Q=>∃ x d,xs=[x]/\RepT X.K H d x/\reprOk d=true/\Q (.str d.shown) H):=by
 intro pins s σ H xs us Q I r h
 obtain ⟨x,d,rfl,rd,ok,q⟩:=h
 obtain ⟨u,rfl,rx⟩:=vals1 r
 obtain ⟨as,rr,hsm⟩:=readsT_repr I rd rx ok
 have ok':=ok
 simp only [reprOk,Bool.and_eq_true,decide_eq_true_eq] at ok'
 obtain ⟨⟨⟨hs,hz⟩,hd⟩,_⟩:=ok'
 have hu:=hr.units
 cases rr with
 | none=>exact PySem.P.repr_of_none ⟨.str _,H,I.tok _,⟨_,rfl⟩,by simpa [PyData.shown] using q⟩
 | bool b=>exact PySem.P.repr_of_bool ⟨.str _,H,I.tok _,⟨_,rfl⟩,by simpa [PyData.shown] using q⟩
 | int i t =>
  refine PySem.P.repr_of_int (by simpa [PyData.showable] using hs) ⟨.str _,H,I.tok _,⟨_,rfl⟩,?_⟩
  rw [PyData.shown] at q
  exact q
 | str i t =>
  refine PySem.P.repr_of_str ⟨.str _,H,I.tok _,⟨_,rfl⟩,?_⟩ (by simpa [PyData.shown] using hz)
  rw [PyData.shown] at q
  exact q
 | list e1 e2 e3 e4=>exact repr_of_reads' (.list e1 e2 e3 e4) hs hsm hr.gd (by omega) (λ _ _ z=>z) (λ h' u tk hk=>⟨.str _,H,I.kept hk,⟨_,rfl⟩,q⟩) hz
 | tuple e1 e2 e3 e4=>exact repr_of_reads' (.tuple e1 e2 e3 e4) hs hsm hr.gd (by omega) (λ _ _ z=>z) (λ h' u tk hk=>⟨.str _,H,I.kept hk,⟨_,rfl⟩,q⟩) hz
 | dict e1 e2 e3 e4 e5=>exact repr_of_reads' (.dict e1 e2 e3 e4 e5) hs hsm hr.gd (by omega) (λ _ _ z=>z) (λ h' u tk hk=>⟨.str _,H,I.kept hk,⟨_,rfl⟩,q⟩) hz
theorem op_eqT {k:Nat}(hr:RoomH k X.A):OpR X (compareOp .Eq) (λ x y H Q=>∃ d d',RepT X.K H d x/\RepT X.K H d' y/\eqOk2 d d'=true/\Q (.bl (PyData.eqv d d')) H):=by
 intro pins s σ H x y v u Q I rx ry h
 obtain ⟨d,d',h1,h2,o,q⟩:=h
 rcases eqOk2_cases o with ⟨a,b,e1,e2⟩ | ⟨o1,o2⟩
 ·subst e1; subst e2
  rcases h1 with h1 | ⟨_,_,_,z,_⟩
  ·rcases h2 with h2 | ⟨_,_,_,z,_⟩
   ·exact op_eqD hr pins s σ H x y v u Q I rx ry ⟨_,_,h1,h2,o,q⟩
   ·cases z
  ·cases z
 simp only [eqOk,Bool.and_eq_true,Bool.not_eq_true'] at o1 o2
 obtain ⟨as,r1⟩:=readsT_of I d h1 rx o1.2
 obtain ⟨bs,r2⟩:=readsT_of I d' h2 ry o2.2
 exact eq_dataH r1 r2 o1.1 o2.1 hr.units ⟨.bl _,H,I,rfl,q⟩
theorem op_neT {k:Nat}(hr:RoomH k X.A):OpR X (compareOp .NotEq) (λ x y H Q=>∃ d d',RepT X.K H d x/\RepT X.K H d' y/\eqOk2 d d'=true/\Q (.bl (!PyData.eqv d d')) H):=by
 intro pins s σ H x y v u Q I rx ry h
 obtain ⟨d,d',h1,h2,o,q⟩:=h
 rcases eqOk2_cases o with ⟨a,b,e1,e2⟩ | ⟨o1,o2⟩
 ·subst e1; subst e2
  rcases h1 with h1 | ⟨_,_,_,z,_⟩
  ·rcases h2 with h2 | ⟨_,_,_,z,_⟩
   ·exact op_neD hr pins s σ H x y v u Q I rx ry ⟨_,_,h1,h2,o,q⟩
   ·cases z
  ·cases z
 simp only [eqOk,Bool.and_eq_true,Bool.not_eq_true'] at o1 o2
 obtain ⟨as,r1⟩:=readsT_of I d h1 rx o1.2
 obtain ⟨bs,r2⟩:=readsT_of I d' h2 ry o2.2
 exact ne_dataH r1 r2 o1.1 o2.1 hr.units ⟨.bl _,H,I,rfl,q⟩
end
section
variable {X:Cx}{K:PySem.W.Frag}
noncomputable def rdEqT (w w':W)(M:MH)(Q:QD):Prop:=∃ d d',DatW M w d/\DatW M w' d'/\eqOk2 d d'=true/\Q (.d (.bool (PyData.eqv d d'))) M
noncomputable def rdNeT (w w':W)(M:MH)(Q:QD):Prop:=∃ d d',DatW M w d/\DatW M w' d'/\eqOk2 d d'=true/\Q (.d (.bool (!PyData.eqv d d'))) M
theorem opd_eqT:OpD K (λ x y H Q=>∃ d d',RepT K H d x/\RepT K H d' y/\eqOk2 d d'=true/\Q (.bl (PyData.eqv d d')) H) rdEqT:=by
 intro x y H w w' M Qd Q r1 r2 m ⟨d,d',g1,g2,o1,q⟩ k
 exact ⟨d,d',g1.sound r1 m,g2.sound r2 m,o1,k _ H (.d (.bool _)) M (Kp.refl H) (by simp [RepW,RepD]) m q⟩
theorem opd_neT:OpD K (λ x y H Q=>∃ d d',RepT K H d x/\RepT K H d' y/\eqOk2 d d'=true/\Q (.bl (!PyData.eqv d d')) H) rdNeT:=by
 intro x y H w w' M Qd Q r1 r2 m ⟨d,d',g1,g2,o1,q⟩ k
 exact ⟨d,d',g1.sound r1 m,g2.sound r2 m,o1,k _ H (.d (.bool _)) M (Kp.refl H) (by simp [RepW,RepD]) m q⟩
inductive SeqW (M:MH):W->List W->Prop
 | l {ds:List PyData}:SeqW M (.d (.list ds)) (ds.map W.d)
 | t {ds:List PyData}:SeqW M (.d (.tuple ds)) (ds.map W.d)
 | m {a:Addr} {ws:List W} (h:M a=some (.lst ws)):SeqW M (.m a) ws
theorem SeqW.sound {H:Hp}{M:MH}{w:W}{ws:List W}{x:V}(g:SeqW M w ws)(r:RepW K H w x)(m:MAbs K H M):∃ p ys,x=.ref p/\(SqL K H p ys\/SqT K H p ys)/\RepWs K H ws ys:=by
 cases g with
 | l =>
  simp only [RepW,RepD] at r
  obtain ⟨a,vs,e,hs,ra⟩:=r
  exact ⟨a,vs,e,.inl hs.sq,ra.ws⟩
 | t =>
  simp only [RepW,RepD] at r
  obtain ⟨a,vs,e,hs,ra⟩:=r
  exact ⟨a,vs,e,.inr hs,ra.ws⟩
 | m h =>
  obtain ⟨vs,e,ra⟩:=m _ _ h
  exact ⟨_,vs,r,.inl (.inl (.inl e)),ra⟩
noncomputable def rdListOf (ws:List W)(M:MH)(Q:QD):Prop:=∃ w xs,ws=[w]/\SeqW M w xs/\∀ p,M p=none->Q (.m p) (updM M p (.lst xs))
theorem cd_listOf:CallD K (λ xs H Q=>∃ p ys,xs=[.ref p]/\(SqL K H p ys\/SqT K H p ys)/\∀ l,H l=none->Q (.ref l) (upd H l (.lst ys))) rdListOf:=by
 intro vs H ws M Qd Q r m ⟨w,xs,e,g,q⟩ k
 subst e
 obtain ⟨v,e1,r1⟩:=repWs1 r
 obtain ⟨p,ys,ev,hs,rs⟩:=g.sound r1 m
 subst ev
 refine ⟨p,ys,e1,hs,λ l hl=>?_⟩
 have kp:Kp H (upd H l (.lst ys)):=Kp.new hl
 exact k _ _ (.m l) _ kp rfl (m.put (mo:=.lst xs) kp ⟨ys,upd_same,rs.keep kp⟩) (q l (m.free hl))
noncomputable def rdTupleOf (ws:List W)(M:MH)(Q:QD):Prop:=∃ w ds,ws=[w]/\SeqW M w (ds.map W.d)/\Q (.d (.tuple ds)) M
theorem cd_tupleOf:CallD K (λ xs H Q=>∃ p ys,xs=[.ref p]/\((SqL K H p ys/\∀ l,H l=none->Q (.ref l) (upd H l (.tup ys)))\/(SqT K H p ys/\Q (.ref p) H))) rdTupleOf:=by
 intro vs H ws M Qd Q r m ⟨w,ds,e,g,q⟩ k
 subst e
 obtain ⟨v,e1,r1⟩:=repWs1 r
 obtain ⟨p,ys,ev,hs,rs⟩:=g.sound r1 m
 subst ev
 rcases hs with hs | hs
 ·refine ⟨p,ys,e1,.inl ⟨hs,λ l hl=>?_⟩⟩
  have kp:Kp H (upd H l (.tup ys)):=Kp.new hl
  refine k _ _ (.d (.tuple ds)) M kp ?_ (m.new hl) q
  simp only [RepW,RepD]
  exact ⟨l,ys,rfl,.inl (.inl upd_same),rs.data.keep kp⟩
 ·refine ⟨p,ys,e1,.inr ⟨hs,?_⟩⟩
  refine k _ _ (.d (.tuple ds)) M (Kp.refl H) ?_ m q
  simp only [RepW,RepD]
  exact ⟨p,ys,rfl,hs,rs.data⟩
noncomputable def strsW (zs:List Str):List W:=zs.map λ z=>.d (.str z)
inductive TruW (M:MH):W->Bool->Prop
 | n:TruW M (.d .none) false
 | b {k:Bool}:TruW M (.d (.bool k)) k
 | i {k:Int}:TruW M (.d (.int k)) (k != 0)
 | s {z:Str} (h:z.length<=sizeLine):TruW M (.d (.str z)) ((z.length:Int) != 0)
 | l {ds:List PyData}:TruW M (.d (.list ds)) (!ds.isEmpty)
 | t {ds:List PyData}:TruW M (.d (.tuple ds)) (!ds.isEmpty)
 | m {a:Addr} {ws:List W} (h:M a=some (.lst ws)):TruW M (.m a) (!ws.isEmpty)
 | dk {a:Addr} {kvs:List (Key×W)} (h:M a=some (.dic kvs)):TruW M (.m a) (!kvs.isEmpty)
theorem empty_len {α β:Type}{xs:List α}{ys:List β}(h:xs.length=ys.length):xs.isEmpty=ys.isEmpty:=by
 cases xs <;> cases ys <;> simp at h ⊢
theorem TruW.sound {H:Hp}{M:MH}{w:W}{b:Bool}{x:V}(g:TruW M w b)(r:RepW K H w x)(m:MAbs K H M):TruV K x H b:=by
 cases g with
 | n=>simp only [RepW,RepD] at r; subst r; rfl
 | b=>simp only [RepW,RepD] at r; subst r; rfl
 | i=>simp only [RepW,RepD] at r; subst r; rfl
 | s h=>simp only [RepW,RepD] at r; subst r; exact ⟨h,rfl⟩
 | l =>
  simp only [RepW,RepD] at r
  obtain ⟨a,vs,e,hs,ra⟩:=r
  subst e
  exact .inl ⟨vs,hs.sq,by rw [empty_len ra.length]⟩
 | t =>
  simp only [RepW,RepD] at r
  obtain ⟨a,vs,e,hs,ra⟩:=r
  subst e
  exact .inr (.inl ⟨vs,hs,by rw [empty_len ra.length]⟩)
 | m h =>
  obtain ⟨vs,e,ra⟩:=m _ _ h
  have r':x=.ref _:=r
  subst r'
  exact .inl ⟨vs,.inl (.inl e),by rw [empty_len ra.length]⟩
 | dk h =>
  obtain ⟨l,e,pr⟩:=m _ _ h
  have r':x=.ref _:=r
  subst r'
  exact .inr (.inr ⟨l,e,by rw [empty_len (tb_len pr)]⟩)
noncomputable def dTru (ta:TD)(τ:DS)(M:MH)(Q:Bool->MH->Prop):Prop:=ta τ M λ w M1=>∃ b,TruW M1 w b/\Q b M1
theorem ptd_truth {a:Expr}{ta:TD}(ha:PD X a ta)(he:∀ whole:Sem Value,PySem.isTrue a X.env whole=(do let v <- whole; standAt a.pos; holding [v] (truthy v)):=by intro _; rfl):PTd X a (dTru ta) :=
 pt_w (pt_truth ha he) λ σ H Q h=>by
  obtain ⟨τ,M,Qd,A,h,k⟩:=h
  exact ⟨τ,M,_,A,h,λ v H' w M' kp r m ⟨b,g,q⟩=>⟨b,g.sound r m,k b H' M' kp m q⟩⟩
end
end D
namespace D
open PySem PySem.Spec PyProof.Rows L2
section
variable {X:Cx}{K:PySem.W.Frag}
inductive LstW (M:MH):W->List PyData->Prop
 | d {ds:List PyData}:LstW M (.d (.list ds)) ds
 | m {a:Addr} {ds:List PyData} (h:M a=some (.lst (ds.map W.d))):LstW M (.m a) ds
theorem LstW.sound {H:Hp}{M:MH}{w:W}{ds:List PyData}{x:V}(g:LstW M w ds)(r:RepW K H w x)(m:MAbs K H M):∃ p ys,x=.ref p/\SqL K H p ys/\RepA K H ds ys:=by
 cases g with
 | d =>
  simp only [RepW,RepD] at r
  obtain ⟨a,vs,e,hs,ra⟩:=r
  exact ⟨a,vs,e,hs.sq,ra⟩
 | m h =>
  obtain ⟨vs,e,ra⟩:=m _ _ h
  exact ⟨_,vs,r,.inl (.inl e),ra.data⟩
end
noncomputable abbrev TGsd:=List W->DS->MH->(DS->MH->Prop)->Prop
noncomputable def upGs (K:PySem.W.Frag)(g:TGsd):TGs:=λ vs σ H Q=>∃ ws τ M Qd,RepWs K H ws vs/\Abs K H σ τ M/\g ws τ M Qd/\∀ σ' H' τ' M',Kp H H'->Abs K H' σ' τ' M'->Qd τ' M'->Q σ' H'
noncomputable abbrev PGsd (X:Cx)(es:List Expr)(g:TGsd):Prop:=PGs X es (upGs X.K g)
theorem pgs_w {X:Cx}{es:List Expr}{g g':TGs}(h:PGs X es g)(k:∀ v σ H Q,g' v σ H Q->g v σ H Q):PGs X es g':=λ pins s σ H v u Q I r q=>h pins s σ H v u Q I r (k v σ H Q q)
section
variable {X:Cx}{pos:Pos}{e:Expr}{es:List Expr}
noncomputable def gsNil (ws:List W)(τ:DS)(M:MH)(Q:DS->MH->Prop):Prop:=ws=[]/\Q τ M
noncomputable def gsCons (g:TGd)(gs:TGsd)(ws:List W)(τ:DS)(M:MH)(Q:DS->MH->Prop):Prop:=∃ w r,ws=w :: r/\g w τ M λ τ' M'=>gs r τ' M' Q
theorem pgsd_nil:PGsd X [] gsNil:=pgs_w pgs_nil λ vs σ H Q hq62=>by
 obtain ⟨ws,τ,M,Qd,r,A,⟨e,q⟩,k⟩:=hq62
 subst e
 cases r
 exact ⟨rfl,k σ H τ M (Kp.refl H) A q⟩
theorem pgsd_cons {g:TGd}{gs:TGsd}(h1:PGd X e g)(h2:PGsd X es gs)(hs:(assignEach (e :: es) X.env).map (·.2)=assign e X.env :: (assignEach es X.env).map (·.2):=by rfl):PGsd X (e :: es) (gsCons g gs) :=
 pgs_w (pgs_cons h1 h2 hs) λ vs σ H Q hq63=>by
  obtain ⟨ws,τ,M,Qd,r,A,⟨w,wr,ew,q⟩,k⟩:=hq63
  subst ew
  cases r with
  | cons r1 r2 =>
   refine ⟨_,_,rfl,w,τ,M,_,r1,A,q,λ σ1 H1 τ1 M1 kp1 A1 q1=>?_⟩
   exact ⟨wr,τ1,M1,Qd,RepWs.keep kp1 r2,A1,q1,λ σ2 H2 τ2 M2 kp2 A2 q2=>k σ2 H2 τ2 M2 (kp1.trans kp2) A2 q2⟩
noncomputable def gT (n:Nat)(gs:TGsd)(w:W)(τ:DS)(M:MH)(Q:DS->MH->Prop):Prop:=∃ ds,w=.d (.tuple ds)/\ds.length=n/\gs (ds.map W.d) τ M Q
theorem pgd_tup {k n:Nat}{gs:TGsd}(hc:X.calm=true)(h:PGsd X es gs)(hn:(assignEach es X.env).length=n:=by rfl)(hst:(assignEach es X.env).findIdx? (·.1)=none:=by rfl):PGd X (.Tuple es k pos) (gT n gs) :=
 pg_w (pg_tup hc h hn hst) λ v σ H Q hq64=>by
  obtain ⟨w,τ,M,Qd,r,A,⟨ds,ew,hl,q⟩,kk⟩:=hq64
  subst ew
  simp only [RepW,RepD] at r
  obtain ⟨a,vs,ev,hs,ra⟩:=r
  exact ⟨a,vs,ev,hs,by rw [ra.length]; exact hl,ds.map W.d,τ,M,Qd,ra.ws,A,q,kk⟩
noncomputable def dDictM (trs:List (TD×TD))(τ:DS)(M:MH)(Q:QD):Prop:=∀ p,M p=none->dPairs trs τ (updM M p (.dic [])) λ ps M2=>M2 p=some (.dic [])/\∃ kvs:List (Key×W),ps=kvs.map (λ q=>(kW q.1,q.2))/\kvs.length<=15/\(kvs.map (·.1)).Nodup /\
 Q (.m p) (updM M2 p (.dic kvs))
theorem pairs_keyW {K:PySem.W.Frag}{H:Hp}:∀ {kvs:List (Key×W)} {ps:List (V×V)},Paired (λ (p:W×W) (q:V×V)=>RepW K H p.1 q.1/\RepW K H p.2 q.2) (kvs.map λ q=>(kW q.1,q.2)) ps ->
  ∃ l:List (Key×V),ps=l.map (λ kv=>(kV kv.1,kv.2))/\l.map (·.1)=kvs.map (·.1)/\Paired (λ (p:Key×W) (q:Key×V)=>p.1=q.1/\RepW K H p.2 q.2) kvs l
 | [],ps,h=>by cases h; exact ⟨[],rfl,rfl,.nil⟩
 | (k,d) :: kvs,ps,h=>by
  cases h with
  | cons r t =>
   rename_i q qs
   obtain ⟨x,y⟩:=q
   obtain ⟨l,e1,e2,e3⟩:=pairs_keyW t
   refine ⟨(k,y) :: l,?_,by simp [e2],.cons ⟨rfl,r.2⟩ e3⟩
   rw [List.map_cons,<- e1,<- kW_rep r.1]
theorem pd_dictM {keys:List (Option Expr)}{values:List Expr}{trs:List (TD×TD)}(h:PPs X pos keys values (trs.map λ p=>(up X.K p.1,up X.K p.2)))(hall:keys.all (·.isSome)=true:=by rfl)(hl:keys.length=values.length:=by rfl)(h0:keys≠[]:=by simp)
  (h15:keys.length<=15:=by decide):PD X (.Dict keys values pos) (dDictM trs):=pe_w (pe_disp h hall hl h0 h15) λ σ H Q ⟨τ,M,Qd,A,q,k⟩=>λ p hp=>by
 have kp0:Kp H (upd H p (.dK [])):=Kp.new hp
 have m0:MAbs X.K (upd H p (.dK [])) (updM M p (.dic [])):=A.mem.put (mo:=.dic []) kp0 ⟨[],upd_same,.nil⟩
 have hM:=A.mem.free hp
 refine imp_pairs (A.go kp0 m0) (q p hM) λ ps H2 ws M2 kp2 r2 m2 hq65=>?_
 obtain ⟨eM,kvs,ews,hlen,hnd,qq⟩:=hq65
 subst ews
 obtain ⟨l0,e0,pr0⟩:=m2 p _ eM
 have el0:l0=[]:=by cases pr0; rfl
 subst el0
 obtain ⟨l,e1,e2,e3⟩:=pairs_keyW r2
 have elen:l.length=kvs.length:=by
  have:=congrArg List.length e2
  simpa using this
 refine ⟨e0,l,e1,by omega,?_⟩
 have em:mergeK [] l=l:=by rw [mergeK_new (by simpa [e2] using hnd)]; rfl
 rw [em]
 have kp3:Kp H2 (upd H2 p (.dK l)):=Kp.set e0 (λ xs z=>nomatch z) λ _ _ z=>nomatch z
 exact k _ _ (.m p) _ ((kp0.trans kp2).trans kp3) rfl (m2.put (mo:=.dic kvs) kp3 ⟨l,upd_same,Paired.mapP e3 λ p q z=>⟨z.1,z.2.keep kp3⟩⟩) qq
end
end D
namespace D
open PySem PySem.Spec PyProof.Rows L2
structure Mf (K:PySem.W.Frag)(C:Addr)(x qual:Str)(st:Stmt)(ps:List Str)(f:Addr)(fd:FuncData):Prop where
 fn:Fun K x qual st f fd
 me:Meth K C x f
 bd:Binds K fd ps []
structure Mi (K:PySem.W.Frag)(C:Addr)(qual:Str)(st:Stmt)(ps:List Str)(f:Addr)(fd:FuncData):Prop where
 fn:Fun K "__init__" qual st f fd
 mi:Mk K C f
 bd:Binds K fd ps []
section
variable {K:PySem.W.Frag}{C:Addr}
theorem mf_mk {x qual:Str}{st:Stmt}{ps:List Str}{f:Addr}{oc:Value}{od an:Option Addr}{osl:Array (Option Value)}{kV doc pm cdv ct:Value}(a:PySem.W.findIn K (.ref C) x=some (some (.ref f)))(i:PySem.W.isFn K (.ref f)=true)
  (l:K.lookup f=some ⟨oc,od,.func (PySem.W.fnOf x qual (defArgs st) (defBody st) (defScope st) .none kV doc pm an cdv ct),osl⟩)(c:PySem.W.codeIn K cdv qual=true)(k:PySem.W.keepIn K (.ref f)=true)
  (b:∀ (kV doc pm:Value) (an:Option Addr) (cdv ct:Value) (us:List Value),us.length=ps.length->bindArgs (PySem.W.fnOf x qual (defArgs st) (defBody st) (defScope st) .none kV doc pm an cdv ct) ⟨us,[]⟩=pure (ps.zip us)) :
  Mf K C x qual st ps f (PySem.W.fnOf x qual (defArgs st) (defBody st) (defScope st) .none kV doc pm an cdv ct) :=
 have F:=fun_mk (st:=st) l c k
 ⟨F,⟨a,i,k⟩,F.binds b⟩
theorem mi_mk {qual:Str}{st:Stmt}{ps:List Str}{f:Addr}{oc:Value}{od an:Option Addr}{osl:Array (Option Value)}{kV doc pm cdv ct:Value}(a:PySem.W.findIn K (.ref C) "__init__" = some (some (.ref f)))(i:PySem.W.isFn K (.ref f)=true)
  (l:K.lookup f=some ⟨oc,od,.func (PySem.W.fnOf "__init__" qual (defArgs st) (defBody st) (defScope st) .none kV doc pm an cdv ct),osl⟩)(c:PySem.W.codeIn K cdv qual=true)(k:PySem.W.keepIn K (.ref f)=true)
  (mk:PySem.W.makesIn K C=true)(kc:PySem.W.keepIn K (.ref C)=true)
  (b:∀ (kV doc pm:Value) (an:Option Addr) (cdv ct:Value) (us:List Value),us.length=ps.length->bindArgs (PySem.W.fnOf "__init__" qual (defArgs st) (defBody st) (defScope st) .none kV doc pm an cdv ct) ⟨us,[]⟩=pure (ps.zip us)) :
  Mi K C qual st ps f (PySem.W.fnOf "__init__" qual (defArgs st) (defBody st) (defScope st) .none kV doc pm an cdv ct) :=
 have F:=fun_mk (st:=st) l c k
 ⟨F,⟨mk,a,i,kc⟩,F.binds b⟩
end
section
variable {X:Cx}{pos p:Pos}{e:Expr}{es:List Expr}{t:TAd}{x:Str}{T:String}{r:List V->Hp->VK->Prop}{rd:List W->MH->QD->Prop}
theorem pcT (hc:CallR X (.type T) r)(hd:CallD X.K r rd)(hg:Gl X x)(hm:X.mg x=none)(hv:bootBuiltins x=some (.type T))(ha:PAd X (e :: es) t)(hn:x ≠ "__name__" := by decide)(hdb:(x == ("__debug__" : Str))=false:=by decide)
  (h1:isSt e=false:=by rfl)(h2:(es.all λ e=>!isSt e)=true:=by rfl):PD X (.Call (.Name x p) (e :: es) [] pos) (dCB rd t):=pd_callTy hc hd hg hm hv ha hn hdb (star_ok e es X.env h1) (plain_ok pos X.env es h2)
end
end D
namespace D
open PySem PySem.Spec PyProof.Rows L2
namespace Q
section
variable {X:Cx}{o i e f:Expr}{pos apos cpos:Pos}{td ty tx:TE}
end
section
variable {X:Cx}{o i e f value:Expr}{es:List Expr}{pos pos' apos cpos:Pos}{td ti tx tv:TD}{t:TAd}
theorem pd_newDic  : Jd (PD X (.Dict [] [] pos) dNewDic):=⟨D.pd_newDic ⟩
theorem ptd_dnotin (hu:X.A.units+1 < cLine)(hi:Jd (PD X i ti))(ho:Jd (PD X o td))(hm:behindInMarks .NotIn o=false:=by rfl):Jd (PTd X (.Compare i [.NotIn] [o] pos) (dTest (dDNotIn ti td))):=⟨D.ptd_dnotin (hu:=hu) (hi:=hi.h) (ho:=ho.h) (hm:=hm)⟩
theorem pd_dget (hu:X.A.units+1 < cLine)(ho:Jd (PD X o td))(hi:Jd (PD X i ti))(hs:NoSl i:=by exact λ _ _=>rfl):Jd (PD X (.Subscript o i pos) (dDGet td ti)):=⟨D.pd_dget (hu:=hu) (ho:=ho.h) (hi:=hi.h) (hs:=hs)⟩
end
section
variable {X:Cx}{C f:Addr}{o e value:Expr}{es:List Expr}{fn m x:Str}{pos pos' apos p:Pos}{td tv te:TD}{t:TAd}{k:Nat}{fd:FuncData}{ps:List Str}{sp:SpD}
theorem pd_fld (c:Cls X.K C)(n:NoAttr X.K C fn)(he:Jd (PD X e td))(hb:attributeBase e fn X.env (eval e X.env)=eval e X.env:=by rfl):Jd (PD X (.Attribute e fn pos) (dFld C td fn)):=⟨D.pd_fld (c:=c) (n:=n) (he:=he.h) (hb:=hb)⟩
theorem psd_fld (c:Cls X.K C)(n:NoAttr X.K C fn)(ha:Jd (PD X o td))(hv:Jd (PD X value tv))(hs:swapsWith value (some (.Attribute o fn pos')) pos.line X.env=pure false:=by rfl):Jd (PSd X (.Assign [.Attribute o fn pos'] value pos) (dFldPut C td tv fn)):=⟨D.psd_fld (c:=c) (n:=n) (ha:=ha.h) (hv:=hv.h) (hs:=hs)⟩
theorem pd_meth0 {pl:Sem Bool}(he:Jd (PD X o td))(c:Cls X.K C)(hm:Meth X.K C m f)(F:FnOk X.prog X.w X.K X.mg X.base CX0 k f fd ps (upSp X.K sp))(hr:Room k X.A)(hb:Binds X.K fd ps [])(ht:eval (.Call (.Attribute o m apos) [] [] pos) X.env=(do
   let ov <- eval o X.env
   standAt apos.atName
   let (f,first) <- holding [ov] (getMethod ov m pl)
   callWith pos f first (backTo pos (starEach [] X.env)) (backToKw pos (keywordEach [] X.env))):=by rfl):Jd (PD X (.Call (.Attribute o m apos) [] [] pos) (dMeth C m sp td dNil)):=⟨D.pd_meth0 (he:=he.h) (c:=c) (hm:=hm) (F:=F) (hr:=hr) (hb:=hb) (ht:=ht)⟩
end
section
variable {X:Cx}{o e:Expr}{pos apos cpos:Pos}{td te:TD}
theorem pd_seal (h:Jd (PD X e td)):Jd (PD X e (dSeal td)):=⟨D.pd_seal (h:=h.h)⟩
theorem pd_append (ho:Jd (PD X o td))(he:Jd (PD X e te))(hbase:attributeBase o "append" X.env (eval o X.env)=eval o X.env:=by rfl)(hfew:((backTo cpos (starEach [e] X.env)).all (λ x=>!x.1) && (backToKw cpos (keywordEach [] X.env)).all (λ x=>x.1.isSome)
   && decide (([e]:List Expr).length+([]:List Keyword).length+(if ([]:List Keyword).isEmpty then 0 else 1) < 30))=true:=by rfl)(hline:(apos.endLine == cpos.line)=true:=by rfl)(hs:isSt e=false:=by rfl):Jd (PD X (.Call (.Attribute o "append" apos) [e] [] cpos) (dAppend td te)):=⟨D.pd_append (ho:=ho.h) (he:=he.h) (hbase:=hbase) (hfew:=hfew) (hline:=hline) (hs:=hs)⟩
end
section
variable {X:Cx}{pins:List (Addr×Obj)}{σ:St}{H:Hp}{s:Shared}
end
section
variable {X:Cx}
end
section
variable {X:Cx}{K:PySem.W.Frag}
theorem ptd_truth {a:Expr}{ta:TD}(ha:Jd (PD X a ta))(he:∀ whole:Sem Value,PySem.isTrue a X.env whole=(do let v <- whole; standAt a.pos; holding [v] (truthy v)):=by intro _; rfl):Jd (PTd X a (dTru ta)):=⟨D.ptd_truth (ha:=ha.h) (he:=he)⟩
end
section
variable {X:Cx}{K:PySem.W.Frag}
end
section
variable {X:Cx}{pos:Pos}{e:Expr}{es:List Expr}
theorem pgsd_nil  : Jd (PGsd X [] gsNil):=⟨D.pgsd_nil ⟩
theorem pgsd_cons {g:TGd}{gs:TGsd}(h1:Jd (PGd X e g))(h2:Jd (PGsd X es gs))(hs:(assignEach (e :: es) X.env).map (·.2)=assign e X.env :: (assignEach es X.env).map (·.2):=by rfl):Jd (PGsd X (e :: es) (gsCons g gs)):=⟨D.pgsd_cons (h1:=h1.h) (h2:=h2.h) (hs:=hs)⟩
theorem pgd_tup {k n:Nat}{gs:TGsd}(hc:X.calm=true)(h:Jd (PGsd X es gs))(hn:(assignEach es X.env).length=n:=by rfl)(hst:(assignEach es X.env).findIdx? (·.1)=none:=by rfl):Jd (PGd X (.Tuple es k pos) (gT n gs)):=⟨D.pgd_tup (hc:=hc) (h:=h.h) (hn:=hn) (hst:=hst)⟩
theorem pd_dictM {keys:List (Option Expr)}{values:List Expr}{trs:List (TD×TD)}(h:Jd (PPs X pos keys values (trs.map (pm X.K))))(hall:keys.all (·.isSome)=true:=by rfl)(hl:keys.length=values.length:=by rfl)(h0:keys≠[]:=by simp)(h15:keys.length<=15:=by decide):Jd (PD X (.Dict keys values pos) (dDictM trs)):=⟨D.pd_dictM (h:=h.h) (hall:=hall) (hl:=hl) (h0:=h0) (h15:=h15)⟩
end
section
variable {K:PySem.W.Frag}{C:Addr}
end
section
variable {X:Cx}{pos p:Pos}{e:Expr}{es:List Expr}{t:TAd}{x:Str}{T:String}{r:List V->Hp->VK->Prop}{rd:List W->MH->QD->Prop}
theorem pcT (hc:CallR X (.type T) r)(hd:CallD X.K r rd)(hg:Gl X x)(hm:X.mg x=none)(hv:bootBuiltins x=some (.type T))(ha:Jd (PAd X (e :: es) t))(hn:x ≠ "__name__" := by decide)(hdb:(x == ("__debug__" : Str))=false:=by decide)(h1:isSt e=false:=by rfl)(h2:(es.all λ e=>!isSt e)=true:=by rfl):Jd (PD X (.Call (.Name x p) (e :: es) [] pos) (dCB rd t)):=⟨D.pcT (hc:=hc) (hd:=hd) (hg:=hg) (hm:=hm) (hv:=hv) (ha:=ha.h) (hn:=hn) (hdb:=hdb) (h1:=h1) (h2:=h2)⟩
end
end Q
end D
namespace D
open PySem PySem.Spec PyProof.Rows L2
@[simp] theorem eqOk2_int (i j:Int):eqOk2 (.int i) (.int j)=true:=rfl
@[simp] theorem eqOk2_str (x y:Str):eqOk2 (.str x) (.str y)=true:=rfl
@[simp] theorem eqOk2_bool (x y:Bool):eqOk2 (.bool x) (.bool y)=true:=rfl
@[simp] theorem eqv_int (i j:Int):PyData.eqv (.int i) (.int j)=(i == j):=by rw [PyData.eqv]
@[simp] theorem eqv_str (i j:Str):PyData.eqv (.str i) (.str j)=(i == j):=by rw [PyData.eqv]
@[simp] theorem fitW_m (a:Addr):fitW (.m a)=true:=rfl
@[simp] theorem fitW_list (ds:List PyData):fitW (.d (.list ds))=true:=rfl
@[simp] theorem fitW_tuple (ds:List PyData):fitW (.d (.tuple ds))=true:=rfl
@[simp] theorem ixN_zero (n:Nat):ixN (n+1) 0=some 0:=by unfold ixN; simp
theorem atI_nn {α:Type}{xs:List α}{i:Int}(h0:0<=i)(h1:i < xs.length):atI xs i=some (xs[i.toNat]'(by omega)):=by
 unfold atI ixN
 rw [if_pos h0,if_pos h1]
 simp
inductive Bag (M:MH) (p:Addr):Prop
 | mk (a b c:Int) (ns:List Int) (e:M p=some (.lst [.d (.int a),.d (.int b),.d (.int c),.d (.list (ns.map PyData.int))])) (z:0<=a/\0<=b/\b < 2147483647/\0<=c/\(∀ n∈ns,0<=n)):Bag M p
noncomputable def sp_l_bag:SpD:=λ ws M Q=>∃ ns:List Int,ws=[.d (.list (ns.map PyData.int))]/\ns.length<=1000/\∀ p M',M p=none->(∀ q,q≠p->M' q=M q)->Bag M' p->Q (.m p) M'
inductive Sp_l_take (ws:List W) (M:MH) (Q:QD):Prop
 | mk (p:Addr) (n:Int) (z0:ws=[.m p,.d (.int n)]) (z1:Bag M p) (z2:0 < n) (z3:n < 1073741824) (z4:∀ (r:Int) M',0<=r->r < n->Bag M' p->(∀ q,q≠p->M' q=M q)->Q (.d (.int r)) M'):Sp_l_take ws M Q
noncomputable def sp_l_take:SpD:=Sp_l_take
theorem len_l_bag:∀ ws M Q,sp_l_bag ws M Q->ws.length=1:=by rintro ws M Q ⟨ns,rfl,_⟩; rfl
theorem len_l_take:∀ ws M Q,sp_l_take ws M Q->ws.length=2:=by rintro ws M Q ⟨p,n,rfl,_⟩; rfl
theorem ixN_nat {n:Nat}{i:Int}(h0:0<=i)(h1:i < n):ixN n i=some i.toNat:=by unfold ixN; rw [if_pos h0,if_pos h1]
theorem ix_m {M:MH}{p:Addr}{ws:List W}{i:Int}{x:W}(hm:M p=some (.lst ws))(h:atI ws i=some x):ixW M (.m p) i=some x:=by
 simp only [ixW,hm]; exact h
theorem ite_b {c:Bool}{A B:Prop}(h1:c=true->A)(h2:c=false->B):if c=true then A else B:=by
 cases c with
 | true=>rw [if_pos rfl]; exact h1 rfl
 | false=>rw [if_neg Bool.false_ne_true]; exact h2 rfl
end D
namespace D
open PySem PySem.Spec PyProof.Rows L2
noncomputable abbrev N_l_bag:List Str:=["_law_script"]
noncomputable def t_l_bag:TSd :=
  dRet (dLstM (dCons (dC (.d (.int 0))) (dCons (dC (.d (.int 1234567891))) (dCons (dC (.d (.int 0))) (dCons (dLC (dItems (dSl (dVar 0) (dNoPart) (dPart (dC (.d (.int 63)))))) (gN 0) (dYes) (dCB rdAbs (dCons (dVar 0) (dNil))) 1 []) (dNil))))))
noncomputable abbrev N_l_take:List Str:=["_law_bag_here", "_law_many", "_law_cell", "_law_value", "_law_first", "_law_second"]
noncomputable def t_l_take:TSd :=
  dSeq (dIf (dTest (dOp rdEq (dOp rdIx (dVar 0) (dC (.d (.int 0)))) (dC (.d (.int 0)))))
   (dSeq (dAsg (dC (.d (.int 0))) (gN 2)) <|
   dSeq (dIf (dTest (dOp rdLt (dOp rdIx (dVar 0) (dC (.d (.int 2)))) (dCB rdLen (dCons (dOp rdIx (dVar 0) (dC (.d (.int 3)))) (dNil)))))
    (dAsg (dOp rdIx (dOp rdIx (dVar 0) (dC (.d (.int 3)))) (dOp rdIx (dVar 0) (dC (.d (.int 2))))) (gN 2))
    (dNext)) <|
   dSeq (dAugS (dVar 0) (dC (.d (.int 2))) (dC (.d (.int 1))) (λ i j=>i+j)) <|
   dSeq (dIf (dTest (dOp rdGe (dVar 2) (dC (.d (.int 1000000000000000000)))))
    (dAsg (dVar 2) (gSet (dVar 0) (dC (.d (.int 0)))))
    (dNext)) <|
   dAsg (dOp rdMod (dOp rdAdd (dOp rdAdd (dOp rdMul (dOp rdIx (dVar 0) (dC (.d (.int 1)))) (dC (.d (.int 48271)))) (dOp rdMod (dVar 2) (dC (.d (.int 2147483647))))) (dOp rdMul (dC (.d (.int 7919))) (dOp rdIx (dVar 0) (dC (.d (.int 2)))))) (dC (.d (.int 2147483647)))) (gSet (dVar 0) (dC (.d (.int 1)))))
   (dNext)) <|
  dSeq (dIf (dTest (dOp rdGt (dOp rdIx (dVar 0) (dC (.d (.int 0)))) (dC (.d (.int 0)))))
   (dSeq (dAsg (dOp rdMod (dOp rdIx (dVar 0) (dC (.d (.int 0)))) (dVar 1)) (gN 3)) <|
   dSeq (dAsg (dOp rdDiv (dOp rdIx (dVar 0) (dC (.d (.int 0)))) (dVar 1)) (gSet (dVar 0) (dC (.d (.int 0))))) <|
   dRet (dVar 3))
   (dNext)) <|
  dSeq (dAsg (dOp rdMod (dOp rdMul (dOp rdAdd (dOp rdIx (dVar 0) (dC (.d (.int 1)))) (dC (.d (.int 1)))) (dC (.d (.int 39373)))) (dC (.d (.int 1000000007)))) (gN 4)) <|
  dSeq (dAsg (dOp rdMod (dOp rdMul (dOp rdMod (dOp rdMul (dVar 4) (dVar 4)) (dC (.d (.int 998244353)))) (dC (.d (.int 30011)))) (dC (.d (.int 998244353)))) (gN 5)) <|
  dSeq (dIf (dTest (dOp rdGt (dVar 1) (dC (.d (.int 1000000)))))
   (dRet (dOp rdMod (dOp rdAdd (dOp rdMul (dVar 5) (dC (.d (.int 1000000007)))) (dVar 4)) (dVar 1)))
   (dNext)) <|
  dRet (dOp rdMod (dOp rdDiv (dVar 5) (dC (.d (.int 7)))) (dVar 1))
noncomputable abbrev bagL (a b c:Int)(ns:List Int):List W:=[.d (.int a),.d (.int b),.d (.int c),.d (.list (ns.map PyData.int))]
theorem read_take2 {M:MH}{Q:QD}{p:Addr}{n:Int}{a b c:Int}{ns:List Int}{x:Option W}(hm:M p=some (.lst (bagL a b c ns)))(ha:0<=a)(hb:0<=b)(hb2:b < 2147483647)(hc:0<=c)(hns:∀ n∈ns,0<=n)(hn:0 < n)(hn2:n < 1073741824)
  (k:∀ (r:Int) M',0<=r->r < n->Bag M' p->(∀ q,q≠p->M' q=M q)->Q (.d (.int r)) M'){D:Ed}(hD:D.rt=Q) :
  (dSeq (dIf (dTest (dOp rdGt (dOp rdIx (dVar 0) (dC (.d (.int 0)))) (dC (.d (.int 0)))))
   (dSeq (dAsg (dOp rdMod (dOp rdIx (dVar 0) (dC (.d (.int 0)))) (dVar 1)) (gN 3)) <|
   dSeq (dAsg (dOp rdDiv (dOp rdIx (dVar 0) (dC (.d (.int 0)))) (dVar 1)) (gSet (dVar 0) (dC (.d (.int 0))))) <|
   dRet (dVar 3))
   (dNext)) <|
  dSeq (dAsg (dOp rdMod (dOp rdMul (dOp rdAdd (dOp rdIx (dVar 0) (dC (.d (.int 1)))) (dC (.d (.int 1)))) (dC (.d (.int 39373)))) (dC (.d (.int 1000000007)))) (gN 4)) <|
  dSeq (dAsg (dOp rdMod (dOp rdMul (dOp rdMod (dOp rdMul (dVar 4) (dVar 4)) (dC (.d (.int 998244353)))) (dC (.d (.int 30011)))) (dC (.d (.int 998244353)))) (gN 5)) <|
  dSeq (dIf (dTest (dOp rdGt (dVar 1) (dC (.d (.int 1000000)))))
   (dRet (dOp rdMod (dOp rdAdd (dOp rdMul (dVar 5) (dC (.d (.int 1000000007)))) (dVar 4)) (dVar 1)))
   (dNext)) <|
  dRet (dOp rdMod (dOp rdDiv (dVar 5) (dC (.d (.int 7)))) (dVar 1))) D [some (.m p),some (.d (.int n)),x,none,none,none] M:=by
 subst hD
 have i0:ixW M (.m p) 0=some (.d (.int a)):=ix_m hm rfl
 have i1:ixW M (.m p) 1=some (.d (.int b)):=ix_m hm rfl
 have same:Bag M p:=⟨a,b,c,ns,hm,ha,hb,hb2,hc,hns⟩
 refine ⟨_,rfl,_,_,rfl,i0,rfl,_,_,rfl,rfl,_,rfl,?_⟩
 refine ite_b (λ h=>?_) (λ h=>?_)
 ·have h0:0 < a:=of_decide_eq_true h
  refine ⟨_,rfl,_,_,rfl,i0,rfl,_,rfl,_,_,rfl,rfl,hn,?_⟩
  refine ⟨_,rfl,_,_,rfl,i0,rfl,_,rfl,_,_,rfl,rfl,⟨hn,hn2⟩,?_⟩
  refine ⟨_,rfl,_,_,_,_,rfl,rfl,hm,rfl,?_⟩
  refine ⟨_,rfl,?_⟩
  refine k _ _ (Int.emod_nonneg _ (by omega)) (Int.emod_lt_of_pos _ hn) ⟨a / n,b,c,ns,updM_same,Int.ediv_nonneg ha (by omega),hb,hb2,hc,hns⟩ λ q hq=>updM_ne hq
 ·refine ⟨_,rfl,_,_,rfl,i1,rfl,.inl ?_⟩
  refine ⟨_,_,rfl,rfl,_,_,rfl,rfl,.inl ⟨by omega,by omega⟩,_,_,rfl,rfl,(by decide:(0:Int) < 1000000007),?_⟩
  have f0:0<=(b+1) * 39373 % 1000000007:=Int.emod_nonneg _ (by decide)
  have f1:(b+1) * 39373 % 1000000007 < 1000000007:=Int.emod_lt_of_pos _ (by decide)
  refine ⟨_,rfl,_,rfl,_,_,rfl,rfl,.inl ⟨by omega,by omega⟩,_,_,rfl,rfl,(by decide:(0:Int) < 998244353),?_⟩
  have g0:0<=(b+1) * 39373 % 1000000007 * ((b+1) * 39373 % 1000000007) % 998244353:=Int.emod_nonneg _ (by decide)
  have g1:(b+1) * 39373 % 1000000007 * ((b+1) * 39373 % 1000000007) % 998244353 < 998244353:=Int.emod_lt_of_pos _ (by decide)
  refine ⟨_,_,rfl,rfl,.inl ⟨by omega,by omega⟩,_,_,rfl,rfl,(by decide:(0:Int) < 998244353),?_⟩
  have e0:0<=(b+1) * 39373 % 1000000007 * ((b+1) * 39373 % 1000000007) % 998244353 * 30011 % 998244353:=Int.emod_nonneg _ (by decide)
  have e1:(b+1) * 39373 % 1000000007 * ((b+1) * 39373 % 1000000007) % 998244353 * 30011 % 998244353 < 998244353:=Int.emod_lt_of_pos _ (by decide)
  refine ⟨_,rfl,_,_,rfl,rfl,_,rfl,?_⟩
  refine ite_b (λ h=>?_) (λ h=>?_)
  ·refine ⟨_,rfl,_,_,rfl,rfl,.inl ⟨by omega,by omega⟩,_,rfl,.inl ⟨_,_,rfl,rfl,_,rfl,_,_,rfl,rfl,hn,?_⟩⟩
   exact k _ _ (Int.emod_nonneg _ (by omega)) (Int.emod_lt_of_pos _ hn) same λ q _=>rfl
  ·refine ⟨_,rfl,_,_,rfl,rfl,⟨by decide,by decide⟩,_,rfl,_,_,rfl,rfl,hn,?_⟩
   exact k _ _ (Int.emod_nonneg _ (by omega)) (Int.emod_lt_of_pos _ hn) same λ q _=>rfl
theorem read_take1 {M:MH}{p:Addr}{n cell:Int}{a b c:Int}{ns:List Int}{D:Ed}(hm:M p=some (.lst (bagL a b c ns)))(ha:0<=a)(hb:0<=b)(hb2:b < 2147483647)(hc:0<=c)(hcell:0<=cell)
  (k:∀ a' b' c' M',0<=a'->0<=b'->b' < 2147483647->0<=c'->M' p=some (.lst (bagL a' b' c' ns))->(∀ q,q≠p->M' q=M q)->D.nx [some (.m p),some (.d (.int n)),some (.d (.int cell)),none,none,none] M') :
  (dSeq (dAugS (dVar 0) (dC (.d (.int 2))) (dC (.d (.int 1))) (λ i j=>i+j)) <|
   dSeq (dIf (dTest (dOp rdGe (dVar 2) (dC (.d (.int 1000000000000000000)))))
    (dAsg (dVar 2) (gSet (dVar 0) (dC (.d (.int 0)))))
    (dNext)) <|
   dAsg (dOp rdMod (dOp rdAdd (dOp rdAdd (dOp rdMul (dOp rdIx (dVar 0) (dC (.d (.int 1)))) (dC (.d (.int 48271)))) (dOp rdMod (dVar 2) (dC (.d (.int 2147483647))))) (dOp rdMul (dC (.d (.int 7919))) (dOp rdIx (dVar 0) (dC (.d (.int 2)))))) (dC (.d (.int 2147483647)))) (gSet (dVar 0) (dC (.d (.int 1)))))
   D [some (.m p),some (.d (.int n)),some (.d (.int cell)),none,none,none] M:=by
 refine ⟨_,rfl,_,_,_,_,_,rfl,rfl,hm,rfl,rfl,_,rfl,rfl,?_⟩
 have m1:updM M p (.lst (bagL a b (c+1) ns)) p=some (.lst (bagL a b (c+1) ns)):=updM_same
 have f1:∀ q,q≠p->updM M p (.lst (bagL a b (c+1) ns)) q=M q:=λ q hq=>updM_ne hq
 show (dSeq _ _) D _ (updM M p (.lst (bagL a b (c+1) ns)))
 generalize updM M p (.lst (bagL a b (c+1) ns))=M1 at m1 f1
 have fin:∀ (a':Int) (M2:MH),0<=a'->M2 p=some (.lst (bagL a' b (c+1) ns))->(∀ q,q≠p->M2 q=M q) ->
   dAsg (dOp rdMod (dOp rdAdd (dOp rdAdd (dOp rdMul (dOp rdIx (dVar 0) (dC (.d (.int 1)))) (dC (.d (.int 48271)))) (dOp rdMod (dVar 2) (dC (.d (.int 2147483647))))) (dOp rdMul (dC (.d (.int 7919))) (dOp rdIx (dVar 0) (dC (.d (.int 2)))))) (dC (.d (.int 2147483647)))) (gSet (dVar 0) (dC (.d (.int 1)))) D [some (.m p),some (.d (.int n)),some (.d (.int cell)),none,none,none] M2:=by
  intro a' M2 ha' m2 f2
  have i1:ixW M2 (.m p) 1=some (.d (.int b)):=ix_m m2 rfl
  have i2:ixW M2 (.m p) 2=some (.d (.int (c+1))):=ix_m m2 rfl
  refine ⟨_,rfl,_,_,rfl,i1,rfl,_,_,rfl,rfl,.inl ⟨by omega,by omega⟩,_,rfl,_,_,rfl,rfl,(by decide:(0:Int) < 2147483647),.inl ?_⟩
  refine ⟨_,_,rfl,rfl,_,rfl,_,_,rfl,i2,rfl,_,_,rfl,rfl,.inl ⟨by decide,by decide⟩,.inl ?_⟩
  refine ⟨_,_,rfl,rfl,_,_,rfl,rfl,(by decide:(0:Int) < 2147483647),_,rfl,_,_,_,_,rfl,rfl,m2,rfl,?_⟩
  exact k a' _ (c+1) _ ha' (Int.emod_nonneg _ (by decide)) (Int.emod_lt_of_pos _ (by decide)) (by omega) updM_same λ q hq=>(updM_ne hq).trans (f2 q hq)
 refine ⟨_,rfl,_,_,rfl,rfl,_,rfl,?_⟩
 refine ite_b (λ h=>?_) (λ h=>?_)
 ·refine ⟨_,rfl,_,rfl,_,_,_,_,rfl,rfl,m1,rfl,?_⟩
  exact fin cell _ hcell updM_same λ q hq=>(updM_ne hq).trans (f1 q hq)
 ·exact fin a M1 ha m1 f1
theorem read_l_take:∀ ws M Q,sp_l_take ws M Q->t_l_take { nx:=λ _ M'=>Q (.d .none) M',rt:=Q } (startD N_l_take ws) M:=by
 rintro ws M Q ⟨p,n,rfl,⟨a,b,c,ns,hm,ha,hb,hb2,hc,hns⟩,hn,hn2,k⟩
 have i0:ixW M (.m p) 0=some (.d (.int a)):=ix_m hm rfl
 have i2:ixW M (.m p) 2=some (.d (.int c)):=ix_m hm rfl
 have i3:ixW M (.m p) 3=some (.d (.list (ns.map PyData.int))):=ix_m hm rfl
 refine ⟨_,rfl,_,_,rfl,i0,rfl,_,_,rfl,rfl,rfl,_,rfl,?_⟩
 refine ite_b (λ h=>?_) (λ h=>?_)
 ·refine ⟨_,rfl,_,_,rfl,i2,rfl,_,rfl,_,_,rfl,i3,rfl,_,_,rfl,rfl,rfl,_,_,rfl,rfl,_,rfl,?_⟩
  refine ite_b (λ h=>?_) (λ h=>?_)
  ·have hlt:c < ((ns.map PyData.int).length:Nat):=of_decide_eq_true h
   have hlt':c.toNat < ns.length:=by rw [List.length_map] at hlt; omega
   have ic:ixW M (.d (.list (ns.map PyData.int))) c=some (.d (.int (ns[c.toNat]'hlt'))):=by
    simp only [ixW]
    rw [atI_nn hc hlt]
    simp
   refine ⟨_,rfl,_,_,rfl,i3,rfl,_,rfl,_,_,rfl,i2,rfl,_,_,rfl,ic,rfl,?_⟩
   refine read_take1 (cell:=ns[c.toNat]'hlt') hm ha hb hb2 hc (hns _ (List.getElem_mem _)) λ a' b' c' M' h1 h2 h3 h4 h5 h6=>?_
   exact read_take2 (x:=some (.d (.int (ns[c.toNat]'hlt')))) h5 h1 h2 h3 h4 hns hn hn2 (λ r M'' r0 r1 bg fr=>k r M'' r0 r1 bg λ q hq=>(fr q hq).trans (h6 q hq)) rfl
  ·refine read_take1 (cell:=0) hm ha hb hb2 hc (Int.le_refl 0) λ a' b' c' M' h1 h2 h3 h4 h5 h6=>?_
   exact read_take2 (x:=some (.d (.int 0))) h5 h1 h2 h3 h4 hns hn hn2 (λ r M'' r0 r1 bg fr=>k r M'' r0 r1 bg λ q hq=>(fr q hq).trans (h6 q hq)) rfl
 ·exact read_take2 (x:=none) hm ha hb hb2 hc hns hn hn2 k rfl
theorem take_fm {f:W->Option PyData}{ws:List W}{i:Nat}{w:W}(h:ws[i]? = some w):(ws.take (i+1)).filterMap f=(ws.take i).filterMap f++(f w).toList:=by
 rw [List.take_add_one,h,List.filterMap_append]
 cases e:f w <;> simp [e]
theorem lc_pure {tt:TTd}{te:TD}{fr:List Nat}{τ:DS}{M:MH}{Q:List PyData->MH->Prop}{ws:List W}(f:W->Option PyData)(hl:ws.length<=sizeLine)
  (step:∀ w∈ws,∀ P':Option PyData->Prop,P' (f w)->tt (some w :: fr.map λ j=>(τ[j]?).getD none) M λ b M3=>if b=true then te (some w :: fr.map λ j=>(τ[j]?).getD none) M3 λ y M4=>∃ d,y=.d d/\M4=M/\P' (some d) else M3=M/\P' none)
  (q:Q (ws.filterMap f) M):∃ P:Nat->List PyData->DS->MH->Prop,P 0 [] (lcSD 1 fr τ) M /\
   (∀ i w acc τ M,ws[i]? = some w->P i acc τ M->acc.length < sizeLine/\gN 0 w τ M λ τ2 M2=>tt τ2 M2 λ b M3=>if b=true then te τ2 M3 λ y M4=>∃ d,y=.d d/\P (i+1) (acc++[d]) τ2 M4 else P (i+1) acc τ2 M3) /\
   ∀ acc τ M,P ws.length acc τ M->Q acc M:=by
 let Pk:Nat->List PyData->DS->Prop:=λ i acc τ'=>i<=ws.length/\acc=(ws.take i).filterMap f/\∃ x,τ'=x :: fr.map λ j=>(τ[j]?).getD none
 refine ⟨λ i acc τ' M'=>M'=M/\Pk i acc τ',⟨rfl,Nat.zero_le _,rfl,none,rfl⟩,λ i w acc τ' M' hw hp=>?_,λ acc τ' M' hp=>?_⟩
 ·obtain ⟨rfl,hi,rfl,x,rfl⟩:=hp
  have hlt:i < ws.length:=(List.getElem?_eq_some_iff.mp hw).1
  refine ⟨?_,step w (List.mem_of_getElem? hw) (λ o=>match o with
   | some d=>Pk (i+1) ((ws.take i).filterMap f++[d]) (some w :: fr.map λ j=>(τ[j]?).getD none)
   | none=>Pk (i+1) ((ws.take i).filterMap f) (some w :: fr.map λ j=>(τ[j]?).getD none)) ?_⟩
  ·have h1:=List.length_filterMap_le f (ws.take i)
   rw [List.length_take] at h1
   omega
  ·cases e:f w with
   | some d=>exact ⟨hlt,by rw [take_fm hw,e]; rfl,_,rfl⟩
   | none=>exact ⟨hlt,by rw [take_fm hw,e]; simp,_,rfl⟩
 ·obtain ⟨rfl,hi,rfl,x,rfl⟩:=hp
  rw [List.take_of_length_le (Nat.le_refl _)]
  exact q
theorem lc_inv {tt:TTd}{te:TD}{fr:List Nat}{τ:DS}{M:MH}{Q:List PyData->MH->Prop}{ws:List W}(J:MH->Prop)(G:PyData->Prop)(hl:ws.length<=sizeLine)(j0:J M)
  (step:∀ w∈ws,∀ M',J M'->∀ P':Option PyData->MH->Prop,(∀ d M'',G d->J M''->P' (some d) M'')->(∀ M'',J M''->P' none M'') ->
   tt (some w :: fr.map λ j=>(τ[j]?).getD none) M' λ b M3=>if b=true then te (some w :: fr.map λ j=>(τ[j]?).getD none) M3 λ y M4=>∃ d,y=.d d/\P' (some d) M4 else P' none M3)
  (q:∀ acc M',J M'->(∀ d∈acc,G d)->acc.length<=ws.length->Q acc M'):∃ P:Nat->List PyData->DS->MH->Prop,P 0 [] (lcSD 1 fr τ) M /\
   (∀ i w acc τ M,ws[i]? = some w->P i acc τ M->acc.length < sizeLine/\gN 0 w τ M λ τ2 M2=>tt τ2 M2 λ b M3=>if b=true then te τ2 M3 λ y M4=>∃ d,y=.d d/\P (i+1) (acc++[d]) τ2 M4 else P (i+1) acc τ2 M3) /\
   ∀ acc τ M,P ws.length acc τ M->Q acc M:=by
 let Pk:Nat->List PyData->DS->MH->Prop:=λ i acc τ' M'=>acc.length<=i/\(∀ d∈acc,G d)/\J M'/\∃ x,τ'=x :: fr.map λ j=>(τ[j]?).getD none
 refine ⟨Pk,⟨Nat.le_refl _,λ d h=>(nomatch h),j0,none,rfl⟩,λ i w acc τ' M' hw hp=>?_,λ acc τ' M' hp=>?_⟩
 ·obtain ⟨hi,hg,hj,x,rfl⟩:=hp
  have hlt:i < ws.length:=(List.getElem?_eq_some_iff.mp hw).1
  refine ⟨by omega,step w (List.mem_of_getElem? hw) M' hj (λ o M2=>match o with
   | some d=>Pk (i+1) (acc++[d]) (some w :: fr.map λ j=>(τ[j]?).getD none) M2
   | none=>Pk (i+1) acc (some w :: fr.map λ j=>(τ[j]?).getD none) M2) (λ d M2 gd j2=>?_) λ M2 j2=>?_⟩
  ·refine ⟨by rw [List.length_append,List.length_singleton]; omega,λ d' hd'=>?_,j2,_,rfl⟩
   rcases List.mem_append.mp hd' with z | z
   ·exact hg d' z
   ·rw [List.mem_singleton.mp z]; exact gd
  ·exact ⟨by omega,hg,j2,_,rfl⟩
 ·obtain ⟨hi,hg,hj,x,rfl⟩:=hp
  exact q acc M' hj hg hi
theorem fm_map {α:Type}(g:α->W)(f:W->Option PyData)(h:α->PyData)(e:∀ a,f (g a)=some (h a))(l:List α):(l.map g).filterMap f=l.map h:=by
 induction l with
 | nil=>rfl
 | cons a l ih=>rw [List.map_cons,List.filterMap_cons,e,ih]; rfl
theorem read_l_bag:∀ ws M Q,sp_l_bag ws M Q->t_l_bag { nx:=λ _ M'=>Q (.d .none) M',rt:=Q } (startD N_l_bag ws) M:=by
 rintro ws M Q ⟨ns,rfl,hl,k⟩
 refine ⟨_,rfl,_,rfl,_,rfl,rfl,_,rfl,?_⟩
 have ec:cutD (ns.map PyData.int) none (some 63)=(cutD ns none (some 63)).map PyData.int:=by
  simp only [cutD,List.length_map,List.map_take,List.map_drop]
 have hlen:(cutD ns none (some 63)).length<=ns.length:=by
  simp only [cutD,List.length_take,List.length_drop]
  omega
 have h1000:(1000:Nat)<=sizeLine:=by rw [sizeLine_eq]; decide
 dsimp only
 refine lc_pure (λ w=>match w with
  | .d (.int n)=>some (.int (if n < 0 then -n else n))
  | _=>none) ?hl (λ w hw P' hp=>?_) ?_
 case hl=>rw [List.length_map,ec,List.length_map]; omega
 ·rw [ec,List.map_map] at hw
  obtain ⟨n,_,rfl⟩:=List.mem_map.mp hw
  exact ⟨_,rfl,_,rfl,_,rfl,rfl,hp⟩
 ·have e2:(List.map W.d (cutD (ns.map PyData.int) none (some 63))).filterMap (λ w=>match w with
    | .d (.int n)=>some (PyData.int (if n < 0 then -n else n))
    | _=>none)=((cutD ns none (some 63)).map λ n=>if n < 0 then -n else n).map PyData.int:=by
   rw [ec,List.map_map,fm_map (W.d ∘ PyData.int) _ (λ n=>PyData.int (if n < 0 then -n else n)) (λ n=>rfl),List.map_map]
   rfl
  rw [e2]
  refine ⟨by simp [sizeLine_eq],λ p hp=>k p _ hp (λ q hq=>updM_ne hq) ⟨0,1234567891,0,_,updM_same,Int.le_refl 0,by decide,by decide,Int.le_refl 0,λ n hn=>?_⟩⟩
  obtain ⟨m,_,rfl⟩:=List.mem_map.mp hn
  split <;> omega
theorem law_start {K:PySem.W.Frag}{H:Hp}{a:Addr}{ns:List Int}{sp:SpD}(hl:ns.length<=63)(hO:L2.Only H)(hS:L2.SqL K H a (ns.map V.int))(h:∀ ns:List Int,ns.length<=63->sp [.d (.list (ns.map PyData.int))] (λ _=>none) (λ w _=>w=.d (.bool true))) :
  upSp K sp [.ref a] H (λ v _=>v=.bl true) λ _ _ _=>False:=by
 refine ⟨[.d (.list (ns.map PyData.int))],λ _=>none,_,.cons ?_ .nil,λ a o z=>(nomatch z),h ns hl,λ v H' w M' kp r m q=>?_⟩
 ·simp only [RepW,RepD]
  refine ⟨a,_,rfl,?_,RepA.ints ns⟩
  rcases hS with (h | h) | h
  ·rcases hO a with z | ⟨ob,xs,z⟩
   ·rw [h] at z; cases z
   ·rw [h] at z; cases z
  ·exact .inl h
  ·exact .inr h
 ·subst q
  simp only [RepW,RepD] at r
  exact r
end D
namespace D
open PySem PySem.Spec PyProof.Rows L2
noncomputable def ascB (z:Str):Bool:=z.cps.all (· < 128)
mutual
noncomputable def big:PyData->Nat
 | .none=>4
 | .bool _=>5
 | .int _=>2000
 | .str z=>10 * z.length+2
 | .list ds=>bigA ds+2
 | .tuple ds=>bigA ds+3
 | .dict kvs=>bigK kvs+2
noncomputable def bigA:List PyData->Nat
 | []=>0
 | d :: ds=>big d+2+bigA ds
noncomputable def bigK:List (PyData×PyData)->Nat
 | []=>0
 | (k,d) :: ds=>big k+2+big d+2+bigK ds
end
mutual
noncomputable def fineD:PyData->Bool
 | .none=>true
 | .bool _=>true
 | .int i=>decide (i.natAbs.log2 < 1920)
 | .str z=>ascB z
 | .list ds=>fineA ds
 | .tuple ds=>fineA ds
 | .dict kvs=>fineK kvs
noncomputable def fineA:List PyData->Bool
 | []=>true
 | d :: ds=>fineD d && fineA ds
noncomputable def fineK:List (PyData×PyData)->Bool
 | []=>true
 | (k,d) :: ds=>fineD k && fineD d && fineK ds
end
theorem listText_le:∀ ts:List Str,(listText ts).length<=piled ts+2
 | []=>by decide +kernel
 | t :: r=>by
  have h:=textFrom_length_pos r 1 (("[" : Str)++(if (0:Nat) > 0 then ", " else "" : String)++t) (Nat.succ_pos 0)
  have e:((("[" : Str)++(if (0:Nat) > 0 then ", " else "" : String)++t)).length=1+t.length:=by
   rw [strLen_append,strLen_append]; rfl
  have hX:(listText (t :: r)).length=(textFrom 0 "[" (t :: r)).length+1:=by
   show (textFrom 0 "[" (t :: r) ++ "]").length=_
   rw [strLen_append]; rfl
  have h2:(textFrom 0 "[" (t :: r)).length=(1+t.length)+piled r:=by rw [<- e]; exact h
  have h3:piled (t :: r)=t.length+2+piled r:=by simp [piled]
  omega
theorem join_le (ts:List Str):(Str.join ", " ts).length<=piled ts:=by
 cases ts with
 | nil=>decide +kernel
 | cons t r=>have:=join_length_add (t :: r) (by simp); omega
theorem tupleText_le (ts:List Str):(tupleText ts).length<=piled ts+3:=by
 unfold tupleText
 rw [strLen_append,strLen_append]
 have e1:((("(" : String):Str)).length=1:=rfl
 have e3:(((if ts.length == 1 then ",)" else ")" : String):Str)).length<=2:=by split <;> decide
 have:=join_le ts
 omega
theorem dictText_le (ts:List Str):(dictText ts).length<=piled ts+2:=by
 unfold dictText
 rw [strLen_append,strLen_append]
 have e1:((("{" : String):Str)).length=1:=rfl
 have e2:((("}" : String):Str)).length=1:=rfl
 have:=join_le ts
 omega
theorem int_len {i:Int}(h:i.natAbs.log2 < 1920):(Str.ofString (toString i)).length<=2000:=by
 have e:=int_text_length_le (k:=1920) (by decide) h
 rw [PySem.ofString_length]; omega
theorem repr_len {z:Str}(h:ascB z=true):(reprText z).length<=10 * z.length+2:=StrLaws.reprText_len z λ c hc=>by
 have:=Array.all_eq_true_iff_forall_mem.mp h c (by simpa using hc)
 have h2:c < 128:=by simpa using this
 omega
mutual
theorem shown_le:∀ d:PyData,fineD d=true->d.shown.length<=big d
 | .none,_=>by rw [PyData.shown]; decide +kernel
 | .bool b,_=>by rw [PyData.shown]; cases b <;> decide +kernel
 | .int i,h=>by rw [PyData.shown]; exact int_len (by simpa [fineD] using h)
 | .str z,h=>by rw [PyData.shown,big]; exact repr_len (by simpa [fineD] using h)
 | .list ds,h=>by
  have h1:=shownA_le ds (by simpa [fineD] using h)
  have h2:=listText_le (PyData.shownAll ds)
  rw [PyData.shown,big]; omega
 | .tuple ds,h=>by
  have h1:=shownA_le ds (by simpa [fineD] using h)
  have h2:=tupleText_le (PyData.shownAll ds)
  rw [PyData.shown,big]; omega
 | .dict ds,h=>by
  have h1:=shownK_le ds (by simpa [fineD] using h)
  have h2:=dictText_le (PyData.shownKv ds)
  rw [PyData.shown,big]; omega
theorem shownA_le:∀ ds:List PyData,fineA ds=true->piled (PyData.shownAll ds)<=bigA ds
 | [],_=>by simp [PyData.shownAll,piled,bigA]
 | d :: ds,h=>by
  simp only [fineA,Bool.and_eq_true] at h
  have h1:=shown_le d h.1
  have h2:=shownA_le ds h.2
  simp only [PyData.shownAll,piled_cons,bigA]
  omega
theorem shownK_le:∀ ds:List (PyData×PyData),fineK ds=true->piled (PyData.shownKv ds)<=bigK ds
 | [],_=>by simp [PyData.shownKv,piled,bigK]
 | (k,d) :: ds,h=>by
  simp only [fineK,Bool.and_eq_true] at h
  have h1:=shown_le k h.1.1
  have h3:=shown_le d h.1.2
  have h2:=shownK_le ds h.2
  have e:((((": " : String):Str))).length=2:=rfl
  simp only [PyData.shownKv,piled_cons,bigK,strLen_append,e]
  omega
end
mutual
theorem fine_show:∀ d:PyData,fineD d=true->d.showable=true
 | .none,_=>by simp [PyData.showable]
 | .bool b,_=>by simp [PyData.showable]
 | .int i,h=>by simpa [PyData.showable,fineD] using h
 | .str z,h=>by simp [PyData.showable]
 | .list ds,h=>by simpa [PyData.showable] using fine_showA ds (by simpa [fineD] using h)
 | .tuple ds,h=>by simpa [PyData.showable] using fine_showA ds (by simpa [fineD] using h)
 | .dict ds,h=>by simpa [PyData.showable] using fine_showK ds (by simpa [fineD] using h)
theorem fine_showA:∀ ds:List PyData,fineA ds=true->PyData.showableAll ds=true
 | [],_=>by simp [PyData.showableAll]
 | d :: ds,h=>by
  simp only [fineA,Bool.and_eq_true] at h
  simp [PyData.showableAll,fine_show d h.1,fine_showA ds h.2]
theorem fine_showK:∀ ds:List (PyData×PyData),fineK ds=true->PyData.showableKv ds=true
 | [],_=>by simp [PyData.showableKv]
 | (k,d) :: ds,h=>by
  simp only [fineK,Bool.and_eq_true] at h
  simp [PyData.showableKv,fine_show k h.1.1,fine_show d h.1.2,fine_showK ds h.2]
end
theorem s16:(1000000:Nat)<=sizeLine:=by rw [sizeLine_eq]; decide
end D
namespace D
open PySem PySem.Spec PyProof.Rows L2
noncomputable def Asc (z:Str):Prop:=∀ c∈z.cps.toList,c < 128
theorem str_len (z:Str):z.cps.toList.length=z.length:=by simp [Str.length]
noncomputable def Tx (n:Nat)(d:PyData):Prop:=∃ z:Str,d=.str z/\z.length<=n/\Asc z
theorem tx_list {n:Nat}:∀ {ds:List PyData},(∀ d∈ds,Tx n d)->∃ ys:List Str,ds=ys.map PyData.str/\∀ y∈ys,y.length<=n/\Asc y
 | [],_=>⟨[],rfl,λ y h=>(nomatch h)⟩
 | d :: ds,h=>by
  obtain ⟨z,e,h1,h2⟩:=h d List.mem_cons_self
  obtain ⟨ys,e2,h3⟩:=tx_list λ d' hd'=>h d' (List.mem_cons_of_mem _ hd')
  refine ⟨z :: ys,by rw [e,e2]; rfl,λ y hy=>?_⟩
  rcases List.mem_cons.mp hy with rfl | hy
  ·exact ⟨h1,h2⟩
  ·exact h3 y hy
theorem asc_dec {z:Str}(h:z.cps.all (· < 128)=true):Asc z:=by
 intro c hc
 have:=Array.all_eq_true_iff_forall_mem.mp h c (by simpa using hc)
 simpa using this
theorem asc_one {z:Str}{c:Nat}(h:Asc z)(hc:c∈z.cps.toList):Asc ⟨#[c]⟩:=by
 intro d hd
 have:d=c:=by simpa using hd
 rw [this]
 exact h c hc
theorem ix_str_at {M:MH}{z:Str}{r:Int}(h0:0<=r)(h1:r < z.length):∃ c,ixW M (.d (.str z)) r=some (.d (.str ⟨#[c]⟩))/\c∈z.cps.toList:=by
 have hl:r < (z.cps.toList.length:Nat):=by rw [str_len]; exact h1
 refine ⟨z.cps.toList[r.toNat]'(by omega),?_,List.getElem_mem _⟩
 simp only [ixW]
 rw [atI_nn h0 hl]
 rfl
noncomputable abbrev alphaS:Str := "abcdefghijklmnopqrstuvwxyz"
theorem alphaL:alphaS.length=26:=by decide +kernel
theorem few {n:Nat}(h:n<=1000):n<=sizeLine:=by have:=s16; omega
end D
namespace D
open PySem PySem.Spec PyProof.Rows L2
section
variable {X:Cx}{pins:List (Addr×Obj)}{σ:St}{H H0:Hp}{s s0:Shared}
theorem Inv.swap {a:Addr}{u u':HO}(I:Inv X pins σ H s)(h:H a=some u)(n1:∀ xs,u ≠ .tup xs)(n2:∀ x,u ≠ .own x)(b1:∀ xs,X.H₀ a≠some (.tup xs))(b2:∀ o v,X.H₀ a≠some (.frz o v))(b3:∀ ps,X.H₀ a≠some (.tbl ps))
  (new:ObjOk X.prog X.w (upd H a u') s.heap a u'):Inv X pins σ (upd H a u') s:=by
 have nn:∀ b,H b=none->b≠a:=λ b e z=>by rw [z,h] at e; cases e
 refine ⟨I.ok,I.os,I.bare,⟨I.base.keep,I.base.slot,λ b ob q n x=>?_,I.base.there,λ b xs q=>?_,λ b ob v q=>?_,λ b ps q=>?_⟩,I.loc,I.cell,?_,λ x c q=>?_,λ p hp=>?_,λ b v q=>?_,I.len⟩
 ·have:=I.base.free b ob q n x
  rw [upd_ne (nn b this)]; exact this
 ·rw [upd_ne (λ z:b=a=>b1 xs (by rw [<- z]; exact q))]; exact I.base.tups b xs q
 ·rw [upd_ne (λ z:b=a=>b2 ob v (by rw [<- z]; exact q))]; exact I.base.frzs b ob v q
 ·rw [upd_ne (λ z:b=a=>b3 ps (by rw [<- z]; exact q))]; exact I.base.tbls b ps q
 ·rw [upd_ne (nn _ I.free)]; exact I.free
 ·have:=I.freeC x c q
  rw [upd_ne (nn c this)]; exact this
 ·obtain ⟨p1,p2,p3⟩:=I.pin p hp
  exact ⟨p1,by rw [upd_ne (nn _ p2)]; exact p2,p3⟩
 ·by_cases hb:b=a
  ·subst hb
   rw [upd_same] at q
   cases q
   exact new
  ·rw [upd_ne hb] at q
   refine (I.hok b v q).stay (λ _ _ _ q=>q) (λ c r=>?_) λ c xs r=>?_
   ·rw [upd_ne (λ z=>by rw [z,h] at r; exact n2 _ (Option.some.inj r))]; exact r
   ·rw [upd_ne (λ z=>by rw [z,h] at r; exact n1 _ (Option.some.inj r))]; exact r
theorem base_of {a:Addr}{l:List (Key×V)}(I:Inv X pins σ H s)(h:H a=some (.dK l)):(∀ xs,X.H₀ a≠some (.tup xs))/\(∀ o v,X.H₀ a≠some (.frz o v))/\∀ ps,X.H₀ a≠some (.tbl ps):=by
 refine ⟨λ xs e=>?_,λ o v e=>?_,λ ps e=>?_⟩
 ·have:=I.base.tups a xs e; rw [h] at this; cases this
 ·have:=I.base.frzs a o v e; rw [h] at this; cases this
 ·obtain ⟨m,this⟩:=I.base.tbls a ps e; rw [h] at this; cases this
theorem Inv.again {σ0:St}{a:Addr}{o:Obj}{l:List (Key×V)}(I0:Inv X pins σ0 H0 s0)(h0:H0 a=some (.dK l))(I:Inv X pins σ H s)(h:H a=some (.frz o (.frz o (.dK l)))):Inv X pins σ (upd H a (.dK l)) s:=by
 have f:Fz (.dK l):=trivial
 obtain ⟨b1,b2,b3⟩:=base_of I0 h0
 exact Inv.swap I h (λ _ z=>nomatch z) (λ _ z=>nomatch z) b1 b2 b3 ((I.hok a _ h).2.2.anyH f)
end
section
variable {K:PySem.W.Frag}{H:Hp}{a:Addr}{o:Obj}{l:List (Key×V)}
theorem Kp.back (h:H a=some (.frz o (.frz o (.dK l)))):(∀ b xs,H b=some (.tup xs)->upd H a (.dK l) b=some (.tup xs))/\(∀ b ob ys,H b=some (.frz ob (.lst ys))->upd H a (.dK l) b=some (.frz ob (.lst ys)))/\∀ b ob ys,H b=some (.frz ob (.dK ys))->upd H a (.dK l) b=some (.frz ob (.dK ys)):=by
 refine ⟨λ b xs e=>?_,λ b ob ys e=>?_,λ b ob ys e=>?_⟩ <;>
 ·rw [upd_ne (λ z=>by rw [z,h] at e; cases e)]; exact e
theorem SqT.back {b:Addr}{vs:List V}(h:H a=some (.frz o (.frz o (.dK l))))(r:SqT K H b vs):SqT K (upd H a (.dK l)) b vs:=by
 rcases r with (r | ⟨ob,r⟩) | r
 ·exact .inl (.inl ((Kp.back h).1 _ _ r))
 ·refine .inl (.inr ⟨ob,?_⟩)
  rw [upd_ne (λ z=>by rw [z,h] at r; cases r)]; exact r
 ·exact .inr r
theorem SqF.back {b:Addr}{vs:List V}(h:H a=some (.frz o (.frz o (.dK l))))(r:SqF K H b vs):SqF K (upd H a (.dK l)) b vs:=by
 rcases r with ⟨ob,r⟩ | r
 ·exact .inl ⟨ob,(Kp.back h).2.1 _ _ _ r⟩
 ·exact .inr r
mutual
theorem RepD.back (h:H a=some (.frz o (.frz o (.dK l)))):∀ {d:PyData} {v:V},RepD K H d v->RepD K (upd H a (.dK l)) d v
 | .none,v,r=>by simp only [RepD] at r ⊢; exact r
 | .bool b,v,r=>by simp only [RepD] at r ⊢; exact r
 | .int i,v,r=>by simp only [RepD] at r ⊢; exact r
 | .str x,v,r=>by simp only [RepD] at r ⊢; exact r
 | .list ds,v,r=>by
  simp only [RepD] at r ⊢
  obtain ⟨b,vs,e,q,r⟩:=r
  exact ⟨b,vs,e,SqF.back h q,RepA.back h r⟩
 | .tuple ds,v,r=>by
  simp only [RepD] at r ⊢
  obtain ⟨b,vs,e,q,r⟩:=r
  exact ⟨b,vs,e,SqT.back h q,RepA.back h r⟩
 | .dict kvs,v,r=>by
  simp only [RepD] at r ⊢
  obtain ⟨b,ob,m,e,q,r⟩:=r
  exact ⟨b,ob,m,e,(Kp.back h).2.2 _ _ _ q,RepK.back h r⟩
theorem RepA.back (h:H a=some (.frz o (.frz o (.dK l)))):∀ {ds:List PyData} {vs:List V},RepA K H ds vs->RepA K (upd H a (.dK l)) ds vs
 | [],vs,r=>by simp only [RepA] at r ⊢; exact r
 | d :: ds,vs,r=>by
  simp only [RepA] at r ⊢
  obtain ⟨v,q,e,h1,h2⟩:=r
  exact ⟨v,q,e,RepD.back h h1,RepA.back h h2⟩
theorem RepK.back (h:H a=some (.frz o (.frz o (.dK l)))):∀ {ds:List (PyData×PyData)} {m:List (Key×V)},RepK K H ds m->RepK K (upd H a (.dK l)) ds m
 | [],m,r=>by simp only [RepK] at r ⊢; exact r
 | (key,d) :: ds,m,r=>by
  simp only [RepK] at r ⊢
  obtain ⟨k',v,q,e,ek,h1,h2⟩:=r
  exact ⟨k',v,q,e,ek,RepD.back h h1,RepK.back h h2⟩
end
theorem RepW.back (h:H a=some (.frz o (.frz o (.dK l)))):∀ {w:W} {v:V},RepW K H w v->RepW K (upd H a (.dK l)) w v
 | .d _,_,r=>RepD.back h r
 | .m _,_,r=>r
 | .t _,_,r=>r
theorem MAbs.back {M:MH}{kvs:List (Key×W)}(h:H a=some (.frz o (.frz o (.dK l))))(m:MAbs K H M)(e:M a=some (.fdic kvs)):MAbs K (upd H a (.dK l)) (updM M a (.dic kvs)):=λ b mo q=>by
 by_cases hb:b=a
 ·subst hb
  rw [updM_same] at q
  cases q
  obtain ⟨o',l',e',pr⟩:=m _ _ e
  rw [h] at e'
  cases e'
  exact ⟨l,upd_same,Paired.mapP pr λ p q z=>⟨z.1,RepW.back h z.2⟩⟩
 ·rw [updM_ne hb] at q
  have r:=m b mo q
  cases mo with
  | lst ws=>obtain ⟨vs,e,r⟩:=r; exact ⟨vs,by rw [upd_ne hb]; exact e,Paired.mapP r λ _ _ z=>RepW.back h z⟩
  | dic kvs=>obtain ⟨l,e,r⟩:=r; exact ⟨l,by rw [upd_ne hb]; exact e,Paired.mapP r λ p q z=>⟨z.1,RepW.back h z.2⟩⟩
  | dct kvs=>obtain ⟨l,e,r⟩:=r; exact ⟨l,by rw [upd_ne hb]; exact e,Paired.mapP r λ p q z=>⟨z.1,RepW.back h z.2⟩⟩
  | fdic kvs=>obtain ⟨o,l,e,r⟩:=r; exact ⟨o,l,by rw [upd_ne hb]; exact e,Paired.mapP r λ p q z=>⟨z.1,RepW.back h z.2⟩⟩
  | ins C fs=>obtain ⟨dx,l,e,r⟩:=r; exact ⟨dx,l,by rw [upd_ne hb]; exact e,Paired.mapP r λ p q z=>⟨z.1,RepW.back h z.2⟩⟩
  | tup ws=>obtain ⟨vs,e,r⟩:=r; exact ⟨vs,by rw [upd_ne hb]; exact e,Paired.mapP r λ _ _ z=>RepW.back h z⟩
  | flst ws=>obtain ⟨o,vs,e,r⟩:=r; exact ⟨o,vs,by rw [upd_ne hb]; exact e,Paired.mapP r λ _ _ z=>RepW.back h z⟩
  | exc C fs =>
   obtain ⟨φ,dct,e,p,r⟩:=r
   refine ⟨φ,dct,by rw [upd_ne hb]; exact e,p,?_⟩
   rcases r with r | ⟨dx,o',l',e1,e2,r⟩
   ·exact .inl r
   ·exact .inr ⟨dx,o',l',e1,by rw [upd_ne (λ z=>by rw [z,h] at e2; cases e2)]; exact e2,Paired.mapP r λ p q z=>⟨z.1,RepW.back h z.2⟩⟩
  | code q pos =>
   obtain ⟨ps,e,ht,hc⟩:=r
   refine ⟨ps,by rw [upd_ne hb]; exact e,ht,?_⟩
   rcases hc with hc | ⟨c,o',vs,t,e1,e2,e3⟩
   ·exact .inl hc
   ·exact .inr ⟨c,o',vs,t,e1,by rw [upd_ne (λ z=>by rw [z,h] at e2; cases e2)]; exact e2,e3⟩
end
noncomputable def dNever (_:DS)(_:MH)(_:QD):Prop:=False
theorem pd_never {X:Cx}{e:Expr}:PD X e dNever:=λ pins s σ H Q I ⟨τ,M,Qd,A,h,k⟩=>h.elim
end D
namespace D
open PySem PySem.Spec PyProof.Rows L2
section
variable {X:Cx}{pins:List (Addr×Obj)}{σ:St}{H:Hp}{s:Shared}
theorem Inv.trackT {D:Addr}{ys:List V}{us:List Value}{n:Nat}(I:Inv X pins σ H s)(e:s.heap.get? D=some { cls:=.type "tuple",data:=.seq us.toArray n })(hn:H D=none)(hv:Vals ys us)(hz:ys.length<=sizeLine)
  (h0:D∈X.ex\/X.s₀.heap.objs.size<=D)(hL:D≠X.env.locals)(hc:∀ x c,X.env.cells.lookup x=some c->c≠D)(hp:∀ p∈X.pn++pins,p.1≠D):Inv X pins σ (upd H D (.tup ys)) s:=by
 have ne:∀ b u,H b=some u->b≠D:=λ b u q=>ne_of_none q hn
 refine I.step (h':=s.heap) (g':=s.gens) (d':=s.drawn) (t':=s.toks) (ch:=[D]) (λ b hb=>?_) (λ b o _ _ _ q _=>q) (λ b o _ _ _ q _=>⟨o.slots,q⟩) (λ b o hb q n=>?_) (λ b o _ q=>⟨o,q⟩)
  (λ b xs q=>by rw [upd_ne (ne b _ q)]; exact q) (λ b o u q=>by rw [upd_ne (ne b _ q)]; exact q) (λ b ps q=>⟨#[],by rw [upd_ne (ne b _ q),q]; simp⟩) (λ m hm=>hm) (λ b u q=>?_) I.bare
 ·have e:b=D:=by simpa using hb
  subst e
  exact ⟨h0,hL,hc,hp⟩
 ·rw [upd_ne (λ z=>hb (by simp [z]))]; exact n
 ·by_cases hb:b=D
  ·subst hb
   rw [upd_same] at q
   cases q
   exact ⟨hz,us,hv,⟨_,e,rfl,rfl,n,rfl⟩⟩
  ·rw [upd_ne hb] at q
   exact (I.hok b u q).stay (λ _ _ _ q=>q) (λ c r=>by rw [upd_ne (ne c _ r)]; exact r) λ c xs r=>by rw [upd_ne (ne c _ r)]; exact r
end
section
variable {X:Cx}{tg o:Expr}{apos cpos:Pos}{td:TE}
end
section
variable {X:Cx}{K:PySem.W.Frag}{tg o:Expr}{apos cpos:Pos}{td:TD}
noncomputable def dataKV (kds:List (Key×PyData)):List (Key×W):=kds.map λ p=>(p.1,.d p.2)
end
theorem strs_vals:∀ {zs:List Str} {its:List Value},Vals (zs.map V.str) its->StrsAre its zs
 | [],its,h=>by cases h; exact .nil
 | z :: zs,its,h=>by
  cases h with
  | cons r t =>
   obtain ⟨tk,e⟩:=(show ∃ t,_=Value.str z t from r)
   subst e
   exact .cons z tk (strs_vals t)
theorem vals_strs:∀ {zs:List Str} {its:List Value},StrsAre its zs->Vals (zs.map V.str) its
 | _,_,.nil=>.nil
 | _,_,.cons y t h=>.cons ⟨t,rfl⟩ (vals_strs h)
theorem bb_sorted:bootBuiltins "sorted" = some (.builtin "sorted"):=by decide +kernel
section
variable {X:Cx}{K:PySem.W.Frag}
theorem call_sortedS:CallR X (.builtin "sorted") (λ xs H Q=>∃ p zs,xs=[.ref p]/\SqL X.K H p (zs.map V.str)/\zs.length < 64/\∀ zs',zs'.Perm zs->sortedS zs'=true->∀ l,H l=none->Q (.ref l) (upd H l (.lst (zs'.map V.str)))):=by
 intro pins s σ H xs us Q I r h
 obtain ⟨p,zs,rfl,hq,hz,q⟩:=h
 obtain ⟨u,rfl,rx⟩:=vals1 r
 cases rx
 obtain ⟨its,rv,pl,_⟩:=I.list hq
 have hl:=rv.length
 rw [List.length_map] at hl
 refine sorted_strs pl.isList (strs_vals rv) (by omega) λ out zs' hs hp hso=>?_
 obtain ⟨n,e⟩:=sortedAll_at s.heap its out
 have hfr:H (s.heap.objs.size+1)=none:=I.hok.fresh (Nat.le_succ _)
 refine ⟨.ref _,_,I.laid (a:=s.heap.objs.size+1) (o:=.lst (zs'.map V.str)) (t':=s.toks) (λ b o z=>sortedAll_old z) (Nat.le_succ _) ⟨?_,out.toList,n,vals_strs hs,?_⟩,rfl,q zs' hp hso _ hfr⟩
 ·rw [List.length_map,hp.length_eq]
  have:=s16
  omega
 ·simpa using e
noncomputable def rdSortS (ws:List W)(M:MH)(Q:QD):Prop:=∃ w zs,ws=[w]/\LstW M w (zs.map PyData.str)/\zs.length < 64/\∀ zs',zs'.Perm zs->sortedS zs'=true->∀ p,M p=none->Q (.m p) (updM M p (.lst (strsW zs')))
theorem repA_strs {H:Hp}:∀ {zs:List Str} {vs:List V},RepA K H (zs.map PyData.str) vs->vs=zs.map V.str
 | [],vs,h=>by simpa [RepA] using h
 | z :: zs,vs,h=>by
  simp only [List.map_cons,RepA] at h
  obtain ⟨v,r,e,h1,h2⟩:=h
  simp only [RepD] at h1
  rw [e,h1,repA_strs h2]
  rfl
theorem reps_strs {H:Hp}:∀ (zs:List Str),RepWs K H (strsW zs) (zs.map V.str)
 | []=>.nil
 | z :: zs=>.cons (by simp [RepW,RepD]) (reps_strs zs)
theorem cd_sortS:CallD K (λ xs H Q=>∃ p zs,xs=[.ref p]/\SqL K H p (zs.map V.str)/\zs.length < 64/\∀ zs',zs'.Perm zs->sortedS zs'=true->∀ l,H l=none->Q (.ref l) (upd H l (.lst (zs'.map V.str)))) rdSortS:=by
 intro vs H ws M Qd Q r m ⟨w,zs,e,g,hz,q⟩ k
 subst e
 obtain ⟨v,e1,r1⟩:=repWs1 r
 obtain ⟨p,ys,ev,hs,ra⟩:=g.sound r1 m
 have ey:=repA_strs ra
 subst ev ey
 refine ⟨p,zs,e1,hs,hz,λ zs' h1 h2 l hl=>?_⟩
 have kp:Kp H (upd H l (.lst (zs'.map V.str))):=Kp.new hl
 exact k _ _ (.m l) _ kp rfl (m.put (mo:=.lst (strsW zs')) kp ⟨_,upd_same,reps_strs zs'⟩) (q zs' h1 h2 l (m.free hl))
end
end D
namespace D
open PySem PySem.Spec PyProof.Rows L2
section
variable {X:Cx}{K:PySem.W.Frag}
theorem call_isiT:CallR X (.builtin "isinstance") (λ xs H Q=>∃ x d T,xs=[x,.ty T]/\RepT X.K H d x/\Ty6 T/\Q (.bl (isiD d T)) H):=by
 intro pins s σ H xs us Q I r h
 obtain ⟨x,d,T,rfl,rd,h6,q⟩:=h
 rcases rd with rd | ⟨a,vs,ds,rfl,rfl,ha,ra⟩
 ·exact call_isiD pins s σ H _ us Q I r ⟨x,d,T,rfl,rd,h6,q⟩
 obtain ⟨u,w',rfl,rx,ry⟩:=vals2 r
 cases (show w'=Value.type T from ry)
 have e:=isi_kit (K:=X.K) (.list ds) h6
 have fin:∀ tk,EP X pins σ Q (.bool (isiD (.list ds) T)) { s with toks:=tk }:=λ tk=>⟨.bl _,H,I.tok _,rfl,q⟩
 generalize isiD (.list ds) T=b at e fin
 cases (show u=Value.ref a from rx)
 obtain ⟨its,rv,⟨o,n,e1,e2,e3,e4⟩,hz⟩:=I.list (.inl (.inl ha))
 exact PySem.W.kia_one PySem.W.kitx_list I.kIn ⟨_,e1,e2⟩ e (λ z=>nomatch z) fin
noncomputable def rdIsiT (ws:List W)(M:MH)(Q:QD):Prop:=∃ w d T,ws=[w,.t T]/\DatW M w d/\Ty6 T/\Q (.d (.bool (isiD d T))) M
theorem cd_isiT:CallD K (λ xs H Q=>∃ x d T,xs=[x,.ty T]/\RepT K H d x/\Ty6 T/\Q (.bl (isiD d T)) H) rdIsiT:=by
 intro vs H ws M Qd Q r m ⟨w,d,T,e,g,h6,q⟩ k
 subst e
 obtain ⟨v,v',e1,r1,r2⟩:=repWs2 r
 simp only [RepW] at r2
 subst r2
 exact ⟨v,d,T,e1,g.sound r1 m,h6,k _ H (.d (.bool _)) M (Kp.refl H) (by simp [RepW,RepD]) m q⟩
end
end D
namespace D
open PySem PySem.Spec PyProof.Rows L2
namespace Q
section
variable {X:Cx}{pins:List (Addr×Obj)}{σ:St}{H H0:Hp}{s s0:Shared}
end
section
variable {K:PySem.W.Frag}{H:Hp}{a:Addr}{o:Obj}{l:List (Key×V)}
end
theorem pd_never {X:Cx}{e:Expr}:Jd (PD X e dNever):=⟨D.pd_never ⟩
section
variable {X:Cx}{pins:List (Addr×Obj)}{σ:St}{H:Hp}{s:Shared}
end
section
variable {X:Cx}{tg o:Expr}{apos cpos:Pos}{td:TE}
end
section
variable {X:Cx}{K:PySem.W.Frag}{tg o:Expr}{apos cpos:Pos}{td:TD}
end
section
variable {X:Cx}{K:PySem.W.Frag}
end
section
variable {X:Cx}{K:PySem.W.Frag}
end
end Q
end D
namespace S
open PySem PySem.W PyProof.Rows
noncomputable def go {α:Type}(lt:Nat->Nat->Bool):KasT α->α
 | .ret a=>a
 | .ask i j k=>go lt (k (lt i j))
structure Weak (lt:Nat->Nat->Bool):Prop where
 asym:∀ a b,lt a b=true->lt b a=false
 tr:∀ a b c,lt b a=false->lt c b=false->lt c a=false
section
variable {lt:Nat->Nat->Bool}
theorem Weak.ltle (h:Weak lt){a b c:Nat}(h1:lt a b=true)(h2:lt c b=false):lt a c=true:=by
 cases e:lt a c with
 | true=>rfl
 | false =>
  have:=h.tr b c a h2 e
  rw [h1] at this
  cases this
theorem Weak.lelt (h:Weak lt){a b c:Nat}(h1:lt b a=false)(h2:lt b c=true):lt a c=true:=by
 cases e:lt a c with
 | true=>rfl
 | false =>
  have:=h.tr c a b e h1
  rw [h2] at this
  cases this
noncomputable def B (lt:Nat->Nat->Bool)(a b:Nat):Prop:=lt a b=true\/(lt a b=false/\lt b a=false/\a < b)
theorem B.le (h:Weak lt){a b:Nat}(q:B lt a b):lt b a=false:=by
 rcases q with q | q
 ·exact h.asym _ _ q
 ·exact q.2.1
theorem B.tr (h:Weak lt){a b c:Nat}(q:B lt a b)(r:B lt b c):B lt a c:=by
 rcases q with q | ⟨q1,q2,q3⟩
 ·rcases r with r | ⟨r1,r2,r3⟩
  ·exact .inl (h.ltle q (h.asym _ _ r))
  ·exact .inl (h.ltle q r2)
 ·rcases r with r | ⟨r1,r2,r3⟩
  ·exact .inl (h.lelt q2 r)
  ·exact .inr ⟨h.tr _ _ _ r1 q1,h.tr _ _ _ q2 r2,by omega⟩
noncomputable abbrev g (p:Array Nat)(i:Nat):Nat:=p.getD i 0
theorem g_eq (p:Array Nat)(i:Nat):g p i=(p[i]?).getD 0:=by simp [g]
theorem g_rev {p:Array Nat}{i j:Nat}(hj:j<=p.size)(k:Nat):g (kas_rev p i j) k=if i<=k/\k < j then g p (i+j - 1 - k) else g p k:=by
 rw [g_eq,g_eq,g_eq]
 unfold kas_rev
 rw [getElem?_mirror_all hj k]
 split <;> rfl
structure Un (p:Array Nat)(N n:Nat):Prop where
 size:p.size=N
 lo:∀ i,i < n->g p i < n
 hi:∀ i,n<=i->i < N->g p i=i
theorem Un.up {p:Array Nat}{N n m:Nat}(u:Un p N n)(h:n<=m)(hm:m<=N):Un p N m:=by
 refine ⟨u.size,λ k hk=>?_,λ k hk hk2=>u.hi k (by omega) hk2⟩
 by_cases z:k < n
 ·have:=u.lo k z; omega
 ·have:=u.hi k (by omega) (by omega)
  omega
noncomputable def Up (lt:Nat->Nat->Bool)(p:Array Nat)(n:Nat):Prop:=∀ i j,i < j->j < n->B lt (g p i) (g p j)
noncomputable def Dn (lt:Nat->Nat->Bool)(p:Array Nat)(n:Nat):Prop:=∀ i j,i < j->j < n->B lt (g p j) (g p i)
theorem Up.succ (h:Weak lt){p:Array Nat}{n:Nat}(u:Up lt p n)(q:0 < n->B lt (g p (n - 1)) (g p n)):Up lt p (n+1):=by
 intro i j hij hj
 by_cases e:j < n
 ·exact u i j hij e
 ·have e:j=n:=by omega
  subst e
  have q:=q (by omega)
  by_cases z:i=j - 1
  ·rw [z]; exact q
  ·exact (u i (j - 1) (by omega) (by omega)).tr h q
theorem Dn.up {p:Array Nat}{n:Nat}(x:Dn lt p n)(hN:n<=p.size):Up lt (kas_rev p 0 n) n:=λ i j hij hj=>by
 rw [g_rev hN,g_rev hN,if_pos (by omega),if_pos (by omega)]
 exact x _ _ (by omega) (by omega)
end
end S
namespace S
open PySem PySem.W PyProof.Rows
noncomputable def Asks {α:Type}(N:Nat)(R:α->Prop):KasT α->Prop
 | .ret a=>R a
 | .ask i j k=>i < N/\j < N/\∀ b,Asks N R (k b)
theorem Asks.bind {α β:Type}{N:Nat}{R:α->Prop}{R':β->Prop}{f:α->KasT β}(hf:∀ a,R a->Asks N R' (f a)):∀ {t:KasT α},Asks N R t->Asks N R' (t.bind f)
 | .ret a,h=>hf a h
 | .ask i j k,h=>⟨h.1,h.2.1,λ b=>Asks.bind hf (h.2.2 b)⟩
noncomputable def Low (N:Nat)(p:Array Nat):Prop:=∀ i,g p i < N
theorem Low.of {N:Nat}{p:Array Nat}(hN:1<=N)(h:∀ x∈p.toList,x < N):Low N p:=λ i=>by
 rw [g_eq]
 cases e:p[i]? with
 | none=>simp; omega
 | some x=>exact h x (by rw [Array.mem_toList_iff]; exact Array.mem_of_getElem? e)
theorem Low.mem {N:Nat}{p:Array Nat}(h:Low N p):∀ x∈p.toList,x < N:=λ x hx=>by
 rw [Array.mem_toList_iff] at hx
 obtain ⟨i,hi,e⟩:=Array.mem_iff_getElem.mp hx
 have:=h i
 rw [g_eq] at this
 simp [hi] at this
 omega
section
variable {N:Nat}
end
section
variable {prog:Program}{w:World}{A:Around}{E:Value->Shared->Prop}{s:Shared}
end
end S
namespace S
open PySem PySem.W PyProof.Rows
noncomputable def Shape:List Bool->List PyData->Prop
 | [],[]=>True
 | true :: bs,d :: ds=>(∃ x,d=.str x)/\Shape bs ds
 | false :: bs,d :: ds=>(∃ i,d=.int i)/\Shape bs ds
 | _,_=>False
noncomputable def rowAt (rows:List (List PyData))(i:Nat):List PyData:=rows.getD i (rows.headD [])
noncomputable def RowV:List PyData->List Value->Prop:=Paired λ d u=>(∃ i t,d=.int i/\u=.int i t)\/∃ x t,d=.str x/\u=.str x t
section
variable {prog:Program}{w:World}{A:Around}{Q:Bool->Shared->Prop}
end
end S
namespace D
open PySem PySem.Spec PyProof.Rows L2 S
section
variable {K:PySem.W.Frag}
theorem RowV.len:∀ {ds:List PyData} {us:List Value},RowV ds us->us.length=ds.length:=λ h=>(Paired.length h).symm
noncomputable def RowsAt (h:Heap)(sh:List Bool)(rows:List (List PyData))(its:List Value):Prop:=Paired (λ row u=>Shape sh row/\∃ a o us n,u=Value.ref a/\h.get? a=some o/\o.cls=.type "tuple" /\ o.data=.seq us n/\RowV row us.toList) rows its
theorem RowsAt.keep {h h':Heap}{sh:List Bool}{rows:List (List PyData)}{its:List Value}(k:∀ b o,h.get? b=some o->h'.get? b=some o)(r:RowsAt h sh rows its):RowsAt h' sh rows its :=
 Paired.mapP r λ row u ⟨s,a,o,us,n,e,g,c,d,q⟩=>⟨s,a,o,us,n,e,k _ _ g,c,d,q⟩
theorem RowsAt.get {h:Heap}{sh:List Bool}:∀ {rows:List (List PyData)} {its:List Value} (i:Nat),i < rows.length->RowsAt h sh rows its->∃ a o us n,its.getD i Value.none=.ref a/\h.get? a=some o/\o.cls=.type "tuple" /\ o.data=.seq us n/\Shape sh (rowAt rows i)/\RowV (rowAt rows i) us.toList:=by
 have main:∀ {rows:List (List PyData)} {its:List Value} (i:Nat) (dflt:List PyData),i < rows.length->RowsAt h sh rows its->∃ a o us n,its.getD i Value.none=.ref a/\h.get? a=some o/\o.cls=.type "tuple" /\ o.data=.seq us n/\Shape sh (rows.getD i dflt)/\RowV (rows.getD i dflt) us.toList:=by
  intro rows
  induction rows with
  | nil=>intro its i d hi _; simp at hi
  | cons row rows ih =>
   intro its i d hi r
   cases r with
   | cons r1 r2 =>
    cases i with
    | zero =>
     obtain ⟨s,a,o,us,n,e,g,c,dd,q⟩:=r1
     exact ⟨a,o,us,n,e,g,c,dd,s,q⟩
    | succ i =>
     obtain ⟨a,o,us,n,e,z⟩:=ih i d (by simpa using hi) r2
     exact ⟨a,o,us,n,by simpa using e,by simpa using z⟩
 exact λ {rows its} i hi r=>main i _ hi r
theorem RowsAt.tups {h:Heap}{t:Bool}{sh:List Bool}:∀ {rows:List (List PyData)} {its:List Value},RowsAt h (t :: sh) rows its->∃ fs,PySem.W.KatTups h its fs/\fs.length=its.length/\∀ v∈fs,(t=true/\∃ x k,v=Value.str x k)\/(t=false/\∃ i k,v=Value.int i k)
 | [],its,r=>by
  cases r
  exact ⟨[],.nil,rfl,λ v hv=>by simp at hv⟩
 | row :: rows,its,r=>by
  cases r with
  | cons r1 r2 =>
   obtain ⟨fs,h1,h2,h3⟩:=RowsAt.tups r2
   obtain ⟨s,a,o,us,n,e,g,c,dd,q⟩:=r1
   subst e
   match row,s with
   | d :: ds,s =>
    obtain ⟨f,us2,eu,hf⟩:∃ f us2,us.toList=f :: us2/\((t=true/\∃ x k,f=Value.str x k)\/(t=false/\∃ i k,f=Value.int i k)):=by
     generalize us.toList=ul at q
     cases q with
     | @cons _ u _ ul2 q1 q2 =>
      refine ⟨u,ul2,rfl,?_⟩
      cases t with
      | true =>
       obtain ⟨⟨x,rfl⟩,_⟩:=s
       rcases q1 with ⟨_,_,e,_⟩ | ⟨_,k,e,e'⟩
       ·cases e
       ·exact .inl ⟨rfl,_,_,e'⟩
      | false =>
       obtain ⟨⟨x,rfl⟩,_⟩:=s
       rcases q1 with ⟨_,k,e,e'⟩ | ⟨_,_,e,_⟩
       ·exact .inr ⟨rfl,_,_,e'⟩
       ·cases e
    have e0:us[0]? = some f:=by
     have:us.toList[0]? = some f:=by rw [eu]; rfl
     simpa using this
    refine ⟨f :: fs,.cons g c dd e0 h1,by simp [h2],λ v hv=>?_⟩
    rcases List.mem_cons.mp hv with rfl | hv
    ·exact hf
    ·exact h3 v hv
   | [],s=>cases t <;> cases s
end
section
variable {X:Cx}{K:PySem.W.Frag}
end
end D
namespace D
open PySem PySem.Spec PyProof.Rows L2 S
section
variable {P:Program}{w:World}{H:Hp}{h h':Heap}{a:Addr}{o:HO}
end
section
variable {X:Cx}{pins:List (Addr×Obj)}{σ:St}{H:Hp}{s:Shared}{h':Heap}
end
section
variable {X:Cx}{K:PySem.W.Frag}
noncomputable def isNone:W->Bool
 | .d .none=>true
 | _=>false
end
end D
namespace D
open PySem PySem.Spec PyProof.Rows L2
section
variable {X:Cx}{pins:List (Addr×Obj)}{σ:St}{H:Hp}{s:Shared}{h':Heap}
theorem Inv.turned2 {t':Nat}{it e:Addr}(I:Inv X pins σ H s)(k:∀ b o,b≠it->b≠e->s.heap.get? b=some o->h'.get? b=some o)(f:FpOk X pins H it)(g:FpOk X pins H e):Inv X pins σ H { s with heap:=h',toks:=t' }:=by
 obtain ⟨f0,f1,f2,f3,f4,f5⟩:=f
 obtain ⟨g0,g1,g2,g3,g4,g5⟩:=g
 have nit:∀ b u,H b=some u->b≠it:=λ b u q z=>by rw [z,f0] at q; cases q
 have ne:∀ b u,H b=some u->b≠e:=λ b u q z=>by rw [z,g0] at q; cases q
 refine I.step (g':=s.gens) (d':=s.drawn) (ch:=[it,e]) (λ b hb=>?_) (λ b o _ _ hc q _=>k b o (λ z=>hc (by simp [z])) (λ z=>hc (by simp [z])) q) (λ b o _ _ hc q _=>⟨o.slots,k b o (λ z=>hc (by simp [z])) (λ z=>hc (by simp [z])) q⟩) (λ _ _ _ _ n=>n)
  (λ b o hc q=>⟨o,k b o (λ z=>hc (by simp [z])) (λ z=>hc (by simp [z])) q⟩) (λ _ _ q=>q) (λ _ _ _ q=>q) (λ b ps q=>⟨#[],by rw [q]; simp⟩) (λ m hm=>?_) (λ b u q=>?_) I.bare
 ·have z:b=it\/b=e:=by simpa using hb
  rcases z with rfl | rfl
  ·exact ⟨f3,f1,f4,f5⟩
  ·exact ⟨g3,g1,g4,g5⟩
 ·obtain ⟨o,es,ep,ho,r⟩:=hm
  exact ⟨o,es,ep,k _ o (Ne.symm f1) (Ne.symm g1) ho,r⟩
 ·refine (I.hok b u q).stay (λ c v hc z=>k c v ?_ ?_ z) (λ _ z=>z) λ _ _ z=>z
  ·rcases hc with z | z
   ·rw [z]; exact nit b u q
   ·exact nit c _ z
  ·rcases hc with z | z
   ·rw [z]; exact ne b u q
   ·exact ne c _ z
end
noncomputable def Ite (K:PySem.W.Frag)(a:Addr):It :=
 ⟨λ i H=>∃ xs x,SqL K H a xs/\xs[i]? = some x,λ i H x H'=>∃ T v,H T=none/\x=.ref T/\H'=upd H T (.tup [.int i,v])/\∀ xs,SqL K H a xs->xs[i]? = some v,λ i H=>∃ xs,SqL K H a xs/\xs.length<=i⟩
theorem turn_enum {P:Program}{w:World}{K:PySem.W.Frag}{elts:List Expr}{x1:Nat}{tpos:Pos}(a e it:Addr)(hne:e≠it) :
  Turn P w K (.Tuple elts x1 tpos) (Ite K a) [e,it] e (λ i h=>(∃ old,IsEnum h e it (i:Nat) old)/\h.IsListIter it a i) where
 mem:=by simp
 obj:=λ i h ⟨⟨old,st⟩,⟨oi,ei,ci,di⟩⟩ b hb=>by
  have z:b=e\/b=it:=by simpa using hb
  rcases z with rfl | rfl
  ·exact ⟨_,st,λ v z=>by cases z⟩
  ·exact ⟨oi,ei,λ v z=>by rw [di] at z; cases z⟩
 keep:=λ i h h' ⟨⟨old,st⟩,li⟩ k=>⟨⟨old,k e (by simp) _ st⟩,li.at λ o q=>k it (by simp) o q⟩
 item:=by
  intro X hP hw hK hc i pins s σ H E I hf ⟨⟨old,st⟩,li⟩ ⟨xs,x,hq,hx⟩
  subst hP hw hK
  have fe:=hf e (by simp)
  have fi:=hf it (by simp)
  obtain ⟨its,rv,p,hz⟩:=I.list hq
  obtain ⟨u,hu,ru⟩:=rv.get hx
  refine wpAny_pyNext_enum_item st li p.isList (x:=u) (by simpa using hu) hne λ h' st' li' ht hsz kp=>?_
  refine ⟨_,rfl,wpAny_letOwnedTupleGo_enum st' λ h'' st'' sb=>?_⟩
  obtain ⟨t0,t1,t2,t3,t4,t5⟩:=I.fpOk (Nat.le_refl _) (I.hok.fresh (Nat.le_refl _))
  have nT:s.heap.objs.size≠e:=Nat.ne_of_gt (Heap.lt_size st)
  have I1:Inv X pins σ H { s with heap:=h'',toks:=s.toks+1 }:=Inv.turned2 I (λ b ob h1 h2 q=>(sb.2 b h2).trans (kp b ob h2 h1 q)) fi fe
  have eT:h''.get? s.heap.objs.size=some { cls:=.type "tuple",data:=.seq #[.int (i:Nat) s.toks,u] }:=(sb.2 _ nT).trans ht
  have I2:=Inv.trackT (us:=[.int (i:Nat) s.toks,u]) (ys:=[.int i,x]) I1 eT t0 (.cons ⟨_,rfl⟩ (.cons ru .nil)) (by simp; have:=s16; omega) t3 t1 t4 t5
  have li'':h''.IsListIter it a (i+1):=li'.at λ o q=>(sb.2 it hne.symm).trans q
  have hit:it < s.heap.objs.size:=by
   obtain ⟨oi,ei,_⟩:=li
   exact Heap.lt_size ei
  refine ⟨.ref s.heap.objs.size,_,I2,rfl,⟨_,x,t0,rfl,rfl,λ ys hy=>by rw [I.list_inj hy hq]; exact hx⟩,⟨⟨_,st''⟩,li''⟩,λ b hb=>?_⟩
  have z:b=e\/b=it:=by simpa using hb
  rcases z with rfl | rfl
  ·rw [upd_ne nT.symm]; exact fe.1
  ·rw [upd_ne (Nat.ne_of_lt hit)]; exact fi.1
 done:=by
  intro X hP hw hK hc i pins s σ H E I hf ⟨⟨old,st⟩,li⟩ ⟨xs,hq,hx⟩
  subst hP hw hK
  obtain ⟨f0,f1,f2,f3,f4,f5⟩:=hf it (by simp)
  obtain ⟨its,rv,p,hz⟩:=I.list hq
  have hl:=rv.length
  exact wpAny_pyNext_enum_end (I.ok.hd hc) st li p.isList (by simp; omega) λ h' eb=>⟨rfl,I.turned (t':=s.toks) (λ b o hb q=>eb b o hb q) f0 f1 f3 f4 f5⟩
 self:=λ _ _ _ _ _ ⟨⟨old,st⟩,li⟩ h=>wpAny_pyIter_enum st h
theorem bt_enumerate:bootBuiltins "enumerate" = some (.type "enumerate"):=by decide +kernel
section
variable {X:Cx}{a:Expr}{p pos:Pos}{ta:TA}
noncomputable def iEnum (K:PySem.W.Frag)(ta:TA):TI:=λ σ H R=>ta σ H λ vs H1=>∃ b xs,vs=[.ref b]/\SqL K H1 b xs/\R (Ite K b) H1
theorem pi_enum {elts:List Expr}{x1:Nat}{tpos:Pos}(hg:Gl X "enumerate")(hm:X.mg "enumerate" = none)(ha:PA X [a] ta)(hs:starEach [a] X.env=[(false,eval a X.env)]:=by rfl) :
  PI X (.Tuple elts x1 tpos) (.Call (.Name "enumerate" p) [a] [] pos) (iEnum X.K ta):=by
 intro pins s σ H R I h
 refine Call_ (ld_blt I hg hm bt_enumerate (PyProof.Rows.callWith_type1 (thn (ha pos pins s σ H _ I h) λ us s1 ⟨vs,H1,I1,r1,q1⟩=>?_) hs rfl))
 obtain ⟨b,xs,e,hq,q⟩:=q1
 subst e
 cases r1 with
 | cons r rr =>
  cases rr
  cases (show _=Value.ref b from r)
  obtain ⟨its,rv,pl,hz⟩:=I1.list hq
  refine call_enumerate_list pl.isList λ h' st li hsz kp=>?_
  have I2:Inv X pins σ H1 { s1 with heap:=h' }:=I1.kept (t':=s1.toks) kp
  refine wpAny_pyIter_enum st ?_
  refine ⟨_,[_,_],_,_,H1,rfl,I2,turn_enum b _ _ (Nat.succ_ne_self _),⟨⟨_,st⟩,li⟩,λ c hc=>?_,q⟩
  have z:c=s1.heap.objs.size+1\/c=s1.heap.objs.size:=by simpa using hc
  rcases z with rfl | rfl
  ·exact I1.fpOk (Nat.le_succ _) (I1.hok.fresh (Nat.le_succ _))
  ·exact I1.fpOk (Nat.le_refl _) (I1.hok.fresh (Nat.le_refl _))
end
section
variable {X:Cx}{K:PySem.W.Frag}{a:Expr}{p pos:Pos}{t:TAd}
noncomputable def enumW (ds:List PyData):List W:=(List.range ds.length).map λ i=>.d (.tuple [.int (i:Nat),ds.getD i .none])
noncomputable def dEnum (t:TAd)(τ:DS)(M:MH)(R:List W->MH->Prop):Prop:=t τ M λ ws M1=>∃ ds,ws=[.d (.list ds)]/\R (enumW ds) M1
theorem pid_enum {elts:List Expr}{x1:Nat}{tpos:Pos}(hg:Gl X "enumerate")(hm:X.mg "enumerate" = none)(ha:PAd X [a] t)(h1:isSt a=false:=by rfl) :
  PId X (.Tuple elts x1 tpos) (.Call (.Name "enumerate" p) [a] [] pos) (dEnum t):=pi_w (pi_enum hg hm ha (by rw [star_ok a [] X.env h1]; rfl)) λ σ H R hq66=>by
 obtain ⟨τ,M,Rd,A,h,k⟩:=hq66
 refine ⟨τ,M,_,A,h,λ vs H1 ws M1 kp r m hq67=>?_⟩
 obtain ⟨ds,ew,q⟩:=hq67
 subst ew
 obtain ⟨v,ev,r1⟩:=repWs1 r
 simp only [RepW,RepD] at r1
 obtain ⟨b,xs,e1,hs,ra⟩:=r1
 subst ev e1
 have hl:=ra.length
 refine ⟨b,xs,rfl,hs.sq,k _ H1 _ M1 kp m (λ H2 kp2 i=>?_) q⟩
 have hs2:=(hs.keep kp2).sq
 have hlw:(enumW ds).length=xs.length:=by simp [enumW,hl]
 refine ⟨λ hi=>⟨xs,xs[i]'(by omega),hs2,by simp⟩,λ hi=>⟨xs,hs2,by omega⟩,λ x H' hi hq68=>?_⟩
 obtain ⟨T,v,hT,ex,eH,hv⟩:=hq68
 subst ex eH
 have hxv:=hv xs hs2
 obtain ⟨d,e3,rd⟩:=(ra.keep kp2).get' hxv
 have kpn:Kp H2 (upd H2 T (.tup [.int i,v])):=Kp.new hT
 have hid:i < ds.length:=by rw [hlw] at hi; omega
 refine ⟨kpn,λ M m=>m.new hT,.d (.tuple [.int (i:Nat),ds.getD i .none]),by simp [enumW,hid],?_⟩
 have ed:ds.getD i .none=d:=by simp [List.getD,e3]
 rw [ed]
 simp only [RepW,RepD,RepA]
 exact ⟨T,_,rfl,.inl (.inl upd_same),_,_,rfl,rfl,_,_,rfl,rd.keep kpn,rfl⟩
end
section
variable {X:Cx}{K:PySem.W.Frag}
end
end D
namespace Rc
open PySem PySem.Spec PyProof.Rows L2 D
section
variable {α:Type}(nm:α->Str)
noncomputable def rk (g:α->PyData)(L:List α):List (Key×PyData):=L.map λ a=>(.inr (nm a),g a)
noncomputable def fd (L:List α)(n:Str):Option α:=L.find? λ a=>decide (nm a=n)
noncomputable def pt (L:List α)(z:α):List α:=match fd nm L (nm z) with
 | none=>L++[z]
 | some _=>L.map λ y=>if nm y=nm z then z else y
variable {nm}
end
end Rc
namespace Rc
open PySem PySem.Spec PyProof.Rows L2 D
mutual
noncomputable def okD:Nat->PyData->Bool
 | _,.none=>true
 | _,.bool _=>true
 | _,.int i=>decide (i.natAbs < 2 ^ 100)
 | _,.str z=>ascB z
 | k+1,.list ds=>okA k ds
 | k+1,.tuple ds=>okA k ds
 | _,_=>false
noncomputable def okA:Nat->List PyData->Bool
 | _,[]=>true
 | k,d :: ds=>okD k d && okA k ds
end
theorem asc_of_b {z:Str}(h:ascB z=true):Asc z:=asc_dec h
theorem strOk_asc {z:Str}(h:Asc z):PyData.strOk z=true:=by
 unfold PyData.strOk
 rw [Array.all_eq_true_iff_forall_mem]
 intro c hc
 exact decide_eq_true (by have:=h c (by simpa using hc); omega)
theorem strOk_b {z:Str}(h:ascB z=true):PyData.strOk z=true:=strOk_asc (asc_of_b h)
mutual
theorem ok_lay:∀ (k:Nat) (d:PyData),okD k d=true->PyData.canLay0 d=true
 | _,.none,_=>by simp [PyData.canLay0]
 | _,.bool _,_=>by simp [PyData.canLay0]
 | _,.int i,h=>by simp [PyData.canLay0]
 | _,.str z,h=>by
  cases ‹Nat› <;> simp only [okD] at h <;> simp [PyData.canLay0,strOk_b h]
 | k+1,.list ds,h=>by simp only [okD] at h; simp only [PyData.canLay0]; exact okA_lay k ds h
 | k+1,.tuple ds,h=>by simp only [okD] at h; simp only [PyData.canLay0]; exact okA_lay k ds h
 | 0,.list ds,h=>by simp [okD] at h
 | 0,.tuple ds,h=>by simp [okD] at h
 | k,.dict kvs,h=>by cases k <;> simp [okD] at h
theorem okA_lay:∀ (k:Nat) (ds:List PyData),okA k ds=true->PyData.canLayAll0 ds=true
 | _,[],_=>by simp [PyData.canLayAll0]
 | k,d :: ds,h=>by
  simp only [okA,Bool.and_eq_true] at h
  simp only [PyData.canLayAll0,ok_lay k d h.1,okA_lay k ds h.2,Bool.and_self]
end
mutual
theorem ok_depth:∀ (k:Nat) (d:PyData),okD k d=true->PyData.depth d<=k+1
 | _,.none,_=>by simp [PyData.depth]
 | _,.bool _,_=>by simp [PyData.depth]
 | _,.int i,h=>by simp [PyData.depth]
 | _,.str z,h=>by simp [PyData.depth]
 | k+1,.list ds,h=>by simp only [okD] at h; have:=okA_depth k ds h; simp only [PyData.depth]; omega
 | k+1,.tuple ds,h=>by simp only [okD] at h; have:=okA_depth k ds h; simp only [PyData.depth]; omega
 | 0,.list ds,h=>by simp [okD] at h
 | 0,.tuple ds,h=>by simp [okD] at h
 | k,.dict kvs,h=>by cases k <;> simp [okD] at h
theorem okA_depth:∀ (k:Nat) (ds:List PyData),okA k ds=true->PyData.depthAll ds<=k+1
 | _,[],_=>by simp [PyData.depthAll]
 | k,d :: ds,h=>by
  simp only [okA,Bool.and_eq_true] at h
  have h1:=ok_depth k d h.1
  have h2:=okA_depth k ds h.2
  simp only [PyData.depthAll]
  omega
end
mutual
theorem ok_nod:∀ (k:Nat) (d:PyData),okD k d=true->PyData.hasDict d=false
 | _,.none,_=>by simp [PyData.hasDict]
 | _,.bool _,_=>by simp [PyData.hasDict]
 | _,.int i,h=>by simp [PyData.hasDict]
 | _,.str z,h=>by simp [PyData.hasDict]
 | k+1,.list ds,h=>by simp only [okD] at h; simp only [PyData.hasDict]; exact okA_nod k ds h
 | k+1,.tuple ds,h=>by simp only [okD] at h; simp only [PyData.hasDict]; exact okA_nod k ds h
 | 0,.list ds,h=>by simp [okD] at h
 | 0,.tuple ds,h=>by simp [okD] at h
 | k,.dict kvs,h=>by cases k <;> simp [okD] at h
theorem okA_nod:∀ (k:Nat) (ds:List PyData),okA k ds=true->PyData.hasDictAll ds=false
 | _,[],_=>by simp [PyData.hasDictAll]
 | k,d :: ds,h=>by
  simp only [okA,Bool.and_eq_true] at h
  simp only [PyData.hasDictAll,ok_nod k d h.1,okA_nod k ds h.2,Bool.or_self]
end
theorem eqOk_of {k:Nat}{d:PyData}(hk:k<=50)(h:okD k d=true):eqOk d=true:=by
 have h1:=ok_lay k d h
 have h2:=ok_depth k d h
 have h3:=ok_nod k d h
 simp only [eqOk,SeqAt.shaped,h1,h3,Bool.true_and,Bool.not_false,Bool.and_true]
 exact decide_eq_true (by omega)
theorem refl_of {k:Nat}{d:PyData}(h:okD k d=true):PyData.eqv d d=true:=SeqAt.eqv_refl _ (ok_lay k d h)
theorem eqv_str' (x y:Str):PyData.eqv (.str x) (.str y)=decide (x=y):=by
 rw [<- str_dec]
 by_cases e:x=y
 ·subst e; simp
 ·simp [e]
theorem eqv_int' (x y:Int):PyData.eqv (.int x) (.int y)=decide (x=y):=by
 rw [PyData.eqv]
 by_cases e:x=y
 ·subst e; simp
 ·simp [e]
theorem ne_new {M:MH}{a b:Addr}{o:MO}(ha:M a=some o)(hb:M b=none):a≠b:=λ e=>by rw [e,hb] at ha; cases ha
theorem upd_get {M:MH}{a b:Addr}{o u:MO}(h:M a=some o)(hb:M b=none):updM M b u a=some o:=by rw [updM_ne (ne_new h hb)]; exact h
end Rc
namespace Stc
open PySem PySem.Spec PyProof.Rows L2 D Rc
theorem drawn {z:Str}(hz:Asc z)(hz0:0 < z.length)(hz1:z.length<=1000){p:Addr}{M M1:MH}{ws:List W}{fr:List Nat}{τ:DS}{te:TD}{k:Nat}{Q:List PyData->MH->Prop}(hk:ws.length=k)(hs:k<=1000)(b1:Bag M1 p)(f1:∀ q,q≠p->M1 q=M q)
  (hte:∀ w∈ws,∀ (M':MH),Bag M' p->∀ R:W->MH->Prop,(∀ (r:Int) M'' (c:Nat),c∈z.cps.toList->Bag M'' p->(∀ q,q≠p->M'' q=M' q)->R (.d (.str ⟨#[c]⟩)) M'')->te (some w :: fr.map λ j=>(τ[j]?).getD none) M' R)
  (q:∀ (ys:List Str) M',(∀ y∈ys,y.length<=1/\Asc y)->ys.length<=k->Bag M' p->(∀ q,q≠p->M' q=M q)->Q (ys.map PyData.str) M') :
  ∃ P:Nat->List PyData->DS->MH->Prop,P 0 [] (lcSD 1 fr τ) M1 /\
   (∀ i w acc τ M,ws[i]? = some w->P i acc τ M->acc.length < sizeLine/\gN 0 w τ M λ τ2 M2=>dYes τ2 M2 λ b M3=>if b=true then te τ2 M3 λ y M4=>∃ d,y=.d d/\P (i+1) (acc++[d]) τ2 M4 else P (i+1) acc τ2 M3) /\
   ∀ acc τ M,P ws.length acc τ M->Q acc M:=by
 refine lc_inv (λ M'=>Bag M' p/\∀ q,q≠p->M' q=M q) (Tx 1) (by have:=s16; omega) ⟨b1,f1⟩ (λ w hw M' hj P' hp _=>?_) (λ acc M2 hj hg hlen=>?_)
 ·exact hte w hw M' hj.1 _ λ r M'' c hc b f=>⟨_,rfl,hp _ _ ⟨_,rfl,Nat.le_refl _,asc_one hz hc⟩ ⟨b,λ q hq=>(f q hq).trans (hj.2 q hq)⟩⟩
 ·obtain ⟨ys,e,hy⟩:=tx_list hg
  subst e
  exact q ys M2 hy (by simpa [hk] using hlen) hj.1 hj.2
theorem ix_at {M:MH}{ds:List PyData}{r:Int}(h0:0<=r)(h1:r < ds.length):∃ d,ixW M (.d (.list ds)) r=some (.d d)/\d∈ds:=by
 have hn:r.toNat < ds.length:=by omega
 refine ⟨ds[r.toNat],?_,List.getElem_mem hn⟩
 simp only [ixW,atI,ixN_nat h0 h1,Option.bind_some,List.getElem?_eq_getElem hn,Option.map_some]
end Stc
namespace D
open PySem PySem.Spec PyProof.Rows L2
section
variable {X:Cx}{pos:Pos}{e:Expr}{te:TD}
end
section
variable {X:Cx}{tg a b c:Expr}{p pos:Pos}
end
section
variable {K:PySem.W.Frag}
variable {X:Cx}{sc:Scope}{own:List Str}{fr:List Nat}{di:TId}{g:TGd}{tt:TTd}{te:TD}{tg iter elt:Expr}{ifs:List Expr}{pos:Pos}
end
section
variable {X:Cx}{K:PySem.W.Frag}
end
end D
namespace D
open PySem PySem.Spec PyProof.Rows L2
section
variable {X:Cx}{o:Expr}{to:TE}{apos cpos p pos kpos kp:Pos}{j:Nat}
theorem vals_ints:∀ {ns:List Int} {kvs:List (Key×V)} {vs:List (Key×Value)} {us:List Value},KV kvs vs->kvs.map (·.2)=ns.map V.int->us.length=vs.length->(∀ (i:Nat) v,us[i]? = some v->∃ k,vs[i]? = some (k,v))->IntsAre us ns
 | [],kvs,vs,us,r,h,hl,hp=>by
  have e:kvs=[]:=by simpa using h
  subst e
  cases r
  have e:us=[]:=by simpa using hl
  subst e
  exact .nil
 | n :: ns,kvs,vs,us,r,h,hl,hp=>by
  match kvs,us,r,h,hl,hp with
  | (k,x) :: kvs,u :: us,.cons (b:=b) r1 r2,h,hl,hp =>
   simp only [List.map_cons,List.cons.injEq] at h
   obtain ⟨k',e⟩:=hp 0 u rfl
   simp at e
   have hx:=r1.2
   rw [h.1,e] at hx
   obtain ⟨t,et⟩:=(show ∃ t,u=Value.int n t from hx)
   subst et
   exact .cons n t (vals_ints r2 h.2 (by simpa using hl) λ i v hi=>by simpa using hp (i+1) v (by simpa using hi))
  | [],_,r,h,_,_=>simp at h
  | _ :: _,[],.cons _ _,_,hl,_=>simp at hl
end
section
variable {X:Cx}{o:Expr}{td:TD}{apos cpos p pos kpos kp:Pos}{j:Nat}
end
namespace Q
section
variable {X:Cx}{pos:Pos}{e:Expr}{te:TD}
variable {tg a b c iter elt:Expr}{p:Pos}{sc:Scope}{own:List Str}{fr:List Nat}{di:TId}{g:TGd}{tt:TTd}{ifs:List Expr}
variable {o:Expr}{td:TD}{apos cpos kpos kp:Pos}{j:Nat}
theorem pid_enum {t:TAd}{elts:List Expr}{x1:Nat}{tpos:Pos}(hg:Gl X "enumerate")(hm:X.mg "enumerate" = none)(ha:Jd (PAd X [a] t))(h1:isSt a=false:=by rfl):Jd (PId X (.Tuple elts x1 tpos) (.Call (.Name "enumerate" p) [a] [] pos) (dEnum t)):=⟨D.pid_enum hg hm ha.h h1⟩
end
end Q
end D
namespace D
open PySem PySem.Spec PyProof.Rows L2
section
variable {P:Program}{w:World}{K:PySem.W.Frag}{mg:Str->Option Value}{base h:Heap}
end
section
variable {X:Cx}{pos p:Pos}{k:Nat}{f:Addr}{fd:FuncData}{ps:List Str}{sp:SpD}{x:Str}{e:Expr}{es:List Expr}{t:TAd}{d:Int}
end
end D
namespace D
open PySem PySem.Spec PyProof.Rows L2
section
variable {X:Cx}{pins:List (Addr×Obj)}{σ:St}{H:Hp}{s:Shared}{h':Heap}
end
section
variable {X:Cx}{a b:Expr}{p pos:Pos}{ta:TA}
end
section
variable {X:Cx}{K:PySem.W.Frag}{a b:Expr}{p pos:Pos}{t:TAd}
end
section
variable {X:Cx}{pos:Pos}
end
end D
namespace Q
open PySem PySem.Spec PyProof.Rows L2 D
section
variable {X:Cx}{a b:Expr}{p pos:Pos}
end
end Q
namespace Stc
open PySem PySem.Spec PyProof.Rows L2 D Rc
noncomputable abbrev N_is_word:List Str:=["thing"]
noncomputable def t_is_word:TSd :=
  dSeq (dIf (dOr (dNot (dTest (dCB rdIsiT (dCons (dVar 0) (dCons (dC (.t "str")) (dNil)))))) (dNot (dTest (dChain rdLe rdLe (dC (.d (.int 1))) (dCB rdLen (dCons (dVar 0) (dNil))) (dC (.d (.int 8)))))))
   (dRet (dC (.d (.bool false))))
   (dNext)) <|
  dRet (dCB rdAll (dCons (dLC (dItems (dVar 0)) (gN 0) (dYes) (dChain rdLe rdLe (dC (.d (.str "a"))) (dVar 0) (dC (.d (.str "z")))) 1 []) (dNil)))
noncomputable def Ext (M M':MH):Prop:=∀ q o,M q=some o->M' q=some o
theorem Ext.refl (M:MH):Ext M M:=λ _ _ h=>h
theorem Ext.trans {A B C:MH}(h:Ext A B)(k:Ext B C):Ext A C:=λ q o e=>k q o (h q o e)
theorem Ext.new {M:MH}{p:Addr}{o:MO}(h:M p=none):Ext M (updM M p o):=λ q u e=>upd_get e h
theorem Ext.del {M M':MH}{p:Addr}(h:Ext M M')(hp:M p=none):Ext M (delM M' p):=λ q u e=>by
 have hq:q≠p:=ne_new e hp
 simp only [delM,if_neg hq]
 exact h q u e
theorem Ext.upd {M M':MH}{p:Addr}{o:MO}(h:Ext M M')(hp:M p=none):Ext M (updM M' p o):=λ q u e=>by
 rw [updM_ne (ne_new e hp)]
 exact h q u e
theorem Ext.none {M M':MH}{p:Addr}(h:Ext M M')(hp:M' p=none):M p=none:=by
 cases e:M p with
 | none=>rfl
 | some o=>rw [h p o e] at hp; cases hp
theorem Ext.bag {M M':MH}{p:Addr}(h:Ext M M')(hb:Bag M p):Bag M' p:=by
 obtain ⟨a,b,c,ns,e,z⟩:=hb
 exact ⟨a,b,c,ns,h _ _ e,z⟩
theorem lc_rows {α:Type}{gt:TGd}{te:TD}{Q:List PyData->DS->MH->Prop}{τ0:DS}{M:MH}(L:List α)(g:α->W)(f:α->PyData)(S:DS->Prop)(hL:L.length<=1000)(h0:S τ0)
  (step:∀ a∈L,∀ τ,S τ->∀ R:PyData->DS->MH->Prop,(∀ τ2,S τ2->R (f a) τ2 M)->gt (g a) τ M λ τ2 M2=>te τ2 M2 λ y M4=>∃ d,y=.d d/\R d τ2 M4)
  (q:∀ τ,Q (L.map f) τ M) :
  ∃ P:Nat->List PyData->DS->MH->Prop,P 0 [] τ0 M /\
   (∀ i w acc τ M,(L.map g)[i]? = some w->P i acc τ M->acc.length < sizeLine/\gt w τ M λ τ2 M2=>dYes τ2 M2 λ b M3=>if b=true then te τ2 M3 λ y M4=>∃ d,y=.d d/\P (i+1) (acc++[d]) τ2 M4 else P (i+1) acc τ2 M3) /\
   ∀ acc τ M,P (L.map g).length acc τ M->Q acc τ M:=by
 refine ⟨λ i acc τ M'=>M'=M/\acc=(L.take i).map f/\S τ,⟨rfl,rfl,h0⟩,?_,?_⟩
 ·rintro i w acc τ M' hw ⟨rfl,rfl,hs⟩
  rw [List.getElem?_map] at hw
  cases e:L[i]? with
  | none=>rw [e] at hw; cases hw
  | some a =>
   rw [e] at hw
   cases hw
   have hi:=(List.getElem?_eq_some_iff.mp e).1
   refine ⟨by rw [List.length_map,List.length_take]; have:=s16; omega,?_⟩
   refine step a (List.mem_of_getElem? e) τ hs (λ d τ2 M4=>M4=M'/\(L.take i).map f++[d]=(L.take (i+1)).map f/\S τ2) λ τ2 h2=>⟨rfl,?_,h2⟩
   rw [List.take_succ,e]
   simp
 ·rintro acc τ M' ⟨rfl,rfl,hs⟩
  rw [List.length_map,List.take_length]
  exact q τ
noncomputable abbrev Dm:=List (Str×Int)
noncomputable def gI (r:Str×Int):PyData:=.int r.2
noncomputable def Dc (M:MH)(a:Addr)(D:Dm):Prop:=M a=some (.dic (dataKV (rk Prod.fst gI D)))
noncomputable def val (D:Dm)(k:Str):Int:=((fd Prod.fst D k).map (·.2)).getD 0
noncomputable def more (D:Dm)(k:Str)(n:Int):Dm:=pt Prod.fst D (k,val D k+n)
noncomputable def vals (D:Dm):List Int:=D.map λ r=>r.2
noncomputable def dsc (ns:List Int):List Int:=ns.mergeSort λ a b=>decide (a >= b)
noncomputable def room (rs:List Int)(i:Int):Int:=(rs.map λ m=>if i < m then i else m).sum
noncomputable def fitL (rs:List Int)(ns:List Int):Bool:=(List.range ns.length).all λ i=>decide ((ns.take (i+1)).sum<=room rs ((i:Int)+1))
noncomputable def fitD (rs:List Int)(D:Dm):Bool:=fitL rs (dsc (vals D))
noncomputable def OkR (rs:List Int):Prop:=rs.length<=8/\∀ m∈rs,0<=m/\m<=6
noncomputable def gr (rs:List Int)(D:Dm)(k:Str):Nat->Int
 | 0=>0
 | n+1=>if fitD rs (more D k ((n:Int)+1))=true then (n:Int)+1 else gr rs D k n
theorem sealed {M:MH}{l:Addr}{o:MO}(hl:M l=none):Ext M (delM (updM M l o) l):=(Ext.new hl).del hl
noncomputable abbrev Bs:=List (Str×Int)
noncomputable abbrev As:=List (Str×Str×Int)
noncomputable def rooms (B:Bs):List Int:=B.map (·.2)
theorem map_at {α β:Type}{L:List α}{f:α->β}{i:Nat}{w:β}(h:(L.map f)[i]? = some w):∃ a,L[i]? = some a/\w=f a:=by
 rw [List.getElem?_map] at h
 cases e:L[i]? with
 | none=>rw [e] at h; cases h
 | some a=>rw [e] at h; cases h; exact ⟨a,rfl,rfl⟩
theorem rng_at {lo:Int}{n i:Nat}{w:W}(h:(rangeW lo n)[i]? = some w):i < n/\w=.d (.int (lo+(i:Int))):=by
 unfold rangeW at h
 obtain ⟨j,hj,rfl⟩:=map_at h
 obtain ⟨h1,h2⟩:=List.getElem?_eq_some_iff.mp hj
 simp at h1 h2
 subst h2
 exact ⟨h1,rfl⟩
theorem cut_take {α:Type}{xs:List α}{i:Nat}(hi:i<=xs.length):D.cutD xs none (some (i:Int))=xs.take i:=by
 unfold D.cutD
 have e:HT.sIx xs.length 0 none=0:=rfl
 have e2:HT.sIx xs.length xs.length (some (i:Int))=i:=by
  unfold HT.sIx
  simp
  rw [if_neg (by omega)]
  omega
 rw [e,e2]
 simp
noncomputable def stp (rs:List Int)(s:Dm×As)(r:Str×Str×Int):Dm×As :=
 (more s.1 r.2.1 (gr rs s.1 r.2.1 r.2.2.toNat),s.2++[(r.1,r.2.1,gr rs s.1 r.2.1 r.2.2.toNat)])
noncomputable def run (rs:List Int)(A:As):Dm×As:=A.foldl (stp rs) ([],[])
noncomputable def OkC (A:As):Prop:=A.length<=8/\∀ r∈A,0<=r.2.2/\r.2.2<=6
noncomputable def smallB (c:Nat):Bool:=decide (97<=c) && decide (c<=122)
noncomputable def wd (z:Str):Bool:=decide (1<=z.length) && decide (z.length<=8) && z.cps.toList.all smallB
theorem wd_len {z:Str}(h:wd z=true):1<=z.length/\z.length<=8:=by simp [wd] at h; exact h.1
theorem wd_all {z:Str}(h:wd z=true):∀ c∈z.cps.toList,smallB c=true:=by simp only [wd,Bool.and_eq_true,List.all_eq_true] at h; exact h.2
theorem wd_asc {z:Str}(h:wd z=true):ascB z=true:=by
 have:=wd_all h
 unfold ascB
 rw [<- Array.all_toList,List.all_eq_true]
 intro c hc
 have:=this c hc
 simp [smallB] at this
 simp
 omega
theorem ite_y {c:Bool}{A B:Prop}(e:c=true)(h:A):if c=true then A else B:=by rw [e]; exact iteT h
theorem ite_n {c:Bool}{A B:Prop}(e:c=false)(h:B):if c=true then A else B:=by rw [e]; exact iteF h
theorem lt1 (a b:Nat):decide ([a] < [b])=decide (a < b):=by
 by_cases h:a < b
 ·rw [decide_eq_true h]; exact decide_eq_true (List.cons_lt_cons_iff.mpr (.inl h))
 ·rw [decide_eq_false h]
  refine decide_eq_false λ z=>?_
  rcases List.cons_lt_cons_iff.mp z with q | ⟨_,q⟩
  ·exact h q
  ·exact absurd q (by simp)
theorem isi_s (z:Str):isiD (.str z) "str" = true:=by simp [isiD,tyD]
theorem isi_l (ds:List PyData):isiD (.list ds) "list" = true:=by simp [isiD,tyD]
noncomputable def sp_is_word:SpD:=λ ws M Q=>∃ z:Str,ws=[.d (.str z)]/\wd z=true/\Q (.d (.bool true)) M
theorem len_is_word:∀ ws M Q,sp_is_word ws M Q->ws.length=1:=by rintro ws M Q ⟨d,rfl,_⟩; rfl
theorem read_is_word:∀ ws M Q,sp_is_word ws M Q->t_is_word { nx:=λ _ M'=>Q (.d .none) M',rt:=Q } (startD N_is_word ws) M:=by
 rintro ws M Q ⟨z,rfl,hz,k⟩
 have hl:=wd_len hz
 have hfit:fitW (.d (.str z))=true:=decide_eq_true (few (by omega))
 refine ⟨_,rfl,_,_,_,rfl,.d,.str,_,rfl,?_⟩
 rw [isi_s]
 refine iteF ⟨_,rfl,_,_,rfl,rfl,hfit,.inl ⟨_,_,rfl,rfl,_,rfl,?_⟩⟩
 rw [decide_eq_true (show (1:Int)<=(z.length:Nat) by omega)]
 refine iteT (.inl ⟨_,_,rfl,rfl,_,rfl,?_⟩)
 rw [decide_eq_true (show ((z.length:Nat):Int)<=8 by omega)]
 refine iteF ⟨_,rfl,_,rfl,?_⟩
 dsimp only
 have ea:("a" : Str).cps.toList=[97]:=by decide +kernel
 have ez:("z" : Str).cps.toList=[122]:=by decide +kernel
 refine lc_rows z.cps.toList (λ c=>W.d (.str ⟨#[c]⟩)) (λ c=>.bool true) (λ τ=>∃ x,τ=[x]) (by rw [str_len]; omega) ⟨_,rfl⟩ (λ c hc τ hτ R h=>?_) (λ τ=>?_)
 ·obtain ⟨x,rfl⟩:=hτ
  have hs:=wd_all hz c hc
  simp [smallB] at hs
  have q1:(!decide ((⟨#[c]⟩:Str).cps.toList < ("a" : Str).cps.toList))=true:=by rw [ea,show (⟨#[c]⟩:Str).cps.toList=[c] from rfl,lt1]; simp; omega
  have q2:(!decide (("z" : Str).cps.toList < (⟨#[c]⟩:Str).cps.toList))=true:=by rw [ez,show (⟨#[c]⟩:Str).cps.toList=[c] from rfl,lt1]; simp; omega
  refine ⟨_,rfl,.inr ⟨_,_,rfl,rfl,_,rfl,?_⟩⟩
  refine ite_y q1 (.inr ⟨_,_,rfl,rfl,?_⟩)
  refine ⟨_,rfl,?_⟩
  have:=h [some (.d (.str ⟨#[c]⟩))] ⟨_,rfl⟩
  rw [<- q2] at this
  exact this
 ·refine ⟨z.cps.toList.map λ _=>true,by rw [List.map_map]; rfl,?_⟩
  rw [show (z.cps.toList.map λ _=>true).all id=true from by rw [List.all_eq_true]; intro b hb; obtain ⟨_,_,rfl⟩:=List.mem_map.mp hb; rfl]
  exact k
noncomputable def OkRow (r:Str×Int):Prop:=wd r.1=true/\0<=r.2/\r.2<=6
noncomputable def lsS (a b:Str):Bool:=decide (a.cps.toList < b.cps.toList)
structure OkB (B:Bs):Prop where
 len:B.length<=8
 row:∀ r∈B,OkRow r
 up:∀ i r s,B[i]? = some r->B[i+1]? = some s->lsS r.1 s.1=true
theorem enum_row {α:Type}{L:List α}{f:α->PyData}{i:Nat}{w:W}(h:(enumW (L.map f))[i]? = some w):∃ r,L[i]? = some r/\w=.d (.tuple [.int (i:Nat),f r]):=by
 unfold enumW at h
 rw [List.getElem?_map] at h
 have hi:i < L.length:=by
  by_cases q:i < L.length
  ·exact q
  ·rw [List.getElem?_eq_none (by simpa using q)] at h; cases h
 rw [List.getElem?_range (by simpa using hi)] at h
 cases h
 refine ⟨L[i],List.getElem?_eq_getElem hi,?_⟩
 simp [List.getD,List.getElem?_map,List.getElem?_eq_getElem hi]
structure OkAr (r:Str×Str×Int):Prop where
 w:wd r.1=true
 k:wd r.2.1=true
 c0:0<=r.2.2
 c6:r.2.2<=6
structure OkA (A:As):Prop where
 len:A.length<=8
 row:∀ r∈A,OkAr r
 nd:(A.map λ r=>r.1).Nodup
theorem OkA.c {A:As}(h:OkA A):OkC A:=⟨h.len,λ r hr=>⟨(h.row r hr).c0,(h.row r hr).c6⟩⟩
theorem OkB.r {B:Bs}(h:OkB B):OkR (rooms B):=⟨by unfold rooms; rw [List.length_map]; exact h.len,λ m hm=>by obtain ⟨r,hr,rfl⟩:=List.mem_map.mp hm; exact (h.row r hr).2⟩
theorem nd_take {L:List Str}(h:L.Nodup){i:Nat}{z:Str}(e:L[i]? = some z):z ∉ L.take i:=by
 intro hm
 obtain ⟨j,hj,ej⟩:=List.getElem_of_mem hm
 rw [List.length_take] at hj
 rw [List.getElem_take] at ej
 obtain ⟨hi,ei⟩:=List.getElem?_eq_some_iff.mp e
 have:=(List.getElem_inj (h₀:=by omega) (h₁:=hi) h).mp (ej.trans ei.symm)
 omega
noncomputable def tailB (k:Nat):Str:=Txt.mul ⟨#[("abcdefgh" : Str).cps.toList.getD k 0]⟩ (1+(0+(k:Int)) % 2)
end Stc
namespace HT
open PySem PyProof.Rows
section
open PySem.SeqAt
open PySem.AutoSeq1 (wpAny_loadPart')
open PySem.MeetsSeq PySem.MeetsSeq2 PySem.MeetsSeq3
end
section
variable {prog:Program}{w:World}{A:Around}{E:Value->Shared->Prop}{s:Shared}
end
end HT
namespace D
open PySem PySem.Spec PyProof.Rows L2
section
variable {X:Cx}{K:PySem.W.Frag}
end
end D
namespace Stc
open PySem PySem.Spec PyProof.Rows L2 D Rc
noncomputable def exc (t:Int)(xs:List Int):Int:=(xs.map λ x=>if t < x then x - t else 0).sum
theorem rng0_at {n i:Nat}{w:W}(h:(rangeW 0 n)[i]? = some w):i < n/\w=.d (.int (i:Int)):=by
 obtain ⟨h1,h2⟩:=rng_at h
 rw [Int.zero_add] at h2
 exact ⟨h1,h2⟩
noncomputable def Dom (xs ys:List Int):Prop:=∀ t,0<=t->exc t xs<=exc t ys
theorem Dom.refl (xs:List Int):Dom xs xs:=λ _ _=>Int.le_refl _
theorem Dom.trans {xs ys zs:List Int}(h:Dom xs ys)(k:Dom ys zs):Dom xs zs:=λ t ht=>Int.le_trans (h t ht) (k t ht)
end Stc
namespace D
open PySem PySem.Spec PyProof.Rows L2
section
variable {X:Cx}{o:Expr}{to:TE}{p pos kpos kp:Pos}{j:Nat}
end
section
variable {X:Cx}{o:Expr}{td:TD}{p pos kpos kp:Pos}{j:Nat}
end
end D
namespace Q
open PySem PySem.Spec PyProof.Rows L2 D
section
variable {X:Cx}{o:Expr}{td:TD}{p pos kpos kp:Pos}{j:Nat}
end
end Q
namespace L2
open PySem PySem.Spec PyProof.Rows
section
variable {prog:Program}{w:World}{A:Around}{E:Value->Shared->Prop}{R:Result->Shared->Prop}{s:Shared}
end
section
variable {X:Cx}{pins:List (Addr×Obj)}{σ:St}{H:Hp}{s:Shared}{a:Addr}{u r:Value}{v:V}{A:Around}{E:Value->Shared->Prop}
end
noncomputable abbrev DcW:=Nat->Nat->St->Hp->Prop
section
variable {X:Cx}{pins:List (Addr×Obj)}{σ:St}{H:Hp}{s:Shared}{sc:Scope}{own:List Str}{fr:List Nat}{cl:List (Str×Addr)}{fp:List Addr}{it D:Addr}{J:It}{tn:Nat->Heap->Prop}{g:TG}{tt:TT}{tk tv:TE}{W:DcW}{Fin:Hp->Prop}
 {kx vx tg iter:Expr}{ifs:List Expr}{pos:Pos}{E:Value->Shared->Prop}
end
end L2
namespace D
open PySem PySem.Spec PyProof.Rows L2
section
variable {K:PySem.W.Frag}
variable {X:Cx}{sc:Scope}{own:List Str}{fr:List Nat}{di:TId}{g:TGd}{tt:TTd}{tk tv:TD}{tg iter kx vx:Expr}{ifs:List Expr}{pos:Pos}
end
end D
namespace Q
open PySem PySem.Spec PyProof.Rows L2 D
section
variable {X:Cx}{sc:Scope}{own:List Str}{fr:List Nat}{di:TId}{g:TGd}{tt:TTd}{tk tv:TD}{tg iter kx vx:Expr}{ifs:List Expr}{pos:Pos}
end
end Q
namespace L2
open PySem PySem.Spec PyProof.Rows
section
variable {X:Cx}{sc:Scope}{own:List Str}{fr:List Nat}{g:TG}{tt:TT}{tk tv:TE}{kx vx tg iter:Expr}{ifs:List Expr}{pos:Pos}
end
end L2
namespace D
open PySem PySem.Spec PyProof.Rows L2
section
variable {X:Cx}{sc:Scope}{own:List Str}{fr:List Nat}{di:TId}{g:TGd}{tt:TTd}{tk tv:TD}{tg iter kx vx:Expr}{ifs:List Expr}{pos:Pos}
end
end D
namespace Q
open PySem PySem.Spec PyProof.Rows L2 D
section
variable {X:Cx}{sc:Scope}{own:List Str}{fr:List Nat}{di:TId}{g:TGd}{tt:TTd}{tk tv:TD}{tg iter kx vx:Expr}{ifs:List Expr}{pos:Pos}
end
end Q
namespace D
open PySem PySem.Spec PyProof.Rows L2
section
variable {X:Cx}{C:Addr}{o value:Expr}{fn:Str}{pos tpos:Pos}{td tv:TD}
end
end D
namespace Q
open PySem PySem.Spec PyProof.Rows L2 D
section
variable {X:Cx}{C:Addr}{o value:Expr}{fn:Str}{pos tpos:Pos}{td tv:TD}
end
end Q
namespace D
open PySem PySem.Spec PyProof.Rows L2
section
variable {X:Cx}{tg o:Expr}{apos cpos:Pos}{td:TE}
end
section
variable {X:Cx}{K:PySem.W.Frag}{tg o:Expr}{apos cpos:Pos}{td:TD}
end
end D
namespace Q
open PySem PySem.Spec PyProof.Rows L2 D
section
variable {X:Cx}{tg o:Expr}{apos cpos:Pos}{td:TD}
end
end Q
namespace D
open PySem PySem.Spec PyProof.Rows L2
section
variable {X:Cx}{K:PySem.W.Frag}
end
end D
namespace D
open PySem PySem.Spec PyProof.Rows L2
section
variable {X:Cx}{o:Expr}{to:TE}{apos cpos p pos:Pos}
end
section
variable {X:Cx}{o:Expr}{td:TD}{apos cpos p pos:Pos}
namespace Q
end Q
end
end D
namespace PySem
namespace Dp
theorem keys_none:typeLookup (.type "list") "keys" = pure none:=am_miss_of_fast (by decide +kernel)
theorem entry_upd:entryFor table "dict.update.loop" = some Builtin.«dict.update.loop»:=entryFor_of_tree (by kernel_rfl)
theorem plain_upd:plainId "dict.update.loop" = true:=by decide +kernel
section
variable {prog:Program}{w:World}{A:Around}{E:Value->Shared->Prop}{s:Shared}
set_option maxHeartbeats 1600000 in
theorem getAttrQ_keys {a:Addr}{xs:Array Value}{k:Nat}{sl:Array (Option Value)}{Q:Option Value->Shared->Prop}
  (hx:s.heap.get? a=some { cls:=.type "list",dict:=none,data:=.seq xs k,slots:=sl })(hA:A.handled=none)
  (h:∀ h' tk,(∀ b ob,s.heap.get? b=some ob->h'.get? b=some ob)->Q none { s with heap:=h',toks:=tk }) :
  wpAny (model prog w) A (getAttr? (.ref a) "keys") Q E s:=by
 obtain ⟨hp,g,d,tk,os⟩:=s
 have hT:∀ tk',(⟨hp,g,d,tk',os⟩:Shared).TypeIs (.ref a) "list" := λ _=>⟨_,hx,rfl⟩
 have f1:=sub_AttributeError
 have f3:=F.slot_list_getattribute.lookup
 have f4:=F.slot_list_getattribute.bind (.ref a)
 have f5:=am_list_getattr_none
 have hsz:("keys" : Str).length+100<=sizeLine:=by size_fits
 have hname:(["__module__", "__name__", "__qualname__", "__doc__", "__annotations__"]:List Str).contains "keys" = false:=by decide +kernel
 unfold getAttr? getAttrBy? getAttrBy
 repeat (any_goals (first | assumption | exact hT _ | ((with_reducible show wpAny _ _ (call (Value.builtin "list.__getattribute__") _ _) _ _ _); refine call_meets F.slot_list_getattribute (hT _) am_entry_list_getattribute (F.args_list_getattribute_2 _ _) (meets_getattribute_miss_list a xs k sl "keys" _ keys_none hname hsz) ⟨hx,hA,λ h' tk' e hx'=>?_⟩) | wp_step))
 obtain ⟨t',u',he⟩:=hx'.there
 show wpAny _ _ (getattributeRaised _ _ _ _ _ _ _) _ _ _
 unfold getattributeRaised
 repeat (any_goals (first | assumption | wp_step))
 exact h _ _ hx'.keeps
variable {K:Type}[DecidableEq K]{knd:KeyKind prog w K}
theorem loop {I D l:Addr}{items:Array Value}{kvs:List (K×Value)}{R:Result->Shared->Prop}{h0:Heap}(hh:A.handled=none)(hDI:D≠I)(hDl:D≠l)(hlI:l≠I)(hsz:kvs.length<=sizeLine)(hlen:items.size=kvs.length)
  (ht:∀ i (hi:i < kvs.length),∃ a key k dct sl,items[i]? = some (.ref a)/\a≠D/\a≠I/\knd.is kvs[i].1 key=true/\h0.get? a=some { cls:=.type "tuple",dict:=dct,data:=.seq #[key,kvs[i].2] k,slots:=sl }) :
  ∀ (j i:Nat) (s:Shared),kvs.length - i=j->i<=kvs.length->s.heap.IsListIter I l i->s.heap.IsList l items->s.heap.DictOf knd D (merged [] (kvs.take i))->(∀ b o,b≠D->b≠I->h0.get? b=some o->s.heap.get? b=some o) ->
   (∀ h' tk,h'.DictOf knd D (merged [] kvs)->(∀ b o,b≠D->b≠I->h0.get? b=some o->h'.get? b=some o)->R (.ok (.ret .none)) { s with heap:=h',toks:=tk }) ->
   codeAny (model prog w) A (.builtin "dict.update.loop" ⟨[.ref D,.ref I,rawInt i,.none],[]⟩) R s:=by
 intro j
 induction j with
 | zero =>
  intro i s hj hi hit hl hd hk hR
  have hin:i=kvs.length:=by omega
  subst hin
  refine codeAny_builtin entry_upd ?_
  rw [Around.under_plainId plain_upd _]
  show wpAny _ A.in1 (pyNext (.ref I) >>= _) _ _ s
  refine wpAny_bind (wpAny_pyNext_list_end (by simpa using hh) hit hl (by simp [hlen]) λ h' he'=>?_)
  show wpAny _ A.in1 (Builtin.Dict.addKeywords D [] >>= _) _ _ _
  refine wpAny_bind (wpAny_pure (wpAny_pure ?_))
  rw [List.take_length] at hd
  refine hR h' s.toks ?_ λ b o b1 b2 e=>he' b o b2 (hk b o b1 b2 e)
  obtain ⟨o,es,ep,ho,rest⟩:=hd
  exact ⟨o,es,ep,he' D o hDI ho,rest⟩
 | succ j ih =>
  intro i s hj hi hit hl hd hk hR
  have hlt:i < kvs.length:=by omega
  obtain ⟨a,key,k,dct,sl,e1,a1,a2,hkey,e2⟩:=ht i hlt
  refine codeAny_builtin entry_upd ?_
  rw [Around.under_plainId plain_upd _]
  show wpAny _ A.in1 (pyNext (.ref I) >>= _) _ _ s
  refine wpAny_bind (wpAny_pyNext_list_item hit hl e1 λ h' hit' hs'=>?_)
  have e3:h'.get? a=some { cls:=.type "tuple",dict:=dct,data:=.seq #[key,kvs[i].2] k,slots:=sl }:=hs'.extBut a _ a2 (hk a _ a1 a2 e2)
  have hT:Shared.TypeIs { s with heap:=h' } (.ref a) "tuple" := ⟨_,e3,rfl⟩
  have hd':h'.DictOf knd D (merged [] (kvs.take i)):=by
   obtain ⟨o,es,ep,ho,rest⟩:=hd
   exact ⟨o,es,ep,hs'.extBut D o hDI ho,rest⟩
  have hl':h'.IsList l items:=hl.extBut hs'.extBut hlI
  show wpAny _ A.in1 (holding [Value.ref a] _ >>= _) _ _ _
  refine wpAny_bind (wpAny_holding ?_)
  refine wpAny_bind (m:=tryCatch (Builtin.Dict.pairItems (.ref a)) _) (wpAny_tryCatch ?_)
  unfold Builtin.Dict.pairItems
  refine wpAny_bind (wpAny_typeOf hT ?_)
  rw [if_pos (by decide)]
  unfold seqItems?
  obtain ⟨hp,g,d,tk,os⟩:=s
  generalize hDS:dictSet=DS
  repeat (any_goals (first | assumption | wp_step))
  subst hDS
  have hl2:(merged [] (kvs.take i)).length<=sizeLine:=by have:=merged_length_le [] (kvs.take i); simp at this; omega
  refine wpAny_dictSet_pairs (hsz:=hl2) hkey hd' λ h2 hd2 hs2=>?_
  refine wpAny_pure ⟨plainId_quiet plain_upd _,ih (i+1) _ (by omega) hlt ?_ ?_ ?_ ?_ ?_⟩
  ·exact hit'.at λ o e=>hs2.extBut I o (Ne.symm hDI) e
  ·exact hl'.extBut hs2.extBut (Ne.symm hDl)
  ·rw [merged_take_succ [] kvs i kvs[i] (List.getElem?_eq_getElem hlt)]
   exact hd2
  ·exact λ b o b1 b2 e=>hs2.extBut b o b1 (hs'.extBut b o b2 (hk b o b1 b2 e))
  ·exact λ h' tk d k=>hR h' tk d k
set_option maxHeartbeats 1600000 in
theorem call_dict_pairs {l:Addr}{items:Array Value}{kk:Nat}{sl0:Array (Option Value)}{kvs:List (K×Value)}{Q:Value->Shared->Prop}(hh:A.handled=none)(hsz:kvs.length<=sizeLine)(hlen:items.size=kvs.length)
  (hl:s.heap.get? l=some { cls:=.type "list",dict:=none,data:=.seq items kk,slots:=sl0 })
  (ht:∀ i (hi:i < kvs.length),∃ a key k dct sl,items[i]? = some (.ref a)/\knd.is kvs[i].1 key=true/\s.heap.get? a=some { cls:=.type "tuple",dict:=dct,data:=.seq #[key,kvs[i].2] k,slots:=sl })
  (h:∀ h' tk,h'.DictOf knd s.heap.objs.size (merged [] kvs)->(∀ b o,s.heap.get? b=some o->h'.get? b=some o)->Q (.ref s.heap.objs.size) { s with heap:=h',toks:=tk }) :
  wpAny (model prog w) A (call (.type "dict") [.ref l]) Q E s:=by
 refine callType_codes (Q₁:=λ obj s₁=>obj=.ref s.heap.objs.size/\s₁={ s with heap:=s.heap.push { cls:=.type "dict",data:=.dict #[] } }) F.kt_called_dict (F.kt_typeCall_dict_1 _) F.entry_dict_init (kt_code_dict_new _ ⟨rfl,rfl⟩) ?_
 rintro obj s₁ ⟨rfl,rfl⟩
 have hnew:(s.heap.push { cls:=.type "dict",data:=.dict #[] }).DictOf knd s.heap.objs.size []:=Heap.DictOf.new s.heap
 have hl1:(s.heap.push { cls:=.type "dict",data:=.dict #[] }).get? l=some { cls:=.type "list",dict:=none,data:=.seq items kk,slots:=sl0 }:=Heap.get?_push_of_some _ hl
 have hT:Shared.TypeIs { s with heap:=s.heap.push { cls:=.type "dict",data:=.dict #[] } } (.ref l) "list" := ⟨_,hl1,rfl⟩
 refine ⟨hnew.typeIs,F.args_dict_init_2 _ _,?_⟩
 unfold Builtin.«dict.__init__»
 refine wpAny_bind ?_
 unfold Builtin.Dict.selfAndRest
 refine wpAny_bind (wpAny_notOrdered_dict hnew.typeIs ?_)
 show wpAny _ _ (pure (s.heap.objs.size,[Value.ref l])) _ _ _
 refine wpAny_pure ?_
 show wpAny _ _ (Builtin.Dict.updateFrom "dict.__init__" s.heap.objs.size (.ref l) [] .none) _ _ _
 unfold Builtin.Dict.updateFrom
 refine wpAny_bind (wpAny_typeOf hT ?_)
 rw [if_pos (by decide)]
 refine wpAny_bind (getAttrQ_keys hl1 (by simpa using hh) λ h2 tk2 k2=>?_)
 rw [if_pos (by rfl)]
 have hl2:h2.get? l=some { cls:=.type "list",dict:=none,data:=.seq items kk,slots:=sl0 }:=k2 _ _ hl1
 have il2:h2.IsList l items:=⟨_,hl2,rfl,kk,rfl⟩
 refine wpAny_bind (wpAny_rule (wpAny_bind (wpAny_pyIter_list il2 ?_)))
 have z:s.heap.objs.size < h2.objs.size:=by
  obtain ⟨o,_,_,ho,_⟩:=hnew
  exact Heap.lt_size (k2 _ _ ho)
 have zl:l < s.heap.objs.size:=Heap.lt_size hl
 have d2:h2.DictOf knd s.heap.objs.size []:=by
  obtain ⟨o,es,ep,ho,rest⟩:=hnew
  exact ⟨o,es,ep,k2 _ _ ho,rest⟩
 refine wpAny_pure ⟨plainId_quiet plain_upd _,loop (knd:=knd) (h0:=h2) (by simpa using hh) (Nat.ne_of_lt z) (Ne.symm (Nat.ne_of_lt zl)) (Nat.ne_of_lt (Nat.lt_trans zl z)) hsz hlen (λ i hi=>?_) kvs.length 0 _ (by omega) (Nat.zero_le _) ⟨_,Heap.get?_push_size _ rfl,rfl,rfl⟩ (il2.push _) ?_ (λ b o _ _ e=>Heap.get?_push_of_some _ e) λ h' tk dd keep=>?_⟩
 ·obtain ⟨a,key,k,dct,sl,e1,hk,e2⟩:=ht i hi
  have za:a < s.heap.objs.size:=Heap.lt_size e2
  exact ⟨a,key,k,dct,sl,e1,Nat.ne_of_lt za,Nat.ne_of_lt (Nat.lt_trans za z),hk,k2 _ _ (Heap.get?_push_of_some _ e2)⟩
 ·exact d2.push _
 ·refine ⟨rfl,h h' tk dd λ b o e=>?_⟩
  have zb:b < s.heap.objs.size:=Heap.lt_size e
  exact keep b o (Nat.ne_of_lt zb) (Nat.ne_of_lt (Nat.lt_trans zb z)) (k2 _ _ (Heap.get?_push_of_some _ e))
end
end Dp
end PySem
namespace D
open PySem PySem.Spec PyProof.Rows L2
section
variable {X:Cx}{K:PySem.W.Frag}
theorem pairs_at {pins:List (Addr×Obj)}{σ:St}{H:Hp}{s:Shared}(I:Inv X pins σ H s):∀ {kvs:List (Key×V)} {vs:List V} {its:List Value},Paired (λ (v:V) (kv:Key×V)=>∃ a,v=.ref a/\SqT X.K H a [kV kv.1,kv.2]) vs kvs->Vals vs its ->
  ∃ ks:List (Key×Value),KV kvs ks/\its.length=ks.length/\∀ i (hi:i < ks.length),∃ a key k dct sl,its[i]? = some (.ref a)/\(mixKind X.prog X.w).is ks[i].1 key=true/\s.heap.get? a=some { cls:=.type "tuple",dict:=dct,data:=.seq #[key,ks[i].2] k,slots:=sl }
 | _,_,_,.nil,.nil=>⟨[],.nil,rfl,λ i hi=>by simp at hi⟩
 | _,_,_,.cons (b:=b) ⟨a,ea,hq⟩ t,.cons r1 r2=>by
  obtain ⟨ks,h1,h2,h3⟩:=pairs_at I t r2
  subst ea
  cases r1
  obtain ⟨its,rv,⟨o,e1,e2,n,e3⟩,_⟩:=I.tuple hq
  obtain ⟨c,dct,dat,sl⟩:=o
  simp only at e2 e3
  subst e2 e3
  cases rv with
  | @cons _ u1 _ _ q1 rv1 =>
  cases rv1 with
  | @cons _ u2 _ _ q2 rv2 =>
  cases rv2
  refine ⟨(b.1,u2) :: ks,.cons ⟨rfl,q2⟩ h1,by simp [h2],λ i hi=>?_⟩
  cases i with
  | zero=>exact ⟨a,u1,n,dct,sl,rfl,kV_is q1,e1⟩
  | succ i =>
   have hi':i < ks.length:=by simpa using hi
   obtain ⟨a',key,k',dct',sl',z1,z2,z3⟩:=h3 i hi'
   exact ⟨a',key,k',dct',sl',by simpa using z1,z2,z3⟩
theorem kv_keys:∀ {kvs:List (Key×V)} {ks:List (Key×Value)},KV kvs ks->ks.map (·.1)=kvs.map (·.1)
 | _,_,.nil=>rfl
 | _,_,.cons r t=>by
  rw [List.map_cons,List.map_cons,kv_keys t,r.1]
theorem call_dictPs (hc:X.calm=true):CallR X (.type "dict") (λ xs H Q=>∃ p vs,∃ kvs:List (Key×V),xs=[.ref p]/\SqL X.K H p vs/\Paired (λ (v:V) (kv:Key×V)=>∃ a,v=.ref a/\SqT X.K H a [kV kv.1,kv.2]) vs kvs/\(kvs.map (·.1)).Nodup/\∀ l,H l=none->Q (.ref l) (upd H l (.dK kvs))):=by
 intro pins s σ H xs us Q I r h
 obtain ⟨p,vs,kvs,rfl,hq,pr,nd,q⟩:=h
 obtain ⟨u,rfl,rx⟩:=vals1 r
 cases rx
 obtain ⟨its,rv,⟨o,n,e0,e1,e2,e3⟩,hz⟩:=I.list hq
 obtain ⟨c,dct,dat,sl⟩:=o
 simp only at e1 e2 e3
 subst e1 e2 e3
 obtain ⟨ks,rel,hl,hk⟩:=pairs_at I pr rv
 have hz2:ks.length<=sizeLine:=by rw [<- hl]; have:=rv.length; omega
 have nd2:(ks.map (·.1)).Nodup:=by rw [kv_keys rel]; exact nd
 refine Dp.call_dict_pairs (knd:=mixKind X.prog X.w) (I.ok.hd hc) hz2 (by simpa using hl) e0 (λ i hi=>?_) λ h' tk dd keep=>?_
 ·obtain ⟨a,key,k,dct,sl,z1,z2,z3⟩:=hk i hi
  exact ⟨a,key,k,dct,sl,by simpa using z1,z2,z3⟩
 ·rw [merged_nil_of_nodup ks nd2] at dd
  exact ⟨.ref _,_,I.laid (a:=s.heap.objs.size) (o:=.dK kvs) (t':=tk) keep (Nat.le_refl _) (dk_new (by rw [rel.length]; exact hz2) (beq_eq_false_iff_ne.mpr (Ne.symm (Nat.ne_of_lt I.big))) rel dd),rfl,q _ (I.hok.fresh (Nat.le_refl _))⟩
noncomputable def pairD (p:Key×PyData):PyData:=.tuple [keyD p.1,p.2]
noncomputable def rdDictPs (ws:List W)(M:MH)(Q:QD):Prop:=∃ w,∃ kds:List (Key×PyData),ws=[w]/\LstW M w (kds.map pairD)/\(kds.map (·.1)).Nodup/\∀ p,M p=none->Q (.m p) (updM M p (.dic (dataKV kds)))
theorem repA_pairs {H:Hp}:∀ {kds:List (Key×PyData)} {ys:List V},RepA K H (kds.map pairD) ys->∃ kvs:List (Key×V),Paired (λ (v:V) (kv:Key×V)=>∃ a,v=.ref a/\SqT K H a [kV kv.1,kv.2]) ys kvs/\Paired (λ (p:Key×W) (q:Key×V)=>p.1=q.1/\RepW K H p.2 q.2) (dataKV kds) kvs
 | [],ys,h=>by
  have e:ys=[]:=by simpa [RepA] using h
  subst e
  exact ⟨[],.nil,.nil⟩
 | kd :: kds,ys,h=>by
  simp only [List.map_cons,pairD,RepA,RepD] at h
  obtain ⟨v,ys,rfl,⟨a,zs,ev,hq,v1,zs1,e1,rk,v2,zs2,e2,rx,e3⟩,rest⟩:=h
  obtain ⟨kvs,h1,h2⟩:=repA_pairs rest
  have ek:=key_rep rk
  subst e1 e2 e3 ek ev
  exact ⟨(kd.1,v2) :: kvs,.cons ⟨a,rfl,hq⟩ h1,.cons ⟨rfl,rx⟩ h2⟩
theorem pr_keys {H:Hp}:∀ {kds:List (Key×PyData)} {kvs:List (Key×V)},Paired (λ (p:Key×W) (q:Key×V)=>p.1=q.1/\RepW K H p.2 q.2) (dataKV kds) kvs->kvs.map (·.1)=kds.map (·.1)
 | [],_,.nil=>rfl
 | kd :: kds,_,.cons r t=>by rw [List.map_cons,List.map_cons,pr_keys t,<- r.1]
theorem cd_dictPs:CallD K (λ xs H Q=>∃ p vs,∃ kvs:List (Key×V),xs=[.ref p]/\SqL K H p vs/\Paired (λ (v:V) (kv:Key×V)=>∃ a,v=.ref a/\SqT K H a [kV kv.1,kv.2]) vs kvs/\(kvs.map (·.1)).Nodup/\∀ l,H l=none->Q (.ref l) (upd H l (.dK kvs))) rdDictPs:=by
 intro vs H ws M Qd Q r m ⟨w,kds,e,g,nd,q⟩ k
 subst e
 obtain ⟨v,e1,r1⟩:=repWs1 r
 obtain ⟨p,ys,ev,hs,ra⟩:=g.sound r1 m
 subst ev
 obtain ⟨kvs,h1,h2⟩:=repA_pairs ra
 refine ⟨p,ys,kvs,e1,hs,h1,by rw [pr_keys h2]; exact nd,λ l hl=>?_⟩
 have kp:Kp H (upd H l (.dK kvs)):=Kp.new hl
 exact k _ _ (.m l) _ kp rfl (m.put (mo:=.dic (dataKV kds)) kp ⟨kvs,upd_same,Paired.mapP h2 λ p q z=>⟨z.1,z.2.keep kp⟩⟩) (q l (m.free hl))
end
end D
namespace Stc
open PySem PySem.Spec PyProof.Rows L2 D Rc
end Stc
namespace D
open PySem PySem.Spec PyProof.Rows L2
section
variable {X:Cx}{K:PySem.W.Frag}
theorem Abs.back {H:Hp}{σ:St}{τ:DS}{M:MH}{a:Addr}{o:Obj}{l:List (Key×V)}{kvs:List (Key×W)}(h:H a=some (.frz o (.frz o (.dK l))))(A:Abs K H σ τ M)(e:M a=some (.fdic kvs)):Abs K (upd H a (.dK l)) σ τ (updM M a (.dic kvs)) :=
 ⟨A.len,λ i w q=>let ⟨v,q1,r⟩:=A.val i w q; ⟨v,q1,RepW.back h r⟩,MAbs.back h A.mem e⟩
end
namespace Q
section
variable {X:Cx}{pos:Pos}
end
end Q
end D
namespace S
open PySem PySem.W PyProof.Rows
section
variable {N:Nat}
end
end S
namespace D
open PySem PySem.Spec PyProof.Rows L2 S
section
variable {X:Cx}{K:PySem.W.Frag}
end
end D
namespace D
open PySem PySem.Spec PyProof.Rows L2
mutual
noncomputable def RepN (K:PySem.W.Frag)(H:Hp):PyData->V->Prop
 | .list ds,x=>RepD K H (.list ds) x\/∃ a vs,x=.ref a/\H a=some (.lst vs)/\RepNs K H ds vs
 | .tuple ds,x=>∃ a vs,x=.ref a/\SqT K H a vs/\RepNs K H ds vs
 | .none,x=>RepD K H .none x
 | .bool b,x=>RepD K H (.bool b) x
 | .int i,x=>RepD K H (.int i) x
 | .str z,x=>RepD K H (.str z) x
 | .dict kvs,x=>RepD K H (.dict kvs) x
noncomputable def RepNs (K:PySem.W.Frag)(H:Hp):List PyData->List V->Prop
 | [],l=>l=[]
 | d :: ds,l=>∃ v r,l=v :: r/\RepN K H d v/\RepNs K H ds r
end
mutual
theorem RepN.of {K:PySem.W.Frag}{H:Hp}:∀ {d:PyData} {x:V},RepD K H d x->RepN K H d x
 | .list ds,x,h=>by unfold RepN; exact .inl h
 | .tuple ds,x,h=>by
  unfold RepN
  simp only [RepD] at h
  obtain ⟨a,vs,e,s,r⟩:=h
  exact ⟨a,vs,e,s,RepNs.of r⟩
 | .none,x,h=>by unfold RepN; exact h
 | .bool b,x,h=>by unfold RepN; exact h
 | .int i,x,h=>by unfold RepN; exact h
 | .str z,x,h=>by unfold RepN; exact h
 | .dict kvs,x,h=>by unfold RepN; exact h
theorem RepNs.of {K:PySem.W.Frag}{H:Hp}:∀ {ds:List PyData} {xs:List V},RepA K H ds xs->RepNs K H ds xs
 | [],xs,h=>by unfold RepNs; simpa [RepA] using h
 | d :: ds,xs,h=>by
  unfold RepNs
  simp only [RepA] at h
  obtain ⟨v,r,e,h1,h2⟩:=h
  exact ⟨v,r,e,RepN.of h1,RepNs.of h2⟩
end
noncomputable def Tw (H H':Hp):Prop:=Kp H H'/\∀ b vs,H b=some (.lst vs)->H' b=some (.lst vs)\/∃ o,H' b=some (.frz o (.lst vs))
theorem Tw.refl (H:Hp):Tw H H:=⟨Kp.refl H,λ _ _ e=>.inl e⟩
theorem Tw.trans {A B C:Hp}(h:Tw A B)(k:Tw B C):Tw A C:=⟨h.1.trans k.1,λ b vs e=>by
 rcases h.2 b vs e with q | ⟨o,q⟩
 ·exact k.2 b vs q
 ·exact .inr ⟨o,k.1.frz b o _ q⟩⟩
section
variable {X:Cx}{pins:List (Addr×Obj)}{σ:St}{s:Shared}
mutual
theorem thawN:∀ {d:PyData} {x:V} {H0 H:Hp},Tw H0 H->Inv X pins σ H s->RepN X.K H0 d x->∃ H',Tw H H'/\Inv X pins σ H' s/\RepD X.K H' d x
 | .list ds,x,H0,H,t,I,h=>by
  unfold RepN at h
  rcases h with h | ⟨a,vs,rfl,e,r⟩
  ·exact ⟨H,Tw.refl H,I,h.keep t.1⟩
  ·obtain ⟨H1,t1,I1,r1⟩:=thawNs t I r
   rcases (t.trans t1).2 a vs e with q | ⟨o,q⟩
   ·obtain ⟨o,I2⟩:=I1.freeze q trivial
    have kp:Kp H1 (upd H1 a (.frz o (.lst vs))):=Kp.set q (λ _ z=>nomatch z) (λ _ _ z=>nomatch z)
    refine ⟨_,t1.trans ⟨kp,λ b ws eb=>?_⟩,I2,?_⟩
    ·by_cases hb:b=a
     ·subst hb
      rw [q] at eb
      cases eb
      exact .inr ⟨o,upd_same⟩
     ·exact .inl (by rw [upd_ne hb]; exact eb)
    ·simp only [RepD]
     exact ⟨a,vs,rfl,.inl ⟨o,upd_same⟩,r1.keep kp⟩
   ·refine ⟨H1,t1,I1,?_⟩
    simp only [RepD]
    exact ⟨a,vs,rfl,.inl ⟨o,q⟩,r1⟩
 | .tuple ds,x,H0,H,t,I,h=>by
  unfold RepN at h
  obtain ⟨a,vs,rfl,e,r⟩:=h
  obtain ⟨H1,t1,I1,r1⟩:=thawNs t I r
  refine ⟨H1,t1,I1,?_⟩
  simp only [RepD]
  exact ⟨a,vs,rfl,SqT.keep (t.trans t1).1 e,r1⟩
 | .none,x,H0,H,t,I,h=>by unfold RepN at h; exact ⟨H,Tw.refl H,I,h.keep t.1⟩
 | .bool b,x,H0,H,t,I,h=>by unfold RepN at h; exact ⟨H,Tw.refl H,I,h.keep t.1⟩
 | .int i,x,H0,H,t,I,h=>by unfold RepN at h; exact ⟨H,Tw.refl H,I,h.keep t.1⟩
 | .str z,x,H0,H,t,I,h=>by unfold RepN at h; exact ⟨H,Tw.refl H,I,h.keep t.1⟩
 | .dict kvs,x,H0,H,t,I,h=>by unfold RepN at h; exact ⟨H,Tw.refl H,I,h.keep t.1⟩
theorem thawNs:∀ {ds:List PyData} {xs:List V} {H0 H:Hp},Tw H0 H->Inv X pins σ H s->RepNs X.K H0 ds xs->∃ H',Tw H H'/\Inv X pins σ H' s/\RepA X.K H' ds xs
 | [],xs,H0,H,t,I,h=>by unfold RepNs at h; exact ⟨H,Tw.refl H,I,by simpa [RepA] using h⟩
 | d :: ds,xs,H0,H,t,I,h=>by
  unfold RepNs at h
  obtain ⟨v,r,rfl,h1,h2⟩:=h
  obtain ⟨H1,t1,I1,r1⟩:=thawN t I h1
  obtain ⟨H2,t2,I2,r2⟩:=thawNs (t.trans t1) I1 h2
  refine ⟨H2,t1.trans t2,I2,?_⟩
  simp only [RepA]
  exact ⟨v,r,rfl,r1.keep t2.1,r2⟩
end
end
end D
namespace D
open PySem PySem.Spec PyProof.Rows L2
section
variable {X:Cx}{pins:List (Addr×Obj)}{σ:St}{H:Hp}{s:Shared}
theorem readsN_of (I:Inv X pins σ H s)(d:PyData){x:V}{u:Value}(h:RepN X.K H d x)(r:RelV x u)(hd:d.hasDict=false):∃ as,Reads s.heap u d as:=by
 obtain ⟨H',_,I',h'⟩:=thawN (Tw.refl H) I h
 exact reads_of I' d h' r hd
end
section
variable {X:Cx}
noncomputable def okN (d d':PyData):Bool:=eqOk d && eqOk d'
theorem op_eqN {k:Nat}(hr:Room k X.A):OpR X (compareOp .Eq) (λ x y H Q=>∃ d d',RepN X.K H d x/\RepN X.K H d' y/\okN d d'=true/\Q (.bl (PyData.eqv d d')) H):=by
 intro pins s σ H x y v u Q I rx ry h
 obtain ⟨d,d',h1,h2,o,q⟩:=h
 simp only [okN,eqOk,Bool.and_eq_true,Bool.not_eq_true'] at o
 obtain ⟨as,r1⟩:=readsN_of I d h1 rx o.1.2
 obtain ⟨bs,r2⟩:=readsN_of I d' h2 ry o.2.2
 exact eq_dataH r1 r2 o.1.1 o.2.1 hr.units ⟨.bl _,H,I,rfl,q⟩
end
noncomputable def DatN (M:MH):Nat->W->PyData->Prop
 | 0,w,d=>w=.d d
 | n+1,w,d=>w=.d d\/(∃ a ws ds,w=.m a/\M a=some (.lst ws)/\d=.list ds/\Paired (DatN M n) ws ds)\/∃ a ws ds,w=.m a/\M a=some (.tup ws)/\d=.tuple ds/\Paired (DatN M n) ws ds
theorem DatN.d {M:MH}{x:PyData}:∀ {n:Nat},DatN M n (.d x) x
 | 0=>rfl
 | _+1=>.inl rfl
theorem DatN.l {M:MH}{n:Nat}{a:Addr}{ws:List W}{ds:List PyData}(h:M a=some (.lst ws))(r:Paired (DatN M n) ws ds):DatN M (n+1) (.m a) (.list ds):=.inr (.inl ⟨a,ws,ds,rfl,h,rfl,r⟩)
theorem DatN.t {M:MH}{n:Nat}{a:Addr}{ws:List W}{ds:List PyData}(h:M a=some (.tup ws))(r:Paired (DatN M n) ws ds):DatN M (n+1) (.m a) (.tuple ds):=.inr (.inr ⟨a,ws,ds,rfl,h,rfl,r⟩)
theorem DatN.ds {M:MH}{n:Nat}:∀ (ds:List PyData),Paired (DatN M n) (ds.map W.d) ds
 | []=>.nil
 | _ :: ds=>.cons DatN.d (DatN.ds ds)
theorem repNs_of {K:PySem.W.Frag}{H:Hp}{M:MH}{n:Nat}(h:∀ w d x,DatN M n w d->RepW K H w x->RepN K H d x):∀ {ws:List W} {ds:List PyData} {vs:List V},Paired (DatN M n) ws ds->RepWs K H ws vs->RepNs K H ds vs
 | _,_,_,.nil,.nil=>by unfold RepNs; rfl
 | _,_,_,.cons a b,.cons c e=>by
  unfold RepNs
  exact ⟨_,_,rfl,h _ _ _ a c,repNs_of h b e⟩
theorem DatN.sound {K:PySem.W.Frag}{H:Hp}{M:MH}(m:MAbs K H M):∀ (n:Nat) (w:W) (d:PyData) (x:V),DatN M n w d->RepW K H w x->RepN K H d x
 | 0,w,d,x,g,r=>by
  have g':w=.d d:=g
  subst g'
  exact RepN.of r
 | n+1,w,d,x,g,r=>by
  rcases g with g | ⟨a,ws,ds,rfl,h,rfl,p⟩ | ⟨a,ws,ds,rfl,h,rfl,p⟩
  ·subst g
   exact RepN.of r
  ·obtain ⟨vs,e,rw⟩:=m _ _ h
   unfold RepN
   exact .inr ⟨a,vs,r,e,repNs_of (DatN.sound m n) p rw⟩
  ·obtain ⟨vs,e,rw⟩:=m _ _ h
   unfold RepN
   exact ⟨a,vs,r,.inl (.inl e),repNs_of (DatN.sound m n) p rw⟩
section
variable {X:Cx}{K:PySem.W.Frag}
noncomputable def rdEqN (w w':W)(M:MH)(Q:QD):Prop:=∃ d d' n,DatN M n w d/\DatN M n w' d'/\okN d d'=true/\Q (.d (.bool (PyData.eqv d d'))) M
theorem opd_eqN:OpD K (λ x y H Q=>∃ d d',RepN K H d x/\RepN K H d' y/\okN d d'=true/\Q (.bl (PyData.eqv d d')) H) rdEqN:=by
 intro x y H w w' M Qd Q r1 r2 m ⟨d,d',n,g1,g2,o1,q⟩ k
 exact ⟨d,d',DatN.sound m n w d x g1 r1,DatN.sound m n w' d' y g2 r2,o1,k _ H (.d (.bool _)) M (Kp.refl H) (by simp [RepW,RepD]) m q⟩
end
end D
namespace D
open PySem PySem.Spec PyProof.Rows L2
section
variable {X:Cx}{pins:List (Addr×Obj)}{σ:St}{H H0:Hp}{s s0:Shared}
theorem base_ofL {a:Addr}{l:List V}(I:Inv X pins σ H s)(h:H a=some (.lst l)):(∀ xs,X.H₀ a≠some (.tup xs))/\(∀ o v,X.H₀ a≠some (.frz o v))/\∀ ps,X.H₀ a≠some (.tbl ps):=by
 refine ⟨λ xs e=>?_,λ o v e=>?_,λ ps e=>?_⟩
 ·have:=I.base.tups a xs e; rw [h] at this; cases this
 ·have:=I.base.frzs a o v e; rw [h] at this; cases this
 ·obtain ⟨m,this⟩:=I.base.tbls a ps e; rw [h] at this; cases this
theorem Inv.stillL {a:Addr}{l:List V}(I:Inv X pins σ H s)(h:H a=some (.lst l)):∃ o,Inv X pins σ (upd H a (.frz o (.frz o (.lst l)))) s:=by
 have f:Fz (.lst l):=trivial
 obtain ⟨o,ho⟩:=(I.hok a _ h).obj f
 obtain ⟨b1,b2,b3⟩:=base_ofL I h
 exact ⟨o,Inv.swap I h (λ _ z=>nomatch z) (λ _ z=>nomatch z) b1 b2 b3 ⟨ho,ho,(I.hok a _ h).anyH f⟩⟩
theorem Inv.againL {σ0:St}{a:Addr}{o:Obj}{l:List V}(I0:Inv X pins σ0 H0 s0)(h0:H0 a=some (.lst l))(I:Inv X pins σ H s)(h:H a=some (.frz o (.frz o (.lst l)))):Inv X pins σ (upd H a (.lst l)) s:=by
 have f:Fz (.lst l):=trivial
 obtain ⟨b1,b2,b3⟩:=base_ofL I0 h0
 exact Inv.swap I h (λ _ z=>nomatch z) (λ _ z=>nomatch z) b1 b2 b3 ((I.hok a _ h).2.2.anyH f)
end
noncomputable def sStillL (t:TS):TS:=λ D σ H=>∃ a l,H a=some (.lst l)/\∀ o,t
 {nx:=λ σ' H'=>H' a=some (.frz o (.frz o (.lst l)))/\D.nx σ' (upd H' a (.lst l)),rt:=λ v H'=>H' a=some (.frz o (.frz o (.lst l)))/\D.rt v (upd H' a (.lst l)),
  bk:=λ σ' H'=>H' a=some (.frz o (.frz o (.lst l)))/\D.bk σ' (upd H' a (.lst l)),ct:=λ σ' H'=>H' a=some (.frz o (.frz o (.lst l)))/\D.ct σ' (upd H' a (.lst l)) } σ (upd H a (.frz o (.frz o (.lst l))))
theorem ps_stillL {X:Cx}{st:Stmt}{t:TS}(h:PS X st t):PS X st (sStillL t):=by
 intro pins s σ H D I ⟨a,l,ha,q⟩
 obtain ⟨o,I1⟩:=Inv.stillL I ha
 refine thn (h pins s σ _ _ I1 (q o)) λ f s1 hf=>?_
 cases f with
 | next=>obtain ⟨σ',H',I2,e,q2⟩:=hf; exact ⟨σ',_,Inv.againL I ha I2 e,q2⟩
 | brk=>obtain ⟨σ',H',I2,e,q2⟩:=hf; exact ⟨σ',_,Inv.againL I ha I2 e,q2⟩
 | cont=>obtain ⟨σ',H',I2,e,q2⟩:=hf; exact ⟨σ',_,Inv.againL I ha I2 e,q2⟩
 | ret u=>obtain ⟨v,σ',H',I2,r,e,q2⟩:=hf; exact ⟨v,σ',_,Inv.againL I ha I2 e,r,q2⟩
section
variable {K:PySem.W.Frag}{H:Hp}{a:Addr}{o:Obj}{l:List V}
theorem Kp.backL (h:H a=some (.frz o (.frz o (.lst l)))):(∀ b xs,H b=some (.tup xs)->upd H a (.lst l) b=some (.tup xs))/\(∀ b ob ys,H b=some (.frz ob (.lst ys))->upd H a (.lst l) b=some (.frz ob (.lst ys)))/\∀ b ob ys,H b=some (.frz ob (.dK ys))->upd H a (.lst l) b=some (.frz ob (.dK ys)):=by
 refine ⟨λ b xs e=>?_,λ b ob ys e=>?_,λ b ob ys e=>?_⟩ <;>
 ·rw [upd_ne (λ z=>by rw [z,h] at e; cases e)]; exact e
theorem SqT.backL {b:Addr}{vs:List V}(h:H a=some (.frz o (.frz o (.lst l))))(r:SqT K H b vs):SqT K (upd H a (.lst l)) b vs:=by
 rcases r with (r | ⟨ob,r⟩) | r
 ·exact .inl (.inl ((Kp.backL h).1 _ _ r))
 ·refine .inl (.inr ⟨ob,?_⟩)
  rw [upd_ne (λ z=>by rw [z,h] at r; cases r)]; exact r
 ·exact .inr r
theorem SqF.backL {b:Addr}{vs:List V}(h:H a=some (.frz o (.frz o (.lst l))))(r:SqF K H b vs):SqF K (upd H a (.lst l)) b vs:=by
 rcases r with ⟨ob,r⟩ | r
 ·exact .inl ⟨ob,(Kp.backL h).2.1 _ _ _ r⟩
 ·exact .inr r
mutual
theorem RepD.backL (h:H a=some (.frz o (.frz o (.lst l)))):∀ {d:PyData} {v:V},RepD K H d v->RepD K (upd H a (.lst l)) d v
 | .none,v,r=>by simp only [RepD] at r ⊢; exact r
 | .bool b,v,r=>by simp only [RepD] at r ⊢; exact r
 | .int i,v,r=>by simp only [RepD] at r ⊢; exact r
 | .str x,v,r=>by simp only [RepD] at r ⊢; exact r
 | .list ds,v,r=>by
  simp only [RepD] at r ⊢
  obtain ⟨b,vs,e,q,r⟩:=r
  exact ⟨b,vs,e,SqF.backL h q,RepA.backL h r⟩
 | .tuple ds,v,r=>by
  simp only [RepD] at r ⊢
  obtain ⟨b,vs,e,q,r⟩:=r
  exact ⟨b,vs,e,SqT.backL h q,RepA.backL h r⟩
 | .dict kvs,v,r=>by
  simp only [RepD] at r ⊢
  obtain ⟨b,ob,m,e,q,r⟩:=r
  exact ⟨b,ob,m,e,(Kp.backL h).2.2 _ _ _ q,RepK.backL h r⟩
theorem RepA.backL (h:H a=some (.frz o (.frz o (.lst l)))):∀ {ds:List PyData} {vs:List V},RepA K H ds vs->RepA K (upd H a (.lst l)) ds vs
 | [],vs,r=>by simp only [RepA] at r ⊢; exact r
 | d :: ds,vs,r=>by
  simp only [RepA] at r ⊢
  obtain ⟨v,q,e,h1,h2⟩:=r
  exact ⟨v,q,e,RepD.backL h h1,RepA.backL h h2⟩
theorem RepK.backL (h:H a=some (.frz o (.frz o (.lst l)))):∀ {ds:List (PyData×PyData)} {m:List (Key×V)},RepK K H ds m->RepK K (upd H a (.lst l)) ds m
 | [],m,r=>by simp only [RepK] at r ⊢; exact r
 | (key,d) :: ds,m,r=>by
  simp only [RepK] at r ⊢
  obtain ⟨k',v,q,e,ek,h1,h2⟩:=r
  exact ⟨k',v,q,e,ek,RepD.backL h h1,RepK.backL h h2⟩
end
theorem RepW.backL (h:H a=some (.frz o (.frz o (.lst l)))):∀ {w:W} {v:V},RepW K H w v->RepW K (upd H a (.lst l)) w v
 | .d _,_,r=>RepD.backL h r
 | .m _,_,r=>r
 | .t _,_,r=>r
theorem MAbs.backL {M:MH}{ws0:List W}(h:H a=some (.frz o (.frz o (.lst l))))(m:MAbs K H M)(e:M a=some (.flst ws0)):MAbs K (upd H a (.lst l)) (updM M a (.lst ws0)):=λ b mo q=>by
 by_cases hb:b=a
 ·subst hb
  rw [updM_same] at q
  cases q
  obtain ⟨o',l',e',pr⟩:=m _ _ e
  rw [h] at e'
  cases e'
  exact ⟨l,upd_same,Paired.mapP pr λ _ _ z=>RepW.backL h z⟩
 ·rw [updM_ne hb] at q
  have r:=m b mo q
  cases mo with
  | lst ws=>obtain ⟨vs,e,r⟩:=r; exact ⟨vs,by rw [upd_ne hb]; exact e,Paired.mapP r λ _ _ z=>RepW.backL h z⟩
  | dic kvs=>obtain ⟨l,e,r⟩:=r; exact ⟨l,by rw [upd_ne hb]; exact e,Paired.mapP r λ p q z=>⟨z.1,RepW.backL h z.2⟩⟩
  | dct kvs=>obtain ⟨l,e,r⟩:=r; exact ⟨l,by rw [upd_ne hb]; exact e,Paired.mapP r λ p q z=>⟨z.1,RepW.backL h z.2⟩⟩
  | fdic kvs=>obtain ⟨o,l,e,r⟩:=r; exact ⟨o,l,by rw [upd_ne hb]; exact e,Paired.mapP r λ p q z=>⟨z.1,RepW.backL h z.2⟩⟩
  | ins C fs=>obtain ⟨dx,l,e,r⟩:=r; exact ⟨dx,l,by rw [upd_ne hb]; exact e,Paired.mapP r λ p q z=>⟨z.1,RepW.backL h z.2⟩⟩
  | tup ws=>obtain ⟨vs,e,r⟩:=r; exact ⟨vs,by rw [upd_ne hb]; exact e,Paired.mapP r λ _ _ z=>RepW.backL h z⟩
  | flst ws=>obtain ⟨o,vs,e,r⟩:=r; exact ⟨o,vs,by rw [upd_ne hb]; exact e,Paired.mapP r λ _ _ z=>RepW.backL h z⟩
  | exc C fs =>
   obtain ⟨φ,dct,e,p,r⟩:=r
   refine ⟨φ,dct,by rw [upd_ne hb]; exact e,p,?_⟩
   rcases r with r | ⟨dx,o',l',e1,e2,r⟩
   ·exact .inl r
   ·exact .inr ⟨dx,o',l',e1,by rw [upd_ne (λ z=>by rw [z,h] at e2; cases e2)]; exact e2,Paired.mapP r λ p q z=>⟨z.1,RepW.backL h z.2⟩⟩
  | code q pos =>
   obtain ⟨ps,e,ht,hc⟩:=r
   refine ⟨ps,by rw [upd_ne hb]; exact e,ht,?_⟩
   rcases hc with hc | ⟨c,o',vs,t,e1,e2,e3⟩
   ·exact .inl hc
   ·exact .inr ⟨c,o',vs,t,e1,by rw [upd_ne (λ z=>by rw [z,h] at e2; cases e2)]; exact e2,e3⟩
theorem Abs.backL {σ:St}{τ:DS}{M:MH}{ws0:List W}(h:H a=some (.frz o (.frz o (.lst l))))(A:Abs K H σ τ M)(e:M a=some (.flst ws0)):Abs K (upd H a (.lst l)) σ τ (updM M a (.lst ws0)) :=
 ⟨A.len,λ i w q=>let ⟨v,q1,r⟩:=A.val i w q; ⟨v,q1,RepW.backL h r⟩,MAbs.backL h A.mem e⟩
end
theorem kp_backL {H H':Hp}{a:Addr}{o:Obj}{l:List V}(e:H a=some (.lst l))(kp':Kp (upd H a (.frz o (.frz o (.lst l)))) H'):Kp H (upd H' a (.lst l)):=⟨λ b xs z=>by
  have hb:b≠a:=λ y=>by rw [y,e] at z; cases z
  rw [upd_ne hb]
  exact kp'.tup b xs (by rw [upd_ne hb]; exact z),λ b ob u z=>by
  have hb:b≠a:=λ y=>by rw [y,e] at z; cases z
  rw [upd_ne hb]
  exact kp'.frz b ob u (by rw [upd_ne hb]; exact z)⟩
noncomputable def dStillLS (t:TSd)(D:Ed)(τ:DS)(M:MH):Prop:=∃ a ws,M a=some (.lst ws)/\t
 {nx:=λ τ' M'=>M' a=some (.flst ws)/\D.nx τ' (updM M' a (.lst ws)),rt:=λ w M'=>M' a=some (.flst ws)/\D.rt w (updM M' a (.lst ws)),
  bk:=λ τ' M'=>M' a=some (.flst ws)/\D.bk τ' (updM M' a (.lst ws)),ct:=λ τ' M'=>M' a=some (.flst ws)/\D.ct τ' (updM M' a (.lst ws)) } τ (updM M a (.flst ws))
theorem psd_stillL0 {X:Cx}{st:Stmt}{t:TSd}(h:PSd X st t):PSd X st (dStillLS t):=ps_w (ps_stillL h) λ D σ H hq69=>by
 obtain ⟨τ,M,Dd,A,⟨a,ws,hm,q⟩,k1,k2,k3,k4⟩:=hq69
 obtain ⟨l,e,pr⟩:=A.mem _ _ hm
 refine ⟨a,l,e,λ o=>?_⟩
 have kp:Kp H (upd H a (.frz o (.frz o (.lst l)))):=Kp.set e (λ _ z=>nomatch z) (λ _ _ z=>nomatch z)
 have m1:MAbs X.K (upd H a (.frz o (.frz o (.lst l)))) (updM M a (.flst ws)):=A.mem.put (mo:=.flst ws) kp ⟨o,l,upd_same,RepWs.keep kp pr⟩
 refine ⟨τ,_,_,A.go kp m1,q,?_,?_,?_,?_⟩
 ·rintro σ' H' τ' M' kp' A' ⟨h1,q1⟩
  have e':=kp'.frz a o _ upd_same
  exact ⟨e',k1 _ _ _ _ (kp_backL e kp') (Abs.backL e' A' h1) q1⟩
 ·rintro v H' w M' kp' r' m' ⟨h1,q1⟩
  have e':=kp'.frz a o _ upd_same
  exact ⟨e',k2 _ _ _ _ (kp_backL e kp') (RepW.backL e' r') (MAbs.backL e' m' h1) q1⟩
 ·rintro σ' H' τ' M' kp' A' ⟨h1,q1⟩
  have e':=kp'.frz a o _ upd_same
  exact ⟨e',k3 _ _ _ _ (kp_backL e kp') (Abs.backL e' A' h1) q1⟩
 ·rintro σ' H' τ' M' kp' A' ⟨h1,q1⟩
  have e':=kp'.frz a o _ upd_same
  exact ⟨e',k4 _ _ _ _ (kp_backL e kp') (Abs.backL e' A' h1) q1⟩
noncomputable abbrev stillF (o:Obj)(l:List V):HO:=.frz o (.frz o (.lst l))
theorem stillF_at {P:Program}{w:World}{H:Hp}{h:Heap}{a:Addr}{o:Obj}{l:List V}(ok:HOk P w H h)(e:H a=some (stillF o l)):∃ its:List Value,Vals l its/\h.IsList a its.toArray:=by
 obtain ⟨ho,_,z,its,n,r,h1⟩:=ok a _ e
 exact ⟨its,r,⟨_,h1,rfl,n,rfl⟩⟩
noncomputable def Itf (a:Addr)(o:Obj)(l:List V):It :=
 ⟨λ i H=>H a=some (stillF o l)/\i < l.length,λ i H x H'=>H'=H/\l[i]? = some x,λ i H=>H a=some (stillF o l)/\l.length<=i⟩
theorem turn_flist {P:Program}{w:World}{K:PySem.W.Frag}{tg:Expr}(a it:Addr)(o:Obj)(l:List V):Turn P w K tg (Itf a o l) [it] it (λ i h=>h.IsListIter it a i) where
 mem:=by simp
 obj:=λ i h st b hb=>by
  have e:b=it:=by simpa using hb
  subst e
  obtain ⟨o,e,c,d⟩:=st
  exact ⟨o,e,λ v z=>by rw [d] at z; cases z⟩
 keep:=λ i h h' st k=>st.at λ o e=>k it (by simp) o e
 item:=by
  intro X hP hw hK hc i pins s σ H E I hf st ⟨hg,hi⟩
  subst hP hw hK
  obtain ⟨its,rv,p⟩:=stillF_at I.hok hg
  obtain ⟨u,hu,ru⟩:=rv.get (List.getElem?_eq_getElem hi)
  obtain ⟨f0,f1,f2,f3,f4,f5⟩:=hf it (by simp)
  refine wpAny_pyNext_list_item st p (x:=u) (by simpa using hu) λ h' st' sb=>?_
  have I1:Inv X pins σ H { s with heap:=h' }:=I.turned (t':=s.toks) (λ b o hb e=>(sb.2 b hb).trans e) f0 f1 f3 f4 f5
  obtain ⟨o,e,c,d⟩:=id st'
  exact ⟨u,rfl,go_of (s:={ s with heap:=h' }) e c d (by decide) ⟨_,H,I1,ru,⟨rfl,List.getElem?_eq_getElem hi⟩,st',λ b hb=>(hf b hb).1⟩⟩
 done:=by
  intro X hP hw hK hc i pins s σ H E I hf st ⟨hg,hi⟩
  subst hP hw hK
  obtain ⟨its,rv,p⟩:=stillF_at I.hok hg
  obtain ⟨f0,f1,f2,f3,f4,f5⟩:=hf it (by simp)
  have hl:=rv.length
  exact wpAny_pyNext_list_end (I.ok.hd hc) st p (by simp; omega) λ h' eb=>⟨rfl,I.turned (t':=s.toks) (λ b o hb e=>eb b o hb e) f0 f1 f3 f4 f5⟩
 self:=λ _ _ _ _ _ st h=>wpAny_pyIter_listiter st h
section
variable {X:Cx}{K:PySem.W.Frag}{tg o:Expr}
end
end D
namespace D
open PySem PySem.Spec PyProof.Rows L2
section
variable {X:Cx}{o:Expr}{td:TD}{apos cpos:Pos}
end
namespace Q
section
variable {X:Cx}{pos:Pos}
theorem psd_stillL {st:Stmt}{t:TSd}(h:Jd (PSd X st t)):Jd (PSd X st (dStillLS t)):=⟨D.psd_stillL0 h.h⟩
end
end Q
end D
namespace D
open PySem PySem.Spec PyProof.Rows L2
section
variable {X:Cx}{tg iter elt:Expr}{pos:Pos}{sc:Scope}{own:List Str}{fr:List Nat}{di:TId}{g:TGd}{tt:TTd}{te:TD}{ifs:List Expr}
end
namespace Q
section
variable {X:Cx}{tg iter elt:Expr}{pos:Pos}{sc:Scope}{own:List Str}{fr:List Nat}{di:TId}{g:TGd}{tt:TTd}{te:TD}{ifs:List Expr}
end
end Q
end D
namespace D
open PySem
theorem len_0 {us:List Value}(h:us.length=0):us=[]:=by
 exact List.eq_nil_of_length_eq_zero h
theorem len_1 {us:List Value}(h:us.length=1):∃ a1:Value,us=[a1]:=by
 cases us with
 | nil=>simp at h
 | cons a r =>
  have e:r=[]:=len_0 (by simpa using h)
  subst e
  exact ⟨a,rfl⟩
theorem len_2 {us:List Value}(h:us.length=2):∃ a1 a2:Value,us=[a1,a2]:=by
 cases us with
 | nil=>simp at h
 | cons a r =>
  obtain ⟨b1,e⟩:=len_1 (us:=r) (by simpa using h)
  subst e
  exact ⟨a,b1,rfl⟩
end D
namespace D
open PySem PySem.Spec PyProof.Rows L2
section
variable {X:Cx}{K:PySem.W.Frag}
variable {o e f:Expr}{td te tf:TD}{apos cpos:Pos}
end
namespace Q
end Q
end D
namespace D
open PySem PySem.Spec PyProof.Rows L2
section
variable {X:Cx}{K:PySem.W.Frag}
end
section
variable {X:Cx}{K:PySem.W.Frag}
end
noncomputable def sEi (t u:TSd)(D:Ed)(τ:DS)(M:MH):Prop:=t D τ M\/u D τ M
theorem psd_ei0 {X:Cx}{st:Stmt}{t u:TSd}(h:PSd X st t)(k:PSd X st u):PSd X st (sEi t u):=λ pins s σ H D I q=>by
 obtain ⟨τ,M,Dd,A,q,c⟩:=q
 rcases q with q | q
 ·exact h pins s σ H D I ⟨τ,M,Dd,A,q,c⟩
 ·exact k pins s σ H D I ⟨τ,M,Dd,A,q,c⟩
namespace Q
theorem psd_ei {X:Cx}{st:Stmt}{t u:TSd}(h:Jd (PSd X st t))(k:Jd (PSd X st u)):Jd (PSd X st (sEi t u)):=⟨D.psd_ei0 h.h k.h⟩
end Q
end D
namespace D
open PySem PySem.Spec PyProof.Rows L2
section
variable {K:PySem.W.Frag}
variable {X:Cx}{sc:Scope}{own:List Str}{fr:List Nat}{di:TId}{g:TGd}{tt:TTd}{te:TD}{tg iter elt:Expr}{ifs:List Expr}{pos:Pos}
end
section
variable {X:Cx}{tg iter elt:Expr}{pos:Pos}{sc:Scope}{own:List Str}{fr:List Nat}{di:TId}{g:TGd}{tt:TTd}{te:TD}{ifs:List Expr}
end
namespace Q
section
variable {X:Cx}{tg iter elt:Expr}{pos:Pos}{sc:Scope}{own:List Str}{fr:List Nat}{di:TId}{g:TGd}{tt:TTd}{te:TD}{ifs:List Expr}
variable {o:Expr}{td:TD}{apos cpos kpos kp:Pos}{j:Nat}
end
end Q
end D
namespace XO
open PySem PySem.Spec PyProof.Rows PySem.W Builtin.ObjectAttr
noncomputable def tailB:List Value:=[.type "ValueError",.type "Exception",.type "BaseException",.type "object"]
noncomputable def refsThen:List Value->Bool
 | .ref _ :: r=>refsThen r
 | l=>l == tailB
theorem refs_nil {l:List Value}(h:refsThen l=true):l.isEmpty=false:=by
 cases l with
 | nil=>exact absurd h (by decide)
 | cons _ _=>rfl
theorem refs_cases {l:List Value}(h:refsThen l=true):(∃ a r,l=.ref a :: r/\refsThen r=true)\/l=tailB:=by
 cases l with
 | nil=>exact absurd h (by decide)
 | cons v r =>
  cases v <;> first | exact .inl ⟨_,_,rfl,h⟩ | exact .inr (eq_of_beq (by simpa only [refsThen] using h))
theorem refs_has (T:String)(hT:tailB.contains (.type T)=true):∀ {l:List Value},refsThen l=true->l.contains (.type T)=true:=by
 intro l
 induction l with
 | nil=>intro h; exact absurd h (by decide)
 | cons v r ih =>
  intro h
  rcases refs_cases h with ⟨a,r',e,q⟩ | e
  ·cases e
   rw [List.contains_cons,ih q,Bool.or_true]
  ·rw [e]; exact hT
theorem refs_passes (self:Value):∀ {l:List Value},refsThen l=true->refuseLoop self "__setattr__" l=pure ():=by
 intro l
 induction l with
 | nil=>intro h; exact absurd h (by decide)
 | cons v r ih =>
  intro h
  rcases refs_cases h with ⟨a,r',e,q⟩ | e
  ·cases e
   rw [refuseLoop_ref]; exact ih q
  ·rw [e]; exact PySem.F.store_ValueError.passes self
noncomputable def xcls (K:Frag)(C:Addr):Bool:=(clsIn K C).any λ cd=>cd.hasDict && refsThen cd.mro
theorem xcls_of {K:Frag}{C:Addr}(h:xcls K C=true):∃ cd,clsIn K C=some cd/\cd.hasDict=true/\refsThen cd.mro=true:=by
 obtain ⟨cd,e,q⟩:=any_some h
 simp only [Bool.and_eq_true] at q
 exact ⟨cd,e,q.1,q.2⟩
section
variable {prog:Program}{w:World}{A:Around}{E:Value->Shared->Prop}{s:Shared}{K:Frag}{x C:Addr}{name:Str}{v:Value}
theorem xsub {M:Model}{h:Heap}{ox:Obj}{od:Option Obj}(X:K.In h)(c:xcls K C=true)(I:PySem.W.InstAt h x ox C od){T:String}(hT:tailB.contains (.type T)=true):Looks M h (isInstance (.ref x) (.type T)) true:=by
 obtain ⟨cd,hc,_,hm⟩:=xcls_of c
 refine I.type.andThen (looks_mroIn X ?_)
 unfold mroIn
 rw [hc,Option.bind_some,if_neg (by rw [refs_nil hm]; decide),refs_has T hT hm]
theorem osaX {R:Result->Shared->Prop}{ox:Obj}{od:Option Obj}{tk:Tok}(X:K.In s.heap)(I:PySem.W.InstAt s.heap x ox C od)(c:xcls K C=true)(na:findIn K (.ref C) name=some none)
  (h:∀ b,wpAny (model prog w) A.in1 (storeInOwnDict (.ref x) (.ref C) (.str name tk) name v b)
   (λ fin s'=>match fin with | .done f=>R (.ok f) s' | .again c'=>c'.quiet=true/\codeAny (model prog w) A c' R s') (λ e s'=>R (.error e) s') s) :
  codeAny (model prog w) A (.call (.builtin "object.__setattr__") ⟨[.ref x,.str name tk,v],[]⟩) R s:=by
 obtain ⟨cd,hc,_,hm⟩:=xcls_of c
 have S:=PySem.F.store_object
 refine codeAny_call_builtin S.slot.plain S.entry (@check_slot (model prog w) _ _ s "object.__setattr__" "object" "__setattr__" (.ref x) [.str name tk,v] [] _ S.kind S.split (xsub X c I (by decide)) (S.args (.ref x) (.str name tk) v) ?_)
 rw [osa_eq,refuse_eq]
 have hm':Looks (model prog w) s.heap (mroOf (.ref C)) cd.mro:=(looks_clsIn X hc).andThen .now
 refine wpAny_bind (wpAny_bind (I.type.here (wpAny_bind (hm'.here ?_))))
 rw [refs_passes _ hm]
 refine wpAny_pure ?_
 exact wpAny_bind (I.type.here (wpAny_bind ((looks_findIn X na).here (wpAny_bind (wpAny_pure (h _))))))
theorem xset0 {Q:Unit->Shared->Prop}{vs:Array Value}{sl:Array (Option Value)}(X:K.In s.heap)(c:xcls K C=true)(sa:findIn K (.ref C) "__setattr__" = some (some (.builtin "object.__setattr__")))
  (na:findIn K (.ref C) name=some none)(hx:s.heap.get? x=some ⟨.ref C,none,.fields vs,sl⟩)
  (h:∀ h' tk dx,s.heap.objs.size<=dx->dx≠x->h'.get? x=some ⟨.ref C,some dx,.fields vs,sl⟩->h'.Ns1 dx (λ y=>if y=name then some v else none)->(∀ b o,b≠x->s.heap.get? b=some o->h'.get? b=some o)->Q () { s with heap:=h',toks:=tk }) :
  wpAny (model prog w) A (setAttr (.ref x) name v) Q E s:=by
 have I:PySem.W.InstAt s.heap x ⟨.ref C,none,.fields vs,sl⟩ C none:=⟨hx,rfl,rfl,True.intro⟩
 refine set_plain X I sa (osaX (s:={ s with toks:=s.toks+1 }) X I c na λ b=>?_)
 obtain ⟨cd,hc,hd,_⟩:=xcls_of c
 refine wpAny_bind (wpAny_pure (wpAny_bind (wpAny_bind (wpAny_loadPart hx (wpAny_bind (PySem.W.Looks.here (s:={ s with toks:=s.toks+1 }) (looks_clsIn X hc) ?_))))))
 rw [hd]
 have lx:x < s.heap.objs.size:=Heap.lt_size hx
 have ne:s.heap.objs.size≠x:=Nat.ne_of_gt lx
 refine wpAny_bind (wpAny_alloc' (wpAny_bind (wpAny_update' (Heap.get?_push_of_some _ hx) (wpAny_pure ?_))))
 have e1:((s.heap.push { cls:=.type "dict",data:=.dict #[] }).update x λ o=>{ o with dict:=some s.heap.objs.size }).get? s.heap.objs.size=some { cls:=.type "dict",data:=.dict #[] } :=
  (Heap.get?_update_ne _ _ _ _ ne).trans (Heap.get?_push_at rfl rfl)
 have e2:((s.heap.push { cls:=.type "dict",data:=.dict #[] }).update x λ o=>{ o with dict:=some s.heap.objs.size }).get? x=some ⟨.ref C,some s.heap.objs.size,.fields vs,sl⟩ :=
  Heap.get?_update_self _ (Heap.get?_push_of_some _ hx) rfl
 have e3:((s.heap.push { cls:=.type "dict",data:=.dict #[] }).update x λ o=>{ o with dict:=some s.heap.objs.size }).Ns s.heap.objs.size (λ _=>none):=⟨_,#[],_,e1,rfl,λ _ z=>absurd z (by simp),λ _=>rfl⟩
 refine wpAny_bind (wpAny_pure (wpAny_bind (wpAny_nsSet1 (Heap.Ns1.of_empty e3) λ h2 n2 sb=>?_)))
 obtain ⟨oD,esD,epD,g1,g2,g3⟩:=n2.count (PySem.Within.cons name v PySem.Within.nil)
 refine wpAny_bind (wpAny_lookBehind g1 (by rw [g2]; exact pastItsLine_dict (Nat.le_trans g3 (by rw [List.length_cons,List.length_nil,sizeLine_eq]; omega))) (wpAny_pure ?_))
 exact h h2 _ _ (Nat.le_refl _) ne ((sb.2 x (Ne.symm ne)).trans e2) n2 λ b o hb z=>(sb.2 b (Nat.ne_of_lt (Heap.lt_size z))).trans ((Heap.get?_update_ne _ _ _ _ hb).trans (Heap.get?_push_of_some _ z))
end
end XO
namespace XO
open PySem PySem.Spec PyProof.Rows PySem.W Builtin.ObjectAttr
section
variable {prog:Program}{w:World}{A:Around}{E:Value->Shared->Prop}{s:Shared}{K:Frag}{x C:Addr}{name:Str}{v:Value}{ox:Obj}{od:Option Obj}
theorem ga_kind:builtinKind "BaseException.__getattribute__" = some .slot:=by decide +kernel
theorem ga_split:splitId "BaseException.__getattribute__" = some ("BaseException", "__getattribute__"):=by decide +kernel
structure XC (K:Frag)(C:Addr):Prop where
 x:xcls K C=true
 sa:findIn K (.ref C) "__setattr__" = some (some (.builtin "object.__setattr__"))
 ga:findIn K (.ref C) "__getattribute__" = some (some (.builtin "BaseException.__getattribute__"))
 gt:findIn K (.ref C) "__getattr__" = some none
 cl:findIn K (.ref C) "__class__" = some (some (.builtin "object.__class__"))
 cg:specialIn K (.builtin "object.__class__") "__get__" = some (some (.builtin "getset_descriptor.__get__"))
 ct:takesIn K (.builtin "object.__class__")=some true
theorem xby {fill expr:Bool}{tk:Tok}{Q:Value->Shared->Prop}(X:K.In s.heap)(c:XC K C)(I:PySem.W.InstAt s.heap x ox C od)
  (h:wpAny (model prog w) A.in1 (Builtin.«object.__getattribute__» ⟨[.ref x,.str name tk],[]⟩)
   (λ fin s'=>match fin with | .done (.ret v)=>wpAny (model prog w) A (handedOut v) Q E s' | _=>False) (λ _ _=>False) s) :
  wpAny (model prog w) A (getAttrBy (.ref x) (.str name tk) fill expr) Q E s:=by
 unfold getAttrBy
 refine wpAny_holding (wpAny_bind (I.type.here (wpAny_bind ((looks_findIn X c.ga).here ?_))))
 have e1:(onTheHeap (Value.ref C) && (Value.builtin "BaseException.__getattribute__" == Value.builtin "object.__getattribute__"))=false:=by rw [show (Value.builtin "BaseException.__getattribute__" == Value.builtin "object.__getattribute__")=false from by decide,Bool.and_false]
 dsimp only
 rw [if_neg (by rw [e1]; decide)]
 unfold getAttrByItsOwn hookBefore
 refine wpAny_bind ?_
 rw [if_pos (show onTheHeap (Value.ref C)=true from rfl)]
 refine (looks_findIn X c.gt).here ?_
 refine wpAny_bind (wpAny_attempt (wpAny_holding ?_))
 unfold callGetattribute
 rw [if_neg (by rw [show onTheHeap (Value.builtin "BaseException.__getattribute__")=false from rfl,Bool.and_false]; decide)]
 unfold boundAndCalled
 rw [PySem.F.excAttr_ValueError.ga.bind]
 refine wpAny_bind (wpAny_pure ?_)
 refine wpAny_call (codeAny_call_builtin PySem.F.excAttr_ValueError.ga.plain PySem.F.entry_bexc_ga (@check_slot (model prog w) _ _ s _ "BaseException" "__getattribute__" (.ref x) [.str name tk] [] _ ga_kind ga_split (xsub X c.x I (by decide)) (PySem.F.args_bexc_ga _ _) ?_))
 refine wpAny_mono h (λ fin s' z=>?_) λ _ _ z=>z.elim
 rcases fin with (_ | _ | _ | _) | _ <;> first | exact z | exact z.elim
theorem xget {expr:Bool}{Q:Value->Shared->Prop}(X:K.In s.heap)(c:XC K C)(I:PySem.W.InstAt s.heap x ox C od)(hf:findObj K C od name=some (.value v))(hh:handedIn v=true)(h:Q v { s with toks:=s.toks+1 }) :
  wpAny (model prog w) A (getAttr (.ref x) name expr) Q E s:=by
 unfold getAttr
 refine wpAny_bind (wpAny_mkText (xby (s:={ s with toks:=s.toks+1 }) X c I ?_))
 refine wpAny_bind (wpAny_pure (wpAny_bind (wpAny_pure (wpAny_bind (PySem.W.Looks.here (s:={ s with toks:=s.toks+1 }) I.type (wpAny_bind (PySem.W.Looks.here (s:={ s with toks:=s.toks+1 }) (looks_find X I hf) ?_)))))))
 refine wpAny_pure ?_
 show wpAny _ _ (handedOut v) _ _ _
 rw [handedOut_of hh]; exact wpAny_pure h
theorem XC.mro (c:XC K C):mroIn K C (.type "object")=some true:=by
 obtain ⟨cd,hc,_,hm⟩:=xcls_of c.x
 unfold mroIn
 rw [hc,Option.bind_some,if_neg (by rw [refs_nil hm]; decide),refs_has "object" (by decide) hm]
theorem XC.at (c:XC K C):∃ cd o dd sl,K.lookup C=some ⟨o,dd,.cls cd,sl⟩:=by
 obtain ⟨cd,hc,_,_⟩:=xcls_of c.x
 unfold clsIn at hc
 split at hc
 ·rename_i ho; exact ⟨_,_,_,_,ho⟩
 ·cases hc
theorem XC.look {M:Model}{h:Heap}(c:XC K C)(X:K.In h):Looks M h (isType (.ref C)) true:=by
 obtain ⟨cd,o,dd,sl,ho⟩:=c.at
 refine λ A' Q' E' s' k q=>?_
 unfold isType loadHead
 exact wpAny_bind (wpAny_loadPart (k _ _ (X _ _ ho)) (wpAny_pure q))
theorem xclass {Q:Option Value->Shared->Prop}(X:K.In s.heap)(c:XC K C)(I:PySem.W.InstAt s.heap x ox C od)(h:Q (some (.ref C)) { s with toks:=s.toks+1 }):wpAny (model prog w) A (getAttr? (.ref x) "__class__") Q E s:=by
 obtain ⟨cd,hc,_,hm⟩:=xcls_of c.x
 have hf:findObj K C od "__class__" = some (.bind (.builtin "getset_descriptor.__get__") (.builtin "object.__class__")):=by
  unfold findObj
  rw [hc,Option.bind_some,c.cl,Option.bind_some]
  simp [c.cg,c.ct]
 unfold getAttr? getAttrBy?
 refine wpAny_bind (wpAny_mkText (wpAny_bind (wpAny_attempt (xby (s:={ s with toks:=s.toks+1 }) X c I ?_))))
 refine wpAny_bind (wpAny_pure (wpAny_bind (wpAny_pure (wpAny_bind (PySem.W.Looks.here (s:={ s with toks:=s.toks+1 }) I.type (wpAny_bind (PySem.W.Looks.here (s:={ s with toks:=s.toks+1 }) (looks_find X I hf) ?_)))))))
 show wpAny _ _ (holding [Value.builtin "object.__class__"] (call (.builtin "getset_descriptor.__get__") [.builtin "object.__class__",.ref x,.ref C]) >>= ret) _ _ _
 refine wpAny_bind (wpAny_holding (wpAny_call (class_get (s:={ s with toks:=s.toks+1 }) X I c.mro ?_)))
 exact wpAny_pure (handed_on rfl (wpAny_pure h))
theorem kitx_x (c:XC K C):KitX K (.ref x) (.ref C) (λ h=>PySem.W.InstAt h x ox C od) where
 ty:=λ _ _ _ I=>I.type
 it:=λ _ _ X _=>c.look X
 ne:=λ h tp dd its n sl X htp=>by
  obtain ⟨cd,o,d',s',e⟩:=c.at
  refine Bool.eq_false_iff.mpr λ q=>?_
  cases Value.ref.inj (beq_iff_eq.mp q)
  have z:=(X _ _ e).symm.trans htp
  cases z
 ca:=λ X I k=>xclass X c I k
end
end XO
namespace XO
open PySem PySem.Spec PyProof.Rows PySem.W Builtin.ObjectAttr
noncomputable def xmk (K:Frag)(C:Addr):Bool:=match K.lookup C with
 | some ⟨.type "type",_,.cls cd,sl⟩=>(match cd.mro,sl.toList with
  | .ref D :: bm,[_,_,_,_,some (.builtin n),_]=>D == C && n == "ValueError.__new__" && !cd.hasDel && tailIn K tailB bm
  | _,_=>false)
 | _=>false
theorem xmk_of {K:Frag}{C:Addr}{h:Heap}(X:K.In h)(e:xmk K C=true):∃ nm q N bs bm hdct sn sub ab col dd k0 k1 k2 k3 k5,
  h.get? C=some (excClassObj nm q C N bs bm hdct sn sub ab col dd k0 k1 k2 k3 k5 "ValueError.__new__")/\OwnTail h tailB bm:=by
 unfold xmk at e
 split at e
 ·rename_i dd cd sl ho
  split at e
  ·rename_i D bm a0 a1 a2 a3 n a5 hm hs
   simp only [Bool.and_eq_true,beq_iff_eq,Bool.not_eq_true'] at e
   obtain ⟨⟨⟨h1,h2⟩,h3⟩,h4⟩:=e
   subst h1 h2
   obtain ⟨c1,c2,c3,c4,c5,c6,c7,c8,c9,c10,c11⟩:=cd
   dsimp only at hm h3
   subst hm h3
   obtain ⟨l⟩:=sl
   simp only at hs
   subst hs
   exact ⟨_,_,_,_,_,_,_,_,_,_,_,_,_,_,_,_,X _ _ ho,tail_of_in X h4⟩
  ·cases e
 ·cases e
noncomputable abbrev xraw (C t:Addr):Obj:={ cls:=.ref C,data:=.fields #[.ref t,.none,.none,.none,.bool false,.none] }
section
variable {prog:Program}{w:World}{A:Around}{E:Value->Shared->Prop}{K:Frag}{C f:Addr}{h:Heap}{g:Array GenState}{d:Drawn}{t:Nat}{os:OsState}
theorem xtype {us:List Value}{Q:PySem.Fin->Shared->Prop}(X:K.In h)(c:XC K C)(q:xmk K C=true)(hi:findIn K (.ref C) "__init__" = some (some (.ref f)))(hf:typeIn K (.ref f)=some (.type "function"))(hz:us.length<=sizeLine)
  (k:wpAny (model prog w) A (call (.ref f) (.ref (h.objs.size+1) :: us)) (λ r s'=>r=.none/\Q (.done (.ret (.ref (h.objs.size+1)))) s') E
   ⟨(h.push { cls:=.type "tuple",data:=.seq us.toArray }).push (xraw C h.objs.size),g,d,t,os⟩) :
  wpAny (model prog w) A (Builtin.«type.__call__» ⟨.ref C :: us,[]⟩) Q E ⟨h,g,d,t,os⟩:=by
 obtain ⟨nm,q',N,bs,bm,hdct,sn,sub,ab,col,dd,k0,k1,k2,k3,k5,hC,T⟩:=xmk_of X q
 have B:=PySem.F.excBase_ValueError
 repeat (first | with_reducible refine wpAny_loadPart_at hC ?_ | with_reducible refine wpAny_madeBy_exc hC ?_ | wp_step)
 refine codeAny_call_builtin_code (Code.quiet_builtin _ B.quiet) (wpAny_check_new_subT B T hC (codeAny_exc_new_subT B T hC ?_ hz))
 show wpAny _ _ _ _ _ _
 have kp:∀ b o,h.get? b=some o->((h.push { cls:=.type "tuple",data:=.seq us.toArray }).push (xraw C h.objs.size)).get? b=some o:=λ b o z=>Heap.get?_push_of_some _ (Heap.get?_push_of_some _ z)
 have X1:=X.keeps kp
 have eg:((h.push { cls:=.type "tuple",data:=.seq us.toArray }).push (xraw C h.objs.size)).get? (h.objs.size+1)=some (xraw C h.objs.size):=by heap_get
 have I:PySem.W.InstAt ((h.push { cls:=.type "tuple",data:=.seq us.toArray }).push (xraw C h.objs.size)) (h.objs.size+1) (xraw C h.objs.size) C none:=⟨eg,rfl,rfl,True.intro⟩
 obtain ⟨cd,hc,_,hm⟩:=xcls_of c.x
 have hsub:Looks (model prog w) ((h.push { cls:=.type "tuple",data:=.seq us.toArray }).push (xraw C h.objs.size)) (isInstance (.ref (h.objs.size+1)) (.ref C)) true:=by
  refine I.type.andThen (λ A' Q' E' s' k' z=>?_)
  exact wpAny_isSubtype_exc (h:=s'.heap) (g:=s'.gens) (d:=s'.drawn) (t:=s'.toks) (os:=s'.os) (k' _ _ (kp _ _ hC)) (by rw [show (Value.ref C :: bm).contains (Value.ref C)=true from by simp]; exact z)
 refine wpAny_bind (hsub.here ?_)
 rw [if_neg (by decide)]
 refine wpAny_bind (wpAny_holding (special_fn (s:=⟨_,g,d,t,os⟩) X1 I hi hf (wpAny_mono k (λ r s' z=>?_) λ _ _ z=>z)))
 obtain ⟨rfl,z⟩:=z
 exact wpAny_pure z
theorem xcall {us:List Value}{Q:Value->Shared->Prop}(X:K.In h)(c:XC K C)(q:xmk K C=true)(hi:findIn K (.ref C) "__init__" = some (some (.ref f)))(hf:typeIn K (.ref f)=some (.type "function"))(hz:us.length<=sizeLine)
  (k:wpAny (model prog w) (A.under (.builtin "type.__call__" ⟨.ref C :: us,[]⟩)) (call (.ref f) (.ref (h.objs.size+1) :: us)) (λ r s'=>r=.none/\Q (.ref (h.objs.size+1)) s') E
   ⟨(h.push { cls:=.type "tuple",data:=.seq us.toArray }).push (xraw C h.objs.size),g,d,t,os⟩) :
  wpAny (model prog w) A (call (.ref C) us) Q E ⟨h,g,d,t,os⟩:=by
 obtain ⟨nm,q',N,bs,bm,hdct,sn,sub,ab,col,dd,k0,k1,k2,k3,k5,hC,T⟩:=xmk_of X q
 have l1:=tc_lookup
 have l2:=tc_bind (.ref C)
 have l3:(⟨h,g,d,t,os⟩:Shared).TypeIs (.ref C) "type" := ⟨_,hC,rfl⟩
 refine wpAny_call (codeAny_of_tree ?_)
 show wpAny _ _ (callAny (.ref C) ⟨us,[]⟩) _ _ _
 repeat (any_goals (first | with_reducible refine wpAny_loadPart_at hC ?_ | assumption | wp_step))
 exact ⟨rfl,codeAny_call_builtin_at (Code.quiet_builtin _ (by decide +kernel)) entry_typeCall (wpAny_check_type_call_sub hC (xtype X c q hi hf hz k))⟩
end
end XO
namespace XO
open PySem PySem.Spec PyProof.Rows PySem.W
noncomputable abbrev xobj (C:Addr)(dct:Option Addr)(vs:Array Value):Obj:={ cls:=.ref C,dict:=dct,data:=.fields vs }
noncomputable def Tb (h:Heap)(e:Addr)(vs:Array Value):Prop:=vs[1]? = some .none\/∃ T oT ts,vs[1]? = some (.ref T)/\T≠e/\h.get? T=some oT/\oT.data=.fields ts/\ts[3]? = some .none
theorem Tb.size {h:Heap}{e:Addr}{vs:Array Value}(t:Tb h e vs):1 < vs.size:=by
 rcases t with z | ⟨_,_,_,z,_⟩ <;> exact (Array.getElem?_eq_some_iff.mp z).1
section
variable {M:Model}{A:Around}{E:Value->Shared->Prop}{s:Shared}{base:Heap}{env:PySem.Env}{outer:List PySem.Env}{L e C:Addr}{dct:Option Addr}{vs:Array Value}
structure Seen (fs:List Addr)(e:Addr)(h h':Heap):Prop where
 keep:∀ b o,b≠e->b ∉ fs->h.get? b=some o->h'.get? b=some o
 slot:∀ b o,b∈fs->h.get? b=some o->∃ sl,h'.get? b=some { o with slots:=sl }
theorem lookX {Q:Unit->Shared->Prop}(hfr:A.frames=some (env :: outer))(hl:s.heap.FunFrames base (env :: outer))(hf:env.frame=some L)(he:s.heap.get? e=some (xobj C dct vs))(tb:Tb s.heap e vs)
  (q:∀ h' vs',h'.get? e=some (xobj C dct vs')->Tb h' e vs'->vs'[1]? ≠ some .none->Seen ((env :: outer).filterMap (·.frame)) e s.heap h'->Q () { s with heap:=h' }) :
  wpAny M A (noteFrame (.ref e) env) (λ _ s1=>wpAny M A (setFlight (.ref e) none) Q E s1) E s:=by
 have nfr:∀ b o us,s.heap.get? b=some o->o.data=.fields us->b ∉ (env :: outer).filterMap (·.frame):=λ b o us z zd hm=>by
  obtain ⟨_,o',ho,hn⟩:=hl.mem hm
  rw [z] at ho
  cases ho
  exact hn us zd
 have main:∀ (head:Value) (had:Bool),wpAny M A (do let a <- frameOf env; let pl <- entryPlaceOf L had; let b <- EntryCells.newEntry head a .none (rawInt L) .none pl; setField (.ref e) 1 b) (λ _ s1=>wpAny M A (setFlight (.ref e) none) Q E s1) E s:=by
  intro head had
  refine wpAny_bind (wpAny_frameOf_fun hfr hl hf λ h1 so=>wpAny_bind (wpAny_entryPlaceOf λ pl hpl=>?_))
  unfold EntryCells.newEntry newFields
  refine wpAny_bind (wpAny_newObj_type ?_ (hpl.sizeOk5 _ _ _ _ _))
  have e1:h1.get? e=some (xobj C dct vs):=(so.2.1 e (nfr e _ vs he rfl)).trans he
  generalize hts:([head,Value.ref L,.none,rawInt L,.none]++(if pl.isEmpty then List.replicate 6 Value.none else pl)).toArray=ts
  have hts3:3 < ts.size:=by
   rw [<- hts]
   simp only [List.size_toArray,List.length_append,List.length_cons,List.length_nil] <;> omega
  have e2:=Heap.get?_push_of_some (h:=h1) { cls:=.type "traceback",dict:=none,data:=.fields ts } e1
  refine wpAny_setField e2 rfl tb.size ?_
  have ne:h1.objs.size≠e:=Nat.ne_of_gt (Heap.lt_size e1)
  have e3:((h1.push { cls:=.type "traceback",dict:=none,data:=.fields ts }).update e (Obj.mapFields (·.setIfInBounds 1 (Value.ref h1.objs.size)))).get? e=some (xobj C dct (vs.setIfInBounds 1 (Value.ref h1.objs.size))) :=
   Heap.get?_update_self _ e2 rfl
  have e4:((h1.push { cls:=.type "traceback",dict:=none,data:=.fields ts }).update e (Obj.mapFields (·.setIfInBounds 1 (Value.ref h1.objs.size)))).get? h1.objs.size=some { cls:=.type "traceback",dict:=none,data:=.fields ts } :=
   (Heap.get?_update_other _ _ (Ne.symm ne)).trans (Heap.get?_push_size h1 rfl)
  have v1:(vs.setIfInBounds 1 (Value.ref h1.objs.size))[1]? = some (Value.ref h1.objs.size):=by simp [tb.size]
  unfold setFlight
  refine wpAny_bind (wpAny_field e3 rfl v1 ?_)
  rw [if_pos (show (Value.ref h1.objs.size != Value.none)=true from by simp)]
  refine wpAny_setField e4 rfl hts3 (q _ (vs.setIfInBounds 1 (Value.ref h1.objs.size)) ?_ (.inr ⟨h1.objs.size,_,ts.setIfInBounds 3 .none,v1,ne,Heap.get?_update_self _ e4 rfl,rfl,by simp [hts3]⟩) (by rw [v1]; intro z; cases z) ?_)
  ·rw [Heap.get?_update_other _ _ ne]; exact e3
  ·have kp:∀ b o,b≠e->h1.get? b=some o->(((h1.push { cls:=.type "traceback",dict:=none,data:=.fields ts }).update e (Obj.mapFields (·.setIfInBounds 1 (Value.ref h1.objs.size)))).update h1.objs.size
     (Obj.mapFields (·.setIfInBounds 3 ((none:Option Addr).elim Value.none λ f=>rawInt f)))).get? b=some o:=λ b o hb z=>by
    rw [Heap.get?_update_other _ _ (Nat.ne_of_gt (Heap.lt_size z)),Heap.get?_update_other _ _ (Ne.symm hb)]
    exact Heap.get?_push_of_some _ z
   refine ⟨λ b o hb hm z=>kp b o hb ((so.2.1 b hm).trans z),λ b o hm z=>?_⟩
   obtain ⟨sl,z2⟩:=so.2.2 b o z
   exact ⟨sl,kp b _ (λ w=>nfr e _ vs he rfl (w ▸ hm)) z2⟩
 unfold noteFrame
 simp only [hf]
 rcases tb with z | ⟨T,oT,ts,z1,z2,z3,z4,z5⟩
 ·refine wpAny_bind (wpAny_field he rfl z ?_)
  rw [if_neg (by decide)]
  exact main _ _
 ·refine wpAny_bind (wpAny_field he rfl z1 ?_)
  rw [if_pos (show (Value.ref T != Value.none)=true from by simp)]
  refine wpAny_bind (wpAny_field z3 z4 z5 ?_)
  rw [if_neg (show ¬ ((Value.none == rawInt L)=true) from by simp [rawInt])]
  refine wpAny_bind (wpAny_setField z3 z4 (Array.getElem?_eq_some_iff.mp z5).1 ?_)
  rw [Heap.update_setField_same s.heap T oT ts 3 .none z3 z4 z5]
  exact main _ _
end
end XO
namespace L2
open PySem PySem.Spec PyProof.Rows XO
noncomputable def XF (e C:Addr)(dct:Option Addr):Heap->Prop:=λ h=>∃ vs,h.get? e=some (xobj C dct vs)
noncomputable def DX (dx:Addr)(l:List (Str×V)):Heap->Prop:=λ h=>∃ mA,h.Ns1 dx mA/\(∀ f,RelO (l.lookup f) (mA f))/\PySem.Within mA (l.map (·.1))
noncomputable def Air (H:Hp)(h:Heap)(e:Addr):Prop:=∃ C dct vs,H e=some (.ext (XF e C dct))/\h.get? e=some (xobj C dct vs)/\Tb h e vs
theorem xf_ok {P:Program}{w:World}{H:Hp}{h:Heap}{e C:Addr}{dct:Option Addr}{vs:Array Value}(z:h.get? e=some (xobj C dct vs)):ObjOk P w H h e (.ext (XF e C dct)) :=
 ⟨⟨vs,z⟩,⟨_,z⟩,λ h1 h2 ⟨us,e1⟩ k=>⟨us,k _ e1⟩⟩
theorem dx_ok {P:Program}{w:World}{H:Hp}{h:Heap}{dx:Addr}{l:List (Str×V)}(z:DX dx l h):ObjOk P w H h dx (.ext (DX dx l)) :=
 ⟨z,let ⟨_,⟨o,_,_,e,_⟩,_⟩:=z; ⟨o,e⟩,λ h1 h2 ⟨mA,n,r⟩ k=>⟨mA,n.at k,r⟩⟩
section
variable {X:Cx}{pins:List (Addr×Obj)}{σ:St}{H:Hp}{s:Shared}{a:Addr}
theorem Inv.seen {C:Addr}{dct:Option Addr}{vs:Array Value}{h':Heap}(I:Inv X pins σ H s)(e:H a=some (.ext (XF a C dct)))(he:h'.get? a=some (xobj C dct vs))(sn:Seen (frs X.stack) a s.heap h'):Inv X pins σ H { s with heap:=h' }:=by
 have nfs:∀ b u,H b=some u->b ∉ frs X.stack:=λ b u z hb=>by rw [I.stkFree b hb] at z; cases z
 refine I.call (g':=s.gens) (t':=s.toks) (d':=s.drawn) (ch:=[]) ⟨λ b o z n hb _=>sn.keep b o (λ w=>by rw [w,e] at n; cases n) hb z,λ b o z _ hb _=>sn.slot b o hb z,λ _ _ _ n _=>n,λ b o z _=>?_,λ _ _ z=>z,λ _ _ _ z=>z,λ _ ps z=>⟨#[],by rw [z]; simp⟩⟩ (λ b o z=>?_) I.bare (λ b z=>absurd z (by simp))
 ·by_cases hb:b=a
  ·subst hb; exact ⟨_,he⟩
  ·by_cases hm:b∈frs X.stack
   ·obtain ⟨sl,q⟩:=sn.slot b o hm z; exact ⟨_,q⟩
   ·exact ⟨o,sn.keep b o hb hm z⟩
 ·by_cases hb:b=a
  ·subst hb
   rw [e] at z
   cases z
   exact xf_ok he
  ·refine (I.hok b o z).stay (λ c u hc q=>sn.keep c u ?_ ?_ q) (λ _ q=>q) λ _ _ q=>q
   ·rcases hc with w | w
    ·rw [w]; exact hb
    ·intro y; rw [y,e] at w; cases w
   ·rcases hc with w | w
    ·rw [w]; exact nfs b o z
    ·exact nfs c _ w
theorem Inv.lookX {Q:Unit->Shared->Prop}{E:Value->Shared->Prop}{A:Around}(I:Inv X pins σ H s)(hA:A.frames=some X.stack)(hst:X.stack=X.env :: X.outer)(hf:X.env.frame=some X.env.locals)(air:Air H s.heap a)
  (q:∀ s',Inv X pins σ H s'->Air H s'.heap a->Q () s'):wpAny (model X.prog X.w) A (noteFrame (.ref a) X.env) (λ _ s1=>wpAny (model X.prog X.w) A (setFlight (.ref a) none) Q E s1) E s:=by
 obtain ⟨C,dct,vs,e1,e2,e3⟩:=air
 have st:=I.stack
 rw [hst] at st hA
 refine XO.lookX hA st hf e2 e3 λ h' vs' g1 g2 _ g3=>q _ (I.seen e1 g1 ?_) ⟨C,dct,vs',e1,g1,g2⟩
 rw [hst]; exact g3
end
noncomputable def CXE (P:Program)(w:World):CXT:=λ outer H s E e s'=>∃ a H',e=.ref a/\s'.os=s.os/\AllBare s'.gens/\Un (frs outer) [] H H' s.heap s'.heap/\HOk P w H' s'.heap/\Air H' s'.heap a/\E e none H'
section
variable {X:Cx}{CX:CXT}{k:Nat}{f C:Addr}{fd:FuncData}{ps:List Str}{sp:Sp}{E:XK}{pins:List (Addr×Obj)}{σ:St}{H:Hp}{s:Shared}{Q:VK}{us:List Value}{vs:List V}
theorem run_fnX (F:FnOk X.prog X.w X.K X.mg X.base CX k f fd ps sp)(hr:Room k X.A)(hb:Binds X.K fd ps [])(I:Inv X pins σ H s)(r:Vals vs us)(h:sp vs H Q E)(hx:∀ e s',CX X.stack H s E e s'->X.xe e s') :
  wpAny (model X.prog X.w) X.A (call (.ref f) us) (EP X pins σ Q) X.xe s:=by
 have hl:(us++[]).length=ps.length:=by rw [List.append_nil,<- r.length]; exact F.len _ _ _ _ h
 have b:=hb s us I.kIn hl
 rw [List.append_nil] at b
 refine wpAny_call (codeAny_mono (F.run X.A X.stack s H ⟨us,[]⟩ us vs Q E hr I.env0 b r h) λ r s' hq=>?_)
 cases r with
 | error e=>exact hx e s' hq
 | ok fl=>cases fl <;> first | exact I.after hq | exact False.elim hq
theorem run_makeX (M:Mk X.K C f)(F:FnOk X.prog X.w X.K X.mg X.base CX k f fd ps sp)(hr:Room (k+1) X.A)(hb:Binds X.K fd ps [])(I:Inv X pins σ H s)(r:Vals vs us)
  (h:∀ x dx,H x=none->H dx=none->dx≠x->sp (.ref x :: vs) (upd (upd H dx (.own x)) x (.ins C dx [])) (λ v H2=>v=.non/\Q (.ref x) H2) E)
  (hx:∀ H2 s2 e s',Inv X pins σ H2 s2->CX X.stack H2 s2 E e s'->X.xe e s'):wpAny (model X.prog X.w) X.A (call (.ref C) us) (EP X pins σ Q) X.xe s:=by
 have q:=h (s.heap.objs.size+1) s.heap.objs.size (I.hok.fresh (Nat.le_succ _)) (I.hok.fresh (Nat.le_refl _)) (Nat.ne_of_lt (Nat.lt_succ_self _))
 have J:=Inv.made (C:=C) I
 have r2:Vals (V.ref (s.heap.objs.size+1) :: vs) (Value.ref (s.heap.objs.size+1) :: us):=.cons rfl r
 have hl:((Value.ref (s.heap.objs.size+1) :: us)++[]).length=ps.length:=by rw [List.append_nil,<- r2.length]; exact F.len _ _ _ _ q
 have b:=hb _ _ J.kIn hl
 rw [List.append_nil] at b
 refine wpAny_call (make_map (f:=f) I.kIn M.makes M.init (beq_iff_eq.mp M.fn) (codeAny_mono (F.run _ X.stack _ _ ⟨Value.ref (s.heap.objs.size+1) :: us,[]⟩ _ _ _ E (hr.make C us []) (J.env0.make C us []) b r2 q) λ r s' hq=>?_))
 cases r with
 | error e=>exact hx _ _ e s' J hq
 | ok fl =>
  cases fl with
  | ret u =>
   obtain ⟨v,H',I3,rv,ev,q3⟩:=J.after hq
   subst ev
   exact ⟨rv,⟨V.ref (s.heap.objs.size+1),H',I3,rfl,q3⟩⟩
  | next=>exact False.elim hq
  | brk=>exact False.elim hq
  | cont=>exact False.elim hq
end
end L2
namespace D
open PySem PySem.Spec PyProof.Rows L2 XO
noncomputable abbrev XQ:=Addr->MH->Prop
noncomputable abbrev XE:=Addr->DS->MH->Prop
noncomputable abbrev SpX:=List W->MH->QD->XQ->Prop
noncomputable def upSpX (K:PySem.W.Frag)(sp:SpX):Sp:=λ vs H Q E=>∃ ws M Qd Ed,RepWs K H ws vs/\MAbs K H M/\sp ws M Qd Ed/\Kont K H Qd Q/\∀ a H' M',Kp H H'->MAbs K H' M'->Ed a M'->E (.ref a) none H'
noncomputable def Lk (X:Cx)(E:XE):Prop:=∀ (pins:List (Addr×Obj)) (σ:St) (H:Hp) (s:Shared) (a:Addr) (τ:DS) (M:MH),Inv X pins σ H s->Air H s.heap a->Abs X.K H σ τ M->E a τ M->X.xe (.ref a) s
section
variable {P:Program}{w:World}{K:PySem.W.Frag}{mg:Str->Option Value}{base:Heap}
theorem lk_def {N:List Str}{qual:Str}{scope:Scope}{f:Addr}{cd:Value}{A:Around}{outer:List Env}{s:Shared}{H:Hp}{E:XK}{Ed:XQ}(he:∀ a H' M',Kp H H'->MAbs K H' M'->Ed a M'->E (.ref a) none H') :
  Lk (cxOf (CXE P w) P w K mg base N qual scope f cd A outer s H E) λ a _ M=>Ed a M:=by
 intro pins σ H1 s1 a τ M I air ab e
 show wpAny _ _ (leaving _ _) _ _ _
 unfold leaving
 refine wpAny_bind (I.lookX I.ok.frames rfl rfl air λ s2 J air2=>?_)
 exact ⟨a,H1,rfl,J.os,J.bare,J.base,J.hok,air2,he a H1 M (Kp.un J.base) ab.mem e⟩
theorem fun_okX {x qual:Str}{st:Stmt}{f:Addr}{fd:FuncData}{N ps:List Str}{k:Nat}{sp:SpX}{t:XE->TSd}(F:Fun K x qual st f fd)(S:FnScope N ps (defScope st))(len:∀ ws M Q E,sp ws M Q E->ws.length=ps.length)
  (hbody:∀ (cdv:Value) (A:Around) (outer:List Env) (s:Shared) (H:Hp) (E:XK) (Ed:XE),Room k (A.deeper (envOfC qual (defScope st) s.heap.objs.size f cdv))->Lk (cxOf (CXE P w) P w K mg base N qual (defScope st) f cdv A outer s H E) Ed ->
   PassesOwn (model P w) (A.deeper (envOfC qual (defScope st) s.heap.objs.size f cdv)) (envOfC qual (defScope st) s.heap.objs.size f cdv) (cxOf (CXE P w) P w K mg base N qual (defScope st) f cdv A outer s H E).xe ->
   PSsd (cxOf (CXE P w) P w K mg base N qual (defScope st) f cdv A outer s H E) (defBody st) (t Ed))
  (read:∀ ws M Q E,sp ws M Q E->t (λ a _ M=>E a M) { nx:=λ _ M'=>Q (.d .none) M',rt:=Q } (startD N ws) M):FnOk P w K mg base (CXE P w) (k+1) f fd ps (upSpX K sp):=by
 obtain ⟨oc,od,kV,doc,pm,an,cdv,ct,osl,rfl,lk,hcd⟩:=F.ex
 refine fn_of lk hcd S (λ vs H Q E h=>?_) λ A outer s H vs Q E hr h=>?_
 ·obtain ⟨ws,M,Qd,Ed,r,_,q,_⟩:=h
  rw [<- r.length]
  exact len _ _ _ _ q
 ·obtain ⟨ws,M,Qd,Ed,r,m,q,kk,ke⟩:=h
  refine ⟨_,hbody cdv A outer s H E (λ a _ M=>Ed a M) hr (lk_def ke) PassesOwn.leaving,startD N ws,M,_,abs_start r m,read ws M Qd Ed q,λ σ' H' τ' M' kp A' q'=>?_,λ v H' w' M' kp r' m' q'=>?_,λ σ' H' τ' M' kp A' q'=>q'.elim,λ σ' H' τ' M' kp A' q'=>q'.elim⟩
  ·exact kk _ H' _ M' kp (by simp [RepW,RepD]) A'.mem q'
  ·exact kk v H' w' M' kp r' m' q'
end
section
variable {X:Cx}{pos p apos:Pos}{k:Nat}{f C:Addr}{fd:FuncData}{ps:List Str}{sp:SpX}{x m:Str}{e o:Expr}{es:List Expr}{t:TAd}{td:TD}{E:XE}
theorem lk_call {pins:List (Addr×Obj)}{σ:St}{H:Hp}{s:Shared}{τ:DS}{M:MH}(L:Lk X E)(I:Inv X pins σ H s)(ab:Abs X.K H σ τ M){E':XK}(hE:∀ v H',E' v none H'->∃ a M',v=.ref a/\Kp H H'/\MAbs X.K H' M'/\E a τ M'){u:Value}{s':Shared}
  (h:CXE X.prog X.w X.stack H s E' u s'):X.xe u s':=by
 obtain ⟨a,H',rfl,os,br,un,hok,air,q⟩:=h
 obtain ⟨a',M',e,kp,m',q'⟩:=hE _ _ q
 cases e
 exact L pins σ H' s' a τ M' (I.call' os un hok br (λ b z=>absurd z (by simp))) air (ab.go kp m') q'
noncomputable def dCallX (sp:SpX)(E:XE)(t:TAd)(τ:DS)(M:MH)(Q:QD):Prop:=t τ M λ ws M1=>sp ws M1 Q λ a M'=>E a τ M'
theorem pd_callX (L:Lk X E)(F:FnOk X.prog X.w X.K X.mg X.base (CXE X.prog X.w) k f fd ps (upSpX X.K sp))(hr:Room k X.A)(hg:Gl X x)(hm:X.mg x=some (.ref f))(hk:PySem.W.keepIn X.K (.ref f)=true)(hb:Binds X.K fd ps [])
  (ha:PAd X (e :: es) t)(hdb:(x == ("__debug__" : Str))=false:=by decide)(h1:isSt e=false:=by rfl)(h2:(es.all λ e=>!isSt e)=true:=by rfl) :
  PD X (.Call (.Name x p) (e :: es) [] pos) (dCallX sp E t):=by
 intro pins s σ H Q I h
 obtain ⟨τ,M,Qd,A,h,k⟩:=h
 refine wpAny_Call_Name_kw (ld_glob I hg hm ?_ hdb)
 refine PySem.W.callWith_K (h₀:=X.base) I.ok.mod.kin hk (thn (ha pos pins s σ H (λ vs H1=>∃ ws M1,Kp H H1/\RepWs X.K H1 ws vs/\MAbs X.K H1 M1/\sp ws M1 Qd λ a M'=>E a τ M') I ⟨τ,M,_,A,h,λ vs H1 ws M1 kp r m q=>⟨ws,M1,kp,r,m,q⟩⟩) λ us s1 ⟨vs,H1,I1,r,ws,M1,kp,rw,m1,q⟩=>⟨I1.kIn,?_⟩) (star_ok e es X.env h1) (plain_ok pos X.env es h2)
 refine run_fnX (E:=λ v _ H'=>∃ a M',v=.ref a/\Kp H1 H'/\MAbs X.K H' M'/\E a τ M') F hr hb I1 r ⟨ws,M1,Qd,_,rw,m1,q,kgo k kp,λ a H' M' kp' m' e'=>⟨a,M',rfl,kp',m',e'⟩⟩ λ u s' hx=>lk_call L I1 (A.go kp m1) (λ v H' z=>z) hx
noncomputable def dMethX (C:Addr)(m:Str)(sp:SpX)(E:XE)(td:TD)(t:TAd)(τ:DS)(M:MH)(Q:QD):Prop:=td τ M λ w M1=>∃ a fs,w=.m a/\M1 a=some (.ins C fs)/\fs.lookup m=none/\t τ M1 λ ws M2=>sp (w :: ws) M2 Q λ a M'=>E a τ M'
theorem pd_methX {pl:Sem Bool}(L:Lk X E)(he:PD X o td)(c:Cls X.K C)(hm:Meth X.K C m f)(F:FnOk X.prog X.w X.K X.mg X.base (CXE X.prog X.w) k f fd ps (upSpX X.K sp))(hr:Room k X.A)(hb:Binds X.K fd ps [])(ha:PAd X (e :: es) t)
  (ht:eval (.Call (.Attribute o m apos) (e :: es) [] pos) X.env=(do
   let ov <- eval o X.env
   standAt apos.atName
   let (f,first) <- holding [ov] (getMethod ov m pl)
   callWith pos f first (backTo pos (starEach (e :: es) X.env)) (backToKw pos (keywordEach [] X.env))):=by rfl)
  (h1:isSt e=false:=by rfl)(h2:(es.all λ e=>!isSt e)=true:=by rfl):PD X (.Call (.Attribute o m apos) (e :: es) [] pos) (dMethX C m sp E td t):=by
 intro pins s σ H Q I h
 obtain ⟨τ,M,Qd,A,h,k⟩:=h
 refine PySem.W.methodCall_KW (pl:=pl) (thn (he pins s σ H (λ x H1=>∃ w M1,Kp H H1/\RepW X.K H1 w x/\MAbs X.K H1 M1/\∃ a fs,w=.m a/\M1 a=some (.ins C fs)/\fs.lookup m=none/\t τ M1 λ ws M2=>sp (w :: ws) M2 Qd λ a M'=>E a τ M') I ⟨τ,M,_,A,h,λ v H1 w M1 kp r m q=>⟨w,M1,kp,r,m,q⟩⟩)
  λ u s1 ⟨y,H1,I1,ry,w,M1,kp1,r1,m1,a,fs,ew,hma,hl,q1⟩=>?_) ht
 subst ew
 obtain ⟨dx,l,e1,pr⟩:=m1 _ _ hma
 cases (show y=.ref a from r1)
 obtain rfl:u=Value.ref a:=ry
 have g:=fr_lookup m pr
 rw [hl] at g
 refine getmeth_ok I1 e1 c hm (OR.none_of g) ?_
 refine PySem.W.callWith_K (first:=[.ref a]) (h₀:=X.base) I.ok.mod.kin hm.kp (thn (ha pos pins s1 σ H1 (λ vs H2=>∃ ws M2,Kp H1 H2/\RepWs X.K H2 ws vs/\MAbs X.K H2 M2/\sp (.m a :: ws) M2 Qd λ a M'=>E a τ M') I1 ⟨τ,M1,_,A.go kp1 m1,q1,λ vs H2 ws M2 kp r m q=>⟨ws,M2,kp,r,m,q⟩⟩)
  λ us s2 ⟨vs,H2,I2,r,ws,M2,kp2,rw,m2,q⟩=>⟨I2.kIn,?_⟩) (star_ok e es X.env h1) (plain_ok pos X.env es h2)
 exact run_fnX (us:=.ref a :: us) (vs:=.ref a :: vs) (E:=λ v _ H'=>∃ a M',v=.ref a/\Kp H2 H'/\MAbs X.K H' M'/\E a τ M') F hr hb I2 (.cons rfl r) ⟨.m a :: ws,M2,Qd,_,.cons rfl rw,m2,q,kgo (kgo k kp1) kp2,λ a H' M' kp' m' e'=>⟨a,M',rfl,kp',m',e'⟩⟩ λ u s' hx=>lk_call L I2 ((A.go kp1 m1).go kp2 m2) (λ v H' z=>z) hx
end
end D
namespace XO
open PySem PySem.Spec PyProof.Rows PySem.W
section
variable {prog:Program}{w:World}{A:Around}{E:Value->Shared->Prop}{s:Shared}{K:Frag}{env:PySem.Env}
theorem raiseX {x:Sem Value}{Q:Flow->Shared->Prop}(hh:A.handled=none)
  (h:wpAny (model prog w) A x (λ v s1=>∃ e C dct vs,v=.ref e/\K.In s1.heap/\xcls K C=true/\typeIn K (.ref C)=some (.type "type")/\s1.heap.get? e=some (xobj C dct vs)/\vs[1]? = some .none/\E (.ref e) s1) E s) :
  wpAny (model prog w) A (raiseStmt env (some x) none) Q E s:=by
 unfold raiseStmt
 refine wpAny_bind (wpAny_mono h (λ v s1 z=>?_) λ _ _ z=>z)
 obtain ⟨e,C,dct,vs,rfl,X,c,ty,he,h1,q⟩:=z
 obtain ⟨hp,g,d,tk,os⟩:=s1
 have L:Looks (model prog w) hp (isType (.ref e)) false:=λ A' Q' E' s' k q=>by
  unfold isType loadHead
  exact wpAny_bind (wpAny_loadPart (k _ _ he) (wpAny_pure q))
 have T:Looks (model prog w) hp (typeOf (.ref e)) (.ref C):=(Looks.ld he).andThen .now
 obtain ⟨cd,hc,_,hm⟩:=xcls_of c
 have S:Looks (model prog w) hp (isInstance (.ref e) (.type "BaseException")) true:=T.andThen (looks_mroIn X (by
  unfold mroIn
  rw [hc,Option.bind_some,if_neg (by rw [refs_nil hm]; decide),refs_has "BaseException" (by decide) hm]))
 have N:Looks (model prog w) hp (isExcClass (.ref e)) false:=L.andThen .now
 have Y:=looks_typeIn (M:=model prog w) X ty
 have R:Looks (model prog w) hp (raisedInstance (.ref e)) (.ref e):=T.andThen (Y.andThen (by rw [if_pos (by decide)]; exact .now))
 have Z:Looks (model prog w) hp (excFromValue (.ref e) "exceptions must derive from BaseException") (.ref e):=by
  unfold excFromValue
  refine N.andThen ?_
  rw [if_neg Bool.false_ne_true]
  refine S.andThen ?_
  rw [if_pos rfl]
  exact .now
 refine wpAny_bind (wpAny_pure (wpAny_bind (wpAny_holding (Z.at ?_))))
 dsimp only
 refine wpAny_bind (L.at ?_)
 rw [if_neg Bool.false_ne_true]
 refine wpAny_bind (R.at ?_)
 unfold setFlight
 refine wpAny_bind (wpAny_bind (wpAny_field he rfl h1 ?_))
 rw [if_neg (by decide)]
 exact wpAny_pure (wpAny_raiseNew_none hh q)
end
end XO
namespace L2
open PySem PySem.Spec PyProof.Rows XO
noncomputable def XV (e C:Addr)(dct:Option Addr)(vs:Array Value):Heap->Prop:=λ h=>h.get? e=some (xobj C dct vs)
theorem xv_ok {P:Program}{w:World}{H:Hp}{h:Heap}{e C:Addr}{dct:Option Addr}{vs:Array Value}(z:h.get? e=some (xobj C dct vs)):ObjOk P w H h e (.ext (XV e C dct vs)):=⟨z,⟨_,z⟩,λ h1 h2 e1 k=>k _ e1⟩
section
variable {X:Cx}{pins:List (Addr×Obj)}{σ:St}{H:Hp}{s:Shared}{a dx C:Addr}
theorem Inv.wr2 {φ φ':Heap->Prop}{u:HO}{h':Heap}{t':Nat}(I:Inv X pins σ H s)(e:H a=some (.ext φ))(hp:s.heap.objs.size<=dx)(kp:∀ b o,b≠a->s.heap.get? b=some o->h'.get? b=some o)
  (o1:ObjOk X.prog X.w (upd (upd H dx u) a (.ext φ')) h' a (.ext φ'))(o2:ObjOk X.prog X.w (upd (upd H dx u) a (.ext φ')) h' dx u):Inv X pins σ (upd (upd H dx u) a (.ext φ')) { s with heap:=h',toks:=t' }:=by
 have hn:H dx=none:=I.hok.fresh hp
 have ne:dx≠a:=λ z=>by rw [z,e] at hn; cases hn
 have at_:∀ b,b≠a->b≠dx->(upd (upd H dx u) a (.ext φ')) b=H b:=λ b h1 h2=>by rw [upd_ne h1,upd_ne h2]
 have nd:∀ b v,H b=some v->b≠dx:=λ b v z w=>by rw [w,hn] at z; cases z
 have na:∀ b v,H b=some v->(∀ ψ,v ≠ .ext ψ)->b≠a:=λ b v z q w=>by rw [w,e] at z; cases z; exact q _ rfl
 refine I.un ⟨λ b o z n _ _=>kp b o (λ w=>by rw [w,e] at n; cases n) z,λ b o z n _ _=>⟨o.slots,kp b o (λ w=>by rw [w,e] at n; cases n) z⟩,λ b o z n _=>?_,λ b o z _=>?_,λ b xs z=>?_,λ b o v z=>?_,λ b ps z=>⟨#[],?_⟩⟩ (λ b o z=>?_)
 ·rw [at_ b (λ w=>by rw [w,e] at n; cases n) (Nat.ne_of_lt (Nat.lt_of_lt_of_le (Heap.lt_size z) hp))]; exact n
 ·by_cases hb:b=a
  ·subst hb; exact o1.2.1
  ·exact ⟨o,kp b o hb z⟩
 ·rw [at_ b (na b _ z λ _ w=>nomatch w) (nd b _ z)]; exact z
 ·rw [at_ b (na b _ z λ _ w=>nomatch w) (nd b _ z)]; exact z
 ·rw [at_ b (na b _ z λ _ w=>nomatch w) (nd b _ z),z]; simp
 ·by_cases hb:b=a
  ·subst hb; rw [upd_same] at z; cases z; exact o1
  ·rw [upd_ne hb] at z
   by_cases hb2:b=dx
   ·subst hb2; rw [upd_same] at z; cases z; exact o2
   ·rw [upd_ne hb2] at z
    refine (I.hok b o z).stay (λ c v hc q=>kp c v ?_ q) (λ c q=>?_) λ c xs q=>?_
    ·rcases hc with w | w
     ·rw [w]; exact hb
     ·exact na c _ w λ _ y=>nomatch y
    ·rw [at_ c (na c _ q λ _ w=>nomatch w) (nd c _ q)]; exact q
    ·rw [at_ c (na c _ q λ _ w=>nomatch w) (nd c _ q)]; exact q
end
section
variable {X:Cx}{o value:Expr}{f:Str}{pos pos':Pos}{ta tv:TE}{C:Addr}
noncomputable def sX0 (C:Addr)(ta tv:TE)(f:Str):TS:=λ D σ H=>tv σ H λ y H1=>ta σ H1 λ x H2=>∃ a vs,x=.ref a/\H2 a=some (.ext (XV a C none vs))/\∀ dx,H2 dx=none->dx≠a->D.nx σ (upd (upd H2 dx (.ext (DX dx [(f,y)]))) a (.ext (XV a C (some dx) vs)))
theorem ps_x0 (c:XC X.K C)(n:NoAttr X.K C f)(ha:PE X o ta)(hv:PE X value tv)(hs:swapsWith value (some (.Attribute o f pos')) pos.line X.env=pure false:=by rfl):PS X (.Assign [.Attribute o f pos'] value pos) (sX0 C ta tv f):=by
 intro pins s σ H D I h
 refine plainObj_wpAny_Assign_Attribute (thn (hv pins s σ H _ I h) λ u s1 ⟨y,H1,I1,ry,q⟩=>thn (ha pins s1 σ H1 _ I1 q) λ ov s2 ⟨x,H2,I2,rx,a,vs,ex,ea,q2⟩=>?_) hs
 subst ex
 obtain rfl:ov=Value.ref a:=rx
 have hx:s2.heap.get? a=some (xobj C _ vs):=(I2.hok a _ ea).1
 refine xset0 I2.kIn c.x c.sa n hx λ h' tk dx g1 g2 g3 g4 g5=>?_
 refine ⟨σ,_,I2.wr2 ea g1 g5 (xv_ok g3) (dx_ok ⟨_,g4,λ g=>?_,λ g hg=>?_⟩),q2 dx (I2.hok.fresh g1) g2⟩
 ·by_cases e:g=f
  ·subst e
   simp only [List.lookup,beq_self_eq_true,if_true]; exact ry
  ·simp only [List.lookup,beq_eq_false_iff_ne.mpr e,if_neg e]; exact True.intro
 ·by_cases e:g=f
  ·rw [e]; simp
  ·exact absurd (by show (if g=f then some u else none)=none; rw [if_neg e]) hg
end
noncomputable def xinit (C:Addr)(fs:List Str):Sp:=λ vs H Q _=>∃ e ys us,vs=.ref e :: ys/\ys.length=fs.length/\H e=some (.ext (XV e C none us))/\∀ dx,H dx=none->dx≠e->Q .non (upd (upd H dx (.ext (DX dx (fs.zip ys)))) e (.ext (XV e C (some dx) us)))
section
variable {P:Program}{w:World}{K:PySem.W.Frag}{mg:Str->Option Value}{base:Heap}{C f:Addr}{fd:FuncData}{qual:Str}{st:Stmt}
theorem init1 {p g:Str}{p1 p2 p3 p4:Pos}(F:Fun K "__init__" qual st f fd)(S:FnScope ["self",p] ["self",p] (defScope st))(c:XC K C)(n:NoAttr K C g)
  (hb:defBody st=[.Assign [.Attribute (.Name "self" p1) g p2] (.Name p p3) p4])(hs:∀ env,swapsWith (.Name p p3) (some (.Attribute (.Name "self" p1) g p2)) p4.line env=pure false)(hp:(p == ("__debug__" : Str))=false)(hc:(p == ("__classdict__" : Str))=false):FnOk P w K mg base CX0 1 f fd ["self",p] (xinit C [g]):=by
 refine F.ok (k:=0) S (λ vs H Q E ⟨e,ys,us,h1,h2,_⟩=>by rw [h1,List.length_cons,h2]; rfl) λ cdv A outer s H vs Q E hr h=>?_
 obtain ⟨e,ys,us,rfl,h2,h3,q⟩:=h
 obtain ⟨y,rfl⟩:∃ y,ys=[y]:=by
  match ys,h2 with
  | [y],_=>exact ⟨y,rfl⟩
 rw [hb]
 have v1:=S.par "self" (by simp)
 have v2:=S.par p (by simp)
 refine ⟨_,pss_one (ps_x0 c n (pe_var (i:=0) rfl (v1.elim .inl λ z=>.inr (.inl z)) (by decide) (by decide)) (pe_var (i:=1) rfl (v2.elim .inl λ z=>.inr (.inl z)) hp hc) (hs _)),?_⟩
 exact ⟨y,rfl,.ref e,rfl,e,us,rfl,h3,λ dx hd ne=>q dx hd ne⟩
end
end L2
namespace D
open PySem PySem.Spec PyProof.Rows L2 XO
theorem zip_pair {K:PySem.W.Frag}{H:Hp}:∀ (fs:List Str) {ws:List W} {vs:List V},RepWs K H ws vs->Paired (λ (p:Str×W) (q:Str×V)=>p.1=q.1/\RepW K H p.2 q.2) (fs.zip ws) (fs.zip vs)
 | [],_,_,_=>.nil
 | _ :: _,_,_,.nil=>.nil
 | f :: fs,_,_,.cons r t=>.cons ⟨rfl,r⟩ (zip_pair fs t)
section
variable {X:Cx}{pos p cpos:Pos}{k:Nat}{f C:Addr}{fd:FuncData}{ps fs:List Str}{x:Str}{e:Expr}{es:List Expr}{t:TAd}{E:XE}
noncomputable def dRaise (C:Addr)(fs:List Str)(E:XE)(t:TAd)(_:Ed)(τ:DS)(M:MH):Prop:=t τ M λ ws M1=>ws.length=fs.length/\ws.length<=1000/\∀ a,M1 a=none->E a τ (updM M1 a (.exc C (fs.zip ws)))
structure Xm (K:PySem.W.Frag)(C f:Addr):Prop where
 xc:XC K C
 xm:xmk K C=true
 ty:PySem.W.typeIn K (.ref C)=some (.type "type")
 hi:PySem.W.findIn K (.ref C) "__init__" = some (some (.ref f))
 hf:PySem.W.typeIn K (.ref f)=some (.type "function")
 kp:PySem.W.keepIn K (.ref C)=true
theorem psd_raise (L:Lk X E)(c:Xm X.K C f)(F:FnOk X.prog X.w X.K X.mg X.base CX0 k f fd ps (xinit C fs))(hr:Room (k+1) X.A)(hg:Gl X x)(hm:X.mg x=some (.ref C))(hb:Binds X.K fd ps [])(ha:PAd X (e :: es) t)
  (hdb:(x == ("__debug__" : Str))=false:=by decide)(h1:isSt e=false:=by rfl)(h2:(es.all λ e=>!isSt e)=true:=by rfl):PSd X (.Raise (some (.Call (.Name x p) (e :: es) [] cpos)) none pos) (dRaise C fs E t):=by
 intro pins s σ H D I h
 obtain ⟨τ,M,Dd,A,h,_⟩:=h
 rw [arm_exec_Raise]
 refine wpAny_bind (wpAny_standAt (raiseX (K:=X.K) hr.hd (wpAny_bind ?_)))
 refine wpAny_Call_Name_kw (ld_glob I hg hm ?_ hdb)
 refine PySem.W.callWith_K (h₀:=X.base) I.ok.mod.kin c.kp (thn (ha cpos pins s σ H (λ vs H1=>∃ ws M1,Kp H H1/\RepWs X.K H1 ws vs/\MAbs X.K H1 M1/\ws.length=fs.length/\ws.length<=1000/\∀ a,M1 a=none->E a τ (updM M1 a (.exc C (fs.zip ws)))) I
  ⟨τ,M,_,A,h,λ vs H1 ws M1 kp r m q=>⟨ws,M1,kp,r,m,q⟩⟩) λ us s1 ⟨vs,H1,I1,r,ws,M1,kp,rw1,m1,hl,hz,q⟩=>⟨I1.kIn,?_⟩) (star_ok e es X.env h1) (plain_ok cpos X.env es h2)
 have hlv:vs.length=fs.length:=by rw [<- rw1.length]; exact hl
 have e0:H1 (s1.heap.objs.size+1)=none:=I1.hok.fresh (Nat.le_succ _)
 have J:Inv X pins σ (upd H1 (s1.heap.objs.size+1) (.ext (XV (s1.heap.objs.size+1) C none #[.ref s1.heap.objs.size,.none,.none,.none,.bool false,.none]))) { s1 with heap:=(s1.heap.push { cls:=.type "tuple",data:=.seq us.toArray }).push (xraw C s1.heap.objs.size) }:=by
  have I2:=I1.kept (t':=s1.toks) (h':=s1.heap.push { cls:=.type "tuple",data:=.seq us.toArray }) λ b u z=>Heap.get?_push_of_some _ z
  refine I2.laid (t':=s1.toks) (λ b u z=>Heap.get?_push_of_some _ z) (by show (s1.heap.push _).objs.size<=_; rw [Heap.size_push]; exact Nat.le_refl _) (xv_ok ?_)
  have:=Heap.get?_push_size (s1.heap.push { cls:=.type "tuple",data:=.seq us.toArray }) (o:=xraw C s1.heap.objs.size) rfl
  rwa [Heap.size_push] at this
 have r2:Vals (V.ref (s1.heap.objs.size+1) :: vs) (Value.ref (s1.heap.objs.size+1) :: us):=.cons rfl r
 refine xcall (h:=s1.heap) (g:=s1.gens) (d:=s1.drawn) (t:=s1.toks) (os:=s1.os) I1.kIn c.xc c.xm c.hi c.hf (by show us.length<=_; have:=r.length; have:=rw1.length; have:=s16; omega) ?_
 have hq:=F.len (V.ref (s1.heap.objs.size+1) :: vs) (upd H1 (s1.heap.objs.size+1) (.ext (XV (s1.heap.objs.size+1) C none #[.ref s1.heap.objs.size,.none,.none,.none,.bool false,.none])))
  (λ v H3=>v=.non/\∃ dx,(upd H1 (s1.heap.objs.size+1) (.ext (XV (s1.heap.objs.size+1) C none #[.ref s1.heap.objs.size,.none,.none,.none,.bool false,.none]))) dx=none/\dx≠s1.heap.objs.size+1 /\
   H3=upd (upd (upd H1 (s1.heap.objs.size+1) (.ext (XV (s1.heap.objs.size+1) C none #[.ref s1.heap.objs.size,.none,.none,.none,.bool false,.none]))) dx (.ext (DX dx (fs.zip vs)))) (s1.heap.objs.size+1) (.ext (XV (s1.heap.objs.size+1) C (some dx) #[.ref s1.heap.objs.size,.none,.none,.none,.bool false,.none]))) E0
  ⟨_,vs,_,rfl,hlv,upd_same,λ dx hd ne=>⟨rfl,dx,hd,ne,rfl⟩⟩
 have bnd:=hb { s1 with heap:=(s1.heap.push { cls:=.type "tuple",data:=.seq us.toArray }).push (xraw C s1.heap.objs.size) } (Value.ref (s1.heap.objs.size+1) :: us) J.kIn (by rw [List.append_nil,<- r2.length]; exact hq)
 rw [List.append_nil] at bnd
 refine wpAny_call (codeAny_mono (F.run _ X.stack { s1 with heap:=(s1.heap.push { cls:=.type "tuple",data:=.seq us.toArray }).push (xraw C s1.heap.objs.size) } _ ⟨Value.ref (s1.heap.objs.size+1) :: us,[]⟩ _ _ (λ v H3=>v=.non/\∃ dx,(upd H1 (s1.heap.objs.size+1) (.ext (XV (s1.heap.objs.size+1) C none #[.ref s1.heap.objs.size,.none,.none,.none,.bool false,.none]))) dx=none/\dx≠s1.heap.objs.size+1 /\
   H3=upd (upd (upd H1 (s1.heap.objs.size+1) (.ext (XV (s1.heap.objs.size+1) C none #[.ref s1.heap.objs.size,.none,.none,.none,.bool false,.none]))) dx (.ext (DX dx (fs.zip vs)))) (s1.heap.objs.size+1) (.ext (XV (s1.heap.objs.size+1) C (some dx) #[.ref s1.heap.objs.size,.none,.none,.none,.bool false,.none]))) E0
  (hr.make C us []) (J.env0.make C us []) bnd r2 ⟨_,vs,_,rfl,hlv,upd_same,λ dx hd ne=>⟨rfl,dx,hd,ne,rfl⟩⟩) λ rr s' hq'=>?_)
 cases rr with
 | error e=>exact False.elim hq'
 | ok fl =>
  cases fl with
  | next=>exact False.elim hq'
  | brk=>exact False.elim hq'
  | cont=>exact False.elim hq'
  | ret u =>
   obtain ⟨v,H3,I3,rv,ev,dx,hd,ne,eH⟩:=J.after hq'
   subst ev
   refine ⟨rv,wpAny_bind (wpAny_standAt (wpAny_pure ?_))⟩
   generalize ha0:s1.heap.objs.size+1=a at *
   generalize hu0:(#[.ref s1.heap.objs.size,.none,.none,.none,.bool false,.none]:Array Value)=u0 at *
   have e3a:H3 a=some (.ext (XV a C (some dx) u0)):=by rw [eH,upd_same]
   have e3d:H3 dx=some (.ext (DX dx (fs.zip vs))):=by rw [eH,upd_ne ne,upd_same]
   have oa:s'.heap.get? a=some (xobj C (some dx) u0):=(I3.hok a _ e3a).1
   obtain ⟨⟨mA,n1,r1,w1⟩,⟨od,hod⟩,_⟩:=I3.hok dx _ e3d
   have I4:=I3.write (x:=dx) (e:=dx) (o:=.frz od (.xd (fs.zip vs))) (h':=s'.heap) (t':=s'.toks) (by rw [e3d]; exact True.intro) (.inl rfl) (λ b q _ z=>z) ⟨od,hod⟩ ⟨hod,mA,n1,r1⟩
   have e4a:(upd H3 dx (.frz od (.xd (fs.zip vs)))) a=some (.ext (XV a C (some dx) u0)):=by rw [upd_ne (Ne.symm ne)]; exact e3a
   have I5:=I4.write (x:=a) (e:=a) (o:=.ext (XF a C (some dx))) (h':=s'.heap) (t':=s'.toks) (by rw [e4a]; exact True.intro) (.inl rfl) (λ b q _ z=>z) ⟨_,oa⟩ (xf_ok oa)
   have hdx:H1 dx=none:=by rw [upd_ne ne] at hd; exact hd
   have at5:∀ b,b≠a->b≠dx->(upd (upd H3 dx (.frz od (.xd (fs.zip vs)))) a (.ext (XF a C (some dx)))) b=H1 b:=λ b z1 z2=>by rw [upd_ne z1,upd_ne z2,eH,upd_ne z1,upd_ne z2,upd_ne z1]
   have st:∀ b u,H1 b=some u->(upd (upd H3 dx (.frz od (.xd (fs.zip vs)))) a (.ext (XF a C (some dx)))) b=some u:=λ b u z=>by
    rw [at5 b (λ y=>by rw [y,e0] at z; cases z) (λ y=>by rw [y,hdx] at z; cases z)]; exact z
   have k5:Kp H1 (upd (upd H3 dx (.frz od (.xd (fs.zip vs)))) a (.ext (XF a C (some dx)))):=⟨λ b xs z=>st b _ z,λ b o u z=>st b _ z⟩
   have m5:MAbs X.K (upd (upd H3 dx (.frz od (.xd (fs.zip vs)))) a (.ext (XF a C (some dx)))) (updM M1 a (.exc C (fs.zip ws))):=λ b mo z=>by
    by_cases hb:b=a
    ·subst hb
     rw [updM_same] at z
     cases z
     exact ⟨_,some dx,upd_same,λ h ⟨vs,y⟩=>⟨vs,y⟩,.inr ⟨dx,od,fs.zip vs,rfl,by rw [upd_ne ne,upd_same],zip_pair fs (rw1.keep k5)⟩⟩
    ·rw [updM_ne hb] at z
     exact (m1 b mo z).keep k5 λ u y=>st b u y
   refine ⟨a,C,some dx,u0,rfl,I5.kIn,c.xc.x,c.ty,oa,by rw [<- hu0]; rfl,?_⟩
   exact L pins σ _ s' a τ _ I5 ⟨C,some dx,u0,upd_same,oa,.inl (by rw [<- hu0]; rfl)⟩ (A.go (kp.trans k5) m5) (q a (m1.free e0))
end
end D
namespace L2
open PySem PySem.Spec PyProof.Rows XO
noncomputable def mixH (H₀ H:Hp):Hp:=λ b=>match H b with
 | some (.tup xs)=>some (.tup xs)
 | some (.frz o u)=>some (.frz o u)
 | _=>H₀ b
theorem mix_tup {H₀ H:Hp}{b:Addr}{xs:List V}(h:H b=some (.tup xs)):mixH H₀ H b=some (.tup xs):=by unfold mixH; rw [h]
theorem mix_frz {H₀ H:Hp}{b:Addr}{o:Obj}{u:HO}(h:H b=some (.frz o u)):mixH H₀ H b=some (.frz o u):=by unfold mixH; rw [h]
theorem mix_of {H₀ H:Hp}{b:Addr}{v:HO}(h:mixH H₀ H b=some v):H₀ b=some v\/H b=some v:=by
 unfold mixH at h
 split at h
 ·rename_i e; rw [e]; exact .inr h
 ·rename_i e; rw [e]; exact .inr h
 ·exact .inl h
theorem mix_none {H₀ H:Hp}{b:Addr}(h:mixH H₀ H b=none):H₀ b=none:=by
 unfold mixH at h
 split at h
 ·cases h
 ·cases h
 ·exact h
theorem none_mix {H₀ H:Hp}{b:Addr}(h:H₀ b=none)(h2:H b=none):mixH H₀ H b=none:=by
 unfold mixH; rw [h2]; exact h
noncomputable abbrev Cx.trying (X:Cx)(H0:Hp)(pn:List (Addr×Obj))(xe:Value->Shared->Prop):Cx:={ X with H₀:=H0,pn:=pn,xe:=xe }
noncomputable abbrev Cx.caught (X:Cx)(a:Addr):Cx:={ X with A:=X.A.mark (some (.ref a)),calm:=false,xe:=λ _ _=>False }
section
variable {X:Cx}{pins:List (Addr×Obj)}{σ:St}{H:Hp}{s:Shared}{xe:Value->Shared->Prop}
theorem Inv.fsFree (I:Inv X pins σ H s):∀ b∈X.fs,H b=none:=λ b hb=>by
 obtain ⟨_,o,ho,_⟩:=I.ok.funs.mem hb
 exact I.base.free b o ho (I.ok.frf b hb) λ z=>I.ok.exfs b z hb
theorem Inv.intry (I:Inv X pins σ H s):Inv (X.trying (mixH X.H₀ H) (X.pn++pins) xe) [] σ H s:=by
 refine ⟨⟨I.ok.mod,I.ok.kind,I.ok.glob,I.ok.blt,I.ok.above,I.ok.inj,I.ok.has,I.ok.cab,I.ok.hd,I.ok.frames,I.ok.stk,I.ok.exf,λ b o e=>⟨(I.ok.bs b o e).1,none_mix (I.ok.bs b o e).2 (I.bs b o e).2⟩,I.ok.bsz,I.ok.noex,I.ok.exfs,I.ok.funs,λ b hb=>none_mix (I.ok.frf b hb) (I.fsFree b hb)⟩,
  I.os,I.bare,⟨λ b o e n hb hx=>I.base.keep b o e (mix_none n) hb hx,λ b o e n hb hx=>I.base.slot b o e (mix_none n) hb hx,λ b o e n hx=>I.base.free b o e (mix_none n) hx,I.base.there,λ b xs e=>?_,λ b o u e=>?_,λ b ps e=>?_⟩,
  I.loc,I.cell,I.free,I.freeC,λ p hp=>I.pin p (by simpa using hp),I.hok,I.len⟩
 ·rcases mix_of e with z | z
  ·exact I.base.tups b xs z
  ·exact z
 ·rcases mix_of e with z | z
  ·exact I.base.frzs b o u z
  ·exact z
 ·rcases mix_of e with z | z
  ·exact I.base.tbls b ps z
  ·exact ⟨#[],by rw [z]; simp⟩
theorem Inv.outof {pins':List (Addr×Obj)}{σ':St}{H':Hp}{s':Shared}(I:Inv X pins σ H s)(J:Inv (X.trying (mixH X.H₀ H) (X.pn++pins) xe) pins' σ' H' s'):Inv X pins σ' H' s':=by
 have nn:∀ b o,X.s₀.heap.get? b=some o->X.H₀ b=none->b ∉ X.ex->mixH X.H₀ H b=none:=λ b o e n hx=>none_mix n (I.base.free b o e n hx)
 exact ⟨I.ok,J.os,J.bare,⟨λ b o e n hb hx=>J.base.keep b o e (nn b o e n hx) hb hx,λ b o e n hb hx=>J.base.slot b o e (nn b o e n hx) hb hx,λ b o e n hx=>J.base.free b o e (nn b o e n hx) hx,J.base.there,λ b xs e=>J.base.tups b xs (mix_tup (I.base.tups b xs e)),λ b o u e=>J.base.frzs b o u (mix_frz (I.base.frzs b o u e)),λ b ps e=>by
  obtain ⟨m1,e1⟩:=I.base.tbls b ps e
  refine J.base.tbls b ps ?_
  show mixH X.H₀ H b=_
  unfold mixH
  rw [e1]; exact e⟩,J.loc,J.cell,J.free,J.freeC,λ p hp=>J.pin p (List.mem_append_left _ hp),J.hok,J.len⟩
theorem Inv.caught (I:Inv X pins σ H s)(a:Addr):Inv (X.caught a) pins σ H s :=
 ⟨⟨I.ok.mod,I.ok.kind,I.ok.glob,I.ok.blt,I.ok.above,I.ok.inj,I.ok.has,I.ok.cab,(λ z=>nomatch z),I.ok.frames,I.ok.stk,I.ok.exf,I.ok.bs,I.ok.bsz,I.ok.noex,I.ok.exfs,I.ok.funs,I.ok.frf⟩,I.os,I.bare,I.base,I.loc,I.cell,I.free,I.freeC,I.pin,I.hok,I.len⟩
theorem Inv.uncaught {a:Addr}(ok:X.Ok)(I:Inv (X.caught a) pins σ H s):Inv X pins σ H s:=⟨ok,I.os,I.bare,I.base,I.loc,I.cell,I.free,I.freeC,I.pin,I.hok,I.len⟩
theorem Inv.gone {m':Str->Option Value}{h':Heap}{t':Nat}(I:Inv X pins σ H s)(hn:h'.Ns X.env.locals m')(sb:Heap.SameBut X.env.locals s.heap h'):Inv X pins (List.replicate σ.length none) H { s with heap:=h',toks:=t' }:=by
 have ne:∀ b o,X.s₀.heap.get? b=some o->b≠X.env.locals:=λ b o e=>Nat.ne_of_lt (Nat.lt_of_lt_of_le (Heap.lt_size e) I.ok.above)
 refine ⟨I.ok,I.os,I.bare,⟨λ b o e n hb hx=>(sb.2 b (ne b o e)).trans (I.base.keep b o e n hb hx),λ b o e n hb hx=>?_,I.base.free,λ b o e hx=>?_,I.base.tups,I.base.frzs,I.base.tbls⟩,⟨m',hn,λ i x v e1 e2 e3=>?_⟩,λ x c e=>?_,I.free,I.freeC,λ p hp=>?_,λ b o e=>?_,by rw [List.length_replicate]; exact I.len⟩
 ·obtain ⟨sl,z⟩:=I.base.slot b o e n hb hx
  exact ⟨sl,(sb.2 b (ne b o e)).trans z⟩
 ·obtain ⟨o',z⟩:=I.base.there b o e hx
  exact ⟨o',(sb.2 b (ne b o e)).trans z⟩
 ·rw [List.getElem?_replicate] at e2
  split at e2 <;> cases e2
 ·obtain ⟨v,z⟩:=I.cell x c e
  exact ⟨v,z.sameBut sb (I.cne x c e)⟩
 ·obtain ⟨z,n,nl,nf,d⟩:=I.pin p hp
  exact ⟨(sb.2 p.1 nl).trans z,n,nl,nf,d⟩
 ·refine (I.hok b o e).stay (λ c u hc q=>(sb.2 c λ z=>?_).trans q) (λ _ q=>q) λ _ _ q=>q
  rcases hc with y | y
  ·rw [z] at y; rw [<- y,I.free] at e; cases e
  ·rw [z,I.free] at y; cases y
theorem Air.flight {M:Model}{A:Around}{E:Value->Shared->Prop}{Q:Unit->Shared->Prop}{a:Addr}(air:Air H s.heap a)(q:Q () s):wpAny M A (setFlight (.ref a) none) Q E s:=by
 obtain ⟨C,dct,vs,e1,e2,tb⟩:=air
 unfold setFlight
 rcases tb with z | ⟨T,oT,ts,z1,z2,z3,z4,z5⟩
 ·refine wpAny_bind (wpAny_field e2 rfl z ?_)
  rw [if_neg (by decide)]
  exact wpAny_pure q
 ·refine wpAny_bind (wpAny_field e2 rfl z1 ?_)
  rw [if_pos (show (Value.ref T != Value.none)=true from by simp)]
  refine wpAny_setField z3 z4 (Array.getElem?_eq_some_iff.mp z5).1 ?_
  rw [show ((none:Option Addr).elim Value.none λ f=>rawInt f)=Value.none from rfl,Heap.update_setField_same s.heap T oT ts 3 .none z3 z4 z5]
  exact q
end
end L2
namespace D
open PySem PySem.Spec PyProof.Rows L2 XO
theorem Abs.forget {K:PySem.W.Frag}{H:Hp}{σ:St}{τ:DS}{M:MH}(h:Abs K H σ τ M):Abs K H (List.replicate σ.length none) (List.replicate τ.length none) M:=by
 refine ⟨by simp [h.len],λ i w e=>?_,h.mem⟩
 rw [List.getElem?_replicate] at e
 split at e <;> cases e
section
variable {X:Cx}{pos np hpos:Pos}{body suite:List Stmt}{b0:Stmt}{hs:List ExceptHandler}{h0:ExceptHandler}{tb:XE->TSd}{th rest:Addr->TSd}{ts:TSd}
noncomputable def PHd (X:Cx)(hs:List ExceptHandler)(th:Addr->TSd):Prop:=∀ (pins:List (Addr×Obj)) (σ:St) (H:Hp) (s:Shared) (a:Addr) (D:Ends),Inv X pins σ H s->Air H s.heap a->upS X.K (th a) D σ H->wpAny (model X.prog X.w) X.A (handleBy (.ref a) X.env hs) (SP X pins D) X.xe s
noncomputable def dTry (tb:XE->TSd)(th:Addr->TSd)(D:Ed)(τ:DS)(M:MH):Prop:=tb (λ a τ' M'=>th a D τ' M') D τ M
theorem psd_try (hst:X.stack=X.env :: X.outer)(hf:X.env.frame=some X.env.locals)
  (hb:∀ (H0:Hp) (pn:List (Addr×Obj)) (xe:Value->Shared->Prop) (E:XE),Lk (X.trying H0 pn xe) E->PassesOwn (model X.prog X.w) X.A X.env xe->PSsd (X.trying H0 pn xe) body (tb E))(hh:PHd X (h0 :: hs) th):PSd X (.Try body (h0 :: hs) [] [] pos) (dTry tb th):=by
 intro pins s σ H D I h
 obtain ⟨τ,M,Dd,A,h,k1,k2,k3,k4⟩:=h
 refine wpAny_Try_except ?_
 refine wpAny_mono (hb (mixH X.H₀ H) (X.pn++pins) (λ e s1=>wpAny (model X.prog X.w) X.A (noteFrame e X.env) (λ _ s2=>wpAny (model X.prog X.w) X.A (setFlight e none) (λ _ s3=>wpAny (model X.prog X.w) X.A (handleBy e X.env (h0 :: hs)) (SP X pins D) X.xe s3) X.xe s2) X.xe s1)
  (λ a τ' M'=>th a Dd τ' M') (λ pins' σ' H' s' a τ' M' J air ab e=>?_) PassesOwn.looking [] s σ H D I.intry ⟨τ,M,Dd,A,h,k1,k2,k3,k4⟩) (λ f s1 q=>?_) λ _ _ z=>z
 ·have J2:=I.outof J
  have kp:Kp H H':=⟨λ b xs z=>J.base.tups b xs (mix_tup z),λ b o u z=>J.base.frzs b o u (mix_frz z)⟩
  refine J2.lookX J2.ok.frames hst hf air λ s3 J3 air3=>hh pins σ' H' s3 a D J3 air3 ⟨τ',M',Dd,ab,e,λ σ2 H2 τ2 M2 k=>k1 σ2 H2 τ2 M2 (kp.trans k),λ v H2 w M2 k=>k2 v H2 w M2 (kp.trans k),λ σ2 H2 τ2 M2 k=>k3 σ2 H2 τ2 M2 (kp.trans k),λ σ2 H2 τ2 M2 k=>k4 σ2 H2 τ2 M2 (kp.trans k)⟩
 ·cases f with
  | next=>obtain ⟨σ',H',J,q⟩:=q; exact wpAny_execs_nil ⟨σ',H',I.outof J,q⟩
  | brk=>obtain ⟨σ',H',J,q⟩:=q; exact ⟨σ',H',I.outof J,q⟩
  | cont=>obtain ⟨σ',H',J,q⟩:=q; exact ⟨σ',H',I.outof J,q⟩
  | ret u=>obtain ⟨v,σ',H',J,r,q⟩:=q; exact ⟨v,σ',H',I.outof J,r,q⟩
theorem ph_none:PHd X hs (λ _ _ _ _=>False):=λ pins σ H s a D I air ⟨τ,M,Dd,_,h,_⟩=>h.elim
noncomputable def dHand (tab:Addr->Option Bool)(i:Nat)(ts:TSd)(rest:Addr->TSd)(a:Addr)(D:Ed)(τ:DS)(M:MH):Prop:=∃ C fs b,M a=some (.exc C fs)/\tab C=some b /\
 if b=true then ts { nx:=λ τ2 M2=>D.nx (List.replicate τ2.length none) M2,rt:=D.rt,bk:=λ τ2 M2=>D.bk (List.replicate τ2.length none) M2,ct:=λ τ2 M2=>D.ct (List.replicate τ2.length none) M2 } (τ.set i (some (.m a))) M else rest a D τ M
theorem Air.cls {K:PySem.W.Frag}{H:Hp}{h:Heap}{a C:Addr}{M:MH}{fs:List (Str×W)}(air:Air H h a)(m:MAbs K H M)(e:M a=some (.exc C fs)):∃ dct vs,h.get? a=some (xobj C dct vs):=by
 obtain ⟨C',dct,vs,e1,e2,_⟩:=air
 obtain ⟨φ,dct',g1,g2,_⟩:=m a _ e
 rw [e1] at g1
 cases g1
 obtain ⟨vs',e3⟩:=g2 h ⟨vs,e2⟩
 exact ⟨_,vs',e3⟩
theorem test_ok {pins:List (Addr×Obj)}{σ:St}{H:Hp}{s:Shared}{a C D:Addr}{x:Str}{b:Bool}{R:Result->Shared->Prop}(I:Inv X pins σ H s)(hg:Gl X x)(hm:X.mg x=some (.ref D)){dct:Option Addr}{vs:Array Value}(he:s.heap.get? a=some (xobj C dct vs))
  (ht:PySem.W.exmOne X.K (.ref C) (.ref D)=some b)(hdb:(x == ("__debug__" : Str))=false)(q:R (.ok (if b then .brk else .next)) s) :
  codeAny (model X.prog X.w) (X.A.mark (some (.ref a))) (.handlers (.ref a) [.ExceptHandler (some (.Name x np)) none [] hpos] X.env) R s:=by
 refine codeAny_handlers_test (ld_glob (X:=X.caught a) (I.caught a) hg hm ?_ hdb)
 exact (PySem.W.exm_one (M:=model X.prog X.w) I.kIn ((PySem.W.Looks.ld he).andThen .now) ht).here q
theorem ph_as {x n:Str}{i:Nat}{Dc:Addr}{tab:Addr->Option Bool}(hg:Gl X x)(hm:X.mg x=some (.ref Dc))(ht:∀ C b,tab C=some b->PySem.W.exmOne X.K (.ref C) (.ref Dc)=some b)(hN:X.N.Nodup)(hi:X.N[i]? = some n)(hl:X.env.scope.names.lookup n=some .local)(hk:X.env.scope.kind=.function)
  (hsu:∀ a,PSsd (X.caught a) (b0 :: suite) ts)(hr:PHd X hs rest)(hdb:(x == ("__debug__" : Str))=false:=by decide):PHd X (.ExceptHandler (some (.Name x np)) (some n) (b0 :: suite) hpos :: hs) (dHand tab i ts rest):=by
 intro pins σ H s a Dn I air h
 obtain ⟨τ,M,Dd,A,⟨C,fs,b,hma,htb,h⟩,k1,k2,k3,k4⟩:=h
 obtain ⟨dct,vs,he⟩:=Air.cls air A.mem hma
 refine wpAny_handleBy_cons (test_ok I hg hm he (ht C b htb) hdb ?_) (by intro q; cases q)
 cases b with
 | false=>exact hr pins σ H s a Dn I air ⟨τ,M,Dd,A,h,k1,k2,k3,k4⟩
 | true =>
  rw [if_pos rfl] at h
  refine codeAny_handlers_suite_as (air.flight ?_)
  refine store_ok (X:=X.caught a) (i:=i) (v:=.ref a) (I.caught a) hN hi (.inl hl) rfl (λ s2 J=>?_) (.inr hl)
  have gone:∀ {σ3:St} {H3:Hp} {s3:Shared} {Q:Unit->Shared->Prop},Inv (X.caught a) pins σ3 H3 s3->(∀ s4,Inv X pins (List.replicate σ3.length none) H3 s4->Q () s4)->wpAny (model X.prog X.w) X.A (do bindName X.env n .none; unbindBehindTheSuite X.env n hpos) Q X.xe s3:=λ {σ3 H3 s3 Q} J3 q=>by
   obtain ⟨m,hn,_⟩:=J3.loc
   refine wpAny_nameGoes hl hn (by rw [hk]; rfl) λ h' m' hn' sb=>q _ ((J3.uncaught I.ok).gone hn' sb)
  have ab2:=A.set i (v:=.ref a) (w:=.m a) rfl
  refine wpAny_mono (hsu a pins s2 _ H { nx:=λ σ2 H2=>Dn.nx (List.replicate σ2.length none) H2,rt:=Dn.rt,bk:=λ σ2 H2=>Dn.bk (List.replicate σ2.length none) H2,ct:=λ σ2 H2=>Dn.ct (List.replicate σ2.length none) H2 } J ⟨_,M,_,ab2,h,λ σ2 H2 τ2 M2 kp A2 q=>?_,λ v H2 w M2 kp r m q=>k2 v H2 w M2 kp r m q,λ σ2 H2 τ2 M2 kp A2 q=>?_,λ σ2 H2 τ2 M2 kp A2 q=>?_⟩) (λ f s3 q=>?_) λ _ _ z=>z.elim
  ·exact k1 _ H2 _ M2 kp A2.forget q
  ·exact k3 _ H2 _ M2 kp A2.forget q
  ·exact k4 _ H2 _ M2 kp A2.forget q
  ·cases f with
   | next=>obtain ⟨σ3,H3,J3,q⟩:=q; exact gone J3 λ s4 J4=>⟨_,H3,J4,q⟩
   | brk=>obtain ⟨σ3,H3,J3,q⟩:=q; exact gone J3 λ s4 J4=>⟨_,H3,J4,q⟩
   | cont=>obtain ⟨σ3,H3,J3,q⟩:=q; exact gone J3 λ s4 J4=>⟨_,H3,J4,q⟩
   | ret u=>obtain ⟨v,σ3,H3,J3,r,q⟩:=q; exact gone J3 λ s4 J4=>⟨v,_,H3,J4,r,q⟩
end
end D
namespace D
open PySem PySem.Spec PyProof.Rows L2 XO
section
variable {X:Cx}{pos p:Pos}{o ce:Expr}{td:TD}{f:Str}
theorem exc_at {pins:List (Addr×Obj)}{σ:St}{H:Hp}{s:Shared}{M:MH}{a C:Addr}{fs:List (Str×W)}(I:Inv X pins σ H s)(m:MAbs X.K H M)(e:M a=some (.exc C fs)) :
  (∃ ox od,PySem.W.InstAt s.heap a ox C od)/\(∀ w,fs.lookup f=some w->∃ v u ox od,RepW X.K H w v/\RelV v u/\PySem.W.InstAt s.heap a ox C (some od)/\PySem.W.lookIn f od=some (some u)):=by
 obtain ⟨φ,dct,e1,e2,e3⟩:=m a _ e
 obtain ⟨vs,hx⟩:=e2 s.heap (I.hok a _ e1).1
 rcases e3 with ⟨rfl,rfl⟩ | ⟨dx,o,l,rfl,e4,pr⟩
 ·exact ⟨⟨_,none,hx,rfl,rfl,True.intro⟩,λ w z=>nomatch z⟩
 ·obtain ⟨ho,mA,n1,r1⟩:=I.hok dx _ e4
  refine ⟨⟨_,some o,hx,rfl,rfl,ho⟩,λ w z=>?_⟩
  have g:=fr_lookup f pr
  rw [z] at g
  obtain ⟨v,eb,rb⟩:=OR.some_of g
  obtain ⟨u,hu,ru⟩:=RelO.some_of (v:=v) (o:=mA f) (by rw [<- eb]; exact r1 f)
  obtain ⟨od,g1,g2⟩:=lookIn_ns n1
  exact ⟨v,u,_,od,rb,ru,⟨hx,rfl,rfl,g1⟩,by rw [g2,hu]⟩
noncomputable def dXFld (cs:List Addr)(td:TD)(f:Str)(τ:DS)(M:MH)(Q:QD):Prop:=td τ M λ w M1=>∃ a C fs v,w=.m a/\M1 a=some (.exc C fs)/\C∈cs/\fs.lookup f=some v/\Q v M1
theorem pd_xfld {cs:List Addr}(hc:∀ C∈cs,XC X.K C/\NoAttr X.K C f)(he:PD X o td)(hb:attributeBase o f X.env (eval o X.env)=eval o X.env:=by rfl):PD X (.Attribute o f pos) (dXFld cs td f):=by
 intro pins s σ H Q I h
 obtain ⟨τ,M,Qd,A,h,k⟩:=h
 refine attr_of hb (thn (he pins s σ H (λ x H1=>∃ w M1,Kp H H1/\RepW X.K H1 w x/\MAbs X.K H1 M1/\∃ a C fs v,w=.m a/\M1 a=some (.exc C fs)/\C∈cs/\fs.lookup f=some v/\Qd v M1) I ⟨τ,M,_,A,h,λ v H1 w M1 kp r m q=>⟨w,M1,kp,r,m,q⟩⟩)
  λ u s1 ⟨x,H1,I1,rx,w,M1,kp,r1,m1,a,C,fs,v,ew,hma,hC,hl,q⟩=>?_)
 subst ew
 cases (show x=.ref a from r1)
 obtain rfl:u=Value.ref a:=rx
 obtain ⟨v',u',ox,od,rv,ru,J,lo⟩:=(exc_at (f:=f) I1 m1 hma).2 v hl
 obtain ⟨xc,na⟩:=hc C hC
 obtain ⟨cd,hcd,hd,_⟩:=xcls_of xc.x
 refine xget I1.kIn xc J (PySem.W.findObj_own (by unfold PySem.W.hasDictIn; rw [hcd]; exact hd) na rfl lo) (handed_of ru) ?_
 exact ⟨v',H1,I1.tok _,ru,k v' H1 v M1 kp rv m1 q⟩
noncomputable def vval:V->Value
 | .ref a=>.ref a
 | .ty n=>.type n
 | _=>.none
noncomputable def isCls:V->Bool
 | .ref _=>true
 | .ty _=>true
 | _=>false
theorem vval_of:∀ {v:V} {u:Value},isCls v=true->RelV v u->u=vval v
 | .ref _,_,_,r=>r
 | .ty _,_,_,r=>r
 | .non,_,h,_=>nomatch h
 | .bl _,_,h,_=>nomatch h
 | .int _,_,h,_=>nomatch h
 | .str _,_,h,_=>nomatch h
 | .byt _,_,h,_=>nomatch h
 | .flt _,_,h,_=>nomatch h
theorem vvals_of:∀ {cs:List V} {us:List Value},(∀ c∈cs,isCls c=true)->Vals cs us->us=cs.map vval
 | _,_,_,.nil=>rfl
 | _,_,h,.cons r t=>by rw [vval_of (h _ (by simp)) r,vvals_of (λ c hc=>h c (by simp [hc])) t]; rfl
noncomputable def IsC (H:Hp)(v:V)(cs:List V):Prop:=cs=[v]\/∃ t,v=.ref t/\H t=some (.tup cs)
noncomputable def rIsX (K:PySem.W.Frag)(xs:List V)(H:Hp)(Q:VK):Prop:=∃ a C c cs b M fs,xs=[.ref a,c]/\MAbs K H M/\M a=some (.exc C fs)/\IsC H c cs/\(∀ c∈cs,isCls c=true)/\XC K C/\PySem.W.kitAny K (.ref C) (cs.map vval)=some b/\Q (.bl b) H
theorem call_isX:CallR X (.builtin "isinstance") (rIsX X.K):=by
 intro pins s σ H xs us Q I r h
 obtain ⟨a,C,c,cs,b,M,fs,rfl,m,e,hc,hcs,xc,kb,q⟩:=h
 obtain ⟨u,w,rfl,r1,r2⟩:=vals2 r
 cases (show u=Value.ref a from r1)
 obtain ⟨⟨ox,od,J⟩,_⟩:=exc_at (f := "") I m e
 have fin:∀ tk,EP X pins σ Q (.bool b) { s with toks:=tk }:=λ tk=>⟨.bl _,H,I.tok _,rfl,q⟩
 rcases hc with rfl | ⟨t,rfl,ht⟩
 ·have e1:=vval_of (hcs c (by simp)) r2
  subst e1
  have e2:PySem.W.kitOne X.K (.ref C) (vval c)=some b:=by
   simp only [List.map_cons,List.map_nil,PySem.W.kitAny] at kb
   split at kb
   ·rename_i z; rw [z,kb]
   ·rename_i z; rw [z,kb]
   ·cases kb
  exact PySem.W.kia_one (kitx_x xc) I.kIn J e2 (λ z=>nomatch z) fin
 ·cases (show w=Value.ref t from r2)
  obtain ⟨_,its,rv,⟨o,g1,g2,_,n,g3⟩⟩:=I.hok t _ ht
  have e1:=vvals_of hcs rv
  subst e1
  obtain ⟨c1,c2,c3,c4⟩:=o
  cases g2
  cases g3
  exact PySem.W.kia_tup (kitx_x xc) I.kIn J g1 kb (λ z=>nomatch z) fin
noncomputable def dIsX (tab:Addr->Option Bool)(td:TD)(τ:DS)(M:MH)(Q:QD):Prop:=td τ M λ w M1=>∃ a C fs b,w=.m a/\M1 a=some (.exc C fs)/\tab C=some b/\Q (.d (.bool b)) M1
noncomputable def CTm (cs:List V)(tc:TE):Prop:=∀ σ H (Q:VK),(∀ v H',(∀ b u,H b=some u->H' b=some u)->IsC H' v cs->Q v H')->tc σ H Q
theorem ctm_one (v:V):CTm [v] (tC v):=λ σ H Q h=>h v H (λ _ _ z=>z) (.inl rfl)
theorem ctm_tup {t:TA}{cs:List V}(h:∀ σ H (Q:List V->Hp->Prop),Q cs H->t σ H Q)(hz:cs.length<=1000):CTm cs (tTup t):=λ σ H Q k=>h σ H _ ⟨by have:=s16; omega,λ p hp=>k (.ref p) _ (λ b u z=>by rw [upd_ne (ne_of_none z hp)]; exact z) (.inr ⟨p,rfl,upd_same⟩)⟩
theorem pd_isX {cs:List V}{tc:TE}{tab:Addr->Option Bool}(ht:∀ C b,tab C=some b->XC X.K C/\PySem.W.kitAny X.K (.ref C) (cs.map vval)=some b)(hcs:(cs.all isCls)=true)(hg:Gl X "isinstance")(hm:X.mg "isinstance" = none)(ho:PD X o td)(hc:PE X ce tc)(ct:CTm cs tc)
  (h1:isSt o=false:=by rfl)(h2:isSt ce=false:=by rfl):PD X (.Call (.Name "isinstance" p) [o,ce] [] pos) (dIsX tab td):=by
 refine pe_w (pe_callB call_isX hg hm bb_isinstance (pa_cons ho (pa_cons hc pa_nil (star_ok ce [] X.env h2)) (star_ok o [ce] X.env h1)) (by decide) (by decide) (star_ok o [ce] X.env h1) (plain_ok pos X.env [ce] (by simp [h2]))) λ σ H Q h=>?_
 obtain ⟨τ,M,Qd,A,h,k⟩:=h
 refine ⟨τ,M,_,A,h,λ v H1 w M1 kp r m hq70=>?_⟩
 obtain ⟨a,C,fs,b,ew,hma,htb,q⟩:=hq70
 subst ew
 cases (show v=.ref a from r)
 refine ct σ H1 _ λ c H2 st ic=>?_
 obtain ⟨xc,kb⟩:=ht C b htb
 have kp2:Kp H1 H2:=⟨λ b xs z=>st b _ z,λ b o u z=>st b _ z⟩
 have m2:MAbs X.K H2 M1:=λ b mo z=>(m b mo z).keep kp2 λ u y=>st b u y
 exact ⟨a,C,c,cs,b,M1,fs,rfl,m2,hma,ic,λ c hc=>List.all_eq_true.mp hcs c hc,xc,kb,k (.bl b) H2 (.d (.bool b)) M1 (kp.trans kp2) rfl m2 q⟩
end
theorem bt_ValueError:bootBuiltins "ValueError" = some (.type "ValueError"):=by decide +kernel
end D
namespace D
open PySem PySem.Spec PyProof.Rows L2 XO
structure Xi (K:PySem.W.Frag)(C:Addr)(qual:Str)(st:Stmt)(ps:List Str)(f:Addr)(fd:FuncData):Prop where
 fn:Fun K "__init__" qual st f fd
 xm:Xm K C f
 bd:L2.Binds K fd ps []
theorem xi_mk {K:PySem.W.Frag}{C:Addr}{qual:Str}{st:Stmt}{ps:List Str}{f:Addr}{oc:Value}{od an:Option Addr}{osl:Array (Option Value)}{kV doc pm cdv ct:Value}(xc:XC K C)(a:PySem.W.findIn K (.ref C) "__init__" = some (some (.ref f)))(i:PySem.W.typeIn K (.ref f)=some (.type "function"))
  (l:K.lookup f=some ⟨oc,od,.func (PySem.W.fnOf "__init__" qual (defArgs st) (defBody st) (defScope st) .none kV doc pm an cdv ct),osl⟩)(c:PySem.W.codeIn K cdv qual=true)(k:PySem.W.keepIn K (.ref f)=true)(m:xmk K C=true)(ty:PySem.W.typeIn K (.ref C)=some (.type "type"))(kc:PySem.W.keepIn K (.ref C)=true)
  (b:∀ (kV doc pm:Value) (an:Option Addr) (cdv ct:Value) (us:List Value),us.length=ps.length->bindArgs (PySem.W.fnOf "__init__" qual (defArgs st) (defBody st) (defScope st) .none kV doc pm an cdv ct) ⟨us,[]⟩=pure (ps.zip us)) :
  Xi K C qual st ps f (PySem.W.fnOf "__init__" qual (defArgs st) (defBody st) (defScope st) .none kV doc pm an cdv ct) :=
 have F:=fun_mk (st:=st) l c k
 ⟨F,⟨xc,m,ty,a,i,kc⟩,F.binds b⟩
noncomputable def tabL (l:List (Addr×Bool))(C:Addr):Option Bool:=l.lookup C
inductive AllT (P:Addr->Bool->Prop):List (Addr×Bool)->Prop
 | nil:AllT P []
 | cons {a:Addr} {b:Bool} {l:List (Addr×Bool)}:P a b->AllT P l->AllT P ((a,b) :: l)
theorem AllT.of {P:Addr->Bool->Prop}{l:List (Addr×Bool)}(h:AllT P l):∀ C b,tabL l C=some b->P C b:=by
 induction h with
 | nil=>intro C b z; cases z
 | @cons a b l p _ ih =>
  intro C b' z
  unfold tabL at z ih
  rw [List.lookup_cons] at z
  split at z
  ·rename_i e
   cases z
   rw [beq_iff_eq.mp e]; exact p
  ·exact ih C b' z
inductive AllC (P:Addr->Prop):List Addr->Prop
 | nil:AllC P []
 | cons {a:Addr} {l:List Addr}:P a->AllC P l->AllC P (a :: l)
theorem AllC.of {P:Addr->Prop}{l:List Addr}(h:AllC P l):∀ C∈l,P C:=by
 induction h with
 | nil=>intro C z; cases z
 | cons p _ ih =>
  intro C z
  rcases List.mem_cons.mp z with e | e
  ·rw [e]; exact p
  ·exact ih C e
noncomputable def PCs (X:Cx)(es:List Expr)(cs:List V):Prop:=(∃ t,PA X es t/\∀ σ H (Q:List V->Hp->Prop),Q cs H->t σ H Q)/\(cs.all isCls)=true
theorem pcs_nil {X:Cx}:PCs X [] []:=⟨⟨_,pa_nil,λ σ H Q q=>q⟩,rfl⟩
theorem pcs_cons {X:Cx}{x:Str}{C:Addr}{es:List Expr}{cs:List V}{p:Pos}(hg:Gl X x)(hm:X.mg x=some (.ref C))(r:PCs X es cs)(hd:(x == ("__debug__" : Str))=false:=by decide):PCs X (.Name x p :: es) (.ref C :: cs):=by
 obtain ⟨⟨t,h1,h2⟩,h3⟩:=r
 exact ⟨⟨_,pa_cons (pe_glob (v:=.ref C) hg hm rfl hd) h1,λ σ H Q q=>h2 σ H _ q⟩,by rw [List.all_cons,h3]; rfl⟩
theorem lk_never {X:Cx}:Lk X (λ _ _ _=>False):=λ _ _ _ _ _ _ _ _ _ _ h=>h.elim
namespace Q
section
variable {X:Cx}{pos p p' apos cpos np hpos:Pos}{k:Nat}{f C:Addr}{fd:FuncData}{ps fs:List Str}{sp:SpX}{x m n:Str}{e o:Expr}{es:List Expr}{t:TAd}{td:TD}{E:XE}
theorem pcX (L:Lk X E)(F:FnOk X.prog X.w X.K X.mg X.base (CXE X.prog X.w) k f fd ps (upSpX X.K sp))(hr:Room k X.A)(hg:Gl X x)(hm:X.mg x=some (.ref f))(hk:PySem.W.keepIn X.K (.ref f)=true)(hb:L2.Binds X.K fd ps [])
  (ha:Jd (PAd X (e :: es) t))(hdb:(x == ("__debug__" : Str))=false:=by decide)(h1:isSt e=false:=by rfl)(h2:(es.all λ e=>!isSt e)=true:=by rfl) :
  Jd (PD X (.Call (.Name x p) (e :: es) [] pos) (dCallX sp E t)):=⟨D.pd_callX L F hr hg hm hk hb ha.h hdb h1 h2⟩
theorem pmX {pl:Sem Bool}(L:Lk X E)(he:Jd (PD X o td))(c:Cls X.K C)(hm:Meth X.K C m f)(F:FnOk X.prog X.w X.K X.mg X.base (CXE X.prog X.w) k f fd ps (upSpX X.K sp))(hr:Room k X.A)(hb:L2.Binds X.K fd ps [])(ha:Jd (PAd X (e :: es) t))
  (ht:eval (.Call (.Attribute o m apos) (e :: es) [] pos) X.env=(do
   let ov <- eval o X.env
   standAt apos.atName
   let (f,first) <- holding [ov] (getMethod ov m pl)
   callWith pos f first (backTo pos (starEach (e :: es) X.env)) (backToKw pos (keywordEach [] X.env))):=by rfl)
  (h1:isSt e=false:=by rfl)(h2:(es.all λ e=>!isSt e)=true:=by rfl):Jd (PD X (.Call (.Attribute o m apos) (e :: es) [] pos) (dMethX C m sp E td t)):=⟨D.pd_methX L he.h c hm F hr hb ha.h ht h1 h2⟩
theorem psd_raise (L:Lk X E)(c:Xm X.K C f)(F:FnOk X.prog X.w X.K X.mg X.base CX0 k f fd ps (xinit C fs))(hr:Room (k+1) X.A)(hg:Gl X x)(hm:X.mg x=some (.ref C))(hb:L2.Binds X.K fd ps [])(ha:Jd (PAd X (e :: es) t))
  (hdb:(x == ("__debug__" : Str))=false:=by decide)(h1:isSt e=false:=by rfl)(h2:(es.all λ e=>!isSt e)=true:=by rfl):Jd (PSd X (.Raise (some (.Call (.Name x p) (e :: es) [] cpos)) none pos) (dRaise C fs E t)):=⟨D.psd_raise L c F hr hg hm hb ha.h hdb h1 h2⟩
variable {body suite:List Stmt}{b0:Stmt}{hs:List ExceptHandler}{h0:ExceptHandler}{tb:XE->TSd}{th rest:Addr->TSd}{ts:TSd}
theorem psd_try (hst:X.stack=X.env :: X.outer)(hf:X.env.frame=some X.env.locals)
  (hb:∀ (H0:Hp) (pn:List (Addr×Obj)) (xe:Value->Shared->Prop) (E:XE),Lk (X.trying H0 pn xe) E->PassesOwn (model X.prog X.w) X.A X.env xe->Jd (PSsd (X.trying H0 pn xe) body (tb E)))(hh:Jd (PHd X (h0 :: hs) th)):Jd (PSd X (.Try body (h0 :: hs) [] [] pos) (dTry tb th)) :=
 ⟨D.psd_try hst hf (λ H0 pn xe E l p=>(hb H0 pn xe E l p).h) hh.h⟩
theorem ph_none:Jd (PHd X hs (λ _ _ _ _=>False)):=⟨D.ph_none⟩
theorem ph_as {i:Nat}{Dc:Addr}{l:List (Addr×Bool)}(hg:Gl X x)(hm:X.mg x=some (.ref Dc))(ht:AllT (λ C b=>PySem.W.exmOne X.K (.ref C) (.ref Dc)=some b) l)(hN:X.N.Nodup)(hi:X.N[i]? = some n)(hl:X.env.scope.names.lookup n=some .local)(hk:X.env.scope.kind=.function)
  (hsu:∀ a,Jd (PSsd (X.caught a) (b0 :: suite) ts))(hr:Jd (PHd X hs rest))(hdb:(x == ("__debug__" : Str))=false:=by decide):Jd (PHd X (.ExceptHandler (some (.Name x np)) (some n) (b0 :: suite) hpos :: hs) (dHand (tabL l) i ts rest)) :=
 ⟨D.ph_as hg hm ht.of hN hi hl hk (λ a=>(hsu a).h) hr.h hdb⟩
theorem pd_xfld {f:Str}{cs:List Addr}(hc:AllC (λ C=>XC X.K C/\NoAttr X.K C f) cs)(he:Jd (PD X o td))(hb:attributeBase o f X.env (eval o X.env)=eval o X.env:=by rfl):Jd (PD X (.Attribute o f pos) (dXFld cs td f)):=⟨D.pd_xfld hc.of he.h hb⟩
theorem pd_isX1 {Dc:Addr}{l:List (Addr×Bool)}(hm:X.mg "isinstance" = none)(ht:AllT (λ C b=>XC X.K C/\PySem.W.kitAny X.K (.ref C) [.ref Dc]=some b) l)(hg:Gl X x)(hx:X.mg x=some (.ref Dc))(ho:Jd (PD X o td))(hgi:Gl X "isinstance" := by rfl)
  (hdb:(x == ("__debug__" : Str))=false:=by decide)(h1:isSt o=false:=by rfl):Jd (PD X (.Call (.Name "isinstance" p) [o,.Name x p'] [] pos) (dIsX (tabL l) td)) :=
 ⟨D.pd_isX (cs:=[.ref Dc]) ht.of rfl hgi hm ho.h (pe_glob (v:=.ref Dc) hg hx rfl hdb) (ctm_one _) h1 rfl⟩
theorem pd_isXB {T:String}{l:List (Addr×Bool)}(hm:X.mg "isinstance" = none)(ht:AllT (λ C b=>XC X.K C/\PySem.W.kitAny X.K (.ref C) [.type T]=some b) l)(hg:Gl X x)(hx:X.mg x=none)(hv:bootBuiltins x=some (.type T))(ho:Jd (PD X o td))(hgi:Gl X "isinstance" := by rfl)
  (hn:x ≠ "__name__" := by decide)(hdb:(x == ("__debug__" : Str))=false:=by decide)(h1:isSt o=false:=by rfl):Jd (PD X (.Call (.Name "isinstance" p) [o,.Name x p'] [] pos) (dIsX (tabL l) td)) :=
 ⟨D.pd_isX (cs:=[.ty T]) ht.of rfl hgi hm ho.h (pe_bltn (v:=.ty T) hg hx hv rfl hn hdb) (ctm_one _) h1 rfl⟩
theorem pd_isXT {cs:List V}{l:List (Addr×Bool)}{x1}(hm:X.mg "isinstance" = none)(ht:AllT (λ C b=>XC X.K C/\PySem.W.kitAny X.K (.ref C) (cs.map vval)=some b) l)(hc:PCs X es cs)(ho:Jd (PD X o td))(hz:cs.length<=1000:=by decide)(hgi:Gl X "isinstance" := by rfl)
  (h1:isSt o=false:=by rfl):Jd (PD X (.Call (.Name "isinstance" p) [o,.Tuple es x1 p'] [] pos) (dIsX (tabL l) td)):=by
 obtain ⟨⟨t,g1,g2⟩,g3⟩:=hc
 exact ⟨D.pd_isX (cs:=cs) ht.of g3 hgi hm ho.h (pe_tup g1) (ctm_tup g2 hz) h1 rfl⟩
end
end Q
end D
namespace D
open PySem PySem.Spec PyProof.Rows L2
section
variable {X:Cx}{K:PySem.W.Frag}
end
section
variable {X:Cx}{K:PySem.W.Frag}
noncomputable def inOk (d:PyData)(ds:List PyData):Bool:=eqOk d && eqOk (.list ds)
noncomputable def inA (d:PyData)(ds:List PyData):Bool:=ds.any λ y=>PyData.eqv y d
theorem in_room {A:Around}{k:Nat}(hr:RoomH k A){d:PyData}{ds:List PyData}(h:SeqAt.shaped d=true):A.units+1+min (PyData.depthAll ds) d.depth < cLine:=by
 have h1:=SeqAt.depth_of_shaped h
 have h2:min (PyData.depthAll ds) d.depth<=d.depth:=Nat.min_le_right _ _
 have:=hr.un
 omega
theorem op_inA {k:Nat}(hr:RoomH k X.A):OpR X (compareOp .In) (λ x y H Q=>∃ d ds,RepT X.K H d x/\(RepT X.K H (.list ds) y\/RepD X.K H (.tuple ds) y)/\inOk d ds=true/\Q (.bl (inA d ds)) H):=by
 intro pins s σ H x y v u Q I rx ry h
 obtain ⟨d,ds,h1,h2,o,q⟩:=h
 simp only [inOk,eqOk,Bool.and_eq_true,Bool.not_eq_true'] at o
 obtain ⟨⟨o1,o2⟩,o3,o4⟩:=o
 obtain ⟨as,r1⟩:=readsT_of I d h1 rx o2
 have c3:=SeqAt.canLay_of_shaped o3
 rcases h2 with h2 | h2
 ·obtain ⟨bs,r2⟩:=readsT_of I (.list ds) h2 ry o4
  exact SeqAt.in_list_reads r2 r1 c3 (SeqAt.canLay_of_shaped o1) (in_room hr o1) ⟨.bl _,H,I,rfl,q⟩
 ·obtain ⟨bs,r2⟩:=reads_of I (.tuple ds) h2 ry o4
  exact SeqAt.in_tuple_reads r2 r1 c3 (SeqAt.canLay_of_shaped o1) (in_room hr o1) ⟨.bl _,H,I,rfl,q⟩
noncomputable def rdInA (neg:Bool)(w w':W)(M:MH)(Q:QD):Prop:=∃ d ds,DatW M w d/\(DatW M w' (.list ds)\/w'=.d (.tuple ds))/\inOk d ds=true/\Q (.d (.bool (xor neg (inA d ds)))) M
theorem opd_inA:OpD K (λ x y H Q=>∃ d ds,RepT K H d x/\(RepT K H (.list ds) y\/RepD K H (.tuple ds) y)/\inOk d ds=true/\Q (.bl (inA d ds)) H) (rdInA false):=by
 intro x y H w w' M Qd Q r1 r2 m ⟨d,ds,g1,g2,o,q⟩ k
 refine ⟨d,ds,g1.sound r1 m,?_,o,k _ H (.d (.bool _)) M (Kp.refl H) (by simp [RepW,RepD]) m q⟩
 rcases g2 with g2 | rfl
 ·exact .inl (g2.sound r2 m)
 ·exact .inr r2
variable {o e:Expr}{td te:TD}{apos cpos:Pos}
end
namespace Q
section
variable {X:Cx}{o e tg:Expr}{td te:TD}{apos cpos:Pos}
end
end Q
end D
namespace D
open PySem PySem.Spec PyProof.Rows L2
section
variable {X:Cx}{tg o:Expr}
noncomputable def iNew (td:TE):TI:=λ σ H R=>td σ H λ x H1=>∃ a l,x=.ref a/\H1 a=some (.lst l)/\∀ ob,R (Itf a ob l) (upd H1 a (stillF ob l))
theorem pi_new {td:TE}(ho:PE X o td):PI X tg o (iNew td):=by
 intro pins s σ H R I h
 refine thn (ho pins s σ H _ I h) λ v s1 hq71=>?_
 obtain ⟨x,H1,I0,r1,a,l,ex,hg0,q⟩:=hq71
 subst ex
 cases r1
 obtain ⟨ob,I1⟩:=Inv.stillL I0 hg0
 have hg:upd H1 a (stillF ob l) a=some (stillF ob l):=upd_same
 obtain ⟨its,rv,p⟩:=stillF_at I1.hok hg
 refine wpAny_pyIter_list p ?_
 refine ⟨s1.heap.objs.size,[s1.heap.objs.size],_,_,upd H1 a (stillF ob l),rfl,I1.kept (t':=s1.toks) λ b o e=>Heap.get?_push_of_some _ e,turn_flist a _ ob l,⟨_,Heap.get?_push_size _ rfl,rfl,rfl⟩,λ b hb=>?_,q ob⟩
 have e:b=s1.heap.objs.size:=by simpa using hb
 subst e
 exact I1.fpOk (Nat.le_refl _) (I1.hok.fresh (Nat.le_refl _))
noncomputable def dItemsN (td:TD)(τ:DS)(M:MH)(R:List W->MH->Prop):Prop:=td τ M λ w M1=>∃ a ws,w=.m a/\M1 a=some (.lst ws)/\R ws (updM M1 a (.flst ws))
theorem pid_itemsN0 {td:TD}(ho:PD X o td):PId X tg o (dItemsN td):=pi_w (pi_new ho) λ σ H R hq72=>by
 obtain ⟨τ,M,Rd,A,h,k⟩:=hq72
 refine ⟨τ,M,_,A,h,λ v H1 w M1 kp r m hq73=>?_⟩
 obtain ⟨a,ws,ew,hm,q⟩:=hq73
 subst ew
 obtain ⟨l,e,pr⟩:=m _ _ hm
 refine ⟨a,l,r,e,λ ob=>?_⟩
 have kp1:Kp H1 (upd H1 a (stillF ob l)):=Kp.set e (λ _ z=>nomatch z) (λ _ _ z=>nomatch z)
 have pr1:RepWs X.K (upd H1 a (stillF ob l)) ws l:=RepWs.keep kp1 pr
 refine k _ _ _ (updM M1 a (.flst ws)) (kp.trans kp1) (m.put (mo:=.flst ws) kp1 ⟨ob,l,upd_same,pr1⟩) (λ H2 kp2 i=>?_) q
 have hl:=pr1.length
 have e2:=kp2.frz a ob _ upd_same
 refine ⟨λ hi=>⟨e2,by omega⟩,λ hi=>⟨e2,by omega⟩,λ x H' hi hq74=>?_⟩
 obtain ⟨eH,ex⟩:=hq74
 subst eH
 have hi2:i < ws.length:=hi
 obtain ⟨x',ex',rx⟩:=RepWs.get (RepWs.keep kp2 pr1) (List.getElem?_eq_getElem hi2)
 rw [ex'] at ex
 cases ex
 exact ⟨Kp.refl _,λ M m=>m,ws[i],List.getElem?_eq_getElem hi2,rx⟩
end
section
variable {X:Cx}
theorem RepWs.cut {K:PySem.W.Frag}{H:Hp}{ws:List W}{vs:List V}(r:RepWs K H ws vs)(lo hi:Option Int):RepWs K H (cutD ws lo hi) (cutV vs lo hi):=by
 unfold cutD cutV
 have hl:=r.length
 rw [hl]
 have dr:∀ (n:Nat) {ws:List W} {vs:List V},RepWs K H ws vs->RepWs K H (ws.drop n) (vs.drop n):=by
  intro n
  induction n with
  | zero=>intro ws vs h; exact h
  | succ n ih =>
   intro ws vs h
   cases h with
   | nil=>exact .nil
   | cons a b=>exact ih b
 have tk:∀ (n:Nat) {ws:List W} {vs:List V},RepWs K H ws vs->RepWs K H (ws.take n) (vs.take n):=by
  intro n
  induction n with
  | zero=>intro ws vs h; exact .nil
  | succ n ih =>
   intro ws vs h
   cases h with
   | nil=>exact .nil
   | cons a b=>exact .cons a (ih b)
 exact tk _ (dr _ r)
end
section
variable {X:Cx}{pos:Pos}
end
namespace Q
section
variable {X:Cx}{tg o:Expr}{td:TD}
theorem pid_itemsN (ho:Jd (PD X o td)):Jd (PId X tg o (dItemsN td)):=⟨D.pid_itemsN0 ho.h⟩
end
end Q
end D
namespace D
open PySem PySem.Spec PyProof.Rows L2
noncomputable def atomIs (v:Value):PyData->Bool
 | .str z=>match v with
  | .str x _=>decide (x=z)
  | _=>false
 | .int i=>match v with
  | .int j _=>decide (j=i)
  | _=>false
 | _=>false
noncomputable def atomsAre:List Value->List PyData->Bool
 | [],[]=>true
 | v :: vs,d :: ds=>atomIs v d && atomsAre vs ds
 | _,_=>false
noncomputable def tupIs (K:PySem.W.Frag)(v:Value):PyData->Bool
 | .tuple ds=>match v with
  | .ref a=>match K.lookup a with
   | some o=>(match o.cls with
    | .type n=>decide (n = "tuple")
    | _=>false) && o.dict.isNone && (match o.data with
    | .seq its _=>decide (its.size<=100) && atomsAre its.toList ds
    | _=>false)
   | none=>false
  | _=>false
 | d=>atomIs v d
theorem atom_rep {v:Value}{d:PyData}(h:atomIs v d=true):∃ x,RelV x v/\∀ K H,RepD K H d x:=by
 cases d with
 | str z =>
  cases v with
  | str x t =>
   have e:x=z:=of_decide_eq_true h
   subst e
   exact ⟨.str x,⟨t,rfl⟩,λ K H=>by simp [RepD]⟩
  | _=>cases h
 | int i =>
  cases v with
  | int j t =>
   have e:j=i:=of_decide_eq_true h
   subst e
   exact ⟨.int j,⟨t,rfl⟩,λ K H=>by simp [RepD]⟩
  | _=>cases h
 | _=>cases h
theorem atoms_rep:∀ {vs:List Value} {ds:List PyData},atomsAre vs ds=true->∃ xs,Vals xs vs/\∀ K H,RepA K H ds xs
 | [],[],_=>⟨[],.nil,λ K H=>by simp [RepA]⟩
 | v :: vs,d :: ds,h=>by
  simp only [atomsAre,Bool.and_eq_true] at h
  obtain ⟨x,h1,h2⟩:=atom_rep h.1
  obtain ⟨xs,h3,h4⟩:=atoms_rep h.2
  exact ⟨x :: xs,.cons h1 h3,λ K H=>by simp only [RepA]; exact ⟨x,xs,rfl,h2 K H,h4 K H⟩⟩
 | [],_ :: _,h=>by cases h
 | _ :: _,[],h=>by cases h
theorem tup_rep {K:PySem.W.Frag}{v:Value}{d:PyData}(h:tupIs K v d=true):∃ x,RelV x v/\∀ H,RepD K H d x:=by
 have atom:atomIs v d=true->∃ x,RelV x v/\∀ H,RepD K H d x:=λ h=>by
  obtain ⟨x,h1,h2⟩:=atom_rep h
  exact ⟨x,h1,h2 K⟩
 cases d with
 | tuple ds =>
  cases v with
  | ref a =>
   simp only [tupIs] at h
   cases e:K.lookup a with
   | none=>rw [e] at h; cases h
   | some o =>
    rw [e] at h
    simp only [Bool.and_eq_true] at h
    obtain ⟨⟨h1,h0⟩,h2⟩:=h
    have hd:o.dict=none:=by simpa using h0
    have hc:o.cls=.type "tuple" := by
     cases q:o.cls with
     | type n=>rw [q] at h1; rw [of_decide_eq_true h1]
     | _=>rw [q] at h1; cases h1
    cases q:o.data with
    | seq its n =>
     rw [q] at h2
     simp only [Bool.and_eq_true,decide_eq_true_eq] at h2
     obtain ⟨xs,h3,h4⟩:=atoms_rep h2.2
     refine ⟨.ref a,rfl,λ H=>?_⟩
     simp only [RepD]
     exact ⟨a,xs,rfl,.inr ⟨o,its,n,e,hc,hd,q,few (by omega),h3⟩,h4 K H⟩
    | _=>rw [q] at h2; cases h2
  | _=>cases h
 | str z=>exact atom h
 | int i=>exact atom h
 | none=>exact atom h
 | bool b=>exact atom h
 | list ds=>exact atom h
 | dict kvs=>exact atom h
noncomputable def entsAre (K:PySem.W.Frag):List DictEntry->List (Str×PyData)->Bool
 | [],[]=>true
 | e :: es,(k,d) :: kvs=>atomIs e.key (.str k) && tupIs K e.val d && entsAre K es kvs
 | _,_=>false
noncomputable def kdIs (K:PySem.W.Frag)(a:Addr)(kvs:List (Str×PyData)):Bool:=match K.lookup a with
 | some o=>(match o.cls with
  | .type n=>decide (n = "dict")
  | _=>false) && o.dict.isNone && decide (o.slots.size=0) && (match o.data with
  | .dict es _=>entsAre K es.toList kvs
  | _=>false)
 | none=>false
noncomputable def hashesOf (K:PySem.W.Frag)(a:Addr):Option (List Int):=match K.lookup a with
 | some o=>match o.data with
  | .dict es _=>some (es.toList.map (·.hash))
  | _=>none
 | none=>none
structure KDict (w:World)(K:PySem.W.Frag)(a:Addr)(kvs:List (Str×PyData)):Prop where
 is:kdIs K a kvs=true
 hs:hashesOf K a=some (kvs.map λ p=>PyData.keyHash w.params p.1)
 nd:(kvs.map (·.1)).Nodup
 ns:(a == sysModules)=false
theorem ents_rep {P:Program}{w:World}{K:PySem.W.Frag}:∀ {es:List DictEntry} {kvs:List (Str×PyData)},entsAre K es kvs=true->es.map (·.hash)=kvs.map (λ p=>PyData.keyHash w.params p.1) ->
  ∃ (L:List (Key×V)) (vs:List (Key×Value)),KV L vs/\Pairs (mixKind P w) es vs/\(∀ e∈es,∃ k,(mixKind P w).is k e.key=true/\e.hash=(mixKind P w).hash k)/\vs.map (·.1)=kvs.map (λ p=>(.inr p.1:Key))/\Paired (λ (p:Str×PyData) (q:Key×V)=>q.1=.inr p.1/\∀ H,RepD K H p.2 q.2) kvs L
 | [],[],_,_=>⟨[],[],.nil,.nil,(λ e he=>by cases he),rfl,.nil⟩
 | e :: es,(k,d) :: kvs,h,hh=>by
  simp only [entsAre,Bool.and_eq_true] at h
  obtain ⟨⟨h1,h2⟩,h3⟩:=h
  rw [List.map_cons,List.map_cons] at hh
  obtain ⟨hh1,hh2⟩:=List.cons.inj hh
  obtain ⟨L,vs,i1,i2,i3,i4,i5⟩:=ents_rep (P:=P) (w:=w) h3 hh2
  obtain ⟨x,r1,r2⟩:=tup_rep h2
  have hk:keyIs (.inr k) e.key=true:=by
   cases q:e.key with
   | str y t =>
    rw [q] at h1
    have ey:y=k:=of_decide_eq_true h1
    subst ey
    show Value.isStrOf y (.str y t)=true
    simp [Value.isStrOf]
   | _=>rw [q] at h1; cases h1
  refine ⟨(.inr k,x) :: L,(.inr k,e.val) :: vs,.cons ⟨rfl,r1⟩ i1,.cons hk rfl i2,λ e' he'=>?_,by rw [List.map_cons,i4]; rfl,.cons ⟨rfl,r2⟩ i5⟩
  rcases List.mem_cons.mp he' with rfl | he'
  ·exact ⟨.inr k,hk,hh1⟩
  ·exact i3 e' he'
 | [],_ :: _,h,_=>by cases h
 | _ :: _,[],h,_=>by cases h
section
variable {X:Cx}{pins:List (Addr×Obj)}{σ:St}{H:Hp}{s:Shared}{a:Addr}{kvs:List (Str×PyData)}
theorem KDict.dd (D:KDict X.w X.K a kvs)(I:Inv X pins σ H s):∃ (L:List (Key×V)) (vs:List (Key×Value)),KV L vs/\s.heap.DictOf (mixKind X.prog X.w) a vs/\Paired (λ (p:Str×PyData) (q:Key×V)=>q.1=.inr p.1/\∀ H,RepD X.K H p.2 q.2) kvs L:=by
 have h:=D.is
 have hs:=D.hs
 unfold kdIs at h
 unfold hashesOf at hs
 cases e:X.K.lookup a with
 | none=>rw [e] at h; cases h
 | some o =>
  rw [e] at h hs
  simp only [Bool.and_eq_true] at h hs
  obtain ⟨⟨⟨h1,h2⟩,h3⟩,h4⟩:=h
  have hc:o.cls=.type "dict" := by
   cases q:o.cls with
   | type n=>rw [q] at h1; rw [of_decide_eq_true h1]
   | _=>rw [q] at h1; cases h1
  have hd:o.dict=none:=by simpa using h2
  have hsl:o.slots = #[]:=Array.eq_empty_of_size_eq_zero (of_decide_eq_true h3)
  cases q:o.data with
  | dict es n =>
   rw [q] at h4 hs
   obtain ⟨L,vs,i1,i2,i3,i4,i5⟩:=ents_rep (P:=X.prog) (w:=X.w) h4 (Option.some.inj hs)
   refine ⟨L,vs,i1,⟨o,es,n,I.kIn a o e,⟨hc,hd,hsl⟩,q,λ e' he'=>i3 e' (by simpa using he'),i2,?_⟩,i5⟩
   rw [i4,show (kvs.map λ p=>(.inr p.1:Key))=(kvs.map (·.1)).map Sum.inr from by simp]
   exact List.Pairwise.map Sum.inr (λ a b h z=>h (Sum.inr.inj z)) D.nd
  | _=>rw [q] at h4; cases h4
end
section
variable {X:Cx}{e:Expr}{a:Addr}{x:Str}{kvs:List (Str×PyData)}{pos p apos cpos:Pos}{ty:TE}{te:TD}
end
namespace Q
section
variable {X:Cx}{e:Expr}{a:Addr}{x:Str}{kvs:List (Str×PyData)}{pos p apos cpos:Pos}{te:TD}
end
end Q
end D
namespace D
open PySem PySem.Spec PyProof.Rows L2
section
variable {X:Cx}
variable {o e:Expr}{td te:TD}{apos cpos:Pos}
end
namespace Q
section
variable {X:Cx}{o e:Expr}{td te:TD}{apos cpos:Pos}
end
end Q
end D
namespace PySem.SeqAt
open AutoSeq1 (wpAny_loadPart')
open MeetsSeq MeetsSeq2 MeetsSeq3 SeqRoads2
end PySem.SeqAt
namespace ZT
open PySem PySem.Spec PyProof.Rows
section
variable {prog:Program}{w:World}{A:Around}{E:Value->Shared->Prop}{s:Shared}
noncomputable abbrev TT (h:Heap)(j t:Addr)(k:Nat)(ys:Array Value):Prop:=h.IsTupleIter j t k/\h.IsTuple t ys
theorem TT.at {h h':Heap}{j t:Addr}{k:Nat}{ys:Array Value}(x:TT h j t k ys)(f:∀ c o,(c=j\/c=t)->h.get? c=some o->h'.get? c=some o):TT h' j t k ys:=by
 obtain ⟨⟨o,e,r⟩,o',e',r'⟩:=x
 exact ⟨⟨o,f _ _ (.inl rfl) e,r⟩,o',f _ _ (.inr rfl) e',r'⟩
noncomputable def isIt (b:Bool)(h:Heap)(j t:Addr)(k:Nat):Prop:=match b with
 | true=>h.IsTupleIter j t k
 | false=>h.IsListIter j t k
noncomputable def isSq (b:Bool)(h:Heap)(t:Addr)(ys:Array Value):Prop:=match b with
 | true=>h.IsTuple t ys
 | false=>h.IsList t ys
theorem isIt.obj {b:Bool}{h:Heap}{j t:Addr}{k:Nat}(x:isIt b h j t k):∃ o,h.get? j=some o/\o.data=.fields #[.ref t,.int k 0]:=by
 cases b <;> (obtain ⟨o,e,_,d⟩:=x; exact ⟨o,e,d⟩)
theorem isIt.at {b:Bool}{h h':Heap}{j t:Addr}{k:Nat}(x:isIt b h j t k)(f:∀ o,h.get? j=some o->h'.get? j=some o):isIt b h' j t k:=by
 cases b <;> (obtain ⟨o,e,r⟩:=x; exact ⟨o,f _ e,r⟩)
theorem isSq.at {b:Bool}{h h':Heap}{t:Addr}{ys:Array Value}(x:isSq b h t ys)(f:∀ o,h.get? t=some o->h'.get? t=some o):isSq b h' t ys:=by
 cases b <;> (obtain ⟨o,e,r⟩:=x; exact ⟨o,f _ e,r⟩)
theorem isSq.lt {b:Bool}{h:Heap}{t:Addr}{ys:Array Value}(x:isSq b h t ys):t < h.objs.size:=by
 cases b <;> (obtain ⟨o,e,r⟩:=x; exact Heap.lt_size e)
noncomputable abbrev TI (b:Bool)(h:Heap)(j t:Addr)(k:Nat)(ys:Array Value):Prop:=isIt b h j t k/\isSq b h t ys
theorem TI.at {b:Bool}{h h':Heap}{j t:Addr}{k:Nat}{ys:Array Value}(x:TI b h j t k ys)(f:∀ c o,(c=j\/c=t)->h.get? c=some o->h'.get? c=some o):TI b h' j t k ys:=⟨x.1.at λ o=>f _ o (.inl rfl),x.2.at λ o=>f _ o (.inr rfl)⟩
variable {p₁ p₂:Bool}{z T O i j a b:Addr}{k:Nat}{xs ys:Array Value}{u v:Value}
end
end ZT
namespace ZT
open PySem PySem.Spec PyProof.Rows
section
variable {prog:Program}{w:World}{A:Around}{E:Value->Shared->Prop}{s:Shared}
end
end ZT
namespace D
open PySem PySem.Spec PyProof.Rows L2
section
variable {X:Cx}{a b:Expr}{p pos:Pos}{ta:TA}
end
section
variable {X:Cx}{K:PySem.W.Frag}{a b:Expr}{p pos:Pos}{t:TAd}
end
section
variable {X:Cx}{K:PySem.W.Frag}
variable {o e:Expr}{td te:TD}{apos cpos:Pos}
end
namespace Q
section
variable {X:Cx}{o e a b:Expr}{td te:TD}{apos cpos p pos:Pos}
end
end Q
end D
namespace D
open PySem PySem.Spec PyProof.Rows L2
section
variable {X:Cx}{K:PySem.W.Frag}
end
section
variable {prog:Program}{w:World}{A:Around}{E:Value->Shared->Prop}{s:Shared}{x y:Str}{t u:Tok}{Q:Value->Shared->Prop}
end
section
variable {X:Cx}{K:PySem.W.Frag}
variable {o e:Expr}{td te:TD}{apos cpos:Pos}
end
section
variable {X:Cx}{e st:Expr}{te:TE}{ts:TO}{pos p2:Pos}
end
section
variable {X:Cx}{K:PySem.W.Frag}{e st:Expr}{te:TD}{ts:TOd}{pos p2:Pos}
end
section
variable {X:Cx}{e:Expr}{a:Addr}{x:Str}{kvs:List (Str×PyData)}{pos p:Pos}{ty:TE}{te:TD}
end
namespace Q
section
variable {X:Cx}{e st:Expr}{a:Addr}{x:Str}{kvs:List (Str×PyData)}{pos p p2:Pos}{te:TD}{ts:TOd}
end
end Q
namespace Q
section
variable {X:Cx}{o e:Expr}{td te:TD}{apos cpos:Pos}
end
end Q
end D
namespace XO
open PySem PySem.Spec PyProof.Rows PySem.W
section
variable {prog:Program}{w:World}{A:Around}{E:Value->Shared->Prop}{K:Frag}{C:Addr}{h:Heap}{g:Array GenState}{d:Drawn}{t:Nat}{os:OsState}
end
end XO
namespace D
open PySem PySem.Spec PyProof.Rows L2 XO
section
variable {X:Cx}{pos p cpos np hpos:Pos}{k:Nat}{f C:Addr}{x:Str}{e:Expr}{es:List Expr}{t:TAd}{E:XE}
variable {body suite:List Stmt}{b0:Stmt}{hs:List ExceptHandler}{th rest:Addr->TSd}{ts:TSd}
variable {fd:FuncData}{ps:List Str}{sp:SpX}{y:Str}{td:TD}
end
section
variable {X:Cx}{K:PySem.W.Frag}
variable {o e:Expr}{td te:TD}{apos cpos:Pos}
end
section
variable {X:Cx}{o e:Expr}{td te:TD}{apos cpos:Pos}
end
section
variable {X:Cx}{e st:Expr}{te:TE}{ts:TO}{pos p2:Pos}
end
section
variable {X:Cx}{e st:Expr}{te:TD}{ts:TOd}{pos p2:Pos}
end
section
variable {X:Cx}{K:PySem.W.Frag}
end
namespace Q
section
variable {X:Cx}{pos p cpos apos np hpos p2:Pos}{k:Nat}{f C:Addr}{x y:Str}{e o st:Expr}{es:List Expr}{t:TAd}{E:XE}{body suite:List Stmt}{b0:Stmt}{hs:List ExceptHandler}{rest:Addr->TSd}{ts:TSd}{fd:FuncData}{ps:List Str}{sp:SpX}{td te:TD}{to:TOd}
end
end Q
end D
namespace ZS
open PySem PySem.Spec PyProof.Rows
section
variable {prog:Program}{w:World}{A:Around}{E:Value->Shared->Prop}{s:Shared}
variable {z T O i j b:Addr}{k:Nat}{x:Str}{tk:Tok}{ys:Array Value}{u v:Value}
end
section
variable {prog:Program}{w:World}{A:Around}{E:Value->Shared->Prop}{s:Shared}
end
end ZS
namespace D
open PySem PySem.Spec PyProof.Rows L2
section
variable {X:Cx}{a b:Expr}{p pos:Pos}{ta:TA}
end
section
variable {X:Cx}{K:PySem.W.Frag}{a b:Expr}{p pos:Pos}{t:TAd}
end
section
variable {X:Cx}{K:PySem.W.Frag}
end
namespace Q
section
variable {X:Cx}{o e:Expr}{td te:TD}{apos cpos:Pos}
end
end Q
namespace Q
section
variable {X:Cx}{a b:Expr}{p pos:Pos}
end
end Q
end D
namespace RT
open PySem PySem.Spec PyProof.Rows
section
variable {prog:Program}{w:World}{A:Around}{E:Value->Shared->Prop}{s:Shared}
end
end RT
namespace D
open PySem PySem.Spec PyProof.Rows L2
mutual
noncomputable def dflat:PyData->Bool
 | .list ds=>dflatA ds
 | .tuple ds=>dflatA ds
 | .dict kvs=>kvs.all λ p=>flatD p.2
 | _=>true
noncomputable def dflatA:List PyData->Bool
 | []=>true
 | d :: ds=>dflat d && dflatA ds
end
noncomputable def reprOkK (d:PyData):Bool:=d.showable && decide (d.shown.length<=sizeLine) && decide (d.depth<=60) && dflat d
theorem s4m:(4000000:Nat)<=sizeLine:=by rw [sizeLine_eq]; decide
theorem reprK_ok {d:PyData}(h:fineD d=true)(hb:big d<=4000000)(hd:d.depth<=60)(hk:dflat d=true):reprOkK d=true:=by
 have h1:=fine_show d h
 have h2:=shown_le d h
 have h3:=s4m
 simp only [reprOkK,h1,hk,Bool.true_and,Bool.and_true,Bool.and_eq_true,decide_eq_true_eq]
 exact ⟨by omega,hd⟩
section
variable {X:Cx}{pins:List (Addr×Obj)}{σ:St}{H:Hp}{s:Shared}
theorem not_sm (I:Inv X pins σ H s){a:Addr}{o:Obj}{its:Array Value}{n:Nat}(e:s.heap.get? a=some o)(c:o.data=.seq its n):sysModules≠a:=by
 intro h
 subst h
 obtain ⟨_,mm,o',es,ep,h1,h2,_⟩:=I.ok.mod.bm
 have e2:=I.bk _ _ h1
 rw [e] at e2
 cases e2
 rw [c] at h2
 cases h2
mutual
theorem reads_deep (I:Inv X pins σ H s):∀ (d:PyData) {x:V} {u:Value},RepD X.K H d x->RelV x u->dflat d=true->∃ as,Reads s.heap u d as/\sysModules ∉ as
 | .none,x,u,h,r,_=>⟨[],reads_flat rfl h r,List.not_mem_nil⟩
 | .bool b,x,u,h,r,_=>⟨[],reads_flat rfl h r,List.not_mem_nil⟩
 | .int i,x,u,h,r,_=>⟨[],reads_flat rfl h r,List.not_mem_nil⟩
 | .str z,x,u,h,r,_=>⟨[],reads_flat rfl h r,List.not_mem_nil⟩
 | .list ds,x,u,h,r,hd=>by
  simp only [RepD] at h
  obtain ⟨a,vs,e,hs,ra⟩:=h
  subst e
  cases (show u=Value.ref a from r)
  obtain ⟨its,rv,⟨o,n,e1,e2,e3,e4⟩,hz⟩:=I.list hs.sq
  obtain ⟨as,q,hn⟩:=readsA_deep I ds ra rv (by simpa only [dflat] using hd)
  exact ⟨_,.list e1 e2 e4 q,λ hm=>(List.mem_cons.mp hm).elim (not_sm I e1 e4) hn⟩
 | .tuple ds,x,u,h,r,hd=>by
  simp only [RepD] at h
  obtain ⟨a,vs,e,hs,ra⟩:=h
  subst e
  cases (show u=Value.ref a from r)
  obtain ⟨its,rv,⟨o,e1,e2,n,e4⟩,hz⟩:=I.tuple hs
  obtain ⟨as,q,hn⟩:=readsA_deep I ds ra rv (by simpa only [dflat] using hd)
  exact ⟨_,.tuple e1 e2 e4 q,hn⟩
 | .dict kvs,x,u,h,r,hd=>by
  simp only [RepD] at h
  obtain ⟨a,o,l,e,ha,rk⟩:=h
  subst e
  cases (show u=Value.ref a from r)
  obtain ⟨z,hs,vs,kv,o',es,ep,e1,e2,e3,e4,e5,e6⟩:=dk_rd I.hok (.inr ⟨o,ha⟩)
  obtain ⟨q1,q2⟩:=pairs_reads (h:=s.heap) (by simpa only [dflat] using hd) rk kv e5
  refine ⟨_,.dict e1 e2.1 e3 q1 q2,λ hm=>?_⟩
  simp only [List.append_nil,List.mem_singleton] at hm
  rw [<- hm] at hs
  exact absurd hs (by decide)
theorem readsA_deep (I:Inv X pins σ H s):∀ (ds:List PyData) {xs:List V} {us:List Value},RepA X.K H ds xs->Vals xs us->dflatA ds=true->∃ as,ReadsAll s.heap us ds as/\sysModules ∉ as
 | [],xs,us,h,r,_=>by
  simp only [RepA] at h; subst h
  cases r
  exact ⟨_,.nil,List.not_mem_nil⟩
 | d :: ds,xs,us,h,r,hd=>by
  simp only [RepA] at h
  obtain ⟨v,vr,e,h1,h2⟩:=h
  subst e
  simp only [dflatA,Bool.and_eq_true] at hd
  cases r with
  | cons r1 r2 =>
   obtain ⟨as,q1,n1⟩:=reads_deep I d h1 r1 hd.1
   obtain ⟨bs,q2,n2⟩:=readsA_deep I ds h2 r2 hd.2
   exact ⟨_,.cons q1 q2,λ hm=>(List.mem_append.mp hm).elim n1 n2⟩
end
end
section
variable {X:Cx}
theorem reprOk_flat {d:PyData}(hf:flatD d=true)(ok:reprOkK d=true):reprOk d=true:=by
 simp only [reprOkK,Bool.and_eq_true] at ok
 have hn:d.hasDict=false:=by cases d <;> first | (simp only [PyData.hasDict]; done) | cases hf
 simp only [reprOk,ok.1.1.1,ok.1.1.2,ok.1.2,hn]
 rfl
theorem call_reprK {k:Nat}(hr:RoomH k X.A):CallR X (.builtin "repr") (λ xs H Q=>∃ x d,xs=[x]/\RepT X.K H d x/\reprOkK d=true/\Q (.str d.shown) H):=by
 intro pins s σ H xs us Q I r h
 obtain ⟨x,d,rfl,rd,ok,q⟩:=h
 cases hf:flatD d with
 | true=>exact call_reprT hr pins s σ H [x] us Q I r ⟨x,d,rfl,rd,reprOk_flat hf ok,q⟩
 | false =>
  obtain ⟨u,rfl,rx⟩:=vals1 r
  have ok':=ok
  simp only [reprOkK,Bool.and_eq_true,decide_eq_true_eq] at ok'
  obtain ⟨⟨⟨hs,hz⟩,hd⟩,hfl⟩:=ok'
  obtain ⟨H',I',rd'⟩:=thaw I rd
  obtain ⟨as,rr,hsm⟩:=reads_deep I' d rd' rx hfl
  have hu:=hr.units
  have go:∀ a,Reads s.heap (.ref a) d as->wpAny (model X.prog X.w) X.A (call (.builtin "repr") [.ref a]) (EP X pins σ Q) X.xe s:=λ a rr=>repr_of_reads' rr hs (λ _=>hsm) hr.gd (by omega) (λ _ _ z=>z) (λ h' u tk hk=>⟨.str _,H,I.kept hk,⟨_,rfl⟩,q⟩) hz
  cases rr with
  | none=>cases hf
  | bool b=>cases hf
  | int i t=>cases hf
  | str i t=>cases hf
  | list e1 e2 e3 e4=>exact go _ (.list e1 e2 e3 e4)
  | tuple e1 e2 e3 e4=>exact go _ (.tuple e1 e2 e3 e4)
  | dict e1 e2 e3 e4 e5=>exact go _ (.dict e1 e2 e3 e4 e5)
end
section
variable {X:Cx}{K:PySem.W.Frag}
noncomputable def rdReprK (ws:List W)(M:MH)(Q:QD):Prop:=∃ w d,ws=[w]/\DatW M w d/\reprOkK d=true/\Q (.d (.str d.shown)) M
theorem cd_reprK:CallD K (λ xs H Q=>∃ x d,xs=[x]/\RepT K H d x/\reprOkK d=true/\Q (.str d.shown) H) rdReprK:=by
 intro vs H ws M Qd Q r m ⟨w,d,e,g,ok,q⟩ k
 subst e
 obtain ⟨v,e1,r1⟩:=repWs1 r
 exact ⟨v,d,e1,g.sound r1 m,ok,k _ H (.d (.str _)) M (Kp.refl H) (by simp [RepW,RepD]) m q⟩
variable {o e:Expr}{td:TD}{apos cpos:Pos}
variable {a:Expr}{ta:TA}{p p2 pos pos2:Pos}
end
namespace Q
section
variable {X:Cx}{k:Nat}{t:TAd}{td:TD}{a o e:Expr}{p p2 pos pos2 apos cpos:Pos}
end
end Q
end D
namespace L2
open PySem PySem.Spec PyProof.Rows
open PySem.W (envX kla_obj kla_fn)
section
variable {X:Cx}{pins:List (Addr×Obj)}{σ:St}{H:Hp}{s:Shared}{sc:Scope}{x q:Str}{fr:List Nat}{cl:List (Str×Addr)}{f c:Addr}
noncomputable def LamH (H:Hp)(q x:Str)(params:Arguments)(body:Expr)(sc:Scope)(cl:List (Str×Addr))(pm:Value)(f:Addr):Prop :=
 ∃ c ctv oc vs t,H f=some (.frz (kla_obj "<lambda>" q params body sc cl pm c ctv) (.own 0))/\H c=some (.frz oc (.own 0))/\oc.data=.fields vs/\vs[1]? = some (.str q t)
end
section
variable {X:Cx}{pins:List (Addr×Obj)}{σ:St}{H:Hp}{s:Shared}
end
end L2
namespace L2
open PySem PySem.Spec PyProof.Rows
noncomputable def in1X (X:Cx):Cx:={ X with A:=X.A.in1 }
section
variable {X:Cx}{pins:List (Addr×Obj)}{σ:St}{H:Hp}{s:Shared}
theorem Inv.in1 (I:Inv X pins σ H s):Inv (in1X X) pins σ H s :=
 ⟨⟨I.ok.mod,I.ok.kind,I.ok.glob,I.ok.blt,I.ok.above,I.ok.inj,I.ok.has,I.ok.cab,I.ok.hd,I.ok.frames,I.ok.stk,I.ok.exf,I.ok.bs,I.ok.bsz,I.ok.noex,I.ok.exfs,I.ok.funs,I.ok.frf⟩,I.os,I.bare,I.base,I.loc,I.cell,I.free,I.freeC,I.pin,I.hok,I.len⟩
variable {l f it S:Addr}{xs:List V}{R:Result->Shared->Prop}
end
end L2
namespace D
open PySem PySem.Spec PyProof.Rows L2
open PySem.W (kla_obj kla_fn)
section
variable {X:Cx}{K:PySem.W.Frag}
variable {P cd:Addr}{q x:Str}{lpos pos p kpos:Pos}{params:Arguments}{body o:Expr}{sc:Scope}{fr:List Nat}{to tb:TD}{k:Nat}
theorem LamH.keep {H H':Hp}{q x:Str}{params:Arguments}{body:Expr}{sc:Scope}{cl:List (Str×Addr)}{pm:Value}{f:Addr}(h:LamH H q x params body sc cl pm f)(kp:Kp H H'):LamH H' q x params body sc cl pm f:=by
 obtain ⟨c,ctv,oc,vs,t,h1,h2,h3,h4⟩:=h
 exact ⟨c,ctv,oc,vs,t,kp.frz _ _ _ h1,kp.frz _ _ _ h2,h3,h4⟩
end
namespace Q
end Q
end D
namespace L2
open PySem PySem.Spec PyProof.Rows
end L2
namespace D
open PySem PySem.Spec PyProof.Rows L2
section
variable {P:Program}{w:World}{K:PySem.W.Frag}{mg:Str->Option Value}{base:Heap}
end
end D
namespace D
open PySem PySem.Spec PyProof.Rows L2
end D
namespace D
open PySem PySem.Spec PyProof.Rows L2
section
variable {X:Cx}{o i e:Expr}{to ti te:TD}{op:Operator}{f:Int->Int->Int}{pos tpos:Pos}
end
namespace Q
end Q
end D
namespace D
open PySem PySem.Spec PyProof.Rows L2
section
variable {X:Cx}{K:PySem.W.Frag}
variable {o e:Expr}{to:TE}{td te:TD}{apos cpos p pos:Pos}
end
namespace Q
section
variable {X:Cx}{o e:Expr}{td te:TD}{apos cpos p pos:Pos}
end
end Q
end D
set_option maxHeartbeats 0
namespace D
open PySem PySem.Spec PyProof.Rows L2
section
variable {X:Cx}{a b:Expr}{rest:List Expr}{pos:Pos}{ta tb:TE}
end
section
variable {P:Program}{w:World}{A:Around}{R:Result->Shared->Prop}{it l S:Addr}{its:List Value}{ns:List Int}{kw:List (Str×Value)}
noncomputable def Lst (ns:List Int)(j:Nat)(m:Int):Prop:=m∈ns.take j/\∀ x∈ns.take j,m<=x
theorem Lst.next {j:Nat}{m n:Int}(h:Lst ns j m)(e:ns[j]? = some n):Lst ns (j+1) (if n < m then n else m):=by
 have ht:ns.take (j+1)=ns.take j++[n]:=by rw [List.take_succ,e]; rfl
 unfold Lst
 rw [ht]
 constructor
 ·split
  ·simp
  ·exact List.mem_append_left _ h.1
 ·intro x hx
  rcases List.mem_append.mp hx with hx | hx
  ·have:=h.2 x hx
   split <;> omega
  ·rw [List.mem_singleton.mp hx]
   split <;> omega
end
section
variable {X:Cx}{K:PySem.W.Frag}{e:Expr}{te:TE}{p pos kpos kp:Pos}{j:Nat}
end
section
variable {X:Cx}{o e:Expr}{td te:TD}{apos cpos:Pos}
end
namespace Q
section
variable {X:Cx}{a b o e:Expr}{rest:List Expr}{ta tb td te:TD}{apos cpos p pos kpos kp:Pos}{j:Nat}
end
end Q
end D
namespace D
open PySem PySem.Spec PyProof.Rows L2
section
variable {X:Cx}{K:PySem.W.Frag}{pins:List (Addr×Obj)}{σ:St}{H:Hp}{s:Shared}
theorem stillF_plain {a:Addr}{o:Obj}{l:List V}(I:Inv X pins σ H s)(e:H a=some (stillF o l)):∃ its:List Value,Vals l its/\PlainL s.heap a its.toArray/\l.length<=sizeLine:=by
 obtain ⟨ho,_,z,its,n,r,h1⟩:=I.hok a _ e
 exact ⟨its,r,⟨_,n,h1,rfl,rfl,rfl⟩,z⟩
noncomputable def rSlF (x:V)(lo hi:Option Int)(H:Hp)(Q:VK):Prop:=∃ a o xs,x=.ref a/\H a=some (stillF o xs)/\∀ p,H p=none->Q (.ref p) (upd H p (.lst (cutV xs lo hi)))
theorem sl_flist:SlR X rSlF:=by
 intro pins s σ H x v vl vu lo hi sl Q I rx hs pl pu h
 obtain ⟨a,o,xs,rfl,hx,q⟩:=h
 cases rx
 obtain ⟨its,r,ht,hz⟩:=stillF_plain I hx
 have hlen:=r.length
 refine ⟨"list",_,slot_list_getitem.lookup,ht.isList.typeIs,?_⟩
 refine wpAny_getItem_list_slice ht.isList hs pl pu .none (by simp) ?_ (by rw [List.size_toArray] <;> omega)
 rw [slicePick_cut,<- hlen]
 refine ⟨.ref s.heap.objs.size,_,I.laid (t':=s.toks) (o:=.lst (cutV xs lo hi)) (λ b ob q=>Heap.get?_push_of_some _ q) (Nat.le_refl _) ?_,rfl,q _ (I.hok.fresh (Nat.le_refl _))⟩
 exact ⟨Nat.le_trans (cutV_length xs lo hi) hz,_,0,(r.drop (HT.sIx xs.length 0 lo)).take (HT.sIx xs.length xs.length hi - HT.sIx xs.length 0 lo),Heap.get?_push_size _ rfl⟩
noncomputable def dSlF (te:TD)(tl th:TOd)(τ:DS)(M:MH)(Q:QD):Prop:=te τ M λ w M1=>tl τ M1 λ lo M2=>th τ M2 λ hi M3=>∃ a ws,w=.m a/\M3 a=some (.flst ws)/\∀ p,M3 p=none->Q (.m p) (updM M3 p (.lst (cutD ws lo hi)))
theorem pd_sliceF0 {e:Expr}{te:TD}{lo hi:Option Expr}{tl th:TOd}{pos p2:Pos}(he:PD X e te)(hl:POd X lo tl)(hu:POd X hi th):PD X (.Subscript e (.Slice lo hi none p2) pos) (dSlF te tl th) :=
 pe_w (pe_slice sl_flist he hl hu) λ σ H Q h=>by
  obtain ⟨τ,M,Qd,A,h,k⟩:=h
  refine ⟨τ,M,_,A,h,λ x H1 w M1 kp1 r1 m1 q1=>⟨τ,M1,_,A.go kp1 m1,q1,λ lo' H2 M2 kp2 m2 q2=>⟨τ,M2,_,A.go (kp1.trans kp2) m2,q2,λ hi' H3 M3 kp3 m3 hq75=>?_⟩⟩⟩
  obtain ⟨a,ws,ew,hm,q3⟩:=hq75
  subst ew
  obtain ⟨ob,vs,e,ra⟩:=m3 _ _ hm
  refine ⟨a,ob,vs,r1,e,λ p hp=>?_⟩
  have kp4:Kp H3 (upd H3 p (.lst (cutV vs lo' hi'))):=Kp.new hp
  exact k _ _ (.m p) _ (((kp1.trans kp2).trans kp3).trans kp4) rfl (m3.put (mo:=.lst (cutD ws lo' hi')) kp4 ⟨_,upd_same,RepWs.keep kp4 (RepWs.cut ra lo' hi')⟩) (q3 p (m3.free hp))
theorem tru_still:TruR X (λ x H Q=>∃ a o l,x=.ref a/\H a=some (stillF o l)/\Q (!l.isEmpty) H):=by
 intro pins s σ H x v Q I rx h
 obtain ⟨a,o,l,rfl,hx,q⟩:=h
 cases rx
 obtain ⟨its,r,pl,hz⟩:=stillF_plain I hx
 have hlen:=r.length
 have hl:=line63
 have hs:sizeLine=16777216:=sizeLine_eq
 exact wpAny_truthy_list pl.isList (by simp only [List.size_toArray]; omega) ⟨H,I.tok _,by rw [isEmpty_of r]; exact q⟩
theorem pt_truF {a:Expr}{ta:TE}(ha:PE X a ta)(he:∀ whole:Sem Value,PySem.isTrue a X.env whole=(do let v <- whole; standAt a.pos; holding [v] (truthy v))) :
  PT X a (λ σ H Q=>ta σ H λ x H'=>∃ b o l,x=.ref b/\H' b=some (stillF o l)/\Q (!l.isEmpty) H'):=by
 intro pins s σ H Q I h
 exact isTrue_plain (thn (ha pins s σ H _ I h) λ v s1 ⟨x,H1,I1,r1,q1⟩=>tru_still pins s1 σ H1 x v Q I1 r1 q1) (he _)
noncomputable def dTruF (ta:TD)(τ:DS)(M:MH)(Q:Bool->MH->Prop):Prop:=ta τ M λ w M1=>∃ b ws,w=.m b/\M1 b=some (.flst ws)/\Q (!ws.isEmpty) M1
theorem ptd_truF0 {a:Expr}{ta:TD}(ha:PD X a ta)(he:∀ whole:Sem Value,PySem.isTrue a X.env whole=(do let v <- whole; standAt a.pos; holding [v] (truthy v)):=by intro _; rfl):PTd X a (dTruF ta) :=
 pt_w (pt_truF ha he) λ σ H Q h=>by
  obtain ⟨τ,M,Qd,A,h,k⟩:=h
  refine ⟨τ,M,_,A,h,λ v H' w M' kp r m hq76=>?_⟩
  obtain ⟨b,ws,ew,hm,q⟩:=hq76
  subst ew
  obtain ⟨ob,vs,e,ra⟩:=m _ _ hm
  exact ⟨b,ob,vs,r,e,by rw [<- empty_len (RepWs.length ra)]; exact k _ H' M' kp m q⟩
theorem call_isiF:CallR X (.builtin "isinstance") (λ xs H Q=>∃ a o l T,xs=[.ref a,.ty T]/\H a=some (stillF o l)/\Ty6 T/\Q (.bl (isiD (.list []) T)) H):=by
 intro pins s σ H xs us Q I r h
 obtain ⟨a,o,l,T,rfl,ha,h6,q⟩:=h
 obtain ⟨u,w',rfl,rx,ry⟩:=vals2 r
 cases (show w'=Value.type T from ry)
 have e:=isi_kit (K:=X.K) (.list []) h6
 have fin:∀ tk,EP X pins σ Q (.bool (isiD (.list []) T)) { s with toks:=tk }:=λ tk=>⟨.bl _,H,I.tok _,rfl,q⟩
 generalize isiD (.list []) T=b at e fin
 cases (show u=Value.ref a from rx)
 obtain ⟨its,rv,⟨o,n,e1,e2,e3,e4⟩,hz⟩:=stillF_plain I ha
 exact PySem.W.kia_one PySem.W.kitx_list I.kIn ⟨_,e1,e2⟩ e (λ z=>nomatch z) fin
noncomputable def rdIsiF (ws:List W)(M:MH)(Q:QD):Prop:=∃ a l T,ws=[.m a,.t T]/\M a=some (.flst l)/\Ty6 T/\Q (.d (.bool (isiD (.list []) T))) M
theorem cd_isiF:CallD K (λ xs H Q=>∃ a o l T,xs=[.ref a,.ty T]/\H a=some (stillF o l)/\Ty6 T/\Q (.bl (isiD (.list []) T)) H) rdIsiF:=by
 intro vs H ws M Qd Q r m ⟨a,l,T,e,hm,h6,q⟩ k
 subst e
 obtain ⟨v,v',e1,r1,r2⟩:=repWs2 r
 simp only [RepW] at r1 r2
 subst r1 r2
 obtain ⟨ob,vs',e2,ra⟩:=m _ _ hm
 exact ⟨a,ob,vs',T,e1,e2,h6,k _ H (.d (.bool _)) M (Kp.refl H) (by simp [RepW,RepD]) m q⟩
end
noncomputable def Itef (a:Addr)(o:Obj)(l:List V):It :=
 ⟨λ i H=>H a=some (stillF o l)/\i < l.length,λ i H x H'=>∃ T v,H T=none/\x=.ref T/\H'=upd H T (.tup [.int i,v])/\l[i]? = some v,λ i H=>H a=some (stillF o l)/\l.length<=i⟩
theorem turn_enumF {P:Program}{w:World}{K:PySem.W.Frag}{elts:List Expr}{x1:Nat}{tpos:Pos}(a e it:Addr)(o:Obj)(l:List V)(hne:e≠it) :
  Turn P w K (.Tuple elts x1 tpos) (Itef a o l) [e,it] e (λ i h=>(∃ old,IsEnum h e it (i:Nat) old)/\h.IsListIter it a i) where
 mem:=by simp
 obj:=λ i h ⟨⟨old,st⟩,⟨oi,ei,ci,di⟩⟩ b hb=>by
  have z:b=e\/b=it:=by simpa using hb
  rcases z with rfl | rfl
  ·exact ⟨_,st,λ v z=>by cases z⟩
  ·exact ⟨oi,ei,λ v z=>by rw [di] at z; cases z⟩
 keep:=λ i h h' ⟨⟨old,st⟩,li⟩ k=>⟨⟨old,k e (by simp) _ st⟩,li.at λ o q=>k it (by simp) o q⟩
 item:=by
  intro X hP hw hK hc i pins s σ H E I hf ⟨⟨old,st⟩,li⟩ ⟨hq,hx⟩
  subst hP hw hK
  have fe:=hf e (by simp)
  have fi:=hf it (by simp)
  obtain ⟨its,rv,p,hz⟩:=stillF_plain I hq
  obtain ⟨u,hu,ru⟩:=rv.get (List.getElem?_eq_getElem hx)
  refine wpAny_pyNext_enum_item st li p.isList (x:=u) (by simpa using hu) hne λ h' st' li' ht hsz kp=>?_
  refine ⟨_,rfl,wpAny_letOwnedTupleGo_enum st' λ h'' st'' sb=>?_⟩
  obtain ⟨t0,t1,t2,t3,t4,t5⟩:=I.fpOk (Nat.le_refl _) (I.hok.fresh (Nat.le_refl _))
  have nT:s.heap.objs.size≠e:=Nat.ne_of_gt (Heap.lt_size st)
  have I1:Inv X pins σ H { s with heap:=h'',toks:=s.toks+1 }:=Inv.turned2 I (λ b ob h1 h2 q=>(sb.2 b h2).trans (kp b ob h2 h1 q)) fi fe
  have eT:h''.get? s.heap.objs.size=some { cls:=.type "tuple",data:=.seq #[.int (i:Nat) s.toks,u] }:=(sb.2 _ nT).trans ht
  have I2:=Inv.trackT (us:=[.int (i:Nat) s.toks,u]) (ys:=[.int i,l[i]]) I1 eT t0 (.cons ⟨_,rfl⟩ (.cons ru .nil)) (by simp; have:=s16; omega) t3 t1 t4 t5
  have li'':h''.IsListIter it a (i+1):=li'.at λ o q=>(sb.2 it hne.symm).trans q
  have hit:it < s.heap.objs.size:=by
   obtain ⟨oi,ei,_⟩:=li
   exact Heap.lt_size ei
  refine ⟨.ref s.heap.objs.size,_,I2,rfl,⟨_,l[i],t0,rfl,rfl,List.getElem?_eq_getElem hx⟩,⟨⟨_,st''⟩,li''⟩,λ b hb=>?_⟩
  have z:b=e\/b=it:=by simpa using hb
  rcases z with rfl | rfl
  ·rw [upd_ne nT.symm]; exact fe.1
  ·rw [upd_ne (Nat.ne_of_lt hit)]; exact fi.1
 done:=by
  intro X hP hw hK hc i pins s σ H E I hf ⟨⟨old,st⟩,li⟩ ⟨hq,hx⟩
  subst hP hw hK
  obtain ⟨f0,f1,f2,f3,f4,f5⟩:=hf it (by simp)
  obtain ⟨its,rv,p,hz⟩:=stillF_plain I hq
  have hl:=rv.length
  exact wpAny_pyNext_enum_end (I.ok.hd hc) st li p.isList (by simp; omega) λ h' eb=>⟨rfl,I.turned (t':=s.toks) (λ b o hb q=>eb b o hb q) f0 f1 f3 f4 f5⟩
 self:=λ _ _ _ _ _ ⟨⟨old,st⟩,li⟩ h=>wpAny_pyIter_enum st h
section
variable {X:Cx}{a:Expr}{p pos:Pos}{ta:TA}{t:TAd}
noncomputable def iEnumF (ta:TA):TI:=λ σ H R=>ta σ H λ vs H1=>∃ b o l,vs=[.ref b]/\H1 b=some (stillF o l)/\R (Itef b o l) H1
theorem pi_enumF {elts:List Expr}{x1:Nat}{tpos:Pos}(hg:Gl X "enumerate")(hm:X.mg "enumerate" = none)(ha:PA X [a] ta)(hs:starEach [a] X.env=[(false,eval a X.env)]:=by rfl) :
  PI X (.Tuple elts x1 tpos) (.Call (.Name "enumerate" p) [a] [] pos) (iEnumF ta):=by
 intro pins s σ H R I h
 refine Call_ (ld_blt I hg hm bt_enumerate (PyProof.Rows.callWith_type1 (thn (ha pos pins s σ H _ I h) λ us s1 ⟨vs,H1,I1,r1,q1⟩=>?_) hs rfl))
 obtain ⟨b,o,l,e,hq,q⟩:=q1
 subst e
 cases r1 with
 | cons r rr =>
  cases rr
  cases (show _=Value.ref b from r)
  obtain ⟨its,rv,pl,hz⟩:=stillF_plain I1 hq
  refine call_enumerate_list pl.isList λ h' st li hsz kp=>?_
  have I2:Inv X pins σ H1 { s1 with heap:=h' }:=I1.kept (t':=s1.toks) kp
  refine wpAny_pyIter_enum st ?_
  refine ⟨_,[_,_],_,_,H1,rfl,I2,turn_enumF b _ _ o l (Nat.succ_ne_self _),⟨⟨_,st⟩,li⟩,λ c hc=>?_,q⟩
  have z:c=s1.heap.objs.size+1\/c=s1.heap.objs.size:=by simpa using hc
  rcases z with rfl | rfl
  ·exact I1.fpOk (Nat.le_succ _) (I1.hok.fresh (Nat.le_succ _))
  ·exact I1.fpOk (Nat.le_refl _) (I1.hok.fresh (Nat.le_refl _))
noncomputable def dEnumF (t:TAd)(τ:DS)(M:MH)(R:List W->MH->Prop):Prop:=t τ M λ ws M1=>∃ b ds,ws=[.m b]/\M1 b=some (.flst (ds.map W.d))/\R (enumW ds) M1
theorem pid_enumF0 {elts:List Expr}{x1:Nat}{tpos:Pos}(hg:Gl X "enumerate")(hm:X.mg "enumerate" = none)(ha:PAd X [a] t)(h1:isSt a=false:=by rfl) :
  PId X (.Tuple elts x1 tpos) (.Call (.Name "enumerate" p) [a] [] pos) (dEnumF t):=pi_w (pi_enumF hg hm ha (by rw [star_ok a [] X.env h1]; rfl)) λ σ H R hq77=>by
 obtain ⟨τ,M,Rd,A,h,k⟩:=hq77
 refine ⟨τ,M,_,A,h,λ vs H1 ws M1 kp r m hq78=>?_⟩
 obtain ⟨b,ds,ew,hm,q⟩:=hq78
 subst ew
 obtain ⟨v,ev,r1⟩:=repWs1 r
 simp only [RepW] at r1
 subst ev r1
 obtain ⟨ob,l,e,ra⟩:=m _ _ hm
 have hl:ds.length=l.length:=by simpa using RepWs.length ra
 refine ⟨b,ob,l,rfl,e,k _ H1 _ M1 kp m (λ H2 kp2 i=>?_) q⟩
 have e2:=kp2.frz b ob _ e
 have hlw:(enumW ds).length=l.length:=by simp [enumW,hl]
 refine ⟨λ hi=>⟨e2,by omega⟩,λ hi=>⟨e2,by omega⟩,λ x H' hi hq79=>?_⟩
 obtain ⟨T,v,hT,ex,eH,hv⟩:=hq79
 subst ex eH
 have hid:i < ds.length:=by rw [hlw] at hi; omega
 obtain ⟨v',e3,rd⟩:=RepWs.get (RepWs.keep kp2 ra) (show (ds.map W.d)[i]? = some (W.d ds[i]) by simp [hid])
 rw [hv] at e3
 cases e3
 have kpn:Kp H2 (upd H2 T (.tup [.int i,v])):=Kp.new hT
 refine ⟨kpn,λ M m=>m.new hT,.d (.tuple [.int (i:Nat),ds.getD i .none]),by simp [enumW,hid],?_⟩
 have ed:ds.getD i .none=ds[i]:=by simp [List.getD,hid]
 rw [ed]
 simp only [RepW,RepD,RepA]
 exact ⟨T,_,rfl,.inl (.inl upd_same),_,_,rfl,rfl,_,_,rfl,RepD.keep kpn rd,rfl⟩
end
section
variable {X:Cx}{K:PySem.W.Frag}
variable {o e:Expr}{to:TE}{td te:TD}{apos cpos p pos:Pos}
end
namespace Q
section
variable {X:Cx}
theorem pd_sliceF {e:Expr}{te:TD}{lo hi:Option Expr}{tl th:TOd}{pos p2:Pos}(he:Jd (PD X e te))(hl:Jd (POd X lo tl))(hu:Jd (POd X hi th)):Jd (PD X (.Subscript e (.Slice lo hi none p2) pos) (dSlF te tl th)):=⟨D.pd_sliceF0 he.h hl.h hu.h⟩
theorem ptd_truF {a:Expr}{ta:TD}(ha:Jd (PD X a ta))(he:∀ whole:Sem Value,PySem.isTrue a X.env whole=(do let v <- whole; standAt a.pos; holding [v] (truthy v)):=by intro _; rfl):Jd (PTd X a (dTruF ta)):=⟨D.ptd_truF0 ha.h he⟩
theorem pid_enumF {a:Expr}{p pos:Pos}{t:TAd}{elts:List Expr}{x1:Nat}{tpos:Pos}(hg:Gl X "enumerate")(hm:X.mg "enumerate" = none)(ha:Jd (PAd X [a] t))(h1:isSt a=false:=by rfl) :
  Jd (PId X (.Tuple elts x1 tpos) (.Call (.Name "enumerate" p) [a] [] pos) (dEnumF t)):=⟨D.pid_enumF0 hg hm ha.h h1⟩
end
end Q
end D
namespace D
open PySem PySem.Spec PyProof.Rows L2
section
variable {K:PySem.W.Frag}
end
end D
namespace D
open PySem PySem.Spec PyProof.Rows L2
section
variable {X:Cx}{pos p:Pos}{k:Nat}{f C:Addr}{fd:FuncData}{ps:List Str}{sp:SpD}{x:Str}
end
end D
namespace D
open PySem PySem.Spec PyProof.Rows L2
noncomputable abbrev PFn (K:PySem.W.Frag)(x:Str)(st:Stmt):Prop:=∃ (f:Addr) (oc kV dc pm cd ct:Value) (od an:Option Addr) (sl:Array (Option Value)),PySem.W.nsIn K mainGlobals x=some (some (.ref f))/\K.lookup f=some ⟨oc,od,.func (PySem.W.fnOf x x (defArgs st) (defBody st) (defScope st) .none kV dc pm an cd ct),sl⟩/\PySem.W.codeIn K cd x=true/\PySem.W.keepIn K (.ref f)=true
theorem PFn.fn {K:PySem.W.Frag}{h:Heap}{mg:Str->Option Value}{x:Str}{st:Stmt}{ps:List Str}(p:PFn K x st)(X:K.In h)(G:h.Ns mainGlobals mg)
  (b:∀ (kV doc pm:Value) (an:Option Addr) (cdv ct:Value) (us:List Value),us.length=ps.length->bindArgs (PySem.W.fnOf x x (defArgs st) (defBody st) (defScope st) .none kV doc pm an cdv ct) ⟨us,[]⟩=pure (ps.zip us)):∃ f fd,Fn K mg x st ps f fd :=
 let ⟨f,_,_,_,_,_,_,_,_,_,a,l,c,k⟩:=p; ⟨f,_,fn_mk X G a l c k b⟩
end D
namespace L2
open PySem PySem.Spec PyProof.Rows
structure FnOkH (P:Program)(w:World)(K:PySem.W.Frag)(mg:Str->Option Value)(base:Heap)(CX:CXT)(k:Nat)(f:Addr)(fd:FuncData)(ps:List Str)(sp:Sp):Prop where
 len:∀ vs H Q E,sp vs H Q E->vs.length=ps.length
 run:∀ (A:Around) (outer:List Env) (s:Shared) (H:Hp) (args:Args) (us:List Value) (vs:List V) (Q:VK) (E:XK),RoomH k A->Env0 P w K mg base A outer s H->BindsTo s fd args (ps.zip us)->Vals vs us->sp vs H Q E ->
  codeAny (model P w) A (.call (.ref f) args) (CR CX outer P w H s Q E) s
theorem FnOkH.fn {P:Program}{w:World}{K:PySem.W.Frag}{mg:Str->Option Value}{base:Heap}{CX:CXT}{k:Nat}{f:Addr}{fd:FuncData}{ps:List Str}{sp:Sp}(F:FnOkH P w K mg base CX k f fd ps sp) :
  FnOk P w K mg base CX k f fd ps sp:=⟨F.len,λ A outer s H args us vs Q E hr=>F.run A outer s H args us vs Q E hr.h⟩
section
variable {X:Cx}{CX:CXT}{k:Nat}{f C:Addr}{fd:FuncData}{ps:List Str}{sp:Sp}{dvs:List V}{ds:List Value}{E:XK}{x m:Str}{p pos apos:Pos}{e o:Expr}{es:List Expr}{ta:TE}{t:TA}
end
section
variable {P:Program}{w:World}{K:PySem.W.Frag}{mg:Str->Option Value}{base:Heap}
end
end L2
namespace D
open PySem PySem.Spec PyProof.Rows L2
section
variable {P:Program}{w:World}{K:PySem.W.Frag}{mg:Str->Option Value}{base:Heap}
end
section
variable {X:Cx}{pos p:Pos}{k:Nat}{f:Addr}{fd:FuncData}{ps:List Str}{sp:SpD}{x:Str}{e:Expr}{es:List Expr}{t:TAd}
end
namespace Q
section
variable {X:Cx}{pos p:Pos}{k:Nat}{f:Addr}{fd:FuncData}{ps:List Str}{sp:SpD}{x:Str}{e:Expr}{es:List Expr}{t:TAd}
end
end Q
end D
namespace D
open PySem PySem.Spec PyProof.Rows L2 XO
theorem pssd_ei0 {X:Cx}{st:List Stmt}{t u:TSd}(h:PSsd X st t)(k:PSsd X st u):PSsd X st (sEi t u):=λ pins s σ H D I q=>by
 obtain ⟨τ,M,Dd,A,q,c⟩:=q
 rcases q with q | q
 ·exact h pins s σ H D I ⟨τ,M,Dd,A,q,c⟩
 ·exact k pins s σ H D I ⟨τ,M,Dd,A,q,c⟩
section
variable {X:Cx}{pos p:Pos}{k:Nat}{f C:Addr}{fd:FuncData}{ps:List Str}{sp:SpX}{x:Str}{e:Expr}{es:List Expr}{t:TAd}{E:XE}
noncomputable def dMakeX (C:Addr)(sp:SpX)(E:XE)(t:TAd)(τ:DS)(M:MH)(Q:QD):Prop:=t τ M λ ws M1=>∀ a,M1 a=none->sp (.m a :: ws) (updM M1 a (.ins C [])) (λ v M2=>v=.d .none/\Q (.m a) M2) λ b M'=>E b τ M'
theorem pd_makeX0 (L:Lk X E)(Mk':Mk X.K C f)(F:FnOk X.prog X.w X.K X.mg X.base (CXE X.prog X.w) k f fd ps (upSpX X.K sp))(hr:Room (k+1) X.A)(hg:Gl X x)(hm:X.mg x=some (.ref C))(hb:L2.Binds X.K fd ps [])
  (ha:PAd X (e :: es) t)(hdb:(x == ("__debug__" : Str))=false:=by decide)(h1:isSt e=false:=by rfl)(h2:(es.all λ e=>!isSt e)=true:=by rfl) :
  PD X (.Call (.Name x p) (e :: es) [] pos) (dMakeX C sp E t):=by
 intro pins s σ H Q I h
 obtain ⟨τ,M,Qd,A,h,k⟩:=h
 refine wpAny_Call_Name_kw (ld_glob I hg hm ?_ hdb)
 refine PySem.W.callWith_K (h₀:=X.base) I.ok.mod.kin Mk'.kp (thn (ha pos pins s σ H (λ vs H1=>∃ ws M1,Kp H H1/\RepWs X.K H1 ws vs/\MAbs X.K H1 M1/\∀ a,M1 a=none->sp (.m a :: ws) (updM M1 a (.ins C [])) (λ v M2=>v=.d .none/\Qd (.m a) M2) λ b M'=>E b τ M') I
  ⟨τ,M,_,A,h,λ vs H1 ws M1 kp r m q=>⟨ws,M1,kp,r,m,q⟩⟩) λ us s1 ⟨vs,H1,I1,r,ws,M1,kp,rw,m1,q⟩=>⟨I1.kIn,?_⟩) (star_ok e es X.env h1) (plain_ok pos X.env es h2)
 refine run_makeX (E:=λ v _ H'=>∃ a M',v=.ref a/\Kp H1 H'/\MAbs X.K H' M'/\E a τ M') Mk' F hr hb I1 r (λ a dx ha hd hn=>?_) λ H2 s2 u s' I2 hx=>?_
 ·obtain ⟨kp2,m2⟩:=made_abs (X:=X) (C:=C) m1 ha hd hn
  exact ⟨.m a :: ws,_,_,_,.cons rfl (rw.keep kp2),m2,q a (m1.free ha),λ v H' w M' kp3 r3 m3 hq80=>by
   obtain ⟨e3,q3⟩:=hq80
   subst e3
   simp only [RepW,RepD] at r3
   exact ⟨r3,k _ H' (.m a) M' ((kp.trans kp2).trans kp3) rfl m3 q3⟩,λ b H' M' kp' m' e'=>⟨b,M',rfl,kp2.trans kp',m',e'⟩⟩
 ·obtain ⟨b,H',rfl,os,br,un,hok,air,q⟩:=hx
  obtain ⟨b',M',e,kp',m',q'⟩:=q
  cases e
  exact L pins σ H' s' b τ M' (I2.call' os un hok br (λ b z=>absurd z (by simp))) air (A.go (kp.trans kp') m') q'
end
section
variable {X:Cx}{K:PySem.W.Frag}
theorem op_eqL0 {k:Nat}(hr:RoomH k X.A):OpR X (compareOp .Eq) (λ x y H Q=>∃ ds,RepD X.K H (.list ds) x/\RepD X.K H (.list []) y/\Q (.bl ds.isEmpty) H):=by
 intro pins s σ H x y v u Q I rx ry h
 obtain ⟨ds,h1,h2,q⟩:=h
 simp only [RepD,RepA] at h1 h2
 obtain ⟨a,vs,e,hs,ra⟩:=h1
 obtain ⟨b,vs2,e2,hs2,ra2⟩:=h2
 subst e e2 ra2
 cases (show v=Value.ref a from rx)
 cases (show u=Value.ref b from ry)
 obtain ⟨its,rv,tp,hz⟩:=I.list hs.sq
 obtain ⟨its2,rv2,tp2,hz2⟩:=I.list hs2.sq
 cases rv2
 have hu:=hr.units
 cases ds with
 | nil =>
  simp only [RepA] at ra
  subst ra
  cases rv
  exact SeqAt.eq_listAt (e:=λ _=>true) tp.isList tp2.isList rfl (by omega) (λ j h1 h2=>absurd h2 (Nat.not_lt_zero _)) ⟨.bl _,H,I,rfl,q⟩
 | cons _ _ =>
  simp only [RepA] at ra
  obtain ⟨_,_,e,_,_⟩:=ra
  subst e
  cases rv
  exact SeqAt.eq_list_lengthsAt tp.isList tp2.isList rfl (by omega) ⟨.bl _,H,I,rfl,q⟩
noncomputable def rdEqL0 (w w':W)(M:MH)(Q:QD):Prop:=∃ ds,w=.d (.list ds)/\w'=.d (.list [])/\Q (.d (.bool ds.isEmpty)) M
theorem opd_eqL0:OpD K (λ x y H Q=>∃ ds,RepD K H (.list ds) x/\RepD K H (.list []) y/\Q (.bl ds.isEmpty) H) rdEqL0:=by
 intro x y H w w' M Qd Q r1 r2 m ⟨ds,e1,e2,q⟩ k
 subst e1 e2
 exact ⟨ds,r1,r2,k _ H (.d (.bool _)) M (Kp.refl H) (by simp [RepW,RepD]) m q⟩
noncomputable def dSlN (te:TD)(tl th:TOd)(τ:DS)(M:MH)(Q:QD):Prop:=te τ M λ w M1=>tl τ M1 λ lo M2=>th τ M2 λ hi M3=>∃ ds,LstW M3 w ds/\∀ p,M3 p=none->Q (.m p) (updM M3 p (.lst ((cutD ds lo hi).map W.d)))
theorem pd_sliceN0 {e:Expr}{te:TD}{lo hi:Option Expr}{tl th:TOd}{pos p2:Pos}(he:PD X e te)(hl:POd X lo tl)(hu:POd X hi th):PD X (.Subscript e (.Slice lo hi none p2) pos) (dSlN te tl th) :=
 pe_w (pe_slice sl_list he hl hu) λ σ H Q h=>by
  obtain ⟨τ,M,Qd,A,h,k⟩:=h
  refine ⟨τ,M,_,A,h,λ v H1 w M1 kp1 r1 m1 q1=>⟨τ,M1,_,A.go kp1 m1,q1,λ lo H2 M2 kp2 m2 q2=>⟨τ,M2,_,A.go (kp1.trans kp2) m2,q2,λ hi H3 M3 kp3 m3 hq81=>?_⟩⟩⟩
  obtain ⟨ds,g,q⟩:=hq81
  have kp:=(kp1.trans kp2).trans kp3
  have r:=r1.keep (kp2.trans kp3)
  obtain ⟨a,vs,e1,hs,ra⟩:=g.sound r m3
  refine ⟨a,vs,e1,hs,λ p hp=>?_⟩
  have kp4:Kp H3 (upd H3 p (.lst (cutV vs lo hi))):=Kp.new hp
  exact k _ _ (.m p) _ (kp.trans kp4) rfl (m3.put (mo:=.lst ((cutD ds lo hi).map W.d)) kp4 ⟨_,upd_same,((RepA.cut ra lo hi).ws).keep kp4⟩) (q p (m3.free hp))
theorem call_listF:CallR X (.type "list") (λ xs H Q=>∃ a o l,xs=[.ref a]/\H a=some (stillF o l)/\∀ p,H p=none->Q (.ref p) (upd H p (.lst l))):=by
 intro pins s σ H xs us Q I r h
 obtain ⟨p,o,ys,rfl,hq,q⟩:=h
 obtain ⟨u,rfl,rx⟩:=vals1 r
 cases rx
 obtain ⟨its,r',pl,hz⟩:=stillF_plain I hq
 have hlen:=r'.length
 obtain ⟨o,ho,hc,n,hd⟩:=pl.isList
 exact call_list_seq p (.inl rfl) ho hc hd (λ h' c' kp e=>⟨.ref s.heap.objs.size,_,I.laid (t':=s.toks) kp (Nat.le_refl _) (show ObjOk X.prog X.w _ h' _ (.lst ys) from ⟨hz,its,c',r',e⟩),rfl,q _ (I.hok.fresh (Nat.le_refl _))⟩) (by simp only [List.size_toArray] <;> omega)
noncomputable def rdListF (ws:List W)(M:MH)(Q:QD):Prop:=∃ a l,ws=[.m a]/\M a=some (.flst l)/\∀ p,M p=none->Q (.m p) (updM M p (.lst l))
theorem cd_listF:CallD K (λ xs H Q=>∃ a o l,xs=[.ref a]/\H a=some (stillF o l)/\∀ p,H p=none->Q (.ref p) (upd H p (.lst l))) rdListF:=by
 intro vs H ws M Qd Q r m ⟨a,l,e,hm,q⟩ k
 subst e
 obtain ⟨v,e1,r1⟩:=repWs1 r
 simp only [RepW] at r1
 subst r1
 obtain ⟨ob,vs',e2,ra⟩:=m _ _ hm
 refine ⟨a,ob,vs',e1,e2,λ p hp=>?_⟩
 have kp:Kp H (upd H p (.lst vs')):=Kp.new hp
 exact k _ _ (.m p) _ kp rfl (m.put (mo:=.lst l) kp ⟨vs',upd_same,ra.keep kp⟩) (q p (m.free hp))
end
namespace Q
theorem pssd_ei {X:Cx}{st:List Stmt}{t u:TSd}(h:Jd (PSsd X st t))(k:Jd (PSsd X st u)):Jd (PSsd X st (sEi t u)):=⟨D.pssd_ei0 h.h k.h⟩
section
variable {X:Cx}{pos p:Pos}{k:Nat}{f C:Addr}{fd:FuncData}{ps:List Str}{sp:SpX}{x:Str}{e:Expr}{es:List Expr}{t:TAd}{E:XE}
theorem pd_sliceN {te:TD}{lo hi:Option Expr}{tl th:TOd}{p2:Pos}(he:Jd (PD X e te))(hl:Jd (POd X lo tl))(hu:Jd (POd X hi th)):Jd (PD X (.Subscript e (.Slice lo hi none p2) pos) (dSlN te tl th)):=⟨D.pd_sliceN0 he.h hl.h hu.h⟩
theorem pd_makeX (L:Lk X E)(Mk':Mk X.K C f)(F:FnOk X.prog X.w X.K X.mg X.base (CXE X.prog X.w) k f fd ps (upSpX X.K sp))(hr:Room (k+1) X.A)(hg:Gl X x)(hm:X.mg x=some (.ref C))(hb:L2.Binds X.K fd ps [])
  (ha:Jd (PAd X (e :: es) t))(hdb:(x == ("__debug__" : Str))=false:=by decide)(h1:isSt e=false:=by rfl)(h2:(es.all λ e=>!isSt e)=true:=by rfl) :
  Jd (PD X (.Call (.Name x p) (e :: es) [] pos) (dMakeX C sp E t)):=⟨D.pd_makeX0 L Mk' F hr hg hm hb ha.h hdb h1 h2⟩
end
end Q
end D
namespace K21
open PySem PySem.Spec PyProof.Rows L2 D Rc Stc
abbrev C_PlaceError:Addr:=36
abbrev C_NoRow:Addr:=56
abbrev C_BadName:Addr:=75
abbrev C_BadRow:Addr:=94
abbrev C_Unknown:Addr:=113
abbrev C_Book:Addr:=271
noncomputable abbrev N_l_words:List Str:=["_law_bag_here", "_law_many", "_law_letters", "_law_found", "_law_turn", "_law_k", "_law_rest"]
noncomputable def t_l_words (sp_l_take:SpD):TSd :=
  dSeq (dAsg (dC (.d (.str "abcdefghijklmnopqrstuvwxyz"))) (gN 2)) <|
  dSeq (dAsg (dLstM (dNil)) (gN 3)) <|
  dSeq (dAsg (dCall sp_l_take (dCons (dVar 0) (dCons (dC (.d (.int 26))) (dNil)))) (gN 4)) <|
  dSeq (dFor (dRng1 (dCons (dVar 1) (dNil))) (gN 5)
   (dSeq (dAsg (dLC (dRng1 (dCons (dCall sp_l_take (dCons (dVar 0) (dCons (dC (.d (.int 8))) (dNil)))) (dNil))) (gN 0) (dYes) (dOp rdIx (dVar 1) (dCall sp_l_take (dCons (dVar 2) (dCons (dC (.d (.int 26))) (dNil))))) 1 [2,0]) (gN 6)) <|
   dDrop (dAppend (dVar 3) (dOp rdAdd (dOp rdIx (dVar 2) (dOp rdMod (dOp rdAdd (dVar 4) (dOp rdMul (dC (.d (.int 7))) (dVar 5))) (dC (.d (.int 26))))) (dMS rdJoin (dC (.d (.str ""))) (dCons (dVar 6) dNil)))))) <|
  dRet (dVar 3)
noncomputable abbrev N_l_spoilt:List Str:=["_law_bag_here", "_law_names", "_law_k", "_law_at", "_law_odd"]
noncomputable def t_l_spoilt (sp_l_take:SpD):TSd :=
  dSeq (dAsg (dCB rdListOf (dCons (dVar 1) (dNil))) (gN 1)) <|
  dSeq (dFor (dRng1 (dCons (dOp rdAdd (dC (.d (.int 1))) (dCall sp_l_take (dCons (dVar 0) (dCons (dC (.d (.int 2))) (dNil))))) (dNil))) (gN 2)
   (dSeq (dAsg (dCall sp_l_take (dCons (dVar 0) (dCons (dCB rdLen (dCons (dVar 1) (dNil))) (dNil)))) (gN 3)) <|
   dSeq (dAsg (dLst (dCons (dOp rdIx (dVar 1) (dCall sp_l_take (dCons (dVar 0) (dCons (dCB rdLen (dCons (dVar 1) (dNil))) (dNil))))) (dCons (dC (.d (.str "Aa"))) (dCons (dC (.d (.str "abcdefghi"))) (dCons (dC (.d (.str ""))) (dCons (dC (.d (.int 5))) (dCons (dC (.d .none)) (dCons (dLst (dCons (dC (.d (.str "a"))) (dNil))) (dCons (dTup (dCons (dC (.d (.str "a"))) (dNil))) (dCons (dC (.d (.bool true))) (dCons (dC (.d (.str "a b"))) (dCons (dDict0) (dCons (dC (.d (.str "a1"))) (dNil)))))))))))))) (gN 4)) <|
   dAsg (dOp rdIx (dVar 4) (dCall sp_l_take (dCons (dVar 0) (dCons (dC (.d (.int 12))) (dNil))))) (gSet (dVar 1) (dVar 3)))) <|
  dRet (dVar 1)
noncomputable abbrev N_BadName_init:List Str:=["self", "at"]
noncomputable abbrev N_is_word:List Str:=["thing"]
noncomputable def t_is_word:TSd :=
  dSeq (dIf (dOr (dNot (dTest (dCB rdIsiT (dCons (dVar 0) (dCons (dC (.t "str")) (dNil)))))) (dNot (dTest (dChain rdLe rdLe (dC (.d (.int 1))) (dCB rdLen (dCons (dVar 0) (dNil))) (dC (.d (.int 8)))))))
   (dRet (dC (.d (.bool false))))
   (dNext)) <|
  dRet (dCB rdAll (dCons (dLC (dItems (dVar 0)) (gN 0) (dYes) (dChain rdLe rdLe (dC (.d (.str "a"))) (dVar 0) (dC (.d (.str "z")))) 1 []) (dNil)))
noncomputable abbrev N_refuse_names:List Str:=["names", "at", "name"]
noncomputable def t_refuse_names (Ex:XE)(sp_is_word:SpD):TSd :=
  sEi (dSeq (dIf (dOr (dNot (dTest (dCB rdIsiT (dCons (dVar 0) (dCons (dC (.t "list")) (dNil)))))) (dNot (dTru (dVar 0))))
   (dRaise C_BadName ["at"] Ex (dCons (dC (.d (.int 0))) (dNil)))
   (dNext)) <|
  dFor (dEnum (dCons (dVar 0) (dNil))) (gT 2 (gsCons (gN 1) (gsCons (gN 2) (gsNil))))
   (dIf (dOr (dTest (dOp rdGe (dVar 1) (dC (.d (.int 8))))) (dOr (dNot (dTest (dCall sp_is_word (dCons (dVar 2) (dNil))))) (dTest (dOp (rdInA false) (dVar 2) (dSl (dVar 0) (dNoPart) (dPart (dVar 1)))))))
    (dRaise C_BadName ["at"] Ex (dCons (dVar 1) (dNil)))
    (dNext)))
  (dSeq (dIf (dOr (dNot (dTest (dCB rdIsiF (dCons (dVar 0) (dCons (dC (.t "list")) (dNil)))))) (dNot (dTruF (dVar 0))))
   (dRaise C_BadName ["at"] Ex (dCons (dC (.d (.int 0))) (dNil)))
   (dNext)) <|
  dFor (dEnumF (dCons (dVar 0) (dNil))) (gT 2 (gsCons (gN 1) (gsCons (gN 2) (gsNil))))
   (dIf (dOr (dTest (dOp rdGe (dVar 1) (dC (.d (.int 8))))) (dOr (dNot (dTest (dCall sp_is_word (dCons (dVar 2) (dNil))))) (dTest (dOp (rdInA false) (dVar 2) (dSlF (dVar 0) (dNoPart) (dPart (dVar 1)))))))
    (dRaise C_BadName ["at"] Ex (dCons (dVar 1) (dNil)))
    (dNext)))
noncomputable abbrev N_Book_init:List Str:=["self", "machines"]
noncomputable def t_Book_init (Ex:XE)(sp_refuse_names:SpX):TSd :=
  dSeq (dDrop (dCallX sp_refuse_names Ex (dCons (dVar 1) (dNil)))) <|
  dSeq (sEi (dFldPut C_Book (dVar 0) (dSeal (dCB rdListOf (dCons (dVar 1) (dNil)))) "machine_names") (dFldPut C_Book (dVar 0) (dSeal (dCB rdListF (dCons (dVar 1) (dNil)))) "machine_names")) <|
  dSeq (dFldPut C_Book (dVar 0) (dLst (dNil)) "emptied_names") <|
  dSeq (dFldPut C_Book (dVar 0) (dLst (dNil)) "ranked") <|
  dSeq (dFldPut C_Book (dVar 0) (dNewDic) "wished") <|
  dSeq (dFldPut C_Book (dVar 0) (dLst (dNil)) "ended") <|
  dSeq (dFldPut C_Book (dVar 0) (dDictM [(dC (.d (.str "group")),dLst (dNil)),(dC (.d (.str "store")),dLst (dNil)),(dC (.d (.str "door")),dLst (dNil)),(dC (.d (.str "rule")),dLst (dNil))]) "told_rows") <|
  dFldPut C_Book (dVar 0) (dLst (dNil)) "done"
noncomputable abbrev N_l_told:List Str:=["_law_names", "e"]
noncomputable def t_l_told (sp_Book_init:SpX):TSd :=
  dSeq (dTry (λ Ex =>
   dDrop (dMakeX C_Book sp_Book_init Ex (dCons (dVar 0) (dNil)))) (dHand (tabL [(C_BadName,true)]) 1
   (dSeq (dIf (dOr (dNot (dTest (dIsX (tabL [(C_BadName,true)]) (dVar 1)))) (dOr (dNot (dTest (dIsX (tabL [(C_BadName,true)]) (dVar 1)))) (dTest (dIsX (tabL [(C_BadName,false)]) (dVar 1)))))
     (dRet (dC (.d (.str "odd"))))
     (dNext)) <|
    dRet (dXFld [C_BadName] (dVar 1) "at")) (λ _ _ _ _=>False))) <|
  dRet (dC (.d .none))
noncomputable abbrev N_l_is_word:List Str:=["_law_thing", "_law_small"]
noncomputable def t_l_is_word:TSd :=
  dSeq (dIf (dNot (dTest (dCB rdIsiT (dCons (dVar 0) (dCons (dC (.t "str")) (dNil))))))
   (dRet (dC (.d (.bool false))))
   (dNext)) <|
  dSeq (dAsg (dLC (dItems (dVar 0)) (gN 0) (dTest (dOp rdInS (dVar 0) (dC (.d (.str "abcdefghijklmnopqrstuvwxyz"))))) (dVar 0) 1 []) (gN 1)) <|
  dRet (dAndV (dOp rdEqT (dCB rdLen (dCons (dVar 1) (dNil))) (dCB rdLen (dCons (dVar 0) (dNil)))) (dChain rdLe rdLe (dC (.d (.int 1))) (dCB rdLen (dCons (dVar 0) (dNil))) (dC (.d (.int 8)))))
noncomputable abbrev N_l_due:List Str:=["_law_names", "_law_k"]
noncomputable def t_l_due (sp_l_is_word:SpD):TSd :=
  dSeq (dIf (dOr (dNot (dTest (dCB rdIsiT (dCons (dVar 0) (dCons (dC (.t "list")) (dNil)))))) (dTest (dOp rdEqL0 (dVar 0) (dLst (dNil)))))
   (dRet (dC (.d (.int 0))))
   (dNext)) <|
  dSeq (dFor (dRng1 (dCons (dCB rdLen (dCons (dVar 0) (dNil))) (dNil))) (gN 1)
   (dIf (dOr (dTest (dOp rdEqT (dVar 1) (dC (.d (.int 8))))) (dOr (dNot (dTest (dCall sp_l_is_word (dCons (dOp rdIx (dVar 0) (dVar 1)) (dNil))))) (dTest (dOp (rdInA false) (dOp rdIx (dVar 0) (dVar 1)) (dSl (dVar 0) (dNoPart) (dPart (dVar 1)))))))
    (dRet (dVar 1))
    (dNext))) <|
  dRet (dC (.d .none))
noncomputable abbrev N_Book_machines:List Str:=["self"]
noncomputable def t_Book_machines:TSd :=
  dRet (dCB rdListOf (dCons (dFld C_Book (dVar 0) "machine_names") (dNil)))
noncomputable abbrev N_Book_groups:List Str:=["self"]
noncomputable def t_Book_groups:TSd :=
  dRet (dCB rdListOf (dCons (dDGet (dFld C_Book (dVar 0) "told_rows") (dC (.d (.str "group")))) (dNil)))
noncomputable abbrev N_Book_wishes:List Str:=["self"]
noncomputable def t_Book_wishes:TSd :=
  dRet (dCB rdListOf (dCons (dFld C_Book (dVar 0) "ranked") (dNil)))
noncomputable abbrev N_Book_stores:List Str:=["self"]
noncomputable def t_Book_stores:TSd :=
  dRet (dCB rdListOf (dCons (dDGet (dFld C_Book (dVar 0) "told_rows") (dC (.d (.str "store")))) (dNil)))
noncomputable abbrev N_Book_doors:List Str:=["self"]
noncomputable def t_Book_doors:TSd :=
  dRet (dCB rdListOf (dCons (dDGet (dFld C_Book (dVar 0) "told_rows") (dC (.d (.str "door")))) (dNil)))
noncomputable abbrev N_Book_rules:List Str:=["self"]
noncomputable def t_Book_rules:TSd :=
  dRet (dCB rdListOf (dCons (dDGet (dFld C_Book (dVar 0) "told_rows") (dC (.d (.str "rule")))) (dNil)))
noncomputable abbrev N_Book_emptied:List Str:=["self"]
noncomputable def t_Book_emptied:TSd :=
  dRet (dCB rdSortS (dCons (dFld C_Book (dVar 0) "emptied_names") (dNil)))
noncomputable abbrev N_Book_log:List Str:=["self"]
noncomputable def t_Book_log:TSd :=
  dRet (dCB rdListOf (dCons (dFld C_Book (dVar 0) "done") (dNil)))
noncomputable abbrev N_l_nothing:List Str:=["_law_some", "_law_told_here"]
noncomputable def t_l_nothing (sp_Book_groups:SpD)(sp_Book_wishes:SpD)(sp_Book_stores:SpD)(sp_Book_doors:SpD)(sp_Book_rules:SpD)(sp_Book_emptied:SpD)(sp_Book_log:SpD):TSd :=
  dSeq (dAsg (dLstM (dCons (dMeth C_Book "groups" sp_Book_groups (dVar 0) dNil) (dCons (dMeth C_Book "wishes" sp_Book_wishes (dVar 0) dNil) (dCons (dMeth C_Book "stores" sp_Book_stores (dVar 0) dNil) (dCons (dMeth C_Book "doors" sp_Book_doors (dVar 0) dNil) (dCons (dMeth C_Book "rules" sp_Book_rules (dVar 0) dNil) (dCons (dMeth C_Book "emptied" sp_Book_emptied (dVar 0) dNil) (dCons (dMeth C_Book "log" sp_Book_log (dVar 0) dNil) (dNil))))))))) (gN 1)) <|
  dRet (dOp rdEqN (dVar 1) (dLst (dCons (dLst (dNil)) (dCons (dLst (dNil)) (dCons (dLst (dNil)) (dCons (dLst (dNil)) (dCons (dLst (dNil)) (dCons (dLst (dNil)) (dCons (dLst (dNil)) (dNil))))))))))
noncomputable abbrev N_Unknown_init:List Str:=["self", "name"]
noncomputable abbrev N_wish_copied:List Str:=["wish", "twin"]
noncomputable def t_wish_copied:TSd :=
  dSeq (dAsg (dCB rdDictPs (dCons (dVar 0) (dNil))) (gN 1)) <|
  dSeq (dAsg (dCB rdListOf (dCons (dOp rdIx (dVar 0) (dC (.d (.str "editions")))) (dNil))) (gSet (dVar 1) (dC (.d (.str "editions"))))) <|
  dRet (dVar 1)
noncomputable abbrev N_Book_wish:List Str:=["self", "name"]
noncomputable def t_Book_wish (Ex:XE)(sp_is_word:SpD)(sp_wish_copied:SpD):TSd :=
  dSeq (dIf (dOr (dNot (dTest (dCall sp_is_word (dCons (dVar 1) (dNil))))) (dTest (dDNotIn (dVar 1) (dFld C_Book (dVar 0) "wished"))))
   (dRaise C_Unknown ["name"] Ex (dCons (dVar 1) (dNil)))
   (dNext)) <|
  dRet (dNever)
noncomputable abbrev N_l_unknown:List Str:=["_law_some", "_law_name", "e"]
noncomputable def t_l_unknown (sp_Book_wish:SpX):TSd :=
  dSeq (dTry (λ Ex =>
   dDrop (dMethX C_Book "wish" sp_Book_wish Ex (dVar 0) (dCons (dVar 1) (dNil)))) (dHand (tabL [(C_Unknown,true)]) 2
   (dRet (dOp rdEqT (dCB rdReprK (dCons (dXFld [C_Unknown] (dVar 2) "name") (dNil))) (dCB rdReprK (dCons (dVar 1) (dNil))))) (λ _ _ _ _=>False))) <|
  dRet (dC (.d (.bool false)))
noncomputable abbrev N_law:List Str:=["_law_script", "_law_bag_here", "_law_k", "_law_names", "_law_spoilt_here", "_law_odd", "_law_thing", "_law_kept", "_law_handed", "_law_some", "_law_told_here", "_law_name"]
noncomputable def t_law (sp_l_bag:SpD)(sp_l_words:SpD)(sp_l_take:SpD)(sp_l_spoilt:SpD)(sp_l_told:SpD)(sp_l_due:SpD)(sp_Book_init:SpX)(sp_Book_machines:SpD)(sp_l_nothing:SpD)(sp_Book_groups:SpD)(sp_Book_wishes:SpD)(sp_Book_stores:SpD)(sp_Book_doors:SpD)(sp_Book_rules:SpD)(sp_Book_emptied:SpD)(sp_Book_log:SpD)(sp_l_unknown:SpD):TSd :=
  dSeq (dAsg (dCall sp_l_bag (dCons (dVar 0) (dNil))) (gN 1)) <|
  dSeq (dFor (dRng1 (dCons (dC (.d (.int 6))) (dNil))) (gN 2)
   (dSeq (dAsg (dSeal (dCall sp_l_words (dCons (dVar 1) (dCons (dOp rdAdd (dC (.d (.int 1))) (dCall sp_l_take (dCons (dVar 1) (dCons (dC (.d (.int 10))) (dNil))))) (dNil))))) (gN 3)) <|
   dSeq (dAsg (dSeal (dCall sp_l_spoilt (dCons (dVar 1) (dCons (dVar 3) (dNil))))) (gN 4)) <|
   dSeq (dAsg (dOp rdIx (dLst (dCons (dC (.d .none)) (dCons (dTup (dNil)) (dCons (dCB rdTupleOf (dCons (dVar 3) (dNil))) (dCons (dDict0) (dCons (dC (.d (.str "web"))) (dCons (dC (.d (.int 0))) (dCons (dLst (dNil)) (dCons (dDict [(dOp rdIx (dVar 3) (dC (.d (.int 0))),dC (.d (.bool true)))]) (dNil)))))))))) (dCall sp_l_take (dCons (dVar 1) (dCons (dC (.d (.int 8))) (dNil))))) (gN 5)) <|
   dSeq (dFor (dItems (dLst (dCons (dVar 3) (dCons (dVar 4) (dCons (dVar 5) (dCons (dVar 3) (dNil))))))) (gN 6)
    (dSeq (dAsg (dCB rdReprK (dCons (dVar 6) (dNil))) (gN 7)) <|
    dIf (dOr (dTest (dOp rdNeT (dCall sp_l_told (dCons (dVar 6) (dNil))) (dCall sp_l_due (dCons (dVar 6) (dNil))))) (dTest (dOp rdNeT (dCB rdReprK (dCons (dVar 6) (dNil))) (dVar 7))))
     (dRet (dC (.d (.bool false))))
     (dNext))) <|
   dSeq (dAsg (dSlN (dVar 3) (dNoPart) (dPart (dC (.d (.int 8))))) (gN 8)) <|
   dSeq (dStillLS (dAsg (dMakeX C_Book sp_Book_init (λ _ _ _=>False) (dCons (dVar 8) (dNil))) (gN 9))) <|
   dSeq (dDrop (dAppend (dVar 8) (dC (.d (.str "more"))))) <|
   dSeq (dAsg (dC (.d (.str "other"))) (gSet (dVar 8) (dC (.d (.int 0))))) <|
   dSeq (dIf (dTest (dOp rdNeT (dMeth C_Book "machines" sp_Book_machines (dVar 9) dNil) (dSl (dVar 3) (dNoPart) (dPart (dC (.d (.int 8)))))))
    (dRet (dC (.d (.bool false))))
    (dNext)) <|
   dSeq (dDrop (dAppend (dMeth C_Book "machines" sp_Book_machines (dVar 9) dNil) (dC (.d (.str "web"))))) <|
   dSeq (dIf (dOr (dTest (dOp rdNeT (dMeth C_Book "machines" sp_Book_machines (dVar 9) dNil) (dSl (dVar 3) (dNoPart) (dPart (dC (.d (.int 8))))))) (dNot (dTest (dCall sp_l_nothing (dCons (dVar 9) (dNil))))))
    (dRet (dC (.d (.bool false))))
    (dNext)) <|
   dSeq (dFor (dItemsN (dLstM (dCons (dMeth C_Book "groups" sp_Book_groups (dVar 9) dNil) (dCons (dMeth C_Book "wishes" sp_Book_wishes (dVar 9) dNil) (dCons (dMeth C_Book "stores" sp_Book_stores (dVar 9) dNil) (dCons (dMeth C_Book "doors" sp_Book_doors (dVar 9) dNil) (dCons (dMeth C_Book "rules" sp_Book_rules (dVar 9) dNil) (dNil)))))))) (gN 10)
    (dDrop (dAppend (dVar 10) (dC (.d (.int 1)))))) <|
   dSeq (dDrop (dAppend (dMeth C_Book "emptied" sp_Book_emptied (dVar 9) dNil) (dC (.d (.str "m"))))) <|
   dSeq (dDrop (dAppend (dMeth C_Book "log" sp_Book_log (dVar 9) dNil) (dTup (dCons (dC (.d (.str "hand"))) (dCons (dTup (dCons (dC (.d (.str "back"))) (dCons (dC (.d (.str "a"))) (dNil)))) (dNil)))))) <|
   dSeq (dIf (dNot (dTest (dCall sp_l_nothing (dCons (dVar 9) (dNil)))))
    (dRet (dC (.d (.bool false))))
    (dNext)) <|
   dFor (dItems (dLst (dCons (dC (.d (.str "web"))) (dCons (dOp rdIx (dVar 3) (dC (.d (.int 0)))) (dCons (dC (.d .none)) (dCons (dLst (dCons (dC (.d (.str "web"))) (dNil))) (dCons (dDict0) (dCons (dC (.d (.int 5))) (dCons (dC (.d (.str ""))) (dNil)))))))))) (gN 11)
    (dIf (dNot (dTest (dCall sp_l_unknown (dCons (dVar 9) (dCons (dVar 11) (dNil))))))
     (dRet (dC (.d (.bool false))))
     (dNext)))) <|
  dRet (dC (.d (.bool true)))
noncomputable def wordB:PyData->Bool
 | .str z=>decide (1<=z.length) && decide (z.length<=8) && z.cps.toList.all smallB
 | _=>false
noncomputable def sp_is_word:SpD:=λ ws M Q=>∃ d,ws=[.d d]/\(∀ z,d=.str z->z.length<=1000)/\Q (.d (.bool (wordB d))) M
noncomputable def sp_l_is_word:SpD:=λ ws M Q=>∃ d,ws=[.d d]/\(∀ z,d=.str z->z.length<=1000)/\Q (.d (.bool (wordB d))) M
theorem len_is_word:∀ ws M Q,sp_is_word ws M Q->ws.length=1:=by rintro ws M Q ⟨d,rfl,_⟩; rfl
theorem len_l_is_word:∀ ws M Q,sp_l_is_word ws M Q->ws.length=1:=by rintro ws M Q ⟨d,rfl,_⟩; rfl
theorem isi_str (d:PyData):isiD d "str" = true ↔ ∃ z,d=.str z:=by
 cases d <;> simp [isiD,tyD]
theorem read_is_word:∀ ws M Q,sp_is_word ws M Q->t_is_word { nx:=λ _ M'=>Q (.d .none) M',rt:=Q } (startD N_is_word ws) M:=by
 rintro ws M Q ⟨d,rfl,hz,k⟩
 refine ⟨_,rfl,_,_,_,rfl,.d,.str,_,rfl,?_⟩
 cases hs:isiD d "str" with
 | false =>
  have:wordB d=false:=by
   cases d with
   | str z=>simp [isiD,tyD] at hs
   | _=>rfl
  rw [this] at k
  exact k
 | true =>
  obtain ⟨z,rfl⟩:=(isi_str d).mp hs
  have hl:=hz z rfl
  have hfit:fitW (.d (.str z))=true:=decide_eq_true (few hl)
  refine ⟨_,rfl,_,_,rfl,rfl,hfit,.inl ⟨_,_,rfl,rfl,_,rfl,?_⟩⟩
  have no:∀ b:Bool,b=false->(decide (1<=z.length) && decide (z.length<=8))=b->Q (.d (.bool false)) M:=λ b hb e=>by
   have:wordB (.str z)=false:=by simp only [wordB,e,hb,Bool.false_and]
   rw [this] at k
   exact k
  have fin:(decide (1<=z.length) && decide (z.length<=8))=true->dRet (dCB rdAll (dCons (dLC (dItems (dVar 0)) (gN 0) (dYes) (dChain rdLe rdLe (dC (.d (.str "a"))) (dVar 0) (dC (.d (.str "z")))) 1 []) (dNil))) { nx:=λ _ M'=>Q (.d .none) M',rt:=Q } (startD N_is_word [.d (.str z)]) M:=by
   intro hb
   refine ⟨_,rfl,_,rfl,?_⟩
   dsimp only
   refine lc_pure (λ w=>match w with
    | .d (.str y)=>some (.bool (smallB (y.cps.toList.headD 0)))
    | _=>none) ?hl (λ w hw P' hp=>?_) ?_
   case hl=>rw [List.length_map,str_len]; exact few hl
   ·obtain ⟨c,_,rfl⟩:=List.mem_map.mp hw
    refine ⟨_,rfl,.inr ⟨_,_,rfl,rfl,_,rfl,?_⟩⟩
    have ea:("a" : Str).cps.toList=[97]:=by decide +kernel
    have ez:("z" : Str).cps.toList=[122]:=by decide +kernel
    have ec:(⟨#[c]⟩:Str).cps.toList=[c]:=rfl
    have q1:(!decide ((⟨#[c]⟩:Str).cps.toList < ("a" : Str).cps.toList))=!decide (c < 97):=by rw [ea,ec,lt1]
    have q2:(!decide (("z" : Str).cps.toList < (⟨#[c]⟩:Str).cps.toList))=!decide (122 < c):=by rw [ez,ec,lt1]
    refine ite_b (λ h=>?_) (λ h=>?_)
    ·have h0:(!decide (c < 97))=true:=q1.symm.trans h
     refine .inr ⟨_,_,rfl,rfl,_,rfl,rfl,?_⟩
     have e:smallB c=!decide (122 < c):=by
      have h':¬ c < 97:=by simpa using h0
      by_cases h2:122 < c
      ·simp only [smallB,h2,decide_true,Bool.not_true,Bool.and_eq_false_iff,decide_eq_false_iff_not]; omega
      ·simp only [smallB,h2,decide_false,Bool.not_false,Bool.and_eq_true,decide_eq_true_eq]; omega
     have hp':P' (some (.bool (smallB c))):=hp
     rw [e,<- q2] at hp'
     exact hp'
    ·have h0:(!decide (c < 97))=false:=q1.symm.trans h
     refine ⟨_,rfl,rfl,?_⟩
     have e:smallB c=false:=by
      have h':c < 97:=by simpa using h0
      simp [smallB]; omega
     have hp':P' (some (.bool (smallB c))):=hp
     rw [e] at hp'
     exact hp'
   ·have e2:((z.cps.toList.map λ c=>W.d (.str ⟨#[c]⟩)).filterMap λ w=>match w with
      | .d (.str y)=>some (PyData.bool (smallB (y.cps.toList.headD 0)))
      | _=>none)=(z.cps.toList.map smallB).map PyData.bool:=by
     rw [fm_map (λ c=>W.d (.str ⟨#[c]⟩)) _ (λ c=>PyData.bool (smallB c)) (λ c=>rfl),List.map_map]
     rfl
    rw [e2]
    refine ⟨z.cps.toList.map smallB,rfl,?_⟩
    have e3:(z.cps.toList.map smallB).all id=wordB (.str z):=by
     simp only [wordB,hb,Bool.true_and,List.all_map]
     rfl
    rw [e3]
    exact k
  cases h1:decide ((1:Int)<=((z.length:Nat):Int)) with
  | false =>
   refine ⟨_,rfl,?_⟩
   refine no _ rfl ?_
   have:¬ (1:Int)<=(z.length:Nat):=of_decide_eq_false h1
   have:¬ 1<=z.length:=by omega
   simp [this]
  | true =>
   refine .inl ⟨_,_,rfl,rfl,_,rfl,?_⟩
   have g1:(1:Int)<=(z.length:Nat):=of_decide_eq_true h1
   cases h2:decide (((z.length:Nat):Int)<=8) with
   | false =>
    refine no _ rfl ?_
    have:¬ ((z.length:Nat):Int)<=8:=of_decide_eq_false h2
    have:¬ z.length<=8:=by omega
    simp [this]
   | true =>
    have g2:((z.length:Nat):Int)<=8:=of_decide_eq_true h2
    exact fin (by simp; omega)
theorem fm_filter {α:Type}(g:α->W)(f:W->Option PyData)(p:α->Bool)(h:α->PyData)(e:∀ a,f (g a)=if p a then some (h a) else none)(l:List α):(l.map g).filterMap f=(l.filter p).map h:=by
 induction l with
 | nil=>rfl
 | cons a l ih =>
  rw [List.map_cons,List.filterMap_cons,e,ih,List.filter_cons]
  cases p a <;> rfl
theorem alpha_mem (c:Nat):decide (c∈alphaS.cps.toList)=smallB c:=by
 have e:alphaS.cps.toList=[97,98,99,100,101,102,103,104,105,106,107,108,109,110,111,112,113,114,115,116,117,118,119,120,121,122]:=by decide +kernel
 rw [e]
 by_cases h:97<=c/\c<=122
 ·have hs:smallB c=true:=by simp [smallB,h.1,h.2]
  rw [hs]
  refine decide_eq_true ?_
  simp only [List.mem_cons,List.not_mem_nil,or_false]
  omega
 ·have hs:smallB c=false:=by
   simp only [smallB,Bool.and_eq_false_iff,decide_eq_false_iff_not]
   omega
  rw [hs]
  refine decide_eq_false ?_
  simp only [List.mem_cons,List.not_mem_nil,or_false]
  omega
theorem in_alpha (c:Nat):inS ⟨#[c]⟩ alphaS=smallB c:=by
 unfold inS
 rw [StrLaws.found_one,alpha_mem]
theorem filter_len (l:List Nat)(p:Nat->Bool):decide ((l.filter p).length=l.length)=l.all p:=by
 by_cases h:l.all p=true
 ·rw [h]
  refine decide_eq_true ?_
  rw [List.filter_eq_self.mpr (List.all_eq_true.mp h)]
 ·have h':l.all p=false:=by simpa using h
  rw [h']
  refine decide_eq_false λ e=>h ?_
  have:=List.length_filter_eq_length_iff.mp e
  exact List.all_eq_true.mpr this
theorem read_l_is_word:∀ ws M Q,sp_l_is_word ws M Q->t_l_is_word { nx:=λ _ M'=>Q (.d .none) M',rt:=Q } (startD N_l_is_word ws) M:=by
 rintro ws M Q ⟨d,rfl,hz,k⟩
 refine ⟨_,rfl,_,_,_,rfl,.d,.str,_,rfl,?_⟩
 cases hs:isiD d "str" with
 | false =>
  have:wordB d=false:=by
   cases d with
   | str z=>simp [isiD,tyD] at hs
   | _=>rfl
  rw [this] at k
  exact k
 | true =>
  obtain ⟨z,rfl⟩:=(isi_str d).mp hs
  have hl:=hz z rfl
  have hfit:fitW (.d (.str z))=true:=decide_eq_true (few hl)
  refine ⟨_,rfl,_,rfl,?_⟩
  dsimp only
  refine lc_pure (λ w=>match w with
   | .d (.str y)=>if smallB (y.cps.toList.headD 0) then some (.str y) else none
   | _=>none) ?hl (λ w hw P' hp=>?_) ?_
  case hl=>rw [List.length_map,str_len]; exact few hl
  ·obtain ⟨c,_,rfl⟩:=List.mem_map.mp hw
   refine ⟨_,rfl,_,_,rfl,rfl,_,rfl,?_⟩
   have q1:inS ⟨#[c]⟩ alphaS=smallB c:=in_alpha c
   have hp':P' (if smallB c=true then some (.str ⟨#[c]⟩) else none):=hp
   refine ite_b (λ h=>?_) (λ h=>?_)
   ·have h0:smallB c=true:=q1.symm.trans h
    rw [if_pos h0] at hp'
    exact ⟨_,rfl,_,rfl,rfl,hp'⟩
   ·have h0:smallB c=false:=q1.symm.trans h
    rw [if_neg (by rw [h0]; decide)] at hp'
    exact ⟨rfl,hp'⟩
  ·have e2:((z.cps.toList.map λ c=>W.d (.str ⟨#[c]⟩)).filterMap λ w=>match w with
     | .d (.str y)=>if smallB (y.cps.toList.headD 0) then some (PyData.str y) else none
     | _=>none)=(z.cps.toList.filter smallB).map λ c=>PyData.str ⟨#[c]⟩:=fm_filter (λ c=>W.d (.str ⟨#[c]⟩)) _ smallB (λ c=>PyData.str ⟨#[c]⟩) (λ c=>rfl) _
   rw [e2]
   refine ⟨_,rfl,_,_,rfl,rfl,rfl,_,rfl,_,_,rfl,rfl,hfit,_,_,.d,.d,rfl,_,rfl,?_⟩
   have e3:PyData.eqv (.int ((((z.cps.toList.filter smallB).map λ c=>PyData.str ⟨#[c]⟩).length:Nat):Int)) (.int ((z.length:Nat):Int))=z.cps.toList.all smallB:=by
    rw [eqv_int,List.length_map,<- filter_len,<- str_len z]
    by_cases h:(z.cps.toList.filter smallB).length=z.cps.toList.length
    ·rw [h,decide_eq_true rfl]; simp
    ·rw [decide_eq_false h]
     exact beq_eq_false_iff_ne.mpr λ z=>h (by omega)
   rw [e3]
   have kk:wordB (.str z)=(decide (1<=z.length) && decide (z.length<=8) && z.cps.toList.all smallB):=rfl
   rw [kk] at k
   refine ite_b (λ h=>?_) (λ h=>?_)
   ·rw [h,Bool.and_true] at k
    refine ⟨_,rfl,_,_,rfl,rfl,hfit,.inl ⟨_,_,rfl,rfl,_,rfl,?_⟩⟩
    have c1:decide ((1:Int)<=((z.length:Nat):Int))=decide (1<=z.length):=by
     by_cases h:1<=z.length
     ·rw [decide_eq_true h]; exact decide_eq_true (by omega)
     ·rw [decide_eq_false h]; exact decide_eq_false (by omega)
    have c2:decide (((z.length:Nat):Int)<=8)=decide (z.length<=8):=by
     by_cases h:z.length<=8
     ·rw [decide_eq_true h]; exact decide_eq_true (by omega)
     ·rw [decide_eq_false h]; exact decide_eq_false (by omega)
    refine ite_b (λ h=>?_) (λ h=>?_)
    ·have h0:decide (1<=z.length)=true:=c1.symm.trans h
     rw [h0,Bool.true_and,<- c2] at k
     exact .inl ⟨_,_,rfl,rfl,k⟩
    ·have h0:decide (1<=z.length)=false:=c1.symm.trans h
     rw [h0,Bool.false_and] at k
     exact k
   ·rw [h,Bool.and_false] at k
    exact k
theorem glue_signs:∀ (cs:List Nat) (acc:Array Nat),((cs.map λ c=>(⟨#[c]⟩:Str)).foldl (λ acc p=>acc++("" : Str).cps++p.cps) acc).toList=acc.toList++cs
 | [],acc=>by simp
 | c :: cs,acc=>by
  have e:("" : Str).cps = #[]:=by decide +kernel
  rw [List.map_cons,List.foldl_cons,glue_signs cs]
  rw [e]
  simp
theorem join_signs (cs:List Nat):(Txt.join "" (cs.map λ c=>(⟨#[c]⟩:Str))).cps.toList=cs:=by
 cases cs with
 | nil=>simp [Txt.join,Builtin.Str.glued,Str.empty]
 | cons c cs =>
  show (((cs.map λ c=>(⟨#[c]⟩:Str)).foldl (λ acc p=>acc++("" : Str).cps++p.cps) #[c])).toList=_
  rw [glue_signs]
  rfl
theorem alpha_small:∀ c∈alphaS.cps.toList,smallB c=true:=by decide +kernel
theorem signs_sum (cs:List Nat):((cs.map λ c=>(⟨#[c]⟩:Str)).map (·.length)).sum=cs.length:=by
 induction cs with
 | nil=>rfl
 | cons c cs ih =>
  simp only [List.map_cons,List.sum_cons,ih,List.length_cons]
  show 1+cs.length=_
  omega
theorem app_signs (x y:Str):(x++y).cps.toList=x.cps.toList++y.cps.toList:=by show (x.cps++y.cps).toList=_; simp
theorem alpha_ix:∀ r < 26,alphaS.cps.toList[r]? = some (97+r):=by decide +kernel
theorem sign_at {M:MH}{i:Int}(h0:0<=i)(h1:i < 26):ixW M (.d (.str alphaS)) i=some (.d (.str ⟨#[97+i.toNat]⟩)):=by
 obtain ⟨n,rfl⟩:=Int.eq_ofNat_of_zero_le h0
 simp only [ixW]
 rw [atI_nat (alpha_ix n (by omega))]
 rfl
theorem small_sign:∀ r < 26,smallB (97+r)=true:=by decide +kernel
noncomputable def Fr (M M':MH)(p:Addr):Prop:=∀ q o,q≠p->M q=some o->M' q=some o
theorem Fr.trans {A B C:MH}{p:Addr}(h:Fr A B p)(k:Fr B C p):Fr A C p:=λ q o n e=>k q o n (h q o n e)
theorem Fr.of {M M':MH}{p:Addr}(h:∀ q,q≠p->M' q=M q):Fr M M' p:=λ q o n e=>by rw [h q n]; exact e
theorem Fr.ext {M M':MH}{p:Addr}(h:Ext M M'):Fr M M' p:=λ q o _ e=>h q o e
noncomputable def sgn7 (t:Int)(j:Nat):Nat:=97+((t+7 * j) % 26).toNat
theorem apart7:∀ a < 26,∀ i < 10,∀ j < 10,(a+7 * i) % 26=(a+7 * j) % 26->i=j:=by decide +kernel
theorem sgn7_inj {t:Int}{i j:Nat}(a0:0<=t)(a1:t < 26)(hi:i < 10)(hj:j < 10)(h:sgn7 t i=sgn7 t j):i=j:=by
 obtain ⟨a,rfl⟩:=Int.eq_ofNat_of_zero_le a0
 unfold sgn7 at h
 refine apart7 a (by omega) i hi j hj ?_
 omega
structure Nms (t:Int)(zs:List Str):Prop where
 at_:∀ j z,zs[j]? = some z->wd z=true/\z.cps.toList.head? = some (sgn7 t j)
theorem Nms.nd {t:Int}{zs:List Str}(h:Nms t zs)(a0:0<=t)(a1:t < 26)(hl:zs.length<=10):zs.Nodup:=by
 refine List.pairwise_iff_getElem.mpr λ i j hi hj hij e=>?_
 have e1:=(h.at_ i zs[i] (List.getElem?_eq_getElem hi)).2
 have e2:=(h.at_ j zs[j] (List.getElem?_eq_getElem hj)).2
 rw [e,e2] at e1
 have:=sgn7_inj a0 a1 (by omega) (by omega) (Option.some.inj e1)
 omega
theorem Nms.wd {t:Int}{zs:List Str}(h:Nms t zs):∀ z∈zs,wd z=true:=λ z hz=>by
 obtain ⟨j,hj,e⟩:=List.getElem_of_mem hz
 exact (h.at_ j z (by rw [List.getElem?_eq_getElem hj,e])).1
theorem Nms.snoc {t:Int}{zs:List Str}{z:Str}(h:Nms t zs)(hw:Stc.wd z=true)(hh:z.cps.toList.head? = some (sgn7 t zs.length)):Nms t (zs++[z]):=⟨λ j y e=>by
 by_cases hj:j < zs.length
 ·rw [List.getElem?_append_left hj] at e; exact h.at_ j y e
 ·rw [List.getElem?_append_right (by omega)] at e
  have:j - zs.length=0:=by
   by_cases q:j - zs.length=0
   ·exact q
   ·rw [List.getElem?_eq_none (by simp; omega)] at e; cases e
  rw [this] at e
  cases e
  have:j=zs.length:=by omega
  rw [this]; exact ⟨hw,hh⟩⟩
noncomputable def sp_l_words:SpD:=λ ws M Q=>∃ (p:Addr) (n:Int),ws=[.m p,.d (.int n)]/\Bag M p/\1<=n/\n<=10 /\
 ∀ (zs:List Str) l M',(zs.length:Int)=n->(∀ z∈zs,wd z=true)->zs.Nodup->l≠p->M' l=some (.lst ((zs.map PyData.str).map W.d))->Bag M' p->Q (.m l) M'
theorem len_l_words:∀ ws M Q,sp_l_words ws M Q->ws.length=2:=by rintro ws M Q ⟨p,n,rfl,_⟩; rfl
inductive WdP (t n:Int) (p a:Addr) (i:Nat) (τ:DS) (M':MH):Prop
 | mk (zs:List Str) (x5 x6:Option W) (b:Bag M' p) (e:M' a=some (.lst ((zs.map PyData.str).map W.d))) (hl:zs.length=i) (h:Nms t zs) (z5:τ=[some (.m p),some (.d (.int n)),some (.d (.str alphaS)),some (.m a),some (.d (.int t)),x5,x6]):WdP t n p a i τ M'
theorem read_l_words:∀ ws M Q,sp_l_words ws M Q->t_l_words sp_l_take { nx:=λ _ M'=>Q (.d .none) M',rt:=Q } (startD N_l_words ws) M:=by
 rintro ws M Q ⟨p,n,rfl,hb,n0,n1,k⟩
 have s16':=s16
 have e0:("" : Str).length=0:=by decide +kernel
 have fitA:fitW (.d (.str alphaS))=true:=by decide +kernel
 refine ⟨few (by simp),λ a ha=>⟨_,rfl,p,26,rfl,Ext.bag (Ext.new ha) hb,by decide,by decide,λ t M1 t0 t1 b1 f1=>?_⟩⟩
 have pa:a≠p:=λ e=>by obtain ⟨_,_,_,_,z,_⟩:=hb; rw [e,z] at ha; cases ha
 refine ⟨_,rfl,n,rfl,by omega,by omega,WdP t n p a,⟨[],_,_,b1,by rw [f1 a pa]; exact updM_same,rfl,⟨λ j z e=>by simp at e⟩,rfl⟩,λ i w τ M2 hw P=>?_,λ τ M2 P=>?_⟩
 ·obtain ⟨zs,x5,x6,b2,e2,hl,hN,rfl⟩:=P
  obtain ⟨hi,rfl⟩:=rng0_at hw
  refine ⟨_,rfl,p,8,rfl,b2,by decide,by decide,λ m M3 m0 m1 b3 f3=>⟨m,rfl,by omega,by omega,?_⟩⟩
  dsimp only
  refine ⟨λ i acc τ M'=>Bag M' p/\(∀ q,q≠p->M' q=M2 q)/\(∃ cs:List Nat,acc=cs.map (λ c=>PyData.str ⟨#[c]⟩)/\cs.length=i/\∀ c∈cs,smallB c=true)/\∃ x,τ=[x,some (.d (.str alphaS)),some (.m p)],⟨b3,f3,⟨[],rfl,rfl,λ _ h=>nomatch h⟩,_,rfl⟩,?_,?_⟩
  ·rintro i w acc τ M' hw ⟨b,f,⟨cs,rfl,hl,hc⟩,x,rfl⟩
   obtain ⟨hi,rfl⟩:=rng_at hw
   refine ⟨by rw [List.length_map]; omega,_,rfl,_,rfl,p,26,rfl,b,by decide,by decide,λ r M3 r0 r1 b3 f3=>?_⟩
   obtain ⟨c,hc1,hm⟩:=ix_str_at (M:=M3) (z:=alphaS) r0 (by rw [alphaL]; exact r1)
   refine ⟨r,_,rfl,hc1,fitA,_,rfl,b3,λ q hq=>(f3 q hq).trans (f q hq),⟨cs++[c],by simp,by simp [hl],λ c' h'=>?_⟩,_,rfl⟩
   rcases List.mem_append.mp h' with h' | h'
   ·exact hc c' h'
   ·rw [List.mem_singleton.mp h']; exact alpha_small c hm
  rintro acc τ M4 ⟨b4,f4,⟨cs,rfl,hcl,hc⟩,x,rfl⟩
  simp only [rangeW,List.length_map,List.length_range] at hcl
  have e4:M4 a=some (.lst ((zs.map PyData.str).map W.d)):=by rw [f4 a pa]; exact e2
  have hz:=join_signs cs
  have hzl:(Txt.join "" (cs.map λ c=>(⟨#[c]⟩:Str))).length=cs.length:=by rw [<- str_len,hz]
  have h26:0<=(t+7 * (i:Int)) % 26/\(t+7 * (i:Int)) % 26 < 26:=⟨Int.emod_nonneg _ (by decide),Int.emod_lt_of_pos _ (by decide)⟩
  refine ⟨_,rfl,a,_,rfl,e4,_,rfl,_,rfl,_,rfl,_,_,rfl,rfl,.inr ⟨by omega,by omega⟩,.inl ⟨_,_,rfl,rfl,_,_,rfl,rfl,(by show (0:Int) < 26; decide),_,_,rfl,sign_at h26.1 h26.2,fitA,⟨_,rfl⟩,_,rfl, "",cs.map λ c=>⟨#[c]⟩,rfl,by rw [List.map_map]; rfl,by rw [signs_sum,e0]; omega,.inr ⟨_,_,rfl,rfl,?_,?_⟩⟩⟩
  ·rw [hzl]; show 1+cs.length<=_; omega
  generalize Txt.join "" (cs.map λ c=>(⟨#[c]⟩:Str))=z at hz hzl
  refine ⟨_,e4,by simp only [List.length_map]; omega,zs++[⟨#[97+((t+7 * (i:Int)) % 26).toNat]⟩++z],_,_,?_,?_,by simp [hl],?_,rfl⟩
  ·obtain ⟨a',b',c',ns',z',w'⟩:=b4
   exact ⟨a',b',c',ns',by rw [updM_ne (Ne.symm pa)]; exact z',w'⟩
  ·rw [updM_same]; simp
  ·refine hN.snoc ?_ ?_
   ·have ec:((⟨#[97+((t+7 * (i:Int)) % 26).toNat]⟩:Str)++z).cps.toList=(97+((t+7 * (i:Int)) % 26).toNat) :: cs:=by rw [app_signs,hz]; rfl
    have el:((⟨#[97+((t+7 * (i:Int)) % 26).toNat]⟩:Str)++z).length=cs.length+1:=by rw [<- str_len,ec]; rfl
    unfold wd
    rw [el,ec,decide_eq_true (by omega),decide_eq_true (by omega),Bool.true_and,Bool.true_and,List.all_eq_true]
    intro x hx
    rcases List.mem_cons.mp hx with rfl | hx
    ·exact small_sign _ (by omega)
    ·exact hc x hx
   ·rw [app_signs,hl]; rfl
 ·obtain ⟨zs,x5,x6,b2,e2,hl,hN,rfl⟩:=P
  have hl':zs.length=n.toNat:=by rw [hl]; simp [rangeW]
  exact ⟨_,rfl,k zs a M2 (by omega) hN.wd (hN.nd t0 t1 (by omega)) pa e2 b2⟩
noncomputable def odds:List PyData:=[.str "Aa",.str "abcdefghi",.str "",.int 5,.none,.list [.str "a"],.tuple [.str "a"],.bool true,.str "a b",.dict [],.str "a1"]
noncomputable def Odd (d:PyData):Prop:=(∃ z,d=.str z/\wd z=true)\/d∈odds
structure OddF (d:PyData):Prop where
 fine:fineD d=true
 big:D.big d<=2000
 dep:d.depth<=10
 flat:dflat d=true
 len:∀ z,d=.str z->z.length<=1000
theorem odds_ok:∀ d∈odds,fineD d=true/\D.big d<=2000/\d.depth<=10/\dflat d=true:=by
 have l5:(5:Int).natAbs.log2 < 1920:=by decide
 intro d hd
 simp only [odds,List.mem_cons,List.not_mem_nil,or_false] at hd
 rcases hd with rfl | rfl | rfl | rfl | rfl | rfl | rfl | rfl | rfl | rfl | rfl <;> decide +kernel
theorem odds_len:∀ d∈odds,∀ z,d=.str z->z.length<=1000:=by
 intro d hd z e
 subst e
 simp only [odds,List.mem_cons,List.not_mem_nil,or_false,PyData.str.injEq,reduceCtorEq,false_or] at hd
 rcases hd with rfl | rfl | rfl | rfl | rfl <;> decide +kernel
theorem wd_f {z:Str}(h:wd z=true):OddF (.str z):=by
 have hl:=wd_len h
 exact ⟨by simp only [fineD]; exact wd_asc h,by simp only [D.big]; omega,by simp [PyData.depth],rfl,λ y e=>by cases e; omega⟩
theorem Odd.f {d:PyData}(h:Odd d):OddF d:=by
 rcases h with ⟨z,rfl,hz⟩ | h
 ·exact wd_f hz
 ·obtain ⟨h1,h2,h3,h4⟩:=odds_ok d h
  exact ⟨h1,h2,h3,h4,odds_len d h⟩
noncomputable def sp_l_spoilt:SpD:=λ ws M Q=>∃ (p:Addr) (zs:List Str),ws=[.m p,.d (.list (zs.map PyData.str))]/\Bag M p/\zs≠[]/\zs.length<=10/\(∀ z∈zs,wd z=true) /\
 ∀ (ds:List PyData) l M',ds.length<=10->(∀ d∈ds,Odd d)->l≠p->M' l=some (.lst (ds.map W.d))->Bag M' p->Q (.m l) M'
theorem len_l_spoilt:∀ ws M Q,sp_l_spoilt ws M Q->ws.length=2:=by rintro ws M Q ⟨p,n,rfl,_⟩; rfl
inductive SpP (p a:Addr) (n:Nat) (τ:DS) (M':MH):Prop
 | mk (ds:List PyData) (x2 x3 x4:Option W) (b:Bag M' p) (e:M' a=some (.lst (ds.map W.d))) (hl:ds.length=n) (h:∀ d∈ds,Odd d) (z5:τ=[some (.m p),some (.m a),x2,x3,x4]):SpP p a n τ M'
theorem read_l_spoilt:∀ ws M Q,sp_l_spoilt ws M Q->t_l_spoilt sp_l_take { nx:=λ _ M'=>Q (.d .none) M',rt:=Q } (startD N_l_spoilt ws) M:=by
 rintro ws M Q ⟨p,zs,rfl,hb,hne,hl,hz,k⟩
 have hn:0 < zs.length:=by cases zs with
  | nil=>exact absurd rfl hne
  | cons _ _=>simp
 refine ⟨_,rfl,_,_,rfl,.l,λ a ha=>?_⟩
 have pa:a≠p:=λ e=>by obtain ⟨_,_,_,_,z,_⟩:=hb; rw [e,z] at ha; cases ha
 refine ⟨_,rfl,p,2,rfl,Ext.bag (Ext.new ha) hb,by decide,by decide,λ c M1 c0 c1 b1 f1=>.inl ⟨_,_,rfl,rfl,_,rfl,by omega,by omega,λ _ τ M'=>SpP p a zs.length τ M',⟨zs.map PyData.str,_,_,_,b1,by rw [f1 a pa]; exact updM_same,by simp,λ d hd=>?_,rfl⟩,λ i w τ M2 hw P=>?_,λ τ M2 P=>?_⟩⟩
 ·obtain ⟨z,hz',rfl⟩:=List.mem_map.mp hd
  exact .inl ⟨z,rfl,hz z hz'⟩
 ·obtain ⟨ds,x2,x3,x4,b2,e2,hl2,ho,rfl⟩:=P
  have lenA:lenW M2 (.m a)=some ds.length:=by simp only [lenW,e2,List.length_map]
  refine ⟨_,rfl,_,rfl,_,_,rfl,lenA,rfl,p,ds.length,rfl,b2,by omega,by omega,λ at' M3 a0 a1 b3 f3=>?_⟩
  have e3:M3 a=some (.lst (ds.map W.d)):=by rw [f3 a pa]; exact e2
  have lenB:lenW M3 (.m a)=some ds.length:=by simp only [lenW,e3,List.length_map]
  refine ⟨_,rfl,_,rfl,_,rfl,_,_,rfl,lenB,rfl,p,ds.length,rfl,b3,by omega,by omega,λ r M4 r0 r1 b4 f4=>?_⟩
  have e4:M4 a=some (.lst (ds.map W.d)):=by rw [f4 a pa]; exact e3
  obtain ⟨d,hd,hm⟩:∃ d,ixW M4 (.m a) r=some (.d d)/\d∈ds:=by
   have hr:r.toNat < ds.length:=by omega
   obtain ⟨m,hm⟩:∃ m,ds[r.toNat]? = some m:=⟨_,List.getElem?_eq_getElem hr⟩
   refine ⟨m,ix_m e4 ?_,List.mem_of_getElem? hm⟩
   rw [show r=((r.toNat:Nat):Int) by omega]
   exact atI_nat (by rw [List.getElem?_map,hm]; rfl)
  refine ⟨_,_,rfl,hd,rfl,_,rfl,few (by simp),_,rfl,few (by simp),_,rfl,few (by simp),?_⟩
  refine ⟨_,rfl,_,rfl,p,12,rfl,b4,by decide,by decide,λ s M5 s0 s1 b5 f5=>?_⟩
  obtain ⟨d',hd',hm'⟩:=ix_at (M:=M5) (ds:=d :: odds) s0 (by show s < 12; exact s1)
  have e5:M5 a=some (.lst (ds.map W.d)):=by rw [f5 a pa]; exact e4
  refine ⟨_,_,rfl,hd',rfl,_,rfl,_,rfl,a,_,_,at'.toNat,rfl,rfl,e5,ixN_nat a0 (by rw [List.length_map]; omega),ds.set at'.toNat d',_,_,_,?_,?_,by simp [hl2],λ y hy=>?_,rfl⟩
  ·obtain ⟨a',b',c',ns',z',w'⟩:=b5
   exact ⟨a',b',c',ns',by rw [updM_ne (Ne.symm pa)]; exact z',w'⟩
  ·rw [updM_same,List.map_set]
  ·rcases List.mem_or_eq_of_mem_set hy with hy | rfl
   ·exact ho y hy
   ·rcases List.mem_cons.mp hm' with rfl | hm'
    ·exact ho _ hm
    ·exact .inr hm'
 ·obtain ⟨ds,x2,x3,x4,b2,e2,hl2,ho,rfl⟩:=P
  exact ⟨_,rfl,k ds a M2 (by omega) ho pa e2 b2⟩
noncomputable def badAt (ds:List PyData)(i:Nat):Bool:=decide (8<=i) || (!wordB (ds.getD i .none) || inA (ds.getD i .none) (ds.take i))
structure Pre (ds:List PyData)(i:Nat):Prop where
 le:i<=8
 ok:∀ j < i,badAt ds j=false
 zs:∃ zs:List Str,ds.take i=zs.map PyData.str/\∀ z∈zs,wd z=true
theorem word_is {d:PyData}(h:wordB d=true):∃ z,d=.str z/\wd z=true:=by
 cases d with
 | str z=>exact ⟨z,rfl,h⟩
 | _=>cases h
theorem Pre.zero (ds:List PyData):Pre ds 0:=⟨by omega,λ j h=>absurd h (Nat.not_lt_zero _),[],rfl,λ z h=>nomatch h⟩
theorem getD_at {ds:List PyData}{i:Nat}{d:PyData}(h:ds[i]? = some d):ds.getD i .none=d:=by rw [List.getD_eq_getElem?_getD,h]; rfl
theorem Pre.step {ds:List PyData}{i:Nat}{d:PyData}(P:Pre ds i)(e:ds[i]? = some d)(h:badAt ds i=false):Pre ds (i+1):=by
 have h':=h
 unfold badAt at h'
 rw [getD_at e] at h'
 simp only [Bool.or_eq_false_iff,decide_eq_false_iff_not,Bool.not_eq_false'] at h'
 obtain ⟨zs,e1,hz⟩:=P.zs
 obtain ⟨z,rfl,hw⟩:=word_is h'.2.1
 refine ⟨by omega,λ j hj=>?_,zs++[z],?_,λ y hy=>?_⟩
 ·by_cases q:j=i
  ·rw [q]; exact h
  ·exact P.ok j (by omega)
 ·rw [List.take_succ,e,e1]; simp
 ·rcases List.mem_append.mp hy with hy | hy
  ·exact hz y hy
  ·rw [List.mem_singleton.mp hy]; exact hw
theorem in_ok {z:Str}{zs:List Str}(h:ascB z=true)(hz:∀ y∈zs,wd y=true):inOk (.str z) (zs.map PyData.str)=true:=by
 have e1:okD 1 (.str z)=true:=by simp only [okD]; exact h
 have e3:∀ l:List Str,(∀ y∈l,wd y=true)->okA 0 (l.map PyData.str)=true:=by
  intro l
  induction l with
  | nil=>intro _; rfl
  | cons y l ih =>
   intro hl
   simp only [List.map_cons,okA,okD,Bool.and_eq_true]
   exact ⟨wd_asc (hl y (by simp)),ih λ x hx=>hl x (by simp [hx])⟩
 have e2:okD 1 (.list (zs.map PyData.str))=true:=by simp only [okD]; exact e3 zs hz
 unfold inOk
 rw [eqOk_of (by decide) e1,eqOk_of (by decide) e2]
 rfl
noncomputable def firstBad (ds:List PyData):Option Nat:=(List.range ds.length).find? (badAt ds)
theorem first_is {ds:List PyData}{i:Nat}(h:∀ j < i,badAt ds j=false)(hi:i < ds.length)(hb:badAt ds i=true):firstBad ds=some i:=by
 unfold firstBad
 rw [List.find?_eq_some_iff_getElem]
 refine ⟨hb,i,by simpa using hi,by simp,λ j hj=>?_⟩
 simp only [List.getElem_range,Bool.not_eq_true']
 exact h j hj
theorem first_no {ds:List PyData}(h:∀ j < ds.length,badAt ds j=false):firstBad ds=none:=by
 unfold firstBad
 rw [List.find?_eq_none]
 intro j hj
 rw [h j (by simpa using hj)]
 decide
noncomputable def dueL (ds:List PyData):PyData:=if ds.isEmpty=true then .int 0 else match firstBad ds with
 | some i=>.int (i:Nat)
 | none=>.none
noncomputable def dueD:PyData->PyData
 | .list ds=>dueL ds
 | _=>.int 0
noncomputable def GoodD (d:PyData):Prop:=∀ ds,d=.list ds->ds.length<=1000/\∀ x∈ds,∀ z,x=.str z->z.length<=1000
theorem enum_d {ds:List PyData}{i:Nat}{w:W}(h:(enumW ds)[i]? = some w):∃ d,ds[i]? = some d/\w=.d (.tuple [.int (i:Nat),d]):=by
 have h':(enumW (ds.map id))[i]? = some w:=by rw [List.map_id]; exact h
 exact enum_row h'
inductive Sp_refuse_names (ws:List W) (M:MH) (Q:QD) (E:XQ):Prop
 | dat (d:PyData) (e:ws=[.d d]) (g:GoodD d) (q:dueD d=.none->Q (.d .none) M) (x:∀ i,dueD d=.int i->∀ a,M a=none->E a (updM M a (.exc C_BadName [("at",.d (.int i))]))):Sp_refuse_names ws M Q E
 | lst (a:Addr) (ds:List PyData) (e:ws=[.m a]) (h:M a=some (.flst (ds.map W.d))) (g:GoodD (.list ds)) (n:dueL ds=.none) (q:∀ M',Ext M M'->Q (.d .none) M'):Sp_refuse_names ws M Q E
noncomputable def sp_refuse_names:SpX:=Sp_refuse_names
theorem len_refuse_names:∀ ws M Q E,sp_refuse_names ws M Q E->ws.length=1:=by
 rintro ws M Q E h
 cases h with
 | dat d e=>rw [e]; rfl
 | lst a ds e=>rw [e]; rfl
theorem dueL_bad {ds:List PyData}{i:Nat}(P:Pre ds i)(hi:i < ds.length)(hb:badAt ds i=true):dueL ds=.int (i:Nat):=by
 unfold dueL
 rw [if_neg (by cases ds with
  | nil=>simp at hi
  | cons _ _=>simp),first_is P.ok hi hb]
theorem dueL_good {ds:List PyData}(h:ds.isEmpty=false)(P:Pre ds ds.length):dueL ds=.none:=by
 unfold dueL
 rw [if_neg (by rw [h]; decide),first_no P.ok]
theorem dueL_pre {ds:List PyData}(h:dueL ds=.none):ds.isEmpty=false/\∀ j < ds.length,badAt ds j=false:=by
 unfold dueL at h
 by_cases e:ds.isEmpty=true
 ·rw [if_pos e] at h; cases h
 ·rw [if_neg e] at h
  refine ⟨by simpa using e,λ j hj=>?_⟩
  cases f:firstBad ds with
  | some i=>rw [f] at h; cases h
  | none =>
   unfold firstBad at f
   rw [List.find?_eq_none] at f
   have:=f j (by simpa using hj)
   simpa using this
theorem read_refuse_names:∀ ws M Q E,sp_refuse_names ws M Q E->t_refuse_names (λ a _ M=>E a M) sp_is_word { nx:=λ _ M'=>Q (.d .none) M',rt:=Q } (startD N_refuse_names ws) M:=by
 rintro ws M Q E h
 cases h with
 | dat d e g q x =>
  subst e
  refine .inl ⟨_,rfl,_,_,_,rfl,.d,.list,_,rfl,?_⟩
  cases hs:isiD d "list" with
  | false =>
   have hd:dueD d=.int 0:=by
    cases d with
    | list ds=>rw [isi_l] at hs; cases hs
    | _=>rfl
   exact iteT (iteT ⟨rfl,by simp,x 0 hd⟩)
  | true =>
   obtain ⟨ds,rfl⟩:∃ ds,d=.list ds:=by
    cases d with
    | list ds=>exact ⟨ds,rfl⟩
    | _=>simp [isiD,tyD] at hs
   obtain ⟨g1,g2⟩:=g ds rfl
   refine iteF ⟨_,rfl,_,.l,?_⟩
   cases he:ds.isEmpty with
   | true =>
    have hd:dueL ds=.int 0:=by unfold dueL; rw [if_pos he]
    exact iteT ⟨rfl,by simp,x 0 hd⟩
   | false =>
    refine iteF ⟨_,rfl,ds,rfl,λ i τ M'=>M'=M/\Pre ds i/\i<=ds.length/\∃ x2 x3,τ=[some (.d (.list ds)),x2,x3],⟨rfl,Pre.zero ds,Nat.zero_le _,_,_,rfl⟩,?_,?_⟩
    ·rintro i w τ M' hw ⟨rfl,P,hi,x2,x3,rfl⟩
     obtain ⟨d,hd,rfl⟩:=enum_d hw
     have hlt:=(List.getElem?_eq_some_iff.mp hd).1
     have hit:badAt ds i=true->∀ a,M' a=none->E a (updM M' a (.exc C_BadName [("at",.d (.int (i:Nat)))])):=λ hb=>x _ (dueL_bad P hlt hb)
     refine ⟨_,rfl,rfl,_,_,rfl,_,_,rfl,rfl,?_⟩
     refine ⟨_,rfl,_,_,rfl,rfl,_,rfl,?_⟩
     refine ite_b (λ h8=>?_) (λ h8=>?_)
     ·have h8':(8:Int)<=(i:Nat):=of_decide_eq_true h8
      exact iteT ⟨_,rfl,rfl,by simp,hit (by unfold badAt; rw [decide_eq_true (by omega)]; rfl)⟩
     ·have h8':¬ (8:Int)<=(i:Nat):=of_decide_eq_false h8
      have eb:badAt ds i=(!wordB d || inA d (ds.take i)):=by unfold badAt; rw [decide_eq_false (by omega),getD_at hd]; rfl
      refine ⟨_,rfl,d,rfl,λ z e=>g2 d (List.mem_of_getElem? hd) z e,_,rfl,?_⟩
      cases hw:wordB d with
      | false=>exact iteT (iteT ⟨_,rfl,rfl,by simp,hit (by rw [eb,hw]; rfl)⟩)
      | true =>
       obtain ⟨z,rfl,hz⟩:=word_is hw
       obtain ⟨zs,ez,hzs⟩:=P.zs
       have ct:D.cutD ds none (some ((i:Nat):Int))=ds.take i:=cut_take (by omega)
       refine iteF ⟨_,rfl,_,rfl,_,rfl,_,rfl,_,rfl,rfl,.str z,D.cutD ds none (some ((i:Nat):Int)),.d,.inl .d,by rw [ct,ez]; exact in_ok (wd_asc hz) hzs,_,rfl,?_⟩
       rw [ct]
       refine ite_b (λ hb=>?_) (λ hb=>?_)
       ·have hb':inA (.str z) (ds.take i)=true:=by simpa using hb
        exact ⟨_,rfl,rfl,by simp,hit (by rw [eb,hb']; simp)⟩
       ·have hb':inA (.str z) (ds.take i)=false:=by simpa using hb
        exact ⟨rfl,P.step hd (by rw [eb,hb',hw]; rfl),hlt,_,_,rfl⟩
    ·rintro τ M' ⟨rfl,P,_,x2,x3,rfl⟩
     have hl:(enumW ds).length=ds.length:=by simp [enumW]
     rw [hl] at P
     exact q (dueL_good he P)
 | lst a ds e h g n q =>
  subst e
  obtain ⟨g1,g2⟩:=g ds rfl
  obtain ⟨he,hall⟩:=dueL_pre n
  have he':(ds.map W.d).isEmpty=false:=by
   cases ds with
   | nil=>cases he
   | cons _ _=>rfl
  refine .inr ⟨_,rfl,a,_,_,rfl,h,.list,_,rfl,?_⟩
  rw [isi_l]
  refine iteF ⟨_,rfl,a,_,rfl,h,?_⟩
  rw [he']
  refine iteF ⟨_,rfl,a,ds,rfl,h,λ i τ M'=>Ext M M'/\Pre ds i/\i<=ds.length/\∃ x2 x3,τ=[some (.m a),x2,x3],⟨Ext.refl _,Pre.zero ds,Nat.zero_le _,_,_,rfl⟩,?_,?_⟩
  ·rintro i w τ M' hw ⟨xt,P,hi,x2,x3,rfl⟩
   obtain ⟨d,hd,rfl⟩:=enum_d hw
   have hlt:=(List.getElem?_eq_some_iff.mp hd).1
   have hb:=hall i hlt
   have hb':=hb
   unfold badAt at hb'
   rw [getD_at hd] at hb'
   simp only [Bool.or_eq_false_iff,decide_eq_false_iff_not,Bool.not_eq_false'] at hb'
   obtain ⟨z,rfl,hz⟩:=word_is hb'.2.1
   obtain ⟨zs,ez,hzs⟩:=P.zs
   refine ⟨_,rfl,rfl,_,_,rfl,_,_,rfl,rfl,?_⟩
   refine ⟨_,rfl,_,_,rfl,rfl,_,rfl,?_⟩
   rw [decide_eq_false (show ¬ (8:Int)<=(i:Nat) by omega)]
   refine iteF ⟨_,rfl,.str z,rfl,λ y e=>g2 _ (List.mem_of_getElem? hd) y e,_,rfl,?_⟩
   rw [hb'.2.1]
   refine iteF ⟨_,rfl,_,rfl,_,rfl,_,rfl,a,_,rfl,xt _ _ h,λ p hp=>?_⟩
   have ct:D.cutD (ds.map W.d) none (some ((i:Nat):Int))=(ds.take i).map W.d:=by rw [cut_take (by rw [List.length_map]; omega),List.map_take]
   rw [ct]
   refine ⟨.str z,ds.take i,.d,.inl (.l updM_same),by rw [ez]; exact in_ok (wd_asc hz) hzs,_,rfl,?_⟩
   rw [hb'.2.2]
   exact iteF ⟨xt.trans (Ext.new hp),P.step hd hb,hlt,_,_,rfl⟩
  ·rintro τ M' ⟨xt,P,_,x2,x3,rfl⟩
   exact q M' xt
noncomputable abbrev bkF (ds:List PyData)(q t:Addr):List (Str×W):=[("machine_names",.d (.list ds)),("emptied_names",.d (.list [])),("ranked",.d (.list [])),("wished",.m q),("ended",.d (.list [])),("told_rows",.m t),("done",.d (.list []))]
noncomputable abbrev rowsT:List (Key×W):=[(.inr "group",.d (.list [])),(.inr "store",.d (.list [])),(.inr "door",.d (.list [])),(.inr "rule",.d (.list []))]
inductive Bk (M:MH) (b:Addr) (ds:List PyData):Prop
 | mk (q t:Addr) (hb:M b=some (.ins C_Book (bkF ds q t))) (hq:M q=some (.dic [])) (ht:M t=some (.dic rowsT)):Bk M b ds
theorem Bk.ext {M M':MH}{b:Addr}{ds:List PyData}(h:Bk M b ds)(x:Ext M M'):Bk M' b ds:=by
 obtain ⟨q,t,h1,h2,h3⟩:=h
 exact ⟨q,t,x _ _ h1,x _ _ h2,x _ _ h3⟩
theorem ne_new {M:MH}{a b:Addr}{o:MO}(h:M a=some o)(k:M b=none):a≠b:=λ e=>by rw [e,k] at h; cases h
structure Sg (M0 M:MH)(b:Addr)(fs:List (Str×W)):Prop where
 hb:M b=some (.ins C_Book fs)
 fr:∀ c o,c≠b->M0 c=some o->M c=some o
theorem Sg.put {M0 M:MH}{b:Addr}{fs fs':List (Str×W)}(h:Sg M0 M b fs):Sg M0 (updM M b (.ins C_Book fs')) b fs':=⟨updM_same,λ c o n e=>by rw [updM_ne n]; exact h.fr c o n e⟩
theorem Sg.new {M0 M:MH}{b q:Addr}{fs:List (Str×W)}{o:MO}(h:Sg M0 M b fs)(hq:M q=none):Sg M0 (updM M q o) b fs:=⟨by rw [updM_ne (ne_new h.hb hq)]; exact h.hb,λ c o n e=>by rw [updM_ne (ne_new (h.fr c o n e) hq)]; exact h.fr c o n e⟩
inductive Sp_Book_init (ws:List W) (M:MH) (Q:QD) (E:XQ):Prop
 | dat (b:Addr) (d:PyData) (e:ws=[.m b,.d d]) (h:M b=some (.ins C_Book [])) (g:GoodD d) (q:∀ ds M',d=.list ds->dueL ds=.none->Bk M' b ds->(∀ c o,c≠b->M c=some o->M' c=some o)->Q (.d .none) M')
   (x:∀ i,dueD d=.int i->∀ a,M a=none->E a (updM M a (.exc C_BadName [("at",.d (.int i))]))):Sp_Book_init ws M Q E
 | lst (b a:Addr) (ds:List PyData) (e:ws=[.m b,.m a]) (h:M b=some (.ins C_Book [])) (ha:M a=some (.flst (ds.map W.d))) (g:GoodD (.list ds)) (n:dueL ds=.none) (q:∀ M',Bk M' b ds->(∀ c o,c≠b->M c=some o->M' c=some o)->Q (.d .none) M'):Sp_Book_init ws M Q E
noncomputable def sp_Book_init:SpX:=Sp_Book_init
theorem len_Book_init:∀ ws M Q E,sp_Book_init ws M Q E->ws.length=2:=by
 rintro ws M Q E h
 cases h with
 | dat b d e=>rw [e]; rfl
 | lst b a ds e=>rw [e]; rfl
theorem book_rest {M0 M:MH}{b:Addr}{ds:List PyData}{y:Option W}{Q:QD}(S:Sg M0 M b [("machine_names",.d (.list ds))])(k:∀ M',Bk M' b ds->(∀ c o,c≠b->M0 c=some o->M' c=some o)->Q (.d .none) M') :
  (dSeq (dFldPut C_Book (dVar 0) (dLst (dNil)) "emptied_names") <|
  dSeq (dFldPut C_Book (dVar 0) (dLst (dNil)) "ranked") <|
  dSeq (dFldPut C_Book (dVar 0) (dNewDic) "wished") <|
  dSeq (dFldPut C_Book (dVar 0) (dLst (dNil)) "ended") <|
  dSeq (dFldPut C_Book (dVar 0) (dDictM [(dC (.d (.str "group")),dLst (dNil)),(dC (.d (.str "store")),dLst (dNil)),(dC (.d (.str "door")),dLst (dNil)),(dC (.d (.str "rule")),dLst (dNil))]) "told_rows") <|
  dFldPut C_Book (dVar 0) (dLst (dNil)) "done") { nx:=λ _ M'=>Q (.d .none) M',rt:=Q } [some (.m b),y] M:=by
 refine ⟨_,rfl,few (by simp),_,rfl,b,_,rfl,S.hb,(by show 1 < 1000; decide),?_⟩
 have S2:=S.put (fs':=putW "emptied_names" (.d (.list [])) [("machine_names",.d (.list ds))])
 refine ⟨_,rfl,few (by simp),_,rfl,b,_,rfl,S2.hb,(by show 2 < 1000; decide),?_⟩
 have S3:=S2.put (fs':=putW "ranked" (.d (.list [])) (putW "emptied_names" (.d (.list [])) [("machine_names",.d (.list ds))]))
 intro q hq
 have S4:=S3.new (o:=.dic []) hq
 have qb:q≠b:=λ e=>by have:=S3.hb; rw [e] at hq; exact absurd (this.symm.trans hq) (by intro z; cases z)
 have q4:updM (updM (updM M b (.ins C_Book (putW "emptied_names" (.d (.list [])) [("machine_names",.d (.list ds))]))) b (.ins C_Book (putW "ranked" (.d (.list [])) (putW "emptied_names" (.d (.list [])) [("machine_names",.d (.list ds))])))) q (.dic []) q=some (.dic []):=updM_same
 refine ⟨_,rfl,b,_,rfl,S4.hb,(by show 3 < 1000; decide),?_⟩
 generalize updM (updM (updM M b (.ins C_Book (putW "emptied_names" (.d (.list [])) [("machine_names",.d (.list ds))]))) b (.ins C_Book (putW "ranked" (.d (.list [])) (putW "emptied_names" (.d (.list [])) [("machine_names",.d (.list ds))])))) q (.dic [])=M4 at S4 q4
 have T4:Sg M4 M4 b (putW "ranked" (.d (.list [])) (putW "emptied_names" (.d (.list [])) [("machine_names",.d (.list ds))])):=⟨S4.hb,λ c o n e=>e⟩
 have S5:=T4.put (fs':=putW "wished" (.m q) (putW "ranked" (.d (.list [])) (putW "emptied_names" (.d (.list [])) [("machine_names",.d (.list ds))])))
 refine ⟨_,rfl,few (by simp),_,rfl,b,_,rfl,S5.hb,(by show 4 < 1000; decide),?_⟩
 have S6:=S5.put (fs':=putW "ended" (.d (.list [])) (putW "wished" (.m q) (putW "ranked" (.d (.list [])) (putW "emptied_names" (.d (.list [])) [("machine_names",.d (.list ds))]))))
 intro t ht
 have S7:=S6.new (o:=.dic rowsT) ht
 refine ⟨_,rfl,few (by simp),_,rfl,few (by simp),_,rfl,few (by simp),_,rfl,few (by simp),updM_same,rowsT,rfl,by decide,by decide +kernel,?_⟩
 rw [updM_updM]
 refine ⟨_,rfl,b,_,rfl,S7.hb,(by show 5 < 1000; decide),?_⟩
 have tb:t≠b:=λ e=>by have:=S6.hb; rw [e] at ht; exact absurd (this.symm.trans ht) (by intro z; cases z)
 have S8:=S7.put (fs':=putW "told_rows" (.m t) (putW "ended" (.d (.list [])) (putW "wished" (.m q) (putW "ranked" (.d (.list [])) (putW "emptied_names" (.d (.list [])) [("machine_names",.d (.list ds))])))))
 refine ⟨_,rfl,few (by simp),_,rfl,b,_,rfl,S8.hb,(by show 6 < 1000; decide),?_⟩
 have S9:=S8.put (fs':=bkF ds q t)
 refine k _ ⟨q,t,S9.hb,S9.fr q _ qb q4,?_⟩ λ c o n e=>S9.fr c o n (S4.fr c o n e)
 rw [updM_ne tb,updM_ne tb,updM_same]
theorem due_list {d:PyData}(h:dueD d=.none):∃ ds,d=.list ds:=by
 cases d with
 | list ds=>exact ⟨ds,rfl⟩
 | _=>cases h
theorem read_Book_init:∀ ws M Q E,sp_Book_init ws M Q E->t_Book_init (λ a _ M=>E a M) sp_refuse_names { nx:=λ _ M'=>Q (.d .none) M',rt:=Q } (startD N_Book_init ws) M:=by
 rintro ws M Q E h
 cases h with
 | dat b d e h g q x =>
  subst e
  refine ⟨_,rfl,.dat d rfl g (λ hn=>?_) x⟩
  obtain ⟨ds,rfl⟩:=due_list hn
  refine .inl ⟨_,rfl,_,_,rfl,.l,λ l hl=>⟨l,ds,rfl,updM_same,_,rfl,b,_,rfl,sealed hl _ _ h,by decide,?_⟩⟩
  have x1:=sealed (o:=.lst (ds.map W.d)) hl
  generalize delM (updM M l (.lst (ds.map W.d))) l=M1 at x1
  exact book_rest (M0:=M) (M:=updM M1 b (.ins C_Book [("machine_names",.d (.list ds))])) ⟨updM_same,λ c o n e=>by rw [updM_ne n]; exact x1 _ _ e⟩ λ M' B fr=>q ds M' rfl hn B fr
 | lst b a ds e h ha g n q =>
  subst e
  refine ⟨_,rfl,.lst a ds rfl ha g n λ M0 x0=>?_⟩
  refine .inr ⟨_,rfl,a,_,rfl,x0 _ _ ha,λ l hl=>⟨l,ds,rfl,updM_same,_,rfl,b,_,rfl,sealed hl _ _ (x0 _ _ h),by decide,?_⟩⟩
  have x1:=sealed (o:=.lst (ds.map W.d)) hl
  generalize delM (updM M0 l (.lst (ds.map W.d))) l=M1 at x1
  exact book_rest (M0:=M) (M:=updM M1 b (.ins C_Book [("machine_names",.d (.list ds))])) ⟨updM_same,λ c o n e=>by rw [updM_ne n]; exact x1 _ _ (x0 _ _ e)⟩ λ M' B fr=>q M' B fr
noncomputable def sp_tells (L:List PyData->List PyData):SpD:=λ ws M Q=>∃ b ds,ws=[.m b]/\Bk M b ds/\∀ l M',M l=none->Ext M M'->M' l=some (.lst ((L ds).map W.d))->Q (.m l) M'
theorem len_tells (L:List PyData->List PyData):∀ ws M Q,sp_tells L ws M Q->ws.length=1:=by rintro ws M Q ⟨b,ds,rfl,_⟩; rfl
noncomputable abbrev sp_Book_machines:=sp_tells id
noncomputable abbrev sp_Book_groups:=sp_tells λ _=>[]
noncomputable abbrev sp_Book_wishes:=sp_tells λ _=>[]
noncomputable abbrev sp_Book_stores:=sp_tells λ _=>[]
noncomputable abbrev sp_Book_doors:=sp_tells λ _=>[]
noncomputable abbrev sp_Book_rules:=sp_tells λ _=>[]
noncomputable abbrev sp_Book_emptied:=sp_tells λ _=>[]
noncomputable abbrev sp_Book_log:=sp_tells λ _=>[]
theorem len_Book_machines:∀ ws M Q,sp_Book_machines ws M Q->ws.length=1:=len_tells _
theorem len_Book_groups:∀ ws M Q,sp_Book_groups ws M Q->ws.length=1:=len_tells _
theorem len_Book_wishes:∀ ws M Q,sp_Book_wishes ws M Q->ws.length=1:=len_tells _
theorem len_Book_stores:∀ ws M Q,sp_Book_stores ws M Q->ws.length=1:=len_tells _
theorem len_Book_doors:∀ ws M Q,sp_Book_doors ws M Q->ws.length=1:=len_tells _
theorem len_Book_rules:∀ ws M Q,sp_Book_rules ws M Q->ws.length=1:=len_tells _
theorem len_Book_emptied:∀ ws M Q,sp_Book_emptied ws M Q->ws.length=1:=len_tells _
theorem len_Book_log:∀ ws M Q,sp_Book_log ws M Q->ws.length=1:=len_tells _
theorem bk_lk {ds:List PyData}{q t:Addr}:(bkF ds q t).lookup ("machine_names" : Str)=some (W.d (.list ds))/\(bkF ds q t).lookup ("told_rows" : Str)=some (W.m t)/\(bkF ds q t).lookup ("ranked" : Str)=some (W.d (.list []))/\(bkF ds q t).lookup ("done" : Str)=some (W.d (.list []))/\(bkF ds q t).lookup ("emptied_names" : Str)=some (W.d (.list []))/\(bkF ds q t).lookup ("wished" : Str)=some (W.m q):=⟨rfl,rfl,rfl,rfl,rfl,rfl⟩
theorem rows_lk:tget rowsT (.inr "group")=some (.d (.list []))/\tget rowsT (.inr "store")=some (.d (.list []))/\tget rowsT (.inr "door")=some (.d (.list []))/\tget rowsT (.inr "rule")=some (.d (.list [])):=⟨rfl,rfl,rfl,rfl⟩
theorem read_Book_machines:∀ ws M Q,sp_Book_machines ws M Q->t_Book_machines { nx:=λ _ M'=>Q (.d .none) M',rt:=Q } (startD N_Book_machines ws) M:=by
 rintro ws M Q ⟨b,ds,rfl,⟨q,t,hb,hq,ht⟩,k⟩
 exact ⟨_,rfl,b,_,_,rfl,hb,bk_lk.1,_,_,rfl,.l,λ l hl=>k l _ hl (Ext.new hl) updM_same⟩
theorem read_Book_wishes:∀ ws M Q,sp_Book_wishes ws M Q->t_Book_wishes { nx:=λ _ M'=>Q (.d .none) M',rt:=Q } (startD N_Book_wishes ws) M:=by
 rintro ws M Q ⟨b,ds,rfl,⟨q,t,hb,hq,ht⟩,k⟩
 exact ⟨_,rfl,b,_,_,rfl,hb,bk_lk.2.2.1,_,_,rfl,.l,λ l hl=>k l _ hl (Ext.new hl) updM_same⟩
theorem read_Book_log:∀ ws M Q,sp_Book_log ws M Q->t_Book_log { nx:=λ _ M'=>Q (.d .none) M',rt:=Q } (startD N_Book_log ws) M:=by
 rintro ws M Q ⟨b,ds,rfl,⟨q,t,hb,hq,ht⟩,k⟩
 exact ⟨_,rfl,b,_,_,rfl,hb,bk_lk.2.2.2.1,_,_,rfl,.l,λ l hl=>k l _ hl (Ext.new hl) updM_same⟩
theorem read_Book_groups:∀ ws M Q,sp_Book_groups ws M Q->t_Book_groups { nx:=λ _ M'=>Q (.d .none) M',rt:=Q } (startD N_Book_groups ws) M:=by
 rintro ws M Q ⟨b,ds,rfl,⟨q,t,hb,hq,ht⟩,k⟩
 exact ⟨_,rfl,b,_,_,rfl,hb,bk_lk.2.1,t,_,.inr "group",_,rfl,.inl ht,rfl,rows_lk.1,_,_,rfl,.l,λ l hl=>k l _ hl (Ext.new hl) updM_same⟩
theorem read_Book_stores:∀ ws M Q,sp_Book_stores ws M Q->t_Book_stores { nx:=λ _ M'=>Q (.d .none) M',rt:=Q } (startD N_Book_stores ws) M:=by
 rintro ws M Q ⟨b,ds,rfl,⟨q,t,hb,hq,ht⟩,k⟩
 exact ⟨_,rfl,b,_,_,rfl,hb,bk_lk.2.1,t,_,.inr "store",_,rfl,.inl ht,rfl,rows_lk.2.1,_,_,rfl,.l,λ l hl=>k l _ hl (Ext.new hl) updM_same⟩
theorem read_Book_doors:∀ ws M Q,sp_Book_doors ws M Q->t_Book_doors { nx:=λ _ M'=>Q (.d .none) M',rt:=Q } (startD N_Book_doors ws) M:=by
 rintro ws M Q ⟨b,ds,rfl,⟨q,t,hb,hq,ht⟩,k⟩
 exact ⟨_,rfl,b,_,_,rfl,hb,bk_lk.2.1,t,_,.inr "door",_,rfl,.inl ht,rfl,rows_lk.2.2.1,_,_,rfl,.l,λ l hl=>k l _ hl (Ext.new hl) updM_same⟩
theorem read_Book_rules:∀ ws M Q,sp_Book_rules ws M Q->t_Book_rules { nx:=λ _ M'=>Q (.d .none) M',rt:=Q } (startD N_Book_rules ws) M:=by
 rintro ws M Q ⟨b,ds,rfl,⟨q,t,hb,hq,ht⟩,k⟩
 exact ⟨_,rfl,b,_,_,rfl,hb,bk_lk.2.1,t,_,.inr "rule",_,rfl,.inl ht,rfl,rows_lk.2.2.2,_,_,rfl,.l,λ l hl=>k l _ hl (Ext.new hl) updM_same⟩
theorem read_Book_emptied:∀ ws M Q,sp_Book_emptied ws M Q->t_Book_emptied { nx:=λ _ M'=>Q (.d .none) M',rt:=Q } (startD N_Book_emptied ws) M:=by
 rintro ws M Q ⟨b,ds,rfl,⟨q,t,hb,hq,ht⟩,k⟩
 refine ⟨_,rfl,b,_,_,rfl,hb,bk_lk.2.2.2.2.1,_,[],rfl,.d,by simp,λ zs' hp _ l hl=>?_⟩
 rw [List.Perm.eq_nil hp]
 exact k l _ hl (Ext.new hl) updM_same
noncomputable def sp_l_told:SpD:=λ ws M Q=>∃ d,ws=[.d d]/\GoodD d/\∀ M',(∀ c o,M c=some o->M' c=some o)->Q (.d (dueD d)) M'
theorem len_l_told:∀ ws M Q,sp_l_told ws M Q->ws.length=1:=by rintro ws M Q ⟨d,rfl,_⟩; rfl
theorem due_cases (d:PyData):dueD d=.none\/∃ i,dueD d=.int i:=by
 cases d with
 | list ds =>
  show dueL ds=.none\/∃ i,dueL ds=.int i
  unfold dueL
  split
  ·exact .inr ⟨_,rfl⟩
  ·split
   ·exact .inr ⟨_,rfl⟩
   ·exact .inl rfl
 | _=>exact .inr ⟨0,rfl⟩
theorem read_l_told:∀ ws M Q,sp_l_told ws M Q->t_l_told sp_Book_init { nx:=λ _ M'=>Q (.d .none) M',rt:=Q } (startD N_l_told ws) M:=by
 rintro ws M Q ⟨d,rfl,g,k⟩
 refine ⟨_,rfl,λ b hb=>.dat b d rfl updM_same g (λ ds M' e hn B fr=>?_) (λ i hi a ha=>?_)⟩
 ·refine ⟨rfl,?_⟩
  have:=k M' λ c o e=>fr c o (ne_new e hb) (upd_get e hb)
  rw [e] at this
  rw [show dueD (.list ds)=.none from hn] at this
  exact this
 ·refine ⟨_,_,true,updM_same,rfl,iteT ⟨_,rfl,a,_,_,_,rfl,updM_same,rfl,_,rfl,iteF ⟨_,rfl,a,_,_,_,rfl,updM_same,rfl,_,rfl,iteF ⟨_,rfl,a,_,_,_,rfl,updM_same,rfl,_,rfl,iteF ⟨_,rfl,a,_,_,_,rfl,updM_same,by simp,rfl,?_⟩⟩⟩⟩⟩
  rw [hi] at k
  exact k _ ((Ext.new hb).trans (Ext.new ha))
noncomputable def sp_l_due:SpD:=λ ws M Q=>∃ d,ws=[.d d]/\GoodD d/\Q (.d (dueD d)) M
theorem len_l_due:∀ ws M Q,sp_l_due ws M Q->ws.length=1:=by rintro ws M Q ⟨d,rfl,_⟩; rfl
theorem read_l_due:∀ ws M Q,sp_l_due ws M Q->t_l_due sp_l_is_word { nx:=λ _ M'=>Q (.d .none) M',rt:=Q } (startD N_l_due ws) M:=by
 rintro ws M Q ⟨d,rfl,g,k⟩
 refine ⟨_,rfl,_,_,_,rfl,.d,.list,_,rfl,?_⟩
 cases hs:isiD d "list" with
 | false =>
  have hd:dueD d=.int 0:=by
   cases d with
   | list ds=>rw [isi_l] at hs; cases hs
   | _=>rfl
  rw [hd] at k
  exact iteT (iteT k)
 | true =>
  obtain ⟨ds,rfl⟩:∃ ds,d=.list ds:=by
   cases d with
   | list ds=>exact ⟨ds,rfl⟩
   | _=>simp [isiD,tyD] at hs
  obtain ⟨g1,g2⟩:=g ds rfl
  have k:Q (.d (dueL ds)) M:=k
  refine iteF ⟨_,rfl,_,rfl,few (by simp),ds,rfl,rfl,_,rfl,?_⟩
  cases he:ds.isEmpty with
  | true =>
   have hd:dueL ds=.int 0:=by unfold dueL; rw [if_pos he]
   rw [hd] at k
   exact iteT k
  | false =>
   refine iteF ⟨_,rfl,_,_,rfl,rfl,rfl,_,rfl,by omega,by omega,λ i τ M'=>M'=M/\Pre ds i/\i<=ds.length/\∃ x2,τ=[some (.d (.list ds)),x2],⟨rfl,Pre.zero ds,Nat.zero_le _,_,rfl⟩,?_,?_⟩
   ·rintro i w τ M' hw ⟨rfl,P,hi,x2,rfl⟩
    obtain ⟨hlt,rfl⟩:=rng0_at hw
    have hlt:i < ds.length:=by omega
    obtain ⟨d,hd⟩:∃ d,ds[i]? = some d:=⟨_,List.getElem?_eq_getElem hlt⟩
    have hix:ixW M' (.d (.list ds)) ((i:Nat):Int)=some (.d d):=by simp only [ixW]; rw [atI_nat hd]; rfl
    have hit:badAt ds i=true->Q (.d (.int (i:Nat))) M':=λ hb=>by rw [dueL_bad P hlt hb] at k; exact k
    refine ⟨_,rfl,_,_,.d,.d,rfl,_,rfl,?_⟩
    have e8:PyData.eqv (.int ((i:Nat):Int)) (.int 8)=decide (8<=i):=by
     rw [eqv_int']
     have:=P.le
     by_cases h:8<=i
     ·rw [decide_eq_true h]; exact decide_eq_true (by omega)
     ·rw [decide_eq_false h]; exact decide_eq_false (by omega)
    rw [e8]
    refine ite_b (λ h8=>?_) (λ h8=>?_)
    ·exact iteT ⟨_,rfl,hit (by unfold badAt; rw [h8]; rfl)⟩
    ·have eb:badAt ds i=(!wordB d || inA d (ds.take i)):=by unfold badAt; rw [h8,getD_at hd]; rfl
     refine ⟨_,rfl,_,rfl,_,_,rfl,hix,rfl,d,rfl,λ z e=>g2 d (List.mem_of_getElem? hd) z e,_,rfl,?_⟩
     cases hw:wordB d with
     | false=>exact iteT (iteT ⟨_,rfl,hit (by rw [eb,hw]; rfl)⟩)
     | true =>
      obtain ⟨z,rfl,hz⟩:=word_is hw
      obtain ⟨zs,ez,hzs⟩:=P.zs
      have ct:D.cutD ds none (some ((i:Nat):Int))=ds.take i:=cut_take (by omega)
      refine iteF ⟨_,rfl,_,rfl,_,_,rfl,hix,rfl,_,rfl,_,rfl,_,rfl,_,rfl,rfl,.str z,D.cutD ds none (some ((i:Nat):Int)),.d,.inl .d,by rw [ct,ez]; exact in_ok (wd_asc hz) hzs,_,rfl,?_⟩
      rw [ct]
      refine ite_b (λ hb=>?_) (λ hb=>?_)
      ·have hb':inA (.str z) (ds.take i)=true:=by simpa using hb
       exact ⟨_,rfl,hit (by rw [eb,hb']; simp)⟩
      ·have hb':inA (.str z) (ds.take i)=false:=by simpa using hb
       exact ⟨rfl,P.step hd (by rw [eb,hb',hw]; rfl),hlt,_,rfl⟩
   ·rintro τ M' ⟨rfl,P,_,x2,rfl⟩
    have hl:(rangeW 0 (((ds.length:Nat):Int)).toNat).length=ds.length:=by simp [rangeW]
    rw [hl] at P
    rw [dueL_good he P] at k
    exact k
noncomputable def sp_wish_copied:SpD:=λ ws _ _=>ws.length=1/\False
theorem len_wish_copied:∀ ws M Q,sp_wish_copied ws M Q->ws.length=1:=λ _ _ _ h=>h.1
theorem read_wish_copied:∀ ws M Q,sp_wish_copied ws M Q->t_wish_copied { nx:=λ _ M'=>Q (.d .none) M',rt:=Q } (startD N_wish_copied ws) M:=λ _ _ _ h=>h.2.elim
noncomputable def sp_Book_wish:SpX:=λ ws M Q E=>∃ b ds d,ws=[.m b,.d d]/\Bk M b ds/\(∀ z,d=.str z->z.length<=1000)/\∀ a,M a=none->E a (updM M a (.exc C_Unknown [("name",.d d)]))
theorem len_Book_wish:∀ ws M Q E,sp_Book_wish ws M Q E->ws.length=2:=by rintro ws M Q E ⟨b,ds,d,rfl,_⟩; rfl
theorem read_Book_wish:∀ ws M Q E,sp_Book_wish ws M Q E->t_Book_wish (λ a _ M=>E a M) sp_is_word sp_wish_copied { nx:=λ _ M'=>Q (.d .none) M',rt:=Q } (startD N_Book_wish ws) M:=by
 rintro ws M Q E ⟨b,ds,d,rfl,⟨q,t,hb,hq,ht⟩,hl,x⟩
 refine ⟨_,rfl,d,rfl,hl,_,rfl,?_⟩
 cases hw:wordB d with
 | false=>exact iteT (iteT ⟨_,rfl,rfl,by simp,x⟩)
 | true =>
  obtain ⟨z,rfl,hz⟩:=word_is hw
  exact iteF ⟨_,rfl,_,rfl,b,_,_,rfl,hb,bk_lk.2.2.2.2.2,_,.k (k:=.inr z) hq,_,rfl,iteT ⟨_,rfl,rfl,by simp,x⟩⟩
noncomputable def sp_l_unknown:SpD:=λ ws M Q=>∃ b ds d,ws=[.m b,.d d]/\Bk M b ds/\(∀ z,d=.str z->z.length<=1000)/\reprOkK d=true/\∀ M',Ext M M'->Q (.d (.bool true)) M'
theorem len_l_unknown:∀ ws M Q,sp_l_unknown ws M Q->ws.length=2:=by rintro ws M Q ⟨b,ds,d,rfl,_⟩; rfl
theorem same_str (z:Str):PyData.eqv (.str z) (.str z)=true:=by rw [eqv_str']; exact decide_eq_true rfl
theorem read_l_unknown:∀ ws M Q,sp_l_unknown ws M Q->t_l_unknown sp_Book_wish { nx:=λ _ M'=>Q (.d .none) M',rt:=Q } (startD N_l_unknown ws) M:=by
 rintro ws M Q ⟨b,ds,d,rfl,B,hl,ok,k⟩
 obtain ⟨q,t,hb,hq,ht⟩:=id B
 refine ⟨_,rfl,b,_,rfl,hb,rfl,_,rfl,b,ds,d,rfl,B,hl,λ a ha=>⟨_,_,true,updM_same,rfl,iteT ⟨_,rfl,a,_,_,_,rfl,updM_same,by simp,rfl,_,d,rfl,.d,ok,_,rfl,_,d,rfl,.d,ok,_,_,.d,.d,rfl,?_⟩⟩⟩
 rw [same_str]
 exact k _ (Ext.new ha)
noncomputable def sp_l_nothing:SpD:=λ ws M Q=>∃ b ds,ws=[.m b]/\Bk M b ds/\∀ M',Ext M M'->Q (.d (.bool true)) M'
theorem len_l_nothing:∀ ws M Q,sp_l_nothing ws M Q->ws.length=1:=by rintro ws M Q ⟨b,ds,rfl,_⟩; rfl
theorem read_l_nothing:∀ ws M Q,sp_l_nothing ws M Q->t_l_nothing sp_Book_groups sp_Book_wishes sp_Book_stores sp_Book_doors sp_Book_rules sp_Book_emptied sp_Book_log { nx:=λ _ M'=>Q (.d .none) M',rt:=Q } (startD N_l_nothing ws) M:=by
 rintro ws M Q ⟨b,ds,rfl,B,k⟩
 obtain ⟨q,t,hb,_,_⟩:=id B
 refine ⟨_,rfl,b,_,rfl,hb,rfl,b,ds,rfl,B,λ l1 M1 h1 x1 e1=>?_⟩
 have B1:=B.ext x1
 obtain ⟨q,t,hb,_,_⟩:=id B1
 refine ⟨_,rfl,b,_,rfl,hb,rfl,b,ds,rfl,B1,λ l2 M2 h2 x2 e2=>?_⟩
 have B2:=B1.ext x2
 obtain ⟨q,t,hb,_,_⟩:=id B2
 refine ⟨_,rfl,b,_,rfl,hb,rfl,b,ds,rfl,B2,λ l3 M3 h3 x3 e3=>?_⟩
 have B3:=B2.ext x3
 obtain ⟨q,t,hb,_,_⟩:=id B3
 refine ⟨_,rfl,b,_,rfl,hb,rfl,b,ds,rfl,B3,λ l4 M4 h4 x4 e4=>?_⟩
 have B4:=B3.ext x4
 obtain ⟨q,t,hb,_,_⟩:=id B4
 refine ⟨_,rfl,b,_,rfl,hb,rfl,b,ds,rfl,B4,λ l5 M5 h5 x5 e5=>?_⟩
 have B5:=B4.ext x5
 obtain ⟨q,t,hb,_,_⟩:=id B5
 refine ⟨_,rfl,b,_,rfl,hb,rfl,b,ds,rfl,B5,λ l6 M6 h6 x6 e6=>?_⟩
 have B6:=B5.ext x6
 obtain ⟨q,t,hb,_,_⟩:=id B6
 refine ⟨_,rfl,b,_,rfl,hb,rfl,b,ds,rfl,B6,λ l7 M7 h7 x7 e7=>?_⟩
 have B7:=B6.ext x7
 obtain ⟨q,t,hb,_,_⟩:=id B7
 refine ⟨few (by simp),λ l hl=>?_⟩
 have x8:Ext M7 (updM M7 l (.lst [.m l1,.m l2,.m l3,.m l4,.m l5,.m l6,.m l7])):=Ext.new hl
 have f1:=((((((x2.trans x3).trans x4).trans x5).trans x6).trans x7).trans x8) _ _ e1
 have f2:=(((((x3.trans x4).trans x5).trans x6).trans x7).trans x8) _ _ e2
 have f3:=((((x4.trans x5).trans x6).trans x7).trans x8) _ _ e3
 have f4:=(((x5.trans x6).trans x7).trans x8) _ _ e4
 have f5:=((x6.trans x7).trans x8) _ _ e5
 have f6:=(x7.trans x8) _ _ e6
 have f7:=x8 _ _ e7
 refine ⟨_,rfl,_,rfl,few (by simp),_,rfl,few (by simp),_,rfl,few (by simp),_,rfl,few (by simp),_,rfl,few (by simp),_,rfl,few (by simp),_,rfl,few (by simp),_,rfl,few (by simp),.list [.list [],.list [],.list [],.list [],.list [],.list [],.list []],_,2,.l updM_same (.cons (.l f1 .nil) (.cons (.l f2 .nil) (.cons (.l f3 .nil) (.cons (.l f4 .nil) (.cons (.l f5 .nil) (.cons (.l f6 .nil) (.cons (.l f7 .nil) (.nil)))))))),.d,by decide,?_⟩
 exact k _ (((((((x1.trans x2).trans x3).trans x4).trans x5).trans x6).trans x7).trans x8)
theorem cut8 {α:Type}(xs:List α):D.cutD xs none (some 8)=xs.take 8:=by
 unfold D.cutD
 have e2:HT.sIx xs.length xs.length (some (8:Int))=min 8 xs.length:=HT.sIx_nat xs.length xs.length 8
 rw [e2,HT.sIx_none,List.drop_zero,Nat.sub_zero]
 by_cases h:8<=xs.length
 ·rw [Nat.min_eq_left h]
 ·rw [Nat.min_eq_right (by omega),List.take_length,List.take_of_length_le (by omega)]
theorem in_str {z:Str}{ys:List Str}:inA (.str z) (ys.map PyData.str)=decide (z∈ys):=by
 unfold inA
 rw [List.any_map]
 by_cases h:z∈ys
 ·rw [decide_eq_true h]
  exact List.any_eq_true.mpr ⟨z,h,same_str z⟩
 ·rw [decide_eq_false h]
  refine List.any_eq_false.mpr λ y hy=>?_
  show ¬ PyData.eqv (.str y) (.str z)=true
  rw [eqv_str']
  simp only [decide_eq_true_eq]
  intro e
  exact h (e ▸ hy)
theorem due_names {zs:List Str}(h0:zs≠[])(h8:zs.length<=8)(hw:∀ z∈zs,wd z=true)(nd:zs.Nodup):dueL (zs.map PyData.str)=.none:=by
 have he:(zs.map PyData.str).isEmpty=false:=by
  cases zs with
  | nil=>exact absurd rfl h0
  | cons _ _=>rfl
 refine dueL_good he ?_
 have go:∀ i,i<=zs.length->Pre (zs.map PyData.str) i:=by
  intro i
  induction i with
  | zero=>intro _; exact Pre.zero _
  | succ i ih =>
   intro hi
   have P:=ih (by omega)
   obtain ⟨z,hz⟩:∃ z,zs[i]? = some z:=⟨_,List.getElem?_eq_getElem (by omega)⟩
   have e:(zs.map PyData.str)[i]? = some (.str z):=by rw [List.getElem?_map,hz]; rfl
   refine P.step e ?_
   unfold badAt
   rw [getD_at e,decide_eq_false (by omega),<- List.map_take,in_str,decide_eq_false (nd_take nd hz),show wordB (.str z)=true from hw z (List.mem_of_getElem? hz)]
   rfl
 rw [List.length_map]
 exact go _ (Nat.le_refl _)
theorem fineA_of:∀ {ds:List PyData},(∀ d∈ds,fineD d=true)->fineA ds=true
 | [],_=>rfl
 | d :: ds,h=>by rw [fineA,h d (by simp),fineA_of λ x hx=>h x (by simp [hx])]; rfl
theorem bigA_of {n:Nat}:∀ {ds:List PyData},(∀ d∈ds,D.big d<=n)->bigA ds<=ds.length * (n+2)
 | [],_=>by simp [bigA]
 | d :: ds,h=>by
  have h1:=h d (by simp)
  have h2:=bigA_of (ds:=ds) λ x hx=>h x (by simp [hx])
  rw [bigA,List.length_cons,Nat.succ_mul]
  omega
theorem depA_of {n:Nat}:∀ {ds:List PyData},(∀ d∈ds,d.depth<=n)->PyData.depthAll ds<=n
 | [],_=>by simp [PyData.depthAll]
 | d :: ds,h=>by
  have h1:=h d (by simp)
  have h2:=depA_of (ds:=ds) λ x hx=>h x (by simp [hx])
  rw [PyData.depthAll]
  omega
theorem flatA_of:∀ {ds:List PyData},(∀ d∈ds,dflat d=true)->dflatA ds=true
 | [],_=>rfl
 | d :: ds,h=>by rw [dflatA,h d (by simp),flatA_of λ x hx=>h x (by simp [hx])]; rfl
structure Thg (d:PyData):Prop where
 good:GoodD d
 repr:reprOkK d=true
theorem thg_list {ds:List PyData}(hl:ds.length<=10)(h:∀ d∈ds,OddF d):Thg (.list ds):=by
 refine ⟨λ es e=>?_,reprK_ok (by simp only [fineD]; exact fineA_of λ d hd=>(h d hd).fine) ?_ ?_ (by simp only [dflat]; exact flatA_of λ d hd=>(h d hd).flat)⟩
 ·cases e; exact ⟨by omega,λ x hx=>(h x hx).len⟩
 ·have:=bigA_of λ d hd=>(h d hd).big
  have h2:ds.length * (2000+2)<=10 * 2002:=Nat.mul_le_mul_right _ hl
  simp only [D.big]; omega
 ·have:=depA_of λ d hd=>(h d hd).dep
  simp only [PyData.depth]; omega
theorem thg_tup {ds:List PyData}(hl:ds.length<=10)(h:∀ d∈ds,OddF d):Thg (.tuple ds):=by
 refine ⟨(λ es e=>nomatch e),reprK_ok (by simp only [fineD]; exact fineA_of λ d hd=>(h d hd).fine) ?_ ?_ (by simp only [dflat]; exact flatA_of λ d hd=>(h d hd).flat)⟩
 ·have:=bigA_of λ d hd=>(h d hd).big
  have h2:ds.length * (2000+2)<=10 * 2002:=Nat.mul_le_mul_right _ hl
  simp only [D.big]; omega
 ·have:=depA_of λ d hd=>(h d hd).dep
  simp only [PyData.depth]; omega
noncomputable def oddL (zs:List Str)(z:Str):List PyData:=[.none,.tuple [],.tuple (zs.map PyData.str),.dict [],.str "web",.int 0,.list [],.dict [(.str z,.bool true)]]
theorem words_f {zs:List Str}(hw:∀ z∈zs,wd z=true):∀ d∈zs.map PyData.str,OddF d:=λ d hd=>by
 obtain ⟨z,hz,rfl⟩:=List.mem_map.mp hd
 exact wd_f (hw z hz)
theorem oddL_ok {zs:List Str}{z:Str}(hl:zs.length<=10)(hw:∀ z∈zs,wd z=true)(hz:wd z=true):∀ d∈oddL zs z,Thg d:=by
 have hzl:=wd_len hz
 intro d hd
 simp only [oddL,List.mem_cons,List.not_mem_nil,or_false] at hd
 rcases hd with rfl | rfl | rfl | rfl | rfl | rfl | rfl | rfl
 ·exact ⟨(λ _ e=>nomatch e),by decide +kernel⟩
 ·exact ⟨(λ _ e=>nomatch e),by decide +kernel⟩
 ·exact thg_tup (by rw [List.length_map]; exact hl) (words_f hw)
 ·exact ⟨(λ _ e=>nomatch e),by decide +kernel⟩
 ·exact ⟨(λ _ e=>nomatch e),by decide +kernel⟩
 ·exact ⟨(λ _ e=>nomatch e),by decide +kernel⟩
 ·exact thg_list (by simp) λ d hd=>nomatch hd
 ·refine ⟨(λ _ e=>nomatch e),reprK_ok ?_ ?_ ?_ ?_⟩
  ·simp only [fineD,fineK,wd_asc hz,Bool.and_self]
  ·simp only [D.big,bigK]; omega
  ·simp [PyData.depth,PyData.depthKv]
  ·simp [dflat,flatD]
theorem due_eq (d:PyData):eqOk2 (dueD d) (dueD d)=true/\(!PyData.eqv (dueD d) (dueD d))=false:=by
 rcases due_cases d with e | ⟨i,e⟩
 ·rw [e]; exact ⟨by decide,by decide⟩
 ·rw [e]; exact ⟨rfl,by rw [eqv_int',decide_eq_true rfl]; rfl⟩
theorem bk_away {M M':MH}{b a:Addr}{ds:List PyData}{ws:List W}(B:Bk M b ds)(ha:M a=some (.lst ws)\/M a=some (.flst ws))(fr:∀ c o,c≠a->M c=some o->M' c=some o):Bk M' b ds:=by
 obtain ⟨q,t,h1,h2,h3⟩:=B
 have ne:∀ c o,M c=some o->(∀ w,o ≠ .lst w)->(∀ w,o ≠ .flst w)->c≠a:=λ c o e n1 n2 z=>by
  rw [z] at e
  rcases ha with ha | ha
  ·rw [ha] at e; cases e; exact n1 _ rfl
  ·rw [ha] at e; cases e; exact n2 _ rfl
 exact ⟨q,t,fr _ _ (ne _ _ h1 (λ _ z=>nomatch z) λ _ z=>nomatch z) h1,fr _ _ (ne _ _ h2 (λ _ z=>nomatch z) λ _ z=>nomatch z) h2,fr _ _ (ne _ _ h3 (λ _ z=>nomatch z) λ _ z=>nomatch z) h3⟩
theorem bag_away {M M':MH}{p a:Addr}(b:Bag M p)(n:p≠a)(fr:∀ c o,c≠a->M c=some o->M' c=some o):Bag M' p:=by
 obtain ⟨a',b',c',ns',z',w'⟩:=b
 exact ⟨a',b',c',ns',fr _ _ n z',w'⟩
theorem bag_ne {M:MH}{p a:Addr}(b:Bag M p)(ha:M a=none):p≠a:=by
 obtain ⟨a',b',c',ns',z',w'⟩:=b
 exact ne_new z' ha
noncomputable def sp_law:SpD:=λ ws M Q=>∃ ns:List Int,ws=[.d (.list (ns.map PyData.int))]/\ns.length<=63/\∀ M',Q (.d (.bool true)) M'
theorem len_law:∀ ws M Q,sp_law ws M Q->ws.length=1:=by rintro ws M Q ⟨d,rfl,_⟩; rfl
theorem law_read:∀ ns:List Int,ns.length<=63->sp_law [.d (.list (ns.map PyData.int))] (λ _=>none) (λ w _=>w=.d (.bool true)):=λ ns h=>⟨ns,rfl,h,λ _=>rfl⟩
inductive LawP (p:Addr) (τ:DS) (M:MH):Prop
 | mk (x0 x2 x3 x4 x5 x6 x7 x8 x9 x10 x11:Option W) (b:Bag M p) (e:τ=[x0,some (.m p),x2,x3,x4,x5,x6,x7,x8,x9,x10,x11]):LawP p τ M
inductive ThP (p:Addr) (x0 x2 x3 x4 x5 x8 x9 x10 x11:Option W) (τ:DS) (M:MH):Prop
 | mk (x6 x7:Option W) (b:Bag M p) (e:τ=[x0,some (.m p),x2,x3,x4,x5,x6,x7,x8,x9,x10,x11]):ThP p x0 x2 x3 x4 x5 x8 x9 x10 x11 τ M
inductive ToP (p b:Addr) (ds:List PyData) (ls:List Addr) (x0 x2 x3 x4 x5 x6 x7 x8 x11:Option W) (i:Nat) (τ:DS) (M:MH):Prop
 | mk (x10:Option W) (g:Bag M p) (B:Bk M b ds) (h:∀ l∈ls,∃ ws,M l=some (.lst ws)/\ws.length<=i) (e:τ=[x0,some (.m p),x2,x3,x4,x5,x6,x7,x8,some (.m b),x10,x11]):ToP p b ds ls x0 x2 x3 x4 x5 x6 x7 x8 x11 i τ M
inductive UnP (p b:Addr) (ds:List PyData) (x0 x2 x3 x4 x5 x6 x7 x8 x10:Option W) (τ:DS) (M:MH):Prop
 | mk (x11:Option W) (g:Bag M p) (B:Bk M b ds) (e:τ=[x0,some (.m p),x2,x3,x4,x5,x6,x7,x8,some (.m b),x10,x11]):UnP p b ds x0 x2 x3 x4 x5 x6 x7 x8 x10 τ M
theorem ok_strs {zs:List Str}(hz:∀ y∈zs,wd y=true):okD 1 (.list (zs.map PyData.str))=true:=by
 have e3:∀ l:List Str,(∀ y∈l,wd y=true)->okA 0 (l.map PyData.str)=true:=by
  intro l
  induction l with
  | nil=>intro _; rfl
  | cons y l ih =>
   intro hl
   simp only [List.map_cons,okA,okD,Bool.and_eq_true]
   exact ⟨wd_asc (hl y (by simp)),ih λ x hx=>hl x (by simp [hx])⟩
 simp only [okD]; exact e3 zs hz
theorem bag_del {M:MH}{p l:Addr}(b:Bag M p)(n:l≠p):Bag (delM M l) p:=by
 obtain ⟨a',b',c',ns',z',w'⟩:=b
 refine ⟨a',b',c',ns',?_,w'⟩
 unfold delM
 rw [if_neg (Ne.symm n)]
 exact z'
theorem read_law:∀ ws M Q,sp_law ws M Q->t_law sp_l_bag sp_l_words sp_l_take sp_l_spoilt sp_l_told sp_l_due sp_Book_init sp_Book_machines sp_l_nothing sp_Book_groups sp_Book_wishes sp_Book_stores sp_Book_doors sp_Book_rules sp_Book_emptied sp_Book_log sp_l_unknown { nx:=λ _ M'=>Q (.d .none) M',rt:=Q } (startD N_law ws) M:=by
 rintro ws M Q ⟨ns,rfl,hl,h⟩
 have s16':=s16
 refine ⟨_,rfl,ns,rfl,by omega,λ p M0 hp f0 b0=>?_⟩
 refine ⟨6,rfl,by decide,by decide,λ _ τ M=>LawP p τ M,⟨_,_,_,_,_,_,_,_,_,_,_,b0,rfl⟩,λ i w τ M1 hw P=>?_,λ τ M2 P=>h M2⟩
 obtain ⟨x0,x2,x3,x4,x5,x6,x7,x8,x9,x10,x11,b1,rfl⟩:=P
 obtain ⟨hi,rfl⟩:=rng0_at hw
 refine ⟨_,rfl,_,rfl,p,10,rfl,b1,by decide,by decide,λ r M2 r0 r1 b2 f2=>.inl ⟨_,_,rfl,rfl,p,1+r,rfl,b2,by omega,by omega,λ zs l M3 hzl hw hnd lp hm b3=>⟨l,zs.map PyData.str,rfl,hm,?_⟩⟩⟩
 have b4:=bag_del b3 lp
 have hne:zs≠[]:=λ e=>by rw [e] at hzl; simp at hzl; omega
 have h10:zs.length<=10:=by omega
 generalize delM M3 l=M4 at b4
 clear hm b3 lp l hzl f2 b2 r0 r1
 refine ⟨_,rfl,_,rfl,p,zs,rfl,b4,hne,h10,hw,λ ds l M5 hdl hod lp hm b5=>⟨l,ds,rfl,hm,?_⟩⟩
 have b6:=bag_del b5 lp
 generalize delM M5 l=M6 at b6
 clear hm b5 lp l
 obtain ⟨z0,hz0⟩:∃ z,zs[0]? = some z:=by
  cases zs with
  | nil=>exact absurd rfl hne
  | cons z _=>exact ⟨z,rfl⟩
 have wz0:=hw z0 (List.mem_of_getElem? hz0)
 have ix0:∀ M',ixW M' (.d (.list (zs.map PyData.str))) 0=some (.d (.str z0)):=λ M'=>by
  simp only [ixW]
  rw [show (0:Int)=((0:Nat):Int) from rfl,atI_nat (v:=PyData.str z0) (by rw [List.getElem?_map,hz0]; rfl)]
  rfl
 refine ⟨_,rfl,few (by simp),_,rfl,_,zs.map PyData.str,rfl,.l,_,rfl,few (by simp),λ q hq=>⟨_,rfl,0,_,rfl,ix0 _,rfl,rfl,[(.inr z0,.bool true)],rfl,by simp,by simp,_,rfl,few (by simp),?_⟩⟩
 refine ⟨_,rfl,p,8,rfl,b6,by decide,by decide,λ s M7 s0 s1 b7 f7=>?_⟩
 obtain ⟨d8,hd8,hm8⟩:=ix_at (M:=M7) (ds:=oddL zs z0) s0 (by show s < 8; exact s1)
 refine ⟨_,_,rfl,hd8,rfl,?_⟩
 have T8:=oddL_ok h10 hw wz0 d8 hm8
 clear hd8 hm8 f7 s0 s1 hq
 have TL:=thg_list (ds:=zs.map PyData.str) (by rw [List.length_map]; exact h10) (words_f hw)
 have TS:=thg_list hdl λ d hd=>(hod d hd).f
 dsimp only [gN]
 refine ⟨_,rfl,_,rfl,_,rfl,_,rfl,_,rfl,few (by simp),_,rfl,λ _ τ M=>ThP p x0 (some (.d (.int i))) (some (.d (.list (zs.map PyData.str)))) (some (.d (.list ds))) (some (.d d8)) x8 x9 x10 x11 τ M,⟨_,_,b7,rfl⟩,λ j w τ M8 hw8 P=>?_,λ τ M8 P=>?_⟩
 ·obtain ⟨x6,x7,b8,rfl⟩:=P
  obtain ⟨d,rfl,T⟩:∃ d,w=.d d/\Thg d:=by
   have hm:=List.mem_of_getElem? hw8
   simp only [List.map_cons,List.map_nil,List.mem_cons,List.not_mem_nil,or_false] at hm
   rcases hm with rfl | rfl | rfl | rfl
   ·exact ⟨_,rfl,TL⟩
   ·exact ⟨_,rfl,TS⟩
   ·exact ⟨_,rfl,T8⟩
   ·exact ⟨_,rfl,TL⟩
  refine ⟨_,rfl,_,d,rfl,.d,T.repr,?_⟩
  refine ⟨_,rfl,d,rfl,T.good,λ M9 x9'=>⟨_,rfl,d,rfl,T.good,_,_,.d,.d,(due_eq d).1,_,rfl,?_⟩⟩
  refine ite_n (due_eq d).2 ⟨_,rfl,_,d,rfl,.d,T.repr,_,rfl,_,_,.d,.d,rfl,_,rfl,?_⟩
  exact ite_n (by rw [same_str]; rfl) ⟨_,_,Ext.bag x9' b8,rfl⟩
 obtain ⟨x6,x7,b8,rfl⟩:=P
 clear TL TS T8 b7
 refine ⟨_,rfl,_,rfl,zs.map PyData.str,.d,λ a ha=>?_⟩
 rw [cut8]
 have pa:=bag_ne b8 ha
 have b9:=Ext.bag (Ext.new (o:=.lst (((zs.map PyData.str).take 8).map W.d)) ha) b8
 have e9:updM M8 a (.lst (((zs.map PyData.str).take 8).map W.d)) a=some (.lst (((zs.map PyData.str).take 8).map W.d)):=updM_same
 generalize updM M8 a (.lst (((zs.map PyData.str).take 8).map W.d))=M9 at b9 e9
 clear ha b8
 have hz8:(zs.map PyData.str).take 8=(zs.take 8).map PyData.str:=by rw [List.map_take]
 have due8:dueL ((zs.map PyData.str).take 8)=.none:=by
  rw [hz8]
  refine due_names (λ e=>?_) (by rw [List.length_take]; omega) (λ z hz=>hw z (List.mem_of_mem_take hz)) (hnd.sublist (List.take_sublist _ _))
  cases zs with
  | nil=>exact hne rfl
  | cons z r=>simp at e
 have good8:GoodD (.list ((zs.map PyData.str).take 8)):=λ es e=>by
  cases e
  exact ⟨by rw [List.length_take]; omega,λ x hx=>(words_f hw x (List.mem_of_mem_take hx)).len⟩
 have eq8:eqOk2 (.list ((zs.map PyData.str).take 8)) (.list ((zs.map PyData.str).take 8))=true/\(!PyData.eqv (.list ((zs.map PyData.str).take 8)) (.list ((zs.map PyData.str).take 8)))=false:=by
  rw [hz8]
  have ok:=ok_strs (zs:=zs.take 8) λ z hz=>hw z (List.mem_of_mem_take hz)
  refine ⟨?_,by rw [refl_of ok]; rfl⟩
  show (eqOk _ && eqOk _)=true
  rw [eqOk_of (by decide) ok]; rfl
 have hc:∀ es,(zs.map PyData.str).take 8=es->D.cutD (zs.map PyData.str) none (some 8)=es:=λ es e=>by rw [cut8]; exact e
 have hc:=hc _ rfl
 have l8:((zs.map PyData.str).take 8).length<=8:=by rw [List.length_take]; omega
 generalize (zs.map PyData.str).take 8=es at e9 due8 good8 eq8 l8 hz8 hc
 refine ⟨a,_,e9,_,rfl,λ b hb=>.lst b a es rfl updM_same ?_ good8 due8 λ M10 B fr=>⟨rfl,?_⟩⟩
 ·exact upd_get updM_same hb
 have ab:a≠b:=ne_new updM_same hb
 have e10:M10 a=some (.flst (es.map W.d)):=fr a _ ab (upd_get updM_same hb)
 have b10:Bag M10 p:=by
  have pb:p≠b:=by
   obtain ⟨_,_,_,_,z,_⟩:=b9
   exact ne_new (o:=_) (by rw [updM_ne pa]; exact z) hb
  obtain ⟨a',b',c',ns',z',w'⟩:=b9
  exact ⟨a',b',c',ns',fr p _ pb (by rw [updM_ne pb,updM_ne pa]; exact z'),w'⟩
 clear fr hb due8 good8 e9 b9
 refine ⟨e10,?_⟩
 refine ⟨_,rfl,a,_,rfl,updM_same,_,updM_same,by rw [List.length_map]; omega,?_⟩
 refine ⟨_,rfl,a,_,0,0,rfl,rfl,updM_same,ixN_nat (by decide) (by rw [List.length_append]; simp only [List.length_cons,List.length_nil]; omega),?_⟩
 have fr3:∀ c o,c≠a->M10 c=some o->updM (updM (updM M10 a (.lst (es.map W.d))) a (.lst (es.map W.d++[W.d (.str "more")]))) a (.lst ((es.map W.d++[W.d (.str "more")]).set 0 (W.d (.str "other")))) c=some o:=λ c o n e=>by rw [updM_ne n,updM_ne n,updM_ne n]; exact e
 have b13:=bag_away b10 pa fr3
 have B13:=bk_away B (.inr e10) fr3
 generalize updM (updM (updM M10 a (.lst (es.map W.d))) a (.lst (es.map W.d++[W.d (.str "more")]))) a (.lst ((es.map W.d++[W.d (.str "more")]).set 0 (W.d (.str "other"))))=M13 at b13 B13
 clear fr3 b10 B e10
 obtain ⟨q,t,hb,_,_⟩:=id B13
 refine ⟨_,rfl,b,_,rfl,hb,rfl,b,es,rfl,B13,λ l M14 hl14 x14 e14=>⟨_,rfl,_,rfl,_,rfl,rfl,.list es,.list (D.cutD (zs.map PyData.str) none (some 8)),.l e14,.d,by rw [hc]; exact eq8.1,_,rfl,?_⟩⟩
 refine ite_n (by rw [hc]; exact eq8.2) ?_
 have b14:=Ext.bag x14 b13
 have B14:=B13.ext x14
 clear e14 x14 hl14 b13 B13
 obtain ⟨q,t,hb,_,_⟩:=id B14
 refine ⟨_,rfl,b,_,rfl,hb,rfl,b,es,rfl,B14,λ l2 M15 hl15 x15 e15=>⟨l2,_,rfl,e15,_,e15,(by simp only [List.length_map,id]; omega),?_⟩⟩
 have fr16:∀ c o,c≠l2->M15 c=some o->updM M15 l2 (.lst ((id es).map W.d++[.d (.str "web")])) c=some o:=λ c o n e=>by rw [updM_ne n]; exact e
 have b16:=bag_away (Ext.bag x15 b14) (bag_ne b14 hl15) fr16
 have B16:=bk_away (B14.ext x15) (.inl e15) fr16
 generalize updM M15 l2 (.lst ((id es).map W.d++[.d (.str "web")]))=M16 at b16 B16
 clear fr16 e15 x15 hl15 b14 B14
 obtain ⟨q,t,hb,_,_⟩:=id B16
 refine ⟨_,rfl,b,_,rfl,hb,rfl,b,es,rfl,B16,λ l3 M17 hl17 x17 e17=>⟨_,rfl,_,rfl,_,rfl,rfl,.list es,.list (D.cutD (zs.map PyData.str) none (some 8)),.l e17,.d,by rw [hc]; exact eq8.1,_,rfl,?_⟩⟩
 refine ite_n (by rw [hc]; exact eq8.2) ⟨_,rfl,b,es,rfl,B16.ext x17,λ M18 x18=>⟨_,rfl,iteF ?_⟩⟩
 have b18:=Ext.bag (x17.trans x18) b16
 have B18:=B16.ext (x17.trans x18)
 clear e17 x17 x18 hl17 b16 B16
 obtain ⟨q,t,hb,_,_⟩:=id B18
 refine ⟨_,rfl,b,_,rfl,hb,rfl,b,es,rfl,B18,λ m1 N1 h1 y1 e1=>?_⟩
 have C1:=B18.ext y1
 obtain ⟨q,t,hb,_,_⟩:=id C1
 refine ⟨_,rfl,b,_,rfl,hb,rfl,b,es,rfl,C1,λ m2 N2 h2 y2 e2=>?_⟩
 have C2:=C1.ext y2
 obtain ⟨q,t,hb,_,_⟩:=id C2
 refine ⟨_,rfl,b,_,rfl,hb,rfl,b,es,rfl,C2,λ m3 N3 h3 y3 e3=>?_⟩
 have C3:=C2.ext y3
 obtain ⟨q,t,hb,_,_⟩:=id C3
 refine ⟨_,rfl,b,_,rfl,hb,rfl,b,es,rfl,C3,λ m4 N4 h4 y4 e4=>?_⟩
 have C4:=C3.ext y4
 obtain ⟨q,t,hb,_,_⟩:=id C4
 refine ⟨_,rfl,b,_,rfl,hb,rfl,b,es,rfl,C4,λ m5 N5 h5 y5 e5=>?_⟩
 have C5:=C4.ext y5
 obtain ⟨q,t,hb,_,_⟩:=id C5
 refine ⟨few (by simp),λ v hv=>⟨v,_,rfl,updM_same,?_⟩⟩
 have yall:Ext M18 N5:=y1.trans (y2.trans (y3.trans (y4.trans y5)))
 have b19:=Ext.bag yall b18
 have pv:=bag_ne b19 hv
 have f1:=(y2.trans (y3.trans (y4.trans y5))) _ _ e1
 have f2:=(y3.trans (y4.trans y5)) _ _ e2
 have f3:=(y4.trans y5) _ _ e3
 have f4:=y5 _ _ e4
 have pm:∀ l∈[m1,m2,m3,m4,m5],p≠l/\N5 l=some (.lst []):=by
  intro l hl
  simp only [List.mem_cons,List.not_mem_nil,or_false] at hl
  rcases hl with rfl | rfl | rfl | rfl | rfl
  ·exact ⟨bag_ne b18 h1,f1⟩
  ·exact ⟨bag_ne (Ext.bag y1 b18) h2,f2⟩
  ·exact ⟨bag_ne (Ext.bag (y1.trans y2) b18) h3,f3⟩
  ·exact ⟨bag_ne (Ext.bag (y1.trans (y2.trans y3)) b18) h4,f4⟩
  ·exact ⟨bag_ne (Ext.bag (y1.trans (y2.trans (y3.trans y4))) b18) h5,e5⟩
 have x20:∀ c o,c≠v->N5 c=some o->updM (updM N5 v (.lst [.m m1,.m m2,.m m3,.m m4,.m m5])) v (.flst [.m m1,.m m2,.m m3,.m m4,.m m5]) c=some o:=λ c o n e=>by rw [updM_ne n,updM_ne n]; exact e
 have b20:=bag_away b19 pv x20
 have B20:Bk (updM (updM N5 v (.lst [.m m1,.m m2,.m m3,.m m4,.m m5])) v (.flst [.m m1,.m m2,.m m3,.m m4,.m m5])) b es:=C5.ext λ c o e=>x20 c o (ne_new e hv) e
 have l20:∀ l∈[m1,m2,m3,m4,m5],∃ ws,updM (updM N5 v (.lst [.m m1,.m m2,.m m3,.m m4,.m m5])) v (.flst [.m m1,.m m2,.m m3,.m m4,.m m5]) l=some (.lst ws)/\ws.length<=0:=λ l hl=>⟨[],x20 _ _ (ne_new (pm l hl).2 hv) (pm l hl).2,Nat.le_refl _⟩
 generalize updM (updM N5 v (.lst [.m m1,.m m2,.m m3,.m m4,.m m5])) v (.flst [.m m1,.m m2,.m m3,.m m4,.m m5])=M20 at b20 B20 l20
 have pm':∀ l∈[m1,m2,m3,m4,m5],p≠l:=λ l hl=>(pm l hl).1
 clear x20 pm f1 f2 f3 f4 e1 e2 e3 e4 e5 h1 h2 h3 h4 h5 y1 y2 y3 y4 y5 yall b18 B18 b19 hv pv C1 C2 C3 C4 C5
 refine ⟨ToP p b es [m1,m2,m3,m4,m5] x0 (some (.d (.int i))) (some (.d (.list (zs.map PyData.str)))) (some (.d (.list ds))) (some (.d d8)) x6 x7 (some (.m a)) x11,⟨_,b20,B20,l20,rfl⟩,λ j w τ M21 hw21 P=>?_,λ τ M21 P=>?_⟩
 ·obtain ⟨x10,b21,B21,l21,rfl⟩:=P
  obtain ⟨l,hl,rfl⟩:∃ l∈[m1,m2,m3,m4,m5],w=.m l:=by
   have hm:=List.mem_of_getElem? hw21
   simp only [List.mem_cons,List.not_mem_nil,or_false] at hm
   rcases hm with rfl | rfl | rfl | rfl | rfl <;> exact ⟨_,by simp,rfl⟩
  obtain ⟨ws,e21,hwl⟩:=l21 l hl
  have hj:=(List.getElem?_eq_some_iff.mp hw21).1
  simp only [List.length_cons,List.length_nil] at hj
  refine ⟨_,rfl,l,_,rfl,e21,_,e21,by omega,?_⟩
  have fr:∀ c o,c≠l->M21 c=some o->updM M21 l (.lst (ws++[.d (.int 1)])) c=some o:=λ c o n e=>by rw [updM_ne n]; exact e
  refine ⟨_,bag_away b21 (pm' l hl) fr,bk_away B21 (.inl e21) fr,λ l' hl'=>?_,rfl⟩
  by_cases q:l'=l
  ·rw [q]; exact ⟨_,updM_same,by rw [List.length_append]; simp only [List.length_cons,List.length_nil]; omega⟩
  ·obtain ⟨ws',e',h'⟩:=l21 l' hl'
   exact ⟨ws',fr _ _ q e',by omega⟩
 obtain ⟨x10,b21,B21,_,rfl⟩:=P
 clear b20 B20 l20 pm'
 obtain ⟨q,t,hb,_,_⟩:=id B21
 refine ⟨_,rfl,b,_,rfl,hb,rfl,b,es,rfl,B21,λ l4 M22 hl22 x22 e22=>⟨l4,_,rfl,e22,_,e22,(by simp only [List.map_nil,List.length_nil]; omega),?_⟩⟩
 have fr23:∀ c o,c≠l4->M22 c=some o->updM M22 l4 (.lst ((([]:List PyData).map W.d)++[.d (.str "m")])) c=some o:=λ c o n e=>by rw [updM_ne n]; exact e
 have b23:=bag_away (Ext.bag x22 b21) (bag_ne b21 hl22) fr23
 have B23:=bk_away (B21.ext x22) (.inl e22) fr23
 generalize updM M22 l4 (.lst ((([]:List PyData).map W.d)++[.d (.str "m")]))=M23 at b23 B23
 clear fr23 e22 x22 hl22 b21 B21
 obtain ⟨q,t,hb,_,_⟩:=id B23
 refine ⟨_,rfl,b,_,rfl,hb,rfl,b,es,rfl,B23,λ l5 M24 hl24 x24 e24=>⟨l5,_,rfl,e24,_,rfl,few (by simp),_,rfl,few (by simp),_,e24,(by simp only [List.map_nil,List.length_nil]; omega),?_⟩⟩
 have fr25:∀ c o,c≠l5->M24 c=some o->updM M24 l5 (.lst ((([]:List PyData).map W.d)++[.d (.tuple [.str "hand",.tuple [.str "back",.str "a"]])])) c=some o:=λ c o n e=>by rw [updM_ne n]; exact e
 have b25:=bag_away (Ext.bag x24 b23) (bag_ne b23 hl24) fr25
 have B25:=bk_away (B23.ext x24) (.inl e24) fr25
 generalize updM M24 l5 (.lst ((([]:List PyData).map W.d)++[.d (.tuple [.str "hand",.tuple [.str "back",.str "a"]])]))=M25 at b25 B25
 clear fr25 e24 x24 hl24 b23 B23
 refine ⟨_,rfl,b,es,rfl,B25,λ M26 x26=>⟨_,rfl,iteF ?_⟩⟩
 have b26:=Ext.bag x26 b25
 have B26:=B25.ext x26
 refine ⟨_,rfl,0,_,rfl,ix0 _,rfl,_,rfl,few (by simp),_,rfl,few (by simp),_,rfl,λ _ τ M=>UnP p b es x0 (some (.d (.int i))) (some (.d (.list (zs.map PyData.str)))) (some (.d (.list ds))) (some (.d d8)) x6 x7 (some (.m a)) x10 τ M,⟨_,b26,B26,rfl⟩,λ j w τ M27 hw27 P=>?_,λ τ M27 P=>?_⟩
 ·obtain ⟨x11,b27,B27,rfl⟩:=P
  obtain ⟨d,rfl,hd1,hd2⟩:∃ d,w=.d d/\(∀ z,d=.str z->z.length<=1000)/\reprOkK d=true:=by
   have hm:=List.mem_of_getElem? hw27
   simp only [List.map_cons,List.map_nil,List.mem_cons,List.not_mem_nil,or_false] at hm
   have fz:=wd_f wz0
   rcases hm with rfl | rfl | rfl | rfl | rfl | rfl | rfl
   ·exact ⟨_,rfl,λ z e=>by cases e; decide +kernel,by decide +kernel⟩
   ·exact ⟨_,rfl,fz.len,reprK_ok fz.fine (by have:=fz.big; omega) (by have:=fz.dep; omega) fz.flat⟩
   ·exact ⟨_,rfl,(λ z e=>nomatch e),by decide +kernel⟩
   ·exact ⟨_,rfl,(λ z e=>nomatch e),by decide +kernel⟩
   ·exact ⟨_,rfl,(λ z e=>nomatch e),by decide +kernel⟩
   ·exact ⟨_,rfl,(λ z e=>nomatch e),by decide +kernel⟩
   ·exact ⟨_,rfl,λ z e=>by cases e; decide +kernel,by decide +kernel⟩
  exact ⟨_,rfl,_,rfl,b,es,d,rfl,B27,hd1,hd2,λ M28 x28=>⟨_,rfl,iteF ⟨_,Ext.bag x28 b27,B27.ext x28,rfl⟩⟩⟩
 ·obtain ⟨x11,b27,B27,rfl⟩:=P
  exact ⟨_,_,_,_,_,_,_,_,_,_,_,b27,rfl⟩
end K21
namespace K21
open PySem PySem.Spec PyProof.Rows L2 D Stc
noncomputable def top (i:Nat):Stmt:=PySem.Challenge.pw_placedworks_k21_books_made.main.body.getD i (.Pass ⟨0,0,0,0⟩)
noncomputable abbrev s_l_bag:Stmt:=top 16
noncomputable abbrev s_l_take:Stmt:=top 17
noncomputable abbrev s_l_words:Stmt:=top 18
noncomputable abbrev s_l_spoilt:Stmt:=top 19
noncomputable abbrev s_BadName_init:Stmt:=inClass (top 7) 0
noncomputable abbrev s_is_word:Stmt:=top 3
noncomputable abbrev s_refuse_names:Stmt:=top 12
noncomputable abbrev s_Book_init:Stmt:=inClass (top 14) 0
noncomputable abbrev s_l_told:Stmt:=top 22
noncomputable abbrev s_l_is_word:Stmt:=top 20
noncomputable abbrev s_l_due:Stmt:=top 21
noncomputable abbrev s_Book_machines:Stmt:=inClass (top 14) 17
noncomputable abbrev s_Book_groups:Stmt:=inClass (top 14) 10
noncomputable abbrev s_Book_wishes:Stmt:=inClass (top 14) 11
noncomputable abbrev s_Book_stores:Stmt:=inClass (top 14) 13
noncomputable abbrev s_Book_doors:Stmt:=inClass (top 14) 14
noncomputable abbrev s_Book_rules:Stmt:=inClass (top 14) 15
noncomputable abbrev s_Book_emptied:Stmt:=inClass (top 14) 16
noncomputable abbrev s_Book_log:Stmt:=inClass (top 14) 18
noncomputable abbrev s_l_nothing:Stmt:=top 24
noncomputable abbrev s_Unknown_init:Stmt:=inClass (top 9) 0
noncomputable abbrev s_wish_copied:Stmt:=top 13
noncomputable abbrev s_Book_wish:Stmt:=inClass (top 14) 12
noncomputable abbrev s_l_unknown:Stmt:=top 23
noncomputable abbrev s_law:Stmt:=top 25
structure Env (K:PySem.W.Frag)(mg:Str->Option Value):Prop where
 k_Book:Cls K C_Book
 m_Book:mg "Book" = some (.ref C_Book)
 m_BadName:mg "BadName" = some (.ref C_BadName)
 m_BadRow:mg "BadRow" = some (.ref C_BadRow)
 m_NoRow:mg "NoRow" = some (.ref C_NoRow)
 m_PlaceError:mg "PlaceError" = some (.ref C_PlaceError)
 m_Unknown:mg "Unknown" = some (.ref C_Unknown)
 x_BadName:XO.XC K C_BadName
 x_Unknown:XO.XC K C_Unknown
 e_BadName_BadName:PySem.W.exmOne K (.ref C_BadName) (.ref C_BadName)=some true
 e_Unknown_Unknown:PySem.W.exmOne K (.ref C_Unknown) (.ref C_Unknown)=some true
 i_BadName_BadRow_NoRow:PySem.W.kitAny K (.ref C_BadName) [.ref C_BadRow,.ref C_NoRow]=some false
 i_BadName_PlaceError:PySem.W.kitAny K (.ref C_BadName) [.ref C_PlaceError]=some true
 i_BadName_ValueError:PySem.W.kitAny K (.ref C_BadName) [.type "ValueError"]=some true
 n_BadName_at:NoAttr K C_BadName "at"
 n_Book_done:NoAttr K C_Book "done"
 n_Book_emptied_names:NoAttr K C_Book "emptied_names"
 n_Book_ended:NoAttr K C_Book "ended"
 n_Book_machine_names:NoAttr K C_Book "machine_names"
 n_Book_ranked:NoAttr K C_Book "ranked"
 n_Book_told_rows:NoAttr K C_Book "told_rows"
 n_Book_wished:NoAttr K C_Book "wished"
 n_Unknown_name:NoAttr K C_Unknown "name"
 b_ValueError:mg "ValueError" = none
 b_abs:mg "abs" = none
 b_all:mg "all" = none
 b_dict:mg "dict" = none
 b_enumerate:mg "enumerate" = none
 b_isinstance:mg "isinstance" = none
 b_len:mg "len" = none
 b_list:mg "list" = none
 b_range:mg "range" = none
 b_repr:mg "repr" = none
 b_sorted:mg "sorted" = none
 b_str:mg "str" = none
 b_tuple:mg "tuple" = none
 c_LONGEST_WORD:∃ t,mg "LONGEST_WORD" = some (.int 8 t)
 c_MOST_MACHINES:∃ t,mg "MOST_MACHINES" = some (.int 8 t)
section
variable {P:Program}{w:World}{K:PySem.W.Frag}{mg:Str->Option Value}{base:Heap}
theorem ndc_0:(["_law_cell"]:List Str).Nodup:=by decide +kernel
theorem sc_l_bag:FnScope N_l_bag ["_law_script"] (defScope s_l_bag):=⟨rfl,rfl,rfl,by decide +kernel,rfl,by decide +kernel,by decide +kernel⟩
theorem ok_l_bag {f:Addr}{fd:FuncData}(E:Env K mg)(F:Fn K mg "_law_bag" s_l_bag ["_law_script"] f fd) :
  FnOk P w K mg base CX0 1 f fd ["_law_script"] (upSp K sp_l_bag):=by
 refine fun_ok (t:=t_l_bag) F.fn sc_l_bag len_l_bag (λ cdv A outer s H E' hr=>?_) read_l_bag
 refine Jd.h ?_
 exact Q.pssd_one (Q.psd_ret (Q.pd_lstM (Q.pac (Q.pd_int) (Q.pac (Q.pd_int) (Q.pac (Q.pd_int) (Q.pac (Q.pd_lc rfl (lcOk (own:=(["_law_cell"]:List Str)) (fr:=[]) rfl) (Q.pid_items (Q.pd_slice (Q.dv 0) (Q.pod_none) (Q.pod_some (Q.pd_int)))) (λ _ _ _ _ _ _=>Q.pgd_name (i:=0) ndc_0 rfl (Or.inl rfl)) (λ _ _ _ _ _ _=>Q.ptsd_nil) (λ _ _ _ _ _ _=>Q.pcB call_abs cd_abs rfl E.b_abs bb_abs (Q.pac (Q.dv 0) (Q.pad_nil)))) (Q.pad_nil)))))))
theorem sc_l_take:FnScope N_l_take ["_law_bag_here", "_law_many"] (defScope s_l_take):=⟨rfl,rfl,rfl,by decide +kernel,rfl,by decide +kernel,by decide +kernel⟩
theorem ok_l_take {f:Addr}{fd:FuncData}(E:Env K mg)(F:Fn K mg "_law_take" s_l_take ["_law_bag_here", "_law_many"] f fd) :
  FnOk P w K mg base CX0 1 f fd ["_law_bag_here", "_law_many"] (upSp K sp_l_take):=by
 refine fun_ok (t:=t_l_take) F.fn sc_l_take len_l_take (λ cdv A outer s H E' hr=>?_) read_l_take
 refine Jd.h ?_
 exact Q.pssd_cons (Q.psd_if (Q.ptd_cmp (op_eqD hr.h) opd_eq (Q.pd_ix ix_seq opd_ix (Q.dv 0) (Q.pd_int)) (Q.pd_int))
   (Q.pssd_cons (Q.psd_set (i:=2) sc_l_take.nd rfl (Or.inl rfl) (Q.pd_int)) <|
   Q.pssd_cons (Q.psd_if (Q.ptd_cmp op_lt opd_lt (Q.pd_ix ix_seq opd_ix (Q.dv 0) (Q.pd_int)) (Q.pcB call_len cd_len rfl E.b_len bb_len (Q.pac (Q.pd_ix ix_seq opd_ix (Q.dv 0) (Q.pd_int)) (Q.pad_nil))))
    (Q.pssd_one (Q.psd_set (i:=2) sc_l_take.nd rfl (Or.inl rfl) (Q.pd_ix ix_seq opd_ix (Q.pd_ix ix_seq opd_ix (Q.dv 0) (Q.pd_int)) (Q.pd_ix ix_seq opd_ix (Q.dv 0) (Q.pd_int)))))
    (Q.pssd_nil)) <|
   Q.pssd_cons (Q.psd_augS (Q.dv 0) (Q.pd_int) (Q.pd_int) ip_add) <|
   Q.pssd_cons (Q.psd_if (Q.ptd_cmp op_ge opd_ge (Q.dv 2) (Q.pd_int))
    (Q.pssd_one (Q.psd_asg (Q.dv 2) (Q.pgd_sub (Q.dv 0) (Q.pd_int))))
    (Q.pssd_nil)) <|
   Q.pssd_one (Q.psd_asg (Q.pd_op op_mod opd_mod (Q.pd_op op_add2 opd_add2 (Q.pd_op op_add2 opd_add2 (Q.pd_op op_mul opd_mul (Q.pd_ix ix_seq opd_ix (Q.dv 0) (Q.pd_int)) (Q.pd_int)) (Q.pd_op op_mod opd_mod (Q.dv 2) (Q.pd_int))) (Q.pd_op op_mul opd_mul (Q.pd_int) (Q.pd_ix ix_seq opd_ix (Q.dv 0) (Q.pd_int)))) (Q.pd_int)) (Q.pgd_sub (Q.dv 0) (Q.pd_int))))
   (Q.pssd_nil)) <|
  Q.pssd_cons (Q.psd_if (Q.ptd_cmp op_gt opd_gt (Q.pd_ix ix_seq opd_ix (Q.dv 0) (Q.pd_int)) (Q.pd_int))
   (Q.pssd_cons (Q.psd_set (i:=3) sc_l_take.nd rfl (Or.inl rfl) (Q.pd_op op_mod opd_mod (Q.pd_ix ix_seq opd_ix (Q.dv 0) (Q.pd_int)) (Q.dv 1))) <|
   Q.pssd_cons (Q.psd_asg (Q.pd_op op_fdiv opd_div (Q.pd_ix ix_seq opd_ix (Q.dv 0) (Q.pd_int)) (Q.dv 1)) (Q.pgd_sub (Q.dv 0) (Q.pd_int))) <|
   Q.pssd_one (Q.psd_ret (Q.dv 3)))
   (Q.pssd_nil)) <|
  Q.pssd_cons (Q.psd_set (i:=4) sc_l_take.nd rfl (Or.inl rfl) (Q.pd_op op_mod opd_mod (Q.pd_op op_mul opd_mul (Q.pd_op op_add2 opd_add2 (Q.pd_ix ix_seq opd_ix (Q.dv 0) (Q.pd_int)) (Q.pd_int)) (Q.pd_int)) (Q.pd_int))) <|
  Q.pssd_cons (Q.psd_set (i:=5) sc_l_take.nd rfl (Or.inl rfl) (Q.pd_op op_mod opd_mod (Q.pd_op op_mul opd_mul (Q.pd_op op_mod opd_mod (Q.pd_op op_mul opd_mul (Q.dv 4) (Q.dv 4)) (Q.pd_int)) (Q.pd_int)) (Q.pd_int))) <|
  Q.pssd_cons (Q.psd_if (Q.ptd_cmp op_gt opd_gt (Q.dv 1) (Q.pd_int))
   (Q.pssd_one (Q.psd_ret (Q.pd_op op_mod opd_mod (Q.pd_op op_add2 opd_add2 (Q.pd_op op_mul opd_mul (Q.dv 5) (Q.pd_int)) (Q.dv 4)) (Q.dv 1))))
   (Q.pssd_nil)) <|
  Q.pssd_one (Q.psd_ret (Q.pd_op op_mod opd_mod (Q.pd_op op_fdiv opd_div (Q.dv 5) (Q.pd_int)) (Q.dv 1)))
theorem ndc_1:(["_law_j", "_law_letters", "_law_bag_here"]:List Str).Nodup:=by decide +kernel
theorem sc_l_words:FnScope N_l_words ["_law_bag_here", "_law_many"] (defScope s_l_words):=⟨rfl,rfl,rfl,by decide +kernel,rfl,by decide +kernel,by decide +kernel⟩
theorem ok_l_words {f:Addr}{fd:FuncData}(E:Env K mg)(F:Fn K mg "_law_words" s_l_words ["_law_bag_here", "_law_many"] f fd)
  {f_l_take:Addr}{fd_l_take:FuncData}(G_l_take:Fn K mg "_law_take" s_l_take ["_law_bag_here", "_law_many"] f_l_take fd_l_take)(O_l_take:FnOk P w K mg base CX0 1 f_l_take fd_l_take ["_law_bag_here", "_law_many"] (upSp K sp_l_take)) :
  FnOk P w K mg base CX0 2 f fd ["_law_bag_here", "_law_many"] (upSp K sp_l_words):=by
 refine fun_ok (t:=t_l_words sp_l_take) F.fn sc_l_words len_l_words (λ cdv A outer s H E' hr=>?_) read_l_words
 refine Jd.h ?_
 exact Q.pssd_cons (Q.psd_set (i:=2) sc_l_words.nd rfl (Or.inr rfl) (Q.pd_str)) <|
  Q.pssd_cons (Q.psd_set (i:=3) sc_l_words.nd rfl (Or.inl rfl) (Q.pd_lstM (Q.pad_nil))) <|
  Q.pssd_cons (Q.psd_set (i:=4) sc_l_words.nd rfl (Or.inl rfl) (Q.pcF O_l_take (hr.mono (by decide)) rfl G_l_take.mg G_l_take.fn.kp G_l_take.bd (Q.pac (Q.dv 0) (Q.pac (Q.pd_int) (Q.pad_nil))))) <|
  Q.pssd_cons (Q.psd_for PassesOwn.never rfl (Q.pid_range1 rfl E.b_range (Q.pac (Q.dv 1) (Q.pad_nil))) (Q.pgd_name (i:=5) sc_l_words.nd rfl (Or.inl rfl))
   (Q.pssd_cons (Q.psd_setLC (i:=6) sc_l_words.nd rfl (Or.inl rfl) rfl (lcOk (own:=(["_law_j"]:List Str)) (fr:=[2,0]) rfl) (Q.pid_range1 rfl E.b_range (Q.pac (Q.pcF O_l_take (hr.mono (by decide)) rfl G_l_take.mg G_l_take.fn.kp G_l_take.bd (Q.pac (Q.dv 0) (Q.pac (Q.pd_int) (Q.pad_nil)))) (Q.pad_nil))) (λ _ _ _ _ _ _=>Q.pgd_name (i:=0) ndc_1 rfl (Or.inl rfl)) (λ _ _ _ _ _ _=>Q.ptsd_nil) (λ _ _ _ _ _ _=>Q.pd_ix ix_seq opd_ix (Q.dv 1) (Q.pcF O_l_take (hr.mono (by decide)) rfl G_l_take.mg G_l_take.fn.kp G_l_take.bd (Q.pac (Q.dv 2) (Q.pac (Q.pd_int) (Q.pad_nil)))))) <|
   Q.pssd_one (Q.psd_expr (Q.pd_append (Q.dv 3) (Q.pd_op op_add2 opd_add2 (Q.pd_ix ix_seq opd_ix (Q.dv 2) (Q.pd_op op_mod opd_mod (Q.pd_op op_add2 opd_add2 (Q.dv 4) (Q.pd_op op_mul opd_mul (Q.pd_int) (Q.dv 5))) (Q.pd_int))) (Q.pd_join (Q.pd_str) (Q.dv 6))))))) <|
  Q.pssd_one (Q.psd_ret (Q.dv 3))
theorem sc_l_spoilt:FnScope N_l_spoilt ["_law_bag_here", "_law_names"] (defScope s_l_spoilt):=⟨rfl,rfl,rfl,by decide +kernel,rfl,by decide +kernel,by decide +kernel⟩
theorem ok_l_spoilt {f:Addr}{fd:FuncData}(E:Env K mg)(F:Fn K mg "_law_spoilt" s_l_spoilt ["_law_bag_here", "_law_names"] f fd)
  {f_l_take:Addr}{fd_l_take:FuncData}(G_l_take:Fn K mg "_law_take" s_l_take ["_law_bag_here", "_law_many"] f_l_take fd_l_take)(O_l_take:FnOk P w K mg base CX0 1 f_l_take fd_l_take ["_law_bag_here", "_law_many"] (upSp K sp_l_take)) :
  FnOk P w K mg base CX0 2 f fd ["_law_bag_here", "_law_names"] (upSp K sp_l_spoilt):=by
 refine fun_ok (t:=t_l_spoilt sp_l_take) F.fn sc_l_spoilt len_l_spoilt (λ cdv A outer s H E' hr=>?_) read_l_spoilt
 refine Jd.h ?_
 exact Q.pssd_cons (Q.psd_set (i:=1) sc_l_spoilt.nd rfl (Or.inl rfl) (Q.pcT call_list_of cd_listOf rfl E.b_list bt_list (Q.pac (Q.dv 1) (Q.pad_nil)))) <|
  Q.pssd_cons (Q.psd_for PassesOwn.never rfl (Q.pid_range1 rfl E.b_range (Q.pac (Q.pd_op op_add2 opd_add2 (Q.pd_int) (Q.pcF O_l_take (hr.mono (by decide)) rfl G_l_take.mg G_l_take.fn.kp G_l_take.bd (Q.pac (Q.dv 0) (Q.pac (Q.pd_int) (Q.pad_nil))))) (Q.pad_nil))) (Q.pgd_name (i:=2) sc_l_spoilt.nd rfl (Or.inl rfl))
   (Q.pssd_cons (Q.psd_set (i:=3) sc_l_spoilt.nd rfl (Or.inl rfl) (Q.pcF O_l_take (hr.mono (by decide)) rfl G_l_take.mg G_l_take.fn.kp G_l_take.bd (Q.pac (Q.dv 0) (Q.pac (Q.pcB call_len cd_len rfl E.b_len bb_len (Q.pac (Q.dv 1) (Q.pad_nil))) (Q.pad_nil))))) <|
   Q.pssd_cons (Q.psd_set (i:=4) sc_l_spoilt.nd rfl (Or.inl rfl) (Q.pd_lst (Q.pac (Q.pd_ix ix_seq opd_ix (Q.dv 1) (Q.pcF O_l_take (hr.mono (by decide)) rfl G_l_take.mg G_l_take.fn.kp G_l_take.bd (Q.pac (Q.dv 0) (Q.pac (Q.pcB call_len cd_len rfl E.b_len bb_len (Q.pac (Q.dv 1) (Q.pad_nil))) (Q.pad_nil))))) (Q.pac (Q.pd_str) (Q.pac (Q.pd_str) (Q.pac (Q.pd_str) (Q.pac (Q.pd_int) (Q.pac (Q.pd_non) (Q.pac (Q.pd_lst (Q.pac (Q.pd_str) (Q.pad_nil))) (Q.pac (Q.pd_tup (Q.pac (Q.pd_str) (Q.pad_nil))) (Q.pac (Q.pd_bl) (Q.pac (Q.pd_str) (Q.pac (Q.pd_dict0) (Q.pac (Q.pd_str) (Q.pad_nil))))))))))))))) <|
   Q.pssd_one (Q.psd_asg (Q.pd_ix ix_seq opd_ix (Q.dv 4) (Q.pcF O_l_take (hr.mono (by decide)) rfl G_l_take.mg G_l_take.fn.kp G_l_take.bd (Q.pac (Q.dv 0) (Q.pac (Q.pd_int) (Q.pad_nil))))) (Q.pgd_sub (Q.dv 1) (Q.dv 3))))) <|
  Q.pssd_one (Q.psd_ret (Q.dv 1))
theorem sc_BadName_init:FnScope N_BadName_init ["self", "at"] (defScope s_BadName_init):=⟨rfl,rfl,rfl,by decide +kernel,rfl,by decide +kernel,by decide +kernel⟩
theorem ok_BadName_init {f:Addr}{fd:FuncData}(E:Env K mg)(F:Xi K C_BadName "BadName.__init__" s_BadName_init ["self", "at"] f fd):FnOk P w K mg base CX0 1 f fd ["self", "at"] (xinit C_BadName ["at"]):=init1 F.fn sc_BadName_init F.xm.xc E.n_BadName_at rfl (λ _=>rfl) rfl rfl
theorem ndc_2:(["sign"]:List Str).Nodup:=by decide +kernel
theorem sc_is_word:FnScope N_is_word ["thing"] (defScope s_is_word):=⟨rfl,rfl,rfl,by decide +kernel,rfl,by decide +kernel,by decide +kernel⟩
theorem ok_is_word {f:Addr}{fd:FuncData}(E:Env K mg)(F:Fn K mg "is_word" s_is_word ["thing"] f fd) :
  FnOk P w K mg base CX0 1 f fd ["thing"] (upSp K sp_is_word):=by
 refine fun_ok (t:=t_is_word) F.fn sc_is_word len_is_word (λ cdv A outer s H E' hr=>?_) read_is_word
 refine Jd.h ?_
 exact Q.pssd_cons (Q.psd_if (Q.ptd_w (Q.pwd_or (Q.ptd_not (Q.ptd_val (Q.pcB call_isiT cd_isiT rfl E.b_isinstance bb_isinstance (Q.pac (Q.dv 0) (Q.pac (Q.pd_type rfl E.b_str bt_str) (Q.pad_nil)))))) (Q.pwd_or1 (Q.ptd_not (Q.ptd_chain op_le2 opd_le2 op_le2 opd_le2 (Q.pd_int) (Q.pcB call_len cd_len rfl E.b_len bb_len (Q.pac (Q.dv 0) (Q.pad_nil))) (Q.pd_globI rfl (E.c_LONGEST_WORD).choose_spec))))))
   (Q.pssd_one (Q.psd_ret (Q.pd_bl)))
   (Q.pssd_nil)) <|
  Q.pssd_one (Q.psd_ret (Q.pcB (call_allD rfl) cd_all rfl E.b_all bb_all (Q.pac (Q.pd_lc rfl (lcOk (own:=(["sign"]:List Str)) (fr:=[]) rfl) (Q.pid_items (Q.dv 0)) (λ _ _ _ _ _ _=>Q.pgd_name (i:=0) ndc_2 rfl (Or.inl rfl)) (λ _ _ _ _ _ _=>Q.ptsd_nil) (λ _ _ _ _ _ _=>Q.pd_chain op_le2 opd_le2 op_le2 opd_le2 (Q.pd_str) (Q.dv 0) (Q.pd_str))) (Q.pad_nil))))
theorem sc_refuse_names:FnScope N_refuse_names ["names"] (defScope s_refuse_names):=⟨rfl,rfl,rfl,by decide +kernel,rfl,by decide +kernel,by decide +kernel⟩
theorem ok_refuse_names {f:Addr}{fd:FuncData}(E:Env K mg)(F:Fn K mg "refuse_names" s_refuse_names ["names"] f fd)
  {f_BadName_init:Addr}{fd_BadName_init:FuncData}(G_BadName_init:Xi K C_BadName "BadName.__init__" s_BadName_init ["self", "at"] f_BadName_init fd_BadName_init)(O_BadName_init:FnOk P w K mg base CX0 1 f_BadName_init fd_BadName_init ["self", "at"] (xinit C_BadName ["at"]))
  {f_is_word:Addr}{fd_is_word:FuncData}(G_is_word:Fn K mg "is_word" s_is_word ["thing"] f_is_word fd_is_word)(O_is_word:FnOk P w K mg base CX0 1 f_is_word fd_is_word ["thing"] (upSp K sp_is_word)) :
  FnOk P w K mg base (CXE P w) 3 f fd ["names"] (upSpX K sp_refuse_names):=by
 refine fun_okX (t:=λ Ex=>t_refuse_names Ex sp_is_word) F.fn sc_refuse_names len_refuse_names (λ cdv A outer s H E' Ex hr hE hP=>?_) read_refuse_names
 refine Jd.h ?_
 exact Q.pssd_ei (Q.pssd_cons (Q.psd_if (Q.ptd_w (Q.pwd_or (Q.ptd_not (Q.ptd_val (Q.pcB call_isiT cd_isiT rfl E.b_isinstance bb_isinstance (Q.pac (Q.dv 0) (Q.pac (Q.pd_type rfl E.b_list bt_list) (Q.pad_nil)))))) (Q.pwd_or1 (Q.ptd_not (Q.ptd_truth (Q.dv 0))))))
   (Q.pssd_one (Q.psd_raise hE G_BadName_init.xm O_BadName_init (hr.mono (by decide)) rfl E.m_BadName G_BadName_init.bd (Q.pac (Q.pd_int) (Q.pad_nil))))
   (Q.pssd_nil)) <|
  Q.pssd_one (Q.psd_for hP rfl (Q.pid_enum rfl E.b_enumerate (Q.pac (Q.dv 0) (Q.pad_nil))) (Q.pgd_tup rfl (Q.pgsd_cons (Q.pgd_name (i:=1) sc_refuse_names.nd rfl (Or.inl rfl)) (Q.pgsd_cons (Q.pgd_name (i:=2) sc_refuse_names.nd rfl (Or.inl rfl)) (Q.pgsd_nil))))
   (Q.pssd_one (Q.psd_if (Q.ptd_w (Q.pwd_or (Q.ptd_cmp op_ge opd_ge (Q.dv 1) (Q.pd_globI rfl (E.c_MOST_MACHINES).choose_spec)) (Q.pwd_or (Q.ptd_not (Q.ptd_val (Q.pcF O_is_word (hr.mono (by decide)) rfl G_is_word.mg G_is_word.fn.kp G_is_word.bd (Q.pac (Q.dv 2) (Q.pad_nil))))) (Q.pwd_or1 (Q.ptd_cmp (op_inA hr.h) opd_inA (Q.dv 2) (Q.pd_slice (Q.dv 0) (Q.pod_none) (Q.pod_some (Q.dv 1))))))))
    (Q.pssd_one (Q.psd_raise hE G_BadName_init.xm O_BadName_init (hr.mono (by decide)) rfl E.m_BadName G_BadName_init.bd (Q.pac (Q.dv 1) (Q.pad_nil))))
    (Q.pssd_nil)))))
  (Q.pssd_cons (Q.psd_if (Q.ptd_w (Q.pwd_or (Q.ptd_not (Q.ptd_val (Q.pcB call_isiF cd_isiF rfl E.b_isinstance bb_isinstance (Q.pac (Q.dv 0) (Q.pac (Q.pd_type rfl E.b_list bt_list) (Q.pad_nil)))))) (Q.pwd_or1 (Q.ptd_not (Q.ptd_truF (Q.dv 0))))))
   (Q.pssd_one (Q.psd_raise hE G_BadName_init.xm O_BadName_init (hr.mono (by decide)) rfl E.m_BadName G_BadName_init.bd (Q.pac (Q.pd_int) (Q.pad_nil))))
   (Q.pssd_nil)) <|
  Q.pssd_one (Q.psd_for hP rfl (Q.pid_enumF rfl E.b_enumerate (Q.pac (Q.dv 0) (Q.pad_nil))) (Q.pgd_tup rfl (Q.pgsd_cons (Q.pgd_name (i:=1) sc_refuse_names.nd rfl (Or.inl rfl)) (Q.pgsd_cons (Q.pgd_name (i:=2) sc_refuse_names.nd rfl (Or.inl rfl)) (Q.pgsd_nil))))
   (Q.pssd_one (Q.psd_if (Q.ptd_w (Q.pwd_or (Q.ptd_cmp op_ge opd_ge (Q.dv 1) (Q.pd_globI rfl (E.c_MOST_MACHINES).choose_spec)) (Q.pwd_or (Q.ptd_not (Q.ptd_val (Q.pcF O_is_word (hr.mono (by decide)) rfl G_is_word.mg G_is_word.fn.kp G_is_word.bd (Q.pac (Q.dv 2) (Q.pad_nil))))) (Q.pwd_or1 (Q.ptd_cmp (op_inA hr.h) opd_inA (Q.dv 2) (Q.pd_sliceF (Q.dv 0) (Q.pod_none) (Q.pod_some (Q.dv 1))))))))
    (Q.pssd_one (Q.psd_raise hE G_BadName_init.xm O_BadName_init (hr.mono (by decide)) rfl E.m_BadName G_BadName_init.bd (Q.pac (Q.dv 1) (Q.pad_nil))))
    (Q.pssd_nil)))))
theorem sc_Book_init:FnScope N_Book_init ["self", "machines"] (defScope s_Book_init):=⟨rfl,rfl,rfl,by decide +kernel,rfl,by decide +kernel,by decide +kernel⟩
theorem ok_Book_init {f:Addr}{fd:FuncData}(E:Env K mg)(F:Mi K C_Book "Book.__init__" s_Book_init ["self", "machines"] f fd)
  {f_refuse_names:Addr}{fd_refuse_names:FuncData}(G_refuse_names:Fn K mg "refuse_names" s_refuse_names ["names"] f_refuse_names fd_refuse_names)(O_refuse_names:FnOk P w K mg base (CXE P w) 3 f_refuse_names fd_refuse_names ["names"] (upSpX K sp_refuse_names)) :
  FnOk P w K mg base (CXE P w) 4 f fd ["self", "machines"] (upSpX K sp_Book_init):=by
 refine fun_okX (t:=λ Ex=>t_Book_init Ex sp_refuse_names) F.fn sc_Book_init len_Book_init (λ cdv A outer s H E' Ex hr hE hP=>?_) read_Book_init
 refine Jd.h ?_
 exact Q.pssd_cons (Q.psd_expr (Q.pcX hE O_refuse_names (hr.mono (by decide)) rfl G_refuse_names.mg G_refuse_names.fn.kp G_refuse_names.bd (Q.pac (Q.dv 1) (Q.pad_nil)))) <|
  Q.pssd_cons (Q.psd_ei (Q.psd_fld E.k_Book E.n_Book_machine_names (Q.dv 0) (Q.pd_seal (Q.pcT call_list_of cd_listOf rfl E.b_list bt_list (Q.pac (Q.dv 1) (Q.pad_nil))))) (Q.psd_fld E.k_Book E.n_Book_machine_names (Q.dv 0) (Q.pd_seal (Q.pcT call_listF cd_listF rfl E.b_list bt_list (Q.pac (Q.dv 1) (Q.pad_nil)))))) <|
  Q.pssd_cons (Q.psd_fld E.k_Book E.n_Book_emptied_names (Q.dv 0) (Q.pd_lst (Q.pad_nil))) <|
  Q.pssd_cons (Q.psd_fld E.k_Book E.n_Book_ranked (Q.dv 0) (Q.pd_lst (Q.pad_nil))) <|
  Q.pssd_cons (Q.psd_fld E.k_Book E.n_Book_wished (Q.dv 0) (Q.pd_newDic)) <|
  Q.pssd_cons (Q.psd_fld E.k_Book E.n_Book_ended (Q.dv 0) (Q.pd_lst (Q.pad_nil))) <|
  Q.pssd_cons (Q.psd_fld E.k_Book E.n_Book_told_rows (Q.dv 0) (Q.pd_dictM (trs:=[(dC (.d (.str "group")),dLst (dNil)),(dC (.d (.str "store")),dLst (dNil)),(dC (.d (.str "door")),dLst (dNil)),(dC (.d (.str "rule")),dLst (dNil))]) (Q.pps_cons (Q.pd_str) (Q.pd_lst (Q.pad_nil)) (Q.pps_cons (Q.pd_str) (Q.pd_lst (Q.pad_nil)) (Q.pps_cons (Q.pd_str) (Q.pd_lst (Q.pad_nil)) (Q.pps_cons (Q.pd_str) (Q.pd_lst (Q.pad_nil)) (Q.pps_nil))))))) <|
  Q.pssd_one (Q.psd_fld E.k_Book E.n_Book_done (Q.dv 0) (Q.pd_lst (Q.pad_nil)))
theorem sc_l_told:FnScope N_l_told ["_law_names"] (defScope s_l_told):=⟨rfl,rfl,rfl,by decide +kernel,rfl,by decide +kernel,by decide +kernel⟩
theorem ok_l_told {f:Addr}{fd:FuncData}(E:Env K mg)(F:Fn K mg "_law_told" s_l_told ["_law_names"] f fd)
  {f_Book_init:Addr}{fd_Book_init:FuncData}(G_Book_init:Mi K C_Book "Book.__init__" s_Book_init ["self", "machines"] f_Book_init fd_Book_init)(O_Book_init:FnOk P w K mg base (CXE P w) 4 f_Book_init fd_Book_init ["self", "machines"] (upSpX K sp_Book_init)) :
  FnOk P w K mg base CX0 6 f fd ["_law_names"] (upSp K sp_l_told):=by
 refine fun_ok (t:=t_l_told sp_Book_init) F.fn sc_l_told len_l_told (λ cdv A outer s H E' hr=>?_) read_l_told
 refine Jd.h ?_
 exact Q.pssd_cons (Q.psd_try rfl rfl (λ _ _ _ _ hE hP =>
   Q.pssd_one (Q.psd_expr (Q.pd_makeX hE G_Book_init.mi O_Book_init (hr.mono (by decide)) rfl E.m_Book G_Book_init.bd (Q.pac (Q.dv 0) (Q.pad_nil))))) (Q.ph_as (i:=1) rfl E.m_BadName (AllT.cons E.e_BadName_BadName (AllT.nil)) sc_l_told.nd rfl rfl rfl (λ _ =>
   Q.pssd_cons (Q.psd_if (Q.ptd_w (Q.pwd_or (Q.ptd_not (Q.ptd_val (Q.pd_isX1 E.b_isinstance (AllT.cons ⟨E.x_BadName,E.i_BadName_PlaceError⟩ (AllT.nil)) rfl E.m_PlaceError (Q.dv 1)))) (Q.pwd_or (Q.ptd_not (Q.ptd_val (Q.pd_isXB E.b_isinstance (AllT.cons ⟨E.x_BadName,E.i_BadName_ValueError⟩ (AllT.nil)) rfl E.b_ValueError bt_ValueError (Q.dv 1)))) (Q.pwd_or1 (Q.ptd_val (Q.pd_isXT (cs:=[.ref C_BadRow,.ref C_NoRow]) E.b_isinstance (AllT.cons ⟨E.x_BadName,E.i_BadName_BadRow_NoRow⟩ (AllT.nil)) (pcs_cons rfl E.m_BadRow (pcs_cons rfl E.m_NoRow (pcs_nil))) (Q.dv 1)))))))
     (Q.pssd_one (Q.psd_ret (Q.pd_str)))
     (Q.pssd_nil)) <|
    Q.pssd_one (Q.psd_ret (Q.pd_xfld (AllC.cons ⟨E.x_BadName,E.n_BadName_at⟩ (AllC.nil)) (Q.dv 1)))) (Q.ph_none))) <|
  Q.pssd_one (Q.psd_ret (Q.pd_non))
theorem ndc_3:(["_law_sign"]:List Str).Nodup:=by decide +kernel
theorem sc_l_is_word:FnScope N_l_is_word ["_law_thing"] (defScope s_l_is_word):=⟨rfl,rfl,rfl,by decide +kernel,rfl,by decide +kernel,by decide +kernel⟩
theorem ok_l_is_word {f:Addr}{fd:FuncData}(E:Env K mg)(F:Fn K mg "_law_is_word" s_l_is_word ["_law_thing"] f fd) :
  FnOk P w K mg base CX0 1 f fd ["_law_thing"] (upSp K sp_l_is_word):=by
 refine fun_ok (t:=t_l_is_word) F.fn sc_l_is_word len_l_is_word (λ cdv A outer s H E' hr=>?_) read_l_is_word
 refine Jd.h ?_
 exact Q.pssd_cons (Q.psd_if (Q.ptd_not (Q.ptd_val (Q.pcB call_isiT cd_isiT rfl E.b_isinstance bb_isinstance (Q.pac (Q.dv 0) (Q.pac (Q.pd_type rfl E.b_str bt_str) (Q.pad_nil))))))
   (Q.pssd_one (Q.psd_ret (Q.pd_bl)))
   (Q.pssd_nil)) <|
  Q.pssd_cons (Q.psd_setLC (i:=1) sc_l_is_word.nd rfl (Or.inl rfl) rfl (lcOk (own:=(["_law_sign"]:List Str)) (fr:=[]) rfl) (Q.pid_items (Q.dv 0)) (λ _ _ _ _ _ _=>Q.pgd_name (i:=0) ndc_3 rfl (Or.inl rfl)) (λ _ _ _ _ _ _=>Q.ptsd_one (Q.ptd_cmp op_inS opd_inS (Q.dv 0) (Q.pd_str))) (λ _ _ _ _ _ _=>Q.dv 0)) <|
  Q.pssd_one (Q.psd_ret (Q.pd_and (Q.pd_cmp (op_eqT hr.h) opd_eqT (Q.pcB call_len cd_len rfl E.b_len bb_len (Q.pac (Q.dv 1) (Q.pad_nil))) (Q.pcB call_len cd_len rfl E.b_len bb_len (Q.pac (Q.dv 0) (Q.pad_nil)))) (Q.pd_one (Q.pd_chain op_le2 opd_le2 op_le2 opd_le2 (Q.pd_int) (Q.pcB call_len cd_len rfl E.b_len bb_len (Q.pac (Q.dv 0) (Q.pad_nil))) (Q.pd_int)))))
theorem sc_l_due:FnScope N_l_due ["_law_names"] (defScope s_l_due):=⟨rfl,rfl,rfl,by decide +kernel,rfl,by decide +kernel,by decide +kernel⟩
theorem ok_l_due {f:Addr}{fd:FuncData}(E:Env K mg)(F:Fn K mg "_law_due" s_l_due ["_law_names"] f fd)
  {f_l_is_word:Addr}{fd_l_is_word:FuncData}(G_l_is_word:Fn K mg "_law_is_word" s_l_is_word ["_law_thing"] f_l_is_word fd_l_is_word)(O_l_is_word:FnOk P w K mg base CX0 1 f_l_is_word fd_l_is_word ["_law_thing"] (upSp K sp_l_is_word)) :
  FnOk P w K mg base CX0 2 f fd ["_law_names"] (upSp K sp_l_due):=by
 refine fun_ok (t:=t_l_due sp_l_is_word) F.fn sc_l_due len_l_due (λ cdv A outer s H E' hr=>?_) read_l_due
 refine Jd.h ?_
 exact Q.pssd_cons (Q.psd_if (Q.ptd_w (Q.pwd_or (Q.ptd_not (Q.ptd_val (Q.pcB call_isiT cd_isiT rfl E.b_isinstance bb_isinstance (Q.pac (Q.dv 0) (Q.pac (Q.pd_type rfl E.b_list bt_list) (Q.pad_nil)))))) (Q.pwd_or1 (Q.ptd_cmp (op_eqL0 hr.h) opd_eqL0 (Q.dv 0) (Q.pd_lst (Q.pad_nil))))))
   (Q.pssd_one (Q.psd_ret (Q.pd_int)))
   (Q.pssd_nil)) <|
  Q.pssd_cons (Q.psd_for PassesOwn.never rfl (Q.pid_range1 rfl E.b_range (Q.pac (Q.pcB call_len cd_len rfl E.b_len bb_len (Q.pac (Q.dv 0) (Q.pad_nil))) (Q.pad_nil))) (Q.pgd_name (i:=1) sc_l_due.nd rfl (Or.inl rfl))
   (Q.pssd_one (Q.psd_if (Q.ptd_w (Q.pwd_or (Q.ptd_cmp (op_eqT hr.h) opd_eqT (Q.dv 1) (Q.pd_int)) (Q.pwd_or (Q.ptd_not (Q.ptd_val (Q.pcF O_l_is_word (hr.mono (by decide)) rfl G_l_is_word.mg G_l_is_word.fn.kp G_l_is_word.bd (Q.pac (Q.pd_ix ix_seq opd_ix (Q.dv 0) (Q.dv 1)) (Q.pad_nil))))) (Q.pwd_or1 (Q.ptd_cmp (op_inA hr.h) opd_inA (Q.pd_ix ix_seq opd_ix (Q.dv 0) (Q.dv 1)) (Q.pd_slice (Q.dv 0) (Q.pod_none) (Q.pod_some (Q.dv 1))))))))
    (Q.pssd_one (Q.psd_ret (Q.dv 1)))
    (Q.pssd_nil)))) <|
  Q.pssd_one (Q.psd_ret (Q.pd_non))
theorem sc_Book_machines:FnScope N_Book_machines ["self"] (defScope s_Book_machines):=⟨rfl,rfl,rfl,by decide +kernel,rfl,by decide +kernel,by decide +kernel⟩
theorem ok_Book_machines {f:Addr}{fd:FuncData}(E:Env K mg)(F:Mf K C_Book "machines" "Book.machines" s_Book_machines ["self"] f fd) :
  FnOk P w K mg base CX0 1 f fd ["self"] (upSp K sp_Book_machines):=by
 refine fun_ok (t:=t_Book_machines) F.fn sc_Book_machines len_Book_machines (λ cdv A outer s H E' hr=>?_) read_Book_machines
 refine Jd.h ?_
 exact Q.pssd_one (Q.psd_ret (Q.pcT call_list_of cd_listOf rfl E.b_list bt_list (Q.pac (Q.pd_fld E.k_Book E.n_Book_machine_names (Q.dv 0)) (Q.pad_nil))))
theorem sc_Book_groups:FnScope N_Book_groups ["self"] (defScope s_Book_groups):=⟨rfl,rfl,rfl,by decide +kernel,rfl,by decide +kernel,by decide +kernel⟩
theorem ok_Book_groups {f:Addr}{fd:FuncData}(E:Env K mg)(F:Mf K C_Book "groups" "Book.groups" s_Book_groups ["self"] f fd) :
  FnOk P w K mg base CX0 1 f fd ["self"] (upSp K sp_Book_groups):=by
 refine fun_ok (t:=t_Book_groups) F.fn sc_Book_groups len_Book_groups (λ cdv A outer s H E' hr=>?_) read_Book_groups
 refine Jd.h ?_
 exact Q.pssd_one (Q.psd_ret (Q.pcT call_list_of cd_listOf rfl E.b_list bt_list (Q.pac (Q.pd_dget (hu_of hr) (Q.pd_fld E.k_Book E.n_Book_told_rows (Q.dv 0)) (Q.pd_str)) (Q.pad_nil))))
theorem sc_Book_wishes:FnScope N_Book_wishes ["self"] (defScope s_Book_wishes):=⟨rfl,rfl,rfl,by decide +kernel,rfl,by decide +kernel,by decide +kernel⟩
theorem ok_Book_wishes {f:Addr}{fd:FuncData}(E:Env K mg)(F:Mf K C_Book "wishes" "Book.wishes" s_Book_wishes ["self"] f fd) :
  FnOk P w K mg base CX0 1 f fd ["self"] (upSp K sp_Book_wishes):=by
 refine fun_ok (t:=t_Book_wishes) F.fn sc_Book_wishes len_Book_wishes (λ cdv A outer s H E' hr=>?_) read_Book_wishes
 refine Jd.h ?_
 exact Q.pssd_one (Q.psd_ret (Q.pcT call_list_of cd_listOf rfl E.b_list bt_list (Q.pac (Q.pd_fld E.k_Book E.n_Book_ranked (Q.dv 0)) (Q.pad_nil))))
theorem sc_Book_stores:FnScope N_Book_stores ["self"] (defScope s_Book_stores):=⟨rfl,rfl,rfl,by decide +kernel,rfl,by decide +kernel,by decide +kernel⟩
theorem ok_Book_stores {f:Addr}{fd:FuncData}(E:Env K mg)(F:Mf K C_Book "stores" "Book.stores" s_Book_stores ["self"] f fd) :
  FnOk P w K mg base CX0 1 f fd ["self"] (upSp K sp_Book_stores):=by
 refine fun_ok (t:=t_Book_stores) F.fn sc_Book_stores len_Book_stores (λ cdv A outer s H E' hr=>?_) read_Book_stores
 refine Jd.h ?_
 exact Q.pssd_one (Q.psd_ret (Q.pcT call_list_of cd_listOf rfl E.b_list bt_list (Q.pac (Q.pd_dget (hu_of hr) (Q.pd_fld E.k_Book E.n_Book_told_rows (Q.dv 0)) (Q.pd_str)) (Q.pad_nil))))
theorem sc_Book_doors:FnScope N_Book_doors ["self"] (defScope s_Book_doors):=⟨rfl,rfl,rfl,by decide +kernel,rfl,by decide +kernel,by decide +kernel⟩
theorem ok_Book_doors {f:Addr}{fd:FuncData}(E:Env K mg)(F:Mf K C_Book "doors" "Book.doors" s_Book_doors ["self"] f fd) :
  FnOk P w K mg base CX0 1 f fd ["self"] (upSp K sp_Book_doors):=by
 refine fun_ok (t:=t_Book_doors) F.fn sc_Book_doors len_Book_doors (λ cdv A outer s H E' hr=>?_) read_Book_doors
 refine Jd.h ?_
 exact Q.pssd_one (Q.psd_ret (Q.pcT call_list_of cd_listOf rfl E.b_list bt_list (Q.pac (Q.pd_dget (hu_of hr) (Q.pd_fld E.k_Book E.n_Book_told_rows (Q.dv 0)) (Q.pd_str)) (Q.pad_nil))))
theorem sc_Book_rules:FnScope N_Book_rules ["self"] (defScope s_Book_rules):=⟨rfl,rfl,rfl,by decide +kernel,rfl,by decide +kernel,by decide +kernel⟩
theorem ok_Book_rules {f:Addr}{fd:FuncData}(E:Env K mg)(F:Mf K C_Book "rules" "Book.rules" s_Book_rules ["self"] f fd) :
  FnOk P w K mg base CX0 1 f fd ["self"] (upSp K sp_Book_rules):=by
 refine fun_ok (t:=t_Book_rules) F.fn sc_Book_rules len_Book_rules (λ cdv A outer s H E' hr=>?_) read_Book_rules
 refine Jd.h ?_
 exact Q.pssd_one (Q.psd_ret (Q.pcT call_list_of cd_listOf rfl E.b_list bt_list (Q.pac (Q.pd_dget (hu_of hr) (Q.pd_fld E.k_Book E.n_Book_told_rows (Q.dv 0)) (Q.pd_str)) (Q.pad_nil))))
theorem sc_Book_emptied:FnScope N_Book_emptied ["self"] (defScope s_Book_emptied):=⟨rfl,rfl,rfl,by decide +kernel,rfl,by decide +kernel,by decide +kernel⟩
theorem ok_Book_emptied {f:Addr}{fd:FuncData}(E:Env K mg)(F:Mf K C_Book "emptied" "Book.emptied" s_Book_emptied ["self"] f fd) :
  FnOk P w K mg base CX0 1 f fd ["self"] (upSp K sp_Book_emptied):=by
 refine fun_ok (t:=t_Book_emptied) F.fn sc_Book_emptied len_Book_emptied (λ cdv A outer s H E' hr=>?_) read_Book_emptied
 refine Jd.h ?_
 exact Q.pssd_one (Q.psd_ret (Q.pcB call_sortedS cd_sortS rfl E.b_sorted bb_sorted (Q.pac (Q.pd_fld E.k_Book E.n_Book_emptied_names (Q.dv 0)) (Q.pad_nil))))
theorem sc_Book_log:FnScope N_Book_log ["self"] (defScope s_Book_log):=⟨rfl,rfl,rfl,by decide +kernel,rfl,by decide +kernel,by decide +kernel⟩
theorem ok_Book_log {f:Addr}{fd:FuncData}(E:Env K mg)(F:Mf K C_Book "log" "Book.log" s_Book_log ["self"] f fd) :
  FnOk P w K mg base CX0 1 f fd ["self"] (upSp K sp_Book_log):=by
 refine fun_ok (t:=t_Book_log) F.fn sc_Book_log len_Book_log (λ cdv A outer s H E' hr=>?_) read_Book_log
 refine Jd.h ?_
 exact Q.pssd_one (Q.psd_ret (Q.pcT call_list_of cd_listOf rfl E.b_list bt_list (Q.pac (Q.pd_fld E.k_Book E.n_Book_done (Q.dv 0)) (Q.pad_nil))))
theorem sc_l_nothing:FnScope N_l_nothing ["_law_some"] (defScope s_l_nothing):=⟨rfl,rfl,rfl,by decide +kernel,rfl,by decide +kernel,by decide +kernel⟩
theorem ok_l_nothing {f:Addr}{fd:FuncData}(E:Env K mg)(F:Fn K mg "_law_nothing" s_l_nothing ["_law_some"] f fd)
  {f_Book_groups:Addr}{fd_Book_groups:FuncData}(G_Book_groups:Mf K C_Book "groups" "Book.groups" s_Book_groups ["self"] f_Book_groups fd_Book_groups)(O_Book_groups:FnOk P w K mg base CX0 1 f_Book_groups fd_Book_groups ["self"] (upSp K sp_Book_groups))
  {f_Book_wishes:Addr}{fd_Book_wishes:FuncData}(G_Book_wishes:Mf K C_Book "wishes" "Book.wishes" s_Book_wishes ["self"] f_Book_wishes fd_Book_wishes)(O_Book_wishes:FnOk P w K mg base CX0 1 f_Book_wishes fd_Book_wishes ["self"] (upSp K sp_Book_wishes))
  {f_Book_stores:Addr}{fd_Book_stores:FuncData}(G_Book_stores:Mf K C_Book "stores" "Book.stores" s_Book_stores ["self"] f_Book_stores fd_Book_stores)(O_Book_stores:FnOk P w K mg base CX0 1 f_Book_stores fd_Book_stores ["self"] (upSp K sp_Book_stores))
  {f_Book_doors:Addr}{fd_Book_doors:FuncData}(G_Book_doors:Mf K C_Book "doors" "Book.doors" s_Book_doors ["self"] f_Book_doors fd_Book_doors)(O_Book_doors:FnOk P w K mg base CX0 1 f_Book_doors fd_Book_doors ["self"] (upSp K sp_Book_doors))
  {f_Book_rules:Addr}{fd_Book_rules:FuncData}(G_Book_rules:Mf K C_Book "rules" "Book.rules" s_Book_rules ["self"] f_Book_rules fd_Book_rules)(O_Book_rules:FnOk P w K mg base CX0 1 f_Book_rules fd_Book_rules ["self"] (upSp K sp_Book_rules))
  {f_Book_emptied:Addr}{fd_Book_emptied:FuncData}(G_Book_emptied:Mf K C_Book "emptied" "Book.emptied" s_Book_emptied ["self"] f_Book_emptied fd_Book_emptied)(O_Book_emptied:FnOk P w K mg base CX0 1 f_Book_emptied fd_Book_emptied ["self"] (upSp K sp_Book_emptied))
  {f_Book_log:Addr}{fd_Book_log:FuncData}(G_Book_log:Mf K C_Book "log" "Book.log" s_Book_log ["self"] f_Book_log fd_Book_log)(O_Book_log:FnOk P w K mg base CX0 1 f_Book_log fd_Book_log ["self"] (upSp K sp_Book_log)) :
  FnOk P w K mg base CX0 2 f fd ["_law_some"] (upSp K sp_l_nothing):=by
 refine fun_ok (t:=t_l_nothing sp_Book_groups sp_Book_wishes sp_Book_stores sp_Book_doors sp_Book_rules sp_Book_emptied sp_Book_log) F.fn sc_l_nothing len_l_nothing (λ cdv A outer s H E' hr=>?_) read_l_nothing
 refine Jd.h ?_
 exact Q.pssd_cons (Q.psd_set (i:=1) sc_l_nothing.nd rfl (Or.inl rfl) (Q.pd_lstM (Q.pac (Q.pd_meth0 (Q.dv 0) E.k_Book G_Book_groups.me O_Book_groups (hr.mono (by decide)) G_Book_groups.bd) (Q.pac (Q.pd_meth0 (Q.dv 0) E.k_Book G_Book_wishes.me O_Book_wishes (hr.mono (by decide)) G_Book_wishes.bd) (Q.pac (Q.pd_meth0 (Q.dv 0) E.k_Book G_Book_stores.me O_Book_stores (hr.mono (by decide)) G_Book_stores.bd) (Q.pac (Q.pd_meth0 (Q.dv 0) E.k_Book G_Book_doors.me O_Book_doors (hr.mono (by decide)) G_Book_doors.bd) (Q.pac (Q.pd_meth0 (Q.dv 0) E.k_Book G_Book_rules.me O_Book_rules (hr.mono (by decide)) G_Book_rules.bd) (Q.pac (Q.pd_meth0 (Q.dv 0) E.k_Book G_Book_emptied.me O_Book_emptied (hr.mono (by decide)) G_Book_emptied.bd) (Q.pac (Q.pd_meth0 (Q.dv 0) E.k_Book G_Book_log.me O_Book_log (hr.mono (by decide)) G_Book_log.bd) (Q.pad_nil)))))))))) <|
  Q.pssd_one (Q.psd_ret (Q.pd_cmp (op_eqN hr) opd_eqN (Q.dv 1) (Q.pd_lst (Q.pac (Q.pd_lst (Q.pad_nil)) (Q.pac (Q.pd_lst (Q.pad_nil)) (Q.pac (Q.pd_lst (Q.pad_nil)) (Q.pac (Q.pd_lst (Q.pad_nil)) (Q.pac (Q.pd_lst (Q.pad_nil)) (Q.pac (Q.pd_lst (Q.pad_nil)) (Q.pac (Q.pd_lst (Q.pad_nil)) (Q.pad_nil)))))))))))
theorem sc_Unknown_init:FnScope N_Unknown_init ["self", "name"] (defScope s_Unknown_init):=⟨rfl,rfl,rfl,by decide +kernel,rfl,by decide +kernel,by decide +kernel⟩
theorem ok_Unknown_init {f:Addr}{fd:FuncData}(E:Env K mg)(F:Xi K C_Unknown "Unknown.__init__" s_Unknown_init ["self", "name"] f fd):FnOk P w K mg base CX0 1 f fd ["self", "name"] (xinit C_Unknown ["name"]):=init1 F.fn sc_Unknown_init F.xm.xc E.n_Unknown_name rfl (λ _=>rfl) rfl rfl
theorem sc_wish_copied:FnScope N_wish_copied ["wish"] (defScope s_wish_copied):=⟨rfl,rfl,rfl,by decide +kernel,rfl,by decide +kernel,by decide +kernel⟩
theorem ok_wish_copied {f:Addr}{fd:FuncData}(E:Env K mg)(F:Fn K mg "wish_copied" s_wish_copied ["wish"] f fd) :
  FnOk P w K mg base CX0 1 f fd ["wish"] (upSp K sp_wish_copied):=by
 refine fun_ok (t:=t_wish_copied) F.fn sc_wish_copied len_wish_copied (λ cdv A outer s H E' hr=>?_) read_wish_copied
 refine Jd.h ?_
 exact Q.pssd_cons (Q.psd_set (i:=1) sc_wish_copied.nd rfl (Or.inl rfl) (Q.pcT (call_dictPs rfl) cd_dictPs rfl E.b_dict bt_dict (Q.pac (Q.dv 0) (Q.pad_nil)))) <|
  Q.pssd_cons (Q.psd_asg (Q.pcT call_list_of cd_listOf rfl E.b_list bt_list (Q.pac (Q.pd_ix ix_seq opd_ix (Q.dv 0) (Q.pd_str)) (Q.pad_nil))) (Q.pgd_sub (Q.dv 1) (Q.pd_str))) <|
  Q.pssd_one (Q.psd_ret (Q.dv 1))
theorem sc_Book_wish:FnScope N_Book_wish ["self", "name"] (defScope s_Book_wish):=⟨rfl,rfl,rfl,by decide +kernel,rfl,by decide +kernel,by decide +kernel⟩
theorem ok_Book_wish {f:Addr}{fd:FuncData}(E:Env K mg)(F:Mf K C_Book "wish" "Book.wish" s_Book_wish ["self", "name"] f fd)
  {f_is_word:Addr}{fd_is_word:FuncData}(G_is_word:Fn K mg "is_word" s_is_word ["thing"] f_is_word fd_is_word)(O_is_word:FnOk P w K mg base CX0 1 f_is_word fd_is_word ["thing"] (upSp K sp_is_word))
  {f_Unknown_init:Addr}{fd_Unknown_init:FuncData}(G_Unknown_init:Xi K C_Unknown "Unknown.__init__" s_Unknown_init ["self", "name"] f_Unknown_init fd_Unknown_init)(O_Unknown_init:FnOk P w K mg base CX0 1 f_Unknown_init fd_Unknown_init ["self", "name"] (xinit C_Unknown ["name"]))
  {f_wish_copied:Addr}{fd_wish_copied:FuncData}(G_wish_copied:Fn K mg "wish_copied" s_wish_copied ["wish"] f_wish_copied fd_wish_copied)(O_wish_copied:FnOk P w K mg base CX0 1 f_wish_copied fd_wish_copied ["wish"] (upSp K sp_wish_copied)) :
  FnOk P w K mg base (CXE P w) 3 f fd ["self", "name"] (upSpX K sp_Book_wish):=by
 refine fun_okX (t:=λ Ex=>t_Book_wish Ex sp_is_word sp_wish_copied) F.fn sc_Book_wish len_Book_wish (λ cdv A outer s H E' Ex hr hE hP=>?_) read_Book_wish
 refine Jd.h ?_
 exact Q.pssd_cons (Q.psd_if (Q.ptd_w (Q.pwd_or (Q.ptd_not (Q.ptd_val (Q.pcF O_is_word (hr.mono (by decide)) rfl G_is_word.mg G_is_word.fn.kp G_is_word.bd (Q.pac (Q.dv 1) (Q.pad_nil))))) (Q.pwd_or1 (Q.ptd_dnotin (hu_of hr) (Q.dv 1) (Q.pd_fld E.k_Book E.n_Book_wished (Q.dv 0))))))
   (Q.pssd_one (Q.psd_raise hE G_Unknown_init.xm O_Unknown_init (hr.mono (by decide)) rfl E.m_Unknown G_Unknown_init.bd (Q.pac (Q.dv 1) (Q.pad_nil))))
   (Q.pssd_nil)) <|
  Q.pssd_one (Q.psd_ret (Q.pd_never))
theorem sc_l_unknown:FnScope N_l_unknown ["_law_some", "_law_name"] (defScope s_l_unknown):=⟨rfl,rfl,rfl,by decide +kernel,rfl,by decide +kernel,by decide +kernel⟩
theorem ok_l_unknown {f:Addr}{fd:FuncData}(E:Env K mg)(F:Fn K mg "_law_unknown" s_l_unknown ["_law_some", "_law_name"] f fd)
  {f_Book_wish:Addr}{fd_Book_wish:FuncData}(G_Book_wish:Mf K C_Book "wish" "Book.wish" s_Book_wish ["self", "name"] f_Book_wish fd_Book_wish)(O_Book_wish:FnOk P w K mg base (CXE P w) 3 f_Book_wish fd_Book_wish ["self", "name"] (upSpX K sp_Book_wish)) :
  FnOk P w K mg base CX0 4 f fd ["_law_some", "_law_name"] (upSp K sp_l_unknown):=by
 refine fun_ok (t:=t_l_unknown sp_Book_wish) F.fn sc_l_unknown len_l_unknown (λ cdv A outer s H E' hr=>?_) read_l_unknown
 refine Jd.h ?_
 exact Q.pssd_cons (Q.psd_try rfl rfl (λ _ _ _ _ hE hP =>
   Q.pssd_one (Q.psd_expr (Q.pmX hE (Q.dv 0) E.k_Book G_Book_wish.me O_Book_wish (hr.mono (by decide)) G_Book_wish.bd (Q.pac (Q.dv 1) (Q.pad_nil))))) (Q.ph_as (i:=2) rfl E.m_Unknown (AllT.cons E.e_Unknown_Unknown (AllT.nil)) sc_l_unknown.nd rfl rfl rfl (λ _ =>
   Q.pssd_one (Q.psd_ret (Q.pd_cmp (op_eqT (hr.h.mark _)) opd_eqT (Q.pcB (call_reprK (hr.h.mark _)) cd_reprK rfl E.b_repr bb_repr (Q.pac (Q.pd_xfld (AllC.cons ⟨E.x_Unknown,E.n_Unknown_name⟩ (AllC.nil)) (Q.dv 2)) (Q.pad_nil))) (Q.pcB (call_reprK (hr.h.mark _)) cd_reprK rfl E.b_repr bb_repr (Q.pac (Q.dv 1) (Q.pad_nil)))))) (Q.ph_none))) <|
  Q.pssd_one (Q.psd_ret (Q.pd_bl))
theorem sc_law:FnScope N_law ["_law_script"] (defScope s_law):=⟨rfl,rfl,rfl,by decide +kernel,rfl,by decide +kernel,by decide +kernel⟩
theorem ok_law {f:Addr}{fd:FuncData}(E:Env K mg)(F:Fn K mg "law" s_law ["_law_script"] f fd)
  {f_l_bag:Addr}{fd_l_bag:FuncData}(G_l_bag:Fn K mg "_law_bag" s_l_bag ["_law_script"] f_l_bag fd_l_bag)(O_l_bag:FnOk P w K mg base CX0 1 f_l_bag fd_l_bag ["_law_script"] (upSp K sp_l_bag))
  {f_l_words:Addr}{fd_l_words:FuncData}(G_l_words:Fn K mg "_law_words" s_l_words ["_law_bag_here", "_law_many"] f_l_words fd_l_words)(O_l_words:FnOk P w K mg base CX0 2 f_l_words fd_l_words ["_law_bag_here", "_law_many"] (upSp K sp_l_words))
  {f_l_take:Addr}{fd_l_take:FuncData}(G_l_take:Fn K mg "_law_take" s_l_take ["_law_bag_here", "_law_many"] f_l_take fd_l_take)(O_l_take:FnOk P w K mg base CX0 1 f_l_take fd_l_take ["_law_bag_here", "_law_many"] (upSp K sp_l_take))
  {f_l_spoilt:Addr}{fd_l_spoilt:FuncData}(G_l_spoilt:Fn K mg "_law_spoilt" s_l_spoilt ["_law_bag_here", "_law_names"] f_l_spoilt fd_l_spoilt)(O_l_spoilt:FnOk P w K mg base CX0 2 f_l_spoilt fd_l_spoilt ["_law_bag_here", "_law_names"] (upSp K sp_l_spoilt))
  {f_l_told:Addr}{fd_l_told:FuncData}(G_l_told:Fn K mg "_law_told" s_l_told ["_law_names"] f_l_told fd_l_told)(O_l_told:FnOk P w K mg base CX0 6 f_l_told fd_l_told ["_law_names"] (upSp K sp_l_told))
  {f_l_due:Addr}{fd_l_due:FuncData}(G_l_due:Fn K mg "_law_due" s_l_due ["_law_names"] f_l_due fd_l_due)(O_l_due:FnOk P w K mg base CX0 2 f_l_due fd_l_due ["_law_names"] (upSp K sp_l_due))
  {f_Book_init:Addr}{fd_Book_init:FuncData}(G_Book_init:Mi K C_Book "Book.__init__" s_Book_init ["self", "machines"] f_Book_init fd_Book_init)(O_Book_init:FnOk P w K mg base (CXE P w) 4 f_Book_init fd_Book_init ["self", "machines"] (upSpX K sp_Book_init))
  {f_Book_machines:Addr}{fd_Book_machines:FuncData}(G_Book_machines:Mf K C_Book "machines" "Book.machines" s_Book_machines ["self"] f_Book_machines fd_Book_machines)(O_Book_machines:FnOk P w K mg base CX0 1 f_Book_machines fd_Book_machines ["self"] (upSp K sp_Book_machines))
  {f_l_nothing:Addr}{fd_l_nothing:FuncData}(G_l_nothing:Fn K mg "_law_nothing" s_l_nothing ["_law_some"] f_l_nothing fd_l_nothing)(O_l_nothing:FnOk P w K mg base CX0 2 f_l_nothing fd_l_nothing ["_law_some"] (upSp K sp_l_nothing))
  {f_Book_groups:Addr}{fd_Book_groups:FuncData}(G_Book_groups:Mf K C_Book "groups" "Book.groups" s_Book_groups ["self"] f_Book_groups fd_Book_groups)(O_Book_groups:FnOk P w K mg base CX0 1 f_Book_groups fd_Book_groups ["self"] (upSp K sp_Book_groups))
  {f_Book_wishes:Addr}{fd_Book_wishes:FuncData}(G_Book_wishes:Mf K C_Book "wishes" "Book.wishes" s_Book_wishes ["self"] f_Book_wishes fd_Book_wishes)(O_Book_wishes:FnOk P w K mg base CX0 1 f_Book_wishes fd_Book_wishes ["self"] (upSp K sp_Book_wishes))
  {f_Book_stores:Addr}{fd_Book_stores:FuncData}(G_Book_stores:Mf K C_Book "stores" "Book.stores" s_Book_stores ["self"] f_Book_stores fd_Book_stores)(O_Book_stores:FnOk P w K mg base CX0 1 f_Book_stores fd_Book_stores ["self"] (upSp K sp_Book_stores))
  {f_Book_doors:Addr}{fd_Book_doors:FuncData}(G_Book_doors:Mf K C_Book "doors" "Book.doors" s_Book_doors ["self"] f_Book_doors fd_Book_doors)(O_Book_doors:FnOk P w K mg base CX0 1 f_Book_doors fd_Book_doors ["self"] (upSp K sp_Book_doors))
  {f_Book_rules:Addr}{fd_Book_rules:FuncData}(G_Book_rules:Mf K C_Book "rules" "Book.rules" s_Book_rules ["self"] f_Book_rules fd_Book_rules)(O_Book_rules:FnOk P w K mg base CX0 1 f_Book_rules fd_Book_rules ["self"] (upSp K sp_Book_rules))
  {f_Book_emptied:Addr}{fd_Book_emptied:FuncData}(G_Book_emptied:Mf K C_Book "emptied" "Book.emptied" s_Book_emptied ["self"] f_Book_emptied fd_Book_emptied)(O_Book_emptied:FnOk P w K mg base CX0 1 f_Book_emptied fd_Book_emptied ["self"] (upSp K sp_Book_emptied))
  {f_Book_log:Addr}{fd_Book_log:FuncData}(G_Book_log:Mf K C_Book "log" "Book.log" s_Book_log ["self"] f_Book_log fd_Book_log)(O_Book_log:FnOk P w K mg base CX0 1 f_Book_log fd_Book_log ["self"] (upSp K sp_Book_log))
  {f_l_unknown:Addr}{fd_l_unknown:FuncData}(G_l_unknown:Fn K mg "_law_unknown" s_l_unknown ["_law_some", "_law_name"] f_l_unknown fd_l_unknown)(O_l_unknown:FnOk P w K mg base CX0 4 f_l_unknown fd_l_unknown ["_law_some", "_law_name"] (upSp K sp_l_unknown)) :
  FnOk P w K mg base CX0 7 f fd ["_law_script"] (upSp K sp_law):=by
 refine fun_ok (t:=t_law sp_l_bag sp_l_words sp_l_take sp_l_spoilt sp_l_told sp_l_due sp_Book_init sp_Book_machines sp_l_nothing sp_Book_groups sp_Book_wishes sp_Book_stores sp_Book_doors sp_Book_rules sp_Book_emptied sp_Book_log sp_l_unknown) F.fn sc_law len_law (λ cdv A outer s H E' hr=>?_) read_law
 refine Jd.h ?_
 exact Q.pssd_cons (Q.psd_set (i:=1) sc_law.nd rfl (Or.inl rfl) (Q.pcF O_l_bag (hr.mono (by decide)) rfl G_l_bag.mg G_l_bag.fn.kp G_l_bag.bd (Q.pac (Q.dv 0) (Q.pad_nil)))) <|
  Q.pssd_cons (Q.psd_for PassesOwn.never rfl (Q.pid_range1 rfl E.b_range (Q.pac (Q.pd_int) (Q.pad_nil))) (Q.pgd_name (i:=2) sc_law.nd rfl (Or.inl rfl))
   (Q.pssd_cons (Q.psd_set (i:=3) sc_law.nd rfl (Or.inl rfl) (Q.pd_seal (Q.pcF O_l_words (hr.mono (by decide)) rfl G_l_words.mg G_l_words.fn.kp G_l_words.bd (Q.pac (Q.dv 1) (Q.pac (Q.pd_op op_add2 opd_add2 (Q.pd_int) (Q.pcF O_l_take (hr.mono (by decide)) rfl G_l_take.mg G_l_take.fn.kp G_l_take.bd (Q.pac (Q.dv 1) (Q.pac (Q.pd_int) (Q.pad_nil))))) (Q.pad_nil)))))) <|
   Q.pssd_cons (Q.psd_set (i:=4) sc_law.nd rfl (Or.inl rfl) (Q.pd_seal (Q.pcF O_l_spoilt (hr.mono (by decide)) rfl G_l_spoilt.mg G_l_spoilt.fn.kp G_l_spoilt.bd (Q.pac (Q.dv 1) (Q.pac (Q.dv 3) (Q.pad_nil)))))) <|
   Q.pssd_cons (Q.psd_set (i:=5) sc_law.nd rfl (Or.inl rfl) (Q.pd_ix ix_seq opd_ix (Q.pd_lst (Q.pac (Q.pd_non) (Q.pac (Q.pd_tup (Q.pad_nil)) (Q.pac (Q.pcT call_tuple_of cd_tupleOf rfl E.b_tuple bt_tuple (Q.pac (Q.dv 3) (Q.pad_nil))) (Q.pac (Q.pd_dict0) (Q.pac (Q.pd_str) (Q.pac (Q.pd_int) (Q.pac (Q.pd_lst (Q.pad_nil)) (Q.pac (Q.pd_dict (trs:=[(dOp rdIx (dVar 3) (dC (.d (.int 0))),dC (.d (.bool true)))]) (Q.pps_cons (Q.pd_ix ix_seq opd_ix (Q.dv 3) (Q.pd_int)) (Q.pd_bl) (Q.pps_nil))) (Q.pad_nil)))))))))) (Q.pcF O_l_take (hr.mono (by decide)) rfl G_l_take.mg G_l_take.fn.kp G_l_take.bd (Q.pac (Q.dv 1) (Q.pac (Q.pd_int) (Q.pad_nil)))))) <|
   Q.pssd_cons (Q.psd_for PassesOwn.never rfl (Q.pid_items (Q.pd_lst (Q.pac (Q.dv 3) (Q.pac (Q.dv 4) (Q.pac (Q.dv 5) (Q.pac (Q.dv 3) (Q.pad_nil))))))) (Q.pgd_name (i:=6) sc_law.nd rfl (Or.inl rfl))
    (Q.pssd_cons (Q.psd_set (i:=7) sc_law.nd rfl (Or.inl rfl) (Q.pcB (call_reprK hr.h) cd_reprK rfl E.b_repr bb_repr (Q.pac (Q.dv 6) (Q.pad_nil)))) <|
    Q.pssd_one (Q.psd_if (Q.ptd_w (Q.pwd_or (Q.ptd_cmp (op_neT hr.h) opd_neT (Q.pcF O_l_told (hr.mono (by decide)) rfl G_l_told.mg G_l_told.fn.kp G_l_told.bd (Q.pac (Q.dv 6) (Q.pad_nil))) (Q.pcF O_l_due (hr.mono (by decide)) rfl G_l_due.mg G_l_due.fn.kp G_l_due.bd (Q.pac (Q.dv 6) (Q.pad_nil)))) (Q.pwd_or1 (Q.ptd_cmp (op_neT hr.h) opd_neT (Q.pcB (call_reprK hr.h) cd_reprK rfl E.b_repr bb_repr (Q.pac (Q.dv 6) (Q.pad_nil))) (Q.dv 7)))))
     (Q.pssd_one (Q.psd_ret (Q.pd_bl)))
     (Q.pssd_nil)))) <|
   Q.pssd_cons (Q.psd_set (i:=8) sc_law.nd rfl (Or.inl rfl) (Q.pd_sliceN (Q.dv 3) (Q.pod_none) (Q.pod_some (Q.pd_int)))) <|
   Q.pssd_cons (Q.psd_stillL (Q.psd_set (i:=9) sc_law.nd rfl (Or.inl rfl) (Q.pd_makeX lk_never G_Book_init.mi O_Book_init (hr.mono (by decide)) rfl E.m_Book G_Book_init.bd (Q.pac (Q.dv 8) (Q.pad_nil))))) <|
   Q.pssd_cons (Q.psd_expr (Q.pd_append (Q.dv 8) (Q.pd_str))) <|
   Q.pssd_cons (Q.psd_asg (Q.pd_str) (Q.pgd_sub (Q.dv 8) (Q.pd_int))) <|
   Q.pssd_cons (Q.psd_if (Q.ptd_cmp (op_neT hr.h) opd_neT (Q.pd_meth0 (Q.dv 9) E.k_Book G_Book_machines.me O_Book_machines (hr.mono (by decide)) G_Book_machines.bd) (Q.pd_slice (Q.dv 3) (Q.pod_none) (Q.pod_some (Q.pd_int))))
    (Q.pssd_one (Q.psd_ret (Q.pd_bl)))
    (Q.pssd_nil)) <|
   Q.pssd_cons (Q.psd_expr (Q.pd_append (Q.pd_meth0 (Q.dv 9) E.k_Book G_Book_machines.me O_Book_machines (hr.mono (by decide)) G_Book_machines.bd) (Q.pd_str))) <|
   Q.pssd_cons (Q.psd_if (Q.ptd_w (Q.pwd_or (Q.ptd_cmp (op_neT hr.h) opd_neT (Q.pd_meth0 (Q.dv 9) E.k_Book G_Book_machines.me O_Book_machines (hr.mono (by decide)) G_Book_machines.bd) (Q.pd_slice (Q.dv 3) (Q.pod_none) (Q.pod_some (Q.pd_int)))) (Q.pwd_or1 (Q.ptd_not (Q.ptd_val (Q.pcF O_l_nothing (hr.mono (by decide)) rfl G_l_nothing.mg G_l_nothing.fn.kp G_l_nothing.bd (Q.pac (Q.dv 9) (Q.pad_nil))))))))
    (Q.pssd_one (Q.psd_ret (Q.pd_bl)))
    (Q.pssd_nil)) <|
   Q.pssd_cons (Q.psd_for PassesOwn.never rfl (Q.pid_itemsN (Q.pd_lstM (Q.pac (Q.pd_meth0 (Q.dv 9) E.k_Book G_Book_groups.me O_Book_groups (hr.mono (by decide)) G_Book_groups.bd) (Q.pac (Q.pd_meth0 (Q.dv 9) E.k_Book G_Book_wishes.me O_Book_wishes (hr.mono (by decide)) G_Book_wishes.bd) (Q.pac (Q.pd_meth0 (Q.dv 9) E.k_Book G_Book_stores.me O_Book_stores (hr.mono (by decide)) G_Book_stores.bd) (Q.pac (Q.pd_meth0 (Q.dv 9) E.k_Book G_Book_doors.me O_Book_doors (hr.mono (by decide)) G_Book_doors.bd) (Q.pac (Q.pd_meth0 (Q.dv 9) E.k_Book G_Book_rules.me O_Book_rules (hr.mono (by decide)) G_Book_rules.bd) (Q.pad_nil)))))))) (Q.pgd_name (i:=10) sc_law.nd rfl (Or.inl rfl))
    (Q.pssd_one (Q.psd_expr (Q.pd_append (Q.dv 10) (Q.pd_int))))) <|
   Q.pssd_cons (Q.psd_expr (Q.pd_append (Q.pd_meth0 (Q.dv 9) E.k_Book G_Book_emptied.me O_Book_emptied (hr.mono (by decide)) G_Book_emptied.bd) (Q.pd_str))) <|
   Q.pssd_cons (Q.psd_expr (Q.pd_append (Q.pd_meth0 (Q.dv 9) E.k_Book G_Book_log.me O_Book_log (hr.mono (by decide)) G_Book_log.bd) (Q.pd_tup (Q.pac (Q.pd_str) (Q.pac (Q.pd_tup (Q.pac (Q.pd_str) (Q.pac (Q.pd_str) (Q.pad_nil)))) (Q.pad_nil)))))) <|
   Q.pssd_cons (Q.psd_if (Q.ptd_not (Q.ptd_val (Q.pcF O_l_nothing (hr.mono (by decide)) rfl G_l_nothing.mg G_l_nothing.fn.kp G_l_nothing.bd (Q.pac (Q.dv 9) (Q.pad_nil)))))
    (Q.pssd_one (Q.psd_ret (Q.pd_bl)))
    (Q.pssd_nil)) <|
   Q.pssd_one (Q.psd_for PassesOwn.never rfl (Q.pid_items (Q.pd_lst (Q.pac (Q.pd_str) (Q.pac (Q.pd_ix ix_seq opd_ix (Q.dv 3) (Q.pd_int)) (Q.pac (Q.pd_non) (Q.pac (Q.pd_lst (Q.pac (Q.pd_str) (Q.pad_nil))) (Q.pac (Q.pd_dict0) (Q.pac (Q.pd_int) (Q.pac (Q.pd_str) (Q.pad_nil)))))))))) (Q.pgd_name (i:=11) sc_law.nd rfl (Or.inl rfl))
    (Q.pssd_one (Q.psd_if (Q.ptd_not (Q.ptd_val (Q.pcF O_l_unknown (hr.mono (by decide)) rfl G_l_unknown.mg G_l_unknown.fn.kp G_l_unknown.bd (Q.pac (Q.dv 9) (Q.pac (Q.dv 11) (Q.pad_nil))))))
     (Q.pssd_one (Q.psd_ret (Q.pd_bl)))
     (Q.pssd_nil)))))) <|
  Q.pssd_one (Q.psd_ret (Q.pd_bl))
theorem all_mk {l:PySem.W.OpenLaw}{w:World}{K:PySem.W.Frag}{h:Heap}{mg:Str->Option Value}{fa:Addr}(X:K.In h)(G:h.Ns mainGlobals mg)(hfa:mg "law" = some (.ref fa))
  {f_l_bag:Addr}{oc_l_bag kV_l_bag dc_l_bag pm_l_bag cd_l_bag ct_l_bag:Value}{od_l_bag an_l_bag:Option Addr}{sl_l_bag:Array (Option Value)}
  (a_l_bag:PySem.W.nsIn K mainGlobals "_law_bag" = some (some (.ref f_l_bag)))(l_l_bag:K.lookup f_l_bag=some ⟨oc_l_bag,od_l_bag,.func (PySem.W.fnOf "_law_bag" "_law_bag" (defArgs s_l_bag) (defBody s_l_bag) (defScope s_l_bag) .none kV_l_bag dc_l_bag pm_l_bag an_l_bag cd_l_bag ct_l_bag),sl_l_bag⟩)(c_l_bag:PySem.W.codeIn K cd_l_bag "_law_bag" = true)(k_l_bag:PySem.W.keepIn K (.ref f_l_bag)=true)
  {f_l_take:Addr}{oc_l_take kV_l_take dc_l_take pm_l_take cd_l_take ct_l_take:Value}{od_l_take an_l_take:Option Addr}{sl_l_take:Array (Option Value)}
  (a_l_take:PySem.W.nsIn K mainGlobals "_law_take" = some (some (.ref f_l_take)))(l_l_take:K.lookup f_l_take=some ⟨oc_l_take,od_l_take,.func (PySem.W.fnOf "_law_take" "_law_take" (defArgs s_l_take) (defBody s_l_take) (defScope s_l_take) .none kV_l_take dc_l_take pm_l_take an_l_take cd_l_take ct_l_take),sl_l_take⟩)(c_l_take:PySem.W.codeIn K cd_l_take "_law_take" = true)(k_l_take:PySem.W.keepIn K (.ref f_l_take)=true)
  {f_l_words:Addr}{oc_l_words kV_l_words dc_l_words pm_l_words cd_l_words ct_l_words:Value}{od_l_words an_l_words:Option Addr}{sl_l_words:Array (Option Value)}
  (a_l_words:PySem.W.nsIn K mainGlobals "_law_words" = some (some (.ref f_l_words)))(l_l_words:K.lookup f_l_words=some ⟨oc_l_words,od_l_words,.func (PySem.W.fnOf "_law_words" "_law_words" (defArgs s_l_words) (defBody s_l_words) (defScope s_l_words) .none kV_l_words dc_l_words pm_l_words an_l_words cd_l_words ct_l_words),sl_l_words⟩)(c_l_words:PySem.W.codeIn K cd_l_words "_law_words" = true)(k_l_words:PySem.W.keepIn K (.ref f_l_words)=true)
  {f_l_spoilt:Addr}{oc_l_spoilt kV_l_spoilt dc_l_spoilt pm_l_spoilt cd_l_spoilt ct_l_spoilt:Value}{od_l_spoilt an_l_spoilt:Option Addr}{sl_l_spoilt:Array (Option Value)}
  (a_l_spoilt:PySem.W.nsIn K mainGlobals "_law_spoilt" = some (some (.ref f_l_spoilt)))(l_l_spoilt:K.lookup f_l_spoilt=some ⟨oc_l_spoilt,od_l_spoilt,.func (PySem.W.fnOf "_law_spoilt" "_law_spoilt" (defArgs s_l_spoilt) (defBody s_l_spoilt) (defScope s_l_spoilt) .none kV_l_spoilt dc_l_spoilt pm_l_spoilt an_l_spoilt cd_l_spoilt ct_l_spoilt),sl_l_spoilt⟩)(c_l_spoilt:PySem.W.codeIn K cd_l_spoilt "_law_spoilt" = true)(k_l_spoilt:PySem.W.keepIn K (.ref f_l_spoilt)=true)
  {f_BadName_init:Addr}{oc_BadName_init kV_BadName_init dc_BadName_init pm_BadName_init cd_BadName_init ct_BadName_init:Value}{od_BadName_init an_BadName_init:Option Addr}{sl_BadName_init:Array (Option Value)}
  (a_BadName_init:PySem.W.findIn K (.ref C_BadName) "__init__" = some (some (.ref f_BadName_init)))(i_BadName_init:PySem.W.typeIn K (.ref f_BadName_init)=some (.type "function"))(l_BadName_init:K.lookup f_BadName_init=some ⟨oc_BadName_init,od_BadName_init,.func (PySem.W.fnOf "__init__" "BadName.__init__" (defArgs s_BadName_init) (defBody s_BadName_init) (defScope s_BadName_init) .none kV_BadName_init dc_BadName_init pm_BadName_init an_BadName_init cd_BadName_init ct_BadName_init),sl_BadName_init⟩)(c_BadName_init:PySem.W.codeIn K cd_BadName_init "BadName.__init__" = true)(k_BadName_init:PySem.W.keepIn K (.ref f_BadName_init)=true)
  (xm_BadName_init:XO.xmk K C_BadName=true)(xt_BadName_init:PySem.W.typeIn K (.ref C_BadName)=some (.type "type"))(xk_BadName_init:PySem.W.keepIn K (.ref C_BadName)=true)
  {f_is_word:Addr}{oc_is_word kV_is_word dc_is_word pm_is_word cd_is_word ct_is_word:Value}{od_is_word an_is_word:Option Addr}{sl_is_word:Array (Option Value)}
  (a_is_word:PySem.W.nsIn K mainGlobals "is_word" = some (some (.ref f_is_word)))(l_is_word:K.lookup f_is_word=some ⟨oc_is_word,od_is_word,.func (PySem.W.fnOf "is_word" "is_word" (defArgs s_is_word) (defBody s_is_word) (defScope s_is_word) .none kV_is_word dc_is_word pm_is_word an_is_word cd_is_word ct_is_word),sl_is_word⟩)(c_is_word:PySem.W.codeIn K cd_is_word "is_word" = true)(k_is_word:PySem.W.keepIn K (.ref f_is_word)=true)
  {f_refuse_names:Addr}{oc_refuse_names kV_refuse_names dc_refuse_names pm_refuse_names cd_refuse_names ct_refuse_names:Value}{od_refuse_names an_refuse_names:Option Addr}{sl_refuse_names:Array (Option Value)}
  (a_refuse_names:PySem.W.nsIn K mainGlobals "refuse_names" = some (some (.ref f_refuse_names)))(l_refuse_names:K.lookup f_refuse_names=some ⟨oc_refuse_names,od_refuse_names,.func (PySem.W.fnOf "refuse_names" "refuse_names" (defArgs s_refuse_names) (defBody s_refuse_names) (defScope s_refuse_names) .none kV_refuse_names dc_refuse_names pm_refuse_names an_refuse_names cd_refuse_names ct_refuse_names),sl_refuse_names⟩)(c_refuse_names:PySem.W.codeIn K cd_refuse_names "refuse_names" = true)(k_refuse_names:PySem.W.keepIn K (.ref f_refuse_names)=true)
  {f_Book_init:Addr}{oc_Book_init kV_Book_init dc_Book_init pm_Book_init cd_Book_init ct_Book_init:Value}{od_Book_init an_Book_init:Option Addr}{sl_Book_init:Array (Option Value)}
  (a_Book_init:PySem.W.findIn K (.ref C_Book) "__init__" = some (some (.ref f_Book_init)))(i_Book_init:PySem.W.isFn K (.ref f_Book_init)=true)(l_Book_init:K.lookup f_Book_init=some ⟨oc_Book_init,od_Book_init,.func (PySem.W.fnOf "__init__" "Book.__init__" (defArgs s_Book_init) (defBody s_Book_init) (defScope s_Book_init) .none kV_Book_init dc_Book_init pm_Book_init an_Book_init cd_Book_init ct_Book_init),sl_Book_init⟩)(c_Book_init:PySem.W.codeIn K cd_Book_init "Book.__init__" = true)(k_Book_init:PySem.W.keepIn K (.ref f_Book_init)=true)
  {f_l_told:Addr}{oc_l_told kV_l_told dc_l_told pm_l_told cd_l_told ct_l_told:Value}{od_l_told an_l_told:Option Addr}{sl_l_told:Array (Option Value)}
  (a_l_told:PySem.W.nsIn K mainGlobals "_law_told" = some (some (.ref f_l_told)))(l_l_told:K.lookup f_l_told=some ⟨oc_l_told,od_l_told,.func (PySem.W.fnOf "_law_told" "_law_told" (defArgs s_l_told) (defBody s_l_told) (defScope s_l_told) .none kV_l_told dc_l_told pm_l_told an_l_told cd_l_told ct_l_told),sl_l_told⟩)(c_l_told:PySem.W.codeIn K cd_l_told "_law_told" = true)(k_l_told:PySem.W.keepIn K (.ref f_l_told)=true)
  {f_l_is_word:Addr}{oc_l_is_word kV_l_is_word dc_l_is_word pm_l_is_word cd_l_is_word ct_l_is_word:Value}{od_l_is_word an_l_is_word:Option Addr}{sl_l_is_word:Array (Option Value)}
  (a_l_is_word:PySem.W.nsIn K mainGlobals "_law_is_word" = some (some (.ref f_l_is_word)))(l_l_is_word:K.lookup f_l_is_word=some ⟨oc_l_is_word,od_l_is_word,.func (PySem.W.fnOf "_law_is_word" "_law_is_word" (defArgs s_l_is_word) (defBody s_l_is_word) (defScope s_l_is_word) .none kV_l_is_word dc_l_is_word pm_l_is_word an_l_is_word cd_l_is_word ct_l_is_word),sl_l_is_word⟩)(c_l_is_word:PySem.W.codeIn K cd_l_is_word "_law_is_word" = true)(k_l_is_word:PySem.W.keepIn K (.ref f_l_is_word)=true)
  {f_l_due:Addr}{oc_l_due kV_l_due dc_l_due pm_l_due cd_l_due ct_l_due:Value}{od_l_due an_l_due:Option Addr}{sl_l_due:Array (Option Value)}
  (a_l_due:PySem.W.nsIn K mainGlobals "_law_due" = some (some (.ref f_l_due)))(l_l_due:K.lookup f_l_due=some ⟨oc_l_due,od_l_due,.func (PySem.W.fnOf "_law_due" "_law_due" (defArgs s_l_due) (defBody s_l_due) (defScope s_l_due) .none kV_l_due dc_l_due pm_l_due an_l_due cd_l_due ct_l_due),sl_l_due⟩)(c_l_due:PySem.W.codeIn K cd_l_due "_law_due" = true)(k_l_due:PySem.W.keepIn K (.ref f_l_due)=true)
  {f_Book_machines:Addr}{oc_Book_machines kV_Book_machines dc_Book_machines pm_Book_machines cd_Book_machines ct_Book_machines:Value}{od_Book_machines an_Book_machines:Option Addr}{sl_Book_machines:Array (Option Value)}
  (a_Book_machines:PySem.W.findIn K (.ref C_Book) "machines" = some (some (.ref f_Book_machines)))(i_Book_machines:PySem.W.isFn K (.ref f_Book_machines)=true)(l_Book_machines:K.lookup f_Book_machines=some ⟨oc_Book_machines,od_Book_machines,.func (PySem.W.fnOf "machines" "Book.machines" (defArgs s_Book_machines) (defBody s_Book_machines) (defScope s_Book_machines) .none kV_Book_machines dc_Book_machines pm_Book_machines an_Book_machines cd_Book_machines ct_Book_machines),sl_Book_machines⟩)(c_Book_machines:PySem.W.codeIn K cd_Book_machines "Book.machines" = true)(k_Book_machines:PySem.W.keepIn K (.ref f_Book_machines)=true)
  {f_Book_groups:Addr}{oc_Book_groups kV_Book_groups dc_Book_groups pm_Book_groups cd_Book_groups ct_Book_groups:Value}{od_Book_groups an_Book_groups:Option Addr}{sl_Book_groups:Array (Option Value)}
  (a_Book_groups:PySem.W.findIn K (.ref C_Book) "groups" = some (some (.ref f_Book_groups)))(i_Book_groups:PySem.W.isFn K (.ref f_Book_groups)=true)(l_Book_groups:K.lookup f_Book_groups=some ⟨oc_Book_groups,od_Book_groups,.func (PySem.W.fnOf "groups" "Book.groups" (defArgs s_Book_groups) (defBody s_Book_groups) (defScope s_Book_groups) .none kV_Book_groups dc_Book_groups pm_Book_groups an_Book_groups cd_Book_groups ct_Book_groups),sl_Book_groups⟩)(c_Book_groups:PySem.W.codeIn K cd_Book_groups "Book.groups" = true)(k_Book_groups:PySem.W.keepIn K (.ref f_Book_groups)=true)
  {f_Book_wishes:Addr}{oc_Book_wishes kV_Book_wishes dc_Book_wishes pm_Book_wishes cd_Book_wishes ct_Book_wishes:Value}{od_Book_wishes an_Book_wishes:Option Addr}{sl_Book_wishes:Array (Option Value)}
  (a_Book_wishes:PySem.W.findIn K (.ref C_Book) "wishes" = some (some (.ref f_Book_wishes)))(i_Book_wishes:PySem.W.isFn K (.ref f_Book_wishes)=true)(l_Book_wishes:K.lookup f_Book_wishes=some ⟨oc_Book_wishes,od_Book_wishes,.func (PySem.W.fnOf "wishes" "Book.wishes" (defArgs s_Book_wishes) (defBody s_Book_wishes) (defScope s_Book_wishes) .none kV_Book_wishes dc_Book_wishes pm_Book_wishes an_Book_wishes cd_Book_wishes ct_Book_wishes),sl_Book_wishes⟩)(c_Book_wishes:PySem.W.codeIn K cd_Book_wishes "Book.wishes" = true)(k_Book_wishes:PySem.W.keepIn K (.ref f_Book_wishes)=true)
  {f_Book_stores:Addr}{oc_Book_stores kV_Book_stores dc_Book_stores pm_Book_stores cd_Book_stores ct_Book_stores:Value}{od_Book_stores an_Book_stores:Option Addr}{sl_Book_stores:Array (Option Value)}
  (a_Book_stores:PySem.W.findIn K (.ref C_Book) "stores" = some (some (.ref f_Book_stores)))(i_Book_stores:PySem.W.isFn K (.ref f_Book_stores)=true)(l_Book_stores:K.lookup f_Book_stores=some ⟨oc_Book_stores,od_Book_stores,.func (PySem.W.fnOf "stores" "Book.stores" (defArgs s_Book_stores) (defBody s_Book_stores) (defScope s_Book_stores) .none kV_Book_stores dc_Book_stores pm_Book_stores an_Book_stores cd_Book_stores ct_Book_stores),sl_Book_stores⟩)(c_Book_stores:PySem.W.codeIn K cd_Book_stores "Book.stores" = true)(k_Book_stores:PySem.W.keepIn K (.ref f_Book_stores)=true)
  {f_Book_doors:Addr}{oc_Book_doors kV_Book_doors dc_Book_doors pm_Book_doors cd_Book_doors ct_Book_doors:Value}{od_Book_doors an_Book_doors:Option Addr}{sl_Book_doors:Array (Option Value)}
  (a_Book_doors:PySem.W.findIn K (.ref C_Book) "doors" = some (some (.ref f_Book_doors)))(i_Book_doors:PySem.W.isFn K (.ref f_Book_doors)=true)(l_Book_doors:K.lookup f_Book_doors=some ⟨oc_Book_doors,od_Book_doors,.func (PySem.W.fnOf "doors" "Book.doors" (defArgs s_Book_doors) (defBody s_Book_doors) (defScope s_Book_doors) .none kV_Book_doors dc_Book_doors pm_Book_doors an_Book_doors cd_Book_doors ct_Book_doors),sl_Book_doors⟩)(c_Book_doors:PySem.W.codeIn K cd_Book_doors "Book.doors" = true)(k_Book_doors:PySem.W.keepIn K (.ref f_Book_doors)=true)
  {f_Book_rules:Addr}{oc_Book_rules kV_Book_rules dc_Book_rules pm_Book_rules cd_Book_rules ct_Book_rules:Value}{od_Book_rules an_Book_rules:Option Addr}{sl_Book_rules:Array (Option Value)}
  (a_Book_rules:PySem.W.findIn K (.ref C_Book) "rules" = some (some (.ref f_Book_rules)))(i_Book_rules:PySem.W.isFn K (.ref f_Book_rules)=true)(l_Book_rules:K.lookup f_Book_rules=some ⟨oc_Book_rules,od_Book_rules,.func (PySem.W.fnOf "rules" "Book.rules" (defArgs s_Book_rules) (defBody s_Book_rules) (defScope s_Book_rules) .none kV_Book_rules dc_Book_rules pm_Book_rules an_Book_rules cd_Book_rules ct_Book_rules),sl_Book_rules⟩)(c_Book_rules:PySem.W.codeIn K cd_Book_rules "Book.rules" = true)(k_Book_rules:PySem.W.keepIn K (.ref f_Book_rules)=true)
  {f_Book_emptied:Addr}{oc_Book_emptied kV_Book_emptied dc_Book_emptied pm_Book_emptied cd_Book_emptied ct_Book_emptied:Value}{od_Book_emptied an_Book_emptied:Option Addr}{sl_Book_emptied:Array (Option Value)}
  (a_Book_emptied:PySem.W.findIn K (.ref C_Book) "emptied" = some (some (.ref f_Book_emptied)))(i_Book_emptied:PySem.W.isFn K (.ref f_Book_emptied)=true)(l_Book_emptied:K.lookup f_Book_emptied=some ⟨oc_Book_emptied,od_Book_emptied,.func (PySem.W.fnOf "emptied" "Book.emptied" (defArgs s_Book_emptied) (defBody s_Book_emptied) (defScope s_Book_emptied) .none kV_Book_emptied dc_Book_emptied pm_Book_emptied an_Book_emptied cd_Book_emptied ct_Book_emptied),sl_Book_emptied⟩)(c_Book_emptied:PySem.W.codeIn K cd_Book_emptied "Book.emptied" = true)(k_Book_emptied:PySem.W.keepIn K (.ref f_Book_emptied)=true)
  {f_Book_log:Addr}{oc_Book_log kV_Book_log dc_Book_log pm_Book_log cd_Book_log ct_Book_log:Value}{od_Book_log an_Book_log:Option Addr}{sl_Book_log:Array (Option Value)}
  (a_Book_log:PySem.W.findIn K (.ref C_Book) "log" = some (some (.ref f_Book_log)))(i_Book_log:PySem.W.isFn K (.ref f_Book_log)=true)(l_Book_log:K.lookup f_Book_log=some ⟨oc_Book_log,od_Book_log,.func (PySem.W.fnOf "log" "Book.log" (defArgs s_Book_log) (defBody s_Book_log) (defScope s_Book_log) .none kV_Book_log dc_Book_log pm_Book_log an_Book_log cd_Book_log ct_Book_log),sl_Book_log⟩)(c_Book_log:PySem.W.codeIn K cd_Book_log "Book.log" = true)(k_Book_log:PySem.W.keepIn K (.ref f_Book_log)=true)
  {f_l_nothing:Addr}{oc_l_nothing kV_l_nothing dc_l_nothing pm_l_nothing cd_l_nothing ct_l_nothing:Value}{od_l_nothing an_l_nothing:Option Addr}{sl_l_nothing:Array (Option Value)}
  (a_l_nothing:PySem.W.nsIn K mainGlobals "_law_nothing" = some (some (.ref f_l_nothing)))(l_l_nothing:K.lookup f_l_nothing=some ⟨oc_l_nothing,od_l_nothing,.func (PySem.W.fnOf "_law_nothing" "_law_nothing" (defArgs s_l_nothing) (defBody s_l_nothing) (defScope s_l_nothing) .none kV_l_nothing dc_l_nothing pm_l_nothing an_l_nothing cd_l_nothing ct_l_nothing),sl_l_nothing⟩)(c_l_nothing:PySem.W.codeIn K cd_l_nothing "_law_nothing" = true)(k_l_nothing:PySem.W.keepIn K (.ref f_l_nothing)=true)
  {f_Unknown_init:Addr}{oc_Unknown_init kV_Unknown_init dc_Unknown_init pm_Unknown_init cd_Unknown_init ct_Unknown_init:Value}{od_Unknown_init an_Unknown_init:Option Addr}{sl_Unknown_init:Array (Option Value)}
  (a_Unknown_init:PySem.W.findIn K (.ref C_Unknown) "__init__" = some (some (.ref f_Unknown_init)))(i_Unknown_init:PySem.W.typeIn K (.ref f_Unknown_init)=some (.type "function"))(l_Unknown_init:K.lookup f_Unknown_init=some ⟨oc_Unknown_init,od_Unknown_init,.func (PySem.W.fnOf "__init__" "Unknown.__init__" (defArgs s_Unknown_init) (defBody s_Unknown_init) (defScope s_Unknown_init) .none kV_Unknown_init dc_Unknown_init pm_Unknown_init an_Unknown_init cd_Unknown_init ct_Unknown_init),sl_Unknown_init⟩)(c_Unknown_init:PySem.W.codeIn K cd_Unknown_init "Unknown.__init__" = true)(k_Unknown_init:PySem.W.keepIn K (.ref f_Unknown_init)=true)
  (xm_Unknown_init:XO.xmk K C_Unknown=true)(xt_Unknown_init:PySem.W.typeIn K (.ref C_Unknown)=some (.type "type"))(xk_Unknown_init:PySem.W.keepIn K (.ref C_Unknown)=true)
  {f_wish_copied:Addr}{oc_wish_copied kV_wish_copied dc_wish_copied pm_wish_copied cd_wish_copied ct_wish_copied:Value}{od_wish_copied an_wish_copied:Option Addr}{sl_wish_copied:Array (Option Value)}
  (a_wish_copied:PySem.W.nsIn K mainGlobals "wish_copied" = some (some (.ref f_wish_copied)))(l_wish_copied:K.lookup f_wish_copied=some ⟨oc_wish_copied,od_wish_copied,.func (PySem.W.fnOf "wish_copied" "wish_copied" (defArgs s_wish_copied) (defBody s_wish_copied) (defScope s_wish_copied) .none kV_wish_copied dc_wish_copied pm_wish_copied an_wish_copied cd_wish_copied ct_wish_copied),sl_wish_copied⟩)(c_wish_copied:PySem.W.codeIn K cd_wish_copied "wish_copied" = true)(k_wish_copied:PySem.W.keepIn K (.ref f_wish_copied)=true)
  {f_Book_wish:Addr}{oc_Book_wish kV_Book_wish dc_Book_wish pm_Book_wish cd_Book_wish ct_Book_wish:Value}{od_Book_wish an_Book_wish:Option Addr}{sl_Book_wish:Array (Option Value)}
  (a_Book_wish:PySem.W.findIn K (.ref C_Book) "wish" = some (some (.ref f_Book_wish)))(i_Book_wish:PySem.W.isFn K (.ref f_Book_wish)=true)(l_Book_wish:K.lookup f_Book_wish=some ⟨oc_Book_wish,od_Book_wish,.func (PySem.W.fnOf "wish" "Book.wish" (defArgs s_Book_wish) (defBody s_Book_wish) (defScope s_Book_wish) .none kV_Book_wish dc_Book_wish pm_Book_wish an_Book_wish cd_Book_wish ct_Book_wish),sl_Book_wish⟩)(c_Book_wish:PySem.W.codeIn K cd_Book_wish "Book.wish" = true)(k_Book_wish:PySem.W.keepIn K (.ref f_Book_wish)=true)
  {f_l_unknown:Addr}{oc_l_unknown kV_l_unknown dc_l_unknown pm_l_unknown cd_l_unknown ct_l_unknown:Value}{od_l_unknown an_l_unknown:Option Addr}{sl_l_unknown:Array (Option Value)}
  (a_l_unknown:PySem.W.nsIn K mainGlobals "_law_unknown" = some (some (.ref f_l_unknown)))(l_l_unknown:K.lookup f_l_unknown=some ⟨oc_l_unknown,od_l_unknown,.func (PySem.W.fnOf "_law_unknown" "_law_unknown" (defArgs s_l_unknown) (defBody s_l_unknown) (defScope s_l_unknown) .none kV_l_unknown dc_l_unknown pm_l_unknown an_l_unknown cd_l_unknown ct_l_unknown),sl_l_unknown⟩)(c_l_unknown:PySem.W.codeIn K cd_l_unknown "_law_unknown" = true)(k_l_unknown:PySem.W.keepIn K (.ref f_l_unknown)=true)
  {f_law:Addr}{oc_law kV_law dc_law pm_law cd_law ct_law:Value}{od_law an_law:Option Addr}{sl_law:Array (Option Value)}
  (a_law:PySem.W.nsIn K mainGlobals "law" = some (some (.ref f_law)))(l_law:K.lookup f_law=some ⟨oc_law,od_law,.func (PySem.W.fnOf "law" "law" (defArgs s_law) (defBody s_law) (defScope s_law) .none kV_law dc_law pm_law an_law cd_law ct_law),sl_law⟩)(c_law:PySem.W.codeIn K cd_law "law" = true)(k_law:PySem.W.keepIn K (.ref f_law)=true)
  (aC_Book:PySem.W.nsIn K mainGlobals "Book" = some (some (.ref C_Book)))(pg_Book:PySem.W.plainGet K C_Book Str.empty=true)(hd_Book:PySem.W.hasDictIn K C_Book=true)(po_Book:PySem.W.plainOver K C_Book=true)(sa_Book:PySem.W.findIn K (.ref C_Book) "__setattr__" = some (some (.builtin "object.__setattr__")))(mk_Book:PySem.W.makesIn K C_Book=true)(kc_Book:PySem.W.keepIn K (.ref C_Book)=true)
  (xg_BadName:PySem.W.nsIn K mainGlobals "BadName" = some (some (.ref C_BadName)))
  (xg_BadRow:PySem.W.nsIn K mainGlobals "BadRow" = some (some (.ref C_BadRow)))
  (xg_NoRow:PySem.W.nsIn K mainGlobals "NoRow" = some (some (.ref C_NoRow)))
  (xg_PlaceError:PySem.W.nsIn K mainGlobals "PlaceError" = some (some (.ref C_PlaceError)))
  (xg_Unknown:PySem.W.nsIn K mainGlobals "Unknown" = some (some (.ref C_Unknown)))
  (xg1:PySem.W.specialIn K (.builtin "object.__class__") "__get__" = some (some (.builtin "getset_descriptor.__get__")))(xg2:PySem.W.takesIn K (.builtin "object.__class__")=some true)
  (x1_BadName:XO.xcls K C_BadName=true)(x2_BadName:PySem.W.findIn K (.ref C_BadName) "__setattr__" = some (some (.builtin "object.__setattr__")))(x3_BadName:PySem.W.findIn K (.ref C_BadName) "__getattribute__" = some (some (.builtin "BaseException.__getattribute__")))(x4_BadName:PySem.W.findIn K (.ref C_BadName) "__getattr__" = some none)(x5_BadName:PySem.W.findIn K (.ref C_BadName) "__class__" = some (some (.builtin "object.__class__")))
  (x1_Unknown:XO.xcls K C_Unknown=true)(x2_Unknown:PySem.W.findIn K (.ref C_Unknown) "__setattr__" = some (some (.builtin "object.__setattr__")))(x3_Unknown:PySem.W.findIn K (.ref C_Unknown) "__getattribute__" = some (some (.builtin "BaseException.__getattribute__")))(x4_Unknown:PySem.W.findIn K (.ref C_Unknown) "__getattr__" = some none)(x5_Unknown:PySem.W.findIn K (.ref C_Unknown) "__class__" = some (some (.builtin "object.__class__")))
  (xf_e_BadName_BadName:PySem.W.exmOne K (.ref C_BadName) (.ref C_BadName)=some true)
  (xf_e_Unknown_Unknown:PySem.W.exmOne K (.ref C_Unknown) (.ref C_Unknown)=some true)
  (xf_i_BadName_BadRow_NoRow:PySem.W.kitAny K (.ref C_BadName) [.ref C_BadRow,.ref C_NoRow]=some false)
  (xf_i_BadName_PlaceError:PySem.W.kitAny K (.ref C_BadName) [.ref C_PlaceError]=some true)
  (xf_i_BadName_ValueError:PySem.W.kitAny K (.ref C_BadName) [.type "ValueError"]=some true)
  (n_BadName_at:PySem.W.findIn K (.ref C_BadName) "at" = some none)
  (n_Book_done:PySem.W.findIn K (.ref C_Book) "done" = some none)
  (n_Book_emptied_names:PySem.W.findIn K (.ref C_Book) "emptied_names" = some none)
  (n_Book_ended:PySem.W.findIn K (.ref C_Book) "ended" = some none)
  (n_Book_machine_names:PySem.W.findIn K (.ref C_Book) "machine_names" = some none)
  (n_Book_ranked:PySem.W.findIn K (.ref C_Book) "ranked" = some none)
  (n_Book_told_rows:PySem.W.findIn K (.ref C_Book) "told_rows" = some none)
  (n_Book_wished:PySem.W.findIn K (.ref C_Book) "wished" = some none)
  (n_Unknown_name:PySem.W.findIn K (.ref C_Unknown) "name" = some none)
  (b_ValueError:PySem.W.nsIn K mainGlobals "ValueError" = some none)
  (b_abs:PySem.W.nsIn K mainGlobals "abs" = some none)
  (b_all:PySem.W.nsIn K mainGlobals "all" = some none)
  (b_dict:PySem.W.nsIn K mainGlobals "dict" = some none)
  (b_enumerate:PySem.W.nsIn K mainGlobals "enumerate" = some none)
  (b_isinstance:PySem.W.nsIn K mainGlobals "isinstance" = some none)
  (b_len:PySem.W.nsIn K mainGlobals "len" = some none)
  (b_list:PySem.W.nsIn K mainGlobals "list" = some none)
  (b_range:PySem.W.nsIn K mainGlobals "range" = some none)
  (b_repr:PySem.W.nsIn K mainGlobals "repr" = some none)
  (b_sorted:PySem.W.nsIn K mainGlobals "sorted" = some none)
  (b_str:PySem.W.nsIn K mainGlobals "str" = some none)
  (b_tuple:PySem.W.nsIn K mainGlobals "tuple" = some none)
  {t_LONGEST_WORD:Tok}(g_LONGEST_WORD:PySem.W.nsIn K mainGlobals "LONGEST_WORD" = some (some (.int 8 t_LONGEST_WORD)))
  {t_MOST_MACHINES:Tok}(g_MOST_MACHINES:PySem.W.nsIn K mainGlobals "MOST_MACHINES" = some (some (.int 8 t_MOST_MACHINES))) :
  ∃ fd:FuncData,(∀ (s:Shared) (v:Value),BindsTo s fd ⟨[v],[]⟩ [("_law_script",v)])/\∀ base:Heap,K.In base->base.Ns mainGlobals mg->FnOk l.prog w K mg base CX0 7 fa fd ["_law_script"] (upSp K sp_law):=by
 have e:=hfa.symm.trans (PySem.W.mg_of X G a_law)
 cases e
 have E:Env K mg:=⟨⟨pg_Book,hd_Book,po_Book,sa_Book⟩,PySem.W.mg_of X G aC_Book,PySem.W.mg_of X G xg_BadName,PySem.W.mg_of X G xg_BadRow,PySem.W.mg_of X G xg_NoRow,PySem.W.mg_of X G xg_PlaceError,PySem.W.mg_of X G xg_Unknown,⟨x1_BadName,x2_BadName,x3_BadName,x4_BadName,x5_BadName,xg1,xg2⟩,⟨x1_Unknown,x2_Unknown,x3_Unknown,x4_Unknown,x5_Unknown,xg1,xg2⟩,xf_e_BadName_BadName,xf_e_Unknown_Unknown,xf_i_BadName_BadRow_NoRow,xf_i_BadName_PlaceError,xf_i_BadName_ValueError,n_BadName_at,n_Book_done,n_Book_emptied_names,n_Book_ended,n_Book_machine_names,n_Book_ranked,n_Book_told_rows,n_Book_wished,n_Unknown_name,PySem.W.mg_none_of X G b_ValueError,PySem.W.mg_none_of X G b_abs,PySem.W.mg_none_of X G b_all,PySem.W.mg_none_of X G b_dict,PySem.W.mg_none_of X G b_enumerate,PySem.W.mg_none_of X G b_isinstance,PySem.W.mg_none_of X G b_len,PySem.W.mg_none_of X G b_list,PySem.W.mg_none_of X G b_range,PySem.W.mg_none_of X G b_repr,PySem.W.mg_none_of X G b_sorted,PySem.W.mg_none_of X G b_str,PySem.W.mg_none_of X G b_tuple,⟨_,PySem.W.mg_of X G g_LONGEST_WORD⟩,⟨_,PySem.W.mg_of X G g_MOST_MACHINES⟩⟩
 have G_l_bag:Fn K mg "_law_bag" s_l_bag ["_law_script"] _ _:=fn_mk X G a_l_bag l_l_bag c_l_bag k_l_bag (λ _ _ _ _ _ _ us hl=>by obtain ⟨_,rfl⟩:=D.len_1 hl; rfl)
 have G_l_take:Fn K mg "_law_take" s_l_take ["_law_bag_here", "_law_many"] _ _:=fn_mk X G a_l_take l_l_take c_l_take k_l_take (λ _ _ _ _ _ _ us hl=>by obtain ⟨_,_,rfl⟩:=D.len_2 hl; rfl)
 have G_l_words:Fn K mg "_law_words" s_l_words ["_law_bag_here", "_law_many"] _ _:=fn_mk X G a_l_words l_l_words c_l_words k_l_words (λ _ _ _ _ _ _ us hl=>by obtain ⟨_,_,rfl⟩:=D.len_2 hl; rfl)
 have G_l_spoilt:Fn K mg "_law_spoilt" s_l_spoilt ["_law_bag_here", "_law_names"] _ _:=fn_mk X G a_l_spoilt l_l_spoilt c_l_spoilt k_l_spoilt (λ _ _ _ _ _ _ us hl=>by obtain ⟨_,_,rfl⟩:=D.len_2 hl; rfl)
 have G_BadName_init:Xi K C_BadName "BadName.__init__" s_BadName_init ["self", "at"] _ _:=xi_mk E.x_BadName a_BadName_init i_BadName_init l_BadName_init c_BadName_init k_BadName_init xm_BadName_init xt_BadName_init xk_BadName_init (λ _ _ _ _ _ _ us hl=>by obtain ⟨_,_,rfl⟩:=D.len_2 hl; rfl)
 have G_is_word:Fn K mg "is_word" s_is_word ["thing"] _ _:=fn_mk X G a_is_word l_is_word c_is_word k_is_word (λ _ _ _ _ _ _ us hl=>by obtain ⟨_,rfl⟩:=D.len_1 hl; rfl)
 have G_refuse_names:Fn K mg "refuse_names" s_refuse_names ["names"] _ _:=fn_mk X G a_refuse_names l_refuse_names c_refuse_names k_refuse_names (λ _ _ _ _ _ _ us hl=>by obtain ⟨_,rfl⟩:=D.len_1 hl; rfl)
 have G_Book_init:Mi K C_Book "Book.__init__" s_Book_init ["self", "machines"] _ _:=mi_mk a_Book_init i_Book_init l_Book_init c_Book_init k_Book_init mk_Book kc_Book (λ _ _ _ _ _ _ us hl=>by obtain ⟨_,_,rfl⟩:=D.len_2 hl; rfl)
 have G_l_told:Fn K mg "_law_told" s_l_told ["_law_names"] _ _:=fn_mk X G a_l_told l_l_told c_l_told k_l_told (λ _ _ _ _ _ _ us hl=>by obtain ⟨_,rfl⟩:=D.len_1 hl; rfl)
 have G_l_is_word:Fn K mg "_law_is_word" s_l_is_word ["_law_thing"] _ _:=fn_mk X G a_l_is_word l_l_is_word c_l_is_word k_l_is_word (λ _ _ _ _ _ _ us hl=>by obtain ⟨_,rfl⟩:=D.len_1 hl; rfl)
 have G_l_due:Fn K mg "_law_due" s_l_due ["_law_names"] _ _:=fn_mk X G a_l_due l_l_due c_l_due k_l_due (λ _ _ _ _ _ _ us hl=>by obtain ⟨_,rfl⟩:=D.len_1 hl; rfl)
 have G_Book_machines:Mf K C_Book "machines" "Book.machines" s_Book_machines ["self"] _ _:=mf_mk a_Book_machines i_Book_machines l_Book_machines c_Book_machines k_Book_machines (λ _ _ _ _ _ _ us hl=>by obtain ⟨_,rfl⟩:=D.len_1 hl; rfl)
 have G_Book_groups:Mf K C_Book "groups" "Book.groups" s_Book_groups ["self"] _ _:=mf_mk a_Book_groups i_Book_groups l_Book_groups c_Book_groups k_Book_groups (λ _ _ _ _ _ _ us hl=>by obtain ⟨_,rfl⟩:=D.len_1 hl; rfl)
 have G_Book_wishes:Mf K C_Book "wishes" "Book.wishes" s_Book_wishes ["self"] _ _:=mf_mk a_Book_wishes i_Book_wishes l_Book_wishes c_Book_wishes k_Book_wishes (λ _ _ _ _ _ _ us hl=>by obtain ⟨_,rfl⟩:=D.len_1 hl; rfl)
 have G_Book_stores:Mf K C_Book "stores" "Book.stores" s_Book_stores ["self"] _ _:=mf_mk a_Book_stores i_Book_stores l_Book_stores c_Book_stores k_Book_stores (λ _ _ _ _ _ _ us hl=>by obtain ⟨_,rfl⟩:=D.len_1 hl; rfl)
 have G_Book_doors:Mf K C_Book "doors" "Book.doors" s_Book_doors ["self"] _ _:=mf_mk a_Book_doors i_Book_doors l_Book_doors c_Book_doors k_Book_doors (λ _ _ _ _ _ _ us hl=>by obtain ⟨_,rfl⟩:=D.len_1 hl; rfl)
 have G_Book_rules:Mf K C_Book "rules" "Book.rules" s_Book_rules ["self"] _ _:=mf_mk a_Book_rules i_Book_rules l_Book_rules c_Book_rules k_Book_rules (λ _ _ _ _ _ _ us hl=>by obtain ⟨_,rfl⟩:=D.len_1 hl; rfl)
 have G_Book_emptied:Mf K C_Book "emptied" "Book.emptied" s_Book_emptied ["self"] _ _:=mf_mk a_Book_emptied i_Book_emptied l_Book_emptied c_Book_emptied k_Book_emptied (λ _ _ _ _ _ _ us hl=>by obtain ⟨_,rfl⟩:=D.len_1 hl; rfl)
 have G_Book_log:Mf K C_Book "log" "Book.log" s_Book_log ["self"] _ _:=mf_mk a_Book_log i_Book_log l_Book_log c_Book_log k_Book_log (λ _ _ _ _ _ _ us hl=>by obtain ⟨_,rfl⟩:=D.len_1 hl; rfl)
 have G_l_nothing:Fn K mg "_law_nothing" s_l_nothing ["_law_some"] _ _:=fn_mk X G a_l_nothing l_l_nothing c_l_nothing k_l_nothing (λ _ _ _ _ _ _ us hl=>by obtain ⟨_,rfl⟩:=D.len_1 hl; rfl)
 have G_Unknown_init:Xi K C_Unknown "Unknown.__init__" s_Unknown_init ["self", "name"] _ _:=xi_mk E.x_Unknown a_Unknown_init i_Unknown_init l_Unknown_init c_Unknown_init k_Unknown_init xm_Unknown_init xt_Unknown_init xk_Unknown_init (λ _ _ _ _ _ _ us hl=>by obtain ⟨_,_,rfl⟩:=D.len_2 hl; rfl)
 have G_wish_copied:Fn K mg "wish_copied" s_wish_copied ["wish"] _ _:=fn_mk X G a_wish_copied l_wish_copied c_wish_copied k_wish_copied (λ _ _ _ _ _ _ us hl=>by obtain ⟨_,rfl⟩:=D.len_1 hl; rfl)
 have G_Book_wish:Mf K C_Book "wish" "Book.wish" s_Book_wish ["self", "name"] _ _:=mf_mk a_Book_wish i_Book_wish l_Book_wish c_Book_wish k_Book_wish (λ _ _ _ _ _ _ us hl=>by obtain ⟨_,_,rfl⟩:=D.len_2 hl; rfl)
 have G_l_unknown:Fn K mg "_law_unknown" s_l_unknown ["_law_some", "_law_name"] _ _:=fn_mk X G a_l_unknown l_l_unknown c_l_unknown k_l_unknown (λ _ _ _ _ _ _ us hl=>by obtain ⟨_,_,rfl⟩:=D.len_2 hl; rfl)
 have G_law:Fn K mg "law" s_law ["_law_script"] _ _:=fn_mk X G a_law l_law c_law k_law (λ _ _ _ _ _ _ us hl=>by obtain ⟨_,rfl⟩:=D.len_1 hl; rfl)
 refine ⟨PySem.W.fnOf "law" "law" (defArgs s_law) (defBody s_law) (defScope s_law) .none kV_law dc_law pm_law an_law cd_law ct_law,λ s v=>.of_eq rfl,λ base _ _=>?_⟩
 have O_l_bag:=ok_l_bag (P:=l.prog) (w:=w) (base:=base) E G_l_bag
 have O_l_take:=ok_l_take (P:=l.prog) (w:=w) (base:=base) E G_l_take
 have O_l_words:=ok_l_words (P:=l.prog) (w:=w) (base:=base) E G_l_words G_l_take O_l_take
 have O_l_spoilt:=ok_l_spoilt (P:=l.prog) (w:=w) (base:=base) E G_l_spoilt G_l_take O_l_take
 have O_BadName_init:=ok_BadName_init (P:=l.prog) (w:=w) (base:=base) E G_BadName_init
 have O_is_word:=ok_is_word (P:=l.prog) (w:=w) (base:=base) E G_is_word
 have O_refuse_names:=ok_refuse_names (P:=l.prog) (w:=w) (base:=base) E G_refuse_names G_BadName_init O_BadName_init G_is_word O_is_word
 have O_Book_init:=ok_Book_init (P:=l.prog) (w:=w) (base:=base) E G_Book_init G_refuse_names O_refuse_names
 have O_l_told:=ok_l_told (P:=l.prog) (w:=w) (base:=base) E G_l_told G_Book_init O_Book_init
 have O_l_is_word:=ok_l_is_word (P:=l.prog) (w:=w) (base:=base) E G_l_is_word
 have O_l_due:=ok_l_due (P:=l.prog) (w:=w) (base:=base) E G_l_due G_l_is_word O_l_is_word
 have O_Book_machines:=ok_Book_machines (P:=l.prog) (w:=w) (base:=base) E G_Book_machines
 have O_Book_groups:=ok_Book_groups (P:=l.prog) (w:=w) (base:=base) E G_Book_groups
 have O_Book_wishes:=ok_Book_wishes (P:=l.prog) (w:=w) (base:=base) E G_Book_wishes
 have O_Book_stores:=ok_Book_stores (P:=l.prog) (w:=w) (base:=base) E G_Book_stores
 have O_Book_doors:=ok_Book_doors (P:=l.prog) (w:=w) (base:=base) E G_Book_doors
 have O_Book_rules:=ok_Book_rules (P:=l.prog) (w:=w) (base:=base) E G_Book_rules
 have O_Book_emptied:=ok_Book_emptied (P:=l.prog) (w:=w) (base:=base) E G_Book_emptied
 have O_Book_log:=ok_Book_log (P:=l.prog) (w:=w) (base:=base) E G_Book_log
 have O_l_nothing:=ok_l_nothing (P:=l.prog) (w:=w) (base:=base) E G_l_nothing G_Book_groups O_Book_groups G_Book_wishes O_Book_wishes G_Book_stores O_Book_stores G_Book_doors O_Book_doors G_Book_rules O_Book_rules G_Book_emptied O_Book_emptied G_Book_log O_Book_log
 have O_Unknown_init:=ok_Unknown_init (P:=l.prog) (w:=w) (base:=base) E G_Unknown_init
 have O_wish_copied:=ok_wish_copied (P:=l.prog) (w:=w) (base:=base) E G_wish_copied
 have O_Book_wish:=ok_Book_wish (P:=l.prog) (w:=w) (base:=base) E G_Book_wish G_is_word O_is_word G_Unknown_init O_Unknown_init G_wish_copied O_wish_copied
 have O_l_unknown:=ok_l_unknown (P:=l.prog) (w:=w) (base:=base) E G_l_unknown G_Book_wish O_Book_wish
 have O_law:=ok_law (P:=l.prog) (w:=w) (base:=base) E G_law G_l_bag O_l_bag G_l_words O_l_words G_l_take O_l_take G_l_spoilt O_l_spoilt G_l_told O_l_told G_l_due O_l_due G_Book_init O_Book_init G_Book_machines O_Book_machines G_l_nothing O_l_nothing G_Book_groups O_Book_groups G_Book_wishes O_Book_wishes G_Book_stores O_Book_stores G_Book_doors O_Book_doors G_Book_rules O_Book_rules G_Book_emptied O_Book_emptied G_Book_log O_Book_log G_l_unknown O_l_unknown
 exact O_law
end
theorem walk {l:PySem.W.OpenLaw}{q:Program}{loose:List Str}{XP:(Str->Option Value)->Heap->Prop}{YP:World->Heap->Prop}{d:DefRec}{K:Params->PySem.W.Frag}(hq:PyProof.Rows.importsNone q=true)(hn:l.most=some 63)(hdf:d.params.defaults=[])
  (hY:∀ (w:World) (h:Heap),YP w h->(K w.params).In h)
  (F:∀ (w:World) (mg:Str->Option Value) (fa:Addr) (h:Heap),(K w.params).In h->h.Ns mainGlobals mg->mg d.name=some (.ref fa) ->
   ∃ fd:FuncData,(∀ (s:Shared) (u:Value),BindsTo s fd ⟨[u],[]⟩ [("_law_script",u)])/\∀ base:Heap,(K w.params).In base->base.Ns mainGlobals mg->FnOk l.prog w (K w.params) mg base CX0 7 fa fd ["_law_script"] (upSp (K w.params) sp_law)) :
  PySem.W.WalkO q loose XP YP l.row.toRowW d [] (λ f vs=>PySem.call f vs) :=
 L2.walk_of (n:=63) (k:=7) (x := "_law_script") (CX:=λ _=>CX0) (sp:=λ w=>upSp (K w.params) sp_law) hq hn (by decide) hdf ⟨rfl,rfl,by decide,by decide⟩ hY F (λ _ H a ns hl hO hS=>D.law_start hl hO hS law_read) λ _ _ _ _ _ z=>z
end K21
namespace PySem.W.Fast
def tw15938481628847320511:=0
def tw10462122288524981341:=0
def tw12098979474434504635:=0
def tw12664486850844691734:=0
def tw874786034339755380:=0
def tw9838268889360468721:=0
def tw8627648236992890191:=0
def tw14638063224055668076:=0
def tw3062938941764685964:=0
def tw3788414467755848038:=0
def tw12761775695537471395:=0
def tw10166988247331503521:=0
def tw17265732504164485312:=0
def tw15768389672443429130:=0
end PySem.W.Fast
open PySem PySem.W PyProof.Rows
set_option maxRecDepth 100000 in
theorem PySem.Challenge.cw_placedworks_k21_books_made_holds : PySem.Challenge.rw_placedworks_k21_books_made.Holds := by
 w_on; o_law; k_head; (case hw=>w_witness2)
 k_fill
 refine K21.walk (l:=PySem.Challenge.rw_placedworks_k21_books_made) ?Q rfl rfl (λ w h Y=>PySem.W.kIn_of Y) ?F
 case Q=>kernel_rfl
 case F =>
  intro w mg fa h KX G hmg
  refine' K21.all_mk KX G hmg ?a_l_bag ?l_l_bag ?c_l_bag ?k_l_bag ?a_l_take ?l_l_take ?c_l_take ?k_l_take ?a_l_words ?l_l_words ?c_l_words ?k_l_words ?a_l_spoilt ?l_l_spoilt ?c_l_spoilt ?k_l_spoilt ?a_BadName_init ?i_BadName_init ?l_BadName_init ?c_BadName_init ?k_BadName_init ?xm_BadName_init ?xt_BadName_init ?xk_BadName_init ?a_is_word ?l_is_word ?c_is_word ?k_is_word ?a_refuse_names ?l_refuse_names ?c_refuse_names ?k_refuse_names ?a_Book_init ?i_Book_init ?l_Book_init ?c_Book_init ?k_Book_init ?a_l_told ?l_l_told ?c_l_told ?k_l_told ?a_l_is_word ?l_l_is_word ?c_l_is_word ?k_l_is_word ?a_l_due ?l_l_due ?c_l_due ?k_l_due ?a_Book_machines ?i_Book_machines ?l_Book_machines ?c_Book_machines ?k_Book_machines ?a_Book_groups ?i_Book_groups ?l_Book_groups ?c_Book_groups ?k_Book_groups ?a_Book_wishes ?i_Book_wishes ?l_Book_wishes ?c_Book_wishes ?k_Book_wishes ?a_Book_stores ?i_Book_stores ?l_Book_stores ?c_Book_stores ?k_Book_stores ?a_Book_doors ?i_Book_doors ?l_Book_doors ?c_Book_doors ?k_Book_doors ?a_Book_rules ?i_Book_rules ?l_Book_rules ?c_Book_rules ?k_Book_rules ?a_Book_emptied ?i_Book_emptied ?l_Book_emptied ?c_Book_emptied ?k_Book_emptied ?a_Book_log ?i_Book_log ?l_Book_log ?c_Book_log ?k_Book_log ?a_l_nothing ?l_l_nothing ?c_l_nothing ?k_l_nothing ?a_Unknown_init ?i_Unknown_init ?l_Unknown_init ?c_Unknown_init ?k_Unknown_init ?xm_Unknown_init ?xt_Unknown_init ?xk_Unknown_init ?a_wish_copied ?l_wish_copied ?c_wish_copied ?k_wish_copied ?a_Book_wish ?i_Book_wish ?l_Book_wish ?c_Book_wish ?k_Book_wish ?a_l_unknown ?l_l_unknown ?c_l_unknown ?k_l_unknown ?a_law ?l_law ?c_law ?k_law ?aC_Book ?pg_Book ?hd_Book ?po_Book ?sa_Book ?mk_Book ?kc_Book ?xg_BadName ?xg_BadRow ?xg_NoRow ?xg_PlaceError ?xg_Unknown ?xg1 ?xg2 ?x1_BadName ?x2_BadName ?x3_BadName ?x4_BadName ?x5_BadName ?x1_Unknown ?x2_Unknown ?x3_Unknown ?x4_Unknown ?x5_Unknown ?xf_e_BadName_BadName ?xf_e_Unknown_Unknown ?xf_i_BadName_BadRow_NoRow ?xf_i_BadName_PlaceError ?xf_i_BadName_ValueError ?n_BadName_at ?n_Book_done ?n_Book_emptied_names ?n_Book_ended ?n_Book_machine_names ?n_Book_ranked ?n_Book_told_rows ?n_Book_wished ?n_Unknown_name ?b_ValueError ?b_abs ?b_all ?b_dict ?b_enumerate ?b_isinstance ?b_len ?b_list ?b_range ?b_repr ?b_sorted ?b_str ?b_tuple ?g_LONGEST_WORD ?g_MOST_MACHINES
  (case a_l_bag=>k_is)
  (case l_l_bag=>k_is)
  (case c_l_bag=>k_is)
  (case k_l_bag=>k_is)
  (case a_l_take=>k_is)
  (case l_l_take=>k_is)
  (case c_l_take=>k_is)
  (case k_l_take=>k_is)
  (case a_l_words=>k_is)
  (case l_l_words=>k_is)
  (case c_l_words=>k_is)
  (case k_l_words=>k_is)
  (case a_l_spoilt=>k_is)
  (case l_l_spoilt=>k_is)
  (case c_l_spoilt=>k_is)
  (case k_l_spoilt=>k_is)
  (case a_BadName_init=>k_is)
  (case i_BadName_init=>k_is)
  (case l_BadName_init=>k_is)
  (case c_BadName_init=>k_is)
  (case k_BadName_init=>k_is)
  (case xm_BadName_init=>kernel_rfl)
  (case xt_BadName_init=>k_is)
  (case xk_BadName_init=>k_is)
  (case a_is_word=>k_is)
  (case l_is_word=>k_is)
  (case c_is_word=>k_is)
  (case k_is_word=>k_is)
  (case a_refuse_names=>k_is)
  (case l_refuse_names=>k_is)
  (case c_refuse_names=>k_is)
  (case k_refuse_names=>k_is)
  (case a_Book_init=>k_is)
  (case i_Book_init=>k_is)
  (case l_Book_init=>k_is)
  (case c_Book_init=>k_is)
  (case k_Book_init=>k_is)
  (case a_l_told=>k_is)
  (case l_l_told=>k_is)
  (case c_l_told=>k_is)
  (case k_l_told=>k_is)
  (case a_l_is_word=>k_is)
  (case l_l_is_word=>k_is)
  (case c_l_is_word=>k_is)
  (case k_l_is_word=>k_is)
  (case a_l_due=>k_is)
  (case l_l_due=>k_is)
  (case c_l_due=>k_is)
  (case k_l_due=>k_is)
  (case a_Book_machines=>k_is)
  (case i_Book_machines=>k_is)
  (case l_Book_machines=>k_is)
  (case c_Book_machines=>k_is)
  (case k_Book_machines=>k_is)
  (case a_Book_groups=>k_is)
  (case i_Book_groups=>k_is)
  (case l_Book_groups=>k_is)
  (case c_Book_groups=>k_is)
  (case k_Book_groups=>k_is)
  (case a_Book_wishes=>k_is)
  (case i_Book_wishes=>k_is)
  (case l_Book_wishes=>k_is)
  (case c_Book_wishes=>k_is)
  (case k_Book_wishes=>k_is)
  (case a_Book_stores=>k_is)
  (case i_Book_stores=>k_is)
  (case l_Book_stores=>k_is)
  (case c_Book_stores=>k_is)
  (case k_Book_stores=>k_is)
  (case a_Book_doors=>k_is)
  (case i_Book_doors=>k_is)
  (case l_Book_doors=>k_is)
  (case c_Book_doors=>k_is)
  (case k_Book_doors=>k_is)
  (case a_Book_rules=>k_is)
  (case i_Book_rules=>k_is)
  (case l_Book_rules=>k_is)
  (case c_Book_rules=>k_is)
  (case k_Book_rules=>k_is)
  (case a_Book_emptied=>k_is)
  (case i_Book_emptied=>k_is)
  (case l_Book_emptied=>k_is)
  (case c_Book_emptied=>k_is)
  (case k_Book_emptied=>k_is)
  (case a_Book_log=>k_is)
  (case i_Book_log=>k_is)
  (case l_Book_log=>k_is)
  (case c_Book_log=>k_is)
  (case k_Book_log=>k_is)
  (case a_l_nothing=>k_is)
  (case l_l_nothing=>k_is)
  (case c_l_nothing=>k_is)
  (case k_l_nothing=>k_is)
  (case a_Unknown_init=>k_is)
  (case i_Unknown_init=>k_is)
  (case l_Unknown_init=>k_is)
  (case c_Unknown_init=>k_is)
  (case k_Unknown_init=>k_is)
  (case xm_Unknown_init=>kernel_rfl)
  (case xt_Unknown_init=>k_is)
  (case xk_Unknown_init=>k_is)
  (case a_wish_copied=>k_is)
  (case l_wish_copied=>k_is)
  (case c_wish_copied=>k_is)
  (case k_wish_copied=>k_is)
  (case a_Book_wish=>k_is)
  (case i_Book_wish=>k_is)
  (case l_Book_wish=>k_is)
  (case c_Book_wish=>k_is)
  (case k_Book_wish=>k_is)
  (case a_l_unknown=>k_is)
  (case l_l_unknown=>k_is)
  (case c_l_unknown=>k_is)
  (case k_l_unknown=>k_is)
  (case a_law=>k_is)
  (case l_law=>k_is)
  (case c_law=>k_is)
  (case k_law=>k_is)
  (case aC_Book=>k_is)
  (case pg_Book=>k_is)
  (case hd_Book=>k_is)
  (case po_Book=>k_is)
  (case sa_Book=>k_is)
  (case mk_Book=>k_is)
  (case kc_Book=>k_is)
  (case xg_BadName=>k_is)
  (case xg_BadRow=>k_is)
  (case xg_NoRow=>k_is)
  (case xg_PlaceError=>k_is)
  (case xg_Unknown=>k_is)
  (case xg1=>k_is)
  (case xg2=>k_is)
  (case x1_BadName=>kernel_rfl)
  (case x2_BadName=>k_is)
  (case x3_BadName=>k_is)
  (case x4_BadName=>k_is)
  (case x5_BadName=>k_is)
  (case x1_Unknown=>kernel_rfl)
  (case x2_Unknown=>k_is)
  (case x3_Unknown=>k_is)
  (case x4_Unknown=>k_is)
  (case x5_Unknown=>k_is)
  (case xf_e_BadName_BadName=>kernel_rfl)
  (case xf_e_Unknown_Unknown=>kernel_rfl)
  (case xf_i_BadName_BadRow_NoRow=>kernel_rfl)
  (case xf_i_BadName_PlaceError=>kernel_rfl)
  (case xf_i_BadName_ValueError=>kernel_rfl)
  (case n_BadName_at=>k_is)
  (case n_Book_done=>k_is)
  (case n_Book_emptied_names=>k_is)
  (case n_Book_ended=>k_is)
  (case n_Book_machine_names=>k_is)
  (case n_Book_ranked=>k_is)
  (case n_Book_told_rows=>k_is)
  (case n_Book_wished=>k_is)
  (case n_Unknown_name=>k_is)
  (case b_ValueError=>k_is)
  (case b_abs=>k_is)
  (case b_all=>k_is)
  (case b_dict=>k_is)
  (case b_enumerate=>k_is)
  (case b_isinstance=>k_is)
  (case b_len=>k_is)
  (case b_list=>k_is)
  (case b_range=>k_is)
  (case b_repr=>k_is)
  (case b_sorted=>k_is)
  (case b_str=>k_is)
  (case b_tuple=>k_is)
  (case g_LONGEST_WORD=>k_is)
  (case g_MOST_MACHINES=>k_is)
