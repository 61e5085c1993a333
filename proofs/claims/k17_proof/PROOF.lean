import PyProof.Rows.All
import Wide.All
import OpenK.AllK
import Wide.FinOn
import Lean
import PyProof.EqAt
import PyProof.EqKinds
import PyProof.TupleCall
import KE.KSortTup
import KE.KDictSum
import PyProof.Rows.Range3
import PyProof.Rows.SortRev
import PyProof.StrBlock2
import PyProof.ZipIter
import PyProof.Rows.ZipGen
import PyProof.NeKinds
import PyProof.DictCompW
import PyProof.DictWalks
import PyProof.AttrMissHeap
import PyProof.WalksS
import KE.KDictOf
import KE.KListMore
import KE.KEqDict
import PyProof.StationsW
import PyProof.InstStoreFacts
import PyProof.ExcBaseAll.ValueError
import PyProof.ExcClass2
import PyProof.RulesAs
import KE.KTryMore
import PyProof.ExcArgs
import KE.KIsAll
import OpenK.KOwn
import PyProof.P3In
import PyProof.DictUpdate
import PyProof.MeetsSeq2
import KE.KIntText
import KE.KRevSl
import PyProof.Rows.StrLawsPart
import PyProof.EnumMake
import PyProof.Draws
import PyProof.ListRange
import PyProof.TupleOfStr
import KE.KLam
import KE.KNestM
import KE.KMinKey
import PySem.Challenge.RW_placedworks_k17_refusals_apart
set_option genSizeOf false
set_option genSizeOfSpec false
set_option bootstrap.genMatcherCode false
set_option Elab.async false
set_option linter.all false
set_option maxRecDepth 100000
namespace L2
open PySem PySem.Spec PyProof.Rows
noncomputable abbrev Key:=Sum Int Str
noncomputable def keyIs:Key->Value->Bool
 | .inl k,v=>Value.isInt k v
 | .inr x,v=>Value.isStrOf x v
noncomputable def keyH (w:World):Key->Int
 | .inl k=>hashInt k
 | .inr x=>hashStr w x
theorem keyIs_shape:∀ {k:Key} {v:Value},keyIs k v=true->(∃ i t,k=Sum.inl i/\v=Value.int i t)\/(∃ x t,k=Sum.inr x/\v=Value.str x t)
 | .inl i,v,h=>by
  obtain ⟨t,e⟩:=Value.isInt_shape (k:=i) (v:=v) h
  exact .inl ⟨i,t,rfl,e⟩
 | .inr x,v,h=>by
  obtain ⟨t,e⟩:=Value.isStrOf_shape (x:=x) (v:=v) h
  exact .inr ⟨x,t,rfl,e⟩
theorem keyIs_int (i:Int)(t:Tok):keyIs (.inl i) (.int i t)=true:=by simp [keyIs,Value.isInt]
theorem keyIs_str (x:Str)(t:Tok):keyIs (.inr x) (.str x t)=true:=by simp [keyIs,Value.isStrOf]
theorem key_ll (a b:Int):decide ((Sum.inl a:Key)=Sum.inl b)=(a == b):=by
 by_cases e:a=b
 ·subst e; simp
 ·have h:¬ (Sum.inl a:Key)=Sum.inl b:=λ q=>e (Sum.inl.inj q)
  rw [decide_eq_false h]
  exact (beq_eq_false_iff_ne.mpr e).symm
theorem key_rr (a b:Str):decide ((Sum.inr a:Key)=Sum.inr b)=decide (a=b):=by
 by_cases e:a=b
 ·subst e; simp
 ·have h:¬ (Sum.inr a:Key)=Sum.inr b:=λ q=>e (Sum.inr.inj q)
  rw [decide_eq_false h,decide_eq_false e]
theorem key_lr (a:Int)(b:Str):decide ((Sum.inl a:Key)=Sum.inr b)=false:=decide_eq_false (λ q=>nomatch q)
theorem key_rl (a:Str)(b:Int):decide ((Sum.inr a:Key)=Sum.inl b)=false:=decide_eq_false (λ q=>nomatch q)
noncomputable def mixKind (prog:Program)(w:World):PySem.KeyKind prog w Key where
 is:=keyIs
 hash:=keyH w
 inj:=λ v a b ha hb=>by
  rcases keyIs_shape ha with ⟨i,t,rfl,rfl⟩ | ⟨x,t,rfl,rfl⟩
  ·rcases keyIs_shape hb with ⟨j,u,rfl,e⟩ | ⟨y,u,rfl,e⟩
   ·injection e with e1 _; rw [e1]
   ·exact nomatch e
  ·rcases keyIs_shape hb with ⟨j,u,rfl,e⟩ | ⟨y,u,rfl,e⟩
   ·exact nomatch e
   ·injection e with e1 _; rw [e1]
 byValue:=λ k v h=>by
  rcases keyIs_shape h with ⟨i,t,rfl,rfl⟩ | ⟨x,t,rfl,rfl⟩ <;> rfl
 pyHash:=λ hv h=>by
  rcases keyIs_shape hv with ⟨i,t,rfl,rfl⟩ | ⟨x,t,rfl,rfl⟩
  ·exact wpAny_pyHash_int h
  ·exact wpAny_pyHash_str h
 eqBool:=λ hu hv h=>by
  rcases keyIs_shape hu with ⟨i,t,rfl,rfl⟩ | ⟨x,t,rfl,rfl⟩
  ·rcases keyIs_shape hv with ⟨j,u,rfl,rfl⟩ | ⟨y,u,rfl,rfl⟩
   ·rw [key_ll] at h; exact wpAny_eqBool_int h
   ·rw [key_lr] at h; exact SeqAt.EqAt.int_str i t y u _ _ _ _ h
  ·rcases keyIs_shape hv with ⟨j,u,rfl,rfl⟩ | ⟨y,u,rfl,rfl⟩
   ·rw [key_rl] at h; exact SeqAt.EqAt.str_int x t j u _ _ _ _ h
   ·rw [key_rr] at h; exact wpAny_eqBool_str h
 «strs»:=λ k x t v h=>by
  rcases keyIs_shape h with ⟨i,u,rfl,e⟩ | ⟨y,u,rfl,e⟩
  ·exact nomatch e
  ·injection e with e1 _
   subst e1
   cases v <;> rfl
theorem mixKind_int (prog:Program)(w:World)(i:Int)(t:Tok):(mixKind prog w).is (.inl i) (.int i t)=true:=keyIs_int i t
theorem mixKind_str (prog:Program)(w:World)(x:Str)(t:Tok):(mixKind prog w).is (.inr x) (.str x t)=true:=keyIs_str x t
end L2
namespace L2
open PySem PySem.Spec PyProof.Rows
inductive V where
 | non | bl (b:Bool) | int (i:Int) | str (x:Str) | byt (b:Array UInt8) | flt (b:UInt64) | ref (a:Addr) | ty (n:String)
 deriving DecidableEq
noncomputable def RelV:V->Value->Prop
 | .non,u=>u=Value.none
 | .bl b,u=>u=Value.bool b
 | .int i,u=>∃ t,u=Value.int i t
 | .str x,u=>∃ t,u=Value.str x t
 | .byt b,u=>∃ t,u=Value.bytes b t
 | .flt b,u=>∃ t,u=Value.float b t
 | .ref a,u=>u=Value.ref a
 | .ty n,u=>u=Value.type n
noncomputable abbrev Vals:List V->List Value->Prop:=Paired RelV
theorem Vals.length {xs:List V}{us:List Value}(r:Vals xs us):xs.length=us.length:=Paired.length r
theorem Vals.get:∀ {xs:List V} {us:List Value} {i:Nat} {x:V},Vals xs us->xs[i]? = some x->∃ u,us[i]? = some u/\RelV x u
 | _,_,_,_,.nil,e=>by simp at e
 | _,_,0,_,.cons r _,e=>by simp at e; subst e; exact ⟨_,rfl,r⟩
 | _,_,i+1,x,.cons _ t,e=>by
  obtain ⟨u,h1,h2⟩:=Vals.get (i:=i) (x:=x) t (by simpa using e)
  exact ⟨u,by simpa using h1,h2⟩
theorem Vals.set {x:V}{u:Value}(r:RelV x u):∀ {xs:List V} {us:List Value} (i:Nat),Vals xs us->Vals (xs.set i x) (us.set i u)
 | _,_,_,.nil=>.nil
 | _,_,0,.cons _ t=>.cons r t
 | _,_,i+1,.cons q t=>.cons q (Vals.set r i t)
theorem Vals.append:∀ {xs ys:List V} {us ws:List Value},Vals xs us->Vals ys ws->Vals (xs++ys) (us++ws)
 | _,_,_,_,.nil,s=>s
 | _,_,_,_,.cons r t,s=>.cons r (Vals.append t s)
theorem Vals.take:∀ {xs:List V} {us:List Value} (n:Nat),Vals xs us->Vals (xs.take n) (us.take n)
 | _,_,0,_=>.nil
 | _,_,_+1,.nil=>.nil
 | _,_,n+1,.cons r t=>.cons r (Vals.take n t)
theorem Vals.drop:∀ {xs:List V} {us:List Value} (n:Nat),Vals xs us->Vals (xs.drop n) (us.drop n)
 | _,_,0,r=>r
 | _,_,_+1,.nil=>.nil
 | _,_,n+1,.cons _ t=>Vals.drop n t
theorem Vals.none_of:∀ {xs:List V} {us:List Value} {i:Nat},Vals xs us->xs[i]? = none->us[i]? = none:=λ {xs us i} r e=>by
 have h1:=r.length
 have h2:xs.length<=i:=List.getElem?_eq_none_iff.mp e
 exact List.getElem?_eq_none_iff.mpr (by omega)
noncomputable def RelO:Option V->Option Value->Prop
 | some v,some u=>RelV v u
 | none,none=>True
 | _,_=>False
noncomputable def KV {κ:Type}:List (κ×V)->List (κ×Value)->Prop:=Paired λ (p:κ×V) (q:κ×Value)=>p.1=q.1/\RelV p.2 q.2
noncomputable def kV:Key->V
 | .inl i=>.int i
 | .inr x=>.str x
inductive HO where
 | lst (xs:List V)
 | tup (xs:List V)
 | dK (kvs:List (Key×V)) | dT (kvs:List (List Key×V))
 | set (S:Int->Bool) (n:Nat)
 | ins (C dx:Addr) (fs:List (Str×V))
 | own (x:Addr)
 | xd (fs:List (Str×V))
 | met (f x:Addr)
 | rng (lo hi:Int)
 | frz (o:Obj) (u:HO)
 | tbl (ps:Array Value)
 | ext (φ:Heap->Prop)
noncomputable abbrev Hp:=Addr->Option HO
noncomputable def upd (H:Hp)(a:Addr)(o:HO):Hp:=λ b=>if b=a then some o else H b
theorem upd_same {H:Hp}{a:Addr}{o:HO}:upd H a o a=some o:=by unfold upd; rw [if_pos rfl]
theorem upd_ne {H:Hp}{a b:Addr}{o:HO}(h:b≠a):upd H a o b=H b:=by unfold upd; rw [if_neg h]
theorem upd_upd {H:Hp}{a:Addr}{o u:HO}:upd (upd H a o) a u=upd H a u:=by
 funext b; unfold upd; split <;> rfl
theorem ne_of {H:Hp}{a b:Addr}{o u:HO}(h:H a=some o)(h':H b=some u)(d:o≠u):a≠b:=by
 intro e; subst e; rw [h] at h'; exact d (Option.some.inj h')
theorem ne_of_none {H:Hp}{a b:Addr}{o:HO}(h:H a=some o)(h':H b=none):a≠b:=by
 intro e; subst e; rw [h] at h'; cases h'
noncomputable def TupN (h:Heap)(a:Addr)(items:Array Value):Prop:=∃ o,h.get? a=some o/\o.cls=.type "tuple" /\ o.dict=none/\∃ n,o.data=.seq items n
theorem TupN.tup {h:Heap}{a:Addr}{items:Array Value}(x:TupN h a items):IsTup h a items:=let ⟨o,h1,h2,_,h3⟩:=x; ⟨o,h1,h2,h3⟩
theorem TupN.new (h:Heap)(items:Array Value):TupN (h.push { cls:=.type "tuple",data:=.seq items }) h.objs.size items:=⟨_,Heap.get?_push_size _ rfl,rfl,rfl,_,rfl⟩
section
variable (P:Program)(w:World)
noncomputable def ObjOk (H:Hp)(h:Heap)(a:Addr):HO->Prop
 | .lst xs=>xs.length<=sizeLine/\∃ (its:List Value) (n:Nat),Vals xs its/\h.get? a=some { cls:=.type "list",data:=.seq its.toArray n }
 | .tup xs=>xs.length<=sizeLine/\∃ its:List Value,Vals xs its/\TupN h a its.toArray
 | .dK kvs=>kvs.length<=sizeLine/\(a == sysModules)=false/\∃ vs,KV kvs vs/\h.DictOf (mixKind P w) a vs
 | .dT kvs=>kvs.length<=sizeLine/\(a == sysModules)=false/\∃ xs:List (List Key×Addr×Value),
   Paired (λ (p:List Key×V) (q:List Key×Addr×Value)=>p.1=q.1/\H q.2.1=some (.tup (p.1.map kV))/\RelV p.2 q.2.2) kvs xs /\
   ∃ o es ep,h.get? a=some o/\o.ExactDict/\o.data=.dict es ep/\es.toList=xs.map (entryOfKey (tupleKind (mixKind P w)))/\(xs.map (·.1)).Nodup
 | .set S n=>h.SetOf (intKind P w) a S n
 | .ins C dx fs=>H dx=some (.own a)/\fs.length<=1000/\dx≠a/\h.get? a=some (PySem.W.instObj C dx) /\
   ∃ mA,h.Ns1 dx mA/\(∀ f,RelO (fs.lookup f) (mA f))/\PySem.Within mA (fs.map (·.1))
 | .own _=>∃ o,h.get? a=some o
 | .xd fs=>∃ mA,h.Ns1 a mA/\∀ f,RelO (fs.lookup f) (mA f)
 | .rng lo hi=>∃ t u v,h.get? a=some { cls:=.type "range",data:=.fields #[.int lo t,.int hi u,.int 1 v] }
 | .frz o u=>h.get? a=some o/\ObjOk H h a u
 | .tbl ps=>h.get? a=some { cls:=.none,data:=.fields ps }
 | .met f x=>h.get? a=some (PySem.W.methodObj (.ref f) (.ref x))
 | .ext φ=>φ h/\(∃ o,h.get? a=some o)/\∀ h1 h2:Heap,φ h1->(∀ o,h1.get? a=some o->h2.get? a=some o)->φ h2
noncomputable def HOk (H:Hp)(h:Heap):Prop:=∀ a o,H a=some o->ObjOk P w H h a o
end
section
variable {P:Program}{w:World}{H H':Hp}{h h':Heap}{a:Addr}{o:HO}
theorem ObjOk.lt (x:ObjOk P w H h a o):a < h.objs.size:=by
 cases o with
 | lst xs=>obtain ⟨_,_,_,_,e⟩:=x; exact Heap.lt_size e
 | tup xs=>obtain ⟨_,_,_,p⟩:=x; exact p.tup.lt
 | dK kvs=>obtain ⟨_,_,_,_,o,_,_,e,_⟩:=x; exact Heap.lt_size e
 | dT kvs=>obtain ⟨_,_,_,_,o,_,_,e,_⟩:=x; exact Heap.lt_size e
 | set S n=>obtain ⟨o,_,_,_,e,_⟩:=x; exact Heap.lt_size e
 | ins C dx fs=>obtain ⟨_,_,_,e,_⟩:=x; exact Heap.lt_size e
 | own y=>obtain ⟨_,e⟩:=x; exact Heap.lt_size e
 | xd fs=>obtain ⟨_,⟨_,_,_,e,_⟩,_⟩:=x; exact Heap.lt_size e
 | rng lo hi=>obtain ⟨_,_,_,e⟩:=x; exact Heap.lt_size e
 | frz ob u=>obtain ⟨e,_⟩:=x; exact Heap.lt_size e
 | tbl ps=>exact Heap.lt_size (show h.get? a=some _ from x)
 | met f y=>exact Heap.lt_size (show h.get? a=some _ from x)
 | ext φ=>obtain ⟨_,⟨_,e⟩,_⟩:=x; exact Heap.lt_size e
theorem Paired.mapP {α β:Type}{F G:α->β->Prop}:∀ {l₁:List α} {l₂:List β},Paired F l₁ l₂->(∀ a b,F a b->G a b)->Paired G l₁ l₂
 | _,_,.nil,_=>.nil
 | _,_,.cons r t,f=>.cons (f _ _ r) (Paired.mapP t f)
theorem ObjOk.stay (x:ObjOk P w H h a o)(k:∀ b u,(b=a\/H b=some (.own a))->h.get? b=some u->h'.get? b=some u)
  (ho:∀ b,H b=some (.own a)->H' b=some (.own a))(ht:∀ b xs,H b=some (.tup xs)->H' b=some (.tup xs)):ObjOk P w H' h' a o:=by
 induction o with
 | lst xs=>obtain ⟨z,its,n,r,e⟩:=x; exact ⟨z,its,n,r,k _ _ (.inl rfl) e⟩
 | tup xs=>obtain ⟨z,its,r,ob,e,c⟩:=x; exact ⟨z,its,r,ob,k _ _ (.inl rfl) e,c⟩
 | dK kvs=>obtain ⟨z,y,vs,r,ob,es,ep,e,c⟩:=x; exact ⟨z,y,vs,r,ob,es,ep,k _ _ (.inl rfl) e,c⟩
 | dT kvs =>
  obtain ⟨z,y,xs,r,ob,es,ep,e,c⟩:=x
  exact ⟨z,y,xs,Paired.mapP r λ p q z=>⟨z.1,ht _ _ z.2.1,z.2.2⟩,ob,es,ep,k _ _ (.inl rfl) e,c⟩
 | set S n=>obtain ⟨ob,es,ep,t,e,c⟩:=x; exact ⟨ob,es,ep,t,k _ _ (.inl rfl) e,c⟩
 | ins C dx fs =>
  obtain ⟨d,z,ne,e,mA,⟨od,es,ep,e2,c⟩,r⟩:=x
  exact ⟨ho _ d,z,ne,k _ _ (.inl rfl) e,mA,⟨od,es,ep,k _ _ (.inr d) e2,c⟩,r⟩
 | own y=>obtain ⟨ob,e⟩:=x; exact ⟨ob,k _ _ (.inl rfl) e⟩
 | xd fs=>obtain ⟨mA,⟨od,es,ep,e,c⟩,r⟩:=x; exact ⟨mA,⟨od,es,ep,k _ _ (.inl rfl) e,c⟩,r⟩
 | rng lo hi=>obtain ⟨t,u,v,e⟩:=x; exact ⟨t,u,v,k _ _ (.inl rfl) e⟩
 | frz ob u ih=>obtain ⟨e,q⟩:=x; exact ⟨k _ _ (.inl rfl) e,ih q⟩
 | tbl ps =>
  have e:h.get? a=some { cls:=.none,data:=.fields ps }:=x
  show h'.get? a=some { cls:=.none,data:=.fields ps }
  exact k a _ (.inl rfl) e
 | met f y =>
  have e:h.get? a=some (PySem.W.methodObj (.ref f) (.ref y)):=x
  show h'.get? a=some (PySem.W.methodObj (.ref f) (.ref y))
  exact k a _ (.inl rfl) e
 | ext φ=>obtain ⟨p,⟨o,e⟩,st⟩:=x; exact ⟨st _ _ p λ o q=>k _ _ (.inl rfl) q,⟨o,k _ _ (.inl rfl) e⟩,st⟩
theorem HOk.lt (x:HOk P w H h)(e:H a=some o):a < h.objs.size:=(x a o e).lt
theorem HOk.fresh (x:HOk P w H h)(e:h.objs.size<=a):H a=none:=by
 cases q:H a with
 | none=>rfl
 | some u=>exact absurd (Nat.lt_of_lt_of_le (x.lt q) e) (Nat.lt_irrefl _)
theorem HOk.kept (x:HOk P w H h)(k:∀ b u,h.get? b=some u->h'.get? b=some u):HOk P w H h':=λ a o e =>
 (x a o e).stay (λ b u _ q=>k b u q) (λ _ q=>q) λ _ _ q=>q
theorem HOk.laid (x:HOk P w H h)(k:∀ b u,h.get? b=some u->h'.get? b=some u)(hp:h.objs.size<=a)(new:ObjOk P w (upd H a o) h' a o):HOk P w (upd H a o) h':=λ b u e=>by
 have hn:=x.fresh hp
 by_cases hb:b=a
 ·subst hb; rw [upd_same] at e; cases e; exact new
 ·rw [upd_ne hb] at e
  exact (x b u e).stay (λ c v _ q=>k c v q) (λ c q=>by rw [upd_ne (ne_of_none q hn)]; exact q) λ c xs q=>by rw [upd_ne (ne_of_none q hn)]; exact q
end
noncomputable def Rd (H:Hp)(a:Addr)(u:HO):Prop:=H a=some u\/∃ o,H a=some (.frz o u)
theorem Rd.of {H:Hp}{a:Addr}{u:HO}(h:H a=some u):Rd H a u:=.inl h
theorem Rd.ok {P:Program}{w:World}{H:Hp}{h:Heap}{a:Addr}{u:HO}(r:Rd H a u)(x:HOk P w H h):ObjOk P w H h a u:=by
 rcases r with r | ⟨o,r⟩
 ·exact x a u r
 ·obtain ⟨_,q⟩:=x a _ r
  exact q
noncomputable def Mut:Option HO->Prop
 | some (.lst _)=>True
 | some (.dK _)=>True
 | some (.dT _)=>True
 | some (.set _ _)=>True
 | some (.ins _ _ _)=>True
 | some (.ext _)=>True
 | _=>False
section
variable {P:Program}{w:World}{H:Hp}{h h':Heap}{x e:Addr}{o':HO}
theorem HOk.write (ok:HOk P w H h)(mu:Mut (H x))(he:e=x\/H e=some (.own x))(k:∀ b u,b≠e->h.get? b=some u->h'.get? b=some u)(heo:∃ u,h'.get? e=some u)
  (new:ObjOk P w (upd H x o') h' x o'):HOk P w (upd H x o') h':=λ b u q=>by
 have nown:∀ c y,H c=some (.own y)->c≠x:=λ c y r z=>by subst z; rw [r] at mu; exact mu
 have ntup:∀ c xs,H c=some (.tup xs)->c≠x:=λ c xs r z=>by subst z; rw [r] at mu; exact mu
 by_cases hb:b=x
 ·subst hb; rw [upd_same] at q; cases q; exact new
 ·rw [upd_ne hb] at q
  by_cases hbe:b=e
  ·have q':H b=some (.own x):=by
    rcases he with z | z
    ·exact absurd (hbe.trans z) hb
    ·rw [hbe]; exact z
   rw [q] at q'; cases q'
   obtain ⟨v,hv⟩:=heo
   exact ⟨v,by rw [hbe]; exact hv⟩
  ·refine (ok b u q).stay (λ c v hc r=>k c v ?_ r) (λ c r=>by rw [upd_ne (nown c b r)]; exact r) λ c xs r=>by rw [upd_ne (ntup c xs r)]; exact r
   rcases hc with rfl | hc
   ·exact hbe
   ·rintro rfl
    rcases he with z | z
    ·exact nown c b hc z
    ·rw [hc] at z; cases z; exact hb rfl
end
structure Un (fs ex:List Addr)(H H':Hp)(h h':Heap):Prop where
 keep:∀ b o,h.get? b=some o->H b=none->b ∉ fs->b ∉ ex->h'.get? b=some o
 slot:∀ b o,h.get? b=some o->H b=none->b∈fs->b ∉ ex->∃ sl,h'.get? b=some { o with slots:=sl }
 free:∀ b o,h.get? b=some o->H b=none->b ∉ ex->H' b=none
 there:∀ b o,h.get? b=some o->b ∉ ex->∃ o',h'.get? b=some o'
 tups:∀ b xs,H b=some (.tup xs)->H' b=some (.tup xs)
 frzs:∀ b o u,H b=some (.frz o u)->H' b=some (.frz o u)
 tbls:∀ b ps,H b=some (.tbl ps)->∃ more,H' b=some (.tbl (ps++more))
section
variable {fs fs' ex ex':List Addr}{H H1 H2:Hp}{h h1 h2 h':Heap}{a x e:Addr}{o:HO}
theorem Un.any (u:Un fs ex H H1 h h1){b:Addr}{ob:Obj}(q:h.get? b=some ob)(n:H b=none)(hx:b ∉ ex):∃ sl,h1.get? b=some { ob with slots:=sl }:=by
 by_cases hb:b∈fs
 ·exact u.slot b ob q n hb hx
 ·exact ⟨ob.slots,u.keep b ob q n hb hx⟩
theorem Un.trans (a:Un fs ex H H1 h h1)(b:Un fs ex H1 H2 h1 h2):Un fs ex H H2 h h2 where
 keep:=λ c ob q n hc hx=>b.keep c ob (a.keep c ob q n hc hx) (a.free c ob q n hx) hc hx
 slot:=λ c ob q n hc hx=>by
  obtain ⟨sl,e1⟩:=a.slot c ob q n hc hx
  obtain ⟨sl',e2⟩:=b.slot c _ e1 (a.free c ob q n hx) hc hx
  exact ⟨sl',e2⟩
 free:=λ c ob q n hx=>by
  obtain ⟨o',e1⟩:=a.there c ob q hx
  exact b.free c o' e1 (a.free c ob q n hx) hx
 there:=λ c ob q hx=>by
  obtain ⟨o',e1⟩:=a.there c ob q hx
  exact b.there c o' e1 hx
 tups:=λ c xs q=>b.tups c xs (a.tups c xs q)
 frzs:=λ c ob xs q=>b.frzs c ob xs (a.frzs c ob xs q)
 tbls:=λ c ps q=>by
  obtain ⟨m1,e1⟩:=a.tbls c ps q
  obtain ⟨m2,e2⟩:=b.tbls c _ e1
  exact ⟨m1++m2,by rw [e2,Array.append_assoc]⟩
theorem Un.kept (k:∀ b u,h.get? b=some u->h'.get? b=some u):Un fs ex H H h h' :=
 ⟨λ b ob q _ _ _=>k b ob q,λ b ob q _ _ _=>⟨ob.slots,k b ob q⟩,λ _ _ _ n _=>n,λ b ob q _=>⟨ob,k b ob q⟩,λ _ _ q=>q,λ _ _ _ q=>q,λ _ ps q=>⟨#[],by rw [q]; simp⟩⟩
theorem Un.refl:Un fs ex H H h h:=Un.kept λ _ _ q=>q
theorem Un.laid (k:∀ b u,h.get? b=some u->h'.get? b=some u)(hp:h.objs.size<=a)(hn:H a=none):Un fs ex H (upd H a o) h h' where
 keep:=λ b u q _ _ _=>k b u q
 slot:=λ b u q _ _ _=>⟨u.slots,k b u q⟩
 free:=λ b u q n _=>by rw [upd_ne (Nat.ne_of_lt (Nat.lt_of_lt_of_le (Heap.lt_size q) hp))]; exact n
 there:=λ b u q _=>⟨u,k b u q⟩
 tups:=λ b xs q=>by rw [upd_ne (ne_of_none q hn)]; exact q
 frzs:=λ b u xs q=>by rw [upd_ne (ne_of_none q hn)]; exact q
 tbls:=λ b ps q=>⟨#[],by rw [upd_ne (ne_of_none q hn),q]; simp⟩
theorem Un.write (mu:Mut (H x))(he:e=x\/H e=some (.own x))(k:∀ b u,b≠e->h.get? b=some u->h'.get? b=some u)(heo:∃ u,h'.get? e=some u):Un fs ex H (upd H x o) h h':=by
 have hx:∀ b,H b=none->b≠x:=λ b n z=>by subst z; rw [n] at mu; exact mu
 have hb:∀ b,H b=none->b≠e:=λ b n z=>by
  subst z
  rcases he with r | r
  ·exact hx b n r
  ·rw [n] at r; cases r
 have hm:∀ b u,H b=some u->¬ Mut (some u)->b≠x:=λ b u q nm z=>by subst z; rw [q] at mu; exact nm mu
 refine ⟨λ b u q n _ _=>k b u (hb b n) q,λ b u q n _ _=>⟨u.slots,k b u (hb b n) q⟩,λ b u q n _=>by rw [upd_ne (hx b n)]; exact n,λ b u q _=>?_,
  λ b xs q=>by rw [upd_ne (hm b _ q λ z=>z)]; exact q,λ b u xs q=>by rw [upd_ne (hm b _ q λ z=>z)]; exact q,λ b ps q=>⟨#[],by rw [upd_ne (hm b _ q λ z=>z),q]; simp⟩⟩
 by_cases hbe:b=e
 ·subst hbe; exact heo
 ·exact ⟨u,k b u hbe q⟩
theorem Un.mono (u:Un fs ex H H1 h h1)(hs:∀ b∈fs,b∈fs')(hx:∀ b∈ex,b∈ex'):Un fs' ex' H H1 h h1 :=
 ⟨λ b ob q n hb he=>u.keep b ob q n (λ z=>hb (hs b z)) λ z=>he (hx b z),λ _ _ q n _ he=>u.any q n λ z=>he (hx _ z),λ b ob q n he=>u.free b ob q n λ z=>he (hx b z),λ b ob q he=>u.there b ob q λ z=>he (hx b z),u.tups,u.frzs,u.tbls⟩
end
noncomputable def trk (h:Heap)(H:Hp):List Addr:=(List.range h.objs.size).filter λ a=>(H a).isSome
noncomputable def hidT (h:Heap)(H:Hp):Heap:=PySem.W.hideAll h (trk h H)
theorem hidT_size (h:Heap)(H:Hp):(hidT h H).objs.size=h.objs.size:=PySem.W.hideAll_size _ _
theorem hidT_get {h:Heap}{H:Hp}{b:Addr}{o:Obj}(e:h.get? b=some o)(n:H b=none):(hidT h H).get? b=some o :=
 PySem.W.hideAll_get _ e λ hm=>by
  have q:(H b).isSome=true:=(List.mem_filter.mp hm).2
  rw [n] at q; simp at q
theorem of_hidT {h:Heap}{H:Hp}{b:Addr}{o:Obj}(e:(hidT h H).get? b=some o):h.get? b=some o/\H b=none:=by
 have e':h.get? b=some o:=PySem.W.of_hideAll (trk h H) e
 refine ⟨e',?_⟩
 cases q:H b with
 | none=>rfl
 | some x =>
  have hm:b∈trk h H:=List.mem_filter.mpr ⟨List.mem_range.mpr (Heap.lt_size e'),by simp [q]⟩
  have z:(hidT h H).get? b=none:=PySem.W.hideAll_none (trk h H) hm
  rw [z] at e; cases e
noncomputable def allNews (g h:Heap)(L:Addr):List (Addr×Obj):=(List.range h.objs.size).filterMap λ a=>if a=L\/(g.get? a).isSome=true then none else (h.get? a).map λ o=>(a,o)
noncomputable def rest (g h:Heap)(L d:Addr):List (Addr×Obj):=(allNews g h L).filter λ p=>decide (p.1≠d)
end L2
namespace L2
open PySem PySem.Spec PyProof.Rows
noncomputable def BM (mg:Str->Option Value)(h:Heap):Prop:=(∃ bm o,mg "__builtins__" = some (.ref bm)/\bm≠builtinsNs/\h.get? bm=some o/\o.cls=.type "module" /\ o.dict=some builtinsNs/\o.data=.plain)/\∃ mm,h.Ns sysModules mm
structure Mod (K:PySem.W.Frag)(mg:Str->Option Value)(base:Heap):Prop where
 kin:K.In base
 glob:base.Ns mainGlobals mg
 blt:∃ mb,base.Ns builtinsNs mb/\∀ x:Str,x ≠ "__name__" -> mb x=bootBuiltins x
 nolimit:base.NoLimit
 bm:BM mg base
structure Cx where
 prog:Program
 w:World
 K:PySem.W.Frag
 mg:Str->Option Value
 base:Heap
 A:Around
 N:List Str
 s₀:Shared
 H₀:Hp
 env:Env
 outer:List Env
 stack:List Env
 ex:List Addr
 fn:Str->Bool
 calm:Bool
 pn:List (Addr×Obj)
 xe:Value->Shared->Prop
noncomputable def frs (l:List Env):List Addr:=l.filterMap (·.frame)
noncomputable abbrev Cx.fs (X:Cx):List Addr:=frs X.outer
noncomputable def Vis (sc:Scope)(x:Str):Prop:=sc.names.lookup x=some .local\/sc.names.lookup x=some .cell\/sc.names.lookup x=some .free
noncomputable def Loc (sc:Scope)(x:Str):Prop:=sc.names.lookup x=some .local\/sc.names.lookup x=some .cell
noncomputable def Look (env:Env)(h:Heap)(m:Str->Option Value)(x:Str)(u:Value):Prop :=
 (env.kindOf x=some .local/\m x=some u)\/((env.kindOf x=some .cell\/env.kindOf x=some .free)/\∃ c,env.cells.lookup x=some c/\h.IsCell c (some u))
structure Cx.Ok (X:Cx):Prop where
 mod:Mod X.K X.mg X.base
 kind:X.env.scope.kind=.function
 glob:X.env.globals=mainGlobals
 blt:X.env.builtins=builtinsNs
 above:X.s₀.heap.objs.size<=X.env.locals
 inj:∀ x y c,X.env.cells.lookup x=some c->X.env.cells.lookup y=some c->x=y
 has:∀ x,(X.env.kindOf x=some .cell\/X.env.kindOf x=some .free)->∃ c,X.env.cells.lookup x=some c
 cab:∀ x c,X.fn x=true->X.env.cells.lookup x=some c->X.s₀.heap.objs.size<=c
 hd:X.calm=true->X.A.handled=none
 frames:X.A.frames=some X.stack
 stk:X.stack=X.outer\/(X.stack=X.env :: X.outer/\X.env.frame=some X.env.locals)
 exf:∀ b∈X.ex,b≠X.env.locals/\∀ x c,X.env.cells.lookup x=some c->c≠b
 bs:∀ b o,X.base.get? b=some o->X.s₀.heap.get? b=some o/\X.H₀ b=none
 bsz:X.base.objs.size<=X.s₀.heap.objs.size
 noex:∀ b o,X.base.get? b=some o->b ∉ X.ex
 exfs:∀ b∈X.ex,b ∉ X.fs
 funs:X.s₀.heap.FunFrames X.base X.outer
 frf:∀ b∈X.fs,X.H₀ b=none
structure Inv (X:Cx)(pins:List (Addr×Obj))(σ:List (Option V))(H:Hp)(s:Shared):Prop where
 ok:X.Ok
 os:s.os=X.s₀.os
 bare:AllBare s.gens
 base:Un X.fs X.ex X.H₀ H X.s₀.heap s.heap
 loc:∃ m,s.heap.Ns X.env.locals m/\∀ (i:Nat) (x:Str) (v:V),X.N[i]? = some x->σ[i]? = some (some v)->Vis X.env.scope x->∃ u,RelV v u/\Look X.env s.heap m x u
 cell:∀ x c,X.env.cells.lookup x=some c->∃ v,s.heap.IsCell c v
 free:H X.env.locals=none
 freeC:∀ x c,X.env.cells.lookup x=some c->H c=none
 pin:∀ p∈X.pn++pins,s.heap.get? p.1=some p.2/\H p.1=none/\p.1≠X.env.locals/\p.1 ∉ X.fs/\∀ v,p.2.data ≠ .cell v
 hok:HOk X.prog X.w H s.heap
 len:σ.length=X.N.length
section
variable {X:Cx}{pins:List (Addr×Obj)}{σ:List (Option V)}{H H':Hp}{s:Shared}{h':Heap}
theorem Cx.Ok.nofr (ok:X.Ok){b:Addr}{o:Obj}(e:X.base.get? b=some o):b ∉ X.fs:=λ hb=>by
 have:=(ok.funs.mem hb).1
 rw [e] at this; cases this
theorem Inv.bs (I:Inv X pins σ H s):∀ b o,X.base.get? b=some o->s.heap.get? b=some o/\H b=none:=λ b o e =>
 ⟨I.base.keep b o (I.ok.bs b o e).1 (I.ok.bs b o e).2 (I.ok.nofr e) (I.ok.noex b o e),I.base.free b o (I.ok.bs b o e).1 (I.ok.bs b o e).2 (I.ok.noex b o e)⟩
theorem Inv.bk (I:Inv X pins σ H s):∀ b o,X.base.get? b=some o->s.heap.get? b=some o:=λ b o e=>(I.bs b o e).1
theorem Inv.mod (I:Inv X pins σ H s):Mod X.K X.mg X.base:=I.ok.mod
theorem Inv.kIn (I:Inv X pins σ H s):X.K.In s.heap:=I.ok.mod.kin.keeps I.bk
theorem Inv.nolimit (I:Inv X pins σ H s):s.heap.NoLimit:=I.ok.mod.nolimit.keeps I.bk
theorem Inv.fr (I:Inv X pins σ H s):∃ m,Fr X.base X.env.locals s.heap m :=
 let ⟨m,hn,_⟩:=I.loc
 ⟨m,hn,I.bk,Nat.le_trans I.ok.bsz I.ok.above⟩
theorem Inv.lt (I:Inv X pins σ H s):X.env.locals < s.heap.objs.size:=let ⟨_,hn,_⟩:=I.loc; hn.lt
theorem Inv.sz (I:Inv X pins σ H s):X.s₀.heap.objs.size<=s.heap.objs.size:=Nat.le_trans I.ok.above (Nat.le_of_lt I.lt)
theorem Inv.nofs (I:Inv X pins σ H s){a:Addr}(h:s.heap.objs.size<=a):a ∉ X.fs:=λ hb=>by
 obtain ⟨_,o,ho,_⟩:=I.ok.funs.mem hb
 exact absurd (Nat.lt_of_lt_of_le (Heap.lt_size ho) (Nat.le_trans I.sz h)) (Nat.lt_irrefl _)
theorem Inv.cne (I:Inv X pins σ H s):∀ x c,X.env.cells.lookup x=some c->c≠X.env.locals:=λ x c e z=>by
 obtain ⟨v,o,ho,hd⟩:=I.cell x c e
 obtain ⟨m,⟨o',es,ep,ho',hd',_⟩,_⟩:=I.loc
 rw [z,ho'] at ho; cases ho; rw [hd'] at hd; cases hd
theorem Inv.funs (I:Inv X pins σ H s):s.heap.FunFrames X.base X.outer:=by
 have all:∀ (l:List Env),(∀ b∈frs l,b∈X.fs)->X.s₀.heap.FunFrames X.base l->s.heap.FunFrames X.base l:=by
  intro l
  induction l with
  | nil=>intro _ _; trivial
  | cons env r ih =>
   intro hs hl
   obtain ⟨hk,⟨L,o,hf,hn,ho,hd⟩,hr⟩:=hl
   have hL:L∈X.fs:=hs L (by unfold frs; rw [List.filterMap_cons,hf]; exact List.mem_cons_self)
   obtain ⟨sl,e⟩:=I.base.slot L o ho (I.ok.frf L hL) hL λ z=>I.ok.exfs L z hL
   exact ⟨hk,⟨L,_,hf,hn,e,hd⟩,ih (λ b hb=>hs b (by unfold frs; rw [List.filterMap_cons,hf]; exact List.mem_cons_of_mem _ hb)) hr⟩
 exact all X.outer (λ _ hb=>hb) I.ok.funs
theorem Inv.stack (I:Inv X pins σ H s):s.heap.FunFrames X.base X.stack:=by
 rcases I.ok.stk with e | ⟨e,hf⟩
 ·rw [e]; exact I.funs
 ·rw [e]
  obtain ⟨m,hn,_⟩:=I.loc
  refine .cons (by rw [I.ok.kind]; decide) hf hn ?_ I.funs
  exact Heap.get?_none_of_le (Nat.le_trans I.ok.bsz I.ok.above)
theorem Inv.stkSub (I:Inv X pins σ H s):∀ b∈frs X.stack,b∈X.env.locals :: X.fs:=λ b hb=>by
 rcases I.ok.stk with e | ⟨e,hf⟩
 ·rw [e] at hb; exact List.mem_cons_of_mem _ hb
 ·rw [e] at hb
  unfold frs at hb
  rw [List.filterMap_cons,hf] at hb
  exact hb
theorem Inv.stkFree (I:Inv X pins σ H s):∀ b∈frs X.stack,H b=none:=λ b hb=>by
 rcases List.mem_cons.mp (I.stkSub b hb) with e | hb
 ·rw [e]; exact I.free
 ·obtain ⟨_,o,ho,_⟩:=I.ok.funs.mem hb
  exact I.base.free b o ho (I.ok.frf b hb) λ z=>I.ok.exfs b z hb
theorem Inv.step {g':Array GenState}{t':Nat}{d':Drawn}{ch:List Addr}(I:Inv X pins σ H s)
  (hch:∀ b∈ch,(b∈X.ex\/X.s₀.heap.objs.size<=b)/\b≠X.env.locals/\(∀ x c,X.env.cells.lookup x=some c->c≠b)/\∀ p∈X.pn++pins,p.1≠b)
  (keep:∀ b o,b≠X.env.locals->b ∉ X.fs->b ∉ ch->s.heap.get? b=some o->H b=none->h'.get? b=some o)
  (slot:∀ b o,b≠X.env.locals->b∈X.fs->b ∉ ch->s.heap.get? b=some o->H b=none->∃ sl,h'.get? b=some { o with slots:=sl })(free:∀ b o,b ∉ ch->s.heap.get? b=some o->H b=none->H' b=none)
  (there:∀ b o,b ∉ ch->s.heap.get? b=some o->∃ o',h'.get? b=some o')
  (tups:∀ b xs,H b=some (.tup xs)->H' b=some (.tup xs))(frzs:∀ b o u,H b=some (.frz o u)->H' b=some (.frz o u))(tbls:∀ b ps,H b=some (.tbl ps)->∃ more,H' b=some (.tbl (ps++more)))
  (ns:∀ m,s.heap.Ns X.env.locals m->h'.Ns X.env.locals m)(hok:HOk X.prog X.w H' h')(hg:AllBare g') :
  Inv X pins σ H' { s with heap:=h',gens:=g',drawn:=d',toks:=t' }:=by
 have neL:∀ b o,X.s₀.heap.get? b=some o->b≠X.env.locals:=λ b o e=>Nat.ne_of_lt (Nat.lt_of_lt_of_le (Heap.lt_size e) I.ok.above)
 have neC:∀ b o,X.s₀.heap.get? b=some o->b ∉ X.ex->b ∉ ch:=λ b o e hx hb=>by
  rcases (hch b hb).1 with z | z
  ·exact hx z
  ·exact absurd (Nat.lt_of_lt_of_le (Heap.lt_size e) z) (Nat.lt_irrefl _)
 have cellK:∀ x c,X.env.cells.lookup x=some c->∀ v,s.heap.IsCell c v->h'.IsCell c v:=λ x c e v hq0=>by
  obtain ⟨o,ho,hd⟩:=hq0
  have nch:c ∉ ch:=λ z=>(hch c z).2.2.1 x c e rfl
  by_cases hc:c∈X.fs
  ·obtain ⟨sl,q⟩:=slot c o (I.cne x c e) hc nch ho (I.freeC x c e)
   exact ⟨_,q,hd⟩
  ·exact ⟨o,keep c o (I.cne x c e) hc nch ho (I.freeC x c e),hd⟩
 refine ⟨I.ok,I.os,hg,⟨λ b o e n hb hx=>?_,λ b o e n hb hx=>?_,λ b o e n hx=>?_,λ b o e hx=>?_,λ b xs e=>tups b xs (I.base.tups b xs e),λ b o xs e=>frzs b o xs (I.base.frzs b o xs e),λ b ps e=>?_⟩,?_,λ x c e=>?_,?_,λ x c e=>?_,λ p hp=>?_,hok,I.len⟩
 ·exact keep b o (neL b o e) hb (neC b o e hx) (I.base.keep b o e n hb hx) (I.base.free b o e n hx)
 ·obtain ⟨sl,e1⟩:=I.base.slot b o e n hb hx
  obtain ⟨sl',e2⟩:=slot b _ (neL b o e) hb (neC b o e hx) e1 (I.base.free b o e n hx)
  exact ⟨sl',e2⟩
 ·obtain ⟨o',e1⟩:=I.base.there b o e hx
  exact free b o' (neC b o e hx) e1 (I.base.free b o e n hx)
 ·obtain ⟨o',e1⟩:=I.base.there b o e hx
  exact there b o' (neC b o e hx) e1
 ·obtain ⟨m1,e1⟩:=I.base.tbls b ps e
  obtain ⟨m2,e2⟩:=tbls b _ e1
  exact ⟨m1++m2,by rw [e2,Array.append_assoc]⟩
 ·obtain ⟨m,hn,hl⟩:=I.loc
  refine ⟨m,ns m hn,λ i x v e1 e2 e3=>?_⟩
  obtain ⟨u,r,l⟩:=hl i x v e1 e2 e3
  refine ⟨u,r,?_⟩
  rcases l with l | ⟨k,c,e,z⟩
  ·exact .inl l
  ·exact .inr ⟨k,c,e,cellK x c e _ z⟩
 ·obtain ⟨v,z⟩:=I.cell x c e
  exact ⟨v,cellK x c e v z⟩
 ·obtain ⟨m,⟨o,_,_,ho,_⟩,_⟩:=I.loc
  exact free _ o (λ z=>(hch _ z).2.1 rfl) ho I.free
 ·obtain ⟨v,o,ho,hd⟩:=I.cell x c e
  exact free c o (λ z=>(hch c z).2.2.1 x c e rfl) ho (I.freeC x c e)
 ·obtain ⟨e,n,ne,nf,d⟩:=I.pin p hp
  have nch:p.1 ∉ ch:=λ z=>(hch p.1 z).2.2.2 p hp rfl
  exact ⟨keep p.1 p.2 ne nf nch e n,free p.1 p.2 nch e n,ne,nf,d⟩
theorem Inv.un {t':Nat}(I:Inv X pins σ H s)(u:Un X.fs [] H H' s.heap h')(hok:HOk X.prog X.w H' h'):Inv X pins σ H' { s with heap:=h',toks:=t' }:=by
 obtain ⟨m,⟨o,es,ep,ho,r⟩,_⟩:=id I.loc
 obtain ⟨sl,hL⟩:=u.any ho I.free (by simp)
 exact I.step (g':=s.gens) (d':=s.drawn) (ch:=[]) (λ _ z=>nomatch z) (λ b o _ hb _ e n=>u.keep b o e n hb (by simp)) (λ b o _ hb _ e n=>u.slot b o e n hb (by simp)) (λ b o _ e n=>u.free b o e n (by simp)) (λ b o _ e=>u.there b o e (by simp)) u.tups u.frzs u.tbls (λ m' hm=>by
  obtain ⟨o',es',ep',ho',r'⟩:=hm
  rw [ho] at ho'; cases ho'
  exact ⟨_,es',ep',hL,r'⟩) hok I.bare
theorem Inv.call {g':Array GenState}{t':Nat}{d':Drawn}{ch:List Addr}(I:Inv X pins σ H s)(u:Un (frs X.stack) ch H H' s.heap h')(hok:HOk X.prog X.w H' h')(hg:AllBare g')
  (hch:∀ b∈ch,(b∈X.ex\/X.s₀.heap.objs.size<=b)/\b≠X.env.locals/\(∀ x c,X.env.cells.lookup x=some c->c≠b)/\∀ p∈X.pn++pins,p.1≠b) :
  Inv X pins σ H' { s with heap:=h',gens:=g',drawn:=d',toks:=t' }:=by
 obtain ⟨m,⟨o,es,ep,ho,r⟩,_⟩:=id I.loc
 obtain ⟨sl,hL⟩:=u.any ho I.free λ z=>(hch _ z).2.1 rfl
 exact I.step (ch:=ch) hch (λ b o hL hb hc e n=>u.keep b o e n (λ z=>(List.mem_cons.mp (I.stkSub b z)).elim hL hb) hc) (λ b o _ _ hc e n=>u.any e n hc) (λ b o hc e n=>u.free b o e n hc) (λ b o hc e=>u.there b o e hc) u.tups u.frzs u.tbls (λ m' hm=>by
  obtain ⟨o',es',ep',ho',r'⟩:=hm
  rw [ho] at ho'; cases ho'
  exact ⟨_,es',ep',hL,r'⟩) hok hg
theorem Inv.turned {t':Nat}{it:Addr}(I:Inv X pins σ H s)(k:∀ b o,b≠it->s.heap.get? b=some o->h'.get? b=some o)(hn:H it=none)(hL:it≠X.env.locals)
  (h1:it∈X.ex\/X.s₀.heap.objs.size<=it)(h2:∀ x c,X.env.cells.lookup x=some c->c≠it)(h3:∀ p∈X.pn++pins,p.1≠it):Inv X pins σ H { s with heap:=h',toks:=t' }:=by
 have nit:∀ b u,H b=some u->b≠it:=λ b u e z=>by rw [z,hn] at e; cases e
 refine I.step (g':=s.gens) (d':=s.drawn) (ch:=[it]) (λ b hb=>?_) (λ b o _ _ hc e _=>k b o (λ z=>hc (by simp [z])) e) (λ b o _ _ hc e _=>⟨o.slots,k b o (λ z=>hc (by simp [z])) e⟩) (λ _ _ _ _ n=>n)
  (λ b o hc e=>⟨o,k b o (λ z=>hc (by simp [z])) e⟩) (λ _ _ e=>e) (λ _ _ _ e=>e) (λ b ps e=>⟨#[],by rw [e]; simp⟩) (λ m hm=>?_) (λ b u e=>?_) I.bare
 ·have e:b=it:=by simpa using hb
  subst e
  exact ⟨h1,hL,h2,h3⟩
 ·obtain ⟨o,es,ep,ho,r⟩:=hm
  exact ⟨o,es,ep,k _ o (Ne.symm hL) ho,r⟩
 ·refine (I.hok b u e).stay (λ c v hc q=>k c v ?_ q) (λ _ q=>q) λ _ _ q=>q
  rcases hc with z | z
  ·rw [z]; exact nit b u e
  ·exact nit c _ z
theorem Inv.tok (I:Inv X pins σ H s)(t:Nat):Inv X pins σ H { s with toks:=t }:=I.un (h':=s.heap) (t':=t) Un.refl I.hok
theorem Inv.kept {t':Nat}(I:Inv X pins σ H s)(k:∀ b u,s.heap.get? b=some u->h'.get? b=some u):Inv X pins σ H { s with heap:=h',toks:=t' }:=I.un (Un.kept k) (I.hok.kept k)
theorem Inv.laid {a:Addr}{o:HO}{t':Nat}(I:Inv X pins σ H s)(k:∀ b u,s.heap.get? b=some u->h'.get? b=some u)(hp:s.heap.objs.size<=a)(new:ObjOk X.prog X.w (upd H a o) h' a o) :
  Inv X pins σ (upd H a o) { s with heap:=h',toks:=t' }:=I.un (Un.laid k hp (I.hok.fresh hp)) (I.hok.laid k hp new)
theorem Inv.write {x e:Addr}{o:HO}{t':Nat}(I:Inv X pins σ H s)(mu:Mut (H x))(he:e=x\/H e=some (.own x))(k:∀ b u,b≠e->s.heap.get? b=some u->h'.get? b=some u)(heo:∃ u,h'.get? e=some u)
  (new:ObjOk X.prog X.w (upd H x o) h' x o):Inv X pins σ (upd H x o) { s with heap:=h',toks:=t' }:=I.un (Un.write mu he k heo) (I.hok.write mu he k heo new)
theorem Inv.pins_of {pins':List (Addr×Obj)}(I:Inv X pins σ H s)(h:∀ p∈pins',s.heap.get? p.1=some p.2/\H p.1=none/\p.1≠X.env.locals/\p.1 ∉ X.fs/\∀ v,p.2.data ≠ .cell v):Inv X pins' σ H s :=
 ⟨I.ok,I.os,I.bare,I.base,I.loc,I.cell,I.free,I.freeC,λ p hp=>(List.mem_append.mp hp).elim (λ z=>I.pin p (List.mem_append_left _ z)) (h p),I.hok,I.len⟩
theorem nodup_ix {N:List Str}(hN:N.Nodup){i j:Nat}{x:Str}(a:N[i]? = some x)(b:N[j]? = some x):i=j:=by
 obtain ⟨h1,e1⟩:=List.getElem?_eq_some_iff.mp a
 obtain ⟨h2,e2⟩:=List.getElem?_eq_some_iff.mp b
 exact (List.getElem_inj hN).mp (e1.trans e2.symm)
theorem store_ok2 {M:Model}{A:Around}{E:Value->Shared->Prop}{i:Nat}{x:Str}{v:V}{u:Value}{Q:Unit->Shared->Prop}(I:Inv X pins σ H s)(hN:X.N.Nodup)(hi:X.N[i]? = some x)(hx:Loc X.env.scope x)(r:RelV v u)
  (h:∀ s',Inv X pins (σ.set i (some v)) H s'->(∃ a,Heap.SameBut a s.heap s'.heap/\(a=X.env.locals\/X.env.cells.lookup x=some a))->Q () s')(hf:X.fn x=true\/X.env.scope.names.lookup x=some .local:=by first | exact .inl rfl | exact .inr rfl | assumption):wpAny M A (storeName X.env x u) Q E s:=by
 obtain ⟨m,hn,hl⟩:=id I.loc
 have hcls:(X.env.scope.kind == .class || (X.env.scope.kind == .module && X.env.locals != X.env.globals))=false:=by rw [I.ok.kind]; rfl
 have hiσ:i < σ.length:=by rw [I.len]; exact (List.getElem?_eq_some_iff.mp hi).1
 have cne:=I.cne
 have tracked:∀ {a:Addr} {h':Heap},(∃ o,s.heap.get? a=some o/\H a=none)->Heap.SameBut a s.heap h'->HOk X.prog X.w H h':=λ {a h'} ha hs b ob e=>by
  obtain ⟨_,_,hfree⟩:=ha
  refine (I.hok b ob e).stay (λ c w' hc q=>(hs.2 c ?_).trans q) (λ _ q=>q) λ _ _ q=>q
  rintro rfl
  rcases hc with rfl | hc
  ·rw [hfree] at e; cases e
  ·rw [hfree] at hc; cases hc
 rcases hx with hk | hk
 ·refine wpAny_storeName_local hk hn (λ h' hn' hs=>?_) hcls
  obtain ⟨oL,_,_,hoL,_⟩:=id hn
  refine h _ ⟨I.ok,I.os,I.bare,⟨λ b o e n hb hx=>?_,λ b o e n hb hx=>?_,I.base.free,λ b o e hx=>?_,I.base.tups,I.base.frzs,I.base.tbls⟩,⟨_,hn',λ j y v' e1 e2 e3=>?_⟩,λ y c e=>?_,I.free,I.freeC,λ p hp=>?_,tracked ⟨oL,hoL,I.free⟩ hs,by simpa using I.len⟩ ⟨_,hs,.inl rfl⟩
  ·exact (hs.2 b (Nat.ne_of_lt (Nat.lt_of_lt_of_le (Heap.lt_size e) I.ok.above))).trans (I.base.keep b o e n hb hx)
  ·obtain ⟨sl,e1⟩:=I.base.slot b o e n hb hx
   exact ⟨sl,(hs.2 b (Nat.ne_of_lt (Nat.lt_of_lt_of_le (Heap.lt_size e) I.ok.above))).trans e1⟩
  ·obtain ⟨o',e1⟩:=I.base.there b o e hx
   exact ⟨o',(hs.2 b (Nat.ne_of_lt (Nat.lt_of_lt_of_le (Heap.lt_size e) I.ok.above))).trans e1⟩
  ·by_cases hj:j=i
   ·subst hj
    rw [hi] at e1; cases e1
    rw [List.getElem?_set_self hiσ] at e2
    cases e2
    exact ⟨u,r,.inl ⟨hk,by simp⟩⟩
   ·rw [List.getElem?_set_ne (Ne.symm hj)] at e2
    obtain ⟨u',r',q⟩:=hl j y v' e1 e2 e3
    refine ⟨u',r',?_⟩
    rcases q with ⟨k,e⟩ | ⟨k,c,e,z⟩
    ·refine .inl ⟨k,?_⟩
     have:y≠x:=λ e=>hj (nodup_ix hN e1 (e ▸ hi))
     simp [this,e]
    ·exact .inr ⟨k,c,e,z.sameBut hs (cne y c e)⟩
  ·obtain ⟨w',z⟩:=I.cell y c e
   exact ⟨w',z.sameBut hs (cne y c e)⟩
  ·obtain ⟨e,n,ne,nf,d⟩:=I.pin p hp
   exact ⟨(hs.2 p.1 ne).trans e,n,ne,nf,d⟩
 ·have hfn:X.fn x=true:=by
   rcases hf with z | z
   ·exact z
   ·rw [z] at hk; cases hk
  obtain ⟨c,hc⟩:=I.ok.has x (.inl hk)
  obtain ⟨w',z⟩:=I.cell x c hc
  refine wpAny_storeName_cell I.ok.kind hk hc z (λ h' hc' hs=>?_)
  obtain ⟨oc,hoc,hocd⟩:=id z
  refine h { s with heap:=h' } ⟨I.ok,I.os,I.bare,⟨λ b o e n hb hx=>?_,λ b o e n hb hx=>?_,I.base.free,λ b o e hx=>?_,I.base.tups,I.base.frzs,I.base.tbls⟩,⟨m,hn.sameBut hs (Ne.symm (cne x c hc)),λ j y v' e1 e2 e3=>?_⟩,λ y c' e=>?_,I.free,I.freeC,λ p hp=>?_,tracked ⟨oc,hoc,I.freeC x c hc⟩ hs,by simpa using I.len⟩ ⟨c,hs,.inr hc⟩
  ·exact (hs.2 b (Nat.ne_of_lt (Nat.lt_of_lt_of_le (Heap.lt_size e) (I.ok.cab x c hfn hc)))).trans (I.base.keep b o e n hb hx)
  ·obtain ⟨sl,e1⟩:=I.base.slot b o e n hb hx
   exact ⟨sl,(hs.2 b (Nat.ne_of_lt (Nat.lt_of_lt_of_le (Heap.lt_size e) (I.ok.cab x c hfn hc)))).trans e1⟩
  ·obtain ⟨o',e1⟩:=I.base.there b o e hx
   exact ⟨o',(hs.2 b (Nat.ne_of_lt (Nat.lt_of_lt_of_le (Heap.lt_size e) (I.ok.cab x c hfn hc)))).trans e1⟩
  ·by_cases hj:j=i
   ·subst hj
    rw [hi] at e1; cases e1
    rw [List.getElem?_set_self hiσ] at e2
    cases e2
    exact ⟨u,r,.inr ⟨.inl hk,c,hc,hc'⟩⟩
   ·rw [List.getElem?_set_ne (Ne.symm hj)] at e2
    obtain ⟨u',r',q⟩:=hl j y v' e1 e2 e3
    refine ⟨u',r',?_⟩
    rcases q with q | ⟨k,c',e,z'⟩
    ·exact .inl q
    ·refine .inr ⟨k,c',e,z'.sameBut hs ?_⟩
     rintro rfl
     exact hj (nodup_ix hN e1 (I.ok.inj _ _ _ e hc ▸ hi))
  ·by_cases hcc:c'=c
   ·subst hcc; exact ⟨_,hc'⟩
   ·obtain ⟨w2,z2⟩:=I.cell y c' e
    exact ⟨w2,z2.sameBut hs hcc⟩
  ·obtain ⟨e,n,ne,nf,d⟩:=I.pin p hp
   refine ⟨(hs.2 p.1 ?_).trans e,n,ne,nf,d⟩
   intro q
   rw [q,hoc] at e
   have q':oc=p.2:=Option.some.inj e
   exact d w' (by rw [<- q']; exact hocd)
theorem store_ok {M:Model}{A:Around}{E:Value->Shared->Prop}{i:Nat}{x:Str}{v:V}{u:Value}{Q:Unit->Shared->Prop}(I:Inv X pins σ H s)(hN:X.N.Nodup)(hi:X.N[i]? = some x)(hx:Loc X.env.scope x)(r:RelV v u)
  (h:∀ s',Inv X pins (σ.set i (some v)) H s'->Q () s')(hf:X.fn x=true\/X.env.scope.names.lookup x=some .local:=by first | exact .inl rfl | exact .inr rfl | assumption):wpAny M A (storeName X.env x u) Q E s :=
 store_ok2 I hN hi hx r (λ s' I' _=>h s' I') hf
theorem Inv.call' {s':Shared}{ch:List Addr}(I:Inv X pins σ H s)(ho:s'.os=s.os)(u:Un (frs X.stack) ch H H' s.heap s'.heap)(hok:HOk X.prog X.w H' s'.heap)(hg:AllBare s'.gens)
  (hch:∀ b∈ch,(b∈X.ex\/X.s₀.heap.objs.size<=b)/\b≠X.env.locals/\(∀ x c,X.env.cells.lookup x=some c->c≠b)/\∀ p∈X.pn++pins,p.1≠b):Inv X pins σ H' s':=by
 obtain ⟨h',g',d',t',o'⟩:=s'
 have e:o'=s.os:=ho
 subst e
 exact I.call (g':=g') (t':=t') (d':=d') u hok hg hch
end
noncomputable abbrev XK:=Value->Option Addr->Hp->Prop
noncomputable abbrev St:=List (Option V)
noncomputable abbrev VK:=V->Hp->Prop
noncomputable abbrev TE:=St->Hp->VK->Prop
noncomputable abbrev TT:=St->Hp->(Bool->Hp->Prop)->Prop
noncomputable abbrev TA:=St->Hp->(List V->Hp->Prop)->Prop
structure Ends where
 nx:St->Hp->Prop
 rt:VK
 bk:St->Hp->Prop:=λ _ _=>False
 ct:St->Hp->Prop:=λ _ _=>False
noncomputable abbrev TS:=Ends->St->Hp->Prop
noncomputable def EP (X:Cx)(pins:List (Addr×Obj))(σ:St)(Q:VK)(u:Value)(s':Shared):Prop:=∃ v H',Inv X pins σ H' s'/\RelV v u/\Q v H'
noncomputable def TP (X:Cx)(pins:List (Addr×Obj))(σ:St)(Q:Bool->Hp->Prop)(b:Bool)(s':Shared):Prop:=∃ H',Inv X pins σ H' s'/\Q b H'
noncomputable def AP (X:Cx)(pins:List (Addr×Obj))(σ:St)(Q:List V->Hp->Prop)(us:List Value)(s':Shared):Prop:=∃ vs H',Inv X pins σ H' s'/\Vals vs us/\Q vs H'
noncomputable def SP (X:Cx)(pins:List (Addr×Obj))(D:Ends)(f:Flow)(s':Shared):Prop :=
 match f with
 | .next=>∃ σ' H',Inv X pins σ' H' s'/\D.nx σ' H'
 | .brk=>∃ σ' H',Inv X pins σ' H' s'/\D.bk σ' H'
 | .cont=>∃ σ' H',Inv X pins σ' H' s'/\D.ct σ' H'
 | .ret u=>∃ v σ' H',Inv X pins σ' H' s'/\RelV v u/\D.rt v H'
noncomputable def PE (X:Cx)(e:Expr)(t:TE):Prop :=
 ∀ (pins:List (Addr×Obj)) (s:Shared) (σ:St) (H:Hp) (Q:VK),Inv X pins σ H s->t σ H Q->wpAny (model X.prog X.w) X.A (eval e X.env) (EP X pins σ Q) X.xe s
noncomputable def PT (X:Cx)(e:Expr)(t:TT):Prop :=
 ∀ (pins:List (Addr×Obj)) (s:Shared) (σ:St) (H:Hp) (Q:Bool->Hp->Prop),Inv X pins σ H s->t σ H Q->wpAny (model X.prog X.w) X.A (isTrue e X.env (eval e X.env)) (TP X pins σ Q) X.xe s
noncomputable def PW (X:Cx)(e:Expr)(t:TT):Prop :=
 ∀ (whole:Sem Value) (pins:List (Addr×Obj)) (s:Shared) (σ:St) (H:Hp) (Q:Bool->Hp->Prop),Inv X pins σ H s->t σ H Q->wpAny (model X.prog X.w) X.A (isTrue e X.env whole) (TP X pins σ Q) X.xe s
theorem PW.pt {X:Cx}{e:Expr}{t:TT}(h:PW X e t):PT X e t:=h _
noncomputable def PA (X:Cx)(es:List Expr)(t:TA):Prop :=
 ∀ (pos:Pos) (pins:List (Addr×Obj)) (s:Shared) (σ:St) (H:Hp) (Q:List V->Hp->Prop),Inv X pins σ H s->t σ H Q->wpAny (model X.prog X.w) X.A (spliced (backTo pos (starEach es X.env))) (AP X pins σ Q) X.xe s
noncomputable def PS (X:Cx)(st:Stmt)(t:TS):Prop :=
 ∀ (pins:List (Addr×Obj)) (s:Shared) (σ:St) (H:Hp) (D:Ends),Inv X pins σ H s->t D σ H->wpAny (model X.prog X.w) X.A (exec st X.env) (SP X pins D) X.xe s
noncomputable def PSs (X:Cx)(st:List Stmt)(t:TS):Prop :=
 ∀ (pins:List (Addr×Obj)) (s:Shared) (σ:St) (H:Hp) (D:Ends),Inv X pins σ H s->t D σ H->wpAny (model X.prog X.w) X.A (execs st X.env) (SP X pins D) X.xe s
theorem thn {α:Type}{t:Sem α}{Q Q':α->Shared->Prop}{M:Model}{A:Around}{E:Value->Shared->Prop}{s:Shared}(h:wpAny M A t Q E s)(hQ:∀ a s,Q a s->Q' a s):wpAny M A t Q' E s:=wpAny_mono h hQ λ _ _ x=>x
end L2
namespace L2
open PySem PySem.Spec PyProof.Rows
section
variable {X:Cx}
noncomputable def tVar (i:Nat):TE:=λ σ H Q=>∃ v,σ[i]? = some (some v)/\Q v H
noncomputable def tC (v:V):TE:=λ _ H Q=>Q v H
theorem pe_var {i:Nat}{x:Str}{pos:Pos}(hN:X.N[i]? = some x)(hv:Vis X.env.scope x)(hd:(x == ("__debug__" : Str))=false:=by decide)(hcd:(x == ("__classdict__" : Str))=false:=by decide):PE X (.Name x pos) (tVar i):=by
 intro pins s σ H Q I h
 obtain ⟨v,e,h⟩:=h
 obtain ⟨m,hn,hl⟩:=I.loc
 obtain ⟨u,r,l⟩:=hl i x v hN e hv
 have fin:EP X pins σ Q u s:=⟨v,H,I,r,h⟩
 rcases l with ⟨hk,hm⟩ | ⟨hk,c,hc,hcell⟩
 ·exact wpAny_Name (wpAny_loadName_local I.ok.kind hk hn hm fin) hd
 ·rcases hk with hk | hk
  ·exact wpAny_Name (wpAny_loadName_cell I.ok.kind hk hc hcell fin) hd
  ·exact wpAny_Name (wpAny_loadName_free I.ok.kind hk hc hcell fin hcd) hd
theorem pe_int {i j pos}:PE X (.Constant (.int i) j pos) (tC (.int i)):=λ _ _ _ H _ I h=>wpAny_Constant_int ⟨.int i,H,I.tok _,⟨_,rfl⟩,h⟩
theorem pe_bl {b j pos}:PE X (.Constant (.bool b) j pos) (tC (.bl b)):=λ _ _ _ H _ I h=>Constant_bool ⟨.bl b,H,I,rfl,h⟩
theorem pe_non {j pos}:PE X (.Constant .none j pos) (tC .non):=λ _ _ _ H _ I h=>Constant_none ⟨.non,H,I,rfl,h⟩
theorem pe_str {x j pos}:PE X (.Constant (.str x) j pos) (tC (.str x)):=λ _ _ _ H _ I h=>Calls.Constant_str ⟨.str x,H,I.tok _,⟨_,rfl⟩,h⟩
noncomputable def Gl (X:Cx)(x:Str):Prop:=X.env.kindOf x=some .globalImplicit
theorem ld_glob {E:Value->Shared->Prop}{pins:List (Addr×Obj)}{s:Shared}{σ:St}{H:Hp}{x:Str}{u:Value}{pos:Pos}{Q:Value->Shared->Prop}(I:Inv X pins σ H s)(hg:Gl X x)(hm:X.mg x=some u)(h:Q u s)
  (hd:(x == ("__debug__" : Str))=false:=by decide):wpAny (model X.prog X.w) X.A (eval (.Name x pos) X.env) Q E s :=
 Calls.Name_function_global I.ok.kind hg (Calls.loadGlobal_global (by rw [I.ok.glob]; exact I.mod.glob.keeps I.bk) hm h) hd
theorem ld_blt {E:Value->Shared->Prop}{pins:List (Addr×Obj)}{s:Shared}{σ:St}{H:Hp}{x:Str}{u:Value}{pos:Pos}{Q:Value->Shared->Prop}(I:Inv X pins σ H s)(hg:Gl X x)(hm:X.mg x=none)(hv:bootBuiltins x=some u)(h:Q u s)
  (hn:x ≠ "__name__" := by decide)(hd:(x == ("__debug__" : Str))=false:=by decide):wpAny (model X.prog X.w) X.A (eval (.Name x pos) X.env) Q E s:=by
 obtain ⟨mb,h1,h2⟩:=I.mod.blt
 exact Calls.Name_function_global I.ok.kind hg (Calls.loadGlobal_builtin (by rw [I.ok.glob]; exact I.mod.glob.keeps I.bk) hm (by rw [I.ok.blt]; exact h1.keeps I.bk) ((h2 x hn).trans hv) h) hd
theorem pe_glob {x:Str}{v:V}{u:Value}{pos:Pos}(hg:Gl X x)(hm:X.mg x=some u)(r:RelV v u)(hd:(x == ("__debug__" : Str))=false:=by decide):PE X (.Name x pos) (tC v) :=
 λ _ _ _ H _ I h=>ld_glob I hg hm ⟨v,H,I,r,h⟩ hd
theorem pe_bltn {x:Str}{v:V}{u:Value}{pos:Pos}(hg:Gl X x)(hm:X.mg x=none)(hv:bootBuiltins x=some u)(r:RelV v u)(hn:x ≠ "__name__" := by decide)(hd:(x == ("__debug__" : Str))=false:=by decide):PE X (.Name x pos) (tC v) :=
 λ _ _ _ H _ I h=>ld_blt I hg hm hv ⟨v,H,I,r,h⟩ hn hd
variable {a b:Expr}{ta tb:TE}{pos:Pos}
theorem nobehind (b:Expr){op:CmpOp}(h:op ≠ .In)(h2:op ≠ .NotIn):behindInMarks op b=false:=by
 have e1:(op == CmpOp.In)=false:=by cases op <;> first | rfl | exact absurd rfl h
 have e2:(op == CmpOp.NotIn)=false:=by cases op <;> first | rfl | exact absurd rfl h2
 cases b <;> simp [behindInMarks,e1,e2]
noncomputable def tB (t:TE):TT:=λ σ H Q=>t σ H λ x H1=>∃ c,x=.bl c/\Q c H1
variable {tA tB':TT}{rest:List Expr}
end
end L2
namespace L2
open PySem PySem.Spec PyProof.Rows
noncomputable def SqL (K:PySem.W.Frag)(H:Hp)(a:Addr)(xs:List V):Prop :=
 Rd H a (.lst xs) \/
  ∃ (o:Obj) (its:Array Value) (n:Nat),K.lookup a=some o/\o.cls=.type "list" /\ o.dict=none/\o.data=.seq its n/\its.size<=sizeLine/\Vals xs its.toList
noncomputable def SqT (K:PySem.W.Frag)(H:Hp)(a:Addr)(xs:List V):Prop :=
 Rd H a (.tup xs) \/
  ∃ (o:Obj) (its:Array Value) (n:Nat),K.lookup a=some o/\o.cls=.type "tuple" /\ o.dict=none/\o.data=.seq its n/\its.size<=sizeLine/\Vals xs its.toList
noncomputable def absV:Value->Option V
 | .none=>some .non
 | .bool b=>some (.bl b)
 | .int i _=>some (.int i)
 | .str x _=>some (.str x)
 | .bytes b _=>some (.byt b)
 | .float b _=>some (.flt b)
 | .ref a=>some (.ref a)
 | .type n=>some (.ty n)
 | _=>none
theorem RelV.abs {x:V}{u:Value}(r:RelV x u):absV u=some x:=by
 cases x with
 | non=>cases r; rfl
 | bl _=>cases r; rfl
 | int _=>obtain ⟨t,rfl⟩:=r; rfl
 | str _=>obtain ⟨t,rfl⟩:=r; rfl
 | byt _=>obtain ⟨t,rfl⟩:=r; rfl
 | flt _=>obtain ⟨t,rfl⟩:=r; rfl
 | ref _=>cases r; rfl
 | ty _=>cases r; rfl
theorem RelV.inj {x y:V}{u:Value}(r:RelV x u)(q:RelV y u):x=y:=Option.some.inj (r.abs.symm.trans q.abs)
theorem Vals.inj:∀ {xs ys:List V} {us:List Value},Vals xs us->Vals ys us->xs=ys
 | _,_,_,.nil,.nil=>rfl
 | _,_,_,.cons r t,.cons r' t'=>by rw [r.inj r',Vals.inj t t']
section
variable {X:Cx}{pins:List (Addr×Obj)}{σ:St}{H:Hp}{s:Shared}{a:Addr}{xs ys:List V}
theorem SqL.of {K:PySem.W.Frag}(h:H a=some (.lst xs)):SqL K H a xs:=.inl (.inl h)
theorem SqT.of {K:PySem.W.Frag}(h:H a=some (.tup xs)):SqT K H a xs:=.inl (.inl h)
theorem Inv.list (I:Inv X pins σ H s)(h:SqL X.K H a xs):∃ its:List Value,Vals xs its/\PlainL s.heap a its.toArray/\xs.length<=sizeLine:=by
 rcases h with h | ⟨o,its,n,hk,hc,hd,hs,hz,r⟩
 ·obtain ⟨z,its,n,r,e⟩:=h.ok I.hok
  exact ⟨its,r,⟨_,n,e,rfl,rfl,rfl⟩,z⟩
 ·refine ⟨its.toList,r,⟨o,n,I.kIn a o hk,hc,hd,by simpa using hs⟩,?_⟩
  have e:=r.length
  simp only [Array.length_toList] at e
  omega
theorem Inv.tupN (I:Inv X pins σ H s)(h:SqT X.K H a xs):∃ its:List Value,Vals xs its/\TupN s.heap a its.toArray/\xs.length<=sizeLine:=by
 rcases h with h | ⟨o,its,n,hk,hc,hd,hs,hz,r⟩
 ·obtain ⟨z,its,r,p⟩:=h.ok I.hok
  exact ⟨its,r,p,z⟩
 ·refine ⟨its.toList,r,⟨o,I.kIn a o hk,hc,hd,n,by simpa using hs⟩,?_⟩
  have e:=r.length
  simp only [Array.length_toList] at e
  omega
theorem Inv.tuple (I:Inv X pins σ H s)(h:SqT X.K H a xs):∃ its:List Value,Vals xs its/\IsTup s.heap a its.toArray/\xs.length<=sizeLine:=by
 obtain ⟨its,r,p,z⟩:=I.tupN h
 exact ⟨its,r,p.tup,z⟩
theorem Inv.list_inj (I:Inv X pins σ H s)(h:SqL X.K H a xs)(h':SqL X.K H a ys):xs=ys:=by
 obtain ⟨its,r,⟨o,n,e,_,_,d⟩,_⟩:=I.list h
 obtain ⟨its',r',⟨o',n',e',_,_,d'⟩,_⟩:=I.list h'
 rw [e] at e'; cases e'
 rw [d] at d'
 injection d' with d1 _
 have:its=its':=by simpa using congrArg Array.toList d1
 subst this
 exact r.inj r'
theorem Inv.tuple_inj (I:Inv X pins σ H s)(h:SqT X.K H a xs)(h':SqT X.K H a ys):xs=ys:=by
 obtain ⟨its,r,⟨o,e,_,n,d⟩,_⟩:=I.tuple h
 obtain ⟨its',r',⟨o',e',_,n',d'⟩,_⟩:=I.tuple h'
 rw [e] at e'; cases e'
 rw [d] at d'
 injection d' with d1 _
 have:its=its':=by simpa using congrArg Array.toList d1
 subst this
 exact r.inj r'
end
noncomputable abbrev Cx.wish (X:Cx)(E:Value->Shared->Prop):Cx:={ X with xe:=E }
noncomputable abbrev Cx.nox (X:Cx):Cx:=X.wish λ _ _=>False
theorem Cx.Ok.wish {X:Cx}(ok:X.Ok)(E:Value->Shared->Prop):(X.wish E).Ok :=
 ⟨ok.mod,ok.kind,ok.glob,ok.blt,ok.above,ok.inj,ok.has,ok.cab,ok.hd,ok.frames,ok.stk,ok.exf,ok.bs,ok.bsz,ok.noex,ok.exfs,ok.funs,ok.frf⟩
theorem Cx.Ok.unwish {X:Cx}{E:Value->Shared->Prop}(ok:(X.wish E).Ok):X.Ok :=
 ⟨ok.mod,ok.kind,ok.glob,ok.blt,ok.above,ok.inj,ok.has,ok.cab,ok.hd,ok.frames,ok.stk,ok.exf,ok.bs,ok.bsz,ok.noex,ok.exfs,ok.funs,ok.frf⟩
section
variable {X:Cx}{pins:List (Addr×Obj)}{σ:St}{H:Hp}{s:Shared}{E:Value->Shared->Prop}
theorem Inv.wish (I:Inv X pins σ H s)(E:Value->Shared->Prop):Inv (X.wish E) pins σ H s:=⟨I.ok.wish E,I.os,I.bare,I.base,I.loc,I.cell,I.free,I.freeC,I.pin,I.hok,I.len⟩
theorem Inv.unwish (I:Inv (X.wish E) pins σ H s):Inv X pins σ H s:=⟨I.ok.unwish,I.os,I.bare,I.base,I.loc,I.cell,I.free,I.freeC,I.pin,I.hok,I.len⟩
theorem SP.unwish {D:Ends}{f:Flow}{s':Shared}(h:SP (X.wish E) pins D f s'):SP X pins D f s':=by
 cases f with
 | next=>obtain ⟨σ',H',I,q⟩:=h; exact ⟨σ',H',I.unwish,q⟩
 | brk=>obtain ⟨σ',H',I,q⟩:=h; exact ⟨σ',H',I.unwish,q⟩
 | cont=>obtain ⟨σ',H',I,q⟩:=h; exact ⟨σ',H',I.unwish,q⟩
 | ret u=>obtain ⟨v,σ',H',I,r,q⟩:=h; exact ⟨v,σ',H',I.unwish,r,q⟩
theorem PE.nox {e:Expr}{t:TE}(h:PE X.nox e t):PE X e t:=λ pins s σ H Q I hw =>
 wpAny_mono (h pins s σ H Q (I.wish _) hw) (λ _ _ ⟨v,H',I',r,q⟩=>⟨v,H',I'.unwish,r,q⟩) λ _ _ z=>False.elim z
theorem PT.nox {e:Expr}{t:TT}(h:PT X.nox e t):PT X e t:=λ pins s σ H Q I hw =>
 wpAny_mono (h pins s σ H Q (I.wish _) hw) (λ _ _ ⟨H',I',q⟩=>⟨H',I'.unwish,q⟩) λ _ _ z=>False.elim z
theorem PSs.nox {st:List Stmt}{t:TS}(h:PSs X.nox st t):PSs X st t:=λ pins s σ H D I hw =>
 wpAny_mono (h pins s σ H D (I.wish _) hw) (λ _ _ q=>q.unwish) λ _ _ z=>False.elim z
end
section
variable {X:Cx}{st:Stmt}{rest:List Stmt}{t u:TS}{e:Expr}{te:TE}{pos:Pos}
noncomputable def tNext:TS:=λ D σ H=>D.nx σ H
noncomputable def tSeq (t u:TS):TS:=λ D σ H=>t { D with nx:=u D } σ H
theorem pss_nil:PSs X [] tNext:=λ _ _ σ H _ I h=>wpAny_execs_nil ⟨σ,H,I,h⟩
theorem pss_cons (h1:PS X st t)(h2:PSs X rest u):PSs X (st :: rest) (tSeq t u):=by
 intro pins s σ H D I h
 refine wpAny_execs_cons (thn (h1 pins s σ H { D with nx:=u D } I h) λ f s1 q=>?_)
 cases f with
 | next =>
  obtain ⟨σ',H',I',q⟩:=q
  exact h2 pins s1 σ' H' D I' q
 | ret v=>exact q
 | brk=>exact q
 | cont=>exact q
theorem pss_one (h1:PS X st t):PSs X [st] t:=by
 intro pins s σ H D I h
 refine wpAny_execs_cons (thn (h1 pins s σ H D I h) λ f s1 q=>?_)
 cases f with
 | next=>exact wpAny_execs_nil q
 | ret v=>exact q
 | brk=>exact q
 | cont=>exact q
theorem Inv.quiet {pins:List (Addr×Obj)}{σ:St}{H:Hp}{s:Shared}(I:Inv X pins σ H s):interactive X.env=false:=by simp [interactive,I.ok.kind]
noncomputable def tDrop (te:TE):TS:=λ D σ H=>te σ H λ _ H1=>D.nx σ H1
theorem ps_expr (he:PE X e te)(hs:swapsWith e none pos.line X.env=pure false:=by rfl):PS X (.Expr e pos) (tDrop te):=by
 intro pins s σ H D I h
 exact wpAny_Expr_any (thn (he pins s σ H _ I h) λ v s1 ⟨x,H1,I1,r1,q1⟩=>⟨σ,H1,I1,q1⟩) I.quiet hs
noncomputable def tRet (te:TE):TS:=λ D σ H=>te σ H D.rt
theorem ps_ret (he:PE X e te):PS X (.Return (some e) pos) (tRet te):=by
 intro pins s σ H D I h
 exact wpAny_Return_some (thn (he pins s σ H _ I h) λ v s1 ⟨x,H1,I1,r1,q1⟩=>⟨x,σ,H1,I1,r1,q1⟩)
noncomputable def tIfS (c:TT)(t u:TS):TS:=λ D σ H=>c σ H λ b H1=>if b=true then t D σ H1 else u D σ H1
theorem ps_if {c:Expr}{a b:List Stmt}{tc:TT}(hc:PT X c tc)(ha:PSs X a t)(hb:PSs X b u):PS X (.If c a b pos) (tIfS tc t u):=by
 intro pins s σ H D I h
 refine wpAny_If (thn (hc pins s σ H _ I h) λ d s1 hq1=>?_)
 obtain ⟨H1,I1,q1⟩:=hq1
 cases d with
 | true=>exact ha pins s1 σ H1 D I1 q1
 | false=>exact hb pins s1 σ H1 D I1 q1
end
noncomputable abbrev TG:=V->St->Hp->(St->Hp->Prop)->Prop
noncomputable def PG (X:Cx)(target:Expr)(t:TG):Prop :=
 ∀ (pins:List (Addr×Obj)) (s:Shared) (σ:St) (H:Hp) (v:V) (u:Value) (Q:St->Hp->Prop),Inv X pins σ H s->RelV v u->t v σ H Q ->
  wpAny (model X.prog X.w) X.A (assign target X.env u) (λ _ s'=>∃ σ' H',Inv X pins σ' H' s'/\Q σ' H') X.xe s
noncomputable abbrev TSet:=V->V->V->Hp->(Hp->Prop)->Prop
noncomputable def PSet (X:Cx)(t:TSet):Prop :=
 ∀ (pins:List (Addr×Obj)) (s:Shared) (σ:St) (H:Hp) (o i v:V) (ov iv u:Value) (Q:Hp->Prop),Inv X pins σ H s->RelV o ov->RelV i iv->RelV v u->t o i v H Q ->
  wpAny (model X.prog X.w) X.A (setItem ov iv u) (λ _ s'=>∃ H',Inv X pins σ H' s'/\Q H') X.xe s
noncomputable abbrev TIp:=V->V->Hp->VK->Prop
noncomputable def PIp (X:Cx)(op:Operator)(t:TIp):Prop :=
 ∀ (pins:List (Addr×Obj)) (s:Shared) (σ:St) (H:Hp) (x y:V) (v u:Value) (Q:VK),Inv X pins σ H s->RelV x v->RelV y u->t x y H Q ->
  wpAny (model X.prog X.w) X.A (inplaceOp op v u) (EP X pins σ Q) X.xe s
section
variable {X:Cx}{pos:Pos}
noncomputable def gName (i:Nat):TG:=λ v σ H Q=>Q (σ.set i (some v)) H
theorem pg_name {i:Nat}{x:Str}(hN:X.N.Nodup)(hi:X.N[i]? = some x)(hx:Loc X.env.scope x)(hf:X.fn x=true\/X.env.scope.names.lookup x=some .local:=by first | exact .inl rfl | exact .inr rfl | assumption):PG X (.Name x pos) (gName i):=by
 intro pins s σ H v u Q I r h
 exact wpAny_assign_Name (store_ok I hN hi hx r (λ s' I'=>⟨_,H,I',h⟩) hf)
noncomputable def gSub (to ti:TE)(t:TSet):TG:=λ v σ H Q=>to σ H λ o H1=>ti σ H1 λ i H2=>t o i v H2 λ H3=>Q σ H3
theorem pg_sub {o i:Expr}{to ti:TE}{t:TSet}(ho:PE X o to)(hi:PE X i ti)(hs:PSet X t)
  (ha:∀ v,assign (.Subscript o i pos) X.env v=(do
   let ov <- holding [v] (eval o X.env)
   let iv <- holding [v,ov] (eval i X.env)
   standAt pos
   holding [v,ov,iv] (setItem ov iv v)
   release [v,ov,iv] []):=by intro _; rfl):PG X (.Subscript o i pos) (gSub to ti t):=by
 intro pins s σ H v u Q I r h
 rw [ha]
 refine wpAny_bind (wpAny_holding (thn (ho pins s σ H _ I h) λ ov s1 hq2=>?_))
 obtain ⟨x,H1,I1,r1,q1⟩:=hq2
 refine wpAny_bind (wpAny_holding (thn (hi pins s1 σ H1 _ I1 q1) λ iv s2 hq3=>?_))
 obtain ⟨y,H2,I2,r2,q2⟩:=hq3
 refine wpAny_bind (wpAny_standAt (wpAny_bind (wpAny_holding (thn (hs pins s2 σ H2 x y v ov iv u _ I2 r1 r2 r q2) λ _ s3 hq4=>?_))))
 obtain ⟨H3,I3,q3⟩:=hq4
 exact wpAny_release ⟨σ,H3,I3,q3⟩
noncomputable def tAsg (te:TE)(g:TG):TS:=λ D σ H=>te σ H λ x H1=>g x σ H1 D.nx
theorem ps_asg {tg e:Expr}{te:TE}{g:TG}(he:PE X e te)(hg:PG X tg g)(hs:swapsWithSole [tg] e pos.line X.env=pure false:=by rfl)(hw:swappedStores [tg] e X.env=pure none:=by rfl)
  (h1:(assignEach [tg] X.env).map (·.2)=[assign tg X.env]:=by rfl):PS X (.Assign [tg] e pos) (tAsg te g):=by
 intro pins s σ H D I h
 refine wpAny_Assign_stores (thn (he pins s σ H _ I h) λ v s1 ⟨x,H1,I1,r1,q1⟩=>?_) hs hw
 rw [h1]
 exact thn (hg pins s1 σ H1 x v _ I1 r1 q1) λ _ s2 q=>q
theorem ps_set {i:Nat}{x:Str}{e:Expr}{te:TE}{pos':Pos}(hN:X.N.Nodup)(hi:X.N[i]? = some x)(hx:Loc X.env.scope x)(he:PE X e te)(hs:swapsWith e (some (.Name x pos')) pos.line X.env=pure false:=by rfl)(hf:X.fn x=true\/X.env.scope.names.lookup x=some .local:=by first | exact .inl rfl | exact .inr rfl | assumption) :
  PS X (.Assign [.Name x pos'] e pos) (tAsg te (gName i)):=by
 intro pins s σ H D I h
 refine wpAny_Assign_Name (thn (he pins s σ H _ I h) λ v s1 ⟨y,H1,I1,r1,q1⟩=>?_) hs
 exact store_ok I1 hN hi hx r1 (λ s2 I2=>⟨_,H1,I2,q1⟩) hf
noncomputable def tAugS (to ti te:TE)(tget:V->V->Hp->VK->Prop)(tip:TIp)(tset:TSet):TS:=λ D σ H=>to σ H λ o H1=>ti σ H1 λ i H2=>tget o i H2 λ x H3=>te σ H3 λ y H4=>tip x y H4 λ z H5=>tset o i z H5 λ H6=>D.nx σ H6
noncomputable def PGet (X:Cx)(t:V->V->Hp->VK->Prop):Prop :=
 ∀ (pins:List (Addr×Obj)) (s:Shared) (σ:St) (H:Hp) (o i:V) (ov iv:Value) (Q:VK),Inv X pins σ H s->RelV o ov->RelV i iv->t o i H Q ->
  wpAny (model X.prog X.w) X.A (getItem ov iv) (EP X pins σ Q) X.xe s
theorem ps_augS {o i e:Expr}{to ti te:TE}{tget:V->V->Hp->VK->Prop}{tip:TIp}{tset:TSet}{op:Operator}{tpos:Pos}(ho:PE X o to)(hi:PE X i ti)(hg:PGet X tget)(he:PE X e te)(hp:PIp X op tip)(hs:PSet X tset)
  (ha:∀ ov iv new,augStore i ov iv new=(do holding [new,ov,iv] (setItem ov iv new); release [new,ov,iv] []; pure .next):=by intros; rfl):PS X (.AugAssign (.Subscript o i tpos) op e pos) (tAugS to ti te tget tip tset):=by
 intro pins s σ H D I h
 refine wpAny_AugAssign_SubscriptAny (thn (ho pins s σ H _ I h) λ ov s1 ⟨x1,H1,I1,r1,q1⟩=>?_) ha
 refine thn (hi pins s1 σ H1 _ I1 q1) λ iv s2 hq5=>?_
 obtain ⟨x2,H2,I2,r2,q2⟩:=hq5
 refine thn (hg pins s2 σ H2 x1 x2 ov iv _ I2 r1 r2 q2) λ old s3 hq6=>?_
 obtain ⟨x3,H3,I3,r3,q3⟩:=hq6
 refine thn (he pins s3 σ H3 _ I3 q3) λ v s4 hq7=>?_
 obtain ⟨x4,H4,I4,r4,q4⟩:=hq7
 refine thn (hp pins s4 σ H4 x3 x4 old v _ I4 r3 r4 q4) λ new s5 hq8=>?_
 obtain ⟨x5,H5,I5,r5,q5⟩:=hq8
 exact thn (hs pins s5 σ H5 x1 x2 x5 ov iv new _ I5 r1 r2 r5 q5) λ _ s6 ⟨H6,I6,q6⟩=>⟨σ,H6,I6,q6⟩
noncomputable def ipI (f:Int->Int->Int):TIp:=λ x y H Q=>∃ i j,x=.int i/\y=.int j/\Q (.int (f i j)) H
theorem ip_add:PIp X .Add (ipI λ i j=>i+j):=by
 intro pins s σ H x y v u Q I r1 r2 h
 obtain ⟨i,j,e1,e2,q⟩:=h
 subst e1; subst e2
 obtain ⟨t,rfl⟩:=r1
 obtain ⟨t',rfl⟩:=r2
 exact iadd_int ⟨.int _,H,I.tok _,⟨_,rfl⟩,q⟩
end
section
variable {X:Cx}{pos:Pos}
end
structure It where
 go:Nat->Hp->Prop
 yld:Nat->Hp->V->Hp->Prop
 stop:Nat->Hp->Prop
noncomputable def FpOk (X:Cx)(pins:List (Addr×Obj))(H:Hp)(b:Addr):Prop :=
 H b=none/\b≠X.env.locals/\b ∉ X.fs/\(b∈X.ex\/X.s₀.heap.objs.size<=b)/\(∀ x c,X.env.cells.lookup x=some c->c≠b)/\∀ p∈X.pn++pins,p.1≠b
theorem Inv.fpOk {X:Cx}{pins:List (Addr×Obj)}{σ:St}{H H':Hp}{s:Shared}{b:Addr}(I:Inv X pins σ H s)(hb:s.heap.objs.size<=b)(hn:H' b=none):FpOk X pins H' b:=by
 refine ⟨hn,Nat.ne_of_gt (Nat.lt_of_lt_of_le I.lt hb),I.nofs hb,.inr (Nat.le_trans I.sz hb),λ x c e z=>?_,λ p hp z=>?_⟩
 ·obtain ⟨v,q⟩:=I.cell x c e
  exact absurd (Nat.lt_of_lt_of_le q.lt (by rw [z]; exact hb)) (Nat.lt_irrefl _)
 ·exact absurd (Nat.lt_of_lt_of_le (Heap.lt_size (I.pin p hp).1) (by rw [z]; exact hb)) (Nat.lt_irrefl _)
structure Turn (P:Program)(w:World)(K:PySem.W.Frag)(tg:Expr)(J:It)(fp:List Addr)(it:Addr)(tn:Nat->Heap->Prop):Prop where
 mem:it∈fp
 obj:∀ i h,tn i h->∀ b∈fp,∃ o,h.get? b=some o/\∀ v,o.data ≠ .cell v
 keep:∀ i h h',tn i h->(∀ b∈fp,∀ o,h.get? b=some o->h'.get? b=some o)->tn i h'
 item:∀ (X:Cx),X.prog=P->X.w=w->X.K=K->X.calm=true->∀ (i:Nat) (pins:List (Addr×Obj)) (s:Shared) (σ:St) (H:Hp) (E:Value->Shared->Prop),Inv X pins σ H s->(∀ b∈fp,FpOk X pins H b)->tn i s.heap->J.go i H ->
  wpAny (model P w) X.A (pyNext (.ref it)) (λ r s1=>∃ u,r=some u /\
   wpAny (model P w) X.A (letOwnedTupleGo tg (.ref it) u) (λ _ s2=>∃ x H',Inv X pins σ H' s2/\RelV x u/\J.yld i H x H'/\tn (i+1) s2.heap/\∀ b∈fp,H' b=none) E s1) E s
 done:∀ (X:Cx),X.prog=P->X.w=w->X.K=K->X.calm=true->∀ (i:Nat) (pins:List (Addr×Obj)) (s:Shared) (σ:St) (H:Hp) (E:Value->Shared->Prop),Inv X pins σ H s->(∀ b∈fp,FpOk X pins H b)->tn i s.heap->J.stop i H ->
  wpAny (model P w) X.A (pyNext (.ref it)) (λ r s1=>r=none/\Inv X pins σ H s1) E s
 self:∀ (A:Around) (i:Nat) (s:Shared) (Q:Value->Shared->Prop) (E:Value->Shared->Prop),tn i s.heap->Q (.ref it) s->wpAny (model P w) A (pyIter (.ref it)) Q E s
noncomputable abbrev TI:=St->Hp->(It->Hp->Prop)->Prop
noncomputable def PIE (X:Cx)(pins:List (Addr×Obj))(σ:St)(tg:Expr)(R:It->Hp->Prop)(itv:Value)(s2:Shared):Prop :=
 ∃ (it:Addr) (fp:List Addr) (tn:Nat->Heap->Prop) (J:It) (H':Hp),itv=.ref it/\Inv X pins σ H' s2/\Turn X.prog X.w X.K tg J fp it tn/\tn 0 s2.heap/\(∀ b∈fp,FpOk X pins H' b)/\R J H'
noncomputable def PI (X:Cx)(tg iter:Expr)(wi:TI):Prop :=
 ∀ (pins:List (Addr×Obj)) (s:Shared) (σ:St) (H:Hp) (R:It->Hp->Prop),Inv X pins σ H s->wi σ H R ->
  wpAny (model X.prog X.w) X.A (eval iter X.env) (λ v s1=>wpAny (model X.prog X.w) X.A (pyIter v) (PIE X pins σ tg R) X.xe s1) X.xe s
theorem go_of {M:Model}{A:Around}{E:Value->Shared->Prop}{s:Shared}{tg:Expr}{it:Addr}{u:Value}{o:Obj}{n:String}{vs:Array Value}{Q:Unit->Shared->Prop}(ho:s.heap.get? it=some o)(hc:o.cls=.type n)(hd:o.data=.fields vs)
  (hn:["enumerate", "zip", "dict_itemiterator", "dict_reverseitemiterator", "odict_iterator", "itertools.zip_longest", "itertools.pairwise"].contains n=false)(hQ:Q () s):wpAny M A (letOwnedTupleGo tg (.ref it) u) Q E s:=by
 unfold letOwnedTupleGo
 cases tg <;> first
  | exact wpAny_pure hQ
  | (cases u <;> first
    | exact wpAny_pure hQ
    | (refine wpAny_bind (wpAny_load ho ?_)
       rw [hc,hd]
       show wpAny M A (if (["enumerate", "zip", "dict_itemiterator", "dict_reverseitemiterator", "odict_iterator", "itertools.zip_longest", "itertools.pairwise"].contains n && vs[0]? == some (rawInt _))=true then _ else _) Q E s
       rw [if_neg (by intro h; rw [hn,Bool.false_and] at h; cases h)]
       exact wpAny_pure hQ))
noncomputable def Itl (K:PySem.W.Frag)(a:Addr):It :=
 ⟨λ i H=>∃ xs x,SqL K H a xs/\xs[i]? = some x,λ i H x H'=>H'=H/\∀ xs,SqL K H a xs->xs[i]? = some x,λ i H=>∃ xs,SqL K H a xs/\xs.length<=i⟩
noncomputable def Itt (K:PySem.W.Frag)(a:Addr):It :=
 ⟨λ i H=>∃ xs x,SqT K H a xs/\xs[i]? = some x,λ i H x H'=>H'=H/\∀ xs,SqT K H a xs->xs[i]? = some x,λ i H=>∃ xs,SqT K H a xs/\xs.length<=i⟩
noncomputable def Itr (lo:Int)(n:Nat):It:=⟨λ i _=>i < n,λ i H x H'=>H'=H/\x=.int (lo+i),λ i _=>n<=i⟩
theorem turn_list {P:Program}{w:World}{K:PySem.W.Frag}{tg:Expr}(a it:Addr):Turn P w K tg (Itl K a) [it] it (λ i h=>h.IsListIter it a i) where
 mem:=by simp
 obj:=λ i h st b hb=>by
  have e:b=it:=by simpa using hb
  subst e
  obtain ⟨o,e,c,d⟩:=st
  exact ⟨o,e,λ v z=>by rw [d] at z; cases z⟩
 keep:=λ i h h' st k=>st.at λ o e=>k it (by simp) o e
 item:=by
  intro X hP hw hK hc i pins s σ H E I hf st hg
  subst hP hw hK
  obtain ⟨xs,x,hq,hx⟩:=hg
  obtain ⟨its,rv,p,hz⟩:=I.list hq
  obtain ⟨u,hu,ru⟩:=rv.get hx
  obtain ⟨f0,f1,f2,f3,f4,f5⟩:=hf it (by simp)
  refine wpAny_pyNext_list_item st p.isList (x:=u) (by simpa using hu) λ h' st' sb=>?_
  have I1:Inv X pins σ H { s with heap:=h' }:=I.turned (t':=s.toks) (λ b o hb e=>(sb.2 b hb).trans e) f0 f1 f3 f4 f5
  obtain ⟨o,e,c,d⟩:=id st'
  exact ⟨u,rfl,go_of (s:={ s with heap:=h' }) e c d (by decide) ⟨x,H,I1,ru,⟨rfl,λ ys hy=>by rw [I.list_inj hy hq]; exact hx⟩,st',λ b hb=>(hf b hb).1⟩⟩
 done:=by
  intro X hP hw hK hc i pins s σ H E I hf st hg
  subst hP hw hK
  obtain ⟨xs,hq,hx⟩:=hg
  obtain ⟨its,rv,p,hz⟩:=I.list hq
  obtain ⟨f0,f1,f2,f3,f4,f5⟩:=hf it (by simp)
  have hl:=rv.length
  exact wpAny_pyNext_list_end (I.ok.hd hc) st p.isList (by simp; omega) λ h' eb=>⟨rfl,I.turned (t':=s.toks) (λ b o hb e=>eb b o hb e) f0 f1 f3 f4 f5⟩
 self:=λ _ _ _ _ _ st h=>wpAny_pyIter_listiter st h
theorem turn_tuple {P:Program}{w:World}{K:PySem.W.Frag}{tg:Expr}(a it:Addr):Turn P w K tg (Itt K a) [it] it (λ i h=>h.IsTupleIter it a i) where
 mem:=by simp
 obj:=λ i h st b hb=>by
  have e:b=it:=by simpa using hb
  subst e
  obtain ⟨o,e,c,d⟩:=st
  exact ⟨o,e,λ v z=>by rw [d] at z; cases z⟩
 keep:=λ i h h' st k=>st.at λ o e=>k it (by simp) o e
 item:=by
  intro X hP hw hK hc i pins s σ H E I hf st hg
  subst hP hw hK
  obtain ⟨xs,x,hq,hx⟩:=hg
  obtain ⟨its,rv,p,hz⟩:=I.tuple hq
  obtain ⟨u,hu,ru⟩:=rv.get hx
  obtain ⟨f0,f1,f2,f3,f4,f5⟩:=hf it (by simp)
  refine wpAny_pyNext_tuple_item st (show s.heap.IsTuple a its.toArray from p) (x:=u) (by simpa using hu) λ h' st' sb=>?_
  have I1:Inv X pins σ H { s with heap:=h' }:=I.turned (t':=s.toks) (λ b o hb e=>(sb.2 b hb).trans e) f0 f1 f3 f4 f5
  obtain ⟨o,e,c,d⟩:=id st'
  exact ⟨u,rfl,go_of (s:={ s with heap:=h' }) e c d (by decide) ⟨x,H,I1,ru,⟨rfl,λ ys hy=>by rw [I.tuple_inj hy hq]; exact hx⟩,st',λ b hb=>(hf b hb).1⟩⟩
 done:=by
  intro X hP hw hK hc i pins s σ H E I hf st hg
  subst hP hw hK
  obtain ⟨xs,hq,hx⟩:=hg
  obtain ⟨its,rv,p,hz⟩:=I.tuple hq
  obtain ⟨f0,f1,f2,f3,f4,f5⟩:=hf it (by simp)
  have hl:=rv.length
  exact wpAny_pyNext_tuple_end (I.ok.hd hc) st (show s.heap.IsTuple a its.toArray from p) (by simp; omega) λ h' eb=>⟨rfl,I.turned (t':=s.toks) (λ b o hb e=>eb b o hb e) f0 f1 f3 f4 f5⟩
 self:=λ _ _ _ _ _ st h=>wpAny_pyIter_tupleiter st h
theorem turn_range {P:Program}{w:World}{K:PySem.W.Frag}{tg:Expr}(it:Addr)(lo:Int)(n:Nat):Turn P w K tg (Itr lo n) [it] it (λ i h=>IsRangeIter h it (lo+(i:Nat) * 1) ((n:Int) - (i:Nat)) 1) where
 mem:=by simp
 obj:=λ i h st b hb=>by
  have e:b=it:=by simpa using hb
  subst e
  exact ⟨_,st,λ v z=>by
   have z':Data.fields _=Data.cell v:=z
   cases z'⟩
 keep:=λ i h h' st k=>k it (by simp) _ st
 item:=by
  intro X hP hw hK hc i pins s σ H E I hf st hg
  subst hP hw hK
  obtain ⟨f0,f1,f2,f3,f4,f5⟩:=hf it (by simp)
  have W:=Walks.range (prog:=X.prog) (w:=X.w) (I.ok.hd hc) it lo 1 n
  refine W.item i s _ _ hg st λ v h' tk hv st' kk=>?_
  obtain ⟨t,rfl⟩:=hv
  have I1:Inv X pins σ H { s with heap:=h',toks:=tk }:=I.turned (λ b o hb e=>kk b o (by simpa using hb) e) f0 f1 f3 f4 f5
  refine ⟨_,rfl,go_of (s:={ s with heap:=h',toks:=tk }) (n := "range_iterator") st' rfl rfl (by decide) ⟨.int (lo+i),H,I1,⟨t,?_⟩,⟨rfl,rfl⟩,st',λ b hb=>(hf b hb).1⟩⟩
  rw [Int.mul_one]
 done:=by
  intro X hP hw hK hc i pins s σ H E I hf st hg
  subst hP hw hK
  obtain ⟨f0,f1,f2,f3,f4,f5⟩:=hf it (by simp)
  exact wpAny_pyNext_range_end (I.ok.hd hc) st (by have:n<=i:=hg; omega) λ h' eb=>⟨rfl,I.turned (t':=s.toks) (λ b o hb e=>eb b o hb e) f0 f1 f3 f4 f5⟩
 self:=λ _ _ _ _ _ st h=>wpAny_pyIter_rangeiter st h
end L2
namespace L2
open PySem PySem.Spec PyProof.Rows
section
variable {X:Cx}{tg:Expr}
theorem range_it {pins:List (Addr×Obj)}{σ:St}{H:Hp}{s:Shared}{R:It->Hp->Prop}{E:Value->Shared->Prop}{lo hi:Int}{t u v:Tok}{tk:Nat}(I:Inv X pins σ H s)(h1:-(2 ^ 62)<=lo)(h2:lo < 2 ^ 62)(h3:-(2 ^ 62)<=hi)(h4:hi < 2 ^ 62)
  (q:R (Itr lo (hi - lo).toNat) H):wpAny (model X.prog X.w) X.A (pyIter (.ref s.heap.objs.size)) (PIE X pins σ tg R) E { s with heap:=s.heap.push { cls:=.type "range",data:=.fields #[.int lo t,.int hi u,.int 1 v] },toks:=tk }:=by
 refine wpAny_pyIter_range (IsRange.new ..) (small_one h1 h2 h3 h4) ?_
 have I1:Inv X pins σ H { s with heap:=s.heap.push { cls:=.type "range",data:=.fields #[.int lo t,.int hi u,.int 1 v] },toks:=tk }:=I.kept λ b o e=>Heap.get?_push_of_some _ e
 refine ⟨(s.heap.push { cls:=.type "range",data:=.fields #[.int lo t,.int hi u,.int 1 v] }).objs.size,[(s.heap.push { cls:=.type "range",data:=.fields #[.int lo t,.int hi u,.int 1 v] }).objs.size],_,_,H,rfl,
  I1.kept (t':=tk) λ b o e=>Heap.get?_push_of_some _ e,turn_range _ lo (hi - lo).toNat,?_,λ b hb=>?_,q⟩
 ·have e1:lo+((0:Nat):Int) * 1=lo:=by simp
  have e2:(((hi - lo).toNat:Nat):Int) - ((0:Nat):Int)=Builtin.Range.rangeSize lo hi 1:=by rw [rangeSize_one]; split <;> omega
  show IsRangeIter _ _ (lo+((0:Nat):Int) * 1) ((((hi - lo).toNat:Nat):Int) - ((0:Nat):Int)) 1
  rw [e1,e2]
  exact Heap.get?_push_size _ rfl
 ·have e:b=(s.heap.push { cls:=.type "range",data:=.fields #[.int lo t,.int hi u,.int 1 v] }).objs.size:=by simpa using hb
  subst e
  exact I1.fpOk (Nat.le_refl _) (I1.hok.fresh (Nat.le_refl _))
noncomputable def iRng1 (ta:TA):TI:=λ σ H R=>ta σ H λ vs H1=>∃ j:Int,vs=[.int j]/\-(2 ^ 62)<=j/\j < 2 ^ 62/\R (Itr 0 j.toNat) H1
theorem pi_range1 {a:Expr}{ta:TA}{p pos:Pos}(hg:Gl X "range")(hm:X.mg "range" = none)(ha:PA X [a] ta)(hs:starEach [a] X.env=[(false,eval a X.env)]:=by rfl):PI X tg (.Call (.Name "range" p) [a] [] pos) (iRng1 ta):=by
 intro pins s σ H R I h
 refine Call_ (ld_blt I hg hm boot_range (PyProof.Rows.callWith_type1 (thn (ha pos pins s σ H _ I h) λ us s1 ⟨vs,H1,I1,r1,q1⟩=>?_) hs rfl))
 obtain ⟨j,e,q1,q2,q⟩:=q1
 subst e
 cases r1 with
 | cons r rr =>
  cases rr
  obtain ⟨t,rfl⟩:=r
  exact call_range_1 (range_it I1 (by omega) (by omega) q1 q2 (by simpa using q))
noncomputable def tFor (wi:TI)(g:TG)(tb:TS):TS:=λ D σ H=>wi σ H λ J H1=>∃ W:Nat->Nat->St->Hp->Prop,(∃ m,W 0 m σ H1)/\∀ i m σ H,W i m σ H ->
 (J.stop i H/\D.nx σ H)\/(J.go i H/\∃ N:St->Hp->Prop,(∀ σ' H',N σ' H'->∃ m',m' < m/\W (i+1) m' σ' H')/\∀ x H',J.yld i H x H'->g x σ H' λ σ2 H2=>tb { D with nx:=N,ct:=N,bk:=D.nx } σ2 H2)
noncomputable def pinsAt (fp:List Addr)(h:Heap):List (Addr×Obj):=fp.filterMap λ b=>(h.get? b).map λ o=>(b,o)
theorem mem_pinsAt {fp:List Addr}{h:Heap}{b:Addr}{o:Obj}(hb:b∈fp)(e:h.get? b=some o):(b,o)∈pinsAt fp h:=List.mem_filterMap.mpr ⟨b,hb,by rw [e]; rfl⟩
theorem of_pinsAt {fp:List Addr}{h:Heap}{p:Addr×Obj}(hp:p∈pinsAt fp h):p.1∈fp/\h.get? p.1=some p.2:=by
 obtain ⟨b,hb,e⟩:=List.mem_filterMap.mp hp
 cases q:h.get? b with
 | none=>rw [q] at e; cases e
 | some o =>
  rw [q] at e
  have e':(b,o)=p:=Option.some.inj e
  subst e'
  exact ⟨hb,q⟩
theorem Inv.pinned {pins:List (Addr×Obj)}{σ:St}{H:Hp}{s:Shared}{fp:List Addr}(I:Inv X pins σ H s)(hf:∀ b∈fp,FpOk X pins H b)(ho:∀ b∈fp,∃ o,s.heap.get? b=some o/\∀ v,o.data ≠ .cell v):Inv X (pins++pinsAt fp s.heap) σ H s :=
 I.pins_of λ p hp=>(List.mem_append.mp hp).elim (λ z=>I.pin p (List.mem_append_right _ z)) λ z=>by
  obtain ⟨hb,e⟩:=of_pinsAt z
  obtain ⟨f0,f1,f2,_⟩:=hf p.1 hb
  obtain ⟨o,e',d⟩:=ho p.1 hb
  rw [e] at e'; cases e'
  exact ⟨e,f0,f1,f2,d⟩
theorem Inv.unpinned {pins pl:List (Addr×Obj)}{σ:St}{H:Hp}{s:Shared}(I:Inv X (pins++pl) σ H s):Inv X pins σ H s:=I.pins_of λ p hp=>I.pin p (List.mem_append_right _ (List.mem_append_left _ hp))
theorem ps_for {iter:Expr}{body:List Stmt}{wi:TI}{g:TG}{tb:TS}{pos:Pos}(hp:PassesOwn (model X.prog X.w) X.A X.env X.xe)(hc:X.calm=true)(hi:PI X tg iter wi)(hg:PG X tg g)(hb:PSs X body tb)
  (hs:∀ x,foldedSetIterable iter X.env x=pure x:=by intro _; rfl):PS X (.For tg iter body [] pos) (tFor wi g tb):=by
 intro pins s σ H D I h
 refine wpAny_For (thn (hi pins s σ H _ I h) λ v s1 h1=>thn h1 λ itv s2 h2=>?_) hs
 obtain ⟨it,fp,tn,J,H2,e,I2,T,st2,f2,W,⟨m0,w0⟩,turn⟩:=h2
 subst e
 have stat:∀ {H':Hp},(∀ b∈fp,H' b=none)->∀ b∈fp,FpOk X pins H' b:=λ hn b hb=>⟨hn b hb,(f2 b hb).2⟩
 refine codeAny_forLoop_any (λ n s'=>∃ i σ' H',Inv X pins σ' H' s'/\tn i s'.heap/\(∀ b∈fp,H' b=none)/\W i n σ' H') ?_ m0 ⟨0,σ,H2,I2,st2,λ b hb=>(f2 b hb).1,w0⟩
 rintro n s3 ⟨i,σ3,H3,I3,st3,fr3,w3⟩
 rcases turn i n σ3 H3 w3 with ⟨stop,qn⟩ | ⟨go,N,hN,step⟩
 ·refine wpAny_passesOwn hp (thn (T.done X rfl rfl rfl hc i pins s3 σ3 H3 X.xe I3 (stat fr3) st3 stop) λ r s4 ⟨hr,I4⟩=>?_)
  subst hr
  exact wpAny_execs_nil ⟨σ3,H3,I4,qn⟩
 ·refine wpAny_passesOwn hp (thn (T.item X rfl rfl rfl hc i pins s3 σ3 H3 X.xe I3 (stat fr3) st3 go) λ r s4 ⟨u,hr,h4⟩=>?_)
  subst hr
  refine wpAny_passesOwn hp (thn h4 λ _ s5 hq9=>?_)
  obtain ⟨x,H5,I5,r5,y5,st5,fr5⟩:=hq9
  have I5':=I5.pinned (stat fr5) (T.obj _ _ st5)
  refine wpAny_passesOwn hp (thn (hg _ s5 σ3 H5 x u _ I5' r5 (step x H5 y5)) λ _ s6 hq10=>?_)
  obtain ⟨σ6,H6,I6,q6⟩:=hq10
  refine wpAny_passesOwn hp (thn (hb _ s6 σ6 H6 _ I6 q6) λ f s7 q7=>?_)
  have again:∀ {σ7:St} {H7:Hp},Inv X (pins++pinsAt fp s5.heap) σ7 H7 s7->N σ7 H7->∃ m,m < n/\∃ i σ' H',Inv X pins σ' H' s7/\tn i s7.heap/\(∀ b∈fp,H' b=none)/\W i m σ' H':=λ {σ7 H7} I7 n7=>by
   obtain ⟨m',hm,w7⟩:=hN σ7 H7 n7
   refine ⟨m',hm,i+1,σ7,H7,I7.unpinned,T.keep _ _ _ st5 λ b hb o e=>(I7.pin (b,o) (List.mem_append_right _ (List.mem_append_right _ (mem_pinsAt hb e)))).1,λ b hb=>?_,w7⟩
   obtain ⟨o,e,d⟩:=T.obj _ _ st5 b hb
   exact (I7.pin (b,o) (List.mem_append_right _ (List.mem_append_right _ (mem_pinsAt hb e)))).2.1
  cases f with
  | next=>obtain ⟨σ7,H7,I7,n7⟩:=q7; exact again I7 n7
  | cont=>obtain ⟨σ7,H7,I7,n7⟩:=q7; exact again I7 n7
  | brk=>obtain ⟨σ7,H7,I7,q7⟩:=q7; exact ⟨σ7,H7,I7.unpinned,q7⟩
  | ret v=>obtain ⟨x7,σ7,H7,I7,r7,q7⟩:=q7; exact ⟨x7,σ7,H7,I7.unpinned,r7,q7⟩
end
end L2
namespace L2
open PySem PySem.Spec PyProof.Rows
noncomputable abbrev R2:=V->V->Hp->VK->Prop
noncomputable def OpR (X:Cx)(f:Value->Value->Sem Value)(r:R2):Prop :=
 ∀ (pins:List (Addr×Obj)) (s:Shared) (σ:St) (H:Hp) (x y:V) (v u:Value) (Q:VK),Inv X pins σ H s->RelV x v->RelV y u->r x y H Q ->
  wpAny (model X.prog X.w) X.A (f v u) (EP X pins σ Q) X.xe s
noncomputable def UnR (X:Cx)(f:Value->Sem Value)(r:V->Hp->VK->Prop):Prop :=
 ∀ (pins:List (Addr×Obj)) (s:Shared) (σ:St) (H:Hp) (x:V) (v:Value) (Q:VK),Inv X pins σ H s->RelV x v->r x H Q ->
  wpAny (model X.prog X.w) X.A (f v) (EP X pins σ Q) X.xe s
noncomputable def CallR (X:Cx)(f:Value)(r:List V->Hp->VK->Prop):Prop :=
 ∀ (pins:List (Addr×Obj)) (s:Shared) (σ:St) (H:Hp) (xs:List V) (us:List Value) (Q:VK),Inv X pins σ H s->Vals xs us->r xs H Q ->
  wpAny (model X.prog X.w) X.A (call f us) (EP X pins σ Q) X.xe s
noncomputable def tOp (r:R2)(ta tb:TE):TE:=λ σ H Q=>ta σ H λ x H1=>tb σ H1 λ y H2=>r x y H2 Q
noncomputable def tUn (r:V->Hp->VK->Prop)(ta:TE):TE:=λ σ H Q=>ta σ H λ x H1=>r x H1 Q
noncomputable def rI (C:Int->Int->Prop)(g:Int->Int->V):R2:=λ x y H Q=>∃ i j,x=.int i/\y=.int j/\C i j/\Q (g i j) H
noncomputable def rI0 (g:Int->Int->V):R2:=λ x y H Q=>∃ i j,x=.int i/\y=.int j/\Q (g i j) H
noncomputable def rU (g:Int->V):V->Hp->VK->Prop:=λ x H Q=>∃ i,x=.int i/\Q (g i) H
section
variable {X:Cx}{a b c:Expr}{ta tb tc:TE}{pos:Pos}
theorem binT (ha:PE X a ta)(hb:PE X b tb){pins:List (Addr×Obj)}{s:Shared}{σ:St}{H:Hp}{R:V->V->Hp->Prop}(I:Inv X pins σ H s)
  (h:ta σ H λ x H1=>tb σ H1 λ y H2=>R x y H2){Q:Value->Shared->Prop}{f:Value->Value->Sem Value}
  (hf:∀ v u s2 x y H2,Inv X pins σ H2 s2->RelV x v->RelV y u->R x y H2->wpAny (model X.prog X.w) X.A (f v u) Q X.xe s2) :
  wpAny (model X.prog X.w) X.A (eval a X.env) (λ v s₁=>wpAny (model X.prog X.w) X.A (eval b X.env) (λ u s₂=>wpAny (model X.prog X.w) X.A (f v u) Q X.xe s₂) X.xe s₁) X.xe s:=by
 refine thn (ha pins s σ H _ I h) λ v s1 hq11=>?_
 obtain ⟨x,H1,I1,r1,q1⟩:=hq11
 refine thn (hb pins s1 σ H1 _ I1 q1) λ u s2 hq12=>?_
 obtain ⟨y,H2,I2,r2,q2⟩:=hq12
 exact hf v u s2 x y H2 I2 r1 r2 q2
theorem pe_op {op:Operator}{r:R2}(ho:OpR X (binaryOp op) r)(ha:PE X a ta)(hb:PE X b tb):PE X (.BinOp a op b pos) (tOp r ta tb):=by
 intro pins s σ H Q I h
 exact wpAny_BinOp (binT ha hb I h λ v u s2 x y H2 I2 rx ry q=>ho pins s2 σ H2 x y v u Q I2 rx ry q)
theorem pe_un {op:UnaryOp}{r:V->Hp->VK->Prop}(ho:UnR X (unaryOp op) r)(ha:PE X a ta):PE X (.UnaryOp op a pos) (tUn r ta):=by
 intro pins s σ H Q I h
 exact UnaryOp_ (thn (ha pins s σ H _ I h) λ v s1 ⟨x,H1,I1,r1,q1⟩=>ho pins s1 σ H1 x v Q I1 r1 q1)
theorem opI {f:Value->Value->Sem Value}{C:Int->Int->Prop}{g:Int->Int->Int}
  (rule:∀ (i j:Int) (t u:Tok) (s:Shared) (Q:Value->Shared->Prop) (E:Value->Shared->Prop),C i j->Q (.int (g i j) s.toks) { s with toks:=s.toks+1 }->wpAny (model X.prog X.w) X.A (f (.int i t) (.int j u)) Q E s) :
  OpR X f (rI C λ i j=>.int (g i j)):=by
 intro pins s σ H x y v u Q I rx ry h
 obtain ⟨i,j,rfl,rfl,hc,q⟩:=h
 obtain ⟨t,rfl⟩:=rx
 obtain ⟨t',rfl⟩:=ry
 exact rule i j t t' s _ _ hc ⟨.int (g i j),H,I.tok _,⟨_,rfl⟩,q⟩
theorem opI0 {f:Value->Value->Sem Value}{g:Int->Int->Int}
  (rule:∀ (i j:Int) (t u:Tok) (s:Shared) (Q:Value->Shared->Prop) (E:Value->Shared->Prop),Q (.int (g i j) s.toks) { s with toks:=s.toks+1 }->wpAny (model X.prog X.w) X.A (f (.int i t) (.int j u)) Q E s) :
  OpR X f (rI0 λ i j=>.int (g i j)):=by
 intro pins s σ H x y v u Q I rx ry h
 obtain ⟨i,j,rfl,rfl,q⟩:=h
 obtain ⟨t,rfl⟩:=rx
 obtain ⟨t',rfl⟩:=ry
 exact rule i j t t' s _ _ ⟨.int (g i j),H,I.tok _,⟨_,rfl⟩,q⟩
theorem opB0 {f:Value->Value->Sem Value}{g:Int->Int->Bool}
  (rule:∀ (i j:Int) (t u:Tok) (s:Shared) (Q:Value->Shared->Prop) (E:Value->Shared->Prop),Q (.bool (g i j)) s->wpAny (model X.prog X.w) X.A (f (.int i t) (.int j u)) Q E s) :
  OpR X f (rI0 λ i j=>.bl (g i j)):=by
 intro pins s σ H x y v u Q I rx ry h
 obtain ⟨i,j,rfl,rfl,q⟩:=h
 obtain ⟨t,rfl⟩:=rx
 obtain ⟨t',rfl⟩:=ry
 exact rule i j t t' s _ _ ⟨.bl (g i j),H,I,rfl,q⟩
noncomputable def CDiv (i j:Int):Prop:=0 < j/\j < 1073741824
noncomputable def CPow (i j:Int):Prop:=0<=j/\j<=1000000/\i.natAbs < 2 ^ 64
noncomputable def CMul (i j:Int):Prop:=(-(2 ^ 64) < i/\i < 2 ^ 64)\/(-(2 ^ 64) < j/\j < 2 ^ 64)
theorem CMul.ok {i j:Int}(h:CMul i j):IntMulOk i j:=by
 rcases h with ⟨h1,h2⟩ | ⟨h1,h2⟩
 ·exact .of_left (intBits_le_64 h1 h2)
 ·exact .of_right (intBits_le_64 h1 h2)
theorem op_add:OpR X (binaryOp .Add) (rI0 λ i j=>.int (i+j)):=opI0 λ _ _ _ _ _ _ _ q=>add_int q
theorem op_sub:OpR X (binaryOp .Sub) (rI0 λ i j=>.int (i - j)):=opI0 λ _ _ _ _ _ _ _ q=>sub_int q
theorem op_mul:OpR X (binaryOp .Mult) (rI CMul λ i j=>.int (i * j)):=opI λ _ _ _ _ _ _ _ hc q=>mul_int q hc.ok
theorem op_fdiv:OpR X (binaryOp .FloorDiv) (rI CDiv λ i j=>.int (i / j)):=opI λ i j _ _ _ _ _ hc q=>by
 have h1:(0:Int) < j:=hc.1
 have h2:j < 1073741824:=hc.2
 exact floordiv_int (by omega) (by rw [Int.fdiv_eq_ediv_of_nonneg i (by omega)]; exact q) (.inl (PyProof.noPylong_small (by omega)))
theorem op_mod:OpR X (binaryOp .Mod) (rI (λ _ j=>0 < j) λ i j=>.int (i % j)):=opI λ i j _ _ _ _ _ hc q=>by
 have h1:(0:Int) < j:=hc
 exact mod_int' (by omega) (by rw [Int.fmod_eq_emod_of_nonneg i (by omega)]; exact q)
theorem op_pow:OpR X (binaryOp .Pow) (rI CPow λ i j=>.int (i ^ j.toNat)):=opI λ _ _ _ _ _ _ _ hc q=>pow_int_small hc.1 hc.2.1 hc.2.2 q
theorem unI {f:Value->Sem Value}{g:Int->Int}
  (rule:∀ (i:Int) (t:Tok) (s:Shared) (Q:Value->Shared->Prop) (E:Value->Shared->Prop),Q (.int (g i) s.toks) { s with toks:=s.toks+1 }->wpAny (model X.prog X.w) X.A (f (.int i t)) Q E s) :
  UnR X f (rU λ i=>.int (g i)):=by
 intro pins s σ H x v Q I rx h
 obtain ⟨i,rfl,q⟩:=h
 obtain ⟨t,rfl⟩:=rx
 exact rule i t s _ _ ⟨.int (g i),H,I.tok _,⟨_,rfl⟩,q⟩
theorem un_neg:UnR X (unaryOp .USub) (rU λ i=>.int (-i)):=unI λ _ _ _ _ _ q=>neg_int q
end
noncomputable def scal:V->V->Bool
 | .non,.non=>true | .non,.int _=>true | .int _,.non=>true | .non,.bl _=>true | .bl _,.non=>true | .non,.str _=>true | .str _,.non=>true
 | .int _,.int _=>true | .bl _,.bl _=>true | .str _,.str _=>true | .byt _,.byt _=>true
 | .int _,.str _=>true | .str _,.int _=>true | .bl _,.str _=>true | .str _,.bl _=>true
 | _,_=>false
noncomputable def rEq:R2:=λ x y H Q=>scal x y=true/\Q (.bl (decide (x=y))) H
noncomputable def rNe:R2:=λ x y H Q=>scal x y=true/\Q (.bl (!decide (x=y))) H
theorem dec_int {i j:Int}:decide (V.int i=V.int j)=(i == j):=by
 rw [Bool.eq_iff_iff]
 simp
theorem dec_bl {i j:Bool}:decide (V.bl i=V.bl j)=(i == j):=by
 rw [Bool.eq_iff_iff]
 simp
theorem dec_str {i j:Str}:decide (V.str i=V.str j)=(i == j):=by
 rw [Bool.eq_iff_iff]
 simp
theorem dec_byt {i j:Array UInt8}:decide (V.byt i=V.byt j)=(i.toList == j.toList):=by
 rw [Bool.eq_iff_iff]
 cases i
 cases j
 simp
section
variable {X:Cx}{a b c:Expr}{ta tb tc:TE}{pos:Pos}
theorem fin_bl {pins:List (Addr×Obj)}{σ:St}{H:Hp}{s:Shared}{Q:VK}{k k':Bool}(I:Inv X pins σ H s)(q:Q (.bl k) H)(e:k=k'):EP X pins σ Q (.bool k') s:=by
 subst e
 exact ⟨.bl k,H,I,rfl,q⟩
theorem op_eq:OpR X (compareOp .Eq) rEq:=by
 intro pins s σ H x y v u Q I rx ry h
 obtain ⟨hs,q⟩:=h
 cases x with
 | non =>
  cases rx
  cases y with
  | non=>cases ry; exact PySem.EqNone.eq_none_none (fin_bl I q (by simp))
  | bl j=>cases ry; exact PySem.EqNone.eq_none_bool (fin_bl I q (by simp))
  | int j=>obtain ⟨t',rfl⟩:=ry; exact PySem.EqNone.eq_none_int (fin_bl I q (by simp))
  | str j=>obtain ⟨t',rfl⟩:=ry; exact PySem.EqNone.eq_none_str (fin_bl I q (by simp))
  | _=>exact absurd (show false=true from hs) Bool.false_ne_true
 | bl i =>
  cases rx
  cases y with
  | non=>cases ry; exact PySem.EqNone.eq_bool_none (fin_bl I q (by simp))
  | bl j=>cases ry; exact eq_bool (fin_bl I q dec_bl)
  | str j=>obtain ⟨t',rfl⟩:=ry; exact PySem.EqMixed.eq_bool_str (fin_bl I q (by simp))
  | _=>exact absurd (show false=true from hs) Bool.false_ne_true
 | int i =>
  obtain ⟨t,rfl⟩:=rx
  cases y with
  | non=>cases ry; exact PySem.EqNone.eq_int_none (fin_bl I q (by simp))
  | int j=>obtain ⟨t',rfl⟩:=ry; exact eq_int (fin_bl I q dec_int)
  | str j=>obtain ⟨t',rfl⟩:=ry; exact PySem.EqMixed.eq_int_str (fin_bl I q (by simp))
  | _=>exact absurd (show false=true from hs) Bool.false_ne_true
 | str i =>
  obtain ⟨t,rfl⟩:=rx
  cases y with
  | non=>cases ry; exact PySem.EqNone.eq_str_none (fin_bl I q (by simp))
  | bl j=>cases ry; exact PySem.EqMixed.eq_str_bool (fin_bl I q (by simp))
  | int j=>obtain ⟨t',rfl⟩:=ry; exact PySem.EqMixed.eq_str_int (fin_bl I q (by simp))
  | str j=>obtain ⟨t',rfl⟩:=ry; exact eq_str (fin_bl I q dec_str)
  | _=>exact absurd (show false=true from hs) Bool.false_ne_true
 | byt i =>
  obtain ⟨t,rfl⟩:=rx
  cases y with
  | byt j=>obtain ⟨t',rfl⟩:=ry; exact PySem.W.eq_bytes (fin_bl I q dec_byt)
  | _=>exact absurd (show false=true from hs) Bool.false_ne_true
 | _=>cases y <;> exact absurd (show false=true from hs) Bool.false_ne_true
theorem op_ne:OpR X (compareOp .NotEq) rNe:=by
 intro pins s σ H x y v u Q I rx ry h
 obtain ⟨hs,q⟩:=h
 cases x with
 | non =>
  cases rx
  cases y with
  | non=>cases ry; exact PySem.EqNone.ne_none_none (fin_bl I q (by simp))
  | bl j=>cases ry; exact PySem.EqNone.ne_none_bool (fin_bl I q (by simp))
  | int j=>obtain ⟨t',rfl⟩:=ry; exact PySem.EqNone.ne_none_int (fin_bl I q (by simp))
  | str j=>obtain ⟨t',rfl⟩:=ry; exact PySem.EqNone.ne_none_str (fin_bl I q (by simp))
  | _=>exact absurd (show false=true from hs) Bool.false_ne_true
 | bl i =>
  cases rx
  cases y with
  | non=>cases ry; exact PySem.EqNone.ne_bool_none (fin_bl I q (by simp))
  | bl j=>cases ry; exact ne_bool (fin_bl I q (congrArg not dec_bl))
  | str j=>obtain ⟨t',rfl⟩:=ry; exact PySem.EqMixed.ne_bool_str (fin_bl I q (by simp))
  | _=>exact absurd (show false=true from hs) Bool.false_ne_true
 | int i =>
  obtain ⟨t,rfl⟩:=rx
  cases y with
  | non=>cases ry; exact PySem.EqNone.ne_int_none (fin_bl I q (by simp))
  | int j=>obtain ⟨t',rfl⟩:=ry; exact ne_int (fin_bl I q (congrArg not dec_int))
  | str j=>obtain ⟨t',rfl⟩:=ry; exact PySem.EqMixed.ne_int_str (fin_bl I q (by simp))
  | _=>exact absurd (show false=true from hs) Bool.false_ne_true
 | str i =>
  obtain ⟨t,rfl⟩:=rx
  cases y with
  | non=>cases ry; exact PySem.EqNone.ne_str_none (fin_bl I q (by simp))
  | bl j=>cases ry; exact PySem.EqMixed.ne_str_bool (fin_bl I q (by simp))
  | int j=>obtain ⟨t',rfl⟩:=ry; exact PySem.EqMixed.ne_str_int (fin_bl I q (by simp))
  | str j=>obtain ⟨t',rfl⟩:=ry; exact ne_str (fin_bl I q (congrArg not dec_str))
  | _=>exact absurd (show false=true from hs) Bool.false_ne_true
 | byt i =>
  obtain ⟨t,rfl⟩:=rx
  cases y with
  | byt j=>obtain ⟨t',rfl⟩:=ry; exact PySem.W.ne_bytes (fin_bl I q (congrArg not dec_byt))
  | _=>exact absurd (show false=true from hs) Bool.false_ne_true
 | _=>cases y <;> exact absurd (show false=true from hs) Bool.false_ne_true
theorem op_lt:OpR X (compareOp .Lt) (rI0 λ i j=>.bl (decide (i < j))):=opB0 λ _ _ _ _ _ _ _ q=>lt_int q
theorem op_gt:OpR X (compareOp .Gt) (rI0 λ i j=>.bl (decide (j < i))):=opB0 λ _ _ _ _ _ _ _ q=>gt_int q
theorem op_ge:OpR X (compareOp .GtE) (rI0 λ i j=>.bl (decide (j<=i))):=opB0 λ _ _ _ _ _ _ _ q=>ge_int q
theorem OpR.or {f:Value->Value->Sem Value}{r r':R2}(h:OpR X f r)(h':OpR X f r'):OpR X f (λ x y H Q=>r x y H Q\/r' x y H Q):=by
 intro pins s σ H x y v u Q I rx ry q
 rcases q with q | q
 ·exact h pins s σ H x y v u Q I rx ry q
 ·exact h' pins s σ H x y v u Q I rx ry q
theorem pe_cmpR {op:CmpOp}{r:R2}(ho:OpR X (compareOp op) r)(ha:PE X a ta)(hb:PE X b tb)(hm:behindInMarks op b=false):PE X (.Compare a [op] [b] pos) (tOp r ta tb):=by
 intro pins s σ H Q I h
 exact wpAny_Compare1 (binT ha hb I h λ v u s2 x y H2 I2 rx ry q=>ho pins s2 σ H2 x y v u Q I2 rx ry q) hm
noncomputable def tTest (t:TE):TT:=λ σ H Q=>t σ H λ x H'=>∃ k,x=.bl k/\Q k H'
theorem pt_cmpR {op:CmpOp}{r:R2}(ho:OpR X (compareOp op) r)(ha:PE X a ta)(hb:PE X b tb)(hm:behindInMarks op b=false):PT X (.Compare a [op] [b] pos) (tTest (tOp r ta tb)):=by
 intro pins s σ H Q I h
 refine wpAny_isTrue_Compare1 (thn (ha pins s σ H _ I h) λ v s1 ⟨x,H1,I1,r1,q1⟩=>thn (hb pins s1 σ H1 _ I1 q1) λ u s2 ⟨y,H2,I2,r2,q2⟩ =>
  thn (ho pins s2 σ H2 x y v u _ I2 r1 r2 q2) λ c s3 ⟨z,H3,I3,r3,k,e,q3⟩=>?_) hm
 subst e
 cases r3
 exact wpAny_truthy_bool ⟨H3,I3,q3⟩
noncomputable def TruV (K:PySem.W.Frag)(x:V)(H:Hp)(k:Bool):Prop :=
 match x with
 | .non=>k=false
 | .bl b=>k=b
 | .int i=>k=(i != 0)
 | .str y=>y.length<=sizeLine/\k=((y.length:Int) != 0)
 | .byt y=>y.size<=sizeLine/\k=((y.size:Int) != 0)
 | .ref p=>(∃ xs,SqL K H p xs/\k=!xs.isEmpty)\/(∃ xs,SqT K H p xs/\k=!xs.isEmpty)\/∃ kvs,H p=some (.dK kvs)/\k=!kvs.isEmpty
 | _=>False
theorem line63:(sizeLine:Nat) < 2 ^ 63:=by rw [sizeLine_eq]; decide
theorem op_add_str:OpR X (binaryOp .Add) (λ x y H Q=>∃ i j,x=.str i/\y=.str j/\i.length+j.length<=sizeLine/\Q (.str (i++j)) H):=by
 intro pins s σ H x y v u Q I rx ry h
 obtain ⟨i,j,rfl,rfl,hz,q⟩:=h
 obtain ⟨t,rfl⟩:=rx
 obtain ⟨t',rfl⟩:=ry
 exact add_str (λ t' tk=>⟨.str (i++j),H,I.tok _,⟨_,rfl⟩,q⟩) hz
theorem vals1 {x:V}{us:List Value}(r:Vals [x] us):∃ u,us=[u]/\RelV x u:=by
 cases r with
 | cons r1 r2=>cases r2; exact ⟨_,rfl,r1⟩
theorem vals2 {x y:V}{us:List Value}(r:Vals [x,y] us):∃ u w',us=[u,w']/\RelV x u/\RelV y w':=by
 cases r with
 | cons r1 r2 =>
  cases r2 with
  | cons r3 r4=>cases r4; exact ⟨_,_,rfl,r1,r3⟩
theorem call_abs:CallR X (.builtin "abs") (λ xs H Q=>∃ i,xs=[.int i]/\Q (.int (if i < 0 then -i else i)) H):=by
 intro pins s σ H xs us Q I r h
 obtain ⟨i,rfl,q⟩:=h
 obtain ⟨u,rfl,t,rfl⟩:=vals1 r
 exact call_abs_int λ u tk=>⟨.int (if i < 0 then -i else i),H,I.tok _,⟨_,rfl⟩,q⟩
theorem call_int1:CallR X (.type "int") (λ xs H Q=>(∃ i,xs=[.int i]/\Q (.int i) H)\/∃ k,xs=[.bl k]/\Q (.int (if k then 1 else 0)) H):=by
 intro pins s σ H xs us Q I r h
 rcases h with ⟨i,rfl,q⟩ | ⟨k,rfl,q⟩
 ·obtain ⟨u,rfl,t,rfl⟩:=vals1 r
  exact call_int_int ⟨.int i,H,I,⟨_,rfl⟩,q⟩
 ·obtain ⟨u,rfl,r1⟩:=vals1 r
  cases r1
  exact call_int_bool ⟨.int (if k then 1 else 0),H,I.tok _,⟨_,rfl⟩,q⟩
noncomputable def LenV (K:PySem.W.Frag)(x:V)(H:Hp)(n:Nat):Prop :=
 match x with
 | .str y=>y.length<=sizeLine/\n=y.length
 | .byt y=>y.size<=sizeLine/\n=y.size
 | .ref p=>(∃ xs,SqL K H p xs/\n=xs.length)\/∃ xs,SqT K H p xs/\n=xs.length
 | _=>False
theorem call_len:CallR X (.builtin "len") (λ xs H Q=>∃ x n,xs=[x]/\LenV X.K x H n/\Q (.int n) H):=by
 intro pins s σ H xs us Q I r h
 obtain ⟨x,n,rfl,e,q⟩:=h
 obtain ⟨u,rfl,rx⟩:=vals1 r
 have hl:=line63
 have hs:sizeLine=16777216:=sizeLine_eq
 cases x with
 | str y =>
  obtain ⟨t,rfl⟩:=rx
  obtain ⟨hy,e'⟩:y.length<=sizeLine/\n=y.length:=e
  subst e'
  exact len_str (by omega) ⟨.int _,H,I.tok _,⟨_,rfl⟩,q⟩
 | byt y =>
  obtain ⟨t,rfl⟩:=rx
  obtain ⟨hy,e'⟩:y.size<=sizeLine/\n=y.size:=e
  subst e'
  exact PySem.W.len_bytes (by omega) ⟨.int _,H,I.tok _,⟨_,rfl⟩,q⟩
 | ref p =>
  cases rx
  have e':(∃ xs,SqL X.K H p xs/\n=xs.length)\/∃ xs,SqT X.K H p xs/\n=xs.length:=e
  rcases e' with ⟨xs,hx,e'⟩ | ⟨xs,hx,e'⟩
  ·subst e'
   obtain ⟨its,r',pl,hz⟩:=I.list hx
   have hlen:=r'.length
   exact Calls.call_len_list pl.isList (by simp only [List.size_toArray]; omega) ⟨.int xs.length,H,I.tok _,⟨_,by simp only [List.size_toArray]; rw [hlen]⟩,q⟩
  ·subst e'
   obtain ⟨its,r',pl,hz⟩:=I.tuple hx
   have hlen:=r'.length
   exact len_tuple pl (by simp only [List.size_toArray]; omega) ⟨.int xs.length,H,I.tok _,⟨_,by simp only [List.size_toArray]; rw [hlen]⟩,q⟩
 | _=>exact (show False from e).elim
end
end L2
namespace L2
open PySem PySem.Spec PyProof.Rows
structure ObjM (h:Heap)(x dx C:Addr)(mA:Str->Option Value):Prop where
 obj:h.get? x=some (PySem.W.instObj C dx)
 ns:h.Ns1 dx mA
 ne:dx≠x
theorem lookIn_ns {h:Heap}{dx:Addr}{mA:Str->Option Value}(n:h.Ns1 dx mA):∃ od,h.get? dx=some od/\∀ name,PySem.W.lookIn name od=some (mA name):=by
 obtain ⟨o,es,ep,ho,hd,hk,_,hm⟩:=n
 refine ⟨o,ho,λ name=>?_⟩
 have e:=hm name
 unfold nsFind findBy at e
 rw [<- Array.find?_toList] at e
 unfold PySem.W.lookIn
 rw [hd]
 dsimp only
 split
 ·rename_i y q
  rw [q] at e
  exact congrArg some e
 ·rename_i q
  rw [q] at e
  have a:es.toList.any (·.refKey)=false:=by
   rw [List.any_eq_false]
   intro y hy
   obtain ⟨z,t,hkey⟩:=hk y (Array.mem_toList_iff.mp hy)
   simp [DictEntry.refKey,hkey]
  have a':¬ es.toList.any (·.refKey)=true:=by rw [a]; exact Bool.false_ne_true
  rw [if_neg a']
  exact congrArg some e
theorem ObjM.look {h:Heap}{x dx C:Addr}{mA:Str->Option Value}(I:ObjM h x dx C mA):∃ od,PySem.W.InstAt h x (PySem.W.instObj C dx) C (some od)/\∀ name,PySem.W.lookIn name od=some (mA name) :=
 let ⟨od,ho,hl⟩:=lookIn_ns I.ns
 ⟨od,⟨I.obj,rfl,rfl,ho⟩,hl⟩
section
variable {prog:Program}{w:World}{A:Around}{E:Value->Shared->Prop}{s:Shared}{K:PySem.W.Frag}{x dx C f:Addr}{mA:Str->Option Value}{name:Str}{v:Value}
end
noncomputable def putF (f:Str)(v:V):List (Str×V)->List (Str×V)
 | []=>[(f,v)]
 | (g,x) :: r=>if g=f then (g,v) :: r else (g,x) :: putF f v r
theorem lookup_putF (f g:Str)(v:V):∀ fs:List (Str×V),(putF f v fs).lookup g=if g=f then some v else fs.lookup g
 | []=>by
  show List.lookup g [(f,v)]=_
  by_cases h:g=f
  ·have hb:(g == f)=true:=beq_iff_eq.mpr h
   simp only [List.lookup,hb,if_pos h]
  ·have hb:(g == f)=false:=beq_eq_false_iff_ne.mpr h
   simp only [List.lookup,hb,if_neg h]
 | (k,x) :: r=>by
  have ih:=lookup_putF f g v r
  rw [show putF f v ((k,x) :: r)=(if k=f then (k,v) :: r else (k,x) :: putF f v r) from rfl]
  by_cases hk:k=f
  ·rw [if_pos hk]
   by_cases h:g=k
   ·have hb:(g == k)=true:=beq_iff_eq.mpr h
    simp only [List.lookup,hb,if_pos (h.trans hk)]
   ·have hb:(g == k)=false:=beq_eq_false_iff_ne.mpr h
    simp only [List.lookup,hb,if_neg (λ e:g=f=>h (e.trans hk.symm))]
  ·rw [if_neg hk]
   by_cases h:g=k
   ·have hb:(g == k)=true:=beq_iff_eq.mpr h
    simp only [List.lookup,hb,if_neg (λ e:g=f=>hk (h.symm.trans e))]
   ·have hb:(g == k)=false:=beq_eq_false_iff_ne.mpr h
    simp only [List.lookup,hb]
    exact ih
theorem keys_putF (f:Str)(v:V):∀ fs:List (Str×V),f∈(putF f v fs).map (·.1)/\∀ g,g∈fs.map (·.1)->g∈(putF f v fs).map (·.1)
 | []=>⟨by simp [putF],λ g h=>by simp at h⟩
 | (k,x) :: r=>by
  obtain ⟨i1,i2⟩:=keys_putF f v r
  rw [show putF f v ((k,x) :: r)=(if k=f then (k,v) :: r else (k,x) :: putF f v r) from rfl]
  by_cases hk:k=f
  ·rw [if_pos hk]
   subst hk
   exact ⟨by simp,λ g h=>by simpa using h⟩
  ·rw [if_neg hk]
   refine ⟨?_,λ g h=>?_⟩
   ·rw [List.map_cons]
    exact List.mem_cons_of_mem _ i1
   ·rw [List.map_cons] at h ⊢
    rcases List.mem_cons.mp h with e | e
    ·exact List.mem_cons.mpr (.inl e)
    ·exact List.mem_cons_of_mem _ (i2 g e)
theorem RelO.some_of {v:V}{o:Option Value}(r:RelO (some v) o):∃ u,o=some u/\RelV v u:=by
 cases o with
 | none=>exact (show False from r).elim
 | some u=>exact ⟨u,rfl,r⟩
theorem RelO.none_of {o:Option Value}(r:RelO none o):o=none:=by
 cases o with
 | none=>rfl
 | some u=>exact (show False from r).elim
theorem handed_of {v:V}{u:Value}(r:RelV v u):PySem.W.handedIn u=true:=by
 cases v with
 | non=>cases (show u=Value.none from r); rfl
 | bl b=>cases (show u=Value.bool b from r); rfl
 | int i=>obtain ⟨t,e⟩:=(show ∃ t,u=Value.int i t from r); cases e; rfl
 | str x=>obtain ⟨t,e⟩:=(show ∃ t,u=Value.str x t from r); cases e; rfl
 | byt b=>obtain ⟨t,e⟩:=(show ∃ t,u=Value.bytes b t from r); cases e; rfl
 | flt b=>obtain ⟨t,e⟩:=(show ∃ t,u=Value.float b t from r); cases e; rfl
 | ref a=>cases (show u=Value.ref a from r); rfl
 | ty n=>cases (show u=Value.type n from r); rfl
section
variable {P:Program}{w:World}{H H':Hp}{h h':Heap}{a C dx:Addr}{fs fs':List (Str×V)}
end
structure Cls (K:PySem.W.Frag)(C:Addr):Prop where
 pg:PySem.W.plainGet K C Str.empty=true
 hd:PySem.W.hasDictIn K C=true
 po:PySem.W.plainOver K C=true
 sa:PySem.W.findIn K (.ref C) "__setattr__" = some (some (.builtin "object.__setattr__"))
theorem Cls.get {K:PySem.W.Frag}{C:Addr}(c:Cls K C)(f:Str):PySem.W.plainGet K C f=true:=c.pg
noncomputable def NoAttr (K:PySem.W.Frag)(C:Addr)(f:Str):Prop:=PySem.W.findIn K (.ref C) f=some none
section
variable {X:Cx}{pins:List (Addr×Obj)}{σ:St}{H:Hp}{s:Shared}{a C dx:Addr}{fs:List (Str×V)}{f:Str}{v:V}{A:Around}{E:Value->Shared->Prop}
theorem attr_of {prog:Program}{w:World}{env:Env}{e:Expr}{f:Str}{pos:Pos}{s:Shared}{Q:Value->Shared->Prop}(hb:attributeBase e f env (eval e env)=eval e env)
  (h:wpAny (model prog w) A (eval e env) (λ o s₁=>wpAny (model prog w) A (getAttr o f true) Q E s₁) E s):wpAny (model prog w) A (eval (.Attribute e f pos) env) Q E s :=
 Attribute_any_ h (by rw [arm_eval_Attribute,hb])
end
section
variable {X:Cx}{o e value:Expr}{f:Str}{pos pos' tpos:Pos}{ta tv:TE}
end
section
variable {X:Cx}{pins:List (Addr×Obj)}{σ:St}{H:Hp}{s:Shared}{A:Around}{E:Value->Shared->Prop}{Q:Value->Shared->Prop}{c:Value}{b:Bool}
end
end L2
namespace L2
open PySem PySem.Spec PyProof.Rows
structure Room (k:Nat)(A:Around):Prop where
 hd:A.handled=none
 gd:A.guards=some []
 dp:A.depth+3 * k+5 < recursionLimit
 un:A.units+16 * k+200 < cLine
theorem Room.mono {j k:Nat}{A:Around}(r:Room k A)(h:j<=k):Room j A:=⟨r.hd,r.gd,by have:=r.dp; omega,by have:=r.un; omega⟩
theorem Room.deeper {k:Nat}{A:Around}(r:Room (k+1) A)(env:Env):Room k (A.deeper env) :=
 ⟨r.hd,r.gd,by have:=r.dp; show A.depth+1+3 * k+5 < _; omega,by have:=r.un; show A.units+3+16 * k+200 < _; omega⟩
theorem Room.in1 {k:Nat}{A:Around}(r:Room (k+1) A):Room k A.in1 :=
 ⟨r.hd,r.gd,by have:=r.dp; show A.depth+3 * k+5 < _; omega,by have:=r.un; show A.units+1+16 * k+200 < _; omega⟩
theorem make_depth {A:Around}{C:Addr}{us:List Value}{kw:List (Str×Value)}:(A.under (.builtin "type.__call__" ⟨.ref C :: us,kw⟩)).depth=A.depth+1:=by
 first | rfl | simp [Around.under,Code.weight,Code.isCreation,Code.isGuard,Code.isCaller,Code.frames,Code.isFrame,guardIds]
theorem make_units {A:Around}{C:Addr}{us:List Value}{kw:List (Str×Value)}:(A.under (.builtin "type.__call__" ⟨.ref C :: us,kw⟩)).units=A.units+1:=by
 first | rfl | simp [Around.under,Code.cUnits,Code.frames,Code.isFrame]
theorem Room.make {k:Nat}{A:Around}(r:Room (k+1) A)(C:Addr)(us:List Value)(kw:List (Str×Value)):Room k (A.under (.builtin "type.__call__" ⟨.ref C :: us,kw⟩)) :=
 ⟨r.hd,(by first | exact r.gd | (simpa [Around.under,Code.isGuard,Code.frames,Code.isFrame,guardIds] using r.gd)),by have:=r.dp; rw [make_depth]; omega,by have:=r.un; rw [make_units]; omega⟩
theorem Room.depth {k:Nat}{A:Around}(r:Room k A):A.depth < recursionLimit:=by have:=r.dp; omega
theorem Room.units {k:Nat}{A:Around}(r:Room k A):A.units+64 < cLine:=by have:=r.un; omega
noncomputable def tNil:TA:=λ _ H Q=>Q [] H
noncomputable def tCons (ta:TE)(tr:TA):TA:=λ σ H Q=>ta σ H λ x H1=>tr σ H1 λ xs H2=>Q (x :: xs) H2
section
variable {X:Cx}{e:Expr}{es:List Expr}{te:TE}{t:TA}{pos:Pos}
theorem pa_nil:PA X [] tNil:=λ _ _ _ _ H Q I h=>Calls.spliced_nil ⟨[],H,I,.nil,h⟩
theorem pa_cons (ha:PE X e te)(hr:PA X es t)(hs:starEach (e :: es) X.env=(false,eval e X.env) :: starEach es X.env:=by rfl):PA X (e :: es) (tCons te t):=by
 intro pos pins s σ H Q I h
 rw [hs]
 show wpAny _ _ (spliced ((false,eval e X.env) :: backTo pos (starEach es X.env))) _ _ s
 refine Calls.spliced_cons (thn (ha pins s σ H _ I h) λ u s1 hq13=>?_)
 obtain ⟨x,H1,I1,r1,q1⟩:=hq13
 exact thn (hr pos pins s1 σ H1 _ I1 q1) λ us s2 ⟨xs,H2,I2,r2,q2⟩=>⟨x :: xs,H2,I2,.cons r1 r2,q2⟩
noncomputable def tTup (t:TA):TE:=λ σ H Q=>t σ H λ xs H1=>xs.length<=sizeLine/\∀ p,H1 p=none->Q (.ref p) (upd H1 p (.tup xs))
noncomputable def tLst (t:TA):TE:=λ σ H Q=>t σ H λ xs H1=>xs.length<=sizeLine/\∀ p,H1 p=none->Q (.ref p) (upd H1 p (.lst xs))
theorem pe_tup {x1}(h:PA X es t):PE X (.Tuple es x1 pos) (tTup t):=by
 intro pins s σ H Q I hq
 refine wpAny_Tuple_spliced (thn (h pos pins s σ H _ I hq) λ us s1 ⟨xs,H1,I1,r,z,q⟩=>⟨by rw [<- r.length]; exact z,?_⟩)
 have hf:H1 s1.heap.objs.size=none:=I1.hok.fresh (Nat.le_refl _)
 refine ⟨.ref s1.heap.objs.size,upd H1 s1.heap.objs.size (.tup xs),I1.laid (t':=s1.toks) (λ b u e=>Heap.get?_push_of_some _ e) (Nat.le_refl _) ?_,rfl,q _ hf⟩
 exact ⟨z,us,r,TupN.new _ _⟩
theorem pe_lst (h:PA X es t):PE X (.List es pos) (tLst t):=by
 intro pins s σ H Q I hq
 refine wpAny_List_spliced (thn (h pos pins s σ H _ I hq) λ us s1 ⟨xs,H1,I1,r,z,q⟩=>⟨by rw [<- r.length]; exact z,?_⟩)
 have hf:H1 s1.heap.objs.size=none:=I1.hok.fresh (Nat.le_refl _)
 refine ⟨.ref s1.heap.objs.size,upd H1 s1.heap.objs.size (.lst xs),I1.laid (t':=s1.toks) (λ b u e=>Heap.get?_push_of_some _ e) (Nat.le_refl _) ?_,rfl,q _ hf⟩
 exact ⟨z,us,0,r,Heap.get?_push_size _ rfl⟩
end
noncomputable abbrev Sp:=List V->Hp->VK->XK->Prop
noncomputable abbrev CXT:=List Env->Hp->Shared->XK->Value->Shared->Prop
structure Env0 (P:Program)(w:World)(K:PySem.W.Frag)(mg:Str->Option Value)(base:Heap)(A:Around)(outer:List Env)(s:Shared)(H:Hp):Prop where
 frames:A.frames=some outer
 mod:Mod K mg base
 bs:∀ b o,base.get? b=some o->s.heap.get? b=some o/\H b=none
 bsz:base.objs.size<=s.heap.objs.size
 funs:s.heap.FunFrames base outer
 frf:∀ b∈frs outer,H b=none
 hok:HOk P w H s.heap
 bare:AllBare s.gens
noncomputable def CE (outer:List Env)(P:Program)(w:World)(H:Hp)(s:Shared)(Q:VK)(u:Value)(s':Shared):Prop :=
 ∃ v H',s'.os=s.os/\AllBare s'.gens/\Un (frs outer) [] H H' s.heap s'.heap/\HOk P w H' s'.heap/\RelV v u/\Q v H'
noncomputable def CR (CX:CXT)(outer:List Env)(P:Program)(w:World)(H:Hp)(s:Shared)(Q:VK)(E:XK)(r:Result)(s':Shared):Prop :=
 match r with
 | .ok (.ret u)=>CE outer P w H s Q u s'
 | .ok _=>False
 | .error e=>CX outer H s E e s'
structure FnOk (P:Program)(w:World)(K:PySem.W.Frag)(mg:Str->Option Value)(base:Heap)(CX:CXT)(k:Nat)(f:Addr)(fd:FuncData)(ps:List Str)(sp:Sp):Prop where
 len:∀ vs H Q E,sp vs H Q E->vs.length=ps.length
 run:∀ (A:Around) (outer:List Env) (s:Shared) (H:Hp) (args:Args) (us:List Value) (vs:List V) (Q:VK) (E:XK),Room k A->Env0 P w K mg base A outer s H->BindsTo s fd args (ps.zip us)->Vals vs us->sp vs H Q E ->
  codeAny (model P w) A (.call (.ref f) args) (CR CX outer P w H s Q E) s
theorem FnOk.mono {P:Program}{w:World}{K:PySem.W.Frag}{mg:Str->Option Value}{base:Heap}{CX:CXT}{j k:Nat}{f:Addr}{fd:FuncData}{ps:List Str}{sp:Sp}(F:FnOk P w K mg base CX j f fd ps sp)(h:j<=k) :
  FnOk P w K mg base CX k f fd ps sp:=⟨F.len,λ A outer s H args us vs Q E hr=>F.run A outer s H args us vs Q E (hr.mono h)⟩
theorem Env0.make {P:Program}{w:World}{K:PySem.W.Frag}{mg:Str->Option Value}{base:Heap}{A:Around}{outer:List Env}{s:Shared}{H:Hp}(e:Env0 P w K mg base A outer s H)(C:Addr)(us:List Value)(kw:List (Str×Value)) :
  Env0 P w K mg base (A.under (.builtin "type.__call__" ⟨.ref C :: us,kw⟩)) outer s H:=⟨by first | exact e.frames | (simpa [Around.under,Code.envs,Code.isFrame,pushEnvs] using e.frames),e.mod,e.bs,e.bsz,e.funs,e.frf,e.hok,e.bare⟩
theorem Env0.in1 {P:Program}{w:World}{K:PySem.W.Frag}{mg:Str->Option Value}{base:Heap}{A:Around}{outer:List Env}{s:Shared}{H:Hp}(e:Env0 P w K mg base A outer s H) :
  Env0 P w K mg base A.in1 outer s H:=⟨e.frames,e.mod,e.bs,e.bsz,e.funs,e.frf,e.hok,e.bare⟩
section
variable {X:Cx}{pins:List (Addr×Obj)}{σ:St}{H:Hp}{s s':Shared}
theorem Inv.env0 (I:Inv X pins σ H s):Env0 X.prog X.w X.K X.mg X.base X.A X.stack s H :=
 ⟨I.ok.frames,I.ok.mod,I.bs,Nat.le_trans I.ok.bsz I.sz,I.stack,I.stkFree,I.hok,I.bare⟩
theorem Inv.after {Q:VK}{u:Value}(I:Inv X pins σ H s)(h:CE X.stack X.prog X.w H s Q u s'):EP X pins σ Q u s':=by
 obtain ⟨v,H',os,bare,un,hok,r,q⟩:=h
 obtain ⟨hh,g,d,t,os'⟩:=s'
 obtain rfl:os'=s.os:=os
 exact ⟨v,H',I.call (h':=hh) (g':=g) (d':=d) (t':=t) (ch:=[]) un hok bare (λ b z=>absurd z (by simp)),r,q⟩
end
noncomputable def tCall (sp:Sp)(dvs:List V)(E:XK)(t:TA):TE:=λ σ H Q=>t σ H λ vs H1=>sp (vs++dvs) H1 Q E
noncomputable def Binds (K:PySem.W.Frag)(fd:FuncData)(ps:List Str)(ds:List Value):Prop :=
 ∀ (s:Shared) (us:List Value),K.In s.heap->(us++ds).length=ps.length->BindsTo s fd ⟨us,[]⟩ (ps.zip (us++ds))
theorem Binds.all {K:PySem.W.Frag}{fd:FuncData}{ps:List Str}(h:∀ us:List Value,us.length=ps.length->bindArgs fd ⟨us,[]⟩=pure (ps.zip us)):Binds K fd ps []:=λ s us _ hl=>by
 rw [List.append_nil] at hl ⊢
 exact .of_eq (h us hl)
noncomputable def Passes (CX:CXT)(X:Cx)(E:XK):Prop:=∀ (pins:List (Addr×Obj)) (σ:St) (H:Hp) (s:Shared) (e:Value) (s':Shared),Inv X pins σ H s->CX X.stack H s E e s'->X.xe e s'
section
variable {X:Cx}{CX:CXT}{k:Nat}{f C:Addr}{fd:FuncData}{ps:List Str}{sp:Sp}{dvs:List V}{ds:List Value}{E:XK}{x m:Str}{p pos apos:Pos}{e o:Expr}{es:List Expr}{ta:TE}{t:TA}
theorem run_fn {pins:List (Addr×Obj)}{σ:St}{H:Hp}{s:Shared}{Q:VK}{us:List Value}{vs:List V}(F:FnOk X.prog X.w X.K X.mg X.base CX k f fd ps sp)(hr:Room k X.A)(hb:Binds X.K fd ps ds)(hd:Vals dvs ds)(hx:Passes CX X E)
  (I:Inv X pins σ H s)(r:Vals vs us)(h:sp (vs++dvs) H Q E):wpAny (model X.prog X.w) X.A (call (.ref f) us) (EP X pins σ Q) X.xe s:=by
 have r2:Vals (vs++dvs) (us++ds):=r.append hd
 have hl:(us++ds).length=ps.length:=by rw [<- r2.length]; exact F.len _ _ _ _ h
 refine wpAny_call (codeAny_mono (F.run X.A X.stack s H ⟨us,[]⟩ (us++ds) (vs++dvs) Q E hr I.env0 (hb s us I.kIn hl) r2 h) λ r s' hq=>?_)
 cases r with
 | error e=>exact hx pins σ H s e s' I hq
 | ok fl =>
  cases fl with
  | ret u=>exact I.after hq
  | next=>exact False.elim hq
  | brk=>exact False.elim hq
  | cont=>exact False.elim hq
theorem pe_call (F:FnOk X.prog X.w X.K X.mg X.base CX k f fd ps sp)(hr:Room k X.A)(hg:Gl X x)(hm:X.mg x=some (.ref f))(hk:PySem.W.keepIn X.K (.ref f)=true)(hb:Binds X.K fd ps ds)(hd:Vals dvs ds)(hx:Passes CX X E)
  (ha:PA X (e :: es) t)(hdb:(x == ("__debug__" : Str))=false:=by decide)(he:starEach (e :: es) X.env=(false,eval e X.env) :: starEach es X.env:=by rfl)(hpl:(backTo pos (starEach es X.env)).any (·.1)=false:=by rfl) :
  PE X (.Call (.Name x p) (e :: es) [] pos) (tCall sp dvs E t):=by
 intro pins s σ H Q I h
 refine wpAny_Call_Name_kw (ld_glob I hg hm ?_ hdb)
 refine PySem.W.callWith_K (h₀:=X.base) I.ok.mod.kin hk (thn (ha pos pins s σ H _ I h) λ us s1 ⟨vs,H1,I1,r,q⟩=>⟨I1.kIn,?_⟩) he hpl
 exact run_fn F hr hb hd hx I1 r q
theorem pe_call0 (F:FnOk X.prog X.w X.K X.mg X.base CX k f fd ps sp)(hr:Room k X.A)(hg:Gl X x)(hm:X.mg x=some (.ref f))(hk:PySem.W.keepIn X.K (.ref f)=true)(hb:Binds X.K fd ps ds)(hd:Vals dvs ds)(hx:Passes CX X E)
  (hdb:(x == ("__debug__" : Str))=false:=by decide):PE X (.Call (.Name x p) [] [] pos) (tCall sp dvs E tNil):=by
 intro pins s σ H Q I h
 refine wpAny_Call_Name_kw (ld_glob I hg hm ?_ hdb)
 exact PySem.W.callWith_K0 I.kIn hk (run_fn (us:=[]) F hr hb hd hx I .nil h)
end
section
variable {X:Cx}{CX:CXT}{k:Nat}{f C:Addr}{fd:FuncData}{ps ks:List Str}{sp:Sp}{E:XK}{x m:Str}{p pos apos kpos:Pos}{e o:Expr}{es:List Expr}{kws:List Keyword}{te ta:TE}{t tk:TA}{nm:Option Str}
variable {g:List Value->List Value->List Value}{gV:List V->List V->List V}
end
structure FnScope (N P:List Str)(sc:Scope):Prop where
 kind:sc.kind=.function
 co:sc.isCoroutine=false
 gen:sc.isGenerator=false
 nd:N.Nodup
 pre:N.take P.length=P
 par:∀ x∈P,sc.names.lookup x=some .local\/sc.names.lookup x=some .cell
 nofree:∀ y∈sc.names,y.2 ≠ .free
theorem bindL_out {kindOf:Str->Option NameKind}{x:Str}:∀ {binds:List (Str×Value)} {m:Str->Option Value},(∀ v,(x,v) ∉ binds)->bindL kindOf binds m x=m x
 | [],_,_=>rfl
 | (n,v) :: r,m,h=>by
  unfold bindL
  rw [bindL_out λ w hw=>h w (List.mem_cons_of_mem _ hw)]
  split
  ·have:x≠n:=by rintro rfl; exact h v List.mem_cons_self
   simp [this]
  ·rfl
theorem bindC_out {kindOf:Str->Option NameKind}{x:Str}:∀ {binds:List (Str×Value)} {m:Str->Option Value},(∀ v,(x,v) ∉ binds)->bindC kindOf binds m x=m x
 | [],_,_=>rfl
 | (n,v) :: r,m,h=>by
  unfold bindC
  rw [bindC_out λ w hw=>h w (List.mem_cons_of_mem _ hw)]
  split
  ·rfl
  ·have:x≠n:=by rintro rfl; exact h v List.mem_cons_self
   simp [this]
theorem bindL_get {kindOf:Str->Option NameKind}{x:Str}{v:Value}:∀ {P:List Str} {vs:List Value} {i:Nat} {m:Str->Option Value},P.Nodup->P[i]? = some x->vs[i]? = some v->kindOf x=some .local ->
  bindL kindOf (P.zip vs) m x=some v
 | [],_,_,_,_,h,_,_=>by simp at h
 | _ :: _,[],_,_,_,_,h,_=>by simp at h
 | p :: P,w :: vs,0,m,nd,h1,h2,hk=>by
  simp at h1 h2; subst h1; subst h2
  show bindL kindOf ((p,w) :: P.zip vs) m p=_
  unfold bindL
  rw [bindL_out λ v hv=>(List.nodup_cons.mp nd).1 (List.of_mem_zip hv).1,if_pos hk]
  simp
 | p :: P,w :: vs,i+1,m,nd,h1,h2,hk=>by
  show bindL kindOf ((p,w) :: P.zip vs) m x=_
  unfold bindL
  exact bindL_get (i:=i) (List.nodup_cons.mp nd).2 (by simpa using h1) (by simpa using h2) hk
theorem bindC_get {kindOf:Str->Option NameKind}{x:Str}{v:Value}:∀ {P:List Str} {vs:List Value} {i:Nat} {m:Str->Option Value},P.Nodup->P[i]? = some x->vs[i]? = some v->kindOf x≠some .local ->
  bindC kindOf (P.zip vs) m x=some v
 | [],_,_,_,_,h,_,_=>by simp at h
 | _ :: _,[],_,_,_,_,h,_=>by simp at h
 | p :: P,w :: vs,0,m,nd,h1,h2,hk=>by
  simp at h1 h2; subst h1; subst h2
  show bindC kindOf ((p,w) :: P.zip vs) m p=_
  unfold bindC
  rw [bindC_out λ v hv=>(List.nodup_cons.mp nd).1 (List.of_mem_zip hv).1,if_neg hk]
  simp
 | p :: P,w :: vs,i+1,m,nd,h1,h2,hk=>by
  show bindC kindOf ((p,w) :: P.zip vs) m x=_
  unfold bindC
  exact bindC_get (i:=i) (List.nodup_cons.mp nd).2 (by simpa using h1) (by simpa using h2) hk
noncomputable def start (N:List Str)(vs:List V):St:=vs.map some++List.replicate (N.length - vs.length) none
noncomputable def cxOf (CX:CXT)(P:Program)(w:World)(K:PySem.W.Frag)(mg:Str->Option Value)(base:Heap)(N:List Str)(qual:Str)(scope:Scope)(f:Addr)(cd:Value)(A:Around)(outer:List Env)(s:Shared)(H:Hp)(E:XK):Cx where
 prog:=P
 w:=w
 K:=K
 mg:=mg
 base:=base
 A:=A.deeper (envOfC qual scope s.heap.objs.size f cd)
 N:=N
 s₀:=s
 H₀:=H
 env:=envOfC qual scope s.heap.objs.size f cd
 outer:=outer
 stack:=envOfC qual scope s.heap.objs.size f cd :: outer
 ex:=[]
 calm:=true
 fn:=λ _=>true
 pn:=[]
 xe:=λ e s'=>wpAny (model P w) (A.deeper (envOfC qual scope s.heap.objs.size f cd)) (leaving (envOfC qual scope s.heap.objs.size f cd) e) (λ _ s''=>CX outer H s E e s'') (λ e' s''=>CX outer H s E e' s'') s'
theorem cell_has {sc:Scope}{n:Nat}{x:Str}(h:sc.names.lookup x=some .cell):∃ c,(cellsFrom n sc.names []).lookup x=some c:=by
 have q:=PySem.W.cellsFrom_some sc.names n [] (.inl h)
 exact Option.isSome_iff_exists.mp q
theorem inv_start {CX:CXT}{P:Program}{w:World}{K:PySem.W.Frag}{mg:Str->Option Value}{base:Heap}{N ps:List Str}{qual:Str}{scope:Scope}{f:Addr}{cd:Value}{A:Around}{outer:List Env}{s s1:Shared}{H:Hp}{E:XK}{us:List Value}{vs:List V}
  (S:FnScope N ps scope)(hd:A.handled=none)(e0:Env0 P w K mg base A outer s H)(hl:vs.length=ps.length)(r:Vals vs us)
  (x:InCallC s s.heap.objs.size (bindL (envOfC qual scope s.heap.objs.size f cd).kindOf (ps.zip us) λ _=>none) (cellsFrom (s.heap.objs.size+1) scope.names []) (bindC (envOfC qual scope s.heap.objs.size f cd).kindOf (ps.zip us) λ _=>none) s1) :
  Inv (cxOf CX P w K mg base N qual scope f cd A outer s H E) [] (start N vs) H s1:=by
 have hpl:ps.length<=N.length:=by have:=congrArg List.length S.pre; rw [List.length_take] at this; omega
 obtain ⟨h1,tk,rfl,hk⟩:=x.done
 have noA:∀ b:Addr,b ∉ (cxOf CX P w K mg base N qual scope f cd A outer s H E).ex:=λ b z=>absurd (show b∈([]:List Addr) from z) (by simp)
 refine ⟨⟨e0.mod,S.kind,rfl,rfl,Nat.le_refl _,λ y z c h1 h2=>?_,λ y hy=>?_,λ y c _ h=>?_,λ _=>hd,Around.frames_deeper e0.frames,.inr ⟨rfl,rfl⟩,λ b z=>absurd z (noA b),e0.bs,e0.bsz,λ b _ _=>noA b,λ b z=>absurd z (noA b),e0.funs,e0.frf⟩,
  rfl,e0.bare,Un.kept hk,⟨_,x.toInCall.ns,λ i y v h1 h2 h3=>?_⟩,λ y c h=>⟨_,x.cell y c h⟩,e0.hok.fresh (Nat.le_refl _),λ y c h=>?_,λ p hp=>absurd (show p∈([]:List (Addr×Obj)) from hp) (by simp),e0.hok.kept hk,?_⟩
 ·exact name_of_addr x.apart (PySem.mem_of_lookup h1) (PySem.mem_of_lookup h2)
 ·have hy:scope.names.lookup y=some .cell\/scope.names.lookup y=some .free:=hy
  rcases hy with hy | hy
  ·exact cell_has hy
  ·exact absurd rfl (S.nofree _ (PySem.mem_of_lookup hy))
 ·exact Nat.le_of_lt (x.above y c (PySem.mem_of_lookup h))
 ·have hi:i < vs.length:=by
   unfold start at h2
   by_cases hi:i < vs.length
   ·exact hi
   ·rw [List.getElem?_append_right (by simpa using hi)] at h2
    rw [List.getElem?_replicate] at h2
    split at h2 <;> cases h2
  have ha:vs[i]? = some v:=by
   unfold start at h2
   rw [List.getElem?_append_left (by simpa using hi),List.getElem?_map] at h2
   cases e:vs[i]? with
   | none=>rw [e] at h2; cases h2
   | some a=>rw [e] at h2; cases h2; rfl
  obtain ⟨u,hu,rv⟩:=r.get ha
  have hp:ps[i]? = some y:=by
   rw [<- S.pre,List.getElem?_take_of_lt (by omega)]; exact h1
  have ndP:ps.Nodup:=by rw [<- S.pre]; exact S.nd.sublist (List.take_sublist _ _)
  refine ⟨u,rv,?_⟩
  rcases S.par y (List.mem_of_getElem? hp) with k | k
  ·exact .inl ⟨k,bindL_get ndP hp hu k⟩
  ·obtain ⟨c,e⟩:=cell_has (n:=s.heap.objs.size+1) k
   refine .inr ⟨.inl k,c,e,?_⟩
   have q:=x.cell y c e
   rw [bindC_get ndP hp hu (by show scope.names.lookup y≠_; rw [k]; decide)] at q
   exact q
 ·exact e0.hok.fresh (Nat.le_of_lt (x.above y c (PySem.mem_of_lookup h)))
 ·unfold start
  show _=N.length
  rw [List.length_append,List.length_map,List.length_replicate]
  omega
theorem fn_of {CX:CXT}{P:Program}{w:World}{K:PySem.W.Frag}{mg:Str->Option Value}{base:Heap}{k:Nat}{f:Addr}{name qual:Str}{params:Arguments}{body:List Stmt}{scope:Scope}{dV kV doc pm cdv ct oc:Value}{an od:Option Addr}
  {osl:Array (Option Value)}{N ps:List Str}{sp:Sp}(lk:K.lookup f=some ⟨oc,od,.func (PySem.W.fnOf name qual params body scope dV kV doc pm an cdv ct),osl⟩)(hcd:PySem.W.codeIn K cdv qual=true)(S:FnScope N ps scope)
  (len:∀ vs H Q E,sp vs H Q E->vs.length=ps.length)
  (hbody:∀ (A:Around) (outer:List Env) (s:Shared) (H:Hp) (vs:List V) (Q:VK) (E:XK),Room k (A.deeper (envOfC qual scope s.heap.objs.size f cdv))->sp vs H Q E ->
   ∃ t,PSs (cxOf CX P w K mg base N qual scope f cdv A outer s H E) body t/\t { nx:=λ _ H'=>Q .non H',rt:=Q } (start N vs) H) :
  FnOk P w K mg base CX (k+1) f (PySem.W.fnOf name qual params body scope dV kV doc pm an cdv ct) ps sp:=by
 refine ⟨len,λ A outer s H args us vs Q E hr e0 hb r hsp=>?_⟩
 have hl:=len _ _ _ _ hsp
 have KX:K.In s.heap:=e0.mod.kin.keeps λ b o e=>(e0.bs b o e).1
 have lim:s.heap.NoLimit:=e0.mod.nolimit.keeps λ b o e=>(e0.bs b o e).1
 have hkind:∀ y∈ps.zip us,scope.names.lookup y.1=some .local\/(scope.names.lookup y.1=some .cell/\((cellsFrom (s.heap.objs.size+1) scope.names []).lookup y.1).isSome=true):=λ ⟨n,v⟩ hy=>by
  rcases S.par n (List.of_mem_zip hy).1 with q | q
  ·exact .inl q
  ·exact .inr ⟨q,PySem.W.cellsFrom_some _ _ _ (.inl q)⟩
 refine codeAny_call_function hr.depth (KX _ _ lk) rfl S.co S.gen rfl (PySem.W.codeRec_of KX hcd) (hb _ _ _ _ ?_)
 refine wpAny_newFunctionEnv_cells S.kind hkind λ env he s1 x=>?_
 subst he
 refine ⟨lim.keeps x.toInCall.keep,codeAny_func ?_⟩
 obtain ⟨t,ht,hq⟩:=hbody A outer s H vs Q E (hr.deeper _) hsp
 have I:Inv (cxOf CX P w K mg base N qual scope f cdv A outer s H E) [] (start N vs) H s1:=inv_start S hr.hd e0 hl r x
 refine wpAny_mono (ht [] s1 (start N vs) H _ I hq) (λ fl s' hs=>?_) λ e s' hs=>hs
 have fin:∀ {σ':St} {H':Hp} {v:V} {u:Value},Inv (cxOf CX P w K mg base N qual scope f cdv A outer s H E) [] σ' H' s'->RelV v u->Q v H'->CE outer P w H s Q u s' :=
  λ {σ' H' v u} J rv q=>⟨v,H',J.os,J.bare,J.base,J.hok,rv,q⟩
 cases fl with
 | ret u =>
  obtain ⟨v,σ',H',J,rv,q⟩:=hs
  exact fin J rv q
 | next =>
  obtain ⟨σ',H',J,q⟩:=hs
  exact fin (v:=V.non) (u:=Value.none) J rfl q
 | brk =>
  obtain ⟨_,_,_,q⟩:=hs
  exact False.elim q
 | cont =>
  obtain ⟨_,_,_,q⟩:=hs
  exact False.elim q
end L2
namespace L2
open PySem PySem.Spec PyProof.Rows
section
variable {X:Cx}{x:Str}{p pos:Pos}{e:Expr}{es:List Expr}{t:TA}{id T:String}{r:List V->Hp->VK->Prop}
noncomputable def tCB (r:List V->Hp->VK->Prop)(t:TA):TE:=λ σ H Q=>t σ H λ vs H1=>r vs H1 Q
theorem pe_callB (hc:CallR X (.builtin id) r)(hg:Gl X x)(hm:X.mg x=none)(hv:bootBuiltins x=some (.builtin id))(ha:PA X (e :: es) t)(hn:x ≠ "__name__" := by decide)(hdb:(x == ("__debug__" : Str))=false:=by decide)
  (he:starEach (e :: es) X.env=(false,eval e X.env) :: starEach es X.env:=by rfl)(hpl:(backTo pos (starEach es X.env)).any (·.1)=false:=by rfl):PE X (.Call (.Name x p) (e :: es) [] pos) (tCB r t):=by
 intro pins s σ H Q I h
 refine wpAny_Call_Name_kw (ld_blt I hg hm hv ?_ hn hdb)
 exact PyProof.Rows.callWith_builtin1 (thn (ha pos pins s σ H _ I h) λ us s1 ⟨vs,H1,I1,r1,q1⟩=>hc pins s1 σ H1 vs us Q I1 r1 q1) he hpl
theorem pe_callTy (hc:CallR X (.type T) r)(hg:Gl X x)(hm:X.mg x=none)(hv:bootBuiltins x=some (.type T))(ha:PA X (e :: es) t)(hn:x ≠ "__name__" := by decide)(hdb:(x == ("__debug__" : Str))=false:=by decide)
  (he:starEach (e :: es) X.env=(false,eval e X.env) :: starEach es X.env:=by rfl)(hpl:(backTo pos (starEach es X.env)).any (·.1)=false:=by rfl):PE X (.Call (.Name x p) (e :: es) [] pos) (tCB r t):=by
 intro pins s σ H Q I h
 refine wpAny_Call_Name_kw (ld_blt I hg hm hv ?_ hn hdb)
 exact PyProof.Rows.callWith_type1 (thn (ha pos pins s σ H _ I h) λ us s1 ⟨vs,H1,I1,r1,q1⟩=>hc pins s1 σ H1 vs us Q I1 r1 q1) he hpl
end
end L2
namespace HT
open PySem PyProof.Rows
section
open PySem.SeqAt
open PySem.AutoSeq1 (wpAny_loadPart')
open PySem.MeetsSeq PySem.MeetsSeq2 PySem.MeetsSeq3
end
section
variable {prog:Program}{w:World}{A:Around}{E:Value->Shared->Prop}{s:Shared}
noncomputable def sIx (n d:Nat):Option Int->Nat
 | none=>d
 | some v=>if v < 0 then (v+(n:Int)).toNat else min v.toNat n
theorem sIx_le (n d:Nat)(hd:d<=n)(o:Option Int):sIx n d o<=n:=by
 cases o with
 | none=>exact hd
 | some v =>
  show (if v < 0 then (v+(n:Int)).toNat else min v.toNat n)<=n
  by_cases hv:v < 0
  ·rw [if_pos hv]; omega
  ·rw [if_neg hv]; exact Nat.min_le_right _ _
theorem clip_eq (v:Int)(n d:Nat):(if v < 0 then max (v+(n:Int)) 0 else min v (n:Int))=((sIx n d (some v):Nat):Int):=by
 show (if v < 0 then max (v+(n:Int)) 0 else min v (n:Int))=(((if v < 0 then (v+(n:Int)).toNat else min v.toNat n):Nat):Int)
 by_cases hv:v < 0
 ·simp only [if_pos hv]; omega
 ·simp only [if_neg hv]; omega
theorem adjust_gen (lo hi:Option Int)(n:Nat):Builtin.Slice.sliceAdjust lo hi 1 (n:Int)=(((sIx n 0 lo:Nat):Int),((sIx n n hi:Nat):Int)):=by
 have h1:¬ ((1:Int) < 0):=by omega
 unfold Builtin.Slice.sliceAdjust
 simp only [h1,if_false]
 refine Prod.ext ?_ ?_
 ·cases lo with
  | none=>rfl
  | some v=>exact clip_eq v n 0
 ·cases hi with
  | none=>rfl
  | some v=>exact clip_eq v n n
theorem places_gen (i j:Nat):Builtin.Slice.slicePlaces (i:Int) (j:Int) 1=j - i:=by
 unfold Builtin.Slice.slicePlaces
 have h1:(1:Int) > 0:=by omega
 simp only [h1,if_true,Int.ediv_one]
 split <;> omega
theorem slicePart_ {v:Value}{o:Option Int}{Q:Option Int->Shared->Prop}(p:IsPart v o)(h:Q o s):wpAny (model prog w) A (Builtin.Slice.slicePartIndex v) Q E s:=by
 cases p with
 | none=>exact slicePart_none h
 | int i t=>exact slicePart_int h
theorem sliceApplied_gen {sl:Addr}{vl vu:Value}{lo hi:Option Int}{n:Nat}{Q:Int×Int×Nat->Shared->Prop}(hs:s.heap.IsSliceOf sl vl vu .none)(pl:IsPart vl lo)(pu:IsPart vu hi)
  (h:Q (((sIx n 0 lo:Nat):Int),1,sIx n n hi - sIx n 0 lo) s):wpAny (model prog w) A (Builtin.Slice.sliceApplied (.ref sl) (pure (n:Int))) Q E s:=by
 obtain ⟨os,hos,hcs,hds⟩:=id hs
 unfold Builtin.Slice.sliceApplied Builtin.Slice.sliceFields
 refine wpAny_bind (wpAny_bind (wpAny_field hos hds (x:=vl) rfl (wpAny_bind (wpAny_field hos hds (x:=vu) rfl (wpAny_bind (wpAny_field hos hds (x:=.none) rfl (wpAny_pure ?_)))))))
 refine wpAny_bind (slicePart_none ?_)
 show wpAny _ _ (if ((1:Int) == 0)=true then _ else _) _ _ s
 rw [if_neg (by decide)]
 refine wpAny_bind (slicePart_ pl (wpAny_bind (slicePart_ pu (wpAny_bind (wpAny_pure ?_)))))
 show wpAny _ _ (match Builtin.Slice.sliceAdjust lo hi 1 (n:Int) with | (lo,hi)=>pure (lo,(1:Int),Builtin.Slice.slicePlaces lo hi 1)) _ _ s
 rw [adjust_gen lo hi n]
 show wpAny _ _ (pure (((sIx n 0 lo:Nat):Int),(1:Int),Builtin.Slice.slicePlaces ((sIx n 0 lo:Nat):Int) ((sIx n n hi:Nat):Int) 1)) _ _ s
 rw [places_gen]
 exact wpAny_pure h
theorem pick_gen (xs:Array Value)(i k:Nat):((List.range k).filterMap λ (m:Nat)=>xs[((i:Int)+(m:Int) * 1).toNat]?).toArray=((xs.toList.drop i).take k).toArray:=by
 have e:(λ (m:Nat)=>xs[((i:Int)+(m:Int) * 1).toNat]?)=λ m=>xs[i+m]?:=by
  funext m
  have:((i:Int)+(m:Int) * 1).toNat=i+m:=by omega
  rw [this]
 rw [e]
 have:=pick_run xs i k
 rw [List.filterMap_map] at this
 have e2:((λ x=>xs[x]?) ∘ λ x=>i+x)=λ m=>xs[i+m]?:=rfl
 rw [e2] at this
 rw [this]
theorem getItem_tuple_cut {t sl:Addr}{items:Array Value}{vl vu:Value}{lo hi:Option Int}{Q:Value->Shared->Prop}(ht:IsTup s.heap t items)(hs:s.heap.IsSliceOf sl vl vu .none)(pl:IsPart vl lo)(pu:IsPart vu hi)
  (hw:¬ (sIx items.size 0 lo=0/\sIx items.size items.size hi=items.size))
  (h:Q (.ref s.heap.objs.size) { s with heap:=s.heap.push { cls:=.type "tuple",data:=.seq ((items.toList.drop (sIx items.size 0 lo)).take (sIx items.size items.size hi - sIx items.size 0 lo)).toArray } })
  (hsz:items.size<=sizeLine):wpAny (model prog w) A (getItem (.ref t) (.ref sl)) Q E s:=by
 have htake:sizeOk (.seq ((items.toList.drop (sIx items.size 0 lo)).take (sIx items.size items.size hi - sIx items.size 0 lo)).toArray):=by
  show ((items.toList.drop (sIx items.size 0 lo)).take (sIx items.size items.size hi - sIx items.size 0 lo)).toArray.size<=sizeLine
  rw [List.size_toArray,List.length_take,List.length_drop,Array.length_toList]
  omega
 have hj:sIx items.size items.size hi<=items.size:=sIx_le _ _ (Nat.le_refl _) hi
 obtain ⟨os,hos,hcs,hds⟩:=id hs
 have hTs:s.TypeIs (.ref sl) "slice" := ⟨os,hos,hcs⟩
 unfold getItem
 try with_reducible refine wpAny_holding ?_
 first | refine wpAny_bind (wpAny_pure ?_) | skip
 refine wpAny_bind (wpAny_sequenceKey ht.typeIs (by decide) ?_)
 refine wpAny_bind (wpAny_callSpecial?_slot (name:=Str.ofString "__getitem__") ht.typeIs PyProof.Rows.slot_tuple_getitem
  (wpAny_call_entry PyProof.Rows.slot_tuple_getitem ht.typeIs entry_tuple_getitem ?_ (args_tuple_getitem _ _)))
 show wpAny _ _ (Builtin.Tuple.tupleItemsOf (.ref t) >>= _) _ _ s
 refine wpAny_bind (tupleItemsOf_ ht ?_)
 refine wpAny_bind (wpAny_typeOf hTs ?_)
 rw [if_pos (by decide)]
 refine wpAny_bind (sliceApplied_gen hs pl pu ?_)
 have hno:¬ ((((sIx items.size 0 lo:Nat):Int) == 0 && (1:Int) == 1 && (sIx items.size items.size hi - sIx items.size 0 lo) == items.size)=true):=by
  intro q
  rw [Bool.and_eq_true,Bool.and_eq_true] at q
  have q1:((sIx items.size 0 lo:Nat):Int)=0:=eq_of_beq q.1.1
  have q2:sIx items.size items.size hi - sIx items.size 0 lo=items.size:=eq_of_beq q.2
  exact hw ⟨by omega,by omega⟩
 show wpAny _ _ (if (((sIx items.size 0 lo:Nat):Int) == 0 && (1:Int) == 1 && (sIx items.size items.size hi - sIx items.size 0 lo) == items.size)=true then _ else _) _ _ s
 rw [if_neg hno,pick_gen]
 first
  | exact wpAny_bind (m:=Builtin.Tuple.tupleExact _) (wpAny_newObj_type (wpAny_pure ⟨_,rfl,wpAny_pure h⟩) htake)
  | exact wpAny_bind (m:=Builtin.Tuple.tupleExact _) (wpAny_newObj_type (wpAny_bind (wpAny_pure (wpAny_pure ⟨_,rfl,wpAny_pure h⟩))) htake)
  | exact wpAny_bind (wpAny_bind (m:=Builtin.Tuple.tupleExact _) (wpAny_newObj_type (wpAny_pure (wpAny_pure ⟨_,rfl,wpAny_pure h⟩)) htake))
  | exact wpAny_bind (wpAny_bind (m:=Builtin.Tuple.tupleExact _) (wpAny_newObj_type (wpAny_pure ⟨_,rfl,wpAny_pure h⟩) htake))
end
end HT
namespace L2
open PySem PySem.Spec PyProof.Rows
noncomputable abbrev TO:=St->Hp->(Option Int->Hp->Prop)->Prop
noncomputable def PO (X:Cx)(e:Option Expr)(t:TO):Prop :=
 ∀ (pins:List (Addr×Obj)) (s:Shared) (σ:St) (H:Hp) (Q:Option Int->Hp->Prop),Inv X pins σ H s->t σ H Q ->
  wpAny (model X.prog X.w) X.A (evalPart e X.env) (λ u s'=>∃ o H',Inv X pins σ H' s'/\IsPart u o/\Q o H') X.xe s
noncomputable def tNoPart:TO:=λ _ H Q=>Q none H
noncomputable def tPart (t:TE):TO:=λ σ H Q=>t σ H λ x H1=>∃ i,x=.int i/\Q (some i) H1
section
variable {X:Cx}{e:Expr}{te:TE}{lo hi:Option Expr}{tl th:TO}{pos p2:Pos}
theorem po_none:PO X none tNoPart:=by
 intro pins s σ H Q I h
 rw [evalPart_none]
 exact wpAny_pure ⟨none,H,I,.none,h⟩
theorem po_some (h:PE X e te):PO X (some e) (tPart te):=by
 intro pins s σ H Q I hw
 rw [evalPart_some]
 refine thn (h pins s σ H _ I hw) λ u s1 hq14=>?_
 obtain ⟨x,H1,I1,r1,q1⟩:=hq14
 obtain ⟨i,rfl,q⟩:=q1
 obtain ⟨t,rfl⟩:=r1
 exact ⟨some i,H1,I1,.int i t,q⟩
noncomputable def SlR (X:Cx)(r:V->Option Int->Option Int->Hp->VK->Prop):Prop :=
 ∀ (pins:List (Addr×Obj)) (s:Shared) (σ:St) (H:Hp) (x:V) (v vl vu:Value) (lo hi:Option Int) (sl:Addr) (Q:VK),Inv X pins σ H s->RelV x v->s.heap.IsSliceOf sl vl vu .none->IsPart vl lo->IsPart vu hi->r x lo hi H Q ->
  ∃ T id,typeLookup (.type T) "__getitem__" = pure (some (.builtin id))/\s.TypeIs v T/\wpAny (model X.prog X.w) X.A (getItem v (.ref sl)) (EP X pins σ Q) X.xe s
theorem SlR.or {r r':V->Option Int->Option Int->Hp->VK->Prop}(h:SlR X r)(h':SlR X r'):SlR X (λ x lo hi H Q=>r x lo hi H Q\/r' x lo hi H Q):=by
 intro pins s σ H x v vl vu lo hi sl Q I rx hs pl pu q
 rcases q with q | q
 ·exact h pins s σ H x v vl vu lo hi sl Q I rx hs pl pu q
 ·exact h' pins s σ H x v vl vu lo hi sl Q I rx hs pl pu q
noncomputable def tSl (r:V->Option Int->Option Int->Hp->VK->Prop)(te:TE)(tl th:TO):TE:=λ σ H Q=>te σ H λ x H1=>tl σ H1 λ l H2=>th σ H2 λ u H3=>r x l u H3 Q
theorem pe_slice {r:V->Option Int->Option Int->Hp->VK->Prop}(hr:SlR X r)(he:PE X e te)(hl:PO X lo tl)(hu:PO X hi th):PE X (.Subscript e (.Slice lo hi none p2) pos) (tSl r te tl th):=by
 intro pins s σ H Q I h
 refine Subscript_ (thn (he pins s σ H _ I h) λ v s1 hq15=>?_)
 obtain ⟨x,H1,I1,r1,q1⟩:=hq15
 refine wpAny_Slice (thn (hl pins s1 σ H1 _ I1 q1) λ vl s2 ⟨l,H2,I2,pl,q2⟩=>thn (hu pins s2 σ H2 _ I2 q2) λ vu s3 hq16=>?_)
 obtain ⟨u,H3,I3,pu,q3⟩:=hq16
 rw [evalPart_none]
 refine wpAny_pure ?_
 have I4:Inv X pins σ H3 { s3 with heap:=s3.heap.push { cls:=.type "slice",data:=.fields #[vl,vu,.none] } }:=I3.kept (t':=s3.toks) λ b ob q=>Heap.get?_push_of_some _ q
 obtain ⟨T,id,hT,ht,hg⟩:=hr pins { s3 with heap:=s3.heap.push { cls:=.type "slice",data:=.fields #[vl,vu,.none] } } σ H3 x v vl vu l u s3.heap.objs.size Q I4 r1 (Heap.IsSliceOf.new ..) pl pu q3
 show wpAny (model X.prog X.w) X.A (subscriptTail e (.Slice lo hi none p2) v (.ref s3.heap.objs.size)) (EP X pins σ Q) X.xe { s3 with heap:=s3.heap.push { cls:=.type "slice",data:=.fields #[vl,vu,.none] } }
 exact tail_any (ops:=[.ref s3.heap.objs.size,v]) ht hT hg (by with_unfolding_all rfl)
noncomputable def cutV (xs:List V)(lo hi:Option Int):List V:=(xs.drop (HT.sIx xs.length 0 lo)).take (HT.sIx xs.length xs.length hi - HT.sIx xs.length 0 lo)
theorem cutV_length (xs:List V)(lo hi:Option Int):(cutV xs lo hi).length<=xs.length:=by
 unfold cutV
 rw [List.length_take,List.length_drop]
 omega
noncomputable def rSlT (K:PySem.W.Frag):V->Option Int->Option Int->Hp->VK->Prop:=λ x lo hi H Q=>∃ a xs,x=.ref a/\SqT K H a xs /\
 ¬ (HT.sIx xs.length 0 lo=0/\HT.sIx xs.length xs.length hi=xs.length)/\∀ p,H p=none->Q (.ref p) (upd H p (.tup (cutV xs lo hi)))
theorem sl_tup:SlR X (rSlT X.K):=by
 intro pins s σ H x v vl vu lo hi sl Q I rx hs pl pu h
 obtain ⟨a,xs,rfl,hx,hw,q⟩:=h
 cases rx
 obtain ⟨its,r,ht,hz⟩:=I.tuple hx
 have hlen:its.toArray.size=xs.length:=by rw [List.size_toArray]; exact r.length.symm
 refine ⟨"tuple",_,PyProof.Rows.slot_tuple_getitem.lookup,ht.typeIs,?_⟩
 refine HT.getItem_tuple_cut ht hs pl pu (by rw [hlen]; exact hw) ?_ (by rw [hlen]; exact hz)
 rw [hlen]
 refine ⟨.ref s.heap.objs.size,_,I.laid (t':=s.toks) (o:=.tup (cutV xs lo hi)) (λ b ob q=>Heap.get?_push_of_some _ q) (Nat.le_refl _) ?_,rfl,q _ (I.hok.fresh (Nat.le_refl _))⟩
 exact ⟨Nat.le_trans (cutV_length xs lo hi) hz,_,(r.drop (HT.sIx xs.length 0 lo)).take (HT.sIx xs.length xs.length hi - HT.sIx xs.length 0 lo),TupN.new _ _⟩
end
end L2
namespace L2
open PySem PySem.Spec PyProof.Rows
noncomputable def ixN (n:Nat)(i:Int):Option Nat:=if 0<=i then (if i < n then some i.toNat else none) else if -(n:Int)<=i then some (i+n).toNat else none
noncomputable def atI {α:Type}(xs:List α)(i:Int):Option α:=(ixN xs.length i).bind λ j=>xs[j]?
theorem ixN_seq {n:Nat}{i:Int}{j:Nat}(h:ixN n i=some j):seqIndex? i n=some j/\j < n/\-(n:Int)<=i/\i < n:=by
 unfold ixN at h
 by_cases h0:0<=i
 ·rw [if_pos h0] at h
  by_cases h1:i < n
  ·rw [if_pos h1] at h
   have e:i.toNat=j:=Option.some.inj h
   exact ⟨by rw [seqIndex_of h0 h1,e],by omega,by omega,h1⟩
  ·rw [if_neg h1] at h; cases h
 ·rw [if_neg h0] at h
  by_cases h1:-(n:Int)<=i
  ·rw [if_pos h1] at h
   have e:(i+n).toNat=j:=Option.some.inj h
   exact ⟨by rw [seqIndex_neg (by omega) h1,e],by omega,h1,by omega⟩
  ·rw [if_neg h1] at h; cases h
theorem atI_get {α:Type}{xs:List α}{i:Int}{v:α}(h:atI xs i=some v):∃ j,seqIndex? i xs.length=some j/\xs[j]? = some v/\j < xs.length/\-(xs.length:Int)<=i/\i < xs.length:=by
 unfold atI at h
 cases e:ixN xs.length i with
 | none=>rw [e] at h; cases h
 | some j =>
  rw [e] at h
  obtain ⟨h1,h2,h3,h4⟩:=ixN_seq e
  exact ⟨j,h1,h,h2,h3,h4⟩
noncomputable def PlainIx (b:Expr):Prop:=∀ o i,subscripted b false o i=operate [o,i] (getItem o i)
noncomputable def IxR (X:Cx)(r:R2):Prop :=
 ∀ (value slice:Expr) (pins:List (Addr×Obj)) (s:Shared) (σ:St) (H:Hp) (x y:V) (v u:Value) (Q:VK),Inv X pins σ H s->RelV x v->RelV y u->r x y H Q ->
  subscripted slice false v u=operate [v,u] (getItem v u)->wpAny (model X.prog X.w) X.A (subscriptTail value slice v u) (EP X pins σ Q) X.xe s
noncomputable def MtR (X:Cx)(id:String)(r:V->List V->Hp->VK->Prop):Prop :=
 ∀ (pins:List (Addr×Obj)) (s:Shared) (σ:St) (H:Hp) (x:V) (xs:List V) (v:Value) (us:List Value) (Q:VK),Inv X pins σ H s->RelV x v->Vals xs us->r x xs H Q ->
  wpAny (model X.prog X.w) X.A (call (.builtin id) (v :: us)) (EP X pins σ Q) X.xe s
section
variable {X:Cx}{a b:Expr}{ta tb:TE}{pos:Pos}
theorem IxR.or {r r':R2}(h:IxR X r)(h':IxR X r'):IxR X (λ x y H Q=>r x y H Q\/r' x y H Q):=by
 intro value slice pins s σ H x y v u Q I rx ry q hs
 rcases q with q | q
 ·exact h value slice pins s σ H x y v u Q I rx ry q hs
 ·exact h' value slice pins s σ H x y v u Q I rx ry q hs
theorem MtR.or {id:String}{r r':V->List V->Hp->VK->Prop}(h:MtR X id r)(h':MtR X id r'):MtR X id (λ x xs H Q=>r x xs H Q\/r' x xs H Q):=by
 intro pins s σ H x xs v us Q I rx rs q
 rcases q with q | q
 ·exact h pins s σ H x xs v us Q I rx rs q
 ·exact h' pins s σ H x xs v us Q I rx rs q
theorem pe_ix {r:R2}(hr:IxR X r)(ha:PE X a ta)(hb:PE X b tb)(hs:PlainIx b):PE X (.Subscript a b pos) (tOp r ta tb):=by
 intro pins s σ H Q I h
 exact Subscript_ (binT ha hb I h λ v u s2 x y H2 I2 rx ry q=>hr a b pins s2 σ H2 x y v u Q I2 rx ry q (hs _ _))
noncomputable def rIxL (K:PySem.W.Frag):R2:=λ x y H Q=>∃ p xs i v,x=.ref p/\y=.int i/\SqL K H p xs/\atI xs i=some v/\Q v H
noncomputable def rIxT (K:PySem.W.Frag):R2:=λ x y H Q=>∃ p xs i v,x=.ref p/\y=.int i/\SqT K H p xs/\atI xs i=some v/\Q v H
noncomputable def rIxS:R2:=λ x y H Q=>∃ z i c,x=.str z/\y=.int i/\z.length<=sizeLine/\atI z.cps.toList i=some c/\Q (.str ⟨#[c]⟩) H
theorem ix_list:IxR X (rIxL X.K):=by
 intro value slice pins s σ H x y v u Q I rx ry h hs
 obtain ⟨p,xs,i,z,rfl,rfl,hq,he,q⟩:=h
 cases rx
 obtain ⟨t,rfl⟩:=ry
 obtain ⟨its,r,pl,hz⟩:=I.list hq
 obtain ⟨j,h1,h2,h3,h4,h5⟩:=atI_get he
 obtain ⟨w,ew,rw'⟩:=r.get h2
 have hl:=r.length
 have hn:=line63
 have fin:EP X pins σ Q w s:=⟨z,H,I,rw',q⟩
 by_cases h0:0<=i
 ·have hj:i.toNat=j:=by
   rw [seqIndex_of h0 h5] at h1
   exact Option.some.inj h1
  exact item_listR pl.isList h0 (by omega) (by rw [hj]; simpa using ew) fin hs
 ·have hj:(i+(its.toArray.size:Int)).toNat=j:=by
   rw [seqIndex_neg (by omega) h4] at h1
   rw [List.size_toArray,<- hl]
   exact Option.some.inj h1
  exact subscriptTail_builtinR (x:=w) pl.isList.typeIs slot_list_getitem.lookup
   (wpAny_getItem_list_neg (Q:=λ r s'=>r=w/\EP X pins σ Q r s') pl.isList (by omega) (by rw [List.size_toArray] <;> omega) (by omega) (by rw [hj]; simpa using ew) ⟨rfl,fin⟩) hs
theorem ix_tup:IxR X (rIxT X.K):=by
 intro value slice pins s σ H x y v u Q I rx ry h hs
 obtain ⟨p,xs,i,z,rfl,rfl,hq,he,q⟩:=h
 cases rx
 obtain ⟨t,rfl⟩:=ry
 obtain ⟨its,r,pl,hz⟩:=I.tuple hq
 obtain ⟨j,h1,h2,h3,h4,h5⟩:=atI_get he
 obtain ⟨w,ew,rw'⟩:=r.get h2
 have hl:=r.length
 have hn:=line63
 have fin:EP X pins σ Q w s:=⟨z,H,I,rw',q⟩
 exact subscriptTail_builtinR (x:=w) pl.typeIs slot_tuple_getitem.lookup
  (getItem_tuple (j:=j) (Q:=λ r s'=>r=w/\EP X pins σ Q r s') pl (by omega) (by omega) (by rw [List.size_toArray,<- hl]; exact h1) (by simpa using ew) ⟨rfl,fin⟩) hs
theorem ix_str:IxR X rIxS:=by
 intro value slice pins s σ H x y v u Q I rx ry h hs
 obtain ⟨z,i,c,rfl,rfl,hz,he,q⟩:=h
 obtain ⟨t,rfl⟩:=rx
 obtain ⟨t',rfl⟩:=ry
 obtain ⟨j,h1,h2,h3,h4,h5⟩:=atI_get he
 have hl:z.cps.toList.length=z.length:=by simp [Str.length]
 rw [hl] at h1 h4 h5
 have hn:=line63
 exact tail_any (typeIs_str s z t) slot_str_getitem.lookup (getItem_str (c:=c) (by
  have e1:decide (i < -(2 ^ 63:Int))=false:=decide_eq_false (by omega)
  have e2:decide (i >= 2 ^ 63)=false:=decide_eq_false (by omega)
  rw [e1,e2,Bool.or_false]) (by rw [h1]; simpa using h2) ⟨.str ⟨#[c]⟩,H,I.tok _,⟨_,rfl⟩,q⟩) hs
noncomputable def rIx (K:PySem.W.Frag):R2:=λ x y H Q=>rIxL K x y H Q\/rIxT K x y H Q\/rIxS x y H Q
theorem ix_seq:IxR X (rIx X.K):=ix_list.or (ix_tup.or ix_str)
theorem mapSeq_set (its:List Value)(n j:Nat)(u:Value):Obj.mapSeq (·.setIfInBounds j u) { cls:=.type "list",data:=.seq its.toArray n }={ cls:=.type "list",data:=.seq (its.set j u).toArray n }:=by
 simp [Obj.mapSeq]
theorem Inv.lst {pins:List (Addr×Obj)}{σ:St}{H:Hp}{s:Shared}{p:Addr}{xs:List V}(I:Inv X pins σ H s)(h:H p=some (.lst xs)) :
  ∃ (its:List Value) (n:Nat),Vals xs its/\s.heap.get? p=some { cls:=.type "list",data:=.seq its.toArray n }/\xs.length<=sizeLine:=by
 obtain ⟨z,its,n,r,e⟩:=I.hok p _ h
 exact ⟨its,n,r,e,z⟩
theorem Inv.lstUpd {pins:List (Addr×Obj)}{σ:St}{H:Hp}{s:Shared}{p:Addr}{xs ys:List V}{its its':List Value}{n n':Nat}{f:Obj->Obj}(I:Inv X pins σ H s)(h:H p=some (.lst xs))
  (ho:s.heap.get? p=some { cls:=.type "list",data:=.seq its.toArray n })(hf:f { cls:=.type "list",data:=.seq its.toArray n }={ cls:=.type "list",data:=.seq its'.toArray n' })(r:Vals ys its')(hz:ys.length<=sizeLine)(t:Nat) :
  Inv X pins σ (upd H p (.lst ys)) { s with heap:=s.heap.update p f,toks:=t }:=by
 have e:(s.heap.update p f).get? p=some { cls:=.type "list",data:=.seq its'.toArray n' }:=by
  rw [Heap.get?_update_self f ho (by rw [hf] <;> rfl),hf]
 refine I.write (x:=p) (e:=p) (by rw [h]; trivial) (.inl rfl) (λ b u hb q=>(Heap.get?_update_other _ _ (Ne.symm hb)).trans q) ⟨_,e⟩ ?_
 exact ⟨hz,its',n',r,e⟩
noncomputable def rSetL:V->V->V->Hp->(Hp->Prop)->Prop:=λ o i v H Q=>∃ p xs k j,o=.ref p/\i=.int k/\H p=some (.lst xs)/\ixN xs.length k=some j/\Q (upd H p (.lst (xs.set j v)))
theorem set_list:PSet X rSetL:=by
 intro pins s σ H o i v ov iv u Q I ro ri rv h
 obtain ⟨p,xs,k,j,rfl,rfl,hp,hj,q⟩:=h
 cases ro
 obtain ⟨t,rfl⟩:=ri
 obtain ⟨its,n,r,ho,hz⟩:=I.lst hp
 obtain ⟨h1,h2,h3,h4⟩:=ixN_seq hj
 have hl:=r.length
 have hn:=line63
 have I':Inv X pins σ (upd H p (.lst (xs.set j v))) { s with heap:=s.heap.update p (Obj.mapSeq (·.setIfInBounds j u)) } :=
  I.lstUpd hp ho (mapSeq_set its n j u) (r.set rv j) (by rw [List.length_set]; exact hz) s.toks
 by_cases h0:0<=k
 ·have hk:k.toNat=j:=by
   rw [seqIndex_of h0 h4] at h1
   exact Option.some.inj h1
  exact PySem.W.ki_setAt ho h0 (by omega) (by rw [List.size_toArray,<- hl]; exact h4) (by rw [hk]; exact ⟨_,I',q⟩)
 ·have hk:(k+(its.toArray.size:Int)).toNat=j:=by
   rw [seqIndex_neg (by omega) h3] at h1
   rw [List.size_toArray,<- hl]
   exact Option.some.inj h1
  exact PySem.W.ki_setBack ho (by omega) (by rw [List.size_toArray,<- hl]; exact h3) (by omega) (by rw [hk]; exact ⟨_,I',q⟩)
theorem slice_bounds (lo hi:Option Int)(n:Nat):(sliceBounds lo hi none n).1=((HT.sIx n 0 lo:Nat):Int)/\(sliceBounds lo hi none n).2.1=((HT.sIx n n hi:Nat):Int)/\(sliceBounds lo hi none n).2.2=1:=by
 refine ⟨?_,?_,rfl⟩
 ·cases lo with
  | none=>simp [sliceBounds,HT.sIx]
  | some i =>
   simp only [sliceBounds,HT.sIx,Option.getD_none,show (1:Int) > 0 by decide,if_true]
   by_cases h:i < 0
   ·simp only [h,if_true] <;> omega
   ·simp only [h,if_false] <;> omega
 ·cases hi with
  | none=>simp [sliceBounds,HT.sIx]
  | some i =>
   simp only [sliceBounds,HT.sIx,Option.getD_none,show (1:Int) > 0 by decide,if_true]
   by_cases h:i < 0
   ·simp only [h,if_true] <;> omega
   ·simp only [h,if_false] <;> omega
theorem slicePick_cut (its:List Value)(lo hi:Option Int):slicePick its.toArray lo hi none=((its.drop (HT.sIx its.length 0 lo)).take (HT.sIx its.length its.length hi - HT.sIx its.length 0 lo)).toArray:=by
 obtain ⟨h1,h2,h3⟩:=slice_bounds lo hi its.toArray.size
 unfold slicePick
 rw [h1,h2,h3]
 simp only [sliceRange_one,pick_run,List.size_toArray] <;> rfl
noncomputable def rSlL (K:PySem.W.Frag):V->Option Int->Option Int->Hp->VK->Prop:=λ x lo hi H Q=>∃ a xs,x=.ref a/\SqL K H a xs/\∀ p,H p=none->Q (.ref p) (upd H p (.lst (cutV xs lo hi)))
theorem sl_list:SlR X (rSlL X.K):=by
 intro pins s σ H x v vl vu lo hi sl Q I rx hs pl pu h
 obtain ⟨a,xs,rfl,hx,q⟩:=h
 cases rx
 obtain ⟨its,r,ht,hz⟩:=I.list hx
 have hlen:=r.length
 refine ⟨"list",_,slot_list_getitem.lookup,ht.isList.typeIs,?_⟩
 refine wpAny_getItem_list_slice ht.isList hs pl pu .none (by simp) ?_ (by rw [List.size_toArray] <;> omega)
 rw [slicePick_cut,<- hlen]
 refine ⟨.ref s.heap.objs.size,_,I.laid (t':=s.toks) (o:=.lst (cutV xs lo hi)) (λ b ob q=>Heap.get?_push_of_some _ q) (Nat.le_refl _) ?_,rfl,q _ (I.hok.fresh (Nat.le_refl _))⟩
 exact ⟨Nat.le_trans (cutV_length xs lo hi) hz,_,0,(r.drop (HT.sIx xs.length 0 lo)).take (HT.sIx xs.length xs.length hi - HT.sIx xs.length 0 lo),Heap.get?_push_size _ rfl⟩
theorem CallR.or {f:Value}{r r':List V->Hp->VK->Prop}(h:CallR X f r)(h':CallR X f r'):CallR X f (λ xs H Q=>r xs H Q\/r' xs H Q):=by
 intro pins s σ H xs us Q I rs q
 rcases q with q | q
 ·exact h pins s σ H xs us Q I rs q
 ·exact h' pins s σ H xs us Q I rs q
variable {o e:Expr}{es:List Expr}{to:TE}{t:TA}{name:Str}{apos cpos:Pos}{T id:String}{r:V->List V->Hp->VK->Prop}
end
end L2
namespace L2
open PySem PySem.Spec PyProof.Rows
theorem Vals.one:∀ {x:V} {us:List Value},Vals [x] us->∃ u,us=[u]/\RelV x u
 | _,_,.cons r .nil=>⟨_,rfl,r⟩
theorem Vals.zero:∀ {us:List Value},Vals [] us->us=[]
 | _,.nil=>rfl
theorem Vals.rep {xs:List V}{us:List Value}(h:Vals xs us):∀ k:Nat,Vals (List.replicate k xs).flatten (List.replicate k us).flatten
 | 0=>.nil
 | k+1=>by
  rw [List.replicate_succ,List.replicate_succ,List.flatten_cons,List.flatten_cons]
  exact Vals.append h (Vals.rep h k)
theorem foldl_rep (its:List Value):∀ (k:Nat) (acc:List Value),
  List.foldl (λ x1 x2=>x1++x2) acc.toArray (List.replicate k its.toArray)=(acc++(List.replicate k its).flatten).toArray
 | 0,acc=>by simp
 | k+1,acc=>by
  have e:acc.toArray++its.toArray=(acc++its).toArray:=by simp
  have e2:(acc++its)++(List.replicate k its).flatten=acc++(List.replicate (k+1) its).flatten:=by
   rw [List.replicate_succ,List.flatten_cons,List.append_assoc]
  rw [<- e2,<- foldl_rep its k (acc++its),<- e,List.replicate_succ,List.foldl_cons]
section
variable {X:Cx}{pins:List (Addr×Obj)}{σ:St}{H:Hp}{s:Shared}{l b:Addr}{xs ys zs:List V}
theorem Inv.lnew {its:List Value}{t':Nat}(I:Inv X pins σ H s)(hv:Vals ys its)(hz:ys.length<=sizeLine) :
  Inv X pins σ (upd H s.heap.objs.size (.lst ys)) { s with heap:=s.heap.push { cls:=.type "list",data:=.seq its.toArray },toks:=t' } :=
 I.laid (λ _ _ q=>Heap.get?_push_of_some _ q) (Nat.le_refl _) ⟨hz,its,0,hv,Heap.get?_push_size _ rfl⟩
theorem Inv.fresh (I:Inv X pins σ H s):H s.heap.objs.size=none:=I.hok.fresh (Nat.le_refl _)
theorem Inv.lstM (I:Inv X pins σ H s)(hH:H l=some (.lst xs)):xs.length<=sizeLine/\∃ (its:List Value) (n:Nat),Vals xs its/\xs.length=its.length/\s.heap.get? l=some { cls:=.type "list",data:=.seq its.toArray n }:=by
 obtain ⟨z,its,n,r,e⟩:=I.hok l _ hH
 exact ⟨z,its,n,r,r.length,e⟩
theorem notLongL {n:Nat}(h:n<=sizeLine):Builtin.List.listTooLong n=false:=by
 unfold Builtin.List.listTooLong
 exact decide_eq_false (by omega)
end
section
variable {X:Cx}
noncomputable def rRep:R2:=λ x y H Q=>∃ l k xs,x=.ref l/\y=.int k/\H l=some (.lst xs)/\-(2 ^ 63)<=k/\k < 2 ^ 63/\xs.length * k.toNat<=sizeLine /\
 ∀ p,H p=none->Q (.ref p) (upd H p (.lst (List.replicate k.toNat xs).flatten))
theorem len_rep {α:Type}(xs:List α)(k:Nat):(List.replicate k xs).flatten.length=k * xs.length:=by
 induction k with
 | zero=>simp
 | succ k ih=>rw [List.replicate_succ,List.flatten_cons,List.length_append,ih,Nat.succ_mul,Nat.add_comm]
theorem op_rep:OpR X (binaryOp .Mult) rRep:=by
 intro pins s σ H x y v u Q I rx ry h
 obtain ⟨l,k,xs,rfl,rfl,hH,h1,h2,hz,q⟩:=h
 cases rx
 obtain ⟨t,rfl⟩:=ry
 obtain ⟨z,its,n,r,hl,e⟩:=I.lstM hH
 have hlen:its.toArray.size * k.toNat<=sizeLine:=by rw [List.size_toArray,<- hl]; exact hz
 have hcap:¬ its.toArray.size * k.toNat > (2 ^ 63 - 1) / 8:=by
  have:(sizeLine:Nat)<=(2 ^ 63 - 1) / 8:=by decide
  omega
 have hfit:¬ (!Builtin.List.listFitsIndex k)=true:=by
  rw [fitsIndex_both h1 h2]
  exact Bool.false_ne_true
 have hlong:¬ Builtin.List.listTooLong (its.toArray.size * k.toNat)=true:=by
  rw [notLongL hlen]
  exact Bool.false_ne_true
 have hnew:List.foldl (λ x1 x2=>x1++x2) #[] (List.replicate (if its.toArray.isEmpty=true then 0 else k.toNat) its.toArray)=(List.replicate k.toNat its).flatten.toArray:=by
  have f0:∀ m:Nat,List.foldl (λ x1 x2=>x1++x2) #[] (List.replicate m its.toArray)=(List.replicate m its).flatten.toArray:=λ m=>by
   have:=foldl_rep its m []
   rw [List.nil_append] at this
   exact this
  rw [f0]
  cases its with
  | nil=>simp
  | cons a r'=>rw [if_neg (by simp)]
 refine wpAny_binaryOp_repeat_ref (T := "list") (U := "int") (by decide) ⟨_,e,rfl⟩ (λ s'=>typeIs_int s' k t) noFill_list_mul F.fills_int_mul F.slot_int_rmul repeat_list F.slot_int_index.lookup
  (call_meets F.slot_int_rmul (typeIs_int s k t) F.entry_int_rmul (F.args_int_rmul_2 _ _) (int___rmul___int_list k t l its.toArray n)
   ⟨e,rfl,⟨_,e,rfl⟩,call_meets F.slot_list_mul ⟨_,e,rfl⟩ F.entry_list_mul (F.args_list_mul_2 _ _) (AutoListH.list___mul___list_int_3 l its.toArray n k t hfit hcap hlong) ⟨e,?_⟩⟩)
 rw [hnew]
 exact ⟨.ref _,_,I.lnew (t':=s.toks) (r.rep k.toNat) (by rw [len_rep,Nat.mul_comm]; exact hz),rfl,q _ I.fresh⟩
end
section
variable {prog:Program}{w:World}{A:Around}{E:Value->Shared->Prop}{s:Shared}
end
section
variable {X:Cx}
end
end L2
namespace Att
open PySem PySem.W PySem.Calls PyProof.Rows
theorem ints_of_wellAll {P:Params}{h:Heap}:∀ (ns:List Int) (vs:List Value),WellAll P h vs (ns.map WData.int)->IntsAre vs ns:=by
 intro ns
 induction ns with
 | nil =>
  intro vs w
  rw [List.map_nil] at w
  cases w
  exact .nil
 | cons n ns ih =>
  intro vs w
  rw [List.map_cons] at w
  cases w with
  | cons a b =>
   cases a
   exact .cons _ _ (ih _ b)
theorem script_of {l:OpenLaw}{n:Nat}(hn:l.most=some n){P:Params}{h:Heap}{args:List WData}{vals:List Value}
  (hpre:l.row.toRowW.claim.pre args=true)(hwl:WellAll P h vals args) :
  ∃ a vs ns,vals=[Value.ref a]/\args=[WData.list (ns.map WData.int)]/\h.get? a=some { cls:=.type "list",data:=.seq vs.toArray }/\IntsAre vs ns/\ns.length<=n:=by
 have hsh:WShape.hasAll [] args [.list .int]=true:=(pre_splitW hpre).1
 have hc:l.pre.holds [] { args:=args }=true:=(pre_splitW hpre).2
 obtain ⟨d,r,rfl,h1,h2⟩:=hasAllW_cons hsh
 obtain rfl:=hasAllW_nil h2
 obtain ⟨xs,rfl,h3⟩:=hasW_list h1
 obtain ⟨ns,rfl⟩:=items_int h3
 have hlen:ns.length<=n:=by
  unfold OpenLaw.pre at hc
  have h4:(WTm.not (.lt (.lit (.int (n:Int))) (.len (.arg 0)))).holds [] { args:=[.list (ns.map .int)] }=true:=by
   have h4:=(holds_andW hc).1
   rw [hn] at h4
   exact h4
  have h5:=condW_of h4 (w_not (w_lt w_lit (w_len_list (w_arg rfl))))
  rw [List.length_map] at h5
  refine Nat.le_of_not_lt λ q=>?_
  have q':(n:Int) < ((ns.length:Nat):Int):=by omega
  first
   | (rw [decide_eq_true q'] at h5; exact absurd h5 (by decide))
   | (simp at h5; omega)
 cases hwl with
 | cons w1 w2 =>
  cases w2
  cases w1 with
  | list ho hall=>exact ⟨_,_,ns,rfl,rfl,ho,ints_of_wellAll ns _ hall,hlen⟩
theorem post_true (l:OpenLaw)(args:List WData):l.row.toRowW.claim.post args (.bool true) args=true :=
 postW_of (r:=l.row.toRowW) (X:=(true == true))
  (show WShape.has [] (.bool true) .bool=true by first | rfl | decide | simp [WShape.has,WShape.arms,WShape.armsAll])
  (show (WTm.eq .res (.lit (.bool true))).value [] { args:=args,res:=some (.bool true),after:=args }=some (.bool (true == true)) from w_eq_bool (w_res rfl) w_lit) rfl
theorem attach_call {l:OpenLaw}{n:Nat}{q:Program}{loose:List Str}{XP:(Str->Option Value)->Heap->Prop}{YP:World->Heap->Prop}{d:DefRec}
  (hn:l.most=some n)(hdf:d.params.defaults=[])
  (call:∀ (w:World) (s₀ s₁:Shared) (mg mb:Str->Option Value) (fa:Addr) (o:Obj) (pm cd doc:Value) (a:Addr) (vs:List Value) (ns:List Int),
   Ground q loose [] XP w s₀ mg mb s₁.heap->YP w s₁.heap ->
   s₁.heap.get? fa=some o->o.data=.func (docDef d.name d.params d.body d.scope pm cd doc)->s₁.heap.CodeRec cd d.name->mg d.name=some (.ref fa) ->
   s₁.heap.get? a=some { cls:=.type "list",data:=.seq vs.toArray }->IntsAre vs ns->ns.length<=n->s₁.gens = #[] ->
   codeAny (model l.prog w) callerA (.call (.ref fa) ⟨[.ref a],[]⟩) (λ r s'=>r=.ok (.ret (.bool true))/\OldK s₁.heap s'.heap/\s'.os=s₁.os/\AllBare s'.gens) s₁) :
  WalkO q loose XP YP l.row.toRowW d [] (λ f vs=>PySem.call f vs):=by
 intro w s₀ s₁ mg mb G Y fa o pm cd doc dV kV ho hd hcd hD hmg hg args vals as hpre hlay hrd hwl hlo
 obtain rfl:dV=.none:=Dflts.none hD hdf
 obtain rfl:kV=.none:=Dflts.noKw hD
 obtain ⟨a,vs,ns,rfl,rfl,hobj,hints,hlen⟩:=script_of hn hpre hwl
 refine enter_call (codeAny_mono (call w s₀ s₁ mg mb fa o pm cd doc a vs ns G Y ho (fd_plain hd) hcd hmg hobj hints hlen hg) λ r s' hq=>?_)
 obtain ⟨rfl,h2,h3,h4⟩:=hq
 exact ⟨.inl ⟨.bool true,.bool true,[],rfl,λ _=>rfl,.bool true,post_true l _,λ _=>⟨List.Pairwise.nil,λ _ hm=>(nomatch hm)⟩⟩,h2,h3,h4⟩
section
variable {prog:Program}{w:World}{A:Around}{E:Value->Shared->Prop}{s:Shared}{K:Frag}
end
end Att
namespace L2
open PySem PySem.Spec PyProof.Rows
theorem vals_ints:∀ {vs:List Value} {ns:List Int},IntsAre vs ns->Vals (ns.map V.int) vs
 | _,_,.nil=>.nil
 | _,_,.cons n t h=>.cons ⟨t,rfl⟩ (vals_ints h)
noncomputable def Only (H:Hp):Prop:=∀ b,H b=none\/∃ o xs,H b=some (.frz o (.lst xs))
theorem law_call {P:Program}{w:World}{K:PySem.W.Frag}{mg mb:Str->Option Value}{CX:CXT}{k:Nat}{fa a:Addr}{fd:FuncData}{x:Str}{sp:Sp}{s₁:Shared}{vs:List Value}{ns:List Int}
  (KX:K.In s₁.heap)(hns:s₁.heap.Ns mainGlobals mg)(hb:s₁.heap.Ns builtinsNs mb)(hbb:∀ x:Str,x ≠ "__name__" -> mb x=bootBuiltins x)(hlim:s₁.heap.NoLimit)(hbm:BM mg s₁.heap)(hg:s₁.gens = #[])
  (ha:s₁.heap.get? a=some { cls:=.type "list",data:=.seq vs.toArray })(hi:IntsAre vs ns)(hl:ns.length<=sizeLine)(hr:Room k callerA)
  (F:∀ base:Heap,K.In base->base.Ns mainGlobals mg->FnOk P w K mg base CX k fa fd [x] sp)(hbind:∀ (s:Shared) (u:Value),BindsTo s fd ⟨[u],[]⟩ [(x,u)])
  (hsp:∀ H:Hp,Only H->SqL K H a (ns.map V.int)->sp [.ref a] H (λ v _=>v=.bl true) λ _ _ _=>False)
  (hCX:∀ H e s',CX [] H s₁ (λ _ _ _=>False) e s'->False) :
  codeAny (model P w) callerA (.call (.ref fa) ⟨[.ref a],[]⟩) (λ r s'=>r=.ok (.ret (.bool true))/\OldK s₁.heap s'.heap/\s'.os=s₁.os/\AllBare s'.gens) s₁:=by
 have rv:=vals_ints hi
 have lenV:=hi.length
 have core:∀ H:Hp,Only H->SqL K H a (ns.map V.int)->HOk P w H s₁.heap->(∀ b,H b≠none->b=a)->(H a≠none->K.lookup a=none) ->
   codeAny (model P w) callerA (.call (.ref fa) ⟨[.ref a],[]⟩) (λ r s'=>r=.ok (.ret (.bool true))/\OldK s₁.heap s'.heap/\s'.os=s₁.os/\AllBare s'.gens) s₁:=by
  intro H hO hS hok hA hK
  have base_of:∀ {b:Addr} {o:Obj},s₁.heap.get? b=some o->H b=none->(hidT s₁.heap H).get? b=some o:=λ e n=>hidT_get e n
  have noA:∀ {b:Addr} {o:Obj} {es:Array DictEntry} {ep:Nat},s₁.heap.get? b=some o->o.data=.dict es ep->H b=none:=λ {b o es ep} e d=>by
   cases q:H b with
   | none=>rfl
   | some u =>
    have e':b=a:=hA b (by rw [q]; simp)
    subst e'
    rw [ha] at e; cases e
    have d':Data.seq vs.toArray _=Data.dict es ep:=d
    cases d'
  have nsK:∀ {b:Addr} {m:Str->Option Value},s₁.heap.Ns b m->(hidT s₁.heap H).Ns b m:=λ {b m} ⟨o,es,ep,e,d,r⟩=>⟨o,es,ep,base_of e (noA e d),d,r⟩
  have hKb:K.In (hidT s₁.heap H):=λ b o e=>base_of (KX b o e) (by
   cases q:H b with
   | none=>rfl
   | some u =>
    have e':b=a:=hA b (by rw [q]; simp)
    subst e'
    rw [hK (by rw [q]; simp)] at e; cases e)
  have hM:Mod K mg (hidT s₁.heap H):=⟨hKb,nsK hns,⟨mb,nsK hb,hbb⟩,let ⟨mc,h1,h2⟩:=hlim; ⟨mc,nsK h1,h2⟩,let ⟨⟨b,o,h1,h2,h3,h4,h5,h6⟩,mm,hmm⟩:=hbm; ⟨⟨b,o,h1,h2,base_of h3 (by cases q:H b with | none=>rfl | some u=>(have e':b=a:=hA b (by rw [q]; simp); subst e'; rw [ha] at h3; cases h3; cases h6)),h4,h5,h6⟩,mm,nsK hmm⟩⟩
  have e0:Env0 P w K mg (hidT s₁.heap H) callerA [] s₁ H:=⟨rfl,hM,λ b o e=>of_hidT e,Nat.le_of_eq (hidT_size _ _),trivial,λ b hb=>absurd (show b∈([]:List Addr) from hb) (by simp),hok,.of_eq hg⟩
  refine codeAny_mono ((F _ hKb (nsK hns)).run callerA [] s₁ H ⟨[.ref a],[]⟩ [.ref a] [.ref a] _ _ hr e0 (hbind s₁ (.ref a)) (.cons rfl .nil) (hsp H hO hS)) λ r s' h=>?_
  cases r with
  | error e=>exact (hCX H e s' h).elim
  | ok fl =>
   cases fl with
   | next=>exact False.elim h
   | brk=>exact False.elim h
   | cont=>exact False.elim h
   | ret u =>
    obtain ⟨v,H',os,bare,un,hok',r',q⟩:=h
    have q':v=.bl true:=q
    subst q'
    obtain rfl:u=Value.bool true:=r'
    refine ⟨rfl,OldK.of_keep λ b o e=>?_,os,bare⟩
    cases q:H b with
    | none=>exact un.keep b o e q (by intro z; exact absurd (show b∈([]:List Addr) from z) (by simp)) (by simp)
    | some u =>
     rcases hO b with z | ⟨ob,xs,z⟩
     ·rw [q] at z; cases z
     ·have z2:=un.frzs b ob _ z
      obtain ⟨e1,_⟩:=hok b _ z
      obtain ⟨e2,_⟩:=hok' b _ z2
      rw [e] at e1; cases e1
      exact e2
 cases hk:K.lookup a with
 | some o =>
  have e:=KX a o hk
  rw [ha] at e
  cases e
  refine core (λ _=>none) (λ _=>.inl rfl) (.inr ⟨_,vs.toArray,_,hk,rfl,rfl,rfl,by rw [List.size_toArray,lenV]; exact hl,by simpa using rv⟩) (λ b u z=>by have z':(none:Option HO)=some u:=z; cases z') (λ b z=>absurd rfl z) λ z=>absurd rfl z
 | none =>
  refine core (λ b=>if b=a then some (.frz { cls:=.type "list",data:=.seq vs.toArray } (.lst (ns.map V.int))) else none) (λ b=>?_) (.inl (.inr ⟨{ cls:=.type "list",data:=.seq vs.toArray },if_pos rfl⟩)) (λ b u z=>?_) (λ b z=>?_) λ _=>hk
  ·by_cases hb:b=a
   ·exact .inr ⟨_,_,if_pos hb⟩
   ·exact .inl (if_neg hb)
  ·by_cases hb:b=a
   ·have z':=(if_pos hb).symm.trans z
    cases z'
    subst hb
    exact ⟨ha,by rw [List.length_map]; exact hl,vs,_,rv,ha⟩
   ·have z':=(if_neg hb).symm.trans z
    cases z'
  ·by_cases hb:b=a
   ·exact hb
   ·exact absurd (if_neg hb) z
end L2
namespace L2
open PySem PySem.Spec PyProof.Rows
theorem walk_of {l:PySem.W.OpenLaw}{n k:Nat}{q:Program}{loose:List Str}{XP:(Str->Option Value)->Heap->Prop}{YP:World->Heap->Prop}{d:DefRec}{K:Params->PySem.W.Frag}{CX:World->CXT}{sp:World->Sp}{x:Str}
  (hq:importsNone q=true)(hn:l.most=some n)(hn2:n<=sizeLine)(hdf:d.params.defaults=[])(hr:Room k callerA)
  (hY:∀ (w:World) (h:Heap),YP w h->(K w.params).In h)
  (F:∀ (w:World) (mg:Str->Option Value) (fa:Addr) (h:Heap),(K w.params).In h->h.Ns mainGlobals mg->mg d.name=some (.ref fa) ->
   ∃ fd:FuncData,(∀ (s:Shared) (u:Value),BindsTo s fd ⟨[u],[]⟩ [(x,u)]) /\
    ∀ base:Heap,(K w.params).In base->base.Ns mainGlobals mg->FnOk l.prog w (K w.params) mg base (CX w) k fa fd [x] (sp w))
  (hsp:∀ (w:World) (H:Hp) (a:Addr) (ns:List Int),ns.length<=n->Only H->SqL (K w.params) H a (ns.map V.int)->sp w [.ref a] H (λ v _=>v=.bl true) λ _ _ _=>False)
  (hCX:∀ (w:World) (H:Hp) (s:Shared) (e:Value) (s':Shared),CX w [] H s (λ _ _ _=>False) e s'->False) :
  PySem.W.WalkO q loose XP YP l.row.toRowW d [] (λ f vs=>PySem.call f vs):=by
 refine Att.attach_call hn hdf λ w s₀ s₁ mg mb fa o pm cd doc a vs ns G Y ho hd hcd hmg hobj hints hlen hg=>?_
 have KX:=hY w _ Y
 obtain ⟨fd,hb,hF⟩:=F w mg fa _ KX G.T.g hmg
 exact law_call KX G.T.g G.T.b G.T.builtins G.T.nolimit (let ⟨bm,ob,b1,b2,b3,b4,b5,b6⟩:=G.T.bmain; let ⟨mm,hmm,_⟩:=(G.T.seer hq).mods; ⟨⟨bm,ob,b1,b2,b3,b4,b5,b6⟩,mm,hmm⟩) hg hobj hints (Nat.le_trans hlen hn2) hr hF hb (λ H hO hS=>hsp w H a ns hlen hO hS) λ H e s'=>hCX w H s₁ e s'
end L2
namespace L2
open PySem PySem.Spec PyProof.Rows
noncomputable def inClass (s:Stmt)(j:Nat):Stmt:=match s with
 | .ClassDef _ _ _ body _ _ _ _ _ _ _=>body.getD j (.Pass ⟨0,0,0,0⟩)
 | _=>.Pass ⟨0,0,0,0⟩
noncomputable def defArgs (s:Stmt):Arguments:=match s with
 | .FunctionDef _ a _ _ _ _ _ _ _ _=>a
 | _=>{ posonlyargs:=[],args:=[],vararg:=none,kwonlyargs:=[],kw_defaults:=[],kwarg:=none,defaults:=[] }
noncomputable def defBody (s:Stmt):List Stmt:=match s with
 | .FunctionDef _ _ b _ _ _ _ _ _ _=>b
 | _=>[]
noncomputable def defScope (s:Stmt):Scope:=match s with
 | .FunctionDef _ _ _ _ _ _ sc _ _ _=>sc
 | _=>{ kind:=.function,names:=[],isGenerator:=false,isCoroutine:=false }
noncomputable abbrev CX0:CXT:=λ _ _ _ _ _ _=>False
noncomputable abbrev E0:XK:=λ _ _ _=>False
theorem pass0 {X:Cx}:Passes CX0 X E0:=λ _ _ _ _ _ _ _ h=>h.elim
structure Fun (K:PySem.W.Frag)(x qual:Str)(st:Stmt)(f:Addr)(fd:FuncData):Prop where
 ex:∃ (oc:Value) (od:Option Addr) (kV doc pm:Value) (an:Option Addr) (cdv ct:Value) (osl:Array (Option Value)),
  fd=PySem.W.fnOf x qual (defArgs st) (defBody st) (defScope st) .none kV doc pm an cdv ct/\K.lookup f=some ⟨oc,od,.func fd,osl⟩/\PySem.W.codeIn K cdv qual=true
 kp:PySem.W.keepIn K (.ref f)=true
section
variable {P:Program}{w:World}{K:PySem.W.Frag}{mg:Str->Option Value}{base:Heap}
theorem Fun.ok {x qual:Str}{st:Stmt}{f:Addr}{fd:FuncData}{N ps:List Str}{k:Nat}{sp:Sp}(F:Fun K x qual st f fd)(S:FnScope N ps (defScope st))(len:∀ vs H Q E,sp vs H Q E->vs.length=ps.length)
  (hbody:∀ (cdv:Value) (A:Around) (outer:List Env) (s:Shared) (H:Hp) (vs:List V) (Q:VK) (E:XK),Room k (A.deeper (envOfC qual (defScope st) s.heap.objs.size f cdv))->sp vs H Q E ->
   ∃ t,PSs (cxOf CX0 P w K mg base N qual (defScope st) f cdv A outer s H E).nox (defBody st) t/\t { nx:=λ _ H'=>Q .non H',rt:=Q } (start N vs) H):FnOk P w K mg base CX0 (k+1) f fd ps sp:=by
 obtain ⟨oc,od,kV,doc,pm,an,cdv,ct,osl,rfl,lk,hcd⟩:=F.ex
 refine fn_of lk hcd S len λ A outer s H vs Q E hr hsp=>?_
 obtain ⟨t,h,q⟩:=hbody cdv A outer s H vs Q E hr hsp
 exact ⟨t,h.nox,q⟩
theorem Fun.binds {x qual:Str}{st:Stmt}{f:Addr}{fd:FuncData}{ps:List Str}(F:Fun K x qual st f fd)
  (h:∀ (kV doc pm:Value) (an:Option Addr) (cdv ct:Value) (us:List Value),us.length=ps.length->bindArgs (PySem.W.fnOf x qual (defArgs st) (defBody st) (defScope st) .none kV doc pm an cdv ct) ⟨us,[]⟩=pure (ps.zip us)):Binds K fd ps []:=by
 obtain ⟨oc,od,kV,doc,pm,an,cdv,ct,osl,rfl,lk,hcd⟩:=F.ex
 exact .all (h kV doc pm an cdv ct)
theorem fun_mk {x qual:Str}{st:Stmt}{f:Addr}{oc:Value}{od an:Option Addr}{osl:Array (Option Value)}{kV doc pm cdv ct:Value}(l:K.lookup f=some ⟨oc,od,.func (PySem.W.fnOf x qual (defArgs st) (defBody st) (defScope st) .none kV doc pm an cdv ct),osl⟩)
  (c:PySem.W.codeIn K cdv qual=true)(k:PySem.W.keepIn K (.ref f)=true):Fun K x qual st f (PySem.W.fnOf x qual (defArgs st) (defBody st) (defScope st) .none kV doc pm an cdv ct):=⟨⟨oc,od,kV,doc,pm,an,cdv,ct,osl,rfl,l,c⟩,k⟩
end
section
variable {X:Cx}
theorem pv (i:Nat){x:Str}{pos:Pos}(hN:X.N[i]? = some x:=by rfl)(hv:Vis X.env.scope x:=by first | exact Or.inl rfl | exact Or.inr (Or.inl rfl) | exact Or.inr (Or.inr rfl))(hd:(x == ("__debug__" : Str))=false:=by decide)
  (hcd:(x == ("__classdict__" : Str))=false:=by decide):PE X (.Name x pos) (tVar i):=pe_var hN hv hd hcd
end
theorem iteF {A B:Prop}(h:B):if false=true then A else B:=by
 rw [if_neg Bool.false_ne_true]
 exact h
theorem iteT {A B:Prop}(h:A):if true=true then A else B:=by
 rw [if_pos rfl]
 exact h
noncomputable def Same (H H':Hp):Prop:=∀ b o,H b=some o->H' b=some o
theorem Same.refl (H:Hp):Same H H:=λ _ _ h=>h
theorem Same.trans {H H1 H2:Hp}(a:Same H H1)(b:Same H1 H2):Same H H2:=λ c o h=>b c o (a c o h)
theorem Same.free {H H':Hp}(e:Same H H'){l:Addr}(h:H' l=Option.none):H l=Option.none:=by
 cases q:H l with
 | none=>rfl
 | some o =>
  rw [e l o q] at h
  cases h
theorem Same.seq {K:PySem.W.Frag}{H H':Hp}{a:Addr}{xs:List V}(e:Same H H')(h:SqL K H a xs):SqL K H' a xs:=by
 rcases h with (h | ⟨o,h⟩) | h
 ·exact .inl (.inl (e _ _ h))
 ·exact .inl (.inr ⟨o,e _ _ h⟩)
 ·exact .inr h
end L2
namespace L2
open PySem PySem.Spec PyProof.Rows
section
variable {κ:Type}[DecidableEq κ]
noncomputable def valV (kvs:List (κ×V))(k:κ):Option V:=(kvs.find? λ kv=>decide (kv.1=k)).map (·.2)
noncomputable def putK (kvs:List (κ×V))(k:κ)(v:V):List (κ×V) :=
 if (kvs.any λ kv=>decide (kv.1=k))=true then kvs.map (λ kv=>if kv.1=k then (kv.1,v) else kv) else kvs++[(k,v)]
noncomputable def dropK (kvs:List (κ×V))(k:κ):List (κ×V):=kvs.filter λ kv=>decide (kv.1≠k)
theorem valV_pos {p:κ×V}{r:List (κ×V)}{k:κ}(e:p.1=k):valV (p :: r) k=some p.2:=by simp [valV,List.find?_cons,e]
theorem valV_neg {p:κ×V}{r:List (κ×V)}{k:κ}(e:¬ p.1=k):valV (p :: r) k=valV r k:=by simp [valV,List.find?_cons,e]
theorem valV_any (k:κ):∀ kvs:List (κ×V),(kvs.any λ kv=>decide (kv.1=k))=(valV kvs k).isSome
 | []=>rfl
 | p :: r=>by
  rw [List.any_cons]
  by_cases e:p.1=k
  ·simp only [valV_pos e,decide_eq_true e,Bool.true_or,Option.isSome_some]
  ·rw [valV_neg e,decide_eq_false e,Bool.false_or]; exact valV_any k r
theorem length_putK (kvs:List (κ×V))(k:κ)(v:V):(putK kvs k v).length<=kvs.length+1:=by
 unfold putK
 split
 ·rw [List.length_map]; omega
 ·rw [List.length_append,List.length_cons,List.length_nil]; omega
theorem putK_new {kvs:List (κ×V)}{k:κ}(v:V)(h:valV kvs k=none):putK kvs k v=kvs++[(k,v)]:=by
 unfold putK
 rw [valV_any,h]
 exact if_neg (by decide)
theorem RelO.isSome_eq {o:Option V}{u:Option Value}(r:RelO o u):o.isSome=u.isSome:=by
 cases o with
 | none=>cases u with
  | none=>rfl
  | some _=>exact (show False from r).elim
 | some _=>cases u with
  | none=>exact (show False from r).elim
  | some _=>rfl
theorem RelO.getD {o:Option V}{u:Option Value}{d:V}{d':Value}(r:RelO o u)(rd:RelV d d'):RelV (o.getD d) (u.getD d'):=by
 cases o with
 | none=>cases u with
  | none=>exact rd
  | some _=>exact (show False from r).elim
 | some _=>cases u with
  | none=>exact (show False from r).elim
  | some _=>exact r
theorem KV.val {kvs:List (κ×V)}{vs:List (κ×Value)}(r:KV kvs vs)(k:κ):RelO (valV kvs k) (valueAt vs k):=by
 unfold KV at r
 induction r with
 | nil=>exact True.intro
 | @cons p q ps qs h t ih =>
  obtain ⟨h1,h2⟩:=h
  by_cases e:p.1=k
  ·have e':q.1=k:=h1.symm.trans e
   have b:valueAt (q :: qs) k=some q.2:=by simp [valueAt,List.find?_cons,e']
   rw [valV_pos e,b]; exact h2
  ·have e':¬ q.1=k:=λ z=>e (h1.trans z)
   have b:valueAt (q :: qs) k=valueAt qs k:=by simp [valueAt,List.find?_cons,e']
   rw [valV_neg e,b]; exact ih
theorem KV.any {kvs:List (κ×V)}{vs:List (κ×Value)}(r:KV kvs vs)(k:κ):(kvs.any λ kv=>decide (kv.1=k))=vs.any λ kv=>decide (kv.1=k):=by
 unfold KV at r
 induction r with
 | nil=>rfl
 | cons h t ih=>rw [List.any_cons,List.any_cons,ih,h.1]
theorem KV.repl {kvs:List (κ×V)}{vs:List (κ×Value)}(r:KV kvs vs)(k:κ){y:V}{u:Value}(ry:RelV y u) :
  KV (kvs.map λ kv=>if kv.1=k then (kv.1,y) else kv) (vs.map λ kv=>if kv.1=k then (kv.1,u) else kv):=by
 unfold KV at r ⊢
 induction r with
 | nil=>exact .nil
 | @cons p q ps qs h t ih =>
  rw [List.map_cons,List.map_cons]
  refine .cons ?_ ih
  obtain ⟨h1,h2⟩:=h
  by_cases e:p.1=k
  ·rw [if_pos e,if_pos (h1.symm.trans e)]; exact ⟨h1,ry⟩
  ·rw [if_neg e,if_neg (λ z=>e (h1.trans z))]; exact ⟨h1,h2⟩
theorem KV.put {kvs:List (κ×V)}{vs:List (κ×Value)}(r:KV kvs vs)(k:κ){y:V}{u:Value}(ry:RelV y u):KV (putK kvs k y) (stored vs k u):=by
 unfold putK stored
 rw [r.any k]
 by_cases e:(vs.any λ kv=>decide (kv.1=k))=true
 ·rw [if_pos e,if_pos e]; exact r.repl k ry
 ·rw [if_neg e,if_neg e]; exact Paired.snoc r ⟨rfl,ry⟩
theorem KV.drop {kvs:List (κ×V)}{vs:List (κ×Value)}(r:KV kvs vs)(k:κ):KV (dropK kvs k) (without vs k):=by
 unfold KV at r ⊢
 unfold dropK without
 induction r with
 | nil=>exact .nil
 | @cons p q ps qs h t ih =>
  obtain ⟨h1,h2⟩:=h
  rw [List.filter_cons,List.filter_cons]
  by_cases e:p.1=k
  ·have a:¬ decide (p.1≠k)=true:=by simp [e]
   have b:¬ decide (q.1≠k)=true:=by simp [h1.symm.trans e]
   rw [if_neg a,if_neg b]; exact ih
  ·have e':¬ q.1=k:=λ z=>e (h1.trans z)
   have a:decide (p.1≠k)=true:=by simp [e]
   have b:decide (q.1≠k)=true:=by simp [e']
   rw [if_pos a,if_pos b]; exact .cons ⟨h1,h2⟩ ih
theorem KV.keys {kvs:List (κ×V)}{vs:List (κ×Value)}(r:KV kvs vs):kvs.map (·.1)=vs.map (·.1):=by
 unfold KV at r
 induction r with
 | nil=>rfl
 | cons h t ih=>rw [List.map_cons,List.map_cons,ih,h.1]
theorem KV.length {kvs:List (κ×V)}{vs:List (κ×Value)}(r:KV kvs vs):kvs.length=vs.length:=Paired.length r
end
theorem kV_is {P:Program}{w:World}{k:Key}{u:Value}(r:RelV (kV k) u):(mixKind P w).is k u=true:=by
 cases k with
 | inl i=>obtain ⟨t,e⟩:=(show ∃ t,u=Value.int i t from r); subst e; exact mixKind_int P w i t
 | inr x=>obtain ⟨t,e⟩:=(show ∃ t,u=Value.str x t from r); subst e; exact mixKind_str P w x t
noncomputable abbrev KT (H:Hp):List (List Key×V)->List (List Key×Addr×Value)->Prop:=Paired λ p q=>p.1=q.1/\H q.2.1=some (.tup (p.1.map kV))/\RelV p.2 q.2.2
theorem KT.val {H:Hp}{kvs:List (List Key×V)}{xs:List (List Key×Addr×Value)}(r:KT H kvs xs)(k:List Key):RelO (valV kvs k) ((atKey xs k).map (·.2)):=by
 induction r with
 | nil=>exact True.intro
 | @cons p q ps qs h t ih =>
  obtain ⟨h1,_,h2⟩:=h
  by_cases e:p.1=k
  ·have e':q.1=k:=h1.symm.trans e
   have b:atKey (q :: qs) k=some q.2:=by simp [atKey,List.find?_cons,e']
   rw [valV_pos e,b]; exact h2
  ·have e':¬ q.1=k:=λ z=>e (h1.trans z)
   have b:atKey (q :: qs) k=atKey qs k:=by simp [atKey,List.find?_cons,e']
   rw [valV_neg e,b]; exact ih
theorem KT.repl {H:Hp}{kvs:List (List Key×V)}{xs:List (List Key×Addr×Value)}(r:KT H kvs xs)(k:List Key){y:V}{u:Value}(ry:RelV y u) :
  KT H (kvs.map λ kv=>if kv.1=k then (kv.1,y) else kv) (xs.map (putAt k u)):=by
 induction r with
 | nil=>exact .nil
 | @cons p q ps qs h t ih =>
  rw [List.map_cons,List.map_cons]
  refine .cons ?_ ih
  obtain ⟨h1,h2,h3⟩:=h
  unfold putAt
  by_cases e:p.1=k
  ·rw [if_pos e,if_pos (h1.symm.trans e)]; exact ⟨h1,h2,ry⟩
  ·rw [if_neg e,if_neg (λ z=>e (h1.trans z))]; exact ⟨h1,h2,h3⟩
theorem KT.put {H:Hp}{kvs:List (List Key×V)}{xs:List (List Key×Addr×Value)}(r:KT H kvs xs)(k:List Key){b:Addr}{y:V}{u:Value}(hb:H b=some (.tup (k.map kV)))(ry:RelV y u) :
  KT H (putK kvs k y) (storedH xs k b u):=by
 have e:(kvs.any λ kv=>decide (kv.1=k))=(atKey xs k).isSome:=by
  rw [valV_any,(r.val k).isSome_eq,Option.isSome_map]
 unfold putK storedH
 rw [e]
 by_cases q:(atKey xs k).isSome=true
 ·rw [if_pos q,if_pos q]; exact r.repl k ry
 ·rw [if_neg q,if_neg q]; exact Paired.snoc r ⟨rfl,hb,ry⟩
theorem KT.keeps {H H':Hp}{kvs:List (List Key×V)}{xs:List (List Key×Addr×Value)}(r:KT H kvs xs)(ht:∀ b ys,H b=some (.tup ys)->H' b=some (.tup ys)):KT H' kvs xs :=
 Paired.mapP r λ _ _ z=>⟨z.1,ht _ _ z.2.1,z.2.2⟩
section
variable {P:Program}{w:World}{H:Hp}{h:Heap}{a:Addr}
theorem rd_of {u:HO}(ok:HOk P w H h)(e:Rd H a u):ObjOk P w H h a u:=e.ok ok
theorem dk_rd {kvs:List (Key×V)}(ok:HOk P w H h)(e:Rd H a (.dK kvs)):kvs.length<=sizeLine/\(a == sysModules)=false/\∃ vs,KV kvs vs/\h.DictOf (mixKind P w) a vs :=
 show ObjOk P w H h a (.dK kvs) from rd_of ok e
theorem dk_of {kvs:List (Key×V)}(ok:HOk P w H h)(e:H a=some (.dK kvs)):kvs.length<=sizeLine/\(a == sysModules)=false/\∃ vs,KV kvs vs/\h.DictOf (mixKind P w) a vs:=dk_rd ok (.inl e)
end
noncomputable def DGet (H:Hp)(a:Addr)(y:V)(r:Option V):Prop :=
 (∃ kvs k,Rd H a (.dK kvs)/\y=kV k/\r=valV kvs k)\/∃ kvs k b,Rd H a (.dT kvs)/\y=.ref b/\H b=some (.tup (k.map kV))/\r=valV kvs k
noncomputable def DPut (H:Hp)(a:Addr)(y v:V)(H':Hp):Prop :=
 (∃ kvs k,H a=some (.dK kvs)/\y=kV k/\kvs.length < sizeLine/\H'=upd H a (.dK (putK kvs k v))) \/
 ∃ kvs k b,H a=some (.dT kvs)/\y=.ref b/\H b=some (.tup (k.map kV))/\kvs.length < sizeLine/\H'=upd H a (.dT (putK kvs k v))
theorem DGet.k {H:Hp}{a:Addr}{kvs:List (Key×V)}{k:Key}(e:H a=some (.dK kvs)):DGet H a (kV k) (valV kvs k):=.inl ⟨kvs,k,.inl e,rfl,rfl⟩
theorem DGet.t {H:Hp}{a b:Addr}{kvs:List (List Key×V)}{k:List Key}(e:H a=some (.dT kvs))(eb:H b=some (.tup (k.map kV))):DGet H a (.ref b) (valV kvs k):=.inr ⟨kvs,k,b,.inl e,rfl,eb,rfl⟩
theorem DPut.k {H:Hp}{a:Addr}{kvs:List (Key×V)}{k:Key}{v:V}(e:H a=some (.dK kvs))(hl:kvs.length < sizeLine):DPut H a (kV k) v (upd H a (.dK (putK kvs k v))):=.inl ⟨kvs,k,e,rfl,hl,rfl⟩
theorem DPut.t {H:Hp}{a b:Addr}{kvs:List (List Key×V)}{k:List Key}{v:V}(e:H a=some (.dT kvs))(eb:H b=some (.tup (k.map kV)))(hl:kvs.length < sizeLine) :
  DPut H a (.ref b) v (upd H a (.dT (putK kvs k v))):=.inr ⟨kvs,k,b,e,rfl,eb,hl,rfl⟩
section
variable {X:Cx}{pins:List (Addr×Obj)}{σ:St}{H:Hp}{s:Shared}{a:Addr}{y v:V}{u r:Value}{o:Option V}{A:Around}{E:Value->Shared->Prop}
theorem Inv.big (I:Inv X pins σ H s):sysModules < s.heap.objs.size:=by
 have h:mainGlobals < s.heap.objs.size:=(I.mod.glob.keeps I.bk).lt
 exact Nat.lt_trans (by decide) h
theorem d_write {h':Heap}{t':Nat}{ob:HO}(I:Inv X pins σ H s)(mu:Mut (H a))(hs:Heap.SameBut a s.heap h')(he:∃ q,h'.get? a=some q)(new:ObjOk X.prog X.w (upd H a ob) h' a ob) :
  Inv X pins σ (upd H a ob) { s with heap:=h',toks:=t' } :=
 I.write (x:=a) (e:=a) mu (.inl rfl) (λ b q hb z=>(hs.2 b hb).trans z) he new
theorem dk_new {P:Program}{w:World}{H':Hp}{h':Heap}{kvs:List (Key×V)}{vs:List (Key×Value)}(z:kvs.length<=sizeLine)(hd:(a == sysModules)=false)(rel:KV kvs vs)(dd:h'.DictOf (mixKind P w) a vs) :
  ObjOk P w H' h' a (.dK kvs):=⟨z,hd,vs,rel,dd⟩
end
section
variable {X:Cx}{pins:List (Addr×Obj)}{σ:St}{H:Hp}{s:Shared}{a:Addr}{kvs:List (Key×V)}{k:Key}{u:Value}{A:Around}{E:Value->Shared->Prop}
end
section
variable {X:Cx}{o i e value:Expr}{pos pos' tpos:Pos}{td ty tv:TE}
end
theorem dk_empty {P:Program}{w:World}{H:Hp}(h:Heap)(hb:sysModules < h.objs.size):ObjOk P w H (h.push { cls:=.type "dict",data:=.dict #[] }) h.objs.size (.dK []) :=
 ⟨Nat.zero_le _,beq_eq_false_iff_ne.mpr (Ne.symm (Nat.ne_of_lt hb)),[],.nil,Heap.DictOf.new h⟩
noncomputable def tDNewK:TE:=λ _ H Q=>∀ p,H p=none->Q (.ref p) (upd H p (.dK []))
section
variable {X:Cx}{pos:Pos}
theorem pe_dnewK:PE X (.Dict [] [] pos) tDNewK:=λ pins s σ H Q I h =>
 wpAny_Dict_empty ⟨.ref s.heap.objs.size,_,I.laid (a:=s.heap.objs.size) (o:=.dK []) (t':=s.toks) (λ _ _ q=>Heap.get?_push_of_some _ q) (Nat.le_refl _) (dk_empty s.heap I.big),rfl,h _ (I.hok.fresh (Nat.le_refl _))⟩
end
noncomputable def tPairs:List (TE×TE)->St->Hp->(List (V×V)->Hp->Prop)->Prop
 | [],_,H,Q=>Q [] H
 | (tk,tv) :: r,σ,H,Q=>tk σ H λ x H1=>tv σ H1 λ y H2=>tPairs r σ H2 λ ps H3=>Q ((x,y) :: ps) H3
noncomputable abbrev VV:List (V×V)->List (Value×Value)->Prop:=Paired λ p q=>RelV p.1 q.1/\RelV p.2 q.2
noncomputable def PPs (X:Cx)(pos:Pos)(keys:List (Option Expr))(values:List Expr)(trs:List (TE×TE)):Prop :=
 ∀ (pins:List (Addr×Obj)) (s:Shared) (σ:St) (H:Hp) (Q:List (V×V)->Hp->Prop),Inv X pins σ H s->tPairs trs σ H Q ->
  wpAny (model X.prog X.w) X.A (evalPairs (pairTrees keys values X.env pos)) (λ vs s'=>∃ ps H',Inv X pins σ H' s'/\VV ps vs/\Q ps H') X.xe s
theorem pps_nil {X:Cx}{pos:Pos}:PPs X pos [] [] []:=λ pins s σ H Q I h=>pairTrees_nil_walk ⟨[],H,I,.nil,h⟩
theorem pps_cons {X:Cx}{pos:Pos}{k v:Expr}{ks:List (Option Expr)}{vs:List Expr}{tk tv:TE}{trs:List (TE×TE)}(hk:PE X k tk)(hv:PE X v tv)(hr:PPs X pos ks vs trs) :
  PPs X pos (some k :: ks) (v :: vs) ((tk,tv) :: trs):=λ pins s σ H Q I h =>
 pairTrees_cons_walk (thn (hk pins s σ H _ I h) λ u s1 ⟨x,H1,I1,rx,q1⟩=>thn (hv pins s1 σ H1 _ I1 q1) λ w2 s2 ⟨y,H2,I2,ry,q2⟩ =>
  thn (hr pins s2 σ H2 _ I2 q2) λ ws s3 ⟨ps,H3,I3,rel,q3⟩=>⟨(x,y) :: ps,H3,I3,.cons ⟨rx,ry⟩ rel,q3⟩)
noncomputable def mergeK (kvs more:List (Key×V)):List (Key×V):=more.foldl (λ acc kv=>putK acc kv.1 kv.2) kvs
theorem KV.merge:∀ {more:List (Key×V)} {rs:List (Key×Value)} {kvs:List (Key×V)} {vs:List (Key×Value)},KV more rs->KV kvs vs->KV (mergeK kvs more) (merged vs rs):=by
 intro more rs kvs vs r
 unfold KV at r
 induction r generalizing kvs vs with
 | nil=>intro q; exact q
 | @cons p q ps qs h t ih =>
  intro r0
  have e:KV (putK kvs p.1 p.2) (stored vs q.1 q.2):=by
   have:=r0.put p.1 h.2
   rw [<- h.1]; exact this
  exact ih e
theorem length_mergeK:∀ (more kvs:List (Key×V)),(mergeK kvs more).length<=kvs.length+more.length
 | [],kvs=>by show kvs.length<=kvs.length+0; omega
 | p :: r,kvs=>by
  have h1:=length_mergeK r (putK kvs p.1 p.2)
  have h2:=length_putK kvs p.1 p.2
  show (mergeK (putK kvs p.1 p.2) r).length<=_
  rw [List.length_cons]; omega
theorem carries_of {P:Program}{w:World}:∀ {kvs:List (Key×V)} {ws:List (Value×Value)},VV (kvs.map λ kv=>(kV kv.1,kv.2)) ws->∃ rs,Carries (mixKind P w) ws rs/\KV kvs rs
 | [],_,r=>by rw [List.map_nil] at r; cases r; exact ⟨[],True.intro,.nil⟩
 | p :: kvs,_,r=>by
  rw [List.map_cons] at r
  cases r with
  | @cons a b as bs h t =>
   obtain ⟨rs,c,q⟩:=carries_of (P:=P) (w:=w) t
   obtain ⟨b1,b2⟩:=b
   exact ⟨(p.1,b2) :: rs,⟨kV_is h.1,rfl,c⟩,.cons ⟨rfl,h.2⟩ q⟩
noncomputable def tDisp (trs:List (TE×TE)):TE:=λ σ H Q=>∀ p,H p=none->tPairs trs σ (upd H p (.dK [])) λ ps H2=>H2 p=some (.dK [])/\∃ kvs:List (Key×V),ps=kvs.map (λ kv=>(kV kv.1,kv.2))/\kvs.length<=15/\Q (.ref p) (upd H2 p (.dK (mergeK [] kvs)))
theorem pe_disp {X:Cx}{pos:Pos}{keys:List (Option Expr)}{values:List Expr}{trs:List (TE×TE)}(h:PPs X pos keys values trs)(hall:keys.all (·.isSome)=true)(hl:keys.length=values.length)(h0:keys≠[])
  (h15:keys.length<=15):PE X (.Dict keys values pos) (tDisp trs):=by
 intro pins s σ H Q I q
 have hn:=I.hok.fresh (Nat.le_refl s.heap.objs.size)
 have I1:=I.laid (a:=s.heap.objs.size) (o:=.dK []) (h':=s.heap.push { cls:=.type "dict",data:=.dict #[] }) (t':=s.toks) (λ _ _ q=>Heap.get?_push_of_some _ q) (Nat.le_refl _) (dk_empty s.heap I.big)
 refine wpAny_Dict_walk (knd:=mixKind X.prog X.w) hall hl h0 h15 (thn (h pins _ σ _ _ I1 (q _ hn)) λ ws s2 hq17=>?_)
 obtain ⟨ps,H2,I2,rel,e,kvs,ep,lk,q2⟩:=hq17
 subst ep
 obtain ⟨rs,c,rk⟩:=carries_of (P:=X.prog) (w:=X.w) rel
 obtain ⟨z,hd,vs0,r0,dd⟩:=dk_of I2.hok e
 cases r0
 refine ⟨rs,c,dd,λ h' dd' hs=>⟨.ref s.heap.objs.size,_,?_,rfl,q2⟩⟩
 have hz:(mergeK [] kvs).length<=sizeLine:=by
  have h1:=length_mergeK kvs []
  rw [List.length_nil] at h1
  rw [sizeLine_eq]; omega
 have he:∃ q,h'.get? s.heap.objs.size=some q:=let ⟨q,_,_,hq,_⟩:=dd'; ⟨q,hq⟩
 exact d_write I2 (by rw [e]; exact True.intro) hs he (dk_new hz hd (rk.merge .nil) dd')
structure M1 (X:Cx)(o:Expr)(m:Str)(apos:Pos)(e:Expr)(cpos:Pos):Prop where
 base:attributeBase o m X.env (eval o X.env)=eval o X.env
 few:((backTo cpos (starEach [e] X.env)).all (λ x=>!x.1) && (backToKw cpos (keywordEach [] X.env)).all (λ x=>x.1.isSome)
  && decide (([e]:List Expr).length+([]:List Keyword).length+(if ([]:List Keyword).isEmpty then 0 else 1) < 30))=true
 line:(apos.endLine == cpos.line)=true
 trees:backTo cpos (starEach [e] X.env)=[(false,eval e X.env)]
structure M2 (X:Cx)(o:Expr)(m:Str)(apos:Pos)(e f:Expr)(cpos:Pos):Prop where
 base:attributeBase o m X.env (eval o X.env)=eval o X.env
 few:((backTo cpos (starEach [e,f] X.env)).all (λ x=>!x.1) && (backToKw cpos (keywordEach [] X.env)).all (λ x=>x.1.isSome)
  && decide (([e,f]:List Expr).length+([]:List Keyword).length+(if ([]:List Keyword).isEmpty then 0 else 1) < 30))=true
 line:(apos.endLine == cpos.line)=true
 trees:backTo cpos (starEach [e,f] X.env)=[(false,eval e X.env),(false,eval f X.env)]
noncomputable def IsD (H:Hp)(a:Addr):Prop:=(∃ kvs,Rd H a (.dK kvs))\/∃ kvs,Rd H a (.dT kvs)
section
variable {X:Cx}{pins:List (Addr×Obj)}{σ:St}{H:Hp}{s:Shared}{a:Addr}{y d:V}{u r:Value}{o:Option V}{A:Around}{E:Value->Shared->Prop}
end
section
variable {X:Cx}{o e f:Expr}{apos cpos:Pos}{td ty tx:TE}
end
section
variable {X:Cx}{pins:List (Addr×Obj)}{σ:St}{H:Hp}{s:Shared}{a:Addr}{kvs:List (Key×V)}{A:Around}{E:Value->Shared->Prop}
end
section
variable {X:Cx}{pins:List (Addr×Obj)}{σ:St}{H:Hp}{s:Shared}{a:Addr}{y:V}{u:Value}{A:Around}{E:Value->Shared->Prop}
end
end L2
set_option maxHeartbeats 0
namespace L2
open PySem PySem.Spec PyProof.Rows
noncomputable def Fz:HO->Prop
 | .lst _=>True
 | .dK _=>True
 | _=>False
section
variable {X:Cx}{pins:List (Addr×Obj)}{σ:St}{H:Hp}{s:Shared}{p:Addr}{u:HO}
theorem un_frz {fs ex:List Addr}{h:Heap}{o:Obj}(e:H p=some u)(f:Fz u):Un fs ex H (upd H p (.frz o u)) h h where
 keep:=λ b ob q _ _ _=>q
 slot:=λ b ob q _ _ _=>⟨ob.slots,q⟩
 free:=λ b ob _ n _=>by rw [upd_ne (Ne.symm (ne_of_none e n))]; exact n
 there:=λ b ob q _=>⟨ob,q⟩
 tups:=λ b xs q=>by
  have:b≠p:=λ z=>by subst z; rw [e] at q; cases q; exact f
  rw [upd_ne this]; exact q
 frzs:=λ b ob v q=>by
  have:b≠p:=λ z=>by subst z; rw [e] at q; cases q; exact f
  rw [upd_ne this]; exact q
 tbls:=λ b ps q=>by
  have:b≠p:=λ z=>by subst z; rw [e] at q; cases q; exact f
  exact ⟨#[],by rw [upd_ne this,q]; simp⟩
theorem ObjOk.anyH {P:Program}{w:World}{H H':Hp}{h:Heap}{a:Addr}(f:Fz u)(x:ObjOk P w H h a u):ObjOk P w H' h a u:=by
 cases u with
 | lst xs=>exact x
 | dK kvs=>exact x
 | _=>exact f.elim
theorem ObjOk.obj {P:Program}{w:World}{H:Hp}{h:Heap}{a:Addr}(f:Fz u)(x:ObjOk P w H h a u):∃ o,h.get? a=some o:=by
 cases u with
 | lst xs=>obtain ⟨_,_,_,_,e⟩:=x; exact ⟨_,e⟩
 | dK kvs=>obtain ⟨_,_,_,_,o,_,_,e,_⟩:=x; exact ⟨o,e⟩
 | _=>exact f.elim
theorem Inv.freeze (I:Inv X pins σ H s)(e:H p=some u)(f:Fz u):∃ o,Inv X pins σ (upd H p (.frz o u)) s:=by
 obtain ⟨o,ho⟩:=(I.hok p u e).obj f
 refine ⟨o,I.un (h':=s.heap) (t':=s.toks) (un_frz e f) λ b v q=>?_⟩
 by_cases hb:b=p
 ·subst hb
  rw [upd_same] at q
  cases q
  exact ⟨ho,(I.hok b u e).anyH f⟩
 ·rw [upd_ne hb] at q
  refine (I.hok b v q).stay (λ _ _ _ q=>q) (λ c r=>?_) λ c xs r=>?_
  ·have:c≠p:=λ z=>by subst z; rw [e] at r; cases r; exact f
   rw [upd_ne this]; exact r
  ·have:c≠p:=λ z=>by subst z; rw [e] at r; cases r; exact f
   rw [upd_ne this]; exact r
noncomputable def tFrz (t:TE):TE:=λ σ H Q=>t σ H λ v H1=>∃ p u,v=.ref p/\H1 p=some u/\Fz u/\∀ o,Q v (upd H1 p (.frz o u))
theorem pe_frz {e:Expr}{t:TE}(h:PE X e t):PE X e (tFrz t):=by
 intro pins s σ H Q I hq
 refine thn (h pins s σ H _ I hq) λ v s1 hq18=>?_
 obtain ⟨x,H1,I1,r1,p,u,e1,e2,f,q⟩:=hq18
 obtain ⟨o,I2⟩:=I1.freeze e2 f
 exact ⟨x,_,I2,r1,q o⟩
theorem Inv.track {D:Addr}{ys:List V}{us:List Value}{n:Nat}(I:Inv X pins σ H s)(e:s.heap.get? D=some { cls:=.type "list",data:=.seq us.toArray n })(hn:H D=none)(hv:Vals ys us)(hz:ys.length<=sizeLine)
  (h0:X.s₀.heap.objs.size<=D)(hL:D≠X.env.locals)(hc:∀ x c,X.env.cells.lookup x=some c->c≠D)(hp:∀ p∈X.pn++pins,p.1≠D):Inv X pins σ (upd H D (.lst ys)) s:=by
 have ne:∀ b u,H b=some u->b≠D:=λ b u q=>ne_of_none q hn
 refine I.step (h':=s.heap) (g':=s.gens) (d':=s.drawn) (t':=s.toks) (ch:=[D]) (λ b hb=>?_) (λ b o _ _ _ q _=>q) (λ b o _ _ _ q _=>⟨o.slots,q⟩) (λ b o hb q n=>?_) (λ b o _ q=>⟨o,q⟩)
  (λ b xs q=>by rw [upd_ne (ne b _ q)]; exact q) (λ b o u q=>by rw [upd_ne (ne b _ q)]; exact q) (λ b ps q=>⟨#[],by rw [upd_ne (ne b _ q),q]; simp⟩) (λ m hm=>hm) (λ b u q=>?_) I.bare
 ·have e:b=D:=by simpa using hb
  subst e
  exact ⟨.inr h0,hL,hc,hp⟩
 ·rw [upd_ne (λ z=>hb (by simp [z]))]; exact n
 ·by_cases hb:b=D
  ·subst hb
   rw [upd_same] at q
   cases q
   exact ⟨hz,us,n,hv,e⟩
  ·rw [upd_ne hb] at q
   exact (I.hok b u q).stay (λ _ _ _ q=>q) (λ c r=>by rw [upd_ne (ne c _ r)]; exact r) λ c xs r=>by rw [upd_ne (ne c _ r)]; exact r
end
section
variable {prog:Program}{w:World}{A:Around}{E:Value->Shared->Prop}{R:Result->Shared->Prop}{s:Shared}
noncomputable abbrev testsOf (ifs:List Expr)(env:Env):Sem Bool:=forIn ifs true λ c r=>if r=true then do let ok <- isTrue c env (eval c env); pure (ForInStep.yield ok) else pure (ForInStep.yield r)
theorem compLoop_own {elt target iter:Expr}{ifs:List Expr}{scope:Scope}{pos:Pos}{it acc:Value}{env:Env}(I:Nat->Shared->Prop)
  (turn:∀ n s,I n s->wpAny (model prog w) A (pyNext it) (λ r s₁=>match r with
   | none=>R (.ok .next) s₁
   | some v=>wpAny (model prog w) A (letOwnedTupleGo target it v) (λ _ s₁'=>wpAny (model prog w) A (assign target env v) (λ _ s₂ =>
     wpAny (model prog w) A (testsOf ifs env) (λ ok s₃ =>
      if ok=true then wpAny (model prog w) A (eval elt env) (λ x s₄ =>
       wpAny (model prog w) A (call (.builtin "list.append") [acc,x]) (λ _ s₅=>∃ m,m < n/\I m s₅) (λ _ _=>False) s₄) (λ _ _=>False) s₃
      else ∃ m,m < n/\I m s₃) (λ _ _=>False) s₂) (λ _ _=>False) s₁') (λ _ _=>False) s₁) (λ _ _=>False) s)
  (n:Nat)(h:I n s) :
  codeAny (model prog w) A (.compLoop (.ListComp elt [⟨target,iter,ifs,0⟩] scope pos) 0 it acc env) R s:=by
 refine codeAny_loop rfl I (λ n s hI=>?_) n h
 show wpAny _ A ((compTurn (.ListComp elt [⟨target,iter,ifs,0⟩] scope pos) 0 it acc env).onRaise (λ x=>do noteFrame x env; theTreesLotGoes x)) _ _ s
 refine wpAny_noted ?_
 rw [compTurn_list]
 refine wpAny_bind (wpAny_standAt (wpAny_bind (wpAny_mono (turn n s hI) (λ r s₁ h₁=>?_) λ _ _ h'=>h'.elim)))
 cases r with
 | none=>exact wpAny_pure h₁
 | some v =>
  refine wpAny_bind (wpAny_mono h₁ (λ _ s₁' h₁'=>?_) λ _ _ h'=>h'.elim)
  refine wpAny_bind (wpAny_mono h₁' (λ _ s₂ h₂=>wpAny_bind (wpAny_mono h₂ (λ ok s₃ h₃=>?_) λ _ _ h'=>h'.elim)) λ _ _ h'=>h'.elim)
  cases ok with
  | false=>exact wpAny_pure ⟨rfl,h₃⟩
  | true =>
   exact wpAny_bind (wpAny_bind (wpAny_mono h₃ (λ x s₄ h₄=>wpAny_bind (wpAny_mono h₄ (λ _ s₅ h₅=>wpAny_pure (wpAny_pure ⟨rfl,h₅⟩)) λ _ _ h'=>h'.elim)) λ _ _ h'=>h'.elim))
end
theorem closure_some {scope:Scope}{env:Env}(h:∀ x∈scope.names,x.2=.free->∃ c,env.cells.lookup x.1=some c) :
  ∃ cl,closureFor scope env=pure cl/\(∀ n c,cl.lookup n=some c->env.cells.lookup n=some c)/\(∀ n,(n,NameKind.free)∈scope.names->∃ c,cl.lookup n=some c):=by
 have key:∀ (l:List (Str×NameKind)) (cs:List (Str×Addr)),(∀ x∈l,x.2=.free->∃ c,env.cells.lookup x.1=some c)->(∀ n c,cs.lookup n=some c->env.cells.lookup n=some c) ->
   ∃ cl:List (Str×Addr),(forIn l cs λ x r=>match x with
    | (name,kind)=>if (kind == NameKind.free)=true then do let a <- cellOf env name; pure (ForInStep.yield ((name,a) :: r)) else pure (ForInStep.yield r):Sem (List (Str×Addr)))=pure cl /\
    (∀ n c,cl.lookup n=some c->env.cells.lookup n=some c)/\(∀ n c,cs.lookup n=some c->∃ c,cl.lookup n=some c)/\(∀ n,(n,NameKind.free)∈l->∃ c,cl.lookup n=some c):=by
  intro l
  induction l with
  | nil=>intro cs _ hc; exact ⟨cs,rfl,hc,λ n c e=>⟨c,e⟩,λ n hn=>nomatch hn⟩
  | cons x l ih =>
   intro cs hl hc
   obtain ⟨name,kind⟩:=x
   by_cases hk:kind=.free
   ·subst hk
    obtain ⟨c,e⟩:=hl (name,.free) List.mem_cons_self rfl
    obtain ⟨cl,h1,h2,h3,h4⟩:=ih ((name,c) :: cs) (λ y hy=>hl y (List.mem_cons_of_mem _ hy)) (λ n d q=>by
     rw [List.lookup_cons] at q
     cases hb:n == name with
     | true =>
      rw [hb] at q
      cases q
      rw [eq_of_beq hb]; exact e
     | false =>
      rw [hb] at q
      exact hc n d q)
    refine ⟨cl,?_,h2,λ n d q=>?_,λ n hn=>?_⟩
    ·rw [List.forIn_cons]
     simp only [beq_self_eq_true,if_true,cellOf,e,pure_bind]
     exact h1
    ·cases hb:n == name with
     | true=>exact h3 n c (by rw [List.lookup_cons,hb])
     | false=>exact h3 n d (by rw [List.lookup_cons,hb]; exact q)
    ·rcases List.mem_cons.mp hn with z | z
     ·cases z
      exact h3 name c (by rw [List.lookup_cons]; simp)
     ·exact h4 n z
   ·obtain ⟨cl,h1,h2,h3,h4⟩:=ih cs (λ y hy=>hl y (List.mem_cons_of_mem _ hy)) hc
    refine ⟨cl,?_,h2,h3,λ n hn=>?_⟩
    ·rw [List.forIn_cons]
     have:(kind == NameKind.free)=false:=by simpa using hk
     simp only [this,Bool.false_eq_true,if_false,pure_bind]
     exact h1
    ·rcases List.mem_cons.mp hn with z | z
     ·cases z; exact absurd rfl hk
     ·exact h4 n z
 obtain ⟨cl,h1,h2,_,h4⟩:=key scope.names [] h (λ n c e=>by simp at e)
 refine ⟨cl,?_,h2,h4⟩
 unfold closureFor
 simp only [bind_pure]
 exact h1
theorem relabel_free {sc:Scope}{env:Env}{x:Str}:∀ {names:List (Str×NameKind)},(names.map λ (n,k)=>if (k == NameKind.free && env.scope.kind == .function && env.kindOf n == some .cell) then (n,NameKind.cell) else (n,k)).lookup x=some .cell \/
  (names.map λ (n,k)=>if (k == NameKind.free && env.scope.kind == .function && env.kindOf n == some .cell) then (n,NameKind.cell) else (n,k)).lookup x=some .free->(∀ y∈names,y.2 ≠ .cell)->(x,NameKind.free)∈names
 | [],h,_=>by simp at h
 | (n,k) :: r,h,hc=>by
  have ih:=@relabel_free sc env x r
  by_cases hk:(k == NameKind.free && env.scope.kind == .function && env.kindOf n == some .cell)=true
  ·simp only [List.map_cons,if_pos hk,List.lookup_cons] at h
   cases hx:x == n with
   | true =>
    have e:=eq_of_beq hx
    subst e
    simp only [Bool.and_eq_true] at hk
    have:=eq_of_beq hk.1.1
    subst this
    exact List.mem_cons_self
   | false =>
    rw [hx] at h
    exact List.mem_cons_of_mem _ (ih h λ y hy=>hc y (List.mem_cons_of_mem _ hy))
  ·simp only [List.map_cons,if_neg hk,List.lookup_cons] at h
   cases hx:x == n with
   | true =>
    rw [hx] at h
    have e:=eq_of_beq hx
    subst e
    rcases h with h | h
    ·cases h; exact absurd rfl (hc (x,.cell) List.mem_cons_self)
    ·cases h; exact List.mem_cons_self
   | false =>
    rw [hx] at h
    exact List.mem_cons_of_mem _ (ih h λ y hy=>hc y (List.mem_cons_of_mem _ hy))
theorem relabel_lookup_free {env:Env}{x:Str}:∀ {names:List (Str×NameKind)},names.lookup x=some .free ->
  (names.map λ (n,k)=>if (k == NameKind.free && env.scope.kind == .function && env.kindOf n == some .cell) then (n,NameKind.cell) else (n,k)).lookup x=some .cell \/
  (names.map λ (n,k)=>if (k == NameKind.free && env.scope.kind == .function && env.kindOf n == some .cell) then (n,NameKind.cell) else (n,k)).lookup x=some .free
 | [],h=>by simp at h
 | (n,k) :: r,h=>by
  have ih:=@relabel_lookup_free env x r
  by_cases hk:(k == NameKind.free && env.scope.kind == .function && env.kindOf n == some .cell)=true
  ·simp only [List.map_cons,if_pos hk,List.lookup_cons]
   cases hx:x == n with
   | true=>exact .inl rfl
   | false=>rw [List.lookup_cons,hx] at h; exact ih h
  ·simp only [List.map_cons,if_neg hk,List.lookup_cons]
   cases hx:x == n with
   | true=>rw [List.lookup_cons,hx] at h; exact .inr h
   | false=>rw [List.lookup_cons,hx] at h; exact ih h
noncomputable def blk (X:Cx)(sc:Scope)(N':List Str)(cl:List (Str×Addr))(C:Addr)(s:Shared)(H:Hp)(ex:List Addr)(pins:List (Addr×Obj)):Cx :=
 {X with N:=N',s₀:=s,H₀:=H,env:=compEnvC sc cl C X.env,outer:=X.stack,ex:=ex,fn:=λ _=>false,pn:=X.pn++pins,xe:=λ _ _=>False }
noncomputable def lcN (X:Cx)(own:List Str)(fr:List Nat):List Str:=own++fr.map λ j=>X.N.getD j Str.empty
noncomputable def lcS (k:Nat)(fr:List Nat)(σ:St):St:=List.replicate k none++fr.map λ j=>(σ[j]?).getD none
noncomputable def frOk (N:List Str)(sc:Scope)(fr:List Nat):Bool:=fr.all λ j=>match N[j]? with
 | some x=>sc.names.lookup x == some .free
 | none=>false
structure LcOk (X:Cx)(sc:Scope)(own:List Str)(fr:List Nat):Prop where
 kind:sc.kind=.function
 cell:∀ y∈sc.names,y.2 ≠ .cell
 free:∀ y∈sc.names,y.2=.free->(X.env.kindOf y.1=some .cell\/X.env.kindOf y.1=some .free)
 names:∀ y∈sc.names,y.2=.local->sc.names.lookup y.1=some .local
 fr:frOk X.N sc fr=true
noncomputable def PTs (X:Cx)(ifs:List Expr)(t:TT):Prop :=
 ∀ (pins:List (Addr×Obj)) (s:Shared) (σ:St) (H:Hp) (Q:Bool->Hp->Prop),Inv X pins σ H s->t σ H Q->wpAny (model X.prog X.w) X.A (testsOf ifs X.env) (TP X pins σ Q) X.xe s
noncomputable def tYes:TT:=λ _ H Q=>Q true H
theorem pts_nil {X:Cx}:PTs X [] tYes:=λ _ _ _ H _ I h=>wpAny_tests_nil ⟨H,I,h⟩
section
variable {X:Cx}{pins:List (Addr×Obj)}{σ:St}{H:Hp}{s:Shared}{sc:Scope}{own:List Str}{fr:List Nat}{cl:List (Str×Addr)}{fp:List Addr}{C D:Addr}{s1:Shared}
theorem frOk_get {N:List Str}{sc:Scope}{fr:List Nat}(h:frOk N sc fr=true){j:Nat}(hj:j∈fr):∃ x,N[j]? = some x/\sc.names.lookup x=some .free:=by
 have q:=List.all_eq_true.mp h j hj
 cases e:N[j]? with
 | none=>simp [e] at q
 | some x =>
  simp only [e] at q
  exact ⟨x,rfl,eq_of_beq q⟩
theorem blk_ok (L:LcOk X sc own fr)(I:Inv X pins σ H s)(hf:∀ b∈fp,FpOk X pins H b)(hb:∀ b∈fp,b < s.heap.objs.size)(hC:s.heap.objs.size<=C)
  (c1:∀ n c,cl.lookup n=some c->X.env.cells.lookup n=some c)(c2:∀ n,(n,NameKind.free)∈sc.names->∃ c,cl.lookup n=some c):(blk X sc (lcN X own fr) cl C s H fp pins).Ok where
 mod:=I.ok.mod
 kind:=L.kind
 glob:=I.ok.glob
 blt:=I.ok.blt
 above:=hC
 inj:=λ x y c a b=>I.ok.inj x y c (c1 _ _ a) (c1 _ _ b)
 has:=λ x hx=>c2 x (relabel_free (sc:=sc) (env:=X.env) hx L.cell)
 cab:=λ x c z=>absurd (show false=true from z) Bool.false_ne_true
 hd:=I.ok.hd
 frames:=I.ok.frames
 stk:=.inl rfl
 exf:=λ b z=>⟨Nat.ne_of_lt (Nat.lt_of_lt_of_le (hb b z) hC),λ x c e=>(hf b z).2.2.2.2.1 x c (c1 _ _ e)⟩
 bs:=I.bs
 bsz:=Nat.le_trans I.ok.bsz I.sz
 noex:=λ b o e z=>by
  rcases (hf b z).2.2.2.1 with q | q
  ·exact I.ok.noex b o e q
  ·exact absurd (Nat.lt_of_lt_of_le (Heap.lt_size e) (Nat.le_trans I.ok.bsz q)) (Nat.lt_irrefl _)
 exfs:=λ b z q=>by
  rcases List.mem_cons.mp (I.stkSub b q) with e | e
  ·exact (hf b z).2.1 e
  ·exact (hf b z).2.2.1 e
 funs:=I.stack
 frf:=I.stkFree
theorem blk_inv (L:LcOk X sc own fr)(I:Inv X pins σ H s)(hf:∀ b∈fp,FpOk X pins H b)(hb:∀ b∈fp,b < s.heap.objs.size)(hC:s.heap.objs.size<=C)
  (c1:∀ n c,cl.lookup n=some c->X.env.cells.lookup n=some c)(c2:∀ n,(n,NameKind.free)∈sc.names->∃ c,cl.lookup n=some c)
  {h1:Heap}{tk:Nat}{m:Str->Option Value}(hn:h1.Ns C m)(k:∀ b o,s.heap.get? b=some o->h1.get? b=some o) :
  Inv (blk X sc (lcN X own fr) cl C s H fp pins) [] (lcS own.length fr σ) H { s with heap:=h1,toks:=tk }:=by
 have ok:=blk_ok L I hf hb hC c1 c2
 refine ⟨ok,rfl,I.bare,Un.kept k,⟨m,hn,λ i x v e1 e2 e3=>?_⟩,λ x c e=>?_,I.hok.fresh hC,λ x c e=>I.freeC x c (c1 _ _ e),λ p hp=>?_,I.hok.kept k,?_⟩
 ·-- one of the names around
  have hi:¬ i < own.length:=λ hi=>by
   unfold lcS at e2
   rw [List.getElem?_append_left (by simpa using hi),List.getElem?_replicate] at e2
   split at e2 <;> cases e2
  have e1':(lcN X own fr)[i]? = some x:=e1
  unfold lcN at e1'
  unfold lcS at e2
  rw [List.getElem?_append_right (by omega),List.getElem?_map] at e1'
  rw [List.getElem?_append_right (by simpa using hi),List.getElem?_map,List.length_replicate] at e2
  cases q:fr[i - own.length]? with
  | none=>rw [q] at e1'; cases e1'
  | some j =>
   rw [q] at e1' e2
   obtain ⟨y,hy,hyf⟩:=frOk_get L.fr (List.mem_of_getElem? q)
   have ex:y=x:=by
    have:=Option.some.inj e1'
    rw [<- this]
    simp [List.getD,hy]
   subst ex
   have ev:σ[j]? = some (some v):=by
    have z:(σ[j]?).getD none=some v:=Option.some.inj e2
    cases w:σ[j]? with
    | none=>rw [w] at z; cases z
    | some o=>rw [w] at z; exact congrArg some z
   have hm:(y,NameKind.free)∈sc.names:=PySem.mem_of_lookup hyf
   have hk:=L.free _ hm rfl
   have vis:Vis X.env.scope y:=by
    rcases hk with z | z
    ·exact .inr (.inl z)
    ·exact .inr (.inr z)
   obtain ⟨m0,hn0,hl⟩:=I.loc
   obtain ⟨u,r,l⟩:=hl j y v hy ev vis
   refine ⟨u,r,.inr ⟨?_,?_⟩⟩
   ·exact relabel_lookup_free (env:=X.env) hyf
   ·obtain ⟨c,hc⟩:=c2 y hm
    rcases l with ⟨z,_⟩ | ⟨_,c',hc',hcell⟩
    ·rcases hk with q | q
     ·exact absurd (show X.env.kindOf y=some .local from z) (by rw [q]; decide)
     ·exact absurd (show X.env.kindOf y=some .local from z) (by rw [q]; decide)
    ·have:c=c':=Option.some.inj ((c1 _ _ hc).symm.trans hc')
     subst this
     obtain ⟨o,ho,hd⟩:=hcell
     exact ⟨c,hc,o,k _ _ ho,hd⟩
 ·obtain ⟨v,o,ho,hd⟩:=I.cell x c (c1 _ _ e)
  exact ⟨v,o,k _ _ ho,hd⟩
 ·have hp':p∈X.pn++pins:=by simpa [blk] using hp
  obtain ⟨a1,a2,a3,a4,a5⟩:=I.pin p hp'
  refine ⟨k _ _ a1,a2,Nat.ne_of_lt (Nat.lt_of_lt_of_le (Heap.lt_size a1) hC),λ q=>?_,a5⟩
  rcases List.mem_cons.mp (I.stkSub _ q) with e | e
  ·exact a3 e
  ·exact a4 e
 ·show (lcS own.length fr σ).length=(lcN X own fr).length
  simp [lcS,lcN]
end
noncomputable abbrev LcW:=Nat->Nat->List V->St->Hp->Prop
noncomputable def lcStep (J:It)(g:TG)(tt:TT)(te:TE)(W:LcW)(Fin:List V->Hp->Prop):Prop:=∀ i m ys τ H,W i m ys τ H ->
 (J.stop i H/\Fin ys H)\/(J.go i H/\ys.length < sizeLine/\∀ x H',J.yld i H x H'->g x τ H' λ τ2 H2=>tt τ2 H2 λ b H3 =>
  if b=true then te τ2 H3 λ y H4=>∃ m',m' < m/\W (i+1) m' (ys++[y]) τ2 H4 else ∃ m',m' < m/\W (i+1) m' ys τ2 H3)
section
variable {X:Cx}{pins:List (Addr×Obj)}{σ:St}{H:Hp}{s:Shared}{sc:Scope}{own:List Str}{fr:List Nat}{cl:List (Str×Addr)}{fp:List Addr}{it:Addr}{J:It}{tn:Nat->Heap->Prop}{g:TG}{tt:TT}{te:TE}{W:LcW}{Fin:List V->Hp->Prop}
 {elt tg iter:Expr}{ifs:List Expr}{pos:Pos}{E:Value->Shared->Prop}
theorem lc_core {RR:Value->Addr->Result->Shared->Prop}(hc:X.calm=true)(L:LcOk X sc own fr)(hcl1:∀ n c,cl.lookup n=some c->X.env.cells.lookup n=some c)(hcl2:∀ n,(n,NameKind.free)∈sc.names->∃ c,cl.lookup n=some c)
  (hg:∀ C s H ex pl,PG (blk X sc (lcN X own fr) cl C s H ex pl) tg g)(ht:∀ C s H ex pl,PTs (blk X sc (lcN X own fr) cl C s H ex pl) ifs tt)(he:∀ C s H ex pl,PE (blk X sc (lcN X own fr) cl C s H ex pl) elt te)
  (I:Inv X pins σ H s)(T:Turn X.prog X.w X.K tg J fp it tn)(st:tn 0 s.heap)(hf:∀ b∈fp,FpOk X pins H b)(w0:∃ m,W 0 m [] (lcS own.length fr σ) H)(turn:lcStep J g tt te W Fin)
  (hRR:∀ (D C:Addr) (s':Shared) (H':Hp) (ys:List V) (us:List Value) (n:Nat) (m:Str->Option Value),Inv X pins σ H' s'->s'.heap.get? D=some { cls:=.type "list",data:=.seq us.toArray n }->Vals ys us->ys.length<=sizeLine->H' D=none->H' C=none ->
   s.heap.objs.size<=D->s.heap.objs.size<=C->D≠C->s'.heap.Ns C m->Fin ys H'->RR (.ref D) C (.ok .next) s') :
  wpAny (model X.prog X.w) X.A (newList []) (λ acc s₃=>wpAny (model X.prog X.w) X.A (newFunctionEnv sc X.env.globals cl [] X.env.qual none .none (some X.env)) (λ cenv s₄ =>
   codeAny (model X.prog X.w) X.A (.compStart (.ListComp elt [⟨tg,iter,ifs,0⟩] sc pos) 0 (.ref it) acc { cenv with scope:=relabel sc X.env }) (RR acc cenv.locals) s₄) E s₃) E s:=by
 refine wpAny_newObj_type (wpAny_newFunctionEnv L.cell (by intro y hy; simp at hy) (λ h₁ hns₁ hsb₁=>?_) L.kind)
 dsimp only at hns₁ hsb₁ ⊢
 generalize hH2:s.heap.push { cls:=.type "list",dict:=none,data:=.seq ([]:List Value).toArray }=H2 at hns₁ hsb₁ ⊢
 have hCs:H2.objs.size=s.heap.objs.size+1:=by rw [<- hH2,Heap.size_push]
 have hD0:s.heap.objs.size≠H2.objs.size:=by rw [hCs]; exact Nat.ne_of_lt (Nat.lt_succ_self _)
 have hCle:s.heap.objs.size<=H2.objs.size:=by rw [hCs]; exact Nat.le_succ _
 have below:∀ b,b < s.heap.objs.size->b≠H2.objs.size/\b≠s.heap.objs.size:=λ b hb=>⟨by rw [hCs]; exact Nat.ne_of_lt (Nat.lt_succ_of_lt hb),Nat.ne_of_lt hb⟩
 have old:∀ b o,s.heap.get? b=some o->h₁.get? b=some o:=λ b o e=>hsb₁.extBut b o (below b (Heap.lt_size e)).1 (Heap.get?_push_of_some _ (hH2 ▸ Heap.get?_push_of_some _ e))
 have hacc:h₁.get? s.heap.objs.size=some { cls:=.type "list",data:=.seq ([]:List Value).toArray 0 }:=hsb₁.extBut _ _ hD0 (Heap.get?_push_of_some _ (hH2 ▸ Heap.get?_push_size _ rfl))
 have hfb:∀ b∈fp,b < s.heap.objs.size:=λ b hb=>by
  obtain ⟨o,e,_⟩:=T.obj 0 _ st b hb
  exact Heap.lt_size e
 have I1:Inv (blk X sc (lcN X own fr) cl H2.objs.size s H fp pins) [] (lcS own.length fr σ) H { s with heap:=h₁,toks:=s.toks+([]:List (Str×Value)).length }:=blk_inv L I hf hfb hCle hcl1 hcl2 hns₁ old
 have st1:tn 0 h₁:=T.keep 0 _ _ st λ b _ o e=>old b o e
 generalize hY:blk X sc (lcN X own fr) cl H2.objs.size s H fp pins=Y at I1
 have hYp:Y.prog=X.prog:=by rw [<- hY]; rfl
 have hYw:Y.w=X.w:=by rw [<- hY]; rfl
 have hYK:Y.K=X.K:=by rw [<- hY]; rfl
 have hYA:Y.A=X.A:=by rw [<- hY]; rfl
 have hYc:Y.calm=true:=by rw [<- hY]; exact hc
 have hYe:Y.env=compEnvC sc cl H2.objs.size X.env:=by rw [<- hY]; rfl
 have hYx:Y.xe=λ _ _=>False:=by rw [<- hY]; rfl
 have hYpn:Y.pn=X.pn++pins:=by rw [<- hY]; rfl
 have hYs:Y.s₀=s:=by rw [<- hY]; rfl
 have hYH:Y.H₀=H:=by rw [<- hY]; rfl
 have hYex:Y.ex=fp:=by rw [<- hY]; rfl
 have hYfs:Y.fs=frs X.stack:=by rw [<- hY]; rfl
 have gY:=hg H2.objs.size s H fp pins
 have tY:=ht H2.objs.size s H fp pins
 have eY:=he H2.objs.size s H fp pins
 rw [hY] at gY tY eY
 have D_pin:∀ p∈Y.pn++([]:List (Addr×Obj)),p.1≠s.heap.objs.size:=λ p hp=>by
  rw [hYpn,List.append_nil] at hp
  exact (below _ (Heap.lt_size (I.pin p hp).1)).2
 have D_cell:∀ x c,Y.env.cells.lookup x=some c->c≠s.heap.objs.size:=λ x c e=>by
  rw [hYe] at e
  obtain ⟨v,z⟩:=I.cell x c (hcl1 _ _ e)
  exact (below _ z.lt).2
 have D_loc:s.heap.objs.size≠Y.env.locals:=by rw [hYe]; exact hD0
 have D_fs:s.heap.objs.size ∉ Y.fs:=by
  rw [hYfs]
  intro z
  rcases List.mem_cons.mp (I.stkSub _ z) with e | e
  ·exact absurd I.lt (by rw [<- e]; exact Nat.lt_irrefl _)
  ·exact I.nofs (Nat.le_refl _) e
 have fpY:∀ {H':Hp} (pl:List (Addr×Obj)),(∀ b∈fp,H' b=none)->(∀ p∈pl,p.1=s.heap.objs.size)->∀ b∈fp,FpOk Y pl H' b:=λ {H'} pl hn hp b hb=>by
  obtain ⟨_,f1,f2,f3,f4,f5⟩:=hf b hb
  refine ⟨hn b hb,by rw [hYe]; exact (below b (hfb b hb)).1,?_,.inl (by rw [hYex]; exact hb),λ x c e=>?_,λ p q=>?_⟩
  ·rw [hYfs]
   intro z
   rcases List.mem_cons.mp (I.stkSub _ z) with e | e
   ·exact f1 e
   ·exact f2 e
  ·rw [hYe] at e
   exact f4 x c (hcl1 _ _ e)
  ·rcases List.mem_append.mp q with z | z
   ·rw [hYpn] at z
    exact f5 p z
   ·rw [hp p z]
    exact Ne.symm (below b (hfb b hb)).2
 have loop:∀ s₃:Shared,s₃={ s with heap:=h₁,toks:=s.toks+([]:List (Str×Value)).length } ->
   codeAny (model X.prog X.w) X.A (.compLoop (.ListComp elt [⟨tg,iter,ifs,0⟩] sc pos) 0 (.ref it) (.ref s.heap.objs.size) (compEnvC sc cl H2.objs.size X.env)) (RR (.ref s.heap.objs.size) H2.objs.size) s₃:=by
  rintro s₃ rfl
  obtain ⟨m0,w0⟩:=w0
  refine compLoop_own (λ n s'=>∃ i ys τ H' us k,Inv Y [] τ H' s'/\tn i s'.heap/\(∀ b∈fp,H' b=none)/\H' s.heap.objs.size=none/\s'.heap.get? s.heap.objs.size=some { cls:=.type "list",data:=.seq us.toArray k }/\Vals ys us/\ys.length<=sizeLine/\W i n ys τ H') ?_ m0
   ⟨0,[],_,H,[],0,I1,st1,λ b hb=>(hf b hb).1,I.hok.fresh (Nat.le_refl _),hacc,.nil,Nat.zero_le _,w0⟩
  rintro n s' ⟨i,ys,τ,H',us,k,I',st',hn',hD',ha',hv',hz',w'⟩
  have Ip:Inv Y [(s.heap.objs.size,{ cls:=.type "list",data:=.seq us.toArray k })] τ H' s':=I'.pins_of λ p hp=>by
   have e:p=(s.heap.objs.size,{ cls:=.type "list",data:=.seq us.toArray k }):=by simpa using hp
   subst e
   exact ⟨ha',hD',D_loc,D_fs,λ v z=>nomatch (show Data.seq _ _=Data.cell v from z)⟩
  have onlyD:∀ p∈[((s.heap.objs.size,{ cls:=.type "list",data:=.seq us.toArray k }):Addr×Obj)],p.1=s.heap.objs.size:=λ p hp=>by
   have e:p=(s.heap.objs.size,{ cls:=.type "list",data:=.seq us.toArray k }):=by simpa using hp
   subst e
   rfl
  rcases turn i n ys τ H' w' with ⟨stop,fin⟩ | ⟨go,hlen,step⟩
  ·have q:=T.done Y hYp hYw hYK hYc i _ s' τ H' (λ _ _=>False) Ip (fpY _ hn' onlyD) st' stop
   rw [hYA] at q
   refine thn q λ r s4 hq19=>?_
   obtain ⟨hr,I4⟩:=hq19
   subst hr
   have un:Un (frs X.stack) fp H H' s.heap s4.heap:=by
    have z:=I4.base
    rw [hYfs,hYex,hYH,hYs] at z
    exact z
   have os4:s4.os=s.os:=by
    have z:=I4.os
    rw [hYs] at z
    exact z
   have hok4:HOk X.prog X.w H' s4.heap:=by
    have z:=I4.hok
    rw [hYp,hYw] at z
    exact z
   have hch:∀ b∈fp,(b∈X.ex\/X.s₀.heap.objs.size<=b)/\b≠X.env.locals/\(∀ x c,X.env.cells.lookup x=some c->c≠b)/\∀ p∈X.pn++pins,p.1≠b:=λ b hb=>by
    obtain ⟨_,f1,f2,f3,f4,f5⟩:=hf b hb
    exact ⟨f3,f1,f4,f5⟩
   have IX:Inv X pins σ H' s4:=I.call' os4 un hok4 I4.bare hch
   obtain ⟨mC,hmC,_⟩:=I4.loc
   have hCf:=I4.free
   rw [hYe] at hmC hCf
   have pD:=I4.pin (s.heap.objs.size,{ cls:=.type "list",data:=.seq us.toArray k }) (List.mem_append_right _ (List.mem_singleton.mpr rfl))
   exact hRR _ _ s4 H' ys us k mC IX pD.1 hv' hz' pD.2.1 hCf (Nat.le_refl _) hCle hD0 hmC fin
  ·have q:=T.item Y hYp hYw hYK hYc i _ s' τ H' (λ _ _=>False) Ip (fpY _ hn' onlyD) st' go
   rw [hYA] at q
   refine thn q λ r s4 hq20=>?_
   obtain ⟨u,hr,h4⟩:=hq20
   subst hr
   refine thn h4 λ _ s5 hq21=>?_
   obtain ⟨x,H5,I5,r5,y5,st5,fr5⟩:=hq21
   have I5':=I5.pinned (fpY _ fr5 onlyD) (T.obj _ _ st5)
   have g5:=gY _ s5 τ H5 x u _ I5' r5 (step x H5 y5)
   rw [hYp,hYw,hYA,hYe,hYx] at g5
   refine thn g5 λ _ s6 hq22=>?_
   obtain ⟨σ6,H6,I6,q6⟩:=hq22
   have t6:=tY _ s6 σ6 H6 _ I6 q6
   rw [hYp,hYw,hYA,hYe,hYx] at t6
   refine thn t6 λ ok s7 hq23=>?_
   obtain ⟨H7,I7,q7⟩:=hq23
   have keepD:∀ {σ8:St} {H8:Hp} {s8:Shared},Inv Y ([(s.heap.objs.size,{ cls:=.type "list",data:=.seq us.toArray k })]++pinsAt fp s5.heap) σ8 H8 s8->s8.heap.get? s.heap.objs.size=some { cls:=.type "list",data:=.seq us.toArray k }/\H8 s.heap.objs.size=none :=
    λ {σ8 H8 s8} I8=>by
     have pD:=I8.pin (s.heap.objs.size,{ cls:=.type "list",data:=.seq us.toArray k }) (List.mem_append_right _ (List.mem_append_left _ (List.mem_singleton.mpr rfl)))
     exact ⟨pD.1,pD.2.1⟩
   have keepI:∀ {σ8:St} {H8:Hp} {s8:Shared},Inv Y ([(s.heap.objs.size,{ cls:=.type "list",data:=.seq us.toArray k })]++pinsAt fp s5.heap) σ8 H8 s8->tn (i+1) s8.heap/\∀ b∈fp,H8 b=none :=
    λ {σ8 H8 s8} I8=>by
     refine ⟨T.keep _ _ _ st5 λ b hb o e=>(I8.pin (b,o) (List.mem_append_right _ (List.mem_append_right _ (mem_pinsAt hb e)))).1,λ b hb=>?_⟩
     obtain ⟨o,e,d⟩:=T.obj _ _ st5 b hb
     exact (I8.pin (b,o) (List.mem_append_right _ (List.mem_append_right _ (mem_pinsAt hb e)))).2.1
   cases ok with
   | false =>
    rw [if_neg Bool.false_ne_true] at q7 ⊢
    obtain ⟨m',hm',w7⟩:=q7
    obtain ⟨a7,b7⟩:=keepD I7
    obtain ⟨c7,d7⟩:=keepI I7
    exact ⟨m',hm',i+1,ys,σ6,H7,us,k,I7.pins_of (λ p hp=>(nomatch hp)),c7,d7,b7,a7,hv',hz',w7⟩
   | true =>
    rw [if_pos rfl] at q7 ⊢
    have e7:=eY _ s7 σ6 H7 _ I7 q7
    rw [hYp,hYw,hYA,hYe,hYx] at e7
    refine thn e7 λ v s8 hq24=>?_
    obtain ⟨y,H8,I8,r8,m',hm',w8⟩:=hq24
    obtain ⟨a8,b8⟩:=keepD I8
    obtain ⟨c8,d8⟩:=keepI I8
    have hl:=hv'.length
    refine call_meets F.slot_list_append ⟨_,a8,rfl⟩ F.entry_list_append (F.args_list_append_2 _ _) (PySem.list_append s.heap.objs.size us.toArray k v (by rw [List.size_toArray]; omega)) ⟨a8,?_⟩
    have qu:=PySem.IsL.update a8 (λ xs=>xs.push v)
    have I9:=(I8.pins_of (pins':=[]) λ p hp=>nomatch hp).turned (it:=s.heap.objs.size) (t':=s8.toks) (h':=s8.heap.update s.heap.objs.size (Obj.mapSeq λ xs=>xs.push v)) (λ b o hb e=>(Heap.get?_update_other s8.heap _ (Ne.symm hb)).trans e) b8 D_loc (.inr (by rw [hYs]; exact Nat.le_refl _)) D_cell D_pin
    have ep:us.toArray.push v=(us++[v]).toArray:=by simp
    rw [ep] at qu
    refine ⟨m',hm',i+1,ys++[y],σ6,H8,us++[v],(if (us++[v]).toArray.size == us.toArray.size then k else k+1),I9,T.keep _ _ _ c8 λ b hb o e=>(Heap.get?_update_other s8.heap _ (Ne.symm (below b (hfb b hb)).2)).trans e,d8,b8,?_,hv'.append (.cons r8 .nil),?_,w8⟩
    ·exact qu
    ·rw [List.length_append,List.length_singleton]; omega
 exact codeAny_compStart_list (loop _ rfl) (T.self _ 0 _ _ _ st1 (loop _ rfl))
noncomputable def tLC (wi:TI)(g:TG)(tt:TT)(te:TE)(k:Nat)(fr:List Nat):TE:=λ σ H Q=>wi σ H λ J H1=>∃ W:LcW,(∃ m,W 0 m [] (lcS k fr σ) H1)/\lcStep J g tt te W λ ys H2=>∀ p,H2 p=none->Q (.ref p) (upd H2 p (.lst ys))
theorem lc_closure (L:LcOk X sc own fr)(ok:X.Ok):∃ cl,closureFor sc X.env=pure cl/\(∀ n c,cl.lookup n=some c->X.env.cells.lookup n=some c)/\(∀ n,(n,NameKind.free)∈sc.names->∃ c,cl.lookup n=some c) :=
 closure_some λ x hx hf=>ok.has x.1 (L.free x hx hf)
theorem pe_lc {wi:TI}(hc:X.calm=true)(L:LcOk X sc own fr)(hi:PI X tg iter wi)
  (hg:∀ cl C s H ex pl,PG (blk X sc (lcN X own fr) cl C s H ex pl) tg g)(ht:∀ cl C s H ex pl,PTs (blk X sc (lcN X own fr) cl C s H ex pl) ifs tt)(he:∀ cl C s H ex pl,PE (blk X sc (lcN X own fr) cl C s H ex pl) elt te)
  (hs:∀ x,foldedSetIterable iter X.env x=pure x:=by intro _; rfl):PE X (.ListComp elt [⟨tg,iter,ifs,0⟩] sc pos) (tLC wi g tt te own.length fr):=by
 intro pins s σ H Q I h
 obtain ⟨cl,hcl,c1,c2⟩:=lc_closure L I.ok
 rw [eval_ListComp]
 refine wpAny_comprehension_free (use:=none) (g:=⟨tg,iter,ifs,0⟩) (gs:=[]) rfl hs hcl L.kind L.names ?_
 refine thn (hi pins s σ H _ I h) λ v s1 h1=>thn h1 λ itv s2 h2=>?_
 obtain ⟨it,fp,tn,J,H2,e,I2,T,st2,f2,W,w0,turn⟩:=h2
 subst e
 refine lc_core (cl:=cl) hc L c1 c2 (hg cl) (ht cl) (he cl) I2 T st2 f2 w0 turn λ D C s' H' ys us n m I' a' hv hz hD hC dD dC hDC hns fin=>?_
 refine ⟨m,hns,λ h' sb=>?_⟩
 have far:∀ b,s2.heap.objs.size<=b->(X.s₀.heap.objs.size<=b)/\b≠X.env.locals/\(∀ x c,X.env.cells.lookup x=some c->c≠b)/\∀ p∈X.pn++pins,p.1≠b:=λ b hb=>by
  obtain ⟨_,f1,_,f3,f4,f5⟩:=I2.fpOk (H':=λ _=>none) hb rfl
  refine ⟨Nat.le_trans I2.sz hb,f1,f4,f5⟩
 obtain ⟨z1,z2,z3,z4⟩:=far C dC
 obtain ⟨y1,y2,y3,y4⟩:=far D dD
 have I3:Inv X pins σ H' { s' with heap:=h' }:=I'.turned (t':=s'.toks) (λ b o hb e=>sb.extBut b o hb e) hC z2 (.inr z1) z3 z4
 exact ⟨.ref D,_,I3.track (sb.extBut _ _ hDC a') hD hv hz y1 y2 y3 y4,rfl,fin D hD⟩
end
end L2
namespace D
open PySem PySem.Spec PyProof.Rows L2
noncomputable abbrev St:=L2.St
structure Kp (H H':Hp):Prop where
 tup:∀ b xs,H b=some (.tup xs)->H' b=some (.tup xs)
 frz:∀ b o u,H b=some (.frz o u)->H' b=some (.frz o u)
theorem Kp.refl (H:Hp):Kp H H:=⟨λ _ _ e=>e,λ _ _ _ e=>e⟩
theorem Kp.trans {H H1 H2:Hp}(a:Kp H H1)(b:Kp H1 H2):Kp H H2:=⟨λ c xs e=>b.tup c xs (a.tup c xs e),λ c o u e=>b.frz c o u (a.frz c o u e)⟩
theorem Kp.new {H:Hp}{p:Addr}{o:HO}(h:H p=none):Kp H (upd H p o):=⟨λ b xs e=>by rw [upd_ne (ne_of_none e h)]; exact e,λ b ob u e=>by rw [upd_ne (ne_of_none e h)]; exact e⟩
theorem Kp.set {H:Hp}{p:Addr}{o u:HO}(h:H p=some u)(ht:∀ xs,u ≠ .tup xs)(hf:∀ ob v,u ≠ .frz ob v):Kp H (upd H p o) :=
 ⟨λ b xs e=>by rw [upd_ne (ne_of e h λ z=>ht _ z.symm)]; exact e,λ b ob v e=>by rw [upd_ne (ne_of e h λ z=>hf _ _ z.symm)]; exact e⟩
theorem Kp.un {fs ex:List Addr}{H H':Hp}{h h':Heap}(u:Un fs ex H H' h h'):Kp H H':=⟨u.tups,u.frzs⟩
noncomputable def SqF (K:PySem.W.Frag)(H:Hp)(a:Addr)(xs:List V):Prop :=
 (∃ o,H a=some (.frz o (.lst xs)))\/∃ (o:Obj) (its:Array Value) (n:Nat),K.lookup a=some o/\o.cls=.type "list" /\ o.dict=none/\o.data=.seq its n/\its.size<=sizeLine/\Vals xs its.toList
theorem SqF.sq {K:PySem.W.Frag}{H:Hp}{a:Addr}{xs:List V}(h:SqF K H a xs):SqL K H a xs:=by
 rcases h with h | h
 ·exact .inl (.inr h)
 ·exact .inr h
theorem SqF.keep {K:PySem.W.Frag}{H H':Hp}{a:Addr}{xs:List V}(k:Kp H H')(h:SqF K H a xs):SqF K H' a xs:=by
 rcases h with ⟨o,h⟩ | h
 ·exact .inl ⟨o,k.frz _ _ _ h⟩
 ·exact .inr h
theorem SqT.keep {K:PySem.W.Frag}{H H':Hp}{a:Addr}{xs:List V}(k:Kp H H')(h:SqT K H a xs):SqT K H' a xs:=by
 rcases h with (h | ⟨o,h⟩) | h
 ·exact .inl (.inl (k.tup _ _ h))
 ·exact .inl (.inr ⟨o,k.frz _ _ _ h⟩)
 ·exact .inr h
noncomputable def keyD:Key->PyData
 | .inl i=>.int i
 | .inr x=>.str x
mutual
noncomputable def RepD (K:PySem.W.Frag)(H:Hp):PyData->V->Prop
 | .none,v=>v=.non
 | .bool b,v=>v=.bl b
 | .int i,v=>v=.int i
 | .str x,v=>v=.str x
 | .list ds,v=>∃ a vs,v=.ref a/\SqF K H a vs/\RepA K H ds vs
 | .tuple ds,v=>∃ a vs,v=.ref a/\SqT K H a vs/\RepA K H ds vs
 | .dict kvs,v=>∃ a o l,v=.ref a/\H a=some (.frz o (.dK l))/\RepK K H kvs l
noncomputable def RepA (K:PySem.W.Frag)(H:Hp):List PyData->List V->Prop
 | [],vs=>vs=[]
 | d :: ds,vs=>∃ v r,vs=v :: r/\RepD K H d v/\RepA K H ds r
noncomputable def RepK (K:PySem.W.Frag)(H:Hp):List (PyData×PyData)->List (Key×V)->Prop
 | [],l=>l=[]
 | (k,d) :: ds,l=>∃ key v r,l=(key,v) :: r/\k=keyD key/\RepD K H d v/\RepK K H ds r
end
mutual
theorem RepD.keep {K:PySem.W.Frag}{H H':Hp}(k:Kp H H'):∀ {d:PyData} {v:V},RepD K H d v->RepD K H' d v
 | .none,v,h=>by simp only [RepD] at h ⊢; exact h
 | .bool b,v,h=>by simp only [RepD] at h ⊢; exact h
 | .int i,v,h=>by simp only [RepD] at h ⊢; exact h
 | .str x,v,h=>by simp only [RepD] at h ⊢; exact h
 | .list ds,v,h=>by
  simp only [RepD] at h ⊢
  obtain ⟨a,vs,e,s,r⟩:=h
  exact ⟨a,vs,e,s.keep k,RepA.keep k r⟩
 | .tuple ds,v,h=>by
  simp only [RepD] at h ⊢
  obtain ⟨a,vs,e,s,r⟩:=h
  exact ⟨a,vs,e,SqT.keep k s,RepA.keep k r⟩
 | .dict kvs,v,h=>by
  simp only [RepD] at h ⊢
  obtain ⟨a,o,l,e,s,r⟩:=h
  exact ⟨a,o,l,e,k.frz _ _ _ s,RepK.keep k r⟩
theorem RepA.keep {K:PySem.W.Frag}{H H':Hp}(k:Kp H H'):∀ {ds:List PyData} {vs:List V},RepA K H ds vs->RepA K H' ds vs
 | [],vs,h=>by simp only [RepA] at h ⊢; exact h
 | d :: ds,vs,h=>by
  simp only [RepA] at h ⊢
  obtain ⟨v,r,e,h1,h2⟩:=h
  exact ⟨v,r,e,RepD.keep k h1,RepA.keep k h2⟩
theorem RepK.keep {K:PySem.W.Frag}{H H':Hp}(k:Kp H H'):∀ {ds:List (PyData×PyData)} {l:List (Key×V)},RepK K H ds l->RepK K H' ds l
 | [],l,h=>by simp only [RepK] at h ⊢; exact h
 | (key,d) :: ds,l,h=>by
  simp only [RepK] at h ⊢
  obtain ⟨k',v,r,e,ek,h1,h2⟩:=h
  exact ⟨k',v,r,e,ek,RepD.keep k h1,RepK.keep k h2⟩
end
theorem RepA.length {K:PySem.W.Frag}{H:Hp}:∀ {ds:List PyData} {vs:List V},RepA K H ds vs->vs.length=ds.length
 | [],vs,h=>by simp only [RepA] at h; rw [h]; rfl
 | d :: ds,vs,h=>by
  simp only [RepA] at h
  obtain ⟨v,r,e,_,h2⟩:=h
  rw [e,List.length_cons,List.length_cons,RepA.length h2]
theorem RepA.get {K:PySem.W.Frag}{H:Hp}:∀ {ds:List PyData} {vs:List V} {i:Nat} {d:PyData},RepA K H ds vs->ds[i]? = some d->∃ v,vs[i]? = some v/\RepD K H d v
 | [],_,_,_,_,e=>by simp at e
 | d :: ds,vs,0,d',h,e=>by
  simp only [RepA] at h
  obtain ⟨v,r,ev,h1,_⟩:=h
  simp at e
  subst e
  exact ⟨v,by rw [ev]; rfl,h1⟩
 | d :: ds,vs,i+1,d',h,e=>by
  simp only [RepA] at h
  obtain ⟨v,r,ev,_,h2⟩:=h
  obtain ⟨v',e1,e2⟩:=RepA.get (i:=i) h2 (by simpa using e)
  exact ⟨v',by rw [ev]; simpa using e1,e2⟩
theorem RepA.get' {K:PySem.W.Frag}{H:Hp}{ds:List PyData}{vs:List V}{i:Nat}{v:V}(h:RepA K H ds vs)(e:vs[i]? = some v):∃ d,ds[i]? = some d/\RepD K H d v:=by
 have hi:i < ds.length:=by
  have:=(List.getElem?_eq_some_iff.mp e).1
  rw [h.length] at this
  exact this
 obtain ⟨v',e1,r⟩:=h.get (i:=i) (d:=ds[i]) (by simp [hi])
 rw [e] at e1
 cases e1
 exact ⟨ds[i],by simp [hi],r⟩
theorem RepA.ints {K:PySem.W.Frag}{H:Hp}:∀ (ns:List Int),RepA K H (ns.map PyData.int) (ns.map V.int)
 | []=>by simp [RepA]
 | n :: ns=>by
  simp only [List.map_cons,RepA]
  exact ⟨_,_,rfl,by simp [RepD],RepA.ints ns⟩
theorem RepA.append {K:PySem.W.Frag}{H:Hp}:∀ {ds es:List PyData} {vs us:List V},RepA K H ds vs->RepA K H es us->RepA K H (ds++es) (vs++us)
 | [],es,vs,us,h,q=>by simp only [RepA] at h; subst h; exact q
 | d :: ds,es,vs,us,h,q=>by
  simp only [RepA] at h
  obtain ⟨v,r,e,h1,h2⟩:=h
  subst e
  simp only [List.cons_append,RepA]
  exact ⟨v,r++us,rfl,h1,RepA.append h2 q⟩
theorem RepA.drop {K:PySem.W.Frag}{H:Hp}:∀ {ds:List PyData} {vs:List V} (n:Nat),RepA K H ds vs->RepA K H (ds.drop n) (vs.drop n)
 | ds,vs,0,h=>by simpa using h
 | [],vs,n+1,h=>by simp only [RepA] at h; subst h; simp [RepA]
 | d :: ds,vs,n+1,h=>by
  simp only [RepA] at h
  obtain ⟨v,r,e,_,h2⟩:=h
  subst e
  simpa using RepA.drop n h2
theorem RepA.take {K:PySem.W.Frag}{H:Hp}:∀ {ds:List PyData} {vs:List V} (n:Nat),RepA K H ds vs->RepA K H (ds.take n) (vs.take n)
 | ds,vs,0,h=>by simp [RepA]
 | [],vs,n+1,h=>by simp only [RepA] at h; subst h; simp [RepA]
 | d :: ds,vs,n+1,h=>by
  simp only [RepA] at h
  obtain ⟨v,r,e,h1,h2⟩:=h
  subst e
  simp only [List.take_succ_cons,RepA]
  exact ⟨v,_,rfl,h1,RepA.take n h2⟩
inductive W where
 | d (x:PyData)
 | m (a:Addr)
 | t (n:String)
inductive MO where
 | lst (ws:List W)
 | dic (kvs:List (Key×W))
 | dct (kvs:List (List Key×W))
 | fdic (kvs:List (Key×W))
 | ins (C:Addr) (fs:List (Str×W))
 | tup (ws:List W)
 | flst (ws:List W)
 | exc (C:Addr) (fs:List (Str×W))
 | code (q:Str) (pos:Pos)
noncomputable abbrev MH:=Addr->Option MO
noncomputable def updM (M:MH)(a:Addr)(o:MO):MH:=λ b=>if b=a then some o else M b
theorem updM_same {M:MH}{a:Addr}{o:MO}:updM M a o a=some o:=if_pos rfl
theorem updM_ne {M:MH}{a b:Addr}{o:MO}(h:b≠a):updM M a o b=M b:=if_neg h
noncomputable abbrev DS:=List (Option W)
noncomputable def RepW (K:PySem.W.Frag)(H:Hp):W->V->Prop
 | .d x,v=>RepD K H x v
 | .m a,v=>v=.ref a
 | .t n,v=>v=.ty n
theorem RepW.keep {K:PySem.W.Frag}{H H':Hp}(k:Kp H H'):∀ {w:W} {v:V},RepW K H w v->RepW K H' w v
 | .d _,_,h=>RepD.keep k h
 | .m _,_,h=>h
 | .t _,_,h=>h
noncomputable def RepWs (K:PySem.W.Frag)(H:Hp):List W->List V->Prop:=Paired (RepW K H)
theorem RepWs.keep {K:PySem.W.Frag}{H H':Hp}(k:Kp H H'){ws:List W}{vs:List V}(h:RepWs K H ws vs):RepWs K H' ws vs:=Paired.mapP h λ _ _ r=>r.keep k
theorem RepWs.length {K:PySem.W.Frag}{H:Hp}{ws:List W}{vs:List V}(h:RepWs K H ws vs):ws.length=vs.length:=Paired.length h
theorem RepWs.get {K:PySem.W.Frag}{H:Hp}:∀ {ws:List W} {vs:List V} {i:Nat} {w:W},RepWs K H ws vs->ws[i]? = some w->∃ v,vs[i]? = some v/\RepW K H w v
 | _,_,_,_,.nil,e=>by simp at e
 | _,_,0,_,.cons r _,e=>by simp at e; subst e; exact ⟨_,rfl,r⟩
 | _,_,i+1,_,.cons _ t,e=>by
  obtain ⟨u,h1,h2⟩:=RepWs.get (i:=i) t (by simpa using e)
  exact ⟨u,by simpa using h1,h2⟩
theorem RepWs.set {K:PySem.W.Frag}{H:Hp}{w:W}{v:V}(r:RepW K H w v):∀ {ws:List W} {vs:List V} (i:Nat),RepWs K H ws vs->RepWs K H (ws.set i w) (vs.set i v)
 | _,_,_,.nil=>.nil
 | _,_,0,.cons _ t=>.cons r t
 | _,_,i+1,.cons q t=>.cons q (RepWs.set r i t)
theorem RepWs.append {K:PySem.W.Frag}{H:Hp}:∀ {ws ws':List W} {vs vs':List V},RepWs K H ws vs->RepWs K H ws' vs'->RepWs K H (ws++ws') (vs++vs')
 | _,_,_,_,.nil,s=>s
 | _,_,_,_,.cons r t,s=>.cons r (RepWs.append t s)
theorem RepWs.data {K:PySem.W.Frag}{H:Hp}:∀ {ds:List PyData} {vs:List V},RepWs K H (ds.map W.d) vs->RepA K H ds vs
 | [],_,h=>by cases h; simp [RepA]
 | d :: ds,_,h=>by
  cases h with
  | cons r t=>simp only [RepA]; exact ⟨_,_,rfl,r,RepWs.data t⟩
theorem RepA.ws {K:PySem.W.Frag}{H:Hp}:∀ {ds:List PyData} {vs:List V},RepA K H ds vs->RepWs K H (ds.map W.d) vs
 | [],vs,h=>by simp only [RepA] at h; subst h; exact .nil
 | d :: ds,vs,h=>by
  simp only [RepA] at h
  obtain ⟨v,r,e,h1,h2⟩:=h
  subst e
  exact .cons h1 (RepA.ws h2)
noncomputable def RepM (K:PySem.W.Frag)(H:Hp)(a:Addr):MO->Prop
 | .lst ws=>∃ vs,H a=some (.lst vs)/\RepWs K H ws vs
 | .dic kvs=>∃ l,H a=some (.dK l)/\Paired (λ (p:Key×W) (q:Key×V)=>p.1=q.1/\RepW K H p.2 q.2) kvs l
 | .fdic kvs=>∃ o l,H a=some (.frz o (.frz o (.dK l)))/\Paired (λ (p:Key×W) (q:Key×V)=>p.1=q.1/\RepW K H p.2 q.2) kvs l
 | .dct kvs=>∃ l,H a=some (.dT l)/\Paired (λ (p:List Key×W) (q:List Key×V)=>p.1=q.1/\RepW K H p.2 q.2) kvs l
 | .ins C fs=>∃ dx l,H a=some (.ins C dx l)/\Paired (λ (p:Str×W) (q:Str×V)=>p.1=q.1/\RepW K H p.2 q.2) fs l
 | .tup ws=>∃ vs,H a=some (.tup vs)/\RepWs K H ws vs
 | .flst ws=>∃ o vs,H a=some (.frz o (.frz o (.lst vs)))/\RepWs K H ws vs
 | .exc C fs=>∃ φ dct,H a=some (.ext φ)/\(∀ h,φ h->∃ vs,h.get? a=some { cls:=.ref C,dict:=dct,data:=.fields vs }) /\
   ((dct=none/\fs=[])\/∃ dx o l,dct=some dx/\H dx=some (.frz o (.xd l))/\Paired (λ (p:Str×W) (q:Str×V)=>p.1=q.1/\RepW K H p.2 q.2) fs l)
 | .code q pos=>∃ ps,H a=some (.tbl ps)/\TriplesOk ps.toList/\(codeAmong pos ps.toList=none\/∃ c o vs t,codeAmong pos ps.toList=some (.ref c)/\H c=some (.frz o (.own 0))/\o.data=.fields vs/\vs[1]? = some (.str q t))
noncomputable def MAbs (K:PySem.W.Frag)(H:Hp)(M:MH):Prop:=∀ a o,M a=some o->RepM K H a o
theorem RepM.is {K:PySem.W.Frag}{H:Hp}{a:Addr}{o:MO}(h:RepM K H a o):∃ u,H a=some u:=by
 cases o with
 | lst ws=>obtain ⟨vs,e,_⟩:=h; exact ⟨_,e⟩
 | dic kvs=>obtain ⟨l,e,_⟩:=h; exact ⟨_,e⟩
 | dct kvs=>obtain ⟨l,e,_⟩:=h; exact ⟨_,e⟩
 | fdic kvs=>obtain ⟨o,l,e,_⟩:=h; exact ⟨_,e⟩
 | ins C fs=>obtain ⟨dx,l,e,_⟩:=h; exact ⟨_,e⟩
 | tup ws=>obtain ⟨vs,e,_⟩:=h; exact ⟨_,e⟩
 | flst ws=>obtain ⟨o,vs,e,_⟩:=h; exact ⟨_,e⟩
 | exc C fs=>obtain ⟨φ,dct,e,_⟩:=h; exact ⟨_,e⟩
 | code q pos=>obtain ⟨ps,e,_⟩:=h; exact ⟨_,e⟩
theorem MAbs.free {K:PySem.W.Frag}{H:Hp}{M:MH}(h:MAbs K H M){p:Addr}(e:H p=none):M p=none:=by
 cases q:M p with
 | none=>rfl
 | some o =>
  obtain ⟨u,z⟩:=(h p o q).is
  rw [e] at z
  cases z
theorem RepM.keep {K:PySem.W.Frag}{H H':Hp}{a:Addr}{o:MO}(k:Kp H H')(s:∀ u,H a=some u->H' a=some u)(h:RepM K H a o):RepM K H' a o:=by
 cases o with
 | lst ws=>obtain ⟨vs,e,r⟩:=h; exact ⟨vs,s _ e,r.keep k⟩
 | dic kvs=>obtain ⟨l,e,r⟩:=h; exact ⟨l,s _ e,Paired.mapP r λ p q z=>⟨z.1,z.2.keep k⟩⟩
 | dct kvs=>obtain ⟨l,e,r⟩:=h; exact ⟨l,s _ e,Paired.mapP r λ p q z=>⟨z.1,z.2.keep k⟩⟩
 | fdic kvs=>obtain ⟨o,l,e,r⟩:=h; exact ⟨o,l,s _ e,Paired.mapP r λ p q z=>⟨z.1,z.2.keep k⟩⟩
 | ins C fs=>obtain ⟨dx,l,e,r⟩:=h; exact ⟨dx,l,s _ e,Paired.mapP r λ p q z=>⟨z.1,z.2.keep k⟩⟩
 | tup ws=>obtain ⟨vs,e,r⟩:=h; exact ⟨vs,s _ e,r.keep k⟩
 | flst ws=>obtain ⟨o,vs,e,r⟩:=h; exact ⟨o,vs,s _ e,r.keep k⟩
 | exc C fs =>
  obtain ⟨φ,dct,e,p,r⟩:=h
  refine ⟨φ,dct,s _ e,p,?_⟩
  rcases r with r | ⟨dx,o,l,e1,e2,r⟩
  ·exact .inl r
  ·exact .inr ⟨dx,o,l,e1,k.frz _ _ _ e2,Paired.mapP r λ p q z=>⟨z.1,z.2.keep k⟩⟩
 | code q pos =>
  obtain ⟨ps,e,ht,hc⟩:=h
  refine ⟨ps,s _ e,ht,?_⟩
  rcases hc with hc | ⟨c,o,vs,t,e1,e2,e3⟩
  ·exact .inl hc
  ·exact .inr ⟨c,o,vs,t,e1,k.frz _ _ _ e2,e3⟩
theorem MAbs.new {K:PySem.W.Frag}{H:Hp}{M:MH}{p:Addr}{o:HO}(h:MAbs K H M)(e:H p=none):MAbs K (upd H p o) M:=λ a mo q =>
 (h a mo q).keep (Kp.new e) λ u z=>by rw [upd_ne (ne_of_none z e)]; exact z
theorem MAbs.put {K:PySem.W.Frag}{H:Hp}{M:MH}{p:Addr}{o:HO}{mo:MO}(h:MAbs K H M)(k:Kp H (upd H p o))(r:RepM K (upd H p o) p mo):MAbs K (upd H p o) (updM M p mo):=λ a mo' q=>by
 by_cases e:a=p
 ·subst e
  rw [updM_same] at q
  cases q
  exact r
 ·rw [updM_ne e] at q
  exact (h a mo' q).keep k λ u z=>by rw [upd_ne e]; exact z
structure Abs (K:PySem.W.Frag)(H:Hp)(σ:St)(τ:DS)(M:MH):Prop where
 len:σ.length=τ.length
 val:∀ (i:Nat) w,τ[i]? = some (some w)->∃ v,σ[i]? = some (some v)/\RepW K H w v
 mem:MAbs K H M
theorem Abs.go {K:PySem.W.Frag}{H H':Hp}{σ:St}{τ:DS}{M M':MH}(h:Abs K H σ τ M)(k:Kp H H')(m:MAbs K H' M'):Abs K H' σ τ M' :=
 ⟨h.len,λ i w e=>let ⟨v,q,r⟩:=h.val i w e; ⟨v,q,r.keep k⟩,m⟩
theorem Abs.set {K:PySem.W.Frag}{H:Hp}{σ:St}{τ:DS}{M:MH}{w:W}{v:V}(h:Abs K H σ τ M)(i:Nat)(r:RepW K H w v):Abs K H (σ.set i (some v)) (τ.set i (some w)) M:=by
 refine ⟨by rw [List.length_set,List.length_set]; exact h.len,λ j w' e=>?_,h.mem⟩
 by_cases hj:i=j
 ·subst hj
  have hl:i < τ.length:=by
   have:=(List.getElem?_eq_some_iff.mp e).1
   rwa [List.length_set] at this
  rw [List.getElem?_set_self hl] at e
  cases e
  exact ⟨v,List.getElem?_set_self (by rw [h.len]; exact hl),r⟩
 ·rw [List.getElem?_set_ne hj] at e
  obtain ⟨v',q,r'⟩:=h.val j w' e
  exact ⟨v',by rw [List.getElem?_set_ne hj]; exact q,r'⟩
noncomputable abbrev QD:=W->MH->Prop
noncomputable abbrev TD:=DS->MH->QD->Prop
noncomputable abbrev TTd:=DS->MH->(Bool->MH->Prop)->Prop
noncomputable abbrev TAd:=DS->MH->(List W->MH->Prop)->Prop
structure Ed where
 nx:DS->MH->Prop
 rt:QD
 bk:DS->MH->Prop:=λ _ _=>False
 ct:DS->MH->Prop:=λ _ _=>False
noncomputable abbrev TSd:=Ed->DS->MH->Prop
noncomputable def up (K:PySem.W.Frag)(t:TD):TE:=λ σ H Q=>∃ τ M Qd,Abs K H σ τ M/\t τ M Qd/\∀ v H' w M',Kp H H'->RepW K H' w v->MAbs K H' M'->Qd w M'->Q v H'
noncomputable def upT (K:PySem.W.Frag)(t:TTd):TT:=λ σ H Q=>∃ τ M Qd,Abs K H σ τ M/\t τ M Qd/\∀ b H' M',Kp H H'->MAbs K H' M'->Qd b M'->Q b H'
noncomputable def upA (K:PySem.W.Frag)(t:TAd):TA:=λ σ H Q=>∃ τ M Qd,Abs K H σ τ M/\t τ M Qd/\∀ vs H' ws M',Kp H H'->RepWs K H' ws vs->MAbs K H' M'->Qd ws M'->Q vs H'
noncomputable def upS (K:PySem.W.Frag)(t:TSd):TS:=λ D σ H=>∃ τ M Dd,Abs K H σ τ M/\t Dd τ M /\
 (∀ σ' H' τ' M',Kp H H'->Abs K H' σ' τ' M'->Dd.nx τ' M'->D.nx σ' H')/\(∀ v H' w M',Kp H H'->RepW K H' w v->MAbs K H' M'->Dd.rt w M'->D.rt v H') /\
 (∀ σ' H' τ' M',Kp H H'->Abs K H' σ' τ' M'->Dd.bk τ' M'->D.bk σ' H')/\(∀ σ' H' τ' M',Kp H H'->Abs K H' σ' τ' M'->Dd.ct τ' M'->D.ct σ' H')
section
variable {X:Cx}
noncomputable abbrev PD (X:Cx)(e:Expr)(t:TD):Prop:=PE X e (up X.K t)
noncomputable abbrev PTd (X:Cx)(e:Expr)(t:TTd):Prop:=PT X e (upT X.K t)
noncomputable abbrev PAd (X:Cx)(es:List Expr)(t:TAd):Prop:=PA X es (upA X.K t)
noncomputable abbrev PSd (X:Cx)(st:Stmt)(t:TSd):Prop:=PS X st (upS X.K t)
noncomputable abbrev PSsd (X:Cx)(st:List Stmt)(t:TSd):Prop:=PSs X st (upS X.K t)
theorem pe_w {e:Expr}{t t':TE}(h:PE X e t)(k:∀ σ H Q,t' σ H Q->t σ H Q):PE X e t':=λ pins s σ H Q I q=>h pins s σ H Q I (k σ H Q q)
theorem pt_w {e:Expr}{t t':TT}(h:PT X e t)(k:∀ σ H Q,t' σ H Q->t σ H Q):PT X e t':=λ pins s σ H Q I q=>h pins s σ H Q I (k σ H Q q)
theorem pa_w {es:List Expr}{t t':TA}(h:PA X es t)(k:∀ σ H Q,t' σ H Q->t σ H Q):PA X es t':=λ pos pins s σ H Q I q=>h pos pins s σ H Q I (k σ H Q q)
theorem ps_w {st:Stmt}{t t':TS}(h:PS X st t)(k:∀ D σ H,t' D σ H->t D σ H):PS X st t':=λ pins s σ H D I q=>h pins s σ H D I (k D σ H q)
theorem pss_w {st:List Stmt}{t t':TS}(h:PSs X st t)(k:∀ D σ H,t' D σ H->t D σ H):PSs X st t':=λ pins s σ H D I q=>h pins s σ H D I (k D σ H q)
end
end D
namespace D
open PySem PySem.Spec PyProof.Rows L2
section
variable {X:Cx}{pos:Pos}{a b c e:Expr}{ta tb tc te:TD}{K:PySem.W.Frag}
noncomputable abbrev Kont (K:PySem.W.Frag)(H:Hp)(Qd:QD)(Q:VK):Prop:=∀ v H' w M',Kp H H'->RepW K H' w v->MAbs K H' M'->Qd w M'->Q v H'
theorem kgo {H H1:Hp}{Qd:QD}{Q:VK}(k:Kont K H Qd Q)(kp:Kp H H1):Kont K H1 Qd Q:=λ v H' w M' k2 r m q=>k v H' w M' (kp.trans k2) r m q
inductive DVar (i:Nat) (τ:DS) (M:MH) (Q:QD):Prop
 | mk (w:W) (z:τ[i]? = some (some w)) (q:Q w M):DVar i τ M Q
noncomputable def dVar (i:Nat)(τ:DS)(M:MH)(Q:QD):Prop:=DVar i τ M Q
theorem pd_var {i:Nat}(h:PE X e (tVar i)):PD X e (dVar i):=pe_w h λ σ H Q hq25=>by
 obtain ⟨τ,M,Qd,A,⟨w,e,q⟩,k⟩:=hq25
 obtain ⟨v,e',r⟩:=A.val i w e
 exact ⟨v,e',k v H w M (Kp.refl H) r A.mem q⟩
theorem dv (i:Nat){x:Str}{pos:Pos}(hN:X.N[i]? = some x:=by rfl)(hv:Vis X.env.scope x:=by first | exact Or.inl rfl | exact Or.inr (Or.inl rfl) | exact Or.inr (Or.inr rfl))(hd:(x == ("__debug__" : Str))=false:=by decide)
  (hcd:(x == ("__classdict__" : Str))=false:=by decide):PD X (.Name x pos) (dVar i):=pd_var (pe_var hN hv hd hcd)
noncomputable def dC (w:W)(_:DS)(M:MH)(Q:QD):Prop:=Q w M
theorem pd_c {v:V}{w:W}(h:PE X e (tC v))(r:∀ H,RepW X.K H w v):PD X e (dC w):=pe_w h λ σ H Q ⟨τ,M,Qd,A,q,k⟩=>k v H w M (Kp.refl H) (r H) A.mem q
theorem pd_int {i j pos}:PD X (.Constant (.int i) j pos) (dC (.d (.int i))):=pd_c pe_int λ H=>by simp [RepW,RepD]
theorem pd_bl {b j pos}:PD X (.Constant (.bool b) j pos) (dC (.d (.bool b))):=pd_c pe_bl λ H=>by simp [RepW,RepD]
theorem pd_non {j pos}:PD X (.Constant .none j pos) (dC (.d .none)):=pd_c pe_non λ H=>by simp [RepW,RepD]
theorem pd_str {x j pos}:PD X (.Constant (.str x) j pos) (dC (.d (.str x))):=pd_c pe_str λ H=>by simp [RepW,RepD]
noncomputable def OpD (K:PySem.W.Frag)(r:R2)(rd:W->W->MH->QD->Prop):Prop:=∀ x y H w w' M Qd Q,RepW K H w x->RepW K H w' y->MAbs K H M->rd w w' M Qd->Kont K H Qd Q->r x y H Q
noncomputable def dOp (rd:W->W->MH->QD->Prop)(ta tb:TD)(τ:DS)(M:MH)(Q:QD):Prop:=ta τ M λ w M1=>tb τ M1 λ w' M2=>rd w w' M2 Q
theorem imp_op {r:R2}{rd:W->W->MH->QD->Prop}(hd:OpD K r rd){σ:St}{H:Hp}{Q:VK}(h:up K (dOp rd ta tb) σ H Q):tOp r (up K ta) (up K tb) σ H Q:=by
 obtain ⟨τ,M,Qd,A,h,k⟩:=h
 refine ⟨τ,M,_,A,h,λ x H1 w M1 kp r1 m1 q1=>⟨τ,M1,_,A.go kp m1,q1,λ y H2 w' M2 kp2 r2 m2 q2=>?_⟩⟩
 exact hd x y H2 w w' M2 Qd Q (r1.keep kp2) r2 m2 q2 (kgo k (kp.trans kp2))
theorem pd_op {op:Operator}{r:R2}{rd:W->W->MH->QD->Prop}(ho:OpR X (binaryOp op) r)(hd:OpD X.K r rd)(ha:PD X a ta)(hb:PD X b tb):PD X (.BinOp a op b pos) (dOp rd ta tb):=pe_w (pe_op ho ha hb) λ σ H Q h=>imp_op hd h
theorem pd_cmp {op:CmpOp}{r:R2}{rd:W->W->MH->QD->Prop}(ho:OpR X (compareOp op) r)(hd:OpD X.K r rd)(ha:PD X a ta)(hb:PD X b tb)(hm:behindInMarks op b=false:=by first | exact nobehind _ (by decide) (by decide) | rfl) :
  PD X (.Compare a [op] [b] pos) (dOp rd ta tb):=pe_w (pe_cmpR ho ha hb hm) λ σ H Q h=>imp_op hd h
theorem pd_ix {r:R2}{rd:W->W->MH->QD->Prop}(hr:IxR X r)(hd:OpD X.K r rd)(ha:PD X a ta)(hb:PD X b tb)(hs:PlainIx b:=by intro _ _; rfl):PD X (.Subscript a b pos) (dOp rd ta tb):=pe_w (pe_ix hr ha hb hs) λ σ H Q h=>imp_op hd h
noncomputable def dTest (t:TD)(τ:DS)(M:MH)(Q:Bool->MH->Prop):Prop:=t τ M λ w M1=>∃ k,w=.d (.bool k)/\Q k M1
theorem imp_test {t':TE}(hi:∀ σ H Q,up K ta σ H Q->t' σ H Q){σ:St}{H:Hp}{Q:Bool->Hp->Prop}(h:upT K (dTest ta) σ H Q):tTest t' σ H Q:=by
 obtain ⟨τ,M,Qd,A,h,k⟩:=h
 refine hi σ H _ ⟨τ,M,_,A,h,λ v H' w M' kp r m hq26=>?_⟩
 obtain ⟨b,e,q⟩:=hq26
 subst e
 simp only [RepW,RepD] at r
 exact ⟨b,r,k b H' M' kp m q⟩
theorem ptd_cmp {op:CmpOp}{r:R2}{rd:W->W->MH->QD->Prop}(ho:OpR X (compareOp op) r)(hd:OpD X.K r rd)(ha:PD X a ta)(hb:PD X b tb)(hm:behindInMarks op b=false:=by first | exact nobehind _ (by decide) (by decide) | rfl) :
  PTd X (.Compare a [op] [b] pos) (dTest (dOp rd ta tb)):=pt_w (pt_cmpR ho ha hb hm) λ σ H Q h=>imp_test (λ _ _ _ q=>imp_op hd q) h
noncomputable def UnD (K:PySem.W.Frag)(r:V->Hp->VK->Prop)(rd:W->MH->QD->Prop):Prop:=∀ x H w M Qd Q,RepW K H w x->MAbs K H M->rd w M Qd->Kont K H Qd Q->r x H Q
noncomputable def dUn (rd:W->MH->QD->Prop)(ta:TD)(τ:DS)(M:MH)(Q:QD):Prop:=ta τ M λ w M1=>rd w M1 Q
theorem pd_un {op:UnaryOp}{r:V->Hp->VK->Prop}{rd:W->MH->QD->Prop}(ho:UnR X (unaryOp op) r)(hd:UnD X.K r rd)(ha:PD X a ta):PD X (.UnaryOp op a pos) (dUn rd ta):=pe_w (pe_un ho ha) λ σ H Q h=>by
 obtain ⟨τ,M,Qd,A,h,k⟩:=h
 exact ⟨τ,M,_,A,h,λ x H1 w M1 kp r1 m1 q1=>hd x H1 w M1 Qd Q r1 m1 q1 (kgo k kp)⟩
variable {tA tB:TTd}{rest:List Expr}
variable {es:List Expr}{t:TAd}
noncomputable def dNil (_:DS)(M:MH)(Q:List W->MH->Prop):Prop:=Q [] M
noncomputable def dCons (ta:TD)(tr:TAd)(τ:DS)(M:MH)(Q:List W->MH->Prop):Prop:=ta τ M λ w M1=>tr τ M1 λ ws M2=>Q (w :: ws) M2
theorem pad_nil:PAd X [] dNil:=pa_w pa_nil λ σ H Q ⟨τ,M,Qd,A,h,k⟩=>k [] H [] M (Kp.refl H) .nil A.mem h
theorem pad_cons (ha:PD X e te)(hr:PAd X es t)(hs:starEach (e :: es) X.env=(false,eval e X.env) :: starEach es X.env:=by rfl):PAd X (e :: es) (dCons te t):=pa_w (pa_cons ha hr hs) λ σ H Q h=>by
 obtain ⟨τ,M,Qd,A,h,k⟩:=h
 exact ⟨τ,M,_,A,h,λ x H1 w M1 kp r1 m1 q1=>⟨τ,M1,_,A.go kp m1,q1,λ xs H2 ws M2 kp2 r2 m2 q2=>k _ H2 _ M2 (kp.trans kp2) (.cons (r1.keep kp2) r2) m2 q2⟩⟩
noncomputable def datas:List W->Option (List PyData)
 | []=>some []
 | .d x :: r=>(datas r).map (x :: ·)
 | _ :: _=>none
theorem datas_eq:∀ {ws:List W} {ds:List PyData},datas ws=some ds->ws=ds.map W.d
 | [],ds,h=>by simp only [datas] at h; cases h; rfl
 | .d x :: r,ds,h=>by
  simp only [datas] at h
  cases q:datas r with
  | none=>rw [q] at h; cases h
  | some l=>rw [q] at h; cases h; rw [datas_eq q]; rfl
 | .m _ :: _,ds,h=>by simp [datas] at h
 | .t _ :: _,ds,h=>by simp [datas] at h
noncomputable def dLst (t:TAd)(τ:DS)(M:MH)(Q:QD):Prop:=t τ M λ ws M1=>∃ ds,datas ws=some ds/\ds.length<=sizeLine/\Q (.d (.list ds)) M1
theorem frz_new {H:Hp}{p:Addr}{o:Obj}{vs:List V}{ds:List PyData}(hp:H p=none)(r:RepA K H ds vs):RepD K (upd H p (.frz o (.lst vs))) (.list ds) (.ref p):=by
 simp only [RepD]
 exact ⟨p,vs,rfl,.inl ⟨o,upd_same⟩,r.keep (Kp.new hp)⟩
theorem imp_frz {H:Hp}{vs:List V}{ds:List PyData}{M:MH}{Qd:QD}{Q:VK}{p:Addr}(hp:H p=none)(r:RepA K H ds vs)(m:MAbs K H M)(q:Qd (.d (.list ds)) M)(k:Kont K H Qd Q) :
  ∃ p' u,V.ref p=.ref p'/\(upd H p (.lst vs)) p'=some u/\Fz u/\∀ o,Q (.ref p) (upd (upd H p (.lst vs)) p' (.frz o u)):=by
 refine ⟨p,_,rfl,upd_same,trivial,λ o=>?_⟩
 rw [upd_upd]
 exact k _ _ (.d (.list ds)) M (Kp.new hp) (frz_new hp r) (m.new hp) q
theorem pd_lst (h:PAd X es t):PD X (.List es pos) (dLst t):=pe_w (pe_frz (pe_lst h)) λ σ H Q h=>by
 obtain ⟨τ,M,Qd,A,h,k⟩:=h
 refine ⟨τ,M,_,A,h,λ vs H1 ws M1 kp r1 m1 hq27=>?_⟩
 obtain ⟨ds,e,hz,q1⟩:=hq27
 have e':=datas_eq e
 subst e'
 have rA:=r1.data
 exact ⟨by rw [rA.length]; exact hz,λ p hp=>imp_frz hp rA m1 q1 (kgo k kp)⟩
noncomputable def dLstM (t:TAd)(τ:DS)(M:MH)(Q:QD):Prop:=t τ M λ ws M1=>ws.length<=sizeLine/\∀ p,M1 p=none->Q (.m p) (updM M1 p (.lst ws))
theorem pd_lstM (h:PAd X es t):PD X (.List es pos) (dLstM t):=pe_w (pe_lst h) λ σ H Q h=>by
 obtain ⟨τ,M,Qd,A,h,k⟩:=h
 refine ⟨τ,M,_,A,h,λ vs H1 ws M1 kp r1 m1 ⟨hz,q1⟩=>⟨by rw [<- r1.length]; exact hz,λ p hp=>?_⟩⟩
 exact k _ _ (.m p) (updM M1 p (.lst ws)) (kp.trans (Kp.new hp)) rfl (m1.put (mo:=.lst ws) (Kp.new hp) ⟨vs,upd_same,r1.keep (Kp.new hp)⟩) (q1 p (m1.free hp))
noncomputable def dTup (t:TAd)(τ:DS)(M:MH)(Q:QD):Prop:=t τ M λ ws M1=>∃ ds,datas ws=some ds/\ds.length<=sizeLine/\Q (.d (.tuple ds)) M1
theorem pd_tup {x1}(h:PAd X es t):PD X (.Tuple es x1 pos) (dTup t):=pe_w (pe_tup h) λ σ H Q h=>by
 obtain ⟨τ,M,Qd,A,h,k⟩:=h
 refine ⟨τ,M,_,A,h,λ vs H1 ws M1 kp r1 m1 hq28=>?_⟩
 obtain ⟨ds,e,hz,q1⟩:=hq28
 have e':=datas_eq e
 subst e'
 have rA:=r1.data
 refine ⟨by rw [rA.length]; exact hz,λ p hp=>k _ _ (.d (.tuple ds)) M1 (kp.trans (Kp.new hp)) ?_ (m1.new hp) q1⟩
 simp only [RepW,RepD]
 exact ⟨p,vs,rfl,.inl (.inl upd_same),rA.keep (Kp.new hp)⟩
variable {x:Str}{p:Pos}{id T:String}{r:List V->Hp->VK->Prop}{rd:List W->MH->QD->Prop}
noncomputable def CallD (K:PySem.W.Frag)(r:List V->Hp->VK->Prop)(rd:List W->MH->QD->Prop):Prop:=∀ vs H ws M Qd Q,RepWs K H ws vs->MAbs K H M->rd ws M Qd->Kont K H Qd Q->r vs H Q
noncomputable def dCB (rd:List W->MH->QD->Prop)(t:TAd)(τ:DS)(M:MH)(Q:QD):Prop:=t τ M λ ws M1=>rd ws M1 Q
theorem imp_cb (hd:CallD K r rd){σ:St}{H:Hp}{Q:VK}(h:up K (dCB rd t) σ H Q):tCB r (upA K t) σ H Q:=by
 obtain ⟨τ,M,Qd,A,h,k⟩:=h
 exact ⟨τ,M,_,A,h,λ vs H1 ws M1 kp r1 m1 q1=>hd vs H1 ws M1 Qd Q r1 m1 q1 (kgo k kp)⟩
theorem pd_callB (hc:CallR X (.builtin id) r)(hd:CallD X.K r rd)(hg:Gl X x)(hm:X.mg x=none)(hv:bootBuiltins x=some (.builtin id))(ha:PAd X (e :: es) t)(hn:x ≠ "__name__" := by decide)(hdb:(x == ("__debug__" : Str))=false:=by decide)
  (he:starEach (e :: es) X.env=(false,eval e X.env) :: starEach es X.env:=by rfl)(hpl:(backTo pos (starEach es X.env)).any (·.1)=false:=by rfl):PD X (.Call (.Name x p) (e :: es) [] pos) (dCB rd t) :=
 pe_w (pe_callB hc hg hm hv ha hn hdb he hpl) λ σ H Q h=>imp_cb hd h
theorem pd_callTy (hc:CallR X (.type T) r)(hd:CallD X.K r rd)(hg:Gl X x)(hm:X.mg x=none)(hv:bootBuiltins x=some (.type T))(ha:PAd X (e :: es) t)(hn:x ≠ "__name__" := by decide)(hdb:(x == ("__debug__" : Str))=false:=by decide)
  (he:starEach (e :: es) X.env=(false,eval e X.env) :: starEach es X.env:=by rfl)(hpl:(backTo pos (starEach es X.env)).any (·.1)=false:=by rfl):PD X (.Call (.Name x p) (e :: es) [] pos) (dCB rd t) :=
 pe_w (pe_callTy hc hg hm hv ha hn hdb he hpl) λ σ H Q h=>imp_cb hd h
end
section
variable {X:Cx}{pos:Pos}{st:Stmt}{sts:List Stmt}{t u:TSd}{e:Expr}{te:TD}{K:PySem.W.Frag}
noncomputable def dNext (D:Ed)(τ:DS)(M:MH):Prop:=D.nx τ M
noncomputable def dSeq (t u:TSd)(D:Ed)(τ:DS)(M:MH):Prop:=t { D with nx:=u D } τ M
theorem pssd_nil:PSsd X [] dNext:=pss_w pss_nil λ D σ H ⟨τ,M,Dd,A,h,k1,_⟩=>k1 σ H τ M (Kp.refl H) A h
theorem pssd_cons (h1:PSd X st t)(h2:PSsd X sts u):PSsd X (st :: sts) (dSeq t u):=pss_w (pss_cons h1 h2) λ D σ H ⟨τ,M,Dd,A,h,k1,k2,k3,k4⟩ =>
 ⟨τ,M,{ Dd with nx:=u Dd },A,h,λ σ' H' τ' M' kp A' q=>⟨τ',M',Dd,A',q,λ σ2 H2 τ2 M2 kp2=>k1 σ2 H2 τ2 M2 (kp.trans kp2),λ v H2 w M2 kp2=>k2 v H2 w M2 (kp.trans kp2),λ σ2 H2 τ2 M2 kp2=>k3 σ2 H2 τ2 M2 (kp.trans kp2),λ σ2 H2 τ2 M2 kp2=>k4 σ2 H2 τ2 M2 (kp.trans kp2)⟩,k2,k3,k4⟩
theorem pssd_one (h1:PSd X st t):PSsd X [st] t:=pss_one h1
noncomputable def dDrop (te:TD)(D:Ed)(τ:DS)(M:MH):Prop:=te τ M λ _ M1=>D.nx τ M1
theorem psd_expr (he:PD X e te)(hs:swapsWith e none pos.line X.env=pure false:=by rfl):PSd X (.Expr e pos) (dDrop te):=ps_w (ps_expr he hs) λ D σ H ⟨τ,M,Dd,A,h,k1,_⟩ =>
 ⟨τ,M,_,A,h,λ v H1 w M1 kp r m q=>k1 σ H1 τ M1 kp (A.go kp m) q⟩
noncomputable def dRet (te:TD)(D:Ed)(τ:DS)(M:MH):Prop:=te τ M D.rt
theorem psd_ret (he:PD X e te):PSd X (.Return (some e) pos) (dRet te):=ps_w (ps_ret he) λ D σ H ⟨τ,M,Dd,A,h,k1,k2,_⟩=>⟨τ,M,_,A,h,λ v H1 w M1 kp r m q=>k2 v H1 w M1 kp r m q⟩
noncomputable def dIf (c:TTd)(t u:TSd)(D:Ed)(τ:DS)(M:MH):Prop:=c τ M λ b M1=>if b=true then t D τ M1 else u D τ M1
theorem psd_if {c:Expr}{a b:List Stmt}{tc:TTd}(hc:PTd X c tc)(ha:PSsd X a t)(hb:PSsd X b u):PSd X (.If c a b pos) (dIf tc t u):=ps_w (ps_if hc ha hb) λ D σ H hq29=>by
 obtain ⟨τ,M,Dd,A,h,k1,k2,k3,k4⟩:=hq29
 refine ⟨τ,M,_,A,h,λ b H1 M1 kp m q=>?_⟩
 have go:∀ {t':TSd},t' Dd τ M1->upS X.K t' D σ H1:=λ {t'} q=>⟨τ,M1,Dd,A.go kp m,q,λ σ2 H2 τ2 M2 kp2=>k1 σ2 H2 τ2 M2 (kp.trans kp2),λ v H2 w M2 kp2=>k2 v H2 w M2 (kp.trans kp2),λ σ2 H2 τ2 M2 kp2=>k3 σ2 H2 τ2 M2 (kp.trans kp2),λ σ2 H2 τ2 M2 kp2=>k4 σ2 H2 τ2 M2 (kp.trans kp2)⟩
 cases b with
 | true=>rw [if_pos rfl] at q; show (if true=true then upS X.K t D σ H1 else upS X.K u D σ H1); rw [if_pos rfl]; exact go q
 | false=>rw [if_neg Bool.false_ne_true] at q; show (if false=true then upS X.K t D σ H1 else upS X.K u D σ H1); rw [if_neg Bool.false_ne_true]; exact go q
noncomputable abbrev TGd:=W->DS->MH->(DS->MH->Prop)->Prop
noncomputable def upG (K:PySem.W.Frag)(g:TGd):TG:=λ v σ H Q=>∃ w τ M Qd,RepW K H w v/\Abs K H σ τ M/\g w τ M Qd/\∀ σ' H' τ' M',Kp H H'->Abs K H' σ' τ' M'->Qd τ' M'->Q σ' H'
noncomputable abbrev PGd (X:Cx)(e:Expr)(g:TGd):Prop:=PG X e (upG X.K g)
theorem pg_w {e:Expr}{g g':TG}(h:PG X e g)(k:∀ v σ H Q,g' v σ H Q->g v σ H Q):PG X e g':=λ pins s σ H v u Q I r q=>h pins s σ H v u Q I r (k v σ H Q q)
noncomputable def gN (i:Nat)(w:W)(τ:DS)(M:MH)(Q:DS->MH->Prop):Prop:=Q (τ.set i (some w)) M
theorem pgd_name {i:Nat}{x:Str}(hN:X.N.Nodup)(hi:X.N[i]? = some x)(hx:Loc X.env.scope x)(hf:X.fn x=true\/X.env.scope.names.lookup x=some .local:=by first | exact .inl rfl | exact .inr rfl | assumption):PGd X (.Name x pos) (gN i) :=
 pg_w (pg_name hN hi hx hf) λ v σ H Q ⟨w,τ,M,Qd,r,A,h,k⟩=>k _ H _ M (Kp.refl H) (A.set i r) h
noncomputable def dAsg (te:TD)(g:TGd)(D:Ed)(τ:DS)(M:MH):Prop:=te τ M λ w M1=>g w τ M1 D.nx
theorem imp_asg {g:TGd}{D:Ends}{σ:St}{H:Hp}(h:upS K (dAsg te g) D σ H):tAsg (up K te) (upG K g) D σ H:=by
 obtain ⟨τ,M,Dd,A,h,k1,_⟩:=h
 exact ⟨τ,M,_,A,h,λ v H1 w M1 kp r m q=>⟨w,τ,M1,_,r,A.go kp m,q,λ σ2 H2 τ2 M2 kp2 A2 q2=>k1 σ2 H2 τ2 M2 (kp.trans kp2) A2 q2⟩⟩
theorem psd_asg {tg:Expr}{g:TGd}(he:PD X e te)(hg:PGd X tg g)(hs:swapsWithSole [tg] e pos.line X.env=pure false:=by rfl)(hw:swappedStores [tg] e X.env=pure none:=by rfl)
  (h1:(assignEach [tg] X.env).map (·.2)=[assign tg X.env]:=by rfl):PSd X (.Assign [tg] e pos) (dAsg te g):=ps_w (ps_asg he hg hs hw h1) λ D σ H h=>imp_asg h
theorem psd_set {i:Nat}{x:Str}{pos':Pos}(hN:X.N.Nodup)(hi:X.N[i]? = some x)(hx:Loc X.env.scope x)(he:PD X e te)(hs:swapsWith e (some (.Name x pos')) pos.line X.env=pure false:=by rfl)(hf:X.fn x=true\/X.env.scope.names.lookup x=some .local:=by first | exact .inl rfl | exact .inr rfl | assumption) :
  PSd X (.Assign [.Name x pos'] e pos) (dAsg te (gN i)):=ps_w (ps_set hN hi hx he hs hf) λ D σ H ⟨τ,M,Dd,A,h,k1,_⟩ =>
 ⟨τ,M,_,A,h,λ v H1 w M1 kp r m q=>k1 _ H1 _ M1 kp ((A.go kp m).set i r) q⟩
end
noncomputable abbrev SpD:=List W->MH->QD->Prop
noncomputable def upSp (K:PySem.W.Frag)(sp:SpD):Sp:=λ vs H Q _=>∃ ws M Qd,RepWs K H ws vs/\MAbs K H M/\sp ws M Qd/\Kont K H Qd Q
section
variable {X:Cx}{pos p:Pos}{k:Nat}{f:Addr}{fd:FuncData}{ps:List Str}{sp:SpD}{x:Str}{e:Expr}{es:List Expr}{t:TAd}
noncomputable def dCall (sp:SpD)(t:TAd)(τ:DS)(M:MH)(Q:QD):Prop:=t τ M λ ws M1=>sp ws M1 Q
theorem pd_call (F:FnOk X.prog X.w X.K X.mg X.base CX0 k f fd ps (upSp X.K sp))(hr:Room k X.A)(hg:Gl X x)(hm:X.mg x=some (.ref f))(hk:PySem.W.keepIn X.K (.ref f)=true)(hb:Binds X.K fd ps [])
  (ha:PAd X (e :: es) t)(hdb:(x == ("__debug__" : Str))=false:=by decide)(he:starEach (e :: es) X.env=(false,eval e X.env) :: starEach es X.env:=by rfl)(hpl:(backTo pos (starEach es X.env)).any (·.1)=false:=by rfl) :
  PD X (.Call (.Name x p) (e :: es) [] pos) (dCall sp t):=pe_w (pe_call (E:=E0) (dvs:=[]) F hr hg hm hk hb .nil pass0 ha hdb he hpl) λ σ H Q h=>by
 obtain ⟨τ,M,Qd,A,h,k⟩:=h
 exact ⟨τ,M,_,A,h,λ vs H1 ws M1 kp r1 m1 q1=>⟨ws,M1,Qd,by rw [List.append_nil]; exact r1,m1,q1,kgo k kp⟩⟩
theorem pd_call0 (F:FnOk X.prog X.w X.K X.mg X.base CX0 k f fd ps (upSp X.K sp))(hr:Room k X.A)(hg:Gl X x)(hm:X.mg x=some (.ref f))(hk:PySem.W.keepIn X.K (.ref f)=true)(hb:Binds X.K fd ps [])
  (hdb:(x == ("__debug__" : Str))=false:=by decide):PD X (.Call (.Name x p) [] [] pos) (dCall sp dNil):=pe_w (pe_call0 (E:=E0) (dvs:=[]) F hr hg hm hk hb .nil pass0 hdb) λ σ H Q h=>by
 obtain ⟨τ,M,Qd,A,h,k⟩:=h
 exact ⟨[],M,Qd,.nil,A.mem,h,k⟩
end
noncomputable def startD (N:List Str)(ws:List W):DS:=ws.map some++List.replicate (N.length - ws.length) none
section
variable {P:Program}{w:World}{K:PySem.W.Frag}{mg:Str->Option Value}{base:Heap}
theorem abs_start {H:Hp}{N:List Str}{ws:List W}{vs:List V}{M:MH}(r:RepWs K H ws vs)(m:MAbs K H M):Abs K H (start N vs) (startD N ws) M:=by
 have hl:=r.length
 refine ⟨?_,λ i w e=>?_,m⟩
 ·simp [L2.start,startD,hl]
 ·unfold startD at e
  by_cases hi:i < ws.length
  ·rw [List.getElem?_append_left (by simpa using hi),List.getElem?_map] at e
   cases q:ws[i]? with
   | none=>rw [q] at e; cases e
   | some w' =>
    rw [q] at e
    cases e
    obtain ⟨v,e1,r1⟩:=r.get q
    refine ⟨v,?_,r1⟩
    unfold L2.start
    rw [List.getElem?_append_left (by rw [List.length_map,<- hl]; exact hi),List.getElem?_map,e1]
    rfl
  ·rw [List.getElem?_append_right (by simpa using hi),List.getElem?_replicate] at e
   split at e <;> cases e
theorem fun_ok {x qual:Str}{st:Stmt}{f:Addr}{fd:FuncData}{N ps:List Str}{k:Nat}{sp:SpD}{t:TSd}(F:Fun K x qual st f fd)(S:FnScope N ps (defScope st))(len:∀ ws M Q,sp ws M Q->ws.length=ps.length)
  (hbody:∀ (cdv:Value) (A:Around) (outer:List Env) (s:Shared) (H:Hp) (E:XK),Room k (A.deeper (envOfC qual (defScope st) s.heap.objs.size f cdv)) ->
   PSsd (cxOf CX0 P w K mg base N qual (defScope st) f cdv A outer s H E).nox (defBody st) t)
  (read:∀ ws M Q,sp ws M Q->t { nx:=λ _ M'=>Q (.d .none) M',rt:=Q } (startD N ws) M):FnOk P w K mg base CX0 (k+1) f fd ps (upSp K sp):=by
 refine F.ok S (λ vs H Q E h=>?_) (λ cdv A outer s H vs Q E hr h=>?_)
 ·obtain ⟨ws,M,Qd,r,_,q,_⟩:=h
  rw [<- r.length]
  exact len _ _ _ q
 ·obtain ⟨ws,M,Qd,r,m,q,kk⟩:=h
  refine ⟨_,hbody cdv A outer s H E hr,startD N ws,M,_,abs_start r m,read ws M Qd q,λ σ' H' τ' M' kp A' q'=>?_,λ v H' w' M' kp r' m' q'=>?_,λ σ' H' τ' M' kp A' q'=>q'.elim,λ σ' H' τ' M' kp A' q'=>q'.elim⟩
  ·exact kk _ H' _ M' kp (by simp [RepW,RepD]) A'.mem q'
  ·exact kk v H' w' M' kp r' m' q'
end
end D
namespace D
open PySem PySem.Spec PyProof.Rows L2
section
variable {X:Cx}{pins:List (Addr×Obj)}{σ:St}{H:Hp}{s:Shared}
mutual
theorem reads_of (I:Inv X pins σ H s):∀ (d:PyData) {x:V} {u:Value},RepD X.K H d x->RelV x u->d.hasDict=false->∃ as,Reads s.heap u d as
 | .none,x,u,h,r,_=>by
  simp only [RepD] at h; subst h
  cases (show u=Value.none from r)
  exact ⟨_,.none⟩
 | .bool b,x,u,h,r,_=>by
  simp only [RepD] at h; subst h
  cases (show u=Value.bool b from r)
  exact ⟨_,.bool b⟩
 | .int i,x,u,h,r,_=>by
  simp only [RepD] at h; subst h
  obtain ⟨t,e⟩:=(show ∃ t,u=Value.int i t from r)
  subst e
  exact ⟨_,.int i t⟩
 | .str z,x,u,h,r,_=>by
  simp only [RepD] at h; subst h
  obtain ⟨t,e⟩:=(show ∃ t,u=Value.str z t from r)
  subst e
  exact ⟨_,.str z t⟩
 | .list ds,x,u,h,r,hd=>by
  simp only [RepD] at h
  obtain ⟨a,vs,e,hs,ra⟩:=h
  subst e
  cases (show u=Value.ref a from r)
  obtain ⟨its,rv,⟨o,n,e1,e2,e3,e4⟩,hz⟩:=I.list hs.sq
  obtain ⟨as,q⟩:=readsA_of I ds ra rv (by simpa [PyData.hasDict] using hd)
  exact ⟨_,.list e1 e2 e4 (by simpa using q)⟩
 | .tuple ds,x,u,h,r,hd=>by
  simp only [RepD] at h
  obtain ⟨a,vs,e,hs,ra⟩:=h
  subst e
  cases (show u=Value.ref a from r)
  obtain ⟨its,rv,⟨o,e1,e2,n,e4⟩,hz⟩:=I.tuple hs
  obtain ⟨as,q⟩:=readsA_of I ds ra rv (by simpa [PyData.hasDict] using hd)
  exact ⟨_,.tuple e1 e2 e4 (by simpa using q)⟩
 | .dict kvs,x,u,h,r,hd=>by simp [PyData.hasDict] at hd
theorem readsA_of (I:Inv X pins σ H s):∀ (ds:List PyData) {xs:List V} {us:List Value},RepA X.K H ds xs->Vals xs us->PyData.hasDictAll ds=false->∃ as,ReadsAll s.heap us ds as
 | [],xs,us,h,r,_=>by
  simp only [RepA] at h; subst h
  cases r
  exact ⟨_,.nil⟩
 | d :: ds,xs,us,h,r,hd=>by
  simp only [RepA] at h
  obtain ⟨v,vr,e,h1,h2⟩:=h
  subst e
  simp only [PyData.hasDictAll,Bool.or_eq_false_iff] at hd
  cases r with
  | cons r1 r2 =>
   obtain ⟨as,q1⟩:=reads_of I d h1 r1 hd.1
   obtain ⟨bs,q2⟩:=readsA_of I ds h2 r2 hd.2
   exact ⟨_,.cons q1 q2⟩
end
noncomputable def flatD:PyData->Bool
 | .none | .bool _ | .int _ | .str _=>true
 | _=>false
theorem reads_flat:∀ {d:PyData} {x:V} {u:Value} {h:Heap} {K:PySem.W.Frag} {H:Hp},flatD d=true->RepD K H d x->RelV x u->Reads h u d []
 | .none,x,u,h,K,H,_,e,r=>by simp only [RepD] at e; subst e; cases (show u=Value.none from r); exact .none
 | .bool b,x,u,h,K,H,_,e,r=>by simp only [RepD] at e; subst e; cases (show u=Value.bool b from r); exact .bool b
 | .int i,x,u,h,K,H,_,e,r=>by simp only [RepD] at e; subst e; obtain ⟨t,z⟩:=(show ∃ t,u=Value.int i t from r); subst z; exact .int i t
 | .str i,x,u,h,K,H,_,e,r=>by simp only [RepD] at e; subst e; obtain ⟨t,z⟩:=(show ∃ t,u=Value.str i t from r); subst z; exact .str i t
 | .list _,_,_,_,_,_,f,_,_=>nomatch f
 | .tuple _,_,_,_,_,_,f,_,_=>nomatch f
 | .dict _,_,_,_,_,_,f,_,_=>nomatch f
theorem pairs_reads {P:Program}{w:World}{h:Heap}{K:PySem.W.Frag}{H:Hp}:∀ {kvs:List (PyData×PyData)} {l:List (Key×V)} {vs:List (Key×Value)} {es:List DictEntry},(kvs.all λ p=>flatD p.2)=true->RepK K H kvs l->KV l vs->Pairs (mixKind P w) es vs ->
  ReadsAll h (es.map (·.key)) (kvs.map (·.1)) []/\ReadsAll h (es.map (·.val)) (kvs.map (·.2)) []
 | [],l,vs,es,_,r,kv,p=>by
  simp only [RepK] at r; subst r
  cases kv
  cases p
  exact ⟨.nil,.nil⟩
 | (k,d) :: kvs,l,vs,es,f,r,kv,p=>by
  simp only [RepK] at r
  obtain ⟨key,v,lr,e,ek,r1,r2⟩:=r
  subst e
  rw [List.all_cons,Bool.and_eq_true] at f
  cases kv with
  | cons q1 q2 =>
   rename_i kv0 vs0
   obtain ⟨k0,u0⟩:=kv0
   obtain ⟨q1,q3⟩:=q1
   cases p with
   | cons p1 p2 p3 =>
    rename_i en es0
    obtain ⟨i1,i2⟩:=pairs_reads f.2 r2 q2 p3
    have rk:Reads h en.key k []:=by
     have hk:keyIs k0 en.key=true:=p1
     have hk0:key=k0:=q1
     subst hk0
     rw [ek]
     rcases keyIs_shape hk with ⟨i,t,z1,z2⟩ | ⟨i,t,z1,z2⟩
     ·subst z1; rw [z2]; exact .int i t
     ·subst z1; rw [z2]; exact .str i t
    have rv:Reads h en.val d []:=by
     rw [p2]
     exact reads_flat f.1 r1 q3
    exact ⟨.cons rk i1,.cons rv i2⟩
noncomputable def reprOk (d:PyData):Bool:=d.showable && decide (d.shown.length<=sizeLine) && decide (d.depth<=60) && (!d.hasDict || match d with
 | .dict kvs=>kvs.all λ p=>flatD p.2
 | _=>false)
theorem reads_repr (I:Inv X pins σ H s){d:PyData}{x:V}{u:Value}(h:RepD X.K H d x)(r:RelV x u)(ok:reprOk d=true):∃ as,Reads s.heap u d as/\(d.hasDict=true->sysModules ∉ as):=by
 simp only [reprOk,Bool.and_eq_true,Bool.or_eq_true] at ok
 cases hd:d.hasDict with
 | false =>
  obtain ⟨as,q⟩:=reads_of I d h r hd
  exact ⟨as,q,λ z=>absurd z (by simp)⟩
 | true =>
  have f:=ok.2.resolve_left (by simp [hd])
  cases d with
  | dict kvs =>
   simp only [RepD] at h
   obtain ⟨a,o,l,e,ha,rk⟩:=h
   subst e
   cases (show u=Value.ref a from r)
   obtain ⟨z,hs,vs,kv,o',es,ep,e1,e2,e3,e4,e5,e6⟩:=dk_rd I.hok (.inr ⟨o,ha⟩)
   obtain ⟨q1,q2⟩:=pairs_reads (h:=s.heap) f rk kv e5
   refine ⟨_,.dict e1 e2.1 e3 q1 q2,λ _ hm=>?_⟩
   simp only [List.append_nil] at hm
   have hm':sysModules=a:=by simpa using hm
   rw [<- hm'] at hs
   simp at hs
  | _=>exact absurd f (by simp)
noncomputable def eqOk (d:PyData):Bool:=SeqAt.shaped d && !d.hasDict
noncomputable def eqOk2:PyData->PyData->Bool
 | .str _,.str _=>true
 | d,d'=>eqOk d && eqOk d'
theorem eqOk2_cases {d d':PyData}(h:eqOk2 d d'=true):(∃ x y,d=.str x/\d'=.str y)\/(eqOk d=true/\eqOk d'=true):=by
 cases d with
 | str x =>
  cases d' with
  | str y=>exact .inl ⟨x,y,rfl,rfl⟩
  | _=>exact .inr (by simpa [eqOk2] using h)
 | _=>exact .inr (by simpa [eqOk2] using h)
theorem str_dec (x y:Str):decide (V.str x=V.str y)=PyData.eqv (.str x) (.str y):=by
 rw [PyData.eqv]
 by_cases e:x=y
 ·subst e; simp
 ·rw [decide_eq_false (λ z=>e (V.str.inj z))]
  exact (beq_eq_false_iff_ne.mpr e).symm
theorem op_eqD {k:Nat}(hr:Room k X.A):OpR X (compareOp .Eq) (λ x y H Q=>∃ d d',RepD X.K H d x/\RepD X.K H d' y/\eqOk2 d d'=true/\Q (.bl (PyData.eqv d d')) H):=by
 intro pins s σ H x y v u Q I rx ry h
 obtain ⟨d,d',h1,h2,o,q⟩:=h
 rcases eqOk2_cases o with ⟨a,b,e1,e2⟩ | ⟨o1,o2⟩
 ·subst e1; subst e2
  simp only [RepD] at h1 h2
  subst h1; subst h2
  exact op_eq pins s σ H _ _ v u Q I rx ry ⟨rfl,by rw [str_dec]; exact q⟩
 simp only [eqOk,Bool.and_eq_true,Bool.not_eq_true'] at o1 o2
 obtain ⟨as,r1⟩:=reads_of I d h1 rx o1.2
 obtain ⟨bs,r2⟩:=reads_of I d' h2 ry o2.2
 exact eq_dataH r1 r2 o1.1 o2.1 hr.units ⟨.bl _,H,I,rfl,q⟩
theorem op_neD {k:Nat}(hr:Room k X.A):OpR X (compareOp .NotEq) (λ x y H Q=>∃ d d',RepD X.K H d x/\RepD X.K H d' y/\eqOk2 d d'=true/\Q (.bl (!PyData.eqv d d')) H):=by
 intro pins s σ H x y v u Q I rx ry h
 obtain ⟨d,d',h1,h2,o,q⟩:=h
 rcases eqOk2_cases o with ⟨a,b,e1,e2⟩ | ⟨o1,o2⟩
 ·subst e1; subst e2
  simp only [RepD] at h1 h2
  subst h1; subst h2
  exact op_ne pins s σ H _ _ v u Q I rx ry ⟨rfl,by rw [str_dec]; exact q⟩
 simp only [eqOk,Bool.and_eq_true,Bool.not_eq_true'] at o1 o2
 obtain ⟨as,r1⟩:=reads_of I d h1 rx o1.2
 obtain ⟨bs,r2⟩:=reads_of I d' h2 ry o2.2
 exact ne_dataH r1 r2 o1.1 o2.1 hr.units ⟨.bl _,H,I,rfl,q⟩
end
end D
namespace D
open PySem PySem.Spec PyProof.Rows L2
section
variable {X:Cx}{K:PySem.W.Frag}
theorem OpR.or {f:Value->Value->Sem Value}{r r':R2}(h:OpR X f r)(h':OpR X f r'):OpR X f (λ x y H Q=>r x y H Q\/r' x y H Q):=by
 intro pins s σ H x y v u Q I rx ry q
 rcases q with q | q
 ·exact h pins s σ H x y v u Q I rx ry q
 ·exact h' pins s σ H x y v u Q I rx ry q
theorem OpD.or {r r':R2}{rd rd':W->W->MH->QD->Prop}(h:OpD K r rd)(h':OpD K r' rd'):OpD K (λ x y H Q=>r x y H Q\/r' x y H Q) (λ w w' M Q=>rd w w' M Q\/rd' w w' M Q):=by
 intro x y H w w' M Qd Q r1 r2 m q k
 rcases q with q | q
 ·exact .inl (h x y H w w' M Qd Q r1 r2 m q k)
 ·exact .inr (h' x y H w w' M Qd Q r1 r2 m q k)
noncomputable def rdI0 (g:Int->Int->PyData)(w:W)(w':W)(M:MH)(Q:QD):Prop:=∃ i j,w=.d (.int i)/\w'=.d (.int j)/\Q (.d (g i j)) M
noncomputable def rdI (C:Int->Int->Prop)(g:Int->Int->PyData)(w:W)(w':W)(M:MH)(Q:QD):Prop:=∃ i j,w=.d (.int i)/\w'=.d (.int j)/\C i j/\Q (.d (g i j)) M
theorem opd_I0 {g:Int->Int->V}{gd:Int->Int->PyData}(hg:∀ i j H,RepD K H (gd i j) (g i j)):OpD K (rI0 g) (rdI0 gd):=by
 intro x y H w w' M Qd Q r1 r2 m ⟨i,j,e1,e2,q⟩ k
 subst e1; subst e2
 simp only [RepW,RepD] at r1 r2
 exact ⟨i,j,r1,r2,k _ H (.d (gd i j)) M (Kp.refl H) (hg i j H) m q⟩
theorem opd_I {C:Int->Int->Prop}{g:Int->Int->V}{gd:Int->Int->PyData}(hg:∀ i j H,RepD K H (gd i j) (g i j)):OpD K (rI C g) (rdI C gd):=by
 intro x y H w w' M Qd Q r1 r2 m ⟨i,j,e1,e2,c,q⟩ k
 subst e1; subst e2
 simp only [RepW,RepD] at r1 r2
 exact ⟨i,j,r1,r2,c,k _ H (.d (gd i j)) M (Kp.refl H) (hg i j H) m q⟩
noncomputable def rdSub (w w':W)(M:MH)(Q:QD):Prop:=rdI0 (λ i j=>.int (i - j)) w w' M Q
noncomputable def rdMul (w w':W)(M:MH)(Q:QD):Prop:=rdI CMul (λ i j=>.int (i * j)) w w' M Q
noncomputable def rdMod (w w':W)(M:MH)(Q:QD):Prop:=rdI (λ _ j=>0 < j) (λ i j=>.int (i % j)) w w' M Q
noncomputable def rdDiv (w w':W)(M:MH)(Q:QD):Prop:=rdI CDiv (λ i j=>.int (i / j)) w w' M Q
noncomputable def rdPow (w w':W)(M:MH)(Q:QD):Prop:=rdI CPow (λ i j=>.int (i ^ j.toNat)) w w' M Q
noncomputable def rdAdd (w:W)(w':W)(M:MH)(Q:QD):Prop:=rdI0 (λ i j=>.int (i+j)) w w' M Q\/∃ x y,w=.d (.str x)/\w'=.d (.str y)/\x.length+y.length<=sizeLine/\Q (.d (.str (x++y))) M
theorem opd_sub:OpD K (rI0 λ i j=>.int (i - j)) rdSub:=opd_I0 λ _ _ _=>by simp [RepD]
theorem opd_mul:OpD K (rI CMul λ i j=>.int (i * j)) rdMul:=opd_I λ _ _ _=>by simp [RepD]
theorem opd_mod:OpD K (rI (λ _ j=>0 < j) λ i j=>.int (i % j)) rdMod:=opd_I λ _ _ _=>by simp [RepD]
theorem opd_div:OpD K (rI CDiv λ i j=>.int (i / j)) rdDiv:=opd_I λ _ _ _=>by simp [RepD]
theorem opd_pow:OpD K (rI CPow λ i j=>.int (i ^ j.toNat)) rdPow:=opd_I λ _ _ _=>by simp [RepD]
noncomputable def rStr2:R2:=λ x y H Q=>∃ i j,x=.str i/\y=.str j/\i.length+j.length<=sizeLine/\Q (.str (i++j)) H
theorem opd_addS:OpD K rStr2 (λ w w' M Q=>∃ x y,w=.d (.str x)/\w'=.d (.str y)/\x.length+y.length<=sizeLine/\Q (.d (.str (x++y))) M):=by
 intro x y H w w' M Qd Q r1 r2 m ⟨i,j,e1,e2,c,q⟩ k
 subst e1; subst e2
 simp only [RepW,RepD] at r1 r2
 exact ⟨i,j,r1,r2,c,k _ H (.d (.str (i++j))) M (Kp.refl H) (by simp [RepW,RepD]) m q⟩
theorem op_add2:OpR X (binaryOp .Add) (λ x y H Q=>rI0 (λ i j=>.int (i+j)) x y H Q\/rStr2 x y H Q):=OpR.or op_add op_add_str
theorem opd_add2:OpD K (λ x y H Q=>rI0 (λ i j=>.int (i+j)) x y H Q\/rStr2 x y H Q) rdAdd:=OpD.or (opd_I0 λ _ _ _=>by simp [RepD]) opd_addS
noncomputable def rdLt (w w':W)(M:MH)(Q:QD):Prop:=rdI0 (λ i j=>.bool (decide (i < j))) w w' M Q
noncomputable def rdGt (w w':W)(M:MH)(Q:QD):Prop:=rdI0 (λ i j=>.bool (decide (j < i))) w w' M Q
noncomputable def rdGe (w w':W)(M:MH)(Q:QD):Prop:=rdI0 (λ i j=>.bool (decide (j<=i))) w w' M Q
theorem opd_lt:OpD K (rI0 λ i j=>.bl (decide (i < j))) rdLt:=opd_I0 λ _ _ _=>by simp [RepD]
theorem opd_gt:OpD K (rI0 λ i j=>.bl (decide (j < i))) rdGt:=opd_I0 λ _ _ _=>by simp [RepD]
theorem opd_ge:OpD K (rI0 λ i j=>.bl (decide (j<=i))) rdGe:=opd_I0 λ _ _ _=>by simp [RepD]
noncomputable def rdEq (w:W)(w':W)(M:MH)(Q:QD):Prop:=∃ d d',w=.d d/\w'=.d d'/\eqOk2 d d'=true/\Q (.d (.bool (PyData.eqv d d'))) M
theorem opd_eq:OpD K (λ x y H Q=>∃ d d',RepD K H d x/\RepD K H d' y/\eqOk2 d d'=true/\Q (.bl (PyData.eqv d d')) H) rdEq:=by
 intro x y H w w' M Qd Q r1 r2 m ⟨d,d',e1,e2,o1,q⟩ k
 subst e1; subst e2
 exact ⟨d,d',r1,r2,o1,k _ H (.d (.bool _)) M (Kp.refl H) (by simp [RepW,RepD]) m q⟩
noncomputable def rdNeg (w:W)(M:MH)(Q:QD):Prop:=∃ i,w=.d (.int i)/\Q (.d (.int (-i))) M
theorem und_neg:UnD K (rU λ i=>.int (-i)) rdNeg:=by
 intro x H w M Qd Q r m ⟨i,e,q⟩ k
 subst e
 simp only [RepW,RepD] at r
 exact ⟨i,r,k _ H (.d (.int (-i))) M (Kp.refl H) (by simp [RepW,RepD]) m q⟩
noncomputable def fitW:W->Bool
 | .d (.str z)=>decide (z.length<=sizeLine)
 | _=>true
noncomputable def ixW (M:MH):W->Int->Option W
 | .d (.list ds),i=>(atI ds i).map W.d
 | .d (.tuple ds),i=>(atI ds i).map W.d
 | .d (.str z),i=>(atI z.cps.toList i).map λ c=>W.d (.str ⟨#[c]⟩)
 | .m a,i=>match M a with
  | some (.lst ws)=>atI ws i
  | some (.tup ws)=>atI ws i
  | _=>none
 | _,_=>none
inductive RIx (w:W) (w':W) (M:MH) (Q:QD):Prop
 | mk (i:Int) (x:W) (z0:w'=.d (.int i)) (z1:ixW M w i=some x) (z2:fitW w=true) (q:Q x M):RIx w w' M Q
noncomputable def rdIx (w:W)(w':W)(M:MH)(Q:QD):Prop:=RIx w w' M Q
theorem atI_repA {H:Hp}{ds:List PyData}{vs:List V}{i:Int}{d:PyData}(r:RepA K H ds vs)(e:atI ds i=some d):∃ v,atI vs i=some v/\RepD K H d v:=by
 unfold atI at e ⊢
 rw [r.length]
 cases q:ixN ds.length i with
 | none=>rw [q] at e; cases e
 | some j =>
  rw [q] at e
  exact r.get e
theorem atI_repWs {H:Hp}{ds:List W}{vs:List V}{i:Int}{d:W}(r:RepWs K H ds vs)(e:atI ds i=some d):∃ v,atI vs i=some v/\RepW K H d v:=by
 unfold atI at e ⊢
 rw [<- r.length]
 cases q:ixN ds.length i with
 | none=>rw [q] at e; cases e
 | some j =>
  rw [q] at e
  exact r.get e
theorem opd_ix:OpD K (rIx K) rdIx:=by
 intro x y H w w' M Qd Q r1 r2 m ⟨i,z,e2,ei,hf,q⟩ k
 subst e2
 simp only [RepW,RepD] at r2
 cases w with
 | t n=>simp [ixW] at ei
 | m a =>
  simp only [RepW] at r1
  simp only [ixW] at ei
  cases hm:M a with
  | none=>rw [hm] at ei; cases ei
  | some mo =>
   rw [hm] at ei
   cases mo with
   | lst ws =>
    obtain ⟨vs,e1,rw1⟩:=m a _ hm
    obtain ⟨v,e3,rv⟩:=atI_repWs rw1 ei
    exact .inl ⟨a,vs,i,v,r1,r2,SqL.of e1,e3,k v H z M (Kp.refl H) rv m q⟩
   | dic _=>cases ei
   | dct _=>cases ei
   | fdic _=>cases ei
   | ins _ _=>cases ei
   | tup ws =>
    obtain ⟨vs,e1,rw1⟩:=m a _ hm
    obtain ⟨v,e3,rv⟩:=atI_repWs rw1 ei
    exact .inr (.inl ⟨a,vs,i,v,r1,r2,.inl (.inl e1),e3,k v H z M (Kp.refl H) rv m q⟩)
   | flst _=>cases ei
   | exc _ _=>cases ei
   | code _ _=>cases ei
 | d d =>
  cases d with
  | list ds =>
   simp only [RepW,RepD] at r1
   obtain ⟨a,vs,e1,hs,ra⟩:=r1
   simp only [ixW] at ei
   cases h:atI ds i with
   | none=>rw [h] at ei; cases ei
   | some d =>
    rw [h] at ei
    cases ei
    obtain ⟨v,e3,rv⟩:=atI_repA ra h
    exact .inl ⟨a,vs,i,v,e1,r2,hs.sq,e3,k v H (.d d) M (Kp.refl H) rv m q⟩
  | tuple ds =>
   simp only [RepW,RepD] at r1
   obtain ⟨a,vs,e1,hs,ra⟩:=r1
   simp only [ixW] at ei
   cases h:atI ds i with
   | none=>rw [h] at ei; cases ei
   | some d =>
    rw [h] at ei
    cases ei
    obtain ⟨v,e3,rv⟩:=atI_repA ra h
    exact .inr (.inl ⟨a,vs,i,v,e1,r2,hs,e3,k v H (.d d) M (Kp.refl H) rv m q⟩)
  | str s =>
   simp only [RepW,RepD] at r1
   simp only [ixW] at ei
   cases h:atI s.cps.toList i with
   | none=>rw [h] at ei; cases ei
   | some c =>
    rw [h] at ei
    cases ei
    exact .inr (.inr ⟨s,i,c,r1,r2,of_decide_eq_true hf,h,k _ H (.d (.str ⟨#[c]⟩)) M (Kp.refl H) (by simp [RepW,RepD]) m q⟩)
  | _=>simp [ixW] at ei
theorem pe_frzO {e:Expr}{t:TE}(h:PE X e t):PE X e (λ σ H Q=>t σ H λ v H1=>Q v H1\/∃ p u,v=.ref p/\H1 p=some u/\Fz u/\∀ o,Q v (upd H1 p (.frz o u))):=by
 intro pins s σ H Q I hq
 refine thn (h pins s σ H _ I hq) λ v s1 hq30=>?_
 obtain ⟨x,H1,I1,r1,q⟩:=hq30
 rcases q with q | ⟨p,u,e1,e2,f,q⟩
 ·exact ⟨x,_,I1,r1,q⟩
 ·obtain ⟨o,I2⟩:=I1.freeze e2 f
  exact ⟨x,_,I2,r1,q o⟩
noncomputable def rSlS:V->Option Int->Option Int->Hp->VK->Prop:=λ x lo hi H Q=>∃ z,x=.str z/\z.length<=sizeLine/\Q (.str (Txt.slice z lo hi)) H
theorem sl_str:SlR X rSlS:=by
 intro pins s σ H x v vl vu lo hi sl Q I rx hs pl pu h
 obtain ⟨z,rfl,hz,q⟩:=h
 obtain ⟨t,rfl⟩:=rx
 have fin:∀ t' k,EP X pins σ Q (.str (Txt.slice z lo hi) t') { s with toks:=k }:=λ t' k=>⟨.str _,H,I.tok _,⟨_,rfl⟩,q⟩
 refine ⟨"str",_,F.slot_str_getitem.lookup,typeIs_str _ _ _,?_⟩
 cases pl with
 | none =>
  cases pu with
  | none=>exact wpAny_getItem_str_slice (l:=none) (u:=none) (st:=none) hs rfl (post_val_or_str ⟨Nat.le_trans (Txt.slice_le z _ _) hz,fin⟩)
  | int j uj=>exact wpAny_getItem_str_slice (l:=none) (u:=some (j,uj)) (st:=none) hs rfl (post_val_or_str ⟨Nat.le_trans (Txt.slice_le z _ _) hz,fin⟩)
 | int i ui =>
  cases pu with
  | none=>exact wpAny_getItem_str_slice (l:=some (i,ui)) (u:=none) (st:=none) hs rfl (post_val_or_str ⟨Nat.le_trans (Txt.slice_le z _ _) hz,fin⟩)
  | int j uj=>exact wpAny_getItem_str_slice (l:=some (i,ui)) (u:=some (j,uj)) (st:=none) hs rfl (post_val_or_str ⟨Nat.le_trans (Txt.slice_le z _ _) hz,fin⟩)
noncomputable abbrev TOd:=DS->MH->(Option Int->MH->Prop)->Prop
noncomputable def upO (K:PySem.W.Frag)(t:TOd):TO:=λ σ H Q=>∃ τ M Qd,Abs K H σ τ M/\t τ M Qd/\∀ b H' M',Kp H H'->MAbs K H' M'->Qd b M'->Q b H'
noncomputable abbrev POd (X:Cx)(e:Option Expr)(t:TOd):Prop:=PO X e (upO X.K t)
theorem po_w {e:Option Expr}{t t':TO}(h:PO X e t)(k:∀ σ H Q,t' σ H Q->t σ H Q):PO X e t':=λ pins s σ H Q I q=>h pins s σ H Q I (k σ H Q q)
noncomputable def dNoPart (_:DS)(M:MH)(Q:Option Int->MH->Prop):Prop:=Q none M
noncomputable def dPart (t:TD)(τ:DS)(M:MH)(Q:Option Int->MH->Prop):Prop:=t τ M λ w M1=>∃ i,w=.d (.int i)/\Q (some i) M1
theorem pod_none:POd X none dNoPart:=po_w po_none λ σ H Q ⟨τ,M,Qd,A,q,k⟩=>k none H M (Kp.refl H) A.mem q
theorem pod_some {e:Expr}{te:TD}(h:PD X e te):POd X (some e) (dPart te):=po_w (po_some h) λ σ H Q ⟨τ,M,Qd,A,q,k⟩=>⟨τ,M,_,A,q,λ v H1 w M1 kp r m hq31=>by
 obtain ⟨i,e,q1⟩:=hq31
 subst e
 simp only [RepW,RepD] at r
 exact ⟨i,r,k _ H1 M1 kp m q1⟩⟩
noncomputable def cutD {α:Type}(xs:List α)(lo hi:Option Int):List α:=(xs.drop (HT.sIx xs.length 0 lo)).take (HT.sIx xs.length xs.length hi - HT.sIx xs.length 0 lo)
noncomputable def wholeD (n:Nat)(lo hi:Option Int):Bool:=decide (HT.sIx n 0 lo=0/\HT.sIx n n hi=n)
noncomputable def slW:W->Option Int->Option Int->Option W
 | .d (.list ds),lo,hi=>some (.d (.list (cutD ds lo hi)))
 | .d (.tuple ds),lo,hi=>if wholeD ds.length lo hi then none else some (.d (.tuple (cutD ds lo hi)))
 | .d (.str z),lo,hi=>some (.d (.str (Txt.slice z lo hi)))
 | _,_,_=>none
noncomputable def dSl (te:TD)(tl th:TOd)(τ:DS)(M:MH)(Q:QD):Prop:=te τ M λ w M1=>tl τ M1 λ lo M2=>th τ M2 λ hi M3=>∃ z,slW w lo hi=some z/\fitW w=true/\Q z M3
theorem sl_any:SlR X (λ x lo hi H Q=>rSlL X.K x lo hi H Q\/rSlT X.K x lo hi H Q\/rSlS x lo hi H Q):=sl_list.or (sl_tup.or sl_str)
theorem RepA.cut {H:Hp}{ds:List PyData}{vs:List V}(r:RepA K H ds vs)(lo hi:Option Int):RepA K H (cutD ds lo hi) (cutV vs lo hi):=by
 unfold cutD cutV
 rw [r.length]
 exact (r.drop _).take _
theorem pd_slice {e:Expr}{te:TD}{lo hi:Option Expr}{tl th:TOd}{pos p2:Pos}(he:PD X e te)(hl:POd X lo tl)(hu:POd X hi th):PD X (.Subscript e (.Slice lo hi none p2) pos) (dSl te tl th) :=
 pe_w (pe_frzO (pe_slice sl_any he hl hu)) λ σ H Q h=>by
  obtain ⟨τ,M,Qd,A,h,k⟩:=h
  refine ⟨τ,M,_,A,h,λ v H1 w M1 kp1 r1 m1 q1=>⟨τ,M1,_,A.go kp1 m1,q1,λ lo H2 M2 kp2 m2 q2=>⟨τ,M2,_,A.go (kp1.trans kp2) m2,q2,λ hi H3 M3 kp3 m3 q3=>?_⟩⟩⟩
  obtain ⟨z,ez,hf,q⟩:=q3
  have kp:=(kp1.trans kp2).trans kp3
  have r:=r1.keep (kp2.trans kp3)
  cases w with
  | t n=>simp [slW] at ez
  | m a=>simp [slW] at ez
  | d d =>
   cases d with
   | list ds =>
    simp only [slW] at ez
    cases ez
    simp only [RepW,RepD] at r
    obtain ⟨a,vs,e1,hs,ra⟩:=r
    exact .inl ⟨a,vs,e1,hs.sq,λ p hp=>.inr (imp_frz hp (RepA.cut ra lo hi) m3 q (kgo k kp))⟩
   | tuple ds =>
    simp only [slW] at ez
    split at ez
    ·cases ez
    ·rename_i hw
     cases ez
     simp only [RepW,RepD] at r
     obtain ⟨a,vs,e1,hs,ra⟩:=r
     refine .inr (.inl ⟨a,vs,e1,hs,?_,λ p hp=>.inl ?_⟩)
     ·rw [ra.length]
      simpa [wholeD] using hw
     ·refine k _ _ (.d (.tuple _)) M3 (kp.trans (Kp.new hp)) ?_ (m3.new hp) q
      simp only [RepW,RepD]
      exact ⟨p,_,rfl,.inl (.inl upd_same),(RepA.cut ra lo hi).keep (Kp.new hp)⟩
   | str s =>
    simp only [slW] at ez
    cases ez
    simp only [RepW,RepD] at r
    exact .inr (.inr ⟨s,r,of_decide_eq_true hf,.inl (k _ H3 (.d (.str _)) M3 kp (by simp [RepW,RepD]) m3 q)⟩)
   | _=>simp [slW] at ez
noncomputable def gSet (to ti:TD)(v:W)(τ:DS)(M:MH)(Q:DS->MH->Prop):Prop:=to τ M λ w M1=>ti τ M1 λ w' M2=>∃ a ws i j,w=.m a/\w'=.d (.int i)/\M2 a=some (.lst ws)/\ixN ws.length i=some j/\Q τ (updM M2 a (.lst (ws.set j v)))
theorem set_rep {H:Hp}{M:MH}{a:Addr}{ws:List W}{vs:List V}{j:Nat}{v:V}{w:W}(m:MAbs K H M)(e:H a=some (.lst vs))(rw1:RepWs K H ws vs)(rv:RepW K H w v) :
  Kp H (upd H a (.lst (vs.set j v)))/\MAbs K (upd H a (.lst (vs.set j v))) (updM M a (.lst (ws.set j w))):=by
 have kp:Kp H (upd H a (.lst (vs.set j v))):=Kp.set e (λ xs z=>nomatch z) λ _ _ z=>nomatch z
 exact ⟨kp,m.put kp ⟨_,upd_same,(RepWs.set rv j rw1).keep kp⟩⟩
theorem pgd_sub {o i:Expr}{to ti:TD}{pos:Pos}(ho:PD X o to)(hi:PD X i ti)
  (ha:∀ v,assign (.Subscript o i pos) X.env v=(do
   let ov <- holding [v] (eval o X.env)
   let iv <- holding [v,ov] (eval i X.env)
   standAt pos
   holding [v,ov,iv] (setItem ov iv v)
   release [v,ov,iv] []):=by intro _; rfl):PGd X (.Subscript o i pos) (gSet to ti):=pg_w (pg_sub ho hi set_list ha) λ v σ H Q h=>by
 obtain ⟨w,τ,M,Qd,rv,A,h,k⟩:=h
 refine ⟨τ,M,_,A,h,λ x H1 wo M1 kp1 r1 m1 q1=>⟨τ,M1,_,A.go kp1 m1,q1,λ y H2 wi M2 kp2 r2 m2 q2=>?_⟩⟩
 obtain ⟨a,ws,i,j,e1,e2,hm,hj,q⟩:=q2
 subst e1; subst e2
 simp only [RepW,RepD] at r1 r2
 obtain ⟨vs,e3,rw1⟩:=m2 a _ hm
 have kp:=kp1.trans kp2
 obtain ⟨kp3,m3⟩:=set_rep (j:=j) m2 e3 rw1 (rv.keep kp)
 exact ⟨a,vs,i,j,r1,r2,e3,by rw [<- rw1.length]; exact hj,k σ _ τ _ (kp.trans kp3) (A.go (kp.trans kp3) m3) q⟩
theorem get_list:PGet X (rIxL X.K):=by
 intro pins s σ H o i ov iv Q I ro ri h
 obtain ⟨p,xs,k,z,rfl,rfl,hq,he,q⟩:=h
 cases ro
 obtain ⟨t,rfl⟩:=ri
 obtain ⟨its,r,pl,hz⟩:=I.list hq
 obtain ⟨j,h1,h2,h3,h4,h5⟩:=atI_get he
 obtain ⟨w,ew,rw'⟩:=r.get h2
 have hl:=r.length
 have hn:=line63
 have fin:EP X pins σ Q w s:=⟨z,H,I,rw',q⟩
 by_cases h0:0<=k
 ·have hj:k.toNat=j:=by
   rw [seqIndex_of h0 h5] at h1
   exact Option.some.inj h1
  exact wpAny_getItem_list pl.isList h0 (by omega) (by rw [hj]; simpa using ew) fin
 ·have hj:(k+(its.toArray.size:Int)).toNat=j:=by
   rw [seqIndex_neg (by omega) h4] at h1
   rw [List.size_toArray,<- hl]
   exact Option.some.inj h1
  exact wpAny_getItem_list_neg pl.isList (by omega) (by rw [List.size_toArray] <;> omega) (by omega) (by rw [hj]; simpa using ew) fin
noncomputable def dAugS (to ti te:TD)(f:Int->Int->Int)(D:Ed)(τ:DS)(M:MH):Prop:=to τ M λ w M1=>ti τ M1 λ w' M2=>∃ a ws i j n,w=.m a/\w'=.d (.int i)/\M2 a=some (.lst ws)/\ixN ws.length i=some j/\ws[j]? = some (.d (.int n)) /\
 te τ M2 λ y M3=>∃ n',y=.d (.int n')/\M3=M2/\D.nx τ (updM M3 a (.lst (ws.set j (.d (.int (f n n'))))))
theorem psd_augS {o i e:Expr}{to ti te:TD}{op:Operator}{f:Int->Int->Int}{pos tpos:Pos}(ho:PD X o to)(hi:PD X i ti)(he:PD X e te)(hp:PIp X op (ipI f))
  (ha:∀ ov iv new,augStore i ov iv new=(do holding [new,ov,iv] (setItem ov iv new); release [new,ov,iv] []; pure .next):=by intros; rfl):PSd X (.AugAssign (.Subscript o i tpos) op e pos) (dAugS to ti te f) :=
 ps_w (ps_augS ho hi get_list he hp set_list ha) λ D σ H h=>by
  obtain ⟨τ,M,Dd,A,h,k1,_⟩:=h
  refine ⟨τ,M,_,A,h,λ x H1 wo M1 kp1 r1 m1 q1=>⟨τ,M1,_,A.go kp1 m1,q1,λ y H2 wi M2 kp2 r2 m2 q2=>?_⟩⟩
  obtain ⟨a,ws,i,j,n,e1,e2,hm,hj,hn,q⟩:=q2
  subst e1; subst e2
  simp only [RepW,RepD] at r1 r2
  obtain ⟨vs,e3,rw1⟩:=m2 a _ hm
  obtain ⟨v,e4,rv⟩:=rw1.get hn
  simp only [RepW,RepD] at rv
  have hj':ixN vs.length i=some j:=by rw [<- rw1.length]; exact hj
  refine ⟨a,vs,i,v,r1,r2,SqL.of e3,by unfold atI; rw [hj']; exact e4,?_⟩
  refine ⟨τ,M2,_,A.go (kp1.trans kp2) m2,q,λ z H3 wz M3 kp3 r3 m3 q3=>?_⟩
  obtain ⟨n',e5,e6,qn⟩:=q3
  subst e5; subst e6
  simp only [RepW,RepD] at r3
  refine ⟨n,n',rv,r3,?_⟩
  obtain ⟨vs',e3',rw2⟩:=m3 a _ hm
  have kp:=(kp1.trans kp2).trans kp3
  obtain ⟨kp4,m4⟩:=set_rep (j:=j) (v:=.int (f n n')) (w:=.d (.int (f n n'))) m3 e3' rw2 (by simp [RepW,RepD])
  exact ⟨a,vs',i,j,r1,r2,e3',by rw [<- rw2.length]; exact hj,k1 σ _ τ _ (kp.trans kp4) (A.go (kp.trans kp4) m4) qn⟩
end
end D
namespace D
open PySem PySem.Spec PyProof.Rows L2
section
variable {X:Cx}{K:PySem.W.Frag}{tg:Expr}
noncomputable def Its (z:Str):It:=⟨λ i _=>i < z.cps.size,λ i H x H'=>H'=H/\∃ c,z.cps[i]? = some c/\x=.str ⟨#[c]⟩,λ i _=>z.cps.size<=i⟩
theorem turn_str {P:Program}{w:World}{K:PySem.W.Frag}{tg:Expr}(it:Addr)(T:String)(z:Str)(t:Tok)
  (hT:["enumerate", "zip", "dict_itemiterator", "dict_reverseitemiterator", "odict_iterator", "itertools.zip_longest", "itertools.pairwise"].contains T=false)
  (W:∀ A:Around,A.handled=none->Walks P w A it [it] [it] z.cps.size (SignAt z) (λ i h=>h.IsStrIter it T z t i))(hself:∀ (A:Around) (i:Nat) (s:Shared) (Q:Value->Shared->Prop) (E:Value->Shared->Prop),s.heap.IsStrIter it T z t i->Q (.ref it) s->wpAny (model P w) A (pyIter (.ref it)) Q E s)
  (hend:∀ (A:Around) (i:Nat) (s:Shared) (Q:Option Value->Shared->Prop) (E:Value->Shared->Prop),A.handled=none->s.heap.IsStrIter it T z t i->z.cps[i]? = none->(∀ h',Heap.ExtBut it s.heap h'->Q none { s with heap:=h' })->wpAny (model P w) A (pyNext (.ref it)) Q E s) :
  Turn P w K tg (Its z) [it] it (λ i h=>h.IsStrIter it T z t i) where
 mem:=by simp
 obj:=λ i h st b hb=>by
  have e:b=it:=by simpa using hb
  subst e
  obtain ⟨o,e,c,d⟩:=st
  exact ⟨o,e,λ v q=>by rw [d] at q; cases q⟩
 keep:=λ i h h' st k=>by
  obtain ⟨o,e,r⟩:=st
  exact ⟨o,k it (by simp) o e,r⟩
 item:=by
  intro X hP hw hK hc i pins s σ H E I hf st hg
  subst hP hw hK
  obtain ⟨f0,f1,f2,f3,f4,f5⟩:=hf it (by simp)
  refine (W X.A (I.ok.hd hc)).item i s _ _ hg st λ v h' tk hv st' kk=>?_
  obtain ⟨c,u,hc',rfl⟩:=hv
  have I1:Inv X pins σ H { s with heap:=h',toks:=tk }:=I.turned (λ b o hb e=>kk b o (by simpa using hb) e) f0 f1 f3 f4 f5
  obtain ⟨o,e,cl,d⟩:=id st'
  exact ⟨_,rfl,go_of (s:={ s with heap:=h',toks:=tk }) e cl d hT ⟨.str ⟨#[c]⟩,H,I1,⟨u,rfl⟩,⟨rfl,c,hc',rfl⟩,st',λ b hb=>(hf b hb).1⟩⟩
 done:=by
  intro X hP hw hK hc i pins s σ H E I hf st hg
  subst hP hw hK
  obtain ⟨f0,f1,f2,f3,f4,f5⟩:=hf it (by simp)
  have hn:z.cps.size<=i:=hg
  exact hend X.A i s _ E (I.ok.hd hc) st (by simp [hn]) λ h' eb=>⟨rfl,I.turned (t':=s.toks) (λ b o hb e=>eb b o hb e) f0 f1 f3 f4 f5⟩
 self:=hself
section
variable {pins:List (Addr×Obj)}{σ:St}{H:Hp}{s:Shared}{R:It->Hp->Prop}{E:Value->Shared->Prop}
theorem it_str {z:Str}{t:Tok}(I:Inv X pins σ H s)(q:R (Its z) H):wpAny (model X.prog X.w) X.A (pyIter (.str z t)) (PIE X pins σ tg R) E s:=by
 cases ha:z.cps.all (· < 128)
 ·refine wpAny_pyIter_wide ha ?_
  refine ⟨s.heap.objs.size,[s.heap.objs.size],_,_,H,rfl,I.kept (t':=s.toks) λ b o e=>Heap.get?_push_of_some _ e,
   turn_str _ "str_iterator" z t (by decide) (λ A hA=>Walks.strWide hA _ z t) (λ A i s Q E st h=>wpAny_pyIter_striter_wide st h) (λ A i s Q E hh st hx hQ=>wpAny_pyNext_wide_end hh st hx hQ),⟨_,Heap.get?_push_size _ rfl,rfl,rfl⟩,λ b hb=>?_,q⟩
  have e:b=s.heap.objs.size:=by simpa using hb
  subst e
  exact I.fpOk (Nat.le_refl _) (I.hok.fresh (Nat.le_refl _))
 ·refine wpAny_pyIter_ascii ha ?_
  refine ⟨s.heap.objs.size,[s.heap.objs.size],_,_,H,rfl,I.kept (t':=s.toks) λ b o e=>Heap.get?_push_of_some _ e,
   turn_str _ "str_ascii_iterator" z t (by decide) (λ A hA=>Walks.strAscii hA _ z t) (λ A i s Q E st h=>wpAny_pyIter_striter_ascii st h) (λ A i s Q E hh st hx hQ=>wpAny_pyNext_ascii_end hh st hx hQ),⟨_,Heap.get?_push_size _ rfl,rfl,rfl⟩,λ b hb=>?_,q⟩
  have e:b=s.heap.objs.size:=by simpa using hb
  subst e
  exact I.fpOk (Nat.le_refl _) (I.hok.fresh (Nat.le_refl _))
theorem it_list {a:Addr}{xs:List V}(I:Inv X pins σ H s)(hq:SqL X.K H a xs)(q:R (Itl X.K a) H):wpAny (model X.prog X.w) X.A (pyIter (.ref a)) (PIE X pins σ tg R) E s:=by
 obtain ⟨its,rv,p,hz⟩:=I.list hq
 refine wpAny_pyIter_list p.isList ?_
 refine ⟨s.heap.objs.size,[s.heap.objs.size],_,_,H,rfl,I.kept (t':=s.toks) λ b o e=>Heap.get?_push_of_some _ e,turn_list a _,⟨_,Heap.get?_push_size _ rfl,rfl,rfl⟩,λ b hb=>?_,q⟩
 have e:b=s.heap.objs.size:=by simpa using hb
 subst e
 exact I.fpOk (Nat.le_refl _) (I.hok.fresh (Nat.le_refl _))
theorem it_tup {a:Addr}{xs:List V}(I:Inv X pins σ H s)(hq:SqT X.K H a xs)(q:R (Itt X.K a) H):wpAny (model X.prog X.w) X.A (pyIter (.ref a)) (PIE X pins σ tg R) E s:=by
 obtain ⟨its,rv,p,hz⟩:=I.tuple hq
 refine wpAny_pyIter_tuple (show s.heap.IsTuple a its.toArray from p) ?_
 refine ⟨s.heap.objs.size,[s.heap.objs.size],_,_,H,rfl,I.kept (t':=s.toks) λ b o e=>Heap.get?_push_of_some _ e,turn_tuple a _,⟨_,Heap.get?_push_size _ rfl,rfl,rfl⟩,λ b hb=>?_,q⟩
 have e:b=s.heap.objs.size:=by simpa using hb
 subst e
 exact I.fpOk (Nat.le_refl _) (I.hok.fresh (Nat.le_refl _))
end
noncomputable def iAny (K:PySem.W.Frag)(tl:TE):TI:=λ σ H R=>tl σ H λ x H1=>(∃ a xs,x=.ref a/\SqL K H1 a xs/\R (Itl K a) H1)\/(∃ a xs,x=.ref a/\SqT K H1 a xs/\R (Itt K a) H1)\/∃ z,x=.str z/\R (Its z) H1
theorem pi_any {l:Expr}{tl:TE}(hl:PE X l tl):PI X tg l (iAny X.K tl):=by
 intro pins s σ H R I h
 refine thn (hl pins s σ H _ I h) λ v s1 hq32=>?_
 obtain ⟨x,H1,I1,r1,q1⟩:=hq32
 rcases q1 with ⟨a,xs,e,hq,q⟩ | ⟨a,xs,e,hq,q⟩ | ⟨z,e,q⟩
 ·subst e; cases r1; exact it_list I1 hq q
 ·subst e; cases r1; exact it_tup I1 hq q
 ·subst e; obtain ⟨t,rfl⟩:=r1; exact it_str I1 q
noncomputable def ItD (K:PySem.W.Frag)(J:It)(H0:Hp)(ws:List W):Prop:=∀ H,Kp H0 H->∀ i:Nat,(i < ws.length->J.go i H)/\(ws.length<=i->J.stop i H) /\
 ∀ x H',i < ws.length->J.yld i H x H'->Kp H H'/\(∀ M,MAbs K H M->MAbs K H' M)/\∃ w,ws[i]? = some w/\RepW K H' w x
noncomputable abbrev TId:=DS->MH->(List W->MH->Prop)->Prop
noncomputable def upI (K:PySem.W.Frag)(t:TId):TI:=λ σ H R=>∃ τ M Rd,Abs K H σ τ M/\t τ M Rd/\∀ J H' ws M',Kp H H'->MAbs K H' M'->ItD K J H' ws->Rd ws M'->R J H'
noncomputable abbrev PId (X:Cx)(tg iter:Expr)(t:TId):Prop:=PI X tg iter (upI X.K t)
theorem pi_w {iter:Expr}{t t':TI}(h:PI X tg iter t)(k:∀ σ H R,t' σ H R->t σ H R):PI X tg iter t':=λ pins s σ H R I q=>h pins s σ H R I (k σ H R q)
noncomputable def itemsW:W->Option (List W)
 | .d (.list ds)=>some (ds.map W.d)
 | .d (.tuple ds)=>some (ds.map W.d)
 | .d (.str z)=>some (z.cps.toList.map λ c=>W.d (.str ⟨#[c]⟩))
 | _=>none
noncomputable def dItems (te:TD)(τ:DS)(M:MH)(R:List W->MH->Prop):Prop:=te τ M λ w M1=>∃ ws,itemsW w=some ws/\R ws M1
theorem itd_tup {H:Hp}{a:Addr}{vs:List V}{ds:List PyData}(hs:SqT K H a vs)(ra:RepA K H ds vs):ItD K (Itt K a) H (ds.map W.d):=λ H1 kp i=>by
 have hl:=ra.length
 refine ⟨λ hi=>?_,λ hi=>⟨vs,SqT.keep kp hs,by rw [List.length_map] at hi; omega⟩,λ x H' hi y=>?_⟩
 ·rw [List.length_map] at hi
  exact ⟨vs,vs[i]'(by omega),SqT.keep kp hs,by simp⟩
 ·obtain ⟨e,y⟩:=y
  subst e
  have ev:=y vs (SqT.keep kp hs)
  obtain ⟨d,e1,rd⟩:=(ra.keep kp).get' ev
  exact ⟨Kp.refl _,λ M m=>m,.d d,by simp [e1],rd⟩
theorem itd_str {H:Hp}(z:Str):ItD K (Its z) H (z.cps.toList.map λ c=>W.d (.str ⟨#[c]⟩)):=λ H1 kp i=>by
 refine ⟨λ hi=>(show i < z.cps.size by simpa using hi),λ hi=>(show z.cps.size<=i by simpa using hi),λ x H' hi y=>?_⟩
 obtain ⟨e,c,hc,ex⟩:=y
 subst e; subst ex
 exact ⟨Kp.refl _,λ M m=>m,.d (.str ⟨#[c]⟩),by simp [hc],by simp [RepW,RepD]⟩
theorem itd_rng {H:Hp}(lo:Int)(n:Nat):ItD K (Itr lo n) H ((List.range n).map λ i:Nat=>W.d (.int (lo+(i:Int)))):=λ H1 kp i=>by
 refine ⟨λ hi=>(show i < n by simpa using hi),λ hi=>(show n<=i by simpa using hi),λ x H' hi y=>?_⟩
 obtain ⟨e,ex⟩:=y
 subst e; subst ex
 simp at hi
 exact ⟨Kp.refl _,λ M m=>m,.d (.int (lo+i)),by simp [hi],by simp [RepW,RepD]⟩
theorem pid_items {l:Expr}{te:TD}(h:PD X l te):PId X tg l (dItems te):=pi_w (pi_any h) λ σ H R hq33=>by
 obtain ⟨τ,M,Rd,A,h,k⟩:=hq33
 refine ⟨τ,M,_,A,h,λ v H1 w M1 kp r m hq34=>?_⟩
 obtain ⟨ws,e,q⟩:=hq34
 cases w with
 | t n=>simp [itemsW] at e
 | m a=>simp [itemsW] at e
 | d d =>
  cases d with
  | list ds =>
   simp only [itemsW] at e
   cases e
   simp only [RepW,RepD] at r
   obtain ⟨a,vs,e1,hs,ra⟩:=r
   refine .inl ⟨a,vs,e1,hs.sq,k _ H1 _ M1 kp m ?_ q⟩
   intro H2 kp2 i
   have hl:=ra.length
   have hs2:=(hs.keep kp2).sq
   refine ⟨λ hi=>?_,λ hi=>⟨vs,hs2,by rw [List.length_map] at hi; omega⟩,λ x H' hi y=>?_⟩
   ·rw [List.length_map] at hi
    exact ⟨vs,vs[i]'(by omega),hs2,by simp⟩
   ·obtain ⟨e,y⟩:=y
    subst e
    have ev:=y vs hs2
    obtain ⟨d,e1,rd⟩:=(ra.keep kp2).get' ev
    exact ⟨Kp.refl _,λ M m=>m,.d d,by simp [e1],rd⟩
  | tuple ds =>
   simp only [itemsW] at e
   cases e
   simp only [RepW,RepD] at r
   obtain ⟨a,vs,e1,hs,ra⟩:=r
   exact .inr (.inl ⟨a,vs,e1,hs,k _ H1 _ M1 kp m (itd_tup hs ra) q⟩)
  | str z =>
   simp only [itemsW] at e
   cases e
   simp only [RepW,RepD] at r
   exact .inr (.inr ⟨z,r,k _ H1 _ M1 kp m (itd_str z) q⟩)
  | _=>simp [itemsW] at e
noncomputable def rangeW (lo:Int)(n:Nat):List W:=(List.range n).map λ i:Nat=>W.d (.int (lo+(i:Int)))
noncomputable def dRng1 (ta:TAd)(τ:DS)(M:MH)(R:List W->MH->Prop):Prop:=ta τ M λ ws M1=>∃ j:Int,ws=[.d (.int j)]/\-(2 ^ 62)<=j/\j < 2 ^ 62/\R (rangeW 0 j.toNat) M1
theorem repWs1 {H:Hp}{vs:List V}{w:W}(r:RepWs K H [w] vs):∃ v,vs=[v]/\RepW K H w v:=by
 cases r with
 | cons r1 r2=>cases r2; exact ⟨_,rfl,r1⟩
theorem pid_range1 {a:Expr}{ta:TAd}{p pos:Pos}(hg:Gl X "range")(hm:X.mg "range" = none)(ha:PAd X [a] ta)(hs:starEach [a] X.env=[(false,eval a X.env)]:=by rfl):PId X tg (.Call (.Name "range" p) [a] [] pos) (dRng1 ta) :=
 pi_w (pi_range1 hg hm ha hs) λ σ H R ⟨τ,M,Rd,A,h,k⟩=>⟨τ,M,_,A,h,λ vs H1 ws M1 kp r m hq35=>by
  obtain ⟨j,e,h1,h2,q⟩:=hq35
  subst e
  obtain ⟨v,e1,r1⟩:=repWs1 r
  simp only [RepW,RepD] at r1
  subst r1
  exact ⟨j,e1,h1,h2,k _ H1 _ M1 kp m (itd_rng 0 j.toNat) q⟩⟩
noncomputable def dFor (di:TId)(g:TGd)(tb:TSd)(D:Ed)(τ:DS)(M:MH):Prop:=di τ M λ ws M1=>∃ P:Nat->DS->MH->Prop,P 0 τ M1 /\
 (∀ i w τ M,ws[i]? = some w->P i τ M->g w τ M λ τ2 M2=>tb { D with nx:=P (i+1),ct:=P (i+1),bk:=D.nx } τ2 M2)/\∀ τ M,P ws.length τ M->D.nx τ M
theorem psd_for {iter:Expr}{body:List Stmt}{di:TId}{g:TGd}{tb:TSd}{pos:Pos}(hp:PassesOwn (model X.prog X.w) X.A X.env X.xe)(hc:X.calm=true)(hi:PId X tg iter di)(hg:PGd X tg g)(hb:PSsd X body tb)
  (hs:∀ x,foldedSetIterable iter X.env x=pure x:=by intro _; rfl):PSd X (.For tg iter body [] pos) (dFor di g tb):=ps_w (ps_for hp hc hi hg hb hs) λ D σ H hq36=>by
 obtain ⟨τ,M,Dd,A,h,k1,k2,k3,k4⟩:=hq36
 refine ⟨τ,M,_,A,h,λ J H1 ws M1 kp m1 it hq37=>?_⟩
 obtain ⟨P,p0,pt,pe⟩:=hq37
 refine ⟨λ i n σ H'=>n=ws.length - i/\i<=ws.length/\Kp H1 H'/\∃ τ M,Abs X.K H' σ τ M/\P i τ M,⟨ws.length,by simp,Nat.zero_le _,Kp.refl _,τ,M1,A.go kp m1,p0⟩,?_⟩
 rintro i n σ2 H2 ⟨rfl,hi,kp2,τ2,M2,A2,p2⟩
 obtain ⟨go,stop,yld⟩:=it H2 kp2 i
 by_cases hlt:i < ws.length
 ·refine .inr ⟨go hlt,λ σ3 H3=>Kp H2 H3/\∃ τ M,Abs X.K H3 σ3 τ M/\P (i+1) τ M,λ σ3 H3 ⟨kp3,τ3,M3,A3,p3⟩=>⟨ws.length - (i+1),by omega,rfl,hlt,kp2.trans kp3,τ3,M3,A3,p3⟩,λ x H3 y=>?_⟩
  obtain ⟨kp3,mk,w,ew,rw⟩:=yld x H3 hlt y
  refine ⟨w,τ2,M2,_,rw,A2.go kp3 (mk _ A2.mem),pt i w τ2 M2 ew p2,λ σ4 H4 τ4 M4 kp4 A4 q4=>?_⟩
  have kq:=kp3.trans kp4
  have kr:=(kp.trans kp2).trans kq
  exact ⟨τ4,M4,_,A4,q4,λ σ5 H5 τ5 M5 kp5 A5 q5=>⟨kq.trans kp5,τ5,M5,A5,q5⟩,λ v H5 w M5 kp5=>k2 v H5 w M5 (kr.trans kp5),λ σ5 H5 τ5 M5 kp5=>k1 σ5 H5 τ5 M5 (kr.trans kp5),λ σ5 H5 τ5 M5 kp5 A5 q5=>⟨kq.trans kp5,τ5,M5,A5,q5⟩⟩
 ·have hl:i=ws.length:=by omega
  subst hl
  exact .inl ⟨stop (Nat.le_refl _),k1 σ2 H2 τ2 M2 (kp.trans kp2) A2 (pe τ2 M2 p2)⟩
noncomputable def lcSD (k:Nat)(fr:List Nat)(τ:DS):DS:=List.replicate k none++fr.map λ j=>(τ[j]?).getD none
theorem abs_lc {H:Hp}{σ:St}{τ:DS}{M:MH}(A:Abs K H σ τ M)(k:Nat)(fr:List Nat):Abs K H (lcS k fr σ) (lcSD k fr τ) M:=by
 refine ⟨by simp [lcS,lcSD],λ i w e=>?_,A.mem⟩
 unfold lcSD at e
 by_cases hi:i < k
 ·rw [List.getElem?_append_left (by simpa using hi),List.getElem?_replicate] at e
  split at e <;> cases e
 ·rw [List.getElem?_append_right (by simpa using hi),List.getElem?_map,List.length_replicate] at e
  cases q:fr[i - k]? with
  | none=>rw [q] at e; cases e
  | some j =>
   rw [q] at e
   have e':(τ[j]?).getD none=some w:=Option.some.inj e
   have e2:τ[j]? = some (some w):=by
    cases z:τ[j]? with
    | none=>rw [z] at e'; cases e'
    | some o=>rw [z] at e'; exact congrArg some e'
   obtain ⟨v,q1,r⟩:=A.val j w e2
   refine ⟨v,?_,r⟩
   unfold lcS
   rw [List.getElem?_append_right (by simpa using hi),List.getElem?_map,List.length_replicate,q]
   simp [q1]
noncomputable def dLC (di:TId)(g:TGd)(tt:TTd)(te:TD)(k:Nat)(fr:List Nat)(τ:DS)(M:MH)(Q:QD):Prop:=di τ M λ ws M1=>∃ P:Nat->List PyData->DS->MH->Prop,P 0 [] (lcSD k fr τ) M1 /\
 (∀ i w acc τ M,ws[i]? = some w->P i acc τ M->acc.length < sizeLine/\g w τ M λ τ2 M2=>tt τ2 M2 λ b M3=>if b=true then te τ2 M3 λ y M4=>∃ d,y=.d d/\P (i+1) (acc++[d]) τ2 M4 else P (i+1) acc τ2 M3) /\
 ∀ acc τ M,P ws.length acc τ M->Q (.d (.list acc)) M
theorem imp_lc {di:TId}{g:TGd}{tt:TTd}{te:TD}{k:Nat}{fr:List Nat}{σ:St}{H:Hp}{Q:VK}(h:up K (dLC di g tt te k fr) σ H Q) :
  tFrz (tLC (upI K di) (upG K g) (upT K tt) (up K te) k fr) σ H Q:=by
 obtain ⟨τ,M,Qd,A,h,kk⟩:=h
 refine ⟨τ,M,_,A,h,λ J H1 ws M1 kp m1 it hq38=>?_⟩
 obtain ⟨P,p0,pt,pe⟩:=hq38
 refine ⟨λ i n ys σ' H'=>n=ws.length - i/\i<=ws.length/\Kp H1 H'/\∃ acc τ M,RepA K H' acc ys/\Abs K H' σ' τ M/\P i acc τ M,⟨ws.length,by simp,Nat.zero_le _,Kp.refl _,[],_,M1,by simp [RepA],abs_lc (A.go kp m1) k fr,p0⟩,?_⟩
 rintro i n ys σ2 H2 ⟨rfl,hi,kp2,acc,τ2,M2,ra,A2,p2⟩
 obtain ⟨go,stop,yld⟩:=it H2 kp2 i
 by_cases hlt:i < ws.length
 ·have hlen:=ra.length
  refine .inr ⟨go hlt,?_,λ x H3 y=>?_⟩
  ·obtain ⟨w,hw⟩:∃ w,ws[i]? = some w:=⟨ws[i],by simp [hlt]⟩
   have:=(pt i w acc τ2 M2 hw p2).1
   omega
  obtain ⟨kp3,mk,w,ew,rw⟩:=yld x H3 hlt y
  refine ⟨w,τ2,M2,_,rw,A2.go kp3 (mk _ A2.mem),(pt i w acc τ2 M2 ew p2).2,λ σ4 H4 τ4 M4 kp4 A4 q4=>⟨τ4,M4,_,A4,q4,λ b H5 M5 kp5 m5 q5=>?_⟩⟩
  have kq:=(kp3.trans kp4).trans kp5
  cases b with
  | false =>
   rw [if_neg Bool.false_ne_true] at q5
   show (if false=true then _ else _)
   rw [if_neg Bool.false_ne_true]
   exact ⟨ws.length - (i+1),by omega,rfl,hlt,kp2.trans kq,acc,τ4,M5,ra.keep kq,A4.go kp5 m5,q5⟩
  | true =>
   rw [if_pos rfl] at q5
   show (if true=true then _ else _)
   rw [if_pos rfl]
   refine ⟨τ4,M5,_,A4.go kp5 m5,q5,λ v H6 wv M6 kp6 r6 m6 hq39=>?_⟩
   obtain ⟨d,e6,q6⟩:=hq39
   subst e6
   refine ⟨ws.length - (i+1),by omega,rfl,hlt,kp2.trans (kq.trans kp6),acc++[d],τ4,M6,RepA.append (ra.keep (kq.trans kp6)) ?_,A4.go (kp5.trans kp6) m6,q6⟩
   simp only [RepA]
   exact ⟨v,[],rfl,r6,rfl⟩
 ·have hl:i=ws.length:=by omega
  subst hl
  exact .inl ⟨stop (Nat.le_refl _),λ p hp=>imp_frz hp ra A2.mem (pe acc τ2 M2 p2) (kgo kk (kp.trans kp2))⟩
section
variable {sc:Scope}{own:List Str}{fr:List Nat}{elt iter:Expr}{ifs:List Expr}{pos:Pos}{di:TId}{g:TGd}{tt:TTd}{te:TD}
noncomputable abbrev PTsd (X:Cx)(ifs:List Expr)(t:TTd):Prop:=PTs X ifs (upT X.K t)
noncomputable def dYes (_:DS)(M:MH)(Q:Bool->MH->Prop):Prop:=Q true M
theorem ptsd_nil:PTsd X [] dYes:=λ pins s σ H Q I ⟨τ,M,Qd,A,q,k⟩=>pts_nil pins s σ H Q I (k true H M (Kp.refl H) A.mem q)
theorem pd_lc (hc:X.calm=true)(L:LcOk X sc own fr)(hi:PId X tg iter di)
  (hg:∀ cl C s H ex pl,PGd (blk X sc (lcN X own fr) cl C s H ex pl) tg g)(ht:∀ cl C s H ex pl,PTsd (blk X sc (lcN X own fr) cl C s H ex pl) ifs tt)(he:∀ cl C s H ex pl,PD (blk X sc (lcN X own fr) cl C s H ex pl) elt te)
  (hs:∀ x,foldedSetIterable iter X.env x=pure x:=by intro _; rfl):PD X (.ListComp elt [⟨tg,iter,ifs,0⟩] sc pos) (dLC di g tt te own.length fr) :=
 pe_w (pe_frz (pe_lc hc L hi hg ht he hs)) λ σ H Q h=>imp_lc h
end
end
end D
namespace D
open PySem PySem.Spec PyProof.Rows L2
section
variable {X:Cx}{K:PySem.W.Frag}
noncomputable def rdAbs (ws:List W)(M:MH)(Q:QD):Prop:=∃ i:Int,ws=[.d (.int i)]/\Q (.d (.int (if i < 0 then -i else i))) M
theorem cd_abs:CallD K (λ xs H Q=>∃ i,xs=[.int i]/\Q (.int (if i < 0 then -i else i)) H) rdAbs:=by
 intro vs H ws M Qd Q r m ⟨i,e,q⟩ k
 subst e
 obtain ⟨v,e1,r1⟩:=repWs1 r
 simp only [RepW,RepD] at r1
 subst r1
 exact ⟨i,e1,k _ H (.d (.int _)) M (Kp.refl H) (by simp [RepW,RepD]) m q⟩
noncomputable def lenW (M:MH):W->Option Nat
 | .d (.list ds)=>some ds.length
 | .d (.tuple ds)=>some ds.length
 | .d (.str z)=>some z.length
 | .m a=>match M a with
  | some (.lst ws)=>some ws.length
  | _=>none
 | _=>none
noncomputable def rdLen (ws:List W)(M:MH)(Q:QD):Prop:=∃ w n,ws=[w]/\lenW M w=some n/\fitW w=true/\Q (.d (.int (n:Nat))) M
theorem cd_len:CallD K (λ xs H Q=>∃ x n,xs=[x]/\LenV K x H n/\Q (.int n) H) rdLen:=by
 intro vs H ws M Qd Q r m ⟨w,n,e,hn,hf,q⟩ k
 subst e
 obtain ⟨v,e1,r1⟩:=repWs1 r
 refine ⟨v,n,e1,?_,k _ H (.d (.int _)) M (Kp.refl H) (by simp [RepW,RepD]) m q⟩
 cases w with
 | t _=>simp [lenW] at hn
 | m a =>
  simp only [RepW] at r1
  subst r1
  simp only [lenW] at hn
  cases hm:M a with
  | none=>rw [hm] at hn; cases hn
  | some mo =>
   rw [hm] at hn
   cases mo with
   | lst l=>cases hn; obtain ⟨us,e2,rw1⟩:=m a _ hm; exact .inl ⟨us,SqL.of e2,rw1.length⟩
   | dic _=>cases hn
   | dct _=>cases hn
   | fdic _=>cases hn
   | ins _ _=>cases hn
   | tup _=>cases hn
   | flst _=>cases hn
   | exc _ _=>cases hn
   | code _ _=>cases hn
 | d d =>
  cases d with
  | list ds=>simp only [lenW] at hn; cases hn; simp only [RepW,RepD] at r1; obtain ⟨a,us,e2,hs,ra⟩:=r1; subst e2; exact .inl ⟨us,hs.sq,ra.length.symm⟩
  | tuple ds=>simp only [lenW] at hn; cases hn; simp only [RepW,RepD] at r1; obtain ⟨a,us,e2,hs,ra⟩:=r1; subst e2; exact .inr ⟨us,hs,ra.length.symm⟩
  | str z=>simp only [lenW] at hn; cases hn; simp only [RepW,RepD] at r1; subst r1; exact ⟨of_decide_eq_true hf,rfl⟩
  | _=>simp [lenW] at hn
noncomputable def dDict0 (_:DS)(M:MH)(Q:QD):Prop:=Q (.d (.dict [])) M
theorem pd_dict0 {pos:Pos}:PD X (.Dict [] [] pos) dDict0:=pe_w (pe_frz pe_dnewK) λ σ H Q ⟨τ,M,Qd,A,q,k⟩=>λ p hp=>by
 refine ⟨p,_,rfl,upd_same,trivial,λ o=>?_⟩
 rw [upd_upd]
 refine k _ _ (.d (.dict [])) M (Kp.new hp) ?_ (A.mem.new hp) q
 simp only [RepW,RepD,RepK]
 exact ⟨p,o,[],rfl,upd_same,rfl⟩
noncomputable def dPairs:List (TD×TD)->DS->MH->(List (W×W)->MH->Prop)->Prop
 | [],_,M,Q=>Q [] M
 | (tk,tv) :: r,τ,M,Q=>tk τ M λ x M1=>tv τ M1 λ y M2=>dPairs r τ M2 λ ps M3=>Q ((x,y) :: ps) M3
theorem imp_pairs:∀ {trs:List (TD×TD)} {σ:St} {H:Hp} {τ:DS} {M:MH} {Qd:List (W×W)->MH->Prop} {Q:List (V×V)->Hp->Prop},Abs K H σ τ M->dPairs trs τ M Qd ->
  (∀ ps H' ws M',Kp H H'->Paired (λ (p:W×W) (q:V×V)=>RepW K H' p.1 q.1/\RepW K H' p.2 q.2) ws ps->MAbs K H' M'->Qd ws M'->Q ps H')->tPairs (trs.map λ p=>(up K p.1,up K p.2)) σ H Q
 | [],σ,H,τ,M,Qd,Q,A,h,k=>k [] H [] M (Kp.refl H) .nil A.mem h
 | (tk,tv) :: r,σ,H,τ,M,Qd,Q,A,h,k=>by
  show (up K tk) σ H _
  refine ⟨τ,M,_,A,h,λ x H1 w M1 kp1 r1 m1 q1=>⟨τ,M1,_,A.go kp1 m1,q1,λ y H2 w' M2 kp2 r2 m2 q2=>?_⟩⟩
  refine imp_pairs (A.go (kp1.trans kp2) m2) q2 λ ps H3 ws M3 kp3 r3 m3 q3=>?_
  exact k _ H3 _ M3 ((kp1.trans kp2).trans kp3) (.cons ⟨r1.keep (kp2.trans kp3),r2.keep kp3⟩ r3) m3 q3
noncomputable def dDict (trs:List (TD×TD))(τ:DS)(M:MH)(Q:QD):Prop:=∀ p,M p=none->dPairs trs τ (updM M p (.dic [])) λ ps M2=>M2=updM M p (.dic [])/\∃ kvs:List (Key×PyData),ps=kvs.map (λ q=>(W.d (keyD q.1),W.d q.2))/\kvs.length<=15/\(kvs.map (·.1)).Nodup /\
 Q (.d (.dict (kvs.map λ q=>(keyD q.1,q.2)))) M
theorem mergeK_new:∀ {more kvs:List (Key×V)},((kvs++more).map (·.1)).Nodup->mergeK kvs more=kvs++more
 | [],kvs,_=>by simp [mergeK]
 | p :: r,kvs,h=>by
  have hn:valV kvs p.1=none:=by
   cases e:valV kvs p.1 with
   | none=>rfl
   | some v =>
    have q:(kvs.any λ kv=>decide (kv.1=p.1))=true:=by rw [valV_any,e]; rfl
    obtain ⟨z,hz,ez⟩:=List.any_eq_true.mp q
    rw [List.map_append,List.nodup_append] at h
    exact absurd (of_decide_eq_true ez) (h.2.2 _ (List.mem_map_of_mem hz) _ (by simp))
  show mergeK (putK kvs p.1 p.2) r=_
  rw [putK_new _ hn,mergeK_new (by simpa using h)]
  simp
theorem key_rep {H:Hp}{key:Key}{v:V}(r:RepD K H (keyD key) v):v=kV key:=by
 cases key <;> (simp only [keyD,RepD] at r; exact r)
theorem pairs_key {H:Hp}:∀ {kvs:List (Key×PyData)} {ps:List (V×V)},Paired (λ (p:W×W) (q:V×V)=>RepW K H p.1 q.1/\RepW K H p.2 q.2) (kvs.map λ q=>(W.d (keyD q.1),W.d q.2)) ps ->
  ∃ l:List (Key×V),ps=l.map (λ kv=>(kV kv.1,kv.2))/\l.map (·.1)=kvs.map (·.1)/\RepK K H (kvs.map λ q=>(keyD q.1,q.2)) l
 | [],ps,h=>by cases h; exact ⟨[],rfl,rfl,by simp [RepK]⟩
 | (k,d) :: kvs,ps,h=>by
  cases h with
  | cons r t =>
   rename_i q qs
   obtain ⟨x,y⟩:=q
   obtain ⟨l,e1,e2,e3⟩:=pairs_key t
   refine ⟨(k,y) :: l,?_,by simp [e2],?_⟩
   ·rw [List.map_cons,<- e1,<- key_rep r.1]
   ·simp only [List.map_cons,RepK]
    exact ⟨k,y,l,rfl,rfl,r.2,e3⟩
theorem pd_dict {pos:Pos}{keys:List (Option Expr)}{values:List Expr}{trs:List (TD×TD)}(h:PPs X pos keys values (trs.map λ p=>(up X.K p.1,up X.K p.2)))(hall:keys.all (·.isSome)=true:=by rfl)(hl:keys.length=values.length:=by rfl)(h0:keys≠[]:=by simp)
  (h15:keys.length<=15:=by decide):PD X (.Dict keys values pos) (dDict trs):=pe_w (pe_frz (pe_disp h hall hl h0 h15)) λ σ H Q ⟨τ,M,Qd,A,q,k⟩=>λ p hp=>by
 have kp0:Kp H (upd H p (.dK [])):=Kp.new hp
 have m0:MAbs X.K (upd H p (.dK [])) (updM M p (.dic [])):=A.mem.put (mo:=.dic []) kp0 ⟨[],upd_same,.nil⟩
 have hM:=A.mem.free hp
 refine imp_pairs (A.go kp0 m0) (q p hM) λ ps H2 ws M2 kp2 r2 m2 hq40=>?_
 obtain ⟨eM,kvs,ews,hlen,hnd,qq⟩:=hq40
 subst eM; subst ews
 obtain ⟨l0,e0,pr0⟩:=m2 p _ updM_same
 have el0:l0=[]:=by cases pr0; rfl
 subst el0
 obtain ⟨l,e1,e2,e3⟩:=pairs_key r2
 have elen:l.length=kvs.length:=by
  have:=congrArg List.length e2
  simpa using this
 refine ⟨e0,l,e1,by omega,p,_,rfl,upd_same,trivial,λ o=>?_⟩
 have em:mergeK [] l=l:=by rw [mergeK_new (by simpa [e2] using hnd)]; rfl
 rw [upd_upd,em]
 have kp3:Kp H2 (upd H2 p (.frz o (.dK l))):=Kp.set e0 (λ xs z=>nomatch z) λ _ _ z=>nomatch z
 refine k _ _ (.d (.dict _)) M ((kp0.trans kp2).trans kp3) ?_ (λ a mo hm=>?_) qq
 ·simp only [RepW,RepD]
  exact ⟨p,o,l,rfl,upd_same,e3.keep kp3⟩
 ·have hne:a≠p:=λ z=>by rw [z,hM] at hm; cases hm
  exact (m2 a mo (by rw [updM_ne hne]; exact hm)).keep kp3 λ u z=>by rw [upd_ne hne]; exact z
end
end D
namespace D
open PySem PySem.Spec PyProof.Rows L2
structure Fn (K:PySem.W.Frag)(mg:Str->Option Value)(x:Str)(st:Stmt)(ps:List Str)(f:Addr)(fd:FuncData):Prop where
 fn:Fun K x x st f fd
 mg:mg x=some (.ref f)
 bd:Binds K fd ps []
section
variable {K:PySem.W.Frag}{mg:Str->Option Value}{h:Heap}
theorem fn_mk {x:Str}{st:Stmt}{ps:List Str}{f:Addr}{oc:Value}{od an:Option Addr}{osl:Array (Option Value)}{kV doc pm cdv ct:Value}(X:K.In h)(G:h.Ns mainGlobals mg)(a:PySem.W.nsIn K mainGlobals x=some (some (.ref f)))
  (l:K.lookup f=some ⟨oc,od,.func (PySem.W.fnOf x x (defArgs st) (defBody st) (defScope st) .none kV doc pm an cdv ct),osl⟩)(c:PySem.W.codeIn K cdv x=true)(k:PySem.W.keepIn K (.ref f)=true)
  (b:∀ (kV doc pm:Value) (an:Option Addr) (cdv ct:Value) (us:List Value),us.length=ps.length->bindArgs (PySem.W.fnOf x x (defArgs st) (defBody st) (defScope st) .none kV doc pm an cdv ct) ⟨us,[]⟩=pure (ps.zip us)) :
  Fn K mg x st ps f (PySem.W.fnOf x x (defArgs st) (defBody st) (defScope st) .none kV doc pm an cdv ct) :=
 have F:=fun_mk (st:=st) l c k
 ⟨F,PySem.W.mg_of X G a,F.binds b⟩
end
noncomputable def lcOkB (sc scX:Scope)(N:List Str)(fr:List Nat):Bool :=
 (sc.kind == .function) && sc.names.all (λ y=>!(y.2 == .cell)) && sc.names.all (λ y=>!(y.2 == .free) || scX.names.lookup y.1 == some .cell || scX.names.lookup y.1 == some .free) &&
  sc.names.all (λ y=>!(y.2 == .local) || sc.names.lookup y.1 == some .local) && frOk N sc fr
theorem lcOk {X:Cx}{sc:Scope}{own:List Str}{fr:List Nat}(h:lcOkB sc X.env.scope X.N fr=true):LcOk X sc own fr:=by
 simp only [lcOkB,Bool.and_eq_true] at h
 obtain ⟨⟨⟨⟨h1,h2⟩,h3⟩,h4⟩,h5⟩:=h
 refine ⟨eq_of_beq h1,λ y hy e=>?_,λ y hy e=>?_,λ y hy e=>?_,h5⟩
 ·have:=List.all_eq_true.mp h2 y hy
  simp [e] at this
 ·have:=List.all_eq_true.mp h3 y hy
  simp only [e,beq_self_eq_true,Bool.not_true,Bool.false_or,Bool.or_eq_true] at this
  rcases this with z | z
  ·exact .inl (eq_of_beq z)
  ·exact .inr (eq_of_beq z)
 ·have:=List.all_eq_true.mp h4 y hy
  simp only [e,beq_self_eq_true,Bool.not_true,Bool.false_or] at this
  exact eq_of_beq this
theorem bt_int:bootBuiltins "int" = some (.type "int"):=by decide +kernel
theorem bb_len:bootBuiltins "len" = some (.builtin "len"):=by decide +kernel
theorem bb_abs:bootBuiltins "abs" = some (.builtin "abs"):=by decide +kernel
theorem bb_repr:bootBuiltins "repr" = some (.builtin "repr"):=by decide +kernel
theorem bb_isinstance:bootBuiltins "isinstance" = some (.builtin "isinstance"):=by decide +kernel
end D
namespace D
open PySem PySem.Spec PyProof.Rows L2
noncomputable def isSt:Expr->Bool
 | .Starred ..=>true
 | _=>false
theorem star_ok (e:Expr)(es:List Expr)(env:PySem.Env)(h:isSt e=false):starEach (e :: es) env=(false,eval e env) :: starEach es env:=by
 cases e <;> first | rfl | (exact absurd h (by simp [isSt]))
theorem plain_ok (pos:Pos)(env:PySem.Env):∀ es:List Expr,(es.all λ e=>!isSt e)=true->(backTo pos (starEach es env)).any (·.1)=false
 | [],_=>rfl
 | e :: es,h=>by
  rw [List.all_cons,Bool.and_eq_true,Bool.not_eq_true'] at h
  rw [star_ok e es env h.1]
  show (false || (backTo pos (starEach es env)).any (·.1))=false
  rw [plain_ok pos env es h.2]
  rfl
section
variable {X:Cx}{pos p:Pos}{e:Expr}{es:List Expr}{te:TD}{t:TAd}{x:Str}{id T:String}{r:List V->Hp->VK->Prop}{rd:List W->MH->QD->Prop}{k:Nat}{f:Addr}{fd:FuncData}{ps:List Str}{sp:SpD}
theorem pac (ha:PD X e te)(hr:PAd X es t)(h:isSt e=false:=by rfl):PAd X (e :: es) (dCons te t):=pad_cons ha hr (star_ok e es X.env h)
theorem pcB (hc:CallR X (.builtin id) r)(hd:CallD X.K r rd)(hg:Gl X x)(hm:X.mg x=none)(hv:bootBuiltins x=some (.builtin id))(ha:PAd X (e :: es) t)(hn:x ≠ "__name__" := by decide)(hdb:(x == ("__debug__" : Str))=false:=by decide)
  (h1:isSt e=false:=by rfl)(h2:(es.all λ e=>!isSt e)=true:=by rfl):PD X (.Call (.Name x p) (e :: es) [] pos) (dCB rd t):=pd_callB hc hd hg hm hv ha hn hdb (star_ok e es X.env h1) (plain_ok pos X.env es h2)
theorem pcF (F:FnOk X.prog X.w X.K X.mg X.base CX0 k f fd ps (upSp X.K sp))(hr:Room k X.A)(hg:Gl X x)(hm:X.mg x=some (.ref f))(hk:PySem.W.keepIn X.K (.ref f)=true)(hb:Binds X.K fd ps [])
  (ha:PAd X (e :: es) t)(hdb:(x == ("__debug__" : Str))=false:=by decide)(h1:isSt e=false:=by rfl)(h2:(es.all λ e=>!isSt e)=true:=by rfl) :
  PD X (.Call (.Name x p) (e :: es) [] pos) (dCall sp t):=pd_call F hr hg hm hk hb ha hdb (star_ok e es X.env h1) (plain_ok pos X.env es h2)
end
end D
namespace D
open PySem PySem.Spec PyProof.Rows L2
structure Jd (p:Prop):Prop where
 h:p
namespace Q
noncomputable abbrev pm (K:PySem.W.Frag)(p:TD×TD):TE×TE:=(up K p.1,up K p.2)
section
variable {X:Cx}{pos:Pos}{a b c e:Expr}{ta tb tc te:TD}{K:PySem.W.Frag}
theorem pd_var {i:Nat}(h:PE X e (tVar i)):Jd (PD X e (dVar i)):=⟨D.pd_var (h:=h)⟩
theorem dv (i:Nat){x:Str}{pos:Pos}(hN:X.N[i]? = some x:=by rfl)(hv:Vis X.env.scope x:=by first | exact Or.inl rfl | exact Or.inr (Or.inl rfl) | exact Or.inr (Or.inr rfl))(hd:(x == ("__debug__" : Str))=false:=by decide)(hcd:(x == ("__classdict__" : Str))=false:=by decide):Jd (PD X (.Name x pos) (dVar i)):=⟨D.dv (i:=i) (hN:=hN) (hv:=hv) (hd:=hd) (hcd:=hcd)⟩
theorem pd_c {v:V}{w:W}(h:PE X e (tC v))(r:∀ H,RepW X.K H w v):Jd (PD X e (dC w)):=⟨D.pd_c (h:=h) (r:=r)⟩
theorem pd_int {i j pos}:Jd (PD X (.Constant (.int i) j pos) (dC (.d (.int i)))):=⟨D.pd_int ⟩
theorem pd_bl {b j pos}:Jd (PD X (.Constant (.bool b) j pos) (dC (.d (.bool b)))):=⟨D.pd_bl ⟩
theorem pd_non {j pos}:Jd (PD X (.Constant .none j pos) (dC (.d .none))):=⟨D.pd_non ⟩
theorem pd_str {x j pos}:Jd (PD X (.Constant (.str x) j pos) (dC (.d (.str x)))):=⟨D.pd_str ⟩
theorem pd_op {op:Operator}{r:R2}{rd:W->W->MH->QD->Prop}(ho:OpR X (binaryOp op) r)(hd:OpD X.K r rd)(ha:Jd (PD X a ta))(hb:Jd (PD X b tb)):Jd (PD X (.BinOp a op b pos) (dOp rd ta tb)):=⟨D.pd_op (ho:=ho) (hd:=hd) (ha:=ha.h) (hb:=hb.h)⟩
theorem pd_cmp {op:CmpOp}{r:R2}{rd:W->W->MH->QD->Prop}(ho:OpR X (compareOp op) r)(hd:OpD X.K r rd)(ha:Jd (PD X a ta))(hb:Jd (PD X b tb))(hm:behindInMarks op b=false:=by first | exact nobehind _ (by decide) (by decide) | rfl):Jd (PD X (.Compare a [op] [b] pos) (dOp rd ta tb)):=⟨D.pd_cmp (ho:=ho) (hd:=hd) (ha:=ha.h) (hb:=hb.h) (hm:=hm)⟩
theorem pd_ix {r:R2}{rd:W->W->MH->QD->Prop}(hr:IxR X r)(hd:OpD X.K r rd)(ha:Jd (PD X a ta))(hb:Jd (PD X b tb))(hs:PlainIx b:=by intro _ _; rfl):Jd (PD X (.Subscript a b pos) (dOp rd ta tb)):=⟨D.pd_ix (hr:=hr) (hd:=hd) (ha:=ha.h) (hb:=hb.h) (hs:=hs)⟩
theorem ptd_cmp {op:CmpOp}{r:R2}{rd:W->W->MH->QD->Prop}(ho:OpR X (compareOp op) r)(hd:OpD X.K r rd)(ha:Jd (PD X a ta))(hb:Jd (PD X b tb))(hm:behindInMarks op b=false:=by first | exact nobehind _ (by decide) (by decide) | rfl):Jd (PTd X (.Compare a [op] [b] pos) (dTest (dOp rd ta tb))):=⟨D.ptd_cmp (ho:=ho) (hd:=hd) (ha:=ha.h) (hb:=hb.h) (hm:=hm)⟩
theorem pd_un {op:UnaryOp}{r:V->Hp->VK->Prop}{rd:W->MH->QD->Prop}(ho:UnR X (unaryOp op) r)(hd:UnD X.K r rd)(ha:Jd (PD X a ta)):Jd (PD X (.UnaryOp op a pos) (dUn rd ta)):=⟨D.pd_un (ho:=ho) (hd:=hd) (ha:=ha.h)⟩
variable {tA tB:TTd}{rest:List Expr}
variable {es:List Expr}{t:TAd}
theorem pad_nil  : Jd (PAd X [] dNil):=⟨D.pad_nil ⟩
theorem pad_cons (ha:Jd (PD X e te))(hr:Jd (PAd X es t))(hs:starEach (e :: es) X.env=(false,eval e X.env) :: starEach es X.env:=by rfl):Jd (PAd X (e :: es) (dCons te t)):=⟨D.pad_cons (ha:=ha.h) (hr:=hr.h) (hs:=hs)⟩
theorem pd_lst (h:Jd (PAd X es t)):Jd (PD X (.List es pos) (dLst t)):=⟨D.pd_lst (h:=h.h)⟩
theorem pd_lstM (h:Jd (PAd X es t)):Jd (PD X (.List es pos) (dLstM t)):=⟨D.pd_lstM (h:=h.h)⟩
theorem pd_tup {x1}(h:Jd (PAd X es t)):Jd (PD X (.Tuple es x1 pos) (dTup t)):=⟨D.pd_tup (h:=h.h)⟩
variable {x:Str}{p:Pos}{id T:String}{r:List V->Hp->VK->Prop}{rd:List W->MH->QD->Prop}
theorem pd_callB (hc:CallR X (.builtin id) r)(hd:CallD X.K r rd)(hg:Gl X x)(hm:X.mg x=none)(hv:bootBuiltins x=some (.builtin id))(ha:Jd (PAd X (e :: es) t))(hn:x ≠ "__name__" := by decide)(hdb:(x == ("__debug__" : Str))=false:=by decide)(he:starEach (e :: es) X.env=(false,eval e X.env) :: starEach es X.env:=by rfl)(hpl:(backTo pos (starEach es X.env)).any (·.1)=false:=by rfl):Jd (PD X (.Call (.Name x p) (e :: es) [] pos) (dCB rd t)):=⟨D.pd_callB (hc:=hc) (hd:=hd) (hg:=hg) (hm:=hm) (hv:=hv) (ha:=ha.h) (hn:=hn) (hdb:=hdb) (he:=he) (hpl:=hpl)⟩
theorem pd_callTy (hc:CallR X (.type T) r)(hd:CallD X.K r rd)(hg:Gl X x)(hm:X.mg x=none)(hv:bootBuiltins x=some (.type T))(ha:Jd (PAd X (e :: es) t))(hn:x ≠ "__name__" := by decide)(hdb:(x == ("__debug__" : Str))=false:=by decide)(he:starEach (e :: es) X.env=(false,eval e X.env) :: starEach es X.env:=by rfl)(hpl:(backTo pos (starEach es X.env)).any (·.1)=false:=by rfl):Jd (PD X (.Call (.Name x p) (e :: es) [] pos) (dCB rd t)):=⟨D.pd_callTy (hc:=hc) (hd:=hd) (hg:=hg) (hm:=hm) (hv:=hv) (ha:=ha.h) (hn:=hn) (hdb:=hdb) (he:=he) (hpl:=hpl)⟩
end
section
variable {X:Cx}{pos:Pos}{st:Stmt}{sts:List Stmt}{t u:TSd}{e:Expr}{te:TD}{K:PySem.W.Frag}
theorem pssd_nil  : Jd (PSsd X [] dNext):=⟨D.pssd_nil ⟩
theorem pssd_cons (h1:Jd (PSd X st t))(h2:Jd (PSsd X sts u)):Jd (PSsd X (st :: sts) (dSeq t u)):=⟨D.pssd_cons (h1:=h1.h) (h2:=h2.h)⟩
theorem pssd_one (h1:Jd (PSd X st t)):Jd (PSsd X [st] t):=⟨D.pssd_one (h1:=h1.h)⟩
theorem psd_expr (he:Jd (PD X e te))(hs:swapsWith e none pos.line X.env=pure false:=by rfl):Jd (PSd X (.Expr e pos) (dDrop te)):=⟨D.psd_expr (he:=he.h) (hs:=hs)⟩
theorem psd_ret (he:Jd (PD X e te)):Jd (PSd X (.Return (some e) pos) (dRet te)):=⟨D.psd_ret (he:=he.h)⟩
theorem psd_if {c:Expr}{a b:List Stmt}{tc:TTd}(hc:Jd (PTd X c tc))(ha:Jd (PSsd X a t))(hb:Jd (PSsd X b u)):Jd (PSd X (.If c a b pos) (dIf tc t u)):=⟨D.psd_if (hc:=hc.h) (ha:=ha.h) (hb:=hb.h)⟩
theorem pgd_name {i:Nat}{x:Str}(hN:X.N.Nodup)(hi:X.N[i]? = some x)(hx:Loc X.env.scope x)(hf:X.fn x=true\/X.env.scope.names.lookup x=some .local:=by first | exact .inl rfl | exact .inr rfl | assumption):Jd (PGd X (.Name x pos) (gN i)):=⟨D.pgd_name (hN:=hN) (hi:=hi) (hx:=hx) (hf:=hf)⟩
theorem psd_asg {tg:Expr}{g:TGd}(he:Jd (PD X e te))(hg:Jd (PGd X tg g))(hs:swapsWithSole [tg] e pos.line X.env=pure false:=by rfl)(hw:swappedStores [tg] e X.env=pure none:=by rfl)(h1:(assignEach [tg] X.env).map (·.2)=[assign tg X.env]:=by rfl):Jd (PSd X (.Assign [tg] e pos) (dAsg te g)):=⟨D.psd_asg (he:=he.h) (hg:=hg.h) (hs:=hs) (hw:=hw) (h1:=h1)⟩
theorem psd_set {i:Nat}{x:Str}{pos':Pos}(hN:X.N.Nodup)(hi:X.N[i]? = some x)(hx:Loc X.env.scope x)(he:Jd (PD X e te))(hs:swapsWith e (some (.Name x pos')) pos.line X.env=pure false:=by rfl)(hf:X.fn x=true\/X.env.scope.names.lookup x=some .local:=by first | exact .inl rfl | exact .inr rfl | assumption):Jd (PSd X (.Assign [.Name x pos'] e pos) (dAsg te (gN i))):=⟨D.psd_set (hN:=hN) (hi:=hi) (hx:=hx) (he:=he.h) (hs:=hs) (hf:=hf)⟩
end
section
variable {X:Cx}{pos p:Pos}{k:Nat}{f:Addr}{fd:FuncData}{ps:List Str}{sp:SpD}{x:Str}{e:Expr}{es:List Expr}{t:TAd}
theorem pd_call (F:FnOk X.prog X.w X.K X.mg X.base CX0 k f fd ps (upSp X.K sp))(hr:Room k X.A)(hg:Gl X x)(hm:X.mg x=some (.ref f))(hk:PySem.W.keepIn X.K (.ref f)=true)(hb:Binds X.K fd ps [])(ha:Jd (PAd X (e :: es) t))(hdb:(x == ("__debug__" : Str))=false:=by decide)(he:starEach (e :: es) X.env=(false,eval e X.env) :: starEach es X.env:=by rfl)(hpl:(backTo pos (starEach es X.env)).any (·.1)=false:=by rfl):Jd (PD X (.Call (.Name x p) (e :: es) [] pos) (dCall sp t)):=⟨D.pd_call (F:=F) (hr:=hr) (hg:=hg) (hm:=hm) (hk:=hk) (hb:=hb) (ha:=ha.h) (hdb:=hdb) (he:=he) (hpl:=hpl)⟩
theorem pd_call0 (F:FnOk X.prog X.w X.K X.mg X.base CX0 k f fd ps (upSp X.K sp))(hr:Room k X.A)(hg:Gl X x)(hm:X.mg x=some (.ref f))(hk:PySem.W.keepIn X.K (.ref f)=true)(hb:Binds X.K fd ps [])(hdb:(x == ("__debug__" : Str))=false:=by decide):Jd (PD X (.Call (.Name x p) [] [] pos) (dCall sp dNil)):=⟨D.pd_call0 (F:=F) (hr:=hr) (hg:=hg) (hm:=hm) (hk:=hk) (hb:=hb) (hdb:=hdb)⟩
end
section
variable {P:Program}{w:World}{K:PySem.W.Frag}{mg:Str->Option Value}{base:Heap}
end
section
variable {X:Cx}{K:PySem.W.Frag}
theorem pod_none  : Jd (POd X none dNoPart):=⟨D.pod_none ⟩
theorem pod_some {e:Expr}{te:TD}(h:Jd (PD X e te)):Jd (POd X (some e) (dPart te)):=⟨D.pod_some (h:=h.h)⟩
theorem pd_slice {e:Expr}{te:TD}{lo hi:Option Expr}{tl th:TOd}{pos p2:Pos}(he:Jd (PD X e te))(hl:Jd (POd X lo tl))(hu:Jd (POd X hi th)):Jd (PD X (.Subscript e (.Slice lo hi none p2) pos) (dSl te tl th)):=⟨D.pd_slice (he:=he.h) (hl:=hl.h) (hu:=hu.h)⟩
theorem pgd_sub {o i:Expr}{to ti:TD}{pos:Pos}(ho:Jd (PD X o to))(hi:Jd (PD X i ti))(ha:∀ v,assign (.Subscript o i pos) X.env v=(do
   let ov <- holding [v] (eval o X.env)
   let iv <- holding [v,ov] (eval i X.env)
   standAt pos
   holding [v,ov,iv] (setItem ov iv v)
   release [v,ov,iv] []):=by intro _; rfl):Jd (PGd X (.Subscript o i pos) (gSet to ti)):=⟨D.pgd_sub (ho:=ho.h) (hi:=hi.h) (ha:=ha)⟩
theorem psd_augS {o i e:Expr}{to ti te:TD}{op:Operator}{f:Int->Int->Int}{pos tpos:Pos}(ho:Jd (PD X o to))(hi:Jd (PD X i ti))(he:Jd (PD X e te))(hp:PIp X op (ipI f))(ha:∀ ov iv new,augStore i ov iv new=(do holding [new,ov,iv] (setItem ov iv new); release [new,ov,iv] []; pure .next):=by intros; rfl):Jd (PSd X (.AugAssign (.Subscript o i tpos) op e pos) (dAugS to ti te f)):=⟨D.psd_augS (ho:=ho.h) (hi:=hi.h) (he:=he.h) (hp:=hp) (ha:=ha)⟩
end
section
variable {X:Cx}{K:PySem.W.Frag}{tg:Expr}
section
variable {pins:List (Addr×Obj)}{σ:St}{H:Hp}{s:Shared}{R:It->Hp->Prop}{E:Value->Shared->Prop}
end
theorem pid_items {l:Expr}{te:TD}(h:Jd (PD X l te)):Jd (PId X tg l (dItems te)):=⟨D.pid_items (h:=h.h)⟩
theorem pid_range1 {a:Expr}{ta:TAd}{p pos:Pos}(hg:Gl X "range")(hm:X.mg "range" = none)(ha:Jd (PAd X [a] ta))(hs:starEach [a] X.env=[(false,eval a X.env)]:=by rfl):Jd (PId X tg (.Call (.Name "range" p) [a] [] pos) (dRng1 ta)):=⟨D.pid_range1 (hg:=hg) (hm:=hm) (ha:=ha.h) (hs:=hs)⟩
theorem psd_for {iter:Expr}{body:List Stmt}{di:TId}{g:TGd}{tb:TSd}{pos:Pos}(hp:PassesOwn (model X.prog X.w) X.A X.env X.xe)(hc:X.calm=true)(hi:Jd (PId X tg iter di))(hg:Jd (PGd X tg g))(hb:Jd (PSsd X body tb))(hs:∀ x,foldedSetIterable iter X.env x=pure x:=by intro _; rfl):Jd (PSd X (.For tg iter body [] pos) (dFor di g tb)):=⟨D.psd_for (hp:=hp) (hc:=hc) (hi:=hi.h) (hg:=hg.h) (hb:=hb.h) (hs:=hs)⟩
section
variable {sc:Scope}{own:List Str}{fr:List Nat}{elt iter:Expr}{ifs:List Expr}{pos:Pos}{di:TId}{g:TGd}{tt:TTd}{te:TD}
theorem ptsd_nil  : Jd (PTsd X [] dYes):=⟨D.ptsd_nil ⟩
theorem pd_lc (hc:X.calm=true)(L:LcOk X sc own fr)(hi:Jd (PId X tg iter di))(hg:∀ cl C s H ex pl,Jd (PGd (blk X sc (lcN X own fr) cl C s H ex pl) tg g))(ht:∀ cl C s H ex pl,Jd (PTsd (blk X sc (lcN X own fr) cl C s H ex pl) ifs tt))(he:∀ cl C s H ex pl,Jd (PD (blk X sc (lcN X own fr) cl C s H ex pl) elt te))(hs:∀ x,foldedSetIterable iter X.env x=pure x:=by intro _; rfl):Jd (PD X (.ListComp elt [⟨tg,iter,ifs,0⟩] sc pos) (dLC di g tt te own.length fr)):=⟨D.pd_lc (hc:=hc) (L:=L) (hi:=hi.h) (hg:=λ cl C s H ex pl=>(hg cl C s H ex pl).h) (ht:=λ cl C s H ex pl=>(ht cl C s H ex pl).h) (he:=λ cl C s H ex pl=>(he cl C s H ex pl).h) (hs:=hs)⟩
end
end
section
variable {X:Cx}{K:PySem.W.Frag}
theorem pd_dict0 {pos:Pos}:Jd (PD X (.Dict [] [] pos) dDict0):=⟨D.pd_dict0 ⟩
theorem pd_dict {pos:Pos}{keys:List (Option Expr)}{values:List Expr}{trs:List (TD×TD)}(h:Jd (PPs X pos keys values (trs.map (pm X.K))))(hall:keys.all (·.isSome)=true:=by rfl)(hl:keys.length=values.length:=by rfl)(h0:keys≠[]:=by simp)(h15:keys.length<=15:=by decide):Jd (PD X (.Dict keys values pos) (dDict trs)):=⟨D.pd_dict (h:=h.h) (hall:=hall) (hl:=hl) (h0:=h0) (h15:=h15)⟩
end
section
variable {X:Cx}{pos p:Pos}{e:Expr}{es:List Expr}{te:TD}{t:TAd}{x:Str}{id T:String}{r:List V->Hp->VK->Prop}{rd:List W->MH->QD->Prop}{k:Nat}{f:Addr}{fd:FuncData}{ps:List Str}{sp:SpD}
theorem pac (ha:Jd (PD X e te))(hr:Jd (PAd X es t))(h:isSt e=false:=by rfl):Jd (PAd X (e :: es) (dCons te t)):=⟨D.pac (ha:=ha.h) (hr:=hr.h) (h:=h)⟩
theorem pcB (hc:CallR X (.builtin id) r)(hd:CallD X.K r rd)(hg:Gl X x)(hm:X.mg x=none)(hv:bootBuiltins x=some (.builtin id))(ha:Jd (PAd X (e :: es) t))(hn:x ≠ "__name__" := by decide)(hdb:(x == ("__debug__" : Str))=false:=by decide)(h1:isSt e=false:=by rfl)(h2:(es.all λ e=>!isSt e)=true:=by rfl):Jd (PD X (.Call (.Name x p) (e :: es) [] pos) (dCB rd t)):=⟨D.pcB (hc:=hc) (hd:=hd) (hg:=hg) (hm:=hm) (hv:=hv) (ha:=ha.h) (hn:=hn) (hdb:=hdb) (h1:=h1) (h2:=h2)⟩
theorem pcF (F:FnOk X.prog X.w X.K X.mg X.base CX0 k f fd ps (upSp X.K sp))(hr:Room k X.A)(hg:Gl X x)(hm:X.mg x=some (.ref f))(hk:PySem.W.keepIn X.K (.ref f)=true)(hb:Binds X.K fd ps [])(ha:Jd (PAd X (e :: es) t))(hdb:(x == ("__debug__" : Str))=false:=by decide)(h1:isSt e=false:=by rfl)(h2:(es.all λ e=>!isSt e)=true:=by rfl):Jd (PD X (.Call (.Name x p) (e :: es) [] pos) (dCall sp t)):=⟨D.pcF (F:=F) (hr:=hr) (hg:=hg) (hm:=hm) (hk:=hk) (hb:=hb) (ha:=ha.h) (hdb:=hdb) (h1:=h1) (h2:=h2)⟩
end
theorem pps_nil {X:Cx}{pos:Pos}:Jd (PPs X pos [] [] (([]:List (TD×TD)).map (pm X.K))):=⟨L2.pps_nil⟩
theorem pps_cons {X:Cx}{pos:Pos}{k v:Expr}{ks:List (Option Expr)}{vs:List Expr}{tk tv:TD}{trs:List (TD×TD)}(hk:Jd (PD X k tk))(hv:Jd (PD X v tv))(hr:Jd (PPs X pos ks vs (trs.map (pm X.K)))):Jd (PPs X pos (some k :: ks) (v :: vs) (((tk,tv) :: trs).map (pm X.K))):=⟨L2.pps_cons hk.h hv.h hr.h⟩
end Q
end D
namespace D
open PySem PySem.Spec PyProof.Rows L2
section
variable {κ α:Type}[DecidableEq κ]
noncomputable def tget (t:List (κ×α))(k:κ):Option α:=(t.find? λ p=>decide (p.1=k)).map (·.2)
noncomputable def OR {β γ:Type}(R:β->γ->Prop):Option β->Option γ->Prop
 | some a,some b=>R a b
 | none,none=>True
 | _,_=>False
theorem OR.some_of {β γ:Type}{R:β->γ->Prop}{a:β}{o:Option γ}(h:OR R (some a) o):∃ b,o=some b/\R a b:=by
 cases o with
 | none=>exact h.elim
 | some b=>exact ⟨b,rfl,h⟩
theorem OR.none_of {β γ:Type}{R:β->γ->Prop}{o:Option γ}(h:OR R none o):o=none:=by
 cases o with
 | none=>rfl
 | some b=>exact h.elim
theorem OR.isSome {β γ:Type}{R:β->γ->Prop}:∀ {a:Option β} {o:Option γ},OR R a o->a.isSome=o.isSome
 | some _,some _,_=>rfl
 | none,none,_=>rfl
 | some _,none,h=>h.elim
 | none,some _,h=>h.elim
theorem tb_get {R:α->V->Prop}(k:κ):∀ {t:List (κ×α)} {l:List (κ×V)},Paired (λ p q=>p.1=q.1/\R p.2 q.2) t l->OR R (tget t k) (valV l k)
 | _,_,.nil=>True.intro
 | _,_,.cons (a:=p) (b:=q) (l₁:=t1) h t=>by
  obtain ⟨h1,h2⟩:=h
  by_cases e:p.1=k
  ·rw [valV_pos (h1.symm.trans e),show tget (p :: t1) k=some p.2 by simp [tget,List.find?_cons,e]]
   exact h2
  ·rw [valV_neg (λ z=>e (h1.trans z)),show tget (p :: t1) k=tget t1 k by simp [tget,List.find?_cons,e]]
   exact tb_get k t
theorem tb_len {P:κ×α->κ×V->Prop}:∀ {t:List (κ×α)} {l:List (κ×V)},Paired P t l->t.length=l.length
 | _,_,.nil=>rfl
 | _,_,.cons _ t=>by simp [tb_len t]
end
noncomputable def kW (k:Key):W:=.d (keyD k)
theorem kW_rep {K:PySem.W.Frag}{H:Hp}{k:Key}{v:V}(r:RepW K H (kW k) v):v=kV k:=key_rep r
noncomputable def tkW (ks:List Key):W:=.d (.tuple (ks.map keyD))
theorem keysA {K:PySem.W.Frag}{H:Hp}:∀ {ks:List Key} {vs:List V},RepA K H (ks.map keyD) vs->vs=ks.map kV
 | [],vs,h=>by simpa [RepA] using h
 | k :: ks,vs,h=>by
  simp only [List.map_cons,RepA] at h
  obtain ⟨v,r,e,h1,h2⟩:=h
  rw [e,key_rep h1,keysA h2]
  rfl
noncomputable def Rd2 (H:Hp)(a:Addr)(u:HO):Prop:=Rd H a u\/∃ o,H a=some (.frz o (.frz o u))
noncomputable def DGetS (K:PySem.W.Frag)(H:Hp)(a:Addr)(y:V)(r:Option V):Prop :=
 (∃ kvs k,Rd2 H a (.dK kvs)/\y=kV k/\r=valV kvs k)\/∃ kvs k b,Rd H a (.dT kvs)/\y=.ref b/\SqT K H b (k.map kV)/\r=valV kvs k
section
variable {X:Cx}{pins:List (Addr×Obj)}{σ:St}{H:Hp}{s:Shared}{a:Addr}{y d:V}{u r:Value}{o:Option V}{A:Around}{E:Value->Shared->Prop}
end
end D
namespace D
open PySem PySem.Spec PyProof.Rows L2
inductive DLook (M:MH):W->W->Option W->Prop
 | k {a:Addr} {kvs:List (Key×W)} {k:Key} (h:M a=some (.dic kvs)):DLook M (.m a) (kW k) (tget kvs k)
 | t {a:Addr} {kvs:List (List Key×W)} {ks:List Key} (h:M a=some (.dct kvs)):DLook M (.m a) (tkW ks) (tget kvs ks)
 | f {a:Addr} {kvs:List (Key×W)} {k:Key} (h:M a=some (.fdic kvs)):DLook M (.m a) (kW k) (tget kvs k)
 | d {kvs:List (Key×PyData)} {k:Key}:DLook M (.d (.dict (kvs.map λ p=>(keyD p.1,p.2)))) (kW k) ((tget kvs k).map W.d)
inductive DIs (M:MH):W->Prop
 | k {a:Addr} {kvs:List (Key×W)} (h:M a=some (.dic kvs)):DIs M (.m a)
 | t {a:Addr} {kvs:List (List Key×W)} (h:M a=some (.dct kvs)):DIs M (.m a)
 | d {kvs:List (PyData×PyData)}:DIs M (.d (.dict kvs))
theorem keyD_inj {a b:Key}(h:keyD a=keyD b):a=b:=by
 cases a <;> cases b <;> simp [keyD] at h <;> rw [h]
theorem repK_paired {K:PySem.W.Frag}{H:Hp}:∀ {kvs:List (Key×PyData)} {l:List (Key×V)},RepK K H (kvs.map λ p=>(keyD p.1,p.2)) l->Paired (λ (p:Key×PyData) (q:Key×V)=>p.1=q.1/\RepD K H p.2 q.2) kvs l
 | [],l,h=>by
  simp only [List.map_nil,RepK] at h
  subst h
  exact .nil
 | p :: kvs,l,h=>by
  simp only [List.map_cons,RepK] at h
  obtain ⟨key,v,r,e,ek,h1,h2⟩:=h
  subst e
  exact .cons ⟨keyD_inj ek,h1⟩ (repK_paired h2)
theorem DIs.sound {K:PySem.W.Frag}{H:Hp}{M:MH}{w:W}{x:V}(g:DIs M w)(r:RepW K H w x)(m:MAbs K H M):∃ a,x=.ref a/\IsD H a:=by
 cases g with
 | k h =>
  obtain ⟨l,e,_⟩:=m _ _ h
  exact ⟨_,r,.inl ⟨l,.inl e⟩⟩
 | t h =>
  obtain ⟨l,e,_⟩:=m _ _ h
  exact ⟨_,r,.inr ⟨l,.inl e⟩⟩
 | d =>
  simp only [RepW,RepD] at r
  obtain ⟨a,o,l,e,h,_⟩:=r
  exact ⟨a,e,.inl ⟨l,.inr ⟨o,h⟩⟩⟩
theorem DLook.sound {K:PySem.W.Frag}{H:Hp}{M:MH}{w y:W}{o:Option W}{x v:V}(g:DLook M w y o)(r:RepW K H w x)(ry:RepW K H y v)(m:MAbs K H M) :
  ∃ a p,x=.ref a/\DGetS K H a v p/\OR (RepW K H) o p:=by
 cases g with
 | @k a kvs k h =>
  obtain ⟨l,e,pr⟩:=m _ _ h
  exact ⟨_,_,r,.inl ⟨l,k,.inl (.inl e),kW_rep ry,rfl⟩,tb_get k pr⟩
 | @f a kvs k h =>
  obtain ⟨ob,l,e,pr⟩:=m _ _ h
  exact ⟨_,_,r,.inl ⟨l,k,.inr ⟨ob,e⟩,kW_rep ry,rfl⟩,tb_get k pr⟩
 | @t a kvs ks h =>
  obtain ⟨l,e,pr⟩:=m _ _ h
  simp only [tkW,RepW,RepD] at ry
  obtain ⟨b,vs,eb,hs,ra⟩:=ry
  rw [keysA ra] at hs
  exact ⟨_,_,r,.inr ⟨l,ks,b,.inl e,eb,hs,rfl⟩,tb_get ks pr⟩
 | @d kvs k =>
  simp only [RepW,RepD] at r
  obtain ⟨a,ob,l,e,h,rk⟩:=r
  refine ⟨a,_,e,.inl ⟨l,k,.inl (.inr ⟨ob,h⟩),kW_rep ry,rfl⟩,?_⟩
  have g:=tb_get (R:=λ d q=>RepD K H d q) k (repK_paired rk)
  cases q:tget kvs k with
  | none=>rw [q] at g; rw [OR.none_of g]; exact True.intro
  | some z =>
   rw [q] at g
   obtain ⟨b,eb,rb⟩:=OR.some_of g
   rw [eb]
   exact rb
section
variable {X:Cx}{o i e f:Expr}{pos apos cpos:Pos}{td ty tx:TE}
end
section
variable {X:Cx}{o i:Expr}{pos:Pos}{td ty:TE}
end
section
variable {X:Cx}{o i e f value:Expr}{es:List Expr}{pos pos' apos cpos:Pos}{td ti tx tv:TD}{t:TAd}
theorem OR.getD {K:PySem.W.Frag}{H:Hp}{o:Option W}{p:Option V}{z:W}{v:V}(h:OR (RepW K H) o p)(r:RepW K H z v):RepW K H (o.getD z) (p.getD v):=by
 cases o with
 | none=>rw [OR.none_of h]; exact r
 | some a=>obtain ⟨b,e,q⟩:=OR.some_of h; rw [e]; exact q
end
end D
namespace D
open PySem PySem.Spec PyProof.Rows L2
noncomputable abbrev FRep (K:PySem.W.Frag)(H:Hp):List (Str×W)->List (Str×V)->Prop:=Paired (λ (p:Str×W) (q:Str×V)=>p.1=q.1/\RepW K H p.2 q.2)
theorem fr_lookup {K:PySem.W.Frag}{H:Hp}(f:Str):∀ {fs:List (Str×W)} {l:List (Str×V)},FRep K H fs l->OR (RepW K H) (fs.lookup f) (l.lookup f)
 | _,_,.nil=>True.intro
 | _,_,.cons (a:=p) (b:=q) (l₁:=t1) (l₂:=t2) h t=>by
  obtain ⟨pk,pv⟩:=p
  obtain ⟨qk,qv⟩:=q
  obtain ⟨h1,h2⟩:=h
  have h1':pk=qk:=h1
  subst h1'
  rw [List.lookup_cons,List.lookup_cons]
  cases e:(f == pk) with
  | true=>exact h2
  | false=>exact fr_lookup f t
theorem FRep.keep {K:PySem.W.Frag}{H H':Hp}(kp:Kp H H'){fs:List (Str×W)}{l:List (Str×V)}(h:FRep K H fs l):FRep K H' fs l:=Paired.mapP h λ p q z=>⟨z.1,z.2.keep kp⟩
section
variable {X:Cx}{C f:Addr}{o e value:Expr}{es:List Expr}{fn m x:Str}{pos pos' apos p:Pos}{td tv te:TD}{t:TAd}{k:Nat}{fd:FuncData}{ps:List Str}{sp:SpD}
end
section
variable {X:Cx}{o e:Expr}{pos apos cpos:Pos}{td te:TD}
end
end D
namespace D
open PySem PySem.Spec PyProof.Rows L2
noncomputable def RepT (K:PySem.W.Frag)(H:Hp)(d:PyData)(x:V):Prop:=RepD K H d x\/∃ a vs ds,d=.list ds/\x=.ref a/\H a=some (.lst vs)/\RepA K H ds vs
inductive DatW (M:MH):W->PyData->Prop
 | d {x:PyData}:DatW M (.d x) x
 | l {a:Addr} {ds:List PyData} (h:M a=some (.lst (ds.map W.d))):DatW M (.m a) (.list ds)
theorem DatW.sound {K:PySem.W.Frag}{H:Hp}{M:MH}{w:W}{d:PyData}{x:V}(g:DatW M w d)(r:RepW K H w x)(m:MAbs K H M):RepT K H d x:=by
 cases g with
 | d=>exact .inl r
 | l h =>
  obtain ⟨vs,e,ra⟩:=m _ _ h
  exact .inr ⟨_,vs,_,rfl,r,e,ra.data⟩
section
variable {X:Cx}{pins:List (Addr×Obj)}{σ:St}{H:Hp}{s:Shared}
theorem thaw (I:Inv X pins σ H s){d:PyData}{x:V}(h:RepT X.K H d x):∃ H',Inv X pins σ H' s/\RepD X.K H' d x:=by
 rcases h with h | ⟨a,vs,ds,rfl,rfl,e,ra⟩
 ·exact ⟨H,I,h⟩
 ·obtain ⟨o,I2⟩:=I.freeze e trivial
  have kp:Kp H (upd H a (.frz o (.lst vs))):=Kp.set e (λ _ z=>nomatch z) (λ _ _ z=>nomatch z)
  refine ⟨_,I2,?_⟩
  simp only [RepD]
  exact ⟨a,vs,rfl,.inl ⟨o,upd_same⟩,ra.keep kp⟩
theorem readsT_of (I:Inv X pins σ H s)(d:PyData){x:V}{u:Value}(h:RepT X.K H d x)(r:RelV x u)(hd:d.hasDict=false):∃ as,Reads s.heap u d as:=by
 obtain ⟨H',I',h'⟩:=thaw I h
 exact reads_of I' d h' r hd
theorem readsT_repr (I:Inv X pins σ H s){d:PyData}{x:V}{u:Value}(h:RepT X.K H d x)(r:RelV x u)(ok:reprOk d=true):∃ as,Reads s.heap u d as/\(d.hasDict=true->sysModules ∉ as):=by
 obtain ⟨H',I',h'⟩:=thaw I h
 exact reads_repr I' h' r ok
end
section
variable {X:Cx}
theorem call_reprT {k:Nat}(hr:Room k X.A):CallR X (.builtin "repr") (λ xs H Q=>∃ x d,xs=[x]/\RepT X.K H d x/\reprOk d=true/\Q (.str d.shown) H):=by
 intro pins s σ H xs us Q I r h
 obtain ⟨x,d,rfl,rd,ok,q⟩:=h
 obtain ⟨u,rfl,rx⟩:=vals1 r
 obtain ⟨as,rr,hsm⟩:=readsT_repr I rd rx ok
 have ok':=ok
 simp only [reprOk,Bool.and_eq_true,decide_eq_true_eq] at ok'
 obtain ⟨⟨⟨hs,hz⟩,hd⟩,_⟩:=ok'
 have hu:=hr.units
 cases rr with
 | none=>exact PySem.P.repr_of_none ⟨.str _,H,I.tok _,⟨_,rfl⟩,by simpa [PyData.shown] using q⟩
 | bool b=>exact PySem.P.repr_of_bool ⟨.str _,H,I.tok _,⟨_,rfl⟩,by simpa [PyData.shown] using q⟩
 | int i t =>
  refine PySem.P.repr_of_int (by simpa [PyData.showable] using hs) ⟨.str _,H,I.tok _,⟨_,rfl⟩,?_⟩
  rw [PyData.shown] at q
  exact q
 | str i t =>
  refine PySem.P.repr_of_str ⟨.str _,H,I.tok _,⟨_,rfl⟩,?_⟩ (by simpa [PyData.shown] using hz)
  rw [PyData.shown] at q
  exact q
 | list e1 e2 e3 e4=>exact repr_of_reads' (.list e1 e2 e3 e4) hs hsm hr.gd (by omega) (λ _ _ z=>z) (λ h' u tk hk=>⟨.str _,H,I.kept hk,⟨_,rfl⟩,q⟩) hz
 | tuple e1 e2 e3 e4=>exact repr_of_reads' (.tuple e1 e2 e3 e4) hs hsm hr.gd (by omega) (λ _ _ z=>z) (λ h' u tk hk=>⟨.str _,H,I.kept hk,⟨_,rfl⟩,q⟩) hz
 | dict e1 e2 e3 e4 e5=>exact repr_of_reads' (.dict e1 e2 e3 e4 e5) hs hsm hr.gd (by omega) (λ _ _ z=>z) (λ h' u tk hk=>⟨.str _,H,I.kept hk,⟨_,rfl⟩,q⟩) hz
theorem op_eqT {k:Nat}(hr:Room k X.A):OpR X (compareOp .Eq) (λ x y H Q=>∃ d d',RepT X.K H d x/\RepT X.K H d' y/\eqOk2 d d'=true/\Q (.bl (PyData.eqv d d')) H):=by
 intro pins s σ H x y v u Q I rx ry h
 obtain ⟨d,d',h1,h2,o,q⟩:=h
 rcases eqOk2_cases o with ⟨a,b,e1,e2⟩ | ⟨o1,o2⟩
 ·subst e1; subst e2
  rcases h1 with h1 | ⟨_,_,_,z,_⟩
  ·rcases h2 with h2 | ⟨_,_,_,z,_⟩
   ·exact op_eqD hr pins s σ H x y v u Q I rx ry ⟨_,_,h1,h2,o,q⟩
   ·cases z
  ·cases z
 simp only [eqOk,Bool.and_eq_true,Bool.not_eq_true'] at o1 o2
 obtain ⟨as,r1⟩:=readsT_of I d h1 rx o1.2
 obtain ⟨bs,r2⟩:=readsT_of I d' h2 ry o2.2
 exact eq_dataH r1 r2 o1.1 o2.1 hr.units ⟨.bl _,H,I,rfl,q⟩
theorem op_neT {k:Nat}(hr:Room k X.A):OpR X (compareOp .NotEq) (λ x y H Q=>∃ d d',RepT X.K H d x/\RepT X.K H d' y/\eqOk2 d d'=true/\Q (.bl (!PyData.eqv d d')) H):=by
 intro pins s σ H x y v u Q I rx ry h
 obtain ⟨d,d',h1,h2,o,q⟩:=h
 rcases eqOk2_cases o with ⟨a,b,e1,e2⟩ | ⟨o1,o2⟩
 ·subst e1; subst e2
  rcases h1 with h1 | ⟨_,_,_,z,_⟩
  ·rcases h2 with h2 | ⟨_,_,_,z,_⟩
   ·exact op_neD hr pins s σ H x y v u Q I rx ry ⟨_,_,h1,h2,o,q⟩
   ·cases z
  ·cases z
 simp only [eqOk,Bool.and_eq_true,Bool.not_eq_true'] at o1 o2
 obtain ⟨as,r1⟩:=readsT_of I d h1 rx o1.2
 obtain ⟨bs,r2⟩:=readsT_of I d' h2 ry o2.2
 exact ne_dataH r1 r2 o1.1 o2.1 hr.units ⟨.bl _,H,I,rfl,q⟩
end
section
variable {X:Cx}{K:PySem.W.Frag}
noncomputable def rdEqT (w w':W)(M:MH)(Q:QD):Prop:=∃ d d',DatW M w d/\DatW M w' d'/\eqOk2 d d'=true/\Q (.d (.bool (PyData.eqv d d'))) M
noncomputable def rdNeT (w w':W)(M:MH)(Q:QD):Prop:=∃ d d',DatW M w d/\DatW M w' d'/\eqOk2 d d'=true/\Q (.d (.bool (!PyData.eqv d d'))) M
theorem opd_eqT:OpD K (λ x y H Q=>∃ d d',RepT K H d x/\RepT K H d' y/\eqOk2 d d'=true/\Q (.bl (PyData.eqv d d')) H) rdEqT:=by
 intro x y H w w' M Qd Q r1 r2 m ⟨d,d',g1,g2,o1,q⟩ k
 exact ⟨d,d',g1.sound r1 m,g2.sound r2 m,o1,k _ H (.d (.bool _)) M (Kp.refl H) (by simp [RepW,RepD]) m q⟩
theorem opd_neT:OpD K (λ x y H Q=>∃ d d',RepT K H d x/\RepT K H d' y/\eqOk2 d d'=true/\Q (.bl (!PyData.eqv d d')) H) rdNeT:=by
 intro x y H w w' M Qd Q r1 r2 m ⟨d,d',g1,g2,o1,q⟩ k
 exact ⟨d,d',g1.sound r1 m,g2.sound r2 m,o1,k _ H (.d (.bool _)) M (Kp.refl H) (by simp [RepW,RepD]) m q⟩
inductive SeqW (M:MH):W->List W->Prop
 | l {ds:List PyData}:SeqW M (.d (.list ds)) (ds.map W.d)
 | t {ds:List PyData}:SeqW M (.d (.tuple ds)) (ds.map W.d)
 | m {a:Addr} {ws:List W} (h:M a=some (.lst ws)):SeqW M (.m a) ws
theorem SeqW.sound {H:Hp}{M:MH}{w:W}{ws:List W}{x:V}(g:SeqW M w ws)(r:RepW K H w x)(m:MAbs K H M):∃ p ys,x=.ref p/\(SqL K H p ys\/SqT K H p ys)/\RepWs K H ws ys:=by
 cases g with
 | l =>
  simp only [RepW,RepD] at r
  obtain ⟨a,vs,e,hs,ra⟩:=r
  exact ⟨a,vs,e,.inl hs.sq,ra.ws⟩
 | t =>
  simp only [RepW,RepD] at r
  obtain ⟨a,vs,e,hs,ra⟩:=r
  exact ⟨a,vs,e,.inr hs,ra.ws⟩
 | m h =>
  obtain ⟨vs,e,ra⟩:=m _ _ h
  exact ⟨_,vs,r,.inl (.inl (.inl e)),ra⟩
inductive TruW (M:MH):W->Bool->Prop
 | n:TruW M (.d .none) false
 | b {k:Bool}:TruW M (.d (.bool k)) k
 | i {k:Int}:TruW M (.d (.int k)) (k != 0)
 | s {z:Str} (h:z.length<=sizeLine):TruW M (.d (.str z)) ((z.length:Int) != 0)
 | l {ds:List PyData}:TruW M (.d (.list ds)) (!ds.isEmpty)
 | t {ds:List PyData}:TruW M (.d (.tuple ds)) (!ds.isEmpty)
 | m {a:Addr} {ws:List W} (h:M a=some (.lst ws)):TruW M (.m a) (!ws.isEmpty)
 | dk {a:Addr} {kvs:List (Key×W)} (h:M a=some (.dic kvs)):TruW M (.m a) (!kvs.isEmpty)
theorem empty_len {α β:Type}{xs:List α}{ys:List β}(h:xs.length=ys.length):xs.isEmpty=ys.isEmpty:=by
 cases xs <;> cases ys <;> simp at h ⊢
theorem TruW.sound {H:Hp}{M:MH}{w:W}{b:Bool}{x:V}(g:TruW M w b)(r:RepW K H w x)(m:MAbs K H M):TruV K x H b:=by
 cases g with
 | n=>simp only [RepW,RepD] at r; subst r; rfl
 | b=>simp only [RepW,RepD] at r; subst r; rfl
 | i=>simp only [RepW,RepD] at r; subst r; rfl
 | s h=>simp only [RepW,RepD] at r; subst r; exact ⟨h,rfl⟩
 | l =>
  simp only [RepW,RepD] at r
  obtain ⟨a,vs,e,hs,ra⟩:=r
  subst e
  exact .inl ⟨vs,hs.sq,by rw [empty_len ra.length]⟩
 | t =>
  simp only [RepW,RepD] at r
  obtain ⟨a,vs,e,hs,ra⟩:=r
  subst e
  exact .inr (.inl ⟨vs,hs,by rw [empty_len ra.length]⟩)
 | m h =>
  obtain ⟨vs,e,ra⟩:=m _ _ h
  have r':x=.ref _:=r
  subst r'
  exact .inl ⟨vs,.inl (.inl e),by rw [empty_len ra.length]⟩
 | dk h =>
  obtain ⟨l,e,pr⟩:=m _ _ h
  have r':x=.ref _:=r
  subst r'
  exact .inr (.inr ⟨l,e,by rw [empty_len (tb_len pr)]⟩)
noncomputable def rdInt (ws:List W)(M:MH)(Q:QD):Prop:=(∃ i,ws=[.d (.int i)]/\Q (.d (.int i)) M)\/∃ b,ws=[.d (.bool b)]/\Q (.d (.int (if b then 1 else 0))) M
theorem cd_int:CallD K (λ xs H Q=>(∃ i,xs=[.int i]/\Q (.int i) H)\/∃ k,xs=[.bl k]/\Q (.int (if k then 1 else 0)) H) rdInt:=by
 intro vs H ws M Qd Q r m h k
 rcases h with ⟨i,e,q⟩ | ⟨b,e,q⟩
 ·subst e
  obtain ⟨v,e1,r1⟩:=repWs1 r
  simp only [RepW,RepD] at r1
  subst r1
  exact .inl ⟨i,e1,k _ H (.d (.int i)) M (Kp.refl H) (by simp [RepW,RepD]) m q⟩
 ·subst e
  obtain ⟨v,e1,r1⟩:=repWs1 r
  simp only [RepW,RepD] at r1
  subst r1
  exact .inr ⟨b,e1,k _ H (.d (.int _)) M (Kp.refl H) (by simp [RepW,RepD]) m q⟩
end
end D
namespace D
open PySem PySem.Spec PyProof.Rows L2
section
variable {X:Cx}{K:PySem.W.Frag}
noncomputable def rCatS (K:PySem.W.Frag):R2:=λ x y H Q=>∃ l b xs zs,x=.ref l/\y=.ref b/\SqL K H l xs/\SqL K H b zs/\xs.length+zs.length<=sizeLine/\∀ p,H p=none->Q (.ref p) (upd H p (.lst (xs++zs)))
theorem op_catS:OpR X (binaryOp .Add) (rCatS X.K):=by
 intro pins s σ H x y v u Q I rx ry h
 obtain ⟨l,b,xs,zs,rfl,rfl,h1,h2,hz,q⟩:=h
 cases rx
 cases ry
 obtain ⟨its,r1,p1,_⟩:=I.list h1
 obtain ⟨its2,r2,p2,_⟩:=I.list h2
 have t1:=p1.isList.typeIs (s:=s)
 have t2:=p2.isList.typeIs (s:=s)
 obtain ⟨⟨oc,od,odt,osl⟩,n,e1,c1,d1,g1⟩:=p1
 obtain ⟨⟨oc2,od2,odt2,osl2⟩,n2,e2,c2,d2,g2⟩:=p2
 dsimp only at c1 d1 g1 c2 d2 g2
 subst c1 d1 g1 c2 d2 g2
 have hl1:=r1.length
 have hl2:=r2.length
 refine wpAny_binaryOp_concat (T := "list") t1 t2 noFill_list_add seq_list_add ?_
 refine call_meets PySem.F.slot_list_add t1 PySem.F.entry_list_add (PySem.F.args_list_add_2 _ _) (list_addW l b its.toArray its2.toArray n n2 none none osl osl2 (by simp only [List.size_toArray]; omega)) ⟨e1,e2,?_⟩
 have ea:its.toArray++its2.toArray=(its++its2).toArray:=by simp
 rw [ea]
 exact ⟨.ref _,_,I.lnew (t':=s.toks) (r1.append r2) (by rw [List.length_append]; omega),rfl,q _ I.fresh⟩
inductive LstW (M:MH):W->List PyData->Prop
 | d {ds:List PyData}:LstW M (.d (.list ds)) ds
 | m {a:Addr} {ds:List PyData} (h:M a=some (.lst (ds.map W.d))):LstW M (.m a) ds
theorem LstW.sound {H:Hp}{M:MH}{w:W}{ds:List PyData}{x:V}(g:LstW M w ds)(r:RepW K H w x)(m:MAbs K H M):∃ p ys,x=.ref p/\SqL K H p ys/\RepA K H ds ys:=by
 cases g with
 | d =>
  simp only [RepW,RepD] at r
  obtain ⟨a,vs,e,hs,ra⟩:=r
  exact ⟨a,vs,e,hs.sq,ra⟩
 | m h =>
  obtain ⟨vs,e,ra⟩:=m _ _ h
  exact ⟨_,vs,r,.inl (.inl e),ra.data⟩
noncomputable def dCat (ta tb:TD)(τ:DS)(M:MH)(Q:QD):Prop:=ta τ M λ w M1=>tb τ M1 λ w' M2=>∃ xs ys,LstW M2 w xs/\LstW M2 w' ys/\xs.length+ys.length<=sizeLine/\Q (.d (.list (xs++ys))) M2
theorem pd_cat {a b:Expr}{pos:Pos}{ta tb:TD}(ha:PD X a ta)(hb:PD X b tb):PD X (.BinOp a .Add b pos) (dCat ta tb):=pe_w (pe_frz (pe_op op_catS ha hb)) λ σ H Q h=>by
 obtain ⟨τ,M,Qd,A,h,k⟩:=h
 refine ⟨τ,M,_,A,h,λ x H1 w M1 kp1 r1 m1 q1=>⟨τ,M1,_,A.go kp1 m1,q1,λ y H2 w' M2 kp2 r2 m2 hq41=>?_⟩⟩
 obtain ⟨xs,ys,g1,g2,hz,q⟩:=hq41
 obtain ⟨p,vs,e1,s1,ra1⟩:=g1.sound (r1.keep kp2) m2
 obtain ⟨p',vs',e2,s2,ra2⟩:=g2.sound r2 m2
 refine ⟨p,p',vs,vs',e1,e2,s1,s2,by rw [ra1.length,ra2.length]; exact hz,λ c hc=>?_⟩
 exact imp_frz hc (ra1.append ra2) m2 q (kgo (kgo k kp1) kp2)
end
section
variable {X:Cx}{pos:Pos}{e:Expr}{es:List Expr}
end
end D
namespace D
open PySem PySem.Spec PyProof.Rows L2
section
variable {K:PySem.W.Frag}{C:Addr}
end
section
variable {X:Cx}{pos p:Pos}{e:Expr}{es:List Expr}{t:TAd}{x:Str}{T:String}{r:List V->Hp->VK->Prop}{rd:List W->MH->QD->Prop}
theorem pcT (hc:CallR X (.type T) r)(hd:CallD X.K r rd)(hg:Gl X x)(hm:X.mg x=none)(hv:bootBuiltins x=some (.type T))(ha:PAd X (e :: es) t)(hn:x ≠ "__name__" := by decide)(hdb:(x == ("__debug__" : Str))=false:=by decide)
  (h1:isSt e=false:=by rfl)(h2:(es.all λ e=>!isSt e)=true:=by rfl):PD X (.Call (.Name x p) (e :: es) [] pos) (dCB rd t):=pd_callTy hc hd hg hm hv ha hn hdb (star_ok e es X.env h1) (plain_ok pos X.env es h2)
end
end D
namespace D
open PySem PySem.Spec PyProof.Rows L2
namespace Q
section
variable {X:Cx}{o i e f:Expr}{pos apos cpos:Pos}{td ty tx:TE}
end
section
variable {X:Cx}{o i e f value:Expr}{es:List Expr}{pos pos' apos cpos:Pos}{td ti tx tv:TD}{t:TAd}
end
section
variable {X:Cx}{C f:Addr}{o e value:Expr}{es:List Expr}{fn m x:Str}{pos pos' apos p:Pos}{td tv te:TD}{t:TAd}{k:Nat}{fd:FuncData}{ps:List Str}{sp:SpD}
end
section
variable {X:Cx}{o e:Expr}{pos apos cpos:Pos}{td te:TD}
end
section
variable {X:Cx}{pins:List (Addr×Obj)}{σ:St}{H:Hp}{s:Shared}
end
section
variable {X:Cx}
end
section
variable {X:Cx}{K:PySem.W.Frag}
end
section
variable {X:Cx}{K:PySem.W.Frag}
theorem pd_cat {a b:Expr}{pos:Pos}{ta tb:TD}(ha:Jd (PD X a ta))(hb:Jd (PD X b tb)):Jd (PD X (.BinOp a .Add b pos) (dCat ta tb)):=⟨D.pd_cat (ha:=ha.h) (hb:=hb.h)⟩
end
section
variable {X:Cx}{pos:Pos}{e:Expr}{es:List Expr}
end
section
variable {K:PySem.W.Frag}{C:Addr}
end
section
variable {X:Cx}{pos p:Pos}{e:Expr}{es:List Expr}{t:TAd}{x:Str}{T:String}{r:List V->Hp->VK->Prop}{rd:List W->MH->QD->Prop}
theorem pcT (hc:CallR X (.type T) r)(hd:CallD X.K r rd)(hg:Gl X x)(hm:X.mg x=none)(hv:bootBuiltins x=some (.type T))(ha:Jd (PAd X (e :: es) t))(hn:x ≠ "__name__" := by decide)(hdb:(x == ("__debug__" : Str))=false:=by decide)(h1:isSt e=false:=by rfl)(h2:(es.all λ e=>!isSt e)=true:=by rfl):Jd (PD X (.Call (.Name x p) (e :: es) [] pos) (dCB rd t)):=⟨D.pcT (hc:=hc) (hd:=hd) (hg:=hg) (hm:=hm) (hv:=hv) (ha:=ha.h) (hn:=hn) (hdb:=hdb) (h1:=h1) (h2:=h2)⟩
end
end Q
end D
namespace D
open PySem PySem.Spec PyProof.Rows L2
@[simp] theorem eqOk2_int (i j:Int):eqOk2 (.int i) (.int j)=true:=rfl
@[simp] theorem eqOk2_str (x y:Str):eqOk2 (.str x) (.str y)=true:=rfl
@[simp] theorem eqOk2_bool (x y:Bool):eqOk2 (.bool x) (.bool y)=true:=rfl
@[simp] theorem eqv_int (i j:Int):PyData.eqv (.int i) (.int j)=(i == j):=by rw [PyData.eqv]
@[simp] theorem eqv_str (i j:Str):PyData.eqv (.str i) (.str j)=(i == j):=by rw [PyData.eqv]
@[simp] theorem fitW_m (a:Addr):fitW (.m a)=true:=rfl
@[simp] theorem fitW_list (ds:List PyData):fitW (.d (.list ds))=true:=rfl
@[simp] theorem fitW_tuple (ds:List PyData):fitW (.d (.tuple ds))=true:=rfl
@[simp] theorem ixN_zero (n:Nat):ixN (n+1) 0=some 0:=by unfold ixN; simp
theorem atI_nn {α:Type}{xs:List α}{i:Int}(h0:0<=i)(h1:i < xs.length):atI xs i=some (xs[i.toNat]'(by omega)):=by
 unfold atI ixN
 rw [if_pos h0,if_pos h1]
 simp
inductive Bag (M:MH) (p:Addr):Prop
 | mk (a b c:Int) (ns:List Int) (e:M p=some (.lst [.d (.int a),.d (.int b),.d (.int c),.d (.list (ns.map PyData.int))])) (z:0<=a/\0<=b/\b < 2147483647/\0<=c/\(∀ n∈ns,0<=n)):Bag M p
noncomputable def sp_l_bag:SpD:=λ ws M Q=>∃ ns:List Int,ws=[.d (.list (ns.map PyData.int))]/\ns.length<=1000/\∀ p M',M p=none->(∀ q,q≠p->M' q=M q)->Bag M' p->Q (.m p) M'
inductive Sp_l_take (ws:List W) (M:MH) (Q:QD):Prop
 | mk (p:Addr) (n:Int) (z0:ws=[.m p,.d (.int n)]) (z1:Bag M p) (z2:0 < n) (z3:n < 1073741824) (z4:∀ (r:Int) M',0<=r->r < n->Bag M' p->(∀ q,q≠p->M' q=M q)->Q (.d (.int r)) M'):Sp_l_take ws M Q
noncomputable def sp_l_take:SpD:=Sp_l_take
theorem len_l_bag:∀ ws M Q,sp_l_bag ws M Q->ws.length=1:=by rintro ws M Q ⟨ns,rfl,_⟩; rfl
theorem len_l_take:∀ ws M Q,sp_l_take ws M Q->ws.length=2:=by rintro ws M Q ⟨p,n,rfl,_⟩; rfl
theorem ixN_nat {n:Nat}{i:Int}(h0:0<=i)(h1:i < n):ixN n i=some i.toNat:=by unfold ixN; rw [if_pos h0,if_pos h1]
theorem ix_m {M:MH}{p:Addr}{ws:List W}{i:Int}{x:W}(hm:M p=some (.lst ws))(h:atI ws i=some x):ixW M (.m p) i=some x:=by
 simp only [ixW,hm]; exact h
theorem ite_b {c:Bool}{A B:Prop}(h1:c=true->A)(h2:c=false->B):if c=true then A else B:=by
 cases c with
 | true=>rw [if_pos rfl]; exact h1 rfl
 | false=>rw [if_neg Bool.false_ne_true]; exact h2 rfl
end D
namespace D
open PySem PySem.Spec PyProof.Rows L2
noncomputable abbrev N_l_bag:List Str:=["_law_script"]
noncomputable def t_l_bag:TSd :=
  dRet (dLstM (dCons (dC (.d (.int 0))) (dCons (dC (.d (.int 1234567891))) (dCons (dC (.d (.int 0))) (dCons (dLC (dItems (dSl (dVar 0) (dNoPart) (dPart (dC (.d (.int 63)))))) (gN 0) (dYes) (dCB rdAbs (dCons (dVar 0) (dNil))) 1 []) (dNil))))))
noncomputable abbrev N_l_take:List Str:=["_law_bag_here", "_law_many", "_law_cell", "_law_value", "_law_first", "_law_second"]
noncomputable def t_l_take:TSd :=
  dSeq (dIf (dTest (dOp rdEq (dOp rdIx (dVar 0) (dC (.d (.int 0)))) (dC (.d (.int 0)))))
   (dSeq (dAsg (dC (.d (.int 0))) (gN 2)) <|
   dSeq (dIf (dTest (dOp rdLt (dOp rdIx (dVar 0) (dC (.d (.int 2)))) (dCB rdLen (dCons (dOp rdIx (dVar 0) (dC (.d (.int 3)))) (dNil)))))
    (dAsg (dOp rdIx (dOp rdIx (dVar 0) (dC (.d (.int 3)))) (dOp rdIx (dVar 0) (dC (.d (.int 2))))) (gN 2))
    (dNext)) <|
   dSeq (dAugS (dVar 0) (dC (.d (.int 2))) (dC (.d (.int 1))) (λ i j=>i+j)) <|
   dSeq (dIf (dTest (dOp rdGe (dVar 2) (dC (.d (.int 1000000000000000000)))))
    (dAsg (dVar 2) (gSet (dVar 0) (dC (.d (.int 0)))))
    (dNext)) <|
   dAsg (dOp rdMod (dOp rdAdd (dOp rdAdd (dOp rdMul (dOp rdIx (dVar 0) (dC (.d (.int 1)))) (dC (.d (.int 48271)))) (dOp rdMod (dVar 2) (dC (.d (.int 2147483647))))) (dOp rdMul (dC (.d (.int 7919))) (dOp rdIx (dVar 0) (dC (.d (.int 2)))))) (dC (.d (.int 2147483647)))) (gSet (dVar 0) (dC (.d (.int 1)))))
   (dNext)) <|
  dSeq (dIf (dTest (dOp rdGt (dOp rdIx (dVar 0) (dC (.d (.int 0)))) (dC (.d (.int 0)))))
   (dSeq (dAsg (dOp rdMod (dOp rdIx (dVar 0) (dC (.d (.int 0)))) (dVar 1)) (gN 3)) <|
   dSeq (dAsg (dOp rdDiv (dOp rdIx (dVar 0) (dC (.d (.int 0)))) (dVar 1)) (gSet (dVar 0) (dC (.d (.int 0))))) <|
   dRet (dVar 3))
   (dNext)) <|
  dSeq (dAsg (dOp rdMod (dOp rdMul (dOp rdAdd (dOp rdIx (dVar 0) (dC (.d (.int 1)))) (dC (.d (.int 1)))) (dC (.d (.int 39373)))) (dC (.d (.int 1000000007)))) (gN 4)) <|
  dSeq (dAsg (dOp rdMod (dOp rdMul (dOp rdMod (dOp rdMul (dVar 4) (dVar 4)) (dC (.d (.int 998244353)))) (dC (.d (.int 30011)))) (dC (.d (.int 998244353)))) (gN 5)) <|
  dSeq (dIf (dTest (dOp rdGt (dVar 1) (dC (.d (.int 1000000)))))
   (dRet (dOp rdMod (dOp rdAdd (dOp rdMul (dVar 5) (dC (.d (.int 1000000007)))) (dVar 4)) (dVar 1)))
   (dNext)) <|
  dRet (dOp rdMod (dOp rdDiv (dVar 5) (dC (.d (.int 7)))) (dVar 1))
noncomputable abbrev bagL (a b c:Int)(ns:List Int):List W:=[.d (.int a),.d (.int b),.d (.int c),.d (.list (ns.map PyData.int))]
theorem read_take2 {M:MH}{Q:QD}{p:Addr}{n:Int}{a b c:Int}{ns:List Int}{x:Option W}(hm:M p=some (.lst (bagL a b c ns)))(ha:0<=a)(hb:0<=b)(hb2:b < 2147483647)(hc:0<=c)(hns:∀ n∈ns,0<=n)(hn:0 < n)(hn2:n < 1073741824)
  (k:∀ (r:Int) M',0<=r->r < n->Bag M' p->(∀ q,q≠p->M' q=M q)->Q (.d (.int r)) M'){D:Ed}(hD:D.rt=Q) :
  (dSeq (dIf (dTest (dOp rdGt (dOp rdIx (dVar 0) (dC (.d (.int 0)))) (dC (.d (.int 0)))))
   (dSeq (dAsg (dOp rdMod (dOp rdIx (dVar 0) (dC (.d (.int 0)))) (dVar 1)) (gN 3)) <|
   dSeq (dAsg (dOp rdDiv (dOp rdIx (dVar 0) (dC (.d (.int 0)))) (dVar 1)) (gSet (dVar 0) (dC (.d (.int 0))))) <|
   dRet (dVar 3))
   (dNext)) <|
  dSeq (dAsg (dOp rdMod (dOp rdMul (dOp rdAdd (dOp rdIx (dVar 0) (dC (.d (.int 1)))) (dC (.d (.int 1)))) (dC (.d (.int 39373)))) (dC (.d (.int 1000000007)))) (gN 4)) <|
  dSeq (dAsg (dOp rdMod (dOp rdMul (dOp rdMod (dOp rdMul (dVar 4) (dVar 4)) (dC (.d (.int 998244353)))) (dC (.d (.int 30011)))) (dC (.d (.int 998244353)))) (gN 5)) <|
  dSeq (dIf (dTest (dOp rdGt (dVar 1) (dC (.d (.int 1000000)))))
   (dRet (dOp rdMod (dOp rdAdd (dOp rdMul (dVar 5) (dC (.d (.int 1000000007)))) (dVar 4)) (dVar 1)))
   (dNext)) <|
  dRet (dOp rdMod (dOp rdDiv (dVar 5) (dC (.d (.int 7)))) (dVar 1))) D [some (.m p),some (.d (.int n)),x,none,none,none] M:=by
 subst hD
 have i0:ixW M (.m p) 0=some (.d (.int a)):=ix_m hm rfl
 have i1:ixW M (.m p) 1=some (.d (.int b)):=ix_m hm rfl
 have same:Bag M p:=⟨a,b,c,ns,hm,ha,hb,hb2,hc,hns⟩
 refine ⟨_,rfl,_,_,rfl,i0,rfl,_,_,rfl,rfl,_,rfl,?_⟩
 refine ite_b (λ h=>?_) (λ h=>?_)
 ·have h0:0 < a:=of_decide_eq_true h
  refine ⟨_,rfl,_,_,rfl,i0,rfl,_,rfl,_,_,rfl,rfl,hn,?_⟩
  refine ⟨_,rfl,_,_,rfl,i0,rfl,_,rfl,_,_,rfl,rfl,⟨hn,hn2⟩,?_⟩
  refine ⟨_,rfl,_,_,_,_,rfl,rfl,hm,rfl,?_⟩
  refine ⟨_,rfl,?_⟩
  refine k _ _ (Int.emod_nonneg _ (by omega)) (Int.emod_lt_of_pos _ hn) ⟨a / n,b,c,ns,updM_same,Int.ediv_nonneg ha (by omega),hb,hb2,hc,hns⟩ λ q hq=>updM_ne hq
 ·refine ⟨_,rfl,_,_,rfl,i1,rfl,.inl ?_⟩
  refine ⟨_,_,rfl,rfl,_,_,rfl,rfl,.inl ⟨by omega,by omega⟩,_,_,rfl,rfl,(by decide:(0:Int) < 1000000007),?_⟩
  have f0:0<=(b+1) * 39373 % 1000000007:=Int.emod_nonneg _ (by decide)
  have f1:(b+1) * 39373 % 1000000007 < 1000000007:=Int.emod_lt_of_pos _ (by decide)
  refine ⟨_,rfl,_,rfl,_,_,rfl,rfl,.inl ⟨by omega,by omega⟩,_,_,rfl,rfl,(by decide:(0:Int) < 998244353),?_⟩
  have g0:0<=(b+1) * 39373 % 1000000007 * ((b+1) * 39373 % 1000000007) % 998244353:=Int.emod_nonneg _ (by decide)
  have g1:(b+1) * 39373 % 1000000007 * ((b+1) * 39373 % 1000000007) % 998244353 < 998244353:=Int.emod_lt_of_pos _ (by decide)
  refine ⟨_,_,rfl,rfl,.inl ⟨by omega,by omega⟩,_,_,rfl,rfl,(by decide:(0:Int) < 998244353),?_⟩
  have e0:0<=(b+1) * 39373 % 1000000007 * ((b+1) * 39373 % 1000000007) % 998244353 * 30011 % 998244353:=Int.emod_nonneg _ (by decide)
  have e1:(b+1) * 39373 % 1000000007 * ((b+1) * 39373 % 1000000007) % 998244353 * 30011 % 998244353 < 998244353:=Int.emod_lt_of_pos _ (by decide)
  refine ⟨_,rfl,_,_,rfl,rfl,_,rfl,?_⟩
  refine ite_b (λ h=>?_) (λ h=>?_)
  ·refine ⟨_,rfl,_,_,rfl,rfl,.inl ⟨by omega,by omega⟩,_,rfl,.inl ⟨_,_,rfl,rfl,_,rfl,_,_,rfl,rfl,hn,?_⟩⟩
   exact k _ _ (Int.emod_nonneg _ (by omega)) (Int.emod_lt_of_pos _ hn) same λ q _=>rfl
  ·refine ⟨_,rfl,_,_,rfl,rfl,⟨by decide,by decide⟩,_,rfl,_,_,rfl,rfl,hn,?_⟩
   exact k _ _ (Int.emod_nonneg _ (by omega)) (Int.emod_lt_of_pos _ hn) same λ q _=>rfl
theorem read_take1 {M:MH}{p:Addr}{n cell:Int}{a b c:Int}{ns:List Int}{D:Ed}(hm:M p=some (.lst (bagL a b c ns)))(ha:0<=a)(hb:0<=b)(hb2:b < 2147483647)(hc:0<=c)(hcell:0<=cell)
  (k:∀ a' b' c' M',0<=a'->0<=b'->b' < 2147483647->0<=c'->M' p=some (.lst (bagL a' b' c' ns))->(∀ q,q≠p->M' q=M q)->D.nx [some (.m p),some (.d (.int n)),some (.d (.int cell)),none,none,none] M') :
  (dSeq (dAugS (dVar 0) (dC (.d (.int 2))) (dC (.d (.int 1))) (λ i j=>i+j)) <|
   dSeq (dIf (dTest (dOp rdGe (dVar 2) (dC (.d (.int 1000000000000000000)))))
    (dAsg (dVar 2) (gSet (dVar 0) (dC (.d (.int 0)))))
    (dNext)) <|
   dAsg (dOp rdMod (dOp rdAdd (dOp rdAdd (dOp rdMul (dOp rdIx (dVar 0) (dC (.d (.int 1)))) (dC (.d (.int 48271)))) (dOp rdMod (dVar 2) (dC (.d (.int 2147483647))))) (dOp rdMul (dC (.d (.int 7919))) (dOp rdIx (dVar 0) (dC (.d (.int 2)))))) (dC (.d (.int 2147483647)))) (gSet (dVar 0) (dC (.d (.int 1)))))
   D [some (.m p),some (.d (.int n)),some (.d (.int cell)),none,none,none] M:=by
 refine ⟨_,rfl,_,_,_,_,_,rfl,rfl,hm,rfl,rfl,_,rfl,rfl,?_⟩
 have m1:updM M p (.lst (bagL a b (c+1) ns)) p=some (.lst (bagL a b (c+1) ns)):=updM_same
 have f1:∀ q,q≠p->updM M p (.lst (bagL a b (c+1) ns)) q=M q:=λ q hq=>updM_ne hq
 show (dSeq _ _) D _ (updM M p (.lst (bagL a b (c+1) ns)))
 generalize updM M p (.lst (bagL a b (c+1) ns))=M1 at m1 f1
 have fin:∀ (a':Int) (M2:MH),0<=a'->M2 p=some (.lst (bagL a' b (c+1) ns))->(∀ q,q≠p->M2 q=M q) ->
   dAsg (dOp rdMod (dOp rdAdd (dOp rdAdd (dOp rdMul (dOp rdIx (dVar 0) (dC (.d (.int 1)))) (dC (.d (.int 48271)))) (dOp rdMod (dVar 2) (dC (.d (.int 2147483647))))) (dOp rdMul (dC (.d (.int 7919))) (dOp rdIx (dVar 0) (dC (.d (.int 2)))))) (dC (.d (.int 2147483647)))) (gSet (dVar 0) (dC (.d (.int 1)))) D [some (.m p),some (.d (.int n)),some (.d (.int cell)),none,none,none] M2:=by
  intro a' M2 ha' m2 f2
  have i1:ixW M2 (.m p) 1=some (.d (.int b)):=ix_m m2 rfl
  have i2:ixW M2 (.m p) 2=some (.d (.int (c+1))):=ix_m m2 rfl
  refine ⟨_,rfl,_,_,rfl,i1,rfl,_,_,rfl,rfl,.inl ⟨by omega,by omega⟩,_,rfl,_,_,rfl,rfl,(by decide:(0:Int) < 2147483647),.inl ?_⟩
  refine ⟨_,_,rfl,rfl,_,rfl,_,_,rfl,i2,rfl,_,_,rfl,rfl,.inl ⟨by decide,by decide⟩,.inl ?_⟩
  refine ⟨_,_,rfl,rfl,_,_,rfl,rfl,(by decide:(0:Int) < 2147483647),_,rfl,_,_,_,_,rfl,rfl,m2,rfl,?_⟩
  exact k a' _ (c+1) _ ha' (Int.emod_nonneg _ (by decide)) (Int.emod_lt_of_pos _ (by decide)) (by omega) updM_same λ q hq=>(updM_ne hq).trans (f2 q hq)
 refine ⟨_,rfl,_,_,rfl,rfl,_,rfl,?_⟩
 refine ite_b (λ h=>?_) (λ h=>?_)
 ·refine ⟨_,rfl,_,rfl,_,_,_,_,rfl,rfl,m1,rfl,?_⟩
  exact fin cell _ hcell updM_same λ q hq=>(updM_ne hq).trans (f1 q hq)
 ·exact fin a M1 ha m1 f1
theorem read_l_take:∀ ws M Q,sp_l_take ws M Q->t_l_take { nx:=λ _ M'=>Q (.d .none) M',rt:=Q } (startD N_l_take ws) M:=by
 rintro ws M Q ⟨p,n,rfl,⟨a,b,c,ns,hm,ha,hb,hb2,hc,hns⟩,hn,hn2,k⟩
 have i0:ixW M (.m p) 0=some (.d (.int a)):=ix_m hm rfl
 have i2:ixW M (.m p) 2=some (.d (.int c)):=ix_m hm rfl
 have i3:ixW M (.m p) 3=some (.d (.list (ns.map PyData.int))):=ix_m hm rfl
 refine ⟨_,rfl,_,_,rfl,i0,rfl,_,_,rfl,rfl,rfl,_,rfl,?_⟩
 refine ite_b (λ h=>?_) (λ h=>?_)
 ·refine ⟨_,rfl,_,_,rfl,i2,rfl,_,rfl,_,_,rfl,i3,rfl,_,_,rfl,rfl,rfl,_,_,rfl,rfl,_,rfl,?_⟩
  refine ite_b (λ h=>?_) (λ h=>?_)
  ·have hlt:c < ((ns.map PyData.int).length:Nat):=of_decide_eq_true h
   have hlt':c.toNat < ns.length:=by rw [List.length_map] at hlt; omega
   have ic:ixW M (.d (.list (ns.map PyData.int))) c=some (.d (.int (ns[c.toNat]'hlt'))):=by
    simp only [ixW]
    rw [atI_nn hc hlt]
    simp
   refine ⟨_,rfl,_,_,rfl,i3,rfl,_,rfl,_,_,rfl,i2,rfl,_,_,rfl,ic,rfl,?_⟩
   refine read_take1 (cell:=ns[c.toNat]'hlt') hm ha hb hb2 hc (hns _ (List.getElem_mem _)) λ a' b' c' M' h1 h2 h3 h4 h5 h6=>?_
   exact read_take2 (x:=some (.d (.int (ns[c.toNat]'hlt')))) h5 h1 h2 h3 h4 hns hn hn2 (λ r M'' r0 r1 bg fr=>k r M'' r0 r1 bg λ q hq=>(fr q hq).trans (h6 q hq)) rfl
  ·refine read_take1 (cell:=0) hm ha hb hb2 hc (Int.le_refl 0) λ a' b' c' M' h1 h2 h3 h4 h5 h6=>?_
   exact read_take2 (x:=some (.d (.int 0))) h5 h1 h2 h3 h4 hns hn hn2 (λ r M'' r0 r1 bg fr=>k r M'' r0 r1 bg λ q hq=>(fr q hq).trans (h6 q hq)) rfl
 ·exact read_take2 (x:=none) hm ha hb hb2 hc hns hn hn2 k rfl
theorem take_fm {f:W->Option PyData}{ws:List W}{i:Nat}{w:W}(h:ws[i]? = some w):(ws.take (i+1)).filterMap f=(ws.take i).filterMap f++(f w).toList:=by
 rw [List.take_add_one,h,List.filterMap_append]
 cases e:f w <;> simp [e]
theorem lc_pure {tt:TTd}{te:TD}{fr:List Nat}{τ:DS}{M:MH}{Q:List PyData->MH->Prop}{ws:List W}(f:W->Option PyData)(hl:ws.length<=sizeLine)
  (step:∀ w∈ws,∀ P':Option PyData->Prop,P' (f w)->tt (some w :: fr.map λ j=>(τ[j]?).getD none) M λ b M3=>if b=true then te (some w :: fr.map λ j=>(τ[j]?).getD none) M3 λ y M4=>∃ d,y=.d d/\M4=M/\P' (some d) else M3=M/\P' none)
  (q:Q (ws.filterMap f) M):∃ P:Nat->List PyData->DS->MH->Prop,P 0 [] (lcSD 1 fr τ) M /\
   (∀ i w acc τ M,ws[i]? = some w->P i acc τ M->acc.length < sizeLine/\gN 0 w τ M λ τ2 M2=>tt τ2 M2 λ b M3=>if b=true then te τ2 M3 λ y M4=>∃ d,y=.d d/\P (i+1) (acc++[d]) τ2 M4 else P (i+1) acc τ2 M3) /\
   ∀ acc τ M,P ws.length acc τ M->Q acc M:=by
 let Pk:Nat->List PyData->DS->Prop:=λ i acc τ'=>i<=ws.length/\acc=(ws.take i).filterMap f/\∃ x,τ'=x :: fr.map λ j=>(τ[j]?).getD none
 refine ⟨λ i acc τ' M'=>M'=M/\Pk i acc τ',⟨rfl,Nat.zero_le _,rfl,none,rfl⟩,λ i w acc τ' M' hw hp=>?_,λ acc τ' M' hp=>?_⟩
 ·obtain ⟨rfl,hi,rfl,x,rfl⟩:=hp
  have hlt:i < ws.length:=(List.getElem?_eq_some_iff.mp hw).1
  refine ⟨?_,step w (List.mem_of_getElem? hw) (λ o=>match o with
   | some d=>Pk (i+1) ((ws.take i).filterMap f++[d]) (some w :: fr.map λ j=>(τ[j]?).getD none)
   | none=>Pk (i+1) ((ws.take i).filterMap f) (some w :: fr.map λ j=>(τ[j]?).getD none)) ?_⟩
  ·have h1:=List.length_filterMap_le f (ws.take i)
   rw [List.length_take] at h1
   omega
  ·cases e:f w with
   | some d=>exact ⟨hlt,by rw [take_fm hw,e]; rfl,_,rfl⟩
   | none=>exact ⟨hlt,by rw [take_fm hw,e]; simp,_,rfl⟩
 ·obtain ⟨rfl,hi,rfl,x,rfl⟩:=hp
  rw [List.take_of_length_le (Nat.le_refl _)]
  exact q
theorem lc_inv {tt:TTd}{te:TD}{fr:List Nat}{τ:DS}{M:MH}{Q:List PyData->MH->Prop}{ws:List W}(J:MH->Prop)(G:PyData->Prop)(hl:ws.length<=sizeLine)(j0:J M)
  (step:∀ w∈ws,∀ M',J M'->∀ P':Option PyData->MH->Prop,(∀ d M'',G d->J M''->P' (some d) M'')->(∀ M'',J M''->P' none M'') ->
   tt (some w :: fr.map λ j=>(τ[j]?).getD none) M' λ b M3=>if b=true then te (some w :: fr.map λ j=>(τ[j]?).getD none) M3 λ y M4=>∃ d,y=.d d/\P' (some d) M4 else P' none M3)
  (q:∀ acc M',J M'->(∀ d∈acc,G d)->acc.length<=ws.length->Q acc M'):∃ P:Nat->List PyData->DS->MH->Prop,P 0 [] (lcSD 1 fr τ) M /\
   (∀ i w acc τ M,ws[i]? = some w->P i acc τ M->acc.length < sizeLine/\gN 0 w τ M λ τ2 M2=>tt τ2 M2 λ b M3=>if b=true then te τ2 M3 λ y M4=>∃ d,y=.d d/\P (i+1) (acc++[d]) τ2 M4 else P (i+1) acc τ2 M3) /\
   ∀ acc τ M,P ws.length acc τ M->Q acc M:=by
 let Pk:Nat->List PyData->DS->MH->Prop:=λ i acc τ' M'=>acc.length<=i/\(∀ d∈acc,G d)/\J M'/\∃ x,τ'=x :: fr.map λ j=>(τ[j]?).getD none
 refine ⟨Pk,⟨Nat.le_refl _,λ d h=>(nomatch h),j0,none,rfl⟩,λ i w acc τ' M' hw hp=>?_,λ acc τ' M' hp=>?_⟩
 ·obtain ⟨hi,hg,hj,x,rfl⟩:=hp
  have hlt:i < ws.length:=(List.getElem?_eq_some_iff.mp hw).1
  refine ⟨by omega,step w (List.mem_of_getElem? hw) M' hj (λ o M2=>match o with
   | some d=>Pk (i+1) (acc++[d]) (some w :: fr.map λ j=>(τ[j]?).getD none) M2
   | none=>Pk (i+1) acc (some w :: fr.map λ j=>(τ[j]?).getD none) M2) (λ d M2 gd j2=>?_) λ M2 j2=>?_⟩
  ·refine ⟨by rw [List.length_append,List.length_singleton]; omega,λ d' hd'=>?_,j2,_,rfl⟩
   rcases List.mem_append.mp hd' with z | z
   ·exact hg d' z
   ·rw [List.mem_singleton.mp z]; exact gd
  ·exact ⟨by omega,hg,j2,_,rfl⟩
 ·obtain ⟨hi,hg,hj,x,rfl⟩:=hp
  exact q acc M' hj hg hi
theorem fm_map {α:Type}(g:α->W)(f:W->Option PyData)(h:α->PyData)(e:∀ a,f (g a)=some (h a))(l:List α):(l.map g).filterMap f=l.map h:=by
 induction l with
 | nil=>rfl
 | cons a l ih=>rw [List.map_cons,List.filterMap_cons,e,ih]; rfl
theorem read_l_bag:∀ ws M Q,sp_l_bag ws M Q->t_l_bag { nx:=λ _ M'=>Q (.d .none) M',rt:=Q } (startD N_l_bag ws) M:=by
 rintro ws M Q ⟨ns,rfl,hl,k⟩
 refine ⟨_,rfl,_,rfl,_,rfl,rfl,_,rfl,?_⟩
 have ec:cutD (ns.map PyData.int) none (some 63)=(cutD ns none (some 63)).map PyData.int:=by
  simp only [cutD,List.length_map,List.map_take,List.map_drop]
 have hlen:(cutD ns none (some 63)).length<=ns.length:=by
  simp only [cutD,List.length_take,List.length_drop]
  omega
 have h1000:(1000:Nat)<=sizeLine:=by rw [sizeLine_eq]; decide
 dsimp only
 refine lc_pure (λ w=>match w with
  | .d (.int n)=>some (.int (if n < 0 then -n else n))
  | _=>none) ?hl (λ w hw P' hp=>?_) ?_
 case hl=>rw [List.length_map,ec,List.length_map]; omega
 ·rw [ec,List.map_map] at hw
  obtain ⟨n,_,rfl⟩:=List.mem_map.mp hw
  exact ⟨_,rfl,_,rfl,_,rfl,rfl,hp⟩
 ·have e2:(List.map W.d (cutD (ns.map PyData.int) none (some 63))).filterMap (λ w=>match w with
    | .d (.int n)=>some (PyData.int (if n < 0 then -n else n))
    | _=>none)=((cutD ns none (some 63)).map λ n=>if n < 0 then -n else n).map PyData.int:=by
   rw [ec,List.map_map,fm_map (W.d ∘ PyData.int) _ (λ n=>PyData.int (if n < 0 then -n else n)) (λ n=>rfl),List.map_map]
   rfl
  rw [e2]
  refine ⟨by simp [sizeLine_eq],λ p hp=>k p _ hp (λ q hq=>updM_ne hq) ⟨0,1234567891,0,_,updM_same,Int.le_refl 0,by decide,by decide,Int.le_refl 0,λ n hn=>?_⟩⟩
  obtain ⟨m,_,rfl⟩:=List.mem_map.mp hn
  split <;> omega
theorem law_start {K:PySem.W.Frag}{H:Hp}{a:Addr}{ns:List Int}{sp:SpD}(hl:ns.length<=63)(hO:L2.Only H)(hS:L2.SqL K H a (ns.map V.int))(h:∀ ns:List Int,ns.length<=63->sp [.d (.list (ns.map PyData.int))] (λ _=>none) (λ w _=>w=.d (.bool true))) :
  upSp K sp [.ref a] H (λ v _=>v=.bl true) λ _ _ _=>False:=by
 refine ⟨[.d (.list (ns.map PyData.int))],λ _=>none,_,.cons ?_ .nil,λ a o z=>(nomatch z),h ns hl,λ v H' w M' kp r m q=>?_⟩
 ·simp only [RepW,RepD]
  refine ⟨a,_,rfl,?_,RepA.ints ns⟩
  rcases hS with (h | h) | h
  ·rcases hO a with z | ⟨ob,xs,z⟩
   ·rw [h] at z; cases z
   ·rw [h] at z; cases z
  ·exact .inl h
  ·exact .inr h
 ·subst q
  simp only [RepW,RepD] at r
  exact r
end D
namespace D
open PySem PySem.Spec PyProof.Rows L2
noncomputable def ascB (z:Str):Bool:=z.cps.all (· < 128)
mutual
noncomputable def big:PyData->Nat
 | .none=>4
 | .bool _=>5
 | .int _=>2000
 | .str z=>10 * z.length+2
 | .list ds=>bigA ds+2
 | .tuple ds=>bigA ds+3
 | .dict kvs=>bigK kvs+2
noncomputable def bigA:List PyData->Nat
 | []=>0
 | d :: ds=>big d+2+bigA ds
noncomputable def bigK:List (PyData×PyData)->Nat
 | []=>0
 | (k,d) :: ds=>big k+2+big d+2+bigK ds
end
mutual
noncomputable def fineD:PyData->Bool
 | .none=>true
 | .bool _=>true
 | .int i=>decide (i.natAbs.log2 < 1920)
 | .str z=>ascB z
 | .list ds=>fineA ds
 | .tuple ds=>fineA ds
 | .dict kvs=>fineK kvs
noncomputable def fineA:List PyData->Bool
 | []=>true
 | d :: ds=>fineD d && fineA ds
noncomputable def fineK:List (PyData×PyData)->Bool
 | []=>true
 | (k,d) :: ds=>fineD k && fineD d && fineK ds
end
theorem listText_le:∀ ts:List Str,(listText ts).length<=piled ts+2
 | []=>by decide +kernel
 | t :: r=>by
  have h:=textFrom_length_pos r 1 (("[" : Str)++(if (0:Nat) > 0 then ", " else "" : String)++t) (Nat.succ_pos 0)
  have e:((("[" : Str)++(if (0:Nat) > 0 then ", " else "" : String)++t)).length=1+t.length:=by
   rw [strLen_append,strLen_append]; rfl
  have hX:(listText (t :: r)).length=(textFrom 0 "[" (t :: r)).length+1:=by
   show (textFrom 0 "[" (t :: r) ++ "]").length=_
   rw [strLen_append]; rfl
  have h2:(textFrom 0 "[" (t :: r)).length=(1+t.length)+piled r:=by rw [<- e]; exact h
  have h3:piled (t :: r)=t.length+2+piled r:=by simp [piled]
  omega
theorem join_le (ts:List Str):(Str.join ", " ts).length<=piled ts:=by
 cases ts with
 | nil=>decide +kernel
 | cons t r=>have:=join_length_add (t :: r) (by simp); omega
theorem tupleText_le (ts:List Str):(tupleText ts).length<=piled ts+3:=by
 unfold tupleText
 rw [strLen_append,strLen_append]
 have e1:((("(" : String):Str)).length=1:=rfl
 have e3:(((if ts.length == 1 then ",)" else ")" : String):Str)).length<=2:=by split <;> decide
 have:=join_le ts
 omega
theorem dictText_le (ts:List Str):(dictText ts).length<=piled ts+2:=by
 unfold dictText
 rw [strLen_append,strLen_append]
 have e1:((("{" : String):Str)).length=1:=rfl
 have e2:((("}" : String):Str)).length=1:=rfl
 have:=join_le ts
 omega
theorem int_len {i:Int}(h:i.natAbs.log2 < 1920):(Str.ofString (toString i)).length<=2000:=by
 have e:=int_text_length_le (k:=1920) (by decide) h
 rw [PySem.ofString_length]; omega
theorem repr_len {z:Str}(h:ascB z=true):(reprText z).length<=10 * z.length+2:=StrLaws.reprText_len z λ c hc=>by
 have:=Array.all_eq_true_iff_forall_mem.mp h c (by simpa using hc)
 have h2:c < 128:=by simpa using this
 omega
mutual
theorem shown_le:∀ d:PyData,fineD d=true->d.shown.length<=big d
 | .none,_=>by rw [PyData.shown]; decide +kernel
 | .bool b,_=>by rw [PyData.shown]; cases b <;> decide +kernel
 | .int i,h=>by rw [PyData.shown]; exact int_len (by simpa [fineD] using h)
 | .str z,h=>by rw [PyData.shown,big]; exact repr_len (by simpa [fineD] using h)
 | .list ds,h=>by
  have h1:=shownA_le ds (by simpa [fineD] using h)
  have h2:=listText_le (PyData.shownAll ds)
  rw [PyData.shown,big]; omega
 | .tuple ds,h=>by
  have h1:=shownA_le ds (by simpa [fineD] using h)
  have h2:=tupleText_le (PyData.shownAll ds)
  rw [PyData.shown,big]; omega
 | .dict ds,h=>by
  have h1:=shownK_le ds (by simpa [fineD] using h)
  have h2:=dictText_le (PyData.shownKv ds)
  rw [PyData.shown,big]; omega
theorem shownA_le:∀ ds:List PyData,fineA ds=true->piled (PyData.shownAll ds)<=bigA ds
 | [],_=>by simp [PyData.shownAll,piled,bigA]
 | d :: ds,h=>by
  simp only [fineA,Bool.and_eq_true] at h
  have h1:=shown_le d h.1
  have h2:=shownA_le ds h.2
  simp only [PyData.shownAll,piled_cons,bigA]
  omega
theorem shownK_le:∀ ds:List (PyData×PyData),fineK ds=true->piled (PyData.shownKv ds)<=bigK ds
 | [],_=>by simp [PyData.shownKv,piled,bigK]
 | (k,d) :: ds,h=>by
  simp only [fineK,Bool.and_eq_true] at h
  have h1:=shown_le k h.1.1
  have h3:=shown_le d h.1.2
  have h2:=shownK_le ds h.2
  have e:((((": " : String):Str))).length=2:=rfl
  simp only [PyData.shownKv,piled_cons,bigK,strLen_append,e]
  omega
end
mutual
theorem fine_show:∀ d:PyData,fineD d=true->d.showable=true
 | .none,_=>by simp [PyData.showable]
 | .bool b,_=>by simp [PyData.showable]
 | .int i,h=>by simpa [PyData.showable,fineD] using h
 | .str z,h=>by simp [PyData.showable]
 | .list ds,h=>by simpa [PyData.showable] using fine_showA ds (by simpa [fineD] using h)
 | .tuple ds,h=>by simpa [PyData.showable] using fine_showA ds (by simpa [fineD] using h)
 | .dict ds,h=>by simpa [PyData.showable] using fine_showK ds (by simpa [fineD] using h)
theorem fine_showA:∀ ds:List PyData,fineA ds=true->PyData.showableAll ds=true
 | [],_=>by simp [PyData.showableAll]
 | d :: ds,h=>by
  simp only [fineA,Bool.and_eq_true] at h
  simp [PyData.showableAll,fine_show d h.1,fine_showA ds h.2]
theorem fine_showK:∀ ds:List (PyData×PyData),fineK ds=true->PyData.showableKv ds=true
 | [],_=>by simp [PyData.showableKv]
 | (k,d) :: ds,h=>by
  simp only [fineK,Bool.and_eq_true] at h
  simp [PyData.showableKv,fine_show k h.1.1,fine_show d h.1.2,fine_showK ds h.2]
end
theorem s16:(1000000:Nat)<=sizeLine:=by rw [sizeLine_eq]; decide
end D
namespace D
open PySem PySem.Spec PyProof.Rows L2
noncomputable def Asc (z:Str):Prop:=∀ c∈z.cps.toList,c < 128
noncomputable def Tx (n:Nat)(d:PyData):Prop:=∃ z:Str,d=.str z/\z.length<=n/\Asc z
theorem tx_list {n:Nat}:∀ {ds:List PyData},(∀ d∈ds,Tx n d)->∃ ys:List Str,ds=ys.map PyData.str/\∀ y∈ys,y.length<=n/\Asc y
 | [],_=>⟨[],rfl,λ y h=>(nomatch h)⟩
 | d :: ds,h=>by
  obtain ⟨z,e,h1,h2⟩:=h d List.mem_cons_self
  obtain ⟨ys,e2,h3⟩:=tx_list λ d' hd'=>h d' (List.mem_cons_of_mem _ hd')
  refine ⟨z :: ys,by rw [e,e2]; rfl,λ y hy=>?_⟩
  rcases List.mem_cons.mp hy with rfl | hy
  ·exact ⟨h1,h2⟩
  ·exact h3 y hy
theorem asc_one {z:Str}{c:Nat}(h:Asc z)(hc:c∈z.cps.toList):Asc ⟨#[c]⟩:=by
 intro d hd
 have:d=c:=by simpa using hd
 rw [this]
 exact h c hc
theorem few {n:Nat}(h:n<=1000):n<=sizeLine:=by have:=s16; omega
end D
namespace D
open PySem PySem.Spec PyProof.Rows L2
section
variable {X:Cx}{pins:List (Addr×Obj)}{σ:St}{H H0:Hp}{s s0:Shared}
theorem Inv.swap {a:Addr}{u u':HO}(I:Inv X pins σ H s)(h:H a=some u)(n1:∀ xs,u ≠ .tup xs)(n2:∀ x,u ≠ .own x)(b1:∀ xs,X.H₀ a≠some (.tup xs))(b2:∀ o v,X.H₀ a≠some (.frz o v))(b3:∀ ps,X.H₀ a≠some (.tbl ps))
  (new:ObjOk X.prog X.w (upd H a u') s.heap a u'):Inv X pins σ (upd H a u') s:=by
 have nn:∀ b,H b=none->b≠a:=λ b e z=>by rw [z,h] at e; cases e
 refine ⟨I.ok,I.os,I.bare,⟨I.base.keep,I.base.slot,λ b ob q n x=>?_,I.base.there,λ b xs q=>?_,λ b ob v q=>?_,λ b ps q=>?_⟩,I.loc,I.cell,?_,λ x c q=>?_,λ p hp=>?_,λ b v q=>?_,I.len⟩
 ·have:=I.base.free b ob q n x
  rw [upd_ne (nn b this)]; exact this
 ·rw [upd_ne (λ z:b=a=>b1 xs (by rw [<- z]; exact q))]; exact I.base.tups b xs q
 ·rw [upd_ne (λ z:b=a=>b2 ob v (by rw [<- z]; exact q))]; exact I.base.frzs b ob v q
 ·rw [upd_ne (λ z:b=a=>b3 ps (by rw [<- z]; exact q))]; exact I.base.tbls b ps q
 ·rw [upd_ne (nn _ I.free)]; exact I.free
 ·have:=I.freeC x c q
  rw [upd_ne (nn c this)]; exact this
 ·obtain ⟨p1,p2,p3⟩:=I.pin p hp
  exact ⟨p1,by rw [upd_ne (nn _ p2)]; exact p2,p3⟩
 ·by_cases hb:b=a
  ·subst hb
   rw [upd_same] at q
   cases q
   exact new
  ·rw [upd_ne hb] at q
   refine (I.hok b v q).stay (λ _ _ _ q=>q) (λ c r=>?_) λ c xs r=>?_
   ·rw [upd_ne (λ z=>by rw [z,h] at r; exact n2 _ (Option.some.inj r))]; exact r
   ·rw [upd_ne (λ z=>by rw [z,h] at r; exact n1 _ (Option.some.inj r))]; exact r
theorem base_of {a:Addr}{l:List (Key×V)}(I:Inv X pins σ H s)(h:H a=some (.dK l)):(∀ xs,X.H₀ a≠some (.tup xs))/\(∀ o v,X.H₀ a≠some (.frz o v))/\∀ ps,X.H₀ a≠some (.tbl ps):=by
 refine ⟨λ xs e=>?_,λ o v e=>?_,λ ps e=>?_⟩
 ·have:=I.base.tups a xs e; rw [h] at this; cases this
 ·have:=I.base.frzs a o v e; rw [h] at this; cases this
 ·obtain ⟨m,this⟩:=I.base.tbls a ps e; rw [h] at this; cases this
theorem Inv.again {σ0:St}{a:Addr}{o:Obj}{l:List (Key×V)}(I0:Inv X pins σ0 H0 s0)(h0:H0 a=some (.dK l))(I:Inv X pins σ H s)(h:H a=some (.frz o (.frz o (.dK l)))):Inv X pins σ (upd H a (.dK l)) s:=by
 have f:Fz (.dK l):=trivial
 obtain ⟨b1,b2,b3⟩:=base_of I0 h0
 exact Inv.swap I h (λ _ z=>nomatch z) (λ _ z=>nomatch z) b1 b2 b3 ((I.hok a _ h).2.2.anyH f)
end
section
variable {K:PySem.W.Frag}{H:Hp}{a:Addr}{o:Obj}{l:List (Key×V)}
end
end D
namespace D
open PySem PySem.Spec PyProof.Rows L2
section
variable {X:Cx}{pins:List (Addr×Obj)}{σ:St}{H:Hp}{s:Shared}
end
section
variable {X:Cx}{tg o:Expr}{apos cpos:Pos}{td:TE}
end
section
variable {X:Cx}{K:PySem.W.Frag}{tg o:Expr}{apos cpos:Pos}{td:TD}
noncomputable def dataKV (kds:List (Key×PyData)):List (Key×W):=kds.map λ p=>(p.1,.d p.2)
end
section
variable {X:Cx}{K:PySem.W.Frag}
end
end D
namespace D
open PySem PySem.Spec PyProof.Rows L2
section
variable {X:Cx}{K:PySem.W.Frag}
end
end D
namespace D
open PySem PySem.Spec PyProof.Rows L2
namespace Q
section
variable {X:Cx}{pins:List (Addr×Obj)}{σ:St}{H H0:Hp}{s s0:Shared}
end
section
variable {K:PySem.W.Frag}{H:Hp}{a:Addr}{o:Obj}{l:List (Key×V)}
end
section
variable {X:Cx}{pins:List (Addr×Obj)}{σ:St}{H:Hp}{s:Shared}
end
section
variable {X:Cx}{tg o:Expr}{apos cpos:Pos}{td:TE}
end
section
variable {X:Cx}{K:PySem.W.Frag}{tg o:Expr}{apos cpos:Pos}{td:TD}
end
section
variable {X:Cx}{K:PySem.W.Frag}
end
section
variable {X:Cx}{K:PySem.W.Frag}
end
end Q
end D
namespace S
open PySem PySem.W PyProof.Rows
noncomputable def go {α:Type}(lt:Nat->Nat->Bool):KasT α->α
 | .ret a=>a
 | .ask i j k=>go lt (k (lt i j))
structure Weak (lt:Nat->Nat->Bool):Prop where
 asym:∀ a b,lt a b=true->lt b a=false
 tr:∀ a b c,lt b a=false->lt c b=false->lt c a=false
section
variable {lt:Nat->Nat->Bool}
theorem Weak.ltle (h:Weak lt){a b c:Nat}(h1:lt a b=true)(h2:lt c b=false):lt a c=true:=by
 cases e:lt a c with
 | true=>rfl
 | false =>
  have:=h.tr b c a h2 e
  rw [h1] at this
  cases this
theorem Weak.lelt (h:Weak lt){a b c:Nat}(h1:lt b a=false)(h2:lt b c=true):lt a c=true:=by
 cases e:lt a c with
 | true=>rfl
 | false =>
  have:=h.tr c a b e h1
  rw [h2] at this
  cases this
noncomputable def B (lt:Nat->Nat->Bool)(a b:Nat):Prop:=lt a b=true\/(lt a b=false/\lt b a=false/\a < b)
theorem B.tr (h:Weak lt){a b c:Nat}(q:B lt a b)(r:B lt b c):B lt a c:=by
 rcases q with q | ⟨q1,q2,q3⟩
 ·rcases r with r | ⟨r1,r2,r3⟩
  ·exact .inl (h.ltle q (h.asym _ _ r))
  ·exact .inl (h.ltle q r2)
 ·rcases r with r | ⟨r1,r2,r3⟩
  ·exact .inl (h.lelt q2 r)
  ·exact .inr ⟨h.tr _ _ _ r1 q1,h.tr _ _ _ q2 r2,by omega⟩
noncomputable abbrev g (p:Array Nat)(i:Nat):Nat:=p.getD i 0
theorem g_eq (p:Array Nat)(i:Nat):g p i=(p[i]?).getD 0:=by simp [g]
theorem g_rev {p:Array Nat}{i j:Nat}(hj:j<=p.size)(k:Nat):g (kas_rev p i j) k=if i<=k/\k < j then g p (i+j - 1 - k) else g p k:=by
 rw [g_eq,g_eq,g_eq]
 unfold kas_rev
 rw [getElem?_mirror_all hj k]
 split <;> rfl
structure Un (p:Array Nat)(N n:Nat):Prop where
 size:p.size=N
 lo:∀ i,i < n->g p i < n
 hi:∀ i,n<=i->i < N->g p i=i
theorem Un.up {p:Array Nat}{N n m:Nat}(u:Un p N n)(h:n<=m)(hm:m<=N):Un p N m:=by
 refine ⟨u.size,λ k hk=>?_,λ k hk hk2=>u.hi k (by omega) hk2⟩
 by_cases z:k < n
 ·have:=u.lo k z; omega
 ·have:=u.hi k (by omega) (by omega)
  omega
noncomputable def Up (lt:Nat->Nat->Bool)(p:Array Nat)(n:Nat):Prop:=∀ i j,i < j->j < n->B lt (g p i) (g p j)
noncomputable def Dn (lt:Nat->Nat->Bool)(p:Array Nat)(n:Nat):Prop:=∀ i j,i < j->j < n->B lt (g p j) (g p i)
theorem Up.succ (h:Weak lt){p:Array Nat}{n:Nat}(u:Up lt p n)(q:0 < n->B lt (g p (n - 1)) (g p n)):Up lt p (n+1):=by
 intro i j hij hj
 by_cases e:j < n
 ·exact u i j hij e
 ·have e:j=n:=by omega
  subst e
  have q:=q (by omega)
  by_cases z:i=j - 1
  ·rw [z]; exact q
  ·exact (u i (j - 1) (by omega) (by omega)).tr h q
theorem Dn.up {p:Array Nat}{n:Nat}(x:Dn lt p n)(hN:n<=p.size):Up lt (kas_rev p 0 n) n:=λ i j hij hj=>by
 rw [g_rev hN,g_rev hN,if_pos (by omega),if_pos (by omega)]
 exact x _ _ (by omega) (by omega)
end
end S
namespace S
open PySem PySem.W PyProof.Rows
noncomputable def Asks {α:Type}(N:Nat)(R:α->Prop):KasT α->Prop
 | .ret a=>R a
 | .ask i j k=>i < N/\j < N/\∀ b,Asks N R (k b)
theorem Asks.bind {α β:Type}{N:Nat}{R:α->Prop}{R':β->Prop}{f:α->KasT β}(hf:∀ a,R a->Asks N R' (f a)):∀ {t:KasT α},Asks N R t->Asks N R' (t.bind f)
 | .ret a,h=>hf a h
 | .ask i j k,h=>⟨h.1,h.2.1,λ b=>Asks.bind hf (h.2.2 b)⟩
noncomputable def Low (N:Nat)(p:Array Nat):Prop:=∀ i,g p i < N
theorem Low.of {N:Nat}{p:Array Nat}(hN:1<=N)(h:∀ x∈p.toList,x < N):Low N p:=λ i=>by
 rw [g_eq]
 cases e:p[i]? with
 | none=>simp; omega
 | some x=>exact h x (by rw [Array.mem_toList_iff]; exact Array.mem_of_getElem? e)
theorem Low.mem {N:Nat}{p:Array Nat}(h:Low N p):∀ x∈p.toList,x < N:=λ x hx=>by
 rw [Array.mem_toList_iff] at hx
 obtain ⟨i,hi,e⟩:=Array.mem_iff_getElem.mp hx
 have:=h i
 rw [g_eq] at this
 simp [hi] at this
 omega
section
variable {N:Nat}
end
section
variable {prog:Program}{w:World}{A:Around}{E:Value->Shared->Prop}{s:Shared}
end
end S
namespace S
open PySem PySem.W PyProof.Rows
noncomputable def Shape:List Bool->List PyData->Prop
 | [],[]=>True
 | true :: bs,d :: ds=>(∃ x,d=.str x)/\Shape bs ds
 | false :: bs,d :: ds=>(∃ i,d=.int i)/\Shape bs ds
 | _,_=>False
noncomputable def rowAt (rows:List (List PyData))(i:Nat):List PyData:=rows.getD i (rows.headD [])
noncomputable def RowV:List PyData->List Value->Prop:=Paired λ d u=>(∃ i t,d=.int i/\u=.int i t)\/∃ x t,d=.str x/\u=.str x t
section
variable {prog:Program}{w:World}{A:Around}{Q:Bool->Shared->Prop}
end
end S
namespace D
open PySem PySem.Spec PyProof.Rows L2 S
section
variable {K:PySem.W.Frag}
theorem RowV.len:∀ {ds:List PyData} {us:List Value},RowV ds us->us.length=ds.length:=λ h=>(Paired.length h).symm
noncomputable def RowsAt (h:Heap)(sh:List Bool)(rows:List (List PyData))(its:List Value):Prop:=Paired (λ row u=>Shape sh row/\∃ a o us n,u=Value.ref a/\h.get? a=some o/\o.cls=.type "tuple" /\ o.data=.seq us n/\RowV row us.toList) rows its
theorem RowsAt.keep {h h':Heap}{sh:List Bool}{rows:List (List PyData)}{its:List Value}(k:∀ b o,h.get? b=some o->h'.get? b=some o)(r:RowsAt h sh rows its):RowsAt h' sh rows its :=
 Paired.mapP r λ row u ⟨s,a,o,us,n,e,g,c,d,q⟩=>⟨s,a,o,us,n,e,k _ _ g,c,d,q⟩
theorem RowsAt.get {h:Heap}{sh:List Bool}:∀ {rows:List (List PyData)} {its:List Value} (i:Nat),i < rows.length->RowsAt h sh rows its->∃ a o us n,its.getD i Value.none=.ref a/\h.get? a=some o/\o.cls=.type "tuple" /\ o.data=.seq us n/\Shape sh (rowAt rows i)/\RowV (rowAt rows i) us.toList:=by
 have main:∀ {rows:List (List PyData)} {its:List Value} (i:Nat) (dflt:List PyData),i < rows.length->RowsAt h sh rows its->∃ a o us n,its.getD i Value.none=.ref a/\h.get? a=some o/\o.cls=.type "tuple" /\ o.data=.seq us n/\Shape sh (rows.getD i dflt)/\RowV (rows.getD i dflt) us.toList:=by
  intro rows
  induction rows with
  | nil=>intro its i d hi _; simp at hi
  | cons row rows ih =>
   intro its i d hi r
   cases r with
   | cons r1 r2 =>
    cases i with
    | zero =>
     obtain ⟨s,a,o,us,n,e,g,c,dd,q⟩:=r1
     exact ⟨a,o,us,n,e,g,c,dd,s,q⟩
    | succ i =>
     obtain ⟨a,o,us,n,e,z⟩:=ih i d (by simpa using hi) r2
     exact ⟨a,o,us,n,by simpa using e,by simpa using z⟩
 exact λ {rows its} i hi r=>main i _ hi r
theorem RowsAt.tups {h:Heap}{t:Bool}{sh:List Bool}:∀ {rows:List (List PyData)} {its:List Value},RowsAt h (t :: sh) rows its->∃ fs,PySem.W.KatTups h its fs/\fs.length=its.length/\∀ v∈fs,(t=true/\∃ x k,v=Value.str x k)\/(t=false/\∃ i k,v=Value.int i k)
 | [],its,r=>by
  cases r
  exact ⟨[],.nil,rfl,λ v hv=>by simp at hv⟩
 | row :: rows,its,r=>by
  cases r with
  | cons r1 r2 =>
   obtain ⟨fs,h1,h2,h3⟩:=RowsAt.tups r2
   obtain ⟨s,a,o,us,n,e,g,c,dd,q⟩:=r1
   subst e
   match row,s with
   | d :: ds,s =>
    obtain ⟨f,us2,eu,hf⟩:∃ f us2,us.toList=f :: us2/\((t=true/\∃ x k,f=Value.str x k)\/(t=false/\∃ i k,f=Value.int i k)):=by
     generalize us.toList=ul at q
     cases q with
     | @cons _ u _ ul2 q1 q2 =>
      refine ⟨u,ul2,rfl,?_⟩
      cases t with
      | true =>
       obtain ⟨⟨x,rfl⟩,_⟩:=s
       rcases q1 with ⟨_,_,e,_⟩ | ⟨_,k,e,e'⟩
       ·cases e
       ·exact .inl ⟨rfl,_,_,e'⟩
      | false =>
       obtain ⟨⟨x,rfl⟩,_⟩:=s
       rcases q1 with ⟨_,k,e,e'⟩ | ⟨_,_,e,_⟩
       ·exact .inr ⟨rfl,_,_,e'⟩
       ·cases e
    have e0:us[0]? = some f:=by
     have:us.toList[0]? = some f:=by rw [eu]; rfl
     simpa using this
    refine ⟨f :: fs,.cons g c dd e0 h1,by simp [h2],λ v hv=>?_⟩
    rcases List.mem_cons.mp hv with rfl | hv
    ·exact hf
    ·exact h3 v hv
   | [],s=>cases t <;> cases s
end
section
variable {X:Cx}{K:PySem.W.Frag}
end
end D
namespace D
open PySem PySem.Spec PyProof.Rows L2 S
section
variable {P:Program}{w:World}{H:Hp}{h h':Heap}{a:Addr}{o:HO}
theorem obj_is (x:ObjOk P w H h a o):∃ ob,h.get? a=some ob:=by
 induction o with
 | lst xs=>obtain ⟨_,_,_,_,e⟩:=x; exact ⟨_,e⟩
 | tup xs=>obtain ⟨_,_,_,ob,e,_⟩:=x; exact ⟨_,e⟩
 | dK kvs=>obtain ⟨_,_,_,_,o,_,_,e,_⟩:=x; exact ⟨_,e⟩
 | dT kvs=>obtain ⟨_,_,_,_,o,_,_,e,_⟩:=x; exact ⟨_,e⟩
 | set S n=>obtain ⟨o,_,_,_,e,_⟩:=x; exact ⟨_,e⟩
 | ins C dx fs=>obtain ⟨_,_,_,e,_⟩:=x; exact ⟨_,e⟩
 | own y=>obtain ⟨_,e⟩:=x; exact ⟨_,e⟩
 | xd fs=>obtain ⟨_,⟨_,_,_,e,_⟩,_⟩:=x; exact ⟨_,e⟩
 | rng lo hi=>obtain ⟨_,_,_,e⟩:=x; exact ⟨_,e⟩
 | frz ob u ih=>obtain ⟨e,_⟩:=x; exact ⟨_,e⟩
 | tbl ps=>exact ⟨_,show h.get? a=some _ from x⟩
 | met f y=>exact ⟨_,show h.get? a=some _ from x⟩
 | ext φ=>obtain ⟨_,⟨_,e⟩,_⟩:=x; exact ⟨_,e⟩
theorem free_of (x:HOk P w H h)(e:h.get? a=none):H a=none:=by
 cases q:H a with
 | none=>rfl
 | some u =>
  obtain ⟨ob,z⟩:=obj_is (x a u q)
  rw [e] at z
  cases z
end
section
variable {X:Cx}{pins:List (Addr×Obj)}{σ:St}{H:Hp}{s:Shared}{h':Heap}
theorem Inv.laidN {a:Addr}{o:HO}{t':Nat}(I:Inv X pins σ H s)(k:∀ b u,s.heap.get? b=some u->h'.get? b=some u)(hp:s.heap.get? a=none)(new:ObjOk X.prog X.w (upd H a o) h' a o) :
  Inv X pins σ (upd H a o) { s with heap:=h',toks:=t' }:=by
 have hn:=free_of I.hok hp
 have ne:∀ b u,s.heap.get? b=some u->b≠a:=λ b u e z=>by rw [z,hp] at e; cases e
 refine I.un ⟨λ b ob e _ _ _=>k b ob e,λ b ob e _ _ _=>⟨ob.slots,k b ob e⟩,λ b ob e n _=>by rw [upd_ne (ne b ob e)]; exact n,λ b ob e _=>⟨ob,k b ob e⟩,λ b xs e=>by rw [upd_ne (ne_of_none e hn)]; exact e,λ b ob u e=>by rw [upd_ne (ne_of_none e hn)]; exact e,λ b ps e=>⟨#[],by rw [upd_ne (ne_of_none e hn),e]; simp⟩⟩ λ b u e=>?_
 by_cases hb:b=a
 ·subst hb; rw [upd_same] at e; cases e; exact new
 ·rw [upd_ne hb] at e
  exact (I.hok b u e).stay (λ c v _ q=>k c v q) (λ c q=>by rw [upd_ne (ne_of_none q hn)]; exact q) λ c xs q=>by rw [upd_ne (ne_of_none q hn)]; exact q
end
section
variable {X:Cx}{K:PySem.W.Frag}
noncomputable def isNone:W->Bool
 | .d .none=>true
 | _=>false
end
end D
namespace D
open PySem PySem.Spec PyProof.Rows L2
section
variable {X:Cx}{pins:List (Addr×Obj)}{σ:St}{H:Hp}{s:Shared}{h':Heap}
end
section
variable {X:Cx}{a:Expr}{p pos:Pos}{ta:TA}
end
section
variable {X:Cx}{K:PySem.W.Frag}{a:Expr}{p pos:Pos}{t:TAd}
end
section
variable {X:Cx}{K:PySem.W.Frag}
end
end D
namespace Rc
open PySem PySem.Spec PyProof.Rows L2 D
section
variable {α:Type}(nm:α->Str)
noncomputable def rk (g:α->PyData)(L:List α):List (Key×PyData):=L.map λ a=>(.inr (nm a),g a)
noncomputable def fd (L:List α)(n:Str):Option α:=L.find? λ a=>decide (nm a=n)
noncomputable def pt (L:List α)(z:α):List α:=match fd nm L (nm z) with
 | none=>L++[z]
 | some _=>L.map λ y=>if nm y=nm z then z else y
variable {nm}
end
end Rc
namespace Rc
open PySem PySem.Spec PyProof.Rows L2 D
theorem ne_new {M:MH}{a b:Addr}{o:MO}(ha:M a=some o)(hb:M b=none):a≠b:=λ e=>by rw [e,hb] at ha; cases ha
theorem upd_get {M:MH}{a b:Addr}{o u:MO}(h:M a=some o)(hb:M b=none):updM M b u a=some o:=by rw [updM_ne (ne_new h hb)]; exact h
end Rc
namespace Stc
open PySem PySem.Spec PyProof.Rows L2 D Rc
theorem drawn {z:Str}(hz:Asc z)(hz0:0 < z.length)(hz1:z.length<=1000){p:Addr}{M M1:MH}{ws:List W}{fr:List Nat}{τ:DS}{te:TD}{k:Nat}{Q:List PyData->MH->Prop}(hk:ws.length=k)(hs:k<=1000)(b1:Bag M1 p)(f1:∀ q,q≠p->M1 q=M q)
  (hte:∀ w∈ws,∀ (M':MH),Bag M' p->∀ R:W->MH->Prop,(∀ (r:Int) M'' (c:Nat),c∈z.cps.toList->Bag M'' p->(∀ q,q≠p->M'' q=M' q)->R (.d (.str ⟨#[c]⟩)) M'')->te (some w :: fr.map λ j=>(τ[j]?).getD none) M' R)
  (q:∀ (ys:List Str) M',(∀ y∈ys,y.length<=1/\Asc y)->ys.length<=k->Bag M' p->(∀ q,q≠p->M' q=M q)->Q (ys.map PyData.str) M') :
  ∃ P:Nat->List PyData->DS->MH->Prop,P 0 [] (lcSD 1 fr τ) M1 /\
   (∀ i w acc τ M,ws[i]? = some w->P i acc τ M->acc.length < sizeLine/\gN 0 w τ M λ τ2 M2=>dYes τ2 M2 λ b M3=>if b=true then te τ2 M3 λ y M4=>∃ d,y=.d d/\P (i+1) (acc++[d]) τ2 M4 else P (i+1) acc τ2 M3) /\
   ∀ acc τ M,P ws.length acc τ M->Q acc M:=by
 refine lc_inv (λ M'=>Bag M' p/\∀ q,q≠p->M' q=M q) (Tx 1) (by have:=s16; omega) ⟨b1,f1⟩ (λ w hw M' hj P' hp _=>?_) (λ acc M2 hj hg hlen=>?_)
 ·exact hte w hw M' hj.1 _ λ r M'' c hc b f=>⟨_,rfl,hp _ _ ⟨_,rfl,Nat.le_refl _,asc_one hz hc⟩ ⟨b,λ q hq=>(f q hq).trans (hj.2 q hq)⟩⟩
 ·obtain ⟨ys,e,hy⟩:=tx_list hg
  subst e
  exact q ys M2 hy (by simpa [hk] using hlen) hj.1 hj.2
theorem ix_at {M:MH}{ds:List PyData}{r:Int}(h0:0<=r)(h1:r < ds.length):∃ d,ixW M (.d (.list ds)) r=some (.d d)/\d∈ds:=by
 have hn:r.toNat < ds.length:=by omega
 refine ⟨ds[r.toNat],?_,List.getElem_mem hn⟩
 simp only [ixW,atI,ixN_nat h0 h1,Option.bind_some,List.getElem?_eq_getElem hn,Option.map_some]
theorem ix_str_in {M:MH}{zs:List Str}{r:Int}(h0:0<=r)(h1:r < zs.length):∃ z,ixW M (.d (.list (zs.map PyData.str))) r=some (.d (.str z))/\z∈zs:=by
 obtain ⟨d,e,hd⟩:=ix_at (M:=M) (ds:=zs.map PyData.str) h0 (by simpa using h1)
 obtain ⟨i,hi,rfl⟩:=List.mem_map.mp hd
 exact ⟨i,e,hi⟩
end Stc
namespace D
open PySem PySem.Spec PyProof.Rows L2
section
variable {X:Cx}{pos:Pos}{e:Expr}{te:TD}
end
section
variable {X:Cx}{tg a b c:Expr}{p pos:Pos}
end
section
variable {K:PySem.W.Frag}
variable {X:Cx}{sc:Scope}{own:List Str}{fr:List Nat}{di:TId}{g:TGd}{tt:TTd}{te:TD}{tg iter elt:Expr}{ifs:List Expr}{pos:Pos}
end
section
variable {X:Cx}{K:PySem.W.Frag}
end
end D
namespace D
open PySem PySem.Spec PyProof.Rows L2
section
variable {X:Cx}{o:Expr}{to:TE}{apos cpos p pos kpos kp:Pos}{j:Nat}
theorem vals_ints:∀ {ns:List Int} {kvs:List (Key×V)} {vs:List (Key×Value)} {us:List Value},KV kvs vs->kvs.map (·.2)=ns.map V.int->us.length=vs.length->(∀ (i:Nat) v,us[i]? = some v->∃ k,vs[i]? = some (k,v))->IntsAre us ns
 | [],kvs,vs,us,r,h,hl,hp=>by
  have e:kvs=[]:=by simpa using h
  subst e
  cases r
  have e:us=[]:=by simpa using hl
  subst e
  exact .nil
 | n :: ns,kvs,vs,us,r,h,hl,hp=>by
  match kvs,us,r,h,hl,hp with
  | (k,x) :: kvs,u :: us,.cons (b:=b) r1 r2,h,hl,hp =>
   simp only [List.map_cons,List.cons.injEq] at h
   obtain ⟨k',e⟩:=hp 0 u rfl
   simp at e
   have hx:=r1.2
   rw [h.1,e] at hx
   obtain ⟨t,et⟩:=(show ∃ t,u=Value.int n t from hx)
   subst et
   exact .cons n t (vals_ints r2 h.2 (by simpa using hl) λ i v hi=>by simpa using hp (i+1) v (by simpa using hi))
  | [],_,r,h,_,_=>simp at h
  | _ :: _,[],.cons _ _,_,hl,_=>simp at hl
end
section
variable {X:Cx}{o:Expr}{td:TD}{apos cpos p pos kpos kp:Pos}{j:Nat}
end
namespace Q
section
variable {X:Cx}{pos:Pos}{e:Expr}{te:TD}
variable {tg a b c iter elt:Expr}{p:Pos}{sc:Scope}{own:List Str}{fr:List Nat}{di:TId}{g:TGd}{tt:TTd}{ifs:List Expr}
variable {o:Expr}{td:TD}{apos cpos kpos kp:Pos}{j:Nat}
end
end Q
end D
namespace D
open PySem PySem.Spec PyProof.Rows L2
section
variable {P:Program}{w:World}{K:PySem.W.Frag}{mg:Str->Option Value}{base h:Heap}
end
section
variable {X:Cx}{pos p:Pos}{k:Nat}{f:Addr}{fd:FuncData}{ps:List Str}{sp:SpD}{x:Str}{e:Expr}{es:List Expr}{t:TAd}{d:Int}
end
end D
namespace D
open PySem PySem.Spec PyProof.Rows L2
section
variable {X:Cx}{pins:List (Addr×Obj)}{σ:St}{H:Hp}{s:Shared}{h':Heap}
end
section
variable {X:Cx}{a b:Expr}{p pos:Pos}{ta:TA}
end
section
variable {X:Cx}{K:PySem.W.Frag}{a b:Expr}{p pos:Pos}{t:TAd}
end
section
variable {X:Cx}{pos:Pos}
end
end D
namespace Q
open PySem PySem.Spec PyProof.Rows L2 D
section
variable {X:Cx}{a b:Expr}{p pos:Pos}
end
end Q
namespace Stc
open PySem PySem.Spec PyProof.Rows L2 D Rc
noncomputable def Ext (M M':MH):Prop:=∀ q o,M q=some o->M' q=some o
theorem Ext.refl (M:MH):Ext M M:=λ _ _ h=>h
theorem Ext.trans {A B C:MH}(h:Ext A B)(k:Ext B C):Ext A C:=λ q o e=>k q o (h q o e)
theorem Ext.new {M:MH}{p:Addr}{o:MO}(h:M p=none):Ext M (updM M p o):=λ q u e=>upd_get e h
theorem Ext.upd {M M':MH}{p:Addr}{o:MO}(h:Ext M M')(hp:M p=none):Ext M (updM M' p o):=λ q u e=>by
 rw [updM_ne (ne_new e hp)]
 exact h q u e
theorem Ext.none {M M':MH}{p:Addr}(h:Ext M M')(hp:M' p=none):M p=none:=by
 cases e:M p with
 | none=>rfl
 | some o=>rw [h p o e] at hp; cases hp
theorem Ext.bag {M M':MH}{p:Addr}(h:Ext M M')(hb:Bag M p):Bag M' p:=by
 obtain ⟨a,b,c,ns,e,z⟩:=hb
 exact ⟨a,b,c,ns,h _ _ e,z⟩
noncomputable abbrev Dm:=List (Str×Int)
noncomputable def gI (r:Str×Int):PyData:=.int r.2
noncomputable def Dc (M:MH)(a:Addr)(D:Dm):Prop:=M a=some (.dic (dataKV (rk Prod.fst gI D)))
noncomputable def val (D:Dm)(k:Str):Int:=((fd Prod.fst D k).map (·.2)).getD 0
noncomputable def more (D:Dm)(k:Str)(n:Int):Dm:=pt Prod.fst D (k,val D k+n)
noncomputable def vals (D:Dm):List Int:=D.map λ r=>r.2
noncomputable def dsc (ns:List Int):List Int:=ns.mergeSort λ a b=>decide (a >= b)
noncomputable def room (rs:List Int)(i:Int):Int:=(rs.map λ m=>if i < m then i else m).sum
noncomputable def fitL (rs:List Int)(ns:List Int):Bool:=(List.range ns.length).all λ i=>decide ((ns.take (i+1)).sum<=room rs ((i:Int)+1))
noncomputable def fitD (rs:List Int)(D:Dm):Bool:=fitL rs (dsc (vals D))
noncomputable def OkR (rs:List Int):Prop:=rs.length<=8/\∀ m∈rs,0<=m/\m<=6
noncomputable def gr (rs:List Int)(D:Dm)(k:Str):Nat->Int
 | 0=>0
 | n+1=>if fitD rs (more D k ((n:Int)+1))=true then (n:Int)+1 else gr rs D k n
noncomputable abbrev Bs:=List (Str×Int)
noncomputable abbrev As:=List (Str×Str×Int)
noncomputable def rooms (B:Bs):List Int:=B.map (·.2)
theorem map_at {α β:Type}{L:List α}{f:α->β}{i:Nat}{w:β}(h:(L.map f)[i]? = some w):∃ a,L[i]? = some a/\w=f a:=by
 rw [List.getElem?_map] at h
 cases e:L[i]? with
 | none=>rw [e] at h; cases h
 | some a=>rw [e] at h; cases h; exact ⟨a,rfl,rfl⟩
theorem rng_at {lo:Int}{n i:Nat}{w:W}(h:(rangeW lo n)[i]? = some w):i < n/\w=.d (.int (lo+(i:Int))):=by
 unfold rangeW at h
 obtain ⟨j,hj,rfl⟩:=map_at h
 obtain ⟨h1,h2⟩:=List.getElem?_eq_some_iff.mp hj
 simp at h1 h2
 subst h2
 exact ⟨h1,rfl⟩
noncomputable def stp (rs:List Int)(s:Dm×As)(r:Str×Str×Int):Dm×As :=
 (more s.1 r.2.1 (gr rs s.1 r.2.1 r.2.2.toNat),s.2++[(r.1,r.2.1,gr rs s.1 r.2.1 r.2.2.toNat)])
noncomputable def run (rs:List Int)(A:As):Dm×As:=A.foldl (stp rs) ([],[])
noncomputable def OkC (A:As):Prop:=A.length<=8/\∀ r∈A,0<=r.2.2/\r.2.2<=6
noncomputable def due (rs:List Int)(A:As):Bs:=(run rs A).2.map λ r=>(r.1,r.2.2)
noncomputable def smallB (c:Nat):Bool:=decide (97<=c) && decide (c<=122)
noncomputable def wd (z:Str):Bool:=decide (1<=z.length) && decide (z.length<=8) && z.cps.toList.all smallB
theorem ite_n {c:Bool}{A B:Prop}(e:c=false)(h:B):if c=true then A else B:=by rw [e]; exact iteF h
noncomputable def OkRow (r:Str×Int):Prop:=wd r.1=true/\0<=r.2/\r.2<=6
noncomputable def lsS (a b:Str):Bool:=decide (a.cps.toList < b.cps.toList)
structure OkB (B:Bs):Prop where
 len:B.length<=8
 row:∀ r∈B,OkRow r
 up:∀ i r s,B[i]? = some r->B[i+1]? = some s->lsS r.1 s.1=true
structure OkAr (r:Str×Str×Int):Prop where
 w:wd r.1=true
 k:wd r.2.1=true
 c0:0<=r.2.2
 c6:r.2.2<=6
structure OkA (A:As):Prop where
 len:A.length<=8
 row:∀ r∈A,OkAr r
 nd:(A.map λ r=>r.1).Nodup
theorem OkA.c {A:As}(h:OkA A):OkC A:=⟨h.len,λ r hr=>⟨(h.row r hr).c0,(h.row r hr).c6⟩⟩
theorem OkB.r {B:Bs}(h:OkB B):OkR (rooms B):=⟨by unfold rooms; rw [List.length_map]; exact h.len,λ m hm=>by obtain ⟨r,hr,rfl⟩:=List.mem_map.mp hm; exact (h.row r hr).2⟩
noncomputable def tailB (k:Nat):Str:=Txt.mul ⟨#[("abcdefgh" : Str).cps.toList.getD k 0]⟩ (1+(0+(k:Int)) % 2)
end Stc
namespace HT
open PySem PyProof.Rows
section
open PySem.SeqAt
open PySem.AutoSeq1 (wpAny_loadPart')
open PySem.MeetsSeq PySem.MeetsSeq2 PySem.MeetsSeq3
end
section
variable {prog:Program}{w:World}{A:Around}{E:Value->Shared->Prop}{s:Shared}
end
end HT
namespace D
open PySem PySem.Spec PyProof.Rows L2
section
variable {X:Cx}{K:PySem.W.Frag}
end
end D
namespace Stc
open PySem PySem.Spec PyProof.Rows L2 D Rc
noncomputable def exc (t:Int)(xs:List Int):Int:=(xs.map λ x=>if t < x then x - t else 0).sum
theorem rng0_at {n i:Nat}{w:W}(h:(rangeW 0 n)[i]? = some w):i < n/\w=.d (.int (i:Int)):=by
 obtain ⟨h1,h2⟩:=rng_at h
 rw [Int.zero_add] at h2
 exact ⟨h1,h2⟩
noncomputable def Dom (xs ys:List Int):Prop:=∀ t,0<=t->exc t xs<=exc t ys
theorem Dom.refl (xs:List Int):Dom xs xs:=λ _ _=>Int.le_refl _
theorem Dom.trans {xs ys zs:List Int}(h:Dom xs ys)(k:Dom ys zs):Dom xs zs:=λ t ht=>Int.le_trans (h t ht) (k t ht)
end Stc
namespace D
open PySem PySem.Spec PyProof.Rows L2
section
variable {X:Cx}{o:Expr}{to:TE}{p pos kpos kp:Pos}{j:Nat}
end
section
variable {X:Cx}{o:Expr}{td:TD}{p pos kpos kp:Pos}{j:Nat}
end
end D
namespace Q
open PySem PySem.Spec PyProof.Rows L2 D
section
variable {X:Cx}{o:Expr}{td:TD}{p pos kpos kp:Pos}{j:Nat}
end
end Q
namespace L2
open PySem PySem.Spec PyProof.Rows
section
variable {prog:Program}{w:World}{A:Around}{E:Value->Shared->Prop}{R:Result->Shared->Prop}{s:Shared}
end
section
variable {X:Cx}{pins:List (Addr×Obj)}{σ:St}{H:Hp}{s:Shared}{a:Addr}{u r:Value}{v:V}{A:Around}{E:Value->Shared->Prop}
end
noncomputable abbrev DcW:=Nat->Nat->St->Hp->Prop
section
variable {X:Cx}{pins:List (Addr×Obj)}{σ:St}{H:Hp}{s:Shared}{sc:Scope}{own:List Str}{fr:List Nat}{cl:List (Str×Addr)}{fp:List Addr}{it D:Addr}{J:It}{tn:Nat->Heap->Prop}{g:TG}{tt:TT}{tk tv:TE}{W:DcW}{Fin:Hp->Prop}
 {kx vx tg iter:Expr}{ifs:List Expr}{pos:Pos}{E:Value->Shared->Prop}
end
end L2
namespace D
open PySem PySem.Spec PyProof.Rows L2
section
variable {K:PySem.W.Frag}
variable {X:Cx}{sc:Scope}{own:List Str}{fr:List Nat}{di:TId}{g:TGd}{tt:TTd}{tk tv:TD}{tg iter kx vx:Expr}{ifs:List Expr}{pos:Pos}
end
end D
namespace Q
open PySem PySem.Spec PyProof.Rows L2 D
section
variable {X:Cx}{sc:Scope}{own:List Str}{fr:List Nat}{di:TId}{g:TGd}{tt:TTd}{tk tv:TD}{tg iter kx vx:Expr}{ifs:List Expr}{pos:Pos}
end
end Q
namespace L2
open PySem PySem.Spec PyProof.Rows
section
variable {X:Cx}{sc:Scope}{own:List Str}{fr:List Nat}{g:TG}{tt:TT}{tk tv:TE}{kx vx tg iter:Expr}{ifs:List Expr}{pos:Pos}
end
end L2
namespace D
open PySem PySem.Spec PyProof.Rows L2
section
variable {X:Cx}{sc:Scope}{own:List Str}{fr:List Nat}{di:TId}{g:TGd}{tt:TTd}{tk tv:TD}{tg iter kx vx:Expr}{ifs:List Expr}{pos:Pos}
end
end D
namespace Q
open PySem PySem.Spec PyProof.Rows L2 D
section
variable {X:Cx}{sc:Scope}{own:List Str}{fr:List Nat}{di:TId}{g:TGd}{tt:TTd}{tk tv:TD}{tg iter kx vx:Expr}{ifs:List Expr}{pos:Pos}
end
end Q
namespace D
open PySem PySem.Spec PyProof.Rows L2
section
variable {X:Cx}{C:Addr}{o value:Expr}{fn:Str}{pos tpos:Pos}{td tv:TD}
end
end D
namespace Q
open PySem PySem.Spec PyProof.Rows L2 D
section
variable {X:Cx}{C:Addr}{o value:Expr}{fn:Str}{pos tpos:Pos}{td tv:TD}
end
end Q
namespace D
open PySem PySem.Spec PyProof.Rows L2
section
variable {X:Cx}{tg o:Expr}{apos cpos:Pos}{td:TE}
end
section
variable {X:Cx}{K:PySem.W.Frag}{tg o:Expr}{apos cpos:Pos}{td:TD}
end
end D
namespace Q
open PySem PySem.Spec PyProof.Rows L2 D
section
variable {X:Cx}{tg o:Expr}{apos cpos:Pos}{td:TD}
end
end Q
namespace D
open PySem PySem.Spec PyProof.Rows L2
section
variable {X:Cx}{K:PySem.W.Frag}
end
end D
namespace D
open PySem PySem.Spec PyProof.Rows L2
section
variable {X:Cx}{o:Expr}{to:TE}{apos cpos p pos:Pos}
end
section
variable {X:Cx}{o:Expr}{td:TD}{apos cpos p pos:Pos}
namespace Q
end Q
end
end D
namespace PySem
namespace Dp
theorem entry_upd:entryFor table "dict.update.loop" = some Builtin.«dict.update.loop»:=entryFor_of_tree (by kernel_rfl)
theorem plain_upd:plainId "dict.update.loop" = true:=by decide +kernel
section
variable {prog:Program}{w:World}{A:Around}{E:Value->Shared->Prop}{s:Shared}
variable {K:Type}[DecidableEq K]{knd:KeyKind prog w K}
theorem loop {I D l:Addr}{items:Array Value}{kvs:List (K×Value)}{R:Result->Shared->Prop}{h0:Heap}(hh:A.handled=none)(hDI:D≠I)(hDl:D≠l)(hlI:l≠I)(hsz:kvs.length<=sizeLine)(hlen:items.size=kvs.length)
  (ht:∀ i (hi:i < kvs.length),∃ a key k dct sl,items[i]? = some (.ref a)/\a≠D/\a≠I/\knd.is kvs[i].1 key=true/\h0.get? a=some { cls:=.type "tuple",dict:=dct,data:=.seq #[key,kvs[i].2] k,slots:=sl }) :
  ∀ (j i:Nat) (s:Shared),kvs.length - i=j->i<=kvs.length->s.heap.IsListIter I l i->s.heap.IsList l items->s.heap.DictOf knd D (merged [] (kvs.take i))->(∀ b o,b≠D->b≠I->h0.get? b=some o->s.heap.get? b=some o) ->
   (∀ h' tk,h'.DictOf knd D (merged [] kvs)->(∀ b o,b≠D->b≠I->h0.get? b=some o->h'.get? b=some o)->R (.ok (.ret .none)) { s with heap:=h',toks:=tk }) ->
   codeAny (model prog w) A (.builtin "dict.update.loop" ⟨[.ref D,.ref I,rawInt i,.none],[]⟩) R s:=by
 intro j
 induction j with
 | zero =>
  intro i s hj hi hit hl hd hk hR
  have hin:i=kvs.length:=by omega
  subst hin
  refine codeAny_builtin entry_upd ?_
  rw [Around.under_plainId plain_upd _]
  show wpAny _ A.in1 (pyNext (.ref I) >>= _) _ _ s
  refine wpAny_bind (wpAny_pyNext_list_end (by simpa using hh) hit hl (by simp [hlen]) λ h' he'=>?_)
  show wpAny _ A.in1 (Builtin.Dict.addKeywords D [] >>= _) _ _ _
  refine wpAny_bind (wpAny_pure (wpAny_pure ?_))
  rw [List.take_length] at hd
  refine hR h' s.toks ?_ λ b o b1 b2 e=>he' b o b2 (hk b o b1 b2 e)
  obtain ⟨o,es,ep,ho,rest⟩:=hd
  exact ⟨o,es,ep,he' D o hDI ho,rest⟩
 | succ j ih =>
  intro i s hj hi hit hl hd hk hR
  have hlt:i < kvs.length:=by omega
  obtain ⟨a,key,k,dct,sl,e1,a1,a2,hkey,e2⟩:=ht i hlt
  refine codeAny_builtin entry_upd ?_
  rw [Around.under_plainId plain_upd _]
  show wpAny _ A.in1 (pyNext (.ref I) >>= _) _ _ s
  refine wpAny_bind (wpAny_pyNext_list_item hit hl e1 λ h' hit' hs'=>?_)
  have e3:h'.get? a=some { cls:=.type "tuple",dict:=dct,data:=.seq #[key,kvs[i].2] k,slots:=sl }:=hs'.extBut a _ a2 (hk a _ a1 a2 e2)
  have hT:Shared.TypeIs { s with heap:=h' } (.ref a) "tuple" := ⟨_,e3,rfl⟩
  have hd':h'.DictOf knd D (merged [] (kvs.take i)):=by
   obtain ⟨o,es,ep,ho,rest⟩:=hd
   exact ⟨o,es,ep,hs'.extBut D o hDI ho,rest⟩
  have hl':h'.IsList l items:=hl.extBut hs'.extBut hlI
  show wpAny _ A.in1 (holding [Value.ref a] _ >>= _) _ _ _
  refine wpAny_bind (wpAny_holding ?_)
  refine wpAny_bind (m:=tryCatch (Builtin.Dict.pairItems (.ref a)) _) (wpAny_tryCatch ?_)
  unfold Builtin.Dict.pairItems
  refine wpAny_bind (wpAny_typeOf hT ?_)
  rw [if_pos (by decide)]
  unfold seqItems?
  obtain ⟨hp,g,d,tk,os⟩:=s
  generalize hDS:dictSet=DS
  repeat (any_goals (first | assumption | wp_step))
  subst hDS
  have hl2:(merged [] (kvs.take i)).length<=sizeLine:=by have:=merged_length_le [] (kvs.take i); simp at this; omega
  refine wpAny_dictSet_pairs (hsz:=hl2) hkey hd' λ h2 hd2 hs2=>?_
  refine wpAny_pure ⟨plainId_quiet plain_upd _,ih (i+1) _ (by omega) hlt ?_ ?_ ?_ ?_ ?_⟩
  ·exact hit'.at λ o e=>hs2.extBut I o (Ne.symm hDI) e
  ·exact hl'.extBut hs2.extBut (Ne.symm hDl)
  ·rw [merged_take_succ [] kvs i kvs[i] (List.getElem?_eq_getElem hlt)]
   exact hd2
  ·exact λ b o b1 b2 e=>hs2.extBut b o b1 (hs'.extBut b o b2 (hk b o b1 b2 e))
  ·exact λ h' tk d k=>hR h' tk d k
end
end Dp
end PySem
namespace D
open PySem PySem.Spec PyProof.Rows L2
section
variable {X:Cx}{K:PySem.W.Frag}
end
end D
namespace Stc
open PySem PySem.Spec PyProof.Rows L2 D Rc
end Stc
namespace D
open PySem PySem.Spec PyProof.Rows L2
section
variable {X:Cx}{K:PySem.W.Frag}
noncomputable def rdRep (w w':W)(M:MH)(Q:QD):Prop:=∃ a ws n,w=.m a/\w'=.d (.int n)/\M a=some (.lst ws)/\0<=n/\n<=1000/\ws.length<=1000/\∀ p,M p=none->Q (.m p) (updM M p (.lst (List.replicate n.toNat ws).flatten))
theorem reps_rep {H:Hp}{ws:List W}{vs:List V}(r:RepWs K H ws vs):∀ n:Nat,RepWs K H (List.replicate n ws).flatten (List.replicate n vs).flatten
 | 0=>.nil
 | n+1=>by
  rw [List.replicate_succ,List.replicate_succ,List.flatten_cons,List.flatten_cons]
  exact r.append (reps_rep r n)
theorem opd_rep:OpD K rRep rdRep:=by
 intro x y H w w' M Qd Q r1 r2 m ⟨a,ws,n,e1,e2,hm,h0,h1,hl,q⟩ k
 subst e1 e2
 simp only [RepW,RepD] at r1 r2
 obtain ⟨vs,e,rr⟩:=m _ _ hm
 have hlen:=rr.length
 refine ⟨a,n,vs,r1,r2,e,by omega,by omega,?_,λ p hp=>?_⟩
 ·have h2:vs.length * n.toNat<=1000 * 1000:=Nat.mul_le_mul (by omega) (by omega)
  have:=s16
  omega
 ·have kp:Kp H (upd H p (.lst (List.replicate n.toNat vs).flatten)):=Kp.new hp
  exact k _ _ (.m p) _ kp rfl (m.put (mo:=.lst (List.replicate n.toNat ws).flatten) kp ⟨_,upd_same,(reps_rep rr n.toNat).keep kp⟩) (q p (m.free hp))
end
namespace Q
section
variable {X:Cx}{pos:Pos}
end
end Q
end D
namespace S
open PySem PySem.W PyProof.Rows
section
variable {N:Nat}
end
end S
namespace D
open PySem PySem.Spec PyProof.Rows L2 S
section
variable {X:Cx}{K:PySem.W.Frag}
end
end D
namespace D
open PySem PySem.Spec PyProof.Rows L2
mutual
noncomputable def RepN (K:PySem.W.Frag)(H:Hp):PyData->V->Prop
 | .list ds,x=>RepD K H (.list ds) x\/∃ a vs,x=.ref a/\H a=some (.lst vs)/\RepNs K H ds vs
 | .tuple ds,x=>∃ a vs,x=.ref a/\SqT K H a vs/\RepNs K H ds vs
 | .none,x=>RepD K H .none x
 | .bool b,x=>RepD K H (.bool b) x
 | .int i,x=>RepD K H (.int i) x
 | .str z,x=>RepD K H (.str z) x
 | .dict kvs,x=>RepD K H (.dict kvs) x
noncomputable def RepNs (K:PySem.W.Frag)(H:Hp):List PyData->List V->Prop
 | [],l=>l=[]
 | d :: ds,l=>∃ v r,l=v :: r/\RepN K H d v/\RepNs K H ds r
end
mutual
theorem RepN.of {K:PySem.W.Frag}{H:Hp}:∀ {d:PyData} {x:V},RepD K H d x->RepN K H d x
 | .list ds,x,h=>by unfold RepN; exact .inl h
 | .tuple ds,x,h=>by
  unfold RepN
  simp only [RepD] at h
  obtain ⟨a,vs,e,s,r⟩:=h
  exact ⟨a,vs,e,s,RepNs.of r⟩
 | .none,x,h=>by unfold RepN; exact h
 | .bool b,x,h=>by unfold RepN; exact h
 | .int i,x,h=>by unfold RepN; exact h
 | .str z,x,h=>by unfold RepN; exact h
 | .dict kvs,x,h=>by unfold RepN; exact h
theorem RepNs.of {K:PySem.W.Frag}{H:Hp}:∀ {ds:List PyData} {xs:List V},RepA K H ds xs->RepNs K H ds xs
 | [],xs,h=>by unfold RepNs; simpa [RepA] using h
 | d :: ds,xs,h=>by
  unfold RepNs
  simp only [RepA] at h
  obtain ⟨v,r,e,h1,h2⟩:=h
  exact ⟨v,r,e,RepN.of h1,RepNs.of h2⟩
end
noncomputable def Tw (H H':Hp):Prop:=Kp H H'/\∀ b vs,H b=some (.lst vs)->H' b=some (.lst vs)\/∃ o,H' b=some (.frz o (.lst vs))
theorem Tw.refl (H:Hp):Tw H H:=⟨Kp.refl H,λ _ _ e=>.inl e⟩
theorem Tw.trans {A B C:Hp}(h:Tw A B)(k:Tw B C):Tw A C:=⟨h.1.trans k.1,λ b vs e=>by
 rcases h.2 b vs e with q | ⟨o,q⟩
 ·exact k.2 b vs q
 ·exact .inr ⟨o,k.1.frz b o _ q⟩⟩
section
variable {X:Cx}{pins:List (Addr×Obj)}{σ:St}{s:Shared}
end
end D
namespace D
open PySem PySem.Spec PyProof.Rows L2
section
variable {X:Cx}{pins:List (Addr×Obj)}{σ:St}{H:Hp}{s:Shared}
end
section
variable {X:Cx}
end
noncomputable def DatN (M:MH):Nat->W->PyData->Prop
 | 0,w,d=>w=.d d
 | n+1,w,d=>w=.d d\/(∃ a ws ds,w=.m a/\M a=some (.lst ws)/\d=.list ds/\Paired (DatN M n) ws ds)\/∃ a ws ds,w=.m a/\M a=some (.tup ws)/\d=.tuple ds/\Paired (DatN M n) ws ds
theorem DatN.d {M:MH}{x:PyData}:∀ {n:Nat},DatN M n (.d x) x
 | 0=>rfl
 | _+1=>.inl rfl
theorem DatN.l {M:MH}{n:Nat}{a:Addr}{ws:List W}{ds:List PyData}(h:M a=some (.lst ws))(r:Paired (DatN M n) ws ds):DatN M (n+1) (.m a) (.list ds):=.inr (.inl ⟨a,ws,ds,rfl,h,rfl,r⟩)
theorem DatN.t {M:MH}{n:Nat}{a:Addr}{ws:List W}{ds:List PyData}(h:M a=some (.tup ws))(r:Paired (DatN M n) ws ds):DatN M (n+1) (.m a) (.tuple ds):=.inr (.inr ⟨a,ws,ds,rfl,h,rfl,r⟩)
theorem DatN.ds {M:MH}{n:Nat}:∀ (ds:List PyData),Paired (DatN M n) (ds.map W.d) ds
 | []=>.nil
 | _ :: ds=>.cons DatN.d (DatN.ds ds)
theorem repNs_of {K:PySem.W.Frag}{H:Hp}{M:MH}{n:Nat}(h:∀ w d x,DatN M n w d->RepW K H w x->RepN K H d x):∀ {ws:List W} {ds:List PyData} {vs:List V},Paired (DatN M n) ws ds->RepWs K H ws vs->RepNs K H ds vs
 | _,_,_,.nil,.nil=>by unfold RepNs; rfl
 | _,_,_,.cons a b,.cons c e=>by
  unfold RepNs
  exact ⟨_,_,rfl,h _ _ _ a c,repNs_of h b e⟩
theorem DatN.sound {K:PySem.W.Frag}{H:Hp}{M:MH}(m:MAbs K H M):∀ (n:Nat) (w:W) (d:PyData) (x:V),DatN M n w d->RepW K H w x->RepN K H d x
 | 0,w,d,x,g,r=>by
  have g':w=.d d:=g
  subst g'
  exact RepN.of r
 | n+1,w,d,x,g,r=>by
  rcases g with g | ⟨a,ws,ds,rfl,h,rfl,p⟩ | ⟨a,ws,ds,rfl,h,rfl,p⟩
  ·subst g
   exact RepN.of r
  ·obtain ⟨vs,e,rw⟩:=m _ _ h
   unfold RepN
   exact .inr ⟨a,vs,r,e,repNs_of (DatN.sound m n) p rw⟩
  ·obtain ⟨vs,e,rw⟩:=m _ _ h
   unfold RepN
   exact ⟨a,vs,r,.inl (.inl e),repNs_of (DatN.sound m n) p rw⟩
section
variable {X:Cx}{K:PySem.W.Frag}
end
end D
namespace D
open PySem PySem.Spec PyProof.Rows L2
section
variable {X:Cx}{pins:List (Addr×Obj)}{σ:St}{H H0:Hp}{s s0:Shared}
end
section
variable {K:PySem.W.Frag}{H:Hp}{a:Addr}{o:Obj}{l:List V}
end
section
variable {X:Cx}{K:PySem.W.Frag}{tg o:Expr}
end
end D
namespace D
open PySem PySem.Spec PyProof.Rows L2
section
variable {X:Cx}{o:Expr}{td:TD}{apos cpos:Pos}
end
namespace Q
section
variable {X:Cx}{pos:Pos}
end
end Q
end D
namespace D
open PySem PySem.Spec PyProof.Rows L2
section
variable {X:Cx}{tg iter elt:Expr}{pos:Pos}{sc:Scope}{own:List Str}{fr:List Nat}{di:TId}{g:TGd}{tt:TTd}{te:TD}{ifs:List Expr}
end
namespace Q
section
variable {X:Cx}{tg iter elt:Expr}{pos:Pos}{sc:Scope}{own:List Str}{fr:List Nat}{di:TId}{g:TGd}{tt:TTd}{te:TD}{ifs:List Expr}
end
end Q
end D
namespace D
open PySem
theorem len_0 {us:List Value}(h:us.length=0):us=[]:=by
 exact List.eq_nil_of_length_eq_zero h
theorem len_1 {us:List Value}(h:us.length=1):∃ a1:Value,us=[a1]:=by
 cases us with
 | nil=>simp at h
 | cons a r =>
  have e:r=[]:=len_0 (by simpa using h)
  subst e
  exact ⟨a,rfl⟩
theorem len_2 {us:List Value}(h:us.length=2):∃ a1 a2:Value,us=[a1,a2]:=by
 cases us with
 | nil=>simp at h
 | cons a r =>
  obtain ⟨b1,e⟩:=len_1 (us:=r) (by simpa using h)
  subst e
  exact ⟨a,b1,rfl⟩
theorem len_3 {us:List Value}(h:us.length=3):∃ a1 a2 a3:Value,us=[a1,a2,a3]:=by
 cases us with
 | nil=>simp at h
 | cons a r =>
  obtain ⟨b1,b2,e⟩:=len_2 (us:=r) (by simpa using h)
  subst e
  exact ⟨a,b1,b2,rfl⟩
theorem len_4 {us:List Value}(h:us.length=4):∃ a1 a2 a3 a4:Value,us=[a1,a2,a3,a4]:=by
 cases us with
 | nil=>simp at h
 | cons a r =>
  obtain ⟨b1,b2,b3,e⟩:=len_3 (us:=r) (by simpa using h)
  subst e
  exact ⟨a,b1,b2,b3,rfl⟩
end D
namespace D
open PySem PySem.Spec PyProof.Rows L2
section
variable {X:Cx}{K:PySem.W.Frag}
variable {o e f:Expr}{td te tf:TD}{apos cpos:Pos}
end
namespace Q
end Q
end D
namespace D
open PySem PySem.Spec PyProof.Rows L2
section
variable {X:Cx}{K:PySem.W.Frag}
end
section
variable {X:Cx}{K:PySem.W.Frag}
end
namespace Q
end Q
end D
namespace D
open PySem PySem.Spec PyProof.Rows L2
section
variable {K:PySem.W.Frag}
variable {X:Cx}{sc:Scope}{own:List Str}{fr:List Nat}{di:TId}{g:TGd}{tt:TTd}{te:TD}{tg iter elt:Expr}{ifs:List Expr}{pos:Pos}
end
section
variable {X:Cx}{tg iter elt:Expr}{pos:Pos}{sc:Scope}{own:List Str}{fr:List Nat}{di:TId}{g:TGd}{tt:TTd}{te:TD}{ifs:List Expr}
end
namespace Q
section
variable {X:Cx}{tg iter elt:Expr}{pos:Pos}{sc:Scope}{own:List Str}{fr:List Nat}{di:TId}{g:TGd}{tt:TTd}{te:TD}{ifs:List Expr}
variable {o:Expr}{td:TD}{apos cpos kpos kp:Pos}{j:Nat}
end
end Q
end D
namespace XO
open PySem PySem.Spec PyProof.Rows PySem.W Builtin.ObjectAttr
noncomputable def tailB:List Value:=[.type "ValueError",.type "Exception",.type "BaseException",.type "object"]
noncomputable def refsThen:List Value->Bool
 | .ref _ :: r=>refsThen r
 | l=>l == tailB
theorem refs_nil {l:List Value}(h:refsThen l=true):l.isEmpty=false:=by
 cases l with
 | nil=>exact absurd h (by decide)
 | cons _ _=>rfl
theorem refs_cases {l:List Value}(h:refsThen l=true):(∃ a r,l=.ref a :: r/\refsThen r=true)\/l=tailB:=by
 cases l with
 | nil=>exact absurd h (by decide)
 | cons v r =>
  cases v <;> first | exact .inl ⟨_,_,rfl,h⟩ | exact .inr (eq_of_beq (by simpa only [refsThen] using h))
theorem refs_has (T:String)(hT:tailB.contains (.type T)=true):∀ {l:List Value},refsThen l=true->l.contains (.type T)=true:=by
 intro l
 induction l with
 | nil=>intro h; exact absurd h (by decide)
 | cons v r ih =>
  intro h
  rcases refs_cases h with ⟨a,r',e,q⟩ | e
  ·cases e
   rw [List.contains_cons,ih q,Bool.or_true]
  ·rw [e]; exact hT
theorem refs_passes (self:Value):∀ {l:List Value},refsThen l=true->refuseLoop self "__setattr__" l=pure ():=by
 intro l
 induction l with
 | nil=>intro h; exact absurd h (by decide)
 | cons v r ih =>
  intro h
  rcases refs_cases h with ⟨a,r',e,q⟩ | e
  ·cases e
   rw [refuseLoop_ref]; exact ih q
  ·rw [e]; exact PySem.F.store_ValueError.passes self
noncomputable def xcls (K:Frag)(C:Addr):Bool:=(clsIn K C).any λ cd=>cd.hasDict && refsThen cd.mro
theorem xcls_of {K:Frag}{C:Addr}(h:xcls K C=true):∃ cd,clsIn K C=some cd/\cd.hasDict=true/\refsThen cd.mro=true:=by
 obtain ⟨cd,e,q⟩:=any_some h
 simp only [Bool.and_eq_true] at q
 exact ⟨cd,e,q.1,q.2⟩
section
variable {prog:Program}{w:World}{A:Around}{E:Value->Shared->Prop}{s:Shared}{K:Frag}{x C:Addr}{name:Str}{v:Value}
theorem xsub {M:Model}{h:Heap}{ox:Obj}{od:Option Obj}(X:K.In h)(c:xcls K C=true)(I:PySem.W.InstAt h x ox C od){T:String}(hT:tailB.contains (.type T)=true):Looks M h (isInstance (.ref x) (.type T)) true:=by
 obtain ⟨cd,hc,_,hm⟩:=xcls_of c
 refine I.type.andThen (looks_mroIn X ?_)
 unfold mroIn
 rw [hc,Option.bind_some,if_neg (by rw [refs_nil hm]; decide),refs_has T hT hm]
theorem osaX {R:Result->Shared->Prop}{ox:Obj}{od:Option Obj}{tk:Tok}(X:K.In s.heap)(I:PySem.W.InstAt s.heap x ox C od)(c:xcls K C=true)(na:findIn K (.ref C) name=some none)
  (h:∀ b,wpAny (model prog w) A.in1 (storeInOwnDict (.ref x) (.ref C) (.str name tk) name v b)
   (λ fin s'=>match fin with | .done f=>R (.ok f) s' | .again c'=>c'.quiet=true/\codeAny (model prog w) A c' R s') (λ e s'=>R (.error e) s') s) :
  codeAny (model prog w) A (.call (.builtin "object.__setattr__") ⟨[.ref x,.str name tk,v],[]⟩) R s:=by
 obtain ⟨cd,hc,_,hm⟩:=xcls_of c
 have S:=PySem.F.store_object
 refine codeAny_call_builtin S.slot.plain S.entry (@check_slot (model prog w) _ _ s "object.__setattr__" "object" "__setattr__" (.ref x) [.str name tk,v] [] _ S.kind S.split (xsub X c I (by decide)) (S.args (.ref x) (.str name tk) v) ?_)
 rw [osa_eq,refuse_eq]
 have hm':Looks (model prog w) s.heap (mroOf (.ref C)) cd.mro:=(looks_clsIn X hc).andThen .now
 refine wpAny_bind (wpAny_bind (I.type.here (wpAny_bind (hm'.here ?_))))
 rw [refs_passes _ hm]
 refine wpAny_pure ?_
 exact wpAny_bind (I.type.here (wpAny_bind ((looks_findIn X na).here (wpAny_bind (wpAny_pure (h _))))))
theorem xset0 {Q:Unit->Shared->Prop}{vs:Array Value}{sl:Array (Option Value)}(X:K.In s.heap)(c:xcls K C=true)(sa:findIn K (.ref C) "__setattr__" = some (some (.builtin "object.__setattr__")))
  (na:findIn K (.ref C) name=some none)(hx:s.heap.get? x=some ⟨.ref C,none,.fields vs,sl⟩)
  (h:∀ h' tk dx,s.heap.objs.size<=dx->dx≠x->h'.get? x=some ⟨.ref C,some dx,.fields vs,sl⟩->h'.Ns1 dx (λ y=>if y=name then some v else none)->(∀ b o,b≠x->s.heap.get? b=some o->h'.get? b=some o)->Q () { s with heap:=h',toks:=tk }) :
  wpAny (model prog w) A (setAttr (.ref x) name v) Q E s:=by
 have I:PySem.W.InstAt s.heap x ⟨.ref C,none,.fields vs,sl⟩ C none:=⟨hx,rfl,rfl,True.intro⟩
 refine set_plain X I sa (osaX (s:={ s with toks:=s.toks+1 }) X I c na λ b=>?_)
 obtain ⟨cd,hc,hd,_⟩:=xcls_of c
 refine wpAny_bind (wpAny_pure (wpAny_bind (wpAny_bind (wpAny_loadPart hx (wpAny_bind (PySem.W.Looks.here (s:={ s with toks:=s.toks+1 }) (looks_clsIn X hc) ?_))))))
 rw [hd]
 have lx:x < s.heap.objs.size:=Heap.lt_size hx
 have ne:s.heap.objs.size≠x:=Nat.ne_of_gt lx
 refine wpAny_bind (wpAny_alloc' (wpAny_bind (wpAny_update' (Heap.get?_push_of_some _ hx) (wpAny_pure ?_))))
 have e1:((s.heap.push { cls:=.type "dict",data:=.dict #[] }).update x λ o=>{ o with dict:=some s.heap.objs.size }).get? s.heap.objs.size=some { cls:=.type "dict",data:=.dict #[] } :=
  (Heap.get?_update_ne _ _ _ _ ne).trans (Heap.get?_push_at rfl rfl)
 have e2:((s.heap.push { cls:=.type "dict",data:=.dict #[] }).update x λ o=>{ o with dict:=some s.heap.objs.size }).get? x=some ⟨.ref C,some s.heap.objs.size,.fields vs,sl⟩ :=
  Heap.get?_update_self _ (Heap.get?_push_of_some _ hx) rfl
 have e3:((s.heap.push { cls:=.type "dict",data:=.dict #[] }).update x λ o=>{ o with dict:=some s.heap.objs.size }).Ns s.heap.objs.size (λ _=>none):=⟨_,#[],_,e1,rfl,λ _ z=>absurd z (by simp),λ _=>rfl⟩
 refine wpAny_bind (wpAny_pure (wpAny_bind (wpAny_nsSet1 (Heap.Ns1.of_empty e3) λ h2 n2 sb=>?_)))
 obtain ⟨oD,esD,epD,g1,g2,g3⟩:=n2.count (PySem.Within.cons name v PySem.Within.nil)
 refine wpAny_bind (wpAny_lookBehind g1 (by rw [g2]; exact pastItsLine_dict (Nat.le_trans g3 (by rw [List.length_cons,List.length_nil,sizeLine_eq]; omega))) (wpAny_pure ?_))
 exact h h2 _ _ (Nat.le_refl _) ne ((sb.2 x (Ne.symm ne)).trans e2) n2 λ b o hb z=>(sb.2 b (Nat.ne_of_lt (Heap.lt_size z))).trans ((Heap.get?_update_ne _ _ _ _ hb).trans (Heap.get?_push_of_some _ z))
theorem xset1 {Q:Unit->Shared->Prop}{vs:Array Value}{sl:Array (Option Value)}{dx:Addr}{mA:Str->Option Value}{ns:List Str}(X:K.In s.heap)(c:xcls K C=true)(sa:findIn K (.ref C) "__setattr__" = some (some (.builtin "object.__setattr__")))
  (na:findIn K (.ref C) name=some none)(hx:s.heap.get? x=some ⟨.ref C,some dx,.fields vs,sl⟩)(hd:s.heap.Ns1 dx mA)(hw:PySem.Within mA ns)(hz:ns.length<=1000)
  (h:∀ h' tk,h'.Ns1 dx (λ y=>if y=name then some v else mA y)->(∀ b o,b≠dx->s.heap.get? b=some o->h'.get? b=some o)->Q () { s with heap:=h',toks:=tk }) :
  wpAny (model prog w) A (setAttr (.ref x) name v) Q E s:=by
 obtain ⟨od,es,ep,hod,r⟩:=id hd
 have I:PySem.W.InstAt s.heap x ⟨.ref C,some dx,.fields vs,sl⟩ C (some od):=⟨hx,rfl,rfl,hod⟩
 refine set_plain X I sa (osaX (s:={ s with toks:=s.toks+1 }) X I c na λ b=>?_)
 obtain ⟨cd,hc,hcd,_⟩:=xcls_of c
 refine wpAny_bind (wpAny_pure (wpAny_bind (wpAny_bind (wpAny_loadPart hx (wpAny_bind (PySem.W.Looks.here (s:={ s with toks:=s.toks+1 }) (looks_clsIn X hc) ?_))))))
 rw [hcd]
 refine wpAny_pure (a:=some dx) (wpAny_bind (wpAny_pure (wpAny_bind (wpAny_nsSet1 (s:={ s with toks:=s.toks+1 }) hd λ h2 n2 sb=>?_))))
 obtain ⟨oD,esD,epD,g1,g2,g3⟩:=n2.count (PySem.Within.cons name v hw)
 refine wpAny_bind (wpAny_lookBehind g1 (by rw [g2]; exact pastItsLine_dict (Nat.le_trans g3 (by rw [List.length_cons,sizeLine_eq]; omega))) (wpAny_pure ?_))
 exact h h2 _ n2 λ b o hb z=>(sb.2 b hb).trans z
end
end XO
namespace XO
open PySem PySem.Spec PyProof.Rows PySem.W Builtin.ObjectAttr
section
variable {prog:Program}{w:World}{A:Around}{E:Value->Shared->Prop}{s:Shared}{K:Frag}{x C:Addr}{name:Str}{v:Value}{ox:Obj}{od:Option Obj}
theorem ga_kind:builtinKind "BaseException.__getattribute__" = some .slot:=by decide +kernel
theorem ga_split:splitId "BaseException.__getattribute__" = some ("BaseException", "__getattribute__"):=by decide +kernel
structure XC (K:Frag)(C:Addr):Prop where
 x:xcls K C=true
 sa:findIn K (.ref C) "__setattr__" = some (some (.builtin "object.__setattr__"))
 ga:findIn K (.ref C) "__getattribute__" = some (some (.builtin "BaseException.__getattribute__"))
 gt:findIn K (.ref C) "__getattr__" = some none
 cl:findIn K (.ref C) "__class__" = some (some (.builtin "object.__class__"))
 cg:specialIn K (.builtin "object.__class__") "__get__" = some (some (.builtin "getset_descriptor.__get__"))
 ct:takesIn K (.builtin "object.__class__")=some true
theorem xby {fill expr:Bool}{tk:Tok}{Q:Value->Shared->Prop}(X:K.In s.heap)(c:XC K C)(I:PySem.W.InstAt s.heap x ox C od)
  (h:wpAny (model prog w) A.in1 (Builtin.«object.__getattribute__» ⟨[.ref x,.str name tk],[]⟩)
   (λ fin s'=>match fin with | .done (.ret v)=>wpAny (model prog w) A (handedOut v) Q E s' | _=>False) (λ _ _=>False) s) :
  wpAny (model prog w) A (getAttrBy (.ref x) (.str name tk) fill expr) Q E s:=by
 unfold getAttrBy
 refine wpAny_holding (wpAny_bind (I.type.here (wpAny_bind ((looks_findIn X c.ga).here ?_))))
 have e1:(onTheHeap (Value.ref C) && (Value.builtin "BaseException.__getattribute__" == Value.builtin "object.__getattribute__"))=false:=by rw [show (Value.builtin "BaseException.__getattribute__" == Value.builtin "object.__getattribute__")=false from by decide,Bool.and_false]
 dsimp only
 rw [if_neg (by rw [e1]; decide)]
 unfold getAttrByItsOwn hookBefore
 refine wpAny_bind ?_
 rw [if_pos (show onTheHeap (Value.ref C)=true from rfl)]
 refine (looks_findIn X c.gt).here ?_
 refine wpAny_bind (wpAny_attempt (wpAny_holding ?_))
 unfold callGetattribute
 rw [if_neg (by rw [show onTheHeap (Value.builtin "BaseException.__getattribute__")=false from rfl,Bool.and_false]; decide)]
 unfold boundAndCalled
 rw [PySem.F.excAttr_ValueError.ga.bind]
 refine wpAny_bind (wpAny_pure ?_)
 refine wpAny_call (codeAny_call_builtin PySem.F.excAttr_ValueError.ga.plain PySem.F.entry_bexc_ga (@check_slot (model prog w) _ _ s _ "BaseException" "__getattribute__" (.ref x) [.str name tk] [] _ ga_kind ga_split (xsub X c.x I (by decide)) (PySem.F.args_bexc_ga _ _) ?_))
 refine wpAny_mono h (λ fin s' z=>?_) λ _ _ z=>z.elim
 rcases fin with (_ | _ | _ | _) | _ <;> first | exact z | exact z.elim
theorem xget {expr:Bool}{Q:Value->Shared->Prop}(X:K.In s.heap)(c:XC K C)(I:PySem.W.InstAt s.heap x ox C od)(hf:findObj K C od name=some (.value v))(hh:handedIn v=true)(h:Q v { s with toks:=s.toks+1 }) :
  wpAny (model prog w) A (getAttr (.ref x) name expr) Q E s:=by
 unfold getAttr
 refine wpAny_bind (wpAny_mkText (xby (s:={ s with toks:=s.toks+1 }) X c I ?_))
 refine wpAny_bind (wpAny_pure (wpAny_bind (wpAny_pure (wpAny_bind (PySem.W.Looks.here (s:={ s with toks:=s.toks+1 }) I.type (wpAny_bind (PySem.W.Looks.here (s:={ s with toks:=s.toks+1 }) (looks_find X I hf) ?_)))))))
 refine wpAny_pure ?_
 show wpAny _ _ (handedOut v) _ _ _
 rw [handedOut_of hh]; exact wpAny_pure h
theorem XC.mro (c:XC K C):mroIn K C (.type "object")=some true:=by
 obtain ⟨cd,hc,_,hm⟩:=xcls_of c.x
 unfold mroIn
 rw [hc,Option.bind_some,if_neg (by rw [refs_nil hm]; decide),refs_has "object" (by decide) hm]
theorem XC.at (c:XC K C):∃ cd o dd sl,K.lookup C=some ⟨o,dd,.cls cd,sl⟩:=by
 obtain ⟨cd,hc,_,_⟩:=xcls_of c.x
 unfold clsIn at hc
 split at hc
 ·rename_i ho; exact ⟨_,_,_,_,ho⟩
 ·cases hc
theorem XC.look {M:Model}{h:Heap}(c:XC K C)(X:K.In h):Looks M h (isType (.ref C)) true:=by
 obtain ⟨cd,o,dd,sl,ho⟩:=c.at
 refine λ A' Q' E' s' k q=>?_
 unfold isType loadHead
 exact wpAny_bind (wpAny_loadPart (k _ _ (X _ _ ho)) (wpAny_pure q))
theorem xclass {Q:Option Value->Shared->Prop}(X:K.In s.heap)(c:XC K C)(I:PySem.W.InstAt s.heap x ox C od)(h:Q (some (.ref C)) { s with toks:=s.toks+1 }):wpAny (model prog w) A (getAttr? (.ref x) "__class__") Q E s:=by
 obtain ⟨cd,hc,_,hm⟩:=xcls_of c.x
 have hf:findObj K C od "__class__" = some (.bind (.builtin "getset_descriptor.__get__") (.builtin "object.__class__")):=by
  unfold findObj
  rw [hc,Option.bind_some,c.cl,Option.bind_some]
  simp [c.cg,c.ct]
 unfold getAttr? getAttrBy?
 refine wpAny_bind (wpAny_mkText (wpAny_bind (wpAny_attempt (xby (s:={ s with toks:=s.toks+1 }) X c I ?_))))
 refine wpAny_bind (wpAny_pure (wpAny_bind (wpAny_pure (wpAny_bind (PySem.W.Looks.here (s:={ s with toks:=s.toks+1 }) I.type (wpAny_bind (PySem.W.Looks.here (s:={ s with toks:=s.toks+1 }) (looks_find X I hf) ?_)))))))
 show wpAny _ _ (holding [Value.builtin "object.__class__"] (call (.builtin "getset_descriptor.__get__") [.builtin "object.__class__",.ref x,.ref C]) >>= ret) _ _ _
 refine wpAny_bind (wpAny_holding (wpAny_call (class_get (s:={ s with toks:=s.toks+1 }) X I c.mro ?_)))
 exact wpAny_pure (handed_on rfl (wpAny_pure h))
theorem kitx_x (c:XC K C):KitX K (.ref x) (.ref C) (λ h=>PySem.W.InstAt h x ox C od) where
 ty:=λ _ _ _ I=>I.type
 it:=λ _ _ X _=>c.look X
 ne:=λ h tp dd its n sl X htp=>by
  obtain ⟨cd,o,d',s',e⟩:=c.at
  refine Bool.eq_false_iff.mpr λ q=>?_
  cases Value.ref.inj (beq_iff_eq.mp q)
  have z:=(X _ _ e).symm.trans htp
  cases z
 ca:=λ X I k=>xclass X c I k
end
end XO
namespace XO
open PySem PySem.Spec PyProof.Rows PySem.W Builtin.ObjectAttr
noncomputable def xmk (K:Frag)(C:Addr):Bool:=match K.lookup C with
 | some ⟨.type "type",_,.cls cd,sl⟩=>(match cd.mro,sl.toList with
  | .ref D :: bm,[_,_,_,_,some (.builtin n),_]=>D == C && n == "ValueError.__new__" && !cd.hasDel && tailIn K tailB bm
  | _,_=>false)
 | _=>false
theorem xmk_of {K:Frag}{C:Addr}{h:Heap}(X:K.In h)(e:xmk K C=true):∃ nm q N bs bm hdct sn sub ab col dd k0 k1 k2 k3 k5,
  h.get? C=some (excClassObj nm q C N bs bm hdct sn sub ab col dd k0 k1 k2 k3 k5 "ValueError.__new__")/\OwnTail h tailB bm:=by
 unfold xmk at e
 split at e
 ·rename_i dd cd sl ho
  split at e
  ·rename_i D bm a0 a1 a2 a3 n a5 hm hs
   simp only [Bool.and_eq_true,beq_iff_eq,Bool.not_eq_true'] at e
   obtain ⟨⟨⟨h1,h2⟩,h3⟩,h4⟩:=e
   subst h1 h2
   obtain ⟨c1,c2,c3,c4,c5,c6,c7,c8,c9,c10,c11⟩:=cd
   dsimp only at hm h3
   subst hm h3
   obtain ⟨l⟩:=sl
   simp only at hs
   subst hs
   exact ⟨_,_,_,_,_,_,_,_,_,_,_,_,_,_,_,_,X _ _ ho,tail_of_in X h4⟩
  ·cases e
 ·cases e
noncomputable abbrev xraw (C t:Addr):Obj:={ cls:=.ref C,data:=.fields #[.ref t,.none,.none,.none,.bool false,.none] }
section
variable {prog:Program}{w:World}{A:Around}{E:Value->Shared->Prop}{K:Frag}{C f:Addr}{h:Heap}{g:Array GenState}{d:Drawn}{t:Nat}{os:OsState}
theorem xtype {us:List Value}{Q:PySem.Fin->Shared->Prop}(X:K.In h)(c:XC K C)(q:xmk K C=true)(hi:findIn K (.ref C) "__init__" = some (some (.ref f)))(hf:typeIn K (.ref f)=some (.type "function"))(hz:us.length<=sizeLine)
  (k:wpAny (model prog w) A (call (.ref f) (.ref (h.objs.size+1) :: us)) (λ r s'=>r=.none/\Q (.done (.ret (.ref (h.objs.size+1)))) s') E
   ⟨(h.push { cls:=.type "tuple",data:=.seq us.toArray }).push (xraw C h.objs.size),g,d,t,os⟩) :
  wpAny (model prog w) A (Builtin.«type.__call__» ⟨.ref C :: us,[]⟩) Q E ⟨h,g,d,t,os⟩:=by
 obtain ⟨nm,q',N,bs,bm,hdct,sn,sub,ab,col,dd,k0,k1,k2,k3,k5,hC,T⟩:=xmk_of X q
 have B:=PySem.F.excBase_ValueError
 repeat (first | with_reducible refine wpAny_loadPart_at hC ?_ | with_reducible refine wpAny_madeBy_exc hC ?_ | wp_step)
 refine codeAny_call_builtin_code (Code.quiet_builtin _ B.quiet) (wpAny_check_new_subT B T hC (codeAny_exc_new_subT B T hC ?_ hz))
 show wpAny _ _ _ _ _ _
 have kp:∀ b o,h.get? b=some o->((h.push { cls:=.type "tuple",data:=.seq us.toArray }).push (xraw C h.objs.size)).get? b=some o:=λ b o z=>Heap.get?_push_of_some _ (Heap.get?_push_of_some _ z)
 have X1:=X.keeps kp
 have eg:((h.push { cls:=.type "tuple",data:=.seq us.toArray }).push (xraw C h.objs.size)).get? (h.objs.size+1)=some (xraw C h.objs.size):=by heap_get
 have I:PySem.W.InstAt ((h.push { cls:=.type "tuple",data:=.seq us.toArray }).push (xraw C h.objs.size)) (h.objs.size+1) (xraw C h.objs.size) C none:=⟨eg,rfl,rfl,True.intro⟩
 obtain ⟨cd,hc,_,hm⟩:=xcls_of c.x
 have hsub:Looks (model prog w) ((h.push { cls:=.type "tuple",data:=.seq us.toArray }).push (xraw C h.objs.size)) (isInstance (.ref (h.objs.size+1)) (.ref C)) true:=by
  refine I.type.andThen (λ A' Q' E' s' k' z=>?_)
  exact wpAny_isSubtype_exc (h:=s'.heap) (g:=s'.gens) (d:=s'.drawn) (t:=s'.toks) (os:=s'.os) (k' _ _ (kp _ _ hC)) (by rw [show (Value.ref C :: bm).contains (Value.ref C)=true from by simp]; exact z)
 refine wpAny_bind (hsub.here ?_)
 rw [if_neg (by decide)]
 refine wpAny_bind (wpAny_holding (special_fn (s:=⟨_,g,d,t,os⟩) X1 I hi hf (wpAny_mono k (λ r s' z=>?_) λ _ _ z=>z)))
 obtain ⟨rfl,z⟩:=z
 exact wpAny_pure z
theorem xcall {us:List Value}{Q:Value->Shared->Prop}(X:K.In h)(c:XC K C)(q:xmk K C=true)(hi:findIn K (.ref C) "__init__" = some (some (.ref f)))(hf:typeIn K (.ref f)=some (.type "function"))(hz:us.length<=sizeLine)
  (k:wpAny (model prog w) (A.under (.builtin "type.__call__" ⟨.ref C :: us,[]⟩)) (call (.ref f) (.ref (h.objs.size+1) :: us)) (λ r s'=>r=.none/\Q (.ref (h.objs.size+1)) s') E
   ⟨(h.push { cls:=.type "tuple",data:=.seq us.toArray }).push (xraw C h.objs.size),g,d,t,os⟩) :
  wpAny (model prog w) A (call (.ref C) us) Q E ⟨h,g,d,t,os⟩:=by
 obtain ⟨nm,q',N,bs,bm,hdct,sn,sub,ab,col,dd,k0,k1,k2,k3,k5,hC,T⟩:=xmk_of X q
 have l1:=tc_lookup
 have l2:=tc_bind (.ref C)
 have l3:(⟨h,g,d,t,os⟩:Shared).TypeIs (.ref C) "type" := ⟨_,hC,rfl⟩
 refine wpAny_call (codeAny_of_tree ?_)
 show wpAny _ _ (callAny (.ref C) ⟨us,[]⟩) _ _ _
 repeat (any_goals (first | with_reducible refine wpAny_loadPart_at hC ?_ | assumption | wp_step))
 exact ⟨rfl,codeAny_call_builtin_at (Code.quiet_builtin _ (by decide +kernel)) entry_typeCall (wpAny_check_type_call_sub hC (xtype X c q hi hf hz k))⟩
end
end XO
namespace XO
open PySem PySem.Spec PyProof.Rows PySem.W
noncomputable abbrev xobj (C:Addr)(dct:Option Addr)(vs:Array Value):Obj:={ cls:=.ref C,dict:=dct,data:=.fields vs }
noncomputable def Tb (h:Heap)(e:Addr)(vs:Array Value):Prop:=vs[1]? = some .none\/∃ T oT ts,vs[1]? = some (.ref T)/\T≠e/\h.get? T=some oT/\oT.data=.fields ts/\ts[3]? = some .none
theorem Tb.size {h:Heap}{e:Addr}{vs:Array Value}(t:Tb h e vs):1 < vs.size:=by
 rcases t with z | ⟨_,_,_,z,_⟩ <;> exact (Array.getElem?_eq_some_iff.mp z).1
section
variable {M:Model}{A:Around}{E:Value->Shared->Prop}{s:Shared}{base:Heap}{env:PySem.Env}{outer:List PySem.Env}{L e C:Addr}{dct:Option Addr}{vs:Array Value}
structure Seen (fs:List Addr)(e:Addr)(h h':Heap):Prop where
 keep:∀ b o,b≠e->b ∉ fs->h.get? b=some o->h'.get? b=some o
 slot:∀ b o,b∈fs->h.get? b=some o->∃ sl,h'.get? b=some { o with slots:=sl }
theorem lookX {Q:Unit->Shared->Prop}(hfr:A.frames=some (env :: outer))(hl:s.heap.FunFrames base (env :: outer))(hf:env.frame=some L)(he:s.heap.get? e=some (xobj C dct vs))(tb:Tb s.heap e vs)
  (q:∀ h' vs',h'.get? e=some (xobj C dct vs')->Tb h' e vs'->vs'[1]? ≠ some .none->Seen ((env :: outer).filterMap (·.frame)) e s.heap h'->Q () { s with heap:=h' }) :
  wpAny M A (noteFrame (.ref e) env) (λ _ s1=>wpAny M A (setFlight (.ref e) none) Q E s1) E s:=by
 have nfr:∀ b o us,s.heap.get? b=some o->o.data=.fields us->b ∉ (env :: outer).filterMap (·.frame):=λ b o us z zd hm=>by
  obtain ⟨_,o',ho,hn⟩:=hl.mem hm
  rw [z] at ho
  cases ho
  exact hn us zd
 have main:∀ (head:Value) (had:Bool),wpAny M A (do let a <- frameOf env; let pl <- entryPlaceOf L had; let b <- EntryCells.newEntry head a .none (rawInt L) .none pl; setField (.ref e) 1 b) (λ _ s1=>wpAny M A (setFlight (.ref e) none) Q E s1) E s:=by
  intro head had
  refine wpAny_bind (wpAny_frameOf_fun hfr hl hf λ h1 so=>wpAny_bind (wpAny_entryPlaceOf λ pl hpl=>?_))
  unfold EntryCells.newEntry newFields
  refine wpAny_bind (wpAny_newObj_type ?_ (hpl.sizeOk5 _ _ _ _ _))
  have e1:h1.get? e=some (xobj C dct vs):=(so.2.1 e (nfr e _ vs he rfl)).trans he
  generalize hts:([head,Value.ref L,.none,rawInt L,.none]++(if pl.isEmpty then List.replicate 6 Value.none else pl)).toArray=ts
  have hts3:3 < ts.size:=by
   rw [<- hts]
   simp only [List.size_toArray,List.length_append,List.length_cons,List.length_nil] <;> omega
  have e2:=Heap.get?_push_of_some (h:=h1) { cls:=.type "traceback",dict:=none,data:=.fields ts } e1
  refine wpAny_setField e2 rfl tb.size ?_
  have ne:h1.objs.size≠e:=Nat.ne_of_gt (Heap.lt_size e1)
  have e3:((h1.push { cls:=.type "traceback",dict:=none,data:=.fields ts }).update e (Obj.mapFields (·.setIfInBounds 1 (Value.ref h1.objs.size)))).get? e=some (xobj C dct (vs.setIfInBounds 1 (Value.ref h1.objs.size))) :=
   Heap.get?_update_self _ e2 rfl
  have e4:((h1.push { cls:=.type "traceback",dict:=none,data:=.fields ts }).update e (Obj.mapFields (·.setIfInBounds 1 (Value.ref h1.objs.size)))).get? h1.objs.size=some { cls:=.type "traceback",dict:=none,data:=.fields ts } :=
   (Heap.get?_update_other _ _ (Ne.symm ne)).trans (Heap.get?_push_size h1 rfl)
  have v1:(vs.setIfInBounds 1 (Value.ref h1.objs.size))[1]? = some (Value.ref h1.objs.size):=by simp [tb.size]
  unfold setFlight
  refine wpAny_bind (wpAny_field e3 rfl v1 ?_)
  rw [if_pos (show (Value.ref h1.objs.size != Value.none)=true from by simp)]
  refine wpAny_setField e4 rfl hts3 (q _ (vs.setIfInBounds 1 (Value.ref h1.objs.size)) ?_ (.inr ⟨h1.objs.size,_,ts.setIfInBounds 3 .none,v1,ne,Heap.get?_update_self _ e4 rfl,rfl,by simp [hts3]⟩) (by rw [v1]; intro z; cases z) ?_)
  ·rw [Heap.get?_update_other _ _ ne]; exact e3
  ·have kp:∀ b o,b≠e->h1.get? b=some o->(((h1.push { cls:=.type "traceback",dict:=none,data:=.fields ts }).update e (Obj.mapFields (·.setIfInBounds 1 (Value.ref h1.objs.size)))).update h1.objs.size
     (Obj.mapFields (·.setIfInBounds 3 ((none:Option Addr).elim Value.none λ f=>rawInt f)))).get? b=some o:=λ b o hb z=>by
    rw [Heap.get?_update_other _ _ (Nat.ne_of_gt (Heap.lt_size z)),Heap.get?_update_other _ _ (Ne.symm hb)]
    exact Heap.get?_push_of_some _ z
   refine ⟨λ b o hb hm z=>kp b o hb ((so.2.1 b hm).trans z),λ b o hm z=>?_⟩
   obtain ⟨sl,z2⟩:=so.2.2 b o z
   exact ⟨sl,kp b _ (λ w=>nfr e _ vs he rfl (w ▸ hm)) z2⟩
 unfold noteFrame
 simp only [hf]
 rcases tb with z | ⟨T,oT,ts,z1,z2,z3,z4,z5⟩
 ·refine wpAny_bind (wpAny_field he rfl z ?_)
  rw [if_neg (by decide)]
  exact main _ _
 ·refine wpAny_bind (wpAny_field he rfl z1 ?_)
  rw [if_pos (show (Value.ref T != Value.none)=true from by simp)]
  refine wpAny_bind (wpAny_field z3 z4 z5 ?_)
  rw [if_neg (show ¬ ((Value.none == rawInt L)=true) from by simp [rawInt])]
  refine wpAny_bind (wpAny_setField z3 z4 (Array.getElem?_eq_some_iff.mp z5).1 ?_)
  rw [Heap.update_setField_same s.heap T oT ts 3 .none z3 z4 z5]
  exact main _ _
end
end XO
namespace L2
open PySem PySem.Spec PyProof.Rows XO
noncomputable def XF (e C:Addr)(dct:Option Addr):Heap->Prop:=λ h=>∃ vs,h.get? e=some (xobj C dct vs)
noncomputable def DX (dx:Addr)(l:List (Str×V)):Heap->Prop:=λ h=>∃ mA,h.Ns1 dx mA/\(∀ f,RelO (l.lookup f) (mA f))/\PySem.Within mA (l.map (·.1))
noncomputable def Air (H:Hp)(h:Heap)(e:Addr):Prop:=∃ C dct vs,H e=some (.ext (XF e C dct))/\h.get? e=some (xobj C dct vs)/\Tb h e vs
theorem xf_ok {P:Program}{w:World}{H:Hp}{h:Heap}{e C:Addr}{dct:Option Addr}{vs:Array Value}(z:h.get? e=some (xobj C dct vs)):ObjOk P w H h e (.ext (XF e C dct)) :=
 ⟨⟨vs,z⟩,⟨_,z⟩,λ h1 h2 ⟨us,e1⟩ k=>⟨us,k _ e1⟩⟩
theorem dx_ok {P:Program}{w:World}{H:Hp}{h:Heap}{dx:Addr}{l:List (Str×V)}(z:DX dx l h):ObjOk P w H h dx (.ext (DX dx l)) :=
 ⟨z,let ⟨_,⟨o,_,_,e,_⟩,_⟩:=z; ⟨o,e⟩,λ h1 h2 ⟨mA,n,r⟩ k=>⟨mA,n.at k,r⟩⟩
section
variable {X:Cx}{pins:List (Addr×Obj)}{σ:St}{H:Hp}{s:Shared}{a:Addr}
theorem Inv.seen {C:Addr}{dct:Option Addr}{vs:Array Value}{h':Heap}(I:Inv X pins σ H s)(e:H a=some (.ext (XF a C dct)))(he:h'.get? a=some (xobj C dct vs))(sn:Seen (frs X.stack) a s.heap h'):Inv X pins σ H { s with heap:=h' }:=by
 have nfs:∀ b u,H b=some u->b ∉ frs X.stack:=λ b u z hb=>by rw [I.stkFree b hb] at z; cases z
 refine I.call (g':=s.gens) (t':=s.toks) (d':=s.drawn) (ch:=[]) ⟨λ b o z n hb _=>sn.keep b o (λ w=>by rw [w,e] at n; cases n) hb z,λ b o z _ hb _=>sn.slot b o hb z,λ _ _ _ n _=>n,λ b o z _=>?_,λ _ _ z=>z,λ _ _ _ z=>z,λ _ ps z=>⟨#[],by rw [z]; simp⟩⟩ (λ b o z=>?_) I.bare (λ b z=>absurd z (by simp))
 ·by_cases hb:b=a
  ·subst hb; exact ⟨_,he⟩
  ·by_cases hm:b∈frs X.stack
   ·obtain ⟨sl,q⟩:=sn.slot b o hm z; exact ⟨_,q⟩
   ·exact ⟨o,sn.keep b o hb hm z⟩
 ·by_cases hb:b=a
  ·subst hb
   rw [e] at z
   cases z
   exact xf_ok he
  ·refine (I.hok b o z).stay (λ c u hc q=>sn.keep c u ?_ ?_ q) (λ _ q=>q) λ _ _ q=>q
   ·rcases hc with w | w
    ·rw [w]; exact hb
    ·intro y; rw [y,e] at w; cases w
   ·rcases hc with w | w
    ·rw [w]; exact nfs b o z
    ·exact nfs c _ w
theorem Inv.lookX {Q:Unit->Shared->Prop}{E:Value->Shared->Prop}{A:Around}(I:Inv X pins σ H s)(hA:A.frames=some X.stack)(hst:X.stack=X.env :: X.outer)(hf:X.env.frame=some X.env.locals)(air:Air H s.heap a)
  (q:∀ s',Inv X pins σ H s'->Air H s'.heap a->Q () s'):wpAny (model X.prog X.w) A (noteFrame (.ref a) X.env) (λ _ s1=>wpAny (model X.prog X.w) A (setFlight (.ref a) none) Q E s1) E s:=by
 obtain ⟨C,dct,vs,e1,e2,e3⟩:=air
 have st:=I.stack
 rw [hst] at st hA
 refine XO.lookX hA st hf e2 e3 λ h' vs' g1 g2 _ g3=>q _ (I.seen e1 g1 ?_) ⟨C,dct,vs',e1,g1,g2⟩
 rw [hst]; exact g3
end
noncomputable def CXE (P:Program)(w:World):CXT:=λ outer H s E e s'=>∃ a H',e=.ref a/\s'.os=s.os/\AllBare s'.gens/\Un (frs outer) [] H H' s.heap s'.heap/\HOk P w H' s'.heap/\Air H' s'.heap a/\E e none H'
section
variable {X:Cx}{CX:CXT}{k:Nat}{f C:Addr}{fd:FuncData}{ps:List Str}{sp:Sp}{E:XK}{pins:List (Addr×Obj)}{σ:St}{H:Hp}{s:Shared}{Q:VK}{us:List Value}{vs:List V}
theorem run_fnX (F:FnOk X.prog X.w X.K X.mg X.base CX k f fd ps sp)(hr:Room k X.A)(hb:Binds X.K fd ps [])(I:Inv X pins σ H s)(r:Vals vs us)(h:sp vs H Q E)(hx:∀ e s',CX X.stack H s E e s'->X.xe e s') :
  wpAny (model X.prog X.w) X.A (call (.ref f) us) (EP X pins σ Q) X.xe s:=by
 have hl:(us++[]).length=ps.length:=by rw [List.append_nil,<- r.length]; exact F.len _ _ _ _ h
 have b:=hb s us I.kIn hl
 rw [List.append_nil] at b
 refine wpAny_call (codeAny_mono (F.run X.A X.stack s H ⟨us,[]⟩ us vs Q E hr I.env0 b r h) λ r s' hq=>?_)
 cases r with
 | error e=>exact hx e s' hq
 | ok fl=>cases fl <;> first | exact I.after hq | exact False.elim hq
end
end L2
namespace D
open PySem PySem.Spec PyProof.Rows L2 XO
noncomputable abbrev XQ:=Addr->MH->Prop
noncomputable abbrev XE:=Addr->DS->MH->Prop
noncomputable abbrev SpX:=List W->MH->QD->XQ->Prop
noncomputable def upSpX (K:PySem.W.Frag)(sp:SpX):Sp:=λ vs H Q E=>∃ ws M Qd Ed,RepWs K H ws vs/\MAbs K H M/\sp ws M Qd Ed/\Kont K H Qd Q/\∀ a H' M',Kp H H'->MAbs K H' M'->Ed a M'->E (.ref a) none H'
noncomputable def Lk (X:Cx)(E:XE):Prop:=∀ (pins:List (Addr×Obj)) (σ:St) (H:Hp) (s:Shared) (a:Addr) (τ:DS) (M:MH),Inv X pins σ H s->Air H s.heap a->Abs X.K H σ τ M->E a τ M->X.xe (.ref a) s
section
variable {P:Program}{w:World}{K:PySem.W.Frag}{mg:Str->Option Value}{base:Heap}
theorem lk_def {N:List Str}{qual:Str}{scope:Scope}{f:Addr}{cd:Value}{A:Around}{outer:List Env}{s:Shared}{H:Hp}{E:XK}{Ed:XQ}(he:∀ a H' M',Kp H H'->MAbs K H' M'->Ed a M'->E (.ref a) none H') :
  Lk (cxOf (CXE P w) P w K mg base N qual scope f cd A outer s H E) λ a _ M=>Ed a M:=by
 intro pins σ H1 s1 a τ M I air ab e
 show wpAny _ _ (leaving _ _) _ _ _
 unfold leaving
 refine wpAny_bind (I.lookX I.ok.frames rfl rfl air λ s2 J air2=>?_)
 exact ⟨a,H1,rfl,J.os,J.bare,J.base,J.hok,air2,he a H1 M (Kp.un J.base) ab.mem e⟩
theorem fun_okX {x qual:Str}{st:Stmt}{f:Addr}{fd:FuncData}{N ps:List Str}{k:Nat}{sp:SpX}{t:XE->TSd}(F:Fun K x qual st f fd)(S:FnScope N ps (defScope st))(len:∀ ws M Q E,sp ws M Q E->ws.length=ps.length)
  (hbody:∀ (cdv:Value) (A:Around) (outer:List Env) (s:Shared) (H:Hp) (E:XK) (Ed:XE),Room k (A.deeper (envOfC qual (defScope st) s.heap.objs.size f cdv))->Lk (cxOf (CXE P w) P w K mg base N qual (defScope st) f cdv A outer s H E) Ed ->
   PassesOwn (model P w) (A.deeper (envOfC qual (defScope st) s.heap.objs.size f cdv)) (envOfC qual (defScope st) s.heap.objs.size f cdv) (cxOf (CXE P w) P w K mg base N qual (defScope st) f cdv A outer s H E).xe ->
   PSsd (cxOf (CXE P w) P w K mg base N qual (defScope st) f cdv A outer s H E) (defBody st) (t Ed))
  (read:∀ ws M Q E,sp ws M Q E->t (λ a _ M=>E a M) { nx:=λ _ M'=>Q (.d .none) M',rt:=Q } (startD N ws) M):FnOk P w K mg base (CXE P w) (k+1) f fd ps (upSpX K sp):=by
 obtain ⟨oc,od,kV,doc,pm,an,cdv,ct,osl,rfl,lk,hcd⟩:=F.ex
 refine fn_of lk hcd S (λ vs H Q E h=>?_) λ A outer s H vs Q E hr h=>?_
 ·obtain ⟨ws,M,Qd,Ed,r,_,q,_⟩:=h
  rw [<- r.length]
  exact len _ _ _ _ q
 ·obtain ⟨ws,M,Qd,Ed,r,m,q,kk,ke⟩:=h
  refine ⟨_,hbody cdv A outer s H E (λ a _ M=>Ed a M) hr (lk_def ke) PassesOwn.leaving,startD N ws,M,_,abs_start r m,read ws M Qd Ed q,λ σ' H' τ' M' kp A' q'=>?_,λ v H' w' M' kp r' m' q'=>?_,λ σ' H' τ' M' kp A' q'=>q'.elim,λ σ' H' τ' M' kp A' q'=>q'.elim⟩
  ·exact kk _ H' _ M' kp (by simp [RepW,RepD]) A'.mem q'
  ·exact kk v H' w' M' kp r' m' q'
end
section
variable {X:Cx}{pos p apos:Pos}{k:Nat}{f C:Addr}{fd:FuncData}{ps:List Str}{sp:SpX}{x m:Str}{e o:Expr}{es:List Expr}{t:TAd}{td:TD}{E:XE}
theorem lk_call {pins:List (Addr×Obj)}{σ:St}{H:Hp}{s:Shared}{τ:DS}{M:MH}(L:Lk X E)(I:Inv X pins σ H s)(ab:Abs X.K H σ τ M){E':XK}(hE:∀ v H',E' v none H'->∃ a M',v=.ref a/\Kp H H'/\MAbs X.K H' M'/\E a τ M'){u:Value}{s':Shared}
  (h:CXE X.prog X.w X.stack H s E' u s'):X.xe u s':=by
 obtain ⟨a,H',rfl,os,br,un,hok,air,q⟩:=h
 obtain ⟨a',M',e,kp,m',q'⟩:=hE _ _ q
 cases e
 exact L pins σ H' s' a τ M' (I.call' os un hok br (λ b z=>absurd z (by simp))) air (ab.go kp m') q'
noncomputable def dCallX (sp:SpX)(E:XE)(t:TAd)(τ:DS)(M:MH)(Q:QD):Prop:=t τ M λ ws M1=>sp ws M1 Q λ a M'=>E a τ M'
theorem pd_callX (L:Lk X E)(F:FnOk X.prog X.w X.K X.mg X.base (CXE X.prog X.w) k f fd ps (upSpX X.K sp))(hr:Room k X.A)(hg:Gl X x)(hm:X.mg x=some (.ref f))(hk:PySem.W.keepIn X.K (.ref f)=true)(hb:Binds X.K fd ps [])
  (ha:PAd X (e :: es) t)(hdb:(x == ("__debug__" : Str))=false:=by decide)(h1:isSt e=false:=by rfl)(h2:(es.all λ e=>!isSt e)=true:=by rfl) :
  PD X (.Call (.Name x p) (e :: es) [] pos) (dCallX sp E t):=by
 intro pins s σ H Q I h
 obtain ⟨τ,M,Qd,A,h,k⟩:=h
 refine wpAny_Call_Name_kw (ld_glob I hg hm ?_ hdb)
 refine PySem.W.callWith_K (h₀:=X.base) I.ok.mod.kin hk (thn (ha pos pins s σ H (λ vs H1=>∃ ws M1,Kp H H1/\RepWs X.K H1 ws vs/\MAbs X.K H1 M1/\sp ws M1 Qd λ a M'=>E a τ M') I ⟨τ,M,_,A,h,λ vs H1 ws M1 kp r m q=>⟨ws,M1,kp,r,m,q⟩⟩) λ us s1 ⟨vs,H1,I1,r,ws,M1,kp,rw,m1,q⟩=>⟨I1.kIn,?_⟩) (star_ok e es X.env h1) (plain_ok pos X.env es h2)
 refine run_fnX (E:=λ v _ H'=>∃ a M',v=.ref a/\Kp H1 H'/\MAbs X.K H' M'/\E a τ M') F hr hb I1 r ⟨ws,M1,Qd,_,rw,m1,q,kgo k kp,λ a H' M' kp' m' e'=>⟨a,M',rfl,kp',m',e'⟩⟩ λ u s' hx=>lk_call L I1 (A.go kp m1) (λ v H' z=>z) hx
end
end D
namespace XO
open PySem PySem.Spec PyProof.Rows PySem.W
section
variable {prog:Program}{w:World}{A:Around}{E:Value->Shared->Prop}{s:Shared}{K:Frag}{env:PySem.Env}
theorem raiseX {x:Sem Value}{Q:Flow->Shared->Prop}(hh:A.handled=none)
  (h:wpAny (model prog w) A x (λ v s1=>∃ e C dct vs,v=.ref e/\K.In s1.heap/\xcls K C=true/\typeIn K (.ref C)=some (.type "type")/\s1.heap.get? e=some (xobj C dct vs)/\vs[1]? = some .none/\E (.ref e) s1) E s) :
  wpAny (model prog w) A (raiseStmt env (some x) none) Q E s:=by
 unfold raiseStmt
 refine wpAny_bind (wpAny_mono h (λ v s1 z=>?_) λ _ _ z=>z)
 obtain ⟨e,C,dct,vs,rfl,X,c,ty,he,h1,q⟩:=z
 obtain ⟨hp,g,d,tk,os⟩:=s1
 have L:Looks (model prog w) hp (isType (.ref e)) false:=λ A' Q' E' s' k q=>by
  unfold isType loadHead
  exact wpAny_bind (wpAny_loadPart (k _ _ he) (wpAny_pure q))
 have T:Looks (model prog w) hp (typeOf (.ref e)) (.ref C):=(Looks.ld he).andThen .now
 obtain ⟨cd,hc,_,hm⟩:=xcls_of c
 have S:Looks (model prog w) hp (isInstance (.ref e) (.type "BaseException")) true:=T.andThen (looks_mroIn X (by
  unfold mroIn
  rw [hc,Option.bind_some,if_neg (by rw [refs_nil hm]; decide),refs_has "BaseException" (by decide) hm]))
 have N:Looks (model prog w) hp (isExcClass (.ref e)) false:=L.andThen .now
 have Y:=looks_typeIn (M:=model prog w) X ty
 have R:Looks (model prog w) hp (raisedInstance (.ref e)) (.ref e):=T.andThen (Y.andThen (by rw [if_pos (by decide)]; exact .now))
 have Z:Looks (model prog w) hp (excFromValue (.ref e) "exceptions must derive from BaseException") (.ref e):=by
  unfold excFromValue
  refine N.andThen ?_
  rw [if_neg Bool.false_ne_true]
  refine S.andThen ?_
  rw [if_pos rfl]
  exact .now
 refine wpAny_bind (wpAny_pure (wpAny_bind (wpAny_holding (Z.at ?_))))
 dsimp only
 refine wpAny_bind (L.at ?_)
 rw [if_neg Bool.false_ne_true]
 refine wpAny_bind (R.at ?_)
 unfold setFlight
 refine wpAny_bind (wpAny_bind (wpAny_field he rfl h1 ?_))
 rw [if_neg (by decide)]
 exact wpAny_pure (wpAny_raiseNew_none hh q)
end
end XO
namespace L2
open PySem PySem.Spec PyProof.Rows XO
noncomputable def XV (e C:Addr)(dct:Option Addr)(vs:Array Value):Heap->Prop:=λ h=>h.get? e=some (xobj C dct vs)
theorem xv_ok {P:Program}{w:World}{H:Hp}{h:Heap}{e C:Addr}{dct:Option Addr}{vs:Array Value}(z:h.get? e=some (xobj C dct vs)):ObjOk P w H h e (.ext (XV e C dct vs)):=⟨z,⟨_,z⟩,λ h1 h2 e1 k=>k _ e1⟩
section
variable {X:Cx}{pins:List (Addr×Obj)}{σ:St}{H:Hp}{s:Shared}{a dx C:Addr}
theorem Inv.wr2 {φ φ':Heap->Prop}{u:HO}{h':Heap}{t':Nat}(I:Inv X pins σ H s)(e:H a=some (.ext φ))(hp:s.heap.objs.size<=dx)(kp:∀ b o,b≠a->s.heap.get? b=some o->h'.get? b=some o)
  (o1:ObjOk X.prog X.w (upd (upd H dx u) a (.ext φ')) h' a (.ext φ'))(o2:ObjOk X.prog X.w (upd (upd H dx u) a (.ext φ')) h' dx u):Inv X pins σ (upd (upd H dx u) a (.ext φ')) { s with heap:=h',toks:=t' }:=by
 have hn:H dx=none:=I.hok.fresh hp
 have ne:dx≠a:=λ z=>by rw [z,e] at hn; cases hn
 have at_:∀ b,b≠a->b≠dx->(upd (upd H dx u) a (.ext φ')) b=H b:=λ b h1 h2=>by rw [upd_ne h1,upd_ne h2]
 have nd:∀ b v,H b=some v->b≠dx:=λ b v z w=>by rw [w,hn] at z; cases z
 have na:∀ b v,H b=some v->(∀ ψ,v ≠ .ext ψ)->b≠a:=λ b v z q w=>by rw [w,e] at z; cases z; exact q _ rfl
 refine I.un ⟨λ b o z n _ _=>kp b o (λ w=>by rw [w,e] at n; cases n) z,λ b o z n _ _=>⟨o.slots,kp b o (λ w=>by rw [w,e] at n; cases n) z⟩,λ b o z n _=>?_,λ b o z _=>?_,λ b xs z=>?_,λ b o v z=>?_,λ b ps z=>⟨#[],?_⟩⟩ (λ b o z=>?_)
 ·rw [at_ b (λ w=>by rw [w,e] at n; cases n) (Nat.ne_of_lt (Nat.lt_of_lt_of_le (Heap.lt_size z) hp))]; exact n
 ·by_cases hb:b=a
  ·subst hb; exact o1.2.1
  ·exact ⟨o,kp b o hb z⟩
 ·rw [at_ b (na b _ z λ _ w=>nomatch w) (nd b _ z)]; exact z
 ·rw [at_ b (na b _ z λ _ w=>nomatch w) (nd b _ z)]; exact z
 ·rw [at_ b (na b _ z λ _ w=>nomatch w) (nd b _ z),z]; simp
 ·by_cases hb:b=a
  ·subst hb; rw [upd_same] at z; cases z; exact o1
  ·rw [upd_ne hb] at z
   by_cases hb2:b=dx
   ·subst hb2; rw [upd_same] at z; cases z; exact o2
   ·rw [upd_ne hb2] at z
    refine (I.hok b o z).stay (λ c v hc q=>kp c v ?_ q) (λ c q=>?_) λ c xs q=>?_
    ·rcases hc with w | w
     ·rw [w]; exact hb
     ·exact na c _ w λ _ y=>nomatch y
    ·rw [at_ c (na c _ q λ _ w=>nomatch w) (nd c _ q)]; exact q
    ·rw [at_ c (na c _ q λ _ w=>nomatch w) (nd c _ q)]; exact q
end
section
variable {X:Cx}{o value:Expr}{f:Str}{pos pos':Pos}{ta tv:TE}{C:Addr}
noncomputable def sX0 (C:Addr)(ta tv:TE)(f:Str):TS:=λ D σ H=>tv σ H λ y H1=>ta σ H1 λ x H2=>∃ a vs,x=.ref a/\H2 a=some (.ext (XV a C none vs))/\∀ dx,H2 dx=none->dx≠a->D.nx σ (upd (upd H2 dx (.ext (DX dx [(f,y)]))) a (.ext (XV a C (some dx) vs)))
noncomputable def sX1 (C:Addr)(ta tv:TE)(f:Str):TS:=λ D σ H=>tv σ H λ y H1=>ta σ H1 λ x H2=>∃ a vs dx l,x=.ref a/\H2 a=some (.ext (XV a C (some dx) vs))/\H2 dx=some (.ext (DX dx l))/\l.length < 900/\D.nx σ (upd H2 dx (.ext (DX dx (putF f y l))))
theorem ps_x0 (c:XC X.K C)(n:NoAttr X.K C f)(ha:PE X o ta)(hv:PE X value tv)(hs:swapsWith value (some (.Attribute o f pos')) pos.line X.env=pure false:=by rfl):PS X (.Assign [.Attribute o f pos'] value pos) (sX0 C ta tv f):=by
 intro pins s σ H D I h
 refine plainObj_wpAny_Assign_Attribute (thn (hv pins s σ H _ I h) λ u s1 ⟨y,H1,I1,ry,q⟩=>thn (ha pins s1 σ H1 _ I1 q) λ ov s2 ⟨x,H2,I2,rx,a,vs,ex,ea,q2⟩=>?_) hs
 subst ex
 obtain rfl:ov=Value.ref a:=rx
 have hx:s2.heap.get? a=some (xobj C _ vs):=(I2.hok a _ ea).1
 refine xset0 I2.kIn c.x c.sa n hx λ h' tk dx g1 g2 g3 g4 g5=>?_
 refine ⟨σ,_,I2.wr2 ea g1 g5 (xv_ok g3) (dx_ok ⟨_,g4,λ g=>?_,λ g hg=>?_⟩),q2 dx (I2.hok.fresh g1) g2⟩
 ·by_cases e:g=f
  ·subst e
   simp only [List.lookup,beq_self_eq_true,if_true]; exact ry
  ·simp only [List.lookup,beq_eq_false_iff_ne.mpr e,if_neg e]; exact True.intro
 ·by_cases e:g=f
  ·rw [e]; simp
  ·exact absurd (by show (if g=f then some u else none)=none; rw [if_neg e]) hg
theorem ps_x1 (c:XC X.K C)(n:NoAttr X.K C f)(ha:PE X o ta)(hv:PE X value tv)(hs:swapsWith value (some (.Attribute o f pos')) pos.line X.env=pure false:=by rfl):PS X (.Assign [.Attribute o f pos'] value pos) (sX1 C ta tv f):=by
 intro pins s σ H D I h
 refine plainObj_wpAny_Assign_Attribute (thn (hv pins s σ H _ I h) λ u s1 ⟨y,H1,I1,ry,q⟩=>thn (ha pins s1 σ H1 _ I1 q) λ ov s2 ⟨x,H2,I2,rx,a,vs,dx,l,ex,ea,ed,hl,q2⟩=>?_) hs
 subst ex
 obtain rfl:ov=Value.ref a:=rx
 have hx:s2.heap.get? a=some (xobj C _ vs):=(I2.hok a _ ea).1
 obtain ⟨⟨mA,n1,r1,w1⟩,_,_⟩:=I2.hok dx _ ed
 refine xset1 I2.kIn c.x c.sa n hx n1 w1 (by rw [List.length_map]; omega) λ h' tk g1 g2=>?_
 have hd:∃ o,h'.get? dx=some o:=let ⟨o,_,_,e',_⟩:=g1; ⟨o,e'⟩
 refine ⟨σ,_,I2.write (x:=dx) (e:=dx) (by rw [ed]; exact True.intro) (.inl rfl) (λ b q hb z=>g2 b q hb z) hd (dx_ok ⟨_,g1,λ g=>?_,λ g hg=>?_⟩),q2⟩
 ·rw [lookup_putF]
  by_cases e:g=f
  ·rw [if_pos e,if_pos e]; exact ry
  ·rw [if_neg e,if_neg e]; exact r1 g
 ·by_cases e:g=f
  ·rw [e]; exact (keys_putF f y l).1
  ·refine (keys_putF f y l).2 g (w1 g λ z=>hg ?_)
   show (if g=f then some u else mA g)=none
   rw [if_neg e]; exact z
end
noncomputable def xinit (C:Addr)(fs:List Str):Sp:=λ vs H Q _=>∃ e ys us,vs=.ref e :: ys/\ys.length=fs.length/\H e=some (.ext (XV e C none us))/\∀ dx,H dx=none->dx≠e->Q .non (upd (upd H dx (.ext (DX dx (fs.zip ys)))) e (.ext (XV e C (some dx) us)))
section
variable {P:Program}{w:World}{K:PySem.W.Frag}{mg:Str->Option Value}{base:Heap}{C f:Addr}{fd:FuncData}{qual:Str}{st:Stmt}
theorem init1 {p g:Str}{p1 p2 p3 p4:Pos}(F:Fun K "__init__" qual st f fd)(S:FnScope ["self",p] ["self",p] (defScope st))(c:XC K C)(n:NoAttr K C g)
  (hb:defBody st=[.Assign [.Attribute (.Name "self" p1) g p2] (.Name p p3) p4])(hs:∀ env,swapsWith (.Name p p3) (some (.Attribute (.Name "self" p1) g p2)) p4.line env=pure false)(hp:(p == ("__debug__" : Str))=false)(hc:(p == ("__classdict__" : Str))=false):FnOk P w K mg base CX0 1 f fd ["self",p] (xinit C [g]):=by
 refine F.ok (k:=0) S (λ vs H Q E ⟨e,ys,us,h1,h2,_⟩=>by rw [h1,List.length_cons,h2]; rfl) λ cdv A outer s H vs Q E hr h=>?_
 obtain ⟨e,ys,us,rfl,h2,h3,q⟩:=h
 obtain ⟨y,rfl⟩:∃ y,ys=[y]:=by
  match ys,h2 with
  | [y],_=>exact ⟨y,rfl⟩
 rw [hb]
 have v1:=S.par "self" (by simp)
 have v2:=S.par p (by simp)
 refine ⟨_,pss_one (ps_x0 c n (pe_var (i:=0) rfl (v1.elim .inl λ z=>.inr (.inl z)) (by decide) (by decide)) (pe_var (i:=1) rfl (v2.elim .inl λ z=>.inr (.inl z)) hp hc) (hs _)),?_⟩
 exact ⟨y,rfl,.ref e,rfl,e,us,rfl,h3,λ dx hd ne=>q dx hd ne⟩
theorem init3 {p p' p'' g g' g'':Str}{a1 a2 a3 a4 b1 b2 b3 b4 c1 c2 c3 c4:Pos}(F:Fun K "__init__" qual st f fd)(S:FnScope ["self",p,p',p''] ["self",p,p',p''] (defScope st))(c:XC K C)(n:NoAttr K C g)(n':NoAttr K C g')(n'':NoAttr K C g'')
  (hb:defBody st=[.Assign [.Attribute (.Name "self" a1) g a2] (.Name p a3) a4,.Assign [.Attribute (.Name "self" b1) g' b2] (.Name p' b3) b4,.Assign [.Attribute (.Name "self" c1) g'' c2] (.Name p'' c3) c4])
  (hs:∀ env,swapsWith (.Name p a3) (some (.Attribute (.Name "self" a1) g a2)) a4.line env=pure false)(hs':∀ env,swapsWith (.Name p' b3) (some (.Attribute (.Name "self" b1) g' b2)) b4.line env=pure false)(hs'':∀ env,swapsWith (.Name p'' c3) (some (.Attribute (.Name "self" c1) g'' c2)) c4.line env=pure false)
  (hp:∀ z∈[p,p',p''],(z == ("__debug__" : Str))=false/\(z == ("__classdict__" : Str))=false)(hne:g≠g'/\g≠g''/\g'≠g''):FnOk P w K mg base CX0 1 f fd ["self",p,p',p''] (xinit C [g,g',g'']):=by
 refine F.ok (k:=0) S (λ vs H Q E ⟨e,ys,us,h1,h2,_⟩=>by rw [h1,List.length_cons,h2]; rfl) λ cdv A outer s H vs Q E hr h=>?_
 obtain ⟨e,ys,us,rfl,h2,h3,q⟩:=h
 obtain ⟨y,y',y'',rfl⟩:∃ y y' y'',ys=[y,y',y'']:=by
  match ys,h2 with
  | [y,y',y''],_=>exact ⟨y,y',y'',rfl⟩
 rw [hb]
 have vis:∀ z:Str,z∈(["self",p,p',p'']:List Str)->Vis (defScope st) z:=λ z hz=>(S.par z hz).elim .inl λ z=>.inr (.inl z)
 refine ⟨_,pss_cons (ps_x0 c n (pe_var (i:=0) rfl (vis _ (by simp)) (by decide) (by decide)) (pe_var (i:=1) rfl (vis _ (by simp)) (hp p (by simp)).1 (hp p (by simp)).2) (hs _))
  (pss_cons (ps_x1 c n' (pe_var (i:=0) rfl (vis _ (by simp)) (by decide) (by decide)) (pe_var (i:=2) rfl (vis _ (by simp)) (hp p' (by simp)).1 (hp p' (by simp)).2) (hs' _))
  (pss_one (ps_x1 c n'' (pe_var (i:=0) rfl (vis _ (by simp)) (by decide) (by decide)) (pe_var (i:=3) rfl (vis _ (by simp)) (hp p'' (by simp)).1 (hp p'' (by simp)).2) (hs'' _)))),?_⟩
 refine ⟨y,rfl,.ref e,rfl,e,us,rfl,h3,λ dx hd ne=>⟨y',rfl,.ref e,rfl,e,us,dx,[(g,y)],rfl,upd_same,by rw [upd_ne ne,upd_same],by simp,?_⟩⟩
 refine ⟨y'',rfl,.ref e,rfl,e,us,dx,putF g' y' [(g,y)],rfl,by rw [upd_ne (Ne.symm ne),upd_same],upd_same,by simp [putF]; split <;> simp,?_⟩
 have z:=q dx hd ne
 have e1:putF g'' y'' (putF g' y' [(g,y)])=[g,g',g''].zip [y,y',y'']:=by simp [putF,hne.1,hne.2.1,hne.2.2]
 show Q .non _
 rw [e1]
 have e2:upd (upd (upd (upd H dx (.ext (DX dx [(g,y)]))) e (.ext (XV e C (some dx) us))) dx (.ext (DX dx (putF g' y' [(g,y)])))) dx (.ext (DX dx ([g,g',g''].zip [y,y',y''])))=upd (upd H dx (.ext (DX dx ([g,g',g''].zip [y,y',y''])))) e (.ext (XV e C (some dx) us)):=by
  funext b
  unfold upd
  by_cases h1:b=dx
  ·subst h1; simp [ne]
  ·by_cases h2:b=e
   ·subst h2; simp [h1]
   ·simp [h1,h2]
 rw [e2]; exact z
end
end L2
namespace D
open PySem PySem.Spec PyProof.Rows L2 XO
theorem zip_pair {K:PySem.W.Frag}{H:Hp}:∀ (fs:List Str) {ws:List W} {vs:List V},RepWs K H ws vs->Paired (λ (p:Str×W) (q:Str×V)=>p.1=q.1/\RepW K H p.2 q.2) (fs.zip ws) (fs.zip vs)
 | [],_,_,_=>.nil
 | _ :: _,_,_,.nil=>.nil
 | f :: fs,_,_,.cons r t=>.cons ⟨rfl,r⟩ (zip_pair fs t)
section
variable {X:Cx}{pos p cpos:Pos}{k:Nat}{f C:Addr}{fd:FuncData}{ps fs:List Str}{x:Str}{e:Expr}{es:List Expr}{t:TAd}{E:XE}
noncomputable def dRaise (C:Addr)(fs:List Str)(E:XE)(t:TAd)(_:Ed)(τ:DS)(M:MH):Prop:=t τ M λ ws M1=>ws.length=fs.length/\ws.length<=1000/\∀ a,M1 a=none->E a τ (updM M1 a (.exc C (fs.zip ws)))
structure Xm (K:PySem.W.Frag)(C f:Addr):Prop where
 xc:XC K C
 xm:xmk K C=true
 ty:PySem.W.typeIn K (.ref C)=some (.type "type")
 hi:PySem.W.findIn K (.ref C) "__init__" = some (some (.ref f))
 hf:PySem.W.typeIn K (.ref f)=some (.type "function")
 kp:PySem.W.keepIn K (.ref C)=true
theorem psd_raise (L:Lk X E)(c:Xm X.K C f)(F:FnOk X.prog X.w X.K X.mg X.base CX0 k f fd ps (xinit C fs))(hr:Room (k+1) X.A)(hg:Gl X x)(hm:X.mg x=some (.ref C))(hb:Binds X.K fd ps [])(ha:PAd X (e :: es) t)
  (hdb:(x == ("__debug__" : Str))=false:=by decide)(h1:isSt e=false:=by rfl)(h2:(es.all λ e=>!isSt e)=true:=by rfl):PSd X (.Raise (some (.Call (.Name x p) (e :: es) [] cpos)) none pos) (dRaise C fs E t):=by
 intro pins s σ H D I h
 obtain ⟨τ,M,Dd,A,h,_⟩:=h
 rw [arm_exec_Raise]
 refine wpAny_bind (wpAny_standAt (raiseX (K:=X.K) hr.hd (wpAny_bind ?_)))
 refine wpAny_Call_Name_kw (ld_glob I hg hm ?_ hdb)
 refine PySem.W.callWith_K (h₀:=X.base) I.ok.mod.kin c.kp (thn (ha cpos pins s σ H (λ vs H1=>∃ ws M1,Kp H H1/\RepWs X.K H1 ws vs/\MAbs X.K H1 M1/\ws.length=fs.length/\ws.length<=1000/\∀ a,M1 a=none->E a τ (updM M1 a (.exc C (fs.zip ws)))) I
  ⟨τ,M,_,A,h,λ vs H1 ws M1 kp r m q=>⟨ws,M1,kp,r,m,q⟩⟩) λ us s1 ⟨vs,H1,I1,r,ws,M1,kp,rw1,m1,hl,hz,q⟩=>⟨I1.kIn,?_⟩) (star_ok e es X.env h1) (plain_ok cpos X.env es h2)
 have hlv:vs.length=fs.length:=by rw [<- rw1.length]; exact hl
 have e0:H1 (s1.heap.objs.size+1)=none:=I1.hok.fresh (Nat.le_succ _)
 have J:Inv X pins σ (upd H1 (s1.heap.objs.size+1) (.ext (XV (s1.heap.objs.size+1) C none #[.ref s1.heap.objs.size,.none,.none,.none,.bool false,.none]))) { s1 with heap:=(s1.heap.push { cls:=.type "tuple",data:=.seq us.toArray }).push (xraw C s1.heap.objs.size) }:=by
  have I2:=I1.kept (t':=s1.toks) (h':=s1.heap.push { cls:=.type "tuple",data:=.seq us.toArray }) λ b u z=>Heap.get?_push_of_some _ z
  refine I2.laid (t':=s1.toks) (λ b u z=>Heap.get?_push_of_some _ z) (by show (s1.heap.push _).objs.size<=_; rw [Heap.size_push]; exact Nat.le_refl _) (xv_ok ?_)
  have:=Heap.get?_push_size (s1.heap.push { cls:=.type "tuple",data:=.seq us.toArray }) (o:=xraw C s1.heap.objs.size) rfl
  rwa [Heap.size_push] at this
 have r2:Vals (V.ref (s1.heap.objs.size+1) :: vs) (Value.ref (s1.heap.objs.size+1) :: us):=.cons rfl r
 refine xcall (h:=s1.heap) (g:=s1.gens) (d:=s1.drawn) (t:=s1.toks) (os:=s1.os) I1.kIn c.xc c.xm c.hi c.hf (by show us.length<=_; have:=r.length; have:=rw1.length; have:=s16; omega) ?_
 have hq:=F.len (V.ref (s1.heap.objs.size+1) :: vs) (upd H1 (s1.heap.objs.size+1) (.ext (XV (s1.heap.objs.size+1) C none #[.ref s1.heap.objs.size,.none,.none,.none,.bool false,.none])))
  (λ v H3=>v=.non/\∃ dx,(upd H1 (s1.heap.objs.size+1) (.ext (XV (s1.heap.objs.size+1) C none #[.ref s1.heap.objs.size,.none,.none,.none,.bool false,.none]))) dx=none/\dx≠s1.heap.objs.size+1 /\
   H3=upd (upd (upd H1 (s1.heap.objs.size+1) (.ext (XV (s1.heap.objs.size+1) C none #[.ref s1.heap.objs.size,.none,.none,.none,.bool false,.none]))) dx (.ext (DX dx (fs.zip vs)))) (s1.heap.objs.size+1) (.ext (XV (s1.heap.objs.size+1) C (some dx) #[.ref s1.heap.objs.size,.none,.none,.none,.bool false,.none]))) E0
  ⟨_,vs,_,rfl,hlv,upd_same,λ dx hd ne=>⟨rfl,dx,hd,ne,rfl⟩⟩
 have bnd:=hb { s1 with heap:=(s1.heap.push { cls:=.type "tuple",data:=.seq us.toArray }).push (xraw C s1.heap.objs.size) } (Value.ref (s1.heap.objs.size+1) :: us) J.kIn (by rw [List.append_nil,<- r2.length]; exact hq)
 rw [List.append_nil] at bnd
 refine wpAny_call (codeAny_mono (F.run _ X.stack { s1 with heap:=(s1.heap.push { cls:=.type "tuple",data:=.seq us.toArray }).push (xraw C s1.heap.objs.size) } _ ⟨Value.ref (s1.heap.objs.size+1) :: us,[]⟩ _ _ (λ v H3=>v=.non/\∃ dx,(upd H1 (s1.heap.objs.size+1) (.ext (XV (s1.heap.objs.size+1) C none #[.ref s1.heap.objs.size,.none,.none,.none,.bool false,.none]))) dx=none/\dx≠s1.heap.objs.size+1 /\
   H3=upd (upd (upd H1 (s1.heap.objs.size+1) (.ext (XV (s1.heap.objs.size+1) C none #[.ref s1.heap.objs.size,.none,.none,.none,.bool false,.none]))) dx (.ext (DX dx (fs.zip vs)))) (s1.heap.objs.size+1) (.ext (XV (s1.heap.objs.size+1) C (some dx) #[.ref s1.heap.objs.size,.none,.none,.none,.bool false,.none]))) E0
  (hr.make C us []) (J.env0.make C us []) bnd r2 ⟨_,vs,_,rfl,hlv,upd_same,λ dx hd ne=>⟨rfl,dx,hd,ne,rfl⟩⟩) λ rr s' hq'=>?_)
 cases rr with
 | error e=>exact False.elim hq'
 | ok fl =>
  cases fl with
  | next=>exact False.elim hq'
  | brk=>exact False.elim hq'
  | cont=>exact False.elim hq'
  | ret u =>
   obtain ⟨v,H3,I3,rv,ev,dx,hd,ne,eH⟩:=J.after hq'
   subst ev
   refine ⟨rv,wpAny_bind (wpAny_standAt (wpAny_pure ?_))⟩
   generalize ha0:s1.heap.objs.size+1=a at *
   generalize hu0:(#[.ref s1.heap.objs.size,.none,.none,.none,.bool false,.none]:Array Value)=u0 at *
   have e3a:H3 a=some (.ext (XV a C (some dx) u0)):=by rw [eH,upd_same]
   have e3d:H3 dx=some (.ext (DX dx (fs.zip vs))):=by rw [eH,upd_ne ne,upd_same]
   have oa:s'.heap.get? a=some (xobj C (some dx) u0):=(I3.hok a _ e3a).1
   obtain ⟨⟨mA,n1,r1,w1⟩,⟨od,hod⟩,_⟩:=I3.hok dx _ e3d
   have I4:=I3.write (x:=dx) (e:=dx) (o:=.frz od (.xd (fs.zip vs))) (h':=s'.heap) (t':=s'.toks) (by rw [e3d]; exact True.intro) (.inl rfl) (λ b q _ z=>z) ⟨od,hod⟩ ⟨hod,mA,n1,r1⟩
   have e4a:(upd H3 dx (.frz od (.xd (fs.zip vs)))) a=some (.ext (XV a C (some dx) u0)):=by rw [upd_ne (Ne.symm ne)]; exact e3a
   have I5:=I4.write (x:=a) (e:=a) (o:=.ext (XF a C (some dx))) (h':=s'.heap) (t':=s'.toks) (by rw [e4a]; exact True.intro) (.inl rfl) (λ b q _ z=>z) ⟨_,oa⟩ (xf_ok oa)
   have hdx:H1 dx=none:=by rw [upd_ne ne] at hd; exact hd
   have at5:∀ b,b≠a->b≠dx->(upd (upd H3 dx (.frz od (.xd (fs.zip vs)))) a (.ext (XF a C (some dx)))) b=H1 b:=λ b z1 z2=>by rw [upd_ne z1,upd_ne z2,eH,upd_ne z1,upd_ne z2,upd_ne z1]
   have st:∀ b u,H1 b=some u->(upd (upd H3 dx (.frz od (.xd (fs.zip vs)))) a (.ext (XF a C (some dx)))) b=some u:=λ b u z=>by
    rw [at5 b (λ y=>by rw [y,e0] at z; cases z) (λ y=>by rw [y,hdx] at z; cases z)]; exact z
   have k5:Kp H1 (upd (upd H3 dx (.frz od (.xd (fs.zip vs)))) a (.ext (XF a C (some dx)))):=⟨λ b xs z=>st b _ z,λ b o u z=>st b _ z⟩
   have m5:MAbs X.K (upd (upd H3 dx (.frz od (.xd (fs.zip vs)))) a (.ext (XF a C (some dx)))) (updM M1 a (.exc C (fs.zip ws))):=λ b mo z=>by
    by_cases hb:b=a
    ·subst hb
     rw [updM_same] at z
     cases z
     exact ⟨_,some dx,upd_same,λ h ⟨vs,y⟩=>⟨vs,y⟩,.inr ⟨dx,od,fs.zip vs,rfl,by rw [upd_ne ne,upd_same],zip_pair fs (rw1.keep k5)⟩⟩
    ·rw [updM_ne hb] at z
     exact (m1 b mo z).keep k5 λ u y=>st b u y
   refine ⟨a,C,some dx,u0,rfl,I5.kIn,c.xc.x,c.ty,oa,by rw [<- hu0]; rfl,?_⟩
   exact L pins σ _ s' a τ _ I5 ⟨C,some dx,u0,upd_same,oa,.inl (by rw [<- hu0]; rfl)⟩ (A.go (kp.trans k5) m5) (q a (m1.free e0))
end
end D
namespace L2
open PySem PySem.Spec PyProof.Rows XO
noncomputable def mixH (H₀ H:Hp):Hp:=λ b=>match H b with
 | some (.tup xs)=>some (.tup xs)
 | some (.frz o u)=>some (.frz o u)
 | _=>H₀ b
theorem mix_tup {H₀ H:Hp}{b:Addr}{xs:List V}(h:H b=some (.tup xs)):mixH H₀ H b=some (.tup xs):=by unfold mixH; rw [h]
theorem mix_frz {H₀ H:Hp}{b:Addr}{o:Obj}{u:HO}(h:H b=some (.frz o u)):mixH H₀ H b=some (.frz o u):=by unfold mixH; rw [h]
theorem mix_of {H₀ H:Hp}{b:Addr}{v:HO}(h:mixH H₀ H b=some v):H₀ b=some v\/H b=some v:=by
 unfold mixH at h
 split at h
 ·rename_i e; rw [e]; exact .inr h
 ·rename_i e; rw [e]; exact .inr h
 ·exact .inl h
theorem mix_none {H₀ H:Hp}{b:Addr}(h:mixH H₀ H b=none):H₀ b=none:=by
 unfold mixH at h
 split at h
 ·cases h
 ·cases h
 ·exact h
theorem none_mix {H₀ H:Hp}{b:Addr}(h:H₀ b=none)(h2:H b=none):mixH H₀ H b=none:=by
 unfold mixH; rw [h2]; exact h
noncomputable abbrev Cx.trying (X:Cx)(H0:Hp)(pn:List (Addr×Obj))(xe:Value->Shared->Prop):Cx:={ X with H₀:=H0,pn:=pn,xe:=xe }
noncomputable abbrev Cx.caught (X:Cx)(a:Addr):Cx:={ X with A:=X.A.mark (some (.ref a)),calm:=false,xe:=λ _ _=>False }
section
variable {X:Cx}{pins:List (Addr×Obj)}{σ:St}{H:Hp}{s:Shared}{xe:Value->Shared->Prop}
theorem Inv.fsFree (I:Inv X pins σ H s):∀ b∈X.fs,H b=none:=λ b hb=>by
 obtain ⟨_,o,ho,_⟩:=I.ok.funs.mem hb
 exact I.base.free b o ho (I.ok.frf b hb) λ z=>I.ok.exfs b z hb
theorem Inv.intry (I:Inv X pins σ H s):Inv (X.trying (mixH X.H₀ H) (X.pn++pins) xe) [] σ H s:=by
 refine ⟨⟨I.ok.mod,I.ok.kind,I.ok.glob,I.ok.blt,I.ok.above,I.ok.inj,I.ok.has,I.ok.cab,I.ok.hd,I.ok.frames,I.ok.stk,I.ok.exf,λ b o e=>⟨(I.ok.bs b o e).1,none_mix (I.ok.bs b o e).2 (I.bs b o e).2⟩,I.ok.bsz,I.ok.noex,I.ok.exfs,I.ok.funs,λ b hb=>none_mix (I.ok.frf b hb) (I.fsFree b hb)⟩,
  I.os,I.bare,⟨λ b o e n hb hx=>I.base.keep b o e (mix_none n) hb hx,λ b o e n hb hx=>I.base.slot b o e (mix_none n) hb hx,λ b o e n hx=>I.base.free b o e (mix_none n) hx,I.base.there,λ b xs e=>?_,λ b o u e=>?_,λ b ps e=>?_⟩,
  I.loc,I.cell,I.free,I.freeC,λ p hp=>I.pin p (by simpa using hp),I.hok,I.len⟩
 ·rcases mix_of e with z | z
  ·exact I.base.tups b xs z
  ·exact z
 ·rcases mix_of e with z | z
  ·exact I.base.frzs b o u z
  ·exact z
 ·rcases mix_of e with z | z
  ·exact I.base.tbls b ps z
  ·exact ⟨#[],by rw [z]; simp⟩
theorem Inv.outof {pins':List (Addr×Obj)}{σ':St}{H':Hp}{s':Shared}(I:Inv X pins σ H s)(J:Inv (X.trying (mixH X.H₀ H) (X.pn++pins) xe) pins' σ' H' s'):Inv X pins σ' H' s':=by
 have nn:∀ b o,X.s₀.heap.get? b=some o->X.H₀ b=none->b ∉ X.ex->mixH X.H₀ H b=none:=λ b o e n hx=>none_mix n (I.base.free b o e n hx)
 exact ⟨I.ok,J.os,J.bare,⟨λ b o e n hb hx=>J.base.keep b o e (nn b o e n hx) hb hx,λ b o e n hb hx=>J.base.slot b o e (nn b o e n hx) hb hx,λ b o e n hx=>J.base.free b o e (nn b o e n hx) hx,J.base.there,λ b xs e=>J.base.tups b xs (mix_tup (I.base.tups b xs e)),λ b o u e=>J.base.frzs b o u (mix_frz (I.base.frzs b o u e)),λ b ps e=>by
  obtain ⟨m1,e1⟩:=I.base.tbls b ps e
  refine J.base.tbls b ps ?_
  show mixH X.H₀ H b=_
  unfold mixH
  rw [e1]; exact e⟩,J.loc,J.cell,J.free,J.freeC,λ p hp=>J.pin p (List.mem_append_left _ hp),J.hok,J.len⟩
theorem Inv.caught (I:Inv X pins σ H s)(a:Addr):Inv (X.caught a) pins σ H s :=
 ⟨⟨I.ok.mod,I.ok.kind,I.ok.glob,I.ok.blt,I.ok.above,I.ok.inj,I.ok.has,I.ok.cab,(λ z=>nomatch z),I.ok.frames,I.ok.stk,I.ok.exf,I.ok.bs,I.ok.bsz,I.ok.noex,I.ok.exfs,I.ok.funs,I.ok.frf⟩,I.os,I.bare,I.base,I.loc,I.cell,I.free,I.freeC,I.pin,I.hok,I.len⟩
theorem Inv.uncaught {a:Addr}(ok:X.Ok)(I:Inv (X.caught a) pins σ H s):Inv X pins σ H s:=⟨ok,I.os,I.bare,I.base,I.loc,I.cell,I.free,I.freeC,I.pin,I.hok,I.len⟩
theorem Inv.gone {m':Str->Option Value}{h':Heap}{t':Nat}(I:Inv X pins σ H s)(hn:h'.Ns X.env.locals m')(sb:Heap.SameBut X.env.locals s.heap h'):Inv X pins (List.replicate σ.length none) H { s with heap:=h',toks:=t' }:=by
 have ne:∀ b o,X.s₀.heap.get? b=some o->b≠X.env.locals:=λ b o e=>Nat.ne_of_lt (Nat.lt_of_lt_of_le (Heap.lt_size e) I.ok.above)
 refine ⟨I.ok,I.os,I.bare,⟨λ b o e n hb hx=>(sb.2 b (ne b o e)).trans (I.base.keep b o e n hb hx),λ b o e n hb hx=>?_,I.base.free,λ b o e hx=>?_,I.base.tups,I.base.frzs,I.base.tbls⟩,⟨m',hn,λ i x v e1 e2 e3=>?_⟩,λ x c e=>?_,I.free,I.freeC,λ p hp=>?_,λ b o e=>?_,by rw [List.length_replicate]; exact I.len⟩
 ·obtain ⟨sl,z⟩:=I.base.slot b o e n hb hx
  exact ⟨sl,(sb.2 b (ne b o e)).trans z⟩
 ·obtain ⟨o',z⟩:=I.base.there b o e hx
  exact ⟨o',(sb.2 b (ne b o e)).trans z⟩
 ·rw [List.getElem?_replicate] at e2
  split at e2 <;> cases e2
 ·obtain ⟨v,z⟩:=I.cell x c e
  exact ⟨v,z.sameBut sb (I.cne x c e)⟩
 ·obtain ⟨z,n,nl,nf,d⟩:=I.pin p hp
  exact ⟨(sb.2 p.1 nl).trans z,n,nl,nf,d⟩
 ·refine (I.hok b o e).stay (λ c u hc q=>(sb.2 c λ z=>?_).trans q) (λ _ q=>q) λ _ _ q=>q
  rcases hc with y | y
  ·rw [z] at y; rw [<- y,I.free] at e; cases e
  ·rw [z,I.free] at y; cases y
theorem Air.flight {M:Model}{A:Around}{E:Value->Shared->Prop}{Q:Unit->Shared->Prop}{a:Addr}(air:Air H s.heap a)(q:Q () s):wpAny M A (setFlight (.ref a) none) Q E s:=by
 obtain ⟨C,dct,vs,e1,e2,tb⟩:=air
 unfold setFlight
 rcases tb with z | ⟨T,oT,ts,z1,z2,z3,z4,z5⟩
 ·refine wpAny_bind (wpAny_field e2 rfl z ?_)
  rw [if_neg (by decide)]
  exact wpAny_pure q
 ·refine wpAny_bind (wpAny_field e2 rfl z1 ?_)
  rw [if_pos (show (Value.ref T != Value.none)=true from by simp)]
  refine wpAny_setField z3 z4 (Array.getElem?_eq_some_iff.mp z5).1 ?_
  rw [show ((none:Option Addr).elim Value.none λ f=>rawInt f)=Value.none from rfl,Heap.update_setField_same s.heap T oT ts 3 .none z3 z4 z5]
  exact q
end
end L2
namespace D
open PySem PySem.Spec PyProof.Rows L2 XO
theorem Abs.forget {K:PySem.W.Frag}{H:Hp}{σ:St}{τ:DS}{M:MH}(h:Abs K H σ τ M):Abs K H (List.replicate σ.length none) (List.replicate τ.length none) M:=by
 refine ⟨by simp [h.len],λ i w e=>?_,h.mem⟩
 rw [List.getElem?_replicate] at e
 split at e <;> cases e
section
variable {X:Cx}{pos np hpos:Pos}{body suite:List Stmt}{b0:Stmt}{hs:List ExceptHandler}{h0:ExceptHandler}{tb:XE->TSd}{th rest:Addr->TSd}{ts:TSd}
noncomputable def PHd (X:Cx)(hs:List ExceptHandler)(th:Addr->TSd):Prop:=∀ (pins:List (Addr×Obj)) (σ:St) (H:Hp) (s:Shared) (a:Addr) (D:Ends),Inv X pins σ H s->Air H s.heap a->upS X.K (th a) D σ H->wpAny (model X.prog X.w) X.A (handleBy (.ref a) X.env hs) (SP X pins D) X.xe s
noncomputable def dTry (tb:XE->TSd)(th:Addr->TSd)(D:Ed)(τ:DS)(M:MH):Prop:=tb (λ a τ' M'=>th a D τ' M') D τ M
theorem psd_try (hst:X.stack=X.env :: X.outer)(hf:X.env.frame=some X.env.locals)
  (hb:∀ (H0:Hp) (pn:List (Addr×Obj)) (xe:Value->Shared->Prop) (E:XE),Lk (X.trying H0 pn xe) E->PassesOwn (model X.prog X.w) X.A X.env xe->PSsd (X.trying H0 pn xe) body (tb E))(hh:PHd X (h0 :: hs) th):PSd X (.Try body (h0 :: hs) [] [] pos) (dTry tb th):=by
 intro pins s σ H D I h
 obtain ⟨τ,M,Dd,A,h,k1,k2,k3,k4⟩:=h
 refine wpAny_Try_except ?_
 refine wpAny_mono (hb (mixH X.H₀ H) (X.pn++pins) (λ e s1=>wpAny (model X.prog X.w) X.A (noteFrame e X.env) (λ _ s2=>wpAny (model X.prog X.w) X.A (setFlight e none) (λ _ s3=>wpAny (model X.prog X.w) X.A (handleBy e X.env (h0 :: hs)) (SP X pins D) X.xe s3) X.xe s2) X.xe s1)
  (λ a τ' M'=>th a Dd τ' M') (λ pins' σ' H' s' a τ' M' J air ab e=>?_) PassesOwn.looking [] s σ H D I.intry ⟨τ,M,Dd,A,h,k1,k2,k3,k4⟩) (λ f s1 q=>?_) λ _ _ z=>z
 ·have J2:=I.outof J
  have kp:Kp H H':=⟨λ b xs z=>J.base.tups b xs (mix_tup z),λ b o u z=>J.base.frzs b o u (mix_frz z)⟩
  refine J2.lookX J2.ok.frames hst hf air λ s3 J3 air3=>hh pins σ' H' s3 a D J3 air3 ⟨τ',M',Dd,ab,e,λ σ2 H2 τ2 M2 k=>k1 σ2 H2 τ2 M2 (kp.trans k),λ v H2 w M2 k=>k2 v H2 w M2 (kp.trans k),λ σ2 H2 τ2 M2 k=>k3 σ2 H2 τ2 M2 (kp.trans k),λ σ2 H2 τ2 M2 k=>k4 σ2 H2 τ2 M2 (kp.trans k)⟩
 ·cases f with
  | next=>obtain ⟨σ',H',J,q⟩:=q; exact wpAny_execs_nil ⟨σ',H',I.outof J,q⟩
  | brk=>obtain ⟨σ',H',J,q⟩:=q; exact ⟨σ',H',I.outof J,q⟩
  | cont=>obtain ⟨σ',H',J,q⟩:=q; exact ⟨σ',H',I.outof J,q⟩
  | ret u=>obtain ⟨v,σ',H',J,r,q⟩:=q; exact ⟨v,σ',H',I.outof J,r,q⟩
theorem ph_none:PHd X hs (λ _ _ _ _=>False):=λ pins σ H s a D I air ⟨τ,M,Dd,_,h,_⟩=>h.elim
noncomputable def dHand (tab:Addr->Option Bool)(i:Nat)(ts:TSd)(rest:Addr->TSd)(a:Addr)(D:Ed)(τ:DS)(M:MH):Prop:=∃ C fs b,M a=some (.exc C fs)/\tab C=some b /\
 if b=true then ts { nx:=λ τ2 M2=>D.nx (List.replicate τ2.length none) M2,rt:=D.rt,bk:=λ τ2 M2=>D.bk (List.replicate τ2.length none) M2,ct:=λ τ2 M2=>D.ct (List.replicate τ2.length none) M2 } (τ.set i (some (.m a))) M else rest a D τ M
theorem Air.cls {K:PySem.W.Frag}{H:Hp}{h:Heap}{a C:Addr}{M:MH}{fs:List (Str×W)}(air:Air H h a)(m:MAbs K H M)(e:M a=some (.exc C fs)):∃ dct vs,h.get? a=some (xobj C dct vs):=by
 obtain ⟨C',dct,vs,e1,e2,_⟩:=air
 obtain ⟨φ,dct',g1,g2,_⟩:=m a _ e
 rw [e1] at g1
 cases g1
 obtain ⟨vs',e3⟩:=g2 h ⟨vs,e2⟩
 exact ⟨_,vs',e3⟩
theorem test_ok {pins:List (Addr×Obj)}{σ:St}{H:Hp}{s:Shared}{a C D:Addr}{x:Str}{b:Bool}{R:Result->Shared->Prop}(I:Inv X pins σ H s)(hg:Gl X x)(hm:X.mg x=some (.ref D)){dct:Option Addr}{vs:Array Value}(he:s.heap.get? a=some (xobj C dct vs))
  (ht:PySem.W.exmOne X.K (.ref C) (.ref D)=some b)(hdb:(x == ("__debug__" : Str))=false)(q:R (.ok (if b then .brk else .next)) s) :
  codeAny (model X.prog X.w) (X.A.mark (some (.ref a))) (.handlers (.ref a) [.ExceptHandler (some (.Name x np)) none [] hpos] X.env) R s:=by
 refine codeAny_handlers_test (ld_glob (X:=X.caught a) (I.caught a) hg hm ?_ hdb)
 exact (PySem.W.exm_one (M:=model X.prog X.w) I.kIn ((PySem.W.Looks.ld he).andThen .now) ht).here q
theorem ph_as {x n:Str}{i:Nat}{Dc:Addr}{tab:Addr->Option Bool}(hg:Gl X x)(hm:X.mg x=some (.ref Dc))(ht:∀ C b,tab C=some b->PySem.W.exmOne X.K (.ref C) (.ref Dc)=some b)(hN:X.N.Nodup)(hi:X.N[i]? = some n)(hl:X.env.scope.names.lookup n=some .local)(hk:X.env.scope.kind=.function)
  (hsu:∀ a,PSsd (X.caught a) (b0 :: suite) ts)(hr:PHd X hs rest)(hdb:(x == ("__debug__" : Str))=false:=by decide):PHd X (.ExceptHandler (some (.Name x np)) (some n) (b0 :: suite) hpos :: hs) (dHand tab i ts rest):=by
 intro pins σ H s a Dn I air h
 obtain ⟨τ,M,Dd,A,⟨C,fs,b,hma,htb,h⟩,k1,k2,k3,k4⟩:=h
 obtain ⟨dct,vs,he⟩:=Air.cls air A.mem hma
 refine wpAny_handleBy_cons (test_ok I hg hm he (ht C b htb) hdb ?_) (by intro q; cases q)
 cases b with
 | false=>exact hr pins σ H s a Dn I air ⟨τ,M,Dd,A,h,k1,k2,k3,k4⟩
 | true =>
  rw [if_pos rfl] at h
  refine codeAny_handlers_suite_as (air.flight ?_)
  refine store_ok (X:=X.caught a) (i:=i) (v:=.ref a) (I.caught a) hN hi (.inl hl) rfl (λ s2 J=>?_) (.inr hl)
  have gone:∀ {σ3:St} {H3:Hp} {s3:Shared} {Q:Unit->Shared->Prop},Inv (X.caught a) pins σ3 H3 s3->(∀ s4,Inv X pins (List.replicate σ3.length none) H3 s4->Q () s4)->wpAny (model X.prog X.w) X.A (do bindName X.env n .none; unbindBehindTheSuite X.env n hpos) Q X.xe s3:=λ {σ3 H3 s3 Q} J3 q=>by
   obtain ⟨m,hn,_⟩:=J3.loc
   refine wpAny_nameGoes hl hn (by rw [hk]; rfl) λ h' m' hn' sb=>q _ ((J3.uncaught I.ok).gone hn' sb)
  have ab2:=A.set i (v:=.ref a) (w:=.m a) rfl
  refine wpAny_mono (hsu a pins s2 _ H { nx:=λ σ2 H2=>Dn.nx (List.replicate σ2.length none) H2,rt:=Dn.rt,bk:=λ σ2 H2=>Dn.bk (List.replicate σ2.length none) H2,ct:=λ σ2 H2=>Dn.ct (List.replicate σ2.length none) H2 } J ⟨_,M,_,ab2,h,λ σ2 H2 τ2 M2 kp A2 q=>?_,λ v H2 w M2 kp r m q=>k2 v H2 w M2 kp r m q,λ σ2 H2 τ2 M2 kp A2 q=>?_,λ σ2 H2 τ2 M2 kp A2 q=>?_⟩) (λ f s3 q=>?_) λ _ _ z=>z.elim
  ·exact k1 _ H2 _ M2 kp A2.forget q
  ·exact k3 _ H2 _ M2 kp A2.forget q
  ·exact k4 _ H2 _ M2 kp A2.forget q
  ·cases f with
   | next=>obtain ⟨σ3,H3,J3,q⟩:=q; exact gone J3 λ s4 J4=>⟨_,H3,J4,q⟩
   | brk=>obtain ⟨σ3,H3,J3,q⟩:=q; exact gone J3 λ s4 J4=>⟨_,H3,J4,q⟩
   | cont=>obtain ⟨σ3,H3,J3,q⟩:=q; exact gone J3 λ s4 J4=>⟨_,H3,J4,q⟩
   | ret u=>obtain ⟨v,σ3,H3,J3,r,q⟩:=q; exact gone J3 λ s4 J4=>⟨v,_,H3,J4,r,q⟩
end
end D
namespace D
open PySem PySem.Spec PyProof.Rows L2 XO
section
variable {X:Cx}{pos p:Pos}{o ce:Expr}{td:TD}{f:Str}
theorem exc_at {pins:List (Addr×Obj)}{σ:St}{H:Hp}{s:Shared}{M:MH}{a C:Addr}{fs:List (Str×W)}(I:Inv X pins σ H s)(m:MAbs X.K H M)(e:M a=some (.exc C fs)) :
  (∃ ox od,PySem.W.InstAt s.heap a ox C od)/\(∀ w,fs.lookup f=some w->∃ v u ox od,RepW X.K H w v/\RelV v u/\PySem.W.InstAt s.heap a ox C (some od)/\PySem.W.lookIn f od=some (some u)):=by
 obtain ⟨φ,dct,e1,e2,e3⟩:=m a _ e
 obtain ⟨vs,hx⟩:=e2 s.heap (I.hok a _ e1).1
 rcases e3 with ⟨rfl,rfl⟩ | ⟨dx,o,l,rfl,e4,pr⟩
 ·exact ⟨⟨_,none,hx,rfl,rfl,True.intro⟩,λ w z=>nomatch z⟩
 ·obtain ⟨ho,mA,n1,r1⟩:=I.hok dx _ e4
  refine ⟨⟨_,some o,hx,rfl,rfl,ho⟩,λ w z=>?_⟩
  have g:=fr_lookup f pr
  rw [z] at g
  obtain ⟨v,eb,rb⟩:=OR.some_of g
  obtain ⟨u,hu,ru⟩:=RelO.some_of (v:=v) (o:=mA f) (by rw [<- eb]; exact r1 f)
  obtain ⟨od,g1,g2⟩:=lookIn_ns n1
  exact ⟨v,u,_,od,rb,ru,⟨hx,rfl,rfl,g1⟩,by rw [g2,hu]⟩
noncomputable def dXFld (cs:List Addr)(td:TD)(f:Str)(τ:DS)(M:MH)(Q:QD):Prop:=td τ M λ w M1=>∃ a C fs v,w=.m a/\M1 a=some (.exc C fs)/\C∈cs/\fs.lookup f=some v/\Q v M1
theorem pd_xfld {cs:List Addr}(hc:∀ C∈cs,XC X.K C/\NoAttr X.K C f)(he:PD X o td)(hb:attributeBase o f X.env (eval o X.env)=eval o X.env:=by rfl):PD X (.Attribute o f pos) (dXFld cs td f):=by
 intro pins s σ H Q I h
 obtain ⟨τ,M,Qd,A,h,k⟩:=h
 refine attr_of hb (thn (he pins s σ H (λ x H1=>∃ w M1,Kp H H1/\RepW X.K H1 w x/\MAbs X.K H1 M1/\∃ a C fs v,w=.m a/\M1 a=some (.exc C fs)/\C∈cs/\fs.lookup f=some v/\Qd v M1) I ⟨τ,M,_,A,h,λ v H1 w M1 kp r m q=>⟨w,M1,kp,r,m,q⟩⟩)
  λ u s1 ⟨x,H1,I1,rx,w,M1,kp,r1,m1,a,C,fs,v,ew,hma,hC,hl,q⟩=>?_)
 subst ew
 cases (show x=.ref a from r1)
 obtain rfl:u=Value.ref a:=rx
 obtain ⟨v',u',ox,od,rv,ru,J,lo⟩:=(exc_at (f:=f) I1 m1 hma).2 v hl
 obtain ⟨xc,na⟩:=hc C hC
 obtain ⟨cd,hcd,hd,_⟩:=xcls_of xc.x
 refine xget I1.kIn xc J (PySem.W.findObj_own (by unfold PySem.W.hasDictIn; rw [hcd]; exact hd) na rfl lo) (handed_of ru) ?_
 exact ⟨v',H1,I1.tok _,ru,k v' H1 v M1 kp rv m1 q⟩
noncomputable def vval:V->Value
 | .ref a=>.ref a
 | .ty n=>.type n
 | _=>.none
noncomputable def isCls:V->Bool
 | .ref _=>true
 | .ty _=>true
 | _=>false
theorem vval_of:∀ {v:V} {u:Value},isCls v=true->RelV v u->u=vval v
 | .ref _,_,_,r=>r
 | .ty _,_,_,r=>r
 | .non,_,h,_=>nomatch h
 | .bl _,_,h,_=>nomatch h
 | .int _,_,h,_=>nomatch h
 | .str _,_,h,_=>nomatch h
 | .byt _,_,h,_=>nomatch h
 | .flt _,_,h,_=>nomatch h
theorem vvals_of:∀ {cs:List V} {us:List Value},(∀ c∈cs,isCls c=true)->Vals cs us->us=cs.map vval
 | _,_,_,.nil=>rfl
 | _,_,h,.cons r t=>by rw [vval_of (h _ (by simp)) r,vvals_of (λ c hc=>h c (by simp [hc])) t]; rfl
noncomputable def IsC (H:Hp)(v:V)(cs:List V):Prop:=cs=[v]\/∃ t,v=.ref t/\H t=some (.tup cs)
noncomputable def rIsX (K:PySem.W.Frag)(xs:List V)(H:Hp)(Q:VK):Prop:=∃ a C c cs b M fs,xs=[.ref a,c]/\MAbs K H M/\M a=some (.exc C fs)/\IsC H c cs/\(∀ c∈cs,isCls c=true)/\XC K C/\PySem.W.kitAny K (.ref C) (cs.map vval)=some b/\Q (.bl b) H
theorem call_isX:CallR X (.builtin "isinstance") (rIsX X.K):=by
 intro pins s σ H xs us Q I r h
 obtain ⟨a,C,c,cs,b,M,fs,rfl,m,e,hc,hcs,xc,kb,q⟩:=h
 obtain ⟨u,w,rfl,r1,r2⟩:=vals2 r
 cases (show u=Value.ref a from r1)
 obtain ⟨⟨ox,od,J⟩,_⟩:=exc_at (f := "") I m e
 have fin:∀ tk,EP X pins σ Q (.bool b) { s with toks:=tk }:=λ tk=>⟨.bl _,H,I.tok _,rfl,q⟩
 rcases hc with rfl | ⟨t,rfl,ht⟩
 ·have e1:=vval_of (hcs c (by simp)) r2
  subst e1
  have e2:PySem.W.kitOne X.K (.ref C) (vval c)=some b:=by
   simp only [List.map_cons,List.map_nil,PySem.W.kitAny] at kb
   split at kb
   ·rename_i z; rw [z,kb]
   ·rename_i z; rw [z,kb]
   ·cases kb
  exact PySem.W.kia_one (kitx_x xc) I.kIn J e2 (λ z=>nomatch z) fin
 ·cases (show w=Value.ref t from r2)
  obtain ⟨_,its,rv,⟨o,g1,g2,_,n,g3⟩⟩:=I.hok t _ ht
  have e1:=vvals_of hcs rv
  subst e1
  obtain ⟨c1,c2,c3,c4⟩:=o
  cases g2
  cases g3
  exact PySem.W.kia_tup (kitx_x xc) I.kIn J g1 kb (λ z=>nomatch z) fin
noncomputable def dIsX (tab:Addr->Option Bool)(td:TD)(τ:DS)(M:MH)(Q:QD):Prop:=td τ M λ w M1=>∃ a C fs b,w=.m a/\M1 a=some (.exc C fs)/\tab C=some b/\Q (.d (.bool b)) M1
noncomputable def CTm (cs:List V)(tc:TE):Prop:=∀ σ H (Q:VK),(∀ v H',(∀ b u,H b=some u->H' b=some u)->IsC H' v cs->Q v H')->tc σ H Q
theorem ctm_one (v:V):CTm [v] (tC v):=λ σ H Q h=>h v H (λ _ _ z=>z) (.inl rfl)
theorem pd_isX {cs:List V}{tc:TE}{tab:Addr->Option Bool}(ht:∀ C b,tab C=some b->XC X.K C/\PySem.W.kitAny X.K (.ref C) (cs.map vval)=some b)(hcs:(cs.all isCls)=true)(hg:Gl X "isinstance")(hm:X.mg "isinstance" = none)(ho:PD X o td)(hc:PE X ce tc)(ct:CTm cs tc)
  (h1:isSt o=false:=by rfl)(h2:isSt ce=false:=by rfl):PD X (.Call (.Name "isinstance" p) [o,ce] [] pos) (dIsX tab td):=by
 refine pe_w (pe_callB call_isX hg hm bb_isinstance (pa_cons ho (pa_cons hc pa_nil (star_ok ce [] X.env h2)) (star_ok o [ce] X.env h1)) (by decide) (by decide) (star_ok o [ce] X.env h1) (plain_ok pos X.env [ce] (by simp [h2]))) λ σ H Q h=>?_
 obtain ⟨τ,M,Qd,A,h,k⟩:=h
 refine ⟨τ,M,_,A,h,λ v H1 w M1 kp r m hq42=>?_⟩
 obtain ⟨a,C,fs,b,ew,hma,htb,q⟩:=hq42
 subst ew
 cases (show v=.ref a from r)
 refine ct σ H1 _ λ c H2 st ic=>?_
 obtain ⟨xc,kb⟩:=ht C b htb
 have kp2:Kp H1 H2:=⟨λ b xs z=>st b _ z,λ b o u z=>st b _ z⟩
 have m2:MAbs X.K H2 M1:=λ b mo z=>(m b mo z).keep kp2 λ u y=>st b u y
 exact ⟨a,C,c,cs,b,M1,fs,rfl,m2,hma,ic,λ c hc=>List.all_eq_true.mp hcs c hc,xc,kb,k (.bl b) H2 (.d (.bool b)) M1 (kp.trans kp2) rfl m2 q⟩
end
theorem bt_ValueError:bootBuiltins "ValueError" = some (.type "ValueError"):=by decide +kernel
end D
namespace D
open PySem PySem.Spec PyProof.Rows L2 XO
structure Xi (K:PySem.W.Frag)(C:Addr)(qual:Str)(st:Stmt)(ps:List Str)(f:Addr)(fd:FuncData):Prop where
 fn:Fun K "__init__" qual st f fd
 xm:Xm K C f
 bd:L2.Binds K fd ps []
theorem xi_mk {K:PySem.W.Frag}{C:Addr}{qual:Str}{st:Stmt}{ps:List Str}{f:Addr}{oc:Value}{od an:Option Addr}{osl:Array (Option Value)}{kV doc pm cdv ct:Value}(xc:XC K C)(a:PySem.W.findIn K (.ref C) "__init__" = some (some (.ref f)))(i:PySem.W.typeIn K (.ref f)=some (.type "function"))
  (l:K.lookup f=some ⟨oc,od,.func (PySem.W.fnOf "__init__" qual (defArgs st) (defBody st) (defScope st) .none kV doc pm an cdv ct),osl⟩)(c:PySem.W.codeIn K cdv qual=true)(k:PySem.W.keepIn K (.ref f)=true)(m:xmk K C=true)(ty:PySem.W.typeIn K (.ref C)=some (.type "type"))(kc:PySem.W.keepIn K (.ref C)=true)
  (b:∀ (kV doc pm:Value) (an:Option Addr) (cdv ct:Value) (us:List Value),us.length=ps.length->bindArgs (PySem.W.fnOf "__init__" qual (defArgs st) (defBody st) (defScope st) .none kV doc pm an cdv ct) ⟨us,[]⟩=pure (ps.zip us)) :
  Xi K C qual st ps f (PySem.W.fnOf "__init__" qual (defArgs st) (defBody st) (defScope st) .none kV doc pm an cdv ct) :=
 have F:=fun_mk (st:=st) l c k
 ⟨F,⟨xc,m,ty,a,i,kc⟩,F.binds b⟩
noncomputable def tabL (l:List (Addr×Bool))(C:Addr):Option Bool:=l.lookup C
inductive AllT (P:Addr->Bool->Prop):List (Addr×Bool)->Prop
 | nil:AllT P []
 | cons {a:Addr} {b:Bool} {l:List (Addr×Bool)}:P a b->AllT P l->AllT P ((a,b) :: l)
theorem AllT.of {P:Addr->Bool->Prop}{l:List (Addr×Bool)}(h:AllT P l):∀ C b,tabL l C=some b->P C b:=by
 induction h with
 | nil=>intro C b z; cases z
 | @cons a b l p _ ih =>
  intro C b' z
  unfold tabL at z ih
  rw [List.lookup_cons] at z
  split at z
  ·rename_i e
   cases z
   rw [beq_iff_eq.mp e]; exact p
  ·exact ih C b' z
inductive AllC (P:Addr->Prop):List Addr->Prop
 | nil:AllC P []
 | cons {a:Addr} {l:List Addr}:P a->AllC P l->AllC P (a :: l)
theorem AllC.of {P:Addr->Prop}{l:List Addr}(h:AllC P l):∀ C∈l,P C:=by
 induction h with
 | nil=>intro C z; cases z
 | cons p _ ih =>
  intro C z
  rcases List.mem_cons.mp z with e | e
  ·rw [e]; exact p
  ·exact ih C e
namespace Q
section
variable {X:Cx}{pos p p' apos cpos np hpos:Pos}{k:Nat}{f C:Addr}{fd:FuncData}{ps fs:List Str}{sp:SpX}{x m n:Str}{e o:Expr}{es:List Expr}{t:TAd}{td:TD}{E:XE}
theorem pcX (L:Lk X E)(F:FnOk X.prog X.w X.K X.mg X.base (CXE X.prog X.w) k f fd ps (upSpX X.K sp))(hr:Room k X.A)(hg:Gl X x)(hm:X.mg x=some (.ref f))(hk:PySem.W.keepIn X.K (.ref f)=true)(hb:L2.Binds X.K fd ps [])
  (ha:Jd (PAd X (e :: es) t))(hdb:(x == ("__debug__" : Str))=false:=by decide)(h1:isSt e=false:=by rfl)(h2:(es.all λ e=>!isSt e)=true:=by rfl) :
  Jd (PD X (.Call (.Name x p) (e :: es) [] pos) (dCallX sp E t)):=⟨D.pd_callX L F hr hg hm hk hb ha.h hdb h1 h2⟩
theorem psd_raise (L:Lk X E)(c:Xm X.K C f)(F:FnOk X.prog X.w X.K X.mg X.base CX0 k f fd ps (xinit C fs))(hr:Room (k+1) X.A)(hg:Gl X x)(hm:X.mg x=some (.ref C))(hb:L2.Binds X.K fd ps [])(ha:Jd (PAd X (e :: es) t))
  (hdb:(x == ("__debug__" : Str))=false:=by decide)(h1:isSt e=false:=by rfl)(h2:(es.all λ e=>!isSt e)=true:=by rfl):Jd (PSd X (.Raise (some (.Call (.Name x p) (e :: es) [] cpos)) none pos) (dRaise C fs E t)):=⟨D.psd_raise L c F hr hg hm hb ha.h hdb h1 h2⟩
variable {body suite:List Stmt}{b0:Stmt}{hs:List ExceptHandler}{h0:ExceptHandler}{tb:XE->TSd}{th rest:Addr->TSd}{ts:TSd}
theorem psd_try (hst:X.stack=X.env :: X.outer)(hf:X.env.frame=some X.env.locals)
  (hb:∀ (H0:Hp) (pn:List (Addr×Obj)) (xe:Value->Shared->Prop) (E:XE),Lk (X.trying H0 pn xe) E->PassesOwn (model X.prog X.w) X.A X.env xe->Jd (PSsd (X.trying H0 pn xe) body (tb E)))(hh:Jd (PHd X (h0 :: hs) th)):Jd (PSd X (.Try body (h0 :: hs) [] [] pos) (dTry tb th)) :=
 ⟨D.psd_try hst hf (λ H0 pn xe E l p=>(hb H0 pn xe E l p).h) hh.h⟩
theorem ph_none:Jd (PHd X hs (λ _ _ _ _=>False)):=⟨D.ph_none⟩
theorem ph_as {i:Nat}{Dc:Addr}{l:List (Addr×Bool)}(hg:Gl X x)(hm:X.mg x=some (.ref Dc))(ht:AllT (λ C b=>PySem.W.exmOne X.K (.ref C) (.ref Dc)=some b) l)(hN:X.N.Nodup)(hi:X.N[i]? = some n)(hl:X.env.scope.names.lookup n=some .local)(hk:X.env.scope.kind=.function)
  (hsu:∀ a,Jd (PSsd (X.caught a) (b0 :: suite) ts))(hr:Jd (PHd X hs rest))(hdb:(x == ("__debug__" : Str))=false:=by decide):Jd (PHd X (.ExceptHandler (some (.Name x np)) (some n) (b0 :: suite) hpos :: hs) (dHand (tabL l) i ts rest)) :=
 ⟨D.ph_as hg hm ht.of hN hi hl hk (λ a=>(hsu a).h) hr.h hdb⟩
theorem pd_xfld {f:Str}{cs:List Addr}(hc:AllC (λ C=>XC X.K C/\NoAttr X.K C f) cs)(he:Jd (PD X o td))(hb:attributeBase o f X.env (eval o X.env)=eval o X.env:=by rfl):Jd (PD X (.Attribute o f pos) (dXFld cs td f)):=⟨D.pd_xfld hc.of he.h hb⟩
theorem pd_isX1 {Dc:Addr}{l:List (Addr×Bool)}(hm:X.mg "isinstance" = none)(ht:AllT (λ C b=>XC X.K C/\PySem.W.kitAny X.K (.ref C) [.ref Dc]=some b) l)(hg:Gl X x)(hx:X.mg x=some (.ref Dc))(ho:Jd (PD X o td))(hgi:Gl X "isinstance" := by rfl)
  (hdb:(x == ("__debug__" : Str))=false:=by decide)(h1:isSt o=false:=by rfl):Jd (PD X (.Call (.Name "isinstance" p) [o,.Name x p'] [] pos) (dIsX (tabL l) td)) :=
 ⟨D.pd_isX (cs:=[.ref Dc]) ht.of rfl hgi hm ho.h (pe_glob (v:=.ref Dc) hg hx rfl hdb) (ctm_one _) h1 rfl⟩
theorem pd_isXB {T:String}{l:List (Addr×Bool)}(hm:X.mg "isinstance" = none)(ht:AllT (λ C b=>XC X.K C/\PySem.W.kitAny X.K (.ref C) [.type T]=some b) l)(hg:Gl X x)(hx:X.mg x=none)(hv:bootBuiltins x=some (.type T))(ho:Jd (PD X o td))(hgi:Gl X "isinstance" := by rfl)
  (hn:x ≠ "__name__" := by decide)(hdb:(x == ("__debug__" : Str))=false:=by decide)(h1:isSt o=false:=by rfl):Jd (PD X (.Call (.Name "isinstance" p) [o,.Name x p'] [] pos) (dIsX (tabL l) td)) :=
 ⟨D.pd_isX (cs:=[.ty T]) ht.of rfl hgi hm ho.h (pe_bltn (v:=.ty T) hg hx hv rfl hn hdb) (ctm_one _) h1 rfl⟩
end
end Q
end D
namespace D
open PySem PySem.Spec PyProof.Rows L2
section
variable {X:Cx}{K:PySem.W.Frag}
end
section
variable {X:Cx}{K:PySem.W.Frag}
variable {o e:Expr}{td te:TD}{apos cpos:Pos}
end
namespace Q
section
variable {X:Cx}{o e tg:Expr}{td te:TD}{apos cpos:Pos}
end
end Q
end D
namespace D
open PySem PySem.Spec PyProof.Rows L2
section
variable {X:Cx}{tg o:Expr}
end
section
variable {X:Cx}
theorem RepWs.cut {K:PySem.W.Frag}{H:Hp}{ws:List W}{vs:List V}(r:RepWs K H ws vs)(lo hi:Option Int):RepWs K H (cutD ws lo hi) (cutV vs lo hi):=by
 unfold cutD cutV
 have hl:=r.length
 rw [hl]
 have dr:∀ (n:Nat) {ws:List W} {vs:List V},RepWs K H ws vs->RepWs K H (ws.drop n) (vs.drop n):=by
  intro n
  induction n with
  | zero=>intro ws vs h; exact h
  | succ n ih =>
   intro ws vs h
   cases h with
   | nil=>exact .nil
   | cons a b=>exact ih b
 have tk:∀ (n:Nat) {ws:List W} {vs:List V},RepWs K H ws vs->RepWs K H (ws.take n) (vs.take n):=by
  intro n
  induction n with
  | zero=>intro ws vs h; exact .nil
  | succ n ih =>
   intro ws vs h
   cases h with
   | nil=>exact .nil
   | cons a b=>exact .cons a (ih b)
 exact tk _ (dr _ r)
end
section
variable {X:Cx}{pos:Pos}
end
namespace Q
section
variable {X:Cx}{tg o:Expr}{td:TD}
end
end Q
end D
namespace D
open PySem PySem.Spec PyProof.Rows L2
noncomputable def atomIs (v:Value):PyData->Bool
 | .str z=>match v with
  | .str x _=>decide (x=z)
  | _=>false
 | .int i=>match v with
  | .int j _=>decide (j=i)
  | _=>false
 | _=>false
noncomputable def atomsAre:List Value->List PyData->Bool
 | [],[]=>true
 | v :: vs,d :: ds=>atomIs v d && atomsAre vs ds
 | _,_=>false
noncomputable def tupIs (K:PySem.W.Frag)(v:Value):PyData->Bool
 | .tuple ds=>match v with
  | .ref a=>match K.lookup a with
   | some o=>(match o.cls with
    | .type n=>decide (n = "tuple")
    | _=>false) && o.dict.isNone && (match o.data with
    | .seq its _=>decide (its.size<=100) && atomsAre its.toList ds
    | _=>false)
   | none=>false
  | _=>false
 | d=>atomIs v d
theorem atom_rep {v:Value}{d:PyData}(h:atomIs v d=true):∃ x,RelV x v/\∀ K H,RepD K H d x:=by
 cases d with
 | str z =>
  cases v with
  | str x t =>
   have e:x=z:=of_decide_eq_true h
   subst e
   exact ⟨.str x,⟨t,rfl⟩,λ K H=>by simp [RepD]⟩
  | _=>cases h
 | int i =>
  cases v with
  | int j t =>
   have e:j=i:=of_decide_eq_true h
   subst e
   exact ⟨.int j,⟨t,rfl⟩,λ K H=>by simp [RepD]⟩
  | _=>cases h
 | _=>cases h
theorem atoms_rep:∀ {vs:List Value} {ds:List PyData},atomsAre vs ds=true->∃ xs,Vals xs vs/\∀ K H,RepA K H ds xs
 | [],[],_=>⟨[],.nil,λ K H=>by simp [RepA]⟩
 | v :: vs,d :: ds,h=>by
  simp only [atomsAre,Bool.and_eq_true] at h
  obtain ⟨x,h1,h2⟩:=atom_rep h.1
  obtain ⟨xs,h3,h4⟩:=atoms_rep h.2
  exact ⟨x :: xs,.cons h1 h3,λ K H=>by simp only [RepA]; exact ⟨x,xs,rfl,h2 K H,h4 K H⟩⟩
 | [],_ :: _,h=>by cases h
 | _ :: _,[],h=>by cases h
theorem tup_rep {K:PySem.W.Frag}{v:Value}{d:PyData}(h:tupIs K v d=true):∃ x,RelV x v/\∀ H,RepD K H d x:=by
 have atom:atomIs v d=true->∃ x,RelV x v/\∀ H,RepD K H d x:=λ h=>by
  obtain ⟨x,h1,h2⟩:=atom_rep h
  exact ⟨x,h1,h2 K⟩
 cases d with
 | tuple ds =>
  cases v with
  | ref a =>
   simp only [tupIs] at h
   cases e:K.lookup a with
   | none=>rw [e] at h; cases h
   | some o =>
    rw [e] at h
    simp only [Bool.and_eq_true] at h
    obtain ⟨⟨h1,h0⟩,h2⟩:=h
    have hd:o.dict=none:=by simpa using h0
    have hc:o.cls=.type "tuple" := by
     cases q:o.cls with
     | type n=>rw [q] at h1; rw [of_decide_eq_true h1]
     | _=>rw [q] at h1; cases h1
    cases q:o.data with
    | seq its n =>
     rw [q] at h2
     simp only [Bool.and_eq_true,decide_eq_true_eq] at h2
     obtain ⟨xs,h3,h4⟩:=atoms_rep h2.2
     refine ⟨.ref a,rfl,λ H=>?_⟩
     simp only [RepD]
     exact ⟨a,xs,rfl,.inr ⟨o,its,n,e,hc,hd,q,few (by omega),h3⟩,h4 K H⟩
    | _=>rw [q] at h2; cases h2
  | _=>cases h
 | str z=>exact atom h
 | int i=>exact atom h
 | none=>exact atom h
 | bool b=>exact atom h
 | list ds=>exact atom h
 | dict kvs=>exact atom h
noncomputable def entsAre (K:PySem.W.Frag):List DictEntry->List (Str×PyData)->Bool
 | [],[]=>true
 | e :: es,(k,d) :: kvs=>atomIs e.key (.str k) && tupIs K e.val d && entsAre K es kvs
 | _,_=>false
noncomputable def kdIs (K:PySem.W.Frag)(a:Addr)(kvs:List (Str×PyData)):Bool:=match K.lookup a with
 | some o=>(match o.cls with
  | .type n=>decide (n = "dict")
  | _=>false) && o.dict.isNone && decide (o.slots.size=0) && (match o.data with
  | .dict es _=>entsAre K es.toList kvs
  | _=>false)
 | none=>false
noncomputable def hashesOf (K:PySem.W.Frag)(a:Addr):Option (List Int):=match K.lookup a with
 | some o=>match o.data with
  | .dict es _=>some (es.toList.map (·.hash))
  | _=>none
 | none=>none
structure KDict (w:World)(K:PySem.W.Frag)(a:Addr)(kvs:List (Str×PyData)):Prop where
 is:kdIs K a kvs=true
 hs:hashesOf K a=some (kvs.map λ p=>PyData.keyHash w.params p.1)
 nd:(kvs.map (·.1)).Nodup
 ns:(a == sysModules)=false
theorem ents_rep {P:Program}{w:World}{K:PySem.W.Frag}:∀ {es:List DictEntry} {kvs:List (Str×PyData)},entsAre K es kvs=true->es.map (·.hash)=kvs.map (λ p=>PyData.keyHash w.params p.1) ->
  ∃ (L:List (Key×V)) (vs:List (Key×Value)),KV L vs/\Pairs (mixKind P w) es vs/\(∀ e∈es,∃ k,(mixKind P w).is k e.key=true/\e.hash=(mixKind P w).hash k)/\vs.map (·.1)=kvs.map (λ p=>(.inr p.1:Key))/\Paired (λ (p:Str×PyData) (q:Key×V)=>q.1=.inr p.1/\∀ H,RepD K H p.2 q.2) kvs L
 | [],[],_,_=>⟨[],[],.nil,.nil,(λ e he=>by cases he),rfl,.nil⟩
 | e :: es,(k,d) :: kvs,h,hh=>by
  simp only [entsAre,Bool.and_eq_true] at h
  obtain ⟨⟨h1,h2⟩,h3⟩:=h
  rw [List.map_cons,List.map_cons] at hh
  obtain ⟨hh1,hh2⟩:=List.cons.inj hh
  obtain ⟨L,vs,i1,i2,i3,i4,i5⟩:=ents_rep (P:=P) (w:=w) h3 hh2
  obtain ⟨x,r1,r2⟩:=tup_rep h2
  have hk:keyIs (.inr k) e.key=true:=by
   cases q:e.key with
   | str y t =>
    rw [q] at h1
    have ey:y=k:=of_decide_eq_true h1
    subst ey
    show Value.isStrOf y (.str y t)=true
    simp [Value.isStrOf]
   | _=>rw [q] at h1; cases h1
  refine ⟨(.inr k,x) :: L,(.inr k,e.val) :: vs,.cons ⟨rfl,r1⟩ i1,.cons hk rfl i2,λ e' he'=>?_,by rw [List.map_cons,i4]; rfl,.cons ⟨rfl,r2⟩ i5⟩
  rcases List.mem_cons.mp he' with rfl | he'
  ·exact ⟨.inr k,hk,hh1⟩
  ·exact i3 e' he'
 | [],_ :: _,h,_=>by cases h
 | _ :: _,[],h,_=>by cases h
section
variable {X:Cx}{pins:List (Addr×Obj)}{σ:St}{H:Hp}{s:Shared}{a:Addr}{kvs:List (Str×PyData)}
theorem KDict.dd (D:KDict X.w X.K a kvs)(I:Inv X pins σ H s):∃ (L:List (Key×V)) (vs:List (Key×Value)),KV L vs/\s.heap.DictOf (mixKind X.prog X.w) a vs/\Paired (λ (p:Str×PyData) (q:Key×V)=>q.1=.inr p.1/\∀ H,RepD X.K H p.2 q.2) kvs L:=by
 have h:=D.is
 have hs:=D.hs
 unfold kdIs at h
 unfold hashesOf at hs
 cases e:X.K.lookup a with
 | none=>rw [e] at h; cases h
 | some o =>
  rw [e] at h hs
  simp only [Bool.and_eq_true] at h hs
  obtain ⟨⟨⟨h1,h2⟩,h3⟩,h4⟩:=h
  have hc:o.cls=.type "dict" := by
   cases q:o.cls with
   | type n=>rw [q] at h1; rw [of_decide_eq_true h1]
   | _=>rw [q] at h1; cases h1
  have hd:o.dict=none:=by simpa using h2
  have hsl:o.slots = #[]:=Array.eq_empty_of_size_eq_zero (of_decide_eq_true h3)
  cases q:o.data with
  | dict es n =>
   rw [q] at h4 hs
   obtain ⟨L,vs,i1,i2,i3,i4,i5⟩:=ents_rep (P:=X.prog) (w:=X.w) h4 (Option.some.inj hs)
   refine ⟨L,vs,i1,⟨o,es,n,I.kIn a o e,⟨hc,hd,hsl⟩,q,λ e' he'=>i3 e' (by simpa using he'),i2,?_⟩,i5⟩
   rw [i4,show (kvs.map λ p=>(.inr p.1:Key))=(kvs.map (·.1)).map Sum.inr from by simp]
   exact List.Pairwise.map Sum.inr (λ a b h z=>h (Sum.inr.inj z)) D.nd
  | _=>rw [q] at h4; cases h4
end
section
variable {X:Cx}{e:Expr}{a:Addr}{x:Str}{kvs:List (Str×PyData)}{pos p apos cpos:Pos}{ty:TE}{te:TD}
end
namespace Q
section
variable {X:Cx}{e:Expr}{a:Addr}{x:Str}{kvs:List (Str×PyData)}{pos p apos cpos:Pos}{te:TD}
end
end Q
end D
namespace D
open PySem PySem.Spec PyProof.Rows L2
section
variable {X:Cx}
variable {o e:Expr}{td te:TD}{apos cpos:Pos}
end
namespace Q
section
variable {X:Cx}{o e:Expr}{td te:TD}{apos cpos:Pos}
end
end Q
end D
namespace PySem.SeqAt
open AutoSeq1 (wpAny_loadPart')
open MeetsSeq MeetsSeq2 MeetsSeq3 SeqRoads2
end PySem.SeqAt
namespace ZT
open PySem PySem.Spec PyProof.Rows
section
variable {prog:Program}{w:World}{A:Around}{E:Value->Shared->Prop}{s:Shared}
noncomputable abbrev TT (h:Heap)(j t:Addr)(k:Nat)(ys:Array Value):Prop:=h.IsTupleIter j t k/\h.IsTuple t ys
theorem TT.at {h h':Heap}{j t:Addr}{k:Nat}{ys:Array Value}(x:TT h j t k ys)(f:∀ c o,(c=j\/c=t)->h.get? c=some o->h'.get? c=some o):TT h' j t k ys:=by
 obtain ⟨⟨o,e,r⟩,o',e',r'⟩:=x
 exact ⟨⟨o,f _ _ (.inl rfl) e,r⟩,o',f _ _ (.inr rfl) e',r'⟩
noncomputable def isIt (b:Bool)(h:Heap)(j t:Addr)(k:Nat):Prop:=match b with
 | true=>h.IsTupleIter j t k
 | false=>h.IsListIter j t k
noncomputable def isSq (b:Bool)(h:Heap)(t:Addr)(ys:Array Value):Prop:=match b with
 | true=>h.IsTuple t ys
 | false=>h.IsList t ys
theorem isIt.obj {b:Bool}{h:Heap}{j t:Addr}{k:Nat}(x:isIt b h j t k):∃ o,h.get? j=some o/\o.data=.fields #[.ref t,.int k 0]:=by
 cases b <;> (obtain ⟨o,e,_,d⟩:=x; exact ⟨o,e,d⟩)
theorem isIt.at {b:Bool}{h h':Heap}{j t:Addr}{k:Nat}(x:isIt b h j t k)(f:∀ o,h.get? j=some o->h'.get? j=some o):isIt b h' j t k:=by
 cases b <;> (obtain ⟨o,e,r⟩:=x; exact ⟨o,f _ e,r⟩)
theorem isSq.at {b:Bool}{h h':Heap}{t:Addr}{ys:Array Value}(x:isSq b h t ys)(f:∀ o,h.get? t=some o->h'.get? t=some o):isSq b h' t ys:=by
 cases b <;> (obtain ⟨o,e,r⟩:=x; exact ⟨o,f _ e,r⟩)
theorem isSq.lt {b:Bool}{h:Heap}{t:Addr}{ys:Array Value}(x:isSq b h t ys):t < h.objs.size:=by
 cases b <;> (obtain ⟨o,e,r⟩:=x; exact Heap.lt_size e)
noncomputable abbrev TI (b:Bool)(h:Heap)(j t:Addr)(k:Nat)(ys:Array Value):Prop:=isIt b h j t k/\isSq b h t ys
theorem TI.at {b:Bool}{h h':Heap}{j t:Addr}{k:Nat}{ys:Array Value}(x:TI b h j t k ys)(f:∀ c o,(c=j\/c=t)->h.get? c=some o->h'.get? c=some o):TI b h' j t k ys:=⟨x.1.at λ o=>f _ o (.inl rfl),x.2.at λ o=>f _ o (.inr rfl)⟩
variable {p₁ p₂:Bool}{z T O i j a b:Addr}{k:Nat}{xs ys:Array Value}{u v:Value}
end
end ZT
namespace ZT
open PySem PySem.Spec PyProof.Rows
section
variable {prog:Program}{w:World}{A:Around}{E:Value->Shared->Prop}{s:Shared}
end
end ZT
namespace D
open PySem PySem.Spec PyProof.Rows L2
section
variable {X:Cx}{a b:Expr}{p pos:Pos}{ta:TA}
end
section
variable {X:Cx}{K:PySem.W.Frag}{a b:Expr}{p pos:Pos}{t:TAd}
end
section
variable {X:Cx}{K:PySem.W.Frag}
variable {o e:Expr}{td te:TD}{apos cpos:Pos}
end
namespace Q
section
variable {X:Cx}{o e a b:Expr}{td te:TD}{apos cpos p pos:Pos}
end
end Q
end D
namespace D
open PySem PySem.Spec PyProof.Rows L2
section
variable {X:Cx}{K:PySem.W.Frag}
end
section
variable {prog:Program}{w:World}{A:Around}{E:Value->Shared->Prop}{s:Shared}{x y:Str}{t u:Tok}{Q:Value->Shared->Prop}
end
section
variable {X:Cx}{K:PySem.W.Frag}
variable {o e:Expr}{td te:TD}{apos cpos:Pos}
end
section
variable {X:Cx}{e st:Expr}{te:TE}{ts:TO}{pos p2:Pos}
end
section
variable {X:Cx}{K:PySem.W.Frag}{e st:Expr}{te:TD}{ts:TOd}{pos p2:Pos}
end
section
variable {X:Cx}{e:Expr}{a:Addr}{x:Str}{kvs:List (Str×PyData)}{pos p:Pos}{ty:TE}{te:TD}
end
namespace Q
section
variable {X:Cx}{e st:Expr}{a:Addr}{x:Str}{kvs:List (Str×PyData)}{pos p p2:Pos}{te:TD}{ts:TOd}
end
end Q
namespace Q
section
variable {X:Cx}{o e:Expr}{td te:TD}{apos cpos:Pos}
end
end Q
end D
namespace XO
open PySem PySem.Spec PyProof.Rows PySem.W
noncomputable def xno (K:Frag)(C:Addr):Bool:=xmk K C && (match K.lookup C with
 | some ⟨_,_,.cls cd,_⟩=>tailIn K tailB cd.mro
 | _=>false)
section
variable {prog:Program}{w:World}{A:Around}{E:Value->Shared->Prop}{K:Frag}{C:Addr}{h:Heap}{g:Array GenState}{d:Drawn}{t:Nat}{os:OsState}
theorem xcall0 {us:List Value}{Q:Value->Shared->Prop}(X:K.In h)(q:xno K C=true)(hz:us.length<=sizeLine)(k:∀ h' e,Heap.MadeExcOf h h' e (.ref C) us->Q (.ref e) ⟨h',g,d,t,os⟩) :
  wpAny (model prog w) A (call (.ref C) us) Q E ⟨h,g,d,t,os⟩:=by
 unfold xno at q
 rw [Bool.and_eq_true] at q
 obtain ⟨q1,q2⟩:=q
 obtain ⟨nm,q',N,bs,bm,hdct,sn,sub,ab,col,dd,k0,k1,k2,k3,k5,hC,T⟩:=xmk_of X q1
 split at q2
 ·rename_i c0 d0 cd sl hk
  have e1:=X _ _ hk
  rw [hC] at e1
  cases e1
  have T2:=tail_of_in X q2
  generalize hl:(Value.ref C :: bm)=l at T2
  cases T2 with
  | base=>cases hl
  | own hA hN hi _ =>
   cases hl
   rw [hC] at hA
   cases hA
   exact wpAny_call_exc_subT PySem.F.excBase_ValueError T hC hN hi k hz
 ·cases q2
end
end XO
namespace D
open PySem PySem.Spec PyProof.Rows L2 XO
section
variable {X:Cx}{pos p cpos np hpos:Pos}{k:Nat}{f C:Addr}{x:Str}{e:Expr}{es:List Expr}{t:TAd}{E:XE}
noncomputable def dRaise0 (C:Addr)(E:XE)(t:TAd)(_:Ed)(τ:DS)(M:MH):Prop:=t τ M λ ws M1=>ws.length<=1000/\∀ a,M1 a=none->E a τ (updM M1 a (.exc C []))
theorem psd_raise0 (L:Lk X E)(xc:XC X.K C)(xn:xno X.K C=true)(ty:PySem.W.typeIn X.K (.ref C)=some (.type "type"))(kc:PySem.W.keepIn X.K (.ref C)=true)(hr:Room k X.A)(hg:Gl X x)(hm:X.mg x=some (.ref C))(ha:PAd X (e :: es) t)
  (hdb:(x == ("__debug__" : Str))=false:=by decide)(h1:isSt e=false:=by rfl)(h2:(es.all λ e=>!isSt e)=true:=by rfl):PSd X (.Raise (some (.Call (.Name x p) (e :: es) [] cpos)) none pos) (dRaise0 C E t):=by
 intro pins s σ H D I h
 obtain ⟨τ,M,Dd,A,h,_⟩:=h
 rw [arm_exec_Raise]
 refine wpAny_bind (wpAny_standAt (raiseX (K:=X.K) hr.hd (wpAny_bind ?_)))
 refine wpAny_Call_Name_kw (ld_glob I hg hm ?_ hdb)
 refine PySem.W.callWith_K (h₀:=X.base) I.ok.mod.kin kc (thn (ha cpos pins s σ H (λ vs H1=>∃ ws M1,Kp H H1/\RepWs X.K H1 ws vs/\MAbs X.K H1 M1/\ws.length<=1000/\∀ a,M1 a=none->E a τ (updM M1 a (.exc C []))) I
  ⟨τ,M,_,A,h,λ vs H1 ws M1 kp r m q=>⟨ws,M1,kp,r,m,q⟩⟩) λ us s1 ⟨vs,H1,I1,r,ws,M1,kp,rw1,m1,hz,q⟩=>⟨I1.kIn,?_⟩) (star_ok e es X.env h1) (plain_ok cpos X.env es h2)
 refine xcall0 (h:=s1.heap) (g:=s1.gens) (d:=s1.drawn) (t:=s1.toks) (os:=s1.os) I1.kIn xn (by show us.length<=_; have:=r.length; have:=rw1.length; have:=s16; omega) λ h' a hq43=>?_
 obtain ⟨kk,hn,T,oa,_,_⟩:=hq43
 refine wpAny_bind (wpAny_standAt (wpAny_pure ?_))
 have e0:H1 a=none:=free_of I1.hok hn
 have oa':h'.get? a=some (xobj C none #[.ref T,.none,.none,.none,.bool false,.none]):=oa
 have I5:Inv X pins σ (upd H1 a (.ext (XF a C none))) { s1 with heap:=h' }:=Inv.laidN (t':=s1.toks) I1 kk hn (xf_ok oa')
 have k5:Kp H1 (upd H1 a (.ext (XF a C none))):=Kp.new e0
 have m5:MAbs X.K (upd H1 a (.ext (XF a C none))) (updM M1 a (.exc C [])):=λ b mo z=>by
  by_cases hb:b=a
  ·subst hb
   rw [updM_same] at z
   cases z
   exact ⟨_,none,upd_same,λ h ⟨vs,y⟩=>⟨vs,y⟩,.inl ⟨rfl,rfl⟩⟩
  ·rw [updM_ne hb] at z
   exact (m1 b mo z).keep k5 λ u y=>by rw [upd_ne hb]; exact y
 refine ⟨a,C,none,_,rfl,I5.kIn,xc.x,ty,oa',rfl,?_⟩
 exact L pins σ _ _ a τ _ I5 ⟨C,none,_,upd_same,oa',.inl rfl⟩ (A.go (kp.trans k5) m5) (q a (m1.free e0))
variable {body suite:List Stmt}{b0:Stmt}{hs:List ExceptHandler}{th rest:Addr->TSd}{ts:TSd}
noncomputable def dHandN (tab:Addr->Option Bool)(ts:TSd)(rest:Addr->TSd)(a:Addr)(D:Ed)(τ:DS)(M:MH):Prop:=∃ C fs b,M a=some (.exc C fs)/\tab C=some b/\if b=true then ts D τ M else rest a D τ M
theorem ph_no0 {Dc:Addr}{tab:Addr->Option Bool}(hg:Gl X x)(hm:X.mg x=some (.ref Dc))(ht:∀ C b,tab C=some b->PySem.W.exmOne X.K (.ref C) (.ref Dc)=some b)
  (hsu:∀ a,PSsd (X.caught a) (b0 :: suite) ts)(hr:PHd X hs rest)(hdb:(x == ("__debug__" : Str))=false:=by decide):PHd X (.ExceptHandler (some (.Name x np)) none (b0 :: suite) hpos :: hs) (dHandN tab ts rest):=by
 intro pins σ H s a Dn I air h
 obtain ⟨τ,M,Dd,A,⟨C,fs,b,hma,htb,h⟩,k1,k2,k3,k4⟩:=h
 obtain ⟨dct,vs,he⟩:=Air.cls air A.mem hma
 refine wpAny_handleBy_cons (test_ok I hg hm he (ht C b htb) hdb ?_) (by intro q; cases q)
 cases b with
 | false=>exact hr pins σ H s a Dn I air ⟨τ,M,Dd,A,h,k1,k2,k3,k4⟩
 | true =>
  rw [if_pos rfl] at h
  refine codeAny_handlers_suite (air.flight ?_)
  refine wpAny_mono (hsu a pins s σ H Dn (I.caught a) ⟨τ,M,Dd,A,h,k1,k2,k3,k4⟩) (λ f s3 q=>?_) λ _ _ z=>z.elim
  cases f with
  | next=>obtain ⟨σ3,H3,J3,q⟩:=q; exact ⟨_,H3,J3.uncaught I.ok,q⟩
  | brk=>obtain ⟨σ3,H3,J3,q⟩:=q; exact ⟨_,H3,J3.uncaught I.ok,q⟩
  | cont=>obtain ⟨σ3,H3,J3,q⟩:=q; exact ⟨_,H3,J3.uncaught I.ok,q⟩
  | ret u=>obtain ⟨v,σ3,H3,J3,r,q⟩:=q; exact ⟨v,_,H3,J3.uncaught I.ok,r,q⟩
variable {fd:FuncData}{ps:List Str}{sp:SpX}{y:Str}{td:TD}
end
section
variable {X:Cx}{K:PySem.W.Frag}
variable {o e:Expr}{td te:TD}{apos cpos:Pos}
end
section
variable {X:Cx}{o e:Expr}{td te:TD}{apos cpos:Pos}
end
section
variable {X:Cx}{e st:Expr}{te:TE}{ts:TO}{pos p2:Pos}
end
section
variable {X:Cx}{e st:Expr}{te:TD}{ts:TOd}{pos p2:Pos}
end
section
variable {X:Cx}{K:PySem.W.Frag}
end
namespace Q
section
variable {X:Cx}{pos p cpos apos np hpos p2:Pos}{k:Nat}{f C:Addr}{x y:Str}{e o st:Expr}{es:List Expr}{t:TAd}{E:XE}{body suite:List Stmt}{b0:Stmt}{hs:List ExceptHandler}{rest:Addr->TSd}{ts:TSd}{fd:FuncData}{ps:List Str}{sp:SpX}{td te:TD}{to:TOd}
theorem psd_raise0 (L:Lk X E)(xc:XC X.K C)(xn:xno X.K C=true)(ty:PySem.W.typeIn X.K (.ref C)=some (.type "type"))(kc:PySem.W.keepIn X.K (.ref C)=true)(hr:Room k X.A)(hg:Gl X x)(hm:X.mg x=some (.ref C))(ha:Jd (PAd X (e :: es) t))
  (hdb:(x == ("__debug__" : Str))=false:=by decide)(h1:isSt e=false:=by rfl)(h2:(es.all λ e=>!isSt e)=true:=by rfl):Jd (PSd X (.Raise (some (.Call (.Name x p) (e :: es) [] cpos)) none pos) (dRaise0 C E t)):=⟨D.psd_raise0 L xc xn ty kc hr hg hm ha.h hdb h1 h2⟩
theorem ph_no {Dc:Addr}{l:List (Addr×Bool)}(hg:Gl X x)(hm:X.mg x=some (.ref Dc))(ht:AllT (λ C b=>PySem.W.exmOne X.K (.ref C) (.ref Dc)=some b) l)
  (hsu:∀ a,Jd (PSsd (X.caught a) (b0 :: suite) ts))(hr:Jd (PHd X hs rest))(hdb:(x == ("__debug__" : Str))=false:=by decide):Jd (PHd X (.ExceptHandler (some (.Name x np)) none (b0 :: suite) hpos :: hs) (dHandN (tabL l) ts rest)):=⟨D.ph_no0 hg hm ht.of (λ a=>(hsu a).h) hr.h hdb⟩
end
end Q
end D
namespace ZS
open PySem PySem.Spec PyProof.Rows
section
variable {prog:Program}{w:World}{A:Around}{E:Value->Shared->Prop}{s:Shared}
variable {z T O i j b:Addr}{k:Nat}{x:Str}{tk:Tok}{ys:Array Value}{u v:Value}
end
section
variable {prog:Program}{w:World}{A:Around}{E:Value->Shared->Prop}{s:Shared}
end
end ZS
namespace D
open PySem PySem.Spec PyProof.Rows L2
section
variable {X:Cx}{a b:Expr}{p pos:Pos}{ta:TA}
end
section
variable {X:Cx}{K:PySem.W.Frag}{a b:Expr}{p pos:Pos}{t:TAd}
end
section
variable {X:Cx}{K:PySem.W.Frag}
end
namespace Q
section
variable {X:Cx}{o e:Expr}{td te:TD}{apos cpos:Pos}
end
end Q
namespace Q
section
variable {X:Cx}{a b:Expr}{p pos:Pos}
end
end Q
end D
namespace RT
open PySem PySem.Spec PyProof.Rows
section
variable {prog:Program}{w:World}{A:Around}{E:Value->Shared->Prop}{s:Shared}
end
end RT
namespace D
open PySem PySem.Spec PyProof.Rows L2
mutual
noncomputable def dflat:PyData->Bool
 | .list ds=>dflatA ds
 | .tuple ds=>dflatA ds
 | .dict kvs=>kvs.all λ p=>flatD p.2
 | _=>true
noncomputable def dflatA:List PyData->Bool
 | []=>true
 | d :: ds=>dflat d && dflatA ds
end
noncomputable def reprOkK (d:PyData):Bool:=d.showable && decide (d.shown.length<=sizeLine) && decide (d.depth<=60) && dflat d
theorem s4m:(4000000:Nat)<=sizeLine:=by rw [sizeLine_eq]; decide
theorem reprK_ok {d:PyData}(h:fineD d=true)(hb:big d<=4000000)(hd:d.depth<=60)(hk:dflat d=true):reprOkK d=true:=by
 have h1:=fine_show d h
 have h2:=shown_le d h
 have h3:=s4m
 simp only [reprOkK,h1,hk,Bool.true_and,Bool.and_true,Bool.and_eq_true,decide_eq_true_eq]
 exact ⟨by omega,hd⟩
section
variable {X:Cx}{pins:List (Addr×Obj)}{σ:St}{H:Hp}{s:Shared}
theorem not_sm (I:Inv X pins σ H s){a:Addr}{o:Obj}{its:Array Value}{n:Nat}(e:s.heap.get? a=some o)(c:o.data=.seq its n):sysModules≠a:=by
 intro h
 subst h
 obtain ⟨_,mm,o',es,ep,h1,h2,_⟩:=I.ok.mod.bm
 have e2:=I.bk _ _ h1
 rw [e] at e2
 cases e2
 rw [c] at h2
 cases h2
mutual
theorem reads_deep (I:Inv X pins σ H s):∀ (d:PyData) {x:V} {u:Value},RepD X.K H d x->RelV x u->dflat d=true->∃ as,Reads s.heap u d as/\sysModules ∉ as
 | .none,x,u,h,r,_=>⟨[],reads_flat rfl h r,List.not_mem_nil⟩
 | .bool b,x,u,h,r,_=>⟨[],reads_flat rfl h r,List.not_mem_nil⟩
 | .int i,x,u,h,r,_=>⟨[],reads_flat rfl h r,List.not_mem_nil⟩
 | .str z,x,u,h,r,_=>⟨[],reads_flat rfl h r,List.not_mem_nil⟩
 | .list ds,x,u,h,r,hd=>by
  simp only [RepD] at h
  obtain ⟨a,vs,e,hs,ra⟩:=h
  subst e
  cases (show u=Value.ref a from r)
  obtain ⟨its,rv,⟨o,n,e1,e2,e3,e4⟩,hz⟩:=I.list hs.sq
  obtain ⟨as,q,hn⟩:=readsA_deep I ds ra rv (by simpa only [dflat] using hd)
  exact ⟨_,.list e1 e2 e4 q,λ hm=>(List.mem_cons.mp hm).elim (not_sm I e1 e4) hn⟩
 | .tuple ds,x,u,h,r,hd=>by
  simp only [RepD] at h
  obtain ⟨a,vs,e,hs,ra⟩:=h
  subst e
  cases (show u=Value.ref a from r)
  obtain ⟨its,rv,⟨o,e1,e2,n,e4⟩,hz⟩:=I.tuple hs
  obtain ⟨as,q,hn⟩:=readsA_deep I ds ra rv (by simpa only [dflat] using hd)
  exact ⟨_,.tuple e1 e2 e4 q,hn⟩
 | .dict kvs,x,u,h,r,hd=>by
  simp only [RepD] at h
  obtain ⟨a,o,l,e,ha,rk⟩:=h
  subst e
  cases (show u=Value.ref a from r)
  obtain ⟨z,hs,vs,kv,o',es,ep,e1,e2,e3,e4,e5,e6⟩:=dk_rd I.hok (.inr ⟨o,ha⟩)
  obtain ⟨q1,q2⟩:=pairs_reads (h:=s.heap) (by simpa only [dflat] using hd) rk kv e5
  refine ⟨_,.dict e1 e2.1 e3 q1 q2,λ hm=>?_⟩
  simp only [List.append_nil,List.mem_singleton] at hm
  rw [<- hm] at hs
  exact absurd hs (by decide)
theorem readsA_deep (I:Inv X pins σ H s):∀ (ds:List PyData) {xs:List V} {us:List Value},RepA X.K H ds xs->Vals xs us->dflatA ds=true->∃ as,ReadsAll s.heap us ds as/\sysModules ∉ as
 | [],xs,us,h,r,_=>by
  simp only [RepA] at h; subst h
  cases r
  exact ⟨_,.nil,List.not_mem_nil⟩
 | d :: ds,xs,us,h,r,hd=>by
  simp only [RepA] at h
  obtain ⟨v,vr,e,h1,h2⟩:=h
  subst e
  simp only [dflatA,Bool.and_eq_true] at hd
  cases r with
  | cons r1 r2 =>
   obtain ⟨as,q1,n1⟩:=reads_deep I d h1 r1 hd.1
   obtain ⟨bs,q2,n2⟩:=readsA_deep I ds h2 r2 hd.2
   exact ⟨_,.cons q1 q2,λ hm=>(List.mem_append.mp hm).elim n1 n2⟩
end
end
section
variable {X:Cx}
theorem reprOk_flat {d:PyData}(hf:flatD d=true)(ok:reprOkK d=true):reprOk d=true:=by
 simp only [reprOkK,Bool.and_eq_true] at ok
 have hn:d.hasDict=false:=by cases d <;> first | (simp only [PyData.hasDict]; done) | cases hf
 simp only [reprOk,ok.1.1.1,ok.1.1.2,ok.1.2,hn]
 rfl
theorem call_reprK {k:Nat}(hr:Room k X.A):CallR X (.builtin "repr") (λ xs H Q=>∃ x d,xs=[x]/\RepT X.K H d x/\reprOkK d=true/\Q (.str d.shown) H):=by
 intro pins s σ H xs us Q I r h
 obtain ⟨x,d,rfl,rd,ok,q⟩:=h
 cases hf:flatD d with
 | true=>exact call_reprT hr pins s σ H [x] us Q I r ⟨x,d,rfl,rd,reprOk_flat hf ok,q⟩
 | false =>
  obtain ⟨u,rfl,rx⟩:=vals1 r
  have ok':=ok
  simp only [reprOkK,Bool.and_eq_true,decide_eq_true_eq] at ok'
  obtain ⟨⟨⟨hs,hz⟩,hd⟩,hfl⟩:=ok'
  obtain ⟨H',I',rd'⟩:=thaw I rd
  obtain ⟨as,rr,hsm⟩:=reads_deep I' d rd' rx hfl
  have hu:=hr.units
  have go:∀ a,Reads s.heap (.ref a) d as->wpAny (model X.prog X.w) X.A (call (.builtin "repr") [.ref a]) (EP X pins σ Q) X.xe s:=λ a rr=>repr_of_reads' rr hs (λ _=>hsm) hr.gd (by omega) (λ _ _ z=>z) (λ h' u tk hk=>⟨.str _,H,I.kept hk,⟨_,rfl⟩,q⟩) hz
  cases rr with
  | none=>cases hf
  | bool b=>cases hf
  | int i t=>cases hf
  | str i t=>cases hf
  | list e1 e2 e3 e4=>exact go _ (.list e1 e2 e3 e4)
  | tuple e1 e2 e3 e4=>exact go _ (.tuple e1 e2 e3 e4)
  | dict e1 e2 e3 e4 e5=>exact go _ (.dict e1 e2 e3 e4 e5)
end
section
variable {X:Cx}{K:PySem.W.Frag}
noncomputable def rdReprK (ws:List W)(M:MH)(Q:QD):Prop:=∃ w d,ws=[w]/\DatW M w d/\reprOkK d=true/\Q (.d (.str d.shown)) M
theorem cd_reprK:CallD K (λ xs H Q=>∃ x d,xs=[x]/\RepT K H d x/\reprOkK d=true/\Q (.str d.shown) H) rdReprK:=by
 intro vs H ws M Qd Q r m ⟨w,d,e,g,ok,q⟩ k
 subst e
 obtain ⟨v,e1,r1⟩:=repWs1 r
 exact ⟨v,d,e1,g.sound r1 m,ok,k _ H (.d (.str _)) M (Kp.refl H) (by simp [RepW,RepD]) m q⟩
variable {o e:Expr}{td:TD}{apos cpos:Pos}
variable {a:Expr}{ta:TA}{p p2 pos pos2:Pos}
end
namespace Q
section
variable {X:Cx}{k:Nat}{t:TAd}{td:TD}{a o e:Expr}{p p2 pos pos2 apos cpos:Pos}
end
end Q
end D
namespace L2
open PySem PySem.Spec PyProof.Rows
open PySem.W (envX kla_obj kla_fn)
section
variable {X:Cx}{pins:List (Addr×Obj)}{σ:St}{H:Hp}{s:Shared}{sc:Scope}{x q:Str}{fr:List Nat}{cl:List (Str×Addr)}{f c:Addr}
noncomputable def LamH (H:Hp)(q x:Str)(params:Arguments)(body:Expr)(sc:Scope)(cl:List (Str×Addr))(pm:Value)(f:Addr):Prop :=
 ∃ c ctv oc vs t,H f=some (.frz (kla_obj "<lambda>" q params body sc cl pm c ctv) (.own 0))/\H c=some (.frz oc (.own 0))/\oc.data=.fields vs/\vs[1]? = some (.str q t)
end
section
variable {X:Cx}{pins:List (Addr×Obj)}{σ:St}{H:Hp}{s:Shared}
end
end L2
namespace L2
open PySem PySem.Spec PyProof.Rows
noncomputable def in1X (X:Cx):Cx:={ X with A:=X.A.in1 }
section
variable {X:Cx}{pins:List (Addr×Obj)}{σ:St}{H:Hp}{s:Shared}
theorem Inv.in1 (I:Inv X pins σ H s):Inv (in1X X) pins σ H s :=
 ⟨⟨I.ok.mod,I.ok.kind,I.ok.glob,I.ok.blt,I.ok.above,I.ok.inj,I.ok.has,I.ok.cab,I.ok.hd,I.ok.frames,I.ok.stk,I.ok.exf,I.ok.bs,I.ok.bsz,I.ok.noex,I.ok.exfs,I.ok.funs,I.ok.frf⟩,I.os,I.bare,I.base,I.loc,I.cell,I.free,I.freeC,I.pin,I.hok,I.len⟩
variable {l f it S:Addr}{xs:List V}{R:Result->Shared->Prop}
end
end L2
namespace D
open PySem PySem.Spec PyProof.Rows L2
open PySem.W (kla_obj kla_fn)
section
variable {X:Cx}{K:PySem.W.Frag}
variable {P cd:Addr}{q x:Str}{lpos pos p kpos:Pos}{params:Arguments}{body o:Expr}{sc:Scope}{fr:List Nat}{to tb:TD}{k:Nat}
theorem LamH.keep {H H':Hp}{q x:Str}{params:Arguments}{body:Expr}{sc:Scope}{cl:List (Str×Addr)}{pm:Value}{f:Addr}(h:LamH H q x params body sc cl pm f)(kp:Kp H H'):LamH H' q x params body sc cl pm f:=by
 obtain ⟨c,ctv,oc,vs,t,h1,h2,h3,h4⟩:=h
 exact ⟨c,ctv,oc,vs,t,kp.frz _ _ _ h1,kp.frz _ _ _ h2,h3,h4⟩
end
namespace Q
end Q
end D
namespace L2
open PySem PySem.Spec PyProof.Rows
end L2
namespace D
open PySem PySem.Spec PyProof.Rows L2
section
variable {P:Program}{w:World}{K:PySem.W.Frag}{mg:Str->Option Value}{base:Heap}
end
end D
namespace D
open PySem PySem.Spec PyProof.Rows L2
end D
namespace D
open PySem PySem.Spec PyProof.Rows L2
section
variable {X:Cx}{o i e:Expr}{to ti te:TD}{op:Operator}{f:Int->Int->Int}{pos tpos:Pos}
end
namespace Q
end Q
end D
namespace D
open PySem PySem.Spec PyProof.Rows L2
section
variable {X:Cx}{K:PySem.W.Frag}
variable {o e:Expr}{to:TE}{td te:TD}{apos cpos p pos:Pos}
end
namespace Q
section
variable {X:Cx}{o e:Expr}{td te:TD}{apos cpos p pos:Pos}
end
end Q
end D
set_option maxHeartbeats 0
namespace D
open PySem PySem.Spec PyProof.Rows L2
section
variable {X:Cx}{a b:Expr}{rest:List Expr}{pos:Pos}{ta tb:TE}
end
section
variable {P:Program}{w:World}{A:Around}{R:Result->Shared->Prop}{it l S:Addr}{its:List Value}{ns:List Int}{kw:List (Str×Value)}
noncomputable def Lst (ns:List Int)(j:Nat)(m:Int):Prop:=m∈ns.take j/\∀ x∈ns.take j,m<=x
theorem Lst.next {j:Nat}{m n:Int}(h:Lst ns j m)(e:ns[j]? = some n):Lst ns (j+1) (if n < m then n else m):=by
 have ht:ns.take (j+1)=ns.take j++[n]:=by rw [List.take_succ,e]; rfl
 unfold Lst
 rw [ht]
 constructor
 ·split
  ·simp
  ·exact List.mem_append_left _ h.1
 ·intro x hx
  rcases List.mem_append.mp hx with hx | hx
  ·have:=h.2 x hx
   split <;> omega
  ·rw [List.mem_singleton.mp hx]
   split <;> omega
end
section
variable {X:Cx}{K:PySem.W.Frag}{e:Expr}{te:TE}{p pos kpos kp:Pos}{j:Nat}
end
section
variable {X:Cx}{o e:Expr}{td te:TD}{apos cpos:Pos}
end
namespace Q
section
variable {X:Cx}{a b o e:Expr}{rest:List Expr}{ta tb td te:TD}{apos cpos p pos kpos kp:Pos}{j:Nat}
end
end Q
end D
namespace D
open PySem PySem.Spec PyProof.Rows L2
section
variable {X:Cx}{K:PySem.W.Frag}{pins:List (Addr×Obj)}{σ:St}{H:Hp}{s:Shared}
end
section
variable {X:Cx}{a:Expr}{p pos:Pos}{ta:TA}{t:TAd}
end
section
variable {X:Cx}{K:PySem.W.Frag}
variable {o e:Expr}{to:TE}{td te:TD}{apos cpos p pos:Pos}
end
namespace Q
section
variable {X:Cx}
end
end Q
end D
namespace D
open PySem PySem.Spec PyProof.Rows L2
section
variable {K:PySem.W.Frag}
end
end D
namespace D
open PySem PySem.Spec PyProof.Rows L2
section
variable {X:Cx}{pos p:Pos}{k:Nat}{f C:Addr}{fd:FuncData}{ps:List Str}{sp:SpD}{x:Str}
end
end D
namespace D
open PySem PySem.Spec PyProof.Rows L2
noncomputable abbrev PFn (K:PySem.W.Frag)(x:Str)(st:Stmt):Prop:=∃ (f:Addr) (oc kV dc pm cd ct:Value) (od an:Option Addr) (sl:Array (Option Value)),PySem.W.nsIn K mainGlobals x=some (some (.ref f))/\K.lookup f=some ⟨oc,od,.func (PySem.W.fnOf x x (defArgs st) (defBody st) (defScope st) .none kV dc pm an cd ct),sl⟩/\PySem.W.codeIn K cd x=true/\PySem.W.keepIn K (.ref f)=true
theorem PFn.fn {K:PySem.W.Frag}{h:Heap}{mg:Str->Option Value}{x:Str}{st:Stmt}{ps:List Str}(p:PFn K x st)(X:K.In h)(G:h.Ns mainGlobals mg)
  (b:∀ (kV doc pm:Value) (an:Option Addr) (cdv ct:Value) (us:List Value),us.length=ps.length->bindArgs (PySem.W.fnOf x x (defArgs st) (defBody st) (defScope st) .none kV doc pm an cdv ct) ⟨us,[]⟩=pure (ps.zip us)):∃ f fd,Fn K mg x st ps f fd :=
 let ⟨f,_,_,_,_,_,_,_,_,_,a,l,c,k⟩:=p; ⟨f,_,fn_mk X G a l c k b⟩
end D
namespace L2
open PySem PySem.Spec PyProof.Rows
structure RoomH (k:Nat)(A:Around):Prop where
 gd:A.guards=some []
 dp:A.depth+3 * k+5 < recursionLimit
 un:A.units+16 * k+200 < cLine
theorem RoomH.mono {j k:Nat}{A:Around}(r:RoomH k A)(h:j<=k):RoomH j A:=⟨r.gd,by have:=r.dp; omega,by have:=r.un; omega⟩
theorem RoomH.deeper {k:Nat}{A:Around}(r:RoomH (k+1) A)(env:Env):RoomH k (A.deeper env) :=
 ⟨r.gd,by have:=r.dp; show A.depth+1+3 * k+5 < _; omega,by have:=r.un; show A.units+3+16 * k+200 < _; omega⟩
theorem RoomH.depth {k:Nat}{A:Around}(r:RoomH k A):A.depth < recursionLimit:=by have:=r.dp; omega
theorem RoomH.units {k:Nat}{A:Around}(r:RoomH k A):A.units+64 < cLine:=by have:=r.un; omega
theorem Room.h {k:Nat}{A:Around}(r:Room k A):RoomH k A:=⟨r.gd,r.dp,r.un⟩
theorem RoomH.mark {k:Nat}{A:Around}(r:RoomH k A)(v:Value):RoomH k (A.mark (some v)):=⟨r.gd,r.dp,r.un⟩
structure FnOkH (P:Program)(w:World)(K:PySem.W.Frag)(mg:Str->Option Value)(base:Heap)(CX:CXT)(k:Nat)(f:Addr)(fd:FuncData)(ps:List Str)(sp:Sp):Prop where
 len:∀ vs H Q E,sp vs H Q E->vs.length=ps.length
 run:∀ (A:Around) (outer:List Env) (s:Shared) (H:Hp) (args:Args) (us:List Value) (vs:List V) (Q:VK) (E:XK),RoomH k A->Env0 P w K mg base A outer s H->BindsTo s fd args (ps.zip us)->Vals vs us->sp vs H Q E ->
  codeAny (model P w) A (.call (.ref f) args) (CR CX outer P w H s Q E) s
theorem FnOkH.fn {P:Program}{w:World}{K:PySem.W.Frag}{mg:Str->Option Value}{base:Heap}{CX:CXT}{k:Nat}{f:Addr}{fd:FuncData}{ps:List Str}{sp:Sp}(F:FnOkH P w K mg base CX k f fd ps sp) :
  FnOk P w K mg base CX k f fd ps sp:=⟨F.len,λ A outer s H args us vs Q E hr=>F.run A outer s H args us vs Q E hr.h⟩
noncomputable abbrev Cx.loud (X:Cx):Cx:={ X with calm:=false }
theorem inv_startH {CX:CXT}{P:Program}{w:World}{K:PySem.W.Frag}{mg:Str->Option Value}{base:Heap}{N ps:List Str}{qual:Str}{scope:Scope}{f:Addr}{cd:Value}{A:Around}{outer:List Env}{s s1:Shared}{H:Hp}{E:XK}{us:List Value}{vs:List V}
  (S:FnScope N ps scope)(e0:Env0 P w K mg base A outer s H)(hl:vs.length=ps.length)(r:Vals vs us)
  (x:InCallC s s.heap.objs.size (bindL (envOfC qual scope s.heap.objs.size f cd).kindOf (ps.zip us) λ _=>none) (cellsFrom (s.heap.objs.size+1) scope.names []) (bindC (envOfC qual scope s.heap.objs.size f cd).kindOf (ps.zip us) λ _=>none) s1) :
  Inv (cxOf CX P w K mg base N qual scope f cd A outer s H E).loud [] (start N vs) H s1:=by
 have I:=inv_start (CX:=CX) (E:=E) (A:={ A with handled:=none }) S rfl ⟨e0.frames,e0.mod,e0.bs,e0.bsz,e0.funs,e0.frf,e0.hok,e0.bare⟩ hl r x
 exact ⟨⟨I.ok.mod,I.ok.kind,I.ok.glob,I.ok.blt,I.ok.above,I.ok.inj,I.ok.has,I.ok.cab,(λ z=>nomatch z),I.ok.frames,I.ok.stk,I.ok.exf,I.ok.bs,I.ok.bsz,I.ok.noex,I.ok.exfs,I.ok.funs,I.ok.frf⟩,I.os,I.bare,I.base,I.loc,I.cell,I.free,I.freeC,I.pin,I.hok,I.len⟩
theorem fn_ofH {CX:CXT}{P:Program}{w:World}{K:PySem.W.Frag}{mg:Str->Option Value}{base:Heap}{k:Nat}{f:Addr}{name qual:Str}{params:Arguments}{body:List Stmt}{scope:Scope}{dV kV doc pm cdv ct oc:Value}{an od:Option Addr}
  {osl:Array (Option Value)}{N ps:List Str}{sp:Sp}(lk:K.lookup f=some ⟨oc,od,.func (PySem.W.fnOf name qual params body scope dV kV doc pm an cdv ct),osl⟩)(hcd:PySem.W.codeIn K cdv qual=true)(S:FnScope N ps scope)
  (len:∀ vs H Q E,sp vs H Q E->vs.length=ps.length)
  (hbody:∀ (A:Around) (outer:List Env) (s:Shared) (H:Hp) (vs:List V) (Q:VK) (E:XK),RoomH k (A.deeper (envOfC qual scope s.heap.objs.size f cdv))->sp vs H Q E ->
   ∃ t,PSs (cxOf CX P w K mg base N qual scope f cdv A outer s H E).loud body t/\t { nx:=λ _ H'=>Q .non H',rt:=Q } (start N vs) H) :
  FnOkH P w K mg base CX (k+1) f (PySem.W.fnOf name qual params body scope dV kV doc pm an cdv ct) ps sp:=by
 refine ⟨len,λ A outer s H args us vs Q E hr e0 hb r hsp=>?_⟩
 have hl:=len _ _ _ _ hsp
 have KX:K.In s.heap:=e0.mod.kin.keeps λ b o e=>(e0.bs b o e).1
 have lim:s.heap.NoLimit:=e0.mod.nolimit.keeps λ b o e=>(e0.bs b o e).1
 have hkind:∀ y∈ps.zip us,scope.names.lookup y.1=some .local\/(scope.names.lookup y.1=some .cell/\((cellsFrom (s.heap.objs.size+1) scope.names []).lookup y.1).isSome=true):=λ ⟨n,v⟩ hy=>by
  rcases S.par n (List.of_mem_zip hy).1 with q | q
  ·exact .inl q
  ·exact .inr ⟨q,PySem.W.cellsFrom_some _ _ _ (.inl q)⟩
 refine codeAny_call_function hr.depth (KX _ _ lk) rfl S.co S.gen rfl (PySem.W.codeRec_of KX hcd) (hb _ _ _ _ ?_)
 refine wpAny_newFunctionEnv_cells S.kind hkind λ env he s1 x=>?_
 subst he
 refine ⟨lim.keeps x.toInCall.keep,codeAny_func ?_⟩
 obtain ⟨t,ht,hq⟩:=hbody A outer s H vs Q E (hr.deeper _) hsp
 have I:=inv_startH (CX:=CX) (E:=E) S e0 hl r x
 refine wpAny_mono (ht [] s1 (start N vs) H _ I hq) (λ fl s' hs=>?_) λ e s' hs=>hs
 have fin:∀ {σ':St} {H':Hp} {v:V} {u:Value},Inv (cxOf CX P w K mg base N qual scope f cdv A outer s H E).loud [] σ' H' s'->RelV v u->Q v H'->CE outer P w H s Q u s' :=
  λ {σ' H' v u} J rv q=>⟨v,H',J.os,J.bare,J.base,J.hok,rv,q⟩
 cases fl with
 | ret u =>
  obtain ⟨v,σ',H',J,rv,q⟩:=hs
  exact fin J rv q
 | next =>
  obtain ⟨σ',H',J,q⟩:=hs
  exact fin (v:=V.non) (u:=Value.none) J rfl q
 | brk =>
  obtain ⟨_,_,_,q⟩:=hs
  exact False.elim q
 | cont =>
  obtain ⟨_,_,_,q⟩:=hs
  exact False.elim q
section
variable {X:Cx}{CX:CXT}{k:Nat}{f C:Addr}{fd:FuncData}{ps:List Str}{sp:Sp}{dvs:List V}{ds:List Value}{E:XK}{x m:Str}{p pos apos:Pos}{e o:Expr}{es:List Expr}{ta:TE}{t:TA}
theorem run_fnH {pins:List (Addr×Obj)}{σ:St}{H:Hp}{s:Shared}{Q:VK}{us:List Value}{vs:List V}(F:FnOkH X.prog X.w X.K X.mg X.base CX k f fd ps sp)(hr:RoomH k X.A)(hb:Binds X.K fd ps ds)(hd:Vals dvs ds)(hx:Passes CX X E)
  (I:Inv X pins σ H s)(r:Vals vs us)(h:sp (vs++dvs) H Q E):wpAny (model X.prog X.w) X.A (call (.ref f) us) (EP X pins σ Q) X.xe s:=by
 have r2:Vals (vs++dvs) (us++ds):=r.append hd
 have hl:(us++ds).length=ps.length:=by rw [<- r2.length]; exact F.len _ _ _ _ h
 refine wpAny_call (codeAny_mono (F.run X.A X.stack s H ⟨us,[]⟩ (us++ds) (vs++dvs) Q E hr I.env0 (hb s us I.kIn hl) r2 h) λ r s' hq=>?_)
 cases r with
 | error e=>exact hx pins σ H s e s' I hq
 | ok fl =>
  cases fl with
  | ret u=>exact I.after hq
  | next=>exact False.elim hq
  | brk=>exact False.elim hq
  | cont=>exact False.elim hq
theorem pe_callH (F:FnOkH X.prog X.w X.K X.mg X.base CX k f fd ps sp)(hr:RoomH k X.A)(hg:Gl X x)(hm:X.mg x=some (.ref f))(hk:PySem.W.keepIn X.K (.ref f)=true)(hb:Binds X.K fd ps ds)(hd:Vals dvs ds)(hx:Passes CX X E)
  (ha:PA X (e :: es) t)(hdb:(x == ("__debug__" : Str))=false:=by decide)(he:starEach (e :: es) X.env=(false,eval e X.env) :: starEach es X.env:=by rfl)(hpl:(backTo pos (starEach es X.env)).any (·.1)=false:=by rfl) :
  PE X (.Call (.Name x p) (e :: es) [] pos) (tCall sp dvs E t):=by
 intro pins s σ H Q I h
 refine wpAny_Call_Name_kw (ld_glob I hg hm ?_ hdb)
 refine PySem.W.callWith_K (h₀:=X.base) I.ok.mod.kin hk (thn (ha pos pins s σ H _ I h) λ us s1 ⟨vs,H1,I1,r,q⟩=>⟨I1.kIn,?_⟩) he hpl
 exact run_fnH F hr hb hd hx I1 r q
end
section
variable {P:Program}{w:World}{K:PySem.W.Frag}{mg:Str->Option Value}{base:Heap}
theorem Fun.okH {x qual:Str}{st:Stmt}{f:Addr}{fd:FuncData}{N ps:List Str}{k:Nat}{sp:Sp}(F:Fun K x qual st f fd)(S:FnScope N ps (defScope st))(len:∀ vs H Q E,sp vs H Q E->vs.length=ps.length)
  (hbody:∀ (cdv:Value) (A:Around) (outer:List Env) (s:Shared) (H:Hp) (vs:List V) (Q:VK) (E:XK),RoomH k (A.deeper (envOfC qual (defScope st) s.heap.objs.size f cdv))->sp vs H Q E ->
   ∃ t,PSs (cxOf CX0 P w K mg base N qual (defScope st) f cdv A outer s H E).loud.nox (defBody st) t/\t { nx:=λ _ H'=>Q .non H',rt:=Q } (start N vs) H):FnOkH P w K mg base CX0 (k+1) f fd ps sp:=by
 obtain ⟨oc,od,kV,doc,pm,an,cdv,ct,osl,rfl,lk,hcd⟩:=F.ex
 refine fn_ofH lk hcd S len λ A outer s H vs Q E hr hsp=>?_
 obtain ⟨t,h,q⟩:=hbody cdv A outer s H vs Q E hr hsp
 exact ⟨t,h.nox,q⟩
end
end L2
namespace D
open PySem PySem.Spec PyProof.Rows L2
section
variable {P:Program}{w:World}{K:PySem.W.Frag}{mg:Str->Option Value}{base:Heap}
theorem fun_okH {x qual:Str}{st:Stmt}{f:Addr}{fd:FuncData}{N ps:List Str}{k:Nat}{sp:SpD}{t:TSd}(F:Fun K x qual st f fd)(S:FnScope N ps (defScope st))(len:∀ ws M Q,sp ws M Q->ws.length=ps.length)
  (hbody:∀ (cdv:Value) (A:Around) (outer:List Env) (s:Shared) (H:Hp) (E:XK),RoomH k (A.deeper (envOfC qual (defScope st) s.heap.objs.size f cdv)) ->
   PSsd (cxOf CX0 P w K mg base N qual (defScope st) f cdv A outer s H E).loud.nox (defBody st) t)
  (read:∀ ws M Q,sp ws M Q->t { nx:=λ _ M'=>Q (.d .none) M',rt:=Q } (startD N ws) M):FnOkH P w K mg base CX0 (k+1) f fd ps (upSp K sp):=by
 refine F.okH S (λ vs H Q E h=>?_) (λ cdv A outer s H vs Q E hr h=>?_)
 ·obtain ⟨ws,M,Qd,r,_,q,_⟩:=h
  rw [<- r.length]
  exact len _ _ _ q
 ·obtain ⟨ws,M,Qd,r,m,q,kk⟩:=h
  refine ⟨_,hbody cdv A outer s H E hr,startD N ws,M,_,abs_start r m,read ws M Qd q,λ σ' H' τ' M' kp A' q'=>?_,λ v H' w' M' kp r' m' q'=>?_,λ σ' H' τ' M' kp A' q'=>q'.elim,λ σ' H' τ' M' kp A' q'=>q'.elim⟩
  ·exact kk _ H' _ M' kp (by simp [RepW,RepD]) A'.mem q'
  ·exact kk v H' w' M' kp r' m' q'
end
section
variable {X:Cx}{pos p:Pos}{k:Nat}{f:Addr}{fd:FuncData}{ps:List Str}{sp:SpD}{x:Str}{e:Expr}{es:List Expr}{t:TAd}
theorem pd_callH (F:FnOkH X.prog X.w X.K X.mg X.base CX0 k f fd ps (upSp X.K sp))(hr:RoomH k X.A)(hg:Gl X x)(hm:X.mg x=some (.ref f))(hk:PySem.W.keepIn X.K (.ref f)=true)(hb:Binds X.K fd ps [])
  (ha:PAd X (e :: es) t)(hdb:(x == ("__debug__" : Str))=false:=by decide)(he:starEach (e :: es) X.env=(false,eval e X.env) :: starEach es X.env:=by rfl)(hpl:(backTo pos (starEach es X.env)).any (·.1)=false:=by rfl) :
  PD X (.Call (.Name x p) (e :: es) [] pos) (dCall sp t):=pe_w (pe_callH (E:=E0) (dvs:=[]) F hr hg hm hk hb .nil pass0 ha hdb he hpl) λ σ H Q h=>by
 obtain ⟨τ,M,Qd,A,h,k⟩:=h
 exact ⟨τ,M,_,A,h,λ vs H1 ws M1 kp r1 m1 q1=>⟨ws,M1,Qd,by rw [List.append_nil]; exact r1,m1,q1,kgo k kp⟩⟩
theorem op_eqTH {k:Nat}(hr:RoomH k X.A):OpR X (compareOp .Eq) (λ x y H Q=>∃ d d',RepT X.K H d x/\RepT X.K H d' y/\eqOk2 d d'=true/\Q (.bl (PyData.eqv d d')) H):=by
 intro pins s σ H x y v u Q I rx ry h
 obtain ⟨d,d',h1,h2,o,q⟩:=h
 rcases eqOk2_cases o with ⟨a,b,e1,e2⟩ | ⟨o1,o2⟩
 ·subst e1; subst e2
  rcases h1 with h1 | ⟨_,_,_,z,_⟩
  ·rcases h2 with h2 | ⟨_,_,_,z,_⟩
   ·simp only [RepD] at h1 h2
    subst h1; subst h2
    exact op_eq pins s σ H _ _ v u Q I rx ry ⟨rfl,by rw [str_dec]; exact q⟩
   ·cases z
  ·cases z
 simp only [eqOk,Bool.and_eq_true,Bool.not_eq_true'] at o1 o2
 obtain ⟨as,r1⟩:=readsT_of I d h1 rx o1.2
 obtain ⟨bs,r2⟩:=readsT_of I d' h2 ry o2.2
 exact eq_dataH r1 r2 o1.1 o2.1 hr.units ⟨.bl _,H,I,rfl,q⟩
end
namespace Q
section
variable {X:Cx}{pos p:Pos}{k:Nat}{f:Addr}{fd:FuncData}{ps:List Str}{sp:SpD}{x:Str}{e:Expr}{es:List Expr}{t:TAd}
theorem pcFH (F:FnOkH X.prog X.w X.K X.mg X.base CX0 k f fd ps (upSp X.K sp))(hr:RoomH k X.A)(hg:Gl X x)(hm:X.mg x=some (.ref f))(hk:PySem.W.keepIn X.K (.ref f)=true)(hb:L2.Binds X.K fd ps [])
  (ha:Jd (PAd X (e :: es) t))(hdb:(x == ("__debug__" : Str))=false:=by decide)(h1:isSt e=false:=by rfl)(h2:(es.all λ e=>!isSt e)=true:=by rfl) :
  Jd (PD X (.Call (.Name x p) (e :: es) [] pos) (dCall sp t)):=⟨D.pd_callH F hr hg hm hk hb ha.h hdb (star_ok e es X.env h1) (plain_ok pos X.env es h2)⟩
end
end Q
end D
namespace K17
open PySem PySem.Spec PyProof.Rows L2 D Rc Stc
abbrev C_PlaceError:Addr:=24
abbrev C_NoText:Addr:=37
abbrev C_NoDeed:Addr:=49
abbrev C_NoBack:Addr:=61
abbrev C_NoLine:Addr:=73
abbrev C_NoRow:Addr:=92
abbrev C_BadName:Addr:=111
abbrev C_BadBerths:Addr:=130
abbrev C_BadAsked:Addr:=149
abbrev C_BadShare:Addr:=168
abbrev C_BadRow:Addr:=187
abbrev C_Unknown:Addr:=206
abbrev C_Known:Addr:=225
abbrev C_Used:Addr:=244
abbrev C_TooMany:Addr:=263
abbrev C_NoRoom:Addr:=282
abbrev C_Early:Addr:=301
noncomputable abbrev N_l_thing:List Str:=["_law_bag_here", "_law_number", "_law_some"]
noncomputable def t_l_thing (sp_l_take:SpD):TSd :=
  dSeq (dAsg (dCall sp_l_take (dCons (dVar 0) (dCons (dOp rdPow (dC (.d (.int 10))) (dC (.d (.int 6)))) (dNil)))) (gN 1)) <|
  dSeq (dAsg (dLst (dCons (dVar 1) (dCons (dOp rdSub (dUn rdNeg (dVar 1)) (dC (.d (.int 1)))) (dCons (dOp rdAdd (dOp rdPow (dC (.d (.int 10))) (dC (.d (.int 40)))) (dVar 1)) (dCons (dC (.d (.str "word"))) (dCons (dC (.d (.str ""))) (dCons (dC (.d (.bool true))) (dCons (dC (.d (.bool false))) (dCons (dC (.d .none)) (dCons (dTup (dCons (dVar 1) (dCons (dC (.d (.str "a"))) (dNil)))) (dCons (dTup (dNil)) (dCons (dLst (dCons (dVar 1) (dNil))) (dCons (dLst (dNil)) (dNil)))))))))))))) (gN 2)) <|
  dSeq (dAsg (dCat (dVar 2) (dLst (dCons (dLst (dCons (dLst (dCons (dVar 1) (dNil))) (dCons (dTup (dNil)) (dNil)))) (dCons (dDict [(dVar 1,dC (.d (.int 1)))]) (dCons (dDict0) (dCons (dTup (dCons (dC (.d .none)) (dCons (dTup (dCons (dC (.d (.bool true))) (dNil))) (dNil)))) (dNil))))))) (gN 2)) <|
  dRet (dOp rdIx (dVar 2) (dCall sp_l_take (dCons (dVar 0) (dCons (dC (.d (.int 16))) (dNil)))))
noncomputable abbrev N_NoRow_init:List Str:=["self", "at"]
noncomputable abbrev N_BadName_init:List Str:=["self", "at"]
noncomputable abbrev N_BadBerths_init:List Str:=["self", "at"]
noncomputable abbrev N_BadAsked_init:List Str:=["self", "at"]
noncomputable abbrev N_BadShare_init:List Str:=["self", "at"]
noncomputable abbrev N_BadRow_init:List Str:=["self", "at"]
noncomputable abbrev N_Unknown_init:List Str:=["self", "name"]
noncomputable abbrev N_Known_init:List Str:=["self", "name"]
noncomputable abbrev N_Used_init:List Str:=["self", "name"]
noncomputable abbrev N_TooMany_init:List Str:=["self", "most"]
noncomputable abbrev N_Early_init:List Str:=["self", "until"]
noncomputable abbrev N_NoRoom_init:List Str:=["self", "first", "demanded", "room"]
noncomputable abbrev N_l_raised:List Str:=["_law_k", "_law_thing_here", "_law_word"]
noncomputable def t_l_raised (Ex:XE):TSd :=
  dSeq (dIf (dTest (dOp rdEqT (dVar 0) (dC (.d (.int 0)))))
   (dRaise C_NoRow ["at"] Ex (dCons (dVar 1) (dNil)))
   (dNext)) <|
  dSeq (dIf (dTest (dOp rdEqT (dVar 0) (dC (.d (.int 1)))))
   (dRaise C_BadName ["at"] Ex (dCons (dVar 1) (dNil)))
   (dNext)) <|
  dSeq (dIf (dTest (dOp rdEqT (dVar 0) (dC (.d (.int 2)))))
   (dRaise C_BadBerths ["at"] Ex (dCons (dVar 1) (dNil)))
   (dNext)) <|
  dSeq (dIf (dTest (dOp rdEqT (dVar 0) (dC (.d (.int 3)))))
   (dRaise C_BadAsked ["at"] Ex (dCons (dVar 1) (dNil)))
   (dNext)) <|
  dSeq (dIf (dTest (dOp rdEqT (dVar 0) (dC (.d (.int 4)))))
   (dRaise C_BadShare ["at"] Ex (dCons (dVar 1) (dNil)))
   (dNext)) <|
  dSeq (dIf (dTest (dOp rdEqT (dVar 0) (dC (.d (.int 5)))))
   (dRaise C_BadRow ["at"] Ex (dCons (dVar 1) (dNil)))
   (dNext)) <|
  dSeq (dIf (dTest (dOp rdEqT (dVar 0) (dC (.d (.int 6)))))
   (dRaise C_Unknown ["name"] Ex (dCons (dVar 1) (dNil)))
   (dNext)) <|
  dSeq (dIf (dTest (dOp rdEqT (dVar 0) (dC (.d (.int 7)))))
   (dRaise C_Known ["name"] Ex (dCons (dVar 1) (dNil)))
   (dNext)) <|
  dSeq (dIf (dTest (dOp rdEqT (dVar 0) (dC (.d (.int 8)))))
   (dRaise C_Used ["name"] Ex (dCons (dVar 1) (dNil)))
   (dNext)) <|
  dSeq (dIf (dTest (dOp rdEqT (dVar 0) (dC (.d (.int 9)))))
   (dRaise C_TooMany ["most"] Ex (dCons (dVar 1) (dNil)))
   (dNext)) <|
  dSeq (dIf (dTest (dOp rdEqT (dVar 0) (dC (.d (.int 10)))))
   (dRaise C_Early ["until"] Ex (dCons (dVar 1) (dNil)))
   (dNext)) <|
  dSeq (dIf (dTest (dOp rdEqT (dVar 0) (dC (.d (.int 11)))))
   (dRaise0 C_NoText Ex (dCons (dVar 2) (dNil)))
   (dNext)) <|
  dSeq (dIf (dTest (dOp rdEqT (dVar 0) (dC (.d (.int 12)))))
   (dRaise0 C_NoDeed Ex (dCons (dVar 2) (dNil)))
   (dNext)) <|
  dSeq (dIf (dTest (dOp rdEqT (dVar 0) (dC (.d (.int 13)))))
   (dRaise0 C_NoBack Ex (dCons (dVar 2) (dNil)))
   (dNext)) <|
  dSeq (dIf (dTest (dOp rdEqT (dVar 0) (dC (.d (.int 14)))))
   (dRaise0 C_NoLine Ex (dCons (dVar 2) (dNil)))
   (dNext)) <|
  dRaise C_NoRoom ["first", "demanded", "room"] Ex (dCons (dVar 1) (dCons (dLst (dCons (dVar 1) (dNil))) (dCons (dVar 2) (dNil))))
noncomputable abbrev N_l_kinds:List Str:=["_law_e", "_law_some"]
noncomputable def t_l_kinds:TSd :=
  dSeq (dAsg (dLst (dCons (dIsX (tabL [(C_NoRow,true),(C_BadName,false),(C_BadBerths,false),(C_BadAsked,false),(C_BadShare,false),(C_BadRow,false),(C_Unknown,false),(C_Known,false),(C_Used,false),(C_TooMany,false),(C_Early,false),(C_NoText,false),(C_NoDeed,false),(C_NoBack,false),(C_NoLine,false),(C_NoRoom,false),(C_PlaceError,false)]) (dVar 0)) (dCons (dIsX (tabL [(C_NoRow,false),(C_BadName,true),(C_BadBerths,false),(C_BadAsked,false),(C_BadShare,false),(C_BadRow,false),(C_Unknown,false),(C_Known,false),(C_Used,false),(C_TooMany,false),(C_Early,false),(C_NoText,false),(C_NoDeed,false),(C_NoBack,false),(C_NoLine,false),(C_NoRoom,false),(C_PlaceError,false)]) (dVar 0)) (dCons (dIsX (tabL [(C_NoRow,false),(C_BadName,false),(C_BadBerths,true),(C_BadAsked,false),(C_BadShare,false),(C_BadRow,false),(C_Unknown,false),(C_Known,false),(C_Used,false),(C_TooMany,false),(C_Early,false),(C_NoText,false),(C_NoDeed,false),(C_NoBack,false),(C_NoLine,false),(C_NoRoom,false),(C_PlaceError,false)]) (dVar 0)) (dCons (dIsX (tabL [(C_NoRow,false),(C_BadName,false),(C_BadBerths,false),(C_BadAsked,true),(C_BadShare,false),(C_BadRow,false),(C_Unknown,false),(C_Known,false),(C_Used,false),(C_TooMany,false),(C_Early,false),(C_NoText,false),(C_NoDeed,false),(C_NoBack,false),(C_NoLine,false),(C_NoRoom,false),(C_PlaceError,false)]) (dVar 0)) (dNil)))))) (gN 1)) <|
  dSeq (dAsg (dCat (dVar 1) (dLst (dCons (dIsX (tabL [(C_NoRow,false),(C_BadName,false),(C_BadBerths,false),(C_BadAsked,false),(C_BadShare,true),(C_BadRow,false),(C_Unknown,false),(C_Known,false),(C_Used,false),(C_TooMany,false),(C_Early,false),(C_NoText,false),(C_NoDeed,false),(C_NoBack,false),(C_NoLine,false),(C_NoRoom,false),(C_PlaceError,false)]) (dVar 0)) (dCons (dIsX (tabL [(C_NoRow,false),(C_BadName,false),(C_BadBerths,false),(C_BadAsked,false),(C_BadShare,false),(C_BadRow,true),(C_Unknown,false),(C_Known,false),(C_Used,false),(C_TooMany,false),(C_Early,false),(C_NoText,false),(C_NoDeed,false),(C_NoBack,false),(C_NoLine,false),(C_NoRoom,false),(C_PlaceError,false)]) (dVar 0)) (dCons (dIsX (tabL [(C_NoRow,false),(C_BadName,false),(C_BadBerths,false),(C_BadAsked,false),(C_BadShare,false),(C_BadRow,false),(C_Unknown,true),(C_Known,false),(C_Used,false),(C_TooMany,false),(C_Early,false),(C_NoText,false),(C_NoDeed,false),(C_NoBack,false),(C_NoLine,false),(C_NoRoom,false),(C_PlaceError,false)]) (dVar 0)) (dCons (dIsX (tabL [(C_NoRow,false),(C_BadName,false),(C_BadBerths,false),(C_BadAsked,false),(C_BadShare,false),(C_BadRow,false),(C_Unknown,false),(C_Known,true),(C_Used,false),(C_TooMany,false),(C_Early,false),(C_NoText,false),(C_NoDeed,false),(C_NoBack,false),(C_NoLine,false),(C_NoRoom,false),(C_PlaceError,false)]) (dVar 0)) (dNil))))))) (gN 1)) <|
  dSeq (dAsg (dCat (dVar 1) (dLst (dCons (dIsX (tabL [(C_NoRow,false),(C_BadName,false),(C_BadBerths,false),(C_BadAsked,false),(C_BadShare,false),(C_BadRow,false),(C_Unknown,false),(C_Known,false),(C_Used,true),(C_TooMany,false),(C_Early,false),(C_NoText,false),(C_NoDeed,false),(C_NoBack,false),(C_NoLine,false),(C_NoRoom,false),(C_PlaceError,false)]) (dVar 0)) (dCons (dIsX (tabL [(C_NoRow,false),(C_BadName,false),(C_BadBerths,false),(C_BadAsked,false),(C_BadShare,false),(C_BadRow,false),(C_Unknown,false),(C_Known,false),(C_Used,false),(C_TooMany,true),(C_Early,false),(C_NoText,false),(C_NoDeed,false),(C_NoBack,false),(C_NoLine,false),(C_NoRoom,false),(C_PlaceError,false)]) (dVar 0)) (dCons (dIsX (tabL [(C_NoRow,false),(C_BadName,false),(C_BadBerths,false),(C_BadAsked,false),(C_BadShare,false),(C_BadRow,false),(C_Unknown,false),(C_Known,false),(C_Used,false),(C_TooMany,false),(C_Early,true),(C_NoText,false),(C_NoDeed,false),(C_NoBack,false),(C_NoLine,false),(C_NoRoom,false),(C_PlaceError,false)]) (dVar 0)) (dCons (dIsX (tabL [(C_NoRow,false),(C_BadName,false),(C_BadBerths,false),(C_BadAsked,false),(C_BadShare,false),(C_BadRow,false),(C_Unknown,false),(C_Known,false),(C_Used,false),(C_TooMany,false),(C_Early,false),(C_NoText,true),(C_NoDeed,false),(C_NoBack,false),(C_NoLine,false),(C_NoRoom,false),(C_PlaceError,false)]) (dVar 0)) (dNil))))))) (gN 1)) <|
  dSeq (dAsg (dCat (dVar 1) (dLst (dCons (dIsX (tabL [(C_NoRow,false),(C_BadName,false),(C_BadBerths,false),(C_BadAsked,false),(C_BadShare,false),(C_BadRow,false),(C_Unknown,false),(C_Known,false),(C_Used,false),(C_TooMany,false),(C_Early,false),(C_NoText,false),(C_NoDeed,true),(C_NoBack,false),(C_NoLine,false),(C_NoRoom,false),(C_PlaceError,false)]) (dVar 0)) (dCons (dIsX (tabL [(C_NoRow,false),(C_BadName,false),(C_BadBerths,false),(C_BadAsked,false),(C_BadShare,false),(C_BadRow,false),(C_Unknown,false),(C_Known,false),(C_Used,false),(C_TooMany,false),(C_Early,false),(C_NoText,false),(C_NoDeed,false),(C_NoBack,true),(C_NoLine,false),(C_NoRoom,false),(C_PlaceError,false)]) (dVar 0)) (dCons (dIsX (tabL [(C_NoRow,false),(C_BadName,false),(C_BadBerths,false),(C_BadAsked,false),(C_BadShare,false),(C_BadRow,false),(C_Unknown,false),(C_Known,false),(C_Used,false),(C_TooMany,false),(C_Early,false),(C_NoText,false),(C_NoDeed,false),(C_NoBack,false),(C_NoLine,true),(C_NoRoom,false),(C_PlaceError,false)]) (dVar 0)) (dCons (dIsX (tabL [(C_NoRow,false),(C_BadName,false),(C_BadBerths,false),(C_BadAsked,false),(C_BadShare,false),(C_BadRow,false),(C_Unknown,false),(C_Known,false),(C_Used,false),(C_TooMany,false),(C_Early,false),(C_NoText,false),(C_NoDeed,false),(C_NoBack,false),(C_NoLine,false),(C_NoRoom,true),(C_PlaceError,false)]) (dVar 0)) (dNil))))))) (gN 1)) <|
  dRet (dCat (dVar 1) (dLst (dCons (dIsX (tabL [(C_NoRow,true),(C_BadName,true),(C_BadBerths,true),(C_BadAsked,true),(C_BadShare,true),(C_BadRow,true),(C_Unknown,true),(C_Known,true),(C_Used,true),(C_TooMany,true),(C_Early,true),(C_NoText,true),(C_NoDeed,true),(C_NoBack,true),(C_NoLine,true),(C_NoRoom,true),(C_PlaceError,true)]) (dVar 0)) (dNil))))
noncomputable abbrev N_l_caught:List Str:=["_law_k", "_law_thing_here", "_law_word", "_law_e"]
noncomputable def t_l_caught (sp_l_raised:SpX)(sp_l_kinds:SpD):TSd :=
  dSeq (dTry (λ Ex =>
   dDrop (dCallX sp_l_raised Ex (dCons (dVar 0) (dCons (dVar 1) (dCons (dVar 2) (dNil)))))) (dHand (tabL [(C_NoRow,true),(C_BadName,true),(C_BadBerths,true),(C_BadAsked,true),(C_BadShare,true),(C_BadRow,true),(C_Unknown,true),(C_Known,true),(C_Used,true),(C_TooMany,true),(C_Early,true),(C_NoText,true),(C_NoDeed,true),(C_NoBack,true),(C_NoLine,true),(C_NoRoom,true)]) 3
   (dRet (dCall sp_l_kinds (dCons (dVar 3) (dNil)))) (λ _ _ _ _=>False))) <|
  dRet (dLst (dNil))
noncomputable abbrev N_l_at:List Str:=["_law_k", "_law_thing_here", "_law_word", "_law_e"]
noncomputable def t_l_at (sp_l_raised:SpX):TSd :=
  dSeq (dTry (λ Ex =>
   dDrop (dCallX sp_l_raised Ex (dCons (dVar 0) (dCons (dVar 1) (dCons (dVar 2) (dNil)))))) (dHand (tabL [(C_NoRow,true),(C_BadName,false),(C_BadBerths,false),(C_BadAsked,false),(C_BadShare,false),(C_BadRow,false),(C_Unknown,false),(C_Known,false),(C_Used,false),(C_TooMany,false),(C_Early,false),(C_NoText,false),(C_NoDeed,false),(C_NoBack,false),(C_NoLine,false),(C_NoRoom,false)]) 3
   (dRet (dLst (dCons (dXFld [C_NoRow,C_BadName,C_BadBerths,C_BadAsked,C_BadShare,C_BadRow] (dVar 3) "at") (dNil)))) (dHand (tabL [(C_NoRow,false),(C_BadName,true),(C_BadBerths,false),(C_BadAsked,false),(C_BadShare,false),(C_BadRow,false),(C_Unknown,false),(C_Known,false),(C_Used,false),(C_TooMany,false),(C_Early,false),(C_NoText,false),(C_NoDeed,false),(C_NoBack,false),(C_NoLine,false),(C_NoRoom,false)]) 3
   (dRet (dLst (dCons (dXFld [C_NoRow,C_BadName,C_BadBerths,C_BadAsked,C_BadShare,C_BadRow] (dVar 3) "at") (dNil)))) (dHand (tabL [(C_NoRow,false),(C_BadName,false),(C_BadBerths,true),(C_BadAsked,false),(C_BadShare,false),(C_BadRow,false),(C_Unknown,false),(C_Known,false),(C_Used,false),(C_TooMany,false),(C_Early,false),(C_NoText,false),(C_NoDeed,false),(C_NoBack,false),(C_NoLine,false),(C_NoRoom,false)]) 3
   (dRet (dLst (dCons (dXFld [C_NoRow,C_BadName,C_BadBerths,C_BadAsked,C_BadShare,C_BadRow] (dVar 3) "at") (dNil)))) (dHand (tabL [(C_NoRow,false),(C_BadName,false),(C_BadBerths,false),(C_BadAsked,true),(C_BadShare,false),(C_BadRow,false),(C_Unknown,false),(C_Known,false),(C_Used,false),(C_TooMany,false),(C_Early,false),(C_NoText,false),(C_NoDeed,false),(C_NoBack,false),(C_NoLine,false),(C_NoRoom,false)]) 3
   (dRet (dLst (dCons (dXFld [C_NoRow,C_BadName,C_BadBerths,C_BadAsked,C_BadShare,C_BadRow] (dVar 3) "at") (dNil)))) (dHand (tabL [(C_NoRow,false),(C_BadName,false),(C_BadBerths,false),(C_BadAsked,false),(C_BadShare,true),(C_BadRow,false),(C_Unknown,false),(C_Known,false),(C_Used,false),(C_TooMany,false),(C_Early,false),(C_NoText,false),(C_NoDeed,false),(C_NoBack,false),(C_NoLine,false),(C_NoRoom,false)]) 3
   (dRet (dLst (dCons (dXFld [C_NoRow,C_BadName,C_BadBerths,C_BadAsked,C_BadShare,C_BadRow] (dVar 3) "at") (dNil)))) (dHand (tabL [(C_NoRow,false),(C_BadName,false),(C_BadBerths,false),(C_BadAsked,false),(C_BadShare,false),(C_BadRow,true),(C_Unknown,false),(C_Known,false),(C_Used,false),(C_TooMany,false),(C_Early,false),(C_NoText,false),(C_NoDeed,false),(C_NoBack,false),(C_NoLine,false),(C_NoRoom,false)]) 3
   (dRet (dLst (dCons (dXFld [C_NoRow,C_BadName,C_BadBerths,C_BadAsked,C_BadShare,C_BadRow] (dVar 3) "at") (dNil)))) (dHandN (tabL [(C_NoRow,true),(C_BadName,true),(C_BadBerths,true),(C_BadAsked,true),(C_BadShare,true),(C_BadRow,true),(C_Unknown,true),(C_Known,true),(C_Used,true),(C_TooMany,true),(C_Early,true),(C_NoText,true),(C_NoDeed,true),(C_NoBack,true),(C_NoLine,true),(C_NoRoom,true)])
   (dRet (dLst (dNil))) (λ _ _ _ _=>False))))))))) <|
  dRet (dLst (dNil))
noncomputable abbrev N_l_else:List Str:=["_law_k", "_law_thing_here", "_law_word", "_law_e"]
noncomputable def t_l_else (sp_l_raised:SpX):TSd :=
  dSeq (dTry (λ Ex =>
   dDrop (dCallX sp_l_raised Ex (dCons (dVar 0) (dCons (dVar 1) (dCons (dVar 2) (dNil)))))) (dHand (tabL [(C_NoRow,false),(C_BadName,false),(C_BadBerths,false),(C_BadAsked,false),(C_BadShare,false),(C_BadRow,false),(C_Unknown,true),(C_Known,false),(C_Used,false),(C_TooMany,false),(C_Early,false),(C_NoText,false),(C_NoDeed,false),(C_NoBack,false),(C_NoLine,false),(C_NoRoom,false)]) 3
   (dRet (dLst (dCons (dXFld [C_Unknown,C_Known,C_Used] (dVar 3) "name") (dNil)))) (dHand (tabL [(C_NoRow,false),(C_BadName,false),(C_BadBerths,false),(C_BadAsked,false),(C_BadShare,false),(C_BadRow,false),(C_Unknown,false),(C_Known,true),(C_Used,false),(C_TooMany,false),(C_Early,false),(C_NoText,false),(C_NoDeed,false),(C_NoBack,false),(C_NoLine,false),(C_NoRoom,false)]) 3
   (dRet (dLst (dCons (dXFld [C_Unknown,C_Known,C_Used] (dVar 3) "name") (dNil)))) (dHand (tabL [(C_NoRow,false),(C_BadName,false),(C_BadBerths,false),(C_BadAsked,false),(C_BadShare,false),(C_BadRow,false),(C_Unknown,false),(C_Known,false),(C_Used,true),(C_TooMany,false),(C_Early,false),(C_NoText,false),(C_NoDeed,false),(C_NoBack,false),(C_NoLine,false),(C_NoRoom,false)]) 3
   (dRet (dLst (dCons (dXFld [C_Unknown,C_Known,C_Used] (dVar 3) "name") (dNil)))) (dHand (tabL [(C_NoRow,false),(C_BadName,false),(C_BadBerths,false),(C_BadAsked,false),(C_BadShare,false),(C_BadRow,false),(C_Unknown,false),(C_Known,false),(C_Used,false),(C_TooMany,true),(C_Early,false),(C_NoText,false),(C_NoDeed,false),(C_NoBack,false),(C_NoLine,false),(C_NoRoom,false)]) 3
   (dRet (dLst (dCons (dXFld [C_TooMany] (dVar 3) "most") (dNil)))) (dHand (tabL [(C_NoRow,false),(C_BadName,false),(C_BadBerths,false),(C_BadAsked,false),(C_BadShare,false),(C_BadRow,false),(C_Unknown,false),(C_Known,false),(C_Used,false),(C_TooMany,false),(C_Early,true),(C_NoText,false),(C_NoDeed,false),(C_NoBack,false),(C_NoLine,false),(C_NoRoom,false)]) 3
   (dRet (dLst (dCons (dXFld [C_Early] (dVar 3) "until") (dNil)))) (dHand (tabL [(C_NoRow,false),(C_BadName,false),(C_BadBerths,false),(C_BadAsked,false),(C_BadShare,false),(C_BadRow,false),(C_Unknown,false),(C_Known,false),(C_Used,false),(C_TooMany,false),(C_Early,false),(C_NoText,false),(C_NoDeed,false),(C_NoBack,false),(C_NoLine,false),(C_NoRoom,true)]) 3
   (dRet (dLst (dCons (dXFld [C_NoRoom] (dVar 3) "first") (dCons (dXFld [C_NoRoom] (dVar 3) "demanded") (dCons (dXFld [C_NoRoom] (dVar 3) "room") (dNil)))))) (dHandN (tabL [(C_NoRow,true),(C_BadName,true),(C_BadBerths,true),(C_BadAsked,true),(C_BadShare,true),(C_BadRow,true),(C_Unknown,true),(C_Known,true),(C_Used,true),(C_TooMany,true),(C_Early,true),(C_NoText,true),(C_NoDeed,true),(C_NoBack,true),(C_NoLine,true),(C_NoRoom,true)])
   (dRet (dLst (dNil))) (λ _ _ _ _=>False))))))))) <|
  dRet (dLst (dNil))
noncomputable abbrev N_l_any:List Str:=["_law_e"]
noncomputable def t_l_any (sp_l_kinds:SpD):TSd :=
  dTry (λ Ex =>
   dRaise0 C_PlaceError Ex (dCons (dC (.d (.str "any"))) (dNil))) (dHand (tabL [(C_PlaceError,true)]) 0
   (dRet (dOp rdEqT (dCall sp_l_kinds (dCons (dVar 0) (dNil))) (dCat (dOp rdRep (dLstM (dCons (dC (.d (.bool false))) (dNil))) (dC (.d (.int 16)))) (dLst (dCons (dC (.d (.bool true))) (dNil)))))) (λ _ _ _ _=>False))
noncomputable abbrev N_law:List Str:=["_law_script", "_law_bag_here", "_law_turn", "_law_k", "_law_thing_here", "_law_word", "_law_due"]
noncomputable def t_law (sp_l_bag:SpD)(sp_l_thing:SpD)(sp_l_take:SpD)(sp_l_caught:SpD)(sp_l_at:SpD)(sp_l_else:SpD)(sp_l_any:SpD):TSd :=
  dSeq (dAsg (dCall sp_l_bag (dCons (dVar 0) (dNil))) (gN 1)) <|
  dSeq (dFor (dRng1 (dCons (dC (.d (.int 2))) (dNil))) (gN 2)
   (dFor (dRng1 (dCons (dC (.d (.int 16))) (dNil))) (gN 3)
    (dSeq (dAsg (dCall sp_l_thing (dCons (dVar 1) (dNil))) (gN 4)) <|
    dSeq (dAsg (dOp rdIx (dLst (dCons (dC (.d (.str ""))) (dCons (dC (.d (.str "a"))) (dCons (dC (.d (.str "no"))) (dCons (dC (.d (.str "word word"))) (dNil)))))) (dCall sp_l_take (dCons (dVar 1) (dCons (dC (.d (.int 4))) (dNil))))) (gN 5)) <|
    dSeq (dIf (dTest (dOp rdNeT (dCall sp_l_caught (dCons (dVar 3) (dCons (dVar 4) (dCons (dVar 5) (dNil))))) (dCat (dLC (dRng1 (dCons (dC (.d (.int 16))) (dNil))) (gN 0) (dYes) (dOp rdEqT (dVar 1) (dVar 0)) 1 [3]) (dLst (dCons (dC (.d (.bool true))) (dNil))))))
     (dRet (dC (.d (.bool false))))
     (dNext)) <|
    dSeq (dAsg (dOp rdRep (dLstM (dCons (dVar 4) (dNil))) (dCB rdInt (dCons (dOp rdLt (dVar 3) (dC (.d (.int 11)))) (dNil)))) (gN 6)) <|
    dSeq (dIf (dTest (dOp rdEqT (dVar 3) (dC (.d (.int 15)))))
     (dAsg (dLst (dCons (dVar 4) (dCons (dLst (dCons (dVar 4) (dNil))) (dCons (dVar 5) (dNil))))) (gN 6))
     (dNext)) <|
    dIf (dTest (dOp rdNeT (dCB rdReprK (dCons (dCat (dCall sp_l_at (dCons (dVar 3) (dCons (dVar 4) (dCons (dVar 5) (dNil))))) (dCall sp_l_else (dCons (dVar 3) (dCons (dVar 4) (dCons (dVar 5) (dNil)))))) (dNil))) (dCB rdReprK (dCons (dVar 6) (dNil)))))
     (dRet (dC (.d (.bool false))))
     (dNext)))) <|
  dRet (dCall sp_l_any dNil)
theorem int_ok2 (a b:Int):eqOk2 (.int a) (.int b)=true:=rfl
noncomputable abbrev cls:List Addr:=[C_NoRow,C_BadName,C_BadBerths,C_BadAsked,C_BadShare,C_BadRow,C_Unknown,C_Known,C_Used,C_TooMany,C_Early,C_NoText,C_NoDeed,C_NoBack,C_NoLine,C_NoRoom]
noncomputable def clk (k:Int):Addr:=cls.getD k.toNat 0
noncomputable def xfs (k:Int)(d:PyData)(z:Str):List (Str×W) :=
 if k < 6 then [("at",.d d)] else if k < 9 then [("name",.d d)] else if k=9 then [("most",.d d)] else if k=10 then [("until",.d d)] else if k < 15 then [] else [("first",.d d),("demanded",.d (.list [d])),("room",.d (.str z))]
theorem k16 {k:Int}{P:Int->Prop}(h0:0<=k)(h1:k < 16)(a0:P 0)(a1:P 1)(a2:P 2)(a3:P 3)(a4:P 4)(a5:P 5)(a6:P 6)(a7:P 7)(a8:P 8)(a9:P 9)(a10:P 10)(a11:P 11)(a12:P 12)(a13:P 13)(a14:P 14)(a15:P 15):P k:=by
 have:k=0\/k=1\/k=2\/k=3\/k=4\/k=5\/k=6\/k=7\/k=8\/k=9\/k=10\/k=11\/k=12\/k=13\/k=14\/k=15:=by omega
 rcases this with rfl | rfl | rfl | rfl | rfl | rfl | rfl | rfl | rfl | rfl | rfl | rfl | rfl | rfl | rfl | rfl <;> assumption
noncomputable def sp_l_raised:SpX:=λ ws M Q E=>∃ (k:Int) (d:PyData) (z:Str),ws=[.d (.int k),.d d,.d (.str z)]/\0<=k/\k < 16/\∀ a,M a=none->E a (updM M a (.exc (clk k) (xfs k d z)))
theorem len_l_raised:∀ ws M Q E,sp_l_raised ws M Q E->ws.length=3:=by rintro ws M Q E ⟨k,d,z,rfl,_⟩; rfl
theorem ifk {τ:DS}{M:MH}{Dd:Ed}{k i:Int}{A B:TSd}(h0:τ[0]? = some (some (.d (.int k))))(ha:k=i->∀ D',A D' τ M)(hb:k≠i->B Dd τ M) :
  dSeq (dIf (dTest (dOp rdEqT (dVar 0) (dC (.d (.int i))))) A dNext) B Dd τ M:=by
 refine ⟨_,h0,_,_,.d,.d,int_ok2 _ _,_,rfl,?_⟩
 refine ite_b (λ e=>ha ?_ _) (λ e=>hb ?_)
 ·rw [PyData.eqv] at e; exact of_decide_eq_true e
 ·rw [PyData.eqv] at e; exact of_decide_eq_false e
theorem rz1 {C:Addr}{f:Str}{E:XE}{Dd:Ed}{τ:DS}{M:MH}{d:PyData}(h1:τ[1]? = some (some (.d d)))(h:∀ a,M a=none->E a τ (updM M a (.exc C [(f,.d d)]))):dRaise C [f] E (dCons (dVar 1) dNil) Dd τ M :=
 ⟨_,h1,rfl,by simp,h⟩
theorem rz0 {C:Addr}{E:XE}{Dd:Ed}{τ:DS}{M:MH}{z:Str}(h1:τ[2]? = some (some (.d (.str z))))(h:∀ a,M a=none->E a τ (updM M a (.exc C []))):dRaise0 C E (dCons (dVar 2) dNil) Dd τ M :=
 ⟨_,h1,by simp,h⟩
theorem read_l_raised:∀ ws M Q E,sp_l_raised ws M Q E->t_l_raised (λ a _ M=>E a M) { nx:=λ _ M'=>Q (.d .none) M',rt:=Q } (startD N_l_raised ws) M:=by
 rintro ws M Q E ⟨k,d,z,rfl,k0,k1,h⟩
 refine ifk rfl (λ e D'=>rz1 rfl (by subst e; exact h)) λ n0=>ifk rfl (λ e D'=>rz1 rfl (by subst e; exact h)) λ n1=>ifk rfl (λ e D'=>rz1 rfl (by subst e; exact h)) λ n2 =>
  ifk rfl (λ e D'=>rz1 rfl (by subst e; exact h)) λ n3=>ifk rfl (λ e D'=>rz1 rfl (by subst e; exact h)) λ n4=>ifk rfl (λ e D'=>rz1 rfl (by subst e; exact h)) λ n5 =>
  ifk rfl (λ e D'=>rz1 rfl (by subst e; exact h)) λ n6=>ifk rfl (λ e D'=>rz1 rfl (by subst e; exact h)) λ n7=>ifk rfl (λ e D'=>rz1 rfl (by subst e; exact h)) λ n8 =>
  ifk rfl (λ e D'=>rz1 rfl (by subst e; exact h)) λ n9=>ifk rfl (λ e D'=>rz1 rfl (by subst e; exact h)) λ n10=>ifk rfl (λ e D'=>rz0 rfl (by subst e; exact h)) λ n11 =>
  ifk rfl (λ e D'=>rz0 rfl (by subst e; exact h)) λ n12=>ifk rfl (λ e D'=>rz0 rfl (by subst e; exact h)) λ n13=>ifk rfl (λ e D'=>rz0 rfl (by subst e; exact h)) λ n14=>?_
 obtain rfl:k=15:=by omega
 exact ⟨_,rfl,_,rfl,[d],rfl,few (by simp),_,rfl,rfl,by simp,h⟩
noncomputable abbrev cls':List Addr:=cls++[C_PlaceError]
theorem tb {C:Addr}{l:List (Addr×Bool)}(b:Addr->Bool)(hC:C∈cls')(h:(cls'.all λ C=>tabL l C == some (b C))=true):tabL l C=some (b C):=by
 have:=List.all_eq_true.mp h C hC
 exact beq_iff_eq.mp this
noncomputable def kinds (C:Addr):List PyData:=cls.map (λ c=>.bool (C == c))++[.bool true]
noncomputable def sp_l_kinds:SpD:=λ ws M Q=>∃ a C fs,ws=[.m a]/\M a=some (.exc C fs)/\C∈cls'/\Q (.d (.list (kinds C))) M
theorem len_l_kinds:∀ ws M Q,sp_l_kinds ws M Q->ws.length=1:=by rintro ws M Q ⟨a,C,fs,rfl,_⟩; rfl
theorem read_l_kinds:∀ ws M Q,sp_l_kinds ws M Q->t_l_kinds { nx:=λ _ M'=>Q (.d .none) M',rt:=Q } (startD N_l_kinds ws) M:=by
 rintro ws M Q ⟨a,C,fs,rfl,hm,hC,h⟩
 refine ⟨_,rfl,a,C,fs,_,rfl,hm,tb (· == C_NoRow) hC (by decide),⟨_,rfl,a,C,fs,_,rfl,hm,tb (· == C_BadName) hC (by decide),⟨_,rfl,a,C,fs,_,rfl,hm,tb (· == C_BadBerths) hC (by decide),⟨_,rfl,a,C,fs,_,rfl,hm,tb (· == C_BadAsked) hC (by decide),_,rfl,few (by simp),?_⟩⟩⟩⟩
 refine ⟨_,rfl,⟨_,rfl,a,C,fs,_,rfl,hm,tb (· == C_BadShare) hC (by decide),⟨_,rfl,a,C,fs,_,rfl,hm,tb (· == C_BadRow) hC (by decide),⟨_,rfl,a,C,fs,_,rfl,hm,tb (· == C_Unknown) hC (by decide),⟨_,rfl,a,C,fs,_,rfl,hm,tb (· == C_Known) hC (by decide),_,rfl,few (by simp),_,_,.d,.d,few (by simp),?_⟩⟩⟩⟩⟩
 refine ⟨_,rfl,⟨_,rfl,a,C,fs,_,rfl,hm,tb (· == C_Used) hC (by decide),⟨_,rfl,a,C,fs,_,rfl,hm,tb (· == C_TooMany) hC (by decide),⟨_,rfl,a,C,fs,_,rfl,hm,tb (· == C_Early) hC (by decide),⟨_,rfl,a,C,fs,_,rfl,hm,tb (· == C_NoText) hC (by decide),_,rfl,few (by simp),_,_,.d,.d,few (by simp),?_⟩⟩⟩⟩⟩
 refine ⟨_,rfl,⟨_,rfl,a,C,fs,_,rfl,hm,tb (· == C_NoDeed) hC (by decide),⟨_,rfl,a,C,fs,_,rfl,hm,tb (· == C_NoBack) hC (by decide),⟨_,rfl,a,C,fs,_,rfl,hm,tb (· == C_NoLine) hC (by decide),⟨_,rfl,a,C,fs,_,rfl,hm,tb (· == C_NoRoom) hC (by decide),_,rfl,few (by simp),_,_,.d,.d,few (by simp),?_⟩⟩⟩⟩⟩
 exact ⟨_,rfl,⟨_,rfl,a,C,fs,_,rfl,hm,tb (λ _=>true) hC (by decide),_,rfl,few (by simp),_,_,.d,.d,few (by simp),h⟩⟩
theorem tbc {C:Addr}{l:List (Addr×Bool)}(b:Addr->Bool)(hC:C∈cls)(h:(cls.all λ C=>tabL l C == some (b C))=true):tabL l C=some (b C):=by
 have:=List.all_eq_true.mp h C hC
 exact beq_iff_eq.mp this
theorem clk_mem {k:Int}(h0:0<=k)(h1:k < 16):clk k∈cls:=by
 refine k16 (P:=λ k=>clk k∈cls) h0 h1 ?_ ?_ ?_ ?_ ?_ ?_ ?_ ?_ ?_ ?_ ?_ ?_ ?_ ?_ ?_ ?_ <;> decide
theorem cls_in {C:Addr}(h:C∈cls):C∈cls':=List.mem_append_left _ h
noncomputable def sp_l_caught:SpD:=λ ws M Q=>∃ (k:Int) (d:PyData) (z:Str),ws=[.d (.int k),.d d,.d (.str z)]/\0<=k/\k < 16/\∀ M',Ext M M'->Q (.d (.list (kinds (clk k)))) M'
theorem len_l_caught:∀ ws M Q,sp_l_caught ws M Q->ws.length=3:=by rintro ws M Q ⟨k,d,z,rfl,_⟩; rfl
theorem read_l_caught:∀ ws M Q,sp_l_caught ws M Q->t_l_caught sp_l_raised sp_l_kinds { nx:=λ _ M'=>Q (.d .none) M',rt:=Q } (startD N_l_caught ws) M:=by
 rintro ws M Q ⟨k,d,z,rfl,k0,k1,h⟩
 have hC:=clk_mem k0 k1
 exact ⟨_,rfl,_,rfl,_,rfl,k,d,z,rfl,k0,k1,λ a ha=>⟨_,_,true,updM_same,tbc (λ _=>true) hC (by decide),iteT ⟨_,rfl,a,_,_,rfl,updM_same,cls_in hC,h _ (Ext.new ha)⟩⟩⟩
noncomputable def atL (k:Int)(d:PyData):List PyData:=if k < 6 then [d] else []
noncomputable def sp_l_at:SpD:=λ ws M Q=>∃ (k:Int) (d:PyData) (z:Str),ws=[.d (.int k),.d d,.d (.str z)]/\0<=k/\k < 16/\∀ M',Ext M M'->Q (.d (.list (atL k d))) M'
theorem len_l_at:∀ ws M Q,sp_l_at ws M Q->ws.length=3:=by rintro ws M Q ⟨k,d,z,rfl,_⟩; rfl
theorem read_l_at:∀ ws M Q,sp_l_at ws M Q->t_l_at sp_l_raised { nx:=λ _ M'=>Q (.d .none) M',rt:=Q } (startD N_l_at ws) M:=by
 rintro ws M Q ⟨k,d,z,rfl,k0,k1,h⟩
 refine k16 (P:=λ k=>(∀ M',Ext M M'->Q (.d (.list (atL k d))) M')->t_l_at sp_l_raised { nx:=λ _ M'=>Q (.d .none) M',rt:=Q } (startD N_l_at [.d (.int k),.d d,.d (.str z)]) M) k0 k1 ?_ ?_ ?_ ?_ ?_ ?_ ?_ ?_ ?_ ?_ ?_ ?_ ?_ ?_ ?_ ?_ h
 all_goals
  intro h
  refine ⟨_,rfl,_,rfl,_,rfl,_,d,z,rfl,by decide,by decide,λ a ha=>?_⟩
  repeat (first
   | exact ⟨_,_,true,updM_same,rfl,iteT ⟨_,rfl,a,_,_,_,rfl,updM_same,by decide,rfl,_,rfl,few (by simp),h _ (Ext.new ha)⟩⟩
   | exact ⟨_,_,true,updM_same,rfl,iteT ⟨_,rfl,few (by simp),h _ (Ext.new ha)⟩⟩
   | refine ⟨_,_,false,updM_same,rfl,iteF ?_⟩)
noncomputable def elL (k:Int)(d:PyData)(z:Str):List PyData:=if k < 6 then [] else if k < 11 then [d] else if k < 15 then [] else [d,.list [d],.str z]
noncomputable def sp_l_else:SpD:=λ ws M Q=>∃ (k:Int) (d:PyData) (z:Str),ws=[.d (.int k),.d d,.d (.str z)]/\0<=k/\k < 16/\∀ M',Ext M M'->Q (.d (.list (elL k d z))) M'
theorem len_l_else:∀ ws M Q,sp_l_else ws M Q->ws.length=3:=by rintro ws M Q ⟨k,d,z,rfl,_⟩; rfl
theorem read_l_else:∀ ws M Q,sp_l_else ws M Q->t_l_else sp_l_raised { nx:=λ _ M'=>Q (.d .none) M',rt:=Q } (startD N_l_else ws) M:=by
 rintro ws M Q ⟨k,d,z,rfl,k0,k1,h⟩
 refine k16 (P:=λ k=>(∀ M',Ext M M'->Q (.d (.list (elL k d z))) M')->t_l_else sp_l_raised { nx:=λ _ M'=>Q (.d .none) M',rt:=Q } (startD N_l_else [.d (.int k),.d d,.d (.str z)]) M) k0 k1 ?_ ?_ ?_ ?_ ?_ ?_ ?_ ?_ ?_ ?_ ?_ ?_ ?_ ?_ ?_ ?_ h
 all_goals
  intro h
  refine ⟨_,rfl,_,rfl,_,rfl,_,d,z,rfl,by decide,by decide,λ a ha=>?_⟩
  repeat (first
   | exact ⟨_,_,true,updM_same,rfl,iteT ⟨_,rfl,a,_,_,_,rfl,updM_same,by decide,rfl,_,rfl,few (by simp),h _ (Ext.new ha)⟩⟩
   | exact ⟨_,_,true,updM_same,rfl,iteT ⟨_,rfl,few (by simp),h _ (Ext.new ha)⟩⟩
   | exact ⟨_,_,true,updM_same,rfl,iteT ⟨_,rfl,a,_,_,_,rfl,updM_same,by decide,rfl,_,rfl,a,_,_,_,rfl,updM_same,by decide,rfl,_,rfl,a,_,_,_,rfl,updM_same,by decide,rfl,_,rfl,few (by simp),h _ (Ext.new ha)⟩⟩
   | refine ⟨_,_,false,updM_same,rfl,iteF ?_⟩)
noncomputable def sp_l_any:SpD:=λ ws M Q=>ws=[]/\∀ M',Q (.d (.bool true)) M'
theorem len_l_any:∀ ws M Q,sp_l_any ws M Q->ws.length=0:=by rintro ws M Q ⟨rfl,_⟩; rfl
theorem read_l_any:∀ ws M Q,sp_l_any ws M Q->t_l_any sp_l_kinds { nx:=λ _ M'=>Q (.d .none) M',rt:=Q } (startD N_l_any ws) M:=by
 rintro ws M Q ⟨rfl,h⟩
 refine ⟨by simp,λ a ha=>⟨_,_,true,updM_same,rfl,iteT ⟨_,rfl,a,_,_,rfl,updM_same,by decide,few (by simp),λ p hp=>⟨p,[.d (.bool false)],16,rfl,rfl,updM_same,by decide,by decide,by simp,λ q hq=>?_⟩⟩⟩⟩
 refine ⟨_,rfl,few (by simp),_,_,.m (ds:=List.replicate 16 (.bool false)) (updM_same.trans rfl),.d,few (by simp),_,_,.d,.d,rfl,?_⟩
 exact h _
noncomputable def things (n:Int):List PyData:=[.int n,.int (-n - 1),.int (10 ^ 40+n),.str "word",.str "",.bool true,.bool false,.none,.tuple [.int n,.str "a"],.tuple [],.list [.int n],.list []]++[.list [.list [.int n],.tuple []],.dict [(.int n,.int 1)],.dict [],.tuple [.none,.tuple [.bool true]]]
structure Thing (d:PyData):Prop where
 fine:fineD d=true
 big:big d<=20000
 dep:d.depth<=10
 flat:dflat d=true
theorem log_ok {i:Int}(h:i.natAbs < 2 ^ 200):i.natAbs.log2 < 1920:=by
 by_cases e:i.natAbs=0
 ·rw [e]; decide
 ·have:=(Nat.log2_lt e).mpr h
  omega
theorem thing_ok {n:Int}(h0:0<=n)(h1:n < 1000000){d:PyData}(h:d∈things n):Thing d:=by
 have q:(10 ^ 40+1000001:Nat) < 2 ^ 200:=by decide
 have a1:ascB "word" = true:=by decide +kernel
 have a2:ascB "" = true:=by decide +kernel
 have a3:ascB "a" = true:=by decide +kernel
 have l1:n.natAbs.log2 < 1920:=log_ok (by omega)
 have l2:(-n - 1).natAbs.log2 < 1920:=log_ok (by omega)
 have l3:(10 ^ 40+n).natAbs.log2 < 1920:=log_ok (by omega)
 simp only [things,List.cons_append,List.nil_append,List.mem_cons,List.not_mem_nil,or_false] at h
 rcases h with rfl | rfl | rfl | rfl | rfl | rfl | rfl | rfl | rfl | rfl | rfl | rfl | rfl | rfl | rfl | rfl <;>
  exact ⟨by simp only [fineD,fineA,fineK,l1,l2,l3,a1,a2,a3,show (1:Int).natAbs.log2 < 1920 by decide,decide_true,Bool.and_self,Bool.and_true],by simp [big,bigA,bigK] <;> decide,by simp [PyData.depth,PyData.depthAll,PyData.depthKv],by simp [dflat,dflatA,flatD]⟩
noncomputable def sp_l_thing:SpD:=λ ws M Q=>∃ p,ws=[.m p]/\Bag M p/\∀ d M',Thing d->Bag M' p->Q (.d d) M'
theorem len_l_thing:∀ ws M Q,sp_l_thing ws M Q->ws.length=1:=by rintro ws M Q ⟨p,rfl,_⟩; rfl
theorem read_l_thing:∀ ws M Q,sp_l_thing ws M Q->t_l_thing sp_l_take { nx:=λ _ M'=>Q (.d .none) M',rt:=Q } (startD N_l_thing ws) M:=by
 rintro ws M Q ⟨p,rfl,b,h⟩
 refine ⟨_,rfl,_,_,rfl,rfl,⟨by decide,by decide,by decide⟩,p,10 ^ 6,rfl,b,by decide,by decide,λ n M1 n0 n1 b1 f1=>?_⟩
 refine ⟨_,rfl,_,rfl,_,rfl,_,_,rfl,rfl,_,_,rfl,rfl,⟨by decide,by decide,by decide⟩,_,rfl,.inl ⟨_,_,rfl,rfl,_,rfl,_,rfl,few (by simp),_,rfl,few (by simp),_,rfl,_,rfl,few (by simp),_,rfl,few (by simp),_,rfl,few (by simp),?_⟩⟩
 refine ⟨_,rfl,_,rfl,_,rfl,few (by simp),_,rfl,few (by simp),_,rfl,few (by simp),λ q hq=>⟨_,rfl,rfl,[(.inl n,.int 1)],rfl,by simp,by simp,_,rfl,few (by simp),_,rfl,few (by simp),_,rfl,few (by simp),_,_,.d,.d,few (by simp),?_⟩⟩
 refine ⟨_,rfl,_,rfl,p,16,rfl,b1,by decide,by decide,λ r M2 r0 r1 b2 f2=>?_⟩
 obtain ⟨d,hd,hm⟩:=ix_at (M:=M2) (ds:=things n) r0 (by show r < 16; exact r1)
 exact ⟨_,_,rfl,hd,rfl,h _ _ (thing_ok n0 n1 hm) b2⟩
theorem dseq_all {a b:TSd}{E:Ed}{τ:DS}{M:MH}(P:DS->MH->Prop)(hb:∀ τ' M',P τ' M'->b E τ' M')(ha:(∀ τ' M',P τ' M'->b E τ' M')->dSeq a b E τ M):dSeq a b E τ M:=ha hb
noncomputable def due (k:Int)(d:PyData)(z:Str):List PyData:=atL k d++elL k d z
theorem due_lt {k:Int}(k0:0<=k)(k1:k < 16)(h:k≠15)(d:PyData)(z:Str):(List.replicate (if decide (k < 11)=true then (1:Int) else 0).toNat [W.d d]).flatten=(due k d z).map W.d:=by
 refine k16 (P:=λ k=>k≠15->(List.replicate (if decide (k < 11)=true then (1:Int) else 0).toNat [W.d d]).flatten=(due k d z).map W.d) k0 k1 ?_ ?_ ?_ ?_ ?_ ?_ ?_ ?_ ?_ ?_ ?_ ?_ ?_ ?_ ?_ ?_ h
 all_goals first | (intro _; rfl) | (intro h; exact absurd rfl h)
theorem due_ok {k:Int}{d:PyData}{z:Str}(k0:0<=k)(k1:k < 16)(h:Thing d)(hz:ascB z=true)(hl:z.length<=20):reprOkK (.list (due k d z))=true:=by
 have h1:=h.big
 have h2:=h.dep
 refine k16 (P:=λ k=>reprOkK (.list (due k d z))=true) k0 k1 ?_ ?_ ?_ ?_ ?_ ?_ ?_ ?_ ?_ ?_ ?_ ?_ ?_ ?_ ?_ ?_
 all_goals
  refine reprK_ok ?_ ?_ ?_ ?_
  ·first
    | (show fineA [d]=true; simp only [fineA,h.fine,Bool.and_true])
    | (show fineA []=true; rfl)
    | (show fineA [d,.list [d],.str z]=true; simp only [fineA,fineD,h.fine,hz,Bool.and_true])
  ·first
    | (show bigA [d]+2<=_; simp only [bigA]; omega)
    | (show bigA []+2<=_; simp only [bigA]; omega)
    | (show bigA [d,.list [d],.str z]+2<=_; simp only [bigA,D.big]; omega)
  ·first
    | (show PyData.depth (.list [d])<=_; simp only [PyData.depth,PyData.depthAll]; omega)
    | (show PyData.depth (.list [])<=_; simp only [PyData.depth,PyData.depthAll]; omega)
    | (show PyData.depth (.list [d,.list [d],.str z])<=_; simp only [PyData.depth,PyData.depthAll]; omega)
  ·first
    | (show dflatA [d]=true; simp only [dflatA,h.flat,Bool.and_true])
    | (show dflatA []=true; rfl)
    | (show dflatA [d,.list [d],.str z]=true; simp only [dflatA,dflat,h.flat,Bool.and_true])
theorem kin_ok {k:Int}(k0:0<=k)(k1:k < 16):eqOk2 (.list (kinds (clk k))) (.list (kinds (clk k)))=true/\PyData.eqv (.list (kinds (clk k))) (.list (kinds (clk k)))=true:=by
 refine k16 (P:=λ k=>eqOk2 (.list (kinds (clk k))) (.list (kinds (clk k)))=true/\PyData.eqv (.list (kinds (clk k))) (.list (kinds (clk k)))=true) k0 k1 ?_ ?_ ?_ ?_ ?_ ?_ ?_ ?_ ?_ ?_ ?_ ?_ ?_ ?_ ?_ ?_ <;> decide +kernel
noncomputable def isK (k:Int):W->Option PyData
 | .d (.int j)=>some (.bool (PyData.eqv (.int k) (.int j)))
 | _=>none
theorem kin_is {k:Int}(k0:0<=k)(k1:k < 16):(rangeW 0 (16:Int).toNat).filterMap (isK k)++[.bool true]=kinds (clk k):=by
 refine k16 (P:=λ k=>(rangeW 0 (16:Int).toNat).filterMap (isK k)++[.bool true]=kinds (clk k)) k0 k1 ?_ ?_ ?_ ?_ ?_ ?_ ?_ ?_ ?_ ?_ ?_ ?_ ?_ ?_ ?_ ?_ <;> rfl
noncomputable def sp_law:SpD:=λ ws M Q=>∃ ns:List Int,ws=[.d (.list (ns.map PyData.int))]/\ns.length<=63/\∀ M',Q (.d (.bool true)) M'
theorem len_law:∀ ws M Q,sp_law ws M Q->ws.length=1:=by rintro ws M Q ⟨d,rfl,_⟩; rfl
theorem law_read:∀ ns:List Int,ns.length<=63->sp_law [.d (.list (ns.map PyData.int))] (λ _=>none) (λ w _=>w=.d (.bool true)):=λ ns h=>⟨ns,rfl,h,λ _=>rfl⟩
inductive LawP (p:Addr) (τ:DS) (M:MH):Prop
 | mk (x0 x2 x3 x4 x5 x6:Option W) (b:Bag M p) (e:τ=[x0,some (.m p),x2,x3,x4,x5,x6]):LawP p τ M
inductive DueP (p:Addr) (k:Int) (d:PyData) (z:Str) (τ:DS) (M:MH):Prop
 | mk (x0 x2:Option W) (w:W) (b:Bag M p) (g:DatW M w (.list (due k d z))) (e:τ=[x0,some (.m p),x2,some (.d (.int k)),some (.d d),some (.d (.str z)),some w]):DueP p k d z τ M
theorem read_law:∀ ws M Q,sp_law ws M Q->t_law sp_l_bag sp_l_thing sp_l_take sp_l_caught sp_l_at sp_l_else sp_l_any { nx:=λ _ M'=>Q (.d .none) M',rt:=Q } (startD N_law ws) M:=by
 rintro ws M Q ⟨ns,rfl,hl,h⟩
 refine ⟨_,rfl,ns,rfl,by omega,λ p M1 hp f1 b1=>?_⟩
 refine ⟨2,rfl,by decide,by decide,λ _ τ M=>LawP p τ M,⟨_,_,_,_,_,_,b1,rfl⟩,λ i w τ M2 hw P=>?_,λ τ M2 P=>⟨rfl,λ M3=>h M3⟩⟩
 obtain ⟨x0,x2,x3,x4,x5,x6,b2,rfl⟩:=P
 refine ⟨16,rfl,by decide,by decide,λ _ τ M=>LawP p τ M,⟨_,_,_,_,_,_,b2,rfl⟩,λ i w' τ M3 hw' P=>?_,λ τ M3 P=>P⟩
 obtain ⟨x0,x2,x3,x4,x5,x6,b3,rfl⟩:=P
 obtain ⟨hi,rfl⟩:=rng0_at hw'
 have k0:(0:Int)<=(i:Int):=by omega
 have k1:(i:Int) < 16:=by have:i < 16:=hi; omega
 generalize (i:Int)=k at k0 k1
 refine ⟨_,rfl,p,rfl,b3,λ d M4 hd b4=>?_⟩
 refine ⟨_,rfl,few (by simp),_,rfl,p,4,rfl,b4,by decide,by decide,λ r M5 r0 r1 b5 f5=>?_⟩
 obtain ⟨z,ez,hz⟩:=ix_str_in (M:=M5) (zs:=["", "a", "no", "word word"]) r0 (by show r < 4; exact r1)
 have za:ascB z=true/\z.length<=20:=by
  simp only [List.mem_cons,List.not_mem_nil,or_false] at hz
  rcases hz with rfl | rfl | rfl | rfl <;> decide +kernel
 refine ⟨_,_,rfl,ez,rfl,?_⟩
 clear hz ez
 refine ⟨_,rfl,_,rfl,_,rfl,k,d,z,rfl,k0,k1,λ M6 x6'=>?_⟩
 refine ⟨16,rfl,by decide,by decide,lc_pure (Q:=λ ds M'=>dLst (dCons (dC (.d (.bool true))) dNil) _ M' _) (isK k) (few (by simp [rangeW])) (λ w hw P' q=>?_) ?_⟩
 ·obtain ⟨j,_,rfl⟩:=List.mem_map.mp hw
  show dOp rdEqT (dVar 1) (dVar 0) _ _ _
  exact ⟨_,rfl,_,rfl,_,_,.d,.d,int_ok2 _ _,_,rfl,rfl,q⟩
 have hz16:((rangeW 0 (16:Int).toNat).filterMap (isK k)).length<=16:=Nat.le_trans (List.length_filterMap_le _ _) (by simp [rangeW])
 refine ⟨_,rfl,few (by simp),_,_,.d,.d,few (by simp only [List.length_cons,List.length_nil]; omega),?_⟩
 rw [kin_is k0 k1]
 refine ⟨_,_,.d,.d,(kin_ok k0 k1).1,_,rfl,?_⟩
 rw [(kin_ok k0 k1).2]
 have b6:=Ext.bag x6' b5
 refine iteF ⟨_,rfl,few (by simp),λ q hq=>⟨_,rfl,_,_,rfl,rfl,.inr ⟨_,rfl,q,_,_,rfl,rfl,updM_same,by split <;> decide,by split <;> decide,by simp,λ q' hq'=>?_⟩⟩⟩
 have b7:Bag (updM (updM M6 q (.lst [.d d])) q' (.lst (List.replicate (if decide (k < 11)=true then (1:Int) else 0).toNat [W.d d]).flatten)) p:=Ext.bag ((Ext.new hq).trans (Ext.new hq')) b6
 dsimp only [gN]
 refine dseq_all (λ τ M=>DueP p k d z τ M) (λ τ M' P=>?_) (λ rest=>?_)
 ·obtain ⟨x0,x2,w,b,g,rfl⟩:=P
  have dl:(atL k d).length+(elL k d z).length<=1000:=by
   have h1:(atL k d).length<=1:=by unfold atL; split <;> simp
   have h2:(elL k d z).length<=3:=by
    unfold elL
    by_cases e1:k < 6
    ·rw [if_pos e1]; simp
    ·rw [if_neg e1]
     by_cases e2:k < 11
     ·rw [if_pos e2]; simp
     ·rw [if_neg e2]
      by_cases e3:k < 15
      ·rw [if_pos e3]; simp
      ·rw [if_neg e3]; simp
   omega
  have ok:=due_ok (k:=k) (z:=z) k0 k1 hd za.1 za.2
  refine ⟨_,rfl,_,rfl,_,rfl,k,d,z,rfl,k0,k1,λ M7 x7=>⟨_,rfl,_,rfl,_,rfl,k,d,z,rfl,k0,k1,λ M8 x8=>?_⟩⟩
  have x:=x7.trans x8
  have g':DatW M8 w (.list (due k d z)):=by
   cases g with
   | d=>exact .d
   | l e=>exact .l (x _ _ e)
  refine ⟨_,_,.d,.d,few dl,_,_,rfl,.d,ok,_,rfl,_,_,rfl,g',ok,_,_,.d,.d,rfl,_,rfl,?_⟩
  refine ite_n (show (!PyData.eqv (.str (PyData.list (due k d z)).shown) (.str (PyData.list (due k d z)).shown))=false by rw [PyData.eqv]; simp) ?_
  exact ⟨_,_,_,_,_,_,Ext.bag x b,rfl⟩
 ·refine ⟨_,rfl,_,_,.d,.d,int_ok2 _ _,_,rfl,ite_b (λ e=>?_) (λ e=>?_)⟩
  ·rw [PyData.eqv] at e
   obtain rfl:k=15:=of_decide_eq_true e
   exact ⟨_,rfl,_,rfl,_,rfl,few (by simp),_,rfl,_,rfl,few (by simp),rest _ _ ⟨_,_,_,b7,.d,rfl⟩⟩
  ·rw [PyData.eqv] at e
   have ne:k≠15:=of_decide_eq_false e
   exact rest _ _ ⟨_,_,_,b7,.l (updM_same.trans (congrArg (λ l=>some (MO.lst l)) (due_lt k0 k1 ne d z))),rfl⟩
end K17
namespace K17
open PySem PySem.Spec PyProof.Rows L2 D Stc
noncomputable def top (i:Nat):Stmt:=PySem.Challenge.pw_placedworks_k17_refusals_apart.main.body.getD i (.Pass ⟨0,0,0,0⟩)
noncomputable abbrev s_l_bag:Stmt:=top 19
noncomputable abbrev s_l_take:Stmt:=top 20
noncomputable abbrev s_l_thing:Stmt:=top 26
noncomputable abbrev s_NoRow_init:Stmt:=inClass (top 6) 0
noncomputable abbrev s_BadName_init:Stmt:=inClass (top 7) 0
noncomputable abbrev s_BadBerths_init:Stmt:=inClass (top 8) 0
noncomputable abbrev s_BadAsked_init:Stmt:=inClass (top 9) 0
noncomputable abbrev s_BadShare_init:Stmt:=inClass (top 10) 0
noncomputable abbrev s_BadRow_init:Stmt:=inClass (top 11) 0
noncomputable abbrev s_Unknown_init:Stmt:=inClass (top 12) 0
noncomputable abbrev s_Known_init:Stmt:=inClass (top 13) 0
noncomputable abbrev s_Used_init:Stmt:=inClass (top 14) 0
noncomputable abbrev s_TooMany_init:Stmt:=inClass (top 15) 0
noncomputable abbrev s_Early_init:Stmt:=inClass (top 17) 0
noncomputable abbrev s_NoRoom_init:Stmt:=inClass (top 16) 0
noncomputable abbrev s_l_raised:Stmt:=top 21
noncomputable abbrev s_l_kinds:Stmt:=top 22
noncomputable abbrev s_l_caught:Stmt:=top 23
noncomputable abbrev s_l_at:Stmt:=top 24
noncomputable abbrev s_l_else:Stmt:=top 25
noncomputable abbrev s_l_any:Stmt:=top 27
noncomputable abbrev s_law:Stmt:=top 28
structure Env (K:PySem.W.Frag)(mg:Str->Option Value):Prop where
 m_BadAsked:mg "BadAsked" = some (.ref C_BadAsked)
 m_BadBerths:mg "BadBerths" = some (.ref C_BadBerths)
 m_BadName:mg "BadName" = some (.ref C_BadName)
 m_BadRow:mg "BadRow" = some (.ref C_BadRow)
 m_BadShare:mg "BadShare" = some (.ref C_BadShare)
 m_Early:mg "Early" = some (.ref C_Early)
 m_Known:mg "Known" = some (.ref C_Known)
 m_NoBack:mg "NoBack" = some (.ref C_NoBack)
 m_NoDeed:mg "NoDeed" = some (.ref C_NoDeed)
 m_NoLine:mg "NoLine" = some (.ref C_NoLine)
 m_NoRoom:mg "NoRoom" = some (.ref C_NoRoom)
 m_NoRow:mg "NoRow" = some (.ref C_NoRow)
 m_NoText:mg "NoText" = some (.ref C_NoText)
 m_PlaceError:mg "PlaceError" = some (.ref C_PlaceError)
 m_TooMany:mg "TooMany" = some (.ref C_TooMany)
 m_Unknown:mg "Unknown" = some (.ref C_Unknown)
 m_Used:mg "Used" = some (.ref C_Used)
 x_BadAsked:XO.XC K C_BadAsked
 x_BadBerths:XO.XC K C_BadBerths
 x_BadName:XO.XC K C_BadName
 x_BadRow:XO.XC K C_BadRow
 x_BadShare:XO.XC K C_BadShare
 x_Early:XO.XC K C_Early
 x_Known:XO.XC K C_Known
 x_NoBack:XO.XC K C_NoBack
 x_NoDeed:XO.XC K C_NoDeed
 x_NoLine:XO.XC K C_NoLine
 x_NoRoom:XO.XC K C_NoRoom
 x_NoRow:XO.XC K C_NoRow
 x_NoText:XO.XC K C_NoText
 x_PlaceError:XO.XC K C_PlaceError
 x_TooMany:XO.XC K C_TooMany
 x_Unknown:XO.XC K C_Unknown
 x_Used:XO.XC K C_Used
 e_BadAsked_BadAsked:PySem.W.exmOne K (.ref C_BadAsked) (.ref C_BadAsked)=some true
 e_BadAsked_BadBerths:PySem.W.exmOne K (.ref C_BadAsked) (.ref C_BadBerths)=some false
 e_BadAsked_BadName:PySem.W.exmOne K (.ref C_BadAsked) (.ref C_BadName)=some false
 e_BadAsked_BadRow:PySem.W.exmOne K (.ref C_BadAsked) (.ref C_BadRow)=some false
 e_BadAsked_BadShare:PySem.W.exmOne K (.ref C_BadAsked) (.ref C_BadShare)=some false
 e_BadAsked_Early:PySem.W.exmOne K (.ref C_BadAsked) (.ref C_Early)=some false
 e_BadAsked_Known:PySem.W.exmOne K (.ref C_BadAsked) (.ref C_Known)=some false
 e_BadAsked_NoRoom:PySem.W.exmOne K (.ref C_BadAsked) (.ref C_NoRoom)=some false
 e_BadAsked_NoRow:PySem.W.exmOne K (.ref C_BadAsked) (.ref C_NoRow)=some false
 e_BadAsked_PlaceError:PySem.W.exmOne K (.ref C_BadAsked) (.ref C_PlaceError)=some true
 e_BadAsked_TooMany:PySem.W.exmOne K (.ref C_BadAsked) (.ref C_TooMany)=some false
 e_BadAsked_Unknown:PySem.W.exmOne K (.ref C_BadAsked) (.ref C_Unknown)=some false
 e_BadAsked_Used:PySem.W.exmOne K (.ref C_BadAsked) (.ref C_Used)=some false
 e_BadBerths_BadAsked:PySem.W.exmOne K (.ref C_BadBerths) (.ref C_BadAsked)=some false
 e_BadBerths_BadBerths:PySem.W.exmOne K (.ref C_BadBerths) (.ref C_BadBerths)=some true
 e_BadBerths_BadName:PySem.W.exmOne K (.ref C_BadBerths) (.ref C_BadName)=some false
 e_BadBerths_BadRow:PySem.W.exmOne K (.ref C_BadBerths) (.ref C_BadRow)=some false
 e_BadBerths_BadShare:PySem.W.exmOne K (.ref C_BadBerths) (.ref C_BadShare)=some false
 e_BadBerths_Early:PySem.W.exmOne K (.ref C_BadBerths) (.ref C_Early)=some false
 e_BadBerths_Known:PySem.W.exmOne K (.ref C_BadBerths) (.ref C_Known)=some false
 e_BadBerths_NoRoom:PySem.W.exmOne K (.ref C_BadBerths) (.ref C_NoRoom)=some false
 e_BadBerths_NoRow:PySem.W.exmOne K (.ref C_BadBerths) (.ref C_NoRow)=some false
 e_BadBerths_PlaceError:PySem.W.exmOne K (.ref C_BadBerths) (.ref C_PlaceError)=some true
 e_BadBerths_TooMany:PySem.W.exmOne K (.ref C_BadBerths) (.ref C_TooMany)=some false
 e_BadBerths_Unknown:PySem.W.exmOne K (.ref C_BadBerths) (.ref C_Unknown)=some false
 e_BadBerths_Used:PySem.W.exmOne K (.ref C_BadBerths) (.ref C_Used)=some false
 e_BadName_BadAsked:PySem.W.exmOne K (.ref C_BadName) (.ref C_BadAsked)=some false
 e_BadName_BadBerths:PySem.W.exmOne K (.ref C_BadName) (.ref C_BadBerths)=some false
 e_BadName_BadName:PySem.W.exmOne K (.ref C_BadName) (.ref C_BadName)=some true
 e_BadName_BadRow:PySem.W.exmOne K (.ref C_BadName) (.ref C_BadRow)=some false
 e_BadName_BadShare:PySem.W.exmOne K (.ref C_BadName) (.ref C_BadShare)=some false
 e_BadName_Early:PySem.W.exmOne K (.ref C_BadName) (.ref C_Early)=some false
 e_BadName_Known:PySem.W.exmOne K (.ref C_BadName) (.ref C_Known)=some false
 e_BadName_NoRoom:PySem.W.exmOne K (.ref C_BadName) (.ref C_NoRoom)=some false
 e_BadName_NoRow:PySem.W.exmOne K (.ref C_BadName) (.ref C_NoRow)=some false
 e_BadName_PlaceError:PySem.W.exmOne K (.ref C_BadName) (.ref C_PlaceError)=some true
 e_BadName_TooMany:PySem.W.exmOne K (.ref C_BadName) (.ref C_TooMany)=some false
 e_BadName_Unknown:PySem.W.exmOne K (.ref C_BadName) (.ref C_Unknown)=some false
 e_BadName_Used:PySem.W.exmOne K (.ref C_BadName) (.ref C_Used)=some false
 e_BadRow_BadAsked:PySem.W.exmOne K (.ref C_BadRow) (.ref C_BadAsked)=some false
 e_BadRow_BadBerths:PySem.W.exmOne K (.ref C_BadRow) (.ref C_BadBerths)=some false
 e_BadRow_BadName:PySem.W.exmOne K (.ref C_BadRow) (.ref C_BadName)=some false
 e_BadRow_BadRow:PySem.W.exmOne K (.ref C_BadRow) (.ref C_BadRow)=some true
 e_BadRow_BadShare:PySem.W.exmOne K (.ref C_BadRow) (.ref C_BadShare)=some false
 e_BadRow_Early:PySem.W.exmOne K (.ref C_BadRow) (.ref C_Early)=some false
 e_BadRow_Known:PySem.W.exmOne K (.ref C_BadRow) (.ref C_Known)=some false
 e_BadRow_NoRoom:PySem.W.exmOne K (.ref C_BadRow) (.ref C_NoRoom)=some false
 e_BadRow_NoRow:PySem.W.exmOne K (.ref C_BadRow) (.ref C_NoRow)=some false
 e_BadRow_PlaceError:PySem.W.exmOne K (.ref C_BadRow) (.ref C_PlaceError)=some true
 e_BadRow_TooMany:PySem.W.exmOne K (.ref C_BadRow) (.ref C_TooMany)=some false
 e_BadRow_Unknown:PySem.W.exmOne K (.ref C_BadRow) (.ref C_Unknown)=some false
 e_BadRow_Used:PySem.W.exmOne K (.ref C_BadRow) (.ref C_Used)=some false
 e_BadShare_BadAsked:PySem.W.exmOne K (.ref C_BadShare) (.ref C_BadAsked)=some false
 e_BadShare_BadBerths:PySem.W.exmOne K (.ref C_BadShare) (.ref C_BadBerths)=some false
 e_BadShare_BadName:PySem.W.exmOne K (.ref C_BadShare) (.ref C_BadName)=some false
 e_BadShare_BadRow:PySem.W.exmOne K (.ref C_BadShare) (.ref C_BadRow)=some false
 e_BadShare_BadShare:PySem.W.exmOne K (.ref C_BadShare) (.ref C_BadShare)=some true
 e_BadShare_Early:PySem.W.exmOne K (.ref C_BadShare) (.ref C_Early)=some false
 e_BadShare_Known:PySem.W.exmOne K (.ref C_BadShare) (.ref C_Known)=some false
 e_BadShare_NoRoom:PySem.W.exmOne K (.ref C_BadShare) (.ref C_NoRoom)=some false
 e_BadShare_NoRow:PySem.W.exmOne K (.ref C_BadShare) (.ref C_NoRow)=some false
 e_BadShare_PlaceError:PySem.W.exmOne K (.ref C_BadShare) (.ref C_PlaceError)=some true
 e_BadShare_TooMany:PySem.W.exmOne K (.ref C_BadShare) (.ref C_TooMany)=some false
 e_BadShare_Unknown:PySem.W.exmOne K (.ref C_BadShare) (.ref C_Unknown)=some false
 e_BadShare_Used:PySem.W.exmOne K (.ref C_BadShare) (.ref C_Used)=some false
 e_Early_BadAsked:PySem.W.exmOne K (.ref C_Early) (.ref C_BadAsked)=some false
 e_Early_BadBerths:PySem.W.exmOne K (.ref C_Early) (.ref C_BadBerths)=some false
 e_Early_BadName:PySem.W.exmOne K (.ref C_Early) (.ref C_BadName)=some false
 e_Early_BadRow:PySem.W.exmOne K (.ref C_Early) (.ref C_BadRow)=some false
 e_Early_BadShare:PySem.W.exmOne K (.ref C_Early) (.ref C_BadShare)=some false
 e_Early_Early:PySem.W.exmOne K (.ref C_Early) (.ref C_Early)=some true
 e_Early_Known:PySem.W.exmOne K (.ref C_Early) (.ref C_Known)=some false
 e_Early_NoRoom:PySem.W.exmOne K (.ref C_Early) (.ref C_NoRoom)=some false
 e_Early_NoRow:PySem.W.exmOne K (.ref C_Early) (.ref C_NoRow)=some false
 e_Early_PlaceError:PySem.W.exmOne K (.ref C_Early) (.ref C_PlaceError)=some true
 e_Early_TooMany:PySem.W.exmOne K (.ref C_Early) (.ref C_TooMany)=some false
 e_Early_Unknown:PySem.W.exmOne K (.ref C_Early) (.ref C_Unknown)=some false
 e_Early_Used:PySem.W.exmOne K (.ref C_Early) (.ref C_Used)=some false
 e_Known_BadAsked:PySem.W.exmOne K (.ref C_Known) (.ref C_BadAsked)=some false
 e_Known_BadBerths:PySem.W.exmOne K (.ref C_Known) (.ref C_BadBerths)=some false
 e_Known_BadName:PySem.W.exmOne K (.ref C_Known) (.ref C_BadName)=some false
 e_Known_BadRow:PySem.W.exmOne K (.ref C_Known) (.ref C_BadRow)=some false
 e_Known_BadShare:PySem.W.exmOne K (.ref C_Known) (.ref C_BadShare)=some false
 e_Known_Early:PySem.W.exmOne K (.ref C_Known) (.ref C_Early)=some false
 e_Known_Known:PySem.W.exmOne K (.ref C_Known) (.ref C_Known)=some true
 e_Known_NoRoom:PySem.W.exmOne K (.ref C_Known) (.ref C_NoRoom)=some false
 e_Known_NoRow:PySem.W.exmOne K (.ref C_Known) (.ref C_NoRow)=some false
 e_Known_PlaceError:PySem.W.exmOne K (.ref C_Known) (.ref C_PlaceError)=some true
 e_Known_TooMany:PySem.W.exmOne K (.ref C_Known) (.ref C_TooMany)=some false
 e_Known_Unknown:PySem.W.exmOne K (.ref C_Known) (.ref C_Unknown)=some false
 e_Known_Used:PySem.W.exmOne K (.ref C_Known) (.ref C_Used)=some false
 e_NoBack_BadAsked:PySem.W.exmOne K (.ref C_NoBack) (.ref C_BadAsked)=some false
 e_NoBack_BadBerths:PySem.W.exmOne K (.ref C_NoBack) (.ref C_BadBerths)=some false
 e_NoBack_BadName:PySem.W.exmOne K (.ref C_NoBack) (.ref C_BadName)=some false
 e_NoBack_BadRow:PySem.W.exmOne K (.ref C_NoBack) (.ref C_BadRow)=some false
 e_NoBack_BadShare:PySem.W.exmOne K (.ref C_NoBack) (.ref C_BadShare)=some false
 e_NoBack_Early:PySem.W.exmOne K (.ref C_NoBack) (.ref C_Early)=some false
 e_NoBack_Known:PySem.W.exmOne K (.ref C_NoBack) (.ref C_Known)=some false
 e_NoBack_NoRoom:PySem.W.exmOne K (.ref C_NoBack) (.ref C_NoRoom)=some false
 e_NoBack_NoRow:PySem.W.exmOne K (.ref C_NoBack) (.ref C_NoRow)=some false
 e_NoBack_PlaceError:PySem.W.exmOne K (.ref C_NoBack) (.ref C_PlaceError)=some true
 e_NoBack_TooMany:PySem.W.exmOne K (.ref C_NoBack) (.ref C_TooMany)=some false
 e_NoBack_Unknown:PySem.W.exmOne K (.ref C_NoBack) (.ref C_Unknown)=some false
 e_NoBack_Used:PySem.W.exmOne K (.ref C_NoBack) (.ref C_Used)=some false
 e_NoDeed_BadAsked:PySem.W.exmOne K (.ref C_NoDeed) (.ref C_BadAsked)=some false
 e_NoDeed_BadBerths:PySem.W.exmOne K (.ref C_NoDeed) (.ref C_BadBerths)=some false
 e_NoDeed_BadName:PySem.W.exmOne K (.ref C_NoDeed) (.ref C_BadName)=some false
 e_NoDeed_BadRow:PySem.W.exmOne K (.ref C_NoDeed) (.ref C_BadRow)=some false
 e_NoDeed_BadShare:PySem.W.exmOne K (.ref C_NoDeed) (.ref C_BadShare)=some false
 e_NoDeed_Early:PySem.W.exmOne K (.ref C_NoDeed) (.ref C_Early)=some false
 e_NoDeed_Known:PySem.W.exmOne K (.ref C_NoDeed) (.ref C_Known)=some false
 e_NoDeed_NoRoom:PySem.W.exmOne K (.ref C_NoDeed) (.ref C_NoRoom)=some false
 e_NoDeed_NoRow:PySem.W.exmOne K (.ref C_NoDeed) (.ref C_NoRow)=some false
 e_NoDeed_PlaceError:PySem.W.exmOne K (.ref C_NoDeed) (.ref C_PlaceError)=some true
 e_NoDeed_TooMany:PySem.W.exmOne K (.ref C_NoDeed) (.ref C_TooMany)=some false
 e_NoDeed_Unknown:PySem.W.exmOne K (.ref C_NoDeed) (.ref C_Unknown)=some false
 e_NoDeed_Used:PySem.W.exmOne K (.ref C_NoDeed) (.ref C_Used)=some false
 e_NoLine_BadAsked:PySem.W.exmOne K (.ref C_NoLine) (.ref C_BadAsked)=some false
 e_NoLine_BadBerths:PySem.W.exmOne K (.ref C_NoLine) (.ref C_BadBerths)=some false
 e_NoLine_BadName:PySem.W.exmOne K (.ref C_NoLine) (.ref C_BadName)=some false
 e_NoLine_BadRow:PySem.W.exmOne K (.ref C_NoLine) (.ref C_BadRow)=some false
 e_NoLine_BadShare:PySem.W.exmOne K (.ref C_NoLine) (.ref C_BadShare)=some false
 e_NoLine_Early:PySem.W.exmOne K (.ref C_NoLine) (.ref C_Early)=some false
 e_NoLine_Known:PySem.W.exmOne K (.ref C_NoLine) (.ref C_Known)=some false
 e_NoLine_NoRoom:PySem.W.exmOne K (.ref C_NoLine) (.ref C_NoRoom)=some false
 e_NoLine_NoRow:PySem.W.exmOne K (.ref C_NoLine) (.ref C_NoRow)=some false
 e_NoLine_PlaceError:PySem.W.exmOne K (.ref C_NoLine) (.ref C_PlaceError)=some true
 e_NoLine_TooMany:PySem.W.exmOne K (.ref C_NoLine) (.ref C_TooMany)=some false
 e_NoLine_Unknown:PySem.W.exmOne K (.ref C_NoLine) (.ref C_Unknown)=some false
 e_NoLine_Used:PySem.W.exmOne K (.ref C_NoLine) (.ref C_Used)=some false
 e_NoRoom_BadAsked:PySem.W.exmOne K (.ref C_NoRoom) (.ref C_BadAsked)=some false
 e_NoRoom_BadBerths:PySem.W.exmOne K (.ref C_NoRoom) (.ref C_BadBerths)=some false
 e_NoRoom_BadName:PySem.W.exmOne K (.ref C_NoRoom) (.ref C_BadName)=some false
 e_NoRoom_BadRow:PySem.W.exmOne K (.ref C_NoRoom) (.ref C_BadRow)=some false
 e_NoRoom_BadShare:PySem.W.exmOne K (.ref C_NoRoom) (.ref C_BadShare)=some false
 e_NoRoom_Early:PySem.W.exmOne K (.ref C_NoRoom) (.ref C_Early)=some false
 e_NoRoom_Known:PySem.W.exmOne K (.ref C_NoRoom) (.ref C_Known)=some false
 e_NoRoom_NoRoom:PySem.W.exmOne K (.ref C_NoRoom) (.ref C_NoRoom)=some true
 e_NoRoom_NoRow:PySem.W.exmOne K (.ref C_NoRoom) (.ref C_NoRow)=some false
 e_NoRoom_PlaceError:PySem.W.exmOne K (.ref C_NoRoom) (.ref C_PlaceError)=some true
 e_NoRoom_TooMany:PySem.W.exmOne K (.ref C_NoRoom) (.ref C_TooMany)=some false
 e_NoRoom_Unknown:PySem.W.exmOne K (.ref C_NoRoom) (.ref C_Unknown)=some false
 e_NoRoom_Used:PySem.W.exmOne K (.ref C_NoRoom) (.ref C_Used)=some false
 e_NoRow_BadAsked:PySem.W.exmOne K (.ref C_NoRow) (.ref C_BadAsked)=some false
 e_NoRow_BadBerths:PySem.W.exmOne K (.ref C_NoRow) (.ref C_BadBerths)=some false
 e_NoRow_BadName:PySem.W.exmOne K (.ref C_NoRow) (.ref C_BadName)=some false
 e_NoRow_BadRow:PySem.W.exmOne K (.ref C_NoRow) (.ref C_BadRow)=some false
 e_NoRow_BadShare:PySem.W.exmOne K (.ref C_NoRow) (.ref C_BadShare)=some false
 e_NoRow_Early:PySem.W.exmOne K (.ref C_NoRow) (.ref C_Early)=some false
 e_NoRow_Known:PySem.W.exmOne K (.ref C_NoRow) (.ref C_Known)=some false
 e_NoRow_NoRoom:PySem.W.exmOne K (.ref C_NoRow) (.ref C_NoRoom)=some false
 e_NoRow_NoRow:PySem.W.exmOne K (.ref C_NoRow) (.ref C_NoRow)=some true
 e_NoRow_PlaceError:PySem.W.exmOne K (.ref C_NoRow) (.ref C_PlaceError)=some true
 e_NoRow_TooMany:PySem.W.exmOne K (.ref C_NoRow) (.ref C_TooMany)=some false
 e_NoRow_Unknown:PySem.W.exmOne K (.ref C_NoRow) (.ref C_Unknown)=some false
 e_NoRow_Used:PySem.W.exmOne K (.ref C_NoRow) (.ref C_Used)=some false
 e_NoText_BadAsked:PySem.W.exmOne K (.ref C_NoText) (.ref C_BadAsked)=some false
 e_NoText_BadBerths:PySem.W.exmOne K (.ref C_NoText) (.ref C_BadBerths)=some false
 e_NoText_BadName:PySem.W.exmOne K (.ref C_NoText) (.ref C_BadName)=some false
 e_NoText_BadRow:PySem.W.exmOne K (.ref C_NoText) (.ref C_BadRow)=some false
 e_NoText_BadShare:PySem.W.exmOne K (.ref C_NoText) (.ref C_BadShare)=some false
 e_NoText_Early:PySem.W.exmOne K (.ref C_NoText) (.ref C_Early)=some false
 e_NoText_Known:PySem.W.exmOne K (.ref C_NoText) (.ref C_Known)=some false
 e_NoText_NoRoom:PySem.W.exmOne K (.ref C_NoText) (.ref C_NoRoom)=some false
 e_NoText_NoRow:PySem.W.exmOne K (.ref C_NoText) (.ref C_NoRow)=some false
 e_NoText_PlaceError:PySem.W.exmOne K (.ref C_NoText) (.ref C_PlaceError)=some true
 e_NoText_TooMany:PySem.W.exmOne K (.ref C_NoText) (.ref C_TooMany)=some false
 e_NoText_Unknown:PySem.W.exmOne K (.ref C_NoText) (.ref C_Unknown)=some false
 e_NoText_Used:PySem.W.exmOne K (.ref C_NoText) (.ref C_Used)=some false
 e_PlaceError_PlaceError:PySem.W.exmOne K (.ref C_PlaceError) (.ref C_PlaceError)=some true
 e_TooMany_BadAsked:PySem.W.exmOne K (.ref C_TooMany) (.ref C_BadAsked)=some false
 e_TooMany_BadBerths:PySem.W.exmOne K (.ref C_TooMany) (.ref C_BadBerths)=some false
 e_TooMany_BadName:PySem.W.exmOne K (.ref C_TooMany) (.ref C_BadName)=some false
 e_TooMany_BadRow:PySem.W.exmOne K (.ref C_TooMany) (.ref C_BadRow)=some false
 e_TooMany_BadShare:PySem.W.exmOne K (.ref C_TooMany) (.ref C_BadShare)=some false
 e_TooMany_Early:PySem.W.exmOne K (.ref C_TooMany) (.ref C_Early)=some false
 e_TooMany_Known:PySem.W.exmOne K (.ref C_TooMany) (.ref C_Known)=some false
 e_TooMany_NoRoom:PySem.W.exmOne K (.ref C_TooMany) (.ref C_NoRoom)=some false
 e_TooMany_NoRow:PySem.W.exmOne K (.ref C_TooMany) (.ref C_NoRow)=some false
 e_TooMany_PlaceError:PySem.W.exmOne K (.ref C_TooMany) (.ref C_PlaceError)=some true
 e_TooMany_TooMany:PySem.W.exmOne K (.ref C_TooMany) (.ref C_TooMany)=some true
 e_TooMany_Unknown:PySem.W.exmOne K (.ref C_TooMany) (.ref C_Unknown)=some false
 e_TooMany_Used:PySem.W.exmOne K (.ref C_TooMany) (.ref C_Used)=some false
 e_Unknown_BadAsked:PySem.W.exmOne K (.ref C_Unknown) (.ref C_BadAsked)=some false
 e_Unknown_BadBerths:PySem.W.exmOne K (.ref C_Unknown) (.ref C_BadBerths)=some false
 e_Unknown_BadName:PySem.W.exmOne K (.ref C_Unknown) (.ref C_BadName)=some false
 e_Unknown_BadRow:PySem.W.exmOne K (.ref C_Unknown) (.ref C_BadRow)=some false
 e_Unknown_BadShare:PySem.W.exmOne K (.ref C_Unknown) (.ref C_BadShare)=some false
 e_Unknown_Early:PySem.W.exmOne K (.ref C_Unknown) (.ref C_Early)=some false
 e_Unknown_Known:PySem.W.exmOne K (.ref C_Unknown) (.ref C_Known)=some false
 e_Unknown_NoRoom:PySem.W.exmOne K (.ref C_Unknown) (.ref C_NoRoom)=some false
 e_Unknown_NoRow:PySem.W.exmOne K (.ref C_Unknown) (.ref C_NoRow)=some false
 e_Unknown_PlaceError:PySem.W.exmOne K (.ref C_Unknown) (.ref C_PlaceError)=some true
 e_Unknown_TooMany:PySem.W.exmOne K (.ref C_Unknown) (.ref C_TooMany)=some false
 e_Unknown_Unknown:PySem.W.exmOne K (.ref C_Unknown) (.ref C_Unknown)=some true
 e_Unknown_Used:PySem.W.exmOne K (.ref C_Unknown) (.ref C_Used)=some false
 e_Used_BadAsked:PySem.W.exmOne K (.ref C_Used) (.ref C_BadAsked)=some false
 e_Used_BadBerths:PySem.W.exmOne K (.ref C_Used) (.ref C_BadBerths)=some false
 e_Used_BadName:PySem.W.exmOne K (.ref C_Used) (.ref C_BadName)=some false
 e_Used_BadRow:PySem.W.exmOne K (.ref C_Used) (.ref C_BadRow)=some false
 e_Used_BadShare:PySem.W.exmOne K (.ref C_Used) (.ref C_BadShare)=some false
 e_Used_Early:PySem.W.exmOne K (.ref C_Used) (.ref C_Early)=some false
 e_Used_Known:PySem.W.exmOne K (.ref C_Used) (.ref C_Known)=some false
 e_Used_NoRoom:PySem.W.exmOne K (.ref C_Used) (.ref C_NoRoom)=some false
 e_Used_NoRow:PySem.W.exmOne K (.ref C_Used) (.ref C_NoRow)=some false
 e_Used_PlaceError:PySem.W.exmOne K (.ref C_Used) (.ref C_PlaceError)=some true
 e_Used_TooMany:PySem.W.exmOne K (.ref C_Used) (.ref C_TooMany)=some false
 e_Used_Unknown:PySem.W.exmOne K (.ref C_Used) (.ref C_Unknown)=some false
 e_Used_Used:PySem.W.exmOne K (.ref C_Used) (.ref C_Used)=some true
 i_BadAsked_BadAsked:PySem.W.kitAny K (.ref C_BadAsked) [.ref C_BadAsked]=some true
 i_BadAsked_BadBerths:PySem.W.kitAny K (.ref C_BadAsked) [.ref C_BadBerths]=some false
 i_BadAsked_BadName:PySem.W.kitAny K (.ref C_BadAsked) [.ref C_BadName]=some false
 i_BadAsked_BadRow:PySem.W.kitAny K (.ref C_BadAsked) [.ref C_BadRow]=some false
 i_BadAsked_BadShare:PySem.W.kitAny K (.ref C_BadAsked) [.ref C_BadShare]=some false
 i_BadAsked_Early:PySem.W.kitAny K (.ref C_BadAsked) [.ref C_Early]=some false
 i_BadAsked_Known:PySem.W.kitAny K (.ref C_BadAsked) [.ref C_Known]=some false
 i_BadAsked_NoBack:PySem.W.kitAny K (.ref C_BadAsked) [.ref C_NoBack]=some false
 i_BadAsked_NoDeed:PySem.W.kitAny K (.ref C_BadAsked) [.ref C_NoDeed]=some false
 i_BadAsked_NoLine:PySem.W.kitAny K (.ref C_BadAsked) [.ref C_NoLine]=some false
 i_BadAsked_NoRoom:PySem.W.kitAny K (.ref C_BadAsked) [.ref C_NoRoom]=some false
 i_BadAsked_NoRow:PySem.W.kitAny K (.ref C_BadAsked) [.ref C_NoRow]=some false
 i_BadAsked_NoText:PySem.W.kitAny K (.ref C_BadAsked) [.ref C_NoText]=some false
 i_BadAsked_TooMany:PySem.W.kitAny K (.ref C_BadAsked) [.ref C_TooMany]=some false
 i_BadAsked_Unknown:PySem.W.kitAny K (.ref C_BadAsked) [.ref C_Unknown]=some false
 i_BadAsked_Used:PySem.W.kitAny K (.ref C_BadAsked) [.ref C_Used]=some false
 i_BadAsked_ValueError:PySem.W.kitAny K (.ref C_BadAsked) [.type "ValueError"]=some true
 i_BadBerths_BadAsked:PySem.W.kitAny K (.ref C_BadBerths) [.ref C_BadAsked]=some false
 i_BadBerths_BadBerths:PySem.W.kitAny K (.ref C_BadBerths) [.ref C_BadBerths]=some true
 i_BadBerths_BadName:PySem.W.kitAny K (.ref C_BadBerths) [.ref C_BadName]=some false
 i_BadBerths_BadRow:PySem.W.kitAny K (.ref C_BadBerths) [.ref C_BadRow]=some false
 i_BadBerths_BadShare:PySem.W.kitAny K (.ref C_BadBerths) [.ref C_BadShare]=some false
 i_BadBerths_Early:PySem.W.kitAny K (.ref C_BadBerths) [.ref C_Early]=some false
 i_BadBerths_Known:PySem.W.kitAny K (.ref C_BadBerths) [.ref C_Known]=some false
 i_BadBerths_NoBack:PySem.W.kitAny K (.ref C_BadBerths) [.ref C_NoBack]=some false
 i_BadBerths_NoDeed:PySem.W.kitAny K (.ref C_BadBerths) [.ref C_NoDeed]=some false
 i_BadBerths_NoLine:PySem.W.kitAny K (.ref C_BadBerths) [.ref C_NoLine]=some false
 i_BadBerths_NoRoom:PySem.W.kitAny K (.ref C_BadBerths) [.ref C_NoRoom]=some false
 i_BadBerths_NoRow:PySem.W.kitAny K (.ref C_BadBerths) [.ref C_NoRow]=some false
 i_BadBerths_NoText:PySem.W.kitAny K (.ref C_BadBerths) [.ref C_NoText]=some false
 i_BadBerths_TooMany:PySem.W.kitAny K (.ref C_BadBerths) [.ref C_TooMany]=some false
 i_BadBerths_Unknown:PySem.W.kitAny K (.ref C_BadBerths) [.ref C_Unknown]=some false
 i_BadBerths_Used:PySem.W.kitAny K (.ref C_BadBerths) [.ref C_Used]=some false
 i_BadBerths_ValueError:PySem.W.kitAny K (.ref C_BadBerths) [.type "ValueError"]=some true
 i_BadName_BadAsked:PySem.W.kitAny K (.ref C_BadName) [.ref C_BadAsked]=some false
 i_BadName_BadBerths:PySem.W.kitAny K (.ref C_BadName) [.ref C_BadBerths]=some false
 i_BadName_BadName:PySem.W.kitAny K (.ref C_BadName) [.ref C_BadName]=some true
 i_BadName_BadRow:PySem.W.kitAny K (.ref C_BadName) [.ref C_BadRow]=some false
 i_BadName_BadShare:PySem.W.kitAny K (.ref C_BadName) [.ref C_BadShare]=some false
 i_BadName_Early:PySem.W.kitAny K (.ref C_BadName) [.ref C_Early]=some false
 i_BadName_Known:PySem.W.kitAny K (.ref C_BadName) [.ref C_Known]=some false
 i_BadName_NoBack:PySem.W.kitAny K (.ref C_BadName) [.ref C_NoBack]=some false
 i_BadName_NoDeed:PySem.W.kitAny K (.ref C_BadName) [.ref C_NoDeed]=some false
 i_BadName_NoLine:PySem.W.kitAny K (.ref C_BadName) [.ref C_NoLine]=some false
 i_BadName_NoRoom:PySem.W.kitAny K (.ref C_BadName) [.ref C_NoRoom]=some false
 i_BadName_NoRow:PySem.W.kitAny K (.ref C_BadName) [.ref C_NoRow]=some false
 i_BadName_NoText:PySem.W.kitAny K (.ref C_BadName) [.ref C_NoText]=some false
 i_BadName_TooMany:PySem.W.kitAny K (.ref C_BadName) [.ref C_TooMany]=some false
 i_BadName_Unknown:PySem.W.kitAny K (.ref C_BadName) [.ref C_Unknown]=some false
 i_BadName_Used:PySem.W.kitAny K (.ref C_BadName) [.ref C_Used]=some false
 i_BadName_ValueError:PySem.W.kitAny K (.ref C_BadName) [.type "ValueError"]=some true
 i_BadRow_BadAsked:PySem.W.kitAny K (.ref C_BadRow) [.ref C_BadAsked]=some false
 i_BadRow_BadBerths:PySem.W.kitAny K (.ref C_BadRow) [.ref C_BadBerths]=some false
 i_BadRow_BadName:PySem.W.kitAny K (.ref C_BadRow) [.ref C_BadName]=some false
 i_BadRow_BadRow:PySem.W.kitAny K (.ref C_BadRow) [.ref C_BadRow]=some true
 i_BadRow_BadShare:PySem.W.kitAny K (.ref C_BadRow) [.ref C_BadShare]=some false
 i_BadRow_Early:PySem.W.kitAny K (.ref C_BadRow) [.ref C_Early]=some false
 i_BadRow_Known:PySem.W.kitAny K (.ref C_BadRow) [.ref C_Known]=some false
 i_BadRow_NoBack:PySem.W.kitAny K (.ref C_BadRow) [.ref C_NoBack]=some false
 i_BadRow_NoDeed:PySem.W.kitAny K (.ref C_BadRow) [.ref C_NoDeed]=some false
 i_BadRow_NoLine:PySem.W.kitAny K (.ref C_BadRow) [.ref C_NoLine]=some false
 i_BadRow_NoRoom:PySem.W.kitAny K (.ref C_BadRow) [.ref C_NoRoom]=some false
 i_BadRow_NoRow:PySem.W.kitAny K (.ref C_BadRow) [.ref C_NoRow]=some false
 i_BadRow_NoText:PySem.W.kitAny K (.ref C_BadRow) [.ref C_NoText]=some false
 i_BadRow_TooMany:PySem.W.kitAny K (.ref C_BadRow) [.ref C_TooMany]=some false
 i_BadRow_Unknown:PySem.W.kitAny K (.ref C_BadRow) [.ref C_Unknown]=some false
 i_BadRow_Used:PySem.W.kitAny K (.ref C_BadRow) [.ref C_Used]=some false
 i_BadRow_ValueError:PySem.W.kitAny K (.ref C_BadRow) [.type "ValueError"]=some true
 i_BadShare_BadAsked:PySem.W.kitAny K (.ref C_BadShare) [.ref C_BadAsked]=some false
 i_BadShare_BadBerths:PySem.W.kitAny K (.ref C_BadShare) [.ref C_BadBerths]=some false
 i_BadShare_BadName:PySem.W.kitAny K (.ref C_BadShare) [.ref C_BadName]=some false
 i_BadShare_BadRow:PySem.W.kitAny K (.ref C_BadShare) [.ref C_BadRow]=some false
 i_BadShare_BadShare:PySem.W.kitAny K (.ref C_BadShare) [.ref C_BadShare]=some true
 i_BadShare_Early:PySem.W.kitAny K (.ref C_BadShare) [.ref C_Early]=some false
 i_BadShare_Known:PySem.W.kitAny K (.ref C_BadShare) [.ref C_Known]=some false
 i_BadShare_NoBack:PySem.W.kitAny K (.ref C_BadShare) [.ref C_NoBack]=some false
 i_BadShare_NoDeed:PySem.W.kitAny K (.ref C_BadShare) [.ref C_NoDeed]=some false
 i_BadShare_NoLine:PySem.W.kitAny K (.ref C_BadShare) [.ref C_NoLine]=some false
 i_BadShare_NoRoom:PySem.W.kitAny K (.ref C_BadShare) [.ref C_NoRoom]=some false
 i_BadShare_NoRow:PySem.W.kitAny K (.ref C_BadShare) [.ref C_NoRow]=some false
 i_BadShare_NoText:PySem.W.kitAny K (.ref C_BadShare) [.ref C_NoText]=some false
 i_BadShare_TooMany:PySem.W.kitAny K (.ref C_BadShare) [.ref C_TooMany]=some false
 i_BadShare_Unknown:PySem.W.kitAny K (.ref C_BadShare) [.ref C_Unknown]=some false
 i_BadShare_Used:PySem.W.kitAny K (.ref C_BadShare) [.ref C_Used]=some false
 i_BadShare_ValueError:PySem.W.kitAny K (.ref C_BadShare) [.type "ValueError"]=some true
 i_Early_BadAsked:PySem.W.kitAny K (.ref C_Early) [.ref C_BadAsked]=some false
 i_Early_BadBerths:PySem.W.kitAny K (.ref C_Early) [.ref C_BadBerths]=some false
 i_Early_BadName:PySem.W.kitAny K (.ref C_Early) [.ref C_BadName]=some false
 i_Early_BadRow:PySem.W.kitAny K (.ref C_Early) [.ref C_BadRow]=some false
 i_Early_BadShare:PySem.W.kitAny K (.ref C_Early) [.ref C_BadShare]=some false
 i_Early_Early:PySem.W.kitAny K (.ref C_Early) [.ref C_Early]=some true
 i_Early_Known:PySem.W.kitAny K (.ref C_Early) [.ref C_Known]=some false
 i_Early_NoBack:PySem.W.kitAny K (.ref C_Early) [.ref C_NoBack]=some false
 i_Early_NoDeed:PySem.W.kitAny K (.ref C_Early) [.ref C_NoDeed]=some false
 i_Early_NoLine:PySem.W.kitAny K (.ref C_Early) [.ref C_NoLine]=some false
 i_Early_NoRoom:PySem.W.kitAny K (.ref C_Early) [.ref C_NoRoom]=some false
 i_Early_NoRow:PySem.W.kitAny K (.ref C_Early) [.ref C_NoRow]=some false
 i_Early_NoText:PySem.W.kitAny K (.ref C_Early) [.ref C_NoText]=some false
 i_Early_TooMany:PySem.W.kitAny K (.ref C_Early) [.ref C_TooMany]=some false
 i_Early_Unknown:PySem.W.kitAny K (.ref C_Early) [.ref C_Unknown]=some false
 i_Early_Used:PySem.W.kitAny K (.ref C_Early) [.ref C_Used]=some false
 i_Early_ValueError:PySem.W.kitAny K (.ref C_Early) [.type "ValueError"]=some true
 i_Known_BadAsked:PySem.W.kitAny K (.ref C_Known) [.ref C_BadAsked]=some false
 i_Known_BadBerths:PySem.W.kitAny K (.ref C_Known) [.ref C_BadBerths]=some false
 i_Known_BadName:PySem.W.kitAny K (.ref C_Known) [.ref C_BadName]=some false
 i_Known_BadRow:PySem.W.kitAny K (.ref C_Known) [.ref C_BadRow]=some false
 i_Known_BadShare:PySem.W.kitAny K (.ref C_Known) [.ref C_BadShare]=some false
 i_Known_Early:PySem.W.kitAny K (.ref C_Known) [.ref C_Early]=some false
 i_Known_Known:PySem.W.kitAny K (.ref C_Known) [.ref C_Known]=some true
 i_Known_NoBack:PySem.W.kitAny K (.ref C_Known) [.ref C_NoBack]=some false
 i_Known_NoDeed:PySem.W.kitAny K (.ref C_Known) [.ref C_NoDeed]=some false
 i_Known_NoLine:PySem.W.kitAny K (.ref C_Known) [.ref C_NoLine]=some false
 i_Known_NoRoom:PySem.W.kitAny K (.ref C_Known) [.ref C_NoRoom]=some false
 i_Known_NoRow:PySem.W.kitAny K (.ref C_Known) [.ref C_NoRow]=some false
 i_Known_NoText:PySem.W.kitAny K (.ref C_Known) [.ref C_NoText]=some false
 i_Known_TooMany:PySem.W.kitAny K (.ref C_Known) [.ref C_TooMany]=some false
 i_Known_Unknown:PySem.W.kitAny K (.ref C_Known) [.ref C_Unknown]=some false
 i_Known_Used:PySem.W.kitAny K (.ref C_Known) [.ref C_Used]=some false
 i_Known_ValueError:PySem.W.kitAny K (.ref C_Known) [.type "ValueError"]=some true
 i_NoBack_BadAsked:PySem.W.kitAny K (.ref C_NoBack) [.ref C_BadAsked]=some false
 i_NoBack_BadBerths:PySem.W.kitAny K (.ref C_NoBack) [.ref C_BadBerths]=some false
 i_NoBack_BadName:PySem.W.kitAny K (.ref C_NoBack) [.ref C_BadName]=some false
 i_NoBack_BadRow:PySem.W.kitAny K (.ref C_NoBack) [.ref C_BadRow]=some false
 i_NoBack_BadShare:PySem.W.kitAny K (.ref C_NoBack) [.ref C_BadShare]=some false
 i_NoBack_Early:PySem.W.kitAny K (.ref C_NoBack) [.ref C_Early]=some false
 i_NoBack_Known:PySem.W.kitAny K (.ref C_NoBack) [.ref C_Known]=some false
 i_NoBack_NoBack:PySem.W.kitAny K (.ref C_NoBack) [.ref C_NoBack]=some true
 i_NoBack_NoDeed:PySem.W.kitAny K (.ref C_NoBack) [.ref C_NoDeed]=some false
 i_NoBack_NoLine:PySem.W.kitAny K (.ref C_NoBack) [.ref C_NoLine]=some false
 i_NoBack_NoRoom:PySem.W.kitAny K (.ref C_NoBack) [.ref C_NoRoom]=some false
 i_NoBack_NoRow:PySem.W.kitAny K (.ref C_NoBack) [.ref C_NoRow]=some false
 i_NoBack_NoText:PySem.W.kitAny K (.ref C_NoBack) [.ref C_NoText]=some false
 i_NoBack_TooMany:PySem.W.kitAny K (.ref C_NoBack) [.ref C_TooMany]=some false
 i_NoBack_Unknown:PySem.W.kitAny K (.ref C_NoBack) [.ref C_Unknown]=some false
 i_NoBack_Used:PySem.W.kitAny K (.ref C_NoBack) [.ref C_Used]=some false
 i_NoBack_ValueError:PySem.W.kitAny K (.ref C_NoBack) [.type "ValueError"]=some true
 i_NoDeed_BadAsked:PySem.W.kitAny K (.ref C_NoDeed) [.ref C_BadAsked]=some false
 i_NoDeed_BadBerths:PySem.W.kitAny K (.ref C_NoDeed) [.ref C_BadBerths]=some false
 i_NoDeed_BadName:PySem.W.kitAny K (.ref C_NoDeed) [.ref C_BadName]=some false
 i_NoDeed_BadRow:PySem.W.kitAny K (.ref C_NoDeed) [.ref C_BadRow]=some false
 i_NoDeed_BadShare:PySem.W.kitAny K (.ref C_NoDeed) [.ref C_BadShare]=some false
 i_NoDeed_Early:PySem.W.kitAny K (.ref C_NoDeed) [.ref C_Early]=some false
 i_NoDeed_Known:PySem.W.kitAny K (.ref C_NoDeed) [.ref C_Known]=some false
 i_NoDeed_NoBack:PySem.W.kitAny K (.ref C_NoDeed) [.ref C_NoBack]=some false
 i_NoDeed_NoDeed:PySem.W.kitAny K (.ref C_NoDeed) [.ref C_NoDeed]=some true
 i_NoDeed_NoLine:PySem.W.kitAny K (.ref C_NoDeed) [.ref C_NoLine]=some false
 i_NoDeed_NoRoom:PySem.W.kitAny K (.ref C_NoDeed) [.ref C_NoRoom]=some false
 i_NoDeed_NoRow:PySem.W.kitAny K (.ref C_NoDeed) [.ref C_NoRow]=some false
 i_NoDeed_NoText:PySem.W.kitAny K (.ref C_NoDeed) [.ref C_NoText]=some false
 i_NoDeed_TooMany:PySem.W.kitAny K (.ref C_NoDeed) [.ref C_TooMany]=some false
 i_NoDeed_Unknown:PySem.W.kitAny K (.ref C_NoDeed) [.ref C_Unknown]=some false
 i_NoDeed_Used:PySem.W.kitAny K (.ref C_NoDeed) [.ref C_Used]=some false
 i_NoDeed_ValueError:PySem.W.kitAny K (.ref C_NoDeed) [.type "ValueError"]=some true
 i_NoLine_BadAsked:PySem.W.kitAny K (.ref C_NoLine) [.ref C_BadAsked]=some false
 i_NoLine_BadBerths:PySem.W.kitAny K (.ref C_NoLine) [.ref C_BadBerths]=some false
 i_NoLine_BadName:PySem.W.kitAny K (.ref C_NoLine) [.ref C_BadName]=some false
 i_NoLine_BadRow:PySem.W.kitAny K (.ref C_NoLine) [.ref C_BadRow]=some false
 i_NoLine_BadShare:PySem.W.kitAny K (.ref C_NoLine) [.ref C_BadShare]=some false
 i_NoLine_Early:PySem.W.kitAny K (.ref C_NoLine) [.ref C_Early]=some false
 i_NoLine_Known:PySem.W.kitAny K (.ref C_NoLine) [.ref C_Known]=some false
 i_NoLine_NoBack:PySem.W.kitAny K (.ref C_NoLine) [.ref C_NoBack]=some false
 i_NoLine_NoDeed:PySem.W.kitAny K (.ref C_NoLine) [.ref C_NoDeed]=some false
 i_NoLine_NoLine:PySem.W.kitAny K (.ref C_NoLine) [.ref C_NoLine]=some true
 i_NoLine_NoRoom:PySem.W.kitAny K (.ref C_NoLine) [.ref C_NoRoom]=some false
 i_NoLine_NoRow:PySem.W.kitAny K (.ref C_NoLine) [.ref C_NoRow]=some false
 i_NoLine_NoText:PySem.W.kitAny K (.ref C_NoLine) [.ref C_NoText]=some false
 i_NoLine_TooMany:PySem.W.kitAny K (.ref C_NoLine) [.ref C_TooMany]=some false
 i_NoLine_Unknown:PySem.W.kitAny K (.ref C_NoLine) [.ref C_Unknown]=some false
 i_NoLine_Used:PySem.W.kitAny K (.ref C_NoLine) [.ref C_Used]=some false
 i_NoLine_ValueError:PySem.W.kitAny K (.ref C_NoLine) [.type "ValueError"]=some true
 i_NoRoom_BadAsked:PySem.W.kitAny K (.ref C_NoRoom) [.ref C_BadAsked]=some false
 i_NoRoom_BadBerths:PySem.W.kitAny K (.ref C_NoRoom) [.ref C_BadBerths]=some false
 i_NoRoom_BadName:PySem.W.kitAny K (.ref C_NoRoom) [.ref C_BadName]=some false
 i_NoRoom_BadRow:PySem.W.kitAny K (.ref C_NoRoom) [.ref C_BadRow]=some false
 i_NoRoom_BadShare:PySem.W.kitAny K (.ref C_NoRoom) [.ref C_BadShare]=some false
 i_NoRoom_Early:PySem.W.kitAny K (.ref C_NoRoom) [.ref C_Early]=some false
 i_NoRoom_Known:PySem.W.kitAny K (.ref C_NoRoom) [.ref C_Known]=some false
 i_NoRoom_NoBack:PySem.W.kitAny K (.ref C_NoRoom) [.ref C_NoBack]=some false
 i_NoRoom_NoDeed:PySem.W.kitAny K (.ref C_NoRoom) [.ref C_NoDeed]=some false
 i_NoRoom_NoLine:PySem.W.kitAny K (.ref C_NoRoom) [.ref C_NoLine]=some false
 i_NoRoom_NoRoom:PySem.W.kitAny K (.ref C_NoRoom) [.ref C_NoRoom]=some true
 i_NoRoom_NoRow:PySem.W.kitAny K (.ref C_NoRoom) [.ref C_NoRow]=some false
 i_NoRoom_NoText:PySem.W.kitAny K (.ref C_NoRoom) [.ref C_NoText]=some false
 i_NoRoom_TooMany:PySem.W.kitAny K (.ref C_NoRoom) [.ref C_TooMany]=some false
 i_NoRoom_Unknown:PySem.W.kitAny K (.ref C_NoRoom) [.ref C_Unknown]=some false
 i_NoRoom_Used:PySem.W.kitAny K (.ref C_NoRoom) [.ref C_Used]=some false
 i_NoRoom_ValueError:PySem.W.kitAny K (.ref C_NoRoom) [.type "ValueError"]=some true
 i_NoRow_BadAsked:PySem.W.kitAny K (.ref C_NoRow) [.ref C_BadAsked]=some false
 i_NoRow_BadBerths:PySem.W.kitAny K (.ref C_NoRow) [.ref C_BadBerths]=some false
 i_NoRow_BadName:PySem.W.kitAny K (.ref C_NoRow) [.ref C_BadName]=some false
 i_NoRow_BadRow:PySem.W.kitAny K (.ref C_NoRow) [.ref C_BadRow]=some false
 i_NoRow_BadShare:PySem.W.kitAny K (.ref C_NoRow) [.ref C_BadShare]=some false
 i_NoRow_Early:PySem.W.kitAny K (.ref C_NoRow) [.ref C_Early]=some false
 i_NoRow_Known:PySem.W.kitAny K (.ref C_NoRow) [.ref C_Known]=some false
 i_NoRow_NoBack:PySem.W.kitAny K (.ref C_NoRow) [.ref C_NoBack]=some false
 i_NoRow_NoDeed:PySem.W.kitAny K (.ref C_NoRow) [.ref C_NoDeed]=some false
 i_NoRow_NoLine:PySem.W.kitAny K (.ref C_NoRow) [.ref C_NoLine]=some false
 i_NoRow_NoRoom:PySem.W.kitAny K (.ref C_NoRow) [.ref C_NoRoom]=some false
 i_NoRow_NoRow:PySem.W.kitAny K (.ref C_NoRow) [.ref C_NoRow]=some true
 i_NoRow_NoText:PySem.W.kitAny K (.ref C_NoRow) [.ref C_NoText]=some false
 i_NoRow_TooMany:PySem.W.kitAny K (.ref C_NoRow) [.ref C_TooMany]=some false
 i_NoRow_Unknown:PySem.W.kitAny K (.ref C_NoRow) [.ref C_Unknown]=some false
 i_NoRow_Used:PySem.W.kitAny K (.ref C_NoRow) [.ref C_Used]=some false
 i_NoRow_ValueError:PySem.W.kitAny K (.ref C_NoRow) [.type "ValueError"]=some true
 i_NoText_BadAsked:PySem.W.kitAny K (.ref C_NoText) [.ref C_BadAsked]=some false
 i_NoText_BadBerths:PySem.W.kitAny K (.ref C_NoText) [.ref C_BadBerths]=some false
 i_NoText_BadName:PySem.W.kitAny K (.ref C_NoText) [.ref C_BadName]=some false
 i_NoText_BadRow:PySem.W.kitAny K (.ref C_NoText) [.ref C_BadRow]=some false
 i_NoText_BadShare:PySem.W.kitAny K (.ref C_NoText) [.ref C_BadShare]=some false
 i_NoText_Early:PySem.W.kitAny K (.ref C_NoText) [.ref C_Early]=some false
 i_NoText_Known:PySem.W.kitAny K (.ref C_NoText) [.ref C_Known]=some false
 i_NoText_NoBack:PySem.W.kitAny K (.ref C_NoText) [.ref C_NoBack]=some false
 i_NoText_NoDeed:PySem.W.kitAny K (.ref C_NoText) [.ref C_NoDeed]=some false
 i_NoText_NoLine:PySem.W.kitAny K (.ref C_NoText) [.ref C_NoLine]=some false
 i_NoText_NoRoom:PySem.W.kitAny K (.ref C_NoText) [.ref C_NoRoom]=some false
 i_NoText_NoRow:PySem.W.kitAny K (.ref C_NoText) [.ref C_NoRow]=some false
 i_NoText_NoText:PySem.W.kitAny K (.ref C_NoText) [.ref C_NoText]=some true
 i_NoText_TooMany:PySem.W.kitAny K (.ref C_NoText) [.ref C_TooMany]=some false
 i_NoText_Unknown:PySem.W.kitAny K (.ref C_NoText) [.ref C_Unknown]=some false
 i_NoText_Used:PySem.W.kitAny K (.ref C_NoText) [.ref C_Used]=some false
 i_NoText_ValueError:PySem.W.kitAny K (.ref C_NoText) [.type "ValueError"]=some true
 i_PlaceError_BadAsked:PySem.W.kitAny K (.ref C_PlaceError) [.ref C_BadAsked]=some false
 i_PlaceError_BadBerths:PySem.W.kitAny K (.ref C_PlaceError) [.ref C_BadBerths]=some false
 i_PlaceError_BadName:PySem.W.kitAny K (.ref C_PlaceError) [.ref C_BadName]=some false
 i_PlaceError_BadRow:PySem.W.kitAny K (.ref C_PlaceError) [.ref C_BadRow]=some false
 i_PlaceError_BadShare:PySem.W.kitAny K (.ref C_PlaceError) [.ref C_BadShare]=some false
 i_PlaceError_Early:PySem.W.kitAny K (.ref C_PlaceError) [.ref C_Early]=some false
 i_PlaceError_Known:PySem.W.kitAny K (.ref C_PlaceError) [.ref C_Known]=some false
 i_PlaceError_NoBack:PySem.W.kitAny K (.ref C_PlaceError) [.ref C_NoBack]=some false
 i_PlaceError_NoDeed:PySem.W.kitAny K (.ref C_PlaceError) [.ref C_NoDeed]=some false
 i_PlaceError_NoLine:PySem.W.kitAny K (.ref C_PlaceError) [.ref C_NoLine]=some false
 i_PlaceError_NoRoom:PySem.W.kitAny K (.ref C_PlaceError) [.ref C_NoRoom]=some false
 i_PlaceError_NoRow:PySem.W.kitAny K (.ref C_PlaceError) [.ref C_NoRow]=some false
 i_PlaceError_NoText:PySem.W.kitAny K (.ref C_PlaceError) [.ref C_NoText]=some false
 i_PlaceError_TooMany:PySem.W.kitAny K (.ref C_PlaceError) [.ref C_TooMany]=some false
 i_PlaceError_Unknown:PySem.W.kitAny K (.ref C_PlaceError) [.ref C_Unknown]=some false
 i_PlaceError_Used:PySem.W.kitAny K (.ref C_PlaceError) [.ref C_Used]=some false
 i_PlaceError_ValueError:PySem.W.kitAny K (.ref C_PlaceError) [.type "ValueError"]=some true
 i_TooMany_BadAsked:PySem.W.kitAny K (.ref C_TooMany) [.ref C_BadAsked]=some false
 i_TooMany_BadBerths:PySem.W.kitAny K (.ref C_TooMany) [.ref C_BadBerths]=some false
 i_TooMany_BadName:PySem.W.kitAny K (.ref C_TooMany) [.ref C_BadName]=some false
 i_TooMany_BadRow:PySem.W.kitAny K (.ref C_TooMany) [.ref C_BadRow]=some false
 i_TooMany_BadShare:PySem.W.kitAny K (.ref C_TooMany) [.ref C_BadShare]=some false
 i_TooMany_Early:PySem.W.kitAny K (.ref C_TooMany) [.ref C_Early]=some false
 i_TooMany_Known:PySem.W.kitAny K (.ref C_TooMany) [.ref C_Known]=some false
 i_TooMany_NoBack:PySem.W.kitAny K (.ref C_TooMany) [.ref C_NoBack]=some false
 i_TooMany_NoDeed:PySem.W.kitAny K (.ref C_TooMany) [.ref C_NoDeed]=some false
 i_TooMany_NoLine:PySem.W.kitAny K (.ref C_TooMany) [.ref C_NoLine]=some false
 i_TooMany_NoRoom:PySem.W.kitAny K (.ref C_TooMany) [.ref C_NoRoom]=some false
 i_TooMany_NoRow:PySem.W.kitAny K (.ref C_TooMany) [.ref C_NoRow]=some false
 i_TooMany_NoText:PySem.W.kitAny K (.ref C_TooMany) [.ref C_NoText]=some false
 i_TooMany_TooMany:PySem.W.kitAny K (.ref C_TooMany) [.ref C_TooMany]=some true
 i_TooMany_Unknown:PySem.W.kitAny K (.ref C_TooMany) [.ref C_Unknown]=some false
 i_TooMany_Used:PySem.W.kitAny K (.ref C_TooMany) [.ref C_Used]=some false
 i_TooMany_ValueError:PySem.W.kitAny K (.ref C_TooMany) [.type "ValueError"]=some true
 i_Unknown_BadAsked:PySem.W.kitAny K (.ref C_Unknown) [.ref C_BadAsked]=some false
 i_Unknown_BadBerths:PySem.W.kitAny K (.ref C_Unknown) [.ref C_BadBerths]=some false
 i_Unknown_BadName:PySem.W.kitAny K (.ref C_Unknown) [.ref C_BadName]=some false
 i_Unknown_BadRow:PySem.W.kitAny K (.ref C_Unknown) [.ref C_BadRow]=some false
 i_Unknown_BadShare:PySem.W.kitAny K (.ref C_Unknown) [.ref C_BadShare]=some false
 i_Unknown_Early:PySem.W.kitAny K (.ref C_Unknown) [.ref C_Early]=some false
 i_Unknown_Known:PySem.W.kitAny K (.ref C_Unknown) [.ref C_Known]=some false
 i_Unknown_NoBack:PySem.W.kitAny K (.ref C_Unknown) [.ref C_NoBack]=some false
 i_Unknown_NoDeed:PySem.W.kitAny K (.ref C_Unknown) [.ref C_NoDeed]=some false
 i_Unknown_NoLine:PySem.W.kitAny K (.ref C_Unknown) [.ref C_NoLine]=some false
 i_Unknown_NoRoom:PySem.W.kitAny K (.ref C_Unknown) [.ref C_NoRoom]=some false
 i_Unknown_NoRow:PySem.W.kitAny K (.ref C_Unknown) [.ref C_NoRow]=some false
 i_Unknown_NoText:PySem.W.kitAny K (.ref C_Unknown) [.ref C_NoText]=some false
 i_Unknown_TooMany:PySem.W.kitAny K (.ref C_Unknown) [.ref C_TooMany]=some false
 i_Unknown_Unknown:PySem.W.kitAny K (.ref C_Unknown) [.ref C_Unknown]=some true
 i_Unknown_Used:PySem.W.kitAny K (.ref C_Unknown) [.ref C_Used]=some false
 i_Unknown_ValueError:PySem.W.kitAny K (.ref C_Unknown) [.type "ValueError"]=some true
 i_Used_BadAsked:PySem.W.kitAny K (.ref C_Used) [.ref C_BadAsked]=some false
 i_Used_BadBerths:PySem.W.kitAny K (.ref C_Used) [.ref C_BadBerths]=some false
 i_Used_BadName:PySem.W.kitAny K (.ref C_Used) [.ref C_BadName]=some false
 i_Used_BadRow:PySem.W.kitAny K (.ref C_Used) [.ref C_BadRow]=some false
 i_Used_BadShare:PySem.W.kitAny K (.ref C_Used) [.ref C_BadShare]=some false
 i_Used_Early:PySem.W.kitAny K (.ref C_Used) [.ref C_Early]=some false
 i_Used_Known:PySem.W.kitAny K (.ref C_Used) [.ref C_Known]=some false
 i_Used_NoBack:PySem.W.kitAny K (.ref C_Used) [.ref C_NoBack]=some false
 i_Used_NoDeed:PySem.W.kitAny K (.ref C_Used) [.ref C_NoDeed]=some false
 i_Used_NoLine:PySem.W.kitAny K (.ref C_Used) [.ref C_NoLine]=some false
 i_Used_NoRoom:PySem.W.kitAny K (.ref C_Used) [.ref C_NoRoom]=some false
 i_Used_NoRow:PySem.W.kitAny K (.ref C_Used) [.ref C_NoRow]=some false
 i_Used_NoText:PySem.W.kitAny K (.ref C_Used) [.ref C_NoText]=some false
 i_Used_TooMany:PySem.W.kitAny K (.ref C_Used) [.ref C_TooMany]=some false
 i_Used_Unknown:PySem.W.kitAny K (.ref C_Used) [.ref C_Unknown]=some false
 i_Used_Used:PySem.W.kitAny K (.ref C_Used) [.ref C_Used]=some true
 i_Used_ValueError:PySem.W.kitAny K (.ref C_Used) [.type "ValueError"]=some true
 xk_NoBack:PySem.W.keepIn K (.ref C_NoBack)=true
 xk_NoDeed:PySem.W.keepIn K (.ref C_NoDeed)=true
 xk_NoLine:PySem.W.keepIn K (.ref C_NoLine)=true
 xk_NoText:PySem.W.keepIn K (.ref C_NoText)=true
 xk_PlaceError:PySem.W.keepIn K (.ref C_PlaceError)=true
 xn_NoBack:XO.xno K C_NoBack=true
 xn_NoDeed:XO.xno K C_NoDeed=true
 xn_NoLine:XO.xno K C_NoLine=true
 xn_NoText:XO.xno K C_NoText=true
 xn_PlaceError:XO.xno K C_PlaceError=true
 xt_NoBack:PySem.W.typeIn K (.ref C_NoBack)=some (.type "type")
 xt_NoDeed:PySem.W.typeIn K (.ref C_NoDeed)=some (.type "type")
 xt_NoLine:PySem.W.typeIn K (.ref C_NoLine)=some (.type "type")
 xt_NoText:PySem.W.typeIn K (.ref C_NoText)=some (.type "type")
 xt_PlaceError:PySem.W.typeIn K (.ref C_PlaceError)=some (.type "type")
 n_BadAsked_at:NoAttr K C_BadAsked "at"
 n_BadBerths_at:NoAttr K C_BadBerths "at"
 n_BadName_at:NoAttr K C_BadName "at"
 n_BadRow_at:NoAttr K C_BadRow "at"
 n_BadShare_at:NoAttr K C_BadShare "at"
 n_Early_until:NoAttr K C_Early "until"
 n_Known_name:NoAttr K C_Known "name"
 n_NoRoom_demanded:NoAttr K C_NoRoom "demanded"
 n_NoRoom_first:NoAttr K C_NoRoom "first"
 n_NoRoom_room:NoAttr K C_NoRoom "room"
 n_NoRow_at:NoAttr K C_NoRow "at"
 n_TooMany_most:NoAttr K C_TooMany "most"
 n_Unknown_name:NoAttr K C_Unknown "name"
 n_Used_name:NoAttr K C_Used "name"
 b_ValueError:mg "ValueError" = none
 b_abs:mg "abs" = none
 b_int:mg "int" = none
 b_isinstance:mg "isinstance" = none
 b_len:mg "len" = none
 b_range:mg "range" = none
 b_repr:mg "repr" = none
section
variable {P:Program}{w:World}{K:PySem.W.Frag}{mg:Str->Option Value}{base:Heap}
theorem ndc_0:(["_law_cell"]:List Str).Nodup:=by decide +kernel
theorem sc_l_bag:FnScope N_l_bag ["_law_script"] (defScope s_l_bag):=⟨rfl,rfl,rfl,by decide +kernel,rfl,by decide +kernel,by decide +kernel⟩
theorem ok_l_bag {f:Addr}{fd:FuncData}(E:Env K mg)(F:Fn K mg "_law_bag" s_l_bag ["_law_script"] f fd) :
  FnOk P w K mg base CX0 1 f fd ["_law_script"] (upSp K sp_l_bag):=by
 refine fun_ok (t:=t_l_bag) F.fn sc_l_bag len_l_bag (λ cdv A outer s H E' hr=>?_) read_l_bag
 refine Jd.h ?_
 exact Q.pssd_one (Q.psd_ret (Q.pd_lstM (Q.pac (Q.pd_int) (Q.pac (Q.pd_int) (Q.pac (Q.pd_int) (Q.pac (Q.pd_lc rfl (lcOk (own:=(["_law_cell"]:List Str)) (fr:=[]) rfl) (Q.pid_items (Q.pd_slice (Q.dv 0) (Q.pod_none) (Q.pod_some (Q.pd_int)))) (λ _ _ _ _ _ _=>Q.pgd_name (i:=0) ndc_0 rfl (Or.inl rfl)) (λ _ _ _ _ _ _=>Q.ptsd_nil) (λ _ _ _ _ _ _=>Q.pcB call_abs cd_abs rfl E.b_abs bb_abs (Q.pac (Q.dv 0) (Q.pad_nil)))) (Q.pad_nil)))))))
theorem sc_l_take:FnScope N_l_take ["_law_bag_here", "_law_many"] (defScope s_l_take):=⟨rfl,rfl,rfl,by decide +kernel,rfl,by decide +kernel,by decide +kernel⟩
theorem ok_l_take {f:Addr}{fd:FuncData}(E:Env K mg)(F:Fn K mg "_law_take" s_l_take ["_law_bag_here", "_law_many"] f fd) :
  FnOk P w K mg base CX0 1 f fd ["_law_bag_here", "_law_many"] (upSp K sp_l_take):=by
 refine fun_ok (t:=t_l_take) F.fn sc_l_take len_l_take (λ cdv A outer s H E' hr=>?_) read_l_take
 refine Jd.h ?_
 exact Q.pssd_cons (Q.psd_if (Q.ptd_cmp (op_eqD hr) opd_eq (Q.pd_ix ix_seq opd_ix (Q.dv 0) (Q.pd_int)) (Q.pd_int))
   (Q.pssd_cons (Q.psd_set (i:=2) sc_l_take.nd rfl (Or.inl rfl) (Q.pd_int)) <|
   Q.pssd_cons (Q.psd_if (Q.ptd_cmp op_lt opd_lt (Q.pd_ix ix_seq opd_ix (Q.dv 0) (Q.pd_int)) (Q.pcB call_len cd_len rfl E.b_len bb_len (Q.pac (Q.pd_ix ix_seq opd_ix (Q.dv 0) (Q.pd_int)) (Q.pad_nil))))
    (Q.pssd_one (Q.psd_set (i:=2) sc_l_take.nd rfl (Or.inl rfl) (Q.pd_ix ix_seq opd_ix (Q.pd_ix ix_seq opd_ix (Q.dv 0) (Q.pd_int)) (Q.pd_ix ix_seq opd_ix (Q.dv 0) (Q.pd_int)))))
    (Q.pssd_nil)) <|
   Q.pssd_cons (Q.psd_augS (Q.dv 0) (Q.pd_int) (Q.pd_int) ip_add) <|
   Q.pssd_cons (Q.psd_if (Q.ptd_cmp op_ge opd_ge (Q.dv 2) (Q.pd_int))
    (Q.pssd_one (Q.psd_asg (Q.dv 2) (Q.pgd_sub (Q.dv 0) (Q.pd_int))))
    (Q.pssd_nil)) <|
   Q.pssd_one (Q.psd_asg (Q.pd_op op_mod opd_mod (Q.pd_op op_add2 opd_add2 (Q.pd_op op_add2 opd_add2 (Q.pd_op op_mul opd_mul (Q.pd_ix ix_seq opd_ix (Q.dv 0) (Q.pd_int)) (Q.pd_int)) (Q.pd_op op_mod opd_mod (Q.dv 2) (Q.pd_int))) (Q.pd_op op_mul opd_mul (Q.pd_int) (Q.pd_ix ix_seq opd_ix (Q.dv 0) (Q.pd_int)))) (Q.pd_int)) (Q.pgd_sub (Q.dv 0) (Q.pd_int))))
   (Q.pssd_nil)) <|
  Q.pssd_cons (Q.psd_if (Q.ptd_cmp op_gt opd_gt (Q.pd_ix ix_seq opd_ix (Q.dv 0) (Q.pd_int)) (Q.pd_int))
   (Q.pssd_cons (Q.psd_set (i:=3) sc_l_take.nd rfl (Or.inl rfl) (Q.pd_op op_mod opd_mod (Q.pd_ix ix_seq opd_ix (Q.dv 0) (Q.pd_int)) (Q.dv 1))) <|
   Q.pssd_cons (Q.psd_asg (Q.pd_op op_fdiv opd_div (Q.pd_ix ix_seq opd_ix (Q.dv 0) (Q.pd_int)) (Q.dv 1)) (Q.pgd_sub (Q.dv 0) (Q.pd_int))) <|
   Q.pssd_one (Q.psd_ret (Q.dv 3)))
   (Q.pssd_nil)) <|
  Q.pssd_cons (Q.psd_set (i:=4) sc_l_take.nd rfl (Or.inl rfl) (Q.pd_op op_mod opd_mod (Q.pd_op op_mul opd_mul (Q.pd_op op_add2 opd_add2 (Q.pd_ix ix_seq opd_ix (Q.dv 0) (Q.pd_int)) (Q.pd_int)) (Q.pd_int)) (Q.pd_int))) <|
  Q.pssd_cons (Q.psd_set (i:=5) sc_l_take.nd rfl (Or.inl rfl) (Q.pd_op op_mod opd_mod (Q.pd_op op_mul opd_mul (Q.pd_op op_mod opd_mod (Q.pd_op op_mul opd_mul (Q.dv 4) (Q.dv 4)) (Q.pd_int)) (Q.pd_int)) (Q.pd_int))) <|
  Q.pssd_cons (Q.psd_if (Q.ptd_cmp op_gt opd_gt (Q.dv 1) (Q.pd_int))
   (Q.pssd_one (Q.psd_ret (Q.pd_op op_mod opd_mod (Q.pd_op op_add2 opd_add2 (Q.pd_op op_mul opd_mul (Q.dv 5) (Q.pd_int)) (Q.dv 4)) (Q.dv 1))))
   (Q.pssd_nil)) <|
  Q.pssd_one (Q.psd_ret (Q.pd_op op_mod opd_mod (Q.pd_op op_fdiv opd_div (Q.dv 5) (Q.pd_int)) (Q.dv 1)))
theorem sc_l_thing:FnScope N_l_thing ["_law_bag_here"] (defScope s_l_thing):=⟨rfl,rfl,rfl,by decide +kernel,rfl,by decide +kernel,by decide +kernel⟩
theorem ok_l_thing {f:Addr}{fd:FuncData}(E:Env K mg)(F:Fn K mg "_law_thing" s_l_thing ["_law_bag_here"] f fd)
  {f_l_take:Addr}{fd_l_take:FuncData}(G_l_take:Fn K mg "_law_take" s_l_take ["_law_bag_here", "_law_many"] f_l_take fd_l_take)(O_l_take:FnOk P w K mg base CX0 1 f_l_take fd_l_take ["_law_bag_here", "_law_many"] (upSp K sp_l_take)) :
  FnOk P w K mg base CX0 2 f fd ["_law_bag_here"] (upSp K sp_l_thing):=by
 refine fun_ok (t:=t_l_thing sp_l_take) F.fn sc_l_thing len_l_thing (λ cdv A outer s H E' hr=>?_) read_l_thing
 refine Jd.h ?_
 exact Q.pssd_cons (Q.psd_set (i:=1) sc_l_thing.nd rfl (Or.inl rfl) (Q.pcF O_l_take (hr.mono (by decide)) rfl G_l_take.mg G_l_take.fn.kp G_l_take.bd (Q.pac (Q.dv 0) (Q.pac (Q.pd_op op_pow opd_pow (Q.pd_int) (Q.pd_int)) (Q.pad_nil))))) <|
  Q.pssd_cons (Q.psd_set (i:=2) sc_l_thing.nd rfl (Or.inl rfl) (Q.pd_lst (Q.pac (Q.dv 1) (Q.pac (Q.pd_op op_sub opd_sub (Q.pd_un un_neg und_neg (Q.dv 1)) (Q.pd_int)) (Q.pac (Q.pd_op op_add2 opd_add2 (Q.pd_op op_pow opd_pow (Q.pd_int) (Q.pd_int)) (Q.dv 1)) (Q.pac (Q.pd_str) (Q.pac (Q.pd_str) (Q.pac (Q.pd_bl) (Q.pac (Q.pd_bl) (Q.pac (Q.pd_non) (Q.pac (Q.pd_tup (Q.pac (Q.dv 1) (Q.pac (Q.pd_str) (Q.pad_nil)))) (Q.pac (Q.pd_tup (Q.pad_nil)) (Q.pac (Q.pd_lst (Q.pac (Q.dv 1) (Q.pad_nil))) (Q.pac (Q.pd_lst (Q.pad_nil)) (Q.pad_nil))))))))))))))) <|
  Q.pssd_cons (Q.psd_set (i:=2) sc_l_thing.nd rfl (Or.inl rfl) (Q.pd_cat (Q.dv 2) (Q.pd_lst (Q.pac (Q.pd_lst (Q.pac (Q.pd_lst (Q.pac (Q.dv 1) (Q.pad_nil))) (Q.pac (Q.pd_tup (Q.pad_nil)) (Q.pad_nil)))) (Q.pac (Q.pd_dict (trs:=[(dVar 1,dC (.d (.int 1)))]) (Q.pps_cons (Q.dv 1) (Q.pd_int) (Q.pps_nil))) (Q.pac (Q.pd_dict0) (Q.pac (Q.pd_tup (Q.pac (Q.pd_non) (Q.pac (Q.pd_tup (Q.pac (Q.pd_bl) (Q.pad_nil))) (Q.pad_nil)))) (Q.pad_nil)))))))) <|
  Q.pssd_one (Q.psd_ret (Q.pd_ix ix_seq opd_ix (Q.dv 2) (Q.pcF O_l_take (hr.mono (by decide)) rfl G_l_take.mg G_l_take.fn.kp G_l_take.bd (Q.pac (Q.dv 0) (Q.pac (Q.pd_int) (Q.pad_nil))))))
theorem sc_NoRow_init:FnScope N_NoRow_init ["self", "at"] (defScope s_NoRow_init):=⟨rfl,rfl,rfl,by decide +kernel,rfl,by decide +kernel,by decide +kernel⟩
theorem ok_NoRow_init {f:Addr}{fd:FuncData}(E:Env K mg)(F:Xi K C_NoRow "NoRow.__init__" s_NoRow_init ["self", "at"] f fd):FnOk P w K mg base CX0 1 f fd ["self", "at"] (xinit C_NoRow ["at"]):=init1 F.fn sc_NoRow_init F.xm.xc E.n_NoRow_at rfl (λ _=>rfl) rfl rfl
theorem sc_BadName_init:FnScope N_BadName_init ["self", "at"] (defScope s_BadName_init):=⟨rfl,rfl,rfl,by decide +kernel,rfl,by decide +kernel,by decide +kernel⟩
theorem ok_BadName_init {f:Addr}{fd:FuncData}(E:Env K mg)(F:Xi K C_BadName "BadName.__init__" s_BadName_init ["self", "at"] f fd):FnOk P w K mg base CX0 1 f fd ["self", "at"] (xinit C_BadName ["at"]):=init1 F.fn sc_BadName_init F.xm.xc E.n_BadName_at rfl (λ _=>rfl) rfl rfl
theorem sc_BadBerths_init:FnScope N_BadBerths_init ["self", "at"] (defScope s_BadBerths_init):=⟨rfl,rfl,rfl,by decide +kernel,rfl,by decide +kernel,by decide +kernel⟩
theorem ok_BadBerths_init {f:Addr}{fd:FuncData}(E:Env K mg)(F:Xi K C_BadBerths "BadBerths.__init__" s_BadBerths_init ["self", "at"] f fd):FnOk P w K mg base CX0 1 f fd ["self", "at"] (xinit C_BadBerths ["at"]):=init1 F.fn sc_BadBerths_init F.xm.xc E.n_BadBerths_at rfl (λ _=>rfl) rfl rfl
theorem sc_BadAsked_init:FnScope N_BadAsked_init ["self", "at"] (defScope s_BadAsked_init):=⟨rfl,rfl,rfl,by decide +kernel,rfl,by decide +kernel,by decide +kernel⟩
theorem ok_BadAsked_init {f:Addr}{fd:FuncData}(E:Env K mg)(F:Xi K C_BadAsked "BadAsked.__init__" s_BadAsked_init ["self", "at"] f fd):FnOk P w K mg base CX0 1 f fd ["self", "at"] (xinit C_BadAsked ["at"]):=init1 F.fn sc_BadAsked_init F.xm.xc E.n_BadAsked_at rfl (λ _=>rfl) rfl rfl
theorem sc_BadShare_init:FnScope N_BadShare_init ["self", "at"] (defScope s_BadShare_init):=⟨rfl,rfl,rfl,by decide +kernel,rfl,by decide +kernel,by decide +kernel⟩
theorem ok_BadShare_init {f:Addr}{fd:FuncData}(E:Env K mg)(F:Xi K C_BadShare "BadShare.__init__" s_BadShare_init ["self", "at"] f fd):FnOk P w K mg base CX0 1 f fd ["self", "at"] (xinit C_BadShare ["at"]):=init1 F.fn sc_BadShare_init F.xm.xc E.n_BadShare_at rfl (λ _=>rfl) rfl rfl
theorem sc_BadRow_init:FnScope N_BadRow_init ["self", "at"] (defScope s_BadRow_init):=⟨rfl,rfl,rfl,by decide +kernel,rfl,by decide +kernel,by decide +kernel⟩
theorem ok_BadRow_init {f:Addr}{fd:FuncData}(E:Env K mg)(F:Xi K C_BadRow "BadRow.__init__" s_BadRow_init ["self", "at"] f fd):FnOk P w K mg base CX0 1 f fd ["self", "at"] (xinit C_BadRow ["at"]):=init1 F.fn sc_BadRow_init F.xm.xc E.n_BadRow_at rfl (λ _=>rfl) rfl rfl
theorem sc_Unknown_init:FnScope N_Unknown_init ["self", "name"] (defScope s_Unknown_init):=⟨rfl,rfl,rfl,by decide +kernel,rfl,by decide +kernel,by decide +kernel⟩
theorem ok_Unknown_init {f:Addr}{fd:FuncData}(E:Env K mg)(F:Xi K C_Unknown "Unknown.__init__" s_Unknown_init ["self", "name"] f fd):FnOk P w K mg base CX0 1 f fd ["self", "name"] (xinit C_Unknown ["name"]):=init1 F.fn sc_Unknown_init F.xm.xc E.n_Unknown_name rfl (λ _=>rfl) rfl rfl
theorem sc_Known_init:FnScope N_Known_init ["self", "name"] (defScope s_Known_init):=⟨rfl,rfl,rfl,by decide +kernel,rfl,by decide +kernel,by decide +kernel⟩
theorem ok_Known_init {f:Addr}{fd:FuncData}(E:Env K mg)(F:Xi K C_Known "Known.__init__" s_Known_init ["self", "name"] f fd):FnOk P w K mg base CX0 1 f fd ["self", "name"] (xinit C_Known ["name"]):=init1 F.fn sc_Known_init F.xm.xc E.n_Known_name rfl (λ _=>rfl) rfl rfl
theorem sc_Used_init:FnScope N_Used_init ["self", "name"] (defScope s_Used_init):=⟨rfl,rfl,rfl,by decide +kernel,rfl,by decide +kernel,by decide +kernel⟩
theorem ok_Used_init {f:Addr}{fd:FuncData}(E:Env K mg)(F:Xi K C_Used "Used.__init__" s_Used_init ["self", "name"] f fd):FnOk P w K mg base CX0 1 f fd ["self", "name"] (xinit C_Used ["name"]):=init1 F.fn sc_Used_init F.xm.xc E.n_Used_name rfl (λ _=>rfl) rfl rfl
theorem sc_TooMany_init:FnScope N_TooMany_init ["self", "most"] (defScope s_TooMany_init):=⟨rfl,rfl,rfl,by decide +kernel,rfl,by decide +kernel,by decide +kernel⟩
theorem ok_TooMany_init {f:Addr}{fd:FuncData}(E:Env K mg)(F:Xi K C_TooMany "TooMany.__init__" s_TooMany_init ["self", "most"] f fd):FnOk P w K mg base CX0 1 f fd ["self", "most"] (xinit C_TooMany ["most"]):=init1 F.fn sc_TooMany_init F.xm.xc E.n_TooMany_most rfl (λ _=>rfl) rfl rfl
theorem sc_Early_init:FnScope N_Early_init ["self", "until"] (defScope s_Early_init):=⟨rfl,rfl,rfl,by decide +kernel,rfl,by decide +kernel,by decide +kernel⟩
theorem ok_Early_init {f:Addr}{fd:FuncData}(E:Env K mg)(F:Xi K C_Early "Early.__init__" s_Early_init ["self", "until"] f fd):FnOk P w K mg base CX0 1 f fd ["self", "until"] (xinit C_Early ["until"]):=init1 F.fn sc_Early_init F.xm.xc E.n_Early_until rfl (λ _=>rfl) rfl rfl
theorem sc_NoRoom_init:FnScope N_NoRoom_init ["self", "first", "demanded", "room"] (defScope s_NoRoom_init):=⟨rfl,rfl,rfl,by decide +kernel,rfl,by decide +kernel,by decide +kernel⟩
theorem ok_NoRoom_init {f:Addr}{fd:FuncData}(E:Env K mg)(F:Xi K C_NoRoom "NoRoom.__init__" s_NoRoom_init ["self", "first", "demanded", "room"] f fd):FnOk P w K mg base CX0 1 f fd ["self", "first", "demanded", "room"] (xinit C_NoRoom ["first", "demanded", "room"]):=init3 F.fn sc_NoRoom_init F.xm.xc E.n_NoRoom_first E.n_NoRoom_demanded E.n_NoRoom_room rfl (λ _=>rfl) (λ _=>rfl) (λ _=>rfl) (by decide) (by decide)
theorem sc_l_raised:FnScope N_l_raised ["_law_k", "_law_thing_here", "_law_word"] (defScope s_l_raised):=⟨rfl,rfl,rfl,by decide +kernel,rfl,by decide +kernel,by decide +kernel⟩
theorem ok_l_raised {f:Addr}{fd:FuncData}(E:Env K mg)(F:Fn K mg "_law_raised" s_l_raised ["_law_k", "_law_thing_here", "_law_word"] f fd)
  {f_NoRow_init:Addr}{fd_NoRow_init:FuncData}(G_NoRow_init:Xi K C_NoRow "NoRow.__init__" s_NoRow_init ["self", "at"] f_NoRow_init fd_NoRow_init)(O_NoRow_init:FnOk P w K mg base CX0 1 f_NoRow_init fd_NoRow_init ["self", "at"] (xinit C_NoRow ["at"]))
  {f_BadName_init:Addr}{fd_BadName_init:FuncData}(G_BadName_init:Xi K C_BadName "BadName.__init__" s_BadName_init ["self", "at"] f_BadName_init fd_BadName_init)(O_BadName_init:FnOk P w K mg base CX0 1 f_BadName_init fd_BadName_init ["self", "at"] (xinit C_BadName ["at"]))
  {f_BadBerths_init:Addr}{fd_BadBerths_init:FuncData}(G_BadBerths_init:Xi K C_BadBerths "BadBerths.__init__" s_BadBerths_init ["self", "at"] f_BadBerths_init fd_BadBerths_init)(O_BadBerths_init:FnOk P w K mg base CX0 1 f_BadBerths_init fd_BadBerths_init ["self", "at"] (xinit C_BadBerths ["at"]))
  {f_BadAsked_init:Addr}{fd_BadAsked_init:FuncData}(G_BadAsked_init:Xi K C_BadAsked "BadAsked.__init__" s_BadAsked_init ["self", "at"] f_BadAsked_init fd_BadAsked_init)(O_BadAsked_init:FnOk P w K mg base CX0 1 f_BadAsked_init fd_BadAsked_init ["self", "at"] (xinit C_BadAsked ["at"]))
  {f_BadShare_init:Addr}{fd_BadShare_init:FuncData}(G_BadShare_init:Xi K C_BadShare "BadShare.__init__" s_BadShare_init ["self", "at"] f_BadShare_init fd_BadShare_init)(O_BadShare_init:FnOk P w K mg base CX0 1 f_BadShare_init fd_BadShare_init ["self", "at"] (xinit C_BadShare ["at"]))
  {f_BadRow_init:Addr}{fd_BadRow_init:FuncData}(G_BadRow_init:Xi K C_BadRow "BadRow.__init__" s_BadRow_init ["self", "at"] f_BadRow_init fd_BadRow_init)(O_BadRow_init:FnOk P w K mg base CX0 1 f_BadRow_init fd_BadRow_init ["self", "at"] (xinit C_BadRow ["at"]))
  {f_Unknown_init:Addr}{fd_Unknown_init:FuncData}(G_Unknown_init:Xi K C_Unknown "Unknown.__init__" s_Unknown_init ["self", "name"] f_Unknown_init fd_Unknown_init)(O_Unknown_init:FnOk P w K mg base CX0 1 f_Unknown_init fd_Unknown_init ["self", "name"] (xinit C_Unknown ["name"]))
  {f_Known_init:Addr}{fd_Known_init:FuncData}(G_Known_init:Xi K C_Known "Known.__init__" s_Known_init ["self", "name"] f_Known_init fd_Known_init)(O_Known_init:FnOk P w K mg base CX0 1 f_Known_init fd_Known_init ["self", "name"] (xinit C_Known ["name"]))
  {f_Used_init:Addr}{fd_Used_init:FuncData}(G_Used_init:Xi K C_Used "Used.__init__" s_Used_init ["self", "name"] f_Used_init fd_Used_init)(O_Used_init:FnOk P w K mg base CX0 1 f_Used_init fd_Used_init ["self", "name"] (xinit C_Used ["name"]))
  {f_TooMany_init:Addr}{fd_TooMany_init:FuncData}(G_TooMany_init:Xi K C_TooMany "TooMany.__init__" s_TooMany_init ["self", "most"] f_TooMany_init fd_TooMany_init)(O_TooMany_init:FnOk P w K mg base CX0 1 f_TooMany_init fd_TooMany_init ["self", "most"] (xinit C_TooMany ["most"]))
  {f_Early_init:Addr}{fd_Early_init:FuncData}(G_Early_init:Xi K C_Early "Early.__init__" s_Early_init ["self", "until"] f_Early_init fd_Early_init)(O_Early_init:FnOk P w K mg base CX0 1 f_Early_init fd_Early_init ["self", "until"] (xinit C_Early ["until"]))
  {f_NoRoom_init:Addr}{fd_NoRoom_init:FuncData}(G_NoRoom_init:Xi K C_NoRoom "NoRoom.__init__" s_NoRoom_init ["self", "first", "demanded", "room"] f_NoRoom_init fd_NoRoom_init)(O_NoRoom_init:FnOk P w K mg base CX0 1 f_NoRoom_init fd_NoRoom_init ["self", "first", "demanded", "room"] (xinit C_NoRoom ["first", "demanded", "room"])) :
  FnOk P w K mg base (CXE P w) 3 f fd ["_law_k", "_law_thing_here", "_law_word"] (upSpX K sp_l_raised):=by
 refine fun_okX (t:=λ Ex=>t_l_raised Ex) F.fn sc_l_raised len_l_raised (λ cdv A outer s H E' Ex hr hE hP=>?_) read_l_raised
 refine Jd.h ?_
 exact Q.pssd_cons (Q.psd_if (Q.ptd_cmp (op_eqT hr) opd_eqT (Q.dv 0) (Q.pd_int))
   (Q.pssd_one (Q.psd_raise hE G_NoRow_init.xm O_NoRow_init (hr.mono (by decide)) rfl E.m_NoRow G_NoRow_init.bd (Q.pac (Q.dv 1) (Q.pad_nil))))
   (Q.pssd_nil)) <|
  Q.pssd_cons (Q.psd_if (Q.ptd_cmp (op_eqT hr) opd_eqT (Q.dv 0) (Q.pd_int))
   (Q.pssd_one (Q.psd_raise hE G_BadName_init.xm O_BadName_init (hr.mono (by decide)) rfl E.m_BadName G_BadName_init.bd (Q.pac (Q.dv 1) (Q.pad_nil))))
   (Q.pssd_nil)) <|
  Q.pssd_cons (Q.psd_if (Q.ptd_cmp (op_eqT hr) opd_eqT (Q.dv 0) (Q.pd_int))
   (Q.pssd_one (Q.psd_raise hE G_BadBerths_init.xm O_BadBerths_init (hr.mono (by decide)) rfl E.m_BadBerths G_BadBerths_init.bd (Q.pac (Q.dv 1) (Q.pad_nil))))
   (Q.pssd_nil)) <|
  Q.pssd_cons (Q.psd_if (Q.ptd_cmp (op_eqT hr) opd_eqT (Q.dv 0) (Q.pd_int))
   (Q.pssd_one (Q.psd_raise hE G_BadAsked_init.xm O_BadAsked_init (hr.mono (by decide)) rfl E.m_BadAsked G_BadAsked_init.bd (Q.pac (Q.dv 1) (Q.pad_nil))))
   (Q.pssd_nil)) <|
  Q.pssd_cons (Q.psd_if (Q.ptd_cmp (op_eqT hr) opd_eqT (Q.dv 0) (Q.pd_int))
   (Q.pssd_one (Q.psd_raise hE G_BadShare_init.xm O_BadShare_init (hr.mono (by decide)) rfl E.m_BadShare G_BadShare_init.bd (Q.pac (Q.dv 1) (Q.pad_nil))))
   (Q.pssd_nil)) <|
  Q.pssd_cons (Q.psd_if (Q.ptd_cmp (op_eqT hr) opd_eqT (Q.dv 0) (Q.pd_int))
   (Q.pssd_one (Q.psd_raise hE G_BadRow_init.xm O_BadRow_init (hr.mono (by decide)) rfl E.m_BadRow G_BadRow_init.bd (Q.pac (Q.dv 1) (Q.pad_nil))))
   (Q.pssd_nil)) <|
  Q.pssd_cons (Q.psd_if (Q.ptd_cmp (op_eqT hr) opd_eqT (Q.dv 0) (Q.pd_int))
   (Q.pssd_one (Q.psd_raise hE G_Unknown_init.xm O_Unknown_init (hr.mono (by decide)) rfl E.m_Unknown G_Unknown_init.bd (Q.pac (Q.dv 1) (Q.pad_nil))))
   (Q.pssd_nil)) <|
  Q.pssd_cons (Q.psd_if (Q.ptd_cmp (op_eqT hr) opd_eqT (Q.dv 0) (Q.pd_int))
   (Q.pssd_one (Q.psd_raise hE G_Known_init.xm O_Known_init (hr.mono (by decide)) rfl E.m_Known G_Known_init.bd (Q.pac (Q.dv 1) (Q.pad_nil))))
   (Q.pssd_nil)) <|
  Q.pssd_cons (Q.psd_if (Q.ptd_cmp (op_eqT hr) opd_eqT (Q.dv 0) (Q.pd_int))
   (Q.pssd_one (Q.psd_raise hE G_Used_init.xm O_Used_init (hr.mono (by decide)) rfl E.m_Used G_Used_init.bd (Q.pac (Q.dv 1) (Q.pad_nil))))
   (Q.pssd_nil)) <|
  Q.pssd_cons (Q.psd_if (Q.ptd_cmp (op_eqT hr) opd_eqT (Q.dv 0) (Q.pd_int))
   (Q.pssd_one (Q.psd_raise hE G_TooMany_init.xm O_TooMany_init (hr.mono (by decide)) rfl E.m_TooMany G_TooMany_init.bd (Q.pac (Q.dv 1) (Q.pad_nil))))
   (Q.pssd_nil)) <|
  Q.pssd_cons (Q.psd_if (Q.ptd_cmp (op_eqT hr) opd_eqT (Q.dv 0) (Q.pd_int))
   (Q.pssd_one (Q.psd_raise hE G_Early_init.xm O_Early_init (hr.mono (by decide)) rfl E.m_Early G_Early_init.bd (Q.pac (Q.dv 1) (Q.pad_nil))))
   (Q.pssd_nil)) <|
  Q.pssd_cons (Q.psd_if (Q.ptd_cmp (op_eqT hr) opd_eqT (Q.dv 0) (Q.pd_int))
   (Q.pssd_one (Q.psd_raise0 hE E.x_NoText E.xn_NoText E.xt_NoText E.xk_NoText hr rfl E.m_NoText (Q.pac (Q.dv 2) (Q.pad_nil))))
   (Q.pssd_nil)) <|
  Q.pssd_cons (Q.psd_if (Q.ptd_cmp (op_eqT hr) opd_eqT (Q.dv 0) (Q.pd_int))
   (Q.pssd_one (Q.psd_raise0 hE E.x_NoDeed E.xn_NoDeed E.xt_NoDeed E.xk_NoDeed hr rfl E.m_NoDeed (Q.pac (Q.dv 2) (Q.pad_nil))))
   (Q.pssd_nil)) <|
  Q.pssd_cons (Q.psd_if (Q.ptd_cmp (op_eqT hr) opd_eqT (Q.dv 0) (Q.pd_int))
   (Q.pssd_one (Q.psd_raise0 hE E.x_NoBack E.xn_NoBack E.xt_NoBack E.xk_NoBack hr rfl E.m_NoBack (Q.pac (Q.dv 2) (Q.pad_nil))))
   (Q.pssd_nil)) <|
  Q.pssd_cons (Q.psd_if (Q.ptd_cmp (op_eqT hr) opd_eqT (Q.dv 0) (Q.pd_int))
   (Q.pssd_one (Q.psd_raise0 hE E.x_NoLine E.xn_NoLine E.xt_NoLine E.xk_NoLine hr rfl E.m_NoLine (Q.pac (Q.dv 2) (Q.pad_nil))))
   (Q.pssd_nil)) <|
  Q.pssd_one (Q.psd_raise hE G_NoRoom_init.xm O_NoRoom_init (hr.mono (by decide)) rfl E.m_NoRoom G_NoRoom_init.bd (Q.pac (Q.dv 1) (Q.pac (Q.pd_lst (Q.pac (Q.dv 1) (Q.pad_nil))) (Q.pac (Q.dv 2) (Q.pad_nil)))))
theorem sc_l_kinds:FnScope N_l_kinds ["_law_e"] (defScope s_l_kinds):=⟨rfl,rfl,rfl,by decide +kernel,rfl,by decide +kernel,by decide +kernel⟩
theorem ok_l_kinds {f:Addr}{fd:FuncData}(E:Env K mg)(F:Fn K mg "_law_kinds" s_l_kinds ["_law_e"] f fd) :
  FnOkH P w K mg base CX0 1 f fd ["_law_e"] (upSp K sp_l_kinds):=by
 refine fun_okH (t:=t_l_kinds) F.fn sc_l_kinds len_l_kinds (λ cdv A outer s H E' hr=>?_) read_l_kinds
 refine Jd.h ?_
 exact Q.pssd_cons (Q.psd_set (i:=1) sc_l_kinds.nd rfl (Or.inl rfl) (Q.pd_lst (Q.pac (Q.pd_isX1 E.b_isinstance (AllT.cons ⟨E.x_NoRow,E.i_NoRow_NoRow⟩ (AllT.cons ⟨E.x_BadName,E.i_BadName_NoRow⟩ (AllT.cons ⟨E.x_BadBerths,E.i_BadBerths_NoRow⟩ (AllT.cons ⟨E.x_BadAsked,E.i_BadAsked_NoRow⟩ (AllT.cons ⟨E.x_BadShare,E.i_BadShare_NoRow⟩ (AllT.cons ⟨E.x_BadRow,E.i_BadRow_NoRow⟩ (AllT.cons ⟨E.x_Unknown,E.i_Unknown_NoRow⟩ (AllT.cons ⟨E.x_Known,E.i_Known_NoRow⟩ (AllT.cons ⟨E.x_Used,E.i_Used_NoRow⟩ (AllT.cons ⟨E.x_TooMany,E.i_TooMany_NoRow⟩ (AllT.cons ⟨E.x_Early,E.i_Early_NoRow⟩ (AllT.cons ⟨E.x_NoText,E.i_NoText_NoRow⟩ (AllT.cons ⟨E.x_NoDeed,E.i_NoDeed_NoRow⟩ (AllT.cons ⟨E.x_NoBack,E.i_NoBack_NoRow⟩ (AllT.cons ⟨E.x_NoLine,E.i_NoLine_NoRow⟩ (AllT.cons ⟨E.x_NoRoom,E.i_NoRoom_NoRow⟩ (AllT.cons ⟨E.x_PlaceError,E.i_PlaceError_NoRow⟩ (AllT.nil)))))))))))))))))) rfl E.m_NoRow (Q.dv 0)) (Q.pac (Q.pd_isX1 E.b_isinstance (AllT.cons ⟨E.x_NoRow,E.i_NoRow_BadName⟩ (AllT.cons ⟨E.x_BadName,E.i_BadName_BadName⟩ (AllT.cons ⟨E.x_BadBerths,E.i_BadBerths_BadName⟩ (AllT.cons ⟨E.x_BadAsked,E.i_BadAsked_BadName⟩ (AllT.cons ⟨E.x_BadShare,E.i_BadShare_BadName⟩ (AllT.cons ⟨E.x_BadRow,E.i_BadRow_BadName⟩ (AllT.cons ⟨E.x_Unknown,E.i_Unknown_BadName⟩ (AllT.cons ⟨E.x_Known,E.i_Known_BadName⟩ (AllT.cons ⟨E.x_Used,E.i_Used_BadName⟩ (AllT.cons ⟨E.x_TooMany,E.i_TooMany_BadName⟩ (AllT.cons ⟨E.x_Early,E.i_Early_BadName⟩ (AllT.cons ⟨E.x_NoText,E.i_NoText_BadName⟩ (AllT.cons ⟨E.x_NoDeed,E.i_NoDeed_BadName⟩ (AllT.cons ⟨E.x_NoBack,E.i_NoBack_BadName⟩ (AllT.cons ⟨E.x_NoLine,E.i_NoLine_BadName⟩ (AllT.cons ⟨E.x_NoRoom,E.i_NoRoom_BadName⟩ (AllT.cons ⟨E.x_PlaceError,E.i_PlaceError_BadName⟩ (AllT.nil)))))))))))))))))) rfl E.m_BadName (Q.dv 0)) (Q.pac (Q.pd_isX1 E.b_isinstance (AllT.cons ⟨E.x_NoRow,E.i_NoRow_BadBerths⟩ (AllT.cons ⟨E.x_BadName,E.i_BadName_BadBerths⟩ (AllT.cons ⟨E.x_BadBerths,E.i_BadBerths_BadBerths⟩ (AllT.cons ⟨E.x_BadAsked,E.i_BadAsked_BadBerths⟩ (AllT.cons ⟨E.x_BadShare,E.i_BadShare_BadBerths⟩ (AllT.cons ⟨E.x_BadRow,E.i_BadRow_BadBerths⟩ (AllT.cons ⟨E.x_Unknown,E.i_Unknown_BadBerths⟩ (AllT.cons ⟨E.x_Known,E.i_Known_BadBerths⟩ (AllT.cons ⟨E.x_Used,E.i_Used_BadBerths⟩ (AllT.cons ⟨E.x_TooMany,E.i_TooMany_BadBerths⟩ (AllT.cons ⟨E.x_Early,E.i_Early_BadBerths⟩ (AllT.cons ⟨E.x_NoText,E.i_NoText_BadBerths⟩ (AllT.cons ⟨E.x_NoDeed,E.i_NoDeed_BadBerths⟩ (AllT.cons ⟨E.x_NoBack,E.i_NoBack_BadBerths⟩ (AllT.cons ⟨E.x_NoLine,E.i_NoLine_BadBerths⟩ (AllT.cons ⟨E.x_NoRoom,E.i_NoRoom_BadBerths⟩ (AllT.cons ⟨E.x_PlaceError,E.i_PlaceError_BadBerths⟩ (AllT.nil)))))))))))))))))) rfl E.m_BadBerths (Q.dv 0)) (Q.pac (Q.pd_isX1 E.b_isinstance (AllT.cons ⟨E.x_NoRow,E.i_NoRow_BadAsked⟩ (AllT.cons ⟨E.x_BadName,E.i_BadName_BadAsked⟩ (AllT.cons ⟨E.x_BadBerths,E.i_BadBerths_BadAsked⟩ (AllT.cons ⟨E.x_BadAsked,E.i_BadAsked_BadAsked⟩ (AllT.cons ⟨E.x_BadShare,E.i_BadShare_BadAsked⟩ (AllT.cons ⟨E.x_BadRow,E.i_BadRow_BadAsked⟩ (AllT.cons ⟨E.x_Unknown,E.i_Unknown_BadAsked⟩ (AllT.cons ⟨E.x_Known,E.i_Known_BadAsked⟩ (AllT.cons ⟨E.x_Used,E.i_Used_BadAsked⟩ (AllT.cons ⟨E.x_TooMany,E.i_TooMany_BadAsked⟩ (AllT.cons ⟨E.x_Early,E.i_Early_BadAsked⟩ (AllT.cons ⟨E.x_NoText,E.i_NoText_BadAsked⟩ (AllT.cons ⟨E.x_NoDeed,E.i_NoDeed_BadAsked⟩ (AllT.cons ⟨E.x_NoBack,E.i_NoBack_BadAsked⟩ (AllT.cons ⟨E.x_NoLine,E.i_NoLine_BadAsked⟩ (AllT.cons ⟨E.x_NoRoom,E.i_NoRoom_BadAsked⟩ (AllT.cons ⟨E.x_PlaceError,E.i_PlaceError_BadAsked⟩ (AllT.nil)))))))))))))))))) rfl E.m_BadAsked (Q.dv 0)) (Q.pad_nil))))))) <|
  Q.pssd_cons (Q.psd_set (i:=1) sc_l_kinds.nd rfl (Or.inl rfl) (Q.pd_cat (Q.dv 1) (Q.pd_lst (Q.pac (Q.pd_isX1 E.b_isinstance (AllT.cons ⟨E.x_NoRow,E.i_NoRow_BadShare⟩ (AllT.cons ⟨E.x_BadName,E.i_BadName_BadShare⟩ (AllT.cons ⟨E.x_BadBerths,E.i_BadBerths_BadShare⟩ (AllT.cons ⟨E.x_BadAsked,E.i_BadAsked_BadShare⟩ (AllT.cons ⟨E.x_BadShare,E.i_BadShare_BadShare⟩ (AllT.cons ⟨E.x_BadRow,E.i_BadRow_BadShare⟩ (AllT.cons ⟨E.x_Unknown,E.i_Unknown_BadShare⟩ (AllT.cons ⟨E.x_Known,E.i_Known_BadShare⟩ (AllT.cons ⟨E.x_Used,E.i_Used_BadShare⟩ (AllT.cons ⟨E.x_TooMany,E.i_TooMany_BadShare⟩ (AllT.cons ⟨E.x_Early,E.i_Early_BadShare⟩ (AllT.cons ⟨E.x_NoText,E.i_NoText_BadShare⟩ (AllT.cons ⟨E.x_NoDeed,E.i_NoDeed_BadShare⟩ (AllT.cons ⟨E.x_NoBack,E.i_NoBack_BadShare⟩ (AllT.cons ⟨E.x_NoLine,E.i_NoLine_BadShare⟩ (AllT.cons ⟨E.x_NoRoom,E.i_NoRoom_BadShare⟩ (AllT.cons ⟨E.x_PlaceError,E.i_PlaceError_BadShare⟩ (AllT.nil)))))))))))))))))) rfl E.m_BadShare (Q.dv 0)) (Q.pac (Q.pd_isX1 E.b_isinstance (AllT.cons ⟨E.x_NoRow,E.i_NoRow_BadRow⟩ (AllT.cons ⟨E.x_BadName,E.i_BadName_BadRow⟩ (AllT.cons ⟨E.x_BadBerths,E.i_BadBerths_BadRow⟩ (AllT.cons ⟨E.x_BadAsked,E.i_BadAsked_BadRow⟩ (AllT.cons ⟨E.x_BadShare,E.i_BadShare_BadRow⟩ (AllT.cons ⟨E.x_BadRow,E.i_BadRow_BadRow⟩ (AllT.cons ⟨E.x_Unknown,E.i_Unknown_BadRow⟩ (AllT.cons ⟨E.x_Known,E.i_Known_BadRow⟩ (AllT.cons ⟨E.x_Used,E.i_Used_BadRow⟩ (AllT.cons ⟨E.x_TooMany,E.i_TooMany_BadRow⟩ (AllT.cons ⟨E.x_Early,E.i_Early_BadRow⟩ (AllT.cons ⟨E.x_NoText,E.i_NoText_BadRow⟩ (AllT.cons ⟨E.x_NoDeed,E.i_NoDeed_BadRow⟩ (AllT.cons ⟨E.x_NoBack,E.i_NoBack_BadRow⟩ (AllT.cons ⟨E.x_NoLine,E.i_NoLine_BadRow⟩ (AllT.cons ⟨E.x_NoRoom,E.i_NoRoom_BadRow⟩ (AllT.cons ⟨E.x_PlaceError,E.i_PlaceError_BadRow⟩ (AllT.nil)))))))))))))))))) rfl E.m_BadRow (Q.dv 0)) (Q.pac (Q.pd_isX1 E.b_isinstance (AllT.cons ⟨E.x_NoRow,E.i_NoRow_Unknown⟩ (AllT.cons ⟨E.x_BadName,E.i_BadName_Unknown⟩ (AllT.cons ⟨E.x_BadBerths,E.i_BadBerths_Unknown⟩ (AllT.cons ⟨E.x_BadAsked,E.i_BadAsked_Unknown⟩ (AllT.cons ⟨E.x_BadShare,E.i_BadShare_Unknown⟩ (AllT.cons ⟨E.x_BadRow,E.i_BadRow_Unknown⟩ (AllT.cons ⟨E.x_Unknown,E.i_Unknown_Unknown⟩ (AllT.cons ⟨E.x_Known,E.i_Known_Unknown⟩ (AllT.cons ⟨E.x_Used,E.i_Used_Unknown⟩ (AllT.cons ⟨E.x_TooMany,E.i_TooMany_Unknown⟩ (AllT.cons ⟨E.x_Early,E.i_Early_Unknown⟩ (AllT.cons ⟨E.x_NoText,E.i_NoText_Unknown⟩ (AllT.cons ⟨E.x_NoDeed,E.i_NoDeed_Unknown⟩ (AllT.cons ⟨E.x_NoBack,E.i_NoBack_Unknown⟩ (AllT.cons ⟨E.x_NoLine,E.i_NoLine_Unknown⟩ (AllT.cons ⟨E.x_NoRoom,E.i_NoRoom_Unknown⟩ (AllT.cons ⟨E.x_PlaceError,E.i_PlaceError_Unknown⟩ (AllT.nil)))))))))))))))))) rfl E.m_Unknown (Q.dv 0)) (Q.pac (Q.pd_isX1 E.b_isinstance (AllT.cons ⟨E.x_NoRow,E.i_NoRow_Known⟩ (AllT.cons ⟨E.x_BadName,E.i_BadName_Known⟩ (AllT.cons ⟨E.x_BadBerths,E.i_BadBerths_Known⟩ (AllT.cons ⟨E.x_BadAsked,E.i_BadAsked_Known⟩ (AllT.cons ⟨E.x_BadShare,E.i_BadShare_Known⟩ (AllT.cons ⟨E.x_BadRow,E.i_BadRow_Known⟩ (AllT.cons ⟨E.x_Unknown,E.i_Unknown_Known⟩ (AllT.cons ⟨E.x_Known,E.i_Known_Known⟩ (AllT.cons ⟨E.x_Used,E.i_Used_Known⟩ (AllT.cons ⟨E.x_TooMany,E.i_TooMany_Known⟩ (AllT.cons ⟨E.x_Early,E.i_Early_Known⟩ (AllT.cons ⟨E.x_NoText,E.i_NoText_Known⟩ (AllT.cons ⟨E.x_NoDeed,E.i_NoDeed_Known⟩ (AllT.cons ⟨E.x_NoBack,E.i_NoBack_Known⟩ (AllT.cons ⟨E.x_NoLine,E.i_NoLine_Known⟩ (AllT.cons ⟨E.x_NoRoom,E.i_NoRoom_Known⟩ (AllT.cons ⟨E.x_PlaceError,E.i_PlaceError_Known⟩ (AllT.nil)))))))))))))))))) rfl E.m_Known (Q.dv 0)) (Q.pad_nil)))))))) <|
  Q.pssd_cons (Q.psd_set (i:=1) sc_l_kinds.nd rfl (Or.inl rfl) (Q.pd_cat (Q.dv 1) (Q.pd_lst (Q.pac (Q.pd_isX1 E.b_isinstance (AllT.cons ⟨E.x_NoRow,E.i_NoRow_Used⟩ (AllT.cons ⟨E.x_BadName,E.i_BadName_Used⟩ (AllT.cons ⟨E.x_BadBerths,E.i_BadBerths_Used⟩ (AllT.cons ⟨E.x_BadAsked,E.i_BadAsked_Used⟩ (AllT.cons ⟨E.x_BadShare,E.i_BadShare_Used⟩ (AllT.cons ⟨E.x_BadRow,E.i_BadRow_Used⟩ (AllT.cons ⟨E.x_Unknown,E.i_Unknown_Used⟩ (AllT.cons ⟨E.x_Known,E.i_Known_Used⟩ (AllT.cons ⟨E.x_Used,E.i_Used_Used⟩ (AllT.cons ⟨E.x_TooMany,E.i_TooMany_Used⟩ (AllT.cons ⟨E.x_Early,E.i_Early_Used⟩ (AllT.cons ⟨E.x_NoText,E.i_NoText_Used⟩ (AllT.cons ⟨E.x_NoDeed,E.i_NoDeed_Used⟩ (AllT.cons ⟨E.x_NoBack,E.i_NoBack_Used⟩ (AllT.cons ⟨E.x_NoLine,E.i_NoLine_Used⟩ (AllT.cons ⟨E.x_NoRoom,E.i_NoRoom_Used⟩ (AllT.cons ⟨E.x_PlaceError,E.i_PlaceError_Used⟩ (AllT.nil)))))))))))))))))) rfl E.m_Used (Q.dv 0)) (Q.pac (Q.pd_isX1 E.b_isinstance (AllT.cons ⟨E.x_NoRow,E.i_NoRow_TooMany⟩ (AllT.cons ⟨E.x_BadName,E.i_BadName_TooMany⟩ (AllT.cons ⟨E.x_BadBerths,E.i_BadBerths_TooMany⟩ (AllT.cons ⟨E.x_BadAsked,E.i_BadAsked_TooMany⟩ (AllT.cons ⟨E.x_BadShare,E.i_BadShare_TooMany⟩ (AllT.cons ⟨E.x_BadRow,E.i_BadRow_TooMany⟩ (AllT.cons ⟨E.x_Unknown,E.i_Unknown_TooMany⟩ (AllT.cons ⟨E.x_Known,E.i_Known_TooMany⟩ (AllT.cons ⟨E.x_Used,E.i_Used_TooMany⟩ (AllT.cons ⟨E.x_TooMany,E.i_TooMany_TooMany⟩ (AllT.cons ⟨E.x_Early,E.i_Early_TooMany⟩ (AllT.cons ⟨E.x_NoText,E.i_NoText_TooMany⟩ (AllT.cons ⟨E.x_NoDeed,E.i_NoDeed_TooMany⟩ (AllT.cons ⟨E.x_NoBack,E.i_NoBack_TooMany⟩ (AllT.cons ⟨E.x_NoLine,E.i_NoLine_TooMany⟩ (AllT.cons ⟨E.x_NoRoom,E.i_NoRoom_TooMany⟩ (AllT.cons ⟨E.x_PlaceError,E.i_PlaceError_TooMany⟩ (AllT.nil)))))))))))))))))) rfl E.m_TooMany (Q.dv 0)) (Q.pac (Q.pd_isX1 E.b_isinstance (AllT.cons ⟨E.x_NoRow,E.i_NoRow_Early⟩ (AllT.cons ⟨E.x_BadName,E.i_BadName_Early⟩ (AllT.cons ⟨E.x_BadBerths,E.i_BadBerths_Early⟩ (AllT.cons ⟨E.x_BadAsked,E.i_BadAsked_Early⟩ (AllT.cons ⟨E.x_BadShare,E.i_BadShare_Early⟩ (AllT.cons ⟨E.x_BadRow,E.i_BadRow_Early⟩ (AllT.cons ⟨E.x_Unknown,E.i_Unknown_Early⟩ (AllT.cons ⟨E.x_Known,E.i_Known_Early⟩ (AllT.cons ⟨E.x_Used,E.i_Used_Early⟩ (AllT.cons ⟨E.x_TooMany,E.i_TooMany_Early⟩ (AllT.cons ⟨E.x_Early,E.i_Early_Early⟩ (AllT.cons ⟨E.x_NoText,E.i_NoText_Early⟩ (AllT.cons ⟨E.x_NoDeed,E.i_NoDeed_Early⟩ (AllT.cons ⟨E.x_NoBack,E.i_NoBack_Early⟩ (AllT.cons ⟨E.x_NoLine,E.i_NoLine_Early⟩ (AllT.cons ⟨E.x_NoRoom,E.i_NoRoom_Early⟩ (AllT.cons ⟨E.x_PlaceError,E.i_PlaceError_Early⟩ (AllT.nil)))))))))))))))))) rfl E.m_Early (Q.dv 0)) (Q.pac (Q.pd_isX1 E.b_isinstance (AllT.cons ⟨E.x_NoRow,E.i_NoRow_NoText⟩ (AllT.cons ⟨E.x_BadName,E.i_BadName_NoText⟩ (AllT.cons ⟨E.x_BadBerths,E.i_BadBerths_NoText⟩ (AllT.cons ⟨E.x_BadAsked,E.i_BadAsked_NoText⟩ (AllT.cons ⟨E.x_BadShare,E.i_BadShare_NoText⟩ (AllT.cons ⟨E.x_BadRow,E.i_BadRow_NoText⟩ (AllT.cons ⟨E.x_Unknown,E.i_Unknown_NoText⟩ (AllT.cons ⟨E.x_Known,E.i_Known_NoText⟩ (AllT.cons ⟨E.x_Used,E.i_Used_NoText⟩ (AllT.cons ⟨E.x_TooMany,E.i_TooMany_NoText⟩ (AllT.cons ⟨E.x_Early,E.i_Early_NoText⟩ (AllT.cons ⟨E.x_NoText,E.i_NoText_NoText⟩ (AllT.cons ⟨E.x_NoDeed,E.i_NoDeed_NoText⟩ (AllT.cons ⟨E.x_NoBack,E.i_NoBack_NoText⟩ (AllT.cons ⟨E.x_NoLine,E.i_NoLine_NoText⟩ (AllT.cons ⟨E.x_NoRoom,E.i_NoRoom_NoText⟩ (AllT.cons ⟨E.x_PlaceError,E.i_PlaceError_NoText⟩ (AllT.nil)))))))))))))))))) rfl E.m_NoText (Q.dv 0)) (Q.pad_nil)))))))) <|
  Q.pssd_cons (Q.psd_set (i:=1) sc_l_kinds.nd rfl (Or.inl rfl) (Q.pd_cat (Q.dv 1) (Q.pd_lst (Q.pac (Q.pd_isX1 E.b_isinstance (AllT.cons ⟨E.x_NoRow,E.i_NoRow_NoDeed⟩ (AllT.cons ⟨E.x_BadName,E.i_BadName_NoDeed⟩ (AllT.cons ⟨E.x_BadBerths,E.i_BadBerths_NoDeed⟩ (AllT.cons ⟨E.x_BadAsked,E.i_BadAsked_NoDeed⟩ (AllT.cons ⟨E.x_BadShare,E.i_BadShare_NoDeed⟩ (AllT.cons ⟨E.x_BadRow,E.i_BadRow_NoDeed⟩ (AllT.cons ⟨E.x_Unknown,E.i_Unknown_NoDeed⟩ (AllT.cons ⟨E.x_Known,E.i_Known_NoDeed⟩ (AllT.cons ⟨E.x_Used,E.i_Used_NoDeed⟩ (AllT.cons ⟨E.x_TooMany,E.i_TooMany_NoDeed⟩ (AllT.cons ⟨E.x_Early,E.i_Early_NoDeed⟩ (AllT.cons ⟨E.x_NoText,E.i_NoText_NoDeed⟩ (AllT.cons ⟨E.x_NoDeed,E.i_NoDeed_NoDeed⟩ (AllT.cons ⟨E.x_NoBack,E.i_NoBack_NoDeed⟩ (AllT.cons ⟨E.x_NoLine,E.i_NoLine_NoDeed⟩ (AllT.cons ⟨E.x_NoRoom,E.i_NoRoom_NoDeed⟩ (AllT.cons ⟨E.x_PlaceError,E.i_PlaceError_NoDeed⟩ (AllT.nil)))))))))))))))))) rfl E.m_NoDeed (Q.dv 0)) (Q.pac (Q.pd_isX1 E.b_isinstance (AllT.cons ⟨E.x_NoRow,E.i_NoRow_NoBack⟩ (AllT.cons ⟨E.x_BadName,E.i_BadName_NoBack⟩ (AllT.cons ⟨E.x_BadBerths,E.i_BadBerths_NoBack⟩ (AllT.cons ⟨E.x_BadAsked,E.i_BadAsked_NoBack⟩ (AllT.cons ⟨E.x_BadShare,E.i_BadShare_NoBack⟩ (AllT.cons ⟨E.x_BadRow,E.i_BadRow_NoBack⟩ (AllT.cons ⟨E.x_Unknown,E.i_Unknown_NoBack⟩ (AllT.cons ⟨E.x_Known,E.i_Known_NoBack⟩ (AllT.cons ⟨E.x_Used,E.i_Used_NoBack⟩ (AllT.cons ⟨E.x_TooMany,E.i_TooMany_NoBack⟩ (AllT.cons ⟨E.x_Early,E.i_Early_NoBack⟩ (AllT.cons ⟨E.x_NoText,E.i_NoText_NoBack⟩ (AllT.cons ⟨E.x_NoDeed,E.i_NoDeed_NoBack⟩ (AllT.cons ⟨E.x_NoBack,E.i_NoBack_NoBack⟩ (AllT.cons ⟨E.x_NoLine,E.i_NoLine_NoBack⟩ (AllT.cons ⟨E.x_NoRoom,E.i_NoRoom_NoBack⟩ (AllT.cons ⟨E.x_PlaceError,E.i_PlaceError_NoBack⟩ (AllT.nil)))))))))))))))))) rfl E.m_NoBack (Q.dv 0)) (Q.pac (Q.pd_isX1 E.b_isinstance (AllT.cons ⟨E.x_NoRow,E.i_NoRow_NoLine⟩ (AllT.cons ⟨E.x_BadName,E.i_BadName_NoLine⟩ (AllT.cons ⟨E.x_BadBerths,E.i_BadBerths_NoLine⟩ (AllT.cons ⟨E.x_BadAsked,E.i_BadAsked_NoLine⟩ (AllT.cons ⟨E.x_BadShare,E.i_BadShare_NoLine⟩ (AllT.cons ⟨E.x_BadRow,E.i_BadRow_NoLine⟩ (AllT.cons ⟨E.x_Unknown,E.i_Unknown_NoLine⟩ (AllT.cons ⟨E.x_Known,E.i_Known_NoLine⟩ (AllT.cons ⟨E.x_Used,E.i_Used_NoLine⟩ (AllT.cons ⟨E.x_TooMany,E.i_TooMany_NoLine⟩ (AllT.cons ⟨E.x_Early,E.i_Early_NoLine⟩ (AllT.cons ⟨E.x_NoText,E.i_NoText_NoLine⟩ (AllT.cons ⟨E.x_NoDeed,E.i_NoDeed_NoLine⟩ (AllT.cons ⟨E.x_NoBack,E.i_NoBack_NoLine⟩ (AllT.cons ⟨E.x_NoLine,E.i_NoLine_NoLine⟩ (AllT.cons ⟨E.x_NoRoom,E.i_NoRoom_NoLine⟩ (AllT.cons ⟨E.x_PlaceError,E.i_PlaceError_NoLine⟩ (AllT.nil)))))))))))))))))) rfl E.m_NoLine (Q.dv 0)) (Q.pac (Q.pd_isX1 E.b_isinstance (AllT.cons ⟨E.x_NoRow,E.i_NoRow_NoRoom⟩ (AllT.cons ⟨E.x_BadName,E.i_BadName_NoRoom⟩ (AllT.cons ⟨E.x_BadBerths,E.i_BadBerths_NoRoom⟩ (AllT.cons ⟨E.x_BadAsked,E.i_BadAsked_NoRoom⟩ (AllT.cons ⟨E.x_BadShare,E.i_BadShare_NoRoom⟩ (AllT.cons ⟨E.x_BadRow,E.i_BadRow_NoRoom⟩ (AllT.cons ⟨E.x_Unknown,E.i_Unknown_NoRoom⟩ (AllT.cons ⟨E.x_Known,E.i_Known_NoRoom⟩ (AllT.cons ⟨E.x_Used,E.i_Used_NoRoom⟩ (AllT.cons ⟨E.x_TooMany,E.i_TooMany_NoRoom⟩ (AllT.cons ⟨E.x_Early,E.i_Early_NoRoom⟩ (AllT.cons ⟨E.x_NoText,E.i_NoText_NoRoom⟩ (AllT.cons ⟨E.x_NoDeed,E.i_NoDeed_NoRoom⟩ (AllT.cons ⟨E.x_NoBack,E.i_NoBack_NoRoom⟩ (AllT.cons ⟨E.x_NoLine,E.i_NoLine_NoRoom⟩ (AllT.cons ⟨E.x_NoRoom,E.i_NoRoom_NoRoom⟩ (AllT.cons ⟨E.x_PlaceError,E.i_PlaceError_NoRoom⟩ (AllT.nil)))))))))))))))))) rfl E.m_NoRoom (Q.dv 0)) (Q.pad_nil)))))))) <|
  Q.pssd_one (Q.psd_ret (Q.pd_cat (Q.dv 1) (Q.pd_lst (Q.pac (Q.pd_isXB E.b_isinstance (AllT.cons ⟨E.x_NoRow,E.i_NoRow_ValueError⟩ (AllT.cons ⟨E.x_BadName,E.i_BadName_ValueError⟩ (AllT.cons ⟨E.x_BadBerths,E.i_BadBerths_ValueError⟩ (AllT.cons ⟨E.x_BadAsked,E.i_BadAsked_ValueError⟩ (AllT.cons ⟨E.x_BadShare,E.i_BadShare_ValueError⟩ (AllT.cons ⟨E.x_BadRow,E.i_BadRow_ValueError⟩ (AllT.cons ⟨E.x_Unknown,E.i_Unknown_ValueError⟩ (AllT.cons ⟨E.x_Known,E.i_Known_ValueError⟩ (AllT.cons ⟨E.x_Used,E.i_Used_ValueError⟩ (AllT.cons ⟨E.x_TooMany,E.i_TooMany_ValueError⟩ (AllT.cons ⟨E.x_Early,E.i_Early_ValueError⟩ (AllT.cons ⟨E.x_NoText,E.i_NoText_ValueError⟩ (AllT.cons ⟨E.x_NoDeed,E.i_NoDeed_ValueError⟩ (AllT.cons ⟨E.x_NoBack,E.i_NoBack_ValueError⟩ (AllT.cons ⟨E.x_NoLine,E.i_NoLine_ValueError⟩ (AllT.cons ⟨E.x_NoRoom,E.i_NoRoom_ValueError⟩ (AllT.cons ⟨E.x_PlaceError,E.i_PlaceError_ValueError⟩ (AllT.nil)))))))))))))))))) rfl E.b_ValueError bt_ValueError (Q.dv 0)) (Q.pad_nil)))))
theorem sc_l_caught:FnScope N_l_caught ["_law_k", "_law_thing_here", "_law_word"] (defScope s_l_caught):=⟨rfl,rfl,rfl,by decide +kernel,rfl,by decide +kernel,by decide +kernel⟩
theorem ok_l_caught {f:Addr}{fd:FuncData}(E:Env K mg)(F:Fn K mg "_law_caught" s_l_caught ["_law_k", "_law_thing_here", "_law_word"] f fd)
  {f_l_raised:Addr}{fd_l_raised:FuncData}(G_l_raised:Fn K mg "_law_raised" s_l_raised ["_law_k", "_law_thing_here", "_law_word"] f_l_raised fd_l_raised)(O_l_raised:FnOk P w K mg base (CXE P w) 3 f_l_raised fd_l_raised ["_law_k", "_law_thing_here", "_law_word"] (upSpX K sp_l_raised))
  {f_l_kinds:Addr}{fd_l_kinds:FuncData}(G_l_kinds:Fn K mg "_law_kinds" s_l_kinds ["_law_e"] f_l_kinds fd_l_kinds)(O_l_kinds:FnOkH P w K mg base CX0 1 f_l_kinds fd_l_kinds ["_law_e"] (upSp K sp_l_kinds)) :
  FnOk P w K mg base CX0 4 f fd ["_law_k", "_law_thing_here", "_law_word"] (upSp K sp_l_caught):=by
 refine fun_ok (t:=t_l_caught sp_l_raised sp_l_kinds) F.fn sc_l_caught len_l_caught (λ cdv A outer s H E' hr=>?_) read_l_caught
 refine Jd.h ?_
 exact Q.pssd_cons (Q.psd_try rfl rfl (λ _ _ _ _ hE hP =>
   Q.pssd_one (Q.psd_expr (Q.pcX hE O_l_raised (hr.mono (by decide)) rfl G_l_raised.mg G_l_raised.fn.kp G_l_raised.bd (Q.pac (Q.dv 0) (Q.pac (Q.dv 1) (Q.pac (Q.dv 2) (Q.pad_nil))))))) (Q.ph_as (i:=3) rfl E.m_PlaceError (AllT.cons E.e_NoRow_PlaceError (AllT.cons E.e_BadName_PlaceError (AllT.cons E.e_BadBerths_PlaceError (AllT.cons E.e_BadAsked_PlaceError (AllT.cons E.e_BadShare_PlaceError (AllT.cons E.e_BadRow_PlaceError (AllT.cons E.e_Unknown_PlaceError (AllT.cons E.e_Known_PlaceError (AllT.cons E.e_Used_PlaceError (AllT.cons E.e_TooMany_PlaceError (AllT.cons E.e_Early_PlaceError (AllT.cons E.e_NoText_PlaceError (AllT.cons E.e_NoDeed_PlaceError (AllT.cons E.e_NoBack_PlaceError (AllT.cons E.e_NoLine_PlaceError (AllT.cons E.e_NoRoom_PlaceError (AllT.nil))))))))))))))))) sc_l_caught.nd rfl rfl rfl (λ _ =>
   Q.pssd_one (Q.psd_ret (Q.pcFH O_l_kinds ((hr.h.mark _).mono (by decide)) rfl G_l_kinds.mg G_l_kinds.fn.kp G_l_kinds.bd (Q.pac (Q.dv 3) (Q.pad_nil))))) (Q.ph_none))) <|
  Q.pssd_one (Q.psd_ret (Q.pd_lst (Q.pad_nil)))
theorem sc_l_at:FnScope N_l_at ["_law_k", "_law_thing_here", "_law_word"] (defScope s_l_at):=⟨rfl,rfl,rfl,by decide +kernel,rfl,by decide +kernel,by decide +kernel⟩
theorem ok_l_at {f:Addr}{fd:FuncData}(E:Env K mg)(F:Fn K mg "_law_at" s_l_at ["_law_k", "_law_thing_here", "_law_word"] f fd)
  {f_l_raised:Addr}{fd_l_raised:FuncData}(G_l_raised:Fn K mg "_law_raised" s_l_raised ["_law_k", "_law_thing_here", "_law_word"] f_l_raised fd_l_raised)(O_l_raised:FnOk P w K mg base (CXE P w) 3 f_l_raised fd_l_raised ["_law_k", "_law_thing_here", "_law_word"] (upSpX K sp_l_raised)) :
  FnOk P w K mg base CX0 4 f fd ["_law_k", "_law_thing_here", "_law_word"] (upSp K sp_l_at):=by
 refine fun_ok (t:=t_l_at sp_l_raised) F.fn sc_l_at len_l_at (λ cdv A outer s H E' hr=>?_) read_l_at
 refine Jd.h ?_
 exact Q.pssd_cons (Q.psd_try rfl rfl (λ _ _ _ _ hE hP =>
   Q.pssd_one (Q.psd_expr (Q.pcX hE O_l_raised (hr.mono (by decide)) rfl G_l_raised.mg G_l_raised.fn.kp G_l_raised.bd (Q.pac (Q.dv 0) (Q.pac (Q.dv 1) (Q.pac (Q.dv 2) (Q.pad_nil))))))) (Q.ph_as (i:=3) rfl E.m_NoRow (AllT.cons E.e_NoRow_NoRow (AllT.cons E.e_BadName_NoRow (AllT.cons E.e_BadBerths_NoRow (AllT.cons E.e_BadAsked_NoRow (AllT.cons E.e_BadShare_NoRow (AllT.cons E.e_BadRow_NoRow (AllT.cons E.e_Unknown_NoRow (AllT.cons E.e_Known_NoRow (AllT.cons E.e_Used_NoRow (AllT.cons E.e_TooMany_NoRow (AllT.cons E.e_Early_NoRow (AllT.cons E.e_NoText_NoRow (AllT.cons E.e_NoDeed_NoRow (AllT.cons E.e_NoBack_NoRow (AllT.cons E.e_NoLine_NoRow (AllT.cons E.e_NoRoom_NoRow (AllT.nil))))))))))))))))) sc_l_at.nd rfl rfl rfl (λ _ =>
   Q.pssd_one (Q.psd_ret (Q.pd_lst (Q.pac (Q.pd_xfld (AllC.cons ⟨E.x_NoRow,E.n_NoRow_at⟩ (AllC.cons ⟨E.x_BadName,E.n_BadName_at⟩ (AllC.cons ⟨E.x_BadBerths,E.n_BadBerths_at⟩ (AllC.cons ⟨E.x_BadAsked,E.n_BadAsked_at⟩ (AllC.cons ⟨E.x_BadShare,E.n_BadShare_at⟩ (AllC.cons ⟨E.x_BadRow,E.n_BadRow_at⟩ (AllC.nil))))))) (Q.dv 3)) (Q.pad_nil))))) (Q.ph_as (i:=3) rfl E.m_BadName (AllT.cons E.e_NoRow_BadName (AllT.cons E.e_BadName_BadName (AllT.cons E.e_BadBerths_BadName (AllT.cons E.e_BadAsked_BadName (AllT.cons E.e_BadShare_BadName (AllT.cons E.e_BadRow_BadName (AllT.cons E.e_Unknown_BadName (AllT.cons E.e_Known_BadName (AllT.cons E.e_Used_BadName (AllT.cons E.e_TooMany_BadName (AllT.cons E.e_Early_BadName (AllT.cons E.e_NoText_BadName (AllT.cons E.e_NoDeed_BadName (AllT.cons E.e_NoBack_BadName (AllT.cons E.e_NoLine_BadName (AllT.cons E.e_NoRoom_BadName (AllT.nil))))))))))))))))) sc_l_at.nd rfl rfl rfl (λ _ =>
   Q.pssd_one (Q.psd_ret (Q.pd_lst (Q.pac (Q.pd_xfld (AllC.cons ⟨E.x_NoRow,E.n_NoRow_at⟩ (AllC.cons ⟨E.x_BadName,E.n_BadName_at⟩ (AllC.cons ⟨E.x_BadBerths,E.n_BadBerths_at⟩ (AllC.cons ⟨E.x_BadAsked,E.n_BadAsked_at⟩ (AllC.cons ⟨E.x_BadShare,E.n_BadShare_at⟩ (AllC.cons ⟨E.x_BadRow,E.n_BadRow_at⟩ (AllC.nil))))))) (Q.dv 3)) (Q.pad_nil))))) (Q.ph_as (i:=3) rfl E.m_BadBerths (AllT.cons E.e_NoRow_BadBerths (AllT.cons E.e_BadName_BadBerths (AllT.cons E.e_BadBerths_BadBerths (AllT.cons E.e_BadAsked_BadBerths (AllT.cons E.e_BadShare_BadBerths (AllT.cons E.e_BadRow_BadBerths (AllT.cons E.e_Unknown_BadBerths (AllT.cons E.e_Known_BadBerths (AllT.cons E.e_Used_BadBerths (AllT.cons E.e_TooMany_BadBerths (AllT.cons E.e_Early_BadBerths (AllT.cons E.e_NoText_BadBerths (AllT.cons E.e_NoDeed_BadBerths (AllT.cons E.e_NoBack_BadBerths (AllT.cons E.e_NoLine_BadBerths (AllT.cons E.e_NoRoom_BadBerths (AllT.nil))))))))))))))))) sc_l_at.nd rfl rfl rfl (λ _ =>
   Q.pssd_one (Q.psd_ret (Q.pd_lst (Q.pac (Q.pd_xfld (AllC.cons ⟨E.x_NoRow,E.n_NoRow_at⟩ (AllC.cons ⟨E.x_BadName,E.n_BadName_at⟩ (AllC.cons ⟨E.x_BadBerths,E.n_BadBerths_at⟩ (AllC.cons ⟨E.x_BadAsked,E.n_BadAsked_at⟩ (AllC.cons ⟨E.x_BadShare,E.n_BadShare_at⟩ (AllC.cons ⟨E.x_BadRow,E.n_BadRow_at⟩ (AllC.nil))))))) (Q.dv 3)) (Q.pad_nil))))) (Q.ph_as (i:=3) rfl E.m_BadAsked (AllT.cons E.e_NoRow_BadAsked (AllT.cons E.e_BadName_BadAsked (AllT.cons E.e_BadBerths_BadAsked (AllT.cons E.e_BadAsked_BadAsked (AllT.cons E.e_BadShare_BadAsked (AllT.cons E.e_BadRow_BadAsked (AllT.cons E.e_Unknown_BadAsked (AllT.cons E.e_Known_BadAsked (AllT.cons E.e_Used_BadAsked (AllT.cons E.e_TooMany_BadAsked (AllT.cons E.e_Early_BadAsked (AllT.cons E.e_NoText_BadAsked (AllT.cons E.e_NoDeed_BadAsked (AllT.cons E.e_NoBack_BadAsked (AllT.cons E.e_NoLine_BadAsked (AllT.cons E.e_NoRoom_BadAsked (AllT.nil))))))))))))))))) sc_l_at.nd rfl rfl rfl (λ _ =>
   Q.pssd_one (Q.psd_ret (Q.pd_lst (Q.pac (Q.pd_xfld (AllC.cons ⟨E.x_NoRow,E.n_NoRow_at⟩ (AllC.cons ⟨E.x_BadName,E.n_BadName_at⟩ (AllC.cons ⟨E.x_BadBerths,E.n_BadBerths_at⟩ (AllC.cons ⟨E.x_BadAsked,E.n_BadAsked_at⟩ (AllC.cons ⟨E.x_BadShare,E.n_BadShare_at⟩ (AllC.cons ⟨E.x_BadRow,E.n_BadRow_at⟩ (AllC.nil))))))) (Q.dv 3)) (Q.pad_nil))))) (Q.ph_as (i:=3) rfl E.m_BadShare (AllT.cons E.e_NoRow_BadShare (AllT.cons E.e_BadName_BadShare (AllT.cons E.e_BadBerths_BadShare (AllT.cons E.e_BadAsked_BadShare (AllT.cons E.e_BadShare_BadShare (AllT.cons E.e_BadRow_BadShare (AllT.cons E.e_Unknown_BadShare (AllT.cons E.e_Known_BadShare (AllT.cons E.e_Used_BadShare (AllT.cons E.e_TooMany_BadShare (AllT.cons E.e_Early_BadShare (AllT.cons E.e_NoText_BadShare (AllT.cons E.e_NoDeed_BadShare (AllT.cons E.e_NoBack_BadShare (AllT.cons E.e_NoLine_BadShare (AllT.cons E.e_NoRoom_BadShare (AllT.nil))))))))))))))))) sc_l_at.nd rfl rfl rfl (λ _ =>
   Q.pssd_one (Q.psd_ret (Q.pd_lst (Q.pac (Q.pd_xfld (AllC.cons ⟨E.x_NoRow,E.n_NoRow_at⟩ (AllC.cons ⟨E.x_BadName,E.n_BadName_at⟩ (AllC.cons ⟨E.x_BadBerths,E.n_BadBerths_at⟩ (AllC.cons ⟨E.x_BadAsked,E.n_BadAsked_at⟩ (AllC.cons ⟨E.x_BadShare,E.n_BadShare_at⟩ (AllC.cons ⟨E.x_BadRow,E.n_BadRow_at⟩ (AllC.nil))))))) (Q.dv 3)) (Q.pad_nil))))) (Q.ph_as (i:=3) rfl E.m_BadRow (AllT.cons E.e_NoRow_BadRow (AllT.cons E.e_BadName_BadRow (AllT.cons E.e_BadBerths_BadRow (AllT.cons E.e_BadAsked_BadRow (AllT.cons E.e_BadShare_BadRow (AllT.cons E.e_BadRow_BadRow (AllT.cons E.e_Unknown_BadRow (AllT.cons E.e_Known_BadRow (AllT.cons E.e_Used_BadRow (AllT.cons E.e_TooMany_BadRow (AllT.cons E.e_Early_BadRow (AllT.cons E.e_NoText_BadRow (AllT.cons E.e_NoDeed_BadRow (AllT.cons E.e_NoBack_BadRow (AllT.cons E.e_NoLine_BadRow (AllT.cons E.e_NoRoom_BadRow (AllT.nil))))))))))))))))) sc_l_at.nd rfl rfl rfl (λ _ =>
   Q.pssd_one (Q.psd_ret (Q.pd_lst (Q.pac (Q.pd_xfld (AllC.cons ⟨E.x_NoRow,E.n_NoRow_at⟩ (AllC.cons ⟨E.x_BadName,E.n_BadName_at⟩ (AllC.cons ⟨E.x_BadBerths,E.n_BadBerths_at⟩ (AllC.cons ⟨E.x_BadAsked,E.n_BadAsked_at⟩ (AllC.cons ⟨E.x_BadShare,E.n_BadShare_at⟩ (AllC.cons ⟨E.x_BadRow,E.n_BadRow_at⟩ (AllC.nil))))))) (Q.dv 3)) (Q.pad_nil))))) (Q.ph_no rfl E.m_PlaceError (AllT.cons E.e_NoRow_PlaceError (AllT.cons E.e_BadName_PlaceError (AllT.cons E.e_BadBerths_PlaceError (AllT.cons E.e_BadAsked_PlaceError (AllT.cons E.e_BadShare_PlaceError (AllT.cons E.e_BadRow_PlaceError (AllT.cons E.e_Unknown_PlaceError (AllT.cons E.e_Known_PlaceError (AllT.cons E.e_Used_PlaceError (AllT.cons E.e_TooMany_PlaceError (AllT.cons E.e_Early_PlaceError (AllT.cons E.e_NoText_PlaceError (AllT.cons E.e_NoDeed_PlaceError (AllT.cons E.e_NoBack_PlaceError (AllT.cons E.e_NoLine_PlaceError (AllT.cons E.e_NoRoom_PlaceError (AllT.nil))))))))))))))))) (λ _ =>
   Q.pssd_one (Q.psd_ret (Q.pd_lst (Q.pad_nil)))) (Q.ph_none))))))))) <|
  Q.pssd_one (Q.psd_ret (Q.pd_lst (Q.pad_nil)))
theorem sc_l_else:FnScope N_l_else ["_law_k", "_law_thing_here", "_law_word"] (defScope s_l_else):=⟨rfl,rfl,rfl,by decide +kernel,rfl,by decide +kernel,by decide +kernel⟩
theorem ok_l_else {f:Addr}{fd:FuncData}(E:Env K mg)(F:Fn K mg "_law_else" s_l_else ["_law_k", "_law_thing_here", "_law_word"] f fd)
  {f_l_raised:Addr}{fd_l_raised:FuncData}(G_l_raised:Fn K mg "_law_raised" s_l_raised ["_law_k", "_law_thing_here", "_law_word"] f_l_raised fd_l_raised)(O_l_raised:FnOk P w K mg base (CXE P w) 3 f_l_raised fd_l_raised ["_law_k", "_law_thing_here", "_law_word"] (upSpX K sp_l_raised)) :
  FnOk P w K mg base CX0 4 f fd ["_law_k", "_law_thing_here", "_law_word"] (upSp K sp_l_else):=by
 refine fun_ok (t:=t_l_else sp_l_raised) F.fn sc_l_else len_l_else (λ cdv A outer s H E' hr=>?_) read_l_else
 refine Jd.h ?_
 exact Q.pssd_cons (Q.psd_try rfl rfl (λ _ _ _ _ hE hP =>
   Q.pssd_one (Q.psd_expr (Q.pcX hE O_l_raised (hr.mono (by decide)) rfl G_l_raised.mg G_l_raised.fn.kp G_l_raised.bd (Q.pac (Q.dv 0) (Q.pac (Q.dv 1) (Q.pac (Q.dv 2) (Q.pad_nil))))))) (Q.ph_as (i:=3) rfl E.m_Unknown (AllT.cons E.e_NoRow_Unknown (AllT.cons E.e_BadName_Unknown (AllT.cons E.e_BadBerths_Unknown (AllT.cons E.e_BadAsked_Unknown (AllT.cons E.e_BadShare_Unknown (AllT.cons E.e_BadRow_Unknown (AllT.cons E.e_Unknown_Unknown (AllT.cons E.e_Known_Unknown (AllT.cons E.e_Used_Unknown (AllT.cons E.e_TooMany_Unknown (AllT.cons E.e_Early_Unknown (AllT.cons E.e_NoText_Unknown (AllT.cons E.e_NoDeed_Unknown (AllT.cons E.e_NoBack_Unknown (AllT.cons E.e_NoLine_Unknown (AllT.cons E.e_NoRoom_Unknown (AllT.nil))))))))))))))))) sc_l_else.nd rfl rfl rfl (λ _ =>
   Q.pssd_one (Q.psd_ret (Q.pd_lst (Q.pac (Q.pd_xfld (AllC.cons ⟨E.x_Unknown,E.n_Unknown_name⟩ (AllC.cons ⟨E.x_Known,E.n_Known_name⟩ (AllC.cons ⟨E.x_Used,E.n_Used_name⟩ (AllC.nil)))) (Q.dv 3)) (Q.pad_nil))))) (Q.ph_as (i:=3) rfl E.m_Known (AllT.cons E.e_NoRow_Known (AllT.cons E.e_BadName_Known (AllT.cons E.e_BadBerths_Known (AllT.cons E.e_BadAsked_Known (AllT.cons E.e_BadShare_Known (AllT.cons E.e_BadRow_Known (AllT.cons E.e_Unknown_Known (AllT.cons E.e_Known_Known (AllT.cons E.e_Used_Known (AllT.cons E.e_TooMany_Known (AllT.cons E.e_Early_Known (AllT.cons E.e_NoText_Known (AllT.cons E.e_NoDeed_Known (AllT.cons E.e_NoBack_Known (AllT.cons E.e_NoLine_Known (AllT.cons E.e_NoRoom_Known (AllT.nil))))))))))))))))) sc_l_else.nd rfl rfl rfl (λ _ =>
   Q.pssd_one (Q.psd_ret (Q.pd_lst (Q.pac (Q.pd_xfld (AllC.cons ⟨E.x_Unknown,E.n_Unknown_name⟩ (AllC.cons ⟨E.x_Known,E.n_Known_name⟩ (AllC.cons ⟨E.x_Used,E.n_Used_name⟩ (AllC.nil)))) (Q.dv 3)) (Q.pad_nil))))) (Q.ph_as (i:=3) rfl E.m_Used (AllT.cons E.e_NoRow_Used (AllT.cons E.e_BadName_Used (AllT.cons E.e_BadBerths_Used (AllT.cons E.e_BadAsked_Used (AllT.cons E.e_BadShare_Used (AllT.cons E.e_BadRow_Used (AllT.cons E.e_Unknown_Used (AllT.cons E.e_Known_Used (AllT.cons E.e_Used_Used (AllT.cons E.e_TooMany_Used (AllT.cons E.e_Early_Used (AllT.cons E.e_NoText_Used (AllT.cons E.e_NoDeed_Used (AllT.cons E.e_NoBack_Used (AllT.cons E.e_NoLine_Used (AllT.cons E.e_NoRoom_Used (AllT.nil))))))))))))))))) sc_l_else.nd rfl rfl rfl (λ _ =>
   Q.pssd_one (Q.psd_ret (Q.pd_lst (Q.pac (Q.pd_xfld (AllC.cons ⟨E.x_Unknown,E.n_Unknown_name⟩ (AllC.cons ⟨E.x_Known,E.n_Known_name⟩ (AllC.cons ⟨E.x_Used,E.n_Used_name⟩ (AllC.nil)))) (Q.dv 3)) (Q.pad_nil))))) (Q.ph_as (i:=3) rfl E.m_TooMany (AllT.cons E.e_NoRow_TooMany (AllT.cons E.e_BadName_TooMany (AllT.cons E.e_BadBerths_TooMany (AllT.cons E.e_BadAsked_TooMany (AllT.cons E.e_BadShare_TooMany (AllT.cons E.e_BadRow_TooMany (AllT.cons E.e_Unknown_TooMany (AllT.cons E.e_Known_TooMany (AllT.cons E.e_Used_TooMany (AllT.cons E.e_TooMany_TooMany (AllT.cons E.e_Early_TooMany (AllT.cons E.e_NoText_TooMany (AllT.cons E.e_NoDeed_TooMany (AllT.cons E.e_NoBack_TooMany (AllT.cons E.e_NoLine_TooMany (AllT.cons E.e_NoRoom_TooMany (AllT.nil))))))))))))))))) sc_l_else.nd rfl rfl rfl (λ _ =>
   Q.pssd_one (Q.psd_ret (Q.pd_lst (Q.pac (Q.pd_xfld (AllC.cons ⟨E.x_TooMany,E.n_TooMany_most⟩ (AllC.nil)) (Q.dv 3)) (Q.pad_nil))))) (Q.ph_as (i:=3) rfl E.m_Early (AllT.cons E.e_NoRow_Early (AllT.cons E.e_BadName_Early (AllT.cons E.e_BadBerths_Early (AllT.cons E.e_BadAsked_Early (AllT.cons E.e_BadShare_Early (AllT.cons E.e_BadRow_Early (AllT.cons E.e_Unknown_Early (AllT.cons E.e_Known_Early (AllT.cons E.e_Used_Early (AllT.cons E.e_TooMany_Early (AllT.cons E.e_Early_Early (AllT.cons E.e_NoText_Early (AllT.cons E.e_NoDeed_Early (AllT.cons E.e_NoBack_Early (AllT.cons E.e_NoLine_Early (AllT.cons E.e_NoRoom_Early (AllT.nil))))))))))))))))) sc_l_else.nd rfl rfl rfl (λ _ =>
   Q.pssd_one (Q.psd_ret (Q.pd_lst (Q.pac (Q.pd_xfld (AllC.cons ⟨E.x_Early,E.n_Early_until⟩ (AllC.nil)) (Q.dv 3)) (Q.pad_nil))))) (Q.ph_as (i:=3) rfl E.m_NoRoom (AllT.cons E.e_NoRow_NoRoom (AllT.cons E.e_BadName_NoRoom (AllT.cons E.e_BadBerths_NoRoom (AllT.cons E.e_BadAsked_NoRoom (AllT.cons E.e_BadShare_NoRoom (AllT.cons E.e_BadRow_NoRoom (AllT.cons E.e_Unknown_NoRoom (AllT.cons E.e_Known_NoRoom (AllT.cons E.e_Used_NoRoom (AllT.cons E.e_TooMany_NoRoom (AllT.cons E.e_Early_NoRoom (AllT.cons E.e_NoText_NoRoom (AllT.cons E.e_NoDeed_NoRoom (AllT.cons E.e_NoBack_NoRoom (AllT.cons E.e_NoLine_NoRoom (AllT.cons E.e_NoRoom_NoRoom (AllT.nil))))))))))))))))) sc_l_else.nd rfl rfl rfl (λ _ =>
   Q.pssd_one (Q.psd_ret (Q.pd_lst (Q.pac (Q.pd_xfld (AllC.cons ⟨E.x_NoRoom,E.n_NoRoom_first⟩ (AllC.nil)) (Q.dv 3)) (Q.pac (Q.pd_xfld (AllC.cons ⟨E.x_NoRoom,E.n_NoRoom_demanded⟩ (AllC.nil)) (Q.dv 3)) (Q.pac (Q.pd_xfld (AllC.cons ⟨E.x_NoRoom,E.n_NoRoom_room⟩ (AllC.nil)) (Q.dv 3)) (Q.pad_nil))))))) (Q.ph_no rfl E.m_PlaceError (AllT.cons E.e_NoRow_PlaceError (AllT.cons E.e_BadName_PlaceError (AllT.cons E.e_BadBerths_PlaceError (AllT.cons E.e_BadAsked_PlaceError (AllT.cons E.e_BadShare_PlaceError (AllT.cons E.e_BadRow_PlaceError (AllT.cons E.e_Unknown_PlaceError (AllT.cons E.e_Known_PlaceError (AllT.cons E.e_Used_PlaceError (AllT.cons E.e_TooMany_PlaceError (AllT.cons E.e_Early_PlaceError (AllT.cons E.e_NoText_PlaceError (AllT.cons E.e_NoDeed_PlaceError (AllT.cons E.e_NoBack_PlaceError (AllT.cons E.e_NoLine_PlaceError (AllT.cons E.e_NoRoom_PlaceError (AllT.nil))))))))))))))))) (λ _ =>
   Q.pssd_one (Q.psd_ret (Q.pd_lst (Q.pad_nil)))) (Q.ph_none))))))))) <|
  Q.pssd_one (Q.psd_ret (Q.pd_lst (Q.pad_nil)))
theorem sc_l_any:FnScope N_l_any [] (defScope s_l_any):=⟨rfl,rfl,rfl,by decide +kernel,rfl,by decide +kernel,by decide +kernel⟩
theorem ok_l_any {f:Addr}{fd:FuncData}(E:Env K mg)(F:Fn K mg "_law_any" s_l_any [] f fd)
  {f_l_kinds:Addr}{fd_l_kinds:FuncData}(G_l_kinds:Fn K mg "_law_kinds" s_l_kinds ["_law_e"] f_l_kinds fd_l_kinds)(O_l_kinds:FnOkH P w K mg base CX0 1 f_l_kinds fd_l_kinds ["_law_e"] (upSp K sp_l_kinds)) :
  FnOk P w K mg base CX0 2 f fd [] (upSp K sp_l_any):=by
 refine fun_ok (t:=t_l_any sp_l_kinds) F.fn sc_l_any len_l_any (λ cdv A outer s H E' hr=>?_) read_l_any
 refine Jd.h ?_
 exact Q.pssd_one (Q.psd_try rfl rfl (λ _ _ _ _ hE hP =>
   Q.pssd_one (Q.psd_raise0 hE E.x_PlaceError E.xn_PlaceError E.xt_PlaceError E.xk_PlaceError hr rfl E.m_PlaceError (Q.pac (Q.pd_str) (Q.pad_nil)))) (Q.ph_as (i:=0) rfl E.m_PlaceError (AllT.cons E.e_PlaceError_PlaceError (AllT.nil)) sc_l_any.nd rfl rfl rfl (λ _ =>
   Q.pssd_one (Q.psd_ret (Q.pd_cmp (op_eqTH (hr.h.mark _)) opd_eqT (Q.pcFH O_l_kinds ((hr.h.mark _).mono (by decide)) rfl G_l_kinds.mg G_l_kinds.fn.kp G_l_kinds.bd (Q.pac (Q.dv 0) (Q.pad_nil))) (Q.pd_cat (Q.pd_op op_rep opd_rep (Q.pd_lstM (Q.pac (Q.pd_bl) (Q.pad_nil))) (Q.pd_int)) (Q.pd_lst (Q.pac (Q.pd_bl) (Q.pad_nil))))))) (Q.ph_none)))
theorem ndc_1:(["_law_j", "_law_k"]:List Str).Nodup:=by decide +kernel
theorem sc_law:FnScope N_law ["_law_script"] (defScope s_law):=⟨rfl,rfl,rfl,by decide +kernel,rfl,by decide +kernel,by decide +kernel⟩
theorem ok_law {f:Addr}{fd:FuncData}(E:Env K mg)(F:Fn K mg "law" s_law ["_law_script"] f fd)
  {f_l_bag:Addr}{fd_l_bag:FuncData}(G_l_bag:Fn K mg "_law_bag" s_l_bag ["_law_script"] f_l_bag fd_l_bag)(O_l_bag:FnOk P w K mg base CX0 1 f_l_bag fd_l_bag ["_law_script"] (upSp K sp_l_bag))
  {f_l_thing:Addr}{fd_l_thing:FuncData}(G_l_thing:Fn K mg "_law_thing" s_l_thing ["_law_bag_here"] f_l_thing fd_l_thing)(O_l_thing:FnOk P w K mg base CX0 2 f_l_thing fd_l_thing ["_law_bag_here"] (upSp K sp_l_thing))
  {f_l_take:Addr}{fd_l_take:FuncData}(G_l_take:Fn K mg "_law_take" s_l_take ["_law_bag_here", "_law_many"] f_l_take fd_l_take)(O_l_take:FnOk P w K mg base CX0 1 f_l_take fd_l_take ["_law_bag_here", "_law_many"] (upSp K sp_l_take))
  {f_l_caught:Addr}{fd_l_caught:FuncData}(G_l_caught:Fn K mg "_law_caught" s_l_caught ["_law_k", "_law_thing_here", "_law_word"] f_l_caught fd_l_caught)(O_l_caught:FnOk P w K mg base CX0 4 f_l_caught fd_l_caught ["_law_k", "_law_thing_here", "_law_word"] (upSp K sp_l_caught))
  {f_l_at:Addr}{fd_l_at:FuncData}(G_l_at:Fn K mg "_law_at" s_l_at ["_law_k", "_law_thing_here", "_law_word"] f_l_at fd_l_at)(O_l_at:FnOk P w K mg base CX0 4 f_l_at fd_l_at ["_law_k", "_law_thing_here", "_law_word"] (upSp K sp_l_at))
  {f_l_else:Addr}{fd_l_else:FuncData}(G_l_else:Fn K mg "_law_else" s_l_else ["_law_k", "_law_thing_here", "_law_word"] f_l_else fd_l_else)(O_l_else:FnOk P w K mg base CX0 4 f_l_else fd_l_else ["_law_k", "_law_thing_here", "_law_word"] (upSp K sp_l_else))
  {f_l_any:Addr}{fd_l_any:FuncData}(G_l_any:Fn K mg "_law_any" s_l_any [] f_l_any fd_l_any)(O_l_any:FnOk P w K mg base CX0 2 f_l_any fd_l_any [] (upSp K sp_l_any)) :
  FnOk P w K mg base CX0 5 f fd ["_law_script"] (upSp K sp_law):=by
 refine fun_ok (t:=t_law sp_l_bag sp_l_thing sp_l_take sp_l_caught sp_l_at sp_l_else sp_l_any) F.fn sc_law len_law (λ cdv A outer s H E' hr=>?_) read_law
 refine Jd.h ?_
 exact Q.pssd_cons (Q.psd_set (i:=1) sc_law.nd rfl (Or.inl rfl) (Q.pcF O_l_bag (hr.mono (by decide)) rfl G_l_bag.mg G_l_bag.fn.kp G_l_bag.bd (Q.pac (Q.dv 0) (Q.pad_nil)))) <|
  Q.pssd_cons (Q.psd_for PassesOwn.never rfl (Q.pid_range1 rfl E.b_range (Q.pac (Q.pd_int) (Q.pad_nil))) (Q.pgd_name (i:=2) sc_law.nd rfl (Or.inl rfl))
   (Q.pssd_one (Q.psd_for PassesOwn.never rfl (Q.pid_range1 rfl E.b_range (Q.pac (Q.pd_int) (Q.pad_nil))) (Q.pgd_name (i:=3) sc_law.nd rfl (Or.inr rfl))
    (Q.pssd_cons (Q.psd_set (i:=4) sc_law.nd rfl (Or.inl rfl) (Q.pcF O_l_thing (hr.mono (by decide)) rfl G_l_thing.mg G_l_thing.fn.kp G_l_thing.bd (Q.pac (Q.dv 1) (Q.pad_nil)))) <|
    Q.pssd_cons (Q.psd_set (i:=5) sc_law.nd rfl (Or.inl rfl) (Q.pd_ix ix_seq opd_ix (Q.pd_lst (Q.pac (Q.pd_str) (Q.pac (Q.pd_str) (Q.pac (Q.pd_str) (Q.pac (Q.pd_str) (Q.pad_nil)))))) (Q.pcF O_l_take (hr.mono (by decide)) rfl G_l_take.mg G_l_take.fn.kp G_l_take.bd (Q.pac (Q.dv 1) (Q.pac (Q.pd_int) (Q.pad_nil)))))) <|
    Q.pssd_cons (Q.psd_if (Q.ptd_cmp (op_neT hr) opd_neT (Q.pcF O_l_caught (hr.mono (by decide)) rfl G_l_caught.mg G_l_caught.fn.kp G_l_caught.bd (Q.pac (Q.dv 3) (Q.pac (Q.dv 4) (Q.pac (Q.dv 5) (Q.pad_nil))))) (Q.pd_cat (Q.pd_lc rfl (lcOk (own:=(["_law_j"]:List Str)) (fr:=[3]) rfl) (Q.pid_range1 rfl E.b_range (Q.pac (Q.pd_int) (Q.pad_nil))) (λ _ _ _ _ _ _=>Q.pgd_name (i:=0) ndc_1 rfl (Or.inl rfl)) (λ _ _ _ _ _ _=>Q.ptsd_nil) (λ _ _ _ _ _ _=>Q.pd_cmp (op_eqT hr) opd_eqT (Q.dv 1) (Q.dv 0))) (Q.pd_lst (Q.pac (Q.pd_bl) (Q.pad_nil)))))
     (Q.pssd_one (Q.psd_ret (Q.pd_bl)))
     (Q.pssd_nil)) <|
    Q.pssd_cons (Q.psd_set (i:=6) sc_law.nd rfl (Or.inl rfl) (Q.pd_op op_rep opd_rep (Q.pd_lstM (Q.pac (Q.dv 4) (Q.pad_nil))) (Q.pcT call_int1 cd_int rfl E.b_int bt_int (Q.pac (Q.pd_cmp op_lt opd_lt (Q.dv 3) (Q.pd_int)) (Q.pad_nil))))) <|
    Q.pssd_cons (Q.psd_if (Q.ptd_cmp (op_eqT hr) opd_eqT (Q.dv 3) (Q.pd_int))
     (Q.pssd_one (Q.psd_set (i:=6) sc_law.nd rfl (Or.inl rfl) (Q.pd_lst (Q.pac (Q.dv 4) (Q.pac (Q.pd_lst (Q.pac (Q.dv 4) (Q.pad_nil))) (Q.pac (Q.dv 5) (Q.pad_nil)))))))
     (Q.pssd_nil)) <|
    Q.pssd_one (Q.psd_if (Q.ptd_cmp (op_neT hr) opd_neT (Q.pcB (call_reprK hr) cd_reprK rfl E.b_repr bb_repr (Q.pac (Q.pd_cat (Q.pcF O_l_at (hr.mono (by decide)) rfl G_l_at.mg G_l_at.fn.kp G_l_at.bd (Q.pac (Q.dv 3) (Q.pac (Q.dv 4) (Q.pac (Q.dv 5) (Q.pad_nil))))) (Q.pcF O_l_else (hr.mono (by decide)) rfl G_l_else.mg G_l_else.fn.kp G_l_else.bd (Q.pac (Q.dv 3) (Q.pac (Q.dv 4) (Q.pac (Q.dv 5) (Q.pad_nil)))))) (Q.pad_nil))) (Q.pcB (call_reprK hr) cd_reprK rfl E.b_repr bb_repr (Q.pac (Q.dv 6) (Q.pad_nil))))
     (Q.pssd_one (Q.psd_ret (Q.pd_bl)))
     (Q.pssd_nil)))))) <|
  Q.pssd_one (Q.psd_ret (Q.pd_call0 O_l_any (hr.mono (by decide)) rfl G_l_any.mg G_l_any.fn.kp G_l_any.bd))
theorem all_mk {l:PySem.W.OpenLaw}{w:World}{K:PySem.W.Frag}{h:Heap}{mg:Str->Option Value}{fa:Addr}(X:K.In h)(G:h.Ns mainGlobals mg)(hfa:mg "law" = some (.ref fa))
  {f_l_bag:Addr}{oc_l_bag kV_l_bag dc_l_bag pm_l_bag cd_l_bag ct_l_bag:Value}{od_l_bag an_l_bag:Option Addr}{sl_l_bag:Array (Option Value)}
  (a_l_bag:PySem.W.nsIn K mainGlobals "_law_bag" = some (some (.ref f_l_bag)))(l_l_bag:K.lookup f_l_bag=some ⟨oc_l_bag,od_l_bag,.func (PySem.W.fnOf "_law_bag" "_law_bag" (defArgs s_l_bag) (defBody s_l_bag) (defScope s_l_bag) .none kV_l_bag dc_l_bag pm_l_bag an_l_bag cd_l_bag ct_l_bag),sl_l_bag⟩)(c_l_bag:PySem.W.codeIn K cd_l_bag "_law_bag" = true)(k_l_bag:PySem.W.keepIn K (.ref f_l_bag)=true)
  {f_l_take:Addr}{oc_l_take kV_l_take dc_l_take pm_l_take cd_l_take ct_l_take:Value}{od_l_take an_l_take:Option Addr}{sl_l_take:Array (Option Value)}
  (a_l_take:PySem.W.nsIn K mainGlobals "_law_take" = some (some (.ref f_l_take)))(l_l_take:K.lookup f_l_take=some ⟨oc_l_take,od_l_take,.func (PySem.W.fnOf "_law_take" "_law_take" (defArgs s_l_take) (defBody s_l_take) (defScope s_l_take) .none kV_l_take dc_l_take pm_l_take an_l_take cd_l_take ct_l_take),sl_l_take⟩)(c_l_take:PySem.W.codeIn K cd_l_take "_law_take" = true)(k_l_take:PySem.W.keepIn K (.ref f_l_take)=true)
  {f_l_thing:Addr}{oc_l_thing kV_l_thing dc_l_thing pm_l_thing cd_l_thing ct_l_thing:Value}{od_l_thing an_l_thing:Option Addr}{sl_l_thing:Array (Option Value)}
  (a_l_thing:PySem.W.nsIn K mainGlobals "_law_thing" = some (some (.ref f_l_thing)))(l_l_thing:K.lookup f_l_thing=some ⟨oc_l_thing,od_l_thing,.func (PySem.W.fnOf "_law_thing" "_law_thing" (defArgs s_l_thing) (defBody s_l_thing) (defScope s_l_thing) .none kV_l_thing dc_l_thing pm_l_thing an_l_thing cd_l_thing ct_l_thing),sl_l_thing⟩)(c_l_thing:PySem.W.codeIn K cd_l_thing "_law_thing" = true)(k_l_thing:PySem.W.keepIn K (.ref f_l_thing)=true)
  {f_NoRow_init:Addr}{oc_NoRow_init kV_NoRow_init dc_NoRow_init pm_NoRow_init cd_NoRow_init ct_NoRow_init:Value}{od_NoRow_init an_NoRow_init:Option Addr}{sl_NoRow_init:Array (Option Value)}
  (a_NoRow_init:PySem.W.findIn K (.ref C_NoRow) "__init__" = some (some (.ref f_NoRow_init)))(i_NoRow_init:PySem.W.typeIn K (.ref f_NoRow_init)=some (.type "function"))(l_NoRow_init:K.lookup f_NoRow_init=some ⟨oc_NoRow_init,od_NoRow_init,.func (PySem.W.fnOf "__init__" "NoRow.__init__" (defArgs s_NoRow_init) (defBody s_NoRow_init) (defScope s_NoRow_init) .none kV_NoRow_init dc_NoRow_init pm_NoRow_init an_NoRow_init cd_NoRow_init ct_NoRow_init),sl_NoRow_init⟩)(c_NoRow_init:PySem.W.codeIn K cd_NoRow_init "NoRow.__init__" = true)(k_NoRow_init:PySem.W.keepIn K (.ref f_NoRow_init)=true)
  (xm_NoRow_init:XO.xmk K C_NoRow=true)(xt_NoRow_init:PySem.W.typeIn K (.ref C_NoRow)=some (.type "type"))(xk_NoRow_init:PySem.W.keepIn K (.ref C_NoRow)=true)
  {f_BadName_init:Addr}{oc_BadName_init kV_BadName_init dc_BadName_init pm_BadName_init cd_BadName_init ct_BadName_init:Value}{od_BadName_init an_BadName_init:Option Addr}{sl_BadName_init:Array (Option Value)}
  (a_BadName_init:PySem.W.findIn K (.ref C_BadName) "__init__" = some (some (.ref f_BadName_init)))(i_BadName_init:PySem.W.typeIn K (.ref f_BadName_init)=some (.type "function"))(l_BadName_init:K.lookup f_BadName_init=some ⟨oc_BadName_init,od_BadName_init,.func (PySem.W.fnOf "__init__" "BadName.__init__" (defArgs s_BadName_init) (defBody s_BadName_init) (defScope s_BadName_init) .none kV_BadName_init dc_BadName_init pm_BadName_init an_BadName_init cd_BadName_init ct_BadName_init),sl_BadName_init⟩)(c_BadName_init:PySem.W.codeIn K cd_BadName_init "BadName.__init__" = true)(k_BadName_init:PySem.W.keepIn K (.ref f_BadName_init)=true)
  (xm_BadName_init:XO.xmk K C_BadName=true)(xt_BadName_init:PySem.W.typeIn K (.ref C_BadName)=some (.type "type"))(xk_BadName_init:PySem.W.keepIn K (.ref C_BadName)=true)
  {f_BadBerths_init:Addr}{oc_BadBerths_init kV_BadBerths_init dc_BadBerths_init pm_BadBerths_init cd_BadBerths_init ct_BadBerths_init:Value}{od_BadBerths_init an_BadBerths_init:Option Addr}{sl_BadBerths_init:Array (Option Value)}
  (a_BadBerths_init:PySem.W.findIn K (.ref C_BadBerths) "__init__" = some (some (.ref f_BadBerths_init)))(i_BadBerths_init:PySem.W.typeIn K (.ref f_BadBerths_init)=some (.type "function"))(l_BadBerths_init:K.lookup f_BadBerths_init=some ⟨oc_BadBerths_init,od_BadBerths_init,.func (PySem.W.fnOf "__init__" "BadBerths.__init__" (defArgs s_BadBerths_init) (defBody s_BadBerths_init) (defScope s_BadBerths_init) .none kV_BadBerths_init dc_BadBerths_init pm_BadBerths_init an_BadBerths_init cd_BadBerths_init ct_BadBerths_init),sl_BadBerths_init⟩)(c_BadBerths_init:PySem.W.codeIn K cd_BadBerths_init "BadBerths.__init__" = true)(k_BadBerths_init:PySem.W.keepIn K (.ref f_BadBerths_init)=true)
  (xm_BadBerths_init:XO.xmk K C_BadBerths=true)(xt_BadBerths_init:PySem.W.typeIn K (.ref C_BadBerths)=some (.type "type"))(xk_BadBerths_init:PySem.W.keepIn K (.ref C_BadBerths)=true)
  {f_BadAsked_init:Addr}{oc_BadAsked_init kV_BadAsked_init dc_BadAsked_init pm_BadAsked_init cd_BadAsked_init ct_BadAsked_init:Value}{od_BadAsked_init an_BadAsked_init:Option Addr}{sl_BadAsked_init:Array (Option Value)}
  (a_BadAsked_init:PySem.W.findIn K (.ref C_BadAsked) "__init__" = some (some (.ref f_BadAsked_init)))(i_BadAsked_init:PySem.W.typeIn K (.ref f_BadAsked_init)=some (.type "function"))(l_BadAsked_init:K.lookup f_BadAsked_init=some ⟨oc_BadAsked_init,od_BadAsked_init,.func (PySem.W.fnOf "__init__" "BadAsked.__init__" (defArgs s_BadAsked_init) (defBody s_BadAsked_init) (defScope s_BadAsked_init) .none kV_BadAsked_init dc_BadAsked_init pm_BadAsked_init an_BadAsked_init cd_BadAsked_init ct_BadAsked_init),sl_BadAsked_init⟩)(c_BadAsked_init:PySem.W.codeIn K cd_BadAsked_init "BadAsked.__init__" = true)(k_BadAsked_init:PySem.W.keepIn K (.ref f_BadAsked_init)=true)
  (xm_BadAsked_init:XO.xmk K C_BadAsked=true)(xt_BadAsked_init:PySem.W.typeIn K (.ref C_BadAsked)=some (.type "type"))(xk_BadAsked_init:PySem.W.keepIn K (.ref C_BadAsked)=true)
  {f_BadShare_init:Addr}{oc_BadShare_init kV_BadShare_init dc_BadShare_init pm_BadShare_init cd_BadShare_init ct_BadShare_init:Value}{od_BadShare_init an_BadShare_init:Option Addr}{sl_BadShare_init:Array (Option Value)}
  (a_BadShare_init:PySem.W.findIn K (.ref C_BadShare) "__init__" = some (some (.ref f_BadShare_init)))(i_BadShare_init:PySem.W.typeIn K (.ref f_BadShare_init)=some (.type "function"))(l_BadShare_init:K.lookup f_BadShare_init=some ⟨oc_BadShare_init,od_BadShare_init,.func (PySem.W.fnOf "__init__" "BadShare.__init__" (defArgs s_BadShare_init) (defBody s_BadShare_init) (defScope s_BadShare_init) .none kV_BadShare_init dc_BadShare_init pm_BadShare_init an_BadShare_init cd_BadShare_init ct_BadShare_init),sl_BadShare_init⟩)(c_BadShare_init:PySem.W.codeIn K cd_BadShare_init "BadShare.__init__" = true)(k_BadShare_init:PySem.W.keepIn K (.ref f_BadShare_init)=true)
  (xm_BadShare_init:XO.xmk K C_BadShare=true)(xt_BadShare_init:PySem.W.typeIn K (.ref C_BadShare)=some (.type "type"))(xk_BadShare_init:PySem.W.keepIn K (.ref C_BadShare)=true)
  {f_BadRow_init:Addr}{oc_BadRow_init kV_BadRow_init dc_BadRow_init pm_BadRow_init cd_BadRow_init ct_BadRow_init:Value}{od_BadRow_init an_BadRow_init:Option Addr}{sl_BadRow_init:Array (Option Value)}
  (a_BadRow_init:PySem.W.findIn K (.ref C_BadRow) "__init__" = some (some (.ref f_BadRow_init)))(i_BadRow_init:PySem.W.typeIn K (.ref f_BadRow_init)=some (.type "function"))(l_BadRow_init:K.lookup f_BadRow_init=some ⟨oc_BadRow_init,od_BadRow_init,.func (PySem.W.fnOf "__init__" "BadRow.__init__" (defArgs s_BadRow_init) (defBody s_BadRow_init) (defScope s_BadRow_init) .none kV_BadRow_init dc_BadRow_init pm_BadRow_init an_BadRow_init cd_BadRow_init ct_BadRow_init),sl_BadRow_init⟩)(c_BadRow_init:PySem.W.codeIn K cd_BadRow_init "BadRow.__init__" = true)(k_BadRow_init:PySem.W.keepIn K (.ref f_BadRow_init)=true)
  (xm_BadRow_init:XO.xmk K C_BadRow=true)(xt_BadRow_init:PySem.W.typeIn K (.ref C_BadRow)=some (.type "type"))(xk_BadRow_init:PySem.W.keepIn K (.ref C_BadRow)=true)
  {f_Unknown_init:Addr}{oc_Unknown_init kV_Unknown_init dc_Unknown_init pm_Unknown_init cd_Unknown_init ct_Unknown_init:Value}{od_Unknown_init an_Unknown_init:Option Addr}{sl_Unknown_init:Array (Option Value)}
  (a_Unknown_init:PySem.W.findIn K (.ref C_Unknown) "__init__" = some (some (.ref f_Unknown_init)))(i_Unknown_init:PySem.W.typeIn K (.ref f_Unknown_init)=some (.type "function"))(l_Unknown_init:K.lookup f_Unknown_init=some ⟨oc_Unknown_init,od_Unknown_init,.func (PySem.W.fnOf "__init__" "Unknown.__init__" (defArgs s_Unknown_init) (defBody s_Unknown_init) (defScope s_Unknown_init) .none kV_Unknown_init dc_Unknown_init pm_Unknown_init an_Unknown_init cd_Unknown_init ct_Unknown_init),sl_Unknown_init⟩)(c_Unknown_init:PySem.W.codeIn K cd_Unknown_init "Unknown.__init__" = true)(k_Unknown_init:PySem.W.keepIn K (.ref f_Unknown_init)=true)
  (xm_Unknown_init:XO.xmk K C_Unknown=true)(xt_Unknown_init:PySem.W.typeIn K (.ref C_Unknown)=some (.type "type"))(xk_Unknown_init:PySem.W.keepIn K (.ref C_Unknown)=true)
  {f_Known_init:Addr}{oc_Known_init kV_Known_init dc_Known_init pm_Known_init cd_Known_init ct_Known_init:Value}{od_Known_init an_Known_init:Option Addr}{sl_Known_init:Array (Option Value)}
  (a_Known_init:PySem.W.findIn K (.ref C_Known) "__init__" = some (some (.ref f_Known_init)))(i_Known_init:PySem.W.typeIn K (.ref f_Known_init)=some (.type "function"))(l_Known_init:K.lookup f_Known_init=some ⟨oc_Known_init,od_Known_init,.func (PySem.W.fnOf "__init__" "Known.__init__" (defArgs s_Known_init) (defBody s_Known_init) (defScope s_Known_init) .none kV_Known_init dc_Known_init pm_Known_init an_Known_init cd_Known_init ct_Known_init),sl_Known_init⟩)(c_Known_init:PySem.W.codeIn K cd_Known_init "Known.__init__" = true)(k_Known_init:PySem.W.keepIn K (.ref f_Known_init)=true)
  (xm_Known_init:XO.xmk K C_Known=true)(xt_Known_init:PySem.W.typeIn K (.ref C_Known)=some (.type "type"))(xk_Known_init:PySem.W.keepIn K (.ref C_Known)=true)
  {f_Used_init:Addr}{oc_Used_init kV_Used_init dc_Used_init pm_Used_init cd_Used_init ct_Used_init:Value}{od_Used_init an_Used_init:Option Addr}{sl_Used_init:Array (Option Value)}
  (a_Used_init:PySem.W.findIn K (.ref C_Used) "__init__" = some (some (.ref f_Used_init)))(i_Used_init:PySem.W.typeIn K (.ref f_Used_init)=some (.type "function"))(l_Used_init:K.lookup f_Used_init=some ⟨oc_Used_init,od_Used_init,.func (PySem.W.fnOf "__init__" "Used.__init__" (defArgs s_Used_init) (defBody s_Used_init) (defScope s_Used_init) .none kV_Used_init dc_Used_init pm_Used_init an_Used_init cd_Used_init ct_Used_init),sl_Used_init⟩)(c_Used_init:PySem.W.codeIn K cd_Used_init "Used.__init__" = true)(k_Used_init:PySem.W.keepIn K (.ref f_Used_init)=true)
  (xm_Used_init:XO.xmk K C_Used=true)(xt_Used_init:PySem.W.typeIn K (.ref C_Used)=some (.type "type"))(xk_Used_init:PySem.W.keepIn K (.ref C_Used)=true)
  {f_TooMany_init:Addr}{oc_TooMany_init kV_TooMany_init dc_TooMany_init pm_TooMany_init cd_TooMany_init ct_TooMany_init:Value}{od_TooMany_init an_TooMany_init:Option Addr}{sl_TooMany_init:Array (Option Value)}
  (a_TooMany_init:PySem.W.findIn K (.ref C_TooMany) "__init__" = some (some (.ref f_TooMany_init)))(i_TooMany_init:PySem.W.typeIn K (.ref f_TooMany_init)=some (.type "function"))(l_TooMany_init:K.lookup f_TooMany_init=some ⟨oc_TooMany_init,od_TooMany_init,.func (PySem.W.fnOf "__init__" "TooMany.__init__" (defArgs s_TooMany_init) (defBody s_TooMany_init) (defScope s_TooMany_init) .none kV_TooMany_init dc_TooMany_init pm_TooMany_init an_TooMany_init cd_TooMany_init ct_TooMany_init),sl_TooMany_init⟩)(c_TooMany_init:PySem.W.codeIn K cd_TooMany_init "TooMany.__init__" = true)(k_TooMany_init:PySem.W.keepIn K (.ref f_TooMany_init)=true)
  (xm_TooMany_init:XO.xmk K C_TooMany=true)(xt_TooMany_init:PySem.W.typeIn K (.ref C_TooMany)=some (.type "type"))(xk_TooMany_init:PySem.W.keepIn K (.ref C_TooMany)=true)
  {f_Early_init:Addr}{oc_Early_init kV_Early_init dc_Early_init pm_Early_init cd_Early_init ct_Early_init:Value}{od_Early_init an_Early_init:Option Addr}{sl_Early_init:Array (Option Value)}
  (a_Early_init:PySem.W.findIn K (.ref C_Early) "__init__" = some (some (.ref f_Early_init)))(i_Early_init:PySem.W.typeIn K (.ref f_Early_init)=some (.type "function"))(l_Early_init:K.lookup f_Early_init=some ⟨oc_Early_init,od_Early_init,.func (PySem.W.fnOf "__init__" "Early.__init__" (defArgs s_Early_init) (defBody s_Early_init) (defScope s_Early_init) .none kV_Early_init dc_Early_init pm_Early_init an_Early_init cd_Early_init ct_Early_init),sl_Early_init⟩)(c_Early_init:PySem.W.codeIn K cd_Early_init "Early.__init__" = true)(k_Early_init:PySem.W.keepIn K (.ref f_Early_init)=true)
  (xm_Early_init:XO.xmk K C_Early=true)(xt_Early_init:PySem.W.typeIn K (.ref C_Early)=some (.type "type"))(xk_Early_init:PySem.W.keepIn K (.ref C_Early)=true)
  {f_NoRoom_init:Addr}{oc_NoRoom_init kV_NoRoom_init dc_NoRoom_init pm_NoRoom_init cd_NoRoom_init ct_NoRoom_init:Value}{od_NoRoom_init an_NoRoom_init:Option Addr}{sl_NoRoom_init:Array (Option Value)}
  (a_NoRoom_init:PySem.W.findIn K (.ref C_NoRoom) "__init__" = some (some (.ref f_NoRoom_init)))(i_NoRoom_init:PySem.W.typeIn K (.ref f_NoRoom_init)=some (.type "function"))(l_NoRoom_init:K.lookup f_NoRoom_init=some ⟨oc_NoRoom_init,od_NoRoom_init,.func (PySem.W.fnOf "__init__" "NoRoom.__init__" (defArgs s_NoRoom_init) (defBody s_NoRoom_init) (defScope s_NoRoom_init) .none kV_NoRoom_init dc_NoRoom_init pm_NoRoom_init an_NoRoom_init cd_NoRoom_init ct_NoRoom_init),sl_NoRoom_init⟩)(c_NoRoom_init:PySem.W.codeIn K cd_NoRoom_init "NoRoom.__init__" = true)(k_NoRoom_init:PySem.W.keepIn K (.ref f_NoRoom_init)=true)
  (xm_NoRoom_init:XO.xmk K C_NoRoom=true)(xt_NoRoom_init:PySem.W.typeIn K (.ref C_NoRoom)=some (.type "type"))(xk_NoRoom_init:PySem.W.keepIn K (.ref C_NoRoom)=true)
  {f_l_raised:Addr}{oc_l_raised kV_l_raised dc_l_raised pm_l_raised cd_l_raised ct_l_raised:Value}{od_l_raised an_l_raised:Option Addr}{sl_l_raised:Array (Option Value)}
  (a_l_raised:PySem.W.nsIn K mainGlobals "_law_raised" = some (some (.ref f_l_raised)))(l_l_raised:K.lookup f_l_raised=some ⟨oc_l_raised,od_l_raised,.func (PySem.W.fnOf "_law_raised" "_law_raised" (defArgs s_l_raised) (defBody s_l_raised) (defScope s_l_raised) .none kV_l_raised dc_l_raised pm_l_raised an_l_raised cd_l_raised ct_l_raised),sl_l_raised⟩)(c_l_raised:PySem.W.codeIn K cd_l_raised "_law_raised" = true)(k_l_raised:PySem.W.keepIn K (.ref f_l_raised)=true)
  {f_l_kinds:Addr}{oc_l_kinds kV_l_kinds dc_l_kinds pm_l_kinds cd_l_kinds ct_l_kinds:Value}{od_l_kinds an_l_kinds:Option Addr}{sl_l_kinds:Array (Option Value)}
  (a_l_kinds:PySem.W.nsIn K mainGlobals "_law_kinds" = some (some (.ref f_l_kinds)))(l_l_kinds:K.lookup f_l_kinds=some ⟨oc_l_kinds,od_l_kinds,.func (PySem.W.fnOf "_law_kinds" "_law_kinds" (defArgs s_l_kinds) (defBody s_l_kinds) (defScope s_l_kinds) .none kV_l_kinds dc_l_kinds pm_l_kinds an_l_kinds cd_l_kinds ct_l_kinds),sl_l_kinds⟩)(c_l_kinds:PySem.W.codeIn K cd_l_kinds "_law_kinds" = true)(k_l_kinds:PySem.W.keepIn K (.ref f_l_kinds)=true)
  {f_l_caught:Addr}{oc_l_caught kV_l_caught dc_l_caught pm_l_caught cd_l_caught ct_l_caught:Value}{od_l_caught an_l_caught:Option Addr}{sl_l_caught:Array (Option Value)}
  (a_l_caught:PySem.W.nsIn K mainGlobals "_law_caught" = some (some (.ref f_l_caught)))(l_l_caught:K.lookup f_l_caught=some ⟨oc_l_caught,od_l_caught,.func (PySem.W.fnOf "_law_caught" "_law_caught" (defArgs s_l_caught) (defBody s_l_caught) (defScope s_l_caught) .none kV_l_caught dc_l_caught pm_l_caught an_l_caught cd_l_caught ct_l_caught),sl_l_caught⟩)(c_l_caught:PySem.W.codeIn K cd_l_caught "_law_caught" = true)(k_l_caught:PySem.W.keepIn K (.ref f_l_caught)=true)
  {f_l_at:Addr}{oc_l_at kV_l_at dc_l_at pm_l_at cd_l_at ct_l_at:Value}{od_l_at an_l_at:Option Addr}{sl_l_at:Array (Option Value)}
  (a_l_at:PySem.W.nsIn K mainGlobals "_law_at" = some (some (.ref f_l_at)))(l_l_at:K.lookup f_l_at=some ⟨oc_l_at,od_l_at,.func (PySem.W.fnOf "_law_at" "_law_at" (defArgs s_l_at) (defBody s_l_at) (defScope s_l_at) .none kV_l_at dc_l_at pm_l_at an_l_at cd_l_at ct_l_at),sl_l_at⟩)(c_l_at:PySem.W.codeIn K cd_l_at "_law_at" = true)(k_l_at:PySem.W.keepIn K (.ref f_l_at)=true)
  {f_l_else:Addr}{oc_l_else kV_l_else dc_l_else pm_l_else cd_l_else ct_l_else:Value}{od_l_else an_l_else:Option Addr}{sl_l_else:Array (Option Value)}
  (a_l_else:PySem.W.nsIn K mainGlobals "_law_else" = some (some (.ref f_l_else)))(l_l_else:K.lookup f_l_else=some ⟨oc_l_else,od_l_else,.func (PySem.W.fnOf "_law_else" "_law_else" (defArgs s_l_else) (defBody s_l_else) (defScope s_l_else) .none kV_l_else dc_l_else pm_l_else an_l_else cd_l_else ct_l_else),sl_l_else⟩)(c_l_else:PySem.W.codeIn K cd_l_else "_law_else" = true)(k_l_else:PySem.W.keepIn K (.ref f_l_else)=true)
  {f_l_any:Addr}{oc_l_any kV_l_any dc_l_any pm_l_any cd_l_any ct_l_any:Value}{od_l_any an_l_any:Option Addr}{sl_l_any:Array (Option Value)}
  (a_l_any:PySem.W.nsIn K mainGlobals "_law_any" = some (some (.ref f_l_any)))(l_l_any:K.lookup f_l_any=some ⟨oc_l_any,od_l_any,.func (PySem.W.fnOf "_law_any" "_law_any" (defArgs s_l_any) (defBody s_l_any) (defScope s_l_any) .none kV_l_any dc_l_any pm_l_any an_l_any cd_l_any ct_l_any),sl_l_any⟩)(c_l_any:PySem.W.codeIn K cd_l_any "_law_any" = true)(k_l_any:PySem.W.keepIn K (.ref f_l_any)=true)
  {f_law:Addr}{oc_law kV_law dc_law pm_law cd_law ct_law:Value}{od_law an_law:Option Addr}{sl_law:Array (Option Value)}
  (a_law:PySem.W.nsIn K mainGlobals "law" = some (some (.ref f_law)))(l_law:K.lookup f_law=some ⟨oc_law,od_law,.func (PySem.W.fnOf "law" "law" (defArgs s_law) (defBody s_law) (defScope s_law) .none kV_law dc_law pm_law an_law cd_law ct_law),sl_law⟩)(c_law:PySem.W.codeIn K cd_law "law" = true)(k_law:PySem.W.keepIn K (.ref f_law)=true)
  (xg_BadAsked:PySem.W.nsIn K mainGlobals "BadAsked" = some (some (.ref C_BadAsked)))
  (xg_BadBerths:PySem.W.nsIn K mainGlobals "BadBerths" = some (some (.ref C_BadBerths)))
  (xg_BadName:PySem.W.nsIn K mainGlobals "BadName" = some (some (.ref C_BadName)))
  (xg_BadRow:PySem.W.nsIn K mainGlobals "BadRow" = some (some (.ref C_BadRow)))
  (xg_BadShare:PySem.W.nsIn K mainGlobals "BadShare" = some (some (.ref C_BadShare)))
  (xg_Early:PySem.W.nsIn K mainGlobals "Early" = some (some (.ref C_Early)))
  (xg_Known:PySem.W.nsIn K mainGlobals "Known" = some (some (.ref C_Known)))
  (xg_NoBack:PySem.W.nsIn K mainGlobals "NoBack" = some (some (.ref C_NoBack)))
  (xg_NoDeed:PySem.W.nsIn K mainGlobals "NoDeed" = some (some (.ref C_NoDeed)))
  (xg_NoLine:PySem.W.nsIn K mainGlobals "NoLine" = some (some (.ref C_NoLine)))
  (xg_NoRoom:PySem.W.nsIn K mainGlobals "NoRoom" = some (some (.ref C_NoRoom)))
  (xg_NoRow:PySem.W.nsIn K mainGlobals "NoRow" = some (some (.ref C_NoRow)))
  (xg_NoText:PySem.W.nsIn K mainGlobals "NoText" = some (some (.ref C_NoText)))
  (xg_PlaceError:PySem.W.nsIn K mainGlobals "PlaceError" = some (some (.ref C_PlaceError)))
  (xg_TooMany:PySem.W.nsIn K mainGlobals "TooMany" = some (some (.ref C_TooMany)))
  (xg_Unknown:PySem.W.nsIn K mainGlobals "Unknown" = some (some (.ref C_Unknown)))
  (xg_Used:PySem.W.nsIn K mainGlobals "Used" = some (some (.ref C_Used)))
  (xg1:PySem.W.specialIn K (.builtin "object.__class__") "__get__" = some (some (.builtin "getset_descriptor.__get__")))(xg2:PySem.W.takesIn K (.builtin "object.__class__")=some true)
  (x1_BadAsked:XO.xcls K C_BadAsked=true)(x2_BadAsked:PySem.W.findIn K (.ref C_BadAsked) "__setattr__" = some (some (.builtin "object.__setattr__")))(x3_BadAsked:PySem.W.findIn K (.ref C_BadAsked) "__getattribute__" = some (some (.builtin "BaseException.__getattribute__")))(x4_BadAsked:PySem.W.findIn K (.ref C_BadAsked) "__getattr__" = some none)(x5_BadAsked:PySem.W.findIn K (.ref C_BadAsked) "__class__" = some (some (.builtin "object.__class__")))
  (x1_BadBerths:XO.xcls K C_BadBerths=true)(x2_BadBerths:PySem.W.findIn K (.ref C_BadBerths) "__setattr__" = some (some (.builtin "object.__setattr__")))(x3_BadBerths:PySem.W.findIn K (.ref C_BadBerths) "__getattribute__" = some (some (.builtin "BaseException.__getattribute__")))(x4_BadBerths:PySem.W.findIn K (.ref C_BadBerths) "__getattr__" = some none)(x5_BadBerths:PySem.W.findIn K (.ref C_BadBerths) "__class__" = some (some (.builtin "object.__class__")))
  (x1_BadName:XO.xcls K C_BadName=true)(x2_BadName:PySem.W.findIn K (.ref C_BadName) "__setattr__" = some (some (.builtin "object.__setattr__")))(x3_BadName:PySem.W.findIn K (.ref C_BadName) "__getattribute__" = some (some (.builtin "BaseException.__getattribute__")))(x4_BadName:PySem.W.findIn K (.ref C_BadName) "__getattr__" = some none)(x5_BadName:PySem.W.findIn K (.ref C_BadName) "__class__" = some (some (.builtin "object.__class__")))
  (x1_BadRow:XO.xcls K C_BadRow=true)(x2_BadRow:PySem.W.findIn K (.ref C_BadRow) "__setattr__" = some (some (.builtin "object.__setattr__")))(x3_BadRow:PySem.W.findIn K (.ref C_BadRow) "__getattribute__" = some (some (.builtin "BaseException.__getattribute__")))(x4_BadRow:PySem.W.findIn K (.ref C_BadRow) "__getattr__" = some none)(x5_BadRow:PySem.W.findIn K (.ref C_BadRow) "__class__" = some (some (.builtin "object.__class__")))
  (x1_BadShare:XO.xcls K C_BadShare=true)(x2_BadShare:PySem.W.findIn K (.ref C_BadShare) "__setattr__" = some (some (.builtin "object.__setattr__")))(x3_BadShare:PySem.W.findIn K (.ref C_BadShare) "__getattribute__" = some (some (.builtin "BaseException.__getattribute__")))(x4_BadShare:PySem.W.findIn K (.ref C_BadShare) "__getattr__" = some none)(x5_BadShare:PySem.W.findIn K (.ref C_BadShare) "__class__" = some (some (.builtin "object.__class__")))
  (x1_Early:XO.xcls K C_Early=true)(x2_Early:PySem.W.findIn K (.ref C_Early) "__setattr__" = some (some (.builtin "object.__setattr__")))(x3_Early:PySem.W.findIn K (.ref C_Early) "__getattribute__" = some (some (.builtin "BaseException.__getattribute__")))(x4_Early:PySem.W.findIn K (.ref C_Early) "__getattr__" = some none)(x5_Early:PySem.W.findIn K (.ref C_Early) "__class__" = some (some (.builtin "object.__class__")))
  (x1_Known:XO.xcls K C_Known=true)(x2_Known:PySem.W.findIn K (.ref C_Known) "__setattr__" = some (some (.builtin "object.__setattr__")))(x3_Known:PySem.W.findIn K (.ref C_Known) "__getattribute__" = some (some (.builtin "BaseException.__getattribute__")))(x4_Known:PySem.W.findIn K (.ref C_Known) "__getattr__" = some none)(x5_Known:PySem.W.findIn K (.ref C_Known) "__class__" = some (some (.builtin "object.__class__")))
  (x1_NoBack:XO.xcls K C_NoBack=true)(x2_NoBack:PySem.W.findIn K (.ref C_NoBack) "__setattr__" = some (some (.builtin "object.__setattr__")))(x3_NoBack:PySem.W.findIn K (.ref C_NoBack) "__getattribute__" = some (some (.builtin "BaseException.__getattribute__")))(x4_NoBack:PySem.W.findIn K (.ref C_NoBack) "__getattr__" = some none)(x5_NoBack:PySem.W.findIn K (.ref C_NoBack) "__class__" = some (some (.builtin "object.__class__")))
  (x1_NoDeed:XO.xcls K C_NoDeed=true)(x2_NoDeed:PySem.W.findIn K (.ref C_NoDeed) "__setattr__" = some (some (.builtin "object.__setattr__")))(x3_NoDeed:PySem.W.findIn K (.ref C_NoDeed) "__getattribute__" = some (some (.builtin "BaseException.__getattribute__")))(x4_NoDeed:PySem.W.findIn K (.ref C_NoDeed) "__getattr__" = some none)(x5_NoDeed:PySem.W.findIn K (.ref C_NoDeed) "__class__" = some (some (.builtin "object.__class__")))
  (x1_NoLine:XO.xcls K C_NoLine=true)(x2_NoLine:PySem.W.findIn K (.ref C_NoLine) "__setattr__" = some (some (.builtin "object.__setattr__")))(x3_NoLine:PySem.W.findIn K (.ref C_NoLine) "__getattribute__" = some (some (.builtin "BaseException.__getattribute__")))(x4_NoLine:PySem.W.findIn K (.ref C_NoLine) "__getattr__" = some none)(x5_NoLine:PySem.W.findIn K (.ref C_NoLine) "__class__" = some (some (.builtin "object.__class__")))
  (x1_NoRoom:XO.xcls K C_NoRoom=true)(x2_NoRoom:PySem.W.findIn K (.ref C_NoRoom) "__setattr__" = some (some (.builtin "object.__setattr__")))(x3_NoRoom:PySem.W.findIn K (.ref C_NoRoom) "__getattribute__" = some (some (.builtin "BaseException.__getattribute__")))(x4_NoRoom:PySem.W.findIn K (.ref C_NoRoom) "__getattr__" = some none)(x5_NoRoom:PySem.W.findIn K (.ref C_NoRoom) "__class__" = some (some (.builtin "object.__class__")))
  (x1_NoRow:XO.xcls K C_NoRow=true)(x2_NoRow:PySem.W.findIn K (.ref C_NoRow) "__setattr__" = some (some (.builtin "object.__setattr__")))(x3_NoRow:PySem.W.findIn K (.ref C_NoRow) "__getattribute__" = some (some (.builtin "BaseException.__getattribute__")))(x4_NoRow:PySem.W.findIn K (.ref C_NoRow) "__getattr__" = some none)(x5_NoRow:PySem.W.findIn K (.ref C_NoRow) "__class__" = some (some (.builtin "object.__class__")))
  (x1_NoText:XO.xcls K C_NoText=true)(x2_NoText:PySem.W.findIn K (.ref C_NoText) "__setattr__" = some (some (.builtin "object.__setattr__")))(x3_NoText:PySem.W.findIn K (.ref C_NoText) "__getattribute__" = some (some (.builtin "BaseException.__getattribute__")))(x4_NoText:PySem.W.findIn K (.ref C_NoText) "__getattr__" = some none)(x5_NoText:PySem.W.findIn K (.ref C_NoText) "__class__" = some (some (.builtin "object.__class__")))
  (x1_PlaceError:XO.xcls K C_PlaceError=true)(x2_PlaceError:PySem.W.findIn K (.ref C_PlaceError) "__setattr__" = some (some (.builtin "object.__setattr__")))(x3_PlaceError:PySem.W.findIn K (.ref C_PlaceError) "__getattribute__" = some (some (.builtin "BaseException.__getattribute__")))(x4_PlaceError:PySem.W.findIn K (.ref C_PlaceError) "__getattr__" = some none)(x5_PlaceError:PySem.W.findIn K (.ref C_PlaceError) "__class__" = some (some (.builtin "object.__class__")))
  (x1_TooMany:XO.xcls K C_TooMany=true)(x2_TooMany:PySem.W.findIn K (.ref C_TooMany) "__setattr__" = some (some (.builtin "object.__setattr__")))(x3_TooMany:PySem.W.findIn K (.ref C_TooMany) "__getattribute__" = some (some (.builtin "BaseException.__getattribute__")))(x4_TooMany:PySem.W.findIn K (.ref C_TooMany) "__getattr__" = some none)(x5_TooMany:PySem.W.findIn K (.ref C_TooMany) "__class__" = some (some (.builtin "object.__class__")))
  (x1_Unknown:XO.xcls K C_Unknown=true)(x2_Unknown:PySem.W.findIn K (.ref C_Unknown) "__setattr__" = some (some (.builtin "object.__setattr__")))(x3_Unknown:PySem.W.findIn K (.ref C_Unknown) "__getattribute__" = some (some (.builtin "BaseException.__getattribute__")))(x4_Unknown:PySem.W.findIn K (.ref C_Unknown) "__getattr__" = some none)(x5_Unknown:PySem.W.findIn K (.ref C_Unknown) "__class__" = some (some (.builtin "object.__class__")))
  (x1_Used:XO.xcls K C_Used=true)(x2_Used:PySem.W.findIn K (.ref C_Used) "__setattr__" = some (some (.builtin "object.__setattr__")))(x3_Used:PySem.W.findIn K (.ref C_Used) "__getattribute__" = some (some (.builtin "BaseException.__getattribute__")))(x4_Used:PySem.W.findIn K (.ref C_Used) "__getattr__" = some none)(x5_Used:PySem.W.findIn K (.ref C_Used) "__class__" = some (some (.builtin "object.__class__")))
  (xf_e_BadAsked_BadAsked:PySem.W.exmOne K (.ref C_BadAsked) (.ref C_BadAsked)=some true)
  (xf_e_BadAsked_BadBerths:PySem.W.exmOne K (.ref C_BadAsked) (.ref C_BadBerths)=some false)
  (xf_e_BadAsked_BadName:PySem.W.exmOne K (.ref C_BadAsked) (.ref C_BadName)=some false)
  (xf_e_BadAsked_BadRow:PySem.W.exmOne K (.ref C_BadAsked) (.ref C_BadRow)=some false)
  (xf_e_BadAsked_BadShare:PySem.W.exmOne K (.ref C_BadAsked) (.ref C_BadShare)=some false)
  (xf_e_BadAsked_Early:PySem.W.exmOne K (.ref C_BadAsked) (.ref C_Early)=some false)
  (xf_e_BadAsked_Known:PySem.W.exmOne K (.ref C_BadAsked) (.ref C_Known)=some false)
  (xf_e_BadAsked_NoRoom:PySem.W.exmOne K (.ref C_BadAsked) (.ref C_NoRoom)=some false)
  (xf_e_BadAsked_NoRow:PySem.W.exmOne K (.ref C_BadAsked) (.ref C_NoRow)=some false)
  (xf_e_BadAsked_PlaceError:PySem.W.exmOne K (.ref C_BadAsked) (.ref C_PlaceError)=some true)
  (xf_e_BadAsked_TooMany:PySem.W.exmOne K (.ref C_BadAsked) (.ref C_TooMany)=some false)
  (xf_e_BadAsked_Unknown:PySem.W.exmOne K (.ref C_BadAsked) (.ref C_Unknown)=some false)
  (xf_e_BadAsked_Used:PySem.W.exmOne K (.ref C_BadAsked) (.ref C_Used)=some false)
  (xf_e_BadBerths_BadAsked:PySem.W.exmOne K (.ref C_BadBerths) (.ref C_BadAsked)=some false)
  (xf_e_BadBerths_BadBerths:PySem.W.exmOne K (.ref C_BadBerths) (.ref C_BadBerths)=some true)
  (xf_e_BadBerths_BadName:PySem.W.exmOne K (.ref C_BadBerths) (.ref C_BadName)=some false)
  (xf_e_BadBerths_BadRow:PySem.W.exmOne K (.ref C_BadBerths) (.ref C_BadRow)=some false)
  (xf_e_BadBerths_BadShare:PySem.W.exmOne K (.ref C_BadBerths) (.ref C_BadShare)=some false)
  (xf_e_BadBerths_Early:PySem.W.exmOne K (.ref C_BadBerths) (.ref C_Early)=some false)
  (xf_e_BadBerths_Known:PySem.W.exmOne K (.ref C_BadBerths) (.ref C_Known)=some false)
  (xf_e_BadBerths_NoRoom:PySem.W.exmOne K (.ref C_BadBerths) (.ref C_NoRoom)=some false)
  (xf_e_BadBerths_NoRow:PySem.W.exmOne K (.ref C_BadBerths) (.ref C_NoRow)=some false)
  (xf_e_BadBerths_PlaceError:PySem.W.exmOne K (.ref C_BadBerths) (.ref C_PlaceError)=some true)
  (xf_e_BadBerths_TooMany:PySem.W.exmOne K (.ref C_BadBerths) (.ref C_TooMany)=some false)
  (xf_e_BadBerths_Unknown:PySem.W.exmOne K (.ref C_BadBerths) (.ref C_Unknown)=some false)
  (xf_e_BadBerths_Used:PySem.W.exmOne K (.ref C_BadBerths) (.ref C_Used)=some false)
  (xf_e_BadName_BadAsked:PySem.W.exmOne K (.ref C_BadName) (.ref C_BadAsked)=some false)
  (xf_e_BadName_BadBerths:PySem.W.exmOne K (.ref C_BadName) (.ref C_BadBerths)=some false)
  (xf_e_BadName_BadName:PySem.W.exmOne K (.ref C_BadName) (.ref C_BadName)=some true)
  (xf_e_BadName_BadRow:PySem.W.exmOne K (.ref C_BadName) (.ref C_BadRow)=some false)
  (xf_e_BadName_BadShare:PySem.W.exmOne K (.ref C_BadName) (.ref C_BadShare)=some false)
  (xf_e_BadName_Early:PySem.W.exmOne K (.ref C_BadName) (.ref C_Early)=some false)
  (xf_e_BadName_Known:PySem.W.exmOne K (.ref C_BadName) (.ref C_Known)=some false)
  (xf_e_BadName_NoRoom:PySem.W.exmOne K (.ref C_BadName) (.ref C_NoRoom)=some false)
  (xf_e_BadName_NoRow:PySem.W.exmOne K (.ref C_BadName) (.ref C_NoRow)=some false)
  (xf_e_BadName_PlaceError:PySem.W.exmOne K (.ref C_BadName) (.ref C_PlaceError)=some true)
  (xf_e_BadName_TooMany:PySem.W.exmOne K (.ref C_BadName) (.ref C_TooMany)=some false)
  (xf_e_BadName_Unknown:PySem.W.exmOne K (.ref C_BadName) (.ref C_Unknown)=some false)
  (xf_e_BadName_Used:PySem.W.exmOne K (.ref C_BadName) (.ref C_Used)=some false)
  (xf_e_BadRow_BadAsked:PySem.W.exmOne K (.ref C_BadRow) (.ref C_BadAsked)=some false)
  (xf_e_BadRow_BadBerths:PySem.W.exmOne K (.ref C_BadRow) (.ref C_BadBerths)=some false)
  (xf_e_BadRow_BadName:PySem.W.exmOne K (.ref C_BadRow) (.ref C_BadName)=some false)
  (xf_e_BadRow_BadRow:PySem.W.exmOne K (.ref C_BadRow) (.ref C_BadRow)=some true)
  (xf_e_BadRow_BadShare:PySem.W.exmOne K (.ref C_BadRow) (.ref C_BadShare)=some false)
  (xf_e_BadRow_Early:PySem.W.exmOne K (.ref C_BadRow) (.ref C_Early)=some false)
  (xf_e_BadRow_Known:PySem.W.exmOne K (.ref C_BadRow) (.ref C_Known)=some false)
  (xf_e_BadRow_NoRoom:PySem.W.exmOne K (.ref C_BadRow) (.ref C_NoRoom)=some false)
  (xf_e_BadRow_NoRow:PySem.W.exmOne K (.ref C_BadRow) (.ref C_NoRow)=some false)
  (xf_e_BadRow_PlaceError:PySem.W.exmOne K (.ref C_BadRow) (.ref C_PlaceError)=some true)
  (xf_e_BadRow_TooMany:PySem.W.exmOne K (.ref C_BadRow) (.ref C_TooMany)=some false)
  (xf_e_BadRow_Unknown:PySem.W.exmOne K (.ref C_BadRow) (.ref C_Unknown)=some false)
  (xf_e_BadRow_Used:PySem.W.exmOne K (.ref C_BadRow) (.ref C_Used)=some false)
  (xf_e_BadShare_BadAsked:PySem.W.exmOne K (.ref C_BadShare) (.ref C_BadAsked)=some false)
  (xf_e_BadShare_BadBerths:PySem.W.exmOne K (.ref C_BadShare) (.ref C_BadBerths)=some false)
  (xf_e_BadShare_BadName:PySem.W.exmOne K (.ref C_BadShare) (.ref C_BadName)=some false)
  (xf_e_BadShare_BadRow:PySem.W.exmOne K (.ref C_BadShare) (.ref C_BadRow)=some false)
  (xf_e_BadShare_BadShare:PySem.W.exmOne K (.ref C_BadShare) (.ref C_BadShare)=some true)
  (xf_e_BadShare_Early:PySem.W.exmOne K (.ref C_BadShare) (.ref C_Early)=some false)
  (xf_e_BadShare_Known:PySem.W.exmOne K (.ref C_BadShare) (.ref C_Known)=some false)
  (xf_e_BadShare_NoRoom:PySem.W.exmOne K (.ref C_BadShare) (.ref C_NoRoom)=some false)
  (xf_e_BadShare_NoRow:PySem.W.exmOne K (.ref C_BadShare) (.ref C_NoRow)=some false)
  (xf_e_BadShare_PlaceError:PySem.W.exmOne K (.ref C_BadShare) (.ref C_PlaceError)=some true)
  (xf_e_BadShare_TooMany:PySem.W.exmOne K (.ref C_BadShare) (.ref C_TooMany)=some false)
  (xf_e_BadShare_Unknown:PySem.W.exmOne K (.ref C_BadShare) (.ref C_Unknown)=some false)
  (xf_e_BadShare_Used:PySem.W.exmOne K (.ref C_BadShare) (.ref C_Used)=some false)
  (xf_e_Early_BadAsked:PySem.W.exmOne K (.ref C_Early) (.ref C_BadAsked)=some false)
  (xf_e_Early_BadBerths:PySem.W.exmOne K (.ref C_Early) (.ref C_BadBerths)=some false)
  (xf_e_Early_BadName:PySem.W.exmOne K (.ref C_Early) (.ref C_BadName)=some false)
  (xf_e_Early_BadRow:PySem.W.exmOne K (.ref C_Early) (.ref C_BadRow)=some false)
  (xf_e_Early_BadShare:PySem.W.exmOne K (.ref C_Early) (.ref C_BadShare)=some false)
  (xf_e_Early_Early:PySem.W.exmOne K (.ref C_Early) (.ref C_Early)=some true)
  (xf_e_Early_Known:PySem.W.exmOne K (.ref C_Early) (.ref C_Known)=some false)
  (xf_e_Early_NoRoom:PySem.W.exmOne K (.ref C_Early) (.ref C_NoRoom)=some false)
  (xf_e_Early_NoRow:PySem.W.exmOne K (.ref C_Early) (.ref C_NoRow)=some false)
  (xf_e_Early_PlaceError:PySem.W.exmOne K (.ref C_Early) (.ref C_PlaceError)=some true)
  (xf_e_Early_TooMany:PySem.W.exmOne K (.ref C_Early) (.ref C_TooMany)=some false)
  (xf_e_Early_Unknown:PySem.W.exmOne K (.ref C_Early) (.ref C_Unknown)=some false)
  (xf_e_Early_Used:PySem.W.exmOne K (.ref C_Early) (.ref C_Used)=some false)
  (xf_e_Known_BadAsked:PySem.W.exmOne K (.ref C_Known) (.ref C_BadAsked)=some false)
  (xf_e_Known_BadBerths:PySem.W.exmOne K (.ref C_Known) (.ref C_BadBerths)=some false)
  (xf_e_Known_BadName:PySem.W.exmOne K (.ref C_Known) (.ref C_BadName)=some false)
  (xf_e_Known_BadRow:PySem.W.exmOne K (.ref C_Known) (.ref C_BadRow)=some false)
  (xf_e_Known_BadShare:PySem.W.exmOne K (.ref C_Known) (.ref C_BadShare)=some false)
  (xf_e_Known_Early:PySem.W.exmOne K (.ref C_Known) (.ref C_Early)=some false)
  (xf_e_Known_Known:PySem.W.exmOne K (.ref C_Known) (.ref C_Known)=some true)
  (xf_e_Known_NoRoom:PySem.W.exmOne K (.ref C_Known) (.ref C_NoRoom)=some false)
  (xf_e_Known_NoRow:PySem.W.exmOne K (.ref C_Known) (.ref C_NoRow)=some false)
  (xf_e_Known_PlaceError:PySem.W.exmOne K (.ref C_Known) (.ref C_PlaceError)=some true)
  (xf_e_Known_TooMany:PySem.W.exmOne K (.ref C_Known) (.ref C_TooMany)=some false)
  (xf_e_Known_Unknown:PySem.W.exmOne K (.ref C_Known) (.ref C_Unknown)=some false)
  (xf_e_Known_Used:PySem.W.exmOne K (.ref C_Known) (.ref C_Used)=some false)
  (xf_e_NoBack_BadAsked:PySem.W.exmOne K (.ref C_NoBack) (.ref C_BadAsked)=some false)
  (xf_e_NoBack_BadBerths:PySem.W.exmOne K (.ref C_NoBack) (.ref C_BadBerths)=some false)
  (xf_e_NoBack_BadName:PySem.W.exmOne K (.ref C_NoBack) (.ref C_BadName)=some false)
  (xf_e_NoBack_BadRow:PySem.W.exmOne K (.ref C_NoBack) (.ref C_BadRow)=some false)
  (xf_e_NoBack_BadShare:PySem.W.exmOne K (.ref C_NoBack) (.ref C_BadShare)=some false)
  (xf_e_NoBack_Early:PySem.W.exmOne K (.ref C_NoBack) (.ref C_Early)=some false)
  (xf_e_NoBack_Known:PySem.W.exmOne K (.ref C_NoBack) (.ref C_Known)=some false)
  (xf_e_NoBack_NoRoom:PySem.W.exmOne K (.ref C_NoBack) (.ref C_NoRoom)=some false)
  (xf_e_NoBack_NoRow:PySem.W.exmOne K (.ref C_NoBack) (.ref C_NoRow)=some false)
  (xf_e_NoBack_PlaceError:PySem.W.exmOne K (.ref C_NoBack) (.ref C_PlaceError)=some true)
  (xf_e_NoBack_TooMany:PySem.W.exmOne K (.ref C_NoBack) (.ref C_TooMany)=some false)
  (xf_e_NoBack_Unknown:PySem.W.exmOne K (.ref C_NoBack) (.ref C_Unknown)=some false)
  (xf_e_NoBack_Used:PySem.W.exmOne K (.ref C_NoBack) (.ref C_Used)=some false)
  (xf_e_NoDeed_BadAsked:PySem.W.exmOne K (.ref C_NoDeed) (.ref C_BadAsked)=some false)
  (xf_e_NoDeed_BadBerths:PySem.W.exmOne K (.ref C_NoDeed) (.ref C_BadBerths)=some false)
  (xf_e_NoDeed_BadName:PySem.W.exmOne K (.ref C_NoDeed) (.ref C_BadName)=some false)
  (xf_e_NoDeed_BadRow:PySem.W.exmOne K (.ref C_NoDeed) (.ref C_BadRow)=some false)
  (xf_e_NoDeed_BadShare:PySem.W.exmOne K (.ref C_NoDeed) (.ref C_BadShare)=some false)
  (xf_e_NoDeed_Early:PySem.W.exmOne K (.ref C_NoDeed) (.ref C_Early)=some false)
  (xf_e_NoDeed_Known:PySem.W.exmOne K (.ref C_NoDeed) (.ref C_Known)=some false)
  (xf_e_NoDeed_NoRoom:PySem.W.exmOne K (.ref C_NoDeed) (.ref C_NoRoom)=some false)
  (xf_e_NoDeed_NoRow:PySem.W.exmOne K (.ref C_NoDeed) (.ref C_NoRow)=some false)
  (xf_e_NoDeed_PlaceError:PySem.W.exmOne K (.ref C_NoDeed) (.ref C_PlaceError)=some true)
  (xf_e_NoDeed_TooMany:PySem.W.exmOne K (.ref C_NoDeed) (.ref C_TooMany)=some false)
  (xf_e_NoDeed_Unknown:PySem.W.exmOne K (.ref C_NoDeed) (.ref C_Unknown)=some false)
  (xf_e_NoDeed_Used:PySem.W.exmOne K (.ref C_NoDeed) (.ref C_Used)=some false)
  (xf_e_NoLine_BadAsked:PySem.W.exmOne K (.ref C_NoLine) (.ref C_BadAsked)=some false)
  (xf_e_NoLine_BadBerths:PySem.W.exmOne K (.ref C_NoLine) (.ref C_BadBerths)=some false)
  (xf_e_NoLine_BadName:PySem.W.exmOne K (.ref C_NoLine) (.ref C_BadName)=some false)
  (xf_e_NoLine_BadRow:PySem.W.exmOne K (.ref C_NoLine) (.ref C_BadRow)=some false)
  (xf_e_NoLine_BadShare:PySem.W.exmOne K (.ref C_NoLine) (.ref C_BadShare)=some false)
  (xf_e_NoLine_Early:PySem.W.exmOne K (.ref C_NoLine) (.ref C_Early)=some false)
  (xf_e_NoLine_Known:PySem.W.exmOne K (.ref C_NoLine) (.ref C_Known)=some false)
  (xf_e_NoLine_NoRoom:PySem.W.exmOne K (.ref C_NoLine) (.ref C_NoRoom)=some false)
  (xf_e_NoLine_NoRow:PySem.W.exmOne K (.ref C_NoLine) (.ref C_NoRow)=some false)
  (xf_e_NoLine_PlaceError:PySem.W.exmOne K (.ref C_NoLine) (.ref C_PlaceError)=some true)
  (xf_e_NoLine_TooMany:PySem.W.exmOne K (.ref C_NoLine) (.ref C_TooMany)=some false)
  (xf_e_NoLine_Unknown:PySem.W.exmOne K (.ref C_NoLine) (.ref C_Unknown)=some false)
  (xf_e_NoLine_Used:PySem.W.exmOne K (.ref C_NoLine) (.ref C_Used)=some false)
  (xf_e_NoRoom_BadAsked:PySem.W.exmOne K (.ref C_NoRoom) (.ref C_BadAsked)=some false)
  (xf_e_NoRoom_BadBerths:PySem.W.exmOne K (.ref C_NoRoom) (.ref C_BadBerths)=some false)
  (xf_e_NoRoom_BadName:PySem.W.exmOne K (.ref C_NoRoom) (.ref C_BadName)=some false)
  (xf_e_NoRoom_BadRow:PySem.W.exmOne K (.ref C_NoRoom) (.ref C_BadRow)=some false)
  (xf_e_NoRoom_BadShare:PySem.W.exmOne K (.ref C_NoRoom) (.ref C_BadShare)=some false)
  (xf_e_NoRoom_Early:PySem.W.exmOne K (.ref C_NoRoom) (.ref C_Early)=some false)
  (xf_e_NoRoom_Known:PySem.W.exmOne K (.ref C_NoRoom) (.ref C_Known)=some false)
  (xf_e_NoRoom_NoRoom:PySem.W.exmOne K (.ref C_NoRoom) (.ref C_NoRoom)=some true)
  (xf_e_NoRoom_NoRow:PySem.W.exmOne K (.ref C_NoRoom) (.ref C_NoRow)=some false)
  (xf_e_NoRoom_PlaceError:PySem.W.exmOne K (.ref C_NoRoom) (.ref C_PlaceError)=some true)
  (xf_e_NoRoom_TooMany:PySem.W.exmOne K (.ref C_NoRoom) (.ref C_TooMany)=some false)
  (xf_e_NoRoom_Unknown:PySem.W.exmOne K (.ref C_NoRoom) (.ref C_Unknown)=some false)
  (xf_e_NoRoom_Used:PySem.W.exmOne K (.ref C_NoRoom) (.ref C_Used)=some false)
  (xf_e_NoRow_BadAsked:PySem.W.exmOne K (.ref C_NoRow) (.ref C_BadAsked)=some false)
  (xf_e_NoRow_BadBerths:PySem.W.exmOne K (.ref C_NoRow) (.ref C_BadBerths)=some false)
  (xf_e_NoRow_BadName:PySem.W.exmOne K (.ref C_NoRow) (.ref C_BadName)=some false)
  (xf_e_NoRow_BadRow:PySem.W.exmOne K (.ref C_NoRow) (.ref C_BadRow)=some false)
  (xf_e_NoRow_BadShare:PySem.W.exmOne K (.ref C_NoRow) (.ref C_BadShare)=some false)
  (xf_e_NoRow_Early:PySem.W.exmOne K (.ref C_NoRow) (.ref C_Early)=some false)
  (xf_e_NoRow_Known:PySem.W.exmOne K (.ref C_NoRow) (.ref C_Known)=some false)
  (xf_e_NoRow_NoRoom:PySem.W.exmOne K (.ref C_NoRow) (.ref C_NoRoom)=some false)
  (xf_e_NoRow_NoRow:PySem.W.exmOne K (.ref C_NoRow) (.ref C_NoRow)=some true)
  (xf_e_NoRow_PlaceError:PySem.W.exmOne K (.ref C_NoRow) (.ref C_PlaceError)=some true)
  (xf_e_NoRow_TooMany:PySem.W.exmOne K (.ref C_NoRow) (.ref C_TooMany)=some false)
  (xf_e_NoRow_Unknown:PySem.W.exmOne K (.ref C_NoRow) (.ref C_Unknown)=some false)
  (xf_e_NoRow_Used:PySem.W.exmOne K (.ref C_NoRow) (.ref C_Used)=some false)
  (xf_e_NoText_BadAsked:PySem.W.exmOne K (.ref C_NoText) (.ref C_BadAsked)=some false)
  (xf_e_NoText_BadBerths:PySem.W.exmOne K (.ref C_NoText) (.ref C_BadBerths)=some false)
  (xf_e_NoText_BadName:PySem.W.exmOne K (.ref C_NoText) (.ref C_BadName)=some false)
  (xf_e_NoText_BadRow:PySem.W.exmOne K (.ref C_NoText) (.ref C_BadRow)=some false)
  (xf_e_NoText_BadShare:PySem.W.exmOne K (.ref C_NoText) (.ref C_BadShare)=some false)
  (xf_e_NoText_Early:PySem.W.exmOne K (.ref C_NoText) (.ref C_Early)=some false)
  (xf_e_NoText_Known:PySem.W.exmOne K (.ref C_NoText) (.ref C_Known)=some false)
  (xf_e_NoText_NoRoom:PySem.W.exmOne K (.ref C_NoText) (.ref C_NoRoom)=some false)
  (xf_e_NoText_NoRow:PySem.W.exmOne K (.ref C_NoText) (.ref C_NoRow)=some false)
  (xf_e_NoText_PlaceError:PySem.W.exmOne K (.ref C_NoText) (.ref C_PlaceError)=some true)
  (xf_e_NoText_TooMany:PySem.W.exmOne K (.ref C_NoText) (.ref C_TooMany)=some false)
  (xf_e_NoText_Unknown:PySem.W.exmOne K (.ref C_NoText) (.ref C_Unknown)=some false)
  (xf_e_NoText_Used:PySem.W.exmOne K (.ref C_NoText) (.ref C_Used)=some false)
  (xf_e_PlaceError_PlaceError:PySem.W.exmOne K (.ref C_PlaceError) (.ref C_PlaceError)=some true)
  (xf_e_TooMany_BadAsked:PySem.W.exmOne K (.ref C_TooMany) (.ref C_BadAsked)=some false)
  (xf_e_TooMany_BadBerths:PySem.W.exmOne K (.ref C_TooMany) (.ref C_BadBerths)=some false)
  (xf_e_TooMany_BadName:PySem.W.exmOne K (.ref C_TooMany) (.ref C_BadName)=some false)
  (xf_e_TooMany_BadRow:PySem.W.exmOne K (.ref C_TooMany) (.ref C_BadRow)=some false)
  (xf_e_TooMany_BadShare:PySem.W.exmOne K (.ref C_TooMany) (.ref C_BadShare)=some false)
  (xf_e_TooMany_Early:PySem.W.exmOne K (.ref C_TooMany) (.ref C_Early)=some false)
  (xf_e_TooMany_Known:PySem.W.exmOne K (.ref C_TooMany) (.ref C_Known)=some false)
  (xf_e_TooMany_NoRoom:PySem.W.exmOne K (.ref C_TooMany) (.ref C_NoRoom)=some false)
  (xf_e_TooMany_NoRow:PySem.W.exmOne K (.ref C_TooMany) (.ref C_NoRow)=some false)
  (xf_e_TooMany_PlaceError:PySem.W.exmOne K (.ref C_TooMany) (.ref C_PlaceError)=some true)
  (xf_e_TooMany_TooMany:PySem.W.exmOne K (.ref C_TooMany) (.ref C_TooMany)=some true)
  (xf_e_TooMany_Unknown:PySem.W.exmOne K (.ref C_TooMany) (.ref C_Unknown)=some false)
  (xf_e_TooMany_Used:PySem.W.exmOne K (.ref C_TooMany) (.ref C_Used)=some false)
  (xf_e_Unknown_BadAsked:PySem.W.exmOne K (.ref C_Unknown) (.ref C_BadAsked)=some false)
  (xf_e_Unknown_BadBerths:PySem.W.exmOne K (.ref C_Unknown) (.ref C_BadBerths)=some false)
  (xf_e_Unknown_BadName:PySem.W.exmOne K (.ref C_Unknown) (.ref C_BadName)=some false)
  (xf_e_Unknown_BadRow:PySem.W.exmOne K (.ref C_Unknown) (.ref C_BadRow)=some false)
  (xf_e_Unknown_BadShare:PySem.W.exmOne K (.ref C_Unknown) (.ref C_BadShare)=some false)
  (xf_e_Unknown_Early:PySem.W.exmOne K (.ref C_Unknown) (.ref C_Early)=some false)
  (xf_e_Unknown_Known:PySem.W.exmOne K (.ref C_Unknown) (.ref C_Known)=some false)
  (xf_e_Unknown_NoRoom:PySem.W.exmOne K (.ref C_Unknown) (.ref C_NoRoom)=some false)
  (xf_e_Unknown_NoRow:PySem.W.exmOne K (.ref C_Unknown) (.ref C_NoRow)=some false)
  (xf_e_Unknown_PlaceError:PySem.W.exmOne K (.ref C_Unknown) (.ref C_PlaceError)=some true)
  (xf_e_Unknown_TooMany:PySem.W.exmOne K (.ref C_Unknown) (.ref C_TooMany)=some false)
  (xf_e_Unknown_Unknown:PySem.W.exmOne K (.ref C_Unknown) (.ref C_Unknown)=some true)
  (xf_e_Unknown_Used:PySem.W.exmOne K (.ref C_Unknown) (.ref C_Used)=some false)
  (xf_e_Used_BadAsked:PySem.W.exmOne K (.ref C_Used) (.ref C_BadAsked)=some false)
  (xf_e_Used_BadBerths:PySem.W.exmOne K (.ref C_Used) (.ref C_BadBerths)=some false)
  (xf_e_Used_BadName:PySem.W.exmOne K (.ref C_Used) (.ref C_BadName)=some false)
  (xf_e_Used_BadRow:PySem.W.exmOne K (.ref C_Used) (.ref C_BadRow)=some false)
  (xf_e_Used_BadShare:PySem.W.exmOne K (.ref C_Used) (.ref C_BadShare)=some false)
  (xf_e_Used_Early:PySem.W.exmOne K (.ref C_Used) (.ref C_Early)=some false)
  (xf_e_Used_Known:PySem.W.exmOne K (.ref C_Used) (.ref C_Known)=some false)
  (xf_e_Used_NoRoom:PySem.W.exmOne K (.ref C_Used) (.ref C_NoRoom)=some false)
  (xf_e_Used_NoRow:PySem.W.exmOne K (.ref C_Used) (.ref C_NoRow)=some false)
  (xf_e_Used_PlaceError:PySem.W.exmOne K (.ref C_Used) (.ref C_PlaceError)=some true)
  (xf_e_Used_TooMany:PySem.W.exmOne K (.ref C_Used) (.ref C_TooMany)=some false)
  (xf_e_Used_Unknown:PySem.W.exmOne K (.ref C_Used) (.ref C_Unknown)=some false)
  (xf_e_Used_Used:PySem.W.exmOne K (.ref C_Used) (.ref C_Used)=some true)
  (xf_i_BadAsked_BadAsked:PySem.W.kitAny K (.ref C_BadAsked) [.ref C_BadAsked]=some true)
  (xf_i_BadAsked_BadBerths:PySem.W.kitAny K (.ref C_BadAsked) [.ref C_BadBerths]=some false)
  (xf_i_BadAsked_BadName:PySem.W.kitAny K (.ref C_BadAsked) [.ref C_BadName]=some false)
  (xf_i_BadAsked_BadRow:PySem.W.kitAny K (.ref C_BadAsked) [.ref C_BadRow]=some false)
  (xf_i_BadAsked_BadShare:PySem.W.kitAny K (.ref C_BadAsked) [.ref C_BadShare]=some false)
  (xf_i_BadAsked_Early:PySem.W.kitAny K (.ref C_BadAsked) [.ref C_Early]=some false)
  (xf_i_BadAsked_Known:PySem.W.kitAny K (.ref C_BadAsked) [.ref C_Known]=some false)
  (xf_i_BadAsked_NoBack:PySem.W.kitAny K (.ref C_BadAsked) [.ref C_NoBack]=some false)
  (xf_i_BadAsked_NoDeed:PySem.W.kitAny K (.ref C_BadAsked) [.ref C_NoDeed]=some false)
  (xf_i_BadAsked_NoLine:PySem.W.kitAny K (.ref C_BadAsked) [.ref C_NoLine]=some false)
  (xf_i_BadAsked_NoRoom:PySem.W.kitAny K (.ref C_BadAsked) [.ref C_NoRoom]=some false)
  (xf_i_BadAsked_NoRow:PySem.W.kitAny K (.ref C_BadAsked) [.ref C_NoRow]=some false)
  (xf_i_BadAsked_NoText:PySem.W.kitAny K (.ref C_BadAsked) [.ref C_NoText]=some false)
  (xf_i_BadAsked_TooMany:PySem.W.kitAny K (.ref C_BadAsked) [.ref C_TooMany]=some false)
  (xf_i_BadAsked_Unknown:PySem.W.kitAny K (.ref C_BadAsked) [.ref C_Unknown]=some false)
  (xf_i_BadAsked_Used:PySem.W.kitAny K (.ref C_BadAsked) [.ref C_Used]=some false)
  (xf_i_BadAsked_ValueError:PySem.W.kitAny K (.ref C_BadAsked) [.type "ValueError"]=some true)
  (xf_i_BadBerths_BadAsked:PySem.W.kitAny K (.ref C_BadBerths) [.ref C_BadAsked]=some false)
  (xf_i_BadBerths_BadBerths:PySem.W.kitAny K (.ref C_BadBerths) [.ref C_BadBerths]=some true)
  (xf_i_BadBerths_BadName:PySem.W.kitAny K (.ref C_BadBerths) [.ref C_BadName]=some false)
  (xf_i_BadBerths_BadRow:PySem.W.kitAny K (.ref C_BadBerths) [.ref C_BadRow]=some false)
  (xf_i_BadBerths_BadShare:PySem.W.kitAny K (.ref C_BadBerths) [.ref C_BadShare]=some false)
  (xf_i_BadBerths_Early:PySem.W.kitAny K (.ref C_BadBerths) [.ref C_Early]=some false)
  (xf_i_BadBerths_Known:PySem.W.kitAny K (.ref C_BadBerths) [.ref C_Known]=some false)
  (xf_i_BadBerths_NoBack:PySem.W.kitAny K (.ref C_BadBerths) [.ref C_NoBack]=some false)
  (xf_i_BadBerths_NoDeed:PySem.W.kitAny K (.ref C_BadBerths) [.ref C_NoDeed]=some false)
  (xf_i_BadBerths_NoLine:PySem.W.kitAny K (.ref C_BadBerths) [.ref C_NoLine]=some false)
  (xf_i_BadBerths_NoRoom:PySem.W.kitAny K (.ref C_BadBerths) [.ref C_NoRoom]=some false)
  (xf_i_BadBerths_NoRow:PySem.W.kitAny K (.ref C_BadBerths) [.ref C_NoRow]=some false)
  (xf_i_BadBerths_NoText:PySem.W.kitAny K (.ref C_BadBerths) [.ref C_NoText]=some false)
  (xf_i_BadBerths_TooMany:PySem.W.kitAny K (.ref C_BadBerths) [.ref C_TooMany]=some false)
  (xf_i_BadBerths_Unknown:PySem.W.kitAny K (.ref C_BadBerths) [.ref C_Unknown]=some false)
  (xf_i_BadBerths_Used:PySem.W.kitAny K (.ref C_BadBerths) [.ref C_Used]=some false)
  (xf_i_BadBerths_ValueError:PySem.W.kitAny K (.ref C_BadBerths) [.type "ValueError"]=some true)
  (xf_i_BadName_BadAsked:PySem.W.kitAny K (.ref C_BadName) [.ref C_BadAsked]=some false)
  (xf_i_BadName_BadBerths:PySem.W.kitAny K (.ref C_BadName) [.ref C_BadBerths]=some false)
  (xf_i_BadName_BadName:PySem.W.kitAny K (.ref C_BadName) [.ref C_BadName]=some true)
  (xf_i_BadName_BadRow:PySem.W.kitAny K (.ref C_BadName) [.ref C_BadRow]=some false)
  (xf_i_BadName_BadShare:PySem.W.kitAny K (.ref C_BadName) [.ref C_BadShare]=some false)
  (xf_i_BadName_Early:PySem.W.kitAny K (.ref C_BadName) [.ref C_Early]=some false)
  (xf_i_BadName_Known:PySem.W.kitAny K (.ref C_BadName) [.ref C_Known]=some false)
  (xf_i_BadName_NoBack:PySem.W.kitAny K (.ref C_BadName) [.ref C_NoBack]=some false)
  (xf_i_BadName_NoDeed:PySem.W.kitAny K (.ref C_BadName) [.ref C_NoDeed]=some false)
  (xf_i_BadName_NoLine:PySem.W.kitAny K (.ref C_BadName) [.ref C_NoLine]=some false)
  (xf_i_BadName_NoRoom:PySem.W.kitAny K (.ref C_BadName) [.ref C_NoRoom]=some false)
  (xf_i_BadName_NoRow:PySem.W.kitAny K (.ref C_BadName) [.ref C_NoRow]=some false)
  (xf_i_BadName_NoText:PySem.W.kitAny K (.ref C_BadName) [.ref C_NoText]=some false)
  (xf_i_BadName_TooMany:PySem.W.kitAny K (.ref C_BadName) [.ref C_TooMany]=some false)
  (xf_i_BadName_Unknown:PySem.W.kitAny K (.ref C_BadName) [.ref C_Unknown]=some false)
  (xf_i_BadName_Used:PySem.W.kitAny K (.ref C_BadName) [.ref C_Used]=some false)
  (xf_i_BadName_ValueError:PySem.W.kitAny K (.ref C_BadName) [.type "ValueError"]=some true)
  (xf_i_BadRow_BadAsked:PySem.W.kitAny K (.ref C_BadRow) [.ref C_BadAsked]=some false)
  (xf_i_BadRow_BadBerths:PySem.W.kitAny K (.ref C_BadRow) [.ref C_BadBerths]=some false)
  (xf_i_BadRow_BadName:PySem.W.kitAny K (.ref C_BadRow) [.ref C_BadName]=some false)
  (xf_i_BadRow_BadRow:PySem.W.kitAny K (.ref C_BadRow) [.ref C_BadRow]=some true)
  (xf_i_BadRow_BadShare:PySem.W.kitAny K (.ref C_BadRow) [.ref C_BadShare]=some false)
  (xf_i_BadRow_Early:PySem.W.kitAny K (.ref C_BadRow) [.ref C_Early]=some false)
  (xf_i_BadRow_Known:PySem.W.kitAny K (.ref C_BadRow) [.ref C_Known]=some false)
  (xf_i_BadRow_NoBack:PySem.W.kitAny K (.ref C_BadRow) [.ref C_NoBack]=some false)
  (xf_i_BadRow_NoDeed:PySem.W.kitAny K (.ref C_BadRow) [.ref C_NoDeed]=some false)
  (xf_i_BadRow_NoLine:PySem.W.kitAny K (.ref C_BadRow) [.ref C_NoLine]=some false)
  (xf_i_BadRow_NoRoom:PySem.W.kitAny K (.ref C_BadRow) [.ref C_NoRoom]=some false)
  (xf_i_BadRow_NoRow:PySem.W.kitAny K (.ref C_BadRow) [.ref C_NoRow]=some false)
  (xf_i_BadRow_NoText:PySem.W.kitAny K (.ref C_BadRow) [.ref C_NoText]=some false)
  (xf_i_BadRow_TooMany:PySem.W.kitAny K (.ref C_BadRow) [.ref C_TooMany]=some false)
  (xf_i_BadRow_Unknown:PySem.W.kitAny K (.ref C_BadRow) [.ref C_Unknown]=some false)
  (xf_i_BadRow_Used:PySem.W.kitAny K (.ref C_BadRow) [.ref C_Used]=some false)
  (xf_i_BadRow_ValueError:PySem.W.kitAny K (.ref C_BadRow) [.type "ValueError"]=some true)
  (xf_i_BadShare_BadAsked:PySem.W.kitAny K (.ref C_BadShare) [.ref C_BadAsked]=some false)
  (xf_i_BadShare_BadBerths:PySem.W.kitAny K (.ref C_BadShare) [.ref C_BadBerths]=some false)
  (xf_i_BadShare_BadName:PySem.W.kitAny K (.ref C_BadShare) [.ref C_BadName]=some false)
  (xf_i_BadShare_BadRow:PySem.W.kitAny K (.ref C_BadShare) [.ref C_BadRow]=some false)
  (xf_i_BadShare_BadShare:PySem.W.kitAny K (.ref C_BadShare) [.ref C_BadShare]=some true)
  (xf_i_BadShare_Early:PySem.W.kitAny K (.ref C_BadShare) [.ref C_Early]=some false)
  (xf_i_BadShare_Known:PySem.W.kitAny K (.ref C_BadShare) [.ref C_Known]=some false)
  (xf_i_BadShare_NoBack:PySem.W.kitAny K (.ref C_BadShare) [.ref C_NoBack]=some false)
  (xf_i_BadShare_NoDeed:PySem.W.kitAny K (.ref C_BadShare) [.ref C_NoDeed]=some false)
  (xf_i_BadShare_NoLine:PySem.W.kitAny K (.ref C_BadShare) [.ref C_NoLine]=some false)
  (xf_i_BadShare_NoRoom:PySem.W.kitAny K (.ref C_BadShare) [.ref C_NoRoom]=some false)
  (xf_i_BadShare_NoRow:PySem.W.kitAny K (.ref C_BadShare) [.ref C_NoRow]=some false)
  (xf_i_BadShare_NoText:PySem.W.kitAny K (.ref C_BadShare) [.ref C_NoText]=some false)
  (xf_i_BadShare_TooMany:PySem.W.kitAny K (.ref C_BadShare) [.ref C_TooMany]=some false)
  (xf_i_BadShare_Unknown:PySem.W.kitAny K (.ref C_BadShare) [.ref C_Unknown]=some false)
  (xf_i_BadShare_Used:PySem.W.kitAny K (.ref C_BadShare) [.ref C_Used]=some false)
  (xf_i_BadShare_ValueError:PySem.W.kitAny K (.ref C_BadShare) [.type "ValueError"]=some true)
  (xf_i_Early_BadAsked:PySem.W.kitAny K (.ref C_Early) [.ref C_BadAsked]=some false)
  (xf_i_Early_BadBerths:PySem.W.kitAny K (.ref C_Early) [.ref C_BadBerths]=some false)
  (xf_i_Early_BadName:PySem.W.kitAny K (.ref C_Early) [.ref C_BadName]=some false)
  (xf_i_Early_BadRow:PySem.W.kitAny K (.ref C_Early) [.ref C_BadRow]=some false)
  (xf_i_Early_BadShare:PySem.W.kitAny K (.ref C_Early) [.ref C_BadShare]=some false)
  (xf_i_Early_Early:PySem.W.kitAny K (.ref C_Early) [.ref C_Early]=some true)
  (xf_i_Early_Known:PySem.W.kitAny K (.ref C_Early) [.ref C_Known]=some false)
  (xf_i_Early_NoBack:PySem.W.kitAny K (.ref C_Early) [.ref C_NoBack]=some false)
  (xf_i_Early_NoDeed:PySem.W.kitAny K (.ref C_Early) [.ref C_NoDeed]=some false)
  (xf_i_Early_NoLine:PySem.W.kitAny K (.ref C_Early) [.ref C_NoLine]=some false)
  (xf_i_Early_NoRoom:PySem.W.kitAny K (.ref C_Early) [.ref C_NoRoom]=some false)
  (xf_i_Early_NoRow:PySem.W.kitAny K (.ref C_Early) [.ref C_NoRow]=some false)
  (xf_i_Early_NoText:PySem.W.kitAny K (.ref C_Early) [.ref C_NoText]=some false)
  (xf_i_Early_TooMany:PySem.W.kitAny K (.ref C_Early) [.ref C_TooMany]=some false)
  (xf_i_Early_Unknown:PySem.W.kitAny K (.ref C_Early) [.ref C_Unknown]=some false)
  (xf_i_Early_Used:PySem.W.kitAny K (.ref C_Early) [.ref C_Used]=some false)
  (xf_i_Early_ValueError:PySem.W.kitAny K (.ref C_Early) [.type "ValueError"]=some true)
  (xf_i_Known_BadAsked:PySem.W.kitAny K (.ref C_Known) [.ref C_BadAsked]=some false)
  (xf_i_Known_BadBerths:PySem.W.kitAny K (.ref C_Known) [.ref C_BadBerths]=some false)
  (xf_i_Known_BadName:PySem.W.kitAny K (.ref C_Known) [.ref C_BadName]=some false)
  (xf_i_Known_BadRow:PySem.W.kitAny K (.ref C_Known) [.ref C_BadRow]=some false)
  (xf_i_Known_BadShare:PySem.W.kitAny K (.ref C_Known) [.ref C_BadShare]=some false)
  (xf_i_Known_Early:PySem.W.kitAny K (.ref C_Known) [.ref C_Early]=some false)
  (xf_i_Known_Known:PySem.W.kitAny K (.ref C_Known) [.ref C_Known]=some true)
  (xf_i_Known_NoBack:PySem.W.kitAny K (.ref C_Known) [.ref C_NoBack]=some false)
  (xf_i_Known_NoDeed:PySem.W.kitAny K (.ref C_Known) [.ref C_NoDeed]=some false)
  (xf_i_Known_NoLine:PySem.W.kitAny K (.ref C_Known) [.ref C_NoLine]=some false)
  (xf_i_Known_NoRoom:PySem.W.kitAny K (.ref C_Known) [.ref C_NoRoom]=some false)
  (xf_i_Known_NoRow:PySem.W.kitAny K (.ref C_Known) [.ref C_NoRow]=some false)
  (xf_i_Known_NoText:PySem.W.kitAny K (.ref C_Known) [.ref C_NoText]=some false)
  (xf_i_Known_TooMany:PySem.W.kitAny K (.ref C_Known) [.ref C_TooMany]=some false)
  (xf_i_Known_Unknown:PySem.W.kitAny K (.ref C_Known) [.ref C_Unknown]=some false)
  (xf_i_Known_Used:PySem.W.kitAny K (.ref C_Known) [.ref C_Used]=some false)
  (xf_i_Known_ValueError:PySem.W.kitAny K (.ref C_Known) [.type "ValueError"]=some true)
  (xf_i_NoBack_BadAsked:PySem.W.kitAny K (.ref C_NoBack) [.ref C_BadAsked]=some false)
  (xf_i_NoBack_BadBerths:PySem.W.kitAny K (.ref C_NoBack) [.ref C_BadBerths]=some false)
  (xf_i_NoBack_BadName:PySem.W.kitAny K (.ref C_NoBack) [.ref C_BadName]=some false)
  (xf_i_NoBack_BadRow:PySem.W.kitAny K (.ref C_NoBack) [.ref C_BadRow]=some false)
  (xf_i_NoBack_BadShare:PySem.W.kitAny K (.ref C_NoBack) [.ref C_BadShare]=some false)
  (xf_i_NoBack_Early:PySem.W.kitAny K (.ref C_NoBack) [.ref C_Early]=some false)
  (xf_i_NoBack_Known:PySem.W.kitAny K (.ref C_NoBack) [.ref C_Known]=some false)
  (xf_i_NoBack_NoBack:PySem.W.kitAny K (.ref C_NoBack) [.ref C_NoBack]=some true)
  (xf_i_NoBack_NoDeed:PySem.W.kitAny K (.ref C_NoBack) [.ref C_NoDeed]=some false)
  (xf_i_NoBack_NoLine:PySem.W.kitAny K (.ref C_NoBack) [.ref C_NoLine]=some false)
  (xf_i_NoBack_NoRoom:PySem.W.kitAny K (.ref C_NoBack) [.ref C_NoRoom]=some false)
  (xf_i_NoBack_NoRow:PySem.W.kitAny K (.ref C_NoBack) [.ref C_NoRow]=some false)
  (xf_i_NoBack_NoText:PySem.W.kitAny K (.ref C_NoBack) [.ref C_NoText]=some false)
  (xf_i_NoBack_TooMany:PySem.W.kitAny K (.ref C_NoBack) [.ref C_TooMany]=some false)
  (xf_i_NoBack_Unknown:PySem.W.kitAny K (.ref C_NoBack) [.ref C_Unknown]=some false)
  (xf_i_NoBack_Used:PySem.W.kitAny K (.ref C_NoBack) [.ref C_Used]=some false)
  (xf_i_NoBack_ValueError:PySem.W.kitAny K (.ref C_NoBack) [.type "ValueError"]=some true)
  (xf_i_NoDeed_BadAsked:PySem.W.kitAny K (.ref C_NoDeed) [.ref C_BadAsked]=some false)
  (xf_i_NoDeed_BadBerths:PySem.W.kitAny K (.ref C_NoDeed) [.ref C_BadBerths]=some false)
  (xf_i_NoDeed_BadName:PySem.W.kitAny K (.ref C_NoDeed) [.ref C_BadName]=some false)
  (xf_i_NoDeed_BadRow:PySem.W.kitAny K (.ref C_NoDeed) [.ref C_BadRow]=some false)
  (xf_i_NoDeed_BadShare:PySem.W.kitAny K (.ref C_NoDeed) [.ref C_BadShare]=some false)
  (xf_i_NoDeed_Early:PySem.W.kitAny K (.ref C_NoDeed) [.ref C_Early]=some false)
  (xf_i_NoDeed_Known:PySem.W.kitAny K (.ref C_NoDeed) [.ref C_Known]=some false)
  (xf_i_NoDeed_NoBack:PySem.W.kitAny K (.ref C_NoDeed) [.ref C_NoBack]=some false)
  (xf_i_NoDeed_NoDeed:PySem.W.kitAny K (.ref C_NoDeed) [.ref C_NoDeed]=some true)
  (xf_i_NoDeed_NoLine:PySem.W.kitAny K (.ref C_NoDeed) [.ref C_NoLine]=some false)
  (xf_i_NoDeed_NoRoom:PySem.W.kitAny K (.ref C_NoDeed) [.ref C_NoRoom]=some false)
  (xf_i_NoDeed_NoRow:PySem.W.kitAny K (.ref C_NoDeed) [.ref C_NoRow]=some false)
  (xf_i_NoDeed_NoText:PySem.W.kitAny K (.ref C_NoDeed) [.ref C_NoText]=some false)
  (xf_i_NoDeed_TooMany:PySem.W.kitAny K (.ref C_NoDeed) [.ref C_TooMany]=some false)
  (xf_i_NoDeed_Unknown:PySem.W.kitAny K (.ref C_NoDeed) [.ref C_Unknown]=some false)
  (xf_i_NoDeed_Used:PySem.W.kitAny K (.ref C_NoDeed) [.ref C_Used]=some false)
  (xf_i_NoDeed_ValueError:PySem.W.kitAny K (.ref C_NoDeed) [.type "ValueError"]=some true)
  (xf_i_NoLine_BadAsked:PySem.W.kitAny K (.ref C_NoLine) [.ref C_BadAsked]=some false)
  (xf_i_NoLine_BadBerths:PySem.W.kitAny K (.ref C_NoLine) [.ref C_BadBerths]=some false)
  (xf_i_NoLine_BadName:PySem.W.kitAny K (.ref C_NoLine) [.ref C_BadName]=some false)
  (xf_i_NoLine_BadRow:PySem.W.kitAny K (.ref C_NoLine) [.ref C_BadRow]=some false)
  (xf_i_NoLine_BadShare:PySem.W.kitAny K (.ref C_NoLine) [.ref C_BadShare]=some false)
  (xf_i_NoLine_Early:PySem.W.kitAny K (.ref C_NoLine) [.ref C_Early]=some false)
  (xf_i_NoLine_Known:PySem.W.kitAny K (.ref C_NoLine) [.ref C_Known]=some false)
  (xf_i_NoLine_NoBack:PySem.W.kitAny K (.ref C_NoLine) [.ref C_NoBack]=some false)
  (xf_i_NoLine_NoDeed:PySem.W.kitAny K (.ref C_NoLine) [.ref C_NoDeed]=some false)
  (xf_i_NoLine_NoLine:PySem.W.kitAny K (.ref C_NoLine) [.ref C_NoLine]=some true)
  (xf_i_NoLine_NoRoom:PySem.W.kitAny K (.ref C_NoLine) [.ref C_NoRoom]=some false)
  (xf_i_NoLine_NoRow:PySem.W.kitAny K (.ref C_NoLine) [.ref C_NoRow]=some false)
  (xf_i_NoLine_NoText:PySem.W.kitAny K (.ref C_NoLine) [.ref C_NoText]=some false)
  (xf_i_NoLine_TooMany:PySem.W.kitAny K (.ref C_NoLine) [.ref C_TooMany]=some false)
  (xf_i_NoLine_Unknown:PySem.W.kitAny K (.ref C_NoLine) [.ref C_Unknown]=some false)
  (xf_i_NoLine_Used:PySem.W.kitAny K (.ref C_NoLine) [.ref C_Used]=some false)
  (xf_i_NoLine_ValueError:PySem.W.kitAny K (.ref C_NoLine) [.type "ValueError"]=some true)
  (xf_i_NoRoom_BadAsked:PySem.W.kitAny K (.ref C_NoRoom) [.ref C_BadAsked]=some false)
  (xf_i_NoRoom_BadBerths:PySem.W.kitAny K (.ref C_NoRoom) [.ref C_BadBerths]=some false)
  (xf_i_NoRoom_BadName:PySem.W.kitAny K (.ref C_NoRoom) [.ref C_BadName]=some false)
  (xf_i_NoRoom_BadRow:PySem.W.kitAny K (.ref C_NoRoom) [.ref C_BadRow]=some false)
  (xf_i_NoRoom_BadShare:PySem.W.kitAny K (.ref C_NoRoom) [.ref C_BadShare]=some false)
  (xf_i_NoRoom_Early:PySem.W.kitAny K (.ref C_NoRoom) [.ref C_Early]=some false)
  (xf_i_NoRoom_Known:PySem.W.kitAny K (.ref C_NoRoom) [.ref C_Known]=some false)
  (xf_i_NoRoom_NoBack:PySem.W.kitAny K (.ref C_NoRoom) [.ref C_NoBack]=some false)
  (xf_i_NoRoom_NoDeed:PySem.W.kitAny K (.ref C_NoRoom) [.ref C_NoDeed]=some false)
  (xf_i_NoRoom_NoLine:PySem.W.kitAny K (.ref C_NoRoom) [.ref C_NoLine]=some false)
  (xf_i_NoRoom_NoRoom:PySem.W.kitAny K (.ref C_NoRoom) [.ref C_NoRoom]=some true)
  (xf_i_NoRoom_NoRow:PySem.W.kitAny K (.ref C_NoRoom) [.ref C_NoRow]=some false)
  (xf_i_NoRoom_NoText:PySem.W.kitAny K (.ref C_NoRoom) [.ref C_NoText]=some false)
  (xf_i_NoRoom_TooMany:PySem.W.kitAny K (.ref C_NoRoom) [.ref C_TooMany]=some false)
  (xf_i_NoRoom_Unknown:PySem.W.kitAny K (.ref C_NoRoom) [.ref C_Unknown]=some false)
  (xf_i_NoRoom_Used:PySem.W.kitAny K (.ref C_NoRoom) [.ref C_Used]=some false)
  (xf_i_NoRoom_ValueError:PySem.W.kitAny K (.ref C_NoRoom) [.type "ValueError"]=some true)
  (xf_i_NoRow_BadAsked:PySem.W.kitAny K (.ref C_NoRow) [.ref C_BadAsked]=some false)
  (xf_i_NoRow_BadBerths:PySem.W.kitAny K (.ref C_NoRow) [.ref C_BadBerths]=some false)
  (xf_i_NoRow_BadName:PySem.W.kitAny K (.ref C_NoRow) [.ref C_BadName]=some false)
  (xf_i_NoRow_BadRow:PySem.W.kitAny K (.ref C_NoRow) [.ref C_BadRow]=some false)
  (xf_i_NoRow_BadShare:PySem.W.kitAny K (.ref C_NoRow) [.ref C_BadShare]=some false)
  (xf_i_NoRow_Early:PySem.W.kitAny K (.ref C_NoRow) [.ref C_Early]=some false)
  (xf_i_NoRow_Known:PySem.W.kitAny K (.ref C_NoRow) [.ref C_Known]=some false)
  (xf_i_NoRow_NoBack:PySem.W.kitAny K (.ref C_NoRow) [.ref C_NoBack]=some false)
  (xf_i_NoRow_NoDeed:PySem.W.kitAny K (.ref C_NoRow) [.ref C_NoDeed]=some false)
  (xf_i_NoRow_NoLine:PySem.W.kitAny K (.ref C_NoRow) [.ref C_NoLine]=some false)
  (xf_i_NoRow_NoRoom:PySem.W.kitAny K (.ref C_NoRow) [.ref C_NoRoom]=some false)
  (xf_i_NoRow_NoRow:PySem.W.kitAny K (.ref C_NoRow) [.ref C_NoRow]=some true)
  (xf_i_NoRow_NoText:PySem.W.kitAny K (.ref C_NoRow) [.ref C_NoText]=some false)
  (xf_i_NoRow_TooMany:PySem.W.kitAny K (.ref C_NoRow) [.ref C_TooMany]=some false)
  (xf_i_NoRow_Unknown:PySem.W.kitAny K (.ref C_NoRow) [.ref C_Unknown]=some false)
  (xf_i_NoRow_Used:PySem.W.kitAny K (.ref C_NoRow) [.ref C_Used]=some false)
  (xf_i_NoRow_ValueError:PySem.W.kitAny K (.ref C_NoRow) [.type "ValueError"]=some true)
  (xf_i_NoText_BadAsked:PySem.W.kitAny K (.ref C_NoText) [.ref C_BadAsked]=some false)
  (xf_i_NoText_BadBerths:PySem.W.kitAny K (.ref C_NoText) [.ref C_BadBerths]=some false)
  (xf_i_NoText_BadName:PySem.W.kitAny K (.ref C_NoText) [.ref C_BadName]=some false)
  (xf_i_NoText_BadRow:PySem.W.kitAny K (.ref C_NoText) [.ref C_BadRow]=some false)
  (xf_i_NoText_BadShare:PySem.W.kitAny K (.ref C_NoText) [.ref C_BadShare]=some false)
  (xf_i_NoText_Early:PySem.W.kitAny K (.ref C_NoText) [.ref C_Early]=some false)
  (xf_i_NoText_Known:PySem.W.kitAny K (.ref C_NoText) [.ref C_Known]=some false)
  (xf_i_NoText_NoBack:PySem.W.kitAny K (.ref C_NoText) [.ref C_NoBack]=some false)
  (xf_i_NoText_NoDeed:PySem.W.kitAny K (.ref C_NoText) [.ref C_NoDeed]=some false)
  (xf_i_NoText_NoLine:PySem.W.kitAny K (.ref C_NoText) [.ref C_NoLine]=some false)
  (xf_i_NoText_NoRoom:PySem.W.kitAny K (.ref C_NoText) [.ref C_NoRoom]=some false)
  (xf_i_NoText_NoRow:PySem.W.kitAny K (.ref C_NoText) [.ref C_NoRow]=some false)
  (xf_i_NoText_NoText:PySem.W.kitAny K (.ref C_NoText) [.ref C_NoText]=some true)
  (xf_i_NoText_TooMany:PySem.W.kitAny K (.ref C_NoText) [.ref C_TooMany]=some false)
  (xf_i_NoText_Unknown:PySem.W.kitAny K (.ref C_NoText) [.ref C_Unknown]=some false)
  (xf_i_NoText_Used:PySem.W.kitAny K (.ref C_NoText) [.ref C_Used]=some false)
  (xf_i_NoText_ValueError:PySem.W.kitAny K (.ref C_NoText) [.type "ValueError"]=some true)
  (xf_i_PlaceError_BadAsked:PySem.W.kitAny K (.ref C_PlaceError) [.ref C_BadAsked]=some false)
  (xf_i_PlaceError_BadBerths:PySem.W.kitAny K (.ref C_PlaceError) [.ref C_BadBerths]=some false)
  (xf_i_PlaceError_BadName:PySem.W.kitAny K (.ref C_PlaceError) [.ref C_BadName]=some false)
  (xf_i_PlaceError_BadRow:PySem.W.kitAny K (.ref C_PlaceError) [.ref C_BadRow]=some false)
  (xf_i_PlaceError_BadShare:PySem.W.kitAny K (.ref C_PlaceError) [.ref C_BadShare]=some false)
  (xf_i_PlaceError_Early:PySem.W.kitAny K (.ref C_PlaceError) [.ref C_Early]=some false)
  (xf_i_PlaceError_Known:PySem.W.kitAny K (.ref C_PlaceError) [.ref C_Known]=some false)
  (xf_i_PlaceError_NoBack:PySem.W.kitAny K (.ref C_PlaceError) [.ref C_NoBack]=some false)
  (xf_i_PlaceError_NoDeed:PySem.W.kitAny K (.ref C_PlaceError) [.ref C_NoDeed]=some false)
  (xf_i_PlaceError_NoLine:PySem.W.kitAny K (.ref C_PlaceError) [.ref C_NoLine]=some false)
  (xf_i_PlaceError_NoRoom:PySem.W.kitAny K (.ref C_PlaceError) [.ref C_NoRoom]=some false)
  (xf_i_PlaceError_NoRow:PySem.W.kitAny K (.ref C_PlaceError) [.ref C_NoRow]=some false)
  (xf_i_PlaceError_NoText:PySem.W.kitAny K (.ref C_PlaceError) [.ref C_NoText]=some false)
  (xf_i_PlaceError_TooMany:PySem.W.kitAny K (.ref C_PlaceError) [.ref C_TooMany]=some false)
  (xf_i_PlaceError_Unknown:PySem.W.kitAny K (.ref C_PlaceError) [.ref C_Unknown]=some false)
  (xf_i_PlaceError_Used:PySem.W.kitAny K (.ref C_PlaceError) [.ref C_Used]=some false)
  (xf_i_PlaceError_ValueError:PySem.W.kitAny K (.ref C_PlaceError) [.type "ValueError"]=some true)
  (xf_i_TooMany_BadAsked:PySem.W.kitAny K (.ref C_TooMany) [.ref C_BadAsked]=some false)
  (xf_i_TooMany_BadBerths:PySem.W.kitAny K (.ref C_TooMany) [.ref C_BadBerths]=some false)
  (xf_i_TooMany_BadName:PySem.W.kitAny K (.ref C_TooMany) [.ref C_BadName]=some false)
  (xf_i_TooMany_BadRow:PySem.W.kitAny K (.ref C_TooMany) [.ref C_BadRow]=some false)
  (xf_i_TooMany_BadShare:PySem.W.kitAny K (.ref C_TooMany) [.ref C_BadShare]=some false)
  (xf_i_TooMany_Early:PySem.W.kitAny K (.ref C_TooMany) [.ref C_Early]=some false)
  (xf_i_TooMany_Known:PySem.W.kitAny K (.ref C_TooMany) [.ref C_Known]=some false)
  (xf_i_TooMany_NoBack:PySem.W.kitAny K (.ref C_TooMany) [.ref C_NoBack]=some false)
  (xf_i_TooMany_NoDeed:PySem.W.kitAny K (.ref C_TooMany) [.ref C_NoDeed]=some false)
  (xf_i_TooMany_NoLine:PySem.W.kitAny K (.ref C_TooMany) [.ref C_NoLine]=some false)
  (xf_i_TooMany_NoRoom:PySem.W.kitAny K (.ref C_TooMany) [.ref C_NoRoom]=some false)
  (xf_i_TooMany_NoRow:PySem.W.kitAny K (.ref C_TooMany) [.ref C_NoRow]=some false)
  (xf_i_TooMany_NoText:PySem.W.kitAny K (.ref C_TooMany) [.ref C_NoText]=some false)
  (xf_i_TooMany_TooMany:PySem.W.kitAny K (.ref C_TooMany) [.ref C_TooMany]=some true)
  (xf_i_TooMany_Unknown:PySem.W.kitAny K (.ref C_TooMany) [.ref C_Unknown]=some false)
  (xf_i_TooMany_Used:PySem.W.kitAny K (.ref C_TooMany) [.ref C_Used]=some false)
  (xf_i_TooMany_ValueError:PySem.W.kitAny K (.ref C_TooMany) [.type "ValueError"]=some true)
  (xf_i_Unknown_BadAsked:PySem.W.kitAny K (.ref C_Unknown) [.ref C_BadAsked]=some false)
  (xf_i_Unknown_BadBerths:PySem.W.kitAny K (.ref C_Unknown) [.ref C_BadBerths]=some false)
  (xf_i_Unknown_BadName:PySem.W.kitAny K (.ref C_Unknown) [.ref C_BadName]=some false)
  (xf_i_Unknown_BadRow:PySem.W.kitAny K (.ref C_Unknown) [.ref C_BadRow]=some false)
  (xf_i_Unknown_BadShare:PySem.W.kitAny K (.ref C_Unknown) [.ref C_BadShare]=some false)
  (xf_i_Unknown_Early:PySem.W.kitAny K (.ref C_Unknown) [.ref C_Early]=some false)
  (xf_i_Unknown_Known:PySem.W.kitAny K (.ref C_Unknown) [.ref C_Known]=some false)
  (xf_i_Unknown_NoBack:PySem.W.kitAny K (.ref C_Unknown) [.ref C_NoBack]=some false)
  (xf_i_Unknown_NoDeed:PySem.W.kitAny K (.ref C_Unknown) [.ref C_NoDeed]=some false)
  (xf_i_Unknown_NoLine:PySem.W.kitAny K (.ref C_Unknown) [.ref C_NoLine]=some false)
  (xf_i_Unknown_NoRoom:PySem.W.kitAny K (.ref C_Unknown) [.ref C_NoRoom]=some false)
  (xf_i_Unknown_NoRow:PySem.W.kitAny K (.ref C_Unknown) [.ref C_NoRow]=some false)
  (xf_i_Unknown_NoText:PySem.W.kitAny K (.ref C_Unknown) [.ref C_NoText]=some false)
  (xf_i_Unknown_TooMany:PySem.W.kitAny K (.ref C_Unknown) [.ref C_TooMany]=some false)
  (xf_i_Unknown_Unknown:PySem.W.kitAny K (.ref C_Unknown) [.ref C_Unknown]=some true)
  (xf_i_Unknown_Used:PySem.W.kitAny K (.ref C_Unknown) [.ref C_Used]=some false)
  (xf_i_Unknown_ValueError:PySem.W.kitAny K (.ref C_Unknown) [.type "ValueError"]=some true)
  (xf_i_Used_BadAsked:PySem.W.kitAny K (.ref C_Used) [.ref C_BadAsked]=some false)
  (xf_i_Used_BadBerths:PySem.W.kitAny K (.ref C_Used) [.ref C_BadBerths]=some false)
  (xf_i_Used_BadName:PySem.W.kitAny K (.ref C_Used) [.ref C_BadName]=some false)
  (xf_i_Used_BadRow:PySem.W.kitAny K (.ref C_Used) [.ref C_BadRow]=some false)
  (xf_i_Used_BadShare:PySem.W.kitAny K (.ref C_Used) [.ref C_BadShare]=some false)
  (xf_i_Used_Early:PySem.W.kitAny K (.ref C_Used) [.ref C_Early]=some false)
  (xf_i_Used_Known:PySem.W.kitAny K (.ref C_Used) [.ref C_Known]=some false)
  (xf_i_Used_NoBack:PySem.W.kitAny K (.ref C_Used) [.ref C_NoBack]=some false)
  (xf_i_Used_NoDeed:PySem.W.kitAny K (.ref C_Used) [.ref C_NoDeed]=some false)
  (xf_i_Used_NoLine:PySem.W.kitAny K (.ref C_Used) [.ref C_NoLine]=some false)
  (xf_i_Used_NoRoom:PySem.W.kitAny K (.ref C_Used) [.ref C_NoRoom]=some false)
  (xf_i_Used_NoRow:PySem.W.kitAny K (.ref C_Used) [.ref C_NoRow]=some false)
  (xf_i_Used_NoText:PySem.W.kitAny K (.ref C_Used) [.ref C_NoText]=some false)
  (xf_i_Used_TooMany:PySem.W.kitAny K (.ref C_Used) [.ref C_TooMany]=some false)
  (xf_i_Used_Unknown:PySem.W.kitAny K (.ref C_Used) [.ref C_Unknown]=some false)
  (xf_i_Used_Used:PySem.W.kitAny K (.ref C_Used) [.ref C_Used]=some true)
  (xf_i_Used_ValueError:PySem.W.kitAny K (.ref C_Used) [.type "ValueError"]=some true)
  (xf_xk_NoBack:PySem.W.keepIn K (.ref C_NoBack)=true)
  (xf_xk_NoDeed:PySem.W.keepIn K (.ref C_NoDeed)=true)
  (xf_xk_NoLine:PySem.W.keepIn K (.ref C_NoLine)=true)
  (xf_xk_NoText:PySem.W.keepIn K (.ref C_NoText)=true)
  (xf_xk_PlaceError:PySem.W.keepIn K (.ref C_PlaceError)=true)
  (xf_xn_NoBack:XO.xno K C_NoBack=true)
  (xf_xn_NoDeed:XO.xno K C_NoDeed=true)
  (xf_xn_NoLine:XO.xno K C_NoLine=true)
  (xf_xn_NoText:XO.xno K C_NoText=true)
  (xf_xn_PlaceError:XO.xno K C_PlaceError=true)
  (xf_xt_NoBack:PySem.W.typeIn K (.ref C_NoBack)=some (.type "type"))
  (xf_xt_NoDeed:PySem.W.typeIn K (.ref C_NoDeed)=some (.type "type"))
  (xf_xt_NoLine:PySem.W.typeIn K (.ref C_NoLine)=some (.type "type"))
  (xf_xt_NoText:PySem.W.typeIn K (.ref C_NoText)=some (.type "type"))
  (xf_xt_PlaceError:PySem.W.typeIn K (.ref C_PlaceError)=some (.type "type"))
  (n_BadAsked_at:PySem.W.findIn K (.ref C_BadAsked) "at" = some none)
  (n_BadBerths_at:PySem.W.findIn K (.ref C_BadBerths) "at" = some none)
  (n_BadName_at:PySem.W.findIn K (.ref C_BadName) "at" = some none)
  (n_BadRow_at:PySem.W.findIn K (.ref C_BadRow) "at" = some none)
  (n_BadShare_at:PySem.W.findIn K (.ref C_BadShare) "at" = some none)
  (n_Early_until:PySem.W.findIn K (.ref C_Early) "until" = some none)
  (n_Known_name:PySem.W.findIn K (.ref C_Known) "name" = some none)
  (n_NoRoom_demanded:PySem.W.findIn K (.ref C_NoRoom) "demanded" = some none)
  (n_NoRoom_first:PySem.W.findIn K (.ref C_NoRoom) "first" = some none)
  (n_NoRoom_room:PySem.W.findIn K (.ref C_NoRoom) "room" = some none)
  (n_NoRow_at:PySem.W.findIn K (.ref C_NoRow) "at" = some none)
  (n_TooMany_most:PySem.W.findIn K (.ref C_TooMany) "most" = some none)
  (n_Unknown_name:PySem.W.findIn K (.ref C_Unknown) "name" = some none)
  (n_Used_name:PySem.W.findIn K (.ref C_Used) "name" = some none)
  (b_ValueError:PySem.W.nsIn K mainGlobals "ValueError" = some none)
  (b_abs:PySem.W.nsIn K mainGlobals "abs" = some none)
  (b_int:PySem.W.nsIn K mainGlobals "int" = some none)
  (b_isinstance:PySem.W.nsIn K mainGlobals "isinstance" = some none)
  (b_len:PySem.W.nsIn K mainGlobals "len" = some none)
  (b_range:PySem.W.nsIn K mainGlobals "range" = some none)
  (b_repr:PySem.W.nsIn K mainGlobals "repr" = some none) :
  ∃ fd:FuncData,(∀ (s:Shared) (v:Value),BindsTo s fd ⟨[v],[]⟩ [("_law_script",v)])/\∀ base:Heap,K.In base->base.Ns mainGlobals mg->FnOk l.prog w K mg base CX0 5 fa fd ["_law_script"] (upSp K sp_law):=by
 have e:=hfa.symm.trans (PySem.W.mg_of X G a_law)
 cases e
 have E:Env K mg:=⟨PySem.W.mg_of X G xg_BadAsked,PySem.W.mg_of X G xg_BadBerths,PySem.W.mg_of X G xg_BadName,PySem.W.mg_of X G xg_BadRow,PySem.W.mg_of X G xg_BadShare,PySem.W.mg_of X G xg_Early,PySem.W.mg_of X G xg_Known,PySem.W.mg_of X G xg_NoBack,PySem.W.mg_of X G xg_NoDeed,PySem.W.mg_of X G xg_NoLine,PySem.W.mg_of X G xg_NoRoom,PySem.W.mg_of X G xg_NoRow,PySem.W.mg_of X G xg_NoText,PySem.W.mg_of X G xg_PlaceError,PySem.W.mg_of X G xg_TooMany,PySem.W.mg_of X G xg_Unknown,PySem.W.mg_of X G xg_Used,⟨x1_BadAsked,x2_BadAsked,x3_BadAsked,x4_BadAsked,x5_BadAsked,xg1,xg2⟩,⟨x1_BadBerths,x2_BadBerths,x3_BadBerths,x4_BadBerths,x5_BadBerths,xg1,xg2⟩,⟨x1_BadName,x2_BadName,x3_BadName,x4_BadName,x5_BadName,xg1,xg2⟩,⟨x1_BadRow,x2_BadRow,x3_BadRow,x4_BadRow,x5_BadRow,xg1,xg2⟩,⟨x1_BadShare,x2_BadShare,x3_BadShare,x4_BadShare,x5_BadShare,xg1,xg2⟩,⟨x1_Early,x2_Early,x3_Early,x4_Early,x5_Early,xg1,xg2⟩,⟨x1_Known,x2_Known,x3_Known,x4_Known,x5_Known,xg1,xg2⟩,⟨x1_NoBack,x2_NoBack,x3_NoBack,x4_NoBack,x5_NoBack,xg1,xg2⟩,⟨x1_NoDeed,x2_NoDeed,x3_NoDeed,x4_NoDeed,x5_NoDeed,xg1,xg2⟩,⟨x1_NoLine,x2_NoLine,x3_NoLine,x4_NoLine,x5_NoLine,xg1,xg2⟩,⟨x1_NoRoom,x2_NoRoom,x3_NoRoom,x4_NoRoom,x5_NoRoom,xg1,xg2⟩,⟨x1_NoRow,x2_NoRow,x3_NoRow,x4_NoRow,x5_NoRow,xg1,xg2⟩,⟨x1_NoText,x2_NoText,x3_NoText,x4_NoText,x5_NoText,xg1,xg2⟩,⟨x1_PlaceError,x2_PlaceError,x3_PlaceError,x4_PlaceError,x5_PlaceError,xg1,xg2⟩,⟨x1_TooMany,x2_TooMany,x3_TooMany,x4_TooMany,x5_TooMany,xg1,xg2⟩,⟨x1_Unknown,x2_Unknown,x3_Unknown,x4_Unknown,x5_Unknown,xg1,xg2⟩,⟨x1_Used,x2_Used,x3_Used,x4_Used,x5_Used,xg1,xg2⟩,xf_e_BadAsked_BadAsked,xf_e_BadAsked_BadBerths,xf_e_BadAsked_BadName,xf_e_BadAsked_BadRow,xf_e_BadAsked_BadShare,xf_e_BadAsked_Early,xf_e_BadAsked_Known,xf_e_BadAsked_NoRoom,xf_e_BadAsked_NoRow,xf_e_BadAsked_PlaceError,xf_e_BadAsked_TooMany,xf_e_BadAsked_Unknown,xf_e_BadAsked_Used,xf_e_BadBerths_BadAsked,xf_e_BadBerths_BadBerths,xf_e_BadBerths_BadName,xf_e_BadBerths_BadRow,xf_e_BadBerths_BadShare,xf_e_BadBerths_Early,xf_e_BadBerths_Known,xf_e_BadBerths_NoRoom,xf_e_BadBerths_NoRow,xf_e_BadBerths_PlaceError,xf_e_BadBerths_TooMany,xf_e_BadBerths_Unknown,xf_e_BadBerths_Used,xf_e_BadName_BadAsked,xf_e_BadName_BadBerths,xf_e_BadName_BadName,xf_e_BadName_BadRow,xf_e_BadName_BadShare,xf_e_BadName_Early,xf_e_BadName_Known,xf_e_BadName_NoRoom,xf_e_BadName_NoRow,xf_e_BadName_PlaceError,xf_e_BadName_TooMany,xf_e_BadName_Unknown,xf_e_BadName_Used,xf_e_BadRow_BadAsked,xf_e_BadRow_BadBerths,xf_e_BadRow_BadName,xf_e_BadRow_BadRow,xf_e_BadRow_BadShare,xf_e_BadRow_Early,xf_e_BadRow_Known,xf_e_BadRow_NoRoom,xf_e_BadRow_NoRow,xf_e_BadRow_PlaceError,xf_e_BadRow_TooMany,xf_e_BadRow_Unknown,xf_e_BadRow_Used,xf_e_BadShare_BadAsked,xf_e_BadShare_BadBerths,xf_e_BadShare_BadName,xf_e_BadShare_BadRow,xf_e_BadShare_BadShare,xf_e_BadShare_Early,xf_e_BadShare_Known,xf_e_BadShare_NoRoom,xf_e_BadShare_NoRow,xf_e_BadShare_PlaceError,xf_e_BadShare_TooMany,xf_e_BadShare_Unknown,xf_e_BadShare_Used,xf_e_Early_BadAsked,xf_e_Early_BadBerths,xf_e_Early_BadName,xf_e_Early_BadRow,xf_e_Early_BadShare,xf_e_Early_Early,xf_e_Early_Known,xf_e_Early_NoRoom,xf_e_Early_NoRow,xf_e_Early_PlaceError,xf_e_Early_TooMany,xf_e_Early_Unknown,xf_e_Early_Used,xf_e_Known_BadAsked,xf_e_Known_BadBerths,xf_e_Known_BadName,xf_e_Known_BadRow,xf_e_Known_BadShare,xf_e_Known_Early,xf_e_Known_Known,xf_e_Known_NoRoom,xf_e_Known_NoRow,xf_e_Known_PlaceError,xf_e_Known_TooMany,xf_e_Known_Unknown,xf_e_Known_Used,xf_e_NoBack_BadAsked,xf_e_NoBack_BadBerths,xf_e_NoBack_BadName,xf_e_NoBack_BadRow,xf_e_NoBack_BadShare,xf_e_NoBack_Early,xf_e_NoBack_Known,xf_e_NoBack_NoRoom,xf_e_NoBack_NoRow,xf_e_NoBack_PlaceError,xf_e_NoBack_TooMany,xf_e_NoBack_Unknown,xf_e_NoBack_Used,xf_e_NoDeed_BadAsked,xf_e_NoDeed_BadBerths,xf_e_NoDeed_BadName,xf_e_NoDeed_BadRow,xf_e_NoDeed_BadShare,xf_e_NoDeed_Early,xf_e_NoDeed_Known,xf_e_NoDeed_NoRoom,xf_e_NoDeed_NoRow,xf_e_NoDeed_PlaceError,xf_e_NoDeed_TooMany,xf_e_NoDeed_Unknown,xf_e_NoDeed_Used,xf_e_NoLine_BadAsked,xf_e_NoLine_BadBerths,xf_e_NoLine_BadName,xf_e_NoLine_BadRow,xf_e_NoLine_BadShare,xf_e_NoLine_Early,xf_e_NoLine_Known,xf_e_NoLine_NoRoom,xf_e_NoLine_NoRow,xf_e_NoLine_PlaceError,xf_e_NoLine_TooMany,xf_e_NoLine_Unknown,xf_e_NoLine_Used,xf_e_NoRoom_BadAsked,xf_e_NoRoom_BadBerths,xf_e_NoRoom_BadName,xf_e_NoRoom_BadRow,xf_e_NoRoom_BadShare,xf_e_NoRoom_Early,xf_e_NoRoom_Known,xf_e_NoRoom_NoRoom,xf_e_NoRoom_NoRow,xf_e_NoRoom_PlaceError,xf_e_NoRoom_TooMany,xf_e_NoRoom_Unknown,xf_e_NoRoom_Used,xf_e_NoRow_BadAsked,xf_e_NoRow_BadBerths,xf_e_NoRow_BadName,xf_e_NoRow_BadRow,xf_e_NoRow_BadShare,xf_e_NoRow_Early,xf_e_NoRow_Known,xf_e_NoRow_NoRoom,xf_e_NoRow_NoRow,xf_e_NoRow_PlaceError,xf_e_NoRow_TooMany,xf_e_NoRow_Unknown,xf_e_NoRow_Used,xf_e_NoText_BadAsked,xf_e_NoText_BadBerths,xf_e_NoText_BadName,xf_e_NoText_BadRow,xf_e_NoText_BadShare,xf_e_NoText_Early,xf_e_NoText_Known,xf_e_NoText_NoRoom,xf_e_NoText_NoRow,xf_e_NoText_PlaceError,xf_e_NoText_TooMany,xf_e_NoText_Unknown,xf_e_NoText_Used,xf_e_PlaceError_PlaceError,xf_e_TooMany_BadAsked,xf_e_TooMany_BadBerths,xf_e_TooMany_BadName,xf_e_TooMany_BadRow,xf_e_TooMany_BadShare,xf_e_TooMany_Early,xf_e_TooMany_Known,xf_e_TooMany_NoRoom,xf_e_TooMany_NoRow,xf_e_TooMany_PlaceError,xf_e_TooMany_TooMany,xf_e_TooMany_Unknown,xf_e_TooMany_Used,xf_e_Unknown_BadAsked,xf_e_Unknown_BadBerths,xf_e_Unknown_BadName,xf_e_Unknown_BadRow,xf_e_Unknown_BadShare,xf_e_Unknown_Early,xf_e_Unknown_Known,xf_e_Unknown_NoRoom,xf_e_Unknown_NoRow,xf_e_Unknown_PlaceError,xf_e_Unknown_TooMany,xf_e_Unknown_Unknown,xf_e_Unknown_Used,xf_e_Used_BadAsked,xf_e_Used_BadBerths,xf_e_Used_BadName,xf_e_Used_BadRow,xf_e_Used_BadShare,xf_e_Used_Early,xf_e_Used_Known,xf_e_Used_NoRoom,xf_e_Used_NoRow,xf_e_Used_PlaceError,xf_e_Used_TooMany,xf_e_Used_Unknown,xf_e_Used_Used,xf_i_BadAsked_BadAsked,xf_i_BadAsked_BadBerths,xf_i_BadAsked_BadName,xf_i_BadAsked_BadRow,xf_i_BadAsked_BadShare,xf_i_BadAsked_Early,xf_i_BadAsked_Known,xf_i_BadAsked_NoBack,xf_i_BadAsked_NoDeed,xf_i_BadAsked_NoLine,xf_i_BadAsked_NoRoom,xf_i_BadAsked_NoRow,xf_i_BadAsked_NoText,xf_i_BadAsked_TooMany,xf_i_BadAsked_Unknown,xf_i_BadAsked_Used,xf_i_BadAsked_ValueError,xf_i_BadBerths_BadAsked,xf_i_BadBerths_BadBerths,xf_i_BadBerths_BadName,xf_i_BadBerths_BadRow,xf_i_BadBerths_BadShare,xf_i_BadBerths_Early,xf_i_BadBerths_Known,xf_i_BadBerths_NoBack,xf_i_BadBerths_NoDeed,xf_i_BadBerths_NoLine,xf_i_BadBerths_NoRoom,xf_i_BadBerths_NoRow,xf_i_BadBerths_NoText,xf_i_BadBerths_TooMany,xf_i_BadBerths_Unknown,xf_i_BadBerths_Used,xf_i_BadBerths_ValueError,xf_i_BadName_BadAsked,xf_i_BadName_BadBerths,xf_i_BadName_BadName,xf_i_BadName_BadRow,xf_i_BadName_BadShare,xf_i_BadName_Early,xf_i_BadName_Known,xf_i_BadName_NoBack,xf_i_BadName_NoDeed,xf_i_BadName_NoLine,xf_i_BadName_NoRoom,xf_i_BadName_NoRow,xf_i_BadName_NoText,xf_i_BadName_TooMany,xf_i_BadName_Unknown,xf_i_BadName_Used,xf_i_BadName_ValueError,xf_i_BadRow_BadAsked,xf_i_BadRow_BadBerths,xf_i_BadRow_BadName,xf_i_BadRow_BadRow,xf_i_BadRow_BadShare,xf_i_BadRow_Early,xf_i_BadRow_Known,xf_i_BadRow_NoBack,xf_i_BadRow_NoDeed,xf_i_BadRow_NoLine,xf_i_BadRow_NoRoom,xf_i_BadRow_NoRow,xf_i_BadRow_NoText,xf_i_BadRow_TooMany,xf_i_BadRow_Unknown,xf_i_BadRow_Used,xf_i_BadRow_ValueError,xf_i_BadShare_BadAsked,xf_i_BadShare_BadBerths,xf_i_BadShare_BadName,xf_i_BadShare_BadRow,xf_i_BadShare_BadShare,xf_i_BadShare_Early,xf_i_BadShare_Known,xf_i_BadShare_NoBack,xf_i_BadShare_NoDeed,xf_i_BadShare_NoLine,xf_i_BadShare_NoRoom,xf_i_BadShare_NoRow,xf_i_BadShare_NoText,xf_i_BadShare_TooMany,xf_i_BadShare_Unknown,xf_i_BadShare_Used,xf_i_BadShare_ValueError,xf_i_Early_BadAsked,xf_i_Early_BadBerths,xf_i_Early_BadName,xf_i_Early_BadRow,xf_i_Early_BadShare,xf_i_Early_Early,xf_i_Early_Known,xf_i_Early_NoBack,xf_i_Early_NoDeed,xf_i_Early_NoLine,xf_i_Early_NoRoom,xf_i_Early_NoRow,xf_i_Early_NoText,xf_i_Early_TooMany,xf_i_Early_Unknown,xf_i_Early_Used,xf_i_Early_ValueError,xf_i_Known_BadAsked,xf_i_Known_BadBerths,xf_i_Known_BadName,xf_i_Known_BadRow,xf_i_Known_BadShare,xf_i_Known_Early,xf_i_Known_Known,xf_i_Known_NoBack,xf_i_Known_NoDeed,xf_i_Known_NoLine,xf_i_Known_NoRoom,xf_i_Known_NoRow,xf_i_Known_NoText,xf_i_Known_TooMany,xf_i_Known_Unknown,xf_i_Known_Used,xf_i_Known_ValueError,xf_i_NoBack_BadAsked,xf_i_NoBack_BadBerths,xf_i_NoBack_BadName,xf_i_NoBack_BadRow,xf_i_NoBack_BadShare,xf_i_NoBack_Early,xf_i_NoBack_Known,xf_i_NoBack_NoBack,xf_i_NoBack_NoDeed,xf_i_NoBack_NoLine,xf_i_NoBack_NoRoom,xf_i_NoBack_NoRow,xf_i_NoBack_NoText,xf_i_NoBack_TooMany,xf_i_NoBack_Unknown,xf_i_NoBack_Used,xf_i_NoBack_ValueError,xf_i_NoDeed_BadAsked,xf_i_NoDeed_BadBerths,xf_i_NoDeed_BadName,xf_i_NoDeed_BadRow,xf_i_NoDeed_BadShare,xf_i_NoDeed_Early,xf_i_NoDeed_Known,xf_i_NoDeed_NoBack,xf_i_NoDeed_NoDeed,xf_i_NoDeed_NoLine,xf_i_NoDeed_NoRoom,xf_i_NoDeed_NoRow,xf_i_NoDeed_NoText,xf_i_NoDeed_TooMany,xf_i_NoDeed_Unknown,xf_i_NoDeed_Used,xf_i_NoDeed_ValueError,xf_i_NoLine_BadAsked,xf_i_NoLine_BadBerths,xf_i_NoLine_BadName,xf_i_NoLine_BadRow,xf_i_NoLine_BadShare,xf_i_NoLine_Early,xf_i_NoLine_Known,xf_i_NoLine_NoBack,xf_i_NoLine_NoDeed,xf_i_NoLine_NoLine,xf_i_NoLine_NoRoom,xf_i_NoLine_NoRow,xf_i_NoLine_NoText,xf_i_NoLine_TooMany,xf_i_NoLine_Unknown,xf_i_NoLine_Used,xf_i_NoLine_ValueError,xf_i_NoRoom_BadAsked,xf_i_NoRoom_BadBerths,xf_i_NoRoom_BadName,xf_i_NoRoom_BadRow,xf_i_NoRoom_BadShare,xf_i_NoRoom_Early,xf_i_NoRoom_Known,xf_i_NoRoom_NoBack,xf_i_NoRoom_NoDeed,xf_i_NoRoom_NoLine,xf_i_NoRoom_NoRoom,xf_i_NoRoom_NoRow,xf_i_NoRoom_NoText,xf_i_NoRoom_TooMany,xf_i_NoRoom_Unknown,xf_i_NoRoom_Used,xf_i_NoRoom_ValueError,xf_i_NoRow_BadAsked,xf_i_NoRow_BadBerths,xf_i_NoRow_BadName,xf_i_NoRow_BadRow,xf_i_NoRow_BadShare,xf_i_NoRow_Early,xf_i_NoRow_Known,xf_i_NoRow_NoBack,xf_i_NoRow_NoDeed,xf_i_NoRow_NoLine,xf_i_NoRow_NoRoom,xf_i_NoRow_NoRow,xf_i_NoRow_NoText,xf_i_NoRow_TooMany,xf_i_NoRow_Unknown,xf_i_NoRow_Used,xf_i_NoRow_ValueError,xf_i_NoText_BadAsked,xf_i_NoText_BadBerths,xf_i_NoText_BadName,xf_i_NoText_BadRow,xf_i_NoText_BadShare,xf_i_NoText_Early,xf_i_NoText_Known,xf_i_NoText_NoBack,xf_i_NoText_NoDeed,xf_i_NoText_NoLine,xf_i_NoText_NoRoom,xf_i_NoText_NoRow,xf_i_NoText_NoText,xf_i_NoText_TooMany,xf_i_NoText_Unknown,xf_i_NoText_Used,xf_i_NoText_ValueError,xf_i_PlaceError_BadAsked,xf_i_PlaceError_BadBerths,xf_i_PlaceError_BadName,xf_i_PlaceError_BadRow,xf_i_PlaceError_BadShare,xf_i_PlaceError_Early,xf_i_PlaceError_Known,xf_i_PlaceError_NoBack,xf_i_PlaceError_NoDeed,xf_i_PlaceError_NoLine,xf_i_PlaceError_NoRoom,xf_i_PlaceError_NoRow,xf_i_PlaceError_NoText,xf_i_PlaceError_TooMany,xf_i_PlaceError_Unknown,xf_i_PlaceError_Used,xf_i_PlaceError_ValueError,xf_i_TooMany_BadAsked,xf_i_TooMany_BadBerths,xf_i_TooMany_BadName,xf_i_TooMany_BadRow,xf_i_TooMany_BadShare,xf_i_TooMany_Early,xf_i_TooMany_Known,xf_i_TooMany_NoBack,xf_i_TooMany_NoDeed,xf_i_TooMany_NoLine,xf_i_TooMany_NoRoom,xf_i_TooMany_NoRow,xf_i_TooMany_NoText,xf_i_TooMany_TooMany,xf_i_TooMany_Unknown,xf_i_TooMany_Used,xf_i_TooMany_ValueError,xf_i_Unknown_BadAsked,xf_i_Unknown_BadBerths,xf_i_Unknown_BadName,xf_i_Unknown_BadRow,xf_i_Unknown_BadShare,xf_i_Unknown_Early,xf_i_Unknown_Known,xf_i_Unknown_NoBack,xf_i_Unknown_NoDeed,xf_i_Unknown_NoLine,xf_i_Unknown_NoRoom,xf_i_Unknown_NoRow,xf_i_Unknown_NoText,xf_i_Unknown_TooMany,xf_i_Unknown_Unknown,xf_i_Unknown_Used,xf_i_Unknown_ValueError,xf_i_Used_BadAsked,xf_i_Used_BadBerths,xf_i_Used_BadName,xf_i_Used_BadRow,xf_i_Used_BadShare,xf_i_Used_Early,xf_i_Used_Known,xf_i_Used_NoBack,xf_i_Used_NoDeed,xf_i_Used_NoLine,xf_i_Used_NoRoom,xf_i_Used_NoRow,xf_i_Used_NoText,xf_i_Used_TooMany,xf_i_Used_Unknown,xf_i_Used_Used,xf_i_Used_ValueError,xf_xk_NoBack,xf_xk_NoDeed,xf_xk_NoLine,xf_xk_NoText,xf_xk_PlaceError,xf_xn_NoBack,xf_xn_NoDeed,xf_xn_NoLine,xf_xn_NoText,xf_xn_PlaceError,xf_xt_NoBack,xf_xt_NoDeed,xf_xt_NoLine,xf_xt_NoText,xf_xt_PlaceError,n_BadAsked_at,n_BadBerths_at,n_BadName_at,n_BadRow_at,n_BadShare_at,n_Early_until,n_Known_name,n_NoRoom_demanded,n_NoRoom_first,n_NoRoom_room,n_NoRow_at,n_TooMany_most,n_Unknown_name,n_Used_name,PySem.W.mg_none_of X G b_ValueError,PySem.W.mg_none_of X G b_abs,PySem.W.mg_none_of X G b_int,PySem.W.mg_none_of X G b_isinstance,PySem.W.mg_none_of X G b_len,PySem.W.mg_none_of X G b_range,PySem.W.mg_none_of X G b_repr⟩
 have G_l_bag:Fn K mg "_law_bag" s_l_bag ["_law_script"] _ _:=fn_mk X G a_l_bag l_l_bag c_l_bag k_l_bag (λ _ _ _ _ _ _ us hl=>by obtain ⟨_,rfl⟩:=D.len_1 hl; rfl)
 have G_l_take:Fn K mg "_law_take" s_l_take ["_law_bag_here", "_law_many"] _ _:=fn_mk X G a_l_take l_l_take c_l_take k_l_take (λ _ _ _ _ _ _ us hl=>by obtain ⟨_,_,rfl⟩:=D.len_2 hl; rfl)
 have G_l_thing:Fn K mg "_law_thing" s_l_thing ["_law_bag_here"] _ _:=fn_mk X G a_l_thing l_l_thing c_l_thing k_l_thing (λ _ _ _ _ _ _ us hl=>by obtain ⟨_,rfl⟩:=D.len_1 hl; rfl)
 have G_NoRow_init:Xi K C_NoRow "NoRow.__init__" s_NoRow_init ["self", "at"] _ _:=xi_mk E.x_NoRow a_NoRow_init i_NoRow_init l_NoRow_init c_NoRow_init k_NoRow_init xm_NoRow_init xt_NoRow_init xk_NoRow_init (λ _ _ _ _ _ _ us hl=>by obtain ⟨_,_,rfl⟩:=D.len_2 hl; rfl)
 have G_BadName_init:Xi K C_BadName "BadName.__init__" s_BadName_init ["self", "at"] _ _:=xi_mk E.x_BadName a_BadName_init i_BadName_init l_BadName_init c_BadName_init k_BadName_init xm_BadName_init xt_BadName_init xk_BadName_init (λ _ _ _ _ _ _ us hl=>by obtain ⟨_,_,rfl⟩:=D.len_2 hl; rfl)
 have G_BadBerths_init:Xi K C_BadBerths "BadBerths.__init__" s_BadBerths_init ["self", "at"] _ _:=xi_mk E.x_BadBerths a_BadBerths_init i_BadBerths_init l_BadBerths_init c_BadBerths_init k_BadBerths_init xm_BadBerths_init xt_BadBerths_init xk_BadBerths_init (λ _ _ _ _ _ _ us hl=>by obtain ⟨_,_,rfl⟩:=D.len_2 hl; rfl)
 have G_BadAsked_init:Xi K C_BadAsked "BadAsked.__init__" s_BadAsked_init ["self", "at"] _ _:=xi_mk E.x_BadAsked a_BadAsked_init i_BadAsked_init l_BadAsked_init c_BadAsked_init k_BadAsked_init xm_BadAsked_init xt_BadAsked_init xk_BadAsked_init (λ _ _ _ _ _ _ us hl=>by obtain ⟨_,_,rfl⟩:=D.len_2 hl; rfl)
 have G_BadShare_init:Xi K C_BadShare "BadShare.__init__" s_BadShare_init ["self", "at"] _ _:=xi_mk E.x_BadShare a_BadShare_init i_BadShare_init l_BadShare_init c_BadShare_init k_BadShare_init xm_BadShare_init xt_BadShare_init xk_BadShare_init (λ _ _ _ _ _ _ us hl=>by obtain ⟨_,_,rfl⟩:=D.len_2 hl; rfl)
 have G_BadRow_init:Xi K C_BadRow "BadRow.__init__" s_BadRow_init ["self", "at"] _ _:=xi_mk E.x_BadRow a_BadRow_init i_BadRow_init l_BadRow_init c_BadRow_init k_BadRow_init xm_BadRow_init xt_BadRow_init xk_BadRow_init (λ _ _ _ _ _ _ us hl=>by obtain ⟨_,_,rfl⟩:=D.len_2 hl; rfl)
 have G_Unknown_init:Xi K C_Unknown "Unknown.__init__" s_Unknown_init ["self", "name"] _ _:=xi_mk E.x_Unknown a_Unknown_init i_Unknown_init l_Unknown_init c_Unknown_init k_Unknown_init xm_Unknown_init xt_Unknown_init xk_Unknown_init (λ _ _ _ _ _ _ us hl=>by obtain ⟨_,_,rfl⟩:=D.len_2 hl; rfl)
 have G_Known_init:Xi K C_Known "Known.__init__" s_Known_init ["self", "name"] _ _:=xi_mk E.x_Known a_Known_init i_Known_init l_Known_init c_Known_init k_Known_init xm_Known_init xt_Known_init xk_Known_init (λ _ _ _ _ _ _ us hl=>by obtain ⟨_,_,rfl⟩:=D.len_2 hl; rfl)
 have G_Used_init:Xi K C_Used "Used.__init__" s_Used_init ["self", "name"] _ _:=xi_mk E.x_Used a_Used_init i_Used_init l_Used_init c_Used_init k_Used_init xm_Used_init xt_Used_init xk_Used_init (λ _ _ _ _ _ _ us hl=>by obtain ⟨_,_,rfl⟩:=D.len_2 hl; rfl)
 have G_TooMany_init:Xi K C_TooMany "TooMany.__init__" s_TooMany_init ["self", "most"] _ _:=xi_mk E.x_TooMany a_TooMany_init i_TooMany_init l_TooMany_init c_TooMany_init k_TooMany_init xm_TooMany_init xt_TooMany_init xk_TooMany_init (λ _ _ _ _ _ _ us hl=>by obtain ⟨_,_,rfl⟩:=D.len_2 hl; rfl)
 have G_Early_init:Xi K C_Early "Early.__init__" s_Early_init ["self", "until"] _ _:=xi_mk E.x_Early a_Early_init i_Early_init l_Early_init c_Early_init k_Early_init xm_Early_init xt_Early_init xk_Early_init (λ _ _ _ _ _ _ us hl=>by obtain ⟨_,_,rfl⟩:=D.len_2 hl; rfl)
 have G_NoRoom_init:Xi K C_NoRoom "NoRoom.__init__" s_NoRoom_init ["self", "first", "demanded", "room"] _ _:=xi_mk E.x_NoRoom a_NoRoom_init i_NoRoom_init l_NoRoom_init c_NoRoom_init k_NoRoom_init xm_NoRoom_init xt_NoRoom_init xk_NoRoom_init (λ _ _ _ _ _ _ us hl=>by obtain ⟨_,_,_,_,rfl⟩:=D.len_4 hl; rfl)
 have G_l_raised:Fn K mg "_law_raised" s_l_raised ["_law_k", "_law_thing_here", "_law_word"] _ _:=fn_mk X G a_l_raised l_l_raised c_l_raised k_l_raised (λ _ _ _ _ _ _ us hl=>by obtain ⟨_,_,_,rfl⟩:=D.len_3 hl; rfl)
 have G_l_kinds:Fn K mg "_law_kinds" s_l_kinds ["_law_e"] _ _:=fn_mk X G a_l_kinds l_l_kinds c_l_kinds k_l_kinds (λ _ _ _ _ _ _ us hl=>by obtain ⟨_,rfl⟩:=D.len_1 hl; rfl)
 have G_l_caught:Fn K mg "_law_caught" s_l_caught ["_law_k", "_law_thing_here", "_law_word"] _ _:=fn_mk X G a_l_caught l_l_caught c_l_caught k_l_caught (λ _ _ _ _ _ _ us hl=>by obtain ⟨_,_,_,rfl⟩:=D.len_3 hl; rfl)
 have G_l_at:Fn K mg "_law_at" s_l_at ["_law_k", "_law_thing_here", "_law_word"] _ _:=fn_mk X G a_l_at l_l_at c_l_at k_l_at (λ _ _ _ _ _ _ us hl=>by obtain ⟨_,_,_,rfl⟩:=D.len_3 hl; rfl)
 have G_l_else:Fn K mg "_law_else" s_l_else ["_law_k", "_law_thing_here", "_law_word"] _ _:=fn_mk X G a_l_else l_l_else c_l_else k_l_else (λ _ _ _ _ _ _ us hl=>by obtain ⟨_,_,_,rfl⟩:=D.len_3 hl; rfl)
 have G_l_any:Fn K mg "_law_any" s_l_any [] _ _:=fn_mk X G a_l_any l_l_any c_l_any k_l_any (λ _ _ _ _ _ _ us hl=>by obtain rfl:=D.len_0 hl; rfl)
 have G_law:Fn K mg "law" s_law ["_law_script"] _ _:=fn_mk X G a_law l_law c_law k_law (λ _ _ _ _ _ _ us hl=>by obtain ⟨_,rfl⟩:=D.len_1 hl; rfl)
 refine ⟨PySem.W.fnOf "law" "law" (defArgs s_law) (defBody s_law) (defScope s_law) .none kV_law dc_law pm_law an_law cd_law ct_law,λ s v=>.of_eq rfl,λ base _ _=>?_⟩
 have O_l_bag:=ok_l_bag (P:=l.prog) (w:=w) (base:=base) E G_l_bag
 have O_l_take:=ok_l_take (P:=l.prog) (w:=w) (base:=base) E G_l_take
 have O_l_thing:=ok_l_thing (P:=l.prog) (w:=w) (base:=base) E G_l_thing G_l_take O_l_take
 have O_NoRow_init:=ok_NoRow_init (P:=l.prog) (w:=w) (base:=base) E G_NoRow_init
 have O_BadName_init:=ok_BadName_init (P:=l.prog) (w:=w) (base:=base) E G_BadName_init
 have O_BadBerths_init:=ok_BadBerths_init (P:=l.prog) (w:=w) (base:=base) E G_BadBerths_init
 have O_BadAsked_init:=ok_BadAsked_init (P:=l.prog) (w:=w) (base:=base) E G_BadAsked_init
 have O_BadShare_init:=ok_BadShare_init (P:=l.prog) (w:=w) (base:=base) E G_BadShare_init
 have O_BadRow_init:=ok_BadRow_init (P:=l.prog) (w:=w) (base:=base) E G_BadRow_init
 have O_Unknown_init:=ok_Unknown_init (P:=l.prog) (w:=w) (base:=base) E G_Unknown_init
 have O_Known_init:=ok_Known_init (P:=l.prog) (w:=w) (base:=base) E G_Known_init
 have O_Used_init:=ok_Used_init (P:=l.prog) (w:=w) (base:=base) E G_Used_init
 have O_TooMany_init:=ok_TooMany_init (P:=l.prog) (w:=w) (base:=base) E G_TooMany_init
 have O_Early_init:=ok_Early_init (P:=l.prog) (w:=w) (base:=base) E G_Early_init
 have O_NoRoom_init:=ok_NoRoom_init (P:=l.prog) (w:=w) (base:=base) E G_NoRoom_init
 have O_l_raised:=ok_l_raised (P:=l.prog) (w:=w) (base:=base) E G_l_raised G_NoRow_init O_NoRow_init G_BadName_init O_BadName_init G_BadBerths_init O_BadBerths_init G_BadAsked_init O_BadAsked_init G_BadShare_init O_BadShare_init G_BadRow_init O_BadRow_init G_Unknown_init O_Unknown_init G_Known_init O_Known_init G_Used_init O_Used_init G_TooMany_init O_TooMany_init G_Early_init O_Early_init G_NoRoom_init O_NoRoom_init
 have O_l_kinds:=ok_l_kinds (P:=l.prog) (w:=w) (base:=base) E G_l_kinds
 have O_l_caught:=ok_l_caught (P:=l.prog) (w:=w) (base:=base) E G_l_caught G_l_raised O_l_raised G_l_kinds O_l_kinds
 have O_l_at:=ok_l_at (P:=l.prog) (w:=w) (base:=base) E G_l_at G_l_raised O_l_raised
 have O_l_else:=ok_l_else (P:=l.prog) (w:=w) (base:=base) E G_l_else G_l_raised O_l_raised
 have O_l_any:=ok_l_any (P:=l.prog) (w:=w) (base:=base) E G_l_any G_l_kinds O_l_kinds
 have O_law:=ok_law (P:=l.prog) (w:=w) (base:=base) E G_law G_l_bag O_l_bag G_l_thing O_l_thing G_l_take O_l_take G_l_caught O_l_caught G_l_at O_l_at G_l_else O_l_else G_l_any O_l_any
 exact O_law
end
theorem walk {l:PySem.W.OpenLaw}{q:Program}{loose:List Str}{XP:(Str->Option Value)->Heap->Prop}{YP:World->Heap->Prop}{d:DefRec}{K:Params->PySem.W.Frag}(hq:PyProof.Rows.importsNone q=true)(hn:l.most=some 63)(hdf:d.params.defaults=[])
  (hY:∀ (w:World) (h:Heap),YP w h->(K w.params).In h)
  (F:∀ (w:World) (mg:Str->Option Value) (fa:Addr) (h:Heap),(K w.params).In h->h.Ns mainGlobals mg->mg d.name=some (.ref fa) ->
   ∃ fd:FuncData,(∀ (s:Shared) (u:Value),BindsTo s fd ⟨[u],[]⟩ [("_law_script",u)])/\∀ base:Heap,(K w.params).In base->base.Ns mainGlobals mg->FnOk l.prog w (K w.params) mg base CX0 5 fa fd ["_law_script"] (upSp (K w.params) sp_law)) :
  PySem.W.WalkO q loose XP YP l.row.toRowW d [] (λ f vs=>PySem.call f vs) :=
 L2.walk_of (n:=63) (k:=5) (x := "_law_script") (CX:=λ _=>CX0) (sp:=λ w=>upSp (K w.params) sp_law) hq hn (by decide) hdf ⟨rfl,rfl,by decide,by decide⟩ hY F (λ _ H a ns hl hO hS=>D.law_start hl hO hS law_read) λ _ _ _ _ _ z=>z
end K17
namespace PySem.W.Fast
def tw14614246224457965887:=0
def tw9823719160121703070:=0
def tw10463036524168737246:=0
def tw13512994087181281564:=0
def tw12145075425738072793:=0
def tw14944228897657245111:=0
def tw12583645425367388724:=0
def tw11995396718622184500:=0
def tw11053396392199091251:=0
def tw15421172210505797138:=0
def tw18041746716010405170:=0
def tw7541450310181290513:=0
def tw11666819622478029136:=0
def tw15195238285029929072:=0
def tw4410482498591292494:=0
def tw16711643714910542444:=0
def tw5397191540063848875:=0
def tw17988171156051066219:=0
def tw7838049795139295114:=0
def tw16600162962320090409:=0
def tw10154702252637716168:=0
def tw17944758859675246182:=0
def tw12661607201346208837:=0
def tw12719607541951823031:=0
end PySem.W.Fast
open PySem PySem.W PyProof.Rows
set_option maxRecDepth 100000 in
theorem PySem.Challenge.cw_placedworks_k17_refusals_apart_holds : PySem.Challenge.rw_placedworks_k17_refusals_apart.Holds := by
 w_on; o_law; k_head; (case hw=>w_witness2)
 k_fill
 refine K17.walk (l:=PySem.Challenge.rw_placedworks_k17_refusals_apart) ?Q rfl rfl (λ w h Y=>PySem.W.kIn_of Y) ?F
 case Q=>kernel_rfl
 case F =>
  intro w mg fa h KX G hmg
  refine' K17.all_mk KX G hmg ?a_l_bag ?l_l_bag ?c_l_bag ?k_l_bag ?a_l_take ?l_l_take ?c_l_take ?k_l_take ?a_l_thing ?l_l_thing ?c_l_thing ?k_l_thing ?a_NoRow_init ?i_NoRow_init ?l_NoRow_init ?c_NoRow_init ?k_NoRow_init ?xm_NoRow_init ?xt_NoRow_init ?xk_NoRow_init ?a_BadName_init ?i_BadName_init ?l_BadName_init ?c_BadName_init ?k_BadName_init ?xm_BadName_init ?xt_BadName_init ?xk_BadName_init ?a_BadBerths_init ?i_BadBerths_init ?l_BadBerths_init ?c_BadBerths_init ?k_BadBerths_init ?xm_BadBerths_init ?xt_BadBerths_init ?xk_BadBerths_init ?a_BadAsked_init ?i_BadAsked_init ?l_BadAsked_init ?c_BadAsked_init ?k_BadAsked_init ?xm_BadAsked_init ?xt_BadAsked_init ?xk_BadAsked_init ?a_BadShare_init ?i_BadShare_init ?l_BadShare_init ?c_BadShare_init ?k_BadShare_init ?xm_BadShare_init ?xt_BadShare_init ?xk_BadShare_init ?a_BadRow_init ?i_BadRow_init ?l_BadRow_init ?c_BadRow_init ?k_BadRow_init ?xm_BadRow_init ?xt_BadRow_init ?xk_BadRow_init ?a_Unknown_init ?i_Unknown_init ?l_Unknown_init ?c_Unknown_init ?k_Unknown_init ?xm_Unknown_init ?xt_Unknown_init ?xk_Unknown_init ?a_Known_init ?i_Known_init ?l_Known_init ?c_Known_init ?k_Known_init ?xm_Known_init ?xt_Known_init ?xk_Known_init ?a_Used_init ?i_Used_init ?l_Used_init ?c_Used_init ?k_Used_init ?xm_Used_init ?xt_Used_init ?xk_Used_init ?a_TooMany_init ?i_TooMany_init ?l_TooMany_init ?c_TooMany_init ?k_TooMany_init ?xm_TooMany_init ?xt_TooMany_init ?xk_TooMany_init ?a_Early_init ?i_Early_init ?l_Early_init ?c_Early_init ?k_Early_init ?xm_Early_init ?xt_Early_init ?xk_Early_init ?a_NoRoom_init ?i_NoRoom_init ?l_NoRoom_init ?c_NoRoom_init ?k_NoRoom_init ?xm_NoRoom_init ?xt_NoRoom_init ?xk_NoRoom_init ?a_l_raised ?l_l_raised ?c_l_raised ?k_l_raised ?a_l_kinds ?l_l_kinds ?c_l_kinds ?k_l_kinds ?a_l_caught ?l_l_caught ?c_l_caught ?k_l_caught ?a_l_at ?l_l_at ?c_l_at ?k_l_at ?a_l_else ?l_l_else ?c_l_else ?k_l_else ?a_l_any ?l_l_any ?c_l_any ?k_l_any ?a_law ?l_law ?c_law ?k_law ?xg_BadAsked ?xg_BadBerths ?xg_BadName ?xg_BadRow ?xg_BadShare ?xg_Early ?xg_Known ?xg_NoBack ?xg_NoDeed ?xg_NoLine ?xg_NoRoom ?xg_NoRow ?xg_NoText ?xg_PlaceError ?xg_TooMany ?xg_Unknown ?xg_Used ?xg1 ?xg2 ?x1_BadAsked ?x2_BadAsked ?x3_BadAsked ?x4_BadAsked ?x5_BadAsked ?x1_BadBerths ?x2_BadBerths ?x3_BadBerths ?x4_BadBerths ?x5_BadBerths ?x1_BadName ?x2_BadName ?x3_BadName ?x4_BadName ?x5_BadName ?x1_BadRow ?x2_BadRow ?x3_BadRow ?x4_BadRow ?x5_BadRow ?x1_BadShare ?x2_BadShare ?x3_BadShare ?x4_BadShare ?x5_BadShare ?x1_Early ?x2_Early ?x3_Early ?x4_Early ?x5_Early ?x1_Known ?x2_Known ?x3_Known ?x4_Known ?x5_Known ?x1_NoBack ?x2_NoBack ?x3_NoBack ?x4_NoBack ?x5_NoBack ?x1_NoDeed ?x2_NoDeed ?x3_NoDeed ?x4_NoDeed ?x5_NoDeed ?x1_NoLine ?x2_NoLine ?x3_NoLine ?x4_NoLine ?x5_NoLine ?x1_NoRoom ?x2_NoRoom ?x3_NoRoom ?x4_NoRoom ?x5_NoRoom ?x1_NoRow ?x2_NoRow ?x3_NoRow ?x4_NoRow ?x5_NoRow ?x1_NoText ?x2_NoText ?x3_NoText ?x4_NoText ?x5_NoText ?x1_PlaceError ?x2_PlaceError ?x3_PlaceError ?x4_PlaceError ?x5_PlaceError ?x1_TooMany ?x2_TooMany ?x3_TooMany ?x4_TooMany ?x5_TooMany ?x1_Unknown ?x2_Unknown ?x3_Unknown ?x4_Unknown ?x5_Unknown ?x1_Used ?x2_Used ?x3_Used ?x4_Used ?x5_Used ?xf_e_BadAsked_BadAsked ?xf_e_BadAsked_BadBerths ?xf_e_BadAsked_BadName ?xf_e_BadAsked_BadRow ?xf_e_BadAsked_BadShare ?xf_e_BadAsked_Early ?xf_e_BadAsked_Known ?xf_e_BadAsked_NoRoom ?xf_e_BadAsked_NoRow ?xf_e_BadAsked_PlaceError ?xf_e_BadAsked_TooMany ?xf_e_BadAsked_Unknown ?xf_e_BadAsked_Used ?xf_e_BadBerths_BadAsked ?xf_e_BadBerths_BadBerths ?xf_e_BadBerths_BadName ?xf_e_BadBerths_BadRow ?xf_e_BadBerths_BadShare ?xf_e_BadBerths_Early ?xf_e_BadBerths_Known ?xf_e_BadBerths_NoRoom ?xf_e_BadBerths_NoRow ?xf_e_BadBerths_PlaceError ?xf_e_BadBerths_TooMany ?xf_e_BadBerths_Unknown ?xf_e_BadBerths_Used ?xf_e_BadName_BadAsked ?xf_e_BadName_BadBerths ?xf_e_BadName_BadName ?xf_e_BadName_BadRow ?xf_e_BadName_BadShare ?xf_e_BadName_Early ?xf_e_BadName_Known ?xf_e_BadName_NoRoom ?xf_e_BadName_NoRow ?xf_e_BadName_PlaceError ?xf_e_BadName_TooMany ?xf_e_BadName_Unknown ?xf_e_BadName_Used ?xf_e_BadRow_BadAsked ?xf_e_BadRow_BadBerths ?xf_e_BadRow_BadName ?xf_e_BadRow_BadRow ?xf_e_BadRow_BadShare ?xf_e_BadRow_Early ?xf_e_BadRow_Known ?xf_e_BadRow_NoRoom ?xf_e_BadRow_NoRow ?xf_e_BadRow_PlaceError ?xf_e_BadRow_TooMany ?xf_e_BadRow_Unknown ?xf_e_BadRow_Used ?xf_e_BadShare_BadAsked ?xf_e_BadShare_BadBerths ?xf_e_BadShare_BadName ?xf_e_BadShare_BadRow ?xf_e_BadShare_BadShare ?xf_e_BadShare_Early ?xf_e_BadShare_Known ?xf_e_BadShare_NoRoom ?xf_e_BadShare_NoRow ?xf_e_BadShare_PlaceError ?xf_e_BadShare_TooMany ?xf_e_BadShare_Unknown ?xf_e_BadShare_Used ?xf_e_Early_BadAsked ?xf_e_Early_BadBerths ?xf_e_Early_BadName ?xf_e_Early_BadRow ?xf_e_Early_BadShare ?xf_e_Early_Early ?xf_e_Early_Known ?xf_e_Early_NoRoom ?xf_e_Early_NoRow ?xf_e_Early_PlaceError ?xf_e_Early_TooMany ?xf_e_Early_Unknown ?xf_e_Early_Used ?xf_e_Known_BadAsked ?xf_e_Known_BadBerths ?xf_e_Known_BadName ?xf_e_Known_BadRow ?xf_e_Known_BadShare ?xf_e_Known_Early ?xf_e_Known_Known ?xf_e_Known_NoRoom ?xf_e_Known_NoRow ?xf_e_Known_PlaceError ?xf_e_Known_TooMany ?xf_e_Known_Unknown ?xf_e_Known_Used ?xf_e_NoBack_BadAsked ?xf_e_NoBack_BadBerths ?xf_e_NoBack_BadName ?xf_e_NoBack_BadRow ?xf_e_NoBack_BadShare ?xf_e_NoBack_Early ?xf_e_NoBack_Known ?xf_e_NoBack_NoRoom ?xf_e_NoBack_NoRow ?xf_e_NoBack_PlaceError ?xf_e_NoBack_TooMany ?xf_e_NoBack_Unknown ?xf_e_NoBack_Used ?xf_e_NoDeed_BadAsked ?xf_e_NoDeed_BadBerths ?xf_e_NoDeed_BadName ?xf_e_NoDeed_BadRow ?xf_e_NoDeed_BadShare ?xf_e_NoDeed_Early ?xf_e_NoDeed_Known ?xf_e_NoDeed_NoRoom ?xf_e_NoDeed_NoRow ?xf_e_NoDeed_PlaceError ?xf_e_NoDeed_TooMany ?xf_e_NoDeed_Unknown ?xf_e_NoDeed_Used ?xf_e_NoLine_BadAsked ?xf_e_NoLine_BadBerths ?xf_e_NoLine_BadName ?xf_e_NoLine_BadRow ?xf_e_NoLine_BadShare ?xf_e_NoLine_Early ?xf_e_NoLine_Known ?xf_e_NoLine_NoRoom ?xf_e_NoLine_NoRow ?xf_e_NoLine_PlaceError ?xf_e_NoLine_TooMany ?xf_e_NoLine_Unknown ?xf_e_NoLine_Used ?xf_e_NoRoom_BadAsked ?xf_e_NoRoom_BadBerths ?xf_e_NoRoom_BadName ?xf_e_NoRoom_BadRow ?xf_e_NoRoom_BadShare ?xf_e_NoRoom_Early ?xf_e_NoRoom_Known ?xf_e_NoRoom_NoRoom ?xf_e_NoRoom_NoRow ?xf_e_NoRoom_PlaceError ?xf_e_NoRoom_TooMany ?xf_e_NoRoom_Unknown ?xf_e_NoRoom_Used ?xf_e_NoRow_BadAsked ?xf_e_NoRow_BadBerths ?xf_e_NoRow_BadName ?xf_e_NoRow_BadRow ?xf_e_NoRow_BadShare ?xf_e_NoRow_Early ?xf_e_NoRow_Known ?xf_e_NoRow_NoRoom ?xf_e_NoRow_NoRow ?xf_e_NoRow_PlaceError ?xf_e_NoRow_TooMany ?xf_e_NoRow_Unknown ?xf_e_NoRow_Used ?xf_e_NoText_BadAsked ?xf_e_NoText_BadBerths ?xf_e_NoText_BadName ?xf_e_NoText_BadRow ?xf_e_NoText_BadShare ?xf_e_NoText_Early ?xf_e_NoText_Known ?xf_e_NoText_NoRoom ?xf_e_NoText_NoRow ?xf_e_NoText_PlaceError ?xf_e_NoText_TooMany ?xf_e_NoText_Unknown ?xf_e_NoText_Used ?xf_e_PlaceError_PlaceError ?xf_e_TooMany_BadAsked ?xf_e_TooMany_BadBerths ?xf_e_TooMany_BadName ?xf_e_TooMany_BadRow ?xf_e_TooMany_BadShare ?xf_e_TooMany_Early ?xf_e_TooMany_Known ?xf_e_TooMany_NoRoom ?xf_e_TooMany_NoRow ?xf_e_TooMany_PlaceError ?xf_e_TooMany_TooMany ?xf_e_TooMany_Unknown ?xf_e_TooMany_Used ?xf_e_Unknown_BadAsked ?xf_e_Unknown_BadBerths ?xf_e_Unknown_BadName ?xf_e_Unknown_BadRow ?xf_e_Unknown_BadShare ?xf_e_Unknown_Early ?xf_e_Unknown_Known ?xf_e_Unknown_NoRoom ?xf_e_Unknown_NoRow ?xf_e_Unknown_PlaceError ?xf_e_Unknown_TooMany ?xf_e_Unknown_Unknown ?xf_e_Unknown_Used ?xf_e_Used_BadAsked ?xf_e_Used_BadBerths ?xf_e_Used_BadName ?xf_e_Used_BadRow ?xf_e_Used_BadShare ?xf_e_Used_Early ?xf_e_Used_Known ?xf_e_Used_NoRoom ?xf_e_Used_NoRow ?xf_e_Used_PlaceError ?xf_e_Used_TooMany ?xf_e_Used_Unknown ?xf_e_Used_Used ?xf_i_BadAsked_BadAsked ?xf_i_BadAsked_BadBerths ?xf_i_BadAsked_BadName ?xf_i_BadAsked_BadRow ?xf_i_BadAsked_BadShare ?xf_i_BadAsked_Early ?xf_i_BadAsked_Known ?xf_i_BadAsked_NoBack ?xf_i_BadAsked_NoDeed ?xf_i_BadAsked_NoLine ?xf_i_BadAsked_NoRoom ?xf_i_BadAsked_NoRow ?xf_i_BadAsked_NoText ?xf_i_BadAsked_TooMany ?xf_i_BadAsked_Unknown ?xf_i_BadAsked_Used ?xf_i_BadAsked_ValueError ?xf_i_BadBerths_BadAsked ?xf_i_BadBerths_BadBerths ?xf_i_BadBerths_BadName ?xf_i_BadBerths_BadRow ?xf_i_BadBerths_BadShare ?xf_i_BadBerths_Early ?xf_i_BadBerths_Known ?xf_i_BadBerths_NoBack ?xf_i_BadBerths_NoDeed ?xf_i_BadBerths_NoLine ?xf_i_BadBerths_NoRoom ?xf_i_BadBerths_NoRow ?xf_i_BadBerths_NoText ?xf_i_BadBerths_TooMany ?xf_i_BadBerths_Unknown ?xf_i_BadBerths_Used ?xf_i_BadBerths_ValueError ?xf_i_BadName_BadAsked ?xf_i_BadName_BadBerths ?xf_i_BadName_BadName ?xf_i_BadName_BadRow ?xf_i_BadName_BadShare ?xf_i_BadName_Early ?xf_i_BadName_Known ?xf_i_BadName_NoBack ?xf_i_BadName_NoDeed ?xf_i_BadName_NoLine ?xf_i_BadName_NoRoom ?xf_i_BadName_NoRow ?xf_i_BadName_NoText ?xf_i_BadName_TooMany ?xf_i_BadName_Unknown ?xf_i_BadName_Used ?xf_i_BadName_ValueError ?xf_i_BadRow_BadAsked ?xf_i_BadRow_BadBerths ?xf_i_BadRow_BadName ?xf_i_BadRow_BadRow ?xf_i_BadRow_BadShare ?xf_i_BadRow_Early ?xf_i_BadRow_Known ?xf_i_BadRow_NoBack ?xf_i_BadRow_NoDeed ?xf_i_BadRow_NoLine ?xf_i_BadRow_NoRoom ?xf_i_BadRow_NoRow ?xf_i_BadRow_NoText ?xf_i_BadRow_TooMany ?xf_i_BadRow_Unknown ?xf_i_BadRow_Used ?xf_i_BadRow_ValueError ?xf_i_BadShare_BadAsked ?xf_i_BadShare_BadBerths ?xf_i_BadShare_BadName ?xf_i_BadShare_BadRow ?xf_i_BadShare_BadShare ?xf_i_BadShare_Early ?xf_i_BadShare_Known ?xf_i_BadShare_NoBack ?xf_i_BadShare_NoDeed ?xf_i_BadShare_NoLine ?xf_i_BadShare_NoRoom ?xf_i_BadShare_NoRow ?xf_i_BadShare_NoText ?xf_i_BadShare_TooMany ?xf_i_BadShare_Unknown ?xf_i_BadShare_Used ?xf_i_BadShare_ValueError ?xf_i_Early_BadAsked ?xf_i_Early_BadBerths ?xf_i_Early_BadName ?xf_i_Early_BadRow ?xf_i_Early_BadShare ?xf_i_Early_Early ?xf_i_Early_Known ?xf_i_Early_NoBack ?xf_i_Early_NoDeed ?xf_i_Early_NoLine ?xf_i_Early_NoRoom ?xf_i_Early_NoRow ?xf_i_Early_NoText ?xf_i_Early_TooMany ?xf_i_Early_Unknown ?xf_i_Early_Used ?xf_i_Early_ValueError ?xf_i_Known_BadAsked ?xf_i_Known_BadBerths ?xf_i_Known_BadName ?xf_i_Known_BadRow ?xf_i_Known_BadShare ?xf_i_Known_Early ?xf_i_Known_Known ?xf_i_Known_NoBack ?xf_i_Known_NoDeed ?xf_i_Known_NoLine ?xf_i_Known_NoRoom ?xf_i_Known_NoRow ?xf_i_Known_NoText ?xf_i_Known_TooMany ?xf_i_Known_Unknown ?xf_i_Known_Used ?xf_i_Known_ValueError ?xf_i_NoBack_BadAsked ?xf_i_NoBack_BadBerths ?xf_i_NoBack_BadName ?xf_i_NoBack_BadRow ?xf_i_NoBack_BadShare ?xf_i_NoBack_Early ?xf_i_NoBack_Known ?xf_i_NoBack_NoBack ?xf_i_NoBack_NoDeed ?xf_i_NoBack_NoLine ?xf_i_NoBack_NoRoom ?xf_i_NoBack_NoRow ?xf_i_NoBack_NoText ?xf_i_NoBack_TooMany ?xf_i_NoBack_Unknown ?xf_i_NoBack_Used ?xf_i_NoBack_ValueError ?xf_i_NoDeed_BadAsked ?xf_i_NoDeed_BadBerths ?xf_i_NoDeed_BadName ?xf_i_NoDeed_BadRow ?xf_i_NoDeed_BadShare ?xf_i_NoDeed_Early ?xf_i_NoDeed_Known ?xf_i_NoDeed_NoBack ?xf_i_NoDeed_NoDeed ?xf_i_NoDeed_NoLine ?xf_i_NoDeed_NoRoom ?xf_i_NoDeed_NoRow ?xf_i_NoDeed_NoText ?xf_i_NoDeed_TooMany ?xf_i_NoDeed_Unknown ?xf_i_NoDeed_Used ?xf_i_NoDeed_ValueError ?xf_i_NoLine_BadAsked ?xf_i_NoLine_BadBerths ?xf_i_NoLine_BadName ?xf_i_NoLine_BadRow ?xf_i_NoLine_BadShare ?xf_i_NoLine_Early ?xf_i_NoLine_Known ?xf_i_NoLine_NoBack ?xf_i_NoLine_NoDeed ?xf_i_NoLine_NoLine ?xf_i_NoLine_NoRoom ?xf_i_NoLine_NoRow ?xf_i_NoLine_NoText ?xf_i_NoLine_TooMany ?xf_i_NoLine_Unknown ?xf_i_NoLine_Used ?xf_i_NoLine_ValueError ?xf_i_NoRoom_BadAsked ?xf_i_NoRoom_BadBerths ?xf_i_NoRoom_BadName ?xf_i_NoRoom_BadRow ?xf_i_NoRoom_BadShare ?xf_i_NoRoom_Early ?xf_i_NoRoom_Known ?xf_i_NoRoom_NoBack ?xf_i_NoRoom_NoDeed ?xf_i_NoRoom_NoLine ?xf_i_NoRoom_NoRoom ?xf_i_NoRoom_NoRow ?xf_i_NoRoom_NoText ?xf_i_NoRoom_TooMany ?xf_i_NoRoom_Unknown ?xf_i_NoRoom_Used ?xf_i_NoRoom_ValueError ?xf_i_NoRow_BadAsked ?xf_i_NoRow_BadBerths ?xf_i_NoRow_BadName ?xf_i_NoRow_BadRow ?xf_i_NoRow_BadShare ?xf_i_NoRow_Early ?xf_i_NoRow_Known ?xf_i_NoRow_NoBack ?xf_i_NoRow_NoDeed ?xf_i_NoRow_NoLine ?xf_i_NoRow_NoRoom ?xf_i_NoRow_NoRow ?xf_i_NoRow_NoText ?xf_i_NoRow_TooMany ?xf_i_NoRow_Unknown ?xf_i_NoRow_Used ?xf_i_NoRow_ValueError ?xf_i_NoText_BadAsked ?xf_i_NoText_BadBerths ?xf_i_NoText_BadName ?xf_i_NoText_BadRow ?xf_i_NoText_BadShare ?xf_i_NoText_Early ?xf_i_NoText_Known ?xf_i_NoText_NoBack ?xf_i_NoText_NoDeed ?xf_i_NoText_NoLine ?xf_i_NoText_NoRoom ?xf_i_NoText_NoRow ?xf_i_NoText_NoText ?xf_i_NoText_TooMany ?xf_i_NoText_Unknown ?xf_i_NoText_Used ?xf_i_NoText_ValueError ?xf_i_PlaceError_BadAsked ?xf_i_PlaceError_BadBerths ?xf_i_PlaceError_BadName ?xf_i_PlaceError_BadRow ?xf_i_PlaceError_BadShare ?xf_i_PlaceError_Early ?xf_i_PlaceError_Known ?xf_i_PlaceError_NoBack ?xf_i_PlaceError_NoDeed ?xf_i_PlaceError_NoLine ?xf_i_PlaceError_NoRoom ?xf_i_PlaceError_NoRow ?xf_i_PlaceError_NoText ?xf_i_PlaceError_TooMany ?xf_i_PlaceError_Unknown ?xf_i_PlaceError_Used ?xf_i_PlaceError_ValueError ?xf_i_TooMany_BadAsked ?xf_i_TooMany_BadBerths ?xf_i_TooMany_BadName ?xf_i_TooMany_BadRow ?xf_i_TooMany_BadShare ?xf_i_TooMany_Early ?xf_i_TooMany_Known ?xf_i_TooMany_NoBack ?xf_i_TooMany_NoDeed ?xf_i_TooMany_NoLine ?xf_i_TooMany_NoRoom ?xf_i_TooMany_NoRow ?xf_i_TooMany_NoText ?xf_i_TooMany_TooMany ?xf_i_TooMany_Unknown ?xf_i_TooMany_Used ?xf_i_TooMany_ValueError ?xf_i_Unknown_BadAsked ?xf_i_Unknown_BadBerths ?xf_i_Unknown_BadName ?xf_i_Unknown_BadRow ?xf_i_Unknown_BadShare ?xf_i_Unknown_Early ?xf_i_Unknown_Known ?xf_i_Unknown_NoBack ?xf_i_Unknown_NoDeed ?xf_i_Unknown_NoLine ?xf_i_Unknown_NoRoom ?xf_i_Unknown_NoRow ?xf_i_Unknown_NoText ?xf_i_Unknown_TooMany ?xf_i_Unknown_Unknown ?xf_i_Unknown_Used ?xf_i_Unknown_ValueError ?xf_i_Used_BadAsked ?xf_i_Used_BadBerths ?xf_i_Used_BadName ?xf_i_Used_BadRow ?xf_i_Used_BadShare ?xf_i_Used_Early ?xf_i_Used_Known ?xf_i_Used_NoBack ?xf_i_Used_NoDeed ?xf_i_Used_NoLine ?xf_i_Used_NoRoom ?xf_i_Used_NoRow ?xf_i_Used_NoText ?xf_i_Used_TooMany ?xf_i_Used_Unknown ?xf_i_Used_Used ?xf_i_Used_ValueError ?xf_xk_NoBack ?xf_xk_NoDeed ?xf_xk_NoLine ?xf_xk_NoText ?xf_xk_PlaceError ?xf_xn_NoBack ?xf_xn_NoDeed ?xf_xn_NoLine ?xf_xn_NoText ?xf_xn_PlaceError ?xf_xt_NoBack ?xf_xt_NoDeed ?xf_xt_NoLine ?xf_xt_NoText ?xf_xt_PlaceError ?n_BadAsked_at ?n_BadBerths_at ?n_BadName_at ?n_BadRow_at ?n_BadShare_at ?n_Early_until ?n_Known_name ?n_NoRoom_demanded ?n_NoRoom_first ?n_NoRoom_room ?n_NoRow_at ?n_TooMany_most ?n_Unknown_name ?n_Used_name ?b_ValueError ?b_abs ?b_int ?b_isinstance ?b_len ?b_range ?b_repr
  (case a_l_bag=>k_is)
  (case l_l_bag=>k_is)
  (case c_l_bag=>k_is)
  (case k_l_bag=>k_is)
  (case a_l_take=>k_is)
  (case l_l_take=>k_is)
  (case c_l_take=>k_is)
  (case k_l_take=>k_is)
  (case a_l_thing=>k_is)
  (case l_l_thing=>k_is)
  (case c_l_thing=>k_is)
  (case k_l_thing=>k_is)
  (case a_NoRow_init=>k_is)
  (case i_NoRow_init=>k_is)
  (case l_NoRow_init=>k_is)
  (case c_NoRow_init=>k_is)
  (case k_NoRow_init=>k_is)
  (case xm_NoRow_init=>kernel_rfl)
  (case xt_NoRow_init=>k_is)
  (case xk_NoRow_init=>k_is)
  (case a_BadName_init=>k_is)
  (case i_BadName_init=>k_is)
  (case l_BadName_init=>k_is)
  (case c_BadName_init=>k_is)
  (case k_BadName_init=>k_is)
  (case xm_BadName_init=>kernel_rfl)
  (case xt_BadName_init=>k_is)
  (case xk_BadName_init=>k_is)
  (case a_BadBerths_init=>k_is)
  (case i_BadBerths_init=>k_is)
  (case l_BadBerths_init=>k_is)
  (case c_BadBerths_init=>k_is)
  (case k_BadBerths_init=>k_is)
  (case xm_BadBerths_init=>kernel_rfl)
  (case xt_BadBerths_init=>k_is)
  (case xk_BadBerths_init=>k_is)
  (case a_BadAsked_init=>k_is)
  (case i_BadAsked_init=>k_is)
  (case l_BadAsked_init=>k_is)
  (case c_BadAsked_init=>k_is)
  (case k_BadAsked_init=>k_is)
  (case xm_BadAsked_init=>kernel_rfl)
  (case xt_BadAsked_init=>k_is)
  (case xk_BadAsked_init=>k_is)
  (case a_BadShare_init=>k_is)
  (case i_BadShare_init=>k_is)
  (case l_BadShare_init=>k_is)
  (case c_BadShare_init=>k_is)
  (case k_BadShare_init=>k_is)
  (case xm_BadShare_init=>kernel_rfl)
  (case xt_BadShare_init=>k_is)
  (case xk_BadShare_init=>k_is)
  (case a_BadRow_init=>k_is)
  (case i_BadRow_init=>k_is)
  (case l_BadRow_init=>k_is)
  (case c_BadRow_init=>k_is)
  (case k_BadRow_init=>k_is)
  (case xm_BadRow_init=>kernel_rfl)
  (case xt_BadRow_init=>k_is)
  (case xk_BadRow_init=>k_is)
  (case a_Unknown_init=>k_is)
  (case i_Unknown_init=>k_is)
  (case l_Unknown_init=>k_is)
  (case c_Unknown_init=>k_is)
  (case k_Unknown_init=>k_is)
  (case xm_Unknown_init=>kernel_rfl)
  (case xt_Unknown_init=>k_is)
  (case xk_Unknown_init=>k_is)
  (case a_Known_init=>k_is)
  (case i_Known_init=>k_is)
  (case l_Known_init=>k_is)
  (case c_Known_init=>k_is)
  (case k_Known_init=>k_is)
  (case xm_Known_init=>kernel_rfl)
  (case xt_Known_init=>k_is)
  (case xk_Known_init=>k_is)
  (case a_Used_init=>k_is)
  (case i_Used_init=>k_is)
  (case l_Used_init=>k_is)
  (case c_Used_init=>k_is)
  (case k_Used_init=>k_is)
  (case xm_Used_init=>kernel_rfl)
  (case xt_Used_init=>k_is)
  (case xk_Used_init=>k_is)
  (case a_TooMany_init=>k_is)
  (case i_TooMany_init=>k_is)
  (case l_TooMany_init=>k_is)
  (case c_TooMany_init=>k_is)
  (case k_TooMany_init=>k_is)
  (case xm_TooMany_init=>kernel_rfl)
  (case xt_TooMany_init=>k_is)
  (case xk_TooMany_init=>k_is)
  (case a_Early_init=>k_is)
  (case i_Early_init=>k_is)
  (case l_Early_init=>k_is)
  (case c_Early_init=>k_is)
  (case k_Early_init=>k_is)
  (case xm_Early_init=>kernel_rfl)
  (case xt_Early_init=>k_is)
  (case xk_Early_init=>k_is)
  (case a_NoRoom_init=>k_is)
  (case i_NoRoom_init=>k_is)
  (case l_NoRoom_init=>k_is)
  (case c_NoRoom_init=>k_is)
  (case k_NoRoom_init=>k_is)
  (case xm_NoRoom_init=>kernel_rfl)
  (case xt_NoRoom_init=>k_is)
  (case xk_NoRoom_init=>k_is)
  (case a_l_raised=>k_is)
  (case l_l_raised=>k_is)
  (case c_l_raised=>k_is)
  (case k_l_raised=>k_is)
  (case a_l_kinds=>k_is)
  (case l_l_kinds=>k_is)
  (case c_l_kinds=>k_is)
  (case k_l_kinds=>k_is)
  (case a_l_caught=>k_is)
  (case l_l_caught=>k_is)
  (case c_l_caught=>k_is)
  (case k_l_caught=>k_is)
  (case a_l_at=>k_is)
  (case l_l_at=>k_is)
  (case c_l_at=>k_is)
  (case k_l_at=>k_is)
  (case a_l_else=>k_is)
  (case l_l_else=>k_is)
  (case c_l_else=>k_is)
  (case k_l_else=>k_is)
  (case a_l_any=>k_is)
  (case l_l_any=>k_is)
  (case c_l_any=>k_is)
  (case k_l_any=>k_is)
  (case a_law=>k_is)
  (case l_law=>k_is)
  (case c_law=>k_is)
  (case k_law=>k_is)
  (case xg_BadAsked=>k_is)
  (case xg_BadBerths=>k_is)
  (case xg_BadName=>k_is)
  (case xg_BadRow=>k_is)
  (case xg_BadShare=>k_is)
  (case xg_Early=>k_is)
  (case xg_Known=>k_is)
  (case xg_NoBack=>k_is)
  (case xg_NoDeed=>k_is)
  (case xg_NoLine=>k_is)
  (case xg_NoRoom=>k_is)
  (case xg_NoRow=>k_is)
  (case xg_NoText=>k_is)
  (case xg_PlaceError=>k_is)
  (case xg_TooMany=>k_is)
  (case xg_Unknown=>k_is)
  (case xg_Used=>k_is)
  (case xg1=>k_is)
  (case xg2=>k_is)
  (case x1_BadAsked=>kernel_rfl)
  (case x2_BadAsked=>k_is)
  (case x3_BadAsked=>k_is)
  (case x4_BadAsked=>k_is)
  (case x5_BadAsked=>k_is)
  (case x1_BadBerths=>kernel_rfl)
  (case x2_BadBerths=>k_is)
  (case x3_BadBerths=>k_is)
  (case x4_BadBerths=>k_is)
  (case x5_BadBerths=>k_is)
  (case x1_BadName=>kernel_rfl)
  (case x2_BadName=>k_is)
  (case x3_BadName=>k_is)
  (case x4_BadName=>k_is)
  (case x5_BadName=>k_is)
  (case x1_BadRow=>kernel_rfl)
  (case x2_BadRow=>k_is)
  (case x3_BadRow=>k_is)
  (case x4_BadRow=>k_is)
  (case x5_BadRow=>k_is)
  (case x1_BadShare=>kernel_rfl)
  (case x2_BadShare=>k_is)
  (case x3_BadShare=>k_is)
  (case x4_BadShare=>k_is)
  (case x5_BadShare=>k_is)
  (case x1_Early=>kernel_rfl)
  (case x2_Early=>k_is)
  (case x3_Early=>k_is)
  (case x4_Early=>k_is)
  (case x5_Early=>k_is)
  (case x1_Known=>kernel_rfl)
  (case x2_Known=>k_is)
  (case x3_Known=>k_is)
  (case x4_Known=>k_is)
  (case x5_Known=>k_is)
  (case x1_NoBack=>kernel_rfl)
  (case x2_NoBack=>k_is)
  (case x3_NoBack=>k_is)
  (case x4_NoBack=>k_is)
  (case x5_NoBack=>k_is)
  (case x1_NoDeed=>kernel_rfl)
  (case x2_NoDeed=>k_is)
  (case x3_NoDeed=>k_is)
  (case x4_NoDeed=>k_is)
  (case x5_NoDeed=>k_is)
  (case x1_NoLine=>kernel_rfl)
  (case x2_NoLine=>k_is)
  (case x3_NoLine=>k_is)
  (case x4_NoLine=>k_is)
  (case x5_NoLine=>k_is)
  (case x1_NoRoom=>kernel_rfl)
  (case x2_NoRoom=>k_is)
  (case x3_NoRoom=>k_is)
  (case x4_NoRoom=>k_is)
  (case x5_NoRoom=>k_is)
  (case x1_NoRow=>kernel_rfl)
  (case x2_NoRow=>k_is)
  (case x3_NoRow=>k_is)
  (case x4_NoRow=>k_is)
  (case x5_NoRow=>k_is)
  (case x1_NoText=>kernel_rfl)
  (case x2_NoText=>k_is)
  (case x3_NoText=>k_is)
  (case x4_NoText=>k_is)
  (case x5_NoText=>k_is)
  (case x1_PlaceError=>kernel_rfl)
  (case x2_PlaceError=>k_is)
  (case x3_PlaceError=>k_is)
  (case x4_PlaceError=>k_is)
  (case x5_PlaceError=>k_is)
  (case x1_TooMany=>kernel_rfl)
  (case x2_TooMany=>k_is)
  (case x3_TooMany=>k_is)
  (case x4_TooMany=>k_is)
  (case x5_TooMany=>k_is)
  (case x1_Unknown=>kernel_rfl)
  (case x2_Unknown=>k_is)
  (case x3_Unknown=>k_is)
  (case x4_Unknown=>k_is)
  (case x5_Unknown=>k_is)
  (case x1_Used=>kernel_rfl)
  (case x2_Used=>k_is)
  (case x3_Used=>k_is)
  (case x4_Used=>k_is)
  (case x5_Used=>k_is)
  (case xf_e_BadAsked_BadAsked=>kernel_rfl)
  (case xf_e_BadAsked_BadBerths=>kernel_rfl)
  (case xf_e_BadAsked_BadName=>kernel_rfl)
  (case xf_e_BadAsked_BadRow=>kernel_rfl)
  (case xf_e_BadAsked_BadShare=>kernel_rfl)
  (case xf_e_BadAsked_Early=>kernel_rfl)
  (case xf_e_BadAsked_Known=>kernel_rfl)
  (case xf_e_BadAsked_NoRoom=>kernel_rfl)
  (case xf_e_BadAsked_NoRow=>kernel_rfl)
  (case xf_e_BadAsked_PlaceError=>kernel_rfl)
  (case xf_e_BadAsked_TooMany=>kernel_rfl)
  (case xf_e_BadAsked_Unknown=>kernel_rfl)
  (case xf_e_BadAsked_Used=>kernel_rfl)
  (case xf_e_BadBerths_BadAsked=>kernel_rfl)
  (case xf_e_BadBerths_BadBerths=>kernel_rfl)
  (case xf_e_BadBerths_BadName=>kernel_rfl)
  (case xf_e_BadBerths_BadRow=>kernel_rfl)
  (case xf_e_BadBerths_BadShare=>kernel_rfl)
  (case xf_e_BadBerths_Early=>kernel_rfl)
  (case xf_e_BadBerths_Known=>kernel_rfl)
  (case xf_e_BadBerths_NoRoom=>kernel_rfl)
  (case xf_e_BadBerths_NoRow=>kernel_rfl)
  (case xf_e_BadBerths_PlaceError=>kernel_rfl)
  (case xf_e_BadBerths_TooMany=>kernel_rfl)
  (case xf_e_BadBerths_Unknown=>kernel_rfl)
  (case xf_e_BadBerths_Used=>kernel_rfl)
  (case xf_e_BadName_BadAsked=>kernel_rfl)
  (case xf_e_BadName_BadBerths=>kernel_rfl)
  (case xf_e_BadName_BadName=>kernel_rfl)
  (case xf_e_BadName_BadRow=>kernel_rfl)
  (case xf_e_BadName_BadShare=>kernel_rfl)
  (case xf_e_BadName_Early=>kernel_rfl)
  (case xf_e_BadName_Known=>kernel_rfl)
  (case xf_e_BadName_NoRoom=>kernel_rfl)
  (case xf_e_BadName_NoRow=>kernel_rfl)
  (case xf_e_BadName_PlaceError=>kernel_rfl)
  (case xf_e_BadName_TooMany=>kernel_rfl)
  (case xf_e_BadName_Unknown=>kernel_rfl)
  (case xf_e_BadName_Used=>kernel_rfl)
  (case xf_e_BadRow_BadAsked=>kernel_rfl)
  (case xf_e_BadRow_BadBerths=>kernel_rfl)
  (case xf_e_BadRow_BadName=>kernel_rfl)
  (case xf_e_BadRow_BadRow=>kernel_rfl)
  (case xf_e_BadRow_BadShare=>kernel_rfl)
  (case xf_e_BadRow_Early=>kernel_rfl)
  (case xf_e_BadRow_Known=>kernel_rfl)
  (case xf_e_BadRow_NoRoom=>kernel_rfl)
  (case xf_e_BadRow_NoRow=>kernel_rfl)
  (case xf_e_BadRow_PlaceError=>kernel_rfl)
  (case xf_e_BadRow_TooMany=>kernel_rfl)
  (case xf_e_BadRow_Unknown=>kernel_rfl)
  (case xf_e_BadRow_Used=>kernel_rfl)
  (case xf_e_BadShare_BadAsked=>kernel_rfl)
  (case xf_e_BadShare_BadBerths=>kernel_rfl)
  (case xf_e_BadShare_BadName=>kernel_rfl)
  (case xf_e_BadShare_BadRow=>kernel_rfl)
  (case xf_e_BadShare_BadShare=>kernel_rfl)
  (case xf_e_BadShare_Early=>kernel_rfl)
  (case xf_e_BadShare_Known=>kernel_rfl)
  (case xf_e_BadShare_NoRoom=>kernel_rfl)
  (case xf_e_BadShare_NoRow=>kernel_rfl)
  (case xf_e_BadShare_PlaceError=>kernel_rfl)
  (case xf_e_BadShare_TooMany=>kernel_rfl)
  (case xf_e_BadShare_Unknown=>kernel_rfl)
  (case xf_e_BadShare_Used=>kernel_rfl)
  (case xf_e_Early_BadAsked=>kernel_rfl)
  (case xf_e_Early_BadBerths=>kernel_rfl)
  (case xf_e_Early_BadName=>kernel_rfl)
  (case xf_e_Early_BadRow=>kernel_rfl)
  (case xf_e_Early_BadShare=>kernel_rfl)
  (case xf_e_Early_Early=>kernel_rfl)
  (case xf_e_Early_Known=>kernel_rfl)
  (case xf_e_Early_NoRoom=>kernel_rfl)
  (case xf_e_Early_NoRow=>kernel_rfl)
  (case xf_e_Early_PlaceError=>kernel_rfl)
  (case xf_e_Early_TooMany=>kernel_rfl)
  (case xf_e_Early_Unknown=>kernel_rfl)
  (case xf_e_Early_Used=>kernel_rfl)
  (case xf_e_Known_BadAsked=>kernel_rfl)
  (case xf_e_Known_BadBerths=>kernel_rfl)
  (case xf_e_Known_BadName=>kernel_rfl)
  (case xf_e_Known_BadRow=>kernel_rfl)
  (case xf_e_Known_BadShare=>kernel_rfl)
  (case xf_e_Known_Early=>kernel_rfl)
  (case xf_e_Known_Known=>kernel_rfl)
  (case xf_e_Known_NoRoom=>kernel_rfl)
  (case xf_e_Known_NoRow=>kernel_rfl)
  (case xf_e_Known_PlaceError=>kernel_rfl)
  (case xf_e_Known_TooMany=>kernel_rfl)
  (case xf_e_Known_Unknown=>kernel_rfl)
  (case xf_e_Known_Used=>kernel_rfl)
  (case xf_e_NoBack_BadAsked=>kernel_rfl)
  (case xf_e_NoBack_BadBerths=>kernel_rfl)
  (case xf_e_NoBack_BadName=>kernel_rfl)
  (case xf_e_NoBack_BadRow=>kernel_rfl)
  (case xf_e_NoBack_BadShare=>kernel_rfl)
  (case xf_e_NoBack_Early=>kernel_rfl)
  (case xf_e_NoBack_Known=>kernel_rfl)
  (case xf_e_NoBack_NoRoom=>kernel_rfl)
  (case xf_e_NoBack_NoRow=>kernel_rfl)
  (case xf_e_NoBack_PlaceError=>kernel_rfl)
  (case xf_e_NoBack_TooMany=>kernel_rfl)
  (case xf_e_NoBack_Unknown=>kernel_rfl)
  (case xf_e_NoBack_Used=>kernel_rfl)
  (case xf_e_NoDeed_BadAsked=>kernel_rfl)
  (case xf_e_NoDeed_BadBerths=>kernel_rfl)
  (case xf_e_NoDeed_BadName=>kernel_rfl)
  (case xf_e_NoDeed_BadRow=>kernel_rfl)
  (case xf_e_NoDeed_BadShare=>kernel_rfl)
  (case xf_e_NoDeed_Early=>kernel_rfl)
  (case xf_e_NoDeed_Known=>kernel_rfl)
  (case xf_e_NoDeed_NoRoom=>kernel_rfl)
  (case xf_e_NoDeed_NoRow=>kernel_rfl)
  (case xf_e_NoDeed_PlaceError=>kernel_rfl)
  (case xf_e_NoDeed_TooMany=>kernel_rfl)
  (case xf_e_NoDeed_Unknown=>kernel_rfl)
  (case xf_e_NoDeed_Used=>kernel_rfl)
  (case xf_e_NoLine_BadAsked=>kernel_rfl)
  (case xf_e_NoLine_BadBerths=>kernel_rfl)
  (case xf_e_NoLine_BadName=>kernel_rfl)
  (case xf_e_NoLine_BadRow=>kernel_rfl)
  (case xf_e_NoLine_BadShare=>kernel_rfl)
  (case xf_e_NoLine_Early=>kernel_rfl)
  (case xf_e_NoLine_Known=>kernel_rfl)
  (case xf_e_NoLine_NoRoom=>kernel_rfl)
  (case xf_e_NoLine_NoRow=>kernel_rfl)
  (case xf_e_NoLine_PlaceError=>kernel_rfl)
  (case xf_e_NoLine_TooMany=>kernel_rfl)
  (case xf_e_NoLine_Unknown=>kernel_rfl)
  (case xf_e_NoLine_Used=>kernel_rfl)
  (case xf_e_NoRoom_BadAsked=>kernel_rfl)
  (case xf_e_NoRoom_BadBerths=>kernel_rfl)
  (case xf_e_NoRoom_BadName=>kernel_rfl)
  (case xf_e_NoRoom_BadRow=>kernel_rfl)
  (case xf_e_NoRoom_BadShare=>kernel_rfl)
  (case xf_e_NoRoom_Early=>kernel_rfl)
  (case xf_e_NoRoom_Known=>kernel_rfl)
  (case xf_e_NoRoom_NoRoom=>kernel_rfl)
  (case xf_e_NoRoom_NoRow=>kernel_rfl)
  (case xf_e_NoRoom_PlaceError=>kernel_rfl)
  (case xf_e_NoRoom_TooMany=>kernel_rfl)
  (case xf_e_NoRoom_Unknown=>kernel_rfl)
  (case xf_e_NoRoom_Used=>kernel_rfl)
  (case xf_e_NoRow_BadAsked=>kernel_rfl)
  (case xf_e_NoRow_BadBerths=>kernel_rfl)
  (case xf_e_NoRow_BadName=>kernel_rfl)
  (case xf_e_NoRow_BadRow=>kernel_rfl)
  (case xf_e_NoRow_BadShare=>kernel_rfl)
  (case xf_e_NoRow_Early=>kernel_rfl)
  (case xf_e_NoRow_Known=>kernel_rfl)
  (case xf_e_NoRow_NoRoom=>kernel_rfl)
  (case xf_e_NoRow_NoRow=>kernel_rfl)
  (case xf_e_NoRow_PlaceError=>kernel_rfl)
  (case xf_e_NoRow_TooMany=>kernel_rfl)
  (case xf_e_NoRow_Unknown=>kernel_rfl)
  (case xf_e_NoRow_Used=>kernel_rfl)
  (case xf_e_NoText_BadAsked=>kernel_rfl)
  (case xf_e_NoText_BadBerths=>kernel_rfl)
  (case xf_e_NoText_BadName=>kernel_rfl)
  (case xf_e_NoText_BadRow=>kernel_rfl)
  (case xf_e_NoText_BadShare=>kernel_rfl)
  (case xf_e_NoText_Early=>kernel_rfl)
  (case xf_e_NoText_Known=>kernel_rfl)
  (case xf_e_NoText_NoRoom=>kernel_rfl)
  (case xf_e_NoText_NoRow=>kernel_rfl)
  (case xf_e_NoText_PlaceError=>kernel_rfl)
  (case xf_e_NoText_TooMany=>kernel_rfl)
  (case xf_e_NoText_Unknown=>kernel_rfl)
  (case xf_e_NoText_Used=>kernel_rfl)
  (case xf_e_PlaceError_PlaceError=>kernel_rfl)
  (case xf_e_TooMany_BadAsked=>kernel_rfl)
  (case xf_e_TooMany_BadBerths=>kernel_rfl)
  (case xf_e_TooMany_BadName=>kernel_rfl)
  (case xf_e_TooMany_BadRow=>kernel_rfl)
  (case xf_e_TooMany_BadShare=>kernel_rfl)
  (case xf_e_TooMany_Early=>kernel_rfl)
  (case xf_e_TooMany_Known=>kernel_rfl)
  (case xf_e_TooMany_NoRoom=>kernel_rfl)
  (case xf_e_TooMany_NoRow=>kernel_rfl)
  (case xf_e_TooMany_PlaceError=>kernel_rfl)
  (case xf_e_TooMany_TooMany=>kernel_rfl)
  (case xf_e_TooMany_Unknown=>kernel_rfl)
  (case xf_e_TooMany_Used=>kernel_rfl)
  (case xf_e_Unknown_BadAsked=>kernel_rfl)
  (case xf_e_Unknown_BadBerths=>kernel_rfl)
  (case xf_e_Unknown_BadName=>kernel_rfl)
  (case xf_e_Unknown_BadRow=>kernel_rfl)
  (case xf_e_Unknown_BadShare=>kernel_rfl)
  (case xf_e_Unknown_Early=>kernel_rfl)
  (case xf_e_Unknown_Known=>kernel_rfl)
  (case xf_e_Unknown_NoRoom=>kernel_rfl)
  (case xf_e_Unknown_NoRow=>kernel_rfl)
  (case xf_e_Unknown_PlaceError=>kernel_rfl)
  (case xf_e_Unknown_TooMany=>kernel_rfl)
  (case xf_e_Unknown_Unknown=>kernel_rfl)
  (case xf_e_Unknown_Used=>kernel_rfl)
  (case xf_e_Used_BadAsked=>kernel_rfl)
  (case xf_e_Used_BadBerths=>kernel_rfl)
  (case xf_e_Used_BadName=>kernel_rfl)
  (case xf_e_Used_BadRow=>kernel_rfl)
  (case xf_e_Used_BadShare=>kernel_rfl)
  (case xf_e_Used_Early=>kernel_rfl)
  (case xf_e_Used_Known=>kernel_rfl)
  (case xf_e_Used_NoRoom=>kernel_rfl)
  (case xf_e_Used_NoRow=>kernel_rfl)
  (case xf_e_Used_PlaceError=>kernel_rfl)
  (case xf_e_Used_TooMany=>kernel_rfl)
  (case xf_e_Used_Unknown=>kernel_rfl)
  (case xf_e_Used_Used=>kernel_rfl)
  (case xf_i_BadAsked_BadAsked=>kernel_rfl)
  (case xf_i_BadAsked_BadBerths=>kernel_rfl)
  (case xf_i_BadAsked_BadName=>kernel_rfl)
  (case xf_i_BadAsked_BadRow=>kernel_rfl)
  (case xf_i_BadAsked_BadShare=>kernel_rfl)
  (case xf_i_BadAsked_Early=>kernel_rfl)
  (case xf_i_BadAsked_Known=>kernel_rfl)
  (case xf_i_BadAsked_NoBack=>kernel_rfl)
  (case xf_i_BadAsked_NoDeed=>kernel_rfl)
  (case xf_i_BadAsked_NoLine=>kernel_rfl)
  (case xf_i_BadAsked_NoRoom=>kernel_rfl)
  (case xf_i_BadAsked_NoRow=>kernel_rfl)
  (case xf_i_BadAsked_NoText=>kernel_rfl)
  (case xf_i_BadAsked_TooMany=>kernel_rfl)
  (case xf_i_BadAsked_Unknown=>kernel_rfl)
  (case xf_i_BadAsked_Used=>kernel_rfl)
  (case xf_i_BadAsked_ValueError=>kernel_rfl)
  (case xf_i_BadBerths_BadAsked=>kernel_rfl)
  (case xf_i_BadBerths_BadBerths=>kernel_rfl)
  (case xf_i_BadBerths_BadName=>kernel_rfl)
  (case xf_i_BadBerths_BadRow=>kernel_rfl)
  (case xf_i_BadBerths_BadShare=>kernel_rfl)
  (case xf_i_BadBerths_Early=>kernel_rfl)
  (case xf_i_BadBerths_Known=>kernel_rfl)
  (case xf_i_BadBerths_NoBack=>kernel_rfl)
  (case xf_i_BadBerths_NoDeed=>kernel_rfl)
  (case xf_i_BadBerths_NoLine=>kernel_rfl)
  (case xf_i_BadBerths_NoRoom=>kernel_rfl)
  (case xf_i_BadBerths_NoRow=>kernel_rfl)
  (case xf_i_BadBerths_NoText=>kernel_rfl)
  (case xf_i_BadBerths_TooMany=>kernel_rfl)
  (case xf_i_BadBerths_Unknown=>kernel_rfl)
  (case xf_i_BadBerths_Used=>kernel_rfl)
  (case xf_i_BadBerths_ValueError=>kernel_rfl)
  (case xf_i_BadName_BadAsked=>kernel_rfl)
  (case xf_i_BadName_BadBerths=>kernel_rfl)
  (case xf_i_BadName_BadName=>kernel_rfl)
  (case xf_i_BadName_BadRow=>kernel_rfl)
  (case xf_i_BadName_BadShare=>kernel_rfl)
  (case xf_i_BadName_Early=>kernel_rfl)
  (case xf_i_BadName_Known=>kernel_rfl)
  (case xf_i_BadName_NoBack=>kernel_rfl)
  (case xf_i_BadName_NoDeed=>kernel_rfl)
  (case xf_i_BadName_NoLine=>kernel_rfl)
  (case xf_i_BadName_NoRoom=>kernel_rfl)
  (case xf_i_BadName_NoRow=>kernel_rfl)
  (case xf_i_BadName_NoText=>kernel_rfl)
  (case xf_i_BadName_TooMany=>kernel_rfl)
  (case xf_i_BadName_Unknown=>kernel_rfl)
  (case xf_i_BadName_Used=>kernel_rfl)
  (case xf_i_BadName_ValueError=>kernel_rfl)
  (case xf_i_BadRow_BadAsked=>kernel_rfl)
  (case xf_i_BadRow_BadBerths=>kernel_rfl)
  (case xf_i_BadRow_BadName=>kernel_rfl)
  (case xf_i_BadRow_BadRow=>kernel_rfl)
  (case xf_i_BadRow_BadShare=>kernel_rfl)
  (case xf_i_BadRow_Early=>kernel_rfl)
  (case xf_i_BadRow_Known=>kernel_rfl)
  (case xf_i_BadRow_NoBack=>kernel_rfl)
  (case xf_i_BadRow_NoDeed=>kernel_rfl)
  (case xf_i_BadRow_NoLine=>kernel_rfl)
  (case xf_i_BadRow_NoRoom=>kernel_rfl)
  (case xf_i_BadRow_NoRow=>kernel_rfl)
  (case xf_i_BadRow_NoText=>kernel_rfl)
  (case xf_i_BadRow_TooMany=>kernel_rfl)
  (case xf_i_BadRow_Unknown=>kernel_rfl)
  (case xf_i_BadRow_Used=>kernel_rfl)
  (case xf_i_BadRow_ValueError=>kernel_rfl)
  (case xf_i_BadShare_BadAsked=>kernel_rfl)
  (case xf_i_BadShare_BadBerths=>kernel_rfl)
  (case xf_i_BadShare_BadName=>kernel_rfl)
  (case xf_i_BadShare_BadRow=>kernel_rfl)
  (case xf_i_BadShare_BadShare=>kernel_rfl)
  (case xf_i_BadShare_Early=>kernel_rfl)
  (case xf_i_BadShare_Known=>kernel_rfl)
  (case xf_i_BadShare_NoBack=>kernel_rfl)
  (case xf_i_BadShare_NoDeed=>kernel_rfl)
  (case xf_i_BadShare_NoLine=>kernel_rfl)
  (case xf_i_BadShare_NoRoom=>kernel_rfl)
  (case xf_i_BadShare_NoRow=>kernel_rfl)
  (case xf_i_BadShare_NoText=>kernel_rfl)
  (case xf_i_BadShare_TooMany=>kernel_rfl)
  (case xf_i_BadShare_Unknown=>kernel_rfl)
  (case xf_i_BadShare_Used=>kernel_rfl)
  (case xf_i_BadShare_ValueError=>kernel_rfl)
  (case xf_i_Early_BadAsked=>kernel_rfl)
  (case xf_i_Early_BadBerths=>kernel_rfl)
  (case xf_i_Early_BadName=>kernel_rfl)
  (case xf_i_Early_BadRow=>kernel_rfl)
  (case xf_i_Early_BadShare=>kernel_rfl)
  (case xf_i_Early_Early=>kernel_rfl)
  (case xf_i_Early_Known=>kernel_rfl)
  (case xf_i_Early_NoBack=>kernel_rfl)
  (case xf_i_Early_NoDeed=>kernel_rfl)
  (case xf_i_Early_NoLine=>kernel_rfl)
  (case xf_i_Early_NoRoom=>kernel_rfl)
  (case xf_i_Early_NoRow=>kernel_rfl)
  (case xf_i_Early_NoText=>kernel_rfl)
  (case xf_i_Early_TooMany=>kernel_rfl)
  (case xf_i_Early_Unknown=>kernel_rfl)
  (case xf_i_Early_Used=>kernel_rfl)
  (case xf_i_Early_ValueError=>kernel_rfl)
  (case xf_i_Known_BadAsked=>kernel_rfl)
  (case xf_i_Known_BadBerths=>kernel_rfl)
  (case xf_i_Known_BadName=>kernel_rfl)
  (case xf_i_Known_BadRow=>kernel_rfl)
  (case xf_i_Known_BadShare=>kernel_rfl)
  (case xf_i_Known_Early=>kernel_rfl)
  (case xf_i_Known_Known=>kernel_rfl)
  (case xf_i_Known_NoBack=>kernel_rfl)
  (case xf_i_Known_NoDeed=>kernel_rfl)
  (case xf_i_Known_NoLine=>kernel_rfl)
  (case xf_i_Known_NoRoom=>kernel_rfl)
  (case xf_i_Known_NoRow=>kernel_rfl)
  (case xf_i_Known_NoText=>kernel_rfl)
  (case xf_i_Known_TooMany=>kernel_rfl)
  (case xf_i_Known_Unknown=>kernel_rfl)
  (case xf_i_Known_Used=>kernel_rfl)
  (case xf_i_Known_ValueError=>kernel_rfl)
  (case xf_i_NoBack_BadAsked=>kernel_rfl)
  (case xf_i_NoBack_BadBerths=>kernel_rfl)
  (case xf_i_NoBack_BadName=>kernel_rfl)
  (case xf_i_NoBack_BadRow=>kernel_rfl)
  (case xf_i_NoBack_BadShare=>kernel_rfl)
  (case xf_i_NoBack_Early=>kernel_rfl)
  (case xf_i_NoBack_Known=>kernel_rfl)
  (case xf_i_NoBack_NoBack=>kernel_rfl)
  (case xf_i_NoBack_NoDeed=>kernel_rfl)
  (case xf_i_NoBack_NoLine=>kernel_rfl)
  (case xf_i_NoBack_NoRoom=>kernel_rfl)
  (case xf_i_NoBack_NoRow=>kernel_rfl)
  (case xf_i_NoBack_NoText=>kernel_rfl)
  (case xf_i_NoBack_TooMany=>kernel_rfl)
  (case xf_i_NoBack_Unknown=>kernel_rfl)
  (case xf_i_NoBack_Used=>kernel_rfl)
  (case xf_i_NoBack_ValueError=>kernel_rfl)
  (case xf_i_NoDeed_BadAsked=>kernel_rfl)
  (case xf_i_NoDeed_BadBerths=>kernel_rfl)
  (case xf_i_NoDeed_BadName=>kernel_rfl)
  (case xf_i_NoDeed_BadRow=>kernel_rfl)
  (case xf_i_NoDeed_BadShare=>kernel_rfl)
  (case xf_i_NoDeed_Early=>kernel_rfl)
  (case xf_i_NoDeed_Known=>kernel_rfl)
  (case xf_i_NoDeed_NoBack=>kernel_rfl)
  (case xf_i_NoDeed_NoDeed=>kernel_rfl)
  (case xf_i_NoDeed_NoLine=>kernel_rfl)
  (case xf_i_NoDeed_NoRoom=>kernel_rfl)
  (case xf_i_NoDeed_NoRow=>kernel_rfl)
  (case xf_i_NoDeed_NoText=>kernel_rfl)
  (case xf_i_NoDeed_TooMany=>kernel_rfl)
  (case xf_i_NoDeed_Unknown=>kernel_rfl)
  (case xf_i_NoDeed_Used=>kernel_rfl)
  (case xf_i_NoDeed_ValueError=>kernel_rfl)
  (case xf_i_NoLine_BadAsked=>kernel_rfl)
  (case xf_i_NoLine_BadBerths=>kernel_rfl)
  (case xf_i_NoLine_BadName=>kernel_rfl)
  (case xf_i_NoLine_BadRow=>kernel_rfl)
  (case xf_i_NoLine_BadShare=>kernel_rfl)
  (case xf_i_NoLine_Early=>kernel_rfl)
  (case xf_i_NoLine_Known=>kernel_rfl)
  (case xf_i_NoLine_NoBack=>kernel_rfl)
  (case xf_i_NoLine_NoDeed=>kernel_rfl)
  (case xf_i_NoLine_NoLine=>kernel_rfl)
  (case xf_i_NoLine_NoRoom=>kernel_rfl)
  (case xf_i_NoLine_NoRow=>kernel_rfl)
  (case xf_i_NoLine_NoText=>kernel_rfl)
  (case xf_i_NoLine_TooMany=>kernel_rfl)
  (case xf_i_NoLine_Unknown=>kernel_rfl)
  (case xf_i_NoLine_Used=>kernel_rfl)
  (case xf_i_NoLine_ValueError=>kernel_rfl)
  (case xf_i_NoRoom_BadAsked=>kernel_rfl)
  (case xf_i_NoRoom_BadBerths=>kernel_rfl)
  (case xf_i_NoRoom_BadName=>kernel_rfl)
  (case xf_i_NoRoom_BadRow=>kernel_rfl)
  (case xf_i_NoRoom_BadShare=>kernel_rfl)
  (case xf_i_NoRoom_Early=>kernel_rfl)
  (case xf_i_NoRoom_Known=>kernel_rfl)
  (case xf_i_NoRoom_NoBack=>kernel_rfl)
  (case xf_i_NoRoom_NoDeed=>kernel_rfl)
  (case xf_i_NoRoom_NoLine=>kernel_rfl)
  (case xf_i_NoRoom_NoRoom=>kernel_rfl)
  (case xf_i_NoRoom_NoRow=>kernel_rfl)
  (case xf_i_NoRoom_NoText=>kernel_rfl)
  (case xf_i_NoRoom_TooMany=>kernel_rfl)
  (case xf_i_NoRoom_Unknown=>kernel_rfl)
  (case xf_i_NoRoom_Used=>kernel_rfl)
  (case xf_i_NoRoom_ValueError=>kernel_rfl)
  (case xf_i_NoRow_BadAsked=>kernel_rfl)
  (case xf_i_NoRow_BadBerths=>kernel_rfl)
  (case xf_i_NoRow_BadName=>kernel_rfl)
  (case xf_i_NoRow_BadRow=>kernel_rfl)
  (case xf_i_NoRow_BadShare=>kernel_rfl)
  (case xf_i_NoRow_Early=>kernel_rfl)
  (case xf_i_NoRow_Known=>kernel_rfl)
  (case xf_i_NoRow_NoBack=>kernel_rfl)
  (case xf_i_NoRow_NoDeed=>kernel_rfl)
  (case xf_i_NoRow_NoLine=>kernel_rfl)
  (case xf_i_NoRow_NoRoom=>kernel_rfl)
  (case xf_i_NoRow_NoRow=>kernel_rfl)
  (case xf_i_NoRow_NoText=>kernel_rfl)
  (case xf_i_NoRow_TooMany=>kernel_rfl)
  (case xf_i_NoRow_Unknown=>kernel_rfl)
  (case xf_i_NoRow_Used=>kernel_rfl)
  (case xf_i_NoRow_ValueError=>kernel_rfl)
  (case xf_i_NoText_BadAsked=>kernel_rfl)
  (case xf_i_NoText_BadBerths=>kernel_rfl)
  (case xf_i_NoText_BadName=>kernel_rfl)
  (case xf_i_NoText_BadRow=>kernel_rfl)
  (case xf_i_NoText_BadShare=>kernel_rfl)
  (case xf_i_NoText_Early=>kernel_rfl)
  (case xf_i_NoText_Known=>kernel_rfl)
  (case xf_i_NoText_NoBack=>kernel_rfl)
  (case xf_i_NoText_NoDeed=>kernel_rfl)
  (case xf_i_NoText_NoLine=>kernel_rfl)
  (case xf_i_NoText_NoRoom=>kernel_rfl)
  (case xf_i_NoText_NoRow=>kernel_rfl)
  (case xf_i_NoText_NoText=>kernel_rfl)
  (case xf_i_NoText_TooMany=>kernel_rfl)
  (case xf_i_NoText_Unknown=>kernel_rfl)
  (case xf_i_NoText_Used=>kernel_rfl)
  (case xf_i_NoText_ValueError=>kernel_rfl)
  (case xf_i_PlaceError_BadAsked=>kernel_rfl)
  (case xf_i_PlaceError_BadBerths=>kernel_rfl)
  (case xf_i_PlaceError_BadName=>kernel_rfl)
  (case xf_i_PlaceError_BadRow=>kernel_rfl)
  (case xf_i_PlaceError_BadShare=>kernel_rfl)
  (case xf_i_PlaceError_Early=>kernel_rfl)
  (case xf_i_PlaceError_Known=>kernel_rfl)
  (case xf_i_PlaceError_NoBack=>kernel_rfl)
  (case xf_i_PlaceError_NoDeed=>kernel_rfl)
  (case xf_i_PlaceError_NoLine=>kernel_rfl)
  (case xf_i_PlaceError_NoRoom=>kernel_rfl)
  (case xf_i_PlaceError_NoRow=>kernel_rfl)
  (case xf_i_PlaceError_NoText=>kernel_rfl)
  (case xf_i_PlaceError_TooMany=>kernel_rfl)
  (case xf_i_PlaceError_Unknown=>kernel_rfl)
  (case xf_i_PlaceError_Used=>kernel_rfl)
  (case xf_i_PlaceError_ValueError=>kernel_rfl)
  (case xf_i_TooMany_BadAsked=>kernel_rfl)
  (case xf_i_TooMany_BadBerths=>kernel_rfl)
  (case xf_i_TooMany_BadName=>kernel_rfl)
  (case xf_i_TooMany_BadRow=>kernel_rfl)
  (case xf_i_TooMany_BadShare=>kernel_rfl)
  (case xf_i_TooMany_Early=>kernel_rfl)
  (case xf_i_TooMany_Known=>kernel_rfl)
  (case xf_i_TooMany_NoBack=>kernel_rfl)
  (case xf_i_TooMany_NoDeed=>kernel_rfl)
  (case xf_i_TooMany_NoLine=>kernel_rfl)
  (case xf_i_TooMany_NoRoom=>kernel_rfl)
  (case xf_i_TooMany_NoRow=>kernel_rfl)
  (case xf_i_TooMany_NoText=>kernel_rfl)
  (case xf_i_TooMany_TooMany=>kernel_rfl)
  (case xf_i_TooMany_Unknown=>kernel_rfl)
  (case xf_i_TooMany_Used=>kernel_rfl)
  (case xf_i_TooMany_ValueError=>kernel_rfl)
  (case xf_i_Unknown_BadAsked=>kernel_rfl)
  (case xf_i_Unknown_BadBerths=>kernel_rfl)
  (case xf_i_Unknown_BadName=>kernel_rfl)
  (case xf_i_Unknown_BadRow=>kernel_rfl)
  (case xf_i_Unknown_BadShare=>kernel_rfl)
  (case xf_i_Unknown_Early=>kernel_rfl)
  (case xf_i_Unknown_Known=>kernel_rfl)
  (case xf_i_Unknown_NoBack=>kernel_rfl)
  (case xf_i_Unknown_NoDeed=>kernel_rfl)
  (case xf_i_Unknown_NoLine=>kernel_rfl)
  (case xf_i_Unknown_NoRoom=>kernel_rfl)
  (case xf_i_Unknown_NoRow=>kernel_rfl)
  (case xf_i_Unknown_NoText=>kernel_rfl)
  (case xf_i_Unknown_TooMany=>kernel_rfl)
  (case xf_i_Unknown_Unknown=>kernel_rfl)
  (case xf_i_Unknown_Used=>kernel_rfl)
  (case xf_i_Unknown_ValueError=>kernel_rfl)
  (case xf_i_Used_BadAsked=>kernel_rfl)
  (case xf_i_Used_BadBerths=>kernel_rfl)
  (case xf_i_Used_BadName=>kernel_rfl)
  (case xf_i_Used_BadRow=>kernel_rfl)
  (case xf_i_Used_BadShare=>kernel_rfl)
  (case xf_i_Used_Early=>kernel_rfl)
  (case xf_i_Used_Known=>kernel_rfl)
  (case xf_i_Used_NoBack=>kernel_rfl)
  (case xf_i_Used_NoDeed=>kernel_rfl)
  (case xf_i_Used_NoLine=>kernel_rfl)
  (case xf_i_Used_NoRoom=>kernel_rfl)
  (case xf_i_Used_NoRow=>kernel_rfl)
  (case xf_i_Used_NoText=>kernel_rfl)
  (case xf_i_Used_TooMany=>kernel_rfl)
  (case xf_i_Used_Unknown=>kernel_rfl)
  (case xf_i_Used_Used=>kernel_rfl)
  (case xf_i_Used_ValueError=>kernel_rfl)
  (case xf_xk_NoBack=>kernel_rfl)
  (case xf_xk_NoDeed=>kernel_rfl)
  (case xf_xk_NoLine=>kernel_rfl)
  (case xf_xk_NoText=>kernel_rfl)
  (case xf_xk_PlaceError=>kernel_rfl)
  (case xf_xn_NoBack=>kernel_rfl)
  (case xf_xn_NoDeed=>kernel_rfl)
  (case xf_xn_NoLine=>kernel_rfl)
  (case xf_xn_NoText=>kernel_rfl)
  (case xf_xn_PlaceError=>kernel_rfl)
  (case xf_xt_NoBack=>kernel_rfl)
  (case xf_xt_NoDeed=>kernel_rfl)
  (case xf_xt_NoLine=>kernel_rfl)
  (case xf_xt_NoText=>kernel_rfl)
  (case xf_xt_PlaceError=>kernel_rfl)
  (case n_BadAsked_at=>k_is)
  (case n_BadBerths_at=>k_is)
  (case n_BadName_at=>k_is)
  (case n_BadRow_at=>k_is)
  (case n_BadShare_at=>k_is)
  (case n_Early_until=>k_is)
  (case n_Known_name=>k_is)
  (case n_NoRoom_demanded=>k_is)
  (case n_NoRoom_first=>k_is)
  (case n_NoRoom_room=>k_is)
  (case n_NoRow_at=>k_is)
  (case n_TooMany_most=>k_is)
  (case n_Unknown_name=>k_is)
  (case n_Used_name=>k_is)
  (case b_ValueError=>k_is)
  (case b_abs=>k_is)
  (case b_int=>k_is)
  (case b_isinstance=>k_is)
  (case b_len=>k_is)
  (case b_range=>k_is)
  (case b_repr=>k_is)
