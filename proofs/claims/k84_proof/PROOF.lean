import PyProof.Rows.All
import Wide.All
import OpenK.AllK
import Wide.FinOn
import Lean
import PyProof.EqAt
import PyProof.EqKinds
import PyProof.TupleCall
import KE.KSortTup
import KE.KDictSum
import PyProof.Rows.Range3
import PyProof.Rows.SortRev
import PyProof.StrBlock2
import PyProof.ZipIter
import PyProof.Rows.ZipGen
import PyProof.NeKinds
import PyProof.DictCompW
import PyProof.DictWalks
import PyProof.AttrMissHeap
import PyProof.WalksS
import KE.KDictOf
import KE.KListMore
import KE.KEqDict
import PyProof.StationsW
import PyProof.InstStoreFacts
import PyProof.ExcBaseAll.ValueError
import PyProof.ExcClass2
import PyProof.RulesAs
import KE.KTryMore
import PyProof.ExcArgs
import KE.KIsAll
import OpenK.KOwn
import PyProof.P3In
import PyProof.DictUpdate
import PyProof.MeetsSeq2
import KE.KIntText
import KE.KRevSl
import PyProof.Rows.StrLawsPart
import PyProof.EnumMake
import PyProof.Draws
import PyProof.ListRange
import PyProof.TupleOfStr
import KE.KLam
import KE.KNestM
import KE.KMinKey
import PySem.Challenge.RW_placedworks_k84_slots_used
set_option genSizeOf false
set_option genSizeOfSpec false
set_option bootstrap.genMatcherCode false
set_option Elab.async false
set_option linter.all false
set_option maxRecDepth 100000
namespace L2
open PySem PySem.Spec PyProof.Rows
noncomputable abbrev Key:=Sum Int Str
noncomputable def keyIs:Key->Value->Bool
 | .inl k,v=>Value.isInt k v
 | .inr x,v=>Value.isStrOf x v
noncomputable def keyH (w:World):Key->Int
 | .inl k=>hashInt k
 | .inr x=>hashStr w x
theorem keyIs_shape:∀ {k:Key} {v:Value},keyIs k v=true->(∃ i t,k=Sum.inl i/\v=Value.int i t)\/(∃ x t,k=Sum.inr x/\v=Value.str x t)
 | .inl i,v,h=>by
  obtain ⟨t,e⟩:=Value.isInt_shape (k:=i) (v:=v) h
  exact .inl ⟨i,t,rfl,e⟩
 | .inr x,v,h=>by
  obtain ⟨t,e⟩:=Value.isStrOf_shape (x:=x) (v:=v) h
  exact .inr ⟨x,t,rfl,e⟩
theorem keyIs_int (i:Int)(t:Tok):keyIs (.inl i) (.int i t)=true:=by simp [keyIs,Value.isInt]
theorem keyIs_str (x:Str)(t:Tok):keyIs (.inr x) (.str x t)=true:=by simp [keyIs,Value.isStrOf]
theorem key_ll (a b:Int):decide ((Sum.inl a:Key)=Sum.inl b)=(a == b):=by
 by_cases e:a=b
 ·subst e; simp
 ·have h:¬ (Sum.inl a:Key)=Sum.inl b:=λ q=>e (Sum.inl.inj q)
  rw [decide_eq_false h]
  exact (beq_eq_false_iff_ne.mpr e).symm
theorem key_rr (a b:Str):decide ((Sum.inr a:Key)=Sum.inr b)=decide (a=b):=by
 by_cases e:a=b
 ·subst e; simp
 ·have h:¬ (Sum.inr a:Key)=Sum.inr b:=λ q=>e (Sum.inr.inj q)
  rw [decide_eq_false h,decide_eq_false e]
theorem key_lr (a:Int)(b:Str):decide ((Sum.inl a:Key)=Sum.inr b)=false:=decide_eq_false (λ q=>nomatch q)
theorem key_rl (a:Str)(b:Int):decide ((Sum.inr a:Key)=Sum.inl b)=false:=decide_eq_false (λ q=>nomatch q)
noncomputable def mixKind (prog:Program)(w:World):PySem.KeyKind prog w Key where
 is:=keyIs
 hash:=keyH w
 inj:=λ v a b ha hb=>by
  rcases keyIs_shape ha with ⟨i,t,rfl,rfl⟩ | ⟨x,t,rfl,rfl⟩
  ·rcases keyIs_shape hb with ⟨j,u,rfl,e⟩ | ⟨y,u,rfl,e⟩
   ·injection e with e1 _; rw [e1]
   ·exact nomatch e
  ·rcases keyIs_shape hb with ⟨j,u,rfl,e⟩ | ⟨y,u,rfl,e⟩
   ·exact nomatch e
   ·injection e with e1 _; rw [e1]
 byValue:=λ k v h=>by
  rcases keyIs_shape h with ⟨i,t,rfl,rfl⟩ | ⟨x,t,rfl,rfl⟩ <;> rfl
 pyHash:=λ hv h=>by
  rcases keyIs_shape hv with ⟨i,t,rfl,rfl⟩ | ⟨x,t,rfl,rfl⟩
  ·exact wpAny_pyHash_int h
  ·exact wpAny_pyHash_str h
 eqBool:=λ hu hv h=>by
  rcases keyIs_shape hu with ⟨i,t,rfl,rfl⟩ | ⟨x,t,rfl,rfl⟩
  ·rcases keyIs_shape hv with ⟨j,u,rfl,rfl⟩ | ⟨y,u,rfl,rfl⟩
   ·rw [key_ll] at h; exact wpAny_eqBool_int h
   ·rw [key_lr] at h; exact SeqAt.EqAt.int_str i t y u _ _ _ _ h
  ·rcases keyIs_shape hv with ⟨j,u,rfl,rfl⟩ | ⟨y,u,rfl,rfl⟩
   ·rw [key_rl] at h; exact SeqAt.EqAt.str_int x t j u _ _ _ _ h
   ·rw [key_rr] at h; exact wpAny_eqBool_str h
 «strs»:=λ k x t v h=>by
  rcases keyIs_shape h with ⟨i,u,rfl,e⟩ | ⟨y,u,rfl,e⟩
  ·exact nomatch e
  ·injection e with e1 _
   subst e1
   cases v <;> rfl
theorem mixKind_is (prog:Program)(w:World)(k:Key)(v:Value):(mixKind prog w).is k v=keyIs k v:=rfl
theorem mixKind_int (prog:Program)(w:World)(i:Int)(t:Tok):(mixKind prog w).is (.inl i) (.int i t)=true:=keyIs_int i t
theorem mixKind_str (prog:Program)(w:World)(x:Str)(t:Tok):(mixKind prog w).is (.inr x) (.str x t)=true:=keyIs_str x t
end L2
namespace L2
open PySem PySem.Spec PyProof.Rows
inductive V where
 | non | bl (b:Bool) | int (i:Int) | str (x:Str) | byt (b:Array UInt8) | flt (b:UInt64) | ref (a:Addr) | ty (n:String)
 deriving DecidableEq
noncomputable def RelV:V->Value->Prop
 | .non,u=>u=Value.none
 | .bl b,u=>u=Value.bool b
 | .int i,u=>∃ t,u=Value.int i t
 | .str x,u=>∃ t,u=Value.str x t
 | .byt b,u=>∃ t,u=Value.bytes b t
 | .flt b,u=>∃ t,u=Value.float b t
 | .ref a,u=>u=Value.ref a
 | .ty n,u=>u=Value.type n
noncomputable abbrev Vals:List V->List Value->Prop:=Paired RelV
theorem Vals.length {xs:List V}{us:List Value}(r:Vals xs us):xs.length=us.length:=Paired.length r
theorem Vals.get:∀ {xs:List V} {us:List Value} {i:Nat} {x:V},Vals xs us->xs[i]? = some x->∃ u,us[i]? = some u/\RelV x u
 | _,_,_,_,.nil,e=>by simp at e
 | _,_,0,_,.cons r _,e=>by simp at e; subst e; exact ⟨_,rfl,r⟩
 | _,_,i+1,x,.cons _ t,e=>by
  obtain ⟨u,h1,h2⟩:=Vals.get (i:=i) (x:=x) t (by simpa using e)
  exact ⟨u,by simpa using h1,h2⟩
theorem Vals.set {x:V}{u:Value}(r:RelV x u):∀ {xs:List V} {us:List Value} (i:Nat),Vals xs us->Vals (xs.set i x) (us.set i u)
 | _,_,_,.nil=>.nil
 | _,_,0,.cons _ t=>.cons r t
 | _,_,i+1,.cons q t=>.cons q (Vals.set r i t)
theorem Vals.append:∀ {xs ys:List V} {us ws:List Value},Vals xs us->Vals ys ws->Vals (xs++ys) (us++ws)
 | _,_,_,_,.nil,s=>s
 | _,_,_,_,.cons r t,s=>.cons r (Vals.append t s)
theorem Vals.take:∀ {xs:List V} {us:List Value} (n:Nat),Vals xs us->Vals (xs.take n) (us.take n)
 | _,_,0,_=>.nil
 | _,_,_+1,.nil=>.nil
 | _,_,n+1,.cons r t=>.cons r (Vals.take n t)
theorem Vals.drop:∀ {xs:List V} {us:List Value} (n:Nat),Vals xs us->Vals (xs.drop n) (us.drop n)
 | _,_,0,r=>r
 | _,_,_+1,.nil=>.nil
 | _,_,n+1,.cons _ t=>Vals.drop n t
theorem Vals.none_of:∀ {xs:List V} {us:List Value} {i:Nat},Vals xs us->xs[i]? = none->us[i]? = none:=λ {xs us i} r e=>by
 have h1:=r.length
 have h2:xs.length<=i:=List.getElem?_eq_none_iff.mp e
 exact List.getElem?_eq_none_iff.mpr (by omega)
noncomputable def RelO:Option V->Option Value->Prop
 | some v,some u=>RelV v u
 | none,none=>True
 | _,_=>False
noncomputable def KV {κ:Type}:List (κ×V)->List (κ×Value)->Prop:=Paired λ (p:κ×V) (q:κ×Value)=>p.1=q.1/\RelV p.2 q.2
noncomputable def kV:Key->V
 | .inl i=>.int i
 | .inr x=>.str x
inductive HO where
 | lst (xs:List V)
 | tup (xs:List V)
 | dK (kvs:List (Key×V)) | dT (kvs:List (List Key×V))
 | set (S:Int->Bool) (n:Nat)
 | ins (C dx:Addr) (fs:List (Str×V))
 | own (x:Addr)
 | xd (fs:List (Str×V))
 | met (f x:Addr)
 | rng (lo hi:Int)
 | frz (o:Obj) (u:HO)
 | tbl (ps:Array Value)
 | ext (φ:Heap->Prop)
noncomputable abbrev Hp:=Addr->Option HO
noncomputable def upd (H:Hp)(a:Addr)(o:HO):Hp:=λ b=>if b=a then some o else H b
theorem upd_same {H:Hp}{a:Addr}{o:HO}:upd H a o a=some o:=by unfold upd; rw [if_pos rfl]
theorem upd_ne {H:Hp}{a b:Addr}{o:HO}(h:b≠a):upd H a o b=H b:=by unfold upd; rw [if_neg h]
theorem upd_upd {H:Hp}{a:Addr}{o u:HO}:upd (upd H a o) a u=upd H a u:=by
 funext b; unfold upd; split <;> rfl
theorem ne_of {H:Hp}{a b:Addr}{o u:HO}(h:H a=some o)(h':H b=some u)(d:o≠u):a≠b:=by
 intro e; subst e; rw [h] at h'; exact d (Option.some.inj h')
theorem ne_of_none {H:Hp}{a b:Addr}{o:HO}(h:H a=some o)(h':H b=none):a≠b:=by
 intro e; subst e; rw [h] at h'; cases h'
noncomputable def TupN (h:Heap)(a:Addr)(items:Array Value):Prop:=∃ o,h.get? a=some o/\o.cls=.type "tuple" /\ o.dict=none/\∃ n,o.data=.seq items n
theorem TupN.tup {h:Heap}{a:Addr}{items:Array Value}(x:TupN h a items):IsTup h a items:=let ⟨o,h1,h2,_,h3⟩:=x; ⟨o,h1,h2,h3⟩
theorem TupN.new (h:Heap)(items:Array Value):TupN (h.push { cls:=.type "tuple",data:=.seq items }) h.objs.size items:=⟨_,Heap.get?_push_size _ rfl,rfl,rfl,_,rfl⟩
section
variable (P:Program)(w:World)
noncomputable def ObjOk (H:Hp)(h:Heap)(a:Addr):HO->Prop
 | .lst xs=>xs.length<=sizeLine/\∃ (its:List Value) (n:Nat),Vals xs its/\h.get? a=some { cls:=.type "list",data:=.seq its.toArray n }
 | .tup xs=>xs.length<=sizeLine/\∃ its:List Value,Vals xs its/\TupN h a its.toArray
 | .dK kvs=>kvs.length<=sizeLine/\(a == sysModules)=false/\∃ vs,KV kvs vs/\h.DictOf (mixKind P w) a vs
 | .dT kvs=>kvs.length<=sizeLine/\(a == sysModules)=false/\∃ xs:List (List Key×Addr×Value),
   Paired (λ (p:List Key×V) (q:List Key×Addr×Value)=>p.1=q.1/\H q.2.1=some (.tup (p.1.map kV))/\RelV p.2 q.2.2) kvs xs /\
   ∃ o es ep,h.get? a=some o/\o.ExactDict/\o.data=.dict es ep/\es.toList=xs.map (entryOfKey (tupleKind (mixKind P w)))/\(xs.map (·.1)).Nodup
 | .set S n=>h.SetOf (intKind P w) a S n
 | .ins C dx fs=>H dx=some (.own a)/\fs.length<=1000/\dx≠a/\h.get? a=some (PySem.W.instObj C dx) /\
   ∃ mA,h.Ns1 dx mA/\(∀ f,RelO (fs.lookup f) (mA f))/\PySem.Within mA (fs.map (·.1))
 | .own _=>∃ o,h.get? a=some o
 | .xd fs=>∃ mA,h.Ns1 a mA/\∀ f,RelO (fs.lookup f) (mA f)
 | .rng lo hi=>∃ t u v,h.get? a=some { cls:=.type "range",data:=.fields #[.int lo t,.int hi u,.int 1 v] }
 | .frz o u=>h.get? a=some o/\ObjOk H h a u
 | .tbl ps=>h.get? a=some { cls:=.none,data:=.fields ps }
 | .met f x=>h.get? a=some (PySem.W.methodObj (.ref f) (.ref x))
 | .ext φ=>φ h/\(∃ o,h.get? a=some o)/\∀ h1 h2:Heap,φ h1->(∀ o,h1.get? a=some o->h2.get? a=some o)->φ h2
noncomputable def HOk (H:Hp)(h:Heap):Prop:=∀ a o,H a=some o->ObjOk P w H h a o
end
section
variable {P:Program}{w:World}{H H':Hp}{h h':Heap}{a:Addr}{o:HO}
theorem ObjOk.lt (x:ObjOk P w H h a o):a < h.objs.size:=by
 cases o with
 | lst xs=>obtain ⟨_,_,_,_,e⟩:=x; exact Heap.lt_size e
 | tup xs=>obtain ⟨_,_,_,p⟩:=x; exact p.tup.lt
 | dK kvs=>obtain ⟨_,_,_,_,o,_,_,e,_⟩:=x; exact Heap.lt_size e
 | dT kvs=>obtain ⟨_,_,_,_,o,_,_,e,_⟩:=x; exact Heap.lt_size e
 | set S n=>obtain ⟨o,_,_,_,e,_⟩:=x; exact Heap.lt_size e
 | ins C dx fs=>obtain ⟨_,_,_,e,_⟩:=x; exact Heap.lt_size e
 | own y=>obtain ⟨_,e⟩:=x; exact Heap.lt_size e
 | xd fs=>obtain ⟨_,⟨_,_,_,e,_⟩,_⟩:=x; exact Heap.lt_size e
 | rng lo hi=>obtain ⟨_,_,_,e⟩:=x; exact Heap.lt_size e
 | frz ob u=>obtain ⟨e,_⟩:=x; exact Heap.lt_size e
 | tbl ps=>exact Heap.lt_size (show h.get? a=some _ from x)
 | met f y=>exact Heap.lt_size (show h.get? a=some _ from x)
 | ext φ=>obtain ⟨_,⟨_,e⟩,_⟩:=x; exact Heap.lt_size e
theorem Paired.mapP {α β:Type}{F G:α->β->Prop}:∀ {l₁:List α} {l₂:List β},Paired F l₁ l₂->(∀ a b,F a b->G a b)->Paired G l₁ l₂
 | _,_,.nil,_=>.nil
 | _,_,.cons r t,f=>.cons (f _ _ r) (Paired.mapP t f)
theorem ObjOk.stay (x:ObjOk P w H h a o)(k:∀ b u,(b=a\/H b=some (.own a))->h.get? b=some u->h'.get? b=some u)
  (ho:∀ b,H b=some (.own a)->H' b=some (.own a))(ht:∀ b xs,H b=some (.tup xs)->H' b=some (.tup xs)):ObjOk P w H' h' a o:=by
 induction o with
 | lst xs=>obtain ⟨z,its,n,r,e⟩:=x; exact ⟨z,its,n,r,k _ _ (.inl rfl) e⟩
 | tup xs=>obtain ⟨z,its,r,ob,e,c⟩:=x; exact ⟨z,its,r,ob,k _ _ (.inl rfl) e,c⟩
 | dK kvs=>obtain ⟨z,y,vs,r,ob,es,ep,e,c⟩:=x; exact ⟨z,y,vs,r,ob,es,ep,k _ _ (.inl rfl) e,c⟩
 | dT kvs =>
  obtain ⟨z,y,xs,r,ob,es,ep,e,c⟩:=x
  exact ⟨z,y,xs,Paired.mapP r λ p q z=>⟨z.1,ht _ _ z.2.1,z.2.2⟩,ob,es,ep,k _ _ (.inl rfl) e,c⟩
 | set S n=>obtain ⟨ob,es,ep,t,e,c⟩:=x; exact ⟨ob,es,ep,t,k _ _ (.inl rfl) e,c⟩
 | ins C dx fs =>
  obtain ⟨d,z,ne,e,mA,⟨od,es,ep,e2,c⟩,r⟩:=x
  exact ⟨ho _ d,z,ne,k _ _ (.inl rfl) e,mA,⟨od,es,ep,k _ _ (.inr d) e2,c⟩,r⟩
 | own y=>obtain ⟨ob,e⟩:=x; exact ⟨ob,k _ _ (.inl rfl) e⟩
 | xd fs=>obtain ⟨mA,⟨od,es,ep,e,c⟩,r⟩:=x; exact ⟨mA,⟨od,es,ep,k _ _ (.inl rfl) e,c⟩,r⟩
 | rng lo hi=>obtain ⟨t,u,v,e⟩:=x; exact ⟨t,u,v,k _ _ (.inl rfl) e⟩
 | frz ob u ih=>obtain ⟨e,q⟩:=x; exact ⟨k _ _ (.inl rfl) e,ih q⟩
 | tbl ps =>
  have e:h.get? a=some { cls:=.none,data:=.fields ps }:=x
  show h'.get? a=some { cls:=.none,data:=.fields ps }
  exact k a _ (.inl rfl) e
 | met f y =>
  have e:h.get? a=some (PySem.W.methodObj (.ref f) (.ref y)):=x
  show h'.get? a=some (PySem.W.methodObj (.ref f) (.ref y))
  exact k a _ (.inl rfl) e
 | ext φ=>obtain ⟨p,⟨o,e⟩,st⟩:=x; exact ⟨st _ _ p λ o q=>k _ _ (.inl rfl) q,⟨o,k _ _ (.inl rfl) e⟩,st⟩
theorem HOk.lt (x:HOk P w H h)(e:H a=some o):a < h.objs.size:=(x a o e).lt
theorem HOk.fresh (x:HOk P w H h)(e:h.objs.size<=a):H a=none:=by
 cases q:H a with
 | none=>rfl
 | some u=>exact absurd (Nat.lt_of_lt_of_le (x.lt q) e) (Nat.lt_irrefl _)
theorem HOk.kept (x:HOk P w H h)(k:∀ b u,h.get? b=some u->h'.get? b=some u):HOk P w H h':=λ a o e =>
 (x a o e).stay (λ b u _ q=>k b u q) (λ _ q=>q) λ _ _ q=>q
theorem HOk.laid (x:HOk P w H h)(k:∀ b u,h.get? b=some u->h'.get? b=some u)(hp:h.objs.size<=a)(new:ObjOk P w (upd H a o) h' a o):HOk P w (upd H a o) h':=λ b u e=>by
 have hn:=x.fresh hp
 by_cases hb:b=a
 ·subst hb; rw [upd_same] at e; cases e; exact new
 ·rw [upd_ne hb] at e
  exact (x b u e).stay (λ c v _ q=>k c v q) (λ c q=>by rw [upd_ne (ne_of_none q hn)]; exact q) λ c xs q=>by rw [upd_ne (ne_of_none q hn)]; exact q
end
noncomputable def Rd (H:Hp)(a:Addr)(u:HO):Prop:=H a=some u\/∃ o,H a=some (.frz o u)
theorem Rd.of {H:Hp}{a:Addr}{u:HO}(h:H a=some u):Rd H a u:=.inl h
theorem Rd.ok {P:Program}{w:World}{H:Hp}{h:Heap}{a:Addr}{u:HO}(r:Rd H a u)(x:HOk P w H h):ObjOk P w H h a u:=by
 rcases r with r | ⟨o,r⟩
 ·exact x a u r
 ·obtain ⟨_,q⟩:=x a _ r
  exact q
noncomputable def Mut:Option HO->Prop
 | some (.lst _)=>True
 | some (.dK _)=>True
 | some (.dT _)=>True
 | some (.set _ _)=>True
 | some (.ins _ _ _)=>True
 | some (.ext _)=>True
 | _=>False
section
variable {P:Program}{w:World}{H:Hp}{h h':Heap}{x e:Addr}{o':HO}
theorem HOk.write (ok:HOk P w H h)(mu:Mut (H x))(he:e=x\/H e=some (.own x))(k:∀ b u,b≠e->h.get? b=some u->h'.get? b=some u)(heo:∃ u,h'.get? e=some u)
  (new:ObjOk P w (upd H x o') h' x o'):HOk P w (upd H x o') h':=λ b u q=>by
 have nown:∀ c y,H c=some (.own y)->c≠x:=λ c y r z=>by subst z; rw [r] at mu; exact mu
 have ntup:∀ c xs,H c=some (.tup xs)->c≠x:=λ c xs r z=>by subst z; rw [r] at mu; exact mu
 by_cases hb:b=x
 ·subst hb; rw [upd_same] at q; cases q; exact new
 ·rw [upd_ne hb] at q
  by_cases hbe:b=e
  ·have q':H b=some (.own x):=by
    rcases he with z | z
    ·exact absurd (hbe.trans z) hb
    ·rw [hbe]; exact z
   rw [q] at q'; cases q'
   obtain ⟨v,hv⟩:=heo
   exact ⟨v,by rw [hbe]; exact hv⟩
  ·refine (ok b u q).stay (λ c v hc r=>k c v ?_ r) (λ c r=>by rw [upd_ne (nown c b r)]; exact r) λ c xs r=>by rw [upd_ne (ntup c xs r)]; exact r
   rcases hc with rfl | hc
   ·exact hbe
   ·rintro rfl
    rcases he with z | z
    ·exact nown c b hc z
    ·rw [hc] at z; cases z; exact hb rfl
end
structure Un (fs ex:List Addr)(H H':Hp)(h h':Heap):Prop where
 keep:∀ b o,h.get? b=some o->H b=none->b ∉ fs->b ∉ ex->h'.get? b=some o
 slot:∀ b o,h.get? b=some o->H b=none->b∈fs->b ∉ ex->∃ sl,h'.get? b=some { o with slots:=sl }
 free:∀ b o,h.get? b=some o->H b=none->b ∉ ex->H' b=none
 there:∀ b o,h.get? b=some o->b ∉ ex->∃ o',h'.get? b=some o'
 tups:∀ b xs,H b=some (.tup xs)->H' b=some (.tup xs)
 frzs:∀ b o u,H b=some (.frz o u)->H' b=some (.frz o u)
 tbls:∀ b ps,H b=some (.tbl ps)->∃ more,H' b=some (.tbl (ps++more))
section
variable {fs fs' ex ex':List Addr}{H H1 H2:Hp}{h h1 h2 h':Heap}{a x e:Addr}{o:HO}
theorem Un.any (u:Un fs ex H H1 h h1){b:Addr}{ob:Obj}(q:h.get? b=some ob)(n:H b=none)(hx:b ∉ ex):∃ sl,h1.get? b=some { ob with slots:=sl }:=by
 by_cases hb:b∈fs
 ·exact u.slot b ob q n hb hx
 ·exact ⟨ob.slots,u.keep b ob q n hb hx⟩
theorem Un.trans (a:Un fs ex H H1 h h1)(b:Un fs ex H1 H2 h1 h2):Un fs ex H H2 h h2 where
 keep:=λ c ob q n hc hx=>b.keep c ob (a.keep c ob q n hc hx) (a.free c ob q n hx) hc hx
 slot:=λ c ob q n hc hx=>by
  obtain ⟨sl,e1⟩:=a.slot c ob q n hc hx
  obtain ⟨sl',e2⟩:=b.slot c _ e1 (a.free c ob q n hx) hc hx
  exact ⟨sl',e2⟩
 free:=λ c ob q n hx=>by
  obtain ⟨o',e1⟩:=a.there c ob q hx
  exact b.free c o' e1 (a.free c ob q n hx) hx
 there:=λ c ob q hx=>by
  obtain ⟨o',e1⟩:=a.there c ob q hx
  exact b.there c o' e1 hx
 tups:=λ c xs q=>b.tups c xs (a.tups c xs q)
 frzs:=λ c ob xs q=>b.frzs c ob xs (a.frzs c ob xs q)
 tbls:=λ c ps q=>by
  obtain ⟨m1,e1⟩:=a.tbls c ps q
  obtain ⟨m2,e2⟩:=b.tbls c _ e1
  exact ⟨m1++m2,by rw [e2,Array.append_assoc]⟩
theorem Un.kept (k:∀ b u,h.get? b=some u->h'.get? b=some u):Un fs ex H H h h' :=
 ⟨λ b ob q _ _ _=>k b ob q,λ b ob q _ _ _=>⟨ob.slots,k b ob q⟩,λ _ _ _ n _=>n,λ b ob q _=>⟨ob,k b ob q⟩,λ _ _ q=>q,λ _ _ _ q=>q,λ _ ps q=>⟨#[],by rw [q]; simp⟩⟩
theorem Un.refl:Un fs ex H H h h:=Un.kept λ _ _ q=>q
theorem Un.laid (k:∀ b u,h.get? b=some u->h'.get? b=some u)(hp:h.objs.size<=a)(hn:H a=none):Un fs ex H (upd H a o) h h' where
 keep:=λ b u q _ _ _=>k b u q
 slot:=λ b u q _ _ _=>⟨u.slots,k b u q⟩
 free:=λ b u q n _=>by rw [upd_ne (Nat.ne_of_lt (Nat.lt_of_lt_of_le (Heap.lt_size q) hp))]; exact n
 there:=λ b u q _=>⟨u,k b u q⟩
 tups:=λ b xs q=>by rw [upd_ne (ne_of_none q hn)]; exact q
 frzs:=λ b u xs q=>by rw [upd_ne (ne_of_none q hn)]; exact q
 tbls:=λ b ps q=>⟨#[],by rw [upd_ne (ne_of_none q hn),q]; simp⟩
theorem Un.write (mu:Mut (H x))(he:e=x\/H e=some (.own x))(k:∀ b u,b≠e->h.get? b=some u->h'.get? b=some u)(heo:∃ u,h'.get? e=some u):Un fs ex H (upd H x o) h h':=by
 have hx:∀ b,H b=none->b≠x:=λ b n z=>by subst z; rw [n] at mu; exact mu
 have hb:∀ b,H b=none->b≠e:=λ b n z=>by
  subst z
  rcases he with r | r
  ·exact hx b n r
  ·rw [n] at r; cases r
 have hm:∀ b u,H b=some u->¬ Mut (some u)->b≠x:=λ b u q nm z=>by subst z; rw [q] at mu; exact nm mu
 refine ⟨λ b u q n _ _=>k b u (hb b n) q,λ b u q n _ _=>⟨u.slots,k b u (hb b n) q⟩,λ b u q n _=>by rw [upd_ne (hx b n)]; exact n,λ b u q _=>?_,
  λ b xs q=>by rw [upd_ne (hm b _ q λ z=>z)]; exact q,λ b u xs q=>by rw [upd_ne (hm b _ q λ z=>z)]; exact q,λ b ps q=>⟨#[],by rw [upd_ne (hm b _ q λ z=>z),q]; simp⟩⟩
 by_cases hbe:b=e
 ·subst hbe; exact heo
 ·exact ⟨u,k b u hbe q⟩
theorem Un.mono (u:Un fs ex H H1 h h1)(hs:∀ b∈fs,b∈fs')(hx:∀ b∈ex,b∈ex'):Un fs' ex' H H1 h h1 :=
 ⟨λ b ob q n hb he=>u.keep b ob q n (λ z=>hb (hs b z)) λ z=>he (hx b z),λ _ _ q n _ he=>u.any q n λ z=>he (hx _ z),λ b ob q n he=>u.free b ob q n λ z=>he (hx b z),λ b ob q he=>u.there b ob q λ z=>he (hx b z),u.tups,u.frzs,u.tbls⟩
end
noncomputable def trk (h:Heap)(H:Hp):List Addr:=(List.range h.objs.size).filter λ a=>(H a).isSome
noncomputable def hidT (h:Heap)(H:Hp):Heap:=PySem.W.hideAll h (trk h H)
theorem hidT_size (h:Heap)(H:Hp):(hidT h H).objs.size=h.objs.size:=PySem.W.hideAll_size _ _
theorem hidT_get {h:Heap}{H:Hp}{b:Addr}{o:Obj}(e:h.get? b=some o)(n:H b=none):(hidT h H).get? b=some o :=
 PySem.W.hideAll_get _ e λ hm=>by
  have q:(H b).isSome=true:=(List.mem_filter.mp hm).2
  rw [n] at q; simp at q
theorem of_hidT {h:Heap}{H:Hp}{b:Addr}{o:Obj}(e:(hidT h H).get? b=some o):h.get? b=some o/\H b=none:=by
 have e':h.get? b=some o:=PySem.W.of_hideAll (trk h H) e
 refine ⟨e',?_⟩
 cases q:H b with
 | none=>rfl
 | some x =>
  have hm:b∈trk h H:=List.mem_filter.mpr ⟨List.mem_range.mpr (Heap.lt_size e'),by simp [q]⟩
  have z:(hidT h H).get? b=none:=PySem.W.hideAll_none (trk h H) hm
  rw [z] at e; cases e
noncomputable def allNews (g h:Heap)(L:Addr):List (Addr×Obj):=(List.range h.objs.size).filterMap λ a=>if a=L\/(g.get? a).isSome=true then none else (h.get? a).map λ o=>(a,o)
noncomputable def rest (g h:Heap)(L d:Addr):List (Addr×Obj):=(allNews g h L).filter λ p=>decide (p.1≠d)
end L2
namespace L2
open PySem PySem.Spec PyProof.Rows
noncomputable def BM (mg:Str->Option Value)(h:Heap):Prop:=(∃ bm o,mg "__builtins__" = some (.ref bm)/\bm≠builtinsNs/\h.get? bm=some o/\o.cls=.type "module" /\ o.dict=some builtinsNs/\o.data=.plain)/\∃ mm,h.Ns sysModules mm
structure Mod (K:PySem.W.Frag)(mg:Str->Option Value)(base:Heap):Prop where
 kin:K.In base
 glob:base.Ns mainGlobals mg
 blt:∃ mb,base.Ns builtinsNs mb/\∀ x:Str,x ≠ "__name__" -> mb x=bootBuiltins x
 nolimit:base.NoLimit
 bm:BM mg base
structure Cx where
 prog:Program
 w:World
 K:PySem.W.Frag
 mg:Str->Option Value
 base:Heap
 A:Around
 N:List Str
 s₀:Shared
 H₀:Hp
 env:Env
 outer:List Env
 stack:List Env
 ex:List Addr
 fn:Str->Bool
 calm:Bool
 pn:List (Addr×Obj)
 xe:Value->Shared->Prop
noncomputable def frs (l:List Env):List Addr:=l.filterMap (·.frame)
noncomputable abbrev Cx.fs (X:Cx):List Addr:=frs X.outer
noncomputable def Vis (sc:Scope)(x:Str):Prop:=sc.names.lookup x=some .local\/sc.names.lookup x=some .cell\/sc.names.lookup x=some .free
noncomputable def Loc (sc:Scope)(x:Str):Prop:=sc.names.lookup x=some .local\/sc.names.lookup x=some .cell
noncomputable def Look (env:Env)(h:Heap)(m:Str->Option Value)(x:Str)(u:Value):Prop :=
 (env.kindOf x=some .local/\m x=some u)\/((env.kindOf x=some .cell\/env.kindOf x=some .free)/\∃ c,env.cells.lookup x=some c/\h.IsCell c (some u))
structure Cx.Ok (X:Cx):Prop where
 mod:Mod X.K X.mg X.base
 kind:X.env.scope.kind=.function
 glob:X.env.globals=mainGlobals
 blt:X.env.builtins=builtinsNs
 above:X.s₀.heap.objs.size<=X.env.locals
 inj:∀ x y c,X.env.cells.lookup x=some c->X.env.cells.lookup y=some c->x=y
 has:∀ x,(X.env.kindOf x=some .cell\/X.env.kindOf x=some .free)->∃ c,X.env.cells.lookup x=some c
 cab:∀ x c,X.fn x=true->X.env.cells.lookup x=some c->X.s₀.heap.objs.size<=c
 hd:X.calm=true->X.A.handled=none
 frames:X.A.frames=some X.stack
 stk:X.stack=X.outer\/(X.stack=X.env :: X.outer/\X.env.frame=some X.env.locals)
 exf:∀ b∈X.ex,b≠X.env.locals/\∀ x c,X.env.cells.lookup x=some c->c≠b
 bs:∀ b o,X.base.get? b=some o->X.s₀.heap.get? b=some o/\X.H₀ b=none
 bsz:X.base.objs.size<=X.s₀.heap.objs.size
 noex:∀ b o,X.base.get? b=some o->b ∉ X.ex
 exfs:∀ b∈X.ex,b ∉ X.fs
 funs:X.s₀.heap.FunFrames X.base X.outer
 frf:∀ b∈X.fs,X.H₀ b=none
structure Inv (X:Cx)(pins:List (Addr×Obj))(σ:List (Option V))(H:Hp)(s:Shared):Prop where
 ok:X.Ok
 os:s.os=X.s₀.os
 bare:AllBare s.gens
 base:Un X.fs X.ex X.H₀ H X.s₀.heap s.heap
 loc:∃ m,s.heap.Ns X.env.locals m/\∀ (i:Nat) (x:Str) (v:V),X.N[i]? = some x->σ[i]? = some (some v)->Vis X.env.scope x->∃ u,RelV v u/\Look X.env s.heap m x u
 cell:∀ x c,X.env.cells.lookup x=some c->∃ v,s.heap.IsCell c v
 free:H X.env.locals=none
 freeC:∀ x c,X.env.cells.lookup x=some c->H c=none
 pin:∀ p∈X.pn++pins,s.heap.get? p.1=some p.2/\H p.1=none/\p.1≠X.env.locals/\p.1 ∉ X.fs/\∀ v,p.2.data ≠ .cell v
 hok:HOk X.prog X.w H s.heap
 len:σ.length=X.N.length
section
variable {X:Cx}{pins:List (Addr×Obj)}{σ:List (Option V)}{H H':Hp}{s:Shared}{h':Heap}
theorem Cx.Ok.nofr (ok:X.Ok){b:Addr}{o:Obj}(e:X.base.get? b=some o):b ∉ X.fs:=λ hb=>by
 have:=(ok.funs.mem hb).1
 rw [e] at this; cases this
theorem Inv.bs (I:Inv X pins σ H s):∀ b o,X.base.get? b=some o->s.heap.get? b=some o/\H b=none:=λ b o e =>
 ⟨I.base.keep b o (I.ok.bs b o e).1 (I.ok.bs b o e).2 (I.ok.nofr e) (I.ok.noex b o e),I.base.free b o (I.ok.bs b o e).1 (I.ok.bs b o e).2 (I.ok.noex b o e)⟩
theorem Inv.bk (I:Inv X pins σ H s):∀ b o,X.base.get? b=some o->s.heap.get? b=some o:=λ b o e=>(I.bs b o e).1
theorem Inv.mod (I:Inv X pins σ H s):Mod X.K X.mg X.base:=I.ok.mod
theorem Inv.kIn (I:Inv X pins σ H s):X.K.In s.heap:=I.ok.mod.kin.keeps I.bk
theorem Inv.nolimit (I:Inv X pins σ H s):s.heap.NoLimit:=I.ok.mod.nolimit.keeps I.bk
theorem Inv.fr (I:Inv X pins σ H s):∃ m,Fr X.base X.env.locals s.heap m :=
 let ⟨m,hn,_⟩:=I.loc
 ⟨m,hn,I.bk,Nat.le_trans I.ok.bsz I.ok.above⟩
theorem Inv.lt (I:Inv X pins σ H s):X.env.locals < s.heap.objs.size:=let ⟨_,hn,_⟩:=I.loc; hn.lt
theorem Inv.sz (I:Inv X pins σ H s):X.s₀.heap.objs.size<=s.heap.objs.size:=Nat.le_trans I.ok.above (Nat.le_of_lt I.lt)
theorem Inv.nofs (I:Inv X pins σ H s){a:Addr}(h:s.heap.objs.size<=a):a ∉ X.fs:=λ hb=>by
 obtain ⟨_,o,ho,_⟩:=I.ok.funs.mem hb
 exact absurd (Nat.lt_of_lt_of_le (Heap.lt_size ho) (Nat.le_trans I.sz h)) (Nat.lt_irrefl _)
theorem Inv.cne (I:Inv X pins σ H s):∀ x c,X.env.cells.lookup x=some c->c≠X.env.locals:=λ x c e z=>by
 obtain ⟨v,o,ho,hd⟩:=I.cell x c e
 obtain ⟨m,⟨o',es,ep,ho',hd',_⟩,_⟩:=I.loc
 rw [z,ho'] at ho; cases ho; rw [hd'] at hd; cases hd
theorem Inv.funs (I:Inv X pins σ H s):s.heap.FunFrames X.base X.outer:=by
 have all:∀ (l:List Env),(∀ b∈frs l,b∈X.fs)->X.s₀.heap.FunFrames X.base l->s.heap.FunFrames X.base l:=by
  intro l
  induction l with
  | nil=>intro _ _; trivial
  | cons env r ih =>
   intro hs hl
   obtain ⟨hk,⟨L,o,hf,hn,ho,hd⟩,hr⟩:=hl
   have hL:L∈X.fs:=hs L (by unfold frs; rw [List.filterMap_cons,hf]; exact List.mem_cons_self)
   obtain ⟨sl,e⟩:=I.base.slot L o ho (I.ok.frf L hL) hL λ z=>I.ok.exfs L z hL
   exact ⟨hk,⟨L,_,hf,hn,e,hd⟩,ih (λ b hb=>hs b (by unfold frs; rw [List.filterMap_cons,hf]; exact List.mem_cons_of_mem _ hb)) hr⟩
 exact all X.outer (λ _ hb=>hb) I.ok.funs
theorem Inv.stack (I:Inv X pins σ H s):s.heap.FunFrames X.base X.stack:=by
 rcases I.ok.stk with e | ⟨e,hf⟩
 ·rw [e]; exact I.funs
 ·rw [e]
  obtain ⟨m,hn,_⟩:=I.loc
  refine .cons (by rw [I.ok.kind]; decide) hf hn ?_ I.funs
  exact Heap.get?_none_of_le (Nat.le_trans I.ok.bsz I.ok.above)
theorem Inv.stkSub (I:Inv X pins σ H s):∀ b∈frs X.stack,b∈X.env.locals :: X.fs:=λ b hb=>by
 rcases I.ok.stk with e | ⟨e,hf⟩
 ·rw [e] at hb; exact List.mem_cons_of_mem _ hb
 ·rw [e] at hb
  unfold frs at hb
  rw [List.filterMap_cons,hf] at hb
  exact hb
theorem Inv.stkFree (I:Inv X pins σ H s):∀ b∈frs X.stack,H b=none:=λ b hb=>by
 rcases List.mem_cons.mp (I.stkSub b hb) with e | hb
 ·rw [e]; exact I.free
 ·obtain ⟨_,o,ho,_⟩:=I.ok.funs.mem hb
  exact I.base.free b o ho (I.ok.frf b hb) λ z=>I.ok.exfs b z hb
theorem Inv.step {g':Array GenState}{t':Nat}{d':Drawn}{ch:List Addr}(I:Inv X pins σ H s)
  (hch:∀ b∈ch,(b∈X.ex\/X.s₀.heap.objs.size<=b)/\b≠X.env.locals/\(∀ x c,X.env.cells.lookup x=some c->c≠b)/\∀ p∈X.pn++pins,p.1≠b)
  (keep:∀ b o,b≠X.env.locals->b ∉ X.fs->b ∉ ch->s.heap.get? b=some o->H b=none->h'.get? b=some o)
  (slot:∀ b o,b≠X.env.locals->b∈X.fs->b ∉ ch->s.heap.get? b=some o->H b=none->∃ sl,h'.get? b=some { o with slots:=sl })(free:∀ b o,b ∉ ch->s.heap.get? b=some o->H b=none->H' b=none)
  (there:∀ b o,b ∉ ch->s.heap.get? b=some o->∃ o',h'.get? b=some o')
  (tups:∀ b xs,H b=some (.tup xs)->H' b=some (.tup xs))(frzs:∀ b o u,H b=some (.frz o u)->H' b=some (.frz o u))(tbls:∀ b ps,H b=some (.tbl ps)->∃ more,H' b=some (.tbl (ps++more)))
  (ns:∀ m,s.heap.Ns X.env.locals m->h'.Ns X.env.locals m)(hok:HOk X.prog X.w H' h')(hg:AllBare g') :
  Inv X pins σ H' { s with heap:=h',gens:=g',drawn:=d',toks:=t' }:=by
 have neL:∀ b o,X.s₀.heap.get? b=some o->b≠X.env.locals:=λ b o e=>Nat.ne_of_lt (Nat.lt_of_lt_of_le (Heap.lt_size e) I.ok.above)
 have neC:∀ b o,X.s₀.heap.get? b=some o->b ∉ X.ex->b ∉ ch:=λ b o e hx hb=>by
  rcases (hch b hb).1 with z | z
  ·exact hx z
  ·exact absurd (Nat.lt_of_lt_of_le (Heap.lt_size e) z) (Nat.lt_irrefl _)
 have cellK:∀ x c,X.env.cells.lookup x=some c->∀ v,s.heap.IsCell c v->h'.IsCell c v:=λ x c e v hq0=>by
  obtain ⟨o,ho,hd⟩:=hq0
  have nch:c ∉ ch:=λ z=>(hch c z).2.2.1 x c e rfl
  by_cases hc:c∈X.fs
  ·obtain ⟨sl,q⟩:=slot c o (I.cne x c e) hc nch ho (I.freeC x c e)
   exact ⟨_,q,hd⟩
  ·exact ⟨o,keep c o (I.cne x c e) hc nch ho (I.freeC x c e),hd⟩
 refine ⟨I.ok,I.os,hg,⟨λ b o e n hb hx=>?_,λ b o e n hb hx=>?_,λ b o e n hx=>?_,λ b o e hx=>?_,λ b xs e=>tups b xs (I.base.tups b xs e),λ b o xs e=>frzs b o xs (I.base.frzs b o xs e),λ b ps e=>?_⟩,?_,λ x c e=>?_,?_,λ x c e=>?_,λ p hp=>?_,hok,I.len⟩
 ·exact keep b o (neL b o e) hb (neC b o e hx) (I.base.keep b o e n hb hx) (I.base.free b o e n hx)
 ·obtain ⟨sl,e1⟩:=I.base.slot b o e n hb hx
  obtain ⟨sl',e2⟩:=slot b _ (neL b o e) hb (neC b o e hx) e1 (I.base.free b o e n hx)
  exact ⟨sl',e2⟩
 ·obtain ⟨o',e1⟩:=I.base.there b o e hx
  exact free b o' (neC b o e hx) e1 (I.base.free b o e n hx)
 ·obtain ⟨o',e1⟩:=I.base.there b o e hx
  exact there b o' (neC b o e hx) e1
 ·obtain ⟨m1,e1⟩:=I.base.tbls b ps e
  obtain ⟨m2,e2⟩:=tbls b _ e1
  exact ⟨m1++m2,by rw [e2,Array.append_assoc]⟩
 ·obtain ⟨m,hn,hl⟩:=I.loc
  refine ⟨m,ns m hn,λ i x v e1 e2 e3=>?_⟩
  obtain ⟨u,r,l⟩:=hl i x v e1 e2 e3
  refine ⟨u,r,?_⟩
  rcases l with l | ⟨k,c,e,z⟩
  ·exact .inl l
  ·exact .inr ⟨k,c,e,cellK x c e _ z⟩
 ·obtain ⟨v,z⟩:=I.cell x c e
  exact ⟨v,cellK x c e v z⟩
 ·obtain ⟨m,⟨o,_,_,ho,_⟩,_⟩:=I.loc
  exact free _ o (λ z=>(hch _ z).2.1 rfl) ho I.free
 ·obtain ⟨v,o,ho,hd⟩:=I.cell x c e
  exact free c o (λ z=>(hch c z).2.2.1 x c e rfl) ho (I.freeC x c e)
 ·obtain ⟨e,n,ne,nf,d⟩:=I.pin p hp
  have nch:p.1 ∉ ch:=λ z=>(hch p.1 z).2.2.2 p hp rfl
  exact ⟨keep p.1 p.2 ne nf nch e n,free p.1 p.2 nch e n,ne,nf,d⟩
theorem Inv.un {t':Nat}(I:Inv X pins σ H s)(u:Un X.fs [] H H' s.heap h')(hok:HOk X.prog X.w H' h'):Inv X pins σ H' { s with heap:=h',toks:=t' }:=by
 obtain ⟨m,⟨o,es,ep,ho,r⟩,_⟩:=id I.loc
 obtain ⟨sl,hL⟩:=u.any ho I.free (by simp)
 exact I.step (g':=s.gens) (d':=s.drawn) (ch:=[]) (λ _ z=>nomatch z) (λ b o _ hb _ e n=>u.keep b o e n hb (by simp)) (λ b o _ hb _ e n=>u.slot b o e n hb (by simp)) (λ b o _ e n=>u.free b o e n (by simp)) (λ b o _ e=>u.there b o e (by simp)) u.tups u.frzs u.tbls (λ m' hm=>by
  obtain ⟨o',es',ep',ho',r'⟩:=hm
  rw [ho] at ho'; cases ho'
  exact ⟨_,es',ep',hL,r'⟩) hok I.bare
theorem Inv.call {g':Array GenState}{t':Nat}{d':Drawn}{ch:List Addr}(I:Inv X pins σ H s)(u:Un (frs X.stack) ch H H' s.heap h')(hok:HOk X.prog X.w H' h')(hg:AllBare g')
  (hch:∀ b∈ch,(b∈X.ex\/X.s₀.heap.objs.size<=b)/\b≠X.env.locals/\(∀ x c,X.env.cells.lookup x=some c->c≠b)/\∀ p∈X.pn++pins,p.1≠b) :
  Inv X pins σ H' { s with heap:=h',gens:=g',drawn:=d',toks:=t' }:=by
 obtain ⟨m,⟨o,es,ep,ho,r⟩,_⟩:=id I.loc
 obtain ⟨sl,hL⟩:=u.any ho I.free λ z=>(hch _ z).2.1 rfl
 exact I.step (ch:=ch) hch (λ b o hL hb hc e n=>u.keep b o e n (λ z=>(List.mem_cons.mp (I.stkSub b z)).elim hL hb) hc) (λ b o _ _ hc e n=>u.any e n hc) (λ b o hc e n=>u.free b o e n hc) (λ b o hc e=>u.there b o e hc) u.tups u.frzs u.tbls (λ m' hm=>by
  obtain ⟨o',es',ep',ho',r'⟩:=hm
  rw [ho] at ho'; cases ho'
  exact ⟨_,es',ep',hL,r'⟩) hok hg
theorem Inv.turned {t':Nat}{it:Addr}(I:Inv X pins σ H s)(k:∀ b o,b≠it->s.heap.get? b=some o->h'.get? b=some o)(hn:H it=none)(hL:it≠X.env.locals)
  (h1:it∈X.ex\/X.s₀.heap.objs.size<=it)(h2:∀ x c,X.env.cells.lookup x=some c->c≠it)(h3:∀ p∈X.pn++pins,p.1≠it):Inv X pins σ H { s with heap:=h',toks:=t' }:=by
 have nit:∀ b u,H b=some u->b≠it:=λ b u e z=>by rw [z,hn] at e; cases e
 refine I.step (g':=s.gens) (d':=s.drawn) (ch:=[it]) (λ b hb=>?_) (λ b o _ _ hc e _=>k b o (λ z=>hc (by simp [z])) e) (λ b o _ _ hc e _=>⟨o.slots,k b o (λ z=>hc (by simp [z])) e⟩) (λ _ _ _ _ n=>n)
  (λ b o hc e=>⟨o,k b o (λ z=>hc (by simp [z])) e⟩) (λ _ _ e=>e) (λ _ _ _ e=>e) (λ b ps e=>⟨#[],by rw [e]; simp⟩) (λ m hm=>?_) (λ b u e=>?_) I.bare
 ·have e:b=it:=by simpa using hb
  subst e
  exact ⟨h1,hL,h2,h3⟩
 ·obtain ⟨o,es,ep,ho,r⟩:=hm
  exact ⟨o,es,ep,k _ o (Ne.symm hL) ho,r⟩
 ·refine (I.hok b u e).stay (λ c v hc q=>k c v ?_ q) (λ _ q=>q) λ _ _ q=>q
  rcases hc with z | z
  ·rw [z]; exact nit b u e
  ·exact nit c _ z
theorem Inv.tok (I:Inv X pins σ H s)(t:Nat):Inv X pins σ H { s with toks:=t }:=I.un (h':=s.heap) (t':=t) Un.refl I.hok
theorem Inv.kept {t':Nat}(I:Inv X pins σ H s)(k:∀ b u,s.heap.get? b=some u->h'.get? b=some u):Inv X pins σ H { s with heap:=h',toks:=t' }:=I.un (Un.kept k) (I.hok.kept k)
theorem Inv.laid {a:Addr}{o:HO}{t':Nat}(I:Inv X pins σ H s)(k:∀ b u,s.heap.get? b=some u->h'.get? b=some u)(hp:s.heap.objs.size<=a)(new:ObjOk X.prog X.w (upd H a o) h' a o) :
  Inv X pins σ (upd H a o) { s with heap:=h',toks:=t' }:=I.un (Un.laid k hp (I.hok.fresh hp)) (I.hok.laid k hp new)
theorem Inv.write {x e:Addr}{o:HO}{t':Nat}(I:Inv X pins σ H s)(mu:Mut (H x))(he:e=x\/H e=some (.own x))(k:∀ b u,b≠e->s.heap.get? b=some u->h'.get? b=some u)(heo:∃ u,h'.get? e=some u)
  (new:ObjOk X.prog X.w (upd H x o) h' x o):Inv X pins σ (upd H x o) { s with heap:=h',toks:=t' }:=I.un (Un.write mu he k heo) (I.hok.write mu he k heo new)
theorem Inv.pins_of {pins':List (Addr×Obj)}(I:Inv X pins σ H s)(h:∀ p∈pins',s.heap.get? p.1=some p.2/\H p.1=none/\p.1≠X.env.locals/\p.1 ∉ X.fs/\∀ v,p.2.data ≠ .cell v):Inv X pins' σ H s :=
 ⟨I.ok,I.os,I.bare,I.base,I.loc,I.cell,I.free,I.freeC,λ p hp=>(List.mem_append.mp hp).elim (λ z=>I.pin p (List.mem_append_left _ z)) (h p),I.hok,I.len⟩
theorem nodup_ix {N:List Str}(hN:N.Nodup){i j:Nat}{x:Str}(a:N[i]? = some x)(b:N[j]? = some x):i=j:=by
 obtain ⟨h1,e1⟩:=List.getElem?_eq_some_iff.mp a
 obtain ⟨h2,e2⟩:=List.getElem?_eq_some_iff.mp b
 exact (List.getElem_inj hN).mp (e1.trans e2.symm)
theorem store_ok2 {M:Model}{A:Around}{E:Value->Shared->Prop}{i:Nat}{x:Str}{v:V}{u:Value}{Q:Unit->Shared->Prop}(I:Inv X pins σ H s)(hN:X.N.Nodup)(hi:X.N[i]? = some x)(hx:Loc X.env.scope x)(r:RelV v u)
  (h:∀ s',Inv X pins (σ.set i (some v)) H s'->(∃ a,Heap.SameBut a s.heap s'.heap/\(a=X.env.locals\/X.env.cells.lookup x=some a))->Q () s')(hf:X.fn x=true\/X.env.scope.names.lookup x=some .local:=by first | exact .inl rfl | exact .inr rfl | assumption):wpAny M A (storeName X.env x u) Q E s:=by
 obtain ⟨m,hn,hl⟩:=id I.loc
 have hcls:(X.env.scope.kind == .class || (X.env.scope.kind == .module && X.env.locals != X.env.globals))=false:=by rw [I.ok.kind]; rfl
 have hiσ:i < σ.length:=by rw [I.len]; exact (List.getElem?_eq_some_iff.mp hi).1
 have cne:=I.cne
 have tracked:∀ {a:Addr} {h':Heap},(∃ o,s.heap.get? a=some o/\H a=none)->Heap.SameBut a s.heap h'->HOk X.prog X.w H h':=λ {a h'} ha hs b ob e=>by
  obtain ⟨_,_,hfree⟩:=ha
  refine (I.hok b ob e).stay (λ c w' hc q=>(hs.2 c ?_).trans q) (λ _ q=>q) λ _ _ q=>q
  rintro rfl
  rcases hc with rfl | hc
  ·rw [hfree] at e; cases e
  ·rw [hfree] at hc; cases hc
 rcases hx with hk | hk
 ·refine wpAny_storeName_local hk hn (λ h' hn' hs=>?_) hcls
  obtain ⟨oL,_,_,hoL,_⟩:=id hn
  refine h _ ⟨I.ok,I.os,I.bare,⟨λ b o e n hb hx=>?_,λ b o e n hb hx=>?_,I.base.free,λ b o e hx=>?_,I.base.tups,I.base.frzs,I.base.tbls⟩,⟨_,hn',λ j y v' e1 e2 e3=>?_⟩,λ y c e=>?_,I.free,I.freeC,λ p hp=>?_,tracked ⟨oL,hoL,I.free⟩ hs,by simpa using I.len⟩ ⟨_,hs,.inl rfl⟩
  ·exact (hs.2 b (Nat.ne_of_lt (Nat.lt_of_lt_of_le (Heap.lt_size e) I.ok.above))).trans (I.base.keep b o e n hb hx)
  ·obtain ⟨sl,e1⟩:=I.base.slot b o e n hb hx
   exact ⟨sl,(hs.2 b (Nat.ne_of_lt (Nat.lt_of_lt_of_le (Heap.lt_size e) I.ok.above))).trans e1⟩
  ·obtain ⟨o',e1⟩:=I.base.there b o e hx
   exact ⟨o',(hs.2 b (Nat.ne_of_lt (Nat.lt_of_lt_of_le (Heap.lt_size e) I.ok.above))).trans e1⟩
  ·by_cases hj:j=i
   ·subst hj
    rw [hi] at e1; cases e1
    rw [List.getElem?_set_self hiσ] at e2
    cases e2
    exact ⟨u,r,.inl ⟨hk,by simp⟩⟩
   ·rw [List.getElem?_set_ne (Ne.symm hj)] at e2
    obtain ⟨u',r',q⟩:=hl j y v' e1 e2 e3
    refine ⟨u',r',?_⟩
    rcases q with ⟨k,e⟩ | ⟨k,c,e,z⟩
    ·refine .inl ⟨k,?_⟩
     have:y≠x:=λ e=>hj (nodup_ix hN e1 (e ▸ hi))
     simp [this,e]
    ·exact .inr ⟨k,c,e,z.sameBut hs (cne y c e)⟩
  ·obtain ⟨w',z⟩:=I.cell y c e
   exact ⟨w',z.sameBut hs (cne y c e)⟩
  ·obtain ⟨e,n,ne,nf,d⟩:=I.pin p hp
   exact ⟨(hs.2 p.1 ne).trans e,n,ne,nf,d⟩
 ·have hfn:X.fn x=true:=by
   rcases hf with z | z
   ·exact z
   ·rw [z] at hk; cases hk
  obtain ⟨c,hc⟩:=I.ok.has x (.inl hk)
  obtain ⟨w',z⟩:=I.cell x c hc
  refine wpAny_storeName_cell I.ok.kind hk hc z (λ h' hc' hs=>?_)
  obtain ⟨oc,hoc,hocd⟩:=id z
  refine h { s with heap:=h' } ⟨I.ok,I.os,I.bare,⟨λ b o e n hb hx=>?_,λ b o e n hb hx=>?_,I.base.free,λ b o e hx=>?_,I.base.tups,I.base.frzs,I.base.tbls⟩,⟨m,hn.sameBut hs (Ne.symm (cne x c hc)),λ j y v' e1 e2 e3=>?_⟩,λ y c' e=>?_,I.free,I.freeC,λ p hp=>?_,tracked ⟨oc,hoc,I.freeC x c hc⟩ hs,by simpa using I.len⟩ ⟨c,hs,.inr hc⟩
  ·exact (hs.2 b (Nat.ne_of_lt (Nat.lt_of_lt_of_le (Heap.lt_size e) (I.ok.cab x c hfn hc)))).trans (I.base.keep b o e n hb hx)
  ·obtain ⟨sl,e1⟩:=I.base.slot b o e n hb hx
   exact ⟨sl,(hs.2 b (Nat.ne_of_lt (Nat.lt_of_lt_of_le (Heap.lt_size e) (I.ok.cab x c hfn hc)))).trans e1⟩
  ·obtain ⟨o',e1⟩:=I.base.there b o e hx
   exact ⟨o',(hs.2 b (Nat.ne_of_lt (Nat.lt_of_lt_of_le (Heap.lt_size e) (I.ok.cab x c hfn hc)))).trans e1⟩
  ·by_cases hj:j=i
   ·subst hj
    rw [hi] at e1; cases e1
    rw [List.getElem?_set_self hiσ] at e2
    cases e2
    exact ⟨u,r,.inr ⟨.inl hk,c,hc,hc'⟩⟩
   ·rw [List.getElem?_set_ne (Ne.symm hj)] at e2
    obtain ⟨u',r',q⟩:=hl j y v' e1 e2 e3
    refine ⟨u',r',?_⟩
    rcases q with q | ⟨k,c',e,z'⟩
    ·exact .inl q
    ·refine .inr ⟨k,c',e,z'.sameBut hs ?_⟩
     rintro rfl
     exact hj (nodup_ix hN e1 (I.ok.inj _ _ _ e hc ▸ hi))
  ·by_cases hcc:c'=c
   ·subst hcc; exact ⟨_,hc'⟩
   ·obtain ⟨w2,z2⟩:=I.cell y c' e
    exact ⟨w2,z2.sameBut hs hcc⟩
  ·obtain ⟨e,n,ne,nf,d⟩:=I.pin p hp
   refine ⟨(hs.2 p.1 ?_).trans e,n,ne,nf,d⟩
   intro q
   rw [q,hoc] at e
   have q':oc=p.2:=Option.some.inj e
   exact d w' (by rw [<- q']; exact hocd)
theorem store_ok {M:Model}{A:Around}{E:Value->Shared->Prop}{i:Nat}{x:Str}{v:V}{u:Value}{Q:Unit->Shared->Prop}(I:Inv X pins σ H s)(hN:X.N.Nodup)(hi:X.N[i]? = some x)(hx:Loc X.env.scope x)(r:RelV v u)
  (h:∀ s',Inv X pins (σ.set i (some v)) H s'->Q () s')(hf:X.fn x=true\/X.env.scope.names.lookup x=some .local:=by first | exact .inl rfl | exact .inr rfl | assumption):wpAny M A (storeName X.env x u) Q E s :=
 store_ok2 I hN hi hx r (λ s' I' _=>h s' I') hf
theorem Inv.call' {s':Shared}{ch:List Addr}(I:Inv X pins σ H s)(ho:s'.os=s.os)(u:Un (frs X.stack) ch H H' s.heap s'.heap)(hok:HOk X.prog X.w H' s'.heap)(hg:AllBare s'.gens)
  (hch:∀ b∈ch,(b∈X.ex\/X.s₀.heap.objs.size<=b)/\b≠X.env.locals/\(∀ x c,X.env.cells.lookup x=some c->c≠b)/\∀ p∈X.pn++pins,p.1≠b):Inv X pins σ H' s':=by
 obtain ⟨h',g',d',t',o'⟩:=s'
 have e:o'=s.os:=ho
 subst e
 exact I.call (g':=g') (t':=t') (d':=d') u hok hg hch
end
noncomputable abbrev XK:=Value->Option Addr->Hp->Prop
noncomputable abbrev St:=List (Option V)
noncomputable abbrev VK:=V->Hp->Prop
noncomputable abbrev TE:=St->Hp->VK->Prop
noncomputable abbrev TT:=St->Hp->(Bool->Hp->Prop)->Prop
noncomputable abbrev TA:=St->Hp->(List V->Hp->Prop)->Prop
structure Ends where
 nx:St->Hp->Prop
 rt:VK
 bk:St->Hp->Prop:=λ _ _=>False
 ct:St->Hp->Prop:=λ _ _=>False
noncomputable abbrev TS:=Ends->St->Hp->Prop
noncomputable def EP (X:Cx)(pins:List (Addr×Obj))(σ:St)(Q:VK)(u:Value)(s':Shared):Prop:=∃ v H',Inv X pins σ H' s'/\RelV v u/\Q v H'
noncomputable def TP (X:Cx)(pins:List (Addr×Obj))(σ:St)(Q:Bool->Hp->Prop)(b:Bool)(s':Shared):Prop:=∃ H',Inv X pins σ H' s'/\Q b H'
noncomputable def AP (X:Cx)(pins:List (Addr×Obj))(σ:St)(Q:List V->Hp->Prop)(us:List Value)(s':Shared):Prop:=∃ vs H',Inv X pins σ H' s'/\Vals vs us/\Q vs H'
noncomputable def SP (X:Cx)(pins:List (Addr×Obj))(D:Ends)(f:Flow)(s':Shared):Prop :=
 match f with
 | .next=>∃ σ' H',Inv X pins σ' H' s'/\D.nx σ' H'
 | .brk=>∃ σ' H',Inv X pins σ' H' s'/\D.bk σ' H'
 | .cont=>∃ σ' H',Inv X pins σ' H' s'/\D.ct σ' H'
 | .ret u=>∃ v σ' H',Inv X pins σ' H' s'/\RelV v u/\D.rt v H'
noncomputable def PE (X:Cx)(e:Expr)(t:TE):Prop :=
 ∀ (pins:List (Addr×Obj)) (s:Shared) (σ:St) (H:Hp) (Q:VK),Inv X pins σ H s->t σ H Q->wpAny (model X.prog X.w) X.A (eval e X.env) (EP X pins σ Q) X.xe s
noncomputable def PT (X:Cx)(e:Expr)(t:TT):Prop :=
 ∀ (pins:List (Addr×Obj)) (s:Shared) (σ:St) (H:Hp) (Q:Bool->Hp->Prop),Inv X pins σ H s->t σ H Q->wpAny (model X.prog X.w) X.A (isTrue e X.env (eval e X.env)) (TP X pins σ Q) X.xe s
noncomputable def PW (X:Cx)(e:Expr)(t:TT):Prop :=
 ∀ (whole:Sem Value) (pins:List (Addr×Obj)) (s:Shared) (σ:St) (H:Hp) (Q:Bool->Hp->Prop),Inv X pins σ H s->t σ H Q->wpAny (model X.prog X.w) X.A (isTrue e X.env whole) (TP X pins σ Q) X.xe s
theorem PW.pt {X:Cx}{e:Expr}{t:TT}(h:PW X e t):PT X e t:=h _
noncomputable def PA (X:Cx)(es:List Expr)(t:TA):Prop :=
 ∀ (pos:Pos) (pins:List (Addr×Obj)) (s:Shared) (σ:St) (H:Hp) (Q:List V->Hp->Prop),Inv X pins σ H s->t σ H Q->wpAny (model X.prog X.w) X.A (spliced (backTo pos (starEach es X.env))) (AP X pins σ Q) X.xe s
noncomputable def PS (X:Cx)(st:Stmt)(t:TS):Prop :=
 ∀ (pins:List (Addr×Obj)) (s:Shared) (σ:St) (H:Hp) (D:Ends),Inv X pins σ H s->t D σ H->wpAny (model X.prog X.w) X.A (exec st X.env) (SP X pins D) X.xe s
noncomputable def PSs (X:Cx)(st:List Stmt)(t:TS):Prop :=
 ∀ (pins:List (Addr×Obj)) (s:Shared) (σ:St) (H:Hp) (D:Ends),Inv X pins σ H s->t D σ H->wpAny (model X.prog X.w) X.A (execs st X.env) (SP X pins D) X.xe s
theorem thn {α:Type}{t:Sem α}{Q Q':α->Shared->Prop}{M:Model}{A:Around}{E:Value->Shared->Prop}{s:Shared}(h:wpAny M A t Q E s)(hQ:∀ a s,Q a s->Q' a s):wpAny M A t Q' E s:=wpAny_mono h hQ λ _ _ x=>x
end L2
namespace L2
open PySem PySem.Spec PyProof.Rows
section
variable {X:Cx}
noncomputable def tVar (i:Nat):TE:=λ σ H Q=>∃ v,σ[i]? = some (some v)/\Q v H
noncomputable def tC (v:V):TE:=λ _ H Q=>Q v H
theorem pe_var {i:Nat}{x:Str}{pos:Pos}(hN:X.N[i]? = some x)(hv:Vis X.env.scope x)(hd:(x == ("__debug__" : Str))=false:=by decide)(hcd:(x == ("__classdict__" : Str))=false:=by decide):PE X (.Name x pos) (tVar i):=by
 intro pins s σ H Q I h
 obtain ⟨v,e,h⟩:=h
 obtain ⟨m,hn,hl⟩:=I.loc
 obtain ⟨u,r,l⟩:=hl i x v hN e hv
 have fin:EP X pins σ Q u s:=⟨v,H,I,r,h⟩
 rcases l with ⟨hk,hm⟩ | ⟨hk,c,hc,hcell⟩
 ·exact wpAny_Name (wpAny_loadName_local I.ok.kind hk hn hm fin) hd
 ·rcases hk with hk | hk
  ·exact wpAny_Name (wpAny_loadName_cell I.ok.kind hk hc hcell fin) hd
  ·exact wpAny_Name (wpAny_loadName_free I.ok.kind hk hc hcell fin hcd) hd
theorem pe_int {i j pos}:PE X (.Constant (.int i) j pos) (tC (.int i)):=λ _ _ _ H _ I h=>wpAny_Constant_int ⟨.int i,H,I.tok _,⟨_,rfl⟩,h⟩
theorem pe_bl {b j pos}:PE X (.Constant (.bool b) j pos) (tC (.bl b)):=λ _ _ _ H _ I h=>Constant_bool ⟨.bl b,H,I,rfl,h⟩
theorem pe_non {j pos}:PE X (.Constant .none j pos) (tC .non):=λ _ _ _ H _ I h=>Constant_none ⟨.non,H,I,rfl,h⟩
theorem pe_str {x j pos}:PE X (.Constant (.str x) j pos) (tC (.str x)):=λ _ _ _ H _ I h=>Calls.Constant_str ⟨.str x,H,I.tok _,⟨_,rfl⟩,h⟩
noncomputable def Gl (X:Cx)(x:Str):Prop:=X.env.kindOf x=some .globalImplicit
theorem ld_glob {E:Value->Shared->Prop}{pins:List (Addr×Obj)}{s:Shared}{σ:St}{H:Hp}{x:Str}{u:Value}{pos:Pos}{Q:Value->Shared->Prop}(I:Inv X pins σ H s)(hg:Gl X x)(hm:X.mg x=some u)(h:Q u s)
  (hd:(x == ("__debug__" : Str))=false:=by decide):wpAny (model X.prog X.w) X.A (eval (.Name x pos) X.env) Q E s :=
 Calls.Name_function_global I.ok.kind hg (Calls.loadGlobal_global (by rw [I.ok.glob]; exact I.mod.glob.keeps I.bk) hm h) hd
theorem ld_blt {E:Value->Shared->Prop}{pins:List (Addr×Obj)}{s:Shared}{σ:St}{H:Hp}{x:Str}{u:Value}{pos:Pos}{Q:Value->Shared->Prop}(I:Inv X pins σ H s)(hg:Gl X x)(hm:X.mg x=none)(hv:bootBuiltins x=some u)(h:Q u s)
  (hn:x ≠ "__name__" := by decide)(hd:(x == ("__debug__" : Str))=false:=by decide):wpAny (model X.prog X.w) X.A (eval (.Name x pos) X.env) Q E s:=by
 obtain ⟨mb,h1,h2⟩:=I.mod.blt
 exact Calls.Name_function_global I.ok.kind hg (Calls.loadGlobal_builtin (by rw [I.ok.glob]; exact I.mod.glob.keeps I.bk) hm (by rw [I.ok.blt]; exact h1.keeps I.bk) ((h2 x hn).trans hv) h) hd
theorem pe_glob {x:Str}{v:V}{u:Value}{pos:Pos}(hg:Gl X x)(hm:X.mg x=some u)(r:RelV v u)(hd:(x == ("__debug__" : Str))=false:=by decide):PE X (.Name x pos) (tC v) :=
 λ _ _ _ H _ I h=>ld_glob I hg hm ⟨v,H,I,r,h⟩ hd
theorem pe_bltn {x:Str}{v:V}{u:Value}{pos:Pos}(hg:Gl X x)(hm:X.mg x=none)(hv:bootBuiltins x=some u)(r:RelV v u)(hn:x ≠ "__name__" := by decide)(hd:(x == ("__debug__" : Str))=false:=by decide):PE X (.Name x pos) (tC v) :=
 λ _ _ _ H _ I h=>ld_blt I hg hm hv ⟨v,H,I,r,h⟩ hn hd
variable {a b:Expr}{ta tb:TE}{pos:Pos}
noncomputable def PC (X:Cx)(op:CmpOp)(a b:Expr)(t:TE):Prop :=
 ∀ (pins:List (Addr×Obj)) (s:Shared) (σ:St) (H:Hp) (Q:VK),Inv X pins σ H s->t σ H Q ->
  wpAny (model X.prog X.w) X.A (eval a X.env) (λ v s₁=>wpAny (model X.prog X.w) X.A (eval b X.env) (λ u s₂=>wpAny (model X.prog X.w) X.A (compareOp op v u) (EP X pins σ Q) X.xe s₂) X.xe s₁) X.xe s
theorem nobehind (b:Expr){op:CmpOp}(h:op ≠ .In)(h2:op ≠ .NotIn):behindInMarks op b=false:=by
 have e1:(op == CmpOp.In)=false:=by cases op <;> first | rfl | exact absurd rfl h
 have e2:(op == CmpOp.NotIn)=false:=by cases op <;> first | rfl | exact absurd rfl h2
 cases b <;> simp [behindInMarks,e1,e2]
noncomputable def tB (t:TE):TT:=λ σ H Q=>t σ H λ x H1=>∃ c,x=.bl c/\Q c H1
theorem pt_cmp {op:CmpOp}{t:TE}(h:PC X op a b t)(h1:behindInMarks op b=false:=by first | exact nobehind _ (by decide) (by decide) | rfl):PT X (.Compare a [op] [b] pos) (tB t):=by
 intro pins s σ H Q I hw
 refine wpAny_isTrue_Compare1 (thn (h pins s σ H _ I hw) λ v s1 h1=>thn h1 λ u s2 h2=>thn h2 λ c s3 ⟨x,H1,I1,r1,q1⟩=>?_) h1
 obtain ⟨d,rfl,q⟩:=q1
 cases r1
 exact wpAny_truthy_bool ⟨H1,I1,q⟩
theorem pt_val {e:Expr}{t:TE}(h:PE X e t)(he:∀ whole,isTrue e X.env whole=(do let v <- whole; standAt e.pos; holding [v] (truthy v)):=by intro _; rfl):PT X e (tB t):=by
 intro pins s σ H Q I hw
 refine isTrue_plain (thn (h pins s σ H _ I hw) λ v s1 ⟨x,H1,I1,r1,q1⟩=>?_) (he _)
 obtain ⟨d,rfl,q⟩:=q1
 cases r1
 exact wpAny_truthy_bool ⟨H1,I1,q⟩
variable {tA tB':TT}{rest:List Expr}
noncomputable def tAnd (t u:TT):TT:=λ σ H Q=>t σ H λ c H1=>if c=true then u σ H1 Q else Q false H1
noncomputable def tOr (t u:TT):TT:=λ σ H Q=>t σ H λ c H1=>if c=true then Q true H1 else u σ H1 Q
noncomputable def tNot (t:TT):TT:=λ σ H Q=>t σ H λ c H1=>Q (!c) H1
theorem pw_and1 (ha:PT X a tA):PW X (.BoolOp .And [a] pos) tA:=by
 intro wh pins s σ H Q I h
 refine isTrue_and (thn (ha pins s σ H Q I h) λ c s1 e=>?_)
 cases c with
 | true=>exact isTrue_and_nil e
 | false=>exact e
theorem pw_or1 (ha:PT X a tA):PW X (.BoolOp .Or [a] pos) tA:=by
 intro wh pins s σ H Q I h
 refine isTrue_or (thn (ha pins s σ H Q I h) λ c s1 e=>?_)
 cases c with
 | false=>exact isTrue_or_nil e
 | true=>exact e
theorem pw_and (ha:PT X a tA)(hb:PW X (.BoolOp .And (b :: rest) pos) tB'):PW X (.BoolOp .And (a :: b :: rest) pos) (tAnd tA tB'):=by
 intro wh pins s σ H Q I h
 refine isTrue_and (thn (ha pins s σ H _ I h) λ c s1 hq1=>?_)
 obtain ⟨H1,I1,q1⟩:=hq1
 cases c with
 | true=>exact hb wh pins s1 σ H1 Q I1 q1
 | false=>exact ⟨H1,I1,q1⟩
theorem pw_or (ha:PT X a tA)(hb:PW X (.BoolOp .Or (b :: rest) pos) tB'):PW X (.BoolOp .Or (a :: b :: rest) pos) (tOr tA tB'):=by
 intro wh pins s σ H Q I h
 refine isTrue_or (thn (ha pins s σ H _ I h) λ c s1 hq2=>?_)
 obtain ⟨H1,I1,q1⟩:=hq2
 cases c with
 | true=>exact ⟨H1,I1,q1⟩
 | false=>exact hb wh pins s1 σ H1 Q I1 q1
theorem pt_not (ha:PT X a tA):PT X (.UnaryOp .Not a pos) (tNot tA):=by
 intro pins s σ H Q I h
 exact isTrue_not (ha pins s σ H (λ c H1=>Q (!c) H1) I h)
noncomputable def tAndV (ta tb:TE):TE:=λ σ H Q=>ta σ H λ x H1=>∃ c,x=.bl c/\if c=true then tb σ H1 Q else Q (.bl false) H1
noncomputable def tNotV (ta:TE):TE:=λ σ H Q=>ta σ H λ x H1=>∃ c,x=.bl c/\Q (.bl (!c)) H1
theorem pe_one {op}{t:TE}(h:PE X a t):PE X (.BoolOp op [a] pos) t:=λ pins s σ H Q I hw=>BoolOp_one (h pins s σ H Q I hw)
theorem pe_and (ha:PE X a ta)(hb:PE X (.BoolOp .And (b :: rest) pos) tb):PE X (.BoolOp .And (a :: b :: rest) pos) (tAndV ta tb):=by
 intro pins s σ H Q I h
 refine BoolOp_and (thn (ha pins s σ H _ I h) λ v s1 hq3=>?_)
 obtain ⟨x,H1,I1,r1,q1⟩:=hq3
 obtain ⟨c,rfl,q1⟩:=q1
 cases r1
 refine wpAny_truthy_bool ?_
 cases c with
 | true=>exact hb pins s1 σ H1 Q I1 q1
 | false=>exact ⟨.bl false,H1,I1,rfl,q1⟩
theorem pe_not (ha:PE X a ta):PE X (.UnaryOp .Not a pos) (tNotV ta):=by
 intro pins s σ H Q I h
 refine UnaryOp_ (thn (ha pins s σ H _ I h) λ v s1 hq4=>?_)
 obtain ⟨x,H1,I1,r1,q1⟩:=hq4
 obtain ⟨c,rfl,q1⟩:=q1
 cases r1
 exact not_of (wpAny_truthy_bool ⟨.bl (!c),H1,I1,rfl,q1⟩)
noncomputable def tIf (t:TT)(ta tb:TE):TE:=λ σ H Q=>t σ H λ c H1=>if c=true then ta σ H1 Q else tb σ H1 Q
theorem pe_ifExp {c:Expr}(hc:PT X c tA)(ha:PE X a ta)(hb:PE X b tb):PE X (.IfExp c a b pos) (tIf tA ta tb):=by
 intro pins s σ H Q I h
 refine wpAny_IfExp (thn (hc pins s σ H _ I h) λ d s1 hq5=>?_)
 obtain ⟨H1,I1,q1⟩:=hq5
 cases d with
 | true=>exact ha pins s1 σ H1 Q I1 q1
 | false=>exact hb pins s1 σ H1 Q I1 q1
end
end L2
namespace L2
open PySem PySem.Spec PyProof.Rows
noncomputable def SqL (K:PySem.W.Frag)(H:Hp)(a:Addr)(xs:List V):Prop :=
 Rd H a (.lst xs) \/
  ∃ (o:Obj) (its:Array Value) (n:Nat),K.lookup a=some o/\o.cls=.type "list" /\ o.dict=none/\o.data=.seq its n/\its.size<=sizeLine/\Vals xs its.toList
noncomputable def SqT (K:PySem.W.Frag)(H:Hp)(a:Addr)(xs:List V):Prop :=
 Rd H a (.tup xs) \/
  ∃ (o:Obj) (its:Array Value) (n:Nat),K.lookup a=some o/\o.cls=.type "tuple" /\ o.dict=none/\o.data=.seq its n/\its.size<=sizeLine/\Vals xs its.toList
noncomputable def absV:Value->Option V
 | .none=>some .non
 | .bool b=>some (.bl b)
 | .int i _=>some (.int i)
 | .str x _=>some (.str x)
 | .bytes b _=>some (.byt b)
 | .float b _=>some (.flt b)
 | .ref a=>some (.ref a)
 | .type n=>some (.ty n)
 | _=>none
theorem RelV.abs {x:V}{u:Value}(r:RelV x u):absV u=some x:=by
 cases x with
 | non=>cases r; rfl
 | bl _=>cases r; rfl
 | int _=>obtain ⟨t,rfl⟩:=r; rfl
 | str _=>obtain ⟨t,rfl⟩:=r; rfl
 | byt _=>obtain ⟨t,rfl⟩:=r; rfl
 | flt _=>obtain ⟨t,rfl⟩:=r; rfl
 | ref _=>cases r; rfl
 | ty _=>cases r; rfl
theorem RelV.inj {x y:V}{u:Value}(r:RelV x u)(q:RelV y u):x=y:=Option.some.inj (r.abs.symm.trans q.abs)
theorem Vals.inj:∀ {xs ys:List V} {us:List Value},Vals xs us->Vals ys us->xs=ys
 | _,_,_,.nil,.nil=>rfl
 | _,_,_,.cons r t,.cons r' t'=>by rw [r.inj r',Vals.inj t t']
section
variable {X:Cx}{pins:List (Addr×Obj)}{σ:St}{H:Hp}{s:Shared}{a:Addr}{xs ys:List V}
theorem SqL.of {K:PySem.W.Frag}(h:H a=some (.lst xs)):SqL K H a xs:=.inl (.inl h)
theorem SqT.of {K:PySem.W.Frag}(h:H a=some (.tup xs)):SqT K H a xs:=.inl (.inl h)
theorem Inv.list (I:Inv X pins σ H s)(h:SqL X.K H a xs):∃ its:List Value,Vals xs its/\PlainL s.heap a its.toArray/\xs.length<=sizeLine:=by
 rcases h with h | ⟨o,its,n,hk,hc,hd,hs,hz,r⟩
 ·obtain ⟨z,its,n,r,e⟩:=h.ok I.hok
  exact ⟨its,r,⟨_,n,e,rfl,rfl,rfl⟩,z⟩
 ·refine ⟨its.toList,r,⟨o,n,I.kIn a o hk,hc,hd,by simpa using hs⟩,?_⟩
  have e:=r.length
  simp only [Array.length_toList] at e
  omega
theorem Inv.tupN (I:Inv X pins σ H s)(h:SqT X.K H a xs):∃ its:List Value,Vals xs its/\TupN s.heap a its.toArray/\xs.length<=sizeLine:=by
 rcases h with h | ⟨o,its,n,hk,hc,hd,hs,hz,r⟩
 ·obtain ⟨z,its,r,p⟩:=h.ok I.hok
  exact ⟨its,r,p,z⟩
 ·refine ⟨its.toList,r,⟨o,I.kIn a o hk,hc,hd,n,by simpa using hs⟩,?_⟩
  have e:=r.length
  simp only [Array.length_toList] at e
  omega
theorem Inv.tuple (I:Inv X pins σ H s)(h:SqT X.K H a xs):∃ its:List Value,Vals xs its/\IsTup s.heap a its.toArray/\xs.length<=sizeLine:=by
 obtain ⟨its,r,p,z⟩:=I.tupN h
 exact ⟨its,r,p.tup,z⟩
theorem Inv.list_inj (I:Inv X pins σ H s)(h:SqL X.K H a xs)(h':SqL X.K H a ys):xs=ys:=by
 obtain ⟨its,r,⟨o,n,e,_,_,d⟩,_⟩:=I.list h
 obtain ⟨its',r',⟨o',n',e',_,_,d'⟩,_⟩:=I.list h'
 rw [e] at e'; cases e'
 rw [d] at d'
 injection d' with d1 _
 have:its=its':=by simpa using congrArg Array.toList d1
 subst this
 exact r.inj r'
theorem Inv.tuple_inj (I:Inv X pins σ H s)(h:SqT X.K H a xs)(h':SqT X.K H a ys):xs=ys:=by
 obtain ⟨its,r,⟨o,e,_,n,d⟩,_⟩:=I.tuple h
 obtain ⟨its',r',⟨o',e',_,n',d'⟩,_⟩:=I.tuple h'
 rw [e] at e'; cases e'
 rw [d] at d'
 injection d' with d1 _
 have:its=its':=by simpa using congrArg Array.toList d1
 subst this
 exact r.inj r'
end
noncomputable abbrev Cx.wish (X:Cx)(E:Value->Shared->Prop):Cx:={ X with xe:=E }
noncomputable abbrev Cx.nox (X:Cx):Cx:=X.wish λ _ _=>False
theorem Cx.Ok.wish {X:Cx}(ok:X.Ok)(E:Value->Shared->Prop):(X.wish E).Ok :=
 ⟨ok.mod,ok.kind,ok.glob,ok.blt,ok.above,ok.inj,ok.has,ok.cab,ok.hd,ok.frames,ok.stk,ok.exf,ok.bs,ok.bsz,ok.noex,ok.exfs,ok.funs,ok.frf⟩
theorem Cx.Ok.unwish {X:Cx}{E:Value->Shared->Prop}(ok:(X.wish E).Ok):X.Ok :=
 ⟨ok.mod,ok.kind,ok.glob,ok.blt,ok.above,ok.inj,ok.has,ok.cab,ok.hd,ok.frames,ok.stk,ok.exf,ok.bs,ok.bsz,ok.noex,ok.exfs,ok.funs,ok.frf⟩
section
variable {X:Cx}{pins:List (Addr×Obj)}{σ:St}{H:Hp}{s:Shared}{E:Value->Shared->Prop}
theorem Inv.wish (I:Inv X pins σ H s)(E:Value->Shared->Prop):Inv (X.wish E) pins σ H s:=⟨I.ok.wish E,I.os,I.bare,I.base,I.loc,I.cell,I.free,I.freeC,I.pin,I.hok,I.len⟩
theorem Inv.unwish (I:Inv (X.wish E) pins σ H s):Inv X pins σ H s:=⟨I.ok.unwish,I.os,I.bare,I.base,I.loc,I.cell,I.free,I.freeC,I.pin,I.hok,I.len⟩
theorem SP.unwish {D:Ends}{f:Flow}{s':Shared}(h:SP (X.wish E) pins D f s'):SP X pins D f s':=by
 cases f with
 | next=>obtain ⟨σ',H',I,q⟩:=h; exact ⟨σ',H',I.unwish,q⟩
 | brk=>obtain ⟨σ',H',I,q⟩:=h; exact ⟨σ',H',I.unwish,q⟩
 | cont=>obtain ⟨σ',H',I,q⟩:=h; exact ⟨σ',H',I.unwish,q⟩
 | ret u=>obtain ⟨v,σ',H',I,r,q⟩:=h; exact ⟨v,σ',H',I.unwish,r,q⟩
theorem PE.nox {e:Expr}{t:TE}(h:PE X.nox e t):PE X e t:=λ pins s σ H Q I hw =>
 wpAny_mono (h pins s σ H Q (I.wish _) hw) (λ _ _ ⟨v,H',I',r,q⟩=>⟨v,H',I'.unwish,r,q⟩) λ _ _ z=>False.elim z
theorem PT.nox {e:Expr}{t:TT}(h:PT X.nox e t):PT X e t:=λ pins s σ H Q I hw =>
 wpAny_mono (h pins s σ H Q (I.wish _) hw) (λ _ _ ⟨H',I',q⟩=>⟨H',I'.unwish,q⟩) λ _ _ z=>False.elim z
theorem PSs.nox {st:List Stmt}{t:TS}(h:PSs X.nox st t):PSs X st t:=λ pins s σ H D I hw =>
 wpAny_mono (h pins s σ H D (I.wish _) hw) (λ _ _ q=>q.unwish) λ _ _ z=>False.elim z
end
section
variable {X:Cx}{st:Stmt}{rest:List Stmt}{t u:TS}{e:Expr}{te:TE}{pos:Pos}
noncomputable def tNext:TS:=λ D σ H=>D.nx σ H
noncomputable def tSeq (t u:TS):TS:=λ D σ H=>t { D with nx:=u D } σ H
theorem pss_nil:PSs X [] tNext:=λ _ _ σ H _ I h=>wpAny_execs_nil ⟨σ,H,I,h⟩
theorem pss_cons (h1:PS X st t)(h2:PSs X rest u):PSs X (st :: rest) (tSeq t u):=by
 intro pins s σ H D I h
 refine wpAny_execs_cons (thn (h1 pins s σ H { D with nx:=u D } I h) λ f s1 q=>?_)
 cases f with
 | next =>
  obtain ⟨σ',H',I',q⟩:=q
  exact h2 pins s1 σ' H' D I' q
 | ret v=>exact q
 | brk=>exact q
 | cont=>exact q
theorem pss_one (h1:PS X st t):PSs X [st] t:=by
 intro pins s σ H D I h
 refine wpAny_execs_cons (thn (h1 pins s σ H D I h) λ f s1 q=>?_)
 cases f with
 | next=>exact wpAny_execs_nil q
 | ret v=>exact q
 | brk=>exact q
 | cont=>exact q
theorem Inv.quiet {pins:List (Addr×Obj)}{σ:St}{H:Hp}{s:Shared}(I:Inv X pins σ H s):interactive X.env=false:=by simp [interactive,I.ok.kind]
noncomputable def tDrop (te:TE):TS:=λ D σ H=>te σ H λ _ H1=>D.nx σ H1
theorem ps_expr (he:PE X e te)(hs:swapsWith e none pos.line X.env=pure false:=by rfl):PS X (.Expr e pos) (tDrop te):=by
 intro pins s σ H D I h
 exact wpAny_Expr_any (thn (he pins s σ H _ I h) λ v s1 ⟨x,H1,I1,r1,q1⟩=>⟨σ,H1,I1,q1⟩) I.quiet hs
noncomputable def tRet (te:TE):TS:=λ D σ H=>te σ H D.rt
theorem ps_ret (he:PE X e te):PS X (.Return (some e) pos) (tRet te):=by
 intro pins s σ H D I h
 exact wpAny_Return_some (thn (he pins s σ H _ I h) λ v s1 ⟨x,H1,I1,r1,q1⟩=>⟨x,σ,H1,I1,r1,q1⟩)
noncomputable def tIfS (c:TT)(t u:TS):TS:=λ D σ H=>c σ H λ b H1=>if b=true then t D σ H1 else u D σ H1
theorem ps_if {c:Expr}{a b:List Stmt}{tc:TT}(hc:PT X c tc)(ha:PSs X a t)(hb:PSs X b u):PS X (.If c a b pos) (tIfS tc t u):=by
 intro pins s σ H D I h
 refine wpAny_If (thn (hc pins s σ H _ I h) λ d s1 hq6=>?_)
 obtain ⟨H1,I1,q1⟩:=hq6
 cases d with
 | true=>exact ha pins s1 σ H1 D I1 q1
 | false=>exact hb pins s1 σ H1 D I1 q1
end
noncomputable abbrev TG:=V->St->Hp->(St->Hp->Prop)->Prop
noncomputable abbrev TGs:=List V->St->Hp->(St->Hp->Prop)->Prop
noncomputable def PG (X:Cx)(target:Expr)(t:TG):Prop :=
 ∀ (pins:List (Addr×Obj)) (s:Shared) (σ:St) (H:Hp) (v:V) (u:Value) (Q:St->Hp->Prop),Inv X pins σ H s->RelV v u->t v σ H Q ->
  wpAny (model X.prog X.w) X.A (assign target X.env u) (λ _ s'=>∃ σ' H',Inv X pins σ' H' s'/\Q σ' H') X.xe s
noncomputable def PGs (X:Cx)(ts:List Expr)(t:TGs):Prop :=
 ∀ (pins:List (Addr×Obj)) (s:Shared) (σ:St) (H:Hp) (vs:List V) (us:List Value) (Q:St->Hp->Prop),Inv X pins σ H s->Vals vs us->t vs σ H Q ->
  wpAny (model X.prog X.w) X.A (assignInOrder ((assignEach ts X.env).map (·.2)) us) (λ _ s'=>∃ σ' H',Inv X pins σ' H' s'/\Q σ' H') X.xe s
noncomputable abbrev TSet:=V->V->V->Hp->(Hp->Prop)->Prop
noncomputable def PSet (X:Cx)(t:TSet):Prop :=
 ∀ (pins:List (Addr×Obj)) (s:Shared) (σ:St) (H:Hp) (o i v:V) (ov iv u:Value) (Q:Hp->Prop),Inv X pins σ H s->RelV o ov->RelV i iv->RelV v u->t o i v H Q ->
  wpAny (model X.prog X.w) X.A (setItem ov iv u) (λ _ s'=>∃ H',Inv X pins σ H' s'/\Q H') X.xe s
noncomputable abbrev TIp:=V->V->Hp->VK->Prop
noncomputable def PIp (X:Cx)(op:Operator)(t:TIp):Prop :=
 ∀ (pins:List (Addr×Obj)) (s:Shared) (σ:St) (H:Hp) (x y:V) (v u:Value) (Q:VK),Inv X pins σ H s->RelV x v->RelV y u->t x y H Q ->
  wpAny (model X.prog X.w) X.A (inplaceOp op v u) (EP X pins σ Q) X.xe s
section
variable {X:Cx}{pos:Pos}
noncomputable def gName (i:Nat):TG:=λ v σ H Q=>Q (σ.set i (some v)) H
theorem pg_name {i:Nat}{x:Str}(hN:X.N.Nodup)(hi:X.N[i]? = some x)(hx:Loc X.env.scope x)(hf:X.fn x=true\/X.env.scope.names.lookup x=some .local:=by first | exact .inl rfl | exact .inr rfl | assumption):PG X (.Name x pos) (gName i):=by
 intro pins s σ H v u Q I r h
 exact wpAny_assign_Name (store_ok I hN hi hx r (λ s' I'=>⟨_,H,I',h⟩) hf)
noncomputable def gNil:TGs:=λ vs σ H Q=>vs=[]/\Q σ H
noncomputable def gCons (t:TG)(u:TGs):TGs:=λ vs σ H Q=>∃ v r,vs=v :: r/\t v σ H λ σ' H'=>u r σ' H' Q
theorem pgs_nil:PGs X [] gNil:=by
 intro pins s σ H vs us Q I r h
 obtain ⟨e,h⟩:=h
 subst e
 cases r
 exact assignInOrder_nil ⟨σ,H,I,h⟩
theorem pgs_cons {e:Expr}{es:List Expr}{t:TG}{u:TGs}(h1:PG X e t)(h2:PGs X es u)
  (hs:(assignEach (e :: es) X.env).map (·.2)=assign e X.env :: (assignEach es X.env).map (·.2):=by rfl):PGs X (e :: es) (gCons t u):=by
 intro pins s σ H vs us Q I r h
 obtain ⟨v,vr,e1,h⟩:=h
 subst e1
 cases r with
 | cons r rr =>
  rw [hs]
  refine assignInOrder_cons (thn (h1 pins s σ H _ _ _ I r h) λ _ s1 hq7=>?_)
  obtain ⟨σ1,H1,I1,q1⟩:=hq7
  exact h2 pins s1 σ1 H1 _ _ Q I1 rr q1
noncomputable def gTup (K:PySem.W.Frag)(n:Nat)(t:TGs):TG:=λ v σ H Q=>∃ a xs,v=.ref a/\SqT K H a xs/\xs.length=n/\t xs σ H Q
theorem pg_tup {es:List Expr}{k:Nat}{t:TGs}{n:Nat}(hc:X.calm=true)(h:PGs X es t)
  (hn:(assignEach es X.env).length=n:=by rfl)(hst:(assignEach es X.env).findIdx? (·.1)=none:=by rfl):PG X (.Tuple es k pos) (gTup X.K n t):=by
 intro pins s σ H v u Q I r hw
 obtain ⟨a,xs,e1,hq,hl,hw⟩:=hw
 subst e1
 cases r
 obtain ⟨its,rv,ht,hz⟩:=I.tuple hq
 refine assign_Tuple_tuple (I.ok.hd hc) ht (by simp [hn,<- hl,rv.length]) hst λ h' hx=>?_
 have I1:Inv X pins σ H { s with heap:=h' }:=I.kept (t':=s.toks) λ b o e=>hx b o (Nat.ne_of_lt (Heap.lt_size e)) e
 exact h pins _ σ H xs _ Q I1 (by simpa using rv) hw
noncomputable def gSub (to ti:TE)(t:TSet):TG:=λ v σ H Q=>to σ H λ o H1=>ti σ H1 λ i H2=>t o i v H2 λ H3=>Q σ H3
theorem pg_sub {o i:Expr}{to ti:TE}{t:TSet}(ho:PE X o to)(hi:PE X i ti)(hs:PSet X t)
  (ha:∀ v,assign (.Subscript o i pos) X.env v=(do
   let ov <- holding [v] (eval o X.env)
   let iv <- holding [v,ov] (eval i X.env)
   standAt pos
   holding [v,ov,iv] (setItem ov iv v)
   release [v,ov,iv] []):=by intro _; rfl):PG X (.Subscript o i pos) (gSub to ti t):=by
 intro pins s σ H v u Q I r h
 rw [ha]
 refine wpAny_bind (wpAny_holding (thn (ho pins s σ H _ I h) λ ov s1 hq8=>?_))
 obtain ⟨x,H1,I1,r1,q1⟩:=hq8
 refine wpAny_bind (wpAny_holding (thn (hi pins s1 σ H1 _ I1 q1) λ iv s2 hq9=>?_))
 obtain ⟨y,H2,I2,r2,q2⟩:=hq9
 refine wpAny_bind (wpAny_standAt (wpAny_bind (wpAny_holding (thn (hs pins s2 σ H2 x y v ov iv u _ I2 r1 r2 r q2) λ _ s3 hq10=>?_))))
 obtain ⟨H3,I3,q3⟩:=hq10
 exact wpAny_release ⟨σ,H3,I3,q3⟩
noncomputable def tAsg (te:TE)(g:TG):TS:=λ D σ H=>te σ H λ x H1=>g x σ H1 D.nx
theorem ps_asg {tg e:Expr}{te:TE}{g:TG}(he:PE X e te)(hg:PG X tg g)(hs:swapsWithSole [tg] e pos.line X.env=pure false:=by rfl)(hw:swappedStores [tg] e X.env=pure none:=by rfl)
  (h1:(assignEach [tg] X.env).map (·.2)=[assign tg X.env]:=by rfl):PS X (.Assign [tg] e pos) (tAsg te g):=by
 intro pins s σ H D I h
 refine wpAny_Assign_stores (thn (he pins s σ H _ I h) λ v s1 ⟨x,H1,I1,r1,q1⟩=>?_) hs hw
 rw [h1]
 exact thn (hg pins s1 σ H1 x v _ I1 r1 q1) λ _ s2 q=>q
theorem ps_set {i:Nat}{x:Str}{e:Expr}{te:TE}{pos':Pos}(hN:X.N.Nodup)(hi:X.N[i]? = some x)(hx:Loc X.env.scope x)(he:PE X e te)(hs:swapsWith e (some (.Name x pos')) pos.line X.env=pure false:=by rfl)(hf:X.fn x=true\/X.env.scope.names.lookup x=some .local:=by first | exact .inl rfl | exact .inr rfl | assumption) :
  PS X (.Assign [.Name x pos'] e pos) (tAsg te (gName i)):=by
 intro pins s σ H D I h
 refine wpAny_Assign_Name (thn (he pins s σ H _ I h) λ v s1 ⟨y,H1,I1,r1,q1⟩=>?_) hs
 exact store_ok I1 hN hi hx r1 (λ s2 I2=>⟨_,H1,I2,q1⟩) hf
noncomputable def tAugS (to ti te:TE)(tget:V->V->Hp->VK->Prop)(tip:TIp)(tset:TSet):TS:=λ D σ H=>to σ H λ o H1=>ti σ H1 λ i H2=>tget o i H2 λ x H3=>te σ H3 λ y H4=>tip x y H4 λ z H5=>tset o i z H5 λ H6=>D.nx σ H6
noncomputable def PGet (X:Cx)(t:V->V->Hp->VK->Prop):Prop :=
 ∀ (pins:List (Addr×Obj)) (s:Shared) (σ:St) (H:Hp) (o i:V) (ov iv:Value) (Q:VK),Inv X pins σ H s->RelV o ov->RelV i iv->t o i H Q ->
  wpAny (model X.prog X.w) X.A (getItem ov iv) (EP X pins σ Q) X.xe s
theorem ps_augS {o i e:Expr}{to ti te:TE}{tget:V->V->Hp->VK->Prop}{tip:TIp}{tset:TSet}{op:Operator}{tpos:Pos}(ho:PE X o to)(hi:PE X i ti)(hg:PGet X tget)(he:PE X e te)(hp:PIp X op tip)(hs:PSet X tset)
  (ha:∀ ov iv new,augStore i ov iv new=(do holding [new,ov,iv] (setItem ov iv new); release [new,ov,iv] []; pure .next):=by intros; rfl):PS X (.AugAssign (.Subscript o i tpos) op e pos) (tAugS to ti te tget tip tset):=by
 intro pins s σ H D I h
 refine wpAny_AugAssign_SubscriptAny (thn (ho pins s σ H _ I h) λ ov s1 ⟨x1,H1,I1,r1,q1⟩=>?_) ha
 refine thn (hi pins s1 σ H1 _ I1 q1) λ iv s2 hq11=>?_
 obtain ⟨x2,H2,I2,r2,q2⟩:=hq11
 refine thn (hg pins s2 σ H2 x1 x2 ov iv _ I2 r1 r2 q2) λ old s3 hq12=>?_
 obtain ⟨x3,H3,I3,r3,q3⟩:=hq12
 refine thn (he pins s3 σ H3 _ I3 q3) λ v s4 hq13=>?_
 obtain ⟨x4,H4,I4,r4,q4⟩:=hq13
 refine thn (hp pins s4 σ H4 x3 x4 old v _ I4 r3 r4 q4) λ new s5 hq14=>?_
 obtain ⟨x5,H5,I5,r5,q5⟩:=hq14
 exact thn (hs pins s5 σ H5 x1 x2 x5 ov iv new _ I5 r1 r2 r5 q5) λ _ s6 ⟨H6,I6,q6⟩=>⟨σ,H6,I6,q6⟩
noncomputable def ipI (f:Int->Int->Int):TIp:=λ x y H Q=>∃ i j,x=.int i/\y=.int j/\Q (.int (f i j)) H
theorem ip_add:PIp X .Add (ipI λ i j=>i+j):=by
 intro pins s σ H x y v u Q I r1 r2 h
 obtain ⟨i,j,e1,e2,q⟩:=h
 subst e1; subst e2
 obtain ⟨t,rfl⟩:=r1
 obtain ⟨t',rfl⟩:=r2
 exact iadd_int ⟨.int _,H,I.tok _,⟨_,rfl⟩,q⟩
theorem ip_sub:PIp X .Sub (ipI λ i j=>i - j):=by
 intro pins s σ H x y v u Q I r1 r2 h
 obtain ⟨i,j,e1,e2,q⟩:=h
 subst e1; subst e2
 obtain ⟨t,rfl⟩:=r1
 obtain ⟨t',rfl⟩:=r2
 exact isub_int ⟨.int _,H,I.tok _,⟨_,rfl⟩,q⟩
end
section
variable {X:Cx}{pos:Pos}
end
structure It where
 go:Nat->Hp->Prop
 yld:Nat->Hp->V->Hp->Prop
 stop:Nat->Hp->Prop
noncomputable def FpOk (X:Cx)(pins:List (Addr×Obj))(H:Hp)(b:Addr):Prop :=
 H b=none/\b≠X.env.locals/\b ∉ X.fs/\(b∈X.ex\/X.s₀.heap.objs.size<=b)/\(∀ x c,X.env.cells.lookup x=some c->c≠b)/\∀ p∈X.pn++pins,p.1≠b
theorem Inv.fpOk {X:Cx}{pins:List (Addr×Obj)}{σ:St}{H H':Hp}{s:Shared}{b:Addr}(I:Inv X pins σ H s)(hb:s.heap.objs.size<=b)(hn:H' b=none):FpOk X pins H' b:=by
 refine ⟨hn,Nat.ne_of_gt (Nat.lt_of_lt_of_le I.lt hb),I.nofs hb,.inr (Nat.le_trans I.sz hb),λ x c e z=>?_,λ p hp z=>?_⟩
 ·obtain ⟨v,q⟩:=I.cell x c e
  exact absurd (Nat.lt_of_lt_of_le q.lt (by rw [z]; exact hb)) (Nat.lt_irrefl _)
 ·exact absurd (Nat.lt_of_lt_of_le (Heap.lt_size (I.pin p hp).1) (by rw [z]; exact hb)) (Nat.lt_irrefl _)
structure Turn (P:Program)(w:World)(K:PySem.W.Frag)(tg:Expr)(J:It)(fp:List Addr)(it:Addr)(tn:Nat->Heap->Prop):Prop where
 mem:it∈fp
 obj:∀ i h,tn i h->∀ b∈fp,∃ o,h.get? b=some o/\∀ v,o.data ≠ .cell v
 keep:∀ i h h',tn i h->(∀ b∈fp,∀ o,h.get? b=some o->h'.get? b=some o)->tn i h'
 item:∀ (X:Cx),X.prog=P->X.w=w->X.K=K->X.calm=true->∀ (i:Nat) (pins:List (Addr×Obj)) (s:Shared) (σ:St) (H:Hp) (E:Value->Shared->Prop),Inv X pins σ H s->(∀ b∈fp,FpOk X pins H b)->tn i s.heap->J.go i H ->
  wpAny (model P w) X.A (pyNext (.ref it)) (λ r s1=>∃ u,r=some u /\
   wpAny (model P w) X.A (letOwnedTupleGo tg (.ref it) u) (λ _ s2=>∃ x H',Inv X pins σ H' s2/\RelV x u/\J.yld i H x H'/\tn (i+1) s2.heap/\∀ b∈fp,H' b=none) E s1) E s
 done:∀ (X:Cx),X.prog=P->X.w=w->X.K=K->X.calm=true->∀ (i:Nat) (pins:List (Addr×Obj)) (s:Shared) (σ:St) (H:Hp) (E:Value->Shared->Prop),Inv X pins σ H s->(∀ b∈fp,FpOk X pins H b)->tn i s.heap->J.stop i H ->
  wpAny (model P w) X.A (pyNext (.ref it)) (λ r s1=>r=none/\Inv X pins σ H s1) E s
 self:∀ (A:Around) (i:Nat) (s:Shared) (Q:Value->Shared->Prop) (E:Value->Shared->Prop),tn i s.heap->Q (.ref it) s->wpAny (model P w) A (pyIter (.ref it)) Q E s
noncomputable abbrev TI:=St->Hp->(It->Hp->Prop)->Prop
noncomputable def PIE (X:Cx)(pins:List (Addr×Obj))(σ:St)(tg:Expr)(R:It->Hp->Prop)(itv:Value)(s2:Shared):Prop :=
 ∃ (it:Addr) (fp:List Addr) (tn:Nat->Heap->Prop) (J:It) (H':Hp),itv=.ref it/\Inv X pins σ H' s2/\Turn X.prog X.w X.K tg J fp it tn/\tn 0 s2.heap/\(∀ b∈fp,FpOk X pins H' b)/\R J H'
noncomputable def PI (X:Cx)(tg iter:Expr)(wi:TI):Prop :=
 ∀ (pins:List (Addr×Obj)) (s:Shared) (σ:St) (H:Hp) (R:It->Hp->Prop),Inv X pins σ H s->wi σ H R ->
  wpAny (model X.prog X.w) X.A (eval iter X.env) (λ v s1=>wpAny (model X.prog X.w) X.A (pyIter v) (PIE X pins σ tg R) X.xe s1) X.xe s
theorem go_of {M:Model}{A:Around}{E:Value->Shared->Prop}{s:Shared}{tg:Expr}{it:Addr}{u:Value}{o:Obj}{n:String}{vs:Array Value}{Q:Unit->Shared->Prop}(ho:s.heap.get? it=some o)(hc:o.cls=.type n)(hd:o.data=.fields vs)
  (hn:["enumerate", "zip", "dict_itemiterator", "dict_reverseitemiterator", "odict_iterator", "itertools.zip_longest", "itertools.pairwise"].contains n=false)(hQ:Q () s):wpAny M A (letOwnedTupleGo tg (.ref it) u) Q E s:=by
 unfold letOwnedTupleGo
 cases tg <;> first
  | exact wpAny_pure hQ
  | (cases u <;> first
    | exact wpAny_pure hQ
    | (refine wpAny_bind (wpAny_load ho ?_)
       rw [hc,hd]
       show wpAny M A (if (["enumerate", "zip", "dict_itemiterator", "dict_reverseitemiterator", "odict_iterator", "itertools.zip_longest", "itertools.pairwise"].contains n && vs[0]? == some (rawInt _))=true then _ else _) Q E s
       rw [if_neg (by intro h; rw [hn,Bool.false_and] at h; cases h)]
       exact wpAny_pure hQ))
noncomputable def Itl (K:PySem.W.Frag)(a:Addr):It :=
 ⟨λ i H=>∃ xs x,SqL K H a xs/\xs[i]? = some x,λ i H x H'=>H'=H/\∀ xs,SqL K H a xs->xs[i]? = some x,λ i H=>∃ xs,SqL K H a xs/\xs.length<=i⟩
noncomputable def Itt (K:PySem.W.Frag)(a:Addr):It :=
 ⟨λ i H=>∃ xs x,SqT K H a xs/\xs[i]? = some x,λ i H x H'=>H'=H/\∀ xs,SqT K H a xs->xs[i]? = some x,λ i H=>∃ xs,SqT K H a xs/\xs.length<=i⟩
noncomputable def Itr (lo:Int)(n:Nat):It:=⟨λ i _=>i < n,λ i H x H'=>H'=H/\x=.int (lo+i),λ i _=>n<=i⟩
theorem turn_list {P:Program}{w:World}{K:PySem.W.Frag}{tg:Expr}(a it:Addr):Turn P w K tg (Itl K a) [it] it (λ i h=>h.IsListIter it a i) where
 mem:=by simp
 obj:=λ i h st b hb=>by
  have e:b=it:=by simpa using hb
  subst e
  obtain ⟨o,e,c,d⟩:=st
  exact ⟨o,e,λ v z=>by rw [d] at z; cases z⟩
 keep:=λ i h h' st k=>st.at λ o e=>k it (by simp) o e
 item:=by
  intro X hP hw hK hc i pins s σ H E I hf st hg
  subst hP hw hK
  obtain ⟨xs,x,hq,hx⟩:=hg
  obtain ⟨its,rv,p,hz⟩:=I.list hq
  obtain ⟨u,hu,ru⟩:=rv.get hx
  obtain ⟨f0,f1,f2,f3,f4,f5⟩:=hf it (by simp)
  refine wpAny_pyNext_list_item st p.isList (x:=u) (by simpa using hu) λ h' st' sb=>?_
  have I1:Inv X pins σ H { s with heap:=h' }:=I.turned (t':=s.toks) (λ b o hb e=>(sb.2 b hb).trans e) f0 f1 f3 f4 f5
  obtain ⟨o,e,c,d⟩:=id st'
  exact ⟨u,rfl,go_of (s:={ s with heap:=h' }) e c d (by decide) ⟨x,H,I1,ru,⟨rfl,λ ys hy=>by rw [I.list_inj hy hq]; exact hx⟩,st',λ b hb=>(hf b hb).1⟩⟩
 done:=by
  intro X hP hw hK hc i pins s σ H E I hf st hg
  subst hP hw hK
  obtain ⟨xs,hq,hx⟩:=hg
  obtain ⟨its,rv,p,hz⟩:=I.list hq
  obtain ⟨f0,f1,f2,f3,f4,f5⟩:=hf it (by simp)
  have hl:=rv.length
  exact wpAny_pyNext_list_end (I.ok.hd hc) st p.isList (by simp; omega) λ h' eb=>⟨rfl,I.turned (t':=s.toks) (λ b o hb e=>eb b o hb e) f0 f1 f3 f4 f5⟩
 self:=λ _ _ _ _ _ st h=>wpAny_pyIter_listiter st h
theorem turn_tuple {P:Program}{w:World}{K:PySem.W.Frag}{tg:Expr}(a it:Addr):Turn P w K tg (Itt K a) [it] it (λ i h=>h.IsTupleIter it a i) where
 mem:=by simp
 obj:=λ i h st b hb=>by
  have e:b=it:=by simpa using hb
  subst e
  obtain ⟨o,e,c,d⟩:=st
  exact ⟨o,e,λ v z=>by rw [d] at z; cases z⟩
 keep:=λ i h h' st k=>st.at λ o e=>k it (by simp) o e
 item:=by
  intro X hP hw hK hc i pins s σ H E I hf st hg
  subst hP hw hK
  obtain ⟨xs,x,hq,hx⟩:=hg
  obtain ⟨its,rv,p,hz⟩:=I.tuple hq
  obtain ⟨u,hu,ru⟩:=rv.get hx
  obtain ⟨f0,f1,f2,f3,f4,f5⟩:=hf it (by simp)
  refine wpAny_pyNext_tuple_item st (show s.heap.IsTuple a its.toArray from p) (x:=u) (by simpa using hu) λ h' st' sb=>?_
  have I1:Inv X pins σ H { s with heap:=h' }:=I.turned (t':=s.toks) (λ b o hb e=>(sb.2 b hb).trans e) f0 f1 f3 f4 f5
  obtain ⟨o,e,c,d⟩:=id st'
  exact ⟨u,rfl,go_of (s:={ s with heap:=h' }) e c d (by decide) ⟨x,H,I1,ru,⟨rfl,λ ys hy=>by rw [I.tuple_inj hy hq]; exact hx⟩,st',λ b hb=>(hf b hb).1⟩⟩
 done:=by
  intro X hP hw hK hc i pins s σ H E I hf st hg
  subst hP hw hK
  obtain ⟨xs,hq,hx⟩:=hg
  obtain ⟨its,rv,p,hz⟩:=I.tuple hq
  obtain ⟨f0,f1,f2,f3,f4,f5⟩:=hf it (by simp)
  have hl:=rv.length
  exact wpAny_pyNext_tuple_end (I.ok.hd hc) st (show s.heap.IsTuple a its.toArray from p) (by simp; omega) λ h' eb=>⟨rfl,I.turned (t':=s.toks) (λ b o hb e=>eb b o hb e) f0 f1 f3 f4 f5⟩
 self:=λ _ _ _ _ _ st h=>wpAny_pyIter_tupleiter st h
theorem turn_range {P:Program}{w:World}{K:PySem.W.Frag}{tg:Expr}(it:Addr)(lo:Int)(n:Nat):Turn P w K tg (Itr lo n) [it] it (λ i h=>IsRangeIter h it (lo+(i:Nat) * 1) ((n:Int) - (i:Nat)) 1) where
 mem:=by simp
 obj:=λ i h st b hb=>by
  have e:b=it:=by simpa using hb
  subst e
  exact ⟨_,st,λ v z=>by
   have z':Data.fields _=Data.cell v:=z
   cases z'⟩
 keep:=λ i h h' st k=>k it (by simp) _ st
 item:=by
  intro X hP hw hK hc i pins s σ H E I hf st hg
  subst hP hw hK
  obtain ⟨f0,f1,f2,f3,f4,f5⟩:=hf it (by simp)
  have W:=Walks.range (prog:=X.prog) (w:=X.w) (I.ok.hd hc) it lo 1 n
  refine W.item i s _ _ hg st λ v h' tk hv st' kk=>?_
  obtain ⟨t,rfl⟩:=hv
  have I1:Inv X pins σ H { s with heap:=h',toks:=tk }:=I.turned (λ b o hb e=>kk b o (by simpa using hb) e) f0 f1 f3 f4 f5
  refine ⟨_,rfl,go_of (s:={ s with heap:=h',toks:=tk }) (n := "range_iterator") st' rfl rfl (by decide) ⟨.int (lo+i),H,I1,⟨t,?_⟩,⟨rfl,rfl⟩,st',λ b hb=>(hf b hb).1⟩⟩
  rw [Int.mul_one]
 done:=by
  intro X hP hw hK hc i pins s σ H E I hf st hg
  subst hP hw hK
  obtain ⟨f0,f1,f2,f3,f4,f5⟩:=hf it (by simp)
  exact wpAny_pyNext_range_end (I.ok.hd hc) st (by have:n<=i:=hg; omega) λ h' eb=>⟨rfl,I.turned (t':=s.toks) (λ b o hb e=>eb b o hb e) f0 f1 f3 f4 f5⟩
 self:=λ _ _ _ _ _ st h=>wpAny_pyIter_rangeiter st h
end L2
namespace L2
open PySem PySem.Spec PyProof.Rows
section
variable {X:Cx}{tg:Expr}
theorem range_it {pins:List (Addr×Obj)}{σ:St}{H:Hp}{s:Shared}{R:It->Hp->Prop}{E:Value->Shared->Prop}{lo hi:Int}{t u v:Tok}{tk:Nat}(I:Inv X pins σ H s)(h1:-(2 ^ 62)<=lo)(h2:lo < 2 ^ 62)(h3:-(2 ^ 62)<=hi)(h4:hi < 2 ^ 62)
  (q:R (Itr lo (hi - lo).toNat) H):wpAny (model X.prog X.w) X.A (pyIter (.ref s.heap.objs.size)) (PIE X pins σ tg R) E { s with heap:=s.heap.push { cls:=.type "range",data:=.fields #[.int lo t,.int hi u,.int 1 v] },toks:=tk }:=by
 refine wpAny_pyIter_range (IsRange.new ..) (small_one h1 h2 h3 h4) ?_
 have I1:Inv X pins σ H { s with heap:=s.heap.push { cls:=.type "range",data:=.fields #[.int lo t,.int hi u,.int 1 v] },toks:=tk }:=I.kept λ b o e=>Heap.get?_push_of_some _ e
 refine ⟨(s.heap.push { cls:=.type "range",data:=.fields #[.int lo t,.int hi u,.int 1 v] }).objs.size,[(s.heap.push { cls:=.type "range",data:=.fields #[.int lo t,.int hi u,.int 1 v] }).objs.size],_,_,H,rfl,
  I1.kept (t':=tk) λ b o e=>Heap.get?_push_of_some _ e,turn_range _ lo (hi - lo).toNat,?_,λ b hb=>?_,q⟩
 ·have e1:lo+((0:Nat):Int) * 1=lo:=by simp
  have e2:(((hi - lo).toNat:Nat):Int) - ((0:Nat):Int)=Builtin.Range.rangeSize lo hi 1:=by rw [rangeSize_one]; split <;> omega
  show IsRangeIter _ _ (lo+((0:Nat):Int) * 1) ((((hi - lo).toNat:Nat):Int) - ((0:Nat):Int)) 1
  rw [e1,e2]
  exact Heap.get?_push_size _ rfl
 ·have e:b=(s.heap.push { cls:=.type "range",data:=.fields #[.int lo t,.int hi u,.int 1 v] }).objs.size:=by simpa using hb
  subst e
  exact I1.fpOk (Nat.le_refl _) (I1.hok.fresh (Nat.le_refl _))
noncomputable def iRng1 (ta:TA):TI:=λ σ H R=>ta σ H λ vs H1=>∃ j:Int,vs=[.int j]/\-(2 ^ 62)<=j/\j < 2 ^ 62/\R (Itr 0 j.toNat) H1
theorem pi_range1 {a:Expr}{ta:TA}{p pos:Pos}(hg:Gl X "range")(hm:X.mg "range" = none)(ha:PA X [a] ta)(hs:starEach [a] X.env=[(false,eval a X.env)]:=by rfl):PI X tg (.Call (.Name "range" p) [a] [] pos) (iRng1 ta):=by
 intro pins s σ H R I h
 refine Call_ (ld_blt I hg hm boot_range (PyProof.Rows.callWith_type1 (thn (ha pos pins s σ H _ I h) λ us s1 ⟨vs,H1,I1,r1,q1⟩=>?_) hs rfl))
 obtain ⟨j,e,q1,q2,q⟩:=q1
 subst e
 cases r1 with
 | cons r rr =>
  cases rr
  obtain ⟨t,rfl⟩:=r
  exact call_range_1 (range_it I1 (by omega) (by omega) q1 q2 (by simpa using q))
noncomputable def tFor (wi:TI)(g:TG)(tb:TS):TS:=λ D σ H=>wi σ H λ J H1=>∃ W:Nat->Nat->St->Hp->Prop,(∃ m,W 0 m σ H1)/\∀ i m σ H,W i m σ H ->
 (J.stop i H/\D.nx σ H)\/(J.go i H/\∃ N:St->Hp->Prop,(∀ σ' H',N σ' H'->∃ m',m' < m/\W (i+1) m' σ' H')/\∀ x H',J.yld i H x H'->g x σ H' λ σ2 H2=>tb { D with nx:=N,ct:=N,bk:=D.nx } σ2 H2)
noncomputable def pinsAt (fp:List Addr)(h:Heap):List (Addr×Obj):=fp.filterMap λ b=>(h.get? b).map λ o=>(b,o)
theorem mem_pinsAt {fp:List Addr}{h:Heap}{b:Addr}{o:Obj}(hb:b∈fp)(e:h.get? b=some o):(b,o)∈pinsAt fp h:=List.mem_filterMap.mpr ⟨b,hb,by rw [e]; rfl⟩
theorem of_pinsAt {fp:List Addr}{h:Heap}{p:Addr×Obj}(hp:p∈pinsAt fp h):p.1∈fp/\h.get? p.1=some p.2:=by
 obtain ⟨b,hb,e⟩:=List.mem_filterMap.mp hp
 cases q:h.get? b with
 | none=>rw [q] at e; cases e
 | some o =>
  rw [q] at e
  have e':(b,o)=p:=Option.some.inj e
  subst e'
  exact ⟨hb,q⟩
theorem Inv.pinned {pins:List (Addr×Obj)}{σ:St}{H:Hp}{s:Shared}{fp:List Addr}(I:Inv X pins σ H s)(hf:∀ b∈fp,FpOk X pins H b)(ho:∀ b∈fp,∃ o,s.heap.get? b=some o/\∀ v,o.data ≠ .cell v):Inv X (pins++pinsAt fp s.heap) σ H s :=
 I.pins_of λ p hp=>(List.mem_append.mp hp).elim (λ z=>I.pin p (List.mem_append_right _ z)) λ z=>by
  obtain ⟨hb,e⟩:=of_pinsAt z
  obtain ⟨f0,f1,f2,_⟩:=hf p.1 hb
  obtain ⟨o,e',d⟩:=ho p.1 hb
  rw [e] at e'; cases e'
  exact ⟨e,f0,f1,f2,d⟩
theorem Inv.unpinned {pins pl:List (Addr×Obj)}{σ:St}{H:Hp}{s:Shared}(I:Inv X (pins++pl) σ H s):Inv X pins σ H s:=I.pins_of λ p hp=>I.pin p (List.mem_append_right _ (List.mem_append_left _ hp))
theorem ps_for {iter:Expr}{body:List Stmt}{wi:TI}{g:TG}{tb:TS}{pos:Pos}(hp:PassesOwn (model X.prog X.w) X.A X.env X.xe)(hc:X.calm=true)(hi:PI X tg iter wi)(hg:PG X tg g)(hb:PSs X body tb)
  (hs:∀ x,foldedSetIterable iter X.env x=pure x:=by intro _; rfl):PS X (.For tg iter body [] pos) (tFor wi g tb):=by
 intro pins s σ H D I h
 refine wpAny_For (thn (hi pins s σ H _ I h) λ v s1 h1=>thn h1 λ itv s2 h2=>?_) hs
 obtain ⟨it,fp,tn,J,H2,e,I2,T,st2,f2,W,⟨m0,w0⟩,turn⟩:=h2
 subst e
 have stat:∀ {H':Hp},(∀ b∈fp,H' b=none)->∀ b∈fp,FpOk X pins H' b:=λ hn b hb=>⟨hn b hb,(f2 b hb).2⟩
 refine codeAny_forLoop_any (λ n s'=>∃ i σ' H',Inv X pins σ' H' s'/\tn i s'.heap/\(∀ b∈fp,H' b=none)/\W i n σ' H') ?_ m0 ⟨0,σ,H2,I2,st2,λ b hb=>(f2 b hb).1,w0⟩
 rintro n s3 ⟨i,σ3,H3,I3,st3,fr3,w3⟩
 rcases turn i n σ3 H3 w3 with ⟨stop,qn⟩ | ⟨go,N,hN,step⟩
 ·refine wpAny_passesOwn hp (thn (T.done X rfl rfl rfl hc i pins s3 σ3 H3 X.xe I3 (stat fr3) st3 stop) λ r s4 ⟨hr,I4⟩=>?_)
  subst hr
  exact wpAny_execs_nil ⟨σ3,H3,I4,qn⟩
 ·refine wpAny_passesOwn hp (thn (T.item X rfl rfl rfl hc i pins s3 σ3 H3 X.xe I3 (stat fr3) st3 go) λ r s4 ⟨u,hr,h4⟩=>?_)
  subst hr
  refine wpAny_passesOwn hp (thn h4 λ _ s5 hq15=>?_)
  obtain ⟨x,H5,I5,r5,y5,st5,fr5⟩:=hq15
  have I5':=I5.pinned (stat fr5) (T.obj _ _ st5)
  refine wpAny_passesOwn hp (thn (hg _ s5 σ3 H5 x u _ I5' r5 (step x H5 y5)) λ _ s6 hq16=>?_)
  obtain ⟨σ6,H6,I6,q6⟩:=hq16
  refine wpAny_passesOwn hp (thn (hb _ s6 σ6 H6 _ I6 q6) λ f s7 q7=>?_)
  have again:∀ {σ7:St} {H7:Hp},Inv X (pins++pinsAt fp s5.heap) σ7 H7 s7->N σ7 H7->∃ m,m < n/\∃ i σ' H',Inv X pins σ' H' s7/\tn i s7.heap/\(∀ b∈fp,H' b=none)/\W i m σ' H':=λ {σ7 H7} I7 n7=>by
   obtain ⟨m',hm,w7⟩:=hN σ7 H7 n7
   refine ⟨m',hm,i+1,σ7,H7,I7.unpinned,T.keep _ _ _ st5 λ b hb o e=>(I7.pin (b,o) (List.mem_append_right _ (List.mem_append_right _ (mem_pinsAt hb e)))).1,λ b hb=>?_,w7⟩
   obtain ⟨o,e,d⟩:=T.obj _ _ st5 b hb
   exact (I7.pin (b,o) (List.mem_append_right _ (List.mem_append_right _ (mem_pinsAt hb e)))).2.1
  cases f with
  | next=>obtain ⟨σ7,H7,I7,n7⟩:=q7; exact again I7 n7
  | cont=>obtain ⟨σ7,H7,I7,n7⟩:=q7; exact again I7 n7
  | brk=>obtain ⟨σ7,H7,I7,q7⟩:=q7; exact ⟨σ7,H7,I7.unpinned,q7⟩
  | ret v=>obtain ⟨x7,σ7,H7,I7,r7,q7⟩:=q7; exact ⟨x7,σ7,H7,I7.unpinned,r7,q7⟩
end
end L2
namespace L2
open PySem PySem.Spec PyProof.Rows
noncomputable abbrev R2:=V->V->Hp->VK->Prop
noncomputable def OpR (X:Cx)(f:Value->Value->Sem Value)(r:R2):Prop :=
 ∀ (pins:List (Addr×Obj)) (s:Shared) (σ:St) (H:Hp) (x y:V) (v u:Value) (Q:VK),Inv X pins σ H s->RelV x v->RelV y u->r x y H Q ->
  wpAny (model X.prog X.w) X.A (f v u) (EP X pins σ Q) X.xe s
noncomputable def UnR (X:Cx)(f:Value->Sem Value)(r:V->Hp->VK->Prop):Prop :=
 ∀ (pins:List (Addr×Obj)) (s:Shared) (σ:St) (H:Hp) (x:V) (v:Value) (Q:VK),Inv X pins σ H s->RelV x v->r x H Q ->
  wpAny (model X.prog X.w) X.A (f v) (EP X pins σ Q) X.xe s
noncomputable def CallR (X:Cx)(f:Value)(r:List V->Hp->VK->Prop):Prop :=
 ∀ (pins:List (Addr×Obj)) (s:Shared) (σ:St) (H:Hp) (xs:List V) (us:List Value) (Q:VK),Inv X pins σ H s->Vals xs us->r xs H Q ->
  wpAny (model X.prog X.w) X.A (call f us) (EP X pins σ Q) X.xe s
noncomputable def TruR (X:Cx)(r:V->Hp->(Bool->Hp->Prop)->Prop):Prop :=
 ∀ (pins:List (Addr×Obj)) (s:Shared) (σ:St) (H:Hp) (x:V) (v:Value) (Q:Bool->Hp->Prop),Inv X pins σ H s->RelV x v->r x H Q ->
  wpAny (model X.prog X.w) X.A (truthy v) (TP X pins σ Q) X.xe s
noncomputable def tOp (r:R2)(ta tb:TE):TE:=λ σ H Q=>ta σ H λ x H1=>tb σ H1 λ y H2=>r x y H2 Q
noncomputable def tUn (r:V->Hp->VK->Prop)(ta:TE):TE:=λ σ H Q=>ta σ H λ x H1=>r x H1 Q
noncomputable def rI (C:Int->Int->Prop)(g:Int->Int->V):R2:=λ x y H Q=>∃ i j,x=.int i/\y=.int j/\C i j/\Q (g i j) H
noncomputable def rI0 (g:Int->Int->V):R2:=λ x y H Q=>∃ i j,x=.int i/\y=.int j/\Q (g i j) H
noncomputable def rU (g:Int->V):V->Hp->VK->Prop:=λ x H Q=>∃ i,x=.int i/\Q (g i) H
section
variable {X:Cx}{a b c:Expr}{ta tb tc:TE}{pos:Pos}
theorem binT (ha:PE X a ta)(hb:PE X b tb){pins:List (Addr×Obj)}{s:Shared}{σ:St}{H:Hp}{R:V->V->Hp->Prop}(I:Inv X pins σ H s)
  (h:ta σ H λ x H1=>tb σ H1 λ y H2=>R x y H2){Q:Value->Shared->Prop}{f:Value->Value->Sem Value}
  (hf:∀ v u s2 x y H2,Inv X pins σ H2 s2->RelV x v->RelV y u->R x y H2->wpAny (model X.prog X.w) X.A (f v u) Q X.xe s2) :
  wpAny (model X.prog X.w) X.A (eval a X.env) (λ v s₁=>wpAny (model X.prog X.w) X.A (eval b X.env) (λ u s₂=>wpAny (model X.prog X.w) X.A (f v u) Q X.xe s₂) X.xe s₁) X.xe s:=by
 refine thn (ha pins s σ H _ I h) λ v s1 hq17=>?_
 obtain ⟨x,H1,I1,r1,q1⟩:=hq17
 refine thn (hb pins s1 σ H1 _ I1 q1) λ u s2 hq18=>?_
 obtain ⟨y,H2,I2,r2,q2⟩:=hq18
 exact hf v u s2 x y H2 I2 r1 r2 q2
theorem pe_op {op:Operator}{r:R2}(ho:OpR X (binaryOp op) r)(ha:PE X a ta)(hb:PE X b tb):PE X (.BinOp a op b pos) (tOp r ta tb):=by
 intro pins s σ H Q I h
 exact wpAny_BinOp (binT ha hb I h λ v u s2 x y H2 I2 rx ry q=>ho pins s2 σ H2 x y v u Q I2 rx ry q)
theorem pe_un {op:UnaryOp}{r:V->Hp->VK->Prop}(ho:UnR X (unaryOp op) r)(ha:PE X a ta):PE X (.UnaryOp op a pos) (tUn r ta):=by
 intro pins s σ H Q I h
 exact UnaryOp_ (thn (ha pins s σ H _ I h) λ v s1 ⟨x,H1,I1,r1,q1⟩=>ho pins s1 σ H1 x v Q I1 r1 q1)
theorem opI {f:Value->Value->Sem Value}{C:Int->Int->Prop}{g:Int->Int->Int}
  (rule:∀ (i j:Int) (t u:Tok) (s:Shared) (Q:Value->Shared->Prop) (E:Value->Shared->Prop),C i j->Q (.int (g i j) s.toks) { s with toks:=s.toks+1 }->wpAny (model X.prog X.w) X.A (f (.int i t) (.int j u)) Q E s) :
  OpR X f (rI C λ i j=>.int (g i j)):=by
 intro pins s σ H x y v u Q I rx ry h
 obtain ⟨i,j,rfl,rfl,hc,q⟩:=h
 obtain ⟨t,rfl⟩:=rx
 obtain ⟨t',rfl⟩:=ry
 exact rule i j t t' s _ _ hc ⟨.int (g i j),H,I.tok _,⟨_,rfl⟩,q⟩
theorem opI0 {f:Value->Value->Sem Value}{g:Int->Int->Int}
  (rule:∀ (i j:Int) (t u:Tok) (s:Shared) (Q:Value->Shared->Prop) (E:Value->Shared->Prop),Q (.int (g i j) s.toks) { s with toks:=s.toks+1 }->wpAny (model X.prog X.w) X.A (f (.int i t) (.int j u)) Q E s) :
  OpR X f (rI0 λ i j=>.int (g i j)):=by
 intro pins s σ H x y v u Q I rx ry h
 obtain ⟨i,j,rfl,rfl,q⟩:=h
 obtain ⟨t,rfl⟩:=rx
 obtain ⟨t',rfl⟩:=ry
 exact rule i j t t' s _ _ ⟨.int (g i j),H,I.tok _,⟨_,rfl⟩,q⟩
theorem opB0 {f:Value->Value->Sem Value}{g:Int->Int->Bool}
  (rule:∀ (i j:Int) (t u:Tok) (s:Shared) (Q:Value->Shared->Prop) (E:Value->Shared->Prop),Q (.bool (g i j)) s->wpAny (model X.prog X.w) X.A (f (.int i t) (.int j u)) Q E s) :
  OpR X f (rI0 λ i j=>.bl (g i j)):=by
 intro pins s σ H x y v u Q I rx ry h
 obtain ⟨i,j,rfl,rfl,q⟩:=h
 obtain ⟨t,rfl⟩:=rx
 obtain ⟨t',rfl⟩:=ry
 exact rule i j t t' s _ _ ⟨.bl (g i j),H,I,rfl,q⟩
noncomputable def CDiv (i j:Int):Prop:=0 < j/\j < 1073741824
noncomputable def CMul (i j:Int):Prop:=(-(2 ^ 64) < i/\i < 2 ^ 64)\/(-(2 ^ 64) < j/\j < 2 ^ 64)
theorem CMul.ok {i j:Int}(h:CMul i j):IntMulOk i j:=by
 rcases h with ⟨h1,h2⟩ | ⟨h1,h2⟩
 ·exact .of_left (intBits_le_64 h1 h2)
 ·exact .of_right (intBits_le_64 h1 h2)
theorem op_add:OpR X (binaryOp .Add) (rI0 λ i j=>.int (i+j)):=opI0 λ _ _ _ _ _ _ _ q=>add_int q
theorem op_sub:OpR X (binaryOp .Sub) (rI0 λ i j=>.int (i - j)):=opI0 λ _ _ _ _ _ _ _ q=>sub_int q
theorem op_mul:OpR X (binaryOp .Mult) (rI CMul λ i j=>.int (i * j)):=opI λ _ _ _ _ _ _ _ hc q=>mul_int q hc.ok
theorem op_fdiv:OpR X (binaryOp .FloorDiv) (rI CDiv λ i j=>.int (i / j)):=opI λ i j _ _ _ _ _ hc q=>by
 have h1:(0:Int) < j:=hc.1
 have h2:j < 1073741824:=hc.2
 exact floordiv_int (by omega) (by rw [Int.fdiv_eq_ediv_of_nonneg i (by omega)]; exact q) (.inl (PyProof.noPylong_small (by omega)))
theorem op_mod:OpR X (binaryOp .Mod) (rI (λ _ j=>0 < j) λ i j=>.int (i % j)):=opI λ i j _ _ _ _ _ hc q=>by
 have h1:(0:Int) < j:=hc
 exact mod_int' (by omega) (by rw [Int.fmod_eq_emod_of_nonneg i (by omega)]; exact q)
theorem unI {f:Value->Sem Value}{g:Int->Int}
  (rule:∀ (i:Int) (t:Tok) (s:Shared) (Q:Value->Shared->Prop) (E:Value->Shared->Prop),Q (.int (g i) s.toks) { s with toks:=s.toks+1 }->wpAny (model X.prog X.w) X.A (f (.int i t)) Q E s) :
  UnR X f (rU λ i=>.int (g i)):=by
 intro pins s σ H x v Q I rx h
 obtain ⟨i,rfl,q⟩:=h
 obtain ⟨t,rfl⟩:=rx
 exact rule i t s _ _ ⟨.int (g i),H,I.tok _,⟨_,rfl⟩,q⟩
theorem un_neg:UnR X (unaryOp .USub) (rU λ i=>.int (-i)):=unI λ _ _ _ _ _ q=>neg_int q
end
noncomputable def scal:V->V->Bool
 | .non,.non=>true | .non,.int _=>true | .int _,.non=>true | .non,.bl _=>true | .bl _,.non=>true | .non,.str _=>true | .str _,.non=>true
 | .int _,.int _=>true | .bl _,.bl _=>true | .str _,.str _=>true | .byt _,.byt _=>true
 | .int _,.str _=>true | .str _,.int _=>true | .bl _,.str _=>true | .str _,.bl _=>true
 | _,_=>false
noncomputable def rEq:R2:=λ x y H Q=>scal x y=true/\Q (.bl (decide (x=y))) H
noncomputable def rNe:R2:=λ x y H Q=>scal x y=true/\Q (.bl (!decide (x=y))) H
theorem dec_int {i j:Int}:decide (V.int i=V.int j)=(i == j):=by
 rw [Bool.eq_iff_iff]
 simp
theorem dec_bl {i j:Bool}:decide (V.bl i=V.bl j)=(i == j):=by
 rw [Bool.eq_iff_iff]
 simp
theorem dec_str {i j:Str}:decide (V.str i=V.str j)=(i == j):=by
 rw [Bool.eq_iff_iff]
 simp
theorem dec_byt {i j:Array UInt8}:decide (V.byt i=V.byt j)=(i.toList == j.toList):=by
 rw [Bool.eq_iff_iff]
 cases i
 cases j
 simp
section
variable {X:Cx}{a b c:Expr}{ta tb tc:TE}{pos:Pos}
theorem fin_bl {pins:List (Addr×Obj)}{σ:St}{H:Hp}{s:Shared}{Q:VK}{k k':Bool}(I:Inv X pins σ H s)(q:Q (.bl k) H)(e:k=k'):EP X pins σ Q (.bool k') s:=by
 subst e
 exact ⟨.bl k,H,I,rfl,q⟩
theorem op_eq:OpR X (compareOp .Eq) rEq:=by
 intro pins s σ H x y v u Q I rx ry h
 obtain ⟨hs,q⟩:=h
 cases x with
 | non =>
  cases rx
  cases y with
  | non=>cases ry; exact PySem.EqNone.eq_none_none (fin_bl I q (by simp))
  | bl j=>cases ry; exact PySem.EqNone.eq_none_bool (fin_bl I q (by simp))
  | int j=>obtain ⟨t',rfl⟩:=ry; exact PySem.EqNone.eq_none_int (fin_bl I q (by simp))
  | str j=>obtain ⟨t',rfl⟩:=ry; exact PySem.EqNone.eq_none_str (fin_bl I q (by simp))
  | _=>exact absurd (show false=true from hs) Bool.false_ne_true
 | bl i =>
  cases rx
  cases y with
  | non=>cases ry; exact PySem.EqNone.eq_bool_none (fin_bl I q (by simp))
  | bl j=>cases ry; exact eq_bool (fin_bl I q dec_bl)
  | str j=>obtain ⟨t',rfl⟩:=ry; exact PySem.EqMixed.eq_bool_str (fin_bl I q (by simp))
  | _=>exact absurd (show false=true from hs) Bool.false_ne_true
 | int i =>
  obtain ⟨t,rfl⟩:=rx
  cases y with
  | non=>cases ry; exact PySem.EqNone.eq_int_none (fin_bl I q (by simp))
  | int j=>obtain ⟨t',rfl⟩:=ry; exact eq_int (fin_bl I q dec_int)
  | str j=>obtain ⟨t',rfl⟩:=ry; exact PySem.EqMixed.eq_int_str (fin_bl I q (by simp))
  | _=>exact absurd (show false=true from hs) Bool.false_ne_true
 | str i =>
  obtain ⟨t,rfl⟩:=rx
  cases y with
  | non=>cases ry; exact PySem.EqNone.eq_str_none (fin_bl I q (by simp))
  | bl j=>cases ry; exact PySem.EqMixed.eq_str_bool (fin_bl I q (by simp))
  | int j=>obtain ⟨t',rfl⟩:=ry; exact PySem.EqMixed.eq_str_int (fin_bl I q (by simp))
  | str j=>obtain ⟨t',rfl⟩:=ry; exact eq_str (fin_bl I q dec_str)
  | _=>exact absurd (show false=true from hs) Bool.false_ne_true
 | byt i =>
  obtain ⟨t,rfl⟩:=rx
  cases y with
  | byt j=>obtain ⟨t',rfl⟩:=ry; exact PySem.W.eq_bytes (fin_bl I q dec_byt)
  | _=>exact absurd (show false=true from hs) Bool.false_ne_true
 | _=>cases y <;> exact absurd (show false=true from hs) Bool.false_ne_true
theorem op_ne:OpR X (compareOp .NotEq) rNe:=by
 intro pins s σ H x y v u Q I rx ry h
 obtain ⟨hs,q⟩:=h
 cases x with
 | non =>
  cases rx
  cases y with
  | non=>cases ry; exact PySem.EqNone.ne_none_none (fin_bl I q (by simp))
  | bl j=>cases ry; exact PySem.EqNone.ne_none_bool (fin_bl I q (by simp))
  | int j=>obtain ⟨t',rfl⟩:=ry; exact PySem.EqNone.ne_none_int (fin_bl I q (by simp))
  | str j=>obtain ⟨t',rfl⟩:=ry; exact PySem.EqNone.ne_none_str (fin_bl I q (by simp))
  | _=>exact absurd (show false=true from hs) Bool.false_ne_true
 | bl i =>
  cases rx
  cases y with
  | non=>cases ry; exact PySem.EqNone.ne_bool_none (fin_bl I q (by simp))
  | bl j=>cases ry; exact ne_bool (fin_bl I q (congrArg not dec_bl))
  | str j=>obtain ⟨t',rfl⟩:=ry; exact PySem.EqMixed.ne_bool_str (fin_bl I q (by simp))
  | _=>exact absurd (show false=true from hs) Bool.false_ne_true
 | int i =>
  obtain ⟨t,rfl⟩:=rx
  cases y with
  | non=>cases ry; exact PySem.EqNone.ne_int_none (fin_bl I q (by simp))
  | int j=>obtain ⟨t',rfl⟩:=ry; exact ne_int (fin_bl I q (congrArg not dec_int))
  | str j=>obtain ⟨t',rfl⟩:=ry; exact PySem.EqMixed.ne_int_str (fin_bl I q (by simp))
  | _=>exact absurd (show false=true from hs) Bool.false_ne_true
 | str i =>
  obtain ⟨t,rfl⟩:=rx
  cases y with
  | non=>cases ry; exact PySem.EqNone.ne_str_none (fin_bl I q (by simp))
  | bl j=>cases ry; exact PySem.EqMixed.ne_str_bool (fin_bl I q (by simp))
  | int j=>obtain ⟨t',rfl⟩:=ry; exact PySem.EqMixed.ne_str_int (fin_bl I q (by simp))
  | str j=>obtain ⟨t',rfl⟩:=ry; exact ne_str (fin_bl I q (congrArg not dec_str))
  | _=>exact absurd (show false=true from hs) Bool.false_ne_true
 | byt i =>
  obtain ⟨t,rfl⟩:=rx
  cases y with
  | byt j=>obtain ⟨t',rfl⟩:=ry; exact PySem.W.ne_bytes (fin_bl I q (congrArg not dec_byt))
  | _=>exact absurd (show false=true from hs) Bool.false_ne_true
 | _=>cases y <;> exact absurd (show false=true from hs) Bool.false_ne_true
theorem op_lt:OpR X (compareOp .Lt) (rI0 λ i j=>.bl (decide (i < j))):=opB0 λ _ _ _ _ _ _ _ q=>lt_int q
theorem op_le:OpR X (compareOp .LtE) (rI0 λ i j=>.bl (decide (i<=j))):=opB0 λ _ _ _ _ _ _ _ q=>le_int q
theorem op_gt:OpR X (compareOp .Gt) (rI0 λ i j=>.bl (decide (j < i))):=opB0 λ _ _ _ _ _ _ _ q=>gt_int q
theorem op_ge:OpR X (compareOp .GtE) (rI0 λ i j=>.bl (decide (j<=i))):=opB0 λ _ _ _ _ _ _ _ q=>ge_int q
theorem op_isN:OpR X (compareOp .Is) (λ x y H Q=>y=.non/\Q (.bl (decide (x=.non))) H):=by
 intro pins s σ H x y v u Q I rx ry h
 obtain ⟨rfl,q⟩:=h
 cases ry
 refine is_none_gen (fin_bl I q ?_)
 cases x <;> first
  | (cases rx; rfl)
  | (obtain ⟨t,rfl⟩:=rx; rfl)
theorem op_notN:OpR X (compareOp .IsNot) (λ x y H Q=>y=.non/\Q (.bl (!decide (x=.non))) H):=by
 intro pins s σ H x y v u Q I rx ry h
 obtain ⟨rfl,q⟩:=h
 cases ry
 refine isnot_none_gen (fin_bl I q ?_)
 cases x <;> first
  | (cases rx; rfl)
  | (obtain ⟨t,rfl⟩:=rx; rfl)
theorem OpR.or {f:Value->Value->Sem Value}{r r':R2}(h:OpR X f r)(h':OpR X f r'):OpR X f (λ x y H Q=>r x y H Q\/r' x y H Q):=by
 intro pins s σ H x y v u Q I rx ry q
 rcases q with q | q
 ·exact h pins s σ H x y v u Q I rx ry q
 ·exact h' pins s σ H x y v u Q I rx ry q
theorem pe_cmpR {op:CmpOp}{r:R2}(ho:OpR X (compareOp op) r)(ha:PE X a ta)(hb:PE X b tb)(hm:behindInMarks op b=false):PE X (.Compare a [op] [b] pos) (tOp r ta tb):=by
 intro pins s σ H Q I h
 exact wpAny_Compare1 (binT ha hb I h λ v u s2 x y H2 I2 rx ry q=>ho pins s2 σ H2 x y v u Q I2 rx ry q) hm
noncomputable def tTest (t:TE):TT:=λ σ H Q=>t σ H λ x H'=>∃ k,x=.bl k/\Q k H'
theorem pt_cmpR {op:CmpOp}{r:R2}(ho:OpR X (compareOp op) r)(ha:PE X a ta)(hb:PE X b tb)(hm:behindInMarks op b=false):PT X (.Compare a [op] [b] pos) (tTest (tOp r ta tb)):=by
 intro pins s σ H Q I h
 refine wpAny_isTrue_Compare1 (thn (ha pins s σ H _ I h) λ v s1 ⟨x,H1,I1,r1,q1⟩=>thn (hb pins s1 σ H1 _ I1 q1) λ u s2 ⟨y,H2,I2,r2,q2⟩ =>
  thn (ho pins s2 σ H2 x y v u _ I2 r1 r2 q2) λ c s3 ⟨z,H3,I3,r3,k,e,q3⟩=>?_) hm
 subst e
 cases r3
 exact wpAny_truthy_bool ⟨H3,I3,q3⟩
noncomputable def tChain (r r':R2)(ta tb tc:TE):TE:=λ σ H Q=>ta σ H λ x H1=>tb σ H1 λ y H2=>r x y H2 λ z H3=>∃ k,z=.bl k /\
 (if k=true then tc σ H3 λ w' H4=>r' y w' H4 Q else Q (.bl false) H3)
theorem pe_chain {op op':CmpOp}{r r':R2}(ho:OpR X (compareOp op) r)(ho':OpR X (compareOp op') r')(ha:PE X a ta)(hb:PE X b tb)(hc:PE X c tc)
  (hm:lastMarks [op,op'] [b,c]=false:=by with_unfolding_all rfl):PE X (.Compare a [op,op'] [b,c] pos) (tChain r r' ta tb tc):=by
 intro pins s σ H Q I h
 refine Compare_chain (thn (ha pins s σ H _ I h) λ v s1 ⟨x,H1,I1,r1,q1⟩=>chain_link (thn (hb pins s1 σ H1 _ I1 q1) λ u s2 ⟨y,H2,I2,r2,q2⟩ =>
  thn (ho pins s2 σ H2 x y v u _ I2 r1 r2 q2) λ d s3 ⟨z,H3,I3,r3,k,e,q3⟩=>?_)) hm
 subst e
 cases r3
 refine wpAny_truthy_bool ?_
 cases k with
 | false=>exact ite_ff ⟨.bl false,H3,I3,rfl,q3⟩
 | true=>exact ite_tt (chain_last (thn (hc pins s3 σ H3 _ I3 q3) λ w' s4 ⟨z',H4,I4,r4,q4⟩=>ho' pins s4 σ H4 y z' u w' Q I4 r2 r4 q4))
theorem pt_chain {op op':CmpOp}{r r':R2}(ho:OpR X (compareOp op) r)(ho':OpR X (compareOp op') r')(ha:PE X a ta)(hb:PE X b tb)(hc:PE X c tc)
  (hm:lastMarks [op,op'] [b,c]=false:=by with_unfolding_all rfl):PT X (.Compare a [op,op'] [b,c] pos) (tTest (tChain r r' ta tb tc)):=by
 intro pins s σ H Q I h
 refine isTrue_chain (thn (ha pins s σ H _ I h) λ v s1 ⟨x,H1,I1,r1,q1⟩=>test_link (thn (hb pins s1 σ H1 _ I1 q1) λ u s2 ⟨y,H2,I2,r2,q2⟩ =>
  thn (ho pins s2 σ H2 x y v u _ I2 r1 r2 q2) λ d s3 ⟨z,H3,I3,r3,k,e,q3⟩=>?_)) hm
 subst e
 cases r3
 refine wpAny_truthy_bool ?_
 cases k with
 | false =>
  obtain ⟨k',e',q'⟩:=q3
  cases e'
  exact ite_ff ⟨H3,I3,q'⟩
 | true =>
  refine ite_tt (test_last (thn (hc pins s3 σ H3 _ I3 q3) λ w' s4 ⟨z',H4,I4,r4,q4⟩=>thn (ho' pins s4 σ H4 y z' u w' _ I4 r2 r4 q4) λ d' s5 hq19=>?_))
  obtain ⟨z2,H5,I5,r5,k2,e2,q5⟩:=hq19
  subst e2
  cases r5
  exact wpAny_truthy_bool ⟨H5,I5,q5⟩
noncomputable def TruV (K:PySem.W.Frag)(x:V)(H:Hp)(k:Bool):Prop :=
 match x with
 | .non=>k=false
 | .bl b=>k=b
 | .int i=>k=(i != 0)
 | .str y=>y.length<=sizeLine/\k=((y.length:Int) != 0)
 | .byt y=>y.size<=sizeLine/\k=((y.size:Int) != 0)
 | .ref p=>(∃ xs,SqL K H p xs/\k=!xs.isEmpty)\/(∃ xs,SqT K H p xs/\k=!xs.isEmpty)\/∃ kvs,H p=some (.dK kvs)/\k=!kvs.isEmpty
 | _=>False
theorem isEmpty_kv {κ:Type}{kvs:List (κ×V)}{vs:List (κ×Value)}(r:KV kvs vs):(!vs.isEmpty)=!kvs.isEmpty:=by
 cases r <;> rfl
theorem isEmpty_of {xs:List V}{its:List Value}(r:Vals xs its):(!its.toArray.isEmpty)=!xs.isEmpty:=by
 cases r <;> simp
theorem line63:(sizeLine:Nat) < 2 ^ 63:=by rw [sizeLine_eq]; decide
theorem tru_ok:TruR X (λ x H Q=>∃ k,TruV X.K x H k/\Q k H):=by
 intro pins s σ H x v Q I rx h
 obtain ⟨k,e,q⟩:=h
 have hl:=line63
 have hs:sizeLine=16777216:=sizeLine_eq
 cases x with
 | non =>
  cases rx
  have e':k=false:=e
  subst e'
  exact truthy_none ⟨H,I,q⟩
 | bl b =>
  cases rx
  have e':k=b:=e
  subst e'
  exact wpAny_truthy_bool ⟨H,I,q⟩
 | int i =>
  obtain ⟨t,rfl⟩:=rx
  have e':k=(i != 0):=e
  subst e'
  exact PySem.P.truthy_int ⟨H,I,q⟩
 | str y =>
  obtain ⟨t,rfl⟩:=rx
  obtain ⟨hy,e'⟩:y.length<=sizeLine/\k=((y.length:Int) != 0):=e
  subst e'
  exact PySem.P.truthy_str (by omega) ⟨H,I.tok _,q⟩
 | byt y =>
  obtain ⟨t,rfl⟩:=rx
  obtain ⟨hy,e'⟩:y.size<=sizeLine/\k=((y.size:Int) != 0):=e
  subst e'
  exact PySem.W.truthy_bytes (by omega) ⟨H,I.tok _,q⟩
 | ref p =>
  cases rx
  have e':(∃ xs,SqL X.K H p xs/\k=!xs.isEmpty)\/(∃ xs,SqT X.K H p xs/\k=!xs.isEmpty)\/∃ kvs,H p=some (.dK kvs)/\k=!kvs.isEmpty:=e
  rcases e' with ⟨xs,hx,e'⟩ | ⟨xs,hx,e'⟩ | ⟨kvs,hx,e'⟩
  ·subst e'
   obtain ⟨its,r,pl,hz⟩:=I.list hx
   have hlen:=r.length
   exact wpAny_truthy_list pl.isList (by simp only [List.size_toArray]; omega) ⟨H,I.tok _,by rw [isEmpty_of r]; exact q⟩
  ·subst e'
   obtain ⟨its,r,pl,hz⟩:=I.tuple hx
   have hlen:=r.length
   exact truthy_tuple pl (by simp only [List.size_toArray]; omega) ⟨H,I.tok _,by rw [isEmpty_of r]; exact q⟩
  ·subst e'
   obtain ⟨hz,hS,vs,r,m⟩:kvs.length<=sizeLine/\(p == sysModules)=false/\∃ vs,KV kvs vs/\s.heap.DictOf (mixKind X.prog X.w) p vs:=I.hok p _ hx
   have hlen:kvs.length=vs.length:=Paired.length r
   exact wpAny_truthy_dict hS m (by omega) ⟨H,I.tok _,by rw [isEmpty_kv r]; exact q⟩
 | _=>exact (show False from e).elim
theorem pt_truth (ha:PE X a ta)(he:∀ whole,isTrue a X.env whole=(do let v <- whole; standAt a.pos; holding [v] (truthy v))) :
  PT X a (λ σ H Q=>ta σ H λ x H'=>∃ k,TruV X.K x H' k/\Q k H'):=by
 intro pins s σ H Q I h
 exact isTrue_plain (thn (ha pins s σ H _ I h) λ v s1 ⟨x,H1,I1,r1,q1⟩=>tru_ok pins s1 σ H1 x v Q I1 r1 q1) (he _)
theorem op_add_str:OpR X (binaryOp .Add) (λ x y H Q=>∃ i j,x=.str i/\y=.str j/\i.length+j.length<=sizeLine/\Q (.str (i++j)) H):=by
 intro pins s σ H x y v u Q I rx ry h
 obtain ⟨i,j,rfl,rfl,hz,q⟩:=h
 obtain ⟨t,rfl⟩:=rx
 obtain ⟨t',rfl⟩:=ry
 exact add_str (λ t' tk=>⟨.str (i++j),H,I.tok _,⟨_,rfl⟩,q⟩) hz
theorem vals1 {x:V}{us:List Value}(r:Vals [x] us):∃ u,us=[u]/\RelV x u:=by
 cases r with
 | cons r1 r2=>cases r2; exact ⟨_,rfl,r1⟩
theorem vals2 {x y:V}{us:List Value}(r:Vals [x,y] us):∃ u w',us=[u,w']/\RelV x u/\RelV y w':=by
 cases r with
 | cons r1 r2 =>
  cases r2 with
  | cons r3 r4=>cases r4; exact ⟨_,_,rfl,r1,r3⟩
theorem call_abs:CallR X (.builtin "abs") (λ xs H Q=>∃ i,xs=[.int i]/\Q (.int (if i < 0 then -i else i)) H):=by
 intro pins s σ H xs us Q I r h
 obtain ⟨i,rfl,q⟩:=h
 obtain ⟨u,rfl,t,rfl⟩:=vals1 r
 exact call_abs_int λ u tk=>⟨.int (if i < 0 then -i else i),H,I.tok _,⟨_,rfl⟩,q⟩
theorem call_max2 (hc:X.calm=true):CallR X (.builtin "max") (λ xs H Q=>∃ i j,xs=[.int i,.int j]/\Q (.int (if j > i then j else i)) H):=by
 intro pins s σ H xs us Q I r h
 obtain ⟨i,j,rfl,q⟩:=h
 obtain ⟨u,w',rfl,⟨t,rfl⟩,⟨t',rfl⟩⟩:=vals2 r
 refine max_two_ints (I.ok.hd hc) λ h' tk k=>⟨_,H,I.kept k,?_,q⟩
 by_cases hj:j > i
 ·rw [if_pos hj,if_pos hj]; exact ⟨_,rfl⟩
 ·rw [if_neg hj,if_neg hj]; exact ⟨_,rfl⟩
theorem call_min2 (hc:X.calm=true):CallR X (.builtin "min") (λ xs H Q=>∃ i j,xs=[.int i,.int j]/\Q (.int (if j < i then j else i)) H):=by
 intro pins s σ H xs us Q I r h
 obtain ⟨i,j,rfl,q⟩:=h
 obtain ⟨u,w',rfl,⟨t,rfl⟩,⟨t',rfl⟩⟩:=vals2 r
 refine min_two_ints (I.ok.hd hc) λ h' tk k=>⟨_,H,I.kept k,?_,q⟩
 by_cases hj:j < i
 ·rw [if_pos hj,if_pos hj]; exact ⟨_,rfl⟩
 ·rw [if_neg hj,if_neg hj]; exact ⟨_,rfl⟩
noncomputable def LenV (K:PySem.W.Frag)(x:V)(H:Hp)(n:Nat):Prop :=
 match x with
 | .str y=>y.length<=sizeLine/\n=y.length
 | .byt y=>y.size<=sizeLine/\n=y.size
 | .ref p=>(∃ xs,SqL K H p xs/\n=xs.length)\/∃ xs,SqT K H p xs/\n=xs.length
 | _=>False
theorem call_len:CallR X (.builtin "len") (λ xs H Q=>∃ x n,xs=[x]/\LenV X.K x H n/\Q (.int n) H):=by
 intro pins s σ H xs us Q I r h
 obtain ⟨x,n,rfl,e,q⟩:=h
 obtain ⟨u,rfl,rx⟩:=vals1 r
 have hl:=line63
 have hs:sizeLine=16777216:=sizeLine_eq
 cases x with
 | str y =>
  obtain ⟨t,rfl⟩:=rx
  obtain ⟨hy,e'⟩:y.length<=sizeLine/\n=y.length:=e
  subst e'
  exact len_str (by omega) ⟨.int _,H,I.tok _,⟨_,rfl⟩,q⟩
 | byt y =>
  obtain ⟨t,rfl⟩:=rx
  obtain ⟨hy,e'⟩:y.size<=sizeLine/\n=y.size:=e
  subst e'
  exact PySem.W.len_bytes (by omega) ⟨.int _,H,I.tok _,⟨_,rfl⟩,q⟩
 | ref p =>
  cases rx
  have e':(∃ xs,SqL X.K H p xs/\n=xs.length)\/∃ xs,SqT X.K H p xs/\n=xs.length:=e
  rcases e' with ⟨xs,hx,e'⟩ | ⟨xs,hx,e'⟩
  ·subst e'
   obtain ⟨its,r',pl,hz⟩:=I.list hx
   have hlen:=r'.length
   exact Calls.call_len_list pl.isList (by simp only [List.size_toArray]; omega) ⟨.int xs.length,H,I.tok _,⟨_,by simp only [List.size_toArray]; rw [hlen]⟩,q⟩
  ·subst e'
   obtain ⟨its,r',pl,hz⟩:=I.tuple hx
   have hlen:=r'.length
   exact len_tuple pl (by simp only [List.size_toArray]; omega) ⟨.int xs.length,H,I.tok _,⟨_,by simp only [List.size_toArray]; rw [hlen]⟩,q⟩
 | _=>exact (show False from e).elim
end
end L2
namespace L2
open PySem PySem.Spec PyProof.Rows
structure ObjM (h:Heap)(x dx C:Addr)(mA:Str->Option Value):Prop where
 obj:h.get? x=some (PySem.W.instObj C dx)
 ns:h.Ns1 dx mA
 ne:dx≠x
theorem lookIn_ns {h:Heap}{dx:Addr}{mA:Str->Option Value}(n:h.Ns1 dx mA):∃ od,h.get? dx=some od/\∀ name,PySem.W.lookIn name od=some (mA name):=by
 obtain ⟨o,es,ep,ho,hd,hk,_,hm⟩:=n
 refine ⟨o,ho,λ name=>?_⟩
 have e:=hm name
 unfold nsFind findBy at e
 rw [<- Array.find?_toList] at e
 unfold PySem.W.lookIn
 rw [hd]
 dsimp only
 split
 ·rename_i y q
  rw [q] at e
  exact congrArg some e
 ·rename_i q
  rw [q] at e
  have a:es.toList.any (·.refKey)=false:=by
   rw [List.any_eq_false]
   intro y hy
   obtain ⟨z,t,hkey⟩:=hk y (Array.mem_toList_iff.mp hy)
   simp [DictEntry.refKey,hkey]
  have a':¬ es.toList.any (·.refKey)=true:=by rw [a]; exact Bool.false_ne_true
  rw [if_neg a']
  exact congrArg some e
theorem ObjM.look {h:Heap}{x dx C:Addr}{mA:Str->Option Value}(I:ObjM h x dx C mA):∃ od,PySem.W.InstAt h x (PySem.W.instObj C dx) C (some od)/\∀ name,PySem.W.lookIn name od=some (mA name) :=
 let ⟨od,ho,hl⟩:=lookIn_ns I.ns
 ⟨od,⟨I.obj,rfl,rfl,ho⟩,hl⟩
section
variable {prog:Program}{w:World}{A:Around}{E:Value->Shared->Prop}{s:Shared}{K:PySem.W.Frag}{x dx C f:Addr}{mA:Str->Option Value}{name:Str}{v:Value}
theorem get_map {expr:Bool}{Q:Value->Shared->Prop}(X:K.In s.heap)(I:ObjM s.heap x dx C mA)(hg:PySem.W.plainGet K C name=true)(hh:PySem.W.hasDictIn K C=true)
  (ha:PySem.W.findIn K (.ref C) name=some none)(hv:mA name=some v)(hv':PySem.W.handedIn v=true)(h:Q v { s with toks:=s.toks+1 }) :
  wpAny (model prog w) A (getAttr (.ref x) name expr) Q E s:=by
 obtain ⟨od,J,hl⟩:=I.look
 exact PySem.W.get_value X J (PySem.W.plainGet_of hg).1 (PySem.W.findObj_own hh ha rfl (by rw [hl,hv])) hv' h
theorem get_meth {pl:Sem Bool}{Q:Value×List Value->Shared->Prop}(X:K.In s.heap)(I:ObjM s.heap x dx C mA)(hg:PySem.W.plainGet K C name=true)
  (hf:PySem.W.findIn K (.ref C) name=some (some (.ref f)))(ht:PySem.W.isFn K (.ref f)=true)(hv:mA name=none)(h:Q (.ref f,[.ref x]) s) :
  wpAny (model prog w) A (getMethod (.ref x) name pl) Q E s:=by
 obtain ⟨od,J,hl⟩:=I.look
 exact PySem.W.method_fn X J (PySem.W.plainGet_of hg).1 (PySem.W.plainGet_of hg).2 hf (beq_iff_eq.mp ht) (by show (PySem.W.lookIn name od).map (·.isSome)=some false; rw [hl,hv]; rfl) h
theorem set_map {ns:List Str}{Q:Unit->Shared->Prop}(X:K.In s.heap)(I:ObjM s.heap x dx C mA)
  (hs:PySem.W.findIn K (.ref C) "__setattr__" = some (some (.builtin "object.__setattr__")))(hp:PySem.W.plainOver K C=true)(ht:PySem.W.takerIn K C name=some none)(hh:PySem.W.hasDictIn K C=true)
  (hw:PySem.Within mA ns)(hsz:ns.length<=sizeLine)
  (h:∀ h',ObjM h' x dx C (λ y=>if y=name then some v else mA y)->Heap.SameBut dx s.heap h'->Q () { s with heap:=h',toks:=s.toks+2 }) :
  wpAny (model prog w) A (setAttr (.ref x) name v) Q E s:=by
 obtain ⟨od,J,hl⟩:=I.look
 refine PySem.W.set_plain X J hs (PySem.W.osa_open (s:={ s with toks:=s.toks+1 }) (r:=none) X J hp ht λ b=>?_)
 obtain ⟨cd,hc,hd'⟩:=PySem.W.any_some hh
 have hx:s.heap.get? x=some ⟨.ref C,some dx,.plain,#[]⟩:=I.obj
 refine wpAny_bind (wpAny_pure (wpAny_bind (wpAny_bind (wpAny_loadPart hx (wpAny_bind (PySem.W.Looks.here (s:={ s with toks:=s.toks+1 }) (PySem.W.looks_clsIn X hc) ?_))))))
 rw [hd']
 refine wpAny_pure (a:=some dx) (wpAny_bind (wpAny_pure (wpAny_bind ?_)))
 refine wpAny_nsSet1 (s:={ s with toks:=s.toks+1 }) I.ns λ h' hn2 hs2=>?_
 obtain ⟨oD,esD,epD,hoD,hdD,hcD⟩:=hn2.count (PySem.Within.cons name v hw)
 refine wpAny_bind (wpAny_lookBehind hoD (by rw [hdD]; exact pastItsLine_dict (Nat.le_trans hcD (by rw [List.length_cons]; omega))) ?_)
 exact wpAny_pure (h _ ⟨(hs2.2 _ (Ne.symm I.ne)).trans I.obj,hn2,I.ne⟩ hs2)
theorem make_map {R:Result->Shared->Prop}{vs:List Value}{kw:List (Str×Value)}(X:K.In s.heap)(hm:PySem.W.makesIn K C=true)
  (hi:PySem.W.findIn K (.ref C) "__init__" = some (some (.ref f)))(hf:PySem.W.typeIn K (.ref f)=some (.type "function"))
  (h:codeAny (model prog w) (A.under (.builtin "type.__call__" ⟨.ref C :: vs,kw⟩)) (.call (.ref f) ⟨.ref (s.heap.objs.size+1) :: vs,kw⟩) (PySem.W.InitBack (s.heap.objs.size+1) R)
   {s with heap:=(s.heap.push PySem.W.emptyDict).push (PySem.W.instObj C s.heap.objs.size) }) :
  codeAny (model prog w) A (.call (.ref C) ⟨vs,kw⟩) R s:=by
 obtain ⟨hh,g,d,t,os⟩:=s
 exact PySem.W.make_core (PySem.W.makes_of X hm) (PySem.W.looks_findIn X hi) (λ self=>PySem.W.bind_fn X self hf) (.inl rfl) h
end
noncomputable def putF (f:Str)(v:V):List (Str×V)->List (Str×V)
 | []=>[(f,v)]
 | (g,x) :: r=>if g=f then (g,v) :: r else (g,x) :: putF f v r
theorem lookup_putF (f g:Str)(v:V):∀ fs:List (Str×V),(putF f v fs).lookup g=if g=f then some v else fs.lookup g
 | []=>by
  show List.lookup g [(f,v)]=_
  by_cases h:g=f
  ·have hb:(g == f)=true:=beq_iff_eq.mpr h
   simp only [List.lookup,hb,if_pos h]
  ·have hb:(g == f)=false:=beq_eq_false_iff_ne.mpr h
   simp only [List.lookup,hb,if_neg h]
 | (k,x) :: r=>by
  have ih:=lookup_putF f g v r
  rw [show putF f v ((k,x) :: r)=(if k=f then (k,v) :: r else (k,x) :: putF f v r) from rfl]
  by_cases hk:k=f
  ·rw [if_pos hk]
   by_cases h:g=k
   ·have hb:(g == k)=true:=beq_iff_eq.mpr h
    simp only [List.lookup,hb,if_pos (h.trans hk)]
   ·have hb:(g == k)=false:=beq_eq_false_iff_ne.mpr h
    simp only [List.lookup,hb,if_neg (λ e:g=f=>h (e.trans hk.symm))]
  ·rw [if_neg hk]
   by_cases h:g=k
   ·have hb:(g == k)=true:=beq_iff_eq.mpr h
    simp only [List.lookup,hb,if_neg (λ e:g=f=>hk (h.symm.trans e))]
   ·have hb:(g == k)=false:=beq_eq_false_iff_ne.mpr h
    simp only [List.lookup,hb]
    exact ih
theorem keys_putF (f:Str)(v:V):∀ fs:List (Str×V),f∈(putF f v fs).map (·.1)/\∀ g,g∈fs.map (·.1)->g∈(putF f v fs).map (·.1)
 | []=>⟨by simp [putF],λ g h=>by simp at h⟩
 | (k,x) :: r=>by
  obtain ⟨i1,i2⟩:=keys_putF f v r
  rw [show putF f v ((k,x) :: r)=(if k=f then (k,v) :: r else (k,x) :: putF f v r) from rfl]
  by_cases hk:k=f
  ·rw [if_pos hk]
   subst hk
   exact ⟨by simp,λ g h=>by simpa using h⟩
  ·rw [if_neg hk]
   refine ⟨?_,λ g h=>?_⟩
   ·rw [List.map_cons]
    exact List.mem_cons_of_mem _ i1
   ·rw [List.map_cons] at h ⊢
    rcases List.mem_cons.mp h with e | e
    ·exact List.mem_cons.mpr (.inl e)
    ·exact List.mem_cons_of_mem _ (i2 g e)
theorem length_putF (f:Str)(v:V):∀ fs:List (Str×V),(putF f v fs).length<=fs.length+1
 | []=>by simp [putF]
 | (k,x) :: r=>by
  have ih:=length_putF f v r
  rw [show putF f v ((k,x) :: r)=(if k=f then (k,v) :: r else (k,x) :: putF f v r) from rfl]
  by_cases hk:k=f
  ·rw [if_pos hk,List.length_cons,List.length_cons]; omega
  ·rw [if_neg hk,List.length_cons,List.length_cons]; omega
theorem RelO.some_of {v:V}{o:Option Value}(r:RelO (some v) o):∃ u,o=some u/\RelV v u:=by
 cases o with
 | none=>exact (show False from r).elim
 | some u=>exact ⟨u,rfl,r⟩
theorem RelO.none_of {o:Option Value}(r:RelO none o):o=none:=by
 cases o with
 | none=>rfl
 | some u=>exact (show False from r).elim
theorem handed_of {v:V}{u:Value}(r:RelV v u):PySem.W.handedIn u=true:=by
 cases v with
 | non=>cases (show u=Value.none from r); rfl
 | bl b=>cases (show u=Value.bool b from r); rfl
 | int i=>obtain ⟨t,e⟩:=(show ∃ t,u=Value.int i t from r); cases e; rfl
 | str x=>obtain ⟨t,e⟩:=(show ∃ t,u=Value.str x t from r); cases e; rfl
 | byt b=>obtain ⟨t,e⟩:=(show ∃ t,u=Value.bytes b t from r); cases e; rfl
 | flt b=>obtain ⟨t,e⟩:=(show ∃ t,u=Value.float b t from r); cases e; rfl
 | ref a=>cases (show u=Value.ref a from r); rfl
 | ty n=>cases (show u=Value.type n from r); rfl
section
variable {P:Program}{w:World}{H H':Hp}{h h':Heap}{a C dx:Addr}{fs fs':List (Str×V)}
theorem ins_get (hok:HOk P w H h)(e:H a=some (.ins C dx fs)):∃ mA,ObjM h a dx C mA/\(∀ f,RelO (fs.lookup f) (mA f))/\PySem.Within mA (fs.map (·.1))/\fs.length<=1000/\H dx=some (.own a):=by
 obtain ⟨d,z,ne,ob,mA,n,r,q⟩:=(show ObjOk P w H h a (.ins C dx fs) from hok a _ e)
 exact ⟨mA,⟨ob,n,ne⟩,r,q,z,d⟩
end
structure Cls (K:PySem.W.Frag)(C:Addr):Prop where
 pg:PySem.W.plainGet K C Str.empty=true
 hd:PySem.W.hasDictIn K C=true
 po:PySem.W.plainOver K C=true
 sa:PySem.W.findIn K (.ref C) "__setattr__" = some (some (.builtin "object.__setattr__"))
theorem Cls.get {K:PySem.W.Frag}{C:Addr}(c:Cls K C)(f:Str):PySem.W.plainGet K C f=true:=c.pg
noncomputable def NoAttr (K:PySem.W.Frag)(C:Addr)(f:Str):Prop:=PySem.W.findIn K (.ref C) f=some none
theorem NoAttr.taker {K:PySem.W.Frag}{C:Addr}{f:Str}(n:NoAttr K C f):PySem.W.takerIn K C f=some none:=by
 unfold PySem.W.takerIn
 rw [show PySem.W.findIn K (.ref C) f=some none from n]
 rfl
structure Meth (K:PySem.W.Frag)(C:Addr)(m:Str)(f:Addr):Prop where
 at_:PySem.W.findIn K (.ref C) m=some (some (.ref f))
 fn:PySem.W.isFn K (.ref f)=true
 kp:PySem.W.keepIn K (.ref f)=true
section
variable {X:Cx}{pins:List (Addr×Obj)}{σ:St}{H:Hp}{s:Shared}{a C dx:Addr}{fs:List (Str×V)}{f:Str}{v:V}{A:Around}{E:Value->Shared->Prop}
theorem getattr_ok {b:Bool}{Q:Value->Shared->Prop}(I:Inv X pins σ H s)(e:H a=some (.ins C dx fs))(c:Cls X.K C)(n:NoAttr X.K C f)(l:fs.lookup f=some v)
  (h:∀ u s',Inv X pins σ H s'->RelV v u->Q u s'):wpAny (model X.prog X.w) A (getAttr (.ref a) f b) Q E s:=by
 obtain ⟨mA,O,r,_,_,_⟩:=ins_get I.hok e
 obtain ⟨u,hu,ru⟩:=RelO.some_of (v:=v) (o:=mA f) (by rw [<- l]; exact r f)
 exact get_map I.kIn O (c.get f) c.hd n hu (handed_of ru) (h u _ (I.tok _) ru)
theorem getmeth_ok {m:Str}{g:Addr}{pl:Sem Bool}{Q:Value×List Value->Shared->Prop}(I:Inv X pins σ H s)(e:H a=some (.ins C dx fs))(c:Cls X.K C)(k:Meth X.K C m g)(l:fs.lookup m=none)
  (h:Q (.ref g,[.ref a]) s):wpAny (model X.prog X.w) A (getMethod (.ref a) m pl) Q E s:=by
 obtain ⟨mA,O,r,_,_,_⟩:=ins_get I.hok e
 have hn:mA m=none:=RelO.none_of (by rw [<- l]; exact r m)
 exact get_meth I.kIn O (c.get m) k.at_ k.fn hn h
theorem setattr_ok {y:V}{u:Value}{Q:Unit->Shared->Prop}(I:Inv X pins σ H s)(e:H a=some (.ins C dx fs))(c:Cls X.K C)(n:NoAttr X.K C f)(hl:fs.length < 1000)(ry:RelV y u)
  (h:∀ s',Inv X pins σ (upd H a (.ins C dx (putF f y fs))) s'->Q () s'):wpAny (model X.prog X.w) A (setAttr (.ref a) f u) Q E s:=by
 obtain ⟨mA,O,r,wi,_,ho⟩:=ins_get I.hok e
 have hz:(fs.map (·.1)).length<=sizeLine:=by rw [List.length_map,sizeLine_eq]; omega
 refine set_map I.kIn O c.sa c.po n.taker c.hd wi hz λ h' O' sb=>h _ ?_
 have hd:∃ o,h'.get? dx=some o:=let ⟨o,_,_,e',_⟩:=O'.ns; ⟨o,e'⟩
 refine I.write (x:=a) (e:=dx) (by rw [e]; exact True.intro) (.inr ho) (λ b q hb z=>(sb.2 b hb).trans z) hd ?_
 refine ⟨by rw [upd_ne O.ne]; exact ho,?_,O.ne,O'.obj,_,O'.ns,λ g=>?_,λ g hg=>?_⟩
 ·have:=length_putF f y fs; omega
 ·show RelO ((putF f y fs).lookup g) (if g=f then some u else mA g)
  rw [lookup_putF]
  by_cases q:g=f
  ·rw [if_pos q,if_pos q]; exact ry
  ·rw [if_neg q,if_neg q]; exact r g
 ·by_cases q:g=f
  ·rw [q]; exact (keys_putF f y fs).1
  ·refine (keys_putF f y fs).2 g (wi g λ z=>hg ?_)
   show (if g=f then some u else mA g)=none
   rw [if_neg q]; exact z
theorem Inv.made (I:Inv X pins σ H s):Inv X pins σ (upd (upd H s.heap.objs.size (.own (s.heap.objs.size+1))) (s.heap.objs.size+1) (.ins C s.heap.objs.size []))
  {s with heap:=(s.heap.push PySem.W.emptyDict).push (PySem.W.instObj C s.heap.objs.size) }:=by
 have e1:(s.heap.push PySem.W.emptyDict).get? s.heap.objs.size=some PySem.W.emptyDict:=Heap.get?_push_size s.heap rfl
 have e2:((s.heap.push PySem.W.emptyDict).push (PySem.W.instObj C s.heap.objs.size)).get? (s.heap.objs.size+1)=some (PySem.W.instObj C s.heap.objs.size):=by
  have:=Heap.get?_push_size (s.heap.push PySem.W.emptyDict) (o:=PySem.W.instObj C s.heap.objs.size) rfl
  rwa [Heap.size_push] at this
 have e3:(s.heap.push PySem.W.emptyDict).Ns s.heap.objs.size (λ _=>none):=⟨PySem.W.emptyDict,#[],_,e1,rfl,(λ e he=>absurd he (by simp)),λ _=>rfl⟩
 have I1:=I.laid (a:=s.heap.objs.size) (o:=.own (s.heap.objs.size+1)) (h':=s.heap.push PySem.W.emptyDict) (t':=s.toks) (λ b u q=>Heap.get?_push_of_some _ q) (Nat.le_refl _) ⟨_,e1⟩
 refine I1.laid (a:=s.heap.objs.size+1) (o:=.ins C s.heap.objs.size []) (t':=s.toks) (λ b u q=>Heap.get?_push_of_some _ q) (Nat.le_of_eq (Heap.size_push _ _)) ?_
 have ne:s.heap.objs.size≠s.heap.objs.size+1:=Nat.ne_of_lt (Nat.lt_succ_self _)
 refine ⟨by rw [upd_ne ne,upd_same],Nat.zero_le _,ne,e2,λ _=>none,(Heap.Ns1.of_empty e3).at λ o q=>Heap.get?_push_of_some _ q,λ _=>True.intro,λ y hy=>absurd rfl hy⟩
theorem attr_of {prog:Program}{w:World}{env:Env}{e:Expr}{f:Str}{pos:Pos}{s:Shared}{Q:Value->Shared->Prop}(hb:attributeBase e f env (eval e env)=eval e env)
  (h:wpAny (model prog w) A (eval e env) (λ o s₁=>wpAny (model prog w) A (getAttr o f true) Q E s₁) E s):wpAny (model prog w) A (eval (.Attribute e f pos) env) Q E s :=
 Attribute_any_ h (by rw [arm_eval_Attribute,hb])
end
noncomputable def tFld (K:PySem.W.Frag)(ta:TE)(f:Str):TE:=λ σ H Q=>ta σ H λ x H1=>∃ a C dx fs v,x=.ref a/\H1 a=some (.ins C dx fs)/\Cls K C/\NoAttr K C f/\fs.lookup f=some v/\Q v H1
noncomputable def sFld (K:PySem.W.Frag)(ta tv:TE)(f:Str):TS:=λ D σ H=>tv σ H λ y H1=>ta σ H1 λ x H2=>∃ a C dx fs,x=.ref a/\H2 a=some (.ins C dx fs)/\Cls K C/\NoAttr K C f/\fs.length < 1000 /\
 D.nx σ (upd H2 a (.ins C dx (putF f y fs)))
noncomputable def InOp (X:Cx)(op:Operator)(rd:V->V->Hp->VK->Prop):Prop :=
 ∀ (pins:List (Addr×Obj)) (s:Shared) (σ:St) (H:Hp) (x y:V) (u v:Value) (Q:VK),Inv X pins σ H s->RelV x u->RelV y v->rd x y H Q->wpAny (model X.prog X.w) X.A (inplaceOp op u v) (EP X pins σ Q) X.xe s
noncomputable def sFldAug (K:PySem.W.Frag)(ta tv:TE)(rd:V->V->Hp->VK->Prop)(f:Str):TS:=λ D σ H=>ta σ H λ x H1=>∃ a C dx fs v,x=.ref a/\H1 a=some (.ins C dx fs)/\Cls K C/\NoAttr K C f/\fs.lookup f=some v /\
 tv σ H1 λ y H2=>rd v y H2 λ z H3=>∃ dx' fs',H3 a=some (.ins C dx' fs')/\fs'.length < 1000/\D.nx σ (upd H3 a (.ins C dx' (putF f z fs')))
section
variable {X:Cx}{o e value:Expr}{f:Str}{pos pos' tpos:Pos}{ta tv:TE}
theorem pe_fld (he:PE X e ta)(hb:attributeBase e f X.env (eval e X.env)=eval e X.env):PE X (.Attribute e f pos) (tFld X.K ta f):=by
 intro pins s σ H Q I h
 refine attr_of hb (thn (he pins s σ H _ I h) λ u s1 hq20=>?_)
 obtain ⟨x,H1,I1,rx,a,C,dx,fs,v,ex,ea,c,n,l,q⟩:=hq20
 subst ex
 obtain rfl:u=Value.ref a:=rx
 exact getattr_ok I1 ea c n l λ u' s2 I2 ru=>⟨v,H1,I2,ru,q⟩
theorem ps_fld (ha:PE X o ta)(hv:PE X value tv)(hs:swapsWith value (some (.Attribute o f pos')) pos.line X.env=pure false):PS X (.Assign [.Attribute o f pos'] value pos) (sFld X.K ta tv f):=by
 intro pins s σ H D I h
 refine plainObj_wpAny_Assign_Attribute (thn (hv pins s σ H _ I h) λ u s1 ⟨y,H1,I1,ry,q⟩=>thn (ha pins s1 σ H1 _ I1 q) λ ov s2 ⟨x,H2,I2,rx,a,C,dx,fs,ex,ea,c,n,l,q2⟩=>?_) hs
 subst ex
 obtain rfl:ov=Value.ref a:=rx
 exact setattr_ok I2 ea c n l ry λ s3 I3=>⟨σ,_,I3,q2⟩
theorem ps_fldaug {op:Operator}{rd:V->V->Hp->VK->Prop}(ha:PE X o ta)(hv:PE X value tv)(hop:InOp X op rd):PS X (.AugAssign (.Attribute o f tpos) op value pos) (sFldAug X.K ta tv rd f):=by
 intro pins s σ H D I h
 refine wpAny_AugAssign_AttributeAny (thn (ha pins s σ H _ I h) λ ov s1 hq21=>?_)
 obtain ⟨x,H1,I1,rx,a,C,dx,fs,v,ex,ea,c,n,l,q⟩:=hq21
 subst ex
 obtain rfl:ov=Value.ref a:=rx
 refine getattr_ok I1 ea c n l λ u s2 I2 ru=>thn (hv pins s2 σ H1 _ I2 q) λ w3 s3 ⟨y,H2,I3,ry,q3⟩=>thn (hop pins s3 σ H2 v y u w3 _ I3 ru ry q3) λ w4 s4 hq22=>?_
 obtain ⟨z,H3,I4,rz,dx',fs',ea',l',q4⟩:=hq22
 exact setattr_ok I4 ea' c n l' rz λ s5 I5=>⟨σ,_,I5,q4⟩
end
section
variable {X:Cx}{pins:List (Addr×Obj)}{σ:St}{H:Hp}{s:Shared}{A:Around}{E:Value->Shared->Prop}{Q:Value->Shared->Prop}{c:Value}{b:Bool}
end
end L2
namespace L2
open PySem PySem.Spec PyProof.Rows
structure Room (k:Nat)(A:Around):Prop where
 hd:A.handled=none
 gd:A.guards=some []
 dp:A.depth+3 * k+5 < recursionLimit
 un:A.units+16 * k+200 < cLine
theorem Room.mono {j k:Nat}{A:Around}(r:Room k A)(h:j<=k):Room j A:=⟨r.hd,r.gd,by have:=r.dp; omega,by have:=r.un; omega⟩
theorem Room.deeper {k:Nat}{A:Around}(r:Room (k+1) A)(env:Env):Room k (A.deeper env) :=
 ⟨r.hd,r.gd,by have:=r.dp; show A.depth+1+3 * k+5 < _; omega,by have:=r.un; show A.units+3+16 * k+200 < _; omega⟩
theorem Room.in1 {k:Nat}{A:Around}(r:Room (k+1) A):Room k A.in1 :=
 ⟨r.hd,r.gd,by have:=r.dp; show A.depth+3 * k+5 < _; omega,by have:=r.un; show A.units+1+16 * k+200 < _; omega⟩
theorem make_depth {A:Around}{C:Addr}{us:List Value}{kw:List (Str×Value)}:(A.under (.builtin "type.__call__" ⟨.ref C :: us,kw⟩)).depth=A.depth+1:=by
 first | rfl | simp [Around.under,Code.weight,Code.isCreation,Code.isGuard,Code.isCaller,Code.frames,Code.isFrame,guardIds]
theorem make_units {A:Around}{C:Addr}{us:List Value}{kw:List (Str×Value)}:(A.under (.builtin "type.__call__" ⟨.ref C :: us,kw⟩)).units=A.units+1:=by
 first | rfl | simp [Around.under,Code.cUnits,Code.frames,Code.isFrame]
theorem Room.make {k:Nat}{A:Around}(r:Room (k+1) A)(C:Addr)(us:List Value)(kw:List (Str×Value)):Room k (A.under (.builtin "type.__call__" ⟨.ref C :: us,kw⟩)) :=
 ⟨r.hd,(by first | exact r.gd | (simpa [Around.under,Code.isGuard,Code.frames,Code.isFrame,guardIds] using r.gd)),by have:=r.dp; rw [make_depth]; omega,by have:=r.un; rw [make_units]; omega⟩
theorem Room.depth {k:Nat}{A:Around}(r:Room k A):A.depth < recursionLimit:=by have:=r.dp; omega
theorem Room.units {k:Nat}{A:Around}(r:Room k A):A.units+64 < cLine:=by have:=r.un; omega
noncomputable def tNil:TA:=λ _ H Q=>Q [] H
noncomputable def tCons (ta:TE)(tr:TA):TA:=λ σ H Q=>ta σ H λ x H1=>tr σ H1 λ xs H2=>Q (x :: xs) H2
section
variable {X:Cx}{e:Expr}{es:List Expr}{te:TE}{t:TA}{pos:Pos}
theorem pa_nil:PA X [] tNil:=λ _ _ _ _ H Q I h=>Calls.spliced_nil ⟨[],H,I,.nil,h⟩
theorem pa_cons (ha:PE X e te)(hr:PA X es t)(hs:starEach (e :: es) X.env=(false,eval e X.env) :: starEach es X.env:=by rfl):PA X (e :: es) (tCons te t):=by
 intro pos pins s σ H Q I h
 rw [hs]
 show wpAny _ _ (spliced ((false,eval e X.env) :: backTo pos (starEach es X.env))) _ _ s
 refine Calls.spliced_cons (thn (ha pins s σ H _ I h) λ u s1 hq23=>?_)
 obtain ⟨x,H1,I1,r1,q1⟩:=hq23
 exact thn (hr pos pins s1 σ H1 _ I1 q1) λ us s2 ⟨xs,H2,I2,r2,q2⟩=>⟨x :: xs,H2,I2,.cons r1 r2,q2⟩
noncomputable def tTup (t:TA):TE:=λ σ H Q=>t σ H λ xs H1=>xs.length<=sizeLine/\∀ p,H1 p=none->Q (.ref p) (upd H1 p (.tup xs))
noncomputable def tLst (t:TA):TE:=λ σ H Q=>t σ H λ xs H1=>xs.length<=sizeLine/\∀ p,H1 p=none->Q (.ref p) (upd H1 p (.lst xs))
theorem pe_tup {x1}(h:PA X es t):PE X (.Tuple es x1 pos) (tTup t):=by
 intro pins s σ H Q I hq
 refine wpAny_Tuple_spliced (thn (h pos pins s σ H _ I hq) λ us s1 ⟨xs,H1,I1,r,z,q⟩=>⟨by rw [<- r.length]; exact z,?_⟩)
 have hf:H1 s1.heap.objs.size=none:=I1.hok.fresh (Nat.le_refl _)
 refine ⟨.ref s1.heap.objs.size,upd H1 s1.heap.objs.size (.tup xs),I1.laid (t':=s1.toks) (λ b u e=>Heap.get?_push_of_some _ e) (Nat.le_refl _) ?_,rfl,q _ hf⟩
 exact ⟨z,us,r,TupN.new _ _⟩
theorem pe_lst (h:PA X es t):PE X (.List es pos) (tLst t):=by
 intro pins s σ H Q I hq
 refine wpAny_List_spliced (thn (h pos pins s σ H _ I hq) λ us s1 ⟨xs,H1,I1,r,z,q⟩=>⟨by rw [<- r.length]; exact z,?_⟩)
 have hf:H1 s1.heap.objs.size=none:=I1.hok.fresh (Nat.le_refl _)
 refine ⟨.ref s1.heap.objs.size,upd H1 s1.heap.objs.size (.lst xs),I1.laid (t':=s1.toks) (λ b u e=>Heap.get?_push_of_some _ e) (Nat.le_refl _) ?_,rfl,q _ hf⟩
 exact ⟨z,us,0,r,Heap.get?_push_size _ rfl⟩
end
noncomputable abbrev Sp:=List V->Hp->VK->XK->Prop
noncomputable abbrev CXT:=List Env->Hp->Shared->XK->Value->Shared->Prop
structure Env0 (P:Program)(w:World)(K:PySem.W.Frag)(mg:Str->Option Value)(base:Heap)(A:Around)(outer:List Env)(s:Shared)(H:Hp):Prop where
 frames:A.frames=some outer
 mod:Mod K mg base
 bs:∀ b o,base.get? b=some o->s.heap.get? b=some o/\H b=none
 bsz:base.objs.size<=s.heap.objs.size
 funs:s.heap.FunFrames base outer
 frf:∀ b∈frs outer,H b=none
 hok:HOk P w H s.heap
 bare:AllBare s.gens
noncomputable def CE (outer:List Env)(P:Program)(w:World)(H:Hp)(s:Shared)(Q:VK)(u:Value)(s':Shared):Prop :=
 ∃ v H',s'.os=s.os/\AllBare s'.gens/\Un (frs outer) [] H H' s.heap s'.heap/\HOk P w H' s'.heap/\RelV v u/\Q v H'
noncomputable def CR (CX:CXT)(outer:List Env)(P:Program)(w:World)(H:Hp)(s:Shared)(Q:VK)(E:XK)(r:Result)(s':Shared):Prop :=
 match r with
 | .ok (.ret u)=>CE outer P w H s Q u s'
 | .ok _=>False
 | .error e=>CX outer H s E e s'
structure FnOk (P:Program)(w:World)(K:PySem.W.Frag)(mg:Str->Option Value)(base:Heap)(CX:CXT)(k:Nat)(f:Addr)(fd:FuncData)(ps:List Str)(sp:Sp):Prop where
 len:∀ vs H Q E,sp vs H Q E->vs.length=ps.length
 run:∀ (A:Around) (outer:List Env) (s:Shared) (H:Hp) (args:Args) (us:List Value) (vs:List V) (Q:VK) (E:XK),Room k A->Env0 P w K mg base A outer s H->BindsTo s fd args (ps.zip us)->Vals vs us->sp vs H Q E ->
  codeAny (model P w) A (.call (.ref f) args) (CR CX outer P w H s Q E) s
theorem FnOk.mono {P:Program}{w:World}{K:PySem.W.Frag}{mg:Str->Option Value}{base:Heap}{CX:CXT}{j k:Nat}{f:Addr}{fd:FuncData}{ps:List Str}{sp:Sp}(F:FnOk P w K mg base CX j f fd ps sp)(h:j<=k) :
  FnOk P w K mg base CX k f fd ps sp:=⟨F.len,λ A outer s H args us vs Q E hr=>F.run A outer s H args us vs Q E (hr.mono h)⟩
theorem Env0.make {P:Program}{w:World}{K:PySem.W.Frag}{mg:Str->Option Value}{base:Heap}{A:Around}{outer:List Env}{s:Shared}{H:Hp}(e:Env0 P w K mg base A outer s H)(C:Addr)(us:List Value)(kw:List (Str×Value)) :
  Env0 P w K mg base (A.under (.builtin "type.__call__" ⟨.ref C :: us,kw⟩)) outer s H:=⟨by first | exact e.frames | (simpa [Around.under,Code.envs,Code.isFrame,pushEnvs] using e.frames),e.mod,e.bs,e.bsz,e.funs,e.frf,e.hok,e.bare⟩
theorem Env0.in1 {P:Program}{w:World}{K:PySem.W.Frag}{mg:Str->Option Value}{base:Heap}{A:Around}{outer:List Env}{s:Shared}{H:Hp}(e:Env0 P w K mg base A outer s H) :
  Env0 P w K mg base A.in1 outer s H:=⟨e.frames,e.mod,e.bs,e.bsz,e.funs,e.frf,e.hok,e.bare⟩
section
variable {X:Cx}{pins:List (Addr×Obj)}{σ:St}{H:Hp}{s s':Shared}
theorem Inv.env0 (I:Inv X pins σ H s):Env0 X.prog X.w X.K X.mg X.base X.A X.stack s H :=
 ⟨I.ok.frames,I.ok.mod,I.bs,Nat.le_trans I.ok.bsz I.sz,I.stack,I.stkFree,I.hok,I.bare⟩
theorem Inv.after {Q:VK}{u:Value}(I:Inv X pins σ H s)(h:CE X.stack X.prog X.w H s Q u s'):EP X pins σ Q u s':=by
 obtain ⟨v,H',os,bare,un,hok,r,q⟩:=h
 obtain ⟨hh,g,d,t,os'⟩:=s'
 obtain rfl:os'=s.os:=os
 exact ⟨v,H',I.call (h':=hh) (g':=g) (d':=d) (t':=t) (ch:=[]) un hok bare (λ b z=>absurd z (by simp)),r,q⟩
end
noncomputable def tCall (sp:Sp)(dvs:List V)(E:XK)(t:TA):TE:=λ σ H Q=>t σ H λ vs H1=>sp (vs++dvs) H1 Q E
noncomputable def tMeth (C:Addr)(m:Str)(sp:Sp)(dvs:List V)(E:XK)(ta:TE)(t:TA):TE:=λ σ H Q=>ta σ H λ x H1=>∃ a dx fs,x=.ref a/\H1 a=some (.ins C dx fs)/\fs.lookup m=none /\
 t σ H1 λ vs H2=>sp (x :: (vs++dvs)) H2 Q E
noncomputable def tMake (C:Addr)(sp:Sp)(dvs:List V)(E:XK)(t:TA):TE:=λ σ H Q=>t σ H λ vs H1=>∀ x dx,H1 x=none->H1 dx=none->dx≠x ->
 sp (.ref x :: (vs++dvs)) (upd (upd H1 dx (.own x)) x (.ins C dx [])) (λ v H2=>v=.non/\Q (.ref x) H2) E
noncomputable def Binds (K:PySem.W.Frag)(fd:FuncData)(ps:List Str)(ds:List Value):Prop :=
 ∀ (s:Shared) (us:List Value),K.In s.heap->(us++ds).length=ps.length->BindsTo s fd ⟨us,[]⟩ (ps.zip (us++ds))
theorem Binds.all {K:PySem.W.Frag}{fd:FuncData}{ps:List Str}(h:∀ us:List Value,us.length=ps.length->bindArgs fd ⟨us,[]⟩=pure (ps.zip us)):Binds K fd ps []:=λ s us _ hl=>by
 rw [List.append_nil] at hl ⊢
 exact .of_eq (h us hl)
noncomputable def Passes (CX:CXT)(X:Cx)(E:XK):Prop:=∀ (pins:List (Addr×Obj)) (σ:St) (H:Hp) (s:Shared) (e:Value) (s':Shared),Inv X pins σ H s->CX X.stack H s E e s'->X.xe e s'
section
variable {X:Cx}{CX:CXT}{k:Nat}{f C:Addr}{fd:FuncData}{ps:List Str}{sp:Sp}{dvs:List V}{ds:List Value}{E:XK}{x m:Str}{p pos apos:Pos}{e o:Expr}{es:List Expr}{ta:TE}{t:TA}
theorem run_fn {pins:List (Addr×Obj)}{σ:St}{H:Hp}{s:Shared}{Q:VK}{us:List Value}{vs:List V}(F:FnOk X.prog X.w X.K X.mg X.base CX k f fd ps sp)(hr:Room k X.A)(hb:Binds X.K fd ps ds)(hd:Vals dvs ds)(hx:Passes CX X E)
  (I:Inv X pins σ H s)(r:Vals vs us)(h:sp (vs++dvs) H Q E):wpAny (model X.prog X.w) X.A (call (.ref f) us) (EP X pins σ Q) X.xe s:=by
 have r2:Vals (vs++dvs) (us++ds):=r.append hd
 have hl:(us++ds).length=ps.length:=by rw [<- r2.length]; exact F.len _ _ _ _ h
 refine wpAny_call (codeAny_mono (F.run X.A X.stack s H ⟨us,[]⟩ (us++ds) (vs++dvs) Q E hr I.env0 (hb s us I.kIn hl) r2 h) λ r s' hq=>?_)
 cases r with
 | error e=>exact hx pins σ H s e s' I hq
 | ok fl =>
  cases fl with
  | ret u=>exact I.after hq
  | next=>exact False.elim hq
  | brk=>exact False.elim hq
  | cont=>exact False.elim hq
theorem pe_call (F:FnOk X.prog X.w X.K X.mg X.base CX k f fd ps sp)(hr:Room k X.A)(hg:Gl X x)(hm:X.mg x=some (.ref f))(hk:PySem.W.keepIn X.K (.ref f)=true)(hb:Binds X.K fd ps ds)(hd:Vals dvs ds)(hx:Passes CX X E)
  (ha:PA X (e :: es) t)(hdb:(x == ("__debug__" : Str))=false:=by decide)(he:starEach (e :: es) X.env=(false,eval e X.env) :: starEach es X.env:=by rfl)(hpl:(backTo pos (starEach es X.env)).any (·.1)=false:=by rfl) :
  PE X (.Call (.Name x p) (e :: es) [] pos) (tCall sp dvs E t):=by
 intro pins s σ H Q I h
 refine wpAny_Call_Name_kw (ld_glob I hg hm ?_ hdb)
 refine PySem.W.callWith_K (h₀:=X.base) I.ok.mod.kin hk (thn (ha pos pins s σ H _ I h) λ us s1 ⟨vs,H1,I1,r,q⟩=>⟨I1.kIn,?_⟩) he hpl
 exact run_fn F hr hb hd hx I1 r q
theorem pe_meth {pl:Sem Bool}(he:PE X o ta)(c:Cls X.K C)(hm:Meth X.K C m f)(F:FnOk X.prog X.w X.K X.mg X.base CX k f fd ps sp)(hr:Room k X.A)(hb:Binds X.K fd ps ds)(hd:Vals dvs ds)(hx:Passes CX X E)(ha:PA X (e :: es) t)
  (hst:starEach (e :: es) X.env=(false,eval e X.env) :: starEach es X.env:=by rfl)(hpl:(backTo pos (starEach es X.env)).any (·.1)=false:=by rfl)
  (ht:eval (.Call (.Attribute o m apos) (e :: es) [] pos) X.env=(do
   let ov <- eval o X.env
   standAt apos.atName
   let (f,first) <- holding [ov] (getMethod ov m pl)
   callWith pos f first (backTo pos (starEach (e :: es) X.env)) (backToKw pos (keywordEach [] X.env))):=by rfl) :
  PE X (.Call (.Attribute o m apos) (e :: es) [] pos) (tMeth C m sp dvs E ta t):=by
 intro pins s σ H Q I h
 refine PySem.W.methodCall_KW (pl:=pl) (thn (he pins s σ H _ I h) λ u s1 ⟨x,H1,I1,rx,a,dx,fs,ex,ea,l,q⟩=>?_) ht
 subst ex
 obtain rfl:u=Value.ref a:=rx
 refine getmeth_ok I1 ea c hm l ?_
 refine PySem.W.callWith_K (first:=[.ref a]) (h₀:=X.base) I.ok.mod.kin hm.kp (thn (ha pos pins s1 σ H1 _ I1 q) λ us s2 ⟨vs,H2,I2,r,q2⟩=>⟨I2.kIn,?_⟩) hst hpl
 exact run_fn (us:=.ref a :: us) (vs:=.ref a :: vs) F hr hb hd hx I2 (.cons rfl r) q2
theorem pe_meth0 {pl:Sem Bool}(he:PE X o ta)(c:Cls X.K C)(hm:Meth X.K C m f)(F:FnOk X.prog X.w X.K X.mg X.base CX k f fd ps sp)(hr:Room k X.A)(hb:Binds X.K fd ps ds)(hd:Vals dvs ds)(hx:Passes CX X E)
  (ht:eval (.Call (.Attribute o m apos) [] [] pos) X.env=(do
   let ov <- eval o X.env
   standAt apos.atName
   let (f,first) <- holding [ov] (getMethod ov m pl)
   callWith pos f first (backTo pos (starEach [] X.env)) (backToKw pos (keywordEach [] X.env))):=by rfl) :
  PE X (.Call (.Attribute o m apos) [] [] pos) (tMeth C m sp dvs E ta tNil):=by
 intro pins s σ H Q I h
 refine PySem.W.methodCall_KW (pl:=pl) (thn (he pins s σ H _ I h) λ u s1 ⟨x,H1,I1,rx,a,dx,fs,ex,ea,l,q⟩=>?_) ht
 subst ex
 obtain rfl:u=Value.ref a:=rx
 refine getmeth_ok I1 ea c hm l ?_
 exact PySem.W.callWith_K0 (first:=[.ref a]) I1.kIn hm.kp (run_fn (us:=[.ref a]) (vs:=[.ref a]) F hr hb hd hx I1 (.cons rfl .nil) q)
structure Mk (K:PySem.W.Frag)(C f:Addr):Prop where
 makes:PySem.W.makesIn K C=true
 init:PySem.W.findIn K (.ref C) "__init__" = some (some (.ref f))
 fn:PySem.W.isFn K (.ref f)=true
 kp:PySem.W.keepIn K (.ref C)=true
theorem run_make {pins:List (Addr×Obj)}{σ:St}{H:Hp}{s:Shared}{Q:VK}{us:List Value}{vs:List V}(M:Mk X.K C f)(F:FnOk X.prog X.w X.K X.mg X.base CX k f fd ps sp)(hr:Room (k+1) X.A)(hb:Binds X.K fd ps ds)(hd:Vals dvs ds)
  (hx:Passes CX X E)(I:Inv X pins σ H s)(r:Vals vs us)
  (h:∀ x dx,H x=none->H dx=none->dx≠x->sp (.ref x :: (vs++dvs)) (upd (upd H dx (.own x)) x (.ins C dx [])) (λ v H2=>v=.non/\Q (.ref x) H2) E) :
  wpAny (model X.prog X.w) X.A (call (.ref C) us) (EP X pins σ Q) X.xe s:=by
 have hq:=h (s.heap.objs.size+1) s.heap.objs.size (I.hok.fresh (Nat.le_succ _)) (I.hok.fresh (Nat.le_refl _)) (Nat.ne_of_lt (Nat.lt_succ_self _))
 have I2:=Inv.made (C:=C) I
 have r2:Vals (V.ref (s.heap.objs.size+1) :: (vs++dvs)) (Value.ref (s.heap.objs.size+1) :: (us++ds)):=.cons rfl (r.append hd)
 have hl:(Value.ref (s.heap.objs.size+1) :: us++ds).length=ps.length:=by
  have e:=r2.length
  rw [F.len _ _ _ _ hq] at e
  exact e.symm
 refine wpAny_call (make_map (f:=f) I.kIn M.makes M.init (beq_iff_eq.mp M.fn) (codeAny_mono (F.run _ X.stack _ _ ⟨Value.ref (s.heap.objs.size+1) :: us,[]⟩ (Value.ref (s.heap.objs.size+1) :: (us++ds)) _ _ E (hr.make C us [])
  (I2.env0.make C us []) (hb _ (Value.ref (s.heap.objs.size+1) :: us) I2.kIn hl) r2 hq) λ r s' hq'=>?_))
 cases r with
 | error e=>exact hx pins σ _ _ e s' I2 hq'
 | ok fl =>
  cases fl with
  | ret u =>
   obtain ⟨v,H',I3,rv,ev,q3⟩:=I2.after hq'
   subst ev
   exact ⟨rv,⟨V.ref (s.heap.objs.size+1),H',I3,rfl,q3⟩⟩
  | next=>exact False.elim hq'
  | brk=>exact False.elim hq'
  | cont=>exact False.elim hq'
theorem pe_make (M:Mk X.K C f)(F:FnOk X.prog X.w X.K X.mg X.base CX k f fd ps sp)(hr:Room (k+1) X.A)(hg:Gl X x)(hm:X.mg x=some (.ref C))(hb:Binds X.K fd ps ds)(hd:Vals dvs ds)(hx:Passes CX X E)
  (ha:PA X (e :: es) t)(hdb:(x == ("__debug__" : Str))=false:=by decide)(he:starEach (e :: es) X.env=(false,eval e X.env) :: starEach es X.env:=by rfl)(hpl:(backTo pos (starEach es X.env)).any (·.1)=false:=by rfl) :
  PE X (.Call (.Name x p) (e :: es) [] pos) (tMake C sp dvs E t):=by
 intro pins s σ H Q I h
 refine wpAny_Call_Name_kw (ld_glob I hg hm ?_ hdb)
 refine PySem.W.callWith_K (h₀:=X.base) I.ok.mod.kin M.kp (thn (ha pos pins s σ H _ I h) λ us s1 ⟨vs,H1,I1,r,q⟩=>⟨I1.kIn,?_⟩) he hpl
 exact run_make M F hr hb hd hx I1 r q
end
noncomputable def PK (X:Cx)(kws:List Keyword)(t:TA):Prop :=
 ∀ (pos:Pos) (pins:List (Addr×Obj)) (s:Shared) (σ:St) (H:Hp) (Q:List V->Hp->Prop),Inv X pins σ H s->t σ H Q->wpAny (model X.prog X.w) X.A (evalAll ((backToKw pos (keywordEach kws X.env)).map (·.2))) (AP X pins σ Q) X.xe s
section
variable {X:Cx}{CX:CXT}{k:Nat}{f C:Addr}{fd:FuncData}{ps ks:List Str}{sp:Sp}{E:XK}{x m:Str}{p pos apos kpos:Pos}{e o:Expr}{es:List Expr}{kws:List Keyword}{te ta:TE}{t tk:TA}{nm:Option Str}
theorem pk_nil:PK X [] tNil:=λ _ _ _ _ H Q I h=>wpAny_evalAll_nil ⟨[],H,I,.nil,h⟩
theorem pk_cons (ha:PE X e te)(hr:PK X kws t):PK X (⟨nm,e,kpos⟩ :: kws) (tCons te t):=by
 intro pos pins s σ H Q I h
 show wpAny _ _ (evalAll ((do let v <- eval e X.env; standAt pos; pure v) :: (backToKw pos (keywordEach kws X.env)).map (·.2))) _ _ s
 refine wpAny_evalAll_cons (wpAny_bind (thn (ha pins s σ H _ I h) λ u s1 ⟨x,H1,I1,r1,q1⟩=>wpAny_bind (wpAny_standAt (wpAny_pure ?_))))
 exact thn (hr pos pins s1 σ H1 _ I1 q1) λ us s2 ⟨xs,H2,I2,r2,q2⟩=>⟨x :: xs,H2,I2,.cons r1 r2,q2⟩
variable {g:List Value->List Value->List Value}{gV:List V->List V->List V}
end
structure FnScope (N P:List Str)(sc:Scope):Prop where
 kind:sc.kind=.function
 co:sc.isCoroutine=false
 gen:sc.isGenerator=false
 nd:N.Nodup
 pre:N.take P.length=P
 par:∀ x∈P,sc.names.lookup x=some .local\/sc.names.lookup x=some .cell
 nofree:∀ y∈sc.names,y.2 ≠ .free
theorem bindL_out {kindOf:Str->Option NameKind}{x:Str}:∀ {binds:List (Str×Value)} {m:Str->Option Value},(∀ v,(x,v) ∉ binds)->bindL kindOf binds m x=m x
 | [],_,_=>rfl
 | (n,v) :: r,m,h=>by
  unfold bindL
  rw [bindL_out λ w hw=>h w (List.mem_cons_of_mem _ hw)]
  split
  ·have:x≠n:=by rintro rfl; exact h v List.mem_cons_self
   simp [this]
  ·rfl
theorem bindC_out {kindOf:Str->Option NameKind}{x:Str}:∀ {binds:List (Str×Value)} {m:Str->Option Value},(∀ v,(x,v) ∉ binds)->bindC kindOf binds m x=m x
 | [],_,_=>rfl
 | (n,v) :: r,m,h=>by
  unfold bindC
  rw [bindC_out λ w hw=>h w (List.mem_cons_of_mem _ hw)]
  split
  ·rfl
  ·have:x≠n:=by rintro rfl; exact h v List.mem_cons_self
   simp [this]
theorem bindL_get {kindOf:Str->Option NameKind}{x:Str}{v:Value}:∀ {P:List Str} {vs:List Value} {i:Nat} {m:Str->Option Value},P.Nodup->P[i]? = some x->vs[i]? = some v->kindOf x=some .local ->
  bindL kindOf (P.zip vs) m x=some v
 | [],_,_,_,_,h,_,_=>by simp at h
 | _ :: _,[],_,_,_,_,h,_=>by simp at h
 | p :: P,w :: vs,0,m,nd,h1,h2,hk=>by
  simp at h1 h2; subst h1; subst h2
  show bindL kindOf ((p,w) :: P.zip vs) m p=_
  unfold bindL
  rw [bindL_out λ v hv=>(List.nodup_cons.mp nd).1 (List.of_mem_zip hv).1,if_pos hk]
  simp
 | p :: P,w :: vs,i+1,m,nd,h1,h2,hk=>by
  show bindL kindOf ((p,w) :: P.zip vs) m x=_
  unfold bindL
  exact bindL_get (i:=i) (List.nodup_cons.mp nd).2 (by simpa using h1) (by simpa using h2) hk
theorem bindC_get {kindOf:Str->Option NameKind}{x:Str}{v:Value}:∀ {P:List Str} {vs:List Value} {i:Nat} {m:Str->Option Value},P.Nodup->P[i]? = some x->vs[i]? = some v->kindOf x≠some .local ->
  bindC kindOf (P.zip vs) m x=some v
 | [],_,_,_,_,h,_,_=>by simp at h
 | _ :: _,[],_,_,_,_,h,_=>by simp at h
 | p :: P,w :: vs,0,m,nd,h1,h2,hk=>by
  simp at h1 h2; subst h1; subst h2
  show bindC kindOf ((p,w) :: P.zip vs) m p=_
  unfold bindC
  rw [bindC_out λ v hv=>(List.nodup_cons.mp nd).1 (List.of_mem_zip hv).1,if_neg hk]
  simp
 | p :: P,w :: vs,i+1,m,nd,h1,h2,hk=>by
  show bindC kindOf ((p,w) :: P.zip vs) m x=_
  unfold bindC
  exact bindC_get (i:=i) (List.nodup_cons.mp nd).2 (by simpa using h1) (by simpa using h2) hk
noncomputable def start (N:List Str)(vs:List V):St:=vs.map some++List.replicate (N.length - vs.length) none
noncomputable def cxOf (CX:CXT)(P:Program)(w:World)(K:PySem.W.Frag)(mg:Str->Option Value)(base:Heap)(N:List Str)(qual:Str)(scope:Scope)(f:Addr)(cd:Value)(A:Around)(outer:List Env)(s:Shared)(H:Hp)(E:XK):Cx where
 prog:=P
 w:=w
 K:=K
 mg:=mg
 base:=base
 A:=A.deeper (envOfC qual scope s.heap.objs.size f cd)
 N:=N
 s₀:=s
 H₀:=H
 env:=envOfC qual scope s.heap.objs.size f cd
 outer:=outer
 stack:=envOfC qual scope s.heap.objs.size f cd :: outer
 ex:=[]
 calm:=true
 fn:=λ _=>true
 pn:=[]
 xe:=λ e s'=>wpAny (model P w) (A.deeper (envOfC qual scope s.heap.objs.size f cd)) (leaving (envOfC qual scope s.heap.objs.size f cd) e) (λ _ s''=>CX outer H s E e s'') (λ e' s''=>CX outer H s E e' s'') s'
theorem cell_has {sc:Scope}{n:Nat}{x:Str}(h:sc.names.lookup x=some .cell):∃ c,(cellsFrom n sc.names []).lookup x=some c:=by
 have q:=PySem.W.cellsFrom_some sc.names n [] (.inl h)
 exact Option.isSome_iff_exists.mp q
theorem inv_start {CX:CXT}{P:Program}{w:World}{K:PySem.W.Frag}{mg:Str->Option Value}{base:Heap}{N ps:List Str}{qual:Str}{scope:Scope}{f:Addr}{cd:Value}{A:Around}{outer:List Env}{s s1:Shared}{H:Hp}{E:XK}{us:List Value}{vs:List V}
  (S:FnScope N ps scope)(hd:A.handled=none)(e0:Env0 P w K mg base A outer s H)(hl:vs.length=ps.length)(r:Vals vs us)
  (x:InCallC s s.heap.objs.size (bindL (envOfC qual scope s.heap.objs.size f cd).kindOf (ps.zip us) λ _=>none) (cellsFrom (s.heap.objs.size+1) scope.names []) (bindC (envOfC qual scope s.heap.objs.size f cd).kindOf (ps.zip us) λ _=>none) s1) :
  Inv (cxOf CX P w K mg base N qual scope f cd A outer s H E) [] (start N vs) H s1:=by
 have hpl:ps.length<=N.length:=by have:=congrArg List.length S.pre; rw [List.length_take] at this; omega
 obtain ⟨h1,tk,rfl,hk⟩:=x.done
 have noA:∀ b:Addr,b ∉ (cxOf CX P w K mg base N qual scope f cd A outer s H E).ex:=λ b z=>absurd (show b∈([]:List Addr) from z) (by simp)
 refine ⟨⟨e0.mod,S.kind,rfl,rfl,Nat.le_refl _,λ y z c h1 h2=>?_,λ y hy=>?_,λ y c _ h=>?_,λ _=>hd,Around.frames_deeper e0.frames,.inr ⟨rfl,rfl⟩,λ b z=>absurd z (noA b),e0.bs,e0.bsz,λ b _ _=>noA b,λ b z=>absurd z (noA b),e0.funs,e0.frf⟩,
  rfl,e0.bare,Un.kept hk,⟨_,x.toInCall.ns,λ i y v h1 h2 h3=>?_⟩,λ y c h=>⟨_,x.cell y c h⟩,e0.hok.fresh (Nat.le_refl _),λ y c h=>?_,λ p hp=>absurd (show p∈([]:List (Addr×Obj)) from hp) (by simp),e0.hok.kept hk,?_⟩
 ·exact name_of_addr x.apart (PySem.mem_of_lookup h1) (PySem.mem_of_lookup h2)
 ·have hy:scope.names.lookup y=some .cell\/scope.names.lookup y=some .free:=hy
  rcases hy with hy | hy
  ·exact cell_has hy
  ·exact absurd rfl (S.nofree _ (PySem.mem_of_lookup hy))
 ·exact Nat.le_of_lt (x.above y c (PySem.mem_of_lookup h))
 ·have hi:i < vs.length:=by
   unfold start at h2
   by_cases hi:i < vs.length
   ·exact hi
   ·rw [List.getElem?_append_right (by simpa using hi)] at h2
    rw [List.getElem?_replicate] at h2
    split at h2 <;> cases h2
  have ha:vs[i]? = some v:=by
   unfold start at h2
   rw [List.getElem?_append_left (by simpa using hi),List.getElem?_map] at h2
   cases e:vs[i]? with
   | none=>rw [e] at h2; cases h2
   | some a=>rw [e] at h2; cases h2; rfl
  obtain ⟨u,hu,rv⟩:=r.get ha
  have hp:ps[i]? = some y:=by
   rw [<- S.pre,List.getElem?_take_of_lt (by omega)]; exact h1
  have ndP:ps.Nodup:=by rw [<- S.pre]; exact S.nd.sublist (List.take_sublist _ _)
  refine ⟨u,rv,?_⟩
  rcases S.par y (List.mem_of_getElem? hp) with k | k
  ·exact .inl ⟨k,bindL_get ndP hp hu k⟩
  ·obtain ⟨c,e⟩:=cell_has (n:=s.heap.objs.size+1) k
   refine .inr ⟨.inl k,c,e,?_⟩
   have q:=x.cell y c e
   rw [bindC_get ndP hp hu (by show scope.names.lookup y≠_; rw [k]; decide)] at q
   exact q
 ·exact e0.hok.fresh (Nat.le_of_lt (x.above y c (PySem.mem_of_lookup h)))
 ·unfold start
  show _=N.length
  rw [List.length_append,List.length_map,List.length_replicate]
  omega
theorem fn_of {CX:CXT}{P:Program}{w:World}{K:PySem.W.Frag}{mg:Str->Option Value}{base:Heap}{k:Nat}{f:Addr}{name qual:Str}{params:Arguments}{body:List Stmt}{scope:Scope}{dV kV doc pm cdv ct oc:Value}{an od:Option Addr}
  {osl:Array (Option Value)}{N ps:List Str}{sp:Sp}(lk:K.lookup f=some ⟨oc,od,.func (PySem.W.fnOf name qual params body scope dV kV doc pm an cdv ct),osl⟩)(hcd:PySem.W.codeIn K cdv qual=true)(S:FnScope N ps scope)
  (len:∀ vs H Q E,sp vs H Q E->vs.length=ps.length)
  (hbody:∀ (A:Around) (outer:List Env) (s:Shared) (H:Hp) (vs:List V) (Q:VK) (E:XK),Room k (A.deeper (envOfC qual scope s.heap.objs.size f cdv))->sp vs H Q E ->
   ∃ t,PSs (cxOf CX P w K mg base N qual scope f cdv A outer s H E) body t/\t { nx:=λ _ H'=>Q .non H',rt:=Q } (start N vs) H) :
  FnOk P w K mg base CX (k+1) f (PySem.W.fnOf name qual params body scope dV kV doc pm an cdv ct) ps sp:=by
 refine ⟨len,λ A outer s H args us vs Q E hr e0 hb r hsp=>?_⟩
 have hl:=len _ _ _ _ hsp
 have KX:K.In s.heap:=e0.mod.kin.keeps λ b o e=>(e0.bs b o e).1
 have lim:s.heap.NoLimit:=e0.mod.nolimit.keeps λ b o e=>(e0.bs b o e).1
 have hkind:∀ y∈ps.zip us,scope.names.lookup y.1=some .local\/(scope.names.lookup y.1=some .cell/\((cellsFrom (s.heap.objs.size+1) scope.names []).lookup y.1).isSome=true):=λ ⟨n,v⟩ hy=>by
  rcases S.par n (List.of_mem_zip hy).1 with q | q
  ·exact .inl q
  ·exact .inr ⟨q,PySem.W.cellsFrom_some _ _ _ (.inl q)⟩
 refine codeAny_call_function hr.depth (KX _ _ lk) rfl S.co S.gen rfl (PySem.W.codeRec_of KX hcd) (hb _ _ _ _ ?_)
 refine wpAny_newFunctionEnv_cells S.kind hkind λ env he s1 x=>?_
 subst he
 refine ⟨lim.keeps x.toInCall.keep,codeAny_func ?_⟩
 obtain ⟨t,ht,hq⟩:=hbody A outer s H vs Q E (hr.deeper _) hsp
 have I:Inv (cxOf CX P w K mg base N qual scope f cdv A outer s H E) [] (start N vs) H s1:=inv_start S hr.hd e0 hl r x
 refine wpAny_mono (ht [] s1 (start N vs) H _ I hq) (λ fl s' hs=>?_) λ e s' hs=>hs
 have fin:∀ {σ':St} {H':Hp} {v:V} {u:Value},Inv (cxOf CX P w K mg base N qual scope f cdv A outer s H E) [] σ' H' s'->RelV v u->Q v H'->CE outer P w H s Q u s' :=
  λ {σ' H' v u} J rv q=>⟨v,H',J.os,J.bare,J.base,J.hok,rv,q⟩
 cases fl with
 | ret u =>
  obtain ⟨v,σ',H',J,rv,q⟩:=hs
  exact fin J rv q
 | next =>
  obtain ⟨σ',H',J,q⟩:=hs
  exact fin (v:=V.non) (u:=Value.none) J rfl q
 | brk =>
  obtain ⟨_,_,_,q⟩:=hs
  exact False.elim q
 | cont =>
  obtain ⟨_,_,_,q⟩:=hs
  exact False.elim q
end L2
namespace L2
open PySem PySem.Spec PyProof.Rows
section
variable {X:Cx}{x:Str}{p pos:Pos}{e:Expr}{es:List Expr}{t:TA}{id T:String}{r:List V->Hp->VK->Prop}
noncomputable def tCB (r:List V->Hp->VK->Prop)(t:TA):TE:=λ σ H Q=>t σ H λ vs H1=>r vs H1 Q
theorem pe_callB (hc:CallR X (.builtin id) r)(hg:Gl X x)(hm:X.mg x=none)(hv:bootBuiltins x=some (.builtin id))(ha:PA X (e :: es) t)(hn:x ≠ "__name__" := by decide)(hdb:(x == ("__debug__" : Str))=false:=by decide)
  (he:starEach (e :: es) X.env=(false,eval e X.env) :: starEach es X.env:=by rfl)(hpl:(backTo pos (starEach es X.env)).any (·.1)=false:=by rfl):PE X (.Call (.Name x p) (e :: es) [] pos) (tCB r t):=by
 intro pins s σ H Q I h
 refine wpAny_Call_Name_kw (ld_blt I hg hm hv ?_ hn hdb)
 exact PyProof.Rows.callWith_builtin1 (thn (ha pos pins s σ H _ I h) λ us s1 ⟨vs,H1,I1,r1,q1⟩=>hc pins s1 σ H1 vs us Q I1 r1 q1) he hpl
theorem pe_callTy (hc:CallR X (.type T) r)(hg:Gl X x)(hm:X.mg x=none)(hv:bootBuiltins x=some (.type T))(ha:PA X (e :: es) t)(hn:x ≠ "__name__" := by decide)(hdb:(x == ("__debug__" : Str))=false:=by decide)
  (he:starEach (e :: es) X.env=(false,eval e X.env) :: starEach es X.env:=by rfl)(hpl:(backTo pos (starEach es X.env)).any (·.1)=false:=by rfl):PE X (.Call (.Name x p) (e :: es) [] pos) (tCB r t):=by
 intro pins s σ H Q I h
 refine wpAny_Call_Name_kw (ld_blt I hg hm hv ?_ hn hdb)
 exact PyProof.Rows.callWith_type1 (thn (ha pos pins s σ H _ I h) λ us s1 ⟨vs,H1,I1,r1,q1⟩=>hc pins s1 σ H1 vs us Q I1 r1 q1) he hpl
end
end L2
namespace HT
open PySem PyProof.Rows
section
open PySem.SeqAt
open PySem.AutoSeq1 (wpAny_loadPart')
open PySem.MeetsSeq PySem.MeetsSeq2 PySem.MeetsSeq3
end
section
variable {prog:Program}{w:World}{A:Around}{E:Value->Shared->Prop}{s:Shared}
noncomputable def sIx (n d:Nat):Option Int->Nat
 | none=>d
 | some v=>if v < 0 then (v+(n:Int)).toNat else min v.toNat n
theorem sIx_le (n d:Nat)(hd:d<=n)(o:Option Int):sIx n d o<=n:=by
 cases o with
 | none=>exact hd
 | some v =>
  show (if v < 0 then (v+(n:Int)).toNat else min v.toNat n)<=n
  by_cases hv:v < 0
  ·rw [if_pos hv]; omega
  ·rw [if_neg hv]; exact Nat.min_le_right _ _
theorem clip_eq (v:Int)(n d:Nat):(if v < 0 then max (v+(n:Int)) 0 else min v (n:Int))=((sIx n d (some v):Nat):Int):=by
 show (if v < 0 then max (v+(n:Int)) 0 else min v (n:Int))=(((if v < 0 then (v+(n:Int)).toNat else min v.toNat n):Nat):Int)
 by_cases hv:v < 0
 ·simp only [if_pos hv]; omega
 ·simp only [if_neg hv]; omega
theorem adjust_gen (lo hi:Option Int)(n:Nat):Builtin.Slice.sliceAdjust lo hi 1 (n:Int)=(((sIx n 0 lo:Nat):Int),((sIx n n hi:Nat):Int)):=by
 have h1:¬ ((1:Int) < 0):=by omega
 unfold Builtin.Slice.sliceAdjust
 simp only [h1,if_false]
 refine Prod.ext ?_ ?_
 ·cases lo with
  | none=>rfl
  | some v=>exact clip_eq v n 0
 ·cases hi with
  | none=>rfl
  | some v=>exact clip_eq v n n
theorem places_gen (i j:Nat):Builtin.Slice.slicePlaces (i:Int) (j:Int) 1=j - i:=by
 unfold Builtin.Slice.slicePlaces
 have h1:(1:Int) > 0:=by omega
 simp only [h1,if_true,Int.ediv_one]
 split <;> omega
theorem slicePart_ {v:Value}{o:Option Int}{Q:Option Int->Shared->Prop}(p:IsPart v o)(h:Q o s):wpAny (model prog w) A (Builtin.Slice.slicePartIndex v) Q E s:=by
 cases p with
 | none=>exact slicePart_none h
 | int i t=>exact slicePart_int h
theorem sliceApplied_gen {sl:Addr}{vl vu:Value}{lo hi:Option Int}{n:Nat}{Q:Int×Int×Nat->Shared->Prop}(hs:s.heap.IsSliceOf sl vl vu .none)(pl:IsPart vl lo)(pu:IsPart vu hi)
  (h:Q (((sIx n 0 lo:Nat):Int),1,sIx n n hi - sIx n 0 lo) s):wpAny (model prog w) A (Builtin.Slice.sliceApplied (.ref sl) (pure (n:Int))) Q E s:=by
 obtain ⟨os,hos,hcs,hds⟩:=id hs
 unfold Builtin.Slice.sliceApplied Builtin.Slice.sliceFields
 refine wpAny_bind (wpAny_bind (wpAny_field hos hds (x:=vl) rfl (wpAny_bind (wpAny_field hos hds (x:=vu) rfl (wpAny_bind (wpAny_field hos hds (x:=.none) rfl (wpAny_pure ?_)))))))
 refine wpAny_bind (slicePart_none ?_)
 show wpAny _ _ (if ((1:Int) == 0)=true then _ else _) _ _ s
 rw [if_neg (by decide)]
 refine wpAny_bind (slicePart_ pl (wpAny_bind (slicePart_ pu (wpAny_bind (wpAny_pure ?_)))))
 show wpAny _ _ (match Builtin.Slice.sliceAdjust lo hi 1 (n:Int) with | (lo,hi)=>pure (lo,(1:Int),Builtin.Slice.slicePlaces lo hi 1)) _ _ s
 rw [adjust_gen lo hi n]
 show wpAny _ _ (pure (((sIx n 0 lo:Nat):Int),(1:Int),Builtin.Slice.slicePlaces ((sIx n 0 lo:Nat):Int) ((sIx n n hi:Nat):Int) 1)) _ _ s
 rw [places_gen]
 exact wpAny_pure h
theorem pick_gen (xs:Array Value)(i k:Nat):((List.range k).filterMap λ (m:Nat)=>xs[((i:Int)+(m:Int) * 1).toNat]?).toArray=((xs.toList.drop i).take k).toArray:=by
 have e:(λ (m:Nat)=>xs[((i:Int)+(m:Int) * 1).toNat]?)=λ m=>xs[i+m]?:=by
  funext m
  have:((i:Int)+(m:Int) * 1).toNat=i+m:=by omega
  rw [this]
 rw [e]
 have:=pick_run xs i k
 rw [List.filterMap_map] at this
 have e2:((λ x=>xs[x]?) ∘ λ x=>i+x)=λ m=>xs[i+m]?:=rfl
 rw [e2] at this
 rw [this]
theorem getItem_tuple_cut {t sl:Addr}{items:Array Value}{vl vu:Value}{lo hi:Option Int}{Q:Value->Shared->Prop}(ht:IsTup s.heap t items)(hs:s.heap.IsSliceOf sl vl vu .none)(pl:IsPart vl lo)(pu:IsPart vu hi)
  (hw:¬ (sIx items.size 0 lo=0/\sIx items.size items.size hi=items.size))
  (h:Q (.ref s.heap.objs.size) { s with heap:=s.heap.push { cls:=.type "tuple",data:=.seq ((items.toList.drop (sIx items.size 0 lo)).take (sIx items.size items.size hi - sIx items.size 0 lo)).toArray } })
  (hsz:items.size<=sizeLine):wpAny (model prog w) A (getItem (.ref t) (.ref sl)) Q E s:=by
 have htake:sizeOk (.seq ((items.toList.drop (sIx items.size 0 lo)).take (sIx items.size items.size hi - sIx items.size 0 lo)).toArray):=by
  show ((items.toList.drop (sIx items.size 0 lo)).take (sIx items.size items.size hi - sIx items.size 0 lo)).toArray.size<=sizeLine
  rw [List.size_toArray,List.length_take,List.length_drop,Array.length_toList]
  omega
 have hj:sIx items.size items.size hi<=items.size:=sIx_le _ _ (Nat.le_refl _) hi
 obtain ⟨os,hos,hcs,hds⟩:=id hs
 have hTs:s.TypeIs (.ref sl) "slice" := ⟨os,hos,hcs⟩
 unfold getItem
 try with_reducible refine wpAny_holding ?_
 first | refine wpAny_bind (wpAny_pure ?_) | skip
 refine wpAny_bind (wpAny_sequenceKey ht.typeIs (by decide) ?_)
 refine wpAny_bind (wpAny_callSpecial?_slot (name:=Str.ofString "__getitem__") ht.typeIs PyProof.Rows.slot_tuple_getitem
  (wpAny_call_entry PyProof.Rows.slot_tuple_getitem ht.typeIs entry_tuple_getitem ?_ (args_tuple_getitem _ _)))
 show wpAny _ _ (Builtin.Tuple.tupleItemsOf (.ref t) >>= _) _ _ s
 refine wpAny_bind (tupleItemsOf_ ht ?_)
 refine wpAny_bind (wpAny_typeOf hTs ?_)
 rw [if_pos (by decide)]
 refine wpAny_bind (sliceApplied_gen hs pl pu ?_)
 have hno:¬ ((((sIx items.size 0 lo:Nat):Int) == 0 && (1:Int) == 1 && (sIx items.size items.size hi - sIx items.size 0 lo) == items.size)=true):=by
  intro q
  rw [Bool.and_eq_true,Bool.and_eq_true] at q
  have q1:((sIx items.size 0 lo:Nat):Int)=0:=eq_of_beq q.1.1
  have q2:sIx items.size items.size hi - sIx items.size 0 lo=items.size:=eq_of_beq q.2
  exact hw ⟨by omega,by omega⟩
 show wpAny _ _ (if (((sIx items.size 0 lo:Nat):Int) == 0 && (1:Int) == 1 && (sIx items.size items.size hi - sIx items.size 0 lo) == items.size)=true then _ else _) _ _ s
 rw [if_neg hno,pick_gen]
 first
  | exact wpAny_bind (m:=Builtin.Tuple.tupleExact _) (wpAny_newObj_type (wpAny_pure ⟨_,rfl,wpAny_pure h⟩) htake)
  | exact wpAny_bind (m:=Builtin.Tuple.tupleExact _) (wpAny_newObj_type (wpAny_bind (wpAny_pure (wpAny_pure ⟨_,rfl,wpAny_pure h⟩))) htake)
  | exact wpAny_bind (wpAny_bind (m:=Builtin.Tuple.tupleExact _) (wpAny_newObj_type (wpAny_pure (wpAny_pure ⟨_,rfl,wpAny_pure h⟩)) htake))
  | exact wpAny_bind (wpAny_bind (m:=Builtin.Tuple.tupleExact _) (wpAny_newObj_type (wpAny_pure ⟨_,rfl,wpAny_pure h⟩) htake))
end
end HT
namespace L2
open PySem PySem.Spec PyProof.Rows
noncomputable abbrev TO:=St->Hp->(Option Int->Hp->Prop)->Prop
noncomputable def PO (X:Cx)(e:Option Expr)(t:TO):Prop :=
 ∀ (pins:List (Addr×Obj)) (s:Shared) (σ:St) (H:Hp) (Q:Option Int->Hp->Prop),Inv X pins σ H s->t σ H Q ->
  wpAny (model X.prog X.w) X.A (evalPart e X.env) (λ u s'=>∃ o H',Inv X pins σ H' s'/\IsPart u o/\Q o H') X.xe s
noncomputable def tNoPart:TO:=λ _ H Q=>Q none H
noncomputable def tPart (t:TE):TO:=λ σ H Q=>t σ H λ x H1=>∃ i,x=.int i/\Q (some i) H1
section
variable {X:Cx}{e:Expr}{te:TE}{lo hi:Option Expr}{tl th:TO}{pos p2:Pos}
theorem po_none:PO X none tNoPart:=by
 intro pins s σ H Q I h
 rw [evalPart_none]
 exact wpAny_pure ⟨none,H,I,.none,h⟩
theorem po_some (h:PE X e te):PO X (some e) (tPart te):=by
 intro pins s σ H Q I hw
 rw [evalPart_some]
 refine thn (h pins s σ H _ I hw) λ u s1 hq24=>?_
 obtain ⟨x,H1,I1,r1,q1⟩:=hq24
 obtain ⟨i,rfl,q⟩:=q1
 obtain ⟨t,rfl⟩:=r1
 exact ⟨some i,H1,I1,.int i t,q⟩
noncomputable def SlR (X:Cx)(r:V->Option Int->Option Int->Hp->VK->Prop):Prop :=
 ∀ (pins:List (Addr×Obj)) (s:Shared) (σ:St) (H:Hp) (x:V) (v vl vu:Value) (lo hi:Option Int) (sl:Addr) (Q:VK),Inv X pins σ H s->RelV x v->s.heap.IsSliceOf sl vl vu .none->IsPart vl lo->IsPart vu hi->r x lo hi H Q ->
  ∃ T id,typeLookup (.type T) "__getitem__" = pure (some (.builtin id))/\s.TypeIs v T/\wpAny (model X.prog X.w) X.A (getItem v (.ref sl)) (EP X pins σ Q) X.xe s
theorem SlR.or {r r':V->Option Int->Option Int->Hp->VK->Prop}(h:SlR X r)(h':SlR X r'):SlR X (λ x lo hi H Q=>r x lo hi H Q\/r' x lo hi H Q):=by
 intro pins s σ H x v vl vu lo hi sl Q I rx hs pl pu q
 rcases q with q | q
 ·exact h pins s σ H x v vl vu lo hi sl Q I rx hs pl pu q
 ·exact h' pins s σ H x v vl vu lo hi sl Q I rx hs pl pu q
noncomputable def tSl (r:V->Option Int->Option Int->Hp->VK->Prop)(te:TE)(tl th:TO):TE:=λ σ H Q=>te σ H λ x H1=>tl σ H1 λ l H2=>th σ H2 λ u H3=>r x l u H3 Q
theorem pe_slice {r:V->Option Int->Option Int->Hp->VK->Prop}(hr:SlR X r)(he:PE X e te)(hl:PO X lo tl)(hu:PO X hi th):PE X (.Subscript e (.Slice lo hi none p2) pos) (tSl r te tl th):=by
 intro pins s σ H Q I h
 refine Subscript_ (thn (he pins s σ H _ I h) λ v s1 hq25=>?_)
 obtain ⟨x,H1,I1,r1,q1⟩:=hq25
 refine wpAny_Slice (thn (hl pins s1 σ H1 _ I1 q1) λ vl s2 ⟨l,H2,I2,pl,q2⟩=>thn (hu pins s2 σ H2 _ I2 q2) λ vu s3 hq26=>?_)
 obtain ⟨u,H3,I3,pu,q3⟩:=hq26
 rw [evalPart_none]
 refine wpAny_pure ?_
 have I4:Inv X pins σ H3 { s3 with heap:=s3.heap.push { cls:=.type "slice",data:=.fields #[vl,vu,.none] } }:=I3.kept (t':=s3.toks) λ b ob q=>Heap.get?_push_of_some _ q
 obtain ⟨T,id,hT,ht,hg⟩:=hr pins { s3 with heap:=s3.heap.push { cls:=.type "slice",data:=.fields #[vl,vu,.none] } } σ H3 x v vl vu l u s3.heap.objs.size Q I4 r1 (Heap.IsSliceOf.new ..) pl pu q3
 show wpAny (model X.prog X.w) X.A (subscriptTail e (.Slice lo hi none p2) v (.ref s3.heap.objs.size)) (EP X pins σ Q) X.xe { s3 with heap:=s3.heap.push { cls:=.type "slice",data:=.fields #[vl,vu,.none] } }
 exact tail_any (ops:=[.ref s3.heap.objs.size,v]) ht hT hg (by with_unfolding_all rfl)
noncomputable def cutV (xs:List V)(lo hi:Option Int):List V:=(xs.drop (HT.sIx xs.length 0 lo)).take (HT.sIx xs.length xs.length hi - HT.sIx xs.length 0 lo)
theorem cutV_length (xs:List V)(lo hi:Option Int):(cutV xs lo hi).length<=xs.length:=by
 unfold cutV
 rw [List.length_take,List.length_drop]
 omega
noncomputable def rSlT (K:PySem.W.Frag):V->Option Int->Option Int->Hp->VK->Prop:=λ x lo hi H Q=>∃ a xs,x=.ref a/\SqT K H a xs /\
 ¬ (HT.sIx xs.length 0 lo=0/\HT.sIx xs.length xs.length hi=xs.length)/\∀ p,H p=none->Q (.ref p) (upd H p (.tup (cutV xs lo hi)))
theorem sl_tup:SlR X (rSlT X.K):=by
 intro pins s σ H x v vl vu lo hi sl Q I rx hs pl pu h
 obtain ⟨a,xs,rfl,hx,hw,q⟩:=h
 cases rx
 obtain ⟨its,r,ht,hz⟩:=I.tuple hx
 have hlen:its.toArray.size=xs.length:=by rw [List.size_toArray]; exact r.length.symm
 refine ⟨"tuple",_,PyProof.Rows.slot_tuple_getitem.lookup,ht.typeIs,?_⟩
 refine HT.getItem_tuple_cut ht hs pl pu (by rw [hlen]; exact hw) ?_ (by rw [hlen]; exact hz)
 rw [hlen]
 refine ⟨.ref s.heap.objs.size,_,I.laid (t':=s.toks) (o:=.tup (cutV xs lo hi)) (λ b ob q=>Heap.get?_push_of_some _ q) (Nat.le_refl _) ?_,rfl,q _ (I.hok.fresh (Nat.le_refl _))⟩
 exact ⟨Nat.le_trans (cutV_length xs lo hi) hz,_,(r.drop (HT.sIx xs.length 0 lo)).take (HT.sIx xs.length xs.length hi - HT.sIx xs.length 0 lo),TupN.new _ _⟩
end
end L2
namespace L2
open PySem PySem.Spec PyProof.Rows
noncomputable def ixN (n:Nat)(i:Int):Option Nat:=if 0<=i then (if i < n then some i.toNat else none) else if -(n:Int)<=i then some (i+n).toNat else none
noncomputable def atI {α:Type}(xs:List α)(i:Int):Option α:=(ixN xs.length i).bind λ j=>xs[j]?
theorem ixN_seq {n:Nat}{i:Int}{j:Nat}(h:ixN n i=some j):seqIndex? i n=some j/\j < n/\-(n:Int)<=i/\i < n:=by
 unfold ixN at h
 by_cases h0:0<=i
 ·rw [if_pos h0] at h
  by_cases h1:i < n
  ·rw [if_pos h1] at h
   have e:i.toNat=j:=Option.some.inj h
   exact ⟨by rw [seqIndex_of h0 h1,e],by omega,by omega,h1⟩
  ·rw [if_neg h1] at h; cases h
 ·rw [if_neg h0] at h
  by_cases h1:-(n:Int)<=i
  ·rw [if_pos h1] at h
   have e:(i+n).toNat=j:=Option.some.inj h
   exact ⟨by rw [seqIndex_neg (by omega) h1,e],by omega,h1,by omega⟩
  ·rw [if_neg h1] at h; cases h
theorem atI_get {α:Type}{xs:List α}{i:Int}{v:α}(h:atI xs i=some v):∃ j,seqIndex? i xs.length=some j/\xs[j]? = some v/\j < xs.length/\-(xs.length:Int)<=i/\i < xs.length:=by
 unfold atI at h
 cases e:ixN xs.length i with
 | none=>rw [e] at h; cases h
 | some j =>
  rw [e] at h
  obtain ⟨h1,h2,h3,h4⟩:=ixN_seq e
  exact ⟨j,h1,h,h2,h3,h4⟩
theorem atI_nat {α:Type}{xs:List α}{j:Nat}{v:α}(h:xs[j]? = some v):atI xs (j:Int)=some v:=by
 have hj:j < xs.length:=(List.getElem?_eq_some_iff.mp h).1
 have e:ixN xs.length (j:Int)=some j:=by
  unfold ixN
  rw [if_pos (by omega),if_pos (by omega)]; simp
 unfold atI; rw [e]; exact h
noncomputable def PlainIx (b:Expr):Prop:=∀ o i,subscripted b false o i=operate [o,i] (getItem o i)
noncomputable def IxR (X:Cx)(r:R2):Prop :=
 ∀ (value slice:Expr) (pins:List (Addr×Obj)) (s:Shared) (σ:St) (H:Hp) (x y:V) (v u:Value) (Q:VK),Inv X pins σ H s->RelV x v->RelV y u->r x y H Q ->
  subscripted slice false v u=operate [v,u] (getItem v u)->wpAny (model X.prog X.w) X.A (subscriptTail value slice v u) (EP X pins σ Q) X.xe s
noncomputable def MtR (X:Cx)(id:String)(r:V->List V->Hp->VK->Prop):Prop :=
 ∀ (pins:List (Addr×Obj)) (s:Shared) (σ:St) (H:Hp) (x:V) (xs:List V) (v:Value) (us:List Value) (Q:VK),Inv X pins σ H s->RelV x v->Vals xs us->r x xs H Q ->
  wpAny (model X.prog X.w) X.A (call (.builtin id) (v :: us)) (EP X pins σ Q) X.xe s
section
variable {X:Cx}{a b:Expr}{ta tb:TE}{pos:Pos}
theorem IxR.or {r r':R2}(h:IxR X r)(h':IxR X r'):IxR X (λ x y H Q=>r x y H Q\/r' x y H Q):=by
 intro value slice pins s σ H x y v u Q I rx ry q hs
 rcases q with q | q
 ·exact h value slice pins s σ H x y v u Q I rx ry q hs
 ·exact h' value slice pins s σ H x y v u Q I rx ry q hs
theorem MtR.or {id:String}{r r':V->List V->Hp->VK->Prop}(h:MtR X id r)(h':MtR X id r'):MtR X id (λ x xs H Q=>r x xs H Q\/r' x xs H Q):=by
 intro pins s σ H x xs v us Q I rx rs q
 rcases q with q | q
 ·exact h pins s σ H x xs v us Q I rx rs q
 ·exact h' pins s σ H x xs v us Q I rx rs q
theorem pe_ix {r:R2}(hr:IxR X r)(ha:PE X a ta)(hb:PE X b tb)(hs:PlainIx b):PE X (.Subscript a b pos) (tOp r ta tb):=by
 intro pins s σ H Q I h
 exact Subscript_ (binT ha hb I h λ v u s2 x y H2 I2 rx ry q=>hr a b pins s2 σ H2 x y v u Q I2 rx ry q (hs _ _))
noncomputable def rIxL (K:PySem.W.Frag):R2:=λ x y H Q=>∃ p xs i v,x=.ref p/\y=.int i/\SqL K H p xs/\atI xs i=some v/\Q v H
noncomputable def rIxT (K:PySem.W.Frag):R2:=λ x y H Q=>∃ p xs i v,x=.ref p/\y=.int i/\SqT K H p xs/\atI xs i=some v/\Q v H
noncomputable def rIxS:R2:=λ x y H Q=>∃ z i c,x=.str z/\y=.int i/\z.length<=sizeLine/\atI z.cps.toList i=some c/\Q (.str ⟨#[c]⟩) H
theorem ix_list:IxR X (rIxL X.K):=by
 intro value slice pins s σ H x y v u Q I rx ry h hs
 obtain ⟨p,xs,i,z,rfl,rfl,hq,he,q⟩:=h
 cases rx
 obtain ⟨t,rfl⟩:=ry
 obtain ⟨its,r,pl,hz⟩:=I.list hq
 obtain ⟨j,h1,h2,h3,h4,h5⟩:=atI_get he
 obtain ⟨w,ew,rw'⟩:=r.get h2
 have hl:=r.length
 have hn:=line63
 have fin:EP X pins σ Q w s:=⟨z,H,I,rw',q⟩
 by_cases h0:0<=i
 ·have hj:i.toNat=j:=by
   rw [seqIndex_of h0 h5] at h1
   exact Option.some.inj h1
  exact item_listR pl.isList h0 (by omega) (by rw [hj]; simpa using ew) fin hs
 ·have hj:(i+(its.toArray.size:Int)).toNat=j:=by
   rw [seqIndex_neg (by omega) h4] at h1
   rw [List.size_toArray,<- hl]
   exact Option.some.inj h1
  exact subscriptTail_builtinR (x:=w) pl.isList.typeIs slot_list_getitem.lookup
   (wpAny_getItem_list_neg (Q:=λ r s'=>r=w/\EP X pins σ Q r s') pl.isList (by omega) (by rw [List.size_toArray] <;> omega) (by omega) (by rw [hj]; simpa using ew) ⟨rfl,fin⟩) hs
theorem ix_tup:IxR X (rIxT X.K):=by
 intro value slice pins s σ H x y v u Q I rx ry h hs
 obtain ⟨p,xs,i,z,rfl,rfl,hq,he,q⟩:=h
 cases rx
 obtain ⟨t,rfl⟩:=ry
 obtain ⟨its,r,pl,hz⟩:=I.tuple hq
 obtain ⟨j,h1,h2,h3,h4,h5⟩:=atI_get he
 obtain ⟨w,ew,rw'⟩:=r.get h2
 have hl:=r.length
 have hn:=line63
 have fin:EP X pins σ Q w s:=⟨z,H,I,rw',q⟩
 exact subscriptTail_builtinR (x:=w) pl.typeIs slot_tuple_getitem.lookup
  (getItem_tuple (j:=j) (Q:=λ r s'=>r=w/\EP X pins σ Q r s') pl (by omega) (by omega) (by rw [List.size_toArray,<- hl]; exact h1) (by simpa using ew) ⟨rfl,fin⟩) hs
theorem ix_str:IxR X rIxS:=by
 intro value slice pins s σ H x y v u Q I rx ry h hs
 obtain ⟨z,i,c,rfl,rfl,hz,he,q⟩:=h
 obtain ⟨t,rfl⟩:=rx
 obtain ⟨t',rfl⟩:=ry
 obtain ⟨j,h1,h2,h3,h4,h5⟩:=atI_get he
 have hl:z.cps.toList.length=z.length:=by simp [Str.length]
 rw [hl] at h1 h4 h5
 have hn:=line63
 exact tail_any (typeIs_str s z t) slot_str_getitem.lookup (getItem_str (c:=c) (by
  have e1:decide (i < -(2 ^ 63:Int))=false:=decide_eq_false (by omega)
  have e2:decide (i >= 2 ^ 63)=false:=decide_eq_false (by omega)
  rw [e1,e2,Bool.or_false]) (by rw [h1]; simpa using h2) ⟨.str ⟨#[c]⟩,H,I.tok _,⟨_,rfl⟩,q⟩) hs
noncomputable def rIx (K:PySem.W.Frag):R2:=λ x y H Q=>rIxL K x y H Q\/rIxT K x y H Q\/rIxS x y H Q
theorem ix_seq:IxR X (rIx X.K):=ix_list.or (ix_tup.or ix_str)
theorem mapSeq_set (its:List Value)(n j:Nat)(u:Value):Obj.mapSeq (·.setIfInBounds j u) { cls:=.type "list",data:=.seq its.toArray n }={ cls:=.type "list",data:=.seq (its.set j u).toArray n }:=by
 simp [Obj.mapSeq]
theorem Inv.lst {pins:List (Addr×Obj)}{σ:St}{H:Hp}{s:Shared}{p:Addr}{xs:List V}(I:Inv X pins σ H s)(h:H p=some (.lst xs)) :
  ∃ (its:List Value) (n:Nat),Vals xs its/\s.heap.get? p=some { cls:=.type "list",data:=.seq its.toArray n }/\xs.length<=sizeLine:=by
 obtain ⟨z,its,n,r,e⟩:=I.hok p _ h
 exact ⟨its,n,r,e,z⟩
theorem Inv.lstUpd {pins:List (Addr×Obj)}{σ:St}{H:Hp}{s:Shared}{p:Addr}{xs ys:List V}{its its':List Value}{n n':Nat}{f:Obj->Obj}(I:Inv X pins σ H s)(h:H p=some (.lst xs))
  (ho:s.heap.get? p=some { cls:=.type "list",data:=.seq its.toArray n })(hf:f { cls:=.type "list",data:=.seq its.toArray n }={ cls:=.type "list",data:=.seq its'.toArray n' })(r:Vals ys its')(hz:ys.length<=sizeLine)(t:Nat) :
  Inv X pins σ (upd H p (.lst ys)) { s with heap:=s.heap.update p f,toks:=t }:=by
 have e:(s.heap.update p f).get? p=some { cls:=.type "list",data:=.seq its'.toArray n' }:=by
  rw [Heap.get?_update_self f ho (by rw [hf] <;> rfl),hf]
 refine I.write (x:=p) (e:=p) (by rw [h]; trivial) (.inl rfl) (λ b u hb q=>(Heap.get?_update_other _ _ (Ne.symm hb)).trans q) ⟨_,e⟩ ?_
 exact ⟨hz,its',n',r,e⟩
noncomputable def rSetL:V->V->V->Hp->(Hp->Prop)->Prop:=λ o i v H Q=>∃ p xs k j,o=.ref p/\i=.int k/\H p=some (.lst xs)/\ixN xs.length k=some j/\Q (upd H p (.lst (xs.set j v)))
theorem set_list:PSet X rSetL:=by
 intro pins s σ H o i v ov iv u Q I ro ri rv h
 obtain ⟨p,xs,k,j,rfl,rfl,hp,hj,q⟩:=h
 cases ro
 obtain ⟨t,rfl⟩:=ri
 obtain ⟨its,n,r,ho,hz⟩:=I.lst hp
 obtain ⟨h1,h2,h3,h4⟩:=ixN_seq hj
 have hl:=r.length
 have hn:=line63
 have I':Inv X pins σ (upd H p (.lst (xs.set j v))) { s with heap:=s.heap.update p (Obj.mapSeq (·.setIfInBounds j u)) } :=
  I.lstUpd hp ho (mapSeq_set its n j u) (r.set rv j) (by rw [List.length_set]; exact hz) s.toks
 by_cases h0:0<=k
 ·have hk:k.toNat=j:=by
   rw [seqIndex_of h0 h4] at h1
   exact Option.some.inj h1
  exact PySem.W.ki_setAt ho h0 (by omega) (by rw [List.size_toArray,<- hl]; exact h4) (by rw [hk]; exact ⟨_,I',q⟩)
 ·have hk:(k+(its.toArray.size:Int)).toNat=j:=by
   rw [seqIndex_neg (by omega) h3] at h1
   rw [List.size_toArray,<- hl]
   exact Option.some.inj h1
  exact PySem.W.ki_setBack ho (by omega) (by rw [List.size_toArray,<- hl]; exact h3) (by omega) (by rw [hk]; exact ⟨_,I',q⟩)
theorem slice_bounds (lo hi:Option Int)(n:Nat):(sliceBounds lo hi none n).1=((HT.sIx n 0 lo:Nat):Int)/\(sliceBounds lo hi none n).2.1=((HT.sIx n n hi:Nat):Int)/\(sliceBounds lo hi none n).2.2=1:=by
 refine ⟨?_,?_,rfl⟩
 ·cases lo with
  | none=>simp [sliceBounds,HT.sIx]
  | some i =>
   simp only [sliceBounds,HT.sIx,Option.getD_none,show (1:Int) > 0 by decide,if_true]
   by_cases h:i < 0
   ·simp only [h,if_true] <;> omega
   ·simp only [h,if_false] <;> omega
 ·cases hi with
  | none=>simp [sliceBounds,HT.sIx]
  | some i =>
   simp only [sliceBounds,HT.sIx,Option.getD_none,show (1:Int) > 0 by decide,if_true]
   by_cases h:i < 0
   ·simp only [h,if_true] <;> omega
   ·simp only [h,if_false] <;> omega
theorem slicePick_cut (its:List Value)(lo hi:Option Int):slicePick its.toArray lo hi none=((its.drop (HT.sIx its.length 0 lo)).take (HT.sIx its.length its.length hi - HT.sIx its.length 0 lo)).toArray:=by
 obtain ⟨h1,h2,h3⟩:=slice_bounds lo hi its.toArray.size
 unfold slicePick
 rw [h1,h2,h3]
 simp only [sliceRange_one,pick_run,List.size_toArray] <;> rfl
noncomputable def rSlL (K:PySem.W.Frag):V->Option Int->Option Int->Hp->VK->Prop:=λ x lo hi H Q=>∃ a xs,x=.ref a/\SqL K H a xs/\∀ p,H p=none->Q (.ref p) (upd H p (.lst (cutV xs lo hi)))
theorem sl_list:SlR X (rSlL X.K):=by
 intro pins s σ H x v vl vu lo hi sl Q I rx hs pl pu h
 obtain ⟨a,xs,rfl,hx,q⟩:=h
 cases rx
 obtain ⟨its,r,ht,hz⟩:=I.list hx
 have hlen:=r.length
 refine ⟨"list",_,slot_list_getitem.lookup,ht.isList.typeIs,?_⟩
 refine wpAny_getItem_list_slice ht.isList hs pl pu .none (by simp) ?_ (by rw [List.size_toArray] <;> omega)
 rw [slicePick_cut,<- hlen]
 refine ⟨.ref s.heap.objs.size,_,I.laid (t':=s.toks) (o:=.lst (cutV xs lo hi)) (λ b ob q=>Heap.get?_push_of_some _ q) (Nat.le_refl _) ?_,rfl,q _ (I.hok.fresh (Nat.le_refl _))⟩
 exact ⟨Nat.le_trans (cutV_length xs lo hi) hz,_,0,(r.drop (HT.sIx xs.length 0 lo)).take (HT.sIx xs.length xs.length hi - HT.sIx xs.length 0 lo),Heap.get?_push_size _ rfl⟩
noncomputable def flatV:V->Bool
 | .non=>true
 | .bl _=>true
 | .int _=>true
 | .str _=>true
 | _=>false
noncomputable def eqV:V->V->Bool
 | .non,.non=>true
 | .bl a,.bl b=>a == b
 | .bl a,.int b=>(if a then 1 else 0) == b
 | .int a,.bl b=>a == (if b then 1 else 0)
 | .int a,.int b=>a == b
 | .str a,.str b=>a == b
 | _,_=>false
theorem eqAt_V {A:Around}{s:Shared}{y x:V}{u v:Value}(ry:RelV y u)(rx:RelV x v)(fy:flatV y=true)(fx:flatV x=true):SeqAt.EqAt A s u v (eqV y x):=by
 cases y with
 | non =>
  cases ry
  cases x with
  | non=>cases rx; exact SeqAt.EqAt.same _
  | bl b=>cases rx; exact SeqAt.EqAt.none_bool b
  | int b=>obtain ⟨t,rfl⟩:=rx; exact SeqAt.EqAt.none_int b t
  | str b=>obtain ⟨t,rfl⟩:=rx; exact SeqAt.EqAt.none_str b t
  | _=>exact absurd (show false=true from fx) Bool.false_ne_true
 | bl a =>
  cases ry
  cases x with
  | non=>cases rx; exact SeqAt.EqAt.bool_none a
  | bl b=>cases rx; exact SeqAt.EqAt.bool_bool a b
  | int b=>obtain ⟨t,rfl⟩:=rx; exact SeqAt.EqAt.bool_int a b t
  | str b=>obtain ⟨t,rfl⟩:=rx; exact SeqAt.EqAt.bool_str a b t
  | _=>exact absurd (show false=true from fx) Bool.false_ne_true
 | int a =>
  obtain ⟨t',rfl⟩:=ry
  cases x with
  | non=>cases rx; exact SeqAt.EqAt.int_none a t'
  | bl b=>cases rx; exact SeqAt.EqAt.int_bool a t' b
  | int b=>obtain ⟨t,rfl⟩:=rx; exact SeqAt.EqAt.int_int a t' b t
  | str b=>obtain ⟨t,rfl⟩:=rx; exact SeqAt.EqAt.int_str a t' b t
  | _=>exact absurd (show false=true from fx) Bool.false_ne_true
 | str a =>
  obtain ⟨t',rfl⟩:=ry
  cases x with
  | non=>cases rx; exact SeqAt.EqAt.str_none a t'
  | bl b=>cases rx; exact SeqAt.EqAt.str_bool a t' b
  | int b=>obtain ⟨t,rfl⟩:=rx; exact SeqAt.EqAt.str_int a t' b t
  | str b=>obtain ⟨t,rfl⟩:=rx; exact SeqAt.EqAt.str_str a t' b t
  | _=>exact absurd (show false=true from fx) Bool.false_ne_true
 | _=>exact absurd (show false=true from fy) Bool.false_ne_true
noncomputable def eqU (x:V)(u:Value):Bool:=match u with
 | .none=>eqV .non x
 | .bool b=>eqV (.bl b) x
 | .int i _=>eqV (.int i) x
 | .str z _=>eqV (.str z) x
 | _=>false
theorem eqU_of {x y:V}{u:Value}(r:RelV y u)(f:flatV y=true):eqU x u=eqV y x:=by
 cases y with
 | non=>cases r; rfl
 | bl b=>cases r; rfl
 | int i=>obtain ⟨t,rfl⟩:=r; rfl
 | str z=>obtain ⟨t,rfl⟩:=r; rfl
 | _=>exact absurd (show false=true from f) Bool.false_ne_true
theorem any_eqU {x:V}:∀ {xs:List V} {us:List Value},Vals xs us->xs.all flatV=true->us.any (eqU x)=xs.any λ y=>eqV y x
 | _,_,.nil,_=>rfl
 | y :: xs,u :: us,.cons r t,f=>by
  rw [List.all_cons,Bool.and_eq_true] at f
  rw [List.any_cons,List.any_cons,eqU_of r f.1,any_eqU t f.2]
theorem mem_eqAt {A:Around}{s:Shared}{x:V}{v:Value}(rx:RelV x v)(fx:flatV x=true):∀ {xs:List V} {us:List Value},Vals xs us->xs.all flatV=true->∀ u∈us,SeqAt.EqAt A s u v (eqU x u)
 | _,_,.nil,_=>λ u hu=>by cases hu
 | y :: xs,u :: us,.cons r t,f=>λ u' hu=>by
  rw [List.all_cons,Bool.and_eq_true] at f
  rcases List.mem_cons.mp hu with rfl | hu
  ·rw [eqU_of r f.1]; exact eqAt_V r rx f.1 fx
  ·exact mem_eqAt rx fx t f.2 u' hu
noncomputable def inV (x:V)(xs:List V):Bool:=xs.any λ y=>eqV y x
noncomputable def rIn (K:PySem.W.Frag)(neg:Bool):R2:=λ x y H Q=>∃ p xs,y=.ref p/\(SqL K H p xs\/SqT K H p xs)/\flatV x=true/\xs.all flatV=true/\Q (.bl (if neg then !inV x xs else inV x xs)) H
theorem op_in_seq:OpR X (compareOp .In) (rIn X.K false):=by
 intro pins s σ H x y v u Q I rx ry h
 obtain ⟨p,xs,rfl,hq,fx,fs,q⟩:=h
 cases ry
 rcases hq with hq | hq
 ·obtain ⟨its,r,pl,hz⟩:=I.list hq
  refine SeqAt.in_listAt (eqU x) pl.isList (λ w hw=>mem_eqAt rx fx r fs w (by simpa using hw)) ⟨.bl _,H,I,rfl,?_⟩
  rw [show its.toArray.any (eqU x)=its.any (eqU x) by simp,any_eqU r fs]
  exact q
 ·obtain ⟨its,r,pl,hz⟩:=I.tuple hq
  refine SeqAt.in_tupleAt (eqU x) pl (λ w hw=>mem_eqAt rx fx r fs w (by simpa using hw)) ⟨.bl _,H,I,rfl,?_⟩
  rw [show its.toArray.any (eqU x)=its.any (eqU x) by simp,any_eqU r fs]
  exact q
theorem CallR.or {f:Value}{r r':List V->Hp->VK->Prop}(h:CallR X f r)(h':CallR X f r'):CallR X f (λ xs H Q=>r xs H Q\/r' xs H Q):=by
 intro pins s σ H xs us Q I rs q
 rcases q with q | q
 ·exact h pins s σ H xs us Q I rs q
 ·exact h' pins s σ H xs us Q I rs q
theorem call_list_of:CallR X (.type "list") (λ xs H Q=>∃ p ys,xs=[.ref p]/\(SqL X.K H p ys\/SqT X.K H p ys)/\∀ l,H l=none->Q (.ref l) (upd H l (.lst ys))):=by
 intro pins s σ H xs us Q I r h
 obtain ⟨p,ys,rfl,hq,q⟩:=h
 obtain ⟨u,rfl,rx⟩:=vals1 r
 cases rx
 have fin:∀ (its:List Value),Vals ys its->ys.length<=sizeLine->∀ (h':Heap) (c':Nat),(∀ b o',s.heap.get? b=some o'->h'.get? b=some o') ->
   h'.get? s.heap.objs.size=some { cls:=.type "list",dict:=none,data:=.seq its.toArray c',slots:=#[] }->EP X pins σ Q (.ref s.heap.objs.size) { s with heap:=h' }:=λ its r' hz h' c' kp e =>
  ⟨.ref s.heap.objs.size,_,I.laid (t':=s.toks) kp (Nat.le_refl _) (show ObjOk X.prog X.w _ h' _ (.lst ys) from ⟨hz,its,c',r',e⟩),rfl,q _ (I.hok.fresh (Nat.le_refl _))⟩
 rcases hq with hq | hq
 ·obtain ⟨its,r',pl,hz⟩:=I.list hq
  have hlen:=r'.length
  obtain ⟨o,ho,hc,n,hd⟩:=pl.isList
  exact call_list_seq p (.inl rfl) ho hc hd (λ h' c' kp e=>fin its r' hz h' c' kp e) (by simp only [List.size_toArray] <;> omega)
 ·obtain ⟨its,r',pl,hz⟩:=I.tuple hq
  have hlen:=r'.length
  obtain ⟨o,ho,hc,n,hd⟩:=pl
  exact call_list_seq p (.inr rfl) ho hc hd (λ h' c' kp e=>fin its r' hz h' c' kp e) (by simp only [List.size_toArray] <;> omega)
noncomputable def tyV (K:PySem.W.Frag)(T:String)(x:V)(H:Hp):Prop:=match x with
 | .str _=>T = "str"
 | .int _=>T = "int"
 | .ref p=>(T = "list" /\ ∃ xs,SqL K H p xs)\/(T = "tuple" /\ ∃ xs,SqT K H p xs) \/
   (T = "dict" /\ ((∃ kvs,H p=some (.dK kvs))\/∃ kvs,H p=some (.dT kvs)))\/(T = "set" /\ ∃ S n,H p=some (.set S n))
 | _=>False
theorem tyV_is {pins:List (Addr×Obj)}{σ:St}{H:Hp}{s:Shared}{T:String}{x:V}{v:Value}(I:Inv X pins σ H s)(r:RelV x v)(ty:tyV X.K T x H) :
  s.TypeIs v T/\∀ a,v=.ref a->∃ ob,s.heap.get? a=some ob/\ob.dict=none:=by
 cases x with
 | str z =>
  obtain ⟨t,rfl⟩:=r
  cases (show T = "str" from ty)
  exact ⟨typeIs_str s z t,λ _ e=>nomatch e⟩
 | int i =>
  obtain ⟨t,rfl⟩:=r
  cases (show T = "int" from ty)
  exact ⟨typeIs_int s i t,λ _ e=>nomatch e⟩
 | ref p =>
  cases r
  rcases ty with ⟨rfl,xs,hq⟩ | ⟨rfl,xs,hq⟩ | ⟨rfl,hk⟩ | ⟨rfl,S,n,hk⟩
  ·obtain ⟨its,_,pl,_⟩:=I.list hq
   refine ⟨pl.isList.typeIs,λ a e=>?_⟩
   cases e
   obtain ⟨o,n,e,c,hd,_⟩:=pl
   exact ⟨o,e,hd⟩
  ·obtain ⟨its,_,⟨o,h1,h2,h3,_⟩,_⟩:=I.tupN hq
   refine ⟨⟨o,h1,h2⟩,λ a e=>?_⟩
   cases e
   exact ⟨o,h1,h3⟩
  ·have z:∃ o,s.heap.get? p=some o/\o.ExactDict:=by
    rcases hk with ⟨kvs,hk⟩ | ⟨kvs,hk⟩
    ·obtain ⟨_,_,_,_,o,_,_,e,ex,_⟩:=I.hok p _ hk
     exact ⟨o,e,ex⟩
    ·obtain ⟨_,_,_,_,o,_,_,e,ex,_⟩:=I.hok p _ hk
     exact ⟨o,e,ex⟩
   obtain ⟨o,e,ex⟩:=z
   refine ⟨⟨o,e,ex.1⟩,λ a e2=>?_⟩
   cases e2
   exact ⟨o,e,ex.2.1⟩
  ·obtain ⟨o,_,_,_,e,ex,_⟩:=I.hok p _ hk
   refine ⟨⟨o,e,ex.1⟩,λ a e2=>?_⟩
   cases e2
   exact ⟨o,e,ex.2.1⟩
 | _=>exact False.elim ty
noncomputable def tBM0 (K:PySem.W.Frag)(T:String)(r:V->List V->Hp->VK->Prop)(to:TE):TE:=λ σ H Q=>to σ H λ x H1=>tyV K T x H1/\r x [] H1 Q
noncomputable def tBM (K:PySem.W.Frag)(T:String)(r:V->List V->Hp->VK->Prop)(to:TE)(t:TA):TE:=λ σ H Q=>to σ H λ x H1=>tyV K T x H1/\t σ H1 λ xs H2=>r x xs H2 Q
variable {o e:Expr}{es:List Expr}{to:TE}{t:TA}{name:Str}{apos cpos:Pos}{T id:String}{r:V->List V->Hp->VK->Prop}
theorem pe_bm0 (pa:PlainAttrs T)(slot:Slot T name id)(hty:typeOf (.builtin id)=pure (.type "method_descriptor"))(hm:MtR X id r)(ho:PE X o to)
  (hbase:attributeBase o name X.env (eval o X.env)=eval o X.env:=by rfl)(hline:(apos.endLine == cpos.line)=true:=by rfl):PE X (.Call (.Attribute o name apos) [] [] cpos) (tBM0 X.K T r to):=by
 intro pins s σ H Q I h
 refine wpAny_Call_method0_late hbase hline (thn (ho pins s σ H _ I h) λ v s1 hq27=>?_)
 obtain ⟨x,H1,I1,r1,ty,q1⟩:=hq27
 obtain ⟨h1,h2⟩:=tyV_is I1 r1 ty
 exact ⟨T,id,pa,slot,hty,h1,h2,Calls.callWith_builtin rfl (PySem.evalArgs_none (hm pins s1 σ H1 x [] v [] Q I1 r1 .nil q1))⟩
theorem pe_bm (pa:PlainAttrs T)(slot:Slot T name id)(hty:typeOf (.builtin id)=pure (.type "method_descriptor"))(hm:MtR X id r)(ho:PE X o to)(ha:PA X (e :: es) t)
  (hbase:attributeBase o name X.env (eval o X.env)=eval o X.env:=by rfl)
  (hfew:((backTo cpos (starEach (e :: es) X.env)).all (λ x=>!x.1) && (backToKw cpos (keywordEach [] X.env)).all (λ x=>x.1.isSome)
   && decide ((e :: es).length+([]:List Keyword).length+(if ([]:List Keyword).isEmpty then 0 else 1) < 30))=true:=by rfl)
  (hline:(apos.endLine == cpos.line)=true:=by rfl)(hs:starEach (e :: es) X.env=(false,eval e X.env) :: starEach es X.env:=by rfl)(hplain:(backTo cpos (starEach es X.env)).any (·.1)=false:=by rfl) :
  PE X (.Call (.Attribute o name apos) (e :: es) [] cpos) (tBM X.K T r to t):=by
 intro pins s σ H Q I h
 refine wpAny_Call_method_late hbase hfew hline rfl (thn (ho pins s σ H _ I h) λ v s1 hq28=>?_)
 obtain ⟨x,H1,I1,r1,ty,q1⟩:=hq28
 obtain ⟨h1,h2⟩:=tyV_is I1 r1 ty
 refine ⟨T,id,pa,slot,hty,h1,h2,?_⟩
 have hA:=ha cpos pins s1 σ H1 _ I1 q1
 rw [hs] at hA ⊢
 refine Calls.callWith_builtin (by show (false || (backTo cpos (starEach es X.env)).any (·.1))=false; rw [hplain] <;> rfl) (Calls.evalArgs_plain ?_)
 exact thn hA λ us s2 ⟨vs,H2,I2,r2,q2⟩=>hm pins s2 σ H2 x vs v us Q I2 r1 r2 q2
end
end L2
namespace L2
open PySem PySem.Spec PyProof.Rows
noncomputable def MtM (X:Cx)(id:String)(r:V->List V->Hp->VK->Prop):Prop :=
 ∀ (pins:List (Addr×Obj)) (s:Shared) (σ:St) (H:Hp) (x:V) (xs:List V) (v:Value) (us:List Value) (Q:VK),Inv X pins σ H s->RelV x v->Vals xs us->r x xs H Q ->
  wpAny (model X.prog X.w) X.A (call (.builtin id) (v :: us)) (EP X pins σ Q) X.xe s
theorem Vals.one:∀ {x:V} {us:List Value},Vals [x] us->∃ u,us=[u]/\RelV x u
 | _,_,.cons r .nil=>⟨_,rfl,r⟩
theorem Vals.zero:∀ {us:List Value},Vals [] us->us=[]
 | _,.nil=>rfl
theorem Vals.reverse {xs:List V}{us:List Value}(h:Vals xs us):Vals xs.reverse us.reverse:=by
 induction h with
 | nil=>exact .nil
 | cons r t ih=>rw [List.reverse_cons,List.reverse_cons]; exact Vals.append ih (.cons r .nil)
section
variable {X:Cx}{pins:List (Addr×Obj)}{σ:St}{H:Hp}{s:Shared}{l b:Addr}{xs ys zs:List V}
theorem Inv.lset {its its':List Value}{n:Nat}{f:Array Value->Array Value}{t':Nat}(I:Inv X pins σ H s)(hH:H l=some (.lst xs))
  (e:s.heap.get? l=some { cls:=.type "list",data:=.seq its.toArray n })(hf:f its.toArray=its'.toArray)(hv:Vals ys its')(hz:ys.length<=sizeLine) :
  Inv X pins σ (upd H l (.lst ys)) { s with heap:=s.heap.update l (Obj.mapSeq f),toks:=t' }:=by
 have q:=PySem.IsL.update e f
 rw [hf] at q
 refine I.write (x:=l) (e:=l) (by rw [hH]; exact trivial) (.inl rfl) (λ b' u hb hu=>(Heap.get?_update_other s.heap (Obj.mapSeq f) (Ne.symm hb)).trans hu) ⟨_,q⟩ ?_
 exact ⟨hz,its',_,hv,q⟩
theorem Inv.lnew {its:List Value}{t':Nat}(I:Inv X pins σ H s)(hv:Vals ys its)(hz:ys.length<=sizeLine) :
  Inv X pins σ (upd H s.heap.objs.size (.lst ys)) { s with heap:=s.heap.push { cls:=.type "list",data:=.seq its.toArray },toks:=t' } :=
 I.laid (λ _ _ q=>Heap.get?_push_of_some _ q) (Nat.le_refl _) ⟨hz,its,0,hv,Heap.get?_push_size _ rfl⟩
theorem Inv.fresh (I:Inv X pins σ H s):H s.heap.objs.size=none:=I.hok.fresh (Nat.le_refl _)
theorem Inv.lstM (I:Inv X pins σ H s)(hH:H l=some (.lst xs)):xs.length<=sizeLine/\∃ (its:List Value) (n:Nat),Vals xs its/\xs.length=its.length/\s.heap.get? l=some { cls:=.type "list",data:=.seq its.toArray n }:=by
 obtain ⟨z,its,n,r,e⟩:=I.hok l _ hH
 exact ⟨z,its,n,r,r.length,e⟩
end
section
variable {X:Cx}
noncomputable def rAppend:V->List V->Hp->VK->Prop:=λ x vs H Q=>∃ l xs y,x=.ref l/\vs=[y]/\H l=some (.lst xs)/\xs.length < sizeLine/\Q .non (upd H l (.lst (xs++[y])))
theorem mt_append:MtM X "list.append" rAppend:=by
 intro pins s σ H x vs v us Q I rx rv h
 obtain ⟨l,xs,y,rfl,rfl,hH,hz,q⟩:=h
 cases rx
 obtain ⟨u,rfl,ru⟩:=rv.one
 obtain ⟨z,its,n,r,hl,e⟩:=I.lstM hH
 refine call_meets F.slot_list_append ⟨_,e,rfl⟩ F.entry_list_append (F.args_list_append_2 _ _) (PySem.list_append l its.toArray n u (by rw [List.size_toArray]; omega)) ⟨e,?_⟩
 refine ⟨.non,_,I.lset (its':=its++[u]) hH e (by simp) (r.append (.cons ru .nil)) ?_,rfl,q⟩
 rw [List.length_append,List.length_singleton]
 omega
noncomputable def rReverse:V->List V->Hp->VK->Prop:=λ x vs H Q=>∃ l xs,x=.ref l/\vs=[]/\H l=some (.lst xs)/\Q .non (upd H l (.lst xs.reverse))
theorem mt_reverse:MtM X "list.reverse" rReverse:=by
 intro pins s σ H x vs v us Q I rx rv h
 obtain ⟨l,xs,rfl,rfl,hH,q⟩:=h
 cases rx
 have hus:=rv.zero
 subst hus
 obtain ⟨z,its,n,r,hl,e⟩:=I.lstM hH
 refine call_meets F.slot_list_reverse ⟨_,e,rfl⟩ F.entry_list_reverse (F.args_list_reverse_1 _) (AutoSeq1.list_reverse_list_0 l its.toArray n (by rw [List.size_toArray]; omega)) ⟨e,?_⟩
 refine ⟨.non,_,I.lset (its':=its.reverse) hH e (by simp) r.reverse ?_,rfl,q⟩
 rw [List.length_reverse]
 omega
end
section
variable {prog:Program}{w:World}{A:Around}{E:Value->Shared->Prop}{s:Shared}
end
section
variable {X:Cx}
end
end L2
namespace Att
open PySem PySem.W PySem.Calls PyProof.Rows
theorem ints_of_wellAll {P:Params}{h:Heap}:∀ (ns:List Int) (vs:List Value),WellAll P h vs (ns.map WData.int)->IntsAre vs ns:=by
 intro ns
 induction ns with
 | nil =>
  intro vs w
  rw [List.map_nil] at w
  cases w
  exact .nil
 | cons n ns ih =>
  intro vs w
  rw [List.map_cons] at w
  cases w with
  | cons a b =>
   cases a
   exact .cons _ _ (ih _ b)
theorem script_of {l:OpenLaw}{n:Nat}(hn:l.most=some n){P:Params}{h:Heap}{args:List WData}{vals:List Value}
  (hpre:l.row.toRowW.claim.pre args=true)(hwl:WellAll P h vals args) :
  ∃ a vs ns,vals=[Value.ref a]/\args=[WData.list (ns.map WData.int)]/\h.get? a=some { cls:=.type "list",data:=.seq vs.toArray }/\IntsAre vs ns/\ns.length<=n:=by
 have hsh:WShape.hasAll [] args [.list .int]=true:=(pre_splitW hpre).1
 have hc:l.pre.holds [] { args:=args }=true:=(pre_splitW hpre).2
 obtain ⟨d,r,rfl,h1,h2⟩:=hasAllW_cons hsh
 obtain rfl:=hasAllW_nil h2
 obtain ⟨xs,rfl,h3⟩:=hasW_list h1
 obtain ⟨ns,rfl⟩:=items_int h3
 have hlen:ns.length<=n:=by
  unfold OpenLaw.pre at hc
  have h4:(WTm.not (.lt (.lit (.int (n:Int))) (.len (.arg 0)))).holds [] { args:=[.list (ns.map .int)] }=true:=by
   have h4:=(holds_andW hc).1
   rw [hn] at h4
   exact h4
  have h5:=condW_of h4 (w_not (w_lt w_lit (w_len_list (w_arg rfl))))
  rw [List.length_map] at h5
  refine Nat.le_of_not_lt λ q=>?_
  have q':(n:Int) < ((ns.length:Nat):Int):=by omega
  first
   | (rw [decide_eq_true q'] at h5; exact absurd h5 (by decide))
   | (simp at h5; omega)
 cases hwl with
 | cons w1 w2 =>
  cases w2
  cases w1 with
  | list ho hall=>exact ⟨_,_,ns,rfl,rfl,ho,ints_of_wellAll ns _ hall,hlen⟩
theorem post_true (l:OpenLaw)(args:List WData):l.row.toRowW.claim.post args (.bool true) args=true :=
 postW_of (r:=l.row.toRowW) (X:=(true == true))
  (show WShape.has [] (.bool true) .bool=true by first | rfl | decide | simp [WShape.has,WShape.arms,WShape.armsAll])
  (show (WTm.eq .res (.lit (.bool true))).value [] { args:=args,res:=some (.bool true),after:=args }=some (.bool (true == true)) from w_eq_bool (w_res rfl) w_lit) rfl
theorem attach_call {l:OpenLaw}{n:Nat}{q:Program}{loose:List Str}{XP:(Str->Option Value)->Heap->Prop}{YP:World->Heap->Prop}{d:DefRec}
  (hn:l.most=some n)(hdf:d.params.defaults=[])
  (call:∀ (w:World) (s₀ s₁:Shared) (mg mb:Str->Option Value) (fa:Addr) (o:Obj) (pm cd doc:Value) (a:Addr) (vs:List Value) (ns:List Int),
   Ground q loose [] XP w s₀ mg mb s₁.heap->YP w s₁.heap ->
   s₁.heap.get? fa=some o->o.data=.func (docDef d.name d.params d.body d.scope pm cd doc)->s₁.heap.CodeRec cd d.name->mg d.name=some (.ref fa) ->
   s₁.heap.get? a=some { cls:=.type "list",data:=.seq vs.toArray }->IntsAre vs ns->ns.length<=n->s₁.gens = #[] ->
   codeAny (model l.prog w) callerA (.call (.ref fa) ⟨[.ref a],[]⟩) (λ r s'=>r=.ok (.ret (.bool true))/\OldK s₁.heap s'.heap/\s'.os=s₁.os/\AllBare s'.gens) s₁) :
  WalkO q loose XP YP l.row.toRowW d [] (λ f vs=>PySem.call f vs):=by
 intro w s₀ s₁ mg mb G Y fa o pm cd doc dV kV ho hd hcd hD hmg hg args vals as hpre hlay hrd hwl hlo
 obtain rfl:dV=.none:=Dflts.none hD hdf
 obtain rfl:kV=.none:=Dflts.noKw hD
 obtain ⟨a,vs,ns,rfl,rfl,hobj,hints,hlen⟩:=script_of hn hpre hwl
 refine enter_call (codeAny_mono (call w s₀ s₁ mg mb fa o pm cd doc a vs ns G Y ho (fd_plain hd) hcd hmg hobj hints hlen hg) λ r s' hq=>?_)
 obtain ⟨rfl,h2,h3,h4⟩:=hq
 exact ⟨.inl ⟨.bool true,.bool true,[],rfl,λ _=>rfl,.bool true,post_true l _,λ _=>⟨List.Pairwise.nil,λ _ hm=>(nomatch hm)⟩⟩,h2,h3,h4⟩
section
variable {prog:Program}{w:World}{A:Around}{E:Value->Shared->Prop}{s:Shared}{K:Frag}
end
end Att
namespace L2
open PySem PySem.Spec PyProof.Rows
theorem vals_ints:∀ {vs:List Value} {ns:List Int},IntsAre vs ns->Vals (ns.map V.int) vs
 | _,_,.nil=>.nil
 | _,_,.cons n t h=>.cons ⟨t,rfl⟩ (vals_ints h)
end L2
namespace L2
open PySem PySem.Spec PyProof.Rows
end L2
namespace L2
open PySem PySem.Spec PyProof.Rows
noncomputable def inClass (s:Stmt)(j:Nat):Stmt:=match s with
 | .ClassDef _ _ _ body _ _ _ _ _ _ _=>body.getD j (.Pass ⟨0,0,0,0⟩)
 | _=>.Pass ⟨0,0,0,0⟩
noncomputable def defArgs (s:Stmt):Arguments:=match s with
 | .FunctionDef _ a _ _ _ _ _ _ _ _=>a
 | _=>{ posonlyargs:=[],args:=[],vararg:=none,kwonlyargs:=[],kw_defaults:=[],kwarg:=none,defaults:=[] }
noncomputable def defBody (s:Stmt):List Stmt:=match s with
 | .FunctionDef _ _ b _ _ _ _ _ _ _=>b
 | _=>[]
noncomputable def defScope (s:Stmt):Scope:=match s with
 | .FunctionDef _ _ _ _ _ _ sc _ _ _=>sc
 | _=>{ kind:=.function,names:=[],isGenerator:=false,isCoroutine:=false }
noncomputable abbrev CX0:CXT:=λ _ _ _ _ _ _=>False
noncomputable abbrev E0:XK:=λ _ _ _=>False
theorem pass0 {X:Cx}:Passes CX0 X E0:=λ _ _ _ _ _ _ _ h=>h.elim
structure Fun (K:PySem.W.Frag)(x qual:Str)(st:Stmt)(f:Addr)(fd:FuncData):Prop where
 ex:∃ (oc:Value) (od:Option Addr) (kV doc pm:Value) (an:Option Addr) (cdv ct:Value) (osl:Array (Option Value)),
  fd=PySem.W.fnOf x qual (defArgs st) (defBody st) (defScope st) .none kV doc pm an cdv ct/\K.lookup f=some ⟨oc,od,.func fd,osl⟩/\PySem.W.codeIn K cdv qual=true
 kp:PySem.W.keepIn K (.ref f)=true
section
variable {P:Program}{w:World}{K:PySem.W.Frag}{mg:Str->Option Value}{base:Heap}
theorem Fun.ok {x qual:Str}{st:Stmt}{f:Addr}{fd:FuncData}{N ps:List Str}{k:Nat}{sp:Sp}(F:Fun K x qual st f fd)(S:FnScope N ps (defScope st))(len:∀ vs H Q E,sp vs H Q E->vs.length=ps.length)
  (hbody:∀ (cdv:Value) (A:Around) (outer:List Env) (s:Shared) (H:Hp) (vs:List V) (Q:VK) (E:XK),Room k (A.deeper (envOfC qual (defScope st) s.heap.objs.size f cdv))->sp vs H Q E ->
   ∃ t,PSs (cxOf CX0 P w K mg base N qual (defScope st) f cdv A outer s H E).nox (defBody st) t/\t { nx:=λ _ H'=>Q .non H',rt:=Q } (start N vs) H):FnOk P w K mg base CX0 (k+1) f fd ps sp:=by
 obtain ⟨oc,od,kV,doc,pm,an,cdv,ct,osl,rfl,lk,hcd⟩:=F.ex
 refine fn_of lk hcd S len λ A outer s H vs Q E hr hsp=>?_
 obtain ⟨t,h,q⟩:=hbody cdv A outer s H vs Q E hr hsp
 exact ⟨t,h.nox,q⟩
theorem Fun.binds {x qual:Str}{st:Stmt}{f:Addr}{fd:FuncData}{ps:List Str}(F:Fun K x qual st f fd)
  (h:∀ (kV doc pm:Value) (an:Option Addr) (cdv ct:Value) (us:List Value),us.length=ps.length->bindArgs (PySem.W.fnOf x qual (defArgs st) (defBody st) (defScope st) .none kV doc pm an cdv ct) ⟨us,[]⟩=pure (ps.zip us)):Binds K fd ps []:=by
 obtain ⟨oc,od,kV,doc,pm,an,cdv,ct,osl,rfl,lk,hcd⟩:=F.ex
 exact .all (h kV doc pm an cdv ct)
theorem fun_mk {x qual:Str}{st:Stmt}{f:Addr}{oc:Value}{od an:Option Addr}{osl:Array (Option Value)}{kV doc pm cdv ct:Value}(l:K.lookup f=some ⟨oc,od,.func (PySem.W.fnOf x qual (defArgs st) (defBody st) (defScope st) .none kV doc pm an cdv ct),osl⟩)
  (c:PySem.W.codeIn K cdv qual=true)(k:PySem.W.keepIn K (.ref f)=true):Fun K x qual st f (PySem.W.fnOf x qual (defArgs st) (defBody st) (defScope st) .none kV doc pm an cdv ct):=⟨⟨oc,od,kV,doc,pm,an,cdv,ct,osl,rfl,l,c⟩,k⟩
end
theorem hu_of {A:Around}{k:Nat}(hr:Room k A):A.units+1 < cLine:=Nat.lt_of_le_of_lt (Nat.add_le_add_left (by decide:1<=64) _) hr.units
section
variable {X:Cx}
theorem pv (i:Nat){x:Str}{pos:Pos}(hN:X.N[i]? = some x:=by rfl)(hv:Vis X.env.scope x:=by first | exact Or.inl rfl | exact Or.inr (Or.inl rfl) | exact Or.inr (Or.inr rfl))(hd:(x == ("__debug__" : Str))=false:=by decide)
  (hcd:(x == ("__classdict__" : Str))=false:=by decide):PE X (.Name x pos) (tVar i):=pe_var hN hv hd hcd
end
theorem iteF {A B:Prop}(h:B):if false=true then A else B:=by
 rw [if_neg Bool.false_ne_true]
 exact h
theorem iteT {A B:Prop}(h:A):if true=true then A else B:=by
 rw [if_pos rfl]
 exact h
noncomputable def Same (H H':Hp):Prop:=∀ b o,H b=some o->H' b=some o
theorem Same.refl (H:Hp):Same H H:=λ _ _ h=>h
theorem Same.trans {H H1 H2:Hp}(a:Same H H1)(b:Same H1 H2):Same H H2:=λ c o h=>b c o (a c o h)
theorem Same.free {H H':Hp}(e:Same H H'){l:Addr}(h:H' l=Option.none):H l=Option.none:=by
 cases q:H l with
 | none=>rfl
 | some o =>
  rw [e l o q] at h
  cases h
theorem Same.seq {K:PySem.W.Frag}{H H':Hp}{a:Addr}{xs:List V}(e:Same H H')(h:SqL K H a xs):SqL K H' a xs:=by
 rcases h with (h | ⟨o,h⟩) | h
 ·exact .inl (.inl (e _ _ h))
 ·exact .inl (.inr ⟨o,e _ _ h⟩)
 ·exact .inr h
end L2
namespace L2
open PySem PySem.Spec PyProof.Rows
section
variable {κ:Type}[DecidableEq κ]
noncomputable def valV (kvs:List (κ×V))(k:κ):Option V:=(kvs.find? λ kv=>decide (kv.1=k)).map (·.2)
noncomputable def putK (kvs:List (κ×V))(k:κ)(v:V):List (κ×V) :=
 if (kvs.any λ kv=>decide (kv.1=k))=true then kvs.map (λ kv=>if kv.1=k then (kv.1,v) else kv) else kvs++[(k,v)]
noncomputable def dropK (kvs:List (κ×V))(k:κ):List (κ×V):=kvs.filter λ kv=>decide (kv.1≠k)
theorem valV_pos {p:κ×V}{r:List (κ×V)}{k:κ}(e:p.1=k):valV (p :: r) k=some p.2:=by simp [valV,List.find?_cons,e]
theorem valV_neg {p:κ×V}{r:List (κ×V)}{k:κ}(e:¬ p.1=k):valV (p :: r) k=valV r k:=by simp [valV,List.find?_cons,e]
theorem valV_any (k:κ):∀ kvs:List (κ×V),(kvs.any λ kv=>decide (kv.1=k))=(valV kvs k).isSome
 | []=>rfl
 | p :: r=>by
  rw [List.any_cons]
  by_cases e:p.1=k
  ·simp only [valV_pos e,decide_eq_true e,Bool.true_or,Option.isSome_some]
  ·rw [valV_neg e,decide_eq_false e,Bool.false_or]; exact valV_any k r
theorem length_putK (kvs:List (κ×V))(k:κ)(v:V):(putK kvs k v).length<=kvs.length+1:=by
 unfold putK
 split
 ·rw [List.length_map]; omega
 ·rw [List.length_append,List.length_cons,List.length_nil]; omega
theorem putK_new {kvs:List (κ×V)}{k:κ}(v:V)(h:valV kvs k=none):putK kvs k v=kvs++[(k,v)]:=by
 unfold putK
 rw [valV_any,h]
 exact if_neg (by decide)
theorem RelO.isSome_eq {o:Option V}{u:Option Value}(r:RelO o u):o.isSome=u.isSome:=by
 cases o with
 | none=>cases u with
  | none=>rfl
  | some _=>exact (show False from r).elim
 | some _=>cases u with
  | none=>exact (show False from r).elim
  | some _=>rfl
theorem RelO.getD {o:Option V}{u:Option Value}{d:V}{d':Value}(r:RelO o u)(rd:RelV d d'):RelV (o.getD d) (u.getD d'):=by
 cases o with
 | none=>cases u with
  | none=>exact rd
  | some _=>exact (show False from r).elim
 | some _=>cases u with
  | none=>exact (show False from r).elim
  | some _=>exact r
theorem KV.val {kvs:List (κ×V)}{vs:List (κ×Value)}(r:KV kvs vs)(k:κ):RelO (valV kvs k) (valueAt vs k):=by
 unfold KV at r
 induction r with
 | nil=>exact True.intro
 | @cons p q ps qs h t ih =>
  obtain ⟨h1,h2⟩:=h
  by_cases e:p.1=k
  ·have e':q.1=k:=h1.symm.trans e
   have b:valueAt (q :: qs) k=some q.2:=by simp [valueAt,List.find?_cons,e']
   rw [valV_pos e,b]; exact h2
  ·have e':¬ q.1=k:=λ z=>e (h1.trans z)
   have b:valueAt (q :: qs) k=valueAt qs k:=by simp [valueAt,List.find?_cons,e']
   rw [valV_neg e,b]; exact ih
theorem KV.any {kvs:List (κ×V)}{vs:List (κ×Value)}(r:KV kvs vs)(k:κ):(kvs.any λ kv=>decide (kv.1=k))=vs.any λ kv=>decide (kv.1=k):=by
 unfold KV at r
 induction r with
 | nil=>rfl
 | cons h t ih=>rw [List.any_cons,List.any_cons,ih,h.1]
theorem KV.repl {kvs:List (κ×V)}{vs:List (κ×Value)}(r:KV kvs vs)(k:κ){y:V}{u:Value}(ry:RelV y u) :
  KV (kvs.map λ kv=>if kv.1=k then (kv.1,y) else kv) (vs.map λ kv=>if kv.1=k then (kv.1,u) else kv):=by
 unfold KV at r ⊢
 induction r with
 | nil=>exact .nil
 | @cons p q ps qs h t ih =>
  rw [List.map_cons,List.map_cons]
  refine .cons ?_ ih
  obtain ⟨h1,h2⟩:=h
  by_cases e:p.1=k
  ·rw [if_pos e,if_pos (h1.symm.trans e)]; exact ⟨h1,ry⟩
  ·rw [if_neg e,if_neg (λ z=>e (h1.trans z))]; exact ⟨h1,h2⟩
theorem KV.put {kvs:List (κ×V)}{vs:List (κ×Value)}(r:KV kvs vs)(k:κ){y:V}{u:Value}(ry:RelV y u):KV (putK kvs k y) (stored vs k u):=by
 unfold putK stored
 rw [r.any k]
 by_cases e:(vs.any λ kv=>decide (kv.1=k))=true
 ·rw [if_pos e,if_pos e]; exact r.repl k ry
 ·rw [if_neg e,if_neg e]; exact Paired.snoc r ⟨rfl,ry⟩
theorem KV.drop {kvs:List (κ×V)}{vs:List (κ×Value)}(r:KV kvs vs)(k:κ):KV (dropK kvs k) (without vs k):=by
 unfold KV at r ⊢
 unfold dropK without
 induction r with
 | nil=>exact .nil
 | @cons p q ps qs h t ih =>
  obtain ⟨h1,h2⟩:=h
  rw [List.filter_cons,List.filter_cons]
  by_cases e:p.1=k
  ·have a:¬ decide (p.1≠k)=true:=by simp [e]
   have b:¬ decide (q.1≠k)=true:=by simp [h1.symm.trans e]
   rw [if_neg a,if_neg b]; exact ih
  ·have e':¬ q.1=k:=λ z=>e (h1.trans z)
   have a:decide (p.1≠k)=true:=by simp [e]
   have b:decide (q.1≠k)=true:=by simp [e']
   rw [if_pos a,if_pos b]; exact .cons ⟨h1,h2⟩ ih
theorem KV.keys {kvs:List (κ×V)}{vs:List (κ×Value)}(r:KV kvs vs):kvs.map (·.1)=vs.map (·.1):=by
 unfold KV at r
 induction r with
 | nil=>rfl
 | cons h t ih=>rw [List.map_cons,List.map_cons,ih,h.1]
theorem KV.length {kvs:List (κ×V)}{vs:List (κ×Value)}(r:KV kvs vs):kvs.length=vs.length:=Paired.length r
end
theorem kV_is {P:Program}{w:World}{k:Key}{u:Value}(r:RelV (kV k) u):(mixKind P w).is k u=true:=by
 cases k with
 | inl i=>obtain ⟨t,e⟩:=(show ∃ t,u=Value.int i t from r); subst e; exact mixKind_int P w i t
 | inr x=>obtain ⟨t,e⟩:=(show ∃ t,u=Value.str x t from r); subst e; exact mixKind_str P w x t
theorem items_are {P:Program}{w:World}:∀ {ks:List Key} {us:List Value},Vals (ks.map kV) us->ItemsAre (mixKind P w) ks us
 | [],_,r=>by rw [List.map_nil] at r; cases r; exact .nil
 | k :: ks,_,r=>by
  rw [List.map_cons] at r
  cases r with
  | cons h t=>exact .cons (kV_is h) (items_are t)
noncomputable abbrev KT (H:Hp):List (List Key×V)->List (List Key×Addr×Value)->Prop:=Paired λ p q=>p.1=q.1/\H q.2.1=some (.tup (p.1.map kV))/\RelV p.2 q.2.2
theorem KT.val {H:Hp}{kvs:List (List Key×V)}{xs:List (List Key×Addr×Value)}(r:KT H kvs xs)(k:List Key):RelO (valV kvs k) ((atKey xs k).map (·.2)):=by
 induction r with
 | nil=>exact True.intro
 | @cons p q ps qs h t ih =>
  obtain ⟨h1,_,h2⟩:=h
  by_cases e:p.1=k
  ·have e':q.1=k:=h1.symm.trans e
   have b:atKey (q :: qs) k=some q.2:=by simp [atKey,List.find?_cons,e']
   rw [valV_pos e,b]; exact h2
  ·have e':¬ q.1=k:=λ z=>e (h1.trans z)
   have b:atKey (q :: qs) k=atKey qs k:=by simp [atKey,List.find?_cons,e']
   rw [valV_neg e,b]; exact ih
theorem KT.repl {H:Hp}{kvs:List (List Key×V)}{xs:List (List Key×Addr×Value)}(r:KT H kvs xs)(k:List Key){y:V}{u:Value}(ry:RelV y u) :
  KT H (kvs.map λ kv=>if kv.1=k then (kv.1,y) else kv) (xs.map (putAt k u)):=by
 induction r with
 | nil=>exact .nil
 | @cons p q ps qs h t ih =>
  rw [List.map_cons,List.map_cons]
  refine .cons ?_ ih
  obtain ⟨h1,h2,h3⟩:=h
  unfold putAt
  by_cases e:p.1=k
  ·rw [if_pos e,if_pos (h1.symm.trans e)]; exact ⟨h1,h2,ry⟩
  ·rw [if_neg e,if_neg (λ z=>e (h1.trans z))]; exact ⟨h1,h2,h3⟩
theorem KT.put {H:Hp}{kvs:List (List Key×V)}{xs:List (List Key×Addr×Value)}(r:KT H kvs xs)(k:List Key){b:Addr}{y:V}{u:Value}(hb:H b=some (.tup (k.map kV)))(ry:RelV y u) :
  KT H (putK kvs k y) (storedH xs k b u):=by
 have e:(kvs.any λ kv=>decide (kv.1=k))=(atKey xs k).isSome:=by
  rw [valV_any,(r.val k).isSome_eq,Option.isSome_map]
 unfold putK storedH
 rw [e]
 by_cases q:(atKey xs k).isSome=true
 ·rw [if_pos q,if_pos q]; exact r.repl k ry
 ·rw [if_neg q,if_neg q]; exact Paired.snoc r ⟨rfl,hb,ry⟩
theorem KT.keeps {H H':Hp}{kvs:List (List Key×V)}{xs:List (List Key×Addr×Value)}(r:KT H kvs xs)(ht:∀ b ys,H b=some (.tup ys)->H' b=some (.tup ys)):KT H' kvs xs :=
 Paired.mapP r λ _ _ z=>⟨z.1,ht _ _ z.2.1,z.2.2⟩
section
variable {P:Program}{w:World}{H:Hp}{h:Heap}{a:Addr}
theorem rd_of {u:HO}(ok:HOk P w H h)(e:Rd H a u):ObjOk P w H h a u:=e.ok ok
theorem dk_rd {kvs:List (Key×V)}(ok:HOk P w H h)(e:Rd H a (.dK kvs)):kvs.length<=sizeLine/\(a == sysModules)=false/\∃ vs,KV kvs vs/\h.DictOf (mixKind P w) a vs :=
 show ObjOk P w H h a (.dK kvs) from rd_of ok e
theorem dk_of {kvs:List (Key×V)}(ok:HOk P w H h)(e:H a=some (.dK kvs)):kvs.length<=sizeLine/\(a == sysModules)=false/\∃ vs,KV kvs vs/\h.DictOf (mixKind P w) a vs:=dk_rd ok (.inl e)
theorem key_of {ks:List Key}(ok:HOk P w H h)(e:H a=some (.tup (ks.map kV))):(tupleKind (mixKind P w)).is h ks a:=by
 obtain ⟨_,its,r,o,h1,h2,_,n,h3⟩:=(show ObjOk P w H h a (.tup (ks.map kV)) from ok a _ e)
 exact ⟨o,its.toArray,n,h1,h2,h3,by simpa using items_are r⟩
theorem dt_rd {kvs:List (List Key×V)}(ok:HOk P w H h)(e:Rd H a (.dT kvs)):kvs.length<=sizeLine/\(a == sysModules)=false /\
  ∃ xs,KT H kvs xs/\h.DictOfH (tupleKind (mixKind P w)) a xs:=by
 obtain ⟨z,y,xs,r,o,es,ep,h1,h2,h3,h4,h5⟩:=(show ObjOk P w H h a (.dT kvs) from rd_of ok e)
 refine ⟨z,y,xs,r,o,es,ep,h1,h2,h3,h4,λ x hx=>?_,h5⟩
 have all:∀ {l:List (List Key×V)} {m:List (List Key×Addr×Value)},KT H l m->∀ x∈m,(tupleKind (mixKind P w)).is h x.1 x.2.1:=by
  intro l m q
  induction q with
  | nil=>intro x hx; exact nomatch hx
  | @cons p q ps qs hq t ih =>
   intro x hx
   rcases List.mem_cons.mp hx with e | hx
   ·subst e
    exact key_of ok (by rw [<- hq.1]; exact hq.2.1)
   ·exact ih x hx
 exact all r x hx
theorem dt_of {kvs:List (List Key×V)}(ok:HOk P w H h)(e:H a=some (.dT kvs)):kvs.length<=sizeLine/\(a == sysModules)=false /\
  ∃ xs,KT H kvs xs/\h.DictOfH (tupleKind (mixKind P w)) a xs:=dt_rd ok (.inl e)
end
noncomputable def DGet (H:Hp)(a:Addr)(y:V)(r:Option V):Prop :=
 (∃ kvs k,Rd H a (.dK kvs)/\y=kV k/\r=valV kvs k)\/∃ kvs k b,Rd H a (.dT kvs)/\y=.ref b/\H b=some (.tup (k.map kV))/\r=valV kvs k
noncomputable def DPut (H:Hp)(a:Addr)(y v:V)(H':Hp):Prop :=
 (∃ kvs k,H a=some (.dK kvs)/\y=kV k/\kvs.length < sizeLine/\H'=upd H a (.dK (putK kvs k v))) \/
 ∃ kvs k b,H a=some (.dT kvs)/\y=.ref b/\H b=some (.tup (k.map kV))/\kvs.length < sizeLine/\H'=upd H a (.dT (putK kvs k v))
theorem DGet.k {H:Hp}{a:Addr}{kvs:List (Key×V)}{k:Key}(e:H a=some (.dK kvs)):DGet H a (kV k) (valV kvs k):=.inl ⟨kvs,k,.inl e,rfl,rfl⟩
theorem DGet.t {H:Hp}{a b:Addr}{kvs:List (List Key×V)}{k:List Key}(e:H a=some (.dT kvs))(eb:H b=some (.tup (k.map kV))):DGet H a (.ref b) (valV kvs k):=.inr ⟨kvs,k,b,.inl e,rfl,eb,rfl⟩
theorem DPut.k {H:Hp}{a:Addr}{kvs:List (Key×V)}{k:Key}{v:V}(e:H a=some (.dK kvs))(hl:kvs.length < sizeLine):DPut H a (kV k) v (upd H a (.dK (putK kvs k v))):=.inl ⟨kvs,k,e,rfl,hl,rfl⟩
theorem DPut.t {H:Hp}{a b:Addr}{kvs:List (List Key×V)}{k:List Key}{v:V}(e:H a=some (.dT kvs))(eb:H b=some (.tup (k.map kV)))(hl:kvs.length < sizeLine) :
  DPut H a (.ref b) v (upd H a (.dT (putK kvs k v))):=.inr ⟨kvs,k,b,e,rfl,eb,hl,rfl⟩
section
variable {X:Cx}{pins:List (Addr×Obj)}{σ:St}{H:Hp}{s:Shared}{a:Addr}{y v:V}{u r:Value}{o:Option V}{A:Around}{E:Value->Shared->Prop}
theorem Inv.big (I:Inv X pins σ H s):sysModules < s.heap.objs.size:=by
 have h:mainGlobals < s.heap.objs.size:=(I.mod.glob.keeps I.bk).lt
 exact Nat.lt_trans (by decide) h
theorem d_write {h':Heap}{t':Nat}{ob:HO}(I:Inv X pins σ H s)(mu:Mut (H a))(hs:Heap.SameBut a s.heap h')(he:∃ q,h'.get? a=some q)(new:ObjOk X.prog X.w (upd H a ob) h' a ob) :
  Inv X pins σ (upd H a ob) { s with heap:=h',toks:=t' } :=
 I.write (x:=a) (e:=a) mu (.inl rfl) (λ b q hb z=>(hs.2 b hb).trans z) he new
theorem dk_new {P:Program}{w:World}{H':Hp}{h':Heap}{kvs:List (Key×V)}{vs:List (Key×Value)}(z:kvs.length<=sizeLine)(hd:(a == sysModules)=false)(rel:KV kvs vs)(dd:h'.DictOf (mixKind P w) a vs) :
  ObjOk P w H' h' a (.dK kvs):=⟨z,hd,vs,rel,dd⟩
theorem d_setItem {H':Hp}{Q:Unit->Shared->Prop}(hu:A.units+1 < cLine)(I:Inv X pins σ H s)(g:DPut H a y v H')(ry:RelV y u)(rv:RelV v r)(h:∀ s',Inv X pins σ H' s'->Q () s') :
  wpAny (model X.prog X.w) A (setItem (.ref a) u r) Q E s:=by
 rcases g with ⟨kvs,k,e,ey,l,eH⟩ | ⟨kvs,k,b,e,ey,eb,l,eH⟩
 ·subst ey eH
  obtain ⟨z,hd,vs,rel,dd⟩:=dk_of I.hok e
  have hz:vs.length<=sizeLine:=by rw [<- rel.length]; exact z
  have hl:(putK kvs k v).length<=sizeLine:=by have:=length_putK kvs k v; omega
  refine wpAny_setItem_pairs (hsz:=hz) (kV_is ry) dd λ h' dd' hs=>h _ ?_
  have he:∃ q,h'.get? a=some q:=let ⟨q,_,_,hq,_⟩:=dd'; ⟨q,hq⟩
  exact d_write I (by rw [e]; exact True.intro) hs he (dk_new hl hd (rel.put k rv) dd')
 ·subst ey eH
  cases (show u=Value.ref b from ry)
  obtain ⟨z,hd,xs,rel,dd⟩:=dt_of I.hok e
  have hz:xs.length<=sizeLine:=by rw [<- Paired.length rel]; exact z
  have hl:(putK kvs k v).length<=sizeLine:=by have:=length_putK kvs k v; omega
  refine wpAny_setItem_heap (hsz:=hz) (tupleKind_room_in1 hu) (key_of I.hok eb) dd λ h' dd' hs=>h _ ?_
  obtain ⟨q,es,ep,hq,h2,h3,h4,_,h5⟩:=dd'
  refine d_write I (by rw [e]; exact True.intro) hs ⟨q,hq⟩ ⟨hl,hd,_,(rel.put k eb rv).keeps λ c ys ec=>?_,q,es,ep,hq,h2,h3,h4,h5⟩
  rw [upd_ne (ne_of ec e (λ z=>nomatch z))]
  exact ec
end
section
variable {X:Cx}{pins:List (Addr×Obj)}{σ:St}{H:Hp}{s:Shared}{a:Addr}{kvs:List (Key×V)}{k:Key}{u:Value}{A:Around}{E:Value->Shared->Prop}
end
noncomputable def NoSl (i:Expr):Prop:=∀ ov iv,subscripted i false ov iv=operate [ov,iv] (getItem ov iv)
theorem subD_of {prog:Program}{w:World}{A:Around}{E:Value->Shared->Prop}{s:Shared}{env:Env}{value slice:Expr}{pos:Pos}{T id:String}{Q:Value->Shared->Prop}
  (hl:typeLookup (.type T) "__getitem__" = pure (some (.builtin id)))(hs:NoSl slice)
  (h:wpAny (model prog w) A (eval value env) (λ o s₁=>wpAny (model prog w) A (eval slice env) (λ i s₂=>s₂.TypeIs o T/\wpAny (model prog w) A (getItem o i) Q E s₂) E s₁) E s) :
  wpAny (model prog w) A (eval (.Subscript value slice pos) env) Q E s:=by
 refine Subscript_ (wpAny_mono h (λ o s₁ h₁=>wpAny_mono h₁ (λ i s₂ h₂=>?_) λ _ _ x=>x) λ _ _ x=>x)
 obtain ⟨hT,h₂⟩:=h₂
 unfold subscriptTail
 refine wpAny_bind ?_
 rw [getitemInPython_of_ne hT.not_modules]
 refine wpAny_bind (wpAny_specialOf hT hl ?_)
 have fin:wpAny (model prog w) A (subscripted slice false o i) (λ r s₃=>wpAny (model prog w) A (letTemporaryGo value o r >>= λ _=>pure r) Q E s₃) E s₂:=by
  rw [hs o i]
  exact wpAny_operating (wpAny_mono h₂ (λ r s₃ h₃=>wpAny_bind (wpAny_letTemporaryGo (wpAny_pure h₃))) λ _ _ x=>x)
 first
  | exact wpAny_pure (wpAny_bind fin)
  | exact wpAny_bind (wpAny_pure (wpAny_bind fin))
  | exact wpAny_bind fin
noncomputable def sDPut (td ty tv:TE):TS:=λ D σ H=>tv σ H λ v H1=>td σ H1 λ x H2=>ty σ H2 λ y H3=>∃ a H4,x=.ref a/\DPut H3 a y v H4/\D.nx σ H4
section
variable {X:Cx}{o i e value:Expr}{pos pos' tpos:Pos}{td ty tv:TE}
theorem ps_dput (hu:X.A.units+1 < cLine)(ho:PE X o td)(hi:PE X i ty)(hv:PE X value tv)(hs:swapsWith value (some (.Subscript o i pos')) pos.line X.env=pure false) :
  PS X (.Assign [.Subscript o i pos'] value pos) (sDPut td ty tv):=by
 intro pins s σ H D I h
 refine wpAny_Assign_Subscript (thn (hv pins s σ H _ I h) λ r s1 ⟨v,H1,I1,rv,q1⟩=>thn (ho pins s1 σ H1 _ I1 q1) λ u s2 ⟨x,H2,I2,rx,q2⟩=>thn (hi pins s2 σ H2 _ I2 q2) λ iv s3 ⟨y,H3,I3,ry,a,H4,ex,g,q3⟩=>?_) hs
 subst ex
 obtain rfl:u=Value.ref a:=rx
 exact d_setItem hu I3 g ry rv λ s4 I4=>⟨σ,H4,I4,q3⟩
end
theorem dk_empty {P:Program}{w:World}{H:Hp}(h:Heap)(hb:sysModules < h.objs.size):ObjOk P w H (h.push { cls:=.type "dict",data:=.dict #[] }) h.objs.size (.dK []) :=
 ⟨Nat.zero_le _,beq_eq_false_iff_ne.mpr (Ne.symm (Nat.ne_of_lt hb)),[],.nil,Heap.DictOf.new h⟩
noncomputable def tDNewK:TE:=λ _ H Q=>∀ p,H p=none->Q (.ref p) (upd H p (.dK []))
section
variable {X:Cx}{pos:Pos}
theorem pe_dnewK:PE X (.Dict [] [] pos) tDNewK:=λ pins s σ H Q I h =>
 wpAny_Dict_empty ⟨.ref s.heap.objs.size,_,I.laid (a:=s.heap.objs.size) (o:=.dK []) (t':=s.toks) (λ _ _ q=>Heap.get?_push_of_some _ q) (Nat.le_refl _) (dk_empty s.heap I.big),rfl,h _ (I.hok.fresh (Nat.le_refl _))⟩
end
noncomputable def tPairs:List (TE×TE)->St->Hp->(List (V×V)->Hp->Prop)->Prop
 | [],_,H,Q=>Q [] H
 | (tk,tv) :: r,σ,H,Q=>tk σ H λ x H1=>tv σ H1 λ y H2=>tPairs r σ H2 λ ps H3=>Q ((x,y) :: ps) H3
noncomputable abbrev VV:List (V×V)->List (Value×Value)->Prop:=Paired λ p q=>RelV p.1 q.1/\RelV p.2 q.2
noncomputable def PPs (X:Cx)(pos:Pos)(keys:List (Option Expr))(values:List Expr)(trs:List (TE×TE)):Prop :=
 ∀ (pins:List (Addr×Obj)) (s:Shared) (σ:St) (H:Hp) (Q:List (V×V)->Hp->Prop),Inv X pins σ H s->tPairs trs σ H Q ->
  wpAny (model X.prog X.w) X.A (evalPairs (pairTrees keys values X.env pos)) (λ vs s'=>∃ ps H',Inv X pins σ H' s'/\VV ps vs/\Q ps H') X.xe s
theorem pps_nil {X:Cx}{pos:Pos}:PPs X pos [] [] []:=λ pins s σ H Q I h=>pairTrees_nil_walk ⟨[],H,I,.nil,h⟩
theorem pps_cons {X:Cx}{pos:Pos}{k v:Expr}{ks:List (Option Expr)}{vs:List Expr}{tk tv:TE}{trs:List (TE×TE)}(hk:PE X k tk)(hv:PE X v tv)(hr:PPs X pos ks vs trs) :
  PPs X pos (some k :: ks) (v :: vs) ((tk,tv) :: trs):=λ pins s σ H Q I h =>
 pairTrees_cons_walk (thn (hk pins s σ H _ I h) λ u s1 ⟨x,H1,I1,rx,q1⟩=>thn (hv pins s1 σ H1 _ I1 q1) λ w2 s2 ⟨y,H2,I2,ry,q2⟩ =>
  thn (hr pins s2 σ H2 _ I2 q2) λ ws s3 ⟨ps,H3,I3,rel,q3⟩=>⟨(x,y) :: ps,H3,I3,.cons ⟨rx,ry⟩ rel,q3⟩)
noncomputable def mergeK (kvs more:List (Key×V)):List (Key×V):=more.foldl (λ acc kv=>putK acc kv.1 kv.2) kvs
theorem KV.merge:∀ {more:List (Key×V)} {rs:List (Key×Value)} {kvs:List (Key×V)} {vs:List (Key×Value)},KV more rs->KV kvs vs->KV (mergeK kvs more) (merged vs rs):=by
 intro more rs kvs vs r
 unfold KV at r
 induction r generalizing kvs vs with
 | nil=>intro q; exact q
 | @cons p q ps qs h t ih =>
  intro r0
  have e:KV (putK kvs p.1 p.2) (stored vs q.1 q.2):=by
   have:=r0.put p.1 h.2
   rw [<- h.1]; exact this
  exact ih e
theorem length_mergeK:∀ (more kvs:List (Key×V)),(mergeK kvs more).length<=kvs.length+more.length
 | [],kvs=>by show kvs.length<=kvs.length+0; omega
 | p :: r,kvs=>by
  have h1:=length_mergeK r (putK kvs p.1 p.2)
  have h2:=length_putK kvs p.1 p.2
  show (mergeK (putK kvs p.1 p.2) r).length<=_
  rw [List.length_cons]; omega
theorem carries_of {P:Program}{w:World}:∀ {kvs:List (Key×V)} {ws:List (Value×Value)},VV (kvs.map λ kv=>(kV kv.1,kv.2)) ws->∃ rs,Carries (mixKind P w) ws rs/\KV kvs rs
 | [],_,r=>by rw [List.map_nil] at r; cases r; exact ⟨[],True.intro,.nil⟩
 | p :: kvs,_,r=>by
  rw [List.map_cons] at r
  cases r with
  | @cons a b as bs h t =>
   obtain ⟨rs,c,q⟩:=carries_of (P:=P) (w:=w) t
   obtain ⟨b1,b2⟩:=b
   exact ⟨(p.1,b2) :: rs,⟨kV_is h.1,rfl,c⟩,.cons ⟨rfl,h.2⟩ q⟩
noncomputable def tDisp (trs:List (TE×TE)):TE:=λ σ H Q=>∀ p,H p=none->tPairs trs σ (upd H p (.dK [])) λ ps H2=>H2 p=some (.dK [])/\∃ kvs:List (Key×V),ps=kvs.map (λ kv=>(kV kv.1,kv.2))/\kvs.length<=15/\Q (.ref p) (upd H2 p (.dK (mergeK [] kvs)))
theorem pe_disp {X:Cx}{pos:Pos}{keys:List (Option Expr)}{values:List Expr}{trs:List (TE×TE)}(h:PPs X pos keys values trs)(hall:keys.all (·.isSome)=true)(hl:keys.length=values.length)(h0:keys≠[])
  (h15:keys.length<=15):PE X (.Dict keys values pos) (tDisp trs):=by
 intro pins s σ H Q I q
 have hn:=I.hok.fresh (Nat.le_refl s.heap.objs.size)
 have I1:=I.laid (a:=s.heap.objs.size) (o:=.dK []) (h':=s.heap.push { cls:=.type "dict",data:=.dict #[] }) (t':=s.toks) (λ _ _ q=>Heap.get?_push_of_some _ q) (Nat.le_refl _) (dk_empty s.heap I.big)
 refine wpAny_Dict_walk (knd:=mixKind X.prog X.w) hall hl h0 h15 (thn (h pins _ σ _ _ I1 (q _ hn)) λ ws s2 hq29=>?_)
 obtain ⟨ps,H2,I2,rel,e,kvs,ep,lk,q2⟩:=hq29
 subst ep
 obtain ⟨rs,c,rk⟩:=carries_of (P:=X.prog) (w:=X.w) rel
 obtain ⟨z,hd,vs0,r0,dd⟩:=dk_of I2.hok e
 cases r0
 refine ⟨rs,c,dd,λ h' dd' hs=>⟨.ref s.heap.objs.size,_,?_,rfl,q2⟩⟩
 have hz:(mergeK [] kvs).length<=sizeLine:=by
  have h1:=length_mergeK kvs []
  rw [List.length_nil] at h1
  rw [sizeLine_eq]; omega
 have he:∃ q,h'.get? s.heap.objs.size=some q:=let ⟨q,_,_,hq,_⟩:=dd'; ⟨q,hq⟩
 exact d_write I2 (by rw [e]; exact True.intro) hs he (dk_new hz hd (rk.merge .nil) dd')
structure M1 (X:Cx)(o:Expr)(m:Str)(apos:Pos)(e:Expr)(cpos:Pos):Prop where
 base:attributeBase o m X.env (eval o X.env)=eval o X.env
 few:((backTo cpos (starEach [e] X.env)).all (λ x=>!x.1) && (backToKw cpos (keywordEach [] X.env)).all (λ x=>x.1.isSome)
  && decide (([e]:List Expr).length+([]:List Keyword).length+(if ([]:List Keyword).isEmpty then 0 else 1) < 30))=true
 line:(apos.endLine == cpos.line)=true
 trees:backTo cpos (starEach [e] X.env)=[(false,eval e X.env)]
structure M2 (X:Cx)(o:Expr)(m:Str)(apos:Pos)(e f:Expr)(cpos:Pos):Prop where
 base:attributeBase o m X.env (eval o X.env)=eval o X.env
 few:((backTo cpos (starEach [e,f] X.env)).all (λ x=>!x.1) && (backToKw cpos (keywordEach [] X.env)).all (λ x=>x.1.isSome)
  && decide (([e,f]:List Expr).length+([]:List Keyword).length+(if ([]:List Keyword).isEmpty then 0 else 1) < 30))=true
 line:(apos.endLine == cpos.line)=true
 trees:backTo cpos (starEach [e,f] X.env)=[(false,eval e X.env),(false,eval f X.env)]
noncomputable def IsD (H:Hp)(a:Addr):Prop:=(∃ kvs,Rd H a (.dK kvs))\/∃ kvs,Rd H a (.dT kvs)
theorem isD_at {X:Cx}{pins:List (Addr×Obj)}{σ:St}{H:Hp}{s:Shared}{a:Addr}(I:Inv X pins σ H s)(d:IsD H a) :
  s.TypeIs (.ref a) "dict" /\ (∀ b,Value.ref a=.ref b->∃ ob,s.heap.get? b=some ob/\ob.dict=none)/\(a == sysModules)=false:=by
 rcases d with ⟨kvs,e⟩ | ⟨kvs,e⟩
 ·obtain ⟨_,hd,vs,_,dd⟩:=dk_rd I.hok e
  refine ⟨dd.typeIs,λ b q=>?_,hd⟩
  cases q
  obtain ⟨ob,_,_,h1,h2,_⟩:=dd
  exact ⟨ob,h1,h2.2.1⟩
 ·obtain ⟨_,hd,xs,_,dd⟩:=dt_rd I.hok e
  refine ⟨dd.typeIs,λ b q=>?_,hd⟩
  cases q
  obtain ⟨ob,_,_,h1,h2,_⟩:=dd
  exact ⟨ob,h1,h2.2.1⟩
section
variable {X:Cx}{pins:List (Addr×Obj)}{σ:St}{H:Hp}{s:Shared}{a:Addr}{y d:V}{u r:Value}{o:Option V}{A:Around}{E:Value->Shared->Prop}
end
section
variable {X:Cx}{o e f:Expr}{apos cpos:Pos}{td ty tx:TE}
end
section
variable {X:Cx}{pins:List (Addr×Obj)}{σ:St}{H:Hp}{s:Shared}{a:Addr}{kvs:List (Key×V)}{A:Around}{E:Value->Shared->Prop}
end
section
variable {X:Cx}{pins:List (Addr×Obj)}{σ:St}{H:Hp}{s:Shared}{a:Addr}{y:V}{u:Value}{A:Around}{E:Value->Shared->Prop}
end
end L2
set_option maxHeartbeats 0
namespace L2
open PySem PySem.Spec PyProof.Rows
noncomputable def Fz:HO->Prop
 | .lst _=>True
 | .dK _=>True
 | _=>False
section
variable {X:Cx}{pins:List (Addr×Obj)}{σ:St}{H:Hp}{s:Shared}{p:Addr}{u:HO}
theorem un_frz {fs ex:List Addr}{h:Heap}{o:Obj}(e:H p=some u)(f:Fz u):Un fs ex H (upd H p (.frz o u)) h h where
 keep:=λ b ob q _ _ _=>q
 slot:=λ b ob q _ _ _=>⟨ob.slots,q⟩
 free:=λ b ob _ n _=>by rw [upd_ne (Ne.symm (ne_of_none e n))]; exact n
 there:=λ b ob q _=>⟨ob,q⟩
 tups:=λ b xs q=>by
  have:b≠p:=λ z=>by subst z; rw [e] at q; cases q; exact f
  rw [upd_ne this]; exact q
 frzs:=λ b ob v q=>by
  have:b≠p:=λ z=>by subst z; rw [e] at q; cases q; exact f
  rw [upd_ne this]; exact q
 tbls:=λ b ps q=>by
  have:b≠p:=λ z=>by subst z; rw [e] at q; cases q; exact f
  exact ⟨#[],by rw [upd_ne this,q]; simp⟩
theorem ObjOk.anyH {P:Program}{w:World}{H H':Hp}{h:Heap}{a:Addr}(f:Fz u)(x:ObjOk P w H h a u):ObjOk P w H' h a u:=by
 cases u with
 | lst xs=>exact x
 | dK kvs=>exact x
 | _=>exact f.elim
theorem ObjOk.obj {P:Program}{w:World}{H:Hp}{h:Heap}{a:Addr}(f:Fz u)(x:ObjOk P w H h a u):∃ o,h.get? a=some o:=by
 cases u with
 | lst xs=>obtain ⟨_,_,_,_,e⟩:=x; exact ⟨_,e⟩
 | dK kvs=>obtain ⟨_,_,_,_,o,_,_,e,_⟩:=x; exact ⟨o,e⟩
 | _=>exact f.elim
theorem Inv.freeze (I:Inv X pins σ H s)(e:H p=some u)(f:Fz u):∃ o,Inv X pins σ (upd H p (.frz o u)) s:=by
 obtain ⟨o,ho⟩:=(I.hok p u e).obj f
 refine ⟨o,I.un (h':=s.heap) (t':=s.toks) (un_frz e f) λ b v q=>?_⟩
 by_cases hb:b=p
 ·subst hb
  rw [upd_same] at q
  cases q
  exact ⟨ho,(I.hok b u e).anyH f⟩
 ·rw [upd_ne hb] at q
  refine (I.hok b v q).stay (λ _ _ _ q=>q) (λ c r=>?_) λ c xs r=>?_
  ·have:c≠p:=λ z=>by subst z; rw [e] at r; cases r; exact f
   rw [upd_ne this]; exact r
  ·have:c≠p:=λ z=>by subst z; rw [e] at r; cases r; exact f
   rw [upd_ne this]; exact r
noncomputable def tFrz (t:TE):TE:=λ σ H Q=>t σ H λ v H1=>∃ p u,v=.ref p/\H1 p=some u/\Fz u/\∀ o,Q v (upd H1 p (.frz o u))
theorem pe_frz {e:Expr}{t:TE}(h:PE X e t):PE X e (tFrz t):=by
 intro pins s σ H Q I hq
 refine thn (h pins s σ H _ I hq) λ v s1 hq30=>?_
 obtain ⟨x,H1,I1,r1,p,u,e1,e2,f,q⟩:=hq30
 obtain ⟨o,I2⟩:=I1.freeze e2 f
 exact ⟨x,_,I2,r1,q o⟩
theorem Inv.track {D:Addr}{ys:List V}{us:List Value}{n:Nat}(I:Inv X pins σ H s)(e:s.heap.get? D=some { cls:=.type "list",data:=.seq us.toArray n })(hn:H D=none)(hv:Vals ys us)(hz:ys.length<=sizeLine)
  (h0:X.s₀.heap.objs.size<=D)(hL:D≠X.env.locals)(hc:∀ x c,X.env.cells.lookup x=some c->c≠D)(hp:∀ p∈X.pn++pins,p.1≠D):Inv X pins σ (upd H D (.lst ys)) s:=by
 have ne:∀ b u,H b=some u->b≠D:=λ b u q=>ne_of_none q hn
 refine I.step (h':=s.heap) (g':=s.gens) (d':=s.drawn) (t':=s.toks) (ch:=[D]) (λ b hb=>?_) (λ b o _ _ _ q _=>q) (λ b o _ _ _ q _=>⟨o.slots,q⟩) (λ b o hb q n=>?_) (λ b o _ q=>⟨o,q⟩)
  (λ b xs q=>by rw [upd_ne (ne b _ q)]; exact q) (λ b o u q=>by rw [upd_ne (ne b _ q)]; exact q) (λ b ps q=>⟨#[],by rw [upd_ne (ne b _ q),q]; simp⟩) (λ m hm=>hm) (λ b u q=>?_) I.bare
 ·have e:b=D:=by simpa using hb
  subst e
  exact ⟨.inr h0,hL,hc,hp⟩
 ·rw [upd_ne (λ z=>hb (by simp [z]))]; exact n
 ·by_cases hb:b=D
  ·subst hb
   rw [upd_same] at q
   cases q
   exact ⟨hz,us,n,hv,e⟩
  ·rw [upd_ne hb] at q
   exact (I.hok b u q).stay (λ _ _ _ q=>q) (λ c r=>by rw [upd_ne (ne c _ r)]; exact r) λ c xs r=>by rw [upd_ne (ne c _ r)]; exact r
end
section
variable {prog:Program}{w:World}{A:Around}{E:Value->Shared->Prop}{R:Result->Shared->Prop}{s:Shared}
noncomputable abbrev testsOf (ifs:List Expr)(env:Env):Sem Bool:=forIn ifs true λ c r=>if r=true then do let ok <- isTrue c env (eval c env); pure (ForInStep.yield ok) else pure (ForInStep.yield r)
theorem compLoop_own {elt target iter:Expr}{ifs:List Expr}{scope:Scope}{pos:Pos}{it acc:Value}{env:Env}(I:Nat->Shared->Prop)
  (turn:∀ n s,I n s->wpAny (model prog w) A (pyNext it) (λ r s₁=>match r with
   | none=>R (.ok .next) s₁
   | some v=>wpAny (model prog w) A (letOwnedTupleGo target it v) (λ _ s₁'=>wpAny (model prog w) A (assign target env v) (λ _ s₂ =>
     wpAny (model prog w) A (testsOf ifs env) (λ ok s₃ =>
      if ok=true then wpAny (model prog w) A (eval elt env) (λ x s₄ =>
       wpAny (model prog w) A (call (.builtin "list.append") [acc,x]) (λ _ s₅=>∃ m,m < n/\I m s₅) (λ _ _=>False) s₄) (λ _ _=>False) s₃
      else ∃ m,m < n/\I m s₃) (λ _ _=>False) s₂) (λ _ _=>False) s₁') (λ _ _=>False) s₁) (λ _ _=>False) s)
  (n:Nat)(h:I n s) :
  codeAny (model prog w) A (.compLoop (.ListComp elt [⟨target,iter,ifs,0⟩] scope pos) 0 it acc env) R s:=by
 refine codeAny_loop rfl I (λ n s hI=>?_) n h
 show wpAny _ A ((compTurn (.ListComp elt [⟨target,iter,ifs,0⟩] scope pos) 0 it acc env).onRaise (λ x=>do noteFrame x env; theTreesLotGoes x)) _ _ s
 refine wpAny_noted ?_
 rw [compTurn_list]
 refine wpAny_bind (wpAny_standAt (wpAny_bind (wpAny_mono (turn n s hI) (λ r s₁ h₁=>?_) λ _ _ h'=>h'.elim)))
 cases r with
 | none=>exact wpAny_pure h₁
 | some v =>
  refine wpAny_bind (wpAny_mono h₁ (λ _ s₁' h₁'=>?_) λ _ _ h'=>h'.elim)
  refine wpAny_bind (wpAny_mono h₁' (λ _ s₂ h₂=>wpAny_bind (wpAny_mono h₂ (λ ok s₃ h₃=>?_) λ _ _ h'=>h'.elim)) λ _ _ h'=>h'.elim)
  cases ok with
  | false=>exact wpAny_pure ⟨rfl,h₃⟩
  | true =>
   exact wpAny_bind (wpAny_bind (wpAny_mono h₃ (λ x s₄ h₄=>wpAny_bind (wpAny_mono h₄ (λ _ s₅ h₅=>wpAny_pure (wpAny_pure ⟨rfl,h₅⟩)) λ _ _ h'=>h'.elim)) λ _ _ h'=>h'.elim))
end
theorem closure_some {scope:Scope}{env:Env}(h:∀ x∈scope.names,x.2=.free->∃ c,env.cells.lookup x.1=some c) :
  ∃ cl,closureFor scope env=pure cl/\(∀ n c,cl.lookup n=some c->env.cells.lookup n=some c)/\(∀ n,(n,NameKind.free)∈scope.names->∃ c,cl.lookup n=some c):=by
 have key:∀ (l:List (Str×NameKind)) (cs:List (Str×Addr)),(∀ x∈l,x.2=.free->∃ c,env.cells.lookup x.1=some c)->(∀ n c,cs.lookup n=some c->env.cells.lookup n=some c) ->
   ∃ cl:List (Str×Addr),(forIn l cs λ x r=>match x with
    | (name,kind)=>if (kind == NameKind.free)=true then do let a <- cellOf env name; pure (ForInStep.yield ((name,a) :: r)) else pure (ForInStep.yield r):Sem (List (Str×Addr)))=pure cl /\
    (∀ n c,cl.lookup n=some c->env.cells.lookup n=some c)/\(∀ n c,cs.lookup n=some c->∃ c,cl.lookup n=some c)/\(∀ n,(n,NameKind.free)∈l->∃ c,cl.lookup n=some c):=by
  intro l
  induction l with
  | nil=>intro cs _ hc; exact ⟨cs,rfl,hc,λ n c e=>⟨c,e⟩,λ n hn=>nomatch hn⟩
  | cons x l ih =>
   intro cs hl hc
   obtain ⟨name,kind⟩:=x
   by_cases hk:kind=.free
   ·subst hk
    obtain ⟨c,e⟩:=hl (name,.free) List.mem_cons_self rfl
    obtain ⟨cl,h1,h2,h3,h4⟩:=ih ((name,c) :: cs) (λ y hy=>hl y (List.mem_cons_of_mem _ hy)) (λ n d q=>by
     rw [List.lookup_cons] at q
     cases hb:n == name with
     | true =>
      rw [hb] at q
      cases q
      rw [eq_of_beq hb]; exact e
     | false =>
      rw [hb] at q
      exact hc n d q)
    refine ⟨cl,?_,h2,λ n d q=>?_,λ n hn=>?_⟩
    ·rw [List.forIn_cons]
     simp only [beq_self_eq_true,if_true,cellOf,e,pure_bind]
     exact h1
    ·cases hb:n == name with
     | true=>exact h3 n c (by rw [List.lookup_cons,hb])
     | false=>exact h3 n d (by rw [List.lookup_cons,hb]; exact q)
    ·rcases List.mem_cons.mp hn with z | z
     ·cases z
      exact h3 name c (by rw [List.lookup_cons]; simp)
     ·exact h4 n z
   ·obtain ⟨cl,h1,h2,h3,h4⟩:=ih cs (λ y hy=>hl y (List.mem_cons_of_mem _ hy)) hc
    refine ⟨cl,?_,h2,h3,λ n hn=>?_⟩
    ·rw [List.forIn_cons]
     have:(kind == NameKind.free)=false:=by simpa using hk
     simp only [this,Bool.false_eq_true,if_false,pure_bind]
     exact h1
    ·rcases List.mem_cons.mp hn with z | z
     ·cases z; exact absurd rfl hk
     ·exact h4 n z
 obtain ⟨cl,h1,h2,_,h4⟩:=key scope.names [] h (λ n c e=>by simp at e)
 refine ⟨cl,?_,h2,h4⟩
 unfold closureFor
 simp only [bind_pure]
 exact h1
theorem relabel_free {sc:Scope}{env:Env}{x:Str}:∀ {names:List (Str×NameKind)},(names.map λ (n,k)=>if (k == NameKind.free && env.scope.kind == .function && env.kindOf n == some .cell) then (n,NameKind.cell) else (n,k)).lookup x=some .cell \/
  (names.map λ (n,k)=>if (k == NameKind.free && env.scope.kind == .function && env.kindOf n == some .cell) then (n,NameKind.cell) else (n,k)).lookup x=some .free->(∀ y∈names,y.2 ≠ .cell)->(x,NameKind.free)∈names
 | [],h,_=>by simp at h
 | (n,k) :: r,h,hc=>by
  have ih:=@relabel_free sc env x r
  by_cases hk:(k == NameKind.free && env.scope.kind == .function && env.kindOf n == some .cell)=true
  ·simp only [List.map_cons,if_pos hk,List.lookup_cons] at h
   cases hx:x == n with
   | true =>
    have e:=eq_of_beq hx
    subst e
    simp only [Bool.and_eq_true] at hk
    have:=eq_of_beq hk.1.1
    subst this
    exact List.mem_cons_self
   | false =>
    rw [hx] at h
    exact List.mem_cons_of_mem _ (ih h λ y hy=>hc y (List.mem_cons_of_mem _ hy))
  ·simp only [List.map_cons,if_neg hk,List.lookup_cons] at h
   cases hx:x == n with
   | true =>
    rw [hx] at h
    have e:=eq_of_beq hx
    subst e
    rcases h with h | h
    ·cases h; exact absurd rfl (hc (x,.cell) List.mem_cons_self)
    ·cases h; exact List.mem_cons_self
   | false =>
    rw [hx] at h
    exact List.mem_cons_of_mem _ (ih h λ y hy=>hc y (List.mem_cons_of_mem _ hy))
theorem relabel_lookup_free {env:Env}{x:Str}:∀ {names:List (Str×NameKind)},names.lookup x=some .free ->
  (names.map λ (n,k)=>if (k == NameKind.free && env.scope.kind == .function && env.kindOf n == some .cell) then (n,NameKind.cell) else (n,k)).lookup x=some .cell \/
  (names.map λ (n,k)=>if (k == NameKind.free && env.scope.kind == .function && env.kindOf n == some .cell) then (n,NameKind.cell) else (n,k)).lookup x=some .free
 | [],h=>by simp at h
 | (n,k) :: r,h=>by
  have ih:=@relabel_lookup_free env x r
  by_cases hk:(k == NameKind.free && env.scope.kind == .function && env.kindOf n == some .cell)=true
  ·simp only [List.map_cons,if_pos hk,List.lookup_cons]
   cases hx:x == n with
   | true=>exact .inl rfl
   | false=>rw [List.lookup_cons,hx] at h; exact ih h
  ·simp only [List.map_cons,if_neg hk,List.lookup_cons]
   cases hx:x == n with
   | true=>rw [List.lookup_cons,hx] at h; exact .inr h
   | false=>rw [List.lookup_cons,hx] at h; exact ih h
noncomputable def blk (X:Cx)(sc:Scope)(N':List Str)(cl:List (Str×Addr))(C:Addr)(s:Shared)(H:Hp)(ex:List Addr)(pins:List (Addr×Obj)):Cx :=
 {X with N:=N',s₀:=s,H₀:=H,env:=compEnvC sc cl C X.env,outer:=X.stack,ex:=ex,fn:=λ _=>false,pn:=X.pn++pins,xe:=λ _ _=>False }
noncomputable def lcN (X:Cx)(own:List Str)(fr:List Nat):List Str:=own++fr.map λ j=>X.N.getD j Str.empty
noncomputable def lcS (k:Nat)(fr:List Nat)(σ:St):St:=List.replicate k none++fr.map λ j=>(σ[j]?).getD none
noncomputable def frOk (N:List Str)(sc:Scope)(fr:List Nat):Bool:=fr.all λ j=>match N[j]? with
 | some x=>sc.names.lookup x == some .free
 | none=>false
structure LcOk (X:Cx)(sc:Scope)(own:List Str)(fr:List Nat):Prop where
 kind:sc.kind=.function
 cell:∀ y∈sc.names,y.2 ≠ .cell
 free:∀ y∈sc.names,y.2=.free->(X.env.kindOf y.1=some .cell\/X.env.kindOf y.1=some .free)
 names:∀ y∈sc.names,y.2=.local->sc.names.lookup y.1=some .local
 fr:frOk X.N sc fr=true
noncomputable def PTs (X:Cx)(ifs:List Expr)(t:TT):Prop :=
 ∀ (pins:List (Addr×Obj)) (s:Shared) (σ:St) (H:Hp) (Q:Bool->Hp->Prop),Inv X pins σ H s->t σ H Q->wpAny (model X.prog X.w) X.A (testsOf ifs X.env) (TP X pins σ Q) X.xe s
noncomputable def tYes:TT:=λ _ H Q=>Q true H
theorem pts_nil {X:Cx}:PTs X [] tYes:=λ _ _ _ H _ I h=>wpAny_tests_nil ⟨H,I,h⟩
theorem pts_one {X:Cx}{c:Expr}{t:TT}(h:PT X c t):PTs X [c] t:=λ pins s σ H Q I q=>wpAny_tests_one (h pins s σ H Q I q)
section
variable {X:Cx}{pins:List (Addr×Obj)}{σ:St}{H:Hp}{s:Shared}{sc:Scope}{own:List Str}{fr:List Nat}{cl:List (Str×Addr)}{fp:List Addr}{C D:Addr}{s1:Shared}
theorem frOk_get {N:List Str}{sc:Scope}{fr:List Nat}(h:frOk N sc fr=true){j:Nat}(hj:j∈fr):∃ x,N[j]? = some x/\sc.names.lookup x=some .free:=by
 have q:=List.all_eq_true.mp h j hj
 cases e:N[j]? with
 | none=>simp [e] at q
 | some x =>
  simp only [e] at q
  exact ⟨x,rfl,eq_of_beq q⟩
theorem blk_ok (L:LcOk X sc own fr)(I:Inv X pins σ H s)(hf:∀ b∈fp,FpOk X pins H b)(hb:∀ b∈fp,b < s.heap.objs.size)(hC:s.heap.objs.size<=C)
  (c1:∀ n c,cl.lookup n=some c->X.env.cells.lookup n=some c)(c2:∀ n,(n,NameKind.free)∈sc.names->∃ c,cl.lookup n=some c):(blk X sc (lcN X own fr) cl C s H fp pins).Ok where
 mod:=I.ok.mod
 kind:=L.kind
 glob:=I.ok.glob
 blt:=I.ok.blt
 above:=hC
 inj:=λ x y c a b=>I.ok.inj x y c (c1 _ _ a) (c1 _ _ b)
 has:=λ x hx=>c2 x (relabel_free (sc:=sc) (env:=X.env) hx L.cell)
 cab:=λ x c z=>absurd (show false=true from z) Bool.false_ne_true
 hd:=I.ok.hd
 frames:=I.ok.frames
 stk:=.inl rfl
 exf:=λ b z=>⟨Nat.ne_of_lt (Nat.lt_of_lt_of_le (hb b z) hC),λ x c e=>(hf b z).2.2.2.2.1 x c (c1 _ _ e)⟩
 bs:=I.bs
 bsz:=Nat.le_trans I.ok.bsz I.sz
 noex:=λ b o e z=>by
  rcases (hf b z).2.2.2.1 with q | q
  ·exact I.ok.noex b o e q
  ·exact absurd (Nat.lt_of_lt_of_le (Heap.lt_size e) (Nat.le_trans I.ok.bsz q)) (Nat.lt_irrefl _)
 exfs:=λ b z q=>by
  rcases List.mem_cons.mp (I.stkSub b q) with e | e
  ·exact (hf b z).2.1 e
  ·exact (hf b z).2.2.1 e
 funs:=I.stack
 frf:=I.stkFree
theorem blk_inv (L:LcOk X sc own fr)(I:Inv X pins σ H s)(hf:∀ b∈fp,FpOk X pins H b)(hb:∀ b∈fp,b < s.heap.objs.size)(hC:s.heap.objs.size<=C)
  (c1:∀ n c,cl.lookup n=some c->X.env.cells.lookup n=some c)(c2:∀ n,(n,NameKind.free)∈sc.names->∃ c,cl.lookup n=some c)
  {h1:Heap}{tk:Nat}{m:Str->Option Value}(hn:h1.Ns C m)(k:∀ b o,s.heap.get? b=some o->h1.get? b=some o) :
  Inv (blk X sc (lcN X own fr) cl C s H fp pins) [] (lcS own.length fr σ) H { s with heap:=h1,toks:=tk }:=by
 have ok:=blk_ok L I hf hb hC c1 c2
 refine ⟨ok,rfl,I.bare,Un.kept k,⟨m,hn,λ i x v e1 e2 e3=>?_⟩,λ x c e=>?_,I.hok.fresh hC,λ x c e=>I.freeC x c (c1 _ _ e),λ p hp=>?_,I.hok.kept k,?_⟩
 ·-- one of the names around
  have hi:¬ i < own.length:=λ hi=>by
   unfold lcS at e2
   rw [List.getElem?_append_left (by simpa using hi),List.getElem?_replicate] at e2
   split at e2 <;> cases e2
  have e1':(lcN X own fr)[i]? = some x:=e1
  unfold lcN at e1'
  unfold lcS at e2
  rw [List.getElem?_append_right (by omega),List.getElem?_map] at e1'
  rw [List.getElem?_append_right (by simpa using hi),List.getElem?_map,List.length_replicate] at e2
  cases q:fr[i - own.length]? with
  | none=>rw [q] at e1'; cases e1'
  | some j =>
   rw [q] at e1' e2
   obtain ⟨y,hy,hyf⟩:=frOk_get L.fr (List.mem_of_getElem? q)
   have ex:y=x:=by
    have:=Option.some.inj e1'
    rw [<- this]
    simp [List.getD,hy]
   subst ex
   have ev:σ[j]? = some (some v):=by
    have z:(σ[j]?).getD none=some v:=Option.some.inj e2
    cases w:σ[j]? with
    | none=>rw [w] at z; cases z
    | some o=>rw [w] at z; exact congrArg some z
   have hm:(y,NameKind.free)∈sc.names:=PySem.mem_of_lookup hyf
   have hk:=L.free _ hm rfl
   have vis:Vis X.env.scope y:=by
    rcases hk with z | z
    ·exact .inr (.inl z)
    ·exact .inr (.inr z)
   obtain ⟨m0,hn0,hl⟩:=I.loc
   obtain ⟨u,r,l⟩:=hl j y v hy ev vis
   refine ⟨u,r,.inr ⟨?_,?_⟩⟩
   ·exact relabel_lookup_free (env:=X.env) hyf
   ·obtain ⟨c,hc⟩:=c2 y hm
    rcases l with ⟨z,_⟩ | ⟨_,c',hc',hcell⟩
    ·rcases hk with q | q
     ·exact absurd (show X.env.kindOf y=some .local from z) (by rw [q]; decide)
     ·exact absurd (show X.env.kindOf y=some .local from z) (by rw [q]; decide)
    ·have:c=c':=Option.some.inj ((c1 _ _ hc).symm.trans hc')
     subst this
     obtain ⟨o,ho,hd⟩:=hcell
     exact ⟨c,hc,o,k _ _ ho,hd⟩
 ·obtain ⟨v,o,ho,hd⟩:=I.cell x c (c1 _ _ e)
  exact ⟨v,o,k _ _ ho,hd⟩
 ·have hp':p∈X.pn++pins:=by simpa [blk] using hp
  obtain ⟨a1,a2,a3,a4,a5⟩:=I.pin p hp'
  refine ⟨k _ _ a1,a2,Nat.ne_of_lt (Nat.lt_of_lt_of_le (Heap.lt_size a1) hC),λ q=>?_,a5⟩
  rcases List.mem_cons.mp (I.stkSub _ q) with e | e
  ·exact a3 e
  ·exact a4 e
 ·show (lcS own.length fr σ).length=(lcN X own fr).length
  simp [lcS,lcN]
end
noncomputable abbrev LcW:=Nat->Nat->List V->St->Hp->Prop
noncomputable def lcStep (J:It)(g:TG)(tt:TT)(te:TE)(W:LcW)(Fin:List V->Hp->Prop):Prop:=∀ i m ys τ H,W i m ys τ H ->
 (J.stop i H/\Fin ys H)\/(J.go i H/\ys.length < sizeLine/\∀ x H',J.yld i H x H'->g x τ H' λ τ2 H2=>tt τ2 H2 λ b H3 =>
  if b=true then te τ2 H3 λ y H4=>∃ m',m' < m/\W (i+1) m' (ys++[y]) τ2 H4 else ∃ m',m' < m/\W (i+1) m' ys τ2 H3)
section
variable {X:Cx}{pins:List (Addr×Obj)}{σ:St}{H:Hp}{s:Shared}{sc:Scope}{own:List Str}{fr:List Nat}{cl:List (Str×Addr)}{fp:List Addr}{it:Addr}{J:It}{tn:Nat->Heap->Prop}{g:TG}{tt:TT}{te:TE}{W:LcW}{Fin:List V->Hp->Prop}
 {elt tg iter:Expr}{ifs:List Expr}{pos:Pos}{E:Value->Shared->Prop}
theorem lc_core {RR:Value->Addr->Result->Shared->Prop}(hc:X.calm=true)(L:LcOk X sc own fr)(hcl1:∀ n c,cl.lookup n=some c->X.env.cells.lookup n=some c)(hcl2:∀ n,(n,NameKind.free)∈sc.names->∃ c,cl.lookup n=some c)
  (hg:∀ C s H ex pl,PG (blk X sc (lcN X own fr) cl C s H ex pl) tg g)(ht:∀ C s H ex pl,PTs (blk X sc (lcN X own fr) cl C s H ex pl) ifs tt)(he:∀ C s H ex pl,PE (blk X sc (lcN X own fr) cl C s H ex pl) elt te)
  (I:Inv X pins σ H s)(T:Turn X.prog X.w X.K tg J fp it tn)(st:tn 0 s.heap)(hf:∀ b∈fp,FpOk X pins H b)(w0:∃ m,W 0 m [] (lcS own.length fr σ) H)(turn:lcStep J g tt te W Fin)
  (hRR:∀ (D C:Addr) (s':Shared) (H':Hp) (ys:List V) (us:List Value) (n:Nat) (m:Str->Option Value),Inv X pins σ H' s'->s'.heap.get? D=some { cls:=.type "list",data:=.seq us.toArray n }->Vals ys us->ys.length<=sizeLine->H' D=none->H' C=none ->
   s.heap.objs.size<=D->s.heap.objs.size<=C->D≠C->s'.heap.Ns C m->Fin ys H'->RR (.ref D) C (.ok .next) s') :
  wpAny (model X.prog X.w) X.A (newList []) (λ acc s₃=>wpAny (model X.prog X.w) X.A (newFunctionEnv sc X.env.globals cl [] X.env.qual none .none (some X.env)) (λ cenv s₄ =>
   codeAny (model X.prog X.w) X.A (.compStart (.ListComp elt [⟨tg,iter,ifs,0⟩] sc pos) 0 (.ref it) acc { cenv with scope:=relabel sc X.env }) (RR acc cenv.locals) s₄) E s₃) E s:=by
 refine wpAny_newObj_type (wpAny_newFunctionEnv L.cell (by intro y hy; simp at hy) (λ h₁ hns₁ hsb₁=>?_) L.kind)
 dsimp only at hns₁ hsb₁ ⊢
 generalize hH2:s.heap.push { cls:=.type "list",dict:=none,data:=.seq ([]:List Value).toArray }=H2 at hns₁ hsb₁ ⊢
 have hCs:H2.objs.size=s.heap.objs.size+1:=by rw [<- hH2,Heap.size_push]
 have hD0:s.heap.objs.size≠H2.objs.size:=by rw [hCs]; exact Nat.ne_of_lt (Nat.lt_succ_self _)
 have hCle:s.heap.objs.size<=H2.objs.size:=by rw [hCs]; exact Nat.le_succ _
 have below:∀ b,b < s.heap.objs.size->b≠H2.objs.size/\b≠s.heap.objs.size:=λ b hb=>⟨by rw [hCs]; exact Nat.ne_of_lt (Nat.lt_succ_of_lt hb),Nat.ne_of_lt hb⟩
 have old:∀ b o,s.heap.get? b=some o->h₁.get? b=some o:=λ b o e=>hsb₁.extBut b o (below b (Heap.lt_size e)).1 (Heap.get?_push_of_some _ (hH2 ▸ Heap.get?_push_of_some _ e))
 have hacc:h₁.get? s.heap.objs.size=some { cls:=.type "list",data:=.seq ([]:List Value).toArray 0 }:=hsb₁.extBut _ _ hD0 (Heap.get?_push_of_some _ (hH2 ▸ Heap.get?_push_size _ rfl))
 have hfb:∀ b∈fp,b < s.heap.objs.size:=λ b hb=>by
  obtain ⟨o,e,_⟩:=T.obj 0 _ st b hb
  exact Heap.lt_size e
 have I1:Inv (blk X sc (lcN X own fr) cl H2.objs.size s H fp pins) [] (lcS own.length fr σ) H { s with heap:=h₁,toks:=s.toks+([]:List (Str×Value)).length }:=blk_inv L I hf hfb hCle hcl1 hcl2 hns₁ old
 have st1:tn 0 h₁:=T.keep 0 _ _ st λ b _ o e=>old b o e
 generalize hY:blk X sc (lcN X own fr) cl H2.objs.size s H fp pins=Y at I1
 have hYp:Y.prog=X.prog:=by rw [<- hY]; rfl
 have hYw:Y.w=X.w:=by rw [<- hY]; rfl
 have hYK:Y.K=X.K:=by rw [<- hY]; rfl
 have hYA:Y.A=X.A:=by rw [<- hY]; rfl
 have hYc:Y.calm=true:=by rw [<- hY]; exact hc
 have hYe:Y.env=compEnvC sc cl H2.objs.size X.env:=by rw [<- hY]; rfl
 have hYx:Y.xe=λ _ _=>False:=by rw [<- hY]; rfl
 have hYpn:Y.pn=X.pn++pins:=by rw [<- hY]; rfl
 have hYs:Y.s₀=s:=by rw [<- hY]; rfl
 have hYH:Y.H₀=H:=by rw [<- hY]; rfl
 have hYex:Y.ex=fp:=by rw [<- hY]; rfl
 have hYfs:Y.fs=frs X.stack:=by rw [<- hY]; rfl
 have gY:=hg H2.objs.size s H fp pins
 have tY:=ht H2.objs.size s H fp pins
 have eY:=he H2.objs.size s H fp pins
 rw [hY] at gY tY eY
 have D_pin:∀ p∈Y.pn++([]:List (Addr×Obj)),p.1≠s.heap.objs.size:=λ p hp=>by
  rw [hYpn,List.append_nil] at hp
  exact (below _ (Heap.lt_size (I.pin p hp).1)).2
 have D_cell:∀ x c,Y.env.cells.lookup x=some c->c≠s.heap.objs.size:=λ x c e=>by
  rw [hYe] at e
  obtain ⟨v,z⟩:=I.cell x c (hcl1 _ _ e)
  exact (below _ z.lt).2
 have D_loc:s.heap.objs.size≠Y.env.locals:=by rw [hYe]; exact hD0
 have D_fs:s.heap.objs.size ∉ Y.fs:=by
  rw [hYfs]
  intro z
  rcases List.mem_cons.mp (I.stkSub _ z) with e | e
  ·exact absurd I.lt (by rw [<- e]; exact Nat.lt_irrefl _)
  ·exact I.nofs (Nat.le_refl _) e
 have fpY:∀ {H':Hp} (pl:List (Addr×Obj)),(∀ b∈fp,H' b=none)->(∀ p∈pl,p.1=s.heap.objs.size)->∀ b∈fp,FpOk Y pl H' b:=λ {H'} pl hn hp b hb=>by
  obtain ⟨_,f1,f2,f3,f4,f5⟩:=hf b hb
  refine ⟨hn b hb,by rw [hYe]; exact (below b (hfb b hb)).1,?_,.inl (by rw [hYex]; exact hb),λ x c e=>?_,λ p q=>?_⟩
  ·rw [hYfs]
   intro z
   rcases List.mem_cons.mp (I.stkSub _ z) with e | e
   ·exact f1 e
   ·exact f2 e
  ·rw [hYe] at e
   exact f4 x c (hcl1 _ _ e)
  ·rcases List.mem_append.mp q with z | z
   ·rw [hYpn] at z
    exact f5 p z
   ·rw [hp p z]
    exact Ne.symm (below b (hfb b hb)).2
 have loop:∀ s₃:Shared,s₃={ s with heap:=h₁,toks:=s.toks+([]:List (Str×Value)).length } ->
   codeAny (model X.prog X.w) X.A (.compLoop (.ListComp elt [⟨tg,iter,ifs,0⟩] sc pos) 0 (.ref it) (.ref s.heap.objs.size) (compEnvC sc cl H2.objs.size X.env)) (RR (.ref s.heap.objs.size) H2.objs.size) s₃:=by
  rintro s₃ rfl
  obtain ⟨m0,w0⟩:=w0
  refine compLoop_own (λ n s'=>∃ i ys τ H' us k,Inv Y [] τ H' s'/\tn i s'.heap/\(∀ b∈fp,H' b=none)/\H' s.heap.objs.size=none/\s'.heap.get? s.heap.objs.size=some { cls:=.type "list",data:=.seq us.toArray k }/\Vals ys us/\ys.length<=sizeLine/\W i n ys τ H') ?_ m0
   ⟨0,[],_,H,[],0,I1,st1,λ b hb=>(hf b hb).1,I.hok.fresh (Nat.le_refl _),hacc,.nil,Nat.zero_le _,w0⟩
  rintro n s' ⟨i,ys,τ,H',us,k,I',st',hn',hD',ha',hv',hz',w'⟩
  have Ip:Inv Y [(s.heap.objs.size,{ cls:=.type "list",data:=.seq us.toArray k })] τ H' s':=I'.pins_of λ p hp=>by
   have e:p=(s.heap.objs.size,{ cls:=.type "list",data:=.seq us.toArray k }):=by simpa using hp
   subst e
   exact ⟨ha',hD',D_loc,D_fs,λ v z=>nomatch (show Data.seq _ _=Data.cell v from z)⟩
  have onlyD:∀ p∈[((s.heap.objs.size,{ cls:=.type "list",data:=.seq us.toArray k }):Addr×Obj)],p.1=s.heap.objs.size:=λ p hp=>by
   have e:p=(s.heap.objs.size,{ cls:=.type "list",data:=.seq us.toArray k }):=by simpa using hp
   subst e
   rfl
  rcases turn i n ys τ H' w' with ⟨stop,fin⟩ | ⟨go,hlen,step⟩
  ·have q:=T.done Y hYp hYw hYK hYc i _ s' τ H' (λ _ _=>False) Ip (fpY _ hn' onlyD) st' stop
   rw [hYA] at q
   refine thn q λ r s4 hq31=>?_
   obtain ⟨hr,I4⟩:=hq31
   subst hr
   have un:Un (frs X.stack) fp H H' s.heap s4.heap:=by
    have z:=I4.base
    rw [hYfs,hYex,hYH,hYs] at z
    exact z
   have os4:s4.os=s.os:=by
    have z:=I4.os
    rw [hYs] at z
    exact z
   have hok4:HOk X.prog X.w H' s4.heap:=by
    have z:=I4.hok
    rw [hYp,hYw] at z
    exact z
   have hch:∀ b∈fp,(b∈X.ex\/X.s₀.heap.objs.size<=b)/\b≠X.env.locals/\(∀ x c,X.env.cells.lookup x=some c->c≠b)/\∀ p∈X.pn++pins,p.1≠b:=λ b hb=>by
    obtain ⟨_,f1,f2,f3,f4,f5⟩:=hf b hb
    exact ⟨f3,f1,f4,f5⟩
   have IX:Inv X pins σ H' s4:=I.call' os4 un hok4 I4.bare hch
   obtain ⟨mC,hmC,_⟩:=I4.loc
   have hCf:=I4.free
   rw [hYe] at hmC hCf
   have pD:=I4.pin (s.heap.objs.size,{ cls:=.type "list",data:=.seq us.toArray k }) (List.mem_append_right _ (List.mem_singleton.mpr rfl))
   exact hRR _ _ s4 H' ys us k mC IX pD.1 hv' hz' pD.2.1 hCf (Nat.le_refl _) hCle hD0 hmC fin
  ·have q:=T.item Y hYp hYw hYK hYc i _ s' τ H' (λ _ _=>False) Ip (fpY _ hn' onlyD) st' go
   rw [hYA] at q
   refine thn q λ r s4 hq32=>?_
   obtain ⟨u,hr,h4⟩:=hq32
   subst hr
   refine thn h4 λ _ s5 hq33=>?_
   obtain ⟨x,H5,I5,r5,y5,st5,fr5⟩:=hq33
   have I5':=I5.pinned (fpY _ fr5 onlyD) (T.obj _ _ st5)
   have g5:=gY _ s5 τ H5 x u _ I5' r5 (step x H5 y5)
   rw [hYp,hYw,hYA,hYe,hYx] at g5
   refine thn g5 λ _ s6 hq34=>?_
   obtain ⟨σ6,H6,I6,q6⟩:=hq34
   have t6:=tY _ s6 σ6 H6 _ I6 q6
   rw [hYp,hYw,hYA,hYe,hYx] at t6
   refine thn t6 λ ok s7 hq35=>?_
   obtain ⟨H7,I7,q7⟩:=hq35
   have keepD:∀ {σ8:St} {H8:Hp} {s8:Shared},Inv Y ([(s.heap.objs.size,{ cls:=.type "list",data:=.seq us.toArray k })]++pinsAt fp s5.heap) σ8 H8 s8->s8.heap.get? s.heap.objs.size=some { cls:=.type "list",data:=.seq us.toArray k }/\H8 s.heap.objs.size=none :=
    λ {σ8 H8 s8} I8=>by
     have pD:=I8.pin (s.heap.objs.size,{ cls:=.type "list",data:=.seq us.toArray k }) (List.mem_append_right _ (List.mem_append_left _ (List.mem_singleton.mpr rfl)))
     exact ⟨pD.1,pD.2.1⟩
   have keepI:∀ {σ8:St} {H8:Hp} {s8:Shared},Inv Y ([(s.heap.objs.size,{ cls:=.type "list",data:=.seq us.toArray k })]++pinsAt fp s5.heap) σ8 H8 s8->tn (i+1) s8.heap/\∀ b∈fp,H8 b=none :=
    λ {σ8 H8 s8} I8=>by
     refine ⟨T.keep _ _ _ st5 λ b hb o e=>(I8.pin (b,o) (List.mem_append_right _ (List.mem_append_right _ (mem_pinsAt hb e)))).1,λ b hb=>?_⟩
     obtain ⟨o,e,d⟩:=T.obj _ _ st5 b hb
     exact (I8.pin (b,o) (List.mem_append_right _ (List.mem_append_right _ (mem_pinsAt hb e)))).2.1
   cases ok with
   | false =>
    rw [if_neg Bool.false_ne_true] at q7 ⊢
    obtain ⟨m',hm',w7⟩:=q7
    obtain ⟨a7,b7⟩:=keepD I7
    obtain ⟨c7,d7⟩:=keepI I7
    exact ⟨m',hm',i+1,ys,σ6,H7,us,k,I7.pins_of (λ p hp=>(nomatch hp)),c7,d7,b7,a7,hv',hz',w7⟩
   | true =>
    rw [if_pos rfl] at q7 ⊢
    have e7:=eY _ s7 σ6 H7 _ I7 q7
    rw [hYp,hYw,hYA,hYe,hYx] at e7
    refine thn e7 λ v s8 hq36=>?_
    obtain ⟨y,H8,I8,r8,m',hm',w8⟩:=hq36
    obtain ⟨a8,b8⟩:=keepD I8
    obtain ⟨c8,d8⟩:=keepI I8
    have hl:=hv'.length
    refine call_meets F.slot_list_append ⟨_,a8,rfl⟩ F.entry_list_append (F.args_list_append_2 _ _) (PySem.list_append s.heap.objs.size us.toArray k v (by rw [List.size_toArray]; omega)) ⟨a8,?_⟩
    have qu:=PySem.IsL.update a8 (λ xs=>xs.push v)
    have I9:=(I8.pins_of (pins':=[]) λ p hp=>nomatch hp).turned (it:=s.heap.objs.size) (t':=s8.toks) (h':=s8.heap.update s.heap.objs.size (Obj.mapSeq λ xs=>xs.push v)) (λ b o hb e=>(Heap.get?_update_other s8.heap _ (Ne.symm hb)).trans e) b8 D_loc (.inr (by rw [hYs]; exact Nat.le_refl _)) D_cell D_pin
    have ep:us.toArray.push v=(us++[v]).toArray:=by simp
    rw [ep] at qu
    refine ⟨m',hm',i+1,ys++[y],σ6,H8,us++[v],(if (us++[v]).toArray.size == us.toArray.size then k else k+1),I9,T.keep _ _ _ c8 λ b hb o e=>(Heap.get?_update_other s8.heap _ (Ne.symm (below b (hfb b hb)).2)).trans e,d8,b8,?_,hv'.append (.cons r8 .nil),?_,w8⟩
    ·exact qu
    ·rw [List.length_append,List.length_singleton]; omega
 exact codeAny_compStart_list (loop _ rfl) (T.self _ 0 _ _ _ st1 (loop _ rfl))
noncomputable def tLC (wi:TI)(g:TG)(tt:TT)(te:TE)(k:Nat)(fr:List Nat):TE:=λ σ H Q=>wi σ H λ J H1=>∃ W:LcW,(∃ m,W 0 m [] (lcS k fr σ) H1)/\lcStep J g tt te W λ ys H2=>∀ p,H2 p=none->Q (.ref p) (upd H2 p (.lst ys))
theorem lc_closure (L:LcOk X sc own fr)(ok:X.Ok):∃ cl,closureFor sc X.env=pure cl/\(∀ n c,cl.lookup n=some c->X.env.cells.lookup n=some c)/\(∀ n,(n,NameKind.free)∈sc.names->∃ c,cl.lookup n=some c) :=
 closure_some λ x hx hf=>ok.has x.1 (L.free x hx hf)
theorem pe_lc {wi:TI}(hc:X.calm=true)(L:LcOk X sc own fr)(hi:PI X tg iter wi)
  (hg:∀ cl C s H ex pl,PG (blk X sc (lcN X own fr) cl C s H ex pl) tg g)(ht:∀ cl C s H ex pl,PTs (blk X sc (lcN X own fr) cl C s H ex pl) ifs tt)(he:∀ cl C s H ex pl,PE (blk X sc (lcN X own fr) cl C s H ex pl) elt te)
  (hs:∀ x,foldedSetIterable iter X.env x=pure x:=by intro _; rfl):PE X (.ListComp elt [⟨tg,iter,ifs,0⟩] sc pos) (tLC wi g tt te own.length fr):=by
 intro pins s σ H Q I h
 obtain ⟨cl,hcl,c1,c2⟩:=lc_closure L I.ok
 rw [eval_ListComp]
 refine wpAny_comprehension_free (use:=none) (g:=⟨tg,iter,ifs,0⟩) (gs:=[]) rfl hs hcl L.kind L.names ?_
 refine thn (hi pins s σ H _ I h) λ v s1 h1=>thn h1 λ itv s2 h2=>?_
 obtain ⟨it,fp,tn,J,H2,e,I2,T,st2,f2,W,w0,turn⟩:=h2
 subst e
 refine lc_core (cl:=cl) hc L c1 c2 (hg cl) (ht cl) (he cl) I2 T st2 f2 w0 turn λ D C s' H' ys us n m I' a' hv hz hD hC dD dC hDC hns fin=>?_
 refine ⟨m,hns,λ h' sb=>?_⟩
 have far:∀ b,s2.heap.objs.size<=b->(X.s₀.heap.objs.size<=b)/\b≠X.env.locals/\(∀ x c,X.env.cells.lookup x=some c->c≠b)/\∀ p∈X.pn++pins,p.1≠b:=λ b hb=>by
  obtain ⟨_,f1,_,f3,f4,f5⟩:=I2.fpOk (H':=λ _=>none) hb rfl
  refine ⟨Nat.le_trans I2.sz hb,f1,f4,f5⟩
 obtain ⟨z1,z2,z3,z4⟩:=far C dC
 obtain ⟨y1,y2,y3,y4⟩:=far D dD
 have I3:Inv X pins σ H' { s' with heap:=h' }:=I'.turned (t':=s'.toks) (λ b o hb e=>sb.extBut b o hb e) hC z2 (.inr z1) z3 z4
 exact ⟨.ref D,_,I3.track (sb.extBut _ _ hDC a') hD hv hz y1 y2 y3 y4,rfl,fin D hD⟩
theorem ps_setLC {wi:TI}{i:Nat}{x:Str}{pos' spos:Pos}(hN:X.N.Nodup)(hi':X.N[i]? = some x)(hx:Loc X.env.scope x)(hc:X.calm=true)(L:LcOk X sc own fr)(hi:PI X tg iter wi)
  (hg:∀ cl C s H ex pl,PG (blk X sc (lcN X own fr) cl C s H ex pl) tg g)(ht:∀ cl C s H ex pl,PTs (blk X sc (lcN X own fr) cl C s H ex pl) ifs tt)(he:∀ cl C s H ex pl,PE (blk X sc (lcN X own fr) cl C s H ex pl) elt te)
  (hsw:swapsWith (.ListComp elt [⟨tg,iter,ifs,0⟩] sc pos) (some (.Name x pos')) spos.line X.env=pure true:=by rfl)
  (hs:∀ x,foldedSetIterable iter X.env x=pure x:=by intro _; rfl)(hf:X.fn x=true\/X.env.scope.names.lookup x=some .local:=by first | exact .inl rfl | exact .inr rfl | assumption) :
  PS X (.Assign [.Name x pos'] (.ListComp elt [⟨tg,iter,ifs,0⟩] sc pos) spos) (tAsg (tLC wi g tt te own.length fr) (gName i)):=by
 intro pins s σ H D' I h
 obtain ⟨cl,hcl,c1,c2⟩:=lc_closure L I.ok
 rw [exec_Assign_Name_used _ _ _ _ hsw]
 refine wpAny_bind (wpAny_standAt (wpAny_bind ?_))
 show wpAny _ _ (evalThenUse (.ListComp elt [⟨tg,iter,ifs,0⟩] sc pos) X.env (assign (.Name x pos') X.env)) _ _ _
 unfold evalThenUse
 refine wpAny_bind ?_
 refine wpAny_comprehension_free (use:=some (assign (.Name x pos') X.env)) (g:=⟨tg,iter,ifs,0⟩) (gs:=[]) rfl hs hcl L.kind L.names ?_
 refine thn (hi pins s σ H _ I h) λ v s1 h1=>thn h1 λ itv s2 h2=>?_
 obtain ⟨it,fp,tn,J,H2,e,I2,T,st2,f2,W,w0,turn⟩:=h2
 subst e
 refine lc_core (cl:=cl) hc L c1 c2 (hg cl) (ht cl) (he cl) I2 T st2 f2 w0 turn λ D C s' H' ys us n m I' a' hv hz hD hC dD dC hDC hns fin=>?_
 have far:∀ b,s2.heap.objs.size<=b->(X.s₀.heap.objs.size<=b)/\b≠X.env.locals/\(∀ x c,X.env.cells.lookup x=some c->c≠b)/\(b ∉ X.fs)/\∀ p∈X.pn++pins,p.1≠b:=λ b hb=>by
  obtain ⟨_,f1,f2,f3,f4,f5⟩:=I2.fpOk (H':=λ _=>none) hb rfl
  refine ⟨Nat.le_trans I2.sz hb,f1,f4,f2,f5⟩
 obtain ⟨z1,z2,z3,z0,z4⟩:=far C dC
 obtain ⟨y1,y2,y3,_,y4⟩:=far D dD
 have I3:=I'.track a' hD hv hz y1 y2 y3 y4
 obtain ⟨oC,hoC,nsC⟩:∃ o,s'.heap.get? C=some o/\∃ es ep,o.data=.dict es ep:=by
  obtain ⟨o,es,ep,e1,e2,_⟩:=hns
  exact ⟨o,e1,es,ep,e2⟩
 have hCt:(upd H' D (.lst ys)) C=none:=by rw [upd_ne (Ne.symm hDC)]; exact hC
 have I4:Inv X (pins++[(C,oC)]) σ (upd H' D (.lst ys)) s':=I3.pins_of λ p hp=>by
  rcases List.mem_append.mp hp with z | z
  ·exact I3.pin p (List.mem_append_right _ z)
  ·have e:p=(C,oC):=by simpa using z
   subst e
   obtain ⟨es,ep,hd⟩:=nsC
   exact ⟨hoC,hCt,z2,z0,λ v z=>by have z':oC.data=.cell v:=z; rw [hd] at z'; cases z'⟩
 refine thn (pg_name (pos:=pos') hN hi' hx hf _ s' σ _ (.ref D) (.ref D) _ I4 rfl (fin D hD)) λ _ s5 hq37=>?_
 obtain ⟨σ5,H5,I5,q5⟩:=hq37
 have pC:=I5.pin (C,oC) (List.mem_append_right _ (List.mem_append_right _ (List.mem_singleton.mpr rfl)))
 obtain ⟨o,es,ep,e1,e2,e3⟩:=hns
 rw [hoC] at e1
 cases e1
 refine ⟨m,⟨oC,es,ep,pC.1,e2,e3⟩,λ h' sb=>?_⟩
 have I6:Inv X pins σ5 H5 { s5 with heap:=h' }:=(I5.unpinned).turned (t':=s5.toks) (λ b o hb e=>sb.extBut b o hb e) pC.2.1 z2 (.inr z1) z3 z4
 exact wpAny_pure (wpAny_pure ⟨σ5,H5,I6,q5⟩)
end
end L2
namespace D
open PySem PySem.Spec PyProof.Rows L2
noncomputable abbrev St:=L2.St
structure Kp (H H':Hp):Prop where
 tup:∀ b xs,H b=some (.tup xs)->H' b=some (.tup xs)
 frz:∀ b o u,H b=some (.frz o u)->H' b=some (.frz o u)
theorem Kp.refl (H:Hp):Kp H H:=⟨λ _ _ e=>e,λ _ _ _ e=>e⟩
theorem Kp.trans {H H1 H2:Hp}(a:Kp H H1)(b:Kp H1 H2):Kp H H2:=⟨λ c xs e=>b.tup c xs (a.tup c xs e),λ c o u e=>b.frz c o u (a.frz c o u e)⟩
theorem Kp.new {H:Hp}{p:Addr}{o:HO}(h:H p=none):Kp H (upd H p o):=⟨λ b xs e=>by rw [upd_ne (ne_of_none e h)]; exact e,λ b ob u e=>by rw [upd_ne (ne_of_none e h)]; exact e⟩
theorem Kp.set {H:Hp}{p:Addr}{o u:HO}(h:H p=some u)(ht:∀ xs,u ≠ .tup xs)(hf:∀ ob v,u ≠ .frz ob v):Kp H (upd H p o) :=
 ⟨λ b xs e=>by rw [upd_ne (ne_of e h λ z=>ht _ z.symm)]; exact e,λ b ob v e=>by rw [upd_ne (ne_of e h λ z=>hf _ _ z.symm)]; exact e⟩
theorem Kp.un {fs ex:List Addr}{H H':Hp}{h h':Heap}(u:Un fs ex H H' h h'):Kp H H':=⟨u.tups,u.frzs⟩
noncomputable def SqF (K:PySem.W.Frag)(H:Hp)(a:Addr)(xs:List V):Prop :=
 (∃ o,H a=some (.frz o (.lst xs)))\/∃ (o:Obj) (its:Array Value) (n:Nat),K.lookup a=some o/\o.cls=.type "list" /\ o.dict=none/\o.data=.seq its n/\its.size<=sizeLine/\Vals xs its.toList
theorem SqF.sq {K:PySem.W.Frag}{H:Hp}{a:Addr}{xs:List V}(h:SqF K H a xs):SqL K H a xs:=by
 rcases h with h | h
 ·exact .inl (.inr h)
 ·exact .inr h
theorem SqF.keep {K:PySem.W.Frag}{H H':Hp}{a:Addr}{xs:List V}(k:Kp H H')(h:SqF K H a xs):SqF K H' a xs:=by
 rcases h with ⟨o,h⟩ | h
 ·exact .inl ⟨o,k.frz _ _ _ h⟩
 ·exact .inr h
theorem SqT.keep {K:PySem.W.Frag}{H H':Hp}{a:Addr}{xs:List V}(k:Kp H H')(h:SqT K H a xs):SqT K H' a xs:=by
 rcases h with (h | ⟨o,h⟩) | h
 ·exact .inl (.inl (k.tup _ _ h))
 ·exact .inl (.inr ⟨o,k.frz _ _ _ h⟩)
 ·exact .inr h
noncomputable def keyD:Key->PyData
 | .inl i=>.int i
 | .inr x=>.str x
mutual
noncomputable def RepD (K:PySem.W.Frag)(H:Hp):PyData->V->Prop
 | .none,v=>v=.non
 | .bool b,v=>v=.bl b
 | .int i,v=>v=.int i
 | .str x,v=>v=.str x
 | .list ds,v=>∃ a vs,v=.ref a/\SqF K H a vs/\RepA K H ds vs
 | .tuple ds,v=>∃ a vs,v=.ref a/\SqT K H a vs/\RepA K H ds vs
 | .dict kvs,v=>∃ a o l,v=.ref a/\H a=some (.frz o (.dK l))/\RepK K H kvs l
noncomputable def RepA (K:PySem.W.Frag)(H:Hp):List PyData->List V->Prop
 | [],vs=>vs=[]
 | d :: ds,vs=>∃ v r,vs=v :: r/\RepD K H d v/\RepA K H ds r
noncomputable def RepK (K:PySem.W.Frag)(H:Hp):List (PyData×PyData)->List (Key×V)->Prop
 | [],l=>l=[]
 | (k,d) :: ds,l=>∃ key v r,l=(key,v) :: r/\k=keyD key/\RepD K H d v/\RepK K H ds r
end
mutual
theorem RepD.keep {K:PySem.W.Frag}{H H':Hp}(k:Kp H H'):∀ {d:PyData} {v:V},RepD K H d v->RepD K H' d v
 | .none,v,h=>by simp only [RepD] at h ⊢; exact h
 | .bool b,v,h=>by simp only [RepD] at h ⊢; exact h
 | .int i,v,h=>by simp only [RepD] at h ⊢; exact h
 | .str x,v,h=>by simp only [RepD] at h ⊢; exact h
 | .list ds,v,h=>by
  simp only [RepD] at h ⊢
  obtain ⟨a,vs,e,s,r⟩:=h
  exact ⟨a,vs,e,s.keep k,RepA.keep k r⟩
 | .tuple ds,v,h=>by
  simp only [RepD] at h ⊢
  obtain ⟨a,vs,e,s,r⟩:=h
  exact ⟨a,vs,e,SqT.keep k s,RepA.keep k r⟩
 | .dict kvs,v,h=>by
  simp only [RepD] at h ⊢
  obtain ⟨a,o,l,e,s,r⟩:=h
  exact ⟨a,o,l,e,k.frz _ _ _ s,RepK.keep k r⟩
theorem RepA.keep {K:PySem.W.Frag}{H H':Hp}(k:Kp H H'):∀ {ds:List PyData} {vs:List V},RepA K H ds vs->RepA K H' ds vs
 | [],vs,h=>by simp only [RepA] at h ⊢; exact h
 | d :: ds,vs,h=>by
  simp only [RepA] at h ⊢
  obtain ⟨v,r,e,h1,h2⟩:=h
  exact ⟨v,r,e,RepD.keep k h1,RepA.keep k h2⟩
theorem RepK.keep {K:PySem.W.Frag}{H H':Hp}(k:Kp H H'):∀ {ds:List (PyData×PyData)} {l:List (Key×V)},RepK K H ds l->RepK K H' ds l
 | [],l,h=>by simp only [RepK] at h ⊢; exact h
 | (key,d) :: ds,l,h=>by
  simp only [RepK] at h ⊢
  obtain ⟨k',v,r,e,ek,h1,h2⟩:=h
  exact ⟨k',v,r,e,ek,RepD.keep k h1,RepK.keep k h2⟩
end
theorem RepA.length {K:PySem.W.Frag}{H:Hp}:∀ {ds:List PyData} {vs:List V},RepA K H ds vs->vs.length=ds.length
 | [],vs,h=>by simp only [RepA] at h; rw [h]; rfl
 | d :: ds,vs,h=>by
  simp only [RepA] at h
  obtain ⟨v,r,e,_,h2⟩:=h
  rw [e,List.length_cons,List.length_cons,RepA.length h2]
theorem RepA.get {K:PySem.W.Frag}{H:Hp}:∀ {ds:List PyData} {vs:List V} {i:Nat} {d:PyData},RepA K H ds vs->ds[i]? = some d->∃ v,vs[i]? = some v/\RepD K H d v
 | [],_,_,_,_,e=>by simp at e
 | d :: ds,vs,0,d',h,e=>by
  simp only [RepA] at h
  obtain ⟨v,r,ev,h1,_⟩:=h
  simp at e
  subst e
  exact ⟨v,by rw [ev]; rfl,h1⟩
 | d :: ds,vs,i+1,d',h,e=>by
  simp only [RepA] at h
  obtain ⟨v,r,ev,_,h2⟩:=h
  obtain ⟨v',e1,e2⟩:=RepA.get (i:=i) h2 (by simpa using e)
  exact ⟨v',by rw [ev]; simpa using e1,e2⟩
theorem RepA.get' {K:PySem.W.Frag}{H:Hp}{ds:List PyData}{vs:List V}{i:Nat}{v:V}(h:RepA K H ds vs)(e:vs[i]? = some v):∃ d,ds[i]? = some d/\RepD K H d v:=by
 have hi:i < ds.length:=by
  have:=(List.getElem?_eq_some_iff.mp e).1
  rw [h.length] at this
  exact this
 obtain ⟨v',e1,r⟩:=h.get (i:=i) (d:=ds[i]) (by simp [hi])
 rw [e] at e1
 cases e1
 exact ⟨ds[i],by simp [hi],r⟩
theorem RepA.ints {K:PySem.W.Frag}{H:Hp}:∀ (ns:List Int),RepA K H (ns.map PyData.int) (ns.map V.int)
 | []=>by simp [RepA]
 | n :: ns=>by
  simp only [List.map_cons,RepA]
  exact ⟨_,_,rfl,by simp [RepD],RepA.ints ns⟩
theorem RepA.append {K:PySem.W.Frag}{H:Hp}:∀ {ds es:List PyData} {vs us:List V},RepA K H ds vs->RepA K H es us->RepA K H (ds++es) (vs++us)
 | [],es,vs,us,h,q=>by simp only [RepA] at h; subst h; exact q
 | d :: ds,es,vs,us,h,q=>by
  simp only [RepA] at h
  obtain ⟨v,r,e,h1,h2⟩:=h
  subst e
  simp only [List.cons_append,RepA]
  exact ⟨v,r++us,rfl,h1,RepA.append h2 q⟩
theorem RepA.drop {K:PySem.W.Frag}{H:Hp}:∀ {ds:List PyData} {vs:List V} (n:Nat),RepA K H ds vs->RepA K H (ds.drop n) (vs.drop n)
 | ds,vs,0,h=>by simpa using h
 | [],vs,n+1,h=>by simp only [RepA] at h; subst h; simp [RepA]
 | d :: ds,vs,n+1,h=>by
  simp only [RepA] at h
  obtain ⟨v,r,e,_,h2⟩:=h
  subst e
  simpa using RepA.drop n h2
theorem RepA.take {K:PySem.W.Frag}{H:Hp}:∀ {ds:List PyData} {vs:List V} (n:Nat),RepA K H ds vs->RepA K H (ds.take n) (vs.take n)
 | ds,vs,0,h=>by simp [RepA]
 | [],vs,n+1,h=>by simp only [RepA] at h; subst h; simp [RepA]
 | d :: ds,vs,n+1,h=>by
  simp only [RepA] at h
  obtain ⟨v,r,e,h1,h2⟩:=h
  subst e
  simp only [List.take_succ_cons,RepA]
  exact ⟨v,_,rfl,h1,RepA.take n h2⟩
inductive W where
 | d (x:PyData)
 | m (a:Addr)
 | t (n:String)
inductive MO where
 | lst (ws:List W)
 | dic (kvs:List (Key×W))
 | dct (kvs:List (List Key×W))
 | fdic (kvs:List (Key×W))
 | ins (C:Addr) (fs:List (Str×W))
 | tup (ws:List W)
 | flst (ws:List W)
 | exc (C:Addr) (fs:List (Str×W))
 | code (q:Str) (pos:Pos)
noncomputable abbrev MH:=Addr->Option MO
noncomputable def updM (M:MH)(a:Addr)(o:MO):MH:=λ b=>if b=a then some o else M b
theorem updM_same {M:MH}{a:Addr}{o:MO}:updM M a o a=some o:=if_pos rfl
theorem updM_ne {M:MH}{a b:Addr}{o:MO}(h:b≠a):updM M a o b=M b:=if_neg h
theorem updM_updM {M:MH}{a:Addr}{o u:MO}:updM (updM M a o) a u=updM M a u:=by funext b; unfold updM; split <;> rfl
noncomputable abbrev DS:=List (Option W)
noncomputable def RepW (K:PySem.W.Frag)(H:Hp):W->V->Prop
 | .d x,v=>RepD K H x v
 | .m a,v=>v=.ref a
 | .t n,v=>v=.ty n
theorem RepW.keep {K:PySem.W.Frag}{H H':Hp}(k:Kp H H'):∀ {w:W} {v:V},RepW K H w v->RepW K H' w v
 | .d _,_,h=>RepD.keep k h
 | .m _,_,h=>h
 | .t _,_,h=>h
noncomputable def RepWs (K:PySem.W.Frag)(H:Hp):List W->List V->Prop:=Paired (RepW K H)
theorem RepWs.keep {K:PySem.W.Frag}{H H':Hp}(k:Kp H H'){ws:List W}{vs:List V}(h:RepWs K H ws vs):RepWs K H' ws vs:=Paired.mapP h λ _ _ r=>r.keep k
theorem RepWs.length {K:PySem.W.Frag}{H:Hp}{ws:List W}{vs:List V}(h:RepWs K H ws vs):ws.length=vs.length:=Paired.length h
theorem RepWs.get {K:PySem.W.Frag}{H:Hp}:∀ {ws:List W} {vs:List V} {i:Nat} {w:W},RepWs K H ws vs->ws[i]? = some w->∃ v,vs[i]? = some v/\RepW K H w v
 | _,_,_,_,.nil,e=>by simp at e
 | _,_,0,_,.cons r _,e=>by simp at e; subst e; exact ⟨_,rfl,r⟩
 | _,_,i+1,_,.cons _ t,e=>by
  obtain ⟨u,h1,h2⟩:=RepWs.get (i:=i) t (by simpa using e)
  exact ⟨u,by simpa using h1,h2⟩
theorem RepWs.set {K:PySem.W.Frag}{H:Hp}{w:W}{v:V}(r:RepW K H w v):∀ {ws:List W} {vs:List V} (i:Nat),RepWs K H ws vs->RepWs K H (ws.set i w) (vs.set i v)
 | _,_,_,.nil=>.nil
 | _,_,0,.cons _ t=>.cons r t
 | _,_,i+1,.cons q t=>.cons q (RepWs.set r i t)
theorem RepWs.append {K:PySem.W.Frag}{H:Hp}:∀ {ws ws':List W} {vs vs':List V},RepWs K H ws vs->RepWs K H ws' vs'->RepWs K H (ws++ws') (vs++vs')
 | _,_,_,_,.nil,s=>s
 | _,_,_,_,.cons r t,s=>.cons r (RepWs.append t s)
theorem RepWs.data {K:PySem.W.Frag}{H:Hp}:∀ {ds:List PyData} {vs:List V},RepWs K H (ds.map W.d) vs->RepA K H ds vs
 | [],_,h=>by cases h; simp [RepA]
 | d :: ds,_,h=>by
  cases h with
  | cons r t=>simp only [RepA]; exact ⟨_,_,rfl,r,RepWs.data t⟩
theorem RepA.ws {K:PySem.W.Frag}{H:Hp}:∀ {ds:List PyData} {vs:List V},RepA K H ds vs->RepWs K H (ds.map W.d) vs
 | [],vs,h=>by simp only [RepA] at h; subst h; exact .nil
 | d :: ds,vs,h=>by
  simp only [RepA] at h
  obtain ⟨v,r,e,h1,h2⟩:=h
  subst e
  exact .cons h1 (RepA.ws h2)
noncomputable def RepM (K:PySem.W.Frag)(H:Hp)(a:Addr):MO->Prop
 | .lst ws=>∃ vs,H a=some (.lst vs)/\RepWs K H ws vs
 | .dic kvs=>∃ l,H a=some (.dK l)/\Paired (λ (p:Key×W) (q:Key×V)=>p.1=q.1/\RepW K H p.2 q.2) kvs l
 | .fdic kvs=>∃ o l,H a=some (.frz o (.frz o (.dK l)))/\Paired (λ (p:Key×W) (q:Key×V)=>p.1=q.1/\RepW K H p.2 q.2) kvs l
 | .dct kvs=>∃ l,H a=some (.dT l)/\Paired (λ (p:List Key×W) (q:List Key×V)=>p.1=q.1/\RepW K H p.2 q.2) kvs l
 | .ins C fs=>∃ dx l,H a=some (.ins C dx l)/\Paired (λ (p:Str×W) (q:Str×V)=>p.1=q.1/\RepW K H p.2 q.2) fs l
 | .tup ws=>∃ vs,H a=some (.tup vs)/\RepWs K H ws vs
 | .flst ws=>∃ o vs,H a=some (.frz o (.frz o (.lst vs)))/\RepWs K H ws vs
 | .exc C fs=>∃ φ dct,H a=some (.ext φ)/\(∀ h,φ h->∃ vs,h.get? a=some { cls:=.ref C,dict:=dct,data:=.fields vs }) /\
   ((dct=none/\fs=[])\/∃ dx o l,dct=some dx/\H dx=some (.frz o (.xd l))/\Paired (λ (p:Str×W) (q:Str×V)=>p.1=q.1/\RepW K H p.2 q.2) fs l)
 | .code q pos=>∃ ps,H a=some (.tbl ps)/\TriplesOk ps.toList/\(codeAmong pos ps.toList=none\/∃ c o vs t,codeAmong pos ps.toList=some (.ref c)/\H c=some (.frz o (.own 0))/\o.data=.fields vs/\vs[1]? = some (.str q t))
noncomputable def MAbs (K:PySem.W.Frag)(H:Hp)(M:MH):Prop:=∀ a o,M a=some o->RepM K H a o
theorem RepM.is {K:PySem.W.Frag}{H:Hp}{a:Addr}{o:MO}(h:RepM K H a o):∃ u,H a=some u:=by
 cases o with
 | lst ws=>obtain ⟨vs,e,_⟩:=h; exact ⟨_,e⟩
 | dic kvs=>obtain ⟨l,e,_⟩:=h; exact ⟨_,e⟩
 | dct kvs=>obtain ⟨l,e,_⟩:=h; exact ⟨_,e⟩
 | fdic kvs=>obtain ⟨o,l,e,_⟩:=h; exact ⟨_,e⟩
 | ins C fs=>obtain ⟨dx,l,e,_⟩:=h; exact ⟨_,e⟩
 | tup ws=>obtain ⟨vs,e,_⟩:=h; exact ⟨_,e⟩
 | flst ws=>obtain ⟨o,vs,e,_⟩:=h; exact ⟨_,e⟩
 | exc C fs=>obtain ⟨φ,dct,e,_⟩:=h; exact ⟨_,e⟩
 | code q pos=>obtain ⟨ps,e,_⟩:=h; exact ⟨_,e⟩
theorem MAbs.free {K:PySem.W.Frag}{H:Hp}{M:MH}(h:MAbs K H M){p:Addr}(e:H p=none):M p=none:=by
 cases q:M p with
 | none=>rfl
 | some o =>
  obtain ⟨u,z⟩:=(h p o q).is
  rw [e] at z
  cases z
theorem RepM.keep {K:PySem.W.Frag}{H H':Hp}{a:Addr}{o:MO}(k:Kp H H')(s:∀ u,H a=some u->H' a=some u)(h:RepM K H a o):RepM K H' a o:=by
 cases o with
 | lst ws=>obtain ⟨vs,e,r⟩:=h; exact ⟨vs,s _ e,r.keep k⟩
 | dic kvs=>obtain ⟨l,e,r⟩:=h; exact ⟨l,s _ e,Paired.mapP r λ p q z=>⟨z.1,z.2.keep k⟩⟩
 | dct kvs=>obtain ⟨l,e,r⟩:=h; exact ⟨l,s _ e,Paired.mapP r λ p q z=>⟨z.1,z.2.keep k⟩⟩
 | fdic kvs=>obtain ⟨o,l,e,r⟩:=h; exact ⟨o,l,s _ e,Paired.mapP r λ p q z=>⟨z.1,z.2.keep k⟩⟩
 | ins C fs=>obtain ⟨dx,l,e,r⟩:=h; exact ⟨dx,l,s _ e,Paired.mapP r λ p q z=>⟨z.1,z.2.keep k⟩⟩
 | tup ws=>obtain ⟨vs,e,r⟩:=h; exact ⟨vs,s _ e,r.keep k⟩
 | flst ws=>obtain ⟨o,vs,e,r⟩:=h; exact ⟨o,vs,s _ e,r.keep k⟩
 | exc C fs =>
  obtain ⟨φ,dct,e,p,r⟩:=h
  refine ⟨φ,dct,s _ e,p,?_⟩
  rcases r with r | ⟨dx,o,l,e1,e2,r⟩
  ·exact .inl r
  ·exact .inr ⟨dx,o,l,e1,k.frz _ _ _ e2,Paired.mapP r λ p q z=>⟨z.1,z.2.keep k⟩⟩
 | code q pos =>
  obtain ⟨ps,e,ht,hc⟩:=h
  refine ⟨ps,s _ e,ht,?_⟩
  rcases hc with hc | ⟨c,o,vs,t,e1,e2,e3⟩
  ·exact .inl hc
  ·exact .inr ⟨c,o,vs,t,e1,k.frz _ _ _ e2,e3⟩
theorem MAbs.new {K:PySem.W.Frag}{H:Hp}{M:MH}{p:Addr}{o:HO}(h:MAbs K H M)(e:H p=none):MAbs K (upd H p o) M:=λ a mo q =>
 (h a mo q).keep (Kp.new e) λ u z=>by rw [upd_ne (ne_of_none z e)]; exact z
theorem MAbs.put {K:PySem.W.Frag}{H:Hp}{M:MH}{p:Addr}{o:HO}{mo:MO}(h:MAbs K H M)(k:Kp H (upd H p o))(r:RepM K (upd H p o) p mo):MAbs K (upd H p o) (updM M p mo):=λ a mo' q=>by
 by_cases e:a=p
 ·subst e
  rw [updM_same] at q
  cases q
  exact r
 ·rw [updM_ne e] at q
  exact (h a mo' q).keep k λ u z=>by rw [upd_ne e]; exact z
structure Abs (K:PySem.W.Frag)(H:Hp)(σ:St)(τ:DS)(M:MH):Prop where
 len:σ.length=τ.length
 val:∀ (i:Nat) w,τ[i]? = some (some w)->∃ v,σ[i]? = some (some v)/\RepW K H w v
 mem:MAbs K H M
theorem Abs.go {K:PySem.W.Frag}{H H':Hp}{σ:St}{τ:DS}{M M':MH}(h:Abs K H σ τ M)(k:Kp H H')(m:MAbs K H' M'):Abs K H' σ τ M' :=
 ⟨h.len,λ i w e=>let ⟨v,q,r⟩:=h.val i w e; ⟨v,q,r.keep k⟩,m⟩
theorem Abs.set {K:PySem.W.Frag}{H:Hp}{σ:St}{τ:DS}{M:MH}{w:W}{v:V}(h:Abs K H σ τ M)(i:Nat)(r:RepW K H w v):Abs K H (σ.set i (some v)) (τ.set i (some w)) M:=by
 refine ⟨by rw [List.length_set,List.length_set]; exact h.len,λ j w' e=>?_,h.mem⟩
 by_cases hj:i=j
 ·subst hj
  have hl:i < τ.length:=by
   have:=(List.getElem?_eq_some_iff.mp e).1
   rwa [List.length_set] at this
  rw [List.getElem?_set_self hl] at e
  cases e
  exact ⟨v,List.getElem?_set_self (by rw [h.len]; exact hl),r⟩
 ·rw [List.getElem?_set_ne hj] at e
  obtain ⟨v',q,r'⟩:=h.val j w' e
  exact ⟨v',by rw [List.getElem?_set_ne hj]; exact q,r'⟩
noncomputable abbrev QD:=W->MH->Prop
noncomputable abbrev TD:=DS->MH->QD->Prop
noncomputable abbrev TTd:=DS->MH->(Bool->MH->Prop)->Prop
noncomputable abbrev TAd:=DS->MH->(List W->MH->Prop)->Prop
structure Ed where
 nx:DS->MH->Prop
 rt:QD
 bk:DS->MH->Prop:=λ _ _=>False
 ct:DS->MH->Prop:=λ _ _=>False
noncomputable abbrev TSd:=Ed->DS->MH->Prop
noncomputable def up (K:PySem.W.Frag)(t:TD):TE:=λ σ H Q=>∃ τ M Qd,Abs K H σ τ M/\t τ M Qd/\∀ v H' w M',Kp H H'->RepW K H' w v->MAbs K H' M'->Qd w M'->Q v H'
noncomputable def upT (K:PySem.W.Frag)(t:TTd):TT:=λ σ H Q=>∃ τ M Qd,Abs K H σ τ M/\t τ M Qd/\∀ b H' M',Kp H H'->MAbs K H' M'->Qd b M'->Q b H'
noncomputable def upA (K:PySem.W.Frag)(t:TAd):TA:=λ σ H Q=>∃ τ M Qd,Abs K H σ τ M/\t τ M Qd/\∀ vs H' ws M',Kp H H'->RepWs K H' ws vs->MAbs K H' M'->Qd ws M'->Q vs H'
noncomputable def upS (K:PySem.W.Frag)(t:TSd):TS:=λ D σ H=>∃ τ M Dd,Abs K H σ τ M/\t Dd τ M /\
 (∀ σ' H' τ' M',Kp H H'->Abs K H' σ' τ' M'->Dd.nx τ' M'->D.nx σ' H')/\(∀ v H' w M',Kp H H'->RepW K H' w v->MAbs K H' M'->Dd.rt w M'->D.rt v H') /\
 (∀ σ' H' τ' M',Kp H H'->Abs K H' σ' τ' M'->Dd.bk τ' M'->D.bk σ' H')/\(∀ σ' H' τ' M',Kp H H'->Abs K H' σ' τ' M'->Dd.ct τ' M'->D.ct σ' H')
section
variable {X:Cx}
noncomputable abbrev PD (X:Cx)(e:Expr)(t:TD):Prop:=PE X e (up X.K t)
noncomputable abbrev PTd (X:Cx)(e:Expr)(t:TTd):Prop:=PT X e (upT X.K t)
noncomputable abbrev PAd (X:Cx)(es:List Expr)(t:TAd):Prop:=PA X es (upA X.K t)
noncomputable abbrev PSd (X:Cx)(st:Stmt)(t:TSd):Prop:=PS X st (upS X.K t)
noncomputable abbrev PSsd (X:Cx)(st:List Stmt)(t:TSd):Prop:=PSs X st (upS X.K t)
theorem pe_w {e:Expr}{t t':TE}(h:PE X e t)(k:∀ σ H Q,t' σ H Q->t σ H Q):PE X e t':=λ pins s σ H Q I q=>h pins s σ H Q I (k σ H Q q)
theorem pt_w {e:Expr}{t t':TT}(h:PT X e t)(k:∀ σ H Q,t' σ H Q->t σ H Q):PT X e t':=λ pins s σ H Q I q=>h pins s σ H Q I (k σ H Q q)
theorem pa_w {es:List Expr}{t t':TA}(h:PA X es t)(k:∀ σ H Q,t' σ H Q->t σ H Q):PA X es t':=λ pos pins s σ H Q I q=>h pos pins s σ H Q I (k σ H Q q)
theorem ps_w {st:Stmt}{t t':TS}(h:PS X st t)(k:∀ D σ H,t' D σ H->t D σ H):PS X st t':=λ pins s σ H D I q=>h pins s σ H D I (k D σ H q)
theorem pss_w {st:List Stmt}{t t':TS}(h:PSs X st t)(k:∀ D σ H,t' D σ H->t D σ H):PSs X st t':=λ pins s σ H D I q=>h pins s σ H D I (k D σ H q)
end
end D
namespace D
open PySem PySem.Spec PyProof.Rows L2
section
variable {X:Cx}{pos:Pos}{a b c e:Expr}{ta tb tc te:TD}{K:PySem.W.Frag}
noncomputable abbrev Kont (K:PySem.W.Frag)(H:Hp)(Qd:QD)(Q:VK):Prop:=∀ v H' w M',Kp H H'->RepW K H' w v->MAbs K H' M'->Qd w M'->Q v H'
theorem kgo {H H1:Hp}{Qd:QD}{Q:VK}(k:Kont K H Qd Q)(kp:Kp H H1):Kont K H1 Qd Q:=λ v H' w M' k2 r m q=>k v H' w M' (kp.trans k2) r m q
inductive DVar (i:Nat) (τ:DS) (M:MH) (Q:QD):Prop
 | mk (w:W) (z:τ[i]? = some (some w)) (q:Q w M):DVar i τ M Q
noncomputable def dVar (i:Nat)(τ:DS)(M:MH)(Q:QD):Prop:=DVar i τ M Q
theorem pd_var {i:Nat}(h:PE X e (tVar i)):PD X e (dVar i):=pe_w h λ σ H Q hq38=>by
 obtain ⟨τ,M,Qd,A,⟨w,e,q⟩,k⟩:=hq38
 obtain ⟨v,e',r⟩:=A.val i w e
 exact ⟨v,e',k v H w M (Kp.refl H) r A.mem q⟩
theorem dv (i:Nat){x:Str}{pos:Pos}(hN:X.N[i]? = some x:=by rfl)(hv:Vis X.env.scope x:=by first | exact Or.inl rfl | exact Or.inr (Or.inl rfl) | exact Or.inr (Or.inr rfl))(hd:(x == ("__debug__" : Str))=false:=by decide)
  (hcd:(x == ("__classdict__" : Str))=false:=by decide):PD X (.Name x pos) (dVar i):=pd_var (pe_var hN hv hd hcd)
noncomputable def dC (w:W)(_:DS)(M:MH)(Q:QD):Prop:=Q w M
theorem pd_c {v:V}{w:W}(h:PE X e (tC v))(r:∀ H,RepW X.K H w v):PD X e (dC w):=pe_w h λ σ H Q ⟨τ,M,Qd,A,q,k⟩=>k v H w M (Kp.refl H) (r H) A.mem q
theorem pd_int {i j pos}:PD X (.Constant (.int i) j pos) (dC (.d (.int i))):=pd_c pe_int λ H=>by simp [RepW,RepD]
theorem pd_bl {b j pos}:PD X (.Constant (.bool b) j pos) (dC (.d (.bool b))):=pd_c pe_bl λ H=>by simp [RepW,RepD]
theorem pd_non {j pos}:PD X (.Constant .none j pos) (dC (.d .none)):=pd_c pe_non λ H=>by simp [RepW,RepD]
theorem pd_str {x j pos}:PD X (.Constant (.str x) j pos) (dC (.d (.str x))):=pd_c pe_str λ H=>by simp [RepW,RepD]
theorem pd_globI {x:Str}{i:Int}{t:Tok}{pos:Pos}(hg:Gl X x)(hm:X.mg x=some (.int i t))(hd:(x == ("__debug__" : Str))=false:=by decide):PD X (.Name x pos) (dC (.d (.int i))):=pd_c (pe_glob (v:=.int i) hg hm ⟨t,rfl⟩ hd) λ H=>by simp [RepW,RepD]
theorem pd_type {x:Str}{n:String}{pos:Pos}(hg:Gl X x)(hm:X.mg x=none)(hv:bootBuiltins x=some (.type n))(hn:x ≠ "__name__" := by decide)(hd:(x == ("__debug__" : Str))=false:=by decide):PD X (.Name x pos) (dC (.t n)) :=
 pd_c (pe_bltn (v:=.ty n) hg hm hv rfl hn hd) λ H=>by simp [RepW]
noncomputable def OpD (K:PySem.W.Frag)(r:R2)(rd:W->W->MH->QD->Prop):Prop:=∀ x y H w w' M Qd Q,RepW K H w x->RepW K H w' y->MAbs K H M->rd w w' M Qd->Kont K H Qd Q->r x y H Q
noncomputable def dOp (rd:W->W->MH->QD->Prop)(ta tb:TD)(τ:DS)(M:MH)(Q:QD):Prop:=ta τ M λ w M1=>tb τ M1 λ w' M2=>rd w w' M2 Q
theorem imp_op {r:R2}{rd:W->W->MH->QD->Prop}(hd:OpD K r rd){σ:St}{H:Hp}{Q:VK}(h:up K (dOp rd ta tb) σ H Q):tOp r (up K ta) (up K tb) σ H Q:=by
 obtain ⟨τ,M,Qd,A,h,k⟩:=h
 refine ⟨τ,M,_,A,h,λ x H1 w M1 kp r1 m1 q1=>⟨τ,M1,_,A.go kp m1,q1,λ y H2 w' M2 kp2 r2 m2 q2=>?_⟩⟩
 exact hd x y H2 w w' M2 Qd Q (r1.keep kp2) r2 m2 q2 (kgo k (kp.trans kp2))
theorem pd_op {op:Operator}{r:R2}{rd:W->W->MH->QD->Prop}(ho:OpR X (binaryOp op) r)(hd:OpD X.K r rd)(ha:PD X a ta)(hb:PD X b tb):PD X (.BinOp a op b pos) (dOp rd ta tb):=pe_w (pe_op ho ha hb) λ σ H Q h=>imp_op hd h
theorem pd_cmp {op:CmpOp}{r:R2}{rd:W->W->MH->QD->Prop}(ho:OpR X (compareOp op) r)(hd:OpD X.K r rd)(ha:PD X a ta)(hb:PD X b tb)(hm:behindInMarks op b=false:=by first | exact nobehind _ (by decide) (by decide) | rfl) :
  PD X (.Compare a [op] [b] pos) (dOp rd ta tb):=pe_w (pe_cmpR ho ha hb hm) λ σ H Q h=>imp_op hd h
theorem pd_ix {r:R2}{rd:W->W->MH->QD->Prop}(hr:IxR X r)(hd:OpD X.K r rd)(ha:PD X a ta)(hb:PD X b tb)(hs:PlainIx b:=by intro _ _; rfl):PD X (.Subscript a b pos) (dOp rd ta tb):=pe_w (pe_ix hr ha hb hs) λ σ H Q h=>imp_op hd h
noncomputable def dTest (t:TD)(τ:DS)(M:MH)(Q:Bool->MH->Prop):Prop:=t τ M λ w M1=>∃ k,w=.d (.bool k)/\Q k M1
theorem imp_test {t':TE}(hi:∀ σ H Q,up K ta σ H Q->t' σ H Q){σ:St}{H:Hp}{Q:Bool->Hp->Prop}(h:upT K (dTest ta) σ H Q):tTest t' σ H Q:=by
 obtain ⟨τ,M,Qd,A,h,k⟩:=h
 refine hi σ H _ ⟨τ,M,_,A,h,λ v H' w M' kp r m hq39=>?_⟩
 obtain ⟨b,e,q⟩:=hq39
 subst e
 simp only [RepW,RepD] at r
 exact ⟨b,r,k b H' M' kp m q⟩
theorem ptd_cmp {op:CmpOp}{r:R2}{rd:W->W->MH->QD->Prop}(ho:OpR X (compareOp op) r)(hd:OpD X.K r rd)(ha:PD X a ta)(hb:PD X b tb)(hm:behindInMarks op b=false:=by first | exact nobehind _ (by decide) (by decide) | rfl) :
  PTd X (.Compare a [op] [b] pos) (dTest (dOp rd ta tb)):=pt_w (pt_cmpR ho ha hb hm) λ σ H Q h=>imp_test (λ _ _ _ q=>imp_op hd q) h
theorem ptd_val (h:PD X e te)(he:∀ whole,isTrue e X.env whole=(do let v <- whole; standAt e.pos; holding [v] (truthy v)):=by intro _; rfl):PTd X e (dTest te):=pt_w (pt_val h he) λ σ H Q q=>imp_test (λ _ _ _ z=>z) q
noncomputable def dChain (r r':W->W->MH->QD->Prop)(ta tb tc:TD)(τ:DS)(M:MH)(Q:QD):Prop:=ta τ M λ x M1=>tb τ M1 λ y M2=>r x y M2 λ z M3=>∃ k,z=.d (.bool k)/\(if k=true then tc τ M3 λ w' M4=>r' y w' M4 Q else Q (.d (.bool false)) M3)
theorem imp_chain {r r':R2}{rd rd':W->W->MH->QD->Prop}(hd:OpD K r rd)(hd':OpD K r' rd'){σ:St}{H:Hp}{Q:VK}(h:up K (dChain rd rd' ta tb tc) σ H Q):tChain r r' (up K ta) (up K tb) (up K tc) σ H Q:=by
 obtain ⟨τ,M,Qd,A,h,k⟩:=h
 refine ⟨τ,M,_,A,h,λ x H1 w M1 kp r1 m1 q1=>⟨τ,M1,_,A.go kp m1,q1,λ y H2 w' M2 kp2 r2 m2 q2=>?_⟩⟩
 have kq:=kp.trans kp2
 refine hd x y H2 w w' M2 _ _ (r1.keep kp2) r2 m2 q2 λ v H3 w'' M3 kp3 r3 m3 hq40=>?_
 obtain ⟨b,e,q3⟩:=hq40
 subst e
 simp only [RepW,RepD] at r3
 refine ⟨b,r3,?_⟩
 have kr:=kq.trans kp3
 cases b with
 | false =>
  rw [if_neg Bool.false_ne_true] at q3 ⊢
  exact k _ H3 _ M3 kr (by simp [RepW,RepD]) m3 q3
 | true =>
  rw [if_pos rfl] at q3 ⊢
  exact ⟨τ,M3,_,A.go kr m3,q3,λ u H4 w4 M4 kp4 r4 m4 q4=>hd' y u H4 w' w4 M4 Qd Q (r2.keep (kp3.trans kp4)) r4 m4 q4 (kgo k (kr.trans kp4))⟩
theorem pd_chain {op op':CmpOp}{r r':R2}{rd rd':W->W->MH->QD->Prop}(ho:OpR X (compareOp op) r)(hd:OpD X.K r rd)(ho':OpR X (compareOp op') r')(hd':OpD X.K r' rd')(ha:PD X a ta)(hb:PD X b tb)(hc:PD X c tc)
  (hm:lastMarks [op,op'] [b,c]=false:=by with_unfolding_all rfl):PD X (.Compare a [op,op'] [b,c] pos) (dChain rd rd' ta tb tc):=pe_w (pe_chain ho ho' ha hb hc hm) λ σ H Q h=>imp_chain hd hd' h
theorem ptd_chain {op op':CmpOp}{r r':R2}{rd rd':W->W->MH->QD->Prop}(ho:OpR X (compareOp op) r)(hd:OpD X.K r rd)(ho':OpR X (compareOp op') r')(hd':OpD X.K r' rd')(ha:PD X a ta)(hb:PD X b tb)(hc:PD X c tc)
  (hm:lastMarks [op,op'] [b,c]=false:=by with_unfolding_all rfl):PTd X (.Compare a [op,op'] [b,c] pos) (dTest (dChain rd rd' ta tb tc)):=pt_w (pt_chain ho ho' ha hb hc hm) λ σ H Q h=>imp_test (λ _ _ _ q=>imp_chain hd hd' q) h
noncomputable def UnD (K:PySem.W.Frag)(r:V->Hp->VK->Prop)(rd:W->MH->QD->Prop):Prop:=∀ x H w M Qd Q,RepW K H w x->MAbs K H M->rd w M Qd->Kont K H Qd Q->r x H Q
noncomputable def dUn (rd:W->MH->QD->Prop)(ta:TD)(τ:DS)(M:MH)(Q:QD):Prop:=ta τ M λ w M1=>rd w M1 Q
theorem pd_un {op:UnaryOp}{r:V->Hp->VK->Prop}{rd:W->MH->QD->Prop}(ho:UnR X (unaryOp op) r)(hd:UnD X.K r rd)(ha:PD X a ta):PD X (.UnaryOp op a pos) (dUn rd ta):=pe_w (pe_un ho ha) λ σ H Q h=>by
 obtain ⟨τ,M,Qd,A,h,k⟩:=h
 exact ⟨τ,M,_,A,h,λ x H1 w M1 kp r1 m1 q1=>hd x H1 w M1 Qd Q r1 m1 q1 (kgo k kp)⟩
variable {tA tB:TTd}{rest:List Expr}
noncomputable def dAnd (t u:TTd)(τ:DS)(M:MH)(Q:Bool->MH->Prop):Prop:=t τ M λ k M1=>if k=true then u τ M1 Q else Q false M1
noncomputable def dOr (t u:TTd)(τ:DS)(M:MH)(Q:Bool->MH->Prop):Prop:=t τ M λ k M1=>if k=true then Q true M1 else u τ M1 Q
noncomputable def dNot (t:TTd)(τ:DS)(M:MH)(Q:Bool->MH->Prop):Prop:=t τ M λ k M1=>Q (!k) M1
noncomputable abbrev PWd (X:Cx)(e:Expr)(t:TTd):Prop:=PW X e (upT X.K t)
theorem pw_w {e:Expr}{t t':TT}(h:PW X e t)(k:∀ σ H Q,t' σ H Q->t σ H Q):PW X e t':=λ w pins s σ H Q I q=>h w pins s σ H Q I (k σ H Q q)
theorem pwd_and1 (ha:PTd X a tA):PWd X (.BoolOp .And [a] pos) tA:=pw_and1 ha
theorem pwd_or1 (ha:PTd X a tA):PWd X (.BoolOp .Or [a] pos) tA:=pw_or1 ha
theorem pwd_and (ha:PTd X a tA)(hb:PWd X (.BoolOp .And (b :: rest) pos) tB):PWd X (.BoolOp .And (a :: b :: rest) pos) (dAnd tA tB):=pw_w (pw_and ha hb) λ σ H Q h=>by
 obtain ⟨τ,M,Qd,A,h,k⟩:=h
 refine ⟨τ,M,_,A,h,λ b H1 M1 kp m1 q1=>?_⟩
 cases b with
 | true=>rw [if_pos rfl] at q1 ⊢; exact ⟨τ,M1,Qd,A.go kp m1,q1,λ b H2 M2 kp2 m2 q2=>k b H2 M2 (kp.trans kp2) m2 q2⟩
 | false=>rw [if_neg Bool.false_ne_true] at q1 ⊢; exact k _ H1 M1 kp m1 q1
theorem pwd_or (ha:PTd X a tA)(hb:PWd X (.BoolOp .Or (b :: rest) pos) tB):PWd X (.BoolOp .Or (a :: b :: rest) pos) (dOr tA tB):=pw_w (pw_or ha hb) λ σ H Q h=>by
 obtain ⟨τ,M,Qd,A,h,k⟩:=h
 refine ⟨τ,M,_,A,h,λ b H1 M1 kp m1 q1=>?_⟩
 cases b with
 | false=>rw [if_neg Bool.false_ne_true] at q1 ⊢; exact ⟨τ,M1,Qd,A.go kp m1,q1,λ b H2 M2 kp2 m2 q2=>k b H2 M2 (kp.trans kp2) m2 q2⟩
 | true=>rw [if_pos rfl] at q1 ⊢; exact k _ H1 M1 kp m1 q1
theorem ptd_w (h:PWd X e tA):PTd X e tA:=h.pt
theorem ptd_not (ha:PTd X a tA):PTd X (.UnaryOp .Not a pos) (dNot tA):=pt_w (pt_not ha) λ σ H Q h=>by
 obtain ⟨τ,M,Qd,A,h,k⟩:=h
 exact ⟨τ,M,_,A,h,λ b H1 M1 kp m1 q1=>k (!b) H1 M1 kp m1 q1⟩
noncomputable def dAndV (ta tb:TD)(τ:DS)(M:MH)(Q:QD):Prop:=ta τ M λ x M1=>∃ k,x=.d (.bool k)/\if k=true then tb τ M1 Q else Q (.d (.bool false)) M1
noncomputable def dNotV (ta:TD)(τ:DS)(M:MH)(Q:QD):Prop:=ta τ M λ x M1=>∃ k,x=.d (.bool k)/\Q (.d (.bool (!k))) M1
theorem pd_one {op}(h:PD X a ta):PD X (.BoolOp op [a] pos) ta:=pe_one h
theorem pd_and (ha:PD X a ta)(hb:PD X (.BoolOp .And (b :: rest) pos) tb):PD X (.BoolOp .And (a :: b :: rest) pos) (dAndV ta tb):=pe_w (pe_and ha hb) λ σ H Q h=>by
 obtain ⟨τ,M,Qd,A,h,k⟩:=h
 refine ⟨τ,M,_,A,h,λ x H1 w M1 kp r1 m1 hq41=>?_⟩
 obtain ⟨b,e,q1⟩:=hq41
 subst e
 simp only [RepW,RepD] at r1
 refine ⟨b,r1,?_⟩
 cases b with
 | true=>rw [if_pos rfl] at q1 ⊢; exact ⟨τ,M1,Qd,A.go kp m1,q1,kgo k kp⟩
 | false=>rw [if_neg Bool.false_ne_true] at q1 ⊢; exact k _ H1 _ M1 kp (by simp [RepW,RepD]) m1 q1
theorem pd_not (ha:PD X a ta):PD X (.UnaryOp .Not a pos) (dNotV ta):=pe_w (pe_not ha) λ σ H Q h=>by
 obtain ⟨τ,M,Qd,A,h,k⟩:=h
 refine ⟨τ,M,_,A,h,λ x H1 w M1 kp r1 m1 hq42=>?_⟩
 obtain ⟨b,e,q1⟩:=hq42
 subst e
 simp only [RepW,RepD] at r1
 exact ⟨b,r1,k _ H1 _ M1 kp (by simp [RepW,RepD]) m1 q1⟩
noncomputable def dIfE (t:TTd)(ta tb:TD)(τ:DS)(M:MH)(Q:QD):Prop:=t τ M λ k M1=>if k=true then ta τ M1 Q else tb τ M1 Q
theorem pd_ifExp {c:Expr}(hc:PTd X c tA)(ha:PD X a ta)(hb:PD X b tb):PD X (.IfExp c a b pos) (dIfE tA ta tb):=pe_w (pe_ifExp hc ha hb) λ σ H Q h=>by
 obtain ⟨τ,M,Qd,A,h,k⟩:=h
 refine ⟨τ,M,_,A,h,λ b H1 M1 kp m1 q1=>?_⟩
 cases b with
 | true=>rw [if_pos rfl] at q1 ⊢; exact ⟨τ,M1,Qd,A.go kp m1,q1,kgo k kp⟩
 | false=>rw [if_neg Bool.false_ne_true] at q1 ⊢; exact ⟨τ,M1,Qd,A.go kp m1,q1,kgo k kp⟩
variable {es:List Expr}{t:TAd}
noncomputable def dNil (_:DS)(M:MH)(Q:List W->MH->Prop):Prop:=Q [] M
noncomputable def dCons (ta:TD)(tr:TAd)(τ:DS)(M:MH)(Q:List W->MH->Prop):Prop:=ta τ M λ w M1=>tr τ M1 λ ws M2=>Q (w :: ws) M2
theorem pad_nil:PAd X [] dNil:=pa_w pa_nil λ σ H Q ⟨τ,M,Qd,A,h,k⟩=>k [] H [] M (Kp.refl H) .nil A.mem h
theorem pad_cons (ha:PD X e te)(hr:PAd X es t)(hs:starEach (e :: es) X.env=(false,eval e X.env) :: starEach es X.env:=by rfl):PAd X (e :: es) (dCons te t):=pa_w (pa_cons ha hr hs) λ σ H Q h=>by
 obtain ⟨τ,M,Qd,A,h,k⟩:=h
 exact ⟨τ,M,_,A,h,λ x H1 w M1 kp r1 m1 q1=>⟨τ,M1,_,A.go kp m1,q1,λ xs H2 ws M2 kp2 r2 m2 q2=>k _ H2 _ M2 (kp.trans kp2) (.cons (r1.keep kp2) r2) m2 q2⟩⟩
noncomputable def datas:List W->Option (List PyData)
 | []=>some []
 | .d x :: r=>(datas r).map (x :: ·)
 | _ :: _=>none
theorem datas_eq:∀ {ws:List W} {ds:List PyData},datas ws=some ds->ws=ds.map W.d
 | [],ds,h=>by simp only [datas] at h; cases h; rfl
 | .d x :: r,ds,h=>by
  simp only [datas] at h
  cases q:datas r with
  | none=>rw [q] at h; cases h
  | some l=>rw [q] at h; cases h; rw [datas_eq q]; rfl
 | .m _ :: _,ds,h=>by simp [datas] at h
 | .t _ :: _,ds,h=>by simp [datas] at h
noncomputable def dLst (t:TAd)(τ:DS)(M:MH)(Q:QD):Prop:=t τ M λ ws M1=>∃ ds,datas ws=some ds/\ds.length<=sizeLine/\Q (.d (.list ds)) M1
theorem frz_new {H:Hp}{p:Addr}{o:Obj}{vs:List V}{ds:List PyData}(hp:H p=none)(r:RepA K H ds vs):RepD K (upd H p (.frz o (.lst vs))) (.list ds) (.ref p):=by
 simp only [RepD]
 exact ⟨p,vs,rfl,.inl ⟨o,upd_same⟩,r.keep (Kp.new hp)⟩
theorem imp_frz {H:Hp}{vs:List V}{ds:List PyData}{M:MH}{Qd:QD}{Q:VK}{p:Addr}(hp:H p=none)(r:RepA K H ds vs)(m:MAbs K H M)(q:Qd (.d (.list ds)) M)(k:Kont K H Qd Q) :
  ∃ p' u,V.ref p=.ref p'/\(upd H p (.lst vs)) p'=some u/\Fz u/\∀ o,Q (.ref p) (upd (upd H p (.lst vs)) p' (.frz o u)):=by
 refine ⟨p,_,rfl,upd_same,trivial,λ o=>?_⟩
 rw [upd_upd]
 exact k _ _ (.d (.list ds)) M (Kp.new hp) (frz_new hp r) (m.new hp) q
theorem pd_lst (h:PAd X es t):PD X (.List es pos) (dLst t):=pe_w (pe_frz (pe_lst h)) λ σ H Q h=>by
 obtain ⟨τ,M,Qd,A,h,k⟩:=h
 refine ⟨τ,M,_,A,h,λ vs H1 ws M1 kp r1 m1 hq43=>?_⟩
 obtain ⟨ds,e,hz,q1⟩:=hq43
 have e':=datas_eq e
 subst e'
 have rA:=r1.data
 exact ⟨by rw [rA.length]; exact hz,λ p hp=>imp_frz hp rA m1 q1 (kgo k kp)⟩
noncomputable def dLstM (t:TAd)(τ:DS)(M:MH)(Q:QD):Prop:=t τ M λ ws M1=>ws.length<=sizeLine/\∀ p,M1 p=none->Q (.m p) (updM M1 p (.lst ws))
theorem pd_lstM (h:PAd X es t):PD X (.List es pos) (dLstM t):=pe_w (pe_lst h) λ σ H Q h=>by
 obtain ⟨τ,M,Qd,A,h,k⟩:=h
 refine ⟨τ,M,_,A,h,λ vs H1 ws M1 kp r1 m1 ⟨hz,q1⟩=>⟨by rw [<- r1.length]; exact hz,λ p hp=>?_⟩⟩
 exact k _ _ (.m p) (updM M1 p (.lst ws)) (kp.trans (Kp.new hp)) rfl (m1.put (mo:=.lst ws) (Kp.new hp) ⟨vs,upd_same,r1.keep (Kp.new hp)⟩) (q1 p (m1.free hp))
noncomputable def dTup (t:TAd)(τ:DS)(M:MH)(Q:QD):Prop:=t τ M λ ws M1=>∃ ds,datas ws=some ds/\ds.length<=sizeLine/\Q (.d (.tuple ds)) M1
theorem pd_tup {x1}(h:PAd X es t):PD X (.Tuple es x1 pos) (dTup t):=pe_w (pe_tup h) λ σ H Q h=>by
 obtain ⟨τ,M,Qd,A,h,k⟩:=h
 refine ⟨τ,M,_,A,h,λ vs H1 ws M1 kp r1 m1 hq44=>?_⟩
 obtain ⟨ds,e,hz,q1⟩:=hq44
 have e':=datas_eq e
 subst e'
 have rA:=r1.data
 refine ⟨by rw [rA.length]; exact hz,λ p hp=>k _ _ (.d (.tuple ds)) M1 (kp.trans (Kp.new hp)) ?_ (m1.new hp) q1⟩
 simp only [RepW,RepD]
 exact ⟨p,vs,rfl,.inl (.inl upd_same),rA.keep (Kp.new hp)⟩
variable {x:Str}{p:Pos}{id T:String}{r:List V->Hp->VK->Prop}{rd:List W->MH->QD->Prop}
noncomputable def CallD (K:PySem.W.Frag)(r:List V->Hp->VK->Prop)(rd:List W->MH->QD->Prop):Prop:=∀ vs H ws M Qd Q,RepWs K H ws vs->MAbs K H M->rd ws M Qd->Kont K H Qd Q->r vs H Q
noncomputable def dCB (rd:List W->MH->QD->Prop)(t:TAd)(τ:DS)(M:MH)(Q:QD):Prop:=t τ M λ ws M1=>rd ws M1 Q
theorem imp_cb (hd:CallD K r rd){σ:St}{H:Hp}{Q:VK}(h:up K (dCB rd t) σ H Q):tCB r (upA K t) σ H Q:=by
 obtain ⟨τ,M,Qd,A,h,k⟩:=h
 exact ⟨τ,M,_,A,h,λ vs H1 ws M1 kp r1 m1 q1=>hd vs H1 ws M1 Qd Q r1 m1 q1 (kgo k kp)⟩
theorem pd_callB (hc:CallR X (.builtin id) r)(hd:CallD X.K r rd)(hg:Gl X x)(hm:X.mg x=none)(hv:bootBuiltins x=some (.builtin id))(ha:PAd X (e :: es) t)(hn:x ≠ "__name__" := by decide)(hdb:(x == ("__debug__" : Str))=false:=by decide)
  (he:starEach (e :: es) X.env=(false,eval e X.env) :: starEach es X.env:=by rfl)(hpl:(backTo pos (starEach es X.env)).any (·.1)=false:=by rfl):PD X (.Call (.Name x p) (e :: es) [] pos) (dCB rd t) :=
 pe_w (pe_callB hc hg hm hv ha hn hdb he hpl) λ σ H Q h=>imp_cb hd h
theorem pd_callTy (hc:CallR X (.type T) r)(hd:CallD X.K r rd)(hg:Gl X x)(hm:X.mg x=none)(hv:bootBuiltins x=some (.type T))(ha:PAd X (e :: es) t)(hn:x ≠ "__name__" := by decide)(hdb:(x == ("__debug__" : Str))=false:=by decide)
  (he:starEach (e :: es) X.env=(false,eval e X.env) :: starEach es X.env:=by rfl)(hpl:(backTo pos (starEach es X.env)).any (·.1)=false:=by rfl):PD X (.Call (.Name x p) (e :: es) [] pos) (dCB rd t) :=
 pe_w (pe_callTy hc hg hm hv ha hn hdb he hpl) λ σ H Q h=>imp_cb hd h
end
section
variable {X:Cx}{pos:Pos}{st:Stmt}{sts:List Stmt}{t u:TSd}{e:Expr}{te:TD}{K:PySem.W.Frag}
noncomputable def dNext (D:Ed)(τ:DS)(M:MH):Prop:=D.nx τ M
noncomputable def dSeq (t u:TSd)(D:Ed)(τ:DS)(M:MH):Prop:=t { D with nx:=u D } τ M
theorem pssd_nil:PSsd X [] dNext:=pss_w pss_nil λ D σ H ⟨τ,M,Dd,A,h,k1,_⟩=>k1 σ H τ M (Kp.refl H) A h
theorem pssd_cons (h1:PSd X st t)(h2:PSsd X sts u):PSsd X (st :: sts) (dSeq t u):=pss_w (pss_cons h1 h2) λ D σ H ⟨τ,M,Dd,A,h,k1,k2,k3,k4⟩ =>
 ⟨τ,M,{ Dd with nx:=u Dd },A,h,λ σ' H' τ' M' kp A' q=>⟨τ',M',Dd,A',q,λ σ2 H2 τ2 M2 kp2=>k1 σ2 H2 τ2 M2 (kp.trans kp2),λ v H2 w M2 kp2=>k2 v H2 w M2 (kp.trans kp2),λ σ2 H2 τ2 M2 kp2=>k3 σ2 H2 τ2 M2 (kp.trans kp2),λ σ2 H2 τ2 M2 kp2=>k4 σ2 H2 τ2 M2 (kp.trans kp2)⟩,k2,k3,k4⟩
theorem pssd_one (h1:PSd X st t):PSsd X [st] t:=pss_one h1
noncomputable def dDrop (te:TD)(D:Ed)(τ:DS)(M:MH):Prop:=te τ M λ _ M1=>D.nx τ M1
theorem psd_expr (he:PD X e te)(hs:swapsWith e none pos.line X.env=pure false:=by rfl):PSd X (.Expr e pos) (dDrop te):=ps_w (ps_expr he hs) λ D σ H ⟨τ,M,Dd,A,h,k1,_⟩ =>
 ⟨τ,M,_,A,h,λ v H1 w M1 kp r m q=>k1 σ H1 τ M1 kp (A.go kp m) q⟩
noncomputable def dRet (te:TD)(D:Ed)(τ:DS)(M:MH):Prop:=te τ M D.rt
theorem psd_ret (he:PD X e te):PSd X (.Return (some e) pos) (dRet te):=ps_w (ps_ret he) λ D σ H ⟨τ,M,Dd,A,h,k1,k2,_⟩=>⟨τ,M,_,A,h,λ v H1 w M1 kp r m q=>k2 v H1 w M1 kp r m q⟩
noncomputable def dIf (c:TTd)(t u:TSd)(D:Ed)(τ:DS)(M:MH):Prop:=c τ M λ b M1=>if b=true then t D τ M1 else u D τ M1
theorem psd_if {c:Expr}{a b:List Stmt}{tc:TTd}(hc:PTd X c tc)(ha:PSsd X a t)(hb:PSsd X b u):PSd X (.If c a b pos) (dIf tc t u):=ps_w (ps_if hc ha hb) λ D σ H hq45=>by
 obtain ⟨τ,M,Dd,A,h,k1,k2,k3,k4⟩:=hq45
 refine ⟨τ,M,_,A,h,λ b H1 M1 kp m q=>?_⟩
 have go:∀ {t':TSd},t' Dd τ M1->upS X.K t' D σ H1:=λ {t'} q=>⟨τ,M1,Dd,A.go kp m,q,λ σ2 H2 τ2 M2 kp2=>k1 σ2 H2 τ2 M2 (kp.trans kp2),λ v H2 w M2 kp2=>k2 v H2 w M2 (kp.trans kp2),λ σ2 H2 τ2 M2 kp2=>k3 σ2 H2 τ2 M2 (kp.trans kp2),λ σ2 H2 τ2 M2 kp2=>k4 σ2 H2 τ2 M2 (kp.trans kp2)⟩
 cases b with
 | true=>rw [if_pos rfl] at q; show (if true=true then upS X.K t D σ H1 else upS X.K u D σ H1); rw [if_pos rfl]; exact go q
 | false=>rw [if_neg Bool.false_ne_true] at q; show (if false=true then upS X.K t D σ H1 else upS X.K u D σ H1); rw [if_neg Bool.false_ne_true]; exact go q
noncomputable abbrev TGd:=W->DS->MH->(DS->MH->Prop)->Prop
noncomputable def upG (K:PySem.W.Frag)(g:TGd):TG:=λ v σ H Q=>∃ w τ M Qd,RepW K H w v/\Abs K H σ τ M/\g w τ M Qd/\∀ σ' H' τ' M',Kp H H'->Abs K H' σ' τ' M'->Qd τ' M'->Q σ' H'
noncomputable abbrev PGd (X:Cx)(e:Expr)(g:TGd):Prop:=PG X e (upG X.K g)
theorem pg_w {e:Expr}{g g':TG}(h:PG X e g)(k:∀ v σ H Q,g' v σ H Q->g v σ H Q):PG X e g':=λ pins s σ H v u Q I r q=>h pins s σ H v u Q I r (k v σ H Q q)
noncomputable def gN (i:Nat)(w:W)(τ:DS)(M:MH)(Q:DS->MH->Prop):Prop:=Q (τ.set i (some w)) M
theorem pgd_name {i:Nat}{x:Str}(hN:X.N.Nodup)(hi:X.N[i]? = some x)(hx:Loc X.env.scope x)(hf:X.fn x=true\/X.env.scope.names.lookup x=some .local:=by first | exact .inl rfl | exact .inr rfl | assumption):PGd X (.Name x pos) (gN i) :=
 pg_w (pg_name hN hi hx hf) λ v σ H Q ⟨w,τ,M,Qd,r,A,h,k⟩=>k _ H _ M (Kp.refl H) (A.set i r) h
noncomputable def dAsg (te:TD)(g:TGd)(D:Ed)(τ:DS)(M:MH):Prop:=te τ M λ w M1=>g w τ M1 D.nx
theorem imp_asg {g:TGd}{D:Ends}{σ:St}{H:Hp}(h:upS K (dAsg te g) D σ H):tAsg (up K te) (upG K g) D σ H:=by
 obtain ⟨τ,M,Dd,A,h,k1,_⟩:=h
 exact ⟨τ,M,_,A,h,λ v H1 w M1 kp r m q=>⟨w,τ,M1,_,r,A.go kp m,q,λ σ2 H2 τ2 M2 kp2 A2 q2=>k1 σ2 H2 τ2 M2 (kp.trans kp2) A2 q2⟩⟩
theorem psd_asg {tg:Expr}{g:TGd}(he:PD X e te)(hg:PGd X tg g)(hs:swapsWithSole [tg] e pos.line X.env=pure false:=by rfl)(hw:swappedStores [tg] e X.env=pure none:=by rfl)
  (h1:(assignEach [tg] X.env).map (·.2)=[assign tg X.env]:=by rfl):PSd X (.Assign [tg] e pos) (dAsg te g):=ps_w (ps_asg he hg hs hw h1) λ D σ H h=>imp_asg h
theorem psd_set {i:Nat}{x:Str}{pos':Pos}(hN:X.N.Nodup)(hi:X.N[i]? = some x)(hx:Loc X.env.scope x)(he:PD X e te)(hs:swapsWith e (some (.Name x pos')) pos.line X.env=pure false:=by rfl)(hf:X.fn x=true\/X.env.scope.names.lookup x=some .local:=by first | exact .inl rfl | exact .inr rfl | assumption) :
  PSd X (.Assign [.Name x pos'] e pos) (dAsg te (gN i)):=ps_w (ps_set hN hi hx he hs hf) λ D σ H ⟨τ,M,Dd,A,h,k1,_⟩ =>
 ⟨τ,M,_,A,h,λ v H1 w M1 kp r m q=>k1 _ H1 _ M1 kp ((A.go kp m).set i r) q⟩
end
noncomputable abbrev SpD:=List W->MH->QD->Prop
noncomputable def upSp (K:PySem.W.Frag)(sp:SpD):Sp:=λ vs H Q _=>∃ ws M Qd,RepWs K H ws vs/\MAbs K H M/\sp ws M Qd/\Kont K H Qd Q
section
variable {X:Cx}{pos p:Pos}{k:Nat}{f:Addr}{fd:FuncData}{ps:List Str}{sp:SpD}{x:Str}{e:Expr}{es:List Expr}{t:TAd}
noncomputable def dCall (sp:SpD)(t:TAd)(τ:DS)(M:MH)(Q:QD):Prop:=t τ M λ ws M1=>sp ws M1 Q
theorem pd_call (F:FnOk X.prog X.w X.K X.mg X.base CX0 k f fd ps (upSp X.K sp))(hr:Room k X.A)(hg:Gl X x)(hm:X.mg x=some (.ref f))(hk:PySem.W.keepIn X.K (.ref f)=true)(hb:Binds X.K fd ps [])
  (ha:PAd X (e :: es) t)(hdb:(x == ("__debug__" : Str))=false:=by decide)(he:starEach (e :: es) X.env=(false,eval e X.env) :: starEach es X.env:=by rfl)(hpl:(backTo pos (starEach es X.env)).any (·.1)=false:=by rfl) :
  PD X (.Call (.Name x p) (e :: es) [] pos) (dCall sp t):=pe_w (pe_call (E:=E0) (dvs:=[]) F hr hg hm hk hb .nil pass0 ha hdb he hpl) λ σ H Q h=>by
 obtain ⟨τ,M,Qd,A,h,k⟩:=h
 exact ⟨τ,M,_,A,h,λ vs H1 ws M1 kp r1 m1 q1=>⟨ws,M1,Qd,by rw [List.append_nil]; exact r1,m1,q1,kgo k kp⟩⟩
end
noncomputable def startD (N:List Str)(ws:List W):DS:=ws.map some++List.replicate (N.length - ws.length) none
section
variable {P:Program}{w:World}{K:PySem.W.Frag}{mg:Str->Option Value}{base:Heap}
theorem abs_start {H:Hp}{N:List Str}{ws:List W}{vs:List V}{M:MH}(r:RepWs K H ws vs)(m:MAbs K H M):Abs K H (start N vs) (startD N ws) M:=by
 have hl:=r.length
 refine ⟨?_,λ i w e=>?_,m⟩
 ·simp [L2.start,startD,hl]
 ·unfold startD at e
  by_cases hi:i < ws.length
  ·rw [List.getElem?_append_left (by simpa using hi),List.getElem?_map] at e
   cases q:ws[i]? with
   | none=>rw [q] at e; cases e
   | some w' =>
    rw [q] at e
    cases e
    obtain ⟨v,e1,r1⟩:=r.get q
    refine ⟨v,?_,r1⟩
    unfold L2.start
    rw [List.getElem?_append_left (by rw [List.length_map,<- hl]; exact hi),List.getElem?_map,e1]
    rfl
  ·rw [List.getElem?_append_right (by simpa using hi),List.getElem?_replicate] at e
   split at e <;> cases e
theorem fun_ok {x qual:Str}{st:Stmt}{f:Addr}{fd:FuncData}{N ps:List Str}{k:Nat}{sp:SpD}{t:TSd}(F:Fun K x qual st f fd)(S:FnScope N ps (defScope st))(len:∀ ws M Q,sp ws M Q->ws.length=ps.length)
  (hbody:∀ (cdv:Value) (A:Around) (outer:List Env) (s:Shared) (H:Hp) (E:XK),Room k (A.deeper (envOfC qual (defScope st) s.heap.objs.size f cdv)) ->
   PSsd (cxOf CX0 P w K mg base N qual (defScope st) f cdv A outer s H E).nox (defBody st) t)
  (read:∀ ws M Q,sp ws M Q->t { nx:=λ _ M'=>Q (.d .none) M',rt:=Q } (startD N ws) M):FnOk P w K mg base CX0 (k+1) f fd ps (upSp K sp):=by
 refine F.ok S (λ vs H Q E h=>?_) (λ cdv A outer s H vs Q E hr h=>?_)
 ·obtain ⟨ws,M,Qd,r,_,q,_⟩:=h
  rw [<- r.length]
  exact len _ _ _ q
 ·obtain ⟨ws,M,Qd,r,m,q,kk⟩:=h
  refine ⟨_,hbody cdv A outer s H E hr,startD N ws,M,_,abs_start r m,read ws M Qd q,λ σ' H' τ' M' kp A' q'=>?_,λ v H' w' M' kp r' m' q'=>?_,λ σ' H' τ' M' kp A' q'=>q'.elim,λ σ' H' τ' M' kp A' q'=>q'.elim⟩
  ·exact kk _ H' _ M' kp (by simp [RepW,RepD]) A'.mem q'
  ·exact kk v H' w' M' kp r' m' q'
end
end D
namespace D
open PySem PySem.Spec PyProof.Rows L2
section
variable {X:Cx}{pins:List (Addr×Obj)}{σ:St}{H:Hp}{s:Shared}
mutual
theorem reads_of (I:Inv X pins σ H s):∀ (d:PyData) {x:V} {u:Value},RepD X.K H d x->RelV x u->d.hasDict=false->∃ as,Reads s.heap u d as
 | .none,x,u,h,r,_=>by
  simp only [RepD] at h; subst h
  cases (show u=Value.none from r)
  exact ⟨_,.none⟩
 | .bool b,x,u,h,r,_=>by
  simp only [RepD] at h; subst h
  cases (show u=Value.bool b from r)
  exact ⟨_,.bool b⟩
 | .int i,x,u,h,r,_=>by
  simp only [RepD] at h; subst h
  obtain ⟨t,e⟩:=(show ∃ t,u=Value.int i t from r)
  subst e
  exact ⟨_,.int i t⟩
 | .str z,x,u,h,r,_=>by
  simp only [RepD] at h; subst h
  obtain ⟨t,e⟩:=(show ∃ t,u=Value.str z t from r)
  subst e
  exact ⟨_,.str z t⟩
 | .list ds,x,u,h,r,hd=>by
  simp only [RepD] at h
  obtain ⟨a,vs,e,hs,ra⟩:=h
  subst e
  cases (show u=Value.ref a from r)
  obtain ⟨its,rv,⟨o,n,e1,e2,e3,e4⟩,hz⟩:=I.list hs.sq
  obtain ⟨as,q⟩:=readsA_of I ds ra rv (by simpa [PyData.hasDict] using hd)
  exact ⟨_,.list e1 e2 e4 (by simpa using q)⟩
 | .tuple ds,x,u,h,r,hd=>by
  simp only [RepD] at h
  obtain ⟨a,vs,e,hs,ra⟩:=h
  subst e
  cases (show u=Value.ref a from r)
  obtain ⟨its,rv,⟨o,e1,e2,n,e4⟩,hz⟩:=I.tuple hs
  obtain ⟨as,q⟩:=readsA_of I ds ra rv (by simpa [PyData.hasDict] using hd)
  exact ⟨_,.tuple e1 e2 e4 (by simpa using q)⟩
 | .dict kvs,x,u,h,r,hd=>by simp [PyData.hasDict] at hd
theorem readsA_of (I:Inv X pins σ H s):∀ (ds:List PyData) {xs:List V} {us:List Value},RepA X.K H ds xs->Vals xs us->PyData.hasDictAll ds=false->∃ as,ReadsAll s.heap us ds as
 | [],xs,us,h,r,_=>by
  simp only [RepA] at h; subst h
  cases r
  exact ⟨_,.nil⟩
 | d :: ds,xs,us,h,r,hd=>by
  simp only [RepA] at h
  obtain ⟨v,vr,e,h1,h2⟩:=h
  subst e
  simp only [PyData.hasDictAll,Bool.or_eq_false_iff] at hd
  cases r with
  | cons r1 r2 =>
   obtain ⟨as,q1⟩:=reads_of I d h1 r1 hd.1
   obtain ⟨bs,q2⟩:=readsA_of I ds h2 r2 hd.2
   exact ⟨_,.cons q1 q2⟩
end
noncomputable def eqOk (d:PyData):Bool:=SeqAt.shaped d && !d.hasDict
noncomputable def eqOk2:PyData->PyData->Bool
 | .str _,.str _=>true
 | d,d'=>eqOk d && eqOk d'
theorem eqOk2_cases {d d':PyData}(h:eqOk2 d d'=true):(∃ x y,d=.str x/\d'=.str y)\/(eqOk d=true/\eqOk d'=true):=by
 cases d with
 | str x =>
  cases d' with
  | str y=>exact .inl ⟨x,y,rfl,rfl⟩
  | _=>exact .inr (by simpa [eqOk2] using h)
 | _=>exact .inr (by simpa [eqOk2] using h)
theorem str_dec (x y:Str):decide (V.str x=V.str y)=PyData.eqv (.str x) (.str y):=by
 rw [PyData.eqv]
 by_cases e:x=y
 ·subst e; simp
 ·rw [decide_eq_false (λ z=>e (V.str.inj z))]
  exact (beq_eq_false_iff_ne.mpr e).symm
theorem op_eqD {k:Nat}(hr:Room k X.A):OpR X (compareOp .Eq) (λ x y H Q=>∃ d d',RepD X.K H d x/\RepD X.K H d' y/\eqOk2 d d'=true/\Q (.bl (PyData.eqv d d')) H):=by
 intro pins s σ H x y v u Q I rx ry h
 obtain ⟨d,d',h1,h2,o,q⟩:=h
 rcases eqOk2_cases o with ⟨a,b,e1,e2⟩ | ⟨o1,o2⟩
 ·subst e1; subst e2
  simp only [RepD] at h1 h2
  subst h1; subst h2
  exact op_eq pins s σ H _ _ v u Q I rx ry ⟨rfl,by rw [str_dec]; exact q⟩
 simp only [eqOk,Bool.and_eq_true,Bool.not_eq_true'] at o1 o2
 obtain ⟨as,r1⟩:=reads_of I d h1 rx o1.2
 obtain ⟨bs,r2⟩:=reads_of I d' h2 ry o2.2
 exact eq_dataH r1 r2 o1.1 o2.1 hr.units ⟨.bl _,H,I,rfl,q⟩
theorem op_neD {k:Nat}(hr:Room k X.A):OpR X (compareOp .NotEq) (λ x y H Q=>∃ d d',RepD X.K H d x/\RepD X.K H d' y/\eqOk2 d d'=true/\Q (.bl (!PyData.eqv d d')) H):=by
 intro pins s σ H x y v u Q I rx ry h
 obtain ⟨d,d',h1,h2,o,q⟩:=h
 rcases eqOk2_cases o with ⟨a,b,e1,e2⟩ | ⟨o1,o2⟩
 ·subst e1; subst e2
  simp only [RepD] at h1 h2
  subst h1; subst h2
  exact op_ne pins s σ H _ _ v u Q I rx ry ⟨rfl,by rw [str_dec]; exact q⟩
 simp only [eqOk,Bool.and_eq_true,Bool.not_eq_true'] at o1 o2
 obtain ⟨as,r1⟩:=reads_of I d h1 rx o1.2
 obtain ⟨bs,r2⟩:=reads_of I d' h2 ry o2.2
 exact ne_dataH r1 r2 o1.1 o2.1 hr.units ⟨.bl _,H,I,rfl,q⟩
noncomputable def tyD:PyData->String
 | .none => "NoneType"
 | .bool _ => "bool"
 | .int _ => "int"
 | .str _ => "str"
 | .list _ => "list"
 | .tuple _ => "tuple"
 | .dict _ => "dict"
inductive Ty6:String->Prop where
 | int:Ty6 "int" | bool:Ty6 "bool" | str:Ty6 "str" | list:Ty6 "list" | tuple:Ty6 "tuple" | dict:Ty6 "dict"
noncomputable def isiD (d:PyData)(T:String):Bool:=tyD d == T || (T == "int" && tyD d == "bool")
theorem isi_kit {K:PySem.W.Frag}(d:PyData){T:String}(h:Ty6 T):PySem.W.kitOne K (.type (tyD d)) (.type T)=some (isiD d T):=by
 cases h <;> cases d <;> rfl
theorem call_isiD:CallR X (.builtin "isinstance") (λ xs H Q=>∃ x d T,xs=[x,.ty T]/\RepD X.K H d x/\Ty6 T/\Q (.bl (isiD d T)) H):=by
 intro pins s σ H xs us Q I r h
 obtain ⟨x,d,T,rfl,rd,h6,q⟩:=h
 obtain ⟨u,w',rfl,rx,ry⟩:=vals2 r
 cases (show w'=Value.type T from ry)
 have e:=isi_kit (K:=X.K) d h6
 have fin:∀ tk,EP X pins σ Q (.bool (isiD d T)) { s with toks:=tk }:=λ tk=>⟨.bl _,H,I.tok _,rfl,q⟩
 generalize isiD d T=b at e fin
 cases d with
 | none=>simp only [RepD] at rd; subst rd; cases (show u=Value.none from rx); exact PySem.W.kia_one PySem.W.kitx_none I.kIn True.intro e (λ z=>nomatch z) fin
 | bool y=>simp only [RepD] at rd; subst rd; cases (show u=Value.bool y from rx); exact PySem.W.kia_one PySem.W.kitx_bool I.kIn True.intro e (λ z=>nomatch z) fin
 | int i=>simp only [RepD] at rd; subst rd; obtain ⟨t,z⟩:=(show ∃ t,u=Value.int i t from rx); subst z; exact PySem.W.kia_one PySem.W.kitx_int I.kIn True.intro e (λ z=>nomatch z) fin
 | str y=>simp only [RepD] at rd; subst rd; obtain ⟨t,z⟩:=(show ∃ t,u=Value.str y t from rx); subst z; exact PySem.W.kia_one PySem.W.kitx_str I.kIn True.intro e (λ z=>nomatch z) fin
 | list ds =>
  simp only [RepD] at rd
  obtain ⟨a,vs,z,hs,_⟩:=rd
  subst z
  cases (show u=Value.ref a from rx)
  obtain ⟨its,rv,⟨o,n,e1,e2,e3,e4⟩,hz⟩:=I.list hs.sq
  exact PySem.W.kia_one PySem.W.kitx_list I.kIn ⟨_,e1,e2⟩ e (λ z=>nomatch z) fin
 | tuple ds =>
  simp only [RepD] at rd
  obtain ⟨a,vs,z,hs,_⟩:=rd
  subst z
  cases (show u=Value.ref a from rx)
  obtain ⟨its,rv,⟨o,e1,e2,e3⟩,hz⟩:=I.tuple hs
  exact PySem.W.kia_one PySem.W.kitx_tuple I.kIn ⟨_,e1,e2⟩ e (λ z=>nomatch z) fin
 | dict kvs =>
  simp only [RepD] at rd
  obtain ⟨a,o,l,z,ha,_⟩:=rd
  subst z
  cases (show u=Value.ref a from rx)
  obtain ⟨_,hs,vs,kv,o',es,ep,e1,e2,_⟩:=dk_rd I.hok (.inr ⟨o,ha⟩)
  exact PySem.W.kia_one PySem.W.kitx_dict I.kIn ⟨_,e1,e2.1⟩ e (λ z=>nomatch z) fin
theorem bools_are {K:PySem.W.Frag}{H:Hp}:∀ {bs:List Bool} {vs:List V} {us:List Value},RepA K H (bs.map PyData.bool) vs->Vals vs us->LSm.BoolsAre us bs
 | [],vs,us,h,r=>by simp only [List.map_nil,RepA] at h; subst h; cases r; exact .nil
 | b :: bs,vs,us,h,r=>by
  simp only [List.map_cons,RepA] at h
  obtain ⟨v,vr,e,h1,h2⟩:=h
  subst e
  simp only [RepD] at h1
  subst h1
  cases r with
  | cons r1 r2=>cases (show _=Value.bool b from r1); exact .cons b (bools_are h2 r2)
theorem call_allD (hc:X.calm=true):CallR X (.builtin "all") (λ xs H Q=>∃ (x:V) (bs:List Bool),xs=[x]/\RepD X.K H (.list (bs.map PyData.bool)) x/\Q (.bl (bs.all id)) H):=by
 intro pins s σ H xs us Q I r h
 obtain ⟨x,bs,rfl,rd,q⟩:=h
 obtain ⟨u,rfl,rx⟩:=vals1 r
 simp only [RepD] at rd
 obtain ⟨a,vs,z,hs,ra⟩:=rd
 subst z
 cases (show u=Value.ref a from rx)
 obtain ⟨its,rv,pl,hz⟩:=I.list hs.sq
 obtain ⟨m,F⟩:=I.fr
 have N:News X.base X.env.locals s.heap []:=λ p hp=>nomatch hp
 have hb:=bools_are ra rv
 have hl:s.heap.IsList a its.toArray:=pl.isList
 have hlt:a < s.heap.objs.size:=by obtain ⟨_,e,_⟩:=hl; exact Heap.lt_size e
 refine call_all_walk (wpAny_pyIter_list hl ?_)
 refine ⟨s.heap.objs.size,[s.heap.objs.size,a],[s.heap.objs.size],its.toArray.size,_,_,λ i=>(bs[i]?).getD true,rfl,Walks.list (A:=X.A.in1) (I.ok.hd hc) _ a (Nat.ne_of_lt hlt) its.toArray,
  ⟨⟨_,Heap.get?_push_size _ rfl,rfl,rfl⟩,hl.push _⟩,λ i v s' Q' E' hP hQ=>?_,λ h' tk hk=>?_⟩
 ·obtain ⟨b,e,rfl⟩:=hb.get i v (by simpa using hP)
  simp only [e,Option.getD_some] at hQ
  exact wpAny_truthy_bool hQ
 ·have e:((List.range its.toArray.size).all λ i=>(bs[i]?).getD true)=bs.all id:=by
   rw [List.size_toArray,hb.length]; exact LSm.range_all bs
  rw [e]
  exact ⟨.bl _,H,I.kept (LSm.kept_iter hk),rfl,q⟩
end
end D
namespace D
open PySem PySem.Spec PyProof.Rows L2
section
variable {X:Cx}{K:PySem.W.Frag}
theorem OpR.or {f:Value->Value->Sem Value}{r r':R2}(h:OpR X f r)(h':OpR X f r'):OpR X f (λ x y H Q=>r x y H Q\/r' x y H Q):=by
 intro pins s σ H x y v u Q I rx ry q
 rcases q with q | q
 ·exact h pins s σ H x y v u Q I rx ry q
 ·exact h' pins s σ H x y v u Q I rx ry q
theorem OpD.or {r r':R2}{rd rd':W->W->MH->QD->Prop}(h:OpD K r rd)(h':OpD K r' rd'):OpD K (λ x y H Q=>r x y H Q\/r' x y H Q) (λ w w' M Q=>rd w w' M Q\/rd' w w' M Q):=by
 intro x y H w w' M Qd Q r1 r2 m q k
 rcases q with q | q
 ·exact .inl (h x y H w w' M Qd Q r1 r2 m q k)
 ·exact .inr (h' x y H w w' M Qd Q r1 r2 m q k)
noncomputable def rdI0 (g:Int->Int->PyData)(w:W)(w':W)(M:MH)(Q:QD):Prop:=∃ i j,w=.d (.int i)/\w'=.d (.int j)/\Q (.d (g i j)) M
noncomputable def rdI (C:Int->Int->Prop)(g:Int->Int->PyData)(w:W)(w':W)(M:MH)(Q:QD):Prop:=∃ i j,w=.d (.int i)/\w'=.d (.int j)/\C i j/\Q (.d (g i j)) M
theorem opd_I0 {g:Int->Int->V}{gd:Int->Int->PyData}(hg:∀ i j H,RepD K H (gd i j) (g i j)):OpD K (rI0 g) (rdI0 gd):=by
 intro x y H w w' M Qd Q r1 r2 m ⟨i,j,e1,e2,q⟩ k
 subst e1; subst e2
 simp only [RepW,RepD] at r1 r2
 exact ⟨i,j,r1,r2,k _ H (.d (gd i j)) M (Kp.refl H) (hg i j H) m q⟩
theorem opd_I {C:Int->Int->Prop}{g:Int->Int->V}{gd:Int->Int->PyData}(hg:∀ i j H,RepD K H (gd i j) (g i j)):OpD K (rI C g) (rdI C gd):=by
 intro x y H w w' M Qd Q r1 r2 m ⟨i,j,e1,e2,c,q⟩ k
 subst e1; subst e2
 simp only [RepW,RepD] at r1 r2
 exact ⟨i,j,r1,r2,c,k _ H (.d (gd i j)) M (Kp.refl H) (hg i j H) m q⟩
noncomputable def rdSub (w w':W)(M:MH)(Q:QD):Prop:=rdI0 (λ i j=>.int (i - j)) w w' M Q
noncomputable def rdMul (w w':W)(M:MH)(Q:QD):Prop:=rdI CMul (λ i j=>.int (i * j)) w w' M Q
noncomputable def rdMod (w w':W)(M:MH)(Q:QD):Prop:=rdI (λ _ j=>0 < j) (λ i j=>.int (i % j)) w w' M Q
noncomputable def rdDiv (w w':W)(M:MH)(Q:QD):Prop:=rdI CDiv (λ i j=>.int (i / j)) w w' M Q
noncomputable def rdAdd (w:W)(w':W)(M:MH)(Q:QD):Prop:=rdI0 (λ i j=>.int (i+j)) w w' M Q\/∃ x y,w=.d (.str x)/\w'=.d (.str y)/\x.length+y.length<=sizeLine/\Q (.d (.str (x++y))) M
theorem opd_sub:OpD K (rI0 λ i j=>.int (i - j)) rdSub:=opd_I0 λ _ _ _=>by simp [RepD]
theorem opd_mul:OpD K (rI CMul λ i j=>.int (i * j)) rdMul:=opd_I λ _ _ _=>by simp [RepD]
theorem opd_mod:OpD K (rI (λ _ j=>0 < j) λ i j=>.int (i % j)) rdMod:=opd_I λ _ _ _=>by simp [RepD]
theorem opd_div:OpD K (rI CDiv λ i j=>.int (i / j)) rdDiv:=opd_I λ _ _ _=>by simp [RepD]
noncomputable def rStr2:R2:=λ x y H Q=>∃ i j,x=.str i/\y=.str j/\i.length+j.length<=sizeLine/\Q (.str (i++j)) H
theorem opd_addS:OpD K rStr2 (λ w w' M Q=>∃ x y,w=.d (.str x)/\w'=.d (.str y)/\x.length+y.length<=sizeLine/\Q (.d (.str (x++y))) M):=by
 intro x y H w w' M Qd Q r1 r2 m ⟨i,j,e1,e2,c,q⟩ k
 subst e1; subst e2
 simp only [RepW,RepD] at r1 r2
 exact ⟨i,j,r1,r2,c,k _ H (.d (.str (i++j))) M (Kp.refl H) (by simp [RepW,RepD]) m q⟩
theorem op_add2:OpR X (binaryOp .Add) (λ x y H Q=>rI0 (λ i j=>.int (i+j)) x y H Q\/rStr2 x y H Q):=OpR.or op_add op_add_str
theorem opd_add2:OpD K (λ x y H Q=>rI0 (λ i j=>.int (i+j)) x y H Q\/rStr2 x y H Q) rdAdd:=OpD.or (opd_I0 λ _ _ _=>by simp [RepD]) opd_addS
noncomputable def rS (g:Str->Str->Bool):R2:=λ x y H Q=>∃ i j,x=.str i/\y=.str j/\Q (.bl (g i j)) H
noncomputable def rdS (g:Str->Str->Bool)(w:W)(w':W)(M:MH)(Q:QD):Prop:=∃ i j,w=.d (.str i)/\w'=.d (.str j)/\Q (.d (.bool (g i j))) M
theorem opd_S {g:Str->Str->Bool}:OpD K (rS g) (rdS g):=by
 intro x y H w w' M Qd Q r1 r2 m ⟨i,j,e1,e2,q⟩ k
 subst e1; subst e2
 simp only [RepW,RepD] at r1 r2
 exact ⟨i,j,r1,r2,k _ H (.d (.bool (g i j))) M (Kp.refl H) (by simp [RepW,RepD]) m q⟩
theorem op_le_str:OpR X (compareOp .LtE) (rS λ x y=>!decide (y.cps.toList < x.cps.toList)):=by
 intro pins s σ H x y v u Q I rx ry h
 obtain ⟨i,j,rfl,rfl,q⟩:=h
 obtain ⟨t,rfl⟩:=rx
 obtain ⟨t',rfl⟩:=ry
 exact PySem.P.le_str ⟨.bl _,H,I,rfl,q⟩
noncomputable def rdLe (w:W)(w':W)(M:MH)(Q:QD):Prop:=rdI0 (λ i j=>.bool (decide (i<=j))) w w' M Q\/rdS (λ x y=>!decide (y.cps.toList < x.cps.toList)) w w' M Q
theorem op_le2:OpR X (compareOp .LtE) (λ x y H Q=>rI0 (λ i j=>.bl (decide (i<=j))) x y H Q\/rS (λ x y=>!decide (y.cps.toList < x.cps.toList)) x y H Q):=OpR.or op_le op_le_str
theorem opd_le2:OpD K (λ x y H Q=>rI0 (λ i j=>.bl (decide (i<=j))) x y H Q\/rS (λ x y=>!decide (y.cps.toList < x.cps.toList)) x y H Q) rdLe:=OpD.or (opd_I0 λ _ _ _=>by simp [RepD]) opd_S
noncomputable def rdLt (w w':W)(M:MH)(Q:QD):Prop:=rdI0 (λ i j=>.bool (decide (i < j))) w w' M Q
noncomputable def rdGt (w w':W)(M:MH)(Q:QD):Prop:=rdI0 (λ i j=>.bool (decide (j < i))) w w' M Q
noncomputable def rdGe (w w':W)(M:MH)(Q:QD):Prop:=rdI0 (λ i j=>.bool (decide (j<=i))) w w' M Q
theorem opd_lt:OpD K (rI0 λ i j=>.bl (decide (i < j))) rdLt:=opd_I0 λ _ _ _=>by simp [RepD]
theorem opd_gt:OpD K (rI0 λ i j=>.bl (decide (j < i))) rdGt:=opd_I0 λ _ _ _=>by simp [RepD]
theorem opd_ge:OpD K (rI0 λ i j=>.bl (decide (j<=i))) rdGe:=opd_I0 λ _ _ _=>by simp [RepD]
noncomputable def rdEq (w:W)(w':W)(M:MH)(Q:QD):Prop:=∃ d d',w=.d d/\w'=.d d'/\eqOk2 d d'=true/\Q (.d (.bool (PyData.eqv d d'))) M
theorem opd_eq:OpD K (λ x y H Q=>∃ d d',RepD K H d x/\RepD K H d' y/\eqOk2 d d'=true/\Q (.bl (PyData.eqv d d')) H) rdEq:=by
 intro x y H w w' M Qd Q r1 r2 m ⟨d,d',e1,e2,o1,q⟩ k
 subst e1; subst e2
 exact ⟨d,d',r1,r2,o1,k _ H (.d (.bool _)) M (Kp.refl H) (by simp [RepW,RepD]) m q⟩
noncomputable def rdNeg (w:W)(M:MH)(Q:QD):Prop:=∃ i,w=.d (.int i)/\Q (.d (.int (-i))) M
theorem und_neg:UnD K (rU λ i=>.int (-i)) rdNeg:=by
 intro x H w M Qd Q r m ⟨i,e,q⟩ k
 subst e
 simp only [RepW,RepD] at r
 exact ⟨i,r,k _ H (.d (.int (-i))) M (Kp.refl H) (by simp [RepW,RepD]) m q⟩
noncomputable def fitW:W->Bool
 | .d (.str z)=>decide (z.length<=sizeLine)
 | _=>true
noncomputable def ixW (M:MH):W->Int->Option W
 | .d (.list ds),i=>(atI ds i).map W.d
 | .d (.tuple ds),i=>(atI ds i).map W.d
 | .d (.str z),i=>(atI z.cps.toList i).map λ c=>W.d (.str ⟨#[c]⟩)
 | .m a,i=>match M a with
  | some (.lst ws)=>atI ws i
  | some (.tup ws)=>atI ws i
  | _=>none
 | _,_=>none
inductive RIx (w:W) (w':W) (M:MH) (Q:QD):Prop
 | mk (i:Int) (x:W) (z0:w'=.d (.int i)) (z1:ixW M w i=some x) (z2:fitW w=true) (q:Q x M):RIx w w' M Q
noncomputable def rdIx (w:W)(w':W)(M:MH)(Q:QD):Prop:=RIx w w' M Q
theorem atI_repA {H:Hp}{ds:List PyData}{vs:List V}{i:Int}{d:PyData}(r:RepA K H ds vs)(e:atI ds i=some d):∃ v,atI vs i=some v/\RepD K H d v:=by
 unfold atI at e ⊢
 rw [r.length]
 cases q:ixN ds.length i with
 | none=>rw [q] at e; cases e
 | some j =>
  rw [q] at e
  exact r.get e
theorem atI_repWs {H:Hp}{ds:List W}{vs:List V}{i:Int}{d:W}(r:RepWs K H ds vs)(e:atI ds i=some d):∃ v,atI vs i=some v/\RepW K H d v:=by
 unfold atI at e ⊢
 rw [<- r.length]
 cases q:ixN ds.length i with
 | none=>rw [q] at e; cases e
 | some j =>
  rw [q] at e
  exact r.get e
theorem opd_ix:OpD K (rIx K) rdIx:=by
 intro x y H w w' M Qd Q r1 r2 m ⟨i,z,e2,ei,hf,q⟩ k
 subst e2
 simp only [RepW,RepD] at r2
 cases w with
 | t n=>simp [ixW] at ei
 | m a =>
  simp only [RepW] at r1
  simp only [ixW] at ei
  cases hm:M a with
  | none=>rw [hm] at ei; cases ei
  | some mo =>
   rw [hm] at ei
   cases mo with
   | lst ws =>
    obtain ⟨vs,e1,rw1⟩:=m a _ hm
    obtain ⟨v,e3,rv⟩:=atI_repWs rw1 ei
    exact .inl ⟨a,vs,i,v,r1,r2,SqL.of e1,e3,k v H z M (Kp.refl H) rv m q⟩
   | dic _=>cases ei
   | dct _=>cases ei
   | fdic _=>cases ei
   | ins _ _=>cases ei
   | tup ws =>
    obtain ⟨vs,e1,rw1⟩:=m a _ hm
    obtain ⟨v,e3,rv⟩:=atI_repWs rw1 ei
    exact .inr (.inl ⟨a,vs,i,v,r1,r2,.inl (.inl e1),e3,k v H z M (Kp.refl H) rv m q⟩)
   | flst _=>cases ei
   | exc _ _=>cases ei
   | code _ _=>cases ei
 | d d =>
  cases d with
  | list ds =>
   simp only [RepW,RepD] at r1
   obtain ⟨a,vs,e1,hs,ra⟩:=r1
   simp only [ixW] at ei
   cases h:atI ds i with
   | none=>rw [h] at ei; cases ei
   | some d =>
    rw [h] at ei
    cases ei
    obtain ⟨v,e3,rv⟩:=atI_repA ra h
    exact .inl ⟨a,vs,i,v,e1,r2,hs.sq,e3,k v H (.d d) M (Kp.refl H) rv m q⟩
  | tuple ds =>
   simp only [RepW,RepD] at r1
   obtain ⟨a,vs,e1,hs,ra⟩:=r1
   simp only [ixW] at ei
   cases h:atI ds i with
   | none=>rw [h] at ei; cases ei
   | some d =>
    rw [h] at ei
    cases ei
    obtain ⟨v,e3,rv⟩:=atI_repA ra h
    exact .inr (.inl ⟨a,vs,i,v,e1,r2,hs,e3,k v H (.d d) M (Kp.refl H) rv m q⟩)
  | str s =>
   simp only [RepW,RepD] at r1
   simp only [ixW] at ei
   cases h:atI s.cps.toList i with
   | none=>rw [h] at ei; cases ei
   | some c =>
    rw [h] at ei
    cases ei
    exact .inr (.inr ⟨s,i,c,r1,r2,of_decide_eq_true hf,h,k _ H (.d (.str ⟨#[c]⟩)) M (Kp.refl H) (by simp [RepW,RepD]) m q⟩)
  | _=>simp [ixW] at ei
theorem pe_frzO {e:Expr}{t:TE}(h:PE X e t):PE X e (λ σ H Q=>t σ H λ v H1=>Q v H1\/∃ p u,v=.ref p/\H1 p=some u/\Fz u/\∀ o,Q v (upd H1 p (.frz o u))):=by
 intro pins s σ H Q I hq
 refine thn (h pins s σ H _ I hq) λ v s1 hq46=>?_
 obtain ⟨x,H1,I1,r1,q⟩:=hq46
 rcases q with q | ⟨p,u,e1,e2,f,q⟩
 ·exact ⟨x,_,I1,r1,q⟩
 ·obtain ⟨o,I2⟩:=I1.freeze e2 f
  exact ⟨x,_,I2,r1,q o⟩
noncomputable def rSlS:V->Option Int->Option Int->Hp->VK->Prop:=λ x lo hi H Q=>∃ z,x=.str z/\z.length<=sizeLine/\Q (.str (Txt.slice z lo hi)) H
theorem sl_str:SlR X rSlS:=by
 intro pins s σ H x v vl vu lo hi sl Q I rx hs pl pu h
 obtain ⟨z,rfl,hz,q⟩:=h
 obtain ⟨t,rfl⟩:=rx
 have fin:∀ t' k,EP X pins σ Q (.str (Txt.slice z lo hi) t') { s with toks:=k }:=λ t' k=>⟨.str _,H,I.tok _,⟨_,rfl⟩,q⟩
 refine ⟨"str",_,F.slot_str_getitem.lookup,typeIs_str _ _ _,?_⟩
 cases pl with
 | none =>
  cases pu with
  | none=>exact wpAny_getItem_str_slice (l:=none) (u:=none) (st:=none) hs rfl (post_val_or_str ⟨Nat.le_trans (Txt.slice_le z _ _) hz,fin⟩)
  | int j uj=>exact wpAny_getItem_str_slice (l:=none) (u:=some (j,uj)) (st:=none) hs rfl (post_val_or_str ⟨Nat.le_trans (Txt.slice_le z _ _) hz,fin⟩)
 | int i ui =>
  cases pu with
  | none=>exact wpAny_getItem_str_slice (l:=some (i,ui)) (u:=none) (st:=none) hs rfl (post_val_or_str ⟨Nat.le_trans (Txt.slice_le z _ _) hz,fin⟩)
  | int j uj=>exact wpAny_getItem_str_slice (l:=some (i,ui)) (u:=some (j,uj)) (st:=none) hs rfl (post_val_or_str ⟨Nat.le_trans (Txt.slice_le z _ _) hz,fin⟩)
noncomputable abbrev TOd:=DS->MH->(Option Int->MH->Prop)->Prop
noncomputable def upO (K:PySem.W.Frag)(t:TOd):TO:=λ σ H Q=>∃ τ M Qd,Abs K H σ τ M/\t τ M Qd/\∀ b H' M',Kp H H'->MAbs K H' M'->Qd b M'->Q b H'
noncomputable abbrev POd (X:Cx)(e:Option Expr)(t:TOd):Prop:=PO X e (upO X.K t)
theorem po_w {e:Option Expr}{t t':TO}(h:PO X e t)(k:∀ σ H Q,t' σ H Q->t σ H Q):PO X e t':=λ pins s σ H Q I q=>h pins s σ H Q I (k σ H Q q)
noncomputable def dNoPart (_:DS)(M:MH)(Q:Option Int->MH->Prop):Prop:=Q none M
noncomputable def dPart (t:TD)(τ:DS)(M:MH)(Q:Option Int->MH->Prop):Prop:=t τ M λ w M1=>∃ i,w=.d (.int i)/\Q (some i) M1
theorem pod_none:POd X none dNoPart:=po_w po_none λ σ H Q ⟨τ,M,Qd,A,q,k⟩=>k none H M (Kp.refl H) A.mem q
theorem pod_some {e:Expr}{te:TD}(h:PD X e te):POd X (some e) (dPart te):=po_w (po_some h) λ σ H Q ⟨τ,M,Qd,A,q,k⟩=>⟨τ,M,_,A,q,λ v H1 w M1 kp r m hq47=>by
 obtain ⟨i,e,q1⟩:=hq47
 subst e
 simp only [RepW,RepD] at r
 exact ⟨i,r,k _ H1 M1 kp m q1⟩⟩
noncomputable def cutD {α:Type}(xs:List α)(lo hi:Option Int):List α:=(xs.drop (HT.sIx xs.length 0 lo)).take (HT.sIx xs.length xs.length hi - HT.sIx xs.length 0 lo)
noncomputable def wholeD (n:Nat)(lo hi:Option Int):Bool:=decide (HT.sIx n 0 lo=0/\HT.sIx n n hi=n)
noncomputable def slW:W->Option Int->Option Int->Option W
 | .d (.list ds),lo,hi=>some (.d (.list (cutD ds lo hi)))
 | .d (.tuple ds),lo,hi=>if wholeD ds.length lo hi then none else some (.d (.tuple (cutD ds lo hi)))
 | .d (.str z),lo,hi=>some (.d (.str (Txt.slice z lo hi)))
 | _,_,_=>none
noncomputable def dSl (te:TD)(tl th:TOd)(τ:DS)(M:MH)(Q:QD):Prop:=te τ M λ w M1=>tl τ M1 λ lo M2=>th τ M2 λ hi M3=>∃ z,slW w lo hi=some z/\fitW w=true/\Q z M3
theorem sl_any:SlR X (λ x lo hi H Q=>rSlL X.K x lo hi H Q\/rSlT X.K x lo hi H Q\/rSlS x lo hi H Q):=sl_list.or (sl_tup.or sl_str)
theorem RepA.cut {H:Hp}{ds:List PyData}{vs:List V}(r:RepA K H ds vs)(lo hi:Option Int):RepA K H (cutD ds lo hi) (cutV vs lo hi):=by
 unfold cutD cutV
 rw [r.length]
 exact (r.drop _).take _
theorem pd_slice {e:Expr}{te:TD}{lo hi:Option Expr}{tl th:TOd}{pos p2:Pos}(he:PD X e te)(hl:POd X lo tl)(hu:POd X hi th):PD X (.Subscript e (.Slice lo hi none p2) pos) (dSl te tl th) :=
 pe_w (pe_frzO (pe_slice sl_any he hl hu)) λ σ H Q h=>by
  obtain ⟨τ,M,Qd,A,h,k⟩:=h
  refine ⟨τ,M,_,A,h,λ v H1 w M1 kp1 r1 m1 q1=>⟨τ,M1,_,A.go kp1 m1,q1,λ lo H2 M2 kp2 m2 q2=>⟨τ,M2,_,A.go (kp1.trans kp2) m2,q2,λ hi H3 M3 kp3 m3 q3=>?_⟩⟩⟩
  obtain ⟨z,ez,hf,q⟩:=q3
  have kp:=(kp1.trans kp2).trans kp3
  have r:=r1.keep (kp2.trans kp3)
  cases w with
  | t n=>simp [slW] at ez
  | m a=>simp [slW] at ez
  | d d =>
   cases d with
   | list ds =>
    simp only [slW] at ez
    cases ez
    simp only [RepW,RepD] at r
    obtain ⟨a,vs,e1,hs,ra⟩:=r
    exact .inl ⟨a,vs,e1,hs.sq,λ p hp=>.inr (imp_frz hp (RepA.cut ra lo hi) m3 q (kgo k kp))⟩
   | tuple ds =>
    simp only [slW] at ez
    split at ez
    ·cases ez
    ·rename_i hw
     cases ez
     simp only [RepW,RepD] at r
     obtain ⟨a,vs,e1,hs,ra⟩:=r
     refine .inr (.inl ⟨a,vs,e1,hs,?_,λ p hp=>.inl ?_⟩)
     ·rw [ra.length]
      simpa [wholeD] using hw
     ·refine k _ _ (.d (.tuple _)) M3 (kp.trans (Kp.new hp)) ?_ (m3.new hp) q
      simp only [RepW,RepD]
      exact ⟨p,_,rfl,.inl (.inl upd_same),(RepA.cut ra lo hi).keep (Kp.new hp)⟩
   | str s =>
    simp only [slW] at ez
    cases ez
    simp only [RepW,RepD] at r
    exact .inr (.inr ⟨s,r,of_decide_eq_true hf,.inl (k _ H3 (.d (.str _)) M3 kp (by simp [RepW,RepD]) m3 q)⟩)
   | _=>simp [slW] at ez
noncomputable def gSet (to ti:TD)(v:W)(τ:DS)(M:MH)(Q:DS->MH->Prop):Prop:=to τ M λ w M1=>ti τ M1 λ w' M2=>∃ a ws i j,w=.m a/\w'=.d (.int i)/\M2 a=some (.lst ws)/\ixN ws.length i=some j/\Q τ (updM M2 a (.lst (ws.set j v)))
theorem set_rep {H:Hp}{M:MH}{a:Addr}{ws:List W}{vs:List V}{j:Nat}{v:V}{w:W}(m:MAbs K H M)(e:H a=some (.lst vs))(rw1:RepWs K H ws vs)(rv:RepW K H w v) :
  Kp H (upd H a (.lst (vs.set j v)))/\MAbs K (upd H a (.lst (vs.set j v))) (updM M a (.lst (ws.set j w))):=by
 have kp:Kp H (upd H a (.lst (vs.set j v))):=Kp.set e (λ xs z=>nomatch z) λ _ _ z=>nomatch z
 exact ⟨kp,m.put kp ⟨_,upd_same,(RepWs.set rv j rw1).keep kp⟩⟩
theorem pgd_sub {o i:Expr}{to ti:TD}{pos:Pos}(ho:PD X o to)(hi:PD X i ti)
  (ha:∀ v,assign (.Subscript o i pos) X.env v=(do
   let ov <- holding [v] (eval o X.env)
   let iv <- holding [v,ov] (eval i X.env)
   standAt pos
   holding [v,ov,iv] (setItem ov iv v)
   release [v,ov,iv] []):=by intro _; rfl):PGd X (.Subscript o i pos) (gSet to ti):=pg_w (pg_sub ho hi set_list ha) λ v σ H Q h=>by
 obtain ⟨w,τ,M,Qd,rv,A,h,k⟩:=h
 refine ⟨τ,M,_,A,h,λ x H1 wo M1 kp1 r1 m1 q1=>⟨τ,M1,_,A.go kp1 m1,q1,λ y H2 wi M2 kp2 r2 m2 q2=>?_⟩⟩
 obtain ⟨a,ws,i,j,e1,e2,hm,hj,q⟩:=q2
 subst e1; subst e2
 simp only [RepW,RepD] at r1 r2
 obtain ⟨vs,e3,rw1⟩:=m2 a _ hm
 have kp:=kp1.trans kp2
 obtain ⟨kp3,m3⟩:=set_rep (j:=j) m2 e3 rw1 (rv.keep kp)
 exact ⟨a,vs,i,j,r1,r2,e3,by rw [<- rw1.length]; exact hj,k σ _ τ _ (kp.trans kp3) (A.go (kp.trans kp3) m3) q⟩
theorem get_list:PGet X (rIxL X.K):=by
 intro pins s σ H o i ov iv Q I ro ri h
 obtain ⟨p,xs,k,z,rfl,rfl,hq,he,q⟩:=h
 cases ro
 obtain ⟨t,rfl⟩:=ri
 obtain ⟨its,r,pl,hz⟩:=I.list hq
 obtain ⟨j,h1,h2,h3,h4,h5⟩:=atI_get he
 obtain ⟨w,ew,rw'⟩:=r.get h2
 have hl:=r.length
 have hn:=line63
 have fin:EP X pins σ Q w s:=⟨z,H,I,rw',q⟩
 by_cases h0:0<=k
 ·have hj:k.toNat=j:=by
   rw [seqIndex_of h0 h5] at h1
   exact Option.some.inj h1
  exact wpAny_getItem_list pl.isList h0 (by omega) (by rw [hj]; simpa using ew) fin
 ·have hj:(k+(its.toArray.size:Int)).toNat=j:=by
   rw [seqIndex_neg (by omega) h4] at h1
   rw [List.size_toArray,<- hl]
   exact Option.some.inj h1
  exact wpAny_getItem_list_neg pl.isList (by omega) (by rw [List.size_toArray] <;> omega) (by omega) (by rw [hj]; simpa using ew) fin
noncomputable def dAugS (to ti te:TD)(f:Int->Int->Int)(D:Ed)(τ:DS)(M:MH):Prop:=to τ M λ w M1=>ti τ M1 λ w' M2=>∃ a ws i j n,w=.m a/\w'=.d (.int i)/\M2 a=some (.lst ws)/\ixN ws.length i=some j/\ws[j]? = some (.d (.int n)) /\
 te τ M2 λ y M3=>∃ n',y=.d (.int n')/\M3=M2/\D.nx τ (updM M3 a (.lst (ws.set j (.d (.int (f n n'))))))
theorem psd_augS {o i e:Expr}{to ti te:TD}{op:Operator}{f:Int->Int->Int}{pos tpos:Pos}(ho:PD X o to)(hi:PD X i ti)(he:PD X e te)(hp:PIp X op (ipI f))
  (ha:∀ ov iv new,augStore i ov iv new=(do holding [new,ov,iv] (setItem ov iv new); release [new,ov,iv] []; pure .next):=by intros; rfl):PSd X (.AugAssign (.Subscript o i tpos) op e pos) (dAugS to ti te f) :=
 ps_w (ps_augS ho hi get_list he hp set_list ha) λ D σ H h=>by
  obtain ⟨τ,M,Dd,A,h,k1,_⟩:=h
  refine ⟨τ,M,_,A,h,λ x H1 wo M1 kp1 r1 m1 q1=>⟨τ,M1,_,A.go kp1 m1,q1,λ y H2 wi M2 kp2 r2 m2 q2=>?_⟩⟩
  obtain ⟨a,ws,i,j,n,e1,e2,hm,hj,hn,q⟩:=q2
  subst e1; subst e2
  simp only [RepW,RepD] at r1 r2
  obtain ⟨vs,e3,rw1⟩:=m2 a _ hm
  obtain ⟨v,e4,rv⟩:=rw1.get hn
  simp only [RepW,RepD] at rv
  have hj':ixN vs.length i=some j:=by rw [<- rw1.length]; exact hj
  refine ⟨a,vs,i,v,r1,r2,SqL.of e3,by unfold atI; rw [hj']; exact e4,?_⟩
  refine ⟨τ,M2,_,A.go (kp1.trans kp2) m2,q,λ z H3 wz M3 kp3 r3 m3 q3=>?_⟩
  obtain ⟨n',e5,e6,qn⟩:=q3
  subst e5; subst e6
  simp only [RepW,RepD] at r3
  refine ⟨n,n',rv,r3,?_⟩
  obtain ⟨vs',e3',rw2⟩:=m3 a _ hm
  have kp:=(kp1.trans kp2).trans kp3
  obtain ⟨kp4,m4⟩:=set_rep (j:=j) (v:=.int (f n n')) (w:=.d (.int (f n n'))) m3 e3' rw2 (by simp [RepW,RepD])
  exact ⟨a,vs',i,j,r1,r2,e3',by rw [<- rw2.length]; exact hj,k1 σ _ τ _ (kp.trans kp4) (A.go (kp.trans kp4) m4) qn⟩
end
end D
namespace D
open PySem PySem.Spec PyProof.Rows L2
section
variable {X:Cx}{K:PySem.W.Frag}{tg:Expr}
noncomputable def Its (z:Str):It:=⟨λ i _=>i < z.cps.size,λ i H x H'=>H'=H/\∃ c,z.cps[i]? = some c/\x=.str ⟨#[c]⟩,λ i _=>z.cps.size<=i⟩
theorem turn_str {P:Program}{w:World}{K:PySem.W.Frag}{tg:Expr}(it:Addr)(T:String)(z:Str)(t:Tok)
  (hT:["enumerate", "zip", "dict_itemiterator", "dict_reverseitemiterator", "odict_iterator", "itertools.zip_longest", "itertools.pairwise"].contains T=false)
  (W:∀ A:Around,A.handled=none->Walks P w A it [it] [it] z.cps.size (SignAt z) (λ i h=>h.IsStrIter it T z t i))(hself:∀ (A:Around) (i:Nat) (s:Shared) (Q:Value->Shared->Prop) (E:Value->Shared->Prop),s.heap.IsStrIter it T z t i->Q (.ref it) s->wpAny (model P w) A (pyIter (.ref it)) Q E s)
  (hend:∀ (A:Around) (i:Nat) (s:Shared) (Q:Option Value->Shared->Prop) (E:Value->Shared->Prop),A.handled=none->s.heap.IsStrIter it T z t i->z.cps[i]? = none->(∀ h',Heap.ExtBut it s.heap h'->Q none { s with heap:=h' })->wpAny (model P w) A (pyNext (.ref it)) Q E s) :
  Turn P w K tg (Its z) [it] it (λ i h=>h.IsStrIter it T z t i) where
 mem:=by simp
 obj:=λ i h st b hb=>by
  have e:b=it:=by simpa using hb
  subst e
  obtain ⟨o,e,c,d⟩:=st
  exact ⟨o,e,λ v q=>by rw [d] at q; cases q⟩
 keep:=λ i h h' st k=>by
  obtain ⟨o,e,r⟩:=st
  exact ⟨o,k it (by simp) o e,r⟩
 item:=by
  intro X hP hw hK hc i pins s σ H E I hf st hg
  subst hP hw hK
  obtain ⟨f0,f1,f2,f3,f4,f5⟩:=hf it (by simp)
  refine (W X.A (I.ok.hd hc)).item i s _ _ hg st λ v h' tk hv st' kk=>?_
  obtain ⟨c,u,hc',rfl⟩:=hv
  have I1:Inv X pins σ H { s with heap:=h',toks:=tk }:=I.turned (λ b o hb e=>kk b o (by simpa using hb) e) f0 f1 f3 f4 f5
  obtain ⟨o,e,cl,d⟩:=id st'
  exact ⟨_,rfl,go_of (s:={ s with heap:=h',toks:=tk }) e cl d hT ⟨.str ⟨#[c]⟩,H,I1,⟨u,rfl⟩,⟨rfl,c,hc',rfl⟩,st',λ b hb=>(hf b hb).1⟩⟩
 done:=by
  intro X hP hw hK hc i pins s σ H E I hf st hg
  subst hP hw hK
  obtain ⟨f0,f1,f2,f3,f4,f5⟩:=hf it (by simp)
  have hn:z.cps.size<=i:=hg
  exact hend X.A i s _ E (I.ok.hd hc) st (by simp [hn]) λ h' eb=>⟨rfl,I.turned (t':=s.toks) (λ b o hb e=>eb b o hb e) f0 f1 f3 f4 f5⟩
 self:=hself
section
variable {pins:List (Addr×Obj)}{σ:St}{H:Hp}{s:Shared}{R:It->Hp->Prop}{E:Value->Shared->Prop}
theorem it_str {z:Str}{t:Tok}(I:Inv X pins σ H s)(q:R (Its z) H):wpAny (model X.prog X.w) X.A (pyIter (.str z t)) (PIE X pins σ tg R) E s:=by
 cases ha:z.cps.all (· < 128)
 ·refine wpAny_pyIter_wide ha ?_
  refine ⟨s.heap.objs.size,[s.heap.objs.size],_,_,H,rfl,I.kept (t':=s.toks) λ b o e=>Heap.get?_push_of_some _ e,
   turn_str _ "str_iterator" z t (by decide) (λ A hA=>Walks.strWide hA _ z t) (λ A i s Q E st h=>wpAny_pyIter_striter_wide st h) (λ A i s Q E hh st hx hQ=>wpAny_pyNext_wide_end hh st hx hQ),⟨_,Heap.get?_push_size _ rfl,rfl,rfl⟩,λ b hb=>?_,q⟩
  have e:b=s.heap.objs.size:=by simpa using hb
  subst e
  exact I.fpOk (Nat.le_refl _) (I.hok.fresh (Nat.le_refl _))
 ·refine wpAny_pyIter_ascii ha ?_
  refine ⟨s.heap.objs.size,[s.heap.objs.size],_,_,H,rfl,I.kept (t':=s.toks) λ b o e=>Heap.get?_push_of_some _ e,
   turn_str _ "str_ascii_iterator" z t (by decide) (λ A hA=>Walks.strAscii hA _ z t) (λ A i s Q E st h=>wpAny_pyIter_striter_ascii st h) (λ A i s Q E hh st hx hQ=>wpAny_pyNext_ascii_end hh st hx hQ),⟨_,Heap.get?_push_size _ rfl,rfl,rfl⟩,λ b hb=>?_,q⟩
  have e:b=s.heap.objs.size:=by simpa using hb
  subst e
  exact I.fpOk (Nat.le_refl _) (I.hok.fresh (Nat.le_refl _))
theorem it_list {a:Addr}{xs:List V}(I:Inv X pins σ H s)(hq:SqL X.K H a xs)(q:R (Itl X.K a) H):wpAny (model X.prog X.w) X.A (pyIter (.ref a)) (PIE X pins σ tg R) E s:=by
 obtain ⟨its,rv,p,hz⟩:=I.list hq
 refine wpAny_pyIter_list p.isList ?_
 refine ⟨s.heap.objs.size,[s.heap.objs.size],_,_,H,rfl,I.kept (t':=s.toks) λ b o e=>Heap.get?_push_of_some _ e,turn_list a _,⟨_,Heap.get?_push_size _ rfl,rfl,rfl⟩,λ b hb=>?_,q⟩
 have e:b=s.heap.objs.size:=by simpa using hb
 subst e
 exact I.fpOk (Nat.le_refl _) (I.hok.fresh (Nat.le_refl _))
theorem it_tup {a:Addr}{xs:List V}(I:Inv X pins σ H s)(hq:SqT X.K H a xs)(q:R (Itt X.K a) H):wpAny (model X.prog X.w) X.A (pyIter (.ref a)) (PIE X pins σ tg R) E s:=by
 obtain ⟨its,rv,p,hz⟩:=I.tuple hq
 refine wpAny_pyIter_tuple (show s.heap.IsTuple a its.toArray from p) ?_
 refine ⟨s.heap.objs.size,[s.heap.objs.size],_,_,H,rfl,I.kept (t':=s.toks) λ b o e=>Heap.get?_push_of_some _ e,turn_tuple a _,⟨_,Heap.get?_push_size _ rfl,rfl,rfl⟩,λ b hb=>?_,q⟩
 have e:b=s.heap.objs.size:=by simpa using hb
 subst e
 exact I.fpOk (Nat.le_refl _) (I.hok.fresh (Nat.le_refl _))
end
noncomputable def iAny (K:PySem.W.Frag)(tl:TE):TI:=λ σ H R=>tl σ H λ x H1=>(∃ a xs,x=.ref a/\SqL K H1 a xs/\R (Itl K a) H1)\/(∃ a xs,x=.ref a/\SqT K H1 a xs/\R (Itt K a) H1)\/∃ z,x=.str z/\R (Its z) H1
theorem pi_any {l:Expr}{tl:TE}(hl:PE X l tl):PI X tg l (iAny X.K tl):=by
 intro pins s σ H R I h
 refine thn (hl pins s σ H _ I h) λ v s1 hq48=>?_
 obtain ⟨x,H1,I1,r1,q1⟩:=hq48
 rcases q1 with ⟨a,xs,e,hq,q⟩ | ⟨a,xs,e,hq,q⟩ | ⟨z,e,q⟩
 ·subst e; cases r1; exact it_list I1 hq q
 ·subst e; cases r1; exact it_tup I1 hq q
 ·subst e; obtain ⟨t,rfl⟩:=r1; exact it_str I1 q
noncomputable def ItD (K:PySem.W.Frag)(J:It)(H0:Hp)(ws:List W):Prop:=∀ H,Kp H0 H->∀ i:Nat,(i < ws.length->J.go i H)/\(ws.length<=i->J.stop i H) /\
 ∀ x H',i < ws.length->J.yld i H x H'->Kp H H'/\(∀ M,MAbs K H M->MAbs K H' M)/\∃ w,ws[i]? = some w/\RepW K H' w x
noncomputable abbrev TId:=DS->MH->(List W->MH->Prop)->Prop
noncomputable def upI (K:PySem.W.Frag)(t:TId):TI:=λ σ H R=>∃ τ M Rd,Abs K H σ τ M/\t τ M Rd/\∀ J H' ws M',Kp H H'->MAbs K H' M'->ItD K J H' ws->Rd ws M'->R J H'
noncomputable abbrev PId (X:Cx)(tg iter:Expr)(t:TId):Prop:=PI X tg iter (upI X.K t)
theorem pi_w {iter:Expr}{t t':TI}(h:PI X tg iter t)(k:∀ σ H R,t' σ H R->t σ H R):PI X tg iter t':=λ pins s σ H R I q=>h pins s σ H R I (k σ H R q)
noncomputable def itemsW:W->Option (List W)
 | .d (.list ds)=>some (ds.map W.d)
 | .d (.tuple ds)=>some (ds.map W.d)
 | .d (.str z)=>some (z.cps.toList.map λ c=>W.d (.str ⟨#[c]⟩))
 | _=>none
noncomputable def dItems (te:TD)(τ:DS)(M:MH)(R:List W->MH->Prop):Prop:=te τ M λ w M1=>∃ ws,itemsW w=some ws/\R ws M1
theorem itd_tup {H:Hp}{a:Addr}{vs:List V}{ds:List PyData}(hs:SqT K H a vs)(ra:RepA K H ds vs):ItD K (Itt K a) H (ds.map W.d):=λ H1 kp i=>by
 have hl:=ra.length
 refine ⟨λ hi=>?_,λ hi=>⟨vs,SqT.keep kp hs,by rw [List.length_map] at hi; omega⟩,λ x H' hi y=>?_⟩
 ·rw [List.length_map] at hi
  exact ⟨vs,vs[i]'(by omega),SqT.keep kp hs,by simp⟩
 ·obtain ⟨e,y⟩:=y
  subst e
  have ev:=y vs (SqT.keep kp hs)
  obtain ⟨d,e1,rd⟩:=(ra.keep kp).get' ev
  exact ⟨Kp.refl _,λ M m=>m,.d d,by simp [e1],rd⟩
theorem itd_str {H:Hp}(z:Str):ItD K (Its z) H (z.cps.toList.map λ c=>W.d (.str ⟨#[c]⟩)):=λ H1 kp i=>by
 refine ⟨λ hi=>(show i < z.cps.size by simpa using hi),λ hi=>(show z.cps.size<=i by simpa using hi),λ x H' hi y=>?_⟩
 obtain ⟨e,c,hc,ex⟩:=y
 subst e; subst ex
 exact ⟨Kp.refl _,λ M m=>m,.d (.str ⟨#[c]⟩),by simp [hc],by simp [RepW,RepD]⟩
theorem itd_rng {H:Hp}(lo:Int)(n:Nat):ItD K (Itr lo n) H ((List.range n).map λ i:Nat=>W.d (.int (lo+(i:Int)))):=λ H1 kp i=>by
 refine ⟨λ hi=>(show i < n by simpa using hi),λ hi=>(show n<=i by simpa using hi),λ x H' hi y=>?_⟩
 obtain ⟨e,ex⟩:=y
 subst e; subst ex
 simp at hi
 exact ⟨Kp.refl _,λ M m=>m,.d (.int (lo+i)),by simp [hi],by simp [RepW,RepD]⟩
theorem pid_items {l:Expr}{te:TD}(h:PD X l te):PId X tg l (dItems te):=pi_w (pi_any h) λ σ H R hq49=>by
 obtain ⟨τ,M,Rd,A,h,k⟩:=hq49
 refine ⟨τ,M,_,A,h,λ v H1 w M1 kp r m hq50=>?_⟩
 obtain ⟨ws,e,q⟩:=hq50
 cases w with
 | t n=>simp [itemsW] at e
 | m a=>simp [itemsW] at e
 | d d =>
  cases d with
  | list ds =>
   simp only [itemsW] at e
   cases e
   simp only [RepW,RepD] at r
   obtain ⟨a,vs,e1,hs,ra⟩:=r
   refine .inl ⟨a,vs,e1,hs.sq,k _ H1 _ M1 kp m ?_ q⟩
   intro H2 kp2 i
   have hl:=ra.length
   have hs2:=(hs.keep kp2).sq
   refine ⟨λ hi=>?_,λ hi=>⟨vs,hs2,by rw [List.length_map] at hi; omega⟩,λ x H' hi y=>?_⟩
   ·rw [List.length_map] at hi
    exact ⟨vs,vs[i]'(by omega),hs2,by simp⟩
   ·obtain ⟨e,y⟩:=y
    subst e
    have ev:=y vs hs2
    obtain ⟨d,e1,rd⟩:=(ra.keep kp2).get' ev
    exact ⟨Kp.refl _,λ M m=>m,.d d,by simp [e1],rd⟩
  | tuple ds =>
   simp only [itemsW] at e
   cases e
   simp only [RepW,RepD] at r
   obtain ⟨a,vs,e1,hs,ra⟩:=r
   exact .inr (.inl ⟨a,vs,e1,hs,k _ H1 _ M1 kp m (itd_tup hs ra) q⟩)
  | str z =>
   simp only [itemsW] at e
   cases e
   simp only [RepW,RepD] at r
   exact .inr (.inr ⟨z,r,k _ H1 _ M1 kp m (itd_str z) q⟩)
  | _=>simp [itemsW] at e
noncomputable def rangeW (lo:Int)(n:Nat):List W:=(List.range n).map λ i:Nat=>W.d (.int (lo+(i:Int)))
noncomputable def dRng1 (ta:TAd)(τ:DS)(M:MH)(R:List W->MH->Prop):Prop:=ta τ M λ ws M1=>∃ j:Int,ws=[.d (.int j)]/\-(2 ^ 62)<=j/\j < 2 ^ 62/\R (rangeW 0 j.toNat) M1
theorem repWs1 {H:Hp}{vs:List V}{w:W}(r:RepWs K H [w] vs):∃ v,vs=[v]/\RepW K H w v:=by
 cases r with
 | cons r1 r2=>cases r2; exact ⟨_,rfl,r1⟩
theorem repWs2 {H:Hp}{vs:List V}{w w':W}(r:RepWs K H [w,w'] vs):∃ v v',vs=[v,v']/\RepW K H w v/\RepW K H w' v':=by
 cases r with
 | cons r1 r2 =>
  cases r2 with
  | cons r3 r4=>cases r4; exact ⟨_,_,rfl,r1,r3⟩
theorem pid_range1 {a:Expr}{ta:TAd}{p pos:Pos}(hg:Gl X "range")(hm:X.mg "range" = none)(ha:PAd X [a] ta)(hs:starEach [a] X.env=[(false,eval a X.env)]:=by rfl):PId X tg (.Call (.Name "range" p) [a] [] pos) (dRng1 ta) :=
 pi_w (pi_range1 hg hm ha hs) λ σ H R ⟨τ,M,Rd,A,h,k⟩=>⟨τ,M,_,A,h,λ vs H1 ws M1 kp r m hq51=>by
  obtain ⟨j,e,h1,h2,q⟩:=hq51
  subst e
  obtain ⟨v,e1,r1⟩:=repWs1 r
  simp only [RepW,RepD] at r1
  subst r1
  exact ⟨j,e1,h1,h2,k _ H1 _ M1 kp m (itd_rng 0 j.toNat) q⟩⟩
noncomputable def dFor (di:TId)(g:TGd)(tb:TSd)(D:Ed)(τ:DS)(M:MH):Prop:=di τ M λ ws M1=>∃ P:Nat->DS->MH->Prop,P 0 τ M1 /\
 (∀ i w τ M,ws[i]? = some w->P i τ M->g w τ M λ τ2 M2=>tb { D with nx:=P (i+1),ct:=P (i+1),bk:=D.nx } τ2 M2)/\∀ τ M,P ws.length τ M->D.nx τ M
theorem psd_for {iter:Expr}{body:List Stmt}{di:TId}{g:TGd}{tb:TSd}{pos:Pos}(hp:PassesOwn (model X.prog X.w) X.A X.env X.xe)(hc:X.calm=true)(hi:PId X tg iter di)(hg:PGd X tg g)(hb:PSsd X body tb)
  (hs:∀ x,foldedSetIterable iter X.env x=pure x:=by intro _; rfl):PSd X (.For tg iter body [] pos) (dFor di g tb):=ps_w (ps_for hp hc hi hg hb hs) λ D σ H hq52=>by
 obtain ⟨τ,M,Dd,A,h,k1,k2,k3,k4⟩:=hq52
 refine ⟨τ,M,_,A,h,λ J H1 ws M1 kp m1 it hq53=>?_⟩
 obtain ⟨P,p0,pt,pe⟩:=hq53
 refine ⟨λ i n σ H'=>n=ws.length - i/\i<=ws.length/\Kp H1 H'/\∃ τ M,Abs X.K H' σ τ M/\P i τ M,⟨ws.length,by simp,Nat.zero_le _,Kp.refl _,τ,M1,A.go kp m1,p0⟩,?_⟩
 rintro i n σ2 H2 ⟨rfl,hi,kp2,τ2,M2,A2,p2⟩
 obtain ⟨go,stop,yld⟩:=it H2 kp2 i
 by_cases hlt:i < ws.length
 ·refine .inr ⟨go hlt,λ σ3 H3=>Kp H2 H3/\∃ τ M,Abs X.K H3 σ3 τ M/\P (i+1) τ M,λ σ3 H3 ⟨kp3,τ3,M3,A3,p3⟩=>⟨ws.length - (i+1),by omega,rfl,hlt,kp2.trans kp3,τ3,M3,A3,p3⟩,λ x H3 y=>?_⟩
  obtain ⟨kp3,mk,w,ew,rw⟩:=yld x H3 hlt y
  refine ⟨w,τ2,M2,_,rw,A2.go kp3 (mk _ A2.mem),pt i w τ2 M2 ew p2,λ σ4 H4 τ4 M4 kp4 A4 q4=>?_⟩
  have kq:=kp3.trans kp4
  have kr:=(kp.trans kp2).trans kq
  exact ⟨τ4,M4,_,A4,q4,λ σ5 H5 τ5 M5 kp5 A5 q5=>⟨kq.trans kp5,τ5,M5,A5,q5⟩,λ v H5 w M5 kp5=>k2 v H5 w M5 (kr.trans kp5),λ σ5 H5 τ5 M5 kp5=>k1 σ5 H5 τ5 M5 (kr.trans kp5),λ σ5 H5 τ5 M5 kp5 A5 q5=>⟨kq.trans kp5,τ5,M5,A5,q5⟩⟩
 ·have hl:i=ws.length:=by omega
  subst hl
  exact .inl ⟨stop (Nat.le_refl _),k1 σ2 H2 τ2 M2 (kp.trans kp2) A2 (pe τ2 M2 p2)⟩
noncomputable def lcSD (k:Nat)(fr:List Nat)(τ:DS):DS:=List.replicate k none++fr.map λ j=>(τ[j]?).getD none
theorem abs_lc {H:Hp}{σ:St}{τ:DS}{M:MH}(A:Abs K H σ τ M)(k:Nat)(fr:List Nat):Abs K H (lcS k fr σ) (lcSD k fr τ) M:=by
 refine ⟨by simp [lcS,lcSD],λ i w e=>?_,A.mem⟩
 unfold lcSD at e
 by_cases hi:i < k
 ·rw [List.getElem?_append_left (by simpa using hi),List.getElem?_replicate] at e
  split at e <;> cases e
 ·rw [List.getElem?_append_right (by simpa using hi),List.getElem?_map,List.length_replicate] at e
  cases q:fr[i - k]? with
  | none=>rw [q] at e; cases e
  | some j =>
   rw [q] at e
   have e':(τ[j]?).getD none=some w:=Option.some.inj e
   have e2:τ[j]? = some (some w):=by
    cases z:τ[j]? with
    | none=>rw [z] at e'; cases e'
    | some o=>rw [z] at e'; exact congrArg some e'
   obtain ⟨v,q1,r⟩:=A.val j w e2
   refine ⟨v,?_,r⟩
   unfold lcS
   rw [List.getElem?_append_right (by simpa using hi),List.getElem?_map,List.length_replicate,q]
   simp [q1]
noncomputable def dLC (di:TId)(g:TGd)(tt:TTd)(te:TD)(k:Nat)(fr:List Nat)(τ:DS)(M:MH)(Q:QD):Prop:=di τ M λ ws M1=>∃ P:Nat->List PyData->DS->MH->Prop,P 0 [] (lcSD k fr τ) M1 /\
 (∀ i w acc τ M,ws[i]? = some w->P i acc τ M->acc.length < sizeLine/\g w τ M λ τ2 M2=>tt τ2 M2 λ b M3=>if b=true then te τ2 M3 λ y M4=>∃ d,y=.d d/\P (i+1) (acc++[d]) τ2 M4 else P (i+1) acc τ2 M3) /\
 ∀ acc τ M,P ws.length acc τ M->Q (.d (.list acc)) M
theorem imp_lc {di:TId}{g:TGd}{tt:TTd}{te:TD}{k:Nat}{fr:List Nat}{σ:St}{H:Hp}{Q:VK}(h:up K (dLC di g tt te k fr) σ H Q) :
  tFrz (tLC (upI K di) (upG K g) (upT K tt) (up K te) k fr) σ H Q:=by
 obtain ⟨τ,M,Qd,A,h,kk⟩:=h
 refine ⟨τ,M,_,A,h,λ J H1 ws M1 kp m1 it hq54=>?_⟩
 obtain ⟨P,p0,pt,pe⟩:=hq54
 refine ⟨λ i n ys σ' H'=>n=ws.length - i/\i<=ws.length/\Kp H1 H'/\∃ acc τ M,RepA K H' acc ys/\Abs K H' σ' τ M/\P i acc τ M,⟨ws.length,by simp,Nat.zero_le _,Kp.refl _,[],_,M1,by simp [RepA],abs_lc (A.go kp m1) k fr,p0⟩,?_⟩
 rintro i n ys σ2 H2 ⟨rfl,hi,kp2,acc,τ2,M2,ra,A2,p2⟩
 obtain ⟨go,stop,yld⟩:=it H2 kp2 i
 by_cases hlt:i < ws.length
 ·have hlen:=ra.length
  refine .inr ⟨go hlt,?_,λ x H3 y=>?_⟩
  ·obtain ⟨w,hw⟩:∃ w,ws[i]? = some w:=⟨ws[i],by simp [hlt]⟩
   have:=(pt i w acc τ2 M2 hw p2).1
   omega
  obtain ⟨kp3,mk,w,ew,rw⟩:=yld x H3 hlt y
  refine ⟨w,τ2,M2,_,rw,A2.go kp3 (mk _ A2.mem),(pt i w acc τ2 M2 ew p2).2,λ σ4 H4 τ4 M4 kp4 A4 q4=>⟨τ4,M4,_,A4,q4,λ b H5 M5 kp5 m5 q5=>?_⟩⟩
  have kq:=(kp3.trans kp4).trans kp5
  cases b with
  | false =>
   rw [if_neg Bool.false_ne_true] at q5
   show (if false=true then _ else _)
   rw [if_neg Bool.false_ne_true]
   exact ⟨ws.length - (i+1),by omega,rfl,hlt,kp2.trans kq,acc,τ4,M5,ra.keep kq,A4.go kp5 m5,q5⟩
  | true =>
   rw [if_pos rfl] at q5
   show (if true=true then _ else _)
   rw [if_pos rfl]
   refine ⟨τ4,M5,_,A4.go kp5 m5,q5,λ v H6 wv M6 kp6 r6 m6 hq55=>?_⟩
   obtain ⟨d,e6,q6⟩:=hq55
   subst e6
   refine ⟨ws.length - (i+1),by omega,rfl,hlt,kp2.trans (kq.trans kp6),acc++[d],τ4,M6,RepA.append (ra.keep (kq.trans kp6)) ?_,A4.go (kp5.trans kp6) m6,q6⟩
   simp only [RepA]
   exact ⟨v,[],rfl,r6,rfl⟩
 ·have hl:i=ws.length:=by omega
  subst hl
  exact .inl ⟨stop (Nat.le_refl _),λ p hp=>imp_frz hp ra A2.mem (pe acc τ2 M2 p2) (kgo kk (kp.trans kp2))⟩
section
variable {sc:Scope}{own:List Str}{fr:List Nat}{elt iter:Expr}{ifs:List Expr}{pos:Pos}{di:TId}{g:TGd}{tt:TTd}{te:TD}
noncomputable abbrev PTsd (X:Cx)(ifs:List Expr)(t:TTd):Prop:=PTs X ifs (upT X.K t)
noncomputable def dYes (_:DS)(M:MH)(Q:Bool->MH->Prop):Prop:=Q true M
theorem ptsd_nil:PTsd X [] dYes:=λ pins s σ H Q I ⟨τ,M,Qd,A,q,k⟩=>pts_nil pins s σ H Q I (k true H M (Kp.refl H) A.mem q)
theorem ptsd_one {c:Expr}{t:TTd}(h:PTd X c t):PTsd X [c] t:=pts_one h
theorem pd_lc (hc:X.calm=true)(L:LcOk X sc own fr)(hi:PId X tg iter di)
  (hg:∀ cl C s H ex pl,PGd (blk X sc (lcN X own fr) cl C s H ex pl) tg g)(ht:∀ cl C s H ex pl,PTsd (blk X sc (lcN X own fr) cl C s H ex pl) ifs tt)(he:∀ cl C s H ex pl,PD (blk X sc (lcN X own fr) cl C s H ex pl) elt te)
  (hs:∀ x,foldedSetIterable iter X.env x=pure x:=by intro _; rfl):PD X (.ListComp elt [⟨tg,iter,ifs,0⟩] sc pos) (dLC di g tt te own.length fr) :=
 pe_w (pe_frz (pe_lc hc L hi hg ht he hs)) λ σ H Q h=>imp_lc h
theorem ps_frz {st:Stmt}{t:TS}(h:PS X st t):PS X st (λ D σ H=>t { D with nx:=λ σ' H'=>∃ p u,H' p=some u/\Fz u/\∀ o,D.nx σ' (upd H' p (.frz o u)) } σ H):=by
 intro pins s σ H D I hq
 refine thn (h pins s σ H _ I hq) λ f s1 q=>?_
 cases f with
 | next =>
  obtain ⟨σ',H',I',p,u,e,fz,q⟩:=q
  obtain ⟨o,I2⟩:=I'.freeze e fz
  exact ⟨σ',_,I2,q o⟩
 | brk=>exact q
 | cont=>exact q
 | ret v=>exact q
theorem psd_setLC {i:Nat}{x:Str}{pos' spos:Pos}(hN:X.N.Nodup)(hi':X.N[i]? = some x)(hx:Loc X.env.scope x)(hc:X.calm=true)(L:LcOk X sc own fr)(hi:PId X tg iter di)
  (hg:∀ cl C s H ex pl,PGd (blk X sc (lcN X own fr) cl C s H ex pl) tg g)(ht:∀ cl C s H ex pl,PTsd (blk X sc (lcN X own fr) cl C s H ex pl) ifs tt)(he:∀ cl C s H ex pl,PD (blk X sc (lcN X own fr) cl C s H ex pl) elt te)
  (hsw:swapsWith (.ListComp elt [⟨tg,iter,ifs,0⟩] sc pos) (some (.Name x pos')) spos.line X.env=pure true:=by rfl)
  (hs:∀ x,foldedSetIterable iter X.env x=pure x:=by intro _; rfl)(hf:X.fn x=true\/X.env.scope.names.lookup x=some .local:=by first | exact .inl rfl | exact .inr rfl | assumption) :
  PSd X (.Assign [.Name x pos'] (.ListComp elt [⟨tg,iter,ifs,0⟩] sc pos) spos) (dAsg (dLC di g tt te own.length fr) (gN i)):=ps_w (ps_frz (ps_setLC hN hi' hx hc L hi hg ht he hsw hs hf)) λ D σ H hq56=>by
 obtain ⟨τ,M,Dd,A,h,k1,_⟩:=hq56
 have z:up X.K (dLC di g tt te own.length fr) σ H (λ v H'=>D.nx (σ.set i (some v)) H'):=⟨τ,M,_,A,h,λ v H1 w M1 kp r m q=>k1 _ H1 _ M1 kp ((A.go kp m).set i r) q⟩
 obtain ⟨τ',M',R',A',h',k'⟩:=imp_lc z
 refine ⟨τ',M',R',A',h',λ J H1 ws M1 kp m1 it q=>?_⟩
 obtain ⟨W,w0,st⟩:=k' J H1 ws M1 kp m1 it q
 refine ⟨W,w0,λ i m ys τ H w=>?_⟩
 rcases st i m ys τ H w with ⟨s1,s2⟩ | r
 ·refine .inl ⟨s1,λ p hp=>?_⟩
  obtain ⟨p',u,e1,e2,f,q⟩:=s2 p hp
  cases e1
  exact ⟨p,u,e2,f,q⟩
 ·exact .inr r
end
end
end D
namespace D
open PySem PySem.Spec PyProof.Rows L2
section
variable {X:Cx}{K:PySem.W.Frag}
noncomputable def rdAbs (ws:List W)(M:MH)(Q:QD):Prop:=∃ i:Int,ws=[.d (.int i)]/\Q (.d (.int (if i < 0 then -i else i))) M
theorem cd_abs:CallD K (λ xs H Q=>∃ i,xs=[.int i]/\Q (.int (if i < 0 then -i else i)) H) rdAbs:=by
 intro vs H ws M Qd Q r m ⟨i,e,q⟩ k
 subst e
 obtain ⟨v,e1,r1⟩:=repWs1 r
 simp only [RepW,RepD] at r1
 subst r1
 exact ⟨i,e1,k _ H (.d (.int _)) M (Kp.refl H) (by simp [RepW,RepD]) m q⟩
noncomputable def lenW (M:MH):W->Option Nat
 | .d (.list ds)=>some ds.length
 | .d (.tuple ds)=>some ds.length
 | .d (.str z)=>some z.length
 | .m a=>match M a with
  | some (.lst ws)=>some ws.length
  | _=>none
 | _=>none
noncomputable def rdLen (ws:List W)(M:MH)(Q:QD):Prop:=∃ w n,ws=[w]/\lenW M w=some n/\fitW w=true/\Q (.d (.int (n:Nat))) M
theorem cd_len:CallD K (λ xs H Q=>∃ x n,xs=[x]/\LenV K x H n/\Q (.int n) H) rdLen:=by
 intro vs H ws M Qd Q r m ⟨w,n,e,hn,hf,q⟩ k
 subst e
 obtain ⟨v,e1,r1⟩:=repWs1 r
 refine ⟨v,n,e1,?_,k _ H (.d (.int _)) M (Kp.refl H) (by simp [RepW,RepD]) m q⟩
 cases w with
 | t _=>simp [lenW] at hn
 | m a =>
  simp only [RepW] at r1
  subst r1
  simp only [lenW] at hn
  cases hm:M a with
  | none=>rw [hm] at hn; cases hn
  | some mo =>
   rw [hm] at hn
   cases mo with
   | lst l=>cases hn; obtain ⟨us,e2,rw1⟩:=m a _ hm; exact .inl ⟨us,SqL.of e2,rw1.length⟩
   | dic _=>cases hn
   | dct _=>cases hn
   | fdic _=>cases hn
   | ins _ _=>cases hn
   | tup _=>cases hn
   | flst _=>cases hn
   | exc _ _=>cases hn
   | code _ _=>cases hn
 | d d =>
  cases d with
  | list ds=>simp only [lenW] at hn; cases hn; simp only [RepW,RepD] at r1; obtain ⟨a,us,e2,hs,ra⟩:=r1; subst e2; exact .inl ⟨us,hs.sq,ra.length.symm⟩
  | tuple ds=>simp only [lenW] at hn; cases hn; simp only [RepW,RepD] at r1; obtain ⟨a,us,e2,hs,ra⟩:=r1; subst e2; exact .inr ⟨us,hs,ra.length.symm⟩
  | str z=>simp only [lenW] at hn; cases hn; simp only [RepW,RepD] at r1; subst r1; exact ⟨of_decide_eq_true hf,rfl⟩
  | _=>simp [lenW] at hn
noncomputable def rdAll (ws:List W)(M:MH)(Q:QD):Prop:=∃ bs:List Bool,ws=[.d (.list (bs.map PyData.bool))]/\Q (.d (.bool (bs.all id))) M
theorem cd_all:CallD K (λ xs H Q=>∃ (x:V) (bs:List Bool),xs=[x]/\RepD K H (.list (bs.map PyData.bool)) x/\Q (.bl (bs.all id)) H) rdAll:=by
 intro vs H ws M Qd Q r m ⟨bs,e,q⟩ k
 subst e
 obtain ⟨v,e1,r1⟩:=repWs1 r
 exact ⟨v,bs,e1,r1,k _ H (.d (.bool _)) M (Kp.refl H) (by simp [RepW,RepD]) m q⟩
theorem strs_are {H:Hp}:∀ {ys:List Str} {vs:List V} {us:List Value},RepA K H (ys.map PyData.str) vs->Vals vs us->StrsAre us ys
 | [],vs,us,h,r=>by simp only [List.map_nil,RepA] at h; subst h; cases r; exact .nil
 | y :: ys,vs,us,h,r=>by
  simp only [List.map_cons,RepA] at h
  obtain ⟨v,vr,e,h1,h2⟩:=h
  subst e
  simp only [RepD] at h1
  subst h1
  cases r with
  | cons r1 r2 =>
   obtain ⟨t,e⟩:=(show ∃ t,_=Value.str y t from r1)
   subst e
   exact .cons _ _ (strs_are h2 r2)
noncomputable def MtD (K:PySem.W.Frag)(r:V->List V->Hp->VK->Prop)(rd:W->List W->MH->QD->Prop):Prop:=∀ x vs H w ws M Qd Q,RepW K H w x->RepWs K H ws vs->MAbs K H M->rd w ws M Qd->Kont K H Qd Q->r x vs H Q
noncomputable def dMS (rd:W->List W->MH->QD->Prop)(to:TD)(t:TAd)(τ:DS)(M:MH)(Q:QD):Prop:=to τ M λ w M1=>(∃ z,w=.d (.str z))/\t τ M1 λ ws M2=>rd w ws M2 Q
theorem pd_ms {o e:Expr}{es:List Expr}{to:TD}{t:TAd}{name:Str}{apos cpos:Pos}{id:String}{r:V->List V->Hp->VK->Prop}{rd:W->List W->MH->QD->Prop}(slot:Slot "str" name id)(hty:typeOf (.builtin id)=pure (.type "method_descriptor"))(hm:MtR X id r)(hd:MtD X.K r rd)(ho:PD X o to)(ha:PAd X (e :: es) t)
  (hbase:attributeBase o name X.env (eval o X.env)=eval o X.env:=by rfl)
  (hfew:((backTo cpos (starEach (e :: es) X.env)).all (λ x=>!x.1) && (backToKw cpos (keywordEach [] X.env)).all (λ x=>x.1.isSome)
   && decide ((e :: es).length+([]:List Keyword).length+(if ([]:List Keyword).isEmpty then 0 else 1) < 30))=true:=by rfl)
  (hline:(apos.endLine == cpos.line)=true:=by rfl)(hs:starEach (e :: es) X.env=(false,eval e X.env) :: starEach es X.env:=by rfl)(hplain:(backTo cpos (starEach es X.env)).any (·.1)=false:=by rfl) :
  PD X (.Call (.Attribute o name apos) (e :: es) [] cpos) (dMS rd to t):=pe_w (pe_bm PySem.F.plainAttrs_str slot hty hm ho ha hbase hfew hline hs hplain) λ σ H Q hq57=>by
 obtain ⟨τ,M,Qd,A,h,k⟩:=hq57
 refine ⟨τ,M,_,A,h,λ x H1 w M1 kp1 r1 m1 hq58=>?_⟩
 obtain ⟨⟨z,ez⟩,q1⟩:=hq58
 subst ez
 have r1':=r1
 simp only [RepW,RepD] at r1'
 subst r1'
 exact ⟨rfl,τ,M1,_,A.go kp1 m1,q1,λ vs H2 ws M2 kp2 r2 m2 q2=>hd _ vs H2 _ ws M2 Qd Q (r1.keep kp2) r2 m2 q2 (kgo k (kp1.trans kp2))⟩
noncomputable def rJoin (K:PySem.W.Frag):V->List V->Hp->VK->Prop:=λ x vs H Q=>∃ (sep:Str) (v:V) (ys:List Str),x=.str sep/\vs=[v]/\RepD K H (.list (ys.map PyData.str)) v/\(ys.map (·.length)).sum+ys.length * sep.length<=16777216/\Q (.str (Txt.join sep ys)) H
theorem mt_join:MtR X "str.join" (rJoin X.K):=by
 intro pins s σ H x vs v us Q I rx rv h
 obtain ⟨sep,y,ys,rfl,rfl,rd,hz,q⟩:=h
 obtain ⟨t,rfl⟩:=rx
 obtain ⟨u,rfl,ru⟩:=vals1 rv
 simp only [RepD] at rd
 obtain ⟨a,xs,e,hs,ra⟩:=rd
 subst e
 cases (show u=Value.ref a from ru)
 obtain ⟨its,r,pl,hz'⟩:=I.list hs.sq
 exact join_list pl.isList (by simpa using strs_are ra r) hz λ t' k=>⟨.str _,H,I.tok _,⟨_,rfl⟩,q⟩
noncomputable def rdJoin (w:W)(ws:List W)(M:MH)(Q:QD):Prop:=∃ (sep:Str) (ys:List Str),w=.d (.str sep)/\ws=[.d (.list (ys.map PyData.str))]/\(ys.map (·.length)).sum+ys.length * sep.length<=16777216/\Q (.d (.str (Txt.join sep ys))) M
theorem md_join:MtD K (rJoin K) rdJoin:=by
 intro x vs H w ws M Qd Q r1 r2 m ⟨sep,ys,e1,e2,hz,q⟩ k
 subst e1; subst e2
 obtain ⟨v,e3,r3⟩:=repWs1 r2
 simp only [RepW,RepD] at r1
 exact ⟨sep,v,ys,r1,e3,r3,hz,k _ H (.d (.str _)) M (Kp.refl H) (by simp [RepW,RepD]) m q⟩
theorem pd_join {o e:Expr}{to te:TD}{apos cpos:Pos}(ho:PD X o to)(ha:PD X e te)
  (hbase:attributeBase o "join" X.env (eval o X.env)=eval o X.env:=by rfl)(hs:starEach [e] X.env=[(false,eval e X.env)]:=by rfl)
  (hfew:((backTo cpos (starEach [e] X.env)).all (λ x=>!x.1) && (backToKw cpos (keywordEach [] X.env)).all (λ x=>x.1.isSome)
   && decide (([e]:List Expr).length+([]:List Keyword).length+(if ([]:List Keyword).isEmpty then 0 else 1) < 30))=true:=by rfl)
  (hline:(apos.endLine == cpos.line)=true:=by rfl) :
  PD X (.Call (.Attribute o "join" apos) [e] [] cpos) (dMS rdJoin to (dCons te dNil)):=pd_ms PySem.F.slot_str_join PySem.F.type_str_join mt_join md_join ho (pad_cons ha pad_nil hs) hbase hfew hline hs
noncomputable def dPairs:List (TD×TD)->DS->MH->(List (W×W)->MH->Prop)->Prop
 | [],_,M,Q=>Q [] M
 | (tk,tv) :: r,τ,M,Q=>tk τ M λ x M1=>tv τ M1 λ y M2=>dPairs r τ M2 λ ps M3=>Q ((x,y) :: ps) M3
theorem imp_pairs:∀ {trs:List (TD×TD)} {σ:St} {H:Hp} {τ:DS} {M:MH} {Qd:List (W×W)->MH->Prop} {Q:List (V×V)->Hp->Prop},Abs K H σ τ M->dPairs trs τ M Qd ->
  (∀ ps H' ws M',Kp H H'->Paired (λ (p:W×W) (q:V×V)=>RepW K H' p.1 q.1/\RepW K H' p.2 q.2) ws ps->MAbs K H' M'->Qd ws M'->Q ps H')->tPairs (trs.map λ p=>(up K p.1,up K p.2)) σ H Q
 | [],σ,H,τ,M,Qd,Q,A,h,k=>k [] H [] M (Kp.refl H) .nil A.mem h
 | (tk,tv) :: r,σ,H,τ,M,Qd,Q,A,h,k=>by
  show (up K tk) σ H _
  refine ⟨τ,M,_,A,h,λ x H1 w M1 kp1 r1 m1 q1=>⟨τ,M1,_,A.go kp1 m1,q1,λ y H2 w' M2 kp2 r2 m2 q2=>?_⟩⟩
  refine imp_pairs (A.go (kp1.trans kp2) m2) q2 λ ps H3 ws M3 kp3 r3 m3 q3=>?_
  exact k _ H3 _ M3 ((kp1.trans kp2).trans kp3) (.cons ⟨r1.keep (kp2.trans kp3),r2.keep kp3⟩ r3) m3 q3
theorem mergeK_new:∀ {more kvs:List (Key×V)},((kvs++more).map (·.1)).Nodup->mergeK kvs more=kvs++more
 | [],kvs,_=>by simp [mergeK]
 | p :: r,kvs,h=>by
  have hn:valV kvs p.1=none:=by
   cases e:valV kvs p.1 with
   | none=>rfl
   | some v =>
    have q:(kvs.any λ kv=>decide (kv.1=p.1))=true:=by rw [valV_any,e]; rfl
    obtain ⟨z,hz,ez⟩:=List.any_eq_true.mp q
    rw [List.map_append,List.nodup_append] at h
    exact absurd (of_decide_eq_true ez) (h.2.2 _ (List.mem_map_of_mem hz) _ (by simp))
  show mergeK (putK kvs p.1 p.2) r=_
  rw [putK_new _ hn,mergeK_new (by simpa using h)]
  simp
theorem key_rep {H:Hp}{key:Key}{v:V}(r:RepD K H (keyD key) v):v=kV key:=by
 cases key <;> (simp only [keyD,RepD] at r; exact r)
end
end D
namespace D
open PySem PySem.Spec PyProof.Rows L2
structure Fn (K:PySem.W.Frag)(mg:Str->Option Value)(x:Str)(st:Stmt)(ps:List Str)(f:Addr)(fd:FuncData):Prop where
 fn:Fun K x x st f fd
 mg:mg x=some (.ref f)
 bd:Binds K fd ps []
section
variable {K:PySem.W.Frag}{mg:Str->Option Value}{h:Heap}
theorem fn_mk {x:Str}{st:Stmt}{ps:List Str}{f:Addr}{oc:Value}{od an:Option Addr}{osl:Array (Option Value)}{kV doc pm cdv ct:Value}(X:K.In h)(G:h.Ns mainGlobals mg)(a:PySem.W.nsIn K mainGlobals x=some (some (.ref f)))
  (l:K.lookup f=some ⟨oc,od,.func (PySem.W.fnOf x x (defArgs st) (defBody st) (defScope st) .none kV doc pm an cdv ct),osl⟩)(c:PySem.W.codeIn K cdv x=true)(k:PySem.W.keepIn K (.ref f)=true)
  (b:∀ (kV doc pm:Value) (an:Option Addr) (cdv ct:Value) (us:List Value),us.length=ps.length->bindArgs (PySem.W.fnOf x x (defArgs st) (defBody st) (defScope st) .none kV doc pm an cdv ct) ⟨us,[]⟩=pure (ps.zip us)) :
  Fn K mg x st ps f (PySem.W.fnOf x x (defArgs st) (defBody st) (defScope st) .none kV doc pm an cdv ct) :=
 have F:=fun_mk (st:=st) l c k
 ⟨F,PySem.W.mg_of X G a,F.binds b⟩
end
noncomputable def lcOkB (sc scX:Scope)(N:List Str)(fr:List Nat):Bool :=
 (sc.kind == .function) && sc.names.all (λ y=>!(y.2 == .cell)) && sc.names.all (λ y=>!(y.2 == .free) || scX.names.lookup y.1 == some .cell || scX.names.lookup y.1 == some .free) &&
  sc.names.all (λ y=>!(y.2 == .local) || sc.names.lookup y.1 == some .local) && frOk N sc fr
theorem lcOk {X:Cx}{sc:Scope}{own:List Str}{fr:List Nat}(h:lcOkB sc X.env.scope X.N fr=true):LcOk X sc own fr:=by
 simp only [lcOkB,Bool.and_eq_true] at h
 obtain ⟨⟨⟨⟨h1,h2⟩,h3⟩,h4⟩,h5⟩:=h
 refine ⟨eq_of_beq h1,λ y hy e=>?_,λ y hy e=>?_,λ y hy e=>?_,h5⟩
 ·have:=List.all_eq_true.mp h2 y hy
  simp [e] at this
 ·have:=List.all_eq_true.mp h3 y hy
  simp only [e,beq_self_eq_true,Bool.not_true,Bool.false_or,Bool.or_eq_true] at this
  rcases this with z | z
  ·exact .inl (eq_of_beq z)
  ·exact .inr (eq_of_beq z)
 ·have:=List.all_eq_true.mp h4 y hy
  simp only [e,beq_self_eq_true,Bool.not_true,Bool.false_or] at this
  exact eq_of_beq this
theorem bt_int:bootBuiltins "int" = some (.type "int"):=by decide +kernel
theorem bt_str:bootBuiltins "str" = some (.type "str"):=by decide +kernel
theorem bt_bool:bootBuiltins "bool" = some (.type "bool"):=by decide +kernel
theorem bt_list:bootBuiltins "list" = some (.type "list"):=by decide +kernel
theorem bt_tuple:bootBuiltins "tuple" = some (.type "tuple"):=by decide +kernel
theorem bb_len:bootBuiltins "len" = some (.builtin "len"):=by decide +kernel
theorem bb_abs:bootBuiltins "abs" = some (.builtin "abs"):=by decide +kernel
theorem bb_all:bootBuiltins "all" = some (.builtin "all"):=by decide +kernel
theorem bb_isinstance:bootBuiltins "isinstance" = some (.builtin "isinstance"):=by decide +kernel
end D
namespace D
open PySem PySem.Spec PyProof.Rows L2
noncomputable def isSt:Expr->Bool
 | .Starred ..=>true
 | _=>false
theorem star_ok (e:Expr)(es:List Expr)(env:PySem.Env)(h:isSt e=false):starEach (e :: es) env=(false,eval e env) :: starEach es env:=by
 cases e <;> first | rfl | (exact absurd h (by simp [isSt]))
theorem plain_ok (pos:Pos)(env:PySem.Env):∀ es:List Expr,(es.all λ e=>!isSt e)=true->(backTo pos (starEach es env)).any (·.1)=false
 | [],_=>rfl
 | e :: es,h=>by
  rw [List.all_cons,Bool.and_eq_true,Bool.not_eq_true'] at h
  rw [star_ok e es env h.1]
  show (false || (backTo pos (starEach es env)).any (·.1))=false
  rw [plain_ok pos env es h.2]
  rfl
section
variable {X:Cx}{pos p:Pos}{e:Expr}{es:List Expr}{te:TD}{t:TAd}{x:Str}{id T:String}{r:List V->Hp->VK->Prop}{rd:List W->MH->QD->Prop}{k:Nat}{f:Addr}{fd:FuncData}{ps:List Str}{sp:SpD}
theorem pac (ha:PD X e te)(hr:PAd X es t)(h:isSt e=false:=by rfl):PAd X (e :: es) (dCons te t):=pad_cons ha hr (star_ok e es X.env h)
theorem pcB (hc:CallR X (.builtin id) r)(hd:CallD X.K r rd)(hg:Gl X x)(hm:X.mg x=none)(hv:bootBuiltins x=some (.builtin id))(ha:PAd X (e :: es) t)(hn:x ≠ "__name__" := by decide)(hdb:(x == ("__debug__" : Str))=false:=by decide)
  (h1:isSt e=false:=by rfl)(h2:(es.all λ e=>!isSt e)=true:=by rfl):PD X (.Call (.Name x p) (e :: es) [] pos) (dCB rd t):=pd_callB hc hd hg hm hv ha hn hdb (star_ok e es X.env h1) (plain_ok pos X.env es h2)
theorem pcF (F:FnOk X.prog X.w X.K X.mg X.base CX0 k f fd ps (upSp X.K sp))(hr:Room k X.A)(hg:Gl X x)(hm:X.mg x=some (.ref f))(hk:PySem.W.keepIn X.K (.ref f)=true)(hb:Binds X.K fd ps [])
  (ha:PAd X (e :: es) t)(hdb:(x == ("__debug__" : Str))=false:=by decide)(h1:isSt e=false:=by rfl)(h2:(es.all λ e=>!isSt e)=true:=by rfl) :
  PD X (.Call (.Name x p) (e :: es) [] pos) (dCall sp t):=pd_call F hr hg hm hk hb ha hdb (star_ok e es X.env h1) (plain_ok pos X.env es h2)
end
end D
namespace D
open PySem PySem.Spec PyProof.Rows L2
structure Jd (p:Prop):Prop where
 h:p
namespace Q
noncomputable abbrev pm (K:PySem.W.Frag)(p:TD×TD):TE×TE:=(up K p.1,up K p.2)
section
variable {X:Cx}{pos:Pos}{a b c e:Expr}{ta tb tc te:TD}{K:PySem.W.Frag}
theorem pd_var {i:Nat}(h:PE X e (tVar i)):Jd (PD X e (dVar i)):=⟨D.pd_var (h:=h)⟩
theorem dv (i:Nat){x:Str}{pos:Pos}(hN:X.N[i]? = some x:=by rfl)(hv:Vis X.env.scope x:=by first | exact Or.inl rfl | exact Or.inr (Or.inl rfl) | exact Or.inr (Or.inr rfl))(hd:(x == ("__debug__" : Str))=false:=by decide)(hcd:(x == ("__classdict__" : Str))=false:=by decide):Jd (PD X (.Name x pos) (dVar i)):=⟨D.dv (i:=i) (hN:=hN) (hv:=hv) (hd:=hd) (hcd:=hcd)⟩
theorem pd_c {v:V}{w:W}(h:PE X e (tC v))(r:∀ H,RepW X.K H w v):Jd (PD X e (dC w)):=⟨D.pd_c (h:=h) (r:=r)⟩
theorem pd_int {i j pos}:Jd (PD X (.Constant (.int i) j pos) (dC (.d (.int i)))):=⟨D.pd_int ⟩
theorem pd_bl {b j pos}:Jd (PD X (.Constant (.bool b) j pos) (dC (.d (.bool b)))):=⟨D.pd_bl ⟩
theorem pd_non {j pos}:Jd (PD X (.Constant .none j pos) (dC (.d .none))):=⟨D.pd_non ⟩
theorem pd_str {x j pos}:Jd (PD X (.Constant (.str x) j pos) (dC (.d (.str x)))):=⟨D.pd_str ⟩
theorem pd_globI {x:Str}{i:Int}{t:Tok}{pos:Pos}(hg:Gl X x)(hm:X.mg x=some (.int i t))(hd:(x == ("__debug__" : Str))=false:=by decide):Jd (PD X (.Name x pos) (dC (.d (.int i)))):=⟨D.pd_globI (hg:=hg) (hm:=hm) (hd:=hd)⟩
theorem pd_type {x:Str}{n:String}{pos:Pos}(hg:Gl X x)(hm:X.mg x=none)(hv:bootBuiltins x=some (.type n))(hn:x ≠ "__name__" := by decide)(hd:(x == ("__debug__" : Str))=false:=by decide):Jd (PD X (.Name x pos) (dC (.t n))):=⟨D.pd_type (hg:=hg) (hm:=hm) (hv:=hv) (hn:=hn) (hd:=hd)⟩
theorem pd_op {op:Operator}{r:R2}{rd:W->W->MH->QD->Prop}(ho:OpR X (binaryOp op) r)(hd:OpD X.K r rd)(ha:Jd (PD X a ta))(hb:Jd (PD X b tb)):Jd (PD X (.BinOp a op b pos) (dOp rd ta tb)):=⟨D.pd_op (ho:=ho) (hd:=hd) (ha:=ha.h) (hb:=hb.h)⟩
theorem pd_cmp {op:CmpOp}{r:R2}{rd:W->W->MH->QD->Prop}(ho:OpR X (compareOp op) r)(hd:OpD X.K r rd)(ha:Jd (PD X a ta))(hb:Jd (PD X b tb))(hm:behindInMarks op b=false:=by first | exact nobehind _ (by decide) (by decide) | rfl):Jd (PD X (.Compare a [op] [b] pos) (dOp rd ta tb)):=⟨D.pd_cmp (ho:=ho) (hd:=hd) (ha:=ha.h) (hb:=hb.h) (hm:=hm)⟩
theorem pd_ix {r:R2}{rd:W->W->MH->QD->Prop}(hr:IxR X r)(hd:OpD X.K r rd)(ha:Jd (PD X a ta))(hb:Jd (PD X b tb))(hs:PlainIx b:=by intro _ _; rfl):Jd (PD X (.Subscript a b pos) (dOp rd ta tb)):=⟨D.pd_ix (hr:=hr) (hd:=hd) (ha:=ha.h) (hb:=hb.h) (hs:=hs)⟩
theorem ptd_cmp {op:CmpOp}{r:R2}{rd:W->W->MH->QD->Prop}(ho:OpR X (compareOp op) r)(hd:OpD X.K r rd)(ha:Jd (PD X a ta))(hb:Jd (PD X b tb))(hm:behindInMarks op b=false:=by first | exact nobehind _ (by decide) (by decide) | rfl):Jd (PTd X (.Compare a [op] [b] pos) (dTest (dOp rd ta tb))):=⟨D.ptd_cmp (ho:=ho) (hd:=hd) (ha:=ha.h) (hb:=hb.h) (hm:=hm)⟩
theorem ptd_val (h:Jd (PD X e te))(he:∀ whole,isTrue e X.env whole=(do let v <- whole; standAt e.pos; holding [v] (truthy v)):=by intro _; rfl):Jd (PTd X e (dTest te)):=⟨D.ptd_val (h:=h.h) (he:=he)⟩
theorem pd_chain {op op':CmpOp}{r r':R2}{rd rd':W->W->MH->QD->Prop}(ho:OpR X (compareOp op) r)(hd:OpD X.K r rd)(ho':OpR X (compareOp op') r')(hd':OpD X.K r' rd')(ha:Jd (PD X a ta))(hb:Jd (PD X b tb))(hc:Jd (PD X c tc))(hm:lastMarks [op,op'] [b,c]=false:=by with_unfolding_all rfl):Jd (PD X (.Compare a [op,op'] [b,c] pos) (dChain rd rd' ta tb tc)):=⟨D.pd_chain (ho:=ho) (hd:=hd) (ho':=ho') (hd':=hd') (ha:=ha.h) (hb:=hb.h) (hc:=hc.h) (hm:=hm)⟩
theorem ptd_chain {op op':CmpOp}{r r':R2}{rd rd':W->W->MH->QD->Prop}(ho:OpR X (compareOp op) r)(hd:OpD X.K r rd)(ho':OpR X (compareOp op') r')(hd':OpD X.K r' rd')(ha:Jd (PD X a ta))(hb:Jd (PD X b tb))(hc:Jd (PD X c tc))(hm:lastMarks [op,op'] [b,c]=false:=by with_unfolding_all rfl):Jd (PTd X (.Compare a [op,op'] [b,c] pos) (dTest (dChain rd rd' ta tb tc))):=⟨D.ptd_chain (ho:=ho) (hd:=hd) (ho':=ho') (hd':=hd') (ha:=ha.h) (hb:=hb.h) (hc:=hc.h) (hm:=hm)⟩
theorem pd_un {op:UnaryOp}{r:V->Hp->VK->Prop}{rd:W->MH->QD->Prop}(ho:UnR X (unaryOp op) r)(hd:UnD X.K r rd)(ha:Jd (PD X a ta)):Jd (PD X (.UnaryOp op a pos) (dUn rd ta)):=⟨D.pd_un (ho:=ho) (hd:=hd) (ha:=ha.h)⟩
variable {tA tB:TTd}{rest:List Expr}
theorem pwd_and1 (ha:Jd (PTd X a tA)):Jd (PWd X (.BoolOp .And [a] pos) tA):=⟨D.pwd_and1 (ha:=ha.h)⟩
theorem pwd_or1 (ha:Jd (PTd X a tA)):Jd (PWd X (.BoolOp .Or [a] pos) tA):=⟨D.pwd_or1 (ha:=ha.h)⟩
theorem pwd_and (ha:Jd (PTd X a tA))(hb:Jd (PWd X (.BoolOp .And (b :: rest) pos) tB)):Jd (PWd X (.BoolOp .And (a :: b :: rest) pos) (dAnd tA tB)):=⟨D.pwd_and (ha:=ha.h) (hb:=hb.h)⟩
theorem pwd_or (ha:Jd (PTd X a tA))(hb:Jd (PWd X (.BoolOp .Or (b :: rest) pos) tB)):Jd (PWd X (.BoolOp .Or (a :: b :: rest) pos) (dOr tA tB)):=⟨D.pwd_or (ha:=ha.h) (hb:=hb.h)⟩
theorem ptd_w (h:Jd (PWd X e tA)):Jd (PTd X e tA):=⟨D.ptd_w (h:=h.h)⟩
theorem ptd_not (ha:Jd (PTd X a tA)):Jd (PTd X (.UnaryOp .Not a pos) (dNot tA)):=⟨D.ptd_not (ha:=ha.h)⟩
theorem pd_one {op}(h:Jd (PD X a ta)):Jd (PD X (.BoolOp op [a] pos) ta):=⟨D.pd_one (h:=h.h)⟩
theorem pd_and (ha:Jd (PD X a ta))(hb:Jd (PD X (.BoolOp .And (b :: rest) pos) tb)):Jd (PD X (.BoolOp .And (a :: b :: rest) pos) (dAndV ta tb)):=⟨D.pd_and (ha:=ha.h) (hb:=hb.h)⟩
theorem pd_not (ha:Jd (PD X a ta)):Jd (PD X (.UnaryOp .Not a pos) (dNotV ta)):=⟨D.pd_not (ha:=ha.h)⟩
theorem pd_ifExp {c:Expr}(hc:Jd (PTd X c tA))(ha:Jd (PD X a ta))(hb:Jd (PD X b tb)):Jd (PD X (.IfExp c a b pos) (dIfE tA ta tb)):=⟨D.pd_ifExp (hc:=hc.h) (ha:=ha.h) (hb:=hb.h)⟩
variable {es:List Expr}{t:TAd}
theorem pad_nil  : Jd (PAd X [] dNil):=⟨D.pad_nil ⟩
theorem pad_cons (ha:Jd (PD X e te))(hr:Jd (PAd X es t))(hs:starEach (e :: es) X.env=(false,eval e X.env) :: starEach es X.env:=by rfl):Jd (PAd X (e :: es) (dCons te t)):=⟨D.pad_cons (ha:=ha.h) (hr:=hr.h) (hs:=hs)⟩
theorem pd_lst (h:Jd (PAd X es t)):Jd (PD X (.List es pos) (dLst t)):=⟨D.pd_lst (h:=h.h)⟩
theorem pd_lstM (h:Jd (PAd X es t)):Jd (PD X (.List es pos) (dLstM t)):=⟨D.pd_lstM (h:=h.h)⟩
theorem pd_tup {x1}(h:Jd (PAd X es t)):Jd (PD X (.Tuple es x1 pos) (dTup t)):=⟨D.pd_tup (h:=h.h)⟩
variable {x:Str}{p:Pos}{id T:String}{r:List V->Hp->VK->Prop}{rd:List W->MH->QD->Prop}
theorem pd_callB (hc:CallR X (.builtin id) r)(hd:CallD X.K r rd)(hg:Gl X x)(hm:X.mg x=none)(hv:bootBuiltins x=some (.builtin id))(ha:Jd (PAd X (e :: es) t))(hn:x ≠ "__name__" := by decide)(hdb:(x == ("__debug__" : Str))=false:=by decide)(he:starEach (e :: es) X.env=(false,eval e X.env) :: starEach es X.env:=by rfl)(hpl:(backTo pos (starEach es X.env)).any (·.1)=false:=by rfl):Jd (PD X (.Call (.Name x p) (e :: es) [] pos) (dCB rd t)):=⟨D.pd_callB (hc:=hc) (hd:=hd) (hg:=hg) (hm:=hm) (hv:=hv) (ha:=ha.h) (hn:=hn) (hdb:=hdb) (he:=he) (hpl:=hpl)⟩
theorem pd_callTy (hc:CallR X (.type T) r)(hd:CallD X.K r rd)(hg:Gl X x)(hm:X.mg x=none)(hv:bootBuiltins x=some (.type T))(ha:Jd (PAd X (e :: es) t))(hn:x ≠ "__name__" := by decide)(hdb:(x == ("__debug__" : Str))=false:=by decide)(he:starEach (e :: es) X.env=(false,eval e X.env) :: starEach es X.env:=by rfl)(hpl:(backTo pos (starEach es X.env)).any (·.1)=false:=by rfl):Jd (PD X (.Call (.Name x p) (e :: es) [] pos) (dCB rd t)):=⟨D.pd_callTy (hc:=hc) (hd:=hd) (hg:=hg) (hm:=hm) (hv:=hv) (ha:=ha.h) (hn:=hn) (hdb:=hdb) (he:=he) (hpl:=hpl)⟩
end
section
variable {X:Cx}{pos:Pos}{st:Stmt}{sts:List Stmt}{t u:TSd}{e:Expr}{te:TD}{K:PySem.W.Frag}
theorem pssd_nil  : Jd (PSsd X [] dNext):=⟨D.pssd_nil ⟩
theorem pssd_cons (h1:Jd (PSd X st t))(h2:Jd (PSsd X sts u)):Jd (PSsd X (st :: sts) (dSeq t u)):=⟨D.pssd_cons (h1:=h1.h) (h2:=h2.h)⟩
theorem pssd_one (h1:Jd (PSd X st t)):Jd (PSsd X [st] t):=⟨D.pssd_one (h1:=h1.h)⟩
theorem psd_expr (he:Jd (PD X e te))(hs:swapsWith e none pos.line X.env=pure false:=by rfl):Jd (PSd X (.Expr e pos) (dDrop te)):=⟨D.psd_expr (he:=he.h) (hs:=hs)⟩
theorem psd_ret (he:Jd (PD X e te)):Jd (PSd X (.Return (some e) pos) (dRet te)):=⟨D.psd_ret (he:=he.h)⟩
theorem psd_if {c:Expr}{a b:List Stmt}{tc:TTd}(hc:Jd (PTd X c tc))(ha:Jd (PSsd X a t))(hb:Jd (PSsd X b u)):Jd (PSd X (.If c a b pos) (dIf tc t u)):=⟨D.psd_if (hc:=hc.h) (ha:=ha.h) (hb:=hb.h)⟩
theorem pgd_name {i:Nat}{x:Str}(hN:X.N.Nodup)(hi:X.N[i]? = some x)(hx:Loc X.env.scope x)(hf:X.fn x=true\/X.env.scope.names.lookup x=some .local:=by first | exact .inl rfl | exact .inr rfl | assumption):Jd (PGd X (.Name x pos) (gN i)):=⟨D.pgd_name (hN:=hN) (hi:=hi) (hx:=hx) (hf:=hf)⟩
theorem psd_asg {tg:Expr}{g:TGd}(he:Jd (PD X e te))(hg:Jd (PGd X tg g))(hs:swapsWithSole [tg] e pos.line X.env=pure false:=by rfl)(hw:swappedStores [tg] e X.env=pure none:=by rfl)(h1:(assignEach [tg] X.env).map (·.2)=[assign tg X.env]:=by rfl):Jd (PSd X (.Assign [tg] e pos) (dAsg te g)):=⟨D.psd_asg (he:=he.h) (hg:=hg.h) (hs:=hs) (hw:=hw) (h1:=h1)⟩
theorem psd_set {i:Nat}{x:Str}{pos':Pos}(hN:X.N.Nodup)(hi:X.N[i]? = some x)(hx:Loc X.env.scope x)(he:Jd (PD X e te))(hs:swapsWith e (some (.Name x pos')) pos.line X.env=pure false:=by rfl)(hf:X.fn x=true\/X.env.scope.names.lookup x=some .local:=by first | exact .inl rfl | exact .inr rfl | assumption):Jd (PSd X (.Assign [.Name x pos'] e pos) (dAsg te (gN i))):=⟨D.psd_set (hN:=hN) (hi:=hi) (hx:=hx) (he:=he.h) (hs:=hs) (hf:=hf)⟩
end
section
variable {X:Cx}{pos p:Pos}{k:Nat}{f:Addr}{fd:FuncData}{ps:List Str}{sp:SpD}{x:Str}{e:Expr}{es:List Expr}{t:TAd}
theorem pd_call (F:FnOk X.prog X.w X.K X.mg X.base CX0 k f fd ps (upSp X.K sp))(hr:Room k X.A)(hg:Gl X x)(hm:X.mg x=some (.ref f))(hk:PySem.W.keepIn X.K (.ref f)=true)(hb:Binds X.K fd ps [])(ha:Jd (PAd X (e :: es) t))(hdb:(x == ("__debug__" : Str))=false:=by decide)(he:starEach (e :: es) X.env=(false,eval e X.env) :: starEach es X.env:=by rfl)(hpl:(backTo pos (starEach es X.env)).any (·.1)=false:=by rfl):Jd (PD X (.Call (.Name x p) (e :: es) [] pos) (dCall sp t)):=⟨D.pd_call (F:=F) (hr:=hr) (hg:=hg) (hm:=hm) (hk:=hk) (hb:=hb) (ha:=ha.h) (hdb:=hdb) (he:=he) (hpl:=hpl)⟩
end
section
variable {P:Program}{w:World}{K:PySem.W.Frag}{mg:Str->Option Value}{base:Heap}
end
section
variable {X:Cx}{K:PySem.W.Frag}
theorem pod_none  : Jd (POd X none dNoPart):=⟨D.pod_none ⟩
theorem pod_some {e:Expr}{te:TD}(h:Jd (PD X e te)):Jd (POd X (some e) (dPart te)):=⟨D.pod_some (h:=h.h)⟩
theorem pd_slice {e:Expr}{te:TD}{lo hi:Option Expr}{tl th:TOd}{pos p2:Pos}(he:Jd (PD X e te))(hl:Jd (POd X lo tl))(hu:Jd (POd X hi th)):Jd (PD X (.Subscript e (.Slice lo hi none p2) pos) (dSl te tl th)):=⟨D.pd_slice (he:=he.h) (hl:=hl.h) (hu:=hu.h)⟩
theorem pgd_sub {o i:Expr}{to ti:TD}{pos:Pos}(ho:Jd (PD X o to))(hi:Jd (PD X i ti))(ha:∀ v,assign (.Subscript o i pos) X.env v=(do
   let ov <- holding [v] (eval o X.env)
   let iv <- holding [v,ov] (eval i X.env)
   standAt pos
   holding [v,ov,iv] (setItem ov iv v)
   release [v,ov,iv] []):=by intro _; rfl):Jd (PGd X (.Subscript o i pos) (gSet to ti)):=⟨D.pgd_sub (ho:=ho.h) (hi:=hi.h) (ha:=ha)⟩
theorem psd_augS {o i e:Expr}{to ti te:TD}{op:Operator}{f:Int->Int->Int}{pos tpos:Pos}(ho:Jd (PD X o to))(hi:Jd (PD X i ti))(he:Jd (PD X e te))(hp:PIp X op (ipI f))(ha:∀ ov iv new,augStore i ov iv new=(do holding [new,ov,iv] (setItem ov iv new); release [new,ov,iv] []; pure .next):=by intros; rfl):Jd (PSd X (.AugAssign (.Subscript o i tpos) op e pos) (dAugS to ti te f)):=⟨D.psd_augS (ho:=ho.h) (hi:=hi.h) (he:=he.h) (hp:=hp) (ha:=ha)⟩
end
section
variable {X:Cx}{K:PySem.W.Frag}{tg:Expr}
section
variable {pins:List (Addr×Obj)}{σ:St}{H:Hp}{s:Shared}{R:It->Hp->Prop}{E:Value->Shared->Prop}
end
theorem pid_items {l:Expr}{te:TD}(h:Jd (PD X l te)):Jd (PId X tg l (dItems te)):=⟨D.pid_items (h:=h.h)⟩
theorem pid_range1 {a:Expr}{ta:TAd}{p pos:Pos}(hg:Gl X "range")(hm:X.mg "range" = none)(ha:Jd (PAd X [a] ta))(hs:starEach [a] X.env=[(false,eval a X.env)]:=by rfl):Jd (PId X tg (.Call (.Name "range" p) [a] [] pos) (dRng1 ta)):=⟨D.pid_range1 (hg:=hg) (hm:=hm) (ha:=ha.h) (hs:=hs)⟩
theorem psd_for {iter:Expr}{body:List Stmt}{di:TId}{g:TGd}{tb:TSd}{pos:Pos}(hp:PassesOwn (model X.prog X.w) X.A X.env X.xe)(hc:X.calm=true)(hi:Jd (PId X tg iter di))(hg:Jd (PGd X tg g))(hb:Jd (PSsd X body tb))(hs:∀ x,foldedSetIterable iter X.env x=pure x:=by intro _; rfl):Jd (PSd X (.For tg iter body [] pos) (dFor di g tb)):=⟨D.psd_for (hp:=hp) (hc:=hc) (hi:=hi.h) (hg:=hg.h) (hb:=hb.h) (hs:=hs)⟩
section
variable {sc:Scope}{own:List Str}{fr:List Nat}{elt iter:Expr}{ifs:List Expr}{pos:Pos}{di:TId}{g:TGd}{tt:TTd}{te:TD}
theorem ptsd_nil  : Jd (PTsd X [] dYes):=⟨D.ptsd_nil ⟩
theorem ptsd_one {c:Expr}{t:TTd}(h:Jd (PTd X c t)):Jd (PTsd X [c] t):=⟨D.ptsd_one (h:=h.h)⟩
theorem pd_lc (hc:X.calm=true)(L:LcOk X sc own fr)(hi:Jd (PId X tg iter di))(hg:∀ cl C s H ex pl,Jd (PGd (blk X sc (lcN X own fr) cl C s H ex pl) tg g))(ht:∀ cl C s H ex pl,Jd (PTsd (blk X sc (lcN X own fr) cl C s H ex pl) ifs tt))(he:∀ cl C s H ex pl,Jd (PD (blk X sc (lcN X own fr) cl C s H ex pl) elt te))(hs:∀ x,foldedSetIterable iter X.env x=pure x:=by intro _; rfl):Jd (PD X (.ListComp elt [⟨tg,iter,ifs,0⟩] sc pos) (dLC di g tt te own.length fr)):=⟨D.pd_lc (hc:=hc) (L:=L) (hi:=hi.h) (hg:=λ cl C s H ex pl=>(hg cl C s H ex pl).h) (ht:=λ cl C s H ex pl=>(ht cl C s H ex pl).h) (he:=λ cl C s H ex pl=>(he cl C s H ex pl).h) (hs:=hs)⟩
theorem psd_setLC {i:Nat}{x:Str}{pos' spos:Pos}(hN:X.N.Nodup)(hi':X.N[i]? = some x)(hx:Loc X.env.scope x)(hc:X.calm=true)(L:LcOk X sc own fr)(hi:Jd (PId X tg iter di))(hg:∀ cl C s H ex pl,Jd (PGd (blk X sc (lcN X own fr) cl C s H ex pl) tg g))(ht:∀ cl C s H ex pl,Jd (PTsd (blk X sc (lcN X own fr) cl C s H ex pl) ifs tt))(he:∀ cl C s H ex pl,Jd (PD (blk X sc (lcN X own fr) cl C s H ex pl) elt te))(hsw:swapsWith (.ListComp elt [⟨tg,iter,ifs,0⟩] sc pos) (some (.Name x pos')) spos.line X.env=pure true:=by rfl)(hs:∀ x,foldedSetIterable iter X.env x=pure x:=by intro _; rfl)(hf:X.fn x=true\/X.env.scope.names.lookup x=some .local:=by first | exact .inl rfl | exact .inr rfl | assumption):Jd (PSd X (.Assign [.Name x pos'] (.ListComp elt [⟨tg,iter,ifs,0⟩] sc pos) spos) (dAsg (dLC di g tt te own.length fr) (gN i))):=⟨D.psd_setLC (hN:=hN) (hi':=hi') (hx:=hx) (hc:=hc) (L:=L) (hi:=hi.h) (hg:=λ cl C s H ex pl=>(hg cl C s H ex pl).h) (ht:=λ cl C s H ex pl=>(ht cl C s H ex pl).h) (he:=λ cl C s H ex pl=>(he cl C s H ex pl).h) (hsw:=hsw) (hs:=hs) (hf:=hf)⟩
end
end
section
variable {X:Cx}{K:PySem.W.Frag}
theorem pd_ms {o e:Expr}{es:List Expr}{to:TD}{t:TAd}{name:Str}{apos cpos:Pos}{id:String}{r:V->List V->Hp->VK->Prop}{rd:W->List W->MH->QD->Prop}(slot:Slot "str" name id)(hty:typeOf (.builtin id)=pure (.type "method_descriptor"))(hm:MtR X id r)(hd:MtD X.K r rd)(ho:Jd (PD X o to))(ha:Jd (PAd X (e :: es) t))(hbase:attributeBase o name X.env (eval o X.env)=eval o X.env:=by rfl)(hfew:((backTo cpos (starEach (e :: es) X.env)).all (λ x=>!x.1) && (backToKw cpos (keywordEach [] X.env)).all (λ x=>x.1.isSome)
   && decide ((e :: es).length+([]:List Keyword).length+(if ([]:List Keyword).isEmpty then 0 else 1) < 30))=true:=by rfl)(hline:(apos.endLine == cpos.line)=true:=by rfl)(hs:starEach (e :: es) X.env=(false,eval e X.env) :: starEach es X.env:=by rfl)(hplain:(backTo cpos (starEach es X.env)).any (·.1)=false:=by rfl):Jd (PD X (.Call (.Attribute o name apos) (e :: es) [] cpos) (dMS rd to t)):=⟨D.pd_ms (slot:=slot) (hty:=hty) (hm:=hm) (hd:=hd) (ho:=ho.h) (ha:=ha.h) (hbase:=hbase) (hfew:=hfew) (hline:=hline) (hs:=hs) (hplain:=hplain)⟩
theorem pd_join {o e:Expr}{to te:TD}{apos cpos:Pos}(ho:Jd (PD X o to))(ha:Jd (PD X e te))(hbase:attributeBase o "join" X.env (eval o X.env)=eval o X.env:=by rfl)(hs:starEach [e] X.env=[(false,eval e X.env)]:=by rfl)(hfew:((backTo cpos (starEach [e] X.env)).all (λ x=>!x.1) && (backToKw cpos (keywordEach [] X.env)).all (λ x=>x.1.isSome)
   && decide (([e]:List Expr).length+([]:List Keyword).length+(if ([]:List Keyword).isEmpty then 0 else 1) < 30))=true:=by rfl)(hline:(apos.endLine == cpos.line)=true:=by rfl):Jd (PD X (.Call (.Attribute o "join" apos) [e] [] cpos) (dMS rdJoin to (dCons te dNil))):=⟨D.pd_join (ho:=ho.h) (ha:=ha.h) (hbase:=hbase) (hs:=hs) (hfew:=hfew) (hline:=hline)⟩
end
section
variable {X:Cx}{pos p:Pos}{e:Expr}{es:List Expr}{te:TD}{t:TAd}{x:Str}{id T:String}{r:List V->Hp->VK->Prop}{rd:List W->MH->QD->Prop}{k:Nat}{f:Addr}{fd:FuncData}{ps:List Str}{sp:SpD}
theorem pac (ha:Jd (PD X e te))(hr:Jd (PAd X es t))(h:isSt e=false:=by rfl):Jd (PAd X (e :: es) (dCons te t)):=⟨D.pac (ha:=ha.h) (hr:=hr.h) (h:=h)⟩
theorem pcB (hc:CallR X (.builtin id) r)(hd:CallD X.K r rd)(hg:Gl X x)(hm:X.mg x=none)(hv:bootBuiltins x=some (.builtin id))(ha:Jd (PAd X (e :: es) t))(hn:x ≠ "__name__" := by decide)(hdb:(x == ("__debug__" : Str))=false:=by decide)(h1:isSt e=false:=by rfl)(h2:(es.all λ e=>!isSt e)=true:=by rfl):Jd (PD X (.Call (.Name x p) (e :: es) [] pos) (dCB rd t)):=⟨D.pcB (hc:=hc) (hd:=hd) (hg:=hg) (hm:=hm) (hv:=hv) (ha:=ha.h) (hn:=hn) (hdb:=hdb) (h1:=h1) (h2:=h2)⟩
theorem pcF (F:FnOk X.prog X.w X.K X.mg X.base CX0 k f fd ps (upSp X.K sp))(hr:Room k X.A)(hg:Gl X x)(hm:X.mg x=some (.ref f))(hk:PySem.W.keepIn X.K (.ref f)=true)(hb:Binds X.K fd ps [])(ha:Jd (PAd X (e :: es) t))(hdb:(x == ("__debug__" : Str))=false:=by decide)(h1:isSt e=false:=by rfl)(h2:(es.all λ e=>!isSt e)=true:=by rfl):Jd (PD X (.Call (.Name x p) (e :: es) [] pos) (dCall sp t)):=⟨D.pcF (F:=F) (hr:=hr) (hg:=hg) (hm:=hm) (hk:=hk) (hb:=hb) (ha:=ha.h) (hdb:=hdb) (h1:=h1) (h2:=h2)⟩
end
theorem pps_nil {X:Cx}{pos:Pos}:Jd (PPs X pos [] [] (([]:List (TD×TD)).map (pm X.K))):=⟨L2.pps_nil⟩
theorem pps_cons {X:Cx}{pos:Pos}{k v:Expr}{ks:List (Option Expr)}{vs:List Expr}{tk tv:TD}{trs:List (TD×TD)}(hk:Jd (PD X k tk))(hv:Jd (PD X v tv))(hr:Jd (PPs X pos ks vs (trs.map (pm X.K)))):Jd (PPs X pos (some k :: ks) (v :: vs) (((tk,tv) :: trs).map (pm X.K))):=⟨L2.pps_cons hk.h hv.h hr.h⟩
end Q
end D
namespace D
open PySem PySem.Spec PyProof.Rows L2
section
variable {κ α:Type}[DecidableEq κ]
noncomputable def tget (t:List (κ×α))(k:κ):Option α:=(t.find? λ p=>decide (p.1=k)).map (·.2)
noncomputable def tput (t:List (κ×α))(k:κ)(v:α):List (κ×α):=if (t.any λ p=>decide (p.1=k))=true then t.map (λ p=>if p.1=k then (p.1,v) else p) else t++[(k,v)]
noncomputable def OR {β γ:Type}(R:β->γ->Prop):Option β->Option γ->Prop
 | some a,some b=>R a b
 | none,none=>True
 | _,_=>False
theorem OR.some_of {β γ:Type}{R:β->γ->Prop}{a:β}{o:Option γ}(h:OR R (some a) o):∃ b,o=some b/\R a b:=by
 cases o with
 | none=>exact h.elim
 | some b=>exact ⟨b,rfl,h⟩
theorem OR.none_of {β γ:Type}{R:β->γ->Prop}{o:Option γ}(h:OR R none o):o=none:=by
 cases o with
 | none=>rfl
 | some b=>exact h.elim
theorem OR.isSome {β γ:Type}{R:β->γ->Prop}:∀ {a:Option β} {o:Option γ},OR R a o->a.isSome=o.isSome
 | some _,some _,_=>rfl
 | none,none,_=>rfl
 | some _,none,h=>h.elim
 | none,some _,h=>h.elim
theorem tb_get {R:α->V->Prop}(k:κ):∀ {t:List (κ×α)} {l:List (κ×V)},Paired (λ p q=>p.1=q.1/\R p.2 q.2) t l->OR R (tget t k) (valV l k)
 | _,_,.nil=>True.intro
 | _,_,.cons (a:=p) (b:=q) (l₁:=t1) h t=>by
  obtain ⟨h1,h2⟩:=h
  by_cases e:p.1=k
  ·rw [valV_pos (h1.symm.trans e),show tget (p :: t1) k=some p.2 by simp [tget,List.find?_cons,e]]
   exact h2
  ·rw [valV_neg (λ z=>e (h1.trans z)),show tget (p :: t1) k=tget t1 k by simp [tget,List.find?_cons,e]]
   exact tb_get k t
theorem tb_any {R:α->V->Prop}(k:κ):∀ {t:List (κ×α)} {l:List (κ×V)},Paired (λ p q=>p.1=q.1/\R p.2 q.2) t l->(t.any λ p=>decide (p.1=k))=(l.any λ p=>decide (p.1=k))
 | _,_,.nil=>rfl
 | _,_,.cons (a:=p) (b:=q) h t=>by
  simp only [List.any_cons]
  rw [tb_any k t,h.1]
theorem tb_map {R:α->V->Prop}(k:κ){a:α}{v:V}(r:R a v):∀ {t:List (κ×α)} {l:List (κ×V)},Paired (λ p q=>p.1=q.1/\R p.2 q.2) t l ->
  Paired (λ p q=>p.1=q.1/\R p.2 q.2) (t.map λ p=>if p.1=k then (p.1,a) else p) (l.map λ p=>if p.1=k then (p.1,v) else p)
 | _,_,.nil=>.nil
 | _,_,.cons (a:=p) (b:=q) h t=>by
  simp only [List.map_cons]
  refine .cons ?_ (tb_map k r t)
  by_cases e:p.1=k
  ·rw [if_pos e,if_pos (h.1.symm.trans e)]
   exact ⟨h.1,r⟩
  ·rw [if_neg e,if_neg (λ z=>e (h.1.trans z))]
   exact h
theorem tb_snoc {P:κ×α->κ×V->Prop}{p:κ×α}{q:κ×V}(r:P p q):∀ {t:List (κ×α)} {l:List (κ×V)},Paired P t l->Paired P (t++[p]) (l++[q])
 | _,_,.nil=>.cons r .nil
 | _,_,.cons h t=>.cons h (tb_snoc r t)
theorem tb_put {R:α->V->Prop}(k:κ){a:α}{v:V}(r:R a v){t:List (κ×α)}{l:List (κ×V)}(h:Paired (λ p q=>p.1=q.1/\R p.2 q.2) t l) :
  Paired (λ p q=>p.1=q.1/\R p.2 q.2) (tput t k a) (putK l k v):=by
 unfold tput putK
 rw [tb_any k h]
 split
 ·exact tb_map k r h
 ·exact tb_snoc ⟨rfl,r⟩ h
theorem tb_len {P:κ×α->κ×V->Prop}:∀ {t:List (κ×α)} {l:List (κ×V)},Paired P t l->t.length=l.length
 | _,_,.nil=>rfl
 | _,_,.cons _ t=>by simp [tb_len t]
theorem tget_cons {p:κ×α}{t:List (κ×α)}{k:κ}:tget (p :: t) k=if p.1=k then some p.2 else tget t k:=by
 by_cases e:p.1=k <;> simp [tget,List.find?_cons,e]
theorem tget_any (k:κ):∀ t:List (κ×α),(t.any λ p=>decide (p.1=k))=(tget t k).isSome
 | []=>rfl
 | p :: t=>by
  rw [List.any_cons,tget_any k t,tget_cons]
  by_cases e:p.1=k <;> simp [e]
end
noncomputable def kW (k:Key):W:=.d (keyD k)
theorem kW_rep {K:PySem.W.Frag}{H:Hp}{k:Key}{v:V}(r:RepW K H (kW k) v):v=kV k:=key_rep r
noncomputable def tkW (ks:List Key):W:=.d (.tuple (ks.map keyD))
theorem keysA {K:PySem.W.Frag}{H:Hp}:∀ {ks:List Key} {vs:List V},RepA K H (ks.map keyD) vs->vs=ks.map kV
 | [],vs,h=>by simpa [RepA] using h
 | k :: ks,vs,h=>by
  simp only [List.map_cons,RepA] at h
  obtain ⟨v,r,e,h1,h2⟩:=h
  rw [e,key_rep h1,keysA h2]
  rfl
noncomputable def Rd2 (H:Hp)(a:Addr)(u:HO):Prop:=Rd H a u\/∃ o,H a=some (.frz o (.frz o u))
theorem dk_rd2 {P:Program}{w:World}{H:Hp}{h:Heap}{a:Addr}{kvs:List (Key×V)}(ok:HOk P w H h)(e:Rd2 H a (.dK kvs)):kvs.length<=sizeLine/\(a == sysModules)=false/\∃ vs,KV kvs vs/\h.DictOf (mixKind P w) a vs:=by
 rcases e with e | ⟨o,e⟩
 ·exact dk_rd ok e
 ·exact (ok a _ e).2.2
noncomputable def DGetS (K:PySem.W.Frag)(H:Hp)(a:Addr)(y:V)(r:Option V):Prop :=
 (∃ kvs k,Rd2 H a (.dK kvs)/\y=kV k/\r=valV kvs k)\/∃ kvs k b,Rd H a (.dT kvs)/\y=.ref b/\SqT K H b (k.map kV)/\r=valV kvs k
theorem key_sq {X:Cx}{pins:List (Addr×Obj)}{σ:St}{H:Hp}{s:Shared}{b:Addr}{ks:List Key}(I:Inv X pins σ H s)(h:SqT X.K H b (ks.map kV)):(tupleKind (mixKind X.prog X.w)).is s.heap ks b:=by
 obtain ⟨its,r,⟨o,h1,h2,n,h3⟩,_⟩:=I.tuple h
 exact ⟨o,its.toArray,n,h1,h2,h3,by simpa using items_are r⟩
section
variable {X:Cx}{pins:List (Addr×Obj)}{σ:St}{H:Hp}{s:Shared}{a:Addr}{y d:V}{u r:Value}{o:Option V}{A:Around}{E:Value->Shared->Prop}
theorem ds_notIn {Q:Value->Shared->Prop}(hu:A.units+1 < cLine)(I:Inv X pins σ H s)(g:DGetS X.K H a y o)(ry:RelV y u)(h:∀ s',Inv X pins σ H s'->Q (.bool (!o.isSome)) s') :
  wpAny (model X.prog X.w) A (compareOp .NotIn u (.ref a)) Q E s:=by
 rcases g with ⟨kvs,k,e,ey,l⟩ | ⟨kvs,k,b,e,ey,eb,l⟩
 ·subst ey
  obtain ⟨z,hd,vs,rel,dd⟩:=dk_rd2 I.hok e
  refine wpAny_notIn_of (kV_is ry) hd dd.mapOf ?_
  rw [<- (rel.val k).isSome_eq,<- l]
  exact h _ (I.tok _)
 ·subst ey
  cases (show u=Value.ref b from ry)
  obtain ⟨z,hd,xs,rel,dd⟩:=dt_rd I.hok e
  refine wpAny_notIn_heap (tupleKind_room_in1 hu) (key_sq I eb) hd dd ?_
  have q:=(rel.val k).isSome_eq
  rw [Option.isSome_map] at q
  rw [<- q,<- l]
  exact h _ (I.tok _)
theorem ds_get2 {Q:Value->Shared->Prop}(hu:A.units+1 < cLine)(I:Inv X pins σ H s)(g:DGetS X.K H a y o)(ry:RelV y u)(rd:RelV d r)(h:∀ w' s',Inv X pins σ H s'->RelV (o.getD d) w'->Q w' s') :
  wpAny (model X.prog X.w) A (call (.builtin "dict.get") [.ref a,u,r]) Q E s:=by
 rcases g with ⟨kvs,k,e,ey,l⟩ | ⟨kvs,k,b,e,ey,eb,l⟩
 ·subst ey
  obtain ⟨z,hd,vs,rel,dd⟩:=dk_rd2 I.hok e
  refine call_meetsIn PySem.F.slot_dict_get dd.typeIs PySem.F.entry_dict_get (PySem.F.args_dict_get_3 _ _ _) (meets_dict_get_default (mixKind X.prog X.w) a (kV_is ry) hd r) ⟨_,dd.mapOf,h _ _ (I.tok _) ?_⟩
  rw [l]
  exact (rel.val k).getD rd
 ·subst ey
  cases (show u=Value.ref b from ry)
  obtain ⟨z,hd,xs,rel,dd⟩:=dt_rd I.hok e
  refine call_meetsIn PySem.F.slot_dict_get dd.typeIs PySem.F.entry_dict_get (PySem.F.args_dict_get_3 _ _ _) (meetsH_dict_get_default (tupleKind (mixKind X.prog X.w)) a b hd r) ⟨tupleKind_room_in1 hu,k,xs,key_sq I eb,dd,h _ _ (I.tok _) ?_⟩
  rw [l]
  exact (rel.val k).getD rd
theorem ds_getItem {v:V}{Q:Value->Shared->Prop}(hu:A.units+1 < cLine)(I:Inv X pins σ H s){kvs:List (Key×V)}{k:Key}(e:Rd2 H a (.dK kvs))(l:valV kvs k=some v)(ry:RelV (kV k) u)(h:∀ w' s',Inv X pins σ H s'->RelV v w'->Q w' s') :
  s.TypeIs (.ref a) "dict" /\ wpAny (model X.prog X.w) A (getItem (.ref a) u) Q E s:=by
 obtain ⟨z,hd,vs,rel,dd⟩:=dk_rd2 I.hok e
 obtain ⟨w',hw,rw'⟩:=RelO.some_of (v:=v) (o:=valueAt vs k) (by rw [<- l]; exact rel.val k)
 exact ⟨dd.typeIs,wpAny_getItem_of (kV_is ry) dd.mapOf hw (h w' _ (I.tok _) rw')⟩
end
end D
namespace D
open PySem PySem.Spec PyProof.Rows L2
inductive DLook (M:MH):W->W->Option W->Prop
 | k {a:Addr} {kvs:List (Key×W)} {k:Key} (h:M a=some (.dic kvs)):DLook M (.m a) (kW k) (tget kvs k)
 | t {a:Addr} {kvs:List (List Key×W)} {ks:List Key} (h:M a=some (.dct kvs)):DLook M (.m a) (tkW ks) (tget kvs ks)
 | f {a:Addr} {kvs:List (Key×W)} {k:Key} (h:M a=some (.fdic kvs)):DLook M (.m a) (kW k) (tget kvs k)
 | d {kvs:List (Key×PyData)} {k:Key}:DLook M (.d (.dict (kvs.map λ p=>(keyD p.1,p.2)))) (kW k) ((tget kvs k).map W.d)
inductive DIs (M:MH):W->Prop
 | k {a:Addr} {kvs:List (Key×W)} (h:M a=some (.dic kvs)):DIs M (.m a)
 | t {a:Addr} {kvs:List (List Key×W)} (h:M a=some (.dct kvs)):DIs M (.m a)
 | d {kvs:List (PyData×PyData)}:DIs M (.d (.dict kvs))
theorem keyD_inj {a b:Key}(h:keyD a=keyD b):a=b:=by
 cases a <;> cases b <;> simp [keyD] at h <;> rw [h]
theorem repK_paired {K:PySem.W.Frag}{H:Hp}:∀ {kvs:List (Key×PyData)} {l:List (Key×V)},RepK K H (kvs.map λ p=>(keyD p.1,p.2)) l->Paired (λ (p:Key×PyData) (q:Key×V)=>p.1=q.1/\RepD K H p.2 q.2) kvs l
 | [],l,h=>by
  simp only [List.map_nil,RepK] at h
  subst h
  exact .nil
 | p :: kvs,l,h=>by
  simp only [List.map_cons,RepK] at h
  obtain ⟨key,v,r,e,ek,h1,h2⟩:=h
  subst e
  exact .cons ⟨keyD_inj ek,h1⟩ (repK_paired h2)
theorem DIs.sound {K:PySem.W.Frag}{H:Hp}{M:MH}{w:W}{x:V}(g:DIs M w)(r:RepW K H w x)(m:MAbs K H M):∃ a,x=.ref a/\IsD H a:=by
 cases g with
 | k h =>
  obtain ⟨l,e,_⟩:=m _ _ h
  exact ⟨_,r,.inl ⟨l,.inl e⟩⟩
 | t h =>
  obtain ⟨l,e,_⟩:=m _ _ h
  exact ⟨_,r,.inr ⟨l,.inl e⟩⟩
 | d =>
  simp only [RepW,RepD] at r
  obtain ⟨a,o,l,e,h,_⟩:=r
  exact ⟨a,e,.inl ⟨l,.inr ⟨o,h⟩⟩⟩
theorem DLook.sound {K:PySem.W.Frag}{H:Hp}{M:MH}{w y:W}{o:Option W}{x v:V}(g:DLook M w y o)(r:RepW K H w x)(ry:RepW K H y v)(m:MAbs K H M) :
  ∃ a p,x=.ref a/\DGetS K H a v p/\OR (RepW K H) o p:=by
 cases g with
 | @k a kvs k h =>
  obtain ⟨l,e,pr⟩:=m _ _ h
  exact ⟨_,_,r,.inl ⟨l,k,.inl (.inl e),kW_rep ry,rfl⟩,tb_get k pr⟩
 | @f a kvs k h =>
  obtain ⟨ob,l,e,pr⟩:=m _ _ h
  exact ⟨_,_,r,.inl ⟨l,k,.inr ⟨ob,e⟩,kW_rep ry,rfl⟩,tb_get k pr⟩
 | @t a kvs ks h =>
  obtain ⟨l,e,pr⟩:=m _ _ h
  simp only [tkW,RepW,RepD] at ry
  obtain ⟨b,vs,eb,hs,ra⟩:=ry
  rw [keysA ra] at hs
  exact ⟨_,_,r,.inr ⟨l,ks,b,.inl e,eb,hs,rfl⟩,tb_get ks pr⟩
 | @d kvs k =>
  simp only [RepW,RepD] at r
  obtain ⟨a,ob,l,e,h,rk⟩:=r
  refine ⟨a,_,e,.inl ⟨l,k,.inl (.inr ⟨ob,h⟩),kW_rep ry,rfl⟩,?_⟩
  have g:=tb_get (R:=λ d q=>RepD K H d q) k (repK_paired rk)
  cases q:tget kvs k with
  | none=>rw [q] at g; rw [OR.none_of g]; exact True.intro
  | some z =>
   rw [q] at g
   obtain ⟨b,eb,rb⟩:=OR.some_of g
   rw [eb]
   exact rb
section
variable {X:Cx}{o i e f:Expr}{pos apos cpos:Pos}{td ty tx:TE}
noncomputable def tDNotInS (K:PySem.W.Frag)(ty td:TE):TE:=λ σ H Q=>ty σ H λ y H1=>td σ H1 λ x H2=>∃ a o,x=.ref a/\DGetS K H2 a y o/\Q (.bl (!o.isSome)) H2
theorem pc_dnotinS (hu:X.A.units+1 < cLine)(hi:PE X i ty)(ho:PE X o td):PC X .NotIn i o (tDNotInS X.K ty td):=by
 intro pins s σ H Q I h
 refine thn (hi pins s σ H _ I h) λ iv s1 ⟨y,H1,I1,ry,q1⟩=>thn (ho pins s1 σ H1 _ I1 q1) λ u s2 hq59=>?_
 obtain ⟨x,H2,I2,rx,a,ov,ex,g,q2⟩:=hq59
 subst ex
 obtain rfl:u=Value.ref a:=rx
 exact ds_notIn hu I2 g ry λ s3 I3=>⟨.bl (!ov.isSome),H2,I3,rfl,q2⟩
noncomputable def tDGet2S (K:PySem.W.Frag)(td ty tx:TE):TE:=λ σ H Q=>td σ H λ x H1=>∃ a,x=.ref a/\IsD H1 a/\ty σ H1 λ y H2=>tx σ H2 λ z H3=>∃ o,DGetS K H3 a y o/\Q (o.getD z) H3
theorem pe_dget2S (hu:X.A.units+1 < cLine)(ho:PE X o td)(he:PE X e ty)(hf:PE X f tx)(m:M2 X o "get" apos e f cpos):PE X (.Call (.Attribute o "get" apos) [e,f] [] cpos) (tDGet2S X.K td ty tx):=by
 intro pins s σ H Q I h
 refine wpAny_Call_method m.base m.few m.line PySem.F.plainAttrs_dict PySem.F.slot_dict_get PySem.F.type_dict_get (thn (ho pins s σ H _ I h) λ u s1 hq60=>?_)
 obtain ⟨x,H1,I1,rx,a,ex,d,q1⟩:=hq60
 subst ex
 obtain rfl:u=Value.ref a:=rx
 obtain ⟨t1,t2,_⟩:=isD_at I1 d
 refine ⟨t1,t2,?_⟩
 rw [m.trees]
 refine Calls.callWith_builtin rfl (Calls.evalArgs_plain (Calls.spliced_cons (thn (he pins s1 σ H1 _ I1 q1) λ iv s2 ⟨y,H2,I2,ry,q2⟩ =>
  Calls.spliced_cons (thn (hf pins s2 σ H2 _ I2 q2) λ fv s3 ⟨z,H3,I3,rz,ov,g,q3⟩=>Calls.spliced_nil ?_))))
 exact ds_get2 hu I3 g ry rz λ w' s4 I4 rw'=>⟨_,H3,I4,rw',q3⟩
end
section
variable {X:Cx}{o i:Expr}{pos:Pos}{td ty:TE}
noncomputable def tDGetS (td ty:TE):TE:=λ σ H Q=>td σ H λ x H1=>ty σ H1 λ y H2=>∃ a kvs k v,x=.ref a/\Rd2 H2 a (.dK kvs)/\y=kV k/\valV kvs k=some v/\Q v H2
theorem pe_dgetS (hu:X.A.units+1 < cLine)(ho:PE X o td)(hi:PE X i ty)(hs:NoSl i):PE X (.Subscript o i pos) (tDGetS td ty):=by
 intro pins s σ H Q I h
 refine subD_of PySem.F.slot_dict_getitem.lookup hs (thn (ho pins s σ H _ I h) λ u s1 ⟨x,H1,I1,rx,q1⟩=>thn (hi pins s1 σ H1 _ I1 q1) λ iv s2 hq61=>?_)
 obtain ⟨y,H2,I2,ry,a,kvs,k,v,ex,g,ey,l,q2⟩:=hq61
 subst ex ey
 obtain rfl:u=Value.ref a:=rx
 exact ds_getItem hu I2 g l ry λ w' s3 I3 rw'=>⟨v,H2,I3,rw',q2⟩
end
section
variable {X:Cx}{o i e f value:Expr}{es:List Expr}{pos pos' apos cpos:Pos}{td ti tx tv:TD}{t:TAd}
noncomputable def dNewDic (_:DS)(M:MH)(Q:QD):Prop:=∀ p,M p=none->Q (.m p) (updM M p (.dic []))
theorem pd_newDic:PD X (.Dict [] [] pos) dNewDic:=pe_w pe_dnewK λ σ H Q ⟨τ,M,Qd,A,h,k⟩ p hp =>
 k (.ref p) _ (.m p) (updM M p (.dic [])) (Kp.new hp) rfl (A.mem.put (mo:=.dic []) (Kp.new hp) ⟨[],upd_same,.nil⟩) (h p (A.mem.free hp))
noncomputable def dDNotIn (ti td:TD)(τ:DS)(M:MH)(Q:QD):Prop:=ti τ M λ y M1=>td τ M1 λ w M2=>∃ o,DLook M2 w y o/\Q (.d (.bool (!o.isSome))) M2
theorem imp_dnotin {σ:St}{H:Hp}{Q:VK}(h:up X.K (dDNotIn ti td) σ H Q):tDNotInS X.K (up X.K ti) (up X.K td) σ H Q:=by
 obtain ⟨τ,M,Qd,A,h,k⟩:=h
 refine ⟨τ,M,_,A,h,λ y H1 wy M1 kp1 r1 m1 q1=>⟨τ,M1,_,A.go kp1 m1,q1,λ x H2 w M2 kp2 r2 m2 hq62=>?_⟩⟩
 obtain ⟨o,g,q2⟩:=hq62
 obtain ⟨a,p,e,g',ro⟩:=g.sound r2 (r1.keep kp2) m2
 refine ⟨a,p,e,g',?_⟩
 rw [<- ro.isSome]
 exact k _ H2 (.d (.bool _)) M2 (kp1.trans kp2) (by simp [RepW,RepD]) m2 q2
theorem ptd_dnotin (hu:X.A.units+1 < cLine)(hi:PD X i ti)(ho:PD X o td)(hm:behindInMarks .NotIn o=false:=by rfl):PTd X (.Compare i [.NotIn] [o] pos) (dTest (dDNotIn ti td)):=pt_w (pt_cmp (pc_dnotinS hu hi ho) hm) λ σ H Q h=>imp_test (λ σ H Q h=>imp_dnotin h) h
inductive DGetI (M2:MH) (w y:W) (Q:QD):Prop
 | mk (a:Addr) (kvs:List (Key×W)) (k:Key) (v:W) (z0:w=.m a) (z1:M2 a=some (.dic kvs)\/M2 a=some (.fdic kvs)) (z2:y=kW k) (z3:tget kvs k=some v) (q:Q v M2):DGetI M2 w y Q
noncomputable def dDGet (td ti:TD)(τ:DS)(M:MH)(Q:QD):Prop:=td τ M λ w M1=>ti τ M1 λ y M2=>DGetI M2 w y Q
theorem pd_dget (hu:X.A.units+1 < cLine)(ho:PD X o td)(hi:PD X i ti)(hs:NoSl i:=by exact λ _ _=>rfl):PD X (.Subscript o i pos) (dDGet td ti):=pe_w (pe_dgetS hu ho hi hs) λ σ H Q h=>by
 obtain ⟨τ,M,Qd,A,h,k⟩:=h
 refine ⟨τ,M,_,A,h,λ x H1 w M1 kp1 r1 m1 q1=>⟨τ,M1,_,A.go kp1 m1,q1,λ y H2 wy M2 kp2 r2 m2 hq63=>?_⟩⟩
 obtain ⟨a,kvs,key,v,ew,hm,ey,hv,q2⟩:=hq63
 subst ew ey
 obtain ⟨l,e,pr⟩:∃ l,Rd2 H2 a (.dK l)/\Paired (λ (p:Key×W) (q:Key×V)=>p.1=q.1/\RepW X.K H2 p.2 q.2) kvs l:=by
  rcases hm with hm | hm
  ·obtain ⟨l,e,pr⟩:=m2 _ _ hm
   exact ⟨l,.inl (.inl e),pr⟩
  ·obtain ⟨ob,l,e,pr⟩:=m2 _ _ hm
   exact ⟨l,.inr ⟨ob,e⟩,pr⟩
 have g:=tb_get key pr
 rw [hv] at g
 obtain ⟨b,eb,rb⟩:=OR.some_of g
 refine ⟨a,l,key,b,r1,e,kW_rep r2,eb,?_⟩
 exact k _ H2 v M2 (kp1.trans kp2) rb m2 q2
noncomputable def dGet2 (td ti tx:TD)(τ:DS)(M:MH)(Q:QD):Prop:=td τ M λ w M1=>DIs M1 w/\ti τ M1 λ y M2=>tx τ M2 λ z M3=>∃ o,DLook M3 w y o/\Q (o.getD z) M3
theorem OR.getD {K:PySem.W.Frag}{H:Hp}{o:Option W}{p:Option V}{z:W}{v:V}(h:OR (RepW K H) o p)(r:RepW K H z v):RepW K H (o.getD z) (p.getD v):=by
 cases o with
 | none=>rw [OR.none_of h]; exact r
 | some a=>obtain ⟨b,e,q⟩:=OR.some_of h; rw [e]; exact q
theorem pd_get2 (hu:X.A.units+1 < cLine)(ho:PD X o td)(he:PD X e ti)(hf:PD X f tx)(m:M2 X o "get" apos e f cpos:=by exact ⟨rfl,rfl,rfl,rfl⟩):PD X (.Call (.Attribute o "get" apos) [e,f] [] cpos) (dGet2 td ti tx):=pe_w (pe_dget2S hu ho he hf m) λ σ H Q h=>by
 obtain ⟨τ,M,Qd,A,h,k⟩:=h
 refine ⟨τ,M,_,A,h,λ x H1 w M1 kp1 r1 m1 hq64=>?_⟩
 obtain ⟨di,q1⟩:=hq64
 obtain ⟨a,ea,isd⟩:=di.sound r1 m1
 refine ⟨a,ea,isd,τ,M1,_,A.go kp1 m1,q1,λ y H2 wy M2 kp2 r2 m2 q2=>⟨τ,M2,_,A.go (kp1.trans kp2) m2,q2,λ z H3 wz M3 kp3 r3 m3 hq65=>?_⟩⟩
 obtain ⟨o,g,q3⟩:=hq65
 obtain ⟨a',p,e',g',ro⟩:=g.sound (r1.keep (kp2.trans kp3)) (r2.keep kp3) m3
 rw [ea] at e'
 cases e'
 exact ⟨p,g',k _ H3 _ M3 ((kp1.trans kp2).trans kp3) (ro.getD r3) m3 q3⟩
noncomputable def dDPut (td ti tv:TD)(D:Ed)(τ:DS)(M:MH):Prop:=tv τ M λ v M1=>td τ M1 λ w M2=>ti τ M2 λ y M3=>∃ a kvs k,w=.m a/\M3 a=some (.dic kvs)/\y=kW k/\kvs.length < sizeLine/\D.nx τ (updM M3 a (.dic (tput kvs k v)))
theorem psd_dput (hu:X.A.units+1 < cLine)(ho:PD X o td)(hi:PD X i ti)(hv:PD X value tv)(hs:swapsWith value (some (.Subscript o i pos')) pos.line X.env=pure false:=by rfl) :
  PSd X (.Assign [.Subscript o i pos'] value pos) (dDPut td ti tv):=ps_w (ps_dput hu ho hi hv hs) λ D σ H h=>by
 obtain ⟨τ,M,Dd,A,h,k1,_⟩:=h
 refine ⟨τ,M,_,A,h,λ v H1 wv M1 kp1 r1 m1 q1=>⟨τ,M1,_,A.go kp1 m1,q1,λ x H2 w M2 kp2 r2 m2 q2=>⟨τ,M2,_,A.go (kp1.trans kp2) m2,q2,λ y H3 wy M3 kp3 r3 m3 hq66=>?_⟩⟩⟩
 obtain ⟨a,kvs,key,ew,hm,ey,hl,q3⟩:=hq66
 subst ew ey
 obtain ⟨l,e,pr⟩:=m3 _ _ hm
 have kp4:Kp H3 (upd H3 a (.dK (putK l key v))):=Kp.set e (λ _ z=>nomatch z) (λ _ _ z=>nomatch z)
 refine ⟨a,_,r2,.inl ⟨l,key,e,kW_rep r3,by rw [<- tb_len pr]; exact hl,rfl⟩,?_⟩
 have rv:RepW X.K H3 wv v:=(r1.keep kp2).keep kp3
 refine k1 _ _ _ _ (((kp1.trans kp2).trans kp3).trans kp4) (A.go (((kp1.trans kp2).trans kp3).trans kp4) (m3.put (mo:=.dic (tput kvs key wv)) kp4 ⟨_,upd_same,?_⟩)) q3
 exact Paired.mapP (tb_put key rv pr) λ p q z=>⟨z.1,z.2.keep kp4⟩
end
end D
namespace D
open PySem PySem.Spec PyProof.Rows L2
noncomputable def putW (f:Str)(v:W):List (Str×W)->List (Str×W)
 | []=>[(f,v)]
 | (g,x) :: r=>if g=f then (g,v) :: r else (g,x) :: putW f v r
noncomputable abbrev FRep (K:PySem.W.Frag)(H:Hp):List (Str×W)->List (Str×V)->Prop:=Paired (λ (p:Str×W) (q:Str×V)=>p.1=q.1/\RepW K H p.2 q.2)
theorem fr_lookup {K:PySem.W.Frag}{H:Hp}(f:Str):∀ {fs:List (Str×W)} {l:List (Str×V)},FRep K H fs l->OR (RepW K H) (fs.lookup f) (l.lookup f)
 | _,_,.nil=>True.intro
 | _,_,.cons (a:=p) (b:=q) (l₁:=t1) (l₂:=t2) h t=>by
  obtain ⟨pk,pv⟩:=p
  obtain ⟨qk,qv⟩:=q
  obtain ⟨h1,h2⟩:=h
  have h1':pk=qk:=h1
  subst h1'
  rw [List.lookup_cons,List.lookup_cons]
  cases e:(f == pk) with
  | true=>exact h2
  | false=>exact fr_lookup f t
theorem fr_put {K:PySem.W.Frag}{H:Hp}(f:Str){w:W}{v:V}(r:RepW K H w v):∀ {fs:List (Str×W)} {l:List (Str×V)},FRep K H fs l->FRep K H (putW f w fs) (putF f v l)
 | _,_,.nil=>.cons ⟨rfl,r⟩ .nil
 | _,_,.cons (a:=p) (b:=q) (l₁:=t1) (l₂:=t2) h t=>by
  obtain ⟨pk,pv⟩:=p
  obtain ⟨qk,qv⟩:=q
  obtain ⟨h1,h2⟩:=h
  have h1':pk=qk:=h1
  subst h1'
  show FRep K H (if pk=f then (pk,w) :: t1 else (pk,pv) :: putW f w t1) (if pk=f then (pk,v) :: t2 else (pk,qv) :: putF f v t2)
  by_cases e:pk=f
  ·rw [if_pos e,if_pos e]
   exact .cons ⟨rfl,r⟩ t
  ·rw [if_neg e,if_neg e]
   exact .cons ⟨rfl,h2⟩ (fr_put f r t)
theorem fr_len {K:PySem.W.Frag}{H:Hp}:∀ {fs:List (Str×W)} {l:List (Str×V)},FRep K H fs l->fs.length=l.length
 | _,_,.nil=>rfl
 | _,_,.cons _ t=>by simp [fr_len t]
theorem FRep.keep {K:PySem.W.Frag}{H H':Hp}(kp:Kp H H'){fs:List (Str×W)}{l:List (Str×V)}(h:FRep K H fs l):FRep K H' fs l:=Paired.mapP h λ p q z=>⟨z.1,z.2.keep kp⟩
section
variable {X:Cx}{C f:Addr}{o e value:Expr}{es:List Expr}{fn m x:Str}{pos pos' apos p:Pos}{td tv te:TD}{t:TAd}{k:Nat}{fd:FuncData}{ps:List Str}{sp:SpD}
inductive DFld (C:Addr) (fn:Str) (M1:MH) (w:W) (Q:QD):Prop
 | mk (a:Addr) (fs:List (Str×W)) (v:W) (z0:w=.m a) (z1:M1 a=some (.ins C fs)) (z2:fs.lookup fn=some v) (q:Q v M1):DFld C fn M1 w Q
noncomputable def dFld (C:Addr)(td:TD)(fn:Str)(τ:DS)(M:MH)(Q:QD):Prop:=td τ M λ w M1=>DFld C fn M1 w Q
theorem pd_fld (c:Cls X.K C)(n:NoAttr X.K C fn)(he:PD X e td)(hb:attributeBase e fn X.env (eval e X.env)=eval e X.env:=by rfl):PD X (.Attribute e fn pos) (dFld C td fn):=pe_w (pe_fld he hb) λ σ H Q h=>by
 obtain ⟨τ,M,Qd,A,h,k⟩:=h
 refine ⟨τ,M,_,A,h,λ x H1 w M1 kp1 r1 m1 hq67=>?_⟩
 obtain ⟨a,fs,v,ew,hm,hl,q⟩:=hq67
 subst ew
 obtain ⟨dx,l,e,pr⟩:=m1 _ _ hm
 have g:=fr_lookup fn pr
 rw [hl] at g
 obtain ⟨b,eb,rb⟩:=OR.some_of g
 exact ⟨a,C,dx,l,b,r1,e,c,n,eb,k _ H1 v M1 kp1 rb m1 q⟩
noncomputable def dFldPut (C:Addr)(td tv:TD)(fn:Str)(D:Ed)(τ:DS)(M:MH):Prop:=tv τ M λ v M1=>td τ M1 λ w M2=>∃ a fs,w=.m a/\M2 a=some (.ins C fs)/\fs.length < 1000/\D.nx τ (updM M2 a (.ins C (putW fn v fs)))
theorem psd_fld (c:Cls X.K C)(n:NoAttr X.K C fn)(ha:PD X o td)(hv:PD X value tv)(hs:swapsWith value (some (.Attribute o fn pos')) pos.line X.env=pure false:=by rfl):PSd X (.Assign [.Attribute o fn pos'] value pos) (dFldPut C td tv fn):=ps_w (ps_fld ha hv hs) λ D σ H h=>by
 obtain ⟨τ,M,Dd,A,h,k1,_⟩:=h
 refine ⟨τ,M,_,A,h,λ v H1 wv M1 kp1 r1 m1 q1=>⟨τ,M1,_,A.go kp1 m1,q1,λ x H2 w M2 kp2 r2 m2 hq68=>?_⟩⟩
 obtain ⟨a,fs,ew,hm,hl,q2⟩:=hq68
 subst ew
 obtain ⟨dx,l,e,pr⟩:=m2 _ _ hm
 have kp4:Kp H2 (upd H2 a (.ins C dx (putF fn v l))):=Kp.set e (λ _ z=>nomatch z) (λ _ _ z=>nomatch z)
 refine ⟨a,C,dx,l,r2,e,c,n,by rw [<- fr_len pr]; exact hl,?_⟩
 refine k1 _ _ _ _ ((kp1.trans kp2).trans kp4) (A.go ((kp1.trans kp2).trans kp4) (m2.put (mo:=.ins C (putW fn wv fs)) kp4 ⟨dx,_,upd_same,?_⟩)) q2
 exact FRep.keep kp4 (fr_put fn (r1.keep kp2) pr)
inductive DMeth (C:Addr) (m:Str) (M1:MH) (w:W) (q:Prop):Prop
 | mk (a:Addr) (fs:List (Str×W)) (z0:w=.m a) (z1:M1 a=some (.ins C fs)) (z2:fs.lookup m=none) (z3:q):DMeth C m M1 w q
noncomputable def dMeth (C:Addr)(m:Str)(sp:SpD)(td:TD)(t:TAd)(τ:DS)(M:MH)(Q:QD):Prop:=td τ M λ w M1=>DMeth C m M1 w (t τ M1 λ ws M2=>sp (w :: ws) M2 Q)
theorem imp_meth {σ:St}{H:Hp}{Q:VK}(h:up X.K (dMeth C m sp td t) σ H Q):tMeth C m (upSp X.K sp) [] E0 (up X.K td) (upA X.K t) σ H Q:=by
 obtain ⟨τ,M,Qd,A,h,k⟩:=h
 refine ⟨τ,M,_,A,h,λ x H1 w M1 kp1 r1 m1 hq69=>?_⟩
 obtain ⟨a,fs,ew,hm,hl,q1⟩:=hq69
 subst ew
 obtain ⟨dx,l,e,pr⟩:=m1 _ _ hm
 have g:=fr_lookup m pr
 rw [hl] at g
 refine ⟨a,dx,l,r1,e,OR.none_of g,τ,M1,_,A.go kp1 m1,q1,λ vs H2 ws M2 kp2 r2 m2 q2=>?_⟩
 exact ⟨.m a :: ws,M2,Qd,by rw [List.append_nil]; exact .cons r1 r2,m2,q2,kgo (kgo k kp1) kp2⟩
theorem pd_meth {pl:Sem Bool}(he:PD X o td)(c:Cls X.K C)(hm:Meth X.K C m f)(F:FnOk X.prog X.w X.K X.mg X.base CX0 k f fd ps (upSp X.K sp))(hr:Room k X.A)(hb:Binds X.K fd ps [])(ha:PAd X (e :: es) t)
  (ht:eval (.Call (.Attribute o m apos) (e :: es) [] pos) X.env=(do
   let ov <- eval o X.env
   standAt apos.atName
   let (f,first) <- holding [ov] (getMethod ov m pl)
   callWith pos f first (backTo pos (starEach (e :: es) X.env)) (backToKw pos (keywordEach [] X.env))):=by rfl)
  (h1:isSt e=false:=by rfl)(h2:(es.all λ e=>!isSt e)=true:=by rfl):PD X (.Call (.Attribute o m apos) (e :: es) [] pos) (dMeth C m sp td t) :=
 pe_w (pe_meth (E:=E0) (dvs:=[]) he c hm F hr hb .nil pass0 ha (star_ok e es X.env h1) (plain_ok pos X.env es h2) ht) λ σ H Q h=>imp_meth h
theorem pd_meth0 {pl:Sem Bool}(he:PD X o td)(c:Cls X.K C)(hm:Meth X.K C m f)(F:FnOk X.prog X.w X.K X.mg X.base CX0 k f fd ps (upSp X.K sp))(hr:Room k X.A)(hb:Binds X.K fd ps [])
  (ht:eval (.Call (.Attribute o m apos) [] [] pos) X.env=(do
   let ov <- eval o X.env
   standAt apos.atName
   let (f,first) <- holding [ov] (getMethod ov m pl)
   callWith pos f first (backTo pos (starEach [] X.env)) (backToKw pos (keywordEach [] X.env))):=by rfl):PD X (.Call (.Attribute o m apos) [] [] pos) (dMeth C m sp td dNil) :=
 pe_w (pe_meth0 (E:=E0) (dvs:=[]) he c hm F hr hb .nil pass0 ht) λ σ H Q h=>by
  obtain ⟨τ,M,Qd,A,h,k⟩:=h
  refine ⟨τ,M,_,A,h,λ x H1 w M1 kp1 r1 m1 hq70=>?_⟩
  obtain ⟨a,fs,ew,hm,hl,q1⟩:=hq70
  subst ew
  obtain ⟨dx,l,e,pr⟩:=m1 _ _ hm
  have g:=fr_lookup m pr
  rw [hl] at g
  exact ⟨a,dx,l,r1,e,OR.none_of g,.m a :: [],M1,Qd,.cons r1 .nil,m1,q1,kgo k kp1⟩
noncomputable def dMake (C:Addr)(sp:SpD)(t:TAd)(τ:DS)(M:MH)(Q:QD):Prop:=t τ M λ ws M1=>∀ a,M1 a=none->sp (.m a :: ws) (updM M1 a (.ins C [])) (λ v M2=>v=.d .none/\Q (.m a) M2)
theorem made_abs {H1:Hp}{M1:MH}{a dx:Addr}(m1:MAbs X.K H1 M1)(ha:H1 a=none)(hd:H1 dx=none)(hn:dx≠a):Kp H1 (upd (upd H1 dx (.own a)) a (.ins C dx []))/\MAbs X.K (upd (upd H1 dx (.own a)) a (.ins C dx [])) (updM M1 a (.ins C [])):=by
 have k1:Kp H1 (upd H1 dx (.own a)):=Kp.new hd
 have ha2:(upd H1 dx (.own a)) a=none:=by rw [upd_ne (Ne.symm hn)]; exact ha
 have k2:Kp (upd H1 dx (.own a)) (upd (upd H1 dx (.own a)) a (.ins C dx [])):=Kp.new ha2
 exact ⟨k1.trans k2,(m1.new hd).put (mo:=.ins C []) k2 ⟨dx,[],upd_same,.nil⟩⟩
theorem pd_make (Mk':Mk X.K C f)(F:FnOk X.prog X.w X.K X.mg X.base CX0 k f fd ps (upSp X.K sp))(hr:Room (k+1) X.A)(hg:Gl X x)(hm:X.mg x=some (.ref C))(hb:Binds X.K fd ps [])(ha:PAd X (e :: es) t)(hdb:(x == ("__debug__" : Str))=false:=by decide)
  (h1:isSt e=false:=by rfl)(h2:(es.all λ e=>!isSt e)=true:=by rfl):PD X (.Call (.Name x p) (e :: es) [] pos) (dMake C sp t) :=
 pe_w (pe_make (E:=E0) (dvs:=[]) Mk' F hr hg hm hb .nil pass0 ha hdb (star_ok e es X.env h1) (plain_ok pos X.env es h2)) λ σ H Q h=>by
  obtain ⟨τ,M,Qd,A,h,k⟩:=h
  refine ⟨τ,M,_,A,h,λ vs H1 ws M1 kp1 r1 m1 q1 a dx ha hd hn=>?_⟩
  obtain ⟨kp2,m2⟩:=made_abs (X:=X) (C:=C) m1 ha hd hn
  exact ⟨.m a :: ws,_,_,by rw [List.append_nil]; exact .cons rfl (r1.keep kp2),m2,q1 a (m1.free ha),λ v H' w M' kp3 r3 m3 hq71=>by
   obtain ⟨e3,q3⟩:=hq71
   subst e3
   simp only [RepW,RepD] at r3
   exact ⟨r3,k _ H' (.m a) M' ((kp1.trans kp2).trans kp3) rfl m3 q3⟩⟩
end
noncomputable def delM (M:MH)(a:Addr):MH:=λ b=>if b=a then none else M b
theorem delM_ne {M:MH}{a b:Addr}(h:b≠a):delM M a b=M b:=if_neg h
theorem MAbs.del {K:PySem.W.Frag}{H:Hp}{M:MH}{a:Addr}{o:HO}(m:MAbs K H M)(kp:Kp H (upd H a o)):MAbs K (upd H a o) (delM M a):=λ b mo hm=>by
 by_cases e:b=a
 ·subst e; simp [delM] at hm
 ·rw [delM_ne e] at hm
  exact (m b mo hm).keep kp λ u z=>by rw [upd_ne e]; exact z
noncomputable def one1 (R:W->MH->Prop)(ws:List W)(M:MH):Prop:=match ws with
 | [y]=>R y M
 | _=>False
theorem one1_of {R:W->MH->Prop}{ws:List W}{M:MH}(h:one1 R ws M):∃ y,ws=[y]/\R y M:=by
 match ws,h with
 | [y],h=>exact ⟨y,rfl,h⟩
section
variable {X:Cx}{o e:Expr}{pos apos cpos:Pos}{td te:TD}
noncomputable def dSeal (td:TD)(τ:DS)(M:MH)(Q:QD):Prop:=td τ M λ w M1=>∃ a ds,w=.m a/\M1 a=some (.lst (ds.map W.d))/\Q (.d (.list ds)) (delM M1 a)
theorem pd_seal (h:PD X e td):PD X e (dSeal td):=pe_w (pe_frz h) λ σ H Q h=>by
 obtain ⟨τ,M,Qd,A,h,k⟩:=h
 refine ⟨τ,M,_,A,h,λ x H1 w M1 kp1 r1 m1 hq72=>?_⟩
 obtain ⟨a,ds,ew,hm,q⟩:=hq72
 subst ew
 obtain ⟨vs,e,ra⟩:=m1 _ _ hm
 refine ⟨a,_,r1,e,trivial,λ ob=>?_⟩
 have kp2:Kp H1 (upd H1 a (.frz ob (.lst vs))):=Kp.set e (λ _ z=>nomatch z) (λ _ _ z=>nomatch z)
 refine k _ _ (.d (.list ds)) (delM M1 a) (kp1.trans kp2) ?_ (m1.del kp2) q
 simp only [RepW,RepD]
 exact ⟨a,vs,r1,.inl ⟨ob,upd_same⟩,ra.data.keep kp2⟩
noncomputable def dAppend (td te:TD)(τ:DS)(M:MH)(Q:QD):Prop:=td τ M λ w M1=>∃ a ws,w=.m a/\M1 a=some (.lst ws)/\te τ M1 λ y M2=>∃ ws',M2 a=some (.lst ws')/\ws'.length < sizeLine/\Q (.d .none) (updM M2 a (.lst (ws'++[y])))
theorem pd_append (ho:PD X o td)(he:PD X e te)
  (hbase:attributeBase o "append" X.env (eval o X.env)=eval o X.env:=by rfl)
  (hfew:((backTo cpos (starEach [e] X.env)).all (λ x=>!x.1) && (backToKw cpos (keywordEach [] X.env)).all (λ x=>x.1.isSome)
   && decide (([e]:List Expr).length+([]:List Keyword).length+(if ([]:List Keyword).isEmpty then 0 else 1) < 30))=true:=by rfl)
  (hline:(apos.endLine == cpos.line)=true:=by rfl)(hs:isSt e=false:=by rfl):PD X (.Call (.Attribute o "append" apos) [e] [] cpos) (dAppend td te) :=
 pe_w (pe_bm PySem.F.plainAttrs_list PySem.F.slot_list_append PySem.F.type_list_append mt_append ho (pac he pad_nil hs) hbase hfew hline (star_ok e [] X.env hs) rfl) λ σ H Q h=>by
  obtain ⟨τ,M,Qd,A,h,k⟩:=h
  refine ⟨τ,M,_,A,h,λ x H1 w M1 kp1 r1 m1 hq73=>?_⟩
  obtain ⟨a,ws,ew,hm,q1⟩:=hq73
  subst ew
  obtain ⟨vs,ea,ra⟩:=m1 _ _ hm
  have r1':x=.ref a:=r1
  subst r1'
  refine ⟨.inl ⟨rfl,vs,.inl (.inl ea)⟩,τ,M1,one1 (λ y M2=>∃ ws',M2 a=some (.lst ws')/\ws'.length < sizeLine/\Qd (.d .none) (updM M2 a (.lst (ws'++[y])))),A.go kp1 m1,q1,λ ys H2 wys M2 kp2 r2 m2 q2=>?_⟩
  obtain ⟨y,ey,ws',hm2,hl,q4⟩:=one1_of q2
  subst ey
  obtain ⟨v,ev,rv⟩:=repWs1 r2
  subst ev
  obtain ⟨vs2,ea2,ra2⟩:=m2 _ _ hm2
  have kp4:Kp H2 (upd H2 a (.lst (vs2++[v]))):=Kp.set ea2 (λ _ z=>nomatch z) (λ _ _ z=>nomatch z)
  refine ⟨a,vs2,v,rfl,rfl,ea2,by rw [<- ra2.length]; exact hl,?_⟩
  exact k _ _ (.d .none) _ ((kp1.trans kp2).trans kp4) (by simp [RepW,RepD]) (m2.put (mo:=.lst (ws'++[y])) kp4 ⟨_,upd_same,(RepWs.append ra2 (.cons rv .nil)).keep kp4⟩) q4
noncomputable def dReverse (td:TD)(τ:DS)(M:MH)(Q:QD):Prop:=td τ M λ w M1=>∃ a ws,w=.m a/\M1 a=some (.lst ws)/\Q (.d .none) (updM M1 a (.lst ws.reverse))
theorem RepWs.reverse {K:PySem.W.Frag}{H:Hp}:∀ {ws:List W} {vs:List V},RepWs K H ws vs->RepWs K H ws.reverse vs.reverse
 | _,_,.nil=>.nil
 | _,_,.cons h t=>by
  simp only [List.reverse_cons]
  exact RepWs.append (RepWs.reverse t) (.cons h .nil)
theorem pd_reverse (ho:PD X o td)(hbase:attributeBase o "reverse" X.env (eval o X.env)=eval o X.env:=by rfl)(hline:(apos.endLine == cpos.line)=true:=by rfl):PD X (.Call (.Attribute o "reverse" apos) [] [] cpos) (dReverse td) :=
 pe_w (pe_bm0 PySem.F.plainAttrs_list PySem.F.slot_list_reverse PySem.F.type_list_reverse mt_reverse ho hbase hline) λ σ H Q h=>by
  obtain ⟨τ,M,Qd,A,h,k⟩:=h
  refine ⟨τ,M,_,A,h,λ x H1 w M1 kp1 r1 m1 hq74=>?_⟩
  obtain ⟨a,ws,ew,hm,q1⟩:=hq74
  subst ew
  obtain ⟨vs,ea,ra⟩:=m1 _ _ hm
  have r1':x=.ref a:=r1
  subst r1'
  have kp4:Kp H1 (upd H1 a (.lst vs.reverse)):=Kp.set ea (λ _ z=>nomatch z) (λ _ _ z=>nomatch z)
  refine ⟨.inl ⟨rfl,vs,.inl (.inl ea)⟩,a,vs,rfl,rfl,ea,?_⟩
  exact k _ _ (.d .none) _ (kp1.trans kp4) (by simp [RepW,RepD]) (m1.put (mo:=.lst ws.reverse) kp4 ⟨_,upd_same,(RepWs.reverse ra).keep kp4⟩) q1
end
end D
namespace D
open PySem PySem.Spec PyProof.Rows L2
noncomputable def RepT (K:PySem.W.Frag)(H:Hp)(d:PyData)(x:V):Prop:=RepD K H d x\/∃ a vs ds,d=.list ds/\x=.ref a/\H a=some (.lst vs)/\RepA K H ds vs
inductive DatW (M:MH):W->PyData->Prop
 | d {x:PyData}:DatW M (.d x) x
 | l {a:Addr} {ds:List PyData} (h:M a=some (.lst (ds.map W.d))):DatW M (.m a) (.list ds)
theorem DatW.sound {K:PySem.W.Frag}{H:Hp}{M:MH}{w:W}{d:PyData}{x:V}(g:DatW M w d)(r:RepW K H w x)(m:MAbs K H M):RepT K H d x:=by
 cases g with
 | d=>exact .inl r
 | l h =>
  obtain ⟨vs,e,ra⟩:=m _ _ h
  exact .inr ⟨_,vs,_,rfl,r,e,ra.data⟩
section
variable {X:Cx}{pins:List (Addr×Obj)}{σ:St}{H:Hp}{s:Shared}
theorem thaw (I:Inv X pins σ H s){d:PyData}{x:V}(h:RepT X.K H d x):∃ H',Inv X pins σ H' s/\RepD X.K H' d x:=by
 rcases h with h | ⟨a,vs,ds,rfl,rfl,e,ra⟩
 ·exact ⟨H,I,h⟩
 ·obtain ⟨o,I2⟩:=I.freeze e trivial
  have kp:Kp H (upd H a (.frz o (.lst vs))):=Kp.set e (λ _ z=>nomatch z) (λ _ _ z=>nomatch z)
  refine ⟨_,I2,?_⟩
  simp only [RepD]
  exact ⟨a,vs,rfl,.inl ⟨o,upd_same⟩,ra.keep kp⟩
theorem readsT_of (I:Inv X pins σ H s)(d:PyData){x:V}{u:Value}(h:RepT X.K H d x)(r:RelV x u)(hd:d.hasDict=false):∃ as,Reads s.heap u d as:=by
 obtain ⟨H',I',h'⟩:=thaw I h
 exact reads_of I' d h' r hd
end
section
variable {X:Cx}
theorem op_eqT {k:Nat}(hr:Room k X.A):OpR X (compareOp .Eq) (λ x y H Q=>∃ d d',RepT X.K H d x/\RepT X.K H d' y/\eqOk2 d d'=true/\Q (.bl (PyData.eqv d d')) H):=by
 intro pins s σ H x y v u Q I rx ry h
 obtain ⟨d,d',h1,h2,o,q⟩:=h
 rcases eqOk2_cases o with ⟨a,b,e1,e2⟩ | ⟨o1,o2⟩
 ·subst e1; subst e2
  rcases h1 with h1 | ⟨_,_,_,z,_⟩
  ·rcases h2 with h2 | ⟨_,_,_,z,_⟩
   ·exact op_eqD hr pins s σ H x y v u Q I rx ry ⟨_,_,h1,h2,o,q⟩
   ·cases z
  ·cases z
 simp only [eqOk,Bool.and_eq_true,Bool.not_eq_true'] at o1 o2
 obtain ⟨as,r1⟩:=readsT_of I d h1 rx o1.2
 obtain ⟨bs,r2⟩:=readsT_of I d' h2 ry o2.2
 exact eq_dataH r1 r2 o1.1 o2.1 hr.units ⟨.bl _,H,I,rfl,q⟩
theorem op_neT {k:Nat}(hr:Room k X.A):OpR X (compareOp .NotEq) (λ x y H Q=>∃ d d',RepT X.K H d x/\RepT X.K H d' y/\eqOk2 d d'=true/\Q (.bl (!PyData.eqv d d')) H):=by
 intro pins s σ H x y v u Q I rx ry h
 obtain ⟨d,d',h1,h2,o,q⟩:=h
 rcases eqOk2_cases o with ⟨a,b,e1,e2⟩ | ⟨o1,o2⟩
 ·subst e1; subst e2
  rcases h1 with h1 | ⟨_,_,_,z,_⟩
  ·rcases h2 with h2 | ⟨_,_,_,z,_⟩
   ·exact op_neD hr pins s σ H x y v u Q I rx ry ⟨_,_,h1,h2,o,q⟩
   ·cases z
  ·cases z
 simp only [eqOk,Bool.and_eq_true,Bool.not_eq_true'] at o1 o2
 obtain ⟨as,r1⟩:=readsT_of I d h1 rx o1.2
 obtain ⟨bs,r2⟩:=readsT_of I d' h2 ry o2.2
 exact ne_dataH r1 r2 o1.1 o2.1 hr.units ⟨.bl _,H,I,rfl,q⟩
end
section
variable {X:Cx}{K:PySem.W.Frag}
noncomputable def rdEqT (w w':W)(M:MH)(Q:QD):Prop:=∃ d d',DatW M w d/\DatW M w' d'/\eqOk2 d d'=true/\Q (.d (.bool (PyData.eqv d d'))) M
noncomputable def rdNeT (w w':W)(M:MH)(Q:QD):Prop:=∃ d d',DatW M w d/\DatW M w' d'/\eqOk2 d d'=true/\Q (.d (.bool (!PyData.eqv d d'))) M
theorem opd_eqT:OpD K (λ x y H Q=>∃ d d',RepT K H d x/\RepT K H d' y/\eqOk2 d d'=true/\Q (.bl (PyData.eqv d d')) H) rdEqT:=by
 intro x y H w w' M Qd Q r1 r2 m ⟨d,d',g1,g2,o1,q⟩ k
 exact ⟨d,d',g1.sound r1 m,g2.sound r2 m,o1,k _ H (.d (.bool _)) M (Kp.refl H) (by simp [RepW,RepD]) m q⟩
theorem opd_neT:OpD K (λ x y H Q=>∃ d d',RepT K H d x/\RepT K H d' y/\eqOk2 d d'=true/\Q (.bl (!PyData.eqv d d')) H) rdNeT:=by
 intro x y H w w' M Qd Q r1 r2 m ⟨d,d',g1,g2,o1,q⟩ k
 exact ⟨d,d',g1.sound r1 m,g2.sound r2 m,o1,k _ H (.d (.bool _)) M (Kp.refl H) (by simp [RepW,RepD]) m q⟩
inductive SeqW (M:MH):W->List W->Prop
 | l {ds:List PyData}:SeqW M (.d (.list ds)) (ds.map W.d)
 | t {ds:List PyData}:SeqW M (.d (.tuple ds)) (ds.map W.d)
 | m {a:Addr} {ws:List W} (h:M a=some (.lst ws)):SeqW M (.m a) ws
theorem SeqW.sound {H:Hp}{M:MH}{w:W}{ws:List W}{x:V}(g:SeqW M w ws)(r:RepW K H w x)(m:MAbs K H M):∃ p ys,x=.ref p/\(SqL K H p ys\/SqT K H p ys)/\RepWs K H ws ys:=by
 cases g with
 | l =>
  simp only [RepW,RepD] at r
  obtain ⟨a,vs,e,hs,ra⟩:=r
  exact ⟨a,vs,e,.inl hs.sq,ra.ws⟩
 | t =>
  simp only [RepW,RepD] at r
  obtain ⟨a,vs,e,hs,ra⟩:=r
  exact ⟨a,vs,e,.inr hs,ra.ws⟩
 | m h =>
  obtain ⟨vs,e,ra⟩:=m _ _ h
  exact ⟨_,vs,r,.inl (.inl (.inl e)),ra⟩
noncomputable def rdListOf (ws:List W)(M:MH)(Q:QD):Prop:=∃ w xs,ws=[w]/\SeqW M w xs/\∀ p,M p=none->Q (.m p) (updM M p (.lst xs))
theorem cd_listOf:CallD K (λ xs H Q=>∃ p ys,xs=[.ref p]/\(SqL K H p ys\/SqT K H p ys)/\∀ l,H l=none->Q (.ref l) (upd H l (.lst ys))) rdListOf:=by
 intro vs H ws M Qd Q r m ⟨w,xs,e,g,q⟩ k
 subst e
 obtain ⟨v,e1,r1⟩:=repWs1 r
 obtain ⟨p,ys,ev,hs,rs⟩:=g.sound r1 m
 subst ev
 refine ⟨p,ys,e1,hs,λ l hl=>?_⟩
 have kp:Kp H (upd H l (.lst ys)):=Kp.new hl
 exact k _ _ (.m l) _ kp rfl (m.put (mo:=.lst xs) kp ⟨ys,upd_same,rs.keep kp⟩) (q l (m.free hl))
noncomputable def strsW (zs:List Str):List W:=zs.map λ z=>.d (.str z)
theorem strs_rep {H:Hp}:∀ {zs:List Str} {vs:List V},RepWs K H (strsW zs) vs->vs=zs.map V.str
 | [],_,h=>by cases h; rfl
 | z :: zs,_,h=>by
  cases h with
  | cons r t =>
   simp only [RepW,RepD] at r
   rw [r,strs_rep t]
   rfl
theorem in_strs (z:Str):∀ zs:List Str,inV (.str z) (zs.map V.str)=decide (z∈zs)
 | []=>rfl
 | y :: zs=>by
  have h:inV (.str z) ((y :: zs).map V.str)=((y == z) || inV (.str z) (zs.map V.str)):=rfl
  rw [h,in_strs z zs]
  by_cases e:z=y
  ·subst e; simp
  ·have e':(y == z)=false:=by
    cases q:(y == z) with
    | false=>rfl
    | true=>exact absurd (eq_of_beq q).symm e
   rw [e']
   simp [e]
theorem flat_strs:∀ zs:List Str,(zs.map V.str).all flatV=true
 | []=>rfl
 | _ :: zs=>by simp [flatV]
noncomputable def rdInL (neg:Bool)(w w':W)(M:MH)(Q:QD):Prop:=∃ z zs,w=.d (.str z)/\SeqW M w' (strsW zs)/\Q (.d (.bool (if neg then !decide (z∈zs) else decide (z∈zs)))) M
theorem opd_inS' (neg:Bool):OpD K (rIn K neg) (rdInL neg):=by
 intro x y H w w' M Qd Q r1 r2 m ⟨z,zs,ew,g,q⟩ k
 subst ew
 simp only [RepW,RepD] at r1
 subst r1
 obtain ⟨p,ys,ey,hs,rs⟩:=g.sound r2 m
 have e:=strs_rep rs
 subst e
 refine ⟨p,_,ey,hs,rfl,flat_strs zs,?_⟩
 rw [in_strs]
 exact k _ H (.d (.bool _)) M (Kp.refl H) (by simp [RepW,RepD]) m q
inductive TruW (M:MH):W->Bool->Prop
 | n:TruW M (.d .none) false
 | b {k:Bool}:TruW M (.d (.bool k)) k
 | i {k:Int}:TruW M (.d (.int k)) (k != 0)
 | s {z:Str} (h:z.length<=sizeLine):TruW M (.d (.str z)) ((z.length:Int) != 0)
 | l {ds:List PyData}:TruW M (.d (.list ds)) (!ds.isEmpty)
 | t {ds:List PyData}:TruW M (.d (.tuple ds)) (!ds.isEmpty)
 | m {a:Addr} {ws:List W} (h:M a=some (.lst ws)):TruW M (.m a) (!ws.isEmpty)
 | dk {a:Addr} {kvs:List (Key×W)} (h:M a=some (.dic kvs)):TruW M (.m a) (!kvs.isEmpty)
theorem empty_len {α β:Type}{xs:List α}{ys:List β}(h:xs.length=ys.length):xs.isEmpty=ys.isEmpty:=by
 cases xs <;> cases ys <;> simp at h ⊢
theorem TruW.sound {H:Hp}{M:MH}{w:W}{b:Bool}{x:V}(g:TruW M w b)(r:RepW K H w x)(m:MAbs K H M):TruV K x H b:=by
 cases g with
 | n=>simp only [RepW,RepD] at r; subst r; rfl
 | b=>simp only [RepW,RepD] at r; subst r; rfl
 | i=>simp only [RepW,RepD] at r; subst r; rfl
 | s h=>simp only [RepW,RepD] at r; subst r; exact ⟨h,rfl⟩
 | l =>
  simp only [RepW,RepD] at r
  obtain ⟨a,vs,e,hs,ra⟩:=r
  subst e
  exact .inl ⟨vs,hs.sq,by rw [empty_len ra.length]⟩
 | t =>
  simp only [RepW,RepD] at r
  obtain ⟨a,vs,e,hs,ra⟩:=r
  subst e
  exact .inr (.inl ⟨vs,hs,by rw [empty_len ra.length]⟩)
 | m h =>
  obtain ⟨vs,e,ra⟩:=m _ _ h
  have r':x=.ref _:=r
  subst r'
  exact .inl ⟨vs,.inl (.inl e),by rw [empty_len ra.length]⟩
 | dk h =>
  obtain ⟨l,e,pr⟩:=m _ _ h
  have r':x=.ref _:=r
  subst r'
  exact .inr (.inr ⟨l,e,by rw [empty_len (tb_len pr)]⟩)
noncomputable def dTru (ta:TD)(τ:DS)(M:MH)(Q:Bool->MH->Prop):Prop:=ta τ M λ w M1=>∃ b,TruW M1 w b/\Q b M1
theorem ptd_truth {a:Expr}{ta:TD}(ha:PD X a ta)(he:∀ whole:Sem Value,PySem.isTrue a X.env whole=(do let v <- whole; standAt a.pos; holding [v] (truthy v)):=by intro _; rfl):PTd X a (dTru ta) :=
 pt_w (pt_truth ha he) λ σ H Q h=>by
  obtain ⟨τ,M,Qd,A,h,k⟩:=h
  exact ⟨τ,M,_,A,h,λ v H' w M' kp r m ⟨b,g,q⟩=>⟨b,g.sound r m,k b H' M' kp m q⟩⟩
noncomputable def rdMax2 (ws:List W)(M:MH)(Q:QD):Prop:=∃ i j,ws=[.d (.int i),.d (.int j)]/\Q (.d (.int (if j > i then j else i))) M
theorem cd_max2:CallD K (λ xs H Q=>∃ i j,xs=[V.int i,V.int j]/\Q (V.int (if j > i then j else i)) H) rdMax2:=by
 intro vs H ws M Qd Q r m ⟨i,j,e,q⟩ k
 subst e
 obtain ⟨v,v',e1,r1,r2⟩:=repWs2 r
 simp only [RepW,RepD] at r1 r2
 subst r1 r2
 exact ⟨i,j,e1,k _ H (.d (.int _)) M (Kp.refl H) (by simp [RepW,RepD]) m q⟩
end
end D
namespace D
open PySem PySem.Spec PyProof.Rows L2
theorem ints_are:∀ {ns:List Int} {its:List Value},Vals (ns.map V.int) its->∃ xs:List (Int×Tok),its=xs.map (λ p=>Value.int p.1 p.2)/\xs.map (·.1)=ns
 | [],its,h=>by cases h; exact ⟨[],rfl,rfl⟩
 | n :: ns,its,h=>by
  cases h with
  | cons r t =>
   obtain ⟨tk,e⟩:=(show ∃ t,_=Value.int n t from r)
   obtain ⟨xs,e1,e2⟩:=ints_are t
   exact ⟨(n,tk) :: xs,by rw [e,e1]; rfl,by rw [List.map_cons,e2]⟩
section
variable {X:Cx}{K:PySem.W.Frag}
noncomputable def rCatS (K:PySem.W.Frag):R2:=λ x y H Q=>∃ l b xs zs,x=.ref l/\y=.ref b/\SqL K H l xs/\SqL K H b zs/\xs.length+zs.length<=sizeLine/\∀ p,H p=none->Q (.ref p) (upd H p (.lst (xs++zs)))
theorem op_catS:OpR X (binaryOp .Add) (rCatS X.K):=by
 intro pins s σ H x y v u Q I rx ry h
 obtain ⟨l,b,xs,zs,rfl,rfl,h1,h2,hz,q⟩:=h
 cases rx
 cases ry
 obtain ⟨its,r1,p1,_⟩:=I.list h1
 obtain ⟨its2,r2,p2,_⟩:=I.list h2
 have t1:=p1.isList.typeIs (s:=s)
 have t2:=p2.isList.typeIs (s:=s)
 obtain ⟨⟨oc,od,odt,osl⟩,n,e1,c1,d1,g1⟩:=p1
 obtain ⟨⟨oc2,od2,odt2,osl2⟩,n2,e2,c2,d2,g2⟩:=p2
 dsimp only at c1 d1 g1 c2 d2 g2
 subst c1 d1 g1 c2 d2 g2
 have hl1:=r1.length
 have hl2:=r2.length
 refine wpAny_binaryOp_concat (T := "list") t1 t2 noFill_list_add seq_list_add ?_
 refine call_meets PySem.F.slot_list_add t1 PySem.F.entry_list_add (PySem.F.args_list_add_2 _ _) (list_addW l b its.toArray its2.toArray n n2 none none osl osl2 (by simp only [List.size_toArray]; omega)) ⟨e1,e2,?_⟩
 have ea:its.toArray++its2.toArray=(its++its2).toArray:=by simp
 rw [ea]
 exact ⟨.ref _,_,I.lnew (t':=s.toks) (r1.append r2) (by rw [List.length_append]; omega),rfl,q _ I.fresh⟩
inductive LstW (M:MH):W->List PyData->Prop
 | d {ds:List PyData}:LstW M (.d (.list ds)) ds
 | m {a:Addr} {ds:List PyData} (h:M a=some (.lst (ds.map W.d))):LstW M (.m a) ds
theorem LstW.sound {H:Hp}{M:MH}{w:W}{ds:List PyData}{x:V}(g:LstW M w ds)(r:RepW K H w x)(m:MAbs K H M):∃ p ys,x=.ref p/\SqL K H p ys/\RepA K H ds ys:=by
 cases g with
 | d =>
  simp only [RepW,RepD] at r
  obtain ⟨a,vs,e,hs,ra⟩:=r
  exact ⟨a,vs,e,hs.sq,ra⟩
 | m h =>
  obtain ⟨vs,e,ra⟩:=m _ _ h
  exact ⟨_,vs,r,.inl (.inl e),ra.data⟩
noncomputable def dCat (ta tb:TD)(τ:DS)(M:MH)(Q:QD):Prop:=ta τ M λ w M1=>tb τ M1 λ w' M2=>∃ xs ys,LstW M2 w xs/\LstW M2 w' ys/\xs.length+ys.length<=sizeLine/\Q (.d (.list (xs++ys))) M2
theorem pd_cat {a b:Expr}{pos:Pos}{ta tb:TD}(ha:PD X a ta)(hb:PD X b tb):PD X (.BinOp a .Add b pos) (dCat ta tb):=pe_w (pe_frz (pe_op op_catS ha hb)) λ σ H Q h=>by
 obtain ⟨τ,M,Qd,A,h,k⟩:=h
 refine ⟨τ,M,_,A,h,λ x H1 w M1 kp1 r1 m1 q1=>⟨τ,M1,_,A.go kp1 m1,q1,λ y H2 w' M2 kp2 r2 m2 hq75=>?_⟩⟩
 obtain ⟨xs,ys,g1,g2,hz,q⟩:=hq75
 obtain ⟨p,vs,e1,s1,ra1⟩:=g1.sound (r1.keep kp2) m2
 obtain ⟨p',vs',e2,s2,ra2⟩:=g2.sound r2 m2
 refine ⟨p,p',vs,vs',e1,e2,s1,s2,by rw [ra1.length,ra2.length]; exact hz,λ c hc=>?_⟩
 exact imp_frz hc (ra1.append ra2) m2 q (kgo (kgo k kp1) kp2)
theorem repA_ints {H:Hp}:∀ {ns:List Int} {vs:List V},RepA K H (ns.map PyData.int) vs->vs=ns.map V.int
 | [],vs,h=>by simpa [RepA] using h
 | n :: ns,vs,h=>by
  simp only [List.map_cons,RepA] at h
  obtain ⟨v,r,e,h1,h2⟩:=h
  simp only [RepD] at h1
  rw [e,h1,repA_ints h2]
  rfl
end
noncomputable abbrev TGsd:=List W->DS->MH->(DS->MH->Prop)->Prop
noncomputable def upGs (K:PySem.W.Frag)(g:TGsd):TGs:=λ vs σ H Q=>∃ ws τ M Qd,RepWs K H ws vs/\Abs K H σ τ M/\g ws τ M Qd/\∀ σ' H' τ' M',Kp H H'->Abs K H' σ' τ' M'->Qd τ' M'->Q σ' H'
noncomputable abbrev PGsd (X:Cx)(es:List Expr)(g:TGsd):Prop:=PGs X es (upGs X.K g)
theorem pgs_w {X:Cx}{es:List Expr}{g g':TGs}(h:PGs X es g)(k:∀ v σ H Q,g' v σ H Q->g v σ H Q):PGs X es g':=λ pins s σ H v u Q I r q=>h pins s σ H v u Q I r (k v σ H Q q)
section
variable {X:Cx}{pos:Pos}{e:Expr}{es:List Expr}
noncomputable def gsNil (ws:List W)(τ:DS)(M:MH)(Q:DS->MH->Prop):Prop:=ws=[]/\Q τ M
noncomputable def gsCons (g:TGd)(gs:TGsd)(ws:List W)(τ:DS)(M:MH)(Q:DS->MH->Prop):Prop:=∃ w r,ws=w :: r/\g w τ M λ τ' M'=>gs r τ' M' Q
theorem pgsd_nil:PGsd X [] gsNil:=pgs_w pgs_nil λ vs σ H Q hq76=>by
 obtain ⟨ws,τ,M,Qd,r,A,⟨e,q⟩,k⟩:=hq76
 subst e
 cases r
 exact ⟨rfl,k σ H τ M (Kp.refl H) A q⟩
theorem pgsd_cons {g:TGd}{gs:TGsd}(h1:PGd X e g)(h2:PGsd X es gs)(hs:(assignEach (e :: es) X.env).map (·.2)=assign e X.env :: (assignEach es X.env).map (·.2):=by rfl):PGsd X (e :: es) (gsCons g gs) :=
 pgs_w (pgs_cons h1 h2 hs) λ vs σ H Q hq77=>by
  obtain ⟨ws,τ,M,Qd,r,A,⟨w,wr,ew,q⟩,k⟩:=hq77
  subst ew
  cases r with
  | cons r1 r2 =>
   refine ⟨_,_,rfl,w,τ,M,_,r1,A,q,λ σ1 H1 τ1 M1 kp1 A1 q1=>?_⟩
   exact ⟨wr,τ1,M1,Qd,RepWs.keep kp1 r2,A1,q1,λ σ2 H2 τ2 M2 kp2 A2 q2=>k σ2 H2 τ2 M2 (kp1.trans kp2) A2 q2⟩
noncomputable def gT (n:Nat)(gs:TGsd)(w:W)(τ:DS)(M:MH)(Q:DS->MH->Prop):Prop:=∃ ds,w=.d (.tuple ds)/\ds.length=n/\gs (ds.map W.d) τ M Q
theorem pgd_tup {k n:Nat}{gs:TGsd}(hc:X.calm=true)(h:PGsd X es gs)(hn:(assignEach es X.env).length=n:=by rfl)(hst:(assignEach es X.env).findIdx? (·.1)=none:=by rfl):PGd X (.Tuple es k pos) (gT n gs) :=
 pg_w (pg_tup hc h hn hst) λ v σ H Q hq78=>by
  obtain ⟨w,τ,M,Qd,r,A,⟨ds,ew,hl,q⟩,kk⟩:=hq78
  subst ew
  simp only [RepW,RepD] at r
  obtain ⟨a,vs,ev,hs,ra⟩:=r
  exact ⟨a,vs,ev,hs,by rw [ra.length]; exact hl,ds.map W.d,τ,M,Qd,ra.ws,A,q,kk⟩
noncomputable def dDictM (trs:List (TD×TD))(τ:DS)(M:MH)(Q:QD):Prop:=∀ p,M p=none->dPairs trs τ (updM M p (.dic [])) λ ps M2=>M2 p=some (.dic [])/\∃ kvs:List (Key×W),ps=kvs.map (λ q=>(kW q.1,q.2))/\kvs.length<=15/\(kvs.map (·.1)).Nodup /\
 Q (.m p) (updM M2 p (.dic kvs))
theorem pairs_keyW {K:PySem.W.Frag}{H:Hp}:∀ {kvs:List (Key×W)} {ps:List (V×V)},Paired (λ (p:W×W) (q:V×V)=>RepW K H p.1 q.1/\RepW K H p.2 q.2) (kvs.map λ q=>(kW q.1,q.2)) ps ->
  ∃ l:List (Key×V),ps=l.map (λ kv=>(kV kv.1,kv.2))/\l.map (·.1)=kvs.map (·.1)/\Paired (λ (p:Key×W) (q:Key×V)=>p.1=q.1/\RepW K H p.2 q.2) kvs l
 | [],ps,h=>by cases h; exact ⟨[],rfl,rfl,.nil⟩
 | (k,d) :: kvs,ps,h=>by
  cases h with
  | cons r t =>
   rename_i q qs
   obtain ⟨x,y⟩:=q
   obtain ⟨l,e1,e2,e3⟩:=pairs_keyW t
   refine ⟨(k,y) :: l,?_,by simp [e2],.cons ⟨rfl,r.2⟩ e3⟩
   rw [List.map_cons,<- e1,<- kW_rep r.1]
theorem pd_dictM {keys:List (Option Expr)}{values:List Expr}{trs:List (TD×TD)}(h:PPs X pos keys values (trs.map λ p=>(up X.K p.1,up X.K p.2)))(hall:keys.all (·.isSome)=true:=by rfl)(hl:keys.length=values.length:=by rfl)(h0:keys≠[]:=by simp)
  (h15:keys.length<=15:=by decide):PD X (.Dict keys values pos) (dDictM trs):=pe_w (pe_disp h hall hl h0 h15) λ σ H Q ⟨τ,M,Qd,A,q,k⟩=>λ p hp=>by
 have kp0:Kp H (upd H p (.dK [])):=Kp.new hp
 have m0:MAbs X.K (upd H p (.dK [])) (updM M p (.dic [])):=A.mem.put (mo:=.dic []) kp0 ⟨[],upd_same,.nil⟩
 have hM:=A.mem.free hp
 refine imp_pairs (A.go kp0 m0) (q p hM) λ ps H2 ws M2 kp2 r2 m2 hq79=>?_
 obtain ⟨eM,kvs,ews,hlen,hnd,qq⟩:=hq79
 subst ews
 obtain ⟨l0,e0,pr0⟩:=m2 p _ eM
 have el0:l0=[]:=by cases pr0; rfl
 subst el0
 obtain ⟨l,e1,e2,e3⟩:=pairs_keyW r2
 have elen:l.length=kvs.length:=by
  have:=congrArg List.length e2
  simpa using this
 refine ⟨e0,l,e1,by omega,?_⟩
 have em:mergeK [] l=l:=by rw [mergeK_new (by simpa [e2] using hnd)]; rfl
 rw [em]
 have kp3:Kp H2 (upd H2 p (.dK l)):=Kp.set e0 (λ xs z=>nomatch z) λ _ _ z=>nomatch z
 exact k _ _ (.m p) _ ((kp0.trans kp2).trans kp3) rfl (m2.put (mo:=.dic kvs) kp3 ⟨l,upd_same,Paired.mapP e3 λ p q z=>⟨z.1,z.2.keep kp3⟩⟩) qq
end
end D
namespace D
open PySem PySem.Spec PyProof.Rows L2
structure Mf (K:PySem.W.Frag)(C:Addr)(x qual:Str)(st:Stmt)(ps:List Str)(f:Addr)(fd:FuncData):Prop where
 fn:Fun K x qual st f fd
 me:Meth K C x f
 bd:Binds K fd ps []
section
variable {K:PySem.W.Frag}{C:Addr}
theorem mf_mk {x qual:Str}{st:Stmt}{ps:List Str}{f:Addr}{oc:Value}{od an:Option Addr}{osl:Array (Option Value)}{kV doc pm cdv ct:Value}(a:PySem.W.findIn K (.ref C) x=some (some (.ref f)))(i:PySem.W.isFn K (.ref f)=true)
  (l:K.lookup f=some ⟨oc,od,.func (PySem.W.fnOf x qual (defArgs st) (defBody st) (defScope st) .none kV doc pm an cdv ct),osl⟩)(c:PySem.W.codeIn K cdv qual=true)(k:PySem.W.keepIn K (.ref f)=true)
  (b:∀ (kV doc pm:Value) (an:Option Addr) (cdv ct:Value) (us:List Value),us.length=ps.length->bindArgs (PySem.W.fnOf x qual (defArgs st) (defBody st) (defScope st) .none kV doc pm an cdv ct) ⟨us,[]⟩=pure (ps.zip us)) :
  Mf K C x qual st ps f (PySem.W.fnOf x qual (defArgs st) (defBody st) (defScope st) .none kV doc pm an cdv ct) :=
 have F:=fun_mk (st:=st) l c k
 ⟨F,⟨a,i,k⟩,F.binds b⟩
end
section
variable {X:Cx}{pos p:Pos}{e:Expr}{es:List Expr}{t:TAd}{x:Str}{T:String}{r:List V->Hp->VK->Prop}{rd:List W->MH->QD->Prop}
theorem pcT (hc:CallR X (.type T) r)(hd:CallD X.K r rd)(hg:Gl X x)(hm:X.mg x=none)(hv:bootBuiltins x=some (.type T))(ha:PAd X (e :: es) t)(hn:x ≠ "__name__" := by decide)(hdb:(x == ("__debug__" : Str))=false:=by decide)
  (h1:isSt e=false:=by rfl)(h2:(es.all λ e=>!isSt e)=true:=by rfl):PD X (.Call (.Name x p) (e :: es) [] pos) (dCB rd t):=pd_callTy hc hd hg hm hv ha hn hdb (star_ok e es X.env h1) (plain_ok pos X.env es h2)
end
theorem bb_max:bootBuiltins "max" = some (.builtin "max"):=by decide +kernel
end D
namespace D
open PySem PySem.Spec PyProof.Rows L2
namespace Q
section
variable {X:Cx}{o i e f:Expr}{pos apos cpos:Pos}{td ty tx:TE}
end
section
variable {X:Cx}{o i e f value:Expr}{es:List Expr}{pos pos' apos cpos:Pos}{td ti tx tv:TD}{t:TAd}
theorem pd_newDic  : Jd (PD X (.Dict [] [] pos) dNewDic):=⟨D.pd_newDic ⟩
theorem ptd_dnotin (hu:X.A.units+1 < cLine)(hi:Jd (PD X i ti))(ho:Jd (PD X o td))(hm:behindInMarks .NotIn o=false:=by rfl):Jd (PTd X (.Compare i [.NotIn] [o] pos) (dTest (dDNotIn ti td))):=⟨D.ptd_dnotin (hu:=hu) (hi:=hi.h) (ho:=ho.h) (hm:=hm)⟩
theorem pd_dget (hu:X.A.units+1 < cLine)(ho:Jd (PD X o td))(hi:Jd (PD X i ti))(hs:NoSl i:=by exact λ _ _=>rfl):Jd (PD X (.Subscript o i pos) (dDGet td ti)):=⟨D.pd_dget (hu:=hu) (ho:=ho.h) (hi:=hi.h) (hs:=hs)⟩
theorem pd_get2 (hu:X.A.units+1 < cLine)(ho:Jd (PD X o td))(he:Jd (PD X e ti))(hf:Jd (PD X f tx))(m:M2 X o "get" apos e f cpos:=by exact ⟨rfl,rfl,rfl,rfl⟩):Jd (PD X (.Call (.Attribute o "get" apos) [e,f] [] cpos) (dGet2 td ti tx)):=⟨D.pd_get2 (hu:=hu) (ho:=ho.h) (he:=he.h) (hf:=hf.h) (m:=m)⟩
theorem psd_dput (hu:X.A.units+1 < cLine)(ho:Jd (PD X o td))(hi:Jd (PD X i ti))(hv:Jd (PD X value tv))(hs:swapsWith value (some (.Subscript o i pos')) pos.line X.env=pure false:=by rfl):Jd (PSd X (.Assign [.Subscript o i pos'] value pos) (dDPut td ti tv)):=⟨D.psd_dput (hu:=hu) (ho:=ho.h) (hi:=hi.h) (hv:=hv.h) (hs:=hs)⟩
end
section
variable {X:Cx}{C f:Addr}{o e value:Expr}{es:List Expr}{fn m x:Str}{pos pos' apos p:Pos}{td tv te:TD}{t:TAd}{k:Nat}{fd:FuncData}{ps:List Str}{sp:SpD}
theorem pd_fld (c:Cls X.K C)(n:NoAttr X.K C fn)(he:Jd (PD X e td))(hb:attributeBase e fn X.env (eval e X.env)=eval e X.env:=by rfl):Jd (PD X (.Attribute e fn pos) (dFld C td fn)):=⟨D.pd_fld (c:=c) (n:=n) (he:=he.h) (hb:=hb)⟩
theorem psd_fld (c:Cls X.K C)(n:NoAttr X.K C fn)(ha:Jd (PD X o td))(hv:Jd (PD X value tv))(hs:swapsWith value (some (.Attribute o fn pos')) pos.line X.env=pure false:=by rfl):Jd (PSd X (.Assign [.Attribute o fn pos'] value pos) (dFldPut C td tv fn)):=⟨D.psd_fld (c:=c) (n:=n) (ha:=ha.h) (hv:=hv.h) (hs:=hs)⟩
theorem pd_meth {pl:Sem Bool}(he:Jd (PD X o td))(c:Cls X.K C)(hm:Meth X.K C m f)(F:FnOk X.prog X.w X.K X.mg X.base CX0 k f fd ps (upSp X.K sp))(hr:Room k X.A)(hb:Binds X.K fd ps [])(ha:Jd (PAd X (e :: es) t))(ht:eval (.Call (.Attribute o m apos) (e :: es) [] pos) X.env=(do
   let ov <- eval o X.env
   standAt apos.atName
   let (f,first) <- holding [ov] (getMethod ov m pl)
   callWith pos f first (backTo pos (starEach (e :: es) X.env)) (backToKw pos (keywordEach [] X.env))):=by rfl)(h1:isSt e=false:=by rfl)(h2:(es.all λ e=>!isSt e)=true:=by rfl):Jd (PD X (.Call (.Attribute o m apos) (e :: es) [] pos) (dMeth C m sp td t)):=⟨D.pd_meth (he:=he.h) (c:=c) (hm:=hm) (F:=F) (hr:=hr) (hb:=hb) (ha:=ha.h) (ht:=ht) (h1:=h1) (h2:=h2)⟩
theorem pd_meth0 {pl:Sem Bool}(he:Jd (PD X o td))(c:Cls X.K C)(hm:Meth X.K C m f)(F:FnOk X.prog X.w X.K X.mg X.base CX0 k f fd ps (upSp X.K sp))(hr:Room k X.A)(hb:Binds X.K fd ps [])(ht:eval (.Call (.Attribute o m apos) [] [] pos) X.env=(do
   let ov <- eval o X.env
   standAt apos.atName
   let (f,first) <- holding [ov] (getMethod ov m pl)
   callWith pos f first (backTo pos (starEach [] X.env)) (backToKw pos (keywordEach [] X.env))):=by rfl):Jd (PD X (.Call (.Attribute o m apos) [] [] pos) (dMeth C m sp td dNil)):=⟨D.pd_meth0 (he:=he.h) (c:=c) (hm:=hm) (F:=F) (hr:=hr) (hb:=hb) (ht:=ht)⟩
theorem pd_make (Mk':Mk X.K C f)(F:FnOk X.prog X.w X.K X.mg X.base CX0 k f fd ps (upSp X.K sp))(hr:Room (k+1) X.A)(hg:Gl X x)(hm:X.mg x=some (.ref C))(hb:Binds X.K fd ps [])(ha:Jd (PAd X (e :: es) t))(hdb:(x == ("__debug__" : Str))=false:=by decide)(h1:isSt e=false:=by rfl)(h2:(es.all λ e=>!isSt e)=true:=by rfl):Jd (PD X (.Call (.Name x p) (e :: es) [] pos) (dMake C sp t)):=⟨D.pd_make (Mk':=Mk') (F:=F) (hr:=hr) (hg:=hg) (hm:=hm) (hb:=hb) (ha:=ha.h) (hdb:=hdb) (h1:=h1) (h2:=h2)⟩
end
section
variable {X:Cx}{o e:Expr}{pos apos cpos:Pos}{td te:TD}
theorem pd_seal (h:Jd (PD X e td)):Jd (PD X e (dSeal td)):=⟨D.pd_seal (h:=h.h)⟩
theorem pd_append (ho:Jd (PD X o td))(he:Jd (PD X e te))(hbase:attributeBase o "append" X.env (eval o X.env)=eval o X.env:=by rfl)(hfew:((backTo cpos (starEach [e] X.env)).all (λ x=>!x.1) && (backToKw cpos (keywordEach [] X.env)).all (λ x=>x.1.isSome)
   && decide (([e]:List Expr).length+([]:List Keyword).length+(if ([]:List Keyword).isEmpty then 0 else 1) < 30))=true:=by rfl)(hline:(apos.endLine == cpos.line)=true:=by rfl)(hs:isSt e=false:=by rfl):Jd (PD X (.Call (.Attribute o "append" apos) [e] [] cpos) (dAppend td te)):=⟨D.pd_append (ho:=ho.h) (he:=he.h) (hbase:=hbase) (hfew:=hfew) (hline:=hline) (hs:=hs)⟩
theorem pd_reverse (ho:Jd (PD X o td))(hbase:attributeBase o "reverse" X.env (eval o X.env)=eval o X.env:=by rfl)(hline:(apos.endLine == cpos.line)=true:=by rfl):Jd (PD X (.Call (.Attribute o "reverse" apos) [] [] cpos) (dReverse td)):=⟨D.pd_reverse (ho:=ho.h) (hbase:=hbase) (hline:=hline)⟩
end
section
variable {X:Cx}{pins:List (Addr×Obj)}{σ:St}{H:Hp}{s:Shared}
end
section
variable {X:Cx}
end
section
variable {X:Cx}{K:PySem.W.Frag}
theorem ptd_truth {a:Expr}{ta:TD}(ha:Jd (PD X a ta))(he:∀ whole:Sem Value,PySem.isTrue a X.env whole=(do let v <- whole; standAt a.pos; holding [v] (truthy v)):=by intro _; rfl):Jd (PTd X a (dTru ta)):=⟨D.ptd_truth (ha:=ha.h) (he:=he)⟩
end
section
variable {X:Cx}{K:PySem.W.Frag}
theorem pd_cat {a b:Expr}{pos:Pos}{ta tb:TD}(ha:Jd (PD X a ta))(hb:Jd (PD X b tb)):Jd (PD X (.BinOp a .Add b pos) (dCat ta tb)):=⟨D.pd_cat (ha:=ha.h) (hb:=hb.h)⟩
end
section
variable {X:Cx}{pos:Pos}{e:Expr}{es:List Expr}
theorem pgsd_nil  : Jd (PGsd X [] gsNil):=⟨D.pgsd_nil ⟩
theorem pgsd_cons {g:TGd}{gs:TGsd}(h1:Jd (PGd X e g))(h2:Jd (PGsd X es gs))(hs:(assignEach (e :: es) X.env).map (·.2)=assign e X.env :: (assignEach es X.env).map (·.2):=by rfl):Jd (PGsd X (e :: es) (gsCons g gs)):=⟨D.pgsd_cons (h1:=h1.h) (h2:=h2.h) (hs:=hs)⟩
theorem pgd_tup {k n:Nat}{gs:TGsd}(hc:X.calm=true)(h:Jd (PGsd X es gs))(hn:(assignEach es X.env).length=n:=by rfl)(hst:(assignEach es X.env).findIdx? (·.1)=none:=by rfl):Jd (PGd X (.Tuple es k pos) (gT n gs)):=⟨D.pgd_tup (hc:=hc) (h:=h.h) (hn:=hn) (hst:=hst)⟩
theorem pd_dictM {keys:List (Option Expr)}{values:List Expr}{trs:List (TD×TD)}(h:Jd (PPs X pos keys values (trs.map (pm X.K))))(hall:keys.all (·.isSome)=true:=by rfl)(hl:keys.length=values.length:=by rfl)(h0:keys≠[]:=by simp)(h15:keys.length<=15:=by decide):Jd (PD X (.Dict keys values pos) (dDictM trs)):=⟨D.pd_dictM (h:=h.h) (hall:=hall) (hl:=hl) (h0:=h0) (h15:=h15)⟩
end
section
variable {K:PySem.W.Frag}{C:Addr}
end
section
variable {X:Cx}{pos p:Pos}{e:Expr}{es:List Expr}{t:TAd}{x:Str}{T:String}{r:List V->Hp->VK->Prop}{rd:List W->MH->QD->Prop}
theorem pcT (hc:CallR X (.type T) r)(hd:CallD X.K r rd)(hg:Gl X x)(hm:X.mg x=none)(hv:bootBuiltins x=some (.type T))(ha:Jd (PAd X (e :: es) t))(hn:x ≠ "__name__" := by decide)(hdb:(x == ("__debug__" : Str))=false:=by decide)(h1:isSt e=false:=by rfl)(h2:(es.all λ e=>!isSt e)=true:=by rfl):Jd (PD X (.Call (.Name x p) (e :: es) [] pos) (dCB rd t)):=⟨D.pcT (hc:=hc) (hd:=hd) (hg:=hg) (hm:=hm) (hv:=hv) (ha:=ha.h) (hn:=hn) (hdb:=hdb) (h1:=h1) (h2:=h2)⟩
end
end Q
end D
namespace D
open PySem PySem.Spec PyProof.Rows L2
@[simp] theorem eqOk2_int (i j:Int):eqOk2 (.int i) (.int j)=true:=rfl
@[simp] theorem eqOk2_str (x y:Str):eqOk2 (.str x) (.str y)=true:=rfl
@[simp] theorem eqOk2_bool (x y:Bool):eqOk2 (.bool x) (.bool y)=true:=rfl
@[simp] theorem eqv_int (i j:Int):PyData.eqv (.int i) (.int j)=(i == j):=by rw [PyData.eqv]
@[simp] theorem eqv_str (i j:Str):PyData.eqv (.str i) (.str j)=(i == j):=by rw [PyData.eqv]
@[simp] theorem fitW_m (a:Addr):fitW (.m a)=true:=rfl
@[simp] theorem fitW_list (ds:List PyData):fitW (.d (.list ds))=true:=rfl
@[simp] theorem fitW_tuple (ds:List PyData):fitW (.d (.tuple ds))=true:=rfl
@[simp] theorem ixN_zero (n:Nat):ixN (n+1) 0=some 0:=by unfold ixN; simp
theorem atI_nn {α:Type}{xs:List α}{i:Int}(h0:0<=i)(h1:i < xs.length):atI xs i=some (xs[i.toNat]'(by omega)):=by
 unfold atI ixN
 rw [if_pos h0,if_pos h1]
 simp
inductive Bag (M:MH) (p:Addr):Prop
 | mk (a b c:Int) (ns:List Int) (e:M p=some (.lst [.d (.int a),.d (.int b),.d (.int c),.d (.list (ns.map PyData.int))])) (z:0<=a/\0<=b/\b < 2147483647/\0<=c/\(∀ n∈ns,0<=n)):Bag M p
noncomputable def sp_l_bag:SpD:=λ ws M Q=>∃ ns:List Int,ws=[.d (.list (ns.map PyData.int))]/\ns.length<=1000/\∀ p M',M p=none->(∀ q,q≠p->M' q=M q)->Bag M' p->Q (.m p) M'
inductive Sp_l_take (ws:List W) (M:MH) (Q:QD):Prop
 | mk (p:Addr) (n:Int) (z0:ws=[.m p,.d (.int n)]) (z1:Bag M p) (z2:0 < n) (z3:n < 1073741824) (z4:∀ (r:Int) M',0<=r->r < n->Bag M' p->(∀ q,q≠p->M' q=M q)->Q (.d (.int r)) M'):Sp_l_take ws M Q
noncomputable def sp_l_take:SpD:=Sp_l_take
theorem len_l_bag:∀ ws M Q,sp_l_bag ws M Q->ws.length=1:=by rintro ws M Q ⟨ns,rfl,_⟩; rfl
theorem len_l_take:∀ ws M Q,sp_l_take ws M Q->ws.length=2:=by rintro ws M Q ⟨p,n,rfl,_⟩; rfl
theorem ixN_nat {n:Nat}{i:Int}(h0:0<=i)(h1:i < n):ixN n i=some i.toNat:=by unfold ixN; rw [if_pos h0,if_pos h1]
theorem ix_m {M:MH}{p:Addr}{ws:List W}{i:Int}{x:W}(hm:M p=some (.lst ws))(h:atI ws i=some x):ixW M (.m p) i=some x:=by
 simp only [ixW,hm]; exact h
theorem ite_b {c:Bool}{A B:Prop}(h1:c=true->A)(h2:c=false->B):if c=true then A else B:=by
 cases c with
 | true=>rw [if_pos rfl]; exact h1 rfl
 | false=>rw [if_neg Bool.false_ne_true]; exact h2 rfl
end D
namespace D
open PySem PySem.Spec PyProof.Rows L2
noncomputable abbrev N_l_bag:List Str:=["_law_script"]
noncomputable def t_l_bag:TSd :=
  dRet (dLstM (dCons (dC (.d (.int 0))) (dCons (dC (.d (.int 1234567891))) (dCons (dC (.d (.int 0))) (dCons (dLC (dItems (dSl (dVar 0) (dNoPart) (dPart (dC (.d (.int 63)))))) (gN 0) (dYes) (dCB rdAbs (dCons (dVar 0) (dNil))) 1 []) (dNil))))))
noncomputable abbrev N_l_take:List Str:=["_law_bag_here", "_law_many", "_law_cell", "_law_value", "_law_first", "_law_second"]
noncomputable def t_l_take:TSd :=
  dSeq (dIf (dTest (dOp rdEq (dOp rdIx (dVar 0) (dC (.d (.int 0)))) (dC (.d (.int 0)))))
   (dSeq (dAsg (dC (.d (.int 0))) (gN 2)) <|
   dSeq (dIf (dTest (dOp rdLt (dOp rdIx (dVar 0) (dC (.d (.int 2)))) (dCB rdLen (dCons (dOp rdIx (dVar 0) (dC (.d (.int 3)))) (dNil)))))
    (dAsg (dOp rdIx (dOp rdIx (dVar 0) (dC (.d (.int 3)))) (dOp rdIx (dVar 0) (dC (.d (.int 2))))) (gN 2))
    (dNext)) <|
   dSeq (dAugS (dVar 0) (dC (.d (.int 2))) (dC (.d (.int 1))) (λ i j=>i+j)) <|
   dSeq (dIf (dTest (dOp rdGe (dVar 2) (dC (.d (.int 1000000000000000000)))))
    (dAsg (dVar 2) (gSet (dVar 0) (dC (.d (.int 0)))))
    (dNext)) <|
   dAsg (dOp rdMod (dOp rdAdd (dOp rdAdd (dOp rdMul (dOp rdIx (dVar 0) (dC (.d (.int 1)))) (dC (.d (.int 48271)))) (dOp rdMod (dVar 2) (dC (.d (.int 2147483647))))) (dOp rdMul (dC (.d (.int 7919))) (dOp rdIx (dVar 0) (dC (.d (.int 2)))))) (dC (.d (.int 2147483647)))) (gSet (dVar 0) (dC (.d (.int 1)))))
   (dNext)) <|
  dSeq (dIf (dTest (dOp rdGt (dOp rdIx (dVar 0) (dC (.d (.int 0)))) (dC (.d (.int 0)))))
   (dSeq (dAsg (dOp rdMod (dOp rdIx (dVar 0) (dC (.d (.int 0)))) (dVar 1)) (gN 3)) <|
   dSeq (dAsg (dOp rdDiv (dOp rdIx (dVar 0) (dC (.d (.int 0)))) (dVar 1)) (gSet (dVar 0) (dC (.d (.int 0))))) <|
   dRet (dVar 3))
   (dNext)) <|
  dSeq (dAsg (dOp rdMod (dOp rdMul (dOp rdAdd (dOp rdIx (dVar 0) (dC (.d (.int 1)))) (dC (.d (.int 1)))) (dC (.d (.int 39373)))) (dC (.d (.int 1000000007)))) (gN 4)) <|
  dSeq (dAsg (dOp rdMod (dOp rdMul (dOp rdMod (dOp rdMul (dVar 4) (dVar 4)) (dC (.d (.int 998244353)))) (dC (.d (.int 30011)))) (dC (.d (.int 998244353)))) (gN 5)) <|
  dSeq (dIf (dTest (dOp rdGt (dVar 1) (dC (.d (.int 1000000)))))
   (dRet (dOp rdMod (dOp rdAdd (dOp rdMul (dVar 5) (dC (.d (.int 1000000007)))) (dVar 4)) (dVar 1)))
   (dNext)) <|
  dRet (dOp rdMod (dOp rdDiv (dVar 5) (dC (.d (.int 7)))) (dVar 1))
noncomputable abbrev bagL (a b c:Int)(ns:List Int):List W:=[.d (.int a),.d (.int b),.d (.int c),.d (.list (ns.map PyData.int))]
theorem read_take2 {M:MH}{Q:QD}{p:Addr}{n:Int}{a b c:Int}{ns:List Int}{x:Option W}(hm:M p=some (.lst (bagL a b c ns)))(ha:0<=a)(hb:0<=b)(hb2:b < 2147483647)(hc:0<=c)(hns:∀ n∈ns,0<=n)(hn:0 < n)(hn2:n < 1073741824)
  (k:∀ (r:Int) M',0<=r->r < n->Bag M' p->(∀ q,q≠p->M' q=M q)->Q (.d (.int r)) M'){D:Ed}(hD:D.rt=Q) :
  (dSeq (dIf (dTest (dOp rdGt (dOp rdIx (dVar 0) (dC (.d (.int 0)))) (dC (.d (.int 0)))))
   (dSeq (dAsg (dOp rdMod (dOp rdIx (dVar 0) (dC (.d (.int 0)))) (dVar 1)) (gN 3)) <|
   dSeq (dAsg (dOp rdDiv (dOp rdIx (dVar 0) (dC (.d (.int 0)))) (dVar 1)) (gSet (dVar 0) (dC (.d (.int 0))))) <|
   dRet (dVar 3))
   (dNext)) <|
  dSeq (dAsg (dOp rdMod (dOp rdMul (dOp rdAdd (dOp rdIx (dVar 0) (dC (.d (.int 1)))) (dC (.d (.int 1)))) (dC (.d (.int 39373)))) (dC (.d (.int 1000000007)))) (gN 4)) <|
  dSeq (dAsg (dOp rdMod (dOp rdMul (dOp rdMod (dOp rdMul (dVar 4) (dVar 4)) (dC (.d (.int 998244353)))) (dC (.d (.int 30011)))) (dC (.d (.int 998244353)))) (gN 5)) <|
  dSeq (dIf (dTest (dOp rdGt (dVar 1) (dC (.d (.int 1000000)))))
   (dRet (dOp rdMod (dOp rdAdd (dOp rdMul (dVar 5) (dC (.d (.int 1000000007)))) (dVar 4)) (dVar 1)))
   (dNext)) <|
  dRet (dOp rdMod (dOp rdDiv (dVar 5) (dC (.d (.int 7)))) (dVar 1))) D [some (.m p),some (.d (.int n)),x,none,none,none] M:=by
 subst hD
 have i0:ixW M (.m p) 0=some (.d (.int a)):=ix_m hm rfl
 have i1:ixW M (.m p) 1=some (.d (.int b)):=ix_m hm rfl
 have same:Bag M p:=⟨a,b,c,ns,hm,ha,hb,hb2,hc,hns⟩
 refine ⟨_,rfl,_,_,rfl,i0,rfl,_,_,rfl,rfl,_,rfl,?_⟩
 refine ite_b (λ h=>?_) (λ h=>?_)
 ·have h0:0 < a:=of_decide_eq_true h
  refine ⟨_,rfl,_,_,rfl,i0,rfl,_,rfl,_,_,rfl,rfl,hn,?_⟩
  refine ⟨_,rfl,_,_,rfl,i0,rfl,_,rfl,_,_,rfl,rfl,⟨hn,hn2⟩,?_⟩
  refine ⟨_,rfl,_,_,_,_,rfl,rfl,hm,rfl,?_⟩
  refine ⟨_,rfl,?_⟩
  refine k _ _ (Int.emod_nonneg _ (by omega)) (Int.emod_lt_of_pos _ hn) ⟨a / n,b,c,ns,updM_same,Int.ediv_nonneg ha (by omega),hb,hb2,hc,hns⟩ λ q hq=>updM_ne hq
 ·refine ⟨_,rfl,_,_,rfl,i1,rfl,.inl ?_⟩
  refine ⟨_,_,rfl,rfl,_,_,rfl,rfl,.inl ⟨by omega,by omega⟩,_,_,rfl,rfl,(by decide:(0:Int) < 1000000007),?_⟩
  have f0:0<=(b+1) * 39373 % 1000000007:=Int.emod_nonneg _ (by decide)
  have f1:(b+1) * 39373 % 1000000007 < 1000000007:=Int.emod_lt_of_pos _ (by decide)
  refine ⟨_,rfl,_,rfl,_,_,rfl,rfl,.inl ⟨by omega,by omega⟩,_,_,rfl,rfl,(by decide:(0:Int) < 998244353),?_⟩
  have g0:0<=(b+1) * 39373 % 1000000007 * ((b+1) * 39373 % 1000000007) % 998244353:=Int.emod_nonneg _ (by decide)
  have g1:(b+1) * 39373 % 1000000007 * ((b+1) * 39373 % 1000000007) % 998244353 < 998244353:=Int.emod_lt_of_pos _ (by decide)
  refine ⟨_,_,rfl,rfl,.inl ⟨by omega,by omega⟩,_,_,rfl,rfl,(by decide:(0:Int) < 998244353),?_⟩
  have e0:0<=(b+1) * 39373 % 1000000007 * ((b+1) * 39373 % 1000000007) % 998244353 * 30011 % 998244353:=Int.emod_nonneg _ (by decide)
  have e1:(b+1) * 39373 % 1000000007 * ((b+1) * 39373 % 1000000007) % 998244353 * 30011 % 998244353 < 998244353:=Int.emod_lt_of_pos _ (by decide)
  refine ⟨_,rfl,_,_,rfl,rfl,_,rfl,?_⟩
  refine ite_b (λ h=>?_) (λ h=>?_)
  ·refine ⟨_,rfl,_,_,rfl,rfl,.inl ⟨by omega,by omega⟩,_,rfl,.inl ⟨_,_,rfl,rfl,_,rfl,_,_,rfl,rfl,hn,?_⟩⟩
   exact k _ _ (Int.emod_nonneg _ (by omega)) (Int.emod_lt_of_pos _ hn) same λ q _=>rfl
  ·refine ⟨_,rfl,_,_,rfl,rfl,⟨by decide,by decide⟩,_,rfl,_,_,rfl,rfl,hn,?_⟩
   exact k _ _ (Int.emod_nonneg _ (by omega)) (Int.emod_lt_of_pos _ hn) same λ q _=>rfl
theorem read_take1 {M:MH}{p:Addr}{n cell:Int}{a b c:Int}{ns:List Int}{D:Ed}(hm:M p=some (.lst (bagL a b c ns)))(ha:0<=a)(hb:0<=b)(hb2:b < 2147483647)(hc:0<=c)(hcell:0<=cell)
  (k:∀ a' b' c' M',0<=a'->0<=b'->b' < 2147483647->0<=c'->M' p=some (.lst (bagL a' b' c' ns))->(∀ q,q≠p->M' q=M q)->D.nx [some (.m p),some (.d (.int n)),some (.d (.int cell)),none,none,none] M') :
  (dSeq (dAugS (dVar 0) (dC (.d (.int 2))) (dC (.d (.int 1))) (λ i j=>i+j)) <|
   dSeq (dIf (dTest (dOp rdGe (dVar 2) (dC (.d (.int 1000000000000000000)))))
    (dAsg (dVar 2) (gSet (dVar 0) (dC (.d (.int 0)))))
    (dNext)) <|
   dAsg (dOp rdMod (dOp rdAdd (dOp rdAdd (dOp rdMul (dOp rdIx (dVar 0) (dC (.d (.int 1)))) (dC (.d (.int 48271)))) (dOp rdMod (dVar 2) (dC (.d (.int 2147483647))))) (dOp rdMul (dC (.d (.int 7919))) (dOp rdIx (dVar 0) (dC (.d (.int 2)))))) (dC (.d (.int 2147483647)))) (gSet (dVar 0) (dC (.d (.int 1)))))
   D [some (.m p),some (.d (.int n)),some (.d (.int cell)),none,none,none] M:=by
 refine ⟨_,rfl,_,_,_,_,_,rfl,rfl,hm,rfl,rfl,_,rfl,rfl,?_⟩
 have m1:updM M p (.lst (bagL a b (c+1) ns)) p=some (.lst (bagL a b (c+1) ns)):=updM_same
 have f1:∀ q,q≠p->updM M p (.lst (bagL a b (c+1) ns)) q=M q:=λ q hq=>updM_ne hq
 show (dSeq _ _) D _ (updM M p (.lst (bagL a b (c+1) ns)))
 generalize updM M p (.lst (bagL a b (c+1) ns))=M1 at m1 f1
 have fin:∀ (a':Int) (M2:MH),0<=a'->M2 p=some (.lst (bagL a' b (c+1) ns))->(∀ q,q≠p->M2 q=M q) ->
   dAsg (dOp rdMod (dOp rdAdd (dOp rdAdd (dOp rdMul (dOp rdIx (dVar 0) (dC (.d (.int 1)))) (dC (.d (.int 48271)))) (dOp rdMod (dVar 2) (dC (.d (.int 2147483647))))) (dOp rdMul (dC (.d (.int 7919))) (dOp rdIx (dVar 0) (dC (.d (.int 2)))))) (dC (.d (.int 2147483647)))) (gSet (dVar 0) (dC (.d (.int 1)))) D [some (.m p),some (.d (.int n)),some (.d (.int cell)),none,none,none] M2:=by
  intro a' M2 ha' m2 f2
  have i1:ixW M2 (.m p) 1=some (.d (.int b)):=ix_m m2 rfl
  have i2:ixW M2 (.m p) 2=some (.d (.int (c+1))):=ix_m m2 rfl
  refine ⟨_,rfl,_,_,rfl,i1,rfl,_,_,rfl,rfl,.inl ⟨by omega,by omega⟩,_,rfl,_,_,rfl,rfl,(by decide:(0:Int) < 2147483647),.inl ?_⟩
  refine ⟨_,_,rfl,rfl,_,rfl,_,_,rfl,i2,rfl,_,_,rfl,rfl,.inl ⟨by decide,by decide⟩,.inl ?_⟩
  refine ⟨_,_,rfl,rfl,_,_,rfl,rfl,(by decide:(0:Int) < 2147483647),_,rfl,_,_,_,_,rfl,rfl,m2,rfl,?_⟩
  exact k a' _ (c+1) _ ha' (Int.emod_nonneg _ (by decide)) (Int.emod_lt_of_pos _ (by decide)) (by omega) updM_same λ q hq=>(updM_ne hq).trans (f2 q hq)
 refine ⟨_,rfl,_,_,rfl,rfl,_,rfl,?_⟩
 refine ite_b (λ h=>?_) (λ h=>?_)
 ·refine ⟨_,rfl,_,rfl,_,_,_,_,rfl,rfl,m1,rfl,?_⟩
  exact fin cell _ hcell updM_same λ q hq=>(updM_ne hq).trans (f1 q hq)
 ·exact fin a M1 ha m1 f1
theorem read_l_take:∀ ws M Q,sp_l_take ws M Q->t_l_take { nx:=λ _ M'=>Q (.d .none) M',rt:=Q } (startD N_l_take ws) M:=by
 rintro ws M Q ⟨p,n,rfl,⟨a,b,c,ns,hm,ha,hb,hb2,hc,hns⟩,hn,hn2,k⟩
 have i0:ixW M (.m p) 0=some (.d (.int a)):=ix_m hm rfl
 have i2:ixW M (.m p) 2=some (.d (.int c)):=ix_m hm rfl
 have i3:ixW M (.m p) 3=some (.d (.list (ns.map PyData.int))):=ix_m hm rfl
 refine ⟨_,rfl,_,_,rfl,i0,rfl,_,_,rfl,rfl,rfl,_,rfl,?_⟩
 refine ite_b (λ h=>?_) (λ h=>?_)
 ·refine ⟨_,rfl,_,_,rfl,i2,rfl,_,rfl,_,_,rfl,i3,rfl,_,_,rfl,rfl,rfl,_,_,rfl,rfl,_,rfl,?_⟩
  refine ite_b (λ h=>?_) (λ h=>?_)
  ·have hlt:c < ((ns.map PyData.int).length:Nat):=of_decide_eq_true h
   have hlt':c.toNat < ns.length:=by rw [List.length_map] at hlt; omega
   have ic:ixW M (.d (.list (ns.map PyData.int))) c=some (.d (.int (ns[c.toNat]'hlt'))):=by
    simp only [ixW]
    rw [atI_nn hc hlt]
    simp
   refine ⟨_,rfl,_,_,rfl,i3,rfl,_,rfl,_,_,rfl,i2,rfl,_,_,rfl,ic,rfl,?_⟩
   refine read_take1 (cell:=ns[c.toNat]'hlt') hm ha hb hb2 hc (hns _ (List.getElem_mem _)) λ a' b' c' M' h1 h2 h3 h4 h5 h6=>?_
   exact read_take2 (x:=some (.d (.int (ns[c.toNat]'hlt')))) h5 h1 h2 h3 h4 hns hn hn2 (λ r M'' r0 r1 bg fr=>k r M'' r0 r1 bg λ q hq=>(fr q hq).trans (h6 q hq)) rfl
  ·refine read_take1 (cell:=0) hm ha hb hb2 hc (Int.le_refl 0) λ a' b' c' M' h1 h2 h3 h4 h5 h6=>?_
   exact read_take2 (x:=some (.d (.int 0))) h5 h1 h2 h3 h4 hns hn hn2 (λ r M'' r0 r1 bg fr=>k r M'' r0 r1 bg λ q hq=>(fr q hq).trans (h6 q hq)) rfl
 ·exact read_take2 (x:=none) hm ha hb hb2 hc hns hn hn2 k rfl
theorem take_fm {f:W->Option PyData}{ws:List W}{i:Nat}{w:W}(h:ws[i]? = some w):(ws.take (i+1)).filterMap f=(ws.take i).filterMap f++(f w).toList:=by
 rw [List.take_add_one,h,List.filterMap_append]
 cases e:f w <;> simp [e]
theorem lc_pure {tt:TTd}{te:TD}{fr:List Nat}{τ:DS}{M:MH}{Q:List PyData->MH->Prop}{ws:List W}(f:W->Option PyData)(hl:ws.length<=sizeLine)
  (step:∀ w∈ws,∀ P':Option PyData->Prop,P' (f w)->tt (some w :: fr.map λ j=>(τ[j]?).getD none) M λ b M3=>if b=true then te (some w :: fr.map λ j=>(τ[j]?).getD none) M3 λ y M4=>∃ d,y=.d d/\M4=M/\P' (some d) else M3=M/\P' none)
  (q:Q (ws.filterMap f) M):∃ P:Nat->List PyData->DS->MH->Prop,P 0 [] (lcSD 1 fr τ) M /\
   (∀ i w acc τ M,ws[i]? = some w->P i acc τ M->acc.length < sizeLine/\gN 0 w τ M λ τ2 M2=>tt τ2 M2 λ b M3=>if b=true then te τ2 M3 λ y M4=>∃ d,y=.d d/\P (i+1) (acc++[d]) τ2 M4 else P (i+1) acc τ2 M3) /\
   ∀ acc τ M,P ws.length acc τ M->Q acc M:=by
 let Pk:Nat->List PyData->DS->Prop:=λ i acc τ'=>i<=ws.length/\acc=(ws.take i).filterMap f/\∃ x,τ'=x :: fr.map λ j=>(τ[j]?).getD none
 refine ⟨λ i acc τ' M'=>M'=M/\Pk i acc τ',⟨rfl,Nat.zero_le _,rfl,none,rfl⟩,λ i w acc τ' M' hw hp=>?_,λ acc τ' M' hp=>?_⟩
 ·obtain ⟨rfl,hi,rfl,x,rfl⟩:=hp
  have hlt:i < ws.length:=(List.getElem?_eq_some_iff.mp hw).1
  refine ⟨?_,step w (List.mem_of_getElem? hw) (λ o=>match o with
   | some d=>Pk (i+1) ((ws.take i).filterMap f++[d]) (some w :: fr.map λ j=>(τ[j]?).getD none)
   | none=>Pk (i+1) ((ws.take i).filterMap f) (some w :: fr.map λ j=>(τ[j]?).getD none)) ?_⟩
  ·have h1:=List.length_filterMap_le f (ws.take i)
   rw [List.length_take] at h1
   omega
  ·cases e:f w with
   | some d=>exact ⟨hlt,by rw [take_fm hw,e]; rfl,_,rfl⟩
   | none=>exact ⟨hlt,by rw [take_fm hw,e]; simp,_,rfl⟩
 ·obtain ⟨rfl,hi,rfl,x,rfl⟩:=hp
  rw [List.take_of_length_le (Nat.le_refl _)]
  exact q
theorem lc_inv {tt:TTd}{te:TD}{fr:List Nat}{τ:DS}{M:MH}{Q:List PyData->MH->Prop}{ws:List W}(J:MH->Prop)(G:PyData->Prop)(hl:ws.length<=sizeLine)(j0:J M)
  (step:∀ w∈ws,∀ M',J M'->∀ P':Option PyData->MH->Prop,(∀ d M'',G d->J M''->P' (some d) M'')->(∀ M'',J M''->P' none M'') ->
   tt (some w :: fr.map λ j=>(τ[j]?).getD none) M' λ b M3=>if b=true then te (some w :: fr.map λ j=>(τ[j]?).getD none) M3 λ y M4=>∃ d,y=.d d/\P' (some d) M4 else P' none M3)
  (q:∀ acc M',J M'->(∀ d∈acc,G d)->acc.length<=ws.length->Q acc M'):∃ P:Nat->List PyData->DS->MH->Prop,P 0 [] (lcSD 1 fr τ) M /\
   (∀ i w acc τ M,ws[i]? = some w->P i acc τ M->acc.length < sizeLine/\gN 0 w τ M λ τ2 M2=>tt τ2 M2 λ b M3=>if b=true then te τ2 M3 λ y M4=>∃ d,y=.d d/\P (i+1) (acc++[d]) τ2 M4 else P (i+1) acc τ2 M3) /\
   ∀ acc τ M,P ws.length acc τ M->Q acc M:=by
 let Pk:Nat->List PyData->DS->MH->Prop:=λ i acc τ' M'=>acc.length<=i/\(∀ d∈acc,G d)/\J M'/\∃ x,τ'=x :: fr.map λ j=>(τ[j]?).getD none
 refine ⟨Pk,⟨Nat.le_refl _,λ d h=>(nomatch h),j0,none,rfl⟩,λ i w acc τ' M' hw hp=>?_,λ acc τ' M' hp=>?_⟩
 ·obtain ⟨hi,hg,hj,x,rfl⟩:=hp
  have hlt:i < ws.length:=(List.getElem?_eq_some_iff.mp hw).1
  refine ⟨by omega,step w (List.mem_of_getElem? hw) M' hj (λ o M2=>match o with
   | some d=>Pk (i+1) (acc++[d]) (some w :: fr.map λ j=>(τ[j]?).getD none) M2
   | none=>Pk (i+1) acc (some w :: fr.map λ j=>(τ[j]?).getD none) M2) (λ d M2 gd j2=>?_) λ M2 j2=>?_⟩
  ·refine ⟨by rw [List.length_append,List.length_singleton]; omega,λ d' hd'=>?_,j2,_,rfl⟩
   rcases List.mem_append.mp hd' with z | z
   ·exact hg d' z
   ·rw [List.mem_singleton.mp z]; exact gd
  ·exact ⟨by omega,hg,j2,_,rfl⟩
 ·obtain ⟨hi,hg,hj,x,rfl⟩:=hp
  exact q acc M' hj hg hi
theorem fm_map {α:Type}(g:α->W)(f:W->Option PyData)(h:α->PyData)(e:∀ a,f (g a)=some (h a))(l:List α):(l.map g).filterMap f=l.map h:=by
 induction l with
 | nil=>rfl
 | cons a l ih=>rw [List.map_cons,List.filterMap_cons,e,ih]; rfl
theorem read_l_bag:∀ ws M Q,sp_l_bag ws M Q->t_l_bag { nx:=λ _ M'=>Q (.d .none) M',rt:=Q } (startD N_l_bag ws) M:=by
 rintro ws M Q ⟨ns,rfl,hl,k⟩
 refine ⟨_,rfl,_,rfl,_,rfl,rfl,_,rfl,?_⟩
 have ec:cutD (ns.map PyData.int) none (some 63)=(cutD ns none (some 63)).map PyData.int:=by
  simp only [cutD,List.length_map,List.map_take,List.map_drop]
 have hlen:(cutD ns none (some 63)).length<=ns.length:=by
  simp only [cutD,List.length_take,List.length_drop]
  omega
 have h1000:(1000:Nat)<=sizeLine:=by rw [sizeLine_eq]; decide
 dsimp only
 refine lc_pure (λ w=>match w with
  | .d (.int n)=>some (.int (if n < 0 then -n else n))
  | _=>none) ?hl (λ w hw P' hp=>?_) ?_
 case hl=>rw [List.length_map,ec,List.length_map]; omega
 ·rw [ec,List.map_map] at hw
  obtain ⟨n,_,rfl⟩:=List.mem_map.mp hw
  exact ⟨_,rfl,_,rfl,_,rfl,rfl,hp⟩
 ·have e2:(List.map W.d (cutD (ns.map PyData.int) none (some 63))).filterMap (λ w=>match w with
    | .d (.int n)=>some (PyData.int (if n < 0 then -n else n))
    | _=>none)=((cutD ns none (some 63)).map λ n=>if n < 0 then -n else n).map PyData.int:=by
   rw [ec,List.map_map,fm_map (W.d ∘ PyData.int) _ (λ n=>PyData.int (if n < 0 then -n else n)) (λ n=>rfl),List.map_map]
   rfl
  rw [e2]
  refine ⟨by simp [sizeLine_eq],λ p hp=>k p _ hp (λ q hq=>updM_ne hq) ⟨0,1234567891,0,_,updM_same,Int.le_refl 0,by decide,by decide,Int.le_refl 0,λ n hn=>?_⟩⟩
  obtain ⟨m,_,rfl⟩:=List.mem_map.mp hn
  split <;> omega
end D
namespace D
open PySem PySem.Spec PyProof.Rows L2
noncomputable def ascB (z:Str):Bool:=z.cps.all (· < 128)
mutual
noncomputable def big:PyData->Nat
 | .none=>4
 | .bool _=>5
 | .int _=>2000
 | .str z=>10 * z.length+2
 | .list ds=>bigA ds+2
 | .tuple ds=>bigA ds+3
 | .dict kvs=>bigK kvs+2
noncomputable def bigA:List PyData->Nat
 | []=>0
 | d :: ds=>big d+2+bigA ds
noncomputable def bigK:List (PyData×PyData)->Nat
 | []=>0
 | (k,d) :: ds=>big k+2+big d+2+bigK ds
end
theorem s16:(1000000:Nat)<=sizeLine:=by rw [sizeLine_eq]; decide
end D
namespace D
open PySem PySem.Spec PyProof.Rows L2
noncomputable def Asc (z:Str):Prop:=∀ c∈z.cps.toList,c < 128
theorem str_len (z:Str):z.cps.toList.length=z.length:=by simp [Str.length]
theorem len_app (x y:Str):(x++y).length=x.length+y.length:=by show (x.cps++y.cps).size=_; simp [Str.length]
noncomputable def Tx (n:Nat)(d:PyData):Prop:=∃ z:Str,d=.str z/\z.length<=n/\Asc z
theorem tx_list {n:Nat}:∀ {ds:List PyData},(∀ d∈ds,Tx n d)->∃ ys:List Str,ds=ys.map PyData.str/\∀ y∈ys,y.length<=n/\Asc y
 | [],_=>⟨[],rfl,λ y h=>(nomatch h)⟩
 | d :: ds,h=>by
  obtain ⟨z,e,h1,h2⟩:=h d List.mem_cons_self
  obtain ⟨ys,e2,h3⟩:=tx_list λ d' hd'=>h d' (List.mem_cons_of_mem _ hd')
  refine ⟨z :: ys,by rw [e,e2]; rfl,λ y hy=>?_⟩
  rcases List.mem_cons.mp hy with rfl | hy
  ·exact ⟨h1,h2⟩
  ·exact h3 y hy
theorem asc_dec {z:Str}(h:z.cps.all (· < 128)=true):Asc z:=by
 intro c hc
 have:=Array.all_eq_true_iff_forall_mem.mp h c (by simpa using hc)
 simpa using this
theorem asc_one {z:Str}{c:Nat}(h:Asc z)(hc:c∈z.cps.toList):Asc ⟨#[c]⟩:=by
 intro d hd
 have:d=c:=by simpa using hd
 rw [this]
 exact h c hc
theorem ix_str_at {M:MH}{z:Str}{r:Int}(h0:0<=r)(h1:r < z.length):∃ c,ixW M (.d (.str z)) r=some (.d (.str ⟨#[c]⟩))/\c∈z.cps.toList:=by
 have hl:r < (z.cps.toList.length:Nat):=by rw [str_len]; exact h1
 refine ⟨z.cps.toList[r.toNat]'(by omega),?_,List.getElem_mem _⟩
 simp only [ixW]
 rw [atI_nn h0 hl]
 rfl
noncomputable abbrev alphaS:Str := "abcdefghijklmnopqrstuvwxyz"
theorem alphaL:alphaS.length=26:=by decide +kernel
theorem few {n:Nat}(h:n<=1000):n<=sizeLine:=by have:=s16; omega
end D
namespace D
open PySem PySem.Spec PyProof.Rows L2
section
variable {X:Cx}{pins:List (Addr×Obj)}{σ:St}{H H0:Hp}{s s0:Shared}
theorem Inv.swap {a:Addr}{u u':HO}(I:Inv X pins σ H s)(h:H a=some u)(n1:∀ xs,u ≠ .tup xs)(n2:∀ x,u ≠ .own x)(b1:∀ xs,X.H₀ a≠some (.tup xs))(b2:∀ o v,X.H₀ a≠some (.frz o v))(b3:∀ ps,X.H₀ a≠some (.tbl ps))
  (new:ObjOk X.prog X.w (upd H a u') s.heap a u'):Inv X pins σ (upd H a u') s:=by
 have nn:∀ b,H b=none->b≠a:=λ b e z=>by rw [z,h] at e; cases e
 refine ⟨I.ok,I.os,I.bare,⟨I.base.keep,I.base.slot,λ b ob q n x=>?_,I.base.there,λ b xs q=>?_,λ b ob v q=>?_,λ b ps q=>?_⟩,I.loc,I.cell,?_,λ x c q=>?_,λ p hp=>?_,λ b v q=>?_,I.len⟩
 ·have:=I.base.free b ob q n x
  rw [upd_ne (nn b this)]; exact this
 ·rw [upd_ne (λ z:b=a=>b1 xs (by rw [<- z]; exact q))]; exact I.base.tups b xs q
 ·rw [upd_ne (λ z:b=a=>b2 ob v (by rw [<- z]; exact q))]; exact I.base.frzs b ob v q
 ·rw [upd_ne (λ z:b=a=>b3 ps (by rw [<- z]; exact q))]; exact I.base.tbls b ps q
 ·rw [upd_ne (nn _ I.free)]; exact I.free
 ·have:=I.freeC x c q
  rw [upd_ne (nn c this)]; exact this
 ·obtain ⟨p1,p2,p3⟩:=I.pin p hp
  exact ⟨p1,by rw [upd_ne (nn _ p2)]; exact p2,p3⟩
 ·by_cases hb:b=a
  ·subst hb
   rw [upd_same] at q
   cases q
   exact new
  ·rw [upd_ne hb] at q
   refine (I.hok b v q).stay (λ _ _ _ q=>q) (λ c r=>?_) λ c xs r=>?_
   ·rw [upd_ne (λ z=>by rw [z,h] at r; exact n2 _ (Option.some.inj r))]; exact r
   ·rw [upd_ne (λ z=>by rw [z,h] at r; exact n1 _ (Option.some.inj r))]; exact r
theorem base_of {a:Addr}{l:List (Key×V)}(I:Inv X pins σ H s)(h:H a=some (.dK l)):(∀ xs,X.H₀ a≠some (.tup xs))/\(∀ o v,X.H₀ a≠some (.frz o v))/\∀ ps,X.H₀ a≠some (.tbl ps):=by
 refine ⟨λ xs e=>?_,λ o v e=>?_,λ ps e=>?_⟩
 ·have:=I.base.tups a xs e; rw [h] at this; cases this
 ·have:=I.base.frzs a o v e; rw [h] at this; cases this
 ·obtain ⟨m,this⟩:=I.base.tbls a ps e; rw [h] at this; cases this
theorem Inv.still {a:Addr}{l:List (Key×V)}(I:Inv X pins σ H s)(h:H a=some (.dK l)):∃ o,Inv X pins σ (upd H a (.frz o (.frz o (.dK l)))) s:=by
 have f:Fz (.dK l):=trivial
 obtain ⟨o,ho⟩:=(I.hok a _ h).obj f
 obtain ⟨b1,b2,b3⟩:=base_of I h
 exact ⟨o,Inv.swap I h (λ _ z=>nomatch z) (λ _ z=>nomatch z) b1 b2 b3 ⟨ho,ho,(I.hok a _ h).anyH f⟩⟩
theorem Inv.again {σ0:St}{a:Addr}{o:Obj}{l:List (Key×V)}(I0:Inv X pins σ0 H0 s0)(h0:H0 a=some (.dK l))(I:Inv X pins σ H s)(h:H a=some (.frz o (.frz o (.dK l)))):Inv X pins σ (upd H a (.dK l)) s:=by
 have f:Fz (.dK l):=trivial
 obtain ⟨b1,b2,b3⟩:=base_of I0 h0
 exact Inv.swap I h (λ _ z=>nomatch z) (λ _ z=>nomatch z) b1 b2 b3 ((I.hok a _ h).2.2.anyH f)
end
noncomputable def tStill (t:TE):TE:=λ σ H Q=>∃ a l,H a=some (.dK l)/\∀ o,t σ (upd H a (.frz o (.frz o (.dK l)))) λ v H'=>H' a=some (.frz o (.frz o (.dK l)))/\Q v (upd H' a (.dK l))
theorem pe_still {X:Cx}{e:Expr}{t:TE}(h:PE X e t):PE X e (tStill t):=by
 intro pins s σ H Q I ⟨a,l,ha,q⟩
 obtain ⟨o,I1⟩:=Inv.still I ha
 exact thn (h pins s σ _ _ I1 (q o)) λ v s1 ⟨x,H',I2,r,e,q2⟩=>⟨x,_,Inv.again I ha I2 e,r,q2⟩
section
variable {K:PySem.W.Frag}{H:Hp}{a:Addr}{o:Obj}{l:List (Key×V)}
theorem Kp.back (h:H a=some (.frz o (.frz o (.dK l)))):(∀ b xs,H b=some (.tup xs)->upd H a (.dK l) b=some (.tup xs))/\(∀ b ob ys,H b=some (.frz ob (.lst ys))->upd H a (.dK l) b=some (.frz ob (.lst ys)))/\∀ b ob ys,H b=some (.frz ob (.dK ys))->upd H a (.dK l) b=some (.frz ob (.dK ys)):=by
 refine ⟨λ b xs e=>?_,λ b ob ys e=>?_,λ b ob ys e=>?_⟩ <;>
 ·rw [upd_ne (λ z=>by rw [z,h] at e; cases e)]; exact e
theorem SqT.back {b:Addr}{vs:List V}(h:H a=some (.frz o (.frz o (.dK l))))(r:SqT K H b vs):SqT K (upd H a (.dK l)) b vs:=by
 rcases r with (r | ⟨ob,r⟩) | r
 ·exact .inl (.inl ((Kp.back h).1 _ _ r))
 ·refine .inl (.inr ⟨ob,?_⟩)
  rw [upd_ne (λ z=>by rw [z,h] at r; cases r)]; exact r
 ·exact .inr r
theorem SqF.back {b:Addr}{vs:List V}(h:H a=some (.frz o (.frz o (.dK l))))(r:SqF K H b vs):SqF K (upd H a (.dK l)) b vs:=by
 rcases r with ⟨ob,r⟩ | r
 ·exact .inl ⟨ob,(Kp.back h).2.1 _ _ _ r⟩
 ·exact .inr r
mutual
theorem RepD.back (h:H a=some (.frz o (.frz o (.dK l)))):∀ {d:PyData} {v:V},RepD K H d v->RepD K (upd H a (.dK l)) d v
 | .none,v,r=>by simp only [RepD] at r ⊢; exact r
 | .bool b,v,r=>by simp only [RepD] at r ⊢; exact r
 | .int i,v,r=>by simp only [RepD] at r ⊢; exact r
 | .str x,v,r=>by simp only [RepD] at r ⊢; exact r
 | .list ds,v,r=>by
  simp only [RepD] at r ⊢
  obtain ⟨b,vs,e,q,r⟩:=r
  exact ⟨b,vs,e,SqF.back h q,RepA.back h r⟩
 | .tuple ds,v,r=>by
  simp only [RepD] at r ⊢
  obtain ⟨b,vs,e,q,r⟩:=r
  exact ⟨b,vs,e,SqT.back h q,RepA.back h r⟩
 | .dict kvs,v,r=>by
  simp only [RepD] at r ⊢
  obtain ⟨b,ob,m,e,q,r⟩:=r
  exact ⟨b,ob,m,e,(Kp.back h).2.2 _ _ _ q,RepK.back h r⟩
theorem RepA.back (h:H a=some (.frz o (.frz o (.dK l)))):∀ {ds:List PyData} {vs:List V},RepA K H ds vs->RepA K (upd H a (.dK l)) ds vs
 | [],vs,r=>by simp only [RepA] at r ⊢; exact r
 | d :: ds,vs,r=>by
  simp only [RepA] at r ⊢
  obtain ⟨v,q,e,h1,h2⟩:=r
  exact ⟨v,q,e,RepD.back h h1,RepA.back h h2⟩
theorem RepK.back (h:H a=some (.frz o (.frz o (.dK l)))):∀ {ds:List (PyData×PyData)} {m:List (Key×V)},RepK K H ds m->RepK K (upd H a (.dK l)) ds m
 | [],m,r=>by simp only [RepK] at r ⊢; exact r
 | (key,d) :: ds,m,r=>by
  simp only [RepK] at r ⊢
  obtain ⟨k',v,q,e,ek,h1,h2⟩:=r
  exact ⟨k',v,q,e,ek,RepD.back h h1,RepK.back h h2⟩
end
theorem RepW.back (h:H a=some (.frz o (.frz o (.dK l)))):∀ {w:W} {v:V},RepW K H w v->RepW K (upd H a (.dK l)) w v
 | .d _,_,r=>RepD.back h r
 | .m _,_,r=>r
 | .t _,_,r=>r
theorem MAbs.back {M:MH}{kvs:List (Key×W)}(h:H a=some (.frz o (.frz o (.dK l))))(m:MAbs K H M)(e:M a=some (.fdic kvs)):MAbs K (upd H a (.dK l)) (updM M a (.dic kvs)):=λ b mo q=>by
 by_cases hb:b=a
 ·subst hb
  rw [updM_same] at q
  cases q
  obtain ⟨o',l',e',pr⟩:=m _ _ e
  rw [h] at e'
  cases e'
  exact ⟨l,upd_same,Paired.mapP pr λ p q z=>⟨z.1,RepW.back h z.2⟩⟩
 ·rw [updM_ne hb] at q
  have r:=m b mo q
  cases mo with
  | lst ws=>obtain ⟨vs,e,r⟩:=r; exact ⟨vs,by rw [upd_ne hb]; exact e,Paired.mapP r λ _ _ z=>RepW.back h z⟩
  | dic kvs=>obtain ⟨l,e,r⟩:=r; exact ⟨l,by rw [upd_ne hb]; exact e,Paired.mapP r λ p q z=>⟨z.1,RepW.back h z.2⟩⟩
  | dct kvs=>obtain ⟨l,e,r⟩:=r; exact ⟨l,by rw [upd_ne hb]; exact e,Paired.mapP r λ p q z=>⟨z.1,RepW.back h z.2⟩⟩
  | fdic kvs=>obtain ⟨o,l,e,r⟩:=r; exact ⟨o,l,by rw [upd_ne hb]; exact e,Paired.mapP r λ p q z=>⟨z.1,RepW.back h z.2⟩⟩
  | ins C fs=>obtain ⟨dx,l,e,r⟩:=r; exact ⟨dx,l,by rw [upd_ne hb]; exact e,Paired.mapP r λ p q z=>⟨z.1,RepW.back h z.2⟩⟩
  | tup ws=>obtain ⟨vs,e,r⟩:=r; exact ⟨vs,by rw [upd_ne hb]; exact e,Paired.mapP r λ _ _ z=>RepW.back h z⟩
  | flst ws=>obtain ⟨o,vs,e,r⟩:=r; exact ⟨o,vs,by rw [upd_ne hb]; exact e,Paired.mapP r λ _ _ z=>RepW.back h z⟩
  | exc C fs =>
   obtain ⟨φ,dct,e,p,r⟩:=r
   refine ⟨φ,dct,by rw [upd_ne hb]; exact e,p,?_⟩
   rcases r with r | ⟨dx,o',l',e1,e2,r⟩
   ·exact .inl r
   ·exact .inr ⟨dx,o',l',e1,by rw [upd_ne (λ z=>by rw [z,h] at e2; cases e2)]; exact e2,Paired.mapP r λ p q z=>⟨z.1,RepW.back h z.2⟩⟩
  | code q pos =>
   obtain ⟨ps,e,ht,hc⟩:=r
   refine ⟨ps,by rw [upd_ne hb]; exact e,ht,?_⟩
   rcases hc with hc | ⟨c,o',vs,t,e1,e2,e3⟩
   ·exact .inl hc
   ·exact .inr ⟨c,o',vs,t,e1,by rw [upd_ne (λ z=>by rw [z,h] at e2; cases e2)]; exact e2,e3⟩
end
noncomputable def dStill (t:TD)(τ:DS)(M:MH)(Q:QD):Prop:=∃ a kvs,M a=some (.dic kvs)/\t τ (updM M a (.fdic kvs)) λ v M'=>M' a=some (.fdic kvs)/\Q v (updM M' a (.dic kvs))
theorem pd_still {X:Cx}{e:Expr}{t:TD}(h:PD X e t):PD X e (dStill t):=pe_w (pe_still h) λ σ H Q hq80=>by
 obtain ⟨τ,M,Qd,A,⟨a,kvs,hm,q⟩,k⟩:=hq80
 obtain ⟨l,e,pr⟩:=A.mem _ _ hm
 refine ⟨a,l,e,λ o=>?_⟩
 have kp:Kp H (upd H a (.frz o (.frz o (.dK l)))):=Kp.set e (λ _ z=>nomatch z) (λ _ _ z=>nomatch z)
 have m1:MAbs X.K (upd H a (.frz o (.frz o (.dK l)))) (updM M a (.fdic kvs)):=A.mem.put (mo:=.fdic kvs) kp ⟨o,l,upd_same,Paired.mapP pr λ p q z=>⟨z.1,z.2.keep kp⟩⟩
 refine ⟨τ,_,_,A.go kp m1,q,λ v H' w M' kp' r' m' hq81=>?_⟩
 obtain ⟨h1,q1⟩:=hq81
 have e':=kp'.frz a o _ upd_same
 refine ⟨e',k _ _ w _ ⟨λ b xs z=>?_,λ b ob u z=>?_⟩ (RepW.back e' r') (MAbs.back e' m' h1) q1⟩
 ·have hb:b≠a:=λ y=>by rw [y,e] at z; cases z
  rw [upd_ne hb]
  exact kp'.tup b xs (by rw [upd_ne hb]; exact z)
 ·have hb:b≠a:=λ y=>by rw [y,e] at z; cases z
  rw [upd_ne hb]
  exact kp'.frz b ob u (by rw [upd_ne hb]; exact z)
noncomputable def dNeverS (_:Ed)(_:DS)(_:MH):Prop:=False
theorem psd_never {X:Cx}{st:Stmt}:PSd X st dNeverS:=λ pins s σ H D I ⟨τ,M,Dd,A,h,_⟩=>h.elim
end D
namespace D
open PySem PySem.Spec PyProof.Rows L2
section
variable {X:Cx}{pins:List (Addr×Obj)}{σ:St}{H:Hp}{s:Shared}
theorem Inv.trackT {D:Addr}{ys:List V}{us:List Value}{n:Nat}(I:Inv X pins σ H s)(e:s.heap.get? D=some { cls:=.type "tuple",data:=.seq us.toArray n })(hn:H D=none)(hv:Vals ys us)(hz:ys.length<=sizeLine)
  (h0:D∈X.ex\/X.s₀.heap.objs.size<=D)(hL:D≠X.env.locals)(hc:∀ x c,X.env.cells.lookup x=some c->c≠D)(hp:∀ p∈X.pn++pins,p.1≠D):Inv X pins σ (upd H D (.tup ys)) s:=by
 have ne:∀ b u,H b=some u->b≠D:=λ b u q=>ne_of_none q hn
 refine I.step (h':=s.heap) (g':=s.gens) (d':=s.drawn) (t':=s.toks) (ch:=[D]) (λ b hb=>?_) (λ b o _ _ _ q _=>q) (λ b o _ _ _ q _=>⟨o.slots,q⟩) (λ b o hb q n=>?_) (λ b o _ q=>⟨o,q⟩)
  (λ b xs q=>by rw [upd_ne (ne b _ q)]; exact q) (λ b o u q=>by rw [upd_ne (ne b _ q)]; exact q) (λ b ps q=>⟨#[],by rw [upd_ne (ne b _ q),q]; simp⟩) (λ m hm=>hm) (λ b u q=>?_) I.bare
 ·have e:b=D:=by simpa using hb
  subst e
  exact ⟨h0,hL,hc,hp⟩
 ·rw [upd_ne (λ z=>hb (by simp [z]))]; exact n
 ·by_cases hb:b=D
  ·subst hb
   rw [upd_same] at q
   cases q
   exact ⟨hz,us,hv,⟨_,e,rfl,rfl,n,rfl⟩⟩
  ·rw [upd_ne hb] at q
   exact (I.hok b u q).stay (λ _ _ _ q=>q) (λ c r=>by rw [upd_ne (ne c _ r)]; exact r) λ c xs r=>by rw [upd_ne (ne c _ r)]; exact r
end
noncomputable abbrev stillH (o:Obj)(l:List (Key×V)):HO:=.frz o (.frz o (.dK l))
theorem still_at {P:Program}{w:World}{H:Hp}{h:Heap}{a:Addr}{o:Obj}{l:List (Key×V)}(ok:HOk P w H h)(e:H a=some (stillH o l)):(a == sysModules)=false/\∃ vs es ep,KV l vs/\o.data=.dict es ep/\h.DictAt (mixKind P w) a vs ep:=by
 obtain ⟨ho,_,z,hd,vs,rel,o',es,ep,h1,h2,h3,h4⟩:=ok a _ e
 rw [ho] at h1
 cases h1
 exact ⟨hd,vs,es,ep,rel,h3,o,es,ho,h2,h3,h4⟩
noncomputable def Itk (a:Addr)(o:Obj)(l:List (Key×V)):It :=
 ⟨λ i H=>H a=some (stillH o l)/\i < l.length,λ i H x H'=>H'=H/\∃ kv,l[i]? = some kv/\x=kV kv.1,λ i H=>H a=some (stillH o l)/\l.length<=i⟩
theorem kv_at {κ:Type}[DecidableEq κ]{l:List (κ×V)}{vs:List (κ×Value)}(r:KV l vs){i:Nat}(h:i < l.length):∃ kv k v,l[i]? = some kv/\vs[i]? = some (k,v)/\kv.1=k/\RelV kv.2 v:=by
 unfold KV at r
 induction r generalizing i with
 | nil=>simp at h
 | @cons p q ps qs hp t ih =>
  cases i with
  | zero=>exact ⟨p,q.1,q.2,rfl,rfl,hp.1,hp.2⟩
  | succ i =>
   obtain ⟨kv,k,v,e1,e2,e3,e4⟩:=ih (i:=i) (by simpa using h)
   exact ⟨kv,k,v,by simpa using e1,by simpa using e2,e3,e4⟩
theorem kV_rel {P:Program}{w:World}{k:Key}{u:Value}(h:(mixKind P w).is k u=true):RelV (kV k) u:=by
 cases k with
 | inl i =>
  have h':Value.isInt i u=true:=h
  unfold Value.isInt at h'
  split at h'
  ·rename_i j t
   have:j=i:=by simpa using h'
   subst this
   exact ⟨t,rfl⟩
  ·cases h'
 | inr x =>
  have h':Value.isStrOf x u=true:=h
  unfold Value.isStrOf at h'
  split at h'
  ·rename_i j t
   have:j=x:=by simpa using h'
   subst this
   exact ⟨t,rfl⟩
  ·cases h'
theorem turn_dkeys {P:Program}{w:World}{K:PySem.W.Frag}{tg:Expr}(a it:Addr)(o:Obj)(l:List (Key×V))(es:Array DictEntry)(ep:Nat)(ho:o.data=.dict es ep) :
  Turn P w K tg (Itk a o l) [it] it (λ i h=>h.IsKeyIter it a i l.length ep) where
 mem:=by simp
 obj:=λ i h st b hb=>by
  have e:b=it:=by simpa using hb
  subst e
  obtain ⟨o,e,c,d⟩:=st
  exact ⟨o,e,λ v z=>by rw [d] at z; cases z⟩
 keep:=λ i h h' ⟨o,e,c,d⟩ k=>⟨o,k it (by simp) _ e,c,d⟩
 item:=by
  intro X hP hw hK hc i pins s σ H E I hf st ⟨hg,hi⟩
  subst hP hw hK
  obtain ⟨f0,f1,f2,f3,f4,f5⟩:=hf it (by simp)
  obtain ⟨hd,vs,es',ep',rel,ho',da⟩:=still_at I.hok hg
  rw [ho] at ho'
  cases ho'
  obtain ⟨kv,k,v,e1,e2,e3,e4⟩:=kv_at rel hi
  have hl:l.length=vs.length:=rel.length
  rw [hl] at st
  refine wpAny_pyNext_dict_item st da e2 λ key h' hk st' sb=>?_
  have I1:Inv X pins σ H { s with heap:=h' }:=I.turned (t':=s.toks) (λ b o hb e=>(sb.2 b hb).trans e) f0 f1 f3 f4 f5
  obtain ⟨ob,e,c,d⟩:=id st'
  exact ⟨_,rfl,go_of (s:={ s with heap:=h' }) e c d (by decide) ⟨kV kv.1,H,I1,by rw [e3]; exact kV_rel hk,⟨rfl,kv,e1,rfl⟩,by rw [hl]; exact st',λ b hb=>(hf b hb).1⟩⟩
 done:=by
  intro X hP hw hK hc i pins s σ H E I hf st ⟨hg,hi⟩
  subst hP hw hK
  obtain ⟨f0,f1,f2,f3,f4,f5⟩:=hf it (by simp)
  obtain ⟨hd,vs,es',ep',rel,ho',da⟩:=still_at I.hok hg
  rw [ho] at ho'
  cases ho'
  have hl:l.length=vs.length:=rel.length
  rw [hl] at st hi
  exact wpAny_pyNext_dict_end (I.ok.hd hc) st da (List.getElem?_eq_none hi) λ h' eb=>⟨rfl,I.turned (t':=s.toks) (λ b o hb e=>eb b o hb e) f0 f1 f3 f4 f5⟩
 self:=λ _ _ _ _ _ st h=>wpAny_pyIter_keyiter st h
section
variable {X:Cx}{tg o:Expr}{apos cpos:Pos}{td:TE}
noncomputable def iDKeys (td:TE):TI:=λ σ H R=>td σ H λ x H1=>∃ a o l,x=.ref a/\H1 a=some (stillH o l)/\R (Itk a o l) H1
theorem pi_dkeys (ho:PE X o td):PI X tg o (iDKeys td):=by
 intro pins s σ H R I h
 refine thn (ho pins s σ H _ I h) λ v s1 hq82=>?_
 obtain ⟨x,H1,I1,r1,a,ob,l,ex,hg,q⟩:=hq82
 subst ex
 cases r1
 obtain ⟨hd,vs,es,ep,rel,hdat,da⟩:=still_at I1.hok hg
 refine wpAny_pyIter_dict hd da ?_
 refine ⟨_,[_],_,_,H1,rfl,I1.kept (t':=s1.toks) λ b o e=>Heap.get?_push_of_some _ e,turn_dkeys a _ ob l es ep hdat,⟨_,Heap.get?_push_size _ rfl,rfl,?_⟩,λ b hb=>?_,q⟩
 ·rw [rel.length]; rfl
 ·rw [List.mem_singleton] at hb
  rw [hb]
  exact I1.fpOk (Nat.le_refl _) (I1.hok.fresh (Nat.le_refl _))
end
section
variable {X:Cx}{K:PySem.W.Frag}{tg o:Expr}{apos cpos:Pos}{td:TD}
noncomputable def keysOfW (kds:List (Key×PyData)):List W:=kds.map λ p=>kW p.1
noncomputable def dataKV (kds:List (Key×PyData)):List (Key×W):=kds.map λ p=>(p.1,.d p.2)
theorem pr_get {H:Hp}:∀ {kds:List (Key×PyData)} {l:List (Key×V)},Paired (λ (p:Key×W) (q:Key×V)=>p.1=q.1/\RepW K H p.2 q.2) (dataKV kds) l->l.length=kds.length/\∀ (i:Nat) kv,l[i]? = some kv->∃ p,kds[i]? = some p/\p.1=kv.1/\RepD K H p.2 kv.2
 | [],l,h=>by
  cases h
  exact ⟨rfl,λ i kv e=>by simp at e⟩
 | p :: kds,l,h=>by
  cases h with
  | cons r t =>
   obtain ⟨h1,h2⟩:=pr_get t
   refine ⟨by simp [h1],λ i kv e=>?_⟩
   cases i with
   | zero =>
    simp at e
    subst e
    exact ⟨p,rfl,r.1,r.2⟩
   | succ i =>
    obtain ⟨p',e1,e2⟩:=h2 i kv (by simpa using e)
    exact ⟨p',by simpa using e1,e2⟩
noncomputable def dDKeys (td:TD)(τ:DS)(M:MH)(R:List W->MH->Prop):Prop:=td τ M λ w M1=>∃ a kds,w=.m a/\M1 a=some (.fdic (dataKV kds))/\R (keysOfW kds) M1
theorem pid_dkeys (ho:PD X o td):PId X tg o (dDKeys td):=pi_w (pi_dkeys ho) λ σ H R hq83=>by
 obtain ⟨τ,M,Rd,A,h,k⟩:=hq83
 refine ⟨τ,M,_,A,h,λ v H1 w M1 kp r m hq84=>?_⟩
 obtain ⟨a,kds,ew,hm,q⟩:=hq84
 subst ew
 obtain ⟨ob,l,e,pr⟩:=m _ _ hm
 obtain ⟨hlen,hget⟩:=pr_get pr
 refine ⟨a,ob,l,r,e,k _ H1 _ M1 kp m (λ H2 kp2 i=>?_) q⟩
 have hlw:(keysOfW kds).length=l.length:=by rw [hlen]; simp [keysOfW]
 have e2:=kp2.frz a ob _ e
 refine ⟨λ hi=>⟨e2,by omega⟩,λ hi=>⟨e2,by omega⟩,λ x H' hi hq85=>?_⟩
 obtain ⟨eH,kv,hkv,ex⟩:=hq85
 subst ex eH
 obtain ⟨p,e3,e4,e5⟩:=hget i kv hkv
 refine ⟨Kp.refl _,λ M m=>m,kW p.1,by simp [keysOfW,e3],?_⟩
 rw [e4]
 cases kv.1 <;> simp [kW,keyD,kV,RepW,RepD]
end
theorem vals_strs:∀ {zs:List Str} {its:List Value},StrsAre its zs->Vals (zs.map V.str) its
 | _,_,.nil=>.nil
 | _,_,.cons y t h=>.cons ⟨t,rfl⟩ (vals_strs h)
section
variable {X:Cx}{K:PySem.W.Frag}
theorem reps_strs {H:Hp}:∀ (zs:List Str),RepWs K H (strsW zs) (zs.map V.str)
 | []=>.nil
 | z :: zs=>.cons (by simp [RepW,RepD]) (reps_strs zs)
end
end D
namespace D
open PySem PySem.Spec PyProof.Rows L2
section
variable {X:Cx}{K:PySem.W.Frag}
theorem call_isiT:CallR X (.builtin "isinstance") (λ xs H Q=>∃ x d T,xs=[x,.ty T]/\RepT X.K H d x/\Ty6 T/\Q (.bl (isiD d T)) H):=by
 intro pins s σ H xs us Q I r h
 obtain ⟨x,d,T,rfl,rd,h6,q⟩:=h
 rcases rd with rd | ⟨a,vs,ds,rfl,rfl,ha,ra⟩
 ·exact call_isiD pins s σ H _ us Q I r ⟨x,d,T,rfl,rd,h6,q⟩
 obtain ⟨u,w',rfl,rx,ry⟩:=vals2 r
 cases (show w'=Value.type T from ry)
 have e:=isi_kit (K:=X.K) (.list ds) h6
 have fin:∀ tk,EP X pins σ Q (.bool (isiD (.list ds) T)) { s with toks:=tk }:=λ tk=>⟨.bl _,H,I.tok _,rfl,q⟩
 generalize isiD (.list ds) T=b at e fin
 cases (show u=Value.ref a from rx)
 obtain ⟨its,rv,⟨o,n,e1,e2,e3,e4⟩,hz⟩:=I.list (.inl (.inl ha))
 exact PySem.W.kia_one PySem.W.kitx_list I.kIn ⟨_,e1,e2⟩ e (λ z=>nomatch z) fin
noncomputable def rdIsiT (ws:List W)(M:MH)(Q:QD):Prop:=∃ w d T,ws=[w,.t T]/\DatW M w d/\Ty6 T/\Q (.d (.bool (isiD d T))) M
theorem cd_isiT:CallD K (λ xs H Q=>∃ x d T,xs=[x,.ty T]/\RepT K H d x/\Ty6 T/\Q (.bl (isiD d T)) H) rdIsiT:=by
 intro vs H ws M Qd Q r m ⟨w,d,T,e,g,h6,q⟩ k
 subst e
 obtain ⟨v,v',e1,r1,r2⟩:=repWs2 r
 simp only [RepW] at r2
 subst r2
 exact ⟨v,d,T,e1,g.sound r1 m,h6,k _ H (.d (.bool _)) M (Kp.refl H) (by simp [RepW,RepD]) m q⟩
end
end D
namespace D
open PySem PySem.Spec PyProof.Rows L2
namespace Q
section
variable {X:Cx}{pins:List (Addr×Obj)}{σ:St}{H H0:Hp}{s s0:Shared}
end
section
variable {K:PySem.W.Frag}{H:Hp}{a:Addr}{o:Obj}{l:List (Key×V)}
end
theorem pd_still {X:Cx}{e:Expr}{t:TD}(h:Jd (PD X e t)):Jd (PD X e (dStill t)):=⟨D.pd_still (h:=h.h)⟩
theorem psd_never {X:Cx}{st:Stmt}:Jd (PSd X st dNeverS):=⟨D.psd_never ⟩
section
variable {X:Cx}{pins:List (Addr×Obj)}{σ:St}{H:Hp}{s:Shared}
end
section
variable {X:Cx}{tg o:Expr}{apos cpos:Pos}{td:TE}
end
section
variable {X:Cx}{K:PySem.W.Frag}{tg o:Expr}{apos cpos:Pos}{td:TD}
theorem pid_dkeys (ho:Jd (PD X o td)):Jd (PId X tg o (dDKeys td)):=⟨D.pid_dkeys (ho:=ho.h)⟩
end
section
variable {X:Cx}{K:PySem.W.Frag}
end
section
variable {X:Cx}{K:PySem.W.Frag}
end
end Q
end D
namespace S
open PySem PySem.W PyProof.Rows
noncomputable def go {α:Type}(lt:Nat->Nat->Bool):KasT α->α
 | .ret a=>a
 | .ask i j k=>go lt (k (lt i j))
structure Weak (lt:Nat->Nat->Bool):Prop where
 asym:∀ a b,lt a b=true->lt b a=false
 tr:∀ a b c,lt b a=false->lt c b=false->lt c a=false
section
variable {lt:Nat->Nat->Bool}
theorem Weak.ltle (h:Weak lt){a b c:Nat}(h1:lt a b=true)(h2:lt c b=false):lt a c=true:=by
 cases e:lt a c with
 | true=>rfl
 | false =>
  have:=h.tr b c a h2 e
  rw [h1] at this
  cases this
theorem Weak.lelt (h:Weak lt){a b c:Nat}(h1:lt b a=false)(h2:lt b c=true):lt a c=true:=by
 cases e:lt a c with
 | true=>rfl
 | false =>
  have:=h.tr c a b e h1
  rw [h2] at this
  cases this
noncomputable def B (lt:Nat->Nat->Bool)(a b:Nat):Prop:=lt a b=true\/(lt a b=false/\lt b a=false/\a < b)
theorem B.le (h:Weak lt){a b:Nat}(q:B lt a b):lt b a=false:=by
 rcases q with q | q
 ·exact h.asym _ _ q
 ·exact q.2.1
theorem B.tr (h:Weak lt){a b c:Nat}(q:B lt a b)(r:B lt b c):B lt a c:=by
 rcases q with q | ⟨q1,q2,q3⟩
 ·rcases r with r | ⟨r1,r2,r3⟩
  ·exact .inl (h.ltle q (h.asym _ _ r))
  ·exact .inl (h.ltle q r2)
 ·rcases r with r | ⟨r1,r2,r3⟩
  ·exact .inl (h.lelt q2 r)
  ·exact .inr ⟨h.tr _ _ _ r1 q1,h.tr _ _ _ q2 r2,by omega⟩
noncomputable abbrev g (p:Array Nat)(i:Nat):Nat:=p.getD i 0
theorem g_eq (p:Array Nat)(i:Nat):g p i=(p[i]?).getD 0:=by simp [g]
theorem g_rev {p:Array Nat}{i j:Nat}(hj:j<=p.size)(k:Nat):g (kas_rev p i j) k=if i<=k/\k < j then g p (i+j - 1 - k) else g p k:=by
 rw [g_eq,g_eq,g_eq]
 unfold kas_rev
 rw [getElem?_mirror_all hj k]
 split <;> rfl
structure Un (p:Array Nat)(N n:Nat):Prop where
 size:p.size=N
 lo:∀ i,i < n->g p i < n
 hi:∀ i,n<=i->i < N->g p i=i
theorem Un.up {p:Array Nat}{N n m:Nat}(u:Un p N n)(h:n<=m)(hm:m<=N):Un p N m:=by
 refine ⟨u.size,λ k hk=>?_,λ k hk hk2=>u.hi k (by omega) hk2⟩
 by_cases z:k < n
 ·have:=u.lo k z; omega
 ·have:=u.hi k (by omega) (by omega)
  omega
noncomputable def Up (lt:Nat->Nat->Bool)(p:Array Nat)(n:Nat):Prop:=∀ i j,i < j->j < n->B lt (g p i) (g p j)
noncomputable def Dn (lt:Nat->Nat->Bool)(p:Array Nat)(n:Nat):Prop:=∀ i j,i < j->j < n->B lt (g p j) (g p i)
theorem Up.succ (h:Weak lt){p:Array Nat}{n:Nat}(u:Up lt p n)(q:0 < n->B lt (g p (n - 1)) (g p n)):Up lt p (n+1):=by
 intro i j hij hj
 by_cases e:j < n
 ·exact u i j hij e
 ·have e:j=n:=by omega
  subst e
  have q:=q (by omega)
  by_cases z:i=j - 1
  ·rw [z]; exact q
  ·exact (u i (j - 1) (by omega) (by omega)).tr h q
theorem Dn.up {p:Array Nat}{n:Nat}(x:Dn lt p n)(hN:n<=p.size):Up lt (kas_rev p 0 n) n:=λ i j hij hj=>by
 rw [g_rev hN,g_rev hN,if_pos (by omega),if_pos (by omega)]
 exact x _ _ (by omega) (by omega)
end
end S
namespace S
open PySem PySem.W PyProof.Rows
noncomputable def Asks {α:Type}(N:Nat)(R:α->Prop):KasT α->Prop
 | .ret a=>R a
 | .ask i j k=>i < N/\j < N/\∀ b,Asks N R (k b)
theorem Asks.bind {α β:Type}{N:Nat}{R:α->Prop}{R':β->Prop}{f:α->KasT β}(hf:∀ a,R a->Asks N R' (f a)):∀ {t:KasT α},Asks N R t->Asks N R' (t.bind f)
 | .ret a,h=>hf a h
 | .ask i j k,h=>⟨h.1,h.2.1,λ b=>Asks.bind hf (h.2.2 b)⟩
noncomputable def Low (N:Nat)(p:Array Nat):Prop:=∀ i,g p i < N
theorem Low.of {N:Nat}{p:Array Nat}(hN:1<=N)(h:∀ x∈p.toList,x < N):Low N p:=λ i=>by
 rw [g_eq]
 cases e:p[i]? with
 | none=>simp; omega
 | some x=>exact h x (by rw [Array.mem_toList_iff]; exact Array.mem_of_getElem? e)
theorem Low.mem {N:Nat}{p:Array Nat}(h:Low N p):∀ x∈p.toList,x < N:=λ x hx=>by
 rw [Array.mem_toList_iff] at hx
 obtain ⟨i,hi,e⟩:=Array.mem_iff_getElem.mp hx
 have:=h i
 rw [g_eq] at this
 simp [hi] at this
 omega
section
variable {N:Nat}
end
section
variable {prog:Program}{w:World}{A:Around}{E:Value->Shared->Prop}{s:Shared}
end
end S
namespace S
open PySem PySem.W PyProof.Rows
noncomputable def Shape:List Bool->List PyData->Prop
 | [],[]=>True
 | true :: bs,d :: ds=>(∃ x,d=.str x)/\Shape bs ds
 | false :: bs,d :: ds=>(∃ i,d=.int i)/\Shape bs ds
 | _,_=>False
noncomputable def rowAt (rows:List (List PyData))(i:Nat):List PyData:=rows.getD i (rows.headD [])
noncomputable def RowV:List PyData->List Value->Prop:=Paired λ d u=>(∃ i t,d=.int i/\u=.int i t)\/∃ x t,d=.str x/\u=.str x t
section
variable {prog:Program}{w:World}{A:Around}{Q:Bool->Shared->Prop}
end
end S
namespace D
open PySem PySem.Spec PyProof.Rows L2 S
section
variable {K:PySem.W.Frag}
theorem RowV.len:∀ {ds:List PyData} {us:List Value},RowV ds us->us.length=ds.length:=λ h=>(Paired.length h).symm
noncomputable def RowsAt (h:Heap)(sh:List Bool)(rows:List (List PyData))(its:List Value):Prop:=Paired (λ row u=>Shape sh row/\∃ a o us n,u=Value.ref a/\h.get? a=some o/\o.cls=.type "tuple" /\ o.data=.seq us n/\RowV row us.toList) rows its
theorem RowsAt.keep {h h':Heap}{sh:List Bool}{rows:List (List PyData)}{its:List Value}(k:∀ b o,h.get? b=some o->h'.get? b=some o)(r:RowsAt h sh rows its):RowsAt h' sh rows its :=
 Paired.mapP r λ row u ⟨s,a,o,us,n,e,g,c,d,q⟩=>⟨s,a,o,us,n,e,k _ _ g,c,d,q⟩
theorem RowsAt.get {h:Heap}{sh:List Bool}:∀ {rows:List (List PyData)} {its:List Value} (i:Nat),i < rows.length->RowsAt h sh rows its->∃ a o us n,its.getD i Value.none=.ref a/\h.get? a=some o/\o.cls=.type "tuple" /\ o.data=.seq us n/\Shape sh (rowAt rows i)/\RowV (rowAt rows i) us.toList:=by
 have main:∀ {rows:List (List PyData)} {its:List Value} (i:Nat) (dflt:List PyData),i < rows.length->RowsAt h sh rows its->∃ a o us n,its.getD i Value.none=.ref a/\h.get? a=some o/\o.cls=.type "tuple" /\ o.data=.seq us n/\Shape sh (rows.getD i dflt)/\RowV (rows.getD i dflt) us.toList:=by
  intro rows
  induction rows with
  | nil=>intro its i d hi _; simp at hi
  | cons row rows ih =>
   intro its i d hi r
   cases r with
   | cons r1 r2 =>
    cases i with
    | zero =>
     obtain ⟨s,a,o,us,n,e,g,c,dd,q⟩:=r1
     exact ⟨a,o,us,n,e,g,c,dd,s,q⟩
    | succ i =>
     obtain ⟨a,o,us,n,e,z⟩:=ih i d (by simpa using hi) r2
     exact ⟨a,o,us,n,by simpa using e,by simpa using z⟩
 exact λ {rows its} i hi r=>main i _ hi r
theorem RowsAt.tups {h:Heap}{t:Bool}{sh:List Bool}:∀ {rows:List (List PyData)} {its:List Value},RowsAt h (t :: sh) rows its->∃ fs,PySem.W.KatTups h its fs/\fs.length=its.length/\∀ v∈fs,(t=true/\∃ x k,v=Value.str x k)\/(t=false/\∃ i k,v=Value.int i k)
 | [],its,r=>by
  cases r
  exact ⟨[],.nil,rfl,λ v hv=>by simp at hv⟩
 | row :: rows,its,r=>by
  cases r with
  | cons r1 r2 =>
   obtain ⟨fs,h1,h2,h3⟩:=RowsAt.tups r2
   obtain ⟨s,a,o,us,n,e,g,c,dd,q⟩:=r1
   subst e
   match row,s with
   | d :: ds,s =>
    obtain ⟨f,us2,eu,hf⟩:∃ f us2,us.toList=f :: us2/\((t=true/\∃ x k,f=Value.str x k)\/(t=false/\∃ i k,f=Value.int i k)):=by
     generalize us.toList=ul at q
     cases q with
     | @cons _ u _ ul2 q1 q2 =>
      refine ⟨u,ul2,rfl,?_⟩
      cases t with
      | true =>
       obtain ⟨⟨x,rfl⟩,_⟩:=s
       rcases q1 with ⟨_,_,e,_⟩ | ⟨_,k,e,e'⟩
       ·cases e
       ·exact .inl ⟨rfl,_,_,e'⟩
      | false =>
       obtain ⟨⟨x,rfl⟩,_⟩:=s
       rcases q1 with ⟨_,k,e,e'⟩ | ⟨_,_,e,_⟩
       ·exact .inr ⟨rfl,_,_,e'⟩
       ·cases e
    have e0:us[0]? = some f:=by
     have:us.toList[0]? = some f:=by rw [eu]; rfl
     simpa using this
    refine ⟨f :: fs,.cons g c dd e0 h1,by simp [h2],λ v hv=>?_⟩
    rcases List.mem_cons.mp hv with rfl | hv
    ·exact hf
    ·exact h3 v hv
   | [],s=>cases t <;> cases s
end
section
variable {X:Cx}{K:PySem.W.Frag}
end
end D
namespace D
open PySem PySem.Spec PyProof.Rows L2 S
section
variable {P:Program}{w:World}{H:Hp}{h h':Heap}{a:Addr}{o:HO}
end
section
variable {X:Cx}{pins:List (Addr×Obj)}{σ:St}{H:Hp}{s:Shared}{h':Heap}
end
section
variable {X:Cx}{K:PySem.W.Frag}
theorem keys_vals {P:Program}{w:World}:∀ {zs:List Str} {vs:List (Key×Value)} {us:List Value},vs.map (·.1)=zs.map Sum.inr->us.length=vs.length->(∀ (j:Nat) v,us[j]? = some v->∃ k x,vs[j]? = some (k,x)/\(mixKind P w).is k v=true)->StrsAre us zs
 | [],vs,us,h,hl,hp=>by
  have e:vs=[]:=by simpa using h
  subst e
  have e:us=[]:=by simpa using hl
  subst e
  exact .nil
 | z :: zs,vs,us,h,hl,hp=>by
  match vs,us,h,hl,hp with
  | (k,x) :: vs,u :: us,h,hl,hp =>
   simp only [List.map_cons,List.cons.injEq] at h
   obtain ⟨k',x',e,hk⟩:=hp 0 u rfl
   simp at e
   obtain ⟨e1,e2⟩:=e
   subst e1 e2
   rw [h.1,mixKind_is] at hk
   obtain ⟨t,e⟩:∃ t,u=.str z t:=by
    rcases keyIs_shape hk with ⟨i,t,e,_⟩ | ⟨y,t,e,e'⟩
    ·cases e
    ·cases e
     exact ⟨t,e'⟩
   subst e
   exact .cons z t (keys_vals h.2 (by simpa using hl) λ j v hj=>by simpa using hp (j+1) v (by simpa using hj))
  | [],_,h,_,_=>simp at h
  | _ :: _,[],_,hl,_=>simp at hl
noncomputable def isNone:W->Bool
 | .d .none=>true
 | _=>false
theorem isNone_rep {H:Hp}{w:W}{v:V}(r:RepW K H w v):decide (v=.non)=isNone w:=by
 cases w with
 | m a=>cases (show v=.ref a from r); rfl
 | t n=>cases (show v=.ty n from r); rfl
 | d x =>
  cases x <;> simp only [RepW,RepD] at r
  ·subst r; rfl
  ·subst r; rfl
  ·subst r; rfl
  ·subst r; rfl
  all_goals first
   | (obtain ⟨a,vs,e,_⟩:=r; subst e; rfl)
   | (obtain ⟨a,o,l,e,_⟩:=r; subst e; rfl)
noncomputable def rdIsN (neg:Bool)(w:W)(w':W)(M:MH)(Q:QD):Prop:=w'=.d .none/\Q (.d (.bool (xor neg (isNone w)))) M
theorem opd_isN:OpD K (λ x y H Q=>y=.non/\Q (.bl (decide (x=.non))) H) (rdIsN false):=by
 intro x y H w w' M Qd Q r1 r2 m ⟨e,q⟩ k
 subst e
 simp only [RepW,RepD] at r2
 refine ⟨r2,k _ _ (.d (.bool (isNone w))) M (Kp.refl _) ?_ m (by simpa using q)⟩
 rw [isNone_rep r1]
 simp [RepW,RepD]
theorem opd_notN:OpD K (λ x y H Q=>y=.non/\Q (.bl (!decide (x=.non))) H) (rdIsN true):=by
 intro x y H w w' M Qd Q r1 r2 m ⟨e,q⟩ k
 subst e
 simp only [RepW,RepD] at r2
 refine ⟨r2,k _ _ (.d (.bool (!isNone w))) M (Kp.refl _) ?_ m (by simpa using q)⟩
 rw [isNone_rep r1]
 simp [RepW,RepD]
end
end D
namespace D
open PySem PySem.Spec PyProof.Rows L2
section
variable {X:Cx}{pins:List (Addr×Obj)}{σ:St}{H:Hp}{s:Shared}{h':Heap}
theorem Inv.turned2 {t':Nat}{it e:Addr}(I:Inv X pins σ H s)(k:∀ b o,b≠it->b≠e->s.heap.get? b=some o->h'.get? b=some o)(f:FpOk X pins H it)(g:FpOk X pins H e):Inv X pins σ H { s with heap:=h',toks:=t' }:=by
 obtain ⟨f0,f1,f2,f3,f4,f5⟩:=f
 obtain ⟨g0,g1,g2,g3,g4,g5⟩:=g
 have nit:∀ b u,H b=some u->b≠it:=λ b u q z=>by rw [z,f0] at q; cases q
 have ne:∀ b u,H b=some u->b≠e:=λ b u q z=>by rw [z,g0] at q; cases q
 refine I.step (g':=s.gens) (d':=s.drawn) (ch:=[it,e]) (λ b hb=>?_) (λ b o _ _ hc q _=>k b o (λ z=>hc (by simp [z])) (λ z=>hc (by simp [z])) q) (λ b o _ _ hc q _=>⟨o.slots,k b o (λ z=>hc (by simp [z])) (λ z=>hc (by simp [z])) q⟩) (λ _ _ _ _ n=>n)
  (λ b o hc q=>⟨o,k b o (λ z=>hc (by simp [z])) (λ z=>hc (by simp [z])) q⟩) (λ _ _ q=>q) (λ _ _ _ q=>q) (λ b ps q=>⟨#[],by rw [q]; simp⟩) (λ m hm=>?_) (λ b u q=>?_) I.bare
 ·have z:b=it\/b=e:=by simpa using hb
  rcases z with rfl | rfl
  ·exact ⟨f3,f1,f4,f5⟩
  ·exact ⟨g3,g1,g4,g5⟩
 ·obtain ⟨o,es,ep,ho,r⟩:=hm
  exact ⟨o,es,ep,k _ o (Ne.symm f1) (Ne.symm g1) ho,r⟩
 ·refine (I.hok b u q).stay (λ c v hc z=>k c v ?_ ?_ z) (λ _ z=>z) λ _ _ z=>z
  ·rcases hc with z | z
   ·rw [z]; exact nit b u q
   ·exact nit c _ z
  ·rcases hc with z | z
   ·rw [z]; exact ne b u q
   ·exact ne c _ z
end
theorem bt_enumerate:bootBuiltins "enumerate" = some (.type "enumerate"):=by decide +kernel
section
variable {X:Cx}{a:Expr}{p pos:Pos}{ta:TA}
end
section
variable {X:Cx}{K:PySem.W.Frag}{a:Expr}{p pos:Pos}{t:TAd}
noncomputable def enumW (ds:List PyData):List W:=(List.range ds.length).map λ i=>.d (.tuple [.int (i:Nat),ds.getD i .none])
end
theorem bb_sum:bootBuiltins "sum" = some (.builtin "sum"):=by decide +kernel
theorem bb_min:bootBuiltins "min" = some (.builtin "min"):=by decide +kernel
theorem preSum_succ (f:Nat->Int)(k:Nat):preSum f (k+1)=preSum f k+f k:=rfl
theorem preSum_take (ps:List (Int×Tok)):∀ k,k<=ps.length->preSum (numAt ps.toArray) k=((ps.map (·.1)).take k).sum
 | 0,_=>by simp [preSum]
 | k+1,h=>by
  rw [preSum_succ,preSum_take ps k (by omega),List.take_succ,List.sum_append]
  have hk:k < ps.length:=by omega
  simp [numAt,List.getElem?_eq_getElem hk]
theorem sum_bound:∀ (ns:List Int),(∀ n∈ns,0<=n/\n<=1000000)->0<=ns.sum/\ns.sum<=1000000 * ns.length
 | [],_=>by simp
 | n :: ns,h=>by
  have h1:=h n (by simp)
  have h2:=sum_bound ns λ x hx=>h x (by simp [hx])
  simp only [List.sum_cons,List.length_cons]
  omega
section
variable {X:Cx}{K:PySem.W.Frag}
theorem call_sumL (hc:X.calm=true):CallR X (.builtin "sum") (λ xs H Q=>∃ p,∃ ns:List Int,xs=[.ref p]/\SqL X.K H p (ns.map V.int)/\ns.length<=1000/\(∀ n∈ns,0<=n/\n<=1000000)/\Q (.int ns.sum) H):=by
 intro pins s σ H xs us Q I r h
 obtain ⟨p,ns,rfl,hq,hlen,hb,q⟩:=h
 obtain ⟨u,rfl,rx⟩:=vals1 r
 cases rx
 obtain ⟨its,rv,pl,hz⟩:=I.list hq
 obtain ⟨ps,e1,e2⟩:=ints_are rv
 subst e1
 have hl:s.heap.IsList p (intItems ps.toArray):=by
  have e:(ps.map λ p=>Value.int p.1 p.2).toArray=intItems ps.toArray:=by simp [intItems]
  rw [<- e]
  exact pl.isList
 have hpl:ps.length=ns.length:=by rw [<- e2,List.length_map]
 refine sum_intList (I.ok.hd hc) hl (λ j hj=>?_) λ h' tk t' kk=>?_
 ·have hj':j < ps.length:=by simpa using hj
  have hn:numAt ps.toArray j=(ps[j]).1:=by simp [numAt,List.getElem?_eq_getElem hj']
  have hm:(ps[j]).1∈ns:=by rw [<- e2]; exact List.mem_map.mpr ⟨_,List.getElem_mem hj',rfl⟩
  have b1:=hb _ hm
  have b2:=sum_bound (ns.take (j+1)) λ n hn=>hb n (List.mem_of_mem_take hn)
  rw [List.length_take] at b2
  refine ⟨by rw [hn]; exact ⟨by omega,by omega⟩,?_⟩
  rw [preSum_take ps (j+1) (by omega),e2]
  exact ⟨by omega,by omega⟩
 ·refine ⟨.int _,H,I.kept kk,⟨_,rfl⟩,?_⟩
  have:preSum (numAt ps.toArray) ps.toArray.size=ns.sum:=by
   rw [List.size_toArray,preSum_take ps ps.length (Nat.le_refl _),e2,hpl,List.take_length]
  rw [this]
  exact q
noncomputable def rdSum (ws:List W)(M:MH)(Q:QD):Prop:=∃ w,∃ ns:List Int,ws=[w]/\LstW M w (ns.map PyData.int)/\ns.length<=1000/\(∀ n∈ns,0<=n/\n<=1000000)/\Q (.d (.int ns.sum)) M
theorem cd_sum:CallD K (λ xs H Q=>∃ p,∃ ns:List Int,xs=[.ref p]/\SqL K H p (ns.map V.int)/\ns.length<=1000/\(∀ n∈ns,0<=n/\n<=1000000)/\Q (.int ns.sum) H) rdSum:=by
 intro vs H ws M Qd Q r m ⟨w,ns,e,g,hl,hb,q⟩ k
 subst e
 obtain ⟨v,e1,r1⟩:=repWs1 r
 obtain ⟨p,ys,ev,hs,ra⟩:=g.sound r1 m
 have ey:=repA_ints ra
 subst ev ey
 exact ⟨p,ns,e1,hs,hl,hb,k _ H (.d (.int _)) M (Kp.refl H) (by simp [RepW,RepD]) m q⟩
noncomputable def rdMin2 (ws:List W)(M:MH)(Q:QD):Prop:=∃ i j,ws=[.d (.int i),.d (.int j)]/\Q (.d (.int (if j < i then j else i))) M
theorem cd_min2:CallD K (λ xs H Q=>∃ i j,xs=[V.int i,V.int j]/\Q (V.int (if j < i then j else i)) H) rdMin2:=by
 intro vs H ws M Qd Q r m ⟨i,j,e,q⟩ k
 subst e
 obtain ⟨v,v',e1,r1,r2⟩:=repWs2 r
 simp only [RepW,RepD] at r1 r2
 subst r1 r2
 exact ⟨i,j,e1,k _ H (.d (.int _)) M (Kp.refl H) (by simp [RepW,RepD]) m q⟩
end
end D
namespace Rc
open PySem PySem.Spec PyProof.Rows L2 D
section
variable {α:Type}(nm:α->Str)
noncomputable def rk (g:α->PyData)(L:List α):List (Key×PyData):=L.map λ a=>(.inr (nm a),g a)
noncomputable def fd (L:List α)(n:Str):Option α:=L.find? λ a=>decide (nm a=n)
noncomputable def pt (L:List α)(z:α):List α:=match fd nm L (nm z) with
 | none=>L++[z]
 | some _=>L.map λ y=>if nm y=nm z then z else y
variable {nm}
end
end Rc
namespace Rc
open PySem PySem.Spec PyProof.Rows L2 D
mutual
noncomputable def okD:Nat->PyData->Bool
 | _,.none=>true
 | _,.bool _=>true
 | _,.int i=>decide (i.natAbs < 2 ^ 100)
 | _,.str z=>ascB z
 | k+1,.list ds=>okA k ds
 | k+1,.tuple ds=>okA k ds
 | _,_=>false
noncomputable def okA:Nat->List PyData->Bool
 | _,[]=>true
 | k,d :: ds=>okD k d && okA k ds
end
theorem okA_of {k:Nat}:∀ {ds:List PyData},(∀ d∈ds,okD k d=true)->okA k ds=true
 | [],_=>by simp [okA]
 | d :: ds,h=>by
  simp only [okA,Bool.and_eq_true]
  exact ⟨h d (by simp),okA_of λ x hx=>h x (by simp [hx])⟩
theorem asc_of_b {z:Str}(h:ascB z=true):Asc z:=asc_dec h
theorem strOk_asc {z:Str}(h:Asc z):PyData.strOk z=true:=by
 unfold PyData.strOk
 rw [Array.all_eq_true_iff_forall_mem]
 intro c hc
 exact decide_eq_true (by have:=h c (by simpa using hc); omega)
theorem strOk_b {z:Str}(h:ascB z=true):PyData.strOk z=true:=strOk_asc (asc_of_b h)
mutual
theorem ok_lay:∀ (k:Nat) (d:PyData),okD k d=true->PyData.canLay0 d=true
 | _,.none,_=>by simp [PyData.canLay0]
 | _,.bool _,_=>by simp [PyData.canLay0]
 | _,.int i,h=>by simp [PyData.canLay0]
 | _,.str z,h=>by
  cases ‹Nat› <;> simp only [okD] at h <;> simp [PyData.canLay0,strOk_b h]
 | k+1,.list ds,h=>by simp only [okD] at h; simp only [PyData.canLay0]; exact okA_lay k ds h
 | k+1,.tuple ds,h=>by simp only [okD] at h; simp only [PyData.canLay0]; exact okA_lay k ds h
 | 0,.list ds,h=>by simp [okD] at h
 | 0,.tuple ds,h=>by simp [okD] at h
 | k,.dict kvs,h=>by cases k <;> simp [okD] at h
theorem okA_lay:∀ (k:Nat) (ds:List PyData),okA k ds=true->PyData.canLayAll0 ds=true
 | _,[],_=>by simp [PyData.canLayAll0]
 | k,d :: ds,h=>by
  simp only [okA,Bool.and_eq_true] at h
  simp only [PyData.canLayAll0,ok_lay k d h.1,okA_lay k ds h.2,Bool.and_self]
end
mutual
theorem ok_depth:∀ (k:Nat) (d:PyData),okD k d=true->PyData.depth d<=k+1
 | _,.none,_=>by simp [PyData.depth]
 | _,.bool _,_=>by simp [PyData.depth]
 | _,.int i,h=>by simp [PyData.depth]
 | _,.str z,h=>by simp [PyData.depth]
 | k+1,.list ds,h=>by simp only [okD] at h; have:=okA_depth k ds h; simp only [PyData.depth]; omega
 | k+1,.tuple ds,h=>by simp only [okD] at h; have:=okA_depth k ds h; simp only [PyData.depth]; omega
 | 0,.list ds,h=>by simp [okD] at h
 | 0,.tuple ds,h=>by simp [okD] at h
 | k,.dict kvs,h=>by cases k <;> simp [okD] at h
theorem okA_depth:∀ (k:Nat) (ds:List PyData),okA k ds=true->PyData.depthAll ds<=k+1
 | _,[],_=>by simp [PyData.depthAll]
 | k,d :: ds,h=>by
  simp only [okA,Bool.and_eq_true] at h
  have h1:=ok_depth k d h.1
  have h2:=okA_depth k ds h.2
  simp only [PyData.depthAll]
  omega
end
mutual
theorem ok_nod:∀ (k:Nat) (d:PyData),okD k d=true->PyData.hasDict d=false
 | _,.none,_=>by simp [PyData.hasDict]
 | _,.bool _,_=>by simp [PyData.hasDict]
 | _,.int i,h=>by simp [PyData.hasDict]
 | _,.str z,h=>by simp [PyData.hasDict]
 | k+1,.list ds,h=>by simp only [okD] at h; simp only [PyData.hasDict]; exact okA_nod k ds h
 | k+1,.tuple ds,h=>by simp only [okD] at h; simp only [PyData.hasDict]; exact okA_nod k ds h
 | 0,.list ds,h=>by simp [okD] at h
 | 0,.tuple ds,h=>by simp [okD] at h
 | k,.dict kvs,h=>by cases k <;> simp [okD] at h
theorem okA_nod:∀ (k:Nat) (ds:List PyData),okA k ds=true->PyData.hasDictAll ds=false
 | _,[],_=>by simp [PyData.hasDictAll]
 | k,d :: ds,h=>by
  simp only [okA,Bool.and_eq_true] at h
  simp only [PyData.hasDictAll,ok_nod k d h.1,okA_nod k ds h.2,Bool.or_self]
end
theorem eqOk_of {k:Nat}{d:PyData}(hk:k<=50)(h:okD k d=true):eqOk d=true:=by
 have h1:=ok_lay k d h
 have h2:=ok_depth k d h
 have h3:=ok_nod k d h
 simp only [eqOk,SeqAt.shaped,h1,h3,Bool.true_and,Bool.not_false,Bool.and_true]
 exact decide_eq_true (by omega)
theorem eqOk2_of {k:Nat}{d d':PyData}(hk:k<=50)(h:okD k d=true)(h':okD k d'=true):eqOk2 d d'=true:=by
 have h1:=eqOk_of hk h
 have h2:=eqOk_of hk h'
 cases d <;> cases d' <;> simp [eqOk2,h1,h2]
theorem refl_of {k:Nat}{d:PyData}(h:okD k d=true):PyData.eqv d d=true:=SeqAt.eqv_refl _ (ok_lay k d h)
theorem eqv_str' (x y:Str):PyData.eqv (.str x) (.str y)=decide (x=y):=by
 rw [<- str_dec]
 by_cases e:x=y
 ·subst e; simp
 ·simp [e]
theorem eqv_int' (x y:Int):PyData.eqv (.int x) (.int y)=decide (x=y):=by
 rw [PyData.eqv]
 by_cases e:x=y
 ·subst e; simp
 ·simp [e]
theorem ne_M {M:MH}{a b:Addr}{o u:MO}(ha:M a=some o)(hb:M b=some u)(h:o≠u):a≠b:=λ e=>h (by rw [e,hb] at ha; exact (Option.some.inj ha).symm)
theorem ne_new {M:MH}{a b:Addr}{o:MO}(ha:M a=some o)(hb:M b=none):a≠b:=λ e=>by rw [e,hb] at ha; cases ha
theorem upd_get {M:MH}{a b:Addr}{o u:MO}(h:M a=some o)(hb:M b=none):updM M b u a=some o:=by rw [updM_ne (ne_new h hb)]; exact h
theorem upd_back {M:MH}{d:Addr}{x y:MO}(h:M d=some y):updM (updM M d x) d y=M:=by
 rw [updM_updM]
 funext q
 by_cases e:q=d
 ·rw [e,updM_same,h]
 ·rw [updM_ne e]
end Rc
namespace Stc
open PySem PySem.Spec PyProof.Rows L2 D Rc
theorem drawn {z:Str}(hz:Asc z)(hz0:0 < z.length)(hz1:z.length<=1000){p:Addr}{M M1:MH}{ws:List W}{fr:List Nat}{τ:DS}{te:TD}{k:Nat}{Q:List PyData->MH->Prop}(hk:ws.length=k)(hs:k<=1000)(b1:Bag M1 p)(f1:∀ q,q≠p->M1 q=M q)
  (hte:∀ w∈ws,∀ (M':MH),Bag M' p->∀ R:W->MH->Prop,(∀ (r:Int) M'' (c:Nat),c∈z.cps.toList->Bag M'' p->(∀ q,q≠p->M'' q=M' q)->R (.d (.str ⟨#[c]⟩)) M'')->te (some w :: fr.map λ j=>(τ[j]?).getD none) M' R)
  (q:∀ (ys:List Str) M',(∀ y∈ys,y.length<=1/\Asc y)->ys.length<=k->Bag M' p->(∀ q,q≠p->M' q=M q)->Q (ys.map PyData.str) M') :
  ∃ P:Nat->List PyData->DS->MH->Prop,P 0 [] (lcSD 1 fr τ) M1 /\
   (∀ i w acc τ M,ws[i]? = some w->P i acc τ M->acc.length < sizeLine/\gN 0 w τ M λ τ2 M2=>dYes τ2 M2 λ b M3=>if b=true then te τ2 M3 λ y M4=>∃ d,y=.d d/\P (i+1) (acc++[d]) τ2 M4 else P (i+1) acc τ2 M3) /\
   ∀ acc τ M,P ws.length acc τ M->Q acc M:=by
 refine lc_inv (λ M'=>Bag M' p/\∀ q,q≠p->M' q=M q) (Tx 1) (by have:=s16; omega) ⟨b1,f1⟩ (λ w hw M' hj P' hp _=>?_) (λ acc M2 hj hg hlen=>?_)
 ·exact hte w hw M' hj.1 _ λ r M'' c hc b f=>⟨_,rfl,hp _ _ ⟨_,rfl,Nat.le_refl _,asc_one hz hc⟩ ⟨b,λ q hq=>(f q hq).trans (hj.2 q hq)⟩⟩
 ·obtain ⟨ys,e,hy⟩:=tx_list hg
  subst e
  exact q ys M2 hy (by simpa [hk] using hlen) hj.1 hj.2
theorem ix_at {M:MH}{ds:List PyData}{r:Int}(h0:0<=r)(h1:r < ds.length):∃ d,ixW M (.d (.list ds)) r=some (.d d)/\d∈ds:=by
 have hn:r.toNat < ds.length:=by omega
 refine ⟨ds[r.toNat],?_,List.getElem_mem hn⟩
 simp only [ixW,atI,ixN_nat h0 h1,Option.bind_some,List.getElem?_eq_getElem hn,Option.map_some]
theorem ix_int_at {M:MH}{ns:List Int}{r:Int}(h0:0<=r)(h1:r < ns.length):∃ i,ixW M (.d (.list (ns.map PyData.int))) r=some (.d (.int i))/\i∈ns:=by
 obtain ⟨d,e,hd⟩:=ix_at (M:=M) (ds:=ns.map PyData.int) h0 (by simpa using h1)
 obtain ⟨i,hi,rfl⟩:=List.mem_map.mp hd
 exact ⟨i,e,hi⟩
theorem bag_at {M:MH}{p:Addr}(h:Bag M p):∃ o,M p=some o:=by obtain ⟨a,b,c,ns,e,_⟩:=h; exact ⟨_,e⟩
theorem bag_keep {M M':MH}{p:Addr}(h:Bag M p)(e:M' p=M p):Bag M' p:=by
 obtain ⟨a,b,c,ns,h1,h2⟩:=h
 exact ⟨a,b,c,ns,e.trans h1,h2⟩
end Stc
namespace D
open PySem PySem.Spec PyProof.Rows L2
section
variable {X:Cx}{pos:Pos}{e:Expr}{te:TD}
end
section
variable {X:Cx}{tg a b c:Expr}{p pos:Pos}
end
section
variable {K:PySem.W.Frag}
noncomputable def dLCm (di:TId)(g:TGd)(tt:TTd)(te:TD)(k:Nat)(fr:List Nat)(τ:DS)(M:MH)(Q:QD):Prop:=di τ M λ ws M1=>∃ P:Nat->List PyData->DS->MH->Prop,P 0 [] (lcSD k fr τ) M1 /\
 (∀ i w acc τ M,ws[i]? = some w->P i acc τ M->acc.length < sizeLine/\g w τ M λ τ2 M2=>tt τ2 M2 λ b M3=>if b=true then te τ2 M3 λ y M4=>∃ d,y=.d d/\P (i+1) (acc++[d]) τ2 M4 else P (i+1) acc τ2 M3) /\
 ∀ acc τ M,P ws.length acc τ M->∀ p,M p=none->Q (.m p) (updM M p (.lst (acc.map W.d)))
theorem imp_lcm {di:TId}{g:TGd}{tt:TTd}{te:TD}{k:Nat}{fr:List Nat}{σ:St}{H:Hp}{Q:VK}(h:up K (dLCm di g tt te k fr) σ H Q) :
  tLC (upI K di) (upG K g) (upT K tt) (up K te) k fr σ H Q:=by
 obtain ⟨τ,M,Qd,A,h,kk⟩:=h
 refine ⟨τ,M,_,A,h,λ J H1 ws M1 kp m1 it hq86=>?_⟩
 obtain ⟨P,p0,pt,pe⟩:=hq86
 refine ⟨λ i n ys σ' H'=>n=ws.length - i/\i<=ws.length/\Kp H1 H'/\∃ acc τ M,RepA K H' acc ys/\Abs K H' σ' τ M/\P i acc τ M,⟨ws.length,by simp,Nat.zero_le _,Kp.refl _,[],_,M1,by simp [RepA],abs_lc (A.go kp m1) k fr,p0⟩,?_⟩
 rintro i n ys σ2 H2 ⟨rfl,hi,kp2,acc,τ2,M2,ra,A2,p2⟩
 obtain ⟨go,stop,yld⟩:=it H2 kp2 i
 by_cases hlt:i < ws.length
 ·have hlen:=ra.length
  refine .inr ⟨go hlt,?_,λ x H3 y=>?_⟩
  ·obtain ⟨w,hw⟩:∃ w,ws[i]? = some w:=⟨ws[i],by simp [hlt]⟩
   have:=(pt i w acc τ2 M2 hw p2).1
   omega
  obtain ⟨kp3,mk,w,ew,rw⟩:=yld x H3 hlt y
  refine ⟨w,τ2,M2,_,rw,A2.go kp3 (mk _ A2.mem),(pt i w acc τ2 M2 ew p2).2,λ σ4 H4 τ4 M4 kp4 A4 q4=>⟨τ4,M4,_,A4,q4,λ b H5 M5 kp5 m5 q5=>?_⟩⟩
  have kq:=(kp3.trans kp4).trans kp5
  cases b with
  | false =>
   rw [if_neg Bool.false_ne_true] at q5
   show (if false=true then _ else _)
   rw [if_neg Bool.false_ne_true]
   exact ⟨ws.length - (i+1),by omega,rfl,hlt,kp2.trans kq,acc,τ4,M5,ra.keep kq,A4.go kp5 m5,q5⟩
  | true =>
   rw [if_pos rfl] at q5
   show (if true=true then _ else _)
   rw [if_pos rfl]
   refine ⟨τ4,M5,_,A4.go kp5 m5,q5,λ v H6 wv M6 kp6 r6 m6 hq87=>?_⟩
   obtain ⟨d,e6,q6⟩:=hq87
   subst e6
   refine ⟨ws.length - (i+1),by omega,rfl,hlt,kp2.trans (kq.trans kp6),acc++[d],τ4,M6,RepA.append (ra.keep (kq.trans kp6)) ?_,A4.go (kp5.trans kp6) m6,q6⟩
   simp only [RepA]
   exact ⟨v,[],rfl,r6,rfl⟩
 ·have hl:i=ws.length:=by omega
  subst hl
  refine .inl ⟨stop (Nat.le_refl _),λ p hp=>?_⟩
  have kp9:Kp H2 (upd H2 p (.lst ys)):=Kp.new hp
  exact kgo kk (kp.trans kp2) _ _ (.m p) _ kp9 rfl (A2.mem.put (mo:=.lst (acc.map W.d)) kp9 ⟨_,upd_same,(ra.keep kp9).ws⟩) (pe acc τ2 M2 p2 p (A2.mem.free hp))
variable {X:Cx}{sc:Scope}{own:List Str}{fr:List Nat}{di:TId}{g:TGd}{tt:TTd}{te:TD}{tg iter elt:Expr}{ifs:List Expr}{pos:Pos}
theorem pd_lcM0 (hc:X.calm=true)(L:LcOk X sc own fr)(hi:PId X tg iter di)
  (hg:∀ cl C s H ex pl,PGd (blk X sc (lcN X own fr) cl C s H ex pl) tg g)(ht:∀ cl C s H ex pl,PTsd (blk X sc (lcN X own fr) cl C s H ex pl) ifs tt)(he:∀ cl C s H ex pl,PD (blk X sc (lcN X own fr) cl C s H ex pl) elt te)
  (hs:∀ x,foldedSetIterable iter X.env x=pure x:=by intro _; rfl):PD X (.ListComp elt [⟨tg,iter,ifs,0⟩] sc pos) (dLCm di g tt te own.length fr) :=
 pe_w (pe_lc hc L hi hg ht he hs) λ σ H Q h=>imp_lcm h
end
section
variable {X:Cx}{K:PySem.W.Frag}
end
end D
namespace D
open PySem PySem.Spec PyProof.Rows L2
section
variable {X:Cx}{o:Expr}{to:TE}{apos cpos p pos kpos kp:Pos}{j:Nat}
noncomputable def tVals (to:TE):TE:=λ σ H Q=>to σ H λ x H1=>∃ a kvs,x=.ref a/\Rd H1 a (.dK kvs)/\∀ v,H1 v=none->Q (.ref v) (upd H1 v (.ext λ h=>h.IsValuesView v a))
theorem pe_vals (ho:PE X o to)(hbase:attributeBase o "values" X.env (eval o X.env)=eval o X.env:=by rfl)(hline:(apos.endLine == cpos.line)=true:=by rfl):PE X (.Call (.Attribute o "values" apos) [] [] cpos) (tVals to):=by
 intro pins s σ H Q I h
 refine wpAny_Call_method0_late hbase hline (thn (ho pins s σ H _ I h) λ v s1 hq88=>?_)
 obtain ⟨x,H1,I1,r1,a,kvs,ex,hr,q⟩:=hq88
 subst ex
 cases r1
 obtain ⟨hsz,hsys,vs,rel,oo,es,ep,hd⟩:=hr.ok I1.hok
 have dd:s1.heap.DictOf (mixKind X.prog X.w) a vs:=⟨oo,es,ep,hd⟩
 have hnd:∀ b,Value.ref a=.ref b->∃ ob,s1.heap.get? b=some ob/\ob.dict=none:=λ b e=>by
  cases e
  exact ⟨oo,hd.1,hd.2.1.2.1⟩
 refine ⟨"dict", "dict.values",PySem.F.plainAttrs_dict,PySem.F.slot_dict_values,PySem.F.type_dict_values,dd.typeIs,hnd,Calls.callWith_builtin rfl (PySem.evalArgs_none ?_)⟩
 refine call_meetsIn PySem.F.slot_dict_values dd.typeIs PySem.F.entry_dict_values (PySem.F.args_dict_values_1 _) (meets_dict_values (mixKind X.prog X.w) a hsys) ⟨⟨vs,dd⟩,?_⟩
 have hv:(s1.heap.push { cls:=.type "dict_values",data:=.fields #[.ref a] }).get? s1.heap.objs.size=some { cls:=.type "dict_values",data:=.fields #[.ref a] }:=Heap.get?_push_size _ rfl
 refine ⟨.ref _,_,I1.laid (a:=s1.heap.objs.size) (o:=.ext λ h=>h.IsValuesView s1.heap.objs.size a) (t':=s1.toks) (λ b ob e=>Heap.get?_push_of_some _ e) (Nat.le_refl _) ⟨⟨_,hv,rfl,rfl⟩,⟨_,hv⟩,λ h1 h2 ⟨ob,e1,e2⟩ k=>⟨ob,k ob e1,e2⟩⟩,rfl,q _ (I1.hok.fresh (Nat.le_refl _))⟩
theorem vals_ints:∀ {ns:List Int} {kvs:List (Key×V)} {vs:List (Key×Value)} {us:List Value},KV kvs vs->kvs.map (·.2)=ns.map V.int->us.length=vs.length->(∀ (i:Nat) v,us[i]? = some v->∃ k,vs[i]? = some (k,v))->IntsAre us ns
 | [],kvs,vs,us,r,h,hl,hp=>by
  have e:kvs=[]:=by simpa using h
  subst e
  cases r
  have e:us=[]:=by simpa using hl
  subst e
  exact .nil
 | n :: ns,kvs,vs,us,r,h,hl,hp=>by
  match kvs,us,r,h,hl,hp with
  | (k,x) :: kvs,u :: us,.cons (b:=b) r1 r2,h,hl,hp =>
   simp only [List.map_cons,List.cons.injEq] at h
   obtain ⟨k',e⟩:=hp 0 u rfl
   simp at e
   have hx:=r1.2
   rw [h.1,e] at hx
   obtain ⟨t,et⟩:=(show ∃ t,u=Value.int n t from hx)
   subst et
   exact .cons n t (vals_ints r2 h.2 (by simpa using hl) λ i v hi=>by simpa using hp (i+1) v (by simpa using hi))
  | [],_,r,h,_,_=>simp at h
  | _ :: _,[],.cons _ _,_,hl,_=>simp at hl
end
section
variable {X:Cx}{o:Expr}{td:TD}{apos cpos p pos kpos kp:Pos}{j:Nat}
noncomputable def intsW (ns:List Int):List W:=ns.map λ n=>.d (.int n)
theorem pr_ints {K:PySem.W.Frag}{H:Hp}:∀ {ns:List Int} {kvs:List (Key×W)} {l:List (Key×V)},kvs.map (·.2)=intsW ns->Paired (λ (p:Key×W) (q:Key×V)=>p.1=q.1/\RepW K H p.2 q.2) kvs l->l.map (·.2)=ns.map V.int
 | [],kvs,l,h,pr=>by
  have e:kvs=[]:=by simpa [intsW] using h
  subst e
  cases pr
  rfl
 | n :: ns,kvs,l,h,pr=>by
  match kvs,pr,h with
  | (k,x) :: kvs,.cons r t,h =>
   simp only [intsW,List.map_cons,List.cons.injEq] at h
   have hx:=r.2
   rw [h.1] at hx
   simp only [RepW,RepD] at hx
   rw [List.map_cons,hx,pr_ints h.2 t]
   rfl
  | [],_,h=>simp [intsW] at h
end
namespace Q
section
variable {X:Cx}{pos:Pos}{e:Expr}{te:TD}
variable {tg a b c iter elt:Expr}{p:Pos}{sc:Scope}{own:List Str}{fr:List Nat}{di:TId}{g:TGd}{tt:TTd}{ifs:List Expr}
theorem pd_lcM (hc:X.calm=true)(L:LcOk X sc own fr)(hi:Jd (PId X tg iter di))
  (hg:∀ cl C s H ex pl,Jd (PGd (blk X sc (lcN X own fr) cl C s H ex pl) tg g))(ht:∀ cl C s H ex pl,Jd (PTsd (blk X sc (lcN X own fr) cl C s H ex pl) ifs tt))(he:∀ cl C s H ex pl,Jd (PD (blk X sc (lcN X own fr) cl C s H ex pl) elt te))
  (hs:∀ x,foldedSetIterable iter X.env x=pure x:=by intro _; rfl):Jd (PD X (.ListComp elt [⟨tg,iter,ifs,0⟩] sc pos) (dLCm di g tt te own.length fr)) :=
 ⟨D.pd_lcM0 hc L hi.h (λ cl C s H ex pl=>(hg cl C s H ex pl).h) (λ cl C s H ex pl=>(ht cl C s H ex pl).h) (λ cl C s H ex pl=>(he cl C s H ex pl).h) hs⟩
variable {o:Expr}{td:TD}{apos cpos kpos kp:Pos}{j:Nat}
end
end Q
end D
namespace D
open PySem PySem.Spec PyProof.Rows L2
structure FunD (K:PySem.W.Frag)(x qual:Str)(st:Stmt)(f:Addr)(fd:FuncData):Prop where
 ex:∃ (oc:Value) (od:Option Addr) (dV kV doc pm:Value) (an:Option Addr) (cdv ct:Value) (osl:Array (Option Value)),
  fd=PySem.W.fnOf x qual (defArgs st) (defBody st) (defScope st) dV kV doc pm an cdv ct/\K.lookup f=some ⟨oc,od,.func fd,osl⟩/\PySem.W.codeIn K cdv qual=true
 kp:PySem.W.keepIn K (.ref f)=true
section
variable {P:Program}{w:World}{K:PySem.W.Frag}{mg:Str->Option Value}{base h:Heap}
theorem fun_okD {x qual:Str}{st:Stmt}{f:Addr}{fd:FuncData}{N ps:List Str}{k:Nat}{sp:SpD}{t:TSd}(F:FunD K x qual st f fd)(S:FnScope N ps (defScope st))(len:∀ ws M Q,sp ws M Q->ws.length=ps.length)
  (hbody:∀ (cdv:Value) (A:Around) (outer:List Env) (s:Shared) (H:Hp) (E:XK),Room k (A.deeper (envOfC qual (defScope st) s.heap.objs.size f cdv)) ->
   PSsd (cxOf CX0 P w K mg base N qual (defScope st) f cdv A outer s H E).nox (defBody st) t)
  (read:∀ ws M Q,sp ws M Q->t { nx:=λ _ M'=>Q (.d .none) M',rt:=Q } (startD N ws) M):FnOk P w K mg base CX0 (k+1) f fd ps (upSp K sp):=by
 obtain ⟨oc,od,dV,kV,doc,pm,an,cdv,ct,osl,rfl,lk,hcd⟩:=F.ex
 refine fn_of lk hcd S (λ vs H Q E h=>?_) (λ A outer s H vs Q E hr h=>?_)
 ·obtain ⟨ws,M,Qd,r,_,q,_⟩:=h
  rw [<- r.length]
  exact len _ _ _ q
 ·obtain ⟨ws,M,Qd,r,m,q,kk⟩:=h
  refine ⟨_,L2.PSs.nox (hbody cdv A outer s H E hr),startD N ws,M,_,abs_start r m,read ws M Qd q,λ σ' H' τ' M' kp A' q'=>?_,λ v H' w' M' kp r' m' q'=>?_,λ σ' H' τ' M' kp A' q'=>q'.elim,λ σ' H' τ' M' kp A' q'=>q'.elim⟩
  ·exact kk _ H' _ M' kp (by simp [RepW,RepD]) A'.mem q'
  ·exact kk v H' w' M' kp r' m' q'
end
section
variable {X:Cx}{pos p:Pos}{k:Nat}{f:Addr}{fd:FuncData}{ps:List Str}{sp:SpD}{x:Str}{e:Expr}{es:List Expr}{t:TAd}{d:Int}
end
end D
namespace D
open PySem PySem.Spec PyProof.Rows L2
section
variable {X:Cx}{pins:List (Addr×Obj)}{σ:St}{H:Hp}{s:Shared}{h':Heap}
end
section
variable {X:Cx}{a b:Expr}{p pos:Pos}{ta:TA}
end
section
variable {X:Cx}{K:PySem.W.Frag}{a b:Expr}{p pos:Pos}{t:TAd}
end
section
variable {X:Cx}{pos:Pos}
end
end D
namespace Q
open PySem PySem.Spec PyProof.Rows L2 D
section
variable {X:Cx}{a b:Expr}{p pos:Pos}
end
end Q
namespace Stc
open PySem PySem.Spec PyProof.Rows L2 D Rc
noncomputable abbrev N_is_word:List Str:=["thing"]
noncomputable def t_is_word:TSd :=
  dSeq (dIf (dOr (dNot (dTest (dCB rdIsiT (dCons (dVar 0) (dCons (dC (.t "str")) (dNil)))))) (dNot (dTest (dChain rdLe rdLe (dC (.d (.int 1))) (dCB rdLen (dCons (dVar 0) (dNil))) (dC (.d (.int 8)))))))
   (dRet (dC (.d (.bool false))))
   (dNext)) <|
  dRet (dCB rdAll (dCons (dLC (dItems (dVar 0)) (gN 0) (dYes) (dChain rdLe rdLe (dC (.d (.str "a"))) (dVar 0) (dC (.d (.str "z")))) 1 []) (dNil)))
noncomputable abbrev N_is_whole:List Str:=["thing"]
noncomputable def t_is_whole:TSd :=
  dRet (dAndV (dCB rdIsiT (dCons (dVar 0) (dCons (dC (.t "int")) (dNil)))) (dNotV (dCB rdIsiT (dCons (dVar 0) (dCons (dC (.t "bool")) (dNil))))))
noncomputable abbrev N_is_within:List Str:=["thing", "low", "high"]
noncomputable def t_is_within (sp_is_whole:SpD):TSd :=
  dRet (dAndV (dCall sp_is_whole (dCons (dVar 0) (dNil))) (dChain rdLe rdLe (dVar 1) (dVar 0) (dVar 2)))
noncomputable def Ext (M M':MH):Prop:=∀ q o,M q=some o->M' q=some o
theorem Ext.refl (M:MH):Ext M M:=λ _ _ h=>h
theorem Ext.trans {A B C:MH}(h:Ext A B)(k:Ext B C):Ext A C:=λ q o e=>k q o (h q o e)
theorem Ext.new {M:MH}{p:Addr}{o:MO}(h:M p=none):Ext M (updM M p o):=λ q u e=>upd_get e h
theorem Ext.del {M M':MH}{p:Addr}(h:Ext M M')(hp:M p=none):Ext M (delM M' p):=λ q u e=>by
 have hq:q≠p:=ne_new e hp
 simp only [delM,if_neg hq]
 exact h q u e
theorem Ext.upd {M M':MH}{p:Addr}{o:MO}(h:Ext M M')(hp:M p=none):Ext M (updM M' p o):=λ q u e=>by
 rw [updM_ne (ne_new e hp)]
 exact h q u e
theorem Ext.none {M M':MH}{p:Addr}(h:Ext M M')(hp:M' p=none):M p=none:=by
 cases e:M p with
 | none=>rfl
 | some o=>rw [h p o e] at hp; cases hp
theorem Ext.bag {M M':MH}{p:Addr}(h:Ext M M')(hb:Bag M p):Bag M' p:=by
 obtain ⟨a,b,c,ns,e,z⟩:=hb
 exact ⟨a,b,c,ns,h _ _ e,z⟩
theorem lc_rows {α:Type}{gt:TGd}{te:TD}{Q:List PyData->DS->MH->Prop}{τ0:DS}{M:MH}(L:List α)(g:α->W)(f:α->PyData)(S:DS->Prop)(hL:L.length<=1000)(h0:S τ0)
  (step:∀ a∈L,∀ τ,S τ->∀ R:PyData->DS->MH->Prop,(∀ τ2,S τ2->R (f a) τ2 M)->gt (g a) τ M λ τ2 M2=>te τ2 M2 λ y M4=>∃ d,y=.d d/\R d τ2 M4)
  (q:∀ τ,Q (L.map f) τ M) :
  ∃ P:Nat->List PyData->DS->MH->Prop,P 0 [] τ0 M /\
   (∀ i w acc τ M,(L.map g)[i]? = some w->P i acc τ M->acc.length < sizeLine/\gt w τ M λ τ2 M2=>dYes τ2 M2 λ b M3=>if b=true then te τ2 M3 λ y M4=>∃ d,y=.d d/\P (i+1) (acc++[d]) τ2 M4 else P (i+1) acc τ2 M3) /\
   ∀ acc τ M,P (L.map g).length acc τ M->Q acc τ M:=by
 refine ⟨λ i acc τ M'=>M'=M/\acc=(L.take i).map f/\S τ,⟨rfl,rfl,h0⟩,?_,?_⟩
 ·rintro i w acc τ M' hw ⟨rfl,rfl,hs⟩
  rw [List.getElem?_map] at hw
  cases e:L[i]? with
  | none=>rw [e] at hw; cases hw
  | some a =>
   rw [e] at hw
   cases hw
   have hi:=(List.getElem?_eq_some_iff.mp e).1
   refine ⟨by rw [List.length_map,List.length_take]; have:=s16; omega,?_⟩
   refine step a (List.mem_of_getElem? e) τ hs (λ d τ2 M4=>M4=M'/\(L.take i).map f++[d]=(L.take (i+1)).map f/\S τ2) λ τ2 h2=>⟨rfl,?_,h2⟩
   rw [List.take_succ,e]
   simp
 ·rintro acc τ M' ⟨rfl,rfl,hs⟩
  rw [List.length_map,List.take_length]
  exact q τ
noncomputable abbrev Dm:=List (Str×Int)
noncomputable def gI (r:Str×Int):PyData:=.int r.2
noncomputable def val (D:Dm)(k:Str):Int:=((fd Prod.fst D k).map (·.2)).getD 0
noncomputable def more (D:Dm)(k:Str)(n:Int):Dm:=pt Prod.fst D (k,val D k+n)
noncomputable def vals (D:Dm):List Int:=D.map λ r=>r.2
noncomputable def dsc (ns:List Int):List Int:=ns.mergeSort λ a b=>decide (a >= b)
noncomputable def room (rs:List Int)(i:Int):Int:=(rs.map λ m=>if i < m then i else m).sum
noncomputable def fitL (rs:List Int)(ns:List Int):Bool:=(List.range ns.length).all λ i=>decide ((ns.take (i+1)).sum<=room rs ((i:Int)+1))
noncomputable def fitD (rs:List Int)(D:Dm):Bool:=fitL rs (dsc (vals D))
noncomputable def OkR (rs:List Int):Prop:=rs.length<=8/\∀ m∈rs,0<=m/\m<=6
noncomputable def gr (rs:List Int)(D:Dm)(k:Str):Nat->Int
 | 0=>0
 | n+1=>if fitD rs (more D k ((n:Int)+1))=true then (n:Int)+1 else gr rs D k n
theorem sealed {M:MH}{l:Addr}{o:MO}(hl:M l=none):Ext M (delM (updM M l o) l):=(Ext.new hl).del hl
noncomputable abbrev Bs:=List (Str×Int)
noncomputable abbrev As:=List (Str×Str×Int)
noncomputable def rooms (B:Bs):List Int:=B.map (·.2)
theorem map_at {α β:Type}{L:List α}{f:α->β}{i:Nat}{w:β}(h:(L.map f)[i]? = some w):∃ a,L[i]? = some a/\w=f a:=by
 rw [List.getElem?_map] at h
 cases e:L[i]? with
 | none=>rw [e] at h; cases h
 | some a=>rw [e] at h; cases h; exact ⟨a,rfl,rfl⟩
theorem rng_at {lo:Int}{n i:Nat}{w:W}(h:(rangeW lo n)[i]? = some w):i < n/\w=.d (.int (lo+(i:Int))):=by
 unfold rangeW at h
 obtain ⟨j,hj,rfl⟩:=map_at h
 obtain ⟨h1,h2⟩:=List.getElem?_eq_some_iff.mp hj
 simp at h1 h2
 subst h2
 exact ⟨h1,rfl⟩
theorem cut_take {α:Type}{xs:List α}{i:Nat}(hi:i<=xs.length):D.cutD xs none (some (i:Int))=xs.take i:=by
 unfold D.cutD
 have e:HT.sIx xs.length 0 none=0:=rfl
 have e2:HT.sIx xs.length xs.length (some (i:Int))=i:=by
  unfold HT.sIx
  simp
  rw [if_neg (by omega)]
  omega
 rw [e,e2]
 simp
noncomputable def stp (rs:List Int)(s:Dm×As)(r:Str×Str×Int):Dm×As :=
 (more s.1 r.2.1 (gr rs s.1 r.2.1 r.2.2.toNat),s.2++[(r.1,r.2.1,gr rs s.1 r.2.1 r.2.2.toNat)])
noncomputable def run (rs:List Int)(A:As):Dm×As:=A.foldl (stp rs) ([],[])
noncomputable def OkC (A:As):Prop:=A.length<=8/\∀ r∈A,0<=r.2.2/\r.2.2<=6
noncomputable def due (rs:List Int)(A:As):Bs:=(run rs A).2.map λ r=>(r.1,r.2.2)
noncomputable def smallB (c:Nat):Bool:=decide (97<=c) && decide (c<=122)
noncomputable def wd (z:Str):Bool:=decide (1<=z.length) && decide (z.length<=8) && z.cps.toList.all smallB
theorem wd_len {z:Str}(h:wd z=true):1<=z.length/\z.length<=8:=by simp [wd] at h; exact h.1
theorem wd_all {z:Str}(h:wd z=true):∀ c∈z.cps.toList,smallB c=true:=by simp only [wd,Bool.and_eq_true,List.all_eq_true] at h; exact h.2
theorem wd_asc {z:Str}(h:wd z=true):ascB z=true:=by
 have:=wd_all h
 unfold ascB
 rw [<- Array.all_toList,List.all_eq_true]
 intro c hc
 have:=this c hc
 simp [smallB] at this
 simp
 omega
theorem ite_y {c:Bool}{A B:Prop}(e:c=true)(h:A):if c=true then A else B:=by rw [e]; exact iteT h
theorem ite_n {c:Bool}{A B:Prop}(e:c=false)(h:B):if c=true then A else B:=by rw [e]; exact iteF h
theorem lt1 (a b:Nat):decide ([a] < [b])=decide (a < b):=by
 by_cases h:a < b
 ·rw [decide_eq_true h]; exact decide_eq_true (List.cons_lt_cons_iff.mpr (.inl h))
 ·rw [decide_eq_false h]
  refine decide_eq_false λ z=>?_
  rcases List.cons_lt_cons_iff.mp z with q | ⟨_,q⟩
  ·exact h q
  ·exact absurd q (by simp)
theorem isi_i (i:Int):isiD (.int i) "int" = true:=by simp [isiD,tyD]
theorem isi_ib (i:Int):isiD (.int i) "bool" = false:=by simp [isiD,tyD]
theorem isi_s (z:Str):isiD (.str z) "str" = true:=by simp [isiD,tyD]
theorem isi_l (ds:List PyData):isiD (.list ds) "list" = true:=by simp [isiD,tyD]
theorem isi_t (ds:List PyData):isiD (.tuple ds) "tuple" = true:=by simp [isiD,tyD]
noncomputable def sp_is_whole:SpD:=λ ws M Q=>∃ i:Int,ws=[.d (.int i)]/\Q (.d (.bool true)) M
theorem len_is_whole:∀ ws M Q,sp_is_whole ws M Q->ws.length=1:=by rintro ws M Q ⟨d,rfl,_⟩; rfl
theorem read_is_whole:∀ ws M Q,sp_is_whole ws M Q->t_is_whole { nx:=λ _ M'=>Q (.d .none) M',rt:=Q } (startD N_is_whole ws) M:=by
 rintro ws M Q ⟨i,rfl,k⟩
 refine ⟨_,rfl,_,_,_,rfl,.d,.int,_,rfl,?_⟩
 rw [isi_i]
 refine iteT ⟨_,rfl,_,_,_,rfl,.d,.bool,_,rfl,?_⟩
 rw [isi_ib]
 exact k
noncomputable def sp_is_within:SpD:=λ ws M Q=>∃ i lo hi:Int,ws=[.d (.int i),.d (.int lo),.d (.int hi)]/\lo<=i/\i<=hi/\Q (.d (.bool true)) M
theorem len_is_within:∀ ws M Q,sp_is_within ws M Q->ws.length=3:=by rintro ws M Q ⟨i,lo,hi,rfl,_⟩; rfl
theorem read_is_within:∀ ws M Q,sp_is_within ws M Q->t_is_within sp_is_whole { nx:=λ _ M'=>Q (.d .none) M',rt:=Q } (startD N_is_within ws) M:=by
 rintro ws M Q ⟨i,lo,hi,rfl,h1,h2,k⟩
 refine ⟨_,rfl,i,rfl,_,rfl,iteT ⟨_,rfl,_,rfl,.inl ⟨_,_,rfl,rfl,_,rfl,?_⟩⟩⟩
 rw [decide_eq_true h1]
 refine iteT ⟨_,rfl,.inl ⟨_,_,rfl,rfl,?_⟩⟩
 rw [show ((λ i j:Int=>PyData.bool (decide (i<=j))) i hi)=.bool true from congrArg PyData.bool (decide_eq_true h2)]
 exact k
noncomputable def sp_is_word:SpD:=λ ws M Q=>∃ z:Str,ws=[.d (.str z)]/\wd z=true/\Q (.d (.bool true)) M
theorem len_is_word:∀ ws M Q,sp_is_word ws M Q->ws.length=1:=by rintro ws M Q ⟨d,rfl,_⟩; rfl
theorem read_is_word:∀ ws M Q,sp_is_word ws M Q->t_is_word { nx:=λ _ M'=>Q (.d .none) M',rt:=Q } (startD N_is_word ws) M:=by
 rintro ws M Q ⟨z,rfl,hz,k⟩
 have hl:=wd_len hz
 have hfit:fitW (.d (.str z))=true:=decide_eq_true (few (by omega))
 refine ⟨_,rfl,_,_,_,rfl,.d,.str,_,rfl,?_⟩
 rw [isi_s]
 refine iteF ⟨_,rfl,_,_,rfl,rfl,hfit,.inl ⟨_,_,rfl,rfl,_,rfl,?_⟩⟩
 rw [decide_eq_true (show (1:Int)<=(z.length:Nat) by omega)]
 refine iteT (.inl ⟨_,_,rfl,rfl,_,rfl,?_⟩)
 rw [decide_eq_true (show ((z.length:Nat):Int)<=8 by omega)]
 refine iteF ⟨_,rfl,_,rfl,?_⟩
 dsimp only
 have ea:("a" : Str).cps.toList=[97]:=by decide +kernel
 have ez:("z" : Str).cps.toList=[122]:=by decide +kernel
 refine lc_rows z.cps.toList (λ c=>W.d (.str ⟨#[c]⟩)) (λ c=>.bool true) (λ τ=>∃ x,τ=[x]) (by rw [str_len]; omega) ⟨_,rfl⟩ (λ c hc τ hτ R h=>?_) (λ τ=>?_)
 ·obtain ⟨x,rfl⟩:=hτ
  have hs:=wd_all hz c hc
  simp [smallB] at hs
  have q1:(!decide ((⟨#[c]⟩:Str).cps.toList < ("a" : Str).cps.toList))=true:=by rw [ea,show (⟨#[c]⟩:Str).cps.toList=[c] from rfl,lt1]; simp; omega
  have q2:(!decide (("z" : Str).cps.toList < (⟨#[c]⟩:Str).cps.toList))=true:=by rw [ez,show (⟨#[c]⟩:Str).cps.toList=[c] from rfl,lt1]; simp; omega
  refine ⟨_,rfl,.inr ⟨_,_,rfl,rfl,_,rfl,?_⟩⟩
  refine ite_y q1 (.inr ⟨_,_,rfl,rfl,?_⟩)
  refine ⟨_,rfl,?_⟩
  have:=h [some (.d (.str ⟨#[c]⟩))] ⟨_,rfl⟩
  rw [<- q2] at this
  exact this
 ·refine ⟨z.cps.toList.map λ _=>true,by rw [List.map_map]; rfl,?_⟩
  rw [show (z.cps.toList.map λ _=>true).all id=true from by rw [List.all_eq_true]; intro b hb; obtain ⟨_,_,rfl⟩:=List.mem_map.mp hb; rfl]
  exact k
noncomputable def OkRow (r:Str×Int):Prop:=wd r.1=true/\0<=r.2/\r.2<=6
theorem eqv2:PyData.eqv (.int ((2:Nat):Int)) (.int 2)=true:=by decide +kernel
noncomputable def lsS (a b:Str):Bool:=decide (a.cps.toList < b.cps.toList)
structure OkB (B:Bs):Prop where
 len:B.length<=8
 row:∀ r∈B,OkRow r
 up:∀ i r s,B[i]? = some r->B[i+1]? = some s->lsS r.1 s.1=true
theorem enum_row {α:Type}{L:List α}{f:α->PyData}{i:Nat}{w:W}(h:(enumW (L.map f))[i]? = some w):∃ r,L[i]? = some r/\w=.d (.tuple [.int (i:Nat),f r]):=by
 unfold enumW at h
 rw [List.getElem?_map] at h
 have hi:i < L.length:=by
  by_cases q:i < L.length
  ·exact q
  ·rw [List.getElem?_eq_none (by simpa using q)] at h; cases h
 rw [List.getElem?_range (by simpa using hi)] at h
 cases h
 refine ⟨L[i],List.getElem?_eq_getElem hi,?_⟩
 simp [List.getD,List.getElem?_map,List.getElem?_eq_getElem hi]
theorem ix_map {α:Type}{M:MH}{L:List α}{f:α->PyData}{i:Nat}{r:α}{j:Int}(hj:j=(i:Int))(h:L[i]? = some r):ixW M (.d (.list (L.map f))) j=some (.d (f r)):=by
 subst hj
 have hi:=(List.getElem?_eq_some_iff.mp h).1
 simp only [ixW,atI]
 rw [ixN_nat (by omega) (by rw [List.length_map]; omega)]
 simp [h]
structure OkAr (r:Str×Str×Int):Prop where
 w:wd r.1=true
 k:wd r.2.1=true
 c0:0<=r.2.2
 c6:r.2.2<=6
structure OkA (A:As):Prop where
 len:A.length<=8
 row:∀ r∈A,OkAr r
 nd:(A.map λ r=>r.1).Nodup
theorem OkA.c {A:As}(h:OkA A):OkC A:=⟨h.len,λ r hr=>⟨(h.row r hr).c0,(h.row r hr).c6⟩⟩
theorem OkB.r {B:Bs}(h:OkB B):OkR (rooms B):=⟨by unfold rooms; rw [List.length_map]; exact h.len,λ m hm=>by obtain ⟨r,hr,rfl⟩:=List.mem_map.mp hm; exact (h.row r hr).2⟩
theorem nd_take {L:List Str}(h:L.Nodup){i:Nat}{z:Str}(e:L[i]? = some z):z ∉ L.take i:=by
 intro hm
 obtain ⟨j,hj,ej⟩:=List.getElem_of_mem hm
 rw [List.length_take] at hj
 rw [List.getElem_take] at ej
 obtain ⟨hi,ei⟩:=List.getElem?_eq_some_iff.mp e
 have:=(List.getElem_inj (h₀:=by omega) (h₁:=hi) h).mp (ej.trans ei.symm)
 omega
noncomputable def tailB (k:Nat):Str:=Txt.mul ⟨#[("abcdefgh" : Str).cps.toList.getD k 0]⟩ (1+(0+(k:Int)) % 2)
theorem cut_drop {α:Type}{xs:List α}{t:Int}(h:0<=t):D.cutD xs (some t) none=xs.drop t.toNat:=by
 unfold D.cutD
 have e:HT.sIx xs.length xs.length none=xs.length:=rfl
 have e2:HT.sIx xs.length 0 (some t)=min t.toNat xs.length:=by
  unfold HT.sIx
  dsimp only
  rw [if_neg (by omega)]
 rw [e,e2]
 by_cases q:t.toNat<=xs.length
 ·rw [Nat.min_eq_left q,<- List.length_drop,List.take_length]
 ·rw [Nat.min_eq_right (by omega),List.drop_of_length_le (Nat.le_refl _),List.drop_of_length_le (by omega)]
  simp
end Stc
namespace HT
open PySem PyProof.Rows
section
open PySem.SeqAt
open PySem.AutoSeq1 (wpAny_loadPart')
open PySem.MeetsSeq PySem.MeetsSeq2 PySem.MeetsSeq3
end
section
variable {prog:Program}{w:World}{A:Around}{E:Value->Shared->Prop}{s:Shared}
end
end HT
namespace D
open PySem PySem.Spec PyProof.Rows L2
section
variable {X:Cx}{K:PySem.W.Frag}
end
end D
namespace Stc
open PySem PySem.Spec PyProof.Rows L2 D Rc
noncomputable def exc (t:Int)(xs:List Int):Int:=(xs.map λ x=>if t < x then x - t else 0).sum
noncomputable def Dom (xs ys:List Int):Prop:=∀ t,0<=t->exc t xs<=exc t ys
theorem Dom.refl (xs:List Int):Dom xs xs:=λ _ _=>Int.le_refl _
theorem Dom.trans {xs ys zs:List Int}(h:Dom xs ys)(k:Dom ys zs):Dom xs zs:=λ t ht=>Int.le_trans (h t ht) (k t ht)
end Stc
namespace D
open PySem PySem.Spec PyProof.Rows L2
section
variable {X:Cx}{o:Expr}{to:TE}{p pos kpos kp:Pos}{j:Nat}
end
section
variable {X:Cx}{o:Expr}{td:TD}{p pos kpos kp:Pos}{j:Nat}
end
end D
namespace Q
open PySem PySem.Spec PyProof.Rows L2 D
section
variable {X:Cx}{o:Expr}{td:TD}{p pos kpos kp:Pos}{j:Nat}
end
end Q
namespace L2
open PySem PySem.Spec PyProof.Rows
section
variable {prog:Program}{w:World}{A:Around}{E:Value->Shared->Prop}{R:Result->Shared->Prop}{s:Shared}
theorem compLoop_ownD {kx vx target iter:Expr}{ifs:List Expr}{scope:Scope}{pos:Pos}{it:Value}{D:Addr}{env:Env}(I:Nat->Shared->Prop)
  (turn:∀ n s,I n s->wpAny (model prog w) A (pyNext it) (λ r s₁=>match r with
   | none=>R (.ok .next) s₁
   | some v=>wpAny (model prog w) A (letOwnedTupleGo target it v) (λ _ s₁'=>wpAny (model prog w) A (assign target env v) (λ _ s₂ =>
     wpAny (model prog w) A (testsOf ifs env) (λ ok s₃ =>
      if ok=true then wpAny (model prog w) A (eval kx env) (λ kv s₄=>wpAny (model prog w) A (eval vx env) (λ vv s₅ =>
       wpAny (model prog w) A (dictSet D kv vv) (λ _ s₆=>∃ m,m < n/\I m s₆) (λ _ _=>False) s₅) (λ _ _=>False) s₄) (λ _ _=>False) s₃
      else ∃ m,m < n/\I m s₃) (λ _ _=>False) s₂) (λ _ _=>False) s₁') (λ _ _=>False) s₁) (λ _ _=>False) s)
  (n:Nat)(h:I n s) :
  codeAny (model prog w) A (.compLoop (.DictComp kx vx [⟨target,iter,ifs,0⟩] scope pos) 0 it (.ref D) env) R s:=by
 refine codeAny_loop rfl I (λ n s hI=>?_) n h
 show wpAny _ A ((compTurn (.DictComp kx vx [⟨target,iter,ifs,0⟩] scope pos) 0 it (.ref D) env).onRaise (λ x=>do noteFrame x env; theTreesLotGoes x)) _ _ s
 refine wpAny_noted ?_
 rw [compTurn_dict]
 refine wpAny_bind (wpAny_standAt (wpAny_bind (wpAny_mono (turn n s hI) (λ r s₁ h₁=>?_) λ _ _ h'=>h'.elim)))
 cases r with
 | none=>exact wpAny_pure h₁
 | some v =>
  refine wpAny_bind (wpAny_mono h₁ (λ _ s₁' h₁'=>?_) λ _ _ h'=>h'.elim)
  refine wpAny_bind (wpAny_mono h₁' (λ _ s₂ h₂=>wpAny_bind (wpAny_mono h₂ (λ ok s₃ h₃=>?_) λ _ _ h'=>h'.elim)) λ _ _ h'=>h'.elim)
  cases ok with
  | false=>exact wpAny_pure ⟨rfl,h₃⟩
  | true =>
   refine wpAny_bind ?_
   refine wpAny_bind (wpAny_mono h₃ (λ kv s₄ h₄=>wpAny_bind (wpAny_holding (wpAny_mono h₄ (λ vv s₅ h₅=>wpAny_bind (wpAny_standAt (wpAny_holding (wpAny_mono h₅ (λ _ s₆ h₆=>wpAny_pure ⟨rfl,h₆⟩) λ _ _ h'=>h'.elim)))) λ _ _ h'=>h'.elim))) λ _ _ h'=>h'.elim)
end
section
variable {X:Cx}{pins:List (Addr×Obj)}{σ:St}{H:Hp}{s:Shared}{a:Addr}{u r:Value}{v:V}{A:Around}{E:Value->Shared->Prop}
theorem d_dictSet {kvs:List (Key×V)}{k:Key}{Q:Unit->Shared->Prop}(I:Inv X pins σ H s)(e:H a=some (.dK kvs))(l:kvs.length < sizeLine)(ry:RelV (kV k) u)(rv:RelV v r)(h:∀ s',Inv X pins σ (upd H a (.dK (putK kvs k v))) s'->Q () s') :
  wpAny (model X.prog X.w) A (dictSet a u r) Q E s:=by
 obtain ⟨z,hd,vs,rel,dd⟩:=dk_of I.hok e
 have hz:vs.length<=sizeLine:=by rw [<- rel.length]; exact z
 have hl:(putK kvs k v).length<=sizeLine:=by have:=length_putK kvs k v; omega
 refine wpAny_dictSet_pairs (hsz:=hz) (kV_is ry) dd λ h' dd' hs=>h _ ?_
 have he:∃ q,h'.get? a=some q:=let ⟨q,_,_,hq,_⟩:=dd'; ⟨q,hq⟩
 exact d_write I (by rw [e]; exact True.intro) hs he (dk_new hl hd (rel.put k rv) dd')
end
noncomputable abbrev DcW:=Nat->Nat->St->Hp->Prop
noncomputable def dcStep (J:It)(g:TG)(tt:TT)(tk tv:TE)(D:Addr)(W:DcW)(Fin:Hp->Prop):Prop:=∀ i m τ H,W i m τ H ->
 (J.stop i H/\Fin H)\/(J.go i H/\∀ x H',J.yld i H x H'->g x τ H' λ τ2 H2=>tt τ2 H2 λ b H3 =>
  if b=true then tk τ2 H3 λ y H4=>tv τ2 H4 λ z H5=>∃ kvs k,H5 D=some (.dK kvs)/\y=kV k/\kvs.length < sizeLine/\∃ m',m' < m/\W (i+1) m' τ2 (upd H5 D (.dK (putK kvs k z))) else ∃ m',m' < m/\W (i+1) m' τ2 H3)
section
variable {X:Cx}{pins:List (Addr×Obj)}{σ:St}{H:Hp}{s:Shared}{sc:Scope}{own:List Str}{fr:List Nat}{cl:List (Str×Addr)}{fp:List Addr}{it D:Addr}{J:It}{tn:Nat->Heap->Prop}{g:TG}{tt:TT}{tk tv:TE}{W:DcW}{Fin:Hp->Prop}
 {kx vx tg iter:Expr}{ifs:List Expr}{pos:Pos}{E:Value->Shared->Prop}
theorem dc_core {RR:Addr->Result->Shared->Prop}(hc:X.calm=true)(L:LcOk X sc own fr)(hcl1:∀ n c,cl.lookup n=some c->X.env.cells.lookup n=some c)(hcl2:∀ n,(n,NameKind.free)∈sc.names->∃ c,cl.lookup n=some c)
  (hg:∀ C s H ex pl,PG (blk X sc (lcN X own fr) cl C s H ex pl) tg g)(ht:∀ C s H ex pl,PTs (blk X sc (lcN X own fr) cl C s H ex pl) ifs tt)(hk:∀ C s H ex pl,PE (blk X sc (lcN X own fr) cl C s H ex pl) kx tk)(hv:∀ C s H ex pl,PE (blk X sc (lcN X own fr) cl C s H ex pl) vx tv)
  (I:Inv X pins σ H s)(T:Turn X.prog X.w X.K tg J fp it tn)(st:tn 0 s.heap)(hf:∀ b∈fp,FpOk X pins H b)(w0:∃ m,W 0 m (lcS own.length fr σ) H)(turn:dcStep J g tt tk tv D W Fin)
  (hRR:∀ (C:Addr) (s':Shared) (H':Hp) (m:Str->Option Value),Inv X pins σ H' s'->H' C=none->s.heap.objs.size<=C->s'.heap.Ns C m->Fin H'->RR C (.ok .next) s') :
  wpAny (model X.prog X.w) X.A (newFunctionEnv sc X.env.globals cl [] X.env.qual none .none (some X.env)) (λ cenv s₄ =>
   codeAny (model X.prog X.w) X.A (.compStart (.DictComp kx vx [⟨tg,iter,ifs,0⟩] sc pos) 0 (.ref it) (.ref D) { cenv with scope:=relabel sc X.env }) (RR cenv.locals) s₄) E s:=by
 refine wpAny_newFunctionEnv L.cell (by intro y hy; simp at hy) (λ h₁ hns₁ hsb₁=>?_) L.kind
 try dsimp only at hns₁ hsb₁ ⊢
 have below:∀ b,b < s.heap.objs.size->b≠s.heap.objs.size:=λ b hb=>Nat.ne_of_lt hb
 have old:∀ b o,s.heap.get? b=some o->h₁.get? b=some o:=λ b o e=>hsb₁.extBut b o (below b (Heap.lt_size e)) (Heap.get?_push_of_some _ e)
 have hfb:∀ b∈fp,b < s.heap.objs.size:=λ b hb=>by
  obtain ⟨o,e,_⟩:=T.obj 0 _ st b hb
  exact Heap.lt_size e
 have I1:Inv (blk X sc (lcN X own fr) cl s.heap.objs.size s H fp pins) [] (lcS own.length fr σ) H { s with heap:=h₁,toks:=s.toks+([]:List (Str×Value)).length }:=blk_inv L I hf hfb (Nat.le_refl _) hcl1 hcl2 hns₁ old
 have st1:tn 0 h₁:=T.keep 0 _ _ st λ b _ o e=>old b o e
 generalize hY:blk X sc (lcN X own fr) cl s.heap.objs.size s H fp pins=Y at I1
 have hYp:Y.prog=X.prog:=by rw [<- hY]; rfl
 have hYw:Y.w=X.w:=by rw [<- hY]; rfl
 have hYK:Y.K=X.K:=by rw [<- hY]; rfl
 have hYA:Y.A=X.A:=by rw [<- hY]; rfl
 have hYc:Y.calm=true:=by rw [<- hY]; exact hc
 have hYe:Y.env=compEnvC sc cl s.heap.objs.size X.env:=by rw [<- hY]; rfl
 have hYx:Y.xe=λ _ _=>False:=by rw [<- hY]; rfl
 have hYpn:Y.pn=X.pn++pins:=by rw [<- hY]; rfl
 have hYs:Y.s₀=s:=by rw [<- hY]; rfl
 have hYH:Y.H₀=H:=by rw [<- hY]; rfl
 have hYex:Y.ex=fp:=by rw [<- hY]; rfl
 have hYfs:Y.fs=frs X.stack:=by rw [<- hY]; rfl
 have gY:=hg s.heap.objs.size s H fp pins
 have tY:=ht s.heap.objs.size s H fp pins
 have kY:=hk s.heap.objs.size s H fp pins
 have vY:=hv s.heap.objs.size s H fp pins
 rw [hY] at gY tY kY vY
 have fpY:∀ {H':Hp},(∀ b∈fp,H' b=none)->∀ b∈fp,FpOk Y [] H' b:=λ {H'} hn b hb=>by
  obtain ⟨_,f1,f2,f3,f4,f5⟩:=hf b hb
  refine ⟨hn b hb,by rw [hYe]; exact below b (hfb b hb),?_,.inl (by rw [hYex]; exact hb),λ x c e=>?_,λ p q=>?_⟩
  ·rw [hYfs]
   intro z
   rcases List.mem_cons.mp (I.stkSub _ z) with e | e
   ·exact f1 e
   ·exact f2 e
  ·rw [hYe] at e
   exact f4 x c (hcl1 _ _ e)
  ·rw [List.append_nil,hYpn] at q
   exact f5 p q
 have loop:∀ s₃:Shared,s₃={ s with heap:=h₁,toks:=s.toks+([]:List (Str×Value)).length } ->
   codeAny (model X.prog X.w) X.A (.compLoop (.DictComp kx vx [⟨tg,iter,ifs,0⟩] sc pos) 0 (.ref it) (.ref D) (compEnvC sc cl s.heap.objs.size X.env)) (RR s.heap.objs.size) s₃:=by
  rintro s₃ rfl
  obtain ⟨m0,w0⟩:=w0
  refine compLoop_ownD (λ n s'=>∃ i τ H',Inv Y [] τ H' s'/\tn i s'.heap/\(∀ b∈fp,H' b=none)/\W i n τ H') ?_ m0 ⟨0,_,H,I1,st1,λ b hb=>(hf b hb).1,w0⟩
  rintro n s' ⟨i,τ,H',I',st',hn',w'⟩
  rcases turn i n τ H' w' with ⟨stop,fin⟩ | ⟨go,step⟩
  ·have q:=T.done Y hYp hYw hYK hYc i _ s' τ H' (λ _ _=>False) I' (fpY hn') st' stop
   rw [hYA] at q
   refine thn q λ r s4 hq89=>?_
   obtain ⟨hr,I4⟩:=hq89
   subst hr
   have un:Un (frs X.stack) fp H H' s.heap s4.heap:=by
    have z:=I4.base
    rw [hYfs,hYex,hYH,hYs] at z
    exact z
   have os4:s4.os=s.os:=by
    have z:=I4.os
    rw [hYs] at z
    exact z
   have hok4:HOk X.prog X.w H' s4.heap:=by
    have z:=I4.hok
    rw [hYp,hYw] at z
    exact z
   have hch:∀ b∈fp,(b∈X.ex\/X.s₀.heap.objs.size<=b)/\b≠X.env.locals/\(∀ x c,X.env.cells.lookup x=some c->c≠b)/\∀ p∈X.pn++pins,p.1≠b:=λ b hb=>by
    obtain ⟨_,f1,f2,f3,f4,f5⟩:=hf b hb
    exact ⟨f3,f1,f4,f5⟩
   have IX:Inv X pins σ H' s4:=I.call' os4 un hok4 I4.bare hch
   obtain ⟨mC,hmC,_⟩:=I4.loc
   have hCf:=I4.free
   rw [hYe] at hmC hCf
   exact hRR _ s4 H' mC IX hCf (Nat.le_refl _) hmC fin
  ·have q:=T.item Y hYp hYw hYK hYc i _ s' τ H' (λ _ _=>False) I' (fpY hn') st' go
   rw [hYA] at q
   refine thn q λ r s4 hq90=>?_
   obtain ⟨u,hr,h4⟩:=hq90
   subst hr
   refine thn h4 λ _ s5 hq91=>?_
   obtain ⟨x,H5,I5,r5,y5,st5,fr5⟩:=hq91
   have I5':=I5.pinned (fpY fr5) (T.obj _ _ st5)
   have g5:=gY _ s5 τ H5 x u _ I5' r5 (step x H5 y5)
   rw [hYp,hYw,hYA,hYe,hYx] at g5
   refine thn g5 λ _ s6 hq92=>?_
   obtain ⟨σ6,H6,I6,q6⟩:=hq92
   have t6:=tY _ s6 σ6 H6 _ I6 q6
   rw [hYp,hYw,hYA,hYe,hYx] at t6
   refine thn t6 λ ok s7 hq93=>?_
   obtain ⟨H7,I7,q7⟩:=hq93
   have keepI:∀ {σ8:St} {H8:Hp} {s8:Shared},Inv Y ([]++pinsAt fp s5.heap) σ8 H8 s8->tn (i+1) s8.heap/\∀ b∈fp,H8 b=none :=
    λ {σ8 H8 s8} I8=>by
     refine ⟨T.keep _ _ _ st5 λ b hb o e=>(I8.pin (b,o) (List.mem_append_right _ (List.mem_append_right _ (mem_pinsAt hb e)))).1,λ b hb=>?_⟩
     obtain ⟨o,e,d⟩:=T.obj _ _ st5 b hb
     exact (I8.pin (b,o) (List.mem_append_right _ (List.mem_append_right _ (mem_pinsAt hb e)))).2.1
   cases ok with
   | false =>
    rw [if_neg Bool.false_ne_true] at q7 ⊢
    obtain ⟨m',hm',w7⟩:=q7
    obtain ⟨c7,d7⟩:=keepI I7
    exact ⟨m',hm',i+1,σ6,H7,I7.pins_of (λ p hp=>(nomatch hp)),c7,d7,w7⟩
   | true =>
    rw [if_pos rfl] at q7 ⊢
    have e7:=kY _ s7 σ6 H7 _ I7 q7
    rw [hYp,hYw,hYA,hYe,hYx] at e7
    refine thn e7 λ ku s8 hq94=>?_
    obtain ⟨y,H8,I8,r8,q8⟩:=hq94
    have e8:=vY _ s8 σ6 H8 _ I8 q8
    rw [hYp,hYw,hYA,hYe,hYx] at e8
    refine thn e8 λ vu s9 hq95=>?_
    obtain ⟨z,H9,I9,r9,kvs,k,hD,ey,hlt,m',hm',w9⟩:=hq95
    subst ey
    have r8':RelV (kV k) ku:=r8
    have q9:=d_dictSet (A:=X.A) (E:=λ _ _=>False) (Q:=λ _ s₆=>∃ m,m < n/\∃ i τ H',Inv Y [] τ H' s₆/\tn i s₆.heap/\(∀ b∈fp,H' b=none)/\W i m τ H') I9 hD hlt r8' r9 λ s10 I10=>by
     obtain ⟨c8,d8⟩:=keepI I10
     exact ⟨m',hm',i+1,σ6,_,I10.pins_of (λ p hp=>(nomatch hp)),c8,d8,w9⟩
    rw [hYp,hYw] at q9
    exact q9
 exact codeAny_compStart_dict (loop _ rfl) (T.self _ 0 _ _ _ st1 (loop _ rfl))
noncomputable def tDC (wi:TI)(g:TG)(tt:TT)(tk tv:TE)(k:Nat)(fr:List Nat):TE:=λ σ H Q=>wi σ H λ J H1=>∀ p,H1 p=none->∃ W:DcW,(∃ m,W 0 m (lcS k fr σ) (upd H1 p (.dK [])))/\dcStep J g tt tk tv p W λ H2=>Q (.ref p) H2
theorem pe_dc {wi:TI}(hc:X.calm=true)(L:LcOk X sc own fr)(hi:PI X tg iter wi)
  (hg:∀ cl C s H ex pl,PG (blk X sc (lcN X own fr) cl C s H ex pl) tg g)(ht:∀ cl C s H ex pl,PTs (blk X sc (lcN X own fr) cl C s H ex pl) ifs tt)(hk:∀ cl C s H ex pl,PE (blk X sc (lcN X own fr) cl C s H ex pl) kx tk)(hv:∀ cl C s H ex pl,PE (blk X sc (lcN X own fr) cl C s H ex pl) vx tv)
  (hs:∀ x,foldedSetIterable iter X.env x=pure x:=by intro _; rfl):PE X (.DictComp kx vx [⟨tg,iter,ifs,0⟩] sc pos) (tDC wi g tt tk tv own.length fr):=by
 intro pins s σ H Q I h
 obtain ⟨cl,hcl,c1,c2⟩:=lc_closure L I.ok
 show wpAny _ _ (comprehension (.DictComp kx vx [⟨tg,iter,ifs,0⟩] sc pos) sc X.env _ newDict false (eval iter X.env)) _ _ _
 refine wpAny_comprehension_free (use:=none) (g:=⟨tg,iter,ifs,0⟩) (gs:=[]) rfl hs hcl L.kind L.names ?_
 refine thn (hi pins s σ H _ I h) λ v s1 h1=>thn h1 λ itv s2 h2=>?_
 obtain ⟨it,fp,tn,J,H2,e,I2,T,st2,f2,q2⟩:=h2
 subst e
 obtain ⟨W,w0,turn⟩:=q2 _ (I2.hok.fresh (Nat.le_refl s2.heap.objs.size))
 refine wpAny_newObj_type ?_
 have I3:=I2.laid (a:=s2.heap.objs.size) (o:=.dK []) (h':=s2.heap.push { cls:=.type "dict",data:=.dict #[] }) (t':=s2.toks) (λ _ _ q=>Heap.get?_push_of_some _ q) (Nat.le_refl _) (dk_empty s2.heap I2.big)
 have hfb:∀ b∈fp,b < s2.heap.objs.size:=λ b hb=>by
  obtain ⟨o,e,_⟩:=T.obj 0 _ st2 b hb
  exact Heap.lt_size e
 have f3:∀ b∈fp,FpOk X pins (upd H2 s2.heap.objs.size (.dK [])) b:=λ b hb=>by
  obtain ⟨f0,fr⟩:=f2 b hb
  exact ⟨by rw [upd_ne (Nat.ne_of_lt (hfb b hb))]; exact f0,fr⟩
 have st3:tn 0 (s2.heap.push { cls:=.type "dict",data:=.dict #[] }):=T.keep 0 _ _ st2 λ b _ o e=>Heap.get?_push_of_some _ e
 refine dc_core (cl:=cl) hc L c1 c2 (hg cl) (ht cl) (hk cl) (hv cl) I3 T st3 f3 w0 turn λ C s' H' m I' hC dC hns fin=>?_
 refine ⟨m,hns,λ h' sb=>?_⟩
 have hC2:s2.heap.objs.size<=C:=Nat.le_trans (by rw [Heap.size_push]; exact Nat.le_succ _) dC
 obtain ⟨_,z2,_,_,z3,z4⟩:=I2.fpOk (H':=λ _=>none) hC2 rfl
 have I4:Inv X pins σ H' { s' with heap:=h' }:=I'.turned (t':=s'.toks) (λ b o hb e=>sb.extBut b o hb e) hC z2 (.inr (Nat.le_trans I2.sz hC2)) z3 z4
 exact ⟨.ref _,_,I4,rfl,fin⟩
end
end L2
namespace D
open PySem PySem.Spec PyProof.Rows L2
section
variable {K:PySem.W.Frag}
noncomputable def dDC (di:TId)(g:TGd)(tt:TTd)(tk tv:TD)(k:Nat)(fr:List Nat)(τ:DS)(M:MH)(Q:QD):Prop:=di τ M λ ws M1=>∀ p,M1 p=none->∃ P:Nat->DS->MH->Prop,P 0 (lcSD k fr τ) (updM M1 p (.dic [])) /\
 (∀ i w τ M,ws[i]? = some w->P i τ M->g w τ M λ τ2 M2=>tt τ2 M2 λ b M3=>if b=true then tk τ2 M3 λ y M4=>tv τ2 M4 λ z M5=>∃ kvs key,M5 p=some (.dic kvs)/\y=kW key/\kvs.length < sizeLine/\P (i+1) τ2 (updM M5 p (.dic (tput kvs key z))) else P (i+1) τ2 M3) /\
 ∀ τ M,P ws.length τ M->Q (.m p) M
theorem imp_dc {di:TId}{g:TGd}{tt:TTd}{tk tv:TD}{k:Nat}{fr:List Nat}{σ:St}{H:Hp}{Q:VK}(h:up K (dDC di g tt tk tv k fr) σ H Q) :
  tDC (upI K di) (upG K g) (upT K tt) (up K tk) (up K tv) k fr σ H Q:=by
 obtain ⟨τ,M,Qd,A,h,kk⟩:=h
 refine ⟨τ,M,_,A,h,λ J H1 ws M1 kp m1 it hall p hp=>?_⟩
 obtain ⟨P,p0,pt,pe⟩:=hall p (m1.free hp)
 have kpn:Kp H1 (upd H1 p (.dK [])):=Kp.new hp
 have mn:MAbs K (upd H1 p (.dK [])) (updM M1 p (.dic [])):=m1.put (mo:=.dic []) kpn ⟨_,upd_same,.nil⟩
 refine ⟨λ i n σ' H'=>n=ws.length - i/\i<=ws.length/\Kp (upd H1 p (.dK [])) H'/\∃ τ M,Abs K H' σ' τ M/\P i τ M,⟨ws.length,by simp,Nat.zero_le _,Kp.refl _,_,_,abs_lc (A.go (kp.trans kpn) mn) k fr,p0⟩,?_⟩
 rintro i n σ2 H2 ⟨rfl,hi,kp2,τ2,M2,A2,p2⟩
 obtain ⟨go,stop,yld⟩:=it H2 (kpn.trans kp2) i
 by_cases hlt:i < ws.length
 ·refine .inr ⟨go hlt,λ x H3 y=>?_⟩
  obtain ⟨kp3,mk,w,ew,rw⟩:=yld x H3 hlt y
  refine ⟨w,τ2,M2,_,rw,A2.go kp3 (mk _ A2.mem),pt i w τ2 M2 ew p2,λ σ4 H4 τ4 M4 kp4 A4 q4=>⟨τ4,M4,_,A4,q4,λ b H5 M5 kp5 m5 q5=>?_⟩⟩
  have kq:=(kp3.trans kp4).trans kp5
  cases b with
  | false =>
   rw [if_neg Bool.false_ne_true] at q5
   exact iteF ⟨ws.length - (i+1),by omega,rfl,hlt,kp2.trans kq,τ4,M5,A4.go kp5 m5,q5⟩
  | true =>
   rw [if_pos rfl] at q5
   refine iteT ⟨τ4,M5,_,A4.go kp5 m5,q5,λ ky H6 wy M6 kp6 r6 m6 q6=>⟨τ4,M6,_,A4.go (kp5.trans kp6) m6,q6,λ v H7 wv M7 kp7 r7 m7 hq96=>?_⟩⟩
   obtain ⟨kvs,key,hm,ey,hl,q7⟩:=hq96
   subst ey
   obtain ⟨l,e,pr⟩:=m7 _ _ hm
   have kp8:Kp H7 (upd H7 p (.dK (putK l key v))):=Kp.set e (λ _ z=>nomatch z) (λ _ _ z=>nomatch z)
   refine ⟨l,key,e,kW_rep r6,by rw [<- tb_len pr]; exact hl,ws.length - (i+1),by omega,rfl,hlt,kp2.trans (((kq.trans kp6).trans kp7).trans kp8),τ4,_,A4.go (((kp5.trans kp6).trans kp7).trans kp8) (m7.put (mo:=.dic (tput kvs key wv)) kp8 ⟨_,upd_same,?_⟩),q7⟩
   exact Paired.mapP (tb_put key r7 pr) λ p q z=>⟨z.1,z.2.keep kp8⟩
 ·have hl:i=ws.length:=by omega
  subst hl
  refine .inl ⟨stop (Nat.le_refl _),?_⟩
  exact kk _ H2 (.m p) M2 (kp.trans (kpn.trans kp2)) rfl A2.mem (pe τ2 M2 p2)
variable {X:Cx}{sc:Scope}{own:List Str}{fr:List Nat}{di:TId}{g:TGd}{tt:TTd}{tk tv:TD}{tg iter kx vx:Expr}{ifs:List Expr}{pos:Pos}
theorem pd_dc0 (hc:X.calm=true)(L:LcOk X sc own fr)(hi:PId X tg iter di)
  (hg:∀ cl C s H ex pl,PGd (blk X sc (lcN X own fr) cl C s H ex pl) tg g)(ht:∀ cl C s H ex pl,PTsd (blk X sc (lcN X own fr) cl C s H ex pl) ifs tt)(hk:∀ cl C s H ex pl,PD (blk X sc (lcN X own fr) cl C s H ex pl) kx tk)(hv:∀ cl C s H ex pl,PD (blk X sc (lcN X own fr) cl C s H ex pl) vx tv)
  (hs:∀ x,foldedSetIterable iter X.env x=pure x:=by intro _; rfl):PD X (.DictComp kx vx [⟨tg,iter,ifs,0⟩] sc pos) (dDC di g tt tk tv own.length fr) :=
 pe_w (pe_dc hc L hi hg ht hk hv hs) λ σ H Q h=>imp_dc h
end
end D
namespace Q
open PySem PySem.Spec PyProof.Rows L2 D
section
variable {X:Cx}{sc:Scope}{own:List Str}{fr:List Nat}{di:TId}{g:TGd}{tt:TTd}{tk tv:TD}{tg iter kx vx:Expr}{ifs:List Expr}{pos:Pos}
theorem pd_dc (hc:X.calm=true)(L:LcOk X sc own fr)(hi:Jd (PId X tg iter di))
  (hg:∀ cl C s H ex pl,Jd (PGd (blk X sc (lcN X own fr) cl C s H ex pl) tg g))(ht:∀ cl C s H ex pl,Jd (PTsd (blk X sc (lcN X own fr) cl C s H ex pl) ifs tt))(hk:∀ cl C s H ex pl,Jd (PD (blk X sc (lcN X own fr) cl C s H ex pl) kx tk))(hv:∀ cl C s H ex pl,Jd (PD (blk X sc (lcN X own fr) cl C s H ex pl) vx tv))
  (hs:∀ x,foldedSetIterable iter X.env x=pure x:=by intro _; rfl):Jd (PD X (.DictComp kx vx [⟨tg,iter,ifs,0⟩] sc pos) (dDC di g tt tk tv own.length fr)) :=
 ⟨D.pd_dc0 hc L hi.h (λ cl C s H ex pl=>(hg cl C s H ex pl).h) (λ cl C s H ex pl=>(ht cl C s H ex pl).h) (λ cl C s H ex pl=>(hk cl C s H ex pl).h) (λ cl C s H ex pl=>(hv cl C s H ex pl).h) hs⟩
end
end Q
namespace L2
open PySem PySem.Spec PyProof.Rows
section
variable {X:Cx}{sc:Scope}{own:List Str}{fr:List Nat}{g:TG}{tt:TT}{tk tv:TE}{kx vx tg iter:Expr}{ifs:List Expr}{pos:Pos}
end
end L2
namespace D
open PySem PySem.Spec PyProof.Rows L2
section
variable {X:Cx}{sc:Scope}{own:List Str}{fr:List Nat}{di:TId}{g:TGd}{tt:TTd}{tk tv:TD}{tg iter kx vx:Expr}{ifs:List Expr}{pos:Pos}
end
end D
namespace Q
open PySem PySem.Spec PyProof.Rows L2 D
section
variable {X:Cx}{sc:Scope}{own:List Str}{fr:List Nat}{di:TId}{g:TGd}{tt:TTd}{tk tv:TD}{tg iter kx vx:Expr}{ifs:List Expr}{pos:Pos}
end
end Q
namespace D
open PySem PySem.Spec PyProof.Rows L2
section
variable {X:Cx}{C:Addr}{o value:Expr}{fn:Str}{pos tpos:Pos}{td tv:TD}
noncomputable def dFldAug (C:Addr)(td tv:TD)(fn:Str)(f:Int->Int->Int)(D:Ed)(τ:DS)(M:MH):Prop:=td τ M λ w M1=>∃ a fs i,w=.m a/\M1 a=some (.ins C fs)/\fs.lookup fn=some (.d (.int i)) /\
 tv τ M1 λ y M2=>∃ j fs',y=.d (.int j)/\M2 a=some (.ins C fs')/\fs'.length < 1000/\D.nx τ (updM M2 a (.ins C (putW fn (.d (.int (f i j))) fs')))
theorem psd_fldaug0 {op:Operator}{f:Int->Int->Int}(c:Cls X.K C)(n:NoAttr X.K C fn)(ha:PD X o td)(hv:PD X value tv)(hop:PIp X op (ipI f)):PSd X (.AugAssign (.Attribute o fn tpos) op value pos) (dFldAug C td tv fn f) :=
 ps_w (ps_fldaug (rd:=ipI f) ha hv hop) λ D σ H h=>by
  obtain ⟨τ,M,Dd,A,h,k1,_⟩:=h
  refine ⟨τ,M,_,A,h,λ x H1 w M1 kp1 r1 m1 hq97=>?_⟩
  obtain ⟨a,fs,i,ew,hm,hl,q1⟩:=hq97
  subst ew
  obtain ⟨dx,l,e,pr⟩:=m1 _ _ hm
  have g:=fr_lookup fn pr
  rw [hl] at g
  obtain ⟨b,eb,rb⟩:=OR.some_of g
  simp only [RepW,RepD] at rb
  subst rb
  refine ⟨a,C,dx,l,_,r1,e,c,n,eb,τ,M1,_,A.go kp1 m1,q1,λ y H2 wy M2 kp2 r2 m2 hq98=>?_⟩
  obtain ⟨j,fs',ey,hm2,hl2,q2⟩:=hq98
  subst ey
  simp only [RepW,RepD] at r2
  subst r2
  obtain ⟨dx2,l2,e2,pr2⟩:=m2 _ _ hm2
  refine ⟨i,j,rfl,rfl,dx2,l2,e2,by rw [<- fr_len pr2]; exact hl2,?_⟩
  have kp4:Kp H2 (upd H2 a (.ins C dx2 (putF fn (.int (f i j)) l2))):=Kp.set e2 (λ _ z=>nomatch z) (λ _ _ z=>nomatch z)
  refine k1 _ _ _ _ ((kp1.trans kp2).trans kp4) (A.go ((kp1.trans kp2).trans kp4) (m2.put (mo:=.ins C (putW fn (.d (.int (f i j))) fs')) kp4 ⟨dx2,_,upd_same,?_⟩)) q2
  exact FRep.keep kp4 (fr_put fn (w:=.d (.int (f i j))) (by simp [RepW,RepD]) pr2)
end
end D
namespace Q
open PySem PySem.Spec PyProof.Rows L2 D
section
variable {X:Cx}{C:Addr}{o value:Expr}{fn:Str}{pos tpos:Pos}{td tv:TD}
theorem psd_fldaug {op:Operator}{f:Int->Int->Int}(c:Cls X.K C)(n:NoAttr X.K C fn)(ha:Jd (PD X o td))(hv:Jd (PD X value tv))(hop:PIp X op (ipI f)):Jd (PSd X (.AugAssign (.Attribute o fn tpos) op value pos) (dFldAug C td tv fn f)):=⟨D.psd_fldaug0 c n ha.h hv.h hop⟩
end
end Q
namespace D
open PySem PySem.Spec PyProof.Rows L2
section
variable {X:Cx}{tg o:Expr}{apos cpos:Pos}{td:TE}
end
section
variable {X:Cx}{K:PySem.W.Frag}{tg o:Expr}{apos cpos:Pos}{td:TD}
end
end D
namespace Q
open PySem PySem.Spec PyProof.Rows L2 D
section
variable {X:Cx}{tg o:Expr}{apos cpos:Pos}{td:TD}
end
end Q
namespace D
open PySem PySem.Spec PyProof.Rows L2
section
variable {X:Cx}{K:PySem.W.Frag}
end
end D
namespace D
open PySem PySem.Spec PyProof.Rows L2
section
variable {X:Cx}{o:Expr}{to:TE}{apos cpos p pos:Pos}
end
section
variable {X:Cx}{o:Expr}{td:TD}{apos cpos p pos:Pos}
namespace Q
end Q
end
end D
namespace PySem
namespace Dp
theorem entry_upd:entryFor table "dict.update.loop" = some Builtin.«dict.update.loop»:=entryFor_of_tree (by kernel_rfl)
theorem plain_upd:plainId "dict.update.loop" = true:=by decide +kernel
section
variable {prog:Program}{w:World}{A:Around}{E:Value->Shared->Prop}{s:Shared}
variable {K:Type}[DecidableEq K]{knd:KeyKind prog w K}
theorem loop {I D l:Addr}{items:Array Value}{kvs:List (K×Value)}{R:Result->Shared->Prop}{h0:Heap}(hh:A.handled=none)(hDI:D≠I)(hDl:D≠l)(hlI:l≠I)(hsz:kvs.length<=sizeLine)(hlen:items.size=kvs.length)
  (ht:∀ i (hi:i < kvs.length),∃ a key k dct sl,items[i]? = some (.ref a)/\a≠D/\a≠I/\knd.is kvs[i].1 key=true/\h0.get? a=some { cls:=.type "tuple",dict:=dct,data:=.seq #[key,kvs[i].2] k,slots:=sl }) :
  ∀ (j i:Nat) (s:Shared),kvs.length - i=j->i<=kvs.length->s.heap.IsListIter I l i->s.heap.IsList l items->s.heap.DictOf knd D (merged [] (kvs.take i))->(∀ b o,b≠D->b≠I->h0.get? b=some o->s.heap.get? b=some o) ->
   (∀ h' tk,h'.DictOf knd D (merged [] kvs)->(∀ b o,b≠D->b≠I->h0.get? b=some o->h'.get? b=some o)->R (.ok (.ret .none)) { s with heap:=h',toks:=tk }) ->
   codeAny (model prog w) A (.builtin "dict.update.loop" ⟨[.ref D,.ref I,rawInt i,.none],[]⟩) R s:=by
 intro j
 induction j with
 | zero =>
  intro i s hj hi hit hl hd hk hR
  have hin:i=kvs.length:=by omega
  subst hin
  refine codeAny_builtin entry_upd ?_
  rw [Around.under_plainId plain_upd _]
  show wpAny _ A.in1 (pyNext (.ref I) >>= _) _ _ s
  refine wpAny_bind (wpAny_pyNext_list_end (by simpa using hh) hit hl (by simp [hlen]) λ h' he'=>?_)
  show wpAny _ A.in1 (Builtin.Dict.addKeywords D [] >>= _) _ _ _
  refine wpAny_bind (wpAny_pure (wpAny_pure ?_))
  rw [List.take_length] at hd
  refine hR h' s.toks ?_ λ b o b1 b2 e=>he' b o b2 (hk b o b1 b2 e)
  obtain ⟨o,es,ep,ho,rest⟩:=hd
  exact ⟨o,es,ep,he' D o hDI ho,rest⟩
 | succ j ih =>
  intro i s hj hi hit hl hd hk hR
  have hlt:i < kvs.length:=by omega
  obtain ⟨a,key,k,dct,sl,e1,a1,a2,hkey,e2⟩:=ht i hlt
  refine codeAny_builtin entry_upd ?_
  rw [Around.under_plainId plain_upd _]
  show wpAny _ A.in1 (pyNext (.ref I) >>= _) _ _ s
  refine wpAny_bind (wpAny_pyNext_list_item hit hl e1 λ h' hit' hs'=>?_)
  have e3:h'.get? a=some { cls:=.type "tuple",dict:=dct,data:=.seq #[key,kvs[i].2] k,slots:=sl }:=hs'.extBut a _ a2 (hk a _ a1 a2 e2)
  have hT:Shared.TypeIs { s with heap:=h' } (.ref a) "tuple" := ⟨_,e3,rfl⟩
  have hd':h'.DictOf knd D (merged [] (kvs.take i)):=by
   obtain ⟨o,es,ep,ho,rest⟩:=hd
   exact ⟨o,es,ep,hs'.extBut D o hDI ho,rest⟩
  have hl':h'.IsList l items:=hl.extBut hs'.extBut hlI
  show wpAny _ A.in1 (holding [Value.ref a] _ >>= _) _ _ _
  refine wpAny_bind (wpAny_holding ?_)
  refine wpAny_bind (m:=tryCatch (Builtin.Dict.pairItems (.ref a)) _) (wpAny_tryCatch ?_)
  unfold Builtin.Dict.pairItems
  refine wpAny_bind (wpAny_typeOf hT ?_)
  rw [if_pos (by decide)]
  unfold seqItems?
  obtain ⟨hp,g,d,tk,os⟩:=s
  generalize hDS:dictSet=DS
  repeat (any_goals (first | assumption | wp_step))
  subst hDS
  have hl2:(merged [] (kvs.take i)).length<=sizeLine:=by have:=merged_length_le [] (kvs.take i); simp at this; omega
  refine wpAny_dictSet_pairs (hsz:=hl2) hkey hd' λ h2 hd2 hs2=>?_
  refine wpAny_pure ⟨plainId_quiet plain_upd _,ih (i+1) _ (by omega) hlt ?_ ?_ ?_ ?_ ?_⟩
  ·exact hit'.at λ o e=>hs2.extBut I o (Ne.symm hDI) e
  ·exact hl'.extBut hs2.extBut (Ne.symm hDl)
  ·rw [merged_take_succ [] kvs i kvs[i] (List.getElem?_eq_getElem hlt)]
   exact hd2
  ·exact λ b o b1 b2 e=>hs2.extBut b o b1 (hs'.extBut b o b2 (hk b o b1 b2 e))
  ·exact λ h' tk d k=>hR h' tk d k
end
end Dp
end PySem
namespace D
open PySem PySem.Spec PyProof.Rows L2
section
variable {X:Cx}{K:PySem.W.Frag}
end
end D
namespace Stc
open PySem PySem.Spec PyProof.Rows L2 D Rc
end Stc
namespace D
open PySem PySem.Spec PyProof.Rows L2
section
variable {X:Cx}{K:PySem.W.Frag}
noncomputable def rSetD:V->V->V->Hp->(Hp->Prop)->Prop:=λ o i v H Q=>∃ a H',o=.ref a/\DPut H a i v H'/\Q H'
theorem set_dict (hu:X.A.units+1 < cLine):PSet X rSetD:=by
 intro pins s σ H o i v ov iv u Q I ro ri rv h
 obtain ⟨a,H',rfl,g,q⟩:=h
 obtain rfl:ov=Value.ref a:=ro
 exact d_setItem hu I g ri rv λ s4 I4=>⟨H',I4,q⟩
theorem Abs.back {H:Hp}{σ:St}{τ:DS}{M:MH}{a:Addr}{o:Obj}{l:List (Key×V)}{kvs:List (Key×W)}(h:H a=some (.frz o (.frz o (.dK l))))(A:Abs K H σ τ M)(e:M a=some (.fdic kvs)):Abs K (upd H a (.dK l)) σ τ (updM M a (.dic kvs)) :=
 ⟨A.len,λ i w q=>let ⟨v,q1,r⟩:=A.val i w q; ⟨v,q1,RepW.back h r⟩,MAbs.back h A.mem e⟩
end
namespace Q
section
variable {X:Cx}{pos:Pos}
end
end Q
end D
namespace S
open PySem PySem.W PyProof.Rows
section
variable {N:Nat}
noncomputable def PR (N:Nat)(p:Array Nat):Prop:=p.Perm (List.toArray (List.range N))
theorem PR.low (hN:1<=N){p:Array Nat}(h:PR N p):Low N p:=.of hN λ x hx=>by
 have:=(Array.perm_iff_toList_perm.mp h).mem_iff.mp hx
 simpa using this
end
end S
namespace D
open PySem PySem.Spec PyProof.Rows L2 S
section
variable {X:Cx}{K:PySem.W.Frag}
end
end D
namespace D
open PySem PySem.Spec PyProof.Rows L2
mutual
noncomputable def RepN (K:PySem.W.Frag)(H:Hp):PyData->V->Prop
 | .list ds,x=>RepD K H (.list ds) x\/∃ a vs,x=.ref a/\H a=some (.lst vs)/\RepNs K H ds vs
 | .tuple ds,x=>∃ a vs,x=.ref a/\SqT K H a vs/\RepNs K H ds vs
 | .none,x=>RepD K H .none x
 | .bool b,x=>RepD K H (.bool b) x
 | .int i,x=>RepD K H (.int i) x
 | .str z,x=>RepD K H (.str z) x
 | .dict kvs,x=>RepD K H (.dict kvs) x
noncomputable def RepNs (K:PySem.W.Frag)(H:Hp):List PyData->List V->Prop
 | [],l=>l=[]
 | d :: ds,l=>∃ v r,l=v :: r/\RepN K H d v/\RepNs K H ds r
end
mutual
theorem RepN.of {K:PySem.W.Frag}{H:Hp}:∀ {d:PyData} {x:V},RepD K H d x->RepN K H d x
 | .list ds,x,h=>by unfold RepN; exact .inl h
 | .tuple ds,x,h=>by
  unfold RepN
  simp only [RepD] at h
  obtain ⟨a,vs,e,s,r⟩:=h
  exact ⟨a,vs,e,s,RepNs.of r⟩
 | .none,x,h=>by unfold RepN; exact h
 | .bool b,x,h=>by unfold RepN; exact h
 | .int i,x,h=>by unfold RepN; exact h
 | .str z,x,h=>by unfold RepN; exact h
 | .dict kvs,x,h=>by unfold RepN; exact h
theorem RepNs.of {K:PySem.W.Frag}{H:Hp}:∀ {ds:List PyData} {xs:List V},RepA K H ds xs->RepNs K H ds xs
 | [],xs,h=>by unfold RepNs; simpa [RepA] using h
 | d :: ds,xs,h=>by
  unfold RepNs
  simp only [RepA] at h
  obtain ⟨v,r,e,h1,h2⟩:=h
  exact ⟨v,r,e,RepN.of h1,RepNs.of h2⟩
end
noncomputable def Tw (H H':Hp):Prop:=Kp H H'/\∀ b vs,H b=some (.lst vs)->H' b=some (.lst vs)\/∃ o,H' b=some (.frz o (.lst vs))
theorem Tw.refl (H:Hp):Tw H H:=⟨Kp.refl H,λ _ _ e=>.inl e⟩
theorem Tw.trans {A B C:Hp}(h:Tw A B)(k:Tw B C):Tw A C:=⟨h.1.trans k.1,λ b vs e=>by
 rcases h.2 b vs e with q | ⟨o,q⟩
 ·exact k.2 b vs q
 ·exact .inr ⟨o,k.1.frz b o _ q⟩⟩
section
variable {X:Cx}{pins:List (Addr×Obj)}{σ:St}{s:Shared}
end
end D
namespace D
open PySem PySem.Spec PyProof.Rows L2
section
variable {X:Cx}{pins:List (Addr×Obj)}{σ:St}{H:Hp}{s:Shared}
end
section
variable {X:Cx}
end
noncomputable def DatN (M:MH):Nat->W->PyData->Prop
 | 0,w,d=>w=.d d
 | n+1,w,d=>w=.d d\/(∃ a ws ds,w=.m a/\M a=some (.lst ws)/\d=.list ds/\Paired (DatN M n) ws ds)\/∃ a ws ds,w=.m a/\M a=some (.tup ws)/\d=.tuple ds/\Paired (DatN M n) ws ds
theorem DatN.d {M:MH}{x:PyData}:∀ {n:Nat},DatN M n (.d x) x
 | 0=>rfl
 | _+1=>.inl rfl
theorem DatN.l {M:MH}{n:Nat}{a:Addr}{ws:List W}{ds:List PyData}(h:M a=some (.lst ws))(r:Paired (DatN M n) ws ds):DatN M (n+1) (.m a) (.list ds):=.inr (.inl ⟨a,ws,ds,rfl,h,rfl,r⟩)
theorem DatN.t {M:MH}{n:Nat}{a:Addr}{ws:List W}{ds:List PyData}(h:M a=some (.tup ws))(r:Paired (DatN M n) ws ds):DatN M (n+1) (.m a) (.tuple ds):=.inr (.inr ⟨a,ws,ds,rfl,h,rfl,r⟩)
theorem DatN.ds {M:MH}{n:Nat}:∀ (ds:List PyData),Paired (DatN M n) (ds.map W.d) ds
 | []=>.nil
 | _ :: ds=>.cons DatN.d (DatN.ds ds)
theorem repNs_of {K:PySem.W.Frag}{H:Hp}{M:MH}{n:Nat}(h:∀ w d x,DatN M n w d->RepW K H w x->RepN K H d x):∀ {ws:List W} {ds:List PyData} {vs:List V},Paired (DatN M n) ws ds->RepWs K H ws vs->RepNs K H ds vs
 | _,_,_,.nil,.nil=>by unfold RepNs; rfl
 | _,_,_,.cons a b,.cons c e=>by
  unfold RepNs
  exact ⟨_,_,rfl,h _ _ _ a c,repNs_of h b e⟩
theorem DatN.sound {K:PySem.W.Frag}{H:Hp}{M:MH}(m:MAbs K H M):∀ (n:Nat) (w:W) (d:PyData) (x:V),DatN M n w d->RepW K H w x->RepN K H d x
 | 0,w,d,x,g,r=>by
  have g':w=.d d:=g
  subst g'
  exact RepN.of r
 | n+1,w,d,x,g,r=>by
  rcases g with g | ⟨a,ws,ds,rfl,h,rfl,p⟩ | ⟨a,ws,ds,rfl,h,rfl,p⟩
  ·subst g
   exact RepN.of r
  ·obtain ⟨vs,e,rw⟩:=m _ _ h
   unfold RepN
   exact .inr ⟨a,vs,r,e,repNs_of (DatN.sound m n) p rw⟩
  ·obtain ⟨vs,e,rw⟩:=m _ _ h
   unfold RepN
   exact ⟨a,vs,r,.inl (.inl e),repNs_of (DatN.sound m n) p rw⟩
section
variable {X:Cx}{K:PySem.W.Frag}
end
end D
namespace D
open PySem PySem.Spec PyProof.Rows L2
section
variable {X:Cx}{pins:List (Addr×Obj)}{σ:St}{H H0:Hp}{s s0:Shared}
theorem base_ofL {a:Addr}{l:List V}(I:Inv X pins σ H s)(h:H a=some (.lst l)):(∀ xs,X.H₀ a≠some (.tup xs))/\(∀ o v,X.H₀ a≠some (.frz o v))/\∀ ps,X.H₀ a≠some (.tbl ps):=by
 refine ⟨λ xs e=>?_,λ o v e=>?_,λ ps e=>?_⟩
 ·have:=I.base.tups a xs e; rw [h] at this; cases this
 ·have:=I.base.frzs a o v e; rw [h] at this; cases this
 ·obtain ⟨m,this⟩:=I.base.tbls a ps e; rw [h] at this; cases this
theorem Inv.stillL {a:Addr}{l:List V}(I:Inv X pins σ H s)(h:H a=some (.lst l)):∃ o,Inv X pins σ (upd H a (.frz o (.frz o (.lst l)))) s:=by
 have f:Fz (.lst l):=trivial
 obtain ⟨o,ho⟩:=(I.hok a _ h).obj f
 obtain ⟨b1,b2,b3⟩:=base_ofL I h
 exact ⟨o,Inv.swap I h (λ _ z=>nomatch z) (λ _ z=>nomatch z) b1 b2 b3 ⟨ho,ho,(I.hok a _ h).anyH f⟩⟩
theorem Inv.againL {σ0:St}{a:Addr}{o:Obj}{l:List V}(I0:Inv X pins σ0 H0 s0)(h0:H0 a=some (.lst l))(I:Inv X pins σ H s)(h:H a=some (.frz o (.frz o (.lst l)))):Inv X pins σ (upd H a (.lst l)) s:=by
 have f:Fz (.lst l):=trivial
 obtain ⟨b1,b2,b3⟩:=base_ofL I0 h0
 exact Inv.swap I h (λ _ z=>nomatch z) (λ _ z=>nomatch z) b1 b2 b3 ((I.hok a _ h).2.2.anyH f)
end
noncomputable def sStillL (t:TS):TS:=λ D σ H=>∃ a l,H a=some (.lst l)/\∀ o,t
 {nx:=λ σ' H'=>H' a=some (.frz o (.frz o (.lst l)))/\D.nx σ' (upd H' a (.lst l)),rt:=λ v H'=>H' a=some (.frz o (.frz o (.lst l)))/\D.rt v (upd H' a (.lst l)),
  bk:=λ σ' H'=>H' a=some (.frz o (.frz o (.lst l)))/\D.bk σ' (upd H' a (.lst l)),ct:=λ σ' H'=>H' a=some (.frz o (.frz o (.lst l)))/\D.ct σ' (upd H' a (.lst l)) } σ (upd H a (.frz o (.frz o (.lst l))))
theorem ps_stillL {X:Cx}{st:Stmt}{t:TS}(h:PS X st t):PS X st (sStillL t):=by
 intro pins s σ H D I ⟨a,l,ha,q⟩
 obtain ⟨o,I1⟩:=Inv.stillL I ha
 refine thn (h pins s σ _ _ I1 (q o)) λ f s1 hf=>?_
 cases f with
 | next=>obtain ⟨σ',H',I2,e,q2⟩:=hf; exact ⟨σ',_,Inv.againL I ha I2 e,q2⟩
 | brk=>obtain ⟨σ',H',I2,e,q2⟩:=hf; exact ⟨σ',_,Inv.againL I ha I2 e,q2⟩
 | cont=>obtain ⟨σ',H',I2,e,q2⟩:=hf; exact ⟨σ',_,Inv.againL I ha I2 e,q2⟩
 | ret u=>obtain ⟨v,σ',H',I2,r,e,q2⟩:=hf; exact ⟨v,σ',_,Inv.againL I ha I2 e,r,q2⟩
section
variable {K:PySem.W.Frag}{H:Hp}{a:Addr}{o:Obj}{l:List V}
theorem Kp.backL (h:H a=some (.frz o (.frz o (.lst l)))):(∀ b xs,H b=some (.tup xs)->upd H a (.lst l) b=some (.tup xs))/\(∀ b ob ys,H b=some (.frz ob (.lst ys))->upd H a (.lst l) b=some (.frz ob (.lst ys)))/\∀ b ob ys,H b=some (.frz ob (.dK ys))->upd H a (.lst l) b=some (.frz ob (.dK ys)):=by
 refine ⟨λ b xs e=>?_,λ b ob ys e=>?_,λ b ob ys e=>?_⟩ <;>
 ·rw [upd_ne (λ z=>by rw [z,h] at e; cases e)]; exact e
theorem SqT.backL {b:Addr}{vs:List V}(h:H a=some (.frz o (.frz o (.lst l))))(r:SqT K H b vs):SqT K (upd H a (.lst l)) b vs:=by
 rcases r with (r | ⟨ob,r⟩) | r
 ·exact .inl (.inl ((Kp.backL h).1 _ _ r))
 ·refine .inl (.inr ⟨ob,?_⟩)
  rw [upd_ne (λ z=>by rw [z,h] at r; cases r)]; exact r
 ·exact .inr r
theorem SqF.backL {b:Addr}{vs:List V}(h:H a=some (.frz o (.frz o (.lst l))))(r:SqF K H b vs):SqF K (upd H a (.lst l)) b vs:=by
 rcases r with ⟨ob,r⟩ | r
 ·exact .inl ⟨ob,(Kp.backL h).2.1 _ _ _ r⟩
 ·exact .inr r
mutual
theorem RepD.backL (h:H a=some (.frz o (.frz o (.lst l)))):∀ {d:PyData} {v:V},RepD K H d v->RepD K (upd H a (.lst l)) d v
 | .none,v,r=>by simp only [RepD] at r ⊢; exact r
 | .bool b,v,r=>by simp only [RepD] at r ⊢; exact r
 | .int i,v,r=>by simp only [RepD] at r ⊢; exact r
 | .str x,v,r=>by simp only [RepD] at r ⊢; exact r
 | .list ds,v,r=>by
  simp only [RepD] at r ⊢
  obtain ⟨b,vs,e,q,r⟩:=r
  exact ⟨b,vs,e,SqF.backL h q,RepA.backL h r⟩
 | .tuple ds,v,r=>by
  simp only [RepD] at r ⊢
  obtain ⟨b,vs,e,q,r⟩:=r
  exact ⟨b,vs,e,SqT.backL h q,RepA.backL h r⟩
 | .dict kvs,v,r=>by
  simp only [RepD] at r ⊢
  obtain ⟨b,ob,m,e,q,r⟩:=r
  exact ⟨b,ob,m,e,(Kp.backL h).2.2 _ _ _ q,RepK.backL h r⟩
theorem RepA.backL (h:H a=some (.frz o (.frz o (.lst l)))):∀ {ds:List PyData} {vs:List V},RepA K H ds vs->RepA K (upd H a (.lst l)) ds vs
 | [],vs,r=>by simp only [RepA] at r ⊢; exact r
 | d :: ds,vs,r=>by
  simp only [RepA] at r ⊢
  obtain ⟨v,q,e,h1,h2⟩:=r
  exact ⟨v,q,e,RepD.backL h h1,RepA.backL h h2⟩
theorem RepK.backL (h:H a=some (.frz o (.frz o (.lst l)))):∀ {ds:List (PyData×PyData)} {m:List (Key×V)},RepK K H ds m->RepK K (upd H a (.lst l)) ds m
 | [],m,r=>by simp only [RepK] at r ⊢; exact r
 | (key,d) :: ds,m,r=>by
  simp only [RepK] at r ⊢
  obtain ⟨k',v,q,e,ek,h1,h2⟩:=r
  exact ⟨k',v,q,e,ek,RepD.backL h h1,RepK.backL h h2⟩
end
theorem RepW.backL (h:H a=some (.frz o (.frz o (.lst l)))):∀ {w:W} {v:V},RepW K H w v->RepW K (upd H a (.lst l)) w v
 | .d _,_,r=>RepD.backL h r
 | .m _,_,r=>r
 | .t _,_,r=>r
theorem MAbs.backL {M:MH}{ws0:List W}(h:H a=some (.frz o (.frz o (.lst l))))(m:MAbs K H M)(e:M a=some (.flst ws0)):MAbs K (upd H a (.lst l)) (updM M a (.lst ws0)):=λ b mo q=>by
 by_cases hb:b=a
 ·subst hb
  rw [updM_same] at q
  cases q
  obtain ⟨o',l',e',pr⟩:=m _ _ e
  rw [h] at e'
  cases e'
  exact ⟨l,upd_same,Paired.mapP pr λ _ _ z=>RepW.backL h z⟩
 ·rw [updM_ne hb] at q
  have r:=m b mo q
  cases mo with
  | lst ws=>obtain ⟨vs,e,r⟩:=r; exact ⟨vs,by rw [upd_ne hb]; exact e,Paired.mapP r λ _ _ z=>RepW.backL h z⟩
  | dic kvs=>obtain ⟨l,e,r⟩:=r; exact ⟨l,by rw [upd_ne hb]; exact e,Paired.mapP r λ p q z=>⟨z.1,RepW.backL h z.2⟩⟩
  | dct kvs=>obtain ⟨l,e,r⟩:=r; exact ⟨l,by rw [upd_ne hb]; exact e,Paired.mapP r λ p q z=>⟨z.1,RepW.backL h z.2⟩⟩
  | fdic kvs=>obtain ⟨o,l,e,r⟩:=r; exact ⟨o,l,by rw [upd_ne hb]; exact e,Paired.mapP r λ p q z=>⟨z.1,RepW.backL h z.2⟩⟩
  | ins C fs=>obtain ⟨dx,l,e,r⟩:=r; exact ⟨dx,l,by rw [upd_ne hb]; exact e,Paired.mapP r λ p q z=>⟨z.1,RepW.backL h z.2⟩⟩
  | tup ws=>obtain ⟨vs,e,r⟩:=r; exact ⟨vs,by rw [upd_ne hb]; exact e,Paired.mapP r λ _ _ z=>RepW.backL h z⟩
  | flst ws=>obtain ⟨o,vs,e,r⟩:=r; exact ⟨o,vs,by rw [upd_ne hb]; exact e,Paired.mapP r λ _ _ z=>RepW.backL h z⟩
  | exc C fs =>
   obtain ⟨φ,dct,e,p,r⟩:=r
   refine ⟨φ,dct,by rw [upd_ne hb]; exact e,p,?_⟩
   rcases r with r | ⟨dx,o',l',e1,e2,r⟩
   ·exact .inl r
   ·exact .inr ⟨dx,o',l',e1,by rw [upd_ne (λ z=>by rw [z,h] at e2; cases e2)]; exact e2,Paired.mapP r λ p q z=>⟨z.1,RepW.backL h z.2⟩⟩
  | code q pos =>
   obtain ⟨ps,e,ht,hc⟩:=r
   refine ⟨ps,by rw [upd_ne hb]; exact e,ht,?_⟩
   rcases hc with hc | ⟨c,o',vs,t,e1,e2,e3⟩
   ·exact .inl hc
   ·exact .inr ⟨c,o',vs,t,e1,by rw [upd_ne (λ z=>by rw [z,h] at e2; cases e2)]; exact e2,e3⟩
theorem Abs.backL {σ:St}{τ:DS}{M:MH}{ws0:List W}(h:H a=some (.frz o (.frz o (.lst l))))(A:Abs K H σ τ M)(e:M a=some (.flst ws0)):Abs K (upd H a (.lst l)) σ τ (updM M a (.lst ws0)) :=
 ⟨A.len,λ i w q=>let ⟨v,q1,r⟩:=A.val i w q; ⟨v,q1,RepW.backL h r⟩,MAbs.backL h A.mem e⟩
end
theorem kp_backL {H H':Hp}{a:Addr}{o:Obj}{l:List V}(e:H a=some (.lst l))(kp':Kp (upd H a (.frz o (.frz o (.lst l)))) H'):Kp H (upd H' a (.lst l)):=⟨λ b xs z=>by
  have hb:b≠a:=λ y=>by rw [y,e] at z; cases z
  rw [upd_ne hb]
  exact kp'.tup b xs (by rw [upd_ne hb]; exact z),λ b ob u z=>by
  have hb:b≠a:=λ y=>by rw [y,e] at z; cases z
  rw [upd_ne hb]
  exact kp'.frz b ob u (by rw [upd_ne hb]; exact z)⟩
noncomputable def dStillLS (t:TSd)(D:Ed)(τ:DS)(M:MH):Prop:=∃ a ws,M a=some (.lst ws)/\t
 {nx:=λ τ' M'=>M' a=some (.flst ws)/\D.nx τ' (updM M' a (.lst ws)),rt:=λ w M'=>M' a=some (.flst ws)/\D.rt w (updM M' a (.lst ws)),
  bk:=λ τ' M'=>M' a=some (.flst ws)/\D.bk τ' (updM M' a (.lst ws)),ct:=λ τ' M'=>M' a=some (.flst ws)/\D.ct τ' (updM M' a (.lst ws)) } τ (updM M a (.flst ws))
theorem psd_stillL0 {X:Cx}{st:Stmt}{t:TSd}(h:PSd X st t):PSd X st (dStillLS t):=ps_w (ps_stillL h) λ D σ H hq99=>by
 obtain ⟨τ,M,Dd,A,⟨a,ws,hm,q⟩,k1,k2,k3,k4⟩:=hq99
 obtain ⟨l,e,pr⟩:=A.mem _ _ hm
 refine ⟨a,l,e,λ o=>?_⟩
 have kp:Kp H (upd H a (.frz o (.frz o (.lst l)))):=Kp.set e (λ _ z=>nomatch z) (λ _ _ z=>nomatch z)
 have m1:MAbs X.K (upd H a (.frz o (.frz o (.lst l)))) (updM M a (.flst ws)):=A.mem.put (mo:=.flst ws) kp ⟨o,l,upd_same,RepWs.keep kp pr⟩
 refine ⟨τ,_,_,A.go kp m1,q,?_,?_,?_,?_⟩
 ·rintro σ' H' τ' M' kp' A' ⟨h1,q1⟩
  have e':=kp'.frz a o _ upd_same
  exact ⟨e',k1 _ _ _ _ (kp_backL e kp') (Abs.backL e' A' h1) q1⟩
 ·rintro v H' w M' kp' r' m' ⟨h1,q1⟩
  have e':=kp'.frz a o _ upd_same
  exact ⟨e',k2 _ _ _ _ (kp_backL e kp') (RepW.backL e' r') (MAbs.backL e' m' h1) q1⟩
 ·rintro σ' H' τ' M' kp' A' ⟨h1,q1⟩
  have e':=kp'.frz a o _ upd_same
  exact ⟨e',k3 _ _ _ _ (kp_backL e kp') (Abs.backL e' A' h1) q1⟩
 ·rintro σ' H' τ' M' kp' A' ⟨h1,q1⟩
  have e':=kp'.frz a o _ upd_same
  exact ⟨e',k4 _ _ _ _ (kp_backL e kp') (Abs.backL e' A' h1) q1⟩
noncomputable abbrev stillF (o:Obj)(l:List V):HO:=.frz o (.frz o (.lst l))
theorem stillF_at {P:Program}{w:World}{H:Hp}{h:Heap}{a:Addr}{o:Obj}{l:List V}(ok:HOk P w H h)(e:H a=some (stillF o l)):∃ its:List Value,Vals l its/\h.IsList a its.toArray:=by
 obtain ⟨ho,_,z,its,n,r,h1⟩:=ok a _ e
 exact ⟨its,r,⟨_,h1,rfl,n,rfl⟩⟩
noncomputable def Itf (a:Addr)(o:Obj)(l:List V):It :=
 ⟨λ i H=>H a=some (stillF o l)/\i < l.length,λ i H x H'=>H'=H/\l[i]? = some x,λ i H=>H a=some (stillF o l)/\l.length<=i⟩
theorem turn_flist {P:Program}{w:World}{K:PySem.W.Frag}{tg:Expr}(a it:Addr)(o:Obj)(l:List V):Turn P w K tg (Itf a o l) [it] it (λ i h=>h.IsListIter it a i) where
 mem:=by simp
 obj:=λ i h st b hb=>by
  have e:b=it:=by simpa using hb
  subst e
  obtain ⟨o,e,c,d⟩:=st
  exact ⟨o,e,λ v z=>by rw [d] at z; cases z⟩
 keep:=λ i h h' st k=>st.at λ o e=>k it (by simp) o e
 item:=by
  intro X hP hw hK hc i pins s σ H E I hf st ⟨hg,hi⟩
  subst hP hw hK
  obtain ⟨its,rv,p⟩:=stillF_at I.hok hg
  obtain ⟨u,hu,ru⟩:=rv.get (List.getElem?_eq_getElem hi)
  obtain ⟨f0,f1,f2,f3,f4,f5⟩:=hf it (by simp)
  refine wpAny_pyNext_list_item st p (x:=u) (by simpa using hu) λ h' st' sb=>?_
  have I1:Inv X pins σ H { s with heap:=h' }:=I.turned (t':=s.toks) (λ b o hb e=>(sb.2 b hb).trans e) f0 f1 f3 f4 f5
  obtain ⟨o,e,c,d⟩:=id st'
  exact ⟨u,rfl,go_of (s:={ s with heap:=h' }) e c d (by decide) ⟨_,H,I1,ru,⟨rfl,List.getElem?_eq_getElem hi⟩,st',λ b hb=>(hf b hb).1⟩⟩
 done:=by
  intro X hP hw hK hc i pins s σ H E I hf st ⟨hg,hi⟩
  subst hP hw hK
  obtain ⟨its,rv,p⟩:=stillF_at I.hok hg
  obtain ⟨f0,f1,f2,f3,f4,f5⟩:=hf it (by simp)
  have hl:=rv.length
  exact wpAny_pyNext_list_end (I.ok.hd hc) st p (by simp; omega) λ h' eb=>⟨rfl,I.turned (t':=s.toks) (λ b o hb e=>eb b o hb e) f0 f1 f3 f4 f5⟩
 self:=λ _ _ _ _ _ st h=>wpAny_pyIter_listiter st h
section
variable {X:Cx}{K:PySem.W.Frag}{tg o:Expr}
noncomputable def iFlist (td:TE):TI:=λ σ H R=>td σ H λ x H1=>∃ a o l,x=.ref a/\H1 a=some (stillF o l)/\R (Itf a o l) H1
theorem pi_flist {td:TE}(ho:PE X o td):PI X tg o (iFlist td):=by
 intro pins s σ H R I h
 refine thn (ho pins s σ H _ I h) λ v s1 hq100=>?_
 obtain ⟨x,H1,I1,r1,a,ob,l,ex,hg,q⟩:=hq100
 subst ex
 cases r1
 obtain ⟨its,rv,p⟩:=stillF_at I1.hok hg
 refine wpAny_pyIter_list p ?_
 refine ⟨s1.heap.objs.size,[s1.heap.objs.size],_,_,H1,rfl,I1.kept (t':=s1.toks) λ b o e=>Heap.get?_push_of_some _ e,turn_flist a _ ob l,⟨_,Heap.get?_push_size _ rfl,rfl,rfl⟩,λ b hb=>?_,q⟩
 have e:b=s1.heap.objs.size:=by simpa using hb
 subst e
 exact I1.fpOk (Nat.le_refl _) (I1.hok.fresh (Nat.le_refl _))
noncomputable def dItemsF (td:TD)(τ:DS)(M:MH)(R:List W->MH->Prop):Prop:=td τ M λ w M1=>∃ a ws,w=.m a/\M1 a=some (.flst ws)/\R ws M1
theorem pid_itemsF0 {td:TD}(ho:PD X o td):PId X tg o (dItemsF td):=pi_w (pi_flist ho) λ σ H R hq101=>by
 obtain ⟨τ,M,Rd,A,h,k⟩:=hq101
 refine ⟨τ,M,_,A,h,λ v H1 w M1 kp r m hq102=>?_⟩
 obtain ⟨a,ws,ew,hm,q⟩:=hq102
 subst ew
 obtain ⟨ob,l,e,pr⟩:=m _ _ hm
 refine ⟨a,ob,l,r,e,k _ H1 _ M1 kp m (λ H2 kp2 i=>?_) q⟩
 have hl:=pr.length
 have e2:=kp2.frz a ob _ e
 refine ⟨λ hi=>⟨e2,by omega⟩,λ hi=>⟨e2,by omega⟩,λ x H' hi hq103=>?_⟩
 obtain ⟨eH,ex⟩:=hq103
 subst eH
 have hi2:i < ws.length:=hi
 obtain ⟨x',ex',rx⟩:=RepWs.get (RepWs.keep kp2 pr) (List.getElem?_eq_getElem hi2)
 rw [ex'] at ex
 cases ex
 exact ⟨Kp.refl _,λ M m=>m,ws[i],List.getElem?_eq_getElem hi2,rx⟩
end
end D
namespace D
open PySem PySem.Spec PyProof.Rows L2
section
variable {X:Cx}{o:Expr}{td:TD}{apos cpos:Pos}
end
namespace Q
section
variable {X:Cx}{pos:Pos}
theorem psd_stillL {st:Stmt}{t:TSd}(h:Jd (PSd X st t)):Jd (PSd X st (dStillLS t)):=⟨D.psd_stillL0 h.h⟩
end
end Q
end D
namespace D
open PySem PySem.Spec PyProof.Rows L2
section
variable {X:Cx}{tg iter elt:Expr}{pos:Pos}{sc:Scope}{own:List Str}{fr:List Nat}{di:TId}{g:TGd}{tt:TTd}{te:TD}{ifs:List Expr}
end
namespace Q
section
variable {X:Cx}{tg iter elt:Expr}{pos:Pos}{sc:Scope}{own:List Str}{fr:List Nat}{di:TId}{g:TGd}{tt:TTd}{te:TD}{ifs:List Expr}
end
end Q
end D
namespace D
open PySem
theorem len_0 {us:List Value}(h:us.length=0):us=[]:=by
 exact List.eq_nil_of_length_eq_zero h
theorem len_1 {us:List Value}(h:us.length=1):∃ a1:Value,us=[a1]:=by
 cases us with
 | nil=>simp at h
 | cons a r =>
  have e:r=[]:=len_0 (by simpa using h)
  subst e
  exact ⟨a,rfl⟩
theorem len_2 {us:List Value}(h:us.length=2):∃ a1 a2:Value,us=[a1,a2]:=by
 cases us with
 | nil=>simp at h
 | cons a r =>
  obtain ⟨b1,e⟩:=len_1 (us:=r) (by simpa using h)
  subst e
  exact ⟨a,b1,rfl⟩
theorem len_3 {us:List Value}(h:us.length=3):∃ a1 a2 a3:Value,us=[a1,a2,a3]:=by
 cases us with
 | nil=>simp at h
 | cons a r =>
  obtain ⟨b1,b2,e⟩:=len_2 (us:=r) (by simpa using h)
  subst e
  exact ⟨a,b1,b2,rfl⟩
end D
namespace D
open PySem PySem.Spec PyProof.Rows L2
section
variable {X:Cx}{K:PySem.W.Frag}
variable {o e f:Expr}{td te tf:TD}{apos cpos:Pos}
end
namespace Q
end Q
end D
namespace D
open PySem PySem.Spec PyProof.Rows L2
section
variable {X:Cx}{K:PySem.W.Frag}
end
section
variable {X:Cx}{K:PySem.W.Frag}
end
namespace Q
end Q
end D
namespace D
open PySem PySem.Spec PyProof.Rows L2
section
variable {K:PySem.W.Frag}
variable {X:Cx}{sc:Scope}{own:List Str}{fr:List Nat}{di:TId}{g:TGd}{tt:TTd}{te:TD}{tg iter elt:Expr}{ifs:List Expr}{pos:Pos}
end
section
variable {X:Cx}{tg iter elt:Expr}{pos:Pos}{sc:Scope}{own:List Str}{fr:List Nat}{di:TId}{g:TGd}{tt:TTd}{te:TD}{ifs:List Expr}
end
namespace Q
section
variable {X:Cx}{tg iter elt:Expr}{pos:Pos}{sc:Scope}{own:List Str}{fr:List Nat}{di:TId}{g:TGd}{tt:TTd}{te:TD}{ifs:List Expr}
variable {o:Expr}{td:TD}{apos cpos kpos kp:Pos}{j:Nat}
end
end Q
end D
namespace XO
open PySem PySem.Spec PyProof.Rows PySem.W Builtin.ObjectAttr
noncomputable def tailB:List Value:=[.type "ValueError",.type "Exception",.type "BaseException",.type "object"]
noncomputable def refsThen:List Value->Bool
 | .ref _ :: r=>refsThen r
 | l=>l == tailB
theorem refs_nil {l:List Value}(h:refsThen l=true):l.isEmpty=false:=by
 cases l with
 | nil=>exact absurd h (by decide)
 | cons _ _=>rfl
theorem refs_cases {l:List Value}(h:refsThen l=true):(∃ a r,l=.ref a :: r/\refsThen r=true)\/l=tailB:=by
 cases l with
 | nil=>exact absurd h (by decide)
 | cons v r =>
  cases v <;> first | exact .inl ⟨_,_,rfl,h⟩ | exact .inr (eq_of_beq (by simpa only [refsThen] using h))
theorem refs_has (T:String)(hT:tailB.contains (.type T)=true):∀ {l:List Value},refsThen l=true->l.contains (.type T)=true:=by
 intro l
 induction l with
 | nil=>intro h; exact absurd h (by decide)
 | cons v r ih =>
  intro h
  rcases refs_cases h with ⟨a,r',e,q⟩ | e
  ·cases e
   rw [List.contains_cons,ih q,Bool.or_true]
  ·rw [e]; exact hT
noncomputable def xcls (K:Frag)(C:Addr):Bool:=(clsIn K C).any λ cd=>cd.hasDict && refsThen cd.mro
theorem xcls_of {K:Frag}{C:Addr}(h:xcls K C=true):∃ cd,clsIn K C=some cd/\cd.hasDict=true/\refsThen cd.mro=true:=by
 obtain ⟨cd,e,q⟩:=any_some h
 simp only [Bool.and_eq_true] at q
 exact ⟨cd,e,q.1,q.2⟩
section
variable {prog:Program}{w:World}{A:Around}{E:Value->Shared->Prop}{s:Shared}{K:Frag}{x C:Addr}{name:Str}{v:Value}
end
end XO
namespace XO
open PySem PySem.Spec PyProof.Rows PySem.W Builtin.ObjectAttr
section
variable {prog:Program}{w:World}{A:Around}{E:Value->Shared->Prop}{s:Shared}{K:Frag}{x C:Addr}{name:Str}{v:Value}{ox:Obj}{od:Option Obj}
structure XC (K:Frag)(C:Addr):Prop where
 x:xcls K C=true
 sa:findIn K (.ref C) "__setattr__" = some (some (.builtin "object.__setattr__"))
 ga:findIn K (.ref C) "__getattribute__" = some (some (.builtin "BaseException.__getattribute__"))
 gt:findIn K (.ref C) "__getattr__" = some none
 cl:findIn K (.ref C) "__class__" = some (some (.builtin "object.__class__"))
 cg:specialIn K (.builtin "object.__class__") "__get__" = some (some (.builtin "getset_descriptor.__get__"))
 ct:takesIn K (.builtin "object.__class__")=some true
theorem XC.mro (c:XC K C):mroIn K C (.type "object")=some true:=by
 obtain ⟨cd,hc,_,hm⟩:=xcls_of c.x
 unfold mroIn
 rw [hc,Option.bind_some,if_neg (by rw [refs_nil hm]; decide),refs_has "object" (by decide) hm]
theorem XC.at (c:XC K C):∃ cd o dd sl,K.lookup C=some ⟨o,dd,.cls cd,sl⟩:=by
 obtain ⟨cd,hc,_,_⟩:=xcls_of c.x
 unfold clsIn at hc
 split at hc
 ·rename_i ho; exact ⟨_,_,_,_,ho⟩
 ·cases hc
theorem XC.look {M:Model}{h:Heap}(c:XC K C)(X:K.In h):Looks M h (isType (.ref C)) true:=by
 obtain ⟨cd,o,dd,sl,ho⟩:=c.at
 refine λ A' Q' E' s' k q=>?_
 unfold isType loadHead
 exact wpAny_bind (wpAny_loadPart (k _ _ (X _ _ ho)) (wpAny_pure q))
end
end XO
namespace XO
open PySem PySem.Spec PyProof.Rows PySem.W Builtin.ObjectAttr
section
variable {prog:Program}{w:World}{A:Around}{E:Value->Shared->Prop}{K:Frag}{C f:Addr}{h:Heap}{g:Array GenState}{d:Drawn}{t:Nat}{os:OsState}
end
end XO
namespace XO
open PySem PySem.Spec PyProof.Rows PySem.W
noncomputable abbrev xobj (C:Addr)(dct:Option Addr)(vs:Array Value):Obj:={ cls:=.ref C,dict:=dct,data:=.fields vs }
noncomputable def Tb (h:Heap)(e:Addr)(vs:Array Value):Prop:=vs[1]? = some .none\/∃ T oT ts,vs[1]? = some (.ref T)/\T≠e/\h.get? T=some oT/\oT.data=.fields ts/\ts[3]? = some .none
theorem Tb.size {h:Heap}{e:Addr}{vs:Array Value}(t:Tb h e vs):1 < vs.size:=by
 rcases t with z | ⟨_,_,_,z,_⟩ <;> exact (Array.getElem?_eq_some_iff.mp z).1
section
variable {M:Model}{A:Around}{E:Value->Shared->Prop}{s:Shared}{base:Heap}{env:PySem.Env}{outer:List PySem.Env}{L e C:Addr}{dct:Option Addr}{vs:Array Value}
end
end XO
namespace L2
open PySem PySem.Spec PyProof.Rows XO
noncomputable def XF (e C:Addr)(dct:Option Addr):Heap->Prop:=λ h=>∃ vs,h.get? e=some (xobj C dct vs)
noncomputable def Air (H:Hp)(h:Heap)(e:Addr):Prop:=∃ C dct vs,H e=some (.ext (XF e C dct))/\h.get? e=some (xobj C dct vs)/\Tb h e vs
section
variable {X:Cx}{pins:List (Addr×Obj)}{σ:St}{H:Hp}{s:Shared}{a:Addr}
end
section
variable {X:Cx}{CX:CXT}{k:Nat}{f C:Addr}{fd:FuncData}{ps:List Str}{sp:Sp}{E:XK}{pins:List (Addr×Obj)}{σ:St}{H:Hp}{s:Shared}{Q:VK}{us:List Value}{vs:List V}
end
end L2
namespace D
open PySem PySem.Spec PyProof.Rows L2 XO
noncomputable abbrev XQ:=Addr->MH->Prop
noncomputable abbrev XE:=Addr->DS->MH->Prop
noncomputable abbrev SpX:=List W->MH->QD->XQ->Prop
section
variable {P:Program}{w:World}{K:PySem.W.Frag}{mg:Str->Option Value}{base:Heap}
end
section
variable {X:Cx}{pos p apos:Pos}{k:Nat}{f C:Addr}{fd:FuncData}{ps:List Str}{sp:SpX}{x m:Str}{e o:Expr}{es:List Expr}{t:TAd}{td:TD}{E:XE}
end
end D
namespace XO
open PySem PySem.Spec PyProof.Rows PySem.W
section
variable {prog:Program}{w:World}{A:Around}{E:Value->Shared->Prop}{s:Shared}{K:Frag}{env:PySem.Env}
end
end XO
namespace L2
open PySem PySem.Spec PyProof.Rows XO
section
variable {X:Cx}{pins:List (Addr×Obj)}{σ:St}{H:Hp}{s:Shared}{a dx C:Addr}
end
section
variable {X:Cx}{o value:Expr}{f:Str}{pos pos':Pos}{ta tv:TE}{C:Addr}
end
section
variable {P:Program}{w:World}{K:PySem.W.Frag}{mg:Str->Option Value}{base:Heap}{C f:Addr}{fd:FuncData}{qual:Str}{st:Stmt}
end
end L2
namespace D
open PySem PySem.Spec PyProof.Rows L2 XO
section
variable {X:Cx}{pos p cpos:Pos}{k:Nat}{f C:Addr}{fd:FuncData}{ps fs:List Str}{x:Str}{e:Expr}{es:List Expr}{t:TAd}{E:XE}
end
end D
namespace L2
open PySem PySem.Spec PyProof.Rows XO
section
variable {X:Cx}{pins:List (Addr×Obj)}{σ:St}{H:Hp}{s:Shared}{xe:Value->Shared->Prop}
end
end L2
namespace D
open PySem PySem.Spec PyProof.Rows L2 XO
section
variable {X:Cx}{pos np hpos:Pos}{body suite:List Stmt}{b0:Stmt}{hs:List ExceptHandler}{h0:ExceptHandler}{tb:XE->TSd}{th rest:Addr->TSd}{ts:TSd}
theorem Air.cls {K:PySem.W.Frag}{H:Hp}{h:Heap}{a C:Addr}{M:MH}{fs:List (Str×W)}(air:Air H h a)(m:MAbs K H M)(e:M a=some (.exc C fs)):∃ dct vs,h.get? a=some (xobj C dct vs):=by
 obtain ⟨C',dct,vs,e1,e2,_⟩:=air
 obtain ⟨φ,dct',g1,g2,_⟩:=m a _ e
 rw [e1] at g1
 cases g1
 obtain ⟨vs',e3⟩:=g2 h ⟨vs,e2⟩
 exact ⟨_,vs',e3⟩
end
end D
namespace D
open PySem PySem.Spec PyProof.Rows L2 XO
section
variable {X:Cx}{pos p:Pos}{o ce:Expr}{td:TD}{f:Str}
end
end D
namespace D
open PySem PySem.Spec PyProof.Rows L2 XO
noncomputable def tabL (l:List (Addr×Bool))(C:Addr):Option Bool:=l.lookup C
inductive AllT (P:Addr->Bool->Prop):List (Addr×Bool)->Prop
 | nil:AllT P []
 | cons {a:Addr} {b:Bool} {l:List (Addr×Bool)}:P a b->AllT P l->AllT P ((a,b) :: l)
theorem AllT.of {P:Addr->Bool->Prop}{l:List (Addr×Bool)}(h:AllT P l):∀ C b,tabL l C=some b->P C b:=by
 induction h with
 | nil=>intro C b z; cases z
 | @cons a b l p _ ih =>
  intro C b' z
  unfold tabL at z ih
  rw [List.lookup_cons] at z
  split at z
  ·rename_i e
   cases z
   rw [beq_iff_eq.mp e]; exact p
  ·exact ih C b' z
inductive AllC (P:Addr->Prop):List Addr->Prop
 | nil:AllC P []
 | cons {a:Addr} {l:List Addr}:P a->AllC P l->AllC P (a :: l)
theorem AllC.of {P:Addr->Prop}{l:List Addr}(h:AllC P l):∀ C∈l,P C:=by
 induction h with
 | nil=>intro C z; cases z
 | cons p _ ih =>
  intro C z
  rcases List.mem_cons.mp z with e | e
  ·rw [e]; exact p
  ·exact ih C e
namespace Q
section
variable {X:Cx}{pos p p' apos cpos np hpos:Pos}{k:Nat}{f C:Addr}{fd:FuncData}{ps fs:List Str}{sp:SpX}{x m n:Str}{e o:Expr}{es:List Expr}{t:TAd}{td:TD}{E:XE}
variable {body suite:List Stmt}{b0:Stmt}{hs:List ExceptHandler}{h0:ExceptHandler}{tb:XE->TSd}{th rest:Addr->TSd}{ts:TSd}
end
end Q
end D
namespace D
open PySem PySem.Spec PyProof.Rows L2
section
variable {X:Cx}{K:PySem.W.Frag}
end
section
variable {X:Cx}{K:PySem.W.Frag}
noncomputable def inOk (d:PyData)(ds:List PyData):Bool:=eqOk d && eqOk (.list ds)
theorem in_room {A:Around}{k:Nat}(hr:Room k A){d:PyData}{ds:List PyData}(h:SeqAt.shaped d=true):A.units+1+min (PyData.depthAll ds) d.depth < cLine:=by
 have h1:=SeqAt.depth_of_shaped h
 have h2:min (PyData.depthAll ds) d.depth<=d.depth:=Nat.min_le_right _ _
 have:=hr.un
 omega
variable {o e:Expr}{td te:TD}{apos cpos:Pos}
end
namespace Q
section
variable {X:Cx}{o e tg:Expr}{td te:TD}{apos cpos:Pos}
end
end Q
end D
namespace D
open PySem PySem.Spec PyProof.Rows L2
section
variable {X:Cx}{tg o:Expr}
noncomputable def iNew (td:TE):TI:=λ σ H R=>td σ H λ x H1=>∃ a l,x=.ref a/\H1 a=some (.lst l)/\∀ ob,R (Itf a ob l) (upd H1 a (stillF ob l))
theorem pi_new {td:TE}(ho:PE X o td):PI X tg o (iNew td):=by
 intro pins s σ H R I h
 refine thn (ho pins s σ H _ I h) λ v s1 hq104=>?_
 obtain ⟨x,H1,I0,r1,a,l,ex,hg0,q⟩:=hq104
 subst ex
 cases r1
 obtain ⟨ob,I1⟩:=Inv.stillL I0 hg0
 have hg:upd H1 a (stillF ob l) a=some (stillF ob l):=upd_same
 obtain ⟨its,rv,p⟩:=stillF_at I1.hok hg
 refine wpAny_pyIter_list p ?_
 refine ⟨s1.heap.objs.size,[s1.heap.objs.size],_,_,upd H1 a (stillF ob l),rfl,I1.kept (t':=s1.toks) λ b o e=>Heap.get?_push_of_some _ e,turn_flist a _ ob l,⟨_,Heap.get?_push_size _ rfl,rfl,rfl⟩,λ b hb=>?_,q ob⟩
 have e:b=s1.heap.objs.size:=by simpa using hb
 subst e
 exact I1.fpOk (Nat.le_refl _) (I1.hok.fresh (Nat.le_refl _))
noncomputable def dItemsN (td:TD)(τ:DS)(M:MH)(R:List W->MH->Prop):Prop:=td τ M λ w M1=>∃ a ws,w=.m a/\M1 a=some (.lst ws)/\R ws (updM M1 a (.flst ws))
theorem pid_itemsN0 {td:TD}(ho:PD X o td):PId X tg o (dItemsN td):=pi_w (pi_new ho) λ σ H R hq105=>by
 obtain ⟨τ,M,Rd,A,h,k⟩:=hq105
 refine ⟨τ,M,_,A,h,λ v H1 w M1 kp r m hq106=>?_⟩
 obtain ⟨a,ws,ew,hm,q⟩:=hq106
 subst ew
 obtain ⟨l,e,pr⟩:=m _ _ hm
 refine ⟨a,l,r,e,λ ob=>?_⟩
 have kp1:Kp H1 (upd H1 a (stillF ob l)):=Kp.set e (λ _ z=>nomatch z) (λ _ _ z=>nomatch z)
 have pr1:RepWs X.K (upd H1 a (stillF ob l)) ws l:=RepWs.keep kp1 pr
 refine k _ _ _ (updM M1 a (.flst ws)) (kp.trans kp1) (m.put (mo:=.flst ws) kp1 ⟨ob,l,upd_same,pr1⟩) (λ H2 kp2 i=>?_) q
 have hl:=pr1.length
 have e2:=kp2.frz a ob _ upd_same
 refine ⟨λ hi=>⟨e2,by omega⟩,λ hi=>⟨e2,by omega⟩,λ x H' hi hq107=>?_⟩
 obtain ⟨eH,ex⟩:=hq107
 subst eH
 have hi2:i < ws.length:=hi
 obtain ⟨x',ex',rx⟩:=RepWs.get (RepWs.keep kp2 pr1) (List.getElem?_eq_getElem hi2)
 rw [ex'] at ex
 cases ex
 exact ⟨Kp.refl _,λ M m=>m,ws[i],List.getElem?_eq_getElem hi2,rx⟩
end
section
variable {X:Cx}
theorem RepWs.cut {K:PySem.W.Frag}{H:Hp}{ws:List W}{vs:List V}(r:RepWs K H ws vs)(lo hi:Option Int):RepWs K H (cutD ws lo hi) (cutV vs lo hi):=by
 unfold cutD cutV
 have hl:=r.length
 rw [hl]
 have dr:∀ (n:Nat) {ws:List W} {vs:List V},RepWs K H ws vs->RepWs K H (ws.drop n) (vs.drop n):=by
  intro n
  induction n with
  | zero=>intro ws vs h; exact h
  | succ n ih =>
   intro ws vs h
   cases h with
   | nil=>exact .nil
   | cons a b=>exact ih b
 have tk:∀ (n:Nat) {ws:List W} {vs:List V},RepWs K H ws vs->RepWs K H (ws.take n) (vs.take n):=by
  intro n
  induction n with
  | zero=>intro ws vs h; exact .nil
  | succ n ih =>
   intro ws vs h
   cases h with
   | nil=>exact .nil
   | cons a b=>exact .cons a (ih b)
 exact tk _ (dr _ r)
end
section
variable {X:Cx}{pos:Pos}
end
namespace Q
section
variable {X:Cx}{tg o:Expr}{td:TD}
theorem pid_itemsN (ho:Jd (PD X o td)):Jd (PId X tg o (dItemsN td)):=⟨D.pid_itemsN0 ho.h⟩
end
end Q
end D
namespace D
open PySem PySem.Spec PyProof.Rows L2
noncomputable def atomIs (v:Value):PyData->Bool
 | .str z=>match v with
  | .str x _=>decide (x=z)
  | _=>false
 | .int i=>match v with
  | .int j _=>decide (j=i)
  | _=>false
 | _=>false
noncomputable def atomsAre:List Value->List PyData->Bool
 | [],[]=>true
 | v :: vs,d :: ds=>atomIs v d && atomsAre vs ds
 | _,_=>false
noncomputable def tupIs (K:PySem.W.Frag)(v:Value):PyData->Bool
 | .tuple ds=>match v with
  | .ref a=>match K.lookup a with
   | some o=>(match o.cls with
    | .type n=>decide (n = "tuple")
    | _=>false) && o.dict.isNone && (match o.data with
    | .seq its _=>decide (its.size<=100) && atomsAre its.toList ds
    | _=>false)
   | none=>false
  | _=>false
 | d=>atomIs v d
theorem atom_rep {v:Value}{d:PyData}(h:atomIs v d=true):∃ x,RelV x v/\∀ K H,RepD K H d x:=by
 cases d with
 | str z =>
  cases v with
  | str x t =>
   have e:x=z:=of_decide_eq_true h
   subst e
   exact ⟨.str x,⟨t,rfl⟩,λ K H=>by simp [RepD]⟩
  | _=>cases h
 | int i =>
  cases v with
  | int j t =>
   have e:j=i:=of_decide_eq_true h
   subst e
   exact ⟨.int j,⟨t,rfl⟩,λ K H=>by simp [RepD]⟩
  | _=>cases h
 | _=>cases h
theorem atoms_rep:∀ {vs:List Value} {ds:List PyData},atomsAre vs ds=true->∃ xs,Vals xs vs/\∀ K H,RepA K H ds xs
 | [],[],_=>⟨[],.nil,λ K H=>by simp [RepA]⟩
 | v :: vs,d :: ds,h=>by
  simp only [atomsAre,Bool.and_eq_true] at h
  obtain ⟨x,h1,h2⟩:=atom_rep h.1
  obtain ⟨xs,h3,h4⟩:=atoms_rep h.2
  exact ⟨x :: xs,.cons h1 h3,λ K H=>by simp only [RepA]; exact ⟨x,xs,rfl,h2 K H,h4 K H⟩⟩
 | [],_ :: _,h=>by cases h
 | _ :: _,[],h=>by cases h
theorem tup_rep {K:PySem.W.Frag}{v:Value}{d:PyData}(h:tupIs K v d=true):∃ x,RelV x v/\∀ H,RepD K H d x:=by
 have atom:atomIs v d=true->∃ x,RelV x v/\∀ H,RepD K H d x:=λ h=>by
  obtain ⟨x,h1,h2⟩:=atom_rep h
  exact ⟨x,h1,h2 K⟩
 cases d with
 | tuple ds =>
  cases v with
  | ref a =>
   simp only [tupIs] at h
   cases e:K.lookup a with
   | none=>rw [e] at h; cases h
   | some o =>
    rw [e] at h
    simp only [Bool.and_eq_true] at h
    obtain ⟨⟨h1,h0⟩,h2⟩:=h
    have hd:o.dict=none:=by simpa using h0
    have hc:o.cls=.type "tuple" := by
     cases q:o.cls with
     | type n=>rw [q] at h1; rw [of_decide_eq_true h1]
     | _=>rw [q] at h1; cases h1
    cases q:o.data with
    | seq its n =>
     rw [q] at h2
     simp only [Bool.and_eq_true,decide_eq_true_eq] at h2
     obtain ⟨xs,h3,h4⟩:=atoms_rep h2.2
     refine ⟨.ref a,rfl,λ H=>?_⟩
     simp only [RepD]
     exact ⟨a,xs,rfl,.inr ⟨o,its,n,e,hc,hd,q,few (by omega),h3⟩,h4 K H⟩
    | _=>rw [q] at h2; cases h2
  | _=>cases h
 | str z=>exact atom h
 | int i=>exact atom h
 | none=>exact atom h
 | bool b=>exact atom h
 | list ds=>exact atom h
 | dict kvs=>exact atom h
noncomputable def entsAre (K:PySem.W.Frag):List DictEntry->List (Str×PyData)->Bool
 | [],[]=>true
 | e :: es,(k,d) :: kvs=>atomIs e.key (.str k) && tupIs K e.val d && entsAre K es kvs
 | _,_=>false
noncomputable def kdIs (K:PySem.W.Frag)(a:Addr)(kvs:List (Str×PyData)):Bool:=match K.lookup a with
 | some o=>(match o.cls with
  | .type n=>decide (n = "dict")
  | _=>false) && o.dict.isNone && decide (o.slots.size=0) && (match o.data with
  | .dict es _=>entsAre K es.toList kvs
  | _=>false)
 | none=>false
noncomputable def hashesOf (K:PySem.W.Frag)(a:Addr):Option (List Int):=match K.lookup a with
 | some o=>match o.data with
  | .dict es _=>some (es.toList.map (·.hash))
  | _=>none
 | none=>none
structure KDict (w:World)(K:PySem.W.Frag)(a:Addr)(kvs:List (Str×PyData)):Prop where
 is:kdIs K a kvs=true
 hs:hashesOf K a=some (kvs.map λ p=>PyData.keyHash w.params p.1)
 nd:(kvs.map (·.1)).Nodup
 ns:(a == sysModules)=false
theorem ents_rep {P:Program}{w:World}{K:PySem.W.Frag}:∀ {es:List DictEntry} {kvs:List (Str×PyData)},entsAre K es kvs=true->es.map (·.hash)=kvs.map (λ p=>PyData.keyHash w.params p.1) ->
  ∃ (L:List (Key×V)) (vs:List (Key×Value)),KV L vs/\Pairs (mixKind P w) es vs/\(∀ e∈es,∃ k,(mixKind P w).is k e.key=true/\e.hash=(mixKind P w).hash k)/\vs.map (·.1)=kvs.map (λ p=>(.inr p.1:Key))/\Paired (λ (p:Str×PyData) (q:Key×V)=>q.1=.inr p.1/\∀ H,RepD K H p.2 q.2) kvs L
 | [],[],_,_=>⟨[],[],.nil,.nil,(λ e he=>by cases he),rfl,.nil⟩
 | e :: es,(k,d) :: kvs,h,hh=>by
  simp only [entsAre,Bool.and_eq_true] at h
  obtain ⟨⟨h1,h2⟩,h3⟩:=h
  rw [List.map_cons,List.map_cons] at hh
  obtain ⟨hh1,hh2⟩:=List.cons.inj hh
  obtain ⟨L,vs,i1,i2,i3,i4,i5⟩:=ents_rep (P:=P) (w:=w) h3 hh2
  obtain ⟨x,r1,r2⟩:=tup_rep h2
  have hk:keyIs (.inr k) e.key=true:=by
   cases q:e.key with
   | str y t =>
    rw [q] at h1
    have ey:y=k:=of_decide_eq_true h1
    subst ey
    show Value.isStrOf y (.str y t)=true
    simp [Value.isStrOf]
   | _=>rw [q] at h1; cases h1
  refine ⟨(.inr k,x) :: L,(.inr k,e.val) :: vs,.cons ⟨rfl,r1⟩ i1,.cons hk rfl i2,λ e' he'=>?_,by rw [List.map_cons,i4]; rfl,.cons ⟨rfl,r2⟩ i5⟩
  rcases List.mem_cons.mp he' with rfl | he'
  ·exact ⟨.inr k,hk,hh1⟩
  ·exact i3 e' he'
 | [],_ :: _,h,_=>by cases h
 | _ :: _,[],h,_=>by cases h
section
variable {X:Cx}{pins:List (Addr×Obj)}{σ:St}{H:Hp}{s:Shared}{a:Addr}{kvs:List (Str×PyData)}
theorem KDict.dd (D:KDict X.w X.K a kvs)(I:Inv X pins σ H s):∃ (L:List (Key×V)) (vs:List (Key×Value)),KV L vs/\s.heap.DictOf (mixKind X.prog X.w) a vs/\Paired (λ (p:Str×PyData) (q:Key×V)=>q.1=.inr p.1/\∀ H,RepD X.K H p.2 q.2) kvs L:=by
 have h:=D.is
 have hs:=D.hs
 unfold kdIs at h
 unfold hashesOf at hs
 cases e:X.K.lookup a with
 | none=>rw [e] at h; cases h
 | some o =>
  rw [e] at h hs
  simp only [Bool.and_eq_true] at h hs
  obtain ⟨⟨⟨h1,h2⟩,h3⟩,h4⟩:=h
  have hc:o.cls=.type "dict" := by
   cases q:o.cls with
   | type n=>rw [q] at h1; rw [of_decide_eq_true h1]
   | _=>rw [q] at h1; cases h1
  have hd:o.dict=none:=by simpa using h2
  have hsl:o.slots = #[]:=Array.eq_empty_of_size_eq_zero (of_decide_eq_true h3)
  cases q:o.data with
  | dict es n =>
   rw [q] at h4 hs
   obtain ⟨L,vs,i1,i2,i3,i4,i5⟩:=ents_rep (P:=X.prog) (w:=X.w) h4 (Option.some.inj hs)
   refine ⟨L,vs,i1,⟨o,es,n,I.kIn a o e,⟨hc,hd,hsl⟩,q,λ e' he'=>i3 e' (by simpa using he'),i2,?_⟩,i5⟩
   rw [i4,show (kvs.map λ p=>(.inr p.1:Key))=(kvs.map (·.1)).map Sum.inr from by simp]
   exact List.Pairwise.map Sum.inr (λ a b h z=>h (Sum.inr.inj z)) D.nd
  | _=>rw [q] at h4; cases h4
end
section
variable {X:Cx}{e:Expr}{a:Addr}{x:Str}{kvs:List (Str×PyData)}{pos p apos cpos:Pos}{ty:TE}{te:TD}
end
namespace Q
section
variable {X:Cx}{e:Expr}{a:Addr}{x:Str}{kvs:List (Str×PyData)}{pos p apos cpos:Pos}{te:TD}
end
end Q
end D
namespace D
open PySem PySem.Spec PyProof.Rows L2
section
variable {X:Cx}
noncomputable def rDUpd:V->List V->Hp->VK->Prop:=λ x vs H Q=>∃ a c kvs more,x=.ref a/\vs=[.ref c]/\H a=some (.dK kvs)/\Rd H c (.dK more)/\a≠c/\kvs.length+more.length<=sizeLine/\Q .non (upd H a (.dK (mergeK kvs more)))
theorem mt_dupd:MtM X "dict.update" rDUpd:=by
 intro pins s σ H x vs v us Q I rx rv h
 obtain ⟨a,c,kvs,more,rfl,rfl,ha,hc,ne,hz,q⟩:=h
 cases rx
 obtain ⟨u,rfl,ru⟩:=rv.one
 cases ru
 obtain ⟨_,hd,ws,rel,dd⟩:=dk_of I.hok ha
 obtain ⟨_,hd2,ws2,rel2,dd2⟩:=dk_rd I.hok hc
 refine call_meetsIn PySem.F.slot_dict_update dd.typeIs PySem.F.entry_dict_update (PySem.F.args_dict_update_2 _ _) (meets_dict_update (mixKind X.prog X.w) a c ne hd2) ⟨ws,ws2,dd,dd2,by rw [<- rel.length,<- rel2.length]; exact hz,λ h' dd' _ sb=>?_⟩
 have hl:=length_mergeK more kvs
 have he:∃ q,h'.get? a=some q:=let ⟨q,_,_,hq,_⟩:=dd'; ⟨q,hq⟩
 exact ⟨.non,_,d_write (t':=s.toks) I (by rw [ha]; exact True.intro) sb he (dk_new (by omega) hd (KV.merge rel2 rel) dd'),rfl,q⟩
variable {o e:Expr}{td te:TD}{apos cpos:Pos}
end
namespace Q
section
variable {X:Cx}{o e:Expr}{td te:TD}{apos cpos:Pos}
end
end Q
end D
namespace PySem.SeqAt
open AutoSeq1 (wpAny_loadPart')
open MeetsSeq MeetsSeq2 MeetsSeq3 SeqRoads2
end PySem.SeqAt
namespace ZT
open PySem PySem.Spec PyProof.Rows
section
variable {prog:Program}{w:World}{A:Around}{E:Value->Shared->Prop}{s:Shared}
noncomputable abbrev TT (h:Heap)(j t:Addr)(k:Nat)(ys:Array Value):Prop:=h.IsTupleIter j t k/\h.IsTuple t ys
theorem TT.at {h h':Heap}{j t:Addr}{k:Nat}{ys:Array Value}(x:TT h j t k ys)(f:∀ c o,(c=j\/c=t)->h.get? c=some o->h'.get? c=some o):TT h' j t k ys:=by
 obtain ⟨⟨o,e,r⟩,o',e',r'⟩:=x
 exact ⟨⟨o,f _ _ (.inl rfl) e,r⟩,o',f _ _ (.inr rfl) e',r'⟩
noncomputable def isIt (b:Bool)(h:Heap)(j t:Addr)(k:Nat):Prop:=match b with
 | true=>h.IsTupleIter j t k
 | false=>h.IsListIter j t k
noncomputable def isSq (b:Bool)(h:Heap)(t:Addr)(ys:Array Value):Prop:=match b with
 | true=>h.IsTuple t ys
 | false=>h.IsList t ys
theorem isIt.obj {b:Bool}{h:Heap}{j t:Addr}{k:Nat}(x:isIt b h j t k):∃ o,h.get? j=some o/\o.data=.fields #[.ref t,.int k 0]:=by
 cases b <;> (obtain ⟨o,e,_,d⟩:=x; exact ⟨o,e,d⟩)
theorem isIt.at {b:Bool}{h h':Heap}{j t:Addr}{k:Nat}(x:isIt b h j t k)(f:∀ o,h.get? j=some o->h'.get? j=some o):isIt b h' j t k:=by
 cases b <;> (obtain ⟨o,e,r⟩:=x; exact ⟨o,f _ e,r⟩)
theorem isSq.at {b:Bool}{h h':Heap}{t:Addr}{ys:Array Value}(x:isSq b h t ys)(f:∀ o,h.get? t=some o->h'.get? t=some o):isSq b h' t ys:=by
 cases b <;> (obtain ⟨o,e,r⟩:=x; exact ⟨o,f _ e,r⟩)
theorem isSq.lt {b:Bool}{h:Heap}{t:Addr}{ys:Array Value}(x:isSq b h t ys):t < h.objs.size:=by
 cases b <;> (obtain ⟨o,e,r⟩:=x; exact Heap.lt_size e)
noncomputable abbrev TI (b:Bool)(h:Heap)(j t:Addr)(k:Nat)(ys:Array Value):Prop:=isIt b h j t k/\isSq b h t ys
theorem TI.at {b:Bool}{h h':Heap}{j t:Addr}{k:Nat}{ys:Array Value}(x:TI b h j t k ys)(f:∀ c o,(c=j\/c=t)->h.get? c=some o->h'.get? c=some o):TI b h' j t k ys:=⟨x.1.at λ o=>f _ o (.inl rfl),x.2.at λ o=>f _ o (.inr rfl)⟩
variable {p₁ p₂:Bool}{z T O i j a b:Addr}{k:Nat}{xs ys:Array Value}{u v:Value}
end
end ZT
namespace ZT
open PySem PySem.Spec PyProof.Rows
section
variable {prog:Program}{w:World}{A:Around}{E:Value->Shared->Prop}{s:Shared}
end
end ZT
namespace D
open PySem PySem.Spec PyProof.Rows L2
section
variable {X:Cx}{a b:Expr}{p pos:Pos}{ta:TA}
end
section
variable {X:Cx}{K:PySem.W.Frag}{a b:Expr}{p pos:Pos}{t:TAd}
end
section
variable {X:Cx}{K:PySem.W.Frag}
noncomputable def idxAt (ds:List PyData)(d:PyData)(j:Nat):Prop:=j < ds.length/\(∀ y,ds[j]? = some y->PyData.eqv y d=true)/\∀ m y,m < j->ds[m]? = some y->PyData.eqv y d=false
variable {o e:Expr}{td te:TD}{apos cpos:Pos}
end
namespace Q
section
variable {X:Cx}{o e a b:Expr}{td te:TD}{apos cpos p pos:Pos}
end
end Q
end D
namespace D
open PySem PySem.Spec PyProof.Rows L2
section
variable {X:Cx}{K:PySem.W.Frag}
end
section
variable {prog:Program}{w:World}{A:Around}{E:Value->Shared->Prop}{s:Shared}{x y:Str}{t u:Tok}{Q:Value->Shared->Prop}
end
section
variable {X:Cx}{K:PySem.W.Frag}
variable {o e:Expr}{td te:TD}{apos cpos:Pos}
end
section
variable {X:Cx}{e st:Expr}{te:TE}{ts:TO}{pos p2:Pos}
end
section
variable {X:Cx}{K:PySem.W.Frag}{e st:Expr}{te:TD}{ts:TOd}{pos p2:Pos}
end
section
variable {X:Cx}{e:Expr}{a:Addr}{x:Str}{kvs:List (Str×PyData)}{pos p:Pos}{ty:TE}{te:TD}
end
namespace Q
section
variable {X:Cx}{e st:Expr}{a:Addr}{x:Str}{kvs:List (Str×PyData)}{pos p p2:Pos}{te:TD}{ts:TOd}
end
end Q
namespace Q
section
variable {X:Cx}{o e:Expr}{td te:TD}{apos cpos:Pos}
end
end Q
end D
namespace XO
open PySem PySem.Spec PyProof.Rows PySem.W
section
variable {prog:Program}{w:World}{A:Around}{E:Value->Shared->Prop}{K:Frag}{C:Addr}{h:Heap}{g:Array GenState}{d:Drawn}{t:Nat}{os:OsState}
end
end XO
namespace D
open PySem PySem.Spec PyProof.Rows L2 XO
section
variable {X:Cx}{pos p cpos np hpos:Pos}{k:Nat}{f C:Addr}{x:Str}{e:Expr}{es:List Expr}{t:TAd}{E:XE}
variable {body suite:List Stmt}{b0:Stmt}{hs:List ExceptHandler}{th rest:Addr->TSd}{ts:TSd}
variable {fd:FuncData}{ps:List Str}{sp:SpX}{y:Str}{td:TD}
end
section
variable {X:Cx}{K:PySem.W.Frag}
variable {o e:Expr}{td te:TD}{apos cpos:Pos}
end
section
variable {X:Cx}{o e:Expr}{td te:TD}{apos cpos:Pos}
end
section
variable {X:Cx}{e st:Expr}{te:TE}{ts:TO}{pos p2:Pos}
end
section
variable {X:Cx}{e st:Expr}{te:TD}{ts:TOd}{pos p2:Pos}
end
section
variable {X:Cx}{K:PySem.W.Frag}
end
namespace Q
section
variable {X:Cx}{pos p cpos apos np hpos p2:Pos}{k:Nat}{f C:Addr}{x y:Str}{e o st:Expr}{es:List Expr}{t:TAd}{E:XE}{body suite:List Stmt}{b0:Stmt}{hs:List ExceptHandler}{rest:Addr->TSd}{ts:TSd}{fd:FuncData}{ps:List Str}{sp:SpX}{td te:TD}{to:TOd}
end
end Q
end D
namespace ZS
open PySem PySem.Spec PyProof.Rows
section
variable {prog:Program}{w:World}{A:Around}{E:Value->Shared->Prop}{s:Shared}
variable {z T O i j b:Addr}{k:Nat}{x:Str}{tk:Tok}{ys:Array Value}{u v:Value}
end
section
variable {prog:Program}{w:World}{A:Around}{E:Value->Shared->Prop}{s:Shared}
end
end ZS
namespace D
open PySem PySem.Spec PyProof.Rows L2
section
variable {X:Cx}{a b:Expr}{p pos:Pos}{ta:TA}
end
section
variable {X:Cx}{K:PySem.W.Frag}{a b:Expr}{p pos:Pos}{t:TAd}
end
section
variable {X:Cx}{K:PySem.W.Frag}
end
namespace Q
section
variable {X:Cx}{o e:Expr}{td te:TD}{apos cpos:Pos}
end
end Q
namespace Q
section
variable {X:Cx}{a b:Expr}{p pos:Pos}
end
end Q
end D
namespace RT
open PySem PySem.Spec PyProof.Rows
section
variable {prog:Program}{w:World}{A:Around}{E:Value->Shared->Prop}{s:Shared}
end
end RT
namespace D
open PySem PySem.Spec PyProof.Rows L2
section
variable {X:Cx}{pins:List (Addr×Obj)}{σ:St}{H:Hp}{s:Shared}
end
section
variable {X:Cx}
end
section
variable {X:Cx}{K:PySem.W.Frag}
variable {o e:Expr}{td:TD}{apos cpos:Pos}
variable {a:Expr}{ta:TA}{p p2 pos pos2:Pos}
end
namespace Q
section
variable {X:Cx}{k:Nat}{t:TAd}{td:TD}{a o e:Expr}{p p2 pos pos2 apos cpos:Pos}
end
end Q
end D
namespace L2
open PySem PySem.Spec PyProof.Rows
open PySem.W (envX kla_obj kla_fn)
noncomputable def lamX (X:Cx)(q:Str)(sc:Scope)(N':List Str)(cl:List (Str×Addr))(f c:Addr)(s:Shared)(H:Hp)(pins:List (Addr×Obj)):Cx :=
 {X with A:=X.A.deeper (envX q sc s.heap.objs.size f (.ref c) cl),N:=N',s₀:=s,H₀:=H,env:=envX q sc s.heap.objs.size f (.ref c) cl,outer:=X.stack,stack:=envX q sc s.heap.objs.size f (.ref c) cl :: X.stack,ex:=[],fn:=λ _=>false,calm:=true,pn:=X.pn++pins,xe:=λ _ _=>False }
structure LamOk (X:Cx)(sc:Scope)(x:Str)(fr:List Nat):Prop where
 kind:sc.kind=.function
 co:sc.isCoroutine=false
 gen:sc.isGenerator=false
 cell:∀ y∈sc.names,y.2 ≠ .cell
 free:∀ y∈sc.names,y.2=.free->(X.env.kindOf y.1=some .cell\/X.env.kindOf y.1=some .free)
 own:sc.names.lookup x=some .local
 fr:frOk X.N sc fr=true
noncomputable def lamN (X:Cx)(x:Str)(fr:List Nat):List Str:=x :: fr.map λ j=>X.N.getD j Str.empty
noncomputable def lamS (v:V)(fr:List Nat)(σ:St):St:=some v :: fr.map λ j=>(σ[j]?).getD none
section
variable {X:Cx}{pins:List (Addr×Obj)}{σ:St}{H:Hp}{s:Shared}{sc:Scope}{x q:Str}{fr:List Nat}{cl:List (Str×Addr)}{f c:Addr}
theorem lam_ok (L:LamOk X sc x fr)(hc:X.calm=true)(I:Inv X pins σ H s)(c1:∀ n c,cl.lookup n=some c->X.env.cells.lookup n=some c)(c2:∀ n,(n,NameKind.free)∈sc.names->∃ c,cl.lookup n=some c):(lamX X q sc (lamN X x fr) cl f c s H pins).Ok where
 mod:=I.ok.mod
 kind:=L.kind
 glob:=rfl
 blt:=rfl
 above:=Nat.le_refl _
 inj:=λ x y c a b=>I.ok.inj x y c (c1 _ _ a) (c1 _ _ b)
 has:=λ y hy=>by
  have hy:sc.names.lookup y=some .cell\/sc.names.lookup y=some .free:=hy
  rcases hy with hy | hy
  ·exact absurd rfl (L.cell _ (PySem.mem_of_lookup hy))
  ·exact c2 y (PySem.mem_of_lookup hy)
 cab:=λ x c z=>absurd (show false=true from z) Bool.false_ne_true
 hd:=λ _=>I.ok.hd hc
 frames:=Around.frames_deeper I.ok.frames
 stk:=.inr ⟨rfl,rfl⟩
 exf:=λ b z=>nomatch z
 bs:=I.bs
 bsz:=Nat.le_trans I.ok.bsz I.sz
 noex:=λ b o e z=>nomatch z
 exfs:=λ b z=>nomatch z
 funs:=I.stack
 frf:=I.stkFree
theorem lam_inv (L:LamOk X sc x fr)(hc:X.calm=true)(I:Inv X pins σ H s)(c1:∀ n c,cl.lookup n=some c->X.env.cells.lookup n=some c)(c2:∀ n,(n,NameKind.free)∈sc.names->∃ c,cl.lookup n=some c)
  {h1:Heap}{tk:Nat}{v:V}{u:Value}(rv:RelV v u)(hn:h1.Ns s.heap.objs.size (λ y=>[(x,u)].reverse.lookup y))(k:∀ b o,s.heap.get? b=some o->h1.get? b=some o) :
  Inv (lamX X q sc (lamN X x fr) cl f c s H pins) [] (lamS v fr σ) H { s with heap:=h1,toks:=tk }:=by
 have ok:=lam_ok (q:=q) (f:=f) (c:=c) L hc I c1 c2
 refine ⟨ok,rfl,I.bare,Un.kept k,⟨_,hn,λ i y v' e1 e2 e3=>?_⟩,λ y c e=>?_,I.hok.fresh (Nat.le_refl _),λ y c e=>I.freeC y c (c1 _ _ e),λ p hp=>?_,I.hok.kept k,?_⟩
 ·cases i with
  | zero =>
   have e1':some x=some y:=e1
   have e2':some (some v)=some (some v'):=e2
   cases e1'; cases e2'
   exact ⟨u,rv,.inl ⟨L.own,by simp⟩⟩
  | succ i =>
   have e1':(fr.map λ j=>X.N.getD j Str.empty)[i]? = some y:=e1
   have e2':(fr.map λ j=>(σ[j]?).getD none)[i]? = some (some v'):=e2
   rw [List.getElem?_map] at e1' e2'
   cases hq:fr[i]? with
   | none=>rw [hq] at e1'; cases e1'
   | some j =>
    rw [hq] at e1' e2'
    obtain ⟨z,hz,hzf⟩:=frOk_get L.fr (List.mem_of_getElem? hq)
    have ex:z=y:=by
     have:=Option.some.inj e1'
     rw [<- this]
     simp [List.getD,hz]
    subst ex
    have ev:σ[j]? = some (some v'):=by
     have z':(σ[j]?).getD none=some v':=Option.some.inj e2'
     cases w:σ[j]? with
     | none=>rw [w] at z'; cases z'
     | some o=>rw [w] at z'; exact congrArg some z'
    have hm:(z,NameKind.free)∈sc.names:=PySem.mem_of_lookup hzf
    have hk:=L.free _ hm rfl
    have vis:Vis X.env.scope z:=by
     rcases hk with w | w
     ·exact .inr (.inl w)
     ·exact .inr (.inr w)
    obtain ⟨m0,hn0,hl⟩:=I.loc
    obtain ⟨u',r,l⟩:=hl j z v' hz ev vis
    refine ⟨u',r,.inr ⟨.inr hzf,?_⟩⟩
    obtain ⟨c',hc'⟩:=c2 z hm
    rcases l with ⟨w,_⟩ | ⟨_,c'',hc'',hcell⟩
    ·rcases hk with q' | q'
     ·exact absurd (show X.env.kindOf z=some .local from w) (by rw [q']; decide)
     ·exact absurd (show X.env.kindOf z=some .local from w) (by rw [q']; decide)
    ·have:c'=c'':=Option.some.inj ((c1 _ _ hc').symm.trans hc'')
     subst this
     obtain ⟨o,ho,hd⟩:=hcell
     exact ⟨c',hc',o,k _ _ ho,hd⟩
 ·obtain ⟨w,o,ho,hd⟩:=I.cell y c (c1 _ _ e)
  exact ⟨w,o,k _ _ ho,hd⟩
 ·have hp':p∈X.pn++pins:=by simpa [lamX] using hp
  obtain ⟨a1,a2,a3,a4,a5⟩:=I.pin p hp'
  refine ⟨k _ _ a1,a2,Nat.ne_of_lt (Heap.lt_size a1),λ z=>?_,a5⟩
  rcases List.mem_cons.mp (I.stkSub _ z) with e | e
  ·exact a3 e
  ·exact a4 e
 ·show (lamS v fr σ).length=(lamN X x fr).length
  simp [lamS,lamN]
noncomputable def LamH (H:Hp)(q x:Str)(params:Arguments)(body:Expr)(sc:Scope)(cl:List (Str×Addr))(pm:Value)(f:Addr):Prop :=
 ∃ c ctv oc vs t,H f=some (.frz (kla_obj "<lambda>" q params body sc cl pm c ctv) (.own 0))/\H c=some (.frz oc (.own 0))/\oc.data=.fields vs/\vs[1]? = some (.str q t)
theorem run_lam {k:Nat}{E:Value->Shared->Prop}{params:Arguments}{body:Expr}{pm:Value}{te:TE}{v:V}{u:Value}{Q:VK}(hr:Room (k+1) X.A)(hc:X.calm=true)(L:LamOk X sc x fr)(c1:∀ n c,cl.lookup n=some c->X.env.cells.lookup n=some c)(c2:∀ n,(n,NameKind.free)∈sc.names->∃ c,cl.lookup n=some c)
  (hb:∀ cdv ctv u,bindArgs (kla_fn "<lambda>" q params body sc cl pm cdv ctv) ⟨[u],[]⟩=pure [(x,u)])
  (he:∀ c s H pl,Room k (lamX X q sc (lamN X x fr) cl f c s H pl).A->PE (lamX X q sc (lamN X x fr) cl f c s H pl) body te)
  (I:Inv X pins σ H s)(hf:LamH H q x params body sc cl pm f)(rv:RelV v u)(h:te (lamS v fr σ) H Q):wpAny (model X.prog X.w) X.A (call (.ref f) [u]) (EP X pins σ Q) E s:=by
 obtain ⟨c,ctv,oc,vs,t,h1,h2,h3,h4⟩:=hf
 obtain ⟨g1,_⟩:=I.hok f _ h1
 obtain ⟨g2,_⟩:=I.hok c _ h2
 refine wpAny_call (PySem.W.kla_callFunE hr.depth g1 rfl L.co L.gen rfl ⟨c,oc,vs,t,rfl,g2,h3,h4⟩ ?_)
 rw [hb]
 refine wpAny_pure (wpAny_newFunctionEnv L.cell (λ y hy=>by rw [List.mem_singleton.mp hy]; exact L.own) (λ h₁ hns hsb=>⟨(I.nolimit).fresh _ hsb,?_⟩) L.kind)
 have hk₁:∀ b o,s.heap.get? b=some o->h₁.get? b=some o:=λ b o e=>hsb.extBut b o (Nat.ne_of_lt (Heap.lt_size e)) (Heap.get?_push_of_some _ e)
 have J:=lam_inv (q:=q) (f:=f) (c:=c) (tk:=s.toks+1) L hc I c1 c2 rv hns hk₁
 have hr':Room k (lamX X q sc (lamN X x fr) cl f c s H pins).A:=hr.deeper _
 refine PySem.W.kla_codeExpr (wpAny_mono (he c s H pins hr' [] _ _ _ _ J h) (λ u' s' hh=>?_) λ _ _ z=>z.elim)
 obtain ⟨v',H',J',r',q'⟩:=hh
 exact I.after ⟨v',H',J'.os,J'.bare,J'.base,J'.hok,r',q'⟩
end
section
variable {X:Cx}{pins:List (Addr×Obj)}{σ:St}{H:Hp}{s:Shared}
theorem Inv.tblGrow {P:Addr}{ps more:Array Value}{h':Heap}{t':Nat}(I:Inv X pins σ H s)(hP:H P=some (.tbl ps))(k:∀ b u,b≠P->s.heap.get? b=some u->h'.get? b=some u)(e:h'.get? P=some { cls:=.none,data:=.fields (ps++more) }) :
  Inv X pins σ (upd H P (.tbl (ps++more))) { s with heap:=h',toks:=t' }:=by
 have nn:∀ b,H b=none->b≠P:=λ b n=>Ne.symm (ne_of_none hP n)
 have nt:∀ b xs,H b=some (.tup xs)->b≠P:=λ b xs q=>ne_of q hP (λ z=>nomatch z)
 have nf:∀ b o u,H b=some (.frz o u)->b≠P:=λ b o u q=>ne_of q hP (λ z=>nomatch z)
 have no:∀ b y,H b=some (.own y)->b≠P:=λ b y q=>ne_of q hP (λ z=>nomatch z)
 refine I.un ⟨λ b o q n _ _=>k b o (nn b n) q,λ b o q n _ _=>⟨o.slots,k b o (nn b n) q⟩,λ b o _ n _=>by rw [upd_ne (nn b n)]; exact n,λ b o q _=>?_,λ b xs q=>by rw [upd_ne (nt b xs q)]; exact q,λ b o u q=>by rw [upd_ne (nf b o u q)]; exact q,λ b qs q=>?_⟩ λ b u q=>?_
 ·by_cases hb:b=P
  ·subst hb; exact ⟨_,e⟩
  ·exact ⟨o,k b o hb q⟩
 ·by_cases hb:b=P
  ·subst hb
   rw [hP] at q
   cases q
   exact ⟨more,upd_same⟩
  ·exact ⟨#[],by rw [upd_ne hb,q]; simp⟩
 ·by_cases hb:b=P
  ·subst hb
   rw [upd_same] at q
   cases q
   exact e
  ·rw [upd_ne hb] at q
   exact (I.hok b u q).stay (λ c v hc r=>k c v (by rcases hc with z | z; rw [z]; exact hb; exact no c _ z) r) (λ c r=>by rw [upd_ne (no c _ r)]; exact r) λ c xs r=>by rw [upd_ne (nt c xs r)]; exact r
theorem Inv.hold {D:Addr}{ob:Obj}(I:Inv X pins σ H s)(e:s.heap.get? D=some ob)(hn:H D=none)
  (h0:X.s₀.heap.objs.size<=D)(hL:D≠X.env.locals)(hc:∀ x c,X.env.cells.lookup x=some c->c≠D)(hp:∀ p∈X.pn++pins,p.1≠D):Inv X pins σ (upd H D (.frz ob (.own 0))) s:=by
 have ne:∀ b u,H b=some u->b≠D:=λ b u q=>ne_of_none q hn
 refine I.step (h':=s.heap) (g':=s.gens) (d':=s.drawn) (t':=s.toks) (ch:=[D]) (λ b hb=>?_) (λ b o _ _ _ q _=>q) (λ b o _ _ _ q _=>⟨o.slots,q⟩) (λ b o hb q n=>?_) (λ b o _ q=>⟨o,q⟩)
  (λ b xs q=>by rw [upd_ne (ne b _ q)]; exact q) (λ b o u q=>by rw [upd_ne (ne b _ q)]; exact q) (λ b ps q=>⟨#[],by rw [upd_ne (ne b _ q),q]; simp⟩) (λ m hm=>hm) (λ b u q=>?_) I.bare
 ·have e:b=D:=by simpa using hb
  subst e
  exact ⟨.inr h0,hL,hc,hp⟩
 ·rw [upd_ne (λ z=>hb (by simp [z]))]; exact n
 ·by_cases hb:b=D
  ·subst hb
   rw [upd_same] at q
   cases q
   exact ⟨e,ob,e⟩
  ·rw [upd_ne hb] at q
   exact (I.hok b u q).stay (λ _ _ _ q=>q) (λ c r=>by rw [upd_ne (ne c _ r)]; exact r) λ c xs r=>by rw [upd_ne (ne c _ r)]; exact r
noncomputable def ClOk (X:Cx)(sc:Scope)(cl:List (Str×Addr)):Prop:=(∀ n c,cl.lookup n=some c->X.env.cells.lookup n=some c)/\∀ n,(n,NameKind.free)∈sc.names->∃ c,cl.lookup n=some c
noncomputable abbrev lamPs (ps:Array Value)(lpos:Pos)(c:Addr):Array Value:=ps ++ #[rawInt lpos.line,rawInt lpos.col,.ref c]
noncomputable def tLam (X:Cx)(P:Addr)(q:Str)(params:Arguments)(body:Expr)(sc:Scope)(lpos:Pos):TE:=λ σ H Q=>∃ ps,H P=some (.tbl ps)/\TriplesOk ps.toList /\
 ((codeAmong lpos ps.toList=none/\∀ c f oc vs t ctv cl,ClOk X sc cl->H c=none->H f=none->c≠f->oc.data=.fields vs->vs[1]? = some (.str q t) ->
   Q (.ref f) (upd (upd (upd H c (.frz oc (.own 0))) P (.tbl (lamPs ps lpos c))) f (.frz (kla_obj "<lambda>" q params body sc cl ((X.mg "__name__").getD .none) c ctv) (.own 0)))) \/
∃ c o vs t,codeAmong lpos ps.toList=some (.ref c)/\H c=some (.frz o (.own 0))/\o.data=.fields vs/\vs[1]? = some (.str q t)/\∀ f ctv cl,ClOk X sc cl->H f=none ->
   Q (.ref f) (upd H f (.frz (kla_obj "<lambda>" q params body sc cl ((X.mg "__name__").getD .none) c ctv) (.own 0))))
theorem pe_lam {P cd:Addr}{params:Arguments}{body:Expr}{sc:Scope}{lpos:Pos}{x:Str}{fr:List Nat}(L:LamOk X sc x fr)(hcode:X.env.code=.ref cd)(hcd:PySem.W.codeHdIn X.K cd P=true)(hdef:defaultsOf params X.env=([],[]):=by rfl) :
  PE X (.Lambda params body sc lpos) (tLam X P (X.env.qual ++ "<lambda>") params body sc lpos):=by
 intro pins s σ H Q I h
 obtain ⟨ps,hP,ht,h⟩:=h
 obtain ⟨cl,hcl,c1,c2⟩:=closure_some (scope:=sc) (env:=X.env) λ y hy hf=>I.ok.has y.1 (L.free y hy hf)
 refine PySem.W.kla_eval hdef ?_
 have hg:=I.ok.mod.glob.keeps I.bk
 obtain ⟨⟨bm,ob,b1,b2,b3,b4,b5,b6⟩,_⟩:=I.ok.mod.bm
 have b3':=I.bk _ _ b3
 have hPo:s.heap.get? P=some { cls:=.none,data:=.fields ps }:=I.hok P _ hP
 have hgP:mainGlobals≠P:=λ z=>by
  obtain ⟨o,es,ep,e,hd,_⟩:=hg
  rw [z,hPo] at e; cases e; cases hd
 have hbP:bm≠P:=λ z=>by rw [z,hPo] at b3'; cases b3'; cases b4
 have hbG:bm≠mainGlobals:=λ z=>by
  obtain ⟨o,es,ep,e,hd,_⟩:=hg
  rw [z,e] at b3'; cases b3'; rw [hd] at b6; cases b6
 have C:=PySem.W.codeHd_of_K I.kIn hcd
 rcases h with ⟨hnf,h⟩ | ⟨c,o,vs,t,hf,hc,hd,hv,h⟩
 ·refine PySem.W.kla_makeFunction (mg:=X.mg) hcl I.ok.glob hg hcode C hPo ht hnf hgP ⟨bm,ob,b1,b2,hbG,hbP,b3',b4,b5,b6⟩ λ c' ctv h' tk hx hge hlt hrec htb=>?_
  obtain ⟨c₂,oc,vs,t,e2,hoc,hd,hv⟩:=hrec
  cases e2
  have hcn:H c'=none:=I.hok.fresh hge
  have hfn:H h'.objs.size=none:=I.hok.fresh (Nat.le_trans hge (Nat.le_of_lt hlt))
  have cP:c'≠P:=Ne.symm (ne_of_none hP hcn)
  have I1:=I.tblGrow (t':=tk) hP (λ b u hb e=>hx b u hb e) htb
  have I2:=I1.hold hoc (by rw [upd_ne cP]; exact hcn) (Nat.le_trans I.sz hge) (λ z=>by obtain ⟨m,hn,_⟩:=I.loc; exact absurd (Nat.lt_of_lt_of_le hn.lt hge) (by rw [z]; exact Nat.lt_irrefl _))
   (λ y c hy z=>by obtain ⟨w,o,ho,_⟩:=I.cell y c hy; exact absurd (Nat.lt_of_lt_of_le (Heap.lt_size ho) hge) (by rw [z]; exact Nat.lt_irrefl _))
   (λ p hp z=>by obtain ⟨ho,_⟩:=I.pin p hp; exact absurd (Nat.lt_of_lt_of_le (Heap.lt_size ho) hge) (by rw [z]; exact Nat.lt_irrefl _))
  have hsw:upd (upd H P (.tbl (lamPs ps lpos c'))) c' (.frz oc (.own 0))=upd (upd H c' (.frz oc (.own 0))) P (.tbl (lamPs ps lpos c')):=by
   funext b
   unfold upd
   by_cases e1:b=c'
   ·rw [if_pos e1,if_neg (by rw [e1]; exact cP),if_pos e1]
   ·rw [if_neg e1,if_neg e1]
  rw [hsw] at I2
  have I3:=I2.laid (t':=tk) (o:=.frz (kla_obj "<lambda>" (X.env.qual ++ "<lambda>") params body sc cl ((X.mg "__name__").getD .none) c' ctv) (.own 0)) (h':=h'.push (kla_obj "<lambda>" (X.env.qual ++ "<lambda>") params body sc cl ((X.mg "__name__").getD .none) c' ctv)) (λ b u e=>Heap.get?_push_of_some _ e) (Nat.le_refl _) ⟨Heap.get?_push_size _ rfl,_,Heap.get?_push_size _ rfl⟩
  exact ⟨.ref _,_,I3,rfl,h c' h'.objs.size oc vs t ctv cl ⟨c1,c2⟩ hcn hfn (Nat.ne_of_lt hlt) hd hv⟩
 ·refine PySem.W.kla_makeFunctionHit (mg:=X.mg) hcl I.ok.glob hg hcode C hPo ht hf ⟨bm,ob,b1,b2,hbG,hbP,b3',b4,b5,b6⟩ λ ctv h' tk hk hsz=>?_
  have I3:=(I.kept (t':=tk) hk).laid (t':=tk) (o:=.frz (kla_obj "<lambda>" (X.env.qual ++ "<lambda>") params body sc cl ((X.mg "__name__").getD .none) c ctv) (.own 0)) (h':=h'.push (kla_obj "<lambda>" (X.env.qual ++ "<lambda>") params body sc cl ((X.mg "__name__").getD .none) c ctv)) (λ b u e=>Heap.get?_push_of_some _ e) (Nat.le_refl _) ⟨Heap.get?_push_size _ rfl,_,Heap.get?_push_size _ rfl⟩
  exact ⟨.ref _,_,I3,rfl,h _ ctv cl ⟨c1,c2⟩ (I.hok.fresh hsz)⟩
end
end L2
namespace L2
open PySem PySem.Spec PyProof.Rows
noncomputable def in1X (X:Cx):Cx:={ X with A:=X.A.in1 }
section
variable {X:Cx}{pins:List (Addr×Obj)}{σ:St}{H:Hp}{s:Shared}
theorem Inv.in1 (I:Inv X pins σ H s):Inv (in1X X) pins σ H s :=
 ⟨⟨I.ok.mod,I.ok.kind,I.ok.glob,I.ok.blt,I.ok.above,I.ok.inj,I.ok.has,I.ok.cab,I.ok.hd,I.ok.frames,I.ok.stk,I.ok.exf,I.ok.bs,I.ok.bsz,I.ok.noex,I.ok.exfs,I.ok.funs,I.ok.frf⟩,I.os,I.bare,I.base,I.loc,I.cell,I.free,I.freeC,I.pin,I.hok,I.len⟩
theorem Inv.out1 (I:Inv (in1X X) pins σ H s):Inv X pins σ H s :=
 ⟨⟨I.ok.mod,I.ok.kind,I.ok.glob,I.ok.blt,I.ok.above,I.ok.inj,I.ok.has,I.ok.cab,I.ok.hd,I.ok.frames,I.ok.stk,I.ok.exf,I.ok.bs,I.ok.bsz,I.ok.noex,I.ok.exfs,I.ok.funs,I.ok.frf⟩,I.os,I.bare,I.base,I.loc,I.cell,I.free,I.freeC,I.pin,I.hok,I.len⟩
theorem Inv.turnF {it:Addr}{h':Heap}{t':Nat}(I:Inv X pins σ H s)(f:FpOk X pins H it)(k:∀ b o,b≠it->s.heap.get? b=some o->h'.get? b=some o):Inv X pins σ H { s with heap:=h',toks:=t' } :=
 I.turned k f.1 f.2.1 f.2.2.2.1 f.2.2.2.2.1 f.2.2.2.2.2
theorem Inv.pin2 {a b:Addr}{oa ob:Obj}(I:Inv X pins σ H s)(fa:FpOk X pins H a)(fb:FpOk X pins H b)(ea:s.heap.get? a=some oa)(eb:s.heap.get? b=some ob)(ca:∀ v,oa.data ≠ .cell v)(cb:∀ v,ob.data ≠ .cell v):Inv X ((a,oa) :: (b,ob) :: pins) σ H s :=
 I.pins_of λ p hp=>by
  rcases List.mem_cons.mp hp with e | hp
  ·subst e; exact ⟨ea,fa.1,fa.2.1,fa.2.2.1,ca⟩
  rcases List.mem_cons.mp hp with e | hp
  ·subst e; exact ⟨eb,fb.1,fb.2.1,fb.2.2.1,cb⟩
  ·exact I.pin p (List.mem_append_right _ hp)
theorem Inv.unpin2 {a b:Addr}{oa ob:Obj}(I:Inv X ((a,oa) :: (b,ob) :: pins) σ H s):Inv X pins σ H s/\(s.heap.get? a=some oa/\H a=none)/\s.heap.get? b=some ob/\H b=none :=
 have pa:=I.pin (a,oa) (List.mem_append_right _ (.head _))
 have pb:=I.pin (b,ob) (List.mem_append_right _ (.tail _ (.head _)))
 ⟨I.pins_of λ p hp=>I.pin p (List.mem_append_right _ (.tail _ (.tail _ hp))),⟨pa.1,pa.2.1⟩,pb.1,pb.2.1⟩
theorem lst_iter {l a:Addr}{items:Array Value}{i:Nat}{h:Heap}(hl:h.IsList l items)(hi:h.IsListIter a l i):l≠a:=by
 rintro rfl
 obtain ⟨o,e,c,_⟩:=hl
 obtain ⟨o',e',c',_⟩:=hi
 rw [e] at e'
 cases e'
 rw [c] at c'
 exact absurd (Value.type.inj c') (by decide)
variable {l f it S:Addr}{xs:List V}{R:Result->Shared->Prop}
theorem min_turns (kf:Nat->Int)(W:Nat->Hp->Prop)(hh:X.A.handled=none)(hl:∀ i H,W i H->SqL X.K H l xs)(hSI:S≠it)(fI:∀ H:Hp,H it=none->FpOk X pins H it)(fS:∀ H:Hp,H S=none->FpOk X pins H S)
  (turn:∀ (i:Nat) (v:V) (u:Value) (pl:List (Addr×Obj)) (H:Hp) (s:Shared),xs[i]? = some v->RelV v u->W i H->Inv (in1X X) pl σ H s->wpAny (model X.prog X.w) X.A.in1 (call (.ref f) [u]) (EP (in1X X) pl σ λ y H'=>y=.int (kf i)/\W (i+1) H') (λ _ _=>False) s)
  (fin:∀ (i:Nat) (v:V) (u:Value) (H:Hp) (s:Shared),xs[i]? = some v->RelV v u->(∀ j,j < xs.length->kf i<=kf j/\(j < i->kf i < kf j))->W xs.length H->Inv X pins σ H s->R (.ok (.ret u)) s) :
  ∀ (r j i:Nat) (H:Hp) (s:Shared) (v:V) (u:Value) (tb:Tok) (c:Nat),xs.length - (j+1)=r->j+1<=xs.length->Inv X pins σ H s->W (j+1) H->H it=none->H S=none ->
   s.heap.get? S=some (seqObj "list" #[u,.int (kf i) tb] c)->s.heap.IsListIter it l (j+1)->xs[i]? = some v->RelV v u->i<=j->(∀ m,m<=j->kf i<=kf m/\(m < i->kf i < kf m)) ->
   codeAny (model X.prog X.w) X.A (.builtin "min.loop" ⟨[.ref it,.ref f,.ref S],[]⟩) R s:=by
 have nm:(toString "min" ++ toString ".loop" : String) = "min.loop" := by decide
 intro r
 induction r with
 | zero =>
  intro j i H s v u tb c hr hj J hW nI nS gS gI hv ru hij best
  have hin:j+1=xs.length:=by omega
  obtain ⟨its,rl,pl,hz⟩:=J.list (hl _ _ hW)
  have sz:its.toArray.size=xs.length:=by rw [List.size_toArray,rl.length]
  have Wk:=Walks.list (prog:=X.prog) (w:=X.w) (A:=X.A.in1) hh it l (lst_iter pl.isList gI) its.toArray
  refine codeAny_builtin PySem.F.entry_min_loop ?_; rw [Around.under_plainId PySem.F.plain_min_loop _]
  show wpAny _ X.A.in1 (seqItems? (.ref S) >>= _) _ _ _
  refine wpAny_bind (wpAny_seqItems gS rfl ?_)
  show wpAny _ X.A.in1 (tryCatch (pyNext (.ref it)) _ >>= _) _ _ _
  refine wpAny_bind (wpAny_tryCatch (Wk.done _ _ _ ⟨by rw [sz,<- hin]; exact gI,pl.isList⟩ λ h' tk' hk'=>?_))
  have J1:=J.turnF (t':=tk') (fI H nI) λ b o hb e=>hk' b o (by simpa using hb) e
  have gS':=hk' S _ (by simpa using hSI) gS
  have s1:=Heap.SameBut.update h' S (Obj.mapSeq λ _=>(#[]:Array Value))
  show wpAny _ X.A.in1 (updateSeq S (λ _=>#[]) >>= _) _ _ _
  refine wpAny_bind (wpAny_updateSeq gS' rfl (wpAny_bind (wpAny_letGo (wpAny_pure ?_))))
  exact fin i v u H _ hv ru (λ m hm=>best m (by omega)) (by rw [<- hin]; exact hW) (J1.turnF (t':=tk') (fS H nS) λ b o hb e=>(s1.2 b hb).trans e)
 | succ r ih =>
  intro j i H s v u tb c hr hj J hW nI nS gS gI hv ru hij best
  have hlt:j+1 < xs.length:=by omega
  obtain ⟨its,rl,pl,hz⟩:=J.list (hl _ _ hW)
  have sz:its.toArray.size=xs.length:=by rw [List.size_toArray,rl.length]
  have Wk:=Walks.list (prog:=X.prog) (w:=X.w) (A:=X.A.in1) hh it l (lst_iter pl.isList gI) its.toArray
  refine codeAny_builtin PySem.F.entry_min_loop ?_; rw [Around.under_plainId PySem.F.plain_min_loop _]
  show wpAny _ X.A.in1 (seqItems? (.ref S) >>= _) _ _ _
  refine wpAny_bind (wpAny_seqItems gS rfl ?_)
  show wpAny _ X.A.in1 (tryCatch (pyNext (.ref it)) _ >>= _) _ _ _
  refine wpAny_bind (wpAny_tryCatch (Wk.item (j+1) _ _ _ (by rw [sz]; exact hlt) ⟨gI,pl.isList⟩ λ u2 h' tk' hP hst hk'=>?_))
  have J1:=J.turnF (t':=tk') (fI H nI) λ b o hb e=>hk' b o (by simpa using hb) e
  have gS1:=hk' S _ (by simpa using hSI) gS
  obtain ⟨oI,goI,coI,doI⟩:=id hst.1
  obtain ⟨v2,hv2⟩:∃ v2,xs[j+1]? = some v2:=⟨_,List.getElem?_eq_getElem hlt⟩
  obtain ⟨u3,hu3,ru2⟩:=rl.get hv2
  have eu:u3=u2:=by
   have hP':its[j+1]? = some u2:=by simpa using hP
   rw [hu3] at hP'
   exact Option.some.inj hP'
  subst eu
  show wpAny _ X.A.in1 (tryCatch (holding [u3] (call (.ref f) [u3])) _ >>= _) _ _ _
  have JP:=J1.pin2 (fS H nS) (fI H nI) gS1 goI (λ _ z=>nomatch z) (λ _ z=>by rw [doI] at z; cases z)
  refine wpAny_bind (wpAny_tryCatch (wpAny_holding (wpAny_mono (turn (j+1) v2 u3 _ H _ hv2 ru2 hW JP.in1) (λ x s2 he=>?_) λ _ _ hF=>hF.elim)))
  obtain ⟨y,H2,J2,ry,ey,hW2⟩:=he
  subst ey
  obtain ⟨t2,rfl⟩:=ry
  obtain ⟨J3,⟨gS2,nS2⟩,goI2,nI2⟩:=J2.out1.unpin2
  have gI2:s2.heap.IsListIter it l (j+1+1):=⟨oI,goI2,coI,doI⟩
  show wpAny _ X.A.in1 (tryCatch (holding [u3,.int (kf (j+1)) t2] (richCompare .Lt (.int (kf (j+1)) t2) (.int (kf i) tb) >>= _)) _ >>= _) _ _ _
  refine wpAny_bind (wpAny_tryCatch (wpAny_holding (wpAny_bind (CmpOf.ints_lt (prog:=X.prog) (w:=X.w) (A:=X.A.in1) (P:=λ i v=>∃ t,v=.int (kf i) t) kf (λ i v h=>h) (j+1) i _ _ _ _ _ ⟨t2,rfl⟩ ⟨tb,rfl⟩ ?_))))
  refine wpAny_bind (wpAny_holding (wpAny_truthy_bool (wpAny_bind (wpAny_letGo (wpAny_pure ?_)))))
  by_cases hb':kf (j+1) < kf i
  ·have s1:=Heap.SameBut.update s2.heap S (Obj.mapSeq λ _=>#[u3,.int (kf (j+1)) t2])
   obtain ⟨c2,hc2⟩:∃ c2,(s2.heap.update S (Obj.mapSeq λ _=>#[u3,.int (kf (j+1)) t2])).get? S=some (seqObj "list" #[u3,.int (kf (j+1)) t2] c2):=⟨_,get?_update_seq gS2 λ _=>#[u3,.int (kf (j+1)) t2]⟩
   simp only [hb',decide_true,if_true]
   refine wpAny_bind (wpAny_updateSeq gS2 rfl (wpAny_bind (wpAny_letGo ?_))); rw [nm]
   have J4:=J3.turnF (t':=s2.toks) (h':=s2.heap.update S (Obj.mapSeq λ _=>#[u3,.int (kf (j+1)) t2])) (fS H2 nS2) λ b o hb e=>(s1.2 b hb).trans e
   refine wpAny_pure ⟨plainId_quiet PySem.F.plain_min_loop _,ih (j+1) (j+1) H2 _ v2 u3 t2 c2 (by omega) hlt J4 hW2 nI2 nS2 hc2 ⟨oI,(s1.2 it hSI.symm).trans goI2,coI,doI⟩ hv2 ru2 (Nat.le_refl _) λ m hm=>?_⟩
   by_cases e:m=j+1
   ·subst e; exact ⟨by omega,λ _=>by omega⟩
   ·have:=(best m (by omega)).1
    exact ⟨by omega,λ _=>by omega⟩
  ·simp only [hb',decide_false,Bool.false_eq_true,if_false]
   refine wpAny_bind (wpAny_letGo ?_); rw [nm]
   refine wpAny_pure ⟨plainId_quiet PySem.F.plain_min_loop _,ih (j+1) i H2 s2 v u tb c (by omega) hlt J3 hW2 nI2 nS2 gS2 gI2 hv ru (by omega) λ m hm=>?_⟩
   by_cases e:m=j+1
   ·subst e; exact ⟨by omega,λ _=>by omega⟩
   ·exact best m (by omega)
theorem min_key {Q:Value->Shared->Prop}{E:Value->Shared->Prop}(kf:Nat->Int)(W:Nat->Hp->Prop)(hh:X.A.handled=none)(I:Inv X pins σ H s)(hW:W 0 H)(hne:0 < xs.length)(hl:∀ i H,W i H->SqL X.K H l xs)
  (turn:∀ (i:Nat) (v:V) (u:Value) (pl:List (Addr×Obj)) (H:Hp) (s:Shared),xs[i]? = some v->RelV v u->W i H->Inv (in1X X) pl σ H s->wpAny (model X.prog X.w) X.A.in1 (call (.ref f) [u]) (EP (in1X X) pl σ λ y H'=>y=.int (kf i)/\W (i+1) H') (λ _ _=>False) s)
  (fin:∀ (i:Nat) (v:V) (u:Value) (H:Hp) (s:Shared),xs[i]? = some v->RelV v u->(∀ j,j < xs.length->kf i<=kf j/\(j < i->kf i < kf j))->W xs.length H->Inv X pins σ H s->Q u s) :
  wpAny (model X.prog X.w) X.A (call (.builtin "min") [.ref l] [(Str.ofString "key",.ref f)]) Q E s:=by
 have nm:(toString "min" ++ toString ".loop" : String) = "min.loop" := by decide
 obtain ⟨its,rl,pl,hz⟩:=I.list (hl _ _ hW)
 have sz:its.toArray.size=xs.length:=by rw [List.size_toArray,rl.length]
 obtain ⟨ol,hol,_⟩:=id pl.isList
 have hll:l < s.heap.objs.size:=Heap.lt_size hol
 refine kmk_tree PySem.F.kind_min PySem.F.plain_min PySem.F.entry_min (kmk_min_key _ _) ?_
 show wpAny _ X.A.in1 (Builtin.Builtins.bindParams "min" ["key", "default"] 0 ⟨[],[(Str.ofString "key",.ref f)]⟩ >>= _) _ _ s
 refine wpAny_bind (wpAny_of_eq (show Builtin.Builtins.bindParams "min" ["key", "default"] 0 ⟨[],[(Str.ofString "key",.ref f)]⟩=pure [some (.ref f),none] from rfl) (wpAny_bind (wpAny_pure ?_)))
 refine wpAny_bind (wpAny_pyIter_list pl.isList (wpAny_bind (wpAny_newList ?_ (Nat.zero_le _)))); rw [nm]
 generalize hit:s.heap.objs.size=it
 have hS:(s.heap.push { cls:=.type "list_iterator",data:=.fields #[.ref l,.int 0 0] }).objs.size=it+1:=by rw [<- hit]; exact size_push' ..
 rw [hS]
 have nI:H it=none:=I.hok.fresh (by rw [hit]; exact Nat.le_refl _)
 have nS:H (it+1)=none:=I.hok.fresh (by rw [hit]; exact Nat.le_succ _)
 have fI:∀ H:Hp,H it=none->FpOk X pins H it:=λ H n=>I.fpOk (by rw [hit]; exact Nat.le_refl _) n
 have fS:∀ H:Hp,H (it+1)=none->FpOk X pins H (it+1):=λ H n=>I.fpOk (by rw [hit]; exact Nat.le_succ _) n
 have gI:((s.heap.push { cls:=.type "list_iterator",data:=.fields #[.ref l,.int 0 0] }).push (seqObj "list" #[] 0)).get? it=some { cls:=.type "list_iterator",data:=.fields #[.ref l,.int 0 0] }:=Heap.get?_push_of_some _ (by rw [<- hit]; exact Heap.get?_push_size _ rfl)
 have gS:((s.heap.push { cls:=.type "list_iterator",data:=.fields #[.ref l,.int 0 0] }).push (seqObj "list" #[] 0)).get? (it+1)=some (seqObj "list" #[] 0):=by rw [<- hS]; exact Heap.get?_push_size _ rfl
 refine wpAny_pure ⟨plainId_quiet PySem.F.plain_min_loop _,?_⟩
 generalize hH:(s.heap.push { cls:=.type "list_iterator",data:=.fields #[.ref l,.int 0 0] }).push (seqObj "list" #[] 0)=hp at gI gS
 have kp:∀ b o,s.heap.get? b=some o->hp.get? b=some o:=λ b o e=>by rw [<- hH]; exact Heap.get?_push_of_some _ (Heap.get?_push_of_some _ e)
 have J:=I.kept (t':=s.toks) kp
 have hlI:l≠it:=by rw [<- hit]; exact Nat.ne_of_lt hll
 have hlst:hp.IsList l its.toArray:=pl.isList.at λ o e=>kp l o e
 have Wk:=Walks.list (prog:=X.prog) (w:=X.w) (A:=X.A.in1) hh it l hlI its.toArray
 refine codeAny_builtin PySem.F.entry_min_loop ?_; rw [Around.under_plainId PySem.F.plain_min_loop _]
 show wpAny _ X.A.in1 (seqItems? (.ref (it+1)) >>= _) _ _ _
 refine wpAny_bind (wpAny_seqItems gS rfl ?_)
 show wpAny _ X.A.in1 (tryCatch (pyNext (.ref it)) _ >>= _) _ _ _
 refine wpAny_bind (wpAny_tryCatch (Wk.item 0 _ _ _ (by rw [sz]; exact hne) ⟨⟨_,gI,rfl,rfl⟩,hlst⟩ λ u2 h' tk' hP hst hk'=>?_))
 have J1:=J.turnF (t':=tk') (fI H nI) λ b o hb e=>hk' b o (by simpa using hb) e
 have gS1:=hk' (it+1) _ (by simp) gS
 obtain ⟨oI,goI,coI,doI⟩:=id hst.1
 obtain ⟨v2,hv2⟩:∃ v2,xs[0]? = some v2:=⟨_,List.getElem?_eq_getElem hne⟩
 obtain ⟨u3,hu3,ru2⟩:=rl.get hv2
 have eu:u3=u2:=by
  have hP':its[0]? = some u2:=by simpa using hP
  rw [hu3] at hP'
  exact Option.some.inj hP'
 subst eu
 show wpAny _ X.A.in1 (tryCatch (holding [u3] (call (.ref f) [u3])) _ >>= _) _ _ _
 have JP:=J1.pin2 (fS H nS) (fI H nI) gS1 goI (λ _ z=>nomatch z) (λ _ z=>by rw [doI] at z; cases z)
 refine wpAny_bind (wpAny_tryCatch (wpAny_holding (wpAny_mono (turn 0 v2 u3 _ H _ hv2 ru2 hW JP.in1) (λ x s2 he=>?_) λ _ _ hF=>hF.elim)))
 obtain ⟨y,H2,J2,ry,ey,hW2⟩:=he
 subst ey
 obtain ⟨t2,rfl⟩:=ry
 obtain ⟨J3,⟨gS2,nS2⟩,goI2,nI2⟩:=J2.out1.unpin2
 have s1:=Heap.SameBut.update s2.heap (it+1) (Obj.mapSeq λ _=>#[u3,.int (kf 0) t2])
 obtain ⟨c2,hc2⟩:∃ c2,(s2.heap.update (it+1) (Obj.mapSeq λ _=>#[u3,.int (kf 0) t2])).get? (it+1)=some (seqObj "list" #[u3,.int (kf 0) t2] c2):=⟨_,get?_update_seq gS2 λ _=>#[u3,.int (kf 0) t2]⟩
 show wpAny _ X.A.in1 (updateSeq (it+1) (λ _=>#[u3,.int (kf 0) t2]) >>= _) _ _ _
 refine wpAny_bind (wpAny_updateSeq gS2 rfl ?_); rw [nm]
 have J4:=J3.turnF (t':=s2.toks) (h':=s2.heap.update (it+1) (Obj.mapSeq λ _=>#[u3,.int (kf 0) t2])) (fS H2 nS2) λ b o hb e=>(s1.2 b hb).trans e
 refine wpAny_pure ⟨plainId_quiet PySem.F.plain_min_loop _,min_turns kf W hh hl (by simp) fI fS turn fin _ 0 0 H2 _ v2 u3 t2 c2 rfl hne J4 hW2 nI2 nS2 hc2 ⟨oI,(s1.2 it (by simp)).trans goI2,coI,doI⟩ hv2 ru2 (Nat.le_refl _) λ m hm=>?_⟩
 have e:m=0:=by omega
 subst e
 exact ⟨by omega,λ h=>absurd h (Nat.lt_irrefl _)⟩
end
end L2
namespace D
open PySem PySem.Spec PyProof.Rows L2
open PySem.W (kla_obj kla_fn)
noncomputable def lamSD (w:W)(fr:List Nat)(τ:DS):DS:=some w :: fr.map λ j=>(τ[j]?).getD none
section
variable {X:Cx}{K:PySem.W.Frag}
theorem abs_lam {H:Hp}{σ:St}{τ:DS}{M:MH}{v:V}{w:W}(A:Abs K H σ τ M)(r:RepW K H w v)(fr:List Nat):Abs K H (lamS v fr σ) (lamSD w fr τ) M:=(abs_lc A 1 fr).set 0 r
theorem updM_id {M:MH}{a:Addr}{o:MO}(h:M a=some o):updM M a o=M:=by
 funext b
 by_cases e:b=a
 ·rw [e,updM_same,h]
 ·rw [updM_ne e]
theorem code_grown {H:Hp}{M:MH}{P c:Addr}{ps:Array Value}{q:Str}{lpos:Pos}{oc:Obj}{vs:Array Value}{t:Tok}(m:MAbs K H M)(hP:M P=some (.code q lpos))(hT:H P=some (.tbl ps))(ht:TriplesOk ps.toList)(hn:codeAmong lpos ps.toList=none)(hc:H c=none)(hd:oc.data=.fields vs)(hv:vs[1]? = some (.str q t)) :
  Kp H (upd (upd H c (.frz oc (.own 0))) P (.tbl (lamPs ps lpos c)))/\MAbs K (upd (upd H c (.frz oc (.own 0))) P (.tbl (lamPs ps lpos c))) M:=by
 have cP:c≠P:=Ne.symm (ne_of_none hT hc)
 have hT':upd H c (.frz oc (.own 0)) P=some (.tbl ps):=by rw [upd_ne (Ne.symm cP)]; exact hT
 have k2:Kp (upd H c (.frz oc (.own 0))) (upd (upd H c (.frz oc (.own 0))) P (.tbl (lamPs ps lpos c))):=Kp.set hT' (λ _ z=>nomatch z) (λ _ _ z=>nomatch z)
 refine ⟨(Kp.new hc).trans k2,?_⟩
 have e:(lamPs ps lpos c).toList=ps.toList++[rawInt lpos.line,rawInt lpos.col,.ref c]:=by simp [lamPs]
 have:=(m.new (o:=.frz oc (.own 0)) hc).put (mo:=.code q lpos) k2 ⟨_,upd_same,by rw [e]; exact TriplesOk_snoc _ _ _ _ ht,.inr ⟨c,oc,vs,t,by rw [e]; exact codeAmong_snoc _ ht hn,by rw [upd_ne cP,upd_same],hd,hv⟩⟩
 rw [updM_id hP] at this
 exact this
noncomputable def dMinK (P:Addr)(q:Str)(lpos:Pos)(to tb:TD)(fr:List Nat)(τ:DS)(M:MH)(Q:QD):Prop:=to τ M λ w M1=>∃ ds,w=.d (.list ds)/\ds≠[]/\M1 P=some (.code q lpos) /\
 ∃ kf:Nat->Int,(∀ i d,ds[i]? = some d->tb (lamSD (.d d) fr τ) M1 λ y M2=>y=.d (.int (kf i))/\M2=M1)/\∀ i d,ds[i]? = some d->(∀ j,j < ds.length->kf i<=kf j/\(j < i->kf i < kf j))->Q (.d d) M1
variable {P cd:Addr}{q x:Str}{lpos pos p kpos:Pos}{params:Arguments}{body o:Expr}{sc:Scope}{fr:List Nat}{to tb:TD}{k:Nat}
theorem LamH.keep {H H':Hp}{q x:Str}{params:Arguments}{body:Expr}{sc:Scope}{cl:List (Str×Addr)}{pm:Value}{f:Addr}(h:LamH H q x params body sc cl pm f)(kp:Kp H H'):LamH H' q x params body sc cl pm f:=by
 obtain ⟨c,ctv,oc,vs,t,h1,h2,h3,h4⟩:=h
 exact ⟨c,ctv,oc,vs,t,kp.frz _ _ _ h1,kp.frz _ _ _ h2,h3,h4⟩
theorem pd_minK0 (hr:Room (k+2) X.A)(hc:X.calm=true)(hg:Gl X "min")(hm:X.mg "min" = none)(L:LamOk X sc x fr)(hcode:X.env.code=.ref cd)(hcd:PySem.W.codeHdIn X.K cd P=true)(hq:X.env.qual ++ "<lambda>" = q)
  (hb:∀ cl pm cdv ctv u,bindArgs (kla_fn "<lambda>" q params body sc cl pm cdv ctv) ⟨[u],[]⟩=pure [(x,u)])(ho:PD X o to)
  (he:∀ cl f c s H pl,Room k (lamX (in1X X) q sc (lamN X x fr) cl f c s H pl).A->PD (lamX (in1X X) q sc (lamN X x fr) cl f c s H pl) body tb)(hso:isSt o=false:=by rfl)(hdef:defaultsOf params X.env=([],[]):=by rfl) :
  PD X (.Call (.Name "min" p) [o] [⟨some "key",.Lambda params body sc lpos,kpos⟩] pos) (dMinK P q lpos to tb fr):=by
 intro pins s σ H Q I h
 subst hq
 have hst:starEach [o] X.env=(false,eval o X.env) :: starEach [] X.env:=star_ok o [] X.env hso
 have pa:PA X [o] (tCons (up X.K to) tNil):=pa_cons ho pa_nil hst
 have pk:PK X [⟨some "key",.Lambda params body sc lpos,kpos⟩] (tCons (tLam X P (X.env.qual ++ "<lambda>") params body sc lpos) tNil):=pk_cons (pe_lam L hcode hcd hdef) pk_nil
 obtain ⟨τ,M,Qd,A,h,kk⟩:=h
 refine wpAny_Call_Name_kw (ld_blt I hg hm bb_min (callWith_kw (he:=by rw [hst]; rfl) (hplain:=plain_ok pos X.env [o] (by simp [hso])) ?_))
 refine thn (pa pos pins s σ H (λ vs H1=>∃ v w M1,vs=[v]/\Kp H H1/\RepW X.K H1 w v/\MAbs X.K H1 M1/\∃ ds,w=.d (.list ds)/\ds≠[]/\M1 P=some (.code (X.env.qual ++ "<lambda>") lpos) /\
  ∃ kf:Nat->Int,(∀ i d,ds[i]? = some d->tb (lamSD (.d d) fr τ) M1 λ y M2=>y=.d (.int (kf i))/\M2=M1)/\∀ i d,ds[i]? = some d->(∀ j,j < ds.length->kf i<=kf j/\(j < i->kf i < kf j))->Qd (.d d) M1) I
  ⟨τ,M,_,A,h,λ x H1 w M1 kp r m z=>⟨x,w,M1,rfl,kp,r,m,z⟩⟩) λ us s1 ⟨vs,H1,I1,r1,hx⟩=>?_
 obtain ⟨v,w,M1,ev,kp1,rw1,m1,ds,ew,hne,hP,kf,hkey,hfin⟩:=hx
 subst ev ew
 simp only [RepW,RepD] at rw1
 obtain ⟨a,xs,ea,hs,ra⟩:=rw1
 subst ea
 obtain ⟨u,rfl,ru⟩:=vals1 r1
 cases (show u=Value.ref a from ru)
 obtain ⟨ps,hT,ht,hcA⟩:=m1 P _ hP
 refine thn (pk pos pins s1 σ H1 (λ ks H2=>∃ f cl,ks=[.ref f]/\Kp H1 H2/\MAbs X.K H2 M1/\ClOk X sc cl/\LamH H2 (X.env.qual ++ "<lambda>") x params body sc cl ((X.mg "__name__").getD .none) f) I1 ?_) λ kus s2 ⟨ks,H2,I2,r2,f,cl,ek,kp2,m2,hcl,hlam⟩=>?_
 ·refine ⟨ps,hT,ht,?_⟩
  rcases hcA with hn | ⟨c,oc,vs,t,e1,e2,e3,e4⟩
  ·refine .inl ⟨hn,λ c f oc vs t ctv cl hcl hc0 hf0 hcf hd hv=>?_⟩
   obtain ⟨k3,m3⟩:=code_grown m1 hP hT ht hn hc0 hd hv
   have fP:f≠P:=Ne.symm (ne_of_none hT hf0)
   have cP:c≠P:=Ne.symm (ne_of_none hT hc0)
   have hf1:upd (upd H1 c (.frz oc (.own 0))) P (.tbl (lamPs ps lpos c)) f=none:=by rw [upd_ne fP,upd_ne (Ne.symm hcf)]; exact hf0
   exact ⟨f,cl,rfl,k3.trans (Kp.new hf1),m3.new hf1,hcl,c,ctv,oc,vs,t,upd_same,by rw [upd_ne hcf,upd_ne cP,upd_same],hd,hv⟩
  ·exact .inr ⟨c,oc,vs,t,e1,e2,e3,e4,λ f ctv cl hcl hf0=>⟨f,cl,rfl,Kp.new hf0,m1.new hf0,hcl,c,ctv,oc,vs,t,upd_same,by rw [upd_ne (ne_of_none e2 hf0)]; exact e2,e3,e4⟩⟩
 subst ek
 obtain ⟨ku,rfl,rk⟩:=vals1 r2
 cases (show ku=Value.ref f from rk)
 show wpAny _ _ (call (.builtin "min") [.ref a] [(Str.ofString "key",.ref f)]) _ _ s2
 have hlen:=ra.length
 have L':LamOk (in1X X) sc x fr:=⟨L.kind,L.co,L.gen,L.cell,L.free,L.own,L.fr⟩
 have A2:∀ {H'},Kp H2 H'->MAbs X.K H' M1->Abs X.K H' σ τ M1:=λ kp m=>A.go (kp1.trans (kp2.trans kp)) m
 refine min_key (xs:=xs) (λ i=>kf i) (λ i H'=>Kp H2 H'/\MAbs X.K H' M1) hr.hd I2 ⟨Kp.refl _,m2⟩ (by rw [hlen]; exact List.length_pos_iff.mpr hne) (λ i H' hW=>(SqF.keep (kp2.trans hW.1) hs).sq) (λ i v u pl H' s' hv ru hW J=>?_) λ i v u H' s' hv ru hbest hW J=>?_
 ·obtain ⟨d,hd,rd⟩:=(ra.keep (kp2.trans hW.1)).get' hv
  refine run_lam (X:=in1X X) (k:=k) (hr.in1) hc L' hcl.1 hcl.2 (hb cl _) (te:=up X.K tb) (λ c s H pl hr'=>he cl f c s H pl hr') J (D.LamH.keep hlam hW.1) ru ?_
  refine ⟨_,M1,_,abs_lam (A2 hW.1 hW.2) (w:=.d d) rd fr,hkey i d hd,λ y H3 w3 M3 kp3 r3 m3 z=>?_⟩
  obtain ⟨e1,e2⟩:=z
  subst e1 e2
  simp only [RepW,RepD] at r3
  exact ⟨r3,hW.1.trans kp3,m3⟩
 ·obtain ⟨d,hd,rd⟩:=(ra.keep (kp2.trans hW.1)).get' hv
  exact ⟨v,H',J,ru,kk v H' (.d d) M1 (kp1.trans (kp2.trans hW.1)) rd hW.2 (hfin i d hd λ j hj=>hbest j (by omega))⟩
end
namespace Q
theorem pd_minK {X:Cx}{P cd:Addr}{q x:Str}{lpos pos p kpos:Pos}{params:Arguments}{body o:Expr}{sc:Scope}{fr:List Nat}{to tb:TD}{k:Nat}(hr:Room (k+2) X.A)(hc:X.calm=true)(hg:Gl X "min")(hm:X.mg "min" = none)(L:LamOk X sc x fr)(hcode:X.env.code=.ref cd)(hcd:PySem.W.codeHdIn X.K cd P=true)(hq:X.env.qual ++ "<lambda>" = q)
  (hb:∀ cl pm cdv ctv u,bindArgs (kla_fn "<lambda>" q params body sc cl pm cdv ctv) ⟨[u],[]⟩=pure [(x,u)])(ho:Jd (PD X o to))
  (he:∀ cl f c s H pl,Room k (lamX (in1X X) q sc (lamN X x fr) cl f c s H pl).A->Jd (PD (lamX (in1X X) q sc (lamN X x fr) cl f c s H pl) body tb))(hso:isSt o=false:=by rfl)(hdef:defaultsOf params X.env=([],[]):=by rfl) :
  Jd (PD X (.Call (.Name "min" p) [o] [⟨some "key",.Lambda params body sc lpos,kpos⟩] pos) (dMinK P q lpos to tb fr)):=⟨D.pd_minK0 hr hc hg hm L hcode hcd hq hb ho.h (λ cl f c s H pl h=>(he cl f c s H pl h).h) hso hdef⟩
end Q
end D
namespace L2
open PySem PySem.Spec PyProof.Rows
noncomputable def OnlyT (ts:List Addr)(H:Hp):Prop:=∀ b,H b=none\/(∃ o xs,H b=some (.frz o (.lst xs)))\/(b∈ts/\H b=some (.tbl #[]))
theorem law_callT {P:Program}{w:World}{K:PySem.W.Frag}{mg mb:Str->Option Value}{CX:CXT}{k:Nat}{fa a:Addr}{fd:FuncData}{x:Str}{sp:Sp}{s₁:Shared}{vs:List Value}{ns:List Int}
  (KX:K.In s₁.heap)(hns:s₁.heap.Ns mainGlobals mg)(hb:s₁.heap.Ns builtinsNs mb)(hbb:∀ x:Str,x ≠ "__name__" -> mb x=bootBuiltins x)(hlim:s₁.heap.NoLimit)(hbm:BM mg s₁.heap)(hg:s₁.gens = #[])
  (ha:s₁.heap.get? a=some { cls:=.type "list",data:=.seq vs.toArray })(hi:IntsAre vs ns)(hl:ns.length<=sizeLine)(hr:Room k callerA)(ts:List Addr)(hts:∀ T∈ts,(∃ c,PySem.W.codeHdIn K c T=true)/\K.lookup T=none/\s₁.heap.get? T=some { cls:=.none,data:=.fields #[] })
  (F:∀ base:Heap,K.In base->base.Ns mainGlobals mg->FnOk P w K mg base CX k fa fd [x] sp)(hbind:∀ (s:Shared) (u:Value),BindsTo s fd ⟨[u],[]⟩ [(x,u)])
  (hsp:∀ H:Hp,OnlyT ts H->(∀ T∈ts,H T=some (.tbl #[]))->SqL K H a (ns.map V.int)->sp [.ref a] H (λ v _=>v=.bl true) λ _ _ _=>False)
  (hCX:∀ H e s',CX [] H s₁ (λ _ _ _=>False) e s'->False) :
  codeAny (model P w) callerA (.call (.ref fa) ⟨[.ref a],[]⟩) (λ r s'=>r=.ok (.ret (.bool true))/\OldK s₁.heap s'.heap/\s'.os=s₁.os/\AllBare s'.gens) s₁:=by
 have rv:=vals_ints hi
 have lenV:=hi.length
 have at':∀ T∈ts,T≠a:=λ T hT e=>by
  have h:=(hts T hT).2.2
  rw [e,ha] at h
  cases h
 have core:∀ H:Hp,OnlyT ts H->(∀ T∈ts,H T=some (.tbl #[]))->SqL K H a (ns.map V.int)->HOk P w H s₁.heap->(∀ b,H b≠none->b=a\/b∈ts)->(H a≠none->K.lookup a=none) ->
   codeAny (model P w) callerA (.call (.ref fa) ⟨[.ref a],[]⟩) (λ r s'=>r=.ok (.ret (.bool true))/\OldK s₁.heap s'.heap/\s'.os=s₁.os/\AllBare s'.gens) s₁:=by
  intro H hO hTb hS hok hA hK
  have base_of:∀ {b:Addr} {o:Obj},s₁.heap.get? b=some o->H b=none->(hidT s₁.heap H).get? b=some o:=λ e n=>hidT_get e n
  have noA:∀ {b:Addr} {o:Obj} {es:Array DictEntry} {ep:Nat},s₁.heap.get? b=some o->o.data=.dict es ep->H b=none:=λ {b o es ep} e d=>by
   cases q:H b with
   | none=>rfl
   | some u =>
    rcases hA b (by rw [q]; simp) with e' | e'
    ·subst e'
     rw [ha] at e; cases e
     have d':Data.seq vs.toArray _=Data.dict es ep:=d
     cases d'
    ·rw [(hts b e').2.2] at e; cases e
     have d':Data.fields _=Data.dict es ep:=d
     cases d'
  have nsK:∀ {b:Addr} {m:Str->Option Value},s₁.heap.Ns b m->(hidT s₁.heap H).Ns b m:=λ {b m} ⟨o,es,ep,e,d,r⟩=>⟨o,es,ep,base_of e (noA e d),d,r⟩
  have hKb:K.In (hidT s₁.heap H):=λ b o e=>base_of (KX b o e) (by
   cases q:H b with
   | none=>rfl
   | some u =>
    rcases hA b (by rw [q]; simp) with e' | e'
    ·subst e'
     rw [hK (by rw [q]; simp)] at e; cases e
    ·rw [(hts b e').2.1] at e; cases e)
  have hM:Mod K mg (hidT s₁.heap H):=⟨hKb,nsK hns,⟨mb,nsK hb,hbb⟩,let ⟨mc,h1,h2⟩:=hlim; ⟨mc,nsK h1,h2⟩,let ⟨⟨b,o,h1,h2,h3,h4,h5,h6⟩,mm,hmm⟩:=hbm; ⟨⟨b,o,h1,h2,base_of h3 (by cases q:H b with | none=>rfl | some u=>(rcases hA b (by rw [q]; simp) with e' | e'; (subst e'; rw [ha] at h3; cases h3; cases h6); (rw [(hts b e').2.2] at h3; cases h3; cases h6))),h4,h5,h6⟩,mm,nsK hmm⟩⟩
  have e0:Env0 P w K mg (hidT s₁.heap H) callerA [] s₁ H:=⟨rfl,hM,λ b o e=>of_hidT e,Nat.le_of_eq (hidT_size _ _),trivial,λ b hb=>absurd (show b∈([]:List Addr) from hb) (by simp),hok,.of_eq hg⟩
  refine codeAny_mono ((F _ hKb (nsK hns)).run callerA [] s₁ H ⟨[.ref a],[]⟩ [.ref a] [.ref a] _ _ hr e0 (hbind s₁ (.ref a)) (.cons rfl .nil) (hsp H hO hTb hS)) λ r s' h=>?_
  cases r with
  | error e=>exact (hCX H e s' h).elim
  | ok fl =>
   cases fl with
   | next=>exact False.elim h
   | brk=>exact False.elim h
   | cont=>exact False.elim h
   | ret u =>
    obtain ⟨v,H',os,bare,un,hok',r',q⟩:=h
    have q':v=.bl true:=q
    subst q'
    obtain rfl:u=Value.bool true:=r'
    have old:∀ b o,s₁.heap.get? b=some o->s'.heap.get? b=some o\/∃ more,b∈ts/\s'.heap.get? b=some { cls:=.none,data:=.fields (#[]++more) }:=λ b o e=>?_
    refine ⟨rfl,⟨λ b o e=>?_,λ b o e=>(old b o e).elim (λ z=>⟨_,z⟩) λ ⟨_,_,z⟩=>⟨_,z⟩⟩,os,bare⟩
    ·rcases old b o e with z | ⟨more,hb,z⟩
     ·exact .inl z
     ·obtain ⟨⟨c,hc⟩,_,h3⟩:=hts b hb
      rw [h3] at e
      cases e
      exact .inr (.inl ⟨((PySem.W.codeHd_of_K KX hc).tab h3).isCodeTable,rfl,#[],more,rfl,z⟩)
    cases q:H b with
    | none=>exact .inl <| un.keep b o e q (by intro z; exact absurd (show b∈([]:List Addr) from z) (by simp)) (by simp)
    | some u =>
     rcases hO b with z | ⟨ob,xs,z⟩ | ⟨hb,z⟩
     ·rw [q] at z; cases z
     ·refine .inl ?_
      have z2:=un.frzs b ob _ z
      obtain ⟨e1,_⟩:=hok b _ z
      obtain ⟨e2,_⟩:=hok' b _ z2
      rw [e] at e1; cases e1
      exact e2
     ·obtain ⟨more,z2⟩:=un.tbls b _ z
      exact .inr ⟨more,hb,hok' b _ z2⟩
 cases hk:K.lookup a with
 | some o =>
  have e:=KX a o hk
  rw [ha] at e
  cases e
  refine core (λ b=>if b∈ts then some (.tbl #[]) else none) (λ b=>?_) (λ T hT=>if_pos hT) (.inr ⟨_,vs.toArray,_,hk,rfl,rfl,rfl,by rw [List.size_toArray,lenV]; exact hl,by simpa using rv⟩) (λ b u z=>?_) (λ b z=>?_) λ z=>absurd (if_neg λ h=>at' a h rfl) z
  ·by_cases hb:b∈ts
   ·exact .inr (.inr ⟨hb,if_pos hb⟩)
   ·exact .inl (if_neg hb)
  ·by_cases hb:b∈ts
   ·have z':=(if_pos hb).symm.trans z
    cases z'
    exact (hts b hb).2.2
   ·have z':=(if_neg hb).symm.trans z
    cases z'
  ·by_cases hb:b∈ts
   ·exact .inr hb
   ·exact absurd (if_neg hb) z
 | none =>
  refine core (λ b=>if b=a then some (.frz { cls:=.type "list",data:=.seq vs.toArray } (.lst (ns.map V.int))) else if b∈ts then some (.tbl #[]) else none) (λ b=>?_) (λ T hT=>(if_neg (at' T hT)).trans (if_pos hT)) (.inl (.inr ⟨{ cls:=.type "list",data:=.seq vs.toArray },if_pos rfl⟩)) (λ b u z=>?_) (λ b z=>?_) λ _=>hk
  ·by_cases hb:b=a
   ·exact .inr (.inl ⟨_,_,if_pos hb⟩)
   ·by_cases hb2:b∈ts
    ·exact .inr (.inr ⟨hb2,(if_neg hb).trans (if_pos hb2)⟩)
    ·exact .inl ((if_neg hb).trans (if_neg hb2))
  ·by_cases hb:b=a
   ·have z':=(if_pos hb).symm.trans z
    cases z'
    subst hb
    exact ⟨ha,by rw [List.length_map]; exact hl,vs,_,rv,ha⟩
   ·have z0:=(if_neg hb).symm.trans z
    by_cases hb2:b∈ts
    ·have z':=(if_pos hb2).symm.trans z0
     cases z'
     exact (hts b hb2).2.2
    ·have z':=(if_neg hb2).symm.trans z0
     cases z'
  ·by_cases hb:b=a
   ·exact .inl hb
   ·by_cases hb2:b∈ts
    ·exact .inr hb2
    ·exact absurd ((if_neg hb).trans (if_neg hb2)) z
theorem walk_ofT {l:PySem.W.OpenLaw}{n k:Nat}{q:Program}{loose:List Str}{XP:(Str->Option Value)->Heap->Prop}{YP:World->Heap->Prop}{d:DefRec}{K:Params->PySem.W.Frag}{CX:World->CXT}{sp:World->Sp}{x:Str}
  (hq:importsNone q=true)(hn:l.most=some n)(hn2:n<=sizeLine)(hdf:d.params.defaults=[])(hr:Room k callerA)
  (ts:List Addr)(hT:∀ w:World,∀ T∈ts,(∃ c,PySem.W.codeHdIn (K w.params) c T=true)/\(K w.params).lookup T=none)(hY:∀ (w:World) (h:Heap),YP w h->(K w.params).In h/\∀ T∈ts,h.get? T=some { cls:=.none,data:=.fields #[] })
  (F:∀ (w:World) (mg:Str->Option Value) (fa:Addr) (h:Heap),(K w.params).In h->h.Ns mainGlobals mg->mg d.name=some (.ref fa) ->
   ∃ fd:FuncData,(∀ (s:Shared) (u:Value),BindsTo s fd ⟨[u],[]⟩ [(x,u)]) /\
    ∀ base:Heap,(K w.params).In base->base.Ns mainGlobals mg->FnOk l.prog w (K w.params) mg base (CX w) k fa fd [x] (sp w))
  (hsp:∀ (w:World) (H:Hp) (a:Addr) (ns:List Int),ns.length<=n->OnlyT ts H->(∀ T∈ts,H T=some (.tbl #[]))->SqL (K w.params) H a (ns.map V.int)->sp w [.ref a] H (λ v _=>v=.bl true) λ _ _ _=>False)
  (hCX:∀ (w:World) (H:Hp) (s:Shared) (e:Value) (s':Shared),CX w [] H s (λ _ _ _=>False) e s'->False) :
  PySem.W.WalkO q loose XP YP l.row.toRowW d [] (λ f vs=>PySem.call f vs):=by
 refine Att.attach_call hn hdf λ w s₀ s₁ mg mb fa o pm cd doc a vs ns G Y ho hd hcd hmg hobj hints hlen hg=>?_
 obtain ⟨KX,hTb⟩:=hY w _ Y
 obtain ⟨fd,hb,hF⟩:=F w mg fa _ KX G.T.g hmg
 exact law_callT KX G.T.g G.T.b G.T.builtins G.T.nolimit (let ⟨bm,ob,b1,b2,b3,b4,b5,b6⟩:=G.T.bmain; let ⟨mm,hmm,_⟩:=(G.T.seer hq).mods; ⟨⟨bm,ob,b1,b2,b3,b4,b5,b6⟩,mm,hmm⟩) hg hobj hints (Nat.le_trans hlen hn2) hr ts (λ T h=>⟨(hT w T h).1,(hT w T h).2,hTb T h⟩) hF hb (λ H hO hB hS=>hsp w H a ns hlen hO hB hS) λ H e s'=>hCX w H s₁ e s'
end L2
namespace D
open PySem PySem.Spec PyProof.Rows L2
section
variable {P:Program}{w:World}{K:PySem.W.Frag}{mg:Str->Option Value}{base:Heap}
theorem fun_okL {x qual:Str}{st:Stmt}{f cd:Addr}{fd:FuncData}{N ps:List Str}{k:Nat}{sp:SpD}{t:TSd}(F:Fun K x qual st f fd)(hcd:fd.code=.ref cd)(S:FnScope N ps (defScope st))(len:∀ ws M Q,sp ws M Q->ws.length=ps.length)
  (hbody:∀ (A:Around) (outer:List Env) (s:Shared) (H:Hp) (E:XK),Room k (A.deeper (envOfC qual (defScope st) s.heap.objs.size f (.ref cd)))->PSsd (cxOf CX0 P w K mg base N qual (defScope st) f (.ref cd) A outer s H E).nox (defBody st) t)
  (read:∀ ws M Q,sp ws M Q->t { nx:=λ _ M'=>Q (.d .none) M',rt:=Q } (startD N ws) M):FnOk P w K mg base CX0 (k+1) f fd ps (upSp K sp):=by
 obtain ⟨oc,od,kV,doc,pm,an,cdv,ct,osl,e,lk,hcdv⟩:=F.ex
 subst e
 have e2:cdv=.ref cd:=hcd
 subst e2
 refine fn_of lk hcdv S (λ vs H Q E h=>?_) (λ A outer s H vs Q E hr h=>?_)
 ·obtain ⟨ws,M,Qd,r,_,q,_⟩:=h
  rw [<- r.length]
  exact len _ _ _ q
 ·obtain ⟨ws,M,Qd,r,m,q,kk⟩:=h
  refine ⟨_,(hbody A outer s H E hr).nox,startD N ws,M,_,abs_start r m,read ws M Qd q,λ σ' H' τ' M' kp A' q'=>?_,λ v H' w' M' kp r' m' q'=>?_,λ σ' H' τ' M' kp A' q'=>q'.elim,λ σ' H' τ' M' kp A' q'=>q'.elim⟩
  ·exact kk _ H' _ M' kp (by simp [RepW,RepD]) A'.mem q'
  ·exact kk v H' w' M' kp r' m' q'
end
noncomputable def M1T (T:Addr)(q:Str)(lpos:Pos):MH:=λ b=>if b=T then some (.code q lpos) else none
theorem law_startT {K:PySem.W.Frag}{H:Hp}{a T:Addr}{q:Str}{lpos:Pos}{ns:List Int}{sp:SpD}(hl:ns.length<=63)(hO:L2.OnlyT [T] H)(hT:∀ x∈[T],H x=some (.tbl #[]))(hS:L2.SqL K H a (ns.map V.int))(h:∀ ns:List Int,ns.length<=63->sp [.d (.list (ns.map PyData.int))] (M1T T q lpos) (λ w _=>w=.d (.bool true))) :
  upSp K sp [.ref a] H (λ v _=>v=.bl true) λ _ _ _=>False:=by
 refine ⟨[.d (.list (ns.map PyData.int))],M1T T q lpos,_,.cons ?_ .nil,λ a o z=>?_,h ns hl,λ v H' w M' kp r m q=>?_⟩
 ·simp only [RepW,RepD]
  refine ⟨a,_,rfl,?_,RepA.ints ns⟩
  rcases hS with (h | h) | h
  ·rcases hO a with z | ⟨ob,xs,z⟩ | ⟨_,z⟩
   ·rw [h] at z; cases z
   ·rw [h] at z; cases z
   ·rw [h] at z; cases z
  ·exact .inl h
  ·exact .inr h
 ·unfold M1T at z
  split at z
  ·cases z
   rename_i e
   subst e
   exact ⟨#[],hT _ (by simp),trivial,.inl rfl⟩
  ·cases z
 ·subst q
  simp only [RepW,RepD] at r
  exact r
end D
namespace D
open PySem PySem.Spec PyProof.Rows L2
noncomputable def lamOkB (sc scX:Scope)(x:Str)(N:List Str)(fr:List Nat):Bool :=
 (sc.kind == .function) && !sc.isCoroutine && !sc.isGenerator && sc.names.all (λ y=>!(y.2 == .cell)) && sc.names.all (λ y=>!(y.2 == .free) || scX.names.lookup y.1 == some .cell || scX.names.lookup y.1 == some .free) &&
  (sc.names.lookup x == some .local) && frOk N sc fr
theorem lamOk {X:Cx}{sc:Scope}{x:Str}{fr:List Nat}(h:lamOkB sc X.env.scope x X.N fr=true):LamOk X sc x fr:=by
 simp only [lamOkB,Bool.and_eq_true,Bool.not_eq_true'] at h
 obtain ⟨⟨⟨⟨⟨⟨h1,h2⟩,h3⟩,h4⟩,h5⟩,h6⟩,h7⟩:=h
 refine ⟨eq_of_beq h1,h2,h3,λ y hy e=>?_,λ y hy e=>?_,eq_of_beq h6,h7⟩
 ·have:=List.all_eq_true.mp h4 y hy
  simp [e] at this
 ·have:=List.all_eq_true.mp h5 y hy
  simp only [e,beq_self_eq_true,Bool.not_true,Bool.false_or,Bool.or_eq_true] at this
  rcases this with z | z
  ·exact .inl (eq_of_beq z)
  ·exact .inr (eq_of_beq z)
end D
namespace D
open PySem PySem.Spec PyProof.Rows L2
section
variable {X:Cx}{o i e:Expr}{to ti te:TD}{op:Operator}{f:Int->Int->Int}{pos tpos:Pos}
theorem get_dict (hu:X.A.units+1 < cLine):PGet X (λ o i H Q=>∃ a kvs k v,o=.ref a/\i=kV k/\H a=some (.dK kvs)/\valV kvs k=some v/\Q v H):=by
 intro pins s σ H o i ov iv Q I ro ri h
 obtain ⟨a,kvs,k,v,eo,ei,e,l,q⟩:=h
 subst eo ei
 cases (show ov=Value.ref a from ro)
 exact (ds_getItem hu I (.inl (.inl e)) l ri λ w' s' I' r'=>⟨v,H,I',r',q⟩).2
noncomputable def dAugD (to ti te:TD)(f:Int->Int->Int)(D:Ed)(τ:DS)(M:MH):Prop:=to τ M λ w M1=>ti τ M1 λ w' M2=>∃ a kvs k n,w=.m a/\w'=kW k/\M2 a=some (.dic kvs)/\tget kvs k=some (.d (.int n))/\kvs.length < sizeLine /\
 te τ M2 λ y M3=>∃ n',y=.d (.int n')/\M3=M2/\D.nx τ (updM M3 a (.dic (tput kvs k (.d (.int (f n n'))))))
theorem psd_augD0 (hu:X.A.units+1 < cLine)(ho:PD X o to)(hi:PD X i ti)(he:PD X e te)(hp:PIp X op (ipI f))
  (ha:∀ ov iv new,augStore i ov iv new=(do holding [new,ov,iv] (setItem ov iv new); release [new,ov,iv] []; pure .next):=by intros; rfl):PSd X (.AugAssign (.Subscript o i tpos) op e pos) (dAugD to ti te f) :=
 ps_w (ps_augS ho hi (get_dict hu) he hp (set_dict hu) ha) λ D σ H h=>by
  obtain ⟨τ,M,Dd,A,h,k1,_⟩:=h
  refine ⟨τ,M,_,A,h,λ x H1 wo M1 kp1 r1 m1 q1=>⟨τ,M1,_,A.go kp1 m1,q1,λ y H2 wi M2 kp2 r2 m2 q2=>?_⟩⟩
  obtain ⟨a,kvs,key,n,e1,e2,hm,hn,hl,q⟩:=q2
  subst e1; subst e2
  simp only [RepW] at r1
  obtain ⟨l,e3,pr⟩:=m2 a _ hm
  have g:=tb_get key pr
  rw [hn] at g
  obtain ⟨b,eb,rb⟩:=OR.some_of g
  simp only [RepW,RepD] at rb
  refine ⟨a,l,key,b,r1,kW_rep r2,e3,eb,?_⟩
  refine ⟨τ,M2,_,A.go (kp1.trans kp2) m2,q,λ z H3 wz M3 kp3 r3 m3 q3=>?_⟩
  obtain ⟨n',e5,e6,qn⟩:=q3
  subst e5; subst e6
  simp only [RepW,RepD] at r3
  refine ⟨n,n',rb,r3,?_⟩
  obtain ⟨l',e3',pr'⟩:=m3 a _ hm
  have kp:=(kp1.trans kp2).trans kp3
  have kp4:Kp H3 (upd H3 a (.dK (putK l' key (.int (f n n'))))):=Kp.set e3' (λ _ z=>nomatch z) (λ _ _ z=>nomatch z)
  refine ⟨a,_,r1,.inl ⟨l',key,e3',kW_rep r2,by rw [<- tb_len pr']; exact hl,rfl⟩,?_⟩
  have rv':RepW X.K H3 (.d (.int (f n n'))) (.int (f n n')):=by simp [RepW,RepD]
  refine k1 σ _ τ _ (kp.trans kp4) (A.go (kp.trans kp4) (m3.put (mo:=.dic (tput kvs key (.d (.int (f n n'))))) kp4 ⟨_,upd_same,?_⟩)) qn
  exact Paired.mapP (tb_put key rv' pr') λ p q z=>⟨z.1,z.2.keep kp4⟩
end
namespace Q
theorem psd_augD {X:Cx}{o i e:Expr}{to ti te:TD}{op:Operator}{f:Int->Int->Int}{pos tpos:Pos}(hu:X.A.units+1 < cLine)(ho:Jd (PD X o to))(hi:Jd (PD X i ti))(he:Jd (PD X e te))(hp:PIp X op (ipI f))
  (ha:∀ ov iv new,augStore i ov iv new=(do holding [new,ov,iv] (setItem ov iv new); release [new,ov,iv] []; pure .next):=by intros; rfl):Jd (PSd X (.AugAssign (.Subscript o i tpos) op e pos) (dAugD to ti te f)):=⟨D.psd_augD0 hu ho.h hi.h he.h hp ha⟩
end Q
end D
namespace D
open PySem PySem.Spec PyProof.Rows L2
structure MiD (K:PySem.W.Frag)(C:Addr)(qual:Str)(st:Stmt)(ps:List Str)(f:Addr)(fd:FuncData):Prop where
 fn:FunD K "__init__" qual st f fd
 mi:Mk K C f
 bd:Binds K fd ps []
theorem miD_mk {K:PySem.W.Frag}{C:Addr}{qual:Str}{st:Stmt}{ps:List Str}{f T:Addr}{oc oc2 dv:Value}{od od2 an:Option Addr}{osl osl2:Array (Option Value)}{kV doc pm cdv ct:Value}{n:Nat}(a:PySem.W.findIn K (.ref C) "__init__" = some (some (.ref f)))(i:PySem.W.isFn K (.ref f)=true)
  (l:K.lookup f=some ⟨oc,od,.func (PySem.W.fnOf "__init__" qual (defArgs st) (defBody st) (defScope st) (.ref T) kV doc pm an cdv ct),osl⟩)(c:PySem.W.codeIn K cdv qual=true)(k:PySem.W.keepIn K (.ref f)=true)
  (mk:PySem.W.makesIn K C=true)(kc:PySem.W.keepIn K (.ref C)=true)(lt:K.lookup T=some ⟨oc2,od2,.seq #[dv] n,osl2⟩)
  (b:∀ (us:List Value),us.length=ps.length->∃ kk:Option (Array Value)->Sem (List (Str×Value)),bindArgs (PySem.W.fnOf "__init__" qual (defArgs st) (defBody st) (defScope st) (.ref T) kV doc pm an cdv ct) ⟨us,[]⟩=seqItems? (.ref T) >>= kk/\kk (some #[dv])=pure (ps.zip us)) :
  MiD K C qual st ps f (PySem.W.fnOf "__init__" qual (defArgs st) (defBody st) (defScope st) (.ref T) kV doc pm an cdv ct) :=
 ⟨⟨⟨oc,od,.ref T,kV,doc,pm,an,cdv,ct,osl,rfl,l,c⟩,k⟩,⟨mk,a,i,kc⟩,λ s us hK hl=>by
  rw [List.append_nil] at hl ⊢
  obtain ⟨kk,h1,h2⟩:=b us hl
  exact BindsTo.of_defaults rfl (hK T _ lt) rfl h1 h2⟩
theorem bb_any:bootBuiltins "any" = some (.builtin "any"):=by decide +kernel
section
variable {X:Cx}{K:PySem.W.Frag}
theorem ints_at:∀ {us:List Value} {ns:List Int},IntsAre us ns->∀ (i:Nat) (v:Value),us[i]? = some v->∃ n t,ns[i]? = some n/\v=.int n t
 | _,_,.nil,i,v,e=>by simp at e
 | _,_,.cons n t h,0,v,e=>by simp at e; exact ⟨n,t,rfl,e.symm⟩
 | _,_,.cons n t h,i+1,v,e=>by
  obtain ⟨m,t',e1,e2⟩:=ints_at h i v (by simpa using e)
  exact ⟨m,t',by simpa using e1,e2⟩
theorem kv_ints:∀ {ns:List Int} {kvs:List (Key×V)} {vs:List (Key×Value)},KV kvs vs->kvs.map (·.2)=ns.map V.int->IntsAre (vs.map (·.2)) ns:=λ {ns kvs vs} r h=>by
 refine vals_ints r h (by simp) λ i v hi=>?_
 rw [List.getElem?_map] at hi
 cases e:vs[i]? with
 | none=>rw [e] at hi; cases hi
 | some p=>rw [e] at hi; cases hi; exact ⟨p.1,rfl⟩
theorem call_anyV (hc:X.calm=true):CallR X (.builtin "any") (λ xs H Q=>∃ v a kvs,∃ ns:List Int,xs=[.ref v]/\H v=some (.ext λ h=>h.IsValuesView v a)/\Rd H a (.dK kvs)/\kvs.map (·.2)=ns.map V.int/\Q (.bl (ns.any λ n=>n != 0)) H):=by
 intro pins s σ H xs us Q I r h
 obtain ⟨v,a,kvs,ns,rfl,hv,hr,hk,q⟩:=h
 obtain ⟨u,rfl,rx⟩:=vals1 r
 cases (show u=Value.ref v from rx)
 obtain ⟨hsz,hsys,vs,rel,oo,es,ep,hd⟩:=hr.ok I.hok
 obtain ⟨hview,_⟩:=(show ObjOk X.prog X.w H s.heap v (.ext λ h=>h.IsValuesView v a) from I.hok v _ hv)
 have hI:=kv_ints rel hk
 have hln:vs.length=ns.length:=by simpa using hI.length
 obtain ⟨oI,St,hit,W,st⟩:=(PySem.W.kdl_values (knd:=mixKind X.prog X.w) (r:=v) (d:=a) (kvs:=vs) (ep:=ep)).iter X.A.in1 s (I.ok.hd hc) ⟨hview,⟨oo,es,hd⟩⟩
 refine call_any_walk (hit _ _ ⟨s.heap.objs.size,_,_,vs.length,_,_,λ i=>((ns.map λ n=>n != 0)[i]?).getD false,rfl,W,st,λ i x s' Q' E' hP hQ=>?_,λ h' tk hk'=>?_⟩)
 ·obtain ⟨k,hx⟩:=hP
  obtain ⟨n,t,e1,rfl⟩:=ints_at hI i x (by rw [List.getElem?_map,hx]; rfl)
  simp only [List.getElem?_map,e1,Option.map_some,Option.getD_some] at hQ
  exact truthy_int hQ
 ·have e:((List.range vs.length).any λ i=>((ns.map λ n=>n != 0)[i]?).getD false)=ns.any λ n=>n != 0:=by
   have:=LSm.range_any (ns.map λ n=>n != 0)
   rw [List.length_map,<- hln] at this
   rw [this,List.any_map]
   rfl
  rw [e]
  exact ⟨.bl _,H,I.kept (LSm.kept_iter hk'),rfl,q⟩
variable {o e:Expr}{to:TE}{td te:TD}{apos cpos p pos:Pos}
noncomputable def rAnyV (xs:List V)(H:Hp)(Q:VK):Prop:=∃ v a kvs,∃ ns:List Int,xs=[.ref v]/\H v=some (.ext λ h=>h.IsValuesView v a)/\Rd H a (.dK kvs)/\kvs.map (·.2)=ns.map V.int/\Q (.bl (ns.any λ n=>n != 0)) H
theorem pe_anyV (hc:X.calm=true)(hg:Gl X "any")(hm:X.mg "any" = none)(ho:PE X o to)(hbase:attributeBase o "values" X.env (eval o X.env)=eval o X.env:=by rfl)(hline:(apos.endLine == cpos.line)=true:=by rfl) :
  PE X (.Call (.Name "any" p) [.Call (.Attribute o "values" apos) [] [] cpos] [] pos) (tCB rAnyV (tCons (tVals to) tNil)) :=
 pe_callB (call_anyV hc) hg hm bb_any (pa_cons (pe_vals ho hbase hline) pa_nil) (by decide) (by decide) (star_ok _ [] X.env rfl) (plain_ok pos X.env [] rfl)
noncomputable def dAnyV (td:TD)(τ:DS)(M:MH)(Q:QD):Prop:=td τ M λ w M1=>∃ a kvs,∃ ns:List Int,w=.m a/\M1 a=some (.dic kvs)/\kvs.map (·.2)=intsW ns/\Q (.d (.bool (ns.any λ n=>n != 0))) M1
theorem pd_anyV0 (hc:X.calm=true)(hg:Gl X "any")(hm:X.mg "any" = none)(ho:PD X o td)(hbase:attributeBase o "values" X.env (eval o X.env)=eval o X.env:=by rfl)(hline:(apos.endLine == cpos.line)=true:=by rfl) :
  PD X (.Call (.Name "any" p) [.Call (.Attribute o "values" apos) [] [] cpos] [] pos) (dAnyV td):=pe_w (pe_anyV hc hg hm ho hbase hline) λ σ H Q hq108=>by
 obtain ⟨τ,M,Qd,A,h,k⟩:=hq108
 refine ⟨τ,M,_,A,h,λ x H1 w M1 kp1 r1 m1 hq109=>?_⟩
 obtain ⟨a,kvs,ns,ew,hmm,hk,q⟩:=hq109
 subst ew
 obtain ⟨l,e,pr⟩:=m1 _ _ hmm
 refine ⟨a,l,r1,.inl e,λ v hv=>?_⟩
 have na:a≠v:=λ z=>by rw [z,hv] at e; cases e
 have kp2:Kp H1 (upd H1 v (.ext λ h=>h.IsValuesView v a)):=Kp.new hv
 exact ⟨v,a,l,ns,rfl,upd_same,.inl (by rw [upd_ne na]; exact e),pr_ints hk pr,kgo k kp1 _ _ (.d (.bool _)) _ kp2 (by simp [RepW,RepD]) (m1.new hv) q⟩
theorem call_listD (hc:X.calm=true):CallR X (.type "list") (λ xs H Q=>∃ a kvs,∃ zs:List Str,xs=[.ref a]/\Rd H a (.dK kvs)/\kvs.map (·.1)=zs.map Sum.inr/\∀ l,H l=none->Q (.ref l) (upd H l (.lst (zs.map V.str)))):=by
 intro pins s σ H xs us Q I r h
 obtain ⟨a,kvs,zs,rfl,hq,hk,q⟩:=h
 obtain ⟨u,rfl,rx⟩:=vals1 r
 cases rx
 obtain ⟨hsz,hsys,vs,rel,o,es,ep,hd⟩:=hq.ok I.hok
 have hvs:vs.map (·.1)=zs.map Sum.inr:=by
  rw [<- hk]
  clear hk hd hq hsz
  induction rel with
  | nil=>rfl
  | cons r t ih=>simp only [List.map_cons,ih,r.1]
 have hln:vs.length=zs.length:=by simpa using congrArg List.length hvs
 have hkl:kvs.length=zs.length:=by simpa using congrArg List.length hk
 refine PySem.W.kdl_call (PySem.W.kdl_dict (knd:=mixKind X.prog X.w) (kvs:=vs) (ep:=ep) hsys) (I.ok.hd hc) ⟨o,es,hd⟩ (by omega) λ h' tk acc c old hnew hacc=>?_
 have hla:acc.toList.length=vs.length:=by rw [Array.length_toList]; exact hacc.1
 have hS:StrsAre acc.toList zs:=keys_vals hvs hla λ j v hj=>hacc.2 j v (by rw [<- Array.getElem?_toList]; exact hj)
 exact ⟨.ref _,_,I.laid (t':=tk) old (Nat.le_refl _) (show ObjOk X.prog X.w _ h' _ (.lst (zs.map V.str)) from ⟨by rw [List.length_map]; omega,acc.toList,c,vals_strs hS,by rw [Array.toArray_toList]; exact hnew⟩),rfl,q _ (I.hok.fresh (Nat.le_refl _))⟩
noncomputable def rdListD (ws:List W)(M:MH)(Q:QD):Prop:=∃ a kvs,∃ zs:List Str,ws=[.m a]/\M a=some (.dic kvs)/\kvs.map (·.1)=zs.map Sum.inr/\∀ p,M p=none->Q (.m p) (updM M p (.lst (strsW zs)))
theorem cd_listD:CallD K (λ xs H Q=>∃ a kvs,∃ zs:List Str,xs=[.ref a]/\Rd H a (.dK kvs)/\kvs.map (·.1)=zs.map Sum.inr/\∀ l,H l=none->Q (.ref l) (upd H l (.lst (zs.map V.str)))) rdListD:=by
 intro vs H ws M Qd Q r m ⟨a,kvs,zs,e,g,hk,q⟩ k
 subst e
 obtain ⟨v,e1,r1⟩:=repWs1 r
 have ev:v=.ref a:=r1
 subst ev
 obtain ⟨l,el,pr⟩:=m _ _ g
 refine ⟨a,l,zs,e1,.inl el,?_,λ p hp=>?_⟩
 ·rw [<- hk]
  clear hk el g
  induction pr with
  | nil=>rfl
  | cons r t ih=>simp only [List.map_cons,ih,r.1]
 ·have kp:Kp H (upd H p (.lst (zs.map V.str))):=Kp.new hp
  exact k _ _ (.m p) _ kp rfl (m.put (mo:=.lst (strsW zs)) kp ⟨_,upd_same,reps_strs zs⟩) (q p (m.free hp))
noncomputable def rIndexL (K:PySem.W.Frag):V->List V->Hp->VK->Prop:=λ x vs H Q=>∃ y d ds j,vs=[y]/\RepT K H (.list ds) x/\RepT K H d y/\inOk d ds=true/\idxAt ds d j/\(j:Int) < 2 ^ 63 - 1/\Q (.int (j:Nat)) H
theorem mt_indexL {k:Nat}(hr:Room k X.A):MtM X "list.index" (rIndexL X.K):=by
 intro pins s σ H x vs v us Q I rx rv h
 obtain ⟨y,d,ds,j,rfl,h1,h2,o,⟨j0,j1,j2⟩,hsm,q⟩:=h
 obtain ⟨u,rfl,ru⟩:=rv.one
 simp only [inOk,eqOk,Bool.and_eq_true,Bool.not_eq_true'] at o
 obtain ⟨⟨o1,o2⟩,o3,o4⟩:=o
 obtain ⟨as,r2⟩:=readsT_of I d h2 ru o2
 obtain ⟨bs,r1⟩:=readsT_of I (.list ds) h1 rx o4
 have c3:PyData.canLayAll0 ds=true:=SeqAt.canLay_of_shaped o3
 cases r1 with
 | @list a ob its n _ as1 e1 e2 e3 e4 =>
  obtain ⟨cls,dd,data,sl⟩:=ob
  simp only at e2 e3
  subst e2 e3
  have em:=SeqAt.readsAll_map ds _ _ c3 e4
  have hlen:ds.length=its.size:=by have:=congrArg List.length em; simpa using this.symm
  have hat:∀ m (hm:m < its.size),ds[m]? = some (SeqAt.readOf s.heap its[m]):=λ m hm=>by
   rw [<- em,List.getElem?_map]
   simp [hm]
  refine call_meets F.slot_list_index ⟨_,e1,rfl⟩ F.entry_list_index (F.args_list_index_2 _ _) (SeqAt.list_indexAt a its n dd sl u (λ z=>PyData.eqv (SeqAt.readOf s.heap z) d) j (by omega) hsm (j1 _ (hat j (by omega))) (λ m hm hlt=>j2 m _ hlt (hat m hm)))
   ⟨e1,SeqAt.items_eqAt e4 r2 c3 (SeqAt.canLay_of_shaped o1) (in_room hr o1),⟨.int _,H,I.tok _,⟨_,rfl⟩,q⟩⟩
noncomputable def dIndexL (td te:TD)(τ:DS)(M:MH)(Q:QD):Prop:=td τ M λ w M1=>∃ ds,w=.d (.list ds)/\te τ M1 λ y M2=>∃ d j,y=.d d/\inOk d ds=true/\idxAt ds d j/\(j:Int) < 2 ^ 63 - 1/\Q (.d (.int (j:Nat))) M2
theorem pd_indexL0 {k:Nat}(hr:Room k X.A)(ho:PD X o td)(he:PD X e te)
  (hbase:attributeBase o "index" X.env (eval o X.env)=eval o X.env:=by rfl)
  (hfew:((backTo cpos (starEach [e] X.env)).all (λ x=>!x.1) && (backToKw cpos (keywordEach [] X.env)).all (λ x=>x.1.isSome)
   && decide (([e]:List Expr).length+([]:List Keyword).length+(if ([]:List Keyword).isEmpty then 0 else 1) < 30))=true:=by rfl)
  (hline:(apos.endLine == cpos.line)=true:=by rfl)(hs:isSt e=false:=by rfl):PD X (.Call (.Attribute o "index" apos) [e] [] cpos) (dIndexL td te) :=
 pe_w (pe_bm PySem.F.plainAttrs_list PySem.F.slot_list_index PySem.F.type_list_index (mt_indexL hr) ho (pac he pad_nil hs) hbase hfew hline (star_ok e [] X.env hs) rfl) λ σ H Q h=>by
  obtain ⟨τ,M,Qd,A,h,k⟩:=h
  refine ⟨τ,M,_,A,h,λ x H1 w M1 kp1 r1 m1 hq110=>?_⟩
  obtain ⟨ds,ew,q1⟩:=hq110
  subst ew
  have r1':=r1
  simp only [RepW,RepD] at r1'
  obtain ⟨a,vs,ex,hsq,ra⟩:=r1'
  subst ex
  refine ⟨.inl ⟨rfl,vs,hsq.sq⟩,τ,M1,one1 (λ y M2=>∃ d j,y=.d d/\inOk d ds=true/\idxAt ds d j/\(j:Int) < 2 ^ 63 - 1/\Qd (.d (.int (j:Nat))) M2),A.go kp1 m1,q1,λ ys H2 wys M2 kp2 r2 m2 q2=>?_⟩
  obtain ⟨y,ey,d,j,ed,ok,hj,hsm,q4⟩:=one1_of q2
  subst ey ed
  obtain ⟨v,ev,rv⟩:=repWs1 r2
  subst ev
  exact ⟨v,d,ds,j,rfl,.inl (r1.keep kp2),.inl rv,ok,hj,hsm,k _ _ (.d (.int _)) _ (kp1.trans kp2) (by simp [RepW,RepD]) m2 q4⟩
end
namespace Q
section
variable {X:Cx}{o e:Expr}{td te:TD}{apos cpos p pos:Pos}
theorem pd_anyV (hc:X.calm=true)(hg:Gl X "any")(hm:X.mg "any" = none)(ho:Jd (PD X o td))(hbase:attributeBase o "values" X.env (eval o X.env)=eval o X.env:=by rfl)(hline:(apos.endLine == cpos.line)=true:=by rfl) :
  Jd (PD X (.Call (.Name "any" p) [.Call (.Attribute o "values" apos) [] [] cpos] [] pos) (dAnyV td)):=⟨D.pd_anyV0 hc hg hm ho.h hbase hline⟩
theorem pd_indexL {k:Nat}(hr:Room k X.A)(ho:Jd (PD X o td))(he:Jd (PD X e te))
  (hbase:attributeBase o "index" X.env (eval o X.env)=eval o X.env:=by rfl)
  (hfew:((backTo cpos (starEach [e] X.env)).all (λ x=>!x.1) && (backToKw cpos (keywordEach [] X.env)).all (λ x=>x.1.isSome)
   && decide (([e]:List Expr).length+([]:List Keyword).length+(if ([]:List Keyword).isEmpty then 0 else 1) < 30))=true:=by rfl)
  (hline:(apos.endLine == cpos.line)=true:=by rfl)(hs:isSt e=false:=by rfl):Jd (PD X (.Call (.Attribute o "index" apos) [e] [] cpos) (dIndexL td te)):=⟨D.pd_indexL0 hr ho.h he.h hbase hfew hline hs⟩
end
end Q
end D
set_option maxHeartbeats 400000
namespace D
open PySem PySem.Spec PyProof.Rows L2
section
variable {X:Cx}{a b:Expr}{rest:List Expr}{pos:Pos}{ta tb:TE}
end
section
variable {P:Program}{w:World}{A:Around}{R:Result->Shared->Prop}{it l S:Addr}{its:List Value}{ns:List Int}{kw:List (Str×Value)}
noncomputable def Lst (ns:List Int)(j:Nat)(m:Int):Prop:=m∈ns.take j/\∀ x∈ns.take j,m<=x
theorem Lst.next {j:Nat}{m n:Int}(h:Lst ns j m)(e:ns[j]? = some n):Lst ns (j+1) (if n < m then n else m):=by
 have ht:ns.take (j+1)=ns.take j++[n]:=by rw [List.take_succ,e]; rfl
 unfold Lst
 rw [ht]
 constructor
 ·split
  ·simp
  ·exact List.mem_append_left _ h.1
 ·intro x hx
  rcases List.mem_append.mp hx with hx | hx
  ·have:=h.2 x hx
   split <;> omega
  ·rw [List.mem_singleton.mp hx]
   split <;> omega
end
section
variable {X:Cx}{K:PySem.W.Frag}{e:Expr}{te:TE}{p pos kpos kp:Pos}{j:Nat}
end
section
variable {X:Cx}{o e:Expr}{td te:TD}{apos cpos:Pos}
noncomputable def tmerge (kvs more:List (Key×W)):List (Key×W):=more.foldl (λ acc kv=>tput acc kv.1 kv.2) kvs
theorem tb_merge {R:W->V->Prop}:∀ {more:List (Key×W)} {l:List (Key×V)},Paired (λ p q=>p.1=q.1/\R p.2 q.2) more l->∀ {kvs:List (Key×W)} {m:List (Key×V)},Paired (λ p q=>p.1=q.1/\R p.2 q.2) kvs m->Paired (λ p q=>p.1=q.1/\R p.2 q.2) (tmerge kvs more) (mergeK m l)
 | _,_,.nil,_,_,h=>h
 | _,_,.cons a b,_,_,h=>by
  obtain ⟨a1,a2⟩:=a
  refine tb_merge b ?_
  dsimp only
  rw [a1]
  exact tb_put _ a2 h
noncomputable def dDUpdM (td te:TD)(τ:DS)(M:MH)(Q:QD):Prop:=td τ M λ w M1=>∃ a kv0,w=.m a/\M1 a=some (.dic kv0)/\te τ M1 λ y M2=>∃ b kvs more,y=.m b/\M2 a=some (.dic kvs)/\M2 b=some (.dic more)/\a≠b/\kvs.length+more.length<=sizeLine/\Q (.d .none) (updM M2 a (.dic (tmerge kvs more)))
theorem pd_dupdM0 (ho:PD X o td)(he:PD X e te)
  (hbase:attributeBase o "update" X.env (eval o X.env)=eval o X.env:=by rfl)
  (hfew:((backTo cpos (starEach [e] X.env)).all (λ x=>!x.1) && (backToKw cpos (keywordEach [] X.env)).all (λ x=>x.1.isSome)
   && decide (([e]:List Expr).length+([]:List Keyword).length+(if ([]:List Keyword).isEmpty then 0 else 1) < 30))=true:=by rfl)
  (hline:(apos.endLine == cpos.line)=true:=by rfl)(hs:isSt e=false:=by rfl):PD X (.Call (.Attribute o "update" apos) [e] [] cpos) (dDUpdM td te) :=
 pe_w (pe_bm PySem.F.plainAttrs_dict PySem.F.slot_dict_update PySem.F.type_dict_update mt_dupd ho (pac he pad_nil hs) hbase hfew hline (star_ok e [] X.env hs) rfl) λ σ H Q h=>by
  obtain ⟨τ,M,Qd,A,h,k⟩:=h
  refine ⟨τ,M,_,A,h,λ x H1 w M1 kp1 r1 m1 hq111=>?_⟩
  obtain ⟨a,kv0,ew,hm0,q1⟩:=hq111
  subst ew
  have r1':x=.ref a:=r1
  subst r1'
  obtain ⟨l0,ea0,_⟩:=m1 _ _ hm0
  refine ⟨?_,τ,M1,one1 (λ y M2=>∃ b kvs more,y=.m b/\M2 a=some (.dic kvs)/\M2 b=some (.dic more)/\a≠b/\kvs.length+more.length<=sizeLine/\Qd (.d .none) (updM M2 a (.dic (tmerge kvs more)))),A.go kp1 m1,q1,λ ys H2 wys M2 kp2 r2 m2 q2=>?_⟩
  ·exact .inr (.inr (.inl ⟨rfl,.inl ⟨l0,ea0⟩⟩))
  obtain ⟨y,ey,b,kvs,more,ey2,hm2,hb2,ne,hl,q4⟩:=one1_of q2
  subst ey ey2
  obtain ⟨v,ev,rv⟩:=repWs1 r2
  subst ev
  have rv':v=.ref b:=rv
  subst rv'
  obtain ⟨l2,ea2,pr⟩:=m2 _ _ hm2
  obtain ⟨l3,eb2,pr3⟩:=m2 _ _ hb2
  have kp4:Kp H2 (upd H2 a (.dK (mergeK l2 l3))):=Kp.set ea2 (λ _ z=>nomatch z) (λ _ _ z=>nomatch z)
  refine ⟨a,b,l2,l3,rfl,rfl,ea2,.inl eb2,ne,by rw [<- tb_len pr,<- tb_len pr3]; exact hl,?_⟩
  refine k _ _ (.d .none) _ ((kp1.trans kp2).trans kp4) (by simp [RepW,RepD]) (m2.put (mo:=.dic (tmerge kvs more)) kp4 ⟨_,upd_same,?_⟩) q4
  exact Paired.mapP (tb_merge pr3 pr) λ p q z=>⟨z.1,z.2.keep kp4⟩
end
namespace Q
section
variable {X:Cx}{a b o e:Expr}{rest:List Expr}{ta tb td te:TD}{apos cpos p pos kpos kp:Pos}{j:Nat}
theorem pd_dupdM (ho:Jd (PD X o td))(he:Jd (PD X e te))
  (hbase:attributeBase o "update" X.env (eval o X.env)=eval o X.env:=by rfl)
  (hfew:((backTo cpos (starEach [e] X.env)).all (λ x=>!x.1) && (backToKw cpos (keywordEach [] X.env)).all (λ x=>x.1.isSome)
   && decide (([e]:List Expr).length+([]:List Keyword).length+(if ([]:List Keyword).isEmpty then 0 else 1) < 30))=true:=by rfl)
  (hline:(apos.endLine == cpos.line)=true:=by rfl)(hs:isSt e=false:=by rfl):Jd (PD X (.Call (.Attribute o "update" apos) [e] [] cpos) (dDUpdM td te)):=⟨D.pd_dupdM0 ho.h he.h hbase hfew hline hs⟩
end
end Q
end D
namespace D
open PySem PySem.Spec PyProof.Rows L2
section
variable {X:Cx}{K:PySem.W.Frag}{pins:List (Addr×Obj)}{σ:St}{H:Hp}{s:Shared}
theorem stillF_plain {a:Addr}{o:Obj}{l:List V}(I:Inv X pins σ H s)(e:H a=some (stillF o l)):∃ its:List Value,Vals l its/\PlainL s.heap a its.toArray/\l.length<=sizeLine:=by
 obtain ⟨ho,_,z,its,n,r,h1⟩:=I.hok a _ e
 exact ⟨its,r,⟨_,n,h1,rfl,rfl,rfl⟩,z⟩
noncomputable def rSlF (x:V)(lo hi:Option Int)(H:Hp)(Q:VK):Prop:=∃ a o xs,x=.ref a/\H a=some (stillF o xs)/\∀ p,H p=none->Q (.ref p) (upd H p (.lst (cutV xs lo hi)))
theorem sl_flist:SlR X rSlF:=by
 intro pins s σ H x v vl vu lo hi sl Q I rx hs pl pu h
 obtain ⟨a,o,xs,rfl,hx,q⟩:=h
 cases rx
 obtain ⟨its,r,ht,hz⟩:=stillF_plain I hx
 have hlen:=r.length
 refine ⟨"list",_,slot_list_getitem.lookup,ht.isList.typeIs,?_⟩
 refine wpAny_getItem_list_slice ht.isList hs pl pu .none (by simp) ?_ (by rw [List.size_toArray] <;> omega)
 rw [slicePick_cut,<- hlen]
 refine ⟨.ref s.heap.objs.size,_,I.laid (t':=s.toks) (o:=.lst (cutV xs lo hi)) (λ b ob q=>Heap.get?_push_of_some _ q) (Nat.le_refl _) ?_,rfl,q _ (I.hok.fresh (Nat.le_refl _))⟩
 exact ⟨Nat.le_trans (cutV_length xs lo hi) hz,_,0,(r.drop (HT.sIx xs.length 0 lo)).take (HT.sIx xs.length xs.length hi - HT.sIx xs.length 0 lo),Heap.get?_push_size _ rfl⟩
noncomputable def dSlF (te:TD)(tl th:TOd)(τ:DS)(M:MH)(Q:QD):Prop:=te τ M λ w M1=>tl τ M1 λ lo M2=>th τ M2 λ hi M3=>∃ a ws,w=.m a/\M3 a=some (.flst ws)/\∀ p,M3 p=none->Q (.m p) (updM M3 p (.lst (cutD ws lo hi)))
theorem pd_sliceF0 {e:Expr}{te:TD}{lo hi:Option Expr}{tl th:TOd}{pos p2:Pos}(he:PD X e te)(hl:POd X lo tl)(hu:POd X hi th):PD X (.Subscript e (.Slice lo hi none p2) pos) (dSlF te tl th) :=
 pe_w (pe_slice sl_flist he hl hu) λ σ H Q h=>by
  obtain ⟨τ,M,Qd,A,h,k⟩:=h
  refine ⟨τ,M,_,A,h,λ x H1 w M1 kp1 r1 m1 q1=>⟨τ,M1,_,A.go kp1 m1,q1,λ lo' H2 M2 kp2 m2 q2=>⟨τ,M2,_,A.go (kp1.trans kp2) m2,q2,λ hi' H3 M3 kp3 m3 hq112=>?_⟩⟩⟩
  obtain ⟨a,ws,ew,hm,q3⟩:=hq112
  subst ew
  obtain ⟨ob,vs,e,ra⟩:=m3 _ _ hm
  refine ⟨a,ob,vs,r1,e,λ p hp=>?_⟩
  have kp4:Kp H3 (upd H3 p (.lst (cutV vs lo' hi'))):=Kp.new hp
  exact k _ _ (.m p) _ (((kp1.trans kp2).trans kp3).trans kp4) rfl (m3.put (mo:=.lst (cutD ws lo' hi')) kp4 ⟨_,upd_same,RepWs.keep kp4 (RepWs.cut ra lo' hi')⟩) (q3 p (m3.free hp))
theorem tru_still:TruR X (λ x H Q=>∃ a o l,x=.ref a/\H a=some (stillF o l)/\Q (!l.isEmpty) H):=by
 intro pins s σ H x v Q I rx h
 obtain ⟨a,o,l,rfl,hx,q⟩:=h
 cases rx
 obtain ⟨its,r,pl,hz⟩:=stillF_plain I hx
 have hlen:=r.length
 have hl:=line63
 have hs:sizeLine=16777216:=sizeLine_eq
 exact wpAny_truthy_list pl.isList (by simp only [List.size_toArray]; omega) ⟨H,I.tok _,by rw [isEmpty_of r]; exact q⟩
theorem pt_truF {a:Expr}{ta:TE}(ha:PE X a ta)(he:∀ whole:Sem Value,PySem.isTrue a X.env whole=(do let v <- whole; standAt a.pos; holding [v] (truthy v))) :
  PT X a (λ σ H Q=>ta σ H λ x H'=>∃ b o l,x=.ref b/\H' b=some (stillF o l)/\Q (!l.isEmpty) H'):=by
 intro pins s σ H Q I h
 exact isTrue_plain (thn (ha pins s σ H _ I h) λ v s1 ⟨x,H1,I1,r1,q1⟩=>tru_still pins s1 σ H1 x v Q I1 r1 q1) (he _)
noncomputable def dTruF (ta:TD)(τ:DS)(M:MH)(Q:Bool->MH->Prop):Prop:=ta τ M λ w M1=>∃ b ws,w=.m b/\M1 b=some (.flst ws)/\Q (!ws.isEmpty) M1
theorem ptd_truF0 {a:Expr}{ta:TD}(ha:PD X a ta)(he:∀ whole:Sem Value,PySem.isTrue a X.env whole=(do let v <- whole; standAt a.pos; holding [v] (truthy v)):=by intro _; rfl):PTd X a (dTruF ta) :=
 pt_w (pt_truF ha he) λ σ H Q h=>by
  obtain ⟨τ,M,Qd,A,h,k⟩:=h
  refine ⟨τ,M,_,A,h,λ v H' w M' kp r m hq113=>?_⟩
  obtain ⟨b,ws,ew,hm,q⟩:=hq113
  subst ew
  obtain ⟨ob,vs,e,ra⟩:=m _ _ hm
  exact ⟨b,ob,vs,r,e,by rw [<- empty_len (RepWs.length ra)]; exact k _ H' M' kp m q⟩
theorem call_isiF:CallR X (.builtin "isinstance") (λ xs H Q=>∃ a o l T,xs=[.ref a,.ty T]/\H a=some (stillF o l)/\Ty6 T/\Q (.bl (isiD (.list []) T)) H):=by
 intro pins s σ H xs us Q I r h
 obtain ⟨a,o,l,T,rfl,ha,h6,q⟩:=h
 obtain ⟨u,w',rfl,rx,ry⟩:=vals2 r
 cases (show w'=Value.type T from ry)
 have e:=isi_kit (K:=X.K) (.list []) h6
 have fin:∀ tk,EP X pins σ Q (.bool (isiD (.list []) T)) { s with toks:=tk }:=λ tk=>⟨.bl _,H,I.tok _,rfl,q⟩
 generalize isiD (.list []) T=b at e fin
 cases (show u=Value.ref a from rx)
 obtain ⟨its,rv,⟨o,n,e1,e2,e3,e4⟩,hz⟩:=stillF_plain I ha
 exact PySem.W.kia_one PySem.W.kitx_list I.kIn ⟨_,e1,e2⟩ e (λ z=>nomatch z) fin
noncomputable def rdIsiF (ws:List W)(M:MH)(Q:QD):Prop:=∃ a l T,ws=[.m a,.t T]/\M a=some (.flst l)/\Ty6 T/\Q (.d (.bool (isiD (.list []) T))) M
theorem cd_isiF:CallD K (λ xs H Q=>∃ a o l T,xs=[.ref a,.ty T]/\H a=some (stillF o l)/\Ty6 T/\Q (.bl (isiD (.list []) T)) H) rdIsiF:=by
 intro vs H ws M Qd Q r m ⟨a,l,T,e,hm,h6,q⟩ k
 subst e
 obtain ⟨v,v',e1,r1,r2⟩:=repWs2 r
 simp only [RepW] at r1 r2
 subst r1 r2
 obtain ⟨ob,vs',e2,ra⟩:=m _ _ hm
 exact ⟨a,ob,vs',T,e1,e2,h6,k _ H (.d (.bool _)) M (Kp.refl H) (by simp [RepW,RepD]) m q⟩
end
noncomputable def Itef (a:Addr)(o:Obj)(l:List V):It :=
 ⟨λ i H=>H a=some (stillF o l)/\i < l.length,λ i H x H'=>∃ T v,H T=none/\x=.ref T/\H'=upd H T (.tup [.int i,v])/\l[i]? = some v,λ i H=>H a=some (stillF o l)/\l.length<=i⟩
theorem turn_enumF {P:Program}{w:World}{K:PySem.W.Frag}{elts:List Expr}{x1:Nat}{tpos:Pos}(a e it:Addr)(o:Obj)(l:List V)(hne:e≠it) :
  Turn P w K (.Tuple elts x1 tpos) (Itef a o l) [e,it] e (λ i h=>(∃ old,IsEnum h e it (i:Nat) old)/\h.IsListIter it a i) where
 mem:=by simp
 obj:=λ i h ⟨⟨old,st⟩,⟨oi,ei,ci,di⟩⟩ b hb=>by
  have z:b=e\/b=it:=by simpa using hb
  rcases z with rfl | rfl
  ·exact ⟨_,st,λ v z=>by cases z⟩
  ·exact ⟨oi,ei,λ v z=>by rw [di] at z; cases z⟩
 keep:=λ i h h' ⟨⟨old,st⟩,li⟩ k=>⟨⟨old,k e (by simp) _ st⟩,li.at λ o q=>k it (by simp) o q⟩
 item:=by
  intro X hP hw hK hc i pins s σ H E I hf ⟨⟨old,st⟩,li⟩ ⟨hq,hx⟩
  subst hP hw hK
  have fe:=hf e (by simp)
  have fi:=hf it (by simp)
  obtain ⟨its,rv,p,hz⟩:=stillF_plain I hq
  obtain ⟨u,hu,ru⟩:=rv.get (List.getElem?_eq_getElem hx)
  refine wpAny_pyNext_enum_item st li p.isList (x:=u) (by simpa using hu) hne λ h' st' li' ht hsz kp=>?_
  refine ⟨_,rfl,wpAny_letOwnedTupleGo_enum st' λ h'' st'' sb=>?_⟩
  obtain ⟨t0,t1,t2,t3,t4,t5⟩:=I.fpOk (Nat.le_refl _) (I.hok.fresh (Nat.le_refl _))
  have nT:s.heap.objs.size≠e:=Nat.ne_of_gt (Heap.lt_size st)
  have I1:Inv X pins σ H { s with heap:=h'',toks:=s.toks+1 }:=Inv.turned2 I (λ b ob h1 h2 q=>(sb.2 b h2).trans (kp b ob h2 h1 q)) fi fe
  have eT:h''.get? s.heap.objs.size=some { cls:=.type "tuple",data:=.seq #[.int (i:Nat) s.toks,u] }:=(sb.2 _ nT).trans ht
  have I2:=Inv.trackT (us:=[.int (i:Nat) s.toks,u]) (ys:=[.int i,l[i]]) I1 eT t0 (.cons ⟨_,rfl⟩ (.cons ru .nil)) (by simp; have:=s16; omega) t3 t1 t4 t5
  have li'':h''.IsListIter it a (i+1):=li'.at λ o q=>(sb.2 it hne.symm).trans q
  have hit:it < s.heap.objs.size:=by
   obtain ⟨oi,ei,_⟩:=li
   exact Heap.lt_size ei
  refine ⟨.ref s.heap.objs.size,_,I2,rfl,⟨_,l[i],t0,rfl,rfl,List.getElem?_eq_getElem hx⟩,⟨⟨_,st''⟩,li''⟩,λ b hb=>?_⟩
  have z:b=e\/b=it:=by simpa using hb
  rcases z with rfl | rfl
  ·rw [upd_ne nT.symm]; exact fe.1
  ·rw [upd_ne (Nat.ne_of_lt hit)]; exact fi.1
 done:=by
  intro X hP hw hK hc i pins s σ H E I hf ⟨⟨old,st⟩,li⟩ ⟨hq,hx⟩
  subst hP hw hK
  obtain ⟨f0,f1,f2,f3,f4,f5⟩:=hf it (by simp)
  obtain ⟨its,rv,p,hz⟩:=stillF_plain I hq
  have hl:=rv.length
  exact wpAny_pyNext_enum_end (I.ok.hd hc) st li p.isList (by simp; omega) λ h' eb=>⟨rfl,I.turned (t':=s.toks) (λ b o hb q=>eb b o hb q) f0 f1 f3 f4 f5⟩
 self:=λ _ _ _ _ _ ⟨⟨old,st⟩,li⟩ h=>wpAny_pyIter_enum st h
section
variable {X:Cx}{a:Expr}{p pos:Pos}{ta:TA}{t:TAd}
noncomputable def iEnumF (ta:TA):TI:=λ σ H R=>ta σ H λ vs H1=>∃ b o l,vs=[.ref b]/\H1 b=some (stillF o l)/\R (Itef b o l) H1
theorem pi_enumF {elts:List Expr}{x1:Nat}{tpos:Pos}(hg:Gl X "enumerate")(hm:X.mg "enumerate" = none)(ha:PA X [a] ta)(hs:starEach [a] X.env=[(false,eval a X.env)]:=by rfl) :
  PI X (.Tuple elts x1 tpos) (.Call (.Name "enumerate" p) [a] [] pos) (iEnumF ta):=by
 intro pins s σ H R I h
 refine Call_ (ld_blt I hg hm bt_enumerate (PyProof.Rows.callWith_type1 (thn (ha pos pins s σ H _ I h) λ us s1 ⟨vs,H1,I1,r1,q1⟩=>?_) hs rfl))
 obtain ⟨b,o,l,e,hq,q⟩:=q1
 subst e
 cases r1 with
 | cons r rr =>
  cases rr
  cases (show _=Value.ref b from r)
  obtain ⟨its,rv,pl,hz⟩:=stillF_plain I1 hq
  refine call_enumerate_list pl.isList λ h' st li hsz kp=>?_
  have I2:Inv X pins σ H1 { s1 with heap:=h' }:=I1.kept (t':=s1.toks) kp
  refine wpAny_pyIter_enum st ?_
  refine ⟨_,[_,_],_,_,H1,rfl,I2,turn_enumF b _ _ o l (Nat.succ_ne_self _),⟨⟨_,st⟩,li⟩,λ c hc=>?_,q⟩
  have z:c=s1.heap.objs.size+1\/c=s1.heap.objs.size:=by simpa using hc
  rcases z with rfl | rfl
  ·exact I1.fpOk (Nat.le_succ _) (I1.hok.fresh (Nat.le_succ _))
  ·exact I1.fpOk (Nat.le_refl _) (I1.hok.fresh (Nat.le_refl _))
noncomputable def dEnumF (t:TAd)(τ:DS)(M:MH)(R:List W->MH->Prop):Prop:=t τ M λ ws M1=>∃ b ds,ws=[.m b]/\M1 b=some (.flst (ds.map W.d))/\R (enumW ds) M1
theorem pid_enumF0 {elts:List Expr}{x1:Nat}{tpos:Pos}(hg:Gl X "enumerate")(hm:X.mg "enumerate" = none)(ha:PAd X [a] t)(h1:isSt a=false:=by rfl) :
  PId X (.Tuple elts x1 tpos) (.Call (.Name "enumerate" p) [a] [] pos) (dEnumF t):=pi_w (pi_enumF hg hm ha (by rw [star_ok a [] X.env h1]; rfl)) λ σ H R hq114=>by
 obtain ⟨τ,M,Rd,A,h,k⟩:=hq114
 refine ⟨τ,M,_,A,h,λ vs H1 ws M1 kp r m hq115=>?_⟩
 obtain ⟨b,ds,ew,hm,q⟩:=hq115
 subst ew
 obtain ⟨v,ev,r1⟩:=repWs1 r
 simp only [RepW] at r1
 subst ev r1
 obtain ⟨ob,l,e,ra⟩:=m _ _ hm
 have hl:ds.length=l.length:=by simpa using RepWs.length ra
 refine ⟨b,ob,l,rfl,e,k _ H1 _ M1 kp m (λ H2 kp2 i=>?_) q⟩
 have e2:=kp2.frz b ob _ e
 have hlw:(enumW ds).length=l.length:=by simp [enumW,hl]
 refine ⟨λ hi=>⟨e2,by omega⟩,λ hi=>⟨e2,by omega⟩,λ x H' hi hq116=>?_⟩
 obtain ⟨T,v,hT,ex,eH,hv⟩:=hq116
 subst ex eH
 have hid:i < ds.length:=by rw [hlw] at hi; omega
 obtain ⟨v',e3,rd⟩:=RepWs.get (RepWs.keep kp2 ra) (show (ds.map W.d)[i]? = some (W.d ds[i]) by simp [hid])
 rw [hv] at e3
 cases e3
 have kpn:Kp H2 (upd H2 T (.tup [.int i,v])):=Kp.new hT
 refine ⟨kpn,λ M m=>m.new hT,.d (.tuple [.int (i:Nat),ds.getD i .none]),by simp [enumW,hid],?_⟩
 have ed:ds.getD i .none=ds[i]:=by simp [List.getD,hid]
 rw [ed]
 simp only [RepW,RepD,RepA]
 exact ⟨T,_,rfl,.inl (.inl upd_same),_,_,rfl,rfl,_,_,rfl,RepD.keep kpn rd,rfl⟩
end
noncomputable abbrev dItemsG:TD->DS->MH->(List W->MH->Prop)->Prop:=dItemsF
section
variable {X:Cx}{K:PySem.W.Frag}
theorem preSum_list (ns:List Int):∀ k,k<=ns.length->preSum (λ i=>(ns[i]?).getD 0) k=(ns.take k).sum
 | 0,_=>by simp [preSum]
 | k+1,h=>by
  rw [preSum_succ,preSum_list ns k (by omega),List.take_succ,List.sum_append]
  have hk:k < ns.length:=by omega
  simp [List.getElem?_eq_getElem hk]
theorem call_sumV (hc:X.calm=true):CallR X (.builtin "sum") (λ xs H Q=>∃ v a kvs,∃ ns:List Int,xs=[.ref v]/\H v=some (.ext λ h=>h.IsValuesView v a)/\Rd H a (.dK kvs)/\kvs.map (·.2)=ns.map V.int/\Q (.int ns.sum) H):=by
 intro pins s σ H xs us Q I r h
 obtain ⟨v,a,kvs,ns,rfl,hv,hr,hk,q⟩:=h
 obtain ⟨u,rfl,rx⟩:=vals1 r
 cases (show u=Value.ref v from rx)
 obtain ⟨hsz,hsys,vs,rel,oo,es,ep,hd⟩:=hr.ok I.hok
 obtain ⟨hview,_⟩:=(show ObjOk X.prog X.w H s.heap v (.ext λ h=>h.IsValuesView v a) from I.hok v _ hv)
 have hI:=kv_ints rel hk
 have hln:vs.length=ns.length:=by simpa using hI.length
 have src:=PySem.W.kdl_values (prog:=X.prog) (w:=X.w) (knd:=mixKind X.prog X.w) (r:=v) (d:=a) (kvs:=vs) (ep:=ep)
 have there:=(src.there s.heap ⟨hview,⟨oo,es,hd⟩⟩).2
 obtain ⟨oI,St,hit,W,st⟩:=src.iter X.A.in1 s (I.ok.hd hc) ⟨hview,⟨oo,es,hd⟩⟩
 refine call_sum_walkG (hit _ _ ⟨s.heap.objs.size,_,_,vs.length,_,_,λ i=>(ns[i]?).getD 0,rfl,W,st,λ b hb=>?_,λ i x hP=>?_,λ h' tk t' hk'=>?_⟩)
 ·have z:b=s.heap.objs.size\/b=a:=by simpa using hb
  show b < (s.heap.push oI).objs.size
  rw [Heap.size_push]
  rcases z with z | z
  ·rw [z]; exact Nat.lt_succ_self _
  ·rw [z]; exact Nat.lt_succ_of_lt there
 ·obtain ⟨k,hx⟩:=hP
  obtain ⟨n,t,e1,rfl⟩:=ints_at hI i x (by rw [List.getElem?_map,hx]; rfl)
  exact ⟨t,by show Value.int n t=Value.int ((ns[i]?).getD 0) t; rw [e1]; rfl⟩
 ·have e:preSum (λ i=>(ns[i]?).getD 0) vs.length=ns.sum:=by rw [preSum_list ns _ (by omega),hln,List.take_length]
  rw [e]
  exact ⟨.int _,H,I.kept (LSm.kept_iter hk'),⟨_,rfl⟩,q⟩
variable {o e:Expr}{to:TE}{td te:TD}{apos cpos p pos:Pos}
noncomputable def rSumV (xs:List V)(H:Hp)(Q:VK):Prop:=∃ v a kvs,∃ ns:List Int,xs=[.ref v]/\H v=some (.ext λ h=>h.IsValuesView v a)/\Rd H a (.dK kvs)/\kvs.map (·.2)=ns.map V.int/\Q (.int ns.sum) H
theorem pe_sumV (hc:X.calm=true)(hg:Gl X "sum")(hm:X.mg "sum" = none)(ho:PE X o to)(hbase:attributeBase o "values" X.env (eval o X.env)=eval o X.env:=by rfl)(hline:(apos.endLine == cpos.line)=true:=by rfl) :
  PE X (.Call (.Name "sum" p) [.Call (.Attribute o "values" apos) [] [] cpos] [] pos) (tCB rSumV (tCons (tVals to) tNil)) :=
 pe_callB (call_sumV hc) hg hm bb_sum (pa_cons (pe_vals ho hbase hline) pa_nil) (by decide) (by decide) (star_ok _ [] X.env rfl) (plain_ok pos X.env [] rfl)
noncomputable def dSumV (td:TD)(τ:DS)(M:MH)(Q:QD):Prop:=td τ M λ w M1=>∃ a kvs,∃ ns:List Int,w=.m a/\M1 a=some (.dic kvs)/\kvs.map (·.2)=intsW ns/\Q (.d (.int ns.sum)) M1
theorem pd_sumV0 (hc:X.calm=true)(hg:Gl X "sum")(hm:X.mg "sum" = none)(ho:PD X o td)(hbase:attributeBase o "values" X.env (eval o X.env)=eval o X.env:=by rfl)(hline:(apos.endLine == cpos.line)=true:=by rfl) :
  PD X (.Call (.Name "sum" p) [.Call (.Attribute o "values" apos) [] [] cpos] [] pos) (dSumV td):=pe_w (pe_sumV hc hg hm ho hbase hline) λ σ H Q hq117=>by
 obtain ⟨τ,M,Qd,A,h,k⟩:=hq117
 refine ⟨τ,M,_,A,h,λ x H1 w M1 kp1 r1 m1 hq118=>?_⟩
 obtain ⟨a,kvs,ns,ew,hmm,hk,q⟩:=hq118
 subst ew
 obtain ⟨l,e,pr⟩:=m1 _ _ hmm
 refine ⟨a,l,r1,.inl e,λ v hv=>?_⟩
 have na:a≠v:=λ z=>by rw [z,hv] at e; cases e
 have kp2:Kp H1 (upd H1 v (.ext λ h=>h.IsValuesView v a)):=Kp.new hv
 exact ⟨v,a,l,ns,rfl,upd_same,.inl (by rw [upd_ne na]; exact e),pr_ints hk pr,kgo k kp1 _ _ (.d (.int _)) _ kp2 (by simp [RepW,RepD]) (m1.new hv) q⟩
end
namespace Q
section
variable {X:Cx}
theorem pid_itemsG {tg o:Expr}{td:TD}(ho:Jd (PD X o td)):Jd (PId X tg o (dItemsG td)):=⟨D.pid_itemsF0 ho.h⟩
theorem pd_sliceF {e:Expr}{te:TD}{lo hi:Option Expr}{tl th:TOd}{pos p2:Pos}(he:Jd (PD X e te))(hl:Jd (POd X lo tl))(hu:Jd (POd X hi th)):Jd (PD X (.Subscript e (.Slice lo hi none p2) pos) (dSlF te tl th)):=⟨D.pd_sliceF0 he.h hl.h hu.h⟩
theorem ptd_truF {a:Expr}{ta:TD}(ha:Jd (PD X a ta))(he:∀ whole:Sem Value,PySem.isTrue a X.env whole=(do let v <- whole; standAt a.pos; holding [v] (truthy v)):=by intro _; rfl):Jd (PTd X a (dTruF ta)):=⟨D.ptd_truF0 ha.h he⟩
theorem pid_enumF {a:Expr}{p pos:Pos}{t:TAd}{elts:List Expr}{x1:Nat}{tpos:Pos}(hg:Gl X "enumerate")(hm:X.mg "enumerate" = none)(ha:Jd (PAd X [a] t))(h1:isSt a=false:=by rfl) :
  Jd (PId X (.Tuple elts x1 tpos) (.Call (.Name "enumerate" p) [a] [] pos) (dEnumF t)):=⟨D.pid_enumF0 hg hm ha.h h1⟩
theorem pd_sumV {o:Expr}{td:TD}{apos cpos p pos:Pos}(hc:X.calm=true)(hg:Gl X "sum")(hm:X.mg "sum" = none)(ho:Jd (PD X o td))(hbase:attributeBase o "values" X.env (eval o X.env)=eval o X.env:=by rfl)(hline:(apos.endLine == cpos.line)=true:=by rfl) :
  Jd (PD X (.Call (.Name "sum" p) [.Call (.Attribute o "values" apos) [] [] cpos] [] pos) (dSumV td)):=⟨D.pd_sumV0 hc hg hm ho.h hbase hline⟩
end
end Q
end D
namespace K84
open PySem PySem.Spec PyProof.Rows L2 D Rc Stc
abbrev C_Door:Addr:=199
abbrev C_cd_round_of:Addr:=107
abbrev C_tb_round_of:Addr:=105
noncomputable abbrev N_l_shares:List Str:=["_law_bag_here", "_law_letters", "_law_word", "_law_at", "_law_step", "_law_place", "_law_found", "_law_k", "_law_sign", "_law_name", "_law_some"]
noncomputable def t_l_shares (sp_l_take:SpD):TSd :=
  dSeq (dAsg (dC (.d (.str "abcdefghijklmnopqrstuvwxyz"))) (gN 1)) <|
  dSeq (dAsg (dMS rdJoin (dC (.d (.str ""))) (dCons (dLC (dRng1 (dCons (dCall sp_l_take (dCons (dVar 0) (dCons (dC (.d (.int 8))) (dNil)))) (dNil))) (gN 0) (dYes) (dOp rdIx (dVar 1) (dCall sp_l_take (dCons (dVar 2) (dCons (dC (.d (.int 26))) (dNil))))) 1 [1,0]) dNil)) (gN 2)) <|
  dSeq (dAsg (dCall sp_l_take (dCons (dVar 0) (dCons (dC (.d (.int 26))) (dNil)))) (gN 3)) <|
  dSeq (dAsg (dOp rdIx (dLst (dCons (dC (.d (.int 1))) (dCons (dC (.d (.int 3))) (dCons (dC (.d (.int 5))) (dCons (dC (.d (.int 7))) (dCons (dC (.d (.int 9))) (dCons (dC (.d (.int 25))) (dNil)))))))) (dCall sp_l_take (dCons (dVar 0) (dCons (dC (.d (.int 6))) (dNil))))) (gN 4)) <|
  dSeq (dAsg (dCall sp_l_take (dCons (dVar 0) (dCons (dOp rdAdd (dCB rdLen (dCons (dVar 2) (dNil))) (dC (.d (.int 1)))) (dNil)))) (gN 5)) <|
  dSeq (dAsg (dLstM (dNil)) (gN 6)) <|
  dSeq (dFor (dRng1 (dCons (dOp rdAdd (dC (.d (.int 1))) (dCall sp_l_take (dCons (dVar 0) (dCons (dC (.d (.int 4))) (dNil))))) (dNil))) (gN 7)
   (dSeq (dAsg (dOp rdIx (dVar 1) (dOp rdMod (dOp rdAdd (dVar 3) (dOp rdMul (dVar 4) (dVar 7))) (dC (.d (.int 26))))) (gN 8)) <|
   dSeq (dAsg (dOp rdAdd (dOp rdAdd (dSl (dVar 2) (dNoPart) (dPart (dVar 5))) (dVar 8)) (dSl (dVar 2) (dPart (dVar 5)) (dNoPart))) (gN 9)) <|
   dSeq (dAsg (dLst (dCons (dOp rdAdd (dC (.d (.int 1))) (dCall sp_l_take (dCons (dVar 0) (dCons (dC (.d (.int 9))) (dNil))))) (dCons (dC (.d (.int 1))) (dCons (dC (.d (.int 9))) (dCons (dOp rdAdd (dC (.d (.int 1))) (dCall sp_l_take (dCons (dVar 0) (dCons (dC (.d (.int 3))) (dNil))))) (dNil)))))) (gN 10)) <|
   dDrop (dAppend (dVar 6) (dTup (dCons (dVar 9) (dCons (dOp rdIx (dVar 10) (dCall sp_l_take (dCons (dVar 0) (dCons (dC (.d (.int 4))) (dNil))))) (dNil))))))) <|
  dRet (dSeal (dVar 6))
noncomputable abbrev N_is_share_row:List Str:=["row"]
noncomputable def t_is_share_row (sp_is_word sp_is_within:SpD):TSd :=
  dRet (dAndV (dCB rdIsiT (dCons (dVar 0) (dCons (dC (.t "tuple")) (dNil)))) (dAndV (dOp rdEqT (dCB rdLen (dCons (dVar 0) (dNil))) (dC (.d (.int 2)))) (dAndV (dCall sp_is_word (dCons (dOp rdIx (dVar 0) (dC (.d (.int 0)))) (dNil))) (dCall sp_is_within (dCons (dOp rdIx (dVar 0) (dC (.d (.int 1)))) (dCons (dC (.d (.int 1))) (dCons (dC (.d (.int 9))) (dNil))))))))
noncomputable abbrev N_refuse_shares:List Str:=["shares", "at", "row"]
noncomputable def t_refuse_shares (sp_is_share_row:SpD):TSd :=
  dSeq (dIf (dOr (dNot (dTest (dCB rdIsiF (dCons (dVar 0) (dCons (dC (.t "list")) (dNil)))))) (dNot (dTruF (dVar 0))))
   (dNeverS)
   (dNext)) <|
  dFor (dEnumF (dCons (dVar 0) (dNil))) (gT 2 (gsCons (gN 1) (gsCons (gN 2) (gsNil))))
   (dIf (dOr (dTest (dOp rdGe (dVar 1) (dC (.d (.int 4))))) (dOr (dNot (dTest (dCall sp_is_share_row (dCons (dVar 2) (dNil))))) (dTest (dOp (rdInL false) (dOp rdIx (dVar 2) (dC (.d (.int 0)))) (dLC (dItemsN (dSlF (dVar 0) (dNoPart) (dPart (dVar 1)))) (gN 0) (dYes) (dOp rdIx (dVar 0) (dC (.d (.int 0)))) 1 [])))))
    (dNeverS)
    (dNext))
noncomputable abbrev N_due_at:List Str:=["unit", "whole", "share"]
noncomputable def t_due_at:TSd :=
  dRet (dUn rdNeg (dOp rdDiv (dOp rdMul (dUn rdNeg (dOp rdAdd (dVar 0) (dC (.d (.int 1))))) (dVar 1)) (dVar 2)))
noncomputable abbrev N_round_of:List Str:=["shares", "whole", "owned", "row", "slot", "released", "owner", "share"]
noncomputable abbrev q_round_of:Str:=(("round_of" : Str) ++ ".<locals>." ++ "<lambda>")
noncomputable def t_round_of (sp_due_at:SpD):TSd :=
  dSeq (dAsg (dCB rdSum (dCons (dLC (dItemsG (dVar 0)) (gT 2 (gsCons (gN 0) (gsCons (gN 1) (gsNil)))) (dYes) (dVar 1) 2 []) (dNil))) (gN 1)) <|
  dSeq (dAsg (dDC (dItemsG (dVar 0)) (gT 2 (gsCons (gN 0) (gsCons (gN 1) (gsNil)))) (dYes) (dVar 0) (dC (.d (.int 0))) 2 []) (gN 2)) <|
  dSeq (dAsg (dLstM (dNil)) (gN 3)) <|
  dSeq (dFor (dRng1 (dCons (dVar 1) (dNil))) (gN 4)
   (dSeq (dAsg (dLC (dItemsG (dVar 0)) (gT 2 (gsCons (gN 0) (gsCons (gN 1) (gsNil)))) (dTest (dOp rdLe (dOp rdDiv (dOp rdMul (dDGet (dVar 2) (dVar 0)) (dVar 3)) (dVar 1)) (dVar 4))) (dTup (dCons (dVar 0) (dCons (dVar 1) (dNil)))) 2 [2,1,4]) (gN 5)) <|
   dSeq (dAsg (dMinK C_tb_round_of q_round_of ⟨42,41,42,92⟩ (dVar 5) (dCall sp_due_at (dCons (dDGet (dVar 2) (dOp rdIx (dVar 0) (dC (.d (.int 0))))) (dCons (dVar 1) (dCons (dOp rdIx (dVar 0) (dC (.d (.int 1)))) (dNil))))) [1,2]) (gT 2 (gsCons (gN 6) (gsCons (gN 7) (gsNil))))) <|
   dSeq (dAugD (dVar 2) (dVar 6) (dC (.d (.int 1))) (λ i j=>i+j)) <|
   dDrop (dAppend (dVar 3) (dVar 6)))) <|
  dRet (dVar 3)
noncomputable abbrev N_Door_begin:List Str:=["self"]
noncomputable def t_Door_begin:TSd :=
  dFldPut C_Door (dVar 0) (dC (.d (.int 0))) "next_slot"
noncomputable abbrev N_Door_new_shares:List Str:=["self", "shares"]
noncomputable def t_Door_new_shares (sp_refuse_shares sp_round_of sp_Door_begin:SpD):TSd :=
  dSeq (dDrop (dCall sp_refuse_shares (dCons (dVar 1) (dNil)))) <|
  dSeq (dFldPut C_Door (dVar 0) (dDC (dItemsG (dVar 1)) (gT 2 (gsCons (gN 0) (gsCons (gN 1) (gsNil)))) (dYes) (dVar 0) (dGet2 (dFld C_Door (dVar 2) "asks_waiting") (dVar 0) (dC (.d (.int 0)))) 2 [0]) "asks_waiting") <|
  dSeq (dFldPut C_Door (dVar 0) (dCall sp_round_of (dCons (dVar 1) (dNil))) "owner_round") <|
  dDrop (dMeth C_Door "begin" sp_Door_begin (dVar 0) dNil)
noncomputable abbrev N_Door_init:List Str:=["self", "shares"]
noncomputable def t_Door_init (sp_Door_new_shares:SpD):TSd :=
  dSeq (dFldPut C_Door (dVar 0) (dNewDic) "asks_waiting") <|
  dSeq (dFldPut C_Door (dVar 0) (dLstM (dNil)) "owner_round") <|
  dSeq (dFldPut C_Door (dVar 0) (dC (.d (.int 0))) "next_slot") <|
  dSeq (dFldPut C_Door (dVar 0) (dC (.d .none)) "number_led") <|
  dIf (dTest (dOp (rdIsN true) (dVar 1) (dC (.d .none))))
   (dDrop (dMeth C_Door "new_shares" sp_Door_new_shares (dVar 0) (dCons (dVar 1) (dNil))))
   (dNext)
noncomputable abbrev N_l_model:List Str:=["_law_shares_here", "_law_model_here", "_law_group", "_law_share"]
noncomputable def t_l_model:TSd :=
  dSeq (dAsg (dDictM [(dC (.d (.str "shares")),dSeal (dCB rdListOf (dCons (dVar 0) (dNil)))),(dC (.d (.str "waits")),dNewDic),(dC (.d (.str "had")),dLCm (dItems (dVar 0)) (gN 0) (dYes) (dC (.d (.int 0))) 1 []),(dC (.d (.str "slot")),dC (.d (.int 0))),(dC (.d (.str "last")),dC (.d (.int 0)))]) (gN 1)) <|
  dSeq (dFor (dItems (dVar 0)) (gT 2 (gsCons (gN 2) (gsCons (gN 3) (gsNil))))
   (dDPut (dDGet (dVar 1) (dC (.d (.str "waits")))) (dVar 2) (dC (.d (.int 0))))) <|
  dRet (dVar 1)
noncomputable abbrev N_l_whose:List Str:=["_law_model_here", "_law_total", "_law_best", "_law_at", "_law_share", "_law_unit", "_law_last"]
noncomputable def t_l_whose:TSd :=
  dSeq (dAsg (dCB rdSum (dCons (dLC (dItems (dDGet (dVar 0) (dC (.d (.str "shares"))))) (gT 2 (gsCons (gN 0) (gsCons (gN 1) (gsNil)))) (dYes) (dVar 1) 2 []) (dNil))) (gN 1)) <|
  dSeq (dAsg (dC (.d .none)) (gN 2)) <|
  dSeq (dFor (dRng1 (dCons (dCB rdLen (dCons (dDGet (dVar 0) (dC (.d (.str "shares")))) (dNil))) (dNil))) (gN 3)
   (dSeq (dAsg (dOp rdIx (dOp rdIx (dDGet (dVar 0) (dC (.d (.str "shares")))) (dVar 3)) (dC (.d (.int 1)))) (gN 4)) <|
   dSeq (dAsg (dOp rdIx (dDGet (dVar 0) (dC (.d (.str "had")))) (dVar 3)) (gN 5)) <|
   dSeq (dAsg (dOp rdAdd (dOp rdDiv (dOp rdSub (dOp rdMul (dOp rdAdd (dVar 5) (dC (.d (.int 1)))) (dVar 1)) (dC (.d (.int 1)))) (dVar 4)) (dC (.d (.int 1)))) (gN 6)) <|
   dIf (dAnd (dTest (dOp rdLe (dOp rdDiv (dOp rdMul (dVar 5) (dVar 1)) (dVar 4)) (dDGet (dVar 0) (dC (.d (.str "slot")))))) (dOr (dTest (dOp (rdIsN false) (dVar 2) (dC (.d .none)))) (dTest (dOp rdLt (dVar 6) (dOp rdIx (dVar 2) (dC (.d (.int 0))))))))
    (dAsg (dTup (dCons (dVar 6) (dCons (dVar 3) (dNil)))) (gN 2))
    (dNext))) <|
  dRet (dIfE (dTest (dOp (rdIsN false) (dVar 2) (dC (.d .none)))) (dC (.d .none)) (dOp rdIx (dVar 2) (dC (.d (.int 1)))))
noncomputable abbrev N_Door_slot:List Str:=["self"]
noncomputable def t_Door_slot:TSd :=
  dRet (dFld C_Door (dVar 0) "next_slot")
noncomputable abbrev N_Door_owner:List Str:=["self"]
noncomputable def t_Door_owner:TSd :=
  dSeq (dIf (dNot (dTru (dFld C_Door (dVar 0) "owner_round")))
   (dRet (dC (.d .none)))
   (dNext)) <|
  dRet (dOp rdIx (dFld C_Door (dVar 0) "owner_round") (dOp rdMod (dFld C_Door (dVar 0) "next_slot") (dCB rdLen (dCons (dFld C_Door (dVar 0) "owner_round") (dNil)))))
noncomputable abbrev N_Door_waits:List Str:=["self", "group"]
noncomputable def t_Door_waits (sp_is_word:SpD):TSd :=
  dSeq (dIf (dOr (dNot (dTest (dCall sp_is_word (dCons (dVar 1) (dNil))))) (dTest (dDNotIn (dVar 1) (dFld C_Door (dVar 0) "asks_waiting"))))
   (dNeverS)
   (dNext)) <|
  dRet (dDGet (dFld C_Door (dVar 0) "asks_waiting") (dVar 1))
noncomputable abbrev N_l_stands:List Str:=["_law_door", "_law_model_here", "_law_whose_here", "_law_due"]
noncomputable def t_l_stands (sp_l_whose sp_Door_slot sp_Door_owner sp_Door_waits:SpD):TSd :=
  dSeq (dAsg (dCall sp_l_whose (dCons (dVar 1) (dNil))) (gN 2)) <|
  dSeq (dAsg (dLst (dCons (dDGet (dVar 1) (dC (.d (.str "slot")))) (dCons (dIfE (dTest (dOp (rdIsN false) (dVar 2) (dC (.d .none)))) (dC (.d .none)) (dOp rdIx (dOp rdIx (dDGet (dVar 1) (dC (.d (.str "shares")))) (dVar 2)) (dC (.d (.int 0))))) (dNil)))) (gN 3)) <|
  dSeq (dIf (dOr (dTest (dOp rdNeT (dLst (dCons (dMeth C_Door "slot" sp_Door_slot (dVar 0) dNil) (dCons (dMeth C_Door "owner" sp_Door_owner (dVar 0) dNil) (dNil)))) (dVar 3))) (dTest (dCB rdIsiT (dCons (dMeth C_Door "slot" sp_Door_slot (dVar 0) dNil) (dCons (dC (.t "bool")) (dNil))))))
   (dRet (dC (.d (.bool false))))
   (dNext)) <|
  dRet (dCB rdAll (dCons (dStill (dLC (dDKeys (dDGet (dVar 1) (dC (.d (.str "waits"))))) (gN 0) (dYes) (dOp rdEqT (dMeth C_Door "waits" sp_Door_waits (dVar 1) (dCons (dVar 0) (dNil))) (dDGet (dDGet (dVar 2) (dC (.d (.str "waits")))) (dVar 0))) 1 [0,1])) (dNil)))
noncomputable abbrev N_Door_is_waited_at:List Str:=["self"]
noncomputable def t_Door_is_waited_at:TSd :=
  dRet (dAnyV (dFld C_Door (dVar 0) "asks_waiting"))
noncomputable abbrev N_Door_use:List Str:=["self", "groups", "first", "waiting"]
noncomputable def t_Door_use (sp_Door_is_waited_at sp_Door_owner:SpD):TSd :=
  dSeq (dIf (dNot (dTest (dMeth C_Door "is_waited_at" sp_Door_is_waited_at (dVar 0) dNil)))
   (dRet (dC (.d .none)))
   (dNext)) <|
  dSeq (dAsg (dSeal (dCB rdListD (dCons (dFld C_Door (dVar 0) "asks_waiting") (dNil)))) (gN 1)) <|
  dSeq (dAsg (dIndexL (dVar 1) (dMeth C_Door "owner" sp_Door_owner (dVar 0) dNil)) (gN 2)) <|
  dSeq (dAsg (dLC (dItems (dCat (dSl (dVar 1) (dPart (dVar 2)) (dNoPart)) (dSl (dVar 1) (dNoPart) (dPart (dVar 2))))) (gN 0) (dTest (dOp rdGt (dDGet (dFld C_Door (dVar 1) "asks_waiting") (dVar 0)) (dC (.d (.int 0))))) (dVar 0) 1 [0]) (gN 3)) <|
  dSeq (dAugD (dFld C_Door (dVar 0) "asks_waiting") (dOp rdIx (dVar 3) (dC (.d (.int 0)))) (dC (.d (.int 1))) (λ i j=>i - j)) <|
  dSeq (dFldAug C_Door (dVar 0) (dC (.d (.int 1))) "next_slot" (λ i j=>i+j)) <|
  dRet (dOp rdIx (dVar 3) (dC (.d (.int 0))))
noncomputable abbrev N_Door_ask:List Str:=["self", "group", "many", "let_in"]
noncomputable def t_Door_ask (sp_Door_waits:SpD):TSd :=
  dSeq (dAsg (dCB rdMax2 (dCons (dCB rdMin2 (dCons (dVar 2) (dCons (dOp rdSub (dC (.d (.int 40))) (dMeth C_Door "waits" sp_Door_waits (dVar 0) (dCons (dVar 1) (dNil)))) (dNil)))) (dCons (dC (.d (.int 0))) (dNil)))) (gN 3)) <|
  dSeq (dAugD (dFld C_Door (dVar 0) "asks_waiting") (dVar 1) (dVar 3) (λ i j=>i+j)) <|
  dRet (dVar 3)
noncomputable abbrev N_l_let_in:List Str:=["_law_model_here", "_law_group", "_law_many", "_law_fresh"]
noncomputable def t_l_let_in:TSd :=
  dSeq (dAsg (dCB rdMin2 (dCons (dVar 2) (dCons (dOp rdSub (dC (.d (.int 40))) (dDGet (dDGet (dVar 0) (dC (.d (.str "waits")))) (dVar 1))) (dNil)))) (gN 3)) <|
  dSeq (dDPut (dDGet (dVar 0) (dC (.d (.str "waits")))) (dVar 1) (dOp rdAdd (dDGet (dDGet (dVar 0) (dC (.d (.str "waits")))) (dVar 1)) (dVar 3))) <|
  dRet (dVar 3)
noncomputable abbrev N_l_begun:List Str:=["_law_model_here"]
noncomputable def t_l_begun:TSd :=
  dSeq (dDPut (dVar 0) (dC (.d (.str "had"))) (dLCm (dItems (dDGet (dVar 0) (dC (.d (.str "shares"))))) (gN 0) (dYes) (dC (.d (.int 0))) 1 [])) <|
  dDPut (dVar 0) (dC (.d (.str "slot"))) (dC (.d (.int 0)))
noncomputable abbrev N_l_reshared:List Str:=["_law_model_here", "_law_shares_here", "_law_waits", "_law_group", "_law_share"]
noncomputable def t_l_reshared (sp_l_begun:SpD):TSd :=
  dSeq (dAsg (dNewDic) (gN 2)) <|
  dSeq (dFor (dItems (dVar 1)) (gT 2 (gsCons (gN 3) (gsCons (gN 4) (gsNil))))
   (dDPut (dVar 2) (dVar 3) (dGet2 (dDGet (dVar 0) (dC (.d (.str "waits")))) (dVar 3) (dC (.d (.int 0)))))) <|
  dSeq (dDrop (dDUpdM (dVar 0) (dDictM [(dC (.d (.str "shares")),dSeal (dCB rdListOf (dCons (dVar 1) (dNil)))),(dC (.d (.str "waits")),dVar 2)]))) <|
  dDrop (dCall sp_l_begun (dCons (dVar 0) (dNil)))
noncomputable abbrev N_l_use:List Str:=["_law_model_here", "_law_at", "_law_many", "_law_k", "_law_group"]
noncomputable def t_l_use (sp_l_whose:SpD):TSd :=
  dSeq (dIf (dTest (dOp rdEqT (dSumV (dDGet (dVar 0) (dC (.d (.str "waits"))))) (dC (.d (.int 0)))))
   (dRet (dC (.d .none)))
   (dNext)) <|
  dSeq (dAsg (dCall sp_l_whose (dCons (dVar 0) (dNil))) (gN 1)) <|
  dSeq (dAsg (dOp rdAdd (dOp rdIx (dDGet (dVar 0) (dC (.d (.str "had")))) (dVar 1)) (dC (.d (.int 1)))) (gSet (dDGet (dVar 0) (dC (.d (.str "had")))) (dVar 1))) <|
  dSeq (dDPut (dVar 0) (dC (.d (.str "slot"))) (dOp rdAdd (dDGet (dVar 0) (dC (.d (.str "slot")))) (dC (.d (.int 1))))) <|
  dSeq (dAsg (dCB rdLen (dCons (dDGet (dVar 0) (dC (.d (.str "shares")))) (dNil))) (gN 2)) <|
  dSeq (dFor (dRng1 (dCons (dVar 2) (dNil))) (gN 3)
   (dSeq (dAsg (dOp rdIx (dOp rdIx (dDGet (dVar 0) (dC (.d (.str "shares")))) (dOp rdMod (dOp rdAdd (dVar 1) (dVar 3)) (dVar 2))) (dC (.d (.int 0)))) (gN 4)) <|
   dIf (dTest (dOp rdGt (dDGet (dDGet (dVar 0) (dC (.d (.str "waits")))) (dVar 4)) (dC (.d (.int 0)))))
    (dSeq (dDPut (dDGet (dVar 0) (dC (.d (.str "waits")))) (dVar 4) (dOp rdSub (dDGet (dDGet (dVar 0) (dC (.d (.str "waits")))) (dVar 4)) (dC (.d (.int 1))))) <|
    dRet (dVar 4))
    (dNext))) <|
  dRet (dC (.d .none))
noncomputable abbrev N_l_deed:List Str:=["_law_bag_here", "_law_door", "_law_model_here", "_law_way", "_law_groups", "_law_group", "_law_many", "_law_shares_here", "_law_handed"]
noncomputable def t_l_deed (sp_l_take sp_Door_ask sp_l_let_in sp_Door_begin sp_l_begun sp_Door_new_shares sp_l_reshared sp_Door_use sp_l_use:SpD):TSd :=
  dSeq (dAsg (dCall sp_l_take (dCons (dVar 0) (dCons (dC (.d (.int 12))) (dNil)))) (gN 3)) <|
  dSeq (dAsg (dLC (dItems (dDGet (dVar 2) (dC (.d (.str "shares"))))) (gT 2 (gsCons (gN 0) (gsCons (gN 1) (gsNil)))) (dYes) (dVar 0) 2 []) (gN 4)) <|
  dSeq (dIf (dTest (dOp rdLt (dVar 3) (dC (.d (.int 3)))))
   (dSeq (dAsg (dOp rdIx (dVar 4) (dCall sp_l_take (dCons (dVar 0) (dCons (dCB rdLen (dCons (dVar 4) (dNil))) (dNil))))) (gN 5)) <|
   dSeq (dAsg (dOp rdAdd (dC (.d (.int 1))) (dCall sp_l_take (dCons (dVar 0) (dCons (dC (.d (.int 4))) (dNil))))) (gN 6)) <|
   dRet (dOp rdEqT (dMeth C_Door "ask" sp_Door_ask (dVar 1) (dCons (dVar 5) (dCons (dVar 6) (dNil)))) (dCall sp_l_let_in (dCons (dVar 2) (dCons (dVar 5) (dCons (dVar 6) (dNil)))))))
   (dNext)) <|
  dSeq (dIf (dTest (dOp rdEqT (dVar 3) (dC (.d (.int 3)))))
   (dSeq (dFor (dItems (dVar 4)) (gN 5)
    (dIf (dTest (dOp rdNeT (dMeth C_Door "ask" sp_Door_ask (dVar 1) (dCons (dVar 5) (dCons (dC (.d (.int 2))) (dNil)))) (dCall sp_l_let_in (dCons (dVar 2) (dCons (dVar 5) (dCons (dC (.d (.int 2))) (dNil)))))))
     (dRet (dC (.d (.bool false))))
     (dNext))) <|
   dRet (dC (.d (.bool true))))
   (dNext)) <|
  dSeq (dIf (dAnd (dTest (dOp rdEqT (dVar 3) (dC (.d (.int 4))))) (dTest (dOp rdEqT (dCall sp_l_take (dCons (dVar 0) (dCons (dC (.d (.int 3))) (dNil)))) (dC (.d (.int 0))))))
   (dSeq (dDrop (dMeth C_Door "begin" sp_Door_begin (dVar 1) dNil)) <|
   dSeq (dDrop (dCall sp_l_begun (dCons (dVar 2) (dNil)))) <|
   dRet (dC (.d (.bool true))))
   (dNext)) <|
  dSeq (dIf (dAnd (dTest (dOp rdEqT (dVar 3) (dC (.d (.int 5))))) (dTest (dOp rdEqT (dCall sp_l_take (dCons (dVar 0) (dCons (dC (.d (.int 4))) (dNil)))) (dC (.d (.int 0))))))
   (dSeq (dAsg (dLC (dItems (dVar 4)) (gN 0) (dYes) (dTup (dCons (dVar 0) (dCons (dOp rdAdd (dC (.d (.int 1))) (dCall sp_l_take (dCons (dVar 1) (dCons (dC (.d (.int 9))) (dNil))))) (dNil)))) 1 [0]) (gN 7)) <|
   dSeq (dAsg (dCB rdListOf (dCons (dVar 7) (dNil))) (gN 8)) <|
   dSeq (dStillLS (dDrop (dMeth C_Door "new_shares" sp_Door_new_shares (dVar 1) (dCons (dVar 8) (dNil))))) <|
   dSeq (dDrop (dAppend (dVar 8) (dTup (dCons (dC (.d (.str "x"))) (dCons (dC (.d (.int 3))) (dNil)))))) <|
   dSeq (dDrop (dCall sp_l_reshared (dCons (dVar 2) (dCons (dVar 7) (dNil))))) <|
   dRet (dC (.d (.bool true))))
   (dNext)) <|
  dRet (dOp rdEqT (dMeth C_Door "use" sp_Door_use (dVar 1) dNil) (dCall sp_l_use (dCons (dVar 2) (dNil))))
noncomputable abbrev N_law:List Str:=["_law_script", "_law_bag_here", "_law_shares_here", "_law_handed", "_law_door", "_law_model_here", "_law_turn"]
noncomputable def t_law (sp_l_bag sp_l_shares sp_Door_init sp_l_model sp_l_stands sp_Door_use sp_l_take sp_l_deed:SpD):TSd :=
  dSeq (dAsg (dCall sp_l_bag (dCons (dVar 0) (dNil))) (gN 1)) <|
  dSeq (dAsg (dCall sp_l_shares (dCons (dVar 1) (dNil))) (gN 2)) <|
  dSeq (dAsg (dCB rdListOf (dCons (dVar 2) (dNil))) (gN 3)) <|
  dSeq (dStillLS (dAsg (dMake C_Door sp_Door_init (dCons (dVar 3) (dNil))) (gN 4))) <|
  dSeq (dDrop (dReverse (dVar 3))) <|
  dSeq (dDrop (dAppend (dVar 3) (dTup (dCons (dC (.d (.str "nobody"))) (dCons (dC (.d (.int 9))) (dNil)))))) <|
  dSeq (dAsg (dCall sp_l_model (dCons (dVar 2) (dNil))) (gN 5)) <|
  dSeq (dIf (dOr (dNot (dTest (dCall sp_l_stands (dCons (dVar 4) (dCons (dVar 5) (dNil)))))) (dTest (dOp (rdIsN true) (dMeth C_Door "use" sp_Door_use (dVar 4) dNil) (dC (.d .none)))))
   (dRet (dC (.d (.bool false))))
   (dNext)) <|
  dSeq (dFor (dRng1 (dCons (dOp rdAdd (dC (.d (.int 20))) (dCall sp_l_take (dCons (dVar 1) (dCons (dC (.d (.int 61))) (dNil))))) (dNil))) (gN 6)
   (dSeq (dIf (dNot (dTest (dCall sp_l_deed (dCons (dVar 1) (dCons (dVar 4) (dCons (dVar 5) (dNil)))))))
    (dRet (dC (.d (.bool false))))
    (dNext)) <|
   dIf (dAnd (dTest (dOp rdEqT (dCall sp_l_take (dCons (dVar 1) (dCons (dC (.d (.int 2))) (dNil)))) (dC (.d (.int 0))))) (dNot (dTest (dCall sp_l_stands (dCons (dVar 4) (dCons (dVar 5) (dNil)))))))
    (dRet (dC (.d (.bool false))))
    (dNext))) <|
  dRet (dCall sp_l_stands (dCons (dVar 4) (dCons (dVar 5) (dNil))))
noncomputable abbrev Sh:=List (Str×Nat)
noncomputable def rowD (r:Str×Nat):PyData:=.tuple [.str r.1,.int (r.2:Nat)]
noncomputable def shD (S:Sh):PyData:=.list (S.map rowD)
structure OkS (S:Sh):Prop where
 ne:S≠[]
 len:S.length<=4
 row:∀ r∈S,wd r.1=true/\1<=r.2/\r.2<=9
 nd:(S.map (·.1)).Nodup
noncomputable def wn (S:Sh):Nat:=(S.map (·.2)).sum
noncomputable def sv (S:Sh)(i:Nat):Int:=(((S.map (·.2)).getD i 1:Nat):Int)
noncomputable def cv (c:List Int)(i:Nat):Int:=c.getD i 0
noncomputable def Rl (S:Sh)(c:List Int)(t:Int)(i:Nat):Prop:=cv c i * (wn S:Nat) / sv S i<=t
noncomputable def due (W s c:Int):Int:=-(-(c+1) * W / s)
noncomputable def Du (S:Sh)(c:List Int)(i:Nat):Int:=due (wn S:Nat) (sv S i) (cv c i)
noncomputable def Best (S:Sh)(c:List Int)(t:Int)(i:Nat):Prop:=i < S.length/\Rl S c t i/\∀ j,j < S.length->Rl S c t j->Du S c i<=Du S c j/\(j < i->Du S c i < Du S c j)
theorem Best.uniq {S:Sh}{c:List Int}{t:Int}{i j:Nat}(h:Best S c t i)(k:Best S c t j):i=j:=by
 have h1:=h.2.2 j k.1 k.2.1
 have h2:=k.2.2 i h.1 h.2.1
 rcases Nat.lt_trichotomy i j with e | e | e
 ·have:=h2.2 e
  omega
 ·exact e
 ·have:=h1.2 e
  omega
theorem best_ex {S:Sh}{c:List Int}{t:Int}(h:∃ i,i < S.length/\Rl S c t i):∃ i,Best S c t i:=by
 have key:∀ m,m<=S.length->(∀ j,j < m->¬ Rl S c t j)\/∃ i,i < m/\Rl S c t i/\∀ j,j < m->Rl S c t j->Du S c i<=Du S c j/\(j < i->Du S c i < Du S c j):=by
  intro m
  induction m with
  | zero=>intro _; exact .inl λ j hj=>absurd hj (Nat.not_lt_zero _)
  | succ m ih =>
   intro hm
   rcases ih (by omega) with h | ⟨i,hi,hr,hb⟩
   ·by_cases q:Rl S c t m
    ·refine .inr ⟨m,by omega,q,λ j hj hrj=>?_⟩
     by_cases e:j < m
     ·exact absurd hrj (h j e)
     ·have e:j=m:=by omega
      subst e
      exact ⟨Int.le_refl _,λ z=>absurd z (Nat.lt_irrefl _)⟩
    ·refine .inl λ j hj=>?_
     by_cases e:j < m
     ·exact h j e
     ·have e:j=m:=by omega
      subst e
      exact q
   ·by_cases q:Rl S c t m/\Du S c m < Du S c i
    ·refine .inr ⟨m,by omega,q.1,λ j hj hrj=>?_⟩
     by_cases e:j < m
     ·have:=(hb j e hrj).1
      exact ⟨by omega,λ _=>by omega⟩
     ·have e:j=m:=by omega
      subst e
      exact ⟨Int.le_refl _,λ z=>absurd z (Nat.lt_irrefl _)⟩
    ·refine .inr ⟨i,by omega,hr,λ j hj hrj=>?_⟩
     by_cases e:j < m
     ·exact hb j e hrj
     ·have e:j=m:=by omega
      subst e
      have:¬ Du S c j < Du S c i:=λ z=>q ⟨hrj,z⟩
      exact ⟨by omega,λ z=>by omega⟩
 obtain ⟨i,hi,hr⟩:=h
 rcases key S.length (Nat.le_refl _) with h | ⟨j,h⟩
 ·exact absurd hr (h i hi)
 ·exact ⟨j,h⟩
open Classical in
noncomputable def pk (S:Sh)(c:List Int)(t:Int):Nat:=if h:∃ i,Best S c t i then h.choose else 0
theorem pk_best {S:Sh}{c:List Int}{t:Int}(h:∃ i,Best S c t i):Best S c t (pk S c t):=by
 unfold pk
 rw [dif_pos h]
 exact h.choose_spec
theorem pk_of {S:Sh}{c:List Int}{t:Int}{i:Nat}(h:Best S c t i):pk S c t=i:=(pk_best ⟨i,h⟩).uniq h
noncomputable def nx (S:Sh)(c:List Int)(t:Int):List Int:=c.set (pk S c t) (cv c (pk S c t)+1)
noncomputable def st (S:Sh):Nat->List Int
 | 0=>List.replicate S.length 0
 | t+1=>nx S (st S t) t
theorem cv_set {c:List Int}{i j:Nat}{x:Int}(h:i < c.length):cv (c.set i x) j=if j=i then x else cv c j:=by
 unfold cv
 by_cases e:j=i
 ·subst e
  rw [if_pos rfl,List.getD_eq_getElem?_getD,List.getElem?_set_self h]
  rfl
 ·rw [if_neg e,List.getD_eq_getElem?_getD,List.getElem?_set_ne (Ne.symm e),<- List.getD_eq_getElem?_getD]
theorem sum_set:∀ (c:List Int) (i:Nat) (x:Int),i < c.length->(c.set i x).sum=c.sum - cv c i+x
 | [],_,_,h=>absurd h (Nat.not_lt_zero _)
 | a :: c,0,x,_=>by
  show x+c.sum=a+c.sum - a+x
  omega
 | a :: c,i+1,x,h=>by
  have ih:=sum_set c i x (by simpa using h)
  have e:cv (a :: c) (i+1)=cv c i:=by simp [cv]
  rw [e]
  show a+(c.set i x).sum=a+c.sum - cv c i+x
  rw [ih]
  omega
theorem wsum:∀ (cs:List Int) (ns:List Nat) (k W:Int),cs.length=ns.length->(∀ i,i < cs.length->k * ((ns.getD i 1:Nat):Int)<=cv cs i * W)->k * ((ns.sum:Nat):Int)<=cs.sum * W
 | [],[],k,W,_,_=>by simp
 | [],_ :: _,_,_,h,_=>by simp at h
 | _ :: _,[],_,_,h,_=>by simp at h
 | a :: cs,n :: ns,k,W,h,hb=>by
  have ih:=wsum cs ns k W (by simpa using h) λ i hi=>by
   have:=hb (i+1) (by simpa using hi)
   simpa [cv] using this
  have h0:k * (n:Int)<=a * W:=by simpa [cv] using hb 0 (by simp)
  have e1:(((n :: ns).sum:Nat):Int)=(n:Int)+((ns.sum:Nat):Int):=by simp
  have e2:(a :: cs).sum=a+cs.sum:=rfl
  rw [e1,e2,Int.mul_add,Int.add_mul]
  omega
theorem sv_pos {S:Sh}(hO:OkS S){i:Nat}(hi:i < S.length):1<=sv S i/\sv S i<=9:=by
 have hr:=hO.row S[i] (List.getElem_mem hi)
 have e:sv S i=(S[i].2:Nat):=by simp [sv,List.getD,List.getElem?_map,List.getElem?_eq_getElem hi]
 rw [e]
 omega
theorem wn_pos {S:Sh}(hO:OkS S):1<=wn S/\wn S<=36:=by
 have up:∀ T:Sh,(∀ r∈T,1<=r.2/\r.2<=9)->T.length<=wn T/\wn T<=9 * T.length:=by
  intro T
  induction T with
  | nil=>intro _; simp [wn]
  | cons r T ih =>
   intro h
   have h1:=h r (by simp)
   have h2:=ih λ x hx=>h x (by simp [hx])
   have e:wn (r :: T)=r.2+wn T:=by simp [wn]
   rw [e,List.length_cons]
   omega
 have h:=up S λ r hr=>(hO.row r hr).2
 have h1:=List.length_pos_iff.mpr hO.ne
 have h2:=hO.len
 omega
theorem rel_ex {S:Sh}{c:List Int}{t:Int}(hO:OkS S)(hl:c.length=S.length)(hs:c.sum=t):∃ i,i < S.length/\Rl S c t i:=by
 by_cases h:∃ i,i < S.length/\Rl S c t i
 ·exact h
 exfalso
 have hw:=wsum c (S.map (·.2)) (t+1) (wn S:Nat) (by rw [hl,List.length_map]) λ i hi=>by
  have hi':i < S.length:=by omega
  have hn:¬ Rl S c t i:=λ z=>h ⟨i,hi',z⟩
  unfold Rl at hn
  have hp:=sv_pos hO hi'
  have:t+1<=cv c i * (wn S:Nat) / sv S i:=by omega
  exact (Int.le_ediv_iff_mul_le (show 0 < sv S i by omega)).mp this
 have e:(((S.map (·.2)).sum:Nat):Int)=(wn S:Nat):=rfl
 rw [e,hs,Int.add_mul] at hw
 have:=(wn_pos hO).1
 omega
structure StOk (S:Sh)(c:List Int)(t:Nat):Prop where
 len:c.length=S.length
 sum:c.sum=(t:Int)
 bd:∀ i,0<=cv c i/\cv c i<=(t:Int)
theorem StOk.best {S:Sh}{c:List Int}{t:Nat}(hO:OkS S)(h:StOk S c t):Best S c t (pk S c t):=pk_best (best_ex (rel_ex hO h.len h.sum))
theorem st_ok {S:Sh}(hO:OkS S):∀ t,StOk S (st S t) t
 | 0=>by
  refine ⟨by simp [st],?_,λ i=>?_⟩
  ·show (List.replicate S.length (0:Int)).sum=0
   induction S.length with
   | zero=>rfl
   | succ n ih=>rw [List.replicate_succ]; show 0+(List.replicate n (0:Int)).sum=0; rw [ih]; rfl
  ·have:cv (st S 0) i=0:=by
    simp only [cv,st,List.getD_eq_getElem?_getD,List.getElem?_replicate]
    split <;> rfl
   omega
 | t+1=>by
  have ih:=st_ok hO t
  have hb:=ih.best hO
  have hi:pk S (st S t) t < (st S t).length:=by rw [ih.len]; exact hb.1
  refine ⟨by simp [st,nx,ih.len],?_,λ i=>?_⟩
  ·show ((st S t).set _ _).sum=_
   rw [sum_set _ _ _ hi,ih.sum]
   omega
  ·show 0<=cv ((st S t).set _ _) i/\cv ((st S t).set _ _) i<=_
   rw [cv_set hi]
   have h1:=ih.bd i
   have h2:=ih.bd (pk S (st S t) t)
   split <;> omega
theorem st_best {S:Sh}(hO:OkS S)(t:Nat):Best S (st S t) t (pk S (st S t) t):=(st_ok hO t).best hO
theorem st_le {S:Sh}(hO:OkS S):∀ t,t<=wn S->∀ i,i < S.length->cv (st S t) i<=sv S i
 | 0,_,i,hi=>by
  have h1:=((st_ok hO 0).bd i).2
  have h2:=sv_pos hO hi
  have e:((0:Nat):Int)=0:=rfl
  omega
 | t+1,ht,i,hi=>by
  have ih:=st_le hO t (by omega) i hi
  have hb:=st_best hO t
  have hl:pk S (st S t) t < (st S t).length:=by rw [(st_ok hO t).len]; exact hb.1
  show cv ((st S t).set _ _) i<=_
  rw [cv_set hl]
  split
  ·rename_i e
   rw [<- e]
   have hr:Rl S (st S t) t i:=by rw [e]; exact hb.2.1
   unfold Rl at hr
   by_cases q:cv (st S t) i=sv S i
   ·have h2:=sv_pos hO hi
    rw [q,Int.mul_ediv_cancel_left _ (by omega)] at hr
    omega
   ·omega
  ·exact ih
noncomputable def ss (S:Sh):List Int:=S.map λ r=>((r.2:Nat):Int)
theorem eq_of_sum:∀ (a b:List Int),a.length=b.length->(∀ i,i < a.length->cv a i<=cv b i)->a.sum=b.sum->a=b
 | [],[],_,_,_=>rfl
 | [],_ :: _,h,_,_=>by simp at h
 | _ :: _,[],h,_,_=>by simp at h
 | x :: a,y :: b,h,hb,hs=>by
  have le:∀ (a b:List Int),a.length=b.length->(∀ i,i < a.length->cv a i<=cv b i)->a.sum<=b.sum:=by
   intro a
   induction a with
   | nil=>intro b h _; cases b with
    | nil=>simp
    | cons _ _=>simp at h
   | cons x a ih =>
    intro b h hb
    cases b with
    | nil=>simp at h
    | cons y b =>
     have h1:=ih b (by simpa using h) λ i hi=>by simpa [cv] using hb (i+1) (by simpa using hi)
     have h2:x<=y:=by simpa [cv] using hb 0 (by simp)
     show x+a.sum<=y+b.sum
     omega
  have h1:=le a b (by simpa using h) λ i hi=>by simpa [cv] using hb (i+1) (by simpa using hi)
  have h2:x<=y:=by simpa [cv] using hb 0 (by simp)
  have hs':x+a.sum=y+b.sum:=hs
  have e1:x=y:=by omega
  have e2:a.sum=b.sum:=by omega
  rw [e1,eq_of_sum a b (by simpa using h) (λ i hi=>by simpa [cv] using hb (i+1) (by simpa using hi)) e2]
theorem ss_sum (S:Sh):(ss S).sum=(wn S:Nat):=by
 induction S with
 | nil=>rfl
 | cons r S ih =>
  have e:wn (r :: S)=r.2+wn S:=by simp [wn]
  show ((r.2:Nat):Int)+(ss S).sum=_
  rw [ih,e]
  omega
theorem ss_cv {S:Sh}{i:Nat}(hi:i < S.length):cv (ss S) i=sv S i:=by
 simp [cv,ss,sv,List.getD,List.getElem?_map,List.getElem?_eq_getElem hi]
theorem st_W {S:Sh}(hO:OkS S):st S (wn S)=ss S:=by
 have h:=st_ok hO (wn S)
 refine eq_of_sum _ _ (by rw [h.len]; simp [ss]) (λ i hi=>?_) (by rw [h.sum,ss_sum])
 have hi':i < S.length:=by rw [<- h.len]; exact hi
 rw [ss_cv hi']
 exact st_le hO _ (Nat.le_refl _) i hi'
noncomputable def addS (S:Sh)(c:List Int):List Int:=List.zipWith (· + ·) c (ss S)
theorem add_cv {S:Sh}{c:List Int}{i:Nat}(hl:c.length=S.length)(hi:i < S.length):cv (addS S c) i=cv c i+sv S i:=by
 rw [<- ss_cv hi]
 have h1:c[i]? = some (c[i]'(by omega)):=List.getElem?_eq_getElem (by omega)
 have h2:(ss S)[i]? = some ((ss S)[i]'(by simp [ss]; omega)):=List.getElem?_eq_getElem (by simp [ss]; omega)
 unfold cv addS
 simp only [List.getD_eq_getElem?_getD,List.getElem?_zipWith,h1,h2,Option.getD_some]
theorem add_len {S:Sh}{c:List Int}(hl:c.length=S.length):(addS S c).length=S.length:=by simp [addS,ss,hl]
theorem rl_add {S:Sh}{c:List Int}{t:Int}{i:Nat}(hO:OkS S)(hl:c.length=S.length)(hi:i < S.length):Rl S (addS S c) (t+(wn S:Nat)) i ↔ Rl S c t i:=by
 unfold Rl
 rw [add_cv hl hi,Int.add_mul,Int.mul_comm (sv S i),Int.add_mul_ediv_right _ _ (by have:=sv_pos hO hi; omega)]
 omega
theorem du_add {S:Sh}{c:List Int}{i:Nat}(hO:OkS S)(hl:c.length=S.length)(hi:i < S.length):Du S (addS S c) i=Du S c i+(wn S:Nat):=by
 unfold Du due
 rw [add_cv hl hi]
 have e:-(cv c i+sv S i+1) * ((wn S:Nat):Int)=-(cv c i+1) * ((wn S:Nat):Int)+(-((wn S:Nat):Int)) * sv S i:=by
  rw [show -(cv c i+sv S i+1)=-(cv c i+1) + -(sv S i) from by omega,Int.add_mul,Int.neg_mul (sv S i),Int.neg_mul ((wn S:Nat):Int),Int.mul_comm (sv S i)]
 rw [e,Int.add_mul_ediv_right _ _ (by have:=sv_pos hO hi; omega)]
 omega
theorem pk_add {S:Sh}{c:List Int}{t:Int}(hO:OkS S)(hl:c.length=S.length)(hb:Best S c t (pk S c t)):pk S (addS S c) (t+(wn S:Nat))=pk S c t:=by
 refine pk_of ⟨hb.1,(rl_add hO hl hb.1).mpr hb.2.1,λ j hj hr=>?_⟩
 have h:=hb.2.2 j hj ((rl_add hO hl hj).mp hr)
 rw [du_add hO hl hb.1,du_add hO hl hj]
 exact ⟨by omega,λ z=>by have:=h.2 z; omega⟩
theorem ext_cv {a b:List Int}(hl:a.length=b.length)(h:∀ i,i < a.length->cv a i=cv b i):a=b:=by
 refine List.ext_getElem hl λ i h1 h2=>?_
 have:=h i h1
 simpa [cv,List.getD,List.getElem?_eq_getElem h1,List.getElem?_eq_getElem h2] using this
theorem st_add {S:Sh}(hO:OkS S):∀ t,st S (t+wn S)=addS S (st S t)
 | 0=>by
  rw [Nat.zero_add,st_W hO]
  refine ext_cv (by rw [add_len (st_ok hO 0).len]; simp [ss]) λ i hi=>?_
  have hi':i < S.length:=by simpa [ss] using hi
  have h0:=(st_ok hO 0).bd i
  rw [add_cv (st_ok hO 0).len hi',ss_cv hi']
  have e:((0:Nat):Int)=0:=rfl
  omega
 | t+1=>by
  have ih:=st_add hO t
  have ok:=st_ok hO t
  have hb:=st_best hO t
  have e1:t+1+wn S=(t+wn S)+1:=by omega
  rw [e1]
  show nx S (st S (t+wn S)) ((t+wn S:Nat):Int)=addS S (nx S (st S t) t)
  rw [ih,show ((t+wn S:Nat):Int)=(t:Int)+(wn S:Nat) from by omega]
  have hp:=pk_add hO ok.len hb
  have hi:pk S (st S t) t < (st S t).length:=by rw [ok.len]; exact hb.1
  unfold nx
  rw [hp]
  have l1:=add_len ok.len
  have l2:((st S t).set (pk S (st S t) t) (cv (st S t) (pk S (st S t) t)+1)).length=S.length:=by rw [List.length_set]; exact ok.len
  refine ext_cv (by rw [List.length_set,l1,add_len l2]) λ i hi'=>?_
  have hi2:i < S.length:=by rw [List.length_set,l1] at hi'; exact hi'
  rw [cv_set (by rw [l1]; exact hb.1),add_cv l2 hi2,cv_set hi,add_cv ok.len hi2,add_cv ok.len hb.1]
  split
  ·rename_i e
   subst e
   omega
  ·rfl
noncomputable def own (S:Sh)(t:Nat):Nat:=pk S (st S t) t
theorem own_lt {S:Sh}(hO:OkS S)(t:Nat):own S t < S.length:=(st_best hO t).1
theorem own_add {S:Sh}(hO:OkS S)(t:Nat):own S (t+wn S)=own S t:=by
 unfold own
 rw [st_add hO,show ((t+wn S:Nat):Int)=(t:Int)+(wn S:Nat) from by omega]
 exact pk_add hO (st_ok hO t).len (st_best hO t)
theorem own_mod {S:Sh}(hO:OkS S)(t:Nat):own S t=own S (t % wn S):=by
 have key:∀ k r,own S (r+k * wn S)=own S r:=by
  intro k
  induction k with
  | zero=>intro r; simp
  | succ k ih =>
   intro r
   rw [Nat.succ_mul,<- Nat.add_assoc,own_add hO,ih]
 have:=key (t / wn S) (t % wn S)
 rw [<- this,Nat.mul_comm,Nat.mod_add_div]
noncomputable def nmS (S:Sh)(i:Nat):Str:=(S.map (·.1)).getD i ""
noncomputable def rw0 (S:Sh)(m:Nat):List Str:=(List.range m).map λ t=>nmS S (own S t)
theorem st_zero (S:Sh)(i:Nat):cv (st S 0) i=0:=by
 simp only [cv,st,List.getD_eq_getElem?_getD,List.getElem?_replicate]
 split <;> rfl
theorem due_le {W s c T:Int}(hs:0 < s):due W s c<=T ↔ (c+1) * W<=s * T:=by
 unfold due
 rw [show -(-(c+1) * W / s)<=T ↔ -T<=-(c+1) * W / s from by omega,Int.le_ediv_iff_mul_le hs,Int.neg_mul (c+1),Int.neg_mul T,Int.mul_comm T s]
 omega
noncomputable def sp_is_share_row:SpD:=λ ws M Q=>∃ r:Str×Nat,ws=[.d (rowD r)]/\wd r.1=true/\1<=r.2/\r.2<=9/\Q (.d (.bool true)) M
theorem len_is_share_row:∀ ws M Q,sp_is_share_row ws M Q->ws.length=1:=by rintro ws M Q ⟨r,rfl,_⟩; rfl
theorem read_is_share_row:∀ ws M Q,sp_is_share_row ws M Q->t_is_share_row sp_is_word sp_is_within { nx:=λ _ M'=>Q (.d .none) M',rt:=Q } (startD N_is_share_row ws) M:=by
 rintro ws M Q ⟨r,rfl,hw,h1,h9,k⟩
 refine ⟨_,rfl,_,_,_,rfl,.d,.tuple,_,rfl,?_⟩
 rw [show isiD (rowD r) "tuple" = true from isi_t _]
 refine iteT ⟨_,rfl,_,_,rfl,rfl,rfl,_,_,.d,.d,(show eqOk2 (.int ((2:Nat):Int)) (.int 2)=true by decide +kernel),_,rfl,?_⟩
 rw [show PyData.eqv (.int (([PyData.str r.1,PyData.int (r.2:Nat)].length:Nat):Int)) (.int 2)=true from eqv2]
 exact iteT ⟨_,rfl,0,_,rfl,rfl,rfl,r.1,rfl,hw,_,rfl,iteT ⟨_,rfl,1,_,rfl,rfl,rfl,(r.2:Nat),1,9,rfl,by omega,by omega,k⟩⟩
noncomputable def sp_refuse_shares:SpD:=λ ws M Q=>∃ (S:Sh) (f:Addr),ws=[.m f]/\M f=some (.flst ((S.map rowD).map W.d))/\OkS S/\∀ M',Ext M M'->Q (.d .none) M'
theorem len_refuse_shares:∀ ws M Q,sp_refuse_shares ws M Q->ws.length=1:=by rintro ws M Q ⟨S,f,rfl,_⟩; rfl
theorem read_refuse_shares:∀ ws M Q,sp_refuse_shares ws M Q->t_refuse_shares sp_is_share_row { nx:=λ _ M'=>Q (.d .none) M',rt:=Q } (startD N_refuse_shares ws) M:=by
 rintro ws M Q ⟨S,f,rfl,hf,hO,k⟩
 refine ⟨_,rfl,f,_,_,rfl,hf,.list,_,rfl,?_⟩
 rw [isi_l]
 refine iteF ⟨_,rfl,f,_,rfl,hf,?_⟩
 have hne:(!((S.map rowD).map W.d).isEmpty)=true:=by
  cases hs:S with
  | nil=>exact absurd hs hO.ne
  | cons _ _=>rfl
 refine ite_n (by rw [hne]; rfl) ⟨_,rfl,f,_,rfl,hf,?_⟩
 refine ⟨λ i τ M'=>Ext M M'/\∃ x2 x3,τ=[some (.m f),x2,x3],⟨Ext.refl _,_,_,rfl⟩,?_,?_⟩
 ·rintro i w τ M' hw ⟨x1,x2,x3,rfl⟩
  obtain ⟨r,hr,rfl⟩:=enum_row hw
  have hi:=(List.getElem?_eq_some_iff.mp hr).1
  have h4:=hO.len
  have hrow:=hO.row r (List.mem_of_getElem? hr)
  refine ⟨_,rfl,rfl,_,_,rfl,_,_,rfl,rfl,?_⟩
  refine ⟨_,rfl,_,_,rfl,rfl,_,rfl,?_⟩
  rw [decide_eq_false (show ¬ (4:Int)<=(i:Nat) by omega)]
  refine iteF ⟨_,rfl,r,rfl,hrow.1,hrow.2.1,hrow.2.2,_,rfl,iteF ⟨_,rfl,0,_,rfl,rfl,rfl,_,rfl,_,rfl,_,rfl,f,_,rfl,x1 _ _ hf,λ p hp=>⟨p,_,rfl,updM_same,?_⟩⟩⟩
  rw [updM_updM]
  have xp:Ext M (updM M' p (.flst (D.cutD ((S.map rowD).map W.d) none (some (i:Int))))):=x1.trans (Ext.new hp)
  revert xp
  generalize updM M' p (.flst (D.cutD ((S.map rowD).map W.d) none (some (i:Int))))=M2
  intro xp
  rw [cut_take (by rw [List.length_map,List.length_map]; omega),<- List.map_take,<- List.map_take,List.map_map]
  refine lc_rows (S.take i) (W.d ∘ rowD) (λ r=>.str r.1) (λ τ=>∃ x,τ=[x]) (by rw [List.length_take]; omega) ⟨_,rfl⟩ (λ r' hr' τ hτ R h=>?_) (λ τ=>?_)
  ·obtain ⟨x,rfl⟩:=hτ
   exact ⟨_,rfl,0,_,rfl,rfl,rfl,_,rfl,h _ ⟨_,rfl⟩⟩
  ·refine ⟨r.1,(S.take i).map λ r=>r.1,rfl,?_,_,rfl,?_⟩
   ·have e:strsW ((S.take i).map λ r=>r.1)=((S.take i).map λ r=>PyData.str r.1).map W.d:=by unfold strsW; rw [List.map_map,List.map_map]; rfl
    rw [e]
    exact .l
   ·have hn:r.1 ∉ (S.take i).map λ r=>r.1:=by
     rw [List.map_take]
     exact nd_take hO.nd (by rw [List.getElem?_map,hr]; rfl)
    rw [if_neg (by decide),decide_eq_false hn]
    exact ⟨xp,_,_,rfl⟩
 ·rintro τ M' ⟨x1,x2,x3,rfl⟩
  exact k _ x1
noncomputable def sp_due_at:SpD:=λ ws M Q=>∃ u W s:Int,ws=[.d (.int u),.d (.int W),.d (.int s)]/\0<=W/\W<=1000/\1<=s/\s<=9/\Q (.d (.int (due W s u))) M
theorem len_due_at:∀ ws M Q,sp_due_at ws M Q->ws.length=3:=by rintro ws M Q ⟨u,W,s,rfl,_⟩; rfl
theorem read_due_at:∀ ws M Q,sp_due_at ws M Q->t_due_at { nx:=λ _ M'=>Q (.d .none) M',rt:=Q } (startD N_due_at ws) M:=by
 rintro ws M Q ⟨u,W,s,rfl,h0,h1,h2,h3,k⟩
 exact ⟨_,rfl,.inl ⟨_,_,rfl,rfl,_,rfl,_,rfl,_,_,rfl,rfl,.inr ⟨by omega,by omega⟩,_,rfl,_,_,rfl,rfl,⟨by omega,by omega⟩,_,rfl,k⟩⟩
noncomputable def kvL (N:List Str)(c:List Int):List (Key×W):=List.zipWith (λ z n=>((.inr z:Key),W.d (.int n))) N c
theorem kvL_get:∀ {N:List Str} {c:List Int} {i:Nat} {z:Str} {n:Int},N.Nodup->N[i]? = some z->c[i]? = some n->tget (kvL N c) (.inr z)=some (.d (.int n))
 | [],_,_,_,_,_,h,_=>by simp at h
 | _ :: _,[],_,_,_,_,_,h=>by simp at h
 | y :: N,m :: c,0,z,n,nd,h1,h2=>by
  simp at h1 h2
  subst h1 h2
  show tget (((.inr y:Key),W.d (.int m)) :: kvL N c) (.inr y)=_
  rw [tget_cons,if_pos rfl]
 | y :: N,m :: c,i+1,z,n,nd,h1,h2=>by
  have hz:z∈N:=List.mem_of_getElem? (by simpa using h1)
  have hne:y≠z:=λ e=>(List.nodup_cons.mp nd).1 (e ▸ hz)
  show tget (((.inr y:Key),W.d (.int m)) :: kvL N c) (.inr z)=_
  rw [tget_cons,if_neg λ e=>hne (Sum.inr.inj e)]
  exact kvL_get (List.nodup_cons.mp nd).2 (by simpa using h1) (by simpa using h2)
theorem kvL_map {x:Int}{z:Str}:∀ {N:List Str} {c:List Int} {i:Nat},N.Nodup->N.length=c.length->N[i]? = some z->(kvL N c).map (λ p=>if p.1=(.inr z:Key) then (p.1,W.d (.int x)) else p)=kvL N (c.set i x)
 | [],_,_,_,_,h=>by simp at h
 | _ :: _,[],_,_,h,_=>by simp at h
 | y :: N,m :: c,0,nd,hl,h=>by
  simp at h
  subst h
  have hn:=(List.nodup_cons.mp nd).1
  show ((if ((.inr y:Key),W.d (.int m)).1=(.inr y:Key) then _ else _) :: (kvL N c).map _)=((.inr y:Key),W.d (.int x)) :: kvL N c
  rw [if_pos rfl]
  congr 1
  have:∀ p∈kvL N c,p.1≠(.inr y:Key):=by
   intro p hp e
   unfold kvL at hp
   obtain ⟨j,hj,ej⟩:=List.mem_iff_getElem.mp hp
   rw [List.getElem_zipWith] at ej
   subst ej
   have:N[j]'(by simp at hj; omega)=y:=Sum.inr.inj e
   exact hn (this ▸ List.getElem_mem _)
  conv=>rhs; rw [<- List.map_id (kvL N c)]
  refine List.map_congr_left λ p hp=>?_
  rw [if_neg (this p hp)]
  rfl
 | y :: N,m :: c,i+1,nd,hl,h=>by
  have hz:z∈N:=List.mem_of_getElem? (by simpa using h)
  have hne:y≠z:=λ e=>(List.nodup_cons.mp nd).1 (e ▸ hz)
  show ((if ((.inr y:Key),W.d (.int m)).1=(.inr z:Key) then _ else _) :: (kvL N c).map _)=((.inr y:Key),W.d (.int m)) :: kvL N (c.set i x)
  rw [if_neg λ e=>hne (Sum.inr.inj e),kvL_map (List.nodup_cons.mp nd).2 (by simpa using hl) (by simpa using h)]
theorem kvL_put {N:List Str}{c:List Int}{i:Nat}{z:Str}{x:Int}(nd:N.Nodup)(hl:N.length=c.length)(h:N[i]? = some z):tput (kvL N c) (.inr z) (.d (.int x))=kvL N (c.set i x):=by
 have hi:i < c.length:=by rw [<- hl]; exact (List.getElem?_eq_some_iff.mp h).1
 unfold tput
 rw [tget_any,kvL_get nd h (List.getElem?_eq_getElem hi),Option.isSome_some,if_pos rfl]
 exact kvL_map nd hl h
theorem kvL_snoc {N:List Str}{n:Nat}{z:Str}(hn:N.length=n)(hz:z ∉ N):tput (kvL N (List.replicate n 0)) (.inr z) (.d (.int 0))=kvL (N++[z]) (List.replicate (n+1) 0):=by
 have hno:∀ p∈kvL N (List.replicate n 0),decide (p.1=(.inr z:Key))=false:=by
  intro p hp
  unfold kvL at hp
  obtain ⟨j,hj,ej⟩:=List.mem_iff_getElem.mp hp
  rw [List.getElem_zipWith] at ej
  subst ej
  refine decide_eq_false λ e=>hz ?_
  have:N[j]'(by simp at hj; omega)=z:=Sum.inr.inj e
  exact this ▸ List.getElem_mem _
 unfold tput
 rw [if_neg (by rw [Bool.not_eq_true,List.any_eq_false]; intro p hp; simpa using hno p hp)]
 unfold kvL
 rw [List.replicate_succ',List.zipWith_append (by simp [hn])]
 rfl
noncomputable def nmL (S:Sh):List Str:=S.map (·.1)
theorem nm_at {S:Sh}{i:Nat}{r:Str×Nat}(h:S[i]? = some r):(nmL S)[i]? = some r.1/\nmS S i=r.1:=by
 have e:(nmL S)[i]? = some r.1:=by simp [nmL,List.getElem?_map,h]
 exact ⟨e,by unfold nmS; rw [List.getD_eq_getElem?_getD]; unfold nmL at e; rw [e]; rfl⟩
theorem sv_at {S:Sh}{i:Nat}{r:Str×Nat}(h:S[i]? = some r):sv S i=(r.2:Nat):=by
 simp [sv,List.getD,List.getElem?_map,h]
theorem cv_at {c:List Int}{i:Nat}(h:i < c.length):c[i]? = some (cv c i):=by
 simp [cv,List.getD,List.getElem?_eq_getElem h]
noncomputable def relB (S:Sh)(c:List Int)(t:Int)(j:Nat):Bool:=decide (cv c j * (wn S:Nat) / sv S j<=t)
noncomputable def relI (S:Sh)(c:List Int)(t:Int)(n:Nat):List Nat:=(List.range n).filter (relB S c t)
noncomputable def rdS (S:Sh)(j:Nat):PyData:=(S.map rowD).getD j .none
theorem rdS_at {S:Sh}{j:Nat}{r:Str×Nat}(h:S[j]? = some r):rdS S j=rowD r:=by simp [rdS,List.getD,List.getElem?_map,h]
theorem relI_succ (S:Sh)(c:List Int)(t:Int)(n:Nat):relI S c t (n+1)=if relB S c t n=true then relI S c t n++[n] else relI S c t n:=by
 unfold relI
 rw [List.range_succ,List.filter_append]
 cases h:relB S c t n with
 | true=>simp [h]
 | false=>simp [h]
theorem relI_mem {S:Sh}{c:List Int}{t:Int}{n j:Nat}:j∈relI S c t n ↔ j < n/\Rl S c t j:=by
 unfold relI relB Rl
 simp
theorem relI_up {S:Sh}{c:List Int}{t:Int}{n:Nat}:(relI S c t n).Pairwise (· < ·):=by
 unfold relI
 exact List.Pairwise.sublist List.filter_sublist List.pairwise_lt_range
theorem up_ix {l:List Nat}(h:l.Pairwise (· < ·)){i j a b:Nat}(hi:l[i]? = some a)(hj:l[j]? = some b)(hab:a < b):i < j:=by
 obtain ⟨h1,e1⟩:=List.getElem?_eq_some_iff.mp hi
 obtain ⟨h2,e2⟩:=List.getElem?_eq_some_iff.mp hj
 rcases Nat.lt_trichotomy i j with e | e | e
 ·exact e
 ·subst e; omega
 ·have:=List.pairwise_iff_getElem.mp h j i h2 h1 e
  omega
theorem best_rel {S:Sh}{c:List Int}{t:Int}{i j:Nat}(hj:(relI S c t S.length)[i]? = some j)
  (hb:∀ m,m < (relI S c t S.length).length->Du S c ((relI S c t S.length).getD i 0)<=Du S c ((relI S c t S.length).getD m 0)/\(m < i->Du S c ((relI S c t S.length).getD i 0) < Du S c ((relI S c t S.length).getD m 0))):Best S c t j:=by
 have hm:=relI_mem.mp (List.mem_of_getElem? hj)
 have ej:(relI S c t S.length).getD i 0=j:=by simp [List.getD,hj]
 refine ⟨hm.1,hm.2,λ j' hj' hr'=>?_⟩
 obtain ⟨m,hm1,hm2⟩:=List.mem_iff_getElem.mp (relI_mem.mpr ⟨hj',hr'⟩)
 have em:(relI S c t S.length)[m]? = some j':=by rw [List.getElem?_eq_getElem hm1,hm2]
 have e2:(relI S c t S.length).getD m 0=j':=by simp [List.getD,em]
 have h:=hb m hm1
 rw [ej,e2] at h
 exact ⟨h.1,λ z=>h.2 (up_ix relI_up em hj z)⟩
theorem rw0_succ (S:Sh)(t:Nat):rw0 S (t+1)=rw0 S t++[nmS S (own S t)]:=by
 unfold rw0
 rw [List.range_succ,List.map_append]
 rfl
theorem strsW_app (a:List Str)(z:Str):strsW (a++[z])=strsW a++[.d (.str z)]:=by simp [strsW]
noncomputable abbrev cdR:MO:=.code q_round_of ⟨42,41,42,92⟩
noncomputable def sp_round_of:SpD:=λ ws M Q=>∃ (S:Sh) (f:Addr),ws=[.m f]/\M f=some (.flst ((S.map rowD).map W.d))/\OkS S/\M C_tb_round_of=some cdR/\∀ p M',M p=none->M' p=some (.lst (strsW (rw0 S (wn S))))->Ext M M'->Q (.m p) M'
theorem len_round_of:∀ ws M Q,sp_round_of ws M Q->ws.length=1:=by rintro ws M Q ⟨S,f,rfl,_⟩; rfl
theorem read_round_of:∀ ws M Q,sp_round_of ws M Q->t_round_of sp_due_at { nx:=λ _ M'=>Q (.d .none) M',rt:=Q } (startD N_round_of ws) M:=by
 rintro ws M Q ⟨S,f,rfl,hf,hO,hC,k⟩
 have sl:=s16
 have wp:=wn_pos hO
 have h4:=hO.len
 have nd:(nmL S).Nodup:=hO.nd
 refine ⟨_,rfl,f,_,rfl,hf,?_⟩
 rw [List.map_map]
 refine lc_rows S (W.d ∘ rowD) (λ r=>.int (r.2:Nat)) (λ τ=>∃ x y,τ=[x,y]) (by omega) ⟨_,_,rfl⟩ (λ r hr τ hτ R h=>?_) (λ τ=>?_)
 ·obtain ⟨x,y,rfl⟩:=hτ
  exact ⟨_,rfl,rfl,_,_,rfl,_,_,rfl,rfl,_,rfl,_,rfl,h _ ⟨_,_,rfl⟩⟩
 have es:(S.map λ r=>PyData.int ((r.2:Nat):Int))=(ss S).map PyData.int:=by simp [ss]
 refine ⟨_,ss S,rfl,by rw [es]; exact .d,by simp [ss]; omega,λ n hn=>?_,?_⟩
 ·obtain ⟨r,hr,rfl⟩:=List.mem_map.mp hn
  have:=(hO.row r hr).2
  omega
 rw [ss_sum]
 refine ⟨_,rfl,f,_,rfl,hf,λ d hd=>?_⟩
 refine ⟨λ i τ M'=>M'=updM M d (.dic (kvL ((nmL S).take i) (List.replicate i 0)))/\∃ x y,τ=[x,y],⟨rfl,_,_,rfl⟩,?_,?_⟩
 ·rintro i w τ M' hw ⟨rfl,x,y,rfl⟩
  rw [List.map_map] at hw
  obtain ⟨r,hr,rfl⟩:=map_at hw
  have hi:=(List.getElem?_eq_some_iff.mp hr).1
  obtain ⟨hn,_⟩:=nm_at hr
  refine ⟨_,rfl,rfl,_,_,rfl,_,_,rfl,rfl,_,rfl,_,.inr r.1,updM_same,rfl,?_,?_,_,_,rfl⟩
  ·have:(kvL ((nmL S).take i) (List.replicate i 0)).length<=i:=by simp [kvL]; omega
   omega
  ·have ht:(nmL S).take (i+1)=(nmL S).take i++[r.1]:=by rw [List.take_succ,hn]; rfl
   rw [updM_updM,kvL_snoc (N:=(nmL S).take i) (by rw [List.length_take]; simp [nmL]; omega) (nd_take nd hn),ht]
 rintro τ M1 ⟨e1,x,y,rfl⟩
 have hd1:M1 d=some (.dic (kvL (nmL S) (st S 0))):=by
  rw [e1,updM_same]
  have:(nmL S).take ((S.map rowD).map W.d).length=nmL S:=List.take_of_length_le (by simp [nmL])
  rw [this]
  simp [st]
 have x1:Ext M M1:=by rw [e1]; exact Ext.new hd
 refine ⟨few (by simp),λ a ha=>?_⟩
 have da:d≠a:=λ e=>by rw [e,ha] at hd1; cases hd1
 have haM:M a=none:=by
  cases q:M a with
  | none=>rfl
  | some o=>rw [x1 a o q] at ha; cases ha
 refine ⟨_,rfl,_,rfl,by omega,by omega,?_⟩
 refine ⟨λ t τ M'=>M' d=some (.dic (kvL (nmL S) (st S t)))/\M' a=some (.lst (strsW (rw0 S t)))/\Ext M M'/\∃ x4 x5 x6 x7,τ=[some (.m f),some (.d (.int ((wn S:Nat):Int))),some (.m d),some (.m a),x4,x5,x6,x7],⟨by rw [updM_ne da]; exact hd1,updM_same,x1.trans (Ext.new ha),_,_,_,_,rfl⟩,?_,?_⟩
 ·rintro t w τ M2 hw ⟨md,ma,x2,x4,x5,x6,x7,rfl⟩
  obtain ⟨ht,rfl⟩:=rng_at hw
  have ht:t < wn S:=by omega
  rw [Int.zero_add]
  have ok:=st_ok hO t
  have nl:(nmL S).length=(st S t).length:=by rw [ok.len]; simp [nmL]
  have get:∀ {j r},S[j]? = some r->tget (kvL (nmL S) (st S t)) (.inr r.1)=some (.d (.int (cv (st S t) j))):=λ {j r} hj =>
   kvL_get nd (nm_at hj).1 (cv_at (by rw [ok.len]; exact (List.getElem?_eq_some_iff.mp hj).1))
  refine ⟨_,rfl,f,_,rfl,x2 _ _ hf,?_⟩
  refine ⟨λ i acc τ M'=>M'=M2/\acc=(relI S (st S t) t i).map (rdS S)/\∃ x y,τ=[x,y,some (.m d),some (.d (.int ((wn S:Nat):Int))),some (.d (.int (t:Int)))],⟨rfl,rfl,_,_,rfl⟩,?_,?_⟩
  ·rintro i w acc τ M' hw ⟨rfl,rfl,x,y,rfl⟩
   rw [List.map_map] at hw
   obtain ⟨r,hr,rfl⟩:=map_at hw
   have hi:=(List.getElem?_eq_some_iff.mp hr).1
   have hrow:=hO.row r (List.mem_of_getElem? hr)
   have hacc:((relI S (st S t) t i).map (rdS S)).length<=i:=by
    rw [List.length_map]
    have:=List.length_filter_le (relB S (st S t) t) (List.range i)
    rw [List.length_range] at this
    exact this
   refine ⟨by omega,_,rfl,rfl,_,_,rfl,_,_,rfl,rfl,?_⟩
   have eb:relB S (st S t) t i=decide (cv (st S t) i * ((wn S:Nat):Int) / ((r.2:Nat):Int)<=(t:Int)):=by unfold relB; rw [sv_at hr]
   refine ⟨_,rfl,_,rfl,d,_,.inr r.1,_,rfl,.inl md,rfl,get hr,_,rfl,_,_,rfl,rfl,.inr ⟨by omega,by omega⟩,_,rfl,_,_,rfl,rfl,⟨by omega,by omega⟩,_,rfl,.inl ⟨_,_,rfl,rfl,_,rfl,?_⟩⟩
   refine ite_b (λ h=>?_) (λ h=>?_)
   ·refine ⟨_,rfl,_,rfl,_,rfl,few (by simp),_,rfl,rfl,?_,_,_,rfl⟩
    rw [relI_succ,if_pos (eb.trans h),List.map_append]
    show _=_++[rdS S i]
    rw [rdS_at hr]
    rfl
   ·refine ⟨rfl,?_,_,_,rfl⟩
    rw [relI_succ,if_neg (by rw [eb.trans h]; decide)]
  ·rintro acc τ M' ⟨rfl,rfl,x,y,rfl⟩
   rw [List.length_map,List.length_map]
   have hb:=st_best hO t
   have hne:(relI S (st S t) t S.length).map (rdS S)≠[]:=by
    intro e
    have hm:=relI_mem.mpr ⟨hb.1,hb.2.1⟩
    rw [List.map_eq_nil_iff.mp e] at hm
    cases hm
   refine ⟨_,rfl,_,rfl,hne,x2 _ _ hC,λ i=>Du S (st S t) ((relI S (st S t) t S.length).getD i 0),λ i d' hd'=>?_,λ i d' hd' hbest=>?_⟩
   ·obtain ⟨j,hj,rfl⟩:=map_at hd'
    have hjn:=(relI_mem.mp (List.mem_of_getElem? hj)).1
    obtain ⟨r,hr⟩:∃ r,S[j]? = some r:=⟨_,List.getElem?_eq_getElem hjn⟩
    have hrow:=hO.row r (List.mem_of_getElem? hr)
    have ej:(relI S (st S t) t S.length).getD i 0=j:=by simp [List.getD,hj]
    rw [rdS_at hr]
    refine ⟨_,rfl,_,rfl,0,_,rfl,rfl,rfl,d,_,.inr r.1,_,rfl,.inl md,rfl,get hr,_,rfl,_,rfl,1,_,rfl,rfl,rfl,cv (st S t) j,(wn S:Nat),(r.2:Nat),rfl,by omega,by omega,by omega,by omega,?_,rfl⟩
    show W.d (.int (due _ _ _))=W.d (.int (Du S (st S t) _))
    rw [ej]
    unfold Du
    rw [sv_at hr]
   ·obtain ⟨j,hj,rfl⟩:=map_at hd'
    have hB:Best S (st S t) t j:=best_rel hj λ m hm=>hbest m (by rw [List.length_map]; exact hm)
    have hpk:pk S (st S t) t=j:=pk_of hB
    obtain ⟨r,hr⟩:∃ r,S[j]? = some r:=⟨_,List.getElem?_eq_getElem hB.1⟩
    rw [rdS_at hr]
    refine ⟨_,rfl,rfl,_,_,rfl,_,_,rfl,rfl,?_⟩
    refine ⟨_,rfl,_,rfl,d,_,.inr r.1,_,rfl,rfl,md,get hr,?_,1,rfl,rfl,?_⟩
    ·have:(kvL (nmL S) (st S t)).length<=4:=by simp [kvL,nmL]; omega
     omega
    rw [kvL_put nd nl (nm_at hr).1]
    have est:(st S t).set j (cv (st S t) j+1)=st S (t+1):=by rw [<- hpk]; rfl
    rw [est]
    refine ⟨_,rfl,a,_,rfl,by rw [updM_ne (Ne.symm da)]; exact ma,_,rfl,_,by rw [updM_ne (Ne.symm da)]; exact ma,?_,?_⟩
    ·have:(strsW (rw0 S t)).length=t:=by simp [strsW,rw0]
     omega
    refine ⟨by rw [updM_ne da,updM_same],?_,λ b o e=>?_,_,_,_,_,rfl⟩
    ·rw [updM_same,rw0_succ,strsW_app]
     have:own S t=j:=hpk
     rw [this,(nm_at hr).2]
    ·have b1:b≠a:=λ z=>by rw [z,haM] at e; cases e
     have b2:b≠d:=λ z=>by rw [z,hd] at e; cases e
     rw [updM_ne b1,updM_ne b2]
     exact x2 b o e
 ·rintro τ M2 ⟨md,ma,x2,x4,x5,x6,x7,rfl⟩
  have el:(rangeW 0 ((wn S:Nat):Int).toNat).length=wn S:=by simp [rangeW]
  rw [el] at ma
  exact ⟨_,rfl,k a M2 haM ma x2⟩
theorem glue_signs:∀ (cs:List Nat) (acc:Array Nat),((cs.map λ c=>(⟨#[c]⟩:Str)).foldl (λ acc p=>acc++("" : Str).cps++p.cps) acc).toList=acc.toList++cs
 | [],acc=>by simp
 | c :: cs,acc=>by
  have e:("" : Str).cps = #[]:=by decide +kernel
  rw [List.map_cons,List.foldl_cons,glue_signs cs]
  rw [e]
  simp
theorem join_signs (cs:List Nat):(Txt.join "" (cs.map λ c=>(⟨#[c]⟩:Str))).cps.toList=cs:=by
 cases cs with
 | nil=>simp [Txt.join,Builtin.Str.glued,Str.empty]
 | cons c cs =>
  show (((cs.map λ c=>(⟨#[c]⟩:Str)).foldl (λ acc p=>acc++("" : Str).cps++p.cps) #[c])).toList=_
  rw [glue_signs]
  rfl
theorem alpha_small:∀ c∈alphaS.cps.toList,smallB c=true:=by decide +kernel
theorem signs_sum (cs:List Nat):((cs.map λ c=>(⟨#[c]⟩:Str)).map (·.length)).sum=cs.length:=by
 induction cs with
 | nil=>rfl
 | cons c cs ih =>
  simp only [List.map_cons,List.sum_cons,ih,List.length_cons]
  show 1+cs.length=_
  omega
theorem app_signs (x y:Str):(x++y).cps.toList=x.cps.toList++y.cps.toList:=by show (x.cps++y.cps).toList=_; simp
theorem slice_mem {z:Str}{lo hi:Option Int}{c:Nat}(hc:c∈(Txt.slice z lo hi).cps.toList):c∈z.cps.toList:=by
 unfold Txt.slice at hc
 split at hc
 ·exact hc
 ·have hc':c∈(Builtin.Str.strSliceIndices lo hi 1 z.length).filterMap (z.cps[·]?):=by simpa using hc
  obtain ⟨i,_,e⟩:=List.mem_filterMap.mp hc'
  simpa using Array.mem_of_getElem? e
theorem slice_ix {z:Str}{lo hi:Option Int}:(Txt.slice z lo hi).length<=(Builtin.Str.strSliceIndices lo hi 1 z.length).length:=by
 unfold Txt.slice
 split
 ·rename_i h
  simp at h
  omega
 ·show (List.filterMap _ _).toArray.size<=_
  rw [List.size_toArray]
  exact List.length_filterMap_le _ _
theorem two_parts {z:Str}{a:Int}(h0:0<=a)(h1:a<=z.length):(Txt.slice z none (some a)).length+(Txt.slice z (some a) none).length<=z.length:=by
 have e1:=slice_ix (z:=z) (lo:=none) (hi:=some a)
 have e2:=slice_ix (z:=z) (lo:=some a) (hi:=none)
 have f1:(Builtin.Str.strSliceIndices none (some a) 1 z.length).length<=a.toNat:=by
  unfold Builtin.Str.strSliceIndices sliceRange
  simp only [show (1:Int) > 0 by decide,if_true,List.length_map,List.length_range]
  split <;> (try split) <;> (try split) <;> (try simp only [Int.ediv_one]) <;> omega
 have f2:(Builtin.Str.strSliceIndices (some a) none 1 z.length).length<=z.length - a.toNat:=by
  unfold Builtin.Str.strSliceIndices sliceRange
  simp only [show (1:Int) > 0 by decide,if_true,List.length_map,List.length_range]
  split <;> (try split) <;> (try split) <;> (try simp only [Int.ediv_one]) <;> omega
 omega
noncomputable def steps6:List Int:=[1,3,5,7,9,25]
theorem alpha_ix:∀ r < 26,alphaS.cps.toList[r]? = some (97+r):=by decide +kernel
theorem sign_at {M:MH}{i:Int}(h0:0<=i)(h1:i < 26):ixW M (.d (.str alphaS)) i=some (.d (.str ⟨#[97+i.toNat]⟩)):=by
 obtain ⟨n,rfl⟩:=Int.eq_ofNat_of_zero_le h0
 simp only [ixW]
 rw [atI_nat (alpha_ix n (by omega))]
 rfl
theorem signs_apart:∀ a < 26,∀ s∈[1,3,5,7,9,25],∀ i < 4,∀ j < 4,(a+s * i) % 26=(a+s * j) % 26->i=j:=by decide +kernel
theorem small_sign:∀ r < 26,smallB (97+r)=true:=by decide +kernel
noncomputable def nameJ (z:Str)(pl:Int)(c:Nat):Str:=Txt.slice z none (some pl)++(⟨#[c]⟩:Str)++Txt.slice z (some pl) none
theorem nameJ_inj {z:Str}{pl:Int}{c d:Nat}(h:nameJ z pl c=nameJ z pl d):c=d:=by
 have e:=congrArg (λ x:Str=>x.cps.toList) h
 simp only [nameJ,app_signs] at e
 have e2:=List.append_cancel_right e
 have e3:=List.append_cancel_left e2
 have e4:[c]=[d]:=e3
 simpa using e4
theorem nameJ_wd {z:Str}{pl:Int}{c:Nat}(hz:∀ x∈z.cps.toList,smallB x=true)(hl:z.length<=7)(h0:0<=pl)(h1:pl<=z.length)(hc:smallB c=true):wd (nameJ z pl c)=true:=by
 have e:(nameJ z pl c).cps.toList=(Txt.slice z none (some pl)).cps.toList++[c]++(Txt.slice z (some pl) none).cps.toList:=by
  simp only [nameJ,app_signs]
 have el:(nameJ z pl c).length=(Txt.slice z none (some pl)).length+1+(Txt.slice z (some pl) none).length:=by
  rw [<- str_len,e,List.length_append,List.length_append,str_len,str_len]
  rfl
 have:=two_parts h0 h1
 unfold wd
 rw [decide_eq_true (show 1<=(nameJ z pl c).length by omega),decide_eq_true (show (nameJ z pl c).length<=8 by omega),Bool.true_and,Bool.true_and,List.all_eq_true]
 intro x hx
 rw [e] at hx
 rcases List.mem_append.mp hx with hx | hx
 ·rcases List.mem_append.mp hx with hx | hx
  ·exact hz x (slice_mem hx)
  ·rw [List.mem_singleton.mp hx]; exact hc
 ·exact hz x (slice_mem hx)
noncomputable def Fr (M M':MH)(p:Addr):Prop:=∀ q o,q≠p->M q=some o->M' q=some o
theorem Fr.trans {A B C:MH}{p:Addr}(h:Fr A B p)(k:Fr B C p):Fr A C p:=λ q o n e=>k q o n (h q o n e)
theorem Fr.of {M M':MH}{p:Addr}(h:∀ q,q≠p->M' q=M q):Fr M M' p:=λ q o n e=>by rw [h q n]; exact e
theorem Fr.ext {M M':MH}{p:Addr}(h:Ext M M'):Fr M M' p:=λ q o _ e=>h q o e
noncomputable def sgn (at' st':Int)(j:Nat):Nat:=97+((at'+st' * j) % 26).toNat
theorem sgn_inj {at' st':Int}{i j:Nat}(a0:0<=at')(a1:at' < 26)(hs:st'∈steps6)(hi:i < 4)(hj:j < 4)(h:sgn at' st' i=sgn at' st' j):i=j:=by
 obtain ⟨a,rfl⟩:=Int.eq_ofNat_of_zero_le a0
 have hs0:∀ s∈steps6,0<=s/\s.toNat∈[1,3,5,7,9,25]:=by decide
 obtain ⟨s0,sm⟩:=hs0 st' hs
 obtain ⟨s,rfl⟩:=Int.eq_ofNat_of_zero_le s0
 unfold sgn at h
 refine signs_apart a (by omega) s (by simpa using sm) i hi j hj ?_
 have e:∀ k:Nat,(((a:Nat):Int)+((s:Nat):Int) * ((k:Nat):Int)) % 26=(((a+s * k) % 26:Nat):Int):=λ k=>by
  rw [<- Int.natCast_mul,<- Int.natCast_add]
  rfl
 rw [e,e] at h
 omega
noncomputable def sp_l_shares:SpD:=λ ws M Q=>∃ p:Addr,ws=[.m p]/\Bag M p/\∀ (S:Sh) M',OkS S->Bag M' p->Fr M M' p->Q (.d (shD S)) M'
theorem len_l_shares:∀ ws M Q,sp_l_shares ws M Q->ws.length=1:=by rintro ws M Q ⟨p,rfl,_⟩; rfl
inductive ShP (z:Str) (at' st' pl:Int) (p a:Addr) (M:MH) (i:Nat) (τ:DS) (M':MH):Prop
 | mk (z0:Bag M' p) (z1:Fr M M' p) (R:Sh) (z2:M' a=some (.lst ((R.map rowD).map W.d))) (z3:R.length=i) (z4:∀ j r,R[j]? = some r->r.1=nameJ z pl (sgn at' st' j)/\1<=r.2/\r.2<=9) (x7 x8 x9 x10:Option W) (z5:τ=[some (.m p),some (.d (.str alphaS)),some (.d (.str z)),some (.d (.int at')),some (.d (.int st')),some (.d (.int pl)),some (.m a),x7,x8,x9,x10]):ShP z at' st' pl p a M i τ M'
theorem read_l_shares:∀ ws M Q,sp_l_shares ws M Q->t_l_shares sp_l_take { nx:=λ _ M'=>Q (.d .none) M',rt:=Q } (startD N_l_shares ws) M:=by
 rintro ws M Q ⟨p,rfl,hb,k⟩
 have s16':=s16
 have e0:("" : Str).length=0:=by decide +kernel
 have fitA:fitW (.d (.str alphaS))=true:=by decide +kernel
 refine ⟨⟨_,rfl⟩,_,rfl,p,8,rfl,hb,by decide,by decide,λ n M1 n0 n1 b1 f1=>⟨n,rfl,by omega,by omega,?_⟩⟩
 dsimp only
 refine ⟨λ i acc τ M'=>Bag M' p/\(∀ q,q≠p->M' q=M q)/\(∃ cs:List Nat,acc=cs.map (λ c=>PyData.str ⟨#[c]⟩)/\cs.length=i/\∀ c∈cs,smallB c=true)/\∃ x,τ=[x,some (.d (.str alphaS)),some (.m p)],⟨b1,f1,⟨[],rfl,rfl,λ _ h=>nomatch h⟩,_,rfl⟩,?_,?_⟩
 ·rintro i w acc τ M' hw ⟨b,f,⟨cs,rfl,hl,hc⟩,x,rfl⟩
  obtain ⟨hi,rfl⟩:=rng_at hw
  refine ⟨by rw [List.length_map]; omega,_,rfl,_,rfl,p,26,rfl,b,by decide,by decide,λ r M3 r0 r1 b3 f3=>?_⟩
  obtain ⟨c,hc1,hm⟩:=ix_str_at (M:=M3) (z:=alphaS) r0 (by rw [alphaL]; exact r1)
  refine ⟨r,_,rfl,hc1,fitA,_,rfl,b3,λ q hq=>(f3 q hq).trans (f q hq),⟨cs++[c],by simp,by simp [hl],λ c' h'=>?_⟩,_,rfl⟩
  rcases List.mem_append.mp h' with h' | h'
  ·exact hc c' h'
  ·rw [List.mem_singleton.mp h']; exact alpha_small c hm
 rintro acc τ M2 ⟨b2,f2,⟨cs,rfl,hl,hc⟩,x,rfl⟩
 simp only [rangeW,List.length_map,List.length_range] at hl
 refine ⟨"",cs.map λ c=>⟨#[c]⟩,rfl,by rw [List.map_map]; rfl,by rw [signs_sum,e0]; omega,?_⟩
 have hz:=join_signs cs
 have hzl:(Txt.join "" (cs.map λ c=>(⟨#[c]⟩:Str))).length=cs.length:=by rw [<- str_len,hz]
 generalize Txt.join "" (cs.map λ c=>(⟨#[c]⟩:Str))=z at hz hzl
 have hzs:∀ x∈z.cps.toList,smallB x=true:=by rw [hz]; exact hc
 have fitZ:fitW (.d (.str z))=true:=decide_eq_true (by omega)
 refine ⟨_,rfl,p,26,rfl,b2,by decide,by decide,λ at' M3 a0 a1 b3 f3=>?_⟩
 refine ⟨_,rfl,few (by simp),_,rfl,p,6,rfl,b3,by decide,by decide,λ r M4 r0 r1 b4 f4=>?_⟩
 obtain ⟨st',es,hs⟩:=ix_int_at (M:=M4) (ns:=steps6) r0 (by simpa [steps6] using r1)
 have hs25:0<=st'/\st'<=25:=by
  have:∀ s∈steps6,0<=s/\s<=25:=by decide
  exact this st' hs
 refine ⟨r,_,rfl,es,rfl,?_⟩
 refine ⟨_,rfl,_,rfl,_,_,rfl,rfl,fitZ,.inl ⟨_,_,rfl,rfl,p,_,rfl,b4,by omega,by omega,λ pl M5 p0 p1 b5 f5=>?_⟩⟩
 refine ⟨few (by simp),λ a ha=>?_⟩
 have pa:p≠a:=λ e=>by obtain ⟨o,ho⟩:=bag_at b5; rw [e,ha] at ho; cases ho
 have F5:Fr M M5 p:=Fr.of λ q hq=>by rw [f5 q hq,f4 q hq,f3 q hq,f2 q hq]
 refine ⟨_,rfl,p,4,rfl,bag_keep b5 (updM_ne pa),by decide,by decide,λ c M6 c0 c1 b6 f6=>.inl ⟨_,_,rfl,rfl,1+c,rfl,by omega,by omega,?_⟩⟩
 refine ⟨λ i τ M'=>ShP z at' st' pl p a M i τ M',⟨b6,λ q o nq e=>?_,[],?_,rfl,λ j r h=>by simp at h,_,_,_,_,rfl⟩,?_,?_⟩
 ·have qa:q≠a:=λ z=>by have:=F5 q o nq e; rw [z,ha] at this; cases this
  rw [f6 q nq,updM_ne qa]
  exact F5 q o nq e
 ·rw [f6 a (Ne.symm pa),updM_same]
  rfl
 ·rintro i w τ M' hw ⟨b,f,R,ma,hR,hr,x7,x8,x9,x10,rfl⟩
  obtain ⟨hi,rfl⟩:=rng_at hw
  rw [Int.zero_add]
  have hi4:i < 4:=by omega
  have hmod:=Int.emod_nonneg (at'+st' * (i:Int)) (show (26:Int)≠0 by decide)
  have hmod2:=Int.emod_lt_of_pos (at'+st' * (i:Int)) (show (0:Int) < 26 by decide)
  refine ⟨_,rfl,_,rfl,_,rfl,_,rfl,_,_,rfl,rfl,.inl ⟨by omega,by omega⟩,.inl ⟨_,_,rfl,rfl,_,_,rfl,rfl,show (0:Int) < 26 by decide,_,_,rfl,sign_at hmod hmod2,fitA,?_⟩⟩
  have lc:(⟨#[sgn at' st' i]⟩:Str).length=1:=rfl
  have l1:=PySem.Txt.slice_le z none (some pl)
  have l2:=PySem.Txt.slice_le z (some pl) none
  refine ⟨_,rfl,_,rfl,_,rfl,_,rfl,fitZ,_,rfl,.inr ⟨_,_,rfl,rfl,?_,_,rfl,_,rfl,_,rfl,_,rfl,fitZ,.inr ⟨_,_,rfl,rfl,?_,?_⟩⟩⟩
  ·show (Txt.slice z none (some pl)).length+(⟨#[sgn at' st' i]⟩:Str).length<=sizeLine
   rw [lc]; omega
  ·show (Txt.slice z none (some pl)++(⟨#[sgn at' st' i]⟩:Str)).length+_<=sizeLine
   rw [len_app,lc]; omega
  refine ⟨_,rfl,p,9,rfl,b,by decide,by decide,λ v1 M7 v10 v11 b7 f7=>.inl ⟨_,_,rfl,rfl,_,rfl,p,3,rfl,b7,by decide,by decide,λ v2 M8 v20 v21 b8 f8=>.inl ⟨_,_,rfl,rfl,_,rfl,few (by simp),?_⟩⟩⟩
  have ma8:M8 a=some (.lst ((R.map rowD).map W.d)):=by rw [f8 a (Ne.symm pa),f7 a (Ne.symm pa)]; exact ma
  refine ⟨_,rfl,a,_,rfl,ma8,_,rfl,_,rfl,_,rfl,p,4,rfl,b8,by decide,by decide,λ r M9 r0 r1 b9 f9=>?_⟩
  have ma9:M9 a=some (.lst ((R.map rowD).map W.d)):=by rw [f9 a (Ne.symm pa)]; exact ma8
  obtain ⟨v,ev,hv⟩:=ix_int_at (M:=M9) (ns:=[1+v1,1,9,1+v2]) r0 (by simpa using r1)
  have hv9:1<=v/\v<=9:=by
   simp only [List.mem_cons,List.not_mem_nil,or_false] at hv
   rcases hv with rfl | rfl | rfl | rfl <;> omega
  obtain ⟨vn,rfl⟩:=Int.eq_ofNat_of_zero_le (show 0<=v by omega)
  refine ⟨r,_,rfl,ev,rfl,_,rfl,few (by simp),_,ma9,by simp; omega,bag_keep b9 (updM_ne pa),λ q o nq e=>?_,R++[(nameJ z pl (sgn at' st' i),vn)],?_,by simp [hR],λ j r' h=>?_,_,_,_,_,rfl⟩
  ·have qa:q≠a:=λ z'=>by have:=F5 q o nq e; rw [z',ha] at this; cases this
   rw [updM_ne qa,f9 q nq,f8 q nq,f7 q nq]
   exact f q o nq e
  ·rw [updM_same,List.map_append,List.map_append]
   rfl
  ·by_cases hj:j < R.length
   ·rw [List.getElem?_append_left hj] at h
    exact hr j r' h
   ·rw [List.getElem?_append_right (by omega)] at h
    have hlt:=(List.getElem?_eq_some_iff.mp h).1
    simp at hlt
    have ej:j=i:=by omega
    subst ej
    rw [hR,Nat.sub_self] at h
    simp at h
    subst h
    exact ⟨rfl,by omega,by omega⟩
 ·rintro τ M' ⟨b,f,R,ma,hR,hr,x7,x8,x9,x10,rfl⟩
  simp only [rangeW,List.length_map,List.length_range] at hR
  have hRl:1<=R.length/\R.length<=4:=by omega
  refine ⟨_,rfl,a,_,rfl,ma,k R _ ⟨λ e=>by rw [e] at hRl; simp at hRl,hRl.2,λ r hm=>?_,?_⟩ ?_ ?_⟩
  ·obtain ⟨j,hj,e⟩:=List.mem_iff_getElem.mp hm
   obtain ⟨h1,h2,h3⟩:=hr j r (by rw [<- e]; exact List.getElem?_eq_getElem hj)
   refine ⟨?_,h2,h3⟩
   rw [h1]
   refine nameJ_wd hzs (by omega) p0 (by omega) (small_sign _ ?_)
   have:=Int.emod_lt_of_pos (at'+st' * (j:Int)) (show (0:Int) < 26 by decide)
   omega
  ·rw [List.nodup_iff_pairwise_ne,List.pairwise_iff_getElem]
   intro i j hi hj hij e
   rw [List.getElem_map,List.getElem_map] at e
   have hi':i < R.length:=by simpa using hi
   have hj':j < R.length:=by simpa using hj
   rw [(hr i _ (List.getElem?_eq_getElem hi')).1,(hr j _ (List.getElem?_eq_getElem hj')).1] at e
   have:=sgn_inj a0 a1 hs (by omega) (by omega) (nameJ_inj e)
   omega
  ·refine bag_keep b ?_
   simp only [delM,if_neg pa]
  ·intro q o nq e
   have qa:q≠a:=λ z'=>by have:=F5 q o nq e; rw [z',ha] at this; cases this
   simp only [delM,if_neg qa]
   exact f q o nq e
theorem row_at {S:Sh}{m t:Nat}(h:t < m):(strsW (rw0 S m))[t]? = some (.d (.str (nmS S (own S t)))):=by
 simp [strsW,rw0,List.getElem?_map,List.getElem?_range h]
theorem kvL_app {N:List Str}{c:List Int}{z:Str}{x:Int}(hn:N.length=c.length)(hz:z ∉ N):tput (kvL N c) (.inr z) (.d (.int x))=kvL (N++[z]) (c++[x]):=by
 have hno:∀ p∈kvL N c,decide (p.1=(.inr z:Key))=false:=by
  intro p hp
  unfold kvL at hp
  obtain ⟨j,hj,ej⟩:=List.mem_iff_getElem.mp hp
  rw [List.getElem_zipWith] at ej
  subst ej
  refine decide_eq_false λ e=>hz ?_
  have:N[j]'(by simp at hj; omega)=z:=Sum.inr.inj e
  exact this ▸ List.getElem_mem _
 unfold tput
 rw [if_neg (by rw [Bool.not_eq_true,List.any_eq_false]; intro p hp; simpa using hno p hp)]
 unfold kvL
 rw [List.zipWith_append hn]
 rfl
theorem kvL_len (S:Sh)(u:List Int):(kvL (nmL S) u).length<=S.length:=by
 simp [kvL,nmL]
 omega
noncomputable abbrev FD (q r:Addr)(t:Int)(v:W):List (Str×W):=[("asks_waiting",.m q),("owner_round",.m r),("next_slot",.d (.int t)),("number_led",v)]
section
variable {q r:Addr}{t:Int}{v:W}
theorem fd_q:(FD q r t v).lookup ("asks_waiting" : Str)=some (.m q):=rfl
theorem fd_r:(FD q r t v).lookup ("owner_round" : Str)=some (.m r):=rfl
theorem fd_t:(FD q r t v).lookup ("next_slot" : Str)=some (.d (.int t)):=rfl
theorem fd_m1:(FD q r t v).lookup ("begin" : Str)=none:=rfl
theorem fd_m2:(FD q r t v).lookup ("new_shares" : Str)=none:=rfl
theorem fd_m3:(FD q r t v).lookup ("waits" : Str)=none:=rfl
theorem fd_m4:(FD q r t v).lookup ("is_waited_at" : Str)=none:=rfl
theorem fd_m5:(FD q r t v).lookup ("owner" : Str)=none:=rfl
theorem fd_m6:(FD q r t v).lookup ("ask" : Str)=none:=rfl
theorem fd_m7:(FD q r t v).lookup ("slot" : Str)=none:=rfl
theorem fd_m8:(FD q r t v).lookup ("use" : Str)=none:=rfl
end
structure Dr (M:MH)(S:Sh)(d q r:Addr)(u:List Int)(t:Int)(v:W):Prop where
 hd:M d=some (.ins C_Door (FD q r t v))
 hq:M q=some (.dic (kvL (nmL S) u))
 hr:M r=some (.lst (strsW (rw0 S (wn S))))
 lu:u.length=S.length
section
variable {M:MH}{S:Sh}{d q r:Addr}{u:List Int}{t:Int}{v:W}
theorem Dr.nq (h:Dr M S d q r u t v):d≠q:=ne_M h.hd h.hq (by intro z; cases z)
theorem Dr.nr (h:Dr M S d q r u t v):d≠r:=ne_M h.hd h.hr (by intro z; cases z)
theorem Dr.qr (h:Dr M S d q r u t v):q≠r:=ne_M h.hq h.hr (by intro z; cases z)
theorem Dr.ext {M':MH}(h:Dr M S d q r u t v)(x:Ext M M'):Dr M' S d q r u t v:=⟨x _ _ h.hd,x _ _ h.hq,x _ _ h.hr,h.lu⟩
theorem Dr.get (h:Dr M S d q r u t v)(hO:OkS S){i:Nat}{z:Str}(hz:(nmL S)[i]? = some z):tget (kvL (nmL S) u) (.inr z)=some (.d (.int (cv u i))) :=
 kvL_get hO.nd hz (cv_at (by rw [h.lu]; have:=(List.getElem?_eq_some_iff.mp hz).1; simpa [nmL] using this))
end
noncomputable def sp_Door_begin:SpD:=λ ws M Q=>∃ (d q r:Addr) (t:Int) (v:W),ws=[.m d]/\M d=some (.ins C_Door (FD q r t v))/\Q (.d .none) (updM M d (.ins C_Door (FD q r 0 v)))
theorem len_Door_begin:∀ ws M Q,sp_Door_begin ws M Q->ws.length=1:=by rintro ws M Q ⟨d,q,r,t,v,rfl,_⟩; rfl
theorem read_Door_begin:∀ ws M Q,sp_Door_begin ws M Q->t_Door_begin { nx:=λ _ M'=>Q (.d .none) M',rt:=Q } (startD N_Door_begin ws) M:=by
 rintro ws M Q ⟨d,q,r,t,v,rfl,hd,k⟩
 exact ⟨_,rfl,d,_,rfl,hd,(by show 4 < 1000; decide),k⟩
inductive Sp_Door_new_shares (ws:List W) (M:MH) (Q:QD):Prop
 | mk (S:Sh) (d q r:Addr) (t:Int) (v:W) (kvs:List (Key×W)) (u:List Int) (f:Addr) (z0:ws=[.m d,.m f]) (zf:M f=some (.flst ((S.map rowD).map W.d))) (z1:OkS S) (z2:M C_tb_round_of=some cdR) (z3:M d=some (.ins C_Door (FD q r t v))) (z4:M q=some (.dic kvs)) (z5:u.length=S.length) (z6:(∀ i z,(nmL S)[i]? = some z->(tget kvs (.inr z)).getD (.d (.int 0))=.d (.int (cv u i)))) (z7:∀ q' r' M',M q'=none->Dr M' S d q' r' u 0 v->Fr M M' d->Q (.d .none) M'):Sp_Door_new_shares ws M Q
noncomputable def sp_Door_new_shares:SpD:=Sp_Door_new_shares
theorem len_Door_new_shares:∀ ws M Q,sp_Door_new_shares ws M Q->ws.length=2:=by rintro ws M Q ⟨S,d,q,r,t,v,kvs,u,f,rfl,_⟩; rfl
theorem read_Door_new_shares:∀ ws M Q,sp_Door_new_shares ws M Q->t_Door_new_shares sp_refuse_shares sp_round_of sp_Door_begin { nx:=λ _ M'=>Q (.d .none) M',rt:=Q } (startD N_Door_new_shares ws) M:=by
 rintro ws M00 Q ⟨S,d,q,r,t,v,kvs,u,f,rfl,hf0,hO,hC0,hd0,hq0,lu,hu,k⟩
 have sl:=s16
 have h4:=hO.len
 have nd:(nmL S).Nodup:=hO.nd
 have nl:(nmL S).length=S.length:=by simp [nmL]
 refine ⟨_,rfl,S,f,rfl,hf0,hO,λ M x0=>⟨_,rfl,f,_,rfl,x0 _ _ hf0,λ p hp=>?_⟩⟩
 have hd:=x0 _ _ hd0
 have hq:=x0 _ _ hq0
 have hC:=x0 _ _ hC0
 have hf:=x0 _ _ hf0
 have pd:d≠p:=ne_new hd hp
 refine ⟨λ i τ M'=>M'=updM M p (.dic (kvL ((nmL S).take i) (u.take i)))/\∃ x y,τ=[x,y,some (.m d)],⟨rfl,_,_,rfl⟩,?_,?_⟩
 ·rintro i w τ M' hw ⟨rfl,x,y,rfl⟩
  rw [List.map_map] at hw
  obtain ⟨r',hr,rfl⟩:=map_at hw
  have hi:=(List.getElem?_eq_some_iff.mp hr).1
  obtain ⟨hn,_⟩:=nm_at hr
  refine ⟨_,rfl,rfl,_,_,rfl,_,_,rfl,rfl,_,rfl,_,rfl,d,_,_,rfl,upd_get hd hp,fd_q,.k (upd_get hq hp),_,rfl,_,.k (k:=.inr r'.1) (upd_get hq hp),_,.inr r'.1,updM_same,rfl,?_,?_,_,_,rfl⟩
  ·have:(kvL ((nmL S).take i) (u.take i)).length<=i:=by simp [kvL]; omega
   omega
  ·have ht:(nmL S).take (i+1)=(nmL S).take i++[r'.1]:=by rw [List.take_succ,hn]; rfl
   have hu':u.take (i+1)=u.take i++[cv u i]:=by rw [List.take_succ,cv_at (by omega)]; rfl
   rw [updM_updM,hu i r'.1 hn,kvL_app (by rw [List.length_take,List.length_take]; omega) (nd_take nd hn),ht,hu']
 rintro τ M1 ⟨e1,x,y,rfl⟩
 have hp1:M1 p=some (.dic (kvL (nmL S) u)):=by
  rw [e1,updM_same]
  have e2:(nmL S).take ((S.map rowD).map W.d).length=nmL S:=List.take_of_length_le (by simp [nmL])
  have e3:u.take ((S.map rowD).map W.d).length=u:=List.take_of_length_le (by simp [lu])
  rw [e2,e3]
 have x1:Ext M M1:=by rw [e1]; exact Ext.new hp
 refine ⟨_,rfl,d,_,rfl,x1 _ _ hd,(by show 4 < 1000; decide),?_⟩
 have hC1:(updM M1 d (.ins C_Door (FD p r t v))) C_tb_round_of=some cdR:=by
  rw [updM_ne (ne_M hC hd (by intro z; cases z))]
  exact x1 _ _ hC
 have hf1:(updM M1 d (.ins C_Door (FD p r t v))) f=some (.flst ((S.map rowD).map W.d)):=by
  rw [updM_ne (ne_M hf hd (by intro z; cases z))]
  exact x1 _ _ hf
 refine ⟨_,rfl,S,f,rfl,hf1,hO,hC1,λ a M3 ha ma x3=>?_⟩
 have hd3:M3 d=some (.ins C_Door (FD p r t v)):=x3 _ _ updM_same
 have hp3:M3 p=some (.dic (kvL (nmL S) u)):=x3 _ _ (by rw [updM_ne (Ne.symm pd)]; exact hp1)
 have ad:a≠d:=λ e=>by rw [e] at ha; exact absurd (updM_same.symm.trans ha) (by intro z; cases z)
 refine ⟨_,rfl,d,_,rfl,hd3,(by show 4 < 1000; decide),?_⟩
 refine ⟨_,rfl,d,_,rfl,updM_same,fd_m1 (q:=p) (r:=a) (t:=t) (v:=v),d,p,a,t,v,rfl,updM_same,?_⟩
 refine k p a _ (by cases z:M00 p with | none=>rfl | some o=>rw [x0 _ _ z] at hp; cases hp) ⟨updM_same,?_,?_,lu⟩ λ b o n e=>?_
 ·rw [updM_ne (Ne.symm pd),updM_ne (Ne.symm pd)]; exact hp3
 ·rw [updM_ne ad,updM_ne ad]; exact ma
 ·rw [updM_ne n,updM_ne n]
  exact x3 _ _ (by rw [updM_ne n]; exact x1 _ _ (x0 _ _ e))
noncomputable def sp_Door_init:SpD:=λ ws M Q=>∃ (S:Sh) (d f:Addr),ws=[.m d,.m f]/\M f=some (.flst ((S.map rowD).map W.d))/\OkS S/\M C_tb_round_of=some cdR/\M d=some (.ins C_Door [])/\∀ q r M',M q=none->Dr M' S d q r (List.replicate S.length 0) 0 (.d .none)->Fr M M' d->Q (.d .none) M'
theorem len_Door_init:∀ ws M Q,sp_Door_init ws M Q->ws.length=2:=by rintro ws M Q ⟨S,d,f,rfl,_⟩; rfl
theorem read_Door_init:∀ ws M Q,sp_Door_init ws M Q->t_Door_init sp_Door_new_shares { nx:=λ _ M'=>Q (.d .none) M',rt:=Q } (startD N_Door_init ws) M:=by
 rintro ws M Q ⟨S,d,f,rfl,hf,hO,hC,hd,k⟩
 refine λ p hp=>⟨_,rfl,d,_,rfl,upd_get hd hp,by decide,few (by simp),λ a ha=>⟨_,rfl,d,_,rfl,upd_get updM_same ha,(by show 1 < 1000; decide),?_⟩⟩
 refine ⟨_,rfl,d,_,rfl,updM_same,(by show 2 < 1000; decide),_,rfl,d,_,rfl,updM_same,(by show 3 < 1000; decide),?_⟩
 have pd:d≠p:=ne_new hd hp
 have ha':updM (updM M p (.dic [])) d (.ins C_Door (putW "asks_waiting" (.m p) [])) a=none:=ha
 have ad:a≠d:=λ e=>by rw [e,updM_same] at ha'; cases ha'
 have ap:a≠p:=λ e=>by rw [updM_ne (e ▸ pd.symm),e,updM_same] at ha'; cases ha'
 have haM:M a=none:=by rw [updM_ne ad,updM_ne ap] at ha'; exact ha'
 have cd:C_tb_round_of≠d:=ne_M hC hd (by intro z; cases z)
 have cp:C_tb_round_of≠p:=ne_new hC hp
 have ca:C_tb_round_of≠a:=ne_new hC haM
 have fd':f≠d:=ne_M hf hd (by intro z; cases z)
 have fp:f≠p:=ne_new hf hp
 have fa:f≠a:=ne_new hf haM
 refine ⟨_,rfl,rfl,_,rfl,iteT ?_⟩
 refine ⟨_,rfl,d,_,rfl,updM_same,fd_m2 (q:=p) (r:=a) (t:=0) (v:=.d .none),_,rfl,S,d,p,a,0,.d .none,[],List.replicate S.length 0,f,rfl,?_,hO,?_,updM_same,?_,by simp,λ i z _=>?_,λ q' r' M' hq' hD hF=>k q' r' M' ?_ hD λ b o n e=>hF b o n ?_⟩
 ·rw [updM_ne fd',updM_ne fd',updM_ne fd',updM_ne fa,updM_ne fd',updM_ne fp]; exact hf
 ·rw [updM_ne cd,updM_ne cd,updM_ne cd,updM_ne ca,updM_ne cd,updM_ne cp]; exact hC
 ·rw [updM_ne pd.symm,updM_ne pd.symm,updM_ne pd.symm,updM_ne ap.symm,updM_ne pd.symm,updM_same]
 ·have:cv (List.replicate S.length 0) i=0:=st_zero S i
  rw [this]
  rfl
 ·cases e:M q' with
  | none=>rfl
  | some o =>
   have n:q'≠d:=λ z=>by rw [z] at hq'; exact absurd (updM_same.symm.trans hq') (by intro z; cases z)
   rw [updM_ne n,updM_ne n,updM_ne n,updM_ne (ne_new e haM),updM_ne n,updM_ne (ne_new e hp),e] at hq'
   cases hq'
 ·rw [updM_ne n,updM_ne n,updM_ne n,updM_ne (ne_new e haM),updM_ne n,updM_ne (ne_new e hp)]; exact e
inductive Sp_Door_waits (ws:List W) (M:MH) (Q:QD):Prop
 | mk (S:Sh) (d q r:Addr) (u:List Int) (t:Int) (v:W) (i:Nat) (z:Str) (z0:ws=[.m d,.d (.str z)]) (z1:OkS S) (z2:Dr M S d q r u t v) (z3:(nmL S)[i]? = some z) (z4:Q (.d (.int (cv u i))) M):Sp_Door_waits ws M Q
noncomputable def sp_Door_waits:SpD:=Sp_Door_waits
theorem len_Door_waits:∀ ws M Q,sp_Door_waits ws M Q->ws.length=2:=by rintro ws M Q ⟨S,d,q,r,u,t,v,i,z,rfl,_⟩; rfl
theorem nm_word {S:Sh}(hO:OkS S){i:Nat}{z:Str}(hz:(nmL S)[i]? = some z):wd z=true:=by
 obtain ⟨r,hr,e⟩:=List.mem_map.mp (List.mem_of_getElem? hz)
 rw [<- e]
 exact (hO.row r hr).1
theorem read_Door_waits:∀ ws M Q,sp_Door_waits ws M Q->t_Door_waits sp_is_word { nx:=λ _ M'=>Q (.d .none) M',rt:=Q } (startD N_Door_waits ws) M:=by
 rintro ws M Q ⟨S,d,q,r,u,t,v,i,z,rfl,hO,H,hz,k⟩
 refine ⟨_,rfl,z,rfl,nm_word hO hz,_,rfl,iteF ⟨_,rfl,_,rfl,d,_,_,rfl,H.hd,fd_q,_,.k (k:=.inr z) H.hq,_,rfl,?_⟩⟩
 have g:=H.get hO hz
 rw [g]
 exact iteF ⟨_,rfl,d,_,_,rfl,H.hd,fd_q,_,rfl,q,_,.inr z,_,rfl,.inl H.hq,rfl,g,k⟩
noncomputable def lin (n c:Int):Int:=if 0 > (if 40 - c < n then 40 - c else n) then 0 else (if 40 - c < n then 40 - c else n)
inductive Sp_Door_ask (ws:List W) (M:MH) (Q:QD):Prop
 | mk (S:Sh) (d q r:Addr) (u:List Int) (t:Int) (v:W) (i:Nat) (z:Str) (n:Int) (z0:ws=[.m d,.d (.str z),.d (.int n)]) (z1:OkS S) (z2:Dr M S d q r u t v) (z3:(nmL S)[i]? = some z) (z4:Q (.d (.int (lin n (cv u i)))) (updM M q (.dic (kvL (nmL S) (u.set i (cv u i+lin n (cv u i))))))):Sp_Door_ask ws M Q
noncomputable def sp_Door_ask:SpD:=Sp_Door_ask
theorem len_Door_ask:∀ ws M Q,sp_Door_ask ws M Q->ws.length=3:=by rintro ws M Q ⟨S,d,q,r,u,t,v,i,z,n,rfl,_⟩; rfl
theorem read_Door_ask:∀ ws M Q,sp_Door_ask ws M Q->t_Door_ask sp_Door_waits { nx:=λ _ M'=>Q (.d .none) M',rt:=Q } (startD N_Door_ask ws) M:=by
 rintro ws M Q ⟨S,d,q,r,u,t,v,i,z,n,rfl,hO,H,hz,k⟩
 have sl:=s16
 have h4:=hO.len
 refine ⟨_,rfl,_,rfl,d,_,rfl,H.hd,fd_m3,_,rfl,S,d,q,r,u,t,v,i,z,rfl,hO,H,hz,_,_,rfl,rfl,_,_,rfl,_,_,rfl,?_⟩
 refine ⟨_,rfl,d,_,_,rfl,H.hd,fd_q,_,rfl,q,_,.inr z,cv u i,rfl,rfl,H.hq,H.get hO hz,?_,_,rfl,_,rfl,rfl,_,rfl,?_⟩
 ·have:=kvL_len S u
  omega
 ·rw [kvL_put (N:=nmL S) hO.nd (by rw [H.lu]; simp [nmL]) hz]
  exact k
noncomputable def sp_Door_owner:SpD:=λ ws M Q=>∃ (S:Sh) (d q r:Addr) (u:List Int) (t:Nat) (v:W),ws=[.m d]/\OkS S/\Dr M S d q r u t v/\Q (.d (.str (nmS S (own S t)))) M
theorem len_Door_owner:∀ ws M Q,sp_Door_owner ws M Q->ws.length=1:=by rintro ws M Q ⟨S,d,q,r,u,t,v,rfl,_⟩; rfl
theorem read_Door_owner:∀ ws M Q,sp_Door_owner ws M Q->t_Door_owner { nx:=λ _ M'=>Q (.d .none) M',rt:=Q } (startD N_Door_owner ws) M:=by
 rintro ws M Q ⟨S,d,q,r,u,t,v,rfl,hO,H,k⟩
 have wp:=wn_pos hO
 have hlt:t % wn S < wn S:=Nat.mod_lt _ (by omega)
 have hne:(strsW (rw0 S (wn S))).isEmpty=false:=by
  cases e:strsW (rw0 S (wn S)) with
  | nil=>have:=congrArg List.length e; simp [strsW,rw0] at this; omega
  | cons _ _=>rfl
 refine ⟨_,rfl,d,_,_,rfl,H.hd,fd_r,_,.m H.hr,?_⟩
 rw [hne]
 refine iteF ?_
 have el:lenW M (.m r)=some (wn S):=by simp only [lenW,H.hr]; simp [strsW,rw0]
 have ix:ixW M (.m r) ((t:Int) % ((wn S:Nat):Int))=some (.d (.str (nmS S (own S t)))):=by
  rw [show ((t:Int) % ((wn S:Nat):Int))=((t % wn S:Nat):Int) from rfl,own_mod hO t]
  exact ix_m H.hr (atI_nat (row_at hlt))
 exact ⟨_,rfl,d,_,_,rfl,H.hd,fd_r,_,rfl,d,_,_,rfl,H.hd,fd_t,_,rfl,d,_,_,rfl,H.hd,fd_r,_,_,rfl,el,rfl,_,_,rfl,rfl,by omega,_,_,rfl,ix,rfl,k⟩
theorem kvL_vals:∀ {N:List Str} {u:List Int},N.length=u.length->(kvL N u).map (·.2)=intsW u
 | [],[],_=>rfl
 | [],_ :: _,h=>by simp at h
 | _ :: _,[],h=>by simp at h
 | z :: N,n :: u,h=>by
  have ih:=kvL_vals (N:=N) (u:=u) (by simpa using h)
  show W.d (.int n) :: (kvL N u).map (·.2)=W.d (.int n) :: intsW u
  rw [ih]
theorem kvL_keys:∀ {N:List Str} {u:List Int},N.length=u.length->(kvL N u).map (·.1)=N.map Sum.inr
 | [],[],_=>rfl
 | [],_ :: _,h=>by simp at h
 | _ :: _,[],h=>by simp at h
 | z :: N,n :: u,h=>by
  have ih:=kvL_keys (N:=N) (u:=u) (by simpa using h)
  show (.inr z:Key) :: (kvL N u).map (·.1)=(.inr z:Key) :: N.map Sum.inr
  rw [ih]
noncomputable def sp_Door_is_waited_at:SpD:=λ ws M Q=>∃ (S:Sh) (d q r:Addr) (u:List Int) (t:Int) (v:W),ws=[.m d]/\Dr M S d q r u t v/\Q (.d (.bool (u.any λ n=>n != 0))) M
theorem len_Door_is_waited_at:∀ ws M Q,sp_Door_is_waited_at ws M Q->ws.length=1:=by rintro ws M Q ⟨S,d,q,r,u,t,v,rfl,_⟩; rfl
theorem read_Door_is_waited_at:∀ ws M Q,sp_Door_is_waited_at ws M Q->t_Door_is_waited_at { nx:=λ _ M'=>Q (.d .none) M',rt:=Q } (startD N_Door_is_waited_at ws) M:=by
 rintro ws M Q ⟨S,d,q,r,u,t,v,rfl,H,k⟩
 exact ⟨_,rfl,d,_,_,rfl,H.hd,fd_q,q,_,u,rfl,H.hq,kvL_vals (by rw [H.lu]; simp [nmL]),k⟩
noncomputable def rotI (n o:Nat):List Nat:=(List.range n).drop o++(List.range n).take o
theorem rot_at {n o k:Nat}(ho:o < n)(hk:k < n):(rotI n o)[k]? = some ((o+k) % n):=by
 unfold rotI
 by_cases h:o+k < n
 ·rw [List.getElem?_append_left (by simp; omega),List.getElem?_drop,List.getElem?_range (by omega),Nat.mod_eq_of_lt h]
 ·rw [List.getElem?_append_right (by simp; omega),List.length_drop,List.length_range,List.getElem?_take_of_lt (by omega),List.getElem?_range (by omega)]
  rw [Nat.mod_eq_sub_mod (by omega),Nat.mod_eq_of_lt (by omega)]
  congr 1
  omega
theorem rot_len {n o:Nat}(ho:o < n):(rotI n o).length=n:=by
 unfold rotI
 simp
 omega
theorem first_of:∀ {l:List Nat} {p:Nat->Bool} {k j:Nat},l[k]? = some j->p j=true->(∀ k',k' < k->∀ j',l[k']? = some j'->p j'=false)->(l.filter p)[0]? = some j
 | [],_,_,_,h,_,_=>by simp at h
 | a :: l,p,0,j,h,hp,_=>by
  simp at h
  subst h
  rw [List.filter_cons_of_pos hp]
  rfl
 | a :: l,p,k+1,j,h,hp,hn=>by
  have ha:=hn 0 (by omega) a rfl
  rw [List.filter_cons_of_neg (by rw [ha]; decide)]
  exact first_of (by simpa using h) hp λ k' hk j' hj=>hn (k'+1) (by omega) j' (by simpa using hj)
noncomputable def nmD (S:Sh)(j:Nat):PyData:=.str (nmS S j)
noncomputable def nms (S:Sh):List PyData:=(List.range S.length).map (nmD S)
theorem nms_eq (S:Sh):nms S=(nmL S).map PyData.str:=by
 refine List.ext_getElem (by simp [nms,nmL]) λ i h1 h2=>?_
 have hi:i < S.length:=by simpa [nms] using h1
 have:=(nm_at (List.getElem?_eq_getElem hi)).2
 simp [nms,nmD,nmL,this]
theorem nms_at {S:Sh}{j:Nat}(h:j < S.length):(nms S)[j]? = some (nmD S j):=by simp [nms,List.getElem?_map,List.getElem?_range h]
theorem nmL_at {S:Sh}{j:Nat}(h:j < S.length):(nmL S)[j]? = some (nmS S j):=by
 have:=nm_at (List.getElem?_eq_getElem h)
 rw [this.1,this.2]
theorem nms_inj {S:Sh}(hO:OkS S){i j:Nat}(hi:i < S.length)(hj:j < S.length)(h:nmS S i=nmS S j):i=j:=by
 have hi':i < (nmL S).length:=by simpa [nmL] using hi
 exact (List.getElem?_inj hi' (show (nmL S).Nodup from hO.nd)).mp (by rw [nmL_at hi,nmL_at hj,h])
theorem nms_ok {S:Sh}(hO:OkS S):okD 1 (.list (nms S))=true:=by
 simp only [okD]
 refine okA_of λ d hd=>?_
 obtain ⟨j,hj,rfl⟩:=List.mem_map.mp hd
 have hj':=List.mem_range.mp hj
 simp only [nmD,okD]
 exact wd_asc (nm_word hO (nmL_at hj'))
theorem nms_in {S:Sh}(hO:OkS S){j:Nat}(h:j < S.length):inOk (nmD S j) (nms S)=true:=by
 have h1:okD 0 (nmD S j)=true:=by simp only [nmD,okD]; exact wd_asc (nm_word hO (nmL_at h))
 simp only [inOk,eqOk_of (by decide) h1,eqOk_of (by decide) (nms_ok hO),Bool.and_self]
theorem nms_rot (S:Sh){o:Nat}(ho:o < S.length):D.cutD (nms S) (some (o:Int)) none++D.cutD (nms S) none (some (o:Int))=(rotI S.length o).map (nmD S):=by
 rw [cut_drop (by omega),cut_take (by simp [nms]; omega)]
 unfold nms rotI
 rw [<- List.map_drop,<- List.map_take,<- List.map_append]
 rfl
inductive Sp_Door_use (ws:List W) (M:MH) (Q:QD):Prop
 | mk (S:Sh) (d q r:Addr) (u:List Int) (t:Nat) (v:W) (z0:ws=[.m d]) (z1:OkS S) (z2:Dr M S d q r u t v) (z3:(∀ i,0<=cv u i)) (z4:(((∀ i,cv u i=0)/\Q (.d .none) M)\/∃ k j,k < S.length/\j=(own S t+k) % S.length/\0 < cv u j/\(∀ k',k' < k->cv u ((own S t+k') % S.length)=0)/\∀ M',M' d=some (.ins C_Door (FD q r ((t+1:Nat):Int) v))->M' q=some (.dic (kvL (nmL S) (u.set j (cv u j - 1))))->(∀ b o,b≠d->b≠q->M b=some o->M' b=some o)->Q (.d (.str (nmS S j))) M')):Sp_Door_use ws M Q
noncomputable def sp_Door_use:SpD:=Sp_Door_use
theorem len_Door_use:∀ ws M Q,sp_Door_use ws M Q->ws.length=1:=by rintro ws M Q ⟨S,d,q,r,u,t,v,rfl,_⟩; rfl
theorem any_no {u:List Int}(h:∀ i,cv u i=0):(u.any λ n=>n != 0)=false:=by
 rw [List.any_eq_false]
 intro n hn
 obtain ⟨i,hi,rfl⟩:=List.getElem_of_mem hn
 have:=h i
 simp [cv,List.getD,List.getElem?_eq_getElem hi] at this
 simp [this]
theorem any_yes {u:List Int}{j:Nat}(h:0 < cv u j):(u.any λ n=>n != 0)=true:=by
 rw [List.any_eq_true]
 by_cases hj:j < u.length
 ·refine ⟨u[j],List.getElem_mem hj,?_⟩
  have:cv u j=u[j]:=by simp [cv,List.getD,List.getElem?_eq_getElem hj]
  simp
  omega
 ·have:cv u j=0:=by simp [cv,List.getD,List.getElem?_eq_none (by omega:u.length<=j)]
  omega
theorem read_Door_use:∀ ws M Q,sp_Door_use ws M Q->t_Door_use sp_Door_is_waited_at sp_Door_owner { nx:=λ _ M'=>Q (.d .none) M',rt:=Q } (startD N_Door_use ws) M:=by
 rintro ws M Q ⟨S,d,q,r,u,t,v,rfl,hO,H,h0,k⟩
 have sl:=s16
 have h4:=hO.len
 refine ⟨_,rfl,d,_,rfl,H.hd,fd_m4,S,d,q,r,u,t,v,rfl,H,_,rfl,?_⟩
 rcases k with ⟨hz,k⟩ | ⟨k,j,hk,hj,hp,hn,kk⟩
 ·rw [any_no hz]
  exact iteT k
 rw [any_yes hp]
 refine iteF ?_
 have ho:=own_lt hO t
 have hjn:j < S.length:=by rw [hj]; exact Nat.mod_lt _ (by omega)
 refine ⟨_,rfl,d,_,_,rfl,H.hd,fd_q,q,_,nmL S,rfl,H.hq,kvL_keys (by rw [H.lu]; simp [nmL]),λ p hp'=>?_⟩
 have en:strsW (nmL S)=(nms S).map W.d:=by rw [nms_eq,List.map_map]; rfl
 refine ⟨p,nms S,rfl,by rw [updM_same,en],?_⟩
 have x1:Ext M (delM (updM M p (.lst (strsW (nmL S)))) p):=sealed hp'
 generalize delM (updM M p (.lst (strsW (nmL S)))) p=M1 at x1
 have H1:=H.ext x1
 have ok:=nms_ok hO
 refine ⟨_,rfl,nms S,rfl,_,rfl,d,_,rfl,H1.hd,fd_m5,S,d,q,r,u,t,v,rfl,hO,H1,nmD S (own S t),own S t,rfl,?_,⟨by simpa [nms] using ho,λ y hy=>?_,λ m y hm hy=>?_⟩,by omega,?_⟩
 ·exact nms_in hO ho
 ·rw [nms_at ho] at hy
  cases hy
  simp [nmD]
 ·rw [nms_at (by omega)] at hy
  cases hy
  simp only [nmD,eqv_str']
  exact decide_eq_false λ e=>by have:=nms_inj hO (by omega) ho e; omega
 refine ⟨_,rfl,_,rfl,_,rfl,_,rfl,rfl,_,rfl,_,rfl,_,rfl,_,rfl,rfl,_,_,.d,.d,?_,_,rfl,?_⟩
 ·have a1:(D.cutD (nms S) (some ((own S t:Nat):Int)) none++D.cutD (nms S) none (some ((own S t:Nat):Int))).length=S.length:=by rw [nms_rot S ho,List.length_map,rot_len ho]
  rw [List.length_append] at a1
  omega
 rw [nms_rot S ho]
 have get:∀ {i},i < S.length->tget (kvL (nmL S) u) (.inr (nmS S i))=some (.d (.int (cv u i))):=λ hi=>H.get hO (nmL_at hi)
 refine ⟨λ i acc τ M'=>M'=M1/\acc=(((rotI S.length (own S t)).take i).filter λ j=>decide (0 < cv u j)).map (nmD S)/\∃ x,τ=[x,some (.m d)],⟨rfl,rfl,_,rfl⟩,?_,?_⟩
 ·rintro i w acc τ M' hw ⟨rfl,rfl,x,rfl⟩
  rw [List.map_map] at hw
  obtain ⟨j',hj',rfl⟩:=map_at hw
  have hi:=(List.getElem?_eq_some_iff.mp hj').1
  rw [rot_len ho] at hi
  have hjn':j' < S.length:=by
   rw [rot_at ho hi] at hj'
   cases hj'
   exact Nat.mod_lt _ (by omega)
  have ht:(rotI S.length (own S t)).take (i+1)=(rotI S.length (own S t)).take i++[j']:=by rw [List.take_succ,hj']; rfl
  refine ⟨?_,_,rfl,d,_,_,rfl,H1.hd,fd_q,_,rfl,q,_,.inr (nmS S j'),_,rfl,.inl H1.hq,rfl,get hjn',_,_,rfl,rfl,_,rfl,?_⟩
  ·rw [List.length_map]
   have:=List.length_filter_le (λ j=>decide (0 < cv u j)) ((rotI S.length (own S t)).take i)
   rw [List.length_take] at this
   omega
  refine ite_b (λ h=>?_) (λ h=>?_)
  ·refine ⟨_,rfl,_,rfl,rfl,?_,_,rfl⟩
   have e1:([j'].filter λ j=>decide (0 < cv u j))=[j']:=by simp only [List.filter,h]
   rw [ht,List.filter_append,List.map_append,e1]
   rfl
  ·refine ⟨rfl,?_,_,rfl⟩
   have e1:([j'].filter λ j=>decide (0 < cv u j))=[]:=by simp only [List.filter,h]
   rw [ht,List.filter_append,e1,List.append_nil]
 rintro acc τ M' ⟨rfl,rfl,x,rfl⟩
 have el:(rotI S.length (own S t)).take (((rotI S.length (own S t)).map (nmD S)).map W.d).length=rotI S.length (own S t):=List.take_of_length_le (by simp)
 rw [el]
 have hf:((rotI S.length (own S t)).filter λ j=>decide (0 < cv u j))[0]? = some j:=first_of (k:=k) (by rw [hj]; exact rot_at ho hk) (decide_eq_true hp) λ k' hk' j' hj'=>by
  rw [rot_at ho (by omega)] at hj'
  cases hj'
  rw [hn k' hk']
  rfl
 have ix:∀ M2,ixW M2 (.d (.list (((rotI S.length (own S t)).filter λ j=>decide (0 < cv u j)).map (nmD S)))) 0=some (.d (nmD S j)):=λ M2=>ix_map (i:=0) rfl hf
 refine ⟨_,rfl,d,_,_,rfl,H1.hd,fd_q,_,rfl,0,_,rfl,ix _,rfl,q,_,.inr (nmS S j),cv u j,rfl,rfl,H1.hq,get hjn,?_,1,rfl,rfl,?_⟩
 ·have:=kvL_len S u
  omega
 rw [kvL_put (N:=nmL S) hO.nd (by rw [H.lu]; simp [nmL]) (nmL_at hjn)]
 have hd2:∀ o,updM M' q o d=some (.ins C_Door (FD q r t v)):=λ o=>by rw [updM_ne H.nq]; exact H1.hd
 refine ⟨_,rfl,d,_,_,rfl,hd2 _,fd_t,1,_,rfl,hd2 _,(by show 4 < 1000; decide),_,rfl,0,_,rfl,ix _,rfl,?_⟩
 refine kk _ updM_same ?_ λ b o n1 n2 e=>?_
 ·rw [updM_ne H.nq.symm,updM_same]
 ·rw [updM_ne n1,updM_ne n2]
  exact x1 _ _ e
theorem int_ok2 (i j:Int):eqOk2 (.int i) (.int j)=true:=by simp [eqOk2,eqOk,SeqAt.shaped,PyData.canLay0,PyData.depth,PyData.hasDict]
theorem bag_ne_dic {M:MH}{p b:Addr}{o:MO}(hb:Bag M p)(h:M b=some o)(hn:∀ ws,o ≠ .lst ws):b≠p:=by
 obtain ⟨_,_,_,_,e,_⟩:=hb
 intro z
 rw [z,e] at h
 exact hn _ (Option.some.inj h).symm
theorem bag_ne_dr {M:MH}{S:Sh}{p d q r:Addr}{u:List Int}{t:Int}{v:W}(hb:Bag M p)(H:Dr M S d q r u t v):r≠p:=by
 obtain ⟨a,b,c,ns,e,_⟩:=hb
 intro z
 have:=H.hr
 rw [z,e] at this
 have e2:=MO.lst.inj (Option.some.inj this)
 cases hL:rw0 S (wn S) with
 | nil=>rw [hL] at e2; simp [strsW] at e2
 | cons x xs=>rw [hL] at e2; simp [strsW] at e2
noncomputable def kdL (N:List Str)(u:List Int):List (Key×PyData):=List.zipWith (λ z n=>((.inr z:Key),.int n)) N u
theorem kvL_kd:∀ (N:List Str) (u:List Int),kvL N u=dataKV (kdL N u)
 | [],_=>by simp [kvL,kdL,dataKV]
 | _ :: _,[]=>by simp [kvL,kdL,dataKV]
 | z :: N,n :: u=>by
  have ih:=kvL_kd N u
  show ((.inr z:Key),W.d (.int n)) :: kvL N u=((.inr z:Key),W.d (.int n)) :: dataKV (kdL N u)
  rw [ih]
theorem kdL_at {S:Sh}{u:List Int}(lu:u.length=S.length){i:Nat}(hi:i < S.length):(kdL (nmL S) u)[i]? = some (.inr (nmS S i),.int (cv u i)):=by
 unfold kdL
 rw [List.getElem?_zipWith,nmL_at hi,cv_at (by omega)]
theorem kdL_len {S:Sh}{u:List Int}(lu:u.length=S.length):(kdL (nmL S) u).length=S.length:=by
 unfold kdL
 rw [List.length_zipWith]
 simp [nmL,lu]
noncomputable abbrev mK (S:Sh)(w h:Addr)(t:Int):List (Key×W):=[(.inr "shares",.d (shD S)),(.inr "waits",.m w),(.inr "had",.m h),(.inr "slot",.d (.int t)),(.inr "last",.d (.int 0))]
section
variable {S S':Sh}{w h w' h':Addr}{t t':Int}
theorem mk_sh:tget (mK S w h t) (.inr "shares")=some (.d (shD S)):=rfl
theorem mk_w:tget (mK S w h t) (.inr "waits")=some (.m w):=rfl
theorem mk_h:tget (mK S w h t) (.inr "had")=some (.m h):=rfl
theorem mk_t:tget (mK S w h t) (.inr "slot")=some (.d (.int t)):=rfl
theorem mm_sw:tmerge (mK S w h t) [(.inr "shares",.d (shD S')),(.inr "waits",.m w')]=mK S' w' h t:=rfl
end
structure Mo (M:MH)(S:Sh)(m w h:Addr)(u:List Int)(t:Nat):Prop where
 hm:M m=some (.dic (mK S w h (t:Int)))
 hw:M w=some (.dic (kvL (nmL S) u))
 hh:M h=some (.lst (intsW (st S t)))
 lu:u.length=S.length
 ne:m≠w
section
variable {M M':MH}{S:Sh}{m w h:Addr}{u:List Int}{t:Nat}
theorem Mo.keep (H:Mo M S m w h u t)(f:∀ b o,b=m\/b=w\/b=h->M b=some o->M' b=some o):Mo M' S m w h u t:=⟨f _ _ (.inl rfl) H.hm,f _ _ (.inr (.inl rfl)) H.hw,f _ _ (.inr (.inr rfl)) H.hh,H.lu,H.ne⟩
theorem Mo.get (H:Mo M S m w h u t)(hO:OkS S){i:Nat}{z:Str}(hz:(nmL S)[i]? = some z):tget (kvL (nmL S) u) (.inr z)=some (.d (.int (cv u i))) :=
 kvL_get hO.nd hz (cv_at (by rw [H.lu]; have:=(List.getElem?_eq_some_iff.mp hz).1; simpa [nmL] using this))
theorem Mo.mh (H:Mo M S m w h u t):m≠h:=ne_M H.hm H.hh (by intro z; cases z)
theorem Mo.wh (H:Mo M S m w h u t):w≠h:=ne_M H.hw H.hh (by intro z; cases z)
theorem had_at (hO:OkS S){M:MH}(hh:M h=some (.lst (intsW (st S t)))){i:Nat}(hi:i < S.length):ixW M (.m h) (i:Int)=some (.d (.int (cv (st S t) i))):=by
 simp only [ixW,hh]
 refine atI_nat ?_
 unfold intsW
 rw [List.getElem?_map,cv_at (by rw [(st_ok hO t).len]; exact hi)]
 rfl
theorem shr_at {M:MH}{i:Nat}{r:Str×Nat}(hr:S[i]? = some r):ixW M (.d (shD S)) (i:Int)=some (.d (rowD r)):=by
 unfold ixW shD
 simp only
 rw [atI_nat (v:=rowD r) (by rw [List.getElem?_map,hr]; rfl)]
 rfl
end
theorem due_eq {W s c:Int}(hs:0 < s):due W s c=((c+1) * W - 1) / s+1:=by
 have h:∀ T,due W s c<=T ↔ ((c+1) * W - 1) / s+1<=T:=λ T=>by
  rw [due_le hs]
  have:=Int.ediv_lt_iff_lt_mul (a:=(c+1) * W - 1) (b:=T) hs
  rw [Int.mul_comm s T]
  omega
 exact Int.le_antisymm ((h _).mpr (Int.le_refl _)) ((h _).mp (Int.le_refl _))
inductive Sp_l_whose (ws:List W) (M:MH) (Q:QD):Prop
 | mk (S:Sh) (m w h:Addr) (u:List Int) (t:Nat) (z0:ws=[.m m]) (z1:OkS S) (z2:Mo M S m w h u t) (z3:Q (.d (.int (own S t:Nat))) M):Sp_l_whose ws M Q
noncomputable def sp_l_whose:SpD:=Sp_l_whose
theorem len_l_whose:∀ ws M Q,sp_l_whose ws M Q->ws.length=1:=by rintro ws M Q ⟨S,m,w,h,u,t,rfl,_⟩; rfl
inductive BeI (S:Sh) (t:Nat) (i:Nat):W->Prop
 | no (z:∀ j,j < i->¬ Rl S (st S t) t j):BeI S t i (.d .none)
 | yes (j:Nat) (z0:j < i) (z1:Rl S (st S t) t j) (z2:∀ k,k < i->Rl S (st S t) t k->Du S (st S t) j<=Du S (st S t) k/\(k < j->Du S (st S t) j < Du S (st S t) k)):BeI S t i (.d (.tuple [.int (Du S (st S t) j),.int (j:Nat)]))
theorem BeI.old {S:Sh}{t i:Nat}{w:W}(h:BeI S t i w)(hn:¬ Rl S (st S t) t i):BeI S t (i+1) w:=by
 cases h with
 | no z=>exact .no λ j hj=>if e:j=i then e ▸ hn else z j (by omega)
 | yes j z0 z1 z2=>exact .yes j (by omega) z1 λ k hk hr=>if e:k=i then absurd (e ▸ hr) hn else z2 k (by omega) hr
theorem BeI.first {S:Sh}{t i:Nat}(z:∀ j,j < i->¬ Rl S (st S t) t j)(hr:Rl S (st S t) t i):BeI S t (i+1) (.d (.tuple [.int (Du S (st S t) i),.int (i:Nat)])) :=
 .yes i (by omega) hr λ k hk hrk=>if e:k=i then by subst e; exact ⟨Int.le_refl _,λ z=>absurd z (Nat.lt_irrefl _)⟩ else absurd hrk (z k (by omega))
theorem BeI.new {S:Sh}{t i j:Nat}(z0:j < i)(z2:∀ k,k < i->Rl S (st S t) t k->Du S (st S t) j<=Du S (st S t) k/\(k < j->Du S (st S t) j < Du S (st S t) k))(hr:Rl S (st S t) t i)(hl:Du S (st S t) i < Du S (st S t) j):BeI S t (i+1) (.d (.tuple [.int (Du S (st S t) i),.int (i:Nat)])) :=
 .yes i (by omega) hr λ k hk hrk=>if e:k=i then by subst e; exact ⟨Int.le_refl _,λ z=>absurd z (Nat.lt_irrefl _)⟩ else by
  have:=(z2 k (by omega) hrk).1
  exact ⟨by omega,λ _=>by omega⟩
theorem BeI.same {S:Sh}{t i j:Nat}(z0:j < i)(z1:Rl S (st S t) t j)(z2:∀ k,k < i->Rl S (st S t) t k->Du S (st S t) j<=Du S (st S t) k/\(k < j->Du S (st S t) j < Du S (st S t) k))(hl:¬ Du S (st S t) i < Du S (st S t) j):BeI S t (i+1) (.d (.tuple [.int (Du S (st S t) j),.int (j:Nat)])) :=
 .yes j (by omega) z1 λ k hk hrk=>if e:k=i then by subst e; exact ⟨by omega,λ _=>by omega⟩ else z2 k (by omega) hrk
theorem read_l_whose:∀ ws M Q,sp_l_whose ws M Q->t_l_whose { nx:=λ _ M'=>Q (.d .none) M',rt:=Q } (startD N_l_whose ws) M:=by
 rintro ws M Q ⟨S,m,w,h,u,t,rfl,hO,H,k⟩
 have sl:=s16
 have wp:=wn_pos hO
 have h4:=hO.len
 refine ⟨_,rfl,m,_,.inr "shares",_,rfl,.inl H.hm,rfl,mk_sh,_,rfl,?_⟩
 rw [List.map_map]
 refine lc_rows S (W.d ∘ rowD) (λ r=>.int (r.2:Nat)) (λ τ=>∃ x y,τ=[x,y]) (by omega) ⟨_,_,rfl⟩ (λ r hr τ hτ R h=>?_) (λ τ=>?_)
 ·obtain ⟨x,y,rfl⟩:=hτ
  exact ⟨_,rfl,rfl,_,_,rfl,_,_,rfl,rfl,_,rfl,_,rfl,h _ ⟨_,_,rfl⟩⟩
 have es:(S.map λ r=>PyData.int ((r.2:Nat):Int))=(ss S).map PyData.int:=by simp [ss]
 refine ⟨_,ss S,rfl,by rw [es]; exact .d,by simp [ss]; omega,λ n hn=>?_,?_⟩
 ·obtain ⟨r,hr,rfl⟩:=List.mem_map.mp hn
  have:=(hO.row r hr).2
  omega
 rw [ss_sum]
 refine ⟨_,rfl,m,_,.inr "shares",_,rfl,.inl H.hm,rfl,mk_sh,_,_,rfl,rfl,rfl,_,rfl,by omega,?_,?_⟩
 ·rw [List.length_map]; omega
 rw [List.length_map]
 refine ⟨λ i τ M'=>M'=M/\∃ b x3 x4 x5 x6,BeI S t i b/\τ=[some (.m m),some (.d (.int ((wn S:Nat):Int))),some b,x3,x4,x5,x6],⟨rfl,_,_,_,_,_,.no λ j hj=>absurd hj (Nat.not_lt_zero _),rfl⟩,?_,?_⟩
 ·rintro i w' τ M' hw ⟨rfl,b,x3,x4,x5,x6,hb,rfl⟩
  obtain ⟨hi,rfl⟩:=rng_at hw
  have hi:i < S.length:=by simpa using hi
  rw [Int.zero_add]
  obtain ⟨r,hr⟩:∃ r,S[i]? = some r:=⟨_,List.getElem?_eq_getElem hi⟩
  have hrow:=hO.row r (List.mem_of_getElem? hr)
  have hsv:=sv_at hr
  refine ⟨_,rfl,m,_,.inr "shares",_,rfl,.inl H.hm,rfl,mk_sh,_,rfl,_,_,rfl,shr_at hr,rfl,1,_,rfl,rfl,rfl,?_⟩
  refine ⟨_,rfl,m,_,.inr "had",_,rfl,.inl H.hm,rfl,mk_h,_,rfl,_,_,rfl,had_at hO H.hh hi,rfl,?_⟩
  have cm:∀ z:Int,CMul z ((wn S:Nat):Int):=λ z=>.inr ⟨by omega,by omega⟩
  have cd:∀ z:Int,CDiv z ((r.2:Nat):Int):=λ z=>⟨by omega,by omega⟩
  refine ⟨_,rfl,.inl ⟨_,_,rfl,rfl,_,rfl,_,_,rfl,rfl,cm _,_,_,rfl,rfl,_,rfl,_,_,rfl,rfl,cd _,.inl ⟨_,_,rfl,rfl,?_⟩⟩⟩
  have eD:((cv (st S t) i+1) * ((wn S:Nat):Int) - 1) / ((r.2:Nat):Int)+1=Du S (st S t) i:=by
   unfold Du
   rw [hsv,due_eq (by omega)]
  refine ⟨_,rfl,_,rfl,_,_,rfl,rfl,cm _,_,rfl,_,_,rfl,rfl,cd _,_,rfl,m,_,.inr "slot",_,rfl,.inl H.hm,rfl,mk_t,.inl ⟨_,_,rfl,rfl,_,rfl,?_⟩⟩
  have eR:Rl S (st S t) t i ↔ cv (st S t) i * ((wn S:Nat):Int) / ((r.2:Nat):Int)<=(t:Int):=by unfold Rl; rw [hsv]
  refine ite_b (λ hh=>?_) (λ hh=>?_)
  ·have hR:=eR.mpr (of_decide_eq_true hh)
   refine ⟨_,rfl,rfl,_,rfl,?_⟩
   cases hb with
   | no z =>
    have B:=BeI.first z hR
    rw [<- eD] at B
    exact iteT (iteT ⟨_,rfl,_,rfl,_,rfl,few (by simp),rfl,_,_,_,_,_,B,rfl⟩)
   | yes j z0 z1 z2 =>
    refine iteF ⟨_,rfl,_,rfl,0,_,rfl,rfl,rfl,_,_,rfl,rfl,_,rfl,ite_b (λ hl=>?_) (λ hl=>?_)⟩
    ·have B:=BeI.new z0 z2 hR (by rw [<- eD]; exact of_decide_eq_true hl)
     rw [<- eD] at B
     exact ⟨_,rfl,_,rfl,_,rfl,few (by simp),rfl,_,_,_,_,_,B,rfl⟩
    ·exact ⟨rfl,_,_,_,_,_,.same z0 z1 z2 (by rw [<- eD]; exact of_decide_eq_false hl),rfl⟩
  ·exact iteF ⟨rfl,_,_,_,_,_,hb.old λ z=>of_decide_eq_false hh (eR.mp z),rfl⟩
 ·rintro τ M' ⟨rfl,b,x3,x4,x5,x6,hb,rfl⟩
  have el:(rangeW 0 ((S.length:Nat):Int).toNat).length=S.length:=by simp [rangeW]
  rw [el] at hb
  have B:=st_best hO t
  cases hb with
  | no z=>exact absurd B.2.1 (z _ B.1)
  | yes j z0 z1 z2 =>
   have ej:own S t=j:=pk_of ⟨z0,z1,z2⟩
   refine ⟨_,rfl,rfl,_,rfl,iteF ⟨_,rfl,1,_,rfl,rfl,rfl,?_⟩⟩
   rw [<- ej]
   exact k
noncomputable def sp_Door_slot:SpD:=λ ws M Q=>∃ (d q r:Addr) (t:Int) (v:W),ws=[.m d]/\M d=some (.ins C_Door (FD q r t v))/\Q (.d (.int t)) M
theorem len_Door_slot:∀ ws M Q,sp_Door_slot ws M Q->ws.length=1:=by rintro ws M Q ⟨d,q,r,t,v,rfl,_⟩; rfl
theorem read_Door_slot:∀ ws M Q,sp_Door_slot ws M Q->t_Door_slot { nx:=λ _ M'=>Q (.d .none) M',rt:=Q } (startD N_Door_slot ws) M:=by
 rintro ws M Q ⟨d,q,r,t,v,rfl,hd,k⟩
 exact ⟨_,rfl,d,_,_,rfl,hd,fd_t,k⟩
inductive Sp_l_let_in (ws:List W) (M:MH) (Q:QD):Prop
 | mk (S:Sh) (m w h:Addr) (u:List Int) (t:Nat) (i:Nat) (z:Str) (n:Int) (z0:ws=[.m m,.d (.str z),.d (.int n)]) (z1:OkS S) (z2:Mo M S m w h u t) (z3:(nmL S)[i]? = some z) (z4:cv u i<=40) (z5:0<=n) (z6:Q (.d (.int (lin n (cv u i)))) (updM M w (.dic (kvL (nmL S) (u.set i (cv u i+lin n (cv u i))))))):Sp_l_let_in ws M Q
noncomputable def sp_l_let_in:SpD:=Sp_l_let_in
theorem len_l_let_in:∀ ws M Q,sp_l_let_in ws M Q->ws.length=3:=by rintro ws M Q ⟨S,m,w,h,u,t,i,z,n,rfl,_⟩; rfl
theorem read_l_let_in:∀ ws M Q,sp_l_let_in ws M Q->t_l_let_in { nx:=λ _ M'=>Q (.d .none) M',rt:=Q } (startD N_l_let_in ws) M:=by
 rintro ws M Q ⟨S,m,w,h,u,t,i,z,n,rfl,hO,H,hz,hu,hn,k⟩
 have sl:=s16
 have h4:=hO.len
 have get:=H.get hO hz
 have nl:(nmL S).length=u.length:=by rw [H.lu]; simp [nmL]
 refine ⟨_,rfl,_,rfl,m,_,.inr "waits",_,rfl,.inl H.hm,rfl,mk_w,_,rfl,w,_,.inr z,_,rfl,.inl H.hw,rfl,get,_,_,rfl,rfl,_,_,rfl,?_⟩
 have el:(if 40 - cv u i < n then 40 - cv u i else n)=lin n (cv u i):=by
  unfold lin
  split <;> (rw [if_neg (by omega)])
 rw [el]
 refine ⟨_,rfl,m,_,.inr "waits",_,rfl,.inl H.hm,rfl,mk_w,_,rfl,w,_,.inr z,_,rfl,.inl H.hw,rfl,get,_,rfl,.inl ⟨_,_,rfl,rfl,_,rfl,m,_,.inr "waits",_,rfl,.inl H.hm,rfl,mk_w,_,rfl,w,_,.inr z,rfl,H.hw,rfl,?_,?_⟩⟩
 ·have:=kvL_len S u
  omega
 refine ⟨_,rfl,?_⟩
 show Q (.d (.int (lin n (cv u i)))) (updM M w (.dic (tput (kvL (nmL S) u) (.inr z) (.d (.int (cv u i+lin n (cv u i)))))))
 rw [kvL_put (N:=nmL S) hO.nd nl hz]
 exact k
noncomputable def zz (S:Sh):List Int:=List.replicate S.length 0
theorem zlistW:∀ S:Sh,(S.map λ _=>PyData.int 0).map W.d=intsW (st S 0)
 | []=>rfl
 | _ :: S=>by
  have:=zlistW S
  show W.d (.int 0) :: _=W.d (.int 0) :: _
  rw [this]
  rfl
theorem zz_cv (S:Sh)(i:Nat):cv (zz S) i=0:=st_zero S i
theorem Ext.none {M M':MH}{a:Addr}(x:Ext M M')(h:M' a=none):M a=none:=by
 cases e:M a with
 | none=>rfl
 | some o=>rw [x _ _ e] at h; cases h
inductive Sp_l_model (ws:List W) (M:MH) (Q:QD):Prop
 | mk (S:Sh) (z0:ws=[.d (shD S)]) (z1:OkS S) (z2:∀ m w h M',M m=none->M w=none->M h=none->Mo M' S m w h (zz S) 0->Ext M M'->Q (.m m) M'):Sp_l_model ws M Q
noncomputable def sp_l_model:SpD:=Sp_l_model
theorem len_l_model:∀ ws M Q,sp_l_model ws M Q->ws.length=1:=by rintro ws M Q ⟨S,rfl,_⟩; rfl
theorem read_l_model:∀ ws M Q,sp_l_model ws M Q->t_l_model { nx:=λ _ M'=>Q (.d .none) M',rt:=Q } (startD N_l_model ws) M:=by
 rintro ws M Q ⟨S,rfl,hO,k⟩
 have sl:=s16
 have h4:=hO.len
 refine λ m hm=>?_
 refine ⟨_,rfl,_,_,rfl,.l,λ f hf=>⟨f,S.map rowD,rfl,updM_same,?_⟩⟩
 have x2:Ext (updM M m (.dic [])) (delM (updM (updM M m (.dic [])) f (.lst ((S.map rowD).map W.d))) f):=sealed hf
 generalize delM (updM (updM M m (.dic [])) f (.lst ((S.map rowD).map W.d))) f=M2 at x2
 refine λ w hw=>⟨_,rfl,_,rfl,?_⟩
 rw [List.map_map]
 refine lc_rows S (W.d ∘ rowD) (λ _=>.int 0) (λ τ=>∃ x,τ=[x]) (by omega) ⟨_,rfl⟩ (λ r hr τ hτ R h=>?_) (λ τ h hh=>?_)
 ·obtain ⟨x,rfl⟩:=hτ
  exact ⟨_,rfl,h _ ⟨_,rfl⟩⟩
 rw [zlistW]
 have x0:Ext M (updM M m (.dic [])):=Ext.new hm
 have x3:Ext M2 (updM M2 w (.dic [])):=Ext.new hw
 have x4:Ext (updM M2 w (.dic [])) (updM (updM M2 w (.dic [])) h (.lst (intsW (st S 0)))):=Ext.new hh
 have m4:=x4 _ _ (x3 _ _ (x2 m _ updM_same))
 have w4:=x4 w _ updM_same
 have h4':updM (updM M2 w (.dic [])) h (.lst (intsW (st S 0))) h=some (.lst (intsW (st S 0))):=updM_same
 have mw:m≠w:=ne_new (x2 m _ updM_same) hw
 have mh:m≠h:=ne_new (x3 _ _ (x2 m _ updM_same)) hh
 have wh:w≠h:=ne_new (M:=updM M2 w (.dic [])) updM_same hh
 have hwM:=(x0.trans x2).none hw
 have hhM:=((x0.trans x2).trans x3).none hh
 have x04:=((x0.trans x2).trans x3).trans x4
 generalize updM (updM M2 w (.dic [])) h (.lst (intsW (st S 0)))=M4 at m4 w4 h4' x04
 refine ⟨m4,mK S w h 0,rfl,(by show 5<=15; decide),(show ([.inr "shares",.inr "waits",.inr "had",.inr "slot",.inr "last"]:List Key).Nodup from by decide +kernel),?_⟩
 refine ⟨_,rfl,_,rfl,?_⟩
 refine ⟨λ i τ M'=>M' w=some (.dic (kvL ((nmL S).take i) (List.replicate i 0)))/\(∀ b,b≠w->M' b=updM M4 m (.dic (mK S w h 0)) b)/\∃ x2 x3,τ=[some (.d (shD S)),some (.m m),x2,x3],⟨by rw [updM_ne mw.symm]; exact w4,λ _ _=>rfl,_,_,rfl⟩,?_,?_⟩
 ·rintro i w' τ M' hw' ⟨e1,e2,x2,x3,rfl⟩
  rw [List.map_map] at hw'
  obtain ⟨r,hr,rfl⟩:=map_at hw'
  have hi:=(List.getElem?_eq_some_iff.mp hr).1
  obtain ⟨hn,_⟩:=nm_at hr
  refine ⟨_,rfl,rfl,_,_,rfl,_,_,rfl,rfl,?_⟩
  refine ⟨_,rfl,m,_,.inr "waits",_,rfl,.inl (by rw [e2 m mw,updM_same]),rfl,mk_w,_,rfl,w,_,.inr r.1,rfl,e1,rfl,?_,?_,λ b hb=>?_,_,_,rfl⟩
  ·have:(kvL ((nmL S).take i) (List.replicate i 0)).length<=i:=by simp [kvL]; omega
   omega
  ·have ht:(nmL S).take (i+1)=(nmL S).take i++[r.1]:=by rw [List.take_succ,hn]; rfl
   rw [updM_same,kvL_snoc (N:=(nmL S).take i) (by rw [List.length_take]; simp [nmL]; omega) (nd_take hO.nd hn),ht]
  ·rw [updM_ne hb]; exact e2 b hb
 ·rintro τ M' ⟨e1,e2,x2,x3,rfl⟩
  have et:(nmL S).take ((S.map rowD).map W.d).length=nmL S:=List.take_of_length_le (by simp [nmL])
  rw [et] at e1
  refine ⟨_,rfl,k m w h M' hm hwM hhM ⟨by rw [e2 m mw,updM_same]; rfl,?_,by rw [e2 h wh.symm,updM_ne mh.symm]; exact h4',by simp [zz],mw⟩ λ b o e=>?_⟩
  ·rw [e1]; simp [zz]
  ·rw [e2 b (ne_new e hwM),updM_ne (ne_new e hm)]
   exact x04 b o e
noncomputable def sp_l_begun:SpD:=λ ws M Q=>∃ (S:Sh) (m w h:Addr) (t:Int),ws=[.m m]/\OkS S/\M m=some (.dic (mK S w h t))/\∀ h' M',M h'=none->M' m=some (.dic (mK S w h' 0))->M' h'=some (.lst (intsW (st S 0)))->Fr M M' m->Q (.d .none) M'
theorem len_l_begun:∀ ws M Q,sp_l_begun ws M Q->ws.length=1:=by rintro ws M Q ⟨S,m,w,h,t,rfl,_⟩; rfl
theorem read_l_begun:∀ ws M Q,sp_l_begun ws M Q->t_l_begun { nx:=λ _ M'=>Q (.d .none) M',rt:=Q } (startD N_l_begun ws) M:=by
 rintro ws M Q ⟨S,m,w,h,t,rfl,hO,hm,k⟩
 have sl:=s16
 have h4:=hO.len
 refine ⟨_,rfl,m,_,.inr "shares",_,rfl,.inl hm,rfl,mk_sh,_,rfl,?_⟩
 rw [List.map_map]
 refine lc_rows S (W.d ∘ rowD) (λ _=>.int 0) (λ τ=>∃ x,τ=[x]) (by omega) ⟨_,rfl⟩ (λ r hr τ hτ R h=>?_) (λ τ h' hh=>?_)
 ·obtain ⟨x,rfl⟩:=hτ
  exact ⟨_,rfl,h _ ⟨_,rfl⟩⟩
 rw [zlistW]
 have mh:=ne_new hm hh
 refine ⟨_,rfl,m,_,.inr "had",rfl,upd_get hm hh,rfl,(by show 5 < sizeLine; omega),_,rfl,m,_,.inr "slot",rfl,updM_same,rfl,(by show 5 < sizeLine; omega),?_⟩
 refine k h' _ hh updM_same ?_ λ b o n e=>?_
 ·rw [updM_ne mh.symm,updM_ne mh.symm,updM_same]
 ·rw [updM_ne n,updM_ne n,updM_ne (ne_new e hh)]; exact e
inductive Sp_l_reshared (ws:List W) (M:MH) (Q:QD):Prop
 | mk (S S':Sh) (m w h:Addr) (t:Int) (kvs:List (Key×W)) (u:List Int) (z0:ws=[.m m,.d (shD S')]) (z1:OkS S') (z2:M m=some (.dic (mK S w h t))) (z3:M w=some (.dic kvs)) (z4:u.length=S'.length) (z5:∀ i z,(nmL S')[i]? = some z->(tget kvs (.inr z)).getD (.d (.int 0))=.d (.int (cv u i)))
  (z6:∀ w' h' M',M w'=none->M h'=none->Mo M' S' m w' h' u 0->Fr M M' m->Q (.d .none) M'):Sp_l_reshared ws M Q
noncomputable def sp_l_reshared:SpD:=Sp_l_reshared
theorem len_l_reshared:∀ ws M Q,sp_l_reshared ws M Q->ws.length=2:=by rintro ws M Q ⟨S,S',m,w,h,t,kvs,u,rfl,_⟩; rfl
theorem read_l_reshared:∀ ws M Q,sp_l_reshared ws M Q->t_l_reshared sp_l_begun { nx:=λ _ M'=>Q (.d .none) M',rt:=Q } (startD N_l_reshared ws) M:=by
 rintro ws M Q ⟨S,S',m,w,h,t,kvs,u,rfl,hO,hm,hw,lu,hu,k⟩
 have sl:=s16
 have h4:=hO.len
 have nl:(nmL S').length=S'.length:=by simp [nmL]
 have nd:(nmL S').Nodup:=hO.nd
 refine λ c hc=>⟨_,rfl,_,rfl,?_⟩
 have mc:=ne_new hm hc
 have wc:=ne_new hw hc
 refine ⟨λ i τ M'=>M' c=some (.dic (kvL ((nmL S').take i) (u.take i)))/\(∀ b,b≠c->M' b=M b)/\∃ x3 x4,τ=[some (.m m),some (.d (shD S')),some (.m c),x3,x4],⟨updM_same,λ b hb=>updM_ne hb,_,_,rfl⟩,?_,?_⟩
 ·rintro i w' τ M' hw' ⟨e1,e2,x3,x4,rfl⟩
  rw [List.map_map] at hw'
  obtain ⟨r,hr,rfl⟩:=map_at hw'
  have hi:=(List.getElem?_eq_some_iff.mp hr).1
  obtain ⟨hn,_⟩:=nm_at hr
  have hm':M' m=some (.dic (mK S w h t)):=by rw [e2 m mc]; exact hm
  have hw2:M' w=some (.dic kvs):=by rw [e2 w wc]; exact hw
  refine ⟨_,rfl,rfl,_,_,rfl,_,_,rfl,rfl,?_⟩
  refine ⟨_,rfl,m,_,.inr "waits",_,rfl,.inl hm',rfl,mk_w,.k hw2,_,rfl,_,.k (k:=.inr r.1) hw2,_,rfl,_,rfl,c,_,.inr r.1,rfl,e1,rfl,?_,?_,λ b hb=>?_,_,_,rfl⟩
  ·have:(kvL ((nmL S').take i) (u.take i)).length<=i:=by simp [kvL]; omega
   omega
  ·have ht:(nmL S').take (i+1)=(nmL S').take i++[r.1]:=by rw [List.take_succ,hn]; rfl
   have hu':u.take (i+1)=u.take i++[cv u i]:=by rw [List.take_succ,cv_at (by omega)]; rfl
   rw [updM_same,hu i r.1 hn,kvL_app (by rw [List.length_take,List.length_take]; omega) (nd_take nd hn),ht,hu']
  ·rw [updM_ne hb]; exact e2 b hb
 rintro τ M1 ⟨e1,e2,x3,x4,rfl⟩
 have et:(nmL S').take ((S'.map rowD).map W.d).length=nmL S':=List.take_of_length_le (by simp [nmL])
 have eu:u.take ((S'.map rowD).map W.d).length=u:=List.take_of_length_le (by simp [lu])
 rw [et,eu] at e1
 have hm1:M1 m=some (.dic (mK S w h t)):=by rw [e2 m mc]; exact hm
 refine ⟨_,rfl,m,_,rfl,hm1,λ e he=>?_⟩
 have me:=ne_new hm1 he
 have ce:=ne_new e1 he
 refine ⟨_,rfl,_,_,rfl,.l,λ f hf=>⟨f,S'.map rowD,rfl,updM_same,_,rfl,?_⟩⟩
 have x2:Ext (updM M1 e (.dic [])) (delM (updM (updM M1 e (.dic [])) f (.lst ((S'.map rowD).map W.d))) f):=sealed hf
 generalize delM (updM (updM M1 e (.dic [])) f (.lst ((S'.map rowD).map W.d))) f=M2 at x2
 have x1:Ext M1 M2:=(Ext.new he).trans x2
 refine ⟨x2 e _ updM_same,[(.inr "shares",.d (shD S')),(.inr "waits",.m c)],rfl,(by show 2<=15; decide),(show ([.inr "shares",.inr "waits"]:List Key).Nodup from by decide +kernel),?_⟩
 refine ⟨e,mK S w h t,_,rfl,by rw [updM_ne me]; exact x1 _ _ hm1,updM_same,me,(by show 5+2<=sizeLine; omega),?_⟩
 rw [mm_sw]
 refine ⟨_,rfl,S',m,c,h,t,rfl,hO,updM_same,λ h' M' hh' a1 a2 fr=>?_⟩
 have old:∀ b o,b≠m->M1 b=some o->M' b=some o:=λ b o n z=>fr b o n (by rw [updM_ne n,updM_ne (ne_new z he)]; exact x1 _ _ z)
 have hM:M h'=none:=by
  cases q:M h' with
  | none=>rfl
  | some o =>
   have n1:h'≠m:=λ z=>by rw [z,updM_same] at hh'; cases hh'
   have n2:h'≠c:=ne_new q hc
   have q1:M1 h'=some o:=by rw [e2 h' n2]; exact q
   rw [updM_ne n1,updM_ne (ne_new q1 he),x1 _ _ q1] at hh'
   cases hh'
 refine k c h' M' hc hM ⟨a1,old c _ mc.symm e1,a2,lu,mc⟩ λ b o n z=>old b o n ?_
 rw [e2 b (ne_new z hc)]; exact z
theorem sum_zero:∀ {u:List Int},(∀ i,cv u i=0)->u.sum=0
 | [],_=>rfl
 | a :: u,h=>by
  have h0:a=0:=h 0
  have:=sum_zero (u:=u) λ i=>h (i+1)
  rw [List.sum_cons,h0,this]
  rfl
theorem sum_nn:∀ {u:List Int},(∀ i,0<=cv u i)->0<=u.sum
 | [],_=>Int.le_refl _
 | a :: u,h=>by
  have h0:0<=a:=h 0
  have:=sum_nn (u:=u) λ i=>h (i+1)
  rw [List.sum_cons]
  omega
theorem sum_pos:∀ {u:List Int} {j:Nat},(∀ i,0<=cv u i)->0 < cv u j->0 < u.sum
 | [],j,_,h=>by simp [cv] at h
 | a :: u,0,h,hj=>by
  have h0:0 < a:=hj
  have:=sum_nn (u:=u) λ i=>h (i+1)
  rw [List.sum_cons]
  omega
 | a :: u,j+1,h,hj=>by
  have h0:0<=a:=h 0
  have:=sum_pos (u:=u) (j:=j) (λ i=>h (i+1)) hj
  rw [List.sum_cons]
  omega
theorem st_set {S:Sh}(t:Nat):(intsW (st S t)).set (own S t) (.d (.int (cv (st S t) (own S t)+1)))=intsW (st S (t+1)):=by
 show _=intsW ((st S t).set (pk S (st S t) t) (cv (st S t) (pk S (st S t) t)+1))
 unfold intsW own
 rw [List.map_set]
inductive Sp_l_use (ws:List W) (M:MH) (Q:QD):Prop
 | mk (S:Sh) (m w h:Addr) (u:List Int) (t:Nat) (z0:ws=[.m m]) (z1:OkS S) (z2:Mo M S m w h u t) (z3:(∀ i,0<=cv u i)) (z4:(((∀ i,cv u i=0)/\Q (.d .none) M)\/∃ k j,k < S.length/\j=(own S t+k) % S.length/\0 < cv u j/\(∀ k',k' < k->cv u ((own S t+k') % S.length)=0) /\
   ∀ M',Mo M' S m w h (u.set j (cv u j - 1)) (t+1)->(∀ b o,b≠m->b≠w->b≠h->M b=some o->M' b=some o)->Q (.d (.str (nmS S j))) M')):Sp_l_use ws M Q
noncomputable def sp_l_use:SpD:=Sp_l_use
theorem len_l_use:∀ ws M Q,sp_l_use ws M Q->ws.length=1:=by rintro ws M Q ⟨S,m,w,h,u,t,rfl,_⟩; rfl
theorem read_l_use:∀ ws M Q,sp_l_use ws M Q->t_l_use sp_l_whose { nx:=λ _ M'=>Q (.d .none) M',rt:=Q } (startD N_l_use ws) M:=by
 rintro ws M Q ⟨S,m,w,h,u,t,rfl,hO,H,h0,k⟩
 have sl:=s16
 have h4:=hO.len
 refine ⟨_,rfl,m,_,.inr "waits",_,rfl,.inl H.hm,rfl,mk_w,w,_,u,rfl,H.hw,kvL_vals (by rw [H.lu]; simp [nmL]),_,_,.d,.d,int_ok2 _ _,_,rfl,?_⟩
 rw [eqv_int']
 rcases k with ⟨hz,k⟩ | ⟨kk,j,hk,hj,hp,hn,k⟩
 ·exact ite_y (decide_eq_true (sum_zero hz)) k
 refine ite_n (decide_eq_false (by have:=sum_pos h0 hp; omega)) ?_
 refine ⟨_,rfl,S,m,w,h,u,t,rfl,hO,H,?_⟩
 have ho:=own_lt hO t
 refine ⟨_,rfl,m,_,.inr "had",_,rfl,.inl H.hm,rfl,mk_h,_,rfl,_,_,rfl,had_at hO H.hh ho,rfl,.inl ⟨_,_,rfl,rfl,_,rfl,m,_,.inr "had",_,rfl,.inl H.hm,rfl,mk_h,_,rfl,h,_,_,own S t,rfl,rfl,H.hh,?_,?_⟩⟩
 ·rw [ixN_nat (by omega) (by simp [intsW,(st_ok hO t).len]; omega)]
  rfl
 show dSeq _ _ _ _ (updM M h (.lst ((intsW (st S t)).set (own S t) (.d (.int (cv (st S t) (own S t)+1))))))
 rw [st_set]
 have hm1:updM M h (.lst (intsW (st S (t+1)))) m=some (.dic (mK S w h t)):=by rw [updM_ne H.mh]; exact H.hm
 refine ⟨_,rfl,m,_,.inr "slot",_,rfl,.inl hm1,rfl,mk_t,.inl ⟨_,_,rfl,rfl,_,rfl,m,_,.inr "slot",rfl,hm1,rfl,(by show 5 < sizeLine; omega),?_⟩⟩
 have H2:Mo (updM (updM M h (.lst (intsW (st S (t+1))))) m (.dic (mK S w h ((t:Int)+1)))) S m w h u (t+1) :=
  ⟨updM_same,by rw [updM_ne H.ne.symm,updM_ne H.wh]; exact H.hw,by rw [updM_ne H.mh.symm,updM_same],H.lu,H.ne⟩
 have fr2:∀ b o,b≠m->b≠h->M b=some o->updM (updM M h (.lst (intsW (st S (t+1))))) m (.dic (mK S w h ((t:Int)+1))) b=some o:=λ b o n1 n2 e=>by rw [updM_ne n1,updM_ne n2]; exact e
 show dSeq _ _ _ _ (updM (updM M h (.lst (intsW (st S (t+1))))) m (.dic (mK S w h ((t:Int)+1))))
 generalize updM (updM M h (.lst (intsW (st S (t+1))))) m (.dic (mK S w h ((t:Int)+1)))=M2 at H2 fr2
 refine ⟨_,rfl,m,_,.inr "shares",_,rfl,.inl H2.hm,rfl,mk_sh,_,_,rfl,rfl,rfl,?_⟩
 rw [List.length_map]
 refine ⟨_,rfl,_,rfl,by omega,by omega,?_⟩
 refine ⟨λ i τ M'=>M'=M2/\i<=kk/\∃ x3 x4,τ=[some (.m m),some (.d (.int (own S t:Nat))),some (.d (.int (S.length:Nat))),x3,x4],⟨rfl,Nat.zero_le _,_,_,rfl⟩,?_,?_⟩
 ·rintro i w' τ M' hw ⟨rfl,hik,x3,x4,rfl⟩
  obtain ⟨hi,rfl⟩:=rng_at hw
  rw [Int.zero_add]
  have hjn:(own S t+i) % S.length < S.length:=Nat.mod_lt _ (by omega)
  obtain ⟨r,hr⟩:∃ r,S[(own S t+i) % S.length]? = some r:=⟨_,List.getElem?_eq_getElem hjn⟩
  have hix:ixW M' (.d (shD S)) ((((own S t:Nat):Int)+(i:Int)) % ((S.length:Nat):Int))=some (.d (rowD r)):=by
   rw [show (((own S t:Nat):Int)+(i:Int)) % ((S.length:Nat):Int)=(((own S t+i) % S.length:Nat):Int) by simp]
   exact shr_at hr
  obtain ⟨hnm,hns⟩:=nm_at hr
  have get:=H2.get hO hnm
  refine ⟨_,rfl,m,_,.inr "shares",_,rfl,.inl H2.hm,rfl,mk_sh,_,rfl,_,rfl,.inl ⟨_,_,rfl,rfl,_,rfl,_,_,rfl,rfl,by omega,_,_,rfl,hix,rfl,0,_,rfl,rfl,rfl,?_⟩⟩
  refine ⟨_,rfl,m,_,.inr "waits",_,rfl,.inl H2.hm,rfl,mk_w,_,rfl,w,_,.inr r.1,_,rfl,.inl H2.hw,rfl,get,_,_,rfl,rfl,_,rfl,?_⟩
  by_cases e:i=kk
  ·subst e
   rw [<- hj]
   rw [<- hj] at hnm hns
   refine ite_y (decide_eq_true hp) ?_
   refine ⟨_,rfl,m,_,.inr "waits",_,rfl,.inl H2.hm,rfl,mk_w,_,rfl,w,_,.inr r.1,_,rfl,.inl H2.hw,rfl,H2.get hO hnm,_,_,rfl,rfl,_,rfl,m,_,.inr "waits",_,rfl,.inl H2.hm,rfl,mk_w,_,rfl,w,_,.inr r.1,rfl,H2.hw,rfl,?_,_,rfl,?_⟩
   ·have:=kvL_len S u
    omega
   ·show Q (.d (.str r.1)) (updM M' w (.dic (tput (kvL (nmL S) u) (.inr r.1) (.d (.int (cv u j - 1))))))
    rw [kvL_put (N:=nmL S) hO.nd (by rw [H.lu]; simp [nmL]) hnm,<- hns]
    refine k _ ⟨by rw [updM_ne H.ne]; exact H2.hm,updM_same,by rw [updM_ne H.wh.symm]; exact H2.hh,by rw [List.length_set]; exact H.lu,H.ne⟩ λ b o n1 n2 n3 z=>?_
    rw [updM_ne n2]
    exact fr2 b o n1 n3 z
  ·have hlt:i < kk:=by omega
   refine ite_n (decide_eq_false (by have:=hn i hlt; omega)) ⟨rfl,by omega,_,_,rfl⟩
 ·rintro τ M' ⟨rfl,hik,x3,x4,rfl⟩
  have el:(rangeW 0 ((S.length:Nat):Int).toNat).length=S.length:=by simp [rangeW]
  rw [el] at hik
  omega
inductive Sp_l_stands (ws:List W) (M:MH) (Q:QD):Prop
 | mk (S:Sh) (d q r m w h:Addr) (u:List Int) (t:Nat) (v:W) (z0:ws=[.m d,.m m]) (z1:OkS S) (z2:Dr M S d q r u t v) (z3:Mo M S m w h u t) (z4:q≠w) (z5:t<=1000) (z6:Q (.d (.bool true)) M):Sp_l_stands ws M Q
noncomputable def sp_l_stands:SpD:=Sp_l_stands
theorem len_l_stands:∀ ws M Q,sp_l_stands ws M Q->ws.length=2:=by rintro ws M Q ⟨S,d,q,r,m,w,h,u,t,v,rfl,_⟩; rfl
theorem read_l_stands:∀ ws M Q,sp_l_stands ws M Q->t_l_stands sp_l_whose sp_Door_slot sp_Door_owner sp_Door_waits { nx:=λ _ M'=>Q (.d .none) M',rt:=Q } (startD N_l_stands ws) M:=by
 rintro ws M Q ⟨S,d,q,r,m,w,h,u,t,v,rfl,hO,D,H,qw,ht,k⟩
 have sl:=s16
 have h4:=hO.len
 have ho:=own_lt hO t
 obtain ⟨rr,hr⟩:∃ rr,S[own S t]? = some rr:=⟨_,List.getElem?_eq_getElem ho⟩
 obtain ⟨hnm,hns⟩:=nm_at hr
 refine ⟨_,rfl,S,m,w,h,u,t,rfl,hO,H,?_⟩
 refine ⟨_,rfl,m,_,.inr "slot",_,rfl,.inl H.hm,rfl,mk_t,_,rfl,rfl,_,rfl,iteF ⟨_,rfl,m,_,.inr "shares",_,rfl,.inl H.hm,rfl,mk_sh,_,rfl,_,_,rfl,shr_at hr,rfl,0,_,rfl,rfl,rfl,_,rfl,few (by simp),?_⟩⟩
 have ok:okD 1 (.list [.int (t:Nat),.str rr.1])=true:=by
  simp only [okD,okA,Bool.and_eq_true,decide_eq_true_eq,and_true]
  exact ⟨by omega,wd_asc (nm_word hO hnm)⟩
 refine ⟨_,rfl,d,_,rfl,D.hd,fd_m7,d,q,r,t,v,rfl,D.hd,_,rfl,d,_,rfl,D.hd,fd_m5,S,d,q,r,u,t,v,rfl,hO,D,?_⟩
 rw [hns]
 refine ⟨_,rfl,few (by simp),_,rfl,_,_,.d,.d,eqOk2_of (k:=1) (by decide) ok ok,_,rfl,?_⟩
 rw [refl_of ok]
 refine iteF ⟨_,rfl,d,_,rfl,D.hd,fd_m7,d,q,r,t,v,rfl,D.hd,_,_,_,rfl,.d,.bool,_,rfl,iteF ?_⟩
 have hw:=H.hw
 rw [kvL_kd] at hw
 have D2:∀ o,Dr (updM M w o) S d q r u t v:=λ o=>⟨by rw [updM_ne (ne_M D.hd H.hw (by intro z; cases z))]; exact D.hd,by rw [updM_ne qw]; exact D.hq,by rw [updM_ne (ne_M D.hr H.hw (by intro z; cases z))]; exact D.hr,D.lu⟩
 have hm2:∀ o,updM M w o m=some (.dic (mK S w h t)):=λ o=>by rw [updM_ne H.ne]; exact H.hm
 refine ⟨w,_,hw,_,rfl,m,_,.inr "waits",_,rfl,.inl (hm2 _),rfl,mk_w,w,kdL (nmL S) u,rfl,updM_same,?_⟩
 refine ⟨λ i acc τ M2=>M2=updM M w (.fdic (dataKV (kdL (nmL S) u)))/\acc=(List.replicate i true).map PyData.bool/\∃ x,τ=[x,some (.m d),some (.m m)],⟨rfl,rfl,_,rfl⟩,?_,?_⟩
 ·rintro i w' acc τ M2 hw' ⟨rfl,rfl,x,rfl⟩
  unfold keysOfW at hw'
  obtain ⟨kp,hkp,rfl⟩:=map_at hw'
  have hi:i < S.length:=by have:=(List.getElem?_eq_some_iff.mp hkp).1; rw [kdL_len H.lu] at this; exact this
  rw [kdL_at H.lu hi] at hkp
  cases hkp
  have get:tget (dataKV (kdL (nmL S) u)) (.inr (nmS S i))=some (.d (.int (cv u i))):=by rw [<- kvL_kd]; exact kvL_get hO.nd (nmL_at hi) (cv_at (by have:=H.lu; omega))
  refine ⟨by simp; omega,_,rfl,d,_,rfl,(D2 _).hd,fd_m3,_,rfl,S,d,q,r,u,_,v,i,nmS S i,rfl,hO,D2 _,nmL_at hi,_,rfl,m,_,.inr "waits",_,rfl,.inl (hm2 _),rfl,mk_w,_,rfl,w,_,.inr (nmS S i),_,rfl,.inr updM_same,rfl,get,_,_,.d,.d,int_ok2 _ _,_,rfl,rfl,?_,_,rfl⟩
  rw [List.replicate_succ',List.map_append,eqv_int',decide_eq_true rfl]
  rfl
 ·rintro acc τ M2 ⟨rfl,rfl,x,rfl⟩
  refine ⟨updM_same,_,rfl,?_⟩
  rw [upd_back hw]
  have ea:∀ n:Nat,(List.replicate n true).all id=true:=λ n=>by simp
  rw [ea]
  exact k
theorem lin_bd {n c:Int}(h0:0<=c)(h1:c<=40)(hn:0<=n):0<=c+lin n c/\c+lin n c<=40:=by
 unfold lin
 split <;> split <;> omega
theorem names_eq {S S':Sh}(h:nmL S'=nmL S):S'.length=S.length/\∀ i,nmS S' i=nmS S i:=by
 refine ⟨by have:=congrArg List.length h; simpa [nmL] using this,λ i=>?_⟩
 unfold nmS
 unfold nmL at h
 rw [h]
theorem least {P:Nat->Prop}(dec:∀ k,P k\/¬ P k):∀ m,(∃ k,k < m/\P k)->∃ k,k < m/\P k/\∀ k',k' < k->¬ P k'
 | 0,⟨k,h,_⟩=>absurd h (Nat.not_lt_zero _)
 | m+1,⟨k,h,hp⟩=>by
  rcases dec m with q | q
  ·by_cases e:∃ k,k < m/\P k
   ·obtain ⟨k',h1,h2⟩:=least dec m e
    exact ⟨k',by omega,h2⟩
   ·exact ⟨m,by omega,q,λ k' hk' hp'=>e ⟨k',hk',hp'⟩⟩
  ·have hk:k < m:=by
    rcases Nat.lt_or_ge k m with z | z
    ·exact z
    ·have:k=m:=by omega
     subst this
     exact absurd hp q
   obtain ⟨k',h1,h2⟩:=least dec m ⟨k,hk,hp⟩
   exact ⟨k',by omega,h2⟩
theorem wait_ex {u:List Int}{n o:Nat}(lu:u.length=n)(ho:o < n)(h0:∀ i,0<=cv u i)(hz:¬ ∀ i,cv u i=0):∃ k j,k < n/\j=(o+k) % n/\0 < cv u j/\∀ k',k' < k->cv u ((o+k') % n)=0:=by
 have hi:∃ i,i < n/\0 < cv u i:=by
  refine Classical.byContradiction λ c=>hz λ i=>?_
  by_cases hi:i < n
  ·have:=h0 i
   have:¬ 0 < cv u i:=λ z=>c ⟨i,hi,z⟩
   omega
  ·unfold cv
   rw [List.getD_eq_getElem?_getD,List.getElem?_eq_none (by omega)]
   rfl
 obtain ⟨i,hin,hp⟩:=hi
 have hk:(o+(i+n - o) % n) % n=i:=by
  rcases Nat.lt_or_ge i o with z | z
  ·rw [Nat.mod_eq_of_lt (show i+n - o < n by omega),show o+(i+n - o)=i+n by omega,Nat.add_mod_right,Nat.mod_eq_of_lt hin]
  ·rw [show i+n - o=(i - o)+n by omega,Nat.add_mod_right,Nat.mod_eq_of_lt (show i - o < n by omega),show o+(i - o)=i by omega,Nat.mod_eq_of_lt hin]
 obtain ⟨k,h1,h2,h3⟩:=least (P:=λ k=>0 < cv u ((o+k) % n)) (λ k=>Classical.em _) n ⟨(i+n - o) % n,Nat.mod_lt _ (by omega),by rw [hk]; exact hp⟩
 exact ⟨k,_,h1,rfl,h2,λ k' hk'=>by have:=h0 ((o+k') % n); have:=h3 k' hk'; omega⟩
theorem bag_ne_h {M:MH}{p h:Addr}{c:List Int}(hb:Bag M p)(hh:M h=some (.lst (intsW c))):h≠p:=by
 obtain ⟨a,b,c',ns,e,_⟩:=hb
 intro z
 rw [z,e] at hh
 have e2:=congrArg (λ l=>l[3]?) (MO.lst.inj (Option.some.inj hh))
 simp only [intsW,List.getElem?_map] at e2
 cases hc:c[3]? with
 | none=>rw [hc] at e2; cases e2
 | some x=>rw [hc] at e2; cases e2
structure Jt (M:MH)(S:Sh)(p d q r m w h:Addr)(u:List Int)(t:Nat):Prop where
 B:Bag M p
 C:M C_tb_round_of=some cdR
 D:Dr M S d q r u t (.d .none)
 H:Mo M S m w h u t
 qm:q≠m
 qw:q≠w
 rh:r≠h
 bd:∀ j,0<=cv u j/\cv u j<=40
section
variable {M M':MH}{S:Sh}{p d q r m w h:Addr}{u:List Int}{t:Nat}
theorem Jt.pd (J:Jt M S p d q r m w h u t):d≠p:=bag_ne_dic J.B J.D.hd λ _ z=>nomatch z
theorem Jt.pq (J:Jt M S p d q r m w h u t):q≠p:=bag_ne_dic J.B J.D.hq λ _ z=>nomatch z
theorem Jt.pr (J:Jt M S p d q r m w h u t):r≠p:=bag_ne_dr J.B J.D
theorem Jt.pm (J:Jt M S p d q r m w h u t):m≠p:=bag_ne_dic J.B J.H.hm λ _ z=>nomatch z
theorem Jt.pw (J:Jt M S p d q r m w h u t):w≠p:=bag_ne_dic J.B J.H.hw λ _ z=>nomatch z
theorem Jt.ph (J:Jt M S p d q r m w h u t):h≠p:=bag_ne_h J.B J.H.hh
theorem Jt.pC (J:Jt M S p d q r m w h u t):C_tb_round_of≠p:=bag_ne_dic J.B J.C λ _ z=>nomatch z
theorem Jt.take (J:Jt M S p d q r m w h u t)(b:Bag M' p)(f:∀ a,a≠p->M' a=M a):Jt M' S p d q r m w h u t :=
 ⟨b,by rw [f _ J.pC]; exact J.C,⟨by rw [f _ J.pd]; exact J.D.hd,by rw [f _ J.pq]; exact J.D.hq,by rw [f _ J.pr]; exact J.D.hr,J.D.lu⟩,
  ⟨by rw [f _ J.pm]; exact J.H.hm,by rw [f _ J.pw]; exact J.H.hw,by rw [f _ J.ph]; exact J.H.hh,J.H.lu,J.H.ne⟩,J.qm,J.qw,J.rh,J.bd⟩
theorem Jt.bag {M:MH}{p:Addr}(B:Bag M p)(f:∀ o,M p=some o->M' p=some o):Bag M' p:=by
 obtain ⟨a1,a2,a3,a4,e,z⟩:=B
 exact ⟨a1,a2,a3,a4,f _ e,z⟩
theorem Jt.ext (J:Jt M S p d q r m w h u t)(x:Ext M M'):Jt M' S p d q r m w h u t :=
 ⟨Jt.bag J.B λ o e=>x _ _ e,x _ _ J.C,J.D.ext x,J.H.keep λ b o _ e=>x b o e,J.qm,J.qw,J.rh,J.bd⟩
theorem Jt.asked (J:Jt M S p d q r m w h u t){i:Nat}{n:Int}(hn:0<=n)(hi:i < S.length) :
  Mo (updM M q (.dic (kvL (nmL S) (u.set i (cv u i+lin n (cv u i)))))) S m w h u t /\
  Jt (updM (updM M q (.dic (kvL (nmL S) (u.set i (cv u i+lin n (cv u i)))))) w (.dic (kvL (nmL S) (u.set i (cv u i+lin n (cv u i)))))) S p d q r m w h (u.set i (cv u i+lin n (cv u i))) t:=by
 have dq:=J.D.nq
 have qr:=J.D.qr
 have dw:d≠w:=ne_M J.D.hd J.H.hw (by intro z; cases z)
 have rw':r≠w:=ne_M J.D.hr J.H.hw (by intro z; cases z)
 have hq:h≠q:=ne_M J.H.hh J.D.hq (by intro z; cases z)
 have Cq:C_tb_round_of≠q:=ne_M J.C J.D.hq (by intro z; cases z)
 have Cw:C_tb_round_of≠w:=ne_M J.C J.H.hw (by intro z; cases z)
 refine ⟨⟨by rw [updM_ne J.qm.symm]; exact J.H.hm,by rw [updM_ne J.qw.symm]; exact J.H.hw,by rw [updM_ne hq]; exact J.H.hh,J.H.lu,J.H.ne⟩,
  Jt.bag J.B λ o e=>by rw [updM_ne J.pw.symm,updM_ne J.pq.symm]; exact e,by rw [updM_ne Cw,updM_ne Cq]; exact J.C,
  ⟨by rw [updM_ne dw,updM_ne dq]; exact J.D.hd,by rw [updM_ne J.qw,updM_same],by rw [updM_ne rw',updM_ne qr.symm]; exact J.D.hr,by rw [List.length_set]; exact J.D.lu⟩,
  ⟨by rw [updM_ne J.H.ne,updM_ne J.qm.symm]; exact J.H.hm,updM_same,by rw [updM_ne J.H.wh.symm,updM_ne hq]; exact J.H.hh,by rw [List.length_set]; exact J.H.lu,J.H.ne⟩,J.qm,J.qw,J.rh,λ j=>?_⟩
 rw [cv_set (by rw [J.D.lu]; exact hi)]
 split
 ·have b:=J.bd i
  have:=lin_bd b.1 b.2 hn
  omega
 ·exact J.bd j
end
theorem dseq_rest {a b:TSd}{E:Ed}{τ:DS}{M:MH}(P:MH->Prop)(hb:∀ M',P M'->b E τ M')(ha:(∀ M',P M'->b E τ M')->dSeq a b E τ M):dSeq a b E τ M:=ha hb
inductive Sp_l_deed (ws:List W) (M:MH) (Q:QD):Prop
 | mk (S:Sh) (p d q r m w h:Addr) (u:List Int) (t:Nat) (z0:ws=[.m p,.m d,.m m]) (z1:OkS S) (z2:Jt M S p d q r m w h u t) (z3:∀ S' q' r' w' h' u' t' M',OkS S'->Jt M' S' p d q' r' m w' h' u' t'->t'<=t+1->Q (.d (.bool true)) M'):Sp_l_deed ws M Q
noncomputable def sp_l_deed:SpD:=Sp_l_deed
theorem len_l_deed:∀ ws M Q,sp_l_deed ws M Q->ws.length=3:=by rintro ws M Q ⟨S,p,d,q,r,m,w,h,u,t,rfl,_⟩; rfl
theorem read_l_deed:∀ ws M Q,sp_l_deed ws M Q->t_l_deed sp_l_take sp_Door_ask sp_l_let_in sp_Door_begin sp_l_begun sp_Door_new_shares sp_l_reshared sp_Door_use sp_l_use { nx:=λ _ M'=>Q (.d .none) M',rt:=Q } (startD N_l_deed ws) M:=by
 rintro ws M Q ⟨S,p,d,q,r,m,w,h,u,t,rfl,hO,J,k⟩
 have sl:=s16
 have h4:=hO.len
 have h1:=List.length_pos_iff.mpr hO.ne
 refine ⟨_,rfl,p,12,rfl,J.B,by decide,by decide,λ x M1 x0 x1 b1 f1=>?_⟩
 replace J:=J.take b1 f1
 clear b1 f1
 refine ⟨_,rfl,m,_,.inr "shares",_,rfl,.inl J.H.hm,rfl,mk_sh,_,rfl,?_⟩
 rw [List.map_map]
 refine lc_rows S (W.d ∘ rowD) (λ r=>.str r.1) (λ τ=>∃ x y,τ=[x,y]) (by omega) ⟨_,_,rfl⟩ (λ r hr τ hτ R h=>?_) (λ τ=>?_)
 ·obtain ⟨x,y,rfl⟩:=hτ
  exact ⟨_,rfl,rfl,_,_,rfl,_,_,rfl,rfl,_,rfl,_,rfl,h _ ⟨_,_,rfl⟩⟩
 refine ⟨_,rfl,_,_,rfl,rfl,_,rfl,ite_b (λ _=>?_) (λ _=>?_)⟩
 ·refine ⟨_,rfl,_,rfl,_,rfl,_,_,rfl,rfl,rfl,p,_,rfl,J.B,by rw [List.length_map]; omega,by rw [List.length_map]; omega,λ y M2 y0 y1 b2 f2=>?_⟩
  rw [List.length_map] at y1
  replace J:=J.take b2 f2
  obtain ⟨i,rfl⟩:=Int.eq_ofNat_of_zero_le y0
  have hi:i < S.length:=by omega
  obtain ⟨rr,hr⟩:∃ rr,S[i]? = some rr:=⟨_,List.getElem?_eq_getElem hi⟩
  obtain ⟨hnm,hns⟩:=nm_at hr
  refine ⟨_,_,rfl,ix_map (i:=i) rfl hr,rfl,?_⟩
  refine ⟨_,rfl,p,4,rfl,J.B,by decide,by decide,λ z M3 z0 z1 b3 f3=>.inl ⟨_,_,rfl,rfl,?_⟩⟩
  replace J:=J.take b3 f3
  obtain ⟨H',J'⟩:=J.asked (i:=i) (n:=1+z) (by omega) hi
  refine ⟨_,rfl,d,_,rfl,J.D.hd,fd_m6,_,rfl,_,rfl,S,d,q,r,u,t,.d .none,i,rr.1,1+z,rfl,hO,J.D,hnm,_,rfl,_,rfl,_,rfl,S,m,w,h,u,t,i,rr.1,1+z,rfl,hO,H',hnm,(J.bd i).2,by omega,_,_,.d,.d,int_ok2 _ _,?_⟩
  rw [eqv_int',decide_eq_true rfl]
  exact k S q r w h _ t _ hO J' (by omega)
 refine ⟨_,rfl,_,_,.d,.d,int_ok2 _ _,_,rfl,?_⟩
 rw [eqv_int']
 refine ite_b (λ _=>?_) (λ _=>?_)
 ·refine ⟨_,rfl,_,rfl,?_⟩
  rw [List.map_map]
  refine ⟨λ i τ M'=>(∃ u',Jt M' S p d q r m w h u' t)/\∃ x4 x5 x6 x7 x8,τ=[some (.m p),some (.m d),some (.m m),x4,x5,x6,x7,x8,none],⟨⟨u,J⟩,_,_,_,_,_,rfl⟩,?_,?_⟩
  ·rintro i w' τ M' hw ⟨⟨u',J⟩,x4,x5,x6,x7,x8,rfl⟩
   obtain ⟨rr,hr,rfl⟩:=map_at hw
   have hi:=(List.getElem?_eq_some_iff.mp hr).1
   obtain ⟨hnm,hns⟩:=nm_at hr
   obtain ⟨H',J'⟩:=J.asked (i:=i) (n:=2) (by omega) hi
   refine ⟨_,rfl,d,_,rfl,J.D.hd,fd_m6,_,rfl,S,d,q,r,u',t,.d .none,i,rr.1,2,rfl,hO,J.D,hnm,_,rfl,_,rfl,S,m,w,h,u',t,i,rr.1,2,rfl,hO,H',hnm,(J.bd i).2,by omega,_,_,.d,.d,int_ok2 _ _,_,rfl,?_⟩
   rw [eqv_int',decide_eq_true rfl]
   exact iteF ⟨⟨_,J'⟩,_,_,_,_,_,rfl⟩
  ·rintro τ M' ⟨⟨u',J⟩,x4,x5,x6,x7,x8,rfl⟩
   exact k S q r w h _ t _ hO J (by omega)
 dsimp only [dNext]
 refine dseq_rest (λ M'=>Jt M' S p d q r m w h u t) (λ M2 J=>?_) (λ rest=>?_)
 case refine_2 =>
  refine ⟨_,rfl,_,_,.d,.d,int_ok2 _ _,_,rfl,?_⟩
  rw [eqv_int']
  refine ite_b (λ _=>?_) (λ _=>iteF (rest _ J))
  refine ⟨_,rfl,p,3,rfl,J.B,by decide,by decide,λ y M2 y0 y1 b2 f2=>⟨_,_,.d,.d,int_ok2 _ _,_,rfl,?_⟩⟩
  replace J:=J.take b2 f2
  refine ite_b (λ _=>?_) (λ _=>rest _ J)
  refine ⟨_,rfl,d,_,rfl,J.D.hd,fd_m1,d,q,r,t,.d .none,rfl,J.D.hd,?_⟩
  have dm:d≠m:=ne_M J.D.hd J.H.hm (by intro z; cases z)
  have dw:d≠w:=ne_M J.D.hd J.H.hw (by intro z; cases z)
  have dh:d≠h:=ne_M J.D.hd J.H.hh (by intro z; cases z)
  have rm:r≠m:=ne_M J.D.hr J.H.hm (by intro z; cases z)
  have Cd:C_tb_round_of≠d:=ne_M J.C J.D.hd (by intro z; cases z)
  have Cm:C_tb_round_of≠m:=ne_M J.C J.H.hm (by intro z; cases z)
  refine ⟨_,rfl,S,m,w,h,t,rfl,hO,by rw [updM_ne dm.symm]; exact J.H.hm,λ h' M' hh a1 a2 fr=>?_⟩
  have up:∀ b o,b≠m->b≠d->M2 b=some o->M' b=some o:=λ b o n1 n2 e=>fr b o n1 (by rw [updM_ne n2]; exact e)
  have new:∀ b o,M2 b=some o->b≠h':=λ b o e z=>by
   by_cases n:b=d
   ·rw [<- z,n,updM_same] at hh; cases hh
   ·rw [<- z,updM_ne n,e] at hh; cases hh
  exact k S q r w h' u 0 M' hO ⟨Jt.bag J.B λ o e=>up _ _ J.pm.symm J.pd.symm e,up _ _ Cm Cd J.C,⟨fr _ _ dm updM_same,up _ _ J.qm J.D.nq.symm J.D.hq,up _ _ rm J.D.nr.symm J.D.hr,J.D.lu⟩,
   ⟨a1,up _ _ J.H.ne.symm dw.symm J.H.hw,a2,J.H.lu,J.H.ne⟩,J.qm,J.qw,new _ _ J.D.hr,J.bd⟩ (by omega)
 refine dseq_rest (λ M'=>Jt M' S p d q r m w h u t) (λ M3 J=>?_) (λ rest=>?_)
 case refine_2 =>
  refine ⟨_,rfl,_,_,.d,.d,int_ok2 _ _,_,rfl,?_⟩
  rw [eqv_int']
  refine ite_b (λ _=>?_) (λ _=>iteF (rest _ J))
  refine ⟨_,rfl,p,4,rfl,J.B,by decide,by decide,λ y M3 y0 y1 b3 f3=>⟨_,_,.d,.d,int_ok2 _ _,_,rfl,?_⟩⟩
  replace J:=J.take b3 f3
  refine ite_b (λ _=>?_) (λ _=>rest _ J)
  refine ⟨_,rfl,_,rfl,?_⟩
  rw [List.map_map]
  refine ⟨λ i acc τ M'=>Jt M' S p d q r m w h u t/\(∃ S2:Sh,acc=S2.map rowD/\nmL S2=(nmL S).take i/\∀ e∈S2,1<=e.2/\e.2<=9)/\∃ x,τ=[x,some (.m p)],⟨J,⟨[],rfl,rfl,λ e he=>by cases he⟩,_,rfl⟩,?_,?_⟩
  ·rintro i w' acc τ M' hw ⟨J,⟨S2,rfl,hn2,hb2⟩,xx,rfl⟩
   obtain ⟨r',hr,rfl⟩:=map_at hw
   have hi:=(List.getElem?_eq_some_iff.mp hr).1
   obtain ⟨hn,hnm⟩:=nm_at hr
   have l2:S2.length<=i:=by
    have:=congrArg List.length hn2
    rw [List.length_take] at this
    simp only [nmL,List.length_map] at this
    omega
   refine ⟨by rw [List.length_map]; omega,_,rfl,_,rfl,p,9,rfl,J.B,by decide,by decide,λ z M4 z0 z1 b4 f4=>.inl ⟨_,_,rfl,rfl,_,rfl,few (by simp),_,rfl,J.take b4 f4,⟨S2++[(r'.1,1+z.toNat)],?_,?_,λ e he=>?_⟩,_,rfl⟩⟩
   ·rw [List.map_append]
    have ez:1+z=((1+z.toNat:Nat):Int):=by omega
    show List.map rowD S2++[PyData.tuple [.str r'.1,.int (1+z)]]=List.map rowD S2++[rowD (r'.1,1+z.toNat)]
    rw [ez]
    rfl
   ·have e1:nmL (S2++[(r'.1,1+z.toNat)])=nmL S2++[r'.1]:=by simp [nmL]
    rw [e1,hn2,List.take_succ,hn]
    rfl
   ·rcases List.mem_append.mp he with he | he
    ·exact hb2 e he
    ·rw [List.mem_singleton.mp he]
     exact ⟨by show 1<=1+z.toNat; omega,by show 1+z.toNat<=9; omega⟩
  rintro acc τ M4 ⟨J,⟨S2,rfl,hn2,hb2⟩,xx,rfl⟩
  have en:nmL S2=nmL S:=by rw [hn2]; exact List.take_of_length_le (by simp [nmL])
  obtain ⟨ln,nn⟩:=names_eq en
  have hO2:OkS S2:=by
   refine ⟨λ e=>by rw [e] at ln; exact hO.ne (List.length_eq_zero_iff.mp ln.symm),by omega,λ e he=>⟨?_,hb2 e he⟩,?_⟩
   ·have h1:e.1∈nmL S:=by rw [<- en]; exact List.mem_map.mpr ⟨e,he,rfl⟩
    obtain ⟨e',he',ee⟩:=List.mem_map.mp h1
    rw [<- ee]
    exact (hO.row e' he').1
   ·show (nmL S2).Nodup
    rw [en]
    exact hO.nd
  have hu2:∀ i z,(nmL S2)[i]? = some z->(tget (kvL (nmL S) u) (.inr z)).getD (.d (.int 0))=.d (.int (cv u i)):=λ i z hz=>by
   rw [en] at hz
   rw [J.D.get hO hz]
   rfl
  refine ⟨_,rfl,_,_,rfl,.l,λ f hf=>⟨f,_,updM_same,?_⟩⟩
  have Jf:Jt (updM (updM M4 f (.lst ((S2.map rowD).map W.d))) f (.flst ((S2.map rowD).map W.d))) S p d q r m w h u t:=by rw [updM_updM]; exact J.ext (Ext.new hf)
  have hff:updM (updM M4 f (.lst ((S2.map rowD).map W.d))) f (.flst ((S2.map rowD).map W.d)) f=some (.flst ((S2.map rowD).map W.d)):=updM_same
  revert Jf hff
  generalize updM (updM M4 f (.lst ((S2.map rowD).map W.d))) f (.flst ((S2.map rowD).map W.d))=M5
  intro J hff
  refine ⟨_,rfl,d,_,rfl,J.D.hd,fd_m2,_,rfl,S2,d,q,r,t,.d .none,kvL (nmL S) u,u,f,rfl,hff,hO2,J.C,J.D.hd,J.D.hq,by rw [ln]; exact J.D.lu,hu2,λ q' r' M6 hq' D' fr=>?_⟩
  have fd':f≠d:=ne_M hff J.D.hd (by intro z; cases z)
  have dm:d≠m:=ne_M J.D.hd J.H.hm (by intro z; cases z)
  have dw:d≠w:=ne_M J.D.hd J.H.hw (by intro z; cases z)
  have dh:d≠h:=ne_M J.D.hd J.H.hh (by intro z; cases z)
  have Cd:C_tb_round_of≠d:=ne_M J.C J.D.hd (by intro z; cases z)
  have Cm:C_tb_round_of≠m:=ne_M J.C J.H.hm (by intro z; cases z)
  have Cf:C_tb_round_of≠f:=ne_M J.C hff (by intro z; cases z)
  have mf:m≠f:=ne_M J.H.hm hff (by intro z; cases z)
  have wf:w≠f:=ne_M J.H.hw hff (by intro z; cases z)
  have hf':h≠f:=ne_M J.H.hh hff (by intro z; cases z)
  have pf:p≠f:=(bag_ne_dic J.B hff λ _ z=>nomatch z).symm
  have q'm:q'≠m:=λ z=>by rw [z,J.H.hm] at hq'; cases hq'
  have q'f:q'≠f:=λ z=>by rw [z,hff] at hq'; cases hq'
  have f6:=fr _ _ fd' hff
  have df:d≠f:=fd'.symm
  have r'f:r'≠f:=ne_M D'.hr f6 (by intro z; cases z)
  have r'm:r'≠m:=ne_M D'.hr (fr _ _ dm.symm J.H.hm) (by intro z; cases z)
  refine ⟨f6,?_⟩
  have D7:∀ o o',Dr (updM (updM M6 f o) f o') S2 d q' r' u 0 (.d .none):=λ o o'=>⟨by rw [updM_ne df,updM_ne df]; exact D'.hd,by rw [updM_ne q'f,updM_ne q'f]; exact D'.hq,by rw [updM_ne r'f,updM_ne r'f]; exact D'.hr,D'.lu⟩
  have o7:∀ b x o o',b≠d->b≠f->M5 b=some x->updM (updM M6 f o) f o' b=some x:=λ b x o o' n1 n2 e=>by rw [updM_ne n2,updM_ne n2]; exact fr _ _ n1 e
  refine ⟨_,rfl,f,_,rfl,updM_same,_,rfl,few (by simp),_,updM_same,?_,?_⟩
  ·rw [List.length_map,List.length_map]; omega
  refine ⟨_,rfl,_,rfl,S,S2,m,w,h,t,kvL (nmL S) u,u,rfl,hO2,o7 _ _ _ _ dm.symm mf J.H.hm,o7 _ _ _ _ dw.symm wf J.H.hw,by rw [ln]; exact J.H.lu,hu2,λ w' h' M8 hw' hh' H8 fr8=>?_⟩
  have D8:=D7 (.lst ((S2.map rowD).map W.d)) (.lst ((S2.map rowD).map W.d++[W.d (.tuple [.str "x",.int 3])]))
  have q'w:q'≠w':=ne_new D8.hq hw'
  exact k S2 q' r' w' h' u 0 M8 hO2 ⟨Jt.bag J.B λ o e=>fr8 _ _ J.pm.symm (o7 _ _ _ _ J.pd.symm pf e),fr8 _ _ Cm (o7 _ _ _ _ Cd Cf J.C),⟨fr8 _ _ dm D8.hd,fr8 _ _ q'm D8.hq,fr8 _ _ r'm D8.hr,D'.lu⟩,H8,q'm,q'w,ne_new D8.hr hh',J.bd⟩ (by omega)
 have hu:=λ i=>(J.bd i).1
 have dm:d≠m:=ne_M J.D.hd J.H.hm (by intro z; cases z)
 have dw:d≠w:=ne_M J.D.hd J.H.hw (by intro z; cases z)
 have dh:d≠h:=ne_M J.D.hd J.H.hh (by intro z; cases z)
 have qh:q≠h:=ne_M J.D.hq J.H.hh (by intro z; cases z)
 have rm:r≠m:=ne_M J.D.hr J.H.hm (by intro z; cases z)
 have rw':r≠w:=ne_M J.D.hr J.H.hw (by intro z; cases z)
 have Cd:C_tb_round_of≠d:=ne_M J.C J.D.hd (by intro z; cases z)
 have Cq:C_tb_round_of≠q:=ne_M J.C J.D.hq (by intro z; cases z)
 have Cm:C_tb_round_of≠m:=ne_M J.C J.H.hm (by intro z; cases z)
 have Cw:C_tb_round_of≠w:=ne_M J.C J.H.hw (by intro z; cases z)
 have Ch:C_tb_round_of≠h:=ne_M J.C J.H.hh (by intro z; cases z)
 refine ⟨_,rfl,d,_,rfl,J.D.hd,fd_m8,S,d,q,r,u,t,.d .none,rfl,hO,J.D,hu,?_⟩
 by_cases hz:∀ i,cv u i=0
 ·refine .inl ⟨hz,_,rfl,S,m,w,h,u,t,rfl,hO,J.H,hu,.inl ⟨hz,_,_,.d,.d,rfl,?_⟩⟩
  exact k S q r w h u t _ hO J (by omega)
 obtain ⟨kk,j,h1,h2,h3,h5⟩:=wait_ex J.D.lu (own_lt hO t) hu hz
 have hj:j < S.length:=by rw [h2]; exact Nat.mod_lt _ (by omega)
 refine .inr ⟨kk,j,h1,h2,h3,h5,λ M4 a1 a2 fr=>?_⟩
 have H4:Mo M4 S m w h u t:=J.H.keep λ b o hb e=>fr b o (by rcases hb with rfl | rfl | rfl <;> first | exact dm.symm | exact dw.symm | exact dh.symm) (by rcases hb with rfl | rfl | rfl <;> first | exact J.qm.symm | exact J.qw.symm | exact qh.symm) e
 refine ⟨_,rfl,S,m,w,h,u,t,rfl,hO,H4,hu,.inr ⟨kk,j,h1,h2,h3,h5,λ M5 H5 fr5=>⟨_,_,.d,.d,rfl,?_⟩⟩⟩
 rw [eqv_str',decide_eq_true rfl]
 refine k S q r w h _ (t+1) M5 hO ⟨Jt.bag J.B λ o e=>fr5 _ _ J.pm.symm J.pw.symm J.ph.symm (fr _ _ J.pd.symm J.pq.symm e),fr5 _ _ Cm Cw Ch (fr _ _ Cd Cq J.C),⟨fr5 _ _ dm dw dh a1,fr5 _ _ J.qm J.qw qh a2,fr5 _ _ rm rw' J.rh (fr _ _ J.D.nr.symm J.D.qr.symm J.D.hr),by rw [List.length_set]; exact J.D.lu⟩,H5,J.qm,J.qw,J.rh,λ i=>?_⟩ (Nat.le_refl _)
 rw [cv_set (by rw [J.D.lu]; exact hj)]
 split
 ·have:=J.bd j
  omega
 ·exact J.bd i
noncomputable def sp_law:SpD:=λ ws M Q=>∃ ns:List Int,ws=[.d (.list (ns.map PyData.int))]/\ns.length<=63/\M C_tb_round_of=some cdR/\∀ M',Q (.d (.bool true)) M'
theorem len_law:∀ ws M Q,sp_law ws M Q->ws.length=1:=by rintro ws M Q ⟨d,rfl,_⟩; rfl
theorem law_read:∀ ns:List Int,ns.length<=63->sp_law [.d (.list (ns.map PyData.int))] (M1T C_tb_round_of q_round_of ⟨42,41,42,92⟩) (λ w _=>w=.d (.bool true)):=λ ns h=>⟨ns,rfl,h,if_pos rfl,λ _=>rfl⟩
inductive LawP (p d m:Addr) (i:Nat) (τ:DS) (M':MH):Prop
 | mk (S:Sh) (q r w h:Addr) (u:List Int) (t:Nat) (z0:OkS S) (z1:Jt M' S p d q r m w h u t) (z2:t<=i) (x0 x2 x3 x6:Option W) (z3:τ=[x0,some (.m p),x2,x3,some (.m d),some (.m m),x6]):LawP p d m i τ M'
theorem read_law:∀ ws M Q,sp_law ws M Q->t_law sp_l_bag sp_l_shares sp_Door_init sp_l_model sp_l_stands sp_Door_use sp_l_take sp_l_deed { nx:=λ _ M'=>Q (.d .none) M',rt:=Q } (startD N_law ws) M:=by
 rintro ws M Q ⟨ns,rfl,hl,hC,k⟩
 have sl:=s16
 refine ⟨_,rfl,ns,rfl,by omega,λ p M1 hp f1 b1=>?_⟩
 have pC:C_tb_round_of≠p:=λ e=>by rw [e,hp] at hC; cases hC
 have C1:M1 C_tb_round_of=some cdR:=by rw [f1 _ pC]; exact hC
 refine ⟨_,rfl,p,rfl,b1,λ S M2 hO b2 g2=>?_⟩
 have C2:=g2 _ _ pC C1
 have h4:=hO.len
 refine ⟨_,rfl,_,_,rfl,.l,λ f hf=>⟨f,_,updM_same,_,rfl,?_⟩⟩
 have Jb:Bag (updM (updM M2 f (.lst ((S.map rowD).map W.d))) f (.flst ((S.map rowD).map W.d))) p:=by rw [updM_updM]; exact Jt.bag b2 λ o e=>Ext.new hf _ _ e
 have JC:updM (updM M2 f (.lst ((S.map rowD).map W.d))) f (.flst ((S.map rowD).map W.d)) C_tb_round_of=some cdR:=by rw [updM_updM]; exact Ext.new hf _ _ C2
 have hff:updM (updM M2 f (.lst ((S.map rowD).map W.d))) f (.flst ((S.map rowD).map W.d)) f=some (.flst ((S.map rowD).map W.d)):=updM_same
 revert Jb JC hff
 generalize updM (updM M2 f (.lst ((S.map rowD).map W.d))) f (.flst ((S.map rowD).map W.d))=M3
 intro b3 C3 hff d hd
 refine ⟨S,d,f,rfl,upd_get hff hd,hO,upd_get C3 hd,updM_same,λ q r M4 hq D fr=>⟨rfl,?_⟩⟩
 have fd':f≠d:=ne_new hff hd
 have f4:=fr _ _ fd' (upd_get hff hd)
 have C4:=fr _ _ (ne_new C3 hd) (upd_get C3 hd)
 have pd:p≠d:=by obtain ⟨_,_,_,_,e,_⟩:=b3; exact ne_new e hd
 have b4:Bag M4 p:=Jt.bag b3 λ o e=>fr _ _ pd (upd_get e hd)
 have qf:q≠f:=ne_M D.hq f4 (by intro z; cases z)
 have rf:r≠f:=ne_M D.hr f4 (by intro z; cases z)
 have pf:p≠f:=(bag_ne_dic b4 f4 λ _ z=>nomatch z).symm
 have Cf:C_tb_round_of≠f:=ne_M C4 f4 (by intro z; cases z)
 refine ⟨f4,?_⟩
 refine ⟨_,rfl,f,_,rfl,updM_same,_,rfl,f,_,rfl,updM_same,_,rfl,few (by simp),_,updM_same,?_,?_⟩
 ·rw [List.length_reverse,List.length_map,List.length_map]; omega
 rw [updM_updM,updM_updM]
 have D5:∀ o,Dr (updM M4 f o) S d q r (zz S) (0:Nat) (.d .none):=λ o=>⟨by rw [updM_ne fd'.symm]; exact D.hd,by rw [updM_ne qf]; exact D.hq,by rw [updM_ne rf]; exact D.hr,D.lu⟩
 have b5:∀ o,Bag (updM M4 f o) p:=λ o=>Jt.bag b4 λ _ e=>by rw [updM_ne pf]; exact e
 have C5:∀ o,updM M4 f o C_tb_round_of=some cdR:=λ o=>by rw [updM_ne Cf]; exact C4
 refine ⟨_,rfl,S,rfl,hO,λ m w h M6 hm hw hh H6 x6=>?_⟩
 have J:Jt M6 S p d q r m w h (zz S) 0:=⟨Jt.bag (b5 _) λ _ e=>x6 _ _ e,x6 _ _ (C5 _),(D5 _).ext x6,H6,ne_new (D5 _).hq hm,ne_new (D5 _).hq hw,ne_new (D5 _).hr hh,λ j=>by have:=zz_cv S j; omega⟩
 refine ⟨_,rfl,_,rfl,S,d,q,r,m,w,h,zz S,0,.d .none,rfl,hO,J.D,J.H,J.qw,by omega,_,rfl,iteF ?_⟩
 refine ⟨_,rfl,d,_,rfl,J.D.hd,fd_m8,S,d,q,r,zz S,0,.d .none,rfl,hO,J.D,λ i=>(J.bd i).1,.inl ⟨zz_cv S,rfl,_,rfl,iteF ?_⟩⟩
 refine ⟨_,rfl,p,61,rfl,J.B,by decide,by decide,λ y M7 y0 y1 b7 f7=>.inl ⟨_,_,rfl,rfl,_,rfl,by omega,by omega,?_⟩⟩
 replace J:=J.take b7 f7
 refine ⟨λ i τ M'=>i<=200->LawP p d m i τ M',λ _=>⟨S,q,r,w,h,zz S,0,hO,J,Nat.le_refl _,_,_,_,_,rfl⟩,?_,?_⟩
 ·intro i w' τ M' hw P
  obtain ⟨hi,rfl⟩:=rng_at hw
  obtain ⟨S,q,r,w,h,u,t,hO,J,ht,x0,x2,x3,x6,rfl⟩:=P (by omega)
  refine ⟨_,rfl,_,rfl,_,rfl,S,p,d,q,r,m,w,h,u,t,rfl,hO,J,λ S q r w h u t' M8 hO J ht'=>⟨_,rfl,iteF ?_⟩⟩
  refine ⟨_,rfl,p,2,rfl,J.B,by decide,by decide,λ z M9 z0 z1 b9 f9=>⟨_,_,.d,.d,int_ok2 _ _,_,rfl,?_⟩⟩
  replace J:=J.take b9 f9
  refine ite_b (λ _=>?_) (λ _=>?_)
  ·exact ⟨_,rfl,_,rfl,S,d,q,r,m,w,h,u,t',.d .none,rfl,hO,J.D,J.H,J.qw,by omega,_,rfl,iteF λ _=>⟨S,q,r,w,h,u,t',hO,J,by omega,_,_,_,_,rfl⟩⟩
  ·exact iteF λ _=>⟨S,q,r,w,h,u,t',hO,J,by omega,_,_,_,_,rfl⟩
 ·intro τ M' P
  have el:(rangeW 0 (20+y).toNat).length=(20+y).toNat:=by simp [rangeW]
  rw [el] at P
  obtain ⟨S,q,r,w,h,u,t,hO,J,ht,x0,x2,x3,x6,rfl⟩:=P (by omega)
  exact ⟨_,rfl,_,rfl,S,d,q,r,m,w,h,u,t,.d .none,rfl,hO,J.D,J.H,J.qw,by omega,k _⟩
end K84
namespace K84
open PySem PySem.Spec PyProof.Rows L2 D Stc
noncomputable def top (i:Nat):Stmt:=PySem.Challenge.pw_placedworks_k84_slots_used.main.body.getD i (.Pass ⟨0,0,0,0⟩)
noncomputable abbrev s_l_bag:Stmt:=top 21
noncomputable abbrev s_l_take:Stmt:=top 22
noncomputable abbrev s_l_shares:Stmt:=top 23
noncomputable abbrev s_is_word:Stmt:=top 9
noncomputable abbrev s_is_whole:Stmt:=top 7
noncomputable abbrev s_is_within:Stmt:=top 8
noncomputable abbrev s_is_share_row:Stmt:=top 14
noncomputable abbrev s_refuse_shares:Stmt:=top 13
noncomputable abbrev s_due_at:Stmt:=top 16
noncomputable abbrev s_round_of:Stmt:=top 15
noncomputable abbrev s_Door_begin:Stmt:=inClass (top 19) 2
noncomputable abbrev s_Door_new_shares:Stmt:=inClass (top 19) 1
noncomputable abbrev s_Door_init:Stmt:=inClass (top 19) 0
noncomputable abbrev s_l_model:Stmt:=top 24
noncomputable abbrev s_l_whose:Stmt:=top 25
noncomputable abbrev s_Door_slot:Stmt:=inClass (top 19) 5
noncomputable abbrev s_Door_owner:Stmt:=inClass (top 19) 6
noncomputable abbrev s_Door_waits:Stmt:=inClass (top 19) 4
noncomputable abbrev s_l_stands:Stmt:=top 30
noncomputable abbrev s_Door_is_waited_at:Stmt:=inClass (top 19) 8
noncomputable abbrev s_Door_use:Stmt:=inClass (top 19) 7
noncomputable abbrev s_Door_ask:Stmt:=inClass (top 19) 3
noncomputable abbrev s_l_let_in:Stmt:=top 27
noncomputable abbrev s_l_begun:Stmt:=top 28
noncomputable abbrev s_l_reshared:Stmt:=top 29
noncomputable abbrev s_l_use:Stmt:=top 26
noncomputable abbrev s_l_deed:Stmt:=top 31
noncomputable abbrev s_law:Stmt:=top 32
structure Env (K:PySem.W.Frag)(mg:Str->Option Value):Prop where
 k_Door:Cls K C_Door
 m_Door:mg "Door" = some (.ref C_Door)
 h_round_of:PySem.W.codeHdIn K C_cd_round_of C_tb_round_of=true
 n_Door_asks_waiting:NoAttr K C_Door "asks_waiting"
 n_Door_next_slot:NoAttr K C_Door "next_slot"
 n_Door_number_led:NoAttr K C_Door "number_led"
 n_Door_owner_round:NoAttr K C_Door "owner_round"
 b_abs:mg "abs" = none
 b_all:mg "all" = none
 b_any:mg "any" = none
 b_bool:mg "bool" = none
 b_enumerate:mg "enumerate" = none
 b_int:mg "int" = none
 b_isinstance:mg "isinstance" = none
 b_len:mg "len" = none
 b_list:mg "list" = none
 b_max:mg "max" = none
 b_min:mg "min" = none
 b_range:mg "range" = none
 b_str:mg "str" = none
 b_sum:mg "sum" = none
 b_tuple:mg "tuple" = none
 c_LONGEST_WORD:∃ t,mg "LONGEST_WORD" = some (.int 8 t)
 c_MOST_GROUPS:∃ t,mg "MOST_GROUPS" = some (.int 4 t)
 c_MOST_SHARE:∃ t,mg "MOST_SHARE" = some (.int 9 t)
 c_MOST_WAITING:∃ t,mg "MOST_WAITING" = some (.int 40 t)
section
variable {P:Program}{w:World}{K:PySem.W.Frag}{mg:Str->Option Value}{base:Heap}
theorem ndc_0:(["_law_cell"]:List Str).Nodup:=by decide +kernel
theorem sc_l_bag:FnScope N_l_bag ["_law_script"] (defScope s_l_bag):=⟨rfl,rfl,rfl,by decide +kernel,rfl,by decide +kernel,by decide +kernel⟩
theorem ok_l_bag {f:Addr}{fd:FuncData}(E:Env K mg)(F:Fn K mg "_law_bag" s_l_bag ["_law_script"] f fd) :
  FnOk P w K mg base CX0 1 f fd ["_law_script"] (upSp K sp_l_bag):=by
 refine fun_ok (t:=t_l_bag) F.fn sc_l_bag len_l_bag (λ cdv A outer s H E' hr=>?_) read_l_bag
 refine Jd.h ?_
 exact Q.pssd_one (Q.psd_ret (Q.pd_lstM (Q.pac (Q.pd_int) (Q.pac (Q.pd_int) (Q.pac (Q.pd_int) (Q.pac (Q.pd_lc rfl (lcOk (own:=(["_law_cell"]:List Str)) (fr:=[]) rfl) (Q.pid_items (Q.pd_slice (Q.dv 0) (Q.pod_none) (Q.pod_some (Q.pd_int)))) (λ _ _ _ _ _ _=>Q.pgd_name (i:=0) ndc_0 rfl (Or.inl rfl)) (λ _ _ _ _ _ _=>Q.ptsd_nil) (λ _ _ _ _ _ _=>Q.pcB call_abs cd_abs rfl E.b_abs bb_abs (Q.pac (Q.dv 0) (Q.pad_nil)))) (Q.pad_nil)))))))
theorem sc_l_take:FnScope N_l_take ["_law_bag_here", "_law_many"] (defScope s_l_take):=⟨rfl,rfl,rfl,by decide +kernel,rfl,by decide +kernel,by decide +kernel⟩
theorem ok_l_take {f:Addr}{fd:FuncData}(E:Env K mg)(F:Fn K mg "_law_take" s_l_take ["_law_bag_here", "_law_many"] f fd) :
  FnOk P w K mg base CX0 1 f fd ["_law_bag_here", "_law_many"] (upSp K sp_l_take):=by
 refine fun_ok (t:=t_l_take) F.fn sc_l_take len_l_take (λ cdv A outer s H E' hr=>?_) read_l_take
 refine Jd.h ?_
 exact Q.pssd_cons (Q.psd_if (Q.ptd_cmp (op_eqD hr) opd_eq (Q.pd_ix ix_seq opd_ix (Q.dv 0) (Q.pd_int)) (Q.pd_int))
   (Q.pssd_cons (Q.psd_set (i:=2) sc_l_take.nd rfl (Or.inl rfl) (Q.pd_int)) <|
   Q.pssd_cons (Q.psd_if (Q.ptd_cmp op_lt opd_lt (Q.pd_ix ix_seq opd_ix (Q.dv 0) (Q.pd_int)) (Q.pcB call_len cd_len rfl E.b_len bb_len (Q.pac (Q.pd_ix ix_seq opd_ix (Q.dv 0) (Q.pd_int)) (Q.pad_nil))))
    (Q.pssd_one (Q.psd_set (i:=2) sc_l_take.nd rfl (Or.inl rfl) (Q.pd_ix ix_seq opd_ix (Q.pd_ix ix_seq opd_ix (Q.dv 0) (Q.pd_int)) (Q.pd_ix ix_seq opd_ix (Q.dv 0) (Q.pd_int)))))
    (Q.pssd_nil)) <|
   Q.pssd_cons (Q.psd_augS (Q.dv 0) (Q.pd_int) (Q.pd_int) ip_add) <|
   Q.pssd_cons (Q.psd_if (Q.ptd_cmp op_ge opd_ge (Q.dv 2) (Q.pd_int))
    (Q.pssd_one (Q.psd_asg (Q.dv 2) (Q.pgd_sub (Q.dv 0) (Q.pd_int))))
    (Q.pssd_nil)) <|
   Q.pssd_one (Q.psd_asg (Q.pd_op op_mod opd_mod (Q.pd_op op_add2 opd_add2 (Q.pd_op op_add2 opd_add2 (Q.pd_op op_mul opd_mul (Q.pd_ix ix_seq opd_ix (Q.dv 0) (Q.pd_int)) (Q.pd_int)) (Q.pd_op op_mod opd_mod (Q.dv 2) (Q.pd_int))) (Q.pd_op op_mul opd_mul (Q.pd_int) (Q.pd_ix ix_seq opd_ix (Q.dv 0) (Q.pd_int)))) (Q.pd_int)) (Q.pgd_sub (Q.dv 0) (Q.pd_int))))
   (Q.pssd_nil)) <|
  Q.pssd_cons (Q.psd_if (Q.ptd_cmp op_gt opd_gt (Q.pd_ix ix_seq opd_ix (Q.dv 0) (Q.pd_int)) (Q.pd_int))
   (Q.pssd_cons (Q.psd_set (i:=3) sc_l_take.nd rfl (Or.inl rfl) (Q.pd_op op_mod opd_mod (Q.pd_ix ix_seq opd_ix (Q.dv 0) (Q.pd_int)) (Q.dv 1))) <|
   Q.pssd_cons (Q.psd_asg (Q.pd_op op_fdiv opd_div (Q.pd_ix ix_seq opd_ix (Q.dv 0) (Q.pd_int)) (Q.dv 1)) (Q.pgd_sub (Q.dv 0) (Q.pd_int))) <|
   Q.pssd_one (Q.psd_ret (Q.dv 3)))
   (Q.pssd_nil)) <|
  Q.pssd_cons (Q.psd_set (i:=4) sc_l_take.nd rfl (Or.inl rfl) (Q.pd_op op_mod opd_mod (Q.pd_op op_mul opd_mul (Q.pd_op op_add2 opd_add2 (Q.pd_ix ix_seq opd_ix (Q.dv 0) (Q.pd_int)) (Q.pd_int)) (Q.pd_int)) (Q.pd_int))) <|
  Q.pssd_cons (Q.psd_set (i:=5) sc_l_take.nd rfl (Or.inl rfl) (Q.pd_op op_mod opd_mod (Q.pd_op op_mul opd_mul (Q.pd_op op_mod opd_mod (Q.pd_op op_mul opd_mul (Q.dv 4) (Q.dv 4)) (Q.pd_int)) (Q.pd_int)) (Q.pd_int))) <|
  Q.pssd_cons (Q.psd_if (Q.ptd_cmp op_gt opd_gt (Q.dv 1) (Q.pd_int))
   (Q.pssd_one (Q.psd_ret (Q.pd_op op_mod opd_mod (Q.pd_op op_add2 opd_add2 (Q.pd_op op_mul opd_mul (Q.dv 5) (Q.pd_int)) (Q.dv 4)) (Q.dv 1))))
   (Q.pssd_nil)) <|
  Q.pssd_one (Q.psd_ret (Q.pd_op op_mod opd_mod (Q.pd_op op_fdiv opd_div (Q.dv 5) (Q.pd_int)) (Q.dv 1)))
theorem ndc_1:(["_law_k", "_law_letters", "_law_bag_here"]:List Str).Nodup:=by decide +kernel
theorem sc_l_shares:FnScope N_l_shares ["_law_bag_here"] (defScope s_l_shares):=⟨rfl,rfl,rfl,by decide +kernel,rfl,by decide +kernel,by decide +kernel⟩
theorem ok_l_shares {f:Addr}{fd:FuncData}(E:Env K mg)(F:Fn K mg "_law_shares" s_l_shares ["_law_bag_here"] f fd)
  {f_l_take:Addr}{fd_l_take:FuncData}(G_l_take:Fn K mg "_law_take" s_l_take ["_law_bag_here", "_law_many"] f_l_take fd_l_take)(O_l_take:FnOk P w K mg base CX0 1 f_l_take fd_l_take ["_law_bag_here", "_law_many"] (upSp K sp_l_take)) :
  FnOk P w K mg base CX0 2 f fd ["_law_bag_here"] (upSp K sp_l_shares):=by
 refine fun_ok (t:=t_l_shares sp_l_take) F.fn sc_l_shares len_l_shares (λ cdv A outer s H E' hr=>?_) read_l_shares
 refine Jd.h ?_
 exact Q.pssd_cons (Q.psd_set (i:=1) sc_l_shares.nd rfl (Or.inr rfl) (Q.pd_str)) <|
  Q.pssd_cons (Q.psd_set (i:=2) sc_l_shares.nd rfl (Or.inl rfl) (Q.pd_join (Q.pd_str) (Q.pd_lc rfl (lcOk (own:=(["_law_k"]:List Str)) (fr:=[1,0]) rfl) (Q.pid_range1 rfl E.b_range (Q.pac (Q.pcF O_l_take (hr.mono (by decide)) rfl G_l_take.mg G_l_take.fn.kp G_l_take.bd (Q.pac (Q.dv 0) (Q.pac (Q.pd_int) (Q.pad_nil)))) (Q.pad_nil))) (λ _ _ _ _ _ _=>Q.pgd_name (i:=0) ndc_1 rfl (Or.inl rfl)) (λ _ _ _ _ _ _=>Q.ptsd_nil) (λ _ _ _ _ _ _=>Q.pd_ix ix_seq opd_ix (Q.dv 1) (Q.pcF O_l_take (hr.mono (by decide)) rfl G_l_take.mg G_l_take.fn.kp G_l_take.bd (Q.pac (Q.dv 2) (Q.pac (Q.pd_int) (Q.pad_nil)))))))) <|
  Q.pssd_cons (Q.psd_set (i:=3) sc_l_shares.nd rfl (Or.inl rfl) (Q.pcF O_l_take (hr.mono (by decide)) rfl G_l_take.mg G_l_take.fn.kp G_l_take.bd (Q.pac (Q.dv 0) (Q.pac (Q.pd_int) (Q.pad_nil))))) <|
  Q.pssd_cons (Q.psd_set (i:=4) sc_l_shares.nd rfl (Or.inl rfl) (Q.pd_ix ix_seq opd_ix (Q.pd_lst (Q.pac (Q.pd_int) (Q.pac (Q.pd_int) (Q.pac (Q.pd_int) (Q.pac (Q.pd_int) (Q.pac (Q.pd_int) (Q.pac (Q.pd_int) (Q.pad_nil)))))))) (Q.pcF O_l_take (hr.mono (by decide)) rfl G_l_take.mg G_l_take.fn.kp G_l_take.bd (Q.pac (Q.dv 0) (Q.pac (Q.pd_int) (Q.pad_nil)))))) <|
  Q.pssd_cons (Q.psd_set (i:=5) sc_l_shares.nd rfl (Or.inl rfl) (Q.pcF O_l_take (hr.mono (by decide)) rfl G_l_take.mg G_l_take.fn.kp G_l_take.bd (Q.pac (Q.dv 0) (Q.pac (Q.pd_op op_add2 opd_add2 (Q.pcB call_len cd_len rfl E.b_len bb_len (Q.pac (Q.dv 2) (Q.pad_nil))) (Q.pd_int)) (Q.pad_nil))))) <|
  Q.pssd_cons (Q.psd_set (i:=6) sc_l_shares.nd rfl (Or.inl rfl) (Q.pd_lstM (Q.pad_nil))) <|
  Q.pssd_cons (Q.psd_for PassesOwn.never rfl (Q.pid_range1 rfl E.b_range (Q.pac (Q.pd_op op_add2 opd_add2 (Q.pd_int) (Q.pcF O_l_take (hr.mono (by decide)) rfl G_l_take.mg G_l_take.fn.kp G_l_take.bd (Q.pac (Q.dv 0) (Q.pac (Q.pd_int) (Q.pad_nil))))) (Q.pad_nil))) (Q.pgd_name (i:=7) sc_l_shares.nd rfl (Or.inl rfl))
   (Q.pssd_cons (Q.psd_set (i:=8) sc_l_shares.nd rfl (Or.inl rfl) (Q.pd_ix ix_seq opd_ix (Q.dv 1) (Q.pd_op op_mod opd_mod (Q.pd_op op_add2 opd_add2 (Q.dv 3) (Q.pd_op op_mul opd_mul (Q.dv 4) (Q.dv 7))) (Q.pd_int)))) <|
   Q.pssd_cons (Q.psd_set (i:=9) sc_l_shares.nd rfl (Or.inl rfl) (Q.pd_op op_add2 opd_add2 (Q.pd_op op_add2 opd_add2 (Q.pd_slice (Q.dv 2) (Q.pod_none) (Q.pod_some (Q.dv 5))) (Q.dv 8)) (Q.pd_slice (Q.dv 2) (Q.pod_some (Q.dv 5)) (Q.pod_none)))) <|
   Q.pssd_cons (Q.psd_set (i:=10) sc_l_shares.nd rfl (Or.inl rfl) (Q.pd_lst (Q.pac (Q.pd_op op_add2 opd_add2 (Q.pd_int) (Q.pcF O_l_take (hr.mono (by decide)) rfl G_l_take.mg G_l_take.fn.kp G_l_take.bd (Q.pac (Q.dv 0) (Q.pac (Q.pd_int) (Q.pad_nil))))) (Q.pac (Q.pd_int) (Q.pac (Q.pd_int) (Q.pac (Q.pd_op op_add2 opd_add2 (Q.pd_int) (Q.pcF O_l_take (hr.mono (by decide)) rfl G_l_take.mg G_l_take.fn.kp G_l_take.bd (Q.pac (Q.dv 0) (Q.pac (Q.pd_int) (Q.pad_nil))))) (Q.pad_nil))))))) <|
   Q.pssd_one (Q.psd_expr (Q.pd_append (Q.dv 6) (Q.pd_tup (Q.pac (Q.dv 9) (Q.pac (Q.pd_ix ix_seq opd_ix (Q.dv 10) (Q.pcF O_l_take (hr.mono (by decide)) rfl G_l_take.mg G_l_take.fn.kp G_l_take.bd (Q.pac (Q.dv 0) (Q.pac (Q.pd_int) (Q.pad_nil))))) (Q.pad_nil)))))))) <|
  Q.pssd_one (Q.psd_ret (Q.pd_seal (Q.dv 6)))
theorem ndc_2:(["sign"]:List Str).Nodup:=by decide +kernel
theorem sc_is_word:FnScope N_is_word ["thing"] (defScope s_is_word):=⟨rfl,rfl,rfl,by decide +kernel,rfl,by decide +kernel,by decide +kernel⟩
theorem ok_is_word {f:Addr}{fd:FuncData}(E:Env K mg)(F:Fn K mg "is_word" s_is_word ["thing"] f fd) :
  FnOk P w K mg base CX0 1 f fd ["thing"] (upSp K sp_is_word):=by
 refine fun_ok (t:=t_is_word) F.fn sc_is_word len_is_word (λ cdv A outer s H E' hr=>?_) read_is_word
 refine Jd.h ?_
 exact Q.pssd_cons (Q.psd_if (Q.ptd_w (Q.pwd_or (Q.ptd_not (Q.ptd_val (Q.pcB call_isiT cd_isiT rfl E.b_isinstance bb_isinstance (Q.pac (Q.dv 0) (Q.pac (Q.pd_type rfl E.b_str bt_str) (Q.pad_nil)))))) (Q.pwd_or1 (Q.ptd_not (Q.ptd_chain op_le2 opd_le2 op_le2 opd_le2 (Q.pd_int) (Q.pcB call_len cd_len rfl E.b_len bb_len (Q.pac (Q.dv 0) (Q.pad_nil))) (Q.pd_globI rfl (E.c_LONGEST_WORD).choose_spec))))))
   (Q.pssd_one (Q.psd_ret (Q.pd_bl)))
   (Q.pssd_nil)) <|
  Q.pssd_one (Q.psd_ret (Q.pcB (call_allD rfl) cd_all rfl E.b_all bb_all (Q.pac (Q.pd_lc rfl (lcOk (own:=(["sign"]:List Str)) (fr:=[]) rfl) (Q.pid_items (Q.dv 0)) (λ _ _ _ _ _ _=>Q.pgd_name (i:=0) ndc_2 rfl (Or.inl rfl)) (λ _ _ _ _ _ _=>Q.ptsd_nil) (λ _ _ _ _ _ _=>Q.pd_chain op_le2 opd_le2 op_le2 opd_le2 (Q.pd_str) (Q.dv 0) (Q.pd_str))) (Q.pad_nil))))
theorem sc_is_whole:FnScope N_is_whole ["thing"] (defScope s_is_whole):=⟨rfl,rfl,rfl,by decide +kernel,rfl,by decide +kernel,by decide +kernel⟩
theorem ok_is_whole {f:Addr}{fd:FuncData}(E:Env K mg)(F:Fn K mg "is_whole" s_is_whole ["thing"] f fd) :
  FnOk P w K mg base CX0 1 f fd ["thing"] (upSp K sp_is_whole):=by
 refine fun_ok (t:=t_is_whole) F.fn sc_is_whole len_is_whole (λ cdv A outer s H E' hr=>?_) read_is_whole
 refine Jd.h ?_
 exact Q.pssd_one (Q.psd_ret (Q.pd_and (Q.pcB call_isiT cd_isiT rfl E.b_isinstance bb_isinstance (Q.pac (Q.dv 0) (Q.pac (Q.pd_type rfl E.b_int bt_int) (Q.pad_nil)))) (Q.pd_one (Q.pd_not (Q.pcB call_isiT cd_isiT rfl E.b_isinstance bb_isinstance (Q.pac (Q.dv 0) (Q.pac (Q.pd_type rfl E.b_bool bt_bool) (Q.pad_nil))))))))
theorem sc_is_within:FnScope N_is_within ["thing", "low", "high"] (defScope s_is_within):=⟨rfl,rfl,rfl,by decide +kernel,rfl,by decide +kernel,by decide +kernel⟩
theorem ok_is_within {f:Addr}{fd:FuncData}(E:Env K mg)(F:Fn K mg "is_within" s_is_within ["thing", "low", "high"] f fd)
  {f_is_whole:Addr}{fd_is_whole:FuncData}(G_is_whole:Fn K mg "is_whole" s_is_whole ["thing"] f_is_whole fd_is_whole)(O_is_whole:FnOk P w K mg base CX0 1 f_is_whole fd_is_whole ["thing"] (upSp K sp_is_whole)) :
  FnOk P w K mg base CX0 2 f fd ["thing", "low", "high"] (upSp K sp_is_within):=by
 refine fun_ok (t:=t_is_within sp_is_whole) F.fn sc_is_within len_is_within (λ cdv A outer s H E' hr=>?_) read_is_within
 refine Jd.h ?_
 exact Q.pssd_one (Q.psd_ret (Q.pd_and (Q.pcF O_is_whole (hr.mono (by decide)) rfl G_is_whole.mg G_is_whole.fn.kp G_is_whole.bd (Q.pac (Q.dv 0) (Q.pad_nil))) (Q.pd_one (Q.pd_chain op_le2 opd_le2 op_le2 opd_le2 (Q.dv 1) (Q.dv 0) (Q.dv 2)))))
theorem sc_is_share_row:FnScope N_is_share_row ["row"] (defScope s_is_share_row):=⟨rfl,rfl,rfl,by decide +kernel,rfl,by decide +kernel,by decide +kernel⟩
theorem ok_is_share_row {f:Addr}{fd:FuncData}(E:Env K mg)(F:Fn K mg "is_share_row" s_is_share_row ["row"] f fd)
  {f_is_word:Addr}{fd_is_word:FuncData}(G_is_word:Fn K mg "is_word" s_is_word ["thing"] f_is_word fd_is_word)(O_is_word:FnOk P w K mg base CX0 1 f_is_word fd_is_word ["thing"] (upSp K sp_is_word))
  {f_is_within:Addr}{fd_is_within:FuncData}(G_is_within:Fn K mg "is_within" s_is_within ["thing", "low", "high"] f_is_within fd_is_within)(O_is_within:FnOk P w K mg base CX0 2 f_is_within fd_is_within ["thing", "low", "high"] (upSp K sp_is_within)) :
  FnOk P w K mg base CX0 3 f fd ["row"] (upSp K sp_is_share_row):=by
 refine fun_ok (t:=t_is_share_row sp_is_word sp_is_within) F.fn sc_is_share_row len_is_share_row (λ cdv A outer s H E' hr=>?_) read_is_share_row
 refine Jd.h ?_
 exact Q.pssd_one (Q.psd_ret (Q.pd_and (Q.pcB call_isiT cd_isiT rfl E.b_isinstance bb_isinstance (Q.pac (Q.dv 0) (Q.pac (Q.pd_type rfl E.b_tuple bt_tuple) (Q.pad_nil)))) (Q.pd_and (Q.pd_cmp (op_eqT hr) opd_eqT (Q.pcB call_len cd_len rfl E.b_len bb_len (Q.pac (Q.dv 0) (Q.pad_nil))) (Q.pd_int)) (Q.pd_and (Q.pcF O_is_word (hr.mono (by decide)) rfl G_is_word.mg G_is_word.fn.kp G_is_word.bd (Q.pac (Q.pd_ix ix_seq opd_ix (Q.dv 0) (Q.pd_int)) (Q.pad_nil))) (Q.pd_one (Q.pcF O_is_within (hr.mono (by decide)) rfl G_is_within.mg G_is_within.fn.kp G_is_within.bd (Q.pac (Q.pd_ix ix_seq opd_ix (Q.dv 0) (Q.pd_int)) (Q.pac (Q.pd_int) (Q.pac (Q.pd_globI rfl (E.c_MOST_SHARE).choose_spec) (Q.pad_nil))))))))))
theorem ndc_3:(["ahead"]:List Str).Nodup:=by decide +kernel
theorem sc_refuse_shares:FnScope N_refuse_shares ["shares"] (defScope s_refuse_shares):=⟨rfl,rfl,rfl,by decide +kernel,rfl,by decide +kernel,by decide +kernel⟩
theorem ok_refuse_shares {f:Addr}{fd:FuncData}(E:Env K mg)(F:Fn K mg "refuse_shares" s_refuse_shares ["shares"] f fd)
  {f_is_share_row:Addr}{fd_is_share_row:FuncData}(G_is_share_row:Fn K mg "is_share_row" s_is_share_row ["row"] f_is_share_row fd_is_share_row)(O_is_share_row:FnOk P w K mg base CX0 3 f_is_share_row fd_is_share_row ["row"] (upSp K sp_is_share_row)) :
  FnOk P w K mg base CX0 4 f fd ["shares"] (upSp K sp_refuse_shares):=by
 refine fun_ok (t:=t_refuse_shares sp_is_share_row) F.fn sc_refuse_shares len_refuse_shares (λ cdv A outer s H E' hr=>?_) read_refuse_shares
 refine Jd.h ?_
 exact Q.pssd_cons (Q.psd_if (Q.ptd_w (Q.pwd_or (Q.ptd_not (Q.ptd_val (Q.pcB call_isiF cd_isiF rfl E.b_isinstance bb_isinstance (Q.pac (Q.dv 0) (Q.pac (Q.pd_type rfl E.b_list bt_list) (Q.pad_nil)))))) (Q.pwd_or1 (Q.ptd_not (Q.ptd_truF (Q.dv 0))))))
   (Q.pssd_one (Q.psd_never))
   (Q.pssd_nil)) <|
  Q.pssd_one (Q.psd_for PassesOwn.never rfl (Q.pid_enumF rfl E.b_enumerate (Q.pac (Q.dv 0) (Q.pad_nil))) (Q.pgd_tup rfl (Q.pgsd_cons (Q.pgd_name (i:=1) sc_refuse_shares.nd rfl (Or.inl rfl)) (Q.pgsd_cons (Q.pgd_name (i:=2) sc_refuse_shares.nd rfl (Or.inl rfl)) (Q.pgsd_nil))))
   (Q.pssd_one (Q.psd_if (Q.ptd_w (Q.pwd_or (Q.ptd_cmp op_ge opd_ge (Q.dv 1) (Q.pd_globI rfl (E.c_MOST_GROUPS).choose_spec)) (Q.pwd_or (Q.ptd_not (Q.ptd_val (Q.pcF O_is_share_row (hr.mono (by decide)) rfl G_is_share_row.mg G_is_share_row.fn.kp G_is_share_row.bd (Q.pac (Q.dv 2) (Q.pad_nil))))) (Q.pwd_or1 (Q.ptd_cmp op_in_seq (opd_inS' false) (Q.pd_ix ix_seq opd_ix (Q.dv 2) (Q.pd_int)) (Q.pd_lc rfl (lcOk (own:=(["ahead"]:List Str)) (fr:=[]) rfl) (Q.pid_itemsN (Q.pd_sliceF (Q.dv 0) (Q.pod_none) (Q.pod_some (Q.dv 1)))) (λ _ _ _ _ _ _=>Q.pgd_name (i:=0) ndc_3 rfl (Or.inl rfl)) (λ _ _ _ _ _ _=>Q.ptsd_nil) (λ _ _ _ _ _ _=>Q.pd_ix ix_seq opd_ix (Q.dv 0) (Q.pd_int))))))))
    (Q.pssd_one (Q.psd_never))
    (Q.pssd_nil))))
theorem sc_due_at:FnScope N_due_at ["unit", "whole", "share"] (defScope s_due_at):=⟨rfl,rfl,rfl,by decide +kernel,rfl,by decide +kernel,by decide +kernel⟩
theorem ok_due_at {f:Addr}{fd:FuncData}(E:Env K mg)(F:Fn K mg "due_at" s_due_at ["unit", "whole", "share"] f fd) :
  FnOk P w K mg base CX0 1 f fd ["unit", "whole", "share"] (upSp K sp_due_at):=by
 refine fun_ok (t:=t_due_at) F.fn sc_due_at len_due_at (λ cdv A outer s H E' hr=>?_) read_due_at
 refine Jd.h ?_
 exact Q.pssd_one (Q.psd_ret (Q.pd_un un_neg und_neg (Q.pd_op op_fdiv opd_div (Q.pd_op op_mul opd_mul (Q.pd_un un_neg und_neg (Q.pd_op op_add2 opd_add2 (Q.dv 0) (Q.pd_int))) (Q.dv 1)) (Q.dv 2))))
theorem ndc_4:(["group", "share"]:List Str).Nodup:=by decide +kernel
theorem ndc_5:(["group", "share"]:List Str).Nodup:=by decide +kernel
theorem ndc_6:(["group", "share", "owned", "whole", "slot"]:List Str).Nodup:=by decide +kernel
theorem sc_round_of:FnScope N_round_of ["shares"] (defScope s_round_of):=⟨rfl,rfl,rfl,by decide +kernel,rfl,by decide +kernel,by decide +kernel⟩
theorem ok_round_of {f:Addr}{fd:FuncData}(E:Env K mg)(F:Fn K mg "round_of" s_round_of ["shares"] f fd)(hcd:fd.code=.ref C_cd_round_of)
  {f_due_at:Addr}{fd_due_at:FuncData}(G_due_at:Fn K mg "due_at" s_due_at ["unit", "whole", "share"] f_due_at fd_due_at)(O_due_at:FnOk P w K mg base CX0 1 f_due_at fd_due_at ["unit", "whole", "share"] (upSp K sp_due_at)) :
  FnOk P w K mg base CX0 4 f fd ["shares"] (upSp K sp_round_of):=by
 refine fun_okL (t:=t_round_of sp_due_at) F.fn hcd sc_round_of len_round_of (λ A outer s H E' hr=>?_) read_round_of
 refine Jd.h ?_
 exact Q.pssd_cons (Q.psd_set (i:=1) sc_round_of.nd rfl (Or.inr rfl) (Q.pcB (call_sumL rfl) cd_sum rfl E.b_sum bb_sum (Q.pac (Q.pd_lc rfl (lcOk (own:=(["group", "share"]:List Str)) (fr:=[]) rfl) (Q.pid_itemsG (Q.dv 0)) (λ _ _ _ _ _ _=>Q.pgd_tup rfl (Q.pgsd_cons (Q.pgd_name (i:=0) ndc_4 rfl (Or.inl rfl)) (Q.pgsd_cons (Q.pgd_name (i:=1) ndc_4 rfl (Or.inl rfl)) (Q.pgsd_nil)))) (λ _ _ _ _ _ _=>Q.ptsd_nil) (λ _ _ _ _ _ _=>Q.dv 1)) (Q.pad_nil)))) <|
  Q.pssd_cons (Q.psd_set (i:=2) sc_round_of.nd rfl (Or.inr rfl) (Q.pd_dc rfl (lcOk (own:=(["group", "share"]:List Str)) (fr:=[]) rfl) (Q.pid_itemsG (Q.dv 0)) (λ _ _ _ _ _ _=>Q.pgd_tup rfl (Q.pgsd_cons (Q.pgd_name (i:=0) ndc_5 rfl (Or.inl rfl)) (Q.pgsd_cons (Q.pgd_name (i:=1) ndc_5 rfl (Or.inl rfl)) (Q.pgsd_nil)))) (λ _ _ _ _ _ _=>Q.ptsd_nil) (λ _ _ _ _ _ _=>Q.dv 0) (λ _ _ _ _ _ _=>Q.pd_int))) <|
  Q.pssd_cons (Q.psd_set (i:=3) sc_round_of.nd rfl (Or.inl rfl) (Q.pd_lstM (Q.pad_nil))) <|
  Q.pssd_cons (Q.psd_for PassesOwn.never rfl (Q.pid_range1 rfl E.b_range (Q.pac (Q.dv 1) (Q.pad_nil))) (Q.pgd_name (i:=4) sc_round_of.nd rfl (Or.inr rfl))
   (Q.pssd_cons (Q.psd_setLC (i:=5) sc_round_of.nd rfl (Or.inl rfl) rfl (lcOk (own:=(["group", "share"]:List Str)) (fr:=[2,1,4]) rfl) (Q.pid_itemsG (Q.dv 0)) (λ _ _ _ _ _ _=>Q.pgd_tup rfl (Q.pgsd_cons (Q.pgd_name (i:=0) ndc_6 rfl (Or.inl rfl)) (Q.pgsd_cons (Q.pgd_name (i:=1) ndc_6 rfl (Or.inl rfl)) (Q.pgsd_nil)))) (λ _ _ _ _ _ _=>Q.ptsd_one (Q.ptd_cmp op_le2 opd_le2 (Q.pd_op op_fdiv opd_div (Q.pd_op op_mul opd_mul (Q.pd_dget (hu_of hr) (Q.dv 2) (Q.dv 0)) (Q.dv 3)) (Q.dv 1)) (Q.dv 4))) (λ _ _ _ _ _ _=>Q.pd_tup (Q.pac (Q.dv 0) (Q.pac (Q.dv 1) (Q.pad_nil))))) <|
   Q.pssd_cons (Q.psd_asg (Q.pd_minK (k:=1) (q:=q_round_of) (hr.mono (by decide)) rfl rfl E.b_min (lamOk (x := "each") (fr:=[1,2]) rfl) rfl E.h_round_of rfl (λ _ _ _ _ _=>rfl) (Q.dv 5) (λ _ _ _ _ _ _ hr=>Q.pcF O_due_at (hr.mono (by decide)) rfl G_due_at.mg G_due_at.fn.kp G_due_at.bd (Q.pac (Q.pd_dget (hu_of hr) (Q.dv 2) (Q.pd_ix ix_seq opd_ix (Q.dv 0) (Q.pd_int))) (Q.pac (Q.dv 1) (Q.pac (Q.pd_ix ix_seq opd_ix (Q.dv 0) (Q.pd_int)) (Q.pad_nil)))))) (Q.pgd_tup rfl (Q.pgsd_cons (Q.pgd_name (i:=6) sc_round_of.nd rfl (Or.inl rfl)) (Q.pgsd_cons (Q.pgd_name (i:=7) sc_round_of.nd rfl (Or.inl rfl)) (Q.pgsd_nil))))) <|
   Q.pssd_cons (Q.psd_augD (hu_of hr) (Q.dv 2) (Q.dv 6) (Q.pd_int) ip_add) <|
   Q.pssd_one (Q.psd_expr (Q.pd_append (Q.dv 3) (Q.dv 6))))) <|
  Q.pssd_one (Q.psd_ret (Q.dv 3))
theorem sc_Door_begin:FnScope N_Door_begin ["self"] (defScope s_Door_begin):=⟨rfl,rfl,rfl,by decide +kernel,rfl,by decide +kernel,by decide +kernel⟩
theorem ok_Door_begin {f:Addr}{fd:FuncData}(E:Env K mg)(F:Mf K C_Door "begin" "Door.begin" s_Door_begin ["self"] f fd) :
  FnOk P w K mg base CX0 1 f fd ["self"] (upSp K sp_Door_begin):=by
 refine fun_ok (t:=t_Door_begin) F.fn sc_Door_begin len_Door_begin (λ cdv A outer s H E' hr=>?_) read_Door_begin
 refine Jd.h ?_
 exact Q.pssd_one (Q.psd_fld E.k_Door E.n_Door_next_slot (Q.dv 0) (Q.pd_int))
theorem ndc_7:(["group", "share", "self"]:List Str).Nodup:=by decide +kernel
theorem sc_Door_new_shares:FnScope N_Door_new_shares ["self", "shares"] (defScope s_Door_new_shares):=⟨rfl,rfl,rfl,by decide +kernel,rfl,by decide +kernel,by decide +kernel⟩
theorem ok_Door_new_shares {f:Addr}{fd:FuncData}(E:Env K mg)(F:Mf K C_Door "new_shares" "Door.new_shares" s_Door_new_shares ["self", "shares"] f fd)
  {f_refuse_shares:Addr}{fd_refuse_shares:FuncData}(G_refuse_shares:Fn K mg "refuse_shares" s_refuse_shares ["shares"] f_refuse_shares fd_refuse_shares)(O_refuse_shares:FnOk P w K mg base CX0 4 f_refuse_shares fd_refuse_shares ["shares"] (upSp K sp_refuse_shares))
  {f_round_of:Addr}{fd_round_of:FuncData}(G_round_of:Fn K mg "round_of" s_round_of ["shares"] f_round_of fd_round_of)(O_round_of:FnOk P w K mg base CX0 4 f_round_of fd_round_of ["shares"] (upSp K sp_round_of))
  {f_Door_begin:Addr}{fd_Door_begin:FuncData}(G_Door_begin:Mf K C_Door "begin" "Door.begin" s_Door_begin ["self"] f_Door_begin fd_Door_begin)(O_Door_begin:FnOk P w K mg base CX0 1 f_Door_begin fd_Door_begin ["self"] (upSp K sp_Door_begin)) :
  FnOk P w K mg base CX0 5 f fd ["self", "shares"] (upSp K sp_Door_new_shares):=by
 refine fun_ok (t:=t_Door_new_shares sp_refuse_shares sp_round_of sp_Door_begin) F.fn sc_Door_new_shares len_Door_new_shares (λ cdv A outer s H E' hr=>?_) read_Door_new_shares
 refine Jd.h ?_
 exact Q.pssd_cons (Q.psd_expr (Q.pcF O_refuse_shares (hr.mono (by decide)) rfl G_refuse_shares.mg G_refuse_shares.fn.kp G_refuse_shares.bd (Q.pac (Q.dv 1) (Q.pad_nil)))) <|
  Q.pssd_cons (Q.psd_fld E.k_Door E.n_Door_asks_waiting (Q.dv 0) (Q.pd_dc rfl (lcOk (own:=(["group", "share"]:List Str)) (fr:=[0]) rfl) (Q.pid_itemsG (Q.dv 1)) (λ _ _ _ _ _ _=>Q.pgd_tup rfl (Q.pgsd_cons (Q.pgd_name (i:=0) ndc_7 rfl (Or.inl rfl)) (Q.pgsd_cons (Q.pgd_name (i:=1) ndc_7 rfl (Or.inl rfl)) (Q.pgsd_nil)))) (λ _ _ _ _ _ _=>Q.ptsd_nil) (λ _ _ _ _ _ _=>Q.dv 0) (λ _ _ _ _ _ _=>Q.pd_get2 (hu_of hr) (Q.pd_fld E.k_Door E.n_Door_asks_waiting (Q.dv 2)) (Q.dv 0) (Q.pd_int)))) <|
  Q.pssd_cons (Q.psd_fld E.k_Door E.n_Door_owner_round (Q.dv 0) (Q.pcF O_round_of (hr.mono (by decide)) rfl G_round_of.mg G_round_of.fn.kp G_round_of.bd (Q.pac (Q.dv 1) (Q.pad_nil)))) <|
  Q.pssd_one (Q.psd_expr (Q.pd_meth0 (Q.dv 0) E.k_Door G_Door_begin.me O_Door_begin (hr.mono (by decide)) G_Door_begin.bd))
theorem sc_Door_init:FnScope N_Door_init ["self", "shares"] (defScope s_Door_init):=⟨rfl,rfl,rfl,by decide +kernel,rfl,by decide +kernel,by decide +kernel⟩
theorem ok_Door_init {f:Addr}{fd:FuncData}(E:Env K mg)(F:MiD K C_Door "Door.__init__" s_Door_init ["self", "shares"] f fd)
  {f_Door_new_shares:Addr}{fd_Door_new_shares:FuncData}(G_Door_new_shares:Mf K C_Door "new_shares" "Door.new_shares" s_Door_new_shares ["self", "shares"] f_Door_new_shares fd_Door_new_shares)(O_Door_new_shares:FnOk P w K mg base CX0 5 f_Door_new_shares fd_Door_new_shares ["self", "shares"] (upSp K sp_Door_new_shares)) :
  FnOk P w K mg base CX0 6 f fd ["self", "shares"] (upSp K sp_Door_init):=by
 refine fun_okD (t:=t_Door_init sp_Door_new_shares) F.fn sc_Door_init len_Door_init (λ cdv A outer s H E' hr=>?_) read_Door_init
 refine Jd.h ?_
 exact Q.pssd_cons (Q.psd_fld E.k_Door E.n_Door_asks_waiting (Q.dv 0) (Q.pd_newDic)) <|
  Q.pssd_cons (Q.psd_fld E.k_Door E.n_Door_owner_round (Q.dv 0) (Q.pd_lstM (Q.pad_nil))) <|
  Q.pssd_cons (Q.psd_fld E.k_Door E.n_Door_next_slot (Q.dv 0) (Q.pd_int)) <|
  Q.pssd_cons (Q.psd_fld E.k_Door E.n_Door_number_led (Q.dv 0) (Q.pd_non)) <|
  Q.pssd_one (Q.psd_if (Q.ptd_cmp op_notN opd_notN (Q.dv 1) (Q.pd_non))
   (Q.pssd_one (Q.psd_expr (Q.pd_meth (Q.dv 0) E.k_Door G_Door_new_shares.me O_Door_new_shares (hr.mono (by decide)) G_Door_new_shares.bd (Q.pac (Q.dv 1) (Q.pad_nil)))))
   (Q.pssd_nil))
theorem ndc_8:(["_law_row"]:List Str).Nodup:=by decide +kernel
theorem sc_l_model:FnScope N_l_model ["_law_shares_here"] (defScope s_l_model):=⟨rfl,rfl,rfl,by decide +kernel,rfl,by decide +kernel,by decide +kernel⟩
theorem ok_l_model {f:Addr}{fd:FuncData}(E:Env K mg)(F:Fn K mg "_law_model" s_l_model ["_law_shares_here"] f fd) :
  FnOk P w K mg base CX0 1 f fd ["_law_shares_here"] (upSp K sp_l_model):=by
 refine fun_ok (t:=t_l_model) F.fn sc_l_model len_l_model (λ cdv A outer s H E' hr=>?_) read_l_model
 refine Jd.h ?_
 exact Q.pssd_cons (Q.psd_set (i:=1) sc_l_model.nd rfl (Or.inl rfl) (Q.pd_dictM (trs:=[(dC (.d (.str "shares")),dSeal (dCB rdListOf (dCons (dVar 0) (dNil)))),(dC (.d (.str "waits")),dNewDic),(dC (.d (.str "had")),dLCm (dItems (dVar 0)) (gN 0) (dYes) (dC (.d (.int 0))) 1 []),(dC (.d (.str "slot")),dC (.d (.int 0))),(dC (.d (.str "last")),dC (.d (.int 0)))]) (Q.pps_cons (Q.pd_str) (Q.pd_seal (Q.pcT call_list_of cd_listOf rfl E.b_list bt_list (Q.pac (Q.dv 0) (Q.pad_nil)))) (Q.pps_cons (Q.pd_str) (Q.pd_newDic) (Q.pps_cons (Q.pd_str) (Q.pd_lcM rfl (lcOk (own:=(["_law_row"]:List Str)) (fr:=[]) rfl) (Q.pid_items (Q.dv 0)) (λ _ _ _ _ _ _=>Q.pgd_name (i:=0) ndc_8 rfl (Or.inl rfl)) (λ _ _ _ _ _ _=>Q.ptsd_nil) (λ _ _ _ _ _ _=>Q.pd_int)) (Q.pps_cons (Q.pd_str) (Q.pd_int) (Q.pps_cons (Q.pd_str) (Q.pd_int) (Q.pps_nil)))))))) <|
  Q.pssd_cons (Q.psd_for PassesOwn.never rfl (Q.pid_items (Q.dv 0)) (Q.pgd_tup rfl (Q.pgsd_cons (Q.pgd_name (i:=2) sc_l_model.nd rfl (Or.inl rfl)) (Q.pgsd_cons (Q.pgd_name (i:=3) sc_l_model.nd rfl (Or.inl rfl)) (Q.pgsd_nil))))
   (Q.pssd_one (Q.psd_dput (hu_of hr) (Q.pd_dget (hu_of hr) (Q.dv 1) (Q.pd_str)) (Q.dv 2) (Q.pd_int)))) <|
  Q.pssd_one (Q.psd_ret (Q.dv 1))
theorem ndc_9:(["_law_group", "_law_share"]:List Str).Nodup:=by decide +kernel
theorem sc_l_whose:FnScope N_l_whose ["_law_model_here"] (defScope s_l_whose):=⟨rfl,rfl,rfl,by decide +kernel,rfl,by decide +kernel,by decide +kernel⟩
theorem ok_l_whose {f:Addr}{fd:FuncData}(E:Env K mg)(F:Fn K mg "_law_whose" s_l_whose ["_law_model_here"] f fd) :
  FnOk P w K mg base CX0 1 f fd ["_law_model_here"] (upSp K sp_l_whose):=by
 refine fun_ok (t:=t_l_whose) F.fn sc_l_whose len_l_whose (λ cdv A outer s H E' hr=>?_) read_l_whose
 refine Jd.h ?_
 exact Q.pssd_cons (Q.psd_set (i:=1) sc_l_whose.nd rfl (Or.inl rfl) (Q.pcB (call_sumL rfl) cd_sum rfl E.b_sum bb_sum (Q.pac (Q.pd_lc rfl (lcOk (own:=(["_law_group", "_law_share"]:List Str)) (fr:=[]) rfl) (Q.pid_items (Q.pd_dget (hu_of hr) (Q.dv 0) (Q.pd_str))) (λ _ _ _ _ _ _=>Q.pgd_tup rfl (Q.pgsd_cons (Q.pgd_name (i:=0) ndc_9 rfl (Or.inl rfl)) (Q.pgsd_cons (Q.pgd_name (i:=1) ndc_9 rfl (Or.inl rfl)) (Q.pgsd_nil)))) (λ _ _ _ _ _ _=>Q.ptsd_nil) (λ _ _ _ _ _ _=>Q.dv 1)) (Q.pad_nil)))) <|
  Q.pssd_cons (Q.psd_set (i:=2) sc_l_whose.nd rfl (Or.inl rfl) (Q.pd_non)) <|
  Q.pssd_cons (Q.psd_for PassesOwn.never rfl (Q.pid_range1 rfl E.b_range (Q.pac (Q.pcB call_len cd_len rfl E.b_len bb_len (Q.pac (Q.pd_dget (hu_of hr) (Q.dv 0) (Q.pd_str)) (Q.pad_nil))) (Q.pad_nil))) (Q.pgd_name (i:=3) sc_l_whose.nd rfl (Or.inl rfl))
   (Q.pssd_cons (Q.psd_set (i:=4) sc_l_whose.nd rfl (Or.inl rfl) (Q.pd_ix ix_seq opd_ix (Q.pd_ix ix_seq opd_ix (Q.pd_dget (hu_of hr) (Q.dv 0) (Q.pd_str)) (Q.dv 3)) (Q.pd_int))) <|
   Q.pssd_cons (Q.psd_set (i:=5) sc_l_whose.nd rfl (Or.inl rfl) (Q.pd_ix ix_seq opd_ix (Q.pd_dget (hu_of hr) (Q.dv 0) (Q.pd_str)) (Q.dv 3))) <|
   Q.pssd_cons (Q.psd_set (i:=6) sc_l_whose.nd rfl (Or.inl rfl) (Q.pd_op op_add2 opd_add2 (Q.pd_op op_fdiv opd_div (Q.pd_op op_sub opd_sub (Q.pd_op op_mul opd_mul (Q.pd_op op_add2 opd_add2 (Q.dv 5) (Q.pd_int)) (Q.dv 1)) (Q.pd_int)) (Q.dv 4)) (Q.pd_int))) <|
   Q.pssd_one (Q.psd_if (Q.ptd_w (Q.pwd_and (Q.ptd_cmp op_le2 opd_le2 (Q.pd_op op_fdiv opd_div (Q.pd_op op_mul opd_mul (Q.dv 5) (Q.dv 1)) (Q.dv 4)) (Q.pd_dget (hu_of hr) (Q.dv 0) (Q.pd_str))) (Q.pwd_and1 (Q.ptd_w (Q.pwd_or (Q.ptd_cmp op_isN opd_isN (Q.dv 2) (Q.pd_non)) (Q.pwd_or1 (Q.ptd_cmp op_lt opd_lt (Q.dv 6) (Q.pd_ix ix_seq opd_ix (Q.dv 2) (Q.pd_int)))))))))
    (Q.pssd_one (Q.psd_set (i:=2) sc_l_whose.nd rfl (Or.inl rfl) (Q.pd_tup (Q.pac (Q.dv 6) (Q.pac (Q.dv 3) (Q.pad_nil))))))
    (Q.pssd_nil)))) <|
  Q.pssd_one (Q.psd_ret (Q.pd_ifExp (Q.ptd_cmp op_isN opd_isN (Q.dv 2) (Q.pd_non)) (Q.pd_non) (Q.pd_ix ix_seq opd_ix (Q.dv 2) (Q.pd_int))))
theorem sc_Door_slot:FnScope N_Door_slot ["self"] (defScope s_Door_slot):=⟨rfl,rfl,rfl,by decide +kernel,rfl,by decide +kernel,by decide +kernel⟩
theorem ok_Door_slot {f:Addr}{fd:FuncData}(E:Env K mg)(F:Mf K C_Door "slot" "Door.slot" s_Door_slot ["self"] f fd) :
  FnOk P w K mg base CX0 1 f fd ["self"] (upSp K sp_Door_slot):=by
 refine fun_ok (t:=t_Door_slot) F.fn sc_Door_slot len_Door_slot (λ cdv A outer s H E' hr=>?_) read_Door_slot
 refine Jd.h ?_
 exact Q.pssd_one (Q.psd_ret (Q.pd_fld E.k_Door E.n_Door_next_slot (Q.dv 0)))
theorem sc_Door_owner:FnScope N_Door_owner ["self"] (defScope s_Door_owner):=⟨rfl,rfl,rfl,by decide +kernel,rfl,by decide +kernel,by decide +kernel⟩
theorem ok_Door_owner {f:Addr}{fd:FuncData}(E:Env K mg)(F:Mf K C_Door "owner" "Door.owner" s_Door_owner ["self"] f fd) :
  FnOk P w K mg base CX0 1 f fd ["self"] (upSp K sp_Door_owner):=by
 refine fun_ok (t:=t_Door_owner) F.fn sc_Door_owner len_Door_owner (λ cdv A outer s H E' hr=>?_) read_Door_owner
 refine Jd.h ?_
 exact Q.pssd_cons (Q.psd_if (Q.ptd_not (Q.ptd_truth (Q.pd_fld E.k_Door E.n_Door_owner_round (Q.dv 0))))
   (Q.pssd_one (Q.psd_ret (Q.pd_non)))
   (Q.pssd_nil)) <|
  Q.pssd_one (Q.psd_ret (Q.pd_ix ix_seq opd_ix (Q.pd_fld E.k_Door E.n_Door_owner_round (Q.dv 0)) (Q.pd_op op_mod opd_mod (Q.pd_fld E.k_Door E.n_Door_next_slot (Q.dv 0)) (Q.pcB call_len cd_len rfl E.b_len bb_len (Q.pac (Q.pd_fld E.k_Door E.n_Door_owner_round (Q.dv 0)) (Q.pad_nil))))))
theorem sc_Door_waits:FnScope N_Door_waits ["self", "group"] (defScope s_Door_waits):=⟨rfl,rfl,rfl,by decide +kernel,rfl,by decide +kernel,by decide +kernel⟩
theorem ok_Door_waits {f:Addr}{fd:FuncData}(E:Env K mg)(F:Mf K C_Door "waits" "Door.waits" s_Door_waits ["self", "group"] f fd)
  {f_is_word:Addr}{fd_is_word:FuncData}(G_is_word:Fn K mg "is_word" s_is_word ["thing"] f_is_word fd_is_word)(O_is_word:FnOk P w K mg base CX0 1 f_is_word fd_is_word ["thing"] (upSp K sp_is_word)) :
  FnOk P w K mg base CX0 2 f fd ["self", "group"] (upSp K sp_Door_waits):=by
 refine fun_ok (t:=t_Door_waits sp_is_word) F.fn sc_Door_waits len_Door_waits (λ cdv A outer s H E' hr=>?_) read_Door_waits
 refine Jd.h ?_
 exact Q.pssd_cons (Q.psd_if (Q.ptd_w (Q.pwd_or (Q.ptd_not (Q.ptd_val (Q.pcF O_is_word (hr.mono (by decide)) rfl G_is_word.mg G_is_word.fn.kp G_is_word.bd (Q.pac (Q.dv 1) (Q.pad_nil))))) (Q.pwd_or1 (Q.ptd_dnotin (hu_of hr) (Q.dv 1) (Q.pd_fld E.k_Door E.n_Door_asks_waiting (Q.dv 0))))))
   (Q.pssd_one (Q.psd_never))
   (Q.pssd_nil)) <|
  Q.pssd_one (Q.psd_ret (Q.pd_dget (hu_of hr) (Q.pd_fld E.k_Door E.n_Door_asks_waiting (Q.dv 0)) (Q.dv 1)))
theorem ndc_10:(["_law_group", "_law_door", "_law_model_here"]:List Str).Nodup:=by decide +kernel
theorem sc_l_stands:FnScope N_l_stands ["_law_door", "_law_model_here"] (defScope s_l_stands):=⟨rfl,rfl,rfl,by decide +kernel,rfl,by decide +kernel,by decide +kernel⟩
theorem ok_l_stands {f:Addr}{fd:FuncData}(E:Env K mg)(F:Fn K mg "_law_stands" s_l_stands ["_law_door", "_law_model_here"] f fd)
  {f_l_whose:Addr}{fd_l_whose:FuncData}(G_l_whose:Fn K mg "_law_whose" s_l_whose ["_law_model_here"] f_l_whose fd_l_whose)(O_l_whose:FnOk P w K mg base CX0 1 f_l_whose fd_l_whose ["_law_model_here"] (upSp K sp_l_whose))
  {f_Door_slot:Addr}{fd_Door_slot:FuncData}(G_Door_slot:Mf K C_Door "slot" "Door.slot" s_Door_slot ["self"] f_Door_slot fd_Door_slot)(O_Door_slot:FnOk P w K mg base CX0 1 f_Door_slot fd_Door_slot ["self"] (upSp K sp_Door_slot))
  {f_Door_owner:Addr}{fd_Door_owner:FuncData}(G_Door_owner:Mf K C_Door "owner" "Door.owner" s_Door_owner ["self"] f_Door_owner fd_Door_owner)(O_Door_owner:FnOk P w K mg base CX0 1 f_Door_owner fd_Door_owner ["self"] (upSp K sp_Door_owner))
  {f_Door_waits:Addr}{fd_Door_waits:FuncData}(G_Door_waits:Mf K C_Door "waits" "Door.waits" s_Door_waits ["self", "group"] f_Door_waits fd_Door_waits)(O_Door_waits:FnOk P w K mg base CX0 2 f_Door_waits fd_Door_waits ["self", "group"] (upSp K sp_Door_waits)) :
  FnOk P w K mg base CX0 3 f fd ["_law_door", "_law_model_here"] (upSp K sp_l_stands):=by
 refine fun_ok (t:=t_l_stands sp_l_whose sp_Door_slot sp_Door_owner sp_Door_waits) F.fn sc_l_stands len_l_stands (λ cdv A outer s H E' hr=>?_) read_l_stands
 refine Jd.h ?_
 exact Q.pssd_cons (Q.psd_set (i:=2) sc_l_stands.nd rfl (Or.inl rfl) (Q.pcF O_l_whose (hr.mono (by decide)) rfl G_l_whose.mg G_l_whose.fn.kp G_l_whose.bd (Q.pac (Q.dv 1) (Q.pad_nil)))) <|
  Q.pssd_cons (Q.psd_set (i:=3) sc_l_stands.nd rfl (Or.inl rfl) (Q.pd_lst (Q.pac (Q.pd_dget (hu_of hr) (Q.dv 1) (Q.pd_str)) (Q.pac (Q.pd_ifExp (Q.ptd_cmp op_isN opd_isN (Q.dv 2) (Q.pd_non)) (Q.pd_non) (Q.pd_ix ix_seq opd_ix (Q.pd_ix ix_seq opd_ix (Q.pd_dget (hu_of hr) (Q.dv 1) (Q.pd_str)) (Q.dv 2)) (Q.pd_int))) (Q.pad_nil))))) <|
  Q.pssd_cons (Q.psd_if (Q.ptd_w (Q.pwd_or (Q.ptd_cmp (op_neT hr) opd_neT (Q.pd_lst (Q.pac (Q.pd_meth0 (Q.dv 0) E.k_Door G_Door_slot.me O_Door_slot (hr.mono (by decide)) G_Door_slot.bd) (Q.pac (Q.pd_meth0 (Q.dv 0) E.k_Door G_Door_owner.me O_Door_owner (hr.mono (by decide)) G_Door_owner.bd) (Q.pad_nil)))) (Q.dv 3)) (Q.pwd_or1 (Q.ptd_val (Q.pcB call_isiT cd_isiT rfl E.b_isinstance bb_isinstance (Q.pac (Q.pd_meth0 (Q.dv 0) E.k_Door G_Door_slot.me O_Door_slot (hr.mono (by decide)) G_Door_slot.bd) (Q.pac (Q.pd_type rfl E.b_bool bt_bool) (Q.pad_nil))))))))
   (Q.pssd_one (Q.psd_ret (Q.pd_bl)))
   (Q.pssd_nil)) <|
  Q.pssd_one (Q.psd_ret (Q.pcB (call_allD rfl) cd_all rfl E.b_all bb_all (Q.pac (Q.pd_still (Q.pd_lc rfl (lcOk (own:=(["_law_group"]:List Str)) (fr:=[0,1]) rfl) (Q.pid_dkeys (Q.pd_dget (hu_of hr) (Q.dv 1) (Q.pd_str))) (λ _ _ _ _ _ _=>Q.pgd_name (i:=0) ndc_10 rfl (Or.inl rfl)) (λ _ _ _ _ _ _=>Q.ptsd_nil) (λ _ _ _ _ _ _=>Q.pd_cmp (op_eqT hr) opd_eqT (Q.pd_meth (Q.dv 1) E.k_Door G_Door_waits.me O_Door_waits (hr.mono (by decide)) G_Door_waits.bd (Q.pac (Q.dv 0) (Q.pad_nil))) (Q.pd_dget (hu_of hr) (Q.pd_dget (hu_of hr) (Q.dv 2) (Q.pd_str)) (Q.dv 0))))) (Q.pad_nil))))
theorem sc_Door_is_waited_at:FnScope N_Door_is_waited_at ["self"] (defScope s_Door_is_waited_at):=⟨rfl,rfl,rfl,by decide +kernel,rfl,by decide +kernel,by decide +kernel⟩
theorem ok_Door_is_waited_at {f:Addr}{fd:FuncData}(E:Env K mg)(F:Mf K C_Door "is_waited_at" "Door.is_waited_at" s_Door_is_waited_at ["self"] f fd) :
  FnOk P w K mg base CX0 1 f fd ["self"] (upSp K sp_Door_is_waited_at):=by
 refine fun_ok (t:=t_Door_is_waited_at) F.fn sc_Door_is_waited_at len_Door_is_waited_at (λ cdv A outer s H E' hr=>?_) read_Door_is_waited_at
 refine Jd.h ?_
 exact Q.pssd_one (Q.psd_ret (Q.pd_anyV rfl rfl E.b_any (Q.pd_fld E.k_Door E.n_Door_asks_waiting (Q.dv 0))))
theorem ndc_11:(["group", "self"]:List Str).Nodup:=by decide +kernel
theorem sc_Door_use:FnScope N_Door_use ["self"] (defScope s_Door_use):=⟨rfl,rfl,rfl,by decide +kernel,rfl,by decide +kernel,by decide +kernel⟩
theorem ok_Door_use {f:Addr}{fd:FuncData}(E:Env K mg)(F:Mf K C_Door "use" "Door.use" s_Door_use ["self"] f fd)
  {f_Door_is_waited_at:Addr}{fd_Door_is_waited_at:FuncData}(G_Door_is_waited_at:Mf K C_Door "is_waited_at" "Door.is_waited_at" s_Door_is_waited_at ["self"] f_Door_is_waited_at fd_Door_is_waited_at)(O_Door_is_waited_at:FnOk P w K mg base CX0 1 f_Door_is_waited_at fd_Door_is_waited_at ["self"] (upSp K sp_Door_is_waited_at))
  {f_Door_owner:Addr}{fd_Door_owner:FuncData}(G_Door_owner:Mf K C_Door "owner" "Door.owner" s_Door_owner ["self"] f_Door_owner fd_Door_owner)(O_Door_owner:FnOk P w K mg base CX0 1 f_Door_owner fd_Door_owner ["self"] (upSp K sp_Door_owner)) :
  FnOk P w K mg base CX0 2 f fd ["self"] (upSp K sp_Door_use):=by
 refine fun_ok (t:=t_Door_use sp_Door_is_waited_at sp_Door_owner) F.fn sc_Door_use len_Door_use (λ cdv A outer s H E' hr=>?_) read_Door_use
 refine Jd.h ?_
 exact Q.pssd_cons (Q.psd_if (Q.ptd_not (Q.ptd_val (Q.pd_meth0 (Q.dv 0) E.k_Door G_Door_is_waited_at.me O_Door_is_waited_at (hr.mono (by decide)) G_Door_is_waited_at.bd)))
   (Q.pssd_one (Q.psd_ret (Q.pd_non)))
   (Q.pssd_nil)) <|
  Q.pssd_cons (Q.psd_set (i:=1) sc_Door_use.nd rfl (Or.inl rfl) (Q.pd_seal (Q.pcT (call_listD rfl) cd_listD rfl E.b_list bt_list (Q.pac (Q.pd_fld E.k_Door E.n_Door_asks_waiting (Q.dv 0)) (Q.pad_nil))))) <|
  Q.pssd_cons (Q.psd_set (i:=2) sc_Door_use.nd rfl (Or.inl rfl) (Q.pd_indexL hr (Q.dv 1) (Q.pd_meth0 (Q.dv 0) E.k_Door G_Door_owner.me O_Door_owner (hr.mono (by decide)) G_Door_owner.bd))) <|
  Q.pssd_cons (Q.psd_setLC (i:=3) sc_Door_use.nd rfl (Or.inl rfl) rfl (lcOk (own:=(["group"]:List Str)) (fr:=[0]) rfl) (Q.pid_items (Q.pd_cat (Q.pd_slice (Q.dv 1) (Q.pod_some (Q.dv 2)) (Q.pod_none)) (Q.pd_slice (Q.dv 1) (Q.pod_none) (Q.pod_some (Q.dv 2))))) (λ _ _ _ _ _ _=>Q.pgd_name (i:=0) ndc_11 rfl (Or.inl rfl)) (λ _ _ _ _ _ _=>Q.ptsd_one (Q.ptd_cmp op_gt opd_gt (Q.pd_dget (hu_of hr) (Q.pd_fld E.k_Door E.n_Door_asks_waiting (Q.dv 1)) (Q.dv 0)) (Q.pd_int))) (λ _ _ _ _ _ _=>Q.dv 0)) <|
  Q.pssd_cons (Q.psd_augD (hu_of hr) (Q.pd_fld E.k_Door E.n_Door_asks_waiting (Q.dv 0)) (Q.pd_ix ix_seq opd_ix (Q.dv 3) (Q.pd_int)) (Q.pd_int) ip_sub) <|
  Q.pssd_cons (Q.psd_fldaug E.k_Door E.n_Door_next_slot (Q.dv 0) (Q.pd_int) ip_add) <|
  Q.pssd_one (Q.psd_ret (Q.pd_ix ix_seq opd_ix (Q.dv 3) (Q.pd_int)))
theorem sc_Door_ask:FnScope N_Door_ask ["self", "group", "many"] (defScope s_Door_ask):=⟨rfl,rfl,rfl,by decide +kernel,rfl,by decide +kernel,by decide +kernel⟩
theorem ok_Door_ask {f:Addr}{fd:FuncData}(E:Env K mg)(F:Mf K C_Door "ask" "Door.ask" s_Door_ask ["self", "group", "many"] f fd)
  {f_Door_waits:Addr}{fd_Door_waits:FuncData}(G_Door_waits:Mf K C_Door "waits" "Door.waits" s_Door_waits ["self", "group"] f_Door_waits fd_Door_waits)(O_Door_waits:FnOk P w K mg base CX0 2 f_Door_waits fd_Door_waits ["self", "group"] (upSp K sp_Door_waits)) :
  FnOk P w K mg base CX0 3 f fd ["self", "group", "many"] (upSp K sp_Door_ask):=by
 refine fun_ok (t:=t_Door_ask sp_Door_waits) F.fn sc_Door_ask len_Door_ask (λ cdv A outer s H E' hr=>?_) read_Door_ask
 refine Jd.h ?_
 exact Q.pssd_cons (Q.psd_set (i:=3) sc_Door_ask.nd rfl (Or.inl rfl) (Q.pcB (call_max2 rfl) cd_max2 rfl E.b_max bb_max (Q.pac (Q.pcB (call_min2 rfl) cd_min2 rfl E.b_min bb_min (Q.pac (Q.dv 2) (Q.pac (Q.pd_op op_sub opd_sub (Q.pd_globI rfl (E.c_MOST_WAITING).choose_spec) (Q.pd_meth (Q.dv 0) E.k_Door G_Door_waits.me O_Door_waits (hr.mono (by decide)) G_Door_waits.bd (Q.pac (Q.dv 1) (Q.pad_nil)))) (Q.pad_nil)))) (Q.pac (Q.pd_int) (Q.pad_nil))))) <|
  Q.pssd_cons (Q.psd_augD (hu_of hr) (Q.pd_fld E.k_Door E.n_Door_asks_waiting (Q.dv 0)) (Q.dv 1) (Q.dv 3) ip_add) <|
  Q.pssd_one (Q.psd_ret (Q.dv 3))
theorem sc_l_let_in:FnScope N_l_let_in ["_law_model_here", "_law_group", "_law_many"] (defScope s_l_let_in):=⟨rfl,rfl,rfl,by decide +kernel,rfl,by decide +kernel,by decide +kernel⟩
theorem ok_l_let_in {f:Addr}{fd:FuncData}(E:Env K mg)(F:Fn K mg "_law_let_in" s_l_let_in ["_law_model_here", "_law_group", "_law_many"] f fd) :
  FnOk P w K mg base CX0 1 f fd ["_law_model_here", "_law_group", "_law_many"] (upSp K sp_l_let_in):=by
 refine fun_ok (t:=t_l_let_in) F.fn sc_l_let_in len_l_let_in (λ cdv A outer s H E' hr=>?_) read_l_let_in
 refine Jd.h ?_
 exact Q.pssd_cons (Q.psd_set (i:=3) sc_l_let_in.nd rfl (Or.inl rfl) (Q.pcB (call_min2 rfl) cd_min2 rfl E.b_min bb_min (Q.pac (Q.dv 2) (Q.pac (Q.pd_op op_sub opd_sub (Q.pd_int) (Q.pd_dget (hu_of hr) (Q.pd_dget (hu_of hr) (Q.dv 0) (Q.pd_str)) (Q.dv 1))) (Q.pad_nil))))) <|
  Q.pssd_cons (Q.psd_dput (hu_of hr) (Q.pd_dget (hu_of hr) (Q.dv 0) (Q.pd_str)) (Q.dv 1) (Q.pd_op op_add2 opd_add2 (Q.pd_dget (hu_of hr) (Q.pd_dget (hu_of hr) (Q.dv 0) (Q.pd_str)) (Q.dv 1)) (Q.dv 3))) <|
  Q.pssd_one (Q.psd_ret (Q.dv 3))
theorem ndc_12:(["_law_row"]:List Str).Nodup:=by decide +kernel
theorem sc_l_begun:FnScope N_l_begun ["_law_model_here"] (defScope s_l_begun):=⟨rfl,rfl,rfl,by decide +kernel,rfl,by decide +kernel,by decide +kernel⟩
theorem ok_l_begun {f:Addr}{fd:FuncData}(E:Env K mg)(F:Fn K mg "_law_begun" s_l_begun ["_law_model_here"] f fd) :
  FnOk P w K mg base CX0 1 f fd ["_law_model_here"] (upSp K sp_l_begun):=by
 refine fun_ok (t:=t_l_begun) F.fn sc_l_begun len_l_begun (λ cdv A outer s H E' hr=>?_) read_l_begun
 refine Jd.h ?_
 exact Q.pssd_cons (Q.psd_dput (hu_of hr) (Q.dv 0) (Q.pd_str) (Q.pd_lcM rfl (lcOk (own:=(["_law_row"]:List Str)) (fr:=[]) rfl) (Q.pid_items (Q.pd_dget (hu_of hr) (Q.dv 0) (Q.pd_str))) (λ _ _ _ _ _ _=>Q.pgd_name (i:=0) ndc_12 rfl (Or.inl rfl)) (λ _ _ _ _ _ _=>Q.ptsd_nil) (λ _ _ _ _ _ _=>Q.pd_int))) <|
  Q.pssd_one (Q.psd_dput (hu_of hr) (Q.dv 0) (Q.pd_str) (Q.pd_int))
theorem sc_l_reshared:FnScope N_l_reshared ["_law_model_here", "_law_shares_here"] (defScope s_l_reshared):=⟨rfl,rfl,rfl,by decide +kernel,rfl,by decide +kernel,by decide +kernel⟩
theorem ok_l_reshared {f:Addr}{fd:FuncData}(E:Env K mg)(F:Fn K mg "_law_reshared" s_l_reshared ["_law_model_here", "_law_shares_here"] f fd)
  {f_l_begun:Addr}{fd_l_begun:FuncData}(G_l_begun:Fn K mg "_law_begun" s_l_begun ["_law_model_here"] f_l_begun fd_l_begun)(O_l_begun:FnOk P w K mg base CX0 1 f_l_begun fd_l_begun ["_law_model_here"] (upSp K sp_l_begun)) :
  FnOk P w K mg base CX0 2 f fd ["_law_model_here", "_law_shares_here"] (upSp K sp_l_reshared):=by
 refine fun_ok (t:=t_l_reshared sp_l_begun) F.fn sc_l_reshared len_l_reshared (λ cdv A outer s H E' hr=>?_) read_l_reshared
 refine Jd.h ?_
 exact Q.pssd_cons (Q.psd_set (i:=2) sc_l_reshared.nd rfl (Or.inl rfl) (Q.pd_newDic)) <|
  Q.pssd_cons (Q.psd_for PassesOwn.never rfl (Q.pid_items (Q.dv 1)) (Q.pgd_tup rfl (Q.pgsd_cons (Q.pgd_name (i:=3) sc_l_reshared.nd rfl (Or.inl rfl)) (Q.pgsd_cons (Q.pgd_name (i:=4) sc_l_reshared.nd rfl (Or.inl rfl)) (Q.pgsd_nil))))
   (Q.pssd_one (Q.psd_dput (hu_of hr) (Q.dv 2) (Q.dv 3) (Q.pd_get2 (hu_of hr) (Q.pd_dget (hu_of hr) (Q.dv 0) (Q.pd_str)) (Q.dv 3) (Q.pd_int))))) <|
  Q.pssd_cons (Q.psd_expr (Q.pd_dupdM (Q.dv 0) (Q.pd_dictM (trs:=[(dC (.d (.str "shares")),dSeal (dCB rdListOf (dCons (dVar 1) (dNil)))),(dC (.d (.str "waits")),dVar 2)]) (Q.pps_cons (Q.pd_str) (Q.pd_seal (Q.pcT call_list_of cd_listOf rfl E.b_list bt_list (Q.pac (Q.dv 1) (Q.pad_nil)))) (Q.pps_cons (Q.pd_str) (Q.dv 2) (Q.pps_nil)))))) <|
  Q.pssd_one (Q.psd_expr (Q.pcF O_l_begun (hr.mono (by decide)) rfl G_l_begun.mg G_l_begun.fn.kp G_l_begun.bd (Q.pac (Q.dv 0) (Q.pad_nil))))
theorem sc_l_use:FnScope N_l_use ["_law_model_here"] (defScope s_l_use):=⟨rfl,rfl,rfl,by decide +kernel,rfl,by decide +kernel,by decide +kernel⟩
theorem ok_l_use {f:Addr}{fd:FuncData}(E:Env K mg)(F:Fn K mg "_law_use" s_l_use ["_law_model_here"] f fd)
  {f_l_whose:Addr}{fd_l_whose:FuncData}(G_l_whose:Fn K mg "_law_whose" s_l_whose ["_law_model_here"] f_l_whose fd_l_whose)(O_l_whose:FnOk P w K mg base CX0 1 f_l_whose fd_l_whose ["_law_model_here"] (upSp K sp_l_whose)) :
  FnOk P w K mg base CX0 2 f fd ["_law_model_here"] (upSp K sp_l_use):=by
 refine fun_ok (t:=t_l_use sp_l_whose) F.fn sc_l_use len_l_use (λ cdv A outer s H E' hr=>?_) read_l_use
 refine Jd.h ?_
 exact Q.pssd_cons (Q.psd_if (Q.ptd_cmp (op_eqT hr) opd_eqT (Q.pd_sumV rfl rfl E.b_sum (Q.pd_dget (hu_of hr) (Q.dv 0) (Q.pd_str))) (Q.pd_int))
   (Q.pssd_one (Q.psd_ret (Q.pd_non)))
   (Q.pssd_nil)) <|
  Q.pssd_cons (Q.psd_set (i:=1) sc_l_use.nd rfl (Or.inl rfl) (Q.pcF O_l_whose (hr.mono (by decide)) rfl G_l_whose.mg G_l_whose.fn.kp G_l_whose.bd (Q.pac (Q.dv 0) (Q.pad_nil)))) <|
  Q.pssd_cons (Q.psd_asg (Q.pd_op op_add2 opd_add2 (Q.pd_ix ix_seq opd_ix (Q.pd_dget (hu_of hr) (Q.dv 0) (Q.pd_str)) (Q.dv 1)) (Q.pd_int)) (Q.pgd_sub (Q.pd_dget (hu_of hr) (Q.dv 0) (Q.pd_str)) (Q.dv 1))) <|
  Q.pssd_cons (Q.psd_dput (hu_of hr) (Q.dv 0) (Q.pd_str) (Q.pd_op op_add2 opd_add2 (Q.pd_dget (hu_of hr) (Q.dv 0) (Q.pd_str)) (Q.pd_int))) <|
  Q.pssd_cons (Q.psd_set (i:=2) sc_l_use.nd rfl (Or.inl rfl) (Q.pcB call_len cd_len rfl E.b_len bb_len (Q.pac (Q.pd_dget (hu_of hr) (Q.dv 0) (Q.pd_str)) (Q.pad_nil)))) <|
  Q.pssd_cons (Q.psd_for PassesOwn.never rfl (Q.pid_range1 rfl E.b_range (Q.pac (Q.dv 2) (Q.pad_nil))) (Q.pgd_name (i:=3) sc_l_use.nd rfl (Or.inl rfl))
   (Q.pssd_cons (Q.psd_set (i:=4) sc_l_use.nd rfl (Or.inl rfl) (Q.pd_ix ix_seq opd_ix (Q.pd_ix ix_seq opd_ix (Q.pd_dget (hu_of hr) (Q.dv 0) (Q.pd_str)) (Q.pd_op op_mod opd_mod (Q.pd_op op_add2 opd_add2 (Q.dv 1) (Q.dv 3)) (Q.dv 2))) (Q.pd_int))) <|
   Q.pssd_one (Q.psd_if (Q.ptd_cmp op_gt opd_gt (Q.pd_dget (hu_of hr) (Q.pd_dget (hu_of hr) (Q.dv 0) (Q.pd_str)) (Q.dv 4)) (Q.pd_int))
    (Q.pssd_cons (Q.psd_dput (hu_of hr) (Q.pd_dget (hu_of hr) (Q.dv 0) (Q.pd_str)) (Q.dv 4) (Q.pd_op op_sub opd_sub (Q.pd_dget (hu_of hr) (Q.pd_dget (hu_of hr) (Q.dv 0) (Q.pd_str)) (Q.dv 4)) (Q.pd_int))) <|
    Q.pssd_one (Q.psd_ret (Q.dv 4)))
    (Q.pssd_nil)))) <|
  Q.pssd_one (Q.psd_ret (Q.pd_non))
theorem ndc_13:(["_law_group", "_law_share"]:List Str).Nodup:=by decide +kernel
theorem ndc_14:(["_law_group", "_law_bag_here"]:List Str).Nodup:=by decide +kernel
theorem sc_l_deed:FnScope N_l_deed ["_law_bag_here", "_law_door", "_law_model_here"] (defScope s_l_deed):=⟨rfl,rfl,rfl,by decide +kernel,rfl,by decide +kernel,by decide +kernel⟩
theorem ok_l_deed {f:Addr}{fd:FuncData}(E:Env K mg)(F:Fn K mg "_law_deed" s_l_deed ["_law_bag_here", "_law_door", "_law_model_here"] f fd)
  {f_l_take:Addr}{fd_l_take:FuncData}(G_l_take:Fn K mg "_law_take" s_l_take ["_law_bag_here", "_law_many"] f_l_take fd_l_take)(O_l_take:FnOk P w K mg base CX0 1 f_l_take fd_l_take ["_law_bag_here", "_law_many"] (upSp K sp_l_take))
  {f_Door_ask:Addr}{fd_Door_ask:FuncData}(G_Door_ask:Mf K C_Door "ask" "Door.ask" s_Door_ask ["self", "group", "many"] f_Door_ask fd_Door_ask)(O_Door_ask:FnOk P w K mg base CX0 3 f_Door_ask fd_Door_ask ["self", "group", "many"] (upSp K sp_Door_ask))
  {f_l_let_in:Addr}{fd_l_let_in:FuncData}(G_l_let_in:Fn K mg "_law_let_in" s_l_let_in ["_law_model_here", "_law_group", "_law_many"] f_l_let_in fd_l_let_in)(O_l_let_in:FnOk P w K mg base CX0 1 f_l_let_in fd_l_let_in ["_law_model_here", "_law_group", "_law_many"] (upSp K sp_l_let_in))
  {f_Door_begin:Addr}{fd_Door_begin:FuncData}(G_Door_begin:Mf K C_Door "begin" "Door.begin" s_Door_begin ["self"] f_Door_begin fd_Door_begin)(O_Door_begin:FnOk P w K mg base CX0 1 f_Door_begin fd_Door_begin ["self"] (upSp K sp_Door_begin))
  {f_l_begun:Addr}{fd_l_begun:FuncData}(G_l_begun:Fn K mg "_law_begun" s_l_begun ["_law_model_here"] f_l_begun fd_l_begun)(O_l_begun:FnOk P w K mg base CX0 1 f_l_begun fd_l_begun ["_law_model_here"] (upSp K sp_l_begun))
  {f_Door_new_shares:Addr}{fd_Door_new_shares:FuncData}(G_Door_new_shares:Mf K C_Door "new_shares" "Door.new_shares" s_Door_new_shares ["self", "shares"] f_Door_new_shares fd_Door_new_shares)(O_Door_new_shares:FnOk P w K mg base CX0 5 f_Door_new_shares fd_Door_new_shares ["self", "shares"] (upSp K sp_Door_new_shares))
  {f_l_reshared:Addr}{fd_l_reshared:FuncData}(G_l_reshared:Fn K mg "_law_reshared" s_l_reshared ["_law_model_here", "_law_shares_here"] f_l_reshared fd_l_reshared)(O_l_reshared:FnOk P w K mg base CX0 2 f_l_reshared fd_l_reshared ["_law_model_here", "_law_shares_here"] (upSp K sp_l_reshared))
  {f_Door_use:Addr}{fd_Door_use:FuncData}(G_Door_use:Mf K C_Door "use" "Door.use" s_Door_use ["self"] f_Door_use fd_Door_use)(O_Door_use:FnOk P w K mg base CX0 2 f_Door_use fd_Door_use ["self"] (upSp K sp_Door_use))
  {f_l_use:Addr}{fd_l_use:FuncData}(G_l_use:Fn K mg "_law_use" s_l_use ["_law_model_here"] f_l_use fd_l_use)(O_l_use:FnOk P w K mg base CX0 2 f_l_use fd_l_use ["_law_model_here"] (upSp K sp_l_use)) :
  FnOk P w K mg base CX0 6 f fd ["_law_bag_here", "_law_door", "_law_model_here"] (upSp K sp_l_deed):=by
 refine fun_ok (t:=t_l_deed sp_l_take sp_Door_ask sp_l_let_in sp_Door_begin sp_l_begun sp_Door_new_shares sp_l_reshared sp_Door_use sp_l_use) F.fn sc_l_deed len_l_deed (λ cdv A outer s H E' hr=>?_) read_l_deed
 refine Jd.h ?_
 exact Q.pssd_cons (Q.psd_set (i:=3) sc_l_deed.nd rfl (Or.inl rfl) (Q.pcF O_l_take (hr.mono (by decide)) rfl G_l_take.mg G_l_take.fn.kp G_l_take.bd (Q.pac (Q.dv 0) (Q.pac (Q.pd_int) (Q.pad_nil))))) <|
  Q.pssd_cons (Q.psd_setLC (i:=4) sc_l_deed.nd rfl (Or.inl rfl) rfl (lcOk (own:=(["_law_group", "_law_share"]:List Str)) (fr:=[]) rfl) (Q.pid_items (Q.pd_dget (hu_of hr) (Q.dv 2) (Q.pd_str))) (λ _ _ _ _ _ _=>Q.pgd_tup rfl (Q.pgsd_cons (Q.pgd_name (i:=0) ndc_13 rfl (Or.inl rfl)) (Q.pgsd_cons (Q.pgd_name (i:=1) ndc_13 rfl (Or.inl rfl)) (Q.pgsd_nil)))) (λ _ _ _ _ _ _=>Q.ptsd_nil) (λ _ _ _ _ _ _=>Q.dv 0)) <|
  Q.pssd_cons (Q.psd_if (Q.ptd_cmp op_lt opd_lt (Q.dv 3) (Q.pd_int))
   (Q.pssd_cons (Q.psd_set (i:=5) sc_l_deed.nd rfl (Or.inl rfl) (Q.pd_ix ix_seq opd_ix (Q.dv 4) (Q.pcF O_l_take (hr.mono (by decide)) rfl G_l_take.mg G_l_take.fn.kp G_l_take.bd (Q.pac (Q.dv 0) (Q.pac (Q.pcB call_len cd_len rfl E.b_len bb_len (Q.pac (Q.dv 4) (Q.pad_nil))) (Q.pad_nil)))))) <|
   Q.pssd_cons (Q.psd_set (i:=6) sc_l_deed.nd rfl (Or.inl rfl) (Q.pd_op op_add2 opd_add2 (Q.pd_int) (Q.pcF O_l_take (hr.mono (by decide)) rfl G_l_take.mg G_l_take.fn.kp G_l_take.bd (Q.pac (Q.dv 0) (Q.pac (Q.pd_int) (Q.pad_nil)))))) <|
   Q.pssd_one (Q.psd_ret (Q.pd_cmp (op_eqT hr) opd_eqT (Q.pd_meth (Q.dv 1) E.k_Door G_Door_ask.me O_Door_ask (hr.mono (by decide)) G_Door_ask.bd (Q.pac (Q.dv 5) (Q.pac (Q.dv 6) (Q.pad_nil)))) (Q.pcF O_l_let_in (hr.mono (by decide)) rfl G_l_let_in.mg G_l_let_in.fn.kp G_l_let_in.bd (Q.pac (Q.dv 2) (Q.pac (Q.dv 5) (Q.pac (Q.dv 6) (Q.pad_nil))))))))
   (Q.pssd_nil)) <|
  Q.pssd_cons (Q.psd_if (Q.ptd_cmp (op_eqT hr) opd_eqT (Q.dv 3) (Q.pd_int))
   (Q.pssd_cons (Q.psd_for PassesOwn.never rfl (Q.pid_items (Q.dv 4)) (Q.pgd_name (i:=5) sc_l_deed.nd rfl (Or.inl rfl))
    (Q.pssd_one (Q.psd_if (Q.ptd_cmp (op_neT hr) opd_neT (Q.pd_meth (Q.dv 1) E.k_Door G_Door_ask.me O_Door_ask (hr.mono (by decide)) G_Door_ask.bd (Q.pac (Q.dv 5) (Q.pac (Q.pd_int) (Q.pad_nil)))) (Q.pcF O_l_let_in (hr.mono (by decide)) rfl G_l_let_in.mg G_l_let_in.fn.kp G_l_let_in.bd (Q.pac (Q.dv 2) (Q.pac (Q.dv 5) (Q.pac (Q.pd_int) (Q.pad_nil))))))
     (Q.pssd_one (Q.psd_ret (Q.pd_bl)))
     (Q.pssd_nil)))) <|
   Q.pssd_one (Q.psd_ret (Q.pd_bl)))
   (Q.pssd_nil)) <|
  Q.pssd_cons (Q.psd_if (Q.ptd_w (Q.pwd_and (Q.ptd_cmp (op_eqT hr) opd_eqT (Q.dv 3) (Q.pd_int)) (Q.pwd_and1 (Q.ptd_cmp (op_eqT hr) opd_eqT (Q.pcF O_l_take (hr.mono (by decide)) rfl G_l_take.mg G_l_take.fn.kp G_l_take.bd (Q.pac (Q.dv 0) (Q.pac (Q.pd_int) (Q.pad_nil)))) (Q.pd_int)))))
   (Q.pssd_cons (Q.psd_expr (Q.pd_meth0 (Q.dv 1) E.k_Door G_Door_begin.me O_Door_begin (hr.mono (by decide)) G_Door_begin.bd)) <|
   Q.pssd_cons (Q.psd_expr (Q.pcF O_l_begun (hr.mono (by decide)) rfl G_l_begun.mg G_l_begun.fn.kp G_l_begun.bd (Q.pac (Q.dv 2) (Q.pad_nil)))) <|
   Q.pssd_one (Q.psd_ret (Q.pd_bl)))
   (Q.pssd_nil)) <|
  Q.pssd_cons (Q.psd_if (Q.ptd_w (Q.pwd_and (Q.ptd_cmp (op_eqT hr) opd_eqT (Q.dv 3) (Q.pd_int)) (Q.pwd_and1 (Q.ptd_cmp (op_eqT hr) opd_eqT (Q.pcF O_l_take (hr.mono (by decide)) rfl G_l_take.mg G_l_take.fn.kp G_l_take.bd (Q.pac (Q.dv 0) (Q.pac (Q.pd_int) (Q.pad_nil)))) (Q.pd_int)))))
   (Q.pssd_cons (Q.psd_setLC (i:=7) sc_l_deed.nd rfl (Or.inl rfl) rfl (lcOk (own:=(["_law_group"]:List Str)) (fr:=[0]) rfl) (Q.pid_items (Q.dv 4)) (λ _ _ _ _ _ _=>Q.pgd_name (i:=0) ndc_14 rfl (Or.inl rfl)) (λ _ _ _ _ _ _=>Q.ptsd_nil) (λ _ _ _ _ _ _=>Q.pd_tup (Q.pac (Q.dv 0) (Q.pac (Q.pd_op op_add2 opd_add2 (Q.pd_int) (Q.pcF O_l_take (hr.mono (by decide)) rfl G_l_take.mg G_l_take.fn.kp G_l_take.bd (Q.pac (Q.dv 1) (Q.pac (Q.pd_int) (Q.pad_nil))))) (Q.pad_nil))))) <|
   Q.pssd_cons (Q.psd_set (i:=8) sc_l_deed.nd rfl (Or.inl rfl) (Q.pcT call_list_of cd_listOf rfl E.b_list bt_list (Q.pac (Q.dv 7) (Q.pad_nil)))) <|
   Q.pssd_cons (Q.psd_stillL (Q.psd_expr (Q.pd_meth (Q.dv 1) E.k_Door G_Door_new_shares.me O_Door_new_shares (hr.mono (by decide)) G_Door_new_shares.bd (Q.pac (Q.dv 8) (Q.pad_nil))))) <|
   Q.pssd_cons (Q.psd_expr (Q.pd_append (Q.dv 8) (Q.pd_tup (Q.pac (Q.pd_str) (Q.pac (Q.pd_int) (Q.pad_nil)))))) <|
   Q.pssd_cons (Q.psd_expr (Q.pcF O_l_reshared (hr.mono (by decide)) rfl G_l_reshared.mg G_l_reshared.fn.kp G_l_reshared.bd (Q.pac (Q.dv 2) (Q.pac (Q.dv 7) (Q.pad_nil))))) <|
   Q.pssd_one (Q.psd_ret (Q.pd_bl)))
   (Q.pssd_nil)) <|
  Q.pssd_one (Q.psd_ret (Q.pd_cmp (op_eqT hr) opd_eqT (Q.pd_meth0 (Q.dv 1) E.k_Door G_Door_use.me O_Door_use (hr.mono (by decide)) G_Door_use.bd) (Q.pcF O_l_use (hr.mono (by decide)) rfl G_l_use.mg G_l_use.fn.kp G_l_use.bd (Q.pac (Q.dv 2) (Q.pad_nil)))))
theorem sc_law:FnScope N_law ["_law_script"] (defScope s_law):=⟨rfl,rfl,rfl,by decide +kernel,rfl,by decide +kernel,by decide +kernel⟩
theorem ok_law {f:Addr}{fd:FuncData}(E:Env K mg)(F:Fn K mg "law" s_law ["_law_script"] f fd)
  {f_l_bag:Addr}{fd_l_bag:FuncData}(G_l_bag:Fn K mg "_law_bag" s_l_bag ["_law_script"] f_l_bag fd_l_bag)(O_l_bag:FnOk P w K mg base CX0 1 f_l_bag fd_l_bag ["_law_script"] (upSp K sp_l_bag))
  {f_l_shares:Addr}{fd_l_shares:FuncData}(G_l_shares:Fn K mg "_law_shares" s_l_shares ["_law_bag_here"] f_l_shares fd_l_shares)(O_l_shares:FnOk P w K mg base CX0 2 f_l_shares fd_l_shares ["_law_bag_here"] (upSp K sp_l_shares))
  {f_Door_init:Addr}{fd_Door_init:FuncData}(G_Door_init:MiD K C_Door "Door.__init__" s_Door_init ["self", "shares"] f_Door_init fd_Door_init)(O_Door_init:FnOk P w K mg base CX0 6 f_Door_init fd_Door_init ["self", "shares"] (upSp K sp_Door_init))
  {f_l_model:Addr}{fd_l_model:FuncData}(G_l_model:Fn K mg "_law_model" s_l_model ["_law_shares_here"] f_l_model fd_l_model)(O_l_model:FnOk P w K mg base CX0 1 f_l_model fd_l_model ["_law_shares_here"] (upSp K sp_l_model))
  {f_l_stands:Addr}{fd_l_stands:FuncData}(G_l_stands:Fn K mg "_law_stands" s_l_stands ["_law_door", "_law_model_here"] f_l_stands fd_l_stands)(O_l_stands:FnOk P w K mg base CX0 3 f_l_stands fd_l_stands ["_law_door", "_law_model_here"] (upSp K sp_l_stands))
  {f_Door_use:Addr}{fd_Door_use:FuncData}(G_Door_use:Mf K C_Door "use" "Door.use" s_Door_use ["self"] f_Door_use fd_Door_use)(O_Door_use:FnOk P w K mg base CX0 2 f_Door_use fd_Door_use ["self"] (upSp K sp_Door_use))
  {f_l_take:Addr}{fd_l_take:FuncData}(G_l_take:Fn K mg "_law_take" s_l_take ["_law_bag_here", "_law_many"] f_l_take fd_l_take)(O_l_take:FnOk P w K mg base CX0 1 f_l_take fd_l_take ["_law_bag_here", "_law_many"] (upSp K sp_l_take))
  {f_l_deed:Addr}{fd_l_deed:FuncData}(G_l_deed:Fn K mg "_law_deed" s_l_deed ["_law_bag_here", "_law_door", "_law_model_here"] f_l_deed fd_l_deed)(O_l_deed:FnOk P w K mg base CX0 6 f_l_deed fd_l_deed ["_law_bag_here", "_law_door", "_law_model_here"] (upSp K sp_l_deed)) :
  FnOk P w K mg base CX0 8 f fd ["_law_script"] (upSp K sp_law):=by
 refine fun_ok (t:=t_law sp_l_bag sp_l_shares sp_Door_init sp_l_model sp_l_stands sp_Door_use sp_l_take sp_l_deed) F.fn sc_law len_law (λ cdv A outer s H E' hr=>?_) read_law
 refine Jd.h ?_
 exact Q.pssd_cons (Q.psd_set (i:=1) sc_law.nd rfl (Or.inl rfl) (Q.pcF O_l_bag (hr.mono (by decide)) rfl G_l_bag.mg G_l_bag.fn.kp G_l_bag.bd (Q.pac (Q.dv 0) (Q.pad_nil)))) <|
  Q.pssd_cons (Q.psd_set (i:=2) sc_law.nd rfl (Or.inl rfl) (Q.pcF O_l_shares (hr.mono (by decide)) rfl G_l_shares.mg G_l_shares.fn.kp G_l_shares.bd (Q.pac (Q.dv 1) (Q.pad_nil)))) <|
  Q.pssd_cons (Q.psd_set (i:=3) sc_law.nd rfl (Or.inl rfl) (Q.pcT call_list_of cd_listOf rfl E.b_list bt_list (Q.pac (Q.dv 2) (Q.pad_nil)))) <|
  Q.pssd_cons (Q.psd_stillL (Q.psd_set (i:=4) sc_law.nd rfl (Or.inl rfl) (Q.pd_make G_Door_init.mi O_Door_init (hr.mono (by decide)) rfl E.m_Door G_Door_init.bd (Q.pac (Q.dv 3) (Q.pad_nil))))) <|
  Q.pssd_cons (Q.psd_expr (Q.pd_reverse (Q.dv 3))) <|
  Q.pssd_cons (Q.psd_expr (Q.pd_append (Q.dv 3) (Q.pd_tup (Q.pac (Q.pd_str) (Q.pac (Q.pd_int) (Q.pad_nil)))))) <|
  Q.pssd_cons (Q.psd_set (i:=5) sc_law.nd rfl (Or.inl rfl) (Q.pcF O_l_model (hr.mono (by decide)) rfl G_l_model.mg G_l_model.fn.kp G_l_model.bd (Q.pac (Q.dv 2) (Q.pad_nil)))) <|
  Q.pssd_cons (Q.psd_if (Q.ptd_w (Q.pwd_or (Q.ptd_not (Q.ptd_val (Q.pcF O_l_stands (hr.mono (by decide)) rfl G_l_stands.mg G_l_stands.fn.kp G_l_stands.bd (Q.pac (Q.dv 4) (Q.pac (Q.dv 5) (Q.pad_nil)))))) (Q.pwd_or1 (Q.ptd_cmp op_notN opd_notN (Q.pd_meth0 (Q.dv 4) E.k_Door G_Door_use.me O_Door_use (hr.mono (by decide)) G_Door_use.bd) (Q.pd_non)))))
   (Q.pssd_one (Q.psd_ret (Q.pd_bl)))
   (Q.pssd_nil)) <|
  Q.pssd_cons (Q.psd_for PassesOwn.never rfl (Q.pid_range1 rfl E.b_range (Q.pac (Q.pd_op op_add2 opd_add2 (Q.pd_int) (Q.pcF O_l_take (hr.mono (by decide)) rfl G_l_take.mg G_l_take.fn.kp G_l_take.bd (Q.pac (Q.dv 1) (Q.pac (Q.pd_int) (Q.pad_nil))))) (Q.pad_nil))) (Q.pgd_name (i:=6) sc_law.nd rfl (Or.inl rfl))
   (Q.pssd_cons (Q.psd_if (Q.ptd_not (Q.ptd_val (Q.pcF O_l_deed (hr.mono (by decide)) rfl G_l_deed.mg G_l_deed.fn.kp G_l_deed.bd (Q.pac (Q.dv 1) (Q.pac (Q.dv 4) (Q.pac (Q.dv 5) (Q.pad_nil)))))))
    (Q.pssd_one (Q.psd_ret (Q.pd_bl)))
    (Q.pssd_nil)) <|
   Q.pssd_one (Q.psd_if (Q.ptd_w (Q.pwd_and (Q.ptd_cmp (op_eqT hr) opd_eqT (Q.pcF O_l_take (hr.mono (by decide)) rfl G_l_take.mg G_l_take.fn.kp G_l_take.bd (Q.pac (Q.dv 1) (Q.pac (Q.pd_int) (Q.pad_nil)))) (Q.pd_int)) (Q.pwd_and1 (Q.ptd_not (Q.ptd_val (Q.pcF O_l_stands (hr.mono (by decide)) rfl G_l_stands.mg G_l_stands.fn.kp G_l_stands.bd (Q.pac (Q.dv 4) (Q.pac (Q.dv 5) (Q.pad_nil)))))))))
    (Q.pssd_one (Q.psd_ret (Q.pd_bl)))
    (Q.pssd_nil)))) <|
  Q.pssd_one (Q.psd_ret (Q.pcF O_l_stands (hr.mono (by decide)) rfl G_l_stands.mg G_l_stands.fn.kp G_l_stands.bd (Q.pac (Q.dv 4) (Q.pac (Q.dv 5) (Q.pad_nil)))))
theorem all_mk {l:PySem.W.OpenLaw}{w:World}{K:PySem.W.Frag}{h:Heap}{mg:Str->Option Value}{fa:Addr}(X:K.In h)(G:h.Ns mainGlobals mg)(hfa:mg "law" = some (.ref fa))
  {f_l_bag:Addr}{oc_l_bag kV_l_bag dc_l_bag pm_l_bag cd_l_bag ct_l_bag:Value}{od_l_bag an_l_bag:Option Addr}{sl_l_bag:Array (Option Value)}
  (a_l_bag:PySem.W.nsIn K mainGlobals "_law_bag" = some (some (.ref f_l_bag)))(l_l_bag:K.lookup f_l_bag=some ⟨oc_l_bag,od_l_bag,.func (PySem.W.fnOf "_law_bag" "_law_bag" (defArgs s_l_bag) (defBody s_l_bag) (defScope s_l_bag) .none kV_l_bag dc_l_bag pm_l_bag an_l_bag cd_l_bag ct_l_bag),sl_l_bag⟩)(c_l_bag:PySem.W.codeIn K cd_l_bag "_law_bag" = true)(k_l_bag:PySem.W.keepIn K (.ref f_l_bag)=true)
  {f_l_take:Addr}{oc_l_take kV_l_take dc_l_take pm_l_take cd_l_take ct_l_take:Value}{od_l_take an_l_take:Option Addr}{sl_l_take:Array (Option Value)}
  (a_l_take:PySem.W.nsIn K mainGlobals "_law_take" = some (some (.ref f_l_take)))(l_l_take:K.lookup f_l_take=some ⟨oc_l_take,od_l_take,.func (PySem.W.fnOf "_law_take" "_law_take" (defArgs s_l_take) (defBody s_l_take) (defScope s_l_take) .none kV_l_take dc_l_take pm_l_take an_l_take cd_l_take ct_l_take),sl_l_take⟩)(c_l_take:PySem.W.codeIn K cd_l_take "_law_take" = true)(k_l_take:PySem.W.keepIn K (.ref f_l_take)=true)
  {f_l_shares:Addr}{oc_l_shares kV_l_shares dc_l_shares pm_l_shares cd_l_shares ct_l_shares:Value}{od_l_shares an_l_shares:Option Addr}{sl_l_shares:Array (Option Value)}
  (a_l_shares:PySem.W.nsIn K mainGlobals "_law_shares" = some (some (.ref f_l_shares)))(l_l_shares:K.lookup f_l_shares=some ⟨oc_l_shares,od_l_shares,.func (PySem.W.fnOf "_law_shares" "_law_shares" (defArgs s_l_shares) (defBody s_l_shares) (defScope s_l_shares) .none kV_l_shares dc_l_shares pm_l_shares an_l_shares cd_l_shares ct_l_shares),sl_l_shares⟩)(c_l_shares:PySem.W.codeIn K cd_l_shares "_law_shares" = true)(k_l_shares:PySem.W.keepIn K (.ref f_l_shares)=true)
  {f_is_word:Addr}{oc_is_word kV_is_word dc_is_word pm_is_word cd_is_word ct_is_word:Value}{od_is_word an_is_word:Option Addr}{sl_is_word:Array (Option Value)}
  (a_is_word:PySem.W.nsIn K mainGlobals "is_word" = some (some (.ref f_is_word)))(l_is_word:K.lookup f_is_word=some ⟨oc_is_word,od_is_word,.func (PySem.W.fnOf "is_word" "is_word" (defArgs s_is_word) (defBody s_is_word) (defScope s_is_word) .none kV_is_word dc_is_word pm_is_word an_is_word cd_is_word ct_is_word),sl_is_word⟩)(c_is_word:PySem.W.codeIn K cd_is_word "is_word" = true)(k_is_word:PySem.W.keepIn K (.ref f_is_word)=true)
  {f_is_whole:Addr}{oc_is_whole kV_is_whole dc_is_whole pm_is_whole cd_is_whole ct_is_whole:Value}{od_is_whole an_is_whole:Option Addr}{sl_is_whole:Array (Option Value)}
  (a_is_whole:PySem.W.nsIn K mainGlobals "is_whole" = some (some (.ref f_is_whole)))(l_is_whole:K.lookup f_is_whole=some ⟨oc_is_whole,od_is_whole,.func (PySem.W.fnOf "is_whole" "is_whole" (defArgs s_is_whole) (defBody s_is_whole) (defScope s_is_whole) .none kV_is_whole dc_is_whole pm_is_whole an_is_whole cd_is_whole ct_is_whole),sl_is_whole⟩)(c_is_whole:PySem.W.codeIn K cd_is_whole "is_whole" = true)(k_is_whole:PySem.W.keepIn K (.ref f_is_whole)=true)
  {f_is_within:Addr}{oc_is_within kV_is_within dc_is_within pm_is_within cd_is_within ct_is_within:Value}{od_is_within an_is_within:Option Addr}{sl_is_within:Array (Option Value)}
  (a_is_within:PySem.W.nsIn K mainGlobals "is_within" = some (some (.ref f_is_within)))(l_is_within:K.lookup f_is_within=some ⟨oc_is_within,od_is_within,.func (PySem.W.fnOf "is_within" "is_within" (defArgs s_is_within) (defBody s_is_within) (defScope s_is_within) .none kV_is_within dc_is_within pm_is_within an_is_within cd_is_within ct_is_within),sl_is_within⟩)(c_is_within:PySem.W.codeIn K cd_is_within "is_within" = true)(k_is_within:PySem.W.keepIn K (.ref f_is_within)=true)
  {f_is_share_row:Addr}{oc_is_share_row kV_is_share_row dc_is_share_row pm_is_share_row cd_is_share_row ct_is_share_row:Value}{od_is_share_row an_is_share_row:Option Addr}{sl_is_share_row:Array (Option Value)}
  (a_is_share_row:PySem.W.nsIn K mainGlobals "is_share_row" = some (some (.ref f_is_share_row)))(l_is_share_row:K.lookup f_is_share_row=some ⟨oc_is_share_row,od_is_share_row,.func (PySem.W.fnOf "is_share_row" "is_share_row" (defArgs s_is_share_row) (defBody s_is_share_row) (defScope s_is_share_row) .none kV_is_share_row dc_is_share_row pm_is_share_row an_is_share_row cd_is_share_row ct_is_share_row),sl_is_share_row⟩)(c_is_share_row:PySem.W.codeIn K cd_is_share_row "is_share_row" = true)(k_is_share_row:PySem.W.keepIn K (.ref f_is_share_row)=true)
  {f_refuse_shares:Addr}{oc_refuse_shares kV_refuse_shares dc_refuse_shares pm_refuse_shares cd_refuse_shares ct_refuse_shares:Value}{od_refuse_shares an_refuse_shares:Option Addr}{sl_refuse_shares:Array (Option Value)}
  (a_refuse_shares:PySem.W.nsIn K mainGlobals "refuse_shares" = some (some (.ref f_refuse_shares)))(l_refuse_shares:K.lookup f_refuse_shares=some ⟨oc_refuse_shares,od_refuse_shares,.func (PySem.W.fnOf "refuse_shares" "refuse_shares" (defArgs s_refuse_shares) (defBody s_refuse_shares) (defScope s_refuse_shares) .none kV_refuse_shares dc_refuse_shares pm_refuse_shares an_refuse_shares cd_refuse_shares ct_refuse_shares),sl_refuse_shares⟩)(c_refuse_shares:PySem.W.codeIn K cd_refuse_shares "refuse_shares" = true)(k_refuse_shares:PySem.W.keepIn K (.ref f_refuse_shares)=true)
  {f_due_at:Addr}{oc_due_at kV_due_at dc_due_at pm_due_at cd_due_at ct_due_at:Value}{od_due_at an_due_at:Option Addr}{sl_due_at:Array (Option Value)}
  (a_due_at:PySem.W.nsIn K mainGlobals "due_at" = some (some (.ref f_due_at)))(l_due_at:K.lookup f_due_at=some ⟨oc_due_at,od_due_at,.func (PySem.W.fnOf "due_at" "due_at" (defArgs s_due_at) (defBody s_due_at) (defScope s_due_at) .none kV_due_at dc_due_at pm_due_at an_due_at cd_due_at ct_due_at),sl_due_at⟩)(c_due_at:PySem.W.codeIn K cd_due_at "due_at" = true)(k_due_at:PySem.W.keepIn K (.ref f_due_at)=true)
  {f_round_of:Addr}{oc_round_of kV_round_of dc_round_of pm_round_of cd_round_of ct_round_of:Value}{od_round_of an_round_of:Option Addr}{sl_round_of:Array (Option Value)}
  (a_round_of:PySem.W.nsIn K mainGlobals "round_of" = some (some (.ref f_round_of)))(l_round_of:K.lookup f_round_of=some ⟨oc_round_of,od_round_of,.func (PySem.W.fnOf "round_of" "round_of" (defArgs s_round_of) (defBody s_round_of) (defScope s_round_of) .none kV_round_of dc_round_of pm_round_of an_round_of cd_round_of ct_round_of),sl_round_of⟩)(c_round_of:PySem.W.codeIn K cd_round_of "round_of" = true)(k_round_of:PySem.W.keepIn K (.ref f_round_of)=true)
  (cc_round_of:cd_round_of=.ref C_cd_round_of)
  {f_Door_begin:Addr}{oc_Door_begin kV_Door_begin dc_Door_begin pm_Door_begin cd_Door_begin ct_Door_begin:Value}{od_Door_begin an_Door_begin:Option Addr}{sl_Door_begin:Array (Option Value)}
  (a_Door_begin:PySem.W.findIn K (.ref C_Door) "begin" = some (some (.ref f_Door_begin)))(i_Door_begin:PySem.W.isFn K (.ref f_Door_begin)=true)(l_Door_begin:K.lookup f_Door_begin=some ⟨oc_Door_begin,od_Door_begin,.func (PySem.W.fnOf "begin" "Door.begin" (defArgs s_Door_begin) (defBody s_Door_begin) (defScope s_Door_begin) .none kV_Door_begin dc_Door_begin pm_Door_begin an_Door_begin cd_Door_begin ct_Door_begin),sl_Door_begin⟩)(c_Door_begin:PySem.W.codeIn K cd_Door_begin "Door.begin" = true)(k_Door_begin:PySem.W.keepIn K (.ref f_Door_begin)=true)
  {f_Door_new_shares:Addr}{oc_Door_new_shares kV_Door_new_shares dc_Door_new_shares pm_Door_new_shares cd_Door_new_shares ct_Door_new_shares:Value}{od_Door_new_shares an_Door_new_shares:Option Addr}{sl_Door_new_shares:Array (Option Value)}
  (a_Door_new_shares:PySem.W.findIn K (.ref C_Door) "new_shares" = some (some (.ref f_Door_new_shares)))(i_Door_new_shares:PySem.W.isFn K (.ref f_Door_new_shares)=true)(l_Door_new_shares:K.lookup f_Door_new_shares=some ⟨oc_Door_new_shares,od_Door_new_shares,.func (PySem.W.fnOf "new_shares" "Door.new_shares" (defArgs s_Door_new_shares) (defBody s_Door_new_shares) (defScope s_Door_new_shares) .none kV_Door_new_shares dc_Door_new_shares pm_Door_new_shares an_Door_new_shares cd_Door_new_shares ct_Door_new_shares),sl_Door_new_shares⟩)(c_Door_new_shares:PySem.W.codeIn K cd_Door_new_shares "Door.new_shares" = true)(k_Door_new_shares:PySem.W.keepIn K (.ref f_Door_new_shares)=true)
  {f_Door_init:Addr}{oc_Door_init kV_Door_init dc_Door_init pm_Door_init cd_Door_init ct_Door_init:Value}{od_Door_init an_Door_init:Option Addr}{sl_Door_init:Array (Option Value)}
  {T_Door_init:Addr}{dv_Door_init:Value}{n_Door_init:Nat}{oc2_Door_init:Value}{od2_Door_init:Option Addr}{sl2_Door_init:Array (Option Value)}
  (a_Door_init:PySem.W.findIn K (.ref C_Door) "__init__" = some (some (.ref f_Door_init)))(i_Door_init:PySem.W.isFn K (.ref f_Door_init)=true)(l_Door_init:K.lookup f_Door_init=some ⟨oc_Door_init,od_Door_init,.func (PySem.W.fnOf "__init__" "Door.__init__" (defArgs s_Door_init) (defBody s_Door_init) (defScope s_Door_init) (.ref T_Door_init) kV_Door_init dc_Door_init pm_Door_init an_Door_init cd_Door_init ct_Door_init),sl_Door_init⟩)(c_Door_init:PySem.W.codeIn K cd_Door_init "Door.__init__" = true)(k_Door_init:PySem.W.keepIn K (.ref f_Door_init)=true)
  (dt_Door_init:K.lookup T_Door_init=some ⟨oc2_Door_init,od2_Door_init,.seq #[dv_Door_init] n_Door_init,sl2_Door_init⟩)
  {f_l_model:Addr}{oc_l_model kV_l_model dc_l_model pm_l_model cd_l_model ct_l_model:Value}{od_l_model an_l_model:Option Addr}{sl_l_model:Array (Option Value)}
  (a_l_model:PySem.W.nsIn K mainGlobals "_law_model" = some (some (.ref f_l_model)))(l_l_model:K.lookup f_l_model=some ⟨oc_l_model,od_l_model,.func (PySem.W.fnOf "_law_model" "_law_model" (defArgs s_l_model) (defBody s_l_model) (defScope s_l_model) .none kV_l_model dc_l_model pm_l_model an_l_model cd_l_model ct_l_model),sl_l_model⟩)(c_l_model:PySem.W.codeIn K cd_l_model "_law_model" = true)(k_l_model:PySem.W.keepIn K (.ref f_l_model)=true)
  {f_l_whose:Addr}{oc_l_whose kV_l_whose dc_l_whose pm_l_whose cd_l_whose ct_l_whose:Value}{od_l_whose an_l_whose:Option Addr}{sl_l_whose:Array (Option Value)}
  (a_l_whose:PySem.W.nsIn K mainGlobals "_law_whose" = some (some (.ref f_l_whose)))(l_l_whose:K.lookup f_l_whose=some ⟨oc_l_whose,od_l_whose,.func (PySem.W.fnOf "_law_whose" "_law_whose" (defArgs s_l_whose) (defBody s_l_whose) (defScope s_l_whose) .none kV_l_whose dc_l_whose pm_l_whose an_l_whose cd_l_whose ct_l_whose),sl_l_whose⟩)(c_l_whose:PySem.W.codeIn K cd_l_whose "_law_whose" = true)(k_l_whose:PySem.W.keepIn K (.ref f_l_whose)=true)
  {f_Door_slot:Addr}{oc_Door_slot kV_Door_slot dc_Door_slot pm_Door_slot cd_Door_slot ct_Door_slot:Value}{od_Door_slot an_Door_slot:Option Addr}{sl_Door_slot:Array (Option Value)}
  (a_Door_slot:PySem.W.findIn K (.ref C_Door) "slot" = some (some (.ref f_Door_slot)))(i_Door_slot:PySem.W.isFn K (.ref f_Door_slot)=true)(l_Door_slot:K.lookup f_Door_slot=some ⟨oc_Door_slot,od_Door_slot,.func (PySem.W.fnOf "slot" "Door.slot" (defArgs s_Door_slot) (defBody s_Door_slot) (defScope s_Door_slot) .none kV_Door_slot dc_Door_slot pm_Door_slot an_Door_slot cd_Door_slot ct_Door_slot),sl_Door_slot⟩)(c_Door_slot:PySem.W.codeIn K cd_Door_slot "Door.slot" = true)(k_Door_slot:PySem.W.keepIn K (.ref f_Door_slot)=true)
  {f_Door_owner:Addr}{oc_Door_owner kV_Door_owner dc_Door_owner pm_Door_owner cd_Door_owner ct_Door_owner:Value}{od_Door_owner an_Door_owner:Option Addr}{sl_Door_owner:Array (Option Value)}
  (a_Door_owner:PySem.W.findIn K (.ref C_Door) "owner" = some (some (.ref f_Door_owner)))(i_Door_owner:PySem.W.isFn K (.ref f_Door_owner)=true)(l_Door_owner:K.lookup f_Door_owner=some ⟨oc_Door_owner,od_Door_owner,.func (PySem.W.fnOf "owner" "Door.owner" (defArgs s_Door_owner) (defBody s_Door_owner) (defScope s_Door_owner) .none kV_Door_owner dc_Door_owner pm_Door_owner an_Door_owner cd_Door_owner ct_Door_owner),sl_Door_owner⟩)(c_Door_owner:PySem.W.codeIn K cd_Door_owner "Door.owner" = true)(k_Door_owner:PySem.W.keepIn K (.ref f_Door_owner)=true)
  {f_Door_waits:Addr}{oc_Door_waits kV_Door_waits dc_Door_waits pm_Door_waits cd_Door_waits ct_Door_waits:Value}{od_Door_waits an_Door_waits:Option Addr}{sl_Door_waits:Array (Option Value)}
  (a_Door_waits:PySem.W.findIn K (.ref C_Door) "waits" = some (some (.ref f_Door_waits)))(i_Door_waits:PySem.W.isFn K (.ref f_Door_waits)=true)(l_Door_waits:K.lookup f_Door_waits=some ⟨oc_Door_waits,od_Door_waits,.func (PySem.W.fnOf "waits" "Door.waits" (defArgs s_Door_waits) (defBody s_Door_waits) (defScope s_Door_waits) .none kV_Door_waits dc_Door_waits pm_Door_waits an_Door_waits cd_Door_waits ct_Door_waits),sl_Door_waits⟩)(c_Door_waits:PySem.W.codeIn K cd_Door_waits "Door.waits" = true)(k_Door_waits:PySem.W.keepIn K (.ref f_Door_waits)=true)
  {f_l_stands:Addr}{oc_l_stands kV_l_stands dc_l_stands pm_l_stands cd_l_stands ct_l_stands:Value}{od_l_stands an_l_stands:Option Addr}{sl_l_stands:Array (Option Value)}
  (a_l_stands:PySem.W.nsIn K mainGlobals "_law_stands" = some (some (.ref f_l_stands)))(l_l_stands:K.lookup f_l_stands=some ⟨oc_l_stands,od_l_stands,.func (PySem.W.fnOf "_law_stands" "_law_stands" (defArgs s_l_stands) (defBody s_l_stands) (defScope s_l_stands) .none kV_l_stands dc_l_stands pm_l_stands an_l_stands cd_l_stands ct_l_stands),sl_l_stands⟩)(c_l_stands:PySem.W.codeIn K cd_l_stands "_law_stands" = true)(k_l_stands:PySem.W.keepIn K (.ref f_l_stands)=true)
  {f_Door_is_waited_at:Addr}{oc_Door_is_waited_at kV_Door_is_waited_at dc_Door_is_waited_at pm_Door_is_waited_at cd_Door_is_waited_at ct_Door_is_waited_at:Value}{od_Door_is_waited_at an_Door_is_waited_at:Option Addr}{sl_Door_is_waited_at:Array (Option Value)}
  (a_Door_is_waited_at:PySem.W.findIn K (.ref C_Door) "is_waited_at" = some (some (.ref f_Door_is_waited_at)))(i_Door_is_waited_at:PySem.W.isFn K (.ref f_Door_is_waited_at)=true)(l_Door_is_waited_at:K.lookup f_Door_is_waited_at=some ⟨oc_Door_is_waited_at,od_Door_is_waited_at,.func (PySem.W.fnOf "is_waited_at" "Door.is_waited_at" (defArgs s_Door_is_waited_at) (defBody s_Door_is_waited_at) (defScope s_Door_is_waited_at) .none kV_Door_is_waited_at dc_Door_is_waited_at pm_Door_is_waited_at an_Door_is_waited_at cd_Door_is_waited_at ct_Door_is_waited_at),sl_Door_is_waited_at⟩)(c_Door_is_waited_at:PySem.W.codeIn K cd_Door_is_waited_at "Door.is_waited_at" = true)(k_Door_is_waited_at:PySem.W.keepIn K (.ref f_Door_is_waited_at)=true)
  {f_Door_use:Addr}{oc_Door_use kV_Door_use dc_Door_use pm_Door_use cd_Door_use ct_Door_use:Value}{od_Door_use an_Door_use:Option Addr}{sl_Door_use:Array (Option Value)}
  (a_Door_use:PySem.W.findIn K (.ref C_Door) "use" = some (some (.ref f_Door_use)))(i_Door_use:PySem.W.isFn K (.ref f_Door_use)=true)(l_Door_use:K.lookup f_Door_use=some ⟨oc_Door_use,od_Door_use,.func (PySem.W.fnOf "use" "Door.use" (defArgs s_Door_use) (defBody s_Door_use) (defScope s_Door_use) .none kV_Door_use dc_Door_use pm_Door_use an_Door_use cd_Door_use ct_Door_use),sl_Door_use⟩)(c_Door_use:PySem.W.codeIn K cd_Door_use "Door.use" = true)(k_Door_use:PySem.W.keepIn K (.ref f_Door_use)=true)
  {f_Door_ask:Addr}{oc_Door_ask kV_Door_ask dc_Door_ask pm_Door_ask cd_Door_ask ct_Door_ask:Value}{od_Door_ask an_Door_ask:Option Addr}{sl_Door_ask:Array (Option Value)}
  (a_Door_ask:PySem.W.findIn K (.ref C_Door) "ask" = some (some (.ref f_Door_ask)))(i_Door_ask:PySem.W.isFn K (.ref f_Door_ask)=true)(l_Door_ask:K.lookup f_Door_ask=some ⟨oc_Door_ask,od_Door_ask,.func (PySem.W.fnOf "ask" "Door.ask" (defArgs s_Door_ask) (defBody s_Door_ask) (defScope s_Door_ask) .none kV_Door_ask dc_Door_ask pm_Door_ask an_Door_ask cd_Door_ask ct_Door_ask),sl_Door_ask⟩)(c_Door_ask:PySem.W.codeIn K cd_Door_ask "Door.ask" = true)(k_Door_ask:PySem.W.keepIn K (.ref f_Door_ask)=true)
  {f_l_let_in:Addr}{oc_l_let_in kV_l_let_in dc_l_let_in pm_l_let_in cd_l_let_in ct_l_let_in:Value}{od_l_let_in an_l_let_in:Option Addr}{sl_l_let_in:Array (Option Value)}
  (a_l_let_in:PySem.W.nsIn K mainGlobals "_law_let_in" = some (some (.ref f_l_let_in)))(l_l_let_in:K.lookup f_l_let_in=some ⟨oc_l_let_in,od_l_let_in,.func (PySem.W.fnOf "_law_let_in" "_law_let_in" (defArgs s_l_let_in) (defBody s_l_let_in) (defScope s_l_let_in) .none kV_l_let_in dc_l_let_in pm_l_let_in an_l_let_in cd_l_let_in ct_l_let_in),sl_l_let_in⟩)(c_l_let_in:PySem.W.codeIn K cd_l_let_in "_law_let_in" = true)(k_l_let_in:PySem.W.keepIn K (.ref f_l_let_in)=true)
  {f_l_begun:Addr}{oc_l_begun kV_l_begun dc_l_begun pm_l_begun cd_l_begun ct_l_begun:Value}{od_l_begun an_l_begun:Option Addr}{sl_l_begun:Array (Option Value)}
  (a_l_begun:PySem.W.nsIn K mainGlobals "_law_begun" = some (some (.ref f_l_begun)))(l_l_begun:K.lookup f_l_begun=some ⟨oc_l_begun,od_l_begun,.func (PySem.W.fnOf "_law_begun" "_law_begun" (defArgs s_l_begun) (defBody s_l_begun) (defScope s_l_begun) .none kV_l_begun dc_l_begun pm_l_begun an_l_begun cd_l_begun ct_l_begun),sl_l_begun⟩)(c_l_begun:PySem.W.codeIn K cd_l_begun "_law_begun" = true)(k_l_begun:PySem.W.keepIn K (.ref f_l_begun)=true)
  {f_l_reshared:Addr}{oc_l_reshared kV_l_reshared dc_l_reshared pm_l_reshared cd_l_reshared ct_l_reshared:Value}{od_l_reshared an_l_reshared:Option Addr}{sl_l_reshared:Array (Option Value)}
  (a_l_reshared:PySem.W.nsIn K mainGlobals "_law_reshared" = some (some (.ref f_l_reshared)))(l_l_reshared:K.lookup f_l_reshared=some ⟨oc_l_reshared,od_l_reshared,.func (PySem.W.fnOf "_law_reshared" "_law_reshared" (defArgs s_l_reshared) (defBody s_l_reshared) (defScope s_l_reshared) .none kV_l_reshared dc_l_reshared pm_l_reshared an_l_reshared cd_l_reshared ct_l_reshared),sl_l_reshared⟩)(c_l_reshared:PySem.W.codeIn K cd_l_reshared "_law_reshared" = true)(k_l_reshared:PySem.W.keepIn K (.ref f_l_reshared)=true)
  {f_l_use:Addr}{oc_l_use kV_l_use dc_l_use pm_l_use cd_l_use ct_l_use:Value}{od_l_use an_l_use:Option Addr}{sl_l_use:Array (Option Value)}
  (a_l_use:PySem.W.nsIn K mainGlobals "_law_use" = some (some (.ref f_l_use)))(l_l_use:K.lookup f_l_use=some ⟨oc_l_use,od_l_use,.func (PySem.W.fnOf "_law_use" "_law_use" (defArgs s_l_use) (defBody s_l_use) (defScope s_l_use) .none kV_l_use dc_l_use pm_l_use an_l_use cd_l_use ct_l_use),sl_l_use⟩)(c_l_use:PySem.W.codeIn K cd_l_use "_law_use" = true)(k_l_use:PySem.W.keepIn K (.ref f_l_use)=true)
  {f_l_deed:Addr}{oc_l_deed kV_l_deed dc_l_deed pm_l_deed cd_l_deed ct_l_deed:Value}{od_l_deed an_l_deed:Option Addr}{sl_l_deed:Array (Option Value)}
  (a_l_deed:PySem.W.nsIn K mainGlobals "_law_deed" = some (some (.ref f_l_deed)))(l_l_deed:K.lookup f_l_deed=some ⟨oc_l_deed,od_l_deed,.func (PySem.W.fnOf "_law_deed" "_law_deed" (defArgs s_l_deed) (defBody s_l_deed) (defScope s_l_deed) .none kV_l_deed dc_l_deed pm_l_deed an_l_deed cd_l_deed ct_l_deed),sl_l_deed⟩)(c_l_deed:PySem.W.codeIn K cd_l_deed "_law_deed" = true)(k_l_deed:PySem.W.keepIn K (.ref f_l_deed)=true)
  {f_law:Addr}{oc_law kV_law dc_law pm_law cd_law ct_law:Value}{od_law an_law:Option Addr}{sl_law:Array (Option Value)}
  (a_law:PySem.W.nsIn K mainGlobals "law" = some (some (.ref f_law)))(l_law:K.lookup f_law=some ⟨oc_law,od_law,.func (PySem.W.fnOf "law" "law" (defArgs s_law) (defBody s_law) (defScope s_law) .none kV_law dc_law pm_law an_law cd_law ct_law),sl_law⟩)(c_law:PySem.W.codeIn K cd_law "law" = true)(k_law:PySem.W.keepIn K (.ref f_law)=true)
  (aC_Door:PySem.W.nsIn K mainGlobals "Door" = some (some (.ref C_Door)))(pg_Door:PySem.W.plainGet K C_Door Str.empty=true)(hd_Door:PySem.W.hasDictIn K C_Door=true)(po_Door:PySem.W.plainOver K C_Door=true)(sa_Door:PySem.W.findIn K (.ref C_Door) "__setattr__" = some (some (.builtin "object.__setattr__")))(mk_Door:PySem.W.makesIn K C_Door=true)(kc_Door:PySem.W.keepIn K (.ref C_Door)=true)
  (xf_h_round_of:PySem.W.codeHdIn K C_cd_round_of C_tb_round_of=true)
  (n_Door_asks_waiting:PySem.W.findIn K (.ref C_Door) "asks_waiting" = some none)
  (n_Door_next_slot:PySem.W.findIn K (.ref C_Door) "next_slot" = some none)
  (n_Door_number_led:PySem.W.findIn K (.ref C_Door) "number_led" = some none)
  (n_Door_owner_round:PySem.W.findIn K (.ref C_Door) "owner_round" = some none)
  (b_abs:PySem.W.nsIn K mainGlobals "abs" = some none)
  (b_all:PySem.W.nsIn K mainGlobals "all" = some none)
  (b_any:PySem.W.nsIn K mainGlobals "any" = some none)
  (b_bool:PySem.W.nsIn K mainGlobals "bool" = some none)
  (b_enumerate:PySem.W.nsIn K mainGlobals "enumerate" = some none)
  (b_int:PySem.W.nsIn K mainGlobals "int" = some none)
  (b_isinstance:PySem.W.nsIn K mainGlobals "isinstance" = some none)
  (b_len:PySem.W.nsIn K mainGlobals "len" = some none)
  (b_list:PySem.W.nsIn K mainGlobals "list" = some none)
  (b_max:PySem.W.nsIn K mainGlobals "max" = some none)
  (b_min:PySem.W.nsIn K mainGlobals "min" = some none)
  (b_range:PySem.W.nsIn K mainGlobals "range" = some none)
  (b_str:PySem.W.nsIn K mainGlobals "str" = some none)
  (b_sum:PySem.W.nsIn K mainGlobals "sum" = some none)
  (b_tuple:PySem.W.nsIn K mainGlobals "tuple" = some none)
  {t_LONGEST_WORD:Tok}(g_LONGEST_WORD:PySem.W.nsIn K mainGlobals "LONGEST_WORD" = some (some (.int 8 t_LONGEST_WORD)))
  {t_MOST_GROUPS:Tok}(g_MOST_GROUPS:PySem.W.nsIn K mainGlobals "MOST_GROUPS" = some (some (.int 4 t_MOST_GROUPS)))
  {t_MOST_SHARE:Tok}(g_MOST_SHARE:PySem.W.nsIn K mainGlobals "MOST_SHARE" = some (some (.int 9 t_MOST_SHARE)))
  {t_MOST_WAITING:Tok}(g_MOST_WAITING:PySem.W.nsIn K mainGlobals "MOST_WAITING" = some (some (.int 40 t_MOST_WAITING))) :
  ∃ fd:FuncData,(∀ (s:Shared) (v:Value),BindsTo s fd ⟨[v],[]⟩ [("_law_script",v)])/\∀ base:Heap,K.In base->base.Ns mainGlobals mg->FnOk l.prog w K mg base CX0 8 fa fd ["_law_script"] (upSp K sp_law):=by
 have e:=hfa.symm.trans (PySem.W.mg_of X G a_law)
 cases e
 have E:Env K mg:=⟨⟨pg_Door,hd_Door,po_Door,sa_Door⟩,PySem.W.mg_of X G aC_Door,xf_h_round_of,n_Door_asks_waiting,n_Door_next_slot,n_Door_number_led,n_Door_owner_round,PySem.W.mg_none_of X G b_abs,PySem.W.mg_none_of X G b_all,PySem.W.mg_none_of X G b_any,PySem.W.mg_none_of X G b_bool,PySem.W.mg_none_of X G b_enumerate,PySem.W.mg_none_of X G b_int,PySem.W.mg_none_of X G b_isinstance,PySem.W.mg_none_of X G b_len,PySem.W.mg_none_of X G b_list,PySem.W.mg_none_of X G b_max,PySem.W.mg_none_of X G b_min,PySem.W.mg_none_of X G b_range,PySem.W.mg_none_of X G b_str,PySem.W.mg_none_of X G b_sum,PySem.W.mg_none_of X G b_tuple,⟨_,PySem.W.mg_of X G g_LONGEST_WORD⟩,⟨_,PySem.W.mg_of X G g_MOST_GROUPS⟩,⟨_,PySem.W.mg_of X G g_MOST_SHARE⟩,⟨_,PySem.W.mg_of X G g_MOST_WAITING⟩⟩
 have G_l_bag:Fn K mg "_law_bag" s_l_bag ["_law_script"] _ _:=fn_mk X G a_l_bag l_l_bag c_l_bag k_l_bag (λ _ _ _ _ _ _ us hl=>by obtain ⟨_,rfl⟩:=D.len_1 hl; rfl)
 have G_l_take:Fn K mg "_law_take" s_l_take ["_law_bag_here", "_law_many"] _ _:=fn_mk X G a_l_take l_l_take c_l_take k_l_take (λ _ _ _ _ _ _ us hl=>by obtain ⟨_,_,rfl⟩:=D.len_2 hl; rfl)
 have G_l_shares:Fn K mg "_law_shares" s_l_shares ["_law_bag_here"] _ _:=fn_mk X G a_l_shares l_l_shares c_l_shares k_l_shares (λ _ _ _ _ _ _ us hl=>by obtain ⟨_,rfl⟩:=D.len_1 hl; rfl)
 have G_is_word:Fn K mg "is_word" s_is_word ["thing"] _ _:=fn_mk X G a_is_word l_is_word c_is_word k_is_word (λ _ _ _ _ _ _ us hl=>by obtain ⟨_,rfl⟩:=D.len_1 hl; rfl)
 have G_is_whole:Fn K mg "is_whole" s_is_whole ["thing"] _ _:=fn_mk X G a_is_whole l_is_whole c_is_whole k_is_whole (λ _ _ _ _ _ _ us hl=>by obtain ⟨_,rfl⟩:=D.len_1 hl; rfl)
 have G_is_within:Fn K mg "is_within" s_is_within ["thing", "low", "high"] _ _:=fn_mk X G a_is_within l_is_within c_is_within k_is_within (λ _ _ _ _ _ _ us hl=>by obtain ⟨_,_,_,rfl⟩:=D.len_3 hl; rfl)
 have G_is_share_row:Fn K mg "is_share_row" s_is_share_row ["row"] _ _:=fn_mk X G a_is_share_row l_is_share_row c_is_share_row k_is_share_row (λ _ _ _ _ _ _ us hl=>by obtain ⟨_,rfl⟩:=D.len_1 hl; rfl)
 have G_refuse_shares:Fn K mg "refuse_shares" s_refuse_shares ["shares"] _ _:=fn_mk X G a_refuse_shares l_refuse_shares c_refuse_shares k_refuse_shares (λ _ _ _ _ _ _ us hl=>by obtain ⟨_,rfl⟩:=D.len_1 hl; rfl)
 have G_due_at:Fn K mg "due_at" s_due_at ["unit", "whole", "share"] _ _:=fn_mk X G a_due_at l_due_at c_due_at k_due_at (λ _ _ _ _ _ _ us hl=>by obtain ⟨_,_,_,rfl⟩:=D.len_3 hl; rfl)
 have G_round_of:Fn K mg "round_of" s_round_of ["shares"] _ _:=fn_mk X G a_round_of l_round_of c_round_of k_round_of (λ _ _ _ _ _ _ us hl=>by obtain ⟨_,rfl⟩:=D.len_1 hl; rfl)
 have G_Door_begin:Mf K C_Door "begin" "Door.begin" s_Door_begin ["self"] _ _:=mf_mk a_Door_begin i_Door_begin l_Door_begin c_Door_begin k_Door_begin (λ _ _ _ _ _ _ us hl=>by obtain ⟨_,rfl⟩:=D.len_1 hl; rfl)
 have G_Door_new_shares:Mf K C_Door "new_shares" "Door.new_shares" s_Door_new_shares ["self", "shares"] _ _:=mf_mk a_Door_new_shares i_Door_new_shares l_Door_new_shares c_Door_new_shares k_Door_new_shares (λ _ _ _ _ _ _ us hl=>by obtain ⟨_,_,rfl⟩:=D.len_2 hl; rfl)
 have G_Door_init:MiD K C_Door "Door.__init__" s_Door_init ["self", "shares"] _ _:=miD_mk a_Door_init i_Door_init l_Door_init c_Door_init k_Door_init mk_Door kc_Door dt_Door_init (λ us hl=>match us,hl with | [_,_],_=>⟨_,rfl,rfl⟩)
 have G_l_model:Fn K mg "_law_model" s_l_model ["_law_shares_here"] _ _:=fn_mk X G a_l_model l_l_model c_l_model k_l_model (λ _ _ _ _ _ _ us hl=>by obtain ⟨_,rfl⟩:=D.len_1 hl; rfl)
 have G_l_whose:Fn K mg "_law_whose" s_l_whose ["_law_model_here"] _ _:=fn_mk X G a_l_whose l_l_whose c_l_whose k_l_whose (λ _ _ _ _ _ _ us hl=>by obtain ⟨_,rfl⟩:=D.len_1 hl; rfl)
 have G_Door_slot:Mf K C_Door "slot" "Door.slot" s_Door_slot ["self"] _ _:=mf_mk a_Door_slot i_Door_slot l_Door_slot c_Door_slot k_Door_slot (λ _ _ _ _ _ _ us hl=>by obtain ⟨_,rfl⟩:=D.len_1 hl; rfl)
 have G_Door_owner:Mf K C_Door "owner" "Door.owner" s_Door_owner ["self"] _ _:=mf_mk a_Door_owner i_Door_owner l_Door_owner c_Door_owner k_Door_owner (λ _ _ _ _ _ _ us hl=>by obtain ⟨_,rfl⟩:=D.len_1 hl; rfl)
 have G_Door_waits:Mf K C_Door "waits" "Door.waits" s_Door_waits ["self", "group"] _ _:=mf_mk a_Door_waits i_Door_waits l_Door_waits c_Door_waits k_Door_waits (λ _ _ _ _ _ _ us hl=>by obtain ⟨_,_,rfl⟩:=D.len_2 hl; rfl)
 have G_l_stands:Fn K mg "_law_stands" s_l_stands ["_law_door", "_law_model_here"] _ _:=fn_mk X G a_l_stands l_l_stands c_l_stands k_l_stands (λ _ _ _ _ _ _ us hl=>by obtain ⟨_,_,rfl⟩:=D.len_2 hl; rfl)
 have G_Door_is_waited_at:Mf K C_Door "is_waited_at" "Door.is_waited_at" s_Door_is_waited_at ["self"] _ _:=mf_mk a_Door_is_waited_at i_Door_is_waited_at l_Door_is_waited_at c_Door_is_waited_at k_Door_is_waited_at (λ _ _ _ _ _ _ us hl=>by obtain ⟨_,rfl⟩:=D.len_1 hl; rfl)
 have G_Door_use:Mf K C_Door "use" "Door.use" s_Door_use ["self"] _ _:=mf_mk a_Door_use i_Door_use l_Door_use c_Door_use k_Door_use (λ _ _ _ _ _ _ us hl=>by obtain ⟨_,rfl⟩:=D.len_1 hl; rfl)
 have G_Door_ask:Mf K C_Door "ask" "Door.ask" s_Door_ask ["self", "group", "many"] _ _:=mf_mk a_Door_ask i_Door_ask l_Door_ask c_Door_ask k_Door_ask (λ _ _ _ _ _ _ us hl=>by obtain ⟨_,_,_,rfl⟩:=D.len_3 hl; rfl)
 have G_l_let_in:Fn K mg "_law_let_in" s_l_let_in ["_law_model_here", "_law_group", "_law_many"] _ _:=fn_mk X G a_l_let_in l_l_let_in c_l_let_in k_l_let_in (λ _ _ _ _ _ _ us hl=>by obtain ⟨_,_,_,rfl⟩:=D.len_3 hl; rfl)
 have G_l_begun:Fn K mg "_law_begun" s_l_begun ["_law_model_here"] _ _:=fn_mk X G a_l_begun l_l_begun c_l_begun k_l_begun (λ _ _ _ _ _ _ us hl=>by obtain ⟨_,rfl⟩:=D.len_1 hl; rfl)
 have G_l_reshared:Fn K mg "_law_reshared" s_l_reshared ["_law_model_here", "_law_shares_here"] _ _:=fn_mk X G a_l_reshared l_l_reshared c_l_reshared k_l_reshared (λ _ _ _ _ _ _ us hl=>by obtain ⟨_,_,rfl⟩:=D.len_2 hl; rfl)
 have G_l_use:Fn K mg "_law_use" s_l_use ["_law_model_here"] _ _:=fn_mk X G a_l_use l_l_use c_l_use k_l_use (λ _ _ _ _ _ _ us hl=>by obtain ⟨_,rfl⟩:=D.len_1 hl; rfl)
 have G_l_deed:Fn K mg "_law_deed" s_l_deed ["_law_bag_here", "_law_door", "_law_model_here"] _ _:=fn_mk X G a_l_deed l_l_deed c_l_deed k_l_deed (λ _ _ _ _ _ _ us hl=>by obtain ⟨_,_,_,rfl⟩:=D.len_3 hl; rfl)
 have G_law:Fn K mg "law" s_law ["_law_script"] _ _:=fn_mk X G a_law l_law c_law k_law (λ _ _ _ _ _ _ us hl=>by obtain ⟨_,rfl⟩:=D.len_1 hl; rfl)
 refine ⟨PySem.W.fnOf "law" "law" (defArgs s_law) (defBody s_law) (defScope s_law) .none kV_law dc_law pm_law an_law cd_law ct_law,λ s v=>.of_eq rfl,λ base _ _=>?_⟩
 have O_l_bag:=ok_l_bag (P:=l.prog) (w:=w) (base:=base) E G_l_bag
 have O_l_take:=ok_l_take (P:=l.prog) (w:=w) (base:=base) E G_l_take
 have O_l_shares:=ok_l_shares (P:=l.prog) (w:=w) (base:=base) E G_l_shares G_l_take O_l_take
 have O_is_word:=ok_is_word (P:=l.prog) (w:=w) (base:=base) E G_is_word
 have O_is_whole:=ok_is_whole (P:=l.prog) (w:=w) (base:=base) E G_is_whole
 have O_is_within:=ok_is_within (P:=l.prog) (w:=w) (base:=base) E G_is_within G_is_whole O_is_whole
 have O_is_share_row:=ok_is_share_row (P:=l.prog) (w:=w) (base:=base) E G_is_share_row G_is_word O_is_word G_is_within O_is_within
 have O_refuse_shares:=ok_refuse_shares (P:=l.prog) (w:=w) (base:=base) E G_refuse_shares G_is_share_row O_is_share_row
 have O_due_at:=ok_due_at (P:=l.prog) (w:=w) (base:=base) E G_due_at
 have O_round_of:=ok_round_of (P:=l.prog) (w:=w) (base:=base) E G_round_of cc_round_of G_due_at O_due_at
 have O_Door_begin:=ok_Door_begin (P:=l.prog) (w:=w) (base:=base) E G_Door_begin
 have O_Door_new_shares:=ok_Door_new_shares (P:=l.prog) (w:=w) (base:=base) E G_Door_new_shares G_refuse_shares O_refuse_shares G_round_of O_round_of G_Door_begin O_Door_begin
 have O_Door_init:=ok_Door_init (P:=l.prog) (w:=w) (base:=base) E G_Door_init G_Door_new_shares O_Door_new_shares
 have O_l_model:=ok_l_model (P:=l.prog) (w:=w) (base:=base) E G_l_model
 have O_l_whose:=ok_l_whose (P:=l.prog) (w:=w) (base:=base) E G_l_whose
 have O_Door_slot:=ok_Door_slot (P:=l.prog) (w:=w) (base:=base) E G_Door_slot
 have O_Door_owner:=ok_Door_owner (P:=l.prog) (w:=w) (base:=base) E G_Door_owner
 have O_Door_waits:=ok_Door_waits (P:=l.prog) (w:=w) (base:=base) E G_Door_waits G_is_word O_is_word
 have O_l_stands:=ok_l_stands (P:=l.prog) (w:=w) (base:=base) E G_l_stands G_l_whose O_l_whose G_Door_slot O_Door_slot G_Door_owner O_Door_owner G_Door_waits O_Door_waits
 have O_Door_is_waited_at:=ok_Door_is_waited_at (P:=l.prog) (w:=w) (base:=base) E G_Door_is_waited_at
 have O_Door_use:=ok_Door_use (P:=l.prog) (w:=w) (base:=base) E G_Door_use G_Door_is_waited_at O_Door_is_waited_at G_Door_owner O_Door_owner
 have O_Door_ask:=ok_Door_ask (P:=l.prog) (w:=w) (base:=base) E G_Door_ask G_Door_waits O_Door_waits
 have O_l_let_in:=ok_l_let_in (P:=l.prog) (w:=w) (base:=base) E G_l_let_in
 have O_l_begun:=ok_l_begun (P:=l.prog) (w:=w) (base:=base) E G_l_begun
 have O_l_reshared:=ok_l_reshared (P:=l.prog) (w:=w) (base:=base) E G_l_reshared G_l_begun O_l_begun
 have O_l_use:=ok_l_use (P:=l.prog) (w:=w) (base:=base) E G_l_use G_l_whose O_l_whose
 have O_l_deed:=ok_l_deed (P:=l.prog) (w:=w) (base:=base) E G_l_deed G_l_take O_l_take G_Door_ask O_Door_ask G_l_let_in O_l_let_in G_Door_begin O_Door_begin G_l_begun O_l_begun G_Door_new_shares O_Door_new_shares G_l_reshared O_l_reshared G_Door_use O_Door_use G_l_use O_l_use
 have O_law:=ok_law (P:=l.prog) (w:=w) (base:=base) E G_law G_l_bag O_l_bag G_l_shares O_l_shares G_Door_init O_Door_init G_l_model O_l_model G_l_stands O_l_stands G_Door_use O_Door_use G_l_take O_l_take G_l_deed O_l_deed
 exact O_law
end
theorem walk {l:PySem.W.OpenLaw}{q:Program}{loose:List Str}{XP:(Str->Option Value)->Heap->Prop}{YP:World->Heap->Prop}{d:DefRec}{K:Params->PySem.W.Frag}(hq:PyProof.Rows.importsNone q=true)(hn:l.most=some 63)(hdf:d.params.defaults=[])
  (hT:∀ w:World,PySem.W.codeHdIn (K w.params) C_cd_round_of C_tb_round_of=true/\(K w.params).lookup C_tb_round_of=none)(hY:∀ (w:World) (h:Heap),YP w h->(K w.params).In h/\∀ T∈[C_tb_round_of],h.get? T=some { cls:=.none,data:=.fields #[] })
  (F:∀ (w:World) (mg:Str->Option Value) (fa:Addr) (h:Heap),(K w.params).In h->h.Ns mainGlobals mg->mg d.name=some (.ref fa) ->
   ∃ fd:FuncData,(∀ (s:Shared) (u:Value),BindsTo s fd ⟨[u],[]⟩ [("_law_script",u)])/\∀ base:Heap,(K w.params).In base->base.Ns mainGlobals mg->FnOk l.prog w (K w.params) mg base CX0 8 fa fd ["_law_script"] (upSp (K w.params) sp_law)) :
  PySem.W.WalkO q loose XP YP l.row.toRowW d [] (λ f vs=>PySem.call f vs) :=
 L2.walk_ofT (n:=63) (k:=8) (x := "_law_script") (CX:=λ _=>CX0) (sp:=λ w=>upSp (K w.params) sp_law) hq hn (by decide) hdf ⟨rfl,rfl,by decide,by decide⟩ [C_tb_round_of] (λ w T h=>by rw [List.mem_singleton.mp h]; exact ⟨⟨_,(hT w).1⟩,(hT w).2⟩) hY F (λ _ H a ns hl hO hB hS=>D.law_startT (q:=q_round_of) (lpos:=⟨42,41,42,92⟩) hl hO hB hS law_read) λ _ _ _ _ _ z=>z
end K84
namespace PySem.W.Fast
def tw7966180478560518622:=0
def tw5711735147156492219:=0
def tw1843102795002618043:=0
def tw13795442921132488278:=0
def tw8668135320055981078:=0
def tw12887467436279624979:=0
def tw3075886184791985137:=0
def tw6479907291776631274:=0
def tw2700719965942162889:=0
def tw14812984064698084359:=0
def tw12886894522217054371:=0
def tw9358450294868770337:=0
end PySem.W.Fast
open PySem PySem.W PyProof.Rows
set_option maxRecDepth 100000 in
theorem PySem.Challenge.cw_placedworks_k84_slots_used_holds : PySem.Challenge.rw_placedworks_k84_slots_used.Holds := by
 w_on; o_law; k_head; (case hw=>w_witness2)
 k_fill
 refine K84.walk (l:=PySem.Challenge.rw_placedworks_k84_slots_used) ?Q rfl rfl ?T (λ w h Y=>⟨PySem.W.km_in_of Y,PySem.W.km_tabs_of Y⟩) ?F
 case Q=>kernel_rfl
 case T=>(intro w; exact ⟨by kernel_rfl,by kernel_rfl⟩)
 case F =>
  intro w mg fa h KX G hmg
  refine' K84.all_mk KX G hmg ?a_l_bag ?l_l_bag ?c_l_bag ?k_l_bag ?a_l_take ?l_l_take ?c_l_take ?k_l_take ?a_l_shares ?l_l_shares ?c_l_shares ?k_l_shares ?a_is_word ?l_is_word ?c_is_word ?k_is_word ?a_is_whole ?l_is_whole ?c_is_whole ?k_is_whole ?a_is_within ?l_is_within ?c_is_within ?k_is_within ?a_is_share_row ?l_is_share_row ?c_is_share_row ?k_is_share_row ?a_refuse_shares ?l_refuse_shares ?c_refuse_shares ?k_refuse_shares ?a_due_at ?l_due_at ?c_due_at ?k_due_at ?a_round_of ?l_round_of ?c_round_of ?k_round_of ?cc_round_of ?a_Door_begin ?i_Door_begin ?l_Door_begin ?c_Door_begin ?k_Door_begin ?a_Door_new_shares ?i_Door_new_shares ?l_Door_new_shares ?c_Door_new_shares ?k_Door_new_shares ?a_Door_init ?i_Door_init ?l_Door_init ?c_Door_init ?k_Door_init ?dt_Door_init ?a_l_model ?l_l_model ?c_l_model ?k_l_model ?a_l_whose ?l_l_whose ?c_l_whose ?k_l_whose ?a_Door_slot ?i_Door_slot ?l_Door_slot ?c_Door_slot ?k_Door_slot ?a_Door_owner ?i_Door_owner ?l_Door_owner ?c_Door_owner ?k_Door_owner ?a_Door_waits ?i_Door_waits ?l_Door_waits ?c_Door_waits ?k_Door_waits ?a_l_stands ?l_l_stands ?c_l_stands ?k_l_stands ?a_Door_is_waited_at ?i_Door_is_waited_at ?l_Door_is_waited_at ?c_Door_is_waited_at ?k_Door_is_waited_at ?a_Door_use ?i_Door_use ?l_Door_use ?c_Door_use ?k_Door_use ?a_Door_ask ?i_Door_ask ?l_Door_ask ?c_Door_ask ?k_Door_ask ?a_l_let_in ?l_l_let_in ?c_l_let_in ?k_l_let_in ?a_l_begun ?l_l_begun ?c_l_begun ?k_l_begun ?a_l_reshared ?l_l_reshared ?c_l_reshared ?k_l_reshared ?a_l_use ?l_l_use ?c_l_use ?k_l_use ?a_l_deed ?l_l_deed ?c_l_deed ?k_l_deed ?a_law ?l_law ?c_law ?k_law ?aC_Door ?pg_Door ?hd_Door ?po_Door ?sa_Door ?mk_Door ?kc_Door ?xf_h_round_of ?n_Door_asks_waiting ?n_Door_next_slot ?n_Door_number_led ?n_Door_owner_round ?b_abs ?b_all ?b_any ?b_bool ?b_enumerate ?b_int ?b_isinstance ?b_len ?b_list ?b_max ?b_min ?b_range ?b_str ?b_sum ?b_tuple ?g_LONGEST_WORD ?g_MOST_GROUPS ?g_MOST_SHARE ?g_MOST_WAITING
  (case a_l_bag=>k_is)
  (case l_l_bag=>k_is)
  (case c_l_bag=>k_is)
  (case k_l_bag=>k_is)
  (case a_l_take=>k_is)
  (case l_l_take=>k_is)
  (case c_l_take=>k_is)
  (case k_l_take=>k_is)
  (case a_l_shares=>k_is)
  (case l_l_shares=>k_is)
  (case c_l_shares=>k_is)
  (case k_l_shares=>k_is)
  (case a_is_word=>k_is)
  (case l_is_word=>k_is)
  (case c_is_word=>k_is)
  (case k_is_word=>k_is)
  (case a_is_whole=>k_is)
  (case l_is_whole=>k_is)
  (case c_is_whole=>k_is)
  (case k_is_whole=>k_is)
  (case a_is_within=>k_is)
  (case l_is_within=>k_is)
  (case c_is_within=>k_is)
  (case k_is_within=>k_is)
  (case a_is_share_row=>k_is)
  (case l_is_share_row=>k_is)
  (case c_is_share_row=>k_is)
  (case k_is_share_row=>k_is)
  (case a_refuse_shares=>k_is)
  (case l_refuse_shares=>k_is)
  (case c_refuse_shares=>k_is)
  (case k_refuse_shares=>k_is)
  (case a_due_at=>k_is)
  (case l_due_at=>k_is)
  (case c_due_at=>k_is)
  (case k_due_at=>k_is)
  (case a_round_of=>k_is)
  (case l_round_of=>k_is)
  (case c_round_of=>k_is)
  (case k_round_of=>k_is)
  (case cc_round_of=>exact rfl)
  (case a_Door_begin=>k_is)
  (case i_Door_begin=>k_is)
  (case l_Door_begin=>k_is)
  (case c_Door_begin=>k_is)
  (case k_Door_begin=>k_is)
  (case a_Door_new_shares=>k_is)
  (case i_Door_new_shares=>k_is)
  (case l_Door_new_shares=>k_is)
  (case c_Door_new_shares=>k_is)
  (case k_Door_new_shares=>k_is)
  (case a_Door_init=>k_is)
  (case i_Door_init=>k_is)
  (case l_Door_init=>k_is)
  (case c_Door_init=>k_is)
  (case k_Door_init=>k_is)
  (case dt_Door_init=>k_is)
  (case a_l_model=>k_is)
  (case l_l_model=>k_is)
  (case c_l_model=>k_is)
  (case k_l_model=>k_is)
  (case a_l_whose=>k_is)
  (case l_l_whose=>k_is)
  (case c_l_whose=>k_is)
  (case k_l_whose=>k_is)
  (case a_Door_slot=>k_is)
  (case i_Door_slot=>k_is)
  (case l_Door_slot=>k_is)
  (case c_Door_slot=>k_is)
  (case k_Door_slot=>k_is)
  (case a_Door_owner=>k_is)
  (case i_Door_owner=>k_is)
  (case l_Door_owner=>k_is)
  (case c_Door_owner=>k_is)
  (case k_Door_owner=>k_is)
  (case a_Door_waits=>k_is)
  (case i_Door_waits=>k_is)
  (case l_Door_waits=>k_is)
  (case c_Door_waits=>k_is)
  (case k_Door_waits=>k_is)
  (case a_l_stands=>k_is)
  (case l_l_stands=>k_is)
  (case c_l_stands=>k_is)
  (case k_l_stands=>k_is)
  (case a_Door_is_waited_at=>k_is)
  (case i_Door_is_waited_at=>k_is)
  (case l_Door_is_waited_at=>k_is)
  (case c_Door_is_waited_at=>k_is)
  (case k_Door_is_waited_at=>k_is)
  (case a_Door_use=>k_is)
  (case i_Door_use=>k_is)
  (case l_Door_use=>k_is)
  (case c_Door_use=>k_is)
  (case k_Door_use=>k_is)
  (case a_Door_ask=>k_is)
  (case i_Door_ask=>k_is)
  (case l_Door_ask=>k_is)
  (case c_Door_ask=>k_is)
  (case k_Door_ask=>k_is)
  (case a_l_let_in=>k_is)
  (case l_l_let_in=>k_is)
  (case c_l_let_in=>k_is)
  (case k_l_let_in=>k_is)
  (case a_l_begun=>k_is)
  (case l_l_begun=>k_is)
  (case c_l_begun=>k_is)
  (case k_l_begun=>k_is)
  (case a_l_reshared=>k_is)
  (case l_l_reshared=>k_is)
  (case c_l_reshared=>k_is)
  (case k_l_reshared=>k_is)
  (case a_l_use=>k_is)
  (case l_l_use=>k_is)
  (case c_l_use=>k_is)
  (case k_l_use=>k_is)
  (case a_l_deed=>k_is)
  (case l_l_deed=>k_is)
  (case c_l_deed=>k_is)
  (case k_l_deed=>k_is)
  (case a_law=>k_is)
  (case l_law=>k_is)
  (case c_law=>k_is)
  (case k_law=>k_is)
  (case aC_Door=>k_is)
  (case pg_Door=>k_is)
  (case hd_Door=>k_is)
  (case po_Door=>k_is)
  (case sa_Door=>k_is)
  (case mk_Door=>k_is)
  (case kc_Door=>k_is)
  (case xf_h_round_of=>kernel_rfl)
  (case n_Door_asks_waiting=>k_is)
  (case n_Door_next_slot=>k_is)
  (case n_Door_number_led=>k_is)
  (case n_Door_owner_round=>k_is)
  (case b_abs=>k_is)
  (case b_all=>k_is)
  (case b_any=>k_is)
  (case b_bool=>k_is)
  (case b_enumerate=>k_is)
  (case b_int=>k_is)
  (case b_isinstance=>k_is)
  (case b_len=>k_is)
  (case b_list=>k_is)
  (case b_max=>k_is)
  (case b_min=>k_is)
  (case b_range=>k_is)
  (case b_str=>k_is)
  (case b_sum=>k_is)
  (case b_tuple=>k_is)
  (case g_LONGEST_WORD=>k_is)
  (case g_MOST_GROUPS=>k_is)
  (case g_MOST_SHARE=>k_is)
  (case g_MOST_WAITING=>k_is)
