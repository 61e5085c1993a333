import PyProof.Rows.All
import Wide.All
import OpenK.AllK
import Wide.FinOn
import Lean
import PyProof.EqAt
import PyProof.EqKinds
import PyProof.TupleCall
import KE.KSortTup
import KE.KDictSum
import PyProof.Rows.Range3
import PyProof.Rows.SortRev
import PyProof.StrBlock2
import PyProof.ZipIter
import PyProof.Rows.ZipGen
import PyProof.NeKinds
import PyProof.DictCompW
import PyProof.DictWalks
import PyProof.AttrMissHeap
import PyProof.WalksS
import KE.KDictOf
import KE.KListMore
import KE.KEqDict
import PyProof.StationsW
import PyProof.InstStoreFacts
import PyProof.ExcBaseAll.ValueError
import PyProof.ExcClass2
import PyProof.RulesAs
import KE.KTryMore
import PyProof.ExcArgs
import KE.KIsAll
import OpenK.KOwn
import PyProof.P3In
import PyProof.DictUpdate
import PyProof.MeetsSeq2
import KE.KIntText
import KE.KRevSl
import PyProof.Rows.StrLawsPart
import PyProof.EnumMake
import PyProof.Draws
import PySem.Challenge.RW_placedworks_k15_texts_refused
set_option genSizeOf false
set_option genSizeOfSpec false
set_option bootstrap.genMatcherCode false
set_option Elab.async false
set_option linter.all false
set_option maxRecDepth 100000
namespace L2
open PySem PySem.Spec PyProof.Rows
noncomputable abbrev Key:=Sum Int Str
noncomputable def keyIs:Key->Value->Bool
 | .inl k,v=>Value.isInt k v
 | .inr x,v=>Value.isStrOf x v
noncomputable def keyH (w:World):Key->Int
 | .inl k=>hashInt k
 | .inr x=>hashStr w x
theorem keyIs_shape:∀ {k:Key} {v:Value},keyIs k v=true->(∃ i t,k=Sum.inl i/\v=Value.int i t)\/(∃ x t,k=Sum.inr x/\v=Value.str x t)
 | .inl i,v,h=>by
  obtain ⟨t,e⟩:=Value.isInt_shape (k:=i) (v:=v) h
  exact .inl ⟨i,t,rfl,e⟩
 | .inr x,v,h=>by
  obtain ⟨t,e⟩:=Value.isStrOf_shape (x:=x) (v:=v) h
  exact .inr ⟨x,t,rfl,e⟩
theorem keyIs_int (i:Int)(t:Tok):keyIs (.inl i) (.int i t)=true:=by simp [keyIs,Value.isInt]
theorem keyIs_str (x:Str)(t:Tok):keyIs (.inr x) (.str x t)=true:=by simp [keyIs,Value.isStrOf]
theorem key_ll (a b:Int):decide ((Sum.inl a:Key)=Sum.inl b)=(a == b):=by
 by_cases e:a=b
 ·subst e; simp
 ·have h:¬ (Sum.inl a:Key)=Sum.inl b:=λ q=>e (Sum.inl.inj q)
  rw [decide_eq_false h]
  exact (beq_eq_false_iff_ne.mpr e).symm
theorem key_rr (a b:Str):decide ((Sum.inr a:Key)=Sum.inr b)=decide (a=b):=by
 by_cases e:a=b
 ·subst e; simp
 ·have h:¬ (Sum.inr a:Key)=Sum.inr b:=λ q=>e (Sum.inr.inj q)
  rw [decide_eq_false h,decide_eq_false e]
theorem key_lr (a:Int)(b:Str):decide ((Sum.inl a:Key)=Sum.inr b)=false:=decide_eq_false (λ q=>nomatch q)
theorem key_rl (a:Str)(b:Int):decide ((Sum.inr a:Key)=Sum.inl b)=false:=decide_eq_false (λ q=>nomatch q)
noncomputable def mixKind (prog:Program)(w:World):PySem.KeyKind prog w Key where
 is:=keyIs
 hash:=keyH w
 inj:=λ v a b ha hb=>by
  rcases keyIs_shape ha with ⟨i,t,rfl,rfl⟩ | ⟨x,t,rfl,rfl⟩
  ·rcases keyIs_shape hb with ⟨j,u,rfl,e⟩ | ⟨y,u,rfl,e⟩
   ·injection e with e1 _; rw [e1]
   ·exact nomatch e
  ·rcases keyIs_shape hb with ⟨j,u,rfl,e⟩ | ⟨y,u,rfl,e⟩
   ·exact nomatch e
   ·injection e with e1 _; rw [e1]
 byValue:=λ k v h=>by
  rcases keyIs_shape h with ⟨i,t,rfl,rfl⟩ | ⟨x,t,rfl,rfl⟩ <;> rfl
 pyHash:=λ hv h=>by
  rcases keyIs_shape hv with ⟨i,t,rfl,rfl⟩ | ⟨x,t,rfl,rfl⟩
  ·exact wpAny_pyHash_int h
  ·exact wpAny_pyHash_str h
 eqBool:=λ hu hv h=>by
  rcases keyIs_shape hu with ⟨i,t,rfl,rfl⟩ | ⟨x,t,rfl,rfl⟩
  ·rcases keyIs_shape hv with ⟨j,u,rfl,rfl⟩ | ⟨y,u,rfl,rfl⟩
   ·rw [key_ll] at h; exact wpAny_eqBool_int h
   ·rw [key_lr] at h; exact SeqAt.EqAt.int_str i t y u _ _ _ _ h
  ·rcases keyIs_shape hv with ⟨j,u,rfl,rfl⟩ | ⟨y,u,rfl,rfl⟩
   ·rw [key_rl] at h; exact SeqAt.EqAt.str_int x t j u _ _ _ _ h
   ·rw [key_rr] at h; exact wpAny_eqBool_str h
 «strs»:=λ k x t v h=>by
  rcases keyIs_shape h with ⟨i,u,rfl,e⟩ | ⟨y,u,rfl,e⟩
  ·exact nomatch e
  ·injection e with e1 _
   subst e1
   cases v <;> rfl
theorem mixKind_is (prog:Program)(w:World)(k:Key)(v:Value):(mixKind prog w).is k v=keyIs k v:=rfl
theorem mixKind_int (prog:Program)(w:World)(i:Int)(t:Tok):(mixKind prog w).is (.inl i) (.int i t)=true:=keyIs_int i t
theorem mixKind_str (prog:Program)(w:World)(x:Str)(t:Tok):(mixKind prog w).is (.inr x) (.str x t)=true:=keyIs_str x t
end L2
namespace L2
open PySem PySem.Spec PyProof.Rows
inductive V where
 | non | bl (b:Bool) | int (i:Int) | str (x:Str) | byt (b:Array UInt8) | flt (b:UInt64) | ref (a:Addr) | ty (n:String)
 deriving DecidableEq
noncomputable def RelV:V->Value->Prop
 | .non,u=>u=Value.none
 | .bl b,u=>u=Value.bool b
 | .int i,u=>∃ t,u=Value.int i t
 | .str x,u=>∃ t,u=Value.str x t
 | .byt b,u=>∃ t,u=Value.bytes b t
 | .flt b,u=>∃ t,u=Value.float b t
 | .ref a,u=>u=Value.ref a
 | .ty n,u=>u=Value.type n
noncomputable abbrev Vals:List V->List Value->Prop:=Paired RelV
theorem Vals.length {xs:List V}{us:List Value}(r:Vals xs us):xs.length=us.length:=Paired.length r
theorem Vals.get:∀ {xs:List V} {us:List Value} {i:Nat} {x:V},Vals xs us->xs[i]? = some x->∃ u,us[i]? = some u/\RelV x u
 | _,_,_,_,.nil,e=>by simp at e
 | _,_,0,_,.cons r _,e=>by simp at e; subst e; exact ⟨_,rfl,r⟩
 | _,_,i+1,x,.cons _ t,e=>by
  obtain ⟨u,h1,h2⟩:=Vals.get (i:=i) (x:=x) t (by simpa using e)
  exact ⟨u,by simpa using h1,h2⟩
theorem Vals.set {x:V}{u:Value}(r:RelV x u):∀ {xs:List V} {us:List Value} (i:Nat),Vals xs us->Vals (xs.set i x) (us.set i u)
 | _,_,_,.nil=>.nil
 | _,_,0,.cons _ t=>.cons r t
 | _,_,i+1,.cons q t=>.cons q (Vals.set r i t)
theorem Vals.append:∀ {xs ys:List V} {us ws:List Value},Vals xs us->Vals ys ws->Vals (xs++ys) (us++ws)
 | _,_,_,_,.nil,s=>s
 | _,_,_,_,.cons r t,s=>.cons r (Vals.append t s)
theorem Vals.take:∀ {xs:List V} {us:List Value} (n:Nat),Vals xs us->Vals (xs.take n) (us.take n)
 | _,_,0,_=>.nil
 | _,_,_+1,.nil=>.nil
 | _,_,n+1,.cons r t=>.cons r (Vals.take n t)
theorem Vals.drop:∀ {xs:List V} {us:List Value} (n:Nat),Vals xs us->Vals (xs.drop n) (us.drop n)
 | _,_,0,r=>r
 | _,_,_+1,.nil=>.nil
 | _,_,n+1,.cons _ t=>Vals.drop n t
theorem Vals.none_of:∀ {xs:List V} {us:List Value} {i:Nat},Vals xs us->xs[i]? = none->us[i]? = none:=λ {xs us i} r e=>by
 have h1:=r.length
 have h2:xs.length<=i:=List.getElem?_eq_none_iff.mp e
 exact List.getElem?_eq_none_iff.mpr (by omega)
noncomputable def RelO:Option V->Option Value->Prop
 | some v,some u=>RelV v u
 | none,none=>True
 | _,_=>False
noncomputable def KV {κ:Type}:List (κ×V)->List (κ×Value)->Prop:=Paired λ (p:κ×V) (q:κ×Value)=>p.1=q.1/\RelV p.2 q.2
noncomputable def kV:Key->V
 | .inl i=>.int i
 | .inr x=>.str x
inductive HO where
 | lst (xs:List V)
 | tup (xs:List V)
 | dK (kvs:List (Key×V)) | dT (kvs:List (List Key×V))
 | set (S:Int->Bool) (n:Nat)
 | ins (C dx:Addr) (fs:List (Str×V))
 | own (x:Addr)
 | xd (fs:List (Str×V))
 | met (f x:Addr)
 | rng (lo hi:Int)
 | frz (o:Obj) (u:HO)
 | tbl (ps:Array Value)
 | ext (φ:Heap->Prop)
noncomputable abbrev Hp:=Addr->Option HO
noncomputable def upd (H:Hp)(a:Addr)(o:HO):Hp:=λ b=>if b=a then some o else H b
theorem upd_same {H:Hp}{a:Addr}{o:HO}:upd H a o a=some o:=by unfold upd; rw [if_pos rfl]
theorem upd_ne {H:Hp}{a b:Addr}{o:HO}(h:b≠a):upd H a o b=H b:=by unfold upd; rw [if_neg h]
theorem upd_upd {H:Hp}{a:Addr}{o u:HO}:upd (upd H a o) a u=upd H a u:=by
 funext b; unfold upd; split <;> rfl
theorem ne_of {H:Hp}{a b:Addr}{o u:HO}(h:H a=some o)(h':H b=some u)(d:o≠u):a≠b:=by
 intro e; subst e; rw [h] at h'; exact d (Option.some.inj h')
theorem ne_of_none {H:Hp}{a b:Addr}{o:HO}(h:H a=some o)(h':H b=none):a≠b:=by
 intro e; subst e; rw [h] at h'; cases h'
noncomputable def TupN (h:Heap)(a:Addr)(items:Array Value):Prop:=∃ o,h.get? a=some o/\o.cls=.type "tuple" /\ o.dict=none/\∃ n,o.data=.seq items n
theorem TupN.tup {h:Heap}{a:Addr}{items:Array Value}(x:TupN h a items):IsTup h a items:=let ⟨o,h1,h2,_,h3⟩:=x; ⟨o,h1,h2,h3⟩
theorem TupN.new (h:Heap)(items:Array Value):TupN (h.push { cls:=.type "tuple",data:=.seq items }) h.objs.size items:=⟨_,Heap.get?_push_size _ rfl,rfl,rfl,_,rfl⟩
section
variable (P:Program)(w:World)
noncomputable def ObjOk (H:Hp)(h:Heap)(a:Addr):HO->Prop
 | .lst xs=>xs.length<=sizeLine/\∃ (its:List Value) (n:Nat),Vals xs its/\h.get? a=some { cls:=.type "list",data:=.seq its.toArray n }
 | .tup xs=>xs.length<=sizeLine/\∃ its:List Value,Vals xs its/\TupN h a its.toArray
 | .dK kvs=>kvs.length<=sizeLine/\(a == sysModules)=false/\∃ vs,KV kvs vs/\h.DictOf (mixKind P w) a vs
 | .dT kvs=>kvs.length<=sizeLine/\(a == sysModules)=false/\∃ xs:List (List Key×Addr×Value),
   Paired (λ (p:List Key×V) (q:List Key×Addr×Value)=>p.1=q.1/\H q.2.1=some (.tup (p.1.map kV))/\RelV p.2 q.2.2) kvs xs /\
   ∃ o es ep,h.get? a=some o/\o.ExactDict/\o.data=.dict es ep/\es.toList=xs.map (entryOfKey (tupleKind (mixKind P w)))/\(xs.map (·.1)).Nodup
 | .set S n=>h.SetOf (intKind P w) a S n
 | .ins C dx fs=>H dx=some (.own a)/\fs.length<=1000/\dx≠a/\h.get? a=some (PySem.W.instObj C dx) /\
   ∃ mA,h.Ns1 dx mA/\(∀ f,RelO (fs.lookup f) (mA f))/\PySem.Within mA (fs.map (·.1))
 | .own _=>∃ o,h.get? a=some o
 | .xd fs=>∃ mA,h.Ns1 a mA/\∀ f,RelO (fs.lookup f) (mA f)
 | .rng lo hi=>∃ t u v,h.get? a=some { cls:=.type "range",data:=.fields #[.int lo t,.int hi u,.int 1 v] }
 | .frz o u=>h.get? a=some o/\ObjOk H h a u
 | .tbl ps=>h.get? a=some { cls:=.none,data:=.fields ps }
 | .met f x=>h.get? a=some (PySem.W.methodObj (.ref f) (.ref x))
 | .ext φ=>φ h/\(∃ o,h.get? a=some o)/\∀ h1 h2:Heap,φ h1->(∀ o,h1.get? a=some o->h2.get? a=some o)->φ h2
noncomputable def HOk (H:Hp)(h:Heap):Prop:=∀ a o,H a=some o->ObjOk P w H h a o
end
section
variable {P:Program}{w:World}{H H':Hp}{h h':Heap}{a:Addr}{o:HO}
theorem ObjOk.lt (x:ObjOk P w H h a o):a < h.objs.size:=by
 cases o with
 | lst xs=>obtain ⟨_,_,_,_,e⟩:=x; exact Heap.lt_size e
 | tup xs=>obtain ⟨_,_,_,p⟩:=x; exact p.tup.lt
 | dK kvs=>obtain ⟨_,_,_,_,o,_,_,e,_⟩:=x; exact Heap.lt_size e
 | dT kvs=>obtain ⟨_,_,_,_,o,_,_,e,_⟩:=x; exact Heap.lt_size e
 | set S n=>obtain ⟨o,_,_,_,e,_⟩:=x; exact Heap.lt_size e
 | ins C dx fs=>obtain ⟨_,_,_,e,_⟩:=x; exact Heap.lt_size e
 | own y=>obtain ⟨_,e⟩:=x; exact Heap.lt_size e
 | xd fs=>obtain ⟨_,⟨_,_,_,e,_⟩,_⟩:=x; exact Heap.lt_size e
 | rng lo hi=>obtain ⟨_,_,_,e⟩:=x; exact Heap.lt_size e
 | frz ob u=>obtain ⟨e,_⟩:=x; exact Heap.lt_size e
 | tbl ps=>exact Heap.lt_size (show h.get? a=some _ from x)
 | met f y=>exact Heap.lt_size (show h.get? a=some _ from x)
 | ext φ=>obtain ⟨_,⟨_,e⟩,_⟩:=x; exact Heap.lt_size e
theorem Paired.mapP {α β:Type}{F G:α->β->Prop}:∀ {l₁:List α} {l₂:List β},Paired F l₁ l₂->(∀ a b,F a b->G a b)->Paired G l₁ l₂
 | _,_,.nil,_=>.nil
 | _,_,.cons r t,f=>.cons (f _ _ r) (Paired.mapP t f)
theorem ObjOk.stay (x:ObjOk P w H h a o)(k:∀ b u,(b=a\/H b=some (.own a))->h.get? b=some u->h'.get? b=some u)
  (ho:∀ b,H b=some (.own a)->H' b=some (.own a))(ht:∀ b xs,H b=some (.tup xs)->H' b=some (.tup xs)):ObjOk P w H' h' a o:=by
 induction o with
 | lst xs=>obtain ⟨z,its,n,r,e⟩:=x; exact ⟨z,its,n,r,k _ _ (.inl rfl) e⟩
 | tup xs=>obtain ⟨z,its,r,ob,e,c⟩:=x; exact ⟨z,its,r,ob,k _ _ (.inl rfl) e,c⟩
 | dK kvs=>obtain ⟨z,y,vs,r,ob,es,ep,e,c⟩:=x; exact ⟨z,y,vs,r,ob,es,ep,k _ _ (.inl rfl) e,c⟩
 | dT kvs =>
  obtain ⟨z,y,xs,r,ob,es,ep,e,c⟩:=x
  exact ⟨z,y,xs,Paired.mapP r λ p q z=>⟨z.1,ht _ _ z.2.1,z.2.2⟩,ob,es,ep,k _ _ (.inl rfl) e,c⟩
 | set S n=>obtain ⟨ob,es,ep,t,e,c⟩:=x; exact ⟨ob,es,ep,t,k _ _ (.inl rfl) e,c⟩
 | ins C dx fs =>
  obtain ⟨d,z,ne,e,mA,⟨od,es,ep,e2,c⟩,r⟩:=x
  exact ⟨ho _ d,z,ne,k _ _ (.inl rfl) e,mA,⟨od,es,ep,k _ _ (.inr d) e2,c⟩,r⟩
 | own y=>obtain ⟨ob,e⟩:=x; exact ⟨ob,k _ _ (.inl rfl) e⟩
 | xd fs=>obtain ⟨mA,⟨od,es,ep,e,c⟩,r⟩:=x; exact ⟨mA,⟨od,es,ep,k _ _ (.inl rfl) e,c⟩,r⟩
 | rng lo hi=>obtain ⟨t,u,v,e⟩:=x; exact ⟨t,u,v,k _ _ (.inl rfl) e⟩
 | frz ob u ih=>obtain ⟨e,q⟩:=x; exact ⟨k _ _ (.inl rfl) e,ih q⟩
 | tbl ps =>
  have e:h.get? a=some { cls:=.none,data:=.fields ps }:=x
  show h'.get? a=some { cls:=.none,data:=.fields ps }
  exact k a _ (.inl rfl) e
 | met f y =>
  have e:h.get? a=some (PySem.W.methodObj (.ref f) (.ref y)):=x
  show h'.get? a=some (PySem.W.methodObj (.ref f) (.ref y))
  exact k a _ (.inl rfl) e
 | ext φ=>obtain ⟨p,⟨o,e⟩,st⟩:=x; exact ⟨st _ _ p λ o q=>k _ _ (.inl rfl) q,⟨o,k _ _ (.inl rfl) e⟩,st⟩
theorem HOk.lt (x:HOk P w H h)(e:H a=some o):a < h.objs.size:=(x a o e).lt
theorem HOk.fresh (x:HOk P w H h)(e:h.objs.size<=a):H a=none:=by
 cases q:H a with
 | none=>rfl
 | some u=>exact absurd (Nat.lt_of_lt_of_le (x.lt q) e) (Nat.lt_irrefl _)
theorem HOk.kept (x:HOk P w H h)(k:∀ b u,h.get? b=some u->h'.get? b=some u):HOk P w H h':=λ a o e =>
 (x a o e).stay (λ b u _ q=>k b u q) (λ _ q=>q) λ _ _ q=>q
theorem HOk.laid (x:HOk P w H h)(k:∀ b u,h.get? b=some u->h'.get? b=some u)(hp:h.objs.size<=a)(new:ObjOk P w (upd H a o) h' a o):HOk P w (upd H a o) h':=λ b u e=>by
 have hn:=x.fresh hp
 by_cases hb:b=a
 ·subst hb; rw [upd_same] at e; cases e; exact new
 ·rw [upd_ne hb] at e
  exact (x b u e).stay (λ c v _ q=>k c v q) (λ c q=>by rw [upd_ne (ne_of_none q hn)]; exact q) λ c xs q=>by rw [upd_ne (ne_of_none q hn)]; exact q
end
noncomputable def Rd (H:Hp)(a:Addr)(u:HO):Prop:=H a=some u\/∃ o,H a=some (.frz o u)
theorem Rd.of {H:Hp}{a:Addr}{u:HO}(h:H a=some u):Rd H a u:=.inl h
theorem Rd.ok {P:Program}{w:World}{H:Hp}{h:Heap}{a:Addr}{u:HO}(r:Rd H a u)(x:HOk P w H h):ObjOk P w H h a u:=by
 rcases r with r | ⟨o,r⟩
 ·exact x a u r
 ·obtain ⟨_,q⟩:=x a _ r
  exact q
noncomputable def Mut:Option HO->Prop
 | some (.lst _)=>True
 | some (.dK _)=>True
 | some (.dT _)=>True
 | some (.set _ _)=>True
 | some (.ins _ _ _)=>True
 | some (.ext _)=>True
 | _=>False
section
variable {P:Program}{w:World}{H:Hp}{h h':Heap}{x e:Addr}{o':HO}
theorem HOk.write (ok:HOk P w H h)(mu:Mut (H x))(he:e=x\/H e=some (.own x))(k:∀ b u,b≠e->h.get? b=some u->h'.get? b=some u)(heo:∃ u,h'.get? e=some u)
  (new:ObjOk P w (upd H x o') h' x o'):HOk P w (upd H x o') h':=λ b u q=>by
 have nown:∀ c y,H c=some (.own y)->c≠x:=λ c y r z=>by subst z; rw [r] at mu; exact mu
 have ntup:∀ c xs,H c=some (.tup xs)->c≠x:=λ c xs r z=>by subst z; rw [r] at mu; exact mu
 by_cases hb:b=x
 ·subst hb; rw [upd_same] at q; cases q; exact new
 ·rw [upd_ne hb] at q
  by_cases hbe:b=e
  ·have q':H b=some (.own x):=by
    rcases he with z | z
    ·exact absurd (hbe.trans z) hb
    ·rw [hbe]; exact z
   rw [q] at q'; cases q'
   obtain ⟨v,hv⟩:=heo
   exact ⟨v,by rw [hbe]; exact hv⟩
  ·refine (ok b u q).stay (λ c v hc r=>k c v ?_ r) (λ c r=>by rw [upd_ne (nown c b r)]; exact r) λ c xs r=>by rw [upd_ne (ntup c xs r)]; exact r
   rcases hc with rfl | hc
   ·exact hbe
   ·rintro rfl
    rcases he with z | z
    ·exact nown c b hc z
    ·rw [hc] at z; cases z; exact hb rfl
end
structure Un (fs ex:List Addr)(H H':Hp)(h h':Heap):Prop where
 keep:∀ b o,h.get? b=some o->H b=none->b ∉ fs->b ∉ ex->h'.get? b=some o
 slot:∀ b o,h.get? b=some o->H b=none->b∈fs->b ∉ ex->∃ sl,h'.get? b=some { o with slots:=sl }
 free:∀ b o,h.get? b=some o->H b=none->b ∉ ex->H' b=none
 there:∀ b o,h.get? b=some o->b ∉ ex->∃ o',h'.get? b=some o'
 tups:∀ b xs,H b=some (.tup xs)->H' b=some (.tup xs)
 frzs:∀ b o u,H b=some (.frz o u)->H' b=some (.frz o u)
 tbls:∀ b ps,H b=some (.tbl ps)->∃ more,H' b=some (.tbl (ps++more))
section
variable {fs fs' ex ex':List Addr}{H H1 H2:Hp}{h h1 h2 h':Heap}{a x e:Addr}{o:HO}
theorem Un.any (u:Un fs ex H H1 h h1){b:Addr}{ob:Obj}(q:h.get? b=some ob)(n:H b=none)(hx:b ∉ ex):∃ sl,h1.get? b=some { ob with slots:=sl }:=by
 by_cases hb:b∈fs
 ·exact u.slot b ob q n hb hx
 ·exact ⟨ob.slots,u.keep b ob q n hb hx⟩
theorem Un.trans (a:Un fs ex H H1 h h1)(b:Un fs ex H1 H2 h1 h2):Un fs ex H H2 h h2 where
 keep:=λ c ob q n hc hx=>b.keep c ob (a.keep c ob q n hc hx) (a.free c ob q n hx) hc hx
 slot:=λ c ob q n hc hx=>by
  obtain ⟨sl,e1⟩:=a.slot c ob q n hc hx
  obtain ⟨sl',e2⟩:=b.slot c _ e1 (a.free c ob q n hx) hc hx
  exact ⟨sl',e2⟩
 free:=λ c ob q n hx=>by
  obtain ⟨o',e1⟩:=a.there c ob q hx
  exact b.free c o' e1 (a.free c ob q n hx) hx
 there:=λ c ob q hx=>by
  obtain ⟨o',e1⟩:=a.there c ob q hx
  exact b.there c o' e1 hx
 tups:=λ c xs q=>b.tups c xs (a.tups c xs q)
 frzs:=λ c ob xs q=>b.frzs c ob xs (a.frzs c ob xs q)
 tbls:=λ c ps q=>by
  obtain ⟨m1,e1⟩:=a.tbls c ps q
  obtain ⟨m2,e2⟩:=b.tbls c _ e1
  exact ⟨m1++m2,by rw [e2,Array.append_assoc]⟩
theorem Un.kept (k:∀ b u,h.get? b=some u->h'.get? b=some u):Un fs ex H H h h' :=
 ⟨λ b ob q _ _ _=>k b ob q,λ b ob q _ _ _=>⟨ob.slots,k b ob q⟩,λ _ _ _ n _=>n,λ b ob q _=>⟨ob,k b ob q⟩,λ _ _ q=>q,λ _ _ _ q=>q,λ _ ps q=>⟨#[],by rw [q]; simp⟩⟩
theorem Un.refl:Un fs ex H H h h:=Un.kept λ _ _ q=>q
theorem Un.laid (k:∀ b u,h.get? b=some u->h'.get? b=some u)(hp:h.objs.size<=a)(hn:H a=none):Un fs ex H (upd H a o) h h' where
 keep:=λ b u q _ _ _=>k b u q
 slot:=λ b u q _ _ _=>⟨u.slots,k b u q⟩
 free:=λ b u q n _=>by rw [upd_ne (Nat.ne_of_lt (Nat.lt_of_lt_of_le (Heap.lt_size q) hp))]; exact n
 there:=λ b u q _=>⟨u,k b u q⟩
 tups:=λ b xs q=>by rw [upd_ne (ne_of_none q hn)]; exact q
 frzs:=λ b u xs q=>by rw [upd_ne (ne_of_none q hn)]; exact q
 tbls:=λ b ps q=>⟨#[],by rw [upd_ne (ne_of_none q hn),q]; simp⟩
theorem Un.write (mu:Mut (H x))(he:e=x\/H e=some (.own x))(k:∀ b u,b≠e->h.get? b=some u->h'.get? b=some u)(heo:∃ u,h'.get? e=some u):Un fs ex H (upd H x o) h h':=by
 have hx:∀ b,H b=none->b≠x:=λ b n z=>by subst z; rw [n] at mu; exact mu
 have hb:∀ b,H b=none->b≠e:=λ b n z=>by
  subst z
  rcases he with r | r
  ·exact hx b n r
  ·rw [n] at r; cases r
 have hm:∀ b u,H b=some u->¬ Mut (some u)->b≠x:=λ b u q nm z=>by subst z; rw [q] at mu; exact nm mu
 refine ⟨λ b u q n _ _=>k b u (hb b n) q,λ b u q n _ _=>⟨u.slots,k b u (hb b n) q⟩,λ b u q n _=>by rw [upd_ne (hx b n)]; exact n,λ b u q _=>?_,
  λ b xs q=>by rw [upd_ne (hm b _ q λ z=>z)]; exact q,λ b u xs q=>by rw [upd_ne (hm b _ q λ z=>z)]; exact q,λ b ps q=>⟨#[],by rw [upd_ne (hm b _ q λ z=>z),q]; simp⟩⟩
 by_cases hbe:b=e
 ·subst hbe; exact heo
 ·exact ⟨u,k b u hbe q⟩
theorem Un.mono (u:Un fs ex H H1 h h1)(hs:∀ b∈fs,b∈fs')(hx:∀ b∈ex,b∈ex'):Un fs' ex' H H1 h h1 :=
 ⟨λ b ob q n hb he=>u.keep b ob q n (λ z=>hb (hs b z)) λ z=>he (hx b z),λ _ _ q n _ he=>u.any q n λ z=>he (hx _ z),λ b ob q n he=>u.free b ob q n λ z=>he (hx b z),λ b ob q he=>u.there b ob q λ z=>he (hx b z),u.tups,u.frzs,u.tbls⟩
end
noncomputable def trk (h:Heap)(H:Hp):List Addr:=(List.range h.objs.size).filter λ a=>(H a).isSome
noncomputable def hidT (h:Heap)(H:Hp):Heap:=PySem.W.hideAll h (trk h H)
theorem hidT_size (h:Heap)(H:Hp):(hidT h H).objs.size=h.objs.size:=PySem.W.hideAll_size _ _
theorem hidT_get {h:Heap}{H:Hp}{b:Addr}{o:Obj}(e:h.get? b=some o)(n:H b=none):(hidT h H).get? b=some o :=
 PySem.W.hideAll_get _ e λ hm=>by
  have q:(H b).isSome=true:=(List.mem_filter.mp hm).2
  rw [n] at q; simp at q
theorem of_hidT {h:Heap}{H:Hp}{b:Addr}{o:Obj}(e:(hidT h H).get? b=some o):h.get? b=some o/\H b=none:=by
 have e':h.get? b=some o:=PySem.W.of_hideAll (trk h H) e
 refine ⟨e',?_⟩
 cases q:H b with
 | none=>rfl
 | some x =>
  have hm:b∈trk h H:=List.mem_filter.mpr ⟨List.mem_range.mpr (Heap.lt_size e'),by simp [q]⟩
  have z:(hidT h H).get? b=none:=PySem.W.hideAll_none (trk h H) hm
  rw [z] at e; cases e
noncomputable def allNews (g h:Heap)(L:Addr):List (Addr×Obj):=(List.range h.objs.size).filterMap λ a=>if a=L\/(g.get? a).isSome=true then none else (h.get? a).map λ o=>(a,o)
noncomputable def rest (g h:Heap)(L d:Addr):List (Addr×Obj):=(allNews g h L).filter λ p=>decide (p.1≠d)
end L2
namespace L2
open PySem PySem.Spec PyProof.Rows
noncomputable def BM (mg:Str->Option Value)(h:Heap):Prop:=(∃ bm o,mg "__builtins__" = some (.ref bm)/\bm≠builtinsNs/\h.get? bm=some o/\o.cls=.type "module" /\ o.dict=some builtinsNs/\o.data=.plain)/\∃ mm,h.Ns sysModules mm
structure Mod (K:PySem.W.Frag)(mg:Str->Option Value)(base:Heap):Prop where
 kin:K.In base
 glob:base.Ns mainGlobals mg
 blt:∃ mb,base.Ns builtinsNs mb/\∀ x:Str,x ≠ "__name__" -> mb x=bootBuiltins x
 nolimit:base.NoLimit
 bm:BM mg base
structure Cx where
 prog:Program
 w:World
 K:PySem.W.Frag
 mg:Str->Option Value
 base:Heap
 A:Around
 N:List Str
 s₀:Shared
 H₀:Hp
 env:Env
 outer:List Env
 stack:List Env
 ex:List Addr
 fn:Str->Bool
 calm:Bool
 pn:List (Addr×Obj)
 xe:Value->Shared->Prop
noncomputable def frs (l:List Env):List Addr:=l.filterMap (·.frame)
noncomputable abbrev Cx.fs (X:Cx):List Addr:=frs X.outer
noncomputable def Vis (sc:Scope)(x:Str):Prop:=sc.names.lookup x=some .local\/sc.names.lookup x=some .cell\/sc.names.lookup x=some .free
noncomputable def Loc (sc:Scope)(x:Str):Prop:=sc.names.lookup x=some .local\/sc.names.lookup x=some .cell
noncomputable def Look (env:Env)(h:Heap)(m:Str->Option Value)(x:Str)(u:Value):Prop :=
 (env.kindOf x=some .local/\m x=some u)\/((env.kindOf x=some .cell\/env.kindOf x=some .free)/\∃ c,env.cells.lookup x=some c/\h.IsCell c (some u))
structure Cx.Ok (X:Cx):Prop where
 mod:Mod X.K X.mg X.base
 kind:X.env.scope.kind=.function
 glob:X.env.globals=mainGlobals
 blt:X.env.builtins=builtinsNs
 above:X.s₀.heap.objs.size<=X.env.locals
 inj:∀ x y c,X.env.cells.lookup x=some c->X.env.cells.lookup y=some c->x=y
 has:∀ x,(X.env.kindOf x=some .cell\/X.env.kindOf x=some .free)->∃ c,X.env.cells.lookup x=some c
 cab:∀ x c,X.fn x=true->X.env.cells.lookup x=some c->X.s₀.heap.objs.size<=c
 hd:X.calm=true->X.A.handled=none
 frames:X.A.frames=some X.stack
 stk:X.stack=X.outer\/(X.stack=X.env :: X.outer/\X.env.frame=some X.env.locals)
 exf:∀ b∈X.ex,b≠X.env.locals/\∀ x c,X.env.cells.lookup x=some c->c≠b
 bs:∀ b o,X.base.get? b=some o->X.s₀.heap.get? b=some o/\X.H₀ b=none
 bsz:X.base.objs.size<=X.s₀.heap.objs.size
 noex:∀ b o,X.base.get? b=some o->b ∉ X.ex
 exfs:∀ b∈X.ex,b ∉ X.fs
 funs:X.s₀.heap.FunFrames X.base X.outer
 frf:∀ b∈X.fs,X.H₀ b=none
structure Inv (X:Cx)(pins:List (Addr×Obj))(σ:List (Option V))(H:Hp)(s:Shared):Prop where
 ok:X.Ok
 os:s.os=X.s₀.os
 bare:AllBare s.gens
 base:Un X.fs X.ex X.H₀ H X.s₀.heap s.heap
 loc:∃ m,s.heap.Ns X.env.locals m/\∀ (i:Nat) (x:Str) (v:V),X.N[i]? = some x->σ[i]? = some (some v)->Vis X.env.scope x->∃ u,RelV v u/\Look X.env s.heap m x u
 cell:∀ x c,X.env.cells.lookup x=some c->∃ v,s.heap.IsCell c v
 free:H X.env.locals=none
 freeC:∀ x c,X.env.cells.lookup x=some c->H c=none
 pin:∀ p∈X.pn++pins,s.heap.get? p.1=some p.2/\H p.1=none/\p.1≠X.env.locals/\p.1 ∉ X.fs/\∀ v,p.2.data ≠ .cell v
 hok:HOk X.prog X.w H s.heap
 len:σ.length=X.N.length
section
variable {X:Cx}{pins:List (Addr×Obj)}{σ:List (Option V)}{H H':Hp}{s:Shared}{h':Heap}
theorem Cx.Ok.nofr (ok:X.Ok){b:Addr}{o:Obj}(e:X.base.get? b=some o):b ∉ X.fs:=λ hb=>by
 have:=(ok.funs.mem hb).1
 rw [e] at this; cases this
theorem Inv.bs (I:Inv X pins σ H s):∀ b o,X.base.get? b=some o->s.heap.get? b=some o/\H b=none:=λ b o e =>
 ⟨I.base.keep b o (I.ok.bs b o e).1 (I.ok.bs b o e).2 (I.ok.nofr e) (I.ok.noex b o e),I.base.free b o (I.ok.bs b o e).1 (I.ok.bs b o e).2 (I.ok.noex b o e)⟩
theorem Inv.bk (I:Inv X pins σ H s):∀ b o,X.base.get? b=some o->s.heap.get? b=some o:=λ b o e=>(I.bs b o e).1
theorem Inv.mod (I:Inv X pins σ H s):Mod X.K X.mg X.base:=I.ok.mod
theorem Inv.kIn (I:Inv X pins σ H s):X.K.In s.heap:=I.ok.mod.kin.keeps I.bk
theorem Inv.nolimit (I:Inv X pins σ H s):s.heap.NoLimit:=I.ok.mod.nolimit.keeps I.bk
theorem Inv.fr (I:Inv X pins σ H s):∃ m,Fr X.base X.env.locals s.heap m :=
 let ⟨m,hn,_⟩:=I.loc
 ⟨m,hn,I.bk,Nat.le_trans I.ok.bsz I.ok.above⟩
theorem Inv.lt (I:Inv X pins σ H s):X.env.locals < s.heap.objs.size:=let ⟨_,hn,_⟩:=I.loc; hn.lt
theorem Inv.sz (I:Inv X pins σ H s):X.s₀.heap.objs.size<=s.heap.objs.size:=Nat.le_trans I.ok.above (Nat.le_of_lt I.lt)
theorem Inv.nofs (I:Inv X pins σ H s){a:Addr}(h:s.heap.objs.size<=a):a ∉ X.fs:=λ hb=>by
 obtain ⟨_,o,ho,_⟩:=I.ok.funs.mem hb
 exact absurd (Nat.lt_of_lt_of_le (Heap.lt_size ho) (Nat.le_trans I.sz h)) (Nat.lt_irrefl _)
theorem Inv.cne (I:Inv X pins σ H s):∀ x c,X.env.cells.lookup x=some c->c≠X.env.locals:=λ x c e z=>by
 obtain ⟨v,o,ho,hd⟩:=I.cell x c e
 obtain ⟨m,⟨o',es,ep,ho',hd',_⟩,_⟩:=I.loc
 rw [z,ho'] at ho; cases ho; rw [hd'] at hd; cases hd
theorem Inv.funs (I:Inv X pins σ H s):s.heap.FunFrames X.base X.outer:=by
 have all:∀ (l:List Env),(∀ b∈frs l,b∈X.fs)->X.s₀.heap.FunFrames X.base l->s.heap.FunFrames X.base l:=by
  intro l
  induction l with
  | nil=>intro _ _; trivial
  | cons env r ih =>
   intro hs hl
   obtain ⟨hk,⟨L,o,hf,hn,ho,hd⟩,hr⟩:=hl
   have hL:L∈X.fs:=hs L (by unfold frs; rw [List.filterMap_cons,hf]; exact List.mem_cons_self)
   obtain ⟨sl,e⟩:=I.base.slot L o ho (I.ok.frf L hL) hL λ z=>I.ok.exfs L z hL
   exact ⟨hk,⟨L,_,hf,hn,e,hd⟩,ih (λ b hb=>hs b (by unfold frs; rw [List.filterMap_cons,hf]; exact List.mem_cons_of_mem _ hb)) hr⟩
 exact all X.outer (λ _ hb=>hb) I.ok.funs
theorem Inv.stack (I:Inv X pins σ H s):s.heap.FunFrames X.base X.stack:=by
 rcases I.ok.stk with e | ⟨e,hf⟩
 ·rw [e]; exact I.funs
 ·rw [e]
  obtain ⟨m,hn,_⟩:=I.loc
  refine .cons (by rw [I.ok.kind]; decide) hf hn ?_ I.funs
  exact Heap.get?_none_of_le (Nat.le_trans I.ok.bsz I.ok.above)
theorem Inv.stkSub (I:Inv X pins σ H s):∀ b∈frs X.stack,b∈X.env.locals :: X.fs:=λ b hb=>by
 rcases I.ok.stk with e | ⟨e,hf⟩
 ·rw [e] at hb; exact List.mem_cons_of_mem _ hb
 ·rw [e] at hb
  unfold frs at hb
  rw [List.filterMap_cons,hf] at hb
  exact hb
theorem Inv.stkFree (I:Inv X pins σ H s):∀ b∈frs X.stack,H b=none:=λ b hb=>by
 rcases List.mem_cons.mp (I.stkSub b hb) with e | hb
 ·rw [e]; exact I.free
 ·obtain ⟨_,o,ho,_⟩:=I.ok.funs.mem hb
  exact I.base.free b o ho (I.ok.frf b hb) λ z=>I.ok.exfs b z hb
theorem Inv.step {g':Array GenState}{t':Nat}{d':Drawn}{ch:List Addr}(I:Inv X pins σ H s)
  (hch:∀ b∈ch,(b∈X.ex\/X.s₀.heap.objs.size<=b)/\b≠X.env.locals/\(∀ x c,X.env.cells.lookup x=some c->c≠b)/\∀ p∈X.pn++pins,p.1≠b)
  (keep:∀ b o,b≠X.env.locals->b ∉ X.fs->b ∉ ch->s.heap.get? b=some o->H b=none->h'.get? b=some o)
  (slot:∀ b o,b≠X.env.locals->b∈X.fs->b ∉ ch->s.heap.get? b=some o->H b=none->∃ sl,h'.get? b=some { o with slots:=sl })(free:∀ b o,b ∉ ch->s.heap.get? b=some o->H b=none->H' b=none)
  (there:∀ b o,b ∉ ch->s.heap.get? b=some o->∃ o',h'.get? b=some o')
  (tups:∀ b xs,H b=some (.tup xs)->H' b=some (.tup xs))(frzs:∀ b o u,H b=some (.frz o u)->H' b=some (.frz o u))(tbls:∀ b ps,H b=some (.tbl ps)->∃ more,H' b=some (.tbl (ps++more)))
  (ns:∀ m,s.heap.Ns X.env.locals m->h'.Ns X.env.locals m)(hok:HOk X.prog X.w H' h')(hg:AllBare g') :
  Inv X pins σ H' { s with heap:=h',gens:=g',drawn:=d',toks:=t' }:=by
 have neL:∀ b o,X.s₀.heap.get? b=some o->b≠X.env.locals:=λ b o e=>Nat.ne_of_lt (Nat.lt_of_lt_of_le (Heap.lt_size e) I.ok.above)
 have neC:∀ b o,X.s₀.heap.get? b=some o->b ∉ X.ex->b ∉ ch:=λ b o e hx hb=>by
  rcases (hch b hb).1 with z | z
  ·exact hx z
  ·exact absurd (Nat.lt_of_lt_of_le (Heap.lt_size e) z) (Nat.lt_irrefl _)
 have cellK:∀ x c,X.env.cells.lookup x=some c->∀ v,s.heap.IsCell c v->h'.IsCell c v:=λ x c e v hq0=>by
  obtain ⟨o,ho,hd⟩:=hq0
  have nch:c ∉ ch:=λ z=>(hch c z).2.2.1 x c e rfl
  by_cases hc:c∈X.fs
  ·obtain ⟨sl,q⟩:=slot c o (I.cne x c e) hc nch ho (I.freeC x c e)
   exact ⟨_,q,hd⟩
  ·exact ⟨o,keep c o (I.cne x c e) hc nch ho (I.freeC x c e),hd⟩
 refine ⟨I.ok,I.os,hg,⟨λ b o e n hb hx=>?_,λ b o e n hb hx=>?_,λ b o e n hx=>?_,λ b o e hx=>?_,λ b xs e=>tups b xs (I.base.tups b xs e),λ b o xs e=>frzs b o xs (I.base.frzs b o xs e),λ b ps e=>?_⟩,?_,λ x c e=>?_,?_,λ x c e=>?_,λ p hp=>?_,hok,I.len⟩
 ·exact keep b o (neL b o e) hb (neC b o e hx) (I.base.keep b o e n hb hx) (I.base.free b o e n hx)
 ·obtain ⟨sl,e1⟩:=I.base.slot b o e n hb hx
  obtain ⟨sl',e2⟩:=slot b _ (neL b o e) hb (neC b o e hx) e1 (I.base.free b o e n hx)
  exact ⟨sl',e2⟩
 ·obtain ⟨o',e1⟩:=I.base.there b o e hx
  exact free b o' (neC b o e hx) e1 (I.base.free b o e n hx)
 ·obtain ⟨o',e1⟩:=I.base.there b o e hx
  exact there b o' (neC b o e hx) e1
 ·obtain ⟨m1,e1⟩:=I.base.tbls b ps e
  obtain ⟨m2,e2⟩:=tbls b _ e1
  exact ⟨m1++m2,by rw [e2,Array.append_assoc]⟩
 ·obtain ⟨m,hn,hl⟩:=I.loc
  refine ⟨m,ns m hn,λ i x v e1 e2 e3=>?_⟩
  obtain ⟨u,r,l⟩:=hl i x v e1 e2 e3
  refine ⟨u,r,?_⟩
  rcases l with l | ⟨k,c,e,z⟩
  ·exact .inl l
  ·exact .inr ⟨k,c,e,cellK x c e _ z⟩
 ·obtain ⟨v,z⟩:=I.cell x c e
  exact ⟨v,cellK x c e v z⟩
 ·obtain ⟨m,⟨o,_,_,ho,_⟩,_⟩:=I.loc
  exact free _ o (λ z=>(hch _ z).2.1 rfl) ho I.free
 ·obtain ⟨v,o,ho,hd⟩:=I.cell x c e
  exact free c o (λ z=>(hch c z).2.2.1 x c e rfl) ho (I.freeC x c e)
 ·obtain ⟨e,n,ne,nf,d⟩:=I.pin p hp
  have nch:p.1 ∉ ch:=λ z=>(hch p.1 z).2.2.2 p hp rfl
  exact ⟨keep p.1 p.2 ne nf nch e n,free p.1 p.2 nch e n,ne,nf,d⟩
theorem Inv.un {t':Nat}(I:Inv X pins σ H s)(u:Un X.fs [] H H' s.heap h')(hok:HOk X.prog X.w H' h'):Inv X pins σ H' { s with heap:=h',toks:=t' }:=by
 obtain ⟨m,⟨o,es,ep,ho,r⟩,_⟩:=id I.loc
 obtain ⟨sl,hL⟩:=u.any ho I.free (by simp)
 exact I.step (g':=s.gens) (d':=s.drawn) (ch:=[]) (λ _ z=>nomatch z) (λ b o _ hb _ e n=>u.keep b o e n hb (by simp)) (λ b o _ hb _ e n=>u.slot b o e n hb (by simp)) (λ b o _ e n=>u.free b o e n (by simp)) (λ b o _ e=>u.there b o e (by simp)) u.tups u.frzs u.tbls (λ m' hm=>by
  obtain ⟨o',es',ep',ho',r'⟩:=hm
  rw [ho] at ho'; cases ho'
  exact ⟨_,es',ep',hL,r'⟩) hok I.bare
theorem Inv.call {g':Array GenState}{t':Nat}{d':Drawn}{ch:List Addr}(I:Inv X pins σ H s)(u:Un (frs X.stack) ch H H' s.heap h')(hok:HOk X.prog X.w H' h')(hg:AllBare g')
  (hch:∀ b∈ch,(b∈X.ex\/X.s₀.heap.objs.size<=b)/\b≠X.env.locals/\(∀ x c,X.env.cells.lookup x=some c->c≠b)/\∀ p∈X.pn++pins,p.1≠b) :
  Inv X pins σ H' { s with heap:=h',gens:=g',drawn:=d',toks:=t' }:=by
 obtain ⟨m,⟨o,es,ep,ho,r⟩,_⟩:=id I.loc
 obtain ⟨sl,hL⟩:=u.any ho I.free λ z=>(hch _ z).2.1 rfl
 exact I.step (ch:=ch) hch (λ b o hL hb hc e n=>u.keep b o e n (λ z=>(List.mem_cons.mp (I.stkSub b z)).elim hL hb) hc) (λ b o _ _ hc e n=>u.any e n hc) (λ b o hc e n=>u.free b o e n hc) (λ b o hc e=>u.there b o e hc) u.tups u.frzs u.tbls (λ m' hm=>by
  obtain ⟨o',es',ep',ho',r'⟩:=hm
  rw [ho] at ho'; cases ho'
  exact ⟨_,es',ep',hL,r'⟩) hok hg
theorem Inv.turned {t':Nat}{it:Addr}(I:Inv X pins σ H s)(k:∀ b o,b≠it->s.heap.get? b=some o->h'.get? b=some o)(hn:H it=none)(hL:it≠X.env.locals)
  (h1:it∈X.ex\/X.s₀.heap.objs.size<=it)(h2:∀ x c,X.env.cells.lookup x=some c->c≠it)(h3:∀ p∈X.pn++pins,p.1≠it):Inv X pins σ H { s with heap:=h',toks:=t' }:=by
 have nit:∀ b u,H b=some u->b≠it:=λ b u e z=>by rw [z,hn] at e; cases e
 refine I.step (g':=s.gens) (d':=s.drawn) (ch:=[it]) (λ b hb=>?_) (λ b o _ _ hc e _=>k b o (λ z=>hc (by simp [z])) e) (λ b o _ _ hc e _=>⟨o.slots,k b o (λ z=>hc (by simp [z])) e⟩) (λ _ _ _ _ n=>n)
  (λ b o hc e=>⟨o,k b o (λ z=>hc (by simp [z])) e⟩) (λ _ _ e=>e) (λ _ _ _ e=>e) (λ b ps e=>⟨#[],by rw [e]; simp⟩) (λ m hm=>?_) (λ b u e=>?_) I.bare
 ·have e:b=it:=by simpa using hb
  subst e
  exact ⟨h1,hL,h2,h3⟩
 ·obtain ⟨o,es,ep,ho,r⟩:=hm
  exact ⟨o,es,ep,k _ o (Ne.symm hL) ho,r⟩
 ·refine (I.hok b u e).stay (λ c v hc q=>k c v ?_ q) (λ _ q=>q) λ _ _ q=>q
  rcases hc with z | z
  ·rw [z]; exact nit b u e
  ·exact nit c _ z
theorem Inv.tok (I:Inv X pins σ H s)(t:Nat):Inv X pins σ H { s with toks:=t }:=I.un (h':=s.heap) (t':=t) Un.refl I.hok
theorem Inv.kept {t':Nat}(I:Inv X pins σ H s)(k:∀ b u,s.heap.get? b=some u->h'.get? b=some u):Inv X pins σ H { s with heap:=h',toks:=t' }:=I.un (Un.kept k) (I.hok.kept k)
theorem Inv.laid {a:Addr}{o:HO}{t':Nat}(I:Inv X pins σ H s)(k:∀ b u,s.heap.get? b=some u->h'.get? b=some u)(hp:s.heap.objs.size<=a)(new:ObjOk X.prog X.w (upd H a o) h' a o) :
  Inv X pins σ (upd H a o) { s with heap:=h',toks:=t' }:=I.un (Un.laid k hp (I.hok.fresh hp)) (I.hok.laid k hp new)
theorem Inv.write {x e:Addr}{o:HO}{t':Nat}(I:Inv X pins σ H s)(mu:Mut (H x))(he:e=x\/H e=some (.own x))(k:∀ b u,b≠e->s.heap.get? b=some u->h'.get? b=some u)(heo:∃ u,h'.get? e=some u)
  (new:ObjOk X.prog X.w (upd H x o) h' x o):Inv X pins σ (upd H x o) { s with heap:=h',toks:=t' }:=I.un (Un.write mu he k heo) (I.hok.write mu he k heo new)
theorem Inv.pins_of {pins':List (Addr×Obj)}(I:Inv X pins σ H s)(h:∀ p∈pins',s.heap.get? p.1=some p.2/\H p.1=none/\p.1≠X.env.locals/\p.1 ∉ X.fs/\∀ v,p.2.data ≠ .cell v):Inv X pins' σ H s :=
 ⟨I.ok,I.os,I.bare,I.base,I.loc,I.cell,I.free,I.freeC,λ p hp=>(List.mem_append.mp hp).elim (λ z=>I.pin p (List.mem_append_left _ z)) (h p),I.hok,I.len⟩
theorem nodup_ix {N:List Str}(hN:N.Nodup){i j:Nat}{x:Str}(a:N[i]? = some x)(b:N[j]? = some x):i=j:=by
 obtain ⟨h1,e1⟩:=List.getElem?_eq_some_iff.mp a
 obtain ⟨h2,e2⟩:=List.getElem?_eq_some_iff.mp b
 exact (List.getElem_inj hN).mp (e1.trans e2.symm)
theorem store_ok2 {M:Model}{A:Around}{E:Value->Shared->Prop}{i:Nat}{x:Str}{v:V}{u:Value}{Q:Unit->Shared->Prop}(I:Inv X pins σ H s)(hN:X.N.Nodup)(hi:X.N[i]? = some x)(hx:Loc X.env.scope x)(r:RelV v u)
  (h:∀ s',Inv X pins (σ.set i (some v)) H s'->(∃ a,Heap.SameBut a s.heap s'.heap/\(a=X.env.locals\/X.env.cells.lookup x=some a))->Q () s')(hf:X.fn x=true\/X.env.scope.names.lookup x=some .local:=by first | exact .inl rfl | exact .inr rfl | assumption):wpAny M A (storeName X.env x u) Q E s:=by
 obtain ⟨m,hn,hl⟩:=id I.loc
 have hcls:(X.env.scope.kind == .class || (X.env.scope.kind == .module && X.env.locals != X.env.globals))=false:=by rw [I.ok.kind]; rfl
 have hiσ:i < σ.length:=by rw [I.len]; exact (List.getElem?_eq_some_iff.mp hi).1
 have cne:=I.cne
 have tracked:∀ {a:Addr} {h':Heap},(∃ o,s.heap.get? a=some o/\H a=none)->Heap.SameBut a s.heap h'->HOk X.prog X.w H h':=λ {a h'} ha hs b ob e=>by
  obtain ⟨_,_,hfree⟩:=ha
  refine (I.hok b ob e).stay (λ c w' hc q=>(hs.2 c ?_).trans q) (λ _ q=>q) λ _ _ q=>q
  rintro rfl
  rcases hc with rfl | hc
  ·rw [hfree] at e; cases e
  ·rw [hfree] at hc; cases hc
 rcases hx with hk | hk
 ·refine wpAny_storeName_local hk hn (λ h' hn' hs=>?_) hcls
  obtain ⟨oL,_,_,hoL,_⟩:=id hn
  refine h _ ⟨I.ok,I.os,I.bare,⟨λ b o e n hb hx=>?_,λ b o e n hb hx=>?_,I.base.free,λ b o e hx=>?_,I.base.tups,I.base.frzs,I.base.tbls⟩,⟨_,hn',λ j y v' e1 e2 e3=>?_⟩,λ y c e=>?_,I.free,I.freeC,λ p hp=>?_,tracked ⟨oL,hoL,I.free⟩ hs,by simpa using I.len⟩ ⟨_,hs,.inl rfl⟩
  ·exact (hs.2 b (Nat.ne_of_lt (Nat.lt_of_lt_of_le (Heap.lt_size e) I.ok.above))).trans (I.base.keep b o e n hb hx)
  ·obtain ⟨sl,e1⟩:=I.base.slot b o e n hb hx
   exact ⟨sl,(hs.2 b (Nat.ne_of_lt (Nat.lt_of_lt_of_le (Heap.lt_size e) I.ok.above))).trans e1⟩
  ·obtain ⟨o',e1⟩:=I.base.there b o e hx
   exact ⟨o',(hs.2 b (Nat.ne_of_lt (Nat.lt_of_lt_of_le (Heap.lt_size e) I.ok.above))).trans e1⟩
  ·by_cases hj:j=i
   ·subst hj
    rw [hi] at e1; cases e1
    rw [List.getElem?_set_self hiσ] at e2
    cases e2
    exact ⟨u,r,.inl ⟨hk,by simp⟩⟩
   ·rw [List.getElem?_set_ne (Ne.symm hj)] at e2
    obtain ⟨u',r',q⟩:=hl j y v' e1 e2 e3
    refine ⟨u',r',?_⟩
    rcases q with ⟨k,e⟩ | ⟨k,c,e,z⟩
    ·refine .inl ⟨k,?_⟩
     have:y≠x:=λ e=>hj (nodup_ix hN e1 (e ▸ hi))
     simp [this,e]
    ·exact .inr ⟨k,c,e,z.sameBut hs (cne y c e)⟩
  ·obtain ⟨w',z⟩:=I.cell y c e
   exact ⟨w',z.sameBut hs (cne y c e)⟩
  ·obtain ⟨e,n,ne,nf,d⟩:=I.pin p hp
   exact ⟨(hs.2 p.1 ne).trans e,n,ne,nf,d⟩
 ·have hfn:X.fn x=true:=by
   rcases hf with z | z
   ·exact z
   ·rw [z] at hk; cases hk
  obtain ⟨c,hc⟩:=I.ok.has x (.inl hk)
  obtain ⟨w',z⟩:=I.cell x c hc
  refine wpAny_storeName_cell I.ok.kind hk hc z (λ h' hc' hs=>?_)
  obtain ⟨oc,hoc,hocd⟩:=id z
  refine h { s with heap:=h' } ⟨I.ok,I.os,I.bare,⟨λ b o e n hb hx=>?_,λ b o e n hb hx=>?_,I.base.free,λ b o e hx=>?_,I.base.tups,I.base.frzs,I.base.tbls⟩,⟨m,hn.sameBut hs (Ne.symm (cne x c hc)),λ j y v' e1 e2 e3=>?_⟩,λ y c' e=>?_,I.free,I.freeC,λ p hp=>?_,tracked ⟨oc,hoc,I.freeC x c hc⟩ hs,by simpa using I.len⟩ ⟨c,hs,.inr hc⟩
  ·exact (hs.2 b (Nat.ne_of_lt (Nat.lt_of_lt_of_le (Heap.lt_size e) (I.ok.cab x c hfn hc)))).trans (I.base.keep b o e n hb hx)
  ·obtain ⟨sl,e1⟩:=I.base.slot b o e n hb hx
   exact ⟨sl,(hs.2 b (Nat.ne_of_lt (Nat.lt_of_lt_of_le (Heap.lt_size e) (I.ok.cab x c hfn hc)))).trans e1⟩
  ·obtain ⟨o',e1⟩:=I.base.there b o e hx
   exact ⟨o',(hs.2 b (Nat.ne_of_lt (Nat.lt_of_lt_of_le (Heap.lt_size e) (I.ok.cab x c hfn hc)))).trans e1⟩
  ·by_cases hj:j=i
   ·subst hj
    rw [hi] at e1; cases e1
    rw [List.getElem?_set_self hiσ] at e2
    cases e2
    exact ⟨u,r,.inr ⟨.inl hk,c,hc,hc'⟩⟩
   ·rw [List.getElem?_set_ne (Ne.symm hj)] at e2
    obtain ⟨u',r',q⟩:=hl j y v' e1 e2 e3
    refine ⟨u',r',?_⟩
    rcases q with q | ⟨k,c',e,z'⟩
    ·exact .inl q
    ·refine .inr ⟨k,c',e,z'.sameBut hs ?_⟩
     rintro rfl
     exact hj (nodup_ix hN e1 (I.ok.inj _ _ _ e hc ▸ hi))
  ·by_cases hcc:c'=c
   ·subst hcc; exact ⟨_,hc'⟩
   ·obtain ⟨w2,z2⟩:=I.cell y c' e
    exact ⟨w2,z2.sameBut hs hcc⟩
  ·obtain ⟨e,n,ne,nf,d⟩:=I.pin p hp
   refine ⟨(hs.2 p.1 ?_).trans e,n,ne,nf,d⟩
   intro q
   rw [q,hoc] at e
   have q':oc=p.2:=Option.some.inj e
   exact d w' (by rw [<- q']; exact hocd)
theorem store_ok {M:Model}{A:Around}{E:Value->Shared->Prop}{i:Nat}{x:Str}{v:V}{u:Value}{Q:Unit->Shared->Prop}(I:Inv X pins σ H s)(hN:X.N.Nodup)(hi:X.N[i]? = some x)(hx:Loc X.env.scope x)(r:RelV v u)
  (h:∀ s',Inv X pins (σ.set i (some v)) H s'->Q () s')(hf:X.fn x=true\/X.env.scope.names.lookup x=some .local:=by first | exact .inl rfl | exact .inr rfl | assumption):wpAny M A (storeName X.env x u) Q E s :=
 store_ok2 I hN hi hx r (λ s' I' _=>h s' I') hf
theorem Inv.call' {s':Shared}{ch:List Addr}(I:Inv X pins σ H s)(ho:s'.os=s.os)(u:Un (frs X.stack) ch H H' s.heap s'.heap)(hok:HOk X.prog X.w H' s'.heap)(hg:AllBare s'.gens)
  (hch:∀ b∈ch,(b∈X.ex\/X.s₀.heap.objs.size<=b)/\b≠X.env.locals/\(∀ x c,X.env.cells.lookup x=some c->c≠b)/\∀ p∈X.pn++pins,p.1≠b):Inv X pins σ H' s':=by
 obtain ⟨h',g',d',t',o'⟩:=s'
 have e:o'=s.os:=ho
 subst e
 exact I.call (g':=g') (t':=t') (d':=d') u hok hg hch
end
noncomputable abbrev XK:=Value->Option Addr->Hp->Prop
noncomputable abbrev St:=List (Option V)
noncomputable abbrev VK:=V->Hp->Prop
noncomputable abbrev TE:=St->Hp->VK->Prop
noncomputable abbrev TT:=St->Hp->(Bool->Hp->Prop)->Prop
noncomputable abbrev TA:=St->Hp->(List V->Hp->Prop)->Prop
structure Ends where
 nx:St->Hp->Prop
 rt:VK
 bk:St->Hp->Prop:=λ _ _=>False
 ct:St->Hp->Prop:=λ _ _=>False
noncomputable abbrev TS:=Ends->St->Hp->Prop
noncomputable def EP (X:Cx)(pins:List (Addr×Obj))(σ:St)(Q:VK)(u:Value)(s':Shared):Prop:=∃ v H',Inv X pins σ H' s'/\RelV v u/\Q v H'
noncomputable def TP (X:Cx)(pins:List (Addr×Obj))(σ:St)(Q:Bool->Hp->Prop)(b:Bool)(s':Shared):Prop:=∃ H',Inv X pins σ H' s'/\Q b H'
noncomputable def AP (X:Cx)(pins:List (Addr×Obj))(σ:St)(Q:List V->Hp->Prop)(us:List Value)(s':Shared):Prop:=∃ vs H',Inv X pins σ H' s'/\Vals vs us/\Q vs H'
noncomputable def SP (X:Cx)(pins:List (Addr×Obj))(D:Ends)(f:Flow)(s':Shared):Prop :=
 match f with
 | .next=>∃ σ' H',Inv X pins σ' H' s'/\D.nx σ' H'
 | .brk=>∃ σ' H',Inv X pins σ' H' s'/\D.bk σ' H'
 | .cont=>∃ σ' H',Inv X pins σ' H' s'/\D.ct σ' H'
 | .ret u=>∃ v σ' H',Inv X pins σ' H' s'/\RelV v u/\D.rt v H'
noncomputable def PE (X:Cx)(e:Expr)(t:TE):Prop :=
 ∀ (pins:List (Addr×Obj)) (s:Shared) (σ:St) (H:Hp) (Q:VK),Inv X pins σ H s->t σ H Q->wpAny (model X.prog X.w) X.A (eval e X.env) (EP X pins σ Q) X.xe s
noncomputable def PT (X:Cx)(e:Expr)(t:TT):Prop :=
 ∀ (pins:List (Addr×Obj)) (s:Shared) (σ:St) (H:Hp) (Q:Bool->Hp->Prop),Inv X pins σ H s->t σ H Q->wpAny (model X.prog X.w) X.A (isTrue e X.env (eval e X.env)) (TP X pins σ Q) X.xe s
noncomputable def PW (X:Cx)(e:Expr)(t:TT):Prop :=
 ∀ (whole:Sem Value) (pins:List (Addr×Obj)) (s:Shared) (σ:St) (H:Hp) (Q:Bool->Hp->Prop),Inv X pins σ H s->t σ H Q->wpAny (model X.prog X.w) X.A (isTrue e X.env whole) (TP X pins σ Q) X.xe s
theorem PW.pt {X:Cx}{e:Expr}{t:TT}(h:PW X e t):PT X e t:=h _
noncomputable def PA (X:Cx)(es:List Expr)(t:TA):Prop :=
 ∀ (pos:Pos) (pins:List (Addr×Obj)) (s:Shared) (σ:St) (H:Hp) (Q:List V->Hp->Prop),Inv X pins σ H s->t σ H Q->wpAny (model X.prog X.w) X.A (spliced (backTo pos (starEach es X.env))) (AP X pins σ Q) X.xe s
noncomputable def PS (X:Cx)(st:Stmt)(t:TS):Prop :=
 ∀ (pins:List (Addr×Obj)) (s:Shared) (σ:St) (H:Hp) (D:Ends),Inv X pins σ H s->t D σ H->wpAny (model X.prog X.w) X.A (exec st X.env) (SP X pins D) X.xe s
noncomputable def PSs (X:Cx)(st:List Stmt)(t:TS):Prop :=
 ∀ (pins:List (Addr×Obj)) (s:Shared) (σ:St) (H:Hp) (D:Ends),Inv X pins σ H s->t D σ H->wpAny (model X.prog X.w) X.A (execs st X.env) (SP X pins D) X.xe s
theorem thn {α:Type}{t:Sem α}{Q Q':α->Shared->Prop}{M:Model}{A:Around}{E:Value->Shared->Prop}{s:Shared}(h:wpAny M A t Q E s)(hQ:∀ a s,Q a s->Q' a s):wpAny M A t Q' E s:=wpAny_mono h hQ λ _ _ x=>x
end L2
namespace L2
open PySem PySem.Spec PyProof.Rows
section
variable {X:Cx}
noncomputable def tVar (i:Nat):TE:=λ σ H Q=>∃ v,σ[i]? = some (some v)/\Q v H
noncomputable def tC (v:V):TE:=λ _ H Q=>Q v H
theorem pe_var {i:Nat}{x:Str}{pos:Pos}(hN:X.N[i]? = some x)(hv:Vis X.env.scope x)(hd:(x == ("__debug__" : Str))=false:=by decide)(hcd:(x == ("__classdict__" : Str))=false:=by decide):PE X (.Name x pos) (tVar i):=by
 intro pins s σ H Q I h
 obtain ⟨v,e,h⟩:=h
 obtain ⟨m,hn,hl⟩:=I.loc
 obtain ⟨u,r,l⟩:=hl i x v hN e hv
 have fin:EP X pins σ Q u s:=⟨v,H,I,r,h⟩
 rcases l with ⟨hk,hm⟩ | ⟨hk,c,hc,hcell⟩
 ·exact wpAny_Name (wpAny_loadName_local I.ok.kind hk hn hm fin) hd
 ·rcases hk with hk | hk
  ·exact wpAny_Name (wpAny_loadName_cell I.ok.kind hk hc hcell fin) hd
  ·exact wpAny_Name (wpAny_loadName_free I.ok.kind hk hc hcell fin hcd) hd
theorem pe_int {i j pos}:PE X (.Constant (.int i) j pos) (tC (.int i)):=λ _ _ _ H _ I h=>wpAny_Constant_int ⟨.int i,H,I.tok _,⟨_,rfl⟩,h⟩
theorem pe_bl {b j pos}:PE X (.Constant (.bool b) j pos) (tC (.bl b)):=λ _ _ _ H _ I h=>Constant_bool ⟨.bl b,H,I,rfl,h⟩
theorem pe_non {j pos}:PE X (.Constant .none j pos) (tC .non):=λ _ _ _ H _ I h=>Constant_none ⟨.non,H,I,rfl,h⟩
theorem pe_str {x j pos}:PE X (.Constant (.str x) j pos) (tC (.str x)):=λ _ _ _ H _ I h=>Calls.Constant_str ⟨.str x,H,I.tok _,⟨_,rfl⟩,h⟩
noncomputable def Gl (X:Cx)(x:Str):Prop:=X.env.kindOf x=some .globalImplicit
theorem ld_glob {E:Value->Shared->Prop}{pins:List (Addr×Obj)}{s:Shared}{σ:St}{H:Hp}{x:Str}{u:Value}{pos:Pos}{Q:Value->Shared->Prop}(I:Inv X pins σ H s)(hg:Gl X x)(hm:X.mg x=some u)(h:Q u s)
  (hd:(x == ("__debug__" : Str))=false:=by decide):wpAny (model X.prog X.w) X.A (eval (.Name x pos) X.env) Q E s :=
 Calls.Name_function_global I.ok.kind hg (Calls.loadGlobal_global (by rw [I.ok.glob]; exact I.mod.glob.keeps I.bk) hm h) hd
theorem ld_blt {E:Value->Shared->Prop}{pins:List (Addr×Obj)}{s:Shared}{σ:St}{H:Hp}{x:Str}{u:Value}{pos:Pos}{Q:Value->Shared->Prop}(I:Inv X pins σ H s)(hg:Gl X x)(hm:X.mg x=none)(hv:bootBuiltins x=some u)(h:Q u s)
  (hn:x ≠ "__name__" := by decide)(hd:(x == ("__debug__" : Str))=false:=by decide):wpAny (model X.prog X.w) X.A (eval (.Name x pos) X.env) Q E s:=by
 obtain ⟨mb,h1,h2⟩:=I.mod.blt
 exact Calls.Name_function_global I.ok.kind hg (Calls.loadGlobal_builtin (by rw [I.ok.glob]; exact I.mod.glob.keeps I.bk) hm (by rw [I.ok.blt]; exact h1.keeps I.bk) ((h2 x hn).trans hv) h) hd
theorem pe_glob {x:Str}{v:V}{u:Value}{pos:Pos}(hg:Gl X x)(hm:X.mg x=some u)(r:RelV v u)(hd:(x == ("__debug__" : Str))=false:=by decide):PE X (.Name x pos) (tC v) :=
 λ _ _ _ H _ I h=>ld_glob I hg hm ⟨v,H,I,r,h⟩ hd
theorem pe_bltn {x:Str}{v:V}{u:Value}{pos:Pos}(hg:Gl X x)(hm:X.mg x=none)(hv:bootBuiltins x=some u)(r:RelV v u)(hn:x ≠ "__name__" := by decide)(hd:(x == ("__debug__" : Str))=false:=by decide):PE X (.Name x pos) (tC v) :=
 λ _ _ _ H _ I h=>ld_blt I hg hm hv ⟨v,H,I,r,h⟩ hn hd
variable {a b:Expr}{ta tb:TE}{pos:Pos}
noncomputable def PC (X:Cx)(op:CmpOp)(a b:Expr)(t:TE):Prop :=
 ∀ (pins:List (Addr×Obj)) (s:Shared) (σ:St) (H:Hp) (Q:VK),Inv X pins σ H s->t σ H Q ->
  wpAny (model X.prog X.w) X.A (eval a X.env) (λ v s₁=>wpAny (model X.prog X.w) X.A (eval b X.env) (λ u s₂=>wpAny (model X.prog X.w) X.A (compareOp op v u) (EP X pins σ Q) X.xe s₂) X.xe s₁) X.xe s
theorem nobehind (b:Expr){op:CmpOp}(h:op ≠ .In)(h2:op ≠ .NotIn):behindInMarks op b=false:=by
 have e1:(op == CmpOp.In)=false:=by cases op <;> first | rfl | exact absurd rfl h
 have e2:(op == CmpOp.NotIn)=false:=by cases op <;> first | rfl | exact absurd rfl h2
 cases b <;> simp [behindInMarks,e1,e2]
noncomputable def tB (t:TE):TT:=λ σ H Q=>t σ H λ x H1=>∃ c,x=.bl c/\Q c H1
theorem pt_cmp {op:CmpOp}{t:TE}(h:PC X op a b t)(h1:behindInMarks op b=false:=by first | exact nobehind _ (by decide) (by decide) | rfl):PT X (.Compare a [op] [b] pos) (tB t):=by
 intro pins s σ H Q I hw
 refine wpAny_isTrue_Compare1 (thn (h pins s σ H _ I hw) λ v s1 h1=>thn h1 λ u s2 h2=>thn h2 λ c s3 ⟨x,H1,I1,r1,q1⟩=>?_) h1
 obtain ⟨d,rfl,q⟩:=q1
 cases r1
 exact wpAny_truthy_bool ⟨H1,I1,q⟩
theorem pt_val {e:Expr}{t:TE}(h:PE X e t)(he:∀ whole,isTrue e X.env whole=(do let v <- whole; standAt e.pos; holding [v] (truthy v)):=by intro _; rfl):PT X e (tB t):=by
 intro pins s σ H Q I hw
 refine isTrue_plain (thn (h pins s σ H _ I hw) λ v s1 ⟨x,H1,I1,r1,q1⟩=>?_) (he _)
 obtain ⟨d,rfl,q⟩:=q1
 cases r1
 exact wpAny_truthy_bool ⟨H1,I1,q⟩
variable {tA tB':TT}{rest:List Expr}
noncomputable def tAnd (t u:TT):TT:=λ σ H Q=>t σ H λ c H1=>if c=true then u σ H1 Q else Q false H1
noncomputable def tOr (t u:TT):TT:=λ σ H Q=>t σ H λ c H1=>if c=true then Q true H1 else u σ H1 Q
noncomputable def tNot (t:TT):TT:=λ σ H Q=>t σ H λ c H1=>Q (!c) H1
theorem pw_and1 (ha:PT X a tA):PW X (.BoolOp .And [a] pos) tA:=by
 intro wh pins s σ H Q I h
 refine isTrue_and (thn (ha pins s σ H Q I h) λ c s1 e=>?_)
 cases c with
 | true=>exact isTrue_and_nil e
 | false=>exact e
theorem pw_or1 (ha:PT X a tA):PW X (.BoolOp .Or [a] pos) tA:=by
 intro wh pins s σ H Q I h
 refine isTrue_or (thn (ha pins s σ H Q I h) λ c s1 e=>?_)
 cases c with
 | false=>exact isTrue_or_nil e
 | true=>exact e
theorem pw_and (ha:PT X a tA)(hb:PW X (.BoolOp .And (b :: rest) pos) tB'):PW X (.BoolOp .And (a :: b :: rest) pos) (tAnd tA tB'):=by
 intro wh pins s σ H Q I h
 refine isTrue_and (thn (ha pins s σ H _ I h) λ c s1 hq1=>?_)
 obtain ⟨H1,I1,q1⟩:=hq1
 cases c with
 | true=>exact hb wh pins s1 σ H1 Q I1 q1
 | false=>exact ⟨H1,I1,q1⟩
theorem pw_or (ha:PT X a tA)(hb:PW X (.BoolOp .Or (b :: rest) pos) tB'):PW X (.BoolOp .Or (a :: b :: rest) pos) (tOr tA tB'):=by
 intro wh pins s σ H Q I h
 refine isTrue_or (thn (ha pins s σ H _ I h) λ c s1 hq2=>?_)
 obtain ⟨H1,I1,q1⟩:=hq2
 cases c with
 | true=>exact ⟨H1,I1,q1⟩
 | false=>exact hb wh pins s1 σ H1 Q I1 q1
theorem pt_not (ha:PT X a tA):PT X (.UnaryOp .Not a pos) (tNot tA):=by
 intro pins s σ H Q I h
 exact isTrue_not (ha pins s σ H (λ c H1=>Q (!c) H1) I h)
noncomputable def tAndV (ta tb:TE):TE:=λ σ H Q=>ta σ H λ x H1=>∃ c,x=.bl c/\if c=true then tb σ H1 Q else Q (.bl false) H1
noncomputable def tOrV (ta tb:TE):TE:=λ σ H Q=>ta σ H λ x H1=>∃ c,x=.bl c/\if c=true then Q (.bl true) H1 else tb σ H1 Q
noncomputable def tNotV (ta:TE):TE:=λ σ H Q=>ta σ H λ x H1=>∃ c,x=.bl c/\Q (.bl (!c)) H1
theorem pe_one {op}{t:TE}(h:PE X a t):PE X (.BoolOp op [a] pos) t:=λ pins s σ H Q I hw=>BoolOp_one (h pins s σ H Q I hw)
theorem pe_and (ha:PE X a ta)(hb:PE X (.BoolOp .And (b :: rest) pos) tb):PE X (.BoolOp .And (a :: b :: rest) pos) (tAndV ta tb):=by
 intro pins s σ H Q I h
 refine BoolOp_and (thn (ha pins s σ H _ I h) λ v s1 hq3=>?_)
 obtain ⟨x,H1,I1,r1,q1⟩:=hq3
 obtain ⟨c,rfl,q1⟩:=q1
 cases r1
 refine wpAny_truthy_bool ?_
 cases c with
 | true=>exact hb pins s1 σ H1 Q I1 q1
 | false=>exact ⟨.bl false,H1,I1,rfl,q1⟩
theorem pe_or (ha:PE X a ta)(hb:PE X (.BoolOp .Or (b :: rest) pos) tb):PE X (.BoolOp .Or (a :: b :: rest) pos) (tOrV ta tb):=by
 intro pins s σ H Q I h
 refine BoolOp_or (thn (ha pins s σ H _ I h) λ v s1 hq4=>?_)
 obtain ⟨x,H1,I1,r1,q1⟩:=hq4
 obtain ⟨c,rfl,q1⟩:=q1
 cases r1
 refine wpAny_truthy_bool ?_
 cases c with
 | false=>exact hb pins s1 σ H1 Q I1 q1
 | true=>exact ⟨.bl true,H1,I1,rfl,q1⟩
theorem pe_not (ha:PE X a ta):PE X (.UnaryOp .Not a pos) (tNotV ta):=by
 intro pins s σ H Q I h
 refine UnaryOp_ (thn (ha pins s σ H _ I h) λ v s1 hq5=>?_)
 obtain ⟨x,H1,I1,r1,q1⟩:=hq5
 obtain ⟨c,rfl,q1⟩:=q1
 cases r1
 exact not_of (wpAny_truthy_bool ⟨.bl (!c),H1,I1,rfl,q1⟩)
noncomputable def tIf (t:TT)(ta tb:TE):TE:=λ σ H Q=>t σ H λ c H1=>if c=true then ta σ H1 Q else tb σ H1 Q
theorem pe_ifExp {c:Expr}(hc:PT X c tA)(ha:PE X a ta)(hb:PE X b tb):PE X (.IfExp c a b pos) (tIf tA ta tb):=by
 intro pins s σ H Q I h
 refine wpAny_IfExp (thn (hc pins s σ H _ I h) λ d s1 hq6=>?_)
 obtain ⟨H1,I1,q1⟩:=hq6
 cases d with
 | true=>exact ha pins s1 σ H1 Q I1 q1
 | false=>exact hb pins s1 σ H1 Q I1 q1
end
end L2
namespace L2
open PySem PySem.Spec PyProof.Rows
noncomputable def SqL (K:PySem.W.Frag)(H:Hp)(a:Addr)(xs:List V):Prop :=
 Rd H a (.lst xs) \/
  ∃ (o:Obj) (its:Array Value) (n:Nat),K.lookup a=some o/\o.cls=.type "list" /\ o.dict=none/\o.data=.seq its n/\its.size<=sizeLine/\Vals xs its.toList
noncomputable def SqT (K:PySem.W.Frag)(H:Hp)(a:Addr)(xs:List V):Prop :=
 Rd H a (.tup xs) \/
  ∃ (o:Obj) (its:Array Value) (n:Nat),K.lookup a=some o/\o.cls=.type "tuple" /\ o.dict=none/\o.data=.seq its n/\its.size<=sizeLine/\Vals xs its.toList
noncomputable def absV:Value->Option V
 | .none=>some .non
 | .bool b=>some (.bl b)
 | .int i _=>some (.int i)
 | .str x _=>some (.str x)
 | .bytes b _=>some (.byt b)
 | .float b _=>some (.flt b)
 | .ref a=>some (.ref a)
 | .type n=>some (.ty n)
 | _=>none
theorem RelV.abs {x:V}{u:Value}(r:RelV x u):absV u=some x:=by
 cases x with
 | non=>cases r; rfl
 | bl _=>cases r; rfl
 | int _=>obtain ⟨t,rfl⟩:=r; rfl
 | str _=>obtain ⟨t,rfl⟩:=r; rfl
 | byt _=>obtain ⟨t,rfl⟩:=r; rfl
 | flt _=>obtain ⟨t,rfl⟩:=r; rfl
 | ref _=>cases r; rfl
 | ty _=>cases r; rfl
theorem RelV.inj {x y:V}{u:Value}(r:RelV x u)(q:RelV y u):x=y:=Option.some.inj (r.abs.symm.trans q.abs)
theorem Vals.inj:∀ {xs ys:List V} {us:List Value},Vals xs us->Vals ys us->xs=ys
 | _,_,_,.nil,.nil=>rfl
 | _,_,_,.cons r t,.cons r' t'=>by rw [r.inj r',Vals.inj t t']
section
variable {X:Cx}{pins:List (Addr×Obj)}{σ:St}{H:Hp}{s:Shared}{a:Addr}{xs ys:List V}
theorem SqL.of {K:PySem.W.Frag}(h:H a=some (.lst xs)):SqL K H a xs:=.inl (.inl h)
theorem SqT.of {K:PySem.W.Frag}(h:H a=some (.tup xs)):SqT K H a xs:=.inl (.inl h)
theorem Inv.list (I:Inv X pins σ H s)(h:SqL X.K H a xs):∃ its:List Value,Vals xs its/\PlainL s.heap a its.toArray/\xs.length<=sizeLine:=by
 rcases h with h | ⟨o,its,n,hk,hc,hd,hs,hz,r⟩
 ·obtain ⟨z,its,n,r,e⟩:=h.ok I.hok
  exact ⟨its,r,⟨_,n,e,rfl,rfl,rfl⟩,z⟩
 ·refine ⟨its.toList,r,⟨o,n,I.kIn a o hk,hc,hd,by simpa using hs⟩,?_⟩
  have e:=r.length
  simp only [Array.length_toList] at e
  omega
theorem Inv.tupN (I:Inv X pins σ H s)(h:SqT X.K H a xs):∃ its:List Value,Vals xs its/\TupN s.heap a its.toArray/\xs.length<=sizeLine:=by
 rcases h with h | ⟨o,its,n,hk,hc,hd,hs,hz,r⟩
 ·obtain ⟨z,its,r,p⟩:=h.ok I.hok
  exact ⟨its,r,p,z⟩
 ·refine ⟨its.toList,r,⟨o,I.kIn a o hk,hc,hd,n,by simpa using hs⟩,?_⟩
  have e:=r.length
  simp only [Array.length_toList] at e
  omega
theorem Inv.tuple (I:Inv X pins σ H s)(h:SqT X.K H a xs):∃ its:List Value,Vals xs its/\IsTup s.heap a its.toArray/\xs.length<=sizeLine:=by
 obtain ⟨its,r,p,z⟩:=I.tupN h
 exact ⟨its,r,p.tup,z⟩
theorem Inv.list_inj (I:Inv X pins σ H s)(h:SqL X.K H a xs)(h':SqL X.K H a ys):xs=ys:=by
 obtain ⟨its,r,⟨o,n,e,_,_,d⟩,_⟩:=I.list h
 obtain ⟨its',r',⟨o',n',e',_,_,d'⟩,_⟩:=I.list h'
 rw [e] at e'; cases e'
 rw [d] at d'
 injection d' with d1 _
 have:its=its':=by simpa using congrArg Array.toList d1
 subst this
 exact r.inj r'
theorem Inv.tuple_inj (I:Inv X pins σ H s)(h:SqT X.K H a xs)(h':SqT X.K H a ys):xs=ys:=by
 obtain ⟨its,r,⟨o,e,_,n,d⟩,_⟩:=I.tuple h
 obtain ⟨its',r',⟨o',e',_,n',d'⟩,_⟩:=I.tuple h'
 rw [e] at e'; cases e'
 rw [d] at d'
 injection d' with d1 _
 have:its=its':=by simpa using congrArg Array.toList d1
 subst this
 exact r.inj r'
end
noncomputable abbrev Cx.wish (X:Cx)(E:Value->Shared->Prop):Cx:={ X with xe:=E }
noncomputable abbrev Cx.nox (X:Cx):Cx:=X.wish λ _ _=>False
theorem Cx.Ok.wish {X:Cx}(ok:X.Ok)(E:Value->Shared->Prop):(X.wish E).Ok :=
 ⟨ok.mod,ok.kind,ok.glob,ok.blt,ok.above,ok.inj,ok.has,ok.cab,ok.hd,ok.frames,ok.stk,ok.exf,ok.bs,ok.bsz,ok.noex,ok.exfs,ok.funs,ok.frf⟩
theorem Cx.Ok.unwish {X:Cx}{E:Value->Shared->Prop}(ok:(X.wish E).Ok):X.Ok :=
 ⟨ok.mod,ok.kind,ok.glob,ok.blt,ok.above,ok.inj,ok.has,ok.cab,ok.hd,ok.frames,ok.stk,ok.exf,ok.bs,ok.bsz,ok.noex,ok.exfs,ok.funs,ok.frf⟩
section
variable {X:Cx}{pins:List (Addr×Obj)}{σ:St}{H:Hp}{s:Shared}{E:Value->Shared->Prop}
theorem Inv.wish (I:Inv X pins σ H s)(E:Value->Shared->Prop):Inv (X.wish E) pins σ H s:=⟨I.ok.wish E,I.os,I.bare,I.base,I.loc,I.cell,I.free,I.freeC,I.pin,I.hok,I.len⟩
theorem Inv.unwish (I:Inv (X.wish E) pins σ H s):Inv X pins σ H s:=⟨I.ok.unwish,I.os,I.bare,I.base,I.loc,I.cell,I.free,I.freeC,I.pin,I.hok,I.len⟩
theorem SP.unwish {D:Ends}{f:Flow}{s':Shared}(h:SP (X.wish E) pins D f s'):SP X pins D f s':=by
 cases f with
 | next=>obtain ⟨σ',H',I,q⟩:=h; exact ⟨σ',H',I.unwish,q⟩
 | brk=>obtain ⟨σ',H',I,q⟩:=h; exact ⟨σ',H',I.unwish,q⟩
 | cont=>obtain ⟨σ',H',I,q⟩:=h; exact ⟨σ',H',I.unwish,q⟩
 | ret u=>obtain ⟨v,σ',H',I,r,q⟩:=h; exact ⟨v,σ',H',I.unwish,r,q⟩
theorem PE.nox {e:Expr}{t:TE}(h:PE X.nox e t):PE X e t:=λ pins s σ H Q I hw =>
 wpAny_mono (h pins s σ H Q (I.wish _) hw) (λ _ _ ⟨v,H',I',r,q⟩=>⟨v,H',I'.unwish,r,q⟩) λ _ _ z=>False.elim z
theorem PT.nox {e:Expr}{t:TT}(h:PT X.nox e t):PT X e t:=λ pins s σ H Q I hw =>
 wpAny_mono (h pins s σ H Q (I.wish _) hw) (λ _ _ ⟨H',I',q⟩=>⟨H',I'.unwish,q⟩) λ _ _ z=>False.elim z
theorem PSs.nox {st:List Stmt}{t:TS}(h:PSs X.nox st t):PSs X st t:=λ pins s σ H D I hw =>
 wpAny_mono (h pins s σ H D (I.wish _) hw) (λ _ _ q=>q.unwish) λ _ _ z=>False.elim z
end
section
variable {X:Cx}{st:Stmt}{rest:List Stmt}{t u:TS}{e:Expr}{te:TE}{pos:Pos}
noncomputable def tNext:TS:=λ D σ H=>D.nx σ H
noncomputable def tSeq (t u:TS):TS:=λ D σ H=>t { D with nx:=u D } σ H
theorem pss_nil:PSs X [] tNext:=λ _ _ σ H _ I h=>wpAny_execs_nil ⟨σ,H,I,h⟩
theorem pss_cons (h1:PS X st t)(h2:PSs X rest u):PSs X (st :: rest) (tSeq t u):=by
 intro pins s σ H D I h
 refine wpAny_execs_cons (thn (h1 pins s σ H { D with nx:=u D } I h) λ f s1 q=>?_)
 cases f with
 | next =>
  obtain ⟨σ',H',I',q⟩:=q
  exact h2 pins s1 σ' H' D I' q
 | ret v=>exact q
 | brk=>exact q
 | cont=>exact q
theorem pss_one (h1:PS X st t):PSs X [st] t:=by
 intro pins s σ H D I h
 refine wpAny_execs_cons (thn (h1 pins s σ H D I h) λ f s1 q=>?_)
 cases f with
 | next=>exact wpAny_execs_nil q
 | ret v=>exact q
 | brk=>exact q
 | cont=>exact q
theorem Inv.quiet {pins:List (Addr×Obj)}{σ:St}{H:Hp}{s:Shared}(I:Inv X pins σ H s):interactive X.env=false:=by simp [interactive,I.ok.kind]
noncomputable def tDrop (te:TE):TS:=λ D σ H=>te σ H λ _ H1=>D.nx σ H1
theorem ps_expr (he:PE X e te)(hs:swapsWith e none pos.line X.env=pure false:=by rfl):PS X (.Expr e pos) (tDrop te):=by
 intro pins s σ H D I h
 exact wpAny_Expr_any (thn (he pins s σ H _ I h) λ v s1 ⟨x,H1,I1,r1,q1⟩=>⟨σ,H1,I1,q1⟩) I.quiet hs
noncomputable def tRet (te:TE):TS:=λ D σ H=>te σ H D.rt
theorem ps_ret (he:PE X e te):PS X (.Return (some e) pos) (tRet te):=by
 intro pins s σ H D I h
 exact wpAny_Return_some (thn (he pins s σ H _ I h) λ v s1 ⟨x,H1,I1,r1,q1⟩=>⟨x,σ,H1,I1,r1,q1⟩)
noncomputable def tIfS (c:TT)(t u:TS):TS:=λ D σ H=>c σ H λ b H1=>if b=true then t D σ H1 else u D σ H1
theorem ps_if {c:Expr}{a b:List Stmt}{tc:TT}(hc:PT X c tc)(ha:PSs X a t)(hb:PSs X b u):PS X (.If c a b pos) (tIfS tc t u):=by
 intro pins s σ H D I h
 refine wpAny_If (thn (hc pins s σ H _ I h) λ d s1 hq7=>?_)
 obtain ⟨H1,I1,q1⟩:=hq7
 cases d with
 | true=>exact ha pins s1 σ H1 D I1 q1
 | false=>exact hb pins s1 σ H1 D I1 q1
end
noncomputable abbrev TG:=V->St->Hp->(St->Hp->Prop)->Prop
noncomputable abbrev TGs:=List V->St->Hp->(St->Hp->Prop)->Prop
noncomputable def PG (X:Cx)(target:Expr)(t:TG):Prop :=
 ∀ (pins:List (Addr×Obj)) (s:Shared) (σ:St) (H:Hp) (v:V) (u:Value) (Q:St->Hp->Prop),Inv X pins σ H s->RelV v u->t v σ H Q ->
  wpAny (model X.prog X.w) X.A (assign target X.env u) (λ _ s'=>∃ σ' H',Inv X pins σ' H' s'/\Q σ' H') X.xe s
noncomputable def PGs (X:Cx)(ts:List Expr)(t:TGs):Prop :=
 ∀ (pins:List (Addr×Obj)) (s:Shared) (σ:St) (H:Hp) (vs:List V) (us:List Value) (Q:St->Hp->Prop),Inv X pins σ H s->Vals vs us->t vs σ H Q ->
  wpAny (model X.prog X.w) X.A (assignInOrder ((assignEach ts X.env).map (·.2)) us) (λ _ s'=>∃ σ' H',Inv X pins σ' H' s'/\Q σ' H') X.xe s
noncomputable abbrev TSet:=V->V->V->Hp->(Hp->Prop)->Prop
noncomputable def PSet (X:Cx)(t:TSet):Prop :=
 ∀ (pins:List (Addr×Obj)) (s:Shared) (σ:St) (H:Hp) (o i v:V) (ov iv u:Value) (Q:Hp->Prop),Inv X pins σ H s->RelV o ov->RelV i iv->RelV v u->t o i v H Q ->
  wpAny (model X.prog X.w) X.A (setItem ov iv u) (λ _ s'=>∃ H',Inv X pins σ H' s'/\Q H') X.xe s
noncomputable abbrev TIp:=V->V->Hp->VK->Prop
noncomputable def PIp (X:Cx)(op:Operator)(t:TIp):Prop :=
 ∀ (pins:List (Addr×Obj)) (s:Shared) (σ:St) (H:Hp) (x y:V) (v u:Value) (Q:VK),Inv X pins σ H s->RelV x v->RelV y u->t x y H Q ->
  wpAny (model X.prog X.w) X.A (inplaceOp op v u) (EP X pins σ Q) X.xe s
section
variable {X:Cx}{pos:Pos}
noncomputable def gName (i:Nat):TG:=λ v σ H Q=>Q (σ.set i (some v)) H
theorem pg_name {i:Nat}{x:Str}(hN:X.N.Nodup)(hi:X.N[i]? = some x)(hx:Loc X.env.scope x)(hf:X.fn x=true\/X.env.scope.names.lookup x=some .local:=by first | exact .inl rfl | exact .inr rfl | assumption):PG X (.Name x pos) (gName i):=by
 intro pins s σ H v u Q I r h
 exact wpAny_assign_Name (store_ok I hN hi hx r (λ s' I'=>⟨_,H,I',h⟩) hf)
noncomputable def gNil:TGs:=λ vs σ H Q=>vs=[]/\Q σ H
noncomputable def gCons (t:TG)(u:TGs):TGs:=λ vs σ H Q=>∃ v r,vs=v :: r/\t v σ H λ σ' H'=>u r σ' H' Q
theorem pgs_nil:PGs X [] gNil:=by
 intro pins s σ H vs us Q I r h
 obtain ⟨e,h⟩:=h
 subst e
 cases r
 exact assignInOrder_nil ⟨σ,H,I,h⟩
theorem pgs_cons {e:Expr}{es:List Expr}{t:TG}{u:TGs}(h1:PG X e t)(h2:PGs X es u)
  (hs:(assignEach (e :: es) X.env).map (·.2)=assign e X.env :: (assignEach es X.env).map (·.2):=by rfl):PGs X (e :: es) (gCons t u):=by
 intro pins s σ H vs us Q I r h
 obtain ⟨v,vr,e1,h⟩:=h
 subst e1
 cases r with
 | cons r rr =>
  rw [hs]
  refine assignInOrder_cons (thn (h1 pins s σ H _ _ _ I r h) λ _ s1 hq8=>?_)
  obtain ⟨σ1,H1,I1,q1⟩:=hq8
  exact h2 pins s1 σ1 H1 _ _ Q I1 rr q1
noncomputable def gTup (K:PySem.W.Frag)(n:Nat)(t:TGs):TG:=λ v σ H Q=>∃ a xs,v=.ref a/\SqT K H a xs/\xs.length=n/\t xs σ H Q
theorem pg_tup {es:List Expr}{k:Nat}{t:TGs}{n:Nat}(hc:X.calm=true)(h:PGs X es t)
  (hn:(assignEach es X.env).length=n:=by rfl)(hst:(assignEach es X.env).findIdx? (·.1)=none:=by rfl):PG X (.Tuple es k pos) (gTup X.K n t):=by
 intro pins s σ H v u Q I r hw
 obtain ⟨a,xs,e1,hq,hl,hw⟩:=hw
 subst e1
 cases r
 obtain ⟨its,rv,ht,hz⟩:=I.tuple hq
 refine assign_Tuple_tuple (I.ok.hd hc) ht (by simp [hn,<- hl,rv.length]) hst λ h' hx=>?_
 have I1:Inv X pins σ H { s with heap:=h' }:=I.kept (t':=s.toks) λ b o e=>hx b o (Nat.ne_of_lt (Heap.lt_size e)) e
 exact h pins _ σ H xs _ Q I1 (by simpa using rv) hw
noncomputable def gSub (to ti:TE)(t:TSet):TG:=λ v σ H Q=>to σ H λ o H1=>ti σ H1 λ i H2=>t o i v H2 λ H3=>Q σ H3
theorem pg_sub {o i:Expr}{to ti:TE}{t:TSet}(ho:PE X o to)(hi:PE X i ti)(hs:PSet X t)
  (ha:∀ v,assign (.Subscript o i pos) X.env v=(do
   let ov <- holding [v] (eval o X.env)
   let iv <- holding [v,ov] (eval i X.env)
   standAt pos
   holding [v,ov,iv] (setItem ov iv v)
   release [v,ov,iv] []):=by intro _; rfl):PG X (.Subscript o i pos) (gSub to ti t):=by
 intro pins s σ H v u Q I r h
 rw [ha]
 refine wpAny_bind (wpAny_holding (thn (ho pins s σ H _ I h) λ ov s1 hq9=>?_))
 obtain ⟨x,H1,I1,r1,q1⟩:=hq9
 refine wpAny_bind (wpAny_holding (thn (hi pins s1 σ H1 _ I1 q1) λ iv s2 hq10=>?_))
 obtain ⟨y,H2,I2,r2,q2⟩:=hq10
 refine wpAny_bind (wpAny_standAt (wpAny_bind (wpAny_holding (thn (hs pins s2 σ H2 x y v ov iv u _ I2 r1 r2 r q2) λ _ s3 hq11=>?_))))
 obtain ⟨H3,I3,q3⟩:=hq11
 exact wpAny_release ⟨σ,H3,I3,q3⟩
noncomputable def tAsg (te:TE)(g:TG):TS:=λ D σ H=>te σ H λ x H1=>g x σ H1 D.nx
theorem ps_asg {tg e:Expr}{te:TE}{g:TG}(he:PE X e te)(hg:PG X tg g)(hs:swapsWithSole [tg] e pos.line X.env=pure false:=by rfl)(hw:swappedStores [tg] e X.env=pure none:=by rfl)
  (h1:(assignEach [tg] X.env).map (·.2)=[assign tg X.env]:=by rfl):PS X (.Assign [tg] e pos) (tAsg te g):=by
 intro pins s σ H D I h
 refine wpAny_Assign_stores (thn (he pins s σ H _ I h) λ v s1 ⟨x,H1,I1,r1,q1⟩=>?_) hs hw
 rw [h1]
 exact thn (hg pins s1 σ H1 x v _ I1 r1 q1) λ _ s2 q=>q
theorem ps_set {i:Nat}{x:Str}{e:Expr}{te:TE}{pos':Pos}(hN:X.N.Nodup)(hi:X.N[i]? = some x)(hx:Loc X.env.scope x)(he:PE X e te)(hs:swapsWith e (some (.Name x pos')) pos.line X.env=pure false:=by rfl)(hf:X.fn x=true\/X.env.scope.names.lookup x=some .local:=by first | exact .inl rfl | exact .inr rfl | assumption) :
  PS X (.Assign [.Name x pos'] e pos) (tAsg te (gName i)):=by
 intro pins s σ H D I h
 refine wpAny_Assign_Name (thn (he pins s σ H _ I h) λ v s1 ⟨y,H1,I1,r1,q1⟩=>?_) hs
 exact store_ok I1 hN hi hx r1 (λ s2 I2=>⟨_,H1,I2,q1⟩) hf
noncomputable def tAugS (to ti te:TE)(tget:V->V->Hp->VK->Prop)(tip:TIp)(tset:TSet):TS:=λ D σ H=>to σ H λ o H1=>ti σ H1 λ i H2=>tget o i H2 λ x H3=>te σ H3 λ y H4=>tip x y H4 λ z H5=>tset o i z H5 λ H6=>D.nx σ H6
noncomputable def PGet (X:Cx)(t:V->V->Hp->VK->Prop):Prop :=
 ∀ (pins:List (Addr×Obj)) (s:Shared) (σ:St) (H:Hp) (o i:V) (ov iv:Value) (Q:VK),Inv X pins σ H s->RelV o ov->RelV i iv->t o i H Q ->
  wpAny (model X.prog X.w) X.A (getItem ov iv) (EP X pins σ Q) X.xe s
theorem ps_augS {o i e:Expr}{to ti te:TE}{tget:V->V->Hp->VK->Prop}{tip:TIp}{tset:TSet}{op:Operator}{tpos:Pos}(ho:PE X o to)(hi:PE X i ti)(hg:PGet X tget)(he:PE X e te)(hp:PIp X op tip)(hs:PSet X tset)
  (ha:∀ ov iv new,augStore i ov iv new=(do holding [new,ov,iv] (setItem ov iv new); release [new,ov,iv] []; pure .next):=by intros; rfl):PS X (.AugAssign (.Subscript o i tpos) op e pos) (tAugS to ti te tget tip tset):=by
 intro pins s σ H D I h
 refine wpAny_AugAssign_SubscriptAny (thn (ho pins s σ H _ I h) λ ov s1 ⟨x1,H1,I1,r1,q1⟩=>?_) ha
 refine thn (hi pins s1 σ H1 _ I1 q1) λ iv s2 hq12=>?_
 obtain ⟨x2,H2,I2,r2,q2⟩:=hq12
 refine thn (hg pins s2 σ H2 x1 x2 ov iv _ I2 r1 r2 q2) λ old s3 hq13=>?_
 obtain ⟨x3,H3,I3,r3,q3⟩:=hq13
 refine thn (he pins s3 σ H3 _ I3 q3) λ v s4 hq14=>?_
 obtain ⟨x4,H4,I4,r4,q4⟩:=hq14
 refine thn (hp pins s4 σ H4 x3 x4 old v _ I4 r3 r4 q4) λ new s5 hq15=>?_
 obtain ⟨x5,H5,I5,r5,q5⟩:=hq15
 exact thn (hs pins s5 σ H5 x1 x2 x5 ov iv new _ I5 r1 r2 r5 q5) λ _ s6 ⟨H6,I6,q6⟩=>⟨σ,H6,I6,q6⟩
noncomputable def ipI (f:Int->Int->Int):TIp:=λ x y H Q=>∃ i j,x=.int i/\y=.int j/\Q (.int (f i j)) H
theorem ip_add:PIp X .Add (ipI λ i j=>i+j):=by
 intro pins s σ H x y v u Q I r1 r2 h
 obtain ⟨i,j,e1,e2,q⟩:=h
 subst e1; subst e2
 obtain ⟨t,rfl⟩:=r1
 obtain ⟨t',rfl⟩:=r2
 exact iadd_int ⟨.int _,H,I.tok _,⟨_,rfl⟩,q⟩
end
section
variable {X:Cx}{pos:Pos}
noncomputable def tWhile (c:TT)(tb:TS):TS:=λ D σ H=>∃ W:Nat->St->Hp->Prop,(∃ m,W m σ H)/\∀ m σ H,W m σ H ->
 c σ H λ b H1=>if b=true then ∃ N:St->Hp->Prop,(∀ σ' H',N σ' H'->∃ m',m' < m/\W m' σ' H')/\tb { D with nx:=N,ct:=N,bk:=D.nx } σ H1 else D.nx σ H1
theorem ps_while {c:Expr}{body:List Stmt}{tc:TT}{tb:TS}(hp:PassesOwn (model X.prog X.w) X.A X.env X.xe)(hc:PT X c tc)(hb:PSs X body tb):PS X (.While c body [] pos) (tWhile tc tb):=by
 intro pins s σ H D I h
 obtain ⟨W,⟨m0,w0⟩,turn⟩:=h
 refine wpAny_While (codeAny_whileLoop (λ n s'=>∃ σ' H',Inv X pins σ' H' s'/\W n σ' H') ?_ m0 ⟨σ,H,I,w0⟩)
 rintro n s1 ⟨σ1,H1,I1,w1⟩
 refine wpAny_passesOwn hp (thn (hc pins s1 σ1 H1 _ I1 (turn n σ1 H1 w1)) λ b s2 hq16=>?_)
 obtain ⟨H2,I2,q2⟩:=hq16
 cases b with
 | true =>
  obtain ⟨N,hN,q2⟩:=q2
  rw [if_pos rfl]
  refine wpAny_passesOwn hp (thn (hb pins s2 σ1 H2 _ I2 q2) λ f s3 q3=>?_)
  cases f with
  | next =>
   obtain ⟨σ3,H3,I3,n3⟩:=q3
   obtain ⟨m',hm,w3⟩:=hN σ3 H3 n3
   exact ⟨m',hm,σ3,H3,I3,w3⟩
  | cont =>
   obtain ⟨σ3,H3,I3,n3⟩:=q3
   obtain ⟨m',hm,w3⟩:=hN σ3 H3 n3
   exact ⟨m',hm,σ3,H3,I3,w3⟩
  | brk=>exact q3
  | ret v=>exact q3
 | false =>
  rw [if_neg Bool.false_ne_true]
  exact wpAny_execs_nil ⟨σ1,H2,I2,q2⟩
end
structure It where
 go:Nat->Hp->Prop
 yld:Nat->Hp->V->Hp->Prop
 stop:Nat->Hp->Prop
noncomputable def FpOk (X:Cx)(pins:List (Addr×Obj))(H:Hp)(b:Addr):Prop :=
 H b=none/\b≠X.env.locals/\b ∉ X.fs/\(b∈X.ex\/X.s₀.heap.objs.size<=b)/\(∀ x c,X.env.cells.lookup x=some c->c≠b)/\∀ p∈X.pn++pins,p.1≠b
theorem Inv.fpOk {X:Cx}{pins:List (Addr×Obj)}{σ:St}{H H':Hp}{s:Shared}{b:Addr}(I:Inv X pins σ H s)(hb:s.heap.objs.size<=b)(hn:H' b=none):FpOk X pins H' b:=by
 refine ⟨hn,Nat.ne_of_gt (Nat.lt_of_lt_of_le I.lt hb),I.nofs hb,.inr (Nat.le_trans I.sz hb),λ x c e z=>?_,λ p hp z=>?_⟩
 ·obtain ⟨v,q⟩:=I.cell x c e
  exact absurd (Nat.lt_of_lt_of_le q.lt (by rw [z]; exact hb)) (Nat.lt_irrefl _)
 ·exact absurd (Nat.lt_of_lt_of_le (Heap.lt_size (I.pin p hp).1) (by rw [z]; exact hb)) (Nat.lt_irrefl _)
structure Turn (P:Program)(w:World)(K:PySem.W.Frag)(tg:Expr)(J:It)(fp:List Addr)(it:Addr)(tn:Nat->Heap->Prop):Prop where
 mem:it∈fp
 obj:∀ i h,tn i h->∀ b∈fp,∃ o,h.get? b=some o/\∀ v,o.data ≠ .cell v
 keep:∀ i h h',tn i h->(∀ b∈fp,∀ o,h.get? b=some o->h'.get? b=some o)->tn i h'
 item:∀ (X:Cx),X.prog=P->X.w=w->X.K=K->X.calm=true->∀ (i:Nat) (pins:List (Addr×Obj)) (s:Shared) (σ:St) (H:Hp) (E:Value->Shared->Prop),Inv X pins σ H s->(∀ b∈fp,FpOk X pins H b)->tn i s.heap->J.go i H ->
  wpAny (model P w) X.A (pyNext (.ref it)) (λ r s1=>∃ u,r=some u /\
   wpAny (model P w) X.A (letOwnedTupleGo tg (.ref it) u) (λ _ s2=>∃ x H',Inv X pins σ H' s2/\RelV x u/\J.yld i H x H'/\tn (i+1) s2.heap/\∀ b∈fp,H' b=none) E s1) E s
 done:∀ (X:Cx),X.prog=P->X.w=w->X.K=K->X.calm=true->∀ (i:Nat) (pins:List (Addr×Obj)) (s:Shared) (σ:St) (H:Hp) (E:Value->Shared->Prop),Inv X pins σ H s->(∀ b∈fp,FpOk X pins H b)->tn i s.heap->J.stop i H ->
  wpAny (model P w) X.A (pyNext (.ref it)) (λ r s1=>r=none/\Inv X pins σ H s1) E s
 self:∀ (A:Around) (i:Nat) (s:Shared) (Q:Value->Shared->Prop) (E:Value->Shared->Prop),tn i s.heap->Q (.ref it) s->wpAny (model P w) A (pyIter (.ref it)) Q E s
noncomputable abbrev TI:=St->Hp->(It->Hp->Prop)->Prop
noncomputable def PIE (X:Cx)(pins:List (Addr×Obj))(σ:St)(tg:Expr)(R:It->Hp->Prop)(itv:Value)(s2:Shared):Prop :=
 ∃ (it:Addr) (fp:List Addr) (tn:Nat->Heap->Prop) (J:It) (H':Hp),itv=.ref it/\Inv X pins σ H' s2/\Turn X.prog X.w X.K tg J fp it tn/\tn 0 s2.heap/\(∀ b∈fp,FpOk X pins H' b)/\R J H'
noncomputable def PI (X:Cx)(tg iter:Expr)(wi:TI):Prop :=
 ∀ (pins:List (Addr×Obj)) (s:Shared) (σ:St) (H:Hp) (R:It->Hp->Prop),Inv X pins σ H s->wi σ H R ->
  wpAny (model X.prog X.w) X.A (eval iter X.env) (λ v s1=>wpAny (model X.prog X.w) X.A (pyIter v) (PIE X pins σ tg R) X.xe s1) X.xe s
theorem go_of {M:Model}{A:Around}{E:Value->Shared->Prop}{s:Shared}{tg:Expr}{it:Addr}{u:Value}{o:Obj}{n:String}{vs:Array Value}{Q:Unit->Shared->Prop}(ho:s.heap.get? it=some o)(hc:o.cls=.type n)(hd:o.data=.fields vs)
  (hn:["enumerate", "zip", "dict_itemiterator", "dict_reverseitemiterator", "odict_iterator", "itertools.zip_longest", "itertools.pairwise"].contains n=false)(hQ:Q () s):wpAny M A (letOwnedTupleGo tg (.ref it) u) Q E s:=by
 unfold letOwnedTupleGo
 cases tg <;> first
  | exact wpAny_pure hQ
  | (cases u <;> first
    | exact wpAny_pure hQ
    | (refine wpAny_bind (wpAny_load ho ?_)
       rw [hc,hd]
       show wpAny M A (if (["enumerate", "zip", "dict_itemiterator", "dict_reverseitemiterator", "odict_iterator", "itertools.zip_longest", "itertools.pairwise"].contains n && vs[0]? == some (rawInt _))=true then _ else _) Q E s
       rw [if_neg (by intro h; rw [hn,Bool.false_and] at h; cases h)]
       exact wpAny_pure hQ))
noncomputable def Itl (K:PySem.W.Frag)(a:Addr):It :=
 ⟨λ i H=>∃ xs x,SqL K H a xs/\xs[i]? = some x,λ i H x H'=>H'=H/\∀ xs,SqL K H a xs->xs[i]? = some x,λ i H=>∃ xs,SqL K H a xs/\xs.length<=i⟩
noncomputable def Itt (K:PySem.W.Frag)(a:Addr):It :=
 ⟨λ i H=>∃ xs x,SqT K H a xs/\xs[i]? = some x,λ i H x H'=>H'=H/\∀ xs,SqT K H a xs->xs[i]? = some x,λ i H=>∃ xs,SqT K H a xs/\xs.length<=i⟩
noncomputable def Itr (lo:Int)(n:Nat):It:=⟨λ i _=>i < n,λ i H x H'=>H'=H/\x=.int (lo+i),λ i _=>n<=i⟩
theorem turn_list {P:Program}{w:World}{K:PySem.W.Frag}{tg:Expr}(a it:Addr):Turn P w K tg (Itl K a) [it] it (λ i h=>h.IsListIter it a i) where
 mem:=by simp
 obj:=λ i h st b hb=>by
  have e:b=it:=by simpa using hb
  subst e
  obtain ⟨o,e,c,d⟩:=st
  exact ⟨o,e,λ v z=>by rw [d] at z; cases z⟩
 keep:=λ i h h' st k=>st.at λ o e=>k it (by simp) o e
 item:=by
  intro X hP hw hK hc i pins s σ H E I hf st hg
  subst hP hw hK
  obtain ⟨xs,x,hq,hx⟩:=hg
  obtain ⟨its,rv,p,hz⟩:=I.list hq
  obtain ⟨u,hu,ru⟩:=rv.get hx
  obtain ⟨f0,f1,f2,f3,f4,f5⟩:=hf it (by simp)
  refine wpAny_pyNext_list_item st p.isList (x:=u) (by simpa using hu) λ h' st' sb=>?_
  have I1:Inv X pins σ H { s with heap:=h' }:=I.turned (t':=s.toks) (λ b o hb e=>(sb.2 b hb).trans e) f0 f1 f3 f4 f5
  obtain ⟨o,e,c,d⟩:=id st'
  exact ⟨u,rfl,go_of (s:={ s with heap:=h' }) e c d (by decide) ⟨x,H,I1,ru,⟨rfl,λ ys hy=>by rw [I.list_inj hy hq]; exact hx⟩,st',λ b hb=>(hf b hb).1⟩⟩
 done:=by
  intro X hP hw hK hc i pins s σ H E I hf st hg
  subst hP hw hK
  obtain ⟨xs,hq,hx⟩:=hg
  obtain ⟨its,rv,p,hz⟩:=I.list hq
  obtain ⟨f0,f1,f2,f3,f4,f5⟩:=hf it (by simp)
  have hl:=rv.length
  exact wpAny_pyNext_list_end (I.ok.hd hc) st p.isList (by simp; omega) λ h' eb=>⟨rfl,I.turned (t':=s.toks) (λ b o hb e=>eb b o hb e) f0 f1 f3 f4 f5⟩
 self:=λ _ _ _ _ _ st h=>wpAny_pyIter_listiter st h
theorem turn_tuple {P:Program}{w:World}{K:PySem.W.Frag}{tg:Expr}(a it:Addr):Turn P w K tg (Itt K a) [it] it (λ i h=>h.IsTupleIter it a i) where
 mem:=by simp
 obj:=λ i h st b hb=>by
  have e:b=it:=by simpa using hb
  subst e
  obtain ⟨o,e,c,d⟩:=st
  exact ⟨o,e,λ v z=>by rw [d] at z; cases z⟩
 keep:=λ i h h' st k=>st.at λ o e=>k it (by simp) o e
 item:=by
  intro X hP hw hK hc i pins s σ H E I hf st hg
  subst hP hw hK
  obtain ⟨xs,x,hq,hx⟩:=hg
  obtain ⟨its,rv,p,hz⟩:=I.tuple hq
  obtain ⟨u,hu,ru⟩:=rv.get hx
  obtain ⟨f0,f1,f2,f3,f4,f5⟩:=hf it (by simp)
  refine wpAny_pyNext_tuple_item st (show s.heap.IsTuple a its.toArray from p) (x:=u) (by simpa using hu) λ h' st' sb=>?_
  have I1:Inv X pins σ H { s with heap:=h' }:=I.turned (t':=s.toks) (λ b o hb e=>(sb.2 b hb).trans e) f0 f1 f3 f4 f5
  obtain ⟨o,e,c,d⟩:=id st'
  exact ⟨u,rfl,go_of (s:={ s with heap:=h' }) e c d (by decide) ⟨x,H,I1,ru,⟨rfl,λ ys hy=>by rw [I.tuple_inj hy hq]; exact hx⟩,st',λ b hb=>(hf b hb).1⟩⟩
 done:=by
  intro X hP hw hK hc i pins s σ H E I hf st hg
  subst hP hw hK
  obtain ⟨xs,hq,hx⟩:=hg
  obtain ⟨its,rv,p,hz⟩:=I.tuple hq
  obtain ⟨f0,f1,f2,f3,f4,f5⟩:=hf it (by simp)
  have hl:=rv.length
  exact wpAny_pyNext_tuple_end (I.ok.hd hc) st (show s.heap.IsTuple a its.toArray from p) (by simp; omega) λ h' eb=>⟨rfl,I.turned (t':=s.toks) (λ b o hb e=>eb b o hb e) f0 f1 f3 f4 f5⟩
 self:=λ _ _ _ _ _ st h=>wpAny_pyIter_tupleiter st h
theorem turn_range {P:Program}{w:World}{K:PySem.W.Frag}{tg:Expr}(it:Addr)(lo:Int)(n:Nat):Turn P w K tg (Itr lo n) [it] it (λ i h=>IsRangeIter h it (lo+(i:Nat) * 1) ((n:Int) - (i:Nat)) 1) where
 mem:=by simp
 obj:=λ i h st b hb=>by
  have e:b=it:=by simpa using hb
  subst e
  exact ⟨_,st,λ v z=>by
   have z':Data.fields _=Data.cell v:=z
   cases z'⟩
 keep:=λ i h h' st k=>k it (by simp) _ st
 item:=by
  intro X hP hw hK hc i pins s σ H E I hf st hg
  subst hP hw hK
  obtain ⟨f0,f1,f2,f3,f4,f5⟩:=hf it (by simp)
  have W:=Walks.range (prog:=X.prog) (w:=X.w) (I.ok.hd hc) it lo 1 n
  refine W.item i s _ _ hg st λ v h' tk hv st' kk=>?_
  obtain ⟨t,rfl⟩:=hv
  have I1:Inv X pins σ H { s with heap:=h',toks:=tk }:=I.turned (λ b o hb e=>kk b o (by simpa using hb) e) f0 f1 f3 f4 f5
  refine ⟨_,rfl,go_of (s:={ s with heap:=h',toks:=tk }) (n := "range_iterator") st' rfl rfl (by decide) ⟨.int (lo+i),H,I1,⟨t,?_⟩,⟨rfl,rfl⟩,st',λ b hb=>(hf b hb).1⟩⟩
  rw [Int.mul_one]
 done:=by
  intro X hP hw hK hc i pins s σ H E I hf st hg
  subst hP hw hK
  obtain ⟨f0,f1,f2,f3,f4,f5⟩:=hf it (by simp)
  exact wpAny_pyNext_range_end (I.ok.hd hc) st (by have:n<=i:=hg; omega) λ h' eb=>⟨rfl,I.turned (t':=s.toks) (λ b o hb e=>eb b o hb e) f0 f1 f3 f4 f5⟩
 self:=λ _ _ _ _ _ st h=>wpAny_pyIter_rangeiter st h
end L2
namespace L2
open PySem PySem.Spec PyProof.Rows
section
variable {X:Cx}{tg:Expr}
theorem range_it {pins:List (Addr×Obj)}{σ:St}{H:Hp}{s:Shared}{R:It->Hp->Prop}{E:Value->Shared->Prop}{lo hi:Int}{t u v:Tok}{tk:Nat}(I:Inv X pins σ H s)(h1:-(2 ^ 62)<=lo)(h2:lo < 2 ^ 62)(h3:-(2 ^ 62)<=hi)(h4:hi < 2 ^ 62)
  (q:R (Itr lo (hi - lo).toNat) H):wpAny (model X.prog X.w) X.A (pyIter (.ref s.heap.objs.size)) (PIE X pins σ tg R) E { s with heap:=s.heap.push { cls:=.type "range",data:=.fields #[.int lo t,.int hi u,.int 1 v] },toks:=tk }:=by
 refine wpAny_pyIter_range (IsRange.new ..) (small_one h1 h2 h3 h4) ?_
 have I1:Inv X pins σ H { s with heap:=s.heap.push { cls:=.type "range",data:=.fields #[.int lo t,.int hi u,.int 1 v] },toks:=tk }:=I.kept λ b o e=>Heap.get?_push_of_some _ e
 refine ⟨(s.heap.push { cls:=.type "range",data:=.fields #[.int lo t,.int hi u,.int 1 v] }).objs.size,[(s.heap.push { cls:=.type "range",data:=.fields #[.int lo t,.int hi u,.int 1 v] }).objs.size],_,_,H,rfl,
  I1.kept (t':=tk) λ b o e=>Heap.get?_push_of_some _ e,turn_range _ lo (hi - lo).toNat,?_,λ b hb=>?_,q⟩
 ·have e1:lo+((0:Nat):Int) * 1=lo:=by simp
  have e2:(((hi - lo).toNat:Nat):Int) - ((0:Nat):Int)=Builtin.Range.rangeSize lo hi 1:=by rw [rangeSize_one]; split <;> omega
  show IsRangeIter _ _ (lo+((0:Nat):Int) * 1) ((((hi - lo).toNat:Nat):Int) - ((0:Nat):Int)) 1
  rw [e1,e2]
  exact Heap.get?_push_size _ rfl
 ·have e:b=(s.heap.push { cls:=.type "range",data:=.fields #[.int lo t,.int hi u,.int 1 v] }).objs.size:=by simpa using hb
  subst e
  exact I1.fpOk (Nat.le_refl _) (I1.hok.fresh (Nat.le_refl _))
noncomputable def iRng1 (ta:TA):TI:=λ σ H R=>ta σ H λ vs H1=>∃ j:Int,vs=[.int j]/\-(2 ^ 62)<=j/\j < 2 ^ 62/\R (Itr 0 j.toNat) H1
theorem pi_range1 {a:Expr}{ta:TA}{p pos:Pos}(hg:Gl X "range")(hm:X.mg "range" = none)(ha:PA X [a] ta)(hs:starEach [a] X.env=[(false,eval a X.env)]:=by rfl):PI X tg (.Call (.Name "range" p) [a] [] pos) (iRng1 ta):=by
 intro pins s σ H R I h
 refine Call_ (ld_blt I hg hm boot_range (PyProof.Rows.callWith_type1 (thn (ha pos pins s σ H _ I h) λ us s1 ⟨vs,H1,I1,r1,q1⟩=>?_) hs rfl))
 obtain ⟨j,e,q1,q2,q⟩:=q1
 subst e
 cases r1 with
 | cons r rr =>
  cases rr
  obtain ⟨t,rfl⟩:=r
  exact call_range_1 (range_it I1 (by omega) (by omega) q1 q2 (by simpa using q))
noncomputable def tFor (wi:TI)(g:TG)(tb:TS):TS:=λ D σ H=>wi σ H λ J H1=>∃ W:Nat->Nat->St->Hp->Prop,(∃ m,W 0 m σ H1)/\∀ i m σ H,W i m σ H ->
 (J.stop i H/\D.nx σ H)\/(J.go i H/\∃ N:St->Hp->Prop,(∀ σ' H',N σ' H'->∃ m',m' < m/\W (i+1) m' σ' H')/\∀ x H',J.yld i H x H'->g x σ H' λ σ2 H2=>tb { D with nx:=N,ct:=N,bk:=D.nx } σ2 H2)
noncomputable def pinsAt (fp:List Addr)(h:Heap):List (Addr×Obj):=fp.filterMap λ b=>(h.get? b).map λ o=>(b,o)
theorem mem_pinsAt {fp:List Addr}{h:Heap}{b:Addr}{o:Obj}(hb:b∈fp)(e:h.get? b=some o):(b,o)∈pinsAt fp h:=List.mem_filterMap.mpr ⟨b,hb,by rw [e]; rfl⟩
theorem of_pinsAt {fp:List Addr}{h:Heap}{p:Addr×Obj}(hp:p∈pinsAt fp h):p.1∈fp/\h.get? p.1=some p.2:=by
 obtain ⟨b,hb,e⟩:=List.mem_filterMap.mp hp
 cases q:h.get? b with
 | none=>rw [q] at e; cases e
 | some o =>
  rw [q] at e
  have e':(b,o)=p:=Option.some.inj e
  subst e'
  exact ⟨hb,q⟩
theorem Inv.pinned {pins:List (Addr×Obj)}{σ:St}{H:Hp}{s:Shared}{fp:List Addr}(I:Inv X pins σ H s)(hf:∀ b∈fp,FpOk X pins H b)(ho:∀ b∈fp,∃ o,s.heap.get? b=some o/\∀ v,o.data ≠ .cell v):Inv X (pins++pinsAt fp s.heap) σ H s :=
 I.pins_of λ p hp=>(List.mem_append.mp hp).elim (λ z=>I.pin p (List.mem_append_right _ z)) λ z=>by
  obtain ⟨hb,e⟩:=of_pinsAt z
  obtain ⟨f0,f1,f2,_⟩:=hf p.1 hb
  obtain ⟨o,e',d⟩:=ho p.1 hb
  rw [e] at e'; cases e'
  exact ⟨e,f0,f1,f2,d⟩
theorem Inv.unpinned {pins pl:List (Addr×Obj)}{σ:St}{H:Hp}{s:Shared}(I:Inv X (pins++pl) σ H s):Inv X pins σ H s:=I.pins_of λ p hp=>I.pin p (List.mem_append_right _ (List.mem_append_left _ hp))
theorem ps_for {iter:Expr}{body:List Stmt}{wi:TI}{g:TG}{tb:TS}{pos:Pos}(hp:PassesOwn (model X.prog X.w) X.A X.env X.xe)(hc:X.calm=true)(hi:PI X tg iter wi)(hg:PG X tg g)(hb:PSs X body tb)
  (hs:∀ x,foldedSetIterable iter X.env x=pure x:=by intro _; rfl):PS X (.For tg iter body [] pos) (tFor wi g tb):=by
 intro pins s σ H D I h
 refine wpAny_For (thn (hi pins s σ H _ I h) λ v s1 h1=>thn h1 λ itv s2 h2=>?_) hs
 obtain ⟨it,fp,tn,J,H2,e,I2,T,st2,f2,W,⟨m0,w0⟩,turn⟩:=h2
 subst e
 have stat:∀ {H':Hp},(∀ b∈fp,H' b=none)->∀ b∈fp,FpOk X pins H' b:=λ hn b hb=>⟨hn b hb,(f2 b hb).2⟩
 refine codeAny_forLoop_any (λ n s'=>∃ i σ' H',Inv X pins σ' H' s'/\tn i s'.heap/\(∀ b∈fp,H' b=none)/\W i n σ' H') ?_ m0 ⟨0,σ,H2,I2,st2,λ b hb=>(f2 b hb).1,w0⟩
 rintro n s3 ⟨i,σ3,H3,I3,st3,fr3,w3⟩
 rcases turn i n σ3 H3 w3 with ⟨stop,qn⟩ | ⟨go,N,hN,step⟩
 ·refine wpAny_passesOwn hp (thn (T.done X rfl rfl rfl hc i pins s3 σ3 H3 X.xe I3 (stat fr3) st3 stop) λ r s4 ⟨hr,I4⟩=>?_)
  subst hr
  exact wpAny_execs_nil ⟨σ3,H3,I4,qn⟩
 ·refine wpAny_passesOwn hp (thn (T.item X rfl rfl rfl hc i pins s3 σ3 H3 X.xe I3 (stat fr3) st3 go) λ r s4 ⟨u,hr,h4⟩=>?_)
  subst hr
  refine wpAny_passesOwn hp (thn h4 λ _ s5 hq17=>?_)
  obtain ⟨x,H5,I5,r5,y5,st5,fr5⟩:=hq17
  have I5':=I5.pinned (stat fr5) (T.obj _ _ st5)
  refine wpAny_passesOwn hp (thn (hg _ s5 σ3 H5 x u _ I5' r5 (step x H5 y5)) λ _ s6 hq18=>?_)
  obtain ⟨σ6,H6,I6,q6⟩:=hq18
  refine wpAny_passesOwn hp (thn (hb _ s6 σ6 H6 _ I6 q6) λ f s7 q7=>?_)
  have again:∀ {σ7:St} {H7:Hp},Inv X (pins++pinsAt fp s5.heap) σ7 H7 s7->N σ7 H7->∃ m,m < n/\∃ i σ' H',Inv X pins σ' H' s7/\tn i s7.heap/\(∀ b∈fp,H' b=none)/\W i m σ' H':=λ {σ7 H7} I7 n7=>by
   obtain ⟨m',hm,w7⟩:=hN σ7 H7 n7
   refine ⟨m',hm,i+1,σ7,H7,I7.unpinned,T.keep _ _ _ st5 λ b hb o e=>(I7.pin (b,o) (List.mem_append_right _ (List.mem_append_right _ (mem_pinsAt hb e)))).1,λ b hb=>?_,w7⟩
   obtain ⟨o,e,d⟩:=T.obj _ _ st5 b hb
   exact (I7.pin (b,o) (List.mem_append_right _ (List.mem_append_right _ (mem_pinsAt hb e)))).2.1
  cases f with
  | next=>obtain ⟨σ7,H7,I7,n7⟩:=q7; exact again I7 n7
  | cont=>obtain ⟨σ7,H7,I7,n7⟩:=q7; exact again I7 n7
  | brk=>obtain ⟨σ7,H7,I7,q7⟩:=q7; exact ⟨σ7,H7,I7.unpinned,q7⟩
  | ret v=>obtain ⟨x7,σ7,H7,I7,r7,q7⟩:=q7; exact ⟨x7,σ7,H7,I7.unpinned,r7,q7⟩
end
end L2
namespace L2
open PySem PySem.Spec PyProof.Rows
noncomputable abbrev R2:=V->V->Hp->VK->Prop
noncomputable def OpR (X:Cx)(f:Value->Value->Sem Value)(r:R2):Prop :=
 ∀ (pins:List (Addr×Obj)) (s:Shared) (σ:St) (H:Hp) (x y:V) (v u:Value) (Q:VK),Inv X pins σ H s->RelV x v->RelV y u->r x y H Q ->
  wpAny (model X.prog X.w) X.A (f v u) (EP X pins σ Q) X.xe s
noncomputable def UnR (X:Cx)(f:Value->Sem Value)(r:V->Hp->VK->Prop):Prop :=
 ∀ (pins:List (Addr×Obj)) (s:Shared) (σ:St) (H:Hp) (x:V) (v:Value) (Q:VK),Inv X pins σ H s->RelV x v->r x H Q ->
  wpAny (model X.prog X.w) X.A (f v) (EP X pins σ Q) X.xe s
noncomputable def CallR (X:Cx)(f:Value)(r:List V->Hp->VK->Prop):Prop :=
 ∀ (pins:List (Addr×Obj)) (s:Shared) (σ:St) (H:Hp) (xs:List V) (us:List Value) (Q:VK),Inv X pins σ H s->Vals xs us->r xs H Q ->
  wpAny (model X.prog X.w) X.A (call f us) (EP X pins σ Q) X.xe s
noncomputable def TruR (X:Cx)(r:V->Hp->(Bool->Hp->Prop)->Prop):Prop :=
 ∀ (pins:List (Addr×Obj)) (s:Shared) (σ:St) (H:Hp) (x:V) (v:Value) (Q:Bool->Hp->Prop),Inv X pins σ H s->RelV x v->r x H Q ->
  wpAny (model X.prog X.w) X.A (truthy v) (TP X pins σ Q) X.xe s
noncomputable def tOp (r:R2)(ta tb:TE):TE:=λ σ H Q=>ta σ H λ x H1=>tb σ H1 λ y H2=>r x y H2 Q
noncomputable def tUn (r:V->Hp->VK->Prop)(ta:TE):TE:=λ σ H Q=>ta σ H λ x H1=>r x H1 Q
noncomputable def rI (C:Int->Int->Prop)(g:Int->Int->V):R2:=λ x y H Q=>∃ i j,x=.int i/\y=.int j/\C i j/\Q (g i j) H
noncomputable def rI0 (g:Int->Int->V):R2:=λ x y H Q=>∃ i j,x=.int i/\y=.int j/\Q (g i j) H
noncomputable def rU (g:Int->V):V->Hp->VK->Prop:=λ x H Q=>∃ i,x=.int i/\Q (g i) H
section
variable {X:Cx}{a b c:Expr}{ta tb tc:TE}{pos:Pos}
theorem binT (ha:PE X a ta)(hb:PE X b tb){pins:List (Addr×Obj)}{s:Shared}{σ:St}{H:Hp}{R:V->V->Hp->Prop}(I:Inv X pins σ H s)
  (h:ta σ H λ x H1=>tb σ H1 λ y H2=>R x y H2){Q:Value->Shared->Prop}{f:Value->Value->Sem Value}
  (hf:∀ v u s2 x y H2,Inv X pins σ H2 s2->RelV x v->RelV y u->R x y H2->wpAny (model X.prog X.w) X.A (f v u) Q X.xe s2) :
  wpAny (model X.prog X.w) X.A (eval a X.env) (λ v s₁=>wpAny (model X.prog X.w) X.A (eval b X.env) (λ u s₂=>wpAny (model X.prog X.w) X.A (f v u) Q X.xe s₂) X.xe s₁) X.xe s:=by
 refine thn (ha pins s σ H _ I h) λ v s1 hq19=>?_
 obtain ⟨x,H1,I1,r1,q1⟩:=hq19
 refine thn (hb pins s1 σ H1 _ I1 q1) λ u s2 hq20=>?_
 obtain ⟨y,H2,I2,r2,q2⟩:=hq20
 exact hf v u s2 x y H2 I2 r1 r2 q2
theorem pe_op {op:Operator}{r:R2}(ho:OpR X (binaryOp op) r)(ha:PE X a ta)(hb:PE X b tb):PE X (.BinOp a op b pos) (tOp r ta tb):=by
 intro pins s σ H Q I h
 exact wpAny_BinOp (binT ha hb I h λ v u s2 x y H2 I2 rx ry q=>ho pins s2 σ H2 x y v u Q I2 rx ry q)
theorem pe_un {op:UnaryOp}{r:V->Hp->VK->Prop}(ho:UnR X (unaryOp op) r)(ha:PE X a ta):PE X (.UnaryOp op a pos) (tUn r ta):=by
 intro pins s σ H Q I h
 exact UnaryOp_ (thn (ha pins s σ H _ I h) λ v s1 ⟨x,H1,I1,r1,q1⟩=>ho pins s1 σ H1 x v Q I1 r1 q1)
theorem opI {f:Value->Value->Sem Value}{C:Int->Int->Prop}{g:Int->Int->Int}
  (rule:∀ (i j:Int) (t u:Tok) (s:Shared) (Q:Value->Shared->Prop) (E:Value->Shared->Prop),C i j->Q (.int (g i j) s.toks) { s with toks:=s.toks+1 }->wpAny (model X.prog X.w) X.A (f (.int i t) (.int j u)) Q E s) :
  OpR X f (rI C λ i j=>.int (g i j)):=by
 intro pins s σ H x y v u Q I rx ry h
 obtain ⟨i,j,rfl,rfl,hc,q⟩:=h
 obtain ⟨t,rfl⟩:=rx
 obtain ⟨t',rfl⟩:=ry
 exact rule i j t t' s _ _ hc ⟨.int (g i j),H,I.tok _,⟨_,rfl⟩,q⟩
theorem opI0 {f:Value->Value->Sem Value}{g:Int->Int->Int}
  (rule:∀ (i j:Int) (t u:Tok) (s:Shared) (Q:Value->Shared->Prop) (E:Value->Shared->Prop),Q (.int (g i j) s.toks) { s with toks:=s.toks+1 }->wpAny (model X.prog X.w) X.A (f (.int i t) (.int j u)) Q E s) :
  OpR X f (rI0 λ i j=>.int (g i j)):=by
 intro pins s σ H x y v u Q I rx ry h
 obtain ⟨i,j,rfl,rfl,q⟩:=h
 obtain ⟨t,rfl⟩:=rx
 obtain ⟨t',rfl⟩:=ry
 exact rule i j t t' s _ _ ⟨.int (g i j),H,I.tok _,⟨_,rfl⟩,q⟩
theorem opB0 {f:Value->Value->Sem Value}{g:Int->Int->Bool}
  (rule:∀ (i j:Int) (t u:Tok) (s:Shared) (Q:Value->Shared->Prop) (E:Value->Shared->Prop),Q (.bool (g i j)) s->wpAny (model X.prog X.w) X.A (f (.int i t) (.int j u)) Q E s) :
  OpR X f (rI0 λ i j=>.bl (g i j)):=by
 intro pins s σ H x y v u Q I rx ry h
 obtain ⟨i,j,rfl,rfl,q⟩:=h
 obtain ⟨t,rfl⟩:=rx
 obtain ⟨t',rfl⟩:=ry
 exact rule i j t t' s _ _ ⟨.bl (g i j),H,I,rfl,q⟩
noncomputable def CDiv (i j:Int):Prop:=0 < j/\j < 1073741824
noncomputable def CMul (i j:Int):Prop:=(-(2 ^ 64) < i/\i < 2 ^ 64)\/(-(2 ^ 64) < j/\j < 2 ^ 64)
theorem CMul.ok {i j:Int}(h:CMul i j):IntMulOk i j:=by
 rcases h with ⟨h1,h2⟩ | ⟨h1,h2⟩
 ·exact .of_left (intBits_le_64 h1 h2)
 ·exact .of_right (intBits_le_64 h1 h2)
theorem op_add:OpR X (binaryOp .Add) (rI0 λ i j=>.int (i+j)):=opI0 λ _ _ _ _ _ _ _ q=>add_int q
theorem op_sub:OpR X (binaryOp .Sub) (rI0 λ i j=>.int (i - j)):=opI0 λ _ _ _ _ _ _ _ q=>sub_int q
theorem op_mul:OpR X (binaryOp .Mult) (rI CMul λ i j=>.int (i * j)):=opI λ _ _ _ _ _ _ _ hc q=>mul_int q hc.ok
theorem op_fdiv:OpR X (binaryOp .FloorDiv) (rI CDiv λ i j=>.int (i / j)):=opI λ i j _ _ _ _ _ hc q=>by
 have h1:(0:Int) < j:=hc.1
 have h2:j < 1073741824:=hc.2
 exact floordiv_int (by omega) (by rw [Int.fdiv_eq_ediv_of_nonneg i (by omega)]; exact q) (.inl (PyProof.noPylong_small (by omega)))
theorem op_mod:OpR X (binaryOp .Mod) (rI (λ _ j=>0 < j) λ i j=>.int (i % j)):=opI λ i j _ _ _ _ _ hc q=>by
 have h1:(0:Int) < j:=hc
 exact mod_int' (by omega) (by rw [Int.fmod_eq_emod_of_nonneg i (by omega)]; exact q)
theorem unI {f:Value->Sem Value}{g:Int->Int}
  (rule:∀ (i:Int) (t:Tok) (s:Shared) (Q:Value->Shared->Prop) (E:Value->Shared->Prop),Q (.int (g i) s.toks) { s with toks:=s.toks+1 }->wpAny (model X.prog X.w) X.A (f (.int i t)) Q E s) :
  UnR X f (rU λ i=>.int (g i)):=by
 intro pins s σ H x v Q I rx h
 obtain ⟨i,rfl,q⟩:=h
 obtain ⟨t,rfl⟩:=rx
 exact rule i t s _ _ ⟨.int (g i),H,I.tok _,⟨_,rfl⟩,q⟩
theorem un_neg:UnR X (unaryOp .USub) (rU λ i=>.int (-i)):=unI λ _ _ _ _ _ q=>neg_int q
end
noncomputable def scal:V->V->Bool
 | .non,.non=>true | .non,.int _=>true | .int _,.non=>true | .non,.bl _=>true | .bl _,.non=>true | .non,.str _=>true | .str _,.non=>true
 | .int _,.int _=>true | .bl _,.bl _=>true | .str _,.str _=>true | .byt _,.byt _=>true
 | .int _,.str _=>true | .str _,.int _=>true | .bl _,.str _=>true | .str _,.bl _=>true
 | _,_=>false
noncomputable def rEq:R2:=λ x y H Q=>scal x y=true/\Q (.bl (decide (x=y))) H
noncomputable def rNe:R2:=λ x y H Q=>scal x y=true/\Q (.bl (!decide (x=y))) H
theorem dec_int {i j:Int}:decide (V.int i=V.int j)=(i == j):=by
 rw [Bool.eq_iff_iff]
 simp
theorem dec_bl {i j:Bool}:decide (V.bl i=V.bl j)=(i == j):=by
 rw [Bool.eq_iff_iff]
 simp
theorem dec_str {i j:Str}:decide (V.str i=V.str j)=(i == j):=by
 rw [Bool.eq_iff_iff]
 simp
theorem dec_byt {i j:Array UInt8}:decide (V.byt i=V.byt j)=(i.toList == j.toList):=by
 rw [Bool.eq_iff_iff]
 cases i
 cases j
 simp
section
variable {X:Cx}{a b c:Expr}{ta tb tc:TE}{pos:Pos}
theorem fin_bl {pins:List (Addr×Obj)}{σ:St}{H:Hp}{s:Shared}{Q:VK}{k k':Bool}(I:Inv X pins σ H s)(q:Q (.bl k) H)(e:k=k'):EP X pins σ Q (.bool k') s:=by
 subst e
 exact ⟨.bl k,H,I,rfl,q⟩
theorem op_eq:OpR X (compareOp .Eq) rEq:=by
 intro pins s σ H x y v u Q I rx ry h
 obtain ⟨hs,q⟩:=h
 cases x with
 | non =>
  cases rx
  cases y with
  | non=>cases ry; exact PySem.EqNone.eq_none_none (fin_bl I q (by simp))
  | bl j=>cases ry; exact PySem.EqNone.eq_none_bool (fin_bl I q (by simp))
  | int j=>obtain ⟨t',rfl⟩:=ry; exact PySem.EqNone.eq_none_int (fin_bl I q (by simp))
  | str j=>obtain ⟨t',rfl⟩:=ry; exact PySem.EqNone.eq_none_str (fin_bl I q (by simp))
  | _=>exact absurd (show false=true from hs) Bool.false_ne_true
 | bl i =>
  cases rx
  cases y with
  | non=>cases ry; exact PySem.EqNone.eq_bool_none (fin_bl I q (by simp))
  | bl j=>cases ry; exact eq_bool (fin_bl I q dec_bl)
  | str j=>obtain ⟨t',rfl⟩:=ry; exact PySem.EqMixed.eq_bool_str (fin_bl I q (by simp))
  | _=>exact absurd (show false=true from hs) Bool.false_ne_true
 | int i =>
  obtain ⟨t,rfl⟩:=rx
  cases y with
  | non=>cases ry; exact PySem.EqNone.eq_int_none (fin_bl I q (by simp))
  | int j=>obtain ⟨t',rfl⟩:=ry; exact eq_int (fin_bl I q dec_int)
  | str j=>obtain ⟨t',rfl⟩:=ry; exact PySem.EqMixed.eq_int_str (fin_bl I q (by simp))
  | _=>exact absurd (show false=true from hs) Bool.false_ne_true
 | str i =>
  obtain ⟨t,rfl⟩:=rx
  cases y with
  | non=>cases ry; exact PySem.EqNone.eq_str_none (fin_bl I q (by simp))
  | bl j=>cases ry; exact PySem.EqMixed.eq_str_bool (fin_bl I q (by simp))
  | int j=>obtain ⟨t',rfl⟩:=ry; exact PySem.EqMixed.eq_str_int (fin_bl I q (by simp))
  | str j=>obtain ⟨t',rfl⟩:=ry; exact eq_str (fin_bl I q dec_str)
  | _=>exact absurd (show false=true from hs) Bool.false_ne_true
 | byt i =>
  obtain ⟨t,rfl⟩:=rx
  cases y with
  | byt j=>obtain ⟨t',rfl⟩:=ry; exact PySem.W.eq_bytes (fin_bl I q dec_byt)
  | _=>exact absurd (show false=true from hs) Bool.false_ne_true
 | _=>cases y <;> exact absurd (show false=true from hs) Bool.false_ne_true
theorem op_ne:OpR X (compareOp .NotEq) rNe:=by
 intro pins s σ H x y v u Q I rx ry h
 obtain ⟨hs,q⟩:=h
 cases x with
 | non =>
  cases rx
  cases y with
  | non=>cases ry; exact PySem.EqNone.ne_none_none (fin_bl I q (by simp))
  | bl j=>cases ry; exact PySem.EqNone.ne_none_bool (fin_bl I q (by simp))
  | int j=>obtain ⟨t',rfl⟩:=ry; exact PySem.EqNone.ne_none_int (fin_bl I q (by simp))
  | str j=>obtain ⟨t',rfl⟩:=ry; exact PySem.EqNone.ne_none_str (fin_bl I q (by simp))
  | _=>exact absurd (show false=true from hs) Bool.false_ne_true
 | bl i =>
  cases rx
  cases y with
  | non=>cases ry; exact PySem.EqNone.ne_bool_none (fin_bl I q (by simp))
  | bl j=>cases ry; exact ne_bool (fin_bl I q (congrArg not dec_bl))
  | str j=>obtain ⟨t',rfl⟩:=ry; exact PySem.EqMixed.ne_bool_str (fin_bl I q (by simp))
  | _=>exact absurd (show false=true from hs) Bool.false_ne_true
 | int i =>
  obtain ⟨t,rfl⟩:=rx
  cases y with
  | non=>cases ry; exact PySem.EqNone.ne_int_none (fin_bl I q (by simp))
  | int j=>obtain ⟨t',rfl⟩:=ry; exact ne_int (fin_bl I q (congrArg not dec_int))
  | str j=>obtain ⟨t',rfl⟩:=ry; exact PySem.EqMixed.ne_int_str (fin_bl I q (by simp))
  | _=>exact absurd (show false=true from hs) Bool.false_ne_true
 | str i =>
  obtain ⟨t,rfl⟩:=rx
  cases y with
  | non=>cases ry; exact PySem.EqNone.ne_str_none (fin_bl I q (by simp))
  | bl j=>cases ry; exact PySem.EqMixed.ne_str_bool (fin_bl I q (by simp))
  | int j=>obtain ⟨t',rfl⟩:=ry; exact PySem.EqMixed.ne_str_int (fin_bl I q (by simp))
  | str j=>obtain ⟨t',rfl⟩:=ry; exact ne_str (fin_bl I q (congrArg not dec_str))
  | _=>exact absurd (show false=true from hs) Bool.false_ne_true
 | byt i =>
  obtain ⟨t,rfl⟩:=rx
  cases y with
  | byt j=>obtain ⟨t',rfl⟩:=ry; exact PySem.W.ne_bytes (fin_bl I q (congrArg not dec_byt))
  | _=>exact absurd (show false=true from hs) Bool.false_ne_true
 | _=>cases y <;> exact absurd (show false=true from hs) Bool.false_ne_true
theorem op_lt:OpR X (compareOp .Lt) (rI0 λ i j=>.bl (decide (i < j))):=opB0 λ _ _ _ _ _ _ _ q=>lt_int q
theorem op_le:OpR X (compareOp .LtE) (rI0 λ i j=>.bl (decide (i<=j))):=opB0 λ _ _ _ _ _ _ _ q=>le_int q
theorem op_gt:OpR X (compareOp .Gt) (rI0 λ i j=>.bl (decide (j < i))):=opB0 λ _ _ _ _ _ _ _ q=>gt_int q
theorem op_ge:OpR X (compareOp .GtE) (rI0 λ i j=>.bl (decide (j<=i))):=opB0 λ _ _ _ _ _ _ _ q=>ge_int q
theorem op_in_str:OpR X (compareOp .In) (λ x y H Q=>∃ i j,x=.str i/\y=.str j/\Q (.bl (!(Builtin.Str.occurrences j i 0 j.length 1).isEmpty)) H):=by
 intro pins s σ H x y v u Q I rx ry h
 obtain ⟨i,j,rfl,rfl,q⟩:=h
 obtain ⟨t,rfl⟩:=rx
 obtain ⟨t',rfl⟩:=ry
 exact in_str (fin_bl I q rfl)
theorem op_isN:OpR X (compareOp .Is) (λ x y H Q=>y=.non/\Q (.bl (decide (x=.non))) H):=by
 intro pins s σ H x y v u Q I rx ry h
 obtain ⟨rfl,q⟩:=h
 cases ry
 refine is_none_gen (fin_bl I q ?_)
 cases x <;> first
  | (cases rx; rfl)
  | (obtain ⟨t,rfl⟩:=rx; rfl)
theorem OpR.or {f:Value->Value->Sem Value}{r r':R2}(h:OpR X f r)(h':OpR X f r'):OpR X f (λ x y H Q=>r x y H Q\/r' x y H Q):=by
 intro pins s σ H x y v u Q I rx ry q
 rcases q with q | q
 ·exact h pins s σ H x y v u Q I rx ry q
 ·exact h' pins s σ H x y v u Q I rx ry q
theorem pe_cmpR {op:CmpOp}{r:R2}(ho:OpR X (compareOp op) r)(ha:PE X a ta)(hb:PE X b tb)(hm:behindInMarks op b=false):PE X (.Compare a [op] [b] pos) (tOp r ta tb):=by
 intro pins s σ H Q I h
 exact wpAny_Compare1 (binT ha hb I h λ v u s2 x y H2 I2 rx ry q=>ho pins s2 σ H2 x y v u Q I2 rx ry q) hm
noncomputable def tTest (t:TE):TT:=λ σ H Q=>t σ H λ x H'=>∃ k,x=.bl k/\Q k H'
theorem pt_cmpR {op:CmpOp}{r:R2}(ho:OpR X (compareOp op) r)(ha:PE X a ta)(hb:PE X b tb)(hm:behindInMarks op b=false):PT X (.Compare a [op] [b] pos) (tTest (tOp r ta tb)):=by
 intro pins s σ H Q I h
 refine wpAny_isTrue_Compare1 (thn (ha pins s σ H _ I h) λ v s1 ⟨x,H1,I1,r1,q1⟩=>thn (hb pins s1 σ H1 _ I1 q1) λ u s2 ⟨y,H2,I2,r2,q2⟩ =>
  thn (ho pins s2 σ H2 x y v u _ I2 r1 r2 q2) λ c s3 ⟨z,H3,I3,r3,k,e,q3⟩=>?_) hm
 subst e
 cases r3
 exact wpAny_truthy_bool ⟨H3,I3,q3⟩
noncomputable def tChain (r r':R2)(ta tb tc:TE):TE:=λ σ H Q=>ta σ H λ x H1=>tb σ H1 λ y H2=>r x y H2 λ z H3=>∃ k,z=.bl k /\
 (if k=true then tc σ H3 λ w' H4=>r' y w' H4 Q else Q (.bl false) H3)
theorem pe_chain {op op':CmpOp}{r r':R2}(ho:OpR X (compareOp op) r)(ho':OpR X (compareOp op') r')(ha:PE X a ta)(hb:PE X b tb)(hc:PE X c tc)
  (hm:lastMarks [op,op'] [b,c]=false:=by with_unfolding_all rfl):PE X (.Compare a [op,op'] [b,c] pos) (tChain r r' ta tb tc):=by
 intro pins s σ H Q I h
 refine Compare_chain (thn (ha pins s σ H _ I h) λ v s1 ⟨x,H1,I1,r1,q1⟩=>chain_link (thn (hb pins s1 σ H1 _ I1 q1) λ u s2 ⟨y,H2,I2,r2,q2⟩ =>
  thn (ho pins s2 σ H2 x y v u _ I2 r1 r2 q2) λ d s3 ⟨z,H3,I3,r3,k,e,q3⟩=>?_)) hm
 subst e
 cases r3
 refine wpAny_truthy_bool ?_
 cases k with
 | false=>exact ite_ff ⟨.bl false,H3,I3,rfl,q3⟩
 | true=>exact ite_tt (chain_last (thn (hc pins s3 σ H3 _ I3 q3) λ w' s4 ⟨z',H4,I4,r4,q4⟩=>ho' pins s4 σ H4 y z' u w' Q I4 r2 r4 q4))
theorem pt_chain {op op':CmpOp}{r r':R2}(ho:OpR X (compareOp op) r)(ho':OpR X (compareOp op') r')(ha:PE X a ta)(hb:PE X b tb)(hc:PE X c tc)
  (hm:lastMarks [op,op'] [b,c]=false:=by with_unfolding_all rfl):PT X (.Compare a [op,op'] [b,c] pos) (tTest (tChain r r' ta tb tc)):=by
 intro pins s σ H Q I h
 refine isTrue_chain (thn (ha pins s σ H _ I h) λ v s1 ⟨x,H1,I1,r1,q1⟩=>test_link (thn (hb pins s1 σ H1 _ I1 q1) λ u s2 ⟨y,H2,I2,r2,q2⟩ =>
  thn (ho pins s2 σ H2 x y v u _ I2 r1 r2 q2) λ d s3 ⟨z,H3,I3,r3,k,e,q3⟩=>?_)) hm
 subst e
 cases r3
 refine wpAny_truthy_bool ?_
 cases k with
 | false =>
  obtain ⟨k',e',q'⟩:=q3
  cases e'
  exact ite_ff ⟨H3,I3,q'⟩
 | true =>
  refine ite_tt (test_last (thn (hc pins s3 σ H3 _ I3 q3) λ w' s4 ⟨z',H4,I4,r4,q4⟩=>thn (ho' pins s4 σ H4 y z' u w' _ I4 r2 r4 q4) λ d' s5 hq21=>?_))
  obtain ⟨z2,H5,I5,r5,k2,e2,q5⟩:=hq21
  subst e2
  cases r5
  exact wpAny_truthy_bool ⟨H5,I5,q5⟩
noncomputable def TruV (K:PySem.W.Frag)(x:V)(H:Hp)(k:Bool):Prop :=
 match x with
 | .non=>k=false
 | .bl b=>k=b
 | .int i=>k=(i != 0)
 | .str y=>y.length<=sizeLine/\k=((y.length:Int) != 0)
 | .byt y=>y.size<=sizeLine/\k=((y.size:Int) != 0)
 | .ref p=>(∃ xs,SqL K H p xs/\k=!xs.isEmpty)\/(∃ xs,SqT K H p xs/\k=!xs.isEmpty)\/∃ kvs,H p=some (.dK kvs)/\k=!kvs.isEmpty
 | _=>False
theorem isEmpty_kv {κ:Type}{kvs:List (κ×V)}{vs:List (κ×Value)}(r:KV kvs vs):(!vs.isEmpty)=!kvs.isEmpty:=by
 cases r <;> rfl
theorem isEmpty_of {xs:List V}{its:List Value}(r:Vals xs its):(!its.toArray.isEmpty)=!xs.isEmpty:=by
 cases r <;> simp
theorem line63:(sizeLine:Nat) < 2 ^ 63:=by rw [sizeLine_eq]; decide
theorem tru_ok:TruR X (λ x H Q=>∃ k,TruV X.K x H k/\Q k H):=by
 intro pins s σ H x v Q I rx h
 obtain ⟨k,e,q⟩:=h
 have hl:=line63
 have hs:sizeLine=16777216:=sizeLine_eq
 cases x with
 | non =>
  cases rx
  have e':k=false:=e
  subst e'
  exact truthy_none ⟨H,I,q⟩
 | bl b =>
  cases rx
  have e':k=b:=e
  subst e'
  exact wpAny_truthy_bool ⟨H,I,q⟩
 | int i =>
  obtain ⟨t,rfl⟩:=rx
  have e':k=(i != 0):=e
  subst e'
  exact PySem.P.truthy_int ⟨H,I,q⟩
 | str y =>
  obtain ⟨t,rfl⟩:=rx
  obtain ⟨hy,e'⟩:y.length<=sizeLine/\k=((y.length:Int) != 0):=e
  subst e'
  exact PySem.P.truthy_str (by omega) ⟨H,I.tok _,q⟩
 | byt y =>
  obtain ⟨t,rfl⟩:=rx
  obtain ⟨hy,e'⟩:y.size<=sizeLine/\k=((y.size:Int) != 0):=e
  subst e'
  exact PySem.W.truthy_bytes (by omega) ⟨H,I.tok _,q⟩
 | ref p =>
  cases rx
  have e':(∃ xs,SqL X.K H p xs/\k=!xs.isEmpty)\/(∃ xs,SqT X.K H p xs/\k=!xs.isEmpty)\/∃ kvs,H p=some (.dK kvs)/\k=!kvs.isEmpty:=e
  rcases e' with ⟨xs,hx,e'⟩ | ⟨xs,hx,e'⟩ | ⟨kvs,hx,e'⟩
  ·subst e'
   obtain ⟨its,r,pl,hz⟩:=I.list hx
   have hlen:=r.length
   exact wpAny_truthy_list pl.isList (by simp only [List.size_toArray]; omega) ⟨H,I.tok _,by rw [isEmpty_of r]; exact q⟩
  ·subst e'
   obtain ⟨its,r,pl,hz⟩:=I.tuple hx
   have hlen:=r.length
   exact truthy_tuple pl (by simp only [List.size_toArray]; omega) ⟨H,I.tok _,by rw [isEmpty_of r]; exact q⟩
  ·subst e'
   obtain ⟨hz,hS,vs,r,m⟩:kvs.length<=sizeLine/\(p == sysModules)=false/\∃ vs,KV kvs vs/\s.heap.DictOf (mixKind X.prog X.w) p vs:=I.hok p _ hx
   have hlen:kvs.length=vs.length:=Paired.length r
   exact wpAny_truthy_dict hS m (by omega) ⟨H,I.tok _,by rw [isEmpty_kv r]; exact q⟩
 | _=>exact (show False from e).elim
theorem pt_truth (ha:PE X a ta)(he:∀ whole,isTrue a X.env whole=(do let v <- whole; standAt a.pos; holding [v] (truthy v))) :
  PT X a (λ σ H Q=>ta σ H λ x H'=>∃ k,TruV X.K x H' k/\Q k H'):=by
 intro pins s σ H Q I h
 exact isTrue_plain (thn (ha pins s σ H _ I h) λ v s1 ⟨x,H1,I1,r1,q1⟩=>tru_ok pins s1 σ H1 x v Q I1 r1 q1) (he _)
theorem op_add_str:OpR X (binaryOp .Add) (λ x y H Q=>∃ i j,x=.str i/\y=.str j/\i.length+j.length<=sizeLine/\Q (.str (i++j)) H):=by
 intro pins s σ H x y v u Q I rx ry h
 obtain ⟨i,j,rfl,rfl,hz,q⟩:=h
 obtain ⟨t,rfl⟩:=rx
 obtain ⟨t',rfl⟩:=ry
 exact add_str (λ t' tk=>⟨.str (i++j),H,I.tok _,⟨_,rfl⟩,q⟩) hz
theorem vals1 {x:V}{us:List Value}(r:Vals [x] us):∃ u,us=[u]/\RelV x u:=by
 cases r with
 | cons r1 r2=>cases r2; exact ⟨_,rfl,r1⟩
theorem vals2 {x y:V}{us:List Value}(r:Vals [x,y] us):∃ u w',us=[u,w']/\RelV x u/\RelV y w':=by
 cases r with
 | cons r1 r2 =>
  cases r2 with
  | cons r3 r4=>cases r4; exact ⟨_,_,rfl,r1,r3⟩
theorem call_abs:CallR X (.builtin "abs") (λ xs H Q=>∃ i,xs=[.int i]/\Q (.int (if i < 0 then -i else i)) H):=by
 intro pins s σ H xs us Q I r h
 obtain ⟨i,rfl,q⟩:=h
 obtain ⟨u,rfl,t,rfl⟩:=vals1 r
 exact call_abs_int λ u tk=>⟨.int (if i < 0 then -i else i),H,I.tok _,⟨_,rfl⟩,q⟩
theorem call_max2 (hc:X.calm=true):CallR X (.builtin "max") (λ xs H Q=>∃ i j,xs=[.int i,.int j]/\Q (.int (if j > i then j else i)) H):=by
 intro pins s σ H xs us Q I r h
 obtain ⟨i,j,rfl,q⟩:=h
 obtain ⟨u,w',rfl,⟨t,rfl⟩,⟨t',rfl⟩⟩:=vals2 r
 refine max_two_ints (I.ok.hd hc) λ h' tk k=>⟨_,H,I.kept k,?_,q⟩
 by_cases hj:j > i
 ·rw [if_pos hj,if_pos hj]; exact ⟨_,rfl⟩
 ·rw [if_neg hj,if_neg hj]; exact ⟨_,rfl⟩
theorem call_min2 (hc:X.calm=true):CallR X (.builtin "min") (λ xs H Q=>∃ i j,xs=[.int i,.int j]/\Q (.int (if j < i then j else i)) H):=by
 intro pins s σ H xs us Q I r h
 obtain ⟨i,j,rfl,q⟩:=h
 obtain ⟨u,w',rfl,⟨t,rfl⟩,⟨t',rfl⟩⟩:=vals2 r
 refine min_two_ints (I.ok.hd hc) λ h' tk k=>⟨_,H,I.kept k,?_,q⟩
 by_cases hj:j < i
 ·rw [if_pos hj,if_pos hj]; exact ⟨_,rfl⟩
 ·rw [if_neg hj,if_neg hj]; exact ⟨_,rfl⟩
noncomputable def LenV (K:PySem.W.Frag)(x:V)(H:Hp)(n:Nat):Prop :=
 match x with
 | .str y=>y.length<=sizeLine/\n=y.length
 | .byt y=>y.size<=sizeLine/\n=y.size
 | .ref p=>(∃ xs,SqL K H p xs/\n=xs.length)\/∃ xs,SqT K H p xs/\n=xs.length
 | _=>False
theorem call_len:CallR X (.builtin "len") (λ xs H Q=>∃ x n,xs=[x]/\LenV X.K x H n/\Q (.int n) H):=by
 intro pins s σ H xs us Q I r h
 obtain ⟨x,n,rfl,e,q⟩:=h
 obtain ⟨u,rfl,rx⟩:=vals1 r
 have hl:=line63
 have hs:sizeLine=16777216:=sizeLine_eq
 cases x with
 | str y =>
  obtain ⟨t,rfl⟩:=rx
  obtain ⟨hy,e'⟩:y.length<=sizeLine/\n=y.length:=e
  subst e'
  exact len_str (by omega) ⟨.int _,H,I.tok _,⟨_,rfl⟩,q⟩
 | byt y =>
  obtain ⟨t,rfl⟩:=rx
  obtain ⟨hy,e'⟩:y.size<=sizeLine/\n=y.size:=e
  subst e'
  exact PySem.W.len_bytes (by omega) ⟨.int _,H,I.tok _,⟨_,rfl⟩,q⟩
 | ref p =>
  cases rx
  have e':(∃ xs,SqL X.K H p xs/\n=xs.length)\/∃ xs,SqT X.K H p xs/\n=xs.length:=e
  rcases e' with ⟨xs,hx,e'⟩ | ⟨xs,hx,e'⟩
  ·subst e'
   obtain ⟨its,r',pl,hz⟩:=I.list hx
   have hlen:=r'.length
   exact Calls.call_len_list pl.isList (by simp only [List.size_toArray]; omega) ⟨.int xs.length,H,I.tok _,⟨_,by simp only [List.size_toArray]; rw [hlen]⟩,q⟩
  ·subst e'
   obtain ⟨its,r',pl,hz⟩:=I.tuple hx
   have hlen:=r'.length
   exact len_tuple pl (by simp only [List.size_toArray]; omega) ⟨.int xs.length,H,I.tok _,⟨_,by simp only [List.size_toArray]; rw [hlen]⟩,q⟩
 | _=>exact (show False from e).elim
end
end L2
namespace L2
open PySem PySem.Spec PyProof.Rows
structure ObjM (h:Heap)(x dx C:Addr)(mA:Str->Option Value):Prop where
 obj:h.get? x=some (PySem.W.instObj C dx)
 ns:h.Ns1 dx mA
 ne:dx≠x
theorem lookIn_ns {h:Heap}{dx:Addr}{mA:Str->Option Value}(n:h.Ns1 dx mA):∃ od,h.get? dx=some od/\∀ name,PySem.W.lookIn name od=some (mA name):=by
 obtain ⟨o,es,ep,ho,hd,hk,_,hm⟩:=n
 refine ⟨o,ho,λ name=>?_⟩
 have e:=hm name
 unfold nsFind findBy at e
 rw [<- Array.find?_toList] at e
 unfold PySem.W.lookIn
 rw [hd]
 dsimp only
 split
 ·rename_i y q
  rw [q] at e
  exact congrArg some e
 ·rename_i q
  rw [q] at e
  have a:es.toList.any (·.refKey)=false:=by
   rw [List.any_eq_false]
   intro y hy
   obtain ⟨z,t,hkey⟩:=hk y (Array.mem_toList_iff.mp hy)
   simp [DictEntry.refKey,hkey]
  have a':¬ es.toList.any (·.refKey)=true:=by rw [a]; exact Bool.false_ne_true
  rw [if_neg a']
  exact congrArg some e
theorem ObjM.look {h:Heap}{x dx C:Addr}{mA:Str->Option Value}(I:ObjM h x dx C mA):∃ od,PySem.W.InstAt h x (PySem.W.instObj C dx) C (some od)/\∀ name,PySem.W.lookIn name od=some (mA name) :=
 let ⟨od,ho,hl⟩:=lookIn_ns I.ns
 ⟨od,⟨I.obj,rfl,rfl,ho⟩,hl⟩
section
variable {prog:Program}{w:World}{A:Around}{E:Value->Shared->Prop}{s:Shared}{K:PySem.W.Frag}{x dx C f:Addr}{mA:Str->Option Value}{name:Str}{v:Value}
end
theorem RelO.some_of {v:V}{o:Option Value}(r:RelO (some v) o):∃ u,o=some u/\RelV v u:=by
 cases o with
 | none=>exact (show False from r).elim
 | some u=>exact ⟨u,rfl,r⟩
theorem RelO.none_of {o:Option Value}(r:RelO none o):o=none:=by
 cases o with
 | none=>rfl
 | some u=>exact (show False from r).elim
section
variable {P:Program}{w:World}{H H':Hp}{h h':Heap}{a C dx:Addr}{fs fs':List (Str×V)}
end
structure Cls (K:PySem.W.Frag)(C:Addr):Prop where
 pg:PySem.W.plainGet K C Str.empty=true
 hd:PySem.W.hasDictIn K C=true
 po:PySem.W.plainOver K C=true
 sa:PySem.W.findIn K (.ref C) "__setattr__" = some (some (.builtin "object.__setattr__"))
theorem Cls.get {K:PySem.W.Frag}{C:Addr}(c:Cls K C)(f:Str):PySem.W.plainGet K C f=true:=c.pg
section
variable {X:Cx}{pins:List (Addr×Obj)}{σ:St}{H:Hp}{s:Shared}{a C dx:Addr}{fs:List (Str×V)}{f:Str}{v:V}{A:Around}{E:Value->Shared->Prop}
end
section
variable {X:Cx}{o e value:Expr}{f:Str}{pos pos' tpos:Pos}{ta tv:TE}
end
section
variable {X:Cx}{pins:List (Addr×Obj)}{σ:St}{H:Hp}{s:Shared}{A:Around}{E:Value->Shared->Prop}{Q:Value->Shared->Prop}{c:Value}{b:Bool}
end
end L2
namespace L2
open PySem PySem.Spec PyProof.Rows
structure Room (k:Nat)(A:Around):Prop where
 hd:A.handled=none
 gd:A.guards=some []
 dp:A.depth+3 * k+5 < recursionLimit
 un:A.units+16 * k+200 < cLine
theorem Room.mono {j k:Nat}{A:Around}(r:Room k A)(h:j<=k):Room j A:=⟨r.hd,r.gd,by have:=r.dp; omega,by have:=r.un; omega⟩
theorem Room.deeper {k:Nat}{A:Around}(r:Room (k+1) A)(env:Env):Room k (A.deeper env) :=
 ⟨r.hd,r.gd,by have:=r.dp; show A.depth+1+3 * k+5 < _; omega,by have:=r.un; show A.units+3+16 * k+200 < _; omega⟩
theorem Room.in1 {k:Nat}{A:Around}(r:Room (k+1) A):Room k A.in1 :=
 ⟨r.hd,r.gd,by have:=r.dp; show A.depth+3 * k+5 < _; omega,by have:=r.un; show A.units+1+16 * k+200 < _; omega⟩
theorem Room.depth {k:Nat}{A:Around}(r:Room k A):A.depth < recursionLimit:=by have:=r.dp; omega
theorem Room.units {k:Nat}{A:Around}(r:Room k A):A.units+64 < cLine:=by have:=r.un; omega
noncomputable def tNil:TA:=λ _ H Q=>Q [] H
noncomputable def tCons (ta:TE)(tr:TA):TA:=λ σ H Q=>ta σ H λ x H1=>tr σ H1 λ xs H2=>Q (x :: xs) H2
section
variable {X:Cx}{e:Expr}{es:List Expr}{te:TE}{t:TA}{pos:Pos}
theorem pa_nil:PA X [] tNil:=λ _ _ _ _ H Q I h=>Calls.spliced_nil ⟨[],H,I,.nil,h⟩
theorem pa_cons (ha:PE X e te)(hr:PA X es t)(hs:starEach (e :: es) X.env=(false,eval e X.env) :: starEach es X.env:=by rfl):PA X (e :: es) (tCons te t):=by
 intro pos pins s σ H Q I h
 rw [hs]
 show wpAny _ _ (spliced ((false,eval e X.env) :: backTo pos (starEach es X.env))) _ _ s
 refine Calls.spliced_cons (thn (ha pins s σ H _ I h) λ u s1 hq22=>?_)
 obtain ⟨x,H1,I1,r1,q1⟩:=hq22
 exact thn (hr pos pins s1 σ H1 _ I1 q1) λ us s2 ⟨xs,H2,I2,r2,q2⟩=>⟨x :: xs,H2,I2,.cons r1 r2,q2⟩
noncomputable def tTup (t:TA):TE:=λ σ H Q=>t σ H λ xs H1=>xs.length<=sizeLine/\∀ p,H1 p=none->Q (.ref p) (upd H1 p (.tup xs))
noncomputable def tLst (t:TA):TE:=λ σ H Q=>t σ H λ xs H1=>xs.length<=sizeLine/\∀ p,H1 p=none->Q (.ref p) (upd H1 p (.lst xs))
theorem pe_tup {x1}(h:PA X es t):PE X (.Tuple es x1 pos) (tTup t):=by
 intro pins s σ H Q I hq
 refine wpAny_Tuple_spliced (thn (h pos pins s σ H _ I hq) λ us s1 ⟨xs,H1,I1,r,z,q⟩=>⟨by rw [<- r.length]; exact z,?_⟩)
 have hf:H1 s1.heap.objs.size=none:=I1.hok.fresh (Nat.le_refl _)
 refine ⟨.ref s1.heap.objs.size,upd H1 s1.heap.objs.size (.tup xs),I1.laid (t':=s1.toks) (λ b u e=>Heap.get?_push_of_some _ e) (Nat.le_refl _) ?_,rfl,q _ hf⟩
 exact ⟨z,us,r,TupN.new _ _⟩
theorem pe_lst (h:PA X es t):PE X (.List es pos) (tLst t):=by
 intro pins s σ H Q I hq
 refine wpAny_List_spliced (thn (h pos pins s σ H _ I hq) λ us s1 ⟨xs,H1,I1,r,z,q⟩=>⟨by rw [<- r.length]; exact z,?_⟩)
 have hf:H1 s1.heap.objs.size=none:=I1.hok.fresh (Nat.le_refl _)
 refine ⟨.ref s1.heap.objs.size,upd H1 s1.heap.objs.size (.lst xs),I1.laid (t':=s1.toks) (λ b u e=>Heap.get?_push_of_some _ e) (Nat.le_refl _) ?_,rfl,q _ hf⟩
 exact ⟨z,us,0,r,Heap.get?_push_size _ rfl⟩
end
noncomputable abbrev Sp:=List V->Hp->VK->XK->Prop
noncomputable abbrev CXT:=List Env->Hp->Shared->XK->Value->Shared->Prop
structure Env0 (P:Program)(w:World)(K:PySem.W.Frag)(mg:Str->Option Value)(base:Heap)(A:Around)(outer:List Env)(s:Shared)(H:Hp):Prop where
 frames:A.frames=some outer
 mod:Mod K mg base
 bs:∀ b o,base.get? b=some o->s.heap.get? b=some o/\H b=none
 bsz:base.objs.size<=s.heap.objs.size
 funs:s.heap.FunFrames base outer
 frf:∀ b∈frs outer,H b=none
 hok:HOk P w H s.heap
 bare:AllBare s.gens
noncomputable def CE (outer:List Env)(P:Program)(w:World)(H:Hp)(s:Shared)(Q:VK)(u:Value)(s':Shared):Prop :=
 ∃ v H',s'.os=s.os/\AllBare s'.gens/\Un (frs outer) [] H H' s.heap s'.heap/\HOk P w H' s'.heap/\RelV v u/\Q v H'
noncomputable def CR (CX:CXT)(outer:List Env)(P:Program)(w:World)(H:Hp)(s:Shared)(Q:VK)(E:XK)(r:Result)(s':Shared):Prop :=
 match r with
 | .ok (.ret u)=>CE outer P w H s Q u s'
 | .ok _=>False
 | .error e=>CX outer H s E e s'
structure FnOk (P:Program)(w:World)(K:PySem.W.Frag)(mg:Str->Option Value)(base:Heap)(CX:CXT)(k:Nat)(f:Addr)(fd:FuncData)(ps:List Str)(sp:Sp):Prop where
 len:∀ vs H Q E,sp vs H Q E->vs.length=ps.length
 run:∀ (A:Around) (outer:List Env) (s:Shared) (H:Hp) (args:Args) (us:List Value) (vs:List V) (Q:VK) (E:XK),Room k A->Env0 P w K mg base A outer s H->BindsTo s fd args (ps.zip us)->Vals vs us->sp vs H Q E ->
  codeAny (model P w) A (.call (.ref f) args) (CR CX outer P w H s Q E) s
theorem FnOk.mono {P:Program}{w:World}{K:PySem.W.Frag}{mg:Str->Option Value}{base:Heap}{CX:CXT}{j k:Nat}{f:Addr}{fd:FuncData}{ps:List Str}{sp:Sp}(F:FnOk P w K mg base CX j f fd ps sp)(h:j<=k) :
  FnOk P w K mg base CX k f fd ps sp:=⟨F.len,λ A outer s H args us vs Q E hr=>F.run A outer s H args us vs Q E (hr.mono h)⟩
theorem Env0.in1 {P:Program}{w:World}{K:PySem.W.Frag}{mg:Str->Option Value}{base:Heap}{A:Around}{outer:List Env}{s:Shared}{H:Hp}(e:Env0 P w K mg base A outer s H) :
  Env0 P w K mg base A.in1 outer s H:=⟨e.frames,e.mod,e.bs,e.bsz,e.funs,e.frf,e.hok,e.bare⟩
section
variable {X:Cx}{pins:List (Addr×Obj)}{σ:St}{H:Hp}{s s':Shared}
theorem Inv.env0 (I:Inv X pins σ H s):Env0 X.prog X.w X.K X.mg X.base X.A X.stack s H :=
 ⟨I.ok.frames,I.ok.mod,I.bs,Nat.le_trans I.ok.bsz I.sz,I.stack,I.stkFree,I.hok,I.bare⟩
theorem Inv.after {Q:VK}{u:Value}(I:Inv X pins σ H s)(h:CE X.stack X.prog X.w H s Q u s'):EP X pins σ Q u s':=by
 obtain ⟨v,H',os,bare,un,hok,r,q⟩:=h
 obtain ⟨hh,g,d,t,os'⟩:=s'
 obtain rfl:os'=s.os:=os
 exact ⟨v,H',I.call (h':=hh) (g':=g) (d':=d) (t':=t) (ch:=[]) un hok bare (λ b z=>absurd z (by simp)),r,q⟩
end
noncomputable def tCall (sp:Sp)(dvs:List V)(E:XK)(t:TA):TE:=λ σ H Q=>t σ H λ vs H1=>sp (vs++dvs) H1 Q E
noncomputable def Binds (K:PySem.W.Frag)(fd:FuncData)(ps:List Str)(ds:List Value):Prop :=
 ∀ (s:Shared) (us:List Value),K.In s.heap->(us++ds).length=ps.length->BindsTo s fd ⟨us,[]⟩ (ps.zip (us++ds))
theorem Binds.all {K:PySem.W.Frag}{fd:FuncData}{ps:List Str}(h:∀ us:List Value,us.length=ps.length->bindArgs fd ⟨us,[]⟩=pure (ps.zip us)):Binds K fd ps []:=λ s us _ hl=>by
 rw [List.append_nil] at hl ⊢
 exact .of_eq (h us hl)
noncomputable def Passes (CX:CXT)(X:Cx)(E:XK):Prop:=∀ (pins:List (Addr×Obj)) (σ:St) (H:Hp) (s:Shared) (e:Value) (s':Shared),Inv X pins σ H s->CX X.stack H s E e s'->X.xe e s'
section
variable {X:Cx}{CX:CXT}{k:Nat}{f C:Addr}{fd:FuncData}{ps:List Str}{sp:Sp}{dvs:List V}{ds:List Value}{E:XK}{x m:Str}{p pos apos:Pos}{e o:Expr}{es:List Expr}{ta:TE}{t:TA}
theorem run_fn {pins:List (Addr×Obj)}{σ:St}{H:Hp}{s:Shared}{Q:VK}{us:List Value}{vs:List V}(F:FnOk X.prog X.w X.K X.mg X.base CX k f fd ps sp)(hr:Room k X.A)(hb:Binds X.K fd ps ds)(hd:Vals dvs ds)(hx:Passes CX X E)
  (I:Inv X pins σ H s)(r:Vals vs us)(h:sp (vs++dvs) H Q E):wpAny (model X.prog X.w) X.A (call (.ref f) us) (EP X pins σ Q) X.xe s:=by
 have r2:Vals (vs++dvs) (us++ds):=r.append hd
 have hl:(us++ds).length=ps.length:=by rw [<- r2.length]; exact F.len _ _ _ _ h
 refine wpAny_call (codeAny_mono (F.run X.A X.stack s H ⟨us,[]⟩ (us++ds) (vs++dvs) Q E hr I.env0 (hb s us I.kIn hl) r2 h) λ r s' hq=>?_)
 cases r with
 | error e=>exact hx pins σ H s e s' I hq
 | ok fl =>
  cases fl with
  | ret u=>exact I.after hq
  | next=>exact False.elim hq
  | brk=>exact False.elim hq
  | cont=>exact False.elim hq
theorem pe_call (F:FnOk X.prog X.w X.K X.mg X.base CX k f fd ps sp)(hr:Room k X.A)(hg:Gl X x)(hm:X.mg x=some (.ref f))(hk:PySem.W.keepIn X.K (.ref f)=true)(hb:Binds X.K fd ps ds)(hd:Vals dvs ds)(hx:Passes CX X E)
  (ha:PA X (e :: es) t)(hdb:(x == ("__debug__" : Str))=false:=by decide)(he:starEach (e :: es) X.env=(false,eval e X.env) :: starEach es X.env:=by rfl)(hpl:(backTo pos (starEach es X.env)).any (·.1)=false:=by rfl) :
  PE X (.Call (.Name x p) (e :: es) [] pos) (tCall sp dvs E t):=by
 intro pins s σ H Q I h
 refine wpAny_Call_Name_kw (ld_glob I hg hm ?_ hdb)
 refine PySem.W.callWith_K (h₀:=X.base) I.ok.mod.kin hk (thn (ha pos pins s σ H _ I h) λ us s1 ⟨vs,H1,I1,r,q⟩=>⟨I1.kIn,?_⟩) he hpl
 exact run_fn F hr hb hd hx I1 r q
theorem pe_call0 (F:FnOk X.prog X.w X.K X.mg X.base CX k f fd ps sp)(hr:Room k X.A)(hg:Gl X x)(hm:X.mg x=some (.ref f))(hk:PySem.W.keepIn X.K (.ref f)=true)(hb:Binds X.K fd ps ds)(hd:Vals dvs ds)(hx:Passes CX X E)
  (hdb:(x == ("__debug__" : Str))=false:=by decide):PE X (.Call (.Name x p) [] [] pos) (tCall sp dvs E tNil):=by
 intro pins s σ H Q I h
 refine wpAny_Call_Name_kw (ld_glob I hg hm ?_ hdb)
 exact PySem.W.callWith_K0 I.kIn hk (run_fn (us:=[]) F hr hb hd hx I .nil h)
end
section
variable {X:Cx}{CX:CXT}{k:Nat}{f C:Addr}{fd:FuncData}{ps ks:List Str}{sp:Sp}{E:XK}{x m:Str}{p pos apos kpos:Pos}{e o:Expr}{es:List Expr}{kws:List Keyword}{te ta:TE}{t tk:TA}{nm:Option Str}
variable {g:List Value->List Value->List Value}{gV:List V->List V->List V}
end
structure FnScope (N P:List Str)(sc:Scope):Prop where
 kind:sc.kind=.function
 co:sc.isCoroutine=false
 gen:sc.isGenerator=false
 nd:N.Nodup
 pre:N.take P.length=P
 par:∀ x∈P,sc.names.lookup x=some .local\/sc.names.lookup x=some .cell
 nofree:∀ y∈sc.names,y.2 ≠ .free
theorem bindL_out {kindOf:Str->Option NameKind}{x:Str}:∀ {binds:List (Str×Value)} {m:Str->Option Value},(∀ v,(x,v) ∉ binds)->bindL kindOf binds m x=m x
 | [],_,_=>rfl
 | (n,v) :: r,m,h=>by
  unfold bindL
  rw [bindL_out λ w hw=>h w (List.mem_cons_of_mem _ hw)]
  split
  ·have:x≠n:=by rintro rfl; exact h v List.mem_cons_self
   simp [this]
  ·rfl
theorem bindC_out {kindOf:Str->Option NameKind}{x:Str}:∀ {binds:List (Str×Value)} {m:Str->Option Value},(∀ v,(x,v) ∉ binds)->bindC kindOf binds m x=m x
 | [],_,_=>rfl
 | (n,v) :: r,m,h=>by
  unfold bindC
  rw [bindC_out λ w hw=>h w (List.mem_cons_of_mem _ hw)]
  split
  ·rfl
  ·have:x≠n:=by rintro rfl; exact h v List.mem_cons_self
   simp [this]
theorem bindL_get {kindOf:Str->Option NameKind}{x:Str}{v:Value}:∀ {P:List Str} {vs:List Value} {i:Nat} {m:Str->Option Value},P.Nodup->P[i]? = some x->vs[i]? = some v->kindOf x=some .local ->
  bindL kindOf (P.zip vs) m x=some v
 | [],_,_,_,_,h,_,_=>by simp at h
 | _ :: _,[],_,_,_,_,h,_=>by simp at h
 | p :: P,w :: vs,0,m,nd,h1,h2,hk=>by
  simp at h1 h2; subst h1; subst h2
  show bindL kindOf ((p,w) :: P.zip vs) m p=_
  unfold bindL
  rw [bindL_out λ v hv=>(List.nodup_cons.mp nd).1 (List.of_mem_zip hv).1,if_pos hk]
  simp
 | p :: P,w :: vs,i+1,m,nd,h1,h2,hk=>by
  show bindL kindOf ((p,w) :: P.zip vs) m x=_
  unfold bindL
  exact bindL_get (i:=i) (List.nodup_cons.mp nd).2 (by simpa using h1) (by simpa using h2) hk
theorem bindC_get {kindOf:Str->Option NameKind}{x:Str}{v:Value}:∀ {P:List Str} {vs:List Value} {i:Nat} {m:Str->Option Value},P.Nodup->P[i]? = some x->vs[i]? = some v->kindOf x≠some .local ->
  bindC kindOf (P.zip vs) m x=some v
 | [],_,_,_,_,h,_,_=>by simp at h
 | _ :: _,[],_,_,_,_,h,_=>by simp at h
 | p :: P,w :: vs,0,m,nd,h1,h2,hk=>by
  simp at h1 h2; subst h1; subst h2
  show bindC kindOf ((p,w) :: P.zip vs) m p=_
  unfold bindC
  rw [bindC_out λ v hv=>(List.nodup_cons.mp nd).1 (List.of_mem_zip hv).1,if_neg hk]
  simp
 | p :: P,w :: vs,i+1,m,nd,h1,h2,hk=>by
  show bindC kindOf ((p,w) :: P.zip vs) m x=_
  unfold bindC
  exact bindC_get (i:=i) (List.nodup_cons.mp nd).2 (by simpa using h1) (by simpa using h2) hk
noncomputable def start (N:List Str)(vs:List V):St:=vs.map some++List.replicate (N.length - vs.length) none
noncomputable def cxOf (CX:CXT)(P:Program)(w:World)(K:PySem.W.Frag)(mg:Str->Option Value)(base:Heap)(N:List Str)(qual:Str)(scope:Scope)(f:Addr)(cd:Value)(A:Around)(outer:List Env)(s:Shared)(H:Hp)(E:XK):Cx where
 prog:=P
 w:=w
 K:=K
 mg:=mg
 base:=base
 A:=A.deeper (envOfC qual scope s.heap.objs.size f cd)
 N:=N
 s₀:=s
 H₀:=H
 env:=envOfC qual scope s.heap.objs.size f cd
 outer:=outer
 stack:=envOfC qual scope s.heap.objs.size f cd :: outer
 ex:=[]
 calm:=true
 fn:=λ _=>true
 pn:=[]
 xe:=λ e s'=>wpAny (model P w) (A.deeper (envOfC qual scope s.heap.objs.size f cd)) (leaving (envOfC qual scope s.heap.objs.size f cd) e) (λ _ s''=>CX outer H s E e s'') (λ e' s''=>CX outer H s E e' s'') s'
theorem cell_has {sc:Scope}{n:Nat}{x:Str}(h:sc.names.lookup x=some .cell):∃ c,(cellsFrom n sc.names []).lookup x=some c:=by
 have q:=PySem.W.cellsFrom_some sc.names n [] (.inl h)
 exact Option.isSome_iff_exists.mp q
theorem inv_start {CX:CXT}{P:Program}{w:World}{K:PySem.W.Frag}{mg:Str->Option Value}{base:Heap}{N ps:List Str}{qual:Str}{scope:Scope}{f:Addr}{cd:Value}{A:Around}{outer:List Env}{s s1:Shared}{H:Hp}{E:XK}{us:List Value}{vs:List V}
  (S:FnScope N ps scope)(hd:A.handled=none)(e0:Env0 P w K mg base A outer s H)(hl:vs.length=ps.length)(r:Vals vs us)
  (x:InCallC s s.heap.objs.size (bindL (envOfC qual scope s.heap.objs.size f cd).kindOf (ps.zip us) λ _=>none) (cellsFrom (s.heap.objs.size+1) scope.names []) (bindC (envOfC qual scope s.heap.objs.size f cd).kindOf (ps.zip us) λ _=>none) s1) :
  Inv (cxOf CX P w K mg base N qual scope f cd A outer s H E) [] (start N vs) H s1:=by
 have hpl:ps.length<=N.length:=by have:=congrArg List.length S.pre; rw [List.length_take] at this; omega
 obtain ⟨h1,tk,rfl,hk⟩:=x.done
 have noA:∀ b:Addr,b ∉ (cxOf CX P w K mg base N qual scope f cd A outer s H E).ex:=λ b z=>absurd (show b∈([]:List Addr) from z) (by simp)
 refine ⟨⟨e0.mod,S.kind,rfl,rfl,Nat.le_refl _,λ y z c h1 h2=>?_,λ y hy=>?_,λ y c _ h=>?_,λ _=>hd,Around.frames_deeper e0.frames,.inr ⟨rfl,rfl⟩,λ b z=>absurd z (noA b),e0.bs,e0.bsz,λ b _ _=>noA b,λ b z=>absurd z (noA b),e0.funs,e0.frf⟩,
  rfl,e0.bare,Un.kept hk,⟨_,x.toInCall.ns,λ i y v h1 h2 h3=>?_⟩,λ y c h=>⟨_,x.cell y c h⟩,e0.hok.fresh (Nat.le_refl _),λ y c h=>?_,λ p hp=>absurd (show p∈([]:List (Addr×Obj)) from hp) (by simp),e0.hok.kept hk,?_⟩
 ·exact name_of_addr x.apart (PySem.mem_of_lookup h1) (PySem.mem_of_lookup h2)
 ·have hy:scope.names.lookup y=some .cell\/scope.names.lookup y=some .free:=hy
  rcases hy with hy | hy
  ·exact cell_has hy
  ·exact absurd rfl (S.nofree _ (PySem.mem_of_lookup hy))
 ·exact Nat.le_of_lt (x.above y c (PySem.mem_of_lookup h))
 ·have hi:i < vs.length:=by
   unfold start at h2
   by_cases hi:i < vs.length
   ·exact hi
   ·rw [List.getElem?_append_right (by simpa using hi)] at h2
    rw [List.getElem?_replicate] at h2
    split at h2 <;> cases h2
  have ha:vs[i]? = some v:=by
   unfold start at h2
   rw [List.getElem?_append_left (by simpa using hi),List.getElem?_map] at h2
   cases e:vs[i]? with
   | none=>rw [e] at h2; cases h2
   | some a=>rw [e] at h2; cases h2; rfl
  obtain ⟨u,hu,rv⟩:=r.get ha
  have hp:ps[i]? = some y:=by
   rw [<- S.pre,List.getElem?_take_of_lt (by omega)]; exact h1
  have ndP:ps.Nodup:=by rw [<- S.pre]; exact S.nd.sublist (List.take_sublist _ _)
  refine ⟨u,rv,?_⟩
  rcases S.par y (List.mem_of_getElem? hp) with k | k
  ·exact .inl ⟨k,bindL_get ndP hp hu k⟩
  ·obtain ⟨c,e⟩:=cell_has (n:=s.heap.objs.size+1) k
   refine .inr ⟨.inl k,c,e,?_⟩
   have q:=x.cell y c e
   rw [bindC_get ndP hp hu (by show scope.names.lookup y≠_; rw [k]; decide)] at q
   exact q
 ·exact e0.hok.fresh (Nat.le_of_lt (x.above y c (PySem.mem_of_lookup h)))
 ·unfold start
  show _=N.length
  rw [List.length_append,List.length_map,List.length_replicate]
  omega
theorem fn_of {CX:CXT}{P:Program}{w:World}{K:PySem.W.Frag}{mg:Str->Option Value}{base:Heap}{k:Nat}{f:Addr}{name qual:Str}{params:Arguments}{body:List Stmt}{scope:Scope}{dV kV doc pm cdv ct oc:Value}{an od:Option Addr}
  {osl:Array (Option Value)}{N ps:List Str}{sp:Sp}(lk:K.lookup f=some ⟨oc,od,.func (PySem.W.fnOf name qual params body scope dV kV doc pm an cdv ct),osl⟩)(hcd:PySem.W.codeIn K cdv qual=true)(S:FnScope N ps scope)
  (len:∀ vs H Q E,sp vs H Q E->vs.length=ps.length)
  (hbody:∀ (A:Around) (outer:List Env) (s:Shared) (H:Hp) (vs:List V) (Q:VK) (E:XK),Room k (A.deeper (envOfC qual scope s.heap.objs.size f cdv))->sp vs H Q E ->
   ∃ t,PSs (cxOf CX P w K mg base N qual scope f cdv A outer s H E) body t/\t { nx:=λ _ H'=>Q .non H',rt:=Q } (start N vs) H) :
  FnOk P w K mg base CX (k+1) f (PySem.W.fnOf name qual params body scope dV kV doc pm an cdv ct) ps sp:=by
 refine ⟨len,λ A outer s H args us vs Q E hr e0 hb r hsp=>?_⟩
 have hl:=len _ _ _ _ hsp
 have KX:K.In s.heap:=e0.mod.kin.keeps λ b o e=>(e0.bs b o e).1
 have lim:s.heap.NoLimit:=e0.mod.nolimit.keeps λ b o e=>(e0.bs b o e).1
 have hkind:∀ y∈ps.zip us,scope.names.lookup y.1=some .local\/(scope.names.lookup y.1=some .cell/\((cellsFrom (s.heap.objs.size+1) scope.names []).lookup y.1).isSome=true):=λ ⟨n,v⟩ hy=>by
  rcases S.par n (List.of_mem_zip hy).1 with q | q
  ·exact .inl q
  ·exact .inr ⟨q,PySem.W.cellsFrom_some _ _ _ (.inl q)⟩
 refine codeAny_call_function hr.depth (KX _ _ lk) rfl S.co S.gen rfl (PySem.W.codeRec_of KX hcd) (hb _ _ _ _ ?_)
 refine wpAny_newFunctionEnv_cells S.kind hkind λ env he s1 x=>?_
 subst he
 refine ⟨lim.keeps x.toInCall.keep,codeAny_func ?_⟩
 obtain ⟨t,ht,hq⟩:=hbody A outer s H vs Q E (hr.deeper _) hsp
 have I:Inv (cxOf CX P w K mg base N qual scope f cdv A outer s H E) [] (start N vs) H s1:=inv_start S hr.hd e0 hl r x
 refine wpAny_mono (ht [] s1 (start N vs) H _ I hq) (λ fl s' hs=>?_) λ e s' hs=>hs
 have fin:∀ {σ':St} {H':Hp} {v:V} {u:Value},Inv (cxOf CX P w K mg base N qual scope f cdv A outer s H E) [] σ' H' s'->RelV v u->Q v H'->CE outer P w H s Q u s' :=
  λ {σ' H' v u} J rv q=>⟨v,H',J.os,J.bare,J.base,J.hok,rv,q⟩
 cases fl with
 | ret u =>
  obtain ⟨v,σ',H',J,rv,q⟩:=hs
  exact fin J rv q
 | next =>
  obtain ⟨σ',H',J,q⟩:=hs
  exact fin (v:=V.non) (u:=Value.none) J rfl q
 | brk =>
  obtain ⟨_,_,_,q⟩:=hs
  exact False.elim q
 | cont =>
  obtain ⟨_,_,_,q⟩:=hs
  exact False.elim q
end L2
namespace L2
open PySem PySem.Spec PyProof.Rows
section
variable {X:Cx}{x:Str}{p pos:Pos}{e:Expr}{es:List Expr}{t:TA}{id T:String}{r:List V->Hp->VK->Prop}
noncomputable def tCB (r:List V->Hp->VK->Prop)(t:TA):TE:=λ σ H Q=>t σ H λ vs H1=>r vs H1 Q
theorem pe_callB (hc:CallR X (.builtin id) r)(hg:Gl X x)(hm:X.mg x=none)(hv:bootBuiltins x=some (.builtin id))(ha:PA X (e :: es) t)(hn:x ≠ "__name__" := by decide)(hdb:(x == ("__debug__" : Str))=false:=by decide)
  (he:starEach (e :: es) X.env=(false,eval e X.env) :: starEach es X.env:=by rfl)(hpl:(backTo pos (starEach es X.env)).any (·.1)=false:=by rfl):PE X (.Call (.Name x p) (e :: es) [] pos) (tCB r t):=by
 intro pins s σ H Q I h
 refine wpAny_Call_Name_kw (ld_blt I hg hm hv ?_ hn hdb)
 exact PyProof.Rows.callWith_builtin1 (thn (ha pos pins s σ H _ I h) λ us s1 ⟨vs,H1,I1,r1,q1⟩=>hc pins s1 σ H1 vs us Q I1 r1 q1) he hpl
theorem pe_callTy (hc:CallR X (.type T) r)(hg:Gl X x)(hm:X.mg x=none)(hv:bootBuiltins x=some (.type T))(ha:PA X (e :: es) t)(hn:x ≠ "__name__" := by decide)(hdb:(x == ("__debug__" : Str))=false:=by decide)
  (he:starEach (e :: es) X.env=(false,eval e X.env) :: starEach es X.env:=by rfl)(hpl:(backTo pos (starEach es X.env)).any (·.1)=false:=by rfl):PE X (.Call (.Name x p) (e :: es) [] pos) (tCB r t):=by
 intro pins s σ H Q I h
 refine wpAny_Call_Name_kw (ld_blt I hg hm hv ?_ hn hdb)
 exact PyProof.Rows.callWith_type1 (thn (ha pos pins s σ H _ I h) λ us s1 ⟨vs,H1,I1,r1,q1⟩=>hc pins s1 σ H1 vs us Q I1 r1 q1) he hpl
end
end L2
namespace HT
open PySem PyProof.Rows
section
open PySem.SeqAt
open PySem.AutoSeq1 (wpAny_loadPart')
open PySem.MeetsSeq PySem.MeetsSeq2 PySem.MeetsSeq3
end
section
variable {prog:Program}{w:World}{A:Around}{E:Value->Shared->Prop}{s:Shared}
noncomputable def sIx (n d:Nat):Option Int->Nat
 | none=>d
 | some v=>if v < 0 then (v+(n:Int)).toNat else min v.toNat n
theorem sIx_le (n d:Nat)(hd:d<=n)(o:Option Int):sIx n d o<=n:=by
 cases o with
 | none=>exact hd
 | some v =>
  show (if v < 0 then (v+(n:Int)).toNat else min v.toNat n)<=n
  by_cases hv:v < 0
  ·rw [if_pos hv]; omega
  ·rw [if_neg hv]; exact Nat.min_le_right _ _
theorem clip_eq (v:Int)(n d:Nat):(if v < 0 then max (v+(n:Int)) 0 else min v (n:Int))=((sIx n d (some v):Nat):Int):=by
 show (if v < 0 then max (v+(n:Int)) 0 else min v (n:Int))=(((if v < 0 then (v+(n:Int)).toNat else min v.toNat n):Nat):Int)
 by_cases hv:v < 0
 ·simp only [if_pos hv]; omega
 ·simp only [if_neg hv]; omega
theorem adjust_gen (lo hi:Option Int)(n:Nat):Builtin.Slice.sliceAdjust lo hi 1 (n:Int)=(((sIx n 0 lo:Nat):Int),((sIx n n hi:Nat):Int)):=by
 have h1:¬ ((1:Int) < 0):=by omega
 unfold Builtin.Slice.sliceAdjust
 simp only [h1,if_false]
 refine Prod.ext ?_ ?_
 ·cases lo with
  | none=>rfl
  | some v=>exact clip_eq v n 0
 ·cases hi with
  | none=>rfl
  | some v=>exact clip_eq v n n
theorem places_gen (i j:Nat):Builtin.Slice.slicePlaces (i:Int) (j:Int) 1=j - i:=by
 unfold Builtin.Slice.slicePlaces
 have h1:(1:Int) > 0:=by omega
 simp only [h1,if_true,Int.ediv_one]
 split <;> omega
theorem slicePart_ {v:Value}{o:Option Int}{Q:Option Int->Shared->Prop}(p:IsPart v o)(h:Q o s):wpAny (model prog w) A (Builtin.Slice.slicePartIndex v) Q E s:=by
 cases p with
 | none=>exact slicePart_none h
 | int i t=>exact slicePart_int h
theorem sliceApplied_gen {sl:Addr}{vl vu:Value}{lo hi:Option Int}{n:Nat}{Q:Int×Int×Nat->Shared->Prop}(hs:s.heap.IsSliceOf sl vl vu .none)(pl:IsPart vl lo)(pu:IsPart vu hi)
  (h:Q (((sIx n 0 lo:Nat):Int),1,sIx n n hi - sIx n 0 lo) s):wpAny (model prog w) A (Builtin.Slice.sliceApplied (.ref sl) (pure (n:Int))) Q E s:=by
 obtain ⟨os,hos,hcs,hds⟩:=id hs
 unfold Builtin.Slice.sliceApplied Builtin.Slice.sliceFields
 refine wpAny_bind (wpAny_bind (wpAny_field hos hds (x:=vl) rfl (wpAny_bind (wpAny_field hos hds (x:=vu) rfl (wpAny_bind (wpAny_field hos hds (x:=.none) rfl (wpAny_pure ?_)))))))
 refine wpAny_bind (slicePart_none ?_)
 show wpAny _ _ (if ((1:Int) == 0)=true then _ else _) _ _ s
 rw [if_neg (by decide)]
 refine wpAny_bind (slicePart_ pl (wpAny_bind (slicePart_ pu (wpAny_bind (wpAny_pure ?_)))))
 show wpAny _ _ (match Builtin.Slice.sliceAdjust lo hi 1 (n:Int) with | (lo,hi)=>pure (lo,(1:Int),Builtin.Slice.slicePlaces lo hi 1)) _ _ s
 rw [adjust_gen lo hi n]
 show wpAny _ _ (pure (((sIx n 0 lo:Nat):Int),(1:Int),Builtin.Slice.slicePlaces ((sIx n 0 lo:Nat):Int) ((sIx n n hi:Nat):Int) 1)) _ _ s
 rw [places_gen]
 exact wpAny_pure h
theorem pick_gen (xs:Array Value)(i k:Nat):((List.range k).filterMap λ (m:Nat)=>xs[((i:Int)+(m:Int) * 1).toNat]?).toArray=((xs.toList.drop i).take k).toArray:=by
 have e:(λ (m:Nat)=>xs[((i:Int)+(m:Int) * 1).toNat]?)=λ m=>xs[i+m]?:=by
  funext m
  have:((i:Int)+(m:Int) * 1).toNat=i+m:=by omega
  rw [this]
 rw [e]
 have:=pick_run xs i k
 rw [List.filterMap_map] at this
 have e2:((λ x=>xs[x]?) ∘ λ x=>i+x)=λ m=>xs[i+m]?:=rfl
 rw [e2] at this
 rw [this]
theorem getItem_tuple_cut {t sl:Addr}{items:Array Value}{vl vu:Value}{lo hi:Option Int}{Q:Value->Shared->Prop}(ht:IsTup s.heap t items)(hs:s.heap.IsSliceOf sl vl vu .none)(pl:IsPart vl lo)(pu:IsPart vu hi)
  (hw:¬ (sIx items.size 0 lo=0/\sIx items.size items.size hi=items.size))
  (h:Q (.ref s.heap.objs.size) { s with heap:=s.heap.push { cls:=.type "tuple",data:=.seq ((items.toList.drop (sIx items.size 0 lo)).take (sIx items.size items.size hi - sIx items.size 0 lo)).toArray } })
  (hsz:items.size<=sizeLine):wpAny (model prog w) A (getItem (.ref t) (.ref sl)) Q E s:=by
 have htake:sizeOk (.seq ((items.toList.drop (sIx items.size 0 lo)).take (sIx items.size items.size hi - sIx items.size 0 lo)).toArray):=by
  show ((items.toList.drop (sIx items.size 0 lo)).take (sIx items.size items.size hi - sIx items.size 0 lo)).toArray.size<=sizeLine
  rw [List.size_toArray,List.length_take,List.length_drop,Array.length_toList]
  omega
 have hj:sIx items.size items.size hi<=items.size:=sIx_le _ _ (Nat.le_refl _) hi
 obtain ⟨os,hos,hcs,hds⟩:=id hs
 have hTs:s.TypeIs (.ref sl) "slice" := ⟨os,hos,hcs⟩
 unfold getItem
 try with_reducible refine wpAny_holding ?_
 first | refine wpAny_bind (wpAny_pure ?_) | skip
 refine wpAny_bind (wpAny_sequenceKey ht.typeIs (by decide) ?_)
 refine wpAny_bind (wpAny_callSpecial?_slot (name:=Str.ofString "__getitem__") ht.typeIs PyProof.Rows.slot_tuple_getitem
  (wpAny_call_entry PyProof.Rows.slot_tuple_getitem ht.typeIs entry_tuple_getitem ?_ (args_tuple_getitem _ _)))
 show wpAny _ _ (Builtin.Tuple.tupleItemsOf (.ref t) >>= _) _ _ s
 refine wpAny_bind (tupleItemsOf_ ht ?_)
 refine wpAny_bind (wpAny_typeOf hTs ?_)
 rw [if_pos (by decide)]
 refine wpAny_bind (sliceApplied_gen hs pl pu ?_)
 have hno:¬ ((((sIx items.size 0 lo:Nat):Int) == 0 && (1:Int) == 1 && (sIx items.size items.size hi - sIx items.size 0 lo) == items.size)=true):=by
  intro q
  rw [Bool.and_eq_true,Bool.and_eq_true] at q
  have q1:((sIx items.size 0 lo:Nat):Int)=0:=eq_of_beq q.1.1
  have q2:sIx items.size items.size hi - sIx items.size 0 lo=items.size:=eq_of_beq q.2
  exact hw ⟨by omega,by omega⟩
 show wpAny _ _ (if (((sIx items.size 0 lo:Nat):Int) == 0 && (1:Int) == 1 && (sIx items.size items.size hi - sIx items.size 0 lo) == items.size)=true then _ else _) _ _ s
 rw [if_neg hno,pick_gen]
 first
  | exact wpAny_bind (m:=Builtin.Tuple.tupleExact _) (wpAny_newObj_type (wpAny_pure ⟨_,rfl,wpAny_pure h⟩) htake)
  | exact wpAny_bind (m:=Builtin.Tuple.tupleExact _) (wpAny_newObj_type (wpAny_bind (wpAny_pure (wpAny_pure ⟨_,rfl,wpAny_pure h⟩))) htake)
  | exact wpAny_bind (wpAny_bind (m:=Builtin.Tuple.tupleExact _) (wpAny_newObj_type (wpAny_pure (wpAny_pure ⟨_,rfl,wpAny_pure h⟩)) htake))
  | exact wpAny_bind (wpAny_bind (m:=Builtin.Tuple.tupleExact _) (wpAny_newObj_type (wpAny_pure ⟨_,rfl,wpAny_pure h⟩) htake))
end
end HT
namespace L2
open PySem PySem.Spec PyProof.Rows
noncomputable abbrev TO:=St->Hp->(Option Int->Hp->Prop)->Prop
noncomputable def PO (X:Cx)(e:Option Expr)(t:TO):Prop :=
 ∀ (pins:List (Addr×Obj)) (s:Shared) (σ:St) (H:Hp) (Q:Option Int->Hp->Prop),Inv X pins σ H s->t σ H Q ->
  wpAny (model X.prog X.w) X.A (evalPart e X.env) (λ u s'=>∃ o H',Inv X pins σ H' s'/\IsPart u o/\Q o H') X.xe s
noncomputable def tNoPart:TO:=λ _ H Q=>Q none H
noncomputable def tPart (t:TE):TO:=λ σ H Q=>t σ H λ x H1=>∃ i,x=.int i/\Q (some i) H1
section
variable {X:Cx}{e:Expr}{te:TE}{lo hi:Option Expr}{tl th:TO}{pos p2:Pos}
theorem po_none:PO X none tNoPart:=by
 intro pins s σ H Q I h
 rw [evalPart_none]
 exact wpAny_pure ⟨none,H,I,.none,h⟩
theorem po_some (h:PE X e te):PO X (some e) (tPart te):=by
 intro pins s σ H Q I hw
 rw [evalPart_some]
 refine thn (h pins s σ H _ I hw) λ u s1 hq23=>?_
 obtain ⟨x,H1,I1,r1,q1⟩:=hq23
 obtain ⟨i,rfl,q⟩:=q1
 obtain ⟨t,rfl⟩:=r1
 exact ⟨some i,H1,I1,.int i t,q⟩
noncomputable def SlR (X:Cx)(r:V->Option Int->Option Int->Hp->VK->Prop):Prop :=
 ∀ (pins:List (Addr×Obj)) (s:Shared) (σ:St) (H:Hp) (x:V) (v vl vu:Value) (lo hi:Option Int) (sl:Addr) (Q:VK),Inv X pins σ H s->RelV x v->s.heap.IsSliceOf sl vl vu .none->IsPart vl lo->IsPart vu hi->r x lo hi H Q ->
  ∃ T id,typeLookup (.type T) "__getitem__" = pure (some (.builtin id))/\s.TypeIs v T/\wpAny (model X.prog X.w) X.A (getItem v (.ref sl)) (EP X pins σ Q) X.xe s
theorem SlR.or {r r':V->Option Int->Option Int->Hp->VK->Prop}(h:SlR X r)(h':SlR X r'):SlR X (λ x lo hi H Q=>r x lo hi H Q\/r' x lo hi H Q):=by
 intro pins s σ H x v vl vu lo hi sl Q I rx hs pl pu q
 rcases q with q | q
 ·exact h pins s σ H x v vl vu lo hi sl Q I rx hs pl pu q
 ·exact h' pins s σ H x v vl vu lo hi sl Q I rx hs pl pu q
noncomputable def tSl (r:V->Option Int->Option Int->Hp->VK->Prop)(te:TE)(tl th:TO):TE:=λ σ H Q=>te σ H λ x H1=>tl σ H1 λ l H2=>th σ H2 λ u H3=>r x l u H3 Q
theorem pe_slice {r:V->Option Int->Option Int->Hp->VK->Prop}(hr:SlR X r)(he:PE X e te)(hl:PO X lo tl)(hu:PO X hi th):PE X (.Subscript e (.Slice lo hi none p2) pos) (tSl r te tl th):=by
 intro pins s σ H Q I h
 refine Subscript_ (thn (he pins s σ H _ I h) λ v s1 hq24=>?_)
 obtain ⟨x,H1,I1,r1,q1⟩:=hq24
 refine wpAny_Slice (thn (hl pins s1 σ H1 _ I1 q1) λ vl s2 ⟨l,H2,I2,pl,q2⟩=>thn (hu pins s2 σ H2 _ I2 q2) λ vu s3 hq25=>?_)
 obtain ⟨u,H3,I3,pu,q3⟩:=hq25
 rw [evalPart_none]
 refine wpAny_pure ?_
 have I4:Inv X pins σ H3 { s3 with heap:=s3.heap.push { cls:=.type "slice",data:=.fields #[vl,vu,.none] } }:=I3.kept (t':=s3.toks) λ b ob q=>Heap.get?_push_of_some _ q
 obtain ⟨T,id,hT,ht,hg⟩:=hr pins { s3 with heap:=s3.heap.push { cls:=.type "slice",data:=.fields #[vl,vu,.none] } } σ H3 x v vl vu l u s3.heap.objs.size Q I4 r1 (Heap.IsSliceOf.new ..) pl pu q3
 show wpAny (model X.prog X.w) X.A (subscriptTail e (.Slice lo hi none p2) v (.ref s3.heap.objs.size)) (EP X pins σ Q) X.xe { s3 with heap:=s3.heap.push { cls:=.type "slice",data:=.fields #[vl,vu,.none] } }
 exact tail_any (ops:=[.ref s3.heap.objs.size,v]) ht hT hg (by with_unfolding_all rfl)
noncomputable def cutV (xs:List V)(lo hi:Option Int):List V:=(xs.drop (HT.sIx xs.length 0 lo)).take (HT.sIx xs.length xs.length hi - HT.sIx xs.length 0 lo)
theorem cutV_length (xs:List V)(lo hi:Option Int):(cutV xs lo hi).length<=xs.length:=by
 unfold cutV
 rw [List.length_take,List.length_drop]
 omega
noncomputable def rSlT (K:PySem.W.Frag):V->Option Int->Option Int->Hp->VK->Prop:=λ x lo hi H Q=>∃ a xs,x=.ref a/\SqT K H a xs /\
 ¬ (HT.sIx xs.length 0 lo=0/\HT.sIx xs.length xs.length hi=xs.length)/\∀ p,H p=none->Q (.ref p) (upd H p (.tup (cutV xs lo hi)))
theorem sl_tup:SlR X (rSlT X.K):=by
 intro pins s σ H x v vl vu lo hi sl Q I rx hs pl pu h
 obtain ⟨a,xs,rfl,hx,hw,q⟩:=h
 cases rx
 obtain ⟨its,r,ht,hz⟩:=I.tuple hx
 have hlen:its.toArray.size=xs.length:=by rw [List.size_toArray]; exact r.length.symm
 refine ⟨"tuple",_,PyProof.Rows.slot_tuple_getitem.lookup,ht.typeIs,?_⟩
 refine HT.getItem_tuple_cut ht hs pl pu (by rw [hlen]; exact hw) ?_ (by rw [hlen]; exact hz)
 rw [hlen]
 refine ⟨.ref s.heap.objs.size,_,I.laid (t':=s.toks) (o:=.tup (cutV xs lo hi)) (λ b ob q=>Heap.get?_push_of_some _ q) (Nat.le_refl _) ?_,rfl,q _ (I.hok.fresh (Nat.le_refl _))⟩
 exact ⟨Nat.le_trans (cutV_length xs lo hi) hz,_,(r.drop (HT.sIx xs.length 0 lo)).take (HT.sIx xs.length xs.length hi - HT.sIx xs.length 0 lo),TupN.new _ _⟩
end
end L2
namespace L2
open PySem PySem.Spec PyProof.Rows
noncomputable def ixN (n:Nat)(i:Int):Option Nat:=if 0<=i then (if i < n then some i.toNat else none) else if -(n:Int)<=i then some (i+n).toNat else none
noncomputable def atI {α:Type}(xs:List α)(i:Int):Option α:=(ixN xs.length i).bind λ j=>xs[j]?
theorem ixN_seq {n:Nat}{i:Int}{j:Nat}(h:ixN n i=some j):seqIndex? i n=some j/\j < n/\-(n:Int)<=i/\i < n:=by
 unfold ixN at h
 by_cases h0:0<=i
 ·rw [if_pos h0] at h
  by_cases h1:i < n
  ·rw [if_pos h1] at h
   have e:i.toNat=j:=Option.some.inj h
   exact ⟨by rw [seqIndex_of h0 h1,e],by omega,by omega,h1⟩
  ·rw [if_neg h1] at h; cases h
 ·rw [if_neg h0] at h
  by_cases h1:-(n:Int)<=i
  ·rw [if_pos h1] at h
   have e:(i+n).toNat=j:=Option.some.inj h
   exact ⟨by rw [seqIndex_neg (by omega) h1,e],by omega,h1,by omega⟩
  ·rw [if_neg h1] at h; cases h
theorem atI_get {α:Type}{xs:List α}{i:Int}{v:α}(h:atI xs i=some v):∃ j,seqIndex? i xs.length=some j/\xs[j]? = some v/\j < xs.length/\-(xs.length:Int)<=i/\i < xs.length:=by
 unfold atI at h
 cases e:ixN xs.length i with
 | none=>rw [e] at h; cases h
 | some j =>
  rw [e] at h
  obtain ⟨h1,h2,h3,h4⟩:=ixN_seq e
  exact ⟨j,h1,h,h2,h3,h4⟩
theorem atI_nat {α:Type}{xs:List α}{j:Nat}{v:α}(h:xs[j]? = some v):atI xs (j:Int)=some v:=by
 have hj:j < xs.length:=(List.getElem?_eq_some_iff.mp h).1
 have e:ixN xs.length (j:Int)=some j:=by
  unfold ixN
  rw [if_pos (by omega),if_pos (by omega)]; simp
 unfold atI; rw [e]; exact h
theorem atI_last {α:Type}(xs:List α)(v:α):atI (xs++[v]) (-1)=some v:=by
 have hl:(xs++[v]).length=xs.length+1:=by simp
 have e:ixN (xs++[v]).length (-1)=some xs.length:=by
  unfold ixN
  rw [hl,if_neg (by decide),if_pos (by omega)]
  congr 1
  omega
 unfold atI
 rw [e]
 show (xs++[v])[xs.length]? = some v
 simp
noncomputable def PlainIx (b:Expr):Prop:=∀ o i,subscripted b false o i=operate [o,i] (getItem o i)
noncomputable def IxR (X:Cx)(r:R2):Prop :=
 ∀ (value slice:Expr) (pins:List (Addr×Obj)) (s:Shared) (σ:St) (H:Hp) (x y:V) (v u:Value) (Q:VK),Inv X pins σ H s->RelV x v->RelV y u->r x y H Q ->
  subscripted slice false v u=operate [v,u] (getItem v u)->wpAny (model X.prog X.w) X.A (subscriptTail value slice v u) (EP X pins σ Q) X.xe s
noncomputable def MtR (X:Cx)(id:String)(r:V->List V->Hp->VK->Prop):Prop :=
 ∀ (pins:List (Addr×Obj)) (s:Shared) (σ:St) (H:Hp) (x:V) (xs:List V) (v:Value) (us:List Value) (Q:VK),Inv X pins σ H s->RelV x v->Vals xs us->r x xs H Q ->
  wpAny (model X.prog X.w) X.A (call (.builtin id) (v :: us)) (EP X pins σ Q) X.xe s
section
variable {X:Cx}{a b:Expr}{ta tb:TE}{pos:Pos}
theorem IxR.or {r r':R2}(h:IxR X r)(h':IxR X r'):IxR X (λ x y H Q=>r x y H Q\/r' x y H Q):=by
 intro value slice pins s σ H x y v u Q I rx ry q hs
 rcases q with q | q
 ·exact h value slice pins s σ H x y v u Q I rx ry q hs
 ·exact h' value slice pins s σ H x y v u Q I rx ry q hs
theorem MtR.or {id:String}{r r':V->List V->Hp->VK->Prop}(h:MtR X id r)(h':MtR X id r'):MtR X id (λ x xs H Q=>r x xs H Q\/r' x xs H Q):=by
 intro pins s σ H x xs v us Q I rx rs q
 rcases q with q | q
 ·exact h pins s σ H x xs v us Q I rx rs q
 ·exact h' pins s σ H x xs v us Q I rx rs q
theorem pe_ix {r:R2}(hr:IxR X r)(ha:PE X a ta)(hb:PE X b tb)(hs:PlainIx b):PE X (.Subscript a b pos) (tOp r ta tb):=by
 intro pins s σ H Q I h
 exact Subscript_ (binT ha hb I h λ v u s2 x y H2 I2 rx ry q=>hr a b pins s2 σ H2 x y v u Q I2 rx ry q (hs _ _))
noncomputable def rIxL (K:PySem.W.Frag):R2:=λ x y H Q=>∃ p xs i v,x=.ref p/\y=.int i/\SqL K H p xs/\atI xs i=some v/\Q v H
noncomputable def rIxT (K:PySem.W.Frag):R2:=λ x y H Q=>∃ p xs i v,x=.ref p/\y=.int i/\SqT K H p xs/\atI xs i=some v/\Q v H
noncomputable def rIxS:R2:=λ x y H Q=>∃ z i c,x=.str z/\y=.int i/\z.length<=sizeLine/\atI z.cps.toList i=some c/\Q (.str ⟨#[c]⟩) H
theorem ix_list:IxR X (rIxL X.K):=by
 intro value slice pins s σ H x y v u Q I rx ry h hs
 obtain ⟨p,xs,i,z,rfl,rfl,hq,he,q⟩:=h
 cases rx
 obtain ⟨t,rfl⟩:=ry
 obtain ⟨its,r,pl,hz⟩:=I.list hq
 obtain ⟨j,h1,h2,h3,h4,h5⟩:=atI_get he
 obtain ⟨w,ew,rw'⟩:=r.get h2
 have hl:=r.length
 have hn:=line63
 have fin:EP X pins σ Q w s:=⟨z,H,I,rw',q⟩
 by_cases h0:0<=i
 ·have hj:i.toNat=j:=by
   rw [seqIndex_of h0 h5] at h1
   exact Option.some.inj h1
  exact item_listR pl.isList h0 (by omega) (by rw [hj]; simpa using ew) fin hs
 ·have hj:(i+(its.toArray.size:Int)).toNat=j:=by
   rw [seqIndex_neg (by omega) h4] at h1
   rw [List.size_toArray,<- hl]
   exact Option.some.inj h1
  exact subscriptTail_builtinR (x:=w) pl.isList.typeIs slot_list_getitem.lookup
   (wpAny_getItem_list_neg (Q:=λ r s'=>r=w/\EP X pins σ Q r s') pl.isList (by omega) (by rw [List.size_toArray] <;> omega) (by omega) (by rw [hj]; simpa using ew) ⟨rfl,fin⟩) hs
theorem ix_tup:IxR X (rIxT X.K):=by
 intro value slice pins s σ H x y v u Q I rx ry h hs
 obtain ⟨p,xs,i,z,rfl,rfl,hq,he,q⟩:=h
 cases rx
 obtain ⟨t,rfl⟩:=ry
 obtain ⟨its,r,pl,hz⟩:=I.tuple hq
 obtain ⟨j,h1,h2,h3,h4,h5⟩:=atI_get he
 obtain ⟨w,ew,rw'⟩:=r.get h2
 have hl:=r.length
 have hn:=line63
 have fin:EP X pins σ Q w s:=⟨z,H,I,rw',q⟩
 exact subscriptTail_builtinR (x:=w) pl.typeIs slot_tuple_getitem.lookup
  (getItem_tuple (j:=j) (Q:=λ r s'=>r=w/\EP X pins σ Q r s') pl (by omega) (by omega) (by rw [List.size_toArray,<- hl]; exact h1) (by simpa using ew) ⟨rfl,fin⟩) hs
theorem ix_str:IxR X rIxS:=by
 intro value slice pins s σ H x y v u Q I rx ry h hs
 obtain ⟨z,i,c,rfl,rfl,hz,he,q⟩:=h
 obtain ⟨t,rfl⟩:=rx
 obtain ⟨t',rfl⟩:=ry
 obtain ⟨j,h1,h2,h3,h4,h5⟩:=atI_get he
 have hl:z.cps.toList.length=z.length:=by simp [Str.length]
 rw [hl] at h1 h4 h5
 have hn:=line63
 exact tail_any (typeIs_str s z t) slot_str_getitem.lookup (getItem_str (c:=c) (by
  have e1:decide (i < -(2 ^ 63:Int))=false:=decide_eq_false (by omega)
  have e2:decide (i >= 2 ^ 63)=false:=decide_eq_false (by omega)
  rw [e1,e2,Bool.or_false]) (by rw [h1]; simpa using h2) ⟨.str ⟨#[c]⟩,H,I.tok _,⟨_,rfl⟩,q⟩) hs
noncomputable def rIx (K:PySem.W.Frag):R2:=λ x y H Q=>rIxL K x y H Q\/rIxT K x y H Q\/rIxS x y H Q
theorem ix_seq:IxR X (rIx X.K):=ix_list.or (ix_tup.or ix_str)
theorem mapSeq_set (its:List Value)(n j:Nat)(u:Value):Obj.mapSeq (·.setIfInBounds j u) { cls:=.type "list",data:=.seq its.toArray n }={ cls:=.type "list",data:=.seq (its.set j u).toArray n }:=by
 simp [Obj.mapSeq]
theorem Inv.lst {pins:List (Addr×Obj)}{σ:St}{H:Hp}{s:Shared}{p:Addr}{xs:List V}(I:Inv X pins σ H s)(h:H p=some (.lst xs)) :
  ∃ (its:List Value) (n:Nat),Vals xs its/\s.heap.get? p=some { cls:=.type "list",data:=.seq its.toArray n }/\xs.length<=sizeLine:=by
 obtain ⟨z,its,n,r,e⟩:=I.hok p _ h
 exact ⟨its,n,r,e,z⟩
theorem Inv.lstUpd {pins:List (Addr×Obj)}{σ:St}{H:Hp}{s:Shared}{p:Addr}{xs ys:List V}{its its':List Value}{n n':Nat}{f:Obj->Obj}(I:Inv X pins σ H s)(h:H p=some (.lst xs))
  (ho:s.heap.get? p=some { cls:=.type "list",data:=.seq its.toArray n })(hf:f { cls:=.type "list",data:=.seq its.toArray n }={ cls:=.type "list",data:=.seq its'.toArray n' })(r:Vals ys its')(hz:ys.length<=sizeLine)(t:Nat) :
  Inv X pins σ (upd H p (.lst ys)) { s with heap:=s.heap.update p f,toks:=t }:=by
 have e:(s.heap.update p f).get? p=some { cls:=.type "list",data:=.seq its'.toArray n' }:=by
  rw [Heap.get?_update_self f ho (by rw [hf] <;> rfl),hf]
 refine I.write (x:=p) (e:=p) (by rw [h]; trivial) (.inl rfl) (λ b u hb q=>(Heap.get?_update_other _ _ (Ne.symm hb)).trans q) ⟨_,e⟩ ?_
 exact ⟨hz,its',n',r,e⟩
noncomputable def rSetL:V->V->V->Hp->(Hp->Prop)->Prop:=λ o i v H Q=>∃ p xs k j,o=.ref p/\i=.int k/\H p=some (.lst xs)/\ixN xs.length k=some j/\Q (upd H p (.lst (xs.set j v)))
theorem set_list:PSet X rSetL:=by
 intro pins s σ H o i v ov iv u Q I ro ri rv h
 obtain ⟨p,xs,k,j,rfl,rfl,hp,hj,q⟩:=h
 cases ro
 obtain ⟨t,rfl⟩:=ri
 obtain ⟨its,n,r,ho,hz⟩:=I.lst hp
 obtain ⟨h1,h2,h3,h4⟩:=ixN_seq hj
 have hl:=r.length
 have hn:=line63
 have I':Inv X pins σ (upd H p (.lst (xs.set j v))) { s with heap:=s.heap.update p (Obj.mapSeq (·.setIfInBounds j u)) } :=
  I.lstUpd hp ho (mapSeq_set its n j u) (r.set rv j) (by rw [List.length_set]; exact hz) s.toks
 by_cases h0:0<=k
 ·have hk:k.toNat=j:=by
   rw [seqIndex_of h0 h4] at h1
   exact Option.some.inj h1
  exact PySem.W.ki_setAt ho h0 (by omega) (by rw [List.size_toArray,<- hl]; exact h4) (by rw [hk]; exact ⟨_,I',q⟩)
 ·have hk:(k+(its.toArray.size:Int)).toNat=j:=by
   rw [seqIndex_neg (by omega) h3] at h1
   rw [List.size_toArray,<- hl]
   exact Option.some.inj h1
  exact PySem.W.ki_setBack ho (by omega) (by rw [List.size_toArray,<- hl]; exact h3) (by omega) (by rw [hk]; exact ⟨_,I',q⟩)
theorem slice_bounds (lo hi:Option Int)(n:Nat):(sliceBounds lo hi none n).1=((HT.sIx n 0 lo:Nat):Int)/\(sliceBounds lo hi none n).2.1=((HT.sIx n n hi:Nat):Int)/\(sliceBounds lo hi none n).2.2=1:=by
 refine ⟨?_,?_,rfl⟩
 ·cases lo with
  | none=>simp [sliceBounds,HT.sIx]
  | some i =>
   simp only [sliceBounds,HT.sIx,Option.getD_none,show (1:Int) > 0 by decide,if_true]
   by_cases h:i < 0
   ·simp only [h,if_true] <;> omega
   ·simp only [h,if_false] <;> omega
 ·cases hi with
  | none=>simp [sliceBounds,HT.sIx]
  | some i =>
   simp only [sliceBounds,HT.sIx,Option.getD_none,show (1:Int) > 0 by decide,if_true]
   by_cases h:i < 0
   ·simp only [h,if_true] <;> omega
   ·simp only [h,if_false] <;> omega
theorem slicePick_cut (its:List Value)(lo hi:Option Int):slicePick its.toArray lo hi none=((its.drop (HT.sIx its.length 0 lo)).take (HT.sIx its.length its.length hi - HT.sIx its.length 0 lo)).toArray:=by
 obtain ⟨h1,h2,h3⟩:=slice_bounds lo hi its.toArray.size
 unfold slicePick
 rw [h1,h2,h3]
 simp only [sliceRange_one,pick_run,List.size_toArray] <;> rfl
noncomputable def rSlL (K:PySem.W.Frag):V->Option Int->Option Int->Hp->VK->Prop:=λ x lo hi H Q=>∃ a xs,x=.ref a/\SqL K H a xs/\∀ p,H p=none->Q (.ref p) (upd H p (.lst (cutV xs lo hi)))
theorem sl_list:SlR X (rSlL X.K):=by
 intro pins s σ H x v vl vu lo hi sl Q I rx hs pl pu h
 obtain ⟨a,xs,rfl,hx,q⟩:=h
 cases rx
 obtain ⟨its,r,ht,hz⟩:=I.list hx
 have hlen:=r.length
 refine ⟨"list",_,slot_list_getitem.lookup,ht.isList.typeIs,?_⟩
 refine wpAny_getItem_list_slice ht.isList hs pl pu .none (by simp) ?_ (by rw [List.size_toArray] <;> omega)
 rw [slicePick_cut,<- hlen]
 refine ⟨.ref s.heap.objs.size,_,I.laid (t':=s.toks) (o:=.lst (cutV xs lo hi)) (λ b ob q=>Heap.get?_push_of_some _ q) (Nat.le_refl _) ?_,rfl,q _ (I.hok.fresh (Nat.le_refl _))⟩
 exact ⟨Nat.le_trans (cutV_length xs lo hi) hz,_,0,(r.drop (HT.sIx xs.length 0 lo)).take (HT.sIx xs.length xs.length hi - HT.sIx xs.length 0 lo),Heap.get?_push_size _ rfl⟩
theorem CallR.or {f:Value}{r r':List V->Hp->VK->Prop}(h:CallR X f r)(h':CallR X f r'):CallR X f (λ xs H Q=>r xs H Q\/r' xs H Q):=by
 intro pins s σ H xs us Q I rs q
 rcases q with q | q
 ·exact h pins s σ H xs us Q I rs q
 ·exact h' pins s σ H xs us Q I rs q
theorem call_tuple_of:CallR X (.type "tuple") (λ xs H Q=>∃ p ys,xs=[.ref p]/\((SqL X.K H p ys/\∀ l,H l=none->Q (.ref l) (upd H l (.tup ys)))\/(SqT X.K H p ys/\Q (.ref p) H))):=by
 intro pins s σ H xs us Q I r h
 obtain ⟨p,ys,rfl,h⟩:=h
 obtain ⟨u,rfl,rx⟩:=vals1 r
 cases rx
 rcases h with ⟨hq,q⟩ | ⟨hq,q⟩
 ·obtain ⟨its,r',pl,hz⟩:=I.list hq
  have hlen:=r'.length
  refine call_tuple_list pl.isList (λ h' kp=>?_) (by simp only [List.size_toArray] <;> omega)
  have I1:Inv X pins σ H { s with heap:=h' }:=I.kept (t':=s.toks) kp
  have I2:Inv X pins σ (upd H h'.objs.size (.tup ys)) { s with heap:=h'.push { cls:=.type "tuple",data:=.seq its.toArray } } :=
   I1.laid (t':=s.toks) (λ b o e=>Heap.get?_push_of_some _ e) (Nat.le_refl _) (show ObjOk X.prog X.w _ _ _ (.tup ys) from ⟨hz,its,r',TupN.new _ _⟩)
  exact ⟨.ref h'.objs.size,_,I2,rfl,q _ (I1.hok.fresh (Nat.le_refl _))⟩
 ·obtain ⟨its,r',pl,hz⟩:=I.tuple hq
  exact call_tuple_same pl ⟨.ref p,H,I,rfl,q⟩
noncomputable def tyV (K:PySem.W.Frag)(T:String)(x:V)(H:Hp):Prop:=match x with
 | .str _=>T = "str"
 | .int _=>T = "int"
 | .ref p=>(T = "list" /\ ∃ xs,SqL K H p xs)\/(T = "tuple" /\ ∃ xs,SqT K H p xs) \/
   (T = "dict" /\ ((∃ kvs,H p=some (.dK kvs))\/∃ kvs,H p=some (.dT kvs)))\/(T = "set" /\ ∃ S n,H p=some (.set S n))
 | _=>False
theorem tyV_is {pins:List (Addr×Obj)}{σ:St}{H:Hp}{s:Shared}{T:String}{x:V}{v:Value}(I:Inv X pins σ H s)(r:RelV x v)(ty:tyV X.K T x H) :
  s.TypeIs v T/\∀ a,v=.ref a->∃ ob,s.heap.get? a=some ob/\ob.dict=none:=by
 cases x with
 | str z =>
  obtain ⟨t,rfl⟩:=r
  cases (show T = "str" from ty)
  exact ⟨typeIs_str s z t,λ _ e=>nomatch e⟩
 | int i =>
  obtain ⟨t,rfl⟩:=r
  cases (show T = "int" from ty)
  exact ⟨typeIs_int s i t,λ _ e=>nomatch e⟩
 | ref p =>
  cases r
  rcases ty with ⟨rfl,xs,hq⟩ | ⟨rfl,xs,hq⟩ | ⟨rfl,hk⟩ | ⟨rfl,S,n,hk⟩
  ·obtain ⟨its,_,pl,_⟩:=I.list hq
   refine ⟨pl.isList.typeIs,λ a e=>?_⟩
   cases e
   obtain ⟨o,n,e,c,hd,_⟩:=pl
   exact ⟨o,e,hd⟩
  ·obtain ⟨its,_,⟨o,h1,h2,h3,_⟩,_⟩:=I.tupN hq
   refine ⟨⟨o,h1,h2⟩,λ a e=>?_⟩
   cases e
   exact ⟨o,h1,h3⟩
  ·have z:∃ o,s.heap.get? p=some o/\o.ExactDict:=by
    rcases hk with ⟨kvs,hk⟩ | ⟨kvs,hk⟩
    ·obtain ⟨_,_,_,_,o,_,_,e,ex,_⟩:=I.hok p _ hk
     exact ⟨o,e,ex⟩
    ·obtain ⟨_,_,_,_,o,_,_,e,ex,_⟩:=I.hok p _ hk
     exact ⟨o,e,ex⟩
   obtain ⟨o,e,ex⟩:=z
   refine ⟨⟨o,e,ex.1⟩,λ a e2=>?_⟩
   cases e2
   exact ⟨o,e,ex.2.1⟩
  ·obtain ⟨o,_,_,_,e,ex,_⟩:=I.hok p _ hk
   refine ⟨⟨o,e,ex.1⟩,λ a e2=>?_⟩
   cases e2
   exact ⟨o,e,ex.2.1⟩
 | _=>exact False.elim ty
noncomputable def tBM (K:PySem.W.Frag)(T:String)(r:V->List V->Hp->VK->Prop)(to:TE)(t:TA):TE:=λ σ H Q=>to σ H λ x H1=>tyV K T x H1/\t σ H1 λ xs H2=>r x xs H2 Q
variable {o e:Expr}{es:List Expr}{to:TE}{t:TA}{name:Str}{apos cpos:Pos}{T id:String}{r:V->List V->Hp->VK->Prop}
theorem pe_bm (pa:PlainAttrs T)(slot:Slot T name id)(hty:typeOf (.builtin id)=pure (.type "method_descriptor"))(hm:MtR X id r)(ho:PE X o to)(ha:PA X (e :: es) t)
  (hbase:attributeBase o name X.env (eval o X.env)=eval o X.env:=by rfl)
  (hfew:((backTo cpos (starEach (e :: es) X.env)).all (λ x=>!x.1) && (backToKw cpos (keywordEach [] X.env)).all (λ x=>x.1.isSome)
   && decide ((e :: es).length+([]:List Keyword).length+(if ([]:List Keyword).isEmpty then 0 else 1) < 30))=true:=by rfl)
  (hline:(apos.endLine == cpos.line)=true:=by rfl)(hs:starEach (e :: es) X.env=(false,eval e X.env) :: starEach es X.env:=by rfl)(hplain:(backTo cpos (starEach es X.env)).any (·.1)=false:=by rfl) :
  PE X (.Call (.Attribute o name apos) (e :: es) [] cpos) (tBM X.K T r to t):=by
 intro pins s σ H Q I h
 refine wpAny_Call_method_late hbase hfew hline rfl (thn (ho pins s σ H _ I h) λ v s1 hq26=>?_)
 obtain ⟨x,H1,I1,r1,ty,q1⟩:=hq26
 obtain ⟨h1,h2⟩:=tyV_is I1 r1 ty
 refine ⟨T,id,pa,slot,hty,h1,h2,?_⟩
 have hA:=ha cpos pins s1 σ H1 _ I1 q1
 rw [hs] at hA ⊢
 refine Calls.callWith_builtin (by show (false || (backTo cpos (starEach es X.env)).any (·.1))=false; rw [hplain] <;> rfl) (Calls.evalArgs_plain ?_)
 exact thn hA λ us s2 ⟨vs,H2,I2,r2,q2⟩=>hm pins s2 σ H2 x vs v us Q I2 r1 r2 q2
end
end L2
namespace L2
open PySem PySem.Spec PyProof.Rows
noncomputable def MtM (X:Cx)(id:String)(r:V->List V->Hp->VK->Prop):Prop :=
 ∀ (pins:List (Addr×Obj)) (s:Shared) (σ:St) (H:Hp) (x:V) (xs:List V) (v:Value) (us:List Value) (Q:VK),Inv X pins σ H s->RelV x v->Vals xs us->r x xs H Q ->
  wpAny (model X.prog X.w) X.A (call (.builtin id) (v :: us)) (EP X pins σ Q) X.xe s
theorem Vals.one:∀ {x:V} {us:List Value},Vals [x] us->∃ u,us=[u]/\RelV x u
 | _,_,.cons r .nil=>⟨_,rfl,r⟩
theorem Vals.zero:∀ {us:List Value},Vals [] us->us=[]
 | _,.nil=>rfl
theorem Vals.dropLast {xs:List V}{us:List Value}(h:Vals xs us):Vals xs.dropLast us.dropLast:=by
 induction h with
 | nil=>exact .nil
 | cons r t ih =>
  cases t with
  | nil=>exact .nil
  | cons q t'=>exact .cons r ih
theorem Vals.reverse {xs:List V}{us:List Value}(h:Vals xs us):Vals xs.reverse us.reverse:=by
 induction h with
 | nil=>exact .nil
 | cons r t ih=>rw [List.reverse_cons,List.reverse_cons]; exact Vals.append ih (.cons r .nil)
section
variable {X:Cx}{pins:List (Addr×Obj)}{σ:St}{H:Hp}{s:Shared}{l b:Addr}{xs ys zs:List V}
theorem Inv.lset {its its':List Value}{n:Nat}{f:Array Value->Array Value}{t':Nat}(I:Inv X pins σ H s)(hH:H l=some (.lst xs))
  (e:s.heap.get? l=some { cls:=.type "list",data:=.seq its.toArray n })(hf:f its.toArray=its'.toArray)(hv:Vals ys its')(hz:ys.length<=sizeLine) :
  Inv X pins σ (upd H l (.lst ys)) { s with heap:=s.heap.update l (Obj.mapSeq f),toks:=t' }:=by
 have q:=PySem.IsL.update e f
 rw [hf] at q
 refine I.write (x:=l) (e:=l) (by rw [hH]; exact trivial) (.inl rfl) (λ b' u hb hu=>(Heap.get?_update_other s.heap (Obj.mapSeq f) (Ne.symm hb)).trans hu) ⟨_,q⟩ ?_
 exact ⟨hz,its',_,hv,q⟩
theorem Inv.lnew {its:List Value}{t':Nat}(I:Inv X pins σ H s)(hv:Vals ys its)(hz:ys.length<=sizeLine) :
  Inv X pins σ (upd H s.heap.objs.size (.lst ys)) { s with heap:=s.heap.push { cls:=.type "list",data:=.seq its.toArray },toks:=t' } :=
 I.laid (λ _ _ q=>Heap.get?_push_of_some _ q) (Nat.le_refl _) ⟨hz,its,0,hv,Heap.get?_push_size _ rfl⟩
theorem Inv.fresh (I:Inv X pins σ H s):H s.heap.objs.size=none:=I.hok.fresh (Nat.le_refl _)
theorem Inv.lstM (I:Inv X pins σ H s)(hH:H l=some (.lst xs)):xs.length<=sizeLine/\∃ (its:List Value) (n:Nat),Vals xs its/\xs.length=its.length/\s.heap.get? l=some { cls:=.type "list",data:=.seq its.toArray n }:=by
 obtain ⟨z,its,n,r,e⟩:=I.hok l _ hH
 exact ⟨z,its,n,r,r.length,e⟩
end
section
variable {X:Cx}
noncomputable def rAppend:V->List V->Hp->VK->Prop:=λ x vs H Q=>∃ l xs y,x=.ref l/\vs=[y]/\H l=some (.lst xs)/\xs.length < sizeLine/\Q .non (upd H l (.lst (xs++[y])))
theorem mt_append:MtM X "list.append" rAppend:=by
 intro pins s σ H x vs v us Q I rx rv h
 obtain ⟨l,xs,y,rfl,rfl,hH,hz,q⟩:=h
 cases rx
 obtain ⟨u,rfl,ru⟩:=rv.one
 obtain ⟨z,its,n,r,hl,e⟩:=I.lstM hH
 refine call_meets F.slot_list_append ⟨_,e,rfl⟩ F.entry_list_append (F.args_list_append_2 _ _) (PySem.list_append l its.toArray n u (by rw [List.size_toArray]; omega)) ⟨e,?_⟩
 refine ⟨.non,_,I.lset (its':=its++[u]) hH e (by simp) (r.append (.cons ru .nil)) ?_,rfl,q⟩
 rw [List.length_append,List.length_singleton]
 omega
end
section
variable {prog:Program}{w:World}{A:Around}{E:Value->Shared->Prop}{s:Shared}
end
section
variable {X:Cx}
end
end L2
namespace Att
open PySem PySem.W PySem.Calls PyProof.Rows
theorem ints_of_wellAll {P:Params}{h:Heap}:∀ (ns:List Int) (vs:List Value),WellAll P h vs (ns.map WData.int)->IntsAre vs ns:=by
 intro ns
 induction ns with
 | nil =>
  intro vs w
  rw [List.map_nil] at w
  cases w
  exact .nil
 | cons n ns ih =>
  intro vs w
  rw [List.map_cons] at w
  cases w with
  | cons a b =>
   cases a
   exact .cons _ _ (ih _ b)
theorem script_of {l:OpenLaw}{n:Nat}(hn:l.most=some n){P:Params}{h:Heap}{args:List WData}{vals:List Value}
  (hpre:l.row.toRowW.claim.pre args=true)(hwl:WellAll P h vals args) :
  ∃ a vs ns,vals=[Value.ref a]/\args=[WData.list (ns.map WData.int)]/\h.get? a=some { cls:=.type "list",data:=.seq vs.toArray }/\IntsAre vs ns/\ns.length<=n:=by
 have hsh:WShape.hasAll [] args [.list .int]=true:=(pre_splitW hpre).1
 have hc:l.pre.holds [] { args:=args }=true:=(pre_splitW hpre).2
 obtain ⟨d,r,rfl,h1,h2⟩:=hasAllW_cons hsh
 obtain rfl:=hasAllW_nil h2
 obtain ⟨xs,rfl,h3⟩:=hasW_list h1
 obtain ⟨ns,rfl⟩:=items_int h3
 have hlen:ns.length<=n:=by
  unfold OpenLaw.pre at hc
  have h4:(WTm.not (.lt (.lit (.int (n:Int))) (.len (.arg 0)))).holds [] { args:=[.list (ns.map .int)] }=true:=by
   have h4:=(holds_andW hc).1
   rw [hn] at h4
   exact h4
  have h5:=condW_of h4 (w_not (w_lt w_lit (w_len_list (w_arg rfl))))
  rw [List.length_map] at h5
  refine Nat.le_of_not_lt λ q=>?_
  have q':(n:Int) < ((ns.length:Nat):Int):=by omega
  first
   | (rw [decide_eq_true q'] at h5; exact absurd h5 (by decide))
   | (simp at h5; omega)
 cases hwl with
 | cons w1 w2 =>
  cases w2
  cases w1 with
  | list ho hall=>exact ⟨_,_,ns,rfl,rfl,ho,ints_of_wellAll ns _ hall,hlen⟩
theorem post_true (l:OpenLaw)(args:List WData):l.row.toRowW.claim.post args (.bool true) args=true :=
 postW_of (r:=l.row.toRowW) (X:=(true == true))
  (show WShape.has [] (.bool true) .bool=true by first | rfl | decide | simp [WShape.has,WShape.arms,WShape.armsAll])
  (show (WTm.eq .res (.lit (.bool true))).value [] { args:=args,res:=some (.bool true),after:=args }=some (.bool (true == true)) from w_eq_bool (w_res rfl) w_lit) rfl
theorem attach_call {l:OpenLaw}{n:Nat}{q:Program}{loose:List Str}{XP:(Str->Option Value)->Heap->Prop}{YP:World->Heap->Prop}{d:DefRec}
  (hn:l.most=some n)(hdf:d.params.defaults=[])
  (call:∀ (w:World) (s₀ s₁:Shared) (mg mb:Str->Option Value) (fa:Addr) (o:Obj) (pm cd doc:Value) (a:Addr) (vs:List Value) (ns:List Int),
   Ground q loose [] XP w s₀ mg mb s₁.heap->YP w s₁.heap ->
   s₁.heap.get? fa=some o->o.data=.func (docDef d.name d.params d.body d.scope pm cd doc)->s₁.heap.CodeRec cd d.name->mg d.name=some (.ref fa) ->
   s₁.heap.get? a=some { cls:=.type "list",data:=.seq vs.toArray }->IntsAre vs ns->ns.length<=n->s₁.gens = #[] ->
   codeAny (model l.prog w) callerA (.call (.ref fa) ⟨[.ref a],[]⟩) (λ r s'=>r=.ok (.ret (.bool true))/\OldK s₁.heap s'.heap/\s'.os=s₁.os/\AllBare s'.gens) s₁) :
  WalkO q loose XP YP l.row.toRowW d [] (λ f vs=>PySem.call f vs):=by
 intro w s₀ s₁ mg mb G Y fa o pm cd doc dV kV ho hd hcd hD hmg hg args vals as hpre hlay hrd hwl hlo
 obtain rfl:dV=.none:=Dflts.none hD hdf
 obtain rfl:kV=.none:=Dflts.noKw hD
 obtain ⟨a,vs,ns,rfl,rfl,hobj,hints,hlen⟩:=script_of hn hpre hwl
 refine enter_call (codeAny_mono (call w s₀ s₁ mg mb fa o pm cd doc a vs ns G Y ho (fd_plain hd) hcd hmg hobj hints hlen hg) λ r s' hq=>?_)
 obtain ⟨rfl,h2,h3,h4⟩:=hq
 exact ⟨.inl ⟨.bool true,.bool true,[],rfl,λ _=>rfl,.bool true,post_true l _,λ _=>⟨List.Pairwise.nil,λ _ hm=>(nomatch hm)⟩⟩,h2,h3,h4⟩
section
variable {prog:Program}{w:World}{A:Around}{E:Value->Shared->Prop}{s:Shared}{K:Frag}
end
end Att
namespace L2
open PySem PySem.Spec PyProof.Rows
theorem vals_ints:∀ {vs:List Value} {ns:List Int},IntsAre vs ns->Vals (ns.map V.int) vs
 | _,_,.nil=>.nil
 | _,_,.cons n t h=>.cons ⟨t,rfl⟩ (vals_ints h)
noncomputable def Only (H:Hp):Prop:=∀ b,H b=none\/∃ o xs,H b=some (.frz o (.lst xs))
theorem law_call {P:Program}{w:World}{K:PySem.W.Frag}{mg mb:Str->Option Value}{CX:CXT}{k:Nat}{fa a:Addr}{fd:FuncData}{x:Str}{sp:Sp}{s₁:Shared}{vs:List Value}{ns:List Int}
  (KX:K.In s₁.heap)(hns:s₁.heap.Ns mainGlobals mg)(hb:s₁.heap.Ns builtinsNs mb)(hbb:∀ x:Str,x ≠ "__name__" -> mb x=bootBuiltins x)(hlim:s₁.heap.NoLimit)(hbm:BM mg s₁.heap)(hg:s₁.gens = #[])
  (ha:s₁.heap.get? a=some { cls:=.type "list",data:=.seq vs.toArray })(hi:IntsAre vs ns)(hl:ns.length<=sizeLine)(hr:Room k callerA)
  (F:∀ base:Heap,K.In base->base.Ns mainGlobals mg->FnOk P w K mg base CX k fa fd [x] sp)(hbind:∀ (s:Shared) (u:Value),BindsTo s fd ⟨[u],[]⟩ [(x,u)])
  (hsp:∀ H:Hp,Only H->SqL K H a (ns.map V.int)->sp [.ref a] H (λ v _=>v=.bl true) λ _ _ _=>False)
  (hCX:∀ H e s',CX [] H s₁ (λ _ _ _=>False) e s'->False) :
  codeAny (model P w) callerA (.call (.ref fa) ⟨[.ref a],[]⟩) (λ r s'=>r=.ok (.ret (.bool true))/\OldK s₁.heap s'.heap/\s'.os=s₁.os/\AllBare s'.gens) s₁:=by
 have rv:=vals_ints hi
 have lenV:=hi.length
 have core:∀ H:Hp,Only H->SqL K H a (ns.map V.int)->HOk P w H s₁.heap->(∀ b,H b≠none->b=a)->(H a≠none->K.lookup a=none) ->
   codeAny (model P w) callerA (.call (.ref fa) ⟨[.ref a],[]⟩) (λ r s'=>r=.ok (.ret (.bool true))/\OldK s₁.heap s'.heap/\s'.os=s₁.os/\AllBare s'.gens) s₁:=by
  intro H hO hS hok hA hK
  have base_of:∀ {b:Addr} {o:Obj},s₁.heap.get? b=some o->H b=none->(hidT s₁.heap H).get? b=some o:=λ e n=>hidT_get e n
  have noA:∀ {b:Addr} {o:Obj} {es:Array DictEntry} {ep:Nat},s₁.heap.get? b=some o->o.data=.dict es ep->H b=none:=λ {b o es ep} e d=>by
   cases q:H b with
   | none=>rfl
   | some u =>
    have e':b=a:=hA b (by rw [q]; simp)
    subst e'
    rw [ha] at e; cases e
    have d':Data.seq vs.toArray _=Data.dict es ep:=d
    cases d'
  have nsK:∀ {b:Addr} {m:Str->Option Value},s₁.heap.Ns b m->(hidT s₁.heap H).Ns b m:=λ {b m} ⟨o,es,ep,e,d,r⟩=>⟨o,es,ep,base_of e (noA e d),d,r⟩
  have hKb:K.In (hidT s₁.heap H):=λ b o e=>base_of (KX b o e) (by
   cases q:H b with
   | none=>rfl
   | some u =>
    have e':b=a:=hA b (by rw [q]; simp)
    subst e'
    rw [hK (by rw [q]; simp)] at e; cases e)
  have hM:Mod K mg (hidT s₁.heap H):=⟨hKb,nsK hns,⟨mb,nsK hb,hbb⟩,let ⟨mc,h1,h2⟩:=hlim; ⟨mc,nsK h1,h2⟩,let ⟨⟨b,o,h1,h2,h3,h4,h5,h6⟩,mm,hmm⟩:=hbm; ⟨⟨b,o,h1,h2,base_of h3 (by cases q:H b with | none=>rfl | some u=>(have e':b=a:=hA b (by rw [q]; simp); subst e'; rw [ha] at h3; cases h3; cases h6)),h4,h5,h6⟩,mm,nsK hmm⟩⟩
  have e0:Env0 P w K mg (hidT s₁.heap H) callerA [] s₁ H:=⟨rfl,hM,λ b o e=>of_hidT e,Nat.le_of_eq (hidT_size _ _),trivial,λ b hb=>absurd (show b∈([]:List Addr) from hb) (by simp),hok,.of_eq hg⟩
  refine codeAny_mono ((F _ hKb (nsK hns)).run callerA [] s₁ H ⟨[.ref a],[]⟩ [.ref a] [.ref a] _ _ hr e0 (hbind s₁ (.ref a)) (.cons rfl .nil) (hsp H hO hS)) λ r s' h=>?_
  cases r with
  | error e=>exact (hCX H e s' h).elim
  | ok fl =>
   cases fl with
   | next=>exact False.elim h
   | brk=>exact False.elim h
   | cont=>exact False.elim h
   | ret u =>
    obtain ⟨v,H',os,bare,un,hok',r',q⟩:=h
    have q':v=.bl true:=q
    subst q'
    obtain rfl:u=Value.bool true:=r'
    refine ⟨rfl,OldK.of_keep λ b o e=>?_,os,bare⟩
    cases q:H b with
    | none=>exact un.keep b o e q (by intro z; exact absurd (show b∈([]:List Addr) from z) (by simp)) (by simp)
    | some u =>
     rcases hO b with z | ⟨ob,xs,z⟩
     ·rw [q] at z; cases z
     ·have z2:=un.frzs b ob _ z
      obtain ⟨e1,_⟩:=hok b _ z
      obtain ⟨e2,_⟩:=hok' b _ z2
      rw [e] at e1; cases e1
      exact e2
 cases hk:K.lookup a with
 | some o =>
  have e:=KX a o hk
  rw [ha] at e
  cases e
  refine core (λ _=>none) (λ _=>.inl rfl) (.inr ⟨_,vs.toArray,_,hk,rfl,rfl,rfl,by rw [List.size_toArray,lenV]; exact hl,by simpa using rv⟩) (λ b u z=>by have z':(none:Option HO)=some u:=z; cases z') (λ b z=>absurd rfl z) λ z=>absurd rfl z
 | none =>
  refine core (λ b=>if b=a then some (.frz { cls:=.type "list",data:=.seq vs.toArray } (.lst (ns.map V.int))) else none) (λ b=>?_) (.inl (.inr ⟨{ cls:=.type "list",data:=.seq vs.toArray },if_pos rfl⟩)) (λ b u z=>?_) (λ b z=>?_) λ _=>hk
  ·by_cases hb:b=a
   ·exact .inr ⟨_,_,if_pos hb⟩
   ·exact .inl (if_neg hb)
  ·by_cases hb:b=a
   ·have z':=(if_pos hb).symm.trans z
    cases z'
    subst hb
    exact ⟨ha,by rw [List.length_map]; exact hl,vs,_,rv,ha⟩
   ·have z':=(if_neg hb).symm.trans z
    cases z'
  ·by_cases hb:b=a
   ·exact hb
   ·exact absurd (if_neg hb) z
end L2
namespace L2
open PySem PySem.Spec PyProof.Rows
theorem walk_of {l:PySem.W.OpenLaw}{n k:Nat}{q:Program}{loose:List Str}{XP:(Str->Option Value)->Heap->Prop}{YP:World->Heap->Prop}{d:DefRec}{K:Params->PySem.W.Frag}{CX:World->CXT}{sp:World->Sp}{x:Str}
  (hq:importsNone q=true)(hn:l.most=some n)(hn2:n<=sizeLine)(hdf:d.params.defaults=[])(hr:Room k callerA)
  (hY:∀ (w:World) (h:Heap),YP w h->(K w.params).In h)
  (F:∀ (w:World) (mg:Str->Option Value) (fa:Addr) (h:Heap),(K w.params).In h->h.Ns mainGlobals mg->mg d.name=some (.ref fa) ->
   ∃ fd:FuncData,(∀ (s:Shared) (u:Value),BindsTo s fd ⟨[u],[]⟩ [(x,u)]) /\
    ∀ base:Heap,(K w.params).In base->base.Ns mainGlobals mg->FnOk l.prog w (K w.params) mg base (CX w) k fa fd [x] (sp w))
  (hsp:∀ (w:World) (H:Hp) (a:Addr) (ns:List Int),ns.length<=n->Only H->SqL (K w.params) H a (ns.map V.int)->sp w [.ref a] H (λ v _=>v=.bl true) λ _ _ _=>False)
  (hCX:∀ (w:World) (H:Hp) (s:Shared) (e:Value) (s':Shared),CX w [] H s (λ _ _ _=>False) e s'->False) :
  PySem.W.WalkO q loose XP YP l.row.toRowW d [] (λ f vs=>PySem.call f vs):=by
 refine Att.attach_call hn hdf λ w s₀ s₁ mg mb fa o pm cd doc a vs ns G Y ho hd hcd hmg hobj hints hlen hg=>?_
 have KX:=hY w _ Y
 obtain ⟨fd,hb,hF⟩:=F w mg fa _ KX G.T.g hmg
 exact law_call KX G.T.g G.T.b G.T.builtins G.T.nolimit (let ⟨bm,ob,b1,b2,b3,b4,b5,b6⟩:=G.T.bmain; let ⟨mm,hmm,_⟩:=(G.T.seer hq).mods; ⟨⟨bm,ob,b1,b2,b3,b4,b5,b6⟩,mm,hmm⟩) hg hobj hints (Nat.le_trans hlen hn2) hr hF hb (λ H hO hS=>hsp w H a ns hlen hO hS) λ H e s'=>hCX w H s₁ e s'
end L2
namespace L2
open PySem PySem.Spec PyProof.Rows
noncomputable def defArgs (s:Stmt):Arguments:=match s with
 | .FunctionDef _ a _ _ _ _ _ _ _ _=>a
 | _=>{ posonlyargs:=[],args:=[],vararg:=none,kwonlyargs:=[],kw_defaults:=[],kwarg:=none,defaults:=[] }
noncomputable def defBody (s:Stmt):List Stmt:=match s with
 | .FunctionDef _ _ b _ _ _ _ _ _ _=>b
 | _=>[]
noncomputable def defScope (s:Stmt):Scope:=match s with
 | .FunctionDef _ _ _ _ _ _ sc _ _ _=>sc
 | _=>{ kind:=.function,names:=[],isGenerator:=false,isCoroutine:=false }
noncomputable abbrev CX0:CXT:=λ _ _ _ _ _ _=>False
noncomputable abbrev E0:XK:=λ _ _ _=>False
theorem pass0 {X:Cx}:Passes CX0 X E0:=λ _ _ _ _ _ _ _ h=>h.elim
structure Fun (K:PySem.W.Frag)(x qual:Str)(st:Stmt)(f:Addr)(fd:FuncData):Prop where
 ex:∃ (oc:Value) (od:Option Addr) (kV doc pm:Value) (an:Option Addr) (cdv ct:Value) (osl:Array (Option Value)),
  fd=PySem.W.fnOf x qual (defArgs st) (defBody st) (defScope st) .none kV doc pm an cdv ct/\K.lookup f=some ⟨oc,od,.func fd,osl⟩/\PySem.W.codeIn K cdv qual=true
 kp:PySem.W.keepIn K (.ref f)=true
section
variable {P:Program}{w:World}{K:PySem.W.Frag}{mg:Str->Option Value}{base:Heap}
theorem Fun.ok {x qual:Str}{st:Stmt}{f:Addr}{fd:FuncData}{N ps:List Str}{k:Nat}{sp:Sp}(F:Fun K x qual st f fd)(S:FnScope N ps (defScope st))(len:∀ vs H Q E,sp vs H Q E->vs.length=ps.length)
  (hbody:∀ (cdv:Value) (A:Around) (outer:List Env) (s:Shared) (H:Hp) (vs:List V) (Q:VK) (E:XK),Room k (A.deeper (envOfC qual (defScope st) s.heap.objs.size f cdv))->sp vs H Q E ->
   ∃ t,PSs (cxOf CX0 P w K mg base N qual (defScope st) f cdv A outer s H E).nox (defBody st) t/\t { nx:=λ _ H'=>Q .non H',rt:=Q } (start N vs) H):FnOk P w K mg base CX0 (k+1) f fd ps sp:=by
 obtain ⟨oc,od,kV,doc,pm,an,cdv,ct,osl,rfl,lk,hcd⟩:=F.ex
 refine fn_of lk hcd S len λ A outer s H vs Q E hr hsp=>?_
 obtain ⟨t,h,q⟩:=hbody cdv A outer s H vs Q E hr hsp
 exact ⟨t,h.nox,q⟩
theorem Fun.binds {x qual:Str}{st:Stmt}{f:Addr}{fd:FuncData}{ps:List Str}(F:Fun K x qual st f fd)
  (h:∀ (kV doc pm:Value) (an:Option Addr) (cdv ct:Value) (us:List Value),us.length=ps.length->bindArgs (PySem.W.fnOf x qual (defArgs st) (defBody st) (defScope st) .none kV doc pm an cdv ct) ⟨us,[]⟩=pure (ps.zip us)):Binds K fd ps []:=by
 obtain ⟨oc,od,kV,doc,pm,an,cdv,ct,osl,rfl,lk,hcd⟩:=F.ex
 exact .all (h kV doc pm an cdv ct)
theorem fun_mk {x qual:Str}{st:Stmt}{f:Addr}{oc:Value}{od an:Option Addr}{osl:Array (Option Value)}{kV doc pm cdv ct:Value}(l:K.lookup f=some ⟨oc,od,.func (PySem.W.fnOf x qual (defArgs st) (defBody st) (defScope st) .none kV doc pm an cdv ct),osl⟩)
  (c:PySem.W.codeIn K cdv qual=true)(k:PySem.W.keepIn K (.ref f)=true):Fun K x qual st f (PySem.W.fnOf x qual (defArgs st) (defBody st) (defScope st) .none kV doc pm an cdv ct):=⟨⟨oc,od,kV,doc,pm,an,cdv,ct,osl,rfl,l,c⟩,k⟩
end
theorem hu_of {A:Around}{k:Nat}(hr:Room k A):A.units+1 < cLine:=Nat.lt_of_le_of_lt (Nat.add_le_add_left (by decide:1<=64) _) hr.units
section
variable {X:Cx}
theorem pv (i:Nat){x:Str}{pos:Pos}(hN:X.N[i]? = some x:=by rfl)(hv:Vis X.env.scope x:=by first | exact Or.inl rfl | exact Or.inr (Or.inl rfl) | exact Or.inr (Or.inr rfl))(hd:(x == ("__debug__" : Str))=false:=by decide)
  (hcd:(x == ("__classdict__" : Str))=false:=by decide):PE X (.Name x pos) (tVar i):=pe_var hN hv hd hcd
end
theorem iteF {A B:Prop}(h:B):if false=true then A else B:=by
 rw [if_neg Bool.false_ne_true]
 exact h
theorem iteT {A B:Prop}(h:A):if true=true then A else B:=by
 rw [if_pos rfl]
 exact h
noncomputable def Same (H H':Hp):Prop:=∀ b o,H b=some o->H' b=some o
theorem Same.refl (H:Hp):Same H H:=λ _ _ h=>h
theorem Same.trans {H H1 H2:Hp}(a:Same H H1)(b:Same H1 H2):Same H H2:=λ c o h=>b c o (a c o h)
theorem Same.free {H H':Hp}(e:Same H H'){l:Addr}(h:H' l=Option.none):H l=Option.none:=by
 cases q:H l with
 | none=>rfl
 | some o =>
  rw [e l o q] at h
  cases h
theorem Same.seq {K:PySem.W.Frag}{H H':Hp}{a:Addr}{xs:List V}(e:Same H H')(h:SqL K H a xs):SqL K H' a xs:=by
 rcases h with (h | ⟨o,h⟩) | h
 ·exact .inl (.inl (e _ _ h))
 ·exact .inl (.inr ⟨o,e _ _ h⟩)
 ·exact .inr h
end L2
namespace L2
open PySem PySem.Spec PyProof.Rows
section
variable {κ:Type}[DecidableEq κ]
noncomputable def valV (kvs:List (κ×V))(k:κ):Option V:=(kvs.find? λ kv=>decide (kv.1=k)).map (·.2)
noncomputable def putK (kvs:List (κ×V))(k:κ)(v:V):List (κ×V) :=
 if (kvs.any λ kv=>decide (kv.1=k))=true then kvs.map (λ kv=>if kv.1=k then (kv.1,v) else kv) else kvs++[(k,v)]
noncomputable def dropK (kvs:List (κ×V))(k:κ):List (κ×V):=kvs.filter λ kv=>decide (kv.1≠k)
theorem valV_pos {p:κ×V}{r:List (κ×V)}{k:κ}(e:p.1=k):valV (p :: r) k=some p.2:=by simp [valV,List.find?_cons,e]
theorem valV_neg {p:κ×V}{r:List (κ×V)}{k:κ}(e:¬ p.1=k):valV (p :: r) k=valV r k:=by simp [valV,List.find?_cons,e]
theorem valV_any (k:κ):∀ kvs:List (κ×V),(kvs.any λ kv=>decide (kv.1=k))=(valV kvs k).isSome
 | []=>rfl
 | p :: r=>by
  rw [List.any_cons]
  by_cases e:p.1=k
  ·simp only [valV_pos e,decide_eq_true e,Bool.true_or,Option.isSome_some]
  ·rw [valV_neg e,decide_eq_false e,Bool.false_or]; exact valV_any k r
theorem length_putK (kvs:List (κ×V))(k:κ)(v:V):(putK kvs k v).length<=kvs.length+1:=by
 unfold putK
 split
 ·rw [List.length_map]; omega
 ·rw [List.length_append,List.length_cons,List.length_nil]; omega
theorem putK_new {kvs:List (κ×V)}{k:κ}(v:V)(h:valV kvs k=none):putK kvs k v=kvs++[(k,v)]:=by
 unfold putK
 rw [valV_any,h]
 exact if_neg (by decide)
theorem RelO.isSome_eq {o:Option V}{u:Option Value}(r:RelO o u):o.isSome=u.isSome:=by
 cases o with
 | none=>cases u with
  | none=>rfl
  | some _=>exact (show False from r).elim
 | some _=>cases u with
  | none=>exact (show False from r).elim
  | some _=>rfl
theorem RelO.getD {o:Option V}{u:Option Value}{d:V}{d':Value}(r:RelO o u)(rd:RelV d d'):RelV (o.getD d) (u.getD d'):=by
 cases o with
 | none=>cases u with
  | none=>exact rd
  | some _=>exact (show False from r).elim
 | some _=>cases u with
  | none=>exact (show False from r).elim
  | some _=>exact r
theorem KV.val {kvs:List (κ×V)}{vs:List (κ×Value)}(r:KV kvs vs)(k:κ):RelO (valV kvs k) (valueAt vs k):=by
 unfold KV at r
 induction r with
 | nil=>exact True.intro
 | @cons p q ps qs h t ih =>
  obtain ⟨h1,h2⟩:=h
  by_cases e:p.1=k
  ·have e':q.1=k:=h1.symm.trans e
   have b:valueAt (q :: qs) k=some q.2:=by simp [valueAt,List.find?_cons,e']
   rw [valV_pos e,b]; exact h2
  ·have e':¬ q.1=k:=λ z=>e (h1.trans z)
   have b:valueAt (q :: qs) k=valueAt qs k:=by simp [valueAt,List.find?_cons,e']
   rw [valV_neg e,b]; exact ih
theorem KV.any {kvs:List (κ×V)}{vs:List (κ×Value)}(r:KV kvs vs)(k:κ):(kvs.any λ kv=>decide (kv.1=k))=vs.any λ kv=>decide (kv.1=k):=by
 unfold KV at r
 induction r with
 | nil=>rfl
 | cons h t ih=>rw [List.any_cons,List.any_cons,ih,h.1]
theorem KV.repl {kvs:List (κ×V)}{vs:List (κ×Value)}(r:KV kvs vs)(k:κ){y:V}{u:Value}(ry:RelV y u) :
  KV (kvs.map λ kv=>if kv.1=k then (kv.1,y) else kv) (vs.map λ kv=>if kv.1=k then (kv.1,u) else kv):=by
 unfold KV at r ⊢
 induction r with
 | nil=>exact .nil
 | @cons p q ps qs h t ih =>
  rw [List.map_cons,List.map_cons]
  refine .cons ?_ ih
  obtain ⟨h1,h2⟩:=h
  by_cases e:p.1=k
  ·rw [if_pos e,if_pos (h1.symm.trans e)]; exact ⟨h1,ry⟩
  ·rw [if_neg e,if_neg (λ z=>e (h1.trans z))]; exact ⟨h1,h2⟩
theorem KV.put {kvs:List (κ×V)}{vs:List (κ×Value)}(r:KV kvs vs)(k:κ){y:V}{u:Value}(ry:RelV y u):KV (putK kvs k y) (stored vs k u):=by
 unfold putK stored
 rw [r.any k]
 by_cases e:(vs.any λ kv=>decide (kv.1=k))=true
 ·rw [if_pos e,if_pos e]; exact r.repl k ry
 ·rw [if_neg e,if_neg e]; exact Paired.snoc r ⟨rfl,ry⟩
theorem KV.drop {kvs:List (κ×V)}{vs:List (κ×Value)}(r:KV kvs vs)(k:κ):KV (dropK kvs k) (without vs k):=by
 unfold KV at r ⊢
 unfold dropK without
 induction r with
 | nil=>exact .nil
 | @cons p q ps qs h t ih =>
  obtain ⟨h1,h2⟩:=h
  rw [List.filter_cons,List.filter_cons]
  by_cases e:p.1=k
  ·have a:¬ decide (p.1≠k)=true:=by simp [e]
   have b:¬ decide (q.1≠k)=true:=by simp [h1.symm.trans e]
   rw [if_neg a,if_neg b]; exact ih
  ·have e':¬ q.1=k:=λ z=>e (h1.trans z)
   have a:decide (p.1≠k)=true:=by simp [e]
   have b:decide (q.1≠k)=true:=by simp [e']
   rw [if_pos a,if_pos b]; exact .cons ⟨h1,h2⟩ ih
theorem KV.keys {kvs:List (κ×V)}{vs:List (κ×Value)}(r:KV kvs vs):kvs.map (·.1)=vs.map (·.1):=by
 unfold KV at r
 induction r with
 | nil=>rfl
 | cons h t ih=>rw [List.map_cons,List.map_cons,ih,h.1]
theorem KV.length {kvs:List (κ×V)}{vs:List (κ×Value)}(r:KV kvs vs):kvs.length=vs.length:=Paired.length r
end
theorem kV_is {P:Program}{w:World}{k:Key}{u:Value}(r:RelV (kV k) u):(mixKind P w).is k u=true:=by
 cases k with
 | inl i=>obtain ⟨t,e⟩:=(show ∃ t,u=Value.int i t from r); subst e; exact mixKind_int P w i t
 | inr x=>obtain ⟨t,e⟩:=(show ∃ t,u=Value.str x t from r); subst e; exact mixKind_str P w x t
theorem items_are {P:Program}{w:World}:∀ {ks:List Key} {us:List Value},Vals (ks.map kV) us->ItemsAre (mixKind P w) ks us
 | [],_,r=>by rw [List.map_nil] at r; cases r; exact .nil
 | k :: ks,_,r=>by
  rw [List.map_cons] at r
  cases r with
  | cons h t=>exact .cons (kV_is h) (items_are t)
noncomputable abbrev KT (H:Hp):List (List Key×V)->List (List Key×Addr×Value)->Prop:=Paired λ p q=>p.1=q.1/\H q.2.1=some (.tup (p.1.map kV))/\RelV p.2 q.2.2
theorem KT.val {H:Hp}{kvs:List (List Key×V)}{xs:List (List Key×Addr×Value)}(r:KT H kvs xs)(k:List Key):RelO (valV kvs k) ((atKey xs k).map (·.2)):=by
 induction r with
 | nil=>exact True.intro
 | @cons p q ps qs h t ih =>
  obtain ⟨h1,_,h2⟩:=h
  by_cases e:p.1=k
  ·have e':q.1=k:=h1.symm.trans e
   have b:atKey (q :: qs) k=some q.2:=by simp [atKey,List.find?_cons,e']
   rw [valV_pos e,b]; exact h2
  ·have e':¬ q.1=k:=λ z=>e (h1.trans z)
   have b:atKey (q :: qs) k=atKey qs k:=by simp [atKey,List.find?_cons,e']
   rw [valV_neg e,b]; exact ih
theorem KT.repl {H:Hp}{kvs:List (List Key×V)}{xs:List (List Key×Addr×Value)}(r:KT H kvs xs)(k:List Key){y:V}{u:Value}(ry:RelV y u) :
  KT H (kvs.map λ kv=>if kv.1=k then (kv.1,y) else kv) (xs.map (putAt k u)):=by
 induction r with
 | nil=>exact .nil
 | @cons p q ps qs h t ih =>
  rw [List.map_cons,List.map_cons]
  refine .cons ?_ ih
  obtain ⟨h1,h2,h3⟩:=h
  unfold putAt
  by_cases e:p.1=k
  ·rw [if_pos e,if_pos (h1.symm.trans e)]; exact ⟨h1,h2,ry⟩
  ·rw [if_neg e,if_neg (λ z=>e (h1.trans z))]; exact ⟨h1,h2,h3⟩
theorem KT.put {H:Hp}{kvs:List (List Key×V)}{xs:List (List Key×Addr×Value)}(r:KT H kvs xs)(k:List Key){b:Addr}{y:V}{u:Value}(hb:H b=some (.tup (k.map kV)))(ry:RelV y u) :
  KT H (putK kvs k y) (storedH xs k b u):=by
 have e:(kvs.any λ kv=>decide (kv.1=k))=(atKey xs k).isSome:=by
  rw [valV_any,(r.val k).isSome_eq,Option.isSome_map]
 unfold putK storedH
 rw [e]
 by_cases q:(atKey xs k).isSome=true
 ·rw [if_pos q,if_pos q]; exact r.repl k ry
 ·rw [if_neg q,if_neg q]; exact Paired.snoc r ⟨rfl,hb,ry⟩
theorem KT.keeps {H H':Hp}{kvs:List (List Key×V)}{xs:List (List Key×Addr×Value)}(r:KT H kvs xs)(ht:∀ b ys,H b=some (.tup ys)->H' b=some (.tup ys)):KT H' kvs xs :=
 Paired.mapP r λ _ _ z=>⟨z.1,ht _ _ z.2.1,z.2.2⟩
section
variable {P:Program}{w:World}{H:Hp}{h:Heap}{a:Addr}
theorem rd_of {u:HO}(ok:HOk P w H h)(e:Rd H a u):ObjOk P w H h a u:=e.ok ok
theorem dk_rd {kvs:List (Key×V)}(ok:HOk P w H h)(e:Rd H a (.dK kvs)):kvs.length<=sizeLine/\(a == sysModules)=false/\∃ vs,KV kvs vs/\h.DictOf (mixKind P w) a vs :=
 show ObjOk P w H h a (.dK kvs) from rd_of ok e
theorem dk_of {kvs:List (Key×V)}(ok:HOk P w H h)(e:H a=some (.dK kvs)):kvs.length<=sizeLine/\(a == sysModules)=false/\∃ vs,KV kvs vs/\h.DictOf (mixKind P w) a vs:=dk_rd ok (.inl e)
theorem key_of {ks:List Key}(ok:HOk P w H h)(e:H a=some (.tup (ks.map kV))):(tupleKind (mixKind P w)).is h ks a:=by
 obtain ⟨_,its,r,o,h1,h2,_,n,h3⟩:=(show ObjOk P w H h a (.tup (ks.map kV)) from ok a _ e)
 exact ⟨o,its.toArray,n,h1,h2,h3,by simpa using items_are r⟩
theorem dt_rd {kvs:List (List Key×V)}(ok:HOk P w H h)(e:Rd H a (.dT kvs)):kvs.length<=sizeLine/\(a == sysModules)=false /\
  ∃ xs,KT H kvs xs/\h.DictOfH (tupleKind (mixKind P w)) a xs:=by
 obtain ⟨z,y,xs,r,o,es,ep,h1,h2,h3,h4,h5⟩:=(show ObjOk P w H h a (.dT kvs) from rd_of ok e)
 refine ⟨z,y,xs,r,o,es,ep,h1,h2,h3,h4,λ x hx=>?_,h5⟩
 have all:∀ {l:List (List Key×V)} {m:List (List Key×Addr×Value)},KT H l m->∀ x∈m,(tupleKind (mixKind P w)).is h x.1 x.2.1:=by
  intro l m q
  induction q with
  | nil=>intro x hx; exact nomatch hx
  | @cons p q ps qs hq t ih =>
   intro x hx
   rcases List.mem_cons.mp hx with e | hx
   ·subst e
    exact key_of ok (by rw [<- hq.1]; exact hq.2.1)
   ·exact ih x hx
 exact all r x hx
end
noncomputable def DGet (H:Hp)(a:Addr)(y:V)(r:Option V):Prop :=
 (∃ kvs k,Rd H a (.dK kvs)/\y=kV k/\r=valV kvs k)\/∃ kvs k b,Rd H a (.dT kvs)/\y=.ref b/\H b=some (.tup (k.map kV))/\r=valV kvs k
noncomputable def DPut (H:Hp)(a:Addr)(y v:V)(H':Hp):Prop :=
 (∃ kvs k,H a=some (.dK kvs)/\y=kV k/\kvs.length < sizeLine/\H'=upd H a (.dK (putK kvs k v))) \/
 ∃ kvs k b,H a=some (.dT kvs)/\y=.ref b/\H b=some (.tup (k.map kV))/\kvs.length < sizeLine/\H'=upd H a (.dT (putK kvs k v))
theorem DGet.k {H:Hp}{a:Addr}{kvs:List (Key×V)}{k:Key}(e:H a=some (.dK kvs)):DGet H a (kV k) (valV kvs k):=.inl ⟨kvs,k,.inl e,rfl,rfl⟩
theorem DGet.t {H:Hp}{a b:Addr}{kvs:List (List Key×V)}{k:List Key}(e:H a=some (.dT kvs))(eb:H b=some (.tup (k.map kV))):DGet H a (.ref b) (valV kvs k):=.inr ⟨kvs,k,b,.inl e,rfl,eb,rfl⟩
theorem DPut.k {H:Hp}{a:Addr}{kvs:List (Key×V)}{k:Key}{v:V}(e:H a=some (.dK kvs))(hl:kvs.length < sizeLine):DPut H a (kV k) v (upd H a (.dK (putK kvs k v))):=.inl ⟨kvs,k,e,rfl,hl,rfl⟩
theorem DPut.t {H:Hp}{a b:Addr}{kvs:List (List Key×V)}{k:List Key}{v:V}(e:H a=some (.dT kvs))(eb:H b=some (.tup (k.map kV)))(hl:kvs.length < sizeLine) :
  DPut H a (.ref b) v (upd H a (.dT (putK kvs k v))):=.inr ⟨kvs,k,b,e,rfl,eb,hl,rfl⟩
section
variable {X:Cx}{pins:List (Addr×Obj)}{σ:St}{H:Hp}{s:Shared}{a:Addr}{y v:V}{u r:Value}{o:Option V}{A:Around}{E:Value->Shared->Prop}
theorem Inv.big (I:Inv X pins σ H s):sysModules < s.heap.objs.size:=by
 have h:mainGlobals < s.heap.objs.size:=(I.mod.glob.keeps I.bk).lt
 exact Nat.lt_trans (by decide) h
theorem d_write {h':Heap}{t':Nat}{ob:HO}(I:Inv X pins σ H s)(mu:Mut (H a))(hs:Heap.SameBut a s.heap h')(he:∃ q,h'.get? a=some q)(new:ObjOk X.prog X.w (upd H a ob) h' a ob) :
  Inv X pins σ (upd H a ob) { s with heap:=h',toks:=t' } :=
 I.write (x:=a) (e:=a) mu (.inl rfl) (λ b q hb z=>(hs.2 b hb).trans z) he new
theorem dk_new {P:Program}{w:World}{H':Hp}{h':Heap}{kvs:List (Key×V)}{vs:List (Key×Value)}(z:kvs.length<=sizeLine)(hd:(a == sysModules)=false)(rel:KV kvs vs)(dd:h'.DictOf (mixKind P w) a vs) :
  ObjOk P w H' h' a (.dK kvs):=⟨z,hd,vs,rel,dd⟩
end
section
variable {X:Cx}{pins:List (Addr×Obj)}{σ:St}{H:Hp}{s:Shared}{a:Addr}{kvs:List (Key×V)}{k:Key}{u:Value}{A:Around}{E:Value->Shared->Prop}
end
noncomputable def NoSl (i:Expr):Prop:=∀ ov iv,subscripted i false ov iv=operate [ov,iv] (getItem ov iv)
theorem subD_of {prog:Program}{w:World}{A:Around}{E:Value->Shared->Prop}{s:Shared}{env:Env}{value slice:Expr}{pos:Pos}{T id:String}{Q:Value->Shared->Prop}
  (hl:typeLookup (.type T) "__getitem__" = pure (some (.builtin id)))(hs:NoSl slice)
  (h:wpAny (model prog w) A (eval value env) (λ o s₁=>wpAny (model prog w) A (eval slice env) (λ i s₂=>s₂.TypeIs o T/\wpAny (model prog w) A (getItem o i) Q E s₂) E s₁) E s) :
  wpAny (model prog w) A (eval (.Subscript value slice pos) env) Q E s:=by
 refine Subscript_ (wpAny_mono h (λ o s₁ h₁=>wpAny_mono h₁ (λ i s₂ h₂=>?_) λ _ _ x=>x) λ _ _ x=>x)
 obtain ⟨hT,h₂⟩:=h₂
 unfold subscriptTail
 refine wpAny_bind ?_
 rw [getitemInPython_of_ne hT.not_modules]
 refine wpAny_bind (wpAny_specialOf hT hl ?_)
 have fin:wpAny (model prog w) A (subscripted slice false o i) (λ r s₃=>wpAny (model prog w) A (letTemporaryGo value o r >>= λ _=>pure r) Q E s₃) E s₂:=by
  rw [hs o i]
  exact wpAny_operating (wpAny_mono h₂ (λ r s₃ h₃=>wpAny_bind (wpAny_letTemporaryGo (wpAny_pure h₃))) λ _ _ x=>x)
 first
  | exact wpAny_pure (wpAny_bind fin)
  | exact wpAny_bind (wpAny_pure (wpAny_bind fin))
  | exact wpAny_bind fin
section
variable {X:Cx}{o i e value:Expr}{pos pos' tpos:Pos}{td ty tv:TE}
end
theorem dk_empty {P:Program}{w:World}{H:Hp}(h:Heap)(hb:sysModules < h.objs.size):ObjOk P w H (h.push { cls:=.type "dict",data:=.dict #[] }) h.objs.size (.dK []) :=
 ⟨Nat.zero_le _,beq_eq_false_iff_ne.mpr (Ne.symm (Nat.ne_of_lt hb)),[],.nil,Heap.DictOf.new h⟩
noncomputable def tDNewK:TE:=λ _ H Q=>∀ p,H p=none->Q (.ref p) (upd H p (.dK []))
section
variable {X:Cx}{pos:Pos}
theorem pe_dnewK:PE X (.Dict [] [] pos) tDNewK:=λ pins s σ H Q I h =>
 wpAny_Dict_empty ⟨.ref s.heap.objs.size,_,I.laid (a:=s.heap.objs.size) (o:=.dK []) (t':=s.toks) (λ _ _ q=>Heap.get?_push_of_some _ q) (Nat.le_refl _) (dk_empty s.heap I.big),rfl,h _ (I.hok.fresh (Nat.le_refl _))⟩
end
noncomputable def tPairs:List (TE×TE)->St->Hp->(List (V×V)->Hp->Prop)->Prop
 | [],_,H,Q=>Q [] H
 | (tk,tv) :: r,σ,H,Q=>tk σ H λ x H1=>tv σ H1 λ y H2=>tPairs r σ H2 λ ps H3=>Q ((x,y) :: ps) H3
noncomputable abbrev VV:List (V×V)->List (Value×Value)->Prop:=Paired λ p q=>RelV p.1 q.1/\RelV p.2 q.2
noncomputable def PPs (X:Cx)(pos:Pos)(keys:List (Option Expr))(values:List Expr)(trs:List (TE×TE)):Prop :=
 ∀ (pins:List (Addr×Obj)) (s:Shared) (σ:St) (H:Hp) (Q:List (V×V)->Hp->Prop),Inv X pins σ H s->tPairs trs σ H Q ->
  wpAny (model X.prog X.w) X.A (evalPairs (pairTrees keys values X.env pos)) (λ vs s'=>∃ ps H',Inv X pins σ H' s'/\VV ps vs/\Q ps H') X.xe s
theorem pps_nil {X:Cx}{pos:Pos}:PPs X pos [] [] []:=λ pins s σ H Q I h=>pairTrees_nil_walk ⟨[],H,I,.nil,h⟩
theorem pps_cons {X:Cx}{pos:Pos}{k v:Expr}{ks:List (Option Expr)}{vs:List Expr}{tk tv:TE}{trs:List (TE×TE)}(hk:PE X k tk)(hv:PE X v tv)(hr:PPs X pos ks vs trs) :
  PPs X pos (some k :: ks) (v :: vs) ((tk,tv) :: trs):=λ pins s σ H Q I h =>
 pairTrees_cons_walk (thn (hk pins s σ H _ I h) λ u s1 ⟨x,H1,I1,rx,q1⟩=>thn (hv pins s1 σ H1 _ I1 q1) λ w2 s2 ⟨y,H2,I2,ry,q2⟩ =>
  thn (hr pins s2 σ H2 _ I2 q2) λ ws s3 ⟨ps,H3,I3,rel,q3⟩=>⟨(x,y) :: ps,H3,I3,.cons ⟨rx,ry⟩ rel,q3⟩)
noncomputable def mergeK (kvs more:List (Key×V)):List (Key×V):=more.foldl (λ acc kv=>putK acc kv.1 kv.2) kvs
theorem KV.merge:∀ {more:List (Key×V)} {rs:List (Key×Value)} {kvs:List (Key×V)} {vs:List (Key×Value)},KV more rs->KV kvs vs->KV (mergeK kvs more) (merged vs rs):=by
 intro more rs kvs vs r
 unfold KV at r
 induction r generalizing kvs vs with
 | nil=>intro q; exact q
 | @cons p q ps qs h t ih =>
  intro r0
  have e:KV (putK kvs p.1 p.2) (stored vs q.1 q.2):=by
   have:=r0.put p.1 h.2
   rw [<- h.1]; exact this
  exact ih e
theorem length_mergeK:∀ (more kvs:List (Key×V)),(mergeK kvs more).length<=kvs.length+more.length
 | [],kvs=>by show kvs.length<=kvs.length+0; omega
 | p :: r,kvs=>by
  have h1:=length_mergeK r (putK kvs p.1 p.2)
  have h2:=length_putK kvs p.1 p.2
  show (mergeK (putK kvs p.1 p.2) r).length<=_
  rw [List.length_cons]; omega
theorem carries_of {P:Program}{w:World}:∀ {kvs:List (Key×V)} {ws:List (Value×Value)},VV (kvs.map λ kv=>(kV kv.1,kv.2)) ws->∃ rs,Carries (mixKind P w) ws rs/\KV kvs rs
 | [],_,r=>by rw [List.map_nil] at r; cases r; exact ⟨[],True.intro,.nil⟩
 | p :: kvs,_,r=>by
  rw [List.map_cons] at r
  cases r with
  | @cons a b as bs h t =>
   obtain ⟨rs,c,q⟩:=carries_of (P:=P) (w:=w) t
   obtain ⟨b1,b2⟩:=b
   exact ⟨(p.1,b2) :: rs,⟨kV_is h.1,rfl,c⟩,.cons ⟨rfl,h.2⟩ q⟩
noncomputable def tDisp (trs:List (TE×TE)):TE:=λ σ H Q=>∀ p,H p=none->tPairs trs σ (upd H p (.dK [])) λ ps H2=>H2 p=some (.dK [])/\∃ kvs:List (Key×V),ps=kvs.map (λ kv=>(kV kv.1,kv.2))/\kvs.length<=15/\Q (.ref p) (upd H2 p (.dK (mergeK [] kvs)))
theorem pe_disp {X:Cx}{pos:Pos}{keys:List (Option Expr)}{values:List Expr}{trs:List (TE×TE)}(h:PPs X pos keys values trs)(hall:keys.all (·.isSome)=true)(hl:keys.length=values.length)(h0:keys≠[])
  (h15:keys.length<=15):PE X (.Dict keys values pos) (tDisp trs):=by
 intro pins s σ H Q I q
 have hn:=I.hok.fresh (Nat.le_refl s.heap.objs.size)
 have I1:=I.laid (a:=s.heap.objs.size) (o:=.dK []) (h':=s.heap.push { cls:=.type "dict",data:=.dict #[] }) (t':=s.toks) (λ _ _ q=>Heap.get?_push_of_some _ q) (Nat.le_refl _) (dk_empty s.heap I.big)
 refine wpAny_Dict_walk (knd:=mixKind X.prog X.w) hall hl h0 h15 (thn (h pins _ σ _ _ I1 (q _ hn)) λ ws s2 hq27=>?_)
 obtain ⟨ps,H2,I2,rel,e,kvs,ep,lk,q2⟩:=hq27
 subst ep
 obtain ⟨rs,c,rk⟩:=carries_of (P:=X.prog) (w:=X.w) rel
 obtain ⟨z,hd,vs0,r0,dd⟩:=dk_of I2.hok e
 cases r0
 refine ⟨rs,c,dd,λ h' dd' hs=>⟨.ref s.heap.objs.size,_,?_,rfl,q2⟩⟩
 have hz:(mergeK [] kvs).length<=sizeLine:=by
  have h1:=length_mergeK kvs []
  rw [List.length_nil] at h1
  rw [sizeLine_eq]; omega
 have he:∃ q,h'.get? s.heap.objs.size=some q:=let ⟨q,_,_,hq,_⟩:=dd'; ⟨q,hq⟩
 exact d_write I2 (by rw [e]; exact True.intro) hs he (dk_new hz hd (rk.merge .nil) dd')
structure M1 (X:Cx)(o:Expr)(m:Str)(apos:Pos)(e:Expr)(cpos:Pos):Prop where
 base:attributeBase o m X.env (eval o X.env)=eval o X.env
 few:((backTo cpos (starEach [e] X.env)).all (λ x=>!x.1) && (backToKw cpos (keywordEach [] X.env)).all (λ x=>x.1.isSome)
  && decide (([e]:List Expr).length+([]:List Keyword).length+(if ([]:List Keyword).isEmpty then 0 else 1) < 30))=true
 line:(apos.endLine == cpos.line)=true
 trees:backTo cpos (starEach [e] X.env)=[(false,eval e X.env)]
structure M2 (X:Cx)(o:Expr)(m:Str)(apos:Pos)(e f:Expr)(cpos:Pos):Prop where
 base:attributeBase o m X.env (eval o X.env)=eval o X.env
 few:((backTo cpos (starEach [e,f] X.env)).all (λ x=>!x.1) && (backToKw cpos (keywordEach [] X.env)).all (λ x=>x.1.isSome)
  && decide (([e,f]:List Expr).length+([]:List Keyword).length+(if ([]:List Keyword).isEmpty then 0 else 1) < 30))=true
 line:(apos.endLine == cpos.line)=true
 trees:backTo cpos (starEach [e,f] X.env)=[(false,eval e X.env),(false,eval f X.env)]
noncomputable def IsD (H:Hp)(a:Addr):Prop:=(∃ kvs,Rd H a (.dK kvs))\/∃ kvs,Rd H a (.dT kvs)
theorem isD_at {X:Cx}{pins:List (Addr×Obj)}{σ:St}{H:Hp}{s:Shared}{a:Addr}(I:Inv X pins σ H s)(d:IsD H a) :
  s.TypeIs (.ref a) "dict" /\ (∀ b,Value.ref a=.ref b->∃ ob,s.heap.get? b=some ob/\ob.dict=none)/\(a == sysModules)=false:=by
 rcases d with ⟨kvs,e⟩ | ⟨kvs,e⟩
 ·obtain ⟨_,hd,vs,_,dd⟩:=dk_rd I.hok e
  refine ⟨dd.typeIs,λ b q=>?_,hd⟩
  cases q
  obtain ⟨ob,_,_,h1,h2,_⟩:=dd
  exact ⟨ob,h1,h2.2.1⟩
 ·obtain ⟨_,hd,xs,_,dd⟩:=dt_rd I.hok e
  refine ⟨dd.typeIs,λ b q=>?_,hd⟩
  cases q
  obtain ⟨ob,_,_,h1,h2,_⟩:=dd
  exact ⟨ob,h1,h2.2.1⟩
section
variable {X:Cx}{pins:List (Addr×Obj)}{σ:St}{H:Hp}{s:Shared}{a:Addr}{y d:V}{u r:Value}{o:Option V}{A:Around}{E:Value->Shared->Prop}
end
section
variable {X:Cx}{o e f:Expr}{apos cpos:Pos}{td ty tx:TE}
end
section
variable {X:Cx}{pins:List (Addr×Obj)}{σ:St}{H:Hp}{s:Shared}{a:Addr}{kvs:List (Key×V)}{A:Around}{E:Value->Shared->Prop}
end
section
variable {X:Cx}{pins:List (Addr×Obj)}{σ:St}{H:Hp}{s:Shared}{a:Addr}{y:V}{u:Value}{A:Around}{E:Value->Shared->Prop}
end
end L2
set_option maxHeartbeats 0
namespace L2
open PySem PySem.Spec PyProof.Rows
noncomputable def Fz:HO->Prop
 | .lst _=>True
 | .dK _=>True
 | _=>False
section
variable {X:Cx}{pins:List (Addr×Obj)}{σ:St}{H:Hp}{s:Shared}{p:Addr}{u:HO}
theorem un_frz {fs ex:List Addr}{h:Heap}{o:Obj}(e:H p=some u)(f:Fz u):Un fs ex H (upd H p (.frz o u)) h h where
 keep:=λ b ob q _ _ _=>q
 slot:=λ b ob q _ _ _=>⟨ob.slots,q⟩
 free:=λ b ob _ n _=>by rw [upd_ne (Ne.symm (ne_of_none e n))]; exact n
 there:=λ b ob q _=>⟨ob,q⟩
 tups:=λ b xs q=>by
  have:b≠p:=λ z=>by subst z; rw [e] at q; cases q; exact f
  rw [upd_ne this]; exact q
 frzs:=λ b ob v q=>by
  have:b≠p:=λ z=>by subst z; rw [e] at q; cases q; exact f
  rw [upd_ne this]; exact q
 tbls:=λ b ps q=>by
  have:b≠p:=λ z=>by subst z; rw [e] at q; cases q; exact f
  exact ⟨#[],by rw [upd_ne this,q]; simp⟩
theorem ObjOk.anyH {P:Program}{w:World}{H H':Hp}{h:Heap}{a:Addr}(f:Fz u)(x:ObjOk P w H h a u):ObjOk P w H' h a u:=by
 cases u with
 | lst xs=>exact x
 | dK kvs=>exact x
 | _=>exact f.elim
theorem ObjOk.obj {P:Program}{w:World}{H:Hp}{h:Heap}{a:Addr}(f:Fz u)(x:ObjOk P w H h a u):∃ o,h.get? a=some o:=by
 cases u with
 | lst xs=>obtain ⟨_,_,_,_,e⟩:=x; exact ⟨_,e⟩
 | dK kvs=>obtain ⟨_,_,_,_,o,_,_,e,_⟩:=x; exact ⟨o,e⟩
 | _=>exact f.elim
theorem Inv.freeze (I:Inv X pins σ H s)(e:H p=some u)(f:Fz u):∃ o,Inv X pins σ (upd H p (.frz o u)) s:=by
 obtain ⟨o,ho⟩:=(I.hok p u e).obj f
 refine ⟨o,I.un (h':=s.heap) (t':=s.toks) (un_frz e f) λ b v q=>?_⟩
 by_cases hb:b=p
 ·subst hb
  rw [upd_same] at q
  cases q
  exact ⟨ho,(I.hok b u e).anyH f⟩
 ·rw [upd_ne hb] at q
  refine (I.hok b v q).stay (λ _ _ _ q=>q) (λ c r=>?_) λ c xs r=>?_
  ·have:c≠p:=λ z=>by subst z; rw [e] at r; cases r; exact f
   rw [upd_ne this]; exact r
  ·have:c≠p:=λ z=>by subst z; rw [e] at r; cases r; exact f
   rw [upd_ne this]; exact r
noncomputable def tFrz (t:TE):TE:=λ σ H Q=>t σ H λ v H1=>∃ p u,v=.ref p/\H1 p=some u/\Fz u/\∀ o,Q v (upd H1 p (.frz o u))
theorem pe_frz {e:Expr}{t:TE}(h:PE X e t):PE X e (tFrz t):=by
 intro pins s σ H Q I hq
 refine thn (h pins s σ H _ I hq) λ v s1 hq28=>?_
 obtain ⟨x,H1,I1,r1,p,u,e1,e2,f,q⟩:=hq28
 obtain ⟨o,I2⟩:=I1.freeze e2 f
 exact ⟨x,_,I2,r1,q o⟩
theorem Inv.track {D:Addr}{ys:List V}{us:List Value}{n:Nat}(I:Inv X pins σ H s)(e:s.heap.get? D=some { cls:=.type "list",data:=.seq us.toArray n })(hn:H D=none)(hv:Vals ys us)(hz:ys.length<=sizeLine)
  (h0:X.s₀.heap.objs.size<=D)(hL:D≠X.env.locals)(hc:∀ x c,X.env.cells.lookup x=some c->c≠D)(hp:∀ p∈X.pn++pins,p.1≠D):Inv X pins σ (upd H D (.lst ys)) s:=by
 have ne:∀ b u,H b=some u->b≠D:=λ b u q=>ne_of_none q hn
 refine I.step (h':=s.heap) (g':=s.gens) (d':=s.drawn) (t':=s.toks) (ch:=[D]) (λ b hb=>?_) (λ b o _ _ _ q _=>q) (λ b o _ _ _ q _=>⟨o.slots,q⟩) (λ b o hb q n=>?_) (λ b o _ q=>⟨o,q⟩)
  (λ b xs q=>by rw [upd_ne (ne b _ q)]; exact q) (λ b o u q=>by rw [upd_ne (ne b _ q)]; exact q) (λ b ps q=>⟨#[],by rw [upd_ne (ne b _ q),q]; simp⟩) (λ m hm=>hm) (λ b u q=>?_) I.bare
 ·have e:b=D:=by simpa using hb
  subst e
  exact ⟨.inr h0,hL,hc,hp⟩
 ·rw [upd_ne (λ z=>hb (by simp [z]))]; exact n
 ·by_cases hb:b=D
  ·subst hb
   rw [upd_same] at q
   cases q
   exact ⟨hz,us,n,hv,e⟩
  ·rw [upd_ne hb] at q
   exact (I.hok b u q).stay (λ _ _ _ q=>q) (λ c r=>by rw [upd_ne (ne c _ r)]; exact r) λ c xs r=>by rw [upd_ne (ne c _ r)]; exact r
end
section
variable {prog:Program}{w:World}{A:Around}{E:Value->Shared->Prop}{R:Result->Shared->Prop}{s:Shared}
noncomputable abbrev testsOf (ifs:List Expr)(env:Env):Sem Bool:=forIn ifs true λ c r=>if r=true then do let ok <- isTrue c env (eval c env); pure (ForInStep.yield ok) else pure (ForInStep.yield r)
theorem compLoop_own {elt target iter:Expr}{ifs:List Expr}{scope:Scope}{pos:Pos}{it acc:Value}{env:Env}(I:Nat->Shared->Prop)
  (turn:∀ n s,I n s->wpAny (model prog w) A (pyNext it) (λ r s₁=>match r with
   | none=>R (.ok .next) s₁
   | some v=>wpAny (model prog w) A (letOwnedTupleGo target it v) (λ _ s₁'=>wpAny (model prog w) A (assign target env v) (λ _ s₂ =>
     wpAny (model prog w) A (testsOf ifs env) (λ ok s₃ =>
      if ok=true then wpAny (model prog w) A (eval elt env) (λ x s₄ =>
       wpAny (model prog w) A (call (.builtin "list.append") [acc,x]) (λ _ s₅=>∃ m,m < n/\I m s₅) (λ _ _=>False) s₄) (λ _ _=>False) s₃
      else ∃ m,m < n/\I m s₃) (λ _ _=>False) s₂) (λ _ _=>False) s₁') (λ _ _=>False) s₁) (λ _ _=>False) s)
  (n:Nat)(h:I n s) :
  codeAny (model prog w) A (.compLoop (.ListComp elt [⟨target,iter,ifs,0⟩] scope pos) 0 it acc env) R s:=by
 refine codeAny_loop rfl I (λ n s hI=>?_) n h
 show wpAny _ A ((compTurn (.ListComp elt [⟨target,iter,ifs,0⟩] scope pos) 0 it acc env).onRaise (λ x=>do noteFrame x env; theTreesLotGoes x)) _ _ s
 refine wpAny_noted ?_
 rw [compTurn_list]
 refine wpAny_bind (wpAny_standAt (wpAny_bind (wpAny_mono (turn n s hI) (λ r s₁ h₁=>?_) λ _ _ h'=>h'.elim)))
 cases r with
 | none=>exact wpAny_pure h₁
 | some v =>
  refine wpAny_bind (wpAny_mono h₁ (λ _ s₁' h₁'=>?_) λ _ _ h'=>h'.elim)
  refine wpAny_bind (wpAny_mono h₁' (λ _ s₂ h₂=>wpAny_bind (wpAny_mono h₂ (λ ok s₃ h₃=>?_) λ _ _ h'=>h'.elim)) λ _ _ h'=>h'.elim)
  cases ok with
  | false=>exact wpAny_pure ⟨rfl,h₃⟩
  | true =>
   exact wpAny_bind (wpAny_bind (wpAny_mono h₃ (λ x s₄ h₄=>wpAny_bind (wpAny_mono h₄ (λ _ s₅ h₅=>wpAny_pure (wpAny_pure ⟨rfl,h₅⟩)) λ _ _ h'=>h'.elim)) λ _ _ h'=>h'.elim))
end
theorem closure_some {scope:Scope}{env:Env}(h:∀ x∈scope.names,x.2=.free->∃ c,env.cells.lookup x.1=some c) :
  ∃ cl,closureFor scope env=pure cl/\(∀ n c,cl.lookup n=some c->env.cells.lookup n=some c)/\(∀ n,(n,NameKind.free)∈scope.names->∃ c,cl.lookup n=some c):=by
 have key:∀ (l:List (Str×NameKind)) (cs:List (Str×Addr)),(∀ x∈l,x.2=.free->∃ c,env.cells.lookup x.1=some c)->(∀ n c,cs.lookup n=some c->env.cells.lookup n=some c) ->
   ∃ cl:List (Str×Addr),(forIn l cs λ x r=>match x with
    | (name,kind)=>if (kind == NameKind.free)=true then do let a <- cellOf env name; pure (ForInStep.yield ((name,a) :: r)) else pure (ForInStep.yield r):Sem (List (Str×Addr)))=pure cl /\
    (∀ n c,cl.lookup n=some c->env.cells.lookup n=some c)/\(∀ n c,cs.lookup n=some c->∃ c,cl.lookup n=some c)/\(∀ n,(n,NameKind.free)∈l->∃ c,cl.lookup n=some c):=by
  intro l
  induction l with
  | nil=>intro cs _ hc; exact ⟨cs,rfl,hc,λ n c e=>⟨c,e⟩,λ n hn=>nomatch hn⟩
  | cons x l ih =>
   intro cs hl hc
   obtain ⟨name,kind⟩:=x
   by_cases hk:kind=.free
   ·subst hk
    obtain ⟨c,e⟩:=hl (name,.free) List.mem_cons_self rfl
    obtain ⟨cl,h1,h2,h3,h4⟩:=ih ((name,c) :: cs) (λ y hy=>hl y (List.mem_cons_of_mem _ hy)) (λ n d q=>by
     rw [List.lookup_cons] at q
     cases hb:n == name with
     | true =>
      rw [hb] at q
      cases q
      rw [eq_of_beq hb]; exact e
     | false =>
      rw [hb] at q
      exact hc n d q)
    refine ⟨cl,?_,h2,λ n d q=>?_,λ n hn=>?_⟩
    ·rw [List.forIn_cons]
     simp only [beq_self_eq_true,if_true,cellOf,e,pure_bind]
     exact h1
    ·cases hb:n == name with
     | true=>exact h3 n c (by rw [List.lookup_cons,hb])
     | false=>exact h3 n d (by rw [List.lookup_cons,hb]; exact q)
    ·rcases List.mem_cons.mp hn with z | z
     ·cases z
      exact h3 name c (by rw [List.lookup_cons]; simp)
     ·exact h4 n z
   ·obtain ⟨cl,h1,h2,h3,h4⟩:=ih cs (λ y hy=>hl y (List.mem_cons_of_mem _ hy)) hc
    refine ⟨cl,?_,h2,h3,λ n hn=>?_⟩
    ·rw [List.forIn_cons]
     have:(kind == NameKind.free)=false:=by simpa using hk
     simp only [this,Bool.false_eq_true,if_false,pure_bind]
     exact h1
    ·rcases List.mem_cons.mp hn with z | z
     ·cases z; exact absurd rfl hk
     ·exact h4 n z
 obtain ⟨cl,h1,h2,_,h4⟩:=key scope.names [] h (λ n c e=>by simp at e)
 refine ⟨cl,?_,h2,h4⟩
 unfold closureFor
 simp only [bind_pure]
 exact h1
theorem relabel_free {sc:Scope}{env:Env}{x:Str}:∀ {names:List (Str×NameKind)},(names.map λ (n,k)=>if (k == NameKind.free && env.scope.kind == .function && env.kindOf n == some .cell) then (n,NameKind.cell) else (n,k)).lookup x=some .cell \/
  (names.map λ (n,k)=>if (k == NameKind.free && env.scope.kind == .function && env.kindOf n == some .cell) then (n,NameKind.cell) else (n,k)).lookup x=some .free->(∀ y∈names,y.2 ≠ .cell)->(x,NameKind.free)∈names
 | [],h,_=>by simp at h
 | (n,k) :: r,h,hc=>by
  have ih:=@relabel_free sc env x r
  by_cases hk:(k == NameKind.free && env.scope.kind == .function && env.kindOf n == some .cell)=true
  ·simp only [List.map_cons,if_pos hk,List.lookup_cons] at h
   cases hx:x == n with
   | true =>
    have e:=eq_of_beq hx
    subst e
    simp only [Bool.and_eq_true] at hk
    have:=eq_of_beq hk.1.1
    subst this
    exact List.mem_cons_self
   | false =>
    rw [hx] at h
    exact List.mem_cons_of_mem _ (ih h λ y hy=>hc y (List.mem_cons_of_mem _ hy))
  ·simp only [List.map_cons,if_neg hk,List.lookup_cons] at h
   cases hx:x == n with
   | true =>
    rw [hx] at h
    have e:=eq_of_beq hx
    subst e
    rcases h with h | h
    ·cases h; exact absurd rfl (hc (x,.cell) List.mem_cons_self)
    ·cases h; exact List.mem_cons_self
   | false =>
    rw [hx] at h
    exact List.mem_cons_of_mem _ (ih h λ y hy=>hc y (List.mem_cons_of_mem _ hy))
theorem relabel_lookup_free {env:Env}{x:Str}:∀ {names:List (Str×NameKind)},names.lookup x=some .free ->
  (names.map λ (n,k)=>if (k == NameKind.free && env.scope.kind == .function && env.kindOf n == some .cell) then (n,NameKind.cell) else (n,k)).lookup x=some .cell \/
  (names.map λ (n,k)=>if (k == NameKind.free && env.scope.kind == .function && env.kindOf n == some .cell) then (n,NameKind.cell) else (n,k)).lookup x=some .free
 | [],h=>by simp at h
 | (n,k) :: r,h=>by
  have ih:=@relabel_lookup_free env x r
  by_cases hk:(k == NameKind.free && env.scope.kind == .function && env.kindOf n == some .cell)=true
  ·simp only [List.map_cons,if_pos hk,List.lookup_cons]
   cases hx:x == n with
   | true=>exact .inl rfl
   | false=>rw [List.lookup_cons,hx] at h; exact ih h
  ·simp only [List.map_cons,if_neg hk,List.lookup_cons]
   cases hx:x == n with
   | true=>rw [List.lookup_cons,hx] at h; exact .inr h
   | false=>rw [List.lookup_cons,hx] at h; exact ih h
noncomputable def blk (X:Cx)(sc:Scope)(N':List Str)(cl:List (Str×Addr))(C:Addr)(s:Shared)(H:Hp)(ex:List Addr)(pins:List (Addr×Obj)):Cx :=
 {X with N:=N',s₀:=s,H₀:=H,env:=compEnvC sc cl C X.env,outer:=X.stack,ex:=ex,fn:=λ _=>false,pn:=X.pn++pins,xe:=λ _ _=>False }
noncomputable def lcN (X:Cx)(own:List Str)(fr:List Nat):List Str:=own++fr.map λ j=>X.N.getD j Str.empty
noncomputable def lcS (k:Nat)(fr:List Nat)(σ:St):St:=List.replicate k none++fr.map λ j=>(σ[j]?).getD none
noncomputable def frOk (N:List Str)(sc:Scope)(fr:List Nat):Bool:=fr.all λ j=>match N[j]? with
 | some x=>sc.names.lookup x == some .free
 | none=>false
structure LcOk (X:Cx)(sc:Scope)(own:List Str)(fr:List Nat):Prop where
 kind:sc.kind=.function
 cell:∀ y∈sc.names,y.2 ≠ .cell
 free:∀ y∈sc.names,y.2=.free->(X.env.kindOf y.1=some .cell\/X.env.kindOf y.1=some .free)
 names:∀ y∈sc.names,y.2=.local->sc.names.lookup y.1=some .local
 fr:frOk X.N sc fr=true
noncomputable def PTs (X:Cx)(ifs:List Expr)(t:TT):Prop :=
 ∀ (pins:List (Addr×Obj)) (s:Shared) (σ:St) (H:Hp) (Q:Bool->Hp->Prop),Inv X pins σ H s->t σ H Q->wpAny (model X.prog X.w) X.A (testsOf ifs X.env) (TP X pins σ Q) X.xe s
noncomputable def tYes:TT:=λ _ H Q=>Q true H
theorem pts_nil {X:Cx}:PTs X [] tYes:=λ _ _ _ H _ I h=>wpAny_tests_nil ⟨H,I,h⟩
section
variable {X:Cx}{pins:List (Addr×Obj)}{σ:St}{H:Hp}{s:Shared}{sc:Scope}{own:List Str}{fr:List Nat}{cl:List (Str×Addr)}{fp:List Addr}{C D:Addr}{s1:Shared}
theorem frOk_get {N:List Str}{sc:Scope}{fr:List Nat}(h:frOk N sc fr=true){j:Nat}(hj:j∈fr):∃ x,N[j]? = some x/\sc.names.lookup x=some .free:=by
 have q:=List.all_eq_true.mp h j hj
 cases e:N[j]? with
 | none=>simp [e] at q
 | some x =>
  simp only [e] at q
  exact ⟨x,rfl,eq_of_beq q⟩
theorem blk_ok (L:LcOk X sc own fr)(I:Inv X pins σ H s)(hf:∀ b∈fp,FpOk X pins H b)(hb:∀ b∈fp,b < s.heap.objs.size)(hC:s.heap.objs.size<=C)
  (c1:∀ n c,cl.lookup n=some c->X.env.cells.lookup n=some c)(c2:∀ n,(n,NameKind.free)∈sc.names->∃ c,cl.lookup n=some c):(blk X sc (lcN X own fr) cl C s H fp pins).Ok where
 mod:=I.ok.mod
 kind:=L.kind
 glob:=I.ok.glob
 blt:=I.ok.blt
 above:=hC
 inj:=λ x y c a b=>I.ok.inj x y c (c1 _ _ a) (c1 _ _ b)
 has:=λ x hx=>c2 x (relabel_free (sc:=sc) (env:=X.env) hx L.cell)
 cab:=λ x c z=>absurd (show false=true from z) Bool.false_ne_true
 hd:=I.ok.hd
 frames:=I.ok.frames
 stk:=.inl rfl
 exf:=λ b z=>⟨Nat.ne_of_lt (Nat.lt_of_lt_of_le (hb b z) hC),λ x c e=>(hf b z).2.2.2.2.1 x c (c1 _ _ e)⟩
 bs:=I.bs
 bsz:=Nat.le_trans I.ok.bsz I.sz
 noex:=λ b o e z=>by
  rcases (hf b z).2.2.2.1 with q | q
  ·exact I.ok.noex b o e q
  ·exact absurd (Nat.lt_of_lt_of_le (Heap.lt_size e) (Nat.le_trans I.ok.bsz q)) (Nat.lt_irrefl _)
 exfs:=λ b z q=>by
  rcases List.mem_cons.mp (I.stkSub b q) with e | e
  ·exact (hf b z).2.1 e
  ·exact (hf b z).2.2.1 e
 funs:=I.stack
 frf:=I.stkFree
theorem blk_inv (L:LcOk X sc own fr)(I:Inv X pins σ H s)(hf:∀ b∈fp,FpOk X pins H b)(hb:∀ b∈fp,b < s.heap.objs.size)(hC:s.heap.objs.size<=C)
  (c1:∀ n c,cl.lookup n=some c->X.env.cells.lookup n=some c)(c2:∀ n,(n,NameKind.free)∈sc.names->∃ c,cl.lookup n=some c)
  {h1:Heap}{tk:Nat}{m:Str->Option Value}(hn:h1.Ns C m)(k:∀ b o,s.heap.get? b=some o->h1.get? b=some o) :
  Inv (blk X sc (lcN X own fr) cl C s H fp pins) [] (lcS own.length fr σ) H { s with heap:=h1,toks:=tk }:=by
 have ok:=blk_ok L I hf hb hC c1 c2
 refine ⟨ok,rfl,I.bare,Un.kept k,⟨m,hn,λ i x v e1 e2 e3=>?_⟩,λ x c e=>?_,I.hok.fresh hC,λ x c e=>I.freeC x c (c1 _ _ e),λ p hp=>?_,I.hok.kept k,?_⟩
 ·-- one of the names around
  have hi:¬ i < own.length:=λ hi=>by
   unfold lcS at e2
   rw [List.getElem?_append_left (by simpa using hi),List.getElem?_replicate] at e2
   split at e2 <;> cases e2
  have e1':(lcN X own fr)[i]? = some x:=e1
  unfold lcN at e1'
  unfold lcS at e2
  rw [List.getElem?_append_right (by omega),List.getElem?_map] at e1'
  rw [List.getElem?_append_right (by simpa using hi),List.getElem?_map,List.length_replicate] at e2
  cases q:fr[i - own.length]? with
  | none=>rw [q] at e1'; cases e1'
  | some j =>
   rw [q] at e1' e2
   obtain ⟨y,hy,hyf⟩:=frOk_get L.fr (List.mem_of_getElem? q)
   have ex:y=x:=by
    have:=Option.some.inj e1'
    rw [<- this]
    simp [List.getD,hy]
   subst ex
   have ev:σ[j]? = some (some v):=by
    have z:(σ[j]?).getD none=some v:=Option.some.inj e2
    cases w:σ[j]? with
    | none=>rw [w] at z; cases z
    | some o=>rw [w] at z; exact congrArg some z
   have hm:(y,NameKind.free)∈sc.names:=PySem.mem_of_lookup hyf
   have hk:=L.free _ hm rfl
   have vis:Vis X.env.scope y:=by
    rcases hk with z | z
    ·exact .inr (.inl z)
    ·exact .inr (.inr z)
   obtain ⟨m0,hn0,hl⟩:=I.loc
   obtain ⟨u,r,l⟩:=hl j y v hy ev vis
   refine ⟨u,r,.inr ⟨?_,?_⟩⟩
   ·exact relabel_lookup_free (env:=X.env) hyf
   ·obtain ⟨c,hc⟩:=c2 y hm
    rcases l with ⟨z,_⟩ | ⟨_,c',hc',hcell⟩
    ·rcases hk with q | q
     ·exact absurd (show X.env.kindOf y=some .local from z) (by rw [q]; decide)
     ·exact absurd (show X.env.kindOf y=some .local from z) (by rw [q]; decide)
    ·have:c=c':=Option.some.inj ((c1 _ _ hc).symm.trans hc')
     subst this
     obtain ⟨o,ho,hd⟩:=hcell
     exact ⟨c,hc,o,k _ _ ho,hd⟩
 ·obtain ⟨v,o,ho,hd⟩:=I.cell x c (c1 _ _ e)
  exact ⟨v,o,k _ _ ho,hd⟩
 ·have hp':p∈X.pn++pins:=by simpa [blk] using hp
  obtain ⟨a1,a2,a3,a4,a5⟩:=I.pin p hp'
  refine ⟨k _ _ a1,a2,Nat.ne_of_lt (Nat.lt_of_lt_of_le (Heap.lt_size a1) hC),λ q=>?_,a5⟩
  rcases List.mem_cons.mp (I.stkSub _ q) with e | e
  ·exact a3 e
  ·exact a4 e
 ·show (lcS own.length fr σ).length=(lcN X own fr).length
  simp [lcS,lcN]
end
noncomputable abbrev LcW:=Nat->Nat->List V->St->Hp->Prop
noncomputable def lcStep (J:It)(g:TG)(tt:TT)(te:TE)(W:LcW)(Fin:List V->Hp->Prop):Prop:=∀ i m ys τ H,W i m ys τ H ->
 (J.stop i H/\Fin ys H)\/(J.go i H/\ys.length < sizeLine/\∀ x H',J.yld i H x H'->g x τ H' λ τ2 H2=>tt τ2 H2 λ b H3 =>
  if b=true then te τ2 H3 λ y H4=>∃ m',m' < m/\W (i+1) m' (ys++[y]) τ2 H4 else ∃ m',m' < m/\W (i+1) m' ys τ2 H3)
section
variable {X:Cx}{pins:List (Addr×Obj)}{σ:St}{H:Hp}{s:Shared}{sc:Scope}{own:List Str}{fr:List Nat}{cl:List (Str×Addr)}{fp:List Addr}{it:Addr}{J:It}{tn:Nat->Heap->Prop}{g:TG}{tt:TT}{te:TE}{W:LcW}{Fin:List V->Hp->Prop}
 {elt tg iter:Expr}{ifs:List Expr}{pos:Pos}{E:Value->Shared->Prop}
theorem lc_core {RR:Value->Addr->Result->Shared->Prop}(hc:X.calm=true)(L:LcOk X sc own fr)(hcl1:∀ n c,cl.lookup n=some c->X.env.cells.lookup n=some c)(hcl2:∀ n,(n,NameKind.free)∈sc.names->∃ c,cl.lookup n=some c)
  (hg:∀ C s H ex pl,PG (blk X sc (lcN X own fr) cl C s H ex pl) tg g)(ht:∀ C s H ex pl,PTs (blk X sc (lcN X own fr) cl C s H ex pl) ifs tt)(he:∀ C s H ex pl,PE (blk X sc (lcN X own fr) cl C s H ex pl) elt te)
  (I:Inv X pins σ H s)(T:Turn X.prog X.w X.K tg J fp it tn)(st:tn 0 s.heap)(hf:∀ b∈fp,FpOk X pins H b)(w0:∃ m,W 0 m [] (lcS own.length fr σ) H)(turn:lcStep J g tt te W Fin)
  (hRR:∀ (D C:Addr) (s':Shared) (H':Hp) (ys:List V) (us:List Value) (n:Nat) (m:Str->Option Value),Inv X pins σ H' s'->s'.heap.get? D=some { cls:=.type "list",data:=.seq us.toArray n }->Vals ys us->ys.length<=sizeLine->H' D=none->H' C=none ->
   s.heap.objs.size<=D->s.heap.objs.size<=C->D≠C->s'.heap.Ns C m->Fin ys H'->RR (.ref D) C (.ok .next) s') :
  wpAny (model X.prog X.w) X.A (newList []) (λ acc s₃=>wpAny (model X.prog X.w) X.A (newFunctionEnv sc X.env.globals cl [] X.env.qual none .none (some X.env)) (λ cenv s₄ =>
   codeAny (model X.prog X.w) X.A (.compStart (.ListComp elt [⟨tg,iter,ifs,0⟩] sc pos) 0 (.ref it) acc { cenv with scope:=relabel sc X.env }) (RR acc cenv.locals) s₄) E s₃) E s:=by
 refine wpAny_newObj_type (wpAny_newFunctionEnv L.cell (by intro y hy; simp at hy) (λ h₁ hns₁ hsb₁=>?_) L.kind)
 dsimp only at hns₁ hsb₁ ⊢
 generalize hH2:s.heap.push { cls:=.type "list",dict:=none,data:=.seq ([]:List Value).toArray }=H2 at hns₁ hsb₁ ⊢
 have hCs:H2.objs.size=s.heap.objs.size+1:=by rw [<- hH2,Heap.size_push]
 have hD0:s.heap.objs.size≠H2.objs.size:=by rw [hCs]; exact Nat.ne_of_lt (Nat.lt_succ_self _)
 have hCle:s.heap.objs.size<=H2.objs.size:=by rw [hCs]; exact Nat.le_succ _
 have below:∀ b,b < s.heap.objs.size->b≠H2.objs.size/\b≠s.heap.objs.size:=λ b hb=>⟨by rw [hCs]; exact Nat.ne_of_lt (Nat.lt_succ_of_lt hb),Nat.ne_of_lt hb⟩
 have old:∀ b o,s.heap.get? b=some o->h₁.get? b=some o:=λ b o e=>hsb₁.extBut b o (below b (Heap.lt_size e)).1 (Heap.get?_push_of_some _ (hH2 ▸ Heap.get?_push_of_some _ e))
 have hacc:h₁.get? s.heap.objs.size=some { cls:=.type "list",data:=.seq ([]:List Value).toArray 0 }:=hsb₁.extBut _ _ hD0 (Heap.get?_push_of_some _ (hH2 ▸ Heap.get?_push_size _ rfl))
 have hfb:∀ b∈fp,b < s.heap.objs.size:=λ b hb=>by
  obtain ⟨o,e,_⟩:=T.obj 0 _ st b hb
  exact Heap.lt_size e
 have I1:Inv (blk X sc (lcN X own fr) cl H2.objs.size s H fp pins) [] (lcS own.length fr σ) H { s with heap:=h₁,toks:=s.toks+([]:List (Str×Value)).length }:=blk_inv L I hf hfb hCle hcl1 hcl2 hns₁ old
 have st1:tn 0 h₁:=T.keep 0 _ _ st λ b _ o e=>old b o e
 generalize hY:blk X sc (lcN X own fr) cl H2.objs.size s H fp pins=Y at I1
 have hYp:Y.prog=X.prog:=by rw [<- hY]; rfl
 have hYw:Y.w=X.w:=by rw [<- hY]; rfl
 have hYK:Y.K=X.K:=by rw [<- hY]; rfl
 have hYA:Y.A=X.A:=by rw [<- hY]; rfl
 have hYc:Y.calm=true:=by rw [<- hY]; exact hc
 have hYe:Y.env=compEnvC sc cl H2.objs.size X.env:=by rw [<- hY]; rfl
 have hYx:Y.xe=λ _ _=>False:=by rw [<- hY]; rfl
 have hYpn:Y.pn=X.pn++pins:=by rw [<- hY]; rfl
 have hYs:Y.s₀=s:=by rw [<- hY]; rfl
 have hYH:Y.H₀=H:=by rw [<- hY]; rfl
 have hYex:Y.ex=fp:=by rw [<- hY]; rfl
 have hYfs:Y.fs=frs X.stack:=by rw [<- hY]; rfl
 have gY:=hg H2.objs.size s H fp pins
 have tY:=ht H2.objs.size s H fp pins
 have eY:=he H2.objs.size s H fp pins
 rw [hY] at gY tY eY
 have D_pin:∀ p∈Y.pn++([]:List (Addr×Obj)),p.1≠s.heap.objs.size:=λ p hp=>by
  rw [hYpn,List.append_nil] at hp
  exact (below _ (Heap.lt_size (I.pin p hp).1)).2
 have D_cell:∀ x c,Y.env.cells.lookup x=some c->c≠s.heap.objs.size:=λ x c e=>by
  rw [hYe] at e
  obtain ⟨v,z⟩:=I.cell x c (hcl1 _ _ e)
  exact (below _ z.lt).2
 have D_loc:s.heap.objs.size≠Y.env.locals:=by rw [hYe]; exact hD0
 have D_fs:s.heap.objs.size ∉ Y.fs:=by
  rw [hYfs]
  intro z
  rcases List.mem_cons.mp (I.stkSub _ z) with e | e
  ·exact absurd I.lt (by rw [<- e]; exact Nat.lt_irrefl _)
  ·exact I.nofs (Nat.le_refl _) e
 have fpY:∀ {H':Hp} (pl:List (Addr×Obj)),(∀ b∈fp,H' b=none)->(∀ p∈pl,p.1=s.heap.objs.size)->∀ b∈fp,FpOk Y pl H' b:=λ {H'} pl hn hp b hb=>by
  obtain ⟨_,f1,f2,f3,f4,f5⟩:=hf b hb
  refine ⟨hn b hb,by rw [hYe]; exact (below b (hfb b hb)).1,?_,.inl (by rw [hYex]; exact hb),λ x c e=>?_,λ p q=>?_⟩
  ·rw [hYfs]
   intro z
   rcases List.mem_cons.mp (I.stkSub _ z) with e | e
   ·exact f1 e
   ·exact f2 e
  ·rw [hYe] at e
   exact f4 x c (hcl1 _ _ e)
  ·rcases List.mem_append.mp q with z | z
   ·rw [hYpn] at z
    exact f5 p z
   ·rw [hp p z]
    exact Ne.symm (below b (hfb b hb)).2
 have loop:∀ s₃:Shared,s₃={ s with heap:=h₁,toks:=s.toks+([]:List (Str×Value)).length } ->
   codeAny (model X.prog X.w) X.A (.compLoop (.ListComp elt [⟨tg,iter,ifs,0⟩] sc pos) 0 (.ref it) (.ref s.heap.objs.size) (compEnvC sc cl H2.objs.size X.env)) (RR (.ref s.heap.objs.size) H2.objs.size) s₃:=by
  rintro s₃ rfl
  obtain ⟨m0,w0⟩:=w0
  refine compLoop_own (λ n s'=>∃ i ys τ H' us k,Inv Y [] τ H' s'/\tn i s'.heap/\(∀ b∈fp,H' b=none)/\H' s.heap.objs.size=none/\s'.heap.get? s.heap.objs.size=some { cls:=.type "list",data:=.seq us.toArray k }/\Vals ys us/\ys.length<=sizeLine/\W i n ys τ H') ?_ m0
   ⟨0,[],_,H,[],0,I1,st1,λ b hb=>(hf b hb).1,I.hok.fresh (Nat.le_refl _),hacc,.nil,Nat.zero_le _,w0⟩
  rintro n s' ⟨i,ys,τ,H',us,k,I',st',hn',hD',ha',hv',hz',w'⟩
  have Ip:Inv Y [(s.heap.objs.size,{ cls:=.type "list",data:=.seq us.toArray k })] τ H' s':=I'.pins_of λ p hp=>by
   have e:p=(s.heap.objs.size,{ cls:=.type "list",data:=.seq us.toArray k }):=by simpa using hp
   subst e
   exact ⟨ha',hD',D_loc,D_fs,λ v z=>nomatch (show Data.seq _ _=Data.cell v from z)⟩
  have onlyD:∀ p∈[((s.heap.objs.size,{ cls:=.type "list",data:=.seq us.toArray k }):Addr×Obj)],p.1=s.heap.objs.size:=λ p hp=>by
   have e:p=(s.heap.objs.size,{ cls:=.type "list",data:=.seq us.toArray k }):=by simpa using hp
   subst e
   rfl
  rcases turn i n ys τ H' w' with ⟨stop,fin⟩ | ⟨go,hlen,step⟩
  ·have q:=T.done Y hYp hYw hYK hYc i _ s' τ H' (λ _ _=>False) Ip (fpY _ hn' onlyD) st' stop
   rw [hYA] at q
   refine thn q λ r s4 hq29=>?_
   obtain ⟨hr,I4⟩:=hq29
   subst hr
   have un:Un (frs X.stack) fp H H' s.heap s4.heap:=by
    have z:=I4.base
    rw [hYfs,hYex,hYH,hYs] at z
    exact z
   have os4:s4.os=s.os:=by
    have z:=I4.os
    rw [hYs] at z
    exact z
   have hok4:HOk X.prog X.w H' s4.heap:=by
    have z:=I4.hok
    rw [hYp,hYw] at z
    exact z
   have hch:∀ b∈fp,(b∈X.ex\/X.s₀.heap.objs.size<=b)/\b≠X.env.locals/\(∀ x c,X.env.cells.lookup x=some c->c≠b)/\∀ p∈X.pn++pins,p.1≠b:=λ b hb=>by
    obtain ⟨_,f1,f2,f3,f4,f5⟩:=hf b hb
    exact ⟨f3,f1,f4,f5⟩
   have IX:Inv X pins σ H' s4:=I.call' os4 un hok4 I4.bare hch
   obtain ⟨mC,hmC,_⟩:=I4.loc
   have hCf:=I4.free
   rw [hYe] at hmC hCf
   have pD:=I4.pin (s.heap.objs.size,{ cls:=.type "list",data:=.seq us.toArray k }) (List.mem_append_right _ (List.mem_singleton.mpr rfl))
   exact hRR _ _ s4 H' ys us k mC IX pD.1 hv' hz' pD.2.1 hCf (Nat.le_refl _) hCle hD0 hmC fin
  ·have q:=T.item Y hYp hYw hYK hYc i _ s' τ H' (λ _ _=>False) Ip (fpY _ hn' onlyD) st' go
   rw [hYA] at q
   refine thn q λ r s4 hq30=>?_
   obtain ⟨u,hr,h4⟩:=hq30
   subst hr
   refine thn h4 λ _ s5 hq31=>?_
   obtain ⟨x,H5,I5,r5,y5,st5,fr5⟩:=hq31
   have I5':=I5.pinned (fpY _ fr5 onlyD) (T.obj _ _ st5)
   have g5:=gY _ s5 τ H5 x u _ I5' r5 (step x H5 y5)
   rw [hYp,hYw,hYA,hYe,hYx] at g5
   refine thn g5 λ _ s6 hq32=>?_
   obtain ⟨σ6,H6,I6,q6⟩:=hq32
   have t6:=tY _ s6 σ6 H6 _ I6 q6
   rw [hYp,hYw,hYA,hYe,hYx] at t6
   refine thn t6 λ ok s7 hq33=>?_
   obtain ⟨H7,I7,q7⟩:=hq33
   have keepD:∀ {σ8:St} {H8:Hp} {s8:Shared},Inv Y ([(s.heap.objs.size,{ cls:=.type "list",data:=.seq us.toArray k })]++pinsAt fp s5.heap) σ8 H8 s8->s8.heap.get? s.heap.objs.size=some { cls:=.type "list",data:=.seq us.toArray k }/\H8 s.heap.objs.size=none :=
    λ {σ8 H8 s8} I8=>by
     have pD:=I8.pin (s.heap.objs.size,{ cls:=.type "list",data:=.seq us.toArray k }) (List.mem_append_right _ (List.mem_append_left _ (List.mem_singleton.mpr rfl)))
     exact ⟨pD.1,pD.2.1⟩
   have keepI:∀ {σ8:St} {H8:Hp} {s8:Shared},Inv Y ([(s.heap.objs.size,{ cls:=.type "list",data:=.seq us.toArray k })]++pinsAt fp s5.heap) σ8 H8 s8->tn (i+1) s8.heap/\∀ b∈fp,H8 b=none :=
    λ {σ8 H8 s8} I8=>by
     refine ⟨T.keep _ _ _ st5 λ b hb o e=>(I8.pin (b,o) (List.mem_append_right _ (List.mem_append_right _ (mem_pinsAt hb e)))).1,λ b hb=>?_⟩
     obtain ⟨o,e,d⟩:=T.obj _ _ st5 b hb
     exact (I8.pin (b,o) (List.mem_append_right _ (List.mem_append_right _ (mem_pinsAt hb e)))).2.1
   cases ok with
   | false =>
    rw [if_neg Bool.false_ne_true] at q7 ⊢
    obtain ⟨m',hm',w7⟩:=q7
    obtain ⟨a7,b7⟩:=keepD I7
    obtain ⟨c7,d7⟩:=keepI I7
    exact ⟨m',hm',i+1,ys,σ6,H7,us,k,I7.pins_of (λ p hp=>(nomatch hp)),c7,d7,b7,a7,hv',hz',w7⟩
   | true =>
    rw [if_pos rfl] at q7 ⊢
    have e7:=eY _ s7 σ6 H7 _ I7 q7
    rw [hYp,hYw,hYA,hYe,hYx] at e7
    refine thn e7 λ v s8 hq34=>?_
    obtain ⟨y,H8,I8,r8,m',hm',w8⟩:=hq34
    obtain ⟨a8,b8⟩:=keepD I8
    obtain ⟨c8,d8⟩:=keepI I8
    have hl:=hv'.length
    refine call_meets F.slot_list_append ⟨_,a8,rfl⟩ F.entry_list_append (F.args_list_append_2 _ _) (PySem.list_append s.heap.objs.size us.toArray k v (by rw [List.size_toArray]; omega)) ⟨a8,?_⟩
    have qu:=PySem.IsL.update a8 (λ xs=>xs.push v)
    have I9:=(I8.pins_of (pins':=[]) λ p hp=>nomatch hp).turned (it:=s.heap.objs.size) (t':=s8.toks) (h':=s8.heap.update s.heap.objs.size (Obj.mapSeq λ xs=>xs.push v)) (λ b o hb e=>(Heap.get?_update_other s8.heap _ (Ne.symm hb)).trans e) b8 D_loc (.inr (by rw [hYs]; exact Nat.le_refl _)) D_cell D_pin
    have ep:us.toArray.push v=(us++[v]).toArray:=by simp
    rw [ep] at qu
    refine ⟨m',hm',i+1,ys++[y],σ6,H8,us++[v],(if (us++[v]).toArray.size == us.toArray.size then k else k+1),I9,T.keep _ _ _ c8 λ b hb o e=>(Heap.get?_update_other s8.heap _ (Ne.symm (below b (hfb b hb)).2)).trans e,d8,b8,?_,hv'.append (.cons r8 .nil),?_,w8⟩
    ·exact qu
    ·rw [List.length_append,List.length_singleton]; omega
 exact codeAny_compStart_list (loop _ rfl) (T.self _ 0 _ _ _ st1 (loop _ rfl))
noncomputable def tLC (wi:TI)(g:TG)(tt:TT)(te:TE)(k:Nat)(fr:List Nat):TE:=λ σ H Q=>wi σ H λ J H1=>∃ W:LcW,(∃ m,W 0 m [] (lcS k fr σ) H1)/\lcStep J g tt te W λ ys H2=>∀ p,H2 p=none->Q (.ref p) (upd H2 p (.lst ys))
theorem lc_closure (L:LcOk X sc own fr)(ok:X.Ok):∃ cl,closureFor sc X.env=pure cl/\(∀ n c,cl.lookup n=some c->X.env.cells.lookup n=some c)/\(∀ n,(n,NameKind.free)∈sc.names->∃ c,cl.lookup n=some c) :=
 closure_some λ x hx hf=>ok.has x.1 (L.free x hx hf)
theorem pe_lc {wi:TI}(hc:X.calm=true)(L:LcOk X sc own fr)(hi:PI X tg iter wi)
  (hg:∀ cl C s H ex pl,PG (blk X sc (lcN X own fr) cl C s H ex pl) tg g)(ht:∀ cl C s H ex pl,PTs (blk X sc (lcN X own fr) cl C s H ex pl) ifs tt)(he:∀ cl C s H ex pl,PE (blk X sc (lcN X own fr) cl C s H ex pl) elt te)
  (hs:∀ x,foldedSetIterable iter X.env x=pure x:=by intro _; rfl):PE X (.ListComp elt [⟨tg,iter,ifs,0⟩] sc pos) (tLC wi g tt te own.length fr):=by
 intro pins s σ H Q I h
 obtain ⟨cl,hcl,c1,c2⟩:=lc_closure L I.ok
 rw [eval_ListComp]
 refine wpAny_comprehension_free (use:=none) (g:=⟨tg,iter,ifs,0⟩) (gs:=[]) rfl hs hcl L.kind L.names ?_
 refine thn (hi pins s σ H _ I h) λ v s1 h1=>thn h1 λ itv s2 h2=>?_
 obtain ⟨it,fp,tn,J,H2,e,I2,T,st2,f2,W,w0,turn⟩:=h2
 subst e
 refine lc_core (cl:=cl) hc L c1 c2 (hg cl) (ht cl) (he cl) I2 T st2 f2 w0 turn λ D C s' H' ys us n m I' a' hv hz hD hC dD dC hDC hns fin=>?_
 refine ⟨m,hns,λ h' sb=>?_⟩
 have far:∀ b,s2.heap.objs.size<=b->(X.s₀.heap.objs.size<=b)/\b≠X.env.locals/\(∀ x c,X.env.cells.lookup x=some c->c≠b)/\∀ p∈X.pn++pins,p.1≠b:=λ b hb=>by
  obtain ⟨_,f1,_,f3,f4,f5⟩:=I2.fpOk (H':=λ _=>none) hb rfl
  refine ⟨Nat.le_trans I2.sz hb,f1,f4,f5⟩
 obtain ⟨z1,z2,z3,z4⟩:=far C dC
 obtain ⟨y1,y2,y3,y4⟩:=far D dD
 have I3:Inv X pins σ H' { s' with heap:=h' }:=I'.turned (t':=s'.toks) (λ b o hb e=>sb.extBut b o hb e) hC z2 (.inr z1) z3 z4
 exact ⟨.ref D,_,I3.track (sb.extBut _ _ hDC a') hD hv hz y1 y2 y3 y4,rfl,fin D hD⟩
end
end L2
namespace D
open PySem PySem.Spec PyProof.Rows L2
noncomputable abbrev St:=L2.St
structure Kp (H H':Hp):Prop where
 tup:∀ b xs,H b=some (.tup xs)->H' b=some (.tup xs)
 frz:∀ b o u,H b=some (.frz o u)->H' b=some (.frz o u)
theorem Kp.refl (H:Hp):Kp H H:=⟨λ _ _ e=>e,λ _ _ _ e=>e⟩
theorem Kp.trans {H H1 H2:Hp}(a:Kp H H1)(b:Kp H1 H2):Kp H H2:=⟨λ c xs e=>b.tup c xs (a.tup c xs e),λ c o u e=>b.frz c o u (a.frz c o u e)⟩
theorem Kp.new {H:Hp}{p:Addr}{o:HO}(h:H p=none):Kp H (upd H p o):=⟨λ b xs e=>by rw [upd_ne (ne_of_none e h)]; exact e,λ b ob u e=>by rw [upd_ne (ne_of_none e h)]; exact e⟩
theorem Kp.set {H:Hp}{p:Addr}{o u:HO}(h:H p=some u)(ht:∀ xs,u ≠ .tup xs)(hf:∀ ob v,u ≠ .frz ob v):Kp H (upd H p o) :=
 ⟨λ b xs e=>by rw [upd_ne (ne_of e h λ z=>ht _ z.symm)]; exact e,λ b ob v e=>by rw [upd_ne (ne_of e h λ z=>hf _ _ z.symm)]; exact e⟩
theorem Kp.un {fs ex:List Addr}{H H':Hp}{h h':Heap}(u:Un fs ex H H' h h'):Kp H H':=⟨u.tups,u.frzs⟩
noncomputable def SqF (K:PySem.W.Frag)(H:Hp)(a:Addr)(xs:List V):Prop :=
 (∃ o,H a=some (.frz o (.lst xs)))\/∃ (o:Obj) (its:Array Value) (n:Nat),K.lookup a=some o/\o.cls=.type "list" /\ o.dict=none/\o.data=.seq its n/\its.size<=sizeLine/\Vals xs its.toList
theorem SqF.sq {K:PySem.W.Frag}{H:Hp}{a:Addr}{xs:List V}(h:SqF K H a xs):SqL K H a xs:=by
 rcases h with h | h
 ·exact .inl (.inr h)
 ·exact .inr h
theorem SqF.keep {K:PySem.W.Frag}{H H':Hp}{a:Addr}{xs:List V}(k:Kp H H')(h:SqF K H a xs):SqF K H' a xs:=by
 rcases h with ⟨o,h⟩ | h
 ·exact .inl ⟨o,k.frz _ _ _ h⟩
 ·exact .inr h
theorem SqT.keep {K:PySem.W.Frag}{H H':Hp}{a:Addr}{xs:List V}(k:Kp H H')(h:SqT K H a xs):SqT K H' a xs:=by
 rcases h with (h | ⟨o,h⟩) | h
 ·exact .inl (.inl (k.tup _ _ h))
 ·exact .inl (.inr ⟨o,k.frz _ _ _ h⟩)
 ·exact .inr h
noncomputable def keyD:Key->PyData
 | .inl i=>.int i
 | .inr x=>.str x
mutual
noncomputable def RepD (K:PySem.W.Frag)(H:Hp):PyData->V->Prop
 | .none,v=>v=.non
 | .bool b,v=>v=.bl b
 | .int i,v=>v=.int i
 | .str x,v=>v=.str x
 | .list ds,v=>∃ a vs,v=.ref a/\SqF K H a vs/\RepA K H ds vs
 | .tuple ds,v=>∃ a vs,v=.ref a/\SqT K H a vs/\RepA K H ds vs
 | .dict kvs,v=>∃ a o l,v=.ref a/\H a=some (.frz o (.dK l))/\RepK K H kvs l
noncomputable def RepA (K:PySem.W.Frag)(H:Hp):List PyData->List V->Prop
 | [],vs=>vs=[]
 | d :: ds,vs=>∃ v r,vs=v :: r/\RepD K H d v/\RepA K H ds r
noncomputable def RepK (K:PySem.W.Frag)(H:Hp):List (PyData×PyData)->List (Key×V)->Prop
 | [],l=>l=[]
 | (k,d) :: ds,l=>∃ key v r,l=(key,v) :: r/\k=keyD key/\RepD K H d v/\RepK K H ds r
end
mutual
theorem RepD.keep {K:PySem.W.Frag}{H H':Hp}(k:Kp H H'):∀ {d:PyData} {v:V},RepD K H d v->RepD K H' d v
 | .none,v,h=>by simp only [RepD] at h ⊢; exact h
 | .bool b,v,h=>by simp only [RepD] at h ⊢; exact h
 | .int i,v,h=>by simp only [RepD] at h ⊢; exact h
 | .str x,v,h=>by simp only [RepD] at h ⊢; exact h
 | .list ds,v,h=>by
  simp only [RepD] at h ⊢
  obtain ⟨a,vs,e,s,r⟩:=h
  exact ⟨a,vs,e,s.keep k,RepA.keep k r⟩
 | .tuple ds,v,h=>by
  simp only [RepD] at h ⊢
  obtain ⟨a,vs,e,s,r⟩:=h
  exact ⟨a,vs,e,SqT.keep k s,RepA.keep k r⟩
 | .dict kvs,v,h=>by
  simp only [RepD] at h ⊢
  obtain ⟨a,o,l,e,s,r⟩:=h
  exact ⟨a,o,l,e,k.frz _ _ _ s,RepK.keep k r⟩
theorem RepA.keep {K:PySem.W.Frag}{H H':Hp}(k:Kp H H'):∀ {ds:List PyData} {vs:List V},RepA K H ds vs->RepA K H' ds vs
 | [],vs,h=>by simp only [RepA] at h ⊢; exact h
 | d :: ds,vs,h=>by
  simp only [RepA] at h ⊢
  obtain ⟨v,r,e,h1,h2⟩:=h
  exact ⟨v,r,e,RepD.keep k h1,RepA.keep k h2⟩
theorem RepK.keep {K:PySem.W.Frag}{H H':Hp}(k:Kp H H'):∀ {ds:List (PyData×PyData)} {l:List (Key×V)},RepK K H ds l->RepK K H' ds l
 | [],l,h=>by simp only [RepK] at h ⊢; exact h
 | (key,d) :: ds,l,h=>by
  simp only [RepK] at h ⊢
  obtain ⟨k',v,r,e,ek,h1,h2⟩:=h
  exact ⟨k',v,r,e,ek,RepD.keep k h1,RepK.keep k h2⟩
end
theorem RepA.length {K:PySem.W.Frag}{H:Hp}:∀ {ds:List PyData} {vs:List V},RepA K H ds vs->vs.length=ds.length
 | [],vs,h=>by simp only [RepA] at h; rw [h]; rfl
 | d :: ds,vs,h=>by
  simp only [RepA] at h
  obtain ⟨v,r,e,_,h2⟩:=h
  rw [e,List.length_cons,List.length_cons,RepA.length h2]
theorem RepA.get {K:PySem.W.Frag}{H:Hp}:∀ {ds:List PyData} {vs:List V} {i:Nat} {d:PyData},RepA K H ds vs->ds[i]? = some d->∃ v,vs[i]? = some v/\RepD K H d v
 | [],_,_,_,_,e=>by simp at e
 | d :: ds,vs,0,d',h,e=>by
  simp only [RepA] at h
  obtain ⟨v,r,ev,h1,_⟩:=h
  simp at e
  subst e
  exact ⟨v,by rw [ev]; rfl,h1⟩
 | d :: ds,vs,i+1,d',h,e=>by
  simp only [RepA] at h
  obtain ⟨v,r,ev,_,h2⟩:=h
  obtain ⟨v',e1,e2⟩:=RepA.get (i:=i) h2 (by simpa using e)
  exact ⟨v',by rw [ev]; simpa using e1,e2⟩
theorem RepA.get' {K:PySem.W.Frag}{H:Hp}{ds:List PyData}{vs:List V}{i:Nat}{v:V}(h:RepA K H ds vs)(e:vs[i]? = some v):∃ d,ds[i]? = some d/\RepD K H d v:=by
 have hi:i < ds.length:=by
  have:=(List.getElem?_eq_some_iff.mp e).1
  rw [h.length] at this
  exact this
 obtain ⟨v',e1,r⟩:=h.get (i:=i) (d:=ds[i]) (by simp [hi])
 rw [e] at e1
 cases e1
 exact ⟨ds[i],by simp [hi],r⟩
theorem RepA.ints {K:PySem.W.Frag}{H:Hp}:∀ (ns:List Int),RepA K H (ns.map PyData.int) (ns.map V.int)
 | []=>by simp [RepA]
 | n :: ns=>by
  simp only [List.map_cons,RepA]
  exact ⟨_,_,rfl,by simp [RepD],RepA.ints ns⟩
theorem RepA.append {K:PySem.W.Frag}{H:Hp}:∀ {ds es:List PyData} {vs us:List V},RepA K H ds vs->RepA K H es us->RepA K H (ds++es) (vs++us)
 | [],es,vs,us,h,q=>by simp only [RepA] at h; subst h; exact q
 | d :: ds,es,vs,us,h,q=>by
  simp only [RepA] at h
  obtain ⟨v,r,e,h1,h2⟩:=h
  subst e
  simp only [List.cons_append,RepA]
  exact ⟨v,r++us,rfl,h1,RepA.append h2 q⟩
theorem RepA.drop {K:PySem.W.Frag}{H:Hp}:∀ {ds:List PyData} {vs:List V} (n:Nat),RepA K H ds vs->RepA K H (ds.drop n) (vs.drop n)
 | ds,vs,0,h=>by simpa using h
 | [],vs,n+1,h=>by simp only [RepA] at h; subst h; simp [RepA]
 | d :: ds,vs,n+1,h=>by
  simp only [RepA] at h
  obtain ⟨v,r,e,_,h2⟩:=h
  subst e
  simpa using RepA.drop n h2
theorem RepA.take {K:PySem.W.Frag}{H:Hp}:∀ {ds:List PyData} {vs:List V} (n:Nat),RepA K H ds vs->RepA K H (ds.take n) (vs.take n)
 | ds,vs,0,h=>by simp [RepA]
 | [],vs,n+1,h=>by simp only [RepA] at h; subst h; simp [RepA]
 | d :: ds,vs,n+1,h=>by
  simp only [RepA] at h
  obtain ⟨v,r,e,h1,h2⟩:=h
  subst e
  simp only [List.take_succ_cons,RepA]
  exact ⟨v,_,rfl,h1,RepA.take n h2⟩
inductive W where
 | d (x:PyData)
 | m (a:Addr)
 | t (n:String)
inductive MO where
 | lst (ws:List W)
 | dic (kvs:List (Key×W))
 | dct (kvs:List (List Key×W))
 | fdic (kvs:List (Key×W))
 | ins (C:Addr) (fs:List (Str×W))
 | tup (ws:List W)
 | flst (ws:List W)
 | exc (C:Addr) (fs:List (Str×W))
 | code (q:Str) (pos:Pos)
noncomputable abbrev MH:=Addr->Option MO
noncomputable def updM (M:MH)(a:Addr)(o:MO):MH:=λ b=>if b=a then some o else M b
theorem updM_same {M:MH}{a:Addr}{o:MO}:updM M a o a=some o:=if_pos rfl
theorem updM_ne {M:MH}{a b:Addr}{o:MO}(h:b≠a):updM M a o b=M b:=if_neg h
theorem updM_updM {M:MH}{a:Addr}{o u:MO}:updM (updM M a o) a u=updM M a u:=by funext b; unfold updM; split <;> rfl
noncomputable abbrev DS:=List (Option W)
noncomputable def RepW (K:PySem.W.Frag)(H:Hp):W->V->Prop
 | .d x,v=>RepD K H x v
 | .m a,v=>v=.ref a
 | .t n,v=>v=.ty n
theorem RepW.keep {K:PySem.W.Frag}{H H':Hp}(k:Kp H H'):∀ {w:W} {v:V},RepW K H w v->RepW K H' w v
 | .d _,_,h=>RepD.keep k h
 | .m _,_,h=>h
 | .t _,_,h=>h
noncomputable def RepWs (K:PySem.W.Frag)(H:Hp):List W->List V->Prop:=Paired (RepW K H)
theorem RepWs.keep {K:PySem.W.Frag}{H H':Hp}(k:Kp H H'){ws:List W}{vs:List V}(h:RepWs K H ws vs):RepWs K H' ws vs:=Paired.mapP h λ _ _ r=>r.keep k
theorem RepWs.length {K:PySem.W.Frag}{H:Hp}{ws:List W}{vs:List V}(h:RepWs K H ws vs):ws.length=vs.length:=Paired.length h
theorem RepWs.get {K:PySem.W.Frag}{H:Hp}:∀ {ws:List W} {vs:List V} {i:Nat} {w:W},RepWs K H ws vs->ws[i]? = some w->∃ v,vs[i]? = some v/\RepW K H w v
 | _,_,_,_,.nil,e=>by simp at e
 | _,_,0,_,.cons r _,e=>by simp at e; subst e; exact ⟨_,rfl,r⟩
 | _,_,i+1,_,.cons _ t,e=>by
  obtain ⟨u,h1,h2⟩:=RepWs.get (i:=i) t (by simpa using e)
  exact ⟨u,by simpa using h1,h2⟩
theorem RepWs.set {K:PySem.W.Frag}{H:Hp}{w:W}{v:V}(r:RepW K H w v):∀ {ws:List W} {vs:List V} (i:Nat),RepWs K H ws vs->RepWs K H (ws.set i w) (vs.set i v)
 | _,_,_,.nil=>.nil
 | _,_,0,.cons _ t=>.cons r t
 | _,_,i+1,.cons q t=>.cons q (RepWs.set r i t)
theorem RepWs.append {K:PySem.W.Frag}{H:Hp}:∀ {ws ws':List W} {vs vs':List V},RepWs K H ws vs->RepWs K H ws' vs'->RepWs K H (ws++ws') (vs++vs')
 | _,_,_,_,.nil,s=>s
 | _,_,_,_,.cons r t,s=>.cons r (RepWs.append t s)
theorem RepWs.data {K:PySem.W.Frag}{H:Hp}:∀ {ds:List PyData} {vs:List V},RepWs K H (ds.map W.d) vs->RepA K H ds vs
 | [],_,h=>by cases h; simp [RepA]
 | d :: ds,_,h=>by
  cases h with
  | cons r t=>simp only [RepA]; exact ⟨_,_,rfl,r,RepWs.data t⟩
theorem RepA.ws {K:PySem.W.Frag}{H:Hp}:∀ {ds:List PyData} {vs:List V},RepA K H ds vs->RepWs K H (ds.map W.d) vs
 | [],vs,h=>by simp only [RepA] at h; subst h; exact .nil
 | d :: ds,vs,h=>by
  simp only [RepA] at h
  obtain ⟨v,r,e,h1,h2⟩:=h
  subst e
  exact .cons h1 (RepA.ws h2)
noncomputable def RepM (K:PySem.W.Frag)(H:Hp)(a:Addr):MO->Prop
 | .lst ws=>∃ vs,H a=some (.lst vs)/\RepWs K H ws vs
 | .dic kvs=>∃ l,H a=some (.dK l)/\Paired (λ (p:Key×W) (q:Key×V)=>p.1=q.1/\RepW K H p.2 q.2) kvs l
 | .fdic kvs=>∃ o l,H a=some (.frz o (.frz o (.dK l)))/\Paired (λ (p:Key×W) (q:Key×V)=>p.1=q.1/\RepW K H p.2 q.2) kvs l
 | .dct kvs=>∃ l,H a=some (.dT l)/\Paired (λ (p:List Key×W) (q:List Key×V)=>p.1=q.1/\RepW K H p.2 q.2) kvs l
 | .ins C fs=>∃ dx l,H a=some (.ins C dx l)/\Paired (λ (p:Str×W) (q:Str×V)=>p.1=q.1/\RepW K H p.2 q.2) fs l
 | .tup ws=>∃ vs,H a=some (.tup vs)/\RepWs K H ws vs
 | .flst ws=>∃ o vs,H a=some (.frz o (.frz o (.lst vs)))/\RepWs K H ws vs
 | .exc C fs=>∃ φ dct,H a=some (.ext φ)/\(∀ h,φ h->∃ vs,h.get? a=some { cls:=.ref C,dict:=dct,data:=.fields vs }) /\
   ((dct=none/\fs=[])\/∃ dx o l,dct=some dx/\H dx=some (.frz o (.xd l))/\Paired (λ (p:Str×W) (q:Str×V)=>p.1=q.1/\RepW K H p.2 q.2) fs l)
 | .code q pos=>∃ ps,H a=some (.tbl ps)/\TriplesOk ps.toList/\(codeAmong pos ps.toList=none\/∃ c o vs t,codeAmong pos ps.toList=some (.ref c)/\H c=some (.frz o (.own 0))/\o.data=.fields vs/\vs[1]? = some (.str q t))
noncomputable def MAbs (K:PySem.W.Frag)(H:Hp)(M:MH):Prop:=∀ a o,M a=some o->RepM K H a o
theorem RepM.is {K:PySem.W.Frag}{H:Hp}{a:Addr}{o:MO}(h:RepM K H a o):∃ u,H a=some u:=by
 cases o with
 | lst ws=>obtain ⟨vs,e,_⟩:=h; exact ⟨_,e⟩
 | dic kvs=>obtain ⟨l,e,_⟩:=h; exact ⟨_,e⟩
 | dct kvs=>obtain ⟨l,e,_⟩:=h; exact ⟨_,e⟩
 | fdic kvs=>obtain ⟨o,l,e,_⟩:=h; exact ⟨_,e⟩
 | ins C fs=>obtain ⟨dx,l,e,_⟩:=h; exact ⟨_,e⟩
 | tup ws=>obtain ⟨vs,e,_⟩:=h; exact ⟨_,e⟩
 | flst ws=>obtain ⟨o,vs,e,_⟩:=h; exact ⟨_,e⟩
 | exc C fs=>obtain ⟨φ,dct,e,_⟩:=h; exact ⟨_,e⟩
 | code q pos=>obtain ⟨ps,e,_⟩:=h; exact ⟨_,e⟩
theorem MAbs.free {K:PySem.W.Frag}{H:Hp}{M:MH}(h:MAbs K H M){p:Addr}(e:H p=none):M p=none:=by
 cases q:M p with
 | none=>rfl
 | some o =>
  obtain ⟨u,z⟩:=(h p o q).is
  rw [e] at z
  cases z
theorem RepM.keep {K:PySem.W.Frag}{H H':Hp}{a:Addr}{o:MO}(k:Kp H H')(s:∀ u,H a=some u->H' a=some u)(h:RepM K H a o):RepM K H' a o:=by
 cases o with
 | lst ws=>obtain ⟨vs,e,r⟩:=h; exact ⟨vs,s _ e,r.keep k⟩
 | dic kvs=>obtain ⟨l,e,r⟩:=h; exact ⟨l,s _ e,Paired.mapP r λ p q z=>⟨z.1,z.2.keep k⟩⟩
 | dct kvs=>obtain ⟨l,e,r⟩:=h; exact ⟨l,s _ e,Paired.mapP r λ p q z=>⟨z.1,z.2.keep k⟩⟩
 | fdic kvs=>obtain ⟨o,l,e,r⟩:=h; exact ⟨o,l,s _ e,Paired.mapP r λ p q z=>⟨z.1,z.2.keep k⟩⟩
 | ins C fs=>obtain ⟨dx,l,e,r⟩:=h; exact ⟨dx,l,s _ e,Paired.mapP r λ p q z=>⟨z.1,z.2.keep k⟩⟩
 | tup ws=>obtain ⟨vs,e,r⟩:=h; exact ⟨vs,s _ e,r.keep k⟩
 | flst ws=>obtain ⟨o,vs,e,r⟩:=h; exact ⟨o,vs,s _ e,r.keep k⟩
 | exc C fs =>
  obtain ⟨φ,dct,e,p,r⟩:=h
  refine ⟨φ,dct,s _ e,p,?_⟩
  rcases r with r | ⟨dx,o,l,e1,e2,r⟩
  ·exact .inl r
  ·exact .inr ⟨dx,o,l,e1,k.frz _ _ _ e2,Paired.mapP r λ p q z=>⟨z.1,z.2.keep k⟩⟩
 | code q pos =>
  obtain ⟨ps,e,ht,hc⟩:=h
  refine ⟨ps,s _ e,ht,?_⟩
  rcases hc with hc | ⟨c,o,vs,t,e1,e2,e3⟩
  ·exact .inl hc
  ·exact .inr ⟨c,o,vs,t,e1,k.frz _ _ _ e2,e3⟩
theorem MAbs.new {K:PySem.W.Frag}{H:Hp}{M:MH}{p:Addr}{o:HO}(h:MAbs K H M)(e:H p=none):MAbs K (upd H p o) M:=λ a mo q =>
 (h a mo q).keep (Kp.new e) λ u z=>by rw [upd_ne (ne_of_none z e)]; exact z
theorem MAbs.put {K:PySem.W.Frag}{H:Hp}{M:MH}{p:Addr}{o:HO}{mo:MO}(h:MAbs K H M)(k:Kp H (upd H p o))(r:RepM K (upd H p o) p mo):MAbs K (upd H p o) (updM M p mo):=λ a mo' q=>by
 by_cases e:a=p
 ·subst e
  rw [updM_same] at q
  cases q
  exact r
 ·rw [updM_ne e] at q
  exact (h a mo' q).keep k λ u z=>by rw [upd_ne e]; exact z
structure Abs (K:PySem.W.Frag)(H:Hp)(σ:St)(τ:DS)(M:MH):Prop where
 len:σ.length=τ.length
 val:∀ (i:Nat) w,τ[i]? = some (some w)->∃ v,σ[i]? = some (some v)/\RepW K H w v
 mem:MAbs K H M
theorem Abs.go {K:PySem.W.Frag}{H H':Hp}{σ:St}{τ:DS}{M M':MH}(h:Abs K H σ τ M)(k:Kp H H')(m:MAbs K H' M'):Abs K H' σ τ M' :=
 ⟨h.len,λ i w e=>let ⟨v,q,r⟩:=h.val i w e; ⟨v,q,r.keep k⟩,m⟩
theorem Abs.set {K:PySem.W.Frag}{H:Hp}{σ:St}{τ:DS}{M:MH}{w:W}{v:V}(h:Abs K H σ τ M)(i:Nat)(r:RepW K H w v):Abs K H (σ.set i (some v)) (τ.set i (some w)) M:=by
 refine ⟨by rw [List.length_set,List.length_set]; exact h.len,λ j w' e=>?_,h.mem⟩
 by_cases hj:i=j
 ·subst hj
  have hl:i < τ.length:=by
   have:=(List.getElem?_eq_some_iff.mp e).1
   rwa [List.length_set] at this
  rw [List.getElem?_set_self hl] at e
  cases e
  exact ⟨v,List.getElem?_set_self (by rw [h.len]; exact hl),r⟩
 ·rw [List.getElem?_set_ne hj] at e
  obtain ⟨v',q,r'⟩:=h.val j w' e
  exact ⟨v',by rw [List.getElem?_set_ne hj]; exact q,r'⟩
noncomputable abbrev QD:=W->MH->Prop
noncomputable abbrev TD:=DS->MH->QD->Prop
noncomputable abbrev TTd:=DS->MH->(Bool->MH->Prop)->Prop
noncomputable abbrev TAd:=DS->MH->(List W->MH->Prop)->Prop
structure Ed where
 nx:DS->MH->Prop
 rt:QD
 bk:DS->MH->Prop:=λ _ _=>False
 ct:DS->MH->Prop:=λ _ _=>False
noncomputable abbrev TSd:=Ed->DS->MH->Prop
noncomputable def up (K:PySem.W.Frag)(t:TD):TE:=λ σ H Q=>∃ τ M Qd,Abs K H σ τ M/\t τ M Qd/\∀ v H' w M',Kp H H'->RepW K H' w v->MAbs K H' M'->Qd w M'->Q v H'
noncomputable def upT (K:PySem.W.Frag)(t:TTd):TT:=λ σ H Q=>∃ τ M Qd,Abs K H σ τ M/\t τ M Qd/\∀ b H' M',Kp H H'->MAbs K H' M'->Qd b M'->Q b H'
noncomputable def upA (K:PySem.W.Frag)(t:TAd):TA:=λ σ H Q=>∃ τ M Qd,Abs K H σ τ M/\t τ M Qd/\∀ vs H' ws M',Kp H H'->RepWs K H' ws vs->MAbs K H' M'->Qd ws M'->Q vs H'
noncomputable def upS (K:PySem.W.Frag)(t:TSd):TS:=λ D σ H=>∃ τ M Dd,Abs K H σ τ M/\t Dd τ M /\
 (∀ σ' H' τ' M',Kp H H'->Abs K H' σ' τ' M'->Dd.nx τ' M'->D.nx σ' H')/\(∀ v H' w M',Kp H H'->RepW K H' w v->MAbs K H' M'->Dd.rt w M'->D.rt v H') /\
 (∀ σ' H' τ' M',Kp H H'->Abs K H' σ' τ' M'->Dd.bk τ' M'->D.bk σ' H')/\(∀ σ' H' τ' M',Kp H H'->Abs K H' σ' τ' M'->Dd.ct τ' M'->D.ct σ' H')
section
variable {X:Cx}
noncomputable abbrev PD (X:Cx)(e:Expr)(t:TD):Prop:=PE X e (up X.K t)
noncomputable abbrev PTd (X:Cx)(e:Expr)(t:TTd):Prop:=PT X e (upT X.K t)
noncomputable abbrev PAd (X:Cx)(es:List Expr)(t:TAd):Prop:=PA X es (upA X.K t)
noncomputable abbrev PSd (X:Cx)(st:Stmt)(t:TSd):Prop:=PS X st (upS X.K t)
noncomputable abbrev PSsd (X:Cx)(st:List Stmt)(t:TSd):Prop:=PSs X st (upS X.K t)
theorem pe_w {e:Expr}{t t':TE}(h:PE X e t)(k:∀ σ H Q,t' σ H Q->t σ H Q):PE X e t':=λ pins s σ H Q I q=>h pins s σ H Q I (k σ H Q q)
theorem pt_w {e:Expr}{t t':TT}(h:PT X e t)(k:∀ σ H Q,t' σ H Q->t σ H Q):PT X e t':=λ pins s σ H Q I q=>h pins s σ H Q I (k σ H Q q)
theorem pa_w {es:List Expr}{t t':TA}(h:PA X es t)(k:∀ σ H Q,t' σ H Q->t σ H Q):PA X es t':=λ pos pins s σ H Q I q=>h pos pins s σ H Q I (k σ H Q q)
theorem ps_w {st:Stmt}{t t':TS}(h:PS X st t)(k:∀ D σ H,t' D σ H->t D σ H):PS X st t':=λ pins s σ H D I q=>h pins s σ H D I (k D σ H q)
theorem pss_w {st:List Stmt}{t t':TS}(h:PSs X st t)(k:∀ D σ H,t' D σ H->t D σ H):PSs X st t':=λ pins s σ H D I q=>h pins s σ H D I (k D σ H q)
end
end D
namespace D
open PySem PySem.Spec PyProof.Rows L2
section
variable {X:Cx}{pos:Pos}{a b c e:Expr}{ta tb tc te:TD}{K:PySem.W.Frag}
noncomputable abbrev Kont (K:PySem.W.Frag)(H:Hp)(Qd:QD)(Q:VK):Prop:=∀ v H' w M',Kp H H'->RepW K H' w v->MAbs K H' M'->Qd w M'->Q v H'
theorem kgo {H H1:Hp}{Qd:QD}{Q:VK}(k:Kont K H Qd Q)(kp:Kp H H1):Kont K H1 Qd Q:=λ v H' w M' k2 r m q=>k v H' w M' (kp.trans k2) r m q
inductive DVar (i:Nat) (τ:DS) (M:MH) (Q:QD):Prop
 | mk (w:W) (z:τ[i]? = some (some w)) (q:Q w M):DVar i τ M Q
noncomputable def dVar (i:Nat)(τ:DS)(M:MH)(Q:QD):Prop:=DVar i τ M Q
theorem pd_var {i:Nat}(h:PE X e (tVar i)):PD X e (dVar i):=pe_w h λ σ H Q hq35=>by
 obtain ⟨τ,M,Qd,A,⟨w,e,q⟩,k⟩:=hq35
 obtain ⟨v,e',r⟩:=A.val i w e
 exact ⟨v,e',k v H w M (Kp.refl H) r A.mem q⟩
theorem dv (i:Nat){x:Str}{pos:Pos}(hN:X.N[i]? = some x:=by rfl)(hv:Vis X.env.scope x:=by first | exact Or.inl rfl | exact Or.inr (Or.inl rfl) | exact Or.inr (Or.inr rfl))(hd:(x == ("__debug__" : Str))=false:=by decide)
  (hcd:(x == ("__classdict__" : Str))=false:=by decide):PD X (.Name x pos) (dVar i):=pd_var (pe_var hN hv hd hcd)
noncomputable def dC (w:W)(_:DS)(M:MH)(Q:QD):Prop:=Q w M
theorem pd_c {v:V}{w:W}(h:PE X e (tC v))(r:∀ H,RepW X.K H w v):PD X e (dC w):=pe_w h λ σ H Q ⟨τ,M,Qd,A,q,k⟩=>k v H w M (Kp.refl H) (r H) A.mem q
theorem pd_int {i j pos}:PD X (.Constant (.int i) j pos) (dC (.d (.int i))):=pd_c pe_int λ H=>by simp [RepW,RepD]
theorem pd_bl {b j pos}:PD X (.Constant (.bool b) j pos) (dC (.d (.bool b))):=pd_c pe_bl λ H=>by simp [RepW,RepD]
theorem pd_non {j pos}:PD X (.Constant .none j pos) (dC (.d .none)):=pd_c pe_non λ H=>by simp [RepW,RepD]
theorem pd_str {x j pos}:PD X (.Constant (.str x) j pos) (dC (.d (.str x))):=pd_c pe_str λ H=>by simp [RepW,RepD]
theorem pd_globI {x:Str}{i:Int}{t:Tok}{pos:Pos}(hg:Gl X x)(hm:X.mg x=some (.int i t))(hd:(x == ("__debug__" : Str))=false:=by decide):PD X (.Name x pos) (dC (.d (.int i))):=pd_c (pe_glob (v:=.int i) hg hm ⟨t,rfl⟩ hd) λ H=>by simp [RepW,RepD]
theorem pd_globS {x:Str}{i:Str}{t:Tok}{pos:Pos}(hg:Gl X x)(hm:X.mg x=some (.str i t))(hd:(x == ("__debug__" : Str))=false:=by decide):PD X (.Name x pos) (dC (.d (.str i))):=pd_c (pe_glob (v:=.str i) hg hm ⟨t,rfl⟩ hd) λ H=>by simp [RepW,RepD]
theorem pd_type {x:Str}{n:String}{pos:Pos}(hg:Gl X x)(hm:X.mg x=none)(hv:bootBuiltins x=some (.type n))(hn:x ≠ "__name__" := by decide)(hd:(x == ("__debug__" : Str))=false:=by decide):PD X (.Name x pos) (dC (.t n)) :=
 pd_c (pe_bltn (v:=.ty n) hg hm hv rfl hn hd) λ H=>by simp [RepW]
noncomputable def OpD (K:PySem.W.Frag)(r:R2)(rd:W->W->MH->QD->Prop):Prop:=∀ x y H w w' M Qd Q,RepW K H w x->RepW K H w' y->MAbs K H M->rd w w' M Qd->Kont K H Qd Q->r x y H Q
noncomputable def dOp (rd:W->W->MH->QD->Prop)(ta tb:TD)(τ:DS)(M:MH)(Q:QD):Prop:=ta τ M λ w M1=>tb τ M1 λ w' M2=>rd w w' M2 Q
theorem imp_op {r:R2}{rd:W->W->MH->QD->Prop}(hd:OpD K r rd){σ:St}{H:Hp}{Q:VK}(h:up K (dOp rd ta tb) σ H Q):tOp r (up K ta) (up K tb) σ H Q:=by
 obtain ⟨τ,M,Qd,A,h,k⟩:=h
 refine ⟨τ,M,_,A,h,λ x H1 w M1 kp r1 m1 q1=>⟨τ,M1,_,A.go kp m1,q1,λ y H2 w' M2 kp2 r2 m2 q2=>?_⟩⟩
 exact hd x y H2 w w' M2 Qd Q (r1.keep kp2) r2 m2 q2 (kgo k (kp.trans kp2))
theorem pd_op {op:Operator}{r:R2}{rd:W->W->MH->QD->Prop}(ho:OpR X (binaryOp op) r)(hd:OpD X.K r rd)(ha:PD X a ta)(hb:PD X b tb):PD X (.BinOp a op b pos) (dOp rd ta tb):=pe_w (pe_op ho ha hb) λ σ H Q h=>imp_op hd h
theorem pd_cmp {op:CmpOp}{r:R2}{rd:W->W->MH->QD->Prop}(ho:OpR X (compareOp op) r)(hd:OpD X.K r rd)(ha:PD X a ta)(hb:PD X b tb)(hm:behindInMarks op b=false:=by first | exact nobehind _ (by decide) (by decide) | rfl) :
  PD X (.Compare a [op] [b] pos) (dOp rd ta tb):=pe_w (pe_cmpR ho ha hb hm) λ σ H Q h=>imp_op hd h
theorem pd_ix {r:R2}{rd:W->W->MH->QD->Prop}(hr:IxR X r)(hd:OpD X.K r rd)(ha:PD X a ta)(hb:PD X b tb)(hs:PlainIx b:=by intro _ _; rfl):PD X (.Subscript a b pos) (dOp rd ta tb):=pe_w (pe_ix hr ha hb hs) λ σ H Q h=>imp_op hd h
noncomputable def dTest (t:TD)(τ:DS)(M:MH)(Q:Bool->MH->Prop):Prop:=t τ M λ w M1=>∃ k,w=.d (.bool k)/\Q k M1
theorem imp_test {t':TE}(hi:∀ σ H Q,up K ta σ H Q->t' σ H Q){σ:St}{H:Hp}{Q:Bool->Hp->Prop}(h:upT K (dTest ta) σ H Q):tTest t' σ H Q:=by
 obtain ⟨τ,M,Qd,A,h,k⟩:=h
 refine hi σ H _ ⟨τ,M,_,A,h,λ v H' w M' kp r m hq36=>?_⟩
 obtain ⟨b,e,q⟩:=hq36
 subst e
 simp only [RepW,RepD] at r
 exact ⟨b,r,k b H' M' kp m q⟩
theorem ptd_cmp {op:CmpOp}{r:R2}{rd:W->W->MH->QD->Prop}(ho:OpR X (compareOp op) r)(hd:OpD X.K r rd)(ha:PD X a ta)(hb:PD X b tb)(hm:behindInMarks op b=false:=by first | exact nobehind _ (by decide) (by decide) | rfl) :
  PTd X (.Compare a [op] [b] pos) (dTest (dOp rd ta tb)):=pt_w (pt_cmpR ho ha hb hm) λ σ H Q h=>imp_test (λ _ _ _ q=>imp_op hd q) h
theorem ptd_val (h:PD X e te)(he:∀ whole,isTrue e X.env whole=(do let v <- whole; standAt e.pos; holding [v] (truthy v)):=by intro _; rfl):PTd X e (dTest te):=pt_w (pt_val h he) λ σ H Q q=>imp_test (λ _ _ _ z=>z) q
noncomputable def dChain (r r':W->W->MH->QD->Prop)(ta tb tc:TD)(τ:DS)(M:MH)(Q:QD):Prop:=ta τ M λ x M1=>tb τ M1 λ y M2=>r x y M2 λ z M3=>∃ k,z=.d (.bool k)/\(if k=true then tc τ M3 λ w' M4=>r' y w' M4 Q else Q (.d (.bool false)) M3)
theorem imp_chain {r r':R2}{rd rd':W->W->MH->QD->Prop}(hd:OpD K r rd)(hd':OpD K r' rd'){σ:St}{H:Hp}{Q:VK}(h:up K (dChain rd rd' ta tb tc) σ H Q):tChain r r' (up K ta) (up K tb) (up K tc) σ H Q:=by
 obtain ⟨τ,M,Qd,A,h,k⟩:=h
 refine ⟨τ,M,_,A,h,λ x H1 w M1 kp r1 m1 q1=>⟨τ,M1,_,A.go kp m1,q1,λ y H2 w' M2 kp2 r2 m2 q2=>?_⟩⟩
 have kq:=kp.trans kp2
 refine hd x y H2 w w' M2 _ _ (r1.keep kp2) r2 m2 q2 λ v H3 w'' M3 kp3 r3 m3 hq37=>?_
 obtain ⟨b,e,q3⟩:=hq37
 subst e
 simp only [RepW,RepD] at r3
 refine ⟨b,r3,?_⟩
 have kr:=kq.trans kp3
 cases b with
 | false =>
  rw [if_neg Bool.false_ne_true] at q3 ⊢
  exact k _ H3 _ M3 kr (by simp [RepW,RepD]) m3 q3
 | true =>
  rw [if_pos rfl] at q3 ⊢
  exact ⟨τ,M3,_,A.go kr m3,q3,λ u H4 w4 M4 kp4 r4 m4 q4=>hd' y u H4 w' w4 M4 Qd Q (r2.keep (kp3.trans kp4)) r4 m4 q4 (kgo k (kr.trans kp4))⟩
theorem pd_chain {op op':CmpOp}{r r':R2}{rd rd':W->W->MH->QD->Prop}(ho:OpR X (compareOp op) r)(hd:OpD X.K r rd)(ho':OpR X (compareOp op') r')(hd':OpD X.K r' rd')(ha:PD X a ta)(hb:PD X b tb)(hc:PD X c tc)
  (hm:lastMarks [op,op'] [b,c]=false:=by with_unfolding_all rfl):PD X (.Compare a [op,op'] [b,c] pos) (dChain rd rd' ta tb tc):=pe_w (pe_chain ho ho' ha hb hc hm) λ σ H Q h=>imp_chain hd hd' h
theorem ptd_chain {op op':CmpOp}{r r':R2}{rd rd':W->W->MH->QD->Prop}(ho:OpR X (compareOp op) r)(hd:OpD X.K r rd)(ho':OpR X (compareOp op') r')(hd':OpD X.K r' rd')(ha:PD X a ta)(hb:PD X b tb)(hc:PD X c tc)
  (hm:lastMarks [op,op'] [b,c]=false:=by with_unfolding_all rfl):PTd X (.Compare a [op,op'] [b,c] pos) (dTest (dChain rd rd' ta tb tc)):=pt_w (pt_chain ho ho' ha hb hc hm) λ σ H Q h=>imp_test (λ _ _ _ q=>imp_chain hd hd' q) h
noncomputable def UnD (K:PySem.W.Frag)(r:V->Hp->VK->Prop)(rd:W->MH->QD->Prop):Prop:=∀ x H w M Qd Q,RepW K H w x->MAbs K H M->rd w M Qd->Kont K H Qd Q->r x H Q
noncomputable def dUn (rd:W->MH->QD->Prop)(ta:TD)(τ:DS)(M:MH)(Q:QD):Prop:=ta τ M λ w M1=>rd w M1 Q
theorem pd_un {op:UnaryOp}{r:V->Hp->VK->Prop}{rd:W->MH->QD->Prop}(ho:UnR X (unaryOp op) r)(hd:UnD X.K r rd)(ha:PD X a ta):PD X (.UnaryOp op a pos) (dUn rd ta):=pe_w (pe_un ho ha) λ σ H Q h=>by
 obtain ⟨τ,M,Qd,A,h,k⟩:=h
 exact ⟨τ,M,_,A,h,λ x H1 w M1 kp r1 m1 q1=>hd x H1 w M1 Qd Q r1 m1 q1 (kgo k kp)⟩
variable {tA tB:TTd}{rest:List Expr}
noncomputable def dAnd (t u:TTd)(τ:DS)(M:MH)(Q:Bool->MH->Prop):Prop:=t τ M λ k M1=>if k=true then u τ M1 Q else Q false M1
noncomputable def dOr (t u:TTd)(τ:DS)(M:MH)(Q:Bool->MH->Prop):Prop:=t τ M λ k M1=>if k=true then Q true M1 else u τ M1 Q
noncomputable def dNot (t:TTd)(τ:DS)(M:MH)(Q:Bool->MH->Prop):Prop:=t τ M λ k M1=>Q (!k) M1
noncomputable abbrev PWd (X:Cx)(e:Expr)(t:TTd):Prop:=PW X e (upT X.K t)
theorem pw_w {e:Expr}{t t':TT}(h:PW X e t)(k:∀ σ H Q,t' σ H Q->t σ H Q):PW X e t':=λ w pins s σ H Q I q=>h w pins s σ H Q I (k σ H Q q)
theorem pwd_and1 (ha:PTd X a tA):PWd X (.BoolOp .And [a] pos) tA:=pw_and1 ha
theorem pwd_or1 (ha:PTd X a tA):PWd X (.BoolOp .Or [a] pos) tA:=pw_or1 ha
theorem pwd_and (ha:PTd X a tA)(hb:PWd X (.BoolOp .And (b :: rest) pos) tB):PWd X (.BoolOp .And (a :: b :: rest) pos) (dAnd tA tB):=pw_w (pw_and ha hb) λ σ H Q h=>by
 obtain ⟨τ,M,Qd,A,h,k⟩:=h
 refine ⟨τ,M,_,A,h,λ b H1 M1 kp m1 q1=>?_⟩
 cases b with
 | true=>rw [if_pos rfl] at q1 ⊢; exact ⟨τ,M1,Qd,A.go kp m1,q1,λ b H2 M2 kp2 m2 q2=>k b H2 M2 (kp.trans kp2) m2 q2⟩
 | false=>rw [if_neg Bool.false_ne_true] at q1 ⊢; exact k _ H1 M1 kp m1 q1
theorem pwd_or (ha:PTd X a tA)(hb:PWd X (.BoolOp .Or (b :: rest) pos) tB):PWd X (.BoolOp .Or (a :: b :: rest) pos) (dOr tA tB):=pw_w (pw_or ha hb) λ σ H Q h=>by
 obtain ⟨τ,M,Qd,A,h,k⟩:=h
 refine ⟨τ,M,_,A,h,λ b H1 M1 kp m1 q1=>?_⟩
 cases b with
 | false=>rw [if_neg Bool.false_ne_true] at q1 ⊢; exact ⟨τ,M1,Qd,A.go kp m1,q1,λ b H2 M2 kp2 m2 q2=>k b H2 M2 (kp.trans kp2) m2 q2⟩
 | true=>rw [if_pos rfl] at q1 ⊢; exact k _ H1 M1 kp m1 q1
theorem ptd_w (h:PWd X e tA):PTd X e tA:=h.pt
theorem ptd_not (ha:PTd X a tA):PTd X (.UnaryOp .Not a pos) (dNot tA):=pt_w (pt_not ha) λ σ H Q h=>by
 obtain ⟨τ,M,Qd,A,h,k⟩:=h
 exact ⟨τ,M,_,A,h,λ b H1 M1 kp m1 q1=>k (!b) H1 M1 kp m1 q1⟩
noncomputable def dAndV (ta tb:TD)(τ:DS)(M:MH)(Q:QD):Prop:=ta τ M λ x M1=>∃ k,x=.d (.bool k)/\if k=true then tb τ M1 Q else Q (.d (.bool false)) M1
noncomputable def dOrV (ta tb:TD)(τ:DS)(M:MH)(Q:QD):Prop:=ta τ M λ x M1=>∃ k,x=.d (.bool k)/\if k=true then Q (.d (.bool true)) M1 else tb τ M1 Q
noncomputable def dNotV (ta:TD)(τ:DS)(M:MH)(Q:QD):Prop:=ta τ M λ x M1=>∃ k,x=.d (.bool k)/\Q (.d (.bool (!k))) M1
theorem pd_one {op}(h:PD X a ta):PD X (.BoolOp op [a] pos) ta:=pe_one h
theorem pd_and (ha:PD X a ta)(hb:PD X (.BoolOp .And (b :: rest) pos) tb):PD X (.BoolOp .And (a :: b :: rest) pos) (dAndV ta tb):=pe_w (pe_and ha hb) λ σ H Q h=>by
 obtain ⟨τ,M,Qd,A,h,k⟩:=h
 refine ⟨τ,M,_,A,h,λ x H1 w M1 kp r1 m1 hq38=>?_⟩
 obtain ⟨b,e,q1⟩:=hq38
 subst e
 simp only [RepW,RepD] at r1
 refine ⟨b,r1,?_⟩
 cases b with
 | true=>rw [if_pos rfl] at q1 ⊢; exact ⟨τ,M1,Qd,A.go kp m1,q1,kgo k kp⟩
 | false=>rw [if_neg Bool.false_ne_true] at q1 ⊢; exact k _ H1 _ M1 kp (by simp [RepW,RepD]) m1 q1
theorem pd_or (ha:PD X a ta)(hb:PD X (.BoolOp .Or (b :: rest) pos) tb):PD X (.BoolOp .Or (a :: b :: rest) pos) (dOrV ta tb):=pe_w (pe_or ha hb) λ σ H Q h=>by
 obtain ⟨τ,M,Qd,A,h,k⟩:=h
 refine ⟨τ,M,_,A,h,λ x H1 w M1 kp r1 m1 hq39=>?_⟩
 obtain ⟨b,e,q1⟩:=hq39
 subst e
 simp only [RepW,RepD] at r1
 refine ⟨b,r1,?_⟩
 cases b with
 | false=>rw [if_neg Bool.false_ne_true] at q1 ⊢; exact ⟨τ,M1,Qd,A.go kp m1,q1,kgo k kp⟩
 | true=>rw [if_pos rfl] at q1 ⊢; exact k _ H1 _ M1 kp (by simp [RepW,RepD]) m1 q1
theorem pd_not (ha:PD X a ta):PD X (.UnaryOp .Not a pos) (dNotV ta):=pe_w (pe_not ha) λ σ H Q h=>by
 obtain ⟨τ,M,Qd,A,h,k⟩:=h
 refine ⟨τ,M,_,A,h,λ x H1 w M1 kp r1 m1 hq40=>?_⟩
 obtain ⟨b,e,q1⟩:=hq40
 subst e
 simp only [RepW,RepD] at r1
 exact ⟨b,r1,k _ H1 _ M1 kp (by simp [RepW,RepD]) m1 q1⟩
noncomputable def dIfE (t:TTd)(ta tb:TD)(τ:DS)(M:MH)(Q:QD):Prop:=t τ M λ k M1=>if k=true then ta τ M1 Q else tb τ M1 Q
theorem pd_ifExp {c:Expr}(hc:PTd X c tA)(ha:PD X a ta)(hb:PD X b tb):PD X (.IfExp c a b pos) (dIfE tA ta tb):=pe_w (pe_ifExp hc ha hb) λ σ H Q h=>by
 obtain ⟨τ,M,Qd,A,h,k⟩:=h
 refine ⟨τ,M,_,A,h,λ b H1 M1 kp m1 q1=>?_⟩
 cases b with
 | true=>rw [if_pos rfl] at q1 ⊢; exact ⟨τ,M1,Qd,A.go kp m1,q1,kgo k kp⟩
 | false=>rw [if_neg Bool.false_ne_true] at q1 ⊢; exact ⟨τ,M1,Qd,A.go kp m1,q1,kgo k kp⟩
variable {es:List Expr}{t:TAd}
noncomputable def dNil (_:DS)(M:MH)(Q:List W->MH->Prop):Prop:=Q [] M
noncomputable def dCons (ta:TD)(tr:TAd)(τ:DS)(M:MH)(Q:List W->MH->Prop):Prop:=ta τ M λ w M1=>tr τ M1 λ ws M2=>Q (w :: ws) M2
theorem pad_nil:PAd X [] dNil:=pa_w pa_nil λ σ H Q ⟨τ,M,Qd,A,h,k⟩=>k [] H [] M (Kp.refl H) .nil A.mem h
theorem pad_cons (ha:PD X e te)(hr:PAd X es t)(hs:starEach (e :: es) X.env=(false,eval e X.env) :: starEach es X.env:=by rfl):PAd X (e :: es) (dCons te t):=pa_w (pa_cons ha hr hs) λ σ H Q h=>by
 obtain ⟨τ,M,Qd,A,h,k⟩:=h
 exact ⟨τ,M,_,A,h,λ x H1 w M1 kp r1 m1 q1=>⟨τ,M1,_,A.go kp m1,q1,λ xs H2 ws M2 kp2 r2 m2 q2=>k _ H2 _ M2 (kp.trans kp2) (.cons (r1.keep kp2) r2) m2 q2⟩⟩
noncomputable def datas:List W->Option (List PyData)
 | []=>some []
 | .d x :: r=>(datas r).map (x :: ·)
 | _ :: _=>none
theorem datas_eq:∀ {ws:List W} {ds:List PyData},datas ws=some ds->ws=ds.map W.d
 | [],ds,h=>by simp only [datas] at h; cases h; rfl
 | .d x :: r,ds,h=>by
  simp only [datas] at h
  cases q:datas r with
  | none=>rw [q] at h; cases h
  | some l=>rw [q] at h; cases h; rw [datas_eq q]; rfl
 | .m _ :: _,ds,h=>by simp [datas] at h
 | .t _ :: _,ds,h=>by simp [datas] at h
noncomputable def dLst (t:TAd)(τ:DS)(M:MH)(Q:QD):Prop:=t τ M λ ws M1=>∃ ds,datas ws=some ds/\ds.length<=sizeLine/\Q (.d (.list ds)) M1
theorem frz_new {H:Hp}{p:Addr}{o:Obj}{vs:List V}{ds:List PyData}(hp:H p=none)(r:RepA K H ds vs):RepD K (upd H p (.frz o (.lst vs))) (.list ds) (.ref p):=by
 simp only [RepD]
 exact ⟨p,vs,rfl,.inl ⟨o,upd_same⟩,r.keep (Kp.new hp)⟩
theorem imp_frz {H:Hp}{vs:List V}{ds:List PyData}{M:MH}{Qd:QD}{Q:VK}{p:Addr}(hp:H p=none)(r:RepA K H ds vs)(m:MAbs K H M)(q:Qd (.d (.list ds)) M)(k:Kont K H Qd Q) :
  ∃ p' u,V.ref p=.ref p'/\(upd H p (.lst vs)) p'=some u/\Fz u/\∀ o,Q (.ref p) (upd (upd H p (.lst vs)) p' (.frz o u)):=by
 refine ⟨p,_,rfl,upd_same,trivial,λ o=>?_⟩
 rw [upd_upd]
 exact k _ _ (.d (.list ds)) M (Kp.new hp) (frz_new hp r) (m.new hp) q
theorem pd_lst (h:PAd X es t):PD X (.List es pos) (dLst t):=pe_w (pe_frz (pe_lst h)) λ σ H Q h=>by
 obtain ⟨τ,M,Qd,A,h,k⟩:=h
 refine ⟨τ,M,_,A,h,λ vs H1 ws M1 kp r1 m1 hq41=>?_⟩
 obtain ⟨ds,e,hz,q1⟩:=hq41
 have e':=datas_eq e
 subst e'
 have rA:=r1.data
 exact ⟨by rw [rA.length]; exact hz,λ p hp=>imp_frz hp rA m1 q1 (kgo k kp)⟩
noncomputable def dLstM (t:TAd)(τ:DS)(M:MH)(Q:QD):Prop:=t τ M λ ws M1=>ws.length<=sizeLine/\∀ p,M1 p=none->Q (.m p) (updM M1 p (.lst ws))
theorem pd_lstM (h:PAd X es t):PD X (.List es pos) (dLstM t):=pe_w (pe_lst h) λ σ H Q h=>by
 obtain ⟨τ,M,Qd,A,h,k⟩:=h
 refine ⟨τ,M,_,A,h,λ vs H1 ws M1 kp r1 m1 ⟨hz,q1⟩=>⟨by rw [<- r1.length]; exact hz,λ p hp=>?_⟩⟩
 exact k _ _ (.m p) (updM M1 p (.lst ws)) (kp.trans (Kp.new hp)) rfl (m1.put (mo:=.lst ws) (Kp.new hp) ⟨vs,upd_same,r1.keep (Kp.new hp)⟩) (q1 p (m1.free hp))
noncomputable def dTup (t:TAd)(τ:DS)(M:MH)(Q:QD):Prop:=t τ M λ ws M1=>∃ ds,datas ws=some ds/\ds.length<=sizeLine/\Q (.d (.tuple ds)) M1
theorem pd_tup {x1}(h:PAd X es t):PD X (.Tuple es x1 pos) (dTup t):=pe_w (pe_tup h) λ σ H Q h=>by
 obtain ⟨τ,M,Qd,A,h,k⟩:=h
 refine ⟨τ,M,_,A,h,λ vs H1 ws M1 kp r1 m1 hq42=>?_⟩
 obtain ⟨ds,e,hz,q1⟩:=hq42
 have e':=datas_eq e
 subst e'
 have rA:=r1.data
 refine ⟨by rw [rA.length]; exact hz,λ p hp=>k _ _ (.d (.tuple ds)) M1 (kp.trans (Kp.new hp)) ?_ (m1.new hp) q1⟩
 simp only [RepW,RepD]
 exact ⟨p,vs,rfl,.inl (.inl upd_same),rA.keep (Kp.new hp)⟩
variable {x:Str}{p:Pos}{id T:String}{r:List V->Hp->VK->Prop}{rd:List W->MH->QD->Prop}
noncomputable def CallD (K:PySem.W.Frag)(r:List V->Hp->VK->Prop)(rd:List W->MH->QD->Prop):Prop:=∀ vs H ws M Qd Q,RepWs K H ws vs->MAbs K H M->rd ws M Qd->Kont K H Qd Q->r vs H Q
noncomputable def dCB (rd:List W->MH->QD->Prop)(t:TAd)(τ:DS)(M:MH)(Q:QD):Prop:=t τ M λ ws M1=>rd ws M1 Q
theorem imp_cb (hd:CallD K r rd){σ:St}{H:Hp}{Q:VK}(h:up K (dCB rd t) σ H Q):tCB r (upA K t) σ H Q:=by
 obtain ⟨τ,M,Qd,A,h,k⟩:=h
 exact ⟨τ,M,_,A,h,λ vs H1 ws M1 kp r1 m1 q1=>hd vs H1 ws M1 Qd Q r1 m1 q1 (kgo k kp)⟩
theorem pd_callB (hc:CallR X (.builtin id) r)(hd:CallD X.K r rd)(hg:Gl X x)(hm:X.mg x=none)(hv:bootBuiltins x=some (.builtin id))(ha:PAd X (e :: es) t)(hn:x ≠ "__name__" := by decide)(hdb:(x == ("__debug__" : Str))=false:=by decide)
  (he:starEach (e :: es) X.env=(false,eval e X.env) :: starEach es X.env:=by rfl)(hpl:(backTo pos (starEach es X.env)).any (·.1)=false:=by rfl):PD X (.Call (.Name x p) (e :: es) [] pos) (dCB rd t) :=
 pe_w (pe_callB hc hg hm hv ha hn hdb he hpl) λ σ H Q h=>imp_cb hd h
theorem pd_callTy (hc:CallR X (.type T) r)(hd:CallD X.K r rd)(hg:Gl X x)(hm:X.mg x=none)(hv:bootBuiltins x=some (.type T))(ha:PAd X (e :: es) t)(hn:x ≠ "__name__" := by decide)(hdb:(x == ("__debug__" : Str))=false:=by decide)
  (he:starEach (e :: es) X.env=(false,eval e X.env) :: starEach es X.env:=by rfl)(hpl:(backTo pos (starEach es X.env)).any (·.1)=false:=by rfl):PD X (.Call (.Name x p) (e :: es) [] pos) (dCB rd t) :=
 pe_w (pe_callTy hc hg hm hv ha hn hdb he hpl) λ σ H Q h=>imp_cb hd h
end
section
variable {X:Cx}{pos:Pos}{st:Stmt}{sts:List Stmt}{t u:TSd}{e:Expr}{te:TD}{K:PySem.W.Frag}
noncomputable def dNext (D:Ed)(τ:DS)(M:MH):Prop:=D.nx τ M
noncomputable def dSeq (t u:TSd)(D:Ed)(τ:DS)(M:MH):Prop:=t { D with nx:=u D } τ M
theorem pssd_nil:PSsd X [] dNext:=pss_w pss_nil λ D σ H ⟨τ,M,Dd,A,h,k1,_⟩=>k1 σ H τ M (Kp.refl H) A h
theorem pssd_cons (h1:PSd X st t)(h2:PSsd X sts u):PSsd X (st :: sts) (dSeq t u):=pss_w (pss_cons h1 h2) λ D σ H ⟨τ,M,Dd,A,h,k1,k2,k3,k4⟩ =>
 ⟨τ,M,{ Dd with nx:=u Dd },A,h,λ σ' H' τ' M' kp A' q=>⟨τ',M',Dd,A',q,λ σ2 H2 τ2 M2 kp2=>k1 σ2 H2 τ2 M2 (kp.trans kp2),λ v H2 w M2 kp2=>k2 v H2 w M2 (kp.trans kp2),λ σ2 H2 τ2 M2 kp2=>k3 σ2 H2 τ2 M2 (kp.trans kp2),λ σ2 H2 τ2 M2 kp2=>k4 σ2 H2 τ2 M2 (kp.trans kp2)⟩,k2,k3,k4⟩
theorem pssd_one (h1:PSd X st t):PSsd X [st] t:=pss_one h1
noncomputable def dDrop (te:TD)(D:Ed)(τ:DS)(M:MH):Prop:=te τ M λ _ M1=>D.nx τ M1
theorem psd_expr (he:PD X e te)(hs:swapsWith e none pos.line X.env=pure false:=by rfl):PSd X (.Expr e pos) (dDrop te):=ps_w (ps_expr he hs) λ D σ H ⟨τ,M,Dd,A,h,k1,_⟩ =>
 ⟨τ,M,_,A,h,λ v H1 w M1 kp r m q=>k1 σ H1 τ M1 kp (A.go kp m) q⟩
noncomputable def dRet (te:TD)(D:Ed)(τ:DS)(M:MH):Prop:=te τ M D.rt
theorem psd_ret (he:PD X e te):PSd X (.Return (some e) pos) (dRet te):=ps_w (ps_ret he) λ D σ H ⟨τ,M,Dd,A,h,k1,k2,_⟩=>⟨τ,M,_,A,h,λ v H1 w M1 kp r m q=>k2 v H1 w M1 kp r m q⟩
noncomputable def dIf (c:TTd)(t u:TSd)(D:Ed)(τ:DS)(M:MH):Prop:=c τ M λ b M1=>if b=true then t D τ M1 else u D τ M1
theorem psd_if {c:Expr}{a b:List Stmt}{tc:TTd}(hc:PTd X c tc)(ha:PSsd X a t)(hb:PSsd X b u):PSd X (.If c a b pos) (dIf tc t u):=ps_w (ps_if hc ha hb) λ D σ H hq43=>by
 obtain ⟨τ,M,Dd,A,h,k1,k2,k3,k4⟩:=hq43
 refine ⟨τ,M,_,A,h,λ b H1 M1 kp m q=>?_⟩
 have go:∀ {t':TSd},t' Dd τ M1->upS X.K t' D σ H1:=λ {t'} q=>⟨τ,M1,Dd,A.go kp m,q,λ σ2 H2 τ2 M2 kp2=>k1 σ2 H2 τ2 M2 (kp.trans kp2),λ v H2 w M2 kp2=>k2 v H2 w M2 (kp.trans kp2),λ σ2 H2 τ2 M2 kp2=>k3 σ2 H2 τ2 M2 (kp.trans kp2),λ σ2 H2 τ2 M2 kp2=>k4 σ2 H2 τ2 M2 (kp.trans kp2)⟩
 cases b with
 | true=>rw [if_pos rfl] at q; show (if true=true then upS X.K t D σ H1 else upS X.K u D σ H1); rw [if_pos rfl]; exact go q
 | false=>rw [if_neg Bool.false_ne_true] at q; show (if false=true then upS X.K t D σ H1 else upS X.K u D σ H1); rw [if_neg Bool.false_ne_true]; exact go q
noncomputable abbrev TGd:=W->DS->MH->(DS->MH->Prop)->Prop
noncomputable def upG (K:PySem.W.Frag)(g:TGd):TG:=λ v σ H Q=>∃ w τ M Qd,RepW K H w v/\Abs K H σ τ M/\g w τ M Qd/\∀ σ' H' τ' M',Kp H H'->Abs K H' σ' τ' M'->Qd τ' M'->Q σ' H'
noncomputable abbrev PGd (X:Cx)(e:Expr)(g:TGd):Prop:=PG X e (upG X.K g)
theorem pg_w {e:Expr}{g g':TG}(h:PG X e g)(k:∀ v σ H Q,g' v σ H Q->g v σ H Q):PG X e g':=λ pins s σ H v u Q I r q=>h pins s σ H v u Q I r (k v σ H Q q)
noncomputable def gN (i:Nat)(w:W)(τ:DS)(M:MH)(Q:DS->MH->Prop):Prop:=Q (τ.set i (some w)) M
theorem pgd_name {i:Nat}{x:Str}(hN:X.N.Nodup)(hi:X.N[i]? = some x)(hx:Loc X.env.scope x)(hf:X.fn x=true\/X.env.scope.names.lookup x=some .local:=by first | exact .inl rfl | exact .inr rfl | assumption):PGd X (.Name x pos) (gN i) :=
 pg_w (pg_name hN hi hx hf) λ v σ H Q ⟨w,τ,M,Qd,r,A,h,k⟩=>k _ H _ M (Kp.refl H) (A.set i r) h
noncomputable def dAsg (te:TD)(g:TGd)(D:Ed)(τ:DS)(M:MH):Prop:=te τ M λ w M1=>g w τ M1 D.nx
theorem imp_asg {g:TGd}{D:Ends}{σ:St}{H:Hp}(h:upS K (dAsg te g) D σ H):tAsg (up K te) (upG K g) D σ H:=by
 obtain ⟨τ,M,Dd,A,h,k1,_⟩:=h
 exact ⟨τ,M,_,A,h,λ v H1 w M1 kp r m q=>⟨w,τ,M1,_,r,A.go kp m,q,λ σ2 H2 τ2 M2 kp2 A2 q2=>k1 σ2 H2 τ2 M2 (kp.trans kp2) A2 q2⟩⟩
theorem psd_asg {tg:Expr}{g:TGd}(he:PD X e te)(hg:PGd X tg g)(hs:swapsWithSole [tg] e pos.line X.env=pure false:=by rfl)(hw:swappedStores [tg] e X.env=pure none:=by rfl)
  (h1:(assignEach [tg] X.env).map (·.2)=[assign tg X.env]:=by rfl):PSd X (.Assign [tg] e pos) (dAsg te g):=ps_w (ps_asg he hg hs hw h1) λ D σ H h=>imp_asg h
theorem psd_set {i:Nat}{x:Str}{pos':Pos}(hN:X.N.Nodup)(hi:X.N[i]? = some x)(hx:Loc X.env.scope x)(he:PD X e te)(hs:swapsWith e (some (.Name x pos')) pos.line X.env=pure false:=by rfl)(hf:X.fn x=true\/X.env.scope.names.lookup x=some .local:=by first | exact .inl rfl | exact .inr rfl | assumption) :
  PSd X (.Assign [.Name x pos'] e pos) (dAsg te (gN i)):=ps_w (ps_set hN hi hx he hs hf) λ D σ H ⟨τ,M,Dd,A,h,k1,_⟩ =>
 ⟨τ,M,_,A,h,λ v H1 w M1 kp r m q=>k1 _ H1 _ M1 kp ((A.go kp m).set i r) q⟩
end
noncomputable abbrev SpD:=List W->MH->QD->Prop
noncomputable def upSp (K:PySem.W.Frag)(sp:SpD):Sp:=λ vs H Q _=>∃ ws M Qd,RepWs K H ws vs/\MAbs K H M/\sp ws M Qd/\Kont K H Qd Q
section
variable {X:Cx}{pos p:Pos}{k:Nat}{f:Addr}{fd:FuncData}{ps:List Str}{sp:SpD}{x:Str}{e:Expr}{es:List Expr}{t:TAd}
noncomputable def dCall (sp:SpD)(t:TAd)(τ:DS)(M:MH)(Q:QD):Prop:=t τ M λ ws M1=>sp ws M1 Q
theorem pd_call (F:FnOk X.prog X.w X.K X.mg X.base CX0 k f fd ps (upSp X.K sp))(hr:Room k X.A)(hg:Gl X x)(hm:X.mg x=some (.ref f))(hk:PySem.W.keepIn X.K (.ref f)=true)(hb:Binds X.K fd ps [])
  (ha:PAd X (e :: es) t)(hdb:(x == ("__debug__" : Str))=false:=by decide)(he:starEach (e :: es) X.env=(false,eval e X.env) :: starEach es X.env:=by rfl)(hpl:(backTo pos (starEach es X.env)).any (·.1)=false:=by rfl) :
  PD X (.Call (.Name x p) (e :: es) [] pos) (dCall sp t):=pe_w (pe_call (E:=E0) (dvs:=[]) F hr hg hm hk hb .nil pass0 ha hdb he hpl) λ σ H Q h=>by
 obtain ⟨τ,M,Qd,A,h,k⟩:=h
 exact ⟨τ,M,_,A,h,λ vs H1 ws M1 kp r1 m1 q1=>⟨ws,M1,Qd,by rw [List.append_nil]; exact r1,m1,q1,kgo k kp⟩⟩
theorem pd_call0 (F:FnOk X.prog X.w X.K X.mg X.base CX0 k f fd ps (upSp X.K sp))(hr:Room k X.A)(hg:Gl X x)(hm:X.mg x=some (.ref f))(hk:PySem.W.keepIn X.K (.ref f)=true)(hb:Binds X.K fd ps [])
  (hdb:(x == ("__debug__" : Str))=false:=by decide):PD X (.Call (.Name x p) [] [] pos) (dCall sp dNil):=pe_w (pe_call0 (E:=E0) (dvs:=[]) F hr hg hm hk hb .nil pass0 hdb) λ σ H Q h=>by
 obtain ⟨τ,M,Qd,A,h,k⟩:=h
 exact ⟨[],M,Qd,.nil,A.mem,h,k⟩
end
noncomputable def startD (N:List Str)(ws:List W):DS:=ws.map some++List.replicate (N.length - ws.length) none
section
variable {P:Program}{w:World}{K:PySem.W.Frag}{mg:Str->Option Value}{base:Heap}
theorem abs_start {H:Hp}{N:List Str}{ws:List W}{vs:List V}{M:MH}(r:RepWs K H ws vs)(m:MAbs K H M):Abs K H (start N vs) (startD N ws) M:=by
 have hl:=r.length
 refine ⟨?_,λ i w e=>?_,m⟩
 ·simp [L2.start,startD,hl]
 ·unfold startD at e
  by_cases hi:i < ws.length
  ·rw [List.getElem?_append_left (by simpa using hi),List.getElem?_map] at e
   cases q:ws[i]? with
   | none=>rw [q] at e; cases e
   | some w' =>
    rw [q] at e
    cases e
    obtain ⟨v,e1,r1⟩:=r.get q
    refine ⟨v,?_,r1⟩
    unfold L2.start
    rw [List.getElem?_append_left (by rw [List.length_map,<- hl]; exact hi),List.getElem?_map,e1]
    rfl
  ·rw [List.getElem?_append_right (by simpa using hi),List.getElem?_replicate] at e
   split at e <;> cases e
theorem fun_ok {x qual:Str}{st:Stmt}{f:Addr}{fd:FuncData}{N ps:List Str}{k:Nat}{sp:SpD}{t:TSd}(F:Fun K x qual st f fd)(S:FnScope N ps (defScope st))(len:∀ ws M Q,sp ws M Q->ws.length=ps.length)
  (hbody:∀ (cdv:Value) (A:Around) (outer:List Env) (s:Shared) (H:Hp) (E:XK),Room k (A.deeper (envOfC qual (defScope st) s.heap.objs.size f cdv)) ->
   PSsd (cxOf CX0 P w K mg base N qual (defScope st) f cdv A outer s H E).nox (defBody st) t)
  (read:∀ ws M Q,sp ws M Q->t { nx:=λ _ M'=>Q (.d .none) M',rt:=Q } (startD N ws) M):FnOk P w K mg base CX0 (k+1) f fd ps (upSp K sp):=by
 refine F.ok S (λ vs H Q E h=>?_) (λ cdv A outer s H vs Q E hr h=>?_)
 ·obtain ⟨ws,M,Qd,r,_,q,_⟩:=h
  rw [<- r.length]
  exact len _ _ _ q
 ·obtain ⟨ws,M,Qd,r,m,q,kk⟩:=h
  refine ⟨_,hbody cdv A outer s H E hr,startD N ws,M,_,abs_start r m,read ws M Qd q,λ σ' H' τ' M' kp A' q'=>?_,λ v H' w' M' kp r' m' q'=>?_,λ σ' H' τ' M' kp A' q'=>q'.elim,λ σ' H' τ' M' kp A' q'=>q'.elim⟩
  ·exact kk _ H' _ M' kp (by simp [RepW,RepD]) A'.mem q'
  ·exact kk v H' w' M' kp r' m' q'
end
end D
namespace D
open PySem PySem.Spec PyProof.Rows L2
section
variable {X:Cx}{pins:List (Addr×Obj)}{σ:St}{H:Hp}{s:Shared}
mutual
theorem reads_of (I:Inv X pins σ H s):∀ (d:PyData) {x:V} {u:Value},RepD X.K H d x->RelV x u->d.hasDict=false->∃ as,Reads s.heap u d as
 | .none,x,u,h,r,_=>by
  simp only [RepD] at h; subst h
  cases (show u=Value.none from r)
  exact ⟨_,.none⟩
 | .bool b,x,u,h,r,_=>by
  simp only [RepD] at h; subst h
  cases (show u=Value.bool b from r)
  exact ⟨_,.bool b⟩
 | .int i,x,u,h,r,_=>by
  simp only [RepD] at h; subst h
  obtain ⟨t,e⟩:=(show ∃ t,u=Value.int i t from r)
  subst e
  exact ⟨_,.int i t⟩
 | .str z,x,u,h,r,_=>by
  simp only [RepD] at h; subst h
  obtain ⟨t,e⟩:=(show ∃ t,u=Value.str z t from r)
  subst e
  exact ⟨_,.str z t⟩
 | .list ds,x,u,h,r,hd=>by
  simp only [RepD] at h
  obtain ⟨a,vs,e,hs,ra⟩:=h
  subst e
  cases (show u=Value.ref a from r)
  obtain ⟨its,rv,⟨o,n,e1,e2,e3,e4⟩,hz⟩:=I.list hs.sq
  obtain ⟨as,q⟩:=readsA_of I ds ra rv (by simpa [PyData.hasDict] using hd)
  exact ⟨_,.list e1 e2 e4 (by simpa using q)⟩
 | .tuple ds,x,u,h,r,hd=>by
  simp only [RepD] at h
  obtain ⟨a,vs,e,hs,ra⟩:=h
  subst e
  cases (show u=Value.ref a from r)
  obtain ⟨its,rv,⟨o,e1,e2,n,e4⟩,hz⟩:=I.tuple hs
  obtain ⟨as,q⟩:=readsA_of I ds ra rv (by simpa [PyData.hasDict] using hd)
  exact ⟨_,.tuple e1 e2 e4 (by simpa using q)⟩
 | .dict kvs,x,u,h,r,hd=>by simp [PyData.hasDict] at hd
theorem readsA_of (I:Inv X pins σ H s):∀ (ds:List PyData) {xs:List V} {us:List Value},RepA X.K H ds xs->Vals xs us->PyData.hasDictAll ds=false->∃ as,ReadsAll s.heap us ds as
 | [],xs,us,h,r,_=>by
  simp only [RepA] at h; subst h
  cases r
  exact ⟨_,.nil⟩
 | d :: ds,xs,us,h,r,hd=>by
  simp only [RepA] at h
  obtain ⟨v,vr,e,h1,h2⟩:=h
  subst e
  simp only [PyData.hasDictAll,Bool.or_eq_false_iff] at hd
  cases r with
  | cons r1 r2 =>
   obtain ⟨as,q1⟩:=reads_of I d h1 r1 hd.1
   obtain ⟨bs,q2⟩:=readsA_of I ds h2 r2 hd.2
   exact ⟨_,.cons q1 q2⟩
end
noncomputable def flatD:PyData->Bool
 | .none | .bool _ | .int _ | .str _=>true
 | _=>false
theorem reads_flat:∀ {d:PyData} {x:V} {u:Value} {h:Heap} {K:PySem.W.Frag} {H:Hp},flatD d=true->RepD K H d x->RelV x u->Reads h u d []
 | .none,x,u,h,K,H,_,e,r=>by simp only [RepD] at e; subst e; cases (show u=Value.none from r); exact .none
 | .bool b,x,u,h,K,H,_,e,r=>by simp only [RepD] at e; subst e; cases (show u=Value.bool b from r); exact .bool b
 | .int i,x,u,h,K,H,_,e,r=>by simp only [RepD] at e; subst e; obtain ⟨t,z⟩:=(show ∃ t,u=Value.int i t from r); subst z; exact .int i t
 | .str i,x,u,h,K,H,_,e,r=>by simp only [RepD] at e; subst e; obtain ⟨t,z⟩:=(show ∃ t,u=Value.str i t from r); subst z; exact .str i t
 | .list _,_,_,_,_,_,f,_,_=>nomatch f
 | .tuple _,_,_,_,_,_,f,_,_=>nomatch f
 | .dict _,_,_,_,_,_,f,_,_=>nomatch f
theorem pairs_reads {P:Program}{w:World}{h:Heap}{K:PySem.W.Frag}{H:Hp}:∀ {kvs:List (PyData×PyData)} {l:List (Key×V)} {vs:List (Key×Value)} {es:List DictEntry},(kvs.all λ p=>flatD p.2)=true->RepK K H kvs l->KV l vs->Pairs (mixKind P w) es vs ->
  ReadsAll h (es.map (·.key)) (kvs.map (·.1)) []/\ReadsAll h (es.map (·.val)) (kvs.map (·.2)) []
 | [],l,vs,es,_,r,kv,p=>by
  simp only [RepK] at r; subst r
  cases kv
  cases p
  exact ⟨.nil,.nil⟩
 | (k,d) :: kvs,l,vs,es,f,r,kv,p=>by
  simp only [RepK] at r
  obtain ⟨key,v,lr,e,ek,r1,r2⟩:=r
  subst e
  rw [List.all_cons,Bool.and_eq_true] at f
  cases kv with
  | cons q1 q2 =>
   rename_i kv0 vs0
   obtain ⟨k0,u0⟩:=kv0
   obtain ⟨q1,q3⟩:=q1
   cases p with
   | cons p1 p2 p3 =>
    rename_i en es0
    obtain ⟨i1,i2⟩:=pairs_reads f.2 r2 q2 p3
    have rk:Reads h en.key k []:=by
     have hk:keyIs k0 en.key=true:=p1
     have hk0:key=k0:=q1
     subst hk0
     rw [ek]
     rcases keyIs_shape hk with ⟨i,t,z1,z2⟩ | ⟨i,t,z1,z2⟩
     ·subst z1; rw [z2]; exact .int i t
     ·subst z1; rw [z2]; exact .str i t
    have rv:Reads h en.val d []:=by
     rw [p2]
     exact reads_flat f.1 r1 q3
    exact ⟨.cons rk i1,.cons rv i2⟩
noncomputable def reprOk (d:PyData):Bool:=d.showable && decide (d.shown.length<=sizeLine) && decide (d.depth<=60) && (!d.hasDict || match d with
 | .dict kvs=>kvs.all λ p=>flatD p.2
 | _=>false)
theorem reads_repr (I:Inv X pins σ H s){d:PyData}{x:V}{u:Value}(h:RepD X.K H d x)(r:RelV x u)(ok:reprOk d=true):∃ as,Reads s.heap u d as/\(d.hasDict=true->sysModules ∉ as):=by
 simp only [reprOk,Bool.and_eq_true,Bool.or_eq_true] at ok
 cases hd:d.hasDict with
 | false =>
  obtain ⟨as,q⟩:=reads_of I d h r hd
  exact ⟨as,q,λ z=>absurd z (by simp)⟩
 | true =>
  have f:=ok.2.resolve_left (by simp [hd])
  cases d with
  | dict kvs =>
   simp only [RepD] at h
   obtain ⟨a,o,l,e,ha,rk⟩:=h
   subst e
   cases (show u=Value.ref a from r)
   obtain ⟨z,hs,vs,kv,o',es,ep,e1,e2,e3,e4,e5,e6⟩:=dk_rd I.hok (.inr ⟨o,ha⟩)
   obtain ⟨q1,q2⟩:=pairs_reads (h:=s.heap) f rk kv e5
   refine ⟨_,.dict e1 e2.1 e3 q1 q2,λ _ hm=>?_⟩
   simp only [List.append_nil] at hm
   have hm':sysModules=a:=by simpa using hm
   rw [<- hm'] at hs
   simp at hs
  | _=>exact absurd f (by simp)
noncomputable def eqOk (d:PyData):Bool:=SeqAt.shaped d && !d.hasDict
noncomputable def eqOk2:PyData->PyData->Bool
 | .str _,.str _=>true
 | d,d'=>eqOk d && eqOk d'
theorem eqOk2_cases {d d':PyData}(h:eqOk2 d d'=true):(∃ x y,d=.str x/\d'=.str y)\/(eqOk d=true/\eqOk d'=true):=by
 cases d with
 | str x =>
  cases d' with
  | str y=>exact .inl ⟨x,y,rfl,rfl⟩
  | _=>exact .inr (by simpa [eqOk2] using h)
 | _=>exact .inr (by simpa [eqOk2] using h)
theorem str_dec (x y:Str):decide (V.str x=V.str y)=PyData.eqv (.str x) (.str y):=by
 rw [PyData.eqv]
 by_cases e:x=y
 ·subst e; simp
 ·rw [decide_eq_false (λ z=>e (V.str.inj z))]
  exact (beq_eq_false_iff_ne.mpr e).symm
theorem op_eqD {k:Nat}(hr:Room k X.A):OpR X (compareOp .Eq) (λ x y H Q=>∃ d d',RepD X.K H d x/\RepD X.K H d' y/\eqOk2 d d'=true/\Q (.bl (PyData.eqv d d')) H):=by
 intro pins s σ H x y v u Q I rx ry h
 obtain ⟨d,d',h1,h2,o,q⟩:=h
 rcases eqOk2_cases o with ⟨a,b,e1,e2⟩ | ⟨o1,o2⟩
 ·subst e1; subst e2
  simp only [RepD] at h1 h2
  subst h1; subst h2
  exact op_eq pins s σ H _ _ v u Q I rx ry ⟨rfl,by rw [str_dec]; exact q⟩
 simp only [eqOk,Bool.and_eq_true,Bool.not_eq_true'] at o1 o2
 obtain ⟨as,r1⟩:=reads_of I d h1 rx o1.2
 obtain ⟨bs,r2⟩:=reads_of I d' h2 ry o2.2
 exact eq_dataH r1 r2 o1.1 o2.1 hr.units ⟨.bl _,H,I,rfl,q⟩
theorem op_neD {k:Nat}(hr:Room k X.A):OpR X (compareOp .NotEq) (λ x y H Q=>∃ d d',RepD X.K H d x/\RepD X.K H d' y/\eqOk2 d d'=true/\Q (.bl (!PyData.eqv d d')) H):=by
 intro pins s σ H x y v u Q I rx ry h
 obtain ⟨d,d',h1,h2,o,q⟩:=h
 rcases eqOk2_cases o with ⟨a,b,e1,e2⟩ | ⟨o1,o2⟩
 ·subst e1; subst e2
  simp only [RepD] at h1 h2
  subst h1; subst h2
  exact op_ne pins s σ H _ _ v u Q I rx ry ⟨rfl,by rw [str_dec]; exact q⟩
 simp only [eqOk,Bool.and_eq_true,Bool.not_eq_true'] at o1 o2
 obtain ⟨as,r1⟩:=reads_of I d h1 rx o1.2
 obtain ⟨bs,r2⟩:=reads_of I d' h2 ry o2.2
 exact ne_dataH r1 r2 o1.1 o2.1 hr.units ⟨.bl _,H,I,rfl,q⟩
noncomputable def tyD:PyData->String
 | .none => "NoneType"
 | .bool _ => "bool"
 | .int _ => "int"
 | .str _ => "str"
 | .list _ => "list"
 | .tuple _ => "tuple"
 | .dict _ => "dict"
inductive Ty6:String->Prop where
 | int:Ty6 "int" | bool:Ty6 "bool" | str:Ty6 "str" | list:Ty6 "list" | tuple:Ty6 "tuple" | dict:Ty6 "dict"
noncomputable def isiD (d:PyData)(T:String):Bool:=tyD d == T || (T == "int" && tyD d == "bool")
theorem isi_kit {K:PySem.W.Frag}(d:PyData){T:String}(h:Ty6 T):PySem.W.kitOne K (.type (tyD d)) (.type T)=some (isiD d T):=by
 cases h <;> cases d <;> rfl
theorem call_isiD:CallR X (.builtin "isinstance") (λ xs H Q=>∃ x d T,xs=[x,.ty T]/\RepD X.K H d x/\Ty6 T/\Q (.bl (isiD d T)) H):=by
 intro pins s σ H xs us Q I r h
 obtain ⟨x,d,T,rfl,rd,h6,q⟩:=h
 obtain ⟨u,w',rfl,rx,ry⟩:=vals2 r
 cases (show w'=Value.type T from ry)
 have e:=isi_kit (K:=X.K) d h6
 have fin:∀ tk,EP X pins σ Q (.bool (isiD d T)) { s with toks:=tk }:=λ tk=>⟨.bl _,H,I.tok _,rfl,q⟩
 generalize isiD d T=b at e fin
 cases d with
 | none=>simp only [RepD] at rd; subst rd; cases (show u=Value.none from rx); exact PySem.W.kia_one PySem.W.kitx_none I.kIn True.intro e (λ z=>nomatch z) fin
 | bool y=>simp only [RepD] at rd; subst rd; cases (show u=Value.bool y from rx); exact PySem.W.kia_one PySem.W.kitx_bool I.kIn True.intro e (λ z=>nomatch z) fin
 | int i=>simp only [RepD] at rd; subst rd; obtain ⟨t,z⟩:=(show ∃ t,u=Value.int i t from rx); subst z; exact PySem.W.kia_one PySem.W.kitx_int I.kIn True.intro e (λ z=>nomatch z) fin
 | str y=>simp only [RepD] at rd; subst rd; obtain ⟨t,z⟩:=(show ∃ t,u=Value.str y t from rx); subst z; exact PySem.W.kia_one PySem.W.kitx_str I.kIn True.intro e (λ z=>nomatch z) fin
 | list ds =>
  simp only [RepD] at rd
  obtain ⟨a,vs,z,hs,_⟩:=rd
  subst z
  cases (show u=Value.ref a from rx)
  obtain ⟨its,rv,⟨o,n,e1,e2,e3,e4⟩,hz⟩:=I.list hs.sq
  exact PySem.W.kia_one PySem.W.kitx_list I.kIn ⟨_,e1,e2⟩ e (λ z=>nomatch z) fin
 | tuple ds =>
  simp only [RepD] at rd
  obtain ⟨a,vs,z,hs,_⟩:=rd
  subst z
  cases (show u=Value.ref a from rx)
  obtain ⟨its,rv,⟨o,e1,e2,e3⟩,hz⟩:=I.tuple hs
  exact PySem.W.kia_one PySem.W.kitx_tuple I.kIn ⟨_,e1,e2⟩ e (λ z=>nomatch z) fin
 | dict kvs =>
  simp only [RepD] at rd
  obtain ⟨a,o,l,z,ha,_⟩:=rd
  subst z
  cases (show u=Value.ref a from rx)
  obtain ⟨_,hs,vs,kv,o',es,ep,e1,e2,_⟩:=dk_rd I.hok (.inr ⟨o,ha⟩)
  exact PySem.W.kia_one PySem.W.kitx_dict I.kIn ⟨_,e1,e2.1⟩ e (λ z=>nomatch z) fin
theorem bools_are {K:PySem.W.Frag}{H:Hp}:∀ {bs:List Bool} {vs:List V} {us:List Value},RepA K H (bs.map PyData.bool) vs->Vals vs us->LSm.BoolsAre us bs
 | [],vs,us,h,r=>by simp only [List.map_nil,RepA] at h; subst h; cases r; exact .nil
 | b :: bs,vs,us,h,r=>by
  simp only [List.map_cons,RepA] at h
  obtain ⟨v,vr,e,h1,h2⟩:=h
  subst e
  simp only [RepD] at h1
  subst h1
  cases r with
  | cons r1 r2=>cases (show _=Value.bool b from r1); exact .cons b (bools_are h2 r2)
theorem call_allD (hc:X.calm=true):CallR X (.builtin "all") (λ xs H Q=>∃ (x:V) (bs:List Bool),xs=[x]/\RepD X.K H (.list (bs.map PyData.bool)) x/\Q (.bl (bs.all id)) H):=by
 intro pins s σ H xs us Q I r h
 obtain ⟨x,bs,rfl,rd,q⟩:=h
 obtain ⟨u,rfl,rx⟩:=vals1 r
 simp only [RepD] at rd
 obtain ⟨a,vs,z,hs,ra⟩:=rd
 subst z
 cases (show u=Value.ref a from rx)
 obtain ⟨its,rv,pl,hz⟩:=I.list hs.sq
 obtain ⟨m,F⟩:=I.fr
 have N:News X.base X.env.locals s.heap []:=λ p hp=>nomatch hp
 have hb:=bools_are ra rv
 have hl:s.heap.IsList a its.toArray:=pl.isList
 have hlt:a < s.heap.objs.size:=by obtain ⟨_,e,_⟩:=hl; exact Heap.lt_size e
 refine call_all_walk (wpAny_pyIter_list hl ?_)
 refine ⟨s.heap.objs.size,[s.heap.objs.size,a],[s.heap.objs.size],its.toArray.size,_,_,λ i=>(bs[i]?).getD true,rfl,Walks.list (A:=X.A.in1) (I.ok.hd hc) _ a (Nat.ne_of_lt hlt) its.toArray,
  ⟨⟨_,Heap.get?_push_size _ rfl,rfl,rfl⟩,hl.push _⟩,λ i v s' Q' E' hP hQ=>?_,λ h' tk hk=>?_⟩
 ·obtain ⟨b,e,rfl⟩:=hb.get i v (by simpa using hP)
  simp only [e,Option.getD_some] at hQ
  exact wpAny_truthy_bool hQ
 ·have e:((List.range its.toArray.size).all λ i=>(bs[i]?).getD true)=bs.all id:=by
   rw [List.size_toArray,hb.length]; exact LSm.range_all bs
  rw [e]
  exact ⟨.bl _,H,I.kept (LSm.kept_iter hk),rfl,q⟩
end
end D
namespace D
open PySem PySem.Spec PyProof.Rows L2
section
variable {X:Cx}{K:PySem.W.Frag}
theorem OpR.or {f:Value->Value->Sem Value}{r r':R2}(h:OpR X f r)(h':OpR X f r'):OpR X f (λ x y H Q=>r x y H Q\/r' x y H Q):=by
 intro pins s σ H x y v u Q I rx ry q
 rcases q with q | q
 ·exact h pins s σ H x y v u Q I rx ry q
 ·exact h' pins s σ H x y v u Q I rx ry q
theorem OpD.or {r r':R2}{rd rd':W->W->MH->QD->Prop}(h:OpD K r rd)(h':OpD K r' rd'):OpD K (λ x y H Q=>r x y H Q\/r' x y H Q) (λ w w' M Q=>rd w w' M Q\/rd' w w' M Q):=by
 intro x y H w w' M Qd Q r1 r2 m q k
 rcases q with q | q
 ·exact .inl (h x y H w w' M Qd Q r1 r2 m q k)
 ·exact .inr (h' x y H w w' M Qd Q r1 r2 m q k)
noncomputable def rdI0 (g:Int->Int->PyData)(w:W)(w':W)(M:MH)(Q:QD):Prop:=∃ i j,w=.d (.int i)/\w'=.d (.int j)/\Q (.d (g i j)) M
noncomputable def rdI (C:Int->Int->Prop)(g:Int->Int->PyData)(w:W)(w':W)(M:MH)(Q:QD):Prop:=∃ i j,w=.d (.int i)/\w'=.d (.int j)/\C i j/\Q (.d (g i j)) M
theorem opd_I0 {g:Int->Int->V}{gd:Int->Int->PyData}(hg:∀ i j H,RepD K H (gd i j) (g i j)):OpD K (rI0 g) (rdI0 gd):=by
 intro x y H w w' M Qd Q r1 r2 m ⟨i,j,e1,e2,q⟩ k
 subst e1; subst e2
 simp only [RepW,RepD] at r1 r2
 exact ⟨i,j,r1,r2,k _ H (.d (gd i j)) M (Kp.refl H) (hg i j H) m q⟩
theorem opd_I {C:Int->Int->Prop}{g:Int->Int->V}{gd:Int->Int->PyData}(hg:∀ i j H,RepD K H (gd i j) (g i j)):OpD K (rI C g) (rdI C gd):=by
 intro x y H w w' M Qd Q r1 r2 m ⟨i,j,e1,e2,c,q⟩ k
 subst e1; subst e2
 simp only [RepW,RepD] at r1 r2
 exact ⟨i,j,r1,r2,c,k _ H (.d (gd i j)) M (Kp.refl H) (hg i j H) m q⟩
noncomputable def rdSub (w w':W)(M:MH)(Q:QD):Prop:=rdI0 (λ i j=>.int (i - j)) w w' M Q
noncomputable def rdMul (w w':W)(M:MH)(Q:QD):Prop:=rdI CMul (λ i j=>.int (i * j)) w w' M Q
noncomputable def rdMod (w w':W)(M:MH)(Q:QD):Prop:=rdI (λ _ j=>0 < j) (λ i j=>.int (i % j)) w w' M Q
noncomputable def rdDiv (w w':W)(M:MH)(Q:QD):Prop:=rdI CDiv (λ i j=>.int (i / j)) w w' M Q
noncomputable def rdAdd (w:W)(w':W)(M:MH)(Q:QD):Prop:=rdI0 (λ i j=>.int (i+j)) w w' M Q\/∃ x y,w=.d (.str x)/\w'=.d (.str y)/\x.length+y.length<=sizeLine/\Q (.d (.str (x++y))) M
theorem opd_sub:OpD K (rI0 λ i j=>.int (i - j)) rdSub:=opd_I0 λ _ _ _=>by simp [RepD]
theorem opd_mul:OpD K (rI CMul λ i j=>.int (i * j)) rdMul:=opd_I λ _ _ _=>by simp [RepD]
theorem opd_mod:OpD K (rI (λ _ j=>0 < j) λ i j=>.int (i % j)) rdMod:=opd_I λ _ _ _=>by simp [RepD]
theorem opd_div:OpD K (rI CDiv λ i j=>.int (i / j)) rdDiv:=opd_I λ _ _ _=>by simp [RepD]
noncomputable def rStr2:R2:=λ x y H Q=>∃ i j,x=.str i/\y=.str j/\i.length+j.length<=sizeLine/\Q (.str (i++j)) H
theorem opd_addS:OpD K rStr2 (λ w w' M Q=>∃ x y,w=.d (.str x)/\w'=.d (.str y)/\x.length+y.length<=sizeLine/\Q (.d (.str (x++y))) M):=by
 intro x y H w w' M Qd Q r1 r2 m ⟨i,j,e1,e2,c,q⟩ k
 subst e1; subst e2
 simp only [RepW,RepD] at r1 r2
 exact ⟨i,j,r1,r2,c,k _ H (.d (.str (i++j))) M (Kp.refl H) (by simp [RepW,RepD]) m q⟩
theorem op_add2:OpR X (binaryOp .Add) (λ x y H Q=>rI0 (λ i j=>.int (i+j)) x y H Q\/rStr2 x y H Q):=OpR.or op_add op_add_str
theorem opd_add2:OpD K (λ x y H Q=>rI0 (λ i j=>.int (i+j)) x y H Q\/rStr2 x y H Q) rdAdd:=OpD.or (opd_I0 λ _ _ _=>by simp [RepD]) opd_addS
noncomputable def rS (g:Str->Str->Bool):R2:=λ x y H Q=>∃ i j,x=.str i/\y=.str j/\Q (.bl (g i j)) H
noncomputable def rdS (g:Str->Str->Bool)(w:W)(w':W)(M:MH)(Q:QD):Prop:=∃ i j,w=.d (.str i)/\w'=.d (.str j)/\Q (.d (.bool (g i j))) M
theorem opd_S {g:Str->Str->Bool}:OpD K (rS g) (rdS g):=by
 intro x y H w w' M Qd Q r1 r2 m ⟨i,j,e1,e2,q⟩ k
 subst e1; subst e2
 simp only [RepW,RepD] at r1 r2
 exact ⟨i,j,r1,r2,k _ H (.d (.bool (g i j))) M (Kp.refl H) (by simp [RepW,RepD]) m q⟩
theorem op_le_str:OpR X (compareOp .LtE) (rS λ x y=>!decide (y.cps.toList < x.cps.toList)):=by
 intro pins s σ H x y v u Q I rx ry h
 obtain ⟨i,j,rfl,rfl,q⟩:=h
 obtain ⟨t,rfl⟩:=rx
 obtain ⟨t',rfl⟩:=ry
 exact PySem.P.le_str ⟨.bl _,H,I,rfl,q⟩
noncomputable def rdLe (w:W)(w':W)(M:MH)(Q:QD):Prop:=rdI0 (λ i j=>.bool (decide (i<=j))) w w' M Q\/rdS (λ x y=>!decide (y.cps.toList < x.cps.toList)) w w' M Q
theorem op_le2:OpR X (compareOp .LtE) (λ x y H Q=>rI0 (λ i j=>.bl (decide (i<=j))) x y H Q\/rS (λ x y=>!decide (y.cps.toList < x.cps.toList)) x y H Q):=OpR.or op_le op_le_str
theorem opd_le2:OpD K (λ x y H Q=>rI0 (λ i j=>.bl (decide (i<=j))) x y H Q\/rS (λ x y=>!decide (y.cps.toList < x.cps.toList)) x y H Q) rdLe:=OpD.or (opd_I0 λ _ _ _=>by simp [RepD]) opd_S
noncomputable def rdLt (w w':W)(M:MH)(Q:QD):Prop:=rdI0 (λ i j=>.bool (decide (i < j))) w w' M Q
noncomputable def rdGt (w w':W)(M:MH)(Q:QD):Prop:=rdI0 (λ i j=>.bool (decide (j < i))) w w' M Q
noncomputable def rdGe (w w':W)(M:MH)(Q:QD):Prop:=rdI0 (λ i j=>.bool (decide (j<=i))) w w' M Q
theorem opd_lt:OpD K (rI0 λ i j=>.bl (decide (i < j))) rdLt:=opd_I0 λ _ _ _=>by simp [RepD]
theorem opd_gt:OpD K (rI0 λ i j=>.bl (decide (j < i))) rdGt:=opd_I0 λ _ _ _=>by simp [RepD]
theorem opd_ge:OpD K (rI0 λ i j=>.bl (decide (j<=i))) rdGe:=opd_I0 λ _ _ _=>by simp [RepD]
noncomputable def rdEq (w:W)(w':W)(M:MH)(Q:QD):Prop:=∃ d d',w=.d d/\w'=.d d'/\eqOk2 d d'=true/\Q (.d (.bool (PyData.eqv d d'))) M
theorem opd_eq:OpD K (λ x y H Q=>∃ d d',RepD K H d x/\RepD K H d' y/\eqOk2 d d'=true/\Q (.bl (PyData.eqv d d')) H) rdEq:=by
 intro x y H w w' M Qd Q r1 r2 m ⟨d,d',e1,e2,o1,q⟩ k
 subst e1; subst e2
 exact ⟨d,d',r1,r2,o1,k _ H (.d (.bool _)) M (Kp.refl H) (by simp [RepW,RepD]) m q⟩
noncomputable def inS (x y:Str):Bool:=!(Builtin.Str.occurrences y x 0 y.length 1).isEmpty
noncomputable def rdInS (w w':W)(M:MH)(Q:QD):Prop:=rdS inS w w' M Q
theorem opd_inS:OpD K (rS inS) rdInS:=opd_S
theorem op_inS:OpR X (compareOp .In) (rS inS):=op_in_str
noncomputable def rdNeg (w:W)(M:MH)(Q:QD):Prop:=∃ i,w=.d (.int i)/\Q (.d (.int (-i))) M
theorem und_neg:UnD K (rU λ i=>.int (-i)) rdNeg:=by
 intro x H w M Qd Q r m ⟨i,e,q⟩ k
 subst e
 simp only [RepW,RepD] at r
 exact ⟨i,r,k _ H (.d (.int (-i))) M (Kp.refl H) (by simp [RepW,RepD]) m q⟩
noncomputable def fitW:W->Bool
 | .d (.str z)=>decide (z.length<=sizeLine)
 | _=>true
noncomputable def ixW (M:MH):W->Int->Option W
 | .d (.list ds),i=>(atI ds i).map W.d
 | .d (.tuple ds),i=>(atI ds i).map W.d
 | .d (.str z),i=>(atI z.cps.toList i).map λ c=>W.d (.str ⟨#[c]⟩)
 | .m a,i=>match M a with
  | some (.lst ws)=>atI ws i
  | some (.tup ws)=>atI ws i
  | _=>none
 | _,_=>none
inductive RIx (w:W) (w':W) (M:MH) (Q:QD):Prop
 | mk (i:Int) (x:W) (z0:w'=.d (.int i)) (z1:ixW M w i=some x) (z2:fitW w=true) (q:Q x M):RIx w w' M Q
noncomputable def rdIx (w:W)(w':W)(M:MH)(Q:QD):Prop:=RIx w w' M Q
theorem atI_repA {H:Hp}{ds:List PyData}{vs:List V}{i:Int}{d:PyData}(r:RepA K H ds vs)(e:atI ds i=some d):∃ v,atI vs i=some v/\RepD K H d v:=by
 unfold atI at e ⊢
 rw [r.length]
 cases q:ixN ds.length i with
 | none=>rw [q] at e; cases e
 | some j =>
  rw [q] at e
  exact r.get e
theorem atI_repWs {H:Hp}{ds:List W}{vs:List V}{i:Int}{d:W}(r:RepWs K H ds vs)(e:atI ds i=some d):∃ v,atI vs i=some v/\RepW K H d v:=by
 unfold atI at e ⊢
 rw [<- r.length]
 cases q:ixN ds.length i with
 | none=>rw [q] at e; cases e
 | some j =>
  rw [q] at e
  exact r.get e
theorem opd_ix:OpD K (rIx K) rdIx:=by
 intro x y H w w' M Qd Q r1 r2 m ⟨i,z,e2,ei,hf,q⟩ k
 subst e2
 simp only [RepW,RepD] at r2
 cases w with
 | t n=>simp [ixW] at ei
 | m a =>
  simp only [RepW] at r1
  simp only [ixW] at ei
  cases hm:M a with
  | none=>rw [hm] at ei; cases ei
  | some mo =>
   rw [hm] at ei
   cases mo with
   | lst ws =>
    obtain ⟨vs,e1,rw1⟩:=m a _ hm
    obtain ⟨v,e3,rv⟩:=atI_repWs rw1 ei
    exact .inl ⟨a,vs,i,v,r1,r2,SqL.of e1,e3,k v H z M (Kp.refl H) rv m q⟩
   | dic _=>cases ei
   | dct _=>cases ei
   | fdic _=>cases ei
   | ins _ _=>cases ei
   | tup ws =>
    obtain ⟨vs,e1,rw1⟩:=m a _ hm
    obtain ⟨v,e3,rv⟩:=atI_repWs rw1 ei
    exact .inr (.inl ⟨a,vs,i,v,r1,r2,.inl (.inl e1),e3,k v H z M (Kp.refl H) rv m q⟩)
   | flst _=>cases ei
   | exc _ _=>cases ei
   | code _ _=>cases ei
 | d d =>
  cases d with
  | list ds =>
   simp only [RepW,RepD] at r1
   obtain ⟨a,vs,e1,hs,ra⟩:=r1
   simp only [ixW] at ei
   cases h:atI ds i with
   | none=>rw [h] at ei; cases ei
   | some d =>
    rw [h] at ei
    cases ei
    obtain ⟨v,e3,rv⟩:=atI_repA ra h
    exact .inl ⟨a,vs,i,v,e1,r2,hs.sq,e3,k v H (.d d) M (Kp.refl H) rv m q⟩
  | tuple ds =>
   simp only [RepW,RepD] at r1
   obtain ⟨a,vs,e1,hs,ra⟩:=r1
   simp only [ixW] at ei
   cases h:atI ds i with
   | none=>rw [h] at ei; cases ei
   | some d =>
    rw [h] at ei
    cases ei
    obtain ⟨v,e3,rv⟩:=atI_repA ra h
    exact .inr (.inl ⟨a,vs,i,v,e1,r2,hs,e3,k v H (.d d) M (Kp.refl H) rv m q⟩)
  | str s =>
   simp only [RepW,RepD] at r1
   simp only [ixW] at ei
   cases h:atI s.cps.toList i with
   | none=>rw [h] at ei; cases ei
   | some c =>
    rw [h] at ei
    cases ei
    exact .inr (.inr ⟨s,i,c,r1,r2,of_decide_eq_true hf,h,k _ H (.d (.str ⟨#[c]⟩)) M (Kp.refl H) (by simp [RepW,RepD]) m q⟩)
  | _=>simp [ixW] at ei
theorem pe_frzO {e:Expr}{t:TE}(h:PE X e t):PE X e (λ σ H Q=>t σ H λ v H1=>Q v H1\/∃ p u,v=.ref p/\H1 p=some u/\Fz u/\∀ o,Q v (upd H1 p (.frz o u))):=by
 intro pins s σ H Q I hq
 refine thn (h pins s σ H _ I hq) λ v s1 hq44=>?_
 obtain ⟨x,H1,I1,r1,q⟩:=hq44
 rcases q with q | ⟨p,u,e1,e2,f,q⟩
 ·exact ⟨x,_,I1,r1,q⟩
 ·obtain ⟨o,I2⟩:=I1.freeze e2 f
  exact ⟨x,_,I2,r1,q o⟩
noncomputable def rSlS:V->Option Int->Option Int->Hp->VK->Prop:=λ x lo hi H Q=>∃ z,x=.str z/\z.length<=sizeLine/\Q (.str (Txt.slice z lo hi)) H
theorem sl_str:SlR X rSlS:=by
 intro pins s σ H x v vl vu lo hi sl Q I rx hs pl pu h
 obtain ⟨z,rfl,hz,q⟩:=h
 obtain ⟨t,rfl⟩:=rx
 have fin:∀ t' k,EP X pins σ Q (.str (Txt.slice z lo hi) t') { s with toks:=k }:=λ t' k=>⟨.str _,H,I.tok _,⟨_,rfl⟩,q⟩
 refine ⟨"str",_,F.slot_str_getitem.lookup,typeIs_str _ _ _,?_⟩
 cases pl with
 | none =>
  cases pu with
  | none=>exact wpAny_getItem_str_slice (l:=none) (u:=none) (st:=none) hs rfl (post_val_or_str ⟨Nat.le_trans (Txt.slice_le z _ _) hz,fin⟩)
  | int j uj=>exact wpAny_getItem_str_slice (l:=none) (u:=some (j,uj)) (st:=none) hs rfl (post_val_or_str ⟨Nat.le_trans (Txt.slice_le z _ _) hz,fin⟩)
 | int i ui =>
  cases pu with
  | none=>exact wpAny_getItem_str_slice (l:=some (i,ui)) (u:=none) (st:=none) hs rfl (post_val_or_str ⟨Nat.le_trans (Txt.slice_le z _ _) hz,fin⟩)
  | int j uj=>exact wpAny_getItem_str_slice (l:=some (i,ui)) (u:=some (j,uj)) (st:=none) hs rfl (post_val_or_str ⟨Nat.le_trans (Txt.slice_le z _ _) hz,fin⟩)
noncomputable abbrev TOd:=DS->MH->(Option Int->MH->Prop)->Prop
noncomputable def upO (K:PySem.W.Frag)(t:TOd):TO:=λ σ H Q=>∃ τ M Qd,Abs K H σ τ M/\t τ M Qd/\∀ b H' M',Kp H H'->MAbs K H' M'->Qd b M'->Q b H'
noncomputable abbrev POd (X:Cx)(e:Option Expr)(t:TOd):Prop:=PO X e (upO X.K t)
theorem po_w {e:Option Expr}{t t':TO}(h:PO X e t)(k:∀ σ H Q,t' σ H Q->t σ H Q):PO X e t':=λ pins s σ H Q I q=>h pins s σ H Q I (k σ H Q q)
noncomputable def dNoPart (_:DS)(M:MH)(Q:Option Int->MH->Prop):Prop:=Q none M
noncomputable def dPart (t:TD)(τ:DS)(M:MH)(Q:Option Int->MH->Prop):Prop:=t τ M λ w M1=>∃ i,w=.d (.int i)/\Q (some i) M1
theorem pod_none:POd X none dNoPart:=po_w po_none λ σ H Q ⟨τ,M,Qd,A,q,k⟩=>k none H M (Kp.refl H) A.mem q
theorem pod_some {e:Expr}{te:TD}(h:PD X e te):POd X (some e) (dPart te):=po_w (po_some h) λ σ H Q ⟨τ,M,Qd,A,q,k⟩=>⟨τ,M,_,A,q,λ v H1 w M1 kp r m hq45=>by
 obtain ⟨i,e,q1⟩:=hq45
 subst e
 simp only [RepW,RepD] at r
 exact ⟨i,r,k _ H1 M1 kp m q1⟩⟩
noncomputable def cutD {α:Type}(xs:List α)(lo hi:Option Int):List α:=(xs.drop (HT.sIx xs.length 0 lo)).take (HT.sIx xs.length xs.length hi - HT.sIx xs.length 0 lo)
noncomputable def wholeD (n:Nat)(lo hi:Option Int):Bool:=decide (HT.sIx n 0 lo=0/\HT.sIx n n hi=n)
noncomputable def slW:W->Option Int->Option Int->Option W
 | .d (.list ds),lo,hi=>some (.d (.list (cutD ds lo hi)))
 | .d (.tuple ds),lo,hi=>if wholeD ds.length lo hi then none else some (.d (.tuple (cutD ds lo hi)))
 | .d (.str z),lo,hi=>some (.d (.str (Txt.slice z lo hi)))
 | _,_,_=>none
noncomputable def dSl (te:TD)(tl th:TOd)(τ:DS)(M:MH)(Q:QD):Prop:=te τ M λ w M1=>tl τ M1 λ lo M2=>th τ M2 λ hi M3=>∃ z,slW w lo hi=some z/\fitW w=true/\Q z M3
theorem sl_any:SlR X (λ x lo hi H Q=>rSlL X.K x lo hi H Q\/rSlT X.K x lo hi H Q\/rSlS x lo hi H Q):=sl_list.or (sl_tup.or sl_str)
theorem RepA.cut {H:Hp}{ds:List PyData}{vs:List V}(r:RepA K H ds vs)(lo hi:Option Int):RepA K H (cutD ds lo hi) (cutV vs lo hi):=by
 unfold cutD cutV
 rw [r.length]
 exact (r.drop _).take _
theorem pd_slice {e:Expr}{te:TD}{lo hi:Option Expr}{tl th:TOd}{pos p2:Pos}(he:PD X e te)(hl:POd X lo tl)(hu:POd X hi th):PD X (.Subscript e (.Slice lo hi none p2) pos) (dSl te tl th) :=
 pe_w (pe_frzO (pe_slice sl_any he hl hu)) λ σ H Q h=>by
  obtain ⟨τ,M,Qd,A,h,k⟩:=h
  refine ⟨τ,M,_,A,h,λ v H1 w M1 kp1 r1 m1 q1=>⟨τ,M1,_,A.go kp1 m1,q1,λ lo H2 M2 kp2 m2 q2=>⟨τ,M2,_,A.go (kp1.trans kp2) m2,q2,λ hi H3 M3 kp3 m3 q3=>?_⟩⟩⟩
  obtain ⟨z,ez,hf,q⟩:=q3
  have kp:=(kp1.trans kp2).trans kp3
  have r:=r1.keep (kp2.trans kp3)
  cases w with
  | t n=>simp [slW] at ez
  | m a=>simp [slW] at ez
  | d d =>
   cases d with
   | list ds =>
    simp only [slW] at ez
    cases ez
    simp only [RepW,RepD] at r
    obtain ⟨a,vs,e1,hs,ra⟩:=r
    exact .inl ⟨a,vs,e1,hs.sq,λ p hp=>.inr (imp_frz hp (RepA.cut ra lo hi) m3 q (kgo k kp))⟩
   | tuple ds =>
    simp only [slW] at ez
    split at ez
    ·cases ez
    ·rename_i hw
     cases ez
     simp only [RepW,RepD] at r
     obtain ⟨a,vs,e1,hs,ra⟩:=r
     refine .inr (.inl ⟨a,vs,e1,hs,?_,λ p hp=>.inl ?_⟩)
     ·rw [ra.length]
      simpa [wholeD] using hw
     ·refine k _ _ (.d (.tuple _)) M3 (kp.trans (Kp.new hp)) ?_ (m3.new hp) q
      simp only [RepW,RepD]
      exact ⟨p,_,rfl,.inl (.inl upd_same),(RepA.cut ra lo hi).keep (Kp.new hp)⟩
   | str s =>
    simp only [slW] at ez
    cases ez
    simp only [RepW,RepD] at r
    exact .inr (.inr ⟨s,r,of_decide_eq_true hf,.inl (k _ H3 (.d (.str _)) M3 kp (by simp [RepW,RepD]) m3 q)⟩)
   | _=>simp [slW] at ez
noncomputable def gSet (to ti:TD)(v:W)(τ:DS)(M:MH)(Q:DS->MH->Prop):Prop:=to τ M λ w M1=>ti τ M1 λ w' M2=>∃ a ws i j,w=.m a/\w'=.d (.int i)/\M2 a=some (.lst ws)/\ixN ws.length i=some j/\Q τ (updM M2 a (.lst (ws.set j v)))
theorem set_rep {H:Hp}{M:MH}{a:Addr}{ws:List W}{vs:List V}{j:Nat}{v:V}{w:W}(m:MAbs K H M)(e:H a=some (.lst vs))(rw1:RepWs K H ws vs)(rv:RepW K H w v) :
  Kp H (upd H a (.lst (vs.set j v)))/\MAbs K (upd H a (.lst (vs.set j v))) (updM M a (.lst (ws.set j w))):=by
 have kp:Kp H (upd H a (.lst (vs.set j v))):=Kp.set e (λ xs z=>nomatch z) λ _ _ z=>nomatch z
 exact ⟨kp,m.put kp ⟨_,upd_same,(RepWs.set rv j rw1).keep kp⟩⟩
theorem pgd_sub {o i:Expr}{to ti:TD}{pos:Pos}(ho:PD X o to)(hi:PD X i ti)
  (ha:∀ v,assign (.Subscript o i pos) X.env v=(do
   let ov <- holding [v] (eval o X.env)
   let iv <- holding [v,ov] (eval i X.env)
   standAt pos
   holding [v,ov,iv] (setItem ov iv v)
   release [v,ov,iv] []):=by intro _; rfl):PGd X (.Subscript o i pos) (gSet to ti):=pg_w (pg_sub ho hi set_list ha) λ v σ H Q h=>by
 obtain ⟨w,τ,M,Qd,rv,A,h,k⟩:=h
 refine ⟨τ,M,_,A,h,λ x H1 wo M1 kp1 r1 m1 q1=>⟨τ,M1,_,A.go kp1 m1,q1,λ y H2 wi M2 kp2 r2 m2 q2=>?_⟩⟩
 obtain ⟨a,ws,i,j,e1,e2,hm,hj,q⟩:=q2
 subst e1; subst e2
 simp only [RepW,RepD] at r1 r2
 obtain ⟨vs,e3,rw1⟩:=m2 a _ hm
 have kp:=kp1.trans kp2
 obtain ⟨kp3,m3⟩:=set_rep (j:=j) m2 e3 rw1 (rv.keep kp)
 exact ⟨a,vs,i,j,r1,r2,e3,by rw [<- rw1.length]; exact hj,k σ _ τ _ (kp.trans kp3) (A.go (kp.trans kp3) m3) q⟩
theorem get_list:PGet X (rIxL X.K):=by
 intro pins s σ H o i ov iv Q I ro ri h
 obtain ⟨p,xs,k,z,rfl,rfl,hq,he,q⟩:=h
 cases ro
 obtain ⟨t,rfl⟩:=ri
 obtain ⟨its,r,pl,hz⟩:=I.list hq
 obtain ⟨j,h1,h2,h3,h4,h5⟩:=atI_get he
 obtain ⟨w,ew,rw'⟩:=r.get h2
 have hl:=r.length
 have hn:=line63
 have fin:EP X pins σ Q w s:=⟨z,H,I,rw',q⟩
 by_cases h0:0<=k
 ·have hj:k.toNat=j:=by
   rw [seqIndex_of h0 h5] at h1
   exact Option.some.inj h1
  exact wpAny_getItem_list pl.isList h0 (by omega) (by rw [hj]; simpa using ew) fin
 ·have hj:(k+(its.toArray.size:Int)).toNat=j:=by
   rw [seqIndex_neg (by omega) h4] at h1
   rw [List.size_toArray,<- hl]
   exact Option.some.inj h1
  exact wpAny_getItem_list_neg pl.isList (by omega) (by rw [List.size_toArray] <;> omega) (by omega) (by rw [hj]; simpa using ew) fin
noncomputable def dAugS (to ti te:TD)(f:Int->Int->Int)(D:Ed)(τ:DS)(M:MH):Prop:=to τ M λ w M1=>ti τ M1 λ w' M2=>∃ a ws i j n,w=.m a/\w'=.d (.int i)/\M2 a=some (.lst ws)/\ixN ws.length i=some j/\ws[j]? = some (.d (.int n)) /\
 te τ M2 λ y M3=>∃ n',y=.d (.int n')/\M3=M2/\D.nx τ (updM M3 a (.lst (ws.set j (.d (.int (f n n'))))))
theorem psd_augS {o i e:Expr}{to ti te:TD}{op:Operator}{f:Int->Int->Int}{pos tpos:Pos}(ho:PD X o to)(hi:PD X i ti)(he:PD X e te)(hp:PIp X op (ipI f))
  (ha:∀ ov iv new,augStore i ov iv new=(do holding [new,ov,iv] (setItem ov iv new); release [new,ov,iv] []; pure .next):=by intros; rfl):PSd X (.AugAssign (.Subscript o i tpos) op e pos) (dAugS to ti te f) :=
 ps_w (ps_augS ho hi get_list he hp set_list ha) λ D σ H h=>by
  obtain ⟨τ,M,Dd,A,h,k1,_⟩:=h
  refine ⟨τ,M,_,A,h,λ x H1 wo M1 kp1 r1 m1 q1=>⟨τ,M1,_,A.go kp1 m1,q1,λ y H2 wi M2 kp2 r2 m2 q2=>?_⟩⟩
  obtain ⟨a,ws,i,j,n,e1,e2,hm,hj,hn,q⟩:=q2
  subst e1; subst e2
  simp only [RepW,RepD] at r1 r2
  obtain ⟨vs,e3,rw1⟩:=m2 a _ hm
  obtain ⟨v,e4,rv⟩:=rw1.get hn
  simp only [RepW,RepD] at rv
  have hj':ixN vs.length i=some j:=by rw [<- rw1.length]; exact hj
  refine ⟨a,vs,i,v,r1,r2,SqL.of e3,by unfold atI; rw [hj']; exact e4,?_⟩
  refine ⟨τ,M2,_,A.go (kp1.trans kp2) m2,q,λ z H3 wz M3 kp3 r3 m3 q3=>?_⟩
  obtain ⟨n',e5,e6,qn⟩:=q3
  subst e5; subst e6
  simp only [RepW,RepD] at r3
  refine ⟨n,n',rv,r3,?_⟩
  obtain ⟨vs',e3',rw2⟩:=m3 a _ hm
  have kp:=(kp1.trans kp2).trans kp3
  obtain ⟨kp4,m4⟩:=set_rep (j:=j) (v:=.int (f n n')) (w:=.d (.int (f n n'))) m3 e3' rw2 (by simp [RepW,RepD])
  exact ⟨a,vs',i,j,r1,r2,e3',by rw [<- rw2.length]; exact hj,k1 σ _ τ _ (kp.trans kp4) (A.go (kp.trans kp4) m4) qn⟩
end
end D
namespace D
open PySem PySem.Spec PyProof.Rows L2
section
variable {X:Cx}{K:PySem.W.Frag}{tg:Expr}
noncomputable def Its (z:Str):It:=⟨λ i _=>i < z.cps.size,λ i H x H'=>H'=H/\∃ c,z.cps[i]? = some c/\x=.str ⟨#[c]⟩,λ i _=>z.cps.size<=i⟩
theorem turn_str {P:Program}{w:World}{K:PySem.W.Frag}{tg:Expr}(it:Addr)(T:String)(z:Str)(t:Tok)
  (hT:["enumerate", "zip", "dict_itemiterator", "dict_reverseitemiterator", "odict_iterator", "itertools.zip_longest", "itertools.pairwise"].contains T=false)
  (W:∀ A:Around,A.handled=none->Walks P w A it [it] [it] z.cps.size (SignAt z) (λ i h=>h.IsStrIter it T z t i))(hself:∀ (A:Around) (i:Nat) (s:Shared) (Q:Value->Shared->Prop) (E:Value->Shared->Prop),s.heap.IsStrIter it T z t i->Q (.ref it) s->wpAny (model P w) A (pyIter (.ref it)) Q E s)
  (hend:∀ (A:Around) (i:Nat) (s:Shared) (Q:Option Value->Shared->Prop) (E:Value->Shared->Prop),A.handled=none->s.heap.IsStrIter it T z t i->z.cps[i]? = none->(∀ h',Heap.ExtBut it s.heap h'->Q none { s with heap:=h' })->wpAny (model P w) A (pyNext (.ref it)) Q E s) :
  Turn P w K tg (Its z) [it] it (λ i h=>h.IsStrIter it T z t i) where
 mem:=by simp
 obj:=λ i h st b hb=>by
  have e:b=it:=by simpa using hb
  subst e
  obtain ⟨o,e,c,d⟩:=st
  exact ⟨o,e,λ v q=>by rw [d] at q; cases q⟩
 keep:=λ i h h' st k=>by
  obtain ⟨o,e,r⟩:=st
  exact ⟨o,k it (by simp) o e,r⟩
 item:=by
  intro X hP hw hK hc i pins s σ H E I hf st hg
  subst hP hw hK
  obtain ⟨f0,f1,f2,f3,f4,f5⟩:=hf it (by simp)
  refine (W X.A (I.ok.hd hc)).item i s _ _ hg st λ v h' tk hv st' kk=>?_
  obtain ⟨c,u,hc',rfl⟩:=hv
  have I1:Inv X pins σ H { s with heap:=h',toks:=tk }:=I.turned (λ b o hb e=>kk b o (by simpa using hb) e) f0 f1 f3 f4 f5
  obtain ⟨o,e,cl,d⟩:=id st'
  exact ⟨_,rfl,go_of (s:={ s with heap:=h',toks:=tk }) e cl d hT ⟨.str ⟨#[c]⟩,H,I1,⟨u,rfl⟩,⟨rfl,c,hc',rfl⟩,st',λ b hb=>(hf b hb).1⟩⟩
 done:=by
  intro X hP hw hK hc i pins s σ H E I hf st hg
  subst hP hw hK
  obtain ⟨f0,f1,f2,f3,f4,f5⟩:=hf it (by simp)
  have hn:z.cps.size<=i:=hg
  exact hend X.A i s _ E (I.ok.hd hc) st (by simp [hn]) λ h' eb=>⟨rfl,I.turned (t':=s.toks) (λ b o hb e=>eb b o hb e) f0 f1 f3 f4 f5⟩
 self:=hself
section
variable {pins:List (Addr×Obj)}{σ:St}{H:Hp}{s:Shared}{R:It->Hp->Prop}{E:Value->Shared->Prop}
theorem it_str {z:Str}{t:Tok}(I:Inv X pins σ H s)(q:R (Its z) H):wpAny (model X.prog X.w) X.A (pyIter (.str z t)) (PIE X pins σ tg R) E s:=by
 cases ha:z.cps.all (· < 128)
 ·refine wpAny_pyIter_wide ha ?_
  refine ⟨s.heap.objs.size,[s.heap.objs.size],_,_,H,rfl,I.kept (t':=s.toks) λ b o e=>Heap.get?_push_of_some _ e,
   turn_str _ "str_iterator" z t (by decide) (λ A hA=>Walks.strWide hA _ z t) (λ A i s Q E st h=>wpAny_pyIter_striter_wide st h) (λ A i s Q E hh st hx hQ=>wpAny_pyNext_wide_end hh st hx hQ),⟨_,Heap.get?_push_size _ rfl,rfl,rfl⟩,λ b hb=>?_,q⟩
  have e:b=s.heap.objs.size:=by simpa using hb
  subst e
  exact I.fpOk (Nat.le_refl _) (I.hok.fresh (Nat.le_refl _))
 ·refine wpAny_pyIter_ascii ha ?_
  refine ⟨s.heap.objs.size,[s.heap.objs.size],_,_,H,rfl,I.kept (t':=s.toks) λ b o e=>Heap.get?_push_of_some _ e,
   turn_str _ "str_ascii_iterator" z t (by decide) (λ A hA=>Walks.strAscii hA _ z t) (λ A i s Q E st h=>wpAny_pyIter_striter_ascii st h) (λ A i s Q E hh st hx hQ=>wpAny_pyNext_ascii_end hh st hx hQ),⟨_,Heap.get?_push_size _ rfl,rfl,rfl⟩,λ b hb=>?_,q⟩
  have e:b=s.heap.objs.size:=by simpa using hb
  subst e
  exact I.fpOk (Nat.le_refl _) (I.hok.fresh (Nat.le_refl _))
theorem it_list {a:Addr}{xs:List V}(I:Inv X pins σ H s)(hq:SqL X.K H a xs)(q:R (Itl X.K a) H):wpAny (model X.prog X.w) X.A (pyIter (.ref a)) (PIE X pins σ tg R) E s:=by
 obtain ⟨its,rv,p,hz⟩:=I.list hq
 refine wpAny_pyIter_list p.isList ?_
 refine ⟨s.heap.objs.size,[s.heap.objs.size],_,_,H,rfl,I.kept (t':=s.toks) λ b o e=>Heap.get?_push_of_some _ e,turn_list a _,⟨_,Heap.get?_push_size _ rfl,rfl,rfl⟩,λ b hb=>?_,q⟩
 have e:b=s.heap.objs.size:=by simpa using hb
 subst e
 exact I.fpOk (Nat.le_refl _) (I.hok.fresh (Nat.le_refl _))
theorem it_tup {a:Addr}{xs:List V}(I:Inv X pins σ H s)(hq:SqT X.K H a xs)(q:R (Itt X.K a) H):wpAny (model X.prog X.w) X.A (pyIter (.ref a)) (PIE X pins σ tg R) E s:=by
 obtain ⟨its,rv,p,hz⟩:=I.tuple hq
 refine wpAny_pyIter_tuple (show s.heap.IsTuple a its.toArray from p) ?_
 refine ⟨s.heap.objs.size,[s.heap.objs.size],_,_,H,rfl,I.kept (t':=s.toks) λ b o e=>Heap.get?_push_of_some _ e,turn_tuple a _,⟨_,Heap.get?_push_size _ rfl,rfl,rfl⟩,λ b hb=>?_,q⟩
 have e:b=s.heap.objs.size:=by simpa using hb
 subst e
 exact I.fpOk (Nat.le_refl _) (I.hok.fresh (Nat.le_refl _))
end
noncomputable def iAny (K:PySem.W.Frag)(tl:TE):TI:=λ σ H R=>tl σ H λ x H1=>(∃ a xs,x=.ref a/\SqL K H1 a xs/\R (Itl K a) H1)\/(∃ a xs,x=.ref a/\SqT K H1 a xs/\R (Itt K a) H1)\/∃ z,x=.str z/\R (Its z) H1
theorem pi_any {l:Expr}{tl:TE}(hl:PE X l tl):PI X tg l (iAny X.K tl):=by
 intro pins s σ H R I h
 refine thn (hl pins s σ H _ I h) λ v s1 hq46=>?_
 obtain ⟨x,H1,I1,r1,q1⟩:=hq46
 rcases q1 with ⟨a,xs,e,hq,q⟩ | ⟨a,xs,e,hq,q⟩ | ⟨z,e,q⟩
 ·subst e; cases r1; exact it_list I1 hq q
 ·subst e; cases r1; exact it_tup I1 hq q
 ·subst e; obtain ⟨t,rfl⟩:=r1; exact it_str I1 q
noncomputable def ItD (K:PySem.W.Frag)(J:It)(H0:Hp)(ws:List W):Prop:=∀ H,Kp H0 H->∀ i:Nat,(i < ws.length->J.go i H)/\(ws.length<=i->J.stop i H) /\
 ∀ x H',i < ws.length->J.yld i H x H'->Kp H H'/\(∀ M,MAbs K H M->MAbs K H' M)/\∃ w,ws[i]? = some w/\RepW K H' w x
noncomputable abbrev TId:=DS->MH->(List W->MH->Prop)->Prop
noncomputable def upI (K:PySem.W.Frag)(t:TId):TI:=λ σ H R=>∃ τ M Rd,Abs K H σ τ M/\t τ M Rd/\∀ J H' ws M',Kp H H'->MAbs K H' M'->ItD K J H' ws->Rd ws M'->R J H'
noncomputable abbrev PId (X:Cx)(tg iter:Expr)(t:TId):Prop:=PI X tg iter (upI X.K t)
theorem pi_w {iter:Expr}{t t':TI}(h:PI X tg iter t)(k:∀ σ H R,t' σ H R->t σ H R):PI X tg iter t':=λ pins s σ H R I q=>h pins s σ H R I (k σ H R q)
noncomputable def itemsW:W->Option (List W)
 | .d (.list ds)=>some (ds.map W.d)
 | .d (.tuple ds)=>some (ds.map W.d)
 | .d (.str z)=>some (z.cps.toList.map λ c=>W.d (.str ⟨#[c]⟩))
 | _=>none
noncomputable def dItems (te:TD)(τ:DS)(M:MH)(R:List W->MH->Prop):Prop:=te τ M λ w M1=>∃ ws,itemsW w=some ws/\R ws M1
theorem itd_tup {H:Hp}{a:Addr}{vs:List V}{ds:List PyData}(hs:SqT K H a vs)(ra:RepA K H ds vs):ItD K (Itt K a) H (ds.map W.d):=λ H1 kp i=>by
 have hl:=ra.length
 refine ⟨λ hi=>?_,λ hi=>⟨vs,SqT.keep kp hs,by rw [List.length_map] at hi; omega⟩,λ x H' hi y=>?_⟩
 ·rw [List.length_map] at hi
  exact ⟨vs,vs[i]'(by omega),SqT.keep kp hs,by simp⟩
 ·obtain ⟨e,y⟩:=y
  subst e
  have ev:=y vs (SqT.keep kp hs)
  obtain ⟨d,e1,rd⟩:=(ra.keep kp).get' ev
  exact ⟨Kp.refl _,λ M m=>m,.d d,by simp [e1],rd⟩
theorem itd_str {H:Hp}(z:Str):ItD K (Its z) H (z.cps.toList.map λ c=>W.d (.str ⟨#[c]⟩)):=λ H1 kp i=>by
 refine ⟨λ hi=>(show i < z.cps.size by simpa using hi),λ hi=>(show z.cps.size<=i by simpa using hi),λ x H' hi y=>?_⟩
 obtain ⟨e,c,hc,ex⟩:=y
 subst e; subst ex
 exact ⟨Kp.refl _,λ M m=>m,.d (.str ⟨#[c]⟩),by simp [hc],by simp [RepW,RepD]⟩
theorem itd_rng {H:Hp}(lo:Int)(n:Nat):ItD K (Itr lo n) H ((List.range n).map λ i:Nat=>W.d (.int (lo+(i:Int)))):=λ H1 kp i=>by
 refine ⟨λ hi=>(show i < n by simpa using hi),λ hi=>(show n<=i by simpa using hi),λ x H' hi y=>?_⟩
 obtain ⟨e,ex⟩:=y
 subst e; subst ex
 simp at hi
 exact ⟨Kp.refl _,λ M m=>m,.d (.int (lo+i)),by simp [hi],by simp [RepW,RepD]⟩
theorem pid_items {l:Expr}{te:TD}(h:PD X l te):PId X tg l (dItems te):=pi_w (pi_any h) λ σ H R hq47=>by
 obtain ⟨τ,M,Rd,A,h,k⟩:=hq47
 refine ⟨τ,M,_,A,h,λ v H1 w M1 kp r m hq48=>?_⟩
 obtain ⟨ws,e,q⟩:=hq48
 cases w with
 | t n=>simp [itemsW] at e
 | m a=>simp [itemsW] at e
 | d d =>
  cases d with
  | list ds =>
   simp only [itemsW] at e
   cases e
   simp only [RepW,RepD] at r
   obtain ⟨a,vs,e1,hs,ra⟩:=r
   refine .inl ⟨a,vs,e1,hs.sq,k _ H1 _ M1 kp m ?_ q⟩
   intro H2 kp2 i
   have hl:=ra.length
   have hs2:=(hs.keep kp2).sq
   refine ⟨λ hi=>?_,λ hi=>⟨vs,hs2,by rw [List.length_map] at hi; omega⟩,λ x H' hi y=>?_⟩
   ·rw [List.length_map] at hi
    exact ⟨vs,vs[i]'(by omega),hs2,by simp⟩
   ·obtain ⟨e,y⟩:=y
    subst e
    have ev:=y vs hs2
    obtain ⟨d,e1,rd⟩:=(ra.keep kp2).get' ev
    exact ⟨Kp.refl _,λ M m=>m,.d d,by simp [e1],rd⟩
  | tuple ds =>
   simp only [itemsW] at e
   cases e
   simp only [RepW,RepD] at r
   obtain ⟨a,vs,e1,hs,ra⟩:=r
   exact .inr (.inl ⟨a,vs,e1,hs,k _ H1 _ M1 kp m (itd_tup hs ra) q⟩)
  | str z =>
   simp only [itemsW] at e
   cases e
   simp only [RepW,RepD] at r
   exact .inr (.inr ⟨z,r,k _ H1 _ M1 kp m (itd_str z) q⟩)
  | _=>simp [itemsW] at e
noncomputable def rangeW (lo:Int)(n:Nat):List W:=(List.range n).map λ i:Nat=>W.d (.int (lo+(i:Int)))
noncomputable def dRng1 (ta:TAd)(τ:DS)(M:MH)(R:List W->MH->Prop):Prop:=ta τ M λ ws M1=>∃ j:Int,ws=[.d (.int j)]/\-(2 ^ 62)<=j/\j < 2 ^ 62/\R (rangeW 0 j.toNat) M1
theorem repWs1 {H:Hp}{vs:List V}{w:W}(r:RepWs K H [w] vs):∃ v,vs=[v]/\RepW K H w v:=by
 cases r with
 | cons r1 r2=>cases r2; exact ⟨_,rfl,r1⟩
theorem repWs2 {H:Hp}{vs:List V}{w w':W}(r:RepWs K H [w,w'] vs):∃ v v',vs=[v,v']/\RepW K H w v/\RepW K H w' v':=by
 cases r with
 | cons r1 r2 =>
  cases r2 with
  | cons r3 r4=>cases r4; exact ⟨_,_,rfl,r1,r3⟩
theorem pid_range1 {a:Expr}{ta:TAd}{p pos:Pos}(hg:Gl X "range")(hm:X.mg "range" = none)(ha:PAd X [a] ta)(hs:starEach [a] X.env=[(false,eval a X.env)]:=by rfl):PId X tg (.Call (.Name "range" p) [a] [] pos) (dRng1 ta) :=
 pi_w (pi_range1 hg hm ha hs) λ σ H R ⟨τ,M,Rd,A,h,k⟩=>⟨τ,M,_,A,h,λ vs H1 ws M1 kp r m hq49=>by
  obtain ⟨j,e,h1,h2,q⟩:=hq49
  subst e
  obtain ⟨v,e1,r1⟩:=repWs1 r
  simp only [RepW,RepD] at r1
  subst r1
  exact ⟨j,e1,h1,h2,k _ H1 _ M1 kp m (itd_rng 0 j.toNat) q⟩⟩
noncomputable def dFor (di:TId)(g:TGd)(tb:TSd)(D:Ed)(τ:DS)(M:MH):Prop:=di τ M λ ws M1=>∃ P:Nat->DS->MH->Prop,P 0 τ M1 /\
 (∀ i w τ M,ws[i]? = some w->P i τ M->g w τ M λ τ2 M2=>tb { D with nx:=P (i+1),ct:=P (i+1),bk:=D.nx } τ2 M2)/\∀ τ M,P ws.length τ M->D.nx τ M
theorem psd_for {iter:Expr}{body:List Stmt}{di:TId}{g:TGd}{tb:TSd}{pos:Pos}(hp:PassesOwn (model X.prog X.w) X.A X.env X.xe)(hc:X.calm=true)(hi:PId X tg iter di)(hg:PGd X tg g)(hb:PSsd X body tb)
  (hs:∀ x,foldedSetIterable iter X.env x=pure x:=by intro _; rfl):PSd X (.For tg iter body [] pos) (dFor di g tb):=ps_w (ps_for hp hc hi hg hb hs) λ D σ H hq50=>by
 obtain ⟨τ,M,Dd,A,h,k1,k2,k3,k4⟩:=hq50
 refine ⟨τ,M,_,A,h,λ J H1 ws M1 kp m1 it hq51=>?_⟩
 obtain ⟨P,p0,pt,pe⟩:=hq51
 refine ⟨λ i n σ H'=>n=ws.length - i/\i<=ws.length/\Kp H1 H'/\∃ τ M,Abs X.K H' σ τ M/\P i τ M,⟨ws.length,by simp,Nat.zero_le _,Kp.refl _,τ,M1,A.go kp m1,p0⟩,?_⟩
 rintro i n σ2 H2 ⟨rfl,hi,kp2,τ2,M2,A2,p2⟩
 obtain ⟨go,stop,yld⟩:=it H2 kp2 i
 by_cases hlt:i < ws.length
 ·refine .inr ⟨go hlt,λ σ3 H3=>Kp H2 H3/\∃ τ M,Abs X.K H3 σ3 τ M/\P (i+1) τ M,λ σ3 H3 ⟨kp3,τ3,M3,A3,p3⟩=>⟨ws.length - (i+1),by omega,rfl,hlt,kp2.trans kp3,τ3,M3,A3,p3⟩,λ x H3 y=>?_⟩
  obtain ⟨kp3,mk,w,ew,rw⟩:=yld x H3 hlt y
  refine ⟨w,τ2,M2,_,rw,A2.go kp3 (mk _ A2.mem),pt i w τ2 M2 ew p2,λ σ4 H4 τ4 M4 kp4 A4 q4=>?_⟩
  have kq:=kp3.trans kp4
  have kr:=(kp.trans kp2).trans kq
  exact ⟨τ4,M4,_,A4,q4,λ σ5 H5 τ5 M5 kp5 A5 q5=>⟨kq.trans kp5,τ5,M5,A5,q5⟩,λ v H5 w M5 kp5=>k2 v H5 w M5 (kr.trans kp5),λ σ5 H5 τ5 M5 kp5=>k1 σ5 H5 τ5 M5 (kr.trans kp5),λ σ5 H5 τ5 M5 kp5 A5 q5=>⟨kq.trans kp5,τ5,M5,A5,q5⟩⟩
 ·have hl:i=ws.length:=by omega
  subst hl
  exact .inl ⟨stop (Nat.le_refl _),k1 σ2 H2 τ2 M2 (kp.trans kp2) A2 (pe τ2 M2 p2)⟩
noncomputable def lcSD (k:Nat)(fr:List Nat)(τ:DS):DS:=List.replicate k none++fr.map λ j=>(τ[j]?).getD none
theorem abs_lc {H:Hp}{σ:St}{τ:DS}{M:MH}(A:Abs K H σ τ M)(k:Nat)(fr:List Nat):Abs K H (lcS k fr σ) (lcSD k fr τ) M:=by
 refine ⟨by simp [lcS,lcSD],λ i w e=>?_,A.mem⟩
 unfold lcSD at e
 by_cases hi:i < k
 ·rw [List.getElem?_append_left (by simpa using hi),List.getElem?_replicate] at e
  split at e <;> cases e
 ·rw [List.getElem?_append_right (by simpa using hi),List.getElem?_map,List.length_replicate] at e
  cases q:fr[i - k]? with
  | none=>rw [q] at e; cases e
  | some j =>
   rw [q] at e
   have e':(τ[j]?).getD none=some w:=Option.some.inj e
   have e2:τ[j]? = some (some w):=by
    cases z:τ[j]? with
    | none=>rw [z] at e'; cases e'
    | some o=>rw [z] at e'; exact congrArg some e'
   obtain ⟨v,q1,r⟩:=A.val j w e2
   refine ⟨v,?_,r⟩
   unfold lcS
   rw [List.getElem?_append_right (by simpa using hi),List.getElem?_map,List.length_replicate,q]
   simp [q1]
noncomputable def dLC (di:TId)(g:TGd)(tt:TTd)(te:TD)(k:Nat)(fr:List Nat)(τ:DS)(M:MH)(Q:QD):Prop:=di τ M λ ws M1=>∃ P:Nat->List PyData->DS->MH->Prop,P 0 [] (lcSD k fr τ) M1 /\
 (∀ i w acc τ M,ws[i]? = some w->P i acc τ M->acc.length < sizeLine/\g w τ M λ τ2 M2=>tt τ2 M2 λ b M3=>if b=true then te τ2 M3 λ y M4=>∃ d,y=.d d/\P (i+1) (acc++[d]) τ2 M4 else P (i+1) acc τ2 M3) /\
 ∀ acc τ M,P ws.length acc τ M->Q (.d (.list acc)) M
theorem imp_lc {di:TId}{g:TGd}{tt:TTd}{te:TD}{k:Nat}{fr:List Nat}{σ:St}{H:Hp}{Q:VK}(h:up K (dLC di g tt te k fr) σ H Q) :
  tFrz (tLC (upI K di) (upG K g) (upT K tt) (up K te) k fr) σ H Q:=by
 obtain ⟨τ,M,Qd,A,h,kk⟩:=h
 refine ⟨τ,M,_,A,h,λ J H1 ws M1 kp m1 it hq52=>?_⟩
 obtain ⟨P,p0,pt,pe⟩:=hq52
 refine ⟨λ i n ys σ' H'=>n=ws.length - i/\i<=ws.length/\Kp H1 H'/\∃ acc τ M,RepA K H' acc ys/\Abs K H' σ' τ M/\P i acc τ M,⟨ws.length,by simp,Nat.zero_le _,Kp.refl _,[],_,M1,by simp [RepA],abs_lc (A.go kp m1) k fr,p0⟩,?_⟩
 rintro i n ys σ2 H2 ⟨rfl,hi,kp2,acc,τ2,M2,ra,A2,p2⟩
 obtain ⟨go,stop,yld⟩:=it H2 kp2 i
 by_cases hlt:i < ws.length
 ·have hlen:=ra.length
  refine .inr ⟨go hlt,?_,λ x H3 y=>?_⟩
  ·obtain ⟨w,hw⟩:∃ w,ws[i]? = some w:=⟨ws[i],by simp [hlt]⟩
   have:=(pt i w acc τ2 M2 hw p2).1
   omega
  obtain ⟨kp3,mk,w,ew,rw⟩:=yld x H3 hlt y
  refine ⟨w,τ2,M2,_,rw,A2.go kp3 (mk _ A2.mem),(pt i w acc τ2 M2 ew p2).2,λ σ4 H4 τ4 M4 kp4 A4 q4=>⟨τ4,M4,_,A4,q4,λ b H5 M5 kp5 m5 q5=>?_⟩⟩
  have kq:=(kp3.trans kp4).trans kp5
  cases b with
  | false =>
   rw [if_neg Bool.false_ne_true] at q5
   show (if false=true then _ else _)
   rw [if_neg Bool.false_ne_true]
   exact ⟨ws.length - (i+1),by omega,rfl,hlt,kp2.trans kq,acc,τ4,M5,ra.keep kq,A4.go kp5 m5,q5⟩
  | true =>
   rw [if_pos rfl] at q5
   show (if true=true then _ else _)
   rw [if_pos rfl]
   refine ⟨τ4,M5,_,A4.go kp5 m5,q5,λ v H6 wv M6 kp6 r6 m6 hq53=>?_⟩
   obtain ⟨d,e6,q6⟩:=hq53
   subst e6
   refine ⟨ws.length - (i+1),by omega,rfl,hlt,kp2.trans (kq.trans kp6),acc++[d],τ4,M6,RepA.append (ra.keep (kq.trans kp6)) ?_,A4.go (kp5.trans kp6) m6,q6⟩
   simp only [RepA]
   exact ⟨v,[],rfl,r6,rfl⟩
 ·have hl:i=ws.length:=by omega
  subst hl
  exact .inl ⟨stop (Nat.le_refl _),λ p hp=>imp_frz hp ra A2.mem (pe acc τ2 M2 p2) (kgo kk (kp.trans kp2))⟩
section
variable {sc:Scope}{own:List Str}{fr:List Nat}{elt iter:Expr}{ifs:List Expr}{pos:Pos}{di:TId}{g:TGd}{tt:TTd}{te:TD}
noncomputable abbrev PTsd (X:Cx)(ifs:List Expr)(t:TTd):Prop:=PTs X ifs (upT X.K t)
noncomputable def dYes (_:DS)(M:MH)(Q:Bool->MH->Prop):Prop:=Q true M
theorem ptsd_nil:PTsd X [] dYes:=λ pins s σ H Q I ⟨τ,M,Qd,A,q,k⟩=>pts_nil pins s σ H Q I (k true H M (Kp.refl H) A.mem q)
theorem pd_lc (hc:X.calm=true)(L:LcOk X sc own fr)(hi:PId X tg iter di)
  (hg:∀ cl C s H ex pl,PGd (blk X sc (lcN X own fr) cl C s H ex pl) tg g)(ht:∀ cl C s H ex pl,PTsd (blk X sc (lcN X own fr) cl C s H ex pl) ifs tt)(he:∀ cl C s H ex pl,PD (blk X sc (lcN X own fr) cl C s H ex pl) elt te)
  (hs:∀ x,foldedSetIterable iter X.env x=pure x:=by intro _; rfl):PD X (.ListComp elt [⟨tg,iter,ifs,0⟩] sc pos) (dLC di g tt te own.length fr) :=
 pe_w (pe_frz (pe_lc hc L hi hg ht he hs)) λ σ H Q h=>imp_lc h
end
end
end D
namespace D
open PySem PySem.Spec PyProof.Rows L2
section
variable {X:Cx}{K:PySem.W.Frag}
noncomputable def rdAbs (ws:List W)(M:MH)(Q:QD):Prop:=∃ i:Int,ws=[.d (.int i)]/\Q (.d (.int (if i < 0 then -i else i))) M
theorem cd_abs:CallD K (λ xs H Q=>∃ i,xs=[.int i]/\Q (.int (if i < 0 then -i else i)) H) rdAbs:=by
 intro vs H ws M Qd Q r m ⟨i,e,q⟩ k
 subst e
 obtain ⟨v,e1,r1⟩:=repWs1 r
 simp only [RepW,RepD] at r1
 subst r1
 exact ⟨i,e1,k _ H (.d (.int _)) M (Kp.refl H) (by simp [RepW,RepD]) m q⟩
noncomputable def lenW (M:MH):W->Option Nat
 | .d (.list ds)=>some ds.length
 | .d (.tuple ds)=>some ds.length
 | .d (.str z)=>some z.length
 | .m a=>match M a with
  | some (.lst ws)=>some ws.length
  | _=>none
 | _=>none
noncomputable def rdLen (ws:List W)(M:MH)(Q:QD):Prop:=∃ w n,ws=[w]/\lenW M w=some n/\fitW w=true/\Q (.d (.int (n:Nat))) M
theorem cd_len:CallD K (λ xs H Q=>∃ x n,xs=[x]/\LenV K x H n/\Q (.int n) H) rdLen:=by
 intro vs H ws M Qd Q r m ⟨w,n,e,hn,hf,q⟩ k
 subst e
 obtain ⟨v,e1,r1⟩:=repWs1 r
 refine ⟨v,n,e1,?_,k _ H (.d (.int _)) M (Kp.refl H) (by simp [RepW,RepD]) m q⟩
 cases w with
 | t _=>simp [lenW] at hn
 | m a =>
  simp only [RepW] at r1
  subst r1
  simp only [lenW] at hn
  cases hm:M a with
  | none=>rw [hm] at hn; cases hn
  | some mo =>
   rw [hm] at hn
   cases mo with
   | lst l=>cases hn; obtain ⟨us,e2,rw1⟩:=m a _ hm; exact .inl ⟨us,SqL.of e2,rw1.length⟩
   | dic _=>cases hn
   | dct _=>cases hn
   | fdic _=>cases hn
   | ins _ _=>cases hn
   | tup _=>cases hn
   | flst _=>cases hn
   | exc _ _=>cases hn
   | code _ _=>cases hn
 | d d =>
  cases d with
  | list ds=>simp only [lenW] at hn; cases hn; simp only [RepW,RepD] at r1; obtain ⟨a,us,e2,hs,ra⟩:=r1; subst e2; exact .inl ⟨us,hs.sq,ra.length.symm⟩
  | tuple ds=>simp only [lenW] at hn; cases hn; simp only [RepW,RepD] at r1; obtain ⟨a,us,e2,hs,ra⟩:=r1; subst e2; exact .inr ⟨us,hs,ra.length.symm⟩
  | str z=>simp only [lenW] at hn; cases hn; simp only [RepW,RepD] at r1; subst r1; exact ⟨of_decide_eq_true hf,rfl⟩
  | _=>simp [lenW] at hn
noncomputable def rdAll (ws:List W)(M:MH)(Q:QD):Prop:=∃ bs:List Bool,ws=[.d (.list (bs.map PyData.bool))]/\Q (.d (.bool (bs.all id))) M
theorem cd_all:CallD K (λ xs H Q=>∃ (x:V) (bs:List Bool),xs=[x]/\RepD K H (.list (bs.map PyData.bool)) x/\Q (.bl (bs.all id)) H) rdAll:=by
 intro vs H ws M Qd Q r m ⟨bs,e,q⟩ k
 subst e
 obtain ⟨v,e1,r1⟩:=repWs1 r
 exact ⟨v,bs,e1,r1,k _ H (.d (.bool _)) M (Kp.refl H) (by simp [RepW,RepD]) m q⟩
theorem strs_are {H:Hp}:∀ {ys:List Str} {vs:List V} {us:List Value},RepA K H (ys.map PyData.str) vs->Vals vs us->StrsAre us ys
 | [],vs,us,h,r=>by simp only [List.map_nil,RepA] at h; subst h; cases r; exact .nil
 | y :: ys,vs,us,h,r=>by
  simp only [List.map_cons,RepA] at h
  obtain ⟨v,vr,e,h1,h2⟩:=h
  subst e
  simp only [RepD] at h1
  subst h1
  cases r with
  | cons r1 r2 =>
   obtain ⟨t,e⟩:=(show ∃ t,_=Value.str y t from r1)
   subst e
   exact .cons _ _ (strs_are h2 r2)
noncomputable def MtD (K:PySem.W.Frag)(r:V->List V->Hp->VK->Prop)(rd:W->List W->MH->QD->Prop):Prop:=∀ x vs H w ws M Qd Q,RepW K H w x->RepWs K H ws vs->MAbs K H M->rd w ws M Qd->Kont K H Qd Q->r x vs H Q
noncomputable def dMS (rd:W->List W->MH->QD->Prop)(to:TD)(t:TAd)(τ:DS)(M:MH)(Q:QD):Prop:=to τ M λ w M1=>(∃ z,w=.d (.str z))/\t τ M1 λ ws M2=>rd w ws M2 Q
theorem pd_ms {o e:Expr}{es:List Expr}{to:TD}{t:TAd}{name:Str}{apos cpos:Pos}{id:String}{r:V->List V->Hp->VK->Prop}{rd:W->List W->MH->QD->Prop}(slot:Slot "str" name id)(hty:typeOf (.builtin id)=pure (.type "method_descriptor"))(hm:MtR X id r)(hd:MtD X.K r rd)(ho:PD X o to)(ha:PAd X (e :: es) t)
  (hbase:attributeBase o name X.env (eval o X.env)=eval o X.env:=by rfl)
  (hfew:((backTo cpos (starEach (e :: es) X.env)).all (λ x=>!x.1) && (backToKw cpos (keywordEach [] X.env)).all (λ x=>x.1.isSome)
   && decide ((e :: es).length+([]:List Keyword).length+(if ([]:List Keyword).isEmpty then 0 else 1) < 30))=true:=by rfl)
  (hline:(apos.endLine == cpos.line)=true:=by rfl)(hs:starEach (e :: es) X.env=(false,eval e X.env) :: starEach es X.env:=by rfl)(hplain:(backTo cpos (starEach es X.env)).any (·.1)=false:=by rfl) :
  PD X (.Call (.Attribute o name apos) (e :: es) [] cpos) (dMS rd to t):=pe_w (pe_bm PySem.F.plainAttrs_str slot hty hm ho ha hbase hfew hline hs hplain) λ σ H Q hq54=>by
 obtain ⟨τ,M,Qd,A,h,k⟩:=hq54
 refine ⟨τ,M,_,A,h,λ x H1 w M1 kp1 r1 m1 hq55=>?_⟩
 obtain ⟨⟨z,ez⟩,q1⟩:=hq55
 subst ez
 have r1':=r1
 simp only [RepW,RepD] at r1'
 subst r1'
 exact ⟨rfl,τ,M1,_,A.go kp1 m1,q1,λ vs H2 ws M2 kp2 r2 m2 q2=>hd _ vs H2 _ ws M2 Qd Q (r1.keep kp2) r2 m2 q2 (kgo k (kp1.trans kp2))⟩
noncomputable def rJoin (K:PySem.W.Frag):V->List V->Hp->VK->Prop:=λ x vs H Q=>∃ (sep:Str) (v:V) (ys:List Str),x=.str sep/\vs=[v]/\RepD K H (.list (ys.map PyData.str)) v/\(ys.map (·.length)).sum+ys.length * sep.length<=16777216/\Q (.str (Txt.join sep ys)) H
theorem mt_join:MtR X "str.join" (rJoin X.K):=by
 intro pins s σ H x vs v us Q I rx rv h
 obtain ⟨sep,y,ys,rfl,rfl,rd,hz,q⟩:=h
 obtain ⟨t,rfl⟩:=rx
 obtain ⟨u,rfl,ru⟩:=vals1 rv
 simp only [RepD] at rd
 obtain ⟨a,xs,e,hs,ra⟩:=rd
 subst e
 cases (show u=Value.ref a from ru)
 obtain ⟨its,r,pl,hz'⟩:=I.list hs.sq
 exact join_list pl.isList (by simpa using strs_are ra r) hz λ t' k=>⟨.str _,H,I.tok _,⟨_,rfl⟩,q⟩
noncomputable def rdJoin (w:W)(ws:List W)(M:MH)(Q:QD):Prop:=∃ (sep:Str) (ys:List Str),w=.d (.str sep)/\ws=[.d (.list (ys.map PyData.str))]/\(ys.map (·.length)).sum+ys.length * sep.length<=16777216/\Q (.d (.str (Txt.join sep ys))) M
theorem md_join:MtD K (rJoin K) rdJoin:=by
 intro x vs H w ws M Qd Q r1 r2 m ⟨sep,ys,e1,e2,hz,q⟩ k
 subst e1; subst e2
 obtain ⟨v,e3,r3⟩:=repWs1 r2
 simp only [RepW,RepD] at r1
 exact ⟨sep,v,ys,r1,e3,r3,hz,k _ H (.d (.str _)) M (Kp.refl H) (by simp [RepW,RepD]) m q⟩
theorem pd_join {o e:Expr}{to te:TD}{apos cpos:Pos}(ho:PD X o to)(ha:PD X e te)
  (hbase:attributeBase o "join" X.env (eval o X.env)=eval o X.env:=by rfl)(hs:starEach [e] X.env=[(false,eval e X.env)]:=by rfl)
  (hfew:((backTo cpos (starEach [e] X.env)).all (λ x=>!x.1) && (backToKw cpos (keywordEach [] X.env)).all (λ x=>x.1.isSome)
   && decide (([e]:List Expr).length+([]:List Keyword).length+(if ([]:List Keyword).isEmpty then 0 else 1) < 30))=true:=by rfl)
  (hline:(apos.endLine == cpos.line)=true:=by rfl) :
  PD X (.Call (.Attribute o "join" apos) [e] [] cpos) (dMS rdJoin to (dCons te dNil)):=pd_ms PySem.F.slot_str_join PySem.F.type_str_join mt_join md_join ho (pad_cons ha pad_nil hs) hbase hfew hline hs
noncomputable def dDict0 (_:DS)(M:MH)(Q:QD):Prop:=Q (.d (.dict [])) M
theorem pd_dict0 {pos:Pos}:PD X (.Dict [] [] pos) dDict0:=pe_w (pe_frz pe_dnewK) λ σ H Q ⟨τ,M,Qd,A,q,k⟩=>λ p hp=>by
 refine ⟨p,_,rfl,upd_same,trivial,λ o=>?_⟩
 rw [upd_upd]
 refine k _ _ (.d (.dict [])) M (Kp.new hp) ?_ (A.mem.new hp) q
 simp only [RepW,RepD,RepK]
 exact ⟨p,o,[],rfl,upd_same,rfl⟩
noncomputable def dPairs:List (TD×TD)->DS->MH->(List (W×W)->MH->Prop)->Prop
 | [],_,M,Q=>Q [] M
 | (tk,tv) :: r,τ,M,Q=>tk τ M λ x M1=>tv τ M1 λ y M2=>dPairs r τ M2 λ ps M3=>Q ((x,y) :: ps) M3
theorem imp_pairs:∀ {trs:List (TD×TD)} {σ:St} {H:Hp} {τ:DS} {M:MH} {Qd:List (W×W)->MH->Prop} {Q:List (V×V)->Hp->Prop},Abs K H σ τ M->dPairs trs τ M Qd ->
  (∀ ps H' ws M',Kp H H'->Paired (λ (p:W×W) (q:V×V)=>RepW K H' p.1 q.1/\RepW K H' p.2 q.2) ws ps->MAbs K H' M'->Qd ws M'->Q ps H')->tPairs (trs.map λ p=>(up K p.1,up K p.2)) σ H Q
 | [],σ,H,τ,M,Qd,Q,A,h,k=>k [] H [] M (Kp.refl H) .nil A.mem h
 | (tk,tv) :: r,σ,H,τ,M,Qd,Q,A,h,k=>by
  show (up K tk) σ H _
  refine ⟨τ,M,_,A,h,λ x H1 w M1 kp1 r1 m1 q1=>⟨τ,M1,_,A.go kp1 m1,q1,λ y H2 w' M2 kp2 r2 m2 q2=>?_⟩⟩
  refine imp_pairs (A.go (kp1.trans kp2) m2) q2 λ ps H3 ws M3 kp3 r3 m3 q3=>?_
  exact k _ H3 _ M3 ((kp1.trans kp2).trans kp3) (.cons ⟨r1.keep (kp2.trans kp3),r2.keep kp3⟩ r3) m3 q3
noncomputable def dDict (trs:List (TD×TD))(τ:DS)(M:MH)(Q:QD):Prop:=∀ p,M p=none->dPairs trs τ (updM M p (.dic [])) λ ps M2=>M2=updM M p (.dic [])/\∃ kvs:List (Key×PyData),ps=kvs.map (λ q=>(W.d (keyD q.1),W.d q.2))/\kvs.length<=15/\(kvs.map (·.1)).Nodup /\
 Q (.d (.dict (kvs.map λ q=>(keyD q.1,q.2)))) M
theorem mergeK_new:∀ {more kvs:List (Key×V)},((kvs++more).map (·.1)).Nodup->mergeK kvs more=kvs++more
 | [],kvs,_=>by simp [mergeK]
 | p :: r,kvs,h=>by
  have hn:valV kvs p.1=none:=by
   cases e:valV kvs p.1 with
   | none=>rfl
   | some v =>
    have q:(kvs.any λ kv=>decide (kv.1=p.1))=true:=by rw [valV_any,e]; rfl
    obtain ⟨z,hz,ez⟩:=List.any_eq_true.mp q
    rw [List.map_append,List.nodup_append] at h
    exact absurd (of_decide_eq_true ez) (h.2.2 _ (List.mem_map_of_mem hz) _ (by simp))
  show mergeK (putK kvs p.1 p.2) r=_
  rw [putK_new _ hn,mergeK_new (by simpa using h)]
  simp
theorem key_rep {H:Hp}{key:Key}{v:V}(r:RepD K H (keyD key) v):v=kV key:=by
 cases key <;> (simp only [keyD,RepD] at r; exact r)
theorem pairs_key {H:Hp}:∀ {kvs:List (Key×PyData)} {ps:List (V×V)},Paired (λ (p:W×W) (q:V×V)=>RepW K H p.1 q.1/\RepW K H p.2 q.2) (kvs.map λ q=>(W.d (keyD q.1),W.d q.2)) ps ->
  ∃ l:List (Key×V),ps=l.map (λ kv=>(kV kv.1,kv.2))/\l.map (·.1)=kvs.map (·.1)/\RepK K H (kvs.map λ q=>(keyD q.1,q.2)) l
 | [],ps,h=>by cases h; exact ⟨[],rfl,rfl,by simp [RepK]⟩
 | (k,d) :: kvs,ps,h=>by
  cases h with
  | cons r t =>
   rename_i q qs
   obtain ⟨x,y⟩:=q
   obtain ⟨l,e1,e2,e3⟩:=pairs_key t
   refine ⟨(k,y) :: l,?_,by simp [e2],?_⟩
   ·rw [List.map_cons,<- e1,<- key_rep r.1]
   ·simp only [List.map_cons,RepK]
    exact ⟨k,y,l,rfl,rfl,r.2,e3⟩
theorem pd_dict {pos:Pos}{keys:List (Option Expr)}{values:List Expr}{trs:List (TD×TD)}(h:PPs X pos keys values (trs.map λ p=>(up X.K p.1,up X.K p.2)))(hall:keys.all (·.isSome)=true:=by rfl)(hl:keys.length=values.length:=by rfl)(h0:keys≠[]:=by simp)
  (h15:keys.length<=15:=by decide):PD X (.Dict keys values pos) (dDict trs):=pe_w (pe_frz (pe_disp h hall hl h0 h15)) λ σ H Q ⟨τ,M,Qd,A,q,k⟩=>λ p hp=>by
 have kp0:Kp H (upd H p (.dK [])):=Kp.new hp
 have m0:MAbs X.K (upd H p (.dK [])) (updM M p (.dic [])):=A.mem.put (mo:=.dic []) kp0 ⟨[],upd_same,.nil⟩
 have hM:=A.mem.free hp
 refine imp_pairs (A.go kp0 m0) (q p hM) λ ps H2 ws M2 kp2 r2 m2 hq56=>?_
 obtain ⟨eM,kvs,ews,hlen,hnd,qq⟩:=hq56
 subst eM; subst ews
 obtain ⟨l0,e0,pr0⟩:=m2 p _ updM_same
 have el0:l0=[]:=by cases pr0; rfl
 subst el0
 obtain ⟨l,e1,e2,e3⟩:=pairs_key r2
 have elen:l.length=kvs.length:=by
  have:=congrArg List.length e2
  simpa using this
 refine ⟨e0,l,e1,by omega,p,_,rfl,upd_same,trivial,λ o=>?_⟩
 have em:mergeK [] l=l:=by rw [mergeK_new (by simpa [e2] using hnd)]; rfl
 rw [upd_upd,em]
 have kp3:Kp H2 (upd H2 p (.frz o (.dK l))):=Kp.set e0 (λ xs z=>nomatch z) λ _ _ z=>nomatch z
 refine k _ _ (.d (.dict _)) M ((kp0.trans kp2).trans kp3) ?_ (λ a mo hm=>?_) qq
 ·simp only [RepW,RepD]
  exact ⟨p,o,l,rfl,upd_same,e3.keep kp3⟩
 ·have hne:a≠p:=λ z=>by rw [z,hM] at hm; cases hm
  exact (m2 a mo (by rw [updM_ne hne]; exact hm)).keep kp3 λ u z=>by rw [upd_ne hne]; exact z
end
end D
namespace D
open PySem PySem.Spec PyProof.Rows L2
structure Fn (K:PySem.W.Frag)(mg:Str->Option Value)(x:Str)(st:Stmt)(ps:List Str)(f:Addr)(fd:FuncData):Prop where
 fn:Fun K x x st f fd
 mg:mg x=some (.ref f)
 bd:Binds K fd ps []
section
variable {K:PySem.W.Frag}{mg:Str->Option Value}{h:Heap}
theorem fn_mk {x:Str}{st:Stmt}{ps:List Str}{f:Addr}{oc:Value}{od an:Option Addr}{osl:Array (Option Value)}{kV doc pm cdv ct:Value}(X:K.In h)(G:h.Ns mainGlobals mg)(a:PySem.W.nsIn K mainGlobals x=some (some (.ref f)))
  (l:K.lookup f=some ⟨oc,od,.func (PySem.W.fnOf x x (defArgs st) (defBody st) (defScope st) .none kV doc pm an cdv ct),osl⟩)(c:PySem.W.codeIn K cdv x=true)(k:PySem.W.keepIn K (.ref f)=true)
  (b:∀ (kV doc pm:Value) (an:Option Addr) (cdv ct:Value) (us:List Value),us.length=ps.length->bindArgs (PySem.W.fnOf x x (defArgs st) (defBody st) (defScope st) .none kV doc pm an cdv ct) ⟨us,[]⟩=pure (ps.zip us)) :
  Fn K mg x st ps f (PySem.W.fnOf x x (defArgs st) (defBody st) (defScope st) .none kV doc pm an cdv ct) :=
 have F:=fun_mk (st:=st) l c k
 ⟨F,PySem.W.mg_of X G a,F.binds b⟩
end
noncomputable def lcOkB (sc scX:Scope)(N:List Str)(fr:List Nat):Bool :=
 (sc.kind == .function) && sc.names.all (λ y=>!(y.2 == .cell)) && sc.names.all (λ y=>!(y.2 == .free) || scX.names.lookup y.1 == some .cell || scX.names.lookup y.1 == some .free) &&
  sc.names.all (λ y=>!(y.2 == .local) || sc.names.lookup y.1 == some .local) && frOk N sc fr
theorem lcOk {X:Cx}{sc:Scope}{own:List Str}{fr:List Nat}(h:lcOkB sc X.env.scope X.N fr=true):LcOk X sc own fr:=by
 simp only [lcOkB,Bool.and_eq_true] at h
 obtain ⟨⟨⟨⟨h1,h2⟩,h3⟩,h4⟩,h5⟩:=h
 refine ⟨eq_of_beq h1,λ y hy e=>?_,λ y hy e=>?_,λ y hy e=>?_,h5⟩
 ·have:=List.all_eq_true.mp h2 y hy
  simp [e] at this
 ·have:=List.all_eq_true.mp h3 y hy
  simp only [e,beq_self_eq_true,Bool.not_true,Bool.false_or,Bool.or_eq_true] at this
  rcases this with z | z
  ·exact .inl (eq_of_beq z)
  ·exact .inr (eq_of_beq z)
 ·have:=List.all_eq_true.mp h4 y hy
  simp only [e,beq_self_eq_true,Bool.not_true,Bool.false_or] at this
  exact eq_of_beq this
theorem bt_int:bootBuiltins "int" = some (.type "int"):=by decide +kernel
theorem bt_str:bootBuiltins "str" = some (.type "str"):=by decide +kernel
theorem bt_bool:bootBuiltins "bool" = some (.type "bool"):=by decide +kernel
theorem bt_tuple:bootBuiltins "tuple" = some (.type "tuple"):=by decide +kernel
theorem bb_len:bootBuiltins "len" = some (.builtin "len"):=by decide +kernel
theorem bb_abs:bootBuiltins "abs" = some (.builtin "abs"):=by decide +kernel
theorem bb_repr:bootBuiltins "repr" = some (.builtin "repr"):=by decide +kernel
theorem bb_all:bootBuiltins "all" = some (.builtin "all"):=by decide +kernel
theorem bb_isinstance:bootBuiltins "isinstance" = some (.builtin "isinstance"):=by decide +kernel
end D
namespace D
open PySem PySem.Spec PyProof.Rows L2
noncomputable def isSt:Expr->Bool
 | .Starred ..=>true
 | _=>false
theorem star_ok (e:Expr)(es:List Expr)(env:PySem.Env)(h:isSt e=false):starEach (e :: es) env=(false,eval e env) :: starEach es env:=by
 cases e <;> first | rfl | (exact absurd h (by simp [isSt]))
theorem plain_ok (pos:Pos)(env:PySem.Env):∀ es:List Expr,(es.all λ e=>!isSt e)=true->(backTo pos (starEach es env)).any (·.1)=false
 | [],_=>rfl
 | e :: es,h=>by
  rw [List.all_cons,Bool.and_eq_true,Bool.not_eq_true'] at h
  rw [star_ok e es env h.1]
  show (false || (backTo pos (starEach es env)).any (·.1))=false
  rw [plain_ok pos env es h.2]
  rfl
section
variable {X:Cx}{pos p:Pos}{e:Expr}{es:List Expr}{te:TD}{t:TAd}{x:Str}{id T:String}{r:List V->Hp->VK->Prop}{rd:List W->MH->QD->Prop}{k:Nat}{f:Addr}{fd:FuncData}{ps:List Str}{sp:SpD}
theorem pac (ha:PD X e te)(hr:PAd X es t)(h:isSt e=false:=by rfl):PAd X (e :: es) (dCons te t):=pad_cons ha hr (star_ok e es X.env h)
theorem pcB (hc:CallR X (.builtin id) r)(hd:CallD X.K r rd)(hg:Gl X x)(hm:X.mg x=none)(hv:bootBuiltins x=some (.builtin id))(ha:PAd X (e :: es) t)(hn:x ≠ "__name__" := by decide)(hdb:(x == ("__debug__" : Str))=false:=by decide)
  (h1:isSt e=false:=by rfl)(h2:(es.all λ e=>!isSt e)=true:=by rfl):PD X (.Call (.Name x p) (e :: es) [] pos) (dCB rd t):=pd_callB hc hd hg hm hv ha hn hdb (star_ok e es X.env h1) (plain_ok pos X.env es h2)
theorem pcF (F:FnOk X.prog X.w X.K X.mg X.base CX0 k f fd ps (upSp X.K sp))(hr:Room k X.A)(hg:Gl X x)(hm:X.mg x=some (.ref f))(hk:PySem.W.keepIn X.K (.ref f)=true)(hb:Binds X.K fd ps [])
  (ha:PAd X (e :: es) t)(hdb:(x == ("__debug__" : Str))=false:=by decide)(h1:isSt e=false:=by rfl)(h2:(es.all λ e=>!isSt e)=true:=by rfl) :
  PD X (.Call (.Name x p) (e :: es) [] pos) (dCall sp t):=pd_call F hr hg hm hk hb ha hdb (star_ok e es X.env h1) (plain_ok pos X.env es h2)
end
end D
namespace D
open PySem PySem.Spec PyProof.Rows L2
structure Jd (p:Prop):Prop where
 h:p
namespace Q
noncomputable abbrev pm (K:PySem.W.Frag)(p:TD×TD):TE×TE:=(up K p.1,up K p.2)
section
variable {X:Cx}{pos:Pos}{a b c e:Expr}{ta tb tc te:TD}{K:PySem.W.Frag}
theorem pd_var {i:Nat}(h:PE X e (tVar i)):Jd (PD X e (dVar i)):=⟨D.pd_var (h:=h)⟩
theorem dv (i:Nat){x:Str}{pos:Pos}(hN:X.N[i]? = some x:=by rfl)(hv:Vis X.env.scope x:=by first | exact Or.inl rfl | exact Or.inr (Or.inl rfl) | exact Or.inr (Or.inr rfl))(hd:(x == ("__debug__" : Str))=false:=by decide)(hcd:(x == ("__classdict__" : Str))=false:=by decide):Jd (PD X (.Name x pos) (dVar i)):=⟨D.dv (i:=i) (hN:=hN) (hv:=hv) (hd:=hd) (hcd:=hcd)⟩
theorem pd_c {v:V}{w:W}(h:PE X e (tC v))(r:∀ H,RepW X.K H w v):Jd (PD X e (dC w)):=⟨D.pd_c (h:=h) (r:=r)⟩
theorem pd_int {i j pos}:Jd (PD X (.Constant (.int i) j pos) (dC (.d (.int i)))):=⟨D.pd_int ⟩
theorem pd_bl {b j pos}:Jd (PD X (.Constant (.bool b) j pos) (dC (.d (.bool b)))):=⟨D.pd_bl ⟩
theorem pd_non {j pos}:Jd (PD X (.Constant .none j pos) (dC (.d .none))):=⟨D.pd_non ⟩
theorem pd_str {x j pos}:Jd (PD X (.Constant (.str x) j pos) (dC (.d (.str x)))):=⟨D.pd_str ⟩
theorem pd_globI {x:Str}{i:Int}{t:Tok}{pos:Pos}(hg:Gl X x)(hm:X.mg x=some (.int i t))(hd:(x == ("__debug__" : Str))=false:=by decide):Jd (PD X (.Name x pos) (dC (.d (.int i)))):=⟨D.pd_globI (hg:=hg) (hm:=hm) (hd:=hd)⟩
theorem pd_globS {x:Str}{i:Str}{t:Tok}{pos:Pos}(hg:Gl X x)(hm:X.mg x=some (.str i t))(hd:(x == ("__debug__" : Str))=false:=by decide):Jd (PD X (.Name x pos) (dC (.d (.str i)))):=⟨D.pd_globS (hg:=hg) (hm:=hm) (hd:=hd)⟩
theorem pd_type {x:Str}{n:String}{pos:Pos}(hg:Gl X x)(hm:X.mg x=none)(hv:bootBuiltins x=some (.type n))(hn:x ≠ "__name__" := by decide)(hd:(x == ("__debug__" : Str))=false:=by decide):Jd (PD X (.Name x pos) (dC (.t n))):=⟨D.pd_type (hg:=hg) (hm:=hm) (hv:=hv) (hn:=hn) (hd:=hd)⟩
theorem pd_op {op:Operator}{r:R2}{rd:W->W->MH->QD->Prop}(ho:OpR X (binaryOp op) r)(hd:OpD X.K r rd)(ha:Jd (PD X a ta))(hb:Jd (PD X b tb)):Jd (PD X (.BinOp a op b pos) (dOp rd ta tb)):=⟨D.pd_op (ho:=ho) (hd:=hd) (ha:=ha.h) (hb:=hb.h)⟩
theorem pd_cmp {op:CmpOp}{r:R2}{rd:W->W->MH->QD->Prop}(ho:OpR X (compareOp op) r)(hd:OpD X.K r rd)(ha:Jd (PD X a ta))(hb:Jd (PD X b tb))(hm:behindInMarks op b=false:=by first | exact nobehind _ (by decide) (by decide) | rfl):Jd (PD X (.Compare a [op] [b] pos) (dOp rd ta tb)):=⟨D.pd_cmp (ho:=ho) (hd:=hd) (ha:=ha.h) (hb:=hb.h) (hm:=hm)⟩
theorem pd_ix {r:R2}{rd:W->W->MH->QD->Prop}(hr:IxR X r)(hd:OpD X.K r rd)(ha:Jd (PD X a ta))(hb:Jd (PD X b tb))(hs:PlainIx b:=by intro _ _; rfl):Jd (PD X (.Subscript a b pos) (dOp rd ta tb)):=⟨D.pd_ix (hr:=hr) (hd:=hd) (ha:=ha.h) (hb:=hb.h) (hs:=hs)⟩
theorem ptd_cmp {op:CmpOp}{r:R2}{rd:W->W->MH->QD->Prop}(ho:OpR X (compareOp op) r)(hd:OpD X.K r rd)(ha:Jd (PD X a ta))(hb:Jd (PD X b tb))(hm:behindInMarks op b=false:=by first | exact nobehind _ (by decide) (by decide) | rfl):Jd (PTd X (.Compare a [op] [b] pos) (dTest (dOp rd ta tb))):=⟨D.ptd_cmp (ho:=ho) (hd:=hd) (ha:=ha.h) (hb:=hb.h) (hm:=hm)⟩
theorem ptd_val (h:Jd (PD X e te))(he:∀ whole,isTrue e X.env whole=(do let v <- whole; standAt e.pos; holding [v] (truthy v)):=by intro _; rfl):Jd (PTd X e (dTest te)):=⟨D.ptd_val (h:=h.h) (he:=he)⟩
theorem pd_chain {op op':CmpOp}{r r':R2}{rd rd':W->W->MH->QD->Prop}(ho:OpR X (compareOp op) r)(hd:OpD X.K r rd)(ho':OpR X (compareOp op') r')(hd':OpD X.K r' rd')(ha:Jd (PD X a ta))(hb:Jd (PD X b tb))(hc:Jd (PD X c tc))(hm:lastMarks [op,op'] [b,c]=false:=by with_unfolding_all rfl):Jd (PD X (.Compare a [op,op'] [b,c] pos) (dChain rd rd' ta tb tc)):=⟨D.pd_chain (ho:=ho) (hd:=hd) (ho':=ho') (hd':=hd') (ha:=ha.h) (hb:=hb.h) (hc:=hc.h) (hm:=hm)⟩
theorem ptd_chain {op op':CmpOp}{r r':R2}{rd rd':W->W->MH->QD->Prop}(ho:OpR X (compareOp op) r)(hd:OpD X.K r rd)(ho':OpR X (compareOp op') r')(hd':OpD X.K r' rd')(ha:Jd (PD X a ta))(hb:Jd (PD X b tb))(hc:Jd (PD X c tc))(hm:lastMarks [op,op'] [b,c]=false:=by with_unfolding_all rfl):Jd (PTd X (.Compare a [op,op'] [b,c] pos) (dTest (dChain rd rd' ta tb tc))):=⟨D.ptd_chain (ho:=ho) (hd:=hd) (ho':=ho') (hd':=hd') (ha:=ha.h) (hb:=hb.h) (hc:=hc.h) (hm:=hm)⟩
theorem pd_un {op:UnaryOp}{r:V->Hp->VK->Prop}{rd:W->MH->QD->Prop}(ho:UnR X (unaryOp op) r)(hd:UnD X.K r rd)(ha:Jd (PD X a ta)):Jd (PD X (.UnaryOp op a pos) (dUn rd ta)):=⟨D.pd_un (ho:=ho) (hd:=hd) (ha:=ha.h)⟩
variable {tA tB:TTd}{rest:List Expr}
theorem pwd_and1 (ha:Jd (PTd X a tA)):Jd (PWd X (.BoolOp .And [a] pos) tA):=⟨D.pwd_and1 (ha:=ha.h)⟩
theorem pwd_or1 (ha:Jd (PTd X a tA)):Jd (PWd X (.BoolOp .Or [a] pos) tA):=⟨D.pwd_or1 (ha:=ha.h)⟩
theorem pwd_and (ha:Jd (PTd X a tA))(hb:Jd (PWd X (.BoolOp .And (b :: rest) pos) tB)):Jd (PWd X (.BoolOp .And (a :: b :: rest) pos) (dAnd tA tB)):=⟨D.pwd_and (ha:=ha.h) (hb:=hb.h)⟩
theorem pwd_or (ha:Jd (PTd X a tA))(hb:Jd (PWd X (.BoolOp .Or (b :: rest) pos) tB)):Jd (PWd X (.BoolOp .Or (a :: b :: rest) pos) (dOr tA tB)):=⟨D.pwd_or (ha:=ha.h) (hb:=hb.h)⟩
theorem ptd_w (h:Jd (PWd X e tA)):Jd (PTd X e tA):=⟨D.ptd_w (h:=h.h)⟩
theorem ptd_not (ha:Jd (PTd X a tA)):Jd (PTd X (.UnaryOp .Not a pos) (dNot tA)):=⟨D.ptd_not (ha:=ha.h)⟩
theorem pd_one {op}(h:Jd (PD X a ta)):Jd (PD X (.BoolOp op [a] pos) ta):=⟨D.pd_one (h:=h.h)⟩
theorem pd_and (ha:Jd (PD X a ta))(hb:Jd (PD X (.BoolOp .And (b :: rest) pos) tb)):Jd (PD X (.BoolOp .And (a :: b :: rest) pos) (dAndV ta tb)):=⟨D.pd_and (ha:=ha.h) (hb:=hb.h)⟩
theorem pd_or (ha:Jd (PD X a ta))(hb:Jd (PD X (.BoolOp .Or (b :: rest) pos) tb)):Jd (PD X (.BoolOp .Or (a :: b :: rest) pos) (dOrV ta tb)):=⟨D.pd_or (ha:=ha.h) (hb:=hb.h)⟩
theorem pd_not (ha:Jd (PD X a ta)):Jd (PD X (.UnaryOp .Not a pos) (dNotV ta)):=⟨D.pd_not (ha:=ha.h)⟩
theorem pd_ifExp {c:Expr}(hc:Jd (PTd X c tA))(ha:Jd (PD X a ta))(hb:Jd (PD X b tb)):Jd (PD X (.IfExp c a b pos) (dIfE tA ta tb)):=⟨D.pd_ifExp (hc:=hc.h) (ha:=ha.h) (hb:=hb.h)⟩
variable {es:List Expr}{t:TAd}
theorem pad_nil  : Jd (PAd X [] dNil):=⟨D.pad_nil ⟩
theorem pad_cons (ha:Jd (PD X e te))(hr:Jd (PAd X es t))(hs:starEach (e :: es) X.env=(false,eval e X.env) :: starEach es X.env:=by rfl):Jd (PAd X (e :: es) (dCons te t)):=⟨D.pad_cons (ha:=ha.h) (hr:=hr.h) (hs:=hs)⟩
theorem pd_lst (h:Jd (PAd X es t)):Jd (PD X (.List es pos) (dLst t)):=⟨D.pd_lst (h:=h.h)⟩
theorem pd_lstM (h:Jd (PAd X es t)):Jd (PD X (.List es pos) (dLstM t)):=⟨D.pd_lstM (h:=h.h)⟩
theorem pd_tup {x1}(h:Jd (PAd X es t)):Jd (PD X (.Tuple es x1 pos) (dTup t)):=⟨D.pd_tup (h:=h.h)⟩
variable {x:Str}{p:Pos}{id T:String}{r:List V->Hp->VK->Prop}{rd:List W->MH->QD->Prop}
theorem pd_callB (hc:CallR X (.builtin id) r)(hd:CallD X.K r rd)(hg:Gl X x)(hm:X.mg x=none)(hv:bootBuiltins x=some (.builtin id))(ha:Jd (PAd X (e :: es) t))(hn:x ≠ "__name__" := by decide)(hdb:(x == ("__debug__" : Str))=false:=by decide)(he:starEach (e :: es) X.env=(false,eval e X.env) :: starEach es X.env:=by rfl)(hpl:(backTo pos (starEach es X.env)).any (·.1)=false:=by rfl):Jd (PD X (.Call (.Name x p) (e :: es) [] pos) (dCB rd t)):=⟨D.pd_callB (hc:=hc) (hd:=hd) (hg:=hg) (hm:=hm) (hv:=hv) (ha:=ha.h) (hn:=hn) (hdb:=hdb) (he:=he) (hpl:=hpl)⟩
theorem pd_callTy (hc:CallR X (.type T) r)(hd:CallD X.K r rd)(hg:Gl X x)(hm:X.mg x=none)(hv:bootBuiltins x=some (.type T))(ha:Jd (PAd X (e :: es) t))(hn:x ≠ "__name__" := by decide)(hdb:(x == ("__debug__" : Str))=false:=by decide)(he:starEach (e :: es) X.env=(false,eval e X.env) :: starEach es X.env:=by rfl)(hpl:(backTo pos (starEach es X.env)).any (·.1)=false:=by rfl):Jd (PD X (.Call (.Name x p) (e :: es) [] pos) (dCB rd t)):=⟨D.pd_callTy (hc:=hc) (hd:=hd) (hg:=hg) (hm:=hm) (hv:=hv) (ha:=ha.h) (hn:=hn) (hdb:=hdb) (he:=he) (hpl:=hpl)⟩
end
section
variable {X:Cx}{pos:Pos}{st:Stmt}{sts:List Stmt}{t u:TSd}{e:Expr}{te:TD}{K:PySem.W.Frag}
theorem pssd_nil  : Jd (PSsd X [] dNext):=⟨D.pssd_nil ⟩
theorem pssd_cons (h1:Jd (PSd X st t))(h2:Jd (PSsd X sts u)):Jd (PSsd X (st :: sts) (dSeq t u)):=⟨D.pssd_cons (h1:=h1.h) (h2:=h2.h)⟩
theorem pssd_one (h1:Jd (PSd X st t)):Jd (PSsd X [st] t):=⟨D.pssd_one (h1:=h1.h)⟩
theorem psd_expr (he:Jd (PD X e te))(hs:swapsWith e none pos.line X.env=pure false:=by rfl):Jd (PSd X (.Expr e pos) (dDrop te)):=⟨D.psd_expr (he:=he.h) (hs:=hs)⟩
theorem psd_ret (he:Jd (PD X e te)):Jd (PSd X (.Return (some e) pos) (dRet te)):=⟨D.psd_ret (he:=he.h)⟩
theorem psd_if {c:Expr}{a b:List Stmt}{tc:TTd}(hc:Jd (PTd X c tc))(ha:Jd (PSsd X a t))(hb:Jd (PSsd X b u)):Jd (PSd X (.If c a b pos) (dIf tc t u)):=⟨D.psd_if (hc:=hc.h) (ha:=ha.h) (hb:=hb.h)⟩
theorem pgd_name {i:Nat}{x:Str}(hN:X.N.Nodup)(hi:X.N[i]? = some x)(hx:Loc X.env.scope x)(hf:X.fn x=true\/X.env.scope.names.lookup x=some .local:=by first | exact .inl rfl | exact .inr rfl | assumption):Jd (PGd X (.Name x pos) (gN i)):=⟨D.pgd_name (hN:=hN) (hi:=hi) (hx:=hx) (hf:=hf)⟩
theorem psd_asg {tg:Expr}{g:TGd}(he:Jd (PD X e te))(hg:Jd (PGd X tg g))(hs:swapsWithSole [tg] e pos.line X.env=pure false:=by rfl)(hw:swappedStores [tg] e X.env=pure none:=by rfl)(h1:(assignEach [tg] X.env).map (·.2)=[assign tg X.env]:=by rfl):Jd (PSd X (.Assign [tg] e pos) (dAsg te g)):=⟨D.psd_asg (he:=he.h) (hg:=hg.h) (hs:=hs) (hw:=hw) (h1:=h1)⟩
theorem psd_set {i:Nat}{x:Str}{pos':Pos}(hN:X.N.Nodup)(hi:X.N[i]? = some x)(hx:Loc X.env.scope x)(he:Jd (PD X e te))(hs:swapsWith e (some (.Name x pos')) pos.line X.env=pure false:=by rfl)(hf:X.fn x=true\/X.env.scope.names.lookup x=some .local:=by first | exact .inl rfl | exact .inr rfl | assumption):Jd (PSd X (.Assign [.Name x pos'] e pos) (dAsg te (gN i))):=⟨D.psd_set (hN:=hN) (hi:=hi) (hx:=hx) (he:=he.h) (hs:=hs) (hf:=hf)⟩
end
section
variable {X:Cx}{pos p:Pos}{k:Nat}{f:Addr}{fd:FuncData}{ps:List Str}{sp:SpD}{x:Str}{e:Expr}{es:List Expr}{t:TAd}
theorem pd_call (F:FnOk X.prog X.w X.K X.mg X.base CX0 k f fd ps (upSp X.K sp))(hr:Room k X.A)(hg:Gl X x)(hm:X.mg x=some (.ref f))(hk:PySem.W.keepIn X.K (.ref f)=true)(hb:Binds X.K fd ps [])(ha:Jd (PAd X (e :: es) t))(hdb:(x == ("__debug__" : Str))=false:=by decide)(he:starEach (e :: es) X.env=(false,eval e X.env) :: starEach es X.env:=by rfl)(hpl:(backTo pos (starEach es X.env)).any (·.1)=false:=by rfl):Jd (PD X (.Call (.Name x p) (e :: es) [] pos) (dCall sp t)):=⟨D.pd_call (F:=F) (hr:=hr) (hg:=hg) (hm:=hm) (hk:=hk) (hb:=hb) (ha:=ha.h) (hdb:=hdb) (he:=he) (hpl:=hpl)⟩
theorem pd_call0 (F:FnOk X.prog X.w X.K X.mg X.base CX0 k f fd ps (upSp X.K sp))(hr:Room k X.A)(hg:Gl X x)(hm:X.mg x=some (.ref f))(hk:PySem.W.keepIn X.K (.ref f)=true)(hb:Binds X.K fd ps [])(hdb:(x == ("__debug__" : Str))=false:=by decide):Jd (PD X (.Call (.Name x p) [] [] pos) (dCall sp dNil)):=⟨D.pd_call0 (F:=F) (hr:=hr) (hg:=hg) (hm:=hm) (hk:=hk) (hb:=hb) (hdb:=hdb)⟩
end
section
variable {P:Program}{w:World}{K:PySem.W.Frag}{mg:Str->Option Value}{base:Heap}
end
section
variable {X:Cx}{K:PySem.W.Frag}
theorem pod_none  : Jd (POd X none dNoPart):=⟨D.pod_none ⟩
theorem pod_some {e:Expr}{te:TD}(h:Jd (PD X e te)):Jd (POd X (some e) (dPart te)):=⟨D.pod_some (h:=h.h)⟩
theorem pd_slice {e:Expr}{te:TD}{lo hi:Option Expr}{tl th:TOd}{pos p2:Pos}(he:Jd (PD X e te))(hl:Jd (POd X lo tl))(hu:Jd (POd X hi th)):Jd (PD X (.Subscript e (.Slice lo hi none p2) pos) (dSl te tl th)):=⟨D.pd_slice (he:=he.h) (hl:=hl.h) (hu:=hu.h)⟩
theorem pgd_sub {o i:Expr}{to ti:TD}{pos:Pos}(ho:Jd (PD X o to))(hi:Jd (PD X i ti))(ha:∀ v,assign (.Subscript o i pos) X.env v=(do
   let ov <- holding [v] (eval o X.env)
   let iv <- holding [v,ov] (eval i X.env)
   standAt pos
   holding [v,ov,iv] (setItem ov iv v)
   release [v,ov,iv] []):=by intro _; rfl):Jd (PGd X (.Subscript o i pos) (gSet to ti)):=⟨D.pgd_sub (ho:=ho.h) (hi:=hi.h) (ha:=ha)⟩
theorem psd_augS {o i e:Expr}{to ti te:TD}{op:Operator}{f:Int->Int->Int}{pos tpos:Pos}(ho:Jd (PD X o to))(hi:Jd (PD X i ti))(he:Jd (PD X e te))(hp:PIp X op (ipI f))(ha:∀ ov iv new,augStore i ov iv new=(do holding [new,ov,iv] (setItem ov iv new); release [new,ov,iv] []; pure .next):=by intros; rfl):Jd (PSd X (.AugAssign (.Subscript o i tpos) op e pos) (dAugS to ti te f)):=⟨D.psd_augS (ho:=ho.h) (hi:=hi.h) (he:=he.h) (hp:=hp) (ha:=ha)⟩
end
section
variable {X:Cx}{K:PySem.W.Frag}{tg:Expr}
section
variable {pins:List (Addr×Obj)}{σ:St}{H:Hp}{s:Shared}{R:It->Hp->Prop}{E:Value->Shared->Prop}
end
theorem pid_items {l:Expr}{te:TD}(h:Jd (PD X l te)):Jd (PId X tg l (dItems te)):=⟨D.pid_items (h:=h.h)⟩
theorem pid_range1 {a:Expr}{ta:TAd}{p pos:Pos}(hg:Gl X "range")(hm:X.mg "range" = none)(ha:Jd (PAd X [a] ta))(hs:starEach [a] X.env=[(false,eval a X.env)]:=by rfl):Jd (PId X tg (.Call (.Name "range" p) [a] [] pos) (dRng1 ta)):=⟨D.pid_range1 (hg:=hg) (hm:=hm) (ha:=ha.h) (hs:=hs)⟩
theorem psd_for {iter:Expr}{body:List Stmt}{di:TId}{g:TGd}{tb:TSd}{pos:Pos}(hp:PassesOwn (model X.prog X.w) X.A X.env X.xe)(hc:X.calm=true)(hi:Jd (PId X tg iter di))(hg:Jd (PGd X tg g))(hb:Jd (PSsd X body tb))(hs:∀ x,foldedSetIterable iter X.env x=pure x:=by intro _; rfl):Jd (PSd X (.For tg iter body [] pos) (dFor di g tb)):=⟨D.psd_for (hp:=hp) (hc:=hc) (hi:=hi.h) (hg:=hg.h) (hb:=hb.h) (hs:=hs)⟩
section
variable {sc:Scope}{own:List Str}{fr:List Nat}{elt iter:Expr}{ifs:List Expr}{pos:Pos}{di:TId}{g:TGd}{tt:TTd}{te:TD}
theorem ptsd_nil  : Jd (PTsd X [] dYes):=⟨D.ptsd_nil ⟩
theorem pd_lc (hc:X.calm=true)(L:LcOk X sc own fr)(hi:Jd (PId X tg iter di))(hg:∀ cl C s H ex pl,Jd (PGd (blk X sc (lcN X own fr) cl C s H ex pl) tg g))(ht:∀ cl C s H ex pl,Jd (PTsd (blk X sc (lcN X own fr) cl C s H ex pl) ifs tt))(he:∀ cl C s H ex pl,Jd (PD (blk X sc (lcN X own fr) cl C s H ex pl) elt te))(hs:∀ x,foldedSetIterable iter X.env x=pure x:=by intro _; rfl):Jd (PD X (.ListComp elt [⟨tg,iter,ifs,0⟩] sc pos) (dLC di g tt te own.length fr)):=⟨D.pd_lc (hc:=hc) (L:=L) (hi:=hi.h) (hg:=λ cl C s H ex pl=>(hg cl C s H ex pl).h) (ht:=λ cl C s H ex pl=>(ht cl C s H ex pl).h) (he:=λ cl C s H ex pl=>(he cl C s H ex pl).h) (hs:=hs)⟩
end
end
section
variable {X:Cx}{K:PySem.W.Frag}
theorem pd_ms {o e:Expr}{es:List Expr}{to:TD}{t:TAd}{name:Str}{apos cpos:Pos}{id:String}{r:V->List V->Hp->VK->Prop}{rd:W->List W->MH->QD->Prop}(slot:Slot "str" name id)(hty:typeOf (.builtin id)=pure (.type "method_descriptor"))(hm:MtR X id r)(hd:MtD X.K r rd)(ho:Jd (PD X o to))(ha:Jd (PAd X (e :: es) t))(hbase:attributeBase o name X.env (eval o X.env)=eval o X.env:=by rfl)(hfew:((backTo cpos (starEach (e :: es) X.env)).all (λ x=>!x.1) && (backToKw cpos (keywordEach [] X.env)).all (λ x=>x.1.isSome)
   && decide ((e :: es).length+([]:List Keyword).length+(if ([]:List Keyword).isEmpty then 0 else 1) < 30))=true:=by rfl)(hline:(apos.endLine == cpos.line)=true:=by rfl)(hs:starEach (e :: es) X.env=(false,eval e X.env) :: starEach es X.env:=by rfl)(hplain:(backTo cpos (starEach es X.env)).any (·.1)=false:=by rfl):Jd (PD X (.Call (.Attribute o name apos) (e :: es) [] cpos) (dMS rd to t)):=⟨D.pd_ms (slot:=slot) (hty:=hty) (hm:=hm) (hd:=hd) (ho:=ho.h) (ha:=ha.h) (hbase:=hbase) (hfew:=hfew) (hline:=hline) (hs:=hs) (hplain:=hplain)⟩
theorem pd_join {o e:Expr}{to te:TD}{apos cpos:Pos}(ho:Jd (PD X o to))(ha:Jd (PD X e te))(hbase:attributeBase o "join" X.env (eval o X.env)=eval o X.env:=by rfl)(hs:starEach [e] X.env=[(false,eval e X.env)]:=by rfl)(hfew:((backTo cpos (starEach [e] X.env)).all (λ x=>!x.1) && (backToKw cpos (keywordEach [] X.env)).all (λ x=>x.1.isSome)
   && decide (([e]:List Expr).length+([]:List Keyword).length+(if ([]:List Keyword).isEmpty then 0 else 1) < 30))=true:=by rfl)(hline:(apos.endLine == cpos.line)=true:=by rfl):Jd (PD X (.Call (.Attribute o "join" apos) [e] [] cpos) (dMS rdJoin to (dCons te dNil))):=⟨D.pd_join (ho:=ho.h) (ha:=ha.h) (hbase:=hbase) (hs:=hs) (hfew:=hfew) (hline:=hline)⟩
theorem pd_dict0 {pos:Pos}:Jd (PD X (.Dict [] [] pos) dDict0):=⟨D.pd_dict0 ⟩
theorem pd_dict {pos:Pos}{keys:List (Option Expr)}{values:List Expr}{trs:List (TD×TD)}(h:Jd (PPs X pos keys values (trs.map (pm X.K))))(hall:keys.all (·.isSome)=true:=by rfl)(hl:keys.length=values.length:=by rfl)(h0:keys≠[]:=by simp)(h15:keys.length<=15:=by decide):Jd (PD X (.Dict keys values pos) (dDict trs)):=⟨D.pd_dict (h:=h.h) (hall:=hall) (hl:=hl) (h0:=h0) (h15:=h15)⟩
end
section
variable {X:Cx}{pos p:Pos}{e:Expr}{es:List Expr}{te:TD}{t:TAd}{x:Str}{id T:String}{r:List V->Hp->VK->Prop}{rd:List W->MH->QD->Prop}{k:Nat}{f:Addr}{fd:FuncData}{ps:List Str}{sp:SpD}
theorem pac (ha:Jd (PD X e te))(hr:Jd (PAd X es t))(h:isSt e=false:=by rfl):Jd (PAd X (e :: es) (dCons te t)):=⟨D.pac (ha:=ha.h) (hr:=hr.h) (h:=h)⟩
theorem pcB (hc:CallR X (.builtin id) r)(hd:CallD X.K r rd)(hg:Gl X x)(hm:X.mg x=none)(hv:bootBuiltins x=some (.builtin id))(ha:Jd (PAd X (e :: es) t))(hn:x ≠ "__name__" := by decide)(hdb:(x == ("__debug__" : Str))=false:=by decide)(h1:isSt e=false:=by rfl)(h2:(es.all λ e=>!isSt e)=true:=by rfl):Jd (PD X (.Call (.Name x p) (e :: es) [] pos) (dCB rd t)):=⟨D.pcB (hc:=hc) (hd:=hd) (hg:=hg) (hm:=hm) (hv:=hv) (ha:=ha.h) (hn:=hn) (hdb:=hdb) (h1:=h1) (h2:=h2)⟩
theorem pcF (F:FnOk X.prog X.w X.K X.mg X.base CX0 k f fd ps (upSp X.K sp))(hr:Room k X.A)(hg:Gl X x)(hm:X.mg x=some (.ref f))(hk:PySem.W.keepIn X.K (.ref f)=true)(hb:Binds X.K fd ps [])(ha:Jd (PAd X (e :: es) t))(hdb:(x == ("__debug__" : Str))=false:=by decide)(h1:isSt e=false:=by rfl)(h2:(es.all λ e=>!isSt e)=true:=by rfl):Jd (PD X (.Call (.Name x p) (e :: es) [] pos) (dCall sp t)):=⟨D.pcF (F:=F) (hr:=hr) (hg:=hg) (hm:=hm) (hk:=hk) (hb:=hb) (ha:=ha.h) (hdb:=hdb) (h1:=h1) (h2:=h2)⟩
end
theorem pps_nil {X:Cx}{pos:Pos}:Jd (PPs X pos [] [] (([]:List (TD×TD)).map (pm X.K))):=⟨L2.pps_nil⟩
theorem pps_cons {X:Cx}{pos:Pos}{k v:Expr}{ks:List (Option Expr)}{vs:List Expr}{tk tv:TD}{trs:List (TD×TD)}(hk:Jd (PD X k tk))(hv:Jd (PD X v tv))(hr:Jd (PPs X pos ks vs (trs.map (pm X.K)))):Jd (PPs X pos (some k :: ks) (v :: vs) (((tk,tv) :: trs).map (pm X.K))):=⟨L2.pps_cons hk.h hv.h hr.h⟩
end Q
end D
namespace D
open PySem PySem.Spec PyProof.Rows L2
section
variable {κ α:Type}[DecidableEq κ]
noncomputable def tget (t:List (κ×α))(k:κ):Option α:=(t.find? λ p=>decide (p.1=k)).map (·.2)
noncomputable def OR {β γ:Type}(R:β->γ->Prop):Option β->Option γ->Prop
 | some a,some b=>R a b
 | none,none=>True
 | _,_=>False
theorem OR.some_of {β γ:Type}{R:β->γ->Prop}{a:β}{o:Option γ}(h:OR R (some a) o):∃ b,o=some b/\R a b:=by
 cases o with
 | none=>exact h.elim
 | some b=>exact ⟨b,rfl,h⟩
theorem OR.none_of {β γ:Type}{R:β->γ->Prop}{o:Option γ}(h:OR R none o):o=none:=by
 cases o with
 | none=>rfl
 | some b=>exact h.elim
theorem OR.isSome {β γ:Type}{R:β->γ->Prop}:∀ {a:Option β} {o:Option γ},OR R a o->a.isSome=o.isSome
 | some _,some _,_=>rfl
 | none,none,_=>rfl
 | some _,none,h=>h.elim
 | none,some _,h=>h.elim
theorem tb_get {R:α->V->Prop}(k:κ):∀ {t:List (κ×α)} {l:List (κ×V)},Paired (λ p q=>p.1=q.1/\R p.2 q.2) t l->OR R (tget t k) (valV l k)
 | _,_,.nil=>True.intro
 | _,_,.cons (a:=p) (b:=q) (l₁:=t1) h t=>by
  obtain ⟨h1,h2⟩:=h
  by_cases e:p.1=k
  ·rw [valV_pos (h1.symm.trans e),show tget (p :: t1) k=some p.2 by simp [tget,List.find?_cons,e]]
   exact h2
  ·rw [valV_neg (λ z=>e (h1.trans z)),show tget (p :: t1) k=tget t1 k by simp [tget,List.find?_cons,e]]
   exact tb_get k t
theorem tb_len {P:κ×α->κ×V->Prop}:∀ {t:List (κ×α)} {l:List (κ×V)},Paired P t l->t.length=l.length
 | _,_,.nil=>rfl
 | _,_,.cons _ t=>by simp [tb_len t]
end
noncomputable def kW (k:Key):W:=.d (keyD k)
theorem kW_rep {K:PySem.W.Frag}{H:Hp}{k:Key}{v:V}(r:RepW K H (kW k) v):v=kV k:=key_rep r
noncomputable def tkW (ks:List Key):W:=.d (.tuple (ks.map keyD))
theorem keysA {K:PySem.W.Frag}{H:Hp}:∀ {ks:List Key} {vs:List V},RepA K H (ks.map keyD) vs->vs=ks.map kV
 | [],vs,h=>by simpa [RepA] using h
 | k :: ks,vs,h=>by
  simp only [List.map_cons,RepA] at h
  obtain ⟨v,r,e,h1,h2⟩:=h
  rw [e,key_rep h1,keysA h2]
  rfl
noncomputable def Rd2 (H:Hp)(a:Addr)(u:HO):Prop:=Rd H a u\/∃ o,H a=some (.frz o (.frz o u))
theorem dk_rd2 {P:Program}{w:World}{H:Hp}{h:Heap}{a:Addr}{kvs:List (Key×V)}(ok:HOk P w H h)(e:Rd2 H a (.dK kvs)):kvs.length<=sizeLine/\(a == sysModules)=false/\∃ vs,KV kvs vs/\h.DictOf (mixKind P w) a vs:=by
 rcases e with e | ⟨o,e⟩
 ·exact dk_rd ok e
 ·exact (ok a _ e).2.2
noncomputable def DGetS (K:PySem.W.Frag)(H:Hp)(a:Addr)(y:V)(r:Option V):Prop :=
 (∃ kvs k,Rd2 H a (.dK kvs)/\y=kV k/\r=valV kvs k)\/∃ kvs k b,Rd H a (.dT kvs)/\y=.ref b/\SqT K H b (k.map kV)/\r=valV kvs k
theorem key_sq {X:Cx}{pins:List (Addr×Obj)}{σ:St}{H:Hp}{s:Shared}{b:Addr}{ks:List Key}(I:Inv X pins σ H s)(h:SqT X.K H b (ks.map kV)):(tupleKind (mixKind X.prog X.w)).is s.heap ks b:=by
 obtain ⟨its,r,⟨o,h1,h2,n,h3⟩,_⟩:=I.tuple h
 exact ⟨o,its.toArray,n,h1,h2,h3,by simpa using items_are r⟩
section
variable {X:Cx}{pins:List (Addr×Obj)}{σ:St}{H:Hp}{s:Shared}{a:Addr}{y d:V}{u r:Value}{o:Option V}{A:Around}{E:Value->Shared->Prop}
theorem ds_get1 {Q:Value->Shared->Prop}(hu:A.units+1 < cLine)(I:Inv X pins σ H s)(g:DGetS X.K H a y o)(ry:RelV y u)(h:∀ w' s',Inv X pins σ H s'->RelV (o.getD .non) w'->Q w' s') :
  wpAny (model X.prog X.w) A (call (.builtin "dict.get") [.ref a,u]) Q E s:=by
 rcases g with ⟨kvs,k,e,ey,l⟩ | ⟨kvs,k,b,e,ey,eb,l⟩
 ·subst ey
  obtain ⟨z,hd,vs,rel,dd⟩:=dk_rd2 I.hok e
  refine call_meetsIn PySem.F.slot_dict_get dd.typeIs PySem.F.entry_dict_get (PySem.F.args_dict_get_2 _ _) (meets_dict_get (mixKind X.prog X.w) a (kV_is ry) hd) ⟨_,dd.mapOf,h _ _ (I.tok _) ?_⟩
  rw [l]
  exact (rel.val k).getD rfl
 ·subst ey
  cases (show u=Value.ref b from ry)
  obtain ⟨z,hd,xs,rel,dd⟩:=dt_rd I.hok e
  refine call_meetsIn PySem.F.slot_dict_get dd.typeIs PySem.F.entry_dict_get (PySem.F.args_dict_get_2 _ _) (meetsH_dict_get (tupleKind (mixKind X.prog X.w)) a b hd) ⟨tupleKind_room_in1 hu,k,xs,key_sq I eb,dd,h _ _ (I.tok _) ?_⟩
  rw [l]
  exact (rel.val k).getD rfl
theorem ds_getItem {v:V}{Q:Value->Shared->Prop}(hu:A.units+1 < cLine)(I:Inv X pins σ H s){kvs:List (Key×V)}{k:Key}(e:Rd2 H a (.dK kvs))(l:valV kvs k=some v)(ry:RelV (kV k) u)(h:∀ w' s',Inv X pins σ H s'->RelV v w'->Q w' s') :
  s.TypeIs (.ref a) "dict" /\ wpAny (model X.prog X.w) A (getItem (.ref a) u) Q E s:=by
 obtain ⟨z,hd,vs,rel,dd⟩:=dk_rd2 I.hok e
 obtain ⟨w',hw,rw'⟩:=RelO.some_of (v:=v) (o:=valueAt vs k) (by rw [<- l]; exact rel.val k)
 exact ⟨dd.typeIs,wpAny_getItem_of (kV_is ry) dd.mapOf hw (h w' _ (I.tok _) rw')⟩
end
end D
namespace D
open PySem PySem.Spec PyProof.Rows L2
inductive DLook (M:MH):W->W->Option W->Prop
 | k {a:Addr} {kvs:List (Key×W)} {k:Key} (h:M a=some (.dic kvs)):DLook M (.m a) (kW k) (tget kvs k)
 | t {a:Addr} {kvs:List (List Key×W)} {ks:List Key} (h:M a=some (.dct kvs)):DLook M (.m a) (tkW ks) (tget kvs ks)
 | f {a:Addr} {kvs:List (Key×W)} {k:Key} (h:M a=some (.fdic kvs)):DLook M (.m a) (kW k) (tget kvs k)
 | d {kvs:List (Key×PyData)} {k:Key}:DLook M (.d (.dict (kvs.map λ p=>(keyD p.1,p.2)))) (kW k) ((tget kvs k).map W.d)
inductive DIs (M:MH):W->Prop
 | k {a:Addr} {kvs:List (Key×W)} (h:M a=some (.dic kvs)):DIs M (.m a)
 | t {a:Addr} {kvs:List (List Key×W)} (h:M a=some (.dct kvs)):DIs M (.m a)
 | d {kvs:List (PyData×PyData)}:DIs M (.d (.dict kvs))
theorem keyD_inj {a b:Key}(h:keyD a=keyD b):a=b:=by
 cases a <;> cases b <;> simp [keyD] at h <;> rw [h]
theorem repK_paired {K:PySem.W.Frag}{H:Hp}:∀ {kvs:List (Key×PyData)} {l:List (Key×V)},RepK K H (kvs.map λ p=>(keyD p.1,p.2)) l->Paired (λ (p:Key×PyData) (q:Key×V)=>p.1=q.1/\RepD K H p.2 q.2) kvs l
 | [],l,h=>by
  simp only [List.map_nil,RepK] at h
  subst h
  exact .nil
 | p :: kvs,l,h=>by
  simp only [List.map_cons,RepK] at h
  obtain ⟨key,v,r,e,ek,h1,h2⟩:=h
  subst e
  exact .cons ⟨keyD_inj ek,h1⟩ (repK_paired h2)
theorem DIs.sound {K:PySem.W.Frag}{H:Hp}{M:MH}{w:W}{x:V}(g:DIs M w)(r:RepW K H w x)(m:MAbs K H M):∃ a,x=.ref a/\IsD H a:=by
 cases g with
 | k h =>
  obtain ⟨l,e,_⟩:=m _ _ h
  exact ⟨_,r,.inl ⟨l,.inl e⟩⟩
 | t h =>
  obtain ⟨l,e,_⟩:=m _ _ h
  exact ⟨_,r,.inr ⟨l,.inl e⟩⟩
 | d =>
  simp only [RepW,RepD] at r
  obtain ⟨a,o,l,e,h,_⟩:=r
  exact ⟨a,e,.inl ⟨l,.inr ⟨o,h⟩⟩⟩
theorem DLook.sound {K:PySem.W.Frag}{H:Hp}{M:MH}{w y:W}{o:Option W}{x v:V}(g:DLook M w y o)(r:RepW K H w x)(ry:RepW K H y v)(m:MAbs K H M) :
  ∃ a p,x=.ref a/\DGetS K H a v p/\OR (RepW K H) o p:=by
 cases g with
 | @k a kvs k h =>
  obtain ⟨l,e,pr⟩:=m _ _ h
  exact ⟨_,_,r,.inl ⟨l,k,.inl (.inl e),kW_rep ry,rfl⟩,tb_get k pr⟩
 | @f a kvs k h =>
  obtain ⟨ob,l,e,pr⟩:=m _ _ h
  exact ⟨_,_,r,.inl ⟨l,k,.inr ⟨ob,e⟩,kW_rep ry,rfl⟩,tb_get k pr⟩
 | @t a kvs ks h =>
  obtain ⟨l,e,pr⟩:=m _ _ h
  simp only [tkW,RepW,RepD] at ry
  obtain ⟨b,vs,eb,hs,ra⟩:=ry
  rw [keysA ra] at hs
  exact ⟨_,_,r,.inr ⟨l,ks,b,.inl e,eb,hs,rfl⟩,tb_get ks pr⟩
 | @d kvs k =>
  simp only [RepW,RepD] at r
  obtain ⟨a,ob,l,e,h,rk⟩:=r
  refine ⟨a,_,e,.inl ⟨l,k,.inl (.inr ⟨ob,h⟩),kW_rep ry,rfl⟩,?_⟩
  have g:=tb_get (R:=λ d q=>RepD K H d q) k (repK_paired rk)
  cases q:tget kvs k with
  | none=>rw [q] at g; rw [OR.none_of g]; exact True.intro
  | some z =>
   rw [q] at g
   obtain ⟨b,eb,rb⟩:=OR.some_of g
   rw [eb]
   exact rb
section
variable {X:Cx}{o i e f:Expr}{pos apos cpos:Pos}{td ty tx:TE}
noncomputable def tDGet1S (K:PySem.W.Frag)(td ty:TE):TE:=λ σ H Q=>td σ H λ x H1=>∃ a,x=.ref a/\IsD H1 a/\ty σ H1 λ y H2=>∃ o,DGetS K H2 a y o/\Q (o.getD .non) H2
theorem pe_dget1S (hu:X.A.units+1 < cLine)(ho:PE X o td)(he:PE X e ty)(m:M1 X o "get" apos e cpos):PE X (.Call (.Attribute o "get" apos) [e] [] cpos) (tDGet1S X.K td ty):=by
 intro pins s σ H Q I h
 refine wpAny_Call_method m.base m.few m.line PySem.F.plainAttrs_dict PySem.F.slot_dict_get PySem.F.type_dict_get (thn (ho pins s σ H _ I h) λ u s1 hq57=>?_)
 obtain ⟨x,H1,I1,rx,a,ex,d,q1⟩:=hq57
 subst ex
 obtain rfl:u=Value.ref a:=rx
 obtain ⟨t1,t2,_⟩:=isD_at I1 d
 refine ⟨t1,t2,?_⟩
 rw [m.trees]
 refine Calls.callWith_builtin rfl (Calls.evalArgs_plain (Calls.spliced_cons (thn (he pins s1 σ H1 _ I1 q1) λ iv s2 ⟨y,H2,I2,ry,ov,g,q2⟩=>Calls.spliced_nil ?_)))
 exact ds_get1 hu I2 g ry λ w' s3 I3 rw'=>⟨_,H2,I3,rw',q2⟩
end
section
variable {X:Cx}{o i:Expr}{pos:Pos}{td ty:TE}
noncomputable def tDGetS (td ty:TE):TE:=λ σ H Q=>td σ H λ x H1=>ty σ H1 λ y H2=>∃ a kvs k v,x=.ref a/\Rd2 H2 a (.dK kvs)/\y=kV k/\valV kvs k=some v/\Q v H2
theorem pe_dgetS (hu:X.A.units+1 < cLine)(ho:PE X o td)(hi:PE X i ty)(hs:NoSl i):PE X (.Subscript o i pos) (tDGetS td ty):=by
 intro pins s σ H Q I h
 refine subD_of PySem.F.slot_dict_getitem.lookup hs (thn (ho pins s σ H _ I h) λ u s1 ⟨x,H1,I1,rx,q1⟩=>thn (hi pins s1 σ H1 _ I1 q1) λ iv s2 hq58=>?_)
 obtain ⟨y,H2,I2,ry,a,kvs,k,v,ex,g,ey,l,q2⟩:=hq58
 subst ex ey
 obtain rfl:u=Value.ref a:=rx
 exact ds_getItem hu I2 g l ry λ w' s3 I3 rw'=>⟨v,H2,I3,rw',q2⟩
end
section
variable {X:Cx}{o i e f value:Expr}{es:List Expr}{pos pos' apos cpos:Pos}{td ti tx tv:TD}{t:TAd}
inductive DGetI (M2:MH) (w y:W) (Q:QD):Prop
 | mk (a:Addr) (kvs:List (Key×W)) (k:Key) (v:W) (z0:w=.m a) (z1:M2 a=some (.dic kvs)\/M2 a=some (.fdic kvs)) (z2:y=kW k) (z3:tget kvs k=some v) (q:Q v M2):DGetI M2 w y Q
noncomputable def dDGet (td ti:TD)(τ:DS)(M:MH)(Q:QD):Prop:=td τ M λ w M1=>ti τ M1 λ y M2=>DGetI M2 w y Q
theorem pd_dget (hu:X.A.units+1 < cLine)(ho:PD X o td)(hi:PD X i ti)(hs:NoSl i:=by exact λ _ _=>rfl):PD X (.Subscript o i pos) (dDGet td ti):=pe_w (pe_dgetS hu ho hi hs) λ σ H Q h=>by
 obtain ⟨τ,M,Qd,A,h,k⟩:=h
 refine ⟨τ,M,_,A,h,λ x H1 w M1 kp1 r1 m1 q1=>⟨τ,M1,_,A.go kp1 m1,q1,λ y H2 wy M2 kp2 r2 m2 hq59=>?_⟩⟩
 obtain ⟨a,kvs,key,v,ew,hm,ey,hv,q2⟩:=hq59
 subst ew ey
 obtain ⟨l,e,pr⟩:∃ l,Rd2 H2 a (.dK l)/\Paired (λ (p:Key×W) (q:Key×V)=>p.1=q.1/\RepW X.K H2 p.2 q.2) kvs l:=by
  rcases hm with hm | hm
  ·obtain ⟨l,e,pr⟩:=m2 _ _ hm
   exact ⟨l,.inl (.inl e),pr⟩
  ·obtain ⟨ob,l,e,pr⟩:=m2 _ _ hm
   exact ⟨l,.inr ⟨ob,e⟩,pr⟩
 have g:=tb_get key pr
 rw [hv] at g
 obtain ⟨b,eb,rb⟩:=OR.some_of g
 refine ⟨a,l,key,b,r1,e,kW_rep r2,eb,?_⟩
 exact k _ H2 v M2 (kp1.trans kp2) rb m2 q2
noncomputable def dGet1 (td ti:TD)(τ:DS)(M:MH)(Q:QD):Prop:=td τ M λ w M1=>DIs M1 w/\ti τ M1 λ y M2=>∃ o,DLook M2 w y o/\Q (o.getD (.d .none)) M2
theorem OR.getD {K:PySem.W.Frag}{H:Hp}{o:Option W}{p:Option V}{z:W}{v:V}(h:OR (RepW K H) o p)(r:RepW K H z v):RepW K H (o.getD z) (p.getD v):=by
 cases o with
 | none=>rw [OR.none_of h]; exact r
 | some a=>obtain ⟨b,e,q⟩:=OR.some_of h; rw [e]; exact q
theorem pd_get1 (hu:X.A.units+1 < cLine)(ho:PD X o td)(he:PD X e ti)(m:M1 X o "get" apos e cpos:=by exact ⟨rfl,rfl,rfl,rfl⟩):PD X (.Call (.Attribute o "get" apos) [e] [] cpos) (dGet1 td ti):=pe_w (pe_dget1S hu ho he m) λ σ H Q h=>by
 obtain ⟨τ,M,Qd,A,h,k⟩:=h
 refine ⟨τ,M,_,A,h,λ x H1 w M1 kp1 r1 m1 hq60=>?_⟩
 obtain ⟨di,q1⟩:=hq60
 obtain ⟨a,ea,isd⟩:=di.sound r1 m1
 refine ⟨a,ea,isd,τ,M1,_,A.go kp1 m1,q1,λ y H2 wy M2 kp2 r2 m2 hq61=>?_⟩
 obtain ⟨o,g,q2⟩:=hq61
 obtain ⟨a',p,e',g',ro⟩:=g.sound (r1.keep kp2) r2 m2
 rw [ea] at e'
 cases e'
 exact ⟨p,g',k _ H2 _ M2 (kp1.trans kp2) (ro.getD (v:=.non) (by simp [RepW,RepD])) m2 q2⟩
end
end D
namespace D
open PySem PySem.Spec PyProof.Rows L2
noncomputable abbrev FRep (K:PySem.W.Frag)(H:Hp):List (Str×W)->List (Str×V)->Prop:=Paired (λ (p:Str×W) (q:Str×V)=>p.1=q.1/\RepW K H p.2 q.2)
theorem fr_lookup {K:PySem.W.Frag}{H:Hp}(f:Str):∀ {fs:List (Str×W)} {l:List (Str×V)},FRep K H fs l->OR (RepW K H) (fs.lookup f) (l.lookup f)
 | _,_,.nil=>True.intro
 | _,_,.cons (a:=p) (b:=q) (l₁:=t1) (l₂:=t2) h t=>by
  obtain ⟨pk,pv⟩:=p
  obtain ⟨qk,qv⟩:=q
  obtain ⟨h1,h2⟩:=h
  have h1':pk=qk:=h1
  subst h1'
  rw [List.lookup_cons,List.lookup_cons]
  cases e:(f == pk) with
  | true=>exact h2
  | false=>exact fr_lookup f t
theorem FRep.keep {K:PySem.W.Frag}{H H':Hp}(kp:Kp H H'){fs:List (Str×W)}{l:List (Str×V)}(h:FRep K H fs l):FRep K H' fs l:=Paired.mapP h λ p q z=>⟨z.1,z.2.keep kp⟩
section
variable {X:Cx}{C f:Addr}{o e value:Expr}{es:List Expr}{fn m x:Str}{pos pos' apos p:Pos}{td tv te:TD}{t:TAd}{k:Nat}{fd:FuncData}{ps:List Str}{sp:SpD}
end
noncomputable def delM (M:MH)(a:Addr):MH:=λ b=>if b=a then none else M b
theorem delM_ne {M:MH}{a b:Addr}(h:b≠a):delM M a b=M b:=if_neg h
theorem MAbs.del {K:PySem.W.Frag}{H:Hp}{M:MH}{a:Addr}{o:HO}(m:MAbs K H M)(kp:Kp H (upd H a o)):MAbs K (upd H a o) (delM M a):=λ b mo hm=>by
 by_cases e:b=a
 ·subst e; simp [delM] at hm
 ·rw [delM_ne e] at hm
  exact (m b mo hm).keep kp λ u z=>by rw [upd_ne e]; exact z
noncomputable def one1 (R:W->MH->Prop)(ws:List W)(M:MH):Prop:=match ws with
 | [y]=>R y M
 | _=>False
theorem one1_of {R:W->MH->Prop}{ws:List W}{M:MH}(h:one1 R ws M):∃ y,ws=[y]/\R y M:=by
 match ws,h with
 | [y],h=>exact ⟨y,rfl,h⟩
section
variable {X:Cx}{o e:Expr}{pos apos cpos:Pos}{td te:TD}
noncomputable def dSeal (td:TD)(τ:DS)(M:MH)(Q:QD):Prop:=td τ M λ w M1=>∃ a ds,w=.m a/\M1 a=some (.lst (ds.map W.d))/\Q (.d (.list ds)) (delM M1 a)
theorem pd_seal (h:PD X e td):PD X e (dSeal td):=pe_w (pe_frz h) λ σ H Q h=>by
 obtain ⟨τ,M,Qd,A,h,k⟩:=h
 refine ⟨τ,M,_,A,h,λ x H1 w M1 kp1 r1 m1 hq62=>?_⟩
 obtain ⟨a,ds,ew,hm,q⟩:=hq62
 subst ew
 obtain ⟨vs,e,ra⟩:=m1 _ _ hm
 refine ⟨a,_,r1,e,trivial,λ ob=>?_⟩
 have kp2:Kp H1 (upd H1 a (.frz ob (.lst vs))):=Kp.set e (λ _ z=>nomatch z) (λ _ _ z=>nomatch z)
 refine k _ _ (.d (.list ds)) (delM M1 a) (kp1.trans kp2) ?_ (m1.del kp2) q
 simp only [RepW,RepD]
 exact ⟨a,vs,r1,.inl ⟨ob,upd_same⟩,ra.data.keep kp2⟩
noncomputable def dAppend (td te:TD)(τ:DS)(M:MH)(Q:QD):Prop:=td τ M λ w M1=>∃ a ws,w=.m a/\M1 a=some (.lst ws)/\te τ M1 λ y M2=>∃ ws',M2 a=some (.lst ws')/\ws'.length < sizeLine/\Q (.d .none) (updM M2 a (.lst (ws'++[y])))
theorem pd_append (ho:PD X o td)(he:PD X e te)
  (hbase:attributeBase o "append" X.env (eval o X.env)=eval o X.env:=by rfl)
  (hfew:((backTo cpos (starEach [e] X.env)).all (λ x=>!x.1) && (backToKw cpos (keywordEach [] X.env)).all (λ x=>x.1.isSome)
   && decide (([e]:List Expr).length+([]:List Keyword).length+(if ([]:List Keyword).isEmpty then 0 else 1) < 30))=true:=by rfl)
  (hline:(apos.endLine == cpos.line)=true:=by rfl)(hs:isSt e=false:=by rfl):PD X (.Call (.Attribute o "append" apos) [e] [] cpos) (dAppend td te) :=
 pe_w (pe_bm PySem.F.plainAttrs_list PySem.F.slot_list_append PySem.F.type_list_append mt_append ho (pac he pad_nil hs) hbase hfew hline (star_ok e [] X.env hs) rfl) λ σ H Q h=>by
  obtain ⟨τ,M,Qd,A,h,k⟩:=h
  refine ⟨τ,M,_,A,h,λ x H1 w M1 kp1 r1 m1 hq63=>?_⟩
  obtain ⟨a,ws,ew,hm,q1⟩:=hq63
  subst ew
  obtain ⟨vs,ea,ra⟩:=m1 _ _ hm
  have r1':x=.ref a:=r1
  subst r1'
  refine ⟨.inl ⟨rfl,vs,.inl (.inl ea)⟩,τ,M1,one1 (λ y M2=>∃ ws',M2 a=some (.lst ws')/\ws'.length < sizeLine/\Qd (.d .none) (updM M2 a (.lst (ws'++[y])))),A.go kp1 m1,q1,λ ys H2 wys M2 kp2 r2 m2 q2=>?_⟩
  obtain ⟨y,ey,ws',hm2,hl,q4⟩:=one1_of q2
  subst ey
  obtain ⟨v,ev,rv⟩:=repWs1 r2
  subst ev
  obtain ⟨vs2,ea2,ra2⟩:=m2 _ _ hm2
  have kp4:Kp H2 (upd H2 a (.lst (vs2++[v]))):=Kp.set ea2 (λ _ z=>nomatch z) (λ _ _ z=>nomatch z)
  refine ⟨a,vs2,v,rfl,rfl,ea2,by rw [<- ra2.length]; exact hl,?_⟩
  exact k _ _ (.d .none) _ ((kp1.trans kp2).trans kp4) (by simp [RepW,RepD]) (m2.put (mo:=.lst (ws'++[y])) kp4 ⟨_,upd_same,(RepWs.append ra2 (.cons rv .nil)).keep kp4⟩) q4
theorem RepWs.reverse {K:PySem.W.Frag}{H:Hp}:∀ {ws:List W} {vs:List V},RepWs K H ws vs->RepWs K H ws.reverse vs.reverse
 | _,_,.nil=>.nil
 | _,_,.cons h t=>by
  simp only [List.reverse_cons]
  exact RepWs.append (RepWs.reverse t) (.cons h .nil)
end
end D
namespace D
open PySem PySem.Spec PyProof.Rows L2
noncomputable def RepT (K:PySem.W.Frag)(H:Hp)(d:PyData)(x:V):Prop:=RepD K H d x\/∃ a vs ds,d=.list ds/\x=.ref a/\H a=some (.lst vs)/\RepA K H ds vs
inductive DatW (M:MH):W->PyData->Prop
 | d {x:PyData}:DatW M (.d x) x
 | l {a:Addr} {ds:List PyData} (h:M a=some (.lst (ds.map W.d))):DatW M (.m a) (.list ds)
theorem DatW.sound {K:PySem.W.Frag}{H:Hp}{M:MH}{w:W}{d:PyData}{x:V}(g:DatW M w d)(r:RepW K H w x)(m:MAbs K H M):RepT K H d x:=by
 cases g with
 | d=>exact .inl r
 | l h =>
  obtain ⟨vs,e,ra⟩:=m _ _ h
  exact .inr ⟨_,vs,_,rfl,r,e,ra.data⟩
section
variable {X:Cx}{pins:List (Addr×Obj)}{σ:St}{H:Hp}{s:Shared}
theorem thaw (I:Inv X pins σ H s){d:PyData}{x:V}(h:RepT X.K H d x):∃ H',Inv X pins σ H' s/\RepD X.K H' d x:=by
 rcases h with h | ⟨a,vs,ds,rfl,rfl,e,ra⟩
 ·exact ⟨H,I,h⟩
 ·obtain ⟨o,I2⟩:=I.freeze e trivial
  have kp:Kp H (upd H a (.frz o (.lst vs))):=Kp.set e (λ _ z=>nomatch z) (λ _ _ z=>nomatch z)
  refine ⟨_,I2,?_⟩
  simp only [RepD]
  exact ⟨a,vs,rfl,.inl ⟨o,upd_same⟩,ra.keep kp⟩
theorem readsT_of (I:Inv X pins σ H s)(d:PyData){x:V}{u:Value}(h:RepT X.K H d x)(r:RelV x u)(hd:d.hasDict=false):∃ as,Reads s.heap u d as:=by
 obtain ⟨H',I',h'⟩:=thaw I h
 exact reads_of I' d h' r hd
theorem readsT_repr (I:Inv X pins σ H s){d:PyData}{x:V}{u:Value}(h:RepT X.K H d x)(r:RelV x u)(ok:reprOk d=true):∃ as,Reads s.heap u d as/\(d.hasDict=true->sysModules ∉ as):=by
 obtain ⟨H',I',h'⟩:=thaw I h
 exact reads_repr I' h' r ok
end
section
variable {X:Cx}
theorem call_reprT {k:Nat}(hr:Room k X.A):CallR X (.builtin "repr") (λ xs H Q=>∃ x d,xs=[x]/\RepT X.K H d x/\reprOk d=true/\Q (.str d.shown) H):=by
 intro pins s σ H xs us Q I r h
 obtain ⟨x,d,rfl,rd,ok,q⟩:=h
 obtain ⟨u,rfl,rx⟩:=vals1 r
 obtain ⟨as,rr,hsm⟩:=readsT_repr I rd rx ok
 have ok':=ok
 simp only [reprOk,Bool.and_eq_true,decide_eq_true_eq] at ok'
 obtain ⟨⟨⟨hs,hz⟩,hd⟩,_⟩:=ok'
 have hu:=hr.units
 cases rr with
 | none=>exact PySem.P.repr_of_none ⟨.str _,H,I.tok _,⟨_,rfl⟩,by simpa [PyData.shown] using q⟩
 | bool b=>exact PySem.P.repr_of_bool ⟨.str _,H,I.tok _,⟨_,rfl⟩,by simpa [PyData.shown] using q⟩
 | int i t =>
  refine PySem.P.repr_of_int (by simpa [PyData.showable] using hs) ⟨.str _,H,I.tok _,⟨_,rfl⟩,?_⟩
  rw [PyData.shown] at q
  exact q
 | str i t =>
  refine PySem.P.repr_of_str ⟨.str _,H,I.tok _,⟨_,rfl⟩,?_⟩ (by simpa [PyData.shown] using hz)
  rw [PyData.shown] at q
  exact q
 | list e1 e2 e3 e4=>exact repr_of_reads' (.list e1 e2 e3 e4) hs hsm hr.gd (by omega) (λ _ _ z=>z) (λ h' u tk hk=>⟨.str _,H,I.kept hk,⟨_,rfl⟩,q⟩) hz
 | tuple e1 e2 e3 e4=>exact repr_of_reads' (.tuple e1 e2 e3 e4) hs hsm hr.gd (by omega) (λ _ _ z=>z) (λ h' u tk hk=>⟨.str _,H,I.kept hk,⟨_,rfl⟩,q⟩) hz
 | dict e1 e2 e3 e4 e5=>exact repr_of_reads' (.dict e1 e2 e3 e4 e5) hs hsm hr.gd (by omega) (λ _ _ z=>z) (λ h' u tk hk=>⟨.str _,H,I.kept hk,⟨_,rfl⟩,q⟩) hz
theorem op_eqT {k:Nat}(hr:Room k X.A):OpR X (compareOp .Eq) (λ x y H Q=>∃ d d',RepT X.K H d x/\RepT X.K H d' y/\eqOk2 d d'=true/\Q (.bl (PyData.eqv d d')) H):=by
 intro pins s σ H x y v u Q I rx ry h
 obtain ⟨d,d',h1,h2,o,q⟩:=h
 rcases eqOk2_cases o with ⟨a,b,e1,e2⟩ | ⟨o1,o2⟩
 ·subst e1; subst e2
  rcases h1 with h1 | ⟨_,_,_,z,_⟩
  ·rcases h2 with h2 | ⟨_,_,_,z,_⟩
   ·exact op_eqD hr pins s σ H x y v u Q I rx ry ⟨_,_,h1,h2,o,q⟩
   ·cases z
  ·cases z
 simp only [eqOk,Bool.and_eq_true,Bool.not_eq_true'] at o1 o2
 obtain ⟨as,r1⟩:=readsT_of I d h1 rx o1.2
 obtain ⟨bs,r2⟩:=readsT_of I d' h2 ry o2.2
 exact eq_dataH r1 r2 o1.1 o2.1 hr.units ⟨.bl _,H,I,rfl,q⟩
theorem op_neT {k:Nat}(hr:Room k X.A):OpR X (compareOp .NotEq) (λ x y H Q=>∃ d d',RepT X.K H d x/\RepT X.K H d' y/\eqOk2 d d'=true/\Q (.bl (!PyData.eqv d d')) H):=by
 intro pins s σ H x y v u Q I rx ry h
 obtain ⟨d,d',h1,h2,o,q⟩:=h
 rcases eqOk2_cases o with ⟨a,b,e1,e2⟩ | ⟨o1,o2⟩
 ·subst e1; subst e2
  rcases h1 with h1 | ⟨_,_,_,z,_⟩
  ·rcases h2 with h2 | ⟨_,_,_,z,_⟩
   ·exact op_neD hr pins s σ H x y v u Q I rx ry ⟨_,_,h1,h2,o,q⟩
   ·cases z
  ·cases z
 simp only [eqOk,Bool.and_eq_true,Bool.not_eq_true'] at o1 o2
 obtain ⟨as,r1⟩:=readsT_of I d h1 rx o1.2
 obtain ⟨bs,r2⟩:=readsT_of I d' h2 ry o2.2
 exact ne_dataH r1 r2 o1.1 o2.1 hr.units ⟨.bl _,H,I,rfl,q⟩
end
section
variable {X:Cx}{K:PySem.W.Frag}
noncomputable def rdEqT (w w':W)(M:MH)(Q:QD):Prop:=∃ d d',DatW M w d/\DatW M w' d'/\eqOk2 d d'=true/\Q (.d (.bool (PyData.eqv d d'))) M
noncomputable def rdNeT (w w':W)(M:MH)(Q:QD):Prop:=∃ d d',DatW M w d/\DatW M w' d'/\eqOk2 d d'=true/\Q (.d (.bool (!PyData.eqv d d'))) M
theorem opd_eqT:OpD K (λ x y H Q=>∃ d d',RepT K H d x/\RepT K H d' y/\eqOk2 d d'=true/\Q (.bl (PyData.eqv d d')) H) rdEqT:=by
 intro x y H w w' M Qd Q r1 r2 m ⟨d,d',g1,g2,o1,q⟩ k
 exact ⟨d,d',g1.sound r1 m,g2.sound r2 m,o1,k _ H (.d (.bool _)) M (Kp.refl H) (by simp [RepW,RepD]) m q⟩
theorem opd_neT:OpD K (λ x y H Q=>∃ d d',RepT K H d x/\RepT K H d' y/\eqOk2 d d'=true/\Q (.bl (!PyData.eqv d d')) H) rdNeT:=by
 intro x y H w w' M Qd Q r1 r2 m ⟨d,d',g1,g2,o1,q⟩ k
 exact ⟨d,d',g1.sound r1 m,g2.sound r2 m,o1,k _ H (.d (.bool _)) M (Kp.refl H) (by simp [RepW,RepD]) m q⟩
noncomputable def rdReprT (ws:List W)(M:MH)(Q:QD):Prop:=∃ w d,ws=[w]/\DatW M w d/\reprOk d=true/\Q (.d (.str d.shown)) M
theorem cd_reprT:CallD K (λ xs H Q=>∃ x d,xs=[x]/\RepT K H d x/\reprOk d=true/\Q (.str d.shown) H) rdReprT:=by
 intro vs H ws M Qd Q r m ⟨w,d,e,g,ok,q⟩ k
 subst e
 obtain ⟨v,e1,r1⟩:=repWs1 r
 exact ⟨v,d,e1,g.sound r1 m,ok,k _ H (.d (.str _)) M (Kp.refl H) (by simp [RepW,RepD]) m q⟩
inductive SeqW (M:MH):W->List W->Prop
 | l {ds:List PyData}:SeqW M (.d (.list ds)) (ds.map W.d)
 | t {ds:List PyData}:SeqW M (.d (.tuple ds)) (ds.map W.d)
 | m {a:Addr} {ws:List W} (h:M a=some (.lst ws)):SeqW M (.m a) ws
theorem SeqW.sound {H:Hp}{M:MH}{w:W}{ws:List W}{x:V}(g:SeqW M w ws)(r:RepW K H w x)(m:MAbs K H M):∃ p ys,x=.ref p/\(SqL K H p ys\/SqT K H p ys)/\RepWs K H ws ys:=by
 cases g with
 | l =>
  simp only [RepW,RepD] at r
  obtain ⟨a,vs,e,hs,ra⟩:=r
  exact ⟨a,vs,e,.inl hs.sq,ra.ws⟩
 | t =>
  simp only [RepW,RepD] at r
  obtain ⟨a,vs,e,hs,ra⟩:=r
  exact ⟨a,vs,e,.inr hs,ra.ws⟩
 | m h =>
  obtain ⟨vs,e,ra⟩:=m _ _ h
  exact ⟨_,vs,r,.inl (.inl (.inl e)),ra⟩
noncomputable def rdTupleOf (ws:List W)(M:MH)(Q:QD):Prop:=∃ w ds,ws=[w]/\SeqW M w (ds.map W.d)/\Q (.d (.tuple ds)) M
theorem cd_tupleOf:CallD K (λ xs H Q=>∃ p ys,xs=[.ref p]/\((SqL K H p ys/\∀ l,H l=none->Q (.ref l) (upd H l (.tup ys)))\/(SqT K H p ys/\Q (.ref p) H))) rdTupleOf:=by
 intro vs H ws M Qd Q r m ⟨w,ds,e,g,q⟩ k
 subst e
 obtain ⟨v,e1,r1⟩:=repWs1 r
 obtain ⟨p,ys,ev,hs,rs⟩:=g.sound r1 m
 subst ev
 rcases hs with hs | hs
 ·refine ⟨p,ys,e1,.inl ⟨hs,λ l hl=>?_⟩⟩
  have kp:Kp H (upd H l (.tup ys)):=Kp.new hl
  refine k _ _ (.d (.tuple ds)) M kp ?_ (m.new hl) q
  simp only [RepW,RepD]
  exact ⟨l,ys,rfl,.inl (.inl upd_same),rs.data.keep kp⟩
 ·refine ⟨p,ys,e1,.inr ⟨hs,?_⟩⟩
  refine k _ _ (.d (.tuple ds)) M (Kp.refl H) ?_ m q
  simp only [RepW,RepD]
  exact ⟨p,ys,rfl,hs,rs.data⟩
noncomputable def strsW (zs:List Str):List W:=zs.map λ z=>.d (.str z)
inductive TruW (M:MH):W->Bool->Prop
 | n:TruW M (.d .none) false
 | b {k:Bool}:TruW M (.d (.bool k)) k
 | i {k:Int}:TruW M (.d (.int k)) (k != 0)
 | s {z:Str} (h:z.length<=sizeLine):TruW M (.d (.str z)) ((z.length:Int) != 0)
 | l {ds:List PyData}:TruW M (.d (.list ds)) (!ds.isEmpty)
 | t {ds:List PyData}:TruW M (.d (.tuple ds)) (!ds.isEmpty)
 | m {a:Addr} {ws:List W} (h:M a=some (.lst ws)):TruW M (.m a) (!ws.isEmpty)
 | dk {a:Addr} {kvs:List (Key×W)} (h:M a=some (.dic kvs)):TruW M (.m a) (!kvs.isEmpty)
theorem empty_len {α β:Type}{xs:List α}{ys:List β}(h:xs.length=ys.length):xs.isEmpty=ys.isEmpty:=by
 cases xs <;> cases ys <;> simp at h ⊢
theorem TruW.sound {H:Hp}{M:MH}{w:W}{b:Bool}{x:V}(g:TruW M w b)(r:RepW K H w x)(m:MAbs K H M):TruV K x H b:=by
 cases g with
 | n=>simp only [RepW,RepD] at r; subst r; rfl
 | b=>simp only [RepW,RepD] at r; subst r; rfl
 | i=>simp only [RepW,RepD] at r; subst r; rfl
 | s h=>simp only [RepW,RepD] at r; subst r; exact ⟨h,rfl⟩
 | l =>
  simp only [RepW,RepD] at r
  obtain ⟨a,vs,e,hs,ra⟩:=r
  subst e
  exact .inl ⟨vs,hs.sq,by rw [empty_len ra.length]⟩
 | t =>
  simp only [RepW,RepD] at r
  obtain ⟨a,vs,e,hs,ra⟩:=r
  subst e
  exact .inr (.inl ⟨vs,hs,by rw [empty_len ra.length]⟩)
 | m h =>
  obtain ⟨vs,e,ra⟩:=m _ _ h
  have r':x=.ref _:=r
  subst r'
  exact .inl ⟨vs,.inl (.inl e),by rw [empty_len ra.length]⟩
 | dk h =>
  obtain ⟨l,e,pr⟩:=m _ _ h
  have r':x=.ref _:=r
  subst r'
  exact .inr (.inr ⟨l,e,by rw [empty_len (tb_len pr)]⟩)
noncomputable def dTru (ta:TD)(τ:DS)(M:MH)(Q:Bool->MH->Prop):Prop:=ta τ M λ w M1=>∃ b,TruW M1 w b/\Q b M1
theorem ptd_truth {a:Expr}{ta:TD}(ha:PD X a ta)(he:∀ whole:Sem Value,PySem.isTrue a X.env whole=(do let v <- whole; standAt a.pos; holding [v] (truthy v)):=by intro _; rfl):PTd X a (dTru ta) :=
 pt_w (pt_truth ha he) λ σ H Q h=>by
  obtain ⟨τ,M,Qd,A,h,k⟩:=h
  exact ⟨τ,M,_,A,h,λ v H' w M' kp r m ⟨b,g,q⟩=>⟨b,g.sound r m,k b H' M' kp m q⟩⟩
noncomputable def rdMax2 (ws:List W)(M:MH)(Q:QD):Prop:=∃ i j,ws=[.d (.int i),.d (.int j)]/\Q (.d (.int (if j > i then j else i))) M
theorem cd_max2:CallD K (λ xs H Q=>∃ i j,xs=[V.int i,V.int j]/\Q (V.int (if j > i then j else i)) H) rdMax2:=by
 intro vs H ws M Qd Q r m ⟨i,j,e,q⟩ k
 subst e
 obtain ⟨v,v',e1,r1,r2⟩:=repWs2 r
 simp only [RepW,RepD] at r1 r2
 subst r1 r2
 exact ⟨i,j,e1,k _ H (.d (.int _)) M (Kp.refl H) (by simp [RepW,RepD]) m q⟩
end
end D
namespace D
open PySem PySem.Spec PyProof.Rows L2
section
variable {X:Cx}{K:PySem.W.Frag}
noncomputable def rCatS (K:PySem.W.Frag):R2:=λ x y H Q=>∃ l b xs zs,x=.ref l/\y=.ref b/\SqL K H l xs/\SqL K H b zs/\xs.length+zs.length<=sizeLine/\∀ p,H p=none->Q (.ref p) (upd H p (.lst (xs++zs)))
theorem op_catS:OpR X (binaryOp .Add) (rCatS X.K):=by
 intro pins s σ H x y v u Q I rx ry h
 obtain ⟨l,b,xs,zs,rfl,rfl,h1,h2,hz,q⟩:=h
 cases rx
 cases ry
 obtain ⟨its,r1,p1,_⟩:=I.list h1
 obtain ⟨its2,r2,p2,_⟩:=I.list h2
 have t1:=p1.isList.typeIs (s:=s)
 have t2:=p2.isList.typeIs (s:=s)
 obtain ⟨⟨oc,od,odt,osl⟩,n,e1,c1,d1,g1⟩:=p1
 obtain ⟨⟨oc2,od2,odt2,osl2⟩,n2,e2,c2,d2,g2⟩:=p2
 dsimp only at c1 d1 g1 c2 d2 g2
 subst c1 d1 g1 c2 d2 g2
 have hl1:=r1.length
 have hl2:=r2.length
 refine wpAny_binaryOp_concat (T := "list") t1 t2 noFill_list_add seq_list_add ?_
 refine call_meets PySem.F.slot_list_add t1 PySem.F.entry_list_add (PySem.F.args_list_add_2 _ _) (list_addW l b its.toArray its2.toArray n n2 none none osl osl2 (by simp only [List.size_toArray]; omega)) ⟨e1,e2,?_⟩
 have ea:its.toArray++its2.toArray=(its++its2).toArray:=by simp
 rw [ea]
 exact ⟨.ref _,_,I.lnew (t':=s.toks) (r1.append r2) (by rw [List.length_append]; omega),rfl,q _ I.fresh⟩
inductive LstW (M:MH):W->List PyData->Prop
 | d {ds:List PyData}:LstW M (.d (.list ds)) ds
 | m {a:Addr} {ds:List PyData} (h:M a=some (.lst (ds.map W.d))):LstW M (.m a) ds
theorem LstW.sound {H:Hp}{M:MH}{w:W}{ds:List PyData}{x:V}(g:LstW M w ds)(r:RepW K H w x)(m:MAbs K H M):∃ p ys,x=.ref p/\SqL K H p ys/\RepA K H ds ys:=by
 cases g with
 | d =>
  simp only [RepW,RepD] at r
  obtain ⟨a,vs,e,hs,ra⟩:=r
  exact ⟨a,vs,e,hs.sq,ra⟩
 | m h =>
  obtain ⟨vs,e,ra⟩:=m _ _ h
  exact ⟨_,vs,r,.inl (.inl e),ra.data⟩
noncomputable def dCat (ta tb:TD)(τ:DS)(M:MH)(Q:QD):Prop:=ta τ M λ w M1=>tb τ M1 λ w' M2=>∃ xs ys,LstW M2 w xs/\LstW M2 w' ys/\xs.length+ys.length<=sizeLine/\Q (.d (.list (xs++ys))) M2
theorem pd_cat {a b:Expr}{pos:Pos}{ta tb:TD}(ha:PD X a ta)(hb:PD X b tb):PD X (.BinOp a .Add b pos) (dCat ta tb):=pe_w (pe_frz (pe_op op_catS ha hb)) λ σ H Q h=>by
 obtain ⟨τ,M,Qd,A,h,k⟩:=h
 refine ⟨τ,M,_,A,h,λ x H1 w M1 kp1 r1 m1 q1=>⟨τ,M1,_,A.go kp1 m1,q1,λ y H2 w' M2 kp2 r2 m2 hq64=>?_⟩⟩
 obtain ⟨xs,ys,g1,g2,hz,q⟩:=hq64
 obtain ⟨p,vs,e1,s1,ra1⟩:=g1.sound (r1.keep kp2) m2
 obtain ⟨p',vs',e2,s2,ra2⟩:=g2.sound r2 m2
 refine ⟨p,p',vs,vs',e1,e2,s1,s2,by rw [ra1.length,ra2.length]; exact hz,λ c hc=>?_⟩
 exact imp_frz hc (ra1.append ra2) m2 q (kgo (kgo k kp1) kp2)
end
noncomputable abbrev TGsd:=List W->DS->MH->(DS->MH->Prop)->Prop
noncomputable def upGs (K:PySem.W.Frag)(g:TGsd):TGs:=λ vs σ H Q=>∃ ws τ M Qd,RepWs K H ws vs/\Abs K H σ τ M/\g ws τ M Qd/\∀ σ' H' τ' M',Kp H H'->Abs K H' σ' τ' M'->Qd τ' M'->Q σ' H'
noncomputable abbrev PGsd (X:Cx)(es:List Expr)(g:TGsd):Prop:=PGs X es (upGs X.K g)
theorem pgs_w {X:Cx}{es:List Expr}{g g':TGs}(h:PGs X es g)(k:∀ v σ H Q,g' v σ H Q->g v σ H Q):PGs X es g':=λ pins s σ H v u Q I r q=>h pins s σ H v u Q I r (k v σ H Q q)
section
variable {X:Cx}{pos:Pos}{e:Expr}{es:List Expr}
noncomputable def gsNil (ws:List W)(τ:DS)(M:MH)(Q:DS->MH->Prop):Prop:=ws=[]/\Q τ M
noncomputable def gsCons (g:TGd)(gs:TGsd)(ws:List W)(τ:DS)(M:MH)(Q:DS->MH->Prop):Prop:=∃ w r,ws=w :: r/\g w τ M λ τ' M'=>gs r τ' M' Q
theorem pgsd_nil:PGsd X [] gsNil:=pgs_w pgs_nil λ vs σ H Q hq65=>by
 obtain ⟨ws,τ,M,Qd,r,A,⟨e,q⟩,k⟩:=hq65
 subst e
 cases r
 exact ⟨rfl,k σ H τ M (Kp.refl H) A q⟩
theorem pgsd_cons {g:TGd}{gs:TGsd}(h1:PGd X e g)(h2:PGsd X es gs)(hs:(assignEach (e :: es) X.env).map (·.2)=assign e X.env :: (assignEach es X.env).map (·.2):=by rfl):PGsd X (e :: es) (gsCons g gs) :=
 pgs_w (pgs_cons h1 h2 hs) λ vs σ H Q hq66=>by
  obtain ⟨ws,τ,M,Qd,r,A,⟨w,wr,ew,q⟩,k⟩:=hq66
  subst ew
  cases r with
  | cons r1 r2 =>
   refine ⟨_,_,rfl,w,τ,M,_,r1,A,q,λ σ1 H1 τ1 M1 kp1 A1 q1=>?_⟩
   exact ⟨wr,τ1,M1,Qd,RepWs.keep kp1 r2,A1,q1,λ σ2 H2 τ2 M2 kp2 A2 q2=>k σ2 H2 τ2 M2 (kp1.trans kp2) A2 q2⟩
noncomputable def gT (n:Nat)(gs:TGsd)(w:W)(τ:DS)(M:MH)(Q:DS->MH->Prop):Prop:=∃ ds,w=.d (.tuple ds)/\ds.length=n/\gs (ds.map W.d) τ M Q
theorem pgd_tup {k n:Nat}{gs:TGsd}(hc:X.calm=true)(h:PGsd X es gs)(hn:(assignEach es X.env).length=n:=by rfl)(hst:(assignEach es X.env).findIdx? (·.1)=none:=by rfl):PGd X (.Tuple es k pos) (gT n gs) :=
 pg_w (pg_tup hc h hn hst) λ v σ H Q hq67=>by
  obtain ⟨w,τ,M,Qd,r,A,⟨ds,ew,hl,q⟩,kk⟩:=hq67
  subst ew
  simp only [RepW,RepD] at r
  obtain ⟨a,vs,ev,hs,ra⟩:=r
  exact ⟨a,vs,ev,hs,by rw [ra.length]; exact hl,ds.map W.d,τ,M,Qd,ra.ws,A,q,kk⟩
noncomputable def dDictM (trs:List (TD×TD))(τ:DS)(M:MH)(Q:QD):Prop:=∀ p,M p=none->dPairs trs τ (updM M p (.dic [])) λ ps M2=>M2 p=some (.dic [])/\∃ kvs:List (Key×W),ps=kvs.map (λ q=>(kW q.1,q.2))/\kvs.length<=15/\(kvs.map (·.1)).Nodup /\
 Q (.m p) (updM M2 p (.dic kvs))
theorem pairs_keyW {K:PySem.W.Frag}{H:Hp}:∀ {kvs:List (Key×W)} {ps:List (V×V)},Paired (λ (p:W×W) (q:V×V)=>RepW K H p.1 q.1/\RepW K H p.2 q.2) (kvs.map λ q=>(kW q.1,q.2)) ps ->
  ∃ l:List (Key×V),ps=l.map (λ kv=>(kV kv.1,kv.2))/\l.map (·.1)=kvs.map (·.1)/\Paired (λ (p:Key×W) (q:Key×V)=>p.1=q.1/\RepW K H p.2 q.2) kvs l
 | [],ps,h=>by cases h; exact ⟨[],rfl,rfl,.nil⟩
 | (k,d) :: kvs,ps,h=>by
  cases h with
  | cons r t =>
   rename_i q qs
   obtain ⟨x,y⟩:=q
   obtain ⟨l,e1,e2,e3⟩:=pairs_keyW t
   refine ⟨(k,y) :: l,?_,by simp [e2],.cons ⟨rfl,r.2⟩ e3⟩
   rw [List.map_cons,<- e1,<- kW_rep r.1]
theorem pd_dictM {keys:List (Option Expr)}{values:List Expr}{trs:List (TD×TD)}(h:PPs X pos keys values (trs.map λ p=>(up X.K p.1,up X.K p.2)))(hall:keys.all (·.isSome)=true:=by rfl)(hl:keys.length=values.length:=by rfl)(h0:keys≠[]:=by simp)
  (h15:keys.length<=15:=by decide):PD X (.Dict keys values pos) (dDictM trs):=pe_w (pe_disp h hall hl h0 h15) λ σ H Q ⟨τ,M,Qd,A,q,k⟩=>λ p hp=>by
 have kp0:Kp H (upd H p (.dK [])):=Kp.new hp
 have m0:MAbs X.K (upd H p (.dK [])) (updM M p (.dic [])):=A.mem.put (mo:=.dic []) kp0 ⟨[],upd_same,.nil⟩
 have hM:=A.mem.free hp
 refine imp_pairs (A.go kp0 m0) (q p hM) λ ps H2 ws M2 kp2 r2 m2 hq68=>?_
 obtain ⟨eM,kvs,ews,hlen,hnd,qq⟩:=hq68
 subst ews
 obtain ⟨l0,e0,pr0⟩:=m2 p _ eM
 have el0:l0=[]:=by cases pr0; rfl
 subst el0
 obtain ⟨l,e1,e2,e3⟩:=pairs_keyW r2
 have elen:l.length=kvs.length:=by
  have:=congrArg List.length e2
  simpa using this
 refine ⟨e0,l,e1,by omega,?_⟩
 have em:mergeK [] l=l:=by rw [mergeK_new (by simpa [e2] using hnd)]; rfl
 rw [em]
 have kp3:Kp H2 (upd H2 p (.dK l)):=Kp.set e0 (λ xs z=>nomatch z) λ _ _ z=>nomatch z
 exact k _ _ (.m p) _ ((kp0.trans kp2).trans kp3) rfl (m2.put (mo:=.dic kvs) kp3 ⟨l,upd_same,Paired.mapP e3 λ p q z=>⟨z.1,z.2.keep kp3⟩⟩) qq
end
end D
namespace D
open PySem PySem.Spec PyProof.Rows L2
section
variable {K:PySem.W.Frag}{C:Addr}
end
section
variable {X:Cx}{pos p:Pos}{e:Expr}{es:List Expr}{t:TAd}{x:Str}{T:String}{r:List V->Hp->VK->Prop}{rd:List W->MH->QD->Prop}
theorem pcT (hc:CallR X (.type T) r)(hd:CallD X.K r rd)(hg:Gl X x)(hm:X.mg x=none)(hv:bootBuiltins x=some (.type T))(ha:PAd X (e :: es) t)(hn:x ≠ "__name__" := by decide)(hdb:(x == ("__debug__" : Str))=false:=by decide)
  (h1:isSt e=false:=by rfl)(h2:(es.all λ e=>!isSt e)=true:=by rfl):PD X (.Call (.Name x p) (e :: es) [] pos) (dCB rd t):=pd_callTy hc hd hg hm hv ha hn hdb (star_ok e es X.env h1) (plain_ok pos X.env es h2)
end
theorem bb_max:bootBuiltins "max" = some (.builtin "max"):=by decide +kernel
end D
namespace D
open PySem PySem.Spec PyProof.Rows L2
namespace Q
section
variable {X:Cx}{o i e f:Expr}{pos apos cpos:Pos}{td ty tx:TE}
end
section
variable {X:Cx}{o i e f value:Expr}{es:List Expr}{pos pos' apos cpos:Pos}{td ti tx tv:TD}{t:TAd}
theorem pd_dget (hu:X.A.units+1 < cLine)(ho:Jd (PD X o td))(hi:Jd (PD X i ti))(hs:NoSl i:=by exact λ _ _=>rfl):Jd (PD X (.Subscript o i pos) (dDGet td ti)):=⟨D.pd_dget (hu:=hu) (ho:=ho.h) (hi:=hi.h) (hs:=hs)⟩
theorem pd_get1 (hu:X.A.units+1 < cLine)(ho:Jd (PD X o td))(he:Jd (PD X e ti))(m:M1 X o "get" apos e cpos:=by exact ⟨rfl,rfl,rfl,rfl⟩):Jd (PD X (.Call (.Attribute o "get" apos) [e] [] cpos) (dGet1 td ti)):=⟨D.pd_get1 (hu:=hu) (ho:=ho.h) (he:=he.h) (m:=m)⟩
end
section
variable {X:Cx}{C f:Addr}{o e value:Expr}{es:List Expr}{fn m x:Str}{pos pos' apos p:Pos}{td tv te:TD}{t:TAd}{k:Nat}{fd:FuncData}{ps:List Str}{sp:SpD}
end
section
variable {X:Cx}{o e:Expr}{pos apos cpos:Pos}{td te:TD}
theorem pd_seal (h:Jd (PD X e td)):Jd (PD X e (dSeal td)):=⟨D.pd_seal (h:=h.h)⟩
theorem pd_append (ho:Jd (PD X o td))(he:Jd (PD X e te))(hbase:attributeBase o "append" X.env (eval o X.env)=eval o X.env:=by rfl)(hfew:((backTo cpos (starEach [e] X.env)).all (λ x=>!x.1) && (backToKw cpos (keywordEach [] X.env)).all (λ x=>x.1.isSome)
   && decide (([e]:List Expr).length+([]:List Keyword).length+(if ([]:List Keyword).isEmpty then 0 else 1) < 30))=true:=by rfl)(hline:(apos.endLine == cpos.line)=true:=by rfl)(hs:isSt e=false:=by rfl):Jd (PD X (.Call (.Attribute o "append" apos) [e] [] cpos) (dAppend td te)):=⟨D.pd_append (ho:=ho.h) (he:=he.h) (hbase:=hbase) (hfew:=hfew) (hline:=hline) (hs:=hs)⟩
end
section
variable {X:Cx}{pins:List (Addr×Obj)}{σ:St}{H:Hp}{s:Shared}
end
section
variable {X:Cx}
end
section
variable {X:Cx}{K:PySem.W.Frag}
theorem ptd_truth {a:Expr}{ta:TD}(ha:Jd (PD X a ta))(he:∀ whole:Sem Value,PySem.isTrue a X.env whole=(do let v <- whole; standAt a.pos; holding [v] (truthy v)):=by intro _; rfl):Jd (PTd X a (dTru ta)):=⟨D.ptd_truth (ha:=ha.h) (he:=he)⟩
end
section
variable {X:Cx}{K:PySem.W.Frag}
theorem pd_cat {a b:Expr}{pos:Pos}{ta tb:TD}(ha:Jd (PD X a ta))(hb:Jd (PD X b tb)):Jd (PD X (.BinOp a .Add b pos) (dCat ta tb)):=⟨D.pd_cat (ha:=ha.h) (hb:=hb.h)⟩
end
section
variable {X:Cx}{pos:Pos}{e:Expr}{es:List Expr}
theorem pgsd_nil  : Jd (PGsd X [] gsNil):=⟨D.pgsd_nil ⟩
theorem pgsd_cons {g:TGd}{gs:TGsd}(h1:Jd (PGd X e g))(h2:Jd (PGsd X es gs))(hs:(assignEach (e :: es) X.env).map (·.2)=assign e X.env :: (assignEach es X.env).map (·.2):=by rfl):Jd (PGsd X (e :: es) (gsCons g gs)):=⟨D.pgsd_cons (h1:=h1.h) (h2:=h2.h) (hs:=hs)⟩
theorem pgd_tup {k n:Nat}{gs:TGsd}(hc:X.calm=true)(h:Jd (PGsd X es gs))(hn:(assignEach es X.env).length=n:=by rfl)(hst:(assignEach es X.env).findIdx? (·.1)=none:=by rfl):Jd (PGd X (.Tuple es k pos) (gT n gs)):=⟨D.pgd_tup (hc:=hc) (h:=h.h) (hn:=hn) (hst:=hst)⟩
theorem pd_dictM {keys:List (Option Expr)}{values:List Expr}{trs:List (TD×TD)}(h:Jd (PPs X pos keys values (trs.map (pm X.K))))(hall:keys.all (·.isSome)=true:=by rfl)(hl:keys.length=values.length:=by rfl)(h0:keys≠[]:=by simp)(h15:keys.length<=15:=by decide):Jd (PD X (.Dict keys values pos) (dDictM trs)):=⟨D.pd_dictM (h:=h.h) (hall:=hall) (hl:=hl) (h0:=h0) (h15:=h15)⟩
end
section
variable {K:PySem.W.Frag}{C:Addr}
end
section
variable {X:Cx}{pos p:Pos}{e:Expr}{es:List Expr}{t:TAd}{x:Str}{T:String}{r:List V->Hp->VK->Prop}{rd:List W->MH->QD->Prop}
theorem pcT (hc:CallR X (.type T) r)(hd:CallD X.K r rd)(hg:Gl X x)(hm:X.mg x=none)(hv:bootBuiltins x=some (.type T))(ha:Jd (PAd X (e :: es) t))(hn:x ≠ "__name__" := by decide)(hdb:(x == ("__debug__" : Str))=false:=by decide)(h1:isSt e=false:=by rfl)(h2:(es.all λ e=>!isSt e)=true:=by rfl):Jd (PD X (.Call (.Name x p) (e :: es) [] pos) (dCB rd t)):=⟨D.pcT (hc:=hc) (hd:=hd) (hg:=hg) (hm:=hm) (hv:=hv) (ha:=ha.h) (hn:=hn) (hdb:=hdb) (h1:=h1) (h2:=h2)⟩
end
end Q
end D
namespace D
open PySem PySem.Spec PyProof.Rows L2
@[simp] theorem eqOk2_int (i j:Int):eqOk2 (.int i) (.int j)=true:=rfl
@[simp] theorem eqOk2_str (x y:Str):eqOk2 (.str x) (.str y)=true:=rfl
@[simp] theorem eqOk2_bool (x y:Bool):eqOk2 (.bool x) (.bool y)=true:=rfl
@[simp] theorem eqv_int (i j:Int):PyData.eqv (.int i) (.int j)=(i == j):=by rw [PyData.eqv]
@[simp] theorem eqv_str (i j:Str):PyData.eqv (.str i) (.str j)=(i == j):=by rw [PyData.eqv]
@[simp] theorem fitW_m (a:Addr):fitW (.m a)=true:=rfl
@[simp] theorem fitW_list (ds:List PyData):fitW (.d (.list ds))=true:=rfl
@[simp] theorem fitW_tuple (ds:List PyData):fitW (.d (.tuple ds))=true:=rfl
@[simp] theorem ixN_zero (n:Nat):ixN (n+1) 0=some 0:=by unfold ixN; simp
theorem atI_nn {α:Type}{xs:List α}{i:Int}(h0:0<=i)(h1:i < xs.length):atI xs i=some (xs[i.toNat]'(by omega)):=by
 unfold atI ixN
 rw [if_pos h0,if_pos h1]
 simp
inductive Bag (M:MH) (p:Addr):Prop
 | mk (a b c:Int) (ns:List Int) (e:M p=some (.lst [.d (.int a),.d (.int b),.d (.int c),.d (.list (ns.map PyData.int))])) (z:0<=a/\0<=b/\b < 2147483647/\0<=c/\(∀ n∈ns,0<=n)):Bag M p
noncomputable def sp_l_bag:SpD:=λ ws M Q=>∃ ns:List Int,ws=[.d (.list (ns.map PyData.int))]/\ns.length<=1000/\∀ p M',M p=none->(∀ q,q≠p->M' q=M q)->Bag M' p->Q (.m p) M'
inductive Sp_l_take (ws:List W) (M:MH) (Q:QD):Prop
 | mk (p:Addr) (n:Int) (z0:ws=[.m p,.d (.int n)]) (z1:Bag M p) (z2:0 < n) (z3:n < 1073741824) (z4:∀ (r:Int) M',0<=r->r < n->Bag M' p->(∀ q,q≠p->M' q=M q)->Q (.d (.int r)) M'):Sp_l_take ws M Q
noncomputable def sp_l_take:SpD:=Sp_l_take
theorem len_l_bag:∀ ws M Q,sp_l_bag ws M Q->ws.length=1:=by rintro ws M Q ⟨ns,rfl,_⟩; rfl
theorem len_l_take:∀ ws M Q,sp_l_take ws M Q->ws.length=2:=by rintro ws M Q ⟨p,n,rfl,_⟩; rfl
theorem ixN_nat {n:Nat}{i:Int}(h0:0<=i)(h1:i < n):ixN n i=some i.toNat:=by unfold ixN; rw [if_pos h0,if_pos h1]
theorem ix_m {M:MH}{p:Addr}{ws:List W}{i:Int}{x:W}(hm:M p=some (.lst ws))(h:atI ws i=some x):ixW M (.m p) i=some x:=by
 simp only [ixW,hm]; exact h
theorem ite_b {c:Bool}{A B:Prop}(h1:c=true->A)(h2:c=false->B):if c=true then A else B:=by
 cases c with
 | true=>rw [if_pos rfl]; exact h1 rfl
 | false=>rw [if_neg Bool.false_ne_true]; exact h2 rfl
end D
namespace D
open PySem PySem.Spec PyProof.Rows L2
noncomputable abbrev N_l_bag:List Str:=["_law_script"]
noncomputable def t_l_bag:TSd :=
  dRet (dLstM (dCons (dC (.d (.int 0))) (dCons (dC (.d (.int 1234567891))) (dCons (dC (.d (.int 0))) (dCons (dLC (dItems (dSl (dVar 0) (dNoPart) (dPart (dC (.d (.int 63)))))) (gN 0) (dYes) (dCB rdAbs (dCons (dVar 0) (dNil))) 1 []) (dNil))))))
noncomputable abbrev N_l_take:List Str:=["_law_bag_here", "_law_many", "_law_cell", "_law_value", "_law_first", "_law_second"]
noncomputable def t_l_take:TSd :=
  dSeq (dIf (dTest (dOp rdEq (dOp rdIx (dVar 0) (dC (.d (.int 0)))) (dC (.d (.int 0)))))
   (dSeq (dAsg (dC (.d (.int 0))) (gN 2)) <|
   dSeq (dIf (dTest (dOp rdLt (dOp rdIx (dVar 0) (dC (.d (.int 2)))) (dCB rdLen (dCons (dOp rdIx (dVar 0) (dC (.d (.int 3)))) (dNil)))))
    (dAsg (dOp rdIx (dOp rdIx (dVar 0) (dC (.d (.int 3)))) (dOp rdIx (dVar 0) (dC (.d (.int 2))))) (gN 2))
    (dNext)) <|
   dSeq (dAugS (dVar 0) (dC (.d (.int 2))) (dC (.d (.int 1))) (λ i j=>i+j)) <|
   dSeq (dIf (dTest (dOp rdGe (dVar 2) (dC (.d (.int 1000000000000000000)))))
    (dAsg (dVar 2) (gSet (dVar 0) (dC (.d (.int 0)))))
    (dNext)) <|
   dAsg (dOp rdMod (dOp rdAdd (dOp rdAdd (dOp rdMul (dOp rdIx (dVar 0) (dC (.d (.int 1)))) (dC (.d (.int 48271)))) (dOp rdMod (dVar 2) (dC (.d (.int 2147483647))))) (dOp rdMul (dC (.d (.int 7919))) (dOp rdIx (dVar 0) (dC (.d (.int 2)))))) (dC (.d (.int 2147483647)))) (gSet (dVar 0) (dC (.d (.int 1)))))
   (dNext)) <|
  dSeq (dIf (dTest (dOp rdGt (dOp rdIx (dVar 0) (dC (.d (.int 0)))) (dC (.d (.int 0)))))
   (dSeq (dAsg (dOp rdMod (dOp rdIx (dVar 0) (dC (.d (.int 0)))) (dVar 1)) (gN 3)) <|
   dSeq (dAsg (dOp rdDiv (dOp rdIx (dVar 0) (dC (.d (.int 0)))) (dVar 1)) (gSet (dVar 0) (dC (.d (.int 0))))) <|
   dRet (dVar 3))
   (dNext)) <|
  dSeq (dAsg (dOp rdMod (dOp rdMul (dOp rdAdd (dOp rdIx (dVar 0) (dC (.d (.int 1)))) (dC (.d (.int 1)))) (dC (.d (.int 39373)))) (dC (.d (.int 1000000007)))) (gN 4)) <|
  dSeq (dAsg (dOp rdMod (dOp rdMul (dOp rdMod (dOp rdMul (dVar 4) (dVar 4)) (dC (.d (.int 998244353)))) (dC (.d (.int 30011)))) (dC (.d (.int 998244353)))) (gN 5)) <|
  dSeq (dIf (dTest (dOp rdGt (dVar 1) (dC (.d (.int 1000000)))))
   (dRet (dOp rdMod (dOp rdAdd (dOp rdMul (dVar 5) (dC (.d (.int 1000000007)))) (dVar 4)) (dVar 1)))
   (dNext)) <|
  dRet (dOp rdMod (dOp rdDiv (dVar 5) (dC (.d (.int 7)))) (dVar 1))
noncomputable abbrev bagL (a b c:Int)(ns:List Int):List W:=[.d (.int a),.d (.int b),.d (.int c),.d (.list (ns.map PyData.int))]
theorem read_take2 {M:MH}{Q:QD}{p:Addr}{n:Int}{a b c:Int}{ns:List Int}{x:Option W}(hm:M p=some (.lst (bagL a b c ns)))(ha:0<=a)(hb:0<=b)(hb2:b < 2147483647)(hc:0<=c)(hns:∀ n∈ns,0<=n)(hn:0 < n)(hn2:n < 1073741824)
  (k:∀ (r:Int) M',0<=r->r < n->Bag M' p->(∀ q,q≠p->M' q=M q)->Q (.d (.int r)) M'){D:Ed}(hD:D.rt=Q) :
  (dSeq (dIf (dTest (dOp rdGt (dOp rdIx (dVar 0) (dC (.d (.int 0)))) (dC (.d (.int 0)))))
   (dSeq (dAsg (dOp rdMod (dOp rdIx (dVar 0) (dC (.d (.int 0)))) (dVar 1)) (gN 3)) <|
   dSeq (dAsg (dOp rdDiv (dOp rdIx (dVar 0) (dC (.d (.int 0)))) (dVar 1)) (gSet (dVar 0) (dC (.d (.int 0))))) <|
   dRet (dVar 3))
   (dNext)) <|
  dSeq (dAsg (dOp rdMod (dOp rdMul (dOp rdAdd (dOp rdIx (dVar 0) (dC (.d (.int 1)))) (dC (.d (.int 1)))) (dC (.d (.int 39373)))) (dC (.d (.int 1000000007)))) (gN 4)) <|
  dSeq (dAsg (dOp rdMod (dOp rdMul (dOp rdMod (dOp rdMul (dVar 4) (dVar 4)) (dC (.d (.int 998244353)))) (dC (.d (.int 30011)))) (dC (.d (.int 998244353)))) (gN 5)) <|
  dSeq (dIf (dTest (dOp rdGt (dVar 1) (dC (.d (.int 1000000)))))
   (dRet (dOp rdMod (dOp rdAdd (dOp rdMul (dVar 5) (dC (.d (.int 1000000007)))) (dVar 4)) (dVar 1)))
   (dNext)) <|
  dRet (dOp rdMod (dOp rdDiv (dVar 5) (dC (.d (.int 7)))) (dVar 1))) D [some (.m p),some (.d (.int n)),x,none,none,none] M:=by
 subst hD
 have i0:ixW M (.m p) 0=some (.d (.int a)):=ix_m hm rfl
 have i1:ixW M (.m p) 1=some (.d (.int b)):=ix_m hm rfl
 have same:Bag M p:=⟨a,b,c,ns,hm,ha,hb,hb2,hc,hns⟩
 refine ⟨_,rfl,_,_,rfl,i0,rfl,_,_,rfl,rfl,_,rfl,?_⟩
 refine ite_b (λ h=>?_) (λ h=>?_)
 ·have h0:0 < a:=of_decide_eq_true h
  refine ⟨_,rfl,_,_,rfl,i0,rfl,_,rfl,_,_,rfl,rfl,hn,?_⟩
  refine ⟨_,rfl,_,_,rfl,i0,rfl,_,rfl,_,_,rfl,rfl,⟨hn,hn2⟩,?_⟩
  refine ⟨_,rfl,_,_,_,_,rfl,rfl,hm,rfl,?_⟩
  refine ⟨_,rfl,?_⟩
  refine k _ _ (Int.emod_nonneg _ (by omega)) (Int.emod_lt_of_pos _ hn) ⟨a / n,b,c,ns,updM_same,Int.ediv_nonneg ha (by omega),hb,hb2,hc,hns⟩ λ q hq=>updM_ne hq
 ·refine ⟨_,rfl,_,_,rfl,i1,rfl,.inl ?_⟩
  refine ⟨_,_,rfl,rfl,_,_,rfl,rfl,.inl ⟨by omega,by omega⟩,_,_,rfl,rfl,(by decide:(0:Int) < 1000000007),?_⟩
  have f0:0<=(b+1) * 39373 % 1000000007:=Int.emod_nonneg _ (by decide)
  have f1:(b+1) * 39373 % 1000000007 < 1000000007:=Int.emod_lt_of_pos _ (by decide)
  refine ⟨_,rfl,_,rfl,_,_,rfl,rfl,.inl ⟨by omega,by omega⟩,_,_,rfl,rfl,(by decide:(0:Int) < 998244353),?_⟩
  have g0:0<=(b+1) * 39373 % 1000000007 * ((b+1) * 39373 % 1000000007) % 998244353:=Int.emod_nonneg _ (by decide)
  have g1:(b+1) * 39373 % 1000000007 * ((b+1) * 39373 % 1000000007) % 998244353 < 998244353:=Int.emod_lt_of_pos _ (by decide)
  refine ⟨_,_,rfl,rfl,.inl ⟨by omega,by omega⟩,_,_,rfl,rfl,(by decide:(0:Int) < 998244353),?_⟩
  have e0:0<=(b+1) * 39373 % 1000000007 * ((b+1) * 39373 % 1000000007) % 998244353 * 30011 % 998244353:=Int.emod_nonneg _ (by decide)
  have e1:(b+1) * 39373 % 1000000007 * ((b+1) * 39373 % 1000000007) % 998244353 * 30011 % 998244353 < 998244353:=Int.emod_lt_of_pos _ (by decide)
  refine ⟨_,rfl,_,_,rfl,rfl,_,rfl,?_⟩
  refine ite_b (λ h=>?_) (λ h=>?_)
  ·refine ⟨_,rfl,_,_,rfl,rfl,.inl ⟨by omega,by omega⟩,_,rfl,.inl ⟨_,_,rfl,rfl,_,rfl,_,_,rfl,rfl,hn,?_⟩⟩
   exact k _ _ (Int.emod_nonneg _ (by omega)) (Int.emod_lt_of_pos _ hn) same λ q _=>rfl
  ·refine ⟨_,rfl,_,_,rfl,rfl,⟨by decide,by decide⟩,_,rfl,_,_,rfl,rfl,hn,?_⟩
   exact k _ _ (Int.emod_nonneg _ (by omega)) (Int.emod_lt_of_pos _ hn) same λ q _=>rfl
theorem read_take1 {M:MH}{p:Addr}{n cell:Int}{a b c:Int}{ns:List Int}{D:Ed}(hm:M p=some (.lst (bagL a b c ns)))(ha:0<=a)(hb:0<=b)(hb2:b < 2147483647)(hc:0<=c)(hcell:0<=cell)
  (k:∀ a' b' c' M',0<=a'->0<=b'->b' < 2147483647->0<=c'->M' p=some (.lst (bagL a' b' c' ns))->(∀ q,q≠p->M' q=M q)->D.nx [some (.m p),some (.d (.int n)),some (.d (.int cell)),none,none,none] M') :
  (dSeq (dAugS (dVar 0) (dC (.d (.int 2))) (dC (.d (.int 1))) (λ i j=>i+j)) <|
   dSeq (dIf (dTest (dOp rdGe (dVar 2) (dC (.d (.int 1000000000000000000)))))
    (dAsg (dVar 2) (gSet (dVar 0) (dC (.d (.int 0)))))
    (dNext)) <|
   dAsg (dOp rdMod (dOp rdAdd (dOp rdAdd (dOp rdMul (dOp rdIx (dVar 0) (dC (.d (.int 1)))) (dC (.d (.int 48271)))) (dOp rdMod (dVar 2) (dC (.d (.int 2147483647))))) (dOp rdMul (dC (.d (.int 7919))) (dOp rdIx (dVar 0) (dC (.d (.int 2)))))) (dC (.d (.int 2147483647)))) (gSet (dVar 0) (dC (.d (.int 1)))))
   D [some (.m p),some (.d (.int n)),some (.d (.int cell)),none,none,none] M:=by
 refine ⟨_,rfl,_,_,_,_,_,rfl,rfl,hm,rfl,rfl,_,rfl,rfl,?_⟩
 have m1:updM M p (.lst (bagL a b (c+1) ns)) p=some (.lst (bagL a b (c+1) ns)):=updM_same
 have f1:∀ q,q≠p->updM M p (.lst (bagL a b (c+1) ns)) q=M q:=λ q hq=>updM_ne hq
 show (dSeq _ _) D _ (updM M p (.lst (bagL a b (c+1) ns)))
 generalize updM M p (.lst (bagL a b (c+1) ns))=M1 at m1 f1
 have fin:∀ (a':Int) (M2:MH),0<=a'->M2 p=some (.lst (bagL a' b (c+1) ns))->(∀ q,q≠p->M2 q=M q) ->
   dAsg (dOp rdMod (dOp rdAdd (dOp rdAdd (dOp rdMul (dOp rdIx (dVar 0) (dC (.d (.int 1)))) (dC (.d (.int 48271)))) (dOp rdMod (dVar 2) (dC (.d (.int 2147483647))))) (dOp rdMul (dC (.d (.int 7919))) (dOp rdIx (dVar 0) (dC (.d (.int 2)))))) (dC (.d (.int 2147483647)))) (gSet (dVar 0) (dC (.d (.int 1)))) D [some (.m p),some (.d (.int n)),some (.d (.int cell)),none,none,none] M2:=by
  intro a' M2 ha' m2 f2
  have i1:ixW M2 (.m p) 1=some (.d (.int b)):=ix_m m2 rfl
  have i2:ixW M2 (.m p) 2=some (.d (.int (c+1))):=ix_m m2 rfl
  refine ⟨_,rfl,_,_,rfl,i1,rfl,_,_,rfl,rfl,.inl ⟨by omega,by omega⟩,_,rfl,_,_,rfl,rfl,(by decide:(0:Int) < 2147483647),.inl ?_⟩
  refine ⟨_,_,rfl,rfl,_,rfl,_,_,rfl,i2,rfl,_,_,rfl,rfl,.inl ⟨by decide,by decide⟩,.inl ?_⟩
  refine ⟨_,_,rfl,rfl,_,_,rfl,rfl,(by decide:(0:Int) < 2147483647),_,rfl,_,_,_,_,rfl,rfl,m2,rfl,?_⟩
  exact k a' _ (c+1) _ ha' (Int.emod_nonneg _ (by decide)) (Int.emod_lt_of_pos _ (by decide)) (by omega) updM_same λ q hq=>(updM_ne hq).trans (f2 q hq)
 refine ⟨_,rfl,_,_,rfl,rfl,_,rfl,?_⟩
 refine ite_b (λ h=>?_) (λ h=>?_)
 ·refine ⟨_,rfl,_,rfl,_,_,_,_,rfl,rfl,m1,rfl,?_⟩
  exact fin cell _ hcell updM_same λ q hq=>(updM_ne hq).trans (f1 q hq)
 ·exact fin a M1 ha m1 f1
theorem read_l_take:∀ ws M Q,sp_l_take ws M Q->t_l_take { nx:=λ _ M'=>Q (.d .none) M',rt:=Q } (startD N_l_take ws) M:=by
 rintro ws M Q ⟨p,n,rfl,⟨a,b,c,ns,hm,ha,hb,hb2,hc,hns⟩,hn,hn2,k⟩
 have i0:ixW M (.m p) 0=some (.d (.int a)):=ix_m hm rfl
 have i2:ixW M (.m p) 2=some (.d (.int c)):=ix_m hm rfl
 have i3:ixW M (.m p) 3=some (.d (.list (ns.map PyData.int))):=ix_m hm rfl
 refine ⟨_,rfl,_,_,rfl,i0,rfl,_,_,rfl,rfl,rfl,_,rfl,?_⟩
 refine ite_b (λ h=>?_) (λ h=>?_)
 ·refine ⟨_,rfl,_,_,rfl,i2,rfl,_,rfl,_,_,rfl,i3,rfl,_,_,rfl,rfl,rfl,_,_,rfl,rfl,_,rfl,?_⟩
  refine ite_b (λ h=>?_) (λ h=>?_)
  ·have hlt:c < ((ns.map PyData.int).length:Nat):=of_decide_eq_true h
   have hlt':c.toNat < ns.length:=by rw [List.length_map] at hlt; omega
   have ic:ixW M (.d (.list (ns.map PyData.int))) c=some (.d (.int (ns[c.toNat]'hlt'))):=by
    simp only [ixW]
    rw [atI_nn hc hlt]
    simp
   refine ⟨_,rfl,_,_,rfl,i3,rfl,_,rfl,_,_,rfl,i2,rfl,_,_,rfl,ic,rfl,?_⟩
   refine read_take1 (cell:=ns[c.toNat]'hlt') hm ha hb hb2 hc (hns _ (List.getElem_mem _)) λ a' b' c' M' h1 h2 h3 h4 h5 h6=>?_
   exact read_take2 (x:=some (.d (.int (ns[c.toNat]'hlt')))) h5 h1 h2 h3 h4 hns hn hn2 (λ r M'' r0 r1 bg fr=>k r M'' r0 r1 bg λ q hq=>(fr q hq).trans (h6 q hq)) rfl
  ·refine read_take1 (cell:=0) hm ha hb hb2 hc (Int.le_refl 0) λ a' b' c' M' h1 h2 h3 h4 h5 h6=>?_
   exact read_take2 (x:=some (.d (.int 0))) h5 h1 h2 h3 h4 hns hn hn2 (λ r M'' r0 r1 bg fr=>k r M'' r0 r1 bg λ q hq=>(fr q hq).trans (h6 q hq)) rfl
 ·exact read_take2 (x:=none) hm ha hb hb2 hc hns hn hn2 k rfl
theorem take_fm {f:W->Option PyData}{ws:List W}{i:Nat}{w:W}(h:ws[i]? = some w):(ws.take (i+1)).filterMap f=(ws.take i).filterMap f++(f w).toList:=by
 rw [List.take_add_one,h,List.filterMap_append]
 cases e:f w <;> simp [e]
theorem lc_pure {tt:TTd}{te:TD}{fr:List Nat}{τ:DS}{M:MH}{Q:List PyData->MH->Prop}{ws:List W}(f:W->Option PyData)(hl:ws.length<=sizeLine)
  (step:∀ w∈ws,∀ P':Option PyData->Prop,P' (f w)->tt (some w :: fr.map λ j=>(τ[j]?).getD none) M λ b M3=>if b=true then te (some w :: fr.map λ j=>(τ[j]?).getD none) M3 λ y M4=>∃ d,y=.d d/\M4=M/\P' (some d) else M3=M/\P' none)
  (q:Q (ws.filterMap f) M):∃ P:Nat->List PyData->DS->MH->Prop,P 0 [] (lcSD 1 fr τ) M /\
   (∀ i w acc τ M,ws[i]? = some w->P i acc τ M->acc.length < sizeLine/\gN 0 w τ M λ τ2 M2=>tt τ2 M2 λ b M3=>if b=true then te τ2 M3 λ y M4=>∃ d,y=.d d/\P (i+1) (acc++[d]) τ2 M4 else P (i+1) acc τ2 M3) /\
   ∀ acc τ M,P ws.length acc τ M->Q acc M:=by
 let Pk:Nat->List PyData->DS->Prop:=λ i acc τ'=>i<=ws.length/\acc=(ws.take i).filterMap f/\∃ x,τ'=x :: fr.map λ j=>(τ[j]?).getD none
 refine ⟨λ i acc τ' M'=>M'=M/\Pk i acc τ',⟨rfl,Nat.zero_le _,rfl,none,rfl⟩,λ i w acc τ' M' hw hp=>?_,λ acc τ' M' hp=>?_⟩
 ·obtain ⟨rfl,hi,rfl,x,rfl⟩:=hp
  have hlt:i < ws.length:=(List.getElem?_eq_some_iff.mp hw).1
  refine ⟨?_,step w (List.mem_of_getElem? hw) (λ o=>match o with
   | some d=>Pk (i+1) ((ws.take i).filterMap f++[d]) (some w :: fr.map λ j=>(τ[j]?).getD none)
   | none=>Pk (i+1) ((ws.take i).filterMap f) (some w :: fr.map λ j=>(τ[j]?).getD none)) ?_⟩
  ·have h1:=List.length_filterMap_le f (ws.take i)
   rw [List.length_take] at h1
   omega
  ·cases e:f w with
   | some d=>exact ⟨hlt,by rw [take_fm hw,e]; rfl,_,rfl⟩
   | none=>exact ⟨hlt,by rw [take_fm hw,e]; simp,_,rfl⟩
 ·obtain ⟨rfl,hi,rfl,x,rfl⟩:=hp
  rw [List.take_of_length_le (Nat.le_refl _)]
  exact q
theorem lc_inv {tt:TTd}{te:TD}{fr:List Nat}{τ:DS}{M:MH}{Q:List PyData->MH->Prop}{ws:List W}(J:MH->Prop)(G:PyData->Prop)(hl:ws.length<=sizeLine)(j0:J M)
  (step:∀ w∈ws,∀ M',J M'->∀ P':Option PyData->MH->Prop,(∀ d M'',G d->J M''->P' (some d) M'')->(∀ M'',J M''->P' none M'') ->
   tt (some w :: fr.map λ j=>(τ[j]?).getD none) M' λ b M3=>if b=true then te (some w :: fr.map λ j=>(τ[j]?).getD none) M3 λ y M4=>∃ d,y=.d d/\P' (some d) M4 else P' none M3)
  (q:∀ acc M',J M'->(∀ d∈acc,G d)->acc.length<=ws.length->Q acc M'):∃ P:Nat->List PyData->DS->MH->Prop,P 0 [] (lcSD 1 fr τ) M /\
   (∀ i w acc τ M,ws[i]? = some w->P i acc τ M->acc.length < sizeLine/\gN 0 w τ M λ τ2 M2=>tt τ2 M2 λ b M3=>if b=true then te τ2 M3 λ y M4=>∃ d,y=.d d/\P (i+1) (acc++[d]) τ2 M4 else P (i+1) acc τ2 M3) /\
   ∀ acc τ M,P ws.length acc τ M->Q acc M:=by
 let Pk:Nat->List PyData->DS->MH->Prop:=λ i acc τ' M'=>acc.length<=i/\(∀ d∈acc,G d)/\J M'/\∃ x,τ'=x :: fr.map λ j=>(τ[j]?).getD none
 refine ⟨Pk,⟨Nat.le_refl _,λ d h=>(nomatch h),j0,none,rfl⟩,λ i w acc τ' M' hw hp=>?_,λ acc τ' M' hp=>?_⟩
 ·obtain ⟨hi,hg,hj,x,rfl⟩:=hp
  have hlt:i < ws.length:=(List.getElem?_eq_some_iff.mp hw).1
  refine ⟨by omega,step w (List.mem_of_getElem? hw) M' hj (λ o M2=>match o with
   | some d=>Pk (i+1) (acc++[d]) (some w :: fr.map λ j=>(τ[j]?).getD none) M2
   | none=>Pk (i+1) acc (some w :: fr.map λ j=>(τ[j]?).getD none) M2) (λ d M2 gd j2=>?_) λ M2 j2=>?_⟩
  ·refine ⟨by rw [List.length_append,List.length_singleton]; omega,λ d' hd'=>?_,j2,_,rfl⟩
   rcases List.mem_append.mp hd' with z | z
   ·exact hg d' z
   ·rw [List.mem_singleton.mp z]; exact gd
  ·exact ⟨by omega,hg,j2,_,rfl⟩
 ·obtain ⟨hi,hg,hj,x,rfl⟩:=hp
  exact q acc M' hj hg hi
theorem fm_map {α:Type}(g:α->W)(f:W->Option PyData)(h:α->PyData)(e:∀ a,f (g a)=some (h a))(l:List α):(l.map g).filterMap f=l.map h:=by
 induction l with
 | nil=>rfl
 | cons a l ih=>rw [List.map_cons,List.filterMap_cons,e,ih]; rfl
theorem read_l_bag:∀ ws M Q,sp_l_bag ws M Q->t_l_bag { nx:=λ _ M'=>Q (.d .none) M',rt:=Q } (startD N_l_bag ws) M:=by
 rintro ws M Q ⟨ns,rfl,hl,k⟩
 refine ⟨_,rfl,_,rfl,_,rfl,rfl,_,rfl,?_⟩
 have ec:cutD (ns.map PyData.int) none (some 63)=(cutD ns none (some 63)).map PyData.int:=by
  simp only [cutD,List.length_map,List.map_take,List.map_drop]
 have hlen:(cutD ns none (some 63)).length<=ns.length:=by
  simp only [cutD,List.length_take,List.length_drop]
  omega
 have h1000:(1000:Nat)<=sizeLine:=by rw [sizeLine_eq]; decide
 dsimp only
 refine lc_pure (λ w=>match w with
  | .d (.int n)=>some (.int (if n < 0 then -n else n))
  | _=>none) ?hl (λ w hw P' hp=>?_) ?_
 case hl=>rw [List.length_map,ec,List.length_map]; omega
 ·rw [ec,List.map_map] at hw
  obtain ⟨n,_,rfl⟩:=List.mem_map.mp hw
  exact ⟨_,rfl,_,rfl,_,rfl,rfl,hp⟩
 ·have e2:(List.map W.d (cutD (ns.map PyData.int) none (some 63))).filterMap (λ w=>match w with
    | .d (.int n)=>some (PyData.int (if n < 0 then -n else n))
    | _=>none)=((cutD ns none (some 63)).map λ n=>if n < 0 then -n else n).map PyData.int:=by
   rw [ec,List.map_map,fm_map (W.d ∘ PyData.int) _ (λ n=>PyData.int (if n < 0 then -n else n)) (λ n=>rfl),List.map_map]
   rfl
  rw [e2]
  refine ⟨by simp [sizeLine_eq],λ p hp=>k p _ hp (λ q hq=>updM_ne hq) ⟨0,1234567891,0,_,updM_same,Int.le_refl 0,by decide,by decide,Int.le_refl 0,λ n hn=>?_⟩⟩
  obtain ⟨m,_,rfl⟩:=List.mem_map.mp hn
  split <;> omega
theorem law_start {K:PySem.W.Frag}{H:Hp}{a:Addr}{ns:List Int}{sp:SpD}(hl:ns.length<=63)(hO:L2.Only H)(hS:L2.SqL K H a (ns.map V.int))(h:∀ ns:List Int,ns.length<=63->sp [.d (.list (ns.map PyData.int))] (λ _=>none) (λ w _=>w=.d (.bool true))) :
  upSp K sp [.ref a] H (λ v _=>v=.bl true) λ _ _ _=>False:=by
 refine ⟨[.d (.list (ns.map PyData.int))],λ _=>none,_,.cons ?_ .nil,λ a o z=>(nomatch z),h ns hl,λ v H' w M' kp r m q=>?_⟩
 ·simp only [RepW,RepD]
  refine ⟨a,_,rfl,?_,RepA.ints ns⟩
  rcases hS with (h | h) | h
  ·rcases hO a with z | ⟨ob,xs,z⟩
   ·rw [h] at z; cases z
   ·rw [h] at z; cases z
  ·exact .inl h
  ·exact .inr h
 ·subst q
  simp only [RepW,RepD] at r
  exact r
end D
namespace D
open PySem PySem.Spec PyProof.Rows L2
noncomputable def ascB (z:Str):Bool:=z.cps.all (· < 128)
mutual
noncomputable def big:PyData->Nat
 | .none=>4
 | .bool _=>5
 | .int _=>2000
 | .str z=>10 * z.length+2
 | .list ds=>bigA ds+2
 | .tuple ds=>bigA ds+3
 | .dict kvs=>bigK kvs+2
noncomputable def bigA:List PyData->Nat
 | []=>0
 | d :: ds=>big d+2+bigA ds
noncomputable def bigK:List (PyData×PyData)->Nat
 | []=>0
 | (k,d) :: ds=>big k+2+big d+2+bigK ds
end
mutual
noncomputable def fineD:PyData->Bool
 | .none=>true
 | .bool _=>true
 | .int i=>decide (i.natAbs.log2 < 1920)
 | .str z=>ascB z
 | .list ds=>fineA ds
 | .tuple ds=>fineA ds
 | .dict kvs=>fineK kvs
noncomputable def fineA:List PyData->Bool
 | []=>true
 | d :: ds=>fineD d && fineA ds
noncomputable def fineK:List (PyData×PyData)->Bool
 | []=>true
 | (k,d) :: ds=>fineD k && fineD d && fineK ds
end
theorem listText_le:∀ ts:List Str,(listText ts).length<=piled ts+2
 | []=>by decide +kernel
 | t :: r=>by
  have h:=textFrom_length_pos r 1 (("[" : Str)++(if (0:Nat) > 0 then ", " else "" : String)++t) (Nat.succ_pos 0)
  have e:((("[" : Str)++(if (0:Nat) > 0 then ", " else "" : String)++t)).length=1+t.length:=by
   rw [strLen_append,strLen_append]; rfl
  have hX:(listText (t :: r)).length=(textFrom 0 "[" (t :: r)).length+1:=by
   show (textFrom 0 "[" (t :: r) ++ "]").length=_
   rw [strLen_append]; rfl
  have h2:(textFrom 0 "[" (t :: r)).length=(1+t.length)+piled r:=by rw [<- e]; exact h
  have h3:piled (t :: r)=t.length+2+piled r:=by simp [piled]
  omega
theorem join_le (ts:List Str):(Str.join ", " ts).length<=piled ts:=by
 cases ts with
 | nil=>decide +kernel
 | cons t r=>have:=join_length_add (t :: r) (by simp); omega
theorem tupleText_le (ts:List Str):(tupleText ts).length<=piled ts+3:=by
 unfold tupleText
 rw [strLen_append,strLen_append]
 have e1:((("(" : String):Str)).length=1:=rfl
 have e3:(((if ts.length == 1 then ",)" else ")" : String):Str)).length<=2:=by split <;> decide
 have:=join_le ts
 omega
theorem dictText_le (ts:List Str):(dictText ts).length<=piled ts+2:=by
 unfold dictText
 rw [strLen_append,strLen_append]
 have e1:((("{" : String):Str)).length=1:=rfl
 have e2:((("}" : String):Str)).length=1:=rfl
 have:=join_le ts
 omega
theorem int_len {i:Int}(h:i.natAbs.log2 < 1920):(Str.ofString (toString i)).length<=2000:=by
 have e:=int_text_length_le (k:=1920) (by decide) h
 rw [PySem.ofString_length]; omega
theorem repr_len {z:Str}(h:ascB z=true):(reprText z).length<=10 * z.length+2:=StrLaws.reprText_len z λ c hc=>by
 have:=Array.all_eq_true_iff_forall_mem.mp h c (by simpa using hc)
 have h2:c < 128:=by simpa using this
 omega
mutual
theorem shown_le:∀ d:PyData,fineD d=true->d.shown.length<=big d
 | .none,_=>by rw [PyData.shown]; decide +kernel
 | .bool b,_=>by rw [PyData.shown]; cases b <;> decide +kernel
 | .int i,h=>by rw [PyData.shown]; exact int_len (by simpa [fineD] using h)
 | .str z,h=>by rw [PyData.shown,big]; exact repr_len (by simpa [fineD] using h)
 | .list ds,h=>by
  have h1:=shownA_le ds (by simpa [fineD] using h)
  have h2:=listText_le (PyData.shownAll ds)
  rw [PyData.shown,big]; omega
 | .tuple ds,h=>by
  have h1:=shownA_le ds (by simpa [fineD] using h)
  have h2:=tupleText_le (PyData.shownAll ds)
  rw [PyData.shown,big]; omega
 | .dict ds,h=>by
  have h1:=shownK_le ds (by simpa [fineD] using h)
  have h2:=dictText_le (PyData.shownKv ds)
  rw [PyData.shown,big]; omega
theorem shownA_le:∀ ds:List PyData,fineA ds=true->piled (PyData.shownAll ds)<=bigA ds
 | [],_=>by simp [PyData.shownAll,piled,bigA]
 | d :: ds,h=>by
  simp only [fineA,Bool.and_eq_true] at h
  have h1:=shown_le d h.1
  have h2:=shownA_le ds h.2
  simp only [PyData.shownAll,piled_cons,bigA]
  omega
theorem shownK_le:∀ ds:List (PyData×PyData),fineK ds=true->piled (PyData.shownKv ds)<=bigK ds
 | [],_=>by simp [PyData.shownKv,piled,bigK]
 | (k,d) :: ds,h=>by
  simp only [fineK,Bool.and_eq_true] at h
  have h1:=shown_le k h.1.1
  have h3:=shown_le d h.1.2
  have h2:=shownK_le ds h.2
  have e:((((": " : String):Str))).length=2:=rfl
  simp only [PyData.shownKv,piled_cons,bigK,strLen_append,e]
  omega
end
mutual
theorem fine_show:∀ d:PyData,fineD d=true->d.showable=true
 | .none,_=>by simp [PyData.showable]
 | .bool b,_=>by simp [PyData.showable]
 | .int i,h=>by simpa [PyData.showable,fineD] using h
 | .str z,h=>by simp [PyData.showable]
 | .list ds,h=>by simpa [PyData.showable] using fine_showA ds (by simpa [fineD] using h)
 | .tuple ds,h=>by simpa [PyData.showable] using fine_showA ds (by simpa [fineD] using h)
 | .dict ds,h=>by simpa [PyData.showable] using fine_showK ds (by simpa [fineD] using h)
theorem fine_showA:∀ ds:List PyData,fineA ds=true->PyData.showableAll ds=true
 | [],_=>by simp [PyData.showableAll]
 | d :: ds,h=>by
  simp only [fineA,Bool.and_eq_true] at h
  simp [PyData.showableAll,fine_show d h.1,fine_showA ds h.2]
theorem fine_showK:∀ ds:List (PyData×PyData),fineK ds=true->PyData.showableKv ds=true
 | [],_=>by simp [PyData.showableKv]
 | (k,d) :: ds,h=>by
  simp only [fineK,Bool.and_eq_true] at h
  simp [PyData.showableKv,fine_show k h.1.1,fine_show d h.1.2,fine_showK ds h.2]
end
theorem s16:(1000000:Nat)<=sizeLine:=by rw [sizeLine_eq]; decide
theorem repr_ok {d:PyData}(h:fineD d=true)(hb:big d<=1000000)(hd:d.depth<=60)(hk:d.hasDict=false):reprOk d=true:=by
 have h1:=fine_show d h
 have h2:=shown_le d h
 have h3:=s16
 simp only [reprOk,h1,Bool.true_and,Bool.and_eq_true,decide_eq_true_eq,Bool.or_eq_true,Bool.not_eq_true']
 exact ⟨⟨by omega,hd⟩,.inl hk⟩
end D
namespace D
open PySem PySem.Spec PyProof.Rows L2
noncomputable def Asc (z:Str):Prop:=∀ c∈z.cps.toList,c < 128
theorem str_len (z:Str):z.cps.toList.length=z.length:=by simp [Str.length]
theorem asc_app {x y:Str}(hx:Asc x)(hy:Asc y):Asc (x++y):=by
 intro c hc
 have e:(x++y).cps.toList=x.cps.toList++y.cps.toList:=by show (x.cps++y.cps).toList=_; simp
 rw [e] at hc
 rcases List.mem_append.mp hc with h | h
 ·exact hx c h
 ·exact hy c h
theorem asc_slice {z:Str}(h:Asc z)(lo hi:Option Int):Asc (Txt.slice z lo hi):=by
 unfold Txt.slice
 split
 ·exact h
 ·intro c hc
  have hc':c∈(Builtin.Str.strSliceIndices lo hi 1 z.length).filterMap (z.cps[·]?):=by simpa using hc
  obtain ⟨i,_,e⟩:=List.mem_filterMap.mp hc'
  exact h c (by simpa using Array.mem_of_getElem? e)
theorem glue_fold (g:Array Nat)(hg:∀ c∈g.toList,c < 128):∀ (l:List Str) (acc:Array Nat),(∀ c∈acc.toList,c < 128)->(∀ p∈l,Asc p) ->
  (∀ c∈(l.foldl (λ acc p=>acc++g++p.cps) acc).toList,c < 128)/\(l.foldl (λ acc p=>acc++g++p.cps) acc).size=acc.size+(l.map λ p=>g.size+p.length).sum
 | [],acc,ha,_=>⟨ha,by simp⟩
 | p :: l,acc,ha,hl=>by
  have h:=glue_fold g hg l (acc++g++p.cps) (λ c hc=>by
   simp only [Array.toList_append,List.mem_append] at hc
   rcases hc with (h | h) | h
   ·exact ha c h
   ·exact hg c h
   ·exact hl p List.mem_cons_self c h) λ q hq=>hl q (List.mem_cons_of_mem _ hq)
  refine ⟨h.1,?_⟩
  rw [List.foldl_cons,h.2]
  simp only [Array.size_append,List.map_cons,List.sum_cons,Str.length]
  omega
theorem join_asc {sep:Str}{ys:List Str}(hs:Asc sep)(hy:∀ y∈ys,Asc y):Asc (Txt.join sep ys)/\(Txt.join sep ys).length<=(ys.map λ p=>sep.length+p.length).sum:=by
 cases ys with
 | nil=>exact ⟨λ c hc=>by simp [Txt.join,Builtin.Str.glued,Str.empty] at hc,by simp [Txt.join,Builtin.Str.glued,Str.empty,Str.length]⟩
 | cons y ys =>
  have h:=glue_fold sep.cps hs ys y.cps (hy y List.mem_cons_self) λ p hp=>hy p (List.mem_cons_of_mem _ hp)
  refine ⟨h.1,?_⟩
  show (ys.foldl (λ acc p=>acc++sep.cps++p.cps) y.cps).size<=_
  rw [h.2]
  simp only [List.map_cons,List.sum_cons,Str.length]
  omega
theorem sum_le {l:List Str}{n:Nat}(h:∀ y∈l,y.length<=n)(k:Nat):(l.map λ p=>k+p.length).sum<=l.length * (k+n):=by
 induction l with
 | nil=>simp
 | cons y l ih =>
  have h1:=h y List.mem_cons_self
  have h2:=ih λ z hz=>h z (List.mem_cons_of_mem _ hz)
  simp only [List.map_cons,List.sum_cons,List.length_cons,Nat.add_mul,Nat.one_mul]
  omega
noncomputable def Tx (n:Nat)(d:PyData):Prop:=∃ z:Str,d=.str z/\z.length<=n/\Asc z
theorem tx_list {n:Nat}:∀ {ds:List PyData},(∀ d∈ds,Tx n d)->∃ ys:List Str,ds=ys.map PyData.str/\∀ y∈ys,y.length<=n/\Asc y
 | [],_=>⟨[],rfl,λ y h=>(nomatch h)⟩
 | d :: ds,h=>by
  obtain ⟨z,e,h1,h2⟩:=h d List.mem_cons_self
  obtain ⟨ys,e2,h3⟩:=tx_list λ d' hd'=>h d' (List.mem_cons_of_mem _ hd')
  refine ⟨z :: ys,by rw [e,e2]; rfl,λ y hy=>?_⟩
  rcases List.mem_cons.mp hy with rfl | hy
  ·exact ⟨h1,h2⟩
  ·exact h3 y hy
theorem asc_dec {z:Str}(h:z.cps.all (· < 128)=true):Asc z:=by
 intro c hc
 have:=Array.all_eq_true_iff_forall_mem.mp h c (by simpa using hc)
 simpa using this
theorem asc_one {z:Str}{c:Nat}(h:Asc z)(hc:c∈z.cps.toList):Asc ⟨#[c]⟩:=by
 intro d hd
 have:d=c:=by simpa using hd
 rw [this]
 exact h c hc
theorem ix_str_at {M:MH}{z:Str}{r:Int}(h0:0<=r)(h1:r < z.length):∃ c,ixW M (.d (.str z)) r=some (.d (.str ⟨#[c]⟩))/\c∈z.cps.toList:=by
 have hl:r < (z.cps.toList.length:Nat):=by rw [str_len]; exact h1
 refine ⟨z.cps.toList[r.toNat]'(by omega),?_,List.getElem_mem _⟩
 simp only [ixW]
 rw [atI_nn h0 hl]
 rfl
noncomputable abbrev alphaS:Str := "abcdefghijklmnopqrstuvwxyz"
theorem alphaL:alphaS.length=26:=by decide +kernel
theorem alphaA:Asc alphaS:=asc_dec (by decide +kernel)
theorem asc_b {z:Str}(h:Asc z):ascB z=true:=by
 unfold ascB
 rw [Array.all_eq_true_iff_forall_mem]
 intro c hc
 exact decide_eq_true (h c (by simpa using hc))
theorem log2_small {n:Nat}(h:n < 2 ^ 100):n.log2 < 1920:=by
 by_cases h0:n=0
 ·subst h0; decide
 ·exact Nat.lt_of_lt_of_le ((Nat.log2_lt h0).mpr h) (by decide)
theorem few {n:Nat}(h:n<=1000):n<=sizeLine:=by have:=s16; omega
end D
namespace D
open PySem PySem.Spec PyProof.Rows L2
section
variable {X:Cx}{pins:List (Addr×Obj)}{σ:St}{H H0:Hp}{s s0:Shared}
theorem Inv.swap {a:Addr}{u u':HO}(I:Inv X pins σ H s)(h:H a=some u)(n1:∀ xs,u ≠ .tup xs)(n2:∀ x,u ≠ .own x)(b1:∀ xs,X.H₀ a≠some (.tup xs))(b2:∀ o v,X.H₀ a≠some (.frz o v))(b3:∀ ps,X.H₀ a≠some (.tbl ps))
  (new:ObjOk X.prog X.w (upd H a u') s.heap a u'):Inv X pins σ (upd H a u') s:=by
 have nn:∀ b,H b=none->b≠a:=λ b e z=>by rw [z,h] at e; cases e
 refine ⟨I.ok,I.os,I.bare,⟨I.base.keep,I.base.slot,λ b ob q n x=>?_,I.base.there,λ b xs q=>?_,λ b ob v q=>?_,λ b ps q=>?_⟩,I.loc,I.cell,?_,λ x c q=>?_,λ p hp=>?_,λ b v q=>?_,I.len⟩
 ·have:=I.base.free b ob q n x
  rw [upd_ne (nn b this)]; exact this
 ·rw [upd_ne (λ z:b=a=>b1 xs (by rw [<- z]; exact q))]; exact I.base.tups b xs q
 ·rw [upd_ne (λ z:b=a=>b2 ob v (by rw [<- z]; exact q))]; exact I.base.frzs b ob v q
 ·rw [upd_ne (λ z:b=a=>b3 ps (by rw [<- z]; exact q))]; exact I.base.tbls b ps q
 ·rw [upd_ne (nn _ I.free)]; exact I.free
 ·have:=I.freeC x c q
  rw [upd_ne (nn c this)]; exact this
 ·obtain ⟨p1,p2,p3⟩:=I.pin p hp
  exact ⟨p1,by rw [upd_ne (nn _ p2)]; exact p2,p3⟩
 ·by_cases hb:b=a
  ·subst hb
   rw [upd_same] at q
   cases q
   exact new
  ·rw [upd_ne hb] at q
   refine (I.hok b v q).stay (λ _ _ _ q=>q) (λ c r=>?_) λ c xs r=>?_
   ·rw [upd_ne (λ z=>by rw [z,h] at r; exact n2 _ (Option.some.inj r))]; exact r
   ·rw [upd_ne (λ z=>by rw [z,h] at r; exact n1 _ (Option.some.inj r))]; exact r
theorem base_of {a:Addr}{l:List (Key×V)}(I:Inv X pins σ H s)(h:H a=some (.dK l)):(∀ xs,X.H₀ a≠some (.tup xs))/\(∀ o v,X.H₀ a≠some (.frz o v))/\∀ ps,X.H₀ a≠some (.tbl ps):=by
 refine ⟨λ xs e=>?_,λ o v e=>?_,λ ps e=>?_⟩
 ·have:=I.base.tups a xs e; rw [h] at this; cases this
 ·have:=I.base.frzs a o v e; rw [h] at this; cases this
 ·obtain ⟨m,this⟩:=I.base.tbls a ps e; rw [h] at this; cases this
theorem Inv.again {σ0:St}{a:Addr}{o:Obj}{l:List (Key×V)}(I0:Inv X pins σ0 H0 s0)(h0:H0 a=some (.dK l))(I:Inv X pins σ H s)(h:H a=some (.frz o (.frz o (.dK l)))):Inv X pins σ (upd H a (.dK l)) s:=by
 have f:Fz (.dK l):=trivial
 obtain ⟨b1,b2,b3⟩:=base_of I0 h0
 exact Inv.swap I h (λ _ z=>nomatch z) (λ _ z=>nomatch z) b1 b2 b3 ((I.hok a _ h).2.2.anyH f)
end
section
variable {K:PySem.W.Frag}{H:Hp}{a:Addr}{o:Obj}{l:List (Key×V)}
theorem Kp.back (h:H a=some (.frz o (.frz o (.dK l)))):(∀ b xs,H b=some (.tup xs)->upd H a (.dK l) b=some (.tup xs))/\(∀ b ob ys,H b=some (.frz ob (.lst ys))->upd H a (.dK l) b=some (.frz ob (.lst ys)))/\∀ b ob ys,H b=some (.frz ob (.dK ys))->upd H a (.dK l) b=some (.frz ob (.dK ys)):=by
 refine ⟨λ b xs e=>?_,λ b ob ys e=>?_,λ b ob ys e=>?_⟩ <;>
 ·rw [upd_ne (λ z=>by rw [z,h] at e; cases e)]; exact e
theorem SqT.back {b:Addr}{vs:List V}(h:H a=some (.frz o (.frz o (.dK l))))(r:SqT K H b vs):SqT K (upd H a (.dK l)) b vs:=by
 rcases r with (r | ⟨ob,r⟩) | r
 ·exact .inl (.inl ((Kp.back h).1 _ _ r))
 ·refine .inl (.inr ⟨ob,?_⟩)
  rw [upd_ne (λ z=>by rw [z,h] at r; cases r)]; exact r
 ·exact .inr r
theorem SqF.back {b:Addr}{vs:List V}(h:H a=some (.frz o (.frz o (.dK l))))(r:SqF K H b vs):SqF K (upd H a (.dK l)) b vs:=by
 rcases r with ⟨ob,r⟩ | r
 ·exact .inl ⟨ob,(Kp.back h).2.1 _ _ _ r⟩
 ·exact .inr r
mutual
theorem RepD.back (h:H a=some (.frz o (.frz o (.dK l)))):∀ {d:PyData} {v:V},RepD K H d v->RepD K (upd H a (.dK l)) d v
 | .none,v,r=>by simp only [RepD] at r ⊢; exact r
 | .bool b,v,r=>by simp only [RepD] at r ⊢; exact r
 | .int i,v,r=>by simp only [RepD] at r ⊢; exact r
 | .str x,v,r=>by simp only [RepD] at r ⊢; exact r
 | .list ds,v,r=>by
  simp only [RepD] at r ⊢
  obtain ⟨b,vs,e,q,r⟩:=r
  exact ⟨b,vs,e,SqF.back h q,RepA.back h r⟩
 | .tuple ds,v,r=>by
  simp only [RepD] at r ⊢
  obtain ⟨b,vs,e,q,r⟩:=r
  exact ⟨b,vs,e,SqT.back h q,RepA.back h r⟩
 | .dict kvs,v,r=>by
  simp only [RepD] at r ⊢
  obtain ⟨b,ob,m,e,q,r⟩:=r
  exact ⟨b,ob,m,e,(Kp.back h).2.2 _ _ _ q,RepK.back h r⟩
theorem RepA.back (h:H a=some (.frz o (.frz o (.dK l)))):∀ {ds:List PyData} {vs:List V},RepA K H ds vs->RepA K (upd H a (.dK l)) ds vs
 | [],vs,r=>by simp only [RepA] at r ⊢; exact r
 | d :: ds,vs,r=>by
  simp only [RepA] at r ⊢
  obtain ⟨v,q,e,h1,h2⟩:=r
  exact ⟨v,q,e,RepD.back h h1,RepA.back h h2⟩
theorem RepK.back (h:H a=some (.frz o (.frz o (.dK l)))):∀ {ds:List (PyData×PyData)} {m:List (Key×V)},RepK K H ds m->RepK K (upd H a (.dK l)) ds m
 | [],m,r=>by simp only [RepK] at r ⊢; exact r
 | (key,d) :: ds,m,r=>by
  simp only [RepK] at r ⊢
  obtain ⟨k',v,q,e,ek,h1,h2⟩:=r
  exact ⟨k',v,q,e,ek,RepD.back h h1,RepK.back h h2⟩
end
theorem RepW.back (h:H a=some (.frz o (.frz o (.dK l)))):∀ {w:W} {v:V},RepW K H w v->RepW K (upd H a (.dK l)) w v
 | .d _,_,r=>RepD.back h r
 | .m _,_,r=>r
 | .t _,_,r=>r
theorem MAbs.back {M:MH}{kvs:List (Key×W)}(h:H a=some (.frz o (.frz o (.dK l))))(m:MAbs K H M)(e:M a=some (.fdic kvs)):MAbs K (upd H a (.dK l)) (updM M a (.dic kvs)):=λ b mo q=>by
 by_cases hb:b=a
 ·subst hb
  rw [updM_same] at q
  cases q
  obtain ⟨o',l',e',pr⟩:=m _ _ e
  rw [h] at e'
  cases e'
  exact ⟨l,upd_same,Paired.mapP pr λ p q z=>⟨z.1,RepW.back h z.2⟩⟩
 ·rw [updM_ne hb] at q
  have r:=m b mo q
  cases mo with
  | lst ws=>obtain ⟨vs,e,r⟩:=r; exact ⟨vs,by rw [upd_ne hb]; exact e,Paired.mapP r λ _ _ z=>RepW.back h z⟩
  | dic kvs=>obtain ⟨l,e,r⟩:=r; exact ⟨l,by rw [upd_ne hb]; exact e,Paired.mapP r λ p q z=>⟨z.1,RepW.back h z.2⟩⟩
  | dct kvs=>obtain ⟨l,e,r⟩:=r; exact ⟨l,by rw [upd_ne hb]; exact e,Paired.mapP r λ p q z=>⟨z.1,RepW.back h z.2⟩⟩
  | fdic kvs=>obtain ⟨o,l,e,r⟩:=r; exact ⟨o,l,by rw [upd_ne hb]; exact e,Paired.mapP r λ p q z=>⟨z.1,RepW.back h z.2⟩⟩
  | ins C fs=>obtain ⟨dx,l,e,r⟩:=r; exact ⟨dx,l,by rw [upd_ne hb]; exact e,Paired.mapP r λ p q z=>⟨z.1,RepW.back h z.2⟩⟩
  | tup ws=>obtain ⟨vs,e,r⟩:=r; exact ⟨vs,by rw [upd_ne hb]; exact e,Paired.mapP r λ _ _ z=>RepW.back h z⟩
  | flst ws=>obtain ⟨o,vs,e,r⟩:=r; exact ⟨o,vs,by rw [upd_ne hb]; exact e,Paired.mapP r λ _ _ z=>RepW.back h z⟩
  | exc C fs =>
   obtain ⟨φ,dct,e,p,r⟩:=r
   refine ⟨φ,dct,by rw [upd_ne hb]; exact e,p,?_⟩
   rcases r with r | ⟨dx,o',l',e1,e2,r⟩
   ·exact .inl r
   ·exact .inr ⟨dx,o',l',e1,by rw [upd_ne (λ z=>by rw [z,h] at e2; cases e2)]; exact e2,Paired.mapP r λ p q z=>⟨z.1,RepW.back h z.2⟩⟩
  | code q pos =>
   obtain ⟨ps,e,ht,hc⟩:=r
   refine ⟨ps,by rw [upd_ne hb]; exact e,ht,?_⟩
   rcases hc with hc | ⟨c,o',vs,t,e1,e2,e3⟩
   ·exact .inl hc
   ·exact .inr ⟨c,o',vs,t,e1,by rw [upd_ne (λ z=>by rw [z,h] at e2; cases e2)]; exact e2,e3⟩
end
end D
namespace D
open PySem PySem.Spec PyProof.Rows L2
section
variable {X:Cx}{pins:List (Addr×Obj)}{σ:St}{H:Hp}{s:Shared}
theorem Inv.trackT {D:Addr}{ys:List V}{us:List Value}{n:Nat}(I:Inv X pins σ H s)(e:s.heap.get? D=some { cls:=.type "tuple",data:=.seq us.toArray n })(hn:H D=none)(hv:Vals ys us)(hz:ys.length<=sizeLine)
  (h0:D∈X.ex\/X.s₀.heap.objs.size<=D)(hL:D≠X.env.locals)(hc:∀ x c,X.env.cells.lookup x=some c->c≠D)(hp:∀ p∈X.pn++pins,p.1≠D):Inv X pins σ (upd H D (.tup ys)) s:=by
 have ne:∀ b u,H b=some u->b≠D:=λ b u q=>ne_of_none q hn
 refine I.step (h':=s.heap) (g':=s.gens) (d':=s.drawn) (t':=s.toks) (ch:=[D]) (λ b hb=>?_) (λ b o _ _ _ q _=>q) (λ b o _ _ _ q _=>⟨o.slots,q⟩) (λ b o hb q n=>?_) (λ b o _ q=>⟨o,q⟩)
  (λ b xs q=>by rw [upd_ne (ne b _ q)]; exact q) (λ b o u q=>by rw [upd_ne (ne b _ q)]; exact q) (λ b ps q=>⟨#[],by rw [upd_ne (ne b _ q),q]; simp⟩) (λ m hm=>hm) (λ b u q=>?_) I.bare
 ·have e:b=D:=by simpa using hb
  subst e
  exact ⟨h0,hL,hc,hp⟩
 ·rw [upd_ne (λ z=>hb (by simp [z]))]; exact n
 ·by_cases hb:b=D
  ·subst hb
   rw [upd_same] at q
   cases q
   exact ⟨hz,us,hv,⟨_,e,rfl,rfl,n,rfl⟩⟩
  ·rw [upd_ne hb] at q
   exact (I.hok b u q).stay (λ _ _ _ q=>q) (λ c r=>by rw [upd_ne (ne c _ r)]; exact r) λ c xs r=>by rw [upd_ne (ne c _ r)]; exact r
end
section
variable {X:Cx}{tg o:Expr}{apos cpos:Pos}{td:TE}
end
section
variable {X:Cx}{K:PySem.W.Frag}{tg o:Expr}{apos cpos:Pos}{td:TD}
noncomputable def dataKV (kds:List (Key×PyData)):List (Key×W):=kds.map λ p=>(p.1,.d p.2)
end
theorem vals_strs:∀ {zs:List Str} {its:List Value},StrsAre its zs->Vals (zs.map V.str) its
 | _,_,.nil=>.nil
 | _,_,.cons y t h=>.cons ⟨t,rfl⟩ (vals_strs h)
theorem bb_sorted:bootBuiltins "sorted" = some (.builtin "sorted"):=by decide +kernel
section
variable {X:Cx}{K:PySem.W.Frag}
theorem reps_strs {H:Hp}:∀ (zs:List Str),RepWs K H (strsW zs) (zs.map V.str)
 | []=>.nil
 | z :: zs=>.cons (by simp [RepW,RepD]) (reps_strs zs)
end
end D
namespace D
open PySem PySem.Spec PyProof.Rows L2
section
variable {X:Cx}{K:PySem.W.Frag}
theorem call_isiT:CallR X (.builtin "isinstance") (λ xs H Q=>∃ x d T,xs=[x,.ty T]/\RepT X.K H d x/\Ty6 T/\Q (.bl (isiD d T)) H):=by
 intro pins s σ H xs us Q I r h
 obtain ⟨x,d,T,rfl,rd,h6,q⟩:=h
 rcases rd with rd | ⟨a,vs,ds,rfl,rfl,ha,ra⟩
 ·exact call_isiD pins s σ H _ us Q I r ⟨x,d,T,rfl,rd,h6,q⟩
 obtain ⟨u,w',rfl,rx,ry⟩:=vals2 r
 cases (show w'=Value.type T from ry)
 have e:=isi_kit (K:=X.K) (.list ds) h6
 have fin:∀ tk,EP X pins σ Q (.bool (isiD (.list ds) T)) { s with toks:=tk }:=λ tk=>⟨.bl _,H,I.tok _,rfl,q⟩
 generalize isiD (.list ds) T=b at e fin
 cases (show u=Value.ref a from rx)
 obtain ⟨its,rv,⟨o,n,e1,e2,e3,e4⟩,hz⟩:=I.list (.inl (.inl ha))
 exact PySem.W.kia_one PySem.W.kitx_list I.kIn ⟨_,e1,e2⟩ e (λ z=>nomatch z) fin
noncomputable def rdIsiT (ws:List W)(M:MH)(Q:QD):Prop:=∃ w d T,ws=[w,.t T]/\DatW M w d/\Ty6 T/\Q (.d (.bool (isiD d T))) M
theorem cd_isiT:CallD K (λ xs H Q=>∃ x d T,xs=[x,.ty T]/\RepT K H d x/\Ty6 T/\Q (.bl (isiD d T)) H) rdIsiT:=by
 intro vs H ws M Qd Q r m ⟨w,d,T,e,g,h6,q⟩ k
 subst e
 obtain ⟨v,v',e1,r1,r2⟩:=repWs2 r
 simp only [RepW] at r2
 subst r2
 exact ⟨v,d,T,e1,g.sound r1 m,h6,k _ H (.d (.bool _)) M (Kp.refl H) (by simp [RepW,RepD]) m q⟩
end
end D
namespace D
open PySem PySem.Spec PyProof.Rows L2
namespace Q
section
variable {X:Cx}{pins:List (Addr×Obj)}{σ:St}{H H0:Hp}{s s0:Shared}
end
section
variable {K:PySem.W.Frag}{H:Hp}{a:Addr}{o:Obj}{l:List (Key×V)}
end
section
variable {X:Cx}{pins:List (Addr×Obj)}{σ:St}{H:Hp}{s:Shared}
end
section
variable {X:Cx}{tg o:Expr}{apos cpos:Pos}{td:TE}
end
section
variable {X:Cx}{K:PySem.W.Frag}{tg o:Expr}{apos cpos:Pos}{td:TD}
end
section
variable {X:Cx}{K:PySem.W.Frag}
end
section
variable {X:Cx}{K:PySem.W.Frag}
end
end Q
end D
namespace S
open PySem PySem.W PyProof.Rows
noncomputable def go {α:Type}(lt:Nat->Nat->Bool):KasT α->α
 | .ret a=>a
 | .ask i j k=>go lt (k (lt i j))
theorem go_bind {α β:Type}(lt:Nat->Nat->Bool)(f:α->KasT β):∀ t:KasT α,go lt (t.bind f)=go lt (f (go lt t))
 | .ret _=>rfl
 | .ask i j k=>go_bind lt f (k (lt i j))
structure Weak (lt:Nat->Nat->Bool):Prop where
 asym:∀ a b,lt a b=true->lt b a=false
 tr:∀ a b c,lt b a=false->lt c b=false->lt c a=false
section
variable {lt:Nat->Nat->Bool}
theorem Weak.irr (h:Weak lt)(a:Nat):lt a a=false:=by
 cases e:lt a a with
 | false=>rfl
 | true=>have:=h.asym a a e; rw [e] at this; cases this
theorem Weak.ltle (h:Weak lt){a b c:Nat}(h1:lt a b=true)(h2:lt c b=false):lt a c=true:=by
 cases e:lt a c with
 | true=>rfl
 | false =>
  have:=h.tr b c a h2 e
  rw [h1] at this
  cases this
theorem Weak.lelt (h:Weak lt){a b c:Nat}(h1:lt b a=false)(h2:lt b c=true):lt a c=true:=by
 cases e:lt a c with
 | true=>rfl
 | false =>
  have:=h.tr c a b e h1
  rw [h2] at this
  cases this
noncomputable def B (lt:Nat->Nat->Bool)(a b:Nat):Prop:=lt a b=true\/(lt a b=false/\lt b a=false/\a < b)
theorem B.of_le {a b:Nat}(h:lt b a=false)(h2:a < b):B lt a b:=by
 cases e:lt a b with
 | true=>exact .inl e
 | false=>exact .inr ⟨e,h,h2⟩
theorem B.le (h:Weak lt){a b:Nat}(q:B lt a b):lt b a=false:=by
 rcases q with q | q
 ·exact h.asym _ _ q
 ·exact q.2.1
theorem B.tr (h:Weak lt){a b c:Nat}(q:B lt a b)(r:B lt b c):B lt a c:=by
 rcases q with q | ⟨q1,q2,q3⟩
 ·rcases r with r | ⟨r1,r2,r3⟩
  ·exact .inl (h.ltle q (h.asym _ _ r))
  ·exact .inl (h.ltle q r2)
 ·rcases r with r | ⟨r1,r2,r3⟩
  ·exact .inl (h.lelt q2 r)
  ·exact .inr ⟨h.tr _ _ _ r1 q1,h.tr _ _ _ q2 r2,by omega⟩
noncomputable abbrev g (p:Array Nat)(i:Nat):Nat:=p.getD i 0
theorem g_eq (p:Array Nat)(i:Nat):g p i=(p[i]?).getD 0:=by simp [g]
theorem g_rev {p:Array Nat}{i j:Nat}(hj:j<=p.size)(k:Nat):g (kas_rev p i j) k=if i<=k/\k < j then g p (i+j - 1 - k) else g p k:=by
 rw [g_eq,g_eq,g_eq]
 unfold kas_rev
 rw [getElem?_mirror_all hj k]
 split <;> rfl
theorem g_bub {p:Array Nat}{k d:Nat}(hk:k < p.size)(hd:d<=k)(i:Nat):g (bubble p k d) i=if i=k - d then g p k else if k - d < i/\i<=k then g p (i - 1) else g p i:=by
 rw [g_eq,g_eq,g_eq,g_eq,getElem?_bubble hk d hd i]
 split
 ·rfl
 ·split <;> rfl
structure Un (p:Array Nat)(N n:Nat):Prop where
 size:p.size=N
 lo:∀ i,i < n->g p i < n
 hi:∀ i,n<=i->i < N->g p i=i
theorem Un.rev {p:Array Nat}{N n i j:Nat}(u:Un p N n)(hj:j<=n)(hn:n<=N):Un (kas_rev p i j) N n:=by
 have hs:=u.size
 refine ⟨(mirror_size _ _ _ _).trans u.size,λ k hk=>?_,λ k hk hk2=>?_⟩
 ·rw [g_rev (by omega)]
  split
  ·exact u.lo _ (by omega)
  ·exact u.lo _ hk
 ·rw [g_rev (by omega),if_neg (by omega)]
  exact u.hi k hk hk2
theorem Un.up {p:Array Nat}{N n m:Nat}(u:Un p N n)(h:n<=m)(hm:m<=N):Un p N m:=by
 refine ⟨u.size,λ k hk=>?_,λ k hk hk2=>u.hi k (by omega) hk2⟩
 by_cases z:k < n
 ·have:=u.lo k z; omega
 ·have:=u.hi k (by omega) (by omega)
  omega
theorem perm_rev {p:Array Nat}{i j:Nat}{l:List Nat}(h:p.toList.Perm l):(kas_rev p i j).toList.Perm l:=(Array.perm_iff_toList_perm.mp (mirror_perm p i j _)).trans h
noncomputable def Up (lt:Nat->Nat->Bool)(p:Array Nat)(n:Nat):Prop:=∀ i j,i < j->j < n->B lt (g p i) (g p j)
noncomputable def Dn (lt:Nat->Nat->Bool)(p:Array Nat)(n:Nat):Prop:=∀ i j,i < j->j < n->B lt (g p j) (g p i)
theorem Up.succ (h:Weak lt){p:Array Nat}{n:Nat}(u:Up lt p n)(q:0 < n->B lt (g p (n - 1)) (g p n)):Up lt p (n+1):=by
 intro i j hij hj
 by_cases e:j < n
 ·exact u i j hij e
 ·have e:j=n:=by omega
  subst e
  have q:=q (by omega)
  by_cases z:i=j - 1
  ·rw [z]; exact q
  ·exact (u i (j - 1) (by omega) (by omega)).tr h q
theorem asc_ok (h:Weak lt){p:Array Nat}{N:Nat}:∀ (f n:Nat),n+f<=N->1<=n->Un p N n->Up lt p n ->
  n<=go lt (kas_asc p f n)/\go lt (kas_asc p f n)<=n+f/\Un p N (go lt (kas_asc p f n))/\Up lt p (go lt (kas_asc p f n))/\(go lt (kas_asc p f n) < n+f->lt (g p (go lt (kas_asc p f n))) (g p (go lt (kas_asc p f n) - 1))=true)
 | 0,n,hf,h1,u,q=>⟨Nat.le_refl _,Nat.le_refl _,u,q,λ z=>absurd z (Nat.lt_irrefl _)⟩
 | f+1,n,hf,h1,u,q=>by
  simp only [kas_asc,go]
  cases e:lt (p.getD n 0) (p.getD (n - 1) 0) with
  | true=>exact ⟨Nat.le_refl _,by simp [go],u,q,λ _=>e⟩
  | false =>
   have hb:B lt (g p (n - 1)) (g p n):=B.of_le e (by have:=u.lo (n - 1) (by omega); have:=u.hi n (Nat.le_refl _) (by omega); omega)
   have r:=asc_ok h (p:=p) (N:=N) f (n+1) (by omega) (by omega) (u.up (by omega) (by omega)) (q.succ h λ _=>hb)
   simp only [Bool.false_eq_true,if_false]
   have e2:n+1+f=n+(f+1):=by omega
   rw [e2] at r
   exact ⟨by have:=r.1; omega,r.2⟩
structure Fall (lt:Nat->Nat->Bool)(p:Array Nat)(n q:Nat):Prop where
 q1:q+1<=n
 dn:∀ i j,i < j->j < n - 1 - q->B lt (g p j) (g p i)
 cr:∀ i j,i < n - 1 - q->n - 1 - q<=j->j < n->lt (g p j) (g p i)=true
 bl:∀ i j,n - 1 - q<=i->i < j->j < n->B lt (g p i) (g p j)/\lt (g p i) (g p j)=false
theorem Fall.dnAll {p:Array Nat}{n:Nat}(x:Fall lt p n 0):Dn lt p n:=λ i j hij hj=>by
 have:=x.q1
 by_cases e:j < n - 1 - 0
 ·exact x.dn i j hij e
 ·exact .inl (x.cr i j (by omega) (by omega) hj)
theorem Fall.rev {p:Array Nat}{n q N:Nat}(x:Fall lt p n q)(hN:n<=p.size):Dn lt (kas_rev p (n - (q+1)) n) n:=λ i j hij hj=>by
 have:=x.q1
 rw [g_rev hN,g_rev hN]
 by_cases e1:n - (q+1)<=i/\i < n
 ·rw [if_pos e1,if_pos ⟨by omega,hj⟩]
  exact (x.bl _ _ (by omega) (by omega) (by omega)).1
 ·rw [if_neg e1]
  by_cases e2:n - (q+1)<=j/\j < n
  ·rw [if_pos e2]
   exact .inl (x.cr _ _ (by omega) (by omega) (by omega))
  ·rw [if_neg e2]
   exact x.dn i j hij (by omega)
theorem Dn.fall (h:Weak lt){p:Array Nat}{n:Nat}(h1:1<=n)(x:Dn lt p n)(q:lt (g p n) (g p (n - 1))=true):Fall lt p (n+1) 0:=by
 refine ⟨by omega,λ i j hij hj=>x i j hij (by omega),λ i j hi hj hj2=>?_,λ i j hi hij hj=>by omega⟩
 have e:j=n:=by omega
 subst e
 by_cases z:i=j - 1
 ·rw [z]; exact q
 ·exact h.ltle q ((x i (j - 1) (by omega) (by omega)).le h)
theorem desc_ok (h:Weak lt){N:Nat}:∀ (f:Nat) (p:Array Nat) (n q:Nat),n+f<=N->Un p N n->p.toList.Perm (List.range N)->Fall lt p n q ->
  n<=(go lt (kas_desc f p n q)).2.1/\(go lt (kas_desc f p n q)).2.1<=n+f/\Un (go lt (kas_desc f p n q)).1 N (go lt (kas_desc f p n q)).2.1/\(go lt (kas_desc f p n q)).1.toList.Perm (List.range N)/\Fall lt (go lt (kas_desc f p n q)).1 (go lt (kas_desc f p n q)).2.1 (go lt (kas_desc f p n q)).2.2
 | 0,p,n,q,hf,u,hp,x=>⟨Nat.le_refl _,Nat.le_refl _,u,hp,x⟩
 | f+1,p,n,q,hf,u,hp,x=>by
  have hs:=u.size
  have hq1:=x.q1
  simp only [kas_desc,go]
  cases e:lt (p.getD n 0) (p.getD (n - 1) 0) with
  | true =>
   simp only [if_true]
   by_cases hq:q > 0
   ·rw [if_pos hq]
    have e2:lt (g (kas_rev p (n - (q+1)) n) n) (g (kas_rev p (n - (q+1)) n) (n - 1))=true:=by
     rw [g_rev (by omega),g_rev (by omega),if_neg (by omega),if_pos (by omega)]
     by_cases z:n - (q+1)+n - 1 - (n - 1)=n - 1
     ·rw [z]; exact e
     ·exact h.ltle e (x.bl _ (n - 1) (by omega) (by omega) (by omega)).2
    have r:=desc_ok h f (kas_rev p (n - (q+1)) n) (n+1) 0 (by omega) ((u.rev (Nat.le_refl _) (by omega)).up (by omega) (by omega)) (perm_rev hp) ((x.rev (N:=N) (by omega)).fall h (by omega) e2)
    exact ⟨by have:=r.1; omega,by have:=r.2.1; omega,r.2.2⟩
   ·rw [if_neg hq]
    have eq0:q=0:=by omega
    subst eq0
    have r:=desc_ok h f p (n+1) 0 (by omega) (u.up (by omega) (by omega)) hp (x.dnAll.fall h (by omega) e)
    exact ⟨by have:=r.1; omega,by have:=r.2.1; omega,r.2.2⟩
  | false =>
   simp only [Bool.false_eq_true,if_false,go]
   cases e2:lt (p.getD (n - 1) 0) (p.getD n 0) with
   | true=>exact ⟨Nat.le_refl _,by simp [go],u,hp,x⟩
   | false =>
    simp only [Bool.false_eq_true,if_false]
    have lo:=u.lo
    have hin:=u.hi n (Nat.le_refl _) (by omega)
    have r:=desc_ok h f p (n+1) (q+1) (by omega) (u.up (by omega) (by omega)) hp ⟨by omega,λ i j hij hj=>x.dn i j hij (by omega),λ i j hi hj hj2=>?_,λ i j hi hij hj=>?_⟩
    ·exact ⟨by have:=r.1; omega,by have:=r.2.1; omega,r.2.2⟩
    ·by_cases z:j < n
     ·exact x.cr i j (by omega) (by omega) z
     ·have z:j=n:=by omega
      subst z
      exact h.lelt e2 (x.cr i (j - 1) (by omega) (by omega) (by omega))
    ·by_cases z:j < n
     ·exact x.bl i j (by omega) hij z
     ·have z:j=n:=by omega
      subst z
      have le1:lt (g p j) (g p i)=false:=by
       by_cases y:i=j - 1
       ·rw [y]; exact e
       ·exact h.tr _ _ _ ((x.bl i (j - 1) (by omega) (by omega) (by omega)).1.le h) e
      have le2:lt (g p i) (g p j)=false:=by
       by_cases y:i=j - 1
       ·rw [y]; exact e2
       ·exact h.tr _ _ _ e2 (x.bl i (j - 1) (by omega) (by omega) (by omega)).2
      exact ⟨B.of_le le1 (by have:=lo i (by omega); omega),le2⟩
theorem Dn.up {p:Array Nat}{n:Nat}(x:Dn lt p n)(hN:n<=p.size):Up lt (kas_rev p 0 n) n:=λ i j hij hj=>by
 rw [g_rev hN,g_rev hN,if_pos (by omega),if_pos (by omega)]
 exact x _ _ (by omega) (by omega)
noncomputable def Cnt (lt:Nat->Nat->Bool)(N:Nat)(r:Nat×Array Nat):Prop:=1<=r.1/\r.1<=N/\Un r.2 N r.1/\r.2.toList.Perm (List.range N)/\Up lt r.2 r.1
theorem tail3_ok (h:Weak lt){N n:Nat}{p:Array Nat}(h1:1<=n)(hn:n<=N)(u:Un p N n)(hp:p.toList.Perm (List.range N))(x:Dn lt p n):Cnt lt N (go lt (kas_tail3 n N p)):=by
 unfold kas_tail3
 rw [go_bind]
 have hs:=u.size
 have r:=asc_ok h (p:=kas_rev p 0 n) (N:=N) (N - n) n (by omega) h1 (u.rev (Nat.le_refl _) hn) (x.up (by omega))
 exact ⟨by have:=r.1; show 1<=go lt (kas_asc (kas_rev p 0 n) (N - n) n); omega,by have:=r.2.1; show go lt (kas_asc (kas_rev p 0 n) (N - n) n)<=N; omega,r.2.2.1,perm_rev hp,r.2.2.2.1⟩
theorem descPart_ok (h:Weak lt){N n:Nat}{p:Array Nat}(hn:n+1<=N)(u:Un p N (n+1))(hp:p.toList.Perm (List.range N))(x:Fall lt p (n+1) 0):Cnt lt N (go lt (kas_descPart n N p)):=by
 unfold kas_descPart
 rw [go_bind]
 obtain ⟨r1,r2,r3,r4,r5⟩:=desc_ok h (N:=N) (N - (n+1)) p (n+1) 0 (by omega) u hp x
 have hs:=r3.size
 by_cases hq:(go lt (kas_desc (N - (n+1)) p (n+1) 0)).2.2 > 0
 ·rw [if_pos hq]
  exact tail3_ok h (by omega) (by omega) (r3.rev (Nat.le_refl _) (by omega)) (perm_rev r4) (r5.rev (N:=N) (by omega))
 ·rw [if_neg hq]
  have e:(go lt (kas_desc (N - (n+1)) p (n+1) 0)).2.2=0:=by omega
  rw [e] at r5
  exact tail3_ok h (by omega) (by omega) r3 r4 r5.dnAll
theorem count_ok (h:Weak lt){N:Nat}(hN:1<=N){p:Array Nat}(u:Un p N 1)(hp:p.toList.Perm (List.range N)):Cnt lt N (go lt (kas_count N p)):=by
 unfold kas_count
 rw [go_bind]
 obtain ⟨a1,a2,a3,a4,a5⟩:=asc_ok h (p:=p) (N:=N) (N - 1) 1 (by omega) (Nat.le_refl _) u (λ i j hij hj=>by omega)
 generalize go lt (kas_asc p (N - 1) 1)=n at a1 a2 a3 a4 a5
 have hs:=u.size
 by_cases e:(n == N)=true
 ·rw [if_pos e]
  exact ⟨a1,by show n<=N; omega,a3,hp,a4⟩
 ·rw [if_neg e]
  have ne:n≠N:=λ z=>e (by simp [z])
  have last:=a5 (by omega)
  by_cases h2:n > 1
  ·rw [if_pos h2]
   simp only [go]
   cases c:lt (p.getD 0 0) (p.getD (n - 1) 0) with
   | true =>
    simp only [if_true,go]
    exact ⟨a1,by show n<=N; omega,a3,hp,a4⟩
   | false =>
    simp only [Bool.false_eq_true,if_false]
    have eqv:∀ i j,i < j->j < n->lt (g p i) (g p j)=false:=λ i j hij hj=>by
     have t1:lt (g p i) (g p 0)=false:=by
      by_cases z:i=0
      ·rw [z]; exact h.irr _
      ·exact (a4 0 i (by omega) (by omega)).le h
     have t2:lt (g p (n - 1)) (g p j)=false:=by
      by_cases z:j=n - 1
      ·rw [z]; exact h.irr _
      ·exact (a4 j (n - 1) (by omega) (by omega)).le h
     have t3:lt (g p 0) (g p j)=false:=by
      cases y:lt (g p 0) (g p j) with
      | false=>rfl
      | true=>have:=h.ltle y t2; rw [c] at this; cases this
     cases y:lt (g p i) (g p j) with
     | false=>rfl
     | true=>have:=h.lelt t1 y; rw [t3] at this; cases this
    have fa:Fall lt p n (n - 1):=⟨by omega,λ i j hij hj=>by omega,λ i j hi hj hj2=>by omega,λ i j hi hij hj=>⟨a4 i j hij hj,eqv i j hij hj⟩⟩
    have dn:Dn lt (kas_rev p 0 n) n:=by
     have:=fa.rev (N:=N) (by omega)
     rwa [show n - (n - 1+1)=0 by omega] at this
    have e2:lt (g (kas_rev p 0 n) n) (g (kas_rev p 0 n) (n - 1))=true:=by
     rw [g_rev (by omega),g_rev (by omega),if_neg (by omega),if_pos (by omega)]
     rw [show 0+n - 1 - (n - 1)=0 by omega]
     exact h.ltle last c
    exact descPart_ok h (by omega) ((a3.rev (Nat.le_refl _) (by omega)).up (by omega) (by omega)) (perm_rev hp) (dn.fall h a1 e2)
  ·rw [if_neg h2]
   have e1:n=1:=by omega
   subst e1
   exact descPart_ok h (by omega) (a3.up (by omega) (by omega)) hp (Dn.fall h (Nat.le_refl _) (λ i j hij hj=>by omega) last)
theorem place_ok (h:Weak lt){p:Array Nat}{k:Nat}(u:Up lt p k):∀ (f l r:Nat),r - l<=f->l<=r->r<=k->(∀ i,i < l->lt (g p k) (g p i)=false)->(∀ i,r<=i->i < k->lt (g p k) (g p i)=true) ->
  go lt (kas_place p k f l r)<=k/\(∀ i,i < go lt (kas_place p k f l r)->lt (g p k) (g p i)=false)/\∀ i,go lt (kas_place p k f l r)<=i->i < k->lt (g p k) (g p i)=true
 | 0,l,r,hf,hl,hr,a,b=>⟨by show l<=k; omega,a,λ i hi hk=>b i (by have:l<=i:=hi; omega) hk⟩
 | f+1,l,r,hf,hl,hr,a,b=>by
  simp only [kas_place]
  by_cases e:l >= r
  ·rw [if_pos e]
   exact ⟨by show l<=k; omega,a,λ i hi hk=>b i (by have:l<=i:=hi; omega) hk⟩
  ·rw [if_neg e]
   simp only [go]
   cases c:lt (p.getD k 0) (p.getD ((l+r) / 2) 0) with
   | true =>
    simp only [if_true]
    refine place_ok h u f l ((l+r) / 2) (by omega) (by omega) (by omega) a λ i hi hk=>?_
    by_cases z:i=(l+r) / 2
    ·rw [z]; exact c
    ·exact h.ltle c ((u ((l+r) / 2) i (by omega) hk).le h)
   | false =>
    simp only [Bool.false_eq_true,if_false]
    refine place_ok h u f ((l+r) / 2+1) r (by omega) (by omega) hr (λ i hi=>?_) b
    by_cases z:i=(l+r) / 2
    ·rw [z]; exact c
    ·exact h.tr _ _ _ ((u i ((l+r) / 2) (by omega) (by omega)).le h) c
theorem bin_ok (h:Weak lt){N:Nat}:∀ (f:Nat) (p:Array Nat) (k:Nat),k+f<=N->Un p N k->p.toList.Perm (List.range N)->Up lt p k->(go lt (kas_bin f p k)).toList.Perm (List.range N)/\Up lt (go lt (kas_bin f p k)) (k+f)
 | 0,p,k,hf,u,hp,x=>⟨hp,x⟩
 | f+1,p,k,hf,u,hp,x=>by
  simp only [kas_bin]
  rw [go_bind]
  obtain ⟨h1,h2,h3⟩:=place_ok h x k 0 k (by omega) (by omega) (Nat.le_refl _) (λ i hi=>by omega) (λ i hi hk=>by omega)
  generalize go lt (kas_place p k k 0 k)=l at h1 h2 h3
  have hs:=u.size
  have ek:k - (k - l)=l:=by omega
  have lo:=u.lo
  have hk:=u.hi k (Nat.le_refl _) (by omega)
  have G:∀ i,g (bubble p k (k - l)) i=if i=l then g p k else if l < i/\i<=k then g p (i - 1) else g p i:=λ i=>by
   rw [g_bub (by omega) (by omega),ek]
  have r:=bin_ok h (N:=N) f (bubble p k (k - l)) (k+1) (by omega) ⟨(bubble_size _ _ _).trans hs,λ i hi=>?_,λ i hi hi2=>?_⟩ ((Array.perm_iff_toList_perm.mp (bubble_perm p k _)).trans hp) λ i j hij hj=>?_
  ·rw [show k+1+f=k+(f+1) by omega] at r
   exact r
  ·rw [G]
   split
   ·omega
   ·split
    ·have:=lo (i - 1) (by omega); omega
    ·have:=lo i (by omega); omega
  ·rw [G,if_neg (by omega),if_neg (by omega)]
   exact u.hi i (by omega) hi2
  ·have bk:∀ i,i < l->B lt (g p i) (g p k):=λ i hi=>B.of_le (h2 i hi) (by have:=lo i (by omega); omega)
   rw [G,G]
   by_cases i1:i=l
   ·rw [if_pos i1,if_neg (by omega),if_pos (by omega)]
    exact .inl (h3 _ (by omega) (by omega))
   ·rw [if_neg i1]
    by_cases i2:l < i/\i<=k
    ·rw [if_pos i2,if_neg (by omega),if_pos (by omega)]
     exact x _ _ (by omega) (by omega)
    ·rw [if_neg i2]
     by_cases j1:j=l
     ·rw [if_pos j1]; exact bk i (by omega)
     ·rw [if_neg j1]
      by_cases j2:l < j/\j<=k
      ·rw [if_pos j2]
       exact x _ _ (by omega) (by omega)
      ·rw [if_neg j2]
       exact x _ _ hij (by omega)
theorem sort_ok (h:Weak lt){N:Nat}(hN:1<=N):(go lt (kas_sort N)).toList.Perm (List.range N)/\Up lt (go lt (kas_sort N)) N:=by
 unfold kas_sort
 rw [go_bind]
 have e:∀ i,i < N->g (List.toArray (List.range N)) i=i:=λ i hi=>by rw [g_eq]; simp [hi]
 obtain ⟨c1,c2,c3,c4,c5⟩:=count_ok h hN (p:=List.toArray (List.range N)) ⟨by simp,λ i hi=>by rw [e i (by omega)]; exact hi,λ i _ hi=>e i hi⟩ (by simp)
 generalize go lt (kas_count N (List.toArray (List.range N)))=r at c1 c2 c3 c4 c5
 by_cases z:r.1 < N
 ·rw [if_pos z]
  have em:max r.1 1=r.1:=by omega
  rw [em]
  have b:=bin_ok h (N - r.1) r.2 r.1 (by omega) c3 c4 c5
  rw [show r.1+(N - r.1)=N by omega] at b
  exact b
 ·rw [if_neg z]
  have em:r.1=N:=by omega
  rw [em] at c5
  exact ⟨c4,c5⟩
end
end S
namespace S
open PySem PySem.W PyProof.Rows
noncomputable def Asks {α:Type}(N:Nat)(R:α->Prop):KasT α->Prop
 | .ret a=>R a
 | .ask i j k=>i < N/\j < N/\∀ b,Asks N R (k b)
theorem Asks.bind {α β:Type}{N:Nat}{R:α->Prop}{R':β->Prop}{f:α->KasT β}(hf:∀ a,R a->Asks N R' (f a)):∀ {t:KasT α},Asks N R t->Asks N R' (t.bind f)
 | .ret a,h=>hf a h
 | .ask i j k,h=>⟨h.1,h.2.1,λ b=>Asks.bind hf (h.2.2 b)⟩
noncomputable def Low (N:Nat)(p:Array Nat):Prop:=∀ i,g p i < N
theorem Low.of {N:Nat}{p:Array Nat}(hN:1<=N)(h:∀ x∈p.toList,x < N):Low N p:=λ i=>by
 rw [g_eq]
 cases e:p[i]? with
 | none=>simp; omega
 | some x=>exact h x (by rw [Array.mem_toList_iff]; exact Array.mem_of_getElem? e)
theorem Low.mem {N:Nat}{p:Array Nat}(h:Low N p):∀ x∈p.toList,x < N:=λ x hx=>by
 rw [Array.mem_toList_iff] at hx
 obtain ⟨i,hi,e⟩:=Array.mem_iff_getElem.mp hx
 have:=h i
 rw [g_eq] at this
 simp [hi] at this
 omega
theorem Low.perm {N:Nat}{p q:Array Nat}(hN:1<=N)(h:Low N p)(e:q.Perm p):Low N q:=.of hN λ x hx=>h.mem x ((Array.perm_iff_toList_perm.mp e).mem_iff.mp hx)
theorem Low.rev {N i j:Nat}{p:Array Nat}(hN:1<=N)(h:Low N p):Low N (kas_rev p i j):=h.perm hN (mirror_perm _ _ _ _)
section
variable {N:Nat}
end
section
variable {prog:Program}{w:World}{A:Around}{E:Value->Shared->Prop}{s:Shared}
end
end S
namespace S
open PySem PySem.W PyProof.Rows
noncomputable def Shape:List Bool->List PyData->Prop
 | [],[]=>True
 | true :: bs,d :: ds=>(∃ x,d=.str x)/\Shape bs ds
 | false :: bs,d :: ds=>(∃ i,d=.int i)/\Shape bs ds
 | _,_=>False
theorem str_ext {x y:Str}(h:x.cps.toList=y.cps.toList):x=y:=by
 cases x; cases y
 simp only [Str.mk.injEq]
 exact Array.toList_inj.mp h
noncomputable def rowAt (rows:List (List PyData))(i:Nat):List PyData:=rows.getD i (rows.headD [])
noncomputable def RowV:List PyData->List Value->Prop:=Paired λ d u=>(∃ i t,d=.int i/\u=.int i t)\/∃ x t,d=.str x/\u=.str x t
section
variable {prog:Program}{w:World}{A:Around}{Q:Bool->Shared->Prop}
end
end S
namespace D
open PySem PySem.Spec PyProof.Rows L2 S
section
variable {K:PySem.W.Frag}
theorem RowV.len:∀ {ds:List PyData} {us:List Value},RowV ds us->us.length=ds.length:=λ h=>(Paired.length h).symm
noncomputable def RowsAt (h:Heap)(sh:List Bool)(rows:List (List PyData))(its:List Value):Prop:=Paired (λ row u=>Shape sh row/\∃ a o us n,u=Value.ref a/\h.get? a=some o/\o.cls=.type "tuple" /\ o.data=.seq us n/\RowV row us.toList) rows its
theorem RowsAt.keep {h h':Heap}{sh:List Bool}{rows:List (List PyData)}{its:List Value}(k:∀ b o,h.get? b=some o->h'.get? b=some o)(r:RowsAt h sh rows its):RowsAt h' sh rows its :=
 Paired.mapP r λ row u ⟨s,a,o,us,n,e,g,c,d,q⟩=>⟨s,a,o,us,n,e,k _ _ g,c,d,q⟩
theorem RowsAt.get {h:Heap}{sh:List Bool}:∀ {rows:List (List PyData)} {its:List Value} (i:Nat),i < rows.length->RowsAt h sh rows its->∃ a o us n,its.getD i Value.none=.ref a/\h.get? a=some o/\o.cls=.type "tuple" /\ o.data=.seq us n/\Shape sh (rowAt rows i)/\RowV (rowAt rows i) us.toList:=by
 have main:∀ {rows:List (List PyData)} {its:List Value} (i:Nat) (dflt:List PyData),i < rows.length->RowsAt h sh rows its->∃ a o us n,its.getD i Value.none=.ref a/\h.get? a=some o/\o.cls=.type "tuple" /\ o.data=.seq us n/\Shape sh (rows.getD i dflt)/\RowV (rows.getD i dflt) us.toList:=by
  intro rows
  induction rows with
  | nil=>intro its i d hi _; simp at hi
  | cons row rows ih =>
   intro its i d hi r
   cases r with
   | cons r1 r2 =>
    cases i with
    | zero =>
     obtain ⟨s,a,o,us,n,e,g,c,dd,q⟩:=r1
     exact ⟨a,o,us,n,e,g,c,dd,s,q⟩
    | succ i =>
     obtain ⟨a,o,us,n,e,z⟩:=ih i d (by simpa using hi) r2
     exact ⟨a,o,us,n,by simpa using e,by simpa using z⟩
 exact λ {rows its} i hi r=>main i _ hi r
theorem RowsAt.tups {h:Heap}{t:Bool}{sh:List Bool}:∀ {rows:List (List PyData)} {its:List Value},RowsAt h (t :: sh) rows its->∃ fs,PySem.W.KatTups h its fs/\fs.length=its.length/\∀ v∈fs,(t=true/\∃ x k,v=Value.str x k)\/(t=false/\∃ i k,v=Value.int i k)
 | [],its,r=>by
  cases r
  exact ⟨[],.nil,rfl,λ v hv=>by simp at hv⟩
 | row :: rows,its,r=>by
  cases r with
  | cons r1 r2 =>
   obtain ⟨fs,h1,h2,h3⟩:=RowsAt.tups r2
   obtain ⟨s,a,o,us,n,e,g,c,dd,q⟩:=r1
   subst e
   match row,s with
   | d :: ds,s =>
    obtain ⟨f,us2,eu,hf⟩:∃ f us2,us.toList=f :: us2/\((t=true/\∃ x k,f=Value.str x k)\/(t=false/\∃ i k,f=Value.int i k)):=by
     generalize us.toList=ul at q
     cases q with
     | @cons _ u _ ul2 q1 q2 =>
      refine ⟨u,ul2,rfl,?_⟩
      cases t with
      | true =>
       obtain ⟨⟨x,rfl⟩,_⟩:=s
       rcases q1 with ⟨_,_,e,_⟩ | ⟨_,k,e,e'⟩
       ·cases e
       ·exact .inl ⟨rfl,_,_,e'⟩
      | false =>
       obtain ⟨⟨x,rfl⟩,_⟩:=s
       rcases q1 with ⟨_,k,e,e'⟩ | ⟨_,_,e,_⟩
       ·exact .inr ⟨rfl,_,_,e'⟩
       ·cases e
    have e0:us[0]? = some f:=by
     have:us.toList[0]? = some f:=by rw [eu]; rfl
     simpa using this
    refine ⟨f :: fs,.cons g c dd e0 h1,by simp [h2],λ v hv=>?_⟩
    rcases List.mem_cons.mp hv with rfl | hv
    ·exact hf
    ·exact h3 v hv
   | [],s=>cases t <;> cases s
end
section
variable {X:Cx}{K:PySem.W.Frag}
end
end D
namespace D
open PySem PySem.Spec PyProof.Rows L2 S
section
variable {P:Program}{w:World}{H:Hp}{h h':Heap}{a:Addr}{o:HO}
theorem obj_is (x:ObjOk P w H h a o):∃ ob,h.get? a=some ob:=by
 induction o with
 | lst xs=>obtain ⟨_,_,_,_,e⟩:=x; exact ⟨_,e⟩
 | tup xs=>obtain ⟨_,_,_,ob,e,_⟩:=x; exact ⟨_,e⟩
 | dK kvs=>obtain ⟨_,_,_,_,o,_,_,e,_⟩:=x; exact ⟨_,e⟩
 | dT kvs=>obtain ⟨_,_,_,_,o,_,_,e,_⟩:=x; exact ⟨_,e⟩
 | set S n=>obtain ⟨o,_,_,_,e,_⟩:=x; exact ⟨_,e⟩
 | ins C dx fs=>obtain ⟨_,_,_,e,_⟩:=x; exact ⟨_,e⟩
 | own y=>obtain ⟨_,e⟩:=x; exact ⟨_,e⟩
 | xd fs=>obtain ⟨_,⟨_,_,_,e,_⟩,_⟩:=x; exact ⟨_,e⟩
 | rng lo hi=>obtain ⟨_,_,_,e⟩:=x; exact ⟨_,e⟩
 | frz ob u ih=>obtain ⟨e,_⟩:=x; exact ⟨_,e⟩
 | tbl ps=>exact ⟨_,show h.get? a=some _ from x⟩
 | met f y=>exact ⟨_,show h.get? a=some _ from x⟩
 | ext φ=>obtain ⟨_,⟨_,e⟩,_⟩:=x; exact ⟨_,e⟩
theorem free_of (x:HOk P w H h)(e:h.get? a=none):H a=none:=by
 cases q:H a with
 | none=>rfl
 | some u =>
  obtain ⟨ob,z⟩:=obj_is (x a u q)
  rw [e] at z
  cases z
end
section
variable {X:Cx}{pins:List (Addr×Obj)}{σ:St}{H:Hp}{s:Shared}{h':Heap}
theorem Inv.laidN {a:Addr}{o:HO}{t':Nat}(I:Inv X pins σ H s)(k:∀ b u,s.heap.get? b=some u->h'.get? b=some u)(hp:s.heap.get? a=none)(new:ObjOk X.prog X.w (upd H a o) h' a o) :
  Inv X pins σ (upd H a o) { s with heap:=h',toks:=t' }:=by
 have hn:=free_of I.hok hp
 have ne:∀ b u,s.heap.get? b=some u->b≠a:=λ b u e z=>by rw [z,hp] at e; cases e
 refine I.un ⟨λ b ob e _ _ _=>k b ob e,λ b ob e _ _ _=>⟨ob.slots,k b ob e⟩,λ b ob e n _=>by rw [upd_ne (ne b ob e)]; exact n,λ b ob e _=>⟨ob,k b ob e⟩,λ b xs e=>by rw [upd_ne (ne_of_none e hn)]; exact e,λ b ob u e=>by rw [upd_ne (ne_of_none e hn)]; exact e,λ b ps e=>⟨#[],by rw [upd_ne (ne_of_none e hn),e]; simp⟩⟩ λ b u e=>?_
 by_cases hb:b=a
 ·subst hb; rw [upd_same] at e; cases e; exact new
 ·rw [upd_ne hb] at e
  exact (I.hok b u e).stay (λ c v _ q=>k c v q) (λ c q=>by rw [upd_ne (ne_of_none q hn)]; exact q) λ c xs q=>by rw [upd_ne (ne_of_none q hn)]; exact q
end
section
variable {X:Cx}{K:PySem.W.Frag}
theorem keys_vals {P:Program}{w:World}:∀ {zs:List Str} {vs:List (Key×Value)} {us:List Value},vs.map (·.1)=zs.map Sum.inr->us.length=vs.length->(∀ (j:Nat) v,us[j]? = some v->∃ k x,vs[j]? = some (k,x)/\(mixKind P w).is k v=true)->StrsAre us zs
 | [],vs,us,h,hl,hp=>by
  have e:vs=[]:=by simpa using h
  subst e
  have e:us=[]:=by simpa using hl
  subst e
  exact .nil
 | z :: zs,vs,us,h,hl,hp=>by
  match vs,us,h,hl,hp with
  | (k,x) :: vs,u :: us,h,hl,hp =>
   simp only [List.map_cons,List.cons.injEq] at h
   obtain ⟨k',x',e,hk⟩:=hp 0 u rfl
   simp at e
   obtain ⟨e1,e2⟩:=e
   subst e1 e2
   rw [h.1,mixKind_is] at hk
   obtain ⟨t,e⟩:∃ t,u=.str z t:=by
    rcases keyIs_shape hk with ⟨i,t,e,_⟩ | ⟨y,t,e,e'⟩
    ·cases e
    ·cases e
     exact ⟨t,e'⟩
   subst e
   exact .cons z t (keys_vals h.2 (by simpa using hl) λ j v hj=>by simpa using hp (j+1) v (by simpa using hj))
  | [],_,h,_,_=>simp at h
  | _ :: _,[],_,hl,_=>simp at hl
theorem call_sortedD (hc:X.calm=true):CallR X (.builtin "sorted") (λ xs H Q=>∃ a kvs zs,xs=[.ref a]/\Rd H a (.dK kvs)/\kvs.map (·.1)=zs.map Sum.inr/\zs.length < 64/\∀ zs',zs'.Perm zs->sortedS zs'=true->∀ l,H l=none->Q (.ref l) (upd H l (.lst (zs'.map V.str)))):=by
 intro pins s σ H xs us Q I r h
 obtain ⟨a,kvs,zs,rfl,hq,hk,hz,q⟩:=h
 obtain ⟨u,rfl,rx⟩:=vals1 r
 cases rx
 obtain ⟨hsz,hsys,vs,rel,o,es,ep,hd⟩:=hq.ok I.hok
 have hvs:vs.map (·.1)=zs.map Sum.inr:=by
  rw [<- hk]
  clear hk hd hq hsz
  induction rel with
  | nil=>rfl
  | cons r t ih=>simp only [List.map_cons,ih,r.1]
 have hln:vs.length=zs.length:=by simpa using congrArg List.length hvs
 refine Calls.call_function_entry kind_sorted plain_sorted entry_sorted (args_sorted1 _) ?_
 unfold Builtin.«sorted»
 have at1:∀ (h':Heap) (l:List Value),(h'.push (seqObj "list" l.toArray 0)).get? h'.objs.size=some (seqObj "list" l.toArray 0):=λ h' l=>Heap.get?_push_size _ rfl
 refine wpAny_bind (m:=checkCount "sorted" 1 1 _) (wpAny_pure (wpAny_bind (PySem.W.kdu_collect (A:=X.A.in1) (PySem.W.kdl_dict (knd:=mixKind X.prog X.w) (kvs:=vs) (ep:=ep) hsys) (I.ok.hd hc) ⟨o,es,hd⟩ (by rw [sizeLine_eq]; omega) λ h' tk acc old hacc=>?_)))
 have hla:acc.toList.length=vs.length:=by rw [Array.length_toList]; exact hacc.1
 have hS:StrsAre acc.toList zs:=keys_vals hvs hla λ j v hj=>hacc.2 j v (by rw [<- Array.getElem?_toList]; exact hj)
 refine wpAny_bind (wpAny_newList ?_ (by rw [hla,sizeLine_eq]; omega))
 refine wpAny_bind (wpAny_holding (wpAny_call_entry slot_list_sort ⟨_,at1 h' acc.toList,rfl⟩ entry_list_sort (list_sort_treeK strKind_oneLt (s:={ s with heap:=h'.push (seqObj "list" acc.toList.toArray 0),toks:=tk }) (at1 h' acc.toList) hS.keysOf (λ v₁ v₂ rest e=>keyKind_strs (by rw [<- e]; exact hS)) (by omega) λ st' hp hs=>⟨_,rfl,wpAny_pure ⟨_,rfl,?_⟩⟩) (args_list_sort _)))
 obtain ⟨zs',h1,h2,h3⟩:=sorted_out_str hS hp hs
 obtain ⟨n,e⟩:=sortedHeap_at (h:=h'.push (seqObj "list" acc.toList.toArray 0)) (vs:=acc.toList) (out:=(arrOf st').map (·.2)) (at1 h' acc.toList)
 have hge:s.heap.get? h'.objs.size=none:=by
  cases q1:s.heap.get? h'.objs.size with
  | none=>rfl
  | some ob =>
   have:=Heap.lt_size (old _ _ q1)
   exact absurd this (Nat.lt_irrefl _)
 have keep:∀ b ob,s.heap.get? b=some ob->(sortedHeap (h'.push (seqObj "list" acc.toList.toArray 0)) h'.objs.size acc.toList ((arrOf st').map (·.2))).get? b=some ob:=λ b ob eb=>by
  have l1:b < h'.objs.size:=Heap.lt_size (old b ob eb)
  rw [sortedHeap_old (Nat.ne_of_lt l1) (by rw [size_push']; exact Nat.lt_succ_of_lt l1),Heap.get?_push_of_some _ (old b ob eb)]
 have I':Inv X pins σ (upd H h'.objs.size (.lst (zs'.map V.str))) { s with heap:=sortedHeap (h'.push (seqObj "list" acc.toList.toArray 0)) h'.objs.size acc.toList ((arrOf st').map (·.2)),toks:=tk }:=by
  refine Inv.laidN I keep hge ⟨?_,((arrOf st').map (·.2)).toList,n,vals_strs h1,by rw [Array.toArray_toList]; exact e⟩
  rw [List.length_map,h2.length_eq]
  have:=s16
  omega
 exact ⟨.ref _,_,I',rfl,q zs' h2 h3 _ (free_of I.hok hge)⟩
noncomputable def rdSortD (ws:List W)(M:MH)(Q:QD):Prop:=∃ a kvs,∃ zs:List Str,ws=[.m a]/\M a=some (.dic kvs)/\kvs.map (·.1)=zs.map Sum.inr/\zs.length < 64/\∀ zs',zs'.Perm zs->sortedS zs'=true->∀ p,M p=none->Q (.m p) (updM M p (.lst (strsW zs')))
theorem cd_sortD:CallD K (λ xs H Q=>∃ a kvs zs,xs=[.ref a]/\Rd H a (.dK kvs)/\kvs.map (·.1)=zs.map Sum.inr/\zs.length < 64/\∀ zs',zs'.Perm zs->sortedS zs'=true->∀ l,H l=none->Q (.ref l) (upd H l (.lst (zs'.map V.str)))) rdSortD:=by
 intro vs H ws M Qd Q r m ⟨a,kvs,zs,e,g,hk,hz,q⟩ k
 subst e
 obtain ⟨v,e1,r1⟩:=repWs1 r
 have ev:v=.ref a:=r1
 subst ev
 have go:∀ l:List (Key×V),Rd H a (.dK l)->Paired (λ (p:Key×W) (q:Key×V)=>p.1=q.1/\RepW K H p.2 q.2) kvs l->∃ a' kvs' zs',[V.ref a]=[.ref a']/\Rd H a' (.dK kvs')/\kvs'.map (·.1)=zs'.map Sum.inr/\zs'.length < 64/\∀ zs'',zs''.Perm zs'->sortedS zs''=true->∀ l,H l=none->Q (.ref l) (upd H l (.lst (zs''.map V.str))):=by
  intro l hr pr
  refine ⟨a,l,zs,rfl,hr,?_,hz,λ zs' h1 h2 p hp=>?_⟩
  ·rw [<- hk]
   clear hk hr g q
   induction pr with
   | nil=>rfl
   | cons r t ih=>simp only [List.map_cons,ih,r.1]
  ·have kp:Kp H (upd H p (.lst (zs'.map V.str))):=Kp.new hp
   exact k _ _ (.m p) _ kp rfl (m.put (mo:=.lst (strsW zs')) kp ⟨_,upd_same,reps_strs zs'⟩) (q zs' h1 h2 p (m.free hp))
 subst e1
 obtain ⟨l,hl,pr⟩:=m _ _ g
 exact go l (.inl hl) pr
noncomputable def isNone:W->Bool
 | .d .none=>true
 | _=>false
theorem isNone_rep {H:Hp}{w:W}{v:V}(r:RepW K H w v):decide (v=.non)=isNone w:=by
 cases w with
 | m a=>cases (show v=.ref a from r); rfl
 | t n=>cases (show v=.ty n from r); rfl
 | d x =>
  cases x <;> simp only [RepW,RepD] at r
  ·subst r; rfl
  ·subst r; rfl
  ·subst r; rfl
  ·subst r; rfl
  all_goals first
   | (obtain ⟨a,vs,e,_⟩:=r; subst e; rfl)
   | (obtain ⟨a,o,l,e,_⟩:=r; subst e; rfl)
noncomputable def rdIsN (neg:Bool)(w:W)(w':W)(M:MH)(Q:QD):Prop:=w'=.d .none/\Q (.d (.bool (xor neg (isNone w)))) M
theorem opd_isN:OpD K (λ x y H Q=>y=.non/\Q (.bl (decide (x=.non))) H) (rdIsN false):=by
 intro x y H w w' M Qd Q r1 r2 m ⟨e,q⟩ k
 subst e
 simp only [RepW,RepD] at r2
 refine ⟨r2,k _ _ (.d (.bool (isNone w))) M (Kp.refl _) ?_ m (by simpa using q)⟩
 rw [isNone_rep r1]
 simp [RepW,RepD]
end
end D
namespace D
open PySem PySem.Spec PyProof.Rows L2
section
variable {X:Cx}{pins:List (Addr×Obj)}{σ:St}{H:Hp}{s:Shared}{h':Heap}
end
section
variable {X:Cx}{a:Expr}{p pos:Pos}{ta:TA}
end
section
variable {X:Cx}{K:PySem.W.Frag}{a:Expr}{p pos:Pos}{t:TAd}
end
theorem bb_min:bootBuiltins "min" = some (.builtin "min"):=by decide +kernel
section
variable {X:Cx}{K:PySem.W.Frag}
noncomputable def rdMin2 (ws:List W)(M:MH)(Q:QD):Prop:=∃ i j,ws=[.d (.int i),.d (.int j)]/\Q (.d (.int (if j < i then j else i))) M
theorem cd_min2:CallD K (λ xs H Q=>∃ i j,xs=[V.int i,V.int j]/\Q (V.int (if j < i then j else i)) H) rdMin2:=by
 intro vs H ws M Qd Q r m ⟨i,j,e,q⟩ k
 subst e
 obtain ⟨v,v',e1,r1,r2⟩:=repWs2 r
 simp only [RepW,RepD] at r1 r2
 subst r1 r2
 exact ⟨i,j,e1,k _ H (.d (.int _)) M (Kp.refl H) (by simp [RepW,RepD]) m q⟩
end
end D
namespace Rc
open PySem PySem.Spec PyProof.Rows L2 D
section
variable {α:Type}(nm:α->Str)
noncomputable def rk (g:α->PyData)(L:List α):List (Key×PyData):=L.map λ a=>(.inr (nm a),g a)
noncomputable def fd (L:List α)(n:Str):Option α:=L.find? λ a=>decide (nm a=n)
noncomputable def pt (L:List α)(z:α):List α:=match fd nm L (nm z) with
 | none=>L++[z]
 | some _=>L.map λ y=>if nm y=nm z then z else y
variable {nm}
end
end Rc
namespace Rc
open PySem PySem.Spec PyProof.Rows L2 D
mutual
noncomputable def okD:Nat->PyData->Bool
 | _,.none=>true
 | _,.bool _=>true
 | _,.int i=>decide (i.natAbs < 2 ^ 100)
 | _,.str z=>ascB z
 | k+1,.list ds=>okA k ds
 | k+1,.tuple ds=>okA k ds
 | _,_=>false
noncomputable def okA:Nat->List PyData->Bool
 | _,[]=>true
 | k,d :: ds=>okD k d && okA k ds
end
theorem okA_of {k:Nat}:∀ {ds:List PyData},(∀ d∈ds,okD k d=true)->okA k ds=true
 | [],_=>by simp [okA]
 | d :: ds,h=>by
  simp only [okA,Bool.and_eq_true]
  exact ⟨h d (by simp),okA_of λ x hx=>h x (by simp [hx])⟩
theorem asc_of_b {z:Str}(h:ascB z=true):Asc z:=asc_dec h
theorem strOk_asc {z:Str}(h:Asc z):PyData.strOk z=true:=by
 unfold PyData.strOk
 rw [Array.all_eq_true_iff_forall_mem]
 intro c hc
 exact decide_eq_true (by have:=h c (by simpa using hc); omega)
theorem strOk_b {z:Str}(h:ascB z=true):PyData.strOk z=true:=strOk_asc (asc_of_b h)
mutual
theorem ok_fine:∀ (k:Nat) (d:PyData),okD k d=true->fineD d=true
 | _,.none,_=>rfl
 | _,.bool _,_=>rfl
 | _,.int i,h=>by
  cases ‹Nat› <;> simp only [okD,decide_eq_true_eq] at h <;> exact decide_eq_true (log2_small h)
 | _,.str z,h=>by
  cases ‹Nat› <;> simp only [okD] at h <;> exact h
 | k+1,.list ds,h=>by simp only [okD] at h; simp only [fineD]; exact okA_fine k ds h
 | k+1,.tuple ds,h=>by simp only [okD] at h; simp only [fineD]; exact okA_fine k ds h
 | 0,.list ds,h=>by simp [okD] at h
 | 0,.tuple ds,h=>by simp [okD] at h
 | k,.dict kvs,h=>by cases k <;> simp [okD] at h
theorem okA_fine:∀ (k:Nat) (ds:List PyData),okA k ds=true->fineA ds=true
 | _,[],_=>by simp [fineA]
 | k,d :: ds,h=>by
  simp only [okA,Bool.and_eq_true] at h
  simp only [fineA,ok_fine k d h.1,okA_fine k ds h.2,Bool.and_self]
end
mutual
theorem ok_lay:∀ (k:Nat) (d:PyData),okD k d=true->PyData.canLay0 d=true
 | _,.none,_=>by simp [PyData.canLay0]
 | _,.bool _,_=>by simp [PyData.canLay0]
 | _,.int i,h=>by simp [PyData.canLay0]
 | _,.str z,h=>by
  cases ‹Nat› <;> simp only [okD] at h <;> simp [PyData.canLay0,strOk_b h]
 | k+1,.list ds,h=>by simp only [okD] at h; simp only [PyData.canLay0]; exact okA_lay k ds h
 | k+1,.tuple ds,h=>by simp only [okD] at h; simp only [PyData.canLay0]; exact okA_lay k ds h
 | 0,.list ds,h=>by simp [okD] at h
 | 0,.tuple ds,h=>by simp [okD] at h
 | k,.dict kvs,h=>by cases k <;> simp [okD] at h
theorem okA_lay:∀ (k:Nat) (ds:List PyData),okA k ds=true->PyData.canLayAll0 ds=true
 | _,[],_=>by simp [PyData.canLayAll0]
 | k,d :: ds,h=>by
  simp only [okA,Bool.and_eq_true] at h
  simp only [PyData.canLayAll0,ok_lay k d h.1,okA_lay k ds h.2,Bool.and_self]
end
mutual
theorem ok_depth:∀ (k:Nat) (d:PyData),okD k d=true->PyData.depth d<=k+1
 | _,.none,_=>by simp [PyData.depth]
 | _,.bool _,_=>by simp [PyData.depth]
 | _,.int i,h=>by simp [PyData.depth]
 | _,.str z,h=>by simp [PyData.depth]
 | k+1,.list ds,h=>by simp only [okD] at h; have:=okA_depth k ds h; simp only [PyData.depth]; omega
 | k+1,.tuple ds,h=>by simp only [okD] at h; have:=okA_depth k ds h; simp only [PyData.depth]; omega
 | 0,.list ds,h=>by simp [okD] at h
 | 0,.tuple ds,h=>by simp [okD] at h
 | k,.dict kvs,h=>by cases k <;> simp [okD] at h
theorem okA_depth:∀ (k:Nat) (ds:List PyData),okA k ds=true->PyData.depthAll ds<=k+1
 | _,[],_=>by simp [PyData.depthAll]
 | k,d :: ds,h=>by
  simp only [okA,Bool.and_eq_true] at h
  have h1:=ok_depth k d h.1
  have h2:=okA_depth k ds h.2
  simp only [PyData.depthAll]
  omega
end
mutual
theorem ok_nod:∀ (k:Nat) (d:PyData),okD k d=true->PyData.hasDict d=false
 | _,.none,_=>by simp [PyData.hasDict]
 | _,.bool _,_=>by simp [PyData.hasDict]
 | _,.int i,h=>by simp [PyData.hasDict]
 | _,.str z,h=>by simp [PyData.hasDict]
 | k+1,.list ds,h=>by simp only [okD] at h; simp only [PyData.hasDict]; exact okA_nod k ds h
 | k+1,.tuple ds,h=>by simp only [okD] at h; simp only [PyData.hasDict]; exact okA_nod k ds h
 | 0,.list ds,h=>by simp [okD] at h
 | 0,.tuple ds,h=>by simp [okD] at h
 | k,.dict kvs,h=>by cases k <;> simp [okD] at h
theorem okA_nod:∀ (k:Nat) (ds:List PyData),okA k ds=true->PyData.hasDictAll ds=false
 | _,[],_=>by simp [PyData.hasDictAll]
 | k,d :: ds,h=>by
  simp only [okA,Bool.and_eq_true] at h
  simp only [PyData.hasDictAll,ok_nod k d h.1,okA_nod k ds h.2,Bool.or_self]
end
theorem eqOk_of {k:Nat}{d:PyData}(hk:k<=50)(h:okD k d=true):eqOk d=true:=by
 have h1:=ok_lay k d h
 have h2:=ok_depth k d h
 have h3:=ok_nod k d h
 simp only [eqOk,SeqAt.shaped,h1,h3,Bool.true_and,Bool.not_false,Bool.and_true]
 exact decide_eq_true (by omega)
theorem refl_of {k:Nat}{d:PyData}(h:okD k d=true):PyData.eqv d d=true:=SeqAt.eqv_refl _ (ok_lay k d h)
theorem reprOk_of {k:Nat}{d:PyData}(hk:k<=50)(h:okD k d=true)(hb:big d<=1000000):reprOk d=true :=
 repr_ok (ok_fine k d h) hb (by have:=ok_depth k d h; omega) (ok_nod k d h)
theorem bigA_le {c:Nat}:∀ {ds:List PyData},(∀ d∈ds,big d<=c)->bigA ds<=ds.length * (c+2)
 | [],_=>by simp [bigA]
 | d :: ds,h=>by
  have h1:=h d (by simp)
  have h2:=bigA_le (ds:=ds) λ x hx=>h x (by simp [hx])
  simp only [bigA,List.length_cons]
  rw [Nat.add_mul]
  omega
theorem eqv_str' (x y:Str):PyData.eqv (.str x) (.str y)=decide (x=y):=by
 rw [<- str_dec]
 by_cases e:x=y
 ·subst e; simp
 ·simp [e]
theorem eqv_int' (x y:Int):PyData.eqv (.int x) (.int y)=decide (x=y):=by
 rw [PyData.eqv]
 by_cases e:x=y
 ·subst e; simp
 ·simp [e]
theorem ne_new {M:MH}{a b:Addr}{o:MO}(ha:M a=some o)(hb:M b=none):a≠b:=λ e=>by rw [e,hb] at ha; cases ha
theorem upd_get {M:MH}{a b:Addr}{o u:MO}(h:M a=some o)(hb:M b=none):updM M b u a=some o:=by rw [updM_ne (ne_new h hb)]; exact h
end Rc
namespace Stc
open PySem PySem.Spec PyProof.Rows L2 D Rc
noncomputable abbrev N_l_word:List Str:=["_law_bag_here", "_law_letters"]
noncomputable def t_l_word (sp_l_take:SpD):TSd :=
  dSeq (dAsg (dC (.d (.str "abcdefghijklmnopqrstuvwxyz"))) (gN 1)) <|
  dRet (dMS rdJoin (dC (.d (.str ""))) (dCons (dLC (dRng1 (dCons (dOp rdAdd (dC (.d (.int 1))) (dCall sp_l_take (dCons (dVar 0) (dCons (dC (.d (.int 8))) (dNil))))) (dNil))) (gN 0) (dYes) (dOp rdIx (dVar 1) (dCall sp_l_take (dCons (dVar 2) (dCons (dC (.d (.int 26))) (dNil))))) 1 [1,0]) dNil))
noncomputable def sp_l_word:SpD:=λ ws M Q=>∃ p:Addr,ws=[.m p]/\Bag M p/\∀ (z:Str) M',(z.length<=8/\Asc z)->Bag M' p->(∀ q,q≠p->M' q=M q)->Q (.d (.str z)) M'
theorem len_l_word:∀ ws M Q,sp_l_word ws M Q->ws.length=1:=by rintro ws M Q ⟨p,rfl,_⟩; rfl
theorem drawn {z:Str}(hz:Asc z)(hz0:0 < z.length)(hz1:z.length<=1000){p:Addr}{M M1:MH}{ws:List W}{fr:List Nat}{τ:DS}{te:TD}{k:Nat}{Q:List PyData->MH->Prop}(hk:ws.length=k)(hs:k<=1000)(b1:Bag M1 p)(f1:∀ q,q≠p->M1 q=M q)
  (hte:∀ w∈ws,∀ (M':MH),Bag M' p->∀ R:W->MH->Prop,(∀ (r:Int) M'' (c:Nat),c∈z.cps.toList->Bag M'' p->(∀ q,q≠p->M'' q=M' q)->R (.d (.str ⟨#[c]⟩)) M'')->te (some w :: fr.map λ j=>(τ[j]?).getD none) M' R)
  (q:∀ (ys:List Str) M',(∀ y∈ys,y.length<=1/\Asc y)->ys.length<=k->Bag M' p->(∀ q,q≠p->M' q=M q)->Q (ys.map PyData.str) M') :
  ∃ P:Nat->List PyData->DS->MH->Prop,P 0 [] (lcSD 1 fr τ) M1 /\
   (∀ i w acc τ M,ws[i]? = some w->P i acc τ M->acc.length < sizeLine/\gN 0 w τ M λ τ2 M2=>dYes τ2 M2 λ b M3=>if b=true then te τ2 M3 λ y M4=>∃ d,y=.d d/\P (i+1) (acc++[d]) τ2 M4 else P (i+1) acc τ2 M3) /\
   ∀ acc τ M,P ws.length acc τ M->Q acc M:=by
 refine lc_inv (λ M'=>Bag M' p/\∀ q,q≠p->M' q=M q) (Tx 1) (by have:=s16; omega) ⟨b1,f1⟩ (λ w hw M' hj P' hp _=>?_) (λ acc M2 hj hg hlen=>?_)
 ·exact hte w hw M' hj.1 _ λ r M'' c hc b f=>⟨_,rfl,hp _ _ ⟨_,rfl,Nat.le_refl _,asc_one hz hc⟩ ⟨b,λ q hq=>(f q hq).trans (hj.2 q hq)⟩⟩
 ·obtain ⟨ys,e,hy⟩:=tx_list hg
  subst e
  exact q ys M2 hy (by simpa [hk] using hlen) hj.1 hj.2
theorem join1 {ys:List Str}(hy:∀ y∈ys,y.length<=1/\Asc y):Asc (Txt.join "" ys)/\(Txt.join "" ys).length<=ys.length:=by
 have hj1:=join_asc (sep:=("" : Str)) (asc_dec (by decide +kernel)) λ y hy'=>(hy y hy').2
 have e0:("" : Str).length=0:=by decide +kernel
 have hsum:=sum_le (λ y hy'=>(hy y hy').1) 0
 simp only [Nat.zero_add,e0] at hsum hj1
 exact ⟨hj1.1,by omega⟩
theorem read_l_word:∀ ws M Q,sp_l_word ws M Q->t_l_word sp_l_take { nx:=λ _ M'=>Q (.d .none) M',rt:=Q } (startD N_l_word ws) M:=by
 rintro ws M Q ⟨p,rfl,hb,k⟩
 refine ⟨⟨_,rfl⟩,_,rfl,p,8,rfl,hb,by decide,by decide,λ n M1 n0 n1 b1 f1=>?_⟩
 refine .inl ⟨_,_,rfl,rfl,1+n,rfl,by omega,by omega,?_⟩
 dsimp only
 refine drawn (z:=alphaS) alphaA (by rw [alphaL]; decide) (by rw [alphaL]; decide) (k:=(1+n).toNat) ?_ (by omega) b1 f1 (λ w hw M' b R h=>?_) (λ ys M' hy hlen b f=>?_)
 ·simp only [rangeW,List.length_map,List.length_range]
 ·refine ⟨_,rfl,_,rfl,p,26,rfl,b,by decide,by decide,λ r M3 r0 r1 b3 f3=>?_⟩
  obtain ⟨c,hc,hm⟩:=ix_str_at (M:=M3) (z:=alphaS) r0 (by rw [alphaL]; exact r1)
  exact ⟨r,_,rfl,hc,by decide +kernel,h r M3 c hm b3 f3⟩
 ·obtain ⟨ha,hl⟩:=join1 hy
  have e0:("" : Str).length=0:=by decide +kernel
  have hsum:=sum_le (λ y hy'=>(hy y hy').1) 0
  refine ⟨"",ys,rfl,rfl,?_,k _ M' ⟨by omega,ha⟩ b f⟩
  rw [e0]
  simp only [Nat.mul_zero,Nat.zero_add] at hsum ⊢
  have:=s16
  omega
theorem ix_at {M:MH}{ds:List PyData}{r:Int}(h0:0<=r)(h1:r < ds.length):∃ d,ixW M (.d (.list ds)) r=some (.d d)/\d∈ds:=by
 have hn:r.toNat < ds.length:=by omega
 refine ⟨ds[r.toNat],?_,List.getElem_mem hn⟩
 simp only [ixW,atI,ixN_nat h0 h1,Option.bind_some,List.getElem?_eq_getElem hn,Option.map_some]
theorem ix_str_in {M:MH}{zs:List Str}{r:Int}(h0:0<=r)(h1:r < zs.length):∃ z,ixW M (.d (.list (zs.map PyData.str))) r=some (.d (.str z))/\z∈zs:=by
 obtain ⟨d,e,hd⟩:=ix_at (M:=M) (ds:=zs.map PyData.str) h0 (by simpa using h1)
 obtain ⟨i,hi,rfl⟩:=List.mem_map.mp hd
 exact ⟨i,e,hi⟩
theorem bag_at {M:MH}{p:Addr}(h:Bag M p):∃ o,M p=some o:=by obtain ⟨a,b,c,ns,e,_⟩:=h; exact ⟨_,e⟩
theorem bag_keep {M M':MH}{p:Addr}(h:Bag M p)(e:M' p=M p):Bag M' p:=by
 obtain ⟨a,b,c,ns,h1,h2⟩:=h
 exact ⟨a,b,c,ns,e.trans h1,h2⟩
end Stc
namespace D
open PySem PySem.Spec PyProof.Rows L2
section
variable {X:Cx}{pos:Pos}{e:Expr}{te:TD}
end
section
variable {X:Cx}{tg a b c:Expr}{p pos:Pos}
end
section
variable {K:PySem.W.Frag}
variable {X:Cx}{sc:Scope}{own:List Str}{fr:List Nat}{di:TId}{g:TGd}{tt:TTd}{te:TD}{tg iter elt:Expr}{ifs:List Expr}{pos:Pos}
end
section
variable {X:Cx}{K:PySem.W.Frag}
end
end D
namespace D
open PySem PySem.Spec PyProof.Rows L2
section
variable {X:Cx}{o:Expr}{to:TE}{apos cpos p pos kpos kp:Pos}{j:Nat}
theorem vals_ints:∀ {ns:List Int} {kvs:List (Key×V)} {vs:List (Key×Value)} {us:List Value},KV kvs vs->kvs.map (·.2)=ns.map V.int->us.length=vs.length->(∀ (i:Nat) v,us[i]? = some v->∃ k,vs[i]? = some (k,v))->IntsAre us ns
 | [],kvs,vs,us,r,h,hl,hp=>by
  have e:kvs=[]:=by simpa using h
  subst e
  cases r
  have e:us=[]:=by simpa using hl
  subst e
  exact .nil
 | n :: ns,kvs,vs,us,r,h,hl,hp=>by
  match kvs,us,r,h,hl,hp with
  | (k,x) :: kvs,u :: us,.cons (b:=b) r1 r2,h,hl,hp =>
   simp only [List.map_cons,List.cons.injEq] at h
   obtain ⟨k',e⟩:=hp 0 u rfl
   simp at e
   have hx:=r1.2
   rw [h.1,e] at hx
   obtain ⟨t,et⟩:=(show ∃ t,u=Value.int n t from hx)
   subst et
   exact .cons n t (vals_ints r2 h.2 (by simpa using hl) λ i v hi=>by simpa using hp (i+1) v (by simpa using hi))
  | [],_,r,h,_,_=>simp at h
  | _ :: _,[],.cons _ _,_,hl,_=>simp at hl
end
section
variable {X:Cx}{o:Expr}{td:TD}{apos cpos p pos kpos kp:Pos}{j:Nat}
end
namespace Q
section
variable {X:Cx}{pos:Pos}{e:Expr}{te:TD}
variable {tg a b c iter elt:Expr}{p:Pos}{sc:Scope}{own:List Str}{fr:List Nat}{di:TId}{g:TGd}{tt:TTd}{ifs:List Expr}
variable {o:Expr}{td:TD}{apos cpos kpos kp:Pos}{j:Nat}
end
end Q
end D
namespace D
open PySem PySem.Spec PyProof.Rows L2
section
variable {P:Program}{w:World}{K:PySem.W.Frag}{mg:Str->Option Value}{base h:Heap}
end
section
variable {X:Cx}{pos p:Pos}{k:Nat}{f:Addr}{fd:FuncData}{ps:List Str}{sp:SpD}{x:Str}{e:Expr}{es:List Expr}{t:TAd}{d:Int}
end
end D
namespace D
open PySem PySem.Spec PyProof.Rows L2
section
variable {X:Cx}{pins:List (Addr×Obj)}{σ:St}{H:Hp}{s:Shared}{h':Heap}
theorem Inv.turnedL {t':Nat}{ch:List Addr}(I:Inv X pins σ H s)(k:∀ b o,b ∉ ch->s.heap.get? b=some o->h'.get? b=some o)(f:∀ b∈ch,FpOk X pins H b):Inv X pins σ H { s with heap:=h',toks:=t' }:=by
 have nin:∀ b u,H b=some u->b ∉ ch:=λ b u q z=>by rw [(f b z).1] at q; cases q
 refine I.step (g':=s.gens) (d':=s.drawn) (ch:=ch) (λ b hb=>?_) (λ b o _ _ hc q _=>k b o hc q) (λ b o _ _ hc q _=>⟨o.slots,k b o hc q⟩) (λ _ _ _ _ n=>n)
  (λ b o hc q=>⟨o,k b o hc q⟩) (λ _ _ q=>q) (λ _ _ _ q=>q) (λ b ps q=>⟨#[],by rw [q]; simp⟩) (λ m hm=>?_) (λ b u q=>?_) I.bare
 ·obtain ⟨f0,f1,f2,f3,f4,f5⟩:=f b hb
  exact ⟨f3,f1,f4,f5⟩
 ·obtain ⟨o,es,ep,ho,r⟩:=hm
  exact ⟨o,es,ep,k _ o (λ z=>(f _ z).2.1 rfl) ho,r⟩
 ·refine (I.hok b u q).stay (λ c v hc z=>k c v ?_ z) (λ _ z=>z) λ _ _ z=>z
  rcases hc with z | z
  ·rw [z]; exact nin b u q
  ·exact nin c _ z
end
theorem bt_zip:bootBuiltins "zip" = some (.type "zip"):=by decide +kernel
section
variable {X:Cx}{a b:Expr}{p pos:Pos}{ta:TA}
end
section
variable {X:Cx}{K:PySem.W.Frag}{a b:Expr}{p pos:Pos}{t:TAd}
noncomputable def zipW (ds es:List PyData):List W:=(List.range (min ds.length es.length)).map λ i=>.d (.tuple [ds.getD i .none,es.getD i .none])
end
section
variable {X:Cx}{pos:Pos}
noncomputable def dWhile (c:TTd)(tb:TSd)(D:Ed)(τ:DS)(M:MH):Prop:=∃ P:Nat->DS->MH->Prop,(∃ m,P m τ M)/\∀ m τ M,P m τ M ->
 c τ M λ b M1=>if b=true then tb { D with nx:=λ τ' M'=>∃ m',m' < m/\P m' τ' M',ct:=λ τ' M'=>∃ m',m' < m/\P m' τ' M',bk:=D.nx } τ M1 else D.nx τ M1
theorem psd_while {c:Expr}{body:List Stmt}{tc:TTd}{tb:TSd}(hp:PassesOwn (model X.prog X.w) X.A X.env X.xe)(hc:PTd X c tc)(hb:PSsd X body tb):PSd X (.While c body [] pos) (dWhile tc tb) :=
 ps_w (ps_while hp hc hb) λ D σ H hq69=>by
  obtain ⟨τ,M,Dd,A,⟨P,⟨m0,p0⟩,step⟩,k1,k2,k3,k4⟩:=hq69
  refine ⟨λ m σ' H'=>Kp H H'/\∃ τ' M',Abs X.K H' σ' τ' M'/\P m τ' M',⟨m0,Kp.refl _,τ,M,A,p0⟩,?_⟩
  rintro m σ1 H1 ⟨kp,τ1,M1,A1,p1⟩
  refine ⟨τ1,M1,_,A1,step m τ1 M1 p1,λ b H2 M2 kp2 m2 q=>?_⟩
  have kq:=kp.trans kp2
  cases b with
  | false =>
   rw [if_neg Bool.false_ne_true] at q
   exact iteF (k1 _ H2 _ M2 kq (A1.go kp2 m2) q)
  | true =>
   rw [if_pos rfl] at q
   refine iteT ⟨λ σ' H'=>Kp H2 H'/\∃ m',m' < m/\∃ τ' M',Abs X.K H' σ' τ' M'/\P m' τ' M',λ σ' H' ⟨kp3,m',hm,τ',M',A',p'⟩=>⟨m',hm,kq.trans kp3,τ',M',A',p'⟩,?_⟩
   exact ⟨τ1,M2,_,A1.go kp2 m2,q,λ σ3 H3 τ3 M3 kp3 A3 ⟨m',hm,p'⟩=>⟨kp3,m',hm,τ3,M3,A3,p'⟩,λ v H3 w M3 kp3=>k2 v H3 w M3 (kq.trans kp3),λ σ3 H3 τ3 M3 kp3=>k1 σ3 H3 τ3 M3 (kq.trans kp3),λ σ3 H3 τ3 M3 kp3 A3 ⟨m',hm,p'⟩=>⟨kp3,m',hm,τ3,M3,A3,p'⟩⟩
end
end D
namespace Q
open PySem PySem.Spec PyProof.Rows L2 D
section
variable {X:Cx}{a b:Expr}{p pos:Pos}
theorem psd_while {c:Expr}{body:List Stmt}{tc:TTd}{tb:TSd}(hp:PassesOwn (model X.prog X.w) X.A X.env X.xe)(hc:Jd (PTd X c tc))(hb:Jd (PSsd X body tb)):Jd (PSd X (.While c body [] pos) (dWhile tc tb)):=⟨D.psd_while hp hc.h hb.h⟩
end
end Q
namespace Stc
open PySem PySem.Spec PyProof.Rows L2 D Rc
noncomputable abbrev N_is_word:List Str:=["thing"]
noncomputable def t_is_word:TSd :=
  dSeq (dIf (dOr (dNot (dTest (dCB rdIsiT (dCons (dVar 0) (dCons (dC (.t "str")) (dNil)))))) (dNot (dTest (dChain rdLe rdLe (dC (.d (.int 1))) (dCB rdLen (dCons (dVar 0) (dNil))) (dC (.d (.int 8)))))))
   (dRet (dC (.d (.bool false))))
   (dNext)) <|
  dRet (dCB rdAll (dCons (dLC (dItems (dVar 0)) (gN 0) (dYes) (dChain rdLe rdLe (dC (.d (.str "a"))) (dVar 0) (dC (.d (.str "z")))) 1 []) (dNil)))
noncomputable abbrev N_is_whole:List Str:=["thing"]
noncomputable def t_is_whole:TSd :=
  dRet (dAndV (dCB rdIsiT (dCons (dVar 0) (dCons (dC (.t "int")) (dNil)))) (dNotV (dCB rdIsiT (dCons (dVar 0) (dCons (dC (.t "bool")) (dNil))))))
noncomputable abbrev N_is_within:List Str:=["thing", "low", "high"]
noncomputable def t_is_within (sp_is_whole:SpD):TSd :=
  dRet (dAndV (dCall sp_is_whole (dCons (dVar 0) (dNil))) (dChain rdLe rdLe (dVar 1) (dVar 0) (dVar 2)))
noncomputable def Ext (M M':MH):Prop:=∀ q o,M q=some o->M' q=some o
theorem Ext.refl (M:MH):Ext M M:=λ _ _ h=>h
theorem Ext.trans {A B C:MH}(h:Ext A B)(k:Ext B C):Ext A C:=λ q o e=>k q o (h q o e)
theorem Ext.new {M:MH}{p:Addr}{o:MO}(h:M p=none):Ext M (updM M p o):=λ q u e=>upd_get e h
theorem Ext.del {M M':MH}{p:Addr}(h:Ext M M')(hp:M p=none):Ext M (delM M' p):=λ q u e=>by
 have hq:q≠p:=ne_new e hp
 simp only [delM,if_neg hq]
 exact h q u e
theorem Ext.upd {M M':MH}{p:Addr}{o:MO}(h:Ext M M')(hp:M p=none):Ext M (updM M' p o):=λ q u e=>by
 rw [updM_ne (ne_new e hp)]
 exact h q u e
theorem Ext.none {M M':MH}{p:Addr}(h:Ext M M')(hp:M' p=none):M p=none:=by
 cases e:M p with
 | none=>rfl
 | some o=>rw [h p o e] at hp; cases hp
theorem Ext.bag {M M':MH}{p:Addr}(h:Ext M M')(hb:Bag M p):Bag M' p:=by
 obtain ⟨a,b,c,ns,e,z⟩:=hb
 exact ⟨a,b,c,ns,h _ _ e,z⟩
theorem lc_rows {α:Type}{gt:TGd}{te:TD}{Q:List PyData->DS->MH->Prop}{τ0:DS}{M:MH}(L:List α)(g:α->W)(f:α->PyData)(S:DS->Prop)(hL:L.length<=1000)(h0:S τ0)
  (step:∀ a∈L,∀ τ,S τ->∀ R:PyData->DS->MH->Prop,(∀ τ2,S τ2->R (f a) τ2 M)->gt (g a) τ M λ τ2 M2=>te τ2 M2 λ y M4=>∃ d,y=.d d/\R d τ2 M4)
  (q:∀ τ,Q (L.map f) τ M) :
  ∃ P:Nat->List PyData->DS->MH->Prop,P 0 [] τ0 M /\
   (∀ i w acc τ M,(L.map g)[i]? = some w->P i acc τ M->acc.length < sizeLine/\gt w τ M λ τ2 M2=>dYes τ2 M2 λ b M3=>if b=true then te τ2 M3 λ y M4=>∃ d,y=.d d/\P (i+1) (acc++[d]) τ2 M4 else P (i+1) acc τ2 M3) /\
   ∀ acc τ M,P (L.map g).length acc τ M->Q acc τ M:=by
 refine ⟨λ i acc τ M'=>M'=M/\acc=(L.take i).map f/\S τ,⟨rfl,rfl,h0⟩,?_,?_⟩
 ·rintro i w acc τ M' hw ⟨rfl,rfl,hs⟩
  rw [List.getElem?_map] at hw
  cases e:L[i]? with
  | none=>rw [e] at hw; cases hw
  | some a =>
   rw [e] at hw
   cases hw
   have hi:=(List.getElem?_eq_some_iff.mp e).1
   refine ⟨by rw [List.length_map,List.length_take]; have:=s16; omega,?_⟩
   refine step a (List.mem_of_getElem? e) τ hs (λ d τ2 M4=>M4=M'/\(L.take i).map f++[d]=(L.take (i+1)).map f/\S τ2) λ τ2 h2=>⟨rfl,?_,h2⟩
   rw [List.take_succ,e]
   simp
 ·rintro acc τ M' ⟨rfl,rfl,hs⟩
  rw [List.length_map,List.take_length]
  exact q τ
noncomputable abbrev Dm:=List (Str×Int)
noncomputable def gI (r:Str×Int):PyData:=.int r.2
noncomputable def Dc (M:MH)(a:Addr)(D:Dm):Prop:=M a=some (.dic (dataKV (rk Prod.fst gI D)))
noncomputable def val (D:Dm)(k:Str):Int:=((fd Prod.fst D k).map (·.2)).getD 0
noncomputable def more (D:Dm)(k:Str)(n:Int):Dm:=pt Prod.fst D (k,val D k+n)
noncomputable def vals (D:Dm):List Int:=D.map λ r=>r.2
noncomputable def dsc (ns:List Int):List Int:=ns.mergeSort λ a b=>decide (a >= b)
noncomputable def room (rs:List Int)(i:Int):Int:=(rs.map λ m=>if i < m then i else m).sum
noncomputable def fitL (rs:List Int)(ns:List Int):Bool:=(List.range ns.length).all λ i=>decide ((ns.take (i+1)).sum<=room rs ((i:Int)+1))
noncomputable def fitD (rs:List Int)(D:Dm):Bool:=fitL rs (dsc (vals D))
noncomputable def OkR (rs:List Int):Prop:=rs.length<=8/\∀ m∈rs,0<=m/\m<=6
noncomputable def gr (rs:List Int)(D:Dm)(k:Str):Nat->Int
 | 0=>0
 | n+1=>if fitD rs (more D k ((n:Int)+1))=true then (n:Int)+1 else gr rs D k n
theorem sealed {M:MH}{l:Addr}{o:MO}(hl:M l=none):Ext M (delM (updM M l o) l):=(Ext.new hl).del hl
noncomputable abbrev Bs:=List (Str×Int)
noncomputable abbrev As:=List (Str×Str×Int)
noncomputable def rooms (B:Bs):List Int:=B.map (·.2)
theorem map_at {α β:Type}{L:List α}{f:α->β}{i:Nat}{w:β}(h:(L.map f)[i]? = some w):∃ a,L[i]? = some a/\w=f a:=by
 rw [List.getElem?_map] at h
 cases e:L[i]? with
 | none=>rw [e] at h; cases h
 | some a=>rw [e] at h; cases h; exact ⟨a,rfl,rfl⟩
theorem rng_at {lo:Int}{n i:Nat}{w:W}(h:(rangeW lo n)[i]? = some w):i < n/\w=.d (.int (lo+(i:Int))):=by
 unfold rangeW at h
 obtain ⟨j,hj,rfl⟩:=map_at h
 obtain ⟨h1,h2⟩:=List.getElem?_eq_some_iff.mp hj
 simp at h1 h2
 subst h2
 exact ⟨h1,rfl⟩
noncomputable def stp (rs:List Int)(s:Dm×As)(r:Str×Str×Int):Dm×As :=
 (more s.1 r.2.1 (gr rs s.1 r.2.1 r.2.2.toNat),s.2++[(r.1,r.2.1,gr rs s.1 r.2.1 r.2.2.toNat)])
noncomputable def run (rs:List Int)(A:As):Dm×As:=A.foldl (stp rs) ([],[])
noncomputable def OkC (A:As):Prop:=A.length<=8/\∀ r∈A,0<=r.2.2/\r.2.2<=6
noncomputable def smallB (c:Nat):Bool:=decide (97<=c) && decide (c<=122)
noncomputable def wd (z:Str):Bool:=decide (1<=z.length) && decide (z.length<=8) && z.cps.toList.all smallB
theorem wd_len {z:Str}(h:wd z=true):1<=z.length/\z.length<=8:=by simp [wd] at h; exact h.1
theorem wd_all {z:Str}(h:wd z=true):∀ c∈z.cps.toList,smallB c=true:=by simp only [wd,Bool.and_eq_true,List.all_eq_true] at h; exact h.2
theorem wd_asc {z:Str}(h:wd z=true):ascB z=true:=by
 have:=wd_all h
 unfold ascB
 rw [<- Array.all_toList,List.all_eq_true]
 intro c hc
 have:=this c hc
 simp [smallB] at this
 simp
 omega
theorem ite_y {c:Bool}{A B:Prop}(e:c=true)(h:A):if c=true then A else B:=by rw [e]; exact iteT h
theorem ite_n {c:Bool}{A B:Prop}(e:c=false)(h:B):if c=true then A else B:=by rw [e]; exact iteF h
theorem lt1 (a b:Nat):decide ([a] < [b])=decide (a < b):=by
 by_cases h:a < b
 ·rw [decide_eq_true h]; exact decide_eq_true (List.cons_lt_cons_iff.mpr (.inl h))
 ·rw [decide_eq_false h]
  refine decide_eq_false λ z=>?_
  rcases List.cons_lt_cons_iff.mp z with q | ⟨_,q⟩
  ·exact h q
  ·exact absurd q (by simp)
theorem isi_i (i:Int):isiD (.int i) "int" = true:=by simp [isiD,tyD]
theorem isi_ib (i:Int):isiD (.int i) "bool" = false:=by simp [isiD,tyD]
theorem isi_s (z:Str):isiD (.str z) "str" = true:=by simp [isiD,tyD]
theorem isi_t (ds:List PyData):isiD (.tuple ds) "tuple" = true:=by simp [isiD,tyD]
noncomputable def sp_is_whole:SpD:=λ ws M Q=>∃ i:Int,ws=[.d (.int i)]/\Q (.d (.bool true)) M
theorem len_is_whole:∀ ws M Q,sp_is_whole ws M Q->ws.length=1:=by rintro ws M Q ⟨d,rfl,_⟩; rfl
theorem read_is_whole:∀ ws M Q,sp_is_whole ws M Q->t_is_whole { nx:=λ _ M'=>Q (.d .none) M',rt:=Q } (startD N_is_whole ws) M:=by
 rintro ws M Q ⟨i,rfl,k⟩
 refine ⟨_,rfl,_,_,_,rfl,.d,.int,_,rfl,?_⟩
 rw [isi_i]
 refine iteT ⟨_,rfl,_,_,_,rfl,.d,.bool,_,rfl,?_⟩
 rw [isi_ib]
 exact k
noncomputable def sp_is_within:SpD:=λ ws M Q=>∃ i lo hi:Int,ws=[.d (.int i),.d (.int lo),.d (.int hi)]/\lo<=i/\i<=hi/\Q (.d (.bool true)) M
theorem len_is_within:∀ ws M Q,sp_is_within ws M Q->ws.length=3:=by rintro ws M Q ⟨i,lo,hi,rfl,_⟩; rfl
theorem read_is_within:∀ ws M Q,sp_is_within ws M Q->t_is_within sp_is_whole { nx:=λ _ M'=>Q (.d .none) M',rt:=Q } (startD N_is_within ws) M:=by
 rintro ws M Q ⟨i,lo,hi,rfl,h1,h2,k⟩
 refine ⟨_,rfl,i,rfl,_,rfl,iteT ⟨_,rfl,_,rfl,.inl ⟨_,_,rfl,rfl,_,rfl,?_⟩⟩⟩
 rw [decide_eq_true h1]
 refine iteT ⟨_,rfl,.inl ⟨_,_,rfl,rfl,?_⟩⟩
 rw [show ((λ i j:Int=>PyData.bool (decide (i<=j))) i hi)=.bool true from congrArg PyData.bool (decide_eq_true h2)]
 exact k
noncomputable def sp_is_word:SpD:=λ ws M Q=>∃ z:Str,ws=[.d (.str z)]/\wd z=true/\Q (.d (.bool true)) M
theorem len_is_word:∀ ws M Q,sp_is_word ws M Q->ws.length=1:=by rintro ws M Q ⟨d,rfl,_⟩; rfl
theorem read_is_word:∀ ws M Q,sp_is_word ws M Q->t_is_word { nx:=λ _ M'=>Q (.d .none) M',rt:=Q } (startD N_is_word ws) M:=by
 rintro ws M Q ⟨z,rfl,hz,k⟩
 have hl:=wd_len hz
 have hfit:fitW (.d (.str z))=true:=decide_eq_true (few (by omega))
 refine ⟨_,rfl,_,_,_,rfl,.d,.str,_,rfl,?_⟩
 rw [isi_s]
 refine iteF ⟨_,rfl,_,_,rfl,rfl,hfit,.inl ⟨_,_,rfl,rfl,_,rfl,?_⟩⟩
 rw [decide_eq_true (show (1:Int)<=(z.length:Nat) by omega)]
 refine iteT (.inl ⟨_,_,rfl,rfl,_,rfl,?_⟩)
 rw [decide_eq_true (show ((z.length:Nat):Int)<=8 by omega)]
 refine iteF ⟨_,rfl,_,rfl,?_⟩
 dsimp only
 have ea:("a" : Str).cps.toList=[97]:=by decide +kernel
 have ez:("z" : Str).cps.toList=[122]:=by decide +kernel
 refine lc_rows z.cps.toList (λ c=>W.d (.str ⟨#[c]⟩)) (λ c=>.bool true) (λ τ=>∃ x,τ=[x]) (by rw [str_len]; omega) ⟨_,rfl⟩ (λ c hc τ hτ R h=>?_) (λ τ=>?_)
 ·obtain ⟨x,rfl⟩:=hτ
  have hs:=wd_all hz c hc
  simp [smallB] at hs
  have q1:(!decide ((⟨#[c]⟩:Str).cps.toList < ("a" : Str).cps.toList))=true:=by rw [ea,show (⟨#[c]⟩:Str).cps.toList=[c] from rfl,lt1]; simp; omega
  have q2:(!decide (("z" : Str).cps.toList < (⟨#[c]⟩:Str).cps.toList))=true:=by rw [ez,show (⟨#[c]⟩:Str).cps.toList=[c] from rfl,lt1]; simp; omega
  refine ⟨_,rfl,.inr ⟨_,_,rfl,rfl,_,rfl,?_⟩⟩
  refine ite_y q1 (.inr ⟨_,_,rfl,rfl,?_⟩)
  refine ⟨_,rfl,?_⟩
  have:=h [some (.d (.str ⟨#[c]⟩))] ⟨_,rfl⟩
  rw [<- q2] at this
  exact this
 ·refine ⟨z.cps.toList.map λ _=>true,by rw [List.map_map]; rfl,?_⟩
  rw [show (z.cps.toList.map λ _=>true).all id=true from by rw [List.all_eq_true]; intro b hb; obtain ⟨_,_,rfl⟩:=List.mem_map.mp hb; rfl]
  exact k
noncomputable def OkRow (r:Str×Int):Prop:=wd r.1=true/\0<=r.2/\r.2<=6
noncomputable def lsS (a b:Str):Bool:=decide (a.cps.toList < b.cps.toList)
structure OkB (B:Bs):Prop where
 len:B.length<=8
 row:∀ r∈B,OkRow r
 up:∀ i r s,B[i]? = some r->B[i+1]? = some s->lsS r.1 s.1=true
theorem ix_map {α:Type}{M:MH}{L:List α}{f:α->PyData}{i:Nat}{r:α}{j:Int}(hj:j=(i:Int))(h:L[i]? = some r):ixW M (.d (.list (L.map f))) j=some (.d (f r)):=by
 subst hj
 have hi:=(List.getElem?_eq_some_iff.mp h).1
 simp only [ixW,atI]
 rw [ixN_nat (by omega) (by rw [List.length_map]; omega)]
 simp [h]
structure OkAr (r:Str×Str×Int):Prop where
 w:wd r.1=true
 k:wd r.2.1=true
 c0:0<=r.2.2
 c6:r.2.2<=6
structure OkA (A:As):Prop where
 len:A.length<=8
 row:∀ r∈A,OkAr r
 nd:(A.map λ r=>r.1).Nodup
theorem OkA.c {A:As}(h:OkA A):OkC A:=⟨h.len,λ r hr=>⟨(h.row r hr).c0,(h.row r hr).c6⟩⟩
theorem OkB.r {B:Bs}(h:OkB B):OkR (rooms B):=⟨by unfold rooms; rw [List.length_map]; exact h.len,λ m hm=>by obtain ⟨r,hr,rfl⟩:=List.mem_map.mp hm; exact (h.row r hr).2⟩
noncomputable def tailB (k:Nat):Str:=Txt.mul ⟨#[("abcdefgh" : Str).cps.toList.getD k 0]⟩ (1+(0+(k:Int)) % 2)
end Stc
namespace HT
open PySem PyProof.Rows
section
open PySem.SeqAt
open PySem.AutoSeq1 (wpAny_loadPart')
open PySem.MeetsSeq PySem.MeetsSeq2 PySem.MeetsSeq3
end
section
variable {prog:Program}{w:World}{A:Around}{E:Value->Shared->Prop}{s:Shared}
end
end HT
namespace D
open PySem PySem.Spec PyProof.Rows L2
section
variable {X:Cx}{K:PySem.W.Frag}
end
end D
namespace Stc
open PySem PySem.Spec PyProof.Rows L2 D Rc
noncomputable def exc (t:Int)(xs:List Int):Int:=(xs.map λ x=>if t < x then x - t else 0).sum
noncomputable def Dom (xs ys:List Int):Prop:=∀ t,0<=t->exc t xs<=exc t ys
theorem Dom.refl (xs:List Int):Dom xs xs:=λ _ _=>Int.le_refl _
theorem Dom.trans {xs ys zs:List Int}(h:Dom xs ys)(k:Dom ys zs):Dom xs zs:=λ t ht=>Int.le_trans (h t ht) (k t ht)
end Stc
namespace D
open PySem PySem.Spec PyProof.Rows L2
section
variable {X:Cx}{o:Expr}{to:TE}{p pos kpos kp:Pos}{j:Nat}
end
section
variable {X:Cx}{o:Expr}{td:TD}{p pos kpos kp:Pos}{j:Nat}
end
end D
namespace Q
open PySem PySem.Spec PyProof.Rows L2 D
section
variable {X:Cx}{o:Expr}{td:TD}{p pos kpos kp:Pos}{j:Nat}
end
end Q
namespace L2
open PySem PySem.Spec PyProof.Rows
section
variable {prog:Program}{w:World}{A:Around}{E:Value->Shared->Prop}{R:Result->Shared->Prop}{s:Shared}
end
section
variable {X:Cx}{pins:List (Addr×Obj)}{σ:St}{H:Hp}{s:Shared}{a:Addr}{u r:Value}{v:V}{A:Around}{E:Value->Shared->Prop}
end
noncomputable abbrev DcW:=Nat->Nat->St->Hp->Prop
section
variable {X:Cx}{pins:List (Addr×Obj)}{σ:St}{H:Hp}{s:Shared}{sc:Scope}{own:List Str}{fr:List Nat}{cl:List (Str×Addr)}{fp:List Addr}{it D:Addr}{J:It}{tn:Nat->Heap->Prop}{g:TG}{tt:TT}{tk tv:TE}{W:DcW}{Fin:Hp->Prop}
 {kx vx tg iter:Expr}{ifs:List Expr}{pos:Pos}{E:Value->Shared->Prop}
end
end L2
namespace D
open PySem PySem.Spec PyProof.Rows L2
section
variable {K:PySem.W.Frag}
variable {X:Cx}{sc:Scope}{own:List Str}{fr:List Nat}{di:TId}{g:TGd}{tt:TTd}{tk tv:TD}{tg iter kx vx:Expr}{ifs:List Expr}{pos:Pos}
end
end D
namespace Q
open PySem PySem.Spec PyProof.Rows L2 D
section
variable {X:Cx}{sc:Scope}{own:List Str}{fr:List Nat}{di:TId}{g:TGd}{tt:TTd}{tk tv:TD}{tg iter kx vx:Expr}{ifs:List Expr}{pos:Pos}
end
end Q
namespace L2
open PySem PySem.Spec PyProof.Rows
section
variable {X:Cx}{sc:Scope}{own:List Str}{fr:List Nat}{g:TG}{tt:TT}{tk tv:TE}{kx vx tg iter:Expr}{ifs:List Expr}{pos:Pos}
end
end L2
namespace D
open PySem PySem.Spec PyProof.Rows L2
section
variable {X:Cx}{sc:Scope}{own:List Str}{fr:List Nat}{di:TId}{g:TGd}{tt:TTd}{tk tv:TD}{tg iter kx vx:Expr}{ifs:List Expr}{pos:Pos}
end
end D
namespace Q
open PySem PySem.Spec PyProof.Rows L2 D
section
variable {X:Cx}{sc:Scope}{own:List Str}{fr:List Nat}{di:TId}{g:TGd}{tt:TTd}{tk tv:TD}{tg iter kx vx:Expr}{ifs:List Expr}{pos:Pos}
end
end Q
namespace D
open PySem PySem.Spec PyProof.Rows L2
section
variable {X:Cx}{C:Addr}{o value:Expr}{fn:Str}{pos tpos:Pos}{td tv:TD}
end
end D
namespace Q
open PySem PySem.Spec PyProof.Rows L2 D
section
variable {X:Cx}{C:Addr}{o value:Expr}{fn:Str}{pos tpos:Pos}{td tv:TD}
end
end Q
namespace D
open PySem PySem.Spec PyProof.Rows L2
section
variable {X:Cx}{tg o:Expr}{apos cpos:Pos}{td:TE}
end
section
variable {X:Cx}{K:PySem.W.Frag}{tg o:Expr}{apos cpos:Pos}{td:TD}
end
end D
namespace Q
open PySem PySem.Spec PyProof.Rows L2 D
section
variable {X:Cx}{tg o:Expr}{apos cpos:Pos}{td:TD}
end
end Q
namespace D
open PySem PySem.Spec PyProof.Rows L2
section
variable {X:Cx}{K:PySem.W.Frag}
end
end D
namespace D
open PySem PySem.Spec PyProof.Rows L2
section
variable {X:Cx}{o:Expr}{to:TE}{apos cpos p pos:Pos}
end
section
variable {X:Cx}{o:Expr}{td:TD}{apos cpos p pos:Pos}
namespace Q
end Q
end
end D
namespace PySem
namespace Dp
theorem entry_upd:entryFor table "dict.update.loop" = some Builtin.«dict.update.loop»:=entryFor_of_tree (by kernel_rfl)
theorem plain_upd:plainId "dict.update.loop" = true:=by decide +kernel
section
variable {prog:Program}{w:World}{A:Around}{E:Value->Shared->Prop}{s:Shared}
variable {K:Type}[DecidableEq K]{knd:KeyKind prog w K}
theorem loop {I D l:Addr}{items:Array Value}{kvs:List (K×Value)}{R:Result->Shared->Prop}{h0:Heap}(hh:A.handled=none)(hDI:D≠I)(hDl:D≠l)(hlI:l≠I)(hsz:kvs.length<=sizeLine)(hlen:items.size=kvs.length)
  (ht:∀ i (hi:i < kvs.length),∃ a key k dct sl,items[i]? = some (.ref a)/\a≠D/\a≠I/\knd.is kvs[i].1 key=true/\h0.get? a=some { cls:=.type "tuple",dict:=dct,data:=.seq #[key,kvs[i].2] k,slots:=sl }) :
  ∀ (j i:Nat) (s:Shared),kvs.length - i=j->i<=kvs.length->s.heap.IsListIter I l i->s.heap.IsList l items->s.heap.DictOf knd D (merged [] (kvs.take i))->(∀ b o,b≠D->b≠I->h0.get? b=some o->s.heap.get? b=some o) ->
   (∀ h' tk,h'.DictOf knd D (merged [] kvs)->(∀ b o,b≠D->b≠I->h0.get? b=some o->h'.get? b=some o)->R (.ok (.ret .none)) { s with heap:=h',toks:=tk }) ->
   codeAny (model prog w) A (.builtin "dict.update.loop" ⟨[.ref D,.ref I,rawInt i,.none],[]⟩) R s:=by
 intro j
 induction j with
 | zero =>
  intro i s hj hi hit hl hd hk hR
  have hin:i=kvs.length:=by omega
  subst hin
  refine codeAny_builtin entry_upd ?_
  rw [Around.under_plainId plain_upd _]
  show wpAny _ A.in1 (pyNext (.ref I) >>= _) _ _ s
  refine wpAny_bind (wpAny_pyNext_list_end (by simpa using hh) hit hl (by simp [hlen]) λ h' he'=>?_)
  show wpAny _ A.in1 (Builtin.Dict.addKeywords D [] >>= _) _ _ _
  refine wpAny_bind (wpAny_pure (wpAny_pure ?_))
  rw [List.take_length] at hd
  refine hR h' s.toks ?_ λ b o b1 b2 e=>he' b o b2 (hk b o b1 b2 e)
  obtain ⟨o,es,ep,ho,rest⟩:=hd
  exact ⟨o,es,ep,he' D o hDI ho,rest⟩
 | succ j ih =>
  intro i s hj hi hit hl hd hk hR
  have hlt:i < kvs.length:=by omega
  obtain ⟨a,key,k,dct,sl,e1,a1,a2,hkey,e2⟩:=ht i hlt
  refine codeAny_builtin entry_upd ?_
  rw [Around.under_plainId plain_upd _]
  show wpAny _ A.in1 (pyNext (.ref I) >>= _) _ _ s
  refine wpAny_bind (wpAny_pyNext_list_item hit hl e1 λ h' hit' hs'=>?_)
  have e3:h'.get? a=some { cls:=.type "tuple",dict:=dct,data:=.seq #[key,kvs[i].2] k,slots:=sl }:=hs'.extBut a _ a2 (hk a _ a1 a2 e2)
  have hT:Shared.TypeIs { s with heap:=h' } (.ref a) "tuple" := ⟨_,e3,rfl⟩
  have hd':h'.DictOf knd D (merged [] (kvs.take i)):=by
   obtain ⟨o,es,ep,ho,rest⟩:=hd
   exact ⟨o,es,ep,hs'.extBut D o hDI ho,rest⟩
  have hl':h'.IsList l items:=hl.extBut hs'.extBut hlI
  show wpAny _ A.in1 (holding [Value.ref a] _ >>= _) _ _ _
  refine wpAny_bind (wpAny_holding ?_)
  refine wpAny_bind (m:=tryCatch (Builtin.Dict.pairItems (.ref a)) _) (wpAny_tryCatch ?_)
  unfold Builtin.Dict.pairItems
  refine wpAny_bind (wpAny_typeOf hT ?_)
  rw [if_pos (by decide)]
  unfold seqItems?
  obtain ⟨hp,g,d,tk,os⟩:=s
  generalize hDS:dictSet=DS
  repeat (any_goals (first | assumption | wp_step))
  subst hDS
  have hl2:(merged [] (kvs.take i)).length<=sizeLine:=by have:=merged_length_le [] (kvs.take i); simp at this; omega
  refine wpAny_dictSet_pairs (hsz:=hl2) hkey hd' λ h2 hd2 hs2=>?_
  refine wpAny_pure ⟨plainId_quiet plain_upd _,ih (i+1) _ (by omega) hlt ?_ ?_ ?_ ?_ ?_⟩
  ·exact hit'.at λ o e=>hs2.extBut I o (Ne.symm hDI) e
  ·exact hl'.extBut hs2.extBut (Ne.symm hDl)
  ·rw [merged_take_succ [] kvs i kvs[i] (List.getElem?_eq_getElem hlt)]
   exact hd2
  ·exact λ b o b1 b2 e=>hs2.extBut b o b1 (hs'.extBut b o b2 (hk b o b1 b2 e))
  ·exact λ h' tk d k=>hR h' tk d k
end
end Dp
end PySem
namespace D
open PySem PySem.Spec PyProof.Rows L2
section
variable {X:Cx}{K:PySem.W.Frag}
end
end D
namespace Stc
open PySem PySem.Spec PyProof.Rows L2 D Rc
noncomputable def LayR:List Int->List Int->Prop
 | _,[]=>True
 | rs,d :: ds=>∃ T U:List Int,(T++U).Perm rs/\(T.length:Int)=d/\(∀ t∈T,0 < t)/\LayR (T.map (λ m=>m - 1)++U) ds
theorem LayR.perm {rs rs':List Int}(h:rs.Perm rs'):∀ {ds:List Int},LayR rs ds->LayR rs' ds
 | [],_=>trivial
 | d :: ds,⟨T,U,p,l,t,k⟩=>⟨T,U,p.trans h,l,t,k⟩
end Stc
namespace D
open PySem PySem.Spec PyProof.Rows L2
section
variable {X:Cx}{K:PySem.W.Frag}
theorem Abs.back {H:Hp}{σ:St}{τ:DS}{M:MH}{a:Addr}{o:Obj}{l:List (Key×V)}{kvs:List (Key×W)}(h:H a=some (.frz o (.frz o (.dK l))))(A:Abs K H σ τ M)(e:M a=some (.fdic kvs)):Abs K (upd H a (.dK l)) σ τ (updM M a (.dic kvs)) :=
 ⟨A.len,λ i w q=>let ⟨v,q1,r⟩:=A.val i w q; ⟨v,q1,RepW.back h r⟩,MAbs.back h A.mem e⟩
end
namespace Q
section
variable {X:Cx}{pos:Pos}
end
end Q
end D
namespace S
open PySem PySem.W PyProof.Rows
section
variable {N:Nat}
noncomputable def PR (N:Nat)(p:Array Nat):Prop:=p.Perm (List.toArray (List.range N))
theorem PR.low (hN:1<=N){p:Array Nat}(h:PR N p):Low N p:=.of hN λ x hx=>by
 have:=(Array.perm_iff_toList_perm.mp h).mem_iff.mp hx
 simpa using this
theorem PR.rev {p:Array Nat}{i j:Nat}(h:PR N p):PR N (kas_rev p i j):=(mirror_perm _ _ _ _:(kas_rev p i j).Perm p).trans h
end
end S
namespace D
open PySem PySem.Spec PyProof.Rows L2 S
section
variable {X:Cx}{K:PySem.W.Frag}
end
end D
namespace D
open PySem PySem.Spec PyProof.Rows L2
mutual
noncomputable def RepN (K:PySem.W.Frag)(H:Hp):PyData->V->Prop
 | .list ds,x=>RepD K H (.list ds) x\/∃ a vs,x=.ref a/\H a=some (.lst vs)/\RepNs K H ds vs
 | .tuple ds,x=>∃ a vs,x=.ref a/\SqT K H a vs/\RepNs K H ds vs
 | .none,x=>RepD K H .none x
 | .bool b,x=>RepD K H (.bool b) x
 | .int i,x=>RepD K H (.int i) x
 | .str z,x=>RepD K H (.str z) x
 | .dict kvs,x=>RepD K H (.dict kvs) x
noncomputable def RepNs (K:PySem.W.Frag)(H:Hp):List PyData->List V->Prop
 | [],l=>l=[]
 | d :: ds,l=>∃ v r,l=v :: r/\RepN K H d v/\RepNs K H ds r
end
mutual
theorem RepN.of {K:PySem.W.Frag}{H:Hp}:∀ {d:PyData} {x:V},RepD K H d x->RepN K H d x
 | .list ds,x,h=>by unfold RepN; exact .inl h
 | .tuple ds,x,h=>by
  unfold RepN
  simp only [RepD] at h
  obtain ⟨a,vs,e,s,r⟩:=h
  exact ⟨a,vs,e,s,RepNs.of r⟩
 | .none,x,h=>by unfold RepN; exact h
 | .bool b,x,h=>by unfold RepN; exact h
 | .int i,x,h=>by unfold RepN; exact h
 | .str z,x,h=>by unfold RepN; exact h
 | .dict kvs,x,h=>by unfold RepN; exact h
theorem RepNs.of {K:PySem.W.Frag}{H:Hp}:∀ {ds:List PyData} {xs:List V},RepA K H ds xs->RepNs K H ds xs
 | [],xs,h=>by unfold RepNs; simpa [RepA] using h
 | d :: ds,xs,h=>by
  unfold RepNs
  simp only [RepA] at h
  obtain ⟨v,r,e,h1,h2⟩:=h
  exact ⟨v,r,e,RepN.of h1,RepNs.of h2⟩
end
noncomputable def Tw (H H':Hp):Prop:=Kp H H'/\∀ b vs,H b=some (.lst vs)->H' b=some (.lst vs)\/∃ o,H' b=some (.frz o (.lst vs))
theorem Tw.refl (H:Hp):Tw H H:=⟨Kp.refl H,λ _ _ e=>.inl e⟩
theorem Tw.trans {A B C:Hp}(h:Tw A B)(k:Tw B C):Tw A C:=⟨h.1.trans k.1,λ b vs e=>by
 rcases h.2 b vs e with q | ⟨o,q⟩
 ·exact k.2 b vs q
 ·exact .inr ⟨o,k.1.frz b o _ q⟩⟩
section
variable {X:Cx}{pins:List (Addr×Obj)}{σ:St}{s:Shared}
end
end D
namespace D
open PySem PySem.Spec PyProof.Rows L2
section
variable {X:Cx}{pins:List (Addr×Obj)}{σ:St}{H:Hp}{s:Shared}
end
section
variable {X:Cx}
end
noncomputable def DatN (M:MH):Nat->W->PyData->Prop
 | 0,w,d=>w=.d d
 | n+1,w,d=>w=.d d\/(∃ a ws ds,w=.m a/\M a=some (.lst ws)/\d=.list ds/\Paired (DatN M n) ws ds)\/∃ a ws ds,w=.m a/\M a=some (.tup ws)/\d=.tuple ds/\Paired (DatN M n) ws ds
theorem DatN.d {M:MH}{x:PyData}:∀ {n:Nat},DatN M n (.d x) x
 | 0=>rfl
 | _+1=>.inl rfl
theorem DatN.l {M:MH}{n:Nat}{a:Addr}{ws:List W}{ds:List PyData}(h:M a=some (.lst ws))(r:Paired (DatN M n) ws ds):DatN M (n+1) (.m a) (.list ds):=.inr (.inl ⟨a,ws,ds,rfl,h,rfl,r⟩)
theorem DatN.t {M:MH}{n:Nat}{a:Addr}{ws:List W}{ds:List PyData}(h:M a=some (.tup ws))(r:Paired (DatN M n) ws ds):DatN M (n+1) (.m a) (.tuple ds):=.inr (.inr ⟨a,ws,ds,rfl,h,rfl,r⟩)
theorem DatN.ds {M:MH}{n:Nat}:∀ (ds:List PyData),Paired (DatN M n) (ds.map W.d) ds
 | []=>.nil
 | _ :: ds=>.cons DatN.d (DatN.ds ds)
theorem repNs_of {K:PySem.W.Frag}{H:Hp}{M:MH}{n:Nat}(h:∀ w d x,DatN M n w d->RepW K H w x->RepN K H d x):∀ {ws:List W} {ds:List PyData} {vs:List V},Paired (DatN M n) ws ds->RepWs K H ws vs->RepNs K H ds vs
 | _,_,_,.nil,.nil=>by unfold RepNs; rfl
 | _,_,_,.cons a b,.cons c e=>by
  unfold RepNs
  exact ⟨_,_,rfl,h _ _ _ a c,repNs_of h b e⟩
theorem DatN.sound {K:PySem.W.Frag}{H:Hp}{M:MH}(m:MAbs K H M):∀ (n:Nat) (w:W) (d:PyData) (x:V),DatN M n w d->RepW K H w x->RepN K H d x
 | 0,w,d,x,g,r=>by
  have g':w=.d d:=g
  subst g'
  exact RepN.of r
 | n+1,w,d,x,g,r=>by
  rcases g with g | ⟨a,ws,ds,rfl,h,rfl,p⟩ | ⟨a,ws,ds,rfl,h,rfl,p⟩
  ·subst g
   exact RepN.of r
  ·obtain ⟨vs,e,rw⟩:=m _ _ h
   unfold RepN
   exact .inr ⟨a,vs,r,e,repNs_of (DatN.sound m n) p rw⟩
  ·obtain ⟨vs,e,rw⟩:=m _ _ h
   unfold RepN
   exact ⟨a,vs,r,.inl (.inl e),repNs_of (DatN.sound m n) p rw⟩
section
variable {X:Cx}{K:PySem.W.Frag}
end
end D
namespace D
open PySem PySem.Spec PyProof.Rows L2
section
variable {X:Cx}{pins:List (Addr×Obj)}{σ:St}{H H0:Hp}{s s0:Shared}
end
section
variable {K:PySem.W.Frag}{H:Hp}{a:Addr}{o:Obj}{l:List V}
end
section
variable {X:Cx}{K:PySem.W.Frag}{tg o:Expr}
end
end D
namespace D
open PySem PySem.Spec PyProof.Rows L2
section
variable {X:Cx}{o:Expr}{td:TD}{apos cpos:Pos}
end
namespace Q
section
variable {X:Cx}{pos:Pos}
end
end Q
end D
namespace D
open PySem PySem.Spec PyProof.Rows L2
section
variable {X:Cx}{tg iter elt:Expr}{pos:Pos}{sc:Scope}{own:List Str}{fr:List Nat}{di:TId}{g:TGd}{tt:TTd}{te:TD}{ifs:List Expr}
end
namespace Q
section
variable {X:Cx}{tg iter elt:Expr}{pos:Pos}{sc:Scope}{own:List Str}{fr:List Nat}{di:TId}{g:TGd}{tt:TTd}{te:TD}{ifs:List Expr}
end
end Q
end D
namespace D
open PySem
theorem len_0 {us:List Value}(h:us.length=0):us=[]:=by
 exact List.eq_nil_of_length_eq_zero h
theorem len_1 {us:List Value}(h:us.length=1):∃ a1:Value,us=[a1]:=by
 cases us with
 | nil=>simp at h
 | cons a r =>
  have e:r=[]:=len_0 (by simpa using h)
  subst e
  exact ⟨a,rfl⟩
theorem len_2 {us:List Value}(h:us.length=2):∃ a1 a2:Value,us=[a1,a2]:=by
 cases us with
 | nil=>simp at h
 | cons a r =>
  obtain ⟨b1,e⟩:=len_1 (us:=r) (by simpa using h)
  subst e
  exact ⟨a,b1,rfl⟩
theorem len_3 {us:List Value}(h:us.length=3):∃ a1 a2 a3:Value,us=[a1,a2,a3]:=by
 cases us with
 | nil=>simp at h
 | cons a r =>
  obtain ⟨b1,b2,e⟩:=len_2 (us:=r) (by simpa using h)
  subst e
  exact ⟨a,b1,b2,rfl⟩
end D
namespace D
open PySem PySem.Spec PyProof.Rows L2
section
variable {X:Cx}{K:PySem.W.Frag}
variable {o e f:Expr}{td te tf:TD}{apos cpos:Pos}
end
namespace Q
end Q
end D
namespace D
open PySem PySem.Spec PyProof.Rows L2
section
variable {X:Cx}{K:PySem.W.Frag}
end
section
variable {X:Cx}{K:PySem.W.Frag}
end
namespace Q
end Q
end D
namespace D
open PySem PySem.Spec PyProof.Rows L2
section
variable {K:PySem.W.Frag}
variable {X:Cx}{sc:Scope}{own:List Str}{fr:List Nat}{di:TId}{g:TGd}{tt:TTd}{te:TD}{tg iter elt:Expr}{ifs:List Expr}{pos:Pos}
end
section
variable {X:Cx}{tg iter elt:Expr}{pos:Pos}{sc:Scope}{own:List Str}{fr:List Nat}{di:TId}{g:TGd}{tt:TTd}{te:TD}{ifs:List Expr}
end
namespace Q
section
variable {X:Cx}{tg iter elt:Expr}{pos:Pos}{sc:Scope}{own:List Str}{fr:List Nat}{di:TId}{g:TGd}{tt:TTd}{te:TD}{ifs:List Expr}
variable {o:Expr}{td:TD}{apos cpos kpos kp:Pos}{j:Nat}
end
end Q
end D
namespace XO
open PySem PySem.Spec PyProof.Rows PySem.W Builtin.ObjectAttr
noncomputable def tailB:List Value:=[.type "ValueError",.type "Exception",.type "BaseException",.type "object"]
noncomputable def refsThen:List Value->Bool
 | .ref _ :: r=>refsThen r
 | l=>l == tailB
theorem refs_nil {l:List Value}(h:refsThen l=true):l.isEmpty=false:=by
 cases l with
 | nil=>exact absurd h (by decide)
 | cons _ _=>rfl
theorem refs_cases {l:List Value}(h:refsThen l=true):(∃ a r,l=.ref a :: r/\refsThen r=true)\/l=tailB:=by
 cases l with
 | nil=>exact absurd h (by decide)
 | cons v r =>
  cases v <;> first | exact .inl ⟨_,_,rfl,h⟩ | exact .inr (eq_of_beq (by simpa only [refsThen] using h))
theorem refs_has (T:String)(hT:tailB.contains (.type T)=true):∀ {l:List Value},refsThen l=true->l.contains (.type T)=true:=by
 intro l
 induction l with
 | nil=>intro h; exact absurd h (by decide)
 | cons v r ih =>
  intro h
  rcases refs_cases h with ⟨a,r',e,q⟩ | e
  ·cases e
   rw [List.contains_cons,ih q,Bool.or_true]
  ·rw [e]; exact hT
noncomputable def xcls (K:Frag)(C:Addr):Bool:=(clsIn K C).any λ cd=>cd.hasDict && refsThen cd.mro
theorem xcls_of {K:Frag}{C:Addr}(h:xcls K C=true):∃ cd,clsIn K C=some cd/\cd.hasDict=true/\refsThen cd.mro=true:=by
 obtain ⟨cd,e,q⟩:=any_some h
 simp only [Bool.and_eq_true] at q
 exact ⟨cd,e,q.1,q.2⟩
section
variable {prog:Program}{w:World}{A:Around}{E:Value->Shared->Prop}{s:Shared}{K:Frag}{x C:Addr}{name:Str}{v:Value}
theorem xsub {M:Model}{h:Heap}{ox:Obj}{od:Option Obj}(X:K.In h)(c:xcls K C=true)(I:PySem.W.InstAt h x ox C od){T:String}(hT:tailB.contains (.type T)=true):Looks M h (isInstance (.ref x) (.type T)) true:=by
 obtain ⟨cd,hc,_,hm⟩:=xcls_of c
 refine I.type.andThen (looks_mroIn X ?_)
 unfold mroIn
 rw [hc,Option.bind_some,if_neg (by rw [refs_nil hm]; decide),refs_has T hT hm]
end
end XO
namespace XO
open PySem PySem.Spec PyProof.Rows PySem.W Builtin.ObjectAttr
section
variable {prog:Program}{w:World}{A:Around}{E:Value->Shared->Prop}{s:Shared}{K:Frag}{x C:Addr}{name:Str}{v:Value}{ox:Obj}{od:Option Obj}
theorem ga_kind:builtinKind "BaseException.__getattribute__" = some .slot:=by decide +kernel
theorem ga_split:splitId "BaseException.__getattribute__" = some ("BaseException", "__getattribute__"):=by decide +kernel
structure XC (K:Frag)(C:Addr):Prop where
 x:xcls K C=true
 sa:findIn K (.ref C) "__setattr__" = some (some (.builtin "object.__setattr__"))
 ga:findIn K (.ref C) "__getattribute__" = some (some (.builtin "BaseException.__getattribute__"))
 gt:findIn K (.ref C) "__getattr__" = some none
 cl:findIn K (.ref C) "__class__" = some (some (.builtin "object.__class__"))
 cg:specialIn K (.builtin "object.__class__") "__get__" = some (some (.builtin "getset_descriptor.__get__"))
 ct:takesIn K (.builtin "object.__class__")=some true
theorem xby {fill expr:Bool}{tk:Tok}{Q:Value->Shared->Prop}(X:K.In s.heap)(c:XC K C)(I:PySem.W.InstAt s.heap x ox C od)
  (h:wpAny (model prog w) A.in1 (Builtin.«object.__getattribute__» ⟨[.ref x,.str name tk],[]⟩)
   (λ fin s'=>match fin with | .done (.ret v)=>wpAny (model prog w) A (handedOut v) Q E s' | _=>False) (λ _ _=>False) s) :
  wpAny (model prog w) A (getAttrBy (.ref x) (.str name tk) fill expr) Q E s:=by
 unfold getAttrBy
 refine wpAny_holding (wpAny_bind (I.type.here (wpAny_bind ((looks_findIn X c.ga).here ?_))))
 have e1:(onTheHeap (Value.ref C) && (Value.builtin "BaseException.__getattribute__" == Value.builtin "object.__getattribute__"))=false:=by rw [show (Value.builtin "BaseException.__getattribute__" == Value.builtin "object.__getattribute__")=false from by decide,Bool.and_false]
 dsimp only
 rw [if_neg (by rw [e1]; decide)]
 unfold getAttrByItsOwn hookBefore
 refine wpAny_bind ?_
 rw [if_pos (show onTheHeap (Value.ref C)=true from rfl)]
 refine (looks_findIn X c.gt).here ?_
 refine wpAny_bind (wpAny_attempt (wpAny_holding ?_))
 unfold callGetattribute
 rw [if_neg (by rw [show onTheHeap (Value.builtin "BaseException.__getattribute__")=false from rfl,Bool.and_false]; decide)]
 unfold boundAndCalled
 rw [PySem.F.excAttr_ValueError.ga.bind]
 refine wpAny_bind (wpAny_pure ?_)
 refine wpAny_call (codeAny_call_builtin PySem.F.excAttr_ValueError.ga.plain PySem.F.entry_bexc_ga (@check_slot (model prog w) _ _ s _ "BaseException" "__getattribute__" (.ref x) [.str name tk] [] _ ga_kind ga_split (xsub X c.x I (by decide)) (PySem.F.args_bexc_ga _ _) ?_))
 refine wpAny_mono h (λ fin s' z=>?_) λ _ _ z=>z.elim
 rcases fin with (_ | _ | _ | _) | _ <;> first | exact z | exact z.elim
theorem XC.mro (c:XC K C):mroIn K C (.type "object")=some true:=by
 obtain ⟨cd,hc,_,hm⟩:=xcls_of c.x
 unfold mroIn
 rw [hc,Option.bind_some,if_neg (by rw [refs_nil hm]; decide),refs_has "object" (by decide) hm]
theorem XC.at (c:XC K C):∃ cd o dd sl,K.lookup C=some ⟨o,dd,.cls cd,sl⟩:=by
 obtain ⟨cd,hc,_,_⟩:=xcls_of c.x
 unfold clsIn at hc
 split at hc
 ·rename_i ho; exact ⟨_,_,_,_,ho⟩
 ·cases hc
theorem XC.look {M:Model}{h:Heap}(c:XC K C)(X:K.In h):Looks M h (isType (.ref C)) true:=by
 obtain ⟨cd,o,dd,sl,ho⟩:=c.at
 refine λ A' Q' E' s' k q=>?_
 unfold isType loadHead
 exact wpAny_bind (wpAny_loadPart (k _ _ (X _ _ ho)) (wpAny_pure q))
theorem xclass {Q:Option Value->Shared->Prop}(X:K.In s.heap)(c:XC K C)(I:PySem.W.InstAt s.heap x ox C od)(h:Q (some (.ref C)) { s with toks:=s.toks+1 }):wpAny (model prog w) A (getAttr? (.ref x) "__class__") Q E s:=by
 obtain ⟨cd,hc,_,hm⟩:=xcls_of c.x
 have hf:findObj K C od "__class__" = some (.bind (.builtin "getset_descriptor.__get__") (.builtin "object.__class__")):=by
  unfold findObj
  rw [hc,Option.bind_some,c.cl,Option.bind_some]
  simp [c.cg,c.ct]
 unfold getAttr? getAttrBy?
 refine wpAny_bind (wpAny_mkText (wpAny_bind (wpAny_attempt (xby (s:={ s with toks:=s.toks+1 }) X c I ?_))))
 refine wpAny_bind (wpAny_pure (wpAny_bind (wpAny_pure (wpAny_bind (PySem.W.Looks.here (s:={ s with toks:=s.toks+1 }) I.type (wpAny_bind (PySem.W.Looks.here (s:={ s with toks:=s.toks+1 }) (looks_find X I hf) ?_)))))))
 show wpAny _ _ (holding [Value.builtin "object.__class__"] (call (.builtin "getset_descriptor.__get__") [.builtin "object.__class__",.ref x,.ref C]) >>= ret) _ _ _
 refine wpAny_bind (wpAny_holding (wpAny_call (class_get (s:={ s with toks:=s.toks+1 }) X I c.mro ?_)))
 exact wpAny_pure (handed_on rfl (wpAny_pure h))
theorem kitx_x (c:XC K C):KitX K (.ref x) (.ref C) (λ h=>PySem.W.InstAt h x ox C od) where
 ty:=λ _ _ _ I=>I.type
 it:=λ _ _ X _=>c.look X
 ne:=λ h tp dd its n sl X htp=>by
  obtain ⟨cd,o,d',s',e⟩:=c.at
  refine Bool.eq_false_iff.mpr λ q=>?_
  cases Value.ref.inj (beq_iff_eq.mp q)
  have z:=(X _ _ e).symm.trans htp
  cases z
 ca:=λ X I k=>xclass X c I k
end
end XO
namespace XO
open PySem PySem.Spec PyProof.Rows PySem.W Builtin.ObjectAttr
noncomputable def xmk (K:Frag)(C:Addr):Bool:=match K.lookup C with
 | some ⟨.type "type",_,.cls cd,sl⟩=>(match cd.mro,sl.toList with
  | .ref D :: bm,[_,_,_,_,some (.builtin n),_]=>D == C && n == "ValueError.__new__" && !cd.hasDel && tailIn K tailB bm
  | _,_=>false)
 | _=>false
theorem xmk_of {K:Frag}{C:Addr}{h:Heap}(X:K.In h)(e:xmk K C=true):∃ nm q N bs bm hdct sn sub ab col dd k0 k1 k2 k3 k5,
  h.get? C=some (excClassObj nm q C N bs bm hdct sn sub ab col dd k0 k1 k2 k3 k5 "ValueError.__new__")/\OwnTail h tailB bm:=by
 unfold xmk at e
 split at e
 ·rename_i dd cd sl ho
  split at e
  ·rename_i D bm a0 a1 a2 a3 n a5 hm hs
   simp only [Bool.and_eq_true,beq_iff_eq,Bool.not_eq_true'] at e
   obtain ⟨⟨⟨h1,h2⟩,h3⟩,h4⟩:=e
   subst h1 h2
   obtain ⟨c1,c2,c3,c4,c5,c6,c7,c8,c9,c10,c11⟩:=cd
   dsimp only at hm h3
   subst hm h3
   obtain ⟨l⟩:=sl
   simp only at hs
   subst hs
   exact ⟨_,_,_,_,_,_,_,_,_,_,_,_,_,_,_,_,X _ _ ho,tail_of_in X h4⟩
  ·cases e
 ·cases e
section
variable {prog:Program}{w:World}{A:Around}{E:Value->Shared->Prop}{K:Frag}{C f:Addr}{h:Heap}{g:Array GenState}{d:Drawn}{t:Nat}{os:OsState}
end
end XO
namespace XO
open PySem PySem.Spec PyProof.Rows PySem.W
noncomputable abbrev xobj (C:Addr)(dct:Option Addr)(vs:Array Value):Obj:={ cls:=.ref C,dict:=dct,data:=.fields vs }
noncomputable def Tb (h:Heap)(e:Addr)(vs:Array Value):Prop:=vs[1]? = some .none\/∃ T oT ts,vs[1]? = some (.ref T)/\T≠e/\h.get? T=some oT/\oT.data=.fields ts/\ts[3]? = some .none
theorem Tb.size {h:Heap}{e:Addr}{vs:Array Value}(t:Tb h e vs):1 < vs.size:=by
 rcases t with z | ⟨_,_,_,z,_⟩ <;> exact (Array.getElem?_eq_some_iff.mp z).1
section
variable {M:Model}{A:Around}{E:Value->Shared->Prop}{s:Shared}{base:Heap}{env:PySem.Env}{outer:List PySem.Env}{L e C:Addr}{dct:Option Addr}{vs:Array Value}
structure Seen (fs:List Addr)(e:Addr)(h h':Heap):Prop where
 keep:∀ b o,b≠e->b ∉ fs->h.get? b=some o->h'.get? b=some o
 slot:∀ b o,b∈fs->h.get? b=some o->∃ sl,h'.get? b=some { o with slots:=sl }
theorem lookX {Q:Unit->Shared->Prop}(hfr:A.frames=some (env :: outer))(hl:s.heap.FunFrames base (env :: outer))(hf:env.frame=some L)(he:s.heap.get? e=some (xobj C dct vs))(tb:Tb s.heap e vs)
  (q:∀ h' vs',h'.get? e=some (xobj C dct vs')->Tb h' e vs'->vs'[1]? ≠ some .none->Seen ((env :: outer).filterMap (·.frame)) e s.heap h'->Q () { s with heap:=h' }) :
  wpAny M A (noteFrame (.ref e) env) (λ _ s1=>wpAny M A (setFlight (.ref e) none) Q E s1) E s:=by
 have nfr:∀ b o us,s.heap.get? b=some o->o.data=.fields us->b ∉ (env :: outer).filterMap (·.frame):=λ b o us z zd hm=>by
  obtain ⟨_,o',ho,hn⟩:=hl.mem hm
  rw [z] at ho
  cases ho
  exact hn us zd
 have main:∀ (head:Value) (had:Bool),wpAny M A (do let a <- frameOf env; let pl <- entryPlaceOf L had; let b <- EntryCells.newEntry head a .none (rawInt L) .none pl; setField (.ref e) 1 b) (λ _ s1=>wpAny M A (setFlight (.ref e) none) Q E s1) E s:=by
  intro head had
  refine wpAny_bind (wpAny_frameOf_fun hfr hl hf λ h1 so=>wpAny_bind (wpAny_entryPlaceOf λ pl hpl=>?_))
  unfold EntryCells.newEntry newFields
  refine wpAny_bind (wpAny_newObj_type ?_ (hpl.sizeOk5 _ _ _ _ _))
  have e1:h1.get? e=some (xobj C dct vs):=(so.2.1 e (nfr e _ vs he rfl)).trans he
  generalize hts:([head,Value.ref L,.none,rawInt L,.none]++(if pl.isEmpty then List.replicate 6 Value.none else pl)).toArray=ts
  have hts3:3 < ts.size:=by
   rw [<- hts]
   simp only [List.size_toArray,List.length_append,List.length_cons,List.length_nil] <;> omega
  have e2:=Heap.get?_push_of_some (h:=h1) { cls:=.type "traceback",dict:=none,data:=.fields ts } e1
  refine wpAny_setField e2 rfl tb.size ?_
  have ne:h1.objs.size≠e:=Nat.ne_of_gt (Heap.lt_size e1)
  have e3:((h1.push { cls:=.type "traceback",dict:=none,data:=.fields ts }).update e (Obj.mapFields (·.setIfInBounds 1 (Value.ref h1.objs.size)))).get? e=some (xobj C dct (vs.setIfInBounds 1 (Value.ref h1.objs.size))) :=
   Heap.get?_update_self _ e2 rfl
  have e4:((h1.push { cls:=.type "traceback",dict:=none,data:=.fields ts }).update e (Obj.mapFields (·.setIfInBounds 1 (Value.ref h1.objs.size)))).get? h1.objs.size=some { cls:=.type "traceback",dict:=none,data:=.fields ts } :=
   (Heap.get?_update_other _ _ (Ne.symm ne)).trans (Heap.get?_push_size h1 rfl)
  have v1:(vs.setIfInBounds 1 (Value.ref h1.objs.size))[1]? = some (Value.ref h1.objs.size):=by simp [tb.size]
  unfold setFlight
  refine wpAny_bind (wpAny_field e3 rfl v1 ?_)
  rw [if_pos (show (Value.ref h1.objs.size != Value.none)=true from by simp)]
  refine wpAny_setField e4 rfl hts3 (q _ (vs.setIfInBounds 1 (Value.ref h1.objs.size)) ?_ (.inr ⟨h1.objs.size,_,ts.setIfInBounds 3 .none,v1,ne,Heap.get?_update_self _ e4 rfl,rfl,by simp [hts3]⟩) (by rw [v1]; intro z; cases z) ?_)
  ·rw [Heap.get?_update_other _ _ ne]; exact e3
  ·have kp:∀ b o,b≠e->h1.get? b=some o->(((h1.push { cls:=.type "traceback",dict:=none,data:=.fields ts }).update e (Obj.mapFields (·.setIfInBounds 1 (Value.ref h1.objs.size)))).update h1.objs.size
     (Obj.mapFields (·.setIfInBounds 3 ((none:Option Addr).elim Value.none λ f=>rawInt f)))).get? b=some o:=λ b o hb z=>by
    rw [Heap.get?_update_other _ _ (Nat.ne_of_gt (Heap.lt_size z)),Heap.get?_update_other _ _ (Ne.symm hb)]
    exact Heap.get?_push_of_some _ z
   refine ⟨λ b o hb hm z=>kp b o hb ((so.2.1 b hm).trans z),λ b o hm z=>?_⟩
   obtain ⟨sl,z2⟩:=so.2.2 b o z
   exact ⟨sl,kp b _ (λ w=>nfr e _ vs he rfl (w ▸ hm)) z2⟩
 unfold noteFrame
 simp only [hf]
 rcases tb with z | ⟨T,oT,ts,z1,z2,z3,z4,z5⟩
 ·refine wpAny_bind (wpAny_field he rfl z ?_)
  rw [if_neg (by decide)]
  exact main _ _
 ·refine wpAny_bind (wpAny_field he rfl z1 ?_)
  rw [if_pos (show (Value.ref T != Value.none)=true from by simp)]
  refine wpAny_bind (wpAny_field z3 z4 z5 ?_)
  rw [if_neg (show ¬ ((Value.none == rawInt L)=true) from by simp [rawInt])]
  refine wpAny_bind (wpAny_setField z3 z4 (Array.getElem?_eq_some_iff.mp z5).1 ?_)
  rw [Heap.update_setField_same s.heap T oT ts 3 .none z3 z4 z5]
  exact main _ _
end
end XO
namespace L2
open PySem PySem.Spec PyProof.Rows XO
noncomputable def XF (e C:Addr)(dct:Option Addr):Heap->Prop:=λ h=>∃ vs,h.get? e=some (xobj C dct vs)
noncomputable def Air (H:Hp)(h:Heap)(e:Addr):Prop:=∃ C dct vs,H e=some (.ext (XF e C dct))/\h.get? e=some (xobj C dct vs)/\Tb h e vs
theorem xf_ok {P:Program}{w:World}{H:Hp}{h:Heap}{e C:Addr}{dct:Option Addr}{vs:Array Value}(z:h.get? e=some (xobj C dct vs)):ObjOk P w H h e (.ext (XF e C dct)) :=
 ⟨⟨vs,z⟩,⟨_,z⟩,λ h1 h2 ⟨us,e1⟩ k=>⟨us,k _ e1⟩⟩
section
variable {X:Cx}{pins:List (Addr×Obj)}{σ:St}{H:Hp}{s:Shared}{a:Addr}
theorem Inv.seen {C:Addr}{dct:Option Addr}{vs:Array Value}{h':Heap}(I:Inv X pins σ H s)(e:H a=some (.ext (XF a C dct)))(he:h'.get? a=some (xobj C dct vs))(sn:Seen (frs X.stack) a s.heap h'):Inv X pins σ H { s with heap:=h' }:=by
 have nfs:∀ b u,H b=some u->b ∉ frs X.stack:=λ b u z hb=>by rw [I.stkFree b hb] at z; cases z
 refine I.call (g':=s.gens) (t':=s.toks) (d':=s.drawn) (ch:=[]) ⟨λ b o z n hb _=>sn.keep b o (λ w=>by rw [w,e] at n; cases n) hb z,λ b o z _ hb _=>sn.slot b o hb z,λ _ _ _ n _=>n,λ b o z _=>?_,λ _ _ z=>z,λ _ _ _ z=>z,λ _ ps z=>⟨#[],by rw [z]; simp⟩⟩ (λ b o z=>?_) I.bare (λ b z=>absurd z (by simp))
 ·by_cases hb:b=a
  ·subst hb; exact ⟨_,he⟩
  ·by_cases hm:b∈frs X.stack
   ·obtain ⟨sl,q⟩:=sn.slot b o hm z; exact ⟨_,q⟩
   ·exact ⟨o,sn.keep b o hb hm z⟩
 ·by_cases hb:b=a
  ·subst hb
   rw [e] at z
   cases z
   exact xf_ok he
  ·refine (I.hok b o z).stay (λ c u hc q=>sn.keep c u ?_ ?_ q) (λ _ q=>q) λ _ _ q=>q
   ·rcases hc with w | w
    ·rw [w]; exact hb
    ·intro y; rw [y,e] at w; cases w
   ·rcases hc with w | w
    ·rw [w]; exact nfs b o z
    ·exact nfs c _ w
theorem Inv.lookX {Q:Unit->Shared->Prop}{E:Value->Shared->Prop}{A:Around}(I:Inv X pins σ H s)(hA:A.frames=some X.stack)(hst:X.stack=X.env :: X.outer)(hf:X.env.frame=some X.env.locals)(air:Air H s.heap a)
  (q:∀ s',Inv X pins σ H s'->Air H s'.heap a->Q () s'):wpAny (model X.prog X.w) A (noteFrame (.ref a) X.env) (λ _ s1=>wpAny (model X.prog X.w) A (setFlight (.ref a) none) Q E s1) E s:=by
 obtain ⟨C,dct,vs,e1,e2,e3⟩:=air
 have st:=I.stack
 rw [hst] at st hA
 refine XO.lookX hA st hf e2 e3 λ h' vs' g1 g2 _ g3=>q _ (I.seen e1 g1 ?_) ⟨C,dct,vs',e1,g1,g2⟩
 rw [hst]; exact g3
end
noncomputable def CXE (P:Program)(w:World):CXT:=λ outer H s E e s'=>∃ a H',e=.ref a/\s'.os=s.os/\AllBare s'.gens/\Un (frs outer) [] H H' s.heap s'.heap/\HOk P w H' s'.heap/\Air H' s'.heap a/\E e none H'
section
variable {X:Cx}{CX:CXT}{k:Nat}{f C:Addr}{fd:FuncData}{ps:List Str}{sp:Sp}{E:XK}{pins:List (Addr×Obj)}{σ:St}{H:Hp}{s:Shared}{Q:VK}{us:List Value}{vs:List V}
theorem run_fnX (F:FnOk X.prog X.w X.K X.mg X.base CX k f fd ps sp)(hr:Room k X.A)(hb:Binds X.K fd ps [])(I:Inv X pins σ H s)(r:Vals vs us)(h:sp vs H Q E)(hx:∀ e s',CX X.stack H s E e s'->X.xe e s') :
  wpAny (model X.prog X.w) X.A (call (.ref f) us) (EP X pins σ Q) X.xe s:=by
 have hl:(us++[]).length=ps.length:=by rw [List.append_nil,<- r.length]; exact F.len _ _ _ _ h
 have b:=hb s us I.kIn hl
 rw [List.append_nil] at b
 refine wpAny_call (codeAny_mono (F.run X.A X.stack s H ⟨us,[]⟩ us vs Q E hr I.env0 b r h) λ r s' hq=>?_)
 cases r with
 | error e=>exact hx e s' hq
 | ok fl=>cases fl <;> first | exact I.after hq | exact False.elim hq
end
end L2
namespace D
open PySem PySem.Spec PyProof.Rows L2 XO
noncomputable abbrev XQ:=Addr->MH->Prop
noncomputable abbrev XE:=Addr->DS->MH->Prop
noncomputable abbrev SpX:=List W->MH->QD->XQ->Prop
noncomputable def upSpX (K:PySem.W.Frag)(sp:SpX):Sp:=λ vs H Q E=>∃ ws M Qd Ed,RepWs K H ws vs/\MAbs K H M/\sp ws M Qd Ed/\Kont K H Qd Q/\∀ a H' M',Kp H H'->MAbs K H' M'->Ed a M'->E (.ref a) none H'
noncomputable def Lk (X:Cx)(E:XE):Prop:=∀ (pins:List (Addr×Obj)) (σ:St) (H:Hp) (s:Shared) (a:Addr) (τ:DS) (M:MH),Inv X pins σ H s->Air H s.heap a->Abs X.K H σ τ M->E a τ M->X.xe (.ref a) s
section
variable {P:Program}{w:World}{K:PySem.W.Frag}{mg:Str->Option Value}{base:Heap}
theorem lk_def {N:List Str}{qual:Str}{scope:Scope}{f:Addr}{cd:Value}{A:Around}{outer:List Env}{s:Shared}{H:Hp}{E:XK}{Ed:XQ}(he:∀ a H' M',Kp H H'->MAbs K H' M'->Ed a M'->E (.ref a) none H') :
  Lk (cxOf (CXE P w) P w K mg base N qual scope f cd A outer s H E) λ a _ M=>Ed a M:=by
 intro pins σ H1 s1 a τ M I air ab e
 show wpAny _ _ (leaving _ _) _ _ _
 unfold leaving
 refine wpAny_bind (I.lookX I.ok.frames rfl rfl air λ s2 J air2=>?_)
 exact ⟨a,H1,rfl,J.os,J.bare,J.base,J.hok,air2,he a H1 M (Kp.un J.base) ab.mem e⟩
theorem fun_okX {x qual:Str}{st:Stmt}{f:Addr}{fd:FuncData}{N ps:List Str}{k:Nat}{sp:SpX}{t:XE->TSd}(F:Fun K x qual st f fd)(S:FnScope N ps (defScope st))(len:∀ ws M Q E,sp ws M Q E->ws.length=ps.length)
  (hbody:∀ (cdv:Value) (A:Around) (outer:List Env) (s:Shared) (H:Hp) (E:XK) (Ed:XE),Room k (A.deeper (envOfC qual (defScope st) s.heap.objs.size f cdv))->Lk (cxOf (CXE P w) P w K mg base N qual (defScope st) f cdv A outer s H E) Ed ->
   PassesOwn (model P w) (A.deeper (envOfC qual (defScope st) s.heap.objs.size f cdv)) (envOfC qual (defScope st) s.heap.objs.size f cdv) (cxOf (CXE P w) P w K mg base N qual (defScope st) f cdv A outer s H E).xe ->
   PSsd (cxOf (CXE P w) P w K mg base N qual (defScope st) f cdv A outer s H E) (defBody st) (t Ed))
  (read:∀ ws M Q E,sp ws M Q E->t (λ a _ M=>E a M) { nx:=λ _ M'=>Q (.d .none) M',rt:=Q } (startD N ws) M):FnOk P w K mg base (CXE P w) (k+1) f fd ps (upSpX K sp):=by
 obtain ⟨oc,od,kV,doc,pm,an,cdv,ct,osl,rfl,lk,hcd⟩:=F.ex
 refine fn_of lk hcd S (λ vs H Q E h=>?_) λ A outer s H vs Q E hr h=>?_
 ·obtain ⟨ws,M,Qd,Ed,r,_,q,_⟩:=h
  rw [<- r.length]
  exact len _ _ _ _ q
 ·obtain ⟨ws,M,Qd,Ed,r,m,q,kk,ke⟩:=h
  refine ⟨_,hbody cdv A outer s H E (λ a _ M=>Ed a M) hr (lk_def ke) PassesOwn.leaving,startD N ws,M,_,abs_start r m,read ws M Qd Ed q,λ σ' H' τ' M' kp A' q'=>?_,λ v H' w' M' kp r' m' q'=>?_,λ σ' H' τ' M' kp A' q'=>q'.elim,λ σ' H' τ' M' kp A' q'=>q'.elim⟩
  ·exact kk _ H' _ M' kp (by simp [RepW,RepD]) A'.mem q'
  ·exact kk v H' w' M' kp r' m' q'
end
section
variable {X:Cx}{pos p apos:Pos}{k:Nat}{f C:Addr}{fd:FuncData}{ps:List Str}{sp:SpX}{x m:Str}{e o:Expr}{es:List Expr}{t:TAd}{td:TD}{E:XE}
theorem lk_call {pins:List (Addr×Obj)}{σ:St}{H:Hp}{s:Shared}{τ:DS}{M:MH}(L:Lk X E)(I:Inv X pins σ H s)(ab:Abs X.K H σ τ M){E':XK}(hE:∀ v H',E' v none H'->∃ a M',v=.ref a/\Kp H H'/\MAbs X.K H' M'/\E a τ M'){u:Value}{s':Shared}
  (h:CXE X.prog X.w X.stack H s E' u s'):X.xe u s':=by
 obtain ⟨a,H',rfl,os,br,un,hok,air,q⟩:=h
 obtain ⟨a',M',e,kp,m',q'⟩:=hE _ _ q
 cases e
 exact L pins σ H' s' a τ M' (I.call' os un hok br (λ b z=>absurd z (by simp))) air (ab.go kp m') q'
noncomputable def dCallX (sp:SpX)(E:XE)(t:TAd)(τ:DS)(M:MH)(Q:QD):Prop:=t τ M λ ws M1=>sp ws M1 Q λ a M'=>E a τ M'
theorem pd_callX (L:Lk X E)(F:FnOk X.prog X.w X.K X.mg X.base (CXE X.prog X.w) k f fd ps (upSpX X.K sp))(hr:Room k X.A)(hg:Gl X x)(hm:X.mg x=some (.ref f))(hk:PySem.W.keepIn X.K (.ref f)=true)(hb:Binds X.K fd ps [])
  (ha:PAd X (e :: es) t)(hdb:(x == ("__debug__" : Str))=false:=by decide)(h1:isSt e=false:=by rfl)(h2:(es.all λ e=>!isSt e)=true:=by rfl) :
  PD X (.Call (.Name x p) (e :: es) [] pos) (dCallX sp E t):=by
 intro pins s σ H Q I h
 obtain ⟨τ,M,Qd,A,h,k⟩:=h
 refine wpAny_Call_Name_kw (ld_glob I hg hm ?_ hdb)
 refine PySem.W.callWith_K (h₀:=X.base) I.ok.mod.kin hk (thn (ha pos pins s σ H (λ vs H1=>∃ ws M1,Kp H H1/\RepWs X.K H1 ws vs/\MAbs X.K H1 M1/\sp ws M1 Qd λ a M'=>E a τ M') I ⟨τ,M,_,A,h,λ vs H1 ws M1 kp r m q=>⟨ws,M1,kp,r,m,q⟩⟩) λ us s1 ⟨vs,H1,I1,r,ws,M1,kp,rw,m1,q⟩=>⟨I1.kIn,?_⟩) (star_ok e es X.env h1) (plain_ok pos X.env es h2)
 refine run_fnX (E:=λ v _ H'=>∃ a M',v=.ref a/\Kp H1 H'/\MAbs X.K H' M'/\E a τ M') F hr hb I1 r ⟨ws,M1,Qd,_,rw,m1,q,kgo k kp,λ a H' M' kp' m' e'=>⟨a,M',rfl,kp',m',e'⟩⟩ λ u s' hx=>lk_call L I1 (A.go kp m1) (λ v H' z=>z) hx
end
end D
namespace XO
open PySem PySem.Spec PyProof.Rows PySem.W
section
variable {prog:Program}{w:World}{A:Around}{E:Value->Shared->Prop}{s:Shared}{K:Frag}{env:PySem.Env}
theorem raiseX {x:Sem Value}{Q:Flow->Shared->Prop}(hh:A.handled=none)
  (h:wpAny (model prog w) A x (λ v s1=>∃ e C dct vs,v=.ref e/\K.In s1.heap/\xcls K C=true/\typeIn K (.ref C)=some (.type "type")/\s1.heap.get? e=some (xobj C dct vs)/\vs[1]? = some .none/\E (.ref e) s1) E s) :
  wpAny (model prog w) A (raiseStmt env (some x) none) Q E s:=by
 unfold raiseStmt
 refine wpAny_bind (wpAny_mono h (λ v s1 z=>?_) λ _ _ z=>z)
 obtain ⟨e,C,dct,vs,rfl,X,c,ty,he,h1,q⟩:=z
 obtain ⟨hp,g,d,tk,os⟩:=s1
 have L:Looks (model prog w) hp (isType (.ref e)) false:=λ A' Q' E' s' k q=>by
  unfold isType loadHead
  exact wpAny_bind (wpAny_loadPart (k _ _ he) (wpAny_pure q))
 have T:Looks (model prog w) hp (typeOf (.ref e)) (.ref C):=(Looks.ld he).andThen .now
 obtain ⟨cd,hc,_,hm⟩:=xcls_of c
 have S:Looks (model prog w) hp (isInstance (.ref e) (.type "BaseException")) true:=T.andThen (looks_mroIn X (by
  unfold mroIn
  rw [hc,Option.bind_some,if_neg (by rw [refs_nil hm]; decide),refs_has "BaseException" (by decide) hm]))
 have N:Looks (model prog w) hp (isExcClass (.ref e)) false:=L.andThen .now
 have Y:=looks_typeIn (M:=model prog w) X ty
 have R:Looks (model prog w) hp (raisedInstance (.ref e)) (.ref e):=T.andThen (Y.andThen (by rw [if_pos (by decide)]; exact .now))
 have Z:Looks (model prog w) hp (excFromValue (.ref e) "exceptions must derive from BaseException") (.ref e):=by
  unfold excFromValue
  refine N.andThen ?_
  rw [if_neg Bool.false_ne_true]
  refine S.andThen ?_
  rw [if_pos rfl]
  exact .now
 refine wpAny_bind (wpAny_pure (wpAny_bind (wpAny_holding (Z.at ?_))))
 dsimp only
 refine wpAny_bind (L.at ?_)
 rw [if_neg Bool.false_ne_true]
 refine wpAny_bind (R.at ?_)
 unfold setFlight
 refine wpAny_bind (wpAny_bind (wpAny_field he rfl h1 ?_))
 rw [if_neg (by decide)]
 exact wpAny_pure (wpAny_raiseNew_none hh q)
end
end XO
namespace L2
open PySem PySem.Spec PyProof.Rows XO
section
variable {X:Cx}{pins:List (Addr×Obj)}{σ:St}{H:Hp}{s:Shared}{a dx C:Addr}
end
section
variable {X:Cx}{o value:Expr}{f:Str}{pos pos':Pos}{ta tv:TE}{C:Addr}
end
section
variable {P:Program}{w:World}{K:PySem.W.Frag}{mg:Str->Option Value}{base:Heap}{C f:Addr}{fd:FuncData}{qual:Str}{st:Stmt}
end
end L2
namespace D
open PySem PySem.Spec PyProof.Rows L2 XO
section
variable {X:Cx}{pos p cpos:Pos}{k:Nat}{f C:Addr}{fd:FuncData}{ps fs:List Str}{x:Str}{e:Expr}{es:List Expr}{t:TAd}{E:XE}
end
end D
namespace L2
open PySem PySem.Spec PyProof.Rows XO
noncomputable def mixH (H₀ H:Hp):Hp:=λ b=>match H b with
 | some (.tup xs)=>some (.tup xs)
 | some (.frz o u)=>some (.frz o u)
 | _=>H₀ b
theorem mix_tup {H₀ H:Hp}{b:Addr}{xs:List V}(h:H b=some (.tup xs)):mixH H₀ H b=some (.tup xs):=by unfold mixH; rw [h]
theorem mix_frz {H₀ H:Hp}{b:Addr}{o:Obj}{u:HO}(h:H b=some (.frz o u)):mixH H₀ H b=some (.frz o u):=by unfold mixH; rw [h]
theorem mix_of {H₀ H:Hp}{b:Addr}{v:HO}(h:mixH H₀ H b=some v):H₀ b=some v\/H b=some v:=by
 unfold mixH at h
 split at h
 ·rename_i e; rw [e]; exact .inr h
 ·rename_i e; rw [e]; exact .inr h
 ·exact .inl h
theorem mix_none {H₀ H:Hp}{b:Addr}(h:mixH H₀ H b=none):H₀ b=none:=by
 unfold mixH at h
 split at h
 ·cases h
 ·cases h
 ·exact h
theorem none_mix {H₀ H:Hp}{b:Addr}(h:H₀ b=none)(h2:H b=none):mixH H₀ H b=none:=by
 unfold mixH; rw [h2]; exact h
noncomputable abbrev Cx.trying (X:Cx)(H0:Hp)(pn:List (Addr×Obj))(xe:Value->Shared->Prop):Cx:={ X with H₀:=H0,pn:=pn,xe:=xe }
noncomputable abbrev Cx.caught (X:Cx)(a:Addr):Cx:={ X with A:=X.A.mark (some (.ref a)),calm:=false,xe:=λ _ _=>False }
section
variable {X:Cx}{pins:List (Addr×Obj)}{σ:St}{H:Hp}{s:Shared}{xe:Value->Shared->Prop}
theorem Inv.fsFree (I:Inv X pins σ H s):∀ b∈X.fs,H b=none:=λ b hb=>by
 obtain ⟨_,o,ho,_⟩:=I.ok.funs.mem hb
 exact I.base.free b o ho (I.ok.frf b hb) λ z=>I.ok.exfs b z hb
theorem Inv.intry (I:Inv X pins σ H s):Inv (X.trying (mixH X.H₀ H) (X.pn++pins) xe) [] σ H s:=by
 refine ⟨⟨I.ok.mod,I.ok.kind,I.ok.glob,I.ok.blt,I.ok.above,I.ok.inj,I.ok.has,I.ok.cab,I.ok.hd,I.ok.frames,I.ok.stk,I.ok.exf,λ b o e=>⟨(I.ok.bs b o e).1,none_mix (I.ok.bs b o e).2 (I.bs b o e).2⟩,I.ok.bsz,I.ok.noex,I.ok.exfs,I.ok.funs,λ b hb=>none_mix (I.ok.frf b hb) (I.fsFree b hb)⟩,
  I.os,I.bare,⟨λ b o e n hb hx=>I.base.keep b o e (mix_none n) hb hx,λ b o e n hb hx=>I.base.slot b o e (mix_none n) hb hx,λ b o e n hx=>I.base.free b o e (mix_none n) hx,I.base.there,λ b xs e=>?_,λ b o u e=>?_,λ b ps e=>?_⟩,
  I.loc,I.cell,I.free,I.freeC,λ p hp=>I.pin p (by simpa using hp),I.hok,I.len⟩
 ·rcases mix_of e with z | z
  ·exact I.base.tups b xs z
  ·exact z
 ·rcases mix_of e with z | z
  ·exact I.base.frzs b o u z
  ·exact z
 ·rcases mix_of e with z | z
  ·exact I.base.tbls b ps z
  ·exact ⟨#[],by rw [z]; simp⟩
theorem Inv.outof {pins':List (Addr×Obj)}{σ':St}{H':Hp}{s':Shared}(I:Inv X pins σ H s)(J:Inv (X.trying (mixH X.H₀ H) (X.pn++pins) xe) pins' σ' H' s'):Inv X pins σ' H' s':=by
 have nn:∀ b o,X.s₀.heap.get? b=some o->X.H₀ b=none->b ∉ X.ex->mixH X.H₀ H b=none:=λ b o e n hx=>none_mix n (I.base.free b o e n hx)
 exact ⟨I.ok,J.os,J.bare,⟨λ b o e n hb hx=>J.base.keep b o e (nn b o e n hx) hb hx,λ b o e n hb hx=>J.base.slot b o e (nn b o e n hx) hb hx,λ b o e n hx=>J.base.free b o e (nn b o e n hx) hx,J.base.there,λ b xs e=>J.base.tups b xs (mix_tup (I.base.tups b xs e)),λ b o u e=>J.base.frzs b o u (mix_frz (I.base.frzs b o u e)),λ b ps e=>by
  obtain ⟨m1,e1⟩:=I.base.tbls b ps e
  refine J.base.tbls b ps ?_
  show mixH X.H₀ H b=_
  unfold mixH
  rw [e1]; exact e⟩,J.loc,J.cell,J.free,J.freeC,λ p hp=>J.pin p (List.mem_append_left _ hp),J.hok,J.len⟩
theorem Inv.caught (I:Inv X pins σ H s)(a:Addr):Inv (X.caught a) pins σ H s :=
 ⟨⟨I.ok.mod,I.ok.kind,I.ok.glob,I.ok.blt,I.ok.above,I.ok.inj,I.ok.has,I.ok.cab,(λ z=>nomatch z),I.ok.frames,I.ok.stk,I.ok.exf,I.ok.bs,I.ok.bsz,I.ok.noex,I.ok.exfs,I.ok.funs,I.ok.frf⟩,I.os,I.bare,I.base,I.loc,I.cell,I.free,I.freeC,I.pin,I.hok,I.len⟩
theorem Inv.uncaught {a:Addr}(ok:X.Ok)(I:Inv (X.caught a) pins σ H s):Inv X pins σ H s:=⟨ok,I.os,I.bare,I.base,I.loc,I.cell,I.free,I.freeC,I.pin,I.hok,I.len⟩
theorem Inv.gone {m':Str->Option Value}{h':Heap}{t':Nat}(I:Inv X pins σ H s)(hn:h'.Ns X.env.locals m')(sb:Heap.SameBut X.env.locals s.heap h'):Inv X pins (List.replicate σ.length none) H { s with heap:=h',toks:=t' }:=by
 have ne:∀ b o,X.s₀.heap.get? b=some o->b≠X.env.locals:=λ b o e=>Nat.ne_of_lt (Nat.lt_of_lt_of_le (Heap.lt_size e) I.ok.above)
 refine ⟨I.ok,I.os,I.bare,⟨λ b o e n hb hx=>(sb.2 b (ne b o e)).trans (I.base.keep b o e n hb hx),λ b o e n hb hx=>?_,I.base.free,λ b o e hx=>?_,I.base.tups,I.base.frzs,I.base.tbls⟩,⟨m',hn,λ i x v e1 e2 e3=>?_⟩,λ x c e=>?_,I.free,I.freeC,λ p hp=>?_,λ b o e=>?_,by rw [List.length_replicate]; exact I.len⟩
 ·obtain ⟨sl,z⟩:=I.base.slot b o e n hb hx
  exact ⟨sl,(sb.2 b (ne b o e)).trans z⟩
 ·obtain ⟨o',z⟩:=I.base.there b o e hx
  exact ⟨o',(sb.2 b (ne b o e)).trans z⟩
 ·rw [List.getElem?_replicate] at e2
  split at e2 <;> cases e2
 ·obtain ⟨v,z⟩:=I.cell x c e
  exact ⟨v,z.sameBut sb (I.cne x c e)⟩
 ·obtain ⟨z,n,nl,nf,d⟩:=I.pin p hp
  exact ⟨(sb.2 p.1 nl).trans z,n,nl,nf,d⟩
 ·refine (I.hok b o e).stay (λ c u hc q=>(sb.2 c λ z=>?_).trans q) (λ _ q=>q) λ _ _ q=>q
  rcases hc with y | y
  ·rw [z] at y; rw [<- y,I.free] at e; cases e
  ·rw [z,I.free] at y; cases y
theorem Air.flight {M:Model}{A:Around}{E:Value->Shared->Prop}{Q:Unit->Shared->Prop}{a:Addr}(air:Air H s.heap a)(q:Q () s):wpAny M A (setFlight (.ref a) none) Q E s:=by
 obtain ⟨C,dct,vs,e1,e2,tb⟩:=air
 unfold setFlight
 rcases tb with z | ⟨T,oT,ts,z1,z2,z3,z4,z5⟩
 ·refine wpAny_bind (wpAny_field e2 rfl z ?_)
  rw [if_neg (by decide)]
  exact wpAny_pure q
 ·refine wpAny_bind (wpAny_field e2 rfl z1 ?_)
  rw [if_pos (show (Value.ref T != Value.none)=true from by simp)]
  refine wpAny_setField z3 z4 (Array.getElem?_eq_some_iff.mp z5).1 ?_
  rw [show ((none:Option Addr).elim Value.none λ f=>rawInt f)=Value.none from rfl,Heap.update_setField_same s.heap T oT ts 3 .none z3 z4 z5]
  exact q
end
end L2
namespace D
open PySem PySem.Spec PyProof.Rows L2 XO
theorem Abs.forget {K:PySem.W.Frag}{H:Hp}{σ:St}{τ:DS}{M:MH}(h:Abs K H σ τ M):Abs K H (List.replicate σ.length none) (List.replicate τ.length none) M:=by
 refine ⟨by simp [h.len],λ i w e=>?_,h.mem⟩
 rw [List.getElem?_replicate] at e
 split at e <;> cases e
section
variable {X:Cx}{pos np hpos:Pos}{body suite:List Stmt}{b0:Stmt}{hs:List ExceptHandler}{h0:ExceptHandler}{tb:XE->TSd}{th rest:Addr->TSd}{ts:TSd}
noncomputable def PHd (X:Cx)(hs:List ExceptHandler)(th:Addr->TSd):Prop:=∀ (pins:List (Addr×Obj)) (σ:St) (H:Hp) (s:Shared) (a:Addr) (D:Ends),Inv X pins σ H s->Air H s.heap a->upS X.K (th a) D σ H->wpAny (model X.prog X.w) X.A (handleBy (.ref a) X.env hs) (SP X pins D) X.xe s
noncomputable def dTry (tb:XE->TSd)(th:Addr->TSd)(D:Ed)(τ:DS)(M:MH):Prop:=tb (λ a τ' M'=>th a D τ' M') D τ M
theorem psd_try (hst:X.stack=X.env :: X.outer)(hf:X.env.frame=some X.env.locals)
  (hb:∀ (H0:Hp) (pn:List (Addr×Obj)) (xe:Value->Shared->Prop) (E:XE),Lk (X.trying H0 pn xe) E->PassesOwn (model X.prog X.w) X.A X.env xe->PSsd (X.trying H0 pn xe) body (tb E))(hh:PHd X (h0 :: hs) th):PSd X (.Try body (h0 :: hs) [] [] pos) (dTry tb th):=by
 intro pins s σ H D I h
 obtain ⟨τ,M,Dd,A,h,k1,k2,k3,k4⟩:=h
 refine wpAny_Try_except ?_
 refine wpAny_mono (hb (mixH X.H₀ H) (X.pn++pins) (λ e s1=>wpAny (model X.prog X.w) X.A (noteFrame e X.env) (λ _ s2=>wpAny (model X.prog X.w) X.A (setFlight e none) (λ _ s3=>wpAny (model X.prog X.w) X.A (handleBy e X.env (h0 :: hs)) (SP X pins D) X.xe s3) X.xe s2) X.xe s1)
  (λ a τ' M'=>th a Dd τ' M') (λ pins' σ' H' s' a τ' M' J air ab e=>?_) PassesOwn.looking [] s σ H D I.intry ⟨τ,M,Dd,A,h,k1,k2,k3,k4⟩) (λ f s1 q=>?_) λ _ _ z=>z
 ·have J2:=I.outof J
  have kp:Kp H H':=⟨λ b xs z=>J.base.tups b xs (mix_tup z),λ b o u z=>J.base.frzs b o u (mix_frz z)⟩
  refine J2.lookX J2.ok.frames hst hf air λ s3 J3 air3=>hh pins σ' H' s3 a D J3 air3 ⟨τ',M',Dd,ab,e,λ σ2 H2 τ2 M2 k=>k1 σ2 H2 τ2 M2 (kp.trans k),λ v H2 w M2 k=>k2 v H2 w M2 (kp.trans k),λ σ2 H2 τ2 M2 k=>k3 σ2 H2 τ2 M2 (kp.trans k),λ σ2 H2 τ2 M2 k=>k4 σ2 H2 τ2 M2 (kp.trans k)⟩
 ·cases f with
  | next=>obtain ⟨σ',H',J,q⟩:=q; exact wpAny_execs_nil ⟨σ',H',I.outof J,q⟩
  | brk=>obtain ⟨σ',H',J,q⟩:=q; exact ⟨σ',H',I.outof J,q⟩
  | cont=>obtain ⟨σ',H',J,q⟩:=q; exact ⟨σ',H',I.outof J,q⟩
  | ret u=>obtain ⟨v,σ',H',J,r,q⟩:=q; exact ⟨v,σ',H',I.outof J,r,q⟩
theorem ph_none:PHd X hs (λ _ _ _ _=>False):=λ pins σ H s a D I air ⟨τ,M,Dd,_,h,_⟩=>h.elim
noncomputable def dHand (tab:Addr->Option Bool)(i:Nat)(ts:TSd)(rest:Addr->TSd)(a:Addr)(D:Ed)(τ:DS)(M:MH):Prop:=∃ C fs b,M a=some (.exc C fs)/\tab C=some b /\
 if b=true then ts { nx:=λ τ2 M2=>D.nx (List.replicate τ2.length none) M2,rt:=D.rt,bk:=λ τ2 M2=>D.bk (List.replicate τ2.length none) M2,ct:=λ τ2 M2=>D.ct (List.replicate τ2.length none) M2 } (τ.set i (some (.m a))) M else rest a D τ M
theorem Air.cls {K:PySem.W.Frag}{H:Hp}{h:Heap}{a C:Addr}{M:MH}{fs:List (Str×W)}(air:Air H h a)(m:MAbs K H M)(e:M a=some (.exc C fs)):∃ dct vs,h.get? a=some (xobj C dct vs):=by
 obtain ⟨C',dct,vs,e1,e2,_⟩:=air
 obtain ⟨φ,dct',g1,g2,_⟩:=m a _ e
 rw [e1] at g1
 cases g1
 obtain ⟨vs',e3⟩:=g2 h ⟨vs,e2⟩
 exact ⟨_,vs',e3⟩
theorem test_ok {pins:List (Addr×Obj)}{σ:St}{H:Hp}{s:Shared}{a C D:Addr}{x:Str}{b:Bool}{R:Result->Shared->Prop}(I:Inv X pins σ H s)(hg:Gl X x)(hm:X.mg x=some (.ref D)){dct:Option Addr}{vs:Array Value}(he:s.heap.get? a=some (xobj C dct vs))
  (ht:PySem.W.exmOne X.K (.ref C) (.ref D)=some b)(hdb:(x == ("__debug__" : Str))=false)(q:R (.ok (if b then .brk else .next)) s) :
  codeAny (model X.prog X.w) (X.A.mark (some (.ref a))) (.handlers (.ref a) [.ExceptHandler (some (.Name x np)) none [] hpos] X.env) R s:=by
 refine codeAny_handlers_test (ld_glob (X:=X.caught a) (I.caught a) hg hm ?_ hdb)
 exact (PySem.W.exm_one (M:=model X.prog X.w) I.kIn ((PySem.W.Looks.ld he).andThen .now) ht).here q
theorem ph_as {x n:Str}{i:Nat}{Dc:Addr}{tab:Addr->Option Bool}(hg:Gl X x)(hm:X.mg x=some (.ref Dc))(ht:∀ C b,tab C=some b->PySem.W.exmOne X.K (.ref C) (.ref Dc)=some b)(hN:X.N.Nodup)(hi:X.N[i]? = some n)(hl:X.env.scope.names.lookup n=some .local)(hk:X.env.scope.kind=.function)
  (hsu:∀ a,PSsd (X.caught a) (b0 :: suite) ts)(hr:PHd X hs rest)(hdb:(x == ("__debug__" : Str))=false:=by decide):PHd X (.ExceptHandler (some (.Name x np)) (some n) (b0 :: suite) hpos :: hs) (dHand tab i ts rest):=by
 intro pins σ H s a Dn I air h
 obtain ⟨τ,M,Dd,A,⟨C,fs,b,hma,htb,h⟩,k1,k2,k3,k4⟩:=h
 obtain ⟨dct,vs,he⟩:=Air.cls air A.mem hma
 refine wpAny_handleBy_cons (test_ok I hg hm he (ht C b htb) hdb ?_) (by intro q; cases q)
 cases b with
 | false=>exact hr pins σ H s a Dn I air ⟨τ,M,Dd,A,h,k1,k2,k3,k4⟩
 | true =>
  rw [if_pos rfl] at h
  refine codeAny_handlers_suite_as (air.flight ?_)
  refine store_ok (X:=X.caught a) (i:=i) (v:=.ref a) (I.caught a) hN hi (.inl hl) rfl (λ s2 J=>?_) (.inr hl)
  have gone:∀ {σ3:St} {H3:Hp} {s3:Shared} {Q:Unit->Shared->Prop},Inv (X.caught a) pins σ3 H3 s3->(∀ s4,Inv X pins (List.replicate σ3.length none) H3 s4->Q () s4)->wpAny (model X.prog X.w) X.A (do bindName X.env n .none; unbindBehindTheSuite X.env n hpos) Q X.xe s3:=λ {σ3 H3 s3 Q} J3 q=>by
   obtain ⟨m,hn,_⟩:=J3.loc
   refine wpAny_nameGoes hl hn (by rw [hk]; rfl) λ h' m' hn' sb=>q _ ((J3.uncaught I.ok).gone hn' sb)
  have ab2:=A.set i (v:=.ref a) (w:=.m a) rfl
  refine wpAny_mono (hsu a pins s2 _ H { nx:=λ σ2 H2=>Dn.nx (List.replicate σ2.length none) H2,rt:=Dn.rt,bk:=λ σ2 H2=>Dn.bk (List.replicate σ2.length none) H2,ct:=λ σ2 H2=>Dn.ct (List.replicate σ2.length none) H2 } J ⟨_,M,_,ab2,h,λ σ2 H2 τ2 M2 kp A2 q=>?_,λ v H2 w M2 kp r m q=>k2 v H2 w M2 kp r m q,λ σ2 H2 τ2 M2 kp A2 q=>?_,λ σ2 H2 τ2 M2 kp A2 q=>?_⟩) (λ f s3 q=>?_) λ _ _ z=>z.elim
  ·exact k1 _ H2 _ M2 kp A2.forget q
  ·exact k3 _ H2 _ M2 kp A2.forget q
  ·exact k4 _ H2 _ M2 kp A2.forget q
  ·cases f with
   | next=>obtain ⟨σ3,H3,J3,q⟩:=q; exact gone J3 λ s4 J4=>⟨_,H3,J4,q⟩
   | brk=>obtain ⟨σ3,H3,J3,q⟩:=q; exact gone J3 λ s4 J4=>⟨_,H3,J4,q⟩
   | cont=>obtain ⟨σ3,H3,J3,q⟩:=q; exact gone J3 λ s4 J4=>⟨_,H3,J4,q⟩
   | ret u=>obtain ⟨v,σ3,H3,J3,r,q⟩:=q; exact gone J3 λ s4 J4=>⟨v,_,H3,J4,r,q⟩
end
end D
namespace D
open PySem PySem.Spec PyProof.Rows L2 XO
section
variable {X:Cx}{pos p:Pos}{o ce:Expr}{td:TD}{f:Str}
theorem exc_at {pins:List (Addr×Obj)}{σ:St}{H:Hp}{s:Shared}{M:MH}{a C:Addr}{fs:List (Str×W)}(I:Inv X pins σ H s)(m:MAbs X.K H M)(e:M a=some (.exc C fs)) :
  (∃ ox od,PySem.W.InstAt s.heap a ox C od)/\(∀ w,fs.lookup f=some w->∃ v u ox od,RepW X.K H w v/\RelV v u/\PySem.W.InstAt s.heap a ox C (some od)/\PySem.W.lookIn f od=some (some u)):=by
 obtain ⟨φ,dct,e1,e2,e3⟩:=m a _ e
 obtain ⟨vs,hx⟩:=e2 s.heap (I.hok a _ e1).1
 rcases e3 with ⟨rfl,rfl⟩ | ⟨dx,o,l,rfl,e4,pr⟩
 ·exact ⟨⟨_,none,hx,rfl,rfl,True.intro⟩,λ w z=>nomatch z⟩
 ·obtain ⟨ho,mA,n1,r1⟩:=I.hok dx _ e4
  refine ⟨⟨_,some o,hx,rfl,rfl,ho⟩,λ w z=>?_⟩
  have g:=fr_lookup f pr
  rw [z] at g
  obtain ⟨v,eb,rb⟩:=OR.some_of g
  obtain ⟨u,hu,ru⟩:=RelO.some_of (v:=v) (o:=mA f) (by rw [<- eb]; exact r1 f)
  obtain ⟨od,g1,g2⟩:=lookIn_ns n1
  exact ⟨v,u,_,od,rb,ru,⟨hx,rfl,rfl,g1⟩,by rw [g2,hu]⟩
noncomputable def vval:V->Value
 | .ref a=>.ref a
 | .ty n=>.type n
 | _=>.none
noncomputable def isCls:V->Bool
 | .ref _=>true
 | .ty _=>true
 | _=>false
theorem vval_of:∀ {v:V} {u:Value},isCls v=true->RelV v u->u=vval v
 | .ref _,_,_,r=>r
 | .ty _,_,_,r=>r
 | .non,_,h,_=>nomatch h
 | .bl _,_,h,_=>nomatch h
 | .int _,_,h,_=>nomatch h
 | .str _,_,h,_=>nomatch h
 | .byt _,_,h,_=>nomatch h
 | .flt _,_,h,_=>nomatch h
theorem vvals_of:∀ {cs:List V} {us:List Value},(∀ c∈cs,isCls c=true)->Vals cs us->us=cs.map vval
 | _,_,_,.nil=>rfl
 | _,_,h,.cons r t=>by rw [vval_of (h _ (by simp)) r,vvals_of (λ c hc=>h c (by simp [hc])) t]; rfl
noncomputable def IsC (H:Hp)(v:V)(cs:List V):Prop:=cs=[v]\/∃ t,v=.ref t/\H t=some (.tup cs)
noncomputable def rIsX (K:PySem.W.Frag)(xs:List V)(H:Hp)(Q:VK):Prop:=∃ a C c cs b M fs,xs=[.ref a,c]/\MAbs K H M/\M a=some (.exc C fs)/\IsC H c cs/\(∀ c∈cs,isCls c=true)/\XC K C/\PySem.W.kitAny K (.ref C) (cs.map vval)=some b/\Q (.bl b) H
theorem call_isX:CallR X (.builtin "isinstance") (rIsX X.K):=by
 intro pins s σ H xs us Q I r h
 obtain ⟨a,C,c,cs,b,M,fs,rfl,m,e,hc,hcs,xc,kb,q⟩:=h
 obtain ⟨u,w,rfl,r1,r2⟩:=vals2 r
 cases (show u=Value.ref a from r1)
 obtain ⟨⟨ox,od,J⟩,_⟩:=exc_at (f := "") I m e
 have fin:∀ tk,EP X pins σ Q (.bool b) { s with toks:=tk }:=λ tk=>⟨.bl _,H,I.tok _,rfl,q⟩
 rcases hc with rfl | ⟨t,rfl,ht⟩
 ·have e1:=vval_of (hcs c (by simp)) r2
  subst e1
  have e2:PySem.W.kitOne X.K (.ref C) (vval c)=some b:=by
   simp only [List.map_cons,List.map_nil,PySem.W.kitAny] at kb
   split at kb
   ·rename_i z; rw [z,kb]
   ·rename_i z; rw [z,kb]
   ·cases kb
  exact PySem.W.kia_one (kitx_x xc) I.kIn J e2 (λ z=>nomatch z) fin
 ·cases (show w=Value.ref t from r2)
  obtain ⟨_,its,rv,⟨o,g1,g2,_,n,g3⟩⟩:=I.hok t _ ht
  have e1:=vvals_of hcs rv
  subst e1
  obtain ⟨c1,c2,c3,c4⟩:=o
  cases g2
  cases g3
  exact PySem.W.kia_tup (kitx_x xc) I.kIn J g1 kb (λ z=>nomatch z) fin
noncomputable def dIsX (tab:Addr->Option Bool)(td:TD)(τ:DS)(M:MH)(Q:QD):Prop:=td τ M λ w M1=>∃ a C fs b,w=.m a/\M1 a=some (.exc C fs)/\tab C=some b/\Q (.d (.bool b)) M1
noncomputable def CTm (cs:List V)(tc:TE):Prop:=∀ σ H (Q:VK),(∀ v H',(∀ b u,H b=some u->H' b=some u)->IsC H' v cs->Q v H')->tc σ H Q
theorem ctm_one (v:V):CTm [v] (tC v):=λ σ H Q h=>h v H (λ _ _ z=>z) (.inl rfl)
theorem ctm_tup {t:TA}{cs:List V}(h:∀ σ H (Q:List V->Hp->Prop),Q cs H->t σ H Q)(hz:cs.length<=1000):CTm cs (tTup t):=λ σ H Q k=>h σ H _ ⟨by have:=s16; omega,λ p hp=>k (.ref p) _ (λ b u z=>by rw [upd_ne (ne_of_none z hp)]; exact z) (.inr ⟨p,rfl,upd_same⟩)⟩
theorem pd_isX {cs:List V}{tc:TE}{tab:Addr->Option Bool}(ht:∀ C b,tab C=some b->XC X.K C/\PySem.W.kitAny X.K (.ref C) (cs.map vval)=some b)(hcs:(cs.all isCls)=true)(hg:Gl X "isinstance")(hm:X.mg "isinstance" = none)(ho:PD X o td)(hc:PE X ce tc)(ct:CTm cs tc)
  (h1:isSt o=false:=by rfl)(h2:isSt ce=false:=by rfl):PD X (.Call (.Name "isinstance" p) [o,ce] [] pos) (dIsX tab td):=by
 refine pe_w (pe_callB call_isX hg hm bb_isinstance (pa_cons ho (pa_cons hc pa_nil (star_ok ce [] X.env h2)) (star_ok o [ce] X.env h1)) (by decide) (by decide) (star_ok o [ce] X.env h1) (plain_ok pos X.env [ce] (by simp [h2]))) λ σ H Q h=>?_
 obtain ⟨τ,M,Qd,A,h,k⟩:=h
 refine ⟨τ,M,_,A,h,λ v H1 w M1 kp r m hq70=>?_⟩
 obtain ⟨a,C,fs,b,ew,hma,htb,q⟩:=hq70
 subst ew
 cases (show v=.ref a from r)
 refine ct σ H1 _ λ c H2 st ic=>?_
 obtain ⟨xc,kb⟩:=ht C b htb
 have kp2:Kp H1 H2:=⟨λ b xs z=>st b _ z,λ b o u z=>st b _ z⟩
 have m2:MAbs X.K H2 M1:=λ b mo z=>(m b mo z).keep kp2 λ u y=>st b u y
 exact ⟨a,C,c,cs,b,M1,fs,rfl,m2,hma,ic,λ c hc=>List.all_eq_true.mp hcs c hc,xc,kb,k (.bl b) H2 (.d (.bool b)) M1 (kp.trans kp2) rfl m2 q⟩
end
end D
namespace D
open PySem PySem.Spec PyProof.Rows L2 XO
noncomputable def tabL (l:List (Addr×Bool))(C:Addr):Option Bool:=l.lookup C
inductive AllT (P:Addr->Bool->Prop):List (Addr×Bool)->Prop
 | nil:AllT P []
 | cons {a:Addr} {b:Bool} {l:List (Addr×Bool)}:P a b->AllT P l->AllT P ((a,b) :: l)
theorem AllT.of {P:Addr->Bool->Prop}{l:List (Addr×Bool)}(h:AllT P l):∀ C b,tabL l C=some b->P C b:=by
 induction h with
 | nil=>intro C b z; cases z
 | @cons a b l p _ ih =>
  intro C b' z
  unfold tabL at z ih
  rw [List.lookup_cons] at z
  split at z
  ·rename_i e
   cases z
   rw [beq_iff_eq.mp e]; exact p
  ·exact ih C b' z
inductive AllC (P:Addr->Prop):List Addr->Prop
 | nil:AllC P []
 | cons {a:Addr} {l:List Addr}:P a->AllC P l->AllC P (a :: l)
theorem AllC.of {P:Addr->Prop}{l:List Addr}(h:AllC P l):∀ C∈l,P C:=by
 induction h with
 | nil=>intro C z; cases z
 | cons p _ ih =>
  intro C z
  rcases List.mem_cons.mp z with e | e
  ·rw [e]; exact p
  ·exact ih C e
noncomputable def PCs (X:Cx)(es:List Expr)(cs:List V):Prop:=(∃ t,PA X es t/\∀ σ H (Q:List V->Hp->Prop),Q cs H->t σ H Q)/\(cs.all isCls)=true
theorem pcs_nil {X:Cx}:PCs X [] []:=⟨⟨_,pa_nil,λ σ H Q q=>q⟩,rfl⟩
theorem pcs_cons {X:Cx}{x:Str}{C:Addr}{es:List Expr}{cs:List V}{p:Pos}(hg:Gl X x)(hm:X.mg x=some (.ref C))(r:PCs X es cs)(hd:(x == ("__debug__" : Str))=false:=by decide):PCs X (.Name x p :: es) (.ref C :: cs):=by
 obtain ⟨⟨t,h1,h2⟩,h3⟩:=r
 exact ⟨⟨_,pa_cons (pe_glob (v:=.ref C) hg hm rfl hd) h1,λ σ H Q q=>h2 σ H _ q⟩,by rw [List.all_cons,h3]; rfl⟩
namespace Q
section
variable {X:Cx}{pos p p' apos cpos np hpos:Pos}{k:Nat}{f C:Addr}{fd:FuncData}{ps fs:List Str}{sp:SpX}{x m n:Str}{e o:Expr}{es:List Expr}{t:TAd}{td:TD}{E:XE}
theorem pcX (L:Lk X E)(F:FnOk X.prog X.w X.K X.mg X.base (CXE X.prog X.w) k f fd ps (upSpX X.K sp))(hr:Room k X.A)(hg:Gl X x)(hm:X.mg x=some (.ref f))(hk:PySem.W.keepIn X.K (.ref f)=true)(hb:L2.Binds X.K fd ps [])
  (ha:Jd (PAd X (e :: es) t))(hdb:(x == ("__debug__" : Str))=false:=by decide)(h1:isSt e=false:=by rfl)(h2:(es.all λ e=>!isSt e)=true:=by rfl) :
  Jd (PD X (.Call (.Name x p) (e :: es) [] pos) (dCallX sp E t)):=⟨D.pd_callX L F hr hg hm hk hb ha.h hdb h1 h2⟩
variable {body suite:List Stmt}{b0:Stmt}{hs:List ExceptHandler}{h0:ExceptHandler}{tb:XE->TSd}{th rest:Addr->TSd}{ts:TSd}
theorem psd_try (hst:X.stack=X.env :: X.outer)(hf:X.env.frame=some X.env.locals)
  (hb:∀ (H0:Hp) (pn:List (Addr×Obj)) (xe:Value->Shared->Prop) (E:XE),Lk (X.trying H0 pn xe) E->PassesOwn (model X.prog X.w) X.A X.env xe->Jd (PSsd (X.trying H0 pn xe) body (tb E)))(hh:Jd (PHd X (h0 :: hs) th)):Jd (PSd X (.Try body (h0 :: hs) [] [] pos) (dTry tb th)) :=
 ⟨D.psd_try hst hf (λ H0 pn xe E l p=>(hb H0 pn xe E l p).h) hh.h⟩
theorem ph_none:Jd (PHd X hs (λ _ _ _ _=>False)):=⟨D.ph_none⟩
theorem ph_as {i:Nat}{Dc:Addr}{l:List (Addr×Bool)}(hg:Gl X x)(hm:X.mg x=some (.ref Dc))(ht:AllT (λ C b=>PySem.W.exmOne X.K (.ref C) (.ref Dc)=some b) l)(hN:X.N.Nodup)(hi:X.N[i]? = some n)(hl:X.env.scope.names.lookup n=some .local)(hk:X.env.scope.kind=.function)
  (hsu:∀ a,Jd (PSsd (X.caught a) (b0 :: suite) ts))(hr:Jd (PHd X hs rest))(hdb:(x == ("__debug__" : Str))=false:=by decide):Jd (PHd X (.ExceptHandler (some (.Name x np)) (some n) (b0 :: suite) hpos :: hs) (dHand (tabL l) i ts rest)) :=
 ⟨D.ph_as hg hm ht.of hN hi hl hk (λ a=>(hsu a).h) hr.h hdb⟩
theorem pd_isX1 {Dc:Addr}{l:List (Addr×Bool)}(hm:X.mg "isinstance" = none)(ht:AllT (λ C b=>XC X.K C/\PySem.W.kitAny X.K (.ref C) [.ref Dc]=some b) l)(hg:Gl X x)(hx:X.mg x=some (.ref Dc))(ho:Jd (PD X o td))(hgi:Gl X "isinstance" := by rfl)
  (hdb:(x == ("__debug__" : Str))=false:=by decide)(h1:isSt o=false:=by rfl):Jd (PD X (.Call (.Name "isinstance" p) [o,.Name x p'] [] pos) (dIsX (tabL l) td)) :=
 ⟨D.pd_isX (cs:=[.ref Dc]) ht.of rfl hgi hm ho.h (pe_glob (v:=.ref Dc) hg hx rfl hdb) (ctm_one _) h1 rfl⟩
theorem pd_isXT {cs:List V}{l:List (Addr×Bool)}{x1}(hm:X.mg "isinstance" = none)(ht:AllT (λ C b=>XC X.K C/\PySem.W.kitAny X.K (.ref C) (cs.map vval)=some b) l)(hc:PCs X es cs)(ho:Jd (PD X o td))(hz:cs.length<=1000:=by decide)(hgi:Gl X "isinstance" := by rfl)
  (h1:isSt o=false:=by rfl):Jd (PD X (.Call (.Name "isinstance" p) [o,.Tuple es x1 p'] [] pos) (dIsX (tabL l) td)):=by
 obtain ⟨⟨t,g1,g2⟩,g3⟩:=hc
 exact ⟨D.pd_isX (cs:=cs) ht.of g3 hgi hm ho.h (pe_tup g1) (ctm_tup g2 hz) h1 rfl⟩
end
end Q
end D
namespace D
open PySem PySem.Spec PyProof.Rows L2
section
variable {X:Cx}{K:PySem.W.Frag}
end
section
variable {X:Cx}{K:PySem.W.Frag}
noncomputable def inOk (d:PyData)(ds:List PyData):Bool:=eqOk d && eqOk (.list ds)
noncomputable def inA (d:PyData)(ds:List PyData):Bool:=ds.any λ y=>PyData.eqv y d
theorem in_room {A:Around}{k:Nat}(hr:Room k A){d:PyData}{ds:List PyData}(h:SeqAt.shaped d=true):A.units+1+min (PyData.depthAll ds) d.depth < cLine:=by
 have h1:=SeqAt.depth_of_shaped h
 have h2:min (PyData.depthAll ds) d.depth<=d.depth:=Nat.min_le_right _ _
 have:=hr.un
 omega
theorem op_inA {k:Nat}(hr:Room k X.A):OpR X (compareOp .In) (λ x y H Q=>∃ d ds,RepT X.K H d x/\(RepT X.K H (.list ds) y\/RepD X.K H (.tuple ds) y)/\inOk d ds=true/\Q (.bl (inA d ds)) H):=by
 intro pins s σ H x y v u Q I rx ry h
 obtain ⟨d,ds,h1,h2,o,q⟩:=h
 simp only [inOk,eqOk,Bool.and_eq_true,Bool.not_eq_true'] at o
 obtain ⟨⟨o1,o2⟩,o3,o4⟩:=o
 obtain ⟨as,r1⟩:=readsT_of I d h1 rx o2
 have c3:=SeqAt.canLay_of_shaped o3
 rcases h2 with h2 | h2
 ·obtain ⟨bs,r2⟩:=readsT_of I (.list ds) h2 ry o4
  exact SeqAt.in_list_reads r2 r1 c3 (SeqAt.canLay_of_shaped o1) (in_room hr o1) ⟨.bl _,H,I,rfl,q⟩
 ·obtain ⟨bs,r2⟩:=reads_of I (.tuple ds) h2 ry o4
  exact SeqAt.in_tuple_reads r2 r1 c3 (SeqAt.canLay_of_shaped o1) (in_room hr o1) ⟨.bl _,H,I,rfl,q⟩
theorem op_notInA {k:Nat}(hr:Room k X.A):OpR X (compareOp .NotIn) (λ x y H Q=>∃ d ds,RepT X.K H d x/\(RepT X.K H (.list ds) y\/RepD X.K H (.tuple ds) y)/\inOk d ds=true/\Q (.bl (!inA d ds)) H):=by
 intro pins s σ H x y v u Q I rx ry h
 obtain ⟨d,ds,h1,h2,o,q⟩:=h
 simp only [inOk,eqOk,Bool.and_eq_true,Bool.not_eq_true'] at o
 obtain ⟨⟨o1,o2⟩,o3,o4⟩:=o
 obtain ⟨as,r1⟩:=readsT_of I d h1 rx o2
 have c3:=SeqAt.canLay_of_shaped o3
 rcases h2 with h2 | h2
 ·obtain ⟨bs,r2⟩:=readsT_of I (.list ds) h2 ry o4
  exact SeqAt.notIn_list_reads r2 r1 c3 (SeqAt.canLay_of_shaped o1) (in_room hr o1) ⟨.bl _,H,I,rfl,q⟩
 ·obtain ⟨bs,r2⟩:=reads_of I (.tuple ds) h2 ry o4
  exact SeqAt.notIn_tuple_reads r2 r1 c3 (SeqAt.canLay_of_shaped o1) (in_room hr o1) ⟨.bl _,H,I,rfl,q⟩
noncomputable def rdInA (neg:Bool)(w w':W)(M:MH)(Q:QD):Prop:=∃ d ds,DatW M w d/\(DatW M w' (.list ds)\/w'=.d (.tuple ds))/\inOk d ds=true/\Q (.d (.bool (xor neg (inA d ds)))) M
theorem opd_inA:OpD K (λ x y H Q=>∃ d ds,RepT K H d x/\(RepT K H (.list ds) y\/RepD K H (.tuple ds) y)/\inOk d ds=true/\Q (.bl (inA d ds)) H) (rdInA false):=by
 intro x y H w w' M Qd Q r1 r2 m ⟨d,ds,g1,g2,o,q⟩ k
 refine ⟨d,ds,g1.sound r1 m,?_,o,k _ H (.d (.bool _)) M (Kp.refl H) (by simp [RepW,RepD]) m q⟩
 rcases g2 with g2 | rfl
 ·exact .inl (g2.sound r2 m)
 ·exact .inr r2
theorem opd_notInA:OpD K (λ x y H Q=>∃ d ds,RepT K H d x/\(RepT K H (.list ds) y\/RepD K H (.tuple ds) y)/\inOk d ds=true/\Q (.bl (!inA d ds)) H) (rdInA true):=by
 intro x y H w w' M Qd Q r1 r2 m ⟨d,ds,g1,g2,o,q⟩ k
 refine ⟨d,ds,g1.sound r1 m,?_,o,k _ H (.d (.bool (!inA d ds))) M (Kp.refl H) (by simp [RepW,RepD]) m (by simpa using q)⟩
 rcases g2 with g2 | rfl
 ·exact .inl (g2.sound r2 m)
 ·exact .inr r2
variable {o e:Expr}{td te:TD}{apos cpos:Pos}
end
namespace Q
section
variable {X:Cx}{o e tg:Expr}{td te:TD}{apos cpos:Pos}
end
end Q
end D
namespace D
open PySem PySem.Spec PyProof.Rows L2
section
variable {X:Cx}{tg o:Expr}
end
section
variable {X:Cx}
theorem RepWs.cut {K:PySem.W.Frag}{H:Hp}{ws:List W}{vs:List V}(r:RepWs K H ws vs)(lo hi:Option Int):RepWs K H (cutD ws lo hi) (cutV vs lo hi):=by
 unfold cutD cutV
 have hl:=r.length
 rw [hl]
 have dr:∀ (n:Nat) {ws:List W} {vs:List V},RepWs K H ws vs->RepWs K H (ws.drop n) (vs.drop n):=by
  intro n
  induction n with
  | zero=>intro ws vs h; exact h
  | succ n ih =>
   intro ws vs h
   cases h with
   | nil=>exact .nil
   | cons a b=>exact ih b
 have tk:∀ (n:Nat) {ws:List W} {vs:List V},RepWs K H ws vs->RepWs K H (ws.take n) (vs.take n):=by
  intro n
  induction n with
  | zero=>intro ws vs h; exact .nil
  | succ n ih =>
   intro ws vs h
   cases h with
   | nil=>exact .nil
   | cons a b=>exact .cons a (ih b)
 exact tk _ (dr _ r)
end
section
variable {X:Cx}{pos:Pos}
end
namespace Q
section
variable {X:Cx}{tg o:Expr}{td:TD}
end
end Q
end D
namespace D
open PySem PySem.Spec PyProof.Rows L2
noncomputable def atomIs (v:Value):PyData->Bool
 | .str z=>match v with
  | .str x _=>decide (x=z)
  | _=>false
 | .int i=>match v with
  | .int j _=>decide (j=i)
  | _=>false
 | _=>false
noncomputable def atomsAre:List Value->List PyData->Bool
 | [],[]=>true
 | v :: vs,d :: ds=>atomIs v d && atomsAre vs ds
 | _,_=>false
noncomputable def tupIs (K:PySem.W.Frag)(v:Value):PyData->Bool
 | .tuple ds=>match v with
  | .ref a=>match K.lookup a with
   | some o=>(match o.cls with
    | .type n=>decide (n = "tuple")
    | _=>false) && o.dict.isNone && (match o.data with
    | .seq its _=>decide (its.size<=100) && atomsAre its.toList ds
    | _=>false)
   | none=>false
  | _=>false
 | d=>atomIs v d
theorem atom_rep {v:Value}{d:PyData}(h:atomIs v d=true):∃ x,RelV x v/\∀ K H,RepD K H d x:=by
 cases d with
 | str z =>
  cases v with
  | str x t =>
   have e:x=z:=of_decide_eq_true h
   subst e
   exact ⟨.str x,⟨t,rfl⟩,λ K H=>by simp [RepD]⟩
  | _=>cases h
 | int i =>
  cases v with
  | int j t =>
   have e:j=i:=of_decide_eq_true h
   subst e
   exact ⟨.int j,⟨t,rfl⟩,λ K H=>by simp [RepD]⟩
  | _=>cases h
 | _=>cases h
theorem atoms_rep:∀ {vs:List Value} {ds:List PyData},atomsAre vs ds=true->∃ xs,Vals xs vs/\∀ K H,RepA K H ds xs
 | [],[],_=>⟨[],.nil,λ K H=>by simp [RepA]⟩
 | v :: vs,d :: ds,h=>by
  simp only [atomsAre,Bool.and_eq_true] at h
  obtain ⟨x,h1,h2⟩:=atom_rep h.1
  obtain ⟨xs,h3,h4⟩:=atoms_rep h.2
  exact ⟨x :: xs,.cons h1 h3,λ K H=>by simp only [RepA]; exact ⟨x,xs,rfl,h2 K H,h4 K H⟩⟩
 | [],_ :: _,h=>by cases h
 | _ :: _,[],h=>by cases h
theorem tup_rep {K:PySem.W.Frag}{v:Value}{d:PyData}(h:tupIs K v d=true):∃ x,RelV x v/\∀ H,RepD K H d x:=by
 have atom:atomIs v d=true->∃ x,RelV x v/\∀ H,RepD K H d x:=λ h=>by
  obtain ⟨x,h1,h2⟩:=atom_rep h
  exact ⟨x,h1,h2 K⟩
 cases d with
 | tuple ds =>
  cases v with
  | ref a =>
   simp only [tupIs] at h
   cases e:K.lookup a with
   | none=>rw [e] at h; cases h
   | some o =>
    rw [e] at h
    simp only [Bool.and_eq_true] at h
    obtain ⟨⟨h1,h0⟩,h2⟩:=h
    have hd:o.dict=none:=by simpa using h0
    have hc:o.cls=.type "tuple" := by
     cases q:o.cls with
     | type n=>rw [q] at h1; rw [of_decide_eq_true h1]
     | _=>rw [q] at h1; cases h1
    cases q:o.data with
    | seq its n =>
     rw [q] at h2
     simp only [Bool.and_eq_true,decide_eq_true_eq] at h2
     obtain ⟨xs,h3,h4⟩:=atoms_rep h2.2
     refine ⟨.ref a,rfl,λ H=>?_⟩
     simp only [RepD]
     exact ⟨a,xs,rfl,.inr ⟨o,its,n,e,hc,hd,q,few (by omega),h3⟩,h4 K H⟩
    | _=>rw [q] at h2; cases h2
  | _=>cases h
 | str z=>exact atom h
 | int i=>exact atom h
 | none=>exact atom h
 | bool b=>exact atom h
 | list ds=>exact atom h
 | dict kvs=>exact atom h
noncomputable def entsAre (K:PySem.W.Frag):List DictEntry->List (Str×PyData)->Bool
 | [],[]=>true
 | e :: es,(k,d) :: kvs=>atomIs e.key (.str k) && tupIs K e.val d && entsAre K es kvs
 | _,_=>false
noncomputable def kdIs (K:PySem.W.Frag)(a:Addr)(kvs:List (Str×PyData)):Bool:=match K.lookup a with
 | some o=>(match o.cls with
  | .type n=>decide (n = "dict")
  | _=>false) && o.dict.isNone && decide (o.slots.size=0) && (match o.data with
  | .dict es _=>entsAre K es.toList kvs
  | _=>false)
 | none=>false
noncomputable def hashesOf (K:PySem.W.Frag)(a:Addr):Option (List Int):=match K.lookup a with
 | some o=>match o.data with
  | .dict es _=>some (es.toList.map (·.hash))
  | _=>none
 | none=>none
structure KDict (w:World)(K:PySem.W.Frag)(a:Addr)(kvs:List (Str×PyData)):Prop where
 is:kdIs K a kvs=true
 hs:hashesOf K a=some (kvs.map λ p=>PyData.keyHash w.params p.1)
 nd:(kvs.map (·.1)).Nodup
 ns:(a == sysModules)=false
theorem ents_rep {P:Program}{w:World}{K:PySem.W.Frag}:∀ {es:List DictEntry} {kvs:List (Str×PyData)},entsAre K es kvs=true->es.map (·.hash)=kvs.map (λ p=>PyData.keyHash w.params p.1) ->
  ∃ (L:List (Key×V)) (vs:List (Key×Value)),KV L vs/\Pairs (mixKind P w) es vs/\(∀ e∈es,∃ k,(mixKind P w).is k e.key=true/\e.hash=(mixKind P w).hash k)/\vs.map (·.1)=kvs.map (λ p=>(.inr p.1:Key))/\Paired (λ (p:Str×PyData) (q:Key×V)=>q.1=.inr p.1/\∀ H,RepD K H p.2 q.2) kvs L
 | [],[],_,_=>⟨[],[],.nil,.nil,(λ e he=>by cases he),rfl,.nil⟩
 | e :: es,(k,d) :: kvs,h,hh=>by
  simp only [entsAre,Bool.and_eq_true] at h
  obtain ⟨⟨h1,h2⟩,h3⟩:=h
  rw [List.map_cons,List.map_cons] at hh
  obtain ⟨hh1,hh2⟩:=List.cons.inj hh
  obtain ⟨L,vs,i1,i2,i3,i4,i5⟩:=ents_rep (P:=P) (w:=w) h3 hh2
  obtain ⟨x,r1,r2⟩:=tup_rep h2
  have hk:keyIs (.inr k) e.key=true:=by
   cases q:e.key with
   | str y t =>
    rw [q] at h1
    have ey:y=k:=of_decide_eq_true h1
    subst ey
    show Value.isStrOf y (.str y t)=true
    simp [Value.isStrOf]
   | _=>rw [q] at h1; cases h1
  refine ⟨(.inr k,x) :: L,(.inr k,e.val) :: vs,.cons ⟨rfl,r1⟩ i1,.cons hk rfl i2,λ e' he'=>?_,by rw [List.map_cons,i4]; rfl,.cons ⟨rfl,r2⟩ i5⟩
  rcases List.mem_cons.mp he' with rfl | he'
  ·exact ⟨.inr k,hk,hh1⟩
  ·exact i3 e' he'
 | [],_ :: _,h,_=>by cases h
 | _ :: _,[],h,_=>by cases h
section
variable {X:Cx}{pins:List (Addr×Obj)}{σ:St}{H:Hp}{s:Shared}{a:Addr}{kvs:List (Str×PyData)}
theorem KDict.dd (D:KDict X.w X.K a kvs)(I:Inv X pins σ H s):∃ (L:List (Key×V)) (vs:List (Key×Value)),KV L vs/\s.heap.DictOf (mixKind X.prog X.w) a vs/\Paired (λ (p:Str×PyData) (q:Key×V)=>q.1=.inr p.1/\∀ H,RepD X.K H p.2 q.2) kvs L:=by
 have h:=D.is
 have hs:=D.hs
 unfold kdIs at h
 unfold hashesOf at hs
 cases e:X.K.lookup a with
 | none=>rw [e] at h; cases h
 | some o =>
  rw [e] at h hs
  simp only [Bool.and_eq_true] at h hs
  obtain ⟨⟨⟨h1,h2⟩,h3⟩,h4⟩:=h
  have hc:o.cls=.type "dict" := by
   cases q:o.cls with
   | type n=>rw [q] at h1; rw [of_decide_eq_true h1]
   | _=>rw [q] at h1; cases h1
  have hd:o.dict=none:=by simpa using h2
  have hsl:o.slots = #[]:=Array.eq_empty_of_size_eq_zero (of_decide_eq_true h3)
  cases q:o.data with
  | dict es n =>
   rw [q] at h4 hs
   obtain ⟨L,vs,i1,i2,i3,i4,i5⟩:=ents_rep (P:=X.prog) (w:=X.w) h4 (Option.some.inj hs)
   refine ⟨L,vs,i1,⟨o,es,n,I.kIn a o e,⟨hc,hd,hsl⟩,q,λ e' he'=>i3 e' (by simpa using he'),i2,?_⟩,i5⟩
   rw [i4,show (kvs.map λ p=>(.inr p.1:Key))=(kvs.map (·.1)).map Sum.inr from by simp]
   exact List.Pairwise.map Sum.inr (λ a b h z=>h (Sum.inr.inj z)) D.nd
  | _=>rw [q] at h4; cases h4
end
noncomputable def lookS (kvs:List (Str×PyData))(z:Str):Option PyData:=(kvs.find? λ p=>decide (p.1=z)).map (·.2)
theorem lookS_val {K:PySem.W.Frag}(z:Str):∀ {kvs:List (Str×PyData)} {L:List (Key×V)},Paired (λ (p:Str×PyData) (q:Key×V)=>q.1=.inr p.1/\∀ H,RepD K H p.2 q.2) kvs L->OR (λ d v=>∀ H,RepD K H d v) (lookS kvs z) (valV L (.inr z))
 | _,_,.nil=>True.intro
 | _,_,.cons (a:=p) (b:=q) (l₁:=t1) h t=>by
  obtain ⟨h1,h2⟩:=h
  by_cases e:p.1=z
  ·rw [valV_pos (h1.trans (by rw [e])),show lookS (p :: t1) z=some p.2 by simp [lookS,List.find?_cons,e]]
   exact h2
  ·rw [valV_neg (λ y=>e (Sum.inr.inj (h1.symm.trans y))),show lookS (p :: t1) z=lookS t1 z by simp [lookS,List.find?_cons,e]]
   exact lookS_val z t
section
variable {X:Cx}{e:Expr}{a:Addr}{x:Str}{kvs:List (Str×PyData)}{pos p apos cpos:Pos}{ty:TE}{te:TD}
noncomputable def tKGet (K:PySem.W.Frag)(kvs:List (Str×PyData))(ty:TE):TE:=λ σ H Q=>ty σ H λ y H1=>∃ z,y=.str z/\∀ v,(∀ H,RepD K H ((lookS kvs z).getD .none) v)->Q v H1
theorem pe_kget (hg:Gl X x)(hm:X.mg x=some (.ref a))(kd:KDict X.w X.K a kvs)(he:PE X e ty)(m:M1 X (.Name x p) "get" apos e cpos)(hd:(x == ("__debug__" : Str))=false:=by decide):PE X (.Call (.Attribute (.Name x p) "get" apos) [e] [] cpos) (tKGet X.K kvs ty):=by
 intro pins s σ H Q I h
 refine wpAny_Call_method m.base m.few m.line PySem.F.plainAttrs_dict PySem.F.slot_dict_get PySem.F.type_dict_get (thn (pe_glob (v:=.ref a) hg hm rfl hd pins s σ H (λ v H'=>v=.ref a/\H'=H) I ⟨rfl,rfl⟩) λ u s1 hq71=>?_)
 obtain ⟨x1,H1,I1,rx,ex,eH⟩:=hq71
 subst ex eH
 obtain rfl:u=Value.ref a:=rx
 obtain ⟨L,vs,rel,dd,pr⟩:=kd.dd I1
 refine ⟨dd.typeIs,λ b q=>?_,?_⟩
 ·cases q
  obtain ⟨ob,_,_,h1,h2,_⟩:=dd
  exact ⟨ob,h1,h2.2.1⟩
 rw [m.trees]
 refine Calls.callWith_builtin rfl (Calls.evalArgs_plain (Calls.spliced_cons (thn (he pins s1 σ H1 _ I1 h) λ iv s2 ⟨y,H2,I2,ry,z,ey,q2⟩=>Calls.spliced_nil ?_)))
 subst ey
 obtain ⟨L,vs,rel,dd,pr⟩:=kd.dd I2
 have lv:=lookS_val z pr
 refine call_meetsIn PySem.F.slot_dict_get dd.typeIs PySem.F.entry_dict_get (PySem.F.args_dict_get_2 _ _) (meets_dict_get (mixKind X.prog X.w) a (kV_is (k:=.inr z) ry) kd.ns) ⟨_,dd.mapOf,?_⟩
 refine ⟨(valV L (.inr z)).getD .non,H2,I2.tok _,(rel.val (.inr z)).getD rfl,q2 _ λ H=>?_⟩
 cases q:lookS kvs z with
 | none =>
  rw [q] at lv
  rw [OR.none_of lv]
  simp [RepD]
 | some d =>
  rw [q] at lv
  obtain ⟨b,eb,rb⟩:=OR.some_of lv
  rw [eb]
  exact rb H
noncomputable def dKGet (kvs:List (Str×PyData))(te:TD)(τ:DS)(M:MH)(Q:QD):Prop:=te τ M λ w M1=>∃ z,w=.d (.str z)/\Q (.d ((lookS kvs z).getD .none)) M1
theorem pd_kget0 (hg:Gl X x)(hm:X.mg x=some (.ref a))(kd:KDict X.w X.K a kvs)(he:PD X e te)(m:M1 X (.Name x p) "get" apos e cpos:=by exact ⟨rfl,rfl,rfl,rfl⟩)(hd:(x == ("__debug__" : Str))=false:=by decide):PD X (.Call (.Attribute (.Name x p) "get" apos) [e] [] cpos) (dKGet kvs te) :=
 pe_w (pe_kget hg hm kd he m hd) λ σ H Q h=>by
  obtain ⟨τ,M,Qd,A,h,k⟩:=h
  refine ⟨τ,M,_,A,h,λ y H1 w M1 kp r m1 hq72=>?_⟩
  obtain ⟨z,ew,q⟩:=hq72
  subst ew
  simp only [RepW,RepD] at r
  exact ⟨z,r,λ v hv=>k _ H1 (.d _) M1 kp (hv H1) m1 q⟩
noncomputable def tKIx (K:PySem.W.Frag)(kvs:List (Str×PyData))(ty:TE):TE:=λ σ H Q=>ty σ H λ y H1=>∃ z d,y=.str z/\lookS kvs z=some d/\∀ v,(∀ H,RepD K H d v)->Q v H1
theorem pe_kix (hg:Gl X x)(hm:X.mg x=some (.ref a))(kd:KDict X.w X.K a kvs)(he:PE X e ty)(hs:NoSl e)(hd:(x == ("__debug__" : Str))=false:=by decide):PE X (.Subscript (.Name x p) e pos) (tKIx X.K kvs ty):=by
 intro pins s σ H Q I h
 refine subD_of PySem.F.slot_dict_getitem.lookup hs (thn (pe_glob (v:=.ref a) hg hm rfl hd pins s σ H (λ v H'=>v=.ref a/\H'=H) I ⟨rfl,rfl⟩) λ u s1 hq73=>?_)
 obtain ⟨x1,H1,I1,rx,ex,eH⟩:=hq73
 subst ex eH
 obtain rfl:u=Value.ref a:=rx
 refine thn (he pins s1 σ H1 _ I1 h) λ iv s2 hq74=>?_
 obtain ⟨y,H2,I2,ry,z,d,ey,l,q2⟩:=hq74
 subst ey
 obtain ⟨L,vs,rel,dd,pr⟩:=kd.dd I2
 have lv:=lookS_val z pr
 rw [l] at lv
 obtain ⟨b,eb,rb⟩:=OR.some_of lv
 obtain ⟨w',hw,rw'⟩:=RelO.some_of (v:=b) (o:=valueAt vs (.inr z)) (by rw [<- eb]; exact rel.val (.inr z))
 exact ⟨dd.typeIs,wpAny_getItem_of (kV_is (k:=.inr z) ry) dd.mapOf hw ⟨b,H2,I2.tok _,rw',q2 b rb⟩⟩
noncomputable def dKIx (kvs:List (Str×PyData))(te:TD)(τ:DS)(M:MH)(Q:QD):Prop:=te τ M λ w M1=>∃ z d,w=.d (.str z)/\lookS kvs z=some d/\Q (.d d) M1
theorem pd_kix0 (hg:Gl X x)(hm:X.mg x=some (.ref a))(kd:KDict X.w X.K a kvs)(he:PD X e te)(hs:NoSl e:=by exact λ _ _=>rfl)(hd:(x == ("__debug__" : Str))=false:=by decide):PD X (.Subscript (.Name x p) e pos) (dKIx kvs te) :=
 pe_w (pe_kix hg hm kd he hs hd) λ σ H Q h=>by
  obtain ⟨τ,M,Qd,A,h,k⟩:=h
  refine ⟨τ,M,_,A,h,λ y H1 w M1 kp r m1 hq75=>?_⟩
  obtain ⟨z,d,ew,l,q⟩:=hq75
  subst ew
  simp only [RepW,RepD] at r
  exact ⟨z,d,r,l,λ v hv=>k _ H1 (.d d) M1 kp (hv H1) m1 q⟩
theorem pd_globT0 {ds:List PyData}(hg:Gl X x)(hm:X.mg x=some (.ref a))(ht:tupIs X.K (.ref a) (.tuple ds)=true)(hd:(x == ("__debug__" : Str))=false:=by decide):PD X (.Name x pos) (dC (.d (.tuple ds))) :=
 pd_c (pe_glob (v:=.ref a) hg hm rfl hd) λ H=>by
  obtain ⟨y,h1,h2⟩:=tup_rep ht
  have e:y=.ref a:=by
   have h3:=h2 H
   simp only [RepD] at h3
   obtain ⟨c,_,e,_⟩:=h3
   subst e
   have:(Value.ref a)=.ref c:=h1
   cases this
   rfl
  rw [<- e]
  exact h2 H
end
namespace Q
section
variable {X:Cx}{e:Expr}{a:Addr}{x:Str}{kvs:List (Str×PyData)}{pos p apos cpos:Pos}{te:TD}
theorem pd_kget (hg:Gl X x)(hm:X.mg x=some (.ref a))(kd:KDict X.w X.K a kvs)(he:Jd (PD X e te))(m:M1 X (.Name x p) "get" apos e cpos:=by exact ⟨rfl,rfl,rfl,rfl⟩)(hd:(x == ("__debug__" : Str))=false:=by decide):Jd (PD X (.Call (.Attribute (.Name x p) "get" apos) [e] [] cpos) (dKGet kvs te)):=⟨_root_.D.pd_kget0 hg hm kd he.h m hd⟩
theorem pd_kix (hg:Gl X x)(hm:X.mg x=some (.ref a))(kd:KDict X.w X.K a kvs)(he:Jd (PD X e te))(hs:NoSl e:=by exact λ _ _=>rfl)(hd:(x == ("__debug__" : Str))=false:=by decide):Jd (PD X (.Subscript (.Name x p) e pos) (dKIx kvs te)):=⟨_root_.D.pd_kix0 hg hm kd he.h hs hd⟩
theorem pd_globT {ds:List PyData}(hg:Gl X x)(hm:X.mg x=some (.ref a))(ht:tupIs X.K (.ref a) (.tuple ds)=true)(hd:(x == ("__debug__" : Str))=false:=by decide):Jd (PD X (.Name x pos) (dC (.d (.tuple ds)))):=⟨_root_.D.pd_globT0 hg hm ht hd⟩
end
end Q
end D
namespace D
open PySem PySem.Spec PyProof.Rows L2
section
variable {X:Cx}
noncomputable def rDUpd:V->List V->Hp->VK->Prop:=λ x vs H Q=>∃ a c kvs more,x=.ref a/\vs=[.ref c]/\H a=some (.dK kvs)/\Rd H c (.dK more)/\a≠c/\kvs.length+more.length<=sizeLine/\Q .non (upd H a (.dK (mergeK kvs more)))
theorem mt_dupd:MtM X "dict.update" rDUpd:=by
 intro pins s σ H x vs v us Q I rx rv h
 obtain ⟨a,c,kvs,more,rfl,rfl,ha,hc,ne,hz,q⟩:=h
 cases rx
 obtain ⟨u,rfl,ru⟩:=rv.one
 cases ru
 obtain ⟨_,hd,ws,rel,dd⟩:=dk_of I.hok ha
 obtain ⟨_,hd2,ws2,rel2,dd2⟩:=dk_rd I.hok hc
 refine call_meetsIn PySem.F.slot_dict_update dd.typeIs PySem.F.entry_dict_update (PySem.F.args_dict_update_2 _ _) (meets_dict_update (mixKind X.prog X.w) a c ne hd2) ⟨ws,ws2,dd,dd2,by rw [<- rel.length,<- rel2.length]; exact hz,λ h' dd' _ sb=>?_⟩
 have hl:=length_mergeK more kvs
 have he:∃ q,h'.get? a=some q:=let ⟨q,_,_,hq,_⟩:=dd'; ⟨q,hq⟩
 exact ⟨.non,_,d_write (t':=s.toks) I (by rw [ha]; exact True.intro) sb he (dk_new (by omega) hd (KV.merge rel2 rel) dd'),rfl,q⟩
variable {o e:Expr}{td te:TD}{apos cpos:Pos}
noncomputable def dDUpd (td te:TD)(τ:DS)(M:MH)(Q:QD):Prop:=td τ M λ w M1=>∃ a kv0,w=.m a/\M1 a=some (.dic kv0)/\te τ M1 λ y M2=>∃ kvs,∃ more:List (Key×PyData),M2 a=some (.dic kvs)/\y=.d (.dict (more.map λ p=>(keyD p.1,p.2)))/\((kvs.map (·.1))++more.map (·.1)).Nodup/\kvs.length+more.length<=sizeLine/\Q (.d .none) (updM M2 a (.dic (kvs++dataKV more)))
theorem paired_keys {α β:Type}{R:α->β->Prop}{κ:Type}:∀ {l:List (κ×α)} {m:List (κ×β)},Paired (λ (p:κ×α) (q:κ×β)=>p.1=q.1/\R p.2 q.2) l m->l.map (·.1)=m.map (·.1)
 | _,_,.nil=>rfl
 | _,_,.cons h t=>by rw [List.map_cons,List.map_cons,h.1,paired_keys t]
theorem paired_app {α β:Type}{R:α->β->Prop}:∀ {l l2:List α} {m m2:List β},Paired R l m->Paired R l2 m2->Paired R (l++l2) (m++m2)
 | _,_,_,_,.nil,h=>h
 | _,_,_,_,.cons a b,h=>.cons a (paired_app b h)
theorem paired_map {K:PySem.W.Frag}{H:Hp}:∀ {l:List (Key×PyData)} {m:List (Key×V)},Paired (λ (p:Key×PyData) (q:Key×V)=>p.1=q.1/\RepD K H p.2 q.2) l m->Paired (λ (p:Key×W) (q:Key×V)=>p.1=q.1/\RepW K H p.2 q.2) (l.map λ p=>(p.1,W.d p.2)) m
 | _,_,.nil=>.nil
 | _,_,.cons a b=>.cons ⟨a.1,a.2⟩ (paired_map b)
theorem pd_dupd0 (ho:PD X o td)(he:PD X e te)
  (hbase:attributeBase o "update" X.env (eval o X.env)=eval o X.env:=by rfl)
  (hfew:((backTo cpos (starEach [e] X.env)).all (λ x=>!x.1) && (backToKw cpos (keywordEach [] X.env)).all (λ x=>x.1.isSome)
   && decide (([e]:List Expr).length+([]:List Keyword).length+(if ([]:List Keyword).isEmpty then 0 else 1) < 30))=true:=by rfl)
  (hline:(apos.endLine == cpos.line)=true:=by rfl)(hs:isSt e=false:=by rfl):PD X (.Call (.Attribute o "update" apos) [e] [] cpos) (dDUpd td te) :=
 pe_w (pe_bm PySem.F.plainAttrs_dict PySem.F.slot_dict_update PySem.F.type_dict_update mt_dupd ho (pac he pad_nil hs) hbase hfew hline (star_ok e [] X.env hs) rfl) λ σ H Q h=>by
  obtain ⟨τ,M,Qd,A,h,k⟩:=h
  refine ⟨τ,M,_,A,h,λ x H1 w M1 kp1 r1 m1 hq76=>?_⟩
  obtain ⟨a,kv0,ew,hm0,q1⟩:=hq76
  subst ew
  have r1':x=.ref a:=r1
  subst r1'
  obtain ⟨l0,ea0,_⟩:=m1 _ _ hm0
  refine ⟨?_,τ,M1,one1 (λ y M2=>∃ kvs,∃ more:List (Key×PyData),M2 a=some (.dic kvs)/\y=.d (.dict (more.map λ p=>(keyD p.1,p.2)))/\((kvs.map (·.1))++more.map (·.1)).Nodup/\kvs.length+more.length<=sizeLine/\Qd (.d .none) (updM M2 a (.dic (kvs++dataKV more)))),A.go kp1 m1,q1,λ ys H2 wys M2 kp2 r2 m2 q2=>?_⟩
  ·exact .inr (.inr (.inl ⟨rfl,.inl ⟨l0,ea0⟩⟩))
  obtain ⟨y,ey,kvs,more,hm2,ey2,hnd,hl,q4⟩:=one1_of q2
  subst ey ey2
  obtain ⟨v,ev,rv⟩:=repWs1 r2
  subst ev
  simp only [RepW,RepD] at rv
  obtain ⟨c,ob,l,ec,hc,rk⟩:=rv
  subst ec
  obtain ⟨l2,ea2,pr⟩:=m2 _ _ hm2
  have pk:=repK_paired rk
  have k1:kvs.map (·.1)=l2.map (·.1):=paired_keys pr
  have k2:more.map (·.1)=l.map (·.1):=paired_keys pk
  have em:mergeK l2 l=l2++l:=mergeK_new (by rw [List.map_append,<- k1,<- k2]; exact hnd)
  have kp4:Kp H2 (upd H2 a (.dK (l2++l))):=Kp.set ea2 (λ _ z=>nomatch z) (λ _ _ z=>nomatch z)
  have e1:kvs.length=l2.length:=by have:=congrArg List.length k1; simpa using this
  have e2:more.length=l.length:=by have:=congrArg List.length k2; simpa using this
  refine ⟨a,c,l2,l,rfl,rfl,ea2,.inr ⟨ob,hc⟩,(λ z=>by rw [z,hc] at ea2; cases ea2),by omega,?_⟩
  rw [em]
  refine k _ _ (.d .none) _ ((kp1.trans kp2).trans kp4) (by simp [RepW,RepD]) (m2.put (mo:=.dic (kvs++dataKV more)) kp4 ⟨_,upd_same,?_⟩) q4
  refine paired_app (Paired.mapP pr λ p q z=>⟨z.1,z.2.keep kp4⟩) ?_
  unfold dataKV
  exact paired_map (Paired.mapP pk λ p q z=>⟨z.1,z.2.keep kp4⟩)
end
namespace Q
section
variable {X:Cx}{o e:Expr}{td te:TD}{apos cpos:Pos}
theorem pd_dupd (ho:Jd (PD X o td))(he:Jd (PD X e te))
  (hbase:attributeBase o "update" X.env (eval o X.env)=eval o X.env:=by rfl)
  (hfew:((backTo cpos (starEach [e] X.env)).all (λ x=>!x.1) && (backToKw cpos (keywordEach [] X.env)).all (λ x=>x.1.isSome)
   && decide (([e]:List Expr).length+([]:List Keyword).length+(if ([]:List Keyword).isEmpty then 0 else 1) < 30))=true:=by rfl)
  (hline:(apos.endLine == cpos.line)=true:=by rfl)(hs:isSt e=false:=by rfl):Jd (PD X (.Call (.Attribute o "update" apos) [e] [] cpos) (dDUpd td te)):=⟨D.pd_dupd0 ho.h he.h hbase hfew hline hs⟩
end
end Q
end D
namespace PySem.SeqAt
open AutoSeq1 (wpAny_loadPart')
open MeetsSeq MeetsSeq2 MeetsSeq3 SeqRoads2
theorem tuple_indexAt (l:Addr)(items:Array Value)(n:Nat)(dd:Option Addr)(sl:Array (Option Value))(x:Value)(e:Value->Bool)(j:Nat)(hj:j < items.size)
  (hit:e items[j]=true)(hno:∀ m (hm:m < items.size),m < j->e items[m]=false) :
  Meets (Builtin.«tuple.index» ⟨[.ref l,x],[]⟩)
   (λ A R s=>s.heap.get? l=some { cls:=.type "tuple",dict:=dd,data:=.seq items n,slots:=sl }/\(∀ y,y∈items->EqAt A.in1 s y x (e y))/\R (.ok (.ret (.int j s.toks))) { s with toks:=s.toks+1 }) :=
 .of_wp λ prog w A R s h=>by
  obtain ⟨hp,g,d,tk,os⟩:=s; obtain ⟨hl,he,h⟩:=h
  show wpAny (model prog w) A.in1 (Builtin.«tuple.index» ⟨[.ref l,x],[]⟩) _ _ _
  unfold Builtin.«tuple.index»
  simp only [Std.Legacy.Range.forIn_eq_forIn_range',Std.Legacy.Range.size]
  wp_walk using wpAny_loadPart' hl,wpAny_forIn_list _ (λ rest (b:Option Fin×Unit) s'=>b.1=none/\s'=⟨hp,g,d,tk,os⟩/\∃ i,i<=j/\rest=List.range' i (items.size - i)) _
  case turn =>
   rintro y rest b s' ⟨hb,rfl,i,hi,hr⟩
   have hlt:i < items.size:=by omega
   have e1:items.size - i=(items.size - (i+1))+1:=by omega
   rw [e1,List.range'_succ] at hr
   obtain ⟨rfl,hr⟩:=List.cons.inj hr
   have e2:items[y]? = some items[y]:=by simp [hlt]
   rw [e2]
   refine wpAny_bind (he _ (Array.getElem_mem hlt) prog w _ _ ?_)
   by_cases hij:y=j
   ·subst hij
    rw [hit]
    wp_walk
    exact ⟨_,rfl,h⟩
   ·rw [hno y hlt (by omega)]
    wp_walk
    exact ⟨rfl,rfl,y+1,by omega,hr⟩
  case fin =>
   rintro b s' ⟨hb,rfl,i,hi,hr⟩
   have:=congrArg List.length hr
   rw [List.length_nil,List.length_range'] at this
   omega
  case h =>
   refine ⟨rfl,rfl,0,Nat.zero_le _,?_⟩
   congr 1
   simp
end PySem.SeqAt
namespace ZT
open PySem PySem.Spec PyProof.Rows
section
variable {prog:Program}{w:World}{A:Around}{E:Value->Shared->Prop}{s:Shared}
noncomputable abbrev TT (h:Heap)(j t:Addr)(k:Nat)(ys:Array Value):Prop:=h.IsTupleIter j t k/\h.IsTuple t ys
theorem TT.at {h h':Heap}{j t:Addr}{k:Nat}{ys:Array Value}(x:TT h j t k ys)(f:∀ c o,(c=j\/c=t)->h.get? c=some o->h'.get? c=some o):TT h' j t k ys:=by
 obtain ⟨⟨o,e,r⟩,o',e',r'⟩:=x
 exact ⟨⟨o,f _ _ (.inl rfl) e,r⟩,o',f _ _ (.inr rfl) e',r'⟩
theorem nxT_item {j t:Addr}{k:Nat}{ys:Array Value}{y:Value}{Q:Value->Shared->Prop}(st:TT s.heap j t k ys)(hn:t≠j)(hy:ys[k]? = some y)
  (q:∀ h',TT h' j t (k+1) ys->Heap.SameBut j s.heap h'->Q y { s with heap:=h' }):wpAny (model prog w) A (Builtin.SmallTypes.nextOf (.ref j)) Q E s:=by
 obtain ⟨jt,tt⟩:=st
 obtain ⟨oj,ej,cj,dj⟩:=id jt; obtain ⟨ot,et,ct,nt,dt⟩:=id tt
 unfold Builtin.SmallTypes.nextOf
 refine wpAny_bind (wpAny_callSpecial?_slot (name:=Str.ofString "__next__") jt.typeIs F.slot_tuple_iterator_next (wpAny_call_entry F.slot_tuple_iterator_next jt.typeIs F.entry_tuple_iterator_next ?_ (F.args_tuple_iterator_next_1 _)))
 show wpAny _ _ (field (.ref j) 0 >>= _) _ _ s
 refine wpAny_bind (wpAny_field ej dj (x:=.ref t) rfl ?_); show wpAny _ _ (if (Value.ref t == Value.none)=true then _ else _) _ _ s
 rw [if_neg (show ¬ ((Value.ref t == Value.none)=true) from Bool.false_ne_true)]; show wpAny _ _ (field (.ref j) 1 >>= _) _ _ s
 refine wpAny_bind (wpAny_field ej dj (x:=.int k 0) rfl ?_); show wpAny _ _ (seqItems? (.ref t) >>= _) _ _ s
 refine wpAny_bind (wpAny_seqItems et dt ?_); simp only [Int.toNat_natCast,hy]
 refine wpAny_bind (wpAny_setField ej dj (by simp) (wpAny_pure ⟨y,rfl,wpAny_pure (q _ ⟨?_,tt.extBut (Heap.SameBut.update ..).extBut hn⟩ (Heap.SameBut.update ..))⟩))
 exact ⟨_,Heap.get?_update_self _ ej (Obj.isFreed_of_fields (Obj.data_mapFields dj _)),(Obj.cls_mapFields ..).trans cj,by rw [Obj.data_mapFields dj]; simp [rawInt]⟩
theorem nxT_end {j t:Addr}{k:Nat}{ys:Array Value}{Q:Value->Shared->Prop}(hh:A.handled=none)(st:TT s.heap j t k ys)(hy:ys[k]? = none)
  (q:∀ h' x,Heap.ExtBut j s.heap h'->(∃ o,h'.get? x=some o/\o.cls=.type "StopIteration")->E (.ref x) { s with heap:=h' }):wpAny (model prog w) A (Builtin.SmallTypes.nextOf (.ref j)) Q E s:=by
 obtain ⟨jt,tt⟩:=st
 obtain ⟨oj,ej,cj,dj⟩:=id jt; obtain ⟨ot,et,ct,nt,dt⟩:=id tt
 unfold Builtin.SmallTypes.nextOf
 refine wpAny_bind (wpAny_callSpecial?_slot (name:=Str.ofString "__next__") jt.typeIs F.slot_tuple_iterator_next (wpAny_call_entry F.slot_tuple_iterator_next jt.typeIs F.entry_tuple_iterator_next ?_ (F.args_tuple_iterator_next_1 _)))
 show wpAny _ _ (field (.ref j) 0 >>= _) _ _ s
 refine wpAny_bind (wpAny_field ej dj (x:=.ref t) rfl ?_); show wpAny _ _ (if (Value.ref t == Value.none)=true then _ else _) _ _ s
 rw [if_neg (show ¬ ((Value.ref t == Value.none)=true) from Bool.false_ne_true)]; show wpAny _ _ (field (.ref j) 1 >>= _) _ _ s
 refine wpAny_bind (wpAny_field ej dj (x:=.int k 0) rfl ?_); show wpAny _ _ (seqItems? (.ref t) >>= _) _ _ s
 refine wpAny_bind (wpAny_seqItems et dt ?_); simp only [Int.toNat_natCast,hy]
 refine wpAny_bind (wpAny_rule (wpAny_bind (wpAny_setField ej dj (by simp) ?_))); show wpAny _ _ (newExc (.type "StopIteration") [] >>= _) _ _ _
 refine wpAny_bind ?_
 simp only [newExc,newTuple]; refine wpAny_bind (wpAny_newObj_type ?_ (by size_fits))
 refine wpAny_bind (m:=firstArgMember _ _) (wpAny_of_eq (a:=Value.none) (by first | rfl | (simp only [firstArgMember]; rfl)) (wpAny_newObj_type ?_ (by size_fits)))
 simp only [raiseNew]; refine wpAny_bind (wpAny_handled ?_)
 first | rw [show A.in1.handled=none from hh] | rw [hh]
 refine wpAny_bind (wpAny_pure (wpAny_throw (q _ _ (((Heap.SameBut.update ..).extBut.push _).push _) ⟨_,Heap.get?_push_size _ rfl,rfl⟩)))
noncomputable def isIt (b:Bool)(h:Heap)(j t:Addr)(k:Nat):Prop:=match b with
 | true=>h.IsTupleIter j t k
 | false=>h.IsListIter j t k
noncomputable def isSq (b:Bool)(h:Heap)(t:Addr)(ys:Array Value):Prop:=match b with
 | true=>h.IsTuple t ys
 | false=>h.IsList t ys
theorem isIt.obj {b:Bool}{h:Heap}{j t:Addr}{k:Nat}(x:isIt b h j t k):∃ o,h.get? j=some o/\o.data=.fields #[.ref t,.int k 0]:=by
 cases b <;> (obtain ⟨o,e,_,d⟩:=x; exact ⟨o,e,d⟩)
theorem isIt.at {b:Bool}{h h':Heap}{j t:Addr}{k:Nat}(x:isIt b h j t k)(f:∀ o,h.get? j=some o->h'.get? j=some o):isIt b h' j t k:=by
 cases b <;> (obtain ⟨o,e,r⟩:=x; exact ⟨o,f _ e,r⟩)
theorem isSq.at {b:Bool}{h h':Heap}{t:Addr}{ys:Array Value}(x:isSq b h t ys)(f:∀ o,h.get? t=some o->h'.get? t=some o):isSq b h' t ys:=by
 cases b <;> (obtain ⟨o,e,r⟩:=x; exact ⟨o,f _ e,r⟩)
theorem isSq.lt {b:Bool}{h:Heap}{t:Addr}{ys:Array Value}(x:isSq b h t ys):t < h.objs.size:=by
 cases b <;> (obtain ⟨o,e,r⟩:=x; exact Heap.lt_size e)
noncomputable abbrev TI (b:Bool)(h:Heap)(j t:Addr)(k:Nat)(ys:Array Value):Prop:=isIt b h j t k/\isSq b h t ys
theorem TI.at {b:Bool}{h h':Heap}{j t:Addr}{k:Nat}{ys:Array Value}(x:TI b h j t k ys)(f:∀ c o,(c=j\/c=t)->h.get? c=some o->h'.get? c=some o):TI b h' j t k ys:=⟨x.1.at λ o=>f _ o (.inl rfl),x.2.at λ o=>f _ o (.inr rfl)⟩
theorem nx_item {b:Bool}{j t:Addr}{k:Nat}{ys:Array Value}{y:Value}{Q:Value->Shared->Prop}(st:TI b s.heap j t k ys)(hn:t≠j)(hy:ys[k]? = some y)
  (q:∀ h',TI b h' j t (k+1) ys->Heap.SameBut j s.heap h'->Q y { s with heap:=h' }):wpAny (model prog w) A (Builtin.SmallTypes.nextOf (.ref j)) Q E s:=by
 cases b with
 | true=>exact nxT_item st hn hy q
 | false=>exact wpAny_nextOf_list_item st.1 st.2 hy λ h' i sb=>q h' ⟨i,Heap.IsList.extBut st.2 sb.extBut hn⟩ sb
theorem nx_end {b:Bool}{j t:Addr}{k:Nat}{ys:Array Value}{Q:Value->Shared->Prop}(hh:A.handled=none)(st:TI b s.heap j t k ys)(hy:ys[k]? = none)
  (q:∀ h' x,Heap.ExtBut j s.heap h'->(∃ o,h'.get? x=some o/\o.cls=.type "StopIteration")->E (.ref x) { s with heap:=h' }):wpAny (model prog w) A (Builtin.SmallTypes.nextOf (.ref j)) Q E s:=by
 cases b with
 | true=>exact nxT_end hh st hy q
 | false=>exact wpAny_nextOf_list_end hh st.1 st.2 hy q
structure Zs (p q:Bool)(h:Heap)(z T O i j a b:Addr)(f:Value)(k1 k2:Nat)(xs ys:Array Value)(u v:Value):Prop where
 z:IsZip h z T O f
 t:IsPair h T (.ref i) (.ref j)
 o:IsPair h O u v
 i:TI p h i a k1 xs
 j:TI q h j b k2 ys
variable {p₁ p₂:Bool}{z T O i j a b:Addr}{k:Nat}{xs ys:Array Value}{u v:Value}
theorem next_item (D:ZipApart z T O i j a b){Q:Option Value->Shared->Prop}{x y:Value}(Z:Zs p₁ p₂ s.heap z T O i j a b .none k k xs ys u v)(hx:xs[k]? = some x)(hy:ys[k]? = some y)
  (q:∀ h',Zs p₁ p₂ h' z T O i j a b (rawInt s.heap.objs.size) (k+1) (k+1) xs ys x y->IsPair h' s.heap.objs.size x y ->
   (∀ c o,c≠z->c≠O->c≠i->c≠j->s.heap.get? c=some o->h'.get? c=some o)->Q (some (.ref s.heap.objs.size)) { s with heap:=h' }):wpAny (model prog w) A (pyNext (.ref z)) Q E s:=by
 have hT:s.TypeIs (.ref z) "zip" := ⟨_,Z.z,rfl⟩
 unfold pyNext
 refine wpAny_bind (wpAny_attempt (wpAny_callSpecial?_slot (name:=Str.ofString "__next__") hT F.slot_zip_next (wpAny_call_entry F.slot_zip_next hT F.entry_zip_next ?_ (F.args_zip_next_1 _))))
 show wpAny _ _ (field (.ref z) 2 >>= _) _ _ _; refine wpAny_bind (wpAny_field Z.z rfl (x:=.bool false) rfl ?_)
 show wpAny _ _ (field (.ref z) 3 >>= _) _ _ _; refine wpAny_bind (wpAny_field Z.z rfl (x:=.ref T) rfl (wpAny_bind (wpAny_seqItems Z.t rfl ?_)))
 show wpAny _ _ (Builtin.SmallTypes.ownedTupleIsFree (.ref z) >>= _) _ _ _; refine wpAny_bind ?_; unfold Builtin.SmallTypes.ownedTupleIsFree
 refine wpAny_bind (wpAny_field Z.z rfl (x:=.none) rfl (wpAny_pure ?_)); simp only [if_true]
 refine wpAny_bind (wpAny_rule (wpAny_bind (wpAny_field Z.z rfl (x:=.ref O) rfl (wpAny_bind (wpAny_setField_rec Z.z (by simp) λ g1 z1 s1=>?_)))))
 replace z1:IsZip g1 z T O .ellipsis:=z1
 refine wpAny_bind ?_; simp only [List.zipIdx_cons,List.zipIdx_nil,List.forIn_cons,List.forIn_nil]
 have i1:TI p₁ g1 i a k xs:=Z.i.at λ c o hc q=>s1.extBut _ _ (by rcases hc with rfl | rfl; exact D.i1z; exact D.l1z) q
 have j1:TI p₂ g1 j b k ys:=Z.j.at λ c o hc q=>s1.extBut _ _ (by rcases hc with rfl | rfl; exact D.i2z; exact D.l2z) q
 refine wpAny_bind (wpAny_bind (wpAny_onRaise ?_)); show wpAny _ _ (Builtin.SmallTypes.nextOf (.ref i) >>= _) _ _ _
 refine wpAny_bind (nx_item i1 D.l1i1 hx λ g2 i2 s2=>wpAny_pure ?_)
 have o2:IsPair g2 O u v:=s2.extBut _ _ D.TOi1 (s1.extBut _ _ D.TOz Z.o)
 refine wpAny_bind (wpAny_seqItems o2 rfl (wpAny_bind (wpAny_updateSeq_pair o2 λ g3 o3 s3=>wpAny_bind (wpAny_letGo (wpAny_pure ?_)))))
 replace o3:IsPair g3 O x v:=o3
 have j3:TI p₂ g3 j b k ys:=j1.at λ c o hc q=>s3.extBut _ _ (by rcases hc with rfl | rfl; exact D.TOi2.symm; exact D.l2TO) (s2.extBut _ _ (by rcases hc with rfl | rfl; exact D.i12.symm; exact D.l2i1) q)
 refine wpAny_bind (wpAny_bind (wpAny_onRaise ?_)); show wpAny _ _ (Builtin.SmallTypes.nextOf (.ref j) >>= _) _ _ _
 refine wpAny_bind (nx_item j3 D.l2i2 hy λ g4 j4 s4=>wpAny_pure ?_)
 have o4:IsPair g4 O x v:=s4.extBut _ _ D.TOi2 o3
 refine wpAny_bind (wpAny_seqItems o4 rfl (wpAny_bind (wpAny_updateSeq_pair o4 λ g5 o5 s5=>wpAny_bind (wpAny_letGo (wpAny_pure (wpAny_pure ?_))))))
 replace o5:IsPair g5 O x y:=o5
 refine wpAny_bind (wpAny_seqItems o5 rfl (wpAny_bind (wpAny_newTuple ?_)))
 have sz:g5.objs.size=s.heap.objs.size:=by rw [s5.1,s4.1,s3.1,s2.1,s1.1]
 have z5:IsZip g5 z T O .ellipsis:=s5.extBut _ _ D.TOz.symm (s4.extBut _ _ D.i2z.symm (s3.extBut _ _ D.TOz.symm (s2.extBut _ _ D.i1z.symm z1)))
 have k5:∀ c o,c≠z->c≠O->c≠i->c≠j->s.heap.get? c=some o->g5.get? c=some o:=λ c o c1 c2 c3 c4 e=>s5.extBut _ _ c2 (s4.extBut _ _ c4 (s3.extBut _ _ c2 (s2.extBut _ _ c3 (s1.extBut _ _ c1 e))))
 have i5:TI p₁ g5 i a (k+1) xs:=i2.at λ c o hc q=>s5.extBut _ _ (by rcases hc with rfl | rfl; exact D.TOi1.symm; exact D.l1TO) (s4.extBut _ _ (by rcases hc with rfl | rfl; exact D.i12; exact D.l1i2) (s3.extBut _ _ (by rcases hc with rfl | rfl; exact D.TOi1.symm; exact D.l1TO) q))
 have j5:TI p₂ g5 j b (k+1) ys:=j4.at λ c o hc q=>s5.extBut _ _ (by rcases hc with rfl | rfl; exact D.TOi2.symm; exact D.l2TO) q
 have zlt:z < g5.objs.size:=Heap.lt_size z5
 show wpAny _ _ (Builtin.SmallTypes.ownedTupleHandOut (.ref z) (.ref g5.objs.size) >>= _) _ _ _; refine wpAny_bind ?_; unfold Builtin.SmallTypes.ownedTupleHandOut
 have z6:IsZip (g5.push { cls:=.type "tuple",data:=.seq #[x,y] }) z T O .ellipsis:=Heap.get?_push_of_some _ z5
 refine wpAny_bind (wpAny_setField_rec z6 (by simp) λ g7 z7 s7=>?_)
 replace z7:IsZip g7 z T O (rawInt g5.objs.size):=z7
 refine wpAny_setField_rec z7 (by simp) λ g8 z8 s8=>?_
 replace z8:IsZip g8 z T O (rawInt g5.objs.size):=z8
 have up:∀ c o,c≠z->g5.get? c=some o->g8.get? c=some o:=λ c o c1 e=>s8.extBut _ _ c1 (s7.extBut _ _ c1 (Heap.get?_push_of_some _ e))
 have t8:IsPair g8 g5.objs.size x y:=s8.extBut _ _ (Nat.ne_of_gt zlt) (s7.extBut _ _ (Nat.ne_of_gt zlt) (Heap.get?_push_size _ rfl))
 rw [sz] at z8 t8
 refine wpAny_pure ⟨_,rfl,wpAny_pure ?_⟩
 show Q (some (.ref g5.objs.size)) _
 rw [sz]
 exact q g8 ⟨z8,up _ _ D.TIz (k5 T _ D.TIz D.TITO D.TIi1 D.TIi2 Z.t),up _ _ D.TOz o5,i5.at λ c o hc q=>up _ o (by rcases hc with rfl | rfl; exact D.i1z; exact D.l1z) q,j5.at λ c o hc q=>up _ o (by rcases hc with rfl | rfl; exact D.i2z; exact D.l2z) q⟩ t8 λ c o c1 c2 c3 c4 e=>up c o c1 (k5 c o c1 c2 c3 c4 e)
theorem next_end (hh:A.handled=none)(D:ZipApart z T O i j a b){Q:Option Value->Shared->Prop}(Z:Zs p₁ p₂ s.heap z T O i j a b .none k k xs ys u v)(hx:xs[k]? = none\/ys[k]? = none)
  (q:∀ h',(∀ c o,c≠z->c≠O->c≠i->c≠j->s.heap.get? c=some o->h'.get? c=some o)->Q none { s with heap:=h' }):wpAny (model prog w) A (pyNext (.ref z)) Q E s:=by
 have hT:s.TypeIs (.ref z) "zip" := ⟨_,Z.z,rfl⟩
 have fin:∀ h' x,(∀ c o,c≠z->c≠O->c≠i->c≠j->s.heap.get? c=some o->h'.get? c=some o)->(∃ o,h'.get? x=some o/\o.cls=.type "StopIteration") ->
   wpAny (model prog w) A (do if (<- PySem.isInstance (.ref x) (.type "StopIteration")) then pure none else throw (.ref x)) Q E { s with heap:=h' }:=λ h' x kp ⟨o,ho,hc⟩ =>
  wpAny_bind (wpAny_isInstance (T := "StopIteration") (b:=true) ⟨o,ho,hc⟩ isSubtype_stop (wpAny_pure (q _ kp)))
 unfold pyNext
 refine wpAny_bind (wpAny_attempt (wpAny_callSpecial?_slot (name:=Str.ofString "__next__") hT F.slot_zip_next (wpAny_call_entry F.slot_zip_next hT F.entry_zip_next ?_ (F.args_zip_next_1 _))))
 show wpAny _ _ (field (.ref z) 2 >>= _) _ _ _; refine wpAny_bind (wpAny_field Z.z rfl (x:=.bool false) rfl ?_)
 show wpAny _ _ (field (.ref z) 3 >>= _) _ _ _; refine wpAny_bind (wpAny_field Z.z rfl (x:=.ref T) rfl (wpAny_bind (wpAny_seqItems Z.t rfl ?_)))
 show wpAny _ _ (Builtin.SmallTypes.ownedTupleIsFree (.ref z) >>= _) _ _ _; refine wpAny_bind ?_; unfold Builtin.SmallTypes.ownedTupleIsFree
 refine wpAny_bind (wpAny_field Z.z rfl (x:=.none) rfl (wpAny_pure ?_)); simp only [if_true]
 refine wpAny_bind (wpAny_rule (wpAny_bind (wpAny_field Z.z rfl (x:=.ref O) rfl (wpAny_bind (wpAny_setField_rec Z.z (by simp) λ g1 z1 s1=>?_)))))
 replace z1:IsZip g1 z T O .ellipsis:=z1
 refine wpAny_bind ?_; simp only [List.zipIdx_cons,List.zipIdx_nil,List.forIn_cons,List.forIn_nil]
 have i1:TI p₁ g1 i a k xs:=Z.i.at λ c o hc q=>s1.extBut _ _ (by rcases hc with rfl | rfl; exact D.i1z; exact D.l1z) q
 have j1:TI p₂ g1 j b k ys:=Z.j.at λ c o hc q=>s1.extBut _ _ (by rcases hc with rfl | rfl; exact D.i2z; exact D.l2z) q
 refine wpAny_bind (wpAny_bind (wpAny_onRaise ?_)); show wpAny _ _ (Builtin.SmallTypes.nextOf (.ref i) >>= _) _ _ _
 cases ex:xs[k]? with
 | none =>
  refine wpAny_bind (nx_end hh i1 ex λ g2 x s2 hq77=>?_)
  obtain ⟨ox,hox,hcx⟩:=hq77
  have z2:IsZip g2 z T O .ellipsis:=s2 _ _ D.i1z.symm z1
  have hxz:x≠z:=λ e=>by subst e; rw [z2] at hox; cases hox; simp at hcx
  refine wpAny_setField_rec z2 (by simp) λ g3 _ s3=>fin g3 x (λ c o c1 _ c3 _ e=>s3.extBut _ _ c1 (s2 _ _ c3 (s1.extBut _ _ c1 e))) ⟨ox,s3.extBut _ _ hxz hox,hcx⟩
 | some x0 =>
  have ey:ys[k]? = none:=by rcases hx with h | h; rw [ex] at h; cases h; exact h
  refine wpAny_bind (nx_item i1 D.l1i1 ex λ g2 i2 s2=>wpAny_pure ?_)
  have o2:IsPair g2 O u v:=s2.extBut _ _ D.TOi1 (s1.extBut _ _ D.TOz Z.o)
  refine wpAny_bind (wpAny_seqItems o2 rfl (wpAny_bind (wpAny_updateSeq_pair o2 λ g3 o3 s3=>wpAny_bind (wpAny_letGo (wpAny_pure ?_)))))
  have j3:TI p₂ g3 j b k ys:=j1.at λ c o hc q=>s3.extBut _ _ (by rcases hc with rfl | rfl; exact D.TOi2.symm; exact D.l2TO) (s2.extBut _ _ (by rcases hc with rfl | rfl; exact D.i12.symm; exact D.l2i1) q)
  refine wpAny_bind (wpAny_bind (wpAny_onRaise ?_)); show wpAny _ _ (Builtin.SmallTypes.nextOf (.ref j) >>= _) _ _ _
  refine wpAny_bind (nx_end hh j3 ey λ g4 x s4 hq78=>?_)
  obtain ⟨ox,hox,hcx⟩:=hq78
  have z4:IsZip g4 z T O .ellipsis:=s4 _ _ D.i2z.symm (s3.extBut _ _ D.TOz.symm (s2.extBut _ _ D.i1z.symm z1))
  have hxz:x≠z:=λ e=>by subst e; rw [z4] at hox; cases hox; simp at hcx
  refine wpAny_setField_rec z4 (by simp) λ g5 _ s5=>fin g5 x (λ c o c1 c2 c3 c4 e=>s5.extBut _ _ c1 (s4 _ _ c4 (s3.extBut _ _ c2 (s2.extBut _ _ c3 (s1.extBut _ _ c1 e))))) ⟨ox,s5.extBut _ _ hxz hox,hcx⟩
end
end ZT
namespace ZT
open PySem PySem.Spec PyProof.Rows
noncomputable def itN (b:Bool):String:=match b with
 | true => "tuple_iterator"
 | false => "list_iterator"
theorem meets_new (p q:Bool)(e:p=true)(a b:Addr)(xs ys:Array Value):Meets (Builtin.«zip.__new__» ⟨[.type "zip",.ref a,.ref b],[]⟩) (λ _ R s=>isSq p s.heap a xs/\isSq q s.heap b ys /\
   R (.ok (.ret (.ref (s.heap.objs.size+4)))) { s with heap:=((((s.heap.push { cls:=.type (itN p),data:=.fields #[.ref a,.int 0 0] }).push { cls:=.type (itN q),data:=.fields #[.ref b,.int 0 0] }).push { cls:=.type "tuple",data:=.seq #[.ref s.heap.objs.size,.ref (s.heap.objs.size+1)] }).push { cls:=.type "tuple",data:=.seq #[.none,.none] }).push { cls:=.type "zip",data:=.fields #[.none,.bool false,.bool false,.ref (s.heap.objs.size+2),.ref (s.heap.objs.size+3)] } }) :=
 .of_wp λ prog w A R s h=>by
  obtain ⟨hp,g,d,tk,os⟩:=s
  obtain ⟨ha,hb,h⟩:=h
  have hsub:=sub_zip
  subst e
  ·have h1:Heap.IsTuple (Shared.heap ⟨hp,g,d,tk,os⟩) a xs:=ha
   cases q with
   | true =>
    have h2:Heap.IsTuple (Shared.heap ⟨hp.push { cls:=.type "tuple_iterator",data:=.fields #[.ref a,.int 0 0] },g,d,tk,os⟩) b ys:=Heap.IsTuple.push hb _
    wp_walk using wpAny_pyIter_tuple h1,wpAny_pyIter_tuple h2
    refine ⟨_,rfl,?_⟩
    simp only [Heap.size_push]
    exact h
   | false =>
    have h2:Heap.IsList (Shared.heap ⟨hp.push { cls:=.type "tuple_iterator",data:=.fields #[.ref a,.int 0 0] },g,d,tk,os⟩) b ys:=Heap.IsList.push hb _
    wp_walk using wpAny_pyIter_tuple h1,wpAny_pyIter_list h2
    refine ⟨_,rfl,?_⟩
    simp only [Heap.size_push]
    exact h
section
variable {prog:Program}{w:World}{A:Around}{E:Value->Shared->Prop}{s:Shared}
theorem call_zip {p₁ p₂:Bool}(hp₁:p₁=true){a b:Addr}{xs ys:Array Value}{Q:Value->Shared->Prop}(ha:isSq p₁ s.heap a xs)(hb:isSq p₂ s.heap b ys)
  (h:∀ h',Zs p₁ p₂ h' (s.heap.objs.size+4) (s.heap.objs.size+2) (s.heap.objs.size+3) s.heap.objs.size (s.heap.objs.size+1) a b .none 0 0 xs ys .none .none ->
   (∀ c o,s.heap.get? c=some o->h'.get? c=some o)->Q (.ref (s.heap.objs.size+4)) { s with heap:=h' }) :
  wpAny (model prog w) A (call (.type "zip") [.ref a,.ref b]) Q E s:=by
 refine callType_new F.called_zip (by decide) (F.typeCall_zip_2 _ _) (F.newCall_zip_2 _ _) (λ obj=>F.args_object_init_3 obj _ _) F.entry_zip_new (meets_new p₁ p₂ hp₁ a b xs ys) ⟨ha,hb,?_⟩
 generalize e1:s.heap.push { cls:=.type (itN p₁),data:=.fields #[.ref a,.int 0 0] }=g1
 have z1:g1.objs.size=s.heap.objs.size+1:=by rw [<- e1]; exact Heap.size_push ..
 have n1:g1.get? s.heap.objs.size=some { cls:=.type (itN p₁),data:=.fields #[.ref a,.int 0 0] }:=by rw [<- e1]; exact Heap.get?_push_size _ rfl
 have k1:∀ c o,s.heap.get? c=some o->g1.get? c=some o:=λ c o q=>by rw [<- e1]; exact Heap.get?_push_of_some _ q
 generalize e2:g1.push { cls:=.type (itN p₂),data:=.fields #[.ref b,.int 0 0] }=g2
 have z2:g2.objs.size=s.heap.objs.size+2:=by rw [<- e2,Heap.size_push,z1]
 have n2:g2.get? (s.heap.objs.size+1)=some { cls:=.type (itN p₂),data:=.fields #[.ref b,.int 0 0] }:=by rw [<- e2,<- z1]; exact Heap.get?_push_size _ rfl
 have k2:∀ c o,g1.get? c=some o->g2.get? c=some o:=λ c o q=>by rw [<- e2]; exact Heap.get?_push_of_some _ q
 generalize e3:g2.push { cls:=.type "tuple",data:=.seq #[.ref s.heap.objs.size,.ref (s.heap.objs.size+1)] }=g3
 have z3:g3.objs.size=s.heap.objs.size+3:=by rw [<- e3,Heap.size_push,z2]
 have n3:g3.get? (s.heap.objs.size+2)=some { cls:=.type "tuple",data:=.seq #[.ref s.heap.objs.size,.ref (s.heap.objs.size+1)] }:=by rw [<- e3,<- z2]; exact Heap.get?_push_size _ rfl
 have k3:∀ c o,g2.get? c=some o->g3.get? c=some o:=λ c o q=>by rw [<- e3]; exact Heap.get?_push_of_some _ q
 generalize e4:g3.push { cls:=.type "tuple",data:=.seq #[.none,.none] }=g4
 have z4:g4.objs.size=s.heap.objs.size+4:=by rw [<- e4,Heap.size_push,z3]
 have n4:g4.get? (s.heap.objs.size+3)=some { cls:=.type "tuple",data:=.seq #[.none,.none] }:=by rw [<- e4,<- z3]; exact Heap.get?_push_size _ rfl
 have k4:∀ c o,g3.get? c=some o->g4.get? c=some o:=λ c o q=>by rw [<- e4]; exact Heap.get?_push_of_some _ q
 generalize e5:g4.push { cls:=.type "zip",data:=.fields #[.none,.bool false,.bool false,.ref (s.heap.objs.size+2),.ref (s.heap.objs.size+3)] }=g5
 have n5:g5.get? (s.heap.objs.size+4)=some { cls:=.type "zip",data:=.fields #[.none,.bool false,.bool false,.ref (s.heap.objs.size+2),.ref (s.heap.objs.size+3)] }:=by rw [<- e5,<- z4]; exact Heap.get?_push_size _ rfl
 have k5:∀ c o,g4.get? c=some o->g5.get? c=some o:=λ c o q=>by rw [<- e5]; exact Heap.get?_push_of_some _ q
 have kk:∀ c o,s.heap.get? c=some o->g5.get? c=some o:=λ c o q=>k5 _ _ (k4 _ _ (k3 _ _ (k2 _ _ (k1 _ _ q))))
 refine ⟨⟨_,n5,rfl⟩,h g5 ⟨n5,k5 _ _ (k4 _ _ n3),k5 _ _ n4,⟨?_,ha.at λ o=>kk _ o⟩,?_,hb.at λ o=>kk _ o⟩ kk⟩
 ·cases p₁ <;> exact ⟨_,k5 _ _ (k4 _ _ (k3 _ _ (k2 _ _ n1))),rfl,rfl⟩
 ·cases p₂ <;> exact ⟨_,k5 _ _ (k4 _ _ (k3 _ _ n2)),rfl,rfl⟩
end
end ZT
namespace D
open PySem PySem.Spec PyProof.Rows L2
noncomputable def SqB (b:Bool)(K:PySem.W.Frag)(H:Hp)(a:Addr)(xs:List V):Prop:=match b with
 | true=>SqT K H a xs
 | false=>SqL K H a xs
theorem Inv.sqB {X:Cx}{pins:List (Addr×Obj)}{σ:St}{H:Hp}{s:Shared}{b:Bool}{a:Addr}{xs:List V}(I:Inv X pins σ H s)(h:SqB b X.K H a xs):∃ its:List Value,Vals xs its/\ZT.isSq b s.heap a its.toArray:=by
 cases b with
 | true=>obtain ⟨its,r,p,_⟩:=I.tuple h; exact ⟨its,r,p⟩
 | false=>obtain ⟨its,r,p,_⟩:=I.list h; exact ⟨its,r,p.isList⟩
theorem Inv.sqB_inj {X:Cx}{pins:List (Addr×Obj)}{σ:St}{H:Hp}{s:Shared}{b:Bool}{a:Addr}{xs ys:List V}(I:Inv X pins σ H s)(h:SqB b X.K H a xs)(h':SqB b X.K H a ys):xs=ys:=by
 cases b with
 | true=>exact I.tuple_inj h h'
 | false=>exact I.list_inj h h'
noncomputable def Itzt (p q:Bool)(K:PySem.W.Frag)(a b:Addr):It :=
 ⟨λ i H=>∃ xs ys x y,SqB p K H a xs/\SqB q K H b ys/\xs[i]? = some x/\ys[i]? = some y,
  λ i H x H'=>∃ T u v,H T=none/\x=.ref T/\H'=upd H T (.tup [u,v])/\(∀ xs,SqB p K H a xs->xs[i]? = some u)/\∀ ys,SqB q K H b ys->ys[i]? = some v,
  λ i H=>∃ xs ys,SqB p K H a xs/\SqB q K H b ys/\(xs.length<=i\/ys.length<=i)⟩
theorem turn_zipT {p₁ p₂:Bool}{P:Program}{w:World}{K:PySem.W.Frag}{elts:List Expr}{x1:Nat}{tpos:Pos}{z TI TO i1 i2 a b:Addr}(Dz:ZipApart z TI TO i1 i2 a b) :
  Turn P w K (.Tuple elts x1 tpos) (Itzt p₁ p₂ K a b) [z,TI,TO,i1,i2] z (λ i h=>IsZip h z TI TO .none/\IsPair h TI (.ref i1) (.ref i2)/\(∃ u v,IsPair h TO u v)/\ZT.isIt p₁ h i1 a i/\ZT.isIt p₂ h i2 b i) where
 mem:=by simp
 obj:=λ i h ⟨hz,hTI,⟨u,v,hTO⟩,x1,x2⟩ c hc=>by
  obtain ⟨o1,e1,d1⟩:=x1.obj
  obtain ⟨o2,e2,d2⟩:=x2.obj
  have q:c=z\/c=TI\/c=TO\/c=i1\/c=i2:=by simpa using hc
  rcases q with rfl | rfl | rfl | rfl | rfl
  ·exact ⟨_,hz,λ v q=>by cases q⟩
  ·exact ⟨_,hTI,λ v q=>by cases q⟩
  ·exact ⟨_,hTO,λ v q=>by cases q⟩
  ·exact ⟨o1,e1,λ v q=>by rw [d1] at q; cases q⟩
  ·exact ⟨o2,e2,λ v q=>by rw [d2] at q; cases q⟩
 keep:=λ i h h' ⟨hz,hTI,⟨u,v,hTO⟩,x1,x2⟩ k=>⟨k z (by simp) _ hz,k TI (by simp) _ hTI,⟨u,v,k TO (by simp) _ hTO⟩,x1.at λ o e=>k i1 (by simp) _ e,x2.at λ o e=>k i2 (by simp) _ e⟩
 item:=by
  intro X hP hw hK hc i pins s σ H E I hf ⟨hz,hTI,⟨u0,v0,hTO⟩,l1,l2⟩ ⟨xs,ys,x,y,hq1,hq2,hx,hy⟩
  subst hP hw hK
  obtain ⟨its1,rv1,p1⟩:=Inv.sqB I hq1
  obtain ⟨its2,rv2,p2⟩:=Inv.sqB I hq2
  obtain ⟨u,hu,ru⟩:=rv1.get hx
  obtain ⟨v,hv,rv⟩:=rv2.get hy
  refine ZT.next_item Dz (xs:=its1.toArray) (ys:=its2.toArray) ⟨hz,hTI,hTO,⟨l1,p1⟩,l2,p2⟩ (x:=u) (y:=v) (by simpa using hu) (by simpa using hv) λ h' Z' hT kp=>?_
  refine ⟨_,rfl,wpAny_letOwnedTupleGo_zip Z'.z λ h'' hz'' sb=>?_⟩
  obtain ⟨t0,t1,t2,t3,t4,t5⟩:=I.fpOk (Nat.le_refl _) (I.hok.fresh (Nat.le_refl _))
  have nT:s.heap.objs.size≠z:=Nat.ne_of_gt (Heap.lt_size hz)
  have nTO:s.heap.objs.size≠TO:=Nat.ne_of_gt (Heap.lt_size hTO)
  have n1:s.heap.objs.size≠i1:=by obtain ⟨o,e,_⟩:=l1.obj; exact Nat.ne_of_gt (Heap.lt_size e)
  have n2:s.heap.objs.size≠i2:=by obtain ⟨o,e,_⟩:=l2.obj; exact Nat.ne_of_gt (Heap.lt_size e)
  have nTI:s.heap.objs.size≠TI:=Nat.ne_of_gt (Heap.lt_size hTI)
  have I1:Inv X pins σ H { s with heap:=h'',toks:=s.toks }:=Inv.turnedL (ch:=[z,TI,TO,i1,i2]) I (λ c ob hc q=>by
   simp only [List.mem_cons,List.not_mem_nil,or_false,not_or] at hc
   exact (sb.2 c hc.1).trans (kp c ob hc.1 hc.2.2.1 hc.2.2.2.1 hc.2.2.2.2 q)) hf
  have eT:h''.get? s.heap.objs.size=some { cls:=.type "tuple",data:=.seq #[u,v] }:=(sb.2 _ nT).trans hT
  have I2:=Inv.trackT (us:=[u,v]) (ys:=[x,y]) I1 eT t0 (.cons ru (.cons rv .nil)) (by simp; have:=s16; omega) t3 t1 t4 t5
  refine ⟨.ref s.heap.objs.size,_,I2,rfl,⟨_,x,y,t0,rfl,rfl,λ zs hz=>by rw [Inv.sqB_inj I hz hq1]; exact hx,λ zs hz=>by rw [Inv.sqB_inj I hz hq2]; exact hy⟩,⟨hz'',(sb.2 _ Dz.TIz).trans Z'.t,⟨u,v,(sb.2 _ Dz.TOz).trans Z'.o⟩,?_,?_⟩,λ c hc=>?_⟩
  ·exact Z'.i.1.at λ o e=>(sb.2 i1 Dz.i1z).trans e
  ·exact Z'.j.1.at λ o e=>(sb.2 i2 Dz.i2z).trans e
  ·have q:c=z\/c=TI\/c=TO\/c=i1\/c=i2:=by simpa using hc
   have hn:c≠s.heap.objs.size:=by rcases q with rfl | rfl | rfl | rfl | rfl <;> (intro e; first | exact nT e.symm | exact nTI e.symm | exact nTO e.symm | exact n1 e.symm | exact n2 e.symm)
   rw [upd_ne hn]
   exact (hf c hc).1
 done:=by
  intro X hP hw hK hc i pins s σ H E I hf ⟨hz,hTI,⟨u0,v0,hTO⟩,l1,l2⟩ ⟨xs,ys,hq1,hq2,hx⟩
  subst hP hw hK
  obtain ⟨its1,rv1,p1⟩:=Inv.sqB I hq1
  obtain ⟨its2,rv2,p2⟩:=Inv.sqB I hq2
  have e1:=rv1.length
  have e2:=rv2.length
  refine ZT.next_end (I.ok.hd hc) Dz (xs:=its1.toArray) (ys:=its2.toArray) ⟨hz,hTI,hTO,⟨l1,p1⟩,l2,p2⟩ ?_ λ h' eb=>⟨rfl,Inv.turnedL (t':=s.toks) (ch:=[z,TI,TO,i1,i2]) I (λ c ob hc q=>by
   simp only [List.mem_cons,List.not_mem_nil,or_false,not_or] at hc
   exact eb c ob hc.1 hc.2.2.1 hc.2.2.2.1 hc.2.2.2.2 q) hf⟩
  rcases hx with hx | hx
  ·exact .inl (by simp; omega)
  ·exact .inr (by simp; omega)
 self:=λ _ _ _ _ _ ⟨hz,_⟩ h=>wpAny_pyIter_zip hz h
section
variable {X:Cx}{a b:Expr}{p pos:Pos}{ta:TA}
noncomputable def iZipT (p q:Bool)(K:PySem.W.Frag)(ta:TA):TI:=λ σ H R=>ta σ H λ vs H1=>∃ c d xs ys,vs=[.ref c,.ref d]/\SqB p K H1 c xs/\SqB q K H1 d ys/\R (Itzt p q K c d) H1
theorem pi_zipT {p₁ p₂:Bool}(hp₁:p₁=true){elts:List Expr}{x1:Nat}{tpos:Pos}(hg:Gl X "zip")(hm:X.mg "zip" = none)(ha:PA X [a,b] ta)(hs:starEach [a,b] X.env=(false,eval a X.env) :: starEach [b] X.env:=by rfl)(hpl:(backTo pos (starEach [b] X.env)).any (·.1)=false:=by rfl) :
  PI X (.Tuple elts x1 tpos) (.Call (.Name "zip" p) [a,b] [] pos) (iZipT p₁ p₂ X.K ta):=by
 intro pins s σ H R I h
 refine Call_ (ld_blt I hg hm bt_zip (PyProof.Rows.callWith_type1 (thn (ha pos pins s σ H _ I h) λ us s1 ⟨vs,H1,I1,r1,q1⟩=>?_) hs hpl))
 obtain ⟨c,d,xs,ys,e,hq1,hq2,q⟩:=q1
 subst e
 obtain ⟨v1,v2,rfl,rr1,rr2⟩:=vals2 r1
 cases (show _=Value.ref c from rr1)
 cases (show _=Value.ref d from rr2)
 obtain ⟨its1,rv1,p1⟩:=Inv.sqB I1 hq1
 obtain ⟨its2,rv2,p2⟩:=Inv.sqB I1 hq2
 have a1:c < s1.heap.objs.size:=p1.lt
 have a2:d < s1.heap.objs.size:=p2.lt
 refine ZT.call_zip hp₁ p1 p2 λ h' Z kp=>?_
 have I2:Inv X pins σ H1 { s1 with heap:=h' }:=I1.kept (t':=s1.toks) kp
 refine wpAny_pyIter_zip Z.z ?_
 refine ⟨_,[_,_,_,_,_],_,_,H1,rfl,I2,turn_zipT (zipApart_new a1 a2),⟨Z.z,Z.t,⟨_,_,Z.o⟩,Z.i.1,Z.j.1⟩,λ e he=>?_,q⟩
 have z:s1.heap.objs.size<=e:=by
  have z:e=s1.heap.objs.size+4\/e=s1.heap.objs.size+2\/e=s1.heap.objs.size+3\/e=s1.heap.objs.size\/e=s1.heap.objs.size+1:=by simpa using he
  rcases z with z | z | z | z | z <;> rw [z] <;> first | exact Nat.le_refl _ | exact Nat.le_add_right _ _
 exact I1.fpOk z (I1.hok.fresh z)
end
section
variable {X:Cx}{K:PySem.W.Frag}{a b:Expr}{p pos:Pos}{t:TAd}
noncomputable def sqD (b:Bool)(ds:List PyData):PyData:=match b with
 | true=>.tuple ds
 | false=>.list ds
theorem sqD_rep {b:Bool}{H:Hp}{ds:List PyData}{v:V}(r:RepD K H (sqD b ds) v):∃ c xs,v=.ref c/\SqB b K H c xs/\(∀ H',Kp H H'->SqB b K H' c xs)/\RepA K H ds xs:=by
 cases b with
 | true =>
  simp only [sqD,RepD] at r
  obtain ⟨c,xs,e,h1,h2⟩:=r
  exact ⟨c,xs,e,h1,λ H' k=>SqT.keep k h1,h2⟩
 | false =>
  simp only [sqD,RepD] at r
  obtain ⟨c,xs,e,h1,h2⟩:=r
  exact ⟨c,xs,e,h1.sq,λ H' k=>(h1.keep k).sq,h2⟩
noncomputable def dZipB (p q:Bool)(t:TAd)(τ:DS)(M:MH)(R:List W->MH->Prop):Prop:=t τ M λ ws M1=>∃ ds es,ws=[.d (sqD p ds),.d (sqD q es)]/\R (zipW ds es) M1
noncomputable def dZipT (t:TAd)(τ:DS)(M:MH)(R:List W->MH->Prop):Prop:=t τ M λ ws M1=>∃ ds es,ws=[.d (.tuple ds),.d (.tuple es)]/\R (zipW ds es) M1
noncomputable def dZipTL (t:TAd)(τ:DS)(M:MH)(R:List W->MH->Prop):Prop:=t τ M λ ws M1=>∃ ds es,ws=[.d (.tuple ds),.d (.list es)]/\R (zipW ds es) M1
theorem pid_zipB {p₁ p₂:Bool}(hp₁:p₁=true){elts:List Expr}{x1:Nat}{tpos:Pos}(hg:Gl X "zip")(hm:X.mg "zip" = none)(ha:PAd X [a,b] t)(h1:isSt a=false:=by rfl)(h2:([b].all λ e=>!isSt e)=true:=by rfl) :
  PId X (.Tuple elts x1 tpos) (.Call (.Name "zip" p) [a,b] [] pos) (dZipB p₁ p₂ t):=pi_w (pi_zipT hp₁ hg hm ha (star_ok a [b] X.env h1) (plain_ok pos X.env [b] h2)) λ σ H R hq79=>by
 obtain ⟨τ,M,Rd,A,h,k⟩:=hq79
 refine ⟨τ,M,_,A,h,λ vs H1 ws M1 kp r m hq80=>?_⟩
 obtain ⟨ds,es,ew,q⟩:=hq80
 subst ew
 obtain ⟨v,v',ev,r1,r2⟩:=repWs2 r
 obtain ⟨c,xs,e1,hs,ks,ra⟩:=sqD_rep r1
 obtain ⟨d,ys,e2,hs',ks',ra'⟩:=sqD_rep r2
 subst e1 e2
 have hl:=ra.length
 have hl':=ra'.length
 refine ⟨c,d,xs,ys,ev,hs,hs',k _ H1 _ M1 kp m (λ H2 kp2 i=>?_) q⟩
 have hs2:=ks _ kp2
 have hs2':=ks' _ kp2
 have hlw:(zipW ds es).length=min xs.length ys.length:=by simp [zipW,hl,hl']
 refine ⟨λ hi=>⟨xs,ys,xs[i]'(by omega),ys[i]'(by omega),hs2,hs2',by simp,by simp⟩,λ hi=>⟨xs,ys,hs2,hs2',by omega⟩,λ x H' hi hq81=>?_⟩
 obtain ⟨T,u,v,hT,ex,eH,hu,hv⟩:=hq81
 subst ex eH
 have hxu:=hu xs hs2
 have hxv:=hv ys hs2'
 obtain ⟨d1,e3,rd⟩:=(ra.keep kp2).get' hxu
 obtain ⟨d2,e4,rd'⟩:=(ra'.keep kp2).get' hxv
 have kpn:Kp H2 (upd H2 T (.tup [u,v])):=Kp.new hT
 have hid:i < min ds.length es.length:=by rw [hlw] at hi; omega
 refine ⟨kpn,λ M m=>m.new hT,.d (.tuple [ds.getD i .none,es.getD i .none]),by unfold zipW; rw [List.getElem?_map,List.getElem?_range hid]; rfl,?_⟩
 have ed:ds.getD i .none=d1:=by simp [List.getD,e3]
 have ed':es.getD i .none=d2:=by simp [List.getD,e4]
 rw [ed,ed']
 simp only [RepW,RepD,RepA]
 exact ⟨T,_,rfl,.inl (.inl upd_same),_,_,rfl,rd.keep kpn,_,_,rfl,rd'.keep kpn,rfl⟩
theorem pid_zipT0 {elts:List Expr}{x1:Nat}{tpos:Pos}(hg:Gl X "zip")(hm:X.mg "zip" = none)(ha:PAd X [a,b] t)(h1:isSt a=false:=by rfl)(h2:([b].all λ e=>!isSt e)=true:=by rfl) :
  PId X (.Tuple elts x1 tpos) (.Call (.Name "zip" p) [a,b] [] pos) (dZipT t):=pid_zipB (p₁:=true) (p₂:=true) rfl hg hm ha h1 h2
theorem pid_zipTL0 {elts:List Expr}{x1:Nat}{tpos:Pos}(hg:Gl X "zip")(hm:X.mg "zip" = none)(ha:PAd X [a,b] t)(h1:isSt a=false:=by rfl)(h2:([b].all λ e=>!isSt e)=true:=by rfl) :
  PId X (.Tuple elts x1 tpos) (.Call (.Name "zip" p) [a,b] [] pos) (dZipTL t):=pid_zipB (p₁:=true) (p₂:=false) rfl hg hm ha h1 h2
end
section
variable {X:Cx}{K:PySem.W.Frag}
noncomputable def idxAt (ds:List PyData)(d:PyData)(j:Nat):Prop:=j < ds.length/\(∀ y,ds[j]? = some y->PyData.eqv y d=true)/\∀ m y,m < j->ds[m]? = some y->PyData.eqv y d=false
noncomputable def rIndex (K:PySem.W.Frag):V->List V->Hp->VK->Prop:=λ x vs H Q=>∃ y d ds j,vs=[y]/\RepD K H (.tuple ds) x/\RepT K H d y/\inOk d ds=true/\idxAt ds d j/\Q (.int (j:Nat)) H
theorem mt_index {k:Nat}(hr:Room k X.A):MtM X "tuple.index" (rIndex X.K):=by
 intro pins s σ H x vs v us Q I rx rv h
 obtain ⟨y,d,ds,j,rfl,h1,h2,o,⟨j0,j1,j2⟩,q⟩:=h
 obtain ⟨u,rfl,ru⟩:=rv.one
 simp only [inOk,eqOk,Bool.and_eq_true,Bool.not_eq_true'] at o
 obtain ⟨⟨o1,o2⟩,o3,o4⟩:=o
 obtain ⟨as,r2⟩:=readsT_of I d h2 ru o2
 obtain ⟨bs,r1⟩:=reads_of I (.tuple ds) h1 rx o4
 have c3:PyData.canLayAll0 ds=true:=SeqAt.canLay_of_shaped o3
 cases r1 with
 | @tuple a ob its n _ as1 e1 e2 e3 e4 =>
  obtain ⟨cls,dd,data,sl⟩:=ob
  simp only at e2 e3
  subst e2 e3
  have em:=SeqAt.readsAll_map ds _ _ c3 e4
  have hlen:ds.length=its.size:=by have:=congrArg List.length em; simpa using this.symm
  have hat:∀ m (hm:m < its.size),ds[m]? = some (SeqAt.readOf s.heap its[m]):=λ m hm=>by
   rw [<- em,List.getElem?_map]
   simp [hm]
  refine call_meets F.slot_tuple_index ⟨_,e1,rfl⟩ F.entry_tuple_index (F.args_tuple_index_2 _ _) (SeqAt.tuple_indexAt a its n dd sl u (λ z=>PyData.eqv (SeqAt.readOf s.heap z) d) j (by omega) (j1 _ (hat j (by omega))) (λ m hm hlt=>j2 m _ hlt (hat m hm)))
   ⟨e1,SeqAt.items_eqAt e4 r2 c3 (SeqAt.canLay_of_shaped o1) (in_room hr o1),⟨.int _,H,I.tok _,⟨_,rfl⟩,q⟩⟩
noncomputable def dIndex (td te:TD)(τ:DS)(M:MH)(Q:QD):Prop:=td τ M λ w M1=>∃ ds,w=.d (.tuple ds)/\te τ M1 λ y M2=>∃ d j,y=.d d/\inOk d ds=true/\idxAt ds d j/\Q (.d (.int (j:Nat))) M2
variable {o e:Expr}{td te:TD}{apos cpos:Pos}
theorem pd_index0 {k:Nat}(hr:Room k X.A)(ho:PD X o td)(he:PD X e te)
  (hbase:attributeBase o "index" X.env (eval o X.env)=eval o X.env:=by rfl)
  (hfew:((backTo cpos (starEach [e] X.env)).all (λ x=>!x.1) && (backToKw cpos (keywordEach [] X.env)).all (λ x=>x.1.isSome)
   && decide (([e]:List Expr).length+([]:List Keyword).length+(if ([]:List Keyword).isEmpty then 0 else 1) < 30))=true:=by rfl)
  (hline:(apos.endLine == cpos.line)=true:=by rfl)(hs:isSt e=false:=by rfl):PD X (.Call (.Attribute o "index" apos) [e] [] cpos) (dIndex td te) :=
 pe_w (pe_bm PySem.F.plainAttrs_tuple PySem.F.slot_tuple_index PySem.F.type_tuple_index (mt_index hr) ho (pac he pad_nil hs) hbase hfew hline (star_ok e [] X.env hs) rfl) λ σ H Q h=>by
  obtain ⟨τ,M,Qd,A,h,k⟩:=h
  refine ⟨τ,M,_,A,h,λ x H1 w M1 kp1 r1 m1 hq82=>?_⟩
  obtain ⟨ds,ew,q1⟩:=hq82
  subst ew
  have r1':=r1
  simp only [RepW,RepD] at r1'
  obtain ⟨a,vs,ex,hsq,ra⟩:=r1'
  subst ex
  refine ⟨.inr (.inl ⟨rfl,vs,hsq⟩),τ,M1,one1 (λ y M2=>∃ d j,y=.d d/\inOk d ds=true/\idxAt ds d j/\Qd (.d (.int (j:Nat))) M2),A.go kp1 m1,q1,λ ys H2 wys M2 kp2 r2 m2 q2=>?_⟩
  obtain ⟨y,ey,d,j,ed,ok,hj,q4⟩:=one1_of q2
  subst ey ed
  obtain ⟨v,ev,rv⟩:=repWs1 r2
  subst ev
  exact ⟨v,d,ds,j,rfl,r1.keep kp2,.inl rv,ok,hj,k _ _ (.d (.int _)) _ (kp1.trans kp2) (by simp [RepW,RepD]) m2 q4⟩
end
namespace Q
section
variable {X:Cx}{o e a b:Expr}{td te:TD}{apos cpos p pos:Pos}
theorem pid_zipT {t:TAd}{elts:List Expr}{x1:Nat}{tpos:Pos}(hg:Gl X "zip")(hm:X.mg "zip" = none)(ha:Jd (PAd X [a,b] t))(h1:isSt a=false:=by rfl)(h2:([b].all λ e=>!isSt e)=true:=by rfl):Jd (PId X (.Tuple elts x1 tpos) (.Call (.Name "zip" p) [a,b] [] pos) (dZipT t)):=⟨D.pid_zipT0 hg hm ha.h h1 h2⟩
theorem pid_zipTL {t:TAd}{elts:List Expr}{x1:Nat}{tpos:Pos}(hg:Gl X "zip")(hm:X.mg "zip" = none)(ha:Jd (PAd X [a,b] t))(h1:isSt a=false:=by rfl)(h2:([b].all λ e=>!isSt e)=true:=by rfl):Jd (PId X (.Tuple elts x1 tpos) (.Call (.Name "zip" p) [a,b] [] pos) (dZipTL t)):=⟨D.pid_zipTL0 hg hm ha.h h1 h2⟩
theorem pd_index {k:Nat}(hr:Room k X.A)(ho:Jd (PD X o td))(he:Jd (PD X e te))
  (hbase:attributeBase o "index" X.env (eval o X.env)=eval o X.env:=by rfl)
  (hfew:((backTo cpos (starEach [e] X.env)).all (λ x=>!x.1) && (backToKw cpos (keywordEach [] X.env)).all (λ x=>x.1.isSome)
   && decide (([e]:List Expr).length+([]:List Keyword).length+(if ([]:List Keyword).isEmpty then 0 else 1) < 30))=true:=by rfl)
  (hline:(apos.endLine == cpos.line)=true:=by rfl)(hs:isSt e=false:=by rfl):Jd (PD X (.Call (.Attribute o "index" apos) [e] [] cpos) (dIndex td te)):=⟨D.pd_index0 hr ho.h he.h hbase hfew hline hs⟩
end
end Q
end D
namespace D
open PySem PySem.Spec PyProof.Rows L2
section
variable {X:Cx}{K:PySem.W.Frag}
theorem call_intS:CallR X (.type "int") (λ xs H Q=>∃ z n,xs=[.str z]/\PySem.intText? z=some n/\z.length<=640/\Q (.int n) H):=by
 intro pins s σ H xs us Q I r h
 obtain ⟨z,n,rfl,hz,hl,q⟩:=h
 obtain ⟨u,rfl,t,rfl⟩:=vals1 r
 exact PySem.W.KIN.call_text hz hl ⟨.int n,H,I.tok _,⟨_,rfl⟩,q⟩
noncomputable def rdIntS (ws:List W)(M:MH)(Q:QD):Prop:=∃ z n,ws=[.d (.str z)]/\PySem.intText? z=some n/\z.length<=640/\Q (.d (.int n)) M
theorem cd_intS:CallD K (λ xs H Q=>∃ z n,xs=[.str z]/\PySem.intText? z=some n/\z.length<=640/\Q (.int n) H) rdIntS:=by
 intro vs H ws M Qd Q r m ⟨z,n,e,hz,hl,q⟩ k
 subst e
 obtain ⟨v,e1,r1⟩:=repWs1 r
 simp only [RepW,RepD] at r1
 subst r1
 exact ⟨z,n,e1,hz,hl,k _ H (.d (.int n)) M (Kp.refl H) (by simp [RepW,RepD]) m q⟩
end
section
variable {prog:Program}{w:World}{A:Around}{E:Value->Shared->Prop}{s:Shared}{x y:Str}{t u:Tok}{Q:Value->Shared->Prop}
theorem split_new (hy:(y.length == 0)=false)(hsz:x.length+2<=sizeLine)
  (h:∀ l tk,l.map (·.1)=Txt.split x y->Q (.ref s.heap.objs.size) { s with heap:=s.heap.push { cls:=.type "list",data:=.seq (strValues l).toArray },toks:=tk }) :
  wpAny (model prog w) A (call (.builtin "str.split") [.str x t,.str y u]) Q E s:=by
 have len2:(Builtin.Str.partsBetween x (Builtin.Str.occurrences x y 0 x.length (x.length+1)) y.length).length<=sizeLine\/True:=.inr trivial
 cases c1:(decide (x.length < y.length) || decide (Builtin.Str.strKind x < Builtin.Str.strKind y)) with
 | true=>exact call_meets F.slot_str_split (typeIs_str _ _ _) F.entry_str_split (F.args_str_split_2 _ _) (meets_str_split_cannot_occur x y t u c1) (h [(x,t)] _ (if_pos c1).symm)
 | false =>
  cases c2:(Builtin.Str.occurrences x y 0 x.length (x.length+1)).isEmpty with
  | true=>exact call_meets F.slot_str_split (typeIs_str _ _ _) F.entry_str_split (F.args_str_split_2 _ _) (meets_str_split_not_found x y t u c1 hy c2) (h [(x,t)] _ ((if_neg (ne_true_of_eq_false c1)).trans (if_pos c2)).symm)
  | false =>
   have es:Txt.split x y=Builtin.Str.partsBetween x (Builtin.Str.occurrences x y 0 x.length (x.length+1)) y.length:=(if_neg (ne_true_of_eq_false c1)).trans (if_neg (ne_true_of_eq_false c2))
   have hl:=split_le x y
   rw [es] at hl
   refine call_meets F.slot_str_split (typeIs_str _ _ _) F.entry_str_split (F.args_str_split_2 _ _) (meets_str_split_sep x y t u c1 hy c2 (by omega) (by omega)) ?_
   show wants Q E _ { s with toks:=_,heap:=s.heap.push { cls:=.type "list",data:=.seq (strsFrom s.toks (Builtin.Str.partsBetween x (Builtin.Str.occurrences x y 0 x.length (x.length+1)) y.length)).toArray } }
   rw [strsFrom_eq]
   exact h (numbered s.toks _) _ ((numbered_texts _ _).trans es.symm)
end
section
variable {X:Cx}{K:PySem.W.Frag}
theorem split_vals:∀ (l:List (Str×Tok)),Vals ((l.map (·.1)).map V.str) (strValues l)
 | []=>.nil
 | p :: l=>.cons ⟨_,rfl⟩ (split_vals l)
theorem split_rep {H:Hp}:∀ zs:List Str,RepA K H (zs.map PyData.str) (zs.map V.str)
 | []=>by simp [RepA]
 | z :: zs=>by
  simp only [List.map_cons,RepA]
  exact ⟨_,_,rfl,by simp [RepD],split_rep zs⟩
noncomputable def rSplit (K:PySem.W.Frag):V->List V->Hp->VK->Prop:=λ x vs H Q=>∃ z y:Str,x=.str z/\vs=[.str y]/\(y.length == 0)=false/\z.length+2<=sizeLine/\∀ p,H p=none->Q (.ref p) (upd H p (.lst ((Txt.split z y).map V.str)))
theorem mt_split:MtM X "str.split" (rSplit X.K):=by
 intro pins s σ H x vs v us Q I rx rv h
 obtain ⟨z,y,rfl,rfl,hy,hz,q⟩:=h
 obtain ⟨t,rfl⟩:=rx
 obtain ⟨u,rfl,t',rfl⟩:=vals1 rv
 refine split_new hy hz λ l tk el=>?_
 have hl:=split_le z y
 have e2:=congrArg List.length el
 simp only [List.length_map] at e2
 have I2:Inv X pins σ (upd H s.heap.objs.size (.lst ((Txt.split z y).map V.str))) { s with heap:=s.heap.push { cls:=.type "list",data:=.seq (strValues l).toArray },toks:=tk } :=
  I.laid (t':=tk) (λ b o e=>Heap.get?_push_of_some _ e) (Nat.le_refl _) (show ObjOk X.prog X.w _ _ _ (.lst _) from ⟨by rw [List.length_map]; omega,strValues l,0,by rw [<- el]; exact split_vals l,Heap.get?_push_size _ rfl⟩)
 exact ⟨.ref s.heap.objs.size,_,I2,rfl,q _ (I.hok.fresh (Nat.le_refl _))⟩
noncomputable def dSplit (td te:TD)(τ:DS)(M:MH)(Q:QD):Prop:=td τ M λ w M1=>∃ z,w=.d (.str z)/\te τ M1 λ v M2=>∃ y,v=.d (.str y)/\(y.length == 0)=false/\z.length+2<=sizeLine/\Q (.d (.list ((Txt.split z y).map PyData.str))) M2
variable {o e:Expr}{td te:TD}{apos cpos:Pos}
theorem pd_split0 (ho:PD X o td)(he:PD X e te)
  (hbase:attributeBase o "split" X.env (eval o X.env)=eval o X.env:=by rfl)
  (hfew:((backTo cpos (starEach [e] X.env)).all (λ x=>!x.1) && (backToKw cpos (keywordEach [] X.env)).all (λ x=>x.1.isSome)
   && decide (([e]:List Expr).length+([]:List Keyword).length+(if ([]:List Keyword).isEmpty then 0 else 1) < 30))=true:=by rfl)
  (hline:(apos.endLine == cpos.line)=true:=by rfl)(hs:isSt e=false:=by rfl):PD X (.Call (.Attribute o "split" apos) [e] [] cpos) (dSplit td te) :=
 pe_w (pe_frz (pe_bm PySem.F.plainAttrs_str PySem.F.slot_str_split PySem.F.type_str_split mt_split ho (pac he pad_nil hs) hbase hfew hline (star_ok e [] X.env hs) rfl)) λ σ H Q h=>by
  obtain ⟨τ,M,Qd,A,h,k⟩:=h
  refine ⟨τ,M,_,A,h,λ x H1 w M1 kp1 r1 m1 hq83=>?_⟩
  obtain ⟨z,ew,q1⟩:=hq83
  subst ew
  simp only [RepW,RepD] at r1
  subst r1
  refine ⟨rfl,τ,M1,one1 (λ v M2=>∃ y,v=.d (.str y)/\(y.length == 0)=false/\z.length+2<=sizeLine/\Qd (.d (.list ((Txt.split z y).map PyData.str))) M2),A.go kp1 m1,q1,λ ys H2 wys M2 kp2 r2 m2 q2=>?_⟩
  obtain ⟨w',ey,y,ed,hy,hz,q4⟩:=one1_of q2
  subst ey ed
  obtain ⟨v,ev,rv⟩:=repWs1 r2
  simp only [RepW,RepD] at rv
  subst ev rv
  exact ⟨z,y,rfl,rfl,hy,hz,λ p hp=>imp_frz hp (split_rep _) m2 q4 (kgo k (kp1.trans kp2))⟩
end
section
variable {X:Cx}{e st:Expr}{te:TE}{ts:TO}{pos p2:Pos}
end
section
variable {X:Cx}{K:PySem.W.Frag}{e st:Expr}{te:TD}{ts:TOd}{pos p2:Pos}
theorem RepA.rev {H:Hp}:∀ {ds:List PyData} {vs:List V},RepA K H ds vs->RepA K H ds.reverse vs.reverse
 | [],vs,h=>by simp only [RepA] at h; subst h; simp [RepA]
 | d :: ds,vs,h=>by
  simp only [RepA] at h
  obtain ⟨v,r,e,h1,h2⟩:=h
  subst e
  simp only [List.reverse_cons]
  refine RepA.append (RepA.rev h2) ?_
  simp only [RepA]
  exact ⟨v,[],rfl,h1,rfl⟩
end
section
variable {X:Cx}{e:Expr}{a:Addr}{x:Str}{kvs:List (Str×PyData)}{pos p:Pos}{ty:TE}{te:TD}
noncomputable def tKIn (kvs:List (Str×PyData))(ty:TE):TE:=λ σ H Q=>ty σ H λ y H1=>∃ z,y=.str z/\Q (.bl (lookS kvs z).isSome) H1
theorem pc_kin (hg:Gl X x)(hm:X.mg x=some (.ref a))(kd:KDict X.w X.K a kvs)(he:PE X e ty)(hd:(x == ("__debug__" : Str))=false:=by decide):PC X .In e (.Name x p) (tKIn kvs ty):=by
 intro pins s σ H Q I h
 refine thn (he pins s σ H _ I h) λ iv s1 hq84=>?_
 obtain ⟨y,H1,I1,ry,z,ey,q1⟩:=hq84
 subst ey
 refine thn (pe_glob (v:=.ref a) hg hm rfl hd pins s1 σ H1 (λ v H'=>v=.ref a/\H'=H1) I1 ⟨rfl,rfl⟩) λ u s2 hq85=>?_
 obtain ⟨x1,H2,I2,rx,ex,eH⟩:=hq85
 subst ex eH
 obtain rfl:u=Value.ref a:=rx
 obtain ⟨L,vs,rel,dd,pr⟩:=kd.dd I2
 have lv:=lookS_val z pr
 refine wpAny_in_of (kV_is (k:=.inr z) ry) kd.ns dd.mapOf ?_
 rw [<- (rel.val (.inr z)).isSome_eq]
 have e:(lookS kvs z).isSome=(valV L (.inr z)).isSome:=by
  cases q:lookS kvs z with
  | none=>rw [q] at lv; rw [OR.none_of lv]; rfl
  | some d=>rw [q] at lv; obtain ⟨b,eb,_⟩:=OR.some_of lv; rw [eb]; rfl
 rw [<- e]
 exact ⟨.bl _,H2,I2.tok _,rfl,q1⟩
noncomputable def dKIn (kvs:List (Str×PyData))(te:TD)(τ:DS)(M:MH)(Q:QD):Prop:=te τ M λ w M1=>∃ z,w=.d (.str z)/\Q (.d (.bool (lookS kvs z).isSome)) M1
theorem imp_kin {K:PySem.W.Frag}{σ:St}{H:Hp}{Q:VK}(h:up K (dKIn kvs te) σ H Q):tKIn kvs (up K te) σ H Q:=by
 obtain ⟨τ,M,Qd,A,h,k⟩:=h
 refine ⟨τ,M,_,A,h,λ y H1 w M1 kp r m1 hq86=>?_⟩
 obtain ⟨z,ew,q⟩:=hq86
 subst ew
 simp only [RepW,RepD] at r
 exact ⟨z,r,k _ H1 (.d (.bool _)) M1 kp (by simp [RepW,RepD]) m1 q⟩
theorem ptd_kin0 (hg:Gl X x)(hm:X.mg x=some (.ref a))(kd:KDict X.w X.K a kvs)(he:PD X e te)(hb:behindInMarks .In (.Name x p)=false:=by rfl)(hd:(x == ("__debug__" : Str))=false:=by decide):PTd X (.Compare e [.In] [.Name x p] pos) (dTest (dKIn kvs te)) :=
 pt_w (pt_cmp (pc_kin hg hm kd he hd) hb) λ σ H Q h=>imp_test (λ σ H Q h=>imp_kin h) h
end
namespace Q
section
variable {X:Cx}{e st:Expr}{a:Addr}{x:Str}{kvs:List (Str×PyData)}{pos p p2:Pos}{te:TD}{ts:TOd}
theorem ptd_kin (hg:Gl X x)(hm:X.mg x=some (.ref a))(kd:KDict X.w X.K a kvs)(he:Jd (PD X e te))(hb:behindInMarks .In (.Name x p)=false:=by rfl)(hd:(x == ("__debug__" : Str))=false:=by decide):Jd (PTd X (.Compare e [.In] [.Name x p] pos) (dTest (dKIn kvs te))):=⟨D.ptd_kin0 hg hm kd he.h hb hd⟩
end
end Q
namespace Q
section
variable {X:Cx}{o e:Expr}{td te:TD}{apos cpos:Pos}
theorem pd_split (ho:Jd (PD X o td))(he:Jd (PD X e te))
  (hbase:attributeBase o "split" X.env (eval o X.env)=eval o X.env:=by rfl)
  (hfew:((backTo cpos (starEach [e] X.env)).all (λ x=>!x.1) && (backToKw cpos (keywordEach [] X.env)).all (λ x=>x.1.isSome)
   && decide (([e]:List Expr).length+([]:List Keyword).length+(if ([]:List Keyword).isEmpty then 0 else 1) < 30))=true:=by rfl)
  (hline:(apos.endLine == cpos.line)=true:=by rfl)(hs:isSt e=false:=by rfl):Jd (PD X (.Call (.Attribute o "split" apos) [e] [] cpos) (dSplit td te)):=⟨D.pd_split0 ho.h he.h hbase hfew hline hs⟩
end
end Q
end D
namespace XO
open PySem PySem.Spec PyProof.Rows PySem.W
noncomputable def xno (K:Frag)(C:Addr):Bool:=xmk K C && (match K.lookup C with
 | some ⟨_,_,.cls cd,_⟩=>tailIn K tailB cd.mro
 | _=>false)
section
variable {prog:Program}{w:World}{A:Around}{E:Value->Shared->Prop}{K:Frag}{C:Addr}{h:Heap}{g:Array GenState}{d:Drawn}{t:Nat}{os:OsState}
theorem xcall0 {us:List Value}{Q:Value->Shared->Prop}(X:K.In h)(q:xno K C=true)(hz:us.length<=sizeLine)(k:∀ h' e,Heap.MadeExcOf h h' e (.ref C) us->Q (.ref e) ⟨h',g,d,t,os⟩) :
  wpAny (model prog w) A (call (.ref C) us) Q E ⟨h,g,d,t,os⟩:=by
 unfold xno at q
 rw [Bool.and_eq_true] at q
 obtain ⟨q1,q2⟩:=q
 obtain ⟨nm,q',N,bs,bm,hdct,sn,sub,ab,col,dd,k0,k1,k2,k3,k5,hC,T⟩:=xmk_of X q1
 split at q2
 ·rename_i c0 d0 cd sl hk
  have e1:=X _ _ hk
  rw [hC] at e1
  cases e1
  have T2:=tail_of_in X q2
  generalize hl:(Value.ref C :: bm)=l at T2
  cases T2 with
  | base=>cases hl
  | own hA hN hi _ =>
   cases hl
   rw [hC] at hA
   cases hA
   exact wpAny_call_exc_subT PySem.F.excBase_ValueError T hC hN hi k hz
 ·cases q2
end
end XO
namespace D
open PySem PySem.Spec PyProof.Rows L2 XO
section
variable {X:Cx}{pos p cpos np hpos:Pos}{k:Nat}{f C:Addr}{x:Str}{e:Expr}{es:List Expr}{t:TAd}{E:XE}
noncomputable def dRaise0 (C:Addr)(E:XE)(t:TAd)(_:Ed)(τ:DS)(M:MH):Prop:=t τ M λ ws M1=>ws.length<=1000/\∀ a,M1 a=none->E a τ (updM M1 a (.exc C []))
theorem psd_raise0 (L:Lk X E)(xc:XC X.K C)(xn:xno X.K C=true)(ty:PySem.W.typeIn X.K (.ref C)=some (.type "type"))(kc:PySem.W.keepIn X.K (.ref C)=true)(hr:Room k X.A)(hg:Gl X x)(hm:X.mg x=some (.ref C))(ha:PAd X (e :: es) t)
  (hdb:(x == ("__debug__" : Str))=false:=by decide)(h1:isSt e=false:=by rfl)(h2:(es.all λ e=>!isSt e)=true:=by rfl):PSd X (.Raise (some (.Call (.Name x p) (e :: es) [] cpos)) none pos) (dRaise0 C E t):=by
 intro pins s σ H D I h
 obtain ⟨τ,M,Dd,A,h,_⟩:=h
 rw [arm_exec_Raise]
 refine wpAny_bind (wpAny_standAt (raiseX (K:=X.K) hr.hd (wpAny_bind ?_)))
 refine wpAny_Call_Name_kw (ld_glob I hg hm ?_ hdb)
 refine PySem.W.callWith_K (h₀:=X.base) I.ok.mod.kin kc (thn (ha cpos pins s σ H (λ vs H1=>∃ ws M1,Kp H H1/\RepWs X.K H1 ws vs/\MAbs X.K H1 M1/\ws.length<=1000/\∀ a,M1 a=none->E a τ (updM M1 a (.exc C []))) I
  ⟨τ,M,_,A,h,λ vs H1 ws M1 kp r m q=>⟨ws,M1,kp,r,m,q⟩⟩) λ us s1 ⟨vs,H1,I1,r,ws,M1,kp,rw1,m1,hz,q⟩=>⟨I1.kIn,?_⟩) (star_ok e es X.env h1) (plain_ok cpos X.env es h2)
 refine xcall0 (h:=s1.heap) (g:=s1.gens) (d:=s1.drawn) (t:=s1.toks) (os:=s1.os) I1.kIn xn (by show us.length<=_; have:=r.length; have:=rw1.length; have:=s16; omega) λ h' a hq87=>?_
 obtain ⟨kk,hn,T,oa,_,_⟩:=hq87
 refine wpAny_bind (wpAny_standAt (wpAny_pure ?_))
 have e0:H1 a=none:=free_of I1.hok hn
 have oa':h'.get? a=some (xobj C none #[.ref T,.none,.none,.none,.bool false,.none]):=oa
 have I5:Inv X pins σ (upd H1 a (.ext (XF a C none))) { s1 with heap:=h' }:=Inv.laidN (t':=s1.toks) I1 kk hn (xf_ok oa')
 have k5:Kp H1 (upd H1 a (.ext (XF a C none))):=Kp.new e0
 have m5:MAbs X.K (upd H1 a (.ext (XF a C none))) (updM M1 a (.exc C [])):=λ b mo z=>by
  by_cases hb:b=a
  ·subst hb
   rw [updM_same] at z
   cases z
   exact ⟨_,none,upd_same,λ h ⟨vs,y⟩=>⟨vs,y⟩,.inl ⟨rfl,rfl⟩⟩
  ·rw [updM_ne hb] at z
   exact (m1 b mo z).keep k5 λ u y=>by rw [upd_ne hb]; exact y
 refine ⟨a,C,none,_,rfl,I5.kIn,xc.x,ty,oa',rfl,?_⟩
 exact L pins σ _ _ a τ _ I5 ⟨C,none,_,upd_same,oa',.inl rfl⟩ (A.go (kp.trans k5) m5) (q a (m1.free e0))
variable {body suite:List Stmt}{b0:Stmt}{hs:List ExceptHandler}{th rest:Addr->TSd}{ts:TSd}
variable {fd:FuncData}{ps:List Str}{sp:SpX}{y:Str}{td:TD}
end
section
variable {X:Cx}{K:PySem.W.Frag}
variable {o e:Expr}{td te:TD}{apos cpos:Pos}
noncomputable def rFind:V->List V->Hp->VK->Prop:=λ x vs H Q=>∃ z y:Str,x=.str z/\vs=[.str y]/\∀ i:Int,-1<=i->i<=z.length->Q (.int i) H
theorem mt_find:MtR X "str.find" rFind:=by
 intro pins s σ H x vs v us Q I rx rv h
 obtain ⟨z,y,rfl,rfl,q⟩:=h
 obtain ⟨t,rfl⟩:=rx
 obtain ⟨u,rfl,t',rfl⟩:=vals1 rv
 refine call_gives F.slot_str_find (typeIs_str _ _ _) F.entry_str_find (F.args_str_find_2 _ _) (gives_str_find z y t t') ?_
 refine ⟨.int _,H,I.tok _,⟨_,rfl⟩,q _ ?_ ?_⟩
 ·split <;> omega
 ·split
  ·rename_i i r e
   have hm:i∈Builtin.Str.occurrences z y 0 z.length 1:=by rw [e]; simp
   have:=(StrLaws.occ_spec z y 0 z.length 1 i hm).1
   omega
  ·omega
end
section
variable {X:Cx}{o e:Expr}{td te:TD}{apos cpos:Pos}
noncomputable def rdFind (w:W)(ws:List W)(M:MH)(Q:QD):Prop:=∃ z y:Str,w=.d (.str z)/\ws=[.d (.str y)]/\∀ i:Int,-1<=i->i<=z.length->Q (.d (.int i)) M
theorem md_find {K:PySem.W.Frag}:MtD K rFind rdFind:=by
 intro x vs H w ws M Qd Q r1 r2 m ⟨z,y,e1,e2,q⟩ k
 subst e1 e2
 obtain ⟨v,e3,r3⟩:=repWs1 r2
 simp only [RepW,RepD] at r1 r3
 subst r3
 exact ⟨z,y,r1,e3,λ i h0 h1=>k _ H (.d (.int i)) M (Kp.refl H) (by simp [RepW,RepD]) m (q i h0 h1)⟩
theorem pd_find0 (ho:PD X o td)(he:PD X e te)
  (hbase:attributeBase o "find" X.env (eval o X.env)=eval o X.env:=by rfl)(hs:starEach [e] X.env=[(false,eval e X.env)]:=by rfl)
  (hfew:((backTo cpos (starEach [e] X.env)).all (λ x=>!x.1) && (backToKw cpos (keywordEach [] X.env)).all (λ x=>x.1.isSome)
   && decide (([e]:List Expr).length+([]:List Keyword).length+(if ([]:List Keyword).isEmpty then 0 else 1) < 30))=true:=by rfl)
  (hline:(apos.endLine == cpos.line)=true:=by rfl):PD X (.Call (.Attribute o "find" apos) [e] [] cpos) (dMS rdFind td (dCons te dNil)):=pd_ms PySem.F.slot_str_find PySem.F.type_str_find mt_find md_find ho (pad_cons he pad_nil hs) hbase hfew hline hs
end
section
variable {X:Cx}{e st:Expr}{te:TE}{ts:TO}{pos p2:Pos}
noncomputable def RevT (z y:Str):Prop:=y.length<=z.length/\∀ c∈y.cps.toList,c∈z.cps.toList
noncomputable def tRevS (te:TE)(ts:TO):TE:=λ σ H Q=>te σ H λ x H1=>ts σ H1 λ o H2=>o=some (-1)/\∃ z,x=.str z/\z.length<=sizeLine/\∀ y,RevT z y->Q (.str y) H2
theorem pe_revS (he:PE X e te)(hs:PO X (some st) ts):PE X (.Subscript e (.Slice none none (some st) p2) pos) (tRevS te ts):=by
 intro pins s σ H Q I h
 refine Subscript_ (thn (he pins s σ H _ I h) λ v s1 hq88=>?_)
 obtain ⟨x,H1,I1,r1,q1⟩:=hq88
 refine wpAny_Slice ?_
 rw [evalPart_none]
 refine wpAny_pure (wpAny_pure (thn (hs pins s1 σ H1 _ I1 q1) λ vk s3 hq89=>?_))
 obtain ⟨u,H3,I3,pk,eu,z,ex,hsz,q⟩:=hq89
 subst eu ex
 obtain ⟨t,rfl⟩:=r1
 obtain ⟨tk,rfl⟩:∃ tk,vk=.int (-1) tk:=by
  cases pk
  exact ⟨_,rfl⟩
 have I4:Inv X pins σ H3 { s3 with heap:=s3.heap.push { cls:=.type "slice",data:=.fields #[.none,.none,.int (-1) tk] } }:=I3.kept (t':=s3.toks) λ b ob q=>Heap.get?_push_of_some _ q
 show wpAny (model X.prog X.w) X.A (subscriptTail e (.Slice none none (some st) p2) (.str z t) (.ref s3.heap.objs.size)) (EP X pins σ Q) X.xe { s3 with heap:=s3.heap.push { cls:=.type "slice",data:=.fields #[.none,.none,.int (-1) tk] } }
 refine tail_any (ops:=[.str z t,.ref s3.heap.objs.size]) (typeIs_str _ _ _) F.slot_str_getitem.lookup (wpAny_getItem_str_slice (l:=none) (u:=none) (st:=some (-1,tk)) ⟨_,Heap.get?_push_size _ rfl,rfl,rfl⟩ rfl ?_) (by with_unfolding_all rfl)
 unfold sliceMade
 rw [if_neg (by simp)]
 have hlen:(⟨((slicePicked z none none (some (-1,tk))).filterMap (z.cps[·]?)).toArray⟩:Str).length<=z.length:=by
  show (((slicePicked z none none (some (-1,tk))).filterMap (z.cps[·]?)).toArray).size<=z.length
  rw [List.size_toArray]
  refine Nat.le_trans (List.length_filterMap_le _ _) ?_
  unfold slicePicked
  simp only [Option.map_none,Option.map_some]
  show (sliceRange ((z.length:Int) - 1) (-1) (-1)).length<=_
  rw [PySem.W.krv_sliceRange]
  simp
 refine ⟨Nat.le_trans hlen hsz,.str _,H3,I4.tok _,⟨_,rfl⟩,q _ ⟨hlen,λ c hc=>?_⟩⟩
 ·have hc':c∈(slicePicked z none none (some (-1,tk))).filterMap (z.cps[·]?):=hc
  obtain ⟨i,_,ei⟩:=List.mem_filterMap.mp hc'
  have:=Array.mem_of_getElem? ei
  simpa using this
end
section
variable {X:Cx}{e st:Expr}{te:TD}{ts:TOd}{pos p2:Pos}
noncomputable def dRevS (te:TD)(ts:TOd)(τ:DS)(M:MH)(Q:QD):Prop:=te τ M λ w M1=>ts τ M1 λ o M2=>o=some (-1)/\∃ z,w=.d (.str z)/\z.length<=sizeLine/\∀ y,RevT z y->Q (.d (.str y)) M2
theorem pd_revS0 (he:PD X e te)(hs:POd X (some st) ts):PD X (.Subscript e (.Slice none none (some st) p2) pos) (dRevS te ts) :=
 pe_w (pe_revS he hs) λ σ H Q h=>by
  obtain ⟨τ,M,Qd,A,h,k⟩:=h
  refine ⟨τ,M,_,A,h,λ v H1 w M1 kp1 r1 m1 q1=>⟨τ,M1,_,A.go kp1 m1,q1,λ o H2 M2 kp2 m2 hq90=>?_⟩⟩
  obtain ⟨eo,z,ew,hz,q⟩:=hq90
  subst ew
  simp only [RepW,RepD] at r1
  exact ⟨eo,z,r1,hz,λ y hy=>k _ H2 (.d (.str y)) M2 (kp1.trans kp2) (by simp [RepW,RepD]) m2 (q y hy)⟩
end
section
variable {X:Cx}{K:PySem.W.Frag}
noncomputable def rMul2:R2:=λ x y H Q=>∃ z,x=.str z/\y=.int 2/\z.length<=10000/\Q (.str (Txt.mul z 2)) H
theorem op_mul2:OpR X (binaryOp .Mult) rMul2:=by
 intro pins s σ H x y v u Q I rx ry h
 obtain ⟨z,rfl,rfl,hz,q⟩:=h
 obtain ⟨t,rfl⟩:=rx
 obtain ⟨t',rfl⟩:=ry
 refine SB.mul ⟨?_,λ _ _=>?_,λ _ _=>?_⟩ λ t' k=>⟨.str (Txt.mul z 2),H,I.tok _,⟨_,rfl⟩,q⟩
 ·decide
 ·have:(10000:Int)<=(2 ^ 63 - 1:Int) / 2:=by decide
  omega
 ·have s16':=s16
  have e:(2:Int).toNat=2:=rfl
  unfold PySem.Builtin.Str.tooLong
  rw [e]
  exact decide_eq_false (by omega)
noncomputable def rdMul2 (w:W)(w':W)(M:MH)(Q:QD):Prop:=∃ z,w=.d (.str z)/\w'=.d (.int 2)/\z.length<=10000/\Q (.d (.str (Txt.mul z 2))) M
theorem opd_mul2:OpD K rMul2 rdMul2:=by
 intro x y H w w' M Qd Q r1 r2 m ⟨z,e1,e2,hz,q⟩ k
 subst e1 e2
 simp only [RepW,RepD] at r1 r2
 exact ⟨z,r1,r2,hz,k _ _ (.d (.str _)) M (Kp.refl _) (by simp [RepW,RepD]) m q⟩
theorem mul2_signs (z:Str):∀ c∈(Txt.mul z 2).cps.toList,c∈z.cps.toList:=by
 unfold Txt.mul
 rw [if_neg (by decide)]
 intro c hc
 split at hc
 ·exact hc
 ·have e:((⟨(List.replicate (2:Int).toNat z.cps).foldl (· ++ ·) #[]⟩:Str).cps).toList=z.cps.toList++z.cps.toList:=by
   show ((#[]++z.cps)++z.cps).toList=_
   simp
  rw [e] at hc
  simpa using hc
theorem mul2_len (z:Str):(Txt.mul z 2).length<=2 * z.length:=by
 unfold Txt.mul
 rw [if_neg (by decide)]
 split
 ·omega
 ·show ((#[]++z.cps)++z.cps).size<=2 * z.cps.size
  simp
  omega
end
namespace Q
section
variable {X:Cx}{pos p cpos apos np hpos p2:Pos}{k:Nat}{f C:Addr}{x y:Str}{e o st:Expr}{es:List Expr}{t:TAd}{E:XE}{body suite:List Stmt}{b0:Stmt}{hs:List ExceptHandler}{rest:Addr->TSd}{ts:TSd}{fd:FuncData}{ps:List Str}{sp:SpX}{td te:TD}{to:TOd}
theorem psd_raise0 (L:Lk X E)(xc:XC X.K C)(xn:xno X.K C=true)(ty:PySem.W.typeIn X.K (.ref C)=some (.type "type"))(kc:PySem.W.keepIn X.K (.ref C)=true)(hr:Room k X.A)(hg:Gl X x)(hm:X.mg x=some (.ref C))(ha:Jd (PAd X (e :: es) t))
  (hdb:(x == ("__debug__" : Str))=false:=by decide)(h1:isSt e=false:=by rfl)(h2:(es.all λ e=>!isSt e)=true:=by rfl):Jd (PSd X (.Raise (some (.Call (.Name x p) (e :: es) [] cpos)) none pos) (dRaise0 C E t)):=⟨D.psd_raise0 L xc xn ty kc hr hg hm ha.h hdb h1 h2⟩
theorem pd_find (ho:Jd (PD X o td))(he:Jd (PD X e te))
  (hbase:attributeBase o "find" X.env (eval o X.env)=eval o X.env:=by rfl)(hs:starEach [e] X.env=[(false,eval e X.env)]:=by rfl)
  (hfew:((backTo cpos (starEach [e] X.env)).all (λ x=>!x.1) && (backToKw cpos (keywordEach [] X.env)).all (λ x=>x.1.isSome)
   && decide (([e]:List Expr).length+([]:List Keyword).length+(if ([]:List Keyword).isEmpty then 0 else 1) < 30))=true:=by rfl)
  (hline:(apos.endLine == cpos.line)=true:=by rfl):Jd (PD X (.Call (.Attribute o "find" apos) [e] [] cpos) (dMS rdFind td (dCons te dNil))):=⟨D.pd_find0 ho.h he.h hbase hs hfew hline⟩
theorem pd_revS (he:Jd (PD X e te))(hs:Jd (POd X (some st) to)):Jd (PD X (.Subscript e (.Slice none none (some st) p2) pos) (dRevS te to)):=⟨D.pd_revS0 he.h hs.h⟩
end
end Q
end D
namespace ZS
open PySem PySem.Spec PyProof.Rows
section
variable {prog:Program}{w:World}{A:Around}{E:Value->Shared->Prop}{s:Shared}
structure Zs (h:Heap)(z T O i j b:Addr)(x:Str)(tk:Tok)(f:Value)(k1 k2:Nat)(ys:Array Value)(u v:Value):Prop where
 z:IsZip h z T O f
 t:IsPair h T (.ref i) (.ref j)
 o:IsPair h O u v
 i:h.IsStrIter i "str_ascii_iterator" x tk k1
 j:ZT.TI false h j b k2 ys
variable {z T O i j b:Addr}{k:Nat}{x:Str}{tk:Tok}{ys:Array Value}{u v:Value}
theorem next_item (D:ZipApart z T O i j b b){Q:Option Value->Shared->Prop}{c0:Nat}{y:Value}(Z:Zs s.heap z T O i j b x tk .none k k ys u v)(hx:x.cps[k]? = some c0)(hy:ys[k]? = some y)
  (q:∀ h',Zs h' z T O i j b x tk (rawInt s.heap.objs.size) (k+1) (k+1) ys (.str ⟨#[c0]⟩ s.toks) y->IsPair h' s.heap.objs.size (.str ⟨#[c0]⟩ s.toks) y ->
   (∀ c o,c≠z->c≠O->c≠i->c≠j->s.heap.get? c=some o->h'.get? c=some o)->Q (some (.ref s.heap.objs.size)) { s with heap:=h',toks:=s.toks+1 }):wpAny (model prog w) A (pyNext (.ref z)) Q E s:=by
 have hT:s.TypeIs (.ref z) "zip" := ⟨_,Z.z,rfl⟩
 unfold pyNext
 refine wpAny_bind (wpAny_attempt (wpAny_callSpecial?_slot (name:=Str.ofString "__next__") hT F.slot_zip_next (wpAny_call_entry F.slot_zip_next hT F.entry_zip_next ?_ (F.args_zip_next_1 _))))
 show wpAny _ _ (field (.ref z) 2 >>= _) _ _ _; refine wpAny_bind (wpAny_field Z.z rfl (x:=.bool false) rfl ?_)
 show wpAny _ _ (field (.ref z) 3 >>= _) _ _ _; refine wpAny_bind (wpAny_field Z.z rfl (x:=.ref T) rfl (wpAny_bind (wpAny_seqItems Z.t rfl ?_)))
 show wpAny _ _ (Builtin.SmallTypes.ownedTupleIsFree (.ref z) >>= _) _ _ _; refine wpAny_bind ?_; unfold Builtin.SmallTypes.ownedTupleIsFree
 refine wpAny_bind (wpAny_field Z.z rfl (x:=.none) rfl (wpAny_pure ?_)); simp only [if_true]
 refine wpAny_bind (wpAny_rule (wpAny_bind (wpAny_field Z.z rfl (x:=.ref O) rfl (wpAny_bind (wpAny_setField_rec Z.z (by simp) λ g1 z1 s1=>?_)))))
 replace z1:IsZip g1 z T O .ellipsis:=z1
 refine wpAny_bind ?_; simp only [List.zipIdx_cons,List.zipIdx_nil,List.forIn_cons,List.forIn_nil]
 have i1:g1.IsStrIter i "str_ascii_iterator" x tk k:=Z.i.extBut s1.extBut D.i1z
 have j1:ZT.TI false g1 j b k ys:=Z.j.at λ c o hc q=>s1.extBut _ _ (by rcases hc with rfl | rfl; exact D.i2z; exact D.l2z) q
 refine wpAny_bind (wpAny_bind (wpAny_onRaise ?_)); show wpAny _ _ (Builtin.SmallTypes.nextOf (.ref i) >>= _) _ _ _
 refine wpAny_bind (wpAny_nextOf_ascii_item i1 hx λ g2 i2 s2=>wpAny_pure ?_)
 have o2:IsPair g2 O u v:=s2.extBut _ _ D.TOi1 (s1.extBut _ _ D.TOz Z.o)
 refine wpAny_bind (wpAny_seqItems o2 rfl (wpAny_bind (wpAny_updateSeq_pair o2 λ g3 o3 s3=>wpAny_bind (wpAny_letGo (wpAny_pure ?_)))))
 replace o3:IsPair g3 O (.str ⟨#[c0]⟩ s.toks) v:=o3
 have j3:ZT.TI false g3 j b k ys:=j1.at λ c o hc q=>s3.extBut _ _ (by rcases hc with rfl | rfl; exact D.TOi2.symm; exact D.l2TO) (s2.extBut _ _ (by rcases hc with rfl | rfl; exact D.i12.symm; exact D.l2i1) q)
 refine wpAny_bind (wpAny_bind (wpAny_onRaise ?_)); show wpAny _ _ (Builtin.SmallTypes.nextOf (.ref j) >>= _) _ _ _
 refine wpAny_bind (ZT.nx_item j3 D.l2i2 hy λ g4 j4 s4=>wpAny_pure ?_)
 have o4:IsPair g4 O (.str ⟨#[c0]⟩ s.toks) v:=s4.extBut _ _ D.TOi2 o3
 refine wpAny_bind (wpAny_seqItems o4 rfl (wpAny_bind (wpAny_updateSeq_pair o4 λ g5 o5 s5=>wpAny_bind (wpAny_letGo (wpAny_pure (wpAny_pure ?_))))))
 replace o5:IsPair g5 O (.str ⟨#[c0]⟩ s.toks) y:=o5
 refine wpAny_bind (wpAny_seqItems o5 rfl (wpAny_bind (wpAny_newTuple ?_)))
 have sz:g5.objs.size=s.heap.objs.size:=by rw [s5.1,s4.1,s3.1,s2.1,s1.1]
 have z5:IsZip g5 z T O .ellipsis:=s5.extBut _ _ D.TOz.symm (s4.extBut _ _ D.i2z.symm (s3.extBut _ _ D.TOz.symm (s2.extBut _ _ D.i1z.symm z1)))
 have k5:∀ c o,c≠z->c≠O->c≠i->c≠j->s.heap.get? c=some o->g5.get? c=some o:=λ c o c1 c2 c3 c4 e=>s5.extBut _ _ c2 (s4.extBut _ _ c4 (s3.extBut _ _ c2 (s2.extBut _ _ c3 (s1.extBut _ _ c1 e))))
 have i5:g5.IsStrIter i "str_ascii_iterator" x tk (k+1):=((i2.extBut s3.extBut D.TOi1.symm).extBut s4.extBut D.i12).extBut s5.extBut D.TOi1.symm
 have j5:ZT.TI false g5 j b (k+1) ys:=j4.at λ c o hc q=>s5.extBut _ _ (by rcases hc with rfl | rfl; exact D.TOi2.symm; exact D.l2TO) q
 have zlt:z < g5.objs.size:=Heap.lt_size z5
 show wpAny _ _ (Builtin.SmallTypes.ownedTupleHandOut (.ref z) (.ref g5.objs.size) >>= _) _ _ _; refine wpAny_bind ?_; unfold Builtin.SmallTypes.ownedTupleHandOut
 have z6:IsZip (g5.push { cls:=.type "tuple",data:=.seq #[.str ⟨#[c0]⟩ s.toks,y] }) z T O .ellipsis:=Heap.get?_push_of_some _ z5
 refine wpAny_bind (wpAny_setField_rec z6 (by simp) λ g7 z7 s7=>?_)
 replace z7:IsZip g7 z T O (rawInt g5.objs.size):=z7
 refine wpAny_setField_rec z7 (by simp) λ g8 z8 s8=>?_
 replace z8:IsZip g8 z T O (rawInt g5.objs.size):=z8
 have up:∀ c o,c≠z->g5.get? c=some o->g8.get? c=some o:=λ c o c1 e=>s8.extBut _ _ c1 (s7.extBut _ _ c1 (Heap.get?_push_of_some _ e))
 have t8:IsPair g8 g5.objs.size (.str ⟨#[c0]⟩ s.toks) y:=s8.extBut _ _ (Nat.ne_of_gt zlt) (s7.extBut _ _ (Nat.ne_of_gt zlt) (Heap.get?_push_size _ rfl))
 rw [sz] at z8 t8
 refine wpAny_pure ⟨_,rfl,wpAny_pure ?_⟩
 show Q (some (.ref g5.objs.size)) _
 rw [sz]
 exact q g8 ⟨z8,up _ _ D.TIz (k5 T _ D.TIz D.TITO D.TIi1 D.TIi2 Z.t),up _ _ D.TOz o5,(let ⟨o,ho,r⟩:=i5; ⟨o,up _ o D.i1z ho,r⟩),j5.at λ c o hc q=>up _ o (by rcases hc with rfl | rfl; exact D.i2z; exact D.l2z) q⟩ t8 λ c o c1 c2 c3 c4 e=>up c o c1 (k5 c o c1 c2 c3 c4 e)
theorem next_end (hh:A.handled=none)(D:ZipApart z T O i j b b){Q:Option Value->Shared->Prop}(Z:Zs s.heap z T O i j b x tk .none k k ys u v)(hx:x.cps[k]? = none\/ys[k]? = none)
  (q:∀ h' k',(∀ c o,c≠z->c≠O->c≠i->c≠j->s.heap.get? c=some o->h'.get? c=some o)->Q none { s with heap:=h',toks:=k' }):wpAny (model prog w) A (pyNext (.ref z)) Q E s:=by
 have hT:s.TypeIs (.ref z) "zip" := ⟨_,Z.z,rfl⟩
 have fin:∀ h' k' x,(∀ c o,c≠z->c≠O->c≠i->c≠j->s.heap.get? c=some o->h'.get? c=some o)->(∃ o,h'.get? x=some o/\o.cls=.type "StopIteration") ->
   wpAny (model prog w) A (do if (<- PySem.isInstance (.ref x) (.type "StopIteration")) then pure none else throw (.ref x)) Q E { s with heap:=h',toks:=k' }:=λ h' k' x kp ⟨o,ho,hc⟩ =>
  wpAny_bind (wpAny_isInstance (T := "StopIteration") (b:=true) ⟨o,ho,hc⟩ isSubtype_stop (wpAny_pure (q _ _ kp)))
 unfold pyNext
 refine wpAny_bind (wpAny_attempt (wpAny_callSpecial?_slot (name:=Str.ofString "__next__") hT F.slot_zip_next (wpAny_call_entry F.slot_zip_next hT F.entry_zip_next ?_ (F.args_zip_next_1 _))))
 show wpAny _ _ (field (.ref z) 2 >>= _) _ _ _; refine wpAny_bind (wpAny_field Z.z rfl (x:=.bool false) rfl ?_)
 show wpAny _ _ (field (.ref z) 3 >>= _) _ _ _; refine wpAny_bind (wpAny_field Z.z rfl (x:=.ref T) rfl (wpAny_bind (wpAny_seqItems Z.t rfl ?_)))
 show wpAny _ _ (Builtin.SmallTypes.ownedTupleIsFree (.ref z) >>= _) _ _ _; refine wpAny_bind ?_; unfold Builtin.SmallTypes.ownedTupleIsFree
 refine wpAny_bind (wpAny_field Z.z rfl (x:=.none) rfl (wpAny_pure ?_)); simp only [if_true]
 refine wpAny_bind (wpAny_rule (wpAny_bind (wpAny_field Z.z rfl (x:=.ref O) rfl (wpAny_bind (wpAny_setField_rec Z.z (by simp) λ g1 z1 s1=>?_)))))
 replace z1:IsZip g1 z T O .ellipsis:=z1
 refine wpAny_bind ?_; simp only [List.zipIdx_cons,List.zipIdx_nil,List.forIn_cons,List.forIn_nil]
 have i1:g1.IsStrIter i "str_ascii_iterator" x tk k:=Z.i.extBut s1.extBut D.i1z
 have j1:ZT.TI false g1 j b k ys:=Z.j.at λ c o hc q=>s1.extBut _ _ (by rcases hc with rfl | rfl; exact D.i2z; exact D.l2z) q
 refine wpAny_bind (wpAny_bind (wpAny_onRaise ?_)); show wpAny _ _ (Builtin.SmallTypes.nextOf (.ref i) >>= _) _ _ _
 cases ex:x.cps[k]? with
 | none =>
  refine wpAny_bind (wpAny_nextOf_ascii_end hh i1 ex λ g2 x s2 hq91=>?_)
  obtain ⟨ox,hox,hcx⟩:=hq91
  have z2:IsZip g2 z T O .ellipsis:=s2 _ _ D.i1z.symm z1
  have hxz:x≠z:=λ e=>by subst e; rw [z2] at hox; cases hox; simp at hcx
  refine wpAny_setField_rec z2 (by simp) λ g3 _ s3=>fin g3 _ x (λ c o c1 _ c3 _ e=>s3.extBut _ _ c1 (s2 _ _ c3 (s1.extBut _ _ c1 e))) ⟨ox,s3.extBut _ _ hxz hox,hcx⟩
 | some x0 =>
  have ey:ys[k]? = none:=by rcases hx with h | h; rw [ex] at h; cases h; exact h
  refine wpAny_bind (wpAny_nextOf_ascii_item i1 ex λ g2 i2 s2=>wpAny_pure ?_)
  have o2:IsPair g2 O u v:=s2.extBut _ _ D.TOi1 (s1.extBut _ _ D.TOz Z.o)
  refine wpAny_bind (wpAny_seqItems o2 rfl (wpAny_bind (wpAny_updateSeq_pair o2 λ g3 o3 s3=>wpAny_bind (wpAny_letGo (wpAny_pure ?_)))))
  have j3:ZT.TI false g3 j b k ys:=j1.at λ c o hc q=>s3.extBut _ _ (by rcases hc with rfl | rfl; exact D.TOi2.symm; exact D.l2TO) (s2.extBut _ _ (by rcases hc with rfl | rfl; exact D.i12.symm; exact D.l2i1) q)
  refine wpAny_bind (wpAny_bind (wpAny_onRaise ?_)); show wpAny _ _ (Builtin.SmallTypes.nextOf (.ref j) >>= _) _ _ _
  refine wpAny_bind (ZT.nx_end hh j3 ey λ g4 x s4 hq92=>?_)
  obtain ⟨ox,hox,hcx⟩:=hq92
  have z4:IsZip g4 z T O .ellipsis:=s4 _ _ D.i2z.symm (s3.extBut _ _ D.TOz.symm (s2.extBut _ _ D.i1z.symm z1))
  have hxz:x≠z:=λ e=>by subst e; rw [z4] at hox; cases hox; simp at hcx
  refine wpAny_setField_rec z4 (by simp) λ g5 _ s5=>fin g5 _ x (λ c o c1 c2 c3 c4 e=>s5.extBut _ _ c1 (s4 _ _ c4 (s3.extBut _ _ c2 (s2.extBut _ _ c3 (s1.extBut _ _ c1 e))))) ⟨ox,s5.extBut _ _ hxz hox,hcx⟩
end
theorem meets_new (x:Str)(tk:Tok)(hx:x.cps.all (· < 128)=true)(b:Addr)(ys:Array Value):Meets (Builtin.«zip.__new__» ⟨[.type "zip",.str x tk,.ref b],[]⟩) (λ _ R s=>s.heap.IsList b ys /\
   R (.ok (.ret (.ref (s.heap.objs.size+4)))) { s with heap:=((((s.heap.push { cls:=.type "str_ascii_iterator",data:=.fields #[.str x tk,.int 0 0] }).push { cls:=.type "list_iterator",data:=.fields #[.ref b,.int 0 0] }).push { cls:=.type "tuple",data:=.seq #[.ref s.heap.objs.size,.ref (s.heap.objs.size+1)] }).push { cls:=.type "tuple",data:=.seq #[.none,.none] }).push { cls:=.type "zip",data:=.fields #[.none,.bool false,.bool false,.ref (s.heap.objs.size+2),.ref (s.heap.objs.size+3)] } }) :=
 .of_wp λ prog w A R s h=>by
  obtain ⟨hp,g,d,tk',os⟩:=s
  obtain ⟨hb,h⟩:=h
  have hsub:=sub_zip
  have h2:Heap.IsList (Shared.heap ⟨hp.push { cls:=.type "str_ascii_iterator",data:=.fields #[.str x tk,.int 0 0] },g,d,tk',os⟩) b ys:=Heap.IsList.push hb _
  wp_walk using wpAny_pyIter_ascii hx,wpAny_pyIter_list h2
  refine ⟨_,rfl,?_⟩
  simp only [Heap.size_push]
  exact h
section
variable {prog:Program}{w:World}{A:Around}{E:Value->Shared->Prop}{s:Shared}
theorem call_zip {b:Addr}{x:Str}{tk:Tok}{ys:Array Value}{Q:Value->Shared->Prop}(hx:x.cps.all (· < 128)=true)(hb:s.heap.IsList b ys)
  (h:∀ h',Zs h' (s.heap.objs.size+4) (s.heap.objs.size+2) (s.heap.objs.size+3) s.heap.objs.size (s.heap.objs.size+1) b x tk .none 0 0 ys .none .none ->
   (∀ c o,s.heap.get? c=some o->h'.get? c=some o)->Q (.ref (s.heap.objs.size+4)) { s with heap:=h' }) :
  wpAny (model prog w) A (call (.type "zip") [.str x tk,.ref b]) Q E s:=by
 refine callType_new F.called_zip (by decide) (F.typeCall_zip_2 _ _) (F.newCall_zip_2 _ _) (λ obj=>F.args_object_init_3 obj _ _) F.entry_zip_new (meets_new x tk hx b ys) ⟨hb,?_⟩
 generalize e1:s.heap.push { cls:=.type "str_ascii_iterator",data:=.fields #[.str x tk,.int 0 0] }=g1
 have z1:g1.objs.size=s.heap.objs.size+1:=by rw [<- e1]; exact Heap.size_push ..
 have n1:g1.get? s.heap.objs.size=some { cls:=.type "str_ascii_iterator",data:=.fields #[.str x tk,.int 0 0] }:=by rw [<- e1]; exact Heap.get?_push_size _ rfl
 have k1:∀ c o,s.heap.get? c=some o->g1.get? c=some o:=λ c o q=>by rw [<- e1]; exact Heap.get?_push_of_some _ q
 generalize e2:g1.push { cls:=.type "list_iterator",data:=.fields #[.ref b,.int 0 0] }=g2
 have z2:g2.objs.size=s.heap.objs.size+2:=by rw [<- e2,Heap.size_push,z1]
 have n2:g2.get? (s.heap.objs.size+1)=some { cls:=.type "list_iterator",data:=.fields #[.ref b,.int 0 0] }:=by rw [<- e2,<- z1]; exact Heap.get?_push_size _ rfl
 have k2:∀ c o,g1.get? c=some o->g2.get? c=some o:=λ c o q=>by rw [<- e2]; exact Heap.get?_push_of_some _ q
 generalize e3:g2.push { cls:=.type "tuple",data:=.seq #[.ref s.heap.objs.size,.ref (s.heap.objs.size+1)] }=g3
 have z3:g3.objs.size=s.heap.objs.size+3:=by rw [<- e3,Heap.size_push,z2]
 have n3:g3.get? (s.heap.objs.size+2)=some { cls:=.type "tuple",data:=.seq #[.ref s.heap.objs.size,.ref (s.heap.objs.size+1)] }:=by rw [<- e3,<- z2]; exact Heap.get?_push_size _ rfl
 have k3:∀ c o,g2.get? c=some o->g3.get? c=some o:=λ c o q=>by rw [<- e3]; exact Heap.get?_push_of_some _ q
 generalize e4:g3.push { cls:=.type "tuple",data:=.seq #[.none,.none] }=g4
 have z4:g4.objs.size=s.heap.objs.size+4:=by rw [<- e4,Heap.size_push,z3]
 have n4:g4.get? (s.heap.objs.size+3)=some { cls:=.type "tuple",data:=.seq #[.none,.none] }:=by rw [<- e4,<- z3]; exact Heap.get?_push_size _ rfl
 have k4:∀ c o,g3.get? c=some o->g4.get? c=some o:=λ c o q=>by rw [<- e4]; exact Heap.get?_push_of_some _ q
 generalize e5:g4.push { cls:=.type "zip",data:=.fields #[.none,.bool false,.bool false,.ref (s.heap.objs.size+2),.ref (s.heap.objs.size+3)] }=g5
 have n5:g5.get? (s.heap.objs.size+4)=some { cls:=.type "zip",data:=.fields #[.none,.bool false,.bool false,.ref (s.heap.objs.size+2),.ref (s.heap.objs.size+3)] }:=by rw [<- e5,<- z4]; exact Heap.get?_push_size _ rfl
 have k5:∀ c o,g4.get? c=some o->g5.get? c=some o:=λ c o q=>by rw [<- e5]; exact Heap.get?_push_of_some _ q
 have kk:∀ c o,s.heap.get? c=some o->g5.get? c=some o:=λ c o q=>k5 _ _ (k4 _ _ (k3 _ _ (k2 _ _ (k1 _ _ q))))
 refine ⟨⟨_,n5,rfl⟩,h g5 ⟨n5,k5 _ _ (k4 _ _ n3),k5 _ _ n4,?_,?_,?_⟩ kk⟩
 ·exact ⟨_,k5 _ _ (k4 _ _ (k3 _ _ (k2 _ _ n1))),rfl,rfl⟩
 ·exact ⟨_,k5 _ _ (k4 _ _ (k3 _ _ n2)),rfl,rfl⟩
 ·obtain ⟨o,e,r⟩:=hb
  exact ⟨o,kk _ _ e,r⟩
end
end ZS
namespace D
open PySem PySem.Spec PyProof.Rows L2
noncomputable def Itzs (x:Str)(K:PySem.W.Frag)(b:Addr):It :=
 ⟨λ i H=>∃ ys c y,SqL K H b ys/\x.cps[i]? = some c/\ys[i]? = some y,
  λ i H v H'=>∃ T c y,H T=none/\v=.ref T/\H'=upd H T (.tup [.str ⟨#[c]⟩,y])/\x.cps[i]? = some c/\∀ ys,SqL K H b ys->ys[i]? = some y,
  λ i H=>∃ ys,SqL K H b ys/\(x.cps.size<=i\/ys.length<=i)⟩
theorem turn_zipS {x:Str}{tk:Tok}{P:Program}{w:World}{K:PySem.W.Frag}{elts:List Expr}{x1:Nat}{tpos:Pos}{z TI TO i1 i2 b:Addr}(Dz:ZipApart z TI TO i1 i2 b b) :
  Turn P w K (.Tuple elts x1 tpos) (Itzs x K b) [z,TI,TO,i1,i2] z (λ i h=>IsZip h z TI TO .none/\IsPair h TI (.ref i1) (.ref i2)/\(∃ u v,IsPair h TO u v)/\h.IsStrIter i1 "str_ascii_iterator" x tk i/\ZT.isIt false h i2 b i) where
 mem:=by simp
 obj:=λ i h ⟨hz,hTI,⟨u,v,hTO⟩,x1,x2⟩ c hc=>by
  obtain ⟨o1,e1,_,d1⟩:=x1
  obtain ⟨o2,e2,d2⟩:=x2.obj
  have q:c=z\/c=TI\/c=TO\/c=i1\/c=i2:=by simpa using hc
  rcases q with rfl | rfl | rfl | rfl | rfl
  ·exact ⟨_,hz,λ v q=>by cases q⟩
  ·exact ⟨_,hTI,λ v q=>by cases q⟩
  ·exact ⟨_,hTO,λ v q=>by cases q⟩
  ·exact ⟨o1,e1,λ v q=>by rw [d1] at q; cases q⟩
  ·exact ⟨o2,e2,λ v q=>by rw [d2] at q; cases q⟩
 keep:=λ i h h' ⟨hz,hTI,⟨u,v,hTO⟩,x1,x2⟩ k=>⟨k z (by simp) _ hz,k TI (by simp) _ hTI,⟨u,v,k TO (by simp) _ hTO⟩,(let ⟨o,e,r⟩:=x1; ⟨o,k i1 (by simp) _ e,r⟩),x2.at λ o e=>k i2 (by simp) _ e⟩
 item:=by
  intro X hP hw hK hc i pins s σ H E I hf ⟨hz,hTI,⟨u0,v0,hTO⟩,l1,l2⟩ ⟨ys,c0,y,hq2,hx,hy⟩
  subst hP hw hK
  obtain ⟨its2,rv2,p2⟩:=Inv.sqB (b:=false) I hq2
  obtain ⟨v,hv,rv⟩:=rv2.get hy
  refine ZS.next_item Dz (ys:=its2.toArray) ⟨hz,hTI,hTO,l1,l2,p2⟩ (y:=v) hx (by simpa using hv) λ h' Z' hT kp=>?_
  refine ⟨_,rfl,wpAny_letOwnedTupleGo_zip Z'.z λ h'' hz'' sb=>?_⟩
  obtain ⟨t0,t1,t2,t3,t4,t5⟩:=I.fpOk (Nat.le_refl _) (I.hok.fresh (Nat.le_refl _))
  have nT:s.heap.objs.size≠z:=Nat.ne_of_gt (Heap.lt_size hz)
  have nTO:s.heap.objs.size≠TO:=Nat.ne_of_gt (Heap.lt_size hTO)
  have n1:s.heap.objs.size≠i1:=by obtain ⟨o,e,_⟩:=l1; exact Nat.ne_of_gt (Heap.lt_size e)
  have n2:s.heap.objs.size≠i2:=by obtain ⟨o,e,_⟩:=l2.obj; exact Nat.ne_of_gt (Heap.lt_size e)
  have nTI:s.heap.objs.size≠TI:=Nat.ne_of_gt (Heap.lt_size hTI)
  have I1:Inv X pins σ H { s with heap:=h'',toks:=s.toks+1 }:=Inv.turnedL (t':=s.toks+1) (ch:=[z,TI,TO,i1,i2]) I (λ c ob hc q=>by
   simp only [List.mem_cons,List.not_mem_nil,or_false,not_or] at hc
   exact (sb.2 c hc.1).trans (kp c ob hc.1 hc.2.2.1 hc.2.2.2.1 hc.2.2.2.2 q)) hf
  have eT:h''.get? s.heap.objs.size=some { cls:=.type "tuple",data:=.seq #[.str ⟨#[c0]⟩ s.toks,v] }:=(sb.2 _ nT).trans hT
  have I2:=Inv.trackT (us:=[.str ⟨#[c0]⟩ s.toks,v]) (ys:=[.str ⟨#[c0]⟩,y]) I1 eT t0 (.cons ⟨_,rfl⟩ (.cons rv .nil)) (by simp; have:=s16; omega) t3 t1 t4 t5
  refine ⟨.ref s.heap.objs.size,_,I2,rfl,⟨_,c0,y,t0,rfl,rfl,hx,λ zs hz=>by rw [Inv.sqB_inj (b:=false) I hz hq2]; exact hy⟩,⟨hz'',(sb.2 _ Dz.TIz).trans Z'.t,⟨_,v,(sb.2 _ Dz.TOz).trans Z'.o⟩,?_,?_⟩,λ c hc=>?_⟩
  ·obtain ⟨o,e,r⟩:=Z'.i
   exact ⟨o,(sb.2 i1 Dz.i1z).trans e,r⟩
  ·exact Z'.j.1.at λ o e=>(sb.2 i2 Dz.i2z).trans e
  ·have q:c=z\/c=TI\/c=TO\/c=i1\/c=i2:=by simpa using hc
   have hn:c≠s.heap.objs.size:=by rcases q with rfl | rfl | rfl | rfl | rfl <;> (intro e; first | exact nT e.symm | exact nTI e.symm | exact nTO e.symm | exact n1 e.symm | exact n2 e.symm)
   rw [upd_ne hn]
   exact (hf c hc).1
 done:=by
  intro X hP hw hK hc i pins s σ H E I hf ⟨hz,hTI,⟨u0,v0,hTO⟩,l1,l2⟩ ⟨ys,hq2,hx⟩
  subst hP hw hK
  obtain ⟨its2,rv2,p2⟩:=Inv.sqB (b:=false) I hq2
  have e2:=rv2.length
  refine ZS.next_end (I.ok.hd hc) Dz (ys:=its2.toArray) ⟨hz,hTI,hTO,l1,l2,p2⟩ ?_ λ h' k' eb=>⟨rfl,Inv.turnedL (t':=k') (ch:=[z,TI,TO,i1,i2]) I (λ c ob hc q=>by
   simp only [List.mem_cons,List.not_mem_nil,or_false,not_or] at hc
   exact eb c ob hc.1 hc.2.2.1 hc.2.2.2.1 hc.2.2.2.2 q) hf⟩
  rcases hx with hx | hx
  ·exact .inl (by simp; omega)
  ·exact .inr (by simp; omega)
 self:=λ _ _ _ _ _ ⟨hz,_⟩ h=>wpAny_pyIter_zip hz h
section
variable {X:Cx}{a b:Expr}{p pos:Pos}{ta:TA}
noncomputable def iZipS (K:PySem.W.Frag)(ta:TA):TI:=λ σ H R=>ta σ H λ vs H1=>∃ x d ys,vs=[.str x,.ref d]/\x.cps.all (· < 128)=true/\SqL K H1 d ys/\R (Itzs x K d) H1
theorem pi_zipS {elts:List Expr}{x1:Nat}{tpos:Pos}(hg:Gl X "zip")(hm:X.mg "zip" = none)(ha:PA X [a,b] ta)(hs:starEach [a,b] X.env=(false,eval a X.env) :: starEach [b] X.env:=by rfl)(hpl:(backTo pos (starEach [b] X.env)).any (·.1)=false:=by rfl) :
  PI X (.Tuple elts x1 tpos) (.Call (.Name "zip" p) [a,b] [] pos) (iZipS X.K ta):=by
 intro pins s σ H R I h
 refine Call_ (ld_blt I hg hm bt_zip (PyProof.Rows.callWith_type1 (thn (ha pos pins s σ H _ I h) λ us s1 ⟨vs,H1,I1,r1,q1⟩=>?_) hs hpl))
 obtain ⟨x,d,ys,e,hx,hq2,q⟩:=q1
 subst e
 obtain ⟨v1,v2,rfl,rr1,rr2⟩:=vals2 r1
 obtain ⟨tk,ek⟩:=rr1
 subst ek
 cases (show _=Value.ref d from rr2)
 obtain ⟨its2,rv2,p2⟩:=Inv.sqB (b:=false) I1 hq2
 have a2:d < s1.heap.objs.size:=p2.lt
 refine ZS.call_zip hx p2 λ h' Z kp=>?_
 have I2:Inv X pins σ H1 { s1 with heap:=h' }:=I1.kept (t':=s1.toks) kp
 refine wpAny_pyIter_zip Z.z ?_
 refine ⟨_,[_,_,_,_,_],_,_,H1,rfl,I2,turn_zipS (zipApart_new a2 a2),⟨Z.z,Z.t,⟨_,_,Z.o⟩,Z.i,Z.j.1⟩,λ e he=>?_,q⟩
 have z:s1.heap.objs.size<=e:=by
  have z:e=s1.heap.objs.size+4\/e=s1.heap.objs.size+2\/e=s1.heap.objs.size+3\/e=s1.heap.objs.size\/e=s1.heap.objs.size+1:=by simpa using he
  rcases z with z | z | z | z | z <;> rw [z] <;> first | exact Nat.le_refl _ | exact Nat.le_add_right _ _
 exact I1.fpOk z (I1.hok.fresh z)
end
section
variable {X:Cx}{K:PySem.W.Frag}{a b:Expr}{p pos:Pos}{t:TAd}
noncomputable def signsD (z:Str):List PyData:=z.cps.toList.map λ c=>.str ⟨#[c]⟩
noncomputable def dZipS (t:TAd)(τ:DS)(M:MH)(R:List W->MH->Prop):Prop:=t τ M λ ws M1=>∃ z es,ws=[.d (.str z),.d (.list es)]/\ascB z=true/\R (zipW (signsD z) es) M1
theorem pid_zipS0 {elts:List Expr}{x1:Nat}{tpos:Pos}(hg:Gl X "zip")(hm:X.mg "zip" = none)(ha:PAd X [a,b] t)(h1:isSt a=false:=by rfl)(h2:([b].all λ e=>!isSt e)=true:=by rfl) :
  PId X (.Tuple elts x1 tpos) (.Call (.Name "zip" p) [a,b] [] pos) (dZipS t):=pi_w (pi_zipS hg hm ha (star_ok a [b] X.env h1) (plain_ok pos X.env [b] h2)) λ σ H R hq93=>by
 obtain ⟨τ,M,Rd,A,h,k⟩:=hq93
 refine ⟨τ,M,_,A,h,λ vs H1 ws M1 kp r m hq94=>?_⟩
 obtain ⟨z,es,ew,hz,q⟩:=hq94
 subst ew
 obtain ⟨v,v',ev,r1,r2⟩:=repWs2 r
 simp only [RepW,RepD] at r1
 subst r1
 obtain ⟨d,ys,e2,hs',ks',ra'⟩:=sqD_rep (b:=false) r2
 subst e2
 have hl':=ra'.length
 refine ⟨z,d,ys,ev,hz,hs',k _ H1 _ M1 kp m (λ H2 kp2 i=>?_) q⟩
 have hs2':=ks' _ kp2
 have hls:(signsD z).length=z.cps.size:=by simp [signsD]
 have hlw:(zipW (signsD z) es).length=min z.cps.size ys.length:=by simp [zipW,hls,hl']
 refine ⟨λ hi=>⟨ys,z.cps[i]'(by omega),ys[i]'(by omega),hs2',by simp,by simp⟩,λ hi=>⟨ys,hs2',by omega⟩,λ x H' hi hq95=>?_⟩
 obtain ⟨T,c,y,hT,ex,eH,hc,hv⟩:=hq95
 subst ex eH
 have hxv:=hv ys hs2'
 obtain ⟨d2,e4,rd'⟩:=(ra'.keep kp2).get' hxv
 have kpn:Kp H2 (upd H2 T (.tup [.str ⟨#[c]⟩,y])):=Kp.new hT
 have hid:i < min (signsD z).length es.length:=by rw [hlw] at hi; omega
 refine ⟨kpn,λ M m=>m.new hT,.d (.tuple [(signsD z).getD i .none,es.getD i .none]),by unfold zipW; rw [List.getElem?_map,List.getElem?_range hid]; rfl,?_⟩
 have ed:(signsD z).getD i .none=.str ⟨#[c]⟩:=by simp [signsD,List.getD,hc]
 have ed':es.getD i .none=d2:=by simp [List.getD,e4]
 rw [ed,ed']
 simp only [RepW,RepD,RepA]
 exact ⟨T,_,rfl,.inl (.inl upd_same),_,_,rfl,rfl,_,_,rfl,rd'.keep kpn,rfl⟩
end
section
variable {X:Cx}{K:PySem.W.Frag}
noncomputable def nInS (x y:Str):Bool:=!inS x y
noncomputable def rdNInS (w w':W)(M:MH)(Q:QD):Prop:=rdS nInS w w' M Q
theorem opd_nInS:OpD K (rS nInS) rdNInS:=opd_S
theorem op_nInS:OpR X (compareOp .NotIn) (rS nInS):=by
 intro pins s σ H x y v u Q I rx ry h
 obtain ⟨i,j,rfl,rfl,q⟩:=h
 obtain ⟨t,rfl⟩:=rx
 obtain ⟨t',rfl⟩:=ry
 exact SB.notContains (fin_bl I q rfl)
noncomputable def rFindX:V->List V->Hp->VK->Prop:=λ x vs H Q=>∃ z y:Str,x=.str z/\vs=[.str y]/\Q (.int (Txt.find z y)) H
theorem mt_findX:MtR X "str.find" rFindX:=by
 intro pins s σ H x vs v us Q I rx rv h
 obtain ⟨z,y,rfl,rfl,q⟩:=h
 obtain ⟨t,rfl⟩:=rx
 obtain ⟨u,rfl,t',rfl⟩:=vals1 rv
 exact call_gives F.slot_str_find (typeIs_str _ _ _) F.entry_str_find (F.args_str_find_2 _ _) (gives_str_find z y t t') ⟨.int _,H,I.tok _,⟨_,rfl⟩,q⟩
noncomputable def rdFindX (w:W)(ws:List W)(M:MH)(Q:QD):Prop:=∃ z y:Str,w=.d (.str z)/\ws=[.d (.str y)]/\Q (.d (.int (Txt.find z y))) M
theorem md_findX:MtD K rFindX rdFindX:=by
 intro x vs H w ws M Qd Q r1 r2 m ⟨z,y,e1,e2,q⟩ k
 subst e1 e2
 obtain ⟨v,e3,r3⟩:=repWs1 r2
 simp only [RepW,RepD] at r1 r3
 subst r3
 exact ⟨z,y,r1,e3,k _ H (.d (.int _)) M (Kp.refl H) (by simp [RepW,RepD]) m q⟩
theorem pd_findX0 {o e:Expr}{td te:TD}{apos cpos:Pos}(ho:PD X o td)(he:PD X e te)
  (hbase:attributeBase o "find" X.env (eval o X.env)=eval o X.env:=by rfl)(hs:starEach [e] X.env=[(false,eval e X.env)]:=by rfl)
  (hfew:((backTo cpos (starEach [e] X.env)).all (λ x=>!x.1) && (backToKw cpos (keywordEach [] X.env)).all (λ x=>x.1.isSome)
   && decide (([e]:List Expr).length+([]:List Keyword).length+(if ([]:List Keyword).isEmpty then 0 else 1) < 30))=true:=by rfl)
  (hline:(apos.endLine == cpos.line)=true:=by rfl):PD X (.Call (.Attribute o "find" apos) [e] [] cpos) (dMS rdFindX td (dCons te dNil)):=pd_ms PySem.F.slot_str_find PySem.F.type_str_find mt_findX md_findX ho (pad_cons he pad_nil hs) hbase hfew hline hs
noncomputable def rMulN:R2:=λ x y H Q=>∃ z n,x=.str z/\y=.int n/\z.length=1/\1<=n/\n<=10000/\Q (.str (Txt.mul z n)) H
theorem op_mulN:OpR X (binaryOp .Mult) rMulN:=by
 intro pins s σ H x y v u Q I rx ry h
 obtain ⟨z,n,rfl,rfl,hz,h1,h2,q⟩:=h
 obtain ⟨t,rfl⟩:=rx
 obtain ⟨t',rfl⟩:=ry
 have hm:(10000:Int) < 2 ^ 62:=by decide
 refine SB.mul ⟨?_,λ _ _=>?_,λ _ _=>?_⟩ λ t' k=>⟨.str (Txt.mul z n),H,I.tok _,⟨_,rfl⟩,q⟩
 ·simp; omega
 ·rw [hz]
  have:1<=(2 ^ 63 - 1:Int) / n:=by
   rw [Int.le_ediv_iff_mul_le (by omega)]
   omega
  omega
 ·rw [hz]
  have s16':=s16
  unfold PySem.Builtin.Str.tooLong
  exact decide_eq_false (by omega)
noncomputable def rdMulN (w:W)(w':W)(M:MH)(Q:QD):Prop:=∃ z n,w=.d (.str z)/\w'=.d (.int n)/\z.length=1/\1<=n/\n<=10000/\Q (.d (.str (Txt.mul z n))) M
theorem opd_mulN:OpD K rMulN rdMulN:=by
 intro x y H w w' M Qd Q r1 r2 m ⟨z,n,e1,e2,hz,h1,h2,q⟩ k
 subst e1 e2
 simp only [RepW,RepD] at r1 r2
 exact ⟨z,n,r1,r2,hz,h1,h2,k _ _ (.d (.str _)) M (Kp.refl _) (by simp [RepW,RepD]) m q⟩
end
namespace Q
section
variable {X:Cx}{o e:Expr}{td te:TD}{apos cpos:Pos}
theorem pd_findX (ho:Jd (PD X o td))(he:Jd (PD X e te))
  (hbase:attributeBase o "find" X.env (eval o X.env)=eval o X.env:=by rfl)(hs:starEach [e] X.env=[(false,eval e X.env)]:=by rfl)
  (hfew:((backTo cpos (starEach [e] X.env)).all (λ x=>!x.1) && (backToKw cpos (keywordEach [] X.env)).all (λ x=>x.1.isSome)
   && decide (([e]:List Expr).length+([]:List Keyword).length+(if ([]:List Keyword).isEmpty then 0 else 1) < 30))=true:=by rfl)
  (hline:(apos.endLine == cpos.line)=true:=by rfl):Jd (PD X (.Call (.Attribute o "find" apos) [e] [] cpos) (dMS rdFindX td (dCons te dNil))):=⟨D.pd_findX0 ho.h he.h hbase hs hfew hline⟩
end
end Q
namespace Q
section
variable {X:Cx}{a b:Expr}{p pos:Pos}
theorem pid_zipS {t:TAd}{elts:List Expr}{x1:Nat}{tpos:Pos}(hg:Gl X "zip")(hm:X.mg "zip" = none)(ha:Jd (PAd X [a,b] t))(h1:isSt a=false:=by rfl)(h2:([b].all λ e=>!isSt e)=true:=by rfl):Jd (PId X (.Tuple elts x1 tpos) (.Call (.Name "zip" p) [a,b] [] pos) (dZipS t)):=⟨D.pid_zipS0 hg hm ha.h h1 h2⟩
end
end Q
end D
namespace K15
open PySem PySem.Spec PyProof.Rows L2 D Rc Stc
abbrev C_PARTS:Addr:=34
abbrev C_BOUNDS:Addr:=47
abbrev C_ENDING_SORTS:Addr:=55
abbrev C_NoText:Addr:=99
abbrev C_NoDeed:Addr:=111
abbrev C_NoRow:Addr:=130
abbrev C_PlaceError:Addr:=86
noncomputable def g_BOUNDS:List (Str×PyData):=[("share",.tuple [.int (1),.int (9)]),("copies",.tuple [.int (0),.int (6)]),("keep",.tuple [.int (0),.int (5)]),("start",.tuple [.int (0),.int (2)]),("hands",.tuple [.int (1),.int (3)]),("place",.tuple [.int (0),.int (7)]),("asks",.tuple [.int (1),.int (20)])]
noncomputable def g_PARTS:List (Str×PyData):=[("group",.tuple [.str "word",.str "share"]),("wish",.tuple [.str "word",.str "word",.str "copies",.str "keep",.str "start",.str "hands"]),("copies",.tuple [.str "word",.str "copies",.str "keep"]),("edition",.tuple [.str "word",.str "start",.str "hands"]),("back",.tuple [.str "word"]),("rank",.tuple [.str "word",.str "place"]),("store",.tuple [.str "word",.str "word"]),("door",.tuple [.str "word",.str "word"]),("rule",.tuple [.str "word",.str "word",.str "asks",.str "copies",.str "keep"]),("empty",.tuple [.str "word"]),("fill",.tuple [.str "word"]),("end",.tuple [.str "sort",.str "word"])]
noncomputable abbrev N_l_codes:List Str:=["_law_found"]
noncomputable def t_l_codes:TSd :=
  dSeq (dAsg (dDictM [(dC (.d (.str "group")),dC (.d (.str "ws"))),(dC (.d (.str "wish")),dC (.d (.str "wwckth"))),(dC (.d (.str "copies")),dC (.d (.str "wck"))),(dC (.d (.str "edition")),dC (.d (.str "wth"))),(dC (.d (.str "back")),dC (.d (.str "w"))),(dC (.d (.str "rank")),dC (.d (.str "wp")))]) (gN 0)) <|
  dSeq (dDrop (dDUpd (dVar 0) (dDict [(dC (.d (.str "store")),dC (.d (.str "ww"))),(dC (.d (.str "door")),dC (.d (.str "ww"))),(dC (.d (.str "rule")),dC (.d (.str "wwack"))),(dC (.d (.str "empty")),dC (.d (.str "w"))),(dC (.d (.str "fill")),dC (.d (.str "w"))),(dC (.d (.str "end")),dC (.d (.str "ew")))]))) <|
  dRet (dVar 0)
noncomputable abbrev N_l_number:List Str:=["_law_bag_here", "_law_low", "_law_high"]
noncomputable def t_l_number (sp_l_take:SpD):TSd :=
  dRet (dOp rdIx (dLst (dCons (dVar 1) (dCons (dVar 2) (dCons (dOp rdAdd (dVar 1) (dCall sp_l_take (dCons (dVar 0) (dCons (dOp rdAdd (dOp rdSub (dVar 2) (dVar 1)) (dC (.d (.int 1)))) (dNil))))) (dNil))))) (dCB rdMin2 (dCons (dC (.d (.int 2))) (dCons (dCall sp_l_take (dCons (dVar 0) (dCons (dC (.d (.int 4))) (dNil)))) (dNil)))))
noncomputable abbrev N_l_word:List Str:=["_law_bag_here", "_law_some", "_law_letters"]
noncomputable def t_l_word (sp_l_take:SpD):TSd :=
  dSeq (dAsg (dLst (dCons (dC (.d (.str "a"))) (dCons (dC (.d (.str "b"))) (dCons (dC (.d (.str "web"))) (dCons (dC (.d (.str "hand"))) (dCons (dC (.d (.str "wish"))) (dCons (dC (.d (.str "end"))) (dCons (dC (.d (.str "copies"))) (dCons (dC (.d (.str "abcdefgh"))) (dCons (dC (.d (.str "store"))) (dCons (dC (.d (.str "ab"))) (dNil)))))))))))) (gN 1)) <|
  dSeq (dAsg (dC (.d (.str "abcdefghijklmnopqrstuvwxyz"))) (gN 2)) <|
  dSeq (dIf (dTest (dOp rdGt (dCall sp_l_take (dCons (dVar 0) (dCons (dC (.d (.int 3))) (dNil)))) (dC (.d (.int 0)))))
   (dRet (dOp rdIx (dVar 1) (dCall sp_l_take (dCons (dVar 0) (dCons (dC (.d (.int 10))) (dNil))))))
   (dNext)) <|
  dRet (dMS rdJoin (dC (.d (.str ""))) (dCons (dLC (dRng1 (dCons (dOp rdAdd (dC (.d (.int 1))) (dCall sp_l_take (dCons (dVar 0) (dCons (dC (.d (.int 8))) (dNil))))) (dNil))) (gN 0) (dYes) (dOp rdIx (dVar 1) (dCall sp_l_take (dCons (dVar 2) (dCons (dC (.d (.int 26))) (dNil))))) 1 [2,0]) dNil))
noncomputable abbrev N_l_bounds:List Str:=["_law_code"]
noncomputable def t_l_bounds:TSd :=
  dRet (dDGet (dDictM [(dC (.d (.str "s")),dTup (dCons (dC (.d (.int 1))) (dCons (dC (.d (.int 9))) (dNil)))),(dC (.d (.str "c")),dTup (dCons (dC (.d (.int 0))) (dCons (dC (.d (.int 6))) (dNil)))),(dC (.d (.str "k")),dTup (dCons (dC (.d (.int 0))) (dCons (dC (.d (.int 5))) (dNil)))),(dC (.d (.str "t")),dTup (dCons (dC (.d (.int 0))) (dCons (dC (.d (.int 2))) (dNil)))),(dC (.d (.str "h")),dTup (dCons (dC (.d (.int 1))) (dCons (dC (.d (.int 3))) (dNil)))),(dC (.d (.str "p")),dTup (dCons (dC (.d (.int 0))) (dCons (dC (.d (.int 7))) (dNil)))),(dC (.d (.str "a")),dTup (dCons (dC (.d (.int 1))) (dCons (dC (.d (.int 20))) (dNil))))]) (dVar 0))
noncomputable abbrev N_l_part:List Str:=["_law_bag_here", "_law_code", "_law_low", "_law_high"]
noncomputable def t_l_part (sp_l_word:SpD)(sp_l_take:SpD)(sp_l_bounds:SpD)(sp_l_number:SpD):TSd :=
  dSeq (dIf (dTest (dOp rdEqT (dVar 1) (dC (.d (.str "w")))))
   (dRet (dCall sp_l_word (dCons (dVar 0) (dNil))))
   (dNext)) <|
  dSeq (dIf (dTest (dOp rdEqT (dVar 1) (dC (.d (.str "e")))))
   (dRet (dOp rdIx (dLst (dCons (dC (.d (.str "wish"))) (dCons (dC (.d (.str "store"))) (dCons (dC (.d (.str "door"))) (dCons (dC (.d (.str "rule"))) (dNil)))))) (dCall sp_l_take (dCons (dVar 0) (dCons (dC (.d (.int 4))) (dNil))))))
   (dNext)) <|
  dSeq (dAsg (dCall sp_l_bounds (dCons (dVar 1) (dNil))) (gT 2 (gsCons (gN 2) (gsCons (gN 3) (gsNil))))) <|
  dRet (dCall sp_l_number (dCons (dVar 0) (dCons (dVar 2) (dCons (dVar 3) (dNil)))))
noncomputable abbrev N_l_deed:List Str:=["_law_bag_here", "_law_codes_here", "_law_word_here", "_law_found", "_law_code"]
noncomputable def t_l_deed (sp_l_codes:SpD)(sp_l_take:SpD)(sp_l_number:SpD)(sp_l_part:SpD):TSd :=
  dSeq (dAsg (dCall sp_l_codes dNil) (gN 1)) <|
  dSeq (dAsg (dOp rdIx (dSeal (dCB rdSortD (dCons (dVar 1) (dNil)))) (dCall sp_l_take (dCons (dVar 0) (dCons (dC (.d (.int 12))) (dNil))))) (gN 2)) <|
  dSeq (dAsg (dLstM (dCons (dVar 2) (dNil))) (gN 3)) <|
  dSeq (dFor (dItems (dDGet (dVar 1) (dVar 2))) (gN 4)
   (dIf (dTest (dOp rdEqT (dVar 4) (dC (.d (.str "k")))))
    (dDrop (dAppend (dVar 3) (dCall sp_l_number (dCons (dVar 0) (dCons (dC (.d (.int 0))) (dCons (dCB rdMax2 (dCons (dC (.d (.int 0))) (dCons (dOp rdSub (dOp rdIx (dVar 3) (dUn rdNeg (dC (.d (.int 1))))) (dC (.d (.int 1)))) (dNil)))) (dNil)))))))
    (dDrop (dAppend (dVar 3) (dCall sp_l_part (dCons (dVar 0) (dCons (dVar 4) (dNil)))))))) <|
  dRet (dCB rdTupleOf (dCons (dVar 3) (dNil)))
noncomputable abbrev N_l_figures:List Str:=["_law_number_here", "_law_found"]
noncomputable def t_l_figures:TSd :=
  dSeq (dAsg (dC (.d (.str ""))) (gN 1)) <|
  dSeq (dWhile (dTest (dOp rdGt (dVar 0) (dC (.d (.int 9)))))
   (dSeq (dAsg (dOp rdAdd (dOp rdIx (dC (.d (.str "0123456789"))) (dOp rdMod (dVar 0) (dC (.d (.int 10))))) (dVar 1)) (gN 1)) <|
   dAsg (dOp rdDiv (dVar 0) (dC (.d (.int 10)))) (gN 0))) <|
  dRet (dOp rdAdd (dOp rdIx (dC (.d (.str "0123456789"))) (dVar 0)) (dVar 1))
noncomputable abbrev N_l_written:List Str:=["_law_thing", "_law_found", "_law_part_here"]
noncomputable def t_l_written (sp_l_figures:SpD):TSd :=
  dSeq (dAsg (dOp rdIx (dVar 0) (dC (.d (.int 0)))) (gN 1)) <|
  dSeq (dFor (dItems (dSl (dVar 0) (dPart (dC (.d (.int 1)))) (dNoPart))) (gN 2)
   (dIf (dTest (dCB rdIsiT (dCons (dVar 2) (dCons (dC (.t "str")) (dNil)))))
    (dAsg (dOp rdAdd (dOp rdAdd (dVar 1) (dC (.d (.str " ")))) (dVar 2)) (gN 1))
    (dAsg (dOp rdAdd (dOp rdAdd (dVar 1) (dC (.d (.str " ")))) (dCall sp_l_figures (dCons (dVar 2) (dNil)))) (gN 1)))) <|
  dRet (dVar 1)
noncomputable abbrev N_l_bent:List Str:=["_law_bag_here", "_law_text", "_law_signs", "_law_sign", "_law_at", "_law_way", "_law_rest", "_law_far"]
noncomputable def t_l_bent (sp_l_take:SpD):TSd :=
  dSeq (dAsg (dC (.d (.str " 0123456789abcdefghijklmnopqrstuvwxyz\n.-+A:_"))) (gN 2)) <|
  dSeq (dAsg (dOp rdIx (dVar 2) (dCall sp_l_take (dCons (dVar 0) (dCons (dCB rdLen (dCons (dVar 2) (dNil))) (dNil))))) (gN 3)) <|
  dSeq (dAsg (dCall sp_l_take (dCons (dVar 0) (dCons (dOp rdAdd (dCB rdLen (dCons (dVar 1) (dNil))) (dC (.d (.int 1)))) (dNil)))) (gN 4)) <|
  dSeq (dAsg (dCall sp_l_take (dCons (dVar 0) (dCons (dC (.d (.int 7))) (dNil)))) (gN 5)) <|
  dSeq (dIf (dTest (dOp rdLt (dVar 5) (dC (.d (.int 2)))))
   (dRet (dOp rdAdd (dOp rdAdd (dSl (dVar 1) (dNoPart) (dPart (dVar 4))) (dVar 3)) (dSl (dVar 1) (dPart (dVar 4)) (dNoPart))))
   (dNext)) <|
  dSeq (dIf (dTest (dOp rdEqT (dVar 5) (dC (.d (.int 2)))))
   (dRet (dOp rdAdd (dOp rdAdd (dSl (dVar 1) (dNoPart) (dPart (dVar 4))) (dVar 3)) (dSl (dVar 1) (dPart (dOp rdAdd (dVar 4) (dC (.d (.int 1))))) (dNoPart))))
   (dNext)) <|
  dSeq (dIf (dTest (dOp rdEqT (dVar 5) (dC (.d (.int 3)))))
   (dRet (dOp rdAdd (dSl (dVar 1) (dNoPart) (dPart (dVar 4))) (dSl (dVar 1) (dPart (dOp rdAdd (dVar 4) (dC (.d (.int 1))))) (dNoPart))))
   (dNext)) <|
  dSeq (dIf (dTest (dOp rdEqT (dVar 5) (dC (.d (.int 4)))))
   (dRet (dOp rdAdd (dOp rdAdd (dSl (dVar 1) (dNoPart) (dPart (dVar 4))) (dRevS (dSl (dVar 1) (dPart (dVar 4)) (dPart (dOp rdAdd (dVar 4) (dC (.d (.int 2)))))) (dPart (dUn rdNeg (dC (.d (.int 1))))))) (dSl (dVar 1) (dPart (dOp rdAdd (dVar 4) (dC (.d (.int 2))))) (dNoPart))))
   (dNext)) <|
  dSeq (dIf (dTest (dOp rdEqT (dVar 5) (dC (.d (.int 5)))))
   (dRet (dOp rdAdd (dOp rdAdd (dSl (dVar 1) (dNoPart) (dPart (dVar 4))) (dC (.d (.str " ")))) (dSl (dVar 1) (dPart (dVar 4)) (dNoPart))))
   (dNext)) <|
  dSeq (dAsg (dSl (dVar 1) (dPart (dVar 4)) (dNoPart)) (gN 6)) <|
  dSeq (dAsg (dOp rdAdd (dMS rdFind (dVar 6) (dCons (dC (.d (.str " "))) dNil)) (dC (.d (.int 1)))) (gN 7)) <|
  dRet (dOp rdAdd (dOp rdAdd (dSl (dVar 1) (dNoPart) (dPart (dVar 4))) (dOp rdMul2 (dSl (dVar 6) (dNoPart) (dPart (dVar 7))) (dC (.d (.int 2))))) (dSl (dVar 6) (dPart (dVar 7)) (dNoPart)))
noncomputable abbrev N_l_strange:List Str:=["_law_bag_here", "_law_codes_here", "_law_word_here", "_law_parts", "_law_numbers", "_law_code"]
noncomputable def t_l_strange (sp_l_codes:SpD)(sp_l_take:SpD)(sp_l_word:SpD):TSd :=
  dSeq (dAsg (dCall sp_l_codes dNil) (gN 1)) <|
  dSeq (dAsg (dOp rdIx (dSeal (dCB rdSortD (dCons (dVar 1) (dNil)))) (dCall sp_l_take (dCons (dVar 0) (dCons (dC (.d (.int 12))) (dNil))))) (gN 2)) <|
  dSeq (dAsg (dLstM (dCons (dVar 2) (dNil))) (gN 3)) <|
  dSeq (dAsg (dLst (dCons (dC (.d (.str "0"))) (dCons (dC (.d (.str "00"))) (dCons (dC (.d (.str "01"))) (dCons (dC (.d (.str "10"))) (dCons (dC (.d (.str "007"))) (dCons (dC (.d (.str "20"))) (dCons (dC (.d (.str "21"))) (dCons (dC (.d (.str "999999999999999999999"))) (dCons (dC (.d (.str "-1"))) (dCons (dC (.d (.str "1.0"))) (dCons (dC (.d (.str "+1"))) (dCons (dC (.d (.str ""))) (dCons (dC (.d (.str "9"))) (dCons (dC (.d (.str "1"))) (dNil)))))))))))))))) (gN 4)) <|
  dSeq (dAsg (dCat (dVar 4) (dLst (dCons (dC (.d (.str "5\n"))) (dCons (dC (.d (.str "2x"))) (dCons (dC (.d (.str "x1"))) (dCons (dC (.d (.str "1_"))) (dCons (dC (.d (.str "1_0"))) (dCons (dC (.d (.str "1\n"))) (dCons (dC (.d (.str "0\n"))) (dCons (dOp rdMulN (dC (.d (.str "9"))) (dC (.d (.int 4400)))) (dNil))))))))))) (gN 4)) <|
  dSeq (dFor (dItems (dDGet (dVar 1) (dVar 2))) (gN 5)
   (dIf (dTest (dOp rdInS (dVar 5) (dC (.d (.str "we")))))
    (dDrop (dAppend (dVar 3) (dOp rdIx (dLst (dCons (dCall sp_l_word (dCons (dVar 0) (dNil))) (dCons (dC (.d (.str "wish"))) (dCons (dC (.d (.str "door"))) (dCons (dC (.d (.str "Web"))) (dCons (dC (.d (.str ""))) (dCons (dC (.d (.str "group"))) (dCons (dC (.d (.str "abcdefghi"))) (dNil))))))))) (dCall sp_l_take (dCons (dVar 0) (dCons (dC (.d (.int 7))) (dNil)))))))
    (dDrop (dAppend (dVar 3) (dOp rdIx (dVar 4) (dCall sp_l_take (dCons (dVar 0) (dCons (dCB rdLen (dCons (dVar 4) (dNil))) (dNil))))))))) <|
  dRet (dSl (dMS rdJoin (dC (.d (.str " "))) (dCons (dSeal (dVar 3)) dNil)) (dNoPart) (dPart (dC (.d (.int 8000)))))
noncomputable abbrev N_read_number:List Str:=["text"]
noncomputable def t_read_number:TSd :=
  dSeq (dIf (dNot (dTest (dChain rdLe rdLe (dC (.d (.int 1))) (dCB rdLen (dCons (dVar 0) (dNil))) (dC (.d (.int 10))))))
   (dRet (dC (.d .none)))
   (dNext)) <|
  dSeq (dIf (dNot (dTest (dCB rdAll (dCons (dLC (dItems (dVar 0)) (gN 0) (dYes) (dOp rdInS (dVar 0) (dC (.d (.str "0123456789")))) 1 []) (dNil)))))
   (dRet (dC (.d .none)))
   (dNext)) <|
  dSeq (dIf (dAnd (dTest (dOp rdEqT (dOp rdIx (dVar 0) (dC (.d (.int 0)))) (dC (.d (.str "0"))))) (dTest (dOp rdNeT (dVar 0) (dC (.d (.str "0"))))))
   (dRet (dC (.d .none)))
   (dNext)) <|
  dRet (dCB rdIntS (dCons (dVar 0) (dNil)))
noncomputable abbrev N_read_part:List Str:=["form", "text"]
noncomputable def t_read_part (sp_read_number:SpD):TSd :=
  dRet (dIfE (dTest (dKIn g_BOUNDS (dVar 0))) (dCall sp_read_number (dCons (dVar 1) (dNil))) (dVar 1))
noncomputable abbrev N_is_word:List Str:=["thing"]
noncomputable def t_is_word:TSd :=
  dSeq (dIf (dOr (dNot (dTest (dCB rdIsiT (dCons (dVar 0) (dCons (dC (.t "str")) (dNil)))))) (dNot (dTest (dChain rdLe rdLe (dC (.d (.int 1))) (dCB rdLen (dCons (dVar 0) (dNil))) (dC (.d (.int 8)))))))
   (dRet (dC (.d (.bool false))))
   (dNext)) <|
  dRet (dCB rdAll (dCons (dLC (dItems (dVar 0)) (gN 0) (dYes) (dChain rdLe rdLe (dC (.d (.str "a"))) (dVar 0) (dC (.d (.str "z")))) 1 []) (dNil)))
noncomputable abbrev N_is_whole:List Str:=["thing"]
noncomputable def t_is_whole:TSd :=
  dRet (dAndV (dCB rdIsiT (dCons (dVar 0) (dCons (dC (.t "int")) (dNil)))) (dNotV (dCB rdIsiT (dCons (dVar 0) (dCons (dC (.t "bool")) (dNil))))))
noncomputable abbrev N_is_within:List Str:=["thing", "low", "high"]
noncomputable def t_is_within (sp_is_whole:SpD):TSd :=
  dRet (dAndV (dCall sp_is_whole (dCons (dVar 0) (dNil))) (dChain rdLe rdLe (dVar 1) (dVar 0) (dVar 2)))
noncomputable abbrev N_is_part:List Str:=["form", "part", "low", "high"]
noncomputable def t_is_part (sp_is_word:SpD)(sp_is_within:SpD):TSd :=
  dSeq (dIf (dTest (dOp rdEqT (dVar 0) (dC (.d (.str "word")))))
   (dRet (dCall sp_is_word (dCons (dVar 1) (dNil))))
   (dNext)) <|
  dSeq (dIf (dTest (dOp rdEqT (dVar 0) (dC (.d (.str "sort")))))
   (dRet (dAndV (dCB rdIsiT (dCons (dVar 1) (dCons (dC (.t "str")) (dNil)))) (dOp (rdInA false) (dVar 1) (dC (.d (.tuple [.str "wish", .str "store", .str "door", .str "rule"]))))))
   (dNext)) <|
  dSeq (dAsg (dKIx g_BOUNDS (dVar 0)) (gT 2 (gsCons (gN 2) (gsCons (gN 3) (gsNil))))) <|
  dRet (dCall sp_is_within (dCons (dVar 1) (dCons (dVar 2) (dCons (dVar 3) (dNil)))))
noncomputable abbrev N_keep_fits:List Str:=["forms", "deed", "copies", "keep"]
noncomputable def t_keep_fits:TSd :=
  dSeq (dAsg (dOp rdIx (dVar 1) (dOp rdAdd (dIndex (dVar 0) (dC (.d (.str "copies")))) (dC (.d (.int 1))))) (gN 2)) <|
  dSeq (dAsg (dOp rdIx (dVar 1) (dOp rdAdd (dIndex (dVar 0) (dC (.d (.str "keep")))) (dC (.d (.int 1))))) (gN 3)) <|
  dRet (dOp rdLe (dVar 3) (dCB rdMax2 (dCons (dOp rdSub (dVar 2) (dC (.d (.int 1)))) (dCons (dC (.d (.int 0))) (dNil)))))
noncomputable abbrev N_is_deed:List Str:=["thing", "forms", "form", "part"]
noncomputable def t_is_deed (sp_is_part:SpD)(sp_keep_fits:SpD):TSd :=
  dSeq (dIf (dOr (dNot (dTest (dCB rdIsiT (dCons (dVar 0) (dCons (dC (.t "tuple")) (dNil)))))) (dOr (dNot (dTru (dVar 0))) (dNot (dTest (dCB rdIsiT (dCons (dOp rdIx (dVar 0) (dC (.d (.int 0)))) (dCons (dC (.t "str")) (dNil))))))))
   (dRet (dC (.d (.bool false))))
   (dNext)) <|
  dSeq (dAsg (dKGet g_PARTS (dOp rdIx (dVar 0) (dC (.d (.int 0))))) (gN 1)) <|
  dSeq (dIf (dOr (dTest (dOp (rdIsN false) (dVar 1) (dC (.d .none)))) (dTest (dOp rdNeT (dCB rdLen (dCons (dVar 0) (dNil))) (dOp rdAdd (dCB rdLen (dCons (dVar 1) (dNil))) (dC (.d (.int 1)))))))
   (dRet (dC (.d (.bool false))))
   (dNext)) <|
  dSeq (dFor (dZipT (dCons (dVar 1) (dCons (dSl (dVar 0) (dPart (dC (.d (.int 1)))) (dNoPart)) (dNil)))) (gT 2 (gsCons (gN 2) (gsCons (gN 3) (gsNil))))
   (dIf (dNot (dTest (dCall sp_is_part (dCons (dVar 2) (dCons (dVar 3) (dNil))))))
    (dRet (dC (.d (.bool false))))
    (dNext))) <|
  dRet (dOrV (dOp (rdInA true) (dC (.d (.str "keep"))) (dVar 1)) (dCall sp_keep_fits (dCons (dVar 1) (dCons (dVar 0) (dNil)))))
noncomputable abbrev N_read_deed:List Str:=["text", "parts", "forms", "deed"]
noncomputable def t_read_deed (Ex:XE)(sp_read_part:SpD)(sp_is_deed:SpD):TSd :=
  dSeq (dIf (dNot (dTest (dCB rdIsiT (dCons (dVar 0) (dCons (dC (.t "str")) (dNil))))))
   (dRaise0 C_NoText Ex (dCons (dC (.d (.str "this is no text"))) (dNil)))
   (dNext)) <|
  dSeq (dAsg (dSplit (dVar 0) (dC (.d (.str " ")))) (gN 1)) <|
  dSeq (dAsg (dKGet g_PARTS (dOp rdIx (dVar 1) (dC (.d (.int 0))))) (gN 2)) <|
  dSeq (dIf (dOr (dTest (dOp (rdIsN false) (dVar 2) (dC (.d .none)))) (dTest (dOp rdNeT (dCB rdLen (dCons (dVar 1) (dNil))) (dOp rdAdd (dCB rdLen (dCons (dVar 2) (dNil))) (dC (.d (.int 1)))))))
   (dRaise0 C_NoText Ex (dCons (dC (.d (.str "this has not the parts of a deed"))) (dNil)))
   (dNext)) <|
  dSeq (dAsg (dCB rdTupleOf (dCons (dCat (dSl (dVar 1) (dNoPart) (dPart (dC (.d (.int 1))))) (dLC (dZipTL (dCons (dVar 2) (dCons (dSl (dVar 1) (dPart (dC (.d (.int 1)))) (dNoPart)) (dNil)))) (gT 2 (gsCons (gN 0) (gsCons (gN 1) (gsNil)))) (dYes) (dCall sp_read_part (dCons (dVar 0) (dCons (dVar 1) (dNil)))) 2 [])) (dNil))) (gN 3)) <|
  dSeq (dIf (dNot (dTest (dCall sp_is_deed (dCons (dVar 3) (dNil)))))
   (dRaise0 C_NoText Ex (dCons (dC (.d (.str "this is no deed's text"))) (dNil)))
   (dNext)) <|
  dRet (dVar 3)
noncomputable abbrev N_l_told:List Str:=["_law_thing", "e"]
noncomputable def t_l_told (sp_read_deed:SpX):TSd :=
  dTry (λ Ex =>
   dRet (dTup (dCons (dC (.d (.str "told"))) (dCons (dCB rdReprT (dCons (dCallX sp_read_deed Ex (dCons (dVar 0) (dNil))) (dNil))) (dNil))))) (dHand (tabL [(C_NoText, true)]) 1
   (dRet (dTup (dCons (dC (.d (.str "refused"))) (dCons (dAndV (dIsX (tabL [(C_NoText, true)]) (dVar 1)) (dNotV (dIsX (tabL [(C_NoText, false)]) (dVar 1)))) (dNil))))) (λ _ _ _ _=>False))
noncomputable abbrev N_l_number_in:List Str:=["_law_text", "_law_total", "_law_sign"]
noncomputable def t_l_number_in:TSd :=
  dSeq (dIf (dOr (dTest (dOp rdEqT (dVar 0) (dC (.d (.str ""))))) (dOr (dTest (dOp rdGt (dCB rdLen (dCons (dVar 0) (dNil))) (dC (.d (.int 2))))) (dAnd (dTest (dOp rdEqT (dCB rdLen (dCons (dVar 0) (dNil))) (dC (.d (.int 2))))) (dTest (dOp rdEqT (dOp rdIx (dVar 0) (dC (.d (.int 0)))) (dC (.d (.str "0"))))))))
   (dRet (dC (.d .none)))
   (dNext)) <|
  dSeq (dAsg (dC (.d (.int 0))) (gN 1)) <|
  dSeq (dFor (dItems (dVar 0)) (gN 2)
   (dSeq (dIf (dTest (dOp rdNInS (dVar 2) (dC (.d (.str "0123456789")))))
    (dRet (dC (.d .none)))
    (dNext)) <|
   dAsg (dOp rdAdd (dOp rdMul (dC (.d (.int 10))) (dVar 1)) (dMS rdFindX (dC (.d (.str "0123456789"))) (dCons (dVar 2) dNil))) (gN 1))) <|
  dRet (dVar 1)
noncomputable abbrev N_l_is_word:List Str:=["_law_thing"]
noncomputable def t_l_is_word:TSd :=
  dSeq (dIf (dOr (dNot (dTest (dCB rdIsiT (dCons (dVar 0) (dCons (dC (.t "str")) (dNil)))))) (dOr (dTest (dOp rdLt (dCB rdLen (dCons (dVar 0) (dNil))) (dC (.d (.int 1))))) (dTest (dOp rdGt (dCB rdLen (dCons (dVar 0) (dNil))) (dC (.d (.int 8)))))))
   (dRet (dC (.d (.bool false))))
   (dNext)) <|
  dRet (dCB rdAll (dCons (dLC (dItems (dVar 0)) (gN 0) (dYes) (dOp rdInS (dVar 0) (dC (.d (.str "abcdefghijklmnopqrstuvwxyz")))) 1 []) (dNil)))
noncomputable abbrev N_l_between:List Str:=["_law_thing", "_law_low", "_law_high"]
noncomputable def t_l_between:TSd :=
  dRet (dAndV (dCB rdIsiT (dCons (dVar 0) (dCons (dC (.t "int")) (dNil)))) (dAndV (dNotV (dCB rdIsiT (dCons (dVar 0) (dCons (dC (.t "bool")) (dNil))))) (dChain rdLe rdLe (dVar 1) (dVar 0) (dVar 2))))
noncomputable abbrev N_l_fits:List Str:=["_law_code", "_law_thing", "_law_ahead", "_law_low", "_law_high"]
noncomputable def t_l_fits (sp_l_is_word:SpD)(sp_l_bounds:SpD)(sp_l_between:SpD):TSd :=
  dSeq (dIf (dTest (dOp rdEqT (dVar 0) (dC (.d (.str "w")))))
   (dRet (dCall sp_l_is_word (dCons (dVar 1) (dNil))))
   (dNext)) <|
  dSeq (dIf (dTest (dOp rdEqT (dVar 0) (dC (.d (.str "e")))))
   (dRet (dAndV (dCB rdIsiT (dCons (dVar 1) (dCons (dC (.t "str")) (dNil)))) (dOp (rdInA false) (dVar 1) (dLst (dCons (dC (.d (.str "wish"))) (dCons (dC (.d (.str "store"))) (dCons (dC (.d (.str "door"))) (dCons (dC (.d (.str "rule"))) (dNil)))))))))
   (dNext)) <|
  dSeq (dAsg (dCall sp_l_bounds (dCons (dVar 0) (dNil))) (gT 2 (gsCons (gN 3) (gsCons (gN 4) (gsNil))))) <|
  dSeq (dIf (dTest (dOp rdEqT (dVar 0) (dC (.d (.str "k")))))
   (dRet (dAndV (dCall sp_l_between (dCons (dVar 2) (dCons (dC (.d (.int 0))) (dCons (dC (.d (.int 6))) (dNil))))) (dCall sp_l_between (dCons (dVar 1) (dCons (dC (.d (.int 0))) (dCons (dCB rdMax2 (dCons (dC (.d (.int 0))) (dCons (dOp rdSub (dVar 2) (dC (.d (.int 1)))) (dNil)))) (dNil)))))))
   (dNext)) <|
  dRet (dCall sp_l_between (dCons (dVar 1) (dCons (dVar 3) (dCons (dVar 4) (dNil)))))
noncomputable abbrev N_l_good:List Str:=["_law_thing", "_law_codes_here"]
noncomputable def t_l_good (sp_l_codes:SpD)(sp_l_fits:SpD):TSd :=
  dSeq (dIf (dOr (dNot (dTest (dCB rdIsiT (dCons (dVar 0) (dCons (dC (.t "tuple")) (dNil)))))) (dOr (dTest (dOp rdEqT (dCB rdLen (dCons (dVar 0) (dNil))) (dC (.d (.int 0))))) (dNot (dTest (dCB rdIsiT (dCons (dOp rdIx (dVar 0) (dC (.d (.int 0)))) (dCons (dC (.t "str")) (dNil))))))))
   (dRet (dC (.d (.bool false))))
   (dNext)) <|
  dSeq (dAsg (dGet1 (dCall sp_l_codes dNil) (dOp rdIx (dVar 0) (dC (.d (.int 0))))) (gN 1)) <|
  dSeq (dIf (dOr (dTest (dOp (rdIsN false) (dVar 1) (dC (.d .none)))) (dTest (dOp rdNeT (dCB rdLen (dCons (dVar 1) (dNil))) (dOp rdSub (dCB rdLen (dCons (dVar 0) (dNil))) (dC (.d (.int 1)))))))
   (dRet (dC (.d (.bool false))))
   (dNext)) <|
  dRet (dCB rdAll (dCons (dLC (dRng1 (dCons (dCB rdLen (dCons (dVar 1) (dNil))) (dNil))) (gN 0) (dYes) (dCall sp_l_fits (dCons (dOp rdIx (dVar 1) (dVar 0)) (dCons (dOp rdIx (dVar 2) (dOp rdAdd (dVar 0) (dC (.d (.int 1))))) (dCons (dOp rdIx (dVar 2) (dVar 0)) (dNil))))) 1 [1, 0]) (dNil)))
noncomputable abbrev N_l_read:List Str:=["_law_text", "_law_parts", "_law_codes_here", "_law_found", "_law_code", "_law_part_here"]
noncomputable def t_l_read (sp_l_codes:SpD)(sp_l_number_in:SpD)(sp_l_good:SpD):TSd :=
  dSeq (dAsg (dSplit (dVar 0) (dC (.d (.str " ")))) (gN 1)) <|
  dSeq (dAsg (dGet1 (dCall sp_l_codes dNil) (dOp rdIx (dVar 1) (dC (.d (.int 0))))) (gN 2)) <|
  dSeq (dIf (dOr (dTest (dOp (rdIsN false) (dVar 2) (dC (.d .none)))) (dTest (dOp rdNeT (dCB rdLen (dCons (dVar 2) (dNil))) (dOp rdSub (dCB rdLen (dCons (dVar 1) (dNil))) (dC (.d (.int 1)))))))
   (dRet (dC (.d .none)))
   (dNext)) <|
  dSeq (dAsg (dLstM (dCons (dOp rdIx (dVar 1) (dC (.d (.int 0)))) (dNil))) (gN 3)) <|
  dSeq (dFor (dZipS (dCons (dVar 2) (dCons (dSl (dVar 1) (dPart (dC (.d (.int 1)))) (dNoPart)) (dNil)))) (gT 2 (gsCons (gN 4) (gsCons (gN 5) (gsNil))))
   (dIf (dTest (dOp rdInS (dVar 4) (dC (.d (.str "we")))))
    (dDrop (dAppend (dVar 3) (dVar 5)))
    (dDrop (dAppend (dVar 3) (dCall sp_l_number_in (dCons (dVar 5) (dNil))))))) <|
  dSeq (dIf (dNot (dTest (dCall sp_l_good (dCons (dCB rdTupleOf (dCons (dVar 3) (dNil))) (dNil)))))
   (dRet (dC (.d .none)))
   (dNext)) <|
  dRet (dCB rdTupleOf (dCons (dVar 3) (dNil)))
noncomputable abbrev N_l_due:List Str:=["_law_thing"]
noncomputable def t_l_due (sp_l_read:SpD):TSd :=
  dSeq (dIf (dOr (dNot (dTest (dCB rdIsiT (dCons (dVar 0) (dCons (dC (.t "str")) (dNil)))))) (dTest (dOp (rdIsN false) (dCall sp_l_read (dCons (dVar 0) (dNil))) (dC (.d .none)))))
   (dRet (dTup (dCons (dC (.d (.str "refused"))) (dCons (dC (.d (.bool true))) (dNil)))))
   (dNext)) <|
  dRet (dTup (dCons (dC (.d (.str "told"))) (dCons (dCB rdReprT (dCons (dCall sp_l_read (dCons (dVar 0) (dNil))) (dNil))) (dNil))))
noncomputable abbrev N_law:List Str:=["_law_script", "_law_bag_here", "_law_k", "_law_thing", "_law_text", "_law_bent_here", "_law_turn", "_law_odd", "_law_some"]
noncomputable def t_law (sp_l_bag:SpD)(sp_l_deed:SpD)(sp_l_written:SpD)(sp_l_take:SpD)(sp_l_bent:SpD)(sp_l_strange:SpD)(sp_l_told:SpD)(sp_l_due:SpD):TSd :=
  dSeq (dAsg (dCall sp_l_bag (dCons (dVar 0) (dNil))) (gN 1)) <|
  dSeq (dFor (dRng1 (dCons (dC (.d (.int 24))) (dNil))) (gN 2)
   (dSeq (dAsg (dCall sp_l_deed (dCons (dVar 1) (dNil))) (gN 3)) <|
   dSeq (dAsg (dCall sp_l_written (dCons (dVar 3) (dNil))) (gN 4)) <|
   dSeq (dAsg (dVar 4) (gN 5)) <|
   dSeq (dFor (dRng1 (dCons (dOp rdAdd (dC (.d (.int 1))) (dCall sp_l_take (dCons (dVar 1) (dCons (dC (.d (.int 3))) (dNil))))) (dNil))) (gN 6)
    (dAsg (dCall sp_l_bent (dCons (dVar 1) (dCons (dVar 5) (dNil)))) (gN 5))) <|
   dSeq (dAsg (dOp rdIx (dLst (dCons (dC (.d .none)) (dCons (dC (.d (.int 5))) (dCons (dC (.d (.bool true))) (dCons (dLst (dCons (dVar 4) (dNil))) (dCons (dTup (dCons (dVar 4) (dNil))) (dCons (dVar 3) (dCons (dDict0) (dCons (dC (.d (.int 0))) (dNil)))))))))) (dCall sp_l_take (dCons (dVar 1) (dCons (dC (.d (.int 8))) (dNil))))) (gN 7)) <|
   dFor (dItems (dLst (dCons (dVar 5) (dCons (dVar 4) (dCons (dCall sp_l_strange (dCons (dVar 1) (dNil))) (dCons (dVar 7) (dCons (dVar 5) (dCons (dVar 4) (dNil))))))))) (gN 8)
    (dIf (dTest (dOp rdNeT (dCall sp_l_told (dCons (dVar 8) (dNil))) (dCall sp_l_due (dCons (dVar 8) (dNil)))))
     (dRet (dC (.d (.bool false))))
     (dNext)))) <|
  dRet (dAndV (dOp rdEqT (dCall sp_l_told (dCons (dC (.d (.str ""))) (dNil))) (dTup (dCons (dC (.d (.str "refused"))) (dCons (dC (.d (.bool true))) (dNil))))) (dOp rdEqT (dCall sp_l_told (dCons (dC (.d (.str " "))) (dNil))) (dTup (dCons (dC (.d (.str "refused"))) (dCons (dC (.d (.bool true))) (dNil))))))
noncomputable def btw (i lo hi:Int):Bool:=decide (lo<=i) && decide (i<=hi)
noncomputable def bnds:List (Str×Int×Int):=[("s", 1, 9), ("c", 0, 6), ("k", 0, 5), ("t", 0, 2), ("h", 1, 3), ("p", 0, 7), ("a",1,20)]
noncomputable def bndW:List (Key×W):=bnds.map λ x=>(.inr x.1,.d (.tuple [.int x.2.1,.int x.2.2]))
noncomputable def sp_l_bounds:SpD:=λ ws M Q=>∃ (z:Str) (lo hi:Int),ws=[.d (.str z)]/\(z,lo,hi)∈bnds/\∀ M',Ext M M'->Q (.d (.tuple [.int lo,.int hi])) M'
theorem len_l_bounds:∀ ws M Q,sp_l_bounds ws M Q->ws.length=1:=by rintro ws M Q ⟨z,lo,hi,rfl,_⟩; rfl
theorem bnd_get:∀ x∈bnds,tget bndW (.inr x.1)=some (.d (.tuple [.int x.2.1,.int x.2.2])):=by
 intro x hx
 simp only [bnds,List.mem_cons,List.not_mem_nil,or_false] at hx
 rcases hx with rfl | rfl | rfl | rfl | rfl | rfl | rfl <;> rfl
theorem read_l_bounds:∀ ws M Q,sp_l_bounds ws M Q->t_l_bounds { nx:=λ _ M'=>Q (.d .none) M',rt:=Q } (startD N_l_bounds ws) M:=by
 rintro ws M Q ⟨z,lo,hi,rfl,hz,k⟩
 refine λ p hp=>?_
 refine ⟨_,rfl,few (by simp),_,rfl,few (by simp),_,rfl,few (by simp),_,rfl,few (by simp),_,rfl,few (by simp),_,rfl,few (by simp),_,rfl,few (by simp),updM_same,bndW,rfl,by decide,by decide +kernel,?_⟩
 rw [updM_updM]
 exact ⟨_,rfl,p,_,.inr z,_,rfl,.inl updM_same,rfl,bnd_get _ hz,k _ (Ext.new hp)⟩
noncomputable def codes:List (Str×Str):=[("group", "ws"),("wish", "wwckth"),("copies", "wck"),("edition", "wth"),("back", "w"),("rank", "wp"),("store", "ww"),("door", "ww"),("rule", "wwack"),("empty", "w"),("fill", "w"),("end", "ew")]
noncomputable def codeK:List (Key×PyData):=codes.map λ x=>(.inr x.1,.str x.2)
noncomputable def sp_l_codes:SpD:=λ ws M Q=>ws=[]/\∀ p M',M p=none->M' p=some (.dic (dataKV codeK))->(∀ q o,M q=some o->M' q=some o)->Q (.m p) M'
theorem len_l_codes:∀ ws M Q,sp_l_codes ws M Q->ws.length=0:=by rintro ws M Q ⟨rfl,_⟩; rfl
theorem read_l_codes:∀ ws M Q,sp_l_codes ws M Q->t_l_codes { nx:=λ _ M'=>Q (.d .none) M',rt:=Q } (startD N_l_codes ws) M:=by
 rintro ws M Q ⟨rfl,k⟩
 have s16':=s16
 refine λ p hp=>?_
 refine ⟨updM_same,dataKV (codeK.take 6),rfl,by decide,by decide +kernel,?_⟩
 rw [updM_updM]
 refine ⟨_,rfl,p,_,rfl,updM_same,λ q hq=>⟨rfl,codeK.drop 6,rfl,by decide,by decide +kernel,?_⟩⟩
 refine ⟨dataKV (codeK.take 6),codeK.drop 6,updM_same,rfl,by decide +kernel,by show 6+6<=sizeLine; omega,?_⟩
 rw [updM_updM]
 refine ⟨_,rfl,k p _ hp ?_ λ q o e=>?_⟩
 ·rw [updM_same]
  rfl
 ·rw [updM_ne (ne_new e hp)]
  exact e
noncomputable def sorts:List Str:=["wish", "store", "door", "rule"]
noncomputable def sortB (z:Str):Bool:=decide (z∈sorts)
theorem sort_in {z:Str}:inA (.str z) (sorts.map PyData.str)=sortB z:=by
 unfold inA sortB
 rw [List.any_map]
 by_cases h:z∈sorts
 ·rw [decide_eq_true h]
  exact List.any_eq_true.mpr ⟨z,h,by show PyData.eqv (.str z) (.str z)=true; rw [eqv_str',decide_eq_true rfl]⟩
 ·rw [decide_eq_false h]
  refine List.any_eq_false.mpr λ y hy=>?_
  show ¬ PyData.eqv (.str y) (.str z)=true
  rw [eqv_str']
  simp only [decide_eq_true_eq]
  intro e
  exact h (e ▸ hy)
theorem sort_ok {z:Str}(h:ascB z=true):inOk (.str z) (sorts.map PyData.str)=true:=by
 have e1:okD 1 (.str z)=true:=by simp only [okD]; exact h
 have e2:okD 1 (.list (sorts.map PyData.str))=true:=by decide +kernel
 unfold inOk
 rw [eqOk_of (by decide) e1,eqOk_of (by decide) e2]
 rfl
theorem glue_signs:∀ (cs:List Nat) (acc:Array Nat),((cs.map λ c=>(⟨#[c]⟩:Str)).foldl (λ acc p=>acc++("" : Str).cps++p.cps) acc).toList=acc.toList++cs
 | [],acc=>by simp
 | c :: cs,acc=>by
  have e:("" : Str).cps = #[]:=by decide +kernel
  rw [List.map_cons,List.foldl_cons,glue_signs cs]
  rw [e]
  simp
theorem join_signs (cs:List Nat):(Txt.join "" (cs.map λ c=>(⟨#[c]⟩:Str))).cps.toList=cs:=by
 cases cs with
 | nil=>simp [Txt.join,Builtin.Str.glued,Str.empty]
 | cons c cs =>
  show (((cs.map λ c=>(⟨#[c]⟩:Str)).foldl (λ acc p=>acc++("" : Str).cps++p.cps) #[c])).toList=_
  rw [glue_signs]
  rfl
theorem join_wd {cs:List Nat}(h0:1<=cs.length)(h1:cs.length<=8)(h:∀ c∈cs,smallB c=true):wd (Txt.join "" (cs.map λ c=>(⟨#[c]⟩:Str)))=true:=by
 have e:=join_signs cs
 have el:(Txt.join "" (cs.map λ c=>(⟨#[c]⟩:Str))).length=cs.length:=by rw [<- str_len,e]
 unfold wd
 rw [el,e,decide_eq_true h0,decide_eq_true h1]
 simpa using h
theorem alpha_small:∀ c∈alphaS.cps.toList,smallB c=true:=by decide +kernel
theorem signs_sum (cs:List Nat):((cs.map λ c=>(⟨#[c]⟩:Str)).map (·.length)).sum=cs.length:=by
 induction cs with
 | nil=>rfl
 | cons c cs ih =>
  simp only [List.map_cons,List.sum_cons,ih,List.length_cons]
  show 1+cs.length=_
  omega
noncomputable def words10:List Str:=["a", "b", "web", "hand", "wish", "end", "copies", "abcdefgh", "store", "ab"]
theorem words10_wd:∀ z∈words10,wd z=true:=by decide +kernel
noncomputable def sp_l_word:SpD:=λ ws M Q=>∃ p:Addr,ws=[.m p]/\Bag M p/\∀ (z:Str) M',wd z=true->Bag M' p->(∀ q,q≠p->M' q=M q)->Q (.d (.str z)) M'
theorem len_l_word:∀ ws M Q,sp_l_word ws M Q->ws.length=1:=by rintro ws M Q ⟨p,rfl,_⟩; rfl
theorem read_l_word:∀ ws M Q,sp_l_word ws M Q->t_l_word sp_l_take { nx:=λ _ M'=>Q (.d .none) M',rt:=Q } (startD N_l_word ws) M:=by
 rintro ws M Q ⟨p,rfl,hb,k⟩
 have s16':=s16
 refine ⟨_,rfl,few (by simp),⟨_,rfl,p,3,rfl,hb,by decide,by decide,λ x M1 _ _ b1 f1=>⟨_,_,rfl,rfl,_,rfl,ite_b (λ _=>?_) (λ _=>?_)⟩⟩⟩
 ·refine ⟨_,rfl,_,rfl,p,10,rfl,b1,by decide,by decide,λ r M2 r0 r1 b2 f2=>?_⟩
  obtain ⟨z,ez,hz⟩:=ix_str_in (M:=M2) (zs:=words10) r0 (by simpa [words10] using r1)
  exact ⟨r,_,rfl,ez,rfl,k z M2 (words10_wd z hz) b2 λ q hq=>(f2 q hq).trans (f1 q hq)⟩
 ·refine ⟨⟨_,rfl⟩,_,rfl,p,8,rfl,b1,by decide,by decide,λ n M2 n0 n1 b2 f2=>.inl ⟨_,_,rfl,rfl,1+n,rfl,by omega,by omega,?_⟩⟩
  dsimp only
  refine ⟨λ i acc τ M'=>Bag M' p/\(∀ q,q≠p->M' q=M q)/\(∃ cs:List Nat,acc=cs.map (λ c=>PyData.str ⟨#[c]⟩)/\cs.length=i/\∀ c∈cs,smallB c=true)/\∃ x,τ=[x,some (.d (.str alphaS)),some (.m p)],⟨b2,λ q hq=>(f2 q hq).trans (f1 q hq),⟨[],rfl,rfl,λ _ h=>nomatch h⟩,_,rfl⟩,?_,?_⟩
  ·rintro i w acc τ M' hw ⟨b,f,⟨cs,rfl,hl,hc⟩,x,rfl⟩
   obtain ⟨hi,rfl⟩:=rng_at hw
   refine ⟨by rw [List.length_map]; omega,_,rfl,_,rfl,p,26,rfl,b,by decide,by decide,λ r M3 r0 r1 b3 f3=>?_⟩
   obtain ⟨c,hc1,hm⟩:=ix_str_at (M:=M3) (z:=alphaS) r0 (by rw [alphaL]; exact r1)
   refine ⟨r,_,rfl,hc1,by decide +kernel,_,rfl,b3,λ q hq=>(f3 q hq).trans (f q hq),⟨cs++[c],by simp,by simp [hl],λ c' h'=>?_⟩,_,rfl⟩
   rcases List.mem_append.mp h' with h' | h'
   ·exact hc c' h'
   ·rw [List.mem_singleton.mp h']; exact alpha_small c hm
  ·rintro acc τ M' ⟨b,f,⟨cs,rfl,hl,hc⟩,x,rfl⟩
   simp only [rangeW,List.length_map,List.length_range] at hl
   refine ⟨"",cs.map λ c=>⟨#[c]⟩,rfl,by rw [List.map_map]; rfl,?_,k _ M' (join_wd (by omega) (by omega) hc) b f⟩
   rw [signs_sum]
   have e0:("" : Str).length=0:=by decide +kernel
   rw [e0]
   omega
inductive Cd | w | e | s | c | k | t | h | p | a
deriving DecidableEq
noncomputable def cdN:Cd->Nat
 | .w=>119 | .e=>101 | .s=>115 | .c=>99 | .k=>107 | .t=>116 | .h=>104 | .p=>112 | .a=>97
noncomputable def cdS (c:Cd):Str:=⟨#[cdN c]⟩
noncomputable def cdF:Cd->Str
 | .w => "word" | .e => "sort" | .s => "share" | .c => "copies" | .k => "keep" | .t => "start" | .h => "hands" | .p => "place" | .a => "asks"
noncomputable def cdL:Cd->Int
 | .s=>1 | .h=>1 | .a=>1 | _=>0
noncomputable def cdH:Cd->Int
 | .s=>9 | .c=>6 | .k=>5 | .t=>2 | .h=>3 | .p=>7 | .a=>20 | _=>0
noncomputable def tabS:List (Str×Str×List Cd):=[("group", "ws",[.w,.s]),("wish", "wwckth",[.w,.w,.c,.k,.t,.h]),("copies", "wck",[.w,.c,.k]),("edition", "wth",[.w,.t,.h]),("back", "w",[.w]),("rank", "wp",[.w,.p]),("store", "ww",[.w,.w]),("door", "ww",[.w,.w]),("rule", "wwack",[.w,.w,.a,.c,.k]),("empty", "w",[.w]),("fill", "w",[.w]),("end", "ew",[.e,.w])]
theorem tab_code:∀ x∈tabS,tget (dataKV codeK) (.inr x.1)=some (.d (.str x.2.1)):=by
 intro x hx
 simp only [tabS,List.mem_cons,List.not_mem_nil,or_false] at hx
 rcases hx with rfl | rfl | rfl | rfl | rfl | rfl | rfl | rfl | rfl | rfl | rfl | rfl <;> rfl
theorem tab_signs:∀ x∈tabS,x.2.1.cps.toList=x.2.2.map cdN:=by decide +kernel
theorem tab_len:∀ x∈tabS,x.2.2.length<=6/\1<=x.2.2.length:=by decide +kernel
theorem tab_parts:∀ x∈tabS,lookS g_PARTS x.1=some (.tuple (x.2.2.map λ c=>.str (cdF c))):=by
 intro x hx
 simp only [tabS,List.mem_cons,List.not_mem_nil,or_false] at hx
 rcases hx with rfl | rfl | rfl | rfl | rfl | rfl | rfl | rfl | rfl | rfl | rfl | rfl <;> rfl
theorem tab_word:∀ x∈tabS,wd x.1=true:=by decide +kernel
theorem tab_k:∀ x∈tabS,∀ i < x.2.2.length,x.2.2[i]? = some .k->1<=i/\x.2.2[i - 1]? = some .c:=by decide +kernel
noncomputable def keys12:List Str:=codes.map (·.1)
theorem tab_key:∀ z∈keys12,∃ x∈tabS,x.1=z:=by decide +kernel
theorem cd_eq (c:Cd):(decide (cdS c = "w")=decide (c=.w))/\(decide (cdS c = "e")=decide (c=.e))/\decide (cdS c = "k")=decide (c=.k):=by cases c <;> decide +kernel
theorem cd_bnd (c:Cd)(h1:c ≠ .w)(h2:c ≠ .e):(cdS c,cdL c,cdH c)∈bnds:=by cases c <;> first | exact absurd rfl h1 | exact absurd rfl h2 | decide +kernel
theorem cd_lh (c:Cd):c ≠ .w->c ≠ .e->0<=cdL c/\cdL c<=cdH c/\cdH c<=1000:=by cases c <;> decide +kernel
noncomputable def six:List Str:=["wish", "store", "door", "rule", "group", "copies"]
theorem six_asc:∀ z∈six,ascB z=true:=by decide +kernel
noncomputable def Pt (c:Cd)(d:PyData):Prop:=(c=.w/\∃ y:Str,d=.str y/\wd y=true)\/(c=.e/\∃ y:Str,d=.str y/\y∈six)\/(c ≠ .w/\c ≠ .e/\∃ i:Int,d=.int i/\-1<=i/\i<=1001)
noncomputable def Pts (cs:List Cd)(ds:List PyData):Prop:=∀ (j:Nat) c d,cs[j]? = some c->ds[j]? = some d->Pt c d
theorem Pts.snoc {cs:List Cd}{ds:List PyData}{c:Cd}{d:PyData}(h:Pts cs ds)(hc:cs[ds.length]? = some c)(hd:Pt c d):Pts cs (ds++[d]):=by
 intro j c' d' e1 e2
 by_cases hj:j < ds.length
 ·rw [List.getElem?_append_left hj] at e2
  exact h j c' d' e1 e2
 ·rw [List.getElem?_append_right (by omega)] at e2
  have hlt:=(List.getElem?_eq_some_iff.mp e2).1
  simp at hlt
  have ej:j=ds.length:=by omega
  subst ej
  simp at e2
  subst e2
  rw [hc] at e1
  cases e1
  exact hd
noncomputable def Fr (M M':MH)(p:Addr):Prop:=∀ q o,q≠p->M q=some o->M' q=some o
theorem Fr.trans {A B C:MH}{p:Addr}(h:Fr A B p)(k:Fr B C p):Fr A C p:=λ q o n e=>k q o n (h q o n e)
theorem Fr.of {M M':MH}{p:Addr}(h:∀ q,q≠p->M' q=M q):Fr M M' p:=λ q o n e=>by rw [h q n]; exact e
theorem Fr.ext {M M':MH}{p:Addr}(h:Ext M M'):Fr M M' p:=λ q o _ e=>h q o e
noncomputable def dd (z:Str)(ds:List PyData):PyData:=.tuple (.str z :: ds)
theorem strs_d (zs:List Str):strsW zs=(zs.map PyData.str).map W.d:=by rw [List.map_map]; rfl
noncomputable def isW:PyData->Bool
 | .str z=>wd z
 | _=>false
noncomputable def inB (lo hi:Int):PyData->Bool
 | .int i=>btw i lo hi
 | _=>false
noncomputable def Fl (d:PyData):Prop:=(∃ y:Str,d=.str y/\ascB y=true/\y.length<=100000)\/(∃ i:Int,d=.int i)\/d=.none
noncomputable def wholeB:PyData->Bool
 | .int _=>true
 | _=>false
noncomputable def sp_is_whole:SpD:=λ ws M Q=>∃ d,ws=[.d d]/\Fl d/\Q (.d (.bool (wholeB d))) M
theorem len_is_whole:∀ ws M Q,sp_is_whole ws M Q->ws.length=1:=by rintro ws M Q ⟨d,rfl,_⟩; rfl
theorem read_is_whole:∀ ws M Q,sp_is_whole ws M Q->t_is_whole { nx:=λ _ M'=>Q (.d .none) M',rt:=Q } (startD N_is_whole ws) M:=by
 rintro ws M Q ⟨d,rfl,hf,k⟩
 refine ⟨_,rfl,_,_,_,rfl,.d,.int,_,rfl,?_⟩
 rcases hf with ⟨y,rfl,_⟩ | ⟨i,rfl⟩ | rfl
 ·exact iteF k
 ·exact iteT ⟨_,rfl,_,_,_,rfl,.d,.bool,_,rfl,k⟩
 ·exact iteF k
noncomputable def sp_is_within:SpD:=λ ws M Q=>∃ (d:PyData) (lo hi:Int),ws=[.d d,.d (.int lo),.d (.int hi)]/\Fl d/\Q (.d (.bool (inB lo hi d))) M
theorem len_is_within:∀ ws M Q,sp_is_within ws M Q->ws.length=3:=by rintro ws M Q ⟨i,lo,hi,rfl,_⟩; rfl
theorem read_is_within:∀ ws M Q,sp_is_within ws M Q->t_is_within sp_is_whole { nx:=λ _ M'=>Q (.d .none) M',rt:=Q } (startD N_is_within ws) M:=by
 rintro ws M Q ⟨d,lo,hi,rfl,hf,k⟩
 refine ⟨_,rfl,d,rfl,hf,_,rfl,?_⟩
 rcases hf with ⟨y,rfl,_⟩ | ⟨i,rfl⟩ | rfl
 ·exact iteF k
 ·refine iteT ⟨_,rfl,_,rfl,.inl ⟨_,_,rfl,rfl,_,rfl,?_⟩⟩
  have k':Q (.d (.bool (btw i lo hi))) M:=k
  unfold btw at k'
  by_cases h:lo<=i
  ·rw [decide_eq_true h] at k' ⊢
   exact iteT ⟨_,rfl,.inl ⟨_,_,rfl,rfl,k'⟩⟩
  ·rw [decide_eq_false h] at k' ⊢
   exact iteF k'
 ·exact iteF k
noncomputable def sp_is_word:SpD:=λ ws M Q=>∃ d,ws=[.d d]/\Fl d/\Q (.d (.bool (isW d))) M
theorem len_is_word:∀ ws M Q,sp_is_word ws M Q->ws.length=1:=by rintro ws M Q ⟨d,rfl,_⟩; rfl
theorem az_le (c:Nat):(!decide ((⟨#[c]⟩:Str).cps.toList < ("a" : Str).cps.toList))=decide (97<=c)/\(!decide (("z" : Str).cps.toList < (⟨#[c]⟩:Str).cps.toList))=decide (c<=122):=by
 have ea:("a" : Str).cps.toList=[97]:=by decide +kernel
 have ez:("z" : Str).cps.toList=[122]:=by decide +kernel
 have ec:(⟨#[c]⟩:Str).cps.toList=[c]:=rfl
 rw [ea,ez,ec,lt1,lt1]
 constructor
 ·by_cases h:c < 97
  ·rw [decide_eq_true h,decide_eq_false (by omega)]; rfl
  ·rw [decide_eq_false h,decide_eq_true (by omega)]; rfl
 ·by_cases h:122 < c
  ·rw [decide_eq_true h,decide_eq_false (by omega)]; rfl
  ·rw [decide_eq_false h,decide_eq_true (by omega)]; rfl
theorem read_is_word:∀ ws M Q,sp_is_word ws M Q->t_is_word { nx:=λ _ M'=>Q (.d .none) M',rt:=Q } (startD N_is_word ws) M:=by
 rintro ws M Q ⟨d,rfl,hf,k⟩
 have s16':=s16
 refine ⟨_,rfl,_,_,_,rfl,.d,.str,_,rfl,?_⟩
 rcases hf with ⟨z,rfl,_,hl⟩ | ⟨i,rfl⟩ | rfl
 ·have hfit:fitW (.d (.str z))=true:=decide_eq_true (by omega)
  have k':Q (.d (.bool (wd z))) M:=k
  refine ite_n (by rw [isi_s]; rfl) ⟨_,rfl,_,_,rfl,rfl,hfit,.inl ⟨_,_,rfl,rfl,_,rfl,?_⟩⟩
  have no:¬ (1<=z.length/\z.length<=8)->Q (.d (.bool false)) M:=λ h=>by
   have e:wd z=false:=by
    unfold wd
    by_cases h1:1<=z.length
    ·rw [decide_eq_false (show ¬ z.length<=8 from λ h2=>h ⟨h1,h2⟩)]
     simp
    ·rw [decide_eq_false h1]
     simp
   rw [e] at k'
   exact k'
  by_cases h1:1<=z.length
  ·refine ite_y (decide_eq_true (show (1:Int)<=(z.length:Nat) by omega)) (.inl ⟨_,_,rfl,rfl,_,rfl,?_⟩)
   by_cases h2:z.length<=8
   ·refine ite_n (by rw [decide_eq_true (show ((z.length:Nat):Int)<=8 by omega)]; rfl) ⟨_,rfl,_,rfl,?_⟩
    dsimp only
    refine lc_rows z.cps.toList (λ c=>W.d (.str ⟨#[c]⟩)) (λ c=>.bool (smallB c)) (λ τ=>∃ x,τ=[x]) (by rw [str_len]; omega) ⟨_,rfl⟩ (λ c hc τ hτ R h=>?_) (λ τ=>?_)
    ·obtain ⟨x,rfl⟩:=hτ
     obtain ⟨q1,q2⟩:=az_le c
     have go:=h [some (.d (.str ⟨#[c]⟩))] ⟨_,rfl⟩
     unfold smallB at go
     refine ⟨_,rfl,.inr ⟨_,_,rfl,rfl,_,rfl,?_⟩⟩
     refine ite_b (λ h0=>?_) (λ h0=>?_)
     ·rw [q1.symm.trans h0,Bool.true_and,<- q2] at go
      exact .inr ⟨_,_,rfl,rfl,_,rfl,go⟩
     ·rw [q1.symm.trans h0,Bool.false_and] at go
      exact ⟨_,rfl,go⟩
    ·refine ⟨z.cps.toList.map smallB,by rw [List.map_map]; rfl,?_⟩
     have e:wd z=(z.cps.toList.map smallB).all id:=by
      unfold wd
      rw [decide_eq_true h1,decide_eq_true h2,List.all_map]
      rfl
     rw [e] at k'
     exact k'
   ·refine ite_y (by rw [decide_eq_false (show ¬ ((z.length:Nat):Int)<=8 by omega)]; rfl) (no λ h=>h2 h.2)
  ·refine ite_n (decide_eq_false (show ¬ (1:Int)<=(z.length:Nat) by omega)) ?_
   exact ⟨_,rfl,ite_y rfl (no λ h=>h1 h.1)⟩
 ·exact ite_y rfl k
 ·exact ite_y rfl k
noncomputable def pG (c:Cd)(d:PyData):Bool:=if c=.w then isW d else if c=.e then (match d with | .str y=>sortB y | _=>false) else inB (cdL c) (cdH c) d
theorem bnd_look (c:Cd):c ≠ .w->c ≠ .e->lookS g_BOUNDS (cdF c)=some (.tuple [.int (cdL c),.int (cdH c)])/\cdF c ≠ "word" /\ cdF c ≠ "sort" := by
 intro h1 h2
 cases c <;> first | exact absurd rfl h1 | exact absurd rfl h2 | exact ⟨rfl,by decide +kernel,by decide +kernel⟩
noncomputable def sp_is_part:SpD:=λ ws M Q=>∃ (c:Cd) (d:PyData),ws=[.d (.str (cdF c)),.d d]/\Fl d/\Q (.d (.bool (pG c d))) M
theorem len_is_part:∀ ws M Q,sp_is_part ws M Q->ws.length=2:=by rintro ws M Q ⟨c,d,rfl,_⟩; rfl
theorem read_is_part:∀ ws M Q,sp_is_part ws M Q->t_is_part sp_is_word sp_is_within { nx:=λ _ M'=>Q (.d .none) M',rt:=Q } (startD N_is_part ws) M:=by
 rintro ws M Q ⟨c,d,rfl,hf,k⟩
 by_cases h1:c=.w
 ·subst h1
  refine ⟨_,rfl,_,_,.d,.d,rfl,_,rfl,?_⟩
  rw [eqv_str',decide_eq_true (show cdF .w = "word" from rfl)]
  exact iteT ⟨_,rfl,d,rfl,hf,k⟩
 by_cases h2:c=.e
 ·subst h2
  refine ⟨_,rfl,_,_,.d,.d,rfl,_,rfl,?_⟩
  rw [eqv_str',decide_eq_false (show ¬ cdF .e = "word" by decide +kernel)]
  refine iteF ⟨_,rfl,_,_,.d,.d,rfl,_,rfl,?_⟩
  rw [eqv_str',decide_eq_true (show cdF .e = "sort" from rfl)]
  refine iteT ⟨_,rfl,_,_,_,rfl,.d,.str,_,rfl,?_⟩
  rcases hf with ⟨y,rfl,ha,_⟩ | ⟨i,rfl⟩ | rfl
  ·refine iteT ⟨_,rfl,_,sorts.map PyData.str,.d,.inr rfl,sort_ok ha,?_⟩
   rw [Bool.false_xor,sort_in]
   exact k
  ·exact iteF k
  ·exact iteF k
 ·obtain ⟨g1,g2,g3⟩:=bnd_look c h1 h2
  refine ⟨_,rfl,_,_,.d,.d,rfl,_,rfl,?_⟩
  rw [eqv_str',decide_eq_false g2]
  refine iteF ⟨_,rfl,_,_,.d,.d,rfl,_,rfl,?_⟩
  rw [eqv_str',decide_eq_false g3]
  refine iteF ⟨_,rfl,cdF c,_,rfl,g1,_,rfl,rfl,_,_,rfl,_,_,rfl,rfl,?_⟩
  have e:pG c d=inB (cdL c) (cdH c) d:=by unfold pG; rw [if_neg h1,if_neg h2]
  rw [e] at k
  exact ⟨_,rfl,_,rfl,_,rfl,d,cdL c,cdH c,rfl,hf,k⟩
theorem tup_at {M:MH}{z:Str}{ds:List PyData}{j:Nat}{d:PyData}(h:((.str z:PyData) :: ds)[j]? = some d):ixW M (.d (dd z ds)) (j:Int)=some (.d d):=by
 simp only [dd,ixW,atI_nat h,Option.map_some]
theorem tup0 {M:MH}{z:Str}{ds:List PyData}:ixW M (.d (dd z ds)) 0=some (.d (.str z)):=tup_at (j:=0) rfl
noncomputable def idxB (ds:List PyData)(d:PyData)(j:Nat):Bool:=decide (j < ds.length) && PyData.eqv (ds.getD j .none) d && (List.range j).all λ m=>!PyData.eqv (ds.getD m .none) d
theorem idxB_at {ds:List PyData}{d:PyData}{j:Nat}(h:idxB ds d j=true):idxAt ds d j:=by
 simp only [idxB,Bool.and_eq_true,decide_eq_true_eq,List.all_eq_true,List.mem_range,Bool.not_eq_true'] at h
 obtain ⟨⟨h1,h2⟩,h3⟩:=h
 refine ⟨h1,λ y e=>?_,λ m y hm e=>?_⟩
 ·simpa [List.getD,e] using h2
 ·simpa [List.getD,e] using h3 m hm
noncomputable def formsD (x:Str×Str×List Cd):List PyData:=x.2.2.map λ c=>.str (cdF c)
noncomputable def kC (x:Str×Str×List Cd):Nat:=x.2.2.idxOf .c
noncomputable def kK (x:Str×Str×List Cd):Nat:=x.2.2.idxOf .k
theorem k_is:∀ x∈tabS,Cd.k∈x.2.2->idxB (formsD x) (.str "copies") (kC x)=true/\idxB (formsD x) (.str "keep") (kK x)=true/\x.2.2[kC x]? = some .c/\x.2.2[kK x]? = some .k/\kC x+1=kK x:=by decide +kernel
theorem k_one:∀ x∈tabS,∀ j < x.2.2.length,x.2.2[j]? = some .k->j=kK x:=by decide +kernel
theorem k_ok:∀ x∈tabS,inOk (.str "copies") (formsD x)=true/\inOk (.str "keep") (formsD x)=true/\inA (.str "keep") (formsD x)=decide (Cd.k∈x.2.2):=by decide +kernel
noncomputable def leK (a i:Int):Bool:=decide (i<=if 0 > a - 1 then 0 else a - 1)
noncomputable def sp_keep_fits:SpD:=λ ws M Q=>∃ x∈tabS,Cd.k∈x.2.2/\∃ (ds:List PyData) (a i:Int),ws=[.d (.tuple (formsD x)),.d (dd x.1 ds)]/\ds[kC x]? = some (.int a)/\ds[kK x]? = some (.int i)/\Q (.d (.bool (leK a i))) M
theorem len_keep_fits:∀ ws M Q,sp_keep_fits ws M Q->ws.length=2:=by rintro ws M Q ⟨x,_,_,ds,a,i,rfl,_⟩; rfl
theorem read_keep_fits:∀ ws M Q,sp_keep_fits ws M Q->t_keep_fits { nx:=λ _ M'=>Q (.d .none) M',rt:=Q } (startD N_keep_fits ws) M:=by
 rintro ws M Q ⟨x,hx,hk,ds,a,i,rfl,ha,hi,k⟩
 obtain ⟨h1,h2,_⟩:=k_is x hx hk
 obtain ⟨o1,o2,_⟩:=k_ok x hx
 have e1:ixW M (.d (dd x.1 ds)) (((kC x:Nat):Int)+1)=some (.d (.int a)):=tup_at (j:=kC x+1) (by simpa using ha)
 have e2:ixW M (.d (dd x.1 ds)) (((kK x:Nat):Int)+1)=some (.d (.int i)):=tup_at (j:=kK x+1) (by simpa using hi)
 refine ⟨_,rfl,_,rfl,_,rfl,_,_,rfl,o1,idxB_at h1,.inl ⟨_,_,rfl,rfl,_,_,rfl,e1,rfl,?_⟩⟩
 refine ⟨_,rfl,_,rfl,_,rfl,_,_,rfl,o2,idxB_at h2,.inl ⟨_,_,rfl,rfl,_,_,rfl,e2,rfl,?_⟩⟩
 exact ⟨_,rfl,_,rfl,_,_,rfl,rfl,_,_,rfl,.inl ⟨_,_,rfl,rfl,k⟩⟩
noncomputable def keepB (x:Str×Str×List Cd)(ds:List PyData):Bool:=match ds.getD (kC x) .none,ds.getD (kK x) .none with
 | .int a,.int i=>leK a i
 | _,_=>false
noncomputable def pJ (x:Str×Str×List Cd)(ds:List PyData)(j:Nat):Bool:=pG (x.2.2.getD j .w) (ds.getD j .none)
noncomputable def deedG (x:Str×Str×List Cd)(ds:List PyData):Bool:=(List.range x.2.2.length).all (pJ x ds) && (!decide (Cd.k∈x.2.2) || keepB x ds)
noncomputable def sp_is_deed:SpD:=λ ws M Q=>∃ x∈tabS,∃ ds:List PyData,ws=[.d (dd x.1 ds)]/\ds.length=x.2.2.length/\(∀ d∈ds,Fl d)/\Q (.d (.bool (deedG x ds))) M
theorem len_is_deed:∀ ws M Q,sp_is_deed ws M Q->ws.length=1:=by rintro ws M Q ⟨x,_,ds,rfl,_⟩; rfl
theorem all_no {n j:Nat}{f:Nat->Bool}(hj:j < n)(h:f j=false):(List.range n).all f=false:=by
 rw [List.all_eq_false]
 exact ⟨j,List.mem_range.mpr hj,by simp [h]⟩
theorem pJ_num {x:Str×Str×List Cd}{ds:List PyData}{j:Nat}{c:Cd}(hl:ds.length=x.2.2.length)(h:pJ x ds j=true)(hc:x.2.2[j]? = some c)(h1:c ≠ .w)(h2:c ≠ .e):∃ i:Int,ds[j]? = some (.int i):=by
 have hj:j < ds.length:=by rw [hl]; exact (List.getElem?_eq_some_iff.mp hc).1
 have hd:ds[j]? = some ds[j]:=List.getElem?_eq_getElem hj
 have e:pJ x ds j=inB (cdL c) (cdH c) ds[j]:=by
  simp only [pJ,List.getD,hc,hd,Option.getD_some]
  unfold pG
  rw [if_neg h1,if_neg h2]
 rw [e] at h
 rw [hd]
 cases hq:ds[j] with
 | int i=>exact ⟨i,rfl⟩
 | _=>rw [hq] at h; cases h
theorem read_is_deed:∀ ws M Q,sp_is_deed ws M Q->t_is_deed sp_is_part sp_keep_fits { nx:=λ _ M'=>Q (.d .none) M',rt:=Q } (startD N_is_deed ws) M:=by
 rintro ws M Q ⟨x,hx,ds,rfl,hl,hfl,k⟩
 have s16':=s16
 obtain ⟨n6,n1⟩:=tab_len x hx
 refine ⟨_,rfl,_,_,_,rfl,.d,.tuple,_,rfl,?_⟩
 rw [show isiD (dd x.1 ds) "tuple" = true from isi_t _]
 refine iteF ⟨_,rfl,_,.t,iteF ?_⟩
 refine ⟨_,rfl,_,_,rfl,tup0,rfl,_,_,_,rfl,.d,.str,_,rfl,?_⟩
 rw [show isiD (.str x.1) "str" = true from isi_s _]
 refine iteF ⟨_,rfl,_,_,rfl,tup0,rfl,x.1,rfl,?_⟩
 rw [tab_parts x hx]
 have hfm:(formsD x).length=x.2.2.length:=by simp [formsD]
 have z2:(!PyData.eqv (.int ((ds.length+1:Nat):Int)) (.int (((formsD x).length:Int)+1)))=false:=by rw [eqv_int',decide_eq_true (by omega)]; rfl
 refine ⟨_,rfl,rfl,_,rfl,iteF ⟨_,rfl,_,_,rfl,rfl,rfl,_,rfl,_,_,rfl,rfl,rfl,.inl ⟨_,_,rfl,rfl,_,_,.d,.d,rfl,_,rfl,ite_n (c:=!PyData.eqv (.int ((ds.length+1:Nat):Int)) (.int (((formsD x).length:Int)+1))) z2 ?_⟩⟩⟩
 have hs:slW (.d (dd x.1 ds)) (some 1) none=some (.d (.tuple ds)):=by
  have e1:HT.sIx (ds.length+1) 0 (some 1)=1:=by
   simp only [HT.sIx]
   split <;> omega
  have e2:HT.sIx (ds.length+1) (ds.length+1) none=ds.length+1:=rfl
  simp only [slW,dd,wholeD,D.cutD,List.length_cons,e1,e2]
  simp
 refine ⟨_,rfl,_,rfl,_,rfl,_,hs,rfl,formsD x,ds,rfl,?_⟩
 refine ⟨λ i τ M'=>M'=M/\(∀ j < i,pJ x ds j=true)/\∃ y1 y2,τ=[some (.d (dd x.1 ds)),some (.d (.tuple (formsD x))),y1,y2],⟨rfl,λ j h=>by omega,_,_,rfl⟩,?_,?_⟩
 ·rintro i w τ M' hw ⟨rfl,hall,y1,y2,rfl⟩
  obtain ⟨j,hj,rfl⟩:=map_at hw
  obtain ⟨hlt,hj2⟩:=List.getElem?_eq_some_iff.mp hj
  rw [List.getElem_range] at hj2
  subst hj2
  have hi:i < x.2.2.length:=by simpa [hfm,hl] using hlt
  obtain ⟨c,hc⟩:∃ c,x.2.2[i]? = some c:=⟨_,List.getElem?_eq_getElem hi⟩
  obtain ⟨d',hd'⟩:∃ d',ds[i]? = some d':=⟨_,List.getElem?_eq_getElem (by omega)⟩
  have ef:(formsD x).getD i .none=.str (cdF c):=by simp [formsD,List.getD,hc]
  have ed:ds.getD i .none=d':=by simp [List.getD,hd']
  rw [ef,ed]
  have hpj:pJ x ds i=pG c d':=by simp only [pJ,List.getD,hc,hd',Option.getD_some]
  refine ⟨_,rfl,rfl,_,_,rfl,_,_,rfl,rfl,_,rfl,_,rfl,c,d',rfl,hfl d' (List.mem_of_getElem? hd'),_,rfl,?_⟩
  cases hb:pG c d' with
  | true =>
   refine iteF ⟨rfl,λ j hj=>?_,_,_,rfl⟩
   by_cases hji:j=i
   ·rw [hji,hpj,hb]
   ·exact hall j (by omega)
  | false =>
   refine iteT ?_
   have:deedG x ds=false:=by
    unfold deedG
    rw [all_no hi (by rw [hpj,hb])]
    rfl
   rw [this] at k
   exact k
 ·rintro τ M' ⟨rfl,hall,y1,y2,rfl⟩
  have hlen:(zipW (formsD x) ds).length=x.2.2.length:=by simp [zipW,hfm,hl]
  rw [hlen] at hall
  have hA:(List.range x.2.2.length).all (pJ x ds)=true:=by
   rw [List.all_eq_true]
   intro j hj
   exact hall j (List.mem_range.mp hj)
  obtain ⟨_,o2,o3⟩:=k_ok x hx
  refine ⟨_,rfl,_,_,.d,.inr rfl,o2,_,rfl,?_⟩
  rw [o3,Bool.true_xor]
  unfold deedG at k
  rw [hA,Bool.true_and] at k
  by_cases hk:Cd.k∈x.2.2
  ·rw [decide_eq_true hk] at k ⊢
   obtain ⟨_,_,c1,c2,_⟩:=k_is x hx hk
   obtain ⟨a,ea⟩:=pJ_num hl (hall _ (List.getElem?_eq_some_iff.mp c1).1) c1 (by decide) (by decide)
   obtain ⟨i,ei⟩:=pJ_num hl (hall _ (List.getElem?_eq_some_iff.mp c2).1) c2 (by decide) (by decide)
   refine iteF ⟨_,rfl,_,rfl,x,hx,hk,ds,a,i,rfl,ea,ei,?_⟩
   have:keepB x ds=leK a i:=by simp only [keepB,List.getD,ea,ei,Option.getD_some]
   rw [this] at k
   exact k
  ·rw [decide_eq_false hk] at k ⊢
   exact iteT k
noncomputable def sp_l_number:SpD:=λ ws M Q=>∃ (p:Addr) (lo hi:Int),ws=[.m p,.d (.int lo),.d (.int hi)]/\Bag M p/\0<=lo/\lo<=hi/\hi<=1000/\∀ (i:Int) M',lo<=i->i<=hi->Bag M' p->(∀ q,q≠p->M' q=M q)->Q (.d (.int i)) M'
theorem len_l_number:∀ ws M Q,sp_l_number ws M Q->ws.length=3:=by rintro ws M Q ⟨p,lo,hi,rfl,_⟩; rfl
theorem read_l_number:∀ ws M Q,sp_l_number ws M Q->t_l_number sp_l_take { nx:=λ _ M'=>Q (.d .none) M',rt:=Q } (startD N_l_number ws) M:=by
 rintro ws M Q ⟨p,lo,hi,rfl,hb,h0,h1,h2,k⟩
 refine ⟨_,rfl,_,rfl,_,rfl,_,rfl,_,rfl,_,rfl,_,_,rfl,rfl,.inl ⟨_,_,rfl,rfl,p,hi - lo+1,rfl,hb,by omega,by omega,λ r M1 r0 r1 b1 f1=>.inl ⟨_,_,rfl,rfl,_,rfl,few (by simp),?_⟩⟩⟩
 refine ⟨_,rfl,p,4,rfl,b1,by decide,by decide,λ c M2 c0 c1 b2 f2=>⟨_,_,rfl,?_⟩⟩
 have f:∀ q,q≠p->M2 q=M q:=λ q hq=>by rw [f2 q hq,f1 q hq]
 obtain ⟨d,ed,hd⟩:=ix_at (M:=M2) (ds:=[.int lo,.int hi,.int (lo+r)]) (r:=if c < 2 then c else 2) (by split <;> omega) (by simp; split <;> omega)
 simp only [List.mem_cons,List.not_mem_nil,or_false] at hd
 rcases hd with rfl | rfl | rfl <;> exact ⟨_,_,rfl,ed,rfl,k _ M2 (by omega) (by omega) b2 f⟩
noncomputable def Vp (c:Cd)(d:PyData):Prop:=(c=.w/\∃ y:Str,d=.str y/\wd y=true)\/(c=.e/\∃ y:Str,d=.str y/\y∈sorts)\/(c ≠ .w/\c ≠ .e/\∃ i:Int,d=.int i/\cdL c<=i/\i<=cdH c)
theorem sorts_six:∀ y∈sorts,y∈six:=by decide +kernel
theorem Vp.pt {c:Cd}{d:PyData}(h:Vp c d):Pt c d:=by
 rcases h with ⟨h,y,e,hy⟩ | ⟨h,y,e,hy⟩ | ⟨h1,h2,i,e,i0,i1⟩
 ·exact .inl ⟨h,y,e,hy⟩
 ·exact .inr (.inl ⟨h,y,e,sorts_six y hy⟩)
 ·obtain ⟨a,b,c'⟩:=cd_lh c h1 h2
  exact .inr (.inr ⟨h1,h2,i,e,by omega,by omega⟩)
noncomputable def kMax (a:Int):Int:=if 0 > a - 1 then 0 else a - 1
structure Vd (cs:List Cd)(ds:List PyData):Prop where
 part:∀ (j:Nat) c d,cs[j]? = some c->ds[j]? = some d->Vp c d
 keep:∀ j,cs[j]? = some .k->∀ i:Int,ds[j]? = some (.int i)->∃ a:Int,ds[j - 1]? = some (.int a)/\i<=kMax a
theorem Vd.pts {cs:List Cd}{ds:List PyData}(h:Vd cs ds):Pts cs ds:=λ j c d h1 h2=>(h.part j c d h1 h2).pt
theorem snoc_at {α:Type}{ds:List α}{d d':α}{j:Nat}(h:(ds++[d])[j]? = some d'):(j < ds.length/\ds[j]? = some d')\/(j=ds.length/\d'=d):=by
 by_cases hj:j < ds.length
 ·rw [List.getElem?_append_left hj] at h
  exact .inl ⟨hj,h⟩
 ·have hlt:=(List.getElem?_eq_some_iff.mp h).1
  simp at hlt
  have e:j=ds.length:=by omega
  subst e
  simp at h
  exact .inr ⟨rfl,h.symm⟩
theorem Vd.snoc {cs:List Cd}{ds:List PyData}{c:Cd}{d:PyData}(h:Vd cs ds)(hc:cs[ds.length]? = some c)(hd:Vp c d)(hk:c=.k->∀ i:Int,d=.int i->∃ a:Int,ds[ds.length - 1]? = some (.int a)/\i<=kMax a)(h1:c=.k->1<=ds.length):Vd cs (ds++[d]):=by
 refine ⟨λ j c' d' e1 e2=>?_,λ j e1 i e2=>?_⟩
 ·rcases snoc_at e2 with ⟨_,e⟩ | ⟨rfl,rfl⟩
  ·exact h.part j c' d' e1 e
  ·rw [hc] at e1
   cases e1
   exact hd
 ·rcases snoc_at e2 with ⟨hj,e⟩ | ⟨rfl,rfl⟩
  ·obtain ⟨a,ea,hi⟩:=h.keep j e1 i e
   exact ⟨a,by rw [List.getElem?_append_left (by omega)]; exact ea,hi⟩
  ·rw [hc] at e1
   cases e1
   obtain ⟨a,ea,hi⟩:=hk rfl i rfl
   have:=h1 rfl
   exact ⟨a,by rw [List.getElem?_append_left (by omega)]; exact ea,hi⟩
noncomputable def sp_l_part:SpD:=λ ws M Q=>∃ (p:Addr) (c:Cd),ws=[.m p,.d (.str (cdS c))]/\c ≠ .k/\Bag M p/\∀ (d:PyData) M',Vp c d->Bag M' p->Fr M M' p->Q (.d d) M'
theorem len_l_part:∀ ws M Q,sp_l_part ws M Q->ws.length=2:=by rintro ws M Q ⟨p,c,rfl,_⟩; rfl
theorem read_l_part:∀ ws M Q,sp_l_part ws M Q->t_l_part sp_l_word sp_l_take sp_l_bounds sp_l_number { nx:=λ _ M'=>Q (.d .none) M',rt:=Q } (startD N_l_part ws) M:=by
 rintro ws M Q ⟨p,c,rfl,hk,hb,k⟩
 obtain ⟨q1,q2,q3⟩:=cd_eq c
 refine ⟨_,rfl,_,_,.d,.d,rfl,_,rfl,?_⟩
 rw [eqv_str',q1]
 refine ite_b (λ h=>?_) (λ h=>?_)
 ·exact ⟨_,rfl,p,rfl,hb,λ z M2 hz b2 f2=>k _ M2 (.inl ⟨of_decide_eq_true h,z,rfl,hz⟩) b2 (Fr.of f2)⟩
 have n1:c ≠ .w:=of_decide_eq_false h
 refine ⟨_,rfl,_,_,.d,.d,rfl,_,rfl,?_⟩
 rw [eqv_str',q2]
 refine ite_b (λ h=>?_) (λ h=>?_)
 ·refine ⟨_,rfl,few (by simp),_,rfl,p,4,rfl,hb,by decide,by decide,λ r M2 r0 r1 b2 f2=>?_⟩
  obtain ⟨z,ez,hz⟩:=ix_str_in (M:=M2) (zs:=sorts) r0 (by simpa [sorts] using r1)
  exact ⟨r,_,rfl,ez,rfl,k _ M2 (.inr (.inl ⟨of_decide_eq_true h,z,rfl,hz⟩)) b2 (Fr.of f2)⟩
 have n2:c ≠ .e:=of_decide_eq_false h
 obtain ⟨l0,l1,l2⟩:=cd_lh c n1 n2
 refine ⟨_,rfl,cdS c,cdL c,cdH c,rfl,cd_bnd c n1 n2,λ M2 x2=>⟨_,rfl,rfl,_,_,rfl,_,_,rfl,rfl,?_⟩⟩
 exact ⟨_,rfl,_,rfl,_,rfl,p,cdL c,cdH c,rfl,Ext.bag x2 hb,l0,l1,l2,λ v M3 v0 v1 b3 f3=>k _ M3 (.inr (.inr ⟨n1,n2,v,rfl,v0,v1⟩)) b3 ((Fr.ext x2).trans (Fr.of f3))⟩
noncomputable def sp_l_deed:SpD:=λ ws M Q=>∃ p:Addr,ws=[.m p]/\Bag M p/\∀ x∈tabS,∀ (ds:List PyData) M',ds.length=x.2.2.length->Vd x.2.2 ds->Bag M' p->Fr M M' p->Q (.d (dd x.1 ds)) M'
theorem len_l_deed:∀ ws M Q,sp_l_deed ws M Q->ws.length=1:=by rintro ws M Q ⟨p,rfl,_⟩; rfl
theorem read_l_deed:∀ ws M Q,sp_l_deed ws M Q->t_l_deed sp_l_codes sp_l_take sp_l_number sp_l_part { nx:=λ _ M'=>Q (.d .none) M',rt:=Q } (startD N_l_deed ws) M:=by
 rintro ws M Q ⟨p,rfl,hb,k⟩
 have s16':=s16
 refine ⟨rfl,λ d M1 hd1 hM1 x1=>?_⟩
 have b1:Bag M1 p:=Ext.bag x1 hb
 refine ⟨_,rfl,d,_,keys12,rfl,hM1,by decide,by decide,λ zs' perm _ l hl=>⟨l,zs'.map PyData.str,rfl,by rw [updM_same,strs_d],?_⟩⟩
 have x2:Ext M1 (delM (updM M1 l (.lst (strsW zs'))) l):=sealed hl
 generalize delM (updM M1 l (.lst (strsW zs'))) l=M2 at x2
 refine ⟨_,rfl,p,12,rfl,Ext.bag x2 b1,by decide,by decide,λ r M3 r0 r1 b3 f3=>?_⟩
 have hlz:zs'.length=12:=perm.length_eq
 obtain ⟨z,ez,hz⟩:=ix_str_in (M:=M3) (zs:=zs') r0 (by omega)
 obtain ⟨x,hx,rfl⟩:=tab_key z (perm.mem_iff.mp hz)
 refine ⟨r,_,rfl,ez,rfl,?_⟩
 refine ⟨_,rfl,few (by simp),λ a ha=>?_⟩
 have dp:d≠p:=λ e=>by obtain ⟨o,ho⟩:=bag_at hb; rw [e,ho] at hd1; cases hd1
 have hM3:M3 d=some (.dic (dataKV codeK)):=by rw [f3 d dp]; exact x2 _ _ hM1
 have F3:Fr M M3 p:=((Fr.ext x1).trans (Fr.ext x2)).trans (Fr.of f3)
 have pa:p≠a:=λ e=>by obtain ⟨o,ho⟩:=bag_at b3; rw [e,ha] at ho; cases ho
 refine ⟨_,rfl,_,rfl,d,_,.inr x.1,_,rfl,.inl (upd_get hM3 ha),rfl,tab_code x hx,_,rfl,?_⟩
 have hsg:(x.2.1.cps.toList.map λ c=>W.d (.str ⟨#[c]⟩))=x.2.2.map λ c=>W.d (.str (cdS c)):=by rw [tab_signs x hx,List.map_map]; rfl
 rw [hsg]
 have tl:=tab_len x hx
 refine ⟨λ i τ M'=>∃ ds,Bag M' p/\Fr M M' p/\M' a=some (.lst (((.str x.1:PyData) :: ds).map W.d))/\ds.length=i/\Vd x.2.2 ds/\∃ y1,τ=[some (.m p),some (.m d),some (.d (.str x.1)),some (.m a),y1],⟨[],bag_keep b3 (updM_ne pa),F3.trans (Fr.ext (Ext.new ha)),updM_same,rfl,⟨λ j c d' h1 h2=>by simp at h2,λ j h1 i h2=>by simp at h2⟩,_,rfl⟩,?_,?_⟩
 ·rintro i w τ M' hw ⟨ds,b,f,hm,hl,hp,y1,rfl⟩
  obtain ⟨c,hc,rfl⟩:=map_at hw
  have hi:i < x.2.2.length:=(List.getElem?_eq_some_iff.mp hc).1
  obtain ⟨q1,q2,q3⟩:=cd_eq c
  have app:∀ (M'':MH) (d':PyData),Bag M'' p->Fr M' M'' p->Vp c d'->(c=.k->∀ i:Int,d'=.int i->∃ a:Int,ds[ds.length - 1]? = some (.int a)/\i<=kMax a)->(c=.k->1<=ds.length)->∃ ws',M'' a=some (.lst ws')/\ws'.length < sizeLine/\∃ ds,Bag (updM M'' a (.lst (ws'++[.d d']))) p/\Fr M (updM M'' a (.lst (ws'++[.d d']))) p/\(updM M'' a (.lst (ws'++[.d d']))) a=some (.lst (((.str x.1:PyData) :: ds).map W.d))/\ds.length=i+1/\Vd x.2.2 ds/\∃ z1,[some (.m p),some (.m d),some (.d (.str x.1)),some (.m a),some (W.d (.str (cdS c)))]=[some (.m p),some (.m d),some (.d (.str x.1)),some (.m a),z1]:=by
   intro M'' d' b' f' hpt hk1 hk2
   refine ⟨_,f' a _ pa.symm hm,by simp; omega,ds++[d'],bag_keep b' (updM_ne pa),λ q o n e=>?_,by rw [updM_same]; simp,by simp [hl],hp.snoc (by rw [hl]; exact hc) hpt hk1 hk2,_,rfl⟩
   have hqa:q≠a:=λ e'=>by
    have h3:=F3 q o n e
    rw [e',ha] at h3
    cases h3
   rw [updM_ne hqa]
   exact f' q o n (f q o n e)
  refine ⟨_,rfl,_,_,.d,.d,rfl,_,rfl,?_⟩
  rw [eqv_str',q3]
  refine ite_b (λ h=>?_) (λ h=>?_)
  ·have h:c=.k:=of_decide_eq_true h
   obtain ⟨i1,ek⟩:=tab_k x hx i hi (by rw [hc,h])
   obtain ⟨v,ds0,eds,hv0,hv1⟩:∃ (v:Int) (ds0:List PyData),ds=ds0++[.int v]/\0<=v/\v<=6:=by
    have hne:ds≠[]:=λ e=>by rw [e] at hl; simp at hl; omega
    have hg:=hp.part (i - 1) .c (ds.getLast hne) ek (by rw [<- hl,List.getElem?_eq_getElem (by omega)]; rw [List.getLast_eq_getElem])
    rcases hg with ⟨h',_⟩ | ⟨h',_⟩ | ⟨_,_,v,ev,h0,h1⟩
    ·cases h'
    ·cases h'
    ·exact ⟨v,ds.dropLast,by rw [<- ev]; exact (List.dropLast_concat_getLast hne).symm,h0,h1⟩
   have ex:ixW M' (.m a) (-1)=some (W.d (.int v)):=by
    simp only [ixW,hm]
    rw [eds]
    have:=atI_last (((.str x.1:PyData) :: ds0).map W.d) (W.d (.int v))
    simpa using this
   refine ⟨_,rfl,a,_,rfl,hm,_,rfl,_,rfl,_,rfl,-1,W.d (.int v),rfl,ex,rfl,_,_,rfl,rfl,_,_,rfl,p,0,_,rfl,b,by omega,?_,?_,λ n M2 n0 n1 b2 f2=>?_⟩
   ·split <;> omega
   ·split <;> omega
   ·refine app M2 _ b2 (Fr.of f2) (.inr (.inr ⟨by rw [h]; decide,by rw [h]; decide,n,rfl,?_,?_⟩)) (λ _ i' ei=>?_) (λ _=>by omega)
    ·rw [h]
     exact n0
    ·rw [h]
     show n<=5
     split at n1 <;> omega
    ·cases ei
     refine ⟨v,by rw [eds]; simp,?_⟩
     unfold kMax
     split at n1 <;> split <;> omega
  have nk:c ≠ .k:=of_decide_eq_false h
  refine ⟨_,rfl,a,_,rfl,hm,_,rfl,_,rfl,p,c,rfl,nk,b,λ d' M2 hv b2 f2=>?_⟩
  exact app M2 _ b2 f2 hv (λ h=>absurd h nk) (λ h=>absurd h nk)
 ·rintro τ M' ⟨ds,b,f,hm,hl,hp,y1,rfl⟩
  rw [List.length_map] at hl
  exact ⟨_,rfl,_,(.str x.1 :: ds),rfl,.m hm,k x hx ds M' hl hp b f⟩
noncomputable def numT (i:Int):Str:=Str.ofString (toString i)
noncomputable def dtx:PyData->Str
 | .str y=>y
 | .int i=>numT i
 | _ => ""
noncomputable def txD (x:Str×Str×List Cd)(ds:List PyData):Str:=Txt.join " " (x.1 :: ds.map dtx)
theorem join_snoc (sep y0 y:Str)(ys:List Str):Txt.join sep ((y0 :: ys)++[y])=Txt.join sep (y0 :: ys)++sep++y:=by
 have e:∀ zs:List Str,(Txt.join sep (y0 :: zs)).cps=zs.foldl (λ acc p=>acc++sep.cps++p.cps) y0.cps:=λ zs=>rfl
 have e2:(Txt.join sep (y0 :: (ys++[y]))).cps=(Txt.join sep (y0 :: ys)++sep++y).cps:=by
  rw [e,List.foldl_append]
  show _=((Txt.join sep (y0 :: ys)).cps++sep.cps)++y.cps
  rw [e]
  rfl
 cases h1:Txt.join sep (y0 :: (ys++[y])) with
 | mk a =>
  cases h2:Txt.join sep (y0 :: ys)++sep++y with
  | mk b =>
   rw [h1,h2] at e2
   have e3:a=b:=e2
   rw [List.cons_append,h1,e3]
theorem nums_small:∀ n < 21,(numT ((n:Nat):Int)).length<=2/\1<=(numT ((n:Nat):Int)).length/\ascB (numT ((n:Nat):Int))=true/\(32 ∉ (numT ((n:Nat):Int)).cps.toList):=by decide +kernel
theorem cdH_20 (c:Cd):cdH c<=20:=by cases c <;> decide
theorem sorts_wd:∀ y∈sorts,wd y=true:=by decide +kernel
theorem small_32:∀ c,smallB c=true->c≠32:=λ c h e=>by subst e; revert h; decide
theorem wd_32 {z:Str}(h:wd z=true):32 ∉ z.cps.toList:=λ hm=>small_32 32 (wd_all h 32 hm) rfl
theorem vp_tx {c:Cd}{d:PyData}(h:Vp c d):(dtx d).length<=8/\ascB (dtx d)=true/\32 ∉ (dtx d).cps.toList:=by
 rcases h with ⟨_,y,rfl,hy⟩ | ⟨_,y,rfl,hy⟩ | ⟨h1,h2,i,rfl,i0,i1⟩
 ·exact ⟨(wd_len hy).2,wd_asc hy,wd_32 hy⟩
 ·have hy:=sorts_wd y hy
  exact ⟨(wd_len hy).2,wd_asc hy,wd_32 hy⟩
 ·have c0:=(cd_lh c h1 h2).1
  have c1:=cdH_20 c
  obtain ⟨n,rfl⟩:=Int.eq_ofNat_of_zero_le (show 0<=i by omega)
  obtain ⟨a,_,b,d'⟩:=nums_small n (by omega)
  exact ⟨by show (numT (n:Int)).length<=8; omega,b,d'⟩
theorem vd_all {cs:List Cd}{ds:List PyData}(h:Vd cs ds)(hl:ds.length=cs.length){d:PyData}(hd:d∈ds):∃ c,Vp c d:=by
 obtain ⟨j,hj,e⟩:=List.mem_iff_getElem.mp hd
 exact ⟨cs[j]'(by omega),h.part j _ d (List.getElem?_eq_getElem (by omega)) (by rw [<- e]; exact List.getElem?_eq_getElem hj)⟩
theorem sum8:∀ (ys:List Str),(∀ y∈ys,y.length<=8)->(ys.map (·.length)).sum<=8 * ys.length
 | [],_=>by simp
 | y :: ys,h=>by
  have h1:=h y (by simp)
  have h2:=sum8 ys λ z hz=>h z (by simp [hz])
  simp only [List.map_cons,List.sum_cons,List.length_cons]
  omega
theorem tail_of (z:Str)(ds:List PyData):slW (.d (dd z ds)) (some 1) none=some (.d (.tuple ds)):=by
 have e1:HT.sIx (ds.length+1) 0 (some 1)=1:=by
  simp only [HT.sIx]
  split <;> omega
 have e2:HT.sIx (ds.length+1) (ds.length+1) none=ds.length+1:=rfl
 simp only [slW,dd,wholeD,D.cutD,List.length_cons,e1,e2]
 simp
theorem tx_len {x:Str×Str×List Cd}{ds:List PyData}(hx:x∈tabS)(hl:ds.length<=x.2.2.length)(hv:Vd x.2.2 ds):(txD x ds).length<=100:=by
 obtain ⟨n6,n1⟩:=tab_len x hx
 have hw:=tab_word x hx
 have h:=StrLaws.join_length_le " " (x.1 :: ds.map dtx)
 have e1:(" " : Str).length=1:=by decide +kernel
 have hs:=sum8 (x.1 :: ds.map dtx) λ y hy=>by
  rcases List.mem_cons.mp hy with rfl | hy
  ·exact (wd_len hw).2
  ·obtain ⟨d,hd,rfl⟩:=List.mem_map.mp hy
   obtain ⟨j,hj,e⟩:=List.mem_iff_getElem.mp hd
   exact (vp_tx (hv.part j (x.2.2[j]'(by omega)) d (List.getElem?_eq_getElem (by omega)) (by rw [<- e]; exact List.getElem?_eq_getElem hj))).1
 have eg:txD x ds=Str.join " " (x.1 :: ds.map dtx):=StrLaws.glued_eq_join " " _
 rw [eg]
 rw [e1] at h
 simp only [List.length_cons,List.length_map] at h hs
 omega
theorem Vd.take {cs:List Cd}{ds:List PyData}(h:Vd cs ds)(n:Nat):Vd cs (ds.take n):=by
 have g:∀ (j:Nat) d,(ds.take n)[j]? = some d->j < n/\ds[j]? = some d:=λ j d e=>by
  have hlt:=(List.getElem?_eq_some_iff.mp e).1
  rw [List.length_take] at hlt
  rw [List.getElem?_take_of_lt (by omega)] at e
  exact ⟨by omega,e⟩
 refine ⟨λ j c d e1 e2=>h.part j c d e1 (g j d e2).2,λ j e1 i e2=>?_⟩
 obtain ⟨hj,e3⟩:=g j _ e2
 obtain ⟨a,ea,hi⟩:=h.keep j e1 i e3
 exact ⟨a,by rw [List.getElem?_take_of_lt (by omega)]; exact ea,hi⟩
theorem tx_take {x:Str×Str×List Cd}{ds:List PyData}{i:Nat}{d:PyData}(h:ds[i]? = some d):txD x (ds.take (i+1))=txD x (ds.take i) ++ " " ++ dtx d:=by
 unfold txD
 rw [List.take_succ,h]
 simp only [Option.toList_some,List.map_append,List.map_cons,List.map_nil]
 exact join_snoc " " x.1 (dtx d) ((ds.take i).map dtx)
theorem apart {c:Nat}:∀ {a b r q:List Nat},c ∉ a->c ∉ b->a++c :: r=b++c :: q->a=b/\r=q
 | [],[],r,q,_,_,h=>⟨rfl,(List.cons.inj h).2⟩
 | [],y :: b,r,q,_,hb,h=>absurd (by rw [(List.cons.inj h).1]; simp) hb
 | x :: a,[],r,q,ha,_,h=>absurd (by rw [<- (List.cons.inj h).1]; simp) ha
 | x :: a,y :: b,r,q,ha,hb,h=>by
  obtain ⟨e1,e2⟩:=List.cons.inj h
  obtain ⟨e3,e4⟩:=apart (λ z=>ha (by simp [z])) (λ z=>hb (by simp [z])) e2
  exact ⟨by rw [e1,e3],e4⟩
theorem str_ext {x y:Str}(h:x.cps.toList=y.cps.toList):x=y:=by
 cases x with
 | mk a =>
  cases y with
  | mk b=>exact congrArg Str.mk (Array.toList_inj.mp h)
theorem join_cons {c:Nat}(x y:Str)(r:List Str):(Str.join ⟨#[c]⟩ (x :: y :: r)).cps.toList=x.cps.toList++c :: (Str.join ⟨#[c]⟩ (y :: r)).cps.toList:=by
 show ((x.cps ++ #[c])++(Str.join ⟨#[c]⟩ (y :: r)).cps).toList=_
 simp
theorem join_inj {c:Nat}:∀ {l q:List Str},l≠[]->q≠[]->(∀ p∈l,c ∉ p.cps.toList)->(∀ p∈q,c ∉ p.cps.toList)->(Str.join ⟨#[c]⟩ l).cps.toList=(Str.join ⟨#[c]⟩ q).cps.toList->l=q
 | [],_,h,_,_,_,_=>absurd rfl h
 | _,[],_,h,_,_,_=>absurd rfl h
 | [x],[y],_,_,_,_,e=>by rw [str_ext (x:=x) (y:=y) e]
 | [x],y :: y2 :: r,_,_,h1,_,e=>by
  rw [join_cons] at e
  exact absurd (by show c∈(Str.join ⟨#[c]⟩ [x]).cps.toList; rw [e]; simp) (h1 x (by simp))
 | x :: x2 :: r,[y],_,_,_,h2,e=>by
  rw [join_cons] at e
  exact absurd (by show c∈(Str.join ⟨#[c]⟩ [y]).cps.toList; rw [<- e]; simp) (h2 y (by simp))
 | x :: x2 :: r,y :: y2 :: r',_,_,h1,h2,e=>by
  rw [join_cons,join_cons] at e
  obtain ⟨e1,e2⟩:=apart (h1 x (by simp)) (h2 y (by simp)) e
  rw [str_ext e1,join_inj (l:=x2 :: r) (q:=y2 :: r') (by simp) (by simp) (λ p hp=>h1 p (by simp [hp])) (λ p hp=>h2 p (by simp [hp])) e2]
theorem six_len:∀ z∈six,z.length<=8:=by decide +kernel
theorem pt_ok {c:Cd}{d:PyData}(h:Pt c d):okD 1 d=true/\big d<=2000:=by
 rcases h with ⟨_,y,rfl,hy⟩ | ⟨_,y,rfl,hy⟩ | ⟨_,_,i,rfl,h0,h1⟩
 ·have:=(wd_len hy).2
  exact ⟨by simp only [okD]; exact wd_asc hy,by simp only [big]; omega⟩
 ·have:=six_len y hy
  exact ⟨by simp only [okD]; exact six_asc y hy,by simp only [big]; omega⟩
 ·exact ⟨by simp only [okD] <;> (first | rfl | simp [small] | (simp only [decide_eq_true_eq]; omega) | skip),by simp only [big]; omega⟩
theorem dd_ok {x:Str×Str×List Cd}{ds:List PyData}(hx:x∈tabS)(hl:ds.length=x.2.2.length)(hp:Pts x.2.2 ds):okD 2 (dd x.1 ds)=true/\big (dd x.1 ds)<=1000000:=by
 obtain ⟨n6,n1⟩:=tab_len x hx
 have hw:=tab_word x hx
 have h8:=(wd_len hw).2
 have each:∀ d∈(.str x.1:PyData) :: ds,okD 1 d=true/\big d<=2000:=by
  intro d hd
  rcases List.mem_cons.mp hd with rfl | hd
  ·exact ⟨by simp only [okD]; exact wd_asc hw,by simp only [big]; omega⟩
  ·obtain ⟨j,hj,e⟩:=List.mem_iff_getElem.mp hd
   exact pt_ok (hp j (x.2.2[j]'(by omega)) d (List.getElem?_eq_getElem (by omega)) (by rw [<- e]; exact List.getElem?_eq_getElem hj))
 refine ⟨by simp only [dd,okD]; exact okA_of λ d hd=>(each d hd).1,?_⟩
 have:=bigA_le (c:=2000) λ d hd=>(each d hd).2
 simp only [dd,big]
 simp only [List.length_cons] at this
 omega
theorem tx_asc {x:Str×Str×List Cd}{ds:List PyData}(hx:x∈tabS)(hl:ds.length=x.2.2.length)(hv:Vd x.2.2 ds):ascB (txD x ds)=true:=by
 refine asc_b (join_asc (asc_dec (by decide +kernel)) λ y hy=>?_).1
 rcases List.mem_cons.mp hy with rfl | hy
 ·exact asc_of_b (wd_asc (tab_word x hx))
 ·obtain ⟨d,hd,rfl⟩:=List.mem_map.mp hy
  obtain ⟨c,hc⟩:=vd_all hv hl hd
  exact asc_of_b (vp_tx hc).2.1
theorem split_joinC {c:Nat}{l:List Str}(h0:l≠[])(h:∀ p∈l,c ∉ p.cps.toList):Txt.split (Txt.join ⟨#[c]⟩ l) ⟨#[c]⟩=l:=by
 refine join_inj ?_ h0 (StrLaws.split_free _ c) h ?_
 ·intro e
  have:=split_pos (Txt.join ⟨#[c]⟩ l) ⟨#[c]⟩
  rw [e] at this
  simp at this
 ·rw [StrLaws.join_split]
  show (Builtin.Str.glued ⟨#[c]⟩ l).cps.toList=_
  rw [StrLaws.glued_eq_join]
theorem sp32:(" " : Str)=⟨#[32]⟩:=by decide +kernel
theorem split_join {l:List Str}(h0:l≠[])(h:∀ p∈l,32 ∉ p.cps.toList):Txt.split (Txt.join " " l) " " = l:=by
 rw [sp32]
 exact split_joinC h0 h
theorem tx_split {x:Str×Str×List Cd}{ds:List PyData}(hx:x∈tabS)(hl:ds.length=x.2.2.length)(hv:Vd x.2.2 ds):Txt.split (txD x ds) " " = x.1 :: ds.map dtx :=
 split_join (by simp) λ p hp=>by
  rcases List.mem_cons.mp hp with rfl | hp
  ·exact wd_32 (tab_word x hx)
  ·obtain ⟨d,hd,rfl⟩:=List.mem_map.mp hp
   obtain ⟨c,hc⟩:=vd_all hv hl hd
   exact (vp_tx hc).2.2
noncomputable def digS:Str := "0123456789"
noncomputable def digT (n:Nat):Str:=⟨#[48+n]⟩
theorem dig_at {M:MH}{n:Nat}(h:n < 10):ixW M (.d (.str "0123456789")) (n:Int)=some (.d (.str (digT n))):=by
 have e:∀ n < 10,digS.cps.toList[n]? = some (48+n):=by decide +kernel
 show (atI digS.cps.toList (n:Int)).map (λ c=>W.d (.str ⟨#[c]⟩))=_
 rw [atI_nat (xs:=digS.cps.toList) (e n h)]
 rfl
theorem fig1:∀ n < 10,digT n ++ "" = numT ((n:Nat):Int):=by decide +kernel
theorem fig2:∀ n < 21,10<=n->digT (n / 10)++(digT (n % 10) ++ "")=numT ((n:Nat):Int):=by decide +kernel
theorem fig2a:∀ n < 10,(digT n++("" : Str)).length=1:=by decide +kernel
theorem dig_len:∀ n:Nat,(digT n).length=1:=λ n=>rfl
noncomputable def sp_l_figures:SpD:=λ ws M Q=>∃ n:Nat,n < 21/\ws=[.d (.int n)]/\Q (.d (.str (numT n))) M
theorem len_l_figures:∀ ws M Q,sp_l_figures ws M Q->ws.length=1:=by rintro ws M Q ⟨n,_,rfl,_⟩; rfl
theorem read_l_figures:∀ ws M Q,sp_l_figures ws M Q->t_l_figures { nx:=λ _ M'=>Q (.d .none) M',rt:=Q } (startD N_l_figures ws) M:=by
 rintro ws M Q ⟨n,hn,rfl,k⟩
 have s16':=s16
 have e0:("" : Str).length=0:=by decide +kernel
 refine ⟨λ m τ M'=>M'=M/\((m=1/\10<=n/\τ=[some (.d (.int (n:Int))),some (.d (.str ""))])\/(m=0/\10<=n/\τ=[some (.d (.int ((n / 10:Nat):Int))),some (.d (.str (digT (n % 10) ++ "")))])\/(m=0/\n < 10/\τ=[some (.d (.int (n:Int))),some (.d (.str ""))])),?_,?_⟩
 ·by_cases h:10<=n
  ·exact ⟨1,rfl,.inl ⟨rfl,h,rfl⟩⟩
  ·exact ⟨0,rfl,.inr (.inr ⟨rfl,by omega,rfl⟩)⟩
 ·rintro m τ M' ⟨rfl,⟨rfl,h,rfl⟩ | ⟨rfl,h,rfl⟩ | ⟨rfl,h,rfl⟩⟩
  ·refine ⟨_,rfl,_,_,rfl,rfl,_,rfl,ite_y (decide_eq_true (show (n:Int) > 9 by omega)) ?_⟩
   refine ⟨_,rfl,_,_,rfl,rfl,(by decide:(0:Int) < 10),?_⟩
   have em:((n:Int) % 10)=((n % 10:Nat):Int):=by omega
   have ed:((n:Int) / 10)=((n / 10:Nat):Int):=by omega
   refine ⟨_,_,rfl,by rw [em]; exact dig_at (by omega),by decide +kernel,_,rfl,.inr ⟨_,_,rfl,rfl,by rw [dig_len,e0]; omega,?_⟩⟩
   refine ⟨_,rfl,_,_,rfl,rfl,⟨by decide,by decide⟩,0,by omega,rfl,.inr (.inl ⟨rfl,h,?_⟩)⟩
   show [some (W.d (.int ((n:Int) / 10))),_]=_
   rw [ed]
  ·refine ⟨_,rfl,_,_,rfl,rfl,_,rfl,ite_n (decide_eq_false (show ¬ ((n / 10:Nat):Int) > 9 by omega)) ?_⟩
   refine ⟨_,rfl,_,_,rfl,dig_at (by omega),by decide +kernel,_,rfl,.inr ⟨_,_,rfl,rfl,?_,?_⟩⟩
   ·rw [dig_len,fig2a _ (by omega)]
    omega
   ·rw [fig2 n hn h]
    exact k
  ·refine ⟨_,rfl,_,_,rfl,rfl,_,rfl,ite_n (decide_eq_false (show ¬ (n:Int) > 9 by omega)) ?_⟩
   refine ⟨_,rfl,_,_,rfl,dig_at h,by decide +kernel,_,rfl,.inr ⟨_,_,rfl,rfl,?_,?_⟩⟩
   ·rw [dig_len,e0]
    omega
   ·rw [fig1 n h]
    exact k
noncomputable def sp_l_written:SpD:=λ ws M Q=>∃ x∈tabS,∃ ds:List PyData,ws=[.d (dd x.1 ds)]/\ds.length=x.2.2.length/\Vd x.2.2 ds/\Q (.d (.str (txD x ds))) M
theorem len_l_written:∀ ws M Q,sp_l_written ws M Q->ws.length=1:=by rintro ws M Q ⟨x,_,ds,rfl,_⟩; rfl
theorem read_l_written:∀ ws M Q,sp_l_written ws M Q->t_l_written sp_l_figures { nx:=λ _ M'=>Q (.d .none) M',rt:=Q } (startD N_l_written ws) M:=by
 rintro ws M Q ⟨x,hx,ds,rfl,hl,hv,k⟩
 have s16':=s16
 have e1:(" " : Str).length=1:=by decide +kernel
 refine ⟨_,rfl,_,_,rfl,tup0,rfl,?_⟩
 refine ⟨_,rfl,_,rfl,_,tail_of x.1 ds,rfl,_,rfl,?_⟩
 refine ⟨λ i τ M'=>M'=M/\∃ y,τ=[some (.d (dd x.1 ds)),some (.d (.str (txD x (ds.take i)))),y],⟨rfl,_,rfl⟩,?_,?_⟩
 ·rintro i w τ M' hw ⟨rfl,y,rfl⟩
  obtain ⟨d,hd,rfl⟩:=map_at hw
  have hi:i < ds.length:=(List.getElem?_eq_some_iff.mp hd).1
  obtain ⟨c,hc⟩:=vd_all hv hl (List.mem_of_getElem? hd)
  have l1:=tx_len (ds:=ds.take i) hx (by rw [List.length_take]; omega) (hv.take i)
  have l2:=(vp_tx hc).1
  have l3:(txD x (ds.take i) ++ " ").length=(txD x (ds.take i)).length+1:=by rw [Str.length_append,e1]
  have fin:∀ t,t=txD x (ds.take i) ++ " " ++ dtx d->(M'=M'/\∃ y,[some (W.d (dd x.1 ds)),some (.d (.str t)),some (W.d d)]=[some (.d (dd x.1 ds)),some (.d (.str (txD x (ds.take (i+1))))),y]):=λ t ht=>⟨rfl,some (W.d d),by rw [tx_take hd,ht]⟩
  refine ⟨_,rfl,_,_,_,rfl,.d,.str,_,rfl,?_⟩
  rcases hc with ⟨_,z,rfl,hz⟩ | ⟨_,z,rfl,hz⟩ | ⟨h1,h2,v,rfl,v0,v1⟩
  ·refine ite_y (isi_s z) ⟨_,rfl,.inr ⟨_,_,rfl,rfl,by rw [e1]; omega,_,rfl,.inr ⟨_,_,rfl,rfl,?_,fin _ rfl⟩⟩⟩
   show (txD x (ds.take i) ++ " ").length+z.length<=sizeLine
   have l2':z.length<=8:=l2
   omega
  ·refine ite_y (isi_s z) ⟨_,rfl,.inr ⟨_,_,rfl,rfl,by rw [e1]; omega,_,rfl,.inr ⟨_,_,rfl,rfl,?_,fin _ rfl⟩⟩⟩
   show (txD x (ds.take i) ++ " ").length+z.length<=sizeLine
   have l2':z.length<=8:=l2
   omega
  ·have c0:=(cd_lh c h1 h2).1
   have c1:=cdH_20 c
   obtain ⟨n,rfl⟩:=Int.eq_ofNat_of_zero_le (show 0<=v by omega)
   refine ite_n (by simp [isiD,tyD]) ⟨_,rfl,.inr ⟨_,_,rfl,rfl,by rw [e1]; omega,_,rfl,n,by omega,rfl,.inr ⟨_,_,rfl,rfl,?_,fin _ rfl⟩⟩⟩
   show (txD x (ds.take i) ++ " ").length+(numT n).length<=sizeLine
   have l2':(numT (n:Int)).length<=8:=l2
   omega
 ·rintro τ M' ⟨rfl,y,rfl⟩
  rw [List.length_map,List.take_length]
  exact ⟨_,rfl,k⟩
theorem join_mem {c:Nat}:∀ {l:List Str} {p:Str},p∈l->p.length<=(Str.join ⟨#[c]⟩ l).length/\∀ x∈p.cps.toList,x∈(Str.join ⟨#[c]⟩ l).cps.toList
 | [],p,h=>nomatch h
 | [y],p,h=>by
  rw [List.mem_singleton.mp h]
  exact ⟨Nat.le_refl _,λ x hx=>hx⟩
 | y :: y2 :: r,p,h=>by
  have e:=join_cons (c:=c) y y2 r
  have el:(Str.join ⟨#[c]⟩ (y :: y2 :: r)).length=y.length+1+(Str.join ⟨#[c]⟩ (y2 :: r)).length:=by
   rw [<- str_len,e,<- str_len y,<- str_len (Str.join _ (y2 :: r))]
   simp
   omega
  rcases List.mem_cons.mp h with rfl | h
  ·exact ⟨by omega,λ x hx=>by rw [e]; simp [hx]⟩
  ·obtain ⟨h1,h2⟩:=join_mem (c:=c) h
   exact ⟨by omega,λ x hx=>by rw [e]; simp [h2 x hx]⟩
theorem part_of {z p:Str}{c:Nat}(h:p∈Txt.split z ⟨#[c]⟩):p.length<=z.length/\(ascB z=true->ascB p=true):=by
 obtain ⟨h1,h2⟩:=join_mem (c:=c) h
 rw [StrLaws.join_split] at h1 h2
 exact ⟨h1,λ ha=>asc_b λ x hx=>asc_of_b ha x (h2 x hx)⟩
noncomputable def digB (c:Nat):Bool:=decide (48<=c) && decide (c<=57)
theorem dig_in:∀ c < 128,inS ⟨#[c]⟩ "0123456789" = digB c:=by decide +kernel
noncomputable def noughtB (y:Str):Bool:=decide ((⟨#[y.cps.toList.headD 0]⟩:Str) = "0") && !decide (y = "0")
noncomputable def figOk (y:Str):Bool:=decide (1<=y.length) && (decide (y.length<=10) && (y.cps.toList.all digB && !noughtB y))
noncomputable def rn (y:Str):PyData:=if figOk y=true then .int ((NumText.digitsVal y.cps.toList:Nat):Int) else .none
theorem all_dig {cs:List Nat}(h:cs.all digB=true):NumText.AllDigits cs:=λ c hc=>by
 have:=List.all_eq_true.mp h c hc
 simpa [digB] using this
noncomputable def sp_read_number:SpD:=λ ws M Q=>∃ y:Str,ws=[.d (.str y)]/\ascB y=true/\y.length<=100000/\Q (.d (rn y)) M
theorem len_read_number:∀ ws M Q,sp_read_number ws M Q->ws.length=1:=by rintro ws M Q ⟨y,rfl,_⟩; rfl
theorem read_read_number:∀ ws M Q,sp_read_number ws M Q->t_read_number { nx:=λ _ M'=>Q (.d .none) M',rt:=Q } (startD N_read_number ws) M:=by
 rintro ws M Q ⟨y,rfl,ha,hl,k⟩
 have s16':=s16
 have hfit:fitW (.d (.str y))=true:=decide_eq_true (by omega)
 have no:figOk y=false->Q (.d .none) M:=λ h=>by
  unfold rn at k
  rw [h] at k
  exact k
 refine ⟨_,rfl,_,_,rfl,rfl,hfit,.inl ⟨_,_,rfl,rfl,_,rfl,?_⟩⟩
 by_cases h1:1<=y.length
 ·refine ite_y (decide_eq_true (show (1:Int)<=(y.length:Nat) by omega)) (.inl ⟨_,_,rfl,rfl,_,rfl,?_⟩)
  by_cases h2:y.length<=10
  ·refine ite_n (by rw [decide_eq_true (show ((y.length:Nat):Int)<=10 by omega)]; rfl) ⟨_,rfl,_,rfl,?_⟩
   dsimp only
   refine lc_rows y.cps.toList (λ c=>W.d (.str ⟨#[c]⟩)) (λ c=>.bool (digB c)) (λ τ=>∃ x,τ=[x]) (by rw [str_len]; omega) ⟨_,rfl⟩ (λ c hc τ hτ R h=>?_) (λ τ=>?_)
   ·obtain ⟨x,rfl⟩:=hτ
    have go:=h [some (.d (.str ⟨#[c]⟩))] ⟨_,rfl⟩
    rw [<- dig_in c (asc_of_b ha c hc)] at go
    exact ⟨_,rfl,_,_,rfl,rfl,_,rfl,go⟩
   ·refine ⟨y.cps.toList.map digB,by rw [List.map_map]; rfl,_,rfl,?_⟩
    have eA:(y.cps.toList.map digB).all id=y.cps.toList.all digB:=by rw [List.all_map]; rfl
    rw [eA]
    cases hA:y.cps.toList.all digB with
    | false =>
     refine iteT (no ?_)
     unfold figOk
     rw [hA]
     simp
    | true =>
     refine iteF ?_
     obtain ⟨c,r,ec⟩:∃ c r,y.cps.toList=c :: r:=by
      cases hq:y.cps.toList with
      | nil =>
       have:=str_len y
       rw [hq] at this
       simp at this
       omega
      | cons c r=>exact ⟨c,r,rfl⟩
     have e0:ixW M (.d (.str y)) 0=some (.d (.str ⟨#[c]⟩)):=by
      show (atI y.cps.toList ((0:Nat):Int)).map (λ c=>W.d (.str ⟨#[c]⟩))=_
      rw [atI_nat (v:=c) (by rw [ec]; rfl)]
      rfl
     have eh:y.cps.toList.headD 0=c:=by rw [ec]; rfl
     refine ⟨_,rfl,_,_,rfl,e0,hfit,_,_,.d,.d,rfl,_,rfl,?_⟩
     rw [eqv_str']
     have last:noughtB y=false->rdIntS [W.d (PyData.str y)] M Q:=λ hn=>by
      have hf:figOk y=true:=by
       unfold figOk
       rw [hA,hn,decide_eq_true h1,decide_eq_true h2]
       rfl
      unfold rn at k
      rw [if_pos hf] at k
      exact ⟨_,_,rfl,PySem.intText_digits (all_dig hA) (by rw [ec]; simp) (by omega),by omega,k⟩
     have bad:noughtB y=true->Q (.d .none) M:=λ hn=>no (by unfold figOk; rw [hn]; simp)
     unfold noughtB at last bad
     rw [eh] at last bad
     refine ite_b (λ h=>?_) (λ h=>?_)
     ·refine ⟨_,rfl,_,_,.d,.d,rfl,_,rfl,?_⟩
      rw [eqv_str']
      rw [h,Bool.true_and] at last bad
      exact ite_b (λ h=>bad h) (λ h=>⟨_,rfl,last h⟩)
     ·rw [h,Bool.false_and] at last
      exact iteF ⟨_,rfl,last rfl⟩
  ·refine ite_y (by rw [decide_eq_false (show ¬ ((y.length:Nat):Int)<=10 by omega)]; rfl) (no ?_)
   unfold figOk
   rw [decide_eq_false h2]
   simp
 ·refine ite_n (decide_eq_false (show ¬ (1:Int)<=(y.length:Nat) by omega)) ?_
  refine ⟨_,rfl,ite_y rfl (no ?_)⟩
  unfold figOk
  rw [decide_eq_false h1]
  simp
theorem rn_num0:∀ n < 21,figOk (numT ((n:Nat):Int))=true/\NumText.digitsVal (numT ((n:Nat):Int)).cps.toList=n:=by decide +kernel
theorem rn_num {n:Nat}(h:n < 21):rn (numT (n:Int))=.int (n:Int):=by
 obtain ⟨h1,h2⟩:=rn_num0 n h
 unfold rn
 rw [if_pos h1,h2]
theorem rn_back {y:Str}{i:Int}(h:rn y=.int i):y=numT i:=by
 unfold rn at h
 split at h
 ·rename_i hf
  injection h with h
  subst h
  unfold figOk at hf
  simp only [Bool.and_eq_true,decide_eq_true_eq,Bool.not_eq_true'] at hf
  obtain ⟨h1,h2,h3,h4⟩:=hf
  have hd:=all_dig h3
  refine str_ext ?_
  unfold numT
  rw [PySem.W.KIN.signs_num]
  obtain ⟨n,en⟩:∃ n,y.cps.toList.length=n+1:=⟨y.length - 1,by rw [str_len]; omega⟩
  rw [NumText.toDigits_digitsVal n _ en hd ?_,List.map_map]
  ·refine (List.map_id _).symm.trans (List.map_congr_left λ c hc=>?_)
   have:=hd c hc
   have q:∀ c < 58,(Char.ofNat c).toNat=c:=by decide
   exact (q c (by omega)).symm
  ·cases hq:y.cps.toList with
   | nil=>rw [hq] at en; simp at en
   | cons c r =>
    have hc:=hd c (by rw [hq]; simp)
    by_cases e:c=48
    ·unfold noughtB at h4
     rw [hq] at h4
     have e0:("0" : Str)=⟨#[48]⟩:=by decide +kernel
     have ey:y = "0" := by
      subst e
      have:decide ((⟨#[(48 :: r).headD 0]⟩:Str) = "0")=true:=decide_eq_true (by rw [e0]; rfl)
      rw [this,Bool.true_and] at h4
      simpa using h4
     rw [ey] at en
     have:("0" : Str).cps.toList.length=1:=by decide +kernel
     exact .inl (by omega)
    ·exact .inr ⟨c,r,rfl,by omega⟩
 ·cases h
theorem in_bounds (c:Cd):(lookS g_BOUNDS (cdF c)).isSome=(decide (c ≠ .w) && decide (c ≠ .e)):=by cases c <;> decide +kernel
noncomputable def rp (c:Cd)(y:Str):PyData:=if (decide (c ≠ .w) && decide (c ≠ .e))=true then rn y else .str y
noncomputable def sp_read_part:SpD:=λ ws M Q=>∃ (c:Cd) (y:Str),ws=[.d (.str (cdF c)),.d (.str y)]/\ascB y=true/\y.length<=100000/\Q (.d (rp c y)) M
theorem len_read_part:∀ ws M Q,sp_read_part ws M Q->ws.length=2:=by rintro ws M Q ⟨c,d,rfl,_⟩; rfl
theorem read_read_part:∀ ws M Q,sp_read_part ws M Q->t_read_part sp_read_number { nx:=λ _ M'=>Q (.d .none) M',rt:=Q } (startD N_read_part ws) M:=by
 rintro ws M Q ⟨c,y,rfl,ha,hl,k⟩
 refine ⟨_,rfl,_,rfl,_,rfl,?_⟩
 rw [in_bounds c]
 unfold rp at k
 refine ite_b (λ h=>?_) (λ h=>?_)
 ·rw [h,if_pos rfl] at k
  exact ⟨_,rfl,y,rfl,ha,hl,k⟩
 ·rw [h,if_neg Bool.false_ne_true] at k
  exact ⟨_,rfl,k⟩
theorem rn_fl (y:Str):Fl (rn y):=by
 unfold rn
 split
 ·exact .inr (.inl ⟨_,rfl⟩)
 ·exact .inr (.inr rfl)
theorem rp_fl {c:Cd}{y:Str}(ha:ascB y=true)(hl:y.length<=100000):Fl (rp c y):=by
 unfold rp
 split
 ·exact rn_fl y
 ·exact .inl ⟨y,rfl,ha,hl⟩
noncomputable def tabF (y:Str):Option (Str×Str×List Cd):=tabS.find? λ x=>decide (x.1=y)
theorem parts_tab:g_PARTS=tabS.map λ x=>(x.1,.tuple (formsD x)):=rfl
theorem look_tab (y:Str):lookS g_PARTS y=(tabF y).map λ x=>.tuple (formsD x):=by
 rw [parts_tab]
 unfold lookS tabF
 rw [List.find?_map,Option.map_map]
 rfl
theorem tabF_some {y:Str}{x:Str×Str×List Cd}(h:tabF y=some x):x∈tabS/\x.1=y:=by
 unfold tabF at h
 have h2:=List.find?_some h
 exact ⟨List.mem_of_find?_eq_some h,of_decide_eq_true h2⟩
theorem tabF_self:∀ x∈tabS,tabF x.1=some x:=by decide +kernel
noncomputable def rps (cs:List Cd)(ys:List Str):List PyData:=List.zipWith rp cs ys
theorem rps_at {cs:List Cd}{ys:List Str}{j:Nat}{d:PyData}(h:(rps cs ys)[j]? = some d):∃ c y,cs[j]? = some c/\ys[j]? = some y/\d=rp c y:=by
 unfold rps at h
 rw [List.getElem?_zipWith] at h
 split at h
 ·rename_i c y e1 e2
  exact ⟨c,y,e1,e2,(Option.some.inj h).symm⟩
 ·cases h
theorem rps_get {cs:List Cd}{ys:List Str}{j:Nat}{c:Cd}{y:Str}(h1:cs[j]? = some c)(h2:ys[j]? = some y):(rps cs ys)[j]? = some (rp c y):=by
 unfold rps
 rw [List.getElem?_zipWith,h1,h2]
noncomputable def res (z:Str):Option PyData:=match Txt.split z " " with
 | []=>none
 | y0 :: ys=>match tabF y0 with
  | none=>none
  | some x=>if ys.length=x.2.2.length/\deedG x (rps x.2.2 ys)=true then some (dd x.1 (rps x.2.2 ys)) else none
theorem split_cons (z:Str):∃ y0 ys,Txt.split z " " = y0 :: ys:=by
 have:=split_pos z " "
 cases h:Txt.split z " " with
 | nil=>rw [h] at this; simp at this
 | cons y0 ys=>exact ⟨y0,ys,rfl⟩
noncomputable def sp_read_deed:SpX:=λ ws M Q E=>∃ d0:PyData,ws=[.d d0]/\(isiD d0 "str" = false->∀ a,M a=none->E a (updM M a (.exc C_NoText [])))/\(isiD d0 "str" = true->∃ z:Str,d0=.str z/\ascB z=true/\z.length<=50000/\(∀ d,res z=some d->Q (.d d) M)/\(res z=none->∀ a,M a=none->E a (updM M a (.exc C_NoText []))))
theorem len_read_deed:∀ ws M Q E,sp_read_deed ws M Q E->ws.length=1:=by rintro ws M Q E ⟨d0,rfl,_⟩; rfl
theorem cut_tail {α:Type}(z:α)(ys:List α):D.cutD (z :: ys) (some 1) none=ys/\D.cutD (z :: ys) none (some 1)=[z]:=by
 have e1:HT.sIx (ys.length+1) 0 (some 1)=1:=by
  simp only [HT.sIx]
  split <;> omega
 have e2:HT.sIx (ys.length+1) (ys.length+1) none=ys.length+1:=rfl
 have e3:HT.sIx (ys.length+1) (ys.length+1) (some 1)=1:=by
  simp only [HT.sIx]
  split <;> omega
 have e4:HT.sIx (ys.length+1) 0 none=0:=rfl
 constructor
 ·simp only [D.cutD,List.length_cons,e1,e2]
  simp
 ·simp only [D.cutD,List.length_cons,e3,e4]
  simp
theorem read_read_deed:∀ ws M Q E,sp_read_deed ws M Q E->t_read_deed (λ a _ M=>E a M) sp_read_part sp_is_deed { nx:=λ _ M'=>Q (.d .none) M',rt:=Q } (startD N_read_deed ws) M:=by
 rintro ws M Q E ⟨d0,rfl,hodd,hstr⟩
 have s16':=s16
 refine ⟨_,rfl,_,_,_,rfl,.d,.str,_,rfl,?_⟩
 cases hty:isiD d0 "str" with
 | false=>exact iteT ⟨by simp,hodd hty⟩
 | true =>
 obtain ⟨z,rfl,ha,hzl,ky,kn⟩:=hstr hty
 refine iteF ⟨_,rfl,z,rfl, " ",rfl,by decide +kernel,by omega,?_⟩
 obtain ⟨y0,ys,es⟩:=split_cons z
 have hpart:∀ p∈y0 :: ys,p.length<=z.length/\ascB p=true:=λ p hp=>by
  have:=part_of (z:=z) (p:=p) (c:=32) (by rw [<- sp32,es]; exact hp)
  exact ⟨this.1,this.2 ha⟩
 rw [es]
 have hp0:ixW M (.d (.list ((y0 :: ys).map PyData.str))) 0=some (.d (.str y0)):=ix_map (i:=0) (f:=PyData.str) rfl rfl
 refine ⟨_,rfl,_,_,rfl,hp0,rfl,y0,rfl,?_⟩
 rw [look_tab]
 cases ht:tabF y0 with
 | none =>
  refine ⟨_,rfl,rfl,_,rfl,iteT (iteT ⟨by simp,kn ?_⟩)⟩
  unfold res
  rw [es]
  simp only [ht]
 | some x =>
  obtain ⟨hx,ey⟩:=tabF_some ht
  obtain ⟨n6,n1⟩:=tab_len x hx
  have eres:res z=if ys.length=x.2.2.length/\deedG x (rps x.2.2 ys)=true then some (dd x.1 (rps x.2.2 ys)) else none:=by
   unfold res
   rw [es]
   simp only [ht]
  have hfl:(formsD x).length=x.2.2.length:=by simp [formsD]
  have hpl:((y0 :: ys).map PyData.str).length=ys.length+1:=by simp
  refine ⟨_,rfl,rfl,_,rfl,iteF ⟨_,rfl,_,_,rfl,rfl,rfl,_,rfl,_,_,rfl,rfl,rfl,.inl ⟨_,_,rfl,rfl,_,_,.d,.d,rfl,_,rfl,?_⟩⟩⟩
  by_cases hn:ys.length=x.2.2.length
  ·have z2:(!PyData.eqv (.int (((y0 :: ys).map PyData.str).length:Int)) (.int (((formsD x).length:Int)+1)))=false:=by rw [eqv_int',decide_eq_true (by omega)]; rfl
   refine ite_n (c:=!PyData.eqv (.int (((y0 :: ys).map PyData.str).length:Int)) (.int (((formsD x).length:Int)+1))) z2 ?_
   have hc1:slW (.d (.list ((y0 :: ys).map PyData.str))) none (some 1)=some (.d (.list [.str y0])):=by
    simp only [slW,List.map_cons,(cut_tail _ _).2]
   have hc2:slW (.d (.list ((y0 :: ys).map PyData.str))) (some 1) none=some (.d (.list (ys.map PyData.str))):=by
    simp only [slW,List.map_cons,(cut_tail _ _).1]
   refine ⟨_,rfl,_,rfl,_,hc1,rfl,_,rfl,_,rfl,_,rfl,_,hc2,rfl,formsD x,ys.map PyData.str,rfl,?_⟩
   dsimp only
   have hrl:(rps x.2.2 ys).length=ys.length:=by simp [rps,hn]
   have hzl2:(zipW (formsD x) (ys.map PyData.str)).length=(rps x.2.2 ys).length:=by simp [zipW,rps,hfl,hn]
   refine ⟨λ i acc τ M'=>M'=M/\acc=(rps x.2.2 ys).take i/\∃ y1 y2,τ=[y1,y2],⟨rfl,rfl,_,_,rfl⟩,?_,?_⟩
   ·rintro i w acc τ M' hw ⟨rfl,rfl,y1,y2,rfl⟩
    obtain ⟨j,hj,rfl⟩:=map_at hw
    obtain ⟨hlt,hj2⟩:=List.getElem?_eq_some_iff.mp hj
    rw [List.getElem_range] at hj2
    subst hj2
    have hi:i < x.2.2.length:=by simpa [hfl,hn] using hlt
    obtain ⟨c,hc⟩:∃ c,x.2.2[i]? = some c:=⟨_,List.getElem?_eq_getElem hi⟩
    obtain ⟨y,hy⟩:∃ y,ys[i]? = some y:=⟨_,List.getElem?_eq_getElem (by omega)⟩
    have ef:(formsD x).getD i .none=.str (cdF c):=by simp [formsD,List.getD,hc]
    have ed:(ys.map PyData.str).getD i .none=.str y:=by simp [List.getD,hy]
    rw [ef,ed]
    obtain ⟨p1,p2⟩:=hpart y (List.mem_cons_of_mem _ (List.mem_of_getElem? hy))
    refine ⟨by rw [List.length_take]; omega,_,rfl,rfl,_,_,rfl,_,_,rfl,rfl,_,rfl,_,rfl,c,y,rfl,p2,by omega,_,rfl,rfl,?_,_,_,rfl⟩
    rw [List.take_succ,rps_get hc hy]
    rfl
   ·rintro acc τ M' ⟨rfl,rfl,y1,y2,rfl⟩
    rw [hzl2,List.take_length]
    refine ⟨[.str y0],rps x.2.2 ys,.d,.d,by simp; omega,_,_,rfl,.l,?_⟩
    rw [<- ey]
    refine ⟨_,rfl,x,hx,rps x.2.2 ys,rfl,by omega,λ d hd=>?_,_,rfl,?_⟩
    ·obtain ⟨j,hj,e⟩:=List.mem_iff_getElem.mp hd
     obtain ⟨c,y,_,hy,rfl⟩:=rps_at (d:=d) (by rw [<- e]; exact List.getElem?_eq_getElem hj)
     obtain ⟨p1,p2⟩:=hpart y (List.mem_cons_of_mem _ (List.mem_of_getElem? hy))
     exact rp_fl p2 (by omega)
    ·cases hG:deedG x (rps x.2.2 ys) with
     | true =>
      refine iteF ⟨_,rfl,ky _ ?_⟩
      rw [eres,if_pos ⟨hn,hG⟩]
      rfl
     | false =>
      refine iteT ⟨by simp,kn ?_⟩
      rw [eres,if_neg λ h=>by rw [hG] at h; exact absurd h.2 Bool.false_ne_true]
  ·have z2:(!PyData.eqv (.int (((y0 :: ys).map PyData.str).length:Int)) (.int (((formsD x).length:Int)+1)))=true:=by rw [eqv_int',decide_eq_false (by omega)]; rfl
   refine ite_y (c:=!PyData.eqv (.int (((y0 :: ys).map PyData.str).length:Int)) (.int (((formsD x).length:Int)+1))) z2 ⟨by simp,kn ?_⟩
   rw [eres,if_neg λ h=>hn h.1]
theorem deed_true {x:Str×Str×List Cd}{ds:List PyData}(hx:x∈tabS)(hl:ds.length=x.2.2.length)(hv:Vd x.2.2 ds):deedG x ds=true:=by
 unfold deedG
 simp only [Bool.and_eq_true,List.all_eq_true,List.mem_range,Bool.or_eq_true,Bool.not_eq_true',decide_eq_false_iff_not]
 have hp:∀ j < x.2.2.length,pJ x ds j=true:=by
  intro j hj
  have hc:x.2.2[j]? = some x.2.2[j]:=List.getElem?_eq_getElem hj
  have hd:ds[j]? = some (ds[j]'(by omega)):=List.getElem?_eq_getElem (by omega)
  have hp:=hv.part j _ _ hc hd
  have e:pJ x ds j=pG x.2.2[j] (ds[j]'(by omega)):=by simp only [pJ,List.getD,hc,hd,Option.getD_some]
  rw [e]
  rcases hp with ⟨h,z,ez,hz⟩ | ⟨h,z,ez,hz⟩ | ⟨h1,h2,v,ev,v0,v1⟩
  ·rw [h,ez]
   exact hz
  ·rw [h,ez]
   simpa [pG,sortB] using hz
  ·rw [ev]
   simp only [pG,if_neg h1,if_neg h2]
   simp [inB,btw,v0,v1]
 refine ⟨hp,?_⟩
 by_cases hk:Cd.k∈x.2.2
 ·obtain ⟨_,_,c1,c2,c3⟩:=k_is x hx hk
  obtain ⟨i,ei⟩:=pJ_num hl (hp _ (List.getElem?_eq_some_iff.mp c2).1) c2 (by decide) (by decide)
  obtain ⟨a,ea,hi⟩:=hv.keep (kK x) c2 i ei
  have ec:kK x - 1=kC x:=by omega
  rw [ec] at ea
  refine .inr ?_
  have ek:keepB x ds=leK a i:=by simp only [keepB,List.getD,ea,ei,Option.getD_some]
  rw [ek]
  exact decide_eq_true hi
 ·exact .inl hk
theorem rp_tx {c:Cd}{d:PyData}(h:Vp c d):rp c (dtx d)=d:=by
 rcases h with ⟨rfl,z,rfl,hz⟩ | ⟨rfl,z,rfl,hz⟩ | ⟨h1,h2,v,rfl,v0,v1⟩
 ·rfl
 ·rfl
 ·unfold rp
  rw [decide_eq_true h1,decide_eq_true h2,Bool.and_self,if_pos rfl]
  have c0:=(cd_lh c h1 h2).1
  have c1:=cdH_20 c
  obtain ⟨n,rfl⟩:=Int.eq_ofNat_of_zero_le (show 0<=v by omega)
  exact rn_num (by omega)
theorem rps_tx {cs:List Cd}{ds:List PyData}(hl:ds.length=cs.length)(hv:Vd cs ds):rps cs (ds.map dtx)=ds:=by
 refine List.ext_getElem? λ j=>?_
 by_cases hj:j < ds.length
 ·have hd:ds[j]? = some ds[j]:=List.getElem?_eq_getElem hj
  have hc:cs[j]? = some (cs[j]'(by omega)):=List.getElem?_eq_getElem (by omega)
  rw [rps_get (y:=dtx ds[j]) hc (by rw [List.getElem?_map,hd]; rfl),rp_tx (hv.part j _ _ hc hd),hd]
 ·rw [List.getElem?_eq_none (by simp [rps]; omega),List.getElem?_eq_none (by omega)]
theorem res_tx {x:Str×Str×List Cd}{ds:List PyData}(hx:x∈tabS)(hl:ds.length=x.2.2.length)(hv:Vd x.2.2 ds):res (txD x ds)=some (dd x.1 ds):=by
 unfold res
 rw [tx_split hx hl hv]
 simp only [tabF_self x hx,rps_tx hl hv]
 rw [if_pos ⟨by rw [List.length_map]; exact hl,deed_true hx hl hv⟩]
theorem pg_back {c:Cd}{y:Str}(h:pG c (rp c y)=true):Vp c (rp c y)/\dtx (rp c y)=y:=by
 by_cases h1:c=.w
 ·subst h1
  exact ⟨.inl ⟨rfl,y,rfl,h⟩,rfl⟩
 by_cases h2:c=.e
 ·subst h2
  exact ⟨.inr (.inl ⟨rfl,y,rfl,of_decide_eq_true h⟩),rfl⟩
 have e:rp c y=rn y:=by
  unfold rp
  rw [decide_eq_true h1,decide_eq_true h2,Bool.and_self,if_pos rfl]
 rw [e] at h ⊢
 unfold pG at h
 rw [if_neg h1,if_neg h2] at h
 cases hq:rn y with
 | int i =>
  rw [hq] at h
  simp only [inB,btw,Bool.and_eq_true,decide_eq_true_eq] at h
  exact ⟨.inr (.inr ⟨h1,h2,i,rfl,h.1,h.2⟩),(rn_back hq).symm⟩
 | _=>rw [hq] at h; cases h
theorem res_back {z:Str}{d:PyData}(h:res z=some d):∃ x∈tabS,∃ ds:List PyData,d=dd x.1 ds/\ds.length=x.2.2.length/\Vd x.2.2 ds/\z=txD x ds:=by
 obtain ⟨y0,ys,es⟩:=split_cons z
 unfold res at h
 rw [es] at h
 simp only at h
 cases ht:tabF y0 with
 | none=>rw [ht] at h; cases h
 | some x =>
  rw [ht] at h
  simp only at h
  obtain ⟨hx,ey⟩:=tabF_some ht
  split at h
  ·rename_i hh
   obtain ⟨hn,hG⟩:=hh
   injection h with h
   have hrl:(rps x.2.2 ys).length=x.2.2.length:=by simp [rps,hn]
   have hG':=hG
   unfold deedG at hG'
   simp only [Bool.and_eq_true,List.all_eq_true,List.mem_range,Bool.or_eq_true,Bool.not_eq_true',decide_eq_false_iff_not] at hG'
   obtain ⟨hall,hkeep⟩:=hG'
   have each:∀ (j:Nat) c y,x.2.2[j]? = some c->ys[j]? = some y->Vp c (rp c y)/\dtx (rp c y)=y:=λ j c y hc hy=>by
    have hp:=hall j (List.getElem?_eq_some_iff.mp hc).1
    refine pg_back ?_
    have e:pJ x (rps x.2.2 ys) j=pG c (rp c y):=by simp only [pJ,List.getD,hc,rps_get hc hy,Option.getD_some]
    rw [<- e]
    exact hp
   have hv:Vd x.2.2 (rps x.2.2 ys):=by
    refine ⟨λ j c d' hc hd=>?_,λ j hj i hi=>?_⟩
    ·obtain ⟨c',y,hc',hy,rfl⟩:=rps_at hd
     rw [hc] at hc'
     cases hc'
     exact (each j c y hc hy).1
    ·have hk:Cd.k∈x.2.2:=List.mem_of_getElem? hj
     obtain ⟨_,_,c1,c2,c3⟩:=k_is x hx hk
     have ej:j=kK x:=k_one x hx j (List.getElem?_eq_some_iff.mp hj).1 hj
     obtain ⟨a,ea⟩:=pJ_num (by omega) (hall _ (List.getElem?_eq_some_iff.mp c1).1) c1 (by decide) (by decide)
     have ec:j - 1=kC x:=by omega
     refine ⟨a,by rw [ec]; exact ea,?_⟩
     rcases hkeep with hk' | hk'
     ·exact absurd hk hk'
     ·rw [ej] at hi
      have ek:keepB x (rps x.2.2 ys)=leK a i:=by simp only [keepB,List.getD,ea,hi,Option.getD_some]
      rw [ek] at hk'
      exact of_decide_eq_true hk'
   refine ⟨x,hx,rps x.2.2 ys,h.symm,hrl,hv,?_⟩
   have ed:(rps x.2.2 ys).map dtx=ys:=by
    refine List.ext_getElem? λ j=>?_
    by_cases hj:j < ys.length
    ·have hy:ys[j]? = some ys[j]:=List.getElem?_eq_getElem hj
     have hc:x.2.2[j]? = some (x.2.2[j]'(by omega)):=List.getElem?_eq_getElem (by omega)
     rw [List.getElem?_map,rps_get hc hy,hy]
     exact congrArg some (each j _ _ hc hy).2
    ·rw [List.getElem?_eq_none (by simp [rps]; omega),List.getElem?_eq_none (by omega)]
   have ej:=StrLaws.join_split z " "
   rw [es,<- ey] at ej
   unfold txD
   rw [ed]
   show z=Builtin.Str.glued " " (x.1 :: ys)
   rw [StrLaws.glued_eq_join,ej]
  ·cases h
noncomputable def tx:PyData->Str
 | .tuple ps=>Txt.join " " (ps.map dtx)
 | _ => ""
noncomputable def Gd (d:PyData):Prop:=∃ x∈tabS,∃ ds:List PyData,d=dd x.1 ds/\ds.length=x.2.2.length/\Vd x.2.2 ds
theorem Gd.len {d:PyData}(h:Gd d):(tx d).length<=100:=by
 obtain ⟨x,hx,ds,rfl,hl,hv⟩:=h
 exact tx_len hx (by omega) hv
theorem Gd.res {d:PyData}(h:Gd d):res (tx d)=some d:=by
 obtain ⟨x,hx,ds,rfl,hl,hv⟩:=h
 exact res_tx hx hl hv
theorem Gd.back {d:PyData}{z:Str}(h:_root_.K15.res z=some d):Gd d/\z=tx d:=by
 obtain ⟨x,hx,ds,rfl,hl,hv,e⟩:=res_back h
 exact ⟨⟨x,hx,ds,rfl,hl,hv⟩,e⟩
theorem Gd.ok {d:PyData}(h:Gd d):okD 2 d=true/\big d<=1000000:=by
 obtain ⟨x,hx,ds,rfl,hl,hv⟩:=h
 exact dd_ok hx hl hv.pts
theorem app_signs (x y:Str):(x++y).cps.toList=x.cps.toList++y.cps.toList:=by show (x.cps++y.cps).toList=_; simp
noncomputable def bentS:Str := " 0123456789abcdefghijklmnopqrstuvwxyz\n.-+A:_"
theorem bentL:bentS.length=44:=by decide +kernel
theorem bentA:Asc bentS:=asc_dec (by decide +kernel)
theorem app_len (x y:Str):(x++y).length=x.length+y.length:=by
 rw [<- str_len,app_signs,List.length_append,str_len,str_len]
theorem asc_rev {z y:Str}(hz:Asc z)(h:RevT z y):Asc y:=λ c hc=>hz c (h.2 c hc)
noncomputable def sp_l_bent:SpD:=λ ws M Q=>∃ (p:Addr) (z:Str),ws=[.m p,.d (.str z)]/\Bag M p/\ascB z=true/\z.length<=2000/\∀ (y:Str) M',ascB y=true->y.length<=4 * z.length+1->Bag M' p->(∀ q,q≠p->M' q=M q)->Q (.d (.str y)) M'
theorem len_l_bent:∀ ws M Q,sp_l_bent ws M Q->ws.length=2:=by rintro ws M Q ⟨p,z,rfl,_⟩; rfl
theorem read_l_bent:∀ ws M Q,sp_l_bent ws M Q->t_l_bent sp_l_take { nx:=λ _ M'=>Q (.d .none) M',rt:=Q } (startD N_l_bent ws) M:=by
 rintro ws M Q ⟨p,z,rfl,hb,ha,hl,k⟩
 have s16':=s16
 have hfit:∀ y:Str,y.length<=10000->fitW (.d (.str y))=true:=λ y h=>decide_eq_true (by omega)
 have hz:=asc_of_b ha
 refine ⟨_,rfl,_,rfl,_,rfl,_,_,rfl,rfl,hfit bentS (by rw [bentL]; omega),p,(bentS.length:Nat),rfl,hb,by rw [bentL]; decide,by rw [bentL]; decide,λ r M1 r0 r1 b1 f1=>?_⟩
 obtain ⟨c,hc1,hm⟩:=ix_str_at (M:=M1) (z:=bentS) r0 r1
 have hc:=asc_one bentA hm
 have lc:(⟨#[c]⟩:Str).length=1:=rfl
 refine ⟨r,_,rfl,hc1,hfit bentS (by rw [bentL]; omega),?_⟩
 refine ⟨_,rfl,_,rfl,_,_,rfl,rfl,hfit z (by omega),.inl ⟨_,_,rfl,rfl,p,_,rfl,b1,by omega,by omega,λ a M2 a0 a1 b2 f2=>?_⟩⟩
 refine ⟨_,rfl,p,7,rfl,b2,by decide,by decide,λ h M3 h0 h1 b3 f3=>?_⟩
 have fin:∀ y:Str,Asc y->y.length<=4 * z.length+1->Q (.d (.str y)) M3:=λ y ya yl=>k y M3 (asc_b ya) yl b3 λ q hq=>by rw [f3 q hq,f2 q hq,f1 q hq]
 have sl:=λ lo hi=>PySem.Txt.slice_le z lo hi
 have sa:=λ lo hi=>asc_slice hz lo hi
 have three:∀ (x m y:Str),Asc x->Asc m->Asc y->x.length<=z.length->m.length<=2 * z.length+1->y.length<=z.length->Asc (x++m++y)/\(x++m++y).length<=4 * z.length+1/\x.length+m.length<=sizeLine/\(x++m).length+y.length<=sizeLine:=λ x m y ax am ay lx lm ly=>by
  refine ⟨asc_app (asc_app ax am) ay,?_,by omega,?_⟩ <;> simp only [app_len] <;> omega
 refine ⟨_,rfl,_,_,rfl,rfl,_,rfl,ite_b (λ _=>?_) (λ _=>?_)⟩
 ·obtain ⟨q1,q2,q3,q4⟩:=three (Txt.slice z none (some a)) ⟨#[c]⟩ (Txt.slice z (some a) none) (sa _ _) hc (sa _ _) (sl _ _) (by rw [lc]; omega) (sl _ _)
  exact ⟨_,rfl,_,rfl,_,rfl,_,rfl,hfit z (by omega),_,rfl,.inr ⟨_,_,rfl,rfl,q3,_,rfl,_,rfl,_,rfl,_,rfl,hfit z (by omega),.inr ⟨_,_,rfl,rfl,q4,fin _ q1 q2⟩⟩⟩
 refine ⟨_,rfl,_,_,.d,.d,rfl,_,rfl,ite_b (λ _=>?_) (λ _=>?_)⟩
 ·obtain ⟨q1,q2,q3,q4⟩:=three (Txt.slice z none (some a)) ⟨#[c]⟩ (Txt.slice z (some (a+1)) none) (sa _ _) hc (sa _ _) (sl _ _) (by rw [lc]; omega) (sl _ _)
  exact ⟨_,rfl,_,rfl,_,rfl,_,rfl,hfit z (by omega),_,rfl,.inr ⟨_,_,rfl,rfl,q3,_,rfl,_,rfl,.inl ⟨_,_,rfl,rfl,_,rfl,_,rfl,hfit z (by omega),.inr ⟨_,_,rfl,rfl,q4,fin _ q1 q2⟩⟩⟩⟩
 refine ⟨_,rfl,_,_,.d,.d,rfl,_,rfl,ite_b (λ _=>?_) (λ _=>?_)⟩
 ·have l1:=sl none (some a)
  have l2:=sl (some (a+1)) none
  exact ⟨_,rfl,_,rfl,_,rfl,_,rfl,hfit z (by omega),_,rfl,_,rfl,.inl ⟨_,_,rfl,rfl,_,rfl,_,rfl,hfit z (by omega),.inr ⟨_,_,rfl,rfl,by omega,fin _ (asc_app (sa _ _) (sa _ _)) (by rw [app_len]; omega)⟩⟩⟩
 refine ⟨_,rfl,_,_,.d,.d,rfl,_,rfl,ite_b (λ _=>?_) (λ _=>?_)⟩
 ·refine ⟨_,rfl,_,rfl,_,rfl,_,rfl,hfit z (by omega),_,rfl,_,rfl,_,rfl,_,rfl,.inl ⟨_,_,rfl,rfl,_,rfl,_,rfl,hfit z (by omega),_,rfl,_,rfl,rfl,Txt.slice z (some a) (some (a+2)),rfl,?_,λ y hy=>?_⟩⟩
  ·have:=sl (some a) (some (a+2))
   omega
  ·have l1:=sl (some a) (some (a+2))
   obtain ⟨q1,q2,q3,q4⟩:=three (Txt.slice z none (some a)) y (Txt.slice z (some (a+2)) none) (sa _ _) (asc_rev (sa _ _) hy) (sa _ _) (sl _ _) (by have:=hy.1; omega) (sl _ _)
   exact .inr ⟨_,_,rfl,rfl,q3,_,rfl,_,rfl,.inl ⟨_,_,rfl,rfl,_,rfl,_,rfl,hfit z (by omega),.inr ⟨_,_,rfl,rfl,q4,fin _ q1 q2⟩⟩⟩
 refine ⟨_,rfl,_,_,.d,.d,rfl,_,rfl,ite_b (λ _=>?_) (λ _=>?_)⟩
 ·have e1:(" " : Str).length=1:=by decide +kernel
  obtain ⟨q1,q2,q3,q4⟩:=three (Txt.slice z none (some a)) " " (Txt.slice z (some a) none) (sa _ _) (asc_dec (by decide +kernel)) (sa _ _) (sl _ _) (by rw [e1]; omega) (sl _ _)
  exact ⟨_,rfl,_,rfl,_,rfl,_,rfl,hfit z (by omega),.inr ⟨_,_,rfl,rfl,q3,_,rfl,_,rfl,_,rfl,_,rfl,hfit z (by omega),.inr ⟨_,_,rfl,rfl,q4,fin _ q1 q2⟩⟩⟩
 refine ⟨_,rfl,_,rfl,_,rfl,_,rfl,hfit z (by omega),?_⟩
 have ll:=sl (some a) none
 have la:=sa (some a) none
 generalize Txt.slice z (some a) none=t at ll la
 refine ⟨_,rfl,⟨_,rfl⟩,t, " ",rfl,rfl,λ j j0 j1=>.inl ⟨_,_,rfl,rfl,?_⟩⟩
 have l1:=PySem.Txt.slice_le t none (some (j+1))
 have l2:=PySem.Txt.slice_le t (some (j+1)) none
 have m1:=mul2_len (Txt.slice t none (some (j+1)))
 obtain ⟨q1,q2,q3,q4⟩:=three (Txt.slice z none (some a)) (Txt.mul (Txt.slice t none (some (j+1))) 2) (Txt.slice t (some (j+1)) none) (sa _ _) (λ c hc=>asc_slice la _ _ c (mul2_signs _ c hc)) (asc_slice la _ _) (sl _ _) (by omega) (by omega)
 exact ⟨_,rfl,_,rfl,_,rfl,_,rfl,hfit z (by omega),_,rfl,_,rfl,_,rfl,_,rfl,hfit t (by omega),_,rfl,rfl,by omega,.inr ⟨_,_,rfl,rfl,q3,_,rfl,_,rfl,_,rfl,_,rfl,hfit t (by omega),.inr ⟨_,_,rfl,rfl,q4,fin _ q1 q2⟩⟩⟩
theorem alpha_in:∀ c < 128,inS ⟨#[c]⟩ "abcdefghijklmnopqrstuvwxyz" = smallB c:=by decide +kernel
noncomputable def sp_l_is_word:SpD:=λ ws M Q=>∃ d,ws=[.d d]/\Fl d/\Q (.d (.bool (isW d))) M
theorem len_l_is_word:∀ ws M Q,sp_l_is_word ws M Q->ws.length=1:=by rintro ws M Q ⟨d,rfl,_⟩; rfl
theorem read_l_is_word:∀ ws M Q,sp_l_is_word ws M Q->t_l_is_word { nx:=λ _ M'=>Q (.d .none) M',rt:=Q } (startD N_l_is_word ws) M:=by
 rintro ws M Q ⟨d,rfl,hf,k⟩
 have s16':=s16
 refine ⟨_,rfl,_,_,_,rfl,.d,.str,_,rfl,?_⟩
 rcases hf with ⟨z,rfl,ha,hl⟩ | ⟨i,rfl⟩ | rfl
 ·have hfit:fitW (.d (.str z))=true:=decide_eq_true (by omega)
  have k':Q (.d (.bool (wd z))) M:=k
  have no:¬ (1<=z.length/\z.length<=8)->Q (.d (.bool false)) M:=λ h=>by
   have e:wd z=false:=by
    unfold wd
    by_cases h1:1<=z.length
    ·rw [decide_eq_false (show ¬ z.length<=8 from λ h2=>h ⟨h1,h2⟩)]
     simp
    ·rw [decide_eq_false h1]
     simp
   rw [e] at k'
   exact k'
  refine ite_n (by rw [isi_s]; rfl) ⟨_,rfl,_,_,rfl,rfl,hfit,_,_,rfl,rfl,_,rfl,?_⟩
  by_cases h1:1<=z.length
  ·refine ite_n (decide_eq_false (show ¬ ((z.length:Nat):Int) < 1 by omega)) ⟨_,rfl,_,_,rfl,rfl,hfit,_,_,rfl,rfl,_,rfl,?_⟩
   by_cases h2:z.length<=8
   ·refine ite_n (decide_eq_false (show ¬ (8:Int) < ((z.length:Nat):Int) by omega)) ⟨_,rfl,_,rfl,?_⟩
    dsimp only
    refine lc_rows z.cps.toList (λ c=>W.d (.str ⟨#[c]⟩)) (λ c=>.bool (smallB c)) (λ τ=>∃ x,τ=[x]) (by rw [str_len]; omega) ⟨_,rfl⟩ (λ c hc τ hτ R h=>?_) (λ τ=>?_)
    ·obtain ⟨x,rfl⟩:=hτ
     have go:=h [some (.d (.str ⟨#[c]⟩))] ⟨_,rfl⟩
     rw [<- alpha_in c (asc_of_b ha c hc)] at go
     exact ⟨_,rfl,_,_,rfl,rfl,_,rfl,go⟩
    ·refine ⟨z.cps.toList.map smallB,by rw [List.map_map]; rfl,?_⟩
     have e:wd z=(z.cps.toList.map smallB).all id:=by
      unfold wd
      rw [decide_eq_true h1,decide_eq_true h2,List.all_map]
      rfl
     rw [e] at k'
     exact k'
   ·exact ite_y (decide_eq_true (show (8:Int) < ((z.length:Nat):Int) by omega)) (no λ h=>h2 h.2)
  ·exact ite_y (decide_eq_true (show ((z.length:Nat):Int) < 1 by omega)) (ite_y rfl (no λ h=>h1 h.1))
 ·exact ite_y rfl (ite_y rfl k)
 ·exact ite_y rfl (ite_y rfl k)
noncomputable def sp_l_between:SpD:=λ ws M Q=>∃ (d:PyData) (lo hi:Int),ws=[.d d,.d (.int lo),.d (.int hi)]/\Fl d/\Q (.d (.bool (inB lo hi d))) M
theorem len_l_between:∀ ws M Q,sp_l_between ws M Q->ws.length=3:=by rintro ws M Q ⟨i,lo,hi,rfl,_⟩; rfl
theorem read_l_between:∀ ws M Q,sp_l_between ws M Q->t_l_between { nx:=λ _ M'=>Q (.d .none) M',rt:=Q } (startD N_l_between ws) M:=by
 rintro ws M Q ⟨d,lo,hi,rfl,hf,k⟩
 refine ⟨_,rfl,_,_,_,rfl,.d,.int,_,rfl,?_⟩
 rcases hf with ⟨y,rfl,_⟩ | ⟨i,rfl⟩ | rfl
 ·exact iteF k
 ·refine iteT ⟨_,rfl,_,_,_,rfl,.d,.bool,_,rfl,_,rfl,iteT ⟨_,rfl,_,rfl,.inl ⟨_,_,rfl,rfl,_,rfl,?_⟩⟩⟩
  have k':Q (.d (.bool (btw i lo hi))) M:=k
  unfold btw at k'
  by_cases h:lo<=i
  ·rw [decide_eq_true h] at k' ⊢
   exact iteT ⟨_,rfl,.inl ⟨_,_,rfl,rfl,k'⟩⟩
  ·rw [decide_eq_false h] at k' ⊢
   exact iteF k'
 ·exact iteF k
noncomputable def kTop (a:Int):Int:=if a - 1 > 0 then a - 1 else 0
noncomputable def kG (pr d:PyData):Bool:=inB 0 6 pr && (match pr with | .int a=>inB 0 (kTop a) d | _=>false)
noncomputable def fitG (c:Cd)(d pr:PyData):Bool:=if c=.w then isW d else if c=.e then (match d with | .str y=>sortB y | _=>false) else if c=.k then kG pr d else inB (cdL c) (cdH c) d
noncomputable def sp_l_fits:SpD:=λ ws M Q=>∃ (c:Cd) (d pr:PyData),ws=[.d (.str (cdS c)),.d d,.d pr]/\Fl d/\Fl pr/\∀ M',Ext M M'->Q (.d (.bool (fitG c d pr))) M'
theorem len_l_fits:∀ ws M Q,sp_l_fits ws M Q->ws.length=3:=by rintro ws M Q ⟨c,d,pr,rfl,_⟩; rfl
theorem read_l_fits:∀ ws M Q,sp_l_fits ws M Q->t_l_fits sp_l_is_word sp_l_bounds sp_l_between { nx:=λ _ M'=>Q (.d .none) M',rt:=Q } (startD N_l_fits ws) M:=by
 rintro ws M Q ⟨c,d,pr,rfl,hf,hp,k⟩
 obtain ⟨q1,q2,q3⟩:=cd_eq c
 refine ⟨_,rfl,_,_,.d,.d,rfl,_,rfl,?_⟩
 rw [eqv_str',q1]
 refine ite_b (λ h=>?_) (λ h=>?_)
 ·have h:=of_decide_eq_true h
  subst h
  exact ⟨_,rfl,d,rfl,hf,k M (λ _ _ e=>e)⟩
 have n1:c ≠ .w:=of_decide_eq_false h
 refine ⟨_,rfl,_,_,.d,.d,rfl,_,rfl,?_⟩
 rw [eqv_str',q2]
 refine ite_b (λ h=>?_) (λ h=>?_)
 ·have h:=of_decide_eq_true h
  subst h
  have k':=k M (λ _ _ e=>e)
  refine ⟨_,rfl,_,_,_,rfl,.d,.str,_,rfl,?_⟩
  rcases hf with ⟨y,rfl,ha,_⟩ | ⟨i,rfl⟩ | rfl
  ·refine iteT ⟨_,rfl,_,rfl,few (by simp),_,sorts.map PyData.str,.d,.inl .d,sort_ok ha,?_⟩
   rw [Bool.false_xor,sort_in]
   exact k'
  ·exact iteF k'
  ·exact iteF k'
 have n2:c ≠ .e:=of_decide_eq_false h
 refine ⟨_,rfl,cdS c,cdL c,cdH c,rfl,cd_bnd c n1 n2,λ M1 x1=>⟨_,rfl,rfl,_,_,rfl,_,_,rfl,rfl,?_⟩⟩
 have k':=k M1 x1
 refine ⟨_,rfl,_,_,.d,.d,rfl,_,rfl,?_⟩
 rw [eqv_str',q3]
 refine ite_b (λ h=>?_) (λ h=>?_)
 ·have h:=of_decide_eq_true h
  subst h
  have e:fitG .k d pr=kG pr d:=rfl
  rw [e] at k'
  refine ⟨_,rfl,pr,0,6,rfl,hp,_,rfl,?_⟩
  unfold kG at k'
  cases hb:inB 0 6 pr with
  | false=>rw [hb] at k'; exact iteF k'
  | true =>
   rw [hb,Bool.true_and] at k'
   rcases hp with ⟨y,rfl,_⟩ | ⟨a,rfl⟩ | rfl
   ·cases hb
   ·exact iteT ⟨_,rfl,_,rfl,_,_,rfl,rfl,_,_,rfl,d,0,_,rfl,hf,k'⟩
   ·cases hb
 ·have n3:c ≠ .k:=of_decide_eq_false h
  have e:fitG c d pr=inB (cdL c) (cdH c) d:=by unfold fitG; rw [if_neg n1,if_neg n2,if_neg n3]
  rw [e] at k'
  exact ⟨_,rfl,_,rfl,_,rfl,d,cdL c,cdH c,rfl,hf,k'⟩
noncomputable def fitJ (x:Str×Str×List Cd)(ds:List PyData)(j:Nat):Bool:=fitG (x.2.2.getD j .w) (ds.getD j .none) (((.str x.1:PyData) :: ds).getD j .none)
noncomputable def goodG (x:Str×Str×List Cd)(ds:List PyData):Bool:=((List.range x.2.2.length).map (fitJ x ds)).all id
noncomputable def sp_l_good:SpD:=λ ws M Q=>∃ x∈tabS,∃ ds:List PyData,ws=[.d (dd x.1 ds)]/\ds.length=x.2.2.length/\(∀ d∈ds,Fl d)/\∀ M',Ext M M'->Q (.d (.bool (goodG x ds))) M'
theorem len_l_good:∀ ws M Q,sp_l_good ws M Q->ws.length=1:=by rintro ws M Q ⟨x,_,ds,rfl,_⟩; rfl
theorem read_l_good:∀ ws M Q,sp_l_good ws M Q->t_l_good sp_l_codes sp_l_fits { nx:=λ _ M'=>Q (.d .none) M',rt:=Q } (startD N_l_good ws) M:=by
 rintro ws M Q ⟨x,hx,ds,rfl,hl,hp,k⟩
 have s16':=s16
 obtain ⟨n6,n1⟩:=tab_len x hx
 refine ⟨_,rfl,_,_,_,rfl,.d,.tuple,_,rfl,?_⟩
 rw [show isiD (dd x.1 ds) "tuple" = true from isi_t _]
 have z1:PyData.eqv (.int ((ds.length+1:Nat):Int)) (.int 0)=false:=by rw [eqv_int']; exact decide_eq_false (by omega)
 refine iteF ⟨_,rfl,_,_,rfl,rfl,rfl,_,_,.d,.d,rfl,_,rfl,ite_n z1 ?_⟩
 refine ⟨_,rfl,_,_,rfl,tup0,rfl,_,_,_,rfl,.d,.str,_,rfl,?_⟩
 rw [show isiD (.str x.1) "str" = true from isi_s _]
 refine iteF ⟨rfl,λ d M1 hd1 hM1 x1=>⟨.k hM1,_,rfl,_,_,rfl,tup0,rfl,_,.k (k:=.inr x.1) hM1,?_⟩⟩
 rw [tab_code x hx]
 have hlen:x.2.1.length=x.2.2.length:=by rw [<- str_len,tab_signs x hx,List.length_map]
 have z2:(!PyData.eqv (.int (x.2.1.length:Int)) (.int (((ds.length+1:Nat):Int) - 1)))=false:=by rw [eqv_int',decide_eq_true (by omega)]; rfl
 have hfit:fitW (.d (.str x.2.1))=true:=decide_eq_true (few (by omega))
 refine ⟨_,rfl,rfl,_,rfl,iteF ⟨_,rfl,_,_,rfl,rfl,hfit,_,rfl,_,_,rfl,rfl,rfl,_,_,rfl,rfl,_,_,.d,.d,rfl,_,rfl,ite_n (c:=!PyData.eqv (.int (x.2.1.length:Int)) (.int (((ds.length+1:Nat):Int) - 1))) z2 ?_⟩⟩
 refine ⟨_,rfl,_,_,rfl,rfl,hfit,_,rfl,by omega,by omega,?_⟩
 dsimp only
 refine ⟨λ i acc τ M'=>Ext M1 M'/\acc=(List.range i).map (λ j=>.bool (fitJ x ds j))/\∃ y,τ=[y,some (.d (.str x.2.1)),some (.d (dd x.1 ds))],⟨Ext.refl _,rfl,_,rfl⟩,?_,?_⟩
 ·rintro i w acc τ M' hw ⟨e1,rfl,y,rfl⟩
  obtain ⟨hi,rfl⟩:=rng_at hw
  have hi:i < x.2.2.length:=by simpa [hlen] using hi
  obtain ⟨c,hc⟩:∃ c,x.2.2[i]? = some c:=⟨_,List.getElem?_eq_getElem hi⟩
  obtain ⟨d',hd'⟩:∃ d',ds[i]? = some d':=⟨_,List.getElem?_eq_getElem (by omega)⟩
  obtain ⟨pr,hpr⟩:∃ pr,((.str x.1:PyData) :: ds)[i]? = some pr:=⟨_,List.getElem?_eq_getElem (by simp; omega)⟩
  have hfj:fitJ x ds i=fitG c d' pr:=by simp only [fitJ,List.getD,hc,hd',hpr,Option.getD_some]
  have fpr:Fl pr:=by
   rcases List.mem_cons.mp (List.mem_of_getElem? hpr) with h | h
   ·have hw:=tab_word x hx
    have:=(wd_len hw).2
    exact .inl ⟨x.1,h,wd_asc hw,by omega⟩
   ·exact hp pr h
  have g1:ixW M' (.d (.str x.2.1)) (0+(i:Int))=some (W.d (.str (cdS c))):=by
   have ei:(0+(i:Int))=(i:Int):=by omega
   rw [ei]
   simp only [ixW]
   rw [atI_nat (v:=cdN c) (by rw [tab_signs x hx,List.getElem?_map,hc]; rfl)]
   rfl
  have g2:ixW M' (.d (dd x.1 ds)) (0+(i:Int)+1)=some (W.d d'):=by
   have ei:(0+(i:Int)+1)=((i+1:Nat):Int):=by omega
   rw [ei]
   exact tup_at (by simpa using hd')
  have g3:ixW M' (.d (dd x.1 ds)) (0+(i:Int))=some (W.d pr):=by
   have ei:(0+(i:Int))=(i:Int):=by omega
   rw [ei]
   exact tup_at hpr
  refine ⟨by simp; omega,_,rfl,_,rfl,_,_,rfl,g1,hfit,_,rfl,_,rfl,.inl ⟨_,_,rfl,rfl,_,_,rfl,g2,rfl,_,rfl,_,rfl,_,_,rfl,g3,rfl,?_⟩⟩
  exact ⟨c,d',pr,rfl,hp d' (List.mem_of_getElem? hd'),fpr,λ M2 e2=>⟨_,rfl,e1.trans e2,by rw [List.range_succ,List.map_append,<- hfj]; rfl,_,rfl⟩⟩
 ·rintro acc τ M' ⟨e1,rfl,y,rfl⟩
  refine ⟨(List.range x.2.2.length).map (fitJ x ds),?_,k M' (Ext.trans x1 e1)⟩
  simp only [rangeW,List.length_map,List.length_range,List.map_map]
  rw [show ((x.2.1.length:Int)).toNat=x.2.2.length by omega]
  rfl
noncomputable def ln (y:Str):PyData:=if y.length<=2 then rn y else .none
theorem find_dig:∀ c < 128,digB c=true->Txt.find "0123456789" ⟨#[c]⟩=((c - 48:Nat):Int):=by decide +kernel
noncomputable def sp_l_number_in:SpD:=λ ws M Q=>∃ y:Str,ws=[.d (.str y)]/\ascB y=true/\y.length<=100000/\Q (.d (ln y)) M
theorem len_l_number_in:∀ ws M Q,sp_l_number_in ws M Q->ws.length=1:=by rintro ws M Q ⟨y,rfl,_⟩; rfl
theorem read_l_number_in:∀ ws M Q,sp_l_number_in ws M Q->t_l_number_in { nx:=λ _ M'=>Q (.d .none) M',rt:=Q } (startD N_l_number_in ws) M:=by
 rintro ws M Q ⟨y,rfl,ha,hl,k⟩
 have s16':=s16
 have hfit:fitW (.d (.str y))=true:=decide_eq_true (by omega)
 refine ⟨_,rfl,_,_,.d,.d,rfl,_,rfl,?_⟩
 rw [eqv_str']
 have bad:figOk y=false->Q (.d .none) M:=λ h=>by
  unfold ln rn at k
  rw [h] at k
  split at k <;> exact k
 refine ite_b (λ h=>?_) (λ h=>?_)
 ·have h:=of_decide_eq_true h
  refine ite_y rfl (bad ?_)
  rw [h]
  decide +kernel
 have h0:y ≠ "" := of_decide_eq_false h
 have h1:1<=y.length:=by
  rcases Nat.eq_zero_or_pos y.length with e | e
  ·have hnil:y.cps.toList=[]:=List.eq_nil_of_length_eq_zero (by rw [str_len]; exact e)
   exact absurd (str_ext (x:=y) (y := "") (by rw [hnil]; decide +kernel)) h0
  ·exact e
 refine ⟨_,rfl,_,_,rfl,rfl,hfit,_,_,rfl,rfl,_,rfl,?_⟩
 by_cases h2:y.length<=2
 ·have k':Q (.d (rn y)) M:=by unfold ln at k; rw [if_pos h2] at k; exact k
  obtain ⟨c,r,ec⟩:∃ c r,y.cps.toList=c :: r:=by
   cases hq:y.cps.toList with
   | nil =>
    have:=str_len y
    rw [hq] at this
    simp at this
    omega
   | cons c r=>exact ⟨c,r,rfl⟩
  have e0:ixW M (.d (.str y)) 0=some (.d (.str ⟨#[c]⟩)):=by
   show (atI y.cps.toList ((0:Nat):Int)).map (λ c=>W.d (.str ⟨#[c]⟩))=_
   rw [atI_nat (v:=c) (by rw [ec]; rfl)]
   rfl
  have eh:y.cps.toList.headD 0=c:=by rw [ec]; rfl
  have rest:noughtB y=false->dSeq (dAsg (dC (.d (.int 0))) (gN 1)) (dSeq (dFor (dItems (dVar 0)) (gN 2) (dSeq (dIf (dTest (dOp rdNInS (dVar 2) (dC (.d (.str "0123456789"))))) (dRet (dC (.d .none))) (dNext)) (dAsg (dOp rdAdd (dOp rdMul (dC (.d (.int 10))) (dVar 1)) (dMS rdFindX (dC (.d (.str "0123456789"))) (dCons (dVar 2) dNil))) (gN 1)))) (dRet (dVar 1))) { nx:=λ _ M'=>Q (.d .none) M',rt:=Q } (startD N_l_number_in [.d (.str y)]) M:=λ hn=>by
   refine ⟨_,rfl,_,rfl,?_⟩
   refine ⟨λ i τ M'=>M'=M/\(y.cps.toList.take i).all digB=true/\∃ y2,τ=[some (.d (.str y)),some (.d (.int ((NumText.digitsVal (y.cps.toList.take i):Nat):Int))),y2],⟨rfl,rfl,_,rfl⟩,?_,?_⟩
   ·rintro i w τ M' hw ⟨rfl,hall,y2,rfl⟩
    obtain ⟨c',hc',rfl⟩:=map_at hw
    have hlt:=asc_of_b ha c' (List.mem_of_getElem? hc')
    refine ⟨_,rfl,_,_,rfl,rfl,_,rfl,?_⟩
    have en:nInS ⟨#[c']⟩ "0123456789" = !digB c':=by unfold nInS; rw [dig_in c' hlt]
    rw [en]
    cases hd:digB c' with
    | false =>
     refine iteT (bad ?_)
     have:y.cps.toList.all digB=false:=List.all_eq_false.mpr ⟨c',List.mem_of_getElem? hc',by rw [hd]; simp⟩
     unfold figOk
     rw [this]
     simp
    | true =>
     refine iteF ⟨_,rfl,_,_,rfl,rfl,.inl (by decide),⟨_,rfl⟩,_,rfl,_,_,rfl,rfl,?_⟩
     rw [find_dig c' hlt hd]
     refine .inl ⟨_,_,rfl,rfl,rfl,?_,some (.d (.str ⟨#[c']⟩)),?_⟩
     ·rw [List.take_succ,hc',List.all_append,hall]
      simp [hd]
     ·rw [List.take_succ,hc']
      show [_,some (W.d (.int (10 * ((NumText.digitsVal (y.cps.toList.take i):Nat):Int)+((c' - 48:Nat):Int)))),_]=[_,some (W.d (.int ((NumText.digitsVal (y.cps.toList.take i++[c']):Nat):Int))),_]
      rw [NumText.digitsVal_snoc,show (10 * ((NumText.digitsVal (y.cps.toList.take i):Nat):Int)+((c' - 48:Nat):Int))=((NumText.digitsVal (y.cps.toList.take i) * 10+(c' - 48):Nat):Int) by omega]
   ·rintro τ M' ⟨rfl,hall,y2,rfl⟩
    rw [List.length_map,List.take_length] at *
    refine ⟨_,rfl,?_⟩
    have hf:figOk y=true:=by
     unfold figOk
     rw [hall,hn,decide_eq_true h1,decide_eq_true (show y.length<=10 by omega)]
     rfl
    unfold rn at k'
    rw [if_pos hf] at k'
    exact k'
  refine ite_n (decide_eq_false (show ¬ (2:Int) < ((y.length:Nat):Int) by omega)) ⟨_,rfl,_,_,rfl,rfl,hfit,_,_,.d,.d,rfl,_,rfl,?_⟩
  have e2:PyData.eqv (.int ((y.length:Nat):Int)) (.int 2)=decide (y.length=2):=by
   rw [eqv_int']
   by_cases h:y.length=2
   ·rw [decide_eq_true h,decide_eq_true (by omega)]
   ·rw [decide_eq_false h,decide_eq_false (by omega)]
  refine ite_b (λ h=>?_) (λ h=>?_)
  ·have hq:y.length=2:=of_decide_eq_true (e2 ▸ h)
   refine ⟨_,rfl,_,_,rfl,e0,hfit,_,_,.d,.d,rfl,_,rfl,?_⟩
   rw [eqv_str']
   have hne:y ≠ "0" := λ e=>by
    rw [e] at hq
    exact absurd hq (by decide +kernel)
   refine ite_b (λ h=>?_) (λ h=>?_)
   ·refine bad ?_
    have:noughtB y=true:=by
     unfold noughtB
     rw [eh,h,decide_eq_false hne]
     rfl
    unfold figOk
    rw [this]
    simp
   ·refine rest ?_
    unfold noughtB
    rw [eh,h]
    rfl
  ·have hq:y.length≠2:=of_decide_eq_false (e2 ▸ h)
   refine iteF (rest ?_)
   unfold noughtB
   rw [eh]
   by_cases e:c=48
   ·have:y = "0" := str_ext (by
     have hr:r=[]:=List.eq_nil_of_length_eq_zero (by have:=str_len y; rw [ec] at this; simp at this; omega)
     rw [ec,e,hr]
     decide +kernel)
    rw [decide_eq_true this]
    simp
   ·have e0':("0" : Str)=⟨#[48]⟩:=by decide +kernel
    rw [decide_eq_false (show ¬ (⟨#[c]⟩:Str) = "0" from λ h=>e (by rw [e0'] at h; injection h with h; simpa using h))]
    rfl
 ·refine ite_y (decide_eq_true (show (2:Int) < ((y.length:Nat):Int) by omega)) (ite_y rfl ?_)
  unfold ln at k
  rw [if_neg h2] at k
  exact k
noncomputable def lp (c:Cd)(y:Str):PyData:=if (decide (c ≠ .w) && decide (c ≠ .e))=true then ln y else .str y
noncomputable def lps (cs:List Cd)(ys:List Str):List PyData:=List.zipWith lp cs ys
theorem lps_at {cs:List Cd}{ys:List Str}{j:Nat}{d:PyData}(h:(lps cs ys)[j]? = some d):∃ c y,cs[j]? = some c/\ys[j]? = some y/\d=lp c y:=by
 unfold lps at h
 rw [List.getElem?_zipWith] at h
 split at h
 ·rename_i c y e1 e2
  exact ⟨c,y,e1,e2,(Option.some.inj h).symm⟩
 ·cases h
theorem lps_get {cs:List Cd}{ys:List Str}{j:Nat}{c:Cd}{y:Str}(h1:cs[j]? = some c)(h2:ys[j]? = some y):(lps cs ys)[j]? = some (lp c y):=by
 unfold lps
 rw [List.getElem?_zipWith,h1,h2]
theorem ln_fl (y:Str):Fl (ln y):=by
 unfold ln
 split
 ·exact rn_fl y
 ·exact .inr (.inr rfl)
theorem lp_fl {c:Cd}{y:Str}(ha:ascB y=true)(hl:y.length<=100000):Fl (lp c y):=by
 unfold lp
 split
 ·exact ln_fl y
 ·exact .inl ⟨y,rfl,ha,hl⟩
theorem lp_same {c:Cd}{y:Str}(h:y.length<=2\/(decide (c ≠ .w) && decide (c ≠ .e))=false):lp c y=rp c y:=by
 unfold lp rp
 rcases h with h | h
 ·unfold ln
  rw [if_pos h]
 ·rw [h]
  rfl
theorem ln_some {y:Str}{lo hi:Int}(h:inB lo hi (ln y)=true):y.length<=2:=by
 unfold ln at h
 split at h
 ·assumption
 ·cases h
theorem rn_some {y:Str}{lo hi:Int}(h0:0<=lo)(h1:hi<=20)(h:inB lo hi (rn y)=true):y.length<=2:=by
 cases hq:rn y with
 | int i =>
  rw [hq] at h
  simp only [inB,btw,Bool.and_eq_true,decide_eq_true_eq] at h
  rw [rn_back hq]
  obtain ⟨n,rfl⟩:=Int.eq_ofNat_of_zero_le (show 0<=i by omega)
  exact (nums_small n (by omega)).1
 | _=>rw [hq] at h; cases h
theorem fit_num {c:Cd}{d pr:PyData}(h1:c ≠ .w)(h2:c ≠ .e)(h:fitG c d pr=true):∃ lo hi,inB lo hi d=true:=by
 unfold fitG at h
 rw [if_neg h1,if_neg h2] at h
 split at h
 ·unfold kG at h
  rw [Bool.and_eq_true] at h
  cases hq:pr with
  | int a=>rw [hq] at h; exact ⟨_,_,h.2⟩
  | _=>rw [hq] at h; exact absurd h.2 (by simp)
 ·exact ⟨_,_,h⟩
theorem lps_len {cs:List Cd}{ys:List Str}(hn:ys.length=cs.length):(lps cs ys).length=cs.length/\(rps cs ys).length=cs.length:=by simp [lps,rps,hn]
theorem lps_of_good {x:Str×Str×List Cd}{ys:List Str}(hn:ys.length=x.2.2.length)(h:∀ j < x.2.2.length,fitJ x (lps x.2.2 ys) j=true):lps x.2.2 ys=rps x.2.2 ys:=by
 refine List.ext_getElem? λ j=>?_
 obtain ⟨l1,l2⟩:=lps_len hn
 by_cases hj:j < x.2.2.length
 ·have hc:x.2.2[j]? = some x.2.2[j]:=List.getElem?_eq_getElem hj
  have hy:ys[j]? = some (ys[j]'(by omega)):=List.getElem?_eq_getElem (by omega)
  rw [lps_get hc hy,rps_get hc hy]
  refine congrArg some (lp_same ?_)
  cases hb:(decide (x.2.2[j] ≠ .w) && decide (x.2.2[j] ≠ .e)) with
  | false=>exact .inr rfl
  | true =>
   left
   have hh:=h j hj
   simp only [Bool.and_eq_true,decide_eq_true_eq] at hb
   have e:(lps x.2.2 ys).getD j .none=ln (ys[j]'(by omega)):=by
    simp only [List.getD,lps_get hc hy,Option.getD_some]
    unfold lp
    rw [decide_eq_true hb.1,decide_eq_true hb.2]
    rfl
   have ec:x.2.2.getD j .w=x.2.2[j]:=by simp only [List.getD,hc,Option.getD_some]
   unfold fitJ at hh
   rw [ec,e] at hh
   obtain ⟨lo,hi,hi'⟩:=fit_num hb.1 hb.2 hh
   exact ln_some hi'
 ·rw [List.getElem?_eq_none (by omega),List.getElem?_eq_none (by omega)]
theorem lps_of_deed {x:Str×Str×List Cd}{ys:List Str}(hn:ys.length=x.2.2.length)(h:∀ j < x.2.2.length,pJ x (rps x.2.2 ys) j=true):lps x.2.2 ys=rps x.2.2 ys:=by
 refine List.ext_getElem? λ j=>?_
 obtain ⟨l1,l2⟩:=lps_len hn
 by_cases hj:j < x.2.2.length
 ·have hc:x.2.2[j]? = some x.2.2[j]:=List.getElem?_eq_getElem hj
  have hy:ys[j]? = some (ys[j]'(by omega)):=List.getElem?_eq_getElem (by omega)
  rw [lps_get hc hy,rps_get hc hy]
  refine congrArg some (lp_same ?_)
  cases hb:(decide (x.2.2[j] ≠ .w) && decide (x.2.2[j] ≠ .e)) with
  | false=>exact .inr rfl
  | true =>
   left
   have hh:=h j hj
   simp only [Bool.and_eq_true,decide_eq_true_eq] at hb
   have e:(rps x.2.2 ys).getD j .none=rn (ys[j]'(by omega)):=by
    simp only [List.getD,rps_get hc hy,Option.getD_some]
    unfold rp
    rw [decide_eq_true hb.1,decide_eq_true hb.2]
    rfl
   have ec:x.2.2.getD j .w=x.2.2[j]:=by simp only [List.getD,hc,Option.getD_some]
   unfold pJ at hh
   rw [ec,e] at hh
   unfold pG at hh
   rw [if_neg hb.1,if_neg hb.2] at hh
   exact rn_some (cd_lh _ hb.1 hb.2).1 (cdH_20 _) hh
 ·rw [List.getElem?_eq_none (by omega),List.getElem?_eq_none (by omega)]
theorem fit_part {x:Str×Str×List Cd}{ds:List PyData}{j:Nat}{c:Cd}(hc:x.2.2[j]? = some c)(h:c ≠ .k):fitJ x ds j=pJ x ds j:=by
 simp only [fitJ,pJ,List.getD,hc,Option.getD_some,fitG,pG,if_neg h]
 try rfl
theorem inB_int {lo hi:Int}{d:PyData}(h:inB lo hi d=true):∃ i:Int,d=.int i/\lo<=i/\i<=hi:=by
 cases d with
 | int i =>
  simp only [inB,btw,Bool.and_eq_true,decide_eq_true_eq] at h
  exact ⟨i,rfl,h.1,h.2⟩
 | _=>cases h
theorem inB_of {lo hi i:Int}(h1:lo<=i)(h2:i<=hi):inB lo hi (.int i)=true:=by simp [inB,btw,h1,h2]
theorem good_deed {x:Str×Str×List Cd}{ds:List PyData}(hx:x∈tabS)(hl:ds.length=x.2.2.length):(∀ j < x.2.2.length,fitJ x ds j=true) ↔ deedG x ds=true:=by
 unfold deedG
 simp only [Bool.and_eq_true,List.all_eq_true,List.mem_range,Bool.or_eq_true,Bool.not_eq_true',decide_eq_false_iff_not]
 by_cases hk:Cd.k∈x.2.2
 ·obtain ⟨_,_,c1,c2,c3⟩:=k_is x hx hk
  have lc:kC x < x.2.2.length:=(List.getElem?_eq_some_iff.mp c1).1
  have lk:kK x < x.2.2.length:=(List.getElem?_eq_some_iff.mp c2).1
  have dc:ds[kC x]? = some (ds[kC x]'(by omega)):=List.getElem?_eq_getElem (by omega)
  have dk:ds[kK x]? = some (ds[kK x]'(by omega)):=List.getElem?_eq_getElem (by omega)
  have pc:pJ x ds (kC x)=inB 0 6 (ds[kC x]'(by omega)):=by simp only [pJ,List.getD,c1,dc,Option.getD_some]; rfl
  have pk:pJ x ds (kK x)=inB 0 5 (ds[kK x]'(by omega)):=by simp only [pJ,List.getD,c2,dk,Option.getD_some]; rfl
  have fk:fitJ x ds (kK x)=kG (ds[kC x]'(by omega)) (ds[kK x]'(by omega)):=by
   have:((.str x.1:PyData) :: ds)[kK x]? = some (ds[kC x]'(by omega)):=by rw [<- c3]; simpa using dc
   simp only [fitJ,List.getD,c2,dk,this,Option.getD_some]
   rfl
  have oth:∀ j,j < x.2.2.length->j≠kK x->fitJ x ds j=pJ x ds j:=λ j hj hn=>by
   refine fit_part (List.getElem?_eq_getElem hj) λ e=>hn (k_one x hx j hj (by rw [List.getElem?_eq_getElem hj,e]))
  constructor
  ·intro h
   have h1:=h (kK x) lk
   rw [fk] at h1
   unfold kG at h1
   rw [Bool.and_eq_true] at h1
   obtain ⟨a,ea,a0,a1⟩:=inB_int h1.1
   rw [ea] at h1
   obtain ⟨i,ei,i0,i1⟩:=inB_int h1.2
   have ek:keepB x ds=leK a i:=by simp only [keepB,List.getD,dc,dk,ea,ei,Option.getD_some]
   unfold kTop at i1
   refine ⟨λ j hj=>?_,.inr ?_⟩
   ·by_cases hn:j=kK x
    ·rw [hn,pk,ei]
     exact inB_of i0 (by split at i1 <;> omega)
    ·rw [<- oth j hj hn]
     exact h j hj
   ·rw [ek]
    unfold leK
    rw [decide_eq_true_eq]
    split at i1 <;> split <;> omega
  ·rintro ⟨h,h2⟩ j hj
   by_cases hn:j=kK x
   ·have h3:=h (kC x) lc
    have h4:=h (kK x) lk
    rw [pc] at h3
    rw [pk] at h4
    obtain ⟨a,ea,a0,a1⟩:=inB_int h3
    obtain ⟨i,ei,i0,i1⟩:=inB_int h4
    have ek:keepB x ds=leK a i:=by simp only [keepB,List.getD,dc,dk,ea,ei,Option.getD_some]
    rcases h2 with h2 | h2
    ·exact absurd hk h2
    ·rw [ek] at h2
     unfold leK at h2
     rw [decide_eq_true_eq] at h2
     rw [hn,fk,ea,ei]
     unfold kG
     rw [inB_of a0 a1,Bool.true_and]
     refine inB_of i0 ?_
     unfold kTop
     split at h2 <;> split <;> omega
   ·rw [oth j hj hn]
    exact h j hj
 ·have oth:∀ j,j < x.2.2.length->fitJ x ds j=pJ x ds j:=λ j hj =>
   fit_part (List.getElem?_eq_getElem hj) λ e=>hk (by rw [<- e]; exact List.getElem_mem hj)
  constructor
  ·intro h
   exact ⟨λ j hj=>by rw [<- oth j hj]; exact h j hj,.inl hk⟩
  ·rintro ⟨h,_⟩ j hj
   rw [oth j hj]
   exact h j hj
theorem good_all {x:Str×Str×List Cd}{ds:List PyData}:goodG x ds=true ↔ ∀ j < x.2.2.length,fitJ x ds j=true:=by
 unfold goodG
 rw [List.all_map]
 simp [List.all_eq_true]
theorem deed_all {x:Str×Str×List Cd}{ds:List PyData}(h:deedG x ds=true):∀ j < x.2.2.length,pJ x ds j=true:=by
 unfold deedG at h
 rw [Bool.and_eq_true,List.all_eq_true] at h
 exact λ j hj=>h.1 j (List.mem_range.mpr hj)
theorem good_read {x:Str×Str×List Cd}{ys:List Str}(hx:x∈tabS)(hn:ys.length=x.2.2.length):(goodG x (lps x.2.2 ys)=true->deedG x (rps x.2.2 ys)=true/\lps x.2.2 ys=rps x.2.2 ys)/\(deedG x (rps x.2.2 ys)=true->goodG x (lps x.2.2 ys)=true):=by
 obtain ⟨l1,l2⟩:=lps_len hn
 constructor
 ·intro h
  have h':=good_all.mp h
  have e:=lps_of_good hn h'
  rw [e] at h'
  exact ⟨(good_deed hx l2).mp h',e⟩
 ·intro h
  have e:=lps_of_deed hn (deed_all h)
  rw [e]
  exact good_all.mpr ((good_deed hx l2).mpr h)
theorem codes_tab:codes=tabS.map λ x=>(x.1,x.2.1):=by decide +kernel
theorem code_get (y:Str):tget (dataKV codeK) (.inr y)=(tabF y).map λ x=>W.d (.str x.2.1):=by
 unfold tget dataKV codeK tabF
 rw [codes_tab,List.map_map,List.map_map,List.find?_map,Option.map_map]
 congr 1
 refine congrFun (congrArg _ (funext λ x=>?_)) _
 show decide ((Sum.inr x.1:Key)=.inr y)=decide (x.1=y)
 by_cases h:x.1=y
 ·rw [decide_eq_true h,decide_eq_true (by rw [h])]
 ·rw [decide_eq_false h,decide_eq_false λ e=>h (Sum.inr.inj e)]
theorem cd_we (c:Cd):inS (cdS c) "we" = !(decide (c ≠ .w) && decide (c ≠ .e)):=by cases c <;> decide +kernel
noncomputable def sp_l_read:SpD:=λ ws M Q=>∃ z:Str,ws=[.d (.str z)]/\ascB z=true/\z.length<=50000/\∀ M',Ext M M'->Q (.d ((res z).getD .none)) M'
theorem len_l_read:∀ ws M Q,sp_l_read ws M Q->ws.length=1:=by rintro ws M Q ⟨z,rfl,_⟩; rfl
theorem read_l_read:∀ ws M Q,sp_l_read ws M Q->t_l_read sp_l_codes sp_l_number_in sp_l_good { nx:=λ _ M'=>Q (.d .none) M',rt:=Q } (startD N_l_read ws) M:=by
 rintro ws M Q ⟨z,rfl,ha,hzl,k⟩
 have s16':=s16
 refine ⟨_,rfl,z,rfl, " ",rfl,by decide +kernel,by omega,?_⟩
 obtain ⟨y0,ys,es⟩:=split_cons z
 have hpart:∀ p∈y0 :: ys,p.length<=z.length/\ascB p=true:=λ p hp=>by
  have:=part_of (z:=z) (p:=p) (c:=32) (by rw [<- sp32,es]; exact hp)
  exact ⟨this.1,this.2 ha⟩
 rw [es]
 have hp0:∀ M',ixW M' (.d (.list ((y0 :: ys).map PyData.str))) 0=some (.d (.str y0)):=λ M'=>ix_map (i:=0) (f:=PyData.str) rfl rfl
 refine ⟨rfl,λ d M1 hd1 hM1 x1=>⟨.k hM1,_,rfl,_,_,rfl,hp0 _,rfl,_,.k (k:=.inr y0) hM1,?_⟩⟩
 rw [code_get]
 have x1':Ext M M1:=x1
 cases ht:tabF y0 with
 | none =>
  have er:res z=none:=by
   unfold res
   rw [es]
   simp only [ht]
  have k':=k M1 x1'
  rw [er] at k'
  exact ⟨_,rfl,rfl,_,rfl,iteT (iteT k')⟩
 | some x =>
  obtain ⟨hx,ey⟩:=tabF_some ht
  obtain ⟨n6,n1⟩:=tab_len x hx
  have eres:res z=if ys.length=x.2.2.length/\deedG x (rps x.2.2 ys)=true then some (dd x.1 (rps x.2.2 ys)) else none:=by
   unfold res
   rw [es]
   simp only [ht]
  have hlen:x.2.1.length=x.2.2.length:=by rw [<- str_len,tab_signs x hx,List.length_map]
  have hfit:fitW (.d (.str x.2.1))=true:=decide_eq_true (few (by omega))
  have hpl:((y0 :: ys).map PyData.str).length=ys.length+1:=by simp
  refine ⟨_,rfl,rfl,_,rfl,iteF ⟨_,rfl,_,_,rfl,rfl,hfit,_,rfl,_,_,rfl,rfl,rfl,_,_,rfl,rfl,_,_,.d,.d,rfl,_,rfl,?_⟩⟩
  by_cases hn:ys.length=x.2.2.length
  ·have z2:(!PyData.eqv (.int (x.2.1.length:Int)) (.int ((((y0 :: ys).map PyData.str).length:Int) - 1)))=false:=by rw [eqv_int',decide_eq_true (by omega)]; rfl
   refine ite_n (c:=!PyData.eqv (.int (x.2.1.length:Int)) (.int ((((y0 :: ys).map PyData.str).length:Int) - 1))) z2 ?_
   refine ⟨_,rfl,_,_,rfl,hp0 _,rfl,few (by simp),λ a hMa=>?_⟩
   have hc2:slW (.d (.list ((y0 :: ys).map PyData.str))) (some 1) none=some (.d (.list (ys.map PyData.str))):=by
    simp only [slW,List.map_cons,(cut_tail _ _).1]
   have ascx:ascB x.2.1=true:=by
    have:∀ x∈tabS,ascB x.2.1=true:=by decide +kernel
    exact this x hx
   refine ⟨_,rfl,_,rfl,_,rfl,_,hc2,rfl,x.2.1,ys.map PyData.str,rfl,ascx,?_⟩
   obtain ⟨ll,lr⟩:=lps_len hn
   have hMa':M a=none:=by
    cases hq:M a with
    | none=>rfl
    | some o=>rw [x1' a o hq] at hMa; cases hMa
   refine ⟨λ i τ M'=>Ext M M'/\M' a=some (.lst (((.str y0:PyData) :: (lps x.2.2 ys).take i).map W.d))/\∃ v4 v5,τ=[some (.d (.str z)),some (.d (.list ((y0 :: ys).map PyData.str))),some (.d (.str x.2.1)),some (.m a),v4,v5],⟨x1'.trans (Ext.new hMa),updM_same,_,_,rfl⟩,?_,?_⟩
   ·rintro i w τ M' hw ⟨xM,hm,v4,v5,rfl⟩
    obtain ⟨j,hj,rfl⟩:=map_at hw
    obtain ⟨hlt,hj2⟩:=List.getElem?_eq_some_iff.mp hj
    rw [List.getElem_range] at hj2
    subst hj2
    have hi:i < x.2.2.length:=by
     have:(signsD x.2.1).length=x.2.2.length:=by simp [signsD,str_len,<- hlen,Str.length]
     simpa [this,hn] using hlt
    obtain ⟨c,hc⟩:∃ c,x.2.2[i]? = some c:=⟨_,List.getElem?_eq_getElem hi⟩
    obtain ⟨y,hy⟩:∃ y,ys[i]? = some y:=⟨_,List.getElem?_eq_getElem (by omega)⟩
    have ef:(signsD x.2.1).getD i .none=.str (cdS c):=by
     simp only [signsD,tab_signs x hx,List.map_map,List.getD,List.getElem?_map,hc,Option.map_some,Option.getD_some]
     rfl
    have ed:(ys.map PyData.str).getD i .none=.str y:=by simp [List.getD,hy]
    rw [ef,ed]
    obtain ⟨p1,p2⟩:=hpart y (List.mem_cons_of_mem _ (List.mem_of_getElem? hy))
    refine ⟨_,rfl,rfl,_,_,rfl,_,_,rfl,rfl,_,rfl,_,_,rfl,rfl,_,rfl,?_⟩
    rw [cd_we]
    have fin:∀ d',d'=lp c y->∃ ws',M' a=some (.lst ws')/\ws'.length < sizeLine/\Ext M (updM M' a (.lst (ws'++[.d d'])))/\(updM M' a (.lst (ws'++[.d d']))) a=some (.lst (((.str y0:PyData) :: (lps x.2.2 ys).take (i+1)).map W.d))/\∃ v4 v5,[some (W.d (.str z)),some (.d (.list ((y0 :: ys).map PyData.str))),some (.d (.str x.2.1)),some (.m a),some (.d (.str (cdS c))),some (.d (.str y))]=[some (.d (.str z)),some (.d (.list ((y0 :: ys).map PyData.str))),some (.d (.str x.2.1)),some (.m a),v4,v5]:=λ d' ed'=>by
     refine ⟨_,hm,by simp; omega,λ b o e=>?_,?_,_,_,rfl⟩
     ·rw [updM_ne (ne_new e hMa')]
      exact xM b o e
     ·rw [updM_same,List.take_succ,lps_get hc hy,ed']
      simp
    cases hb:(decide (c ≠ .w) && decide (c ≠ .e)) with
    | false =>
     refine iteT ⟨_,rfl,a,_,rfl,hm,_,rfl,fin _ ?_⟩
     unfold lp
     rw [hb]
     rfl
    | true =>
     refine iteF ⟨_,rfl,a,_,rfl,hm,_,rfl,y,rfl,p2,by omega,fin _ ?_⟩
     unfold lp
     rw [hb]
     rfl
   ·rintro τ M' ⟨xM,hm,v4,v5,rfl⟩
    have hzl2:(zipW (signsD x.2.1) (ys.map PyData.str)).length=(lps x.2.2 ys).length:=by
     have:(signsD x.2.1).length=x.2.2.length:=by simp [signsD,str_len,<- hlen,Str.length]
     simp [zipW,this,hn,ll]
    rw [hzl2,List.take_length] at hm
    rw [<- ey] at hm
    have hFl:∀ d∈lps x.2.2 ys,Fl d:=λ d hd=>by
     obtain ⟨j,hj,e⟩:=List.mem_iff_getElem.mp hd
     obtain ⟨c,y,_,hy,rfl⟩:=lps_at (d:=d) (by rw [<- e]; exact List.getElem?_eq_getElem hj)
     obtain ⟨p1,p2⟩:=hpart y (List.mem_cons_of_mem _ (List.mem_of_getElem? hy))
     exact lp_fl p2 (by omega)
    refine ⟨_,rfl,_,(.str x.1 :: lps x.2.2 ys),rfl,.m hm,x,hx,lps x.2.2 ys,rfl,ll,hFl,λ M2 x2=>⟨_,rfl,?_⟩⟩
    obtain ⟨g1,g2⟩:=good_read hx hn
    have k':=k M2 (xM.trans x2)
    cases hG:goodG x (lps x.2.2 ys) with
    | true =>
     obtain ⟨h1,h2⟩:=g1 hG
     rw [eres,if_pos ⟨hn,h1⟩,<- h2] at k'
     exact iteF ⟨_,rfl,_,(.str x.1 :: lps x.2.2 ys),rfl,.m (x2 _ _ hm),k'⟩
    | false =>
     rw [eres,if_neg λ h=>by have:=g2 h.2; rw [hG] at this; cases this] at k'
     exact iteT k'
  ·have z2:(!PyData.eqv (.int (x.2.1.length:Int)) (.int ((((y0 :: ys).map PyData.str).length:Int) - 1)))=true:=by rw [eqv_int',decide_eq_false (by omega)]; rfl
   have k':=k M1 x1'
   rw [eres,if_neg λ h=>hn h.1] at k'
   exact ite_y (c:=!PyData.eqv (.int (x.2.1.length:Int)) (.int ((((y0 :: ys).map PyData.str).length:Int) - 1))) z2 k'
theorem chr_asc:∀ c < 128,∀ q,q=34\/q=39->∀ x∈Builtin.Str.reprChar q c,x < 128:=by
 have h:((List.range 128).all λ c=>([34,39]:List Nat).all λ q=>(Builtin.Str.reprChar q c).all λ x=>decide (x < 128))=true:=by decide +kernel
 intro c hc q hq x hx
 have h1:=List.all_eq_true.mp h c (List.mem_range.mpr hc)
 have h2:=List.all_eq_true.mp h1 q (by simpa using hq)
 exact of_decide_eq_true (List.all_eq_true.mp h2 x hx)
theorem fold_asc (q:Nat)(hq:q=34\/q=39):∀ (l:List Nat) (acc:Array Nat),(∀ c∈l,c < 128)->(∀ c∈acc.toList,c < 128)->∀ c∈(l.foldl (λ out c=>out++(Builtin.Str.reprChar q c).toArray) acc).toList,c < 128
 | [],acc,_,h=>h
 | a :: l,acc,h1,h2=>by
  refine fold_asc q hq l _ (λ c hc=>h1 c (by simp [hc])) λ c hc=>?_
  simp only [Array.toList_append,List.mem_append] at hc
  rcases hc with hc | hc
  ·exact h2 c hc
  ·exact chr_asc a (h1 a (by simp)) q hq c (by simpa using hc)
theorem repr_asc {z:Str}(h:Asc z):Asc (reprText z):=by
 intro c hc
 have hq:reprQuote z=34\/reprQuote z=39:=by
  unfold reprQuote
  split
  ·exact .inl rfl
  ·exact .inr rfl
 have hc':c∈((z.cps.foldl (λ out c=>out++(Builtin.Str.reprChar (reprQuote z) c).toArray) #[reprQuote z]).push (reprQuote z)).toList:=hc
 rw [Array.toList_push,<- Array.foldl_toList] at hc'
 rcases List.mem_append.mp hc' with h1 | h1
 ·refine fold_asc _ hq z.cps.toList _ h (λ x hx=>?_) c h1
  simp at hx
  rcases hq with hq | hq <;> omega
 ·simp at h1
  rcases hq with hq | hq <;> omega
theorem asc_from:∀ (ts:List Str) (k:Nat) (acc:Str),Asc acc->(∀ t∈ts,Asc t)->Asc (textFrom k acc ts)
 | [],_,_,h,_=>h
 | t :: ts,k,acc,h,h2=>by
  refine asc_from ts (k+1) _ (asc_app (asc_app h ?_) (h2 t (by simp))) λ x hx=>h2 x (by simp [hx])
  split <;> exact asc_dec (by decide +kernel)
theorem asc_join:∀ ts:List Str,(∀ t∈ts,Asc t)->Asc (Str.join ", " ts)
 | [],_=>asc_dec (by decide +kernel)
 | [x],h=>h x (by simp)
 | x :: y :: r,h=>by
  show Asc (x ++ ", " ++ Str.join ", " (y :: r))
  exact asc_app (asc_app (h x (by simp)) (asc_dec (by decide +kernel))) (asc_join (y :: r) λ t ht=>h t (by simp [ht]))
theorem asc_list {ts:List Str}(h:∀ t∈ts,Asc t):Asc (listText ts):=asc_app (asc_from ts 0 _ (asc_dec (by decide +kernel)) h) (asc_dec (by decide +kernel))
theorem asc_tup {ts:List Str}(h:∀ t∈ts,Asc t):Asc (tupleText ts):=by
 unfold tupleText
 refine asc_app (asc_app (asc_dec (by decide +kernel)) (asc_join ts h)) ?_
 split <;> exact asc_dec (by decide +kernel)
mutual
theorem shown_asc:∀ (k:Nat) (d:PyData),okD k d=true->Asc d.shown
 | _,.none,_=>by rw [PyData.shown]; exact asc_dec (by decide +kernel)
 | _,.bool b,_=>by rw [PyData.shown]; cases b <;> exact asc_dec (by decide +kernel)
 | _,.int i,_=>λ c hc=>by
  by_cases h:c < 128
  ·exact h
  ·exact absurd hc (shown_int_free' ⟨by omega,by omega⟩ i)
 | k,.str z,h=>by
  rw [PyData.shown]
  exact repr_asc (asc_of_b (by cases k <;> simpa only [okD] using h))
 | k+1,.list ds,h=>by
  rw [PyData.shown]
  exact asc_list (shownA_asc k ds (by simpa only [okD] using h))
 | k+1,.tuple ds,h=>by
  rw [PyData.shown]
  exact asc_tup (shownA_asc k ds (by simpa only [okD] using h))
 | 0,.list ds,h=>by simp [okD] at h
 | 0,.tuple ds,h=>by simp [okD] at h
 | k,.dict kvs,h=>by cases k <;> simp [okD] at h
theorem shownA_asc:∀ (k:Nat) (ds:List PyData),okA k ds=true->∀ t∈PyData.shownAll ds,Asc t
 | _,[],_,t,ht=>by simp [PyData.shownAll] at ht
 | k,d :: ds,h,t,ht=>by
  simp only [okA,Bool.and_eq_true] at h
  simp only [PyData.shownAll,List.mem_cons] at ht
  rcases ht with rfl | ht
  ·exact shown_asc k d h.1
  ·exact shownA_asc k ds h.2 t ht
end
noncomputable def refused:PyData:=.tuple [.str "refused",.bool true]
noncomputable def told:PyData->PyData
 | .str z=>(match res z with | some d=>.tuple [.str "told",.str d.shown] | none=>refused)
 | _=>refused
noncomputable def Od (d:PyData):Prop:=isiD d "str" = false\/∃ z:Str,d=.str z/\ascB z=true/\z.length<=50000
theorem told_odd {d:PyData}(h:isiD d "str" = false):told d=refused:=by
 cases d with
 | str z=>rw [isi_s] at h; cases h
 | _=>rfl
theorem told_some {z:Str}{d:PyData}(h:res z=some d):told (.str z)=.tuple [.str "told",.str d.shown]:=by
 simp only [told,h]
theorem told_none {z:Str}(h:res z=none):told (.str z)=refused:=by
 simp only [told,h]
theorem refused_ok:okD 2 refused=true:=by decide +kernel
theorem told_ok (d:PyData):okD 2 (told d)=true/\∃ ps,told d=.tuple ps:=by
 cases hty:isiD d "str" with
 | false=>rw [told_odd hty]; exact ⟨refused_ok,_,rfl⟩
 | true =>
  cases d with
  | str z =>
   cases hr:res z with
   | none=>rw [told_none hr]; exact ⟨refused_ok,_,rfl⟩
   | some d =>
    rw [told_some hr]
    refine ⟨?_,_,rfl⟩
    have g:=(Gd.back hr).1
    have ha:ascB d.shown=true:=asc_b (shown_asc 2 d g.ok.1)
    have h1:okD 1 (.str "told")=true:=by decide +kernel
    simp only [okD]
    refine okA_of λ q hq=>?_
    rcases List.mem_cons.mp hq with rfl | hq
    ·exact h1
    ·rw [List.mem_singleton.mp hq]
     simp only [okD]
     exact ha
  | _=>cases hty
theorem told_eq (d:PyData):eqOk2 (told d) (told d)=true/\(!PyData.eqv (told d) (told d))=false:=by
 obtain ⟨h,ps,e⟩:=told_ok d
 have o:=eqOk_of (by decide) h
 refine ⟨?_,by rw [refl_of h]; rfl⟩
 rw [e] at o ⊢
 simp only [eqOk2,o,Bool.and_self]
noncomputable def sp_l_told:SpD:=λ ws M Q=>∃ d:PyData,ws=[.d d]/\Od d/\∀ M',Ext M M'->Q (.d (told d)) M'
theorem len_l_told:∀ ws M Q,sp_l_told ws M Q->ws.length=1:=by rintro ws M Q ⟨z,rfl,_⟩; rfl
theorem read_l_told:∀ ws M Q,sp_l_told ws M Q->t_l_told sp_read_deed { nx:=λ _ M'=>Q (.d .none) M',rt:=Q } (startD N_l_told ws) M:=by
 rintro ws M Q ⟨d,rfl,hd,k⟩
 have no:∀ a,M a=none->Q (.d refused) (updM M a (.exc C_NoText []))->∃ C fs b,(updM M a (.exc C_NoText [])) a=some (.exc C fs)/\tabL [(C_NoText,true)] C=some b/\if b=true then dRet (dTup (dCons (dC (.d (.str "refused"))) (dCons (dAndV (dIsX (tabL [(C_NoText,true)]) (dVar 1)) (dNotV (dIsX (tabL [(C_NoText,false)]) (dVar 1)))) (dNil)))) { nx:=λ τ2 M2=>Q (.d .none) M2,rt:=Q } ((startD N_l_told [.d d]).set 1 (some (.m a))) (updM M a (.exc C_NoText [])) else False:=λ a ha q =>
  ⟨C_NoText,[],true,updM_same,rfl,iteT ⟨_,rfl,a,C_NoText,[],true,rfl,updM_same,rfl,true,rfl,iteT ⟨_,rfl,a,C_NoText,[],false,rfl,updM_same,rfl,false,rfl,_,rfl,few (by simp),q⟩⟩⟩
 refine ⟨_,rfl,d,rfl,λ hty a ha=>no a ha (by rw [<- told_odd hty]; exact k _ (Ext.new ha)),λ hty=>?_⟩
 rcases hd with hd | ⟨z,rfl,ha,hl⟩
 ·rw [hd] at hty
  cases hty
 ·refine ⟨z,rfl,ha,hl,λ d' hr=>?_,λ hr a hM=>no a hM (by rw [<- told_none hr]; exact k _ (Ext.new hM))⟩
  have g:=(Gd.back hr).1
  refine ⟨_,_,rfl,.d,reprOk_of (by decide) g.ok.1 g.ok.2,_,rfl,few (by simp),?_⟩
  rw [<- told_some hr]
  exact k M (λ _ _ e=>e)
noncomputable def sp_l_due:SpD:=λ ws M Q=>∃ d:PyData,ws=[.d d]/\Od d/\∀ M',Ext M M'->Q (.d (told d)) M'
theorem len_l_due:∀ ws M Q,sp_l_due ws M Q->ws.length=1:=by rintro ws M Q ⟨z,rfl,_⟩; rfl
theorem read_l_due:∀ ws M Q,sp_l_due ws M Q->t_l_due sp_l_read { nx:=λ _ M'=>Q (.d .none) M',rt:=Q } (startD N_l_due ws) M:=by
 rintro ws M Q ⟨d,rfl,hd,k⟩
 refine ⟨_,rfl,_,_,_,rfl,.d,.str,_,rfl,?_⟩
 rcases hd with hd | ⟨z,rfl,ha,hl⟩
 ·rw [hd]
  refine iteT (iteT ⟨_,rfl,few (by simp),?_⟩)
  have:=k M (λ _ _ e=>e)
  rw [told_odd hd] at this
  exact this
 ·rw [isi_s]
  refine iteF ⟨_,rfl,z,rfl,ha,hl,λ M1 x1=>?_⟩
  cases hr:res z with
  | none =>
   have:=k M1 x1
   rw [told_none hr] at this
   exact ⟨rfl,_,rfl,iteT ⟨_,rfl,few (by simp),this⟩⟩
  | some d' =>
   have g:=(Gd.back hr).1
   have hn:isNone (.d d')=false:=by
    obtain ⟨x,_,ds,rfl,_⟩:=g
    rfl
   refine ⟨rfl,_,rfl,?_⟩
   have e:(false ^^ isNone (W.d ((some d').getD .none)))=false:=by rw [Option.getD_some,hn]; rfl
   refine ite_n e ⟨_,rfl,z,rfl,ha,hl,λ M2 x2=>?_⟩
   rw [hr]
   refine ⟨_,_,rfl,.d,reprOk_of (by decide) g.ok.1 g.ok.2,_,rfl,few (by simp),?_⟩
   have:=k M2 (x1.trans x2)
   rw [told_some hr] at this
   exact this
theorem fold_rep (a:Array Nat):∀ (n:Nat) (acc:Array Nat),((List.replicate n a).foldl (· ++ ·) acc).toList=acc.toList++(List.replicate n a.toList).flatten
 | 0,acc=>by simp
 | n+1,acc=>by
  rw [List.replicate_succ,List.foldl_cons,fold_rep a n,List.replicate_succ,List.flatten_cons]
  simp
noncomputable def nines:Str:=Txt.mul "9" 4400
theorem nines_of (n:Nat):((List.replicate n #[57]).foldl (· ++ ·) #[]).toList=(List.replicate n [57]).flatten:=by
 rw [fold_rep]
 rfl
theorem nines_signs:nines.cps.toList=(List.replicate (4400:Int).toNat [57]).flatten:=by
 have e1:("9" : Str)=⟨#[57]⟩:=by decide +kernel
 have e:nines=⟨(List.replicate (4400:Int).toNat #[57]).foldl (· ++ ·) #[]⟩:=by
  unfold nines Txt.mul
  rw [e1,if_neg (by decide),if_neg (by decide)]
 rw [e]
 exact nines_of _
theorem nines_ok:ascB nines=true/\nines.length<=4400:=by
 constructor
 ·refine asc_b λ c hc=>?_
  rw [nines_signs] at hc
  obtain ⟨l,hl,hc⟩:=List.mem_flatten.mp hc
  rw [List.eq_of_mem_replicate hl] at hc
  rw [List.mem_singleton.mp hc]
  decide
 ·rw [<- str_len,nines_signs,List.length_flatten,List.map_replicate,List.sum_replicate_nat]
  simp
noncomputable def nums1:List Str:=["0", "00", "01", "10", "007", "20", "21", "999999999999999999999", "-1", "1.0", "+1", "", "9", "1"]
noncomputable def nums2:List Str:=["5\n", "2x", "x1", "1_", "1_0", "1\n", "0\n"]
noncomputable def numsA:List Str:=nums1++(nums2++[nines])
theorem nums12:∀ z∈nums1++nums2,ascB z=true/\z.length<=4400:=by decide +kernel
theorem numsA_ok:∀ z∈numsA,ascB z=true/\z.length<=4400:=λ z hz=>by
 unfold numsA at hz
 rw [<- List.append_assoc] at hz
 rcases List.mem_append.mp hz with h | h
 ·exact nums12 z h
 ·rw [List.mem_singleton.mp h]
  exact nines_ok
theorem wish6:∀ z∈(["wish", "door", "Web", "", "group", "abcdefghi"]:List Str),ascB z=true/\z.length<=4400:=by decide +kernel
theorem sum44 {n:Nat}:∀ (ys:List Str),(∀ y∈ys,y.length<=n)->(ys.map (·.length)).sum<=n * ys.length/\(ys.map λ p=>(" " : Str).length+p.length).sum<=(n+1) * ys.length
 | [],_=>by simp
 | y :: ys,h=>by
  have h1:=h y (by simp)
  have e1:(" " : Str).length=1:=by decide +kernel
  obtain ⟨h2,h3⟩:=sum44 (n:=n) ys λ z hz=>h z (by simp [hz])
  simp only [List.map_cons,List.sum_cons,List.length_cons,Nat.mul_add,Nat.mul_one] at *
  omega
noncomputable def sp_l_strange:SpD:=λ ws M Q=>∃ p:Addr,ws=[.m p]/\Bag M p/\∀ (z:Str) M',ascB z=true->z.length<=50000->Bag M' p->Q (.d (.str z)) M'
theorem len_l_strange:∀ ws M Q,sp_l_strange ws M Q->ws.length=1:=by rintro ws M Q ⟨p,rfl,_⟩; rfl
theorem read_l_strange:∀ ws M Q,sp_l_strange ws M Q->t_l_strange sp_l_codes sp_l_take sp_l_word { nx:=λ _ M'=>Q (.d .none) M',rt:=Q } (startD N_l_strange ws) M:=by
 rintro ws M Q ⟨p,rfl,hb,k⟩
 have s16':=s16
 refine ⟨rfl,λ d M1 hd1 hM1 x1=>?_⟩
 have b1:Bag M1 p:=Ext.bag x1 hb
 refine ⟨_,rfl,d,_,keys12,rfl,hM1,by decide,by decide,λ zs' perm _ l hl=>⟨l,zs'.map PyData.str,rfl,by rw [updM_same,strs_d],?_⟩⟩
 have x2:Ext M1 (delM (updM M1 l (.lst (strsW zs'))) l):=sealed hl
 generalize delM (updM M1 l (.lst (strsW zs'))) l=M2 at x2
 refine ⟨_,rfl,p,12,rfl,Ext.bag x2 b1,by decide,by decide,λ r M3 r0 r1 b3 f3=>?_⟩
 have hlz:zs'.length=12:=perm.length_eq
 obtain ⟨z,ez,hz⟩:=ix_str_in (M:=M3) (zs:=zs') r0 (by omega)
 obtain ⟨x,hx,rfl⟩:=tab_key z (perm.mem_iff.mp hz)
 refine ⟨r,_,rfl,ez,rfl,?_⟩
 refine ⟨_,rfl,few (by simp),λ a ha=>?_⟩
 have dp:d≠p:=λ e=>by obtain ⟨o,ho⟩:=bag_at hb; rw [e,ho] at hd1; cases hd1
 have hM3:M3 d=some (.dic (dataKV codeK)):=by rw [f3 d dp]; exact x2 _ _ hM1
 have pa:p≠a:=λ e=>by obtain ⟨o,ho⟩:=bag_at b3; rw [e,ha] at ho; cases ho
 have hw:=tab_word x hx
 have h8:=(wd_len hw).2
 refine ⟨_,rfl,few (by simp),?_⟩
 refine ⟨_,rfl, "9",4400,rfl,rfl,by decide +kernel,by decide,by decide,_,rfl,few (by simp),_,_,.d,.d,few (by simp),?_⟩
 have eN:([PyData.str "0",.str "00",.str "01",.str "10",.str "007",.str "20",.str "21",.str "999999999999999999999",.str "-1",.str "1.0",.str "+1",.str "",.str "9",.str "1"]++[PyData.str "5\n", .str "2x", .str "x1", .str "1_", .str "1_0", .str "1\n", .str "0\n", .str (Txt.mul "9" 4400)])=numsA.map PyData.str:=rfl
 rw [eN]
 refine ⟨_,rfl,_,rfl,d,_,.inr x.1,_,rfl,.inl (upd_get hM3 ha),rfl,tab_code x hx,_,rfl,?_⟩
 have hsg:(x.2.1.cps.toList.map λ c=>W.d (.str ⟨#[c]⟩))=x.2.2.map λ c=>W.d (.str (cdS c)):=by rw [tab_signs x hx,List.map_map]; rfl
 rw [hsg]
 have tl:=tab_len x hx
 refine ⟨λ i τ M'=>∃ zs:List Str,Bag M' p/\M' a=some (.lst (strsW zs))/\zs.length=i+1/\(∀ z∈zs,ascB z=true/\z.length<=4400)/\∃ y1,τ=[some (.m p),some (.m d),some (.d (.str x.1)),some (.m a),some (.d (.list (numsA.map PyData.str))),y1],⟨[x.1],bag_keep b3 (updM_ne pa),updM_same,rfl,λ z hz=>by rw [List.mem_singleton.mp hz]; exact ⟨wd_asc hw,by omega⟩,_,rfl⟩,?_,?_⟩
 ·rintro i w τ M' hw' ⟨zs,b,hm,hlen,hall,y1,rfl⟩
  obtain ⟨c,hc,rfl⟩:=map_at hw'
  have hi:i < x.2.2.length:=(List.getElem?_eq_some_iff.mp hc).1
  have app:∀ (M'':MH) (z:Str),Bag M'' p->(∀ q,q≠p->M'' q=M' q)->(ascB z=true/\z.length<=4400)->∃ ws',M'' a=some (.lst ws')/\ws'.length < sizeLine/\∃ zs:List Str,Bag (updM M'' a (.lst (ws'++[.d (.str z)]))) p/\(updM M'' a (.lst (ws'++[.d (.str z)]))) a=some (.lst (strsW zs))/\zs.length=i+1+1/\(∀ z∈zs,ascB z=true/\z.length<=4400)/\∃ y1,[some (.m p),some (.m d),some (.d (.str x.1)),some (.m a),some (.d (.list (numsA.map PyData.str))),some (W.d (.str (cdS c)))]=[some (.m p),some (.m d),some (.d (.str x.1)),some (.m a),some (.d (.list (numsA.map PyData.str))),y1]:=by
   intro M'' z b' f' hz
   refine ⟨_,(f' a pa.symm).trans hm,by simp [strsW]; omega,zs++[z],bag_keep b' (updM_ne pa),by rw [updM_same]; simp [strsW],by simp [hlen],λ y hy=>?_,_,rfl⟩
   rcases List.mem_append.mp hy with hy | hy
   ·exact hall y hy
   ·rw [List.mem_singleton.mp hy]; exact hz
  refine ⟨_,rfl,_,_,rfl,rfl,_,rfl,?_⟩
  refine ite_b (λ _=>?_) (λ _=>?_)
  ·refine ⟨_,rfl,a,_,rfl,hm,_,rfl,p,rfl,b,λ zz M4 hzz b4 f4=>⟨_,rfl,few (by simp),_,rfl,p,7,rfl,b4,by decide,by decide,λ r' M5 s0 s1 b5 f5=>?_⟩⟩
   obtain ⟨z,ez,hz⟩:=ix_str_in (M:=M5) (zs:=zz :: ["wish", "door", "Web", "", "group", "abcdefghi"]) s0 (by simpa using s1)
   refine ⟨r',_,rfl,ez,rfl,app M5 z b5 (λ q hq=>(f5 q hq).trans (f4 q hq)) ?_⟩
   rcases List.mem_cons.mp hz with rfl | hz
   ·have:=(wd_len hzz).2
    exact ⟨wd_asc hzz,by omega⟩
   ·exact wish6 z hz
  ·refine ⟨_,rfl,a,_,rfl,hm,_,rfl,_,rfl,_,rfl,_,_,rfl,rfl,rfl,p,_,rfl,b,?_,?_,λ r' M5 s0 s1 b5 f5=>?_⟩
   ·show (0:Int) < ((numsA.map PyData.str).length:Nat)
    rw [List.length_map]
    exact by decide
   ·show (((numsA.map PyData.str).length:Nat):Int) < 1073741824
    rw [List.length_map]
    exact by decide
   ·obtain ⟨z,ez,hz⟩:=ix_str_in (M:=M5) (zs:=numsA) s0 (by simpa using s1)
    exact ⟨r',_,rfl,ez,rfl,app M5 z b5 f5 (numsA_ok z hz)⟩
 ·rintro τ M' ⟨zs,b,hm,hlen,hall,y1,rfl⟩
  rw [List.length_map] at hlen
  have hs:=sum44 (n:=4400) zs λ y hy=>(hall y hy).2
  have e1:(" " : Str).length=1:=by decide +kernel
  obtain ⟨ja,jl⟩:=join_asc (sep := " ") (ys:=zs) (asc_dec (by decide +kernel)) λ y hy=>asc_of_b (hall y hy).1
  have jl2:(Txt.join " " zs).length<=31000:=by
   have h7:zs.length<=7:=by omega
   have:=hs.2
   have:4401 * zs.length<=4401 * 7:=Nat.mul_le_mul_left _ h7
   omega
  refine ⟨⟨_,rfl⟩,_,rfl,a,zs.map PyData.str,rfl,by rw [hm,strs_d], " ",zs,rfl,rfl,?_,8000,rfl,_,rfl,decide_eq_true (by omega),?_⟩
  ·rw [e1]
   have:4400 * zs.length<=4400 * 7:=Nat.mul_le_mul_left _ (by omega)
   have:=hs.1
   omega
  ·have sl:=PySem.Txt.slice_le (Txt.join " " zs) none (some 8000)
   exact k _ _ (asc_b (asc_slice ja _ _)) (by omega) (bag_keep b (delM_ne pa))
noncomputable def Bn:Nat->Nat
 | 0=>100
 | n+1=>4 * Bn n+1
theorem Bn_le:∀ n < 4,Bn n<=6421:=by decide
theorem Bn_le2:∀ n < 3,Bn n<=2000:=by decide
theorem res_none {z:Str}(h:(res z).isNone=true):res z=none:=Option.isNone_iff_eq_none.mp h
theorem res_e0:res "" = none:=res_none (by decide +kernel)
theorem res_e1:res " " = none:=res_none (by decide +kernel)
noncomputable def sp_law:SpD:=λ ws M Q=>∃ ns:List Int,ws=[.d (.list (ns.map PyData.int))]/\ns.length<=63/\∀ M',Q (.d (.bool true)) M'
theorem len_law:∀ ws M Q,sp_law ws M Q->ws.length=1:=by rintro ws M Q ⟨d,rfl,_⟩; rfl
theorem law_read:∀ ns:List Int,ns.length<=63->sp_law [.d (.list (ns.map PyData.int))] (λ _=>none) (λ w _=>w=.d (.bool true)):=λ ns h=>⟨ns,rfl,h,λ _=>rfl⟩
theorem read_law:∀ ws M Q,sp_law ws M Q->t_law sp_l_bag sp_l_deed sp_l_written sp_l_take sp_l_bent sp_l_strange sp_l_told sp_l_due { nx:=λ _ M'=>Q (.d .none) M',rt:=Q } (startD N_law ws) M:=by
 rintro ws M Q ⟨ns,rfl,hl,k⟩
 have s16':=s16
 refine ⟨_,rfl,ns,rfl,by omega,λ p M1 _ f1 b1=>?_⟩
 refine ⟨_,rfl,by omega,by omega,?_⟩
 refine ⟨λ i τ M'=>Bag M' p/\∃ x0 y2 y3 y4 y5 y6 y7 y8,τ=[x0,some (.m p),y2,y3,y4,y5,y6,y7,y8],⟨b1,_,_,_,_,_,_,_,_,rfl⟩,?_,?_⟩
 ·rintro i w τ M' hw ⟨b,x0,y2,y3,y4,y5,y6,y7,y8,rfl⟩
  refine ⟨_,rfl,p,rfl,b,λ x hx ds M2 hld hv b2 f2=>?_⟩
  have ta:=tx_asc hx hld hv
  have tl:=tx_len hx (by omega) hv
  refine ⟨_,rfl,x,hx,ds,rfl,hld,hv,_,rfl,?_⟩
  refine ⟨_,rfl,p,3,rfl,b2,by decide,by decide,λ r M3 r0 r1 b3 f3=>.inl ⟨_,_,rfl,rfl,1+r,rfl,by omega,by omega,?_⟩⟩
  refine ⟨λ i τ M'=>Bag M' p/\∃ z:Str,ascB z=true/\z.length<=Bn i/\∃ x0 y2 y6 y7 y8,τ=[x0,some (.m p),y2,some (.d (dd x.1 ds)),some (.d (.str (txD x ds))),some (.d (.str z)),y6,y7,y8],⟨b3,_,ta,tl,_,_,_,_,_,rfl⟩,?_,?_⟩
  ·rintro j w τ M4 hw ⟨b4,z,za,zl,x0,y2,y6,y7,y8,rfl⟩
   obtain ⟨hj,rfl⟩:=rng_at hw
   have h2:=Bn_le2 j (by omega)
   refine ⟨_,rfl,_,rfl,p,z,rfl,b4,za,by omega,λ y M5 hy ly b5 f5=>⟨b5,y,hy,?_,_,_,_,_,_,rfl⟩⟩
   show y.length<=4 * Bn j+1
   omega
  ·rintro τ M4 ⟨b4,z,za,zl,x0,y2,y6,y7,y8,rfl⟩
   have h3:=Bn_le (rangeW 0 (1+r).toNat).length (by simp [rangeW]; omega)
   have zl':z.length<=6421:=by omega
   refine ⟨_,rfl,_,rfl,few (by simp),_,rfl,_,rfl,few (by simp),_,rfl,_,rfl,few (by simp),_,rfl,p,8,rfl,b4,by decide,by decide,λ r2 M5 s0 s1 b5 f5=>?_⟩
   obtain ⟨od,eod,hod⟩:=ix_at (M:=M5) (ds:=[.none,.int 5,.bool true,.list [.str (txD x ds)],.tuple [.str (txD x ds)],dd x.1 ds,.dict [],.int 0]) s0 (by simpa using s1)
   have hOd:Od od:=by
    refine .inl ?_
    simp only [List.mem_cons,List.not_mem_nil,or_false] at hod
    rcases hod with rfl | rfl | rfl | rfl | rfl | rfl | rfl | rfl <;> rfl
   refine ⟨r2,_,rfl,eod,rfl,?_⟩
   refine ⟨_,rfl,_,rfl,_,rfl,p,rfl,b5,λ zs M6 hzs lzs b6=>⟨_,rfl,_,rfl,_,rfl,_,rfl,few (by simp),_,rfl,?_⟩⟩
   have hall:∀ d∈[PyData.str z,.str (txD x ds),.str zs,od,.str z,.str (txD x ds)],Od d:=by
    intro d hd
    simp only [List.mem_cons,List.not_mem_nil,or_false] at hd
    have o1:Od (.str z):=.inr ⟨z,rfl,za,by omega⟩
    have o2:Od (.str (txD x ds)):=.inr ⟨_,rfl,ta,by omega⟩
    rcases hd with rfl | rfl | rfl | rfl | rfl | rfl
    ·exact o1
    ·exact o2
    ·exact .inr ⟨zs,rfl,hzs,lzs⟩
    ·exact hOd
    ·exact o1
    ·exact o2
   refine ⟨λ i τ M'=>Bag M' p/\∃ x0 y2 y3 y4 y5 y6 y7 y8,τ=[x0,some (.m p),y2,y3,y4,y5,y6,y7,y8],⟨b6,_,_,_,_,_,_,_,_,rfl⟩,?_,?_⟩
   ·rintro j w τ M7 hw ⟨b7,x0,y2,y3,y4,y5,y6,y7,y8,rfl⟩
    obtain ⟨d,hd,rfl⟩:=map_at hw
    have od':=hall d (List.mem_of_getElem? hd)
    obtain ⟨q1,q2⟩:=told_eq d
    exact ⟨_,rfl,d,rfl,od',λ M8 x8=>⟨_,rfl,d,rfl,od',λ M9 x9=>⟨_,_,.d,.d,q1,_,rfl,ite_n q2 ⟨Ext.bag x9 (Ext.bag x8 b7),_,_,_,_,_,_,_,_,rfl⟩⟩⟩⟩
   ·rintro τ M7 ⟨b7,x0,y2,y3,y4,y5,y6,y7,y8,rfl⟩
    exact ⟨b7,_,_,_,_,_,_,_,_,rfl⟩
 ·rintro τ M' ⟨b,x0,y2,y3,y4,y5,y6,y7,y8,rfl⟩
  have o:=eqOk_of (by decide) refused_ok
  have q1:eqOk2 refused refused=true:=by
   unfold refused at o ⊢
   simp only [eqOk2,o,Bool.and_self]
  have q2:=refl_of refused_ok
  refine ⟨.str "",rfl,.inr ⟨_,rfl,by decide +kernel,by decide +kernel⟩,λ M2 x2=>?_⟩
  rw [told_none res_e0]
  refine ⟨_,rfl,few (by simp),refused,refused,.d,.d,q1,_,rfl,ite_y q2 ?_⟩
  refine ⟨.str " ",rfl,.inr ⟨_,rfl,by decide +kernel,by decide +kernel⟩,λ M3 x3=>?_⟩
  rw [told_none res_e1]
  refine ⟨_,rfl,few (by simp),refused,refused,.d,.d,q1,?_⟩
  rw [q2]
  exact k M3
end K15
namespace K15
open PySem PySem.Spec PyProof.Rows L2 D Stc
noncomputable def top (i:Nat):Stmt:=PySem.Challenge.pw_placedworks_k15_texts_refused.main.body.getD i (.Pass ⟨0,0,0,0⟩)
noncomputable abbrev s_l_bag:Stmt:=top 24
noncomputable abbrev s_l_codes:Stmt:=top 27
noncomputable abbrev s_l_take:Stmt:=top 25
noncomputable abbrev s_l_number:Stmt:=top 29
noncomputable abbrev s_l_word:Stmt:=top 26
noncomputable abbrev s_l_bounds:Stmt:=top 28
noncomputable abbrev s_l_part:Stmt:=top 30
noncomputable abbrev s_l_deed:Stmt:=top 31
noncomputable abbrev s_l_figures:Stmt:=top 36
noncomputable abbrev s_l_written:Stmt:=top 37
noncomputable abbrev s_l_bent:Stmt:=top 40
noncomputable abbrev s_l_strange:Stmt:=top 41
noncomputable abbrev s_read_number:Stmt:=top 22
noncomputable abbrev s_read_part:Stmt:=top 21
noncomputable abbrev s_is_word:Stmt:=top 4
noncomputable abbrev s_is_whole:Stmt:=top 2
noncomputable abbrev s_is_within:Stmt:=top 3
noncomputable abbrev s_is_part:Stmt:=top 10
noncomputable abbrev s_keep_fits:Stmt:=top 11
noncomputable abbrev s_is_deed:Stmt:=top 9
noncomputable abbrev s_read_deed:Stmt:=top 20
noncomputable abbrev s_l_told:Stmt:=top 42
noncomputable abbrev s_l_number_in:Stmt:=top 38
noncomputable abbrev s_l_is_word:Stmt:=top 32
noncomputable abbrev s_l_between:Stmt:=top 33
noncomputable abbrev s_l_fits:Stmt:=top 34
noncomputable abbrev s_l_good:Stmt:=top 35
noncomputable abbrev s_l_read:Stmt:=top 39
noncomputable abbrev s_l_due:Stmt:=top 43
noncomputable abbrev s_law:Stmt:=top 44
structure Env (w:World)(K:PySem.W.Frag)(mg:Str->Option Value):Prop where
 m_NoDeed:mg "NoDeed" = some (.ref C_NoDeed)
 m_NoRow:mg "NoRow" = some (.ref C_NoRow)
 m_NoText:mg "NoText" = some (.ref C_NoText)
 m_PlaceError:mg "PlaceError" = some (.ref C_PlaceError)
 x_NoText:XO.XC K C_NoText
 e_NoText_NoText:PySem.W.exmOne K (.ref C_NoText) (.ref C_NoText)=some true
 i_NoText_NoDeed_NoRow:PySem.W.kitAny K (.ref C_NoText) [.ref C_NoDeed,.ref C_NoRow]=some false
 i_NoText_PlaceError:PySem.W.kitAny K (.ref C_NoText) [.ref C_PlaceError]=some true
 xk_NoText:PySem.W.keepIn K (.ref C_NoText)=true
 xn_NoText:XO.xno K C_NoText=true
 xt_NoText:PySem.W.typeIn K (.ref C_NoText)=some (.type "type")
 m_BOUNDS:mg "BOUNDS" = some (.ref C_BOUNDS)
 m_ENDING_SORTS:mg "ENDING_SORTS" = some (.ref C_ENDING_SORTS)
 m_PARTS:mg "PARTS" = some (.ref C_PARTS)
 k_BOUNDS:KDict w K C_BOUNDS g_BOUNDS
 k_PARTS:KDict w K C_PARTS g_PARTS
 t_ENDING_SORTS:tupIs K (.ref C_ENDING_SORTS) (.tuple [.str "wish",.str "store",.str "door",.str "rule"])=true
 b_abs:mg "abs" = none
 b_all:mg "all" = none
 b_bool:mg "bool" = none
 b_int:mg "int" = none
 b_isinstance:mg "isinstance" = none
 b_len:mg "len" = none
 b_max:mg "max" = none
 b_min:mg "min" = none
 b_range:mg "range" = none
 b_repr:mg "repr" = none
 b_sorted:mg "sorted" = none
 b_str:mg "str" = none
 b_tuple:mg "tuple" = none
 b_zip:mg "zip" = none
 c_FIGURES:∃ t,mg "FIGURES" = some (.str "0123456789" t)
 c_LONGEST_WORD:∃ t,mg "LONGEST_WORD" = some (.int 8 t)
 c_MOST_FIGURES:∃ t,mg "MOST_FIGURES" = some (.int 10 t)
section
variable {P:Program}{w:World}{K:PySem.W.Frag}{mg:Str->Option Value}{base:Heap}
theorem ndc_0:(["_law_cell"]:List Str).Nodup:=by decide +kernel
theorem sc_l_bag:FnScope N_l_bag ["_law_script"] (defScope s_l_bag):=⟨rfl,rfl,rfl,by decide +kernel,rfl,by decide +kernel,by decide +kernel⟩
theorem ok_l_bag {f:Addr}{fd:FuncData}(E:Env w K mg)(F:Fn K mg "_law_bag" s_l_bag ["_law_script"] f fd) :
  FnOk P w K mg base CX0 1 f fd ["_law_script"] (upSp K sp_l_bag):=by
 refine fun_ok (t:=t_l_bag) F.fn sc_l_bag len_l_bag (λ cdv A outer s H E' hr=>?_) read_l_bag
 refine Jd.h ?_
 exact Q.pssd_one (Q.psd_ret (Q.pd_lstM (Q.pac (Q.pd_int) (Q.pac (Q.pd_int) (Q.pac (Q.pd_int) (Q.pac (Q.pd_lc rfl (lcOk (own:=(["_law_cell"]:List Str)) (fr:=[]) rfl) (Q.pid_items (Q.pd_slice (Q.dv 0) (Q.pod_none) (Q.pod_some (Q.pd_int)))) (λ _ _ _ _ _ _=>Q.pgd_name (i:=0) ndc_0 rfl (Or.inl rfl)) (λ _ _ _ _ _ _=>Q.ptsd_nil) (λ _ _ _ _ _ _=>Q.pcB call_abs cd_abs rfl E.b_abs bb_abs (Q.pac (Q.dv 0) (Q.pad_nil)))) (Q.pad_nil)))))))
theorem sc_l_codes:FnScope N_l_codes [] (defScope s_l_codes):=⟨rfl,rfl,rfl,by decide +kernel,rfl,by decide +kernel,by decide +kernel⟩
theorem ok_l_codes {f:Addr}{fd:FuncData}(E:Env w K mg)(F:Fn K mg "_law_codes" s_l_codes [] f fd) :
  FnOk P w K mg base CX0 1 f fd [] (upSp K sp_l_codes):=by
 refine fun_ok (t:=t_l_codes) F.fn sc_l_codes len_l_codes (λ cdv A outer s H E' hr=>?_) read_l_codes
 refine Jd.h ?_
 exact Q.pssd_cons (Q.psd_set (i:=0) sc_l_codes.nd rfl (Or.inl rfl) (Q.pd_dictM (trs:=[(dC (.d (.str "group")),dC (.d (.str "ws"))),(dC (.d (.str "wish")),dC (.d (.str "wwckth"))),(dC (.d (.str "copies")),dC (.d (.str "wck"))),(dC (.d (.str "edition")),dC (.d (.str "wth"))),(dC (.d (.str "back")),dC (.d (.str "w"))),(dC (.d (.str "rank")),dC (.d (.str "wp")))]) (Q.pps_cons (Q.pd_str) (Q.pd_str) (Q.pps_cons (Q.pd_str) (Q.pd_str) (Q.pps_cons (Q.pd_str) (Q.pd_str) (Q.pps_cons (Q.pd_str) (Q.pd_str) (Q.pps_cons (Q.pd_str) (Q.pd_str) (Q.pps_cons (Q.pd_str) (Q.pd_str) (Q.pps_nil))))))))) <|
  Q.pssd_cons (Q.psd_expr (Q.pd_dupd (Q.dv 0) (Q.pd_dict (trs:=[(dC (.d (.str "store")),dC (.d (.str "ww"))),(dC (.d (.str "door")),dC (.d (.str "ww"))),(dC (.d (.str "rule")),dC (.d (.str "wwack"))),(dC (.d (.str "empty")),dC (.d (.str "w"))),(dC (.d (.str "fill")),dC (.d (.str "w"))),(dC (.d (.str "end")),dC (.d (.str "ew")))]) (Q.pps_cons (Q.pd_str) (Q.pd_str) (Q.pps_cons (Q.pd_str) (Q.pd_str) (Q.pps_cons (Q.pd_str) (Q.pd_str) (Q.pps_cons (Q.pd_str) (Q.pd_str) (Q.pps_cons (Q.pd_str) (Q.pd_str) (Q.pps_cons (Q.pd_str) (Q.pd_str) (Q.pps_nil)))))))))) <|
  Q.pssd_one (Q.psd_ret (Q.dv 0))
theorem sc_l_take:FnScope N_l_take ["_law_bag_here", "_law_many"] (defScope s_l_take):=⟨rfl,rfl,rfl,by decide +kernel,rfl,by decide +kernel,by decide +kernel⟩
theorem ok_l_take {f:Addr}{fd:FuncData}(E:Env w K mg)(F:Fn K mg "_law_take" s_l_take ["_law_bag_here", "_law_many"] f fd) :
  FnOk P w K mg base CX0 1 f fd ["_law_bag_here", "_law_many"] (upSp K sp_l_take):=by
 refine fun_ok (t:=t_l_take) F.fn sc_l_take len_l_take (λ cdv A outer s H E' hr=>?_) read_l_take
 refine Jd.h ?_
 exact Q.pssd_cons (Q.psd_if (Q.ptd_cmp (op_eqD hr) opd_eq (Q.pd_ix ix_seq opd_ix (Q.dv 0) (Q.pd_int)) (Q.pd_int))
   (Q.pssd_cons (Q.psd_set (i:=2) sc_l_take.nd rfl (Or.inl rfl) (Q.pd_int)) <|
   Q.pssd_cons (Q.psd_if (Q.ptd_cmp op_lt opd_lt (Q.pd_ix ix_seq opd_ix (Q.dv 0) (Q.pd_int)) (Q.pcB call_len cd_len rfl E.b_len bb_len (Q.pac (Q.pd_ix ix_seq opd_ix (Q.dv 0) (Q.pd_int)) (Q.pad_nil))))
    (Q.pssd_one (Q.psd_set (i:=2) sc_l_take.nd rfl (Or.inl rfl) (Q.pd_ix ix_seq opd_ix (Q.pd_ix ix_seq opd_ix (Q.dv 0) (Q.pd_int)) (Q.pd_ix ix_seq opd_ix (Q.dv 0) (Q.pd_int)))))
    (Q.pssd_nil)) <|
   Q.pssd_cons (Q.psd_augS (Q.dv 0) (Q.pd_int) (Q.pd_int) ip_add) <|
   Q.pssd_cons (Q.psd_if (Q.ptd_cmp op_ge opd_ge (Q.dv 2) (Q.pd_int))
    (Q.pssd_one (Q.psd_asg (Q.dv 2) (Q.pgd_sub (Q.dv 0) (Q.pd_int))))
    (Q.pssd_nil)) <|
   Q.pssd_one (Q.psd_asg (Q.pd_op op_mod opd_mod (Q.pd_op op_add2 opd_add2 (Q.pd_op op_add2 opd_add2 (Q.pd_op op_mul opd_mul (Q.pd_ix ix_seq opd_ix (Q.dv 0) (Q.pd_int)) (Q.pd_int)) (Q.pd_op op_mod opd_mod (Q.dv 2) (Q.pd_int))) (Q.pd_op op_mul opd_mul (Q.pd_int) (Q.pd_ix ix_seq opd_ix (Q.dv 0) (Q.pd_int)))) (Q.pd_int)) (Q.pgd_sub (Q.dv 0) (Q.pd_int))))
   (Q.pssd_nil)) <|
  Q.pssd_cons (Q.psd_if (Q.ptd_cmp op_gt opd_gt (Q.pd_ix ix_seq opd_ix (Q.dv 0) (Q.pd_int)) (Q.pd_int))
   (Q.pssd_cons (Q.psd_set (i:=3) sc_l_take.nd rfl (Or.inl rfl) (Q.pd_op op_mod opd_mod (Q.pd_ix ix_seq opd_ix (Q.dv 0) (Q.pd_int)) (Q.dv 1))) <|
   Q.pssd_cons (Q.psd_asg (Q.pd_op op_fdiv opd_div (Q.pd_ix ix_seq opd_ix (Q.dv 0) (Q.pd_int)) (Q.dv 1)) (Q.pgd_sub (Q.dv 0) (Q.pd_int))) <|
   Q.pssd_one (Q.psd_ret (Q.dv 3)))
   (Q.pssd_nil)) <|
  Q.pssd_cons (Q.psd_set (i:=4) sc_l_take.nd rfl (Or.inl rfl) (Q.pd_op op_mod opd_mod (Q.pd_op op_mul opd_mul (Q.pd_op op_add2 opd_add2 (Q.pd_ix ix_seq opd_ix (Q.dv 0) (Q.pd_int)) (Q.pd_int)) (Q.pd_int)) (Q.pd_int))) <|
  Q.pssd_cons (Q.psd_set (i:=5) sc_l_take.nd rfl (Or.inl rfl) (Q.pd_op op_mod opd_mod (Q.pd_op op_mul opd_mul (Q.pd_op op_mod opd_mod (Q.pd_op op_mul opd_mul (Q.dv 4) (Q.dv 4)) (Q.pd_int)) (Q.pd_int)) (Q.pd_int))) <|
  Q.pssd_cons (Q.psd_if (Q.ptd_cmp op_gt opd_gt (Q.dv 1) (Q.pd_int))
   (Q.pssd_one (Q.psd_ret (Q.pd_op op_mod opd_mod (Q.pd_op op_add2 opd_add2 (Q.pd_op op_mul opd_mul (Q.dv 5) (Q.pd_int)) (Q.dv 4)) (Q.dv 1))))
   (Q.pssd_nil)) <|
  Q.pssd_one (Q.psd_ret (Q.pd_op op_mod opd_mod (Q.pd_op op_fdiv opd_div (Q.dv 5) (Q.pd_int)) (Q.dv 1)))
theorem sc_l_number:FnScope N_l_number ["_law_bag_here", "_law_low", "_law_high"] (defScope s_l_number):=⟨rfl,rfl,rfl,by decide +kernel,rfl,by decide +kernel,by decide +kernel⟩
theorem ok_l_number {f:Addr}{fd:FuncData}(E:Env w K mg)(F:Fn K mg "_law_number" s_l_number ["_law_bag_here", "_law_low", "_law_high"] f fd)
  {f_l_take:Addr}{fd_l_take:FuncData}(G_l_take:Fn K mg "_law_take" s_l_take ["_law_bag_here", "_law_many"] f_l_take fd_l_take)(O_l_take:FnOk P w K mg base CX0 1 f_l_take fd_l_take ["_law_bag_here", "_law_many"] (upSp K sp_l_take)) :
  FnOk P w K mg base CX0 2 f fd ["_law_bag_here", "_law_low", "_law_high"] (upSp K sp_l_number):=by
 refine fun_ok (t:=t_l_number sp_l_take) F.fn sc_l_number len_l_number (λ cdv A outer s H E' hr=>?_) read_l_number
 refine Jd.h ?_
 exact Q.pssd_one (Q.psd_ret (Q.pd_ix ix_seq opd_ix (Q.pd_lst (Q.pac (Q.dv 1) (Q.pac (Q.dv 2) (Q.pac (Q.pd_op op_add2 opd_add2 (Q.dv 1) (Q.pcF O_l_take (hr.mono (by decide)) rfl G_l_take.mg G_l_take.fn.kp G_l_take.bd (Q.pac (Q.dv 0) (Q.pac (Q.pd_op op_add2 opd_add2 (Q.pd_op op_sub opd_sub (Q.dv 2) (Q.dv 1)) (Q.pd_int)) (Q.pad_nil))))) (Q.pad_nil))))) (Q.pcB (call_min2 rfl) cd_min2 rfl E.b_min bb_min (Q.pac (Q.pd_int) (Q.pac (Q.pcF O_l_take (hr.mono (by decide)) rfl G_l_take.mg G_l_take.fn.kp G_l_take.bd (Q.pac (Q.dv 0) (Q.pac (Q.pd_int) (Q.pad_nil)))) (Q.pad_nil))))))
theorem ndc_1:(["_law_k", "_law_letters", "_law_bag_here"]:List Str).Nodup:=by decide +kernel
theorem sc_l_word:FnScope N_l_word ["_law_bag_here"] (defScope s_l_word):=⟨rfl,rfl,rfl,by decide +kernel,rfl,by decide +kernel,by decide +kernel⟩
theorem ok_l_word {f:Addr}{fd:FuncData}(E:Env w K mg)(F:Fn K mg "_law_word" s_l_word ["_law_bag_here"] f fd)
  {f_l_take:Addr}{fd_l_take:FuncData}(G_l_take:Fn K mg "_law_take" s_l_take ["_law_bag_here", "_law_many"] f_l_take fd_l_take)(O_l_take:FnOk P w K mg base CX0 1 f_l_take fd_l_take ["_law_bag_here", "_law_many"] (upSp K sp_l_take)) :
  FnOk P w K mg base CX0 2 f fd ["_law_bag_here"] (upSp K sp_l_word):=by
 refine fun_ok (t:=t_l_word sp_l_take) F.fn sc_l_word len_l_word (λ cdv A outer s H E' hr=>?_) read_l_word
 refine Jd.h ?_
 exact Q.pssd_cons (Q.psd_set (i:=1) sc_l_word.nd rfl (Or.inl rfl) (Q.pd_lst (Q.pac (Q.pd_str) (Q.pac (Q.pd_str) (Q.pac (Q.pd_str) (Q.pac (Q.pd_str) (Q.pac (Q.pd_str) (Q.pac (Q.pd_str) (Q.pac (Q.pd_str) (Q.pac (Q.pd_str) (Q.pac (Q.pd_str) (Q.pac (Q.pd_str) (Q.pad_nil))))))))))))) <|
  Q.pssd_cons (Q.psd_set (i:=2) sc_l_word.nd rfl (Or.inr rfl) (Q.pd_str)) <|
  Q.pssd_cons (Q.psd_if (Q.ptd_cmp op_gt opd_gt (Q.pcF O_l_take (hr.mono (by decide)) rfl G_l_take.mg G_l_take.fn.kp G_l_take.bd (Q.pac (Q.dv 0) (Q.pac (Q.pd_int) (Q.pad_nil)))) (Q.pd_int))
   (Q.pssd_one (Q.psd_ret (Q.pd_ix ix_seq opd_ix (Q.dv 1) (Q.pcF O_l_take (hr.mono (by decide)) rfl G_l_take.mg G_l_take.fn.kp G_l_take.bd (Q.pac (Q.dv 0) (Q.pac (Q.pd_int) (Q.pad_nil)))))))
   (Q.pssd_nil)) <|
  Q.pssd_one (Q.psd_ret (Q.pd_join (Q.pd_str) (Q.pd_lc rfl (lcOk (own:=(["_law_k"]:List Str)) (fr:=[2,0]) rfl) (Q.pid_range1 rfl E.b_range (Q.pac (Q.pd_op op_add2 opd_add2 (Q.pd_int) (Q.pcF O_l_take (hr.mono (by decide)) rfl G_l_take.mg G_l_take.fn.kp G_l_take.bd (Q.pac (Q.dv 0) (Q.pac (Q.pd_int) (Q.pad_nil))))) (Q.pad_nil))) (λ _ _ _ _ _ _=>Q.pgd_name (i:=0) ndc_1 rfl (Or.inl rfl)) (λ _ _ _ _ _ _=>Q.ptsd_nil) (λ _ _ _ _ _ _=>Q.pd_ix ix_seq opd_ix (Q.dv 1) (Q.pcF O_l_take (hr.mono (by decide)) rfl G_l_take.mg G_l_take.fn.kp G_l_take.bd (Q.pac (Q.dv 2) (Q.pac (Q.pd_int) (Q.pad_nil))))))))
theorem sc_l_bounds:FnScope N_l_bounds ["_law_code"] (defScope s_l_bounds):=⟨rfl,rfl,rfl,by decide +kernel,rfl,by decide +kernel,by decide +kernel⟩
theorem ok_l_bounds {f:Addr}{fd:FuncData}(E:Env w K mg)(F:Fn K mg "_law_bounds" s_l_bounds ["_law_code"] f fd) :
  FnOk P w K mg base CX0 1 f fd ["_law_code"] (upSp K sp_l_bounds):=by
 refine fun_ok (t:=t_l_bounds) F.fn sc_l_bounds len_l_bounds (λ cdv A outer s H E' hr=>?_) read_l_bounds
 refine Jd.h ?_
 exact Q.pssd_one (Q.psd_ret (Q.pd_dget (hu_of hr) (Q.pd_dictM (trs:=[(dC (.d (.str "s")),dTup (dCons (dC (.d (.int 1))) (dCons (dC (.d (.int 9))) (dNil)))),(dC (.d (.str "c")),dTup (dCons (dC (.d (.int 0))) (dCons (dC (.d (.int 6))) (dNil)))),(dC (.d (.str "k")),dTup (dCons (dC (.d (.int 0))) (dCons (dC (.d (.int 5))) (dNil)))),(dC (.d (.str "t")),dTup (dCons (dC (.d (.int 0))) (dCons (dC (.d (.int 2))) (dNil)))),(dC (.d (.str "h")),dTup (dCons (dC (.d (.int 1))) (dCons (dC (.d (.int 3))) (dNil)))),(dC (.d (.str "p")),dTup (dCons (dC (.d (.int 0))) (dCons (dC (.d (.int 7))) (dNil)))),(dC (.d (.str "a")),dTup (dCons (dC (.d (.int 1))) (dCons (dC (.d (.int 20))) (dNil))))]) (Q.pps_cons (Q.pd_str) (Q.pd_tup (Q.pac (Q.pd_int) (Q.pac (Q.pd_int) (Q.pad_nil)))) (Q.pps_cons (Q.pd_str) (Q.pd_tup (Q.pac (Q.pd_int) (Q.pac (Q.pd_int) (Q.pad_nil)))) (Q.pps_cons (Q.pd_str) (Q.pd_tup (Q.pac (Q.pd_int) (Q.pac (Q.pd_int) (Q.pad_nil)))) (Q.pps_cons (Q.pd_str) (Q.pd_tup (Q.pac (Q.pd_int) (Q.pac (Q.pd_int) (Q.pad_nil)))) (Q.pps_cons (Q.pd_str) (Q.pd_tup (Q.pac (Q.pd_int) (Q.pac (Q.pd_int) (Q.pad_nil)))) (Q.pps_cons (Q.pd_str) (Q.pd_tup (Q.pac (Q.pd_int) (Q.pac (Q.pd_int) (Q.pad_nil)))) (Q.pps_cons (Q.pd_str) (Q.pd_tup (Q.pac (Q.pd_int) (Q.pac (Q.pd_int) (Q.pad_nil)))) (Q.pps_nil))))))))) (Q.dv 0)))
theorem sc_l_part:FnScope N_l_part ["_law_bag_here", "_law_code"] (defScope s_l_part):=⟨rfl,rfl,rfl,by decide +kernel,rfl,by decide +kernel,by decide +kernel⟩
theorem ok_l_part {f:Addr}{fd:FuncData}(E:Env w K mg)(F:Fn K mg "_law_part" s_l_part ["_law_bag_here", "_law_code"] f fd)
  {f_l_word:Addr}{fd_l_word:FuncData}(G_l_word:Fn K mg "_law_word" s_l_word ["_law_bag_here"] f_l_word fd_l_word)(O_l_word:FnOk P w K mg base CX0 2 f_l_word fd_l_word ["_law_bag_here"] (upSp K sp_l_word))
  {f_l_take:Addr}{fd_l_take:FuncData}(G_l_take:Fn K mg "_law_take" s_l_take ["_law_bag_here", "_law_many"] f_l_take fd_l_take)(O_l_take:FnOk P w K mg base CX0 1 f_l_take fd_l_take ["_law_bag_here", "_law_many"] (upSp K sp_l_take))
  {f_l_bounds:Addr}{fd_l_bounds:FuncData}(G_l_bounds:Fn K mg "_law_bounds" s_l_bounds ["_law_code"] f_l_bounds fd_l_bounds)(O_l_bounds:FnOk P w K mg base CX0 1 f_l_bounds fd_l_bounds ["_law_code"] (upSp K sp_l_bounds))
  {f_l_number:Addr}{fd_l_number:FuncData}(G_l_number:Fn K mg "_law_number" s_l_number ["_law_bag_here", "_law_low", "_law_high"] f_l_number fd_l_number)(O_l_number:FnOk P w K mg base CX0 2 f_l_number fd_l_number ["_law_bag_here", "_law_low", "_law_high"] (upSp K sp_l_number)) :
  FnOk P w K mg base CX0 3 f fd ["_law_bag_here", "_law_code"] (upSp K sp_l_part):=by
 refine fun_ok (t:=t_l_part sp_l_word sp_l_take sp_l_bounds sp_l_number) F.fn sc_l_part len_l_part (λ cdv A outer s H E' hr=>?_) read_l_part
 refine Jd.h ?_
 exact Q.pssd_cons (Q.psd_if (Q.ptd_cmp (op_eqT hr) opd_eqT (Q.dv 1) (Q.pd_str))
   (Q.pssd_one (Q.psd_ret (Q.pcF O_l_word (hr.mono (by decide)) rfl G_l_word.mg G_l_word.fn.kp G_l_word.bd (Q.pac (Q.dv 0) (Q.pad_nil)))))
   (Q.pssd_nil)) <|
  Q.pssd_cons (Q.psd_if (Q.ptd_cmp (op_eqT hr) opd_eqT (Q.dv 1) (Q.pd_str))
   (Q.pssd_one (Q.psd_ret (Q.pd_ix ix_seq opd_ix (Q.pd_lst (Q.pac (Q.pd_str) (Q.pac (Q.pd_str) (Q.pac (Q.pd_str) (Q.pac (Q.pd_str) (Q.pad_nil)))))) (Q.pcF O_l_take (hr.mono (by decide)) rfl G_l_take.mg G_l_take.fn.kp G_l_take.bd (Q.pac (Q.dv 0) (Q.pac (Q.pd_int) (Q.pad_nil)))))))
   (Q.pssd_nil)) <|
  Q.pssd_cons (Q.psd_asg (Q.pcF O_l_bounds (hr.mono (by decide)) rfl G_l_bounds.mg G_l_bounds.fn.kp G_l_bounds.bd (Q.pac (Q.dv 1) (Q.pad_nil))) (Q.pgd_tup rfl (Q.pgsd_cons (Q.pgd_name (i:=2) sc_l_part.nd rfl (Or.inl rfl)) (Q.pgsd_cons (Q.pgd_name (i:=3) sc_l_part.nd rfl (Or.inl rfl)) (Q.pgsd_nil))))) <|
  Q.pssd_one (Q.psd_ret (Q.pcF O_l_number (hr.mono (by decide)) rfl G_l_number.mg G_l_number.fn.kp G_l_number.bd (Q.pac (Q.dv 0) (Q.pac (Q.dv 2) (Q.pac (Q.dv 3) (Q.pad_nil))))))
theorem sc_l_deed:FnScope N_l_deed ["_law_bag_here"] (defScope s_l_deed):=⟨rfl,rfl,rfl,by decide +kernel,rfl,by decide +kernel,by decide +kernel⟩
theorem ok_l_deed {f:Addr}{fd:FuncData}(E:Env w K mg)(F:Fn K mg "_law_deed" s_l_deed ["_law_bag_here"] f fd)
  {f_l_codes:Addr}{fd_l_codes:FuncData}(G_l_codes:Fn K mg "_law_codes" s_l_codes [] f_l_codes fd_l_codes)(O_l_codes:FnOk P w K mg base CX0 1 f_l_codes fd_l_codes [] (upSp K sp_l_codes))
  {f_l_take:Addr}{fd_l_take:FuncData}(G_l_take:Fn K mg "_law_take" s_l_take ["_law_bag_here", "_law_many"] f_l_take fd_l_take)(O_l_take:FnOk P w K mg base CX0 1 f_l_take fd_l_take ["_law_bag_here", "_law_many"] (upSp K sp_l_take))
  {f_l_number:Addr}{fd_l_number:FuncData}(G_l_number:Fn K mg "_law_number" s_l_number ["_law_bag_here", "_law_low", "_law_high"] f_l_number fd_l_number)(O_l_number:FnOk P w K mg base CX0 2 f_l_number fd_l_number ["_law_bag_here", "_law_low", "_law_high"] (upSp K sp_l_number))
  {f_l_part:Addr}{fd_l_part:FuncData}(G_l_part:Fn K mg "_law_part" s_l_part ["_law_bag_here", "_law_code"] f_l_part fd_l_part)(O_l_part:FnOk P w K mg base CX0 3 f_l_part fd_l_part ["_law_bag_here", "_law_code"] (upSp K sp_l_part)) :
  FnOk P w K mg base CX0 4 f fd ["_law_bag_here"] (upSp K sp_l_deed):=by
 refine fun_ok (t:=t_l_deed sp_l_codes sp_l_take sp_l_number sp_l_part) F.fn sc_l_deed len_l_deed (λ cdv A outer s H E' hr=>?_) read_l_deed
 refine Jd.h ?_
 exact Q.pssd_cons (Q.psd_set (i:=1) sc_l_deed.nd rfl (Or.inl rfl) (Q.pd_call0 O_l_codes (hr.mono (by decide)) rfl G_l_codes.mg G_l_codes.fn.kp G_l_codes.bd)) <|
  Q.pssd_cons (Q.psd_set (i:=2) sc_l_deed.nd rfl (Or.inl rfl) (Q.pd_ix ix_seq opd_ix (Q.pd_seal (Q.pcB (call_sortedD rfl) cd_sortD rfl E.b_sorted bb_sorted (Q.pac (Q.dv 1) (Q.pad_nil)))) (Q.pcF O_l_take (hr.mono (by decide)) rfl G_l_take.mg G_l_take.fn.kp G_l_take.bd (Q.pac (Q.dv 0) (Q.pac (Q.pd_int) (Q.pad_nil)))))) <|
  Q.pssd_cons (Q.psd_set (i:=3) sc_l_deed.nd rfl (Or.inl rfl) (Q.pd_lstM (Q.pac (Q.dv 2) (Q.pad_nil)))) <|
  Q.pssd_cons (Q.psd_for PassesOwn.never rfl (Q.pid_items (Q.pd_dget (hu_of hr) (Q.dv 1) (Q.dv 2))) (Q.pgd_name (i:=4) sc_l_deed.nd rfl (Or.inl rfl))
   (Q.pssd_one (Q.psd_if (Q.ptd_cmp (op_eqT hr) opd_eqT (Q.dv 4) (Q.pd_str))
    (Q.pssd_one (Q.psd_expr (Q.pd_append (Q.dv 3) (Q.pcF O_l_number (hr.mono (by decide)) rfl G_l_number.mg G_l_number.fn.kp G_l_number.bd (Q.pac (Q.dv 0) (Q.pac (Q.pd_int) (Q.pac (Q.pcB (call_max2 rfl) cd_max2 rfl E.b_max bb_max (Q.pac (Q.pd_int) (Q.pac (Q.pd_op op_sub opd_sub (Q.pd_ix ix_seq opd_ix (Q.dv 3) (Q.pd_un un_neg und_neg (Q.pd_int))) (Q.pd_int)) (Q.pad_nil)))) (Q.pad_nil))))))))
    (Q.pssd_one (Q.psd_expr (Q.pd_append (Q.dv 3) (Q.pcF O_l_part (hr.mono (by decide)) rfl G_l_part.mg G_l_part.fn.kp G_l_part.bd (Q.pac (Q.dv 0) (Q.pac (Q.dv 4) (Q.pad_nil)))))))))) <|
  Q.pssd_one (Q.psd_ret (Q.pcT call_tuple_of cd_tupleOf rfl E.b_tuple bt_tuple (Q.pac (Q.dv 3) (Q.pad_nil))))
theorem sc_l_figures:FnScope N_l_figures ["_law_number_here"] (defScope s_l_figures):=⟨rfl,rfl,rfl,by decide +kernel,rfl,by decide +kernel,by decide +kernel⟩
theorem ok_l_figures {f:Addr}{fd:FuncData}(E:Env w K mg)(F:Fn K mg "_law_figures" s_l_figures ["_law_number_here"] f fd) :
  FnOk P w K mg base CX0 1 f fd ["_law_number_here"] (upSp K sp_l_figures):=by
 refine fun_ok (t:=t_l_figures) F.fn sc_l_figures len_l_figures (λ cdv A outer s H E' hr=>?_) read_l_figures
 refine Jd.h ?_
 exact Q.pssd_cons (Q.psd_set (i:=1) sc_l_figures.nd rfl (Or.inl rfl) (Q.pd_str)) <|
  Q.pssd_cons (Q.psd_while PassesOwn.never (Q.ptd_cmp op_gt opd_gt (Q.dv 0) (Q.pd_int))
   (Q.pssd_cons (Q.psd_set (i:=1) sc_l_figures.nd rfl (Or.inl rfl) (Q.pd_op op_add2 opd_add2 (Q.pd_ix ix_seq opd_ix (Q.pd_str) (Q.pd_op op_mod opd_mod (Q.dv 0) (Q.pd_int))) (Q.dv 1))) <|
   Q.pssd_one (Q.psd_set (i:=0) sc_l_figures.nd rfl (Or.inl rfl) (Q.pd_op op_fdiv opd_div (Q.dv 0) (Q.pd_int))))) <|
  Q.pssd_one (Q.psd_ret (Q.pd_op op_add2 opd_add2 (Q.pd_ix ix_seq opd_ix (Q.pd_str) (Q.dv 0)) (Q.dv 1)))
theorem sc_l_written:FnScope N_l_written ["_law_thing"] (defScope s_l_written):=⟨rfl,rfl,rfl,by decide +kernel,rfl,by decide +kernel,by decide +kernel⟩
theorem ok_l_written {f:Addr}{fd:FuncData}(E:Env w K mg)(F:Fn K mg "_law_written" s_l_written ["_law_thing"] f fd)
  {f_l_figures:Addr}{fd_l_figures:FuncData}(G_l_figures:Fn K mg "_law_figures" s_l_figures ["_law_number_here"] f_l_figures fd_l_figures)(O_l_figures:FnOk P w K mg base CX0 1 f_l_figures fd_l_figures ["_law_number_here"] (upSp K sp_l_figures)) :
  FnOk P w K mg base CX0 2 f fd ["_law_thing"] (upSp K sp_l_written):=by
 refine fun_ok (t:=t_l_written sp_l_figures) F.fn sc_l_written len_l_written (λ cdv A outer s H E' hr=>?_) read_l_written
 refine Jd.h ?_
 exact Q.pssd_cons (Q.psd_set (i:=1) sc_l_written.nd rfl (Or.inl rfl) (Q.pd_ix ix_seq opd_ix (Q.dv 0) (Q.pd_int))) <|
  Q.pssd_cons (Q.psd_for PassesOwn.never rfl (Q.pid_items (Q.pd_slice (Q.dv 0) (Q.pod_some (Q.pd_int)) (Q.pod_none))) (Q.pgd_name (i:=2) sc_l_written.nd rfl (Or.inl rfl))
   (Q.pssd_one (Q.psd_if (Q.ptd_val (Q.pcB call_isiT cd_isiT rfl E.b_isinstance bb_isinstance (Q.pac (Q.dv 2) (Q.pac (Q.pd_type rfl E.b_str bt_str) (Q.pad_nil)))))
    (Q.pssd_one (Q.psd_set (i:=1) sc_l_written.nd rfl (Or.inl rfl) (Q.pd_op op_add2 opd_add2 (Q.pd_op op_add2 opd_add2 (Q.dv 1) (Q.pd_str)) (Q.dv 2))))
    (Q.pssd_one (Q.psd_set (i:=1) sc_l_written.nd rfl (Or.inl rfl) (Q.pd_op op_add2 opd_add2 (Q.pd_op op_add2 opd_add2 (Q.dv 1) (Q.pd_str)) (Q.pcF O_l_figures (hr.mono (by decide)) rfl G_l_figures.mg G_l_figures.fn.kp G_l_figures.bd (Q.pac (Q.dv 2) (Q.pad_nil))))))))) <|
  Q.pssd_one (Q.psd_ret (Q.dv 1))
theorem sc_l_bent:FnScope N_l_bent ["_law_bag_here", "_law_text"] (defScope s_l_bent):=⟨rfl,rfl,rfl,by decide +kernel,rfl,by decide +kernel,by decide +kernel⟩
theorem ok_l_bent {f:Addr}{fd:FuncData}(E:Env w K mg)(F:Fn K mg "_law_bent" s_l_bent ["_law_bag_here", "_law_text"] f fd)
  {f_l_take:Addr}{fd_l_take:FuncData}(G_l_take:Fn K mg "_law_take" s_l_take ["_law_bag_here", "_law_many"] f_l_take fd_l_take)(O_l_take:FnOk P w K mg base CX0 1 f_l_take fd_l_take ["_law_bag_here", "_law_many"] (upSp K sp_l_take)) :
  FnOk P w K mg base CX0 2 f fd ["_law_bag_here", "_law_text"] (upSp K sp_l_bent):=by
 refine fun_ok (t:=t_l_bent sp_l_take) F.fn sc_l_bent len_l_bent (λ cdv A outer s H E' hr=>?_) read_l_bent
 refine Jd.h ?_
 exact Q.pssd_cons (Q.psd_set (i:=2) sc_l_bent.nd rfl (Or.inl rfl) (Q.pd_str)) <|
  Q.pssd_cons (Q.psd_set (i:=3) sc_l_bent.nd rfl (Or.inl rfl) (Q.pd_ix ix_seq opd_ix (Q.dv 2) (Q.pcF O_l_take (hr.mono (by decide)) rfl G_l_take.mg G_l_take.fn.kp G_l_take.bd (Q.pac (Q.dv 0) (Q.pac (Q.pcB call_len cd_len rfl E.b_len bb_len (Q.pac (Q.dv 2) (Q.pad_nil))) (Q.pad_nil)))))) <|
  Q.pssd_cons (Q.psd_set (i:=4) sc_l_bent.nd rfl (Or.inl rfl) (Q.pcF O_l_take (hr.mono (by decide)) rfl G_l_take.mg G_l_take.fn.kp G_l_take.bd (Q.pac (Q.dv 0) (Q.pac (Q.pd_op op_add2 opd_add2 (Q.pcB call_len cd_len rfl E.b_len bb_len (Q.pac (Q.dv 1) (Q.pad_nil))) (Q.pd_int)) (Q.pad_nil))))) <|
  Q.pssd_cons (Q.psd_set (i:=5) sc_l_bent.nd rfl (Or.inl rfl) (Q.pcF O_l_take (hr.mono (by decide)) rfl G_l_take.mg G_l_take.fn.kp G_l_take.bd (Q.pac (Q.dv 0) (Q.pac (Q.pd_int) (Q.pad_nil))))) <|
  Q.pssd_cons (Q.psd_if (Q.ptd_cmp op_lt opd_lt (Q.dv 5) (Q.pd_int))
   (Q.pssd_one (Q.psd_ret (Q.pd_op op_add2 opd_add2 (Q.pd_op op_add2 opd_add2 (Q.pd_slice (Q.dv 1) (Q.pod_none) (Q.pod_some (Q.dv 4))) (Q.dv 3)) (Q.pd_slice (Q.dv 1) (Q.pod_some (Q.dv 4)) (Q.pod_none)))))
   (Q.pssd_nil)) <|
  Q.pssd_cons (Q.psd_if (Q.ptd_cmp (op_eqT hr) opd_eqT (Q.dv 5) (Q.pd_int))
   (Q.pssd_one (Q.psd_ret (Q.pd_op op_add2 opd_add2 (Q.pd_op op_add2 opd_add2 (Q.pd_slice (Q.dv 1) (Q.pod_none) (Q.pod_some (Q.dv 4))) (Q.dv 3)) (Q.pd_slice (Q.dv 1) (Q.pod_some (Q.pd_op op_add2 opd_add2 (Q.dv 4) (Q.pd_int))) (Q.pod_none)))))
   (Q.pssd_nil)) <|
  Q.pssd_cons (Q.psd_if (Q.ptd_cmp (op_eqT hr) opd_eqT (Q.dv 5) (Q.pd_int))
   (Q.pssd_one (Q.psd_ret (Q.pd_op op_add2 opd_add2 (Q.pd_slice (Q.dv 1) (Q.pod_none) (Q.pod_some (Q.dv 4))) (Q.pd_slice (Q.dv 1) (Q.pod_some (Q.pd_op op_add2 opd_add2 (Q.dv 4) (Q.pd_int))) (Q.pod_none)))))
   (Q.pssd_nil)) <|
  Q.pssd_cons (Q.psd_if (Q.ptd_cmp (op_eqT hr) opd_eqT (Q.dv 5) (Q.pd_int))
   (Q.pssd_one (Q.psd_ret (Q.pd_op op_add2 opd_add2 (Q.pd_op op_add2 opd_add2 (Q.pd_slice (Q.dv 1) (Q.pod_none) (Q.pod_some (Q.dv 4))) (Q.pd_revS (Q.pd_slice (Q.dv 1) (Q.pod_some (Q.dv 4)) (Q.pod_some (Q.pd_op op_add2 opd_add2 (Q.dv 4) (Q.pd_int)))) (Q.pod_some (Q.pd_un un_neg und_neg (Q.pd_int))))) (Q.pd_slice (Q.dv 1) (Q.pod_some (Q.pd_op op_add2 opd_add2 (Q.dv 4) (Q.pd_int))) (Q.pod_none)))))
   (Q.pssd_nil)) <|
  Q.pssd_cons (Q.psd_if (Q.ptd_cmp (op_eqT hr) opd_eqT (Q.dv 5) (Q.pd_int))
   (Q.pssd_one (Q.psd_ret (Q.pd_op op_add2 opd_add2 (Q.pd_op op_add2 opd_add2 (Q.pd_slice (Q.dv 1) (Q.pod_none) (Q.pod_some (Q.dv 4))) (Q.pd_str)) (Q.pd_slice (Q.dv 1) (Q.pod_some (Q.dv 4)) (Q.pod_none)))))
   (Q.pssd_nil)) <|
  Q.pssd_cons (Q.psd_set (i:=6) sc_l_bent.nd rfl (Or.inl rfl) (Q.pd_slice (Q.dv 1) (Q.pod_some (Q.dv 4)) (Q.pod_none))) <|
  Q.pssd_cons (Q.psd_set (i:=7) sc_l_bent.nd rfl (Or.inl rfl) (Q.pd_op op_add2 opd_add2 (Q.pd_find (Q.dv 6) (Q.pd_str)) (Q.pd_int))) <|
  Q.pssd_one (Q.psd_ret (Q.pd_op op_add2 opd_add2 (Q.pd_op op_add2 opd_add2 (Q.pd_slice (Q.dv 1) (Q.pod_none) (Q.pod_some (Q.dv 4))) (Q.pd_op op_mul2 opd_mul2 (Q.pd_slice (Q.dv 6) (Q.pod_none) (Q.pod_some (Q.dv 7))) (Q.pd_int))) (Q.pd_slice (Q.dv 6) (Q.pod_some (Q.dv 7)) (Q.pod_none))))
theorem sc_l_strange:FnScope N_l_strange ["_law_bag_here"] (defScope s_l_strange):=⟨rfl,rfl,rfl,by decide +kernel,rfl,by decide +kernel,by decide +kernel⟩
theorem ok_l_strange {f:Addr}{fd:FuncData}(E:Env w K mg)(F:Fn K mg "_law_strange" s_l_strange ["_law_bag_here"] f fd)
  {f_l_codes:Addr}{fd_l_codes:FuncData}(G_l_codes:Fn K mg "_law_codes" s_l_codes [] f_l_codes fd_l_codes)(O_l_codes:FnOk P w K mg base CX0 1 f_l_codes fd_l_codes [] (upSp K sp_l_codes))
  {f_l_take:Addr}{fd_l_take:FuncData}(G_l_take:Fn K mg "_law_take" s_l_take ["_law_bag_here", "_law_many"] f_l_take fd_l_take)(O_l_take:FnOk P w K mg base CX0 1 f_l_take fd_l_take ["_law_bag_here", "_law_many"] (upSp K sp_l_take))
  {f_l_word:Addr}{fd_l_word:FuncData}(G_l_word:Fn K mg "_law_word" s_l_word ["_law_bag_here"] f_l_word fd_l_word)(O_l_word:FnOk P w K mg base CX0 2 f_l_word fd_l_word ["_law_bag_here"] (upSp K sp_l_word)) :
  FnOk P w K mg base CX0 3 f fd ["_law_bag_here"] (upSp K sp_l_strange):=by
 refine fun_ok (t:=t_l_strange sp_l_codes sp_l_take sp_l_word) F.fn sc_l_strange len_l_strange (λ cdv A outer s H E' hr=>?_) read_l_strange
 refine Jd.h ?_
 exact Q.pssd_cons (Q.psd_set (i:=1) sc_l_strange.nd rfl (Or.inl rfl) (Q.pd_call0 O_l_codes (hr.mono (by decide)) rfl G_l_codes.mg G_l_codes.fn.kp G_l_codes.bd)) <|
  Q.pssd_cons (Q.psd_set (i:=2) sc_l_strange.nd rfl (Or.inl rfl) (Q.pd_ix ix_seq opd_ix (Q.pd_seal (Q.pcB (call_sortedD rfl) cd_sortD rfl E.b_sorted bb_sorted (Q.pac (Q.dv 1) (Q.pad_nil)))) (Q.pcF O_l_take (hr.mono (by decide)) rfl G_l_take.mg G_l_take.fn.kp G_l_take.bd (Q.pac (Q.dv 0) (Q.pac (Q.pd_int) (Q.pad_nil)))))) <|
  Q.pssd_cons (Q.psd_set (i:=3) sc_l_strange.nd rfl (Or.inl rfl) (Q.pd_lstM (Q.pac (Q.dv 2) (Q.pad_nil)))) <|
  Q.pssd_cons (Q.psd_set (i:=4) sc_l_strange.nd rfl (Or.inl rfl) (Q.pd_lst (Q.pac (Q.pd_str) (Q.pac (Q.pd_str) (Q.pac (Q.pd_str) (Q.pac (Q.pd_str) (Q.pac (Q.pd_str) (Q.pac (Q.pd_str) (Q.pac (Q.pd_str) (Q.pac (Q.pd_str) (Q.pac (Q.pd_str) (Q.pac (Q.pd_str) (Q.pac (Q.pd_str) (Q.pac (Q.pd_str) (Q.pac (Q.pd_str) (Q.pac (Q.pd_str) (Q.pad_nil))))))))))))))))) <|
  Q.pssd_cons (Q.psd_set (i:=4) sc_l_strange.nd rfl (Or.inl rfl) (Q.pd_cat (Q.dv 4) (Q.pd_lst (Q.pac (Q.pd_str) (Q.pac (Q.pd_str) (Q.pac (Q.pd_str) (Q.pac (Q.pd_str) (Q.pac (Q.pd_str) (Q.pac (Q.pd_str) (Q.pac (Q.pd_str) (Q.pac (Q.pd_op op_mulN opd_mulN (Q.pd_str) (Q.pd_int)) (Q.pad_nil)))))))))))) <|
  Q.pssd_cons (Q.psd_for PassesOwn.never rfl (Q.pid_items (Q.pd_dget (hu_of hr) (Q.dv 1) (Q.dv 2))) (Q.pgd_name (i:=5) sc_l_strange.nd rfl (Or.inl rfl))
   (Q.pssd_one (Q.psd_if (Q.ptd_cmp op_inS opd_inS (Q.dv 5) (Q.pd_str))
    (Q.pssd_one (Q.psd_expr (Q.pd_append (Q.dv 3) (Q.pd_ix ix_seq opd_ix (Q.pd_lst (Q.pac (Q.pcF O_l_word (hr.mono (by decide)) rfl G_l_word.mg G_l_word.fn.kp G_l_word.bd (Q.pac (Q.dv 0) (Q.pad_nil))) (Q.pac (Q.pd_str) (Q.pac (Q.pd_str) (Q.pac (Q.pd_str) (Q.pac (Q.pd_str) (Q.pac (Q.pd_str) (Q.pac (Q.pd_str) (Q.pad_nil))))))))) (Q.pcF O_l_take (hr.mono (by decide)) rfl G_l_take.mg G_l_take.fn.kp G_l_take.bd (Q.pac (Q.dv 0) (Q.pac (Q.pd_int) (Q.pad_nil))))))))
    (Q.pssd_one (Q.psd_expr (Q.pd_append (Q.dv 3) (Q.pd_ix ix_seq opd_ix (Q.dv 4) (Q.pcF O_l_take (hr.mono (by decide)) rfl G_l_take.mg G_l_take.fn.kp G_l_take.bd (Q.pac (Q.dv 0) (Q.pac (Q.pcB call_len cd_len rfl E.b_len bb_len (Q.pac (Q.dv 4) (Q.pad_nil))) (Q.pad_nil))))))))))) <|
  Q.pssd_one (Q.psd_ret (Q.pd_slice (Q.pd_join (Q.pd_str) (Q.pd_seal (Q.dv 3))) (Q.pod_none) (Q.pod_some (Q.pd_int))))
theorem ndc_2:(["sign"]:List Str).Nodup:=by decide +kernel
theorem sc_read_number:FnScope N_read_number ["text"] (defScope s_read_number):=⟨rfl,rfl,rfl,by decide +kernel,rfl,by decide +kernel,by decide +kernel⟩
theorem ok_read_number {f:Addr}{fd:FuncData}(E:Env w K mg)(F:Fn K mg "read_number" s_read_number ["text"] f fd) :
  FnOk P w K mg base CX0 1 f fd ["text"] (upSp K sp_read_number):=by
 refine fun_ok (t:=t_read_number) F.fn sc_read_number len_read_number (λ cdv A outer s H E' hr=>?_) read_read_number
 refine Jd.h ?_
 exact Q.pssd_cons (Q.psd_if (Q.ptd_not (Q.ptd_chain op_le2 opd_le2 op_le2 opd_le2 (Q.pd_int) (Q.pcB call_len cd_len rfl E.b_len bb_len (Q.pac (Q.dv 0) (Q.pad_nil))) (Q.pd_globI rfl (E.c_MOST_FIGURES).choose_spec)))
   (Q.pssd_one (Q.psd_ret (Q.pd_non)))
   (Q.pssd_nil)) <|
  Q.pssd_cons (Q.psd_if (Q.ptd_not (Q.ptd_val (Q.pcB (call_allD rfl) cd_all rfl E.b_all bb_all (Q.pac (Q.pd_lc rfl (lcOk (own:=(["sign"]:List Str)) (fr:=[]) rfl) (Q.pid_items (Q.dv 0)) (λ _ _ _ _ _ _=>Q.pgd_name (i:=0) ndc_2 rfl (Or.inl rfl)) (λ _ _ _ _ _ _=>Q.ptsd_nil) (λ _ _ _ _ _ _=>Q.pd_cmp op_inS opd_inS (Q.dv 0) (Q.pd_globS rfl (E.c_FIGURES).choose_spec))) (Q.pad_nil)))))
   (Q.pssd_one (Q.psd_ret (Q.pd_non)))
   (Q.pssd_nil)) <|
  Q.pssd_cons (Q.psd_if (Q.ptd_w (Q.pwd_and (Q.ptd_cmp (op_eqT hr) opd_eqT (Q.pd_ix ix_seq opd_ix (Q.dv 0) (Q.pd_int)) (Q.pd_str)) (Q.pwd_and1 (Q.ptd_cmp (op_neT hr) opd_neT (Q.dv 0) (Q.pd_str)))))
   (Q.pssd_one (Q.psd_ret (Q.pd_non)))
   (Q.pssd_nil)) <|
  Q.pssd_one (Q.psd_ret (Q.pcT call_intS cd_intS rfl E.b_int bt_int (Q.pac (Q.dv 0) (Q.pad_nil))))
theorem sc_read_part:FnScope N_read_part ["form", "text"] (defScope s_read_part):=⟨rfl,rfl,rfl,by decide +kernel,rfl,by decide +kernel,by decide +kernel⟩
theorem ok_read_part {f:Addr}{fd:FuncData}(E:Env w K mg)(F:Fn K mg "read_part" s_read_part ["form", "text"] f fd)
  {f_read_number:Addr}{fd_read_number:FuncData}(G_read_number:Fn K mg "read_number" s_read_number ["text"] f_read_number fd_read_number)(O_read_number:FnOk P w K mg base CX0 1 f_read_number fd_read_number ["text"] (upSp K sp_read_number)) :
  FnOk P w K mg base CX0 2 f fd ["form", "text"] (upSp K sp_read_part):=by
 refine fun_ok (t:=t_read_part sp_read_number) F.fn sc_read_part len_read_part (λ cdv A outer s H E' hr=>?_) read_read_part
 refine Jd.h ?_
 exact Q.pssd_one (Q.psd_ret (Q.pd_ifExp (Q.ptd_kin rfl E.m_BOUNDS E.k_BOUNDS (Q.dv 0)) (Q.pcF O_read_number (hr.mono (by decide)) rfl G_read_number.mg G_read_number.fn.kp G_read_number.bd (Q.pac (Q.dv 1) (Q.pad_nil))) (Q.dv 1)))
theorem ndc_3:(["sign"]:List Str).Nodup:=by decide +kernel
theorem sc_is_word:FnScope N_is_word ["thing"] (defScope s_is_word):=⟨rfl,rfl,rfl,by decide +kernel,rfl,by decide +kernel,by decide +kernel⟩
theorem ok_is_word {f:Addr}{fd:FuncData}(E:Env w K mg)(F:Fn K mg "is_word" s_is_word ["thing"] f fd) :
  FnOk P w K mg base CX0 1 f fd ["thing"] (upSp K sp_is_word):=by
 refine fun_ok (t:=t_is_word) F.fn sc_is_word len_is_word (λ cdv A outer s H E' hr=>?_) read_is_word
 refine Jd.h ?_
 exact Q.pssd_cons (Q.psd_if (Q.ptd_w (Q.pwd_or (Q.ptd_not (Q.ptd_val (Q.pcB call_isiT cd_isiT rfl E.b_isinstance bb_isinstance (Q.pac (Q.dv 0) (Q.pac (Q.pd_type rfl E.b_str bt_str) (Q.pad_nil)))))) (Q.pwd_or1 (Q.ptd_not (Q.ptd_chain op_le2 opd_le2 op_le2 opd_le2 (Q.pd_int) (Q.pcB call_len cd_len rfl E.b_len bb_len (Q.pac (Q.dv 0) (Q.pad_nil))) (Q.pd_globI rfl (E.c_LONGEST_WORD).choose_spec))))))
   (Q.pssd_one (Q.psd_ret (Q.pd_bl)))
   (Q.pssd_nil)) <|
  Q.pssd_one (Q.psd_ret (Q.pcB (call_allD rfl) cd_all rfl E.b_all bb_all (Q.pac (Q.pd_lc rfl (lcOk (own:=(["sign"]:List Str)) (fr:=[]) rfl) (Q.pid_items (Q.dv 0)) (λ _ _ _ _ _ _=>Q.pgd_name (i:=0) ndc_3 rfl (Or.inl rfl)) (λ _ _ _ _ _ _=>Q.ptsd_nil) (λ _ _ _ _ _ _=>Q.pd_chain op_le2 opd_le2 op_le2 opd_le2 (Q.pd_str) (Q.dv 0) (Q.pd_str))) (Q.pad_nil))))
theorem sc_is_whole:FnScope N_is_whole ["thing"] (defScope s_is_whole):=⟨rfl,rfl,rfl,by decide +kernel,rfl,by decide +kernel,by decide +kernel⟩
theorem ok_is_whole {f:Addr}{fd:FuncData}(E:Env w K mg)(F:Fn K mg "is_whole" s_is_whole ["thing"] f fd) :
  FnOk P w K mg base CX0 1 f fd ["thing"] (upSp K sp_is_whole):=by
 refine fun_ok (t:=t_is_whole) F.fn sc_is_whole len_is_whole (λ cdv A outer s H E' hr=>?_) read_is_whole
 refine Jd.h ?_
 exact Q.pssd_one (Q.psd_ret (Q.pd_and (Q.pcB call_isiT cd_isiT rfl E.b_isinstance bb_isinstance (Q.pac (Q.dv 0) (Q.pac (Q.pd_type rfl E.b_int bt_int) (Q.pad_nil)))) (Q.pd_one (Q.pd_not (Q.pcB call_isiT cd_isiT rfl E.b_isinstance bb_isinstance (Q.pac (Q.dv 0) (Q.pac (Q.pd_type rfl E.b_bool bt_bool) (Q.pad_nil))))))))
theorem sc_is_within:FnScope N_is_within ["thing", "low", "high"] (defScope s_is_within):=⟨rfl,rfl,rfl,by decide +kernel,rfl,by decide +kernel,by decide +kernel⟩
theorem ok_is_within {f:Addr}{fd:FuncData}(E:Env w K mg)(F:Fn K mg "is_within" s_is_within ["thing", "low", "high"] f fd)
  {f_is_whole:Addr}{fd_is_whole:FuncData}(G_is_whole:Fn K mg "is_whole" s_is_whole ["thing"] f_is_whole fd_is_whole)(O_is_whole:FnOk P w K mg base CX0 1 f_is_whole fd_is_whole ["thing"] (upSp K sp_is_whole)) :
  FnOk P w K mg base CX0 2 f fd ["thing", "low", "high"] (upSp K sp_is_within):=by
 refine fun_ok (t:=t_is_within sp_is_whole) F.fn sc_is_within len_is_within (λ cdv A outer s H E' hr=>?_) read_is_within
 refine Jd.h ?_
 exact Q.pssd_one (Q.psd_ret (Q.pd_and (Q.pcF O_is_whole (hr.mono (by decide)) rfl G_is_whole.mg G_is_whole.fn.kp G_is_whole.bd (Q.pac (Q.dv 0) (Q.pad_nil))) (Q.pd_one (Q.pd_chain op_le2 opd_le2 op_le2 opd_le2 (Q.dv 1) (Q.dv 0) (Q.dv 2)))))
theorem sc_is_part:FnScope N_is_part ["form", "part"] (defScope s_is_part):=⟨rfl,rfl,rfl,by decide +kernel,rfl,by decide +kernel,by decide +kernel⟩
theorem ok_is_part {f:Addr}{fd:FuncData}(E:Env w K mg)(F:Fn K mg "is_part" s_is_part ["form", "part"] f fd)
  {f_is_word:Addr}{fd_is_word:FuncData}(G_is_word:Fn K mg "is_word" s_is_word ["thing"] f_is_word fd_is_word)(O_is_word:FnOk P w K mg base CX0 1 f_is_word fd_is_word ["thing"] (upSp K sp_is_word))
  {f_is_within:Addr}{fd_is_within:FuncData}(G_is_within:Fn K mg "is_within" s_is_within ["thing", "low", "high"] f_is_within fd_is_within)(O_is_within:FnOk P w K mg base CX0 2 f_is_within fd_is_within ["thing", "low", "high"] (upSp K sp_is_within)) :
  FnOk P w K mg base CX0 3 f fd ["form", "part"] (upSp K sp_is_part):=by
 refine fun_ok (t:=t_is_part sp_is_word sp_is_within) F.fn sc_is_part len_is_part (λ cdv A outer s H E' hr=>?_) read_is_part
 refine Jd.h ?_
 exact Q.pssd_cons (Q.psd_if (Q.ptd_cmp (op_eqT hr) opd_eqT (Q.dv 0) (Q.pd_str))
   (Q.pssd_one (Q.psd_ret (Q.pcF O_is_word (hr.mono (by decide)) rfl G_is_word.mg G_is_word.fn.kp G_is_word.bd (Q.pac (Q.dv 1) (Q.pad_nil)))))
   (Q.pssd_nil)) <|
  Q.pssd_cons (Q.psd_if (Q.ptd_cmp (op_eqT hr) opd_eqT (Q.dv 0) (Q.pd_str))
   (Q.pssd_one (Q.psd_ret (Q.pd_and (Q.pcB call_isiT cd_isiT rfl E.b_isinstance bb_isinstance (Q.pac (Q.dv 1) (Q.pac (Q.pd_type rfl E.b_str bt_str) (Q.pad_nil)))) (Q.pd_one (Q.pd_cmp (op_inA hr) opd_inA (Q.dv 1) (Q.pd_globT rfl E.m_ENDING_SORTS E.t_ENDING_SORTS))))))
   (Q.pssd_nil)) <|
  Q.pssd_cons (Q.psd_asg (Q.pd_kix rfl E.m_BOUNDS E.k_BOUNDS (Q.dv 0)) (Q.pgd_tup rfl (Q.pgsd_cons (Q.pgd_name (i:=2) sc_is_part.nd rfl (Or.inl rfl)) (Q.pgsd_cons (Q.pgd_name (i:=3) sc_is_part.nd rfl (Or.inl rfl)) (Q.pgsd_nil))))) <|
  Q.pssd_one (Q.psd_ret (Q.pcF O_is_within (hr.mono (by decide)) rfl G_is_within.mg G_is_within.fn.kp G_is_within.bd (Q.pac (Q.dv 1) (Q.pac (Q.dv 2) (Q.pac (Q.dv 3) (Q.pad_nil))))))
theorem sc_keep_fits:FnScope N_keep_fits ["forms", "deed"] (defScope s_keep_fits):=⟨rfl,rfl,rfl,by decide +kernel,rfl,by decide +kernel,by decide +kernel⟩
theorem ok_keep_fits {f:Addr}{fd:FuncData}(E:Env w K mg)(F:Fn K mg "keep_fits" s_keep_fits ["forms", "deed"] f fd) :
  FnOk P w K mg base CX0 1 f fd ["forms", "deed"] (upSp K sp_keep_fits):=by
 refine fun_ok (t:=t_keep_fits) F.fn sc_keep_fits len_keep_fits (λ cdv A outer s H E' hr=>?_) read_keep_fits
 refine Jd.h ?_
 exact Q.pssd_cons (Q.psd_set (i:=2) sc_keep_fits.nd rfl (Or.inl rfl) (Q.pd_ix ix_seq opd_ix (Q.dv 1) (Q.pd_op op_add2 opd_add2 (Q.pd_index hr (Q.dv 0) (Q.pd_str)) (Q.pd_int)))) <|
  Q.pssd_cons (Q.psd_set (i:=3) sc_keep_fits.nd rfl (Or.inl rfl) (Q.pd_ix ix_seq opd_ix (Q.dv 1) (Q.pd_op op_add2 opd_add2 (Q.pd_index hr (Q.dv 0) (Q.pd_str)) (Q.pd_int)))) <|
  Q.pssd_one (Q.psd_ret (Q.pd_cmp op_le2 opd_le2 (Q.dv 3) (Q.pcB (call_max2 rfl) cd_max2 rfl E.b_max bb_max (Q.pac (Q.pd_op op_sub opd_sub (Q.dv 2) (Q.pd_int)) (Q.pac (Q.pd_int) (Q.pad_nil))))))
theorem sc_is_deed:FnScope N_is_deed ["thing"] (defScope s_is_deed):=⟨rfl,rfl,rfl,by decide +kernel,rfl,by decide +kernel,by decide +kernel⟩
theorem ok_is_deed {f:Addr}{fd:FuncData}(E:Env w K mg)(F:Fn K mg "is_deed" s_is_deed ["thing"] f fd)
  {f_is_part:Addr}{fd_is_part:FuncData}(G_is_part:Fn K mg "is_part" s_is_part ["form", "part"] f_is_part fd_is_part)(O_is_part:FnOk P w K mg base CX0 3 f_is_part fd_is_part ["form", "part"] (upSp K sp_is_part))
  {f_keep_fits:Addr}{fd_keep_fits:FuncData}(G_keep_fits:Fn K mg "keep_fits" s_keep_fits ["forms", "deed"] f_keep_fits fd_keep_fits)(O_keep_fits:FnOk P w K mg base CX0 1 f_keep_fits fd_keep_fits ["forms", "deed"] (upSp K sp_keep_fits)) :
  FnOk P w K mg base CX0 4 f fd ["thing"] (upSp K sp_is_deed):=by
 refine fun_ok (t:=t_is_deed sp_is_part sp_keep_fits) F.fn sc_is_deed len_is_deed (λ cdv A outer s H E' hr=>?_) read_is_deed
 refine Jd.h ?_
 exact Q.pssd_cons (Q.psd_if (Q.ptd_w (Q.pwd_or (Q.ptd_not (Q.ptd_val (Q.pcB call_isiT cd_isiT rfl E.b_isinstance bb_isinstance (Q.pac (Q.dv 0) (Q.pac (Q.pd_type rfl E.b_tuple bt_tuple) (Q.pad_nil)))))) (Q.pwd_or (Q.ptd_not (Q.ptd_truth (Q.dv 0))) (Q.pwd_or1 (Q.ptd_not (Q.ptd_val (Q.pcB call_isiT cd_isiT rfl E.b_isinstance bb_isinstance (Q.pac (Q.pd_ix ix_seq opd_ix (Q.dv 0) (Q.pd_int)) (Q.pac (Q.pd_type rfl E.b_str bt_str) (Q.pad_nil))))))))))
   (Q.pssd_one (Q.psd_ret (Q.pd_bl)))
   (Q.pssd_nil)) <|
  Q.pssd_cons (Q.psd_set (i:=1) sc_is_deed.nd rfl (Or.inl rfl) (Q.pd_kget rfl E.m_PARTS E.k_PARTS (Q.pd_ix ix_seq opd_ix (Q.dv 0) (Q.pd_int)))) <|
  Q.pssd_cons (Q.psd_if (Q.ptd_w (Q.pwd_or (Q.ptd_cmp op_isN opd_isN (Q.dv 1) (Q.pd_non)) (Q.pwd_or1 (Q.ptd_cmp (op_neT hr) opd_neT (Q.pcB call_len cd_len rfl E.b_len bb_len (Q.pac (Q.dv 0) (Q.pad_nil))) (Q.pd_op op_add2 opd_add2 (Q.pcB call_len cd_len rfl E.b_len bb_len (Q.pac (Q.dv 1) (Q.pad_nil))) (Q.pd_int))))))
   (Q.pssd_one (Q.psd_ret (Q.pd_bl)))
   (Q.pssd_nil)) <|
  Q.pssd_cons (Q.psd_for PassesOwn.never rfl (Q.pid_zipT rfl E.b_zip (Q.pac (Q.dv 1) (Q.pac (Q.pd_slice (Q.dv 0) (Q.pod_some (Q.pd_int)) (Q.pod_none)) (Q.pad_nil)))) (Q.pgd_tup rfl (Q.pgsd_cons (Q.pgd_name (i:=2) sc_is_deed.nd rfl (Or.inl rfl)) (Q.pgsd_cons (Q.pgd_name (i:=3) sc_is_deed.nd rfl (Or.inl rfl)) (Q.pgsd_nil))))
   (Q.pssd_one (Q.psd_if (Q.ptd_not (Q.ptd_val (Q.pcF O_is_part (hr.mono (by decide)) rfl G_is_part.mg G_is_part.fn.kp G_is_part.bd (Q.pac (Q.dv 2) (Q.pac (Q.dv 3) (Q.pad_nil))))))
    (Q.pssd_one (Q.psd_ret (Q.pd_bl)))
    (Q.pssd_nil)))) <|
  Q.pssd_one (Q.psd_ret (Q.pd_or (Q.pd_cmp (op_notInA hr) opd_notInA (Q.pd_str) (Q.dv 1)) (Q.pd_one (Q.pcF O_keep_fits (hr.mono (by decide)) rfl G_keep_fits.mg G_keep_fits.fn.kp G_keep_fits.bd (Q.pac (Q.dv 1) (Q.pac (Q.dv 0) (Q.pad_nil)))))))
theorem ndc_4:(["form", "part"]:List Str).Nodup:=by decide +kernel
theorem sc_read_deed:FnScope N_read_deed ["text"] (defScope s_read_deed):=⟨rfl,rfl,rfl,by decide +kernel,rfl,by decide +kernel,by decide +kernel⟩
theorem ok_read_deed {f:Addr}{fd:FuncData}(E:Env w K mg)(F:Fn K mg "read_deed" s_read_deed ["text"] f fd)
  {f_read_part:Addr}{fd_read_part:FuncData}(G_read_part:Fn K mg "read_part" s_read_part ["form", "text"] f_read_part fd_read_part)(O_read_part:FnOk P w K mg base CX0 2 f_read_part fd_read_part ["form", "text"] (upSp K sp_read_part))
  {f_is_deed:Addr}{fd_is_deed:FuncData}(G_is_deed:Fn K mg "is_deed" s_is_deed ["thing"] f_is_deed fd_is_deed)(O_is_deed:FnOk P w K mg base CX0 4 f_is_deed fd_is_deed ["thing"] (upSp K sp_is_deed)) :
  FnOk P w K mg base (CXE P w) 5 f fd ["text"] (upSpX K sp_read_deed):=by
 refine fun_okX (t:=λ Ex=>t_read_deed Ex sp_read_part sp_is_deed) F.fn sc_read_deed len_read_deed (λ cdv A outer s H E' Ex hr hE hP=>?_) read_read_deed
 refine Jd.h ?_
 exact Q.pssd_cons (Q.psd_if (Q.ptd_not (Q.ptd_val (Q.pcB call_isiT cd_isiT rfl E.b_isinstance bb_isinstance (Q.pac (Q.dv 0) (Q.pac (Q.pd_type rfl E.b_str bt_str) (Q.pad_nil))))))
   (Q.pssd_one (Q.psd_raise0 hE E.x_NoText E.xn_NoText E.xt_NoText E.xk_NoText hr rfl E.m_NoText (Q.pac (Q.pd_str) (Q.pad_nil))))
   (Q.pssd_nil)) <|
  Q.pssd_cons (Q.psd_set (i:=1) sc_read_deed.nd rfl (Or.inl rfl) (Q.pd_split (Q.dv 0) (Q.pd_str))) <|
  Q.pssd_cons (Q.psd_set (i:=2) sc_read_deed.nd rfl (Or.inl rfl) (Q.pd_kget rfl E.m_PARTS E.k_PARTS (Q.pd_ix ix_seq opd_ix (Q.dv 1) (Q.pd_int)))) <|
  Q.pssd_cons (Q.psd_if (Q.ptd_w (Q.pwd_or (Q.ptd_cmp op_isN opd_isN (Q.dv 2) (Q.pd_non)) (Q.pwd_or1 (Q.ptd_cmp (op_neT hr) opd_neT (Q.pcB call_len cd_len rfl E.b_len bb_len (Q.pac (Q.dv 1) (Q.pad_nil))) (Q.pd_op op_add2 opd_add2 (Q.pcB call_len cd_len rfl E.b_len bb_len (Q.pac (Q.dv 2) (Q.pad_nil))) (Q.pd_int))))))
   (Q.pssd_one (Q.psd_raise0 hE E.x_NoText E.xn_NoText E.xt_NoText E.xk_NoText hr rfl E.m_NoText (Q.pac (Q.pd_str) (Q.pad_nil))))
   (Q.pssd_nil)) <|
  Q.pssd_cons (Q.psd_set (i:=3) sc_read_deed.nd rfl (Or.inl rfl) (Q.pcT call_tuple_of cd_tupleOf rfl E.b_tuple bt_tuple (Q.pac (Q.pd_cat (Q.pd_slice (Q.dv 1) (Q.pod_none) (Q.pod_some (Q.pd_int))) (Q.pd_lc rfl (lcOk (own:=(["form", "part"]:List Str)) (fr:=[]) rfl) (Q.pid_zipTL rfl E.b_zip (Q.pac (Q.dv 2) (Q.pac (Q.pd_slice (Q.dv 1) (Q.pod_some (Q.pd_int)) (Q.pod_none)) (Q.pad_nil)))) (λ _ _ _ _ _ _=>Q.pgd_tup rfl (Q.pgsd_cons (Q.pgd_name (i:=0) ndc_4 rfl (Or.inl rfl)) (Q.pgsd_cons (Q.pgd_name (i:=1) ndc_4 rfl (Or.inl rfl)) (Q.pgsd_nil)))) (λ _ _ _ _ _ _=>Q.ptsd_nil) (λ _ _ _ _ _ _=>Q.pcF O_read_part (hr.mono (by decide)) rfl G_read_part.mg G_read_part.fn.kp G_read_part.bd (Q.pac (Q.dv 0) (Q.pac (Q.dv 1) (Q.pad_nil)))))) (Q.pad_nil)))) <|
  Q.pssd_cons (Q.psd_if (Q.ptd_not (Q.ptd_val (Q.pcF O_is_deed (hr.mono (by decide)) rfl G_is_deed.mg G_is_deed.fn.kp G_is_deed.bd (Q.pac (Q.dv 3) (Q.pad_nil)))))
   (Q.pssd_one (Q.psd_raise0 hE E.x_NoText E.xn_NoText E.xt_NoText E.xk_NoText hr rfl E.m_NoText (Q.pac (Q.pd_str) (Q.pad_nil))))
   (Q.pssd_nil)) <|
  Q.pssd_one (Q.psd_ret (Q.dv 3))
theorem sc_l_told:FnScope N_l_told ["_law_thing"] (defScope s_l_told):=⟨rfl,rfl,rfl,by decide +kernel,rfl,by decide +kernel,by decide +kernel⟩
theorem ok_l_told {f:Addr}{fd:FuncData}(E:Env w K mg)(F:Fn K mg "_law_told" s_l_told ["_law_thing"] f fd)
  {f_read_deed:Addr}{fd_read_deed:FuncData}(G_read_deed:Fn K mg "read_deed" s_read_deed ["text"] f_read_deed fd_read_deed)(O_read_deed:FnOk P w K mg base (CXE P w) 5 f_read_deed fd_read_deed ["text"] (upSpX K sp_read_deed)) :
  FnOk P w K mg base CX0 6 f fd ["_law_thing"] (upSp K sp_l_told):=by
 refine fun_ok (t:=t_l_told sp_read_deed) F.fn sc_l_told len_l_told (λ cdv A outer s H E' hr=>?_) read_l_told
 refine Jd.h ?_
 exact Q.pssd_one (Q.psd_try rfl rfl (λ _ _ _ _ hE hP =>
   Q.pssd_one (Q.psd_ret (Q.pd_tup (Q.pac (Q.pd_str) (Q.pac (Q.pcB (call_reprT hr) cd_reprT rfl E.b_repr bb_repr (Q.pac (Q.pcX hE O_read_deed (hr.mono (by decide)) rfl G_read_deed.mg G_read_deed.fn.kp G_read_deed.bd (Q.pac (Q.dv 0) (Q.pad_nil))) (Q.pad_nil))) (Q.pad_nil)))))) (Q.ph_as (i:=1) rfl E.m_NoText (AllT.cons E.e_NoText_NoText (AllT.nil)) sc_l_told.nd rfl rfl rfl (λ _ =>
   Q.pssd_one (Q.psd_ret (Q.pd_tup (Q.pac (Q.pd_str) (Q.pac (Q.pd_and (Q.pd_isX1 E.b_isinstance (AllT.cons ⟨E.x_NoText,E.i_NoText_PlaceError⟩ (AllT.nil)) rfl E.m_PlaceError (Q.dv 1)) (Q.pd_one (Q.pd_not (Q.pd_isXT (cs:=[.ref C_NoDeed,.ref C_NoRow]) E.b_isinstance (AllT.cons ⟨E.x_NoText,E.i_NoText_NoDeed_NoRow⟩ (AllT.nil)) (pcs_cons rfl E.m_NoDeed (pcs_cons rfl E.m_NoRow (pcs_nil))) (Q.dv 1))))) (Q.pad_nil)))))) (Q.ph_none)))
theorem sc_l_number_in:FnScope N_l_number_in ["_law_text"] (defScope s_l_number_in):=⟨rfl,rfl,rfl,by decide +kernel,rfl,by decide +kernel,by decide +kernel⟩
theorem ok_l_number_in {f:Addr}{fd:FuncData}(E:Env w K mg)(F:Fn K mg "_law_number_in" s_l_number_in ["_law_text"] f fd) :
  FnOk P w K mg base CX0 1 f fd ["_law_text"] (upSp K sp_l_number_in):=by
 refine fun_ok (t:=t_l_number_in) F.fn sc_l_number_in len_l_number_in (λ cdv A outer s H E' hr=>?_) read_l_number_in
 refine Jd.h ?_
 exact Q.pssd_cons (Q.psd_if (Q.ptd_w (Q.pwd_or (Q.ptd_cmp (op_eqT hr) opd_eqT (Q.dv 0) (Q.pd_str)) (Q.pwd_or (Q.ptd_cmp op_gt opd_gt (Q.pcB call_len cd_len rfl E.b_len bb_len (Q.pac (Q.dv 0) (Q.pad_nil))) (Q.pd_int)) (Q.pwd_or1 (Q.ptd_w (Q.pwd_and (Q.ptd_cmp (op_eqT hr) opd_eqT (Q.pcB call_len cd_len rfl E.b_len bb_len (Q.pac (Q.dv 0) (Q.pad_nil))) (Q.pd_int)) (Q.pwd_and1 (Q.ptd_cmp (op_eqT hr) opd_eqT (Q.pd_ix ix_seq opd_ix (Q.dv 0) (Q.pd_int)) (Q.pd_str)))))))))
   (Q.pssd_one (Q.psd_ret (Q.pd_non)))
   (Q.pssd_nil)) <|
  Q.pssd_cons (Q.psd_set (i:=1) sc_l_number_in.nd rfl (Or.inl rfl) (Q.pd_int)) <|
  Q.pssd_cons (Q.psd_for PassesOwn.never rfl (Q.pid_items (Q.dv 0)) (Q.pgd_name (i:=2) sc_l_number_in.nd rfl (Or.inl rfl))
   (Q.pssd_cons (Q.psd_if (Q.ptd_cmp op_nInS opd_nInS (Q.dv 2) (Q.pd_str))
    (Q.pssd_one (Q.psd_ret (Q.pd_non)))
    (Q.pssd_nil)) <|
   Q.pssd_one (Q.psd_set (i:=1) sc_l_number_in.nd rfl (Or.inl rfl) (Q.pd_op op_add2 opd_add2 (Q.pd_op op_mul opd_mul (Q.pd_int) (Q.dv 1)) (Q.pd_findX (Q.pd_str) (Q.dv 2)))))) <|
  Q.pssd_one (Q.psd_ret (Q.dv 1))
theorem ndc_5:(["_law_sign"]:List Str).Nodup:=by decide +kernel
theorem sc_l_is_word:FnScope N_l_is_word ["_law_thing"] (defScope s_l_is_word):=⟨rfl,rfl,rfl,by decide +kernel,rfl,by decide +kernel,by decide +kernel⟩
theorem ok_l_is_word {f:Addr}{fd:FuncData}(E:Env w K mg)(F:Fn K mg "_law_is_word" s_l_is_word ["_law_thing"] f fd) :
  FnOk P w K mg base CX0 1 f fd ["_law_thing"] (upSp K sp_l_is_word):=by
 refine fun_ok (t:=t_l_is_word) F.fn sc_l_is_word len_l_is_word (λ cdv A outer s H E' hr=>?_) read_l_is_word
 refine Jd.h ?_
 exact Q.pssd_cons (Q.psd_if (Q.ptd_w (Q.pwd_or (Q.ptd_not (Q.ptd_val (Q.pcB call_isiT cd_isiT rfl E.b_isinstance bb_isinstance (Q.pac (Q.dv 0) (Q.pac (Q.pd_type rfl E.b_str bt_str) (Q.pad_nil)))))) (Q.pwd_or (Q.ptd_cmp op_lt opd_lt (Q.pcB call_len cd_len rfl E.b_len bb_len (Q.pac (Q.dv 0) (Q.pad_nil))) (Q.pd_int)) (Q.pwd_or1 (Q.ptd_cmp op_gt opd_gt (Q.pcB call_len cd_len rfl E.b_len bb_len (Q.pac (Q.dv 0) (Q.pad_nil))) (Q.pd_int))))))
   (Q.pssd_one (Q.psd_ret (Q.pd_bl)))
   (Q.pssd_nil)) <|
  Q.pssd_one (Q.psd_ret (Q.pcB (call_allD rfl) cd_all rfl E.b_all bb_all (Q.pac (Q.pd_lc rfl (lcOk (own:=(["_law_sign"]:List Str)) (fr:=[]) rfl) (Q.pid_items (Q.dv 0)) (λ _ _ _ _ _ _=>Q.pgd_name (i:=0) ndc_5 rfl (Or.inl rfl)) (λ _ _ _ _ _ _=>Q.ptsd_nil) (λ _ _ _ _ _ _=>Q.pd_cmp op_inS opd_inS (Q.dv 0) (Q.pd_str))) (Q.pad_nil))))
theorem sc_l_between:FnScope N_l_between ["_law_thing", "_law_low", "_law_high"] (defScope s_l_between):=⟨rfl,rfl,rfl,by decide +kernel,rfl,by decide +kernel,by decide +kernel⟩
theorem ok_l_between {f:Addr}{fd:FuncData}(E:Env w K mg)(F:Fn K mg "_law_between" s_l_between ["_law_thing", "_law_low", "_law_high"] f fd) :
  FnOk P w K mg base CX0 1 f fd ["_law_thing", "_law_low", "_law_high"] (upSp K sp_l_between):=by
 refine fun_ok (t:=t_l_between) F.fn sc_l_between len_l_between (λ cdv A outer s H E' hr=>?_) read_l_between
 refine Jd.h ?_
 exact Q.pssd_one (Q.psd_ret (Q.pd_and (Q.pcB call_isiT cd_isiT rfl E.b_isinstance bb_isinstance (Q.pac (Q.dv 0) (Q.pac (Q.pd_type rfl E.b_int bt_int) (Q.pad_nil)))) (Q.pd_and (Q.pd_not (Q.pcB call_isiT cd_isiT rfl E.b_isinstance bb_isinstance (Q.pac (Q.dv 0) (Q.pac (Q.pd_type rfl E.b_bool bt_bool) (Q.pad_nil))))) (Q.pd_one (Q.pd_chain op_le2 opd_le2 op_le2 opd_le2 (Q.dv 1) (Q.dv 0) (Q.dv 2))))))
theorem sc_l_fits:FnScope N_l_fits ["_law_code", "_law_thing", "_law_ahead"] (defScope s_l_fits):=⟨rfl,rfl,rfl,by decide +kernel,rfl,by decide +kernel,by decide +kernel⟩
theorem ok_l_fits {f:Addr}{fd:FuncData}(E:Env w K mg)(F:Fn K mg "_law_fits" s_l_fits ["_law_code", "_law_thing", "_law_ahead"] f fd)
  {f_l_is_word:Addr}{fd_l_is_word:FuncData}(G_l_is_word:Fn K mg "_law_is_word" s_l_is_word ["_law_thing"] f_l_is_word fd_l_is_word)(O_l_is_word:FnOk P w K mg base CX0 1 f_l_is_word fd_l_is_word ["_law_thing"] (upSp K sp_l_is_word))
  {f_l_bounds:Addr}{fd_l_bounds:FuncData}(G_l_bounds:Fn K mg "_law_bounds" s_l_bounds ["_law_code"] f_l_bounds fd_l_bounds)(O_l_bounds:FnOk P w K mg base CX0 1 f_l_bounds fd_l_bounds ["_law_code"] (upSp K sp_l_bounds))
  {f_l_between:Addr}{fd_l_between:FuncData}(G_l_between:Fn K mg "_law_between" s_l_between ["_law_thing", "_law_low", "_law_high"] f_l_between fd_l_between)(O_l_between:FnOk P w K mg base CX0 1 f_l_between fd_l_between ["_law_thing", "_law_low", "_law_high"] (upSp K sp_l_between)) :
  FnOk P w K mg base CX0 2 f fd ["_law_code", "_law_thing", "_law_ahead"] (upSp K sp_l_fits):=by
 refine fun_ok (t:=t_l_fits sp_l_is_word sp_l_bounds sp_l_between) F.fn sc_l_fits len_l_fits (λ cdv A outer s H E' hr=>?_) read_l_fits
 refine Jd.h ?_
 exact Q.pssd_cons (Q.psd_if (Q.ptd_cmp (op_eqT hr) opd_eqT (Q.dv 0) (Q.pd_str))
   (Q.pssd_one (Q.psd_ret (Q.pcF O_l_is_word (hr.mono (by decide)) rfl G_l_is_word.mg G_l_is_word.fn.kp G_l_is_word.bd (Q.pac (Q.dv 1) (Q.pad_nil)))))
   (Q.pssd_nil)) <|
  Q.pssd_cons (Q.psd_if (Q.ptd_cmp (op_eqT hr) opd_eqT (Q.dv 0) (Q.pd_str))
   (Q.pssd_one (Q.psd_ret (Q.pd_and (Q.pcB call_isiT cd_isiT rfl E.b_isinstance bb_isinstance (Q.pac (Q.dv 1) (Q.pac (Q.pd_type rfl E.b_str bt_str) (Q.pad_nil)))) (Q.pd_one (Q.pd_cmp (op_inA hr) opd_inA (Q.dv 1) (Q.pd_lst (Q.pac (Q.pd_str) (Q.pac (Q.pd_str) (Q.pac (Q.pd_str) (Q.pac (Q.pd_str) (Q.pad_nil)))))))))))
   (Q.pssd_nil)) <|
  Q.pssd_cons (Q.psd_asg (Q.pcF O_l_bounds (hr.mono (by decide)) rfl G_l_bounds.mg G_l_bounds.fn.kp G_l_bounds.bd (Q.pac (Q.dv 0) (Q.pad_nil))) (Q.pgd_tup rfl (Q.pgsd_cons (Q.pgd_name (i:=3) sc_l_fits.nd rfl (Or.inl rfl)) (Q.pgsd_cons (Q.pgd_name (i:=4) sc_l_fits.nd rfl (Or.inl rfl)) (Q.pgsd_nil))))) <|
  Q.pssd_cons (Q.psd_if (Q.ptd_cmp (op_eqT hr) opd_eqT (Q.dv 0) (Q.pd_str))
   (Q.pssd_one (Q.psd_ret (Q.pd_and (Q.pcF O_l_between (hr.mono (by decide)) rfl G_l_between.mg G_l_between.fn.kp G_l_between.bd (Q.pac (Q.dv 2) (Q.pac (Q.pd_int) (Q.pac (Q.pd_int) (Q.pad_nil))))) (Q.pd_one (Q.pcF O_l_between (hr.mono (by decide)) rfl G_l_between.mg G_l_between.fn.kp G_l_between.bd (Q.pac (Q.dv 1) (Q.pac (Q.pd_int) (Q.pac (Q.pcB (call_max2 rfl) cd_max2 rfl E.b_max bb_max (Q.pac (Q.pd_int) (Q.pac (Q.pd_op op_sub opd_sub (Q.dv 2) (Q.pd_int)) (Q.pad_nil)))) (Q.pad_nil)))))))))
   (Q.pssd_nil)) <|
  Q.pssd_one (Q.psd_ret (Q.pcF O_l_between (hr.mono (by decide)) rfl G_l_between.mg G_l_between.fn.kp G_l_between.bd (Q.pac (Q.dv 1) (Q.pac (Q.dv 3) (Q.pac (Q.dv 4) (Q.pad_nil))))))
theorem ndc_6:(["_law_k", "_law_codes_here", "_law_thing"]:List Str).Nodup:=by decide +kernel
theorem sc_l_good:FnScope N_l_good ["_law_thing"] (defScope s_l_good):=⟨rfl,rfl,rfl,by decide +kernel,rfl,by decide +kernel,by decide +kernel⟩
theorem ok_l_good {f:Addr}{fd:FuncData}(E:Env w K mg)(F:Fn K mg "_law_good" s_l_good ["_law_thing"] f fd)
  {f_l_codes:Addr}{fd_l_codes:FuncData}(G_l_codes:Fn K mg "_law_codes" s_l_codes [] f_l_codes fd_l_codes)(O_l_codes:FnOk P w K mg base CX0 1 f_l_codes fd_l_codes [] (upSp K sp_l_codes))
  {f_l_fits:Addr}{fd_l_fits:FuncData}(G_l_fits:Fn K mg "_law_fits" s_l_fits ["_law_code", "_law_thing", "_law_ahead"] f_l_fits fd_l_fits)(O_l_fits:FnOk P w K mg base CX0 2 f_l_fits fd_l_fits ["_law_code", "_law_thing", "_law_ahead"] (upSp K sp_l_fits)) :
  FnOk P w K mg base CX0 3 f fd ["_law_thing"] (upSp K sp_l_good):=by
 refine fun_ok (t:=t_l_good sp_l_codes sp_l_fits) F.fn sc_l_good len_l_good (λ cdv A outer s H E' hr=>?_) read_l_good
 refine Jd.h ?_
 exact Q.pssd_cons (Q.psd_if (Q.ptd_w (Q.pwd_or (Q.ptd_not (Q.ptd_val (Q.pcB call_isiT cd_isiT rfl E.b_isinstance bb_isinstance (Q.pac (Q.dv 0) (Q.pac (Q.pd_type rfl E.b_tuple bt_tuple) (Q.pad_nil)))))) (Q.pwd_or (Q.ptd_cmp (op_eqT hr) opd_eqT (Q.pcB call_len cd_len rfl E.b_len bb_len (Q.pac (Q.dv 0) (Q.pad_nil))) (Q.pd_int)) (Q.pwd_or1 (Q.ptd_not (Q.ptd_val (Q.pcB call_isiT cd_isiT rfl E.b_isinstance bb_isinstance (Q.pac (Q.pd_ix ix_seq opd_ix (Q.dv 0) (Q.pd_int)) (Q.pac (Q.pd_type rfl E.b_str bt_str) (Q.pad_nil))))))))))
   (Q.pssd_one (Q.psd_ret (Q.pd_bl)))
   (Q.pssd_nil)) <|
  Q.pssd_cons (Q.psd_set (i:=1) sc_l_good.nd rfl (Or.inr rfl) (Q.pd_get1 (hu_of hr) (Q.pd_call0 O_l_codes (hr.mono (by decide)) rfl G_l_codes.mg G_l_codes.fn.kp G_l_codes.bd) (Q.pd_ix ix_seq opd_ix (Q.dv 0) (Q.pd_int)))) <|
  Q.pssd_cons (Q.psd_if (Q.ptd_w (Q.pwd_or (Q.ptd_cmp op_isN opd_isN (Q.dv 1) (Q.pd_non)) (Q.pwd_or1 (Q.ptd_cmp (op_neT hr) opd_neT (Q.pcB call_len cd_len rfl E.b_len bb_len (Q.pac (Q.dv 1) (Q.pad_nil))) (Q.pd_op op_sub opd_sub (Q.pcB call_len cd_len rfl E.b_len bb_len (Q.pac (Q.dv 0) (Q.pad_nil))) (Q.pd_int))))))
   (Q.pssd_one (Q.psd_ret (Q.pd_bl)))
   (Q.pssd_nil)) <|
  Q.pssd_one (Q.psd_ret (Q.pcB (call_allD rfl) cd_all rfl E.b_all bb_all (Q.pac (Q.pd_lc rfl (lcOk (own:=(["_law_k"]:List Str)) (fr:=[1,0]) rfl) (Q.pid_range1 rfl E.b_range (Q.pac (Q.pcB call_len cd_len rfl E.b_len bb_len (Q.pac (Q.dv 1) (Q.pad_nil))) (Q.pad_nil))) (λ _ _ _ _ _ _=>Q.pgd_name (i:=0) ndc_6 rfl (Or.inl rfl)) (λ _ _ _ _ _ _=>Q.ptsd_nil) (λ _ _ _ _ _ _=>Q.pcF O_l_fits (hr.mono (by decide)) rfl G_l_fits.mg G_l_fits.fn.kp G_l_fits.bd (Q.pac (Q.pd_ix ix_seq opd_ix (Q.dv 1) (Q.dv 0)) (Q.pac (Q.pd_ix ix_seq opd_ix (Q.dv 2) (Q.pd_op op_add2 opd_add2 (Q.dv 0) (Q.pd_int))) (Q.pac (Q.pd_ix ix_seq opd_ix (Q.dv 2) (Q.dv 0)) (Q.pad_nil)))))) (Q.pad_nil))))
theorem sc_l_read:FnScope N_l_read ["_law_text"] (defScope s_l_read):=⟨rfl,rfl,rfl,by decide +kernel,rfl,by decide +kernel,by decide +kernel⟩
theorem ok_l_read {f:Addr}{fd:FuncData}(E:Env w K mg)(F:Fn K mg "_law_read" s_l_read ["_law_text"] f fd)
  {f_l_codes:Addr}{fd_l_codes:FuncData}(G_l_codes:Fn K mg "_law_codes" s_l_codes [] f_l_codes fd_l_codes)(O_l_codes:FnOk P w K mg base CX0 1 f_l_codes fd_l_codes [] (upSp K sp_l_codes))
  {f_l_number_in:Addr}{fd_l_number_in:FuncData}(G_l_number_in:Fn K mg "_law_number_in" s_l_number_in ["_law_text"] f_l_number_in fd_l_number_in)(O_l_number_in:FnOk P w K mg base CX0 1 f_l_number_in fd_l_number_in ["_law_text"] (upSp K sp_l_number_in))
  {f_l_good:Addr}{fd_l_good:FuncData}(G_l_good:Fn K mg "_law_good" s_l_good ["_law_thing"] f_l_good fd_l_good)(O_l_good:FnOk P w K mg base CX0 3 f_l_good fd_l_good ["_law_thing"] (upSp K sp_l_good)) :
  FnOk P w K mg base CX0 4 f fd ["_law_text"] (upSp K sp_l_read):=by
 refine fun_ok (t:=t_l_read sp_l_codes sp_l_number_in sp_l_good) F.fn sc_l_read len_l_read (λ cdv A outer s H E' hr=>?_) read_l_read
 refine Jd.h ?_
 exact Q.pssd_cons (Q.psd_set (i:=1) sc_l_read.nd rfl (Or.inl rfl) (Q.pd_split (Q.dv 0) (Q.pd_str))) <|
  Q.pssd_cons (Q.psd_set (i:=2) sc_l_read.nd rfl (Or.inl rfl) (Q.pd_get1 (hu_of hr) (Q.pd_call0 O_l_codes (hr.mono (by decide)) rfl G_l_codes.mg G_l_codes.fn.kp G_l_codes.bd) (Q.pd_ix ix_seq opd_ix (Q.dv 1) (Q.pd_int)))) <|
  Q.pssd_cons (Q.psd_if (Q.ptd_w (Q.pwd_or (Q.ptd_cmp op_isN opd_isN (Q.dv 2) (Q.pd_non)) (Q.pwd_or1 (Q.ptd_cmp (op_neT hr) opd_neT (Q.pcB call_len cd_len rfl E.b_len bb_len (Q.pac (Q.dv 2) (Q.pad_nil))) (Q.pd_op op_sub opd_sub (Q.pcB call_len cd_len rfl E.b_len bb_len (Q.pac (Q.dv 1) (Q.pad_nil))) (Q.pd_int))))))
   (Q.pssd_one (Q.psd_ret (Q.pd_non)))
   (Q.pssd_nil)) <|
  Q.pssd_cons (Q.psd_set (i:=3) sc_l_read.nd rfl (Or.inl rfl) (Q.pd_lstM (Q.pac (Q.pd_ix ix_seq opd_ix (Q.dv 1) (Q.pd_int)) (Q.pad_nil)))) <|
  Q.pssd_cons (Q.psd_for PassesOwn.never rfl (Q.pid_zipS rfl E.b_zip (Q.pac (Q.dv 2) (Q.pac (Q.pd_slice (Q.dv 1) (Q.pod_some (Q.pd_int)) (Q.pod_none)) (Q.pad_nil)))) (Q.pgd_tup rfl (Q.pgsd_cons (Q.pgd_name (i:=4) sc_l_read.nd rfl (Or.inl rfl)) (Q.pgsd_cons (Q.pgd_name (i:=5) sc_l_read.nd rfl (Or.inl rfl)) (Q.pgsd_nil))))
   (Q.pssd_one (Q.psd_if (Q.ptd_cmp op_inS opd_inS (Q.dv 4) (Q.pd_str))
    (Q.pssd_one (Q.psd_expr (Q.pd_append (Q.dv 3) (Q.dv 5))))
    (Q.pssd_one (Q.psd_expr (Q.pd_append (Q.dv 3) (Q.pcF O_l_number_in (hr.mono (by decide)) rfl G_l_number_in.mg G_l_number_in.fn.kp G_l_number_in.bd (Q.pac (Q.dv 5) (Q.pad_nil))))))))) <|
  Q.pssd_cons (Q.psd_if (Q.ptd_not (Q.ptd_val (Q.pcF O_l_good (hr.mono (by decide)) rfl G_l_good.mg G_l_good.fn.kp G_l_good.bd (Q.pac (Q.pcT call_tuple_of cd_tupleOf rfl E.b_tuple bt_tuple (Q.pac (Q.dv 3) (Q.pad_nil))) (Q.pad_nil)))))
   (Q.pssd_one (Q.psd_ret (Q.pd_non)))
   (Q.pssd_nil)) <|
  Q.pssd_one (Q.psd_ret (Q.pcT call_tuple_of cd_tupleOf rfl E.b_tuple bt_tuple (Q.pac (Q.dv 3) (Q.pad_nil))))
theorem sc_l_due:FnScope N_l_due ["_law_thing"] (defScope s_l_due):=⟨rfl,rfl,rfl,by decide +kernel,rfl,by decide +kernel,by decide +kernel⟩
theorem ok_l_due {f:Addr}{fd:FuncData}(E:Env w K mg)(F:Fn K mg "_law_due" s_l_due ["_law_thing"] f fd)
  {f_l_read:Addr}{fd_l_read:FuncData}(G_l_read:Fn K mg "_law_read" s_l_read ["_law_text"] f_l_read fd_l_read)(O_l_read:FnOk P w K mg base CX0 4 f_l_read fd_l_read ["_law_text"] (upSp K sp_l_read)) :
  FnOk P w K mg base CX0 5 f fd ["_law_thing"] (upSp K sp_l_due):=by
 refine fun_ok (t:=t_l_due sp_l_read) F.fn sc_l_due len_l_due (λ cdv A outer s H E' hr=>?_) read_l_due
 refine Jd.h ?_
 exact Q.pssd_cons (Q.psd_if (Q.ptd_w (Q.pwd_or (Q.ptd_not (Q.ptd_val (Q.pcB call_isiT cd_isiT rfl E.b_isinstance bb_isinstance (Q.pac (Q.dv 0) (Q.pac (Q.pd_type rfl E.b_str bt_str) (Q.pad_nil)))))) (Q.pwd_or1 (Q.ptd_cmp op_isN opd_isN (Q.pcF O_l_read (hr.mono (by decide)) rfl G_l_read.mg G_l_read.fn.kp G_l_read.bd (Q.pac (Q.dv 0) (Q.pad_nil))) (Q.pd_non)))))
   (Q.pssd_one (Q.psd_ret (Q.pd_tup (Q.pac (Q.pd_str) (Q.pac (Q.pd_bl) (Q.pad_nil))))))
   (Q.pssd_nil)) <|
  Q.pssd_one (Q.psd_ret (Q.pd_tup (Q.pac (Q.pd_str) (Q.pac (Q.pcB (call_reprT hr) cd_reprT rfl E.b_repr bb_repr (Q.pac (Q.pcF O_l_read (hr.mono (by decide)) rfl G_l_read.mg G_l_read.fn.kp G_l_read.bd (Q.pac (Q.dv 0) (Q.pad_nil))) (Q.pad_nil))) (Q.pad_nil)))))
theorem sc_law:FnScope N_law ["_law_script"] (defScope s_law):=⟨rfl,rfl,rfl,by decide +kernel,rfl,by decide +kernel,by decide +kernel⟩
theorem ok_law {f:Addr}{fd:FuncData}(E:Env w K mg)(F:Fn K mg "law" s_law ["_law_script"] f fd)
  {f_l_bag:Addr}{fd_l_bag:FuncData}(G_l_bag:Fn K mg "_law_bag" s_l_bag ["_law_script"] f_l_bag fd_l_bag)(O_l_bag:FnOk P w K mg base CX0 1 f_l_bag fd_l_bag ["_law_script"] (upSp K sp_l_bag))
  {f_l_deed:Addr}{fd_l_deed:FuncData}(G_l_deed:Fn K mg "_law_deed" s_l_deed ["_law_bag_here"] f_l_deed fd_l_deed)(O_l_deed:FnOk P w K mg base CX0 4 f_l_deed fd_l_deed ["_law_bag_here"] (upSp K sp_l_deed))
  {f_l_written:Addr}{fd_l_written:FuncData}(G_l_written:Fn K mg "_law_written" s_l_written ["_law_thing"] f_l_written fd_l_written)(O_l_written:FnOk P w K mg base CX0 2 f_l_written fd_l_written ["_law_thing"] (upSp K sp_l_written))
  {f_l_take:Addr}{fd_l_take:FuncData}(G_l_take:Fn K mg "_law_take" s_l_take ["_law_bag_here", "_law_many"] f_l_take fd_l_take)(O_l_take:FnOk P w K mg base CX0 1 f_l_take fd_l_take ["_law_bag_here", "_law_many"] (upSp K sp_l_take))
  {f_l_bent:Addr}{fd_l_bent:FuncData}(G_l_bent:Fn K mg "_law_bent" s_l_bent ["_law_bag_here", "_law_text"] f_l_bent fd_l_bent)(O_l_bent:FnOk P w K mg base CX0 2 f_l_bent fd_l_bent ["_law_bag_here", "_law_text"] (upSp K sp_l_bent))
  {f_l_strange:Addr}{fd_l_strange:FuncData}(G_l_strange:Fn K mg "_law_strange" s_l_strange ["_law_bag_here"] f_l_strange fd_l_strange)(O_l_strange:FnOk P w K mg base CX0 3 f_l_strange fd_l_strange ["_law_bag_here"] (upSp K sp_l_strange))
  {f_l_told:Addr}{fd_l_told:FuncData}(G_l_told:Fn K mg "_law_told" s_l_told ["_law_thing"] f_l_told fd_l_told)(O_l_told:FnOk P w K mg base CX0 6 f_l_told fd_l_told ["_law_thing"] (upSp K sp_l_told))
  {f_l_due:Addr}{fd_l_due:FuncData}(G_l_due:Fn K mg "_law_due" s_l_due ["_law_thing"] f_l_due fd_l_due)(O_l_due:FnOk P w K mg base CX0 5 f_l_due fd_l_due ["_law_thing"] (upSp K sp_l_due)) :
  FnOk P w K mg base CX0 7 f fd ["_law_script"] (upSp K sp_law):=by
 refine fun_ok (t:=t_law sp_l_bag sp_l_deed sp_l_written sp_l_take sp_l_bent sp_l_strange sp_l_told sp_l_due) F.fn sc_law len_law (λ cdv A outer s H E' hr=>?_) read_law
 refine Jd.h ?_
 exact Q.pssd_cons (Q.psd_set (i:=1) sc_law.nd rfl (Or.inl rfl) (Q.pcF O_l_bag (hr.mono (by decide)) rfl G_l_bag.mg G_l_bag.fn.kp G_l_bag.bd (Q.pac (Q.dv 0) (Q.pad_nil)))) <|
  Q.pssd_cons (Q.psd_for PassesOwn.never rfl (Q.pid_range1 rfl E.b_range (Q.pac (Q.pd_int) (Q.pad_nil))) (Q.pgd_name (i:=2) sc_law.nd rfl (Or.inl rfl))
   (Q.pssd_cons (Q.psd_set (i:=3) sc_law.nd rfl (Or.inl rfl) (Q.pcF O_l_deed (hr.mono (by decide)) rfl G_l_deed.mg G_l_deed.fn.kp G_l_deed.bd (Q.pac (Q.dv 1) (Q.pad_nil)))) <|
   Q.pssd_cons (Q.psd_set (i:=4) sc_law.nd rfl (Or.inl rfl) (Q.pcF O_l_written (hr.mono (by decide)) rfl G_l_written.mg G_l_written.fn.kp G_l_written.bd (Q.pac (Q.dv 3) (Q.pad_nil)))) <|
   Q.pssd_cons (Q.psd_set (i:=5) sc_law.nd rfl (Or.inl rfl) (Q.dv 4)) <|
   Q.pssd_cons (Q.psd_for PassesOwn.never rfl (Q.pid_range1 rfl E.b_range (Q.pac (Q.pd_op op_add2 opd_add2 (Q.pd_int) (Q.pcF O_l_take (hr.mono (by decide)) rfl G_l_take.mg G_l_take.fn.kp G_l_take.bd (Q.pac (Q.dv 1) (Q.pac (Q.pd_int) (Q.pad_nil))))) (Q.pad_nil))) (Q.pgd_name (i:=6) sc_law.nd rfl (Or.inl rfl))
    (Q.pssd_one (Q.psd_set (i:=5) sc_law.nd rfl (Or.inl rfl) (Q.pcF O_l_bent (hr.mono (by decide)) rfl G_l_bent.mg G_l_bent.fn.kp G_l_bent.bd (Q.pac (Q.dv 1) (Q.pac (Q.dv 5) (Q.pad_nil))))))) <|
   Q.pssd_cons (Q.psd_set (i:=7) sc_law.nd rfl (Or.inl rfl) (Q.pd_ix ix_seq opd_ix (Q.pd_lst (Q.pac (Q.pd_non) (Q.pac (Q.pd_int) (Q.pac (Q.pd_bl) (Q.pac (Q.pd_lst (Q.pac (Q.dv 4) (Q.pad_nil))) (Q.pac (Q.pd_tup (Q.pac (Q.dv 4) (Q.pad_nil))) (Q.pac (Q.dv 3) (Q.pac (Q.pd_dict0) (Q.pac (Q.pd_int) (Q.pad_nil)))))))))) (Q.pcF O_l_take (hr.mono (by decide)) rfl G_l_take.mg G_l_take.fn.kp G_l_take.bd (Q.pac (Q.dv 1) (Q.pac (Q.pd_int) (Q.pad_nil)))))) <|
   Q.pssd_one (Q.psd_for PassesOwn.never rfl (Q.pid_items (Q.pd_lst (Q.pac (Q.dv 5) (Q.pac (Q.dv 4) (Q.pac (Q.pcF O_l_strange (hr.mono (by decide)) rfl G_l_strange.mg G_l_strange.fn.kp G_l_strange.bd (Q.pac (Q.dv 1) (Q.pad_nil))) (Q.pac (Q.dv 7) (Q.pac (Q.dv 5) (Q.pac (Q.dv 4) (Q.pad_nil))))))))) (Q.pgd_name (i:=8) sc_law.nd rfl (Or.inl rfl))
    (Q.pssd_one (Q.psd_if (Q.ptd_cmp (op_neT hr) opd_neT (Q.pcF O_l_told (hr.mono (by decide)) rfl G_l_told.mg G_l_told.fn.kp G_l_told.bd (Q.pac (Q.dv 8) (Q.pad_nil))) (Q.pcF O_l_due (hr.mono (by decide)) rfl G_l_due.mg G_l_due.fn.kp G_l_due.bd (Q.pac (Q.dv 8) (Q.pad_nil))))
     (Q.pssd_one (Q.psd_ret (Q.pd_bl)))
     (Q.pssd_nil)))))) <|
  Q.pssd_one (Q.psd_ret (Q.pd_and (Q.pd_cmp (op_eqT hr) opd_eqT (Q.pcF O_l_told (hr.mono (by decide)) rfl G_l_told.mg G_l_told.fn.kp G_l_told.bd (Q.pac (Q.pd_str) (Q.pad_nil))) (Q.pd_tup (Q.pac (Q.pd_str) (Q.pac (Q.pd_bl) (Q.pad_nil))))) (Q.pd_one (Q.pd_cmp (op_eqT hr) opd_eqT (Q.pcF O_l_told (hr.mono (by decide)) rfl G_l_told.mg G_l_told.fn.kp G_l_told.bd (Q.pac (Q.pd_str) (Q.pad_nil))) (Q.pd_tup (Q.pac (Q.pd_str) (Q.pac (Q.pd_bl) (Q.pad_nil))))))))
theorem all_mk {l:PySem.W.OpenLaw}{w:World}{K:PySem.W.Frag}{h:Heap}{mg:Str->Option Value}{fa:Addr}(X:K.In h)(G:h.Ns mainGlobals mg)(hfa:mg "law" = some (.ref fa))
  {f_l_bag:Addr}{oc_l_bag kV_l_bag dc_l_bag pm_l_bag cd_l_bag ct_l_bag:Value}{od_l_bag an_l_bag:Option Addr}{sl_l_bag:Array (Option Value)}
  (a_l_bag:PySem.W.nsIn K mainGlobals "_law_bag" = some (some (.ref f_l_bag)))(l_l_bag:K.lookup f_l_bag=some ⟨oc_l_bag,od_l_bag,.func (PySem.W.fnOf "_law_bag" "_law_bag" (defArgs s_l_bag) (defBody s_l_bag) (defScope s_l_bag) .none kV_l_bag dc_l_bag pm_l_bag an_l_bag cd_l_bag ct_l_bag),sl_l_bag⟩)(c_l_bag:PySem.W.codeIn K cd_l_bag "_law_bag" = true)(k_l_bag:PySem.W.keepIn K (.ref f_l_bag)=true)
  {f_l_codes:Addr}{oc_l_codes kV_l_codes dc_l_codes pm_l_codes cd_l_codes ct_l_codes:Value}{od_l_codes an_l_codes:Option Addr}{sl_l_codes:Array (Option Value)}
  (a_l_codes:PySem.W.nsIn K mainGlobals "_law_codes" = some (some (.ref f_l_codes)))(l_l_codes:K.lookup f_l_codes=some ⟨oc_l_codes,od_l_codes,.func (PySem.W.fnOf "_law_codes" "_law_codes" (defArgs s_l_codes) (defBody s_l_codes) (defScope s_l_codes) .none kV_l_codes dc_l_codes pm_l_codes an_l_codes cd_l_codes ct_l_codes),sl_l_codes⟩)(c_l_codes:PySem.W.codeIn K cd_l_codes "_law_codes" = true)(k_l_codes:PySem.W.keepIn K (.ref f_l_codes)=true)
  {f_l_take:Addr}{oc_l_take kV_l_take dc_l_take pm_l_take cd_l_take ct_l_take:Value}{od_l_take an_l_take:Option Addr}{sl_l_take:Array (Option Value)}
  (a_l_take:PySem.W.nsIn K mainGlobals "_law_take" = some (some (.ref f_l_take)))(l_l_take:K.lookup f_l_take=some ⟨oc_l_take,od_l_take,.func (PySem.W.fnOf "_law_take" "_law_take" (defArgs s_l_take) (defBody s_l_take) (defScope s_l_take) .none kV_l_take dc_l_take pm_l_take an_l_take cd_l_take ct_l_take),sl_l_take⟩)(c_l_take:PySem.W.codeIn K cd_l_take "_law_take" = true)(k_l_take:PySem.W.keepIn K (.ref f_l_take)=true)
  {f_l_number:Addr}{oc_l_number kV_l_number dc_l_number pm_l_number cd_l_number ct_l_number:Value}{od_l_number an_l_number:Option Addr}{sl_l_number:Array (Option Value)}
  (a_l_number:PySem.W.nsIn K mainGlobals "_law_number" = some (some (.ref f_l_number)))(l_l_number:K.lookup f_l_number=some ⟨oc_l_number,od_l_number,.func (PySem.W.fnOf "_law_number" "_law_number" (defArgs s_l_number) (defBody s_l_number) (defScope s_l_number) .none kV_l_number dc_l_number pm_l_number an_l_number cd_l_number ct_l_number),sl_l_number⟩)(c_l_number:PySem.W.codeIn K cd_l_number "_law_number" = true)(k_l_number:PySem.W.keepIn K (.ref f_l_number)=true)
  {f_l_word:Addr}{oc_l_word kV_l_word dc_l_word pm_l_word cd_l_word ct_l_word:Value}{od_l_word an_l_word:Option Addr}{sl_l_word:Array (Option Value)}
  (a_l_word:PySem.W.nsIn K mainGlobals "_law_word" = some (some (.ref f_l_word)))(l_l_word:K.lookup f_l_word=some ⟨oc_l_word,od_l_word,.func (PySem.W.fnOf "_law_word" "_law_word" (defArgs s_l_word) (defBody s_l_word) (defScope s_l_word) .none kV_l_word dc_l_word pm_l_word an_l_word cd_l_word ct_l_word),sl_l_word⟩)(c_l_word:PySem.W.codeIn K cd_l_word "_law_word" = true)(k_l_word:PySem.W.keepIn K (.ref f_l_word)=true)
  {f_l_bounds:Addr}{oc_l_bounds kV_l_bounds dc_l_bounds pm_l_bounds cd_l_bounds ct_l_bounds:Value}{od_l_bounds an_l_bounds:Option Addr}{sl_l_bounds:Array (Option Value)}
  (a_l_bounds:PySem.W.nsIn K mainGlobals "_law_bounds" = some (some (.ref f_l_bounds)))(l_l_bounds:K.lookup f_l_bounds=some ⟨oc_l_bounds,od_l_bounds,.func (PySem.W.fnOf "_law_bounds" "_law_bounds" (defArgs s_l_bounds) (defBody s_l_bounds) (defScope s_l_bounds) .none kV_l_bounds dc_l_bounds pm_l_bounds an_l_bounds cd_l_bounds ct_l_bounds),sl_l_bounds⟩)(c_l_bounds:PySem.W.codeIn K cd_l_bounds "_law_bounds" = true)(k_l_bounds:PySem.W.keepIn K (.ref f_l_bounds)=true)
  {f_l_part:Addr}{oc_l_part kV_l_part dc_l_part pm_l_part cd_l_part ct_l_part:Value}{od_l_part an_l_part:Option Addr}{sl_l_part:Array (Option Value)}
  (a_l_part:PySem.W.nsIn K mainGlobals "_law_part" = some (some (.ref f_l_part)))(l_l_part:K.lookup f_l_part=some ⟨oc_l_part,od_l_part,.func (PySem.W.fnOf "_law_part" "_law_part" (defArgs s_l_part) (defBody s_l_part) (defScope s_l_part) .none kV_l_part dc_l_part pm_l_part an_l_part cd_l_part ct_l_part),sl_l_part⟩)(c_l_part:PySem.W.codeIn K cd_l_part "_law_part" = true)(k_l_part:PySem.W.keepIn K (.ref f_l_part)=true)
  {f_l_deed:Addr}{oc_l_deed kV_l_deed dc_l_deed pm_l_deed cd_l_deed ct_l_deed:Value}{od_l_deed an_l_deed:Option Addr}{sl_l_deed:Array (Option Value)}
  (a_l_deed:PySem.W.nsIn K mainGlobals "_law_deed" = some (some (.ref f_l_deed)))(l_l_deed:K.lookup f_l_deed=some ⟨oc_l_deed,od_l_deed,.func (PySem.W.fnOf "_law_deed" "_law_deed" (defArgs s_l_deed) (defBody s_l_deed) (defScope s_l_deed) .none kV_l_deed dc_l_deed pm_l_deed an_l_deed cd_l_deed ct_l_deed),sl_l_deed⟩)(c_l_deed:PySem.W.codeIn K cd_l_deed "_law_deed" = true)(k_l_deed:PySem.W.keepIn K (.ref f_l_deed)=true)
  {f_l_figures:Addr}{oc_l_figures kV_l_figures dc_l_figures pm_l_figures cd_l_figures ct_l_figures:Value}{od_l_figures an_l_figures:Option Addr}{sl_l_figures:Array (Option Value)}
  (a_l_figures:PySem.W.nsIn K mainGlobals "_law_figures" = some (some (.ref f_l_figures)))(l_l_figures:K.lookup f_l_figures=some ⟨oc_l_figures,od_l_figures,.func (PySem.W.fnOf "_law_figures" "_law_figures" (defArgs s_l_figures) (defBody s_l_figures) (defScope s_l_figures) .none kV_l_figures dc_l_figures pm_l_figures an_l_figures cd_l_figures ct_l_figures),sl_l_figures⟩)(c_l_figures:PySem.W.codeIn K cd_l_figures "_law_figures" = true)(k_l_figures:PySem.W.keepIn K (.ref f_l_figures)=true)
  {f_l_written:Addr}{oc_l_written kV_l_written dc_l_written pm_l_written cd_l_written ct_l_written:Value}{od_l_written an_l_written:Option Addr}{sl_l_written:Array (Option Value)}
  (a_l_written:PySem.W.nsIn K mainGlobals "_law_written" = some (some (.ref f_l_written)))(l_l_written:K.lookup f_l_written=some ⟨oc_l_written,od_l_written,.func (PySem.W.fnOf "_law_written" "_law_written" (defArgs s_l_written) (defBody s_l_written) (defScope s_l_written) .none kV_l_written dc_l_written pm_l_written an_l_written cd_l_written ct_l_written),sl_l_written⟩)(c_l_written:PySem.W.codeIn K cd_l_written "_law_written" = true)(k_l_written:PySem.W.keepIn K (.ref f_l_written)=true)
  {f_l_bent:Addr}{oc_l_bent kV_l_bent dc_l_bent pm_l_bent cd_l_bent ct_l_bent:Value}{od_l_bent an_l_bent:Option Addr}{sl_l_bent:Array (Option Value)}
  (a_l_bent:PySem.W.nsIn K mainGlobals "_law_bent" = some (some (.ref f_l_bent)))(l_l_bent:K.lookup f_l_bent=some ⟨oc_l_bent,od_l_bent,.func (PySem.W.fnOf "_law_bent" "_law_bent" (defArgs s_l_bent) (defBody s_l_bent) (defScope s_l_bent) .none kV_l_bent dc_l_bent pm_l_bent an_l_bent cd_l_bent ct_l_bent),sl_l_bent⟩)(c_l_bent:PySem.W.codeIn K cd_l_bent "_law_bent" = true)(k_l_bent:PySem.W.keepIn K (.ref f_l_bent)=true)
  {f_l_strange:Addr}{oc_l_strange kV_l_strange dc_l_strange pm_l_strange cd_l_strange ct_l_strange:Value}{od_l_strange an_l_strange:Option Addr}{sl_l_strange:Array (Option Value)}
  (a_l_strange:PySem.W.nsIn K mainGlobals "_law_strange" = some (some (.ref f_l_strange)))(l_l_strange:K.lookup f_l_strange=some ⟨oc_l_strange,od_l_strange,.func (PySem.W.fnOf "_law_strange" "_law_strange" (defArgs s_l_strange) (defBody s_l_strange) (defScope s_l_strange) .none kV_l_strange dc_l_strange pm_l_strange an_l_strange cd_l_strange ct_l_strange),sl_l_strange⟩)(c_l_strange:PySem.W.codeIn K cd_l_strange "_law_strange" = true)(k_l_strange:PySem.W.keepIn K (.ref f_l_strange)=true)
  {f_read_number:Addr}{oc_read_number kV_read_number dc_read_number pm_read_number cd_read_number ct_read_number:Value}{od_read_number an_read_number:Option Addr}{sl_read_number:Array (Option Value)}
  (a_read_number:PySem.W.nsIn K mainGlobals "read_number" = some (some (.ref f_read_number)))(l_read_number:K.lookup f_read_number=some ⟨oc_read_number,od_read_number,.func (PySem.W.fnOf "read_number" "read_number" (defArgs s_read_number) (defBody s_read_number) (defScope s_read_number) .none kV_read_number dc_read_number pm_read_number an_read_number cd_read_number ct_read_number),sl_read_number⟩)(c_read_number:PySem.W.codeIn K cd_read_number "read_number" = true)(k_read_number:PySem.W.keepIn K (.ref f_read_number)=true)
  {f_read_part:Addr}{oc_read_part kV_read_part dc_read_part pm_read_part cd_read_part ct_read_part:Value}{od_read_part an_read_part:Option Addr}{sl_read_part:Array (Option Value)}
  (a_read_part:PySem.W.nsIn K mainGlobals "read_part" = some (some (.ref f_read_part)))(l_read_part:K.lookup f_read_part=some ⟨oc_read_part,od_read_part,.func (PySem.W.fnOf "read_part" "read_part" (defArgs s_read_part) (defBody s_read_part) (defScope s_read_part) .none kV_read_part dc_read_part pm_read_part an_read_part cd_read_part ct_read_part),sl_read_part⟩)(c_read_part:PySem.W.codeIn K cd_read_part "read_part" = true)(k_read_part:PySem.W.keepIn K (.ref f_read_part)=true)
  {f_is_word:Addr}{oc_is_word kV_is_word dc_is_word pm_is_word cd_is_word ct_is_word:Value}{od_is_word an_is_word:Option Addr}{sl_is_word:Array (Option Value)}
  (a_is_word:PySem.W.nsIn K mainGlobals "is_word" = some (some (.ref f_is_word)))(l_is_word:K.lookup f_is_word=some ⟨oc_is_word,od_is_word,.func (PySem.W.fnOf "is_word" "is_word" (defArgs s_is_word) (defBody s_is_word) (defScope s_is_word) .none kV_is_word dc_is_word pm_is_word an_is_word cd_is_word ct_is_word),sl_is_word⟩)(c_is_word:PySem.W.codeIn K cd_is_word "is_word" = true)(k_is_word:PySem.W.keepIn K (.ref f_is_word)=true)
  {f_is_whole:Addr}{oc_is_whole kV_is_whole dc_is_whole pm_is_whole cd_is_whole ct_is_whole:Value}{od_is_whole an_is_whole:Option Addr}{sl_is_whole:Array (Option Value)}
  (a_is_whole:PySem.W.nsIn K mainGlobals "is_whole" = some (some (.ref f_is_whole)))(l_is_whole:K.lookup f_is_whole=some ⟨oc_is_whole,od_is_whole,.func (PySem.W.fnOf "is_whole" "is_whole" (defArgs s_is_whole) (defBody s_is_whole) (defScope s_is_whole) .none kV_is_whole dc_is_whole pm_is_whole an_is_whole cd_is_whole ct_is_whole),sl_is_whole⟩)(c_is_whole:PySem.W.codeIn K cd_is_whole "is_whole" = true)(k_is_whole:PySem.W.keepIn K (.ref f_is_whole)=true)
  {f_is_within:Addr}{oc_is_within kV_is_within dc_is_within pm_is_within cd_is_within ct_is_within:Value}{od_is_within an_is_within:Option Addr}{sl_is_within:Array (Option Value)}
  (a_is_within:PySem.W.nsIn K mainGlobals "is_within" = some (some (.ref f_is_within)))(l_is_within:K.lookup f_is_within=some ⟨oc_is_within,od_is_within,.func (PySem.W.fnOf "is_within" "is_within" (defArgs s_is_within) (defBody s_is_within) (defScope s_is_within) .none kV_is_within dc_is_within pm_is_within an_is_within cd_is_within ct_is_within),sl_is_within⟩)(c_is_within:PySem.W.codeIn K cd_is_within "is_within" = true)(k_is_within:PySem.W.keepIn K (.ref f_is_within)=true)
  {f_is_part:Addr}{oc_is_part kV_is_part dc_is_part pm_is_part cd_is_part ct_is_part:Value}{od_is_part an_is_part:Option Addr}{sl_is_part:Array (Option Value)}
  (a_is_part:PySem.W.nsIn K mainGlobals "is_part" = some (some (.ref f_is_part)))(l_is_part:K.lookup f_is_part=some ⟨oc_is_part,od_is_part,.func (PySem.W.fnOf "is_part" "is_part" (defArgs s_is_part) (defBody s_is_part) (defScope s_is_part) .none kV_is_part dc_is_part pm_is_part an_is_part cd_is_part ct_is_part),sl_is_part⟩)(c_is_part:PySem.W.codeIn K cd_is_part "is_part" = true)(k_is_part:PySem.W.keepIn K (.ref f_is_part)=true)
  {f_keep_fits:Addr}{oc_keep_fits kV_keep_fits dc_keep_fits pm_keep_fits cd_keep_fits ct_keep_fits:Value}{od_keep_fits an_keep_fits:Option Addr}{sl_keep_fits:Array (Option Value)}
  (a_keep_fits:PySem.W.nsIn K mainGlobals "keep_fits" = some (some (.ref f_keep_fits)))(l_keep_fits:K.lookup f_keep_fits=some ⟨oc_keep_fits,od_keep_fits,.func (PySem.W.fnOf "keep_fits" "keep_fits" (defArgs s_keep_fits) (defBody s_keep_fits) (defScope s_keep_fits) .none kV_keep_fits dc_keep_fits pm_keep_fits an_keep_fits cd_keep_fits ct_keep_fits),sl_keep_fits⟩)(c_keep_fits:PySem.W.codeIn K cd_keep_fits "keep_fits" = true)(k_keep_fits:PySem.W.keepIn K (.ref f_keep_fits)=true)
  {f_is_deed:Addr}{oc_is_deed kV_is_deed dc_is_deed pm_is_deed cd_is_deed ct_is_deed:Value}{od_is_deed an_is_deed:Option Addr}{sl_is_deed:Array (Option Value)}
  (a_is_deed:PySem.W.nsIn K mainGlobals "is_deed" = some (some (.ref f_is_deed)))(l_is_deed:K.lookup f_is_deed=some ⟨oc_is_deed,od_is_deed,.func (PySem.W.fnOf "is_deed" "is_deed" (defArgs s_is_deed) (defBody s_is_deed) (defScope s_is_deed) .none kV_is_deed dc_is_deed pm_is_deed an_is_deed cd_is_deed ct_is_deed),sl_is_deed⟩)(c_is_deed:PySem.W.codeIn K cd_is_deed "is_deed" = true)(k_is_deed:PySem.W.keepIn K (.ref f_is_deed)=true)
  {f_read_deed:Addr}{oc_read_deed kV_read_deed dc_read_deed pm_read_deed cd_read_deed ct_read_deed:Value}{od_read_deed an_read_deed:Option Addr}{sl_read_deed:Array (Option Value)}
  (a_read_deed:PySem.W.nsIn K mainGlobals "read_deed" = some (some (.ref f_read_deed)))(l_read_deed:K.lookup f_read_deed=some ⟨oc_read_deed,od_read_deed,.func (PySem.W.fnOf "read_deed" "read_deed" (defArgs s_read_deed) (defBody s_read_deed) (defScope s_read_deed) .none kV_read_deed dc_read_deed pm_read_deed an_read_deed cd_read_deed ct_read_deed),sl_read_deed⟩)(c_read_deed:PySem.W.codeIn K cd_read_deed "read_deed" = true)(k_read_deed:PySem.W.keepIn K (.ref f_read_deed)=true)
  {f_l_told:Addr}{oc_l_told kV_l_told dc_l_told pm_l_told cd_l_told ct_l_told:Value}{od_l_told an_l_told:Option Addr}{sl_l_told:Array (Option Value)}
  (a_l_told:PySem.W.nsIn K mainGlobals "_law_told" = some (some (.ref f_l_told)))(l_l_told:K.lookup f_l_told=some ⟨oc_l_told,od_l_told,.func (PySem.W.fnOf "_law_told" "_law_told" (defArgs s_l_told) (defBody s_l_told) (defScope s_l_told) .none kV_l_told dc_l_told pm_l_told an_l_told cd_l_told ct_l_told),sl_l_told⟩)(c_l_told:PySem.W.codeIn K cd_l_told "_law_told" = true)(k_l_told:PySem.W.keepIn K (.ref f_l_told)=true)
  {f_l_number_in:Addr}{oc_l_number_in kV_l_number_in dc_l_number_in pm_l_number_in cd_l_number_in ct_l_number_in:Value}{od_l_number_in an_l_number_in:Option Addr}{sl_l_number_in:Array (Option Value)}
  (a_l_number_in:PySem.W.nsIn K mainGlobals "_law_number_in" = some (some (.ref f_l_number_in)))(l_l_number_in:K.lookup f_l_number_in=some ⟨oc_l_number_in,od_l_number_in,.func (PySem.W.fnOf "_law_number_in" "_law_number_in" (defArgs s_l_number_in) (defBody s_l_number_in) (defScope s_l_number_in) .none kV_l_number_in dc_l_number_in pm_l_number_in an_l_number_in cd_l_number_in ct_l_number_in),sl_l_number_in⟩)(c_l_number_in:PySem.W.codeIn K cd_l_number_in "_law_number_in" = true)(k_l_number_in:PySem.W.keepIn K (.ref f_l_number_in)=true)
  {f_l_is_word:Addr}{oc_l_is_word kV_l_is_word dc_l_is_word pm_l_is_word cd_l_is_word ct_l_is_word:Value}{od_l_is_word an_l_is_word:Option Addr}{sl_l_is_word:Array (Option Value)}
  (a_l_is_word:PySem.W.nsIn K mainGlobals "_law_is_word" = some (some (.ref f_l_is_word)))(l_l_is_word:K.lookup f_l_is_word=some ⟨oc_l_is_word,od_l_is_word,.func (PySem.W.fnOf "_law_is_word" "_law_is_word" (defArgs s_l_is_word) (defBody s_l_is_word) (defScope s_l_is_word) .none kV_l_is_word dc_l_is_word pm_l_is_word an_l_is_word cd_l_is_word ct_l_is_word),sl_l_is_word⟩)(c_l_is_word:PySem.W.codeIn K cd_l_is_word "_law_is_word" = true)(k_l_is_word:PySem.W.keepIn K (.ref f_l_is_word)=true)
  {f_l_between:Addr}{oc_l_between kV_l_between dc_l_between pm_l_between cd_l_between ct_l_between:Value}{od_l_between an_l_between:Option Addr}{sl_l_between:Array (Option Value)}
  (a_l_between:PySem.W.nsIn K mainGlobals "_law_between" = some (some (.ref f_l_between)))(l_l_between:K.lookup f_l_between=some ⟨oc_l_between,od_l_between,.func (PySem.W.fnOf "_law_between" "_law_between" (defArgs s_l_between) (defBody s_l_between) (defScope s_l_between) .none kV_l_between dc_l_between pm_l_between an_l_between cd_l_between ct_l_between),sl_l_between⟩)(c_l_between:PySem.W.codeIn K cd_l_between "_law_between" = true)(k_l_between:PySem.W.keepIn K (.ref f_l_between)=true)
  {f_l_fits:Addr}{oc_l_fits kV_l_fits dc_l_fits pm_l_fits cd_l_fits ct_l_fits:Value}{od_l_fits an_l_fits:Option Addr}{sl_l_fits:Array (Option Value)}
  (a_l_fits:PySem.W.nsIn K mainGlobals "_law_fits" = some (some (.ref f_l_fits)))(l_l_fits:K.lookup f_l_fits=some ⟨oc_l_fits,od_l_fits,.func (PySem.W.fnOf "_law_fits" "_law_fits" (defArgs s_l_fits) (defBody s_l_fits) (defScope s_l_fits) .none kV_l_fits dc_l_fits pm_l_fits an_l_fits cd_l_fits ct_l_fits),sl_l_fits⟩)(c_l_fits:PySem.W.codeIn K cd_l_fits "_law_fits" = true)(k_l_fits:PySem.W.keepIn K (.ref f_l_fits)=true)
  {f_l_good:Addr}{oc_l_good kV_l_good dc_l_good pm_l_good cd_l_good ct_l_good:Value}{od_l_good an_l_good:Option Addr}{sl_l_good:Array (Option Value)}
  (a_l_good:PySem.W.nsIn K mainGlobals "_law_good" = some (some (.ref f_l_good)))(l_l_good:K.lookup f_l_good=some ⟨oc_l_good,od_l_good,.func (PySem.W.fnOf "_law_good" "_law_good" (defArgs s_l_good) (defBody s_l_good) (defScope s_l_good) .none kV_l_good dc_l_good pm_l_good an_l_good cd_l_good ct_l_good),sl_l_good⟩)(c_l_good:PySem.W.codeIn K cd_l_good "_law_good" = true)(k_l_good:PySem.W.keepIn K (.ref f_l_good)=true)
  {f_l_read:Addr}{oc_l_read kV_l_read dc_l_read pm_l_read cd_l_read ct_l_read:Value}{od_l_read an_l_read:Option Addr}{sl_l_read:Array (Option Value)}
  (a_l_read:PySem.W.nsIn K mainGlobals "_law_read" = some (some (.ref f_l_read)))(l_l_read:K.lookup f_l_read=some ⟨oc_l_read,od_l_read,.func (PySem.W.fnOf "_law_read" "_law_read" (defArgs s_l_read) (defBody s_l_read) (defScope s_l_read) .none kV_l_read dc_l_read pm_l_read an_l_read cd_l_read ct_l_read),sl_l_read⟩)(c_l_read:PySem.W.codeIn K cd_l_read "_law_read" = true)(k_l_read:PySem.W.keepIn K (.ref f_l_read)=true)
  {f_l_due:Addr}{oc_l_due kV_l_due dc_l_due pm_l_due cd_l_due ct_l_due:Value}{od_l_due an_l_due:Option Addr}{sl_l_due:Array (Option Value)}
  (a_l_due:PySem.W.nsIn K mainGlobals "_law_due" = some (some (.ref f_l_due)))(l_l_due:K.lookup f_l_due=some ⟨oc_l_due,od_l_due,.func (PySem.W.fnOf "_law_due" "_law_due" (defArgs s_l_due) (defBody s_l_due) (defScope s_l_due) .none kV_l_due dc_l_due pm_l_due an_l_due cd_l_due ct_l_due),sl_l_due⟩)(c_l_due:PySem.W.codeIn K cd_l_due "_law_due" = true)(k_l_due:PySem.W.keepIn K (.ref f_l_due)=true)
  {f_law:Addr}{oc_law kV_law dc_law pm_law cd_law ct_law:Value}{od_law an_law:Option Addr}{sl_law:Array (Option Value)}
  (a_law:PySem.W.nsIn K mainGlobals "law" = some (some (.ref f_law)))(l_law:K.lookup f_law=some ⟨oc_law,od_law,.func (PySem.W.fnOf "law" "law" (defArgs s_law) (defBody s_law) (defScope s_law) .none kV_law dc_law pm_law an_law cd_law ct_law),sl_law⟩)(c_law:PySem.W.codeIn K cd_law "law" = true)(k_law:PySem.W.keepIn K (.ref f_law)=true)
  (xg_NoDeed:PySem.W.nsIn K mainGlobals "NoDeed" = some (some (.ref C_NoDeed)))
  (xg_NoRow:PySem.W.nsIn K mainGlobals "NoRow" = some (some (.ref C_NoRow)))
  (xg_NoText:PySem.W.nsIn K mainGlobals "NoText" = some (some (.ref C_NoText)))
  (xg_PlaceError:PySem.W.nsIn K mainGlobals "PlaceError" = some (some (.ref C_PlaceError)))
  (xg1:PySem.W.specialIn K (.builtin "object.__class__") "__get__" = some (some (.builtin "getset_descriptor.__get__")))(xg2:PySem.W.takesIn K (.builtin "object.__class__")=some true)
  (x1_NoText:XO.xcls K C_NoText=true)(x2_NoText:PySem.W.findIn K (.ref C_NoText) "__setattr__" = some (some (.builtin "object.__setattr__")))(x3_NoText:PySem.W.findIn K (.ref C_NoText) "__getattribute__" = some (some (.builtin "BaseException.__getattribute__")))(x4_NoText:PySem.W.findIn K (.ref C_NoText) "__getattr__" = some none)(x5_NoText:PySem.W.findIn K (.ref C_NoText) "__class__" = some (some (.builtin "object.__class__")))
  (xf_e_NoText_NoText:PySem.W.exmOne K (.ref C_NoText) (.ref C_NoText)=some true)
  (xf_i_NoText_NoDeed_NoRow:PySem.W.kitAny K (.ref C_NoText) [.ref C_NoDeed,.ref C_NoRow]=some false)
  (xf_i_NoText_PlaceError:PySem.W.kitAny K (.ref C_NoText) [.ref C_PlaceError]=some true)
  (xf_xk_NoText:PySem.W.keepIn K (.ref C_NoText)=true)
  (xf_xn_NoText:XO.xno K C_NoText=true)
  (xf_xt_NoText:PySem.W.typeIn K (.ref C_NoText)=some (.type "type"))
  (gm_BOUNDS:PySem.W.nsIn K mainGlobals "BOUNDS" = some (some (.ref C_BOUNDS)))
  (gm_ENDING_SORTS:PySem.W.nsIn K mainGlobals "ENDING_SORTS" = some (some (.ref C_ENDING_SORTS)))
  (gm_PARTS:PySem.W.nsIn K mainGlobals "PARTS" = some (some (.ref C_PARTS)))
  (ki_BOUNDS:kdIs K C_BOUNDS g_BOUNDS=true)(kh_BOUNDS:hashesOf K C_BOUNDS=some (g_BOUNDS.map λ p=>PyData.keyHash w.params p.1))
  (ki_PARTS:kdIs K C_PARTS g_PARTS=true)(kh_PARTS:hashesOf K C_PARTS=some (g_PARTS.map λ p=>PyData.keyHash w.params p.1))
  (tt_ENDING_SORTS:tupIs K (.ref C_ENDING_SORTS) (.tuple [.str "wish",.str "store",.str "door",.str "rule"])=true)
  (b_abs:PySem.W.nsIn K mainGlobals "abs" = some none)
  (b_all:PySem.W.nsIn K mainGlobals "all" = some none)
  (b_bool:PySem.W.nsIn K mainGlobals "bool" = some none)
  (b_int:PySem.W.nsIn K mainGlobals "int" = some none)
  (b_isinstance:PySem.W.nsIn K mainGlobals "isinstance" = some none)
  (b_len:PySem.W.nsIn K mainGlobals "len" = some none)
  (b_max:PySem.W.nsIn K mainGlobals "max" = some none)
  (b_min:PySem.W.nsIn K mainGlobals "min" = some none)
  (b_range:PySem.W.nsIn K mainGlobals "range" = some none)
  (b_repr:PySem.W.nsIn K mainGlobals "repr" = some none)
  (b_sorted:PySem.W.nsIn K mainGlobals "sorted" = some none)
  (b_str:PySem.W.nsIn K mainGlobals "str" = some none)
  (b_tuple:PySem.W.nsIn K mainGlobals "tuple" = some none)
  (b_zip:PySem.W.nsIn K mainGlobals "zip" = some none)
  {t_FIGURES:Tok}(g_FIGURES:PySem.W.nsIn K mainGlobals "FIGURES" = some (some (.str "0123456789" t_FIGURES)))
  {t_LONGEST_WORD:Tok}(g_LONGEST_WORD:PySem.W.nsIn K mainGlobals "LONGEST_WORD" = some (some (.int 8 t_LONGEST_WORD)))
  {t_MOST_FIGURES:Tok}(g_MOST_FIGURES:PySem.W.nsIn K mainGlobals "MOST_FIGURES" = some (some (.int 10 t_MOST_FIGURES))) :
  ∃ fd:FuncData,(∀ (s:Shared) (v:Value),BindsTo s fd ⟨[v],[]⟩ [("_law_script",v)])/\∀ base:Heap,K.In base->base.Ns mainGlobals mg->FnOk l.prog w K mg base CX0 7 fa fd ["_law_script"] (upSp K sp_law):=by
 have e:=hfa.symm.trans (PySem.W.mg_of X G a_law)
 cases e
 have E:Env w K mg:=⟨PySem.W.mg_of X G xg_NoDeed,PySem.W.mg_of X G xg_NoRow,PySem.W.mg_of X G xg_NoText,PySem.W.mg_of X G xg_PlaceError,⟨x1_NoText,x2_NoText,x3_NoText,x4_NoText,x5_NoText,xg1,xg2⟩,xf_e_NoText_NoText,xf_i_NoText_NoDeed_NoRow,xf_i_NoText_PlaceError,xf_xk_NoText,xf_xn_NoText,xf_xt_NoText,PySem.W.mg_of X G gm_BOUNDS,PySem.W.mg_of X G gm_ENDING_SORTS,PySem.W.mg_of X G gm_PARTS,⟨ki_BOUNDS,kh_BOUNDS,by decide +kernel,by decide⟩,⟨ki_PARTS,kh_PARTS,by decide +kernel,by decide⟩,tt_ENDING_SORTS,PySem.W.mg_none_of X G b_abs,PySem.W.mg_none_of X G b_all,PySem.W.mg_none_of X G b_bool,PySem.W.mg_none_of X G b_int,PySem.W.mg_none_of X G b_isinstance,PySem.W.mg_none_of X G b_len,PySem.W.mg_none_of X G b_max,PySem.W.mg_none_of X G b_min,PySem.W.mg_none_of X G b_range,PySem.W.mg_none_of X G b_repr,PySem.W.mg_none_of X G b_sorted,PySem.W.mg_none_of X G b_str,PySem.W.mg_none_of X G b_tuple,PySem.W.mg_none_of X G b_zip,⟨_,PySem.W.mg_of X G g_FIGURES⟩,⟨_,PySem.W.mg_of X G g_LONGEST_WORD⟩,⟨_,PySem.W.mg_of X G g_MOST_FIGURES⟩⟩
 have G_l_bag:Fn K mg "_law_bag" s_l_bag ["_law_script"] _ _:=fn_mk X G a_l_bag l_l_bag c_l_bag k_l_bag (λ _ _ _ _ _ _ us hl=>by obtain ⟨_,rfl⟩:=D.len_1 hl; rfl)
 have G_l_codes:Fn K mg "_law_codes" s_l_codes [] _ _:=fn_mk X G a_l_codes l_l_codes c_l_codes k_l_codes (λ _ _ _ _ _ _ us hl=>by obtain rfl:=D.len_0 hl; rfl)
 have G_l_take:Fn K mg "_law_take" s_l_take ["_law_bag_here", "_law_many"] _ _:=fn_mk X G a_l_take l_l_take c_l_take k_l_take (λ _ _ _ _ _ _ us hl=>by obtain ⟨_,_,rfl⟩:=D.len_2 hl; rfl)
 have G_l_number:Fn K mg "_law_number" s_l_number ["_law_bag_here", "_law_low", "_law_high"] _ _:=fn_mk X G a_l_number l_l_number c_l_number k_l_number (λ _ _ _ _ _ _ us hl=>by obtain ⟨_,_,_,rfl⟩:=D.len_3 hl; rfl)
 have G_l_word:Fn K mg "_law_word" s_l_word ["_law_bag_here"] _ _:=fn_mk X G a_l_word l_l_word c_l_word k_l_word (λ _ _ _ _ _ _ us hl=>by obtain ⟨_,rfl⟩:=D.len_1 hl; rfl)
 have G_l_bounds:Fn K mg "_law_bounds" s_l_bounds ["_law_code"] _ _:=fn_mk X G a_l_bounds l_l_bounds c_l_bounds k_l_bounds (λ _ _ _ _ _ _ us hl=>by obtain ⟨_,rfl⟩:=D.len_1 hl; rfl)
 have G_l_part:Fn K mg "_law_part" s_l_part ["_law_bag_here", "_law_code"] _ _:=fn_mk X G a_l_part l_l_part c_l_part k_l_part (λ _ _ _ _ _ _ us hl=>by obtain ⟨_,_,rfl⟩:=D.len_2 hl; rfl)
 have G_l_deed:Fn K mg "_law_deed" s_l_deed ["_law_bag_here"] _ _:=fn_mk X G a_l_deed l_l_deed c_l_deed k_l_deed (λ _ _ _ _ _ _ us hl=>by obtain ⟨_,rfl⟩:=D.len_1 hl; rfl)
 have G_l_figures:Fn K mg "_law_figures" s_l_figures ["_law_number_here"] _ _:=fn_mk X G a_l_figures l_l_figures c_l_figures k_l_figures (λ _ _ _ _ _ _ us hl=>by obtain ⟨_,rfl⟩:=D.len_1 hl; rfl)
 have G_l_written:Fn K mg "_law_written" s_l_written ["_law_thing"] _ _:=fn_mk X G a_l_written l_l_written c_l_written k_l_written (λ _ _ _ _ _ _ us hl=>by obtain ⟨_,rfl⟩:=D.len_1 hl; rfl)
 have G_l_bent:Fn K mg "_law_bent" s_l_bent ["_law_bag_here", "_law_text"] _ _:=fn_mk X G a_l_bent l_l_bent c_l_bent k_l_bent (λ _ _ _ _ _ _ us hl=>by obtain ⟨_,_,rfl⟩:=D.len_2 hl; rfl)
 have G_l_strange:Fn K mg "_law_strange" s_l_strange ["_law_bag_here"] _ _:=fn_mk X G a_l_strange l_l_strange c_l_strange k_l_strange (λ _ _ _ _ _ _ us hl=>by obtain ⟨_,rfl⟩:=D.len_1 hl; rfl)
 have G_read_number:Fn K mg "read_number" s_read_number ["text"] _ _:=fn_mk X G a_read_number l_read_number c_read_number k_read_number (λ _ _ _ _ _ _ us hl=>by obtain ⟨_,rfl⟩:=D.len_1 hl; rfl)
 have G_read_part:Fn K mg "read_part" s_read_part ["form", "text"] _ _:=fn_mk X G a_read_part l_read_part c_read_part k_read_part (λ _ _ _ _ _ _ us hl=>by obtain ⟨_,_,rfl⟩:=D.len_2 hl; rfl)
 have G_is_word:Fn K mg "is_word" s_is_word ["thing"] _ _:=fn_mk X G a_is_word l_is_word c_is_word k_is_word (λ _ _ _ _ _ _ us hl=>by obtain ⟨_,rfl⟩:=D.len_1 hl; rfl)
 have G_is_whole:Fn K mg "is_whole" s_is_whole ["thing"] _ _:=fn_mk X G a_is_whole l_is_whole c_is_whole k_is_whole (λ _ _ _ _ _ _ us hl=>by obtain ⟨_,rfl⟩:=D.len_1 hl; rfl)
 have G_is_within:Fn K mg "is_within" s_is_within ["thing", "low", "high"] _ _:=fn_mk X G a_is_within l_is_within c_is_within k_is_within (λ _ _ _ _ _ _ us hl=>by obtain ⟨_,_,_,rfl⟩:=D.len_3 hl; rfl)
 have G_is_part:Fn K mg "is_part" s_is_part ["form", "part"] _ _:=fn_mk X G a_is_part l_is_part c_is_part k_is_part (λ _ _ _ _ _ _ us hl=>by obtain ⟨_,_,rfl⟩:=D.len_2 hl; rfl)
 have G_keep_fits:Fn K mg "keep_fits" s_keep_fits ["forms", "deed"] _ _:=fn_mk X G a_keep_fits l_keep_fits c_keep_fits k_keep_fits (λ _ _ _ _ _ _ us hl=>by obtain ⟨_,_,rfl⟩:=D.len_2 hl; rfl)
 have G_is_deed:Fn K mg "is_deed" s_is_deed ["thing"] _ _:=fn_mk X G a_is_deed l_is_deed c_is_deed k_is_deed (λ _ _ _ _ _ _ us hl=>by obtain ⟨_,rfl⟩:=D.len_1 hl; rfl)
 have G_read_deed:Fn K mg "read_deed" s_read_deed ["text"] _ _:=fn_mk X G a_read_deed l_read_deed c_read_deed k_read_deed (λ _ _ _ _ _ _ us hl=>by obtain ⟨_,rfl⟩:=D.len_1 hl; rfl)
 have G_l_told:Fn K mg "_law_told" s_l_told ["_law_thing"] _ _:=fn_mk X G a_l_told l_l_told c_l_told k_l_told (λ _ _ _ _ _ _ us hl=>by obtain ⟨_,rfl⟩:=D.len_1 hl; rfl)
 have G_l_number_in:Fn K mg "_law_number_in" s_l_number_in ["_law_text"] _ _:=fn_mk X G a_l_number_in l_l_number_in c_l_number_in k_l_number_in (λ _ _ _ _ _ _ us hl=>by obtain ⟨_,rfl⟩:=D.len_1 hl; rfl)
 have G_l_is_word:Fn K mg "_law_is_word" s_l_is_word ["_law_thing"] _ _:=fn_mk X G a_l_is_word l_l_is_word c_l_is_word k_l_is_word (λ _ _ _ _ _ _ us hl=>by obtain ⟨_,rfl⟩:=D.len_1 hl; rfl)
 have G_l_between:Fn K mg "_law_between" s_l_between ["_law_thing", "_law_low", "_law_high"] _ _:=fn_mk X G a_l_between l_l_between c_l_between k_l_between (λ _ _ _ _ _ _ us hl=>by obtain ⟨_,_,_,rfl⟩:=D.len_3 hl; rfl)
 have G_l_fits:Fn K mg "_law_fits" s_l_fits ["_law_code", "_law_thing", "_law_ahead"] _ _:=fn_mk X G a_l_fits l_l_fits c_l_fits k_l_fits (λ _ _ _ _ _ _ us hl=>by obtain ⟨_,_,_,rfl⟩:=D.len_3 hl; rfl)
 have G_l_good:Fn K mg "_law_good" s_l_good ["_law_thing"] _ _:=fn_mk X G a_l_good l_l_good c_l_good k_l_good (λ _ _ _ _ _ _ us hl=>by obtain ⟨_,rfl⟩:=D.len_1 hl; rfl)
 have G_l_read:Fn K mg "_law_read" s_l_read ["_law_text"] _ _:=fn_mk X G a_l_read l_l_read c_l_read k_l_read (λ _ _ _ _ _ _ us hl=>by obtain ⟨_,rfl⟩:=D.len_1 hl; rfl)
 have G_l_due:Fn K mg "_law_due" s_l_due ["_law_thing"] _ _:=fn_mk X G a_l_due l_l_due c_l_due k_l_due (λ _ _ _ _ _ _ us hl=>by obtain ⟨_,rfl⟩:=D.len_1 hl; rfl)
 have G_law:Fn K mg "law" s_law ["_law_script"] _ _:=fn_mk X G a_law l_law c_law k_law (λ _ _ _ _ _ _ us hl=>by obtain ⟨_,rfl⟩:=D.len_1 hl; rfl)
 refine ⟨PySem.W.fnOf "law" "law" (defArgs s_law) (defBody s_law) (defScope s_law) .none kV_law dc_law pm_law an_law cd_law ct_law,λ s v=>.of_eq rfl,λ base _ _=>?_⟩
 have O_l_bag:=ok_l_bag (P:=l.prog) (w:=w) (base:=base) E G_l_bag
 have O_l_codes:=ok_l_codes (P:=l.prog) (w:=w) (base:=base) E G_l_codes
 have O_l_take:=ok_l_take (P:=l.prog) (w:=w) (base:=base) E G_l_take
 have O_l_number:=ok_l_number (P:=l.prog) (w:=w) (base:=base) E G_l_number G_l_take O_l_take
 have O_l_word:=ok_l_word (P:=l.prog) (w:=w) (base:=base) E G_l_word G_l_take O_l_take
 have O_l_bounds:=ok_l_bounds (P:=l.prog) (w:=w) (base:=base) E G_l_bounds
 have O_l_part:=ok_l_part (P:=l.prog) (w:=w) (base:=base) E G_l_part G_l_word O_l_word G_l_take O_l_take G_l_bounds O_l_bounds G_l_number O_l_number
 have O_l_deed:=ok_l_deed (P:=l.prog) (w:=w) (base:=base) E G_l_deed G_l_codes O_l_codes G_l_take O_l_take G_l_number O_l_number G_l_part O_l_part
 have O_l_figures:=ok_l_figures (P:=l.prog) (w:=w) (base:=base) E G_l_figures
 have O_l_written:=ok_l_written (P:=l.prog) (w:=w) (base:=base) E G_l_written G_l_figures O_l_figures
 have O_l_bent:=ok_l_bent (P:=l.prog) (w:=w) (base:=base) E G_l_bent G_l_take O_l_take
 have O_l_strange:=ok_l_strange (P:=l.prog) (w:=w) (base:=base) E G_l_strange G_l_codes O_l_codes G_l_take O_l_take G_l_word O_l_word
 have O_read_number:=ok_read_number (P:=l.prog) (w:=w) (base:=base) E G_read_number
 have O_read_part:=ok_read_part (P:=l.prog) (w:=w) (base:=base) E G_read_part G_read_number O_read_number
 have O_is_word:=ok_is_word (P:=l.prog) (w:=w) (base:=base) E G_is_word
 have O_is_whole:=ok_is_whole (P:=l.prog) (w:=w) (base:=base) E G_is_whole
 have O_is_within:=ok_is_within (P:=l.prog) (w:=w) (base:=base) E G_is_within G_is_whole O_is_whole
 have O_is_part:=ok_is_part (P:=l.prog) (w:=w) (base:=base) E G_is_part G_is_word O_is_word G_is_within O_is_within
 have O_keep_fits:=ok_keep_fits (P:=l.prog) (w:=w) (base:=base) E G_keep_fits
 have O_is_deed:=ok_is_deed (P:=l.prog) (w:=w) (base:=base) E G_is_deed G_is_part O_is_part G_keep_fits O_keep_fits
 have O_read_deed:=ok_read_deed (P:=l.prog) (w:=w) (base:=base) E G_read_deed G_read_part O_read_part G_is_deed O_is_deed
 have O_l_told:=ok_l_told (P:=l.prog) (w:=w) (base:=base) E G_l_told G_read_deed O_read_deed
 have O_l_number_in:=ok_l_number_in (P:=l.prog) (w:=w) (base:=base) E G_l_number_in
 have O_l_is_word:=ok_l_is_word (P:=l.prog) (w:=w) (base:=base) E G_l_is_word
 have O_l_between:=ok_l_between (P:=l.prog) (w:=w) (base:=base) E G_l_between
 have O_l_fits:=ok_l_fits (P:=l.prog) (w:=w) (base:=base) E G_l_fits G_l_is_word O_l_is_word G_l_bounds O_l_bounds G_l_between O_l_between
 have O_l_good:=ok_l_good (P:=l.prog) (w:=w) (base:=base) E G_l_good G_l_codes O_l_codes G_l_fits O_l_fits
 have O_l_read:=ok_l_read (P:=l.prog) (w:=w) (base:=base) E G_l_read G_l_codes O_l_codes G_l_number_in O_l_number_in G_l_good O_l_good
 have O_l_due:=ok_l_due (P:=l.prog) (w:=w) (base:=base) E G_l_due G_l_read O_l_read
 have O_law:=ok_law (P:=l.prog) (w:=w) (base:=base) E G_law G_l_bag O_l_bag G_l_deed O_l_deed G_l_written O_l_written G_l_take O_l_take G_l_bent O_l_bent G_l_strange O_l_strange G_l_told O_l_told G_l_due O_l_due
 exact O_law
end
theorem walk {l:PySem.W.OpenLaw}{q:Program}{loose:List Str}{XP:(Str->Option Value)->Heap->Prop}{YP:World->Heap->Prop}{d:DefRec}{K:Params->PySem.W.Frag}(hq:PyProof.Rows.importsNone q=true)(hn:l.most=some 63)(hdf:d.params.defaults=[])
  (hY:∀ (w:World) (h:Heap),YP w h->(K w.params).In h)
  (F:∀ (w:World) (mg:Str->Option Value) (fa:Addr) (h:Heap),(K w.params).In h->h.Ns mainGlobals mg->mg d.name=some (.ref fa) ->
   ∃ fd:FuncData,(∀ (s:Shared) (u:Value),BindsTo s fd ⟨[u],[]⟩ [("_law_script",u)])/\∀ base:Heap,(K w.params).In base->base.Ns mainGlobals mg->FnOk l.prog w (K w.params) mg base CX0 7 fa fd ["_law_script"] (upSp (K w.params) sp_law)) :
  PySem.W.WalkO q loose XP YP l.row.toRowW d [] (λ f vs=>PySem.call f vs) :=
 L2.walk_of (n:=63) (k:=7) (x := "_law_script") (CX:=λ _=>CX0) (sp:=λ w=>upSp (K w.params) sp_law) hq hn (by decide) hdf ⟨rfl,rfl,by decide,by decide⟩ hY F (λ _ H a ns hl hO hS=>D.law_start hl hO hS law_read) λ _ _ _ _ _ z=>z
end K15
namespace PySem.W.Fast
def tw5198319273145657319:=0
def tw6022003856332051778:=0
def tw204589178507655230:=0
def tw12651415689364101389:=0
def tw3860883842781545974:=0
def tw4152958675126543762:=0
def tw1241398188128188606:=0
def tw15860510370324951608:=0
def tw14590785101300112922:=0
def tw9818197891473686045:=0
def tw12403329853354418655:=0
def tw10898428220341352417:=0
end PySem.W.Fast
open PySem PySem.W PyProof.Rows
set_option maxRecDepth 100000 in
theorem PySem.Challenge.cw_placedworks_k15_texts_refused_holds : PySem.Challenge.rw_placedworks_k15_texts_refused.Holds := by
 w_on; o_law; k_head; (case hw=>w_witness2)
 k_fill
 refine K15.walk (l:=PySem.Challenge.rw_placedworks_k15_texts_refused) ?Q rfl rfl (λ w h Y=>PySem.W.kIn_of Y) ?F
 case Q=>kernel_rfl
 case F =>
  intro w mg fa h KX G hmg
  refine' K15.all_mk KX G hmg ?a_l_bag ?l_l_bag ?c_l_bag ?k_l_bag ?a_l_codes ?l_l_codes ?c_l_codes ?k_l_codes ?a_l_take ?l_l_take ?c_l_take ?k_l_take ?a_l_number ?l_l_number ?c_l_number ?k_l_number ?a_l_word ?l_l_word ?c_l_word ?k_l_word ?a_l_bounds ?l_l_bounds ?c_l_bounds ?k_l_bounds ?a_l_part ?l_l_part ?c_l_part ?k_l_part ?a_l_deed ?l_l_deed ?c_l_deed ?k_l_deed ?a_l_figures ?l_l_figures ?c_l_figures ?k_l_figures ?a_l_written ?l_l_written ?c_l_written ?k_l_written ?a_l_bent ?l_l_bent ?c_l_bent ?k_l_bent ?a_l_strange ?l_l_strange ?c_l_strange ?k_l_strange ?a_read_number ?l_read_number ?c_read_number ?k_read_number ?a_read_part ?l_read_part ?c_read_part ?k_read_part ?a_is_word ?l_is_word ?c_is_word ?k_is_word ?a_is_whole ?l_is_whole ?c_is_whole ?k_is_whole ?a_is_within ?l_is_within ?c_is_within ?k_is_within ?a_is_part ?l_is_part ?c_is_part ?k_is_part ?a_keep_fits ?l_keep_fits ?c_keep_fits ?k_keep_fits ?a_is_deed ?l_is_deed ?c_is_deed ?k_is_deed ?a_read_deed ?l_read_deed ?c_read_deed ?k_read_deed ?a_l_told ?l_l_told ?c_l_told ?k_l_told ?a_l_number_in ?l_l_number_in ?c_l_number_in ?k_l_number_in ?a_l_is_word ?l_l_is_word ?c_l_is_word ?k_l_is_word ?a_l_between ?l_l_between ?c_l_between ?k_l_between ?a_l_fits ?l_l_fits ?c_l_fits ?k_l_fits ?a_l_good ?l_l_good ?c_l_good ?k_l_good ?a_l_read ?l_l_read ?c_l_read ?k_l_read ?a_l_due ?l_l_due ?c_l_due ?k_l_due ?a_law ?l_law ?c_law ?k_law ?xg_NoDeed ?xg_NoRow ?xg_NoText ?xg_PlaceError ?xg1 ?xg2 ?x1_NoText ?x2_NoText ?x3_NoText ?x4_NoText ?x5_NoText ?xf_e_NoText_NoText ?xf_i_NoText_NoDeed_NoRow ?xf_i_NoText_PlaceError ?xf_xk_NoText ?xf_xn_NoText ?xf_xt_NoText ?gm_BOUNDS ?gm_ENDING_SORTS ?gm_PARTS ?ki_BOUNDS ?kh_BOUNDS ?ki_PARTS ?kh_PARTS ?tt_ENDING_SORTS ?b_abs ?b_all ?b_bool ?b_int ?b_isinstance ?b_len ?b_max ?b_min ?b_range ?b_repr ?b_sorted ?b_str ?b_tuple ?b_zip ?g_FIGURES ?g_LONGEST_WORD ?g_MOST_FIGURES
  (case a_l_bag=>k_is)
  (case l_l_bag=>k_is)
  (case c_l_bag=>k_is)
  (case k_l_bag=>k_is)
  (case a_l_codes=>k_is)
  (case l_l_codes=>k_is)
  (case c_l_codes=>k_is)
  (case k_l_codes=>k_is)
  (case a_l_take=>k_is)
  (case l_l_take=>k_is)
  (case c_l_take=>k_is)
  (case k_l_take=>k_is)
  (case a_l_number=>k_is)
  (case l_l_number=>k_is)
  (case c_l_number=>k_is)
  (case k_l_number=>k_is)
  (case a_l_word=>k_is)
  (case l_l_word=>k_is)
  (case c_l_word=>k_is)
  (case k_l_word=>k_is)
  (case a_l_bounds=>k_is)
  (case l_l_bounds=>k_is)
  (case c_l_bounds=>k_is)
  (case k_l_bounds=>k_is)
  (case a_l_part=>k_is)
  (case l_l_part=>k_is)
  (case c_l_part=>k_is)
  (case k_l_part=>k_is)
  (case a_l_deed=>k_is)
  (case l_l_deed=>k_is)
  (case c_l_deed=>k_is)
  (case k_l_deed=>k_is)
  (case a_l_figures=>k_is)
  (case l_l_figures=>k_is)
  (case c_l_figures=>k_is)
  (case k_l_figures=>k_is)
  (case a_l_written=>k_is)
  (case l_l_written=>k_is)
  (case c_l_written=>k_is)
  (case k_l_written=>k_is)
  (case a_l_bent=>k_is)
  (case l_l_bent=>k_is)
  (case c_l_bent=>k_is)
  (case k_l_bent=>k_is)
  (case a_l_strange=>k_is)
  (case l_l_strange=>k_is)
  (case c_l_strange=>k_is)
  (case k_l_strange=>k_is)
  (case a_read_number=>k_is)
  (case l_read_number=>k_is)
  (case c_read_number=>k_is)
  (case k_read_number=>k_is)
  (case a_read_part=>k_is)
  (case l_read_part=>k_is)
  (case c_read_part=>k_is)
  (case k_read_part=>k_is)
  (case a_is_word=>k_is)
  (case l_is_word=>k_is)
  (case c_is_word=>k_is)
  (case k_is_word=>k_is)
  (case a_is_whole=>k_is)
  (case l_is_whole=>k_is)
  (case c_is_whole=>k_is)
  (case k_is_whole=>k_is)
  (case a_is_within=>k_is)
  (case l_is_within=>k_is)
  (case c_is_within=>k_is)
  (case k_is_within=>k_is)
  (case a_is_part=>k_is)
  (case l_is_part=>k_is)
  (case c_is_part=>k_is)
  (case k_is_part=>k_is)
  (case a_keep_fits=>k_is)
  (case l_keep_fits=>k_is)
  (case c_keep_fits=>k_is)
  (case k_keep_fits=>k_is)
  (case a_is_deed=>k_is)
  (case l_is_deed=>k_is)
  (case c_is_deed=>k_is)
  (case k_is_deed=>k_is)
  (case a_read_deed=>k_is)
  (case l_read_deed=>k_is)
  (case c_read_deed=>k_is)
  (case k_read_deed=>k_is)
  (case a_l_told=>k_is)
  (case l_l_told=>k_is)
  (case c_l_told=>k_is)
  (case k_l_told=>k_is)
  (case a_l_number_in=>k_is)
  (case l_l_number_in=>k_is)
  (case c_l_number_in=>k_is)
  (case k_l_number_in=>k_is)
  (case a_l_is_word=>k_is)
  (case l_l_is_word=>k_is)
  (case c_l_is_word=>k_is)
  (case k_l_is_word=>k_is)
  (case a_l_between=>k_is)
  (case l_l_between=>k_is)
  (case c_l_between=>k_is)
  (case k_l_between=>k_is)
  (case a_l_fits=>k_is)
  (case l_l_fits=>k_is)
  (case c_l_fits=>k_is)
  (case k_l_fits=>k_is)
  (case a_l_good=>k_is)
  (case l_l_good=>k_is)
  (case c_l_good=>k_is)
  (case k_l_good=>k_is)
  (case a_l_read=>k_is)
  (case l_l_read=>k_is)
  (case c_l_read=>k_is)
  (case k_l_read=>k_is)
  (case a_l_due=>k_is)
  (case l_l_due=>k_is)
  (case c_l_due=>k_is)
  (case k_l_due=>k_is)
  (case a_law=>k_is)
  (case l_law=>k_is)
  (case c_law=>k_is)
  (case k_law=>k_is)
  (case xg_NoDeed=>k_is)
  (case xg_NoRow=>k_is)
  (case xg_NoText=>k_is)
  (case xg_PlaceError=>k_is)
  (case xg1=>k_is)
  (case xg2=>k_is)
  (case x1_NoText=>kernel_rfl)
  (case x2_NoText=>k_is)
  (case x3_NoText=>k_is)
  (case x4_NoText=>k_is)
  (case x5_NoText=>k_is)
  (case xf_e_NoText_NoText=>kernel_rfl)
  (case xf_i_NoText_NoDeed_NoRow=>kernel_rfl)
  (case xf_i_NoText_PlaceError=>kernel_rfl)
  (case xf_xk_NoText=>kernel_rfl)
  (case xf_xn_NoText=>kernel_rfl)
  (case xf_xt_NoText=>kernel_rfl)
  (case gm_BOUNDS=>k_is)
  (case gm_ENDING_SORTS=>k_is)
  (case gm_PARTS=>k_is)
  (case ki_BOUNDS=>kernel_rfl)
  (case kh_BOUNDS=>kernel_rfl)
  (case ki_PARTS=>kernel_rfl)
  (case kh_PARTS=>kernel_rfl)
  (case tt_ENDING_SORTS=>kernel_rfl)
  (case b_abs=>k_is)
  (case b_all=>k_is)
  (case b_bool=>k_is)
  (case b_int=>k_is)
  (case b_isinstance=>k_is)
  (case b_len=>k_is)
  (case b_max=>k_is)
  (case b_min=>k_is)
  (case b_range=>k_is)
  (case b_repr=>k_is)
  (case b_sorted=>k_is)
  (case b_str=>k_is)
  (case b_tuple=>k_is)
  (case b_zip=>k_is)
  (case g_FIGURES=>k_is)
  (case g_LONGEST_WORD=>k_is)
  (case g_MOST_FIGURES=>k_is)
