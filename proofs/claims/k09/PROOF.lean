import PyProof.Rows.All
import Wide.All
import OpenK.AllK
import Wide.FinOn
import Lean
import PyProof.EqAt
import PyProof.EqKinds
import PyProof.TupleCall
import PyProof.EnumMake
import PyProof.EnumFor
import PyProof.NeKinds
import PyProof.EnumStmt
import PyProof.DictCompW
import KE.KDictList
import KE.KRevSl
import PyProof.ListRange
import PyProof.ConsumeWalk
import PyProof.SumWalk
import PyProof.MinMaxWalk
import PyProof.DictWalks
import PyProof.StrWalks
import PyProof.Rows.SortStr
import PyProof.Rows.SortShell
import PyProof.Rows.SortWalk
import PyProof.StrBlockG
import PyProof.StrLawsTight
import PyProof.Rows.RuleB_and
import PyProof.Rows.RuleB_or
import PyProof.Rows.SetFrom
import PyProof.SetRoads
import PyProof.Rows.SumAny
import KE.KRevIter
import PyProof.Rows.Range3
import KE.KDictLaws
import PyProof.ConsumeS
import PyProof.ZipIter
import PyProof.ListNew
import PyProof.Draws
import PyProof.CallStr
import PyProof.StrLawsChain
import PySem.Challenge.RW_drawnword_k09_words_alike
set_option Elab.async false
set_option linter.all false
set_option maxRecDepth 100000
theorem Qb{α β:Type _}{x:Option α}{f:α->Option β}{b:β}(h:x.bind f=some b):∃ a,x=some a/\f a=some b:=Option.bind_eq_some_iff.mp h
theorem Qm{α β:Type _}{x:Option α}{f:α->β}{b:β}(h:x.map f=some b):∃ a,x=some a/\f a=b:=Option.map_eq_some_iff.mp h
namespace L2
open PySem PySem.Spec PyProof.Rows
abbrev Key:=Sum Int Str
def keyIs:Key->Value->Bool
 | .inl k,v=>Value.isInt k v
 | .inr x,v=>Value.isStrOf x v
def keyH(w:World):Key->Int
 | .inl k=>hashInt k
 | .inr x=>hashStr w x
theorem zaw:∀ {k:Key} {v:Value},keyIs k v=true->(∃ i t,k=Sum.inl i/\v=Value.int i t)∨(∃ x t,k=Sum.inr x/\v=Value.str x t)
 | .inl i,v,h=>by
  obtain ⟨t,e⟩:=Value.isInt_shape (k:=i) (v:=v) h
  exact .inl ⟨i,t,rfl,e⟩
 | .inr x,v,h=>by
  obtain ⟨t,e⟩:=Value.isStrOf_shape (x:=x) (v:=v) h
  exact .inr ⟨x,t,rfl,e⟩
theorem zi7(i:Int)(t:Tok):keyIs (.inl i) (.int i t)=true:=by simp [keyIs,Value.isInt]
theorem zi6(x:Str)(t:Tok):keyIs (.inr x) (.str x t)=true:=by simp [keyIs,Value.isStrOf]
theorem zn7(a b:Int):decide ((Sum.inl a:Key)=Sum.inl b)=(a == b):=by
 by_cases e:a=b
 ·subst e; simp
 ·have h:¬ (Sum.inl a:Key)=Sum.inl b:=fun q=>e (Sum.inl.inj q)
  rw [decide_eq_false h]
  exact (beq_eq_false_iff_ne.mpr e).symm
theorem zn4(a b:Str):decide ((Sum.inr a:Key)=Sum.inr b)=decide (a=b):=by
 by_cases e:a=b
 ·subst e; simp
 ·have h:¬ (Sum.inr a:Key)=Sum.inr b:=fun q=>e (Sum.inr.inj q)
  rw [decide_eq_false h,decide_eq_false e]
theorem zn6(a:Int)(b:Str):decide ((Sum.inl a:Key)=Sum.inr b)=false:=decide_eq_false (fun q=>nomatch q)
theorem zn5(a:Str)(b:Int):decide ((Sum.inr a:Key)=Sum.inl b)=false:=decide_eq_false (fun q=>nomatch q)
def zaE(prog:Program)(w:World):PySem.KeyKind prog w Key where
 is:=keyIs
 hash:=keyH w
 inj:=fun v a b ha hb=>by
  rcases zaw ha with ⟨i,t,rfl,rfl⟩ | ⟨x,t,rfl,rfl⟩
  ·rcases zaw hb with ⟨j,u,rfl,e⟩ | ⟨y,u,rfl,e⟩
   ·injection e with e1 _; rw [e1]
   ·exact nomatch e
  ·rcases zaw hb with ⟨j,u,rfl,e⟩ | ⟨y,u,rfl,e⟩
   ·exact nomatch e
   ·injection e with e1 _; rw [e1]
 byValue:=fun k v h=>by
  rcases zaw h with ⟨i,t,rfl,rfl⟩ | ⟨x,t,rfl,rfl⟩<;>rfl
 pyHash:=fun hv h=>by
  rcases zaw hv with ⟨i,t,rfl,rfl⟩ | ⟨x,t,rfl,rfl⟩
  ·exact wpAny_pyHash_int h
  ·exact wpAny_pyHash_str h
 eqBool:=fun hu hv h=>by
  rcases zaw hu with ⟨i,t,rfl,rfl⟩ | ⟨x,t,rfl,rfl⟩
  ·rcases zaw hv with ⟨j,u,rfl,rfl⟩ | ⟨y,u,rfl,rfl⟩
   ·rw [zn7] at h; exact wpAny_eqBool_int h
   ·rw [zn6] at h; exact SeqAt.EqAt.int_str i t y u _ _ _ _ h
  ·rcases zaw hv with ⟨j,u,rfl,rfl⟩ | ⟨y,u,rfl,rfl⟩
   ·rw [zn5] at h; exact SeqAt.EqAt.str_int x t j u _ _ _ _ h
   ·rw [zn4] at h; exact wpAny_eqBool_str h
 «strs»:=fun k x t v h=>by
  rcases zaw h with ⟨i,u,rfl,e⟩ | ⟨y,u,rfl,e⟩
  ·exact nomatch e
  ·injection e with e1 _
   subst e1
   cases v<;>rfl
theorem zfI(prog:Program)(w:World)(i:Int)(t:Tok):(zaE prog w).is (.inl i) (.int i t)=true:=zi7 i t
theorem zfH(prog:Program)(w:World)(x:Str)(t:Tok):(zaE prog w).is (.inr x) (.str x t)=true:=zi6 x t
end L2
namespace L2
open PySem PySem.Spec PyProof.Rows
inductive V where
 | non | bl (b:Bool) | int (i:Int) | str (x:Str) | byt (b:Array UInt8) | flt (b:UInt64) | ref (a:Addr) | ty (n:String)
 deriving DecidableEq
def RelV:V->Value->Prop
 | .non,u=>u=Value.none
 | .bl b,u=>u=Value.bool b
 | .int i,u=>∃ t,u=Value.int i t
 | .str x,u=>∃ t,u=Value.str x t
 | .byt b,u=>∃ t,u=Value.bytes b t
 | .flt b,u=>∃ t,u=Value.float b t
 | .ref a,u=>u=Value.ref a
 | .ty n,u=>u=Value.type n
abbrev Vals:List V->List Value->Prop:=Paired RelV
theorem Vals.length{xs:List V}{us:List Value}(r:Vals xs us):xs.length=us.length:=Paired.length r
theorem Vals.get:∀ {xs:List V} {us:List Value} {i:Nat} {x:V},Vals xs us->xs[i]?=some x->∃ u,us[i]?=some u/\RelV x u
 | _,_,_,_,.nil,e=>by simp at e
 | _,_,0,_,.cons r _,e=>by simp at e; subst e; exact ⟨_,rfl,r⟩
 | _,_,i+1,x,.cons _ t,e=>by
  obtain ⟨u,h1,h2⟩:=Vals.get (i:=i) (x:=x) t (by simpa using e)
  exact ⟨u,by simpa using h1,h2⟩
theorem Vals.set{x:V}{u:Value}(r:RelV x u):∀ {xs:List V} {us:List Value} (i:Nat),Vals xs us->Vals (xs.set i x) (us.set i u)
 | _,_,_,.nil=>.nil
 | _,_,0,.cons _ t=>.cons r t
 | _,_,i+1,.cons q t=>.cons q (Vals.set r i t)
theorem Vals.append:∀ {xs ys:List V} {us ws:List Value},Vals xs us->Vals ys ws->Vals (xs++ys) (us++ws)
 | _,_,_,_,.nil,s=>s
 | _,_,_,_,.cons r t,s=>.cons r (Vals.append t s)
theorem Vals.take:∀ {xs:List V} {us:List Value} (n:Nat),Vals xs us->Vals (xs.take n) (us.take n)
 | _,_,0,_=>.nil
 | _,_,_+1,.nil=>.nil
 | _,_,n+1,.cons r t=>.cons r (Vals.take n t)
theorem Vals.drop:∀ {xs:List V} {us:List Value} (n:Nat),Vals xs us->Vals (xs.drop n) (us.drop n)
 | _,_,0,r=>r
 | _,_,_+1,.nil=>.nil
 | _,_,n+1,.cons _ t=>Vals.drop n t
def RelO:Option V->Option Value->Prop
 | some v,some u=>RelV v u
 | none,none=>True
 | _,_=>False
def KV{κ:Type}:List (κ × V)->List (κ × Value)->Prop:=Paired fun (p:κ × V) (q:κ × Value)=>p.1=q.1/\RelV p.2 q.2
def kV:Key->V
 | .inl i=>.int i
 | .inr x=>.str x
inductive HO where
 /-- a list -/
 | lst (xs:List V)
 /-- a tuple (never changes) -/
 | tup (xs:List V)
 /-- a dict whose keys are ints and texts; one whose keys are tuples of ints and texts (the empty one is both) -/
 | dK (kvs:List (Key × V)) | dT (kvs:List (List Key × V))
 /-- a set of ints: its members,its size -/
 | set (S:Int->Bool) (n:Nat)
 /-- an instance of the class at C,its dict at dx,its attributes -/
 | ins (C dx:Addr) (fs:List (Str × V))
 /-- the dict of the instance at x -/
 | own (x:Addr)
 /-- the dict of an exception -/
 | xd (fs:List (Str × V))
 /-- a bound method,f of x -/
 | met (f x:Addr)
 /-- a range object lo,lo+1,.. below hi -/
 | rng (lo hi:Int)
 /-- a thing that is known to the object (the script; a dict while a loop walks it): read,never written while it is so -/
 | frz (o:Obj) (u:HO)
 /-- a code object's table -/
 | tbl (ps:Array Value)
 /-- any other thing,by what is true of its one object (a def of one's own: SetO a S n:=HO.ext fun h=>..) -/
 | ext (φ:Heap->Prop)
abbrev Hp:=Addr->Option HO
def upd(H:Hp)(a:Addr)(o:HO):Hp:=fun b=>if b=a then some o else H b
theorem za8{H:Hp}{a:Addr}{o:HO}:upd H a o a=some o:=by unfold upd; rw [if_pos rfl]
theorem za5{H:Hp}{a b:Addr}{o:HO}(h:b≠a):upd H a o b=H b:=by unfold upd; rw [if_neg h]
theorem za3{H:Hp}{a b:Addr}{o:HO}(h:H a=some o)(h':H b=none):a≠b:=by
 intro e; subst e; rw [h] at h'; cases h'
section
variable (P:Program)(w:World)
def ObjOk(H:Hp)(h:Heap)(a:Addr):HO->Prop
 | .lst xs=>xs.length<=sizeLine/\∃ (its:List Value) (n:Nat),Vals xs its/\h.get? a=some { cls:=.type "list",data:=.seq its.toArray n }
 | .tup xs=>xs.length<=sizeLine/\∃ its:List Value,Vals xs its/\IsTup h a its.toArray
 | .dK kvs=>kvs.length<=sizeLine/\(a == sysModules)=false/\∃ vs,KV kvs vs/\h.DictOf (zaE P w) a vs
 | .dT kvs=>kvs.length<=sizeLine/\(a == sysModules)=false/\∃ xs:List (List Key × Addr × Value),
   Paired (fun (p:List Key × V) (q:List Key × Addr × Value)=>p.1=q.1/\H q.2.1=some (.tup (p.1.map kV))/\RelV p.2 q.2.2) kvs xs /\
   ∃ o es ep,h.get? a=some o/\o.ExactDict/\o.data=.dict es ep/\es.toList=xs.map (entryOfKey (tupleKind (zaE P w)))/\(xs.map (·.1)).Nodup
 | .set S n=>h.SetOf (intKind P w) a S n
 | .ins C dx fs=>H dx=some (.own a)/\fs.length<=1000/\dx≠a/\h.get? a=some (PySem.W.instObj C dx) /\
   ∃ mA,h.Ns1 dx mA/\(∀ f,RelO (fs.lookup f) (mA f))/\PySem.Within mA (fs.map (·.1))
 | .own _=>∃ o,h.get? a=some o
 | .xd fs=>∃ mA,h.Ns1 a mA/\∀ f,RelO (fs.lookup f) (mA f)
 | .rng lo hi=>∃ t u v,h.get? a=some { cls:=.type "range",data:=.fields #[.int lo t,.int hi u,.int 1 v] }
 | .frz o u=>h.get? a=some o/\ObjOk H h a u
 | .tbl ps=>h.get? a=some { cls:=.none,data:=.fields ps }
 | .met f x=>h.get? a=some (PySem.W.methodObj (.ref f) (.ref x))
 | .ext φ=>φ h/\(∃ o,h.get? a=some o)/\∀ h1 h2:Heap,φ h1->(∀ o,h1.get? a=some o->h2.get? a=some o)->φ h2
def HOk(H:Hp)(h:Heap):Prop:=∀ a o,H a=some o->ObjOk P w H h a o
end
section
variable {P:Program}{w:World}{H H':Hp}{h h':Heap}{a:Addr}{o:HO}
theorem ObjOk.lt(x:ObjOk P w H h a o):a < h.objs.size:=by
 cases o with
 | lst xs=>obtain ⟨_,_,_,_,e⟩:=x; exact Heap.lt_size e
 | tup xs=>obtain ⟨_,_,_,p⟩:=x; exact p.lt
 | dK kvs=>obtain ⟨_,_,_,_,o,_,_,e,_⟩:=x; exact Heap.lt_size e
 | dT kvs=>obtain ⟨_,_,_,_,o,_,_,e,_⟩:=x; exact Heap.lt_size e
 | set S n=>obtain ⟨o,_,_,_,e,_⟩:=x; exact Heap.lt_size e
 | ins C dx fs=>obtain ⟨_,_,_,e,_⟩:=x; exact Heap.lt_size e
 | own y=>obtain ⟨_,e⟩:=x; exact Heap.lt_size e
 | xd fs=>obtain ⟨_,⟨_,_,_,e,_⟩,_⟩:=x; exact Heap.lt_size e
 | rng lo hi=>obtain ⟨_,_,_,e⟩:=x; exact Heap.lt_size e
 | frz ob u=>obtain ⟨e,_⟩:=x; exact Heap.lt_size e
 | tbl ps=>exact Heap.lt_size (show h.get? a=some _ from x)
 | met f y=>exact Heap.lt_size (show h.get? a=some _ from x)
 | ext φ=>obtain ⟨_,⟨_,e⟩,_⟩:=x; exact Heap.lt_size e
theorem Paired.mapP{α β:Type}{F G:α->β->Prop}:∀ {l₁:List α} {l₂:List β},Paired F l₁ l₂->(∀ a b,F a b->G a b)->Paired G l₁ l₂
 | _,_,.nil,_=>.nil
 | _,_,.cons r t,f=>.cons (f _ _ r) (Paired.mapP t f)
theorem ObjOk.stay(x:ObjOk P w H h a o)(k:∀ b u,(b=a∨H b=some (.own a))->h.get? b=some u->h'.get? b=some u)
  (ho:∀ b,H b=some (.own a)->H' b=some (.own a)) (ht:∀ b xs,H b=some (.tup xs)->H' b=some (.tup xs)):ObjOk P w H' h' a o:=by
 induction o with
 | lst xs=>obtain ⟨z,its,n,r,e⟩:=x; exact ⟨z,its,n,r,k _ _ (.inl rfl) e⟩
 | tup xs=>obtain ⟨z,its,r,ob,e,c⟩:=x; exact ⟨z,its,r,ob,k _ _ (.inl rfl) e,c⟩
 | dK kvs=>obtain ⟨z,y,vs,r,ob,es,ep,e,c⟩:=x; exact ⟨z,y,vs,r,ob,es,ep,k _ _ (.inl rfl) e,c⟩
 | dT kvs=>
  obtain ⟨z,y,xs,r,ob,es,ep,e,c⟩:=x
  exact ⟨z,y,xs,Paired.mapP r fun p q z=>⟨z.1,ht _ _ z.2.1,z.2.2⟩,ob,es,ep,k _ _ (.inl rfl) e,c⟩
 | set S n=>obtain ⟨ob,es,ep,t,e,c⟩:=x; exact ⟨ob,es,ep,t,k _ _ (.inl rfl) e,c⟩
 | ins C dx fs=>
  obtain ⟨d,z,ne,e,mA,⟨od,es,ep,e2,c⟩,r⟩:=x
  exact ⟨ho _ d,z,ne,k _ _ (.inl rfl) e,mA,⟨od,es,ep,k _ _ (.inr d) e2,c⟩,r⟩
 | own y=>obtain ⟨ob,e⟩:=x; exact ⟨ob,k _ _ (.inl rfl) e⟩
 | xd fs=>obtain ⟨mA,⟨od,es,ep,e,c⟩,r⟩:=x; exact ⟨mA,⟨od,es,ep,k _ _ (.inl rfl) e,c⟩,r⟩
 | rng lo hi=>obtain ⟨t,u,v,e⟩:=x; exact ⟨t,u,v,k _ _ (.inl rfl) e⟩
 | frz ob u ih=>obtain ⟨e,q⟩:=x; exact ⟨k _ _ (.inl rfl) e,ih q⟩
 | tbl ps=>
  have e:h.get? a=some { cls:=.none,data:=.fields ps }:=x
  show h'.get? a=some { cls:=.none,data:=.fields ps }
  exact k a _ (.inl rfl) e
 | met f y=>
  have e:h.get? a=some (PySem.W.methodObj (.ref f) (.ref y)):=x
  show h'.get? a=some (PySem.W.methodObj (.ref f) (.ref y))
  exact k a _ (.inl rfl) e
 | ext φ=>obtain ⟨p,⟨o,e⟩,st⟩:=x; exact ⟨st _ _ p fun o q=>k _ _ (.inl rfl) q,⟨o,k _ _ (.inl rfl) e⟩,st⟩
theorem HOk.lt(x:HOk P w H h)(e:H a=some o):a < h.objs.size:=(x a o e).lt
theorem HOk.fresh(x:HOk P w H h)(e:h.objs.size<=a):H a=none:=by
 cases q:H a with
 | none=>rfl
 | some u=>exact absurd (Nat.lt_of_lt_of_le (x.lt q) e) (Nat.lt_irrefl _)
theorem HOk.kept(x:HOk P w H h)(k:∀ b u,h.get? b=some u->h'.get? b=some u):HOk P w H h':=fun a o e=>
 (x a o e).stay (fun b u _ q=>k b u q) (fun _ q=>q) fun _ _ q=>q
theorem HOk.laid(x:HOk P w H h)(k:∀ b u,h.get? b=some u->h'.get? b=some u)(hp:h.objs.size<=a)(new:ObjOk P w (upd H a o) h' a o):HOk P w (upd H a o) h':=fun b u e=>by
 have hn:=x.fresh hp
 by_cases hb:b=a
 ·subst hb; rw [za8] at e; cases e; exact new
 ·rw [za5 hb] at e
  exact (x b u e).stay (fun c v _ q=>k c v q) (fun c q=>by rw [za5 (za3 q hn)]; exact q) fun c xs q=>by rw [za5 (za3 q hn)]; exact q
end
def Rd(H:Hp)(a:Addr)(u:HO):Prop:=H a=some u∨∃ o,H a=some (.frz o u)
theorem Rd.ok{P:Program}{w:World}{H:Hp}{h:Heap}{a:Addr}{u:HO}(r:Rd H a u)(x:HOk P w H h):ObjOk P w H h a u:=by
 rcases r with r | ⟨o,r⟩
 ·exact x a u r
 ·obtain ⟨_,q⟩:=x a _ r
  exact q
def Mut:Option HO->Prop
 | some (.lst _)=>True
 | some (.dK _)=>True
 | some (.dT _)=>True
 | some (.set _ _)=>True
 | some (.ins _ _ _)=>True
 | some (.ext _)=>True
 | _=>False
section
variable {P:Program}{w:World}{H:Hp}{h h':Heap}{x e:Addr}{o':HO}
theorem HOk.write(ok:HOk P w H h)(mu:Mut (H x))(he:e=x∨H e=some (.own x))(k:∀ b u,b≠e->h.get? b=some u->h'.get? b=some u)(heo:∃ u,h'.get? e=some u)
  (new:ObjOk P w (upd H x o') h' x o'):HOk P w (upd H x o') h':=fun b u q=>by
 have nown:∀ c y,H c=some (.own y)->c≠x:=fun c y r z=>by subst z; rw [r] at mu; exact mu
 have ntup:∀ c xs,H c=some (.tup xs)->c≠x:=fun c xs r z=>by subst z; rw [r] at mu; exact mu
 by_cases hb:b=x
 ·subst hb; rw [za8] at q; cases q; exact new
 ·rw [za5 hb] at q
  by_cases hbe:b=e
  ·have q':H b=some (.own x):=by
    rcases he with z | z
    ·exact absurd (hbe.trans z) hb
    ·rw [hbe]; exact z
   rw [q] at q'; cases q'
   obtain ⟨v,hv⟩:=heo
   exact ⟨v,by rw [hbe]; exact hv⟩
  ·refine (ok b u q).stay (fun c v hc r=>k c v ?_ r) (fun c r=>by rw [za5 (nown c b r)]; exact r) fun c xs r=>by rw [za5 (ntup c xs r)]; exact r
   rcases hc with rfl | hc
   ·exact hbe
   ·rintro rfl
    rcases he with z | z
    ·exact nown c b hc z
    ·rw [hc] at z; cases z; exact hb rfl
end
structure Un (fs ex:List Addr) (H H':Hp) (h h':Heap):Prop where
 keep:∀ b o,h.get? b=some o->H b=none->b∉fs->b∉ex->h'.get? b=some o
 slot:∀ b o,h.get? b=some o->H b=none->b∈fs->b∉ex->∃ sl,h'.get? b=some { o with slots:=sl }
 free:∀ b o,h.get? b=some o->H b=none->b∉ex->H' b=none
 there:∀ b o,h.get? b=some o->b∉ex->∃ o',h'.get? b=some o'
 tups:∀ b xs,H b=some (.tup xs)->H' b=some (.tup xs)
 frzs:∀ b o u,H b=some (.frz o u)->H' b=some (.frz o u)
 tbls:∀ b ps,H b=some (.tbl ps)->∃ more,H' b=some (.tbl (ps++more))
section
variable {fs fs' ex ex':List Addr}{H H1 H2:Hp}{h h1 h2 h':Heap}{a x e:Addr}{o:HO}
theorem Un.any(u:Un fs ex H H1 h h1){b:Addr}{ob:Obj}(q:h.get? b=some ob)(n:H b=none)(hx:b∉ex):∃ sl,h1.get? b=some { ob with slots:=sl }:=by
 by_cases hb:b∈fs
 ·exact u.slot b ob q n hb hx
 ·exact ⟨ob.slots,u.keep b ob q n hb hx⟩
theorem Un.kept(k:∀ b u,h.get? b=some u->h'.get? b=some u):Un fs ex H H h h':=
 ⟨fun b ob q _ _ _=>k b ob q,fun b ob q _ _ _=>⟨ob.slots,k b ob q⟩,fun _ _ _ n _=>n,fun b ob q _=>⟨ob,k b ob q⟩,fun _ _ q=>q,fun _ _ _ q=>q,fun _ ps q=>⟨#[],by rw [q]; simp⟩⟩
theorem Un.refl:Un fs ex H H h h:=Un.kept fun _ _ q=>q
theorem Un.laid(k:∀ b u,h.get? b=some u->h'.get? b=some u)(hp:h.objs.size<=a)(hn:H a=none):Un fs ex H (upd H a o) h h' where
 keep:=fun b u q _ _ _=>k b u q
 slot:=fun b u q _ _ _=>⟨u.slots,k b u q⟩
 free:=fun b u q n _=>by rw [za5 (Nat.ne_of_lt (Nat.lt_of_lt_of_le (Heap.lt_size q) hp))]; exact n
 there:=fun b u q _=>⟨u,k b u q⟩
 tups:=fun b xs q=>by rw [za5 (za3 q hn)]; exact q
 frzs:=fun b u xs q=>by rw [za5 (za3 q hn)]; exact q
 tbls:=fun b ps q=>⟨#[],by rw [za5 (za3 q hn),q]; simp⟩
theorem Un.write(mu:Mut (H x))(he:e=x∨H e=some (.own x))(k:∀ b u,b≠e->h.get? b=some u->h'.get? b=some u)(heo:∃ u,h'.get? e=some u):Un fs ex H (upd H x o) h h':=by
 have hx:∀ b,H b=none->b≠x:=fun b n z=>by subst z; rw [n] at mu; exact mu
 have hb:∀ b,H b=none->b≠e:=fun b n z=>by
  subst z
  rcases he with r | r
  ·exact hx b n r
  ·rw [n] at r; cases r
 have hm:∀ b u,H b=some u->¬ Mut (some u)->b≠x:=fun b u q nm z=>by subst z; rw [q] at mu; exact nm mu
 refine ⟨fun b u q n _ _=>k b u (hb b n) q,fun b u q n _ _=>⟨u.slots,k b u (hb b n) q⟩,fun b u q n _=>by rw [za5 (hx b n)]; exact n,fun b u q _=>?_,
  fun b xs q=>by rw [za5 (hm b _ q fun z=>z)]; exact q,fun b u xs q=>by rw [za5 (hm b _ q fun z=>z)]; exact q,fun b ps q=>⟨#[],by rw [za5 (hm b _ q fun z=>z),q]; simp⟩⟩
 by_cases hbe:b=e
 ·subst hbe; exact heo
 ·exact ⟨u,k b u hbe q⟩
end
def trk(h:Heap)(H:Hp):List Addr:=(List.range h.objs.size).filter fun a=>(H a).isSome
def hidT(h:Heap)(H:Hp):Heap:=PySem.W.hideAll h (trk h H)
theorem zif(h:Heap)(H:Hp):(hidT h H).objs.size=h.objs.size:=PySem.W.hideAll_size _ _
theorem zjt{h:Heap}{H:Hp}{b:Addr}{o:Obj}(e:h.get? b=some o)(n:H b=none):(hidT h H).get? b=some o:=
 PySem.W.hideAll_get _ e fun hm=>by
  have q:(H b).isSome=true:=(List.mem_filter.mp hm).2
  rw [n] at q; simp at q
theorem zl7{h:Heap}{H:Hp}{b:Addr}{o:Obj}(e:(hidT h H).get? b=some o):h.get? b=some o/\H b=none:=by
 have e':h.get? b=some o:=PySem.W.of_hideAll (trk h H) e
 refine ⟨e',?_⟩
 cases q:H b with
 | none=>rfl
 | some x=>
  have hm:b∈trk h H:=List.mem_filter.mpr ⟨List.mem_range.mpr (Heap.lt_size e'),by simp [q]⟩
  have z:(hidT h H).get? b=none:=PySem.W.hideAll_none (trk h H) hm
  rw [z] at e; cases e
def zlC(g h:Heap)(L:Addr):List (Addr × Obj):=(List.range h.objs.size).filterMap fun a=>if a=L∨(g.get? a).isSome=true then none else (h.get? a).map fun o=>(a,o)
def rest(g h:Heap)(L d:Addr):List (Addr × Obj):=(zlC g h L).filter fun p=>decide (p.1≠d)
end L2
namespace L2
open PySem PySem.Spec PyProof.Rows
structure Mod (K:PySem.W.Frag) (mg:Str->Option Value) (base:Heap):Prop where
 kin:K.In base
 glob:base.Ns mainGlobals mg
 blt:∃ mb,base.Ns builtinsNs mb/\∀ x:Str,x≠"__name__"->mb x=bootBuiltins x
 nolimit:base.NoLimit
structure Cx where
 prog:Program
 w:World
 K:PySem.W.Frag
 mg:Str->Option Value
 base:Heap
 A:Around
 N:List Str
 s₀:Shared
 H₀:Hp
 env:Env
 outer:List Env
 stack:List Env
 ex:List Addr
 fn:Str->Bool
 calm:Bool
 pn:List (Addr × Obj)
 xe:Value->Shared->Prop
def frs(l:List Env):List Addr:=l.filterMap (·.frame)
abbrev Cx.fs(X:Cx):List Addr:=frs X.outer
def Vis(sc:Scope)(x:Str):Prop:=sc.names.lookup x=some .local∨sc.names.lookup x=some .cell∨sc.names.lookup x=some .free
def Loc(sc:Scope)(x:Str):Prop:=sc.names.lookup x=some .local∨sc.names.lookup x=some .cell
def Look(env:Env)(h:Heap)(m:Str->Option Value)(x:Str)(u:Value):Prop:=
 (env.kindOf x=some .local/\m x=some u)∨((env.kindOf x=some .cell∨env.kindOf x=some .free)/\∃ c,env.cells.lookup x=some c/\h.IsCell c (some u))
structure Cx.Ok (X:Cx):Prop where
 mod:Mod X.K X.mg X.base
 kind:X.env.scope.kind=.function
 glob:X.env.globals=mainGlobals
 blt:X.env.builtins=builtinsNs
 above:X.s₀.heap.objs.size<=X.env.locals
 inj:∀ x y c,X.env.cells.lookup x=some c->X.env.cells.lookup y=some c->x=y
 has:∀ x,(X.env.kindOf x=some .cell∨X.env.kindOf x=some .free)->∃ c,X.env.cells.lookup x=some c
 cab:∀ x c,X.fn x=true->X.env.cells.lookup x=some c->X.s₀.heap.objs.size<=c
 hd:X.calm=true->X.A.handled=none
 frames:X.A.frames=some X.stack
 stk:X.stack=X.outer∨(X.stack=X.env::X.outer/\X.env.frame=some X.env.locals)
 exf:∀ b∈X.ex,b≠X.env.locals/\∀ x c,X.env.cells.lookup x=some c->c≠b
 bs:∀ b o,X.base.get? b=some o->X.s₀.heap.get? b=some o/\X.H₀ b=none
 bsz:X.base.objs.size<=X.s₀.heap.objs.size
 noex:∀ b o,X.base.get? b=some o->b∉X.ex
 exfs:∀ b∈X.ex,b∉X.fs
 funs:X.s₀.heap.FunFrames X.base X.outer
 frf:∀ b∈X.fs,X.H₀ b=none
structure Inv (X:Cx) (pins:List (Addr × Obj)) (σ:List (Option V)) (H:Hp) (s:Shared):Prop where
 ok:X.Ok
 os:s.os=X.s₀.os
 bare:AllBare s.gens
 base:Un X.fs X.ex X.H₀ H X.s₀.heap s.heap
 loc:∃ m,s.heap.Ns X.env.locals m/\∀ (i:Nat) (x:Str) (v:V),X.N[i]?=some x->σ[i]?=some (some v)->Vis X.env.scope x->∃ u,RelV v u/\Look X.env s.heap m x u
 cell:∀ x c,X.env.cells.lookup x=some c->∃ v,s.heap.IsCell c v
 free:H X.env.locals=none
 freeC:∀ x c,X.env.cells.lookup x=some c->H c=none
 pin:∀ p∈X.pn++pins,s.heap.get? p.1=some p.2/\H p.1=none/\p.1≠X.env.locals/\p.1∉X.fs/\∀ v,p.2.data≠.cell v
 hok:HOk X.prog X.w H s.heap
 len:σ.length=X.N.length
section
variable {X:Cx}{pins:List (Addr × Obj)}{σ:List (Option V)}{H H':Hp}{s:Shared}{h':Heap}
theorem Cx.Ok.nofr(ok:X.Ok){b:Addr}{o:Obj}(e:X.base.get? b=some o):b∉X.fs:=fun hb=>by
 have:=(ok.funs.mem hb).1
 rw [e] at this; cases this
theorem Inv.bs(I:Inv X pins σ H s):∀ b o,X.base.get? b=some o->s.heap.get? b=some o/\H b=none:=fun b o e=>
 ⟨I.base.keep b o (I.ok.bs b o e).1 (I.ok.bs b o e).2 (I.ok.nofr e) (I.ok.noex b o e),I.base.free b o (I.ok.bs b o e).1 (I.ok.bs b o e).2 (I.ok.noex b o e)⟩
theorem Inv.bk(I:Inv X pins σ H s):∀ b o,X.base.get? b=some o->s.heap.get? b=some o:=fun b o e=>(I.bs b o e).1
theorem Inv.mod(I:Inv X pins σ H s):Mod X.K X.mg X.base:=I.ok.mod
theorem Inv.kIn(I:Inv X pins σ H s):X.K.In s.heap:=I.ok.mod.kin.keeps I.bk
theorem Inv.lt(I:Inv X pins σ H s):X.env.locals < s.heap.objs.size:=let ⟨_,hn,_⟩:=I.loc; hn.lt
theorem Inv.sz(I:Inv X pins σ H s):X.s₀.heap.objs.size<=s.heap.objs.size:=Nat.le_trans I.ok.above (Nat.le_of_lt I.lt)
theorem Inv.nofs(I:Inv X pins σ H s){a:Addr}(h:s.heap.objs.size<=a):a∉X.fs:=fun hb=>by
 obtain ⟨_,o,ho,_⟩:=I.ok.funs.mem hb
 exact absurd (Nat.lt_of_lt_of_le (Heap.lt_size ho) (Nat.le_trans I.sz h)) (Nat.lt_irrefl _)
theorem Inv.cne(I:Inv X pins σ H s):∀ x c,X.env.cells.lookup x=some c->c≠X.env.locals:=fun x c e z=>by
 obtain ⟨v,o,ho,hd⟩:=I.cell x c e
 obtain ⟨m,⟨o',es,ep,ho',hd',_⟩,_⟩:=I.loc
 rw [z,ho'] at ho; cases ho; rw [hd'] at hd; cases hd
theorem Inv.funs(I:Inv X pins σ H s):s.heap.FunFrames X.base X.outer:=by
 have all:∀ (l:List Env),(∀ b∈frs l,b∈X.fs)->X.s₀.heap.FunFrames X.base l->s.heap.FunFrames X.base l:=by
  intro l
  induction l with
  | nil=>intro _ _; trivial
  | cons env r ih=>
   intro hs hl
   obtain ⟨hk,⟨L,o,hf,hn,ho,hd⟩,hr⟩:=hl
   have hL:L∈X.fs:=hs L (by unfold frs; rw [List.filterMap_cons,hf]; exact List.mem_cons_self)
   obtain ⟨sl,e⟩:=I.base.slot L o ho (I.ok.frf L hL) hL fun z=>I.ok.exfs L z hL
   exact ⟨hk,⟨L,_,hf,hn,e,hd⟩,ih (fun b hb=>hs b (by unfold frs; rw [List.filterMap_cons,hf]; exact List.mem_cons_of_mem _ hb)) hr⟩
 exact all X.outer (fun _ hb=>hb) I.ok.funs
theorem Inv.stack(I:Inv X pins σ H s):s.heap.FunFrames X.base X.stack:=by
 rcases I.ok.stk with e | ⟨e,hf⟩
 ·rw [e]; exact I.funs
 ·rw [e]
  obtain ⟨m,hn,_⟩:=I.loc
  refine .cons (by rw [I.ok.kind]; decide) hf hn ?_ I.funs
  exact Heap.get?_none_of_le (Nat.le_trans I.ok.bsz I.ok.above)
theorem Inv.stkSub(I:Inv X pins σ H s):∀ b∈frs X.stack,b∈X.env.locals::X.fs:=fun b hb=>by
 rcases I.ok.stk with e | ⟨e,hf⟩
 ·rw [e] at hb; exact List.mem_cons_of_mem _ hb
 ·rw [e] at hb
  unfold frs at hb
  rw [List.filterMap_cons,hf] at hb
  exact hb
theorem Inv.stkFree(I:Inv X pins σ H s):∀ b∈frs X.stack,H b=none:=fun b hb=>by
 rcases List.mem_cons.mp (I.stkSub b hb) with e | hb
 ·rw [e]; exact I.free
 ·obtain ⟨_,o,ho,_⟩:=I.ok.funs.mem hb
  exact I.base.free b o ho (I.ok.frf b hb) fun z=>I.ok.exfs b z hb
theorem Inv.step{g':Array GenState}{t':Nat}{d':Drawn}{ch:List Addr}(I:Inv X pins σ H s)
  (hch:∀ b∈ch,(b∈X.ex∨X.s₀.heap.objs.size<=b)/\b≠X.env.locals/\(∀ x c,X.env.cells.lookup x=some c->c≠b)/\∀ p∈X.pn++pins,p.1≠b)
  (keep:∀ b o,b≠X.env.locals->b∉X.fs->b∉ch->s.heap.get? b=some o->H b=none->h'.get? b=some o)
  (slot:∀ b o,b≠X.env.locals->b∈X.fs->b∉ch->s.heap.get? b=some o->H b=none->∃ sl,h'.get? b=some { o with slots:=sl }) (free:∀ b o,b∉ch->s.heap.get? b=some o->H b=none->H' b=none)
  (there:∀ b o,b∉ch->s.heap.get? b=some o->∃ o',h'.get? b=some o')
  (tups:∀ b xs,H b=some (.tup xs)->H' b=some (.tup xs)) (frzs:∀ b o u,H b=some (.frz o u)->H' b=some (.frz o u)) (tbls:∀ b ps,H b=some (.tbl ps)->∃ more,H' b=some (.tbl (ps++more)))
  (ns:∀ m,s.heap.Ns X.env.locals m->h'.Ns X.env.locals m) (hok:HOk X.prog X.w H' h') (hg:AllBare g') :
  Inv X pins σ H' { s with heap:=h',gens:=g',drawn:=d',toks:=t' }:=by
 have neL:∀ b o,X.s₀.heap.get? b=some o->b≠X.env.locals:=fun b o e=>Nat.ne_of_lt (Nat.lt_of_lt_of_le (Heap.lt_size e) I.ok.above)
 have neC:∀ b o,X.s₀.heap.get? b=some o->b∉X.ex->b∉ch:=fun b o e hx hb=>by
  rcases (hch b hb).1 with z | z
  ·exact hx z
  ·exact absurd (Nat.lt_of_lt_of_le (Heap.lt_size e) z) (Nat.lt_irrefl _)
 have cellK:∀ x c,X.env.cells.lookup x=some c->∀ v,s.heap.IsCell c v->h'.IsCell c v:=fun x c e v ⟨o,ho,hd⟩=>by
  have nch:c∉ch:=fun z=>(hch c z).2.2.1 x c e rfl
  by_cases hc:c∈X.fs
  ·obtain ⟨sl,q⟩:=slot c o (I.cne x c e) hc nch ho (I.freeC x c e)
   exact ⟨_,q,hd⟩
  ·exact ⟨o,keep c o (I.cne x c e) hc nch ho (I.freeC x c e),hd⟩
 refine ⟨I.ok,I.os,hg,⟨fun b o e n hb hx=>?_,fun b o e n hb hx=>?_,fun b o e n hx=>?_,fun b o e hx=>?_,fun b xs e=>tups b xs (I.base.tups b xs e),fun b o xs e=>frzs b o xs (I.base.frzs b o xs e),fun b ps e=>?_⟩,?_,fun x c e=>?_,?_,fun x c e=>?_,fun p hp=>?_,hok,I.len⟩
 ·exact keep b o (neL b o e) hb (neC b o e hx) (I.base.keep b o e n hb hx) (I.base.free b o e n hx)
 ·obtain ⟨sl,e1⟩:=I.base.slot b o e n hb hx
  obtain ⟨sl',e2⟩:=slot b _ (neL b o e) hb (neC b o e hx) e1 (I.base.free b o e n hx)
  exact ⟨sl',e2⟩
 ·obtain ⟨o',e1⟩:=I.base.there b o e hx
  exact free b o' (neC b o e hx) e1 (I.base.free b o e n hx)
 ·obtain ⟨o',e1⟩:=I.base.there b o e hx
  exact there b o' (neC b o e hx) e1
 ·obtain ⟨m1,e1⟩:=I.base.tbls b ps e
  obtain ⟨m2,e2⟩:=tbls b _ e1
  exact ⟨m1++m2,by rw [e2,Array.append_assoc]⟩
 ·obtain ⟨m,hn,hl⟩:=I.loc
  refine ⟨m,ns m hn,fun i x v e1 e2 e3=>?_⟩
  obtain ⟨u,r,l⟩:=hl i x v e1 e2 e3
  refine ⟨u,r,?_⟩
  rcases l with l | ⟨k,c,e,z⟩
  ·exact .inl l
  ·exact .inr ⟨k,c,e,cellK x c e _ z⟩
 ·obtain ⟨v,z⟩:=I.cell x c e
  exact ⟨v,cellK x c e v z⟩
 ·obtain ⟨m,⟨o,_,_,ho,_⟩,_⟩:=I.loc
  exact free _ o (fun z=>(hch _ z).2.1 rfl) ho I.free
 ·obtain ⟨v,o,ho,hd⟩:=I.cell x c e
  exact free c o (fun z=>(hch c z).2.2.1 x c e rfl) ho (I.freeC x c e)
 ·obtain ⟨e,n,ne,nf,d⟩:=I.pin p hp
  have nch:p.1∉ch:=fun z=>(hch p.1 z).2.2.2 p hp rfl
  exact ⟨keep p.1 p.2 ne nf nch e n,free p.1 p.2 nch e n,ne,nf,d⟩
theorem Inv.un{t':Nat}(I:Inv X pins σ H s)(u:Un X.fs [] H H' s.heap h')(hok:HOk X.prog X.w H' h'):Inv X pins σ H' { s with heap:=h',toks:=t' }:=by
 obtain ⟨m,⟨o,es,ep,ho,r⟩,_⟩:=id I.loc
 obtain ⟨sl,hL⟩:=u.any ho I.free (by simp)
 exact I.step (g':=s.gens) (d':=s.drawn) (ch:=[]) (fun _ z=>nomatch z) (fun b o _ hb _ e n=>u.keep b o e n hb (by simp)) (fun b o _ hb _ e n=>u.slot b o e n hb (by simp)) (fun b o _ e n=>u.free b o e n (by simp)) (fun b o _ e=>u.there b o e (by simp)) u.tups u.frzs u.tbls (fun m' hm=>by
  obtain ⟨o',es',ep',ho',r'⟩:=hm
  rw [ho] at ho'; cases ho'
  exact ⟨_,es',ep',hL,r'⟩) hok I.bare
theorem Inv.call{g':Array GenState}{t':Nat}{d':Drawn}{ch:List Addr}(I:Inv X pins σ H s)(u:Un (frs X.stack) ch H H' s.heap h')(hok:HOk X.prog X.w H' h')(hg:AllBare g')
  (hch:∀ b∈ch,(b∈X.ex∨X.s₀.heap.objs.size<=b)/\b≠X.env.locals/\(∀ x c,X.env.cells.lookup x=some c->c≠b)/\∀ p∈X.pn++pins,p.1≠b) :
  Inv X pins σ H' { s with heap:=h',gens:=g',drawn:=d',toks:=t' }:=by
 obtain ⟨m,⟨o,es,ep,ho,r⟩,_⟩:=id I.loc
 obtain ⟨sl,hL⟩:=u.any ho I.free fun z=>(hch _ z).2.1 rfl
 exact I.step (ch:=ch) hch (fun b o hL hb hc e n=>u.keep b o e n (fun z=>(List.mem_cons.mp (I.stkSub b z)).elim hL hb) hc) (fun b o _ _ hc e n=>u.any e n hc) (fun b o hc e n=>u.free b o e n hc) (fun b o hc e=>u.there b o e hc) u.tups u.frzs u.tbls (fun m' hm=>by
  obtain ⟨o',es',ep',ho',r'⟩:=hm
  rw [ho] at ho'; cases ho'
  exact ⟨_,es',ep',hL,r'⟩) hok hg
theorem Inv.turned{t':Nat}{it:Addr}(I:Inv X pins σ H s)(k:∀ b o,b≠it->s.heap.get? b=some o->h'.get? b=some o)(hn:H it=none)(hL:it≠X.env.locals)
  (h1:it∈X.ex∨X.s₀.heap.objs.size<=it) (h2:∀ x c,X.env.cells.lookup x=some c->c≠it) (h3:∀ p∈X.pn++pins,p.1≠it):Inv X pins σ H { s with heap:=h',toks:=t' }:=by
 have nit:∀ b u,H b=some u->b≠it:=fun b u e z=>by rw [z,hn] at e; cases e
 refine I.step (g':=s.gens) (d':=s.drawn) (ch:=[it]) (fun b hb=>?_) (fun b o _ _ hc e _=>k b o (fun z=>hc (by simp [z])) e) (fun b o _ _ hc e _=>⟨o.slots,k b o (fun z=>hc (by simp [z])) e⟩) (fun _ _ _ _ n=>n)
  (fun b o hc e=>⟨o,k b o (fun z=>hc (by simp [z])) e⟩) (fun _ _ e=>e) (fun _ _ _ e=>e) (fun b ps e=>⟨#[],by rw [e]; simp⟩) (fun m hm=>?_) (fun b u e=>?_) I.bare
 ·have e:b=it:=by simpa using hb
  subst e
  exact ⟨h1,hL,h2,h3⟩
 ·obtain ⟨o,es,ep,ho,r⟩:=hm
  exact ⟨o,es,ep,k _ o (Ne.symm hL) ho,r⟩
 ·refine (I.hok b u e).stay (fun c v hc q=>k c v ?_ q) (fun _ q=>q) fun _ _ q=>q
  rcases hc with z | z
  ·rw [z]; exact nit b u e
  ·exact nit c _ z
theorem Inv.tok(I:Inv X pins σ H s)(t:Nat):Inv X pins σ H { s with toks:=t }:=I.un (h':=s.heap) (t':=t) Un.refl I.hok
theorem Inv.kept{t':Nat}(I:Inv X pins σ H s)(k:∀ b u,s.heap.get? b=some u->h'.get? b=some u):Inv X pins σ H { s with heap:=h',toks:=t' }:=I.un (Un.kept k) (I.hok.kept k)
theorem Inv.laid{a:Addr}{o:HO}{t':Nat}(I:Inv X pins σ H s)(k:∀ b u,s.heap.get? b=some u->h'.get? b=some u)(hp:s.heap.objs.size<=a)(new:ObjOk X.prog X.w (upd H a o) h' a o) :
  Inv X pins σ (upd H a o) { s with heap:=h',toks:=t' }:=I.un (Un.laid k hp (I.hok.fresh hp)) (I.hok.laid k hp new)
theorem Inv.write{x e:Addr}{o:HO}{t':Nat}(I:Inv X pins σ H s)(mu:Mut (H x))(he:e=x∨H e=some (.own x))(k:∀ b u,b≠e->s.heap.get? b=some u->h'.get? b=some u)(heo:∃ u,h'.get? e=some u)
  (new:ObjOk X.prog X.w (upd H x o) h' x o):Inv X pins σ (upd H x o) { s with heap:=h',toks:=t' }:=I.un (Un.write mu he k heo) (I.hok.write mu he k heo new)
theorem Inv.pins_of{pins':List (Addr × Obj)}(I:Inv X pins σ H s)(h:∀ p∈pins',s.heap.get? p.1=some p.2/\H p.1=none/\p.1≠X.env.locals/\p.1∉X.fs/\∀ v,p.2.data≠.cell v):Inv X pins' σ H s:=
 ⟨I.ok,I.os,I.bare,I.base,I.loc,I.cell,I.free,I.freeC,fun p hp=>(List.mem_append.mp hp).elim (fun z=>I.pin p (List.mem_append_left _ z)) (h p),I.hok,I.len⟩
theorem zgn{N:List Str}(hN:N.Nodup){i j:Nat}{x:Str}(a:N[i]?=some x)(b:N[j]?=some x):i=j:=by
 obtain ⟨h1,e1⟩:=List.getElem?_eq_some_iff.mp a
 obtain ⟨h2,e2⟩:=List.getElem?_eq_some_iff.mp b
 exact (List.getElem_inj hN).mp (e1.trans e2.symm)
theorem zdo{M:Model}{A:Around}{E:Value->Shared->Prop}{i:Nat}{x:Str}{v:V}{u:Value}{Q:Unit->Shared->Prop}(I:Inv X pins σ H s)(hN:X.N.Nodup)(hi:X.N[i]?=some x)(hx:Loc X.env.scope x)(r:RelV v u)
  (h:∀ s',Inv X pins (σ.set i (some v)) H s'->(∃ a,Heap.SameBut a s.heap s'.heap/\(a=X.env.locals∨X.env.cells.lookup x=some a))->Q () s') (hf:X.fn x=true∨X.env.scope.names.lookup x=some .local:=by first | exact .inl rfl | exact .inr rfl | assumption):wpAny M A (storeName X.env x u) Q E s:=by
 obtain ⟨m,hn,hl⟩:=id I.loc
 have hcls:(X.env.scope.kind == .class||(X.env.scope.kind == .module&&X.env.locals != X.env.globals))=false:=by rw [I.ok.kind]; rfl
 have hiσ:i < σ.length:=by rw [I.len]; exact (List.getElem?_eq_some_iff.mp hi).1
 have cne:=I.cne
 have tracked:∀ {a:Addr} {h':Heap},(∃ o,s.heap.get? a=some o/\H a=none)->Heap.SameBut a s.heap h'->HOk X.prog X.w H h':=fun {a h'} ha hs b ob e=>by
  obtain ⟨_,_,hfree⟩:=ha
  refine (I.hok b ob e).stay (fun c w' hc q=>(hs.2 c ?_).trans q) (fun _ q=>q) fun _ _ q=>q
  rintro rfl
  rcases hc with rfl | hc
  ·rw [hfree] at e; cases e
  ·rw [hfree] at hc; cases hc
 rcases hx with hk | hk
 ·refine wpAny_storeName_local hk hn (fun h' hn' hs=>?_) hcls
  obtain ⟨oL,_,_,hoL,_⟩:=id hn
  refine h _ ⟨I.ok,I.os,I.bare,⟨fun b o e n hb hx=>?_,fun b o e n hb hx=>?_,I.base.free,fun b o e hx=>?_,I.base.tups,I.base.frzs,I.base.tbls⟩,⟨_,hn',fun j y v' e1 e2 e3=>?_⟩,fun y c e=>?_,I.free,I.freeC,fun p hp=>?_,tracked ⟨oL,hoL,I.free⟩ hs,by simpa using I.len⟩ ⟨_,hs,.inl rfl⟩
  ·exact (hs.2 b (Nat.ne_of_lt (Nat.lt_of_lt_of_le (Heap.lt_size e) I.ok.above))).trans (I.base.keep b o e n hb hx)
  ·obtain ⟨sl,e1⟩:=I.base.slot b o e n hb hx
   exact ⟨sl,(hs.2 b (Nat.ne_of_lt (Nat.lt_of_lt_of_le (Heap.lt_size e) I.ok.above))).trans e1⟩
  ·obtain ⟨o',e1⟩:=I.base.there b o e hx
   exact ⟨o',(hs.2 b (Nat.ne_of_lt (Nat.lt_of_lt_of_le (Heap.lt_size e) I.ok.above))).trans e1⟩
  ·by_cases hj:j=i
   ·subst hj
    rw [hi] at e1; cases e1
    rw [List.getElem?_set_self hiσ] at e2
    cases e2
    exact ⟨u,r,.inl ⟨hk,by simp⟩⟩
   ·rw [List.getElem?_set_ne (Ne.symm hj)] at e2
    obtain ⟨u',r',q⟩:=hl j y v' e1 e2 e3
    refine ⟨u',r',?_⟩
    rcases q with ⟨k,e⟩ | ⟨k,c,e,z⟩
    ·refine .inl ⟨k,?_⟩
     have:y≠x:=fun e=>hj (zgn hN e1 (e▸hi))
     simp [this,e]
    ·exact .inr ⟨k,c,e,z.sameBut hs (cne y c e)⟩
  ·obtain ⟨w',z⟩:=I.cell y c e
   exact ⟨w',z.sameBut hs (cne y c e)⟩
  ·obtain ⟨e,n,ne,nf,d⟩:=I.pin p hp
   exact ⟨(hs.2 p.1 ne).trans e,n,ne,nf,d⟩
 ·have hfn:X.fn x=true:=by
   rcases hf with z | z
   ·exact z
   ·rw [z] at hk; cases hk
  obtain ⟨c,hc⟩:=I.ok.has x (.inl hk)
  obtain ⟨w',z⟩:=I.cell x c hc
  refine wpAny_storeName_cell I.ok.kind hk hc z (fun h' hc' hs=>?_)
  obtain ⟨oc,hoc,hocd⟩:=id z
  refine h { s with heap:=h' } ⟨I.ok,I.os,I.bare,⟨fun b o e n hb hx=>?_,fun b o e n hb hx=>?_,I.base.free,fun b o e hx=>?_,I.base.tups,I.base.frzs,I.base.tbls⟩,⟨m,hn.sameBut hs (Ne.symm (cne x c hc)),fun j y v' e1 e2 e3=>?_⟩,fun y c' e=>?_,I.free,I.freeC,fun p hp=>?_,tracked ⟨oc,hoc,I.freeC x c hc⟩ hs,by simpa using I.len⟩ ⟨c,hs,.inr hc⟩
  ·exact (hs.2 b (Nat.ne_of_lt (Nat.lt_of_lt_of_le (Heap.lt_size e) (I.ok.cab x c hfn hc)))).trans (I.base.keep b o e n hb hx)
  ·obtain ⟨sl,e1⟩:=I.base.slot b o e n hb hx
   exact ⟨sl,(hs.2 b (Nat.ne_of_lt (Nat.lt_of_lt_of_le (Heap.lt_size e) (I.ok.cab x c hfn hc)))).trans e1⟩
  ·obtain ⟨o',e1⟩:=I.base.there b o e hx
   exact ⟨o',(hs.2 b (Nat.ne_of_lt (Nat.lt_of_lt_of_le (Heap.lt_size e) (I.ok.cab x c hfn hc)))).trans e1⟩
  ·by_cases hj:j=i
   ·subst hj
    rw [hi] at e1; cases e1
    rw [List.getElem?_set_self hiσ] at e2
    cases e2
    exact ⟨u,r,.inr ⟨.inl hk,c,hc,hc'⟩⟩
   ·rw [List.getElem?_set_ne (Ne.symm hj)] at e2
    obtain ⟨u',r',q⟩:=hl j y v' e1 e2 e3
    refine ⟨u',r',?_⟩
    rcases q with q | ⟨k,c',e,z'⟩
    ·exact .inl q
    ·refine .inr ⟨k,c',e,z'.sameBut hs ?_⟩
     rintro rfl
     exact hj (zgn hN e1 (I.ok.inj _ _ _ e hc▸hi))
  ·by_cases hcc:c'=c
   ·subst hcc; exact ⟨_,hc'⟩
   ·obtain ⟨w2,z2⟩:=I.cell y c' e
    exact ⟨w2,z2.sameBut hs hcc⟩
  ·obtain ⟨e,n,ne,nf,d⟩:=I.pin p hp
   refine ⟨(hs.2 p.1 ?_).trans e,n,ne,nf,d⟩
   intro q
   rw [q,hoc] at e
   have q':oc=p.2:=Option.some.inj e
   exact d w' (by rw [<-q']; exact hocd)
theorem zga{M:Model}{A:Around}{E:Value->Shared->Prop}{i:Nat}{x:Str}{v:V}{u:Value}{Q:Unit->Shared->Prop}(I:Inv X pins σ H s)(hN:X.N.Nodup)(hi:X.N[i]?=some x)(hx:Loc X.env.scope x)(r:RelV v u)
  (h:∀ s',Inv X pins (σ.set i (some v)) H s'->Q () s') (hf:X.fn x=true∨X.env.scope.names.lookup x=some .local:=by first | exact .inl rfl | exact .inr rfl | assumption):wpAny M A (storeName X.env x u) Q E s:=
 zdo I hN hi hx r (fun s' I' _=>h s' I') hf
theorem Inv.call'{s':Shared}{ch:List Addr}(I:Inv X pins σ H s)(ho:s'.os=s.os)(u:Un (frs X.stack) ch H H' s.heap s'.heap)(hok:HOk X.prog X.w H' s'.heap)(hg:AllBare s'.gens)
  (hch:∀ b∈ch,(b∈X.ex∨X.s₀.heap.objs.size<=b)/\b≠X.env.locals/\(∀ x c,X.env.cells.lookup x=some c->c≠b)/\∀ p∈X.pn++pins,p.1≠b):Inv X pins σ H' s':=by
 obtain ⟨h',g',d',t',o'⟩:=s'
 have e:o'=s.os:=ho
 subst e
 exact I.call (g':=g') (t':=t') (d':=d') u hok hg hch
end
abbrev XK:=Value->Option Addr->Hp->Prop
abbrev St:=List (Option V)
abbrev VK:=V->Hp->Prop
abbrev TE:=St->Hp->VK->Prop
abbrev TT:=St->Hp->(Bool->Hp->Prop)->Prop
abbrev TA:=St->Hp->(List V->Hp->Prop)->Prop
structure Ends where
 nx:St->Hp->Prop
 rt:VK
 bk:St->Hp->Prop:=fun _ _=>False
 ct:St->Hp->Prop:=fun _ _=>False
abbrev TS:=Ends->St->Hp->Prop
def EP(X:Cx)(pins:List (Addr × Obj))(σ:St)(Q:VK)(u:Value)(s':Shared):Prop:=∃ v H',Inv X pins σ H' s'/\RelV v u/\Q v H'
def TP(X:Cx)(pins:List (Addr × Obj))(σ:St)(Q:Bool->Hp->Prop)(b:Bool)(s':Shared):Prop:=∃ H',Inv X pins σ H' s'/\Q b H'
def AP(X:Cx)(pins:List (Addr × Obj))(σ:St)(Q:List V->Hp->Prop)(us:List Value)(s':Shared):Prop:=∃ vs H',Inv X pins σ H' s'/\Vals vs us/\Q vs H'
def SP(X:Cx)(pins:List (Addr × Obj))(D:Ends)(f:Flow)(s':Shared):Prop:=
 match f with
 | .next=>∃ σ' H',Inv X pins σ' H' s'/\D.nx σ' H'
 | .brk=>∃ σ' H',Inv X pins σ' H' s'/\D.bk σ' H'
 | .cont=>∃ σ' H',Inv X pins σ' H' s'/\D.ct σ' H'
 | .ret u=>∃ v σ' H',Inv X pins σ' H' s'/\RelV v u/\D.rt v H'
def PE(X:Cx)(e:Expr)(t:TE):Prop:=
 ∀ (pins:List (Addr × Obj)) (s:Shared) (σ:St) (H:Hp) (Q:VK),Inv X pins σ H s->t σ H Q->wpAny (model X.prog X.w) X.A (eval e X.env) (EP X pins σ Q) X.xe s
def PT(X:Cx)(e:Expr)(t:TT):Prop:=
 ∀ (pins:List (Addr × Obj)) (s:Shared) (σ:St) (H:Hp) (Q:Bool->Hp->Prop),Inv X pins σ H s->t σ H Q->wpAny (model X.prog X.w) X.A (isTrue e X.env (eval e X.env)) (TP X pins σ Q) X.xe s
def PW(X:Cx)(e:Expr)(t:TT):Prop:=
 ∀ (whole:Sem Value) (pins:List (Addr × Obj)) (s:Shared) (σ:St) (H:Hp) (Q:Bool->Hp->Prop),Inv X pins σ H s->t σ H Q->wpAny (model X.prog X.w) X.A (isTrue e X.env whole) (TP X pins σ Q) X.xe s
theorem PW.pt{X:Cx}{e:Expr}{t:TT}(h:PW X e t):PT X e t:=h _
def PA(X:Cx)(es:List Expr)(t:TA):Prop:=
 ∀ (pos:Pos) (pins:List (Addr × Obj)) (s:Shared) (σ:St) (H:Hp) (Q:List V->Hp->Prop),Inv X pins σ H s->t σ H Q->wpAny (model X.prog X.w) X.A (spliced (backTo pos (starEach es X.env))) (AP X pins σ Q) X.xe s
def PS(X:Cx)(st:Stmt)(t:TS):Prop:=
 ∀ (pins:List (Addr × Obj)) (s:Shared) (σ:St) (H:Hp) (D:Ends),Inv X pins σ H s->t D σ H->wpAny (model X.prog X.w) X.A (exec st X.env) (SP X pins D) X.xe s
def PSs(X:Cx)(st:List Stmt)(t:TS):Prop:=
 ∀ (pins:List (Addr × Obj)) (s:Shared) (σ:St) (H:Hp) (D:Ends),Inv X pins σ H s->t D σ H->wpAny (model X.prog X.w) X.A (execs st X.env) (SP X pins D) X.xe s
theorem thn{α:Type}{t:Sem α}{Q Q':α->Shared->Prop}{M:Model}{A:Around}{E:Value->Shared->Prop}{s:Shared}(h:wpAny M A t Q E s)(hQ:∀ a s,Q a s->Q' a s):wpAny M A t Q' E s:=wpAny_mono h hQ fun _ _ x=>x
end L2
namespace L2
open PySem PySem.Spec PyProof.Rows
section
variable {X:Cx}
theorem bin{a b:Expr}{ta tb:TE}(ha:PE X a ta)(hb:PE X b tb){pins:List (Addr × Obj)}{s:Shared}{σ:St}{H:Hp}{R:V->V->Hp->Prop}(I:Inv X pins σ H s)(h:ta σ H fun x H1=>tb σ H1 fun y H2=>R x y H2)
  {α:Type} {Q:α->Shared->Prop} {f:Value->Value->Sem α}
  (hf:∀ v u s2 x y H2,Inv X pins σ H2 s2->RelV x v->RelV y u->R x y H2->wpAny (model X.prog X.w) X.A (f v u) Q X.xe s2) :
  wpAny (model X.prog X.w) X.A (eval a X.env) (fun v s₁=>wpAny (model X.prog X.w) X.A (eval b X.env) (fun u s₂=>wpAny (model X.prog X.w) X.A (f v u) Q X.xe s₂) X.xe s₁) X.xe s:=by
 refine thn (ha pins s σ H _ I h) fun v s1 h_=>?_; obtain ⟨x,H1,I1,r1,q1⟩:=h_
 refine thn (hb pins s1 σ H1 _ I1 q1) fun u s2 h_=>?_; obtain ⟨y,H2,I2,r2,q2⟩:=h_
 exact hf v u s2 x y H2 I2 r1 r2 q2
def tVar(i:Nat):TE:=fun σ H Q=>∃ v,σ[i]?=some (some v)/\Q v H
def tC(v:V):TE:=fun _ H Q=>Q v H
theorem zmD{i:Nat}{x:Str}{pos:Pos}(hN:X.N[i]?=some x)(hv:Vis X.env.scope x)(hd:(x == ("__debug__":Str))=false:=by decide)(hcd:(x == ("__classdict__":Str))=false:=by decide):PE X (.Name x pos) (tVar i):=by
 intro pins s σ H Q I h
 obtain ⟨v,e,h⟩:=h
 obtain ⟨m,hn,hl⟩:=I.loc
 obtain ⟨u,r,l⟩:=hl i x v hN e hv
 have fin:EP X pins σ Q u s:=⟨v,H,I,r,h⟩
 rcases l with ⟨hk,hm⟩ | ⟨hk,c,hc,hcell⟩
 ·exact wpAny_Name (wpAny_loadName_local I.ok.kind hk hn hm fin) hd
 ·rcases hk with hk | hk
  ·exact wpAny_Name (wpAny_loadName_cell I.ok.kind hk hc hcell fin) hd
  ·exact wpAny_Name (wpAny_loadName_free I.ok.kind hk hc hcell fin hcd) hd
theorem zk0{i j pos}:PE X (.Constant (.int i) j pos) (tC (.int i)):=fun _ _ _ H _ I h=>wpAny_Constant_int ⟨.int i,H,I.tok _,⟨_,rfl⟩,h⟩
theorem pe_bl{b j pos}:PE X (.Constant (.bool b) j pos) (tC (.bl b)):=fun _ _ _ H _ I h=>Constant_bool ⟨.bl b,H,I,rfl,h⟩
theorem zmH{j pos}:PE X (.Constant .none j pos) (tC .non):=fun _ _ _ H _ I h=>Constant_none ⟨.non,H,I,rfl,h⟩
theorem zmE{x j pos}:PE X (.Constant (.str x) j pos) (tC (.str x)):=fun _ _ _ H _ I h=>Calls.Constant_str ⟨.str x,H,I.tok _,⟨_,rfl⟩,h⟩
def Gl(X:Cx)(x:Str):Prop:=X.env.kindOf x=some .globalImplicit
theorem zlc{E:Value->Shared->Prop}{pins:List (Addr × Obj)}{s:Shared}{σ:St}{H:Hp}{x:Str}{u:Value}{pos:Pos}{Q:Value->Shared->Prop}(I:Inv X pins σ H s)(hg:Gl X x)(hm:X.mg x=some u)(h:Q u s)
  (hd:(x == ("__debug__":Str))=false:=by decide):wpAny (model X.prog X.w) X.A (eval (.Name x pos) X.env) Q E s:=
 Calls.Name_function_global I.ok.kind hg (Calls.loadGlobal_global (by rw [I.ok.glob]; exact I.mod.glob.keeps I.bk) hm h) hd
theorem zbP{E:Value->Shared->Prop}{pins:List (Addr × Obj)}{s:Shared}{σ:St}{H:Hp}{x:Str}{u:Value}{pos:Pos}{Q:Value->Shared->Prop}(I:Inv X pins σ H s)(hg:Gl X x)(hm:X.mg x=none)(hv:bootBuiltins x=some u)(h:Q u s)
  (hn:x≠"__name__":=by decide) (hd:(x == ("__debug__":Str))=false:=by decide):wpAny (model X.prog X.w) X.A (eval (.Name x pos) X.env) Q E s:=by
 obtain ⟨mb,h1,h2⟩:=I.mod.blt
 exact Calls.Name_function_global I.ok.kind hg (Calls.loadGlobal_builtin (by rw [I.ok.glob]; exact I.mod.glob.keeps I.bk) hm (by rw [I.ok.blt]; exact h1.keeps I.bk) ((h2 x hn).trans hv) h) hd
theorem zl5{x:Str}{v:V}{u:Value}{pos:Pos}(hg:Gl X x)(hm:X.mg x=none)(hv:bootBuiltins x=some u)(r:RelV v u)(hn:x≠"__name__":=by decide)(hd:(x == ("__debug__":Str))=false:=by decide):PE X (.Name x pos) (tC v):=
 fun _ _ _ H _ I h=>zbP I hg hm hv ⟨v,H,I,r,h⟩ hn hd
variable {a b:Expr}{ta tb:TE}{pos:Pos}
def PC(X:Cx)(op:CmpOp)(a b:Expr)(t:TE):Prop:=
 ∀ (pins:List (Addr × Obj)) (s:Shared) (σ:St) (H:Hp) (Q:VK),Inv X pins σ H s->t σ H Q->
  wpAny (model X.prog X.w) X.A (eval a X.env) (fun v s₁=>wpAny (model X.prog X.w) X.A (eval b X.env) (fun u s₂=>wpAny (model X.prog X.w) X.A (compareOp op v u) (EP X pins σ Q) X.xe s₂) X.xe s₁) X.xe s
theorem zjg(b:Expr){op:CmpOp}(h:op≠.In)(h2:op≠.NotIn):behindInMarks op b=false:=by
 have e1:(op == CmpOp.In)=false:=by cases op<;>first | rfl | exact absurd rfl h
 have e2:(op == CmpOp.NotIn)=false:=by cases op<;>first | rfl | exact absurd rfl h2
 cases b<;>simp [behindInMarks,e1,e2]
def tB(t:TE):TT:=fun σ H Q=>t σ H fun x H1=>∃ c,x=.bl c/\Q c H1
theorem zmx{op:CmpOp}{t:TE}(h:PC X op a b t)(h1:behindInMarks op b=false:=by first | exact zjg _ (by decide) (by decide) | rfl):PT X (.Compare a [op] [b] pos) (tB t):=by
 intro pins s σ H Q I hw
 refine wpAny_isTrue_Compare1 (thn (h pins s σ H _ I hw) fun v s1 h1=>thn h1 fun u s2 h2=>thn h2 fun c s3 ⟨x,H1,I1,r1,q1⟩=>?_) h1
 obtain ⟨d,rfl,q⟩:=q1
 cases r1
 exact wpAny_truthy_bool ⟨H1,I1,q⟩
variable {tA tB':TT}{rest:List Expr}
def tOr(t u:TT):TT:=fun σ H Q=>t σ H fun c H1=>if c=true then Q true H1 else u σ H1 Q
def tNot(t:TT):TT:=fun σ H Q=>t σ H fun c H1=>Q (!c) H1
theorem zmv(ha:PT X a tA):PW X (.BoolOp .Or [a] pos) tA:=by
 intro wh pins s σ H Q I h
 refine isTrue_or (thn (ha pins s σ H Q I h) fun c s1 e=>?_)
 cases c with
 | false=>exact isTrue_or_nil e
 | true=>exact e
theorem pw_or(ha:PT X a tA)(hb:PW X (.BoolOp .Or (b::rest) pos) tB'):PW X (.BoolOp .Or (a::b::rest) pos) (tOr tA tB'):=by
 intro wh pins s σ H Q I h
 refine isTrue_or (thn (ha pins s σ H _ I h) fun c s1 h_=>?_); obtain ⟨H1,I1,q1⟩:=h_
 cases c with
 | true=>exact ⟨H1,I1,q1⟩
 | false=>exact hb wh pins s1 σ H1 Q I1 q1
theorem zmw(ha:PT X a tA):PT X (.UnaryOp .Not a pos) (tNot tA):=by
 intro pins s σ H Q I h
 exact isTrue_not (ha pins s σ H (fun c H1=>Q (!c) H1) I h)
def tAndV(ta tb:TE):TE:=fun σ H Q=>ta σ H fun x H1=>∃ c,x=.bl c/\if c=true then tb σ H1 Q else Q (.bl false) H1
theorem zmG{op}{t:TE}(h:PE X a t):PE X (.BoolOp op [a] pos) t:=fun pins s σ H Q I hw=>BoolOp_one (h pins s σ H Q I hw)
theorem zmK(ha:PE X a ta)(hb:PE X (.BoolOp .And (b::rest) pos) tb):PE X (.BoolOp .And (a::b::rest) pos) (tAndV ta tb):=by
 intro pins s σ H Q I h
 refine BoolOp_and (thn (ha pins s σ H _ I h) fun v s1 h_=>?_); obtain ⟨x,H1,I1,r1,q1⟩:=h_
 obtain ⟨c,rfl,q1⟩:=q1
 cases r1
 refine wpAny_truthy_bool ?_
 cases c with
 | true=>exact hb pins s1 σ H1 Q I1 q1
 | false=>exact ⟨.bl false,H1,I1,rfl,q1⟩
end
end L2
namespace L2
open PySem PySem.Spec PyProof.Rows
def SqL(K:PySem.W.Frag)(H:Hp)(a:Addr)(xs:List V):Prop:=
 Rd H a (.lst xs) ∨
  ∃ (o:Obj) (its:Array Value) (n:Nat),K.lookup a=some o/\o.cls=.type "list"/\o.dict=none/\o.data=.seq its n/\its.size<=sizeLine/\Vals xs its.toList
def SqT(K:PySem.W.Frag)(H:Hp)(a:Addr)(xs:List V):Prop:=
 Rd H a (.tup xs) ∨
  ∃ (o:Obj) (its:Array Value) (n:Nat),K.lookup a=some o/\o.cls=.type "tuple"/\o.data=.seq its n/\its.size<=sizeLine/\Vals xs its.toList
def absV:Value->Option V
 | .none=>some .non
 | .bool b=>some (.bl b)
 | .int i _=>some (.int i)
 | .str x _=>some (.str x)
 | .bytes b _=>some (.byt b)
 | .float b _=>some (.flt b)
 | .ref a=>some (.ref a)
 | .type n=>some (.ty n)
 | _=>none
theorem RelV.abs{x:V}{u:Value}(r:RelV x u):absV u=some x:=by
 cases x with
 | non=>cases r; rfl
 | bl _=>cases r; rfl
 | int _=>obtain ⟨t,rfl⟩:=r; rfl
 | str _=>obtain ⟨t,rfl⟩:=r; rfl
 | byt _=>obtain ⟨t,rfl⟩:=r; rfl
 | flt _=>obtain ⟨t,rfl⟩:=r; rfl
 | ref _=>cases r; rfl
 | ty _=>cases r; rfl
theorem RelV.inj{x y:V}{u:Value}(r:RelV x u)(q:RelV y u):x=y:=Option.some.inj (r.abs.symm.trans q.abs)
theorem Vals.inj:∀ {xs ys:List V} {us:List Value},Vals xs us->Vals ys us->xs=ys
 | _,_,_,.nil,.nil=>rfl
 | _,_,_,.cons r t,.cons r' t'=>by rw [r.inj r',Vals.inj t t']
section
variable {X:Cx}{pins:List (Addr × Obj)}{σ:St}{H:Hp}{s:Shared}{a:Addr}{xs ys:List V}
theorem SqL.of{K:PySem.W.Frag}(h:H a=some (.lst xs)):SqL K H a xs:=.inl (.inl h)
theorem SqT.of{K:PySem.W.Frag}(h:H a=some (.tup xs)):SqT K H a xs:=.inl (.inl h)
theorem Inv.list(I:Inv X pins σ H s)(h:SqL X.K H a xs):∃ its:List Value,Vals xs its/\PlainL s.heap a its.toArray/\xs.length<=sizeLine:=by
 rcases h with h | ⟨o,its,n,hk,hc,hd,hs,hz,r⟩
 ·obtain ⟨z,its,n,r,e⟩:=h.ok I.hok
  exact ⟨its,r,⟨_,n,e,rfl,rfl,rfl⟩,z⟩
 ·refine ⟨its.toList,r,⟨o,n,I.kIn a o hk,hc,hd,by simpa using hs⟩,?_⟩
  have e:=r.length
  simp only [Array.length_toList] at e
  lia
theorem Inv.tuple(I:Inv X pins σ H s)(h:SqT X.K H a xs):∃ its:List Value,Vals xs its/\IsTup s.heap a its.toArray/\xs.length<=sizeLine:=by
 rcases h with h | ⟨o,its,n,hk,hc,hs,hz,r⟩
 ·obtain ⟨z,its,r,p⟩:=h.ok I.hok
  exact ⟨its,r,p,z⟩
 ·refine ⟨its.toList,r,⟨o,I.kIn a o hk,hc,n,by simpa using hs⟩,?_⟩
  have e:=r.length
  simp only [Array.length_toList] at e
  lia
theorem Inv.list_inj(I:Inv X pins σ H s)(h:SqL X.K H a xs)(h':SqL X.K H a ys):xs=ys:=by
 obtain ⟨its,r,⟨o,n,e,_,_,d⟩,_⟩:=I.list h
 obtain ⟨its',r',⟨o',n',e',_,_,d'⟩,_⟩:=I.list h'
 rw [e] at e'; cases e'
 rw [d] at d'
 injection d' with d1 _
 have:its=its':=by simpa using congrArg Array.toList d1
 subst this
 exact r.inj r'
theorem Inv.tuple_inj(I:Inv X pins σ H s)(h:SqT X.K H a xs)(h':SqT X.K H a ys):xs=ys:=by
 obtain ⟨its,r,⟨o,e,_,n,d⟩,_⟩:=I.tuple h
 obtain ⟨its',r',⟨o',e',_,n',d'⟩,_⟩:=I.tuple h'
 rw [e] at e'; cases e'
 rw [d] at d'
 injection d' with d1 _
 have:its=its':=by simpa using congrArg Array.toList d1
 subst this
 exact r.inj r'
end
abbrev Cx.wish(X:Cx)(E:Value->Shared->Prop):Cx:={ X with xe:=E }
abbrev Cx.nox(X:Cx):Cx:=X.wish fun _ _=>False
theorem Cx.Ok.wish{X:Cx}(ok:X.Ok)(E:Value->Shared->Prop):(X.wish E).Ok:=
 ⟨ok.mod,ok.kind,ok.glob,ok.blt,ok.above,ok.inj,ok.has,ok.cab,ok.hd,ok.frames,ok.stk,ok.exf,ok.bs,ok.bsz,ok.noex,ok.exfs,ok.funs,ok.frf⟩
theorem Cx.Ok.unwish{X:Cx}{E:Value->Shared->Prop}(ok:(X.wish E).Ok):X.Ok:=
 ⟨ok.mod,ok.kind,ok.glob,ok.blt,ok.above,ok.inj,ok.has,ok.cab,ok.hd,ok.frames,ok.stk,ok.exf,ok.bs,ok.bsz,ok.noex,ok.exfs,ok.funs,ok.frf⟩
section
variable {X:Cx}{pins:List (Addr × Obj)}{σ:St}{H:Hp}{s:Shared}{E:Value->Shared->Prop}
theorem Inv.wish(I:Inv X pins σ H s)(E:Value->Shared->Prop):Inv (X.wish E) pins σ H s:=⟨I.ok.wish E,I.os,I.bare,I.base,I.loc,I.cell,I.free,I.freeC,I.pin,I.hok,I.len⟩
theorem Inv.unwish(I:Inv (X.wish E) pins σ H s):Inv X pins σ H s:=⟨I.ok.unwish,I.os,I.bare,I.base,I.loc,I.cell,I.free,I.freeC,I.pin,I.hok,I.len⟩
theorem SP.unwish{D:Ends}{f:Flow}{s':Shared}(h:SP (X.wish E) pins D f s'):SP X pins D f s':=by
 cases f with
 | next=>obtain ⟨σ',H',I,q⟩:=h; exact ⟨σ',H',I.unwish,q⟩
 | brk=>obtain ⟨σ',H',I,q⟩:=h; exact ⟨σ',H',I.unwish,q⟩
 | cont=>obtain ⟨σ',H',I,q⟩:=h; exact ⟨σ',H',I.unwish,q⟩
 | ret u=>obtain ⟨v,σ',H',I,r,q⟩:=h; exact ⟨v,σ',H',I.unwish,r,q⟩
theorem PSs.nox{st:List Stmt}{t:TS}(h:PSs X.nox st t):PSs X st t:=fun pins s σ H D I hw=>
 wpAny_mono (h pins s σ H D (I.wish _) hw) (fun _ _ q=>q.unwish) fun _ _ z=>False.elim z
end
section
variable {X:Cx}{st:Stmt}{rest:List Stmt}{t u:TS}{e:Expr}{te:TE}{pos:Pos}
def tNext:TS:=fun D σ H=>D.nx σ H
def tSeq(t u:TS):TS:=fun D σ H=>t { D with nx:=u D } σ H
theorem zhE:PSs X [] tNext:=fun _ _ σ H _ I h=>wpAny_execs_nil ⟨σ,H,I,h⟩
theorem zep(h1:PS X st t)(h2:PSs X rest u):PSs X (st::rest) (tSeq t u):=by
 intro pins s σ H D I h
 refine wpAny_execs_cons (thn (h1 pins s σ H { D with nx:=u D } I h) fun f s1 q=>?_)
 cases f with
 | next=>
  obtain ⟨σ',H',I',q⟩:=q
  exact h2 pins s1 σ' H' D I' q
 | ret v=>exact q
 | brk=>exact q
 | cont=>exact q
theorem zkV(h1:PS X st t):PSs X [st] t:=by
 intro pins s σ H D I h
 refine wpAny_execs_cons (thn (h1 pins s σ H D I h) fun f s1 q=>?_)
 cases f with
 | next=>exact wpAny_execs_nil q
 | ret v=>exact q
 | brk=>exact q
 | cont=>exact q
theorem Inv.quiet{pins:List (Addr × Obj)}{σ:St}{H:Hp}{s:Shared}(I:Inv X pins σ H s):interactive X.env=false:=by simp [interactive,I.ok.kind]
def tDrop(te:TE):TS:=fun D σ H=>te σ H fun _ H1=>D.nx σ H1
theorem zhH(he:PE X e te)(hs:swapsWith e none pos.line X.env=pure false:=by rfl):PS X (.Expr e pos) (tDrop te):=by
 intro pins s σ H D I h
 exact wpAny_Expr_any (thn (he pins s σ H _ I h) fun v s1 ⟨x,H1,I1,r1,q1⟩=>⟨σ,H1,I1,q1⟩) I.quiet hs
def tRet(te:TE):TS:=fun D σ H=>te σ H D.rt
theorem zhG(he:PE X e te):PS X (.Return (some e) pos) (tRet te):=by
 intro pins s σ H D I h
 exact wpAny_Return_some (thn (he pins s σ H _ I h) fun v s1 ⟨x,H1,I1,r1,q1⟩=>⟨x,σ,H1,I1,r1,q1⟩)
def tIfS(c:TT)(t u:TS):TS:=fun D σ H=>c σ H fun b H1=>if b=true then t D σ H1 else u D σ H1
theorem ps_if{c:Expr}{a b:List Stmt}{tc:TT}(hc:PT X c tc)(ha:PSs X a t)(hb:PSs X b u):PS X (.If c a b pos) (tIfS tc t u):=by
 intro pins s σ H D I h
 refine wpAny_If (thn (hc pins s σ H _ I h) fun d s1 h_=>?_); obtain ⟨H1,I1,q1⟩:=h_
 cases d with
 | true=>exact ha pins s1 σ H1 D I1 q1
 | false=>exact hb pins s1 σ H1 D I1 q1
end
abbrev TG:=V->St->Hp->(St->Hp->Prop)->Prop
abbrev TGs:=List V->St->Hp->(St->Hp->Prop)->Prop
def PG(X:Cx)(target:Expr)(t:TG):Prop:=
 ∀ (pins:List (Addr × Obj)) (s:Shared) (σ:St) (H:Hp) (v:V) (u:Value) (Q:St->Hp->Prop),Inv X pins σ H s->RelV v u->t v σ H Q->
  wpAny (model X.prog X.w) X.A (assign target X.env u) (fun _ s'=>∃ σ' H',Inv X pins σ' H' s'/\Q σ' H') X.xe s
def PGs(X:Cx)(ts:List Expr)(t:TGs):Prop:=
 ∀ (pins:List (Addr × Obj)) (s:Shared) (σ:St) (H:Hp) (vs:List V) (us:List Value) (Q:St->Hp->Prop),Inv X pins σ H s->Vals vs us->t vs σ H Q->
  wpAny (model X.prog X.w) X.A (assignInOrder ((assignEach ts X.env).map (·.2)) us) (fun _ s'=>∃ σ' H',Inv X pins σ' H' s'/\Q σ' H') X.xe s
abbrev TSet:=V->V->V->Hp->(Hp->Prop)->Prop
def PSet(X:Cx)(t:TSet):Prop:=
 ∀ (pins:List (Addr × Obj)) (s:Shared) (σ:St) (H:Hp) (o i v:V) (ov iv u:Value) (Q:Hp->Prop),Inv X pins σ H s->RelV o ov->RelV i iv->RelV v u->t o i v H Q->
  wpAny (model X.prog X.w) X.A (setItem ov iv u) (fun _ s'=>∃ H',Inv X pins σ H' s'/\Q H') X.xe s
section
variable {X:Cx}{pos:Pos}
def gName(i:Nat):TG:=fun v σ H Q=>Q (σ.set i (some v)) H
theorem zl4{i:Nat}{x:Str}(hN:X.N.Nodup)(hi:X.N[i]?=some x)(hx:Loc X.env.scope x)(hf:X.fn x=true∨X.env.scope.names.lookup x=some .local:=by first | exact .inl rfl | exact .inr rfl | assumption):PG X (.Name x pos) (gName i):=by
 intro pins s σ H v u Q I r h
 exact wpAny_assign_Name (zga I hN hi hx r (fun s' I'=>⟨_,H,I',h⟩) hf)
def gNil:TGs:=fun vs σ H Q=>vs=[]/\Q σ H
def gCons(t:TG)(u:TGs):TGs:=fun vs σ H Q=>∃ v r,vs=v::r/\t v σ H fun σ' H'=>u r σ' H' Q
theorem zl2:PGs X [] gNil:=by
 intro pins s σ H vs us Q I r h
 obtain ⟨e,h⟩:=h
 subst e
 cases r
 exact assignInOrder_nil ⟨σ,H,I,h⟩
theorem zjb{e:Expr}{es:List Expr}{t:TG}{u:TGs}(h1:PG X e t)(h2:PGs X es u)
  (hs:(assignEach (e::es) X.env).map (·.2)=assign e X.env::(assignEach es X.env).map (·.2):=by rfl):PGs X (e::es) (gCons t u):=by
 intro pins s σ H vs us Q I r h
 obtain ⟨v,vr,e1,h⟩:=h
 subst e1
 cases r with
 | cons r rr=>
  rw [hs]
  refine assignInOrder_cons (thn (h1 pins s σ H _ _ _ I r h) fun _ s1 h_=>?_); obtain ⟨σ1,H1,I1,q1⟩:=h_
  exact h2 pins s1 σ1 H1 _ _ Q I1 rr q1
def gTup(K:PySem.W.Frag)(n:Nat)(t:TGs):TG:=fun v σ H Q=>∃ a xs,v=.ref a/\SqT K H a xs/\xs.length=n/\t xs σ H Q
theorem zjY{es:List Expr}{k:Nat}{t:TGs}{n:Nat}(hc:X.calm=true)(h:PGs X es t)
  (hn:(assignEach es X.env).length=n:=by rfl) (hst:(assignEach es X.env).findIdx? (·.1)=none:=by rfl):PG X (.Tuple es k pos) (gTup X.K n t):=by
 intro pins s σ H v u Q I r hw
 obtain ⟨a,xs,e1,hq,hl,hw⟩:=hw
 subst e1
 cases r
 obtain ⟨its,rv,ht,hz⟩:=I.tuple hq
 refine assign_Tuple_tuple (I.ok.hd hc) ht (by simp [hn,<-hl,rv.length]) hst fun h' hx=>?_
 have I1:Inv X pins σ H { s with heap:=h' }:=I.kept (t':=s.toks) fun b o e=>hx b o (Nat.ne_of_lt (Heap.lt_size e)) e
 exact h pins _ σ H xs _ Q I1 (by simpa using rv) hw
def gSub(to ti:TE)(t:TSet):TG:=fun v σ H Q=>to σ H fun o H1=>ti σ H1 fun i H2=>t o i v H2 fun H3=>Q σ H3
theorem zmC{o i:Expr}{to ti:TE}{t:TSet}(ho:PE X o to)(hi:PE X i ti)(hs:PSet X t)
  (ha:∀ v,assign (.Subscript o i pos) X.env v=(do
   let ov <-holding [v] (eval o X.env)
   let iv <-holding [v,ov] (eval i X.env)
   standAt pos
   holding [v,ov,iv] (setItem ov iv v)
   release [v,ov,iv] []):=by intro _; rfl):PG X (.Subscript o i pos) (gSub to ti t):=by
 intro pins s σ H v u Q I r h
 rw [ha]
 refine wpAny_bind (wpAny_holding (thn (ho pins s σ H _ I h) fun ov s1 h_=>?_)); obtain ⟨x,H1,I1,r1,q1⟩:=h_
 refine wpAny_bind (wpAny_holding (thn (hi pins s1 σ H1 _ I1 q1) fun iv s2 h_=>?_)); obtain ⟨y,H2,I2,r2,q2⟩:=h_
 refine wpAny_bind (wpAny_standAt (wpAny_bind (wpAny_holding (thn (hs pins s2 σ H2 x y v ov iv u _ I2 r1 r2 r q2) fun _ s3 h_=>?_)))); obtain ⟨H3,I3,q3⟩:=h_
 exact wpAny_release ⟨σ,H3,I3,q3⟩
def tAsg(te:TE)(g:TG):TS:=fun D σ H=>te σ H fun x H1=>g x σ H1 D.nx
theorem zmA{tg e:Expr}{te:TE}{g:TG}(he:PE X e te)(hg:PG X tg g)(hs:swapsWithSole [tg] e pos.line X.env=pure false:=by rfl)(hw:swappedStores [tg] e X.env=pure none:=by rfl)
  (h1:(assignEach [tg] X.env).map (·.2)=[assign tg X.env]:=by rfl):PS X (.Assign [tg] e pos) (tAsg te g):=by
 intro pins s σ H D I h
 refine wpAny_Assign_stores (thn (he pins s σ H _ I h) fun v s1 ⟨x,H1,I1,r1,q1⟩=>?_) hs hw
 rw [h1]
 exact thn (hg pins s1 σ H1 x v _ I1 r1 q1) fun _ s2 q=>q
theorem zmy{i:Nat}{x:Str}{e:Expr}{te:TE}{pos':Pos}(hN:X.N.Nodup)(hi:X.N[i]?=some x)(hx:Loc X.env.scope x)(he:PE X e te)(hs:swapsWith e (some (.Name x pos')) pos.line X.env=pure false:=by rfl)(hf:X.fn x=true∨X.env.scope.names.lookup x=some .local:=by first | exact .inl rfl | exact .inr rfl | assumption) :
  PS X (.Assign [.Name x pos'] e pos) (tAsg te (gName i)):=by
 intro pins s σ H D I h
 refine wpAny_Assign_Name (thn (he pins s σ H _ I h) fun v s1 ⟨y,H1,I1,r1,q1⟩=>?_) hs
 exact zga I1 hN hi hx r1 (fun s2 I2=>⟨_,H1,I2,q1⟩) hf
end
structure It where
 go:Nat->Hp->Prop
 yld:Nat->Hp->V->Hp->Prop
 stop:Nat->Hp->Prop
def FpOk(X:Cx)(pins:List (Addr × Obj))(H:Hp)(b:Addr):Prop:=
 H b=none/\b≠X.env.locals/\b∉X.fs/\(b∈X.ex∨X.s₀.heap.objs.size<=b)/\(∀ x c,X.env.cells.lookup x=some c->c≠b)/\∀ p∈X.pn++pins,p.1≠b
theorem Inv.fpOk{X:Cx}{pins:List (Addr × Obj)}{σ:St}{H H':Hp}{s:Shared}{b:Addr}(I:Inv X pins σ H s)(hb:s.heap.objs.size<=b)(hn:H' b=none):FpOk X pins H' b:=by
 refine ⟨hn,Nat.ne_of_gt (Nat.lt_of_lt_of_le I.lt hb),I.nofs hb,.inr (Nat.le_trans I.sz hb),fun x c e z=>?_,fun p hp z=>?_⟩
 ·obtain ⟨v,q⟩:=I.cell x c e
  exact absurd (Nat.lt_of_lt_of_le q.lt (by rw [z]; exact hb)) (Nat.lt_irrefl _)
 ·exact absurd (Nat.lt_of_lt_of_le (Heap.lt_size (I.pin p hp).1) (by rw [z]; exact hb)) (Nat.lt_irrefl _)
structure Turn (P:Program) (w:World) (K:PySem.W.Frag) (tg:Expr) (J:It) (fp:List Addr) (it:Addr) (tn:Nat->Heap->Prop):Prop where
 mem:it∈fp
 obj:∀ i h,tn i h->∀ b∈fp,∃ o,h.get? b=some o/\∀ v,o.data≠.cell v
 keep:∀ i h h',tn i h->(∀ b∈fp,∀ o,h.get? b=some o->h'.get? b=some o)->tn i h'
 item:∀ (X:Cx),X.prog=P->X.w=w->X.K=K->X.calm=true->∀ (i:Nat) (pins:List (Addr × Obj)) (s:Shared) (σ:St) (H:Hp) (E:Value->Shared->Prop),Inv X pins σ H s->(∀ b∈fp,FpOk X pins H b)->tn i s.heap->J.go i H->
  wpAny (model P w) X.A (pyNext (.ref it)) (fun r s1=>∃ u,r=some u /\
   wpAny (model P w) X.A (letOwnedTupleGo tg (.ref it) u) (fun _ s2=>∃ x H',Inv X pins σ H' s2/\RelV x u/\J.yld i H x H'/\tn (i+1) s2.heap/\∀ b∈fp,H' b=none) E s1) E s
 done:∀ (X:Cx),X.prog=P->X.w=w->X.K=K->X.calm=true->∀ (i:Nat) (pins:List (Addr × Obj)) (s:Shared) (σ:St) (H:Hp) (E:Value->Shared->Prop),Inv X pins σ H s->(∀ b∈fp,FpOk X pins H b)->tn i s.heap->J.stop i H->
  wpAny (model P w) X.A (pyNext (.ref it)) (fun r s1=>r=none/\Inv X pins σ H s1) E s
 self:∀ (A:Around) (i:Nat) (s:Shared) (Q:Value->Shared->Prop) (E:Value->Shared->Prop),tn i s.heap->Q (.ref it) s->wpAny (model P w) A (pyIter (.ref it)) Q E s
abbrev TI:=St->Hp->(It->Hp->Prop)->Prop
def PIE(X:Cx)(pins:List (Addr × Obj))(σ:St)(tg:Expr)(R:It->Hp->Prop)(itv:Value)(s2:Shared):Prop:=
 ∃ (it:Addr) (fp:List Addr) (tn:Nat->Heap->Prop) (J:It) (H':Hp),itv=.ref it/\Inv X pins σ H' s2/\Turn X.prog X.w X.K tg J fp it tn/\tn 0 s2.heap/\(∀ b∈fp,FpOk X pins H' b)/\R J H'
def PI(X:Cx)(tg iter:Expr)(wi:TI):Prop:=
 ∀ (pins:List (Addr × Obj)) (s:Shared) (σ:St) (H:Hp) (R:It->Hp->Prop),Inv X pins σ H s->wi σ H R->
  wpAny (model X.prog X.w) X.A (eval iter X.env) (fun v s1=>wpAny (model X.prog X.w) X.A (pyIter v) (PIE X pins σ tg R) X.xe s1) X.xe s
theorem go_of{M:Model}{A:Around}{E:Value->Shared->Prop}{s:Shared}{tg:Expr}{it:Addr}{u:Value}{o:Obj}{n:String}{vs:Array Value}{Q:Unit->Shared->Prop}(ho:s.heap.get? it=some o)(hc:o.cls=.type n)(hd:o.data=.fields vs)
    (hn:["enumerate","zip","dict_itemiterator","dict_reverseitemiterator","odict_iterator","itertools.zip_longest","itertools.pairwise"].contains n=false) (hQ:Q () s):wpAny M A (letOwnedTupleGo tg (.ref it) u) Q E s:=by
  unfold letOwnedTupleGo
  cases tg<;>first
    | exact wpAny_pure hQ
    | (cases u<;>first
        | exact wpAny_pure hQ
        | (refine wpAny_bind (wpAny_load ho ?_)
           rw [hc,hd]
           show wpAny M A (if (["enumerate","zip","dict_itemiterator","dict_reverseitemiterator","odict_iterator","itertools.zip_longest","itertools.pairwise"].contains n&&vs[0]? == some (rawInt _))=true then _ else _) Q E s
           rw [if_neg (by intro h; rw [hn,Bool.false_and] at h; cases h)]
           exact wpAny_pure hQ))
def Itl(K:PySem.W.Frag)(a:Addr):It:=
 ⟨fun i H=>∃ xs x,SqL K H a xs/\xs[i]?=some x,fun i H x H'=>H'=H/\∀ xs,SqL K H a xs->xs[i]?=some x,fun i H=>∃ xs,SqL K H a xs/\xs.length<=i⟩
def Itt(K:PySem.W.Frag)(a:Addr):It:=
 ⟨fun i H=>∃ xs x,SqT K H a xs/\xs[i]?=some x,fun i H x H'=>H'=H/\∀ xs,SqT K H a xs->xs[i]?=some x,fun i H=>∃ xs,SqT K H a xs/\xs.length<=i⟩
def Itr(lo:Int)(n:Nat):It:=⟨fun i _=>i < n,fun i H x H'=>H'=H/\x=.int (lo+i),fun i _=>n<=i⟩
theorem zhg{P:Program}{w:World}{K:PySem.W.Frag}{tg:Expr}(a it:Addr):Turn P w K tg (Itl K a) [it] it (fun i h=>h.IsListIter it a i) where
 mem:=by simp
 obj:=fun i h st b hb=>by
  have e:b=it:=by simpa using hb
  subst e
  obtain ⟨o,e,c,d⟩:=st
  exact ⟨o,e,fun v z=>by rw [d] at z; cases z⟩
 keep:=fun i h h' st k=>st.at fun o e=>k it (by simp) o e
 item:=by
  intro X hP hw hK hc i pins s σ H E I hf st hg
  subst hP hw hK
  obtain ⟨xs,x,hq,hx⟩:=hg
  obtain ⟨its,rv,p,hz⟩:=I.list hq
  obtain ⟨u,hu,ru⟩:=rv.get hx
  obtain ⟨f0,f1,f2,f3,f4,f5⟩:=hf it (by simp)
  refine wpAny_pyNext_list_item st p.isList (x:=u) (by simpa using hu) fun h' st' sb=>?_
  have I1:Inv X pins σ H { s with heap:=h' }:=I.turned (t':=s.toks) (fun b o hb e=>(sb.2 b hb).trans e) f0 f1 f3 f4 f5
  obtain ⟨o,e,c,d⟩:=id st'
  exact ⟨u,rfl,go_of (s:={ s with heap:=h' }) e c d (by decide) ⟨x,H,I1,ru,⟨rfl,fun ys hy=>by rw [I.list_inj hy hq]; exact hx⟩,st',fun b hb=>(hf b hb).1⟩⟩
 done:=by
  intro X hP hw hK hc i pins s σ H E I hf st hg
  subst hP hw hK
  obtain ⟨xs,hq,hx⟩:=hg
  obtain ⟨its,rv,p,hz⟩:=I.list hq
  obtain ⟨f0,f1,f2,f3,f4,f5⟩:=hf it (by simp)
  have hl:=rv.length
  exact wpAny_pyNext_list_end (I.ok.hd hc) st p.isList (by simp; lia) fun h' eb=>⟨rfl,I.turned (t':=s.toks) (fun b o hb e=>eb b o hb e) f0 f1 f3 f4 f5⟩
 self:=fun _ _ _ _ _ st h=>wpAny_pyIter_listiter st h
theorem zgQ{P:Program}{w:World}{K:PySem.W.Frag}{tg:Expr}(a it:Addr):Turn P w K tg (Itt K a) [it] it (fun i h=>h.IsTupleIter it a i) where
 mem:=by simp
 obj:=fun i h st b hb=>by
  have e:b=it:=by simpa using hb
  subst e
  obtain ⟨o,e,c,d⟩:=st
  exact ⟨o,e,fun v z=>by rw [d] at z; cases z⟩
 keep:=fun i h h' st k=>st.at fun o e=>k it (by simp) o e
 item:=by
  intro X hP hw hK hc i pins s σ H E I hf st hg
  subst hP hw hK
  obtain ⟨xs,x,hq,hx⟩:=hg
  obtain ⟨its,rv,p,hz⟩:=I.tuple hq
  obtain ⟨u,hu,ru⟩:=rv.get hx
  obtain ⟨f0,f1,f2,f3,f4,f5⟩:=hf it (by simp)
  refine wpAny_pyNext_tuple_item st (show s.heap.IsTuple a its.toArray from p) (x:=u) (by simpa using hu) fun h' st' sb=>?_
  have I1:Inv X pins σ H { s with heap:=h' }:=I.turned (t':=s.toks) (fun b o hb e=>(sb.2 b hb).trans e) f0 f1 f3 f4 f5
  obtain ⟨o,e,c,d⟩:=id st'
  exact ⟨u,rfl,go_of (s:={ s with heap:=h' }) e c d (by decide) ⟨x,H,I1,ru,⟨rfl,fun ys hy=>by rw [I.tuple_inj hy hq]; exact hx⟩,st',fun b hb=>(hf b hb).1⟩⟩
 done:=by
  intro X hP hw hK hc i pins s σ H E I hf st hg
  subst hP hw hK
  obtain ⟨xs,hq,hx⟩:=hg
  obtain ⟨its,rv,p,hz⟩:=I.tuple hq
  obtain ⟨f0,f1,f2,f3,f4,f5⟩:=hf it (by simp)
  have hl:=rv.length
  exact wpAny_pyNext_tuple_end (I.ok.hd hc) st (show s.heap.IsTuple a its.toArray from p) (by simp; lia) fun h' eb=>⟨rfl,I.turned (t':=s.toks) (fun b o hb e=>eb b o hb e) f0 f1 f3 f4 f5⟩
 self:=fun _ _ _ _ _ st h=>wpAny_pyIter_tupleiter st h
theorem zgR{P:Program}{w:World}{K:PySem.W.Frag}{tg:Expr}(it:Addr)(lo:Int)(n:Nat):Turn P w K tg (Itr lo n) [it] it (fun i h=>IsRangeIter h it (lo+(i:Nat)*1) ((n:Int) - (i:Nat)) 1) where
 mem:=by simp
 obj:=fun i h st b hb=>by
  have e:b=it:=by simpa using hb
  subst e
  exact ⟨_,st,fun v z=>by
   have z':Data.fields _=Data.cell v:=z
   cases z'⟩
 keep:=fun i h h' st k=>k it (by simp) _ st
 item:=by
  intro X hP hw hK hc i pins s σ H E I hf st hg
  subst hP hw hK
  obtain ⟨f0,f1,f2,f3,f4,f5⟩:=hf it (by simp)
  have W:=Walks.range (prog:=X.prog) (w:=X.w) (I.ok.hd hc) it lo 1 n
  refine W.item i s _ _ hg st fun v h' tk hv st' kk=>?_
  obtain ⟨t,rfl⟩:=hv
  have I1:Inv X pins σ H { s with heap:=h',toks:=tk }:=I.turned (fun b o hb e=>kk b o (by simpa using hb) e) f0 f1 f3 f4 f5
  refine ⟨_,rfl,go_of (s:={ s with heap:=h',toks:=tk }) (n:="range_iterator") st' rfl rfl (by decide) ⟨.int (lo+i),H,I1,⟨t,?_⟩,⟨rfl,rfl⟩,st',fun b hb=>(hf b hb).1⟩⟩
  rw [Int.mul_one]
 done:=by
  intro X hP hw hK hc i pins s σ H E I hf st hg
  subst hP hw hK
  obtain ⟨f0,f1,f2,f3,f4,f5⟩:=hf it (by simp)
  exact wpAny_pyNext_range_end (I.ok.hd hc) st (by have:n<=i:=hg; lia) fun h' eb=>⟨rfl,I.turned (t':=s.toks) (fun b o hb e=>eb b o hb e) f0 f1 f3 f4 f5⟩
 self:=fun _ _ _ _ _ st h=>wpAny_pyIter_rangeiter st h
end L2
namespace L2
open PySem PySem.Spec PyProof.Rows
section
variable {X:Cx}{tg:Expr}
def iList(K:PySem.W.Frag)(tl:TE):TI:=fun σ H R=>tl σ H fun x H1=>∃ a,x=.ref a/\(∃ xs,SqL K H1 a xs)/\R (Itl K a) H1
def iTup(K:PySem.W.Frag)(tl:TE):TI:=fun σ H R=>tl σ H fun x H1=>∃ a,x=.ref a/\(∃ xs,SqT K H1 a xs)/\R (Itt K a) H1
theorem zhK{l:Expr}{tl:TE}(hl:PE X l tl):PI X tg l (iList X.K tl):=by
 intro pins s σ H R I h
 refine thn (hl pins s σ H _ I h) fun v s1 h_=>?_; obtain ⟨x,H1,I1,r1,q1⟩:=h_
 obtain ⟨a,e,⟨xs,hq⟩,q⟩:=q1
 subst e
 cases r1
 obtain ⟨its,rv,p,hz⟩:=I1.list hq
 refine wpAny_pyIter_list p.isList ?_
 refine ⟨s1.heap.objs.size,[s1.heap.objs.size],_,_,H1,rfl,I1.kept (t':=s1.toks) fun b o e=>Heap.get?_push_of_some _ e,zhg a _,⟨_,Heap.get?_push_size _ rfl,rfl,rfl⟩,fun b hb=>?_,q⟩
 have e:b=s1.heap.objs.size:=by simpa using hb
 subst e
 exact I1.fpOk (Nat.le_refl _) (I1.hok.fresh (Nat.le_refl _))
theorem zmB{l:Expr}{tl:TE}(hl:PE X l tl):PI X tg l (iTup X.K tl):=by
 intro pins s σ H R I h
 refine thn (hl pins s σ H _ I h) fun v s1 h_=>?_; obtain ⟨x,H1,I1,r1,q1⟩:=h_
 obtain ⟨a,e,⟨xs,hq⟩,q⟩:=q1
 subst e
 cases r1
 obtain ⟨its,rv,p,hz⟩:=I1.tuple hq
 refine wpAny_pyIter_tuple (show s1.heap.IsTuple a its.toArray from p) ?_
 refine ⟨s1.heap.objs.size,[s1.heap.objs.size],_,_,H1,rfl,I1.kept (t':=s1.toks) fun b o e=>Heap.get?_push_of_some _ e,zgQ a _,⟨_,Heap.get?_push_size _ rfl,rfl,rfl⟩,fun b hb=>?_,q⟩
 have e:b=s1.heap.objs.size:=by simpa using hb
 subst e
 exact I1.fpOk (Nat.le_refl _) (I1.hok.fresh (Nat.le_refl _))
theorem zgh{pins:List (Addr × Obj)}{σ:St}{H:Hp}{s:Shared}{R:It->Hp->Prop}{E:Value->Shared->Prop}{lo hi:Int}{t u v:Tok}{tk:Nat}(I:Inv X pins σ H s)(h1:-(2 ^ 62)<=lo)(h2:lo < 2 ^ 62)(h3:-(2 ^ 62)<=hi)(h4:hi < 2 ^ 62)
  (q:R (Itr lo (hi - lo).toNat) H):wpAny (model X.prog X.w) X.A (pyIter (.ref s.heap.objs.size)) (PIE X pins σ tg R) E { s with heap:=s.heap.push { cls:=.type "range",data:=.fields #[.int lo t,.int hi u,.int 1 v] },toks:=tk }:=by
 refine wpAny_pyIter_range (IsRange.new ..) (small_one h1 h2 h3 h4) ?_
 have I1:Inv X pins σ H { s with heap:=s.heap.push { cls:=.type "range",data:=.fields #[.int lo t,.int hi u,.int 1 v] },toks:=tk }:=I.kept fun b o e=>Heap.get?_push_of_some _ e
 refine ⟨(s.heap.push { cls:=.type "range",data:=.fields #[.int lo t,.int hi u,.int 1 v] }).objs.size,[(s.heap.push { cls:=.type "range",data:=.fields #[.int lo t,.int hi u,.int 1 v] }).objs.size],_,_,H,rfl,
  I1.kept (t':=tk) fun b o e=>Heap.get?_push_of_some _ e,zgR _ lo (hi - lo).toNat,?_,fun b hb=>?_,q⟩
 ·have e1:lo+((0:Nat):Int)*1=lo:=by simp
  have e2:(((hi - lo).toNat:Nat):Int) - ((0:Nat):Int)=Builtin.Range.rangeSize lo hi 1:=by rw [rangeSize_one]; split<;>lia
  show IsRangeIter _ _ (lo+((0:Nat):Int)*1) ((((hi - lo).toNat:Nat):Int) - ((0:Nat):Int)) 1
  rw [e1,e2]
  exact Heap.get?_push_size _ rfl
 ·have e:b=(s.heap.push { cls:=.type "range",data:=.fields #[.int lo t,.int hi u,.int 1 v] }).objs.size:=by simpa using hb
  subst e
  exact I1.fpOk (Nat.le_refl _) (I1.hok.fresh (Nat.le_refl _))
def iRng1(ta:TA):TI:=fun σ H R=>ta σ H fun vs H1=>∃ j:Int,vs=[.int j]/\-(2 ^ 62)<=j/\j < 2 ^ 62/\R (Itr 0 j.toNat) H1
def iRng2(ta:TA):TI:=fun σ H R=>ta σ H fun vs H1=>∃ i j:Int,vs=[.int i,.int j]/\(-(2 ^ 62)<=i/\i < 2 ^ 62/\-(2 ^ 62)<=j/\j < 2 ^ 62)/\R (Itr i (j - i).toNat) H1
theorem zhJ{a:Expr}{ta:TA}{p pos:Pos}(hg:Gl X "range")(hm:X.mg "range"=none)(ha:PA X [a] ta)(hs:starEach [a] X.env=[(false,eval a X.env)]:=by rfl):PI X tg (.Call (.Name "range" p) [a] [] pos) (iRng1 ta):=by
 intro pins s σ H R I h
 refine Call_ (zbP I hg hm boot_range (PyProof.Rows.callWith_type1 (thn (ha pos pins s σ H _ I h) fun us s1 ⟨vs,H1,I1,r1,q1⟩=>?_) hs rfl))
 obtain ⟨j,e,q1,q2,q⟩:=q1
 subst e
 cases r1 with
 | cons r rr=>
  cases rr
  obtain ⟨t,rfl⟩:=r
  exact call_range_1 (zgh I1 (by lia) (by lia) q1 q2 (by simpa using q))
theorem zhI{a b:Expr}{ta:TA}{p pos:Pos}(hg:Gl X "range")(hm:X.mg "range"=none)(ha:PA X [a,b] ta)(hs:starEach [a,b] X.env=[(false,eval a X.env),(false,eval b X.env)]:=by rfl)(hs2:starEach [b] X.env=[(false,eval b X.env)]:=by rfl) :
  PI X tg (.Call (.Name "range" p) [a,b] [] pos) (iRng2 ta):=by
 intro pins s σ H R I h
 refine Call_ (zbP I hg hm boot_range (PyProof.Rows.callWith_type1 (thn (ha pos pins s σ H _ I h) fun us s1 ⟨vs,H1,I1,r1,q1⟩=>?_) (by rw [hs,hs2]) (by rw [hs2]; rfl)))
 obtain ⟨i,j,e,⟨q1,q2,q3,q4⟩,q⟩:=q1
 subst e
 cases r1 with
 | cons r rr=>
  cases rr with
  | cons r' rr=>
   cases rr
   obtain ⟨t,rfl⟩:=r
   obtain ⟨t',rfl⟩:=r'
   exact call_range_2 (zgh I1 q1 q2 q3 q4 q)
def tFor(wi:TI)(g:TG)(tb:TS):TS:=fun D σ H=>wi σ H fun J H1=>∃ W:Nat->Nat->St->Hp->Prop,(∃ m,W 0 m σ H1)/\∀ i m σ H,W i m σ H->
 (J.stop i H/\D.nx σ H)∨(J.go i H/\∃ N:St->Hp->Prop,(∀ σ' H',N σ' H'->∃ m',m' < m/\W (i+1) m' σ' H')/\∀ x H',J.yld i H x H'->g x σ H' fun σ2 H2=>tb { D with nx:=N,ct:=N,bk:=D.nx } σ2 H2)
def zd5(fp:List Addr)(h:Heap):List (Addr × Obj):=fp.filterMap fun b=>(h.get? b).map fun o=>(b,o)
theorem zau{fp:List Addr}{h:Heap}{b:Addr}{o:Obj}(hb:b∈fp)(e:h.get? b=some o):(b,o)∈zd5 fp h:=List.mem_filterMap.mpr ⟨b,hb,by rw [e]; rfl⟩
theorem zhT{fp:List Addr}{h:Heap}{p:Addr × Obj}(hp:p∈zd5 fp h):p.1∈fp/\h.get? p.1=some p.2:=by
 obtain ⟨b,hb,e⟩:=List.mem_filterMap.mp hp
 cases q:h.get? b with
 | none=>rw [q] at e; cases e
 | some o=>
  rw [q] at e
  have e':(b,o)=p:=Option.some.inj e
  subst e'
  exact ⟨hb,q⟩
theorem Inv.pinned{pins:List (Addr × Obj)}{σ:St}{H:Hp}{s:Shared}{fp:List Addr}(I:Inv X pins σ H s)(hf:∀ b∈fp,FpOk X pins H b)(ho:∀ b∈fp,∃ o,s.heap.get? b=some o/\∀ v,o.data≠.cell v):Inv X (pins++zd5 fp s.heap) σ H s:=
 I.pins_of fun p hp=>(List.mem_append.mp hp).elim (fun z=>I.pin p (List.mem_append_right _ z)) fun z=>by
  obtain ⟨hb,e⟩:=zhT z
  obtain ⟨f0,f1,f2,_⟩:=hf p.1 hb
  obtain ⟨o,e',d⟩:=ho p.1 hb
  rw [e] at e'; cases e'
  exact ⟨e,f0,f1,f2,d⟩
theorem Inv.unpinned{pins pl:List (Addr × Obj)}{σ:St}{H:Hp}{s:Shared}(I:Inv X (pins++pl) σ H s):Inv X pins σ H s:=I.pins_of fun p hp=>I.pin p (List.mem_append_right _ (List.mem_append_left _ hp))
theorem zmz{iter:Expr}{body:List Stmt}{wi:TI}{g:TG}{tb:TS}{pos:Pos}(hp:PassesOwn (model X.prog X.w) X.A X.env X.xe)(hc:X.calm=true)(hi:PI X tg iter wi)(hg:PG X tg g)(hb:PSs X body tb)
  (hs:∀ x,foldedSetIterable iter X.env x=pure x:=by intro _; rfl):PS X (.For tg iter body [] pos) (tFor wi g tb):=by
 intro pins s σ H D I h
 refine wpAny_For (thn (hi pins s σ H _ I h) fun v s1 h1=>thn h1 fun itv s2 h2=>?_) hs
 obtain ⟨it,fp,tn,J,H2,e,I2,T,st2,f2,W,⟨m0,w0⟩,turn⟩:=h2
 subst e
 -- what stays true of the iterator's objects through the loop
 have stat:∀ {H':Hp},(∀ b∈fp,H' b=none)->∀ b∈fp,FpOk X pins H' b:=fun hn b hb=>⟨hn b hb,(f2 b hb).2⟩
 refine codeAny_forLoop_any (fun n s'=>∃ i σ' H',Inv X pins σ' H' s'/\tn i s'.heap/\(∀ b∈fp,H' b=none)/\W i n σ' H') ?_ m0 ⟨0,σ,H2,I2,st2,fun b hb=>(f2 b hb).1,w0⟩
 rintro n s3 ⟨i,σ3,H3,I3,st3,fr3,w3⟩
 rcases turn i n σ3 H3 w3 with ⟨stop,qn⟩ | ⟨go,N,hN,step⟩
 ·refine wpAny_passesOwn hp (thn (T.done X rfl rfl rfl hc i pins s3 σ3 H3 X.xe I3 (stat fr3) st3 stop) fun r s4 h_=>?_); obtain ⟨hr,I4⟩:=h_
  subst hr
  exact wpAny_execs_nil ⟨σ3,H3,I4,qn⟩
 ·refine wpAny_passesOwn hp (thn (T.item X rfl rfl rfl hc i pins s3 σ3 H3 X.xe I3 (stat fr3) st3 go) fun r s4 h_=>?_); obtain ⟨u,hr,h4⟩:=h_
  subst hr
  refine wpAny_passesOwn hp (thn h4 fun _ s5 h_=>?_); obtain ⟨x,H5,I5,r5,y5,st5,fr5⟩:=h_
  have I5':=I5.pinned (stat fr5) (T.obj _ _ st5)
  refine wpAny_passesOwn hp (thn (hg _ s5 σ3 H5 x u _ I5' r5 (step x H5 y5)) fun _ s6 h_=>?_); obtain ⟨σ6,H6,I6,q6⟩:=h_
  refine wpAny_passesOwn hp (thn (hb _ s6 σ6 H6 _ I6 q6) fun f s7 q7=>?_)
  have again:∀ {σ7:St} {H7:Hp},Inv X (pins++zd5 fp s5.heap) σ7 H7 s7->N σ7 H7->∃ m,m < n/\∃ i σ' H',Inv X pins σ' H' s7/\tn i s7.heap/\(∀ b∈fp,H' b=none)/\W i m σ' H':=fun {σ7 H7} I7 n7=>by
   obtain ⟨m',hm,w7⟩:=hN σ7 H7 n7
   refine ⟨m',hm,i+1,σ7,H7,I7.unpinned,T.keep _ _ _ st5 fun b hb o e=>(I7.pin (b,o) (List.mem_append_right _ (List.mem_append_right _ (zau hb e)))).1,fun b hb=>?_,w7⟩
   obtain ⟨o,e,d⟩:=T.obj _ _ st5 b hb
   exact (I7.pin (b,o) (List.mem_append_right _ (List.mem_append_right _ (zau hb e)))).2.1
  cases f with
  | next=>obtain ⟨σ7,H7,I7,n7⟩:=q7; exact again I7 n7
  | cont=>obtain ⟨σ7,H7,I7,n7⟩:=q7; exact again I7 n7
  | brk=>obtain ⟨σ7,H7,I7,q7⟩:=q7; exact ⟨σ7,H7,I7.unpinned,q7⟩
  | ret v=>obtain ⟨x7,σ7,H7,I7,r7,q7⟩:=q7; exact ⟨x7,σ7,H7,I7.unpinned,r7,q7⟩
end
end L2
namespace L2
open PySem PySem.Spec PyProof.Rows
abbrev R2:=V->V->Hp->VK->Prop
def OpR(X:Cx)(f:Value->Value->Sem Value)(r:R2):Prop:=
 ∀ (pins:List (Addr × Obj)) (s:Shared) (σ:St) (H:Hp) (x y:V) (v u:Value) (Q:VK),Inv X pins σ H s->RelV x v->RelV y u->r x y H Q->
  wpAny (model X.prog X.w) X.A (f v u) (EP X pins σ Q) X.xe s
def UnR(X:Cx)(f:Value->Sem Value)(r:V->Hp->VK->Prop):Prop:=
 ∀ (pins:List (Addr × Obj)) (s:Shared) (σ:St) (H:Hp) (x:V) (v:Value) (Q:VK),Inv X pins σ H s->RelV x v->r x H Q->
  wpAny (model X.prog X.w) X.A (f v) (EP X pins σ Q) X.xe s
def CallR(X:Cx)(f:Value)(r:List V->Hp->VK->Prop):Prop:=
 ∀ (pins:List (Addr × Obj)) (s:Shared) (σ:St) (H:Hp) (xs:List V) (us:List Value) (Q:VK),Inv X pins σ H s->Vals xs us->r xs H Q->
  wpAny (model X.prog X.w) X.A (call f us) (EP X pins σ Q) X.xe s
def TruR(X:Cx)(r:V->Hp->(Bool->Hp->Prop)->Prop):Prop:=
 ∀ (pins:List (Addr × Obj)) (s:Shared) (σ:St) (H:Hp) (x:V) (v:Value) (Q:Bool->Hp->Prop),Inv X pins σ H s->RelV x v->r x H Q->
  wpAny (model X.prog X.w) X.A (truthy v) (TP X pins σ Q) X.xe s
def tOp(r:R2)(ta tb:TE):TE:=fun σ H Q=>ta σ H fun x H1=>tb σ H1 fun y H2=>r x y H2 Q
def tUn(r:V->Hp->VK->Prop)(ta:TE):TE:=fun σ H Q=>ta σ H fun x H1=>r x H1 Q
def rI(C:Int->Int->Prop)(g:Int->Int->V):R2:=fun x y H Q=>∃ i j,x=.int i/\y=.int j/\C i j/\Q (g i j) H
def rI0(g:Int->Int->V):R2:=fun x y H Q=>∃ i j,x=.int i/\y=.int j/\Q (g i j) H
def rU(g:Int->V):V->Hp->VK->Prop:=fun x H Q=>∃ i,x=.int i/\Q (g i) H
section
variable {X:Cx}{a b c:Expr}{ta tb tc:TE}{pos:Pos}
theorem binT(ha:PE X a ta)(hb:PE X b tb){pins:List (Addr × Obj)}{s:Shared}{σ:St}{H:Hp}{R:V->V->Hp->Prop}(I:Inv X pins σ H s)
  (h:ta σ H fun x H1=>tb σ H1 fun y H2=>R x y H2) {Q:Value->Shared->Prop} {f:Value->Value->Sem Value}
  (hf:∀ v u s2 x y H2,Inv X pins σ H2 s2->RelV x v->RelV y u->R x y H2->wpAny (model X.prog X.w) X.A (f v u) Q X.xe s2) :
  wpAny (model X.prog X.w) X.A (eval a X.env) (fun v s₁=>wpAny (model X.prog X.w) X.A (eval b X.env) (fun u s₂=>wpAny (model X.prog X.w) X.A (f v u) Q X.xe s₂) X.xe s₁) X.xe s:=by
 refine thn (ha pins s σ H _ I h) fun v s1 h_=>?_; obtain ⟨x,H1,I1,r1,q1⟩:=h_
 refine thn (hb pins s1 σ H1 _ I1 q1) fun u s2 h_=>?_; obtain ⟨y,H2,I2,r2,q2⟩:=h_
 exact hf v u s2 x y H2 I2 r1 r2 q2
theorem pe_op{op:Operator}{r:R2}(ho:OpR X (binaryOp op) r)(ha:PE X a ta)(hb:PE X b tb):PE X (.BinOp a op b pos) (tOp r ta tb):=by
 intro pins s σ H Q I h
 exact wpAny_BinOp (binT ha hb I h fun v u s2 x y H2 I2 rx ry q=>ho pins s2 σ H2 x y v u Q I2 rx ry q)
theorem pe_un{op:UnaryOp}{r:V->Hp->VK->Prop}(ho:UnR X (unaryOp op) r)(ha:PE X a ta):PE X (.UnaryOp op a pos) (tUn r ta):=by
 intro pins s σ H Q I h
 exact UnaryOp_ (thn (ha pins s σ H _ I h) fun v s1 ⟨x,H1,I1,r1,q1⟩=>ho pins s1 σ H1 x v Q I1 r1 q1)
theorem opI{f:Value->Value->Sem Value}{C:Int->Int->Prop}{g:Int->Int->Int}
  (rule:∀ (i j:Int) (t u:Tok) (s:Shared) (Q:Value->Shared->Prop) (E:Value->Shared->Prop),C i j->Q (.int (g i j) s.toks) { s with toks:=s.toks+1 }->wpAny (model X.prog X.w) X.A (f (.int i t) (.int j u)) Q E s) :
  OpR X f (rI C fun i j=>.int (g i j)):=by
 intro pins s σ H x y v u Q I rx ry h
 obtain ⟨i,j,rfl,rfl,hc,q⟩:=h
 obtain ⟨t,rfl⟩:=rx
 obtain ⟨t',rfl⟩:=ry
 exact rule i j t t' s _ _ hc ⟨.int (g i j),H,I.tok _,⟨_,rfl⟩,q⟩
theorem opI0{f:Value->Value->Sem Value}{g:Int->Int->Int}
  (rule:∀ (i j:Int) (t u:Tok) (s:Shared) (Q:Value->Shared->Prop) (E:Value->Shared->Prop),Q (.int (g i j) s.toks) { s with toks:=s.toks+1 }->wpAny (model X.prog X.w) X.A (f (.int i t) (.int j u)) Q E s) :
  OpR X f (rI0 fun i j=>.int (g i j)):=by
 intro pins s σ H x y v u Q I rx ry h
 obtain ⟨i,j,rfl,rfl,q⟩:=h
 obtain ⟨t,rfl⟩:=rx
 obtain ⟨t',rfl⟩:=ry
 exact rule i j t t' s _ _ ⟨.int (g i j),H,I.tok _,⟨_,rfl⟩,q⟩
theorem opB0{f:Value->Value->Sem Value}{g:Int->Int->Bool}
  (rule:∀ (i j:Int) (t u:Tok) (s:Shared) (Q:Value->Shared->Prop) (E:Value->Shared->Prop),Q (.bool (g i j)) s->wpAny (model X.prog X.w) X.A (f (.int i t) (.int j u)) Q E s) :
  OpR X f (rI0 fun i j=>.bl (g i j)):=by
 intro pins s σ H x y v u Q I rx ry h
 obtain ⟨i,j,rfl,rfl,q⟩:=h
 obtain ⟨t,rfl⟩:=rx
 obtain ⟨t',rfl⟩:=ry
 exact rule i j t t' s _ _ ⟨.bl (g i j),H,I,rfl,q⟩
def CDiv(i j:Int):Prop:=0 < j/\j < 1073741824
def CMul(i j:Int):Prop:=(-(2 ^ 64) < i/\i < 2 ^ 64)∨(-(2 ^ 64) < j/\j < 2 ^ 64)
theorem CMul.ok{i j:Int}(h:CMul i j):IntMulOk i j:=by
 rcases h with ⟨h1,h2⟩ | ⟨h1,h2⟩
 ·exact .of_left (intBits_le_64 h1 h2)
 ·exact .of_right (intBits_le_64 h1 h2)
theorem op_add:OpR X (binaryOp .Add) (rI0 fun i j=>.int (i+j)):=opI0 fun _ _ _ _ _ _ _ q=>add_int q
theorem zmM:OpR X (binaryOp .Sub) (rI0 fun i j=>.int (i - j)):=opI0 fun _ _ _ _ _ _ _ q=>sub_int q
theorem zmO:OpR X (binaryOp .Mult) (rI CMul fun i j=>.int (i*j)):=opI fun _ _ _ _ _ _ _ hc q=>mul_int q hc.ok
theorem zl6:OpR X (binaryOp .FloorDiv) (rI CDiv fun i j=>.int (i / j)):=opI fun i j _ _ _ _ _ hc q=>by
 have h1:(0:Int) < j:=hc.1
 have h2:j < 1073741824:=hc.2
 exact floordiv_int (by lia) (by rw [Int.fdiv_eq_ediv_of_nonneg i (by lia)]; exact q) (.inl (PyProof.noPylong_small (by lia)))
theorem zmP:OpR X (binaryOp .Mod) (rI (fun _ j=>0 < j) fun i j=>.int (i%j)):=opI fun i j _ _ _ _ _ hc q=>by
 have h1:(0:Int) < j:=hc
 exact mod_int' (by lia) (by rw [Int.fmod_eq_emod_of_nonneg i (by lia)]; exact q)
theorem unI{f:Value->Sem Value}{g:Int->Int}
  (rule:∀ (i:Int) (t:Tok) (s:Shared) (Q:Value->Shared->Prop) (E:Value->Shared->Prop),Q (.int (g i) s.toks) { s with toks:=s.toks+1 }->wpAny (model X.prog X.w) X.A (f (.int i t)) Q E s) :
  UnR X f (rU fun i=>.int (g i)):=by
 intro pins s σ H x v Q I rx h
 obtain ⟨i,rfl,q⟩:=h
 obtain ⟨t,rfl⟩:=rx
 exact rule i t s _ _ ⟨.int (g i),H,I.tok _,⟨_,rfl⟩,q⟩
theorem zm5:UnR X (unaryOp .USub) (rU fun i=>.int (-i)):=unI fun _ _ _ _ _ q=>neg_int q
end
section
variable {X:Cx}{a b c:Expr}{ta tb tc:TE}{pos:Pos}
theorem zkd{pins:List (Addr × Obj)}{σ:St}{H:Hp}{s:Shared}{Q:VK}{k k':Bool}(I:Inv X pins σ H s)(q:Q (.bl k) H)(e:k=k'):EP X pins σ Q (.bool k') s:=by
 subst e
 exact ⟨.bl k,H,I,rfl,q⟩
theorem op_lt:OpR X (compareOp .Lt) (rI0 fun i j=>.bl (decide (i < j))):=opB0 fun _ _ _ _ _ _ _ q=>lt_int q
theorem op_le:OpR X (compareOp .LtE) (rI0 fun i j=>.bl (decide (i<=j))):=opB0 fun _ _ _ _ _ _ _ q=>le_int q
theorem op_gt:OpR X (compareOp .Gt) (rI0 fun i j=>.bl (decide (j < i))):=opB0 fun _ _ _ _ _ _ _ q=>gt_int q
theorem zf0:OpR X (compareOp .Lt) (fun x y H Q=>∃ i j,x=.str i/\y=.str j/\Q (.bl (decide (i.cps.toList < j.cps.toList))) H):=by
 intro pins s σ H x y v u Q I rx ry h
 obtain ⟨i,j,rfl,rfl,q⟩:=h
 obtain ⟨t,rfl⟩:=rx
 obtain ⟨t',rfl⟩:=ry
 exact lt_str (zkd I q rfl)
theorem zmQ:OpR X (compareOp .Is) (fun x y H Q=>y=.non/\Q (.bl (decide (x=.non))) H):=by
 intro pins s σ H x y v u Q I rx ry h
 obtain ⟨rfl,q⟩:=h
 cases ry
 refine is_none_gen (zkd I q ?_)
 cases x<;>first
  | (cases rx; rfl)
  | (obtain ⟨t,rfl⟩:=rx; rfl)
theorem OpR.or{f:Value->Value->Sem Value}{r r':R2}(h:OpR X f r)(h':OpR X f r'):OpR X f (fun x y H Q=>r x y H Q∨r' x y H Q):=by
 intro pins s σ H x y v u Q I rx ry q
 rcases q with q | q
 ·exact h pins s σ H x y v u Q I rx ry q
 ·exact h' pins s σ H x y v u Q I rx ry q
theorem zd8(b:Expr){op:CmpOp}(h:op≠.In:=by decide)(h2:op≠.NotIn:=by decide):behindInMarks op b=false:=by
 have e1:(op == CmpOp.In)=false:=by cases op<;>first | rfl | exact absurd rfl h
 have e2:(op == CmpOp.NotIn)=false:=by cases op<;>first | rfl | exact absurd rfl h2
 cases b<;>simp [behindInMarks,e1,e2]
theorem zfG{op:CmpOp}{r:R2}(ho:OpR X (compareOp op) r)(ha:PE X a ta)(hb:PE X b tb)(hm:behindInMarks op b=false):PE X (.Compare a [op] [b] pos) (tOp r ta tb):=by
 intro pins s σ H Q I h
 exact wpAny_Compare1 (binT ha hb I h fun v u s2 x y H2 I2 rx ry q=>ho pins s2 σ H2 x y v u Q I2 rx ry q) hm
def tTest(t:TE):TT:=fun σ H Q=>t σ H fun x H'=>∃ k,x=.bl k/\Q k H'
theorem zcd{op:CmpOp}{r:R2}(ho:OpR X (compareOp op) r)(ha:PE X a ta)(hb:PE X b tb)(hm:behindInMarks op b=false):PT X (.Compare a [op] [b] pos) (tTest (tOp r ta tb)):=by
 intro pins s σ H Q I h
 refine wpAny_isTrue_Compare1 (thn (ha pins s σ H _ I h) fun v s1 ⟨x,H1,I1,r1,q1⟩=>thn (hb pins s1 σ H1 _ I1 q1) fun u s2 ⟨y,H2,I2,r2,q2⟩=>
  thn (ho pins s2 σ H2 x y v u _ I2 r1 r2 q2) fun c s3 ⟨z,H3,I3,r3,k,e,q3⟩=>?_) hm
 subst e
 cases r3
 exact wpAny_truthy_bool ⟨H3,I3,q3⟩
def zjN(r r':R2)(ta tb tc:TE):TE:=fun σ H Q=>ta σ H fun x H1=>tb σ H1 fun y H2=>r x y H2 fun z H3=>∃ k,z=.bl k /\
 (if k=true then tc σ H3 fun w' H4=>r' y w' H4 Q else Q (.bl false) H3)
theorem zj9{op op':CmpOp}{r r':R2}(ho:OpR X (compareOp op) r)(ho':OpR X (compareOp op') r')(ha:PE X a ta)(hb:PE X b tb)(hc:PE X c tc)
  (hm:lastMarks [op,op'] [b,c]=false:=by with_unfolding_all rfl):PT X (.Compare a [op,op'] [b,c] pos) (tTest (zjN r r' ta tb tc)):=by
 intro pins s σ H Q I h
 refine isTrue_chain (thn (ha pins s σ H _ I h) fun v s1 ⟨x,H1,I1,r1,q1⟩=>test_link (thn (hb pins s1 σ H1 _ I1 q1) fun u s2 ⟨y,H2,I2,r2,q2⟩=>
  thn (ho pins s2 σ H2 x y v u _ I2 r1 r2 q2) fun d s3 ⟨z,H3,I3,r3,k,e,q3⟩=>?_)) hm
 subst e
 cases r3
 refine wpAny_truthy_bool ?_
 cases k with
 | false=>
  obtain ⟨k',e',q'⟩:=q3
  cases e'
  exact ite_ff ⟨H3,I3,q'⟩
 | true=>
  refine ite_tt (test_last (thn (hc pins s3 σ H3 _ I3 q3) fun w' s4 ⟨z',H4,I4,r4,q4⟩=>thn (ho' pins s4 σ H4 y z' u w' _ I4 r2 r4 q4) fun d' s5 h_=>?_)); obtain ⟨z2,H5,I5,r5,k2,e2,q5⟩:=h_
  subst e2
  cases r5
  exact wpAny_truthy_bool ⟨H5,I5,q5⟩
def TruV(K:PySem.W.Frag)(x:V)(H:Hp)(k:Bool):Prop:=
 match x with
 | .non=>k=false
 | .bl b=>k=b
 | .int i=>k=(i != 0)
 | .str y=>y.length<=sizeLine/\k=((y.length:Int) != 0)
 | .byt y=>y.size<=sizeLine/\k=((y.size:Int) != 0)
 | .ref p=>(∃ xs,SqL K H p xs/\k=!xs.isEmpty)∨(∃ xs,SqT K H p xs/\k=!xs.isEmpty)∨∃ kvs,H p=some (.dK kvs)/\k=!kvs.isEmpty
 | _=>False
theorem zh3{κ:Type}{kvs:List (κ × V)}{vs:List (κ × Value)}(r:KV kvs vs):(!vs.isEmpty)=!kvs.isEmpty:=by
 cases r<;>rfl
theorem ze5{xs:List V}{its:List Value}(r:Vals xs its):(!its.toArray.isEmpty)=!xs.isEmpty:=by
 cases r<;>simp
theorem zdA:(sizeLine:Nat) < 2 ^ 63:=by rw [sizeLine_eq]; decide
theorem zm7:TruR X (fun x H Q=>∃ k,TruV X.K x H k/\Q k H):=by
 intro pins s σ H x v Q I rx h
 obtain ⟨k,e,q⟩:=h
 have hl:=zdA
 have hs:sizeLine=16777216:=sizeLine_eq
 cases x with
 | non=>
  cases rx
  have e':k=false:=e
  subst e'
  exact truthy_none ⟨H,I,q⟩
 | bl b=>
  cases rx
  have e':k=b:=e
  subst e'
  exact wpAny_truthy_bool ⟨H,I,q⟩
 | int i=>
  obtain ⟨t,rfl⟩:=rx
  have e':k=(i != 0):=e
  subst e'
  exact PySem.P.truthy_int ⟨H,I,q⟩
 | str y=>
  obtain ⟨t,rfl⟩:=rx
  obtain ⟨hy,e'⟩:y.length<=sizeLine/\k=((y.length:Int) != 0):=e
  subst e'
  exact PySem.P.truthy_str (by lia) ⟨H,I.tok _,q⟩
 | byt y=>
  obtain ⟨t,rfl⟩:=rx
  obtain ⟨hy,e'⟩:y.size<=sizeLine/\k=((y.size:Int) != 0):=e
  subst e'
  exact PySem.W.truthy_bytes (by lia) ⟨H,I.tok _,q⟩
 | ref p=>
  cases rx
  have e':(∃ xs,SqL X.K H p xs/\k=!xs.isEmpty)∨(∃ xs,SqT X.K H p xs/\k=!xs.isEmpty)∨∃ kvs,H p=some (.dK kvs)/\k=!kvs.isEmpty:=e
  rcases e' with ⟨xs,hx,e'⟩ | ⟨xs,hx,e'⟩ | ⟨kvs,hx,e'⟩
  ·subst e'
   obtain ⟨its,r,pl,hz⟩:=I.list hx
   have hlen:=r.length
   exact wpAny_truthy_list pl.isList (by simp only [List.size_toArray]; lia) ⟨H,I.tok _,by rw [ze5 r]; exact q⟩
  ·subst e'
   obtain ⟨its,r,pl,hz⟩:=I.tuple hx
   have hlen:=r.length
   exact truthy_tuple pl (by simp only [List.size_toArray]; lia) ⟨H,I.tok _,by rw [ze5 r]; exact q⟩
  ·subst e'
   obtain ⟨hz,hS,vs,r,m⟩:kvs.length<=sizeLine/\(p == sysModules)=false/\∃ vs,KV kvs vs/\s.heap.DictOf (zaE X.prog X.w) p vs:=I.hok p _ hx
   have hlen:kvs.length=vs.length:=Paired.length r
   exact wpAny_truthy_dict hS m (by lia) ⟨H,I.tok _,by rw [zh3 r]; exact q⟩
 | _=>exact (show False from e).elim
theorem zj8(ha:PE X a ta)(he:∀ whole,isTrue a X.env whole=(do let v <-whole; standAt a.pos; holding [v] (truthy v))) :
  PT X a (fun σ H Q=>ta σ H fun x H'=>∃ k,TruV X.K x H' k/\Q k H'):=by
 intro pins s σ H Q I h
 exact isTrue_plain (thn (ha pins s σ H _ I h) fun v s1 ⟨x,H1,I1,r1,q1⟩=>zm7 pins s1 σ H1 x v Q I1 r1 q1) (he _)
theorem zgU:OpR X (binaryOp .Add) (fun x y H Q=>∃ i j,x=.str i/\y=.str j/\i.length+j.length<=sizeLine/\Q (.str (i++j)) H):=by
 intro pins s σ H x y v u Q I rx ry h
 obtain ⟨i,j,rfl,rfl,hz,q⟩:=h
 obtain ⟨t,rfl⟩:=rx
 obtain ⟨t',rfl⟩:=ry
 exact add_str (fun t' tk=>⟨.str (i++j),H,I.tok _,⟨_,rfl⟩,q⟩) hz
theorem vals1{x:V}{us:List Value}(r:Vals [x] us):∃ u,us=[u]/\RelV x u:=by
 cases r with
 | cons r1 r2=>cases r2; exact ⟨_,rfl,r1⟩
theorem vals2{x y:V}{us:List Value}(r:Vals [x,y] us):∃ u w',us=[u,w']/\RelV x u/\RelV y w':=by
 cases r with
 | cons r1 r2=>
  cases r2 with
  | cons r3 r4=>cases r4; exact ⟨_,_,rfl,r1,r3⟩
theorem ziC(hc:X.calm=true):CallR X (.builtin "max") (fun xs H Q=>∃ i j,xs=[.int i,.int j]/\Q (.int (if j > i then j else i)) H):=by
 intro pins s σ H xs us Q I r h
 obtain ⟨i,j,rfl,q⟩:=h
 obtain ⟨u,w',rfl,⟨t,rfl⟩,⟨t',rfl⟩⟩:=vals2 r
 refine max_two_ints (I.ok.hd hc) fun h' tk k=>⟨_,H,I.kept k,?_,q⟩
 by_cases hj:j > i
 ·rw [if_pos hj,if_pos hj]; exact ⟨_,rfl⟩
 ·rw [if_neg hj,if_neg hj]; exact ⟨_,rfl⟩
theorem ziB(hc:X.calm=true):CallR X (.builtin "min") (fun xs H Q=>∃ i j,xs=[.int i,.int j]/\Q (.int (if j < i then j else i)) H):=by
 intro pins s σ H xs us Q I r h
 obtain ⟨i,j,rfl,q⟩:=h
 obtain ⟨u,w',rfl,⟨t,rfl⟩,⟨t',rfl⟩⟩:=vals2 r
 refine min_two_ints (I.ok.hd hc) fun h' tk k=>⟨_,H,I.kept k,?_,q⟩
 by_cases hj:j < i
 ·rw [if_pos hj,if_pos hj]; exact ⟨_,rfl⟩
 ·rw [if_neg hj,if_neg hj]; exact ⟨_,rfl⟩
end
end L2
namespace L2
open PySem PySem.Spec PyProof.Rows
structure ObjM (h:Heap) (x dx C:Addr) (mA:Str->Option Value):Prop where
 obj:h.get? x=some (PySem.W.instObj C dx)
 ns:h.Ns1 dx mA
 ne:dx≠x
theorem zhW{h:Heap}{dx:Addr}{mA:Str->Option Value}(n:h.Ns1 dx mA):∃ od,h.get? dx=some od/\∀ name,PySem.W.lookIn name od=some (mA name):=by
 obtain ⟨o,es,ep,ho,hd,hk,_,hm⟩:=n
 refine ⟨o,ho,fun name=>?_⟩
 have e:=hm name
 unfold nsFind findBy at e
 rw [<-Array.find?_toList] at e
 unfold PySem.W.lookIn
 rw [hd]
 dsimp only
 split
 ·rename_i y q
  rw [q] at e
  exact congrArg some e
 ·rename_i q
  rw [q] at e
  have a:es.toList.any (·.refKey)=false:=by
   rw [List.any_eq_false]
   intro y hy
   obtain ⟨z,t,hkey⟩:=hk y (Array.mem_toList_iff.mp hy)
   simp [DictEntry.refKey,hkey]
  have a':¬ es.toList.any (·.refKey)=true:=by rw [a]; exact Bool.false_ne_true
  rw [if_neg a']
  exact congrArg some e
theorem ObjM.look{h:Heap}{x dx C:Addr}{mA:Str->Option Value}(I:ObjM h x dx C mA):∃ od,PySem.W.InstAt h x (PySem.W.instObj C dx) C (some od)/\∀ name,PySem.W.lookIn name od=some (mA name):=
 let ⟨od,ho,hl⟩:=zhW I.ns
 ⟨od,⟨I.obj,rfl,rfl,ho⟩,hl⟩
theorem RelO.some_of{v:V}{o:Option Value}(r:RelO (some v) o):∃ u,o=some u/\RelV v u:=by
 cases o with
 | none=>exact (show False from r).elim
 | some u=>exact ⟨u,rfl,r⟩
section
variable {P:Program}{w:World}{H H':Hp}{h h':Heap}{a C dx:Addr}{fs fs':List (Str × V)}
theorem zlg(hok:HOk P w H h)(e:H a=some (.ins C dx fs)):∃ mA,ObjM h a dx C mA/\(∀ f,RelO (fs.lookup f) (mA f))/\PySem.Within mA (fs.map (·.1))/\fs.length<=1000/\H dx=some (.own a):=by
 obtain ⟨d,z,ne,ob,mA,n,r,q⟩:=(show ObjOk P w H h a (.ins C dx fs) from hok a _ e)
 exact ⟨mA,⟨ob,n,ne⟩,r,q,z,d⟩
end
structure Cls (K:PySem.W.Frag) (C:Addr):Prop where
 pg:PySem.W.plainGet K C Str.empty=true
 hd:PySem.W.hasDictIn K C=true
 po:PySem.W.plainOver K C=true
 sa:PySem.W.findIn K (.ref C) "__setattr__"=some (some (.builtin "object.__setattr__"))
theorem Cls.get{K:PySem.W.Frag}{C:Addr}(c:Cls K C)(f:Str):PySem.W.plainGet K C f=true:=c.pg
section
variable {X:Cx}{pins:List (Addr × Obj)}{σ:St}{H:Hp}{s:Shared}{A:Around}{E:Value->Shared->Prop}{Q:Value->Shared->Prop}{c:Value}{b:Bool}
inductive TyOf (K:PySem.W.Frag) (H:Hp):V->Value->Prop where
 | non:TyOf K H .non (.type "NoneType")
 | bl (x:Bool):TyOf K H (.bl x) (.type "bool")
 | int (i:Int):TyOf K H (.int i) (.type "int")
 | str (x:Str):TyOf K H (.str x) (.type "str")
 | flt (x:UInt64):TyOf K H (.flt x) (.type "float")
 | lst {a:Addr} {xs:List V} (e:H a=some (.lst xs)):TyOf K H (.ref a) (.type "list")
 | frz {a:Addr} {o:Obj} {xs:List V} (e:H a=some (.frz o (.lst xs))):TyOf K H (.ref a) (.type "list")
 | tup {a:Addr} {xs:List V} (e:H a=some (.tup xs)):TyOf K H (.ref a) (.type "tuple")
 | dK {a:Addr} {kvs:List (Key × V)} (e:H a=some (.dK kvs)):TyOf K H (.ref a) (.type "dict")
 | dT {a:Addr} {kvs:List (List Key × V)} (e:H a=some (.dT kvs)):TyOf K H (.ref a) (.type "dict")
 | ins {a C dx:Addr} {fs:List (Str × V)} (e:H a=some (.ins C dx fs)) (cl:Cls K C) (ha:PySem.W.findIn K (.ref C) "__class__"=some (some (.builtin "object.__class__")))
   (hn:PySem.W.specialIn K (.builtin "object.__class__") "__get__"=some (some (.builtin "getset_descriptor.__get__"))) (htk:PySem.W.takesIn K (.builtin "object.__class__")=some true)
   (hm:PySem.W.mroIn K C (.type "object")=some true):TyOf K H (.ref a) (.ref C)
theorem zib{x:V}{u t:Value}(I:Inv X pins σ H s)(rx:RelV x u)(ty:TyOf X.K H x t)(e:PySem.W.kitOne X.K t c=some b)(h:∀ tk,Q (.bool b) { s with toks:=tk }) :
  wpAny (model X.prog X.w) A (call (.builtin "isinstance") [u,c]) Q E s:=by
 cases ty with
 | non=>cases (show u=Value.none from rx); exact PySem.W.kia_one PySem.W.kitx_none I.kIn True.intro e (fun z=>nomatch z) h
 | bl y=>cases (show u=Value.bool y from rx); exact PySem.W.kia_one PySem.W.kitx_bool I.kIn True.intro e (fun z=>nomatch z) h
 | int i=>obtain ⟨t,q⟩:=(show ∃ t,u=Value.int i t from rx); cases q; exact PySem.W.kia_one PySem.W.kitx_int I.kIn True.intro e (fun z=>nomatch z) h
 | str y=>obtain ⟨t,q⟩:=(show ∃ t,u=Value.str y t from rx); cases q; exact PySem.W.kia_one PySem.W.kitx_str I.kIn True.intro e (fun z=>nomatch z) h
 | flt y=>obtain ⟨t,q⟩:=(show ∃ t,u=Value.float y t from rx); cases q; exact PySem.W.kia_one PySem.W.kitx_float I.kIn True.intro e (fun z=>nomatch z) h
 | @lst a xs ea=>
  cases (show u=Value.ref a from rx)
  obtain ⟨_,_,n,_,h1⟩:=(show ObjOk X.prog X.w H s.heap a (.lst xs) from I.hok a _ ea)
  exact PySem.W.kia_one PySem.W.kitx_list I.kIn ⟨_,h1,rfl⟩ e (fun z=>nomatch z) h
 | @frz a ob xs ea=>
  cases (show u=Value.ref a from rx)
  obtain ⟨_,_,_,n,_,h1⟩:=(show ObjOk X.prog X.w H s.heap a (.frz ob (.lst xs)) from I.hok a _ ea)
  exact PySem.W.kia_one PySem.W.kitx_list I.kIn ⟨_,h1,rfl⟩ e (fun z=>nomatch z) h
 | @tup a xs ea=>
  cases (show u=Value.ref a from rx)
  obtain ⟨_,_,_,p⟩:=(show ObjOk X.prog X.w H s.heap a (.tup xs) from I.hok a _ ea)
  obtain ⟨o,h1,h2,_⟩:=p
  exact PySem.W.kia_one PySem.W.kitx_tuple I.kIn ⟨o,h1,h2⟩ e (fun z=>nomatch z) h
 | @dK a kvs ea=>
  cases (show u=Value.ref a from rx)
  obtain ⟨_,_,vs,_,p⟩:=(show ObjOk X.prog X.w H s.heap a (.dK kvs) from I.hok a _ ea)
  obtain ⟨o,es,ep,h1,h2,_⟩:=p
  exact PySem.W.kia_one PySem.W.kitx_dict I.kIn ⟨o,h1,h2.1⟩ e (fun z=>nomatch z) h
 | @dT a kvs ea=>
  cases (show u=Value.ref a from rx)
  obtain ⟨_,_,xs,_,o,es,ep,h1,h2,_⟩:=(show ObjOk X.prog X.w H s.heap a (.dT kvs) from I.hok a _ ea)
  exact PySem.W.kia_one PySem.W.kitx_dict I.kIn ⟨o,h1,h2.1⟩ e (fun z=>nomatch z) h
 | @ins a C dx fs ea cl ha hn htk hm=>
  cases (show u=Value.ref a from rx)
  obtain ⟨mA,O,_⟩:=zlg I.hok ea
  obtain ⟨od,J,_⟩:=O.look
  exact PySem.W.kia_one (PySem.W.kitx_own (cl.get _) cl.hd ha hn htk hm) I.kIn J e (fun z=>nomatch z) h
end
end L2
namespace L2
open PySem PySem.Spec PyProof.Rows
structure Room (k:Nat) (A:Around):Prop where
 hd:A.handled=none
 dp:A.depth+3*k+5 < recursionLimit
 un:A.units+16*k+200 < cLine
theorem Room.mono{j k:Nat}{A:Around}(r:Room k A)(h:j<=k):Room j A:=⟨r.hd,by have:=r.dp; lia,by have:=r.un; lia⟩
theorem Room.deeper{k:Nat}{A:Around}(r:Room (k+1) A)(env:Env):Room k (A.deeper env):=
 ⟨r.hd,by have:=r.dp; show A.depth+1+3*k+5 < _; lia,by have:=r.un; show A.units+3+16*k+200 < _; lia⟩
theorem Room.depth{k:Nat}{A:Around}(r:Room k A):A.depth < recursionLimit:=by have:=r.dp; lia
theorem Room.units{k:Nat}{A:Around}(r:Room k A):A.units+64 < cLine:=by have:=r.un; lia
def tNil:TA:=fun _ H Q=>Q [] H
def tCons(ta:TE)(tr:TA):TA:=fun σ H Q=>ta σ H fun x H1=>tr σ H1 fun xs H2=>Q (x::xs) H2
section
variable {X:Cx}{e:Expr}{es:List Expr}{te:TE}{t:TA}{pos:Pos}
theorem zd7:PA X [] tNil:=fun _ _ _ _ H Q I h=>Calls.spliced_nil ⟨[],H,I,.nil,h⟩
theorem zaZ(ha:PE X e te)(hr:PA X es t)(hs:starEach (e::es) X.env=(false,eval e X.env)::starEach es X.env:=by rfl):PA X (e::es) (tCons te t):=by
 intro pos pins s σ H Q I h
 rw [hs]
 show wpAny _ _ (spliced ((false,eval e X.env)::backTo pos (starEach es X.env))) _ _ s
 refine Calls.spliced_cons (thn (ha pins s σ H _ I h) fun u s1 h_=>?_); obtain ⟨x,H1,I1,r1,q1⟩:=h_
 exact thn (hr pos pins s1 σ H1 _ I1 q1) fun us s2 ⟨xs,H2,I2,r2,q2⟩=>⟨x::xs,H2,I2,.cons r1 r2,q2⟩
def tTup(t:TA):TE:=fun σ H Q=>t σ H fun xs H1=>xs.length<=sizeLine/\∀ p,H1 p=none->Q (.ref p) (upd H1 p (.tup xs))
def tLst(t:TA):TE:=fun σ H Q=>t σ H fun xs H1=>xs.length<=sizeLine/\∀ p,H1 p=none->Q (.ref p) (upd H1 p (.lst xs))
theorem zjZ{x1}(h:PA X es t):PE X (.Tuple es x1 pos) (tTup t):=by
 intro pins s σ H Q I hq
 refine wpAny_Tuple_spliced (thn (h pos pins s σ H _ I hq) fun us s1 ⟨xs,H1,I1,r,z,q⟩=>⟨by rw [<-r.length]; exact z,?_⟩)
 have hf:H1 s1.heap.objs.size=none:=I1.hok.fresh (Nat.le_refl _)
 refine ⟨.ref s1.heap.objs.size,upd H1 s1.heap.objs.size (.tup xs),I1.laid (t':=s1.toks) (fun b u e=>Heap.get?_push_of_some _ e) (Nat.le_refl _) ?_,rfl,q _ hf⟩
 exact ⟨z,us,r,⟨_,Heap.get?_push_size _ rfl,rfl,_,rfl⟩⟩
theorem zmI(h:PA X es t):PE X (.List es pos) (tLst t):=by
 intro pins s σ H Q I hq
 refine wpAny_List_spliced (thn (h pos pins s σ H _ I hq) fun us s1 ⟨xs,H1,I1,r,z,q⟩=>⟨by rw [<-r.length]; exact z,?_⟩)
 have hf:H1 s1.heap.objs.size=none:=I1.hok.fresh (Nat.le_refl _)
 refine ⟨.ref s1.heap.objs.size,upd H1 s1.heap.objs.size (.lst xs),I1.laid (t':=s1.toks) (fun b u e=>Heap.get?_push_of_some _ e) (Nat.le_refl _) ?_,rfl,q _ hf⟩
 exact ⟨z,us,0,r,Heap.get?_push_size _ rfl⟩
end
abbrev Sp:=List V->Hp->VK->XK->Prop
abbrev CXT:=List Env->Hp->Shared->XK->Value->Shared->Prop
structure Env0 (P:Program) (w:World) (K:PySem.W.Frag) (mg:Str->Option Value) (base:Heap) (A:Around) (outer:List Env) (s:Shared) (H:Hp):Prop where
 frames:A.frames=some outer
 mod:Mod K mg base
 bs:∀ b o,base.get? b=some o->s.heap.get? b=some o/\H b=none
 bsz:base.objs.size<=s.heap.objs.size
 funs:s.heap.FunFrames base outer
 frf:∀ b∈frs outer,H b=none
 hok:HOk P w H s.heap
 bare:AllBare s.gens
def CE(outer:List Env)(P:Program)(w:World)(H:Hp)(s:Shared)(Q:VK)(u:Value)(s':Shared):Prop:=
 ∃ v H',s'.os=s.os/\AllBare s'.gens/\Un (frs outer) [] H H' s.heap s'.heap/\HOk P w H' s'.heap/\RelV v u/\Q v H'
def CR(CX:CXT)(outer:List Env)(P:Program)(w:World)(H:Hp)(s:Shared)(Q:VK)(E:XK)(r:Result)(s':Shared):Prop:=
 match r with
 | .ok (.ret u)=>CE outer P w H s Q u s'
 | .ok _=>False
 | .error e=>CX outer H s E e s'
structure FnOk (P:Program) (w:World) (K:PySem.W.Frag) (mg:Str->Option Value) (base:Heap) (CX:CXT) (k:Nat) (f:Addr) (fd:FuncData) (ps:List Str) (sp:Sp):Prop where
 len:∀ vs H Q E,sp vs H Q E->vs.length=ps.length
 run:∀ (A:Around) (outer:List Env) (s:Shared) (H:Hp) (args:Args) (us:List Value) (vs:List V) (Q:VK) (E:XK),Room k A->Env0 P w K mg base A outer s H->BindsTo s fd args (ps.zip us)->Vals vs us->sp vs H Q E->
  codeAny (model P w) A (.call (.ref f) args) (CR CX outer P w H s Q E) s
theorem FnOk.mono{P:Program}{w:World}{K:PySem.W.Frag}{mg:Str->Option Value}{base:Heap}{CX:CXT}{j k:Nat}{f:Addr}{fd:FuncData}{ps:List Str}{sp:Sp}(F:FnOk P w K mg base CX j f fd ps sp)(h:j<=k) :
  FnOk P w K mg base CX k f fd ps sp:=⟨F.len,fun A outer s H args us vs Q E hr=>F.run A outer s H args us vs Q E (hr.mono h)⟩
theorem FnOk.imp{P:Program}{w:World}{K:PySem.W.Frag}{mg:Str->Option Value}{base:Heap}{CX:CXT}{k:Nat}{f:Addr}{fd:FuncData}{ps:List Str}{sp sp':Sp}(F:FnOk P w K mg base CX k f fd ps sp)
  (h:∀ vs H Q E,sp' vs H Q E->sp vs H Q E):FnOk P w K mg base CX k f fd ps sp':=
 ⟨fun vs H Q E q=>F.len vs H Q E (h _ _ _ _ q),fun A outer s H args us vs Q E hr he hb hv hs=>F.run A outer s H args us vs Q E hr he hb hv (h _ _ _ _ hs)⟩
section
variable {X:Cx}{pins:List (Addr × Obj)}{σ:St}{H:Hp}{s s':Shared}
theorem Inv.env0(I:Inv X pins σ H s):Env0 X.prog X.w X.K X.mg X.base X.A X.stack s H:=
 ⟨I.ok.frames,I.ok.mod,I.bs,Nat.le_trans I.ok.bsz I.sz,I.stack,I.stkFree,I.hok,I.bare⟩
theorem Inv.after{Q:VK}{u:Value}(I:Inv X pins σ H s)(h:CE X.stack X.prog X.w H s Q u s'):EP X pins σ Q u s':=by
 obtain ⟨v,H',os,bare,un,hok,r,q⟩:=h
 obtain ⟨hh,g,d,t,os'⟩:=s'
 obtain rfl:os'=s.os:=os
 exact ⟨v,H',I.call (h':=hh) (g':=g) (d':=d) (t':=t) (ch:=[]) un hok bare (fun b z=>absurd z (by simp)),r,q⟩
end
def tCall(sp:Sp)(dvs:List V)(E:XK)(t:TA):TE:=fun σ H Q=>t σ H fun vs H1=>sp (vs++dvs) H1 Q E
def Binds(K:PySem.W.Frag)(fd:FuncData)(ps:List Str)(ds:List Value):Prop:=
 ∀ (s:Shared) (us:List Value),K.In s.heap->(us++ds).length=ps.length->BindsTo s fd ⟨us,[]⟩ (ps.zip (us++ds))
theorem Binds.all{K:PySem.W.Frag}{fd:FuncData}{ps:List Str}(h:∀ us:List Value,us.length=ps.length->bindArgs fd ⟨us,[]⟩=pure (ps.zip us)):Binds K fd ps []:=fun s us _ hl=>by
 rw [List.append_nil] at hl ⊢
 exact .of_eq (h us hl)
def ziJ(CX:CXT)(X:Cx)(E:XK):Prop:=∀ (pins:List (Addr × Obj)) (σ:St) (H:Hp) (s:Shared) (e:Value) (s':Shared),Inv X pins σ H s->CX X.stack H s E e s'->X.xe e s'
section
variable {X:Cx}{CX:CXT}{k:Nat}{f C:Addr}{fd:FuncData}{ps:List Str}{sp:Sp}{dvs:List V}{ds:List Value}{E:XK}{x m:Str}{p pos apos:Pos}{e o:Expr}{es:List Expr}{ta:TE}{t:TA}
theorem zmm{pins:List (Addr × Obj)}{σ:St}{H:Hp}{s:Shared}{Q:VK}{us:List Value}{vs:List V}(F:FnOk X.prog X.w X.K X.mg X.base CX k f fd ps sp)(hr:Room k X.A)(hb:Binds X.K fd ps ds)(hd:Vals dvs ds)(hx:ziJ CX X E)
  (I:Inv X pins σ H s) (r:Vals vs us) (h:sp (vs++dvs) H Q E):wpAny (model X.prog X.w) X.A (call (.ref f) us) (EP X pins σ Q) X.xe s:=by
 have r2:Vals (vs++dvs) (us++ds):=r.append hd
 have hl:(us++ds).length=ps.length:=by rw [<-r2.length]; exact F.len _ _ _ _ h
 refine wpAny_call (codeAny_mono (F.run X.A X.stack s H ⟨us,[]⟩ (us++ds) (vs++dvs) Q E hr I.env0 (hb s us I.kIn hl) r2 h) fun r s' hq=>?_)
 cases r with
 | error e=>exact hx pins σ H s e s' I hq
 | ok fl=>
  cases fl with
  | ret u=>exact I.after hq
  | next=>exact False.elim hq
  | brk=>exact False.elim hq
  | cont=>exact False.elim hq
theorem zcQ(F:FnOk X.prog X.w X.K X.mg X.base CX k f fd ps sp)(hr:Room k X.A)(hg:Gl X x)(hm:X.mg x=some (.ref f))(hk:PySem.W.keepIn X.K (.ref f)=true)(hb:Binds X.K fd ps ds)(hd:Vals dvs ds)(hx:ziJ CX X E)
  (ha:PA X (e::es) t) (hdb:(x == ("__debug__":Str))=false:=by decide) (he:starEach (e::es) X.env=(false,eval e X.env)::starEach es X.env:=by rfl) (hpl:(backTo pos (starEach es X.env)).any (·.1)=false:=by rfl) :
  PE X (.Call (.Name x p) (e::es) [] pos) (tCall sp dvs E t):=by
 intro pins s σ H Q I h
 refine wpAny_Call_Name_kw (zlc I hg hm ?_ hdb)
 refine PySem.W.callWith_K (h₀:=X.base) I.ok.mod.kin hk (thn (ha pos pins s σ H _ I h) fun us s1 ⟨vs,H1,I1,r,q⟩=>⟨I1.kIn,?_⟩) he hpl
 exact zmm F hr hb hd hx I1 r q
end
structure FnScope (N P:List Str) (sc:Scope):Prop where
 kind:sc.kind=.function
 co:sc.isCoroutine=false
 gen:sc.isGenerator=false
 nd:N.Nodup
 pre:N.take P.length=P
 par:∀ x∈P,sc.names.lookup x=some .local∨sc.names.lookup x=some .cell
 nofree:∀ y∈sc.names,y.2≠.free
theorem zfp{kindOf:Str->Option NameKind}{x:Str}:∀ {binds:List (Str × Value)} {m:Str->Option Value},(∀ v,(x,v)∉binds)->bindL kindOf binds m x=m x
 | [],_,_=>rfl
 | (n,v)::r,m,h=>by
  unfold bindL
  rw [zfp fun w hw=>h w (List.mem_cons_of_mem _ hw)]
  split
  ·have:x≠n:=by rintro rfl; exact h v List.mem_cons_self
   simp [this]
  ·rfl
theorem zfr{kindOf:Str->Option NameKind}{x:Str}:∀ {binds:List (Str × Value)} {m:Str->Option Value},(∀ v,(x,v)∉binds)->bindC kindOf binds m x=m x
 | [],_,_=>rfl
 | (n,v)::r,m,h=>by
  unfold bindC
  rw [zfr fun w hw=>h w (List.mem_cons_of_mem _ hw)]
  split
  ·rfl
  ·have:x≠n:=by rintro rfl; exact h v List.mem_cons_self
   simp [this]
theorem zfq{kindOf:Str->Option NameKind}{x:Str}{v:Value}:∀ {P:List Str} {vs:List Value} {i:Nat} {m:Str->Option Value},P.Nodup->P[i]?=some x->vs[i]?=some v->kindOf x=some .local->
  bindL kindOf (P.zip vs) m x=some v
 | [],_,_,_,_,h,_,_=>by simp at h
 | _::_,[],_,_,_,_,h,_=>by simp at h
 | p::P,w::vs,0,m,nd,h1,h2,hk=>by
  simp at h1 h2; subst h1; subst h2
  show bindL kindOf ((p,w)::P.zip vs) m p=_
  unfold bindL
  rw [zfp fun v hv=>(List.nodup_cons.mp nd).1 (List.of_mem_zip hv).1,if_pos hk]
  simp
 | p::P,w::vs,i+1,m,nd,h1,h2,hk=>by
  show bindL kindOf ((p,w)::P.zip vs) m x=_
  unfold bindL
  exact zfq (i:=i) (List.nodup_cons.mp nd).2 (by simpa using h1) (by simpa using h2) hk
theorem zfs{kindOf:Str->Option NameKind}{x:Str}{v:Value}:∀ {P:List Str} {vs:List Value} {i:Nat} {m:Str->Option Value},P.Nodup->P[i]?=some x->vs[i]?=some v->kindOf x≠some .local->
  bindC kindOf (P.zip vs) m x=some v
 | [],_,_,_,_,h,_,_=>by simp at h
 | _::_,[],_,_,_,_,h,_=>by simp at h
 | p::P,w::vs,0,m,nd,h1,h2,hk=>by
  simp at h1 h2; subst h1; subst h2
  show bindC kindOf ((p,w)::P.zip vs) m p=_
  unfold bindC
  rw [zfr fun v hv=>(List.nodup_cons.mp nd).1 (List.of_mem_zip hv).1,if_neg hk]
  simp
 | p::P,w::vs,i+1,m,nd,h1,h2,hk=>by
  show bindC kindOf ((p,w)::P.zip vs) m x=_
  unfold bindC
  exact zfs (i:=i) (List.nodup_cons.mp nd).2 (by simpa using h1) (by simpa using h2) hk
def start(N:List Str)(vs:List V):St:=vs.map some++List.replicate (N.length - vs.length) none
def cxOf(CX:CXT)(P:Program)(w:World)(K:PySem.W.Frag)(mg:Str->Option Value)(base:Heap)(N:List Str)(qual:Str)(scope:Scope)(f:Addr)(cd:Value)(A:Around)(outer:List Env)(s:Shared)(H:Hp)(E:XK):Cx where
 prog:=P
 w:=w
 K:=K
 mg:=mg
 base:=base
 A:=A.deeper (envOfC qual scope s.heap.objs.size f cd)
 N:=N
 s₀:=s
 H₀:=H
 env:=envOfC qual scope s.heap.objs.size f cd
 outer:=outer
 stack:=envOfC qual scope s.heap.objs.size f cd::outer
 ex:=[]
 calm:=true
 fn:=fun _=>true
 pn:=[]
 xe:=fun e s'=>wpAny (model P w) (A.deeper (envOfC qual scope s.heap.objs.size f cd)) (leaving (envOfC qual scope s.heap.objs.size f cd) e) (fun _ s''=>CX outer H s E e s'') (fun e' s''=>CX outer H s E e' s'') s'
theorem zgH{sc:Scope}{n:Nat}{x:Str}(h:sc.names.lookup x=some .cell):∃ c,(cellsFrom n sc.names []).lookup x=some c:=by
 have q:=PySem.W.cellsFrom_some sc.names n [] (.inl h)
 exact Option.isSome_iff_exists.mp q
theorem zid{CX:CXT}{P:Program}{w:World}{K:PySem.W.Frag}{mg:Str->Option Value}{base:Heap}{N ps:List Str}{qual:Str}{scope:Scope}{f:Addr}{cd:Value}{A:Around}{outer:List Env}{s s1:Shared}{H:Hp}{E:XK}{us:List Value}{vs:List V}
  (S:FnScope N ps scope) (hd:A.handled=none) (e0:Env0 P w K mg base A outer s H) (hl:vs.length=ps.length) (r:Vals vs us)
  (x:InCallC s s.heap.objs.size (bindL (envOfC qual scope s.heap.objs.size f cd).kindOf (ps.zip us) fun _=>none) (cellsFrom (s.heap.objs.size+1) scope.names []) (bindC (envOfC qual scope s.heap.objs.size f cd).kindOf (ps.zip us) fun _=>none) s1) :
  Inv (cxOf CX P w K mg base N qual scope f cd A outer s H E) [] (start N vs) H s1:=by
 have hpl:ps.length<=N.length:=by have:=congrArg List.length S.pre; rw [List.length_take] at this; lia
 obtain ⟨h1,tk,rfl,hk⟩:=x.done
 have noA:∀ b:Addr,b∉(cxOf CX P w K mg base N qual scope f cd A outer s H E).ex:=fun b z=>absurd (show b∈([]:List Addr) from z) (by simp)
 refine ⟨⟨e0.mod,S.kind,rfl,rfl,Nat.le_refl _,fun y z c h1 h2=>?_,fun y hy=>?_,fun y c _ h=>?_,fun _=>hd,Around.frames_deeper e0.frames,.inr ⟨rfl,rfl⟩,fun b z=>absurd z (noA b),e0.bs,e0.bsz,fun b _ _=>noA b,fun b z=>absurd z (noA b),e0.funs,e0.frf⟩,
  rfl,e0.bare,Un.kept hk,⟨_,x.toInCall.ns,fun i y v h1 h2 h3=>?_⟩,fun y c h=>⟨_,x.cell y c h⟩,e0.hok.fresh (Nat.le_refl _),fun y c h=>?_,fun p hp=>absurd (show p∈([]:List (Addr × Obj)) from hp) (by simp),e0.hok.kept hk,?_⟩
 ·exact name_of_addr x.apart (PySem.mem_of_lookup h1) (PySem.mem_of_lookup h2)
 ·have hy:scope.names.lookup y=some .cell∨scope.names.lookup y=some .free:=hy
  rcases hy with hy | hy
  ·exact zgH hy
  ·exact absurd rfl (S.nofree _ (PySem.mem_of_lookup hy))
 ·exact Nat.le_of_lt (x.above y c (PySem.mem_of_lookup h))
 ·have hi:i < vs.length:=by
   unfold start at h2
   by_cases hi:i < vs.length
   ·exact hi
   ·rw [List.getElem?_append_right (by simpa using hi)] at h2
    rw [List.getElem?_replicate] at h2
    split at h2<;>cases h2
  have ha:vs[i]?=some v:=by
   unfold start at h2
   rw [List.getElem?_append_left (by simpa using hi),List.getElem?_map] at h2
   cases e:vs[i]? with
   | none=>rw [e] at h2; cases h2
   | some a=>rw [e] at h2; cases h2; rfl
  obtain ⟨u,hu,rv⟩:=r.get ha
  have hp:ps[i]?=some y:=by
   rw [<-S.pre,List.getElem?_take_of_lt (by lia)]; exact h1
  have ndP:ps.Nodup:=by rw [<-S.pre]; exact S.nd.sublist (List.take_sublist _ _)
  refine ⟨u,rv,?_⟩
  rcases S.par y (List.mem_of_getElem? hp) with k | k
  ·exact .inl ⟨k,zfq ndP hp hu k⟩
  ·obtain ⟨c,e⟩:=zgH (n:=s.heap.objs.size+1) k
   refine .inr ⟨.inl k,c,e,?_⟩
   have q:=x.cell y c e
   rw [zfs ndP hp hu (by show scope.names.lookup y≠_; rw [k]; decide)] at q
   exact q
 ·exact e0.hok.fresh (Nat.le_of_lt (x.above y c (PySem.mem_of_lookup h)))
 ·unfold start
  show _=N.length
  rw [List.length_append,List.length_map,List.length_replicate]
  lia
theorem fn_of{CX:CXT}{P:Program}{w:World}{K:PySem.W.Frag}{mg:Str->Option Value}{base:Heap}{k:Nat}{f:Addr}{name qual:Str}{params:Arguments}{body:List Stmt}{scope:Scope}{dV kV doc pm cdv ct oc:Value}{an od:Option Addr}
  {osl:Array (Option Value)} {N ps:List Str} {sp:Sp} (lk:K.lookup f=some ⟨oc,od,.func (PySem.W.fnOf name qual params body scope dV kV doc pm an cdv ct),osl⟩) (hcd:PySem.W.codeIn K cdv qual=true) (S:FnScope N ps scope)
  (len:∀ vs H Q E,sp vs H Q E->vs.length=ps.length)
  (hbody:∀ (A:Around) (outer:List Env) (s:Shared) (H:Hp) (vs:List V) (Q:VK) (E:XK),Room k (A.deeper (envOfC qual scope s.heap.objs.size f cdv))->sp vs H Q E->
   ∃ t,PSs (cxOf CX P w K mg base N qual scope f cdv A outer s H E) body t/\t { nx:=fun _ H'=>Q .non H',rt:=Q } (start N vs) H) :
  FnOk P w K mg base CX (k+1) f (PySem.W.fnOf name qual params body scope dV kV doc pm an cdv ct) ps sp:=by
 refine ⟨len,fun A outer s H args us vs Q E hr e0 hb r hsp=>?_⟩
 have hl:=len _ _ _ _ hsp
 have KX:K.In s.heap:=e0.mod.kin.keeps fun b o e=>(e0.bs b o e).1
 have lim:s.heap.NoLimit:=e0.mod.nolimit.keeps fun b o e=>(e0.bs b o e).1
 have hkind:∀ y∈ps.zip us,scope.names.lookup y.1=some .local∨(scope.names.lookup y.1=some .cell/\((cellsFrom (s.heap.objs.size+1) scope.names []).lookup y.1).isSome=true):=fun ⟨n,v⟩ hy=>by
  rcases S.par n (List.of_mem_zip hy).1 with q | q
  ·exact .inl q
  ·exact .inr ⟨q,PySem.W.cellsFrom_some _ _ _ (.inl q)⟩
 refine codeAny_call_function hr.depth (KX _ _ lk) rfl S.co S.gen rfl (PySem.W.codeRec_of KX hcd) (hb _ _ _ _ ?_)
 refine wpAny_newFunctionEnv_cells S.kind hkind fun env he s1 x=>?_
 subst he
 refine ⟨lim.keeps x.toInCall.keep,codeAny_func ?_⟩
 obtain ⟨t,ht,hq⟩:=hbody A outer s H vs Q E (hr.deeper _) hsp
 have I:Inv (cxOf CX P w K mg base N qual scope f cdv A outer s H E) [] (start N vs) H s1:=zid S hr.hd e0 hl r x
 refine wpAny_mono (ht [] s1 (start N vs) H _ I hq) (fun fl s' hs=>?_) fun e s' hs=>hs
 have fin:∀ {σ':St} {H':Hp} {v:V} {u:Value},Inv (cxOf CX P w K mg base N qual scope f cdv A outer s H E) [] σ' H' s'->RelV v u->Q v H'->CE outer P w H s Q u s':=
  fun {σ' H' v u} J rv q=>⟨v,H',J.os,J.bare,J.base,J.hok,rv,q⟩
 cases fl with
 | ret u=>
  obtain ⟨v,σ',H',J,rv,q⟩:=hs
  exact fin J rv q
 | next=>
  obtain ⟨σ',H',J,q⟩:=hs
  exact fin (v:=V.non) (u:=Value.none) J rfl q
 | brk=>
  obtain ⟨_,_,_,q⟩:=hs
  exact False.elim q
 | cont=>
  obtain ⟨_,_,_,q⟩:=hs
  exact False.elim q
end L2
namespace L2
open PySem PySem.Spec PyProof.Rows
section
variable {X:Cx}{x:Str}{p pos:Pos}{e:Expr}{es:List Expr}{t:TA}{id T:String}{r:List V->Hp->VK->Prop}
def tCB(r:List V->Hp->VK->Prop)(t:TA):TE:=fun σ H Q=>t σ H fun vs H1=>r vs H1 Q
theorem zc0(hc:CallR X (.builtin id) r)(hg:Gl X x)(hm:X.mg x=none)(hv:bootBuiltins x=some (.builtin id))(ha:PA X (e::es) t)(hn:x≠"__name__":=by decide)(hdb:(x == ("__debug__":Str))=false:=by decide)
  (he:starEach (e::es) X.env=(false,eval e X.env)::starEach es X.env:=by rfl) (hpl:(backTo pos (starEach es X.env)).any (·.1)=false:=by rfl):PE X (.Call (.Name x p) (e::es) [] pos) (tCB r t):=by
 intro pins s σ H Q I h
 refine wpAny_Call_Name_kw (zbP I hg hm hv ?_ hn hdb)
 exact PyProof.Rows.callWith_builtin1 (thn (ha pos pins s σ H _ I h) fun us s1 ⟨vs,H1,I1,r1,q1⟩=>hc pins s1 σ H1 vs us Q I1 r1 q1) he hpl
theorem zeW(hc:CallR X (.type T) r)(hg:Gl X x)(hm:X.mg x=none)(hv:bootBuiltins x=some (.type T))(ha:PA X (e::es) t)(hn:x≠"__name__":=by decide)(hdb:(x == ("__debug__":Str))=false:=by decide)
  (he:starEach (e::es) X.env=(false,eval e X.env)::starEach es X.env:=by rfl) (hpl:(backTo pos (starEach es X.env)).any (·.1)=false:=by rfl):PE X (.Call (.Name x p) (e::es) [] pos) (tCB r t):=by
 intro pins s σ H Q I h
 refine wpAny_Call_Name_kw (zbP I hg hm hv ?_ hn hdb)
 exact PyProof.Rows.callWith_type1 (thn (ha pos pins s σ H _ I h) fun us s1 ⟨vs,H1,I1,r1,q1⟩=>hc pins s1 σ H1 vs us Q I1 r1 q1) he hpl
end
end L2
namespace HT
open PySem PyProof.Rows
def lexLt:List Int->List Int->Bool
 | [],[]=>false
 | [],_::_=>true
 | _::_,[]=>false
 | x::xs,y::ys=>if x=y then lexLt xs ys else decide (x < y)
theorem lexLt_cons(x y:Int)(xs ys:List Int):lexLt (x::xs) (y::ys)=if x=y then lexLt xs ys else decide (x < y):=rfl
theorem eqAt_int(A:Around)(s:Shared)(a:Int)(t:Tok)(c:Int)(u:Tok):∃ e,SeqAt.EqAt A s (.int a t) (.int c u) e/\(e=true↔a=c):=
 ⟨(a == c),SeqAt.EqAt.int_int a t c u,by simp⟩
theorem rcLt_int(A:Around)(s:Shared)(a:Int)(t:Tok)(c:Int)(u:Tok)(prog:Program)(w:World)(E:Value->Shared->Prop)(Q:Value->Shared->Prop)(h:Q (.bool (decide (a < c))) s) :
  wpAny (model prog w) A (richCompare .Lt (.int a t) (.int c u)) Q E s:=
 (PyProof.Rows.lt_int h:wpAny (model prog w) A (compareOp .Lt (.int a t) (.int c u)) Q E s)
section
variable {prog:Program}{w:World}{A:Around}{E:Value->Shared->Prop}{s:Shared}
def sIx(n d:Nat):Option Int->Nat
 | none=>d
 | some v=>if v < 0 then (v+(n:Int)).toNat else min v.toNat n
end
end HT
namespace L2
open PySem PySem.Spec PyProof.Rows
abbrev TO:=St->Hp->(Option Int->Hp->Prop)->Prop
def PO(X:Cx)(e:Option Expr)(t:TO):Prop:=
 ∀ (pins:List (Addr × Obj)) (s:Shared) (σ:St) (H:Hp) (Q:Option Int->Hp->Prop),Inv X pins σ H s->t σ H Q->
  wpAny (model X.prog X.w) X.A (evalPart e X.env) (fun u s'=>∃ o H',Inv X pins σ H' s'/\IsPart u o/\Q o H') X.xe s
def zky:TO:=fun _ H Q=>Q none H
def tPart(t:TE):TO:=fun σ H Q=>t σ H fun x H1=>∃ i,x=.int i/\Q (some i) H1
theorem ze6{ns:List Int}:∀ {us:List Value},Vals (ns.map V.int) us->IntsAre us ns:=by
 induction ns with
 | nil=>intro us r; rw [List.map_nil] at r; cases r; exact .nil
 | cons n ns ih=>
  intro us r
  rw [List.map_cons] at r
  cases r with
  | cons r1 r2=>
   obtain ⟨t,e⟩:=r1
   subst e
   exact .cons n t (ih r2)
section
variable {X:Cx}{e:Expr}{te:TE}{lo hi:Option Expr}{tl th:TO}{pos p2:Pos}
theorem zkX:PO X none zky:=by
 intro pins s σ H Q I h
 rw [evalPart_none]
 exact wpAny_pure ⟨none,H,I,.none,h⟩
theorem zkW(h:PE X e te):PO X (some e) (tPart te):=by
 intro pins s σ H Q I hw
 rw [evalPart_some]
 refine thn (h pins s σ H _ I hw) fun u s1 h_=>?_; obtain ⟨x,H1,I1,r1,q1⟩:=h_
 obtain ⟨i,rfl,q⟩:=q1
 obtain ⟨t,rfl⟩:=r1
 exact ⟨some i,H1,I1,.int i t,q⟩
def SlR(X:Cx)(r:V->Option Int->Option Int->Hp->VK->Prop):Prop:=
 ∀ (pins:List (Addr × Obj)) (s:Shared) (σ:St) (H:Hp) (x:V) (v vl vu:Value) (lo hi:Option Int) (sl:Addr) (Q:VK),Inv X pins σ H s->RelV x v->s.heap.IsSliceOf sl vl vu .none->IsPart vl lo->IsPart vu hi->r x lo hi H Q->
  ∃ T id,typeLookup (.type T) "__getitem__"=pure (some (.builtin id))/\s.TypeIs v T/\wpAny (model X.prog X.w) X.A (getItem v (.ref sl)) (EP X pins σ Q) X.xe s
def tSl(r:V->Option Int->Option Int->Hp->VK->Prop)(te:TE)(tl th:TO):TE:=fun σ H Q=>te σ H fun x H1=>tl σ H1 fun l H2=>th σ H2 fun u H3=>r x l u H3 Q
theorem zeq{r:V->Option Int->Option Int->Hp->VK->Prop}(hr:SlR X r)(he:PE X e te)(hl:PO X lo tl)(hu:PO X hi th):PE X (.Subscript e (.Slice lo hi none p2) pos) (tSl r te tl th):=by
 intro pins s σ H Q I h
 refine Subscript_ (thn (he pins s σ H _ I h) fun v s1 h_=>?_); obtain ⟨x,H1,I1,r1,q1⟩:=h_
 refine wpAny_Slice (thn (hl pins s1 σ H1 _ I1 q1) fun vl s2 h_=>?_); obtain ⟨l,H2,I2,pl,q2⟩:=h_; refine thn (hu pins s2 σ H2 _ I2 q2) fun vu s3 h_=>?_; obtain ⟨u,H3,I3,pu,q3⟩:=h_
 rw [evalPart_none]
 refine wpAny_pure ?_
 have I4:Inv X pins σ H3 { s3 with heap:=s3.heap.push { cls:=.type "slice",data:=.fields #[vl,vu,.none] } }:=I3.kept (t':=s3.toks) fun b ob q=>Heap.get?_push_of_some _ q
 obtain ⟨T,id,hT,ht,hg⟩:=hr pins { s3 with heap:=s3.heap.push { cls:=.type "slice",data:=.fields #[vl,vu,.none] } } σ H3 x v vl vu l u s3.heap.objs.size Q I4 r1 (Heap.IsSliceOf.new ..) pl pu q3
 show wpAny (model X.prog X.w) X.A (subscriptTail e (.Slice lo hi none p2) v (.ref s3.heap.objs.size)) (EP X pins σ Q) X.xe { s3 with heap:=s3.heap.push { cls:=.type "slice",data:=.fields #[vl,vu,.none] } }
 exact tail_any (ops:=[.ref s3.heap.objs.size,v]) ht hT hg (by with_unfolding_all rfl)
def cutV(xs:List V)(lo hi:Option Int):List V:=(xs.drop (HT.sIx xs.length 0 lo)).take (HT.sIx xs.length xs.length hi - HT.sIx xs.length 0 lo)
theorem zfZ(xs:List V)(lo hi:Option Int):(cutV xs lo hi).length<=xs.length:=by
 unfold cutV
 rw [List.length_take,List.length_drop]
 lia
end
end L2
namespace L2
open PySem PySem.Spec PyProof.Rows
def ixN(n:Nat)(i:Int):Option Nat:=if 0<=i then (if i < n then some i.toNat else none) else if -(n:Int)<=i then some (i+n).toNat else none
def atI{α:Type}(xs:List α)(i:Int):Option α:=(ixN xs.length i).bind fun j=>xs[j]?
theorem zi8{n:Nat}{i:Int}{j:Nat}(h:ixN n i=some j):seqIndex? i n=some j/\j < n/\-(n:Int)<=i/\i < n:=by
 unfold ixN at h
 by_cases h0:0<=i
 ·rw [if_pos h0] at h
  by_cases h1:i < n
  ·rw [if_pos h1] at h
   have e:i.toNat=j:=Option.some.inj h
   exact ⟨by rw [seqIndex_of h0 h1,e],by lia,by lia,h1⟩
  ·rw [if_neg h1] at h; cases h
 ·rw [if_neg h0] at h
  by_cases h1:-(n:Int)<=i
  ·rw [if_pos h1] at h
   have e:(i+n).toNat=j:=Option.some.inj h
   exact ⟨by rw [seqIndex_neg (by lia) h1,e],by lia,h1,by lia⟩
  ·rw [if_neg h1] at h; cases h
theorem zg3{α:Type}{xs:List α}{i:Int}{v:α}(h:atI xs i=some v):∃ j,seqIndex? i xs.length=some j/\xs[j]?=some v/\j < xs.length/\-(xs.length:Int)<=i/\i < xs.length:=by
 unfold atI at h
 cases e:ixN xs.length i with
 | none=>rw [e] at h; cases h
 | some j=>
  rw [e] at h
  obtain ⟨h1,h2,h3,h4⟩:=zi8 e
  exact ⟨j,h1,h,h2,h3,h4⟩
theorem ziI{α:Type}{xs:List α}{j:Nat}{v:α}(h:xs[j]?=some v):atI xs (j:Int)=some v:=by
 have hj:j < xs.length:=(List.getElem?_eq_some_iff.mp h).1
 have e:ixN xs.length (j:Int)=some j:=by
  unfold ixN
  rw [if_pos (by lia),if_pos (by lia)]; simp
 unfold atI; rw [e]; exact h
def zbV(b:Expr):Prop:=∀ o i,subscripted b false o i=operate [o,i] (getItem o i)
def IxR(X:Cx)(r:R2):Prop:=
 ∀ (value slice:Expr) (pins:List (Addr × Obj)) (s:Shared) (σ:St) (H:Hp) (x y:V) (v u:Value) (Q:VK),Inv X pins σ H s->RelV x v->RelV y u->r x y H Q->
  subscripted slice false v u=operate [v,u] (getItem v u)->wpAny (model X.prog X.w) X.A (subscriptTail value slice v u) (EP X pins σ Q) X.xe s
def MtR(X:Cx)(id:String)(r:V->List V->Hp->VK->Prop):Prop:=
 ∀ (pins:List (Addr × Obj)) (s:Shared) (σ:St) (H:Hp) (x:V) (xs:List V) (v:Value) (us:List Value) (Q:VK),Inv X pins σ H s->RelV x v->Vals xs us->r x xs H Q->
  wpAny (model X.prog X.w) X.A (call (.builtin id) (v::us)) (EP X pins σ Q) X.xe s
section
variable {X:Cx}{a b:Expr}{ta tb:TE}{pos:Pos}
theorem IxR.or{r r':R2}(h:IxR X r)(h':IxR X r'):IxR X (fun x y H Q=>r x y H Q∨r' x y H Q):=by
 intro value slice pins s σ H x y v u Q I rx ry q hs
 rcases q with q | q
 ·exact h value slice pins s σ H x y v u Q I rx ry q hs
 ·exact h' value slice pins s σ H x y v u Q I rx ry q hs
theorem pe_ix{r:R2}(hr:IxR X r)(ha:PE X a ta)(hb:PE X b tb)(hs:zbV b):PE X (.Subscript a b pos) (tOp r ta tb):=by
 intro pins s σ H Q I h
 exact Subscript_ (binT ha hb I h fun v u s2 x y H2 I2 rx ry q=>hr a b pins s2 σ H2 x y v u Q I2 rx ry q (hs _ _))
def rIxL(K:PySem.W.Frag):R2:=fun x y H Q=>∃ p xs i v,x=.ref p/\y=.int i/\SqL K H p xs/\atI xs i=some v/\Q v H
def rIxT(K:PySem.W.Frag):R2:=fun x y H Q=>∃ p xs i v,x=.ref p/\y=.int i/\SqT K H p xs/\atI xs i=some v/\Q v H
def rIxS:R2:=fun x y H Q=>∃ z i c,x=.str z/\y=.int i/\z.length<=sizeLine/\atI z.cps.toList i=some c/\Q (.str ⟨#[c]⟩) H
theorem ix_list:IxR X (rIxL X.K):=by
 intro value slice pins s σ H x y v u Q I rx ry h hs
 obtain ⟨p,xs,i,z,rfl,rfl,hq,he,q⟩:=h
 cases rx
 obtain ⟨t,rfl⟩:=ry
 obtain ⟨its,r,pl,hz⟩:=I.list hq
 obtain ⟨j,h1,h2,h3,h4,h5⟩:=zg3 he
 obtain ⟨w,ew,rw'⟩:=r.get h2
 have hl:=r.length
 have hn:=zdA
 have fin:EP X pins σ Q w s:=⟨z,H,I,rw',q⟩
 by_cases h0:0<=i
 ·have hj:i.toNat=j:=by
   rw [seqIndex_of h0 h5] at h1
   exact Option.some.inj h1
  exact item_listR pl.isList h0 (by lia) (by rw [hj]; simpa using ew) fin hs
 ·have hj:(i+(its.toArray.size:Int)).toNat=j:=by
   rw [seqIndex_neg (by lia) h4] at h1
   rw [List.size_toArray,<-hl]
   exact Option.some.inj h1
  exact subscriptTail_builtinR (x:=w) pl.isList.typeIs slot_list_getitem.lookup
   (wpAny_getItem_list_neg (Q:=fun r s'=>r=w/\EP X pins σ Q r s') pl.isList (by lia) (by rw [List.size_toArray]<;>lia) (by lia) (by rw [hj]; simpa using ew) ⟨rfl,fin⟩) hs
theorem ix_tup:IxR X (rIxT X.K):=by
 intro value slice pins s σ H x y v u Q I rx ry h hs
 obtain ⟨p,xs,i,z,rfl,rfl,hq,he,q⟩:=h
 cases rx
 obtain ⟨t,rfl⟩:=ry
 obtain ⟨its,r,pl,hz⟩:=I.tuple hq
 obtain ⟨j,h1,h2,h3,h4,h5⟩:=zg3 he
 obtain ⟨w,ew,rw'⟩:=r.get h2
 have hl:=r.length
 have hn:=zdA
 have fin:EP X pins σ Q w s:=⟨z,H,I,rw',q⟩
 exact subscriptTail_builtinR (x:=w) pl.typeIs slot_tuple_getitem.lookup
  (getItem_tuple (j:=j) (Q:=fun r s'=>r=w/\EP X pins σ Q r s') pl (by lia) (by lia) (by rw [List.size_toArray,<-hl]; exact h1) (by simpa using ew) ⟨rfl,fin⟩) hs
theorem zn9:IxR X rIxS:=by
 intro value slice pins s σ H x y v u Q I rx ry h hs
 obtain ⟨z,i,c,rfl,rfl,hz,he,q⟩:=h
 obtain ⟨t,rfl⟩:=rx
 obtain ⟨t',rfl⟩:=ry
 obtain ⟨j,h1,h2,h3,h4,h5⟩:=zg3 he
 have hl:z.cps.toList.length=z.length:=by simp [Str.length]
 rw [hl] at h1 h4 h5
 have hn:=zdA
 exact tail_any (typeIs_str s z t) slot_str_getitem.lookup (getItem_str (c:=c) (by
  have e1:decide (i < -(2 ^ 63:Int))=false:=decide_eq_false (by lia)
  have e2:decide (i≥2 ^ 63)=false:=decide_eq_false (by lia)
  rw [e1,e2,Bool.or_false]) (by rw [h1]; simpa using h2) ⟨.str ⟨#[c]⟩,H,I.tok _,⟨_,rfl⟩,q⟩) hs
def rIx(K:PySem.W.Frag):R2:=fun x y H Q=>rIxL K x y H Q∨rIxT K x y H Q∨rIxS x y H Q
theorem zk7:IxR X (rIx X.K):=ix_list.or (ix_tup.or zn9)
theorem zh0(its:List Value)(n j:Nat)(u:Value):Obj.mapSeq (·.setIfInBounds j u) { cls:=.type "list",data:=.seq its.toArray n }={ cls:=.type "list",data:=.seq (its.set j u).toArray n }:=by
 simp [Obj.mapSeq]
theorem Inv.lst{pins:List (Addr × Obj)}{σ:St}{H:Hp}{s:Shared}{p:Addr}{xs:List V}(I:Inv X pins σ H s)(h:H p=some (.lst xs)) :
  ∃ (its:List Value) (n:Nat),Vals xs its/\s.heap.get? p=some { cls:=.type "list",data:=.seq its.toArray n }/\xs.length<=sizeLine:=by
 obtain ⟨z,its,n,r,e⟩:=I.hok p _ h
 exact ⟨its,n,r,e,z⟩
theorem Inv.lstUpd{pins:List (Addr × Obj)}{σ:St}{H:Hp}{s:Shared}{p:Addr}{xs ys:List V}{its its':List Value}{n n':Nat}{f:Obj->Obj}(I:Inv X pins σ H s)(h:H p=some (.lst xs))
  (ho:s.heap.get? p=some { cls:=.type "list",data:=.seq its.toArray n }) (hf:f { cls:=.type "list",data:=.seq its.toArray n }={ cls:=.type "list",data:=.seq its'.toArray n' }) (r:Vals ys its') (hz:ys.length<=sizeLine) (t:Nat) :
  Inv X pins σ (upd H p (.lst ys)) { s with heap:=s.heap.update p f,toks:=t }:=by
 have e:(s.heap.update p f).get? p=some { cls:=.type "list",data:=.seq its'.toArray n' }:=by
  rw [Heap.get?_update_self f ho (by rw [hf]<;>rfl),hf]
 refine I.write (x:=p) (e:=p) (by rw [h]; trivial) (.inl rfl) (fun b u hb q=>(Heap.get?_update_other _ _ (Ne.symm hb)).trans q) ⟨_,e⟩ ?_
 exact ⟨hz,its',n',r,e⟩
def rSetL:V->V->V->Hp->(Hp->Prop)->Prop:=fun o i v H Q=>∃ p xs k j,o=.ref p/\i=.int k/\H p=some (.lst xs)/\ixN xs.length k=some j/\Q (upd H p (.lst (xs.set j v)))
theorem zbW:PSet X rSetL:=by
 intro pins s σ H o i v ov iv u Q I ro ri rv h
 obtain ⟨p,xs,k,j,rfl,rfl,hp,hj,q⟩:=h
 cases ro
 obtain ⟨t,rfl⟩:=ri
 obtain ⟨its,n,r,ho,hz⟩:=I.lst hp
 obtain ⟨h1,h2,h3,h4⟩:=zi8 hj
 have hl:=r.length
 have hn:=zdA
 have I':Inv X pins σ (upd H p (.lst (xs.set j v))) { s with heap:=s.heap.update p (Obj.mapSeq (·.setIfInBounds j u)) }:=
  I.lstUpd hp ho (zh0 its n j u) (r.set rv j) (by rw [List.length_set]; exact hz) s.toks
 by_cases h0:0<=k
 ·have hk:k.toNat=j:=by
   rw [seqIndex_of h0 h4] at h1
   exact Option.some.inj h1
  exact PySem.W.ki_setAt ho h0 (by lia) (by rw [List.size_toArray,<-hl]; exact h4) (by rw [hk]; exact ⟨_,I',q⟩)
 ·have hk:(k+(its.toArray.size:Int)).toNat=j:=by
   rw [seqIndex_neg (by lia) h3] at h1
   rw [List.size_toArray,<-hl]
   exact Option.some.inj h1
  exact PySem.W.ki_setBack ho (by lia) (by rw [List.size_toArray,<-hl]; exact h3) (by lia) (by rw [hk]; exact ⟨_,I',q⟩)
theorem zeH(lo hi:Option Int)(n:Nat):(sliceBounds lo hi none n).1=((HT.sIx n 0 lo:Nat):Int)/\(sliceBounds lo hi none n).2.1=((HT.sIx n n hi:Nat):Int)/\(sliceBounds lo hi none n).2.2=1:=by
 refine ⟨?_,?_,rfl⟩
 ·cases lo with
  | none=>simp [sliceBounds,HT.sIx]
  | some i=>
   simp only [sliceBounds,HT.sIx,Option.getD_none,show (1:Int) > 0 by decide,if_true]
   by_cases h:i < 0
   ·simp only [h,if_true]<;>lia
   ·simp only [h,if_false]<;>lia
 ·cases hi with
  | none=>simp [sliceBounds,HT.sIx]
  | some i=>
   simp only [sliceBounds,HT.sIx,Option.getD_none,show (1:Int) > 0 by decide,if_true]
   by_cases h:i < 0
   ·simp only [h,if_true]<;>lia
   ·simp only [h,if_false]<;>lia
theorem zeh(its:List Value)(lo hi:Option Int):slicePick its.toArray lo hi none=((its.drop (HT.sIx its.length 0 lo)).take (HT.sIx its.length its.length hi - HT.sIx its.length 0 lo)).toArray:=by
 obtain ⟨h1,h2,h3⟩:=zeH lo hi its.toArray.size
 unfold slicePick
 rw [h1,h2,h3]
 simp only [sliceRange_one,pick_run,List.size_toArray]<;>rfl
def rSlL(K:PySem.W.Frag):V->Option Int->Option Int->Hp->VK->Prop:=fun x lo hi H Q=>∃ a xs,x=.ref a/\SqL K H a xs/\∀ p,H p=none->Q (.ref p) (upd H p (.lst (cutV xs lo hi)))
theorem zhk:SlR X (rSlL X.K):=by
 intro pins s σ H x v vl vu lo hi sl Q I rx hs pl pu h
 obtain ⟨a,xs,rfl,hx,q⟩:=h
 cases rx
 obtain ⟨its,r,ht,hz⟩:=I.list hx
 have hlen:=r.length
 refine ⟨"list",_,slot_list_getitem.lookup,ht.isList.typeIs,?_⟩
 refine wpAny_getItem_list_slice ht.isList hs pl pu .none (by simp) ?_ (by rw [List.size_toArray]<;>lia)
 rw [zeh,<-hlen]
 refine ⟨.ref s.heap.objs.size,_,I.laid (t':=s.toks) (o:=.lst (cutV xs lo hi)) (fun b ob q=>Heap.get?_push_of_some _ q) (Nat.le_refl _) ?_,rfl,q _ (I.hok.fresh (Nat.le_refl _))⟩
 exact ⟨Nat.le_trans (zfZ xs lo hi) hz,_,0,(r.drop (HT.sIx xs.length 0 lo)).take (HT.sIx xs.length xs.length hi - HT.sIx xs.length 0 lo),Heap.get?_push_size _ rfl⟩
def flatV:V->Bool
 | .non=>true
 | .bl _=>true
 | .int _=>true
 | .str _=>true
 | _=>false
def eqV:V->V->Bool
 | .non,.non=>true
 | .bl a,.bl b=>a == b
 | .bl a,.int b=>(if a then 1 else 0) == b
 | .int a,.bl b=>a == (if b then 1 else 0)
 | .int a,.int b=>a == b
 | .str a,.str b=>a == b
 | _,_=>false
theorem znj{A:Around}{s:Shared}{y x:V}{u v:Value}(ry:RelV y u)(rx:RelV x v)(fy:flatV y=true)(fx:flatV x=true):SeqAt.EqAt A s u v (eqV y x):=by
 cases y with
 | non=>
  cases ry
  cases x with
  | non=>cases rx; exact SeqAt.EqAt.same _
  | bl b=>cases rx; exact SeqAt.EqAt.none_bool b
  | int b=>obtain ⟨t,rfl⟩:=rx; exact SeqAt.EqAt.none_int b t
  | str b=>obtain ⟨t,rfl⟩:=rx; exact SeqAt.EqAt.none_str b t
  | _=>exact absurd (show false=true from fx) Bool.false_ne_true
 | bl a=>
  cases ry
  cases x with
  | non=>cases rx; exact SeqAt.EqAt.bool_none a
  | bl b=>cases rx; exact SeqAt.EqAt.bool_bool a b
  | int b=>obtain ⟨t,rfl⟩:=rx; exact SeqAt.EqAt.bool_int a b t
  | str b=>obtain ⟨t,rfl⟩:=rx; exact SeqAt.EqAt.bool_str a b t
  | _=>exact absurd (show false=true from fx) Bool.false_ne_true
 | int a=>
  obtain ⟨t',rfl⟩:=ry
  cases x with
  | non=>cases rx; exact SeqAt.EqAt.int_none a t'
  | bl b=>cases rx; exact SeqAt.EqAt.int_bool a t' b
  | int b=>obtain ⟨t,rfl⟩:=rx; exact SeqAt.EqAt.int_int a t' b t
  | str b=>obtain ⟨t,rfl⟩:=rx; exact SeqAt.EqAt.int_str a t' b t
  | _=>exact absurd (show false=true from fx) Bool.false_ne_true
 | str a=>
  obtain ⟨t',rfl⟩:=ry
  cases x with
  | non=>cases rx; exact SeqAt.EqAt.str_none a t'
  | bl b=>cases rx; exact SeqAt.EqAt.str_bool a t' b
  | int b=>obtain ⟨t,rfl⟩:=rx; exact SeqAt.EqAt.str_int a t' b t
  | str b=>obtain ⟨t,rfl⟩:=rx; exact SeqAt.EqAt.str_str a t' b t
  | _=>exact absurd (show false=true from fx) Bool.false_ne_true
 | _=>exact absurd (show false=true from fy) Bool.false_ne_true
def eqU(x:V)(u:Value):Bool:=match u with
 | .none=>eqV .non x
 | .bool b=>eqV (.bl b) x
 | .int i _=>eqV (.int i) x
 | .str z _=>eqV (.str z) x
 | _=>false
theorem zis{x y:V}{u:Value}(r:RelV y u)(f:flatV y=true):eqU x u=eqV y x:=by
 cases y with
 | non=>cases r; rfl
 | bl b=>cases r; rfl
 | int i=>obtain ⟨t,rfl⟩:=r; rfl
 | str z=>obtain ⟨t,rfl⟩:=r; rfl
 | _=>exact absurd (show false=true from f) Bool.false_ne_true
theorem zg4{x:V}:∀ {xs:List V} {us:List Value},Vals xs us->xs.all flatV=true->us.any (eqU x)=xs.any fun y=>eqV y x
 | _,_,.nil,_=>rfl
 | y::xs,u::us,.cons r t,f=>by
  rw [List.all_cons,Bool.and_eq_true] at f
  rw [List.any_cons,List.any_cons,zis r f.1,zg4 t f.2]
theorem zdf{A:Around}{s:Shared}{x:V}{v:Value}(rx:RelV x v)(fx:flatV x=true):∀ {xs:List V} {us:List Value},Vals xs us->xs.all flatV=true->∀ u∈us,SeqAt.EqAt A s u v (eqU x u)
 | _,_,.nil,_=>fun u hu=>by cases hu
 | y::xs,u::us,.cons r t,f=>fun u' hu=>by
  rw [List.all_cons,Bool.and_eq_true] at f
  rcases List.mem_cons.mp hu with rfl | hu
  ·rw [zis r f.1]; exact znj r rx f.1 fx
  ·exact zdf rx fx t f.2 u' hu
def inV(x:V)(xs:List V):Bool:=xs.any fun y=>eqV y x
def rIn(K:PySem.W.Frag)(neg:Bool):R2:=fun x y H Q=>∃ p xs,y=.ref p/\(SqL K H p xs∨SqT K H p xs)/\flatV x=true/\xs.all flatV=true/\Q (.bl (if neg then !inV x xs else inV x xs)) H
theorem zeZ:OpR X (compareOp .NotIn) (rIn X.K true):=by
 intro pins s σ H x y v u Q I rx ry h
 obtain ⟨p,xs,rfl,hq,fx,fs,q⟩:=h
 cases ry
 rcases hq with hq | hq
 ·obtain ⟨its,r,pl,hz⟩:=I.list hq
  refine SeqAt.notIn_listAt (eqU x) pl.isList (fun w hw=>zdf rx fx r fs w (by simpa using hw)) ⟨.bl _,H,I,rfl,?_⟩
  rw [show its.toArray.any (eqU x)=its.any (eqU x) by simp,zg4 r fs]
  exact q
 ·obtain ⟨its,r,pl,hz⟩:=I.tuple hq
  refine SeqAt.notIn_tupleAt (eqU x) pl (fun w hw=>zdf rx fx r fs w (by simpa using hw)) ⟨.bl _,H,I,rfl,?_⟩
  rw [show its.toArray.any (eqU x)=its.any (eqU x) by simp,zg4 r fs]
  exact q
theorem zfn:CallR X (.builtin "len") (fun xs H Q=>∃ p ys,xs=[.ref p]/\(SqL X.K H p ys∨SqT X.K H p ys)/\Q (.int ys.length) H):=by
 intro pins s σ H xs us Q I r h
 obtain ⟨p,ys,rfl,hq,q⟩:=h
 obtain ⟨u,rfl,rx⟩:=vals1 r
 cases rx
 have hn:=zdA
 rcases hq with hq | hq
 ·obtain ⟨its,r',pl,hz⟩:=I.list hq
  have hlen:=r'.length
  exact Calls.call_len_list pl.isList (by simp only [List.size_toArray]<;>lia) ⟨.int ys.length,H,I.tok _,⟨s.toks+1,by rw [List.size_toArray,hlen]⟩,q⟩
 ·obtain ⟨its,r',pl,hz⟩:=I.tuple hq
  have hlen:=r'.length
  exact len_tuple pl (by simp only [List.size_toArray]<;>lia) ⟨.int ys.length,H,I.tok _,⟨s.toks+1,by rw [List.size_toArray,hlen]⟩,q⟩
theorem zfm:CallR X (.builtin "len") (fun xs H Q=>∃ z,xs=[.str z]/\z.length<=sizeLine/\Q (.int z.length) H):=by
 intro pins s σ H xs us Q I r h
 obtain ⟨z,rfl,hz,q⟩:=h
 obtain ⟨u,rfl,t,rfl⟩:=vals1 r
 have hn:=zdA
 exact len_str (by lia) ⟨.int z.length,H,I.tok _,⟨_,rfl⟩,q⟩
theorem CallR.or{f:Value}{r r':List V->Hp->VK->Prop}(h:CallR X f r)(h':CallR X f r'):CallR X f (fun xs H Q=>r xs H Q∨r' xs H Q):=by
 intro pins s σ H xs us Q I rs q
 rcases q with q | q
 ·exact h pins s σ H xs us Q I rs q
 ·exact h' pins s σ H xs us Q I rs q
theorem zfl:CallR X (.type "list") (fun xs H Q=>∃ p ys,xs=[.ref p]/\(SqL X.K H p ys∨SqT X.K H p ys)/\∀ l,H l=none->Q (.ref l) (upd H l (.lst ys))):=by
 intro pins s σ H xs us Q I r h
 obtain ⟨p,ys,rfl,hq,q⟩:=h
 obtain ⟨u,rfl,rx⟩:=vals1 r
 cases rx
 have fin:∀ (its:List Value),Vals ys its->ys.length<=sizeLine->∀ (h':Heap) (c':Nat),(∀ b o',s.heap.get? b=some o'->h'.get? b=some o')->
   h'.get? s.heap.objs.size=some { cls:=.type "list",dict:=none,data:=.seq its.toArray c',slots:=#[] }->EP X pins σ Q (.ref s.heap.objs.size) { s with heap:=h' }:=fun its r' hz h' c' kp e=>
  ⟨.ref s.heap.objs.size,_,I.laid (t':=s.toks) kp (Nat.le_refl _) (show ObjOk X.prog X.w _ h' _ (.lst ys) from ⟨hz,its,c',r',e⟩),rfl,q _ (I.hok.fresh (Nat.le_refl _))⟩
 rcases hq with hq | hq
 ·obtain ⟨its,r',pl,hz⟩:=I.list hq
  have hlen:=r'.length
  obtain ⟨o,ho,hc,n,hd⟩:=pl.isList
  exact call_list_seq p (.inl rfl) ho hc hd (fun h' c' kp e=>fin its r' hz h' c' kp e) (by simp only [List.size_toArray]<;>lia)
 ·obtain ⟨its,r',pl,hz⟩:=I.tuple hq
  have hlen:=r'.length
  obtain ⟨o,ho,hc,n,hd⟩:=pl
  exact call_list_seq p (.inr rfl) ho hc hd (fun h' c' kp e=>fin its r' hz h' c' kp e) (by simp only [List.size_toArray]<;>lia)
def tyV(K:PySem.W.Frag)(T:String)(x:V)(H:Hp):Prop:=match x with
 | .str _=>T="str"
 | .int _=>T="int"
 | .ref p=>(T="list"/\∃ xs,SqL K H p xs)∨(T="tuple"/\∃ o,K.lookup p=some o/\o.cls=.type "tuple"/\o.dict=none) ∨
   (T="dict"/\((∃ kvs,H p=some (.dK kvs))∨∃ kvs,H p=some (.dT kvs)))∨(T="set"/\∃ S n,H p=some (.set S n))
 | _=>False
theorem zm6{pins:List (Addr × Obj)}{σ:St}{H:Hp}{s:Shared}{T:String}{x:V}{v:Value}(I:Inv X pins σ H s)(r:RelV x v)(ty:tyV X.K T x H) :
  s.TypeIs v T/\∀ a,v=.ref a->∃ ob,s.heap.get? a=some ob/\ob.dict=none:=by
 cases x with
 | str z=>
  obtain ⟨t,rfl⟩:=r
  cases (show T="str" from ty)
  exact ⟨typeIs_str s z t,fun _ e=>nomatch e⟩
 | int i=>
  obtain ⟨t,rfl⟩:=r
  cases (show T="int" from ty)
  exact ⟨typeIs_int s i t,fun _ e=>nomatch e⟩
 | ref p=>
  cases r
  rcases ty with ⟨rfl,xs,hq⟩ | ⟨rfl,o,hk,hc,hd⟩ | ⟨rfl,hk⟩ | ⟨rfl,S,n,hk⟩
  ·obtain ⟨its,_,pl,_⟩:=I.list hq
   refine ⟨pl.isList.typeIs,fun a e=>?_⟩
   cases e
   obtain ⟨o,n,e,c,hd,_⟩:=pl
   exact ⟨o,e,hd⟩
  ·refine ⟨⟨o,I.kIn p o hk,hc⟩,fun a e=>?_⟩
   cases e
   exact ⟨o,I.kIn _ o hk,hd⟩
  ·have z:∃ o,s.heap.get? p=some o/\o.ExactDict:=by
    rcases hk with ⟨kvs,hk⟩ | ⟨kvs,hk⟩
    ·obtain ⟨_,_,_,_,o,_,_,e,ex,_⟩:=I.hok p _ hk
     exact ⟨o,e,ex⟩
    ·obtain ⟨_,_,_,_,o,_,_,e,ex,_⟩:=I.hok p _ hk
     exact ⟨o,e,ex⟩
   obtain ⟨o,e,ex⟩:=z
   refine ⟨⟨o,e,ex.1⟩,fun a e2=>?_⟩
   cases e2
   exact ⟨o,e,ex.2.1⟩
  ·obtain ⟨o,_,_,_,e,ex,_⟩:=I.hok p _ hk
   refine ⟨⟨o,e,ex.1⟩,fun a e2=>?_⟩
   cases e2
   exact ⟨o,e,ex.2.1⟩
 | _=>exact False.elim ty
def tBM(K:PySem.W.Frag)(T:String)(r:V->List V->Hp->VK->Prop)(to:TE)(t:TA):TE:=fun σ H Q=>to σ H fun x H1=>tyV K T x H1/\t σ H1 fun xs H2=>r x xs H2 Q
variable {o e:Expr}{es:List Expr}{to:TE}{t:TA}{name:Str}{apos cpos:Pos}{T id:String}{r:V->List V->Hp->VK->Prop}
theorem pe_bm(pa:PlainAttrs T)(slot:Slot T name id)(hty:typeOf (.builtin id)=pure (.type "method_descriptor"))(hm:MtR X id r)(ho:PE X o to)(ha:PA X (e::es) t)
  (hbase:attributeBase o name X.env (eval o X.env)=eval o X.env:=by rfl)
  (hfew:((backTo cpos (starEach (e::es) X.env)).all (fun x=>!x.1)&&(backToKw cpos (keywordEach [] X.env)).all (fun x=>x.1.isSome)
   && decide ((e::es).length+([]:List Keyword).length+(if ([]:List Keyword).isEmpty then 0 else 1) < 30))=true:=by rfl)
  (hline:(apos.endLine == cpos.line)=true:=by rfl) (hs:starEach (e::es) X.env=(false,eval e X.env)::starEach es X.env:=by rfl) (hplain:(backTo cpos (starEach es X.env)).any (·.1)=false:=by rfl) :
  PE X (.Call (.Attribute o name apos) (e::es) [] cpos) (tBM X.K T r to t):=by
 intro pins s σ H Q I h
 refine wpAny_Call_method_late hbase hfew hline rfl (thn (ho pins s σ H _ I h) fun v s1 h_=>?_); obtain ⟨x,H1,I1,r1,ty,q1⟩:=h_
 obtain ⟨h1,h2⟩:=zm6 I1 r1 ty
 refine ⟨T,id,pa,slot,hty,h1,h2,?_⟩
 have hA:=ha cpos pins s1 σ H1 _ I1 q1
 rw [hs] at hA ⊢
 refine Calls.callWith_builtin (by show (false||(backTo cpos (starEach es X.env)).any (·.1))=false; rw [hplain]<;>rfl) (Calls.evalArgs_plain ?_)
 exact thn hA fun us s2 ⟨vs,H2,I2,r2,q2⟩=>hm pins s2 σ H2 x vs v us Q I2 r1 r2 q2
end
end L2
namespace L2
open PySem PySem.Spec PyProof.Rows
def MtM(X:Cx)(id:String)(r:V->List V->Hp->VK->Prop):Prop:=
 ∀ (pins:List (Addr × Obj)) (s:Shared) (σ:St) (H:Hp) (x:V) (xs:List V) (v:Value) (us:List Value) (Q:VK),Inv X pins σ H s->RelV x v->Vals xs us->r x xs H Q->
  wpAny (model X.prog X.w) X.A (call (.builtin id) (v::us)) (EP X pins σ Q) X.xe s
theorem Vals.one{x:V}{us:List Value}(h:Vals [x] us):∃ u,us=[u]/\RelV x u:=by
 cases h with
 | cons r t=>cases t; exact ⟨_,rfl,r⟩
theorem Vals.eraseIdx:∀ {xs:List V} {us:List Value} (i:Nat),Vals xs us->Vals (xs.eraseIdx i) (us.eraseIdx i)
 | _,_,_,.nil=>.nil
 | _,_,0,.cons _ t=>t
 | _,_,i+1,.cons r t=>.cons r (Vals.eraseIdx i t)
theorem Vals.reverse{xs:List V}{us:List Value}(h:Vals xs us):Vals xs.reverse us.reverse:=by
 induction h with
 | nil=>exact .nil
 | cons r t ih=>rw [List.reverse_cons,List.reverse_cons]; exact Vals.append ih (.cons r .nil)
theorem zf9{α:Type}:∀ (l:List α) (i:Nat),(l.eraseIdx i).length<=l.length
 | [],_=>Nat.le_refl _
 | _::_,0=>Nat.le_succ _
 | _::r,i+1=>Nat.succ_le_succ (zf9 r i)
section
variable {X:Cx}{pins:List (Addr × Obj)}{σ:St}{H:Hp}{s:Shared}{l b:Addr}{xs ys zs:List V}
theorem Inv.lset{its its':List Value}{n:Nat}{f:Array Value->Array Value}{t':Nat}(I:Inv X pins σ H s)(hH:H l=some (.lst xs))
  (e:s.heap.get? l=some { cls:=.type "list",data:=.seq its.toArray n }) (hf:f its.toArray=its'.toArray) (hv:Vals ys its') (hz:ys.length<=sizeLine) :
  Inv X pins σ (upd H l (.lst ys)) { s with heap:=s.heap.update l (Obj.mapSeq f),toks:=t' }:=by
 have q:=PySem.IsL.update e f
 rw [hf] at q
 refine I.write (x:=l) (e:=l) (by rw [hH]; exact trivial) (.inl rfl) (fun b' u hb hu=>(Heap.get?_update_other s.heap (Obj.mapSeq f) (Ne.symm hb)).trans hu) ⟨_,q⟩ ?_
 exact ⟨hz,its',_,hv,q⟩
theorem Inv.lnew{its:List Value}{t':Nat}(I:Inv X pins σ H s)(hv:Vals ys its)(hz:ys.length<=sizeLine) :
  Inv X pins σ (upd H s.heap.objs.size (.lst ys)) { s with heap:=s.heap.push { cls:=.type "list",data:=.seq its.toArray },toks:=t' }:=
 I.laid (fun _ _ q=>Heap.get?_push_of_some _ q) (Nat.le_refl _) ⟨hz,its,0,hv,Heap.get?_push_size _ rfl⟩
theorem Inv.fresh(I:Inv X pins σ H s):H s.heap.objs.size=none:=I.hok.fresh (Nat.le_refl _)
theorem Inv.lstM(I:Inv X pins σ H s)(hH:H l=some (.lst xs)):xs.length<=sizeLine/\∃ (its:List Value) (n:Nat),Vals xs its/\xs.length=its.length/\s.heap.get? l=some { cls:=.type "list",data:=.seq its.toArray n }:=by
 obtain ⟨z,its,n,r,e⟩:=I.hok l _ hH
 exact ⟨z,its,n,r,r.length,e⟩
theorem zjf{n:Nat}(h:n<=sizeLine):Builtin.List.listTooLong n=false:=by
 unfold Builtin.List.listTooLong
 exact decide_eq_false (by lia)
end
section
variable {X:Cx}
def zcL:V->List V->Hp->VK->Prop:=fun x vs H Q=>∃ l xs y,x=.ref l/\vs=[y]/\H l=some (.lst xs)/\xs.length < sizeLine/\Q .non (upd H l (.lst (xs++[y])))
theorem zb8:MtM X "list.append" zcL:=by
 intro pins s σ H x vs v us Q I rx rv h
 obtain ⟨l,xs,y,rfl,rfl,hH,hz,q⟩:=h
 cases rx
 obtain ⟨u,rfl,ru⟩:=rv.one
 obtain ⟨z,its,n,r,hl,e⟩:=I.lstM hH
 refine call_meets F.slot_list_append ⟨_,e,rfl⟩ F.entry_list_append (F.args_list_append_2 _ _) (PySem.list_append l its.toArray n u (by rw [List.size_toArray]; lia)) ⟨e,?_⟩
 refine ⟨.non,_,I.lset (its':=its++[u]) hH e (by simp) (r.append (.cons ru .nil)) ?_,rfl,q⟩
 rw [List.length_append,List.length_singleton]
 lia
def zkJ:V->List V->Hp->VK->Prop:=fun x vs H Q=>∃ l b xs zs,x=.ref l/\vs=[.ref b]/\H l=some (.lst xs)/\H b=some (.lst zs)/\xs.length+zs.length<=sizeLine/\Q .non (upd H l (.lst (xs++zs)))
theorem mt_extend:MtM X "list.extend" zkJ:=by
 intro pins s σ H x vs v us Q I rx rv h
 obtain ⟨l,b,xs,zs,rfl,rfl,hH,hB,hz,q⟩:=h
 cases rx
 obtain ⟨u,rfl,ru⟩:=rv.one
 cases ru
 obtain ⟨z,its,n,r,hl,e⟩:=I.lstM hH
 obtain ⟨z2,its2,n2,r2,hl2,e2⟩:=I.lstM hB
 have hsz:its.toArray.size+its2.toArray.size<=sizeLine:=by rw [List.size_toArray,List.size_toArray]; lia
 have hlong:¬ (!its.toArray.isEmpty&&Builtin.List.listTooLong (its.toArray.size+its2.toArray.size))=true:=by
  rw [zjf hsz,Bool.and_false]
  exact Bool.false_ne_true
 refine call_meets F.slot_list_extend ⟨_,e,rfl⟩ F.entry_list_extend (F.args_list_extend_2 _ _)
  (AutoSeq1.list_extend_list_list_0 l its.toArray n b its2.toArray n2 hlong (by rw [List.size_toArray]; lia) (by lia)) ⟨e,e2,?_⟩
 refine ⟨.non,_,I.lset (its':=its++its2) hH e (by simp) (r.append r2) ?_,rfl,q⟩
 rw [List.length_append]
 lia
def zgi:V->List V->Hp->VK->Prop:=fun x vs H Q=>∃ l xs i k y,x=.ref l/\vs=[.int i]/\H l=some (.lst xs)/\-(2 ^ 63)<=i/\i < 2 ^ 63/\seqIndex? i xs.length=some k/\xs[k]?=some y/\Q y (upd H l (.lst (xs.eraseIdx k)))
theorem zgp:MtM X "list.pop" zgi:=by
 intro pins s σ H x vs v us Q I rx rv h
 obtain ⟨l,xs,i,k,y,rfl,rfl,hH,h1,h2,hk,hy,q⟩:=h
 cases rx
 obtain ⟨u,rfl,ru⟩:=rv.one
 obtain ⟨t,rfl⟩:=ru
 obtain ⟨z,its,n,r,hl,e⟩:=I.lstM hH
 obtain ⟨w,hw,rw'⟩:=r.get hy
 refine call_meets F.slot_list_pop ⟨_,e,rfl⟩ F.entry_list_pop (F.args_list_pop_2 _ _)
  (MeetsSeq.list_pop_at l its.toArray n i t k w (fitsIndex_both h1 h2) (by rw [List.size_toArray,<-hl]; exact hk) (by rw [<-Array.getElem?_toList]; exact hw) (by rw [List.size_toArray]; lia)) ⟨e,?_⟩
 refine ⟨y,_,I.lset (its':=its.eraseIdx k) hH e ?_ (r.eraseIdx k) ?_,rw',q⟩
 ·show its.toArray.eraseIdxIfInBounds k=(its.eraseIdx k).toArray
  rw [List.eraseIdxIfInBounds_toArray]
 ·have:=zf9 xs k
  lia
def rCat:R2:=fun x y H Q=>∃ l b xs zs,x=.ref l/\y=.ref b/\H l=some (.lst xs)/\H b=some (.lst zs)/\xs.length+zs.length<=sizeLine/\∀ p,H p=none->Q (.ref p) (upd H p (.lst (xs++zs)))
theorem zmR:OpR X (binaryOp .Add) rCat:=by
 intro pins s σ H x y v u Q I rx ry h
 obtain ⟨l,b,xs,zs,rfl,rfl,hH,hB,hz,q⟩:=h
 cases rx
 cases ry
 obtain ⟨z,its,n,r,hl,e⟩:=I.lstM hH
 obtain ⟨z2,its2,n2,r2,hl2,e2⟩:=I.lstM hB
 refine PySem.P.add_list e e2 ?_ (by rw [List.size_toArray,List.size_toArray]; lia)
 have ea:its.toArray++its2.toArray=(its++its2).toArray:=by simp
 rw [ea]
 exact ⟨.ref _,_,I.lnew (t':=s.toks) (r.append r2) (by rw [List.length_append]; lia),rfl,q _ I.fresh⟩
end
end L2
namespace L2
open PySem PySem.Spec PyProof.Rows
section
variable {κ:Type}[DecidableEq κ]
def valV(kvs:List (κ × V))(k:κ):Option V:=(kvs.find? fun kv=>decide (kv.1=k)).map (·.2)
def putK(kvs:List (κ × V))(k:κ)(v:V):List (κ × V):=
 if (kvs.any fun kv=>decide (kv.1=k))=true then kvs.map (fun kv=>if kv.1=k then (kv.1,v) else kv) else kvs++[(k,v)]
theorem zee{p:κ × V}{r:List (κ × V)}{k:κ}(e:p.1=k):valV (p::r) k=some p.2:=by simp [valV,List.find?_cons,e]
theorem zef{p:κ × V}{r:List (κ × V)}{k:κ}(e:¬ p.1=k):valV (p::r) k=valV r k:=by simp [valV,List.find?_cons,e]
theorem zdB(kvs:List (κ × V))(k:κ)(v:V):(putK kvs k v).length<=kvs.length+1:=by
 unfold putK
 split
 ·rw [List.length_map]; lia
 ·rw [List.length_append,List.length_cons,List.length_nil]; lia
theorem RelO.isSome_eq{o:Option V}{u:Option Value}(r:RelO o u):o.isSome=u.isSome:=by
 cases o with
 | none=>cases u with
  | none=>rfl
  | some _=>exact (show False from r).elim
 | some _=>cases u with
  | none=>exact (show False from r).elim
  | some _=>rfl
theorem KV.val{kvs:List (κ × V)}{vs:List (κ × Value)}(r:KV kvs vs)(k:κ):RelO (valV kvs k) (valueAt vs k):=by
 unfold KV at r
 induction r with
 | nil=>exact True.intro
 | @cons p q ps qs h t ih=>
  obtain ⟨h1,h2⟩:=h
  by_cases e:p.1=k
  ·have e':q.1=k:=h1.symm.trans e
   have b:valueAt (q::qs) k=some q.2:=by simp [valueAt,List.find?_cons,e']
   rw [zee e,b]; exact h2
  ·have e':¬ q.1=k:=fun z=>e (h1.trans z)
   have b:valueAt (q::qs) k=valueAt qs k:=by simp [valueAt,List.find?_cons,e']
   rw [zef e,b]; exact ih
theorem KV.any{kvs:List (κ × V)}{vs:List (κ × Value)}(r:KV kvs vs)(k:κ):(kvs.any fun kv=>decide (kv.1=k))=vs.any fun kv=>decide (kv.1=k):=by
 unfold KV at r
 induction r with
 | nil=>rfl
 | cons h t ih=>rw [List.any_cons,List.any_cons,ih,h.1]
theorem KV.repl{kvs:List (κ × V)}{vs:List (κ × Value)}(r:KV kvs vs)(k:κ){y:V}{u:Value}(ry:RelV y u) :
  KV (kvs.map fun kv=>if kv.1=k then (kv.1,y) else kv) (vs.map fun kv=>if kv.1=k then (kv.1,u) else kv):=by
 unfold KV at r ⊢
 induction r with
 | nil=>exact .nil
 | @cons p q ps qs h t ih=>
  rw [List.map_cons,List.map_cons]
  refine .cons ?_ ih
  obtain ⟨h1,h2⟩:=h
  by_cases e:p.1=k
  ·rw [if_pos e,if_pos (h1.symm.trans e)]; exact ⟨h1,ry⟩
  ·rw [if_neg e,if_neg (fun z=>e (h1.trans z))]; exact ⟨h1,h2⟩
theorem KV.put{kvs:List (κ × V)}{vs:List (κ × Value)}(r:KV kvs vs)(k:κ){y:V}{u:Value}(ry:RelV y u):KV (putK kvs k y) (stored vs k u):=by
 unfold putK stored
 rw [r.any k]
 by_cases e:(vs.any fun kv=>decide (kv.1=k))=true
 ·rw [if_pos e,if_pos e]; exact r.repl k ry
 ·rw [if_neg e,if_neg e]; exact Paired.snoc r ⟨rfl,ry⟩
theorem KV.length{kvs:List (κ × V)}{vs:List (κ × Value)}(r:KV kvs vs):kvs.length=vs.length:=Paired.length r
end
theorem kV_is{P:Program}{w:World}{k:Key}{u:Value}(r:RelV (kV k) u):(zaE P w).is k u=true:=by
 cases k with
 | inl i=>obtain ⟨t,e⟩:=(show ∃ t,u=Value.int i t from r); subst e; exact zfI P w i t
 | inr x=>obtain ⟨t,e⟩:=(show ∃ t,u=Value.str x t from r); subst e; exact zfH P w x t
theorem zfa{P:Program}{w:World}:∀ {ks:List Key} {us:List Value},Vals (ks.map kV) us->ItemsAre (zaE P w) ks us
 | [],_,r=>by rw [List.map_nil] at r; cases r; exact .nil
 | k::ks,_,r=>by
  rw [List.map_cons] at r
  cases r with
  | cons h t=>exact .cons (kV_is h) (zfa t)
abbrev KT(H:Hp):List (List Key × V)->List (List Key × Addr × Value)->Prop:=Paired fun p q=>p.1=q.1/\H q.2.1=some (.tup (p.1.map kV))/\RelV p.2 q.2.2
theorem KT.val{H:Hp}{kvs:List (List Key × V)}{xs:List (List Key × Addr × Value)}(r:KT H kvs xs)(k:List Key):RelO (valV kvs k) ((atKey xs k).map (·.2)):=by
 induction r with
 | nil=>exact True.intro
 | @cons p q ps qs h t ih=>
  obtain ⟨h1,_,h2⟩:=h
  by_cases e:p.1=k
  ·have e':q.1=k:=h1.symm.trans e
   have b:atKey (q::qs) k=some q.2:=by simp [atKey,List.find?_cons,e']
   rw [zee e,b]; exact h2
  ·have e':¬ q.1=k:=fun z=>e (h1.trans z)
   have b:atKey (q::qs) k=atKey qs k:=by simp [atKey,List.find?_cons,e']
   rw [zef e,b]; exact ih
section
variable {P:Program}{w:World}{H:Hp}{h:Heap}{a:Addr}
theorem rd_of{u:HO}(ok:HOk P w H h)(e:Rd H a u):ObjOk P w H h a u:=e.ok ok
theorem dk_rd{kvs:List (Key × V)}(ok:HOk P w H h)(e:Rd H a (.dK kvs)):kvs.length<=sizeLine/\(a == sysModules)=false/\∃ vs,KV kvs vs/\h.DictOf (zaE P w) a vs:=
 show ObjOk P w H h a (.dK kvs) from rd_of ok e
theorem dk_of{kvs:List (Key × V)}(ok:HOk P w H h)(e:H a=some (.dK kvs)):kvs.length<=sizeLine/\(a == sysModules)=false/\∃ vs,KV kvs vs/\h.DictOf (zaE P w) a vs:=dk_rd ok (.inl e)
theorem zi4{ks:List Key}(ok:HOk P w H h)(e:H a=some (.tup (ks.map kV))):(tupleKind (zaE P w)).is h ks a:=by
 obtain ⟨_,its,r,o,h1,h2,n,h3⟩:=(show ObjOk P w H h a (.tup (ks.map kV)) from ok a _ e)
 exact ⟨o,its.toArray,n,h1,h2,h3,by simpa using zfa r⟩
theorem dt_rd{kvs:List (List Key × V)}(ok:HOk P w H h)(e:Rd H a (.dT kvs)):kvs.length<=sizeLine/\(a == sysModules)=false /\
  ∃ xs,KT H kvs xs/\h.DictOfH (tupleKind (zaE P w)) a xs:=by
 obtain ⟨z,y,xs,r,o,es,ep,h1,h2,h3,h4,h5⟩:=(show ObjOk P w H h a (.dT kvs) from rd_of ok e)
 refine ⟨z,y,xs,r,o,es,ep,h1,h2,h3,h4,fun x hx=>?_,h5⟩
 have all:∀ {l:List (List Key × V)} {m:List (List Key × Addr × Value)},KT H l m->∀ x∈m,(tupleKind (zaE P w)).is h x.1 x.2.1:=by
  intro l m q
  induction q with
  | nil=>intro x hx; exact nomatch hx
  | @cons p q ps qs hq t ih=>
   intro x hx
   rcases List.mem_cons.mp hx with e | hx
   ·subst e
    exact zi4 ok (by rw [<-hq.1]; exact hq.2.1)
   ·exact ih x hx
 exact all r x hx
end
def DGet(H:Hp)(a:Addr)(y:V)(r:Option V):Prop:=
 (∃ kvs k,Rd H a (.dK kvs)/\y=kV k/\r=valV kvs k)∨∃ kvs k b,Rd H a (.dT kvs)/\y=.ref b/\H b=some (.tup (k.map kV))/\r=valV kvs k
theorem DGet.k{H:Hp}{a:Addr}{kvs:List (Key × V)}{k:Key}(e:H a=some (.dK kvs)):DGet H a (kV k) (valV kvs k):=.inl ⟨kvs,k,.inl e,rfl,rfl⟩
section
variable {X:Cx}{pins:List (Addr × Obj)}{σ:St}{H:Hp}{s:Shared}{a:Addr}{y v:V}{u r:Value}{o:Option V}{A:Around}{E:Value->Shared->Prop}
theorem Inv.big(I:Inv X pins σ H s):sysModules < s.heap.objs.size:=by
 have h:mainGlobals < s.heap.objs.size:=(I.mod.glob.keeps I.bk).lt
 exact Nat.lt_trans (by decide) h
theorem ziw{Q:Value->Shared->Prop}(hu:A.units+1 < cLine)(I:Inv X pins σ H s)(g:DGet H a y (some v))(ry:RelV y u)(h:∀ w' s',Inv X pins σ H s'->RelV v w'->Q w' s') :
  wpAny (model X.prog X.w) A (getItem (.ref a) u) Q E s:=by
 rcases g with ⟨kvs,k,e,ey,l⟩ | ⟨kvs,k,b,e,ey,eb,l⟩
 ·subst ey
  obtain ⟨z,hd,vs,rel,dd⟩:=dk_rd I.hok e
  obtain ⟨w',hw,rw'⟩:=RelO.some_of (v:=v) (o:=valueAt vs k) (by rw [l]; exact rel.val k)
  exact wpAny_getItem_of (kV_is ry) dd.mapOf hw (h w' _ (I.tok _) rw')
 ·subst ey
  cases (show u=Value.ref b from ry)
  obtain ⟨z,hd,xs,rel,dd⟩:=dt_rd I.hok e
  obtain ⟨w',hw,rw'⟩:=RelO.some_of (v:=v) (o:=(atKey xs k).map (·.2)) (by rw [l]; exact rel.val k)
  obtain ⟨p,hp,hp2⟩:=Qm hw
  refine wpAny_getItem_heap (tupleKind_room_in1 hu) (zi4 I.hok eb) dd hp ?_
  rw [hp2]
  exact h w' _ (I.tok _) rw'
theorem zlw{Q:Value->Shared->Prop}(hu:A.units+1 < cLine)(I:Inv X pins σ H s)(g:DGet H a y o)(ry:RelV y u)(h:∀ s',Inv X pins σ H s'->Q (.bool (!o.isSome)) s') :
  wpAny (model X.prog X.w) A (compareOp .NotIn u (.ref a)) Q E s:=by
 rcases g with ⟨kvs,k,e,ey,l⟩ | ⟨kvs,k,b,e,ey,eb,l⟩
 ·subst ey
  obtain ⟨z,hd,vs,rel,dd⟩:=dk_rd I.hok e
  refine wpAny_notIn_of (kV_is ry) hd dd.mapOf ?_
  rw [<-(rel.val k).isSome_eq,<-l]
  exact h _ (I.tok _)
 ·subst ey
  cases (show u=Value.ref b from ry)
  obtain ⟨z,hd,xs,rel,dd⟩:=dt_rd I.hok e
  refine wpAny_notIn_heap (tupleKind_room_in1 hu) (zi4 I.hok eb) hd dd ?_
  have q:=(rel.val k).isSome_eq
  rw [Option.isSome_map] at q
  rw [<-q,<-l]
  exact h _ (I.tok _)
theorem zlv{h':Heap}{t':Nat}{ob:HO}(I:Inv X pins σ H s)(mu:Mut (H a))(hs:Heap.SameBut a s.heap h')(he:∃ q,h'.get? a=some q)(new:ObjOk X.prog X.w (upd H a ob) h' a ob) :
  Inv X pins σ (upd H a ob) { s with heap:=h',toks:=t' }:=
 I.write (x:=a) (e:=a) mu (.inl rfl) (fun b q hb z=>(hs.2 b hb).trans z) he new
theorem znr{P:Program}{w:World}{H':Hp}{h':Heap}{kvs:List (Key × V)}{vs:List (Key × Value)}(z:kvs.length<=sizeLine)(hd:(a == sysModules)=false)(rel:KV kvs vs)(dd:h'.DictOf (zaE P w) a vs) :
  ObjOk P w H' h' a (.dK kvs):=⟨z,hd,vs,rel,dd⟩
end
section
variable {X:Cx}{pins:List (Addr × Obj)}{σ:St}{H:Hp}{s:Shared}{a:Addr}{kvs:List (Key × V)}{k:Key}{u:Value}{A:Around}{E:Value->Shared->Prop}
theorem d_len{Q:Value->Shared->Prop}(I:Inv X pins σ H s)(e:Rd H a (.dK kvs))(h:∀ t s',Inv X pins σ H s'->Q (.int kvs.length t) s'):wpAny (model X.prog X.w) A (call (.builtin "len") [.ref a]) Q E s:=by
 obtain ⟨z,hd,vs,rel,dd⟩:=dk_rd I.hok e
 refine call_len_dict hd dd (by rw [<-rel.length]; rw [sizeLine_eq] at z; lia) ?_
 rw [<-rel.length]
 exact h _ _ (I.tok _)
end
def NoSl(i:Expr):Prop:=∀ ov iv,subscripted i false ov iv=operate [ov,iv] (getItem ov iv)
theorem zkA{prog:Program}{w:World}{A:Around}{E:Value->Shared->Prop}{s:Shared}{env:Env}{value slice:Expr}{pos:Pos}{T id:String}{Q:Value->Shared->Prop}
  (hl:typeLookup (.type T) "__getitem__"=pure (some (.builtin id))) (hs:NoSl slice)
  (h:wpAny (model prog w) A (eval value env) (fun o s₁=>wpAny (model prog w) A (eval slice env) (fun i s₂=>s₂.TypeIs o T/\wpAny (model prog w) A (getItem o i) Q E s₂) E s₁) E s) :
  wpAny (model prog w) A (eval (.Subscript value slice pos) env) Q E s:=by
 refine Subscript_ (wpAny_mono h (fun o s₁ h₁=>wpAny_mono h₁ (fun i s₂ h₂=>?_) fun _ _ x=>x) fun _ _ x=>x)
 obtain ⟨hT,h₂⟩:=h₂
 unfold subscriptTail
 refine wpAny_bind ?_
 rw [getitemInPython_of_ne hT.not_modules]
 refine wpAny_bind (wpAny_specialOf hT hl ?_)
 have fin:wpAny (model prog w) A (subscripted slice false o i) (fun r s₃=>wpAny (model prog w) A (letTemporaryGo value o r >>= fun _=>pure r) Q E s₃) E s₂:=by
  rw [hs o i]
  exact wpAny_operating (wpAny_mono h₂ (fun r s₃ h₃=>wpAny_bind (wpAny_letTemporaryGo (wpAny_pure h₃))) fun _ _ x=>x)
 first
  | exact wpAny_pure (wpAny_bind fin)
  | exact wpAny_bind (wpAny_pure (wpAny_bind fin))
  | exact wpAny_bind fin
theorem zfT{X:Cx}{pins:List (Addr × Obj)}{σ:St}{H:Hp}{s:Shared}{a:Addr}{y:V}{o:Option V}(I:Inv X pins σ H s)(g:DGet H a y o):s.TypeIs (.ref a) "dict":=by
 rcases g with ⟨kvs,k,e,_,_⟩ | ⟨kvs,k,b,e,_,_,_⟩
 ·obtain ⟨_,_,vs,_,dd⟩:=dk_rd I.hok e
  exact dd.typeIs
 ·obtain ⟨_,_,xs,_,dd⟩:=dt_rd I.hok e
  exact dd.typeIs
def tDGet(td ty:TE):TE:=fun σ H Q=>td σ H fun x H1=>ty σ H1 fun y H2=>∃ a v,x=.ref a/\DGet H2 a y (some v)/\Q v H2
def zkz(ty td:TE):TE:=fun σ H Q=>ty σ H fun y H1=>td σ H1 fun x H2=>∃ a o,x=.ref a/\DGet H2 a y o/\Q (.bl (!o.isSome)) H2
section
variable {X:Cx}{o i e value:Expr}{pos pos' tpos:Pos}{td ty tv:TE}
theorem zhL(hu:X.A.units+1 < cLine)(ho:PE X o td)(hi:PE X i ty)(hs:NoSl i):PE X (.Subscript o i pos) (tDGet td ty):=by
 intro pins s σ H Q I h
 refine zkA PySem.F.slot_dict_getitem.lookup hs (thn (ho pins s σ H _ I h) fun u s1 h_=>?_); obtain ⟨x,H1,I1,rx,q1⟩:=h_; refine thn (hi pins s1 σ H1 _ I1 q1) fun iv s2 h_=>?_; obtain ⟨y,H2,I2,ry,a,v,ex,g,q2⟩:=h_
 subst ex
 obtain rfl:u=Value.ref a:=rx
 exact ⟨zfT I2 g,ziw hu I2 g ry fun w' s3 I3 rw'=>⟨v,H2,I3,rw',q2⟩⟩
theorem zhM(hu:X.A.units+1 < cLine)(hi:PE X i ty)(ho:PE X o td):PC X .NotIn i o (zkz ty td):=by
 intro pins s σ H Q I h
 refine thn (hi pins s σ H _ I h) fun iv s1 h_=>?_; obtain ⟨y,H1,I1,ry,q1⟩:=h_; refine thn (ho pins s1 σ H1 _ I1 q1) fun u s2 h_=>?_; obtain ⟨x,H2,I2,rx,a,ov,ex,g,q2⟩:=h_
 subst ex
 obtain rfl:u=Value.ref a:=rx
 exact zlw hu I2 g ry fun s3 I3=>⟨.bl (!ov.isSome),H2,I3,rfl,q2⟩
end
theorem zjD{P:Program}{w:World}{H:Hp}(h:Heap)(hb:sysModules < h.objs.size):ObjOk P w H (h.push { cls:=.type "dict",data:=.dict #[] }) h.objs.size (.dK []):=
 ⟨Nat.zero_le _,beq_eq_false_iff_ne.mpr (Ne.symm (Nat.ne_of_lt hb)),[],.nil,Heap.DictOf.new h⟩
end L2
namespace Att
open PySem PySem.W PySem.Calls PyProof.Rows
theorem zdE{P:Params}{h:Heap}:∀ (ns:List Int) (vs:List Value),WellAll P h vs (ns.map WData.int)->IntsAre vs ns:=by
 intro ns
 induction ns with
 | nil=>
  intro vs w
  rw [List.map_nil] at w
  cases w
  exact .nil
 | cons n ns ih=>
  intro vs w
  rw [List.map_cons] at w
  cases w with
  | cons a b=>
   cases a
   exact .cons _ _ (ih _ b)
theorem zeI{l:OpenLaw}{n:Nat}(hn:l.most=some n){P:Params}{h:Heap}{args:List WData}{vals:List Value}
  (hpre:l.row.toRowW.claim.pre args=true) (hwl:WellAll P h vals args) :
  ∃ a vs ns,vals=[Value.ref a]/\args=[WData.list (ns.map WData.int)]/\h.get? a=some { cls:=.type "list",data:=.seq vs.toArray }/\IntsAre vs ns/\ns.length<=n:=by
 have hsh:WShape.hasAll [] args [.list .int]=true:=(pre_splitW hpre).1
 have hc:l.pre.holds [] { args:=args }=true:=(pre_splitW hpre).2
 obtain ⟨d,r,rfl,h1,h2⟩:=hasAllW_cons hsh
 obtain rfl:=hasAllW_nil h2
 obtain ⟨xs,rfl,h3⟩:=hasW_list h1
 obtain ⟨ns,rfl⟩:=items_int h3
 have hlen:ns.length<=n:=by
  unfold OpenLaw.pre at hc
  have h4:(WTm.not (.lt (.lit (.int (n:Int))) (.len (.arg 0)))).holds [] { args:=[.list (ns.map .int)] }=true:=by
   have h4:=(holds_andW hc).1
   rw [hn] at h4
   exact h4
  have h5:=condW_of h4 (w_not (w_lt w_lit (w_len_list (w_arg rfl))))
  rw [List.length_map] at h5
  refine Nat.le_of_not_lt fun q=>?_
  have q':(n:Int) < ((ns.length:Nat):Int):=by lia
  first
   | (rw [decide_eq_true q'] at h5; exact absurd h5 (by decide))
   | (simp at h5; lia)
 cases hwl with
 | cons w1 w2=>
  cases w2
  cases w1 with
  | list ho hall=>exact ⟨_,_,ns,rfl,rfl,ho,zdE ns _ hall,hlen⟩
theorem zeU(l:OpenLaw)(args:List WData):l.row.toRowW.claim.post args (.bool true) args=true:=
 postW_of (r:=l.row.toRowW) (X:=(true == true))
  (show WShape.has [] (.bool true) .bool=true by first | rfl | decide | simp [WShape.has,WShape.arms,WShape.armsAll])
  (show (WTm.eq .res (.lit (.bool true))).value [] { args:=args,res:=some (.bool true),after:=args }=some (.bool (true == true)) from w_eq_bool (w_res rfl) w_lit) rfl
theorem attach{l:OpenLaw}{n:Nat}{q:Program}{loose:List Str}{XP:(Str->Option Value)->Heap->Prop}{YP:World->Heap->Prop}{d:DefRec}{x:Str}
  (hn:l.most=some n) (hdf:d.params.defaults=[])
  (hbind:∀ pm cd doc v:Value,bindArgs (docDef d.name d.params d.body d.scope pm cd doc) ⟨[v],[]⟩=pure [(x,v)])
  (hx:d.scope.names.lookup x=some .local∨d.scope.names.lookup x=some .cell)
  (hk:d.scope.kind=.function) (hco:d.scope.isCoroutine=false) (hgen:d.scope.isGenerator=false)
  (body:∀ (w:World) (s₀ s₁ s:Shared) (mg mb:Str->Option Value) (fa:Addr) (o:Obj) (pm cd doc:Value) (a:Addr) (vs:List Value) (ns:List Int),
   Ground q loose [] XP w s₀ mg mb s₁.heap->YP w s₁.heap->
   s₁.heap.get? fa=some o->o.data=.func (docDef d.name d.params d.body d.scope pm cd doc)->s₁.heap.CodeRec cd d.name->mg d.name=some (.ref fa)->
   s₁.heap.get? a=some { cls:=.type "list",data:=.seq vs.toArray }->IntsAre vs ns->ns.length<=n->
   s.gens=#[]->s.os=s₁.os->
   Fr s₁.heap s₁.heap.objs.size s.heap (bindL (envOfC d.name d.scope s₁.heap.objs.size fa cd).kindOf [(x,.ref a)] fun _=>none)->
   Cl s₁.heap.objs.size (cellsFrom (s₁.heap.objs.size+1) d.scope.names []) s.heap (bindC (envOfC d.name d.scope s₁.heap.objs.size fa cd).kindOf [(x,.ref a)] fun _=>none)->
   wpAny (model l.prog w) (callerA.deeper (envOfC d.name d.scope s₁.heap.objs.size fa cd)) (execs d.body (envOfC d.name d.scope s₁.heap.objs.size fa cd))
    (fun f s'=>f=.ret (.bool true)/\OldK s₁.heap s'.heap/\s'.os=s₁.os/\AllBare s'.gens) (fun _ _=>False) s) :
  WalkO q loose XP YP l.row.toRowW d [] (fun f vs=>PySem.call f vs):=by
 intro w s₀ s₁ mg mb G Y fa o pm cd doc dV kV ho hd hcd hD hmg hg args vals as hpre hlay hrd hwl hlo
 obtain rfl:dV=.none:=Dflts.none hD hdf
 obtain rfl:kV=.none:=Dflts.noKw hD
 obtain ⟨a,vs,ns,rfl,rfl,hobj,hints,hlen⟩:=zeI hn hpre hwl
 refine enter_call ?_
 refine call_cells_ret (o:=o) (by rw [depth_caller]; decide) ho (fd_plain hd) G.T.nolimit hcd (hbind pm cd doc (.ref a)) (fun y hy=>?_) (fun h₁ tk F X=>?_) hco hgen hk
 ·obtain rfl:y=(x,Value.ref a):=List.mem_singleton.mp hy
  rcases hx with e | e
  ·exact .inl e
  ·exact .inr ⟨e,cellsFrom_some _ _ _ (.inl e)⟩
 ·refine wpAny_mono (body w s₀ s₁ { s₁ with heap:=h₁,toks:=tk } mg mb fa o pm cd doc a vs ns G Y ho (fd_plain hd) hcd hmg hobj hints hlen hg rfl F X) (fun f s' hq=>?_) (fun _ _ hq=>hq)
  obtain ⟨rfl,h2,h3,h4⟩:=hq
  exact ⟨.inl ⟨.bool true,.bool true,[],rfl,fun _=>rfl,.bool true,zeU l _,fun _=>⟨List.Pairwise.nil,fun _ hm=>(nomatch hm)⟩⟩,h2,h3,h4⟩
theorem attach_call{l:OpenLaw}{n:Nat}{q:Program}{loose:List Str}{XP:(Str->Option Value)->Heap->Prop}{YP:World->Heap->Prop}{d:DefRec}
  (hn:l.most=some n) (hdf:d.params.defaults=[])
  (call:∀ (w:World) (s₀ s₁:Shared) (mg mb:Str->Option Value) (fa:Addr) (o:Obj) (pm cd doc:Value) (a:Addr) (vs:List Value) (ns:List Int),
   Ground q loose [] XP w s₀ mg mb s₁.heap->YP w s₁.heap->
   s₁.heap.get? fa=some o->o.data=.func (docDef d.name d.params d.body d.scope pm cd doc)->s₁.heap.CodeRec cd d.name->mg d.name=some (.ref fa)->
   s₁.heap.get? a=some { cls:=.type "list",data:=.seq vs.toArray }->IntsAre vs ns->ns.length<=n->s₁.gens=#[]->
   codeAny (model l.prog w) callerA (.call (.ref fa) ⟨[.ref a],[]⟩) (fun r s'=>r=.ok (.ret (.bool true))/\OldK s₁.heap s'.heap/\s'.os=s₁.os/\AllBare s'.gens) s₁) :
  WalkO q loose XP YP l.row.toRowW d [] (fun f vs=>PySem.call f vs):=by
 intro w s₀ s₁ mg mb G Y fa o pm cd doc dV kV ho hd hcd hD hmg hg args vals as hpre hlay hrd hwl hlo
 obtain rfl:dV=.none:=Dflts.none hD hdf
 obtain rfl:kV=.none:=Dflts.noKw hD
 obtain ⟨a,vs,ns,rfl,rfl,hobj,hints,hlen⟩:=zeI hn hpre hwl
 refine enter_call (codeAny_mono (call w s₀ s₁ mg mb fa o pm cd doc a vs ns G Y ho (fd_plain hd) hcd hmg hobj hints hlen hg) fun r s' hq=>?_)
 obtain ⟨rfl,h2,h3,h4⟩:=hq
 exact ⟨.inl ⟨.bool true,.bool true,[],rfl,fun _=>rfl,.bool true,zeU l _,fun _=>⟨List.Pairwise.nil,fun _ hm=>(nomatch hm)⟩⟩,h2,h3,h4⟩
end Att
namespace L2
open PySem PySem.Spec PyProof.Rows
theorem zeE:∀ {vs:List Value} {ns:List Int},IntsAre vs ns->Vals (ns.map V.int) vs
 | _,_,.nil=>.nil
 | _,_,.cons n t h=>.cons ⟨t,rfl⟩ (zeE h)
def Only(H:Hp):Prop:=∀ b,H b=none∨∃ o xs,H b=some (.frz o (.lst xs))
theorem zjo{P:Program}{w:World}{K:PySem.W.Frag}{mg mb:Str->Option Value}{CX:CXT}{k:Nat}{fa a:Addr}{fd:FuncData}{x:Str}{sp:Sp}{s₁:Shared}{vs:List Value}{ns:List Int}
  (KX:K.In s₁.heap) (hns:s₁.heap.Ns mainGlobals mg) (hb:s₁.heap.Ns builtinsNs mb) (hbb:∀ x:Str,x≠"__name__"->mb x=bootBuiltins x) (hlim:s₁.heap.NoLimit) (hg:s₁.gens=#[])
  (ha:s₁.heap.get? a=some { cls:=.type "list",data:=.seq vs.toArray }) (hi:IntsAre vs ns) (hl:ns.length<=sizeLine) (hr:Room k callerA)
  (F:∀ base:Heap,K.In base->base.Ns mainGlobals mg->FnOk P w K mg base CX k fa fd [x] sp) (hbind:∀ (s:Shared) (u:Value),BindsTo s fd ⟨[u],[]⟩ [(x,u)])
  (hsp:∀ H:Hp,Only H->SqL K H a (ns.map V.int)->sp [.ref a] H (fun v _=>v=.bl true) fun _ _ _=>False)
  (hCX:∀ H e s',CX [] H s₁ (fun _ _ _=>False) e s'->False) :
  codeAny (model P w) callerA (.call (.ref fa) ⟨[.ref a],[]⟩) (fun r s'=>r=.ok (.ret (.bool true))/\OldK s₁.heap s'.heap/\s'.os=s₁.os/\AllBare s'.gens) s₁:=by
 have rv:=zeE hi
 have lenV:=hi.length
 -- from an abstract heap in which nothing but the script may be tracked
 have core:∀ H:Hp,Only H->SqL K H a (ns.map V.int)->HOk P w H s₁.heap->(∀ b,H b≠none->b=a)->(H a≠none->K.lookup a=none)->
   codeAny (model P w) callerA (.call (.ref fa) ⟨[.ref a],[]⟩) (fun r s'=>r=.ok (.ret (.bool true))/\OldK s₁.heap s'.heap/\s'.os=s₁.os/\AllBare s'.gens) s₁:=by
  intro H hO hS hok hA hK
  have base_of:∀ {b:Addr} {o:Obj},s₁.heap.get? b=some o->H b=none->(hidT s₁.heap H).get? b=some o:=fun e n=>zjt e n
  have noA:∀ {b:Addr} {o:Obj} {es:Array DictEntry} {ep:Nat},s₁.heap.get? b=some o->o.data=.dict es ep->H b=none:=fun {b o es ep} e d=>by
   cases q:H b with
   | none=>rfl
   | some u=>
    have e':b=a:=hA b (by rw [q]; simp)
    subst e'
    rw [ha] at e; cases e
    have d':Data.seq vs.toArray _=Data.dict es ep:=d
    cases d'
  have nsK:∀ {b:Addr} {m:Str->Option Value},s₁.heap.Ns b m->(hidT s₁.heap H).Ns b m:=fun {b m} ⟨o,es,ep,e,d,r⟩=>⟨o,es,ep,base_of e (noA e d),d,r⟩
  have hKb:K.In (hidT s₁.heap H):=fun b o e=>base_of (KX b o e) (by
   cases q:H b with
   | none=>rfl
   | some u=>
    have e':b=a:=hA b (by rw [q]; simp)
    subst e'
    rw [hK (by rw [q]; simp)] at e; cases e)
  have hM:Mod K mg (hidT s₁.heap H):=⟨hKb,nsK hns,⟨mb,nsK hb,hbb⟩,let ⟨mc,h1,h2⟩:=hlim; ⟨mc,nsK h1,h2⟩⟩
  have e0:Env0 P w K mg (hidT s₁.heap H) callerA [] s₁ H:=⟨rfl,hM,fun b o e=>zl7 e,Nat.le_of_eq (zif _ _),trivial,fun b hb=>absurd (show b∈([]:List Addr) from hb) (by simp),hok,.of_eq hg⟩
  refine codeAny_mono ((F _ hKb (nsK hns)).run callerA [] s₁ H ⟨[.ref a],[]⟩ [.ref a] [.ref a] _ _ hr e0 (hbind s₁ (.ref a)) (.cons rfl .nil) (hsp H hO hS)) fun r s' h=>?_
  cases r with
  | error e=>exact (hCX H e s' h).elim
  | ok fl=>
   cases fl with
   | next=>exact False.elim h
   | brk=>exact False.elim h
   | cont=>exact False.elim h
   | ret u=>
    obtain ⟨v,H',os,bare,un,hok',r',q⟩:=h
    have q':v=.bl true:=q
    subst q'
    obtain rfl:u=Value.bool true:=r'
    refine ⟨rfl,OldK.of_keep fun b o e=>?_,os,bare⟩
    cases q:H b with
    | none=>exact un.keep b o e q (by intro z; exact absurd (show b∈([]:List Addr) from z) (by simp)) (by simp)
    | some u=>
     rcases hO b with z | ⟨ob,xs,z⟩
     ·rw [q] at z; cases z
     ·have z2:=un.frzs b ob _ z
      obtain ⟨e1,_⟩:=hok b _ z
      obtain ⟨e2,_⟩:=hok' b _ z2
      rw [e] at e1; cases e1
      exact e2
 cases hk:K.lookup a with
 | some o=>
  -- the script is one of the module's own objects
  have e:=KX a o hk
  rw [ha] at e
  cases e
  refine core (fun _=>none) (fun _=>.inl rfl) (.inr ⟨_,vs.toArray,_,hk,rfl,rfl,rfl,by rw [List.size_toArray,lenV]; exact hl,by simpa using rv⟩) (fun b u z=>by have z':(none:Option HO)=some u:=z; cases z') (fun b z=>absurd rfl z) fun z=>absurd rfl z
 | none=>
  refine core (fun b=>if b=a then some (.frz { cls:=.type "list",data:=.seq vs.toArray } (.lst (ns.map V.int))) else none) (fun b=>?_) (.inl (.inr ⟨{ cls:=.type "list",data:=.seq vs.toArray },if_pos rfl⟩)) (fun b u z=>?_) (fun b z=>?_) fun _=>hk
  ·by_cases hb:b=a
   ·exact .inr ⟨_,_,if_pos hb⟩
   ·exact .inl (if_neg hb)
  ·by_cases hb:b=a
   ·have z':=(if_pos hb).symm.trans z
    cases z'
    subst hb
    exact ⟨ha,by rw [List.length_map]; exact hl,vs,_,rv,ha⟩
   ·have z':=(if_neg hb).symm.trans z
    cases z'
  ·by_cases hb:b=a
   ·exact hb
   ·exact absurd (if_neg hb) z
end L2
namespace L2
open PySem PySem.Spec PyProof.Rows
theorem zhe{l:PySem.W.OpenLaw}{n k:Nat}{q:Program}{loose:List Str}{XP:(Str->Option Value)->Heap->Prop}{YP:World->Heap->Prop}{d:DefRec}{K:Params->PySem.W.Frag}{CX:World->CXT}{sp:World->Sp}{x:Str}
  (hn:l.most=some n) (hn2:n<=sizeLine) (hdf:d.params.defaults=[]) (hr:Room k callerA)
  (hY:∀ (w:World) (h:Heap),YP w h->(K w.params).In h)
  (F:∀ (w:World) (mg:Str->Option Value) (fa:Addr) (h:Heap),(K w.params).In h->h.Ns mainGlobals mg->mg d.name=some (.ref fa)->
   ∃ fd:FuncData,(∀ (s:Shared) (u:Value),BindsTo s fd ⟨[u],[]⟩ [(x,u)]) /\
    ∀ base:Heap,(K w.params).In base->base.Ns mainGlobals mg->FnOk l.prog w (K w.params) mg base (CX w) k fa fd [x] (sp w))
  (hsp:∀ (w:World) (H:Hp) (a:Addr) (ns:List Int),ns.length<=n->Only H->SqL (K w.params) H a (ns.map V.int)->sp w [.ref a] H (fun v _=>v=.bl true) fun _ _ _=>False)
  (hCX:∀ (w:World) (H:Hp) (s:Shared) (e:Value) (s':Shared),CX w [] H s (fun _ _ _=>False) e s'->False) :
  PySem.W.WalkO q loose XP YP l.row.toRowW d [] (fun f vs=>PySem.call f vs):=by
 refine Att.attach_call hn hdf fun w s₀ s₁ mg mb fa o pm cd doc a vs ns G Y ho hd hcd hmg hobj hints hlen hg=>?_
 have KX:=hY w _ Y
 obtain ⟨fd,hb,hF⟩:=F w mg fa _ KX G.T.g hmg
 exact zjo KX G.T.g G.T.b G.T.builtins G.T.nolimit hg hobj hints (Nat.le_trans hlen hn2) hr hF hb (fun H hO hS=>hsp w H a ns hlen hO hS) fun H e s'=>hCX w H s₁ e s'
end L2
namespace L2
open PySem PySem.Spec PyProof.Rows
def zap(s:Stmt):Arguments:=match s with
 | .FunctionDef _ a _ _ _ _ _ _ _ _=>a
 | _=>{ posonlyargs:=[],args:=[],vararg:=none,kwonlyargs:=[],kw_defaults:=[],kwarg:=none,defaults:=[] }
def zaj(s:Stmt):List Stmt:=match s with
 | .FunctionDef _ _ b _ _ _ _ _ _ _=>b
 | _=>[]
def za1(s:Stmt):Scope:=match s with
 | .FunctionDef _ _ _ _ _ _ sc _ _ _=>sc
 | _=>{ kind:=.function,names:=[],isGenerator:=false,isCoroutine:=false }
abbrev CX0:CXT:=fun _ _ _ _ _ _=>False
abbrev E0:XK:=fun _ _ _=>False
theorem pass0{X:Cx}:ziJ CX0 X E0:=fun _ _ _ _ _ _ _ h=>h.elim
structure Fun (K:PySem.W.Frag) (x qual:Str) (st:Stmt) (f:Addr) (fd:FuncData):Prop where
 ex:∃ (oc:Value) (od:Option Addr) (kV doc pm:Value) (an:Option Addr) (cdv ct:Value) (osl:Array (Option Value)),
  fd=PySem.W.fnOf x qual (zap st) (zaj st) (za1 st) .none kV doc pm an cdv ct/\K.lookup f=some ⟨oc,od,.func fd,osl⟩/\PySem.W.codeIn K cdv qual=true
 kp:PySem.W.keepIn K (.ref f)=true
section
variable {P:Program}{w:World}{K:PySem.W.Frag}{mg:Str->Option Value}{base:Heap}
theorem Fun.ok{x qual:Str}{st:Stmt}{f:Addr}{fd:FuncData}{N ps:List Str}{k:Nat}{sp:Sp}(F:Fun K x qual st f fd)(S:FnScope N ps (za1 st))(len:∀ vs H Q E,sp vs H Q E->vs.length=ps.length)
  (hbody:∀ (cdv:Value) (A:Around) (outer:List Env) (s:Shared) (H:Hp) (vs:List V) (Q:VK) (E:XK),Room k (A.deeper (envOfC qual (za1 st) s.heap.objs.size f cdv))->sp vs H Q E->
   ∃ t,PSs (cxOf CX0 P w K mg base N qual (za1 st) f cdv A outer s H E).nox (zaj st) t/\t { nx:=fun _ H'=>Q .non H',rt:=Q } (start N vs) H):FnOk P w K mg base CX0 (k+1) f fd ps sp:=by
 obtain ⟨oc,od,kV,doc,pm,an,cdv,ct,osl,rfl,lk,hcd⟩:=F.ex
 refine fn_of lk hcd S len fun A outer s H vs Q E hr hsp=>?_
 obtain ⟨t,h,q⟩:=hbody cdv A outer s H vs Q E hr hsp
 exact ⟨t,h.nox,q⟩
theorem Fun.binds{x qual:Str}{st:Stmt}{f:Addr}{fd:FuncData}{ps:List Str}(F:Fun K x qual st f fd)
  (h:∀ (kV doc pm:Value) (an:Option Addr) (cdv ct:Value) (us:List Value),us.length=ps.length->bindArgs (PySem.W.fnOf x qual (zap st) (zaj st) (za1 st) .none kV doc pm an cdv ct) ⟨us,[]⟩=pure (ps.zip us)):Binds K fd ps []:=by
 obtain ⟨oc,od,kV,doc,pm,an,cdv,ct,osl,rfl,lk,hcd⟩:=F.ex
 exact .all (h kV doc pm an cdv ct)
theorem zkc{x qual:Str}{st:Stmt}{f:Addr}{oc:Value}{od an:Option Addr}{osl:Array (Option Value)}{kV doc pm cdv ct:Value}(l:K.lookup f=some ⟨oc,od,.func (PySem.W.fnOf x qual (zap st) (zaj st) (za1 st) .none kV doc pm an cdv ct),osl⟩)
  (c:PySem.W.codeIn K cdv qual=true) (k:PySem.W.keepIn K (.ref f)=true):Fun K x qual st f (PySem.W.fnOf x qual (zap st) (zaj st) (za1 st) .none kV doc pm an cdv ct):=⟨⟨oc,od,kV,doc,pm,an,cdv,ct,osl,rfl,l,c⟩,k⟩
end
theorem hu_of{A:Around}{k:Nat}(hr:Room k A):A.units+1 < cLine:=Nat.lt_of_le_of_lt (Nat.add_le_add_left (by decide:1<=64) _) hr.units
section
variable {X:Cx}
theorem pv(i:Nat){x:Str}{pos:Pos}(hN:X.N[i]?=some x:=by rfl)(hv:Vis X.env.scope x:=by first | exact Or.inl rfl | exact Or.inr (Or.inl rfl) | exact Or.inr (Or.inr rfl))(hd:(x == ("__debug__":Str))=false:=by decide)
  (hcd:(x == ("__classdict__":Str))=false:=by decide):PE X (.Name x pos) (tVar i):=zmD hN hv hd hcd
end
end L2
namespace L2
open PySem PySem.Spec PyProof.Rows
theorem Inv.forget{X:Cx}{pins:List (Addr × Obj)}{sg sg':St}{H:Hp}{s:Shared}(I:Inv X pins sg H s)(hl:sg'.length=sg.length)(h:∀ (i:Nat) (v:V),sg'[i]?=some (some v)->sg[i]?=some (some v)):Inv X pins sg' H s:=by
 obtain ⟨m,hn,hm⟩:=I.loc
 exact ⟨I.ok,I.os,I.bare,I.base,⟨m,hn,fun i x v e1 e2 e3=>hm i x v e1 (h i v e2) e3⟩,I.cell,I.free,I.freeC,I.pin,I.hok,by rw [hl]; exact I.len⟩
def zae(X:Cx)(N:List Str)(scope:Scope)(cl:List (Str × Addr))(C:Addr)(s0:Shared)(H0:Hp)(fp:List Addr):Cx where
 prog:=X.prog
 w:=X.w
 K:=X.K
 mg:=X.mg
 base:=X.base
 A:=X.A
 N:=N
 s₀:=s0
 H₀:=H0
 env:=compEnvC scope cl C X.env
 outer:=X.stack
 stack:=X.stack
 ex:=fp
 fn:=fun _=>false
 calm:=X.calm
 pn:=[]
 xe:=fun _ _=>False
def capOk(N:List Str)(XN:List Str)(sc outer:Scope)(caps:List (Option Nat)):Bool:=
 decide (caps.length=N.length)&&((List.range caps.length).all fun i=>match caps[i]? with
  | some (some j)=>(match N[i]?,XN[j]? with
   | some x,some y=>x == y&&sc.names.lookup x == some .free&&(outer.names.lookup x == some .cell||outer.names.lookup x == some .free)
   | _,_=>false)
  | _=>true)
def capSt(caps:List (Option Nat))(sg:St):St:=caps.map fun o=>o.bind fun j=>(sg[j]?).join
theorem capOk.len{N XN:List Str}{sc outer:Scope}{caps:List (Option Nat)}(h:capOk N XN sc outer caps=true):caps.length=N.length:=by
 unfold capOk at h
 rw [Bool.and_eq_true] at h
 exact of_decide_eq_true h.1
theorem capOk.get{N XN:List Str}{sc outer:Scope}{caps:List (Option Nat)}(h:capOk N XN sc outer caps=true){i j:Nat}(e:caps[i]?=some (some j)) :
  ∃ x,N[i]?=some x/\XN[j]?=some x/\sc.names.lookup x=some .free/\(outer.names.lookup x=some .cell∨outer.names.lookup x=some .free):=by
 unfold capOk at h
 rw [Bool.and_eq_true] at h
 have hi:i < caps.length:=(List.getElem?_eq_some_iff.mp e).1
 have q:=List.all_eq_true.mp h.2 i (List.mem_range.mpr hi)
 rw [e] at q
 dsimp only at q
 cases h1:N[i]? with
 | none=>rw [h1] at q; cases q
 | some x=>
  cases h2:XN[j]? with
  | none=>rw [h1,h2] at q; cases q
  | some y=>
   rw [h1,h2] at q
   dsimp only at q
   rw [Bool.and_eq_true,Bool.and_eq_true,Bool.or_eq_true] at q
   obtain ⟨⟨q1,q2⟩,q3⟩:=q
   have e1:x=y:=eq_of_beq q1
   subst e1
   exact ⟨x,rfl,rfl,by simpa using q2,q3.imp (fun z=>by simpa using z) fun z=>by simpa using z⟩
theorem zcV{env:Env}:∀ (names:List (Str × NameKind)) (acc:List (Str × Addr)),(∀ x,(x,NameKind.free)∈names->∃ c,env.cells.lookup x=some c)->
  ∃ cl,(forIn (m:=Sem) names acc fun (p:Str × NameKind) cs=>(if p.2 == NameKind.free then (do let c <-cellOf env p.1; pure (ForInStep.yield ((p.1,c)::cs))) else pure (ForInStep.yield cs)))=pure cl /\
   (∀ p∈cl,p∈acc∨env.cells.lookup p.1=some p.2)/\(∀ p∈acc,p∈cl)/\(∀ x,(x,NameKind.free)∈names->∃ c,(x,c)∈cl)
 | [],acc,_=>⟨acc,rfl,fun p hp=>.inl hp,fun p hp=>hp,fun x hx=>nomatch hx⟩
 | (n,k)::r,acc,h=>by
  by_cases hk:k=.free
  ·subst hk
   obtain ⟨c,hc⟩:=h n List.mem_cons_self
   obtain ⟨cl,e,h1,h2,h3⟩:=zcV r ((n,c)::acc) fun x hx=>h x (List.mem_cons_of_mem _ hx)
   refine ⟨cl,?_,fun p hp=>?_,fun p hp=>h2 p (List.mem_cons_of_mem _ hp),fun x hx=>?_⟩
   ·rw [List.forIn_cons,if_pos (by rfl)]
    show (do let c <-cellOf env n; pure (ForInStep.yield ((n,c)::acc)):Sem _) >>= _=_
    rw [cellOf,hc]
    exact e
   ·rcases h1 p hp with z | z
    ·rcases List.mem_cons.mp z with z | z
     ·subst z; exact .inr hc
     ·exact .inl z
    ·exact .inr z
   ·rcases List.mem_cons.mp hx with z | z
    ·injection z with z1 _
     subst z1
     exact ⟨c,h2 _ List.mem_cons_self⟩
    ·exact h3 x z
  ·obtain ⟨cl,e,h1,h2,h3⟩:=zcV r acc fun x hx=>h x (List.mem_cons_of_mem _ hx)
   refine ⟨cl,?_,h1,h2,fun x hx=>?_⟩
   ·rw [List.forIn_cons,if_neg (by simpa using hk)]
    exact e
   ·rcases List.mem_cons.mp hx with z | z
    ·injection z with _ z2
     exact absurd z2.symm hk
    ·exact h3 x z
theorem zaW{scope:Scope}{env:Env}(h:∀ x,(x,NameKind.free)∈scope.names->∃ c,env.cells.lookup x=some c) :
  ∃ cl,closureFor scope env=pure cl/\(∀ p∈cl,env.cells.lookup p.1=some p.2)/\(∀ x,(x,NameKind.free)∈scope.names->∃ c,(x,c)∈cl):=by
 obtain ⟨cl,e,h1,_,h3⟩:=zcV scope.names [] h
 refine ⟨cl,?_,fun p hp=>(h1 p hp).resolve_left (by simp),h3⟩
 have e2:closureFor scope env=((forIn (m:=Sem) scope.names ([]:List (Str × Addr)) fun (p:Str × NameKind) cs=>(if p.2 == NameKind.free then (do let c <-cellOf env p.1; pure (ForInStep.yield ((p.1,c)::cs))) else pure (ForInStep.yield cs))) >>= fun cs=>pure cs):=rfl
 rw [e2,e]
 rfl
end L2
namespace L2
open PySem PySem.Spec PyProof.Rows
theorem za4{α β:Type}[BEq α][LawfulBEq α]{x:α}{y:β}:∀ {l:List (α × β)},l.lookup x=some y->(x,y)∈l
 | (a,b)::r,h=>by
  rw [List.lookup_cons] at h
  cases hx:x == a with
  | true=>
   rw [hx] at h
   have e:b=y:=Option.some.inj h
   rw [eq_of_beq hx,e]
   exact List.mem_cons_self
  | false=>rw [hx] at h; exact List.mem_cons_of_mem _ (za4 h)
theorem zaf{α β:Type}[BEq α][LawfulBEq α]{x:α}{y:β}:∀ {l:List (α × β)},(x,y)∈l->∃ z,l.lookup x=some z
 | (a,b)::r,h=>by
  rw [List.lookup_cons]
  cases hx:x == a with
  | true=>exact ⟨b,rfl⟩
  | false=>
   rcases List.mem_cons.mp h with z | z
   ·injection z with z1 _
    rw [z1] at hx
    simp at hx
   ·exact zaf z
theorem zeP{scope:Scope}{env:Env}(hcell:∀ y∈scope.names,y.2≠.cell){x:Str}(h:(relabel scope env).names.lookup x=some .cell∨(relabel scope env).names.lookup x=some .free):(x,NameKind.free)∈scope.names:=by
 have key:∀ k,(x,k)∈(relabel scope env).names->k=.cell∨k=.free->(x,NameKind.free)∈scope.names:=fun k hm hk=>by
  obtain ⟨⟨n,k'⟩,hn,e⟩:=List.mem_map.mp hm
  dsimp only at e
  split at e
  ·rename_i hc
   injection e with e1 e2
   subst e1
   have:k'=.free:=by
    simp only [Bool.and_eq_true] at hc
    simpa using hc.1.1
   subst this
   exact hn
  ·injection e with e1 e2
   subst e1; subst e2
   rcases hk with z | z
   ·subst z; exact absurd rfl (hcell _ hn)
   ·subst z; exact hn
 rcases h with h | h
 ·exact key _ (za4 h) (.inl rfl)
 ·exact key _ (za4 h) (.inr rfl)
theorem zcc{env:Env}{x:Str}:∀ {names:List (Str × NameKind)},names.lookup x=some .free->
  (names.map fun (n,k)=>if (k == NameKind.free&&env.scope.kind == .function&&env.kindOf n == some .cell) then (n,NameKind.cell) else (n,k)).lookup x=some .cell ∨
  (names.map fun (n,k)=>if (k == NameKind.free&&env.scope.kind == .function&&env.kindOf n == some .cell) then (n,NameKind.cell) else (n,k)).lookup x=some .free
 | (n,k)::r,h=>by
  rw [List.lookup_cons] at h
  rw [List.map_cons]
  cases hx:x == n with
  | true=>
   rw [hx] at h
   have e:k=.free:=Option.some.inj h
   subst e
   dsimp only
   split
   ·left; rw [List.lookup_cons,hx]
   ·right; rw [List.lookup_cons,hx]
  | false=>
   rw [hx] at h
   have ih:=zcc (env:=env) h
   dsimp only
   split<;>(rw [List.lookup_cons,hx]; exact ih)
section
variable {X:Cx}{N:List Str}{scope:Scope}{cl:List (Str × Addr)}{caps:List (Option Nat)}{pins:List (Addr × Obj)}{sg:St}{H:Hp}{s:Shared}{fp:List Addr}{h1:Heap}{tk:Nat}{m0:Str->Option Value}
theorem zbg(hkind:scope.kind=.function)(hcell:∀ y∈scope.names,y.2≠.cell)(I:Inv X pins sg H s)
  (hcl1:∀ p∈cl,X.env.cells.lookup p.1=some p.2) (hcl2:∀ x,(x,NameKind.free)∈scope.names->∃ c,(x,c)∈cl)
  (hf:∀ b∈fp,FpOk X pins H b) (hlt:∀ b∈fp,b < s.heap.objs.size):(zae X N scope cl s.heap.objs.size s H fp).Ok where
 mod:=I.ok.mod
 kind:=hkind
 glob:=I.ok.glob
 blt:=I.ok.blt
 above:=Nat.le_refl _
 inj:=fun x y c hx hy=>I.ok.inj x y c (hcl1 (x,c) (za4 hx)) (hcl1 (y,c) (za4 hy))
 has:=fun x hx=>by
  obtain ⟨c,hc⟩:=hcl2 x (zeP hcell hx)
  exact zaf hc
 cab:=fun x c hx=>nomatch hx
 hd:=I.ok.hd
 frames:=I.ok.frames
 stk:=.inl rfl
 exf:=fun b hb=>⟨Nat.ne_of_lt (hlt b hb),fun x c hx=>(hf b hb).2.2.2.2.1 x c (hcl1 (x,c) (za4 hx))⟩
 bs:=I.bs
 bsz:=Nat.le_trans I.ok.bsz I.sz
 noex:=fun b o e hb=>by
  rcases (hf b hb).2.2.2.1 with z | z
  ·exact I.ok.noex b o e z
  ·exact absurd (Nat.lt_of_lt_of_le (Heap.lt_size e) (Nat.le_trans I.ok.bsz z)) (Nat.lt_irrefl _)
 exfs:=fun b hb z=>by
  rcases List.mem_cons.mp (I.stkSub b z) with e | e
  ·exact (hf b hb).2.1 e
  ·exact (hf b hb).2.2.1 e
 funs:=I.stack
 frf:=I.stkFree
theorem zcU(hcap:capOk N X.N scope X.env.scope caps=true)(hkind:scope.kind=.function)(hcell:∀ y∈scope.names,y.2≠.cell)(I:Inv X pins sg H s)
  (hcl1:∀ p∈cl,X.env.cells.lookup p.1=some p.2) (hcl2:∀ x,(x,NameKind.free)∈scope.names->∃ c,(x,c)∈cl)
  (hf:∀ b∈fp,FpOk X pins H b) (hlt:∀ b∈fp,b < s.heap.objs.size) (hk:∀ b u,s.heap.get? b=some u->h1.get? b=some u) (hns:h1.Ns s.heap.objs.size m0) :
  Inv (zae X N scope cl s.heap.objs.size s H fp) [] (capSt caps sg) H { s with heap:=h1,toks:=tk } where
 ok:=zbg hkind hcell I hcl1 hcl2 hf hlt
 os:=rfl
 bare:=I.bare
 base:=Un.kept hk
 loc:=by
  refine ⟨m0,hns,fun i x v e1 e2 e3=>?_⟩
  have e2':∃ j,caps[i]?=some (some j)/\sg[j]?=some (some v):=by
   unfold capSt at e2
   rw [List.getElem?_map] at e2
   cases hc:caps[i]? with
   | none=>rw [hc] at e2; simp at e2
   | some o=>
    rw [hc] at e2
    cases o with
    | none=>simp at e2
    | some j=>
     refine ⟨j,rfl,?_⟩
     simp only [Option.map_some,Option.bind_some,Option.some.injEq] at e2
     cases hj:sg[j]? with
     | none=>rw [hj] at e2; simp at e2
     | some y=>rw [hj] at e2; simp at e2; rw [e2]
  obtain ⟨j,hj1,hj2⟩:=e2'
  obtain ⟨x',n1,n2,f1,f2⟩:=capOk.get hcap hj1
  have e1':N[i]?=some x:=e1
  rw [e1'] at n1
  obtain rfl:x=x':=Option.some.inj n1
  obtain ⟨m,hn,hm⟩:=I.loc
  obtain ⟨u,ru,l⟩:=hm j x v n2 hj2 (f2.elim (fun z=>.inr (.inl z)) fun z=>.inr (.inr z))
  refine ⟨u,ru,.inr ⟨zcc f1,?_⟩⟩
  rcases l with ⟨k,_⟩ | ⟨_,c,hc,hcell⟩
  ·have k':X.env.scope.names.lookup x=some .local:=k
   rcases f2 with z | z<;>(rw [k'] at z; cases z)
  ·obtain ⟨c',hc'⟩:=hcl2 x (za4 f1)
   obtain ⟨c'',hc''⟩:=zaf hc'
   have q:X.env.cells.lookup x=some c'':=hcl1 (x,c'') (za4 hc'')
   rw [hc] at q
   obtain rfl:c=c'':=Option.some.inj q
   obtain ⟨o,ho,hd⟩:=hcell
   exact ⟨c,hc'',o,hk c o ho,hd⟩
 cell:=fun x c hx=>by
  obtain ⟨v,o,ho,hd⟩:=I.cell x c (hcl1 (x,c) (za4 hx))
  exact ⟨v,o,hk c o ho,hd⟩
 free:=I.hok.fresh (Nat.le_refl _)
 freeC:=fun x c hx=>I.freeC x c (hcl1 (x,c) (za4 hx))
 pin:=fun p hp=>nomatch hp
 hok:=I.hok.kept hk
 len:=by
  show (capSt caps sg).length=N.length
  unfold capSt
  rw [List.length_map]
  exact capOk.len hcap
end
def PTs(X:Cx)(ifs:List Expr)(t:TT):Prop:=
 ∀ (pins:List (Addr × Obj)) (s:Shared) (sg:St) (H:Hp) (Q:Bool->Hp->Prop),Inv X pins sg H s->t sg H Q->
  wpAny (model X.prog X.w) X.A (forIn ifs true fun c r=>if r=true then do let ok <-isTrue c X.env (eval c X.env); pure (ForInStep.yield ok) else pure (ForInStep.yield r)) (TP X pins sg Q) X.xe s
def tAll:TT:=fun _ H Q=>Q true H
theorem zkU{X:Cx}:PTs X [] tAll:=fun _ _ _ H _ I h=>wpAny_tests_nil ⟨H,I,h⟩
theorem zkT{X:Cx}{c:Expr}{t:TT}(h:PT X c t):PTs X [c] t:=fun pins s sg H Q I hq=>wpAny_tests_one (h pins s sg H Q I hq)
section
variable {prog:Program}{w:World}{A:Around}{R:Result->Shared->Prop}{s:Shared}
theorem zda{elt target iter:Expr}{ifs:List Expr}{scope:Scope}{pos:Pos}{it acc:Value}{env:Env}(I:Nat->Shared->Prop)
  (turn:∀ n s,I n s->wpAny (model prog w) A (pyNext it) (fun r s1=>match r with
   | none=>R (.ok .next) s1
   | some v=>wpAny (model prog w) A (letOwnedTupleGo target it v) (fun _ s1'=>wpAny (model prog w) A (assign target env v) (fun _ s2=>
     wpAny (model prog w) A (forIn ifs true fun c r=>if r=true then do let ok <-isTrue c env (eval c env); pure (ForInStep.yield ok) else pure (ForInStep.yield r)) (fun ok s3=>
      if ok=true then wpAny (model prog w) A (eval elt env) (fun x s4=>
       wpAny (model prog w) A (call (.builtin "list.append") [acc,x]) (fun _ s5=>∃ m,m < n/\I m s5) (fun _ _=>False) s4) (fun _ _=>False) s3
      else ∃ m,m < n/\I m s3) (fun _ _=>False) s2) (fun _ _=>False) s1') (fun _ _=>False) s1) (fun _ _=>False) s)
  (n:Nat) (h:I n s) :
  codeAny (model prog w) A (.compLoop (.ListComp elt [⟨target,iter,ifs,0⟩] scope pos) 0 it acc env) R s:=by
 refine codeAny_loop rfl I (fun n s hI=>?_) n h
 show wpAny _ A ((compTurn (.ListComp elt [⟨target,iter,ifs,0⟩] scope pos) 0 it acc env).onRaise (fun x=>do noteFrame x env; theTreesLotGoes x)) _ _ s
 refine wpAny_noted ?_
 rw [compTurn_list]
 refine wpAny_bind (wpAny_standAt (wpAny_bind (wpAny_mono (turn n s hI) (fun r s1 h1=>?_) fun _ _ h'=>h'.elim)))
 cases r with
 | none=>exact wpAny_pure h1
 | some v=>
  refine wpAny_bind (wpAny_mono h1 (fun _ s1' h1'=>?_) fun _ _ h'=>h'.elim)
  refine wpAny_bind (wpAny_mono h1' (fun _ s2 h2=>wpAny_bind (wpAny_mono h2 (fun ok s3 h3=>?_) fun _ _ h'=>h'.elim)) fun _ _ h'=>h'.elim)
  cases ok with
  | false=>exact wpAny_pure ⟨rfl,h3⟩
  | true=>
   exact wpAny_bind (wpAny_bind (wpAny_mono h3 (fun x s4 h4=>wpAny_bind (wpAny_mono h4 (fun _ s5 h5=>wpAny_pure (wpAny_pure ⟨rfl,h5⟩)) fun _ _ h'=>h'.elim)) fun _ _ h'=>h'.elim))
end
def KeepG(caps:List (Option Nat))(g:TG):Prop:=∀ (x:V) (sg:St) (H:Hp) (Q:St->Hp->Prop),g x sg H Q->g x sg H fun s2 H2=>Q s2 H2/\∀ (j k:Nat),caps[j]?=some (some k)->s2[j]?=sg[j]?
def zgN(caps:List (Option Nat))(g:TGs):Prop:=∀ (x:List V) (sg:St) (H:Hp) (Q:St->Hp->Prop),g x sg H Q->g x sg H fun s2 H2=>Q s2 H2/\∀ (j k:Nat),caps[j]?=some (some k)->s2[j]?=sg[j]?
theorem zb0{caps:List (Option Nat)}{i:Nat}(h:caps[i]?=some none:=by rfl):KeepG caps (gName i):=fun x sg H Q q=>⟨q,fun j k e=>by
 have:i≠j:=fun z=>by subst z; rw [h] at e; cases e
 exact List.getElem?_set_ne this⟩
theorem zn3{caps:List (Option Nat)}:zgN caps gNil:=fun x sg H Q ⟨e,q⟩=>⟨e,q,fun _ _ _=>rfl⟩
theorem zi3{caps:List (Option Nat)}{t:TG}{u:TGs}(mt:∀ x sg H (Q Q':St->Hp->Prop),(∀ a b,Q a b->Q' a b)->t x sg H Q->t x sg H Q')(mu:∀ x sg H (Q Q':St->Hp->Prop),(∀ a b,Q a b->Q' a b)->u x sg H Q->u x sg H Q')
  (h:KeepG caps t) (h2:zgN caps u):zgN caps (gCons t u):=fun x sg H Q ⟨v,r,e,q⟩=>
 ⟨v,r,e,mt _ _ _ _ _ (fun s2 H2 ⟨q2,k2⟩=>mu _ _ _ _ _ (fun s3 H3 ⟨q3,k3⟩=>⟨q3,fun j k e=>(k3 j k e).trans (k2 j k e)⟩) (h2 _ _ _ _ q2)) (h _ _ _ _ q)⟩
theorem zn2{caps:List (Option Nat)}{K:PySem.W.Frag}{n:Nat}{t:TGs}(h:zgN caps t):KeepG caps (gTup K n t):=fun x sg H Q ⟨a,xs,e,hq,hl,q⟩=>⟨a,xs,e,hq,hl,h _ _ _ _ q⟩
theorem zcS{i:Nat}:∀ x sg H (Q Q':St->Hp->Prop),(∀ a b,Q a b->Q' a b)->gName i x sg H Q->gName i x sg H Q':=fun _ _ _ _ _ h q=>h _ _ q
theorem zfc:∀ x sg H (Q Q':St->Hp->Prop),(∀ a b,Q a b->Q' a b)->gNil x sg H Q->gNil x sg H Q':=fun _ _ _ _ _ h q=>⟨q.1,h _ _ q.2⟩
theorem zh5{t:TG}{u:TGs}(mt:∀ x sg H (Q Q':St->Hp->Prop),(∀ a b,Q a b->Q' a b)->t x sg H Q->t x sg H Q')(mu:∀ x sg H (Q Q':St->Hp->Prop),(∀ a b,Q a b->Q' a b)->u x sg H Q->u x sg H Q') :
  ∀ x sg H (Q Q':St->Hp->Prop),(∀ a b,Q a b->Q' a b)->gCons t u x sg H Q->gCons t u x sg H Q':=fun _ _ _ _ _ h ⟨v,r,e,q⟩=>⟨v,r,e,mt _ _ _ _ _ (fun _ _ z=>mu _ _ _ _ _ h z) q⟩
theorem zld{caps:List (Option Nat)}{K:PySem.W.Frag}{i j:Nat}(h:caps[i]?=some none:=by rfl)(h2:caps[j]?=some none:=by rfl):KeepG caps (gTup K 2 (gCons (gName i) (gCons (gName j) gNil))):=
 zn2 (zi3 zcS (zh5 zcS zfc) (zb0 h) (zi3 zcS zfc (zb0 h2) zn3))
def lcW(J:It)(g:TG)(tt:TT)(te:TE)(sg':St)(Q:VK)(H1:Hp):Prop:=
 ∀ D,H1 D=none->∃ W:Nat->Nat->Hp->Prop,(∃ m,W 0 m (upd H1 D (.lst [])))/\∀ i m H,W i m H->
  (J.stop i H/\Q (.ref D) H)∨(J.go i H/\∀ x H',J.yld i H x H'->g x sg' H' fun s2 H2=>tt s2 H2 fun b H3=>if b=true then
   te s2 H3 fun y H4=>∃ xs,H4 D=some (.lst xs)/\xs.length < sizeLine/\∃ m',m' < m/\W (i+1) m' (upd H4 D (.lst (xs++[y])))
   else ∃ m',m' < m/\W (i+1) m' H3)
section
variable {X:Cx}{N:List Str}{scope:Scope}{caps:List (Option Nat)}{tg elt iter:Expr}{ifs:List Expr}{wi:TI}{g:TG}{tt:TT}{te:TE}{pos:Pos}
theorem zgs{pins:List (Addr × Obj)}{sg:St}{H:Hp}{s2:Shared}{cl:List (Str × Addr)}{it:Addr}{fp:List Addr}{tn:Nat->Heap->Prop}{J:It}{Q:VK}{E:Value->Shared->Prop}{RR:Value->Addr->Result->Shared->Prop}
  (hc:X.calm=true) (hcap:capOk N X.N scope X.env.scope caps=true) (hkind:scope.kind=.function) (hcell:∀ y∈scope.names,y.2≠.cell)
  (hg:∀ cl C s0 H0 fp,PG (zae X N scope cl C s0 H0 fp) tg g) (hgk:KeepG caps g) (ht:∀ cl C s0 H0 fp,PTs (zae X N scope cl C s0 H0 fp) ifs tt) (he:∀ cl C s0 H0 fp,PE (zae X N scope cl C s0 H0 fp) elt te)
  (hcl1:∀ p∈cl,X.env.cells.lookup p.1=some p.2) (hcl2:∀ x,(x,NameKind.free)∈scope.names->∃ c,(x,c)∈cl)
  (I2:Inv X pins sg H s2) (T:Turn X.prog X.w X.K tg J fp it tn) (st2:tn 0 s2.heap) (f2:∀ b∈fp,FpOk X pins H b) (hw:lcW J g tt te (capSt caps sg) Q H)
  (hRR:∀ (D C:Addr) (s':Shared) (H':Hp) (m':Str->Option Value),Inv X pins sg H' s'->s'.heap.Ns C m'->H' C=none->s2.heap.objs.size<=C->(∀ x c,X.env.cells.lookup x=some c->c≠C)->(∀ p∈X.pn++pins,p.1≠C)->C≠X.env.locals->Q (.ref D) H'->RR (.ref D) C (.ok .next) s') :
  wpAny (model X.prog X.w) X.A (newList []) (fun acc s3=>wpAny (model X.prog X.w) X.A (newFunctionEnv scope X.env.globals cl [] X.env.qual none .none (some X.env)) (fun cenv s4=>
   codeAny (model X.prog X.w) X.A (.compStart (.ListComp elt [⟨tg,iter,ifs,0⟩] scope pos) 0 (.ref it) acc { cenv with scope:=relabel scope X.env }) (RR acc cenv.locals) s4) E s3) E s2:=by
 refine wpAny_newObj_type ?_
 have I3:Inv X pins sg (upd H s2.heap.objs.size (.lst [])) { s2 with heap:=s2.heap.push { cls:=.type "list",dict:=none,data:=.seq ([]:List Value).toArray } }:=
  I2.laid (t':=s2.toks) (fun b u e=>Heap.get?_push_of_some _ e) (Nat.le_refl _) ⟨Nat.zero_le _,[],0,.nil,Heap.get?_push_size _ rfl⟩
 have hfree:H s2.heap.objs.size=none:=I2.hok.fresh (Nat.le_refl _)
 obtain ⟨W,⟨mm,w0⟩,turn⟩:=hw s2.heap.objs.size hfree
 generalize hD:s2.heap.objs.size=D at *
 generalize hs3:({ s2 with heap:=s2.heap.push { cls:=.type "list",dict:=none,data:=.seq ([]:List Value).toArray } }:Shared)=s3 at *
 have hlt3:∀ b o,s2.heap.get? b=some o->s3.heap.get? b=some o:=fun b o e=>by rw [<-hs3]; exact Heap.get?_push_of_some _ e
 have hsz3:s3.heap.objs.size=D+1:=by rw [<-hs3,<-hD]; exact Heap.size_push ..
 have fpD:∀ b∈fp,b < D:=fun b hb=>by
  obtain ⟨o,ho,_⟩:=T.obj 0 _ st2 b hb
  rw [<-hD]; exact Heap.lt_size ho
 have f3:∀ b∈fp,FpOk X pins (upd H D (.lst [])) b:=fun b hb=>⟨by rw [za5 (Nat.ne_of_lt (fpD b hb))]; exact (f2 b hb).1,(f2 b hb).2⟩
 have lt3:∀ b∈fp,b < s3.heap.objs.size:=fun b hb=>by rw [hsz3]; exact Nat.lt_succ_of_lt (fpD b hb)
 have st3:tn 0 s3.heap:=T.keep 0 _ _ st2 fun b _ o e=>hlt3 b o e
 refine wpAny_newFunctionEnv hcell (by intro y hy; simp at hy) (fun h1 hns1 hsb1=>?_) hkind
 try dsimp only at hns1 hsb1 ⊢
 have keep1:∀ b u,s3.heap.get? b=some u->h1.get? b=some u:=fun b u e=>hsb1.extBut b u (Nat.ne_of_lt (Heap.lt_size e)) (Heap.get?_push_of_some _ e)
 have I4:=zcU (N:=N) (tk:=s3.toks+([]:List (Str × Value)).length) hcap hkind hcell I3 hcl1 hcl2 f3 lt3 keep1 hns1
 have loop:codeAny (model X.prog X.w) X.A (.compLoop (.ListComp elt [⟨tg,iter,ifs,0⟩] scope pos) 0 (.ref it) (.ref D) (compEnvC scope cl s3.heap.objs.size X.env)) (RR (.ref D) s3.heap.objs.size) { s3 with heap:=h1,toks:=s3.toks+([]:List (Str × Value)).length }:=by
  generalize hX':zae X N scope cl s3.heap.objs.size s3 (upd H D (.lst [])) fp=X' at I4
  have eP:X'.prog=X.prog:=by rw [<-hX']; rfl
  have ew:X'.w=X.w:=by rw [<-hX']; rfl
  have eK:X'.K=X.K:=by rw [<-hX']; rfl
  have eA:X'.A=X.A:=by rw [<-hX']; rfl
  have eE:X'.env=compEnvC scope cl s3.heap.objs.size X.env:=by rw [<-hX']; rfl
  have ex:X'.xe=fun _ _=>False:=by rw [<-hX']; rfl
  have ecalm:X'.calm=true:=by rw [<-hX']; exact hc
  have hg':PG X' tg g:=by rw [<-hX']; exact hg _ _ _ _ _
  have ht':PTs X' ifs tt:=by rw [<-hX']; exact ht _ _ _ _ _
  have he':PE X' elt te:=by rw [<-hX']; exact he _ _ _ _ _
  have stat:∀ {H':Hp},(∀ b∈fp,H' b=none)->∀ b∈fp,FpOk X' [] H' b:=fun {H'} hn b hb=>by
   refine ⟨hn b hb,?_,?_,?_,?_,fun p hp=>?_⟩
   ·rw [<-hX']; exact Nat.ne_of_lt (lt3 b hb)
   ·rw [<-hX']
    exact fun z=>(zbg (N:=N) hkind hcell I3 hcl1 hcl2 f3 lt3).exfs b hb z
   ·rw [<-hX']; exact .inl hb
   ·rw [<-hX']
    exact ((zbg (N:=N) hkind hcell I3 hcl1 hcl2 f3 lt3).exf b hb).2
   ·rw [<-hX'] at hp; cases hp
  have out:∀ {sg':St} {H':Hp} {s':Shared},Inv X' [] sg' H' s'->Inv X pins sg H' s':=fun {sg' H' s'} I'=>by
   have hb:=I'.base
   rw [<-hX'] at hb
   have ho:=I'.os
   rw [<-hX'] at ho
   have hk:=I'.hok
   rw [eP,ew] at hk
   exact I3.call' (ch:=fp) ho hb hk I'.bare fun b hb=>⟨(f3 b hb).2.2.2.1,(f3 b hb).2.1,(f3 b hb).2.2.2.2.1,(f3 b hb).2.2.2.2.2⟩
  rw [<-eE,<-eA,<-eP,<-ew]
  refine zda (fun n s'=>∃ i H',Inv X' [] (capSt caps sg) H' s'/\tn i s'.heap/\(∀ b∈fp,H' b=none)/\W i n H') ?_ mm
   ⟨0,_,I4,T.keep 0 _ _ st3 fun b _ o e=>keep1 b o e,fun b hb=>(f3 b hb).1,w0⟩
  rintro n s5 ⟨i,H5,I5,st5,fr5,w5⟩
  rcases turn i n H5 w5 with ⟨stop,q⟩ | ⟨go,step⟩
  ·have z:=T.done X' eP ew eK ecalm i [] s5 _ H5 (fun _ _=>False) I5 (stat fr5) st5 stop
   rw [<-eP,<-ew] at z
   refine thn z fun r s6 h_=>?_; obtain ⟨hr,I6⟩:=h_
   subst hr
   obtain ⟨m',hn',_⟩:=I6.loc
   have hfr:=I6.free
   rw [eE] at hn' hfr
   refine hRR D s3.heap.objs.size s6 H5 m' (out I6) hn' hfr (by rw [hsz3]; exact Nat.le_succ _) (fun x c e z=>?_) (fun p hp z=>?_) (fun z=>?_) q
   ·obtain ⟨v,o,ho,_⟩:=I3.cell x c e
    rw [z] at ho
    exact absurd (Heap.lt_size ho) (Nat.lt_irrefl _)
   ·have:=Heap.lt_size (I3.pin p hp).1
    rw [z] at this
    exact absurd this (Nat.lt_irrefl _)
   ·have:=I3.lt
    rw [<-z] at this
    exact absurd this (Nat.lt_irrefl _)
  ·have z:=T.item X' eP ew eK ecalm i [] s5 _ H5 (fun _ _=>False) I5 (stat fr5) st5 go
   rw [<-eP,<-ew] at z
   refine thn z fun r s6 h_=>?_; obtain ⟨u,hr,h6⟩:=h_
   subst hr
   dsimp only
   refine thn h6 fun _ s7 h_=>?_; obtain ⟨x,H7,I7,r7,y7,st7,fr7⟩:=h_
   have I7':=I7.pinned (stat fr7) (T.obj _ _ st7)
   have q7:=step x H7 y7
   have a7:=hg' _ s7 (capSt caps sg) H7 x u _ I7' r7 (hgk _ _ _ _ q7)
   rw [ex] at a7
   refine thn a7 fun _ s8 h_=>?_; obtain ⟨sg8,H8,I8,q8,k8⟩:=h_
   have k8':∀ (j:Nat) (v:V),(capSt caps sg)[j]?=some (some v)->sg8[j]?=some (some v):=fun j v e=>by
    have e':=e
    unfold capSt at e'
    rw [List.getElem?_map] at e'
    cases hc:caps[j]? with
    | none=>rw [hc] at e'; simp at e'
    | some o=>
     cases o with
     | none=>rw [hc] at e'; simp at e'
     | some k=>rw [k8 j k hc]; exact e
   have a8:=ht' _ s8 sg8 H8 _ I8 q8
   rw [ex] at a8
   refine thn a8 fun ok s9 h_=>?_; obtain ⟨H9,I9,q9⟩:=h_
   have again:∀ {sg':St} {H':Hp} {s':Shared} {m':Nat},Inv X' ([]++zd5 fp s7.heap) sg' H' s'->(∀ (j:Nat) (v:V),(capSt caps sg)[j]?=some (some v)->sg'[j]?=some (some v))->m' < n->W (i+1) m' H'->
     ∃ m,m < n/\∃ i H',Inv X' [] (capSt caps sg) H' s'/\tn i s'.heap/\(∀ b∈fp,H' b=none)/\W i m H':=fun {sg' H' s' m'} I' hs hm hw=>by
    refine ⟨m',hm,i+1,H',I'.unpinned.forget (I4.len.trans I'.len.symm) hs,T.keep _ _ _ st7 fun b hb o e=>(I'.pin (b,o) (List.mem_append_right _ (List.mem_append_right _ (zau hb e)))).1,fun b hb=>?_,hw⟩
    obtain ⟨o,e,d⟩:=T.obj _ _ st7 b hb
    exact (I'.pin (b,o) (List.mem_append_right _ (List.mem_append_right _ (zau hb e)))).2.1
   cases ok with
   | false=>
    obtain ⟨m',hm,w9⟩:=q9
    exact again I9 k8' hm w9
   | true=>
    have a9:=he' _ s9 sg8 H9 _ I9 q9
    rw [ex] at a9
    refine thn a9 fun v s10 h_=>?_; obtain ⟨y,H10,I10,r10,xs,hD',hz,m',hm,w10⟩:=h_
    have a10:=zb8 (X:=X') _ s10 sg8 H10 (.ref D) [y] (.ref D) [v] (fun _ H'=>W (i+1) m' H') I10 rfl (.cons r10 .nil) ⟨D,xs,y,rfl,rfl,hD',hz,w10⟩
    rw [ex] at a10
    exact thn a10 fun _ s11 ⟨_,H11,I11,_,w11⟩=>again I11 k8' hm w11
 exact codeAny_compStart_list loop (T.self _ _ _ _ _ (T.keep 0 _ _ st3 fun b _ o e=>keep1 b o e) loop)
def tLC(caps:List (Option Nat))(wi:TI)(g:TG)(tt:TT)(te:TE):TE:=fun sg H Q=>wi sg H fun J H1=>lcW J g tt te (capSt caps sg) Q H1
theorem zcx{X:Cx}{scope:Scope}(ok:X.Ok)(hfr:scope.names.all (fun p=>p.2 != .free||(X.env.scope.names.lookup p.1 == some .cell||X.env.scope.names.lookup p.1 == some .free))=true) :
  ∀ x,(x,NameKind.free)∈scope.names->∃ c,X.env.cells.lookup x=some c:=fun x hx=>by
 have q:=List.all_eq_true.mp hfr (x,.free) hx
 simp only [bne_self_eq_false,Bool.false_or,Bool.or_eq_true] at q
 exact ok.has x (q.imp (fun z=>eq_of_beq z) fun z=>eq_of_beq z)
theorem pe_lc(hc:X.calm=true)(hi:PI X tg iter wi)(hg:∀ cl C s0 H0 fp,PG (zae X N scope cl C s0 H0 fp) tg g)(hgk:KeepG caps g)(ht:∀ cl C s0 H0 fp,PTs (zae X N scope cl C s0 H0 fp) ifs tt)(he:∀ cl C s0 H0 fp,PE (zae X N scope cl C s0 H0 fp) elt te)
  (hcap:capOk N X.N scope X.env.scope caps=true:=by rfl) (hkind:scope.kind=.function:=by rfl) (hcell:scope.names.all (fun p=>p.2 != .cell)=true:=by rfl)
  (hnames:scope.names.all (fun p=>p.2 != .local||scope.names.lookup p.1 == some .local)=true:=by rfl)
  (hfr:scope.names.all (fun p=>p.2 != .free||(X.env.scope.names.lookup p.1 == some .cell||X.env.scope.names.lookup p.1 == some .free))=true:=by rfl)
  (hs:∀ x,foldedSetIterable iter X.env x=pure x:=by intro _; rfl):PE X (.ListComp elt [⟨tg,iter,ifs,0⟩] scope pos) (tLC caps wi g tt te):=by
 intro pins s sg H Q I h
 have hcell':∀ y∈scope.names,y.2≠.cell:=fun y hy=>by simpa using List.all_eq_true.mp hcell y hy
 have hnames':∀ x∈scope.names,x.2=.local->scope.names.lookup x.1=some .local:=fun x hx e=>by
  have q:=List.all_eq_true.mp hnames x hx
  rw [e] at q
  simpa using q
 obtain ⟨cl,hclos,hcl1,hcl2⟩:=zaW (scope:=scope) (env:=X.env) (zcx I.ok hfr)
 rw [eval_ListComp]
 refine wpAny_comprehension_free (use:=none) rfl hs hclos hkind hnames' (thn (hi pins s sg H _ I h) fun v s1 h1=>thn h1 fun itv s2 h2=>?_)
 obtain ⟨it,fp,tn,J,H2,e,I2,T,st2,f2,hw⟩:=h2
 subst e
 refine zgs (RR:=fun acc C=>compPost (model X.prog X.w) X.A X.xe none (EP X pins sg Q) acc C) hc hcap hkind hcell' hg hgk ht he hcl1 hcl2 I2 T st2 f2 hw ?_
 intro D C s' H' m' I' hn hfree hCs hCc hCp hCl q
 refine ⟨m',hn,fun h' hs'=>⟨.ref D,H',?_,rfl,q⟩⟩
 exact I'.turned (t':=s'.toks) (it:=C) (fun b o hb e=>(hs'.2 b hb).trans e) hfree hCl (.inr (Nat.le_trans I2.sz hCs)) hCc hCp
theorem zja{i:Nat}{y:Str}{py spos:Pos}(hN:X.N.Nodup)(hiy:X.N[i]?=some y)(hy:X.env.scope.names.lookup y=some .local)(hc:X.calm=true)(hi:PI X tg iter wi)(hg:∀ cl C s0 H0 fp,PG (zae X N scope cl C s0 H0 fp) tg g)(hgk:KeepG caps g)(ht:∀ cl C s0 H0 fp,PTs (zae X N scope cl C s0 H0 fp) ifs tt)(he:∀ cl C s0 H0 fp,PE (zae X N scope cl C s0 H0 fp) elt te)
  (hsw:swapsWith (.ListComp elt [⟨tg,iter,ifs,0⟩] scope pos) (some (.Name y py)) spos.line X.env=pure true:=by rfl)
  (hcap:capOk N X.N scope X.env.scope caps=true:=by rfl) (hkind:scope.kind=.function:=by rfl) (hcell:scope.names.all (fun p=>p.2 != .cell)=true:=by rfl)
  (hnames:scope.names.all (fun p=>p.2 != .local||scope.names.lookup p.1 == some .local)=true:=by rfl)
  (hfr:scope.names.all (fun p=>p.2 != .free||(X.env.scope.names.lookup p.1 == some .cell||X.env.scope.names.lookup p.1 == some .free))=true:=by rfl)
  (hs:∀ x,foldedSetIterable iter X.env x=pure x:=by intro _; rfl):PS X (.Assign [.Name y py] (.ListComp elt [⟨tg,iter,ifs,0⟩] scope pos) spos) (tAsg (tLC caps wi g tt te) (gName i)):=by
 intro pins s sg H D0 I h
 have hcell':∀ y∈scope.names,y.2≠.cell:=fun y hy=>by simpa using List.all_eq_true.mp hcell y hy
 have hnames':∀ x∈scope.names,x.2=.local->scope.names.lookup x.1=some .local:=fun x hx e=>by
  have q:=List.all_eq_true.mp hnames x hx
  rw [e] at q
  simpa using q
 obtain ⟨cl,hclos,hcl1,hcl2⟩:=zaW (scope:=scope) (env:=X.env) (zcx I.ok hfr)
 rw [exec_Assign_Name_used _ _ _ _ hsw]
 refine wpAny_bind (wpAny_standAt (wpAny_bind ?_))
 show wpAny _ X.A (do let _ <-comprehension (.ListComp elt [⟨tg,iter,ifs,0⟩] scope pos) scope X.env _ (newList []) false (eval iter X.env) (some (assign (.Name y py) X.env))) _ _ s
 refine wpAny_bind (wpAny_mono (wpAny_comprehension_free (use:=some (assign (.Name y py) X.env)) (Q:=fun _ s'=>SP X pins D0 .next s') rfl hs hclos hkind hnames'
  (thn (hi pins s sg H _ I h) fun v s1 h1=>thn h1 fun itv s2 h2=>?_)) (fun _ s' hq=>wpAny_pure (wpAny_pure hq)) fun _ _ e=>e)
 obtain ⟨it,fp,tn,J,H2,e,I2,T,st2,f2,hw⟩:=h2
 subst e
 refine zgs (Q:=fun x H1=>gName i x sg H1 D0.nx) (RR:=fun acc C=>compPost (model X.prog X.w) X.A X.xe (some (assign (.Name y py) X.env)) (fun _ s'=>SP X pins D0 .next s') acc C) hc hcap hkind hcell' hg hgk ht he hcl1 hcl2 I2 T st2 f2 hw ?_
 intro D C s' H' m' I' hn hfree hCs hCc hCp hCl q
 show wpAny _ X.A (assign (.Name y py) X.env (.ref D)) _ _ _
 refine wpAny_assign_Name (zdo I' hN hiy (.inl hy) (v:=.ref D) rfl (fun s3 I3 ⟨a,hs3,ha⟩=>?_) (.inr hy))
 have hCa:C≠a:=by
  rcases ha with z | z
  ·rw [z]; exact hCl
  ·exact fun z'=>hCc y a z z'.symm
 refine ⟨m',hn.sameBut hs3 hCa,fun h' hs'=>?_⟩
 exact ⟨_,H',I3.turned (t':=s3.toks) (it:=C) (fun b o hb e=>(hs'.2 b hb).trans e) hfree hCl (.inr (Nat.le_trans I2.sz hCs)) hCc hCp,q⟩
end
end L2
namespace L2
open PySem PySem.Spec PyProof.Rows
section
variable {X:Cx}
def rSlS:V->Option Int->Option Int->Hp->VK->Prop:=fun x lo hi H Q=>∃ z,x=.str z/\z.length<=sizeLine/\Q (.str (Txt.slice z lo hi)) H
theorem zmd:SlR X rSlS:=by
 intro pins s sg H x v vl vu lo hi sl Q I rx hs pl pu h
 obtain ⟨z,rfl,hz,q⟩:=h
 obtain ⟨t,rfl⟩:=rx
 refine ⟨"str",_,F.slot_str_getitem.lookup,typeIs_str _ _ _,?_⟩
 have fin:∀ t' k,EP X pins sg Q (.str (Txt.slice z lo hi) t') { s with toks:=k }:=fun t' k=>⟨.str _,H,I.tok _,⟨_,rfl⟩,q⟩
 have le:=Nat.le_trans (Txt.slice_le z lo hi) hz
 cases pl with
 | none=>
  cases pu with
  | none=>exact wpAny_getItem_str_slice (l:=none) (u:=none) (st:=none) hs rfl (post_val_or_str ⟨le,fin⟩)
  | int j uj=>exact wpAny_getItem_str_slice (l:=none) (u:=some (j,uj)) (st:=none) hs rfl (post_val_or_str ⟨le,fin⟩)
 | int i ui=>
  cases pu with
  | none=>exact wpAny_getItem_str_slice (l:=some (i,ui)) (u:=none) (st:=none) hs rfl (post_val_or_str ⟨le,fin⟩)
  | int j uj=>exact wpAny_getItem_str_slice (l:=some (i,ui)) (u:=some (j,uj)) (st:=none) hs rfl (post_val_or_str ⟨le,fin⟩)
end
section
variable {X:Cx}{K:PySem.W.Frag}
theorem zl3{es:List Expr}{k:Nat}{t:TGs}{n:Nat}{pos:Pos}(hK:X.K=K)(hc:X.calm=true)(h:PGs X es t)
  (hn:(assignEach es X.env).length=n:=by rfl) (hst:(assignEach es X.env).findIdx? (·.1)=none:=by rfl):PG X (.Tuple es k pos) (gTup K n t):=by subst hK; exact zjY hc h hn hst
end
theorem znB:bootBuiltins "int"=some (.type "int"):=by decide +kernel
theorem ziF:bootBuiltins "list"=some (.type "list"):=by decide +kernel
theorem ziG:bootBuiltins "bool"=some (.type "bool"):=by decide +kernel
theorem zez:bootBuiltins "isinstance"=some (.builtin "isinstance"):=by decide +kernel
theorem zfo:bootBuiltins "enumerate"=some (.type "enumerate"):=by decide +kernel
end L2
namespace L2
open PySem PySem.Spec PyProof.Rows
section
variable {X:Cx}
theorem op_isF:OpR X (compareOp .Is) (fun x y H Q=>∃ c d,x=.bl c/\y=.bl d/\Q (.bl (c == d)) H):=by
 intro pins s sg H x y v u Q I rx ry h
 obtain ⟨c,d,rfl,rfl,q⟩:=h
 cases rx; cases ry
 exact is_bool ⟨.bl _,H,I,rfl,q⟩
end
end L2
namespace L2
open PySem PySem.Spec PyProof.Rows
section
variable {X:Cx}{pos:Pos}
def Ite(K:PySem.W.Frag)(a:Addr):It:=
 ⟨fun i H=>∃ xs x,SqL K H a xs/\xs[i]?=some x,fun i H v H'=>∃ p x,v=.ref p/\H p=none/\H'=upd H p (.tup [.int i,x])/\∀ xs,SqL K H a xs->xs[i]?=some x,fun i H=>∃ xs,SqL K H a xs/\xs.length<=i⟩
theorem zhh{P:Program}{w:World}{K:PySem.W.Frag}{elts:List Expr}{x1:Nat}{tp:Pos}(a it e:Addr)(hne:e≠it) :
  Turn P w K (.Tuple elts x1 tp) (Ite K a) [e,it] e (fun i h=>(∃ old,IsEnum h e it i old)/\h.IsListIter it a i) where
 mem:=by simp
 obj:=fun i h st b hb=>by
  obtain ⟨⟨old,he⟩,o,ho,hc,hd⟩:=st
  rcases List.mem_cons.mp hb with z | z
  ·subst z
   exact ⟨_,he,fun v z=>by
    have z':Data.fields _=Data.cell v:=z
    cases z'⟩
  ·have z':b=it:=by simpa using z
   subst z'
   exact ⟨o,ho,fun v z=>by rw [hd] at z; cases z⟩
 keep:=fun i h h' st k=>by
  obtain ⟨⟨old,he⟩,hi⟩:=st
  exact ⟨⟨old,k e (by simp) _ he⟩,hi.at fun o q=>k it (by simp) o q⟩
 item:=by
  intro X hP hw hK hc i pins s sg H E I hf st hg
  subst hP hw hK
  obtain ⟨⟨old,he⟩,hit⟩:=st
  obtain ⟨xs,x,hq,hx⟩:=hg
  obtain ⟨its,rv,p,hz⟩:=I.list hq
  obtain ⟨u,hu,ru⟩:=rv.get hx
  obtain ⟨f0,f1,f2,f3,f4,f5⟩:=hf e (by simp)
  obtain ⟨g0,g1,g2,g3,g4,g5⟩:=hf it (by simp)
  refine wpAny_pyNext_enum_item he hit p.isList (x:=u) (by simpa using hu) hne fun h1 eo hit1 htup hsz keep1=>?_
  refine ⟨_,rfl,wpAny_letOwnedTupleGo_enum eo fun h2 en sb=>?_⟩
  have hn:H s.heap.objs.size=none:=I.hok.fresh (Nat.le_refl _)
  have elt:e < s.heap.objs.size:=Heap.lt_size he
  have keep2:∀ b o,b≠e->b≠it->s.heap.get? b=some o->h2.get? b=some o:=fun b o n1 n2 q=>(sb.2 b n1).trans (keep1 b o n1 n2 q)
  have tup2:h2.get? s.heap.objs.size=some { cls:=.type "tuple",data:=.seq #[.int i s.toks,u] }:=(sb.2 _ (Nat.ne_of_gt elt)).trans htup
  have nH:∀ b v,H b=some v->b≠e/\b≠it/\b≠s.heap.objs.size:=fun b v q=>⟨(fun z=>by rw [z,f0] at q; cases q),(fun z=>by rw [z,g0] at q; cases q),za3 q hn⟩
  have I2:Inv X pins sg (upd H s.heap.objs.size (.tup [.int i,x])) { s with heap:=h2,toks:=s.toks+1 }:=by
   refine I.step (g':=s.gens) (d':=s.drawn) (ch:=[e,it]) (fun b hb=>?_) (fun b o _ _ hc q _=>keep2 b o (fun z=>hc (by simp [z])) (fun z=>hc (by simp [z])) q)
    (fun b o _ _ hc q _=>⟨o.slots,keep2 b o (fun z=>hc (by simp [z])) (fun z=>hc (by simp [z])) q⟩) (fun b o hc q n=>by rw [za5 (Nat.ne_of_lt (Heap.lt_size q))]; exact n)
    (fun b o hc q=>⟨o,keep2 b o (fun z=>hc (by simp [z])) (fun z=>hc (by simp [z])) q⟩) (fun b ys q=>by rw [za5 (nH b _ q).2.2]; exact q) (fun b o v q=>by rw [za5 (nH b _ q).2.2]; exact q)
    (fun b ps q=>⟨#[],by rw [za5 (nH b _ q).2.2,q]; simp⟩) (fun m hm=>?_) (fun b v q=>?_) I.bare
   ·rcases List.mem_cons.mp hb with z | z
    ·subst z; exact ⟨f3,f1,f4,f5⟩
    ·have z':b=it:=by simpa using z
     subst z'; exact ⟨g3,g1,g4,g5⟩
   ·obtain ⟨o,es,ep,ho,r⟩:=hm
    exact ⟨o,es,ep,keep2 _ o (Ne.symm f1) (Ne.symm g1) ho,r⟩
   ·by_cases hb:b=s.heap.objs.size
    ·subst hb
     rw [za8] at q
     cases q
     exact ⟨by show 2<=sizeLine; decide,[.int i s.toks,u],.cons ⟨_,rfl⟩ (.cons ru .nil),_,tup2,rfl,_,rfl⟩
    ·rw [za5 hb] at q
     refine (I.hok b v q).stay (fun c v' hc q'=>?_) (fun c q'=>by rw [za5 (nH c _ q').2.2]; exact q') fun c ys q'=>by rw [za5 (nH c _ q').2.2]; exact q'
     rcases hc with z | z
     ·exact keep2 c v' (by rw [z]; exact (nH b v q).1) (by rw [z]; exact (nH b v q).2.1) q'
     ·exact keep2 c v' (nH c _ z).1 (nH c _ z).2.1 q'
  refine ⟨.ref s.heap.objs.size,_,I2,rfl,⟨s.heap.objs.size,x,rfl,hn,rfl,fun ys hy=>by rw [I.list_inj hy hq]; exact hx⟩,⟨⟨_,en⟩,?_⟩,fun b hb=>?_⟩
  ·obtain ⟨o,ho,r⟩:=hit1
   exact ⟨o,(sb.2 it (Ne.symm hne)).trans ho,r⟩
  ·rcases List.mem_cons.mp hb with z | z
   ·subst z; rw [za5 (Nat.ne_of_lt elt)]; exact f0
   ·have z':b=it:=by simpa using z
    subst z'
    obtain ⟨o,ho,_⟩:=hit
    rw [za5 (Nat.ne_of_lt (Heap.lt_size ho))]; exact g0
 done:=by
  intro X hP hw hK hc i pins s sg H E I hf st hg
  subst hP hw hK
  obtain ⟨⟨old,he⟩,hit⟩:=st
  obtain ⟨xs,hq,hx⟩:=hg
  obtain ⟨its,rv,p,hz⟩:=I.list hq
  obtain ⟨g0,g1,g2,g3,g4,g5⟩:=hf it (by simp)
  have hl:=rv.length
  exact wpAny_pyNext_enum_end (I.ok.hd hc) he hit p.isList (by simp; lia) fun h' eb=>⟨rfl,I.turned (t':=s.toks) (fun b o hb q=>eb b o hb q) g0 g1 g3 g4 g5⟩
 self:=fun _ _ _ _ _ st h=>by
  obtain ⟨⟨old,he⟩,_⟩:=st
  exact wpAny_pyIter_enum he h
def iEnum(K:PySem.W.Frag)(ta:TA):TI:=fun sg H R=>ta sg H fun vs H1=>∃ a,vs=[.ref a]/\(∃ xs,SqL K H1 a xs)/\R (Ite K a) H1
theorem zl0{elts:List Expr}{x1:Nat}{tp:Pos}{a:Expr}{ta:TA}{p pos:Pos}(hg:Gl X "enumerate")(hm:X.mg "enumerate"=none)(ha:PA X [a] ta)(hs:starEach [a] X.env=[(false,eval a X.env)]:=by rfl) :
  PI X (.Tuple elts x1 tp) (.Call (.Name "enumerate" p) [a] [] pos) (iEnum X.K ta):=by
 intro pins s sg H R I h
 refine Call_ (zbP I hg hm zfo (PyProof.Rows.callWith_type1 (thn (ha pos pins s sg H _ I h) fun us s1 ⟨vs,H1,I1,r1,q1⟩=>?_) hs rfl))
 obtain ⟨a',rfl,⟨xs,hq⟩,q⟩:=q1
 obtain ⟨u,rfl,ru⟩:=vals1 r1
 cases ru
 obtain ⟨its,rv,pl,hz⟩:=I1.list hq
 refine call_enumerate_list pl.isList fun h' en il hsz kp=>?_
 refine wpAny_pyIter_enum en ?_
 have I2:Inv X pins sg H1 { s1 with heap:=h' }:=I1.kept (t':=s1.toks) kp
 refine ⟨s1.heap.objs.size+1,[s1.heap.objs.size+1,s1.heap.objs.size],_,_,H1,rfl,I2,zhh a' s1.heap.objs.size (s1.heap.objs.size+1) (Nat.succ_ne_self _),⟨⟨_,en⟩,il⟩,fun b hb=>?_,q⟩
 rcases List.mem_cons.mp hb with z | z
 ·subst z; exact I1.fpOk (Nat.le_succ _) (I1.hok.fresh (Nat.le_succ _))
 ·have z':b=s1.heap.objs.size:=by simpa using z
  subst z'; exact I1.fpOk (Nat.le_refl _) (I1.hok.fresh (Nat.le_refl _))
end
end L2
namespace L2
open PySem PySem.Spec PyProof.Rows
section
variable {X:Cx}
def rIsi(K:PySem.W.Frag):List V->Hp->VK->Prop:=fun xs H Q=>∃ x c t k,xs=[x,.ty c]/\TyOf K H x t/\PySem.W.kitOne K t (.type c)=some k/\Q (.bl k) H
theorem zjG:CallR X (.builtin "isinstance") (rIsi X.K):=by
 intro pins s sg H xs us Q I r h
 obtain ⟨x,c,t,k,rfl,ty,e,q⟩:=h
 obtain ⟨u,u2,rfl,ru,ru2⟩:=vals2 r
 cases ru2
 exact zib I ru ty e fun tk=>⟨.bl k,H,I.tok _,rfl,q⟩
end
end L2
namespace L2
open PySem PySem.Spec PyProof.Rows
section
variable {prog:Program}{w:World}{A:Around}{R:Result->Shared->Prop}{s:Shared}
theorem zey{kx vx target iter:Expr}{ifs:List Expr}{scope:Scope}{pos:Pos}{it:Value}{D:Addr}{env:Env}(I:Nat->Shared->Prop)
  (turn:∀ n s,I n s->wpAny (model prog w) A (pyNext it) (fun r s1=>match r with
   | none=>R (.ok .next) s1
   | some v=>wpAny (model prog w) A (letOwnedTupleGo target it v) (fun _ s1'=>wpAny (model prog w) A (assign target env v) (fun _ s2=>
     wpAny (model prog w) A (forIn ifs true fun c r=>if r=true then do let ok <-isTrue c env (eval c env); pure (ForInStep.yield ok) else pure (ForInStep.yield r)) (fun ok s3=>
      if ok=true then wpAny (model prog w) A (eval kx env) (fun kv s4=>wpAny (model prog w) A (eval vx env) (fun vv s5=>
       wpAny (model prog w) A (dictSet D kv vv) (fun _ s6=>∃ m,m < n/\I m s6) (fun _ _=>False) s5) (fun _ _=>False) s4) (fun _ _=>False) s3
      else ∃ m,m < n/\I m s3) (fun _ _=>False) s2) (fun _ _=>False) s1') (fun _ _=>False) s1) (fun _ _=>False) s)
  (n:Nat) (h:I n s) :
  codeAny (model prog w) A (.compLoop (.DictComp kx vx [⟨target,iter,ifs,0⟩] scope pos) 0 it (.ref D) env) R s:=by
 refine codeAny_loop rfl I (fun n s hI=>?_) n h
 show wpAny _ A ((compTurn (.DictComp kx vx [⟨target,iter,ifs,0⟩] scope pos) 0 it (.ref D) env).onRaise (fun x=>do noteFrame x env; theTreesLotGoes x)) _ _ s
 refine wpAny_noted ?_
 rw [compTurn_dict]
 refine wpAny_bind (wpAny_standAt (wpAny_bind (wpAny_mono (turn n s hI) (fun r s1 h1=>?_) fun _ _ h'=>h'.elim)))
 cases r with
 | none=>exact wpAny_pure h1
 | some v=>
  refine wpAny_bind (wpAny_mono h1 (fun _ s1' h1'=>?_) fun _ _ h'=>h'.elim)
  refine wpAny_bind (wpAny_mono h1' (fun _ s2 h2=>wpAny_bind (wpAny_mono h2 (fun ok s3 h3=>?_) fun _ _ h'=>h'.elim)) fun _ _ h'=>h'.elim)
  cases ok with
  | false=>exact wpAny_pure ⟨rfl,h3⟩
  | true=>
   exact wpAny_bind (wpAny_bind (wpAny_mono h3 (fun kv s4 h4=>wpAny_bind (wpAny_holding (wpAny_mono h4 (fun vv s5 h5=>wpAny_bind (wpAny_standAt (wpAny_holding (wpAny_mono h5 (fun _ s6 h6=>wpAny_pure ⟨rfl,h6⟩) fun _ _ h'=>h'.elim)))) fun _ _ h'=>h'.elim))) fun _ _ h'=>h'.elim))
end
def dcW(J:It)(g:TG)(tt:TT)(tk tv:TE)(sg':St)(Q:VK)(H1:Hp):Prop:=
 ∀ D,H1 D=none->∃ W:Nat->Nat->Hp->Prop,(∃ m,W 0 m (upd H1 D (.dK [])))/\∀ i m H,W i m H->
  (J.stop i H/\Q (.ref D) H)∨(J.go i H/\∀ x H',J.yld i H x H'->g x sg' H' fun s2 H2=>tt s2 H2 fun b H3=>if b=true then
   tk s2 H3 fun y H4=>tv s2 H4 fun z H5=>∃ kvs k,H5 D=some (.dK kvs)/\y=kV k/\kvs.length < sizeLine/\∃ m',m' < m/\W (i+1) m' (upd H5 D (.dK (putK kvs k z)))
   else ∃ m',m' < m/\W (i+1) m' H3)
section
variable {X:Cx}{N:List Str}{scope:Scope}{caps:List (Option Nat)}{tg kx vx iter:Expr}{ifs:List Expr}{wi:TI}{g:TG}{tt:TT}{tk tv:TE}{pos:Pos}
theorem zjF{pins:List (Addr × Obj)}{sg:St}{H:Hp}{s2:Shared}{cl:List (Str × Addr)}{it:Addr}{fp:List Addr}{tn:Nat->Heap->Prop}{J:It}{Q:VK}{E:Value->Shared->Prop}{RR:Value->Addr->Result->Shared->Prop}
  (hc:X.calm=true) (hcap:capOk N X.N scope X.env.scope caps=true) (hkind:scope.kind=.function) (hcell:∀ y∈scope.names,y.2≠.cell)
  (hg:∀ cl C s0 H0 fp,PG (zae X N scope cl C s0 H0 fp) tg g) (hgk:KeepG caps g) (ht:∀ cl C s0 H0 fp,PTs (zae X N scope cl C s0 H0 fp) ifs tt) (hk:∀ cl C s0 H0 fp,PE (zae X N scope cl C s0 H0 fp) kx tk) (he:∀ cl C s0 H0 fp,PE (zae X N scope cl C s0 H0 fp) vx tv)
  (hcl1:∀ p∈cl,X.env.cells.lookup p.1=some p.2) (hcl2:∀ x,(x,NameKind.free)∈scope.names->∃ c,(x,c)∈cl)
  (I2:Inv X pins sg H s2) (T:Turn X.prog X.w X.K tg J fp it tn) (st2:tn 0 s2.heap) (f2:∀ b∈fp,FpOk X pins H b) (hw:dcW J g tt tk tv (capSt caps sg) Q H)
  (hRR:∀ (D C:Addr) (s':Shared) (H':Hp) (m':Str->Option Value),Inv X pins sg H' s'->s'.heap.Ns C m'->H' C=none->s2.heap.objs.size<=C->(∀ x c,X.env.cells.lookup x=some c->c≠C)->(∀ p∈X.pn++pins,p.1≠C)->C≠X.env.locals->Q (.ref D) H'->RR (.ref D) C (.ok .next) s') :
  wpAny (model X.prog X.w) X.A (newDict) (fun acc s3=>wpAny (model X.prog X.w) X.A (newFunctionEnv scope X.env.globals cl [] X.env.qual none .none (some X.env)) (fun cenv s4=>
   codeAny (model X.prog X.w) X.A (.compStart (.DictComp kx vx [⟨tg,iter,ifs,0⟩] scope pos) 0 (.ref it) acc { cenv with scope:=relabel scope X.env }) (RR acc cenv.locals) s4) E s3) E s2:=by
 refine wpAny_newObj_type ?_
 have I3:Inv X pins sg (upd H s2.heap.objs.size (.dK [])) { s2 with heap:=s2.heap.push { cls:=.type "dict",dict:=none,data:=.dict #[] } }:=
  I2.laid (t':=s2.toks) (fun b u e=>Heap.get?_push_of_some _ e) (Nat.le_refl _) (zjD s2.heap I2.big)
 have hfree:H s2.heap.objs.size=none:=I2.hok.fresh (Nat.le_refl _)
 obtain ⟨W,⟨mm,w0⟩,turn⟩:=hw s2.heap.objs.size hfree
 generalize hD:s2.heap.objs.size=D at *
 generalize hs3:({ s2 with heap:=s2.heap.push { cls:=.type "dict",dict:=none,data:=.dict #[] } }:Shared)=s3 at *
 have hlt3:∀ b o,s2.heap.get? b=some o->s3.heap.get? b=some o:=fun b o e=>by rw [<-hs3]; exact Heap.get?_push_of_some _ e
 have hsz3:s3.heap.objs.size=D+1:=by rw [<-hs3,<-hD]; exact Heap.size_push ..
 have fpD:∀ b∈fp,b < D:=fun b hb=>by
  obtain ⟨o,ho,_⟩:=T.obj 0 _ st2 b hb
  rw [<-hD]; exact Heap.lt_size ho
 have f3:∀ b∈fp,FpOk X pins (upd H D (.dK [])) b:=fun b hb=>⟨by rw [za5 (Nat.ne_of_lt (fpD b hb))]; exact (f2 b hb).1,(f2 b hb).2⟩
 have lt3:∀ b∈fp,b < s3.heap.objs.size:=fun b hb=>by rw [hsz3]; exact Nat.lt_succ_of_lt (fpD b hb)
 have st3:tn 0 s3.heap:=T.keep 0 _ _ st2 fun b _ o e=>hlt3 b o e
 refine wpAny_newFunctionEnv hcell (by intro y hy; simp at hy) (fun h1 hns1 hsb1=>?_) hkind
 try dsimp only at hns1 hsb1 ⊢
 have keep1:∀ b u,s3.heap.get? b=some u->h1.get? b=some u:=fun b u e=>hsb1.extBut b u (Nat.ne_of_lt (Heap.lt_size e)) (Heap.get?_push_of_some _ e)
 have I4:=zcU (N:=N) (tk:=s3.toks+([]:List (Str × Value)).length) hcap hkind hcell I3 hcl1 hcl2 f3 lt3 keep1 hns1
 have loop:codeAny (model X.prog X.w) X.A (.compLoop (.DictComp kx vx [⟨tg,iter,ifs,0⟩] scope pos) 0 (.ref it) (.ref D) (compEnvC scope cl s3.heap.objs.size X.env)) (RR (.ref D) s3.heap.objs.size) { s3 with heap:=h1,toks:=s3.toks+([]:List (Str × Value)).length }:=by
  generalize hX':zae X N scope cl s3.heap.objs.size s3 (upd H D (.dK [])) fp=X' at I4
  have eP:X'.prog=X.prog:=by rw [<-hX']; rfl
  have ew:X'.w=X.w:=by rw [<-hX']; rfl
  have eK:X'.K=X.K:=by rw [<-hX']; rfl
  have eA:X'.A=X.A:=by rw [<-hX']; rfl
  have eE:X'.env=compEnvC scope cl s3.heap.objs.size X.env:=by rw [<-hX']; rfl
  have ex:X'.xe=fun _ _=>False:=by rw [<-hX']; rfl
  have ecalm:X'.calm=true:=by rw [<-hX']; exact hc
  have hg':PG X' tg g:=by rw [<-hX']; exact hg _ _ _ _ _
  have ht':PTs X' ifs tt:=by rw [<-hX']; exact ht _ _ _ _ _
  have hk':PE X' kx tk:=by rw [<-hX']; exact hk _ _ _ _ _
  have he':PE X' vx tv:=by rw [<-hX']; exact he _ _ _ _ _
  have stat:∀ {H':Hp},(∀ b∈fp,H' b=none)->∀ b∈fp,FpOk X' [] H' b:=fun {H'} hn b hb=>by
   refine ⟨hn b hb,?_,?_,?_,?_,fun p hp=>?_⟩
   ·rw [<-hX']; exact Nat.ne_of_lt (lt3 b hb)
   ·rw [<-hX']
    exact fun z=>(zbg (N:=N) hkind hcell I3 hcl1 hcl2 f3 lt3).exfs b hb z
   ·rw [<-hX']; exact .inl hb
   ·rw [<-hX']
    exact ((zbg (N:=N) hkind hcell I3 hcl1 hcl2 f3 lt3).exf b hb).2
   ·rw [<-hX'] at hp; cases hp
  have out:∀ {sg':St} {H':Hp} {s':Shared},Inv X' [] sg' H' s'->Inv X pins sg H' s':=fun {sg' H' s'} I'=>by
   have hb:=I'.base
   rw [<-hX'] at hb
   have ho:=I'.os
   rw [<-hX'] at ho
   have hk:=I'.hok
   rw [eP,ew] at hk
   exact I3.call' (ch:=fp) ho hb hk I'.bare fun b hb=>⟨(f3 b hb).2.2.2.1,(f3 b hb).2.1,(f3 b hb).2.2.2.2.1,(f3 b hb).2.2.2.2.2⟩
  rw [<-eE,<-eA,<-eP,<-ew]
  refine zey (fun n s'=>∃ i H',Inv X' [] (capSt caps sg) H' s'/\tn i s'.heap/\(∀ b∈fp,H' b=none)/\W i n H') ?_ mm
   ⟨0,_,I4,T.keep 0 _ _ st3 fun b _ o e=>keep1 b o e,fun b hb=>(f3 b hb).1,w0⟩
  rintro n s5 ⟨i,H5,I5,st5,fr5,w5⟩
  rcases turn i n H5 w5 with ⟨stop,q⟩ | ⟨go,step⟩
  ·have z:=T.done X' eP ew eK ecalm i [] s5 _ H5 (fun _ _=>False) I5 (stat fr5) st5 stop
   rw [<-eP,<-ew] at z
   refine thn z fun r s6 h_=>?_; obtain ⟨hr,I6⟩:=h_
   subst hr
   obtain ⟨m',hn',_⟩:=I6.loc
   have hfr:=I6.free
   rw [eE] at hn' hfr
   refine hRR D s3.heap.objs.size s6 H5 m' (out I6) hn' hfr (by rw [hsz3]; exact Nat.le_succ _) (fun x c e z=>?_) (fun p hp z=>?_) (fun z=>?_) q
   ·obtain ⟨v,o,ho,_⟩:=I3.cell x c e
    rw [z] at ho
    exact absurd (Heap.lt_size ho) (Nat.lt_irrefl _)
   ·have:=Heap.lt_size (I3.pin p hp).1
    rw [z] at this
    exact absurd this (Nat.lt_irrefl _)
   ·have:=I3.lt
    rw [<-z] at this
    exact absurd this (Nat.lt_irrefl _)
  ·have z:=T.item X' eP ew eK ecalm i [] s5 _ H5 (fun _ _=>False) I5 (stat fr5) st5 go
   rw [<-eP,<-ew] at z
   refine thn z fun r s6 h_=>?_; obtain ⟨u,hr,h6⟩:=h_
   subst hr
   dsimp only
   refine thn h6 fun _ s7 h_=>?_; obtain ⟨x,H7,I7,r7,y7,st7,fr7⟩:=h_
   have I7':=I7.pinned (stat fr7) (T.obj _ _ st7)
   have q7:=step x H7 y7
   have a7:=hg' _ s7 (capSt caps sg) H7 x u _ I7' r7 (hgk _ _ _ _ q7)
   rw [ex] at a7
   refine thn a7 fun _ s8 h_=>?_; obtain ⟨sg8,H8,I8,q8,k8⟩:=h_
   have k8':∀ (j:Nat) (v:V),(capSt caps sg)[j]?=some (some v)->sg8[j]?=some (some v):=fun j v e=>by
    have e':=e
    unfold capSt at e'
    rw [List.getElem?_map] at e'
    cases hc:caps[j]? with
    | none=>rw [hc] at e'; simp at e'
    | some o=>
     cases o with
     | none=>rw [hc] at e'; simp at e'
     | some k=>rw [k8 j k hc]; exact e
   have a8:=ht' _ s8 sg8 H8 _ I8 q8
   rw [ex] at a8
   refine thn a8 fun ok s9 h_=>?_; obtain ⟨H9,I9,q9⟩:=h_
   have again:∀ {sg':St} {H':Hp} {s':Shared} {m':Nat},Inv X' ([]++zd5 fp s7.heap) sg' H' s'->(∀ (j:Nat) (v:V),(capSt caps sg)[j]?=some (some v)->sg'[j]?=some (some v))->m' < n->W (i+1) m' H'->
     ∃ m,m < n/\∃ i H',Inv X' [] (capSt caps sg) H' s'/\tn i s'.heap/\(∀ b∈fp,H' b=none)/\W i m H':=fun {sg' H' s' m'} I' hs hm hw=>by
    refine ⟨m',hm,i+1,H',I'.unpinned.forget (I4.len.trans I'.len.symm) hs,T.keep _ _ _ st7 fun b hb o e=>(I'.pin (b,o) (List.mem_append_right _ (List.mem_append_right _ (zau hb e)))).1,fun b hb=>?_,hw⟩
    obtain ⟨o,e,d⟩:=T.obj _ _ st7 b hb
    exact (I'.pin (b,o) (List.mem_append_right _ (List.mem_append_right _ (zau hb e)))).2.1
   cases ok with
   | false=>
    obtain ⟨m',hm,w9⟩:=q9
    exact again I9 k8' hm w9
   | true=>
    have a9:=hk' _ s9 sg8 H9 _ I9 q9
    rw [ex] at a9
    refine thn a9 fun kv s10 h_=>?_; obtain ⟨y,H10,I10,r10,q10⟩:=h_
    have a10:=he' _ s10 sg8 H10 _ I10 q10
    rw [ex] at a10
    refine thn a10 fun vv s11 h_=>?_; obtain ⟨z,H11,I11,r11,kvs,k,hD',ey,hz,m',hm,w11⟩:=h_
    subst ey
    obtain ⟨zz,hdd,vs,rel,dd⟩:=dk_of I11.hok hD'
    have hvz:vs.length<=sizeLine:=by rw [<-rel.length]; exact zz
    have hl:(putK kvs k z).length<=sizeLine:=by have:=zdB kvs k z; lia
    refine wpAny_dictSet_pairs (hsz:=hvz) (kV_is r10) dd fun h' dd' hs=>?_
    have he2:∃ q,h'.get? D=some q:=let ⟨q,_,_,hq,_⟩:=dd'; ⟨q,hq⟩
    have I12:=zlv (t':=s11.toks+1) I11 (by rw [hD']; exact True.intro) hs he2 (znr hl hdd (rel.put k r11) dd')
    exact again I12 k8' hm w11
 exact codeAny_compStart_dict loop (T.self _ _ _ _ _ (T.keep 0 _ _ st3 fun b _ o e=>keep1 b o e) loop)
def tDC(caps:List (Option Nat))(wi:TI)(g:TG)(tt:TT)(tk tv:TE):TE:=fun sg H Q=>wi sg H fun J H1=>dcW J g tt tk tv (capSt caps sg) Q H1
theorem pe_dc(hc:X.calm=true)(hi:PI X tg iter wi)(hg:∀ cl C s0 H0 fp,PG (zae X N scope cl C s0 H0 fp) tg g)(hgk:KeepG caps g)(ht:∀ cl C s0 H0 fp,PTs (zae X N scope cl C s0 H0 fp) ifs tt)(hk:∀ cl C s0 H0 fp,PE (zae X N scope cl C s0 H0 fp) kx tk)(he:∀ cl C s0 H0 fp,PE (zae X N scope cl C s0 H0 fp) vx tv)
  (hcap:capOk N X.N scope X.env.scope caps=true:=by rfl) (hkind:scope.kind=.function:=by rfl) (hcell:scope.names.all (fun p=>p.2 != .cell)=true:=by rfl)
  (hnames:scope.names.all (fun p=>p.2 != .local||scope.names.lookup p.1 == some .local)=true:=by rfl)
  (hfr:scope.names.all (fun p=>p.2 != .free||(X.env.scope.names.lookup p.1 == some .cell||X.env.scope.names.lookup p.1 == some .free))=true:=by rfl)
  (hs:∀ x,foldedSetIterable iter X.env x=pure x:=by intro _; rfl):PE X (.DictComp kx vx [⟨tg,iter,ifs,0⟩] scope pos) (tDC caps wi g tt tk tv):=by
 intro pins s sg H Q I h
 have hcell':∀ y∈scope.names,y.2≠.cell:=fun y hy=>by simpa using List.all_eq_true.mp hcell y hy
 have hnames':∀ x∈scope.names,x.2=.local->scope.names.lookup x.1=some .local:=fun x hx e=>by
  have q:=List.all_eq_true.mp hnames x hx
  rw [e] at q
  simpa using q
 obtain ⟨cl,hclos,hcl1,hcl2⟩:=zaW (scope:=scope) (env:=X.env) (zcx I.ok hfr)
 rw [arm_eval_DictComp]
 refine wpAny_comprehension_free (use:=none) rfl hs hclos hkind hnames' (thn (hi pins s sg H _ I h) fun v s1 h1=>thn h1 fun itv s2 h2=>?_)
 obtain ⟨it,fp,tn,J,H2,e,I2,T,st2,f2,hw⟩:=h2
 subst e
 refine zjF (RR:=fun acc C=>compPost (model X.prog X.w) X.A X.xe none (EP X pins sg Q) acc C) hc hcap hkind hcell' hg hgk ht hk he hcl1 hcl2 I2 T st2 f2 hw ?_
 intro D C s' H' m' I' hn hfree hCs hCc hCp hCl q
 refine ⟨m',hn,fun h' hs'=>⟨.ref D,H',?_,rfl,q⟩⟩
 exact I'.turned (t':=s'.toks) (it:=C) (fun b o hb e=>(hs'.2 b hb).trans e) hfree hCl (.inr (Nat.le_trans I2.sz hCs)) hCc hCp
end
end L2
namespace L2
open PySem PySem.Spec PyProof.Rows
section
variable {X:Cx}
theorem zfC{k:Key}{v:Value}(h:keyIs k v=true):RelV (kV k) v:=by
 rcases zaw h with ⟨i,t,rfl,rfl⟩ | ⟨x,t,rfl,rfl⟩
 ·exact ⟨t,rfl⟩
 ·exact ⟨t,rfl⟩
theorem zdn:∀ {xs:List V} {us:List Value},xs.length=us.length->(∀ (j:Nat) x u,xs[j]?=some x->us[j]?=some u->RelV x u)->Vals xs us:=by
 intro xs
 induction xs with
 | nil=>
  intro us hl _
  cases us with
  | nil=>exact .nil
  | cons _ _=>cases hl
 | cons x xs ih=>
  intro us hl h
  cases us with
  | nil=>cases hl
  | cons u us=>exact .cons (h 0 x u rfl rfl) (ih (Nat.succ.inj hl) fun j y v e1 e2=>h (j+1) y v e1 e2)
theorem zi2{κ:Type}{kvs:List (κ × V)}{vs:List (κ × Value)}{j:Nat}{p:κ × V}(h:KV kvs vs):kvs[j]?=some p->∃ q,vs[j]?=some q/\p.1=q.1/\RelV p.2 q.2:=by
 induction h generalizing j with
 | nil=>intro e; cases e
 | cons r t ih=>
  intro e
  cases j with
  | zero=>obtain rfl:=Option.some.inj e; exact ⟨_,rfl,r⟩
  | succ j=>exact ih (j:=j) e
theorem zdP(hc:X.calm=true):CallR X (.type "list") (fun xs H Q=>∃ a kvs,xs=[V.ref a]/\Rd H a (.dK kvs)/\∀ l,H l=none->Q (.ref l) (upd H l (.lst (kvs.map fun kv=>kV kv.1)))):=by
 intro pins s σ H xs us Q I rv h
 obtain ⟨a,kvs,rfl,e,q⟩:=h
 obtain ⟨u,rfl,ru⟩:=rv.one
 cases ru
 obtain ⟨z,hd,vs,rel,dd⟩:=dk_rd I.hok e
 have hl:vs.length<=sizeLine:=by rw [<-rel.length]; exact z
 obtain ⟨ep,da⟩:=dd.dictAt
 refine PySem.W.kdl_call (PySem.W.kdl_dict (knd:=zaE X.prog X.w) (kvs:=vs) (ep:=ep) hd) (I.ok.hd hc) da hl fun h' tk acc c hk hnew hit=>?_
 have hv:Vals (kvs.map fun kv=>kV kv.1) acc.toList:=by
  refine zdn (by have h1:=hit.1; have h2:=rel.length; simp only [List.length_map,Array.length_toList]; lia) fun j x u e1 e2=>?_
  rw [List.getElem?_map] at e1
  obtain ⟨p,h1,h2⟩:=Qm e1
  obtain ⟨k,y,h3,h4⟩:=hit.2 j u (by simpa using e2)
  obtain ⟨w,h5,h6⟩:=zi2 rel h1
  rw [h3] at h5
  injection h5 with h5
  subst h5 h2
  rw [h6.1]
  exact zfC h4
 exact ⟨.ref _,_,I.laid (a:=s.heap.objs.size) (o:=.lst (kvs.map fun kv=>kV kv.1)) (t':=tk) hk (Nat.le_refl _) ⟨by rw [List.length_map]; exact z,acc.toList,c,hv,by rw [hnew]⟩,rfl,q _ (I.hok.fresh (Nat.le_refl _))⟩
end
end L2
namespace L2
open PySem PySem.Spec PyProof.Rows
section
variable {X:Cx}{e:Expr}{te:TE}{pos p2:Pos}
def tRev(K:PySem.W.Frag)(te:TE)(ts:TO):TE:=fun σ H Q=>te σ H fun x H1=>ts σ H1 fun k H2=>k=some (-1)/\∃ a xs,x=.ref a/\SqL K H2 a xs/\∀ p,H2 p=none->Q (.ref p) (upd H2 p (.lst xs.reverse))
theorem zmF{st:Expr}{ts:TO}(he:PE X e te)(hs:PO X (some st) ts):PE X (.Subscript e (.Slice none none (some st) p2) pos) (tRev X.K te ts):=by
 intro pins s σ H Q I h
 refine Subscript_ (thn (he pins s σ H _ I h) fun v s1 h_=>?_); obtain ⟨x,H1,I1,r1,q1⟩:=h_
 refine wpAny_Slice ?_
 rw [evalPart_none]
 refine wpAny_pure (wpAny_pure (thn (hs pins s1 σ H1 _ I1 q1) fun vk s3 h_=>?_)); obtain ⟨k,H3,I3,pk,q3⟩:=h_
 obtain ⟨rfl,a,xs,rfl,hx,q⟩:=q3
 cases r1
 have I4:Inv X pins σ H3 { s3 with heap:=s3.heap.push { cls:=.type "slice",data:=.fields #[.none,.none,vk] } }:=I3.kept (t':=s3.toks) fun b ob q=>Heap.get?_push_of_some _ q
 obtain ⟨its,r,ht,hz⟩:=I4.list hx
 have hlen:=r.length
 show wpAny (model X.prog X.w) X.A (subscriptTail e (.Slice none none (some st) p2) (.ref a) (.ref s3.heap.objs.size)) (EP X pins σ Q) X.xe { s3 with heap:=s3.heap.push { cls:=.type "slice",data:=.fields #[.none,.none,vk] } }
 refine tail_any (ops:=[.ref a,.ref s3.heap.objs.size]) ht.isList.typeIs slot_list_getitem.lookup ?_ (by with_unfolding_all rfl)
 refine wpAny_getItem_list_slice ht.isList (Heap.IsSliceOf.new ..) .none .none pk (by decide) ?_ (by rw [List.size_toArray]<;>lia)
 rw [PySem.W.krv_pick]
 refine ⟨.ref _,_,I4.laid (t':=s3.toks) (o:=.lst xs.reverse) (fun b ob q=>Heap.get?_push_of_some _ q) (Nat.le_refl _) ?_,rfl,q _ (I4.hok.fresh (Nat.le_refl _))⟩
 exact ⟨by rw [List.length_reverse]; exact hz,_,0,r.reverse,Heap.get?_push_size _ rfl⟩
end
end L2
namespace L2
open PySem PySem.Spec PyProof.Rows
section
variable {X:Cx}{a:Expr}{ta:TA}{pos p p' pos':Pos}
def tLR(ta:TA):TE:=fun σ H Q=>ta σ H fun vs H1=>∃ j:Int,vs=[.int j]/\-(2 ^ 62)<=j/\j<=16777216/\∀ l,H1 l=none->Q (.ref l) (upd H1 l (.lst ((List.range j.toNat).map fun (k:Nat)=>V.int k)))
theorem zeV(hc:X.calm=true)(hg:Gl X "list")(hm:X.mg "list"=none)(hg':Gl X "range")(hm':X.mg "range"=none)(ha:PA X [a] ta)(hs:starEach [a] X.env=[(false,eval a X.env)]:=by rfl)
  (hs':starEach [.Call (.Name "range" p') [a] [] pos'] X.env=[(false,eval (.Call (.Name "range" p') [a] [] pos') X.env)]:=by rfl) :
  PE X (.Call (.Name "list" p) [.Call (.Name "range" p') [a] [] pos'] [] pos) (tLR ta):=by
 intro pins s σ H Q I h
 refine Call_ (zbP I hg hm boot_list (PyProof.Rows.callWith_type1 ?_ hs' rfl))
 rw [hs']
 show wpAny _ _ (spliced [(false,eval (.Call (.Name "range" p') [a] [] pos') X.env)]) _ _ s
 refine Calls.spliced_cons (Call_ (zbP I hg' hm' boot_range (PyProof.Rows.callWith_type1 (thn (ha pos' pins s σ H _ I h) fun us s1 ⟨vs,H1,I1,r1,q1⟩=>?_) hs rfl)))
 obtain ⟨j,e,q1,q2,q⟩:=q1
 subst e
 cases r1 with
 | cons r rr=>
  cases rr
  obtain ⟨t,rfl⟩:=r
  refine call_range_1 (Calls.spliced_nil ?_)
  have I2:Inv X pins σ H1 { s1 with heap:=s1.heap.push { cls:=.type "range",data:=.fields #[.int 0 s1.toks,.int j t,.int 1 (s1.toks+1)] },toks:=s1.toks+1+1 }:=I1.kept fun b o e=>Heap.get?_push_of_some _ e
  have hn:Builtin.Range.rangeSize 0 j 1=(j.toNat:Int):=by rw [rangeSize_one]; split<;>lia
  refine call_list_range (I2.ok.hd hc) (IsRange.new ..) (small_one (by lia) (by lia) q1 (by lia)) hn (by lia) fun h' tk acc c hk hnew hit=>?_
  have hv:Vals ((List.range j.toNat).map fun (k:Nat)=>V.int k) acc.toList:=by
   refine zdn (by have h1:=hit.1; simp only [List.length_map,List.length_range,Array.length_toList]; lia) fun i x u e1 e2=>?_
   rw [List.getElem?_map] at e1
   obtain ⟨k,h1,h2⟩:=Qm e1
   obtain ⟨tk',h3⟩:=hit.2 i u (by simpa using e2)
   obtain ⟨h4,rfl⟩:=List.getElem?_eq_some_iff.mp h1
   subst h2 h3
   rw [List.getElem_range]
   exact ⟨tk',by rw [Int.zero_add,Int.mul_one]⟩
  exact ⟨.ref _,_,I2.laid (o:=.lst ((List.range j.toNat).map fun (k:Nat)=>V.int k)) (t':=tk) hk (Nat.le_refl _) ⟨by rw [List.length_map,List.length_range,sizeLine_eq]; lia,acc.toList,c,hv,by rw [hnew]⟩,rfl,q _ (I2.hok.fresh (Nat.le_refl _))⟩
end
end L2
namespace Dw
open PySem PySem.Spec PyProof.Rows L2
def Sx(l:List Nat):Str:=⟨l.toArray⟩
theorem zft(l:List Nat):(Sx l).cps.toList=l:=by simp [Sx]
theorem zdM(l:List Nat):(Sx l).length=l.length:=by simp [Sx,Str.length]
theorem zc8{l m:List Nat}(h:Sx l=Sx m):l=m:=by
 have:=congrArg (fun x=>x.cps.toList) h
 simpa [Sx] using this
theorem znI(l m:List Nat):Sx l++Sx m=Sx (l++m):=by
 show Str.mk _=_
 simp [Sx]
theorem Sx_to(l:List Nat){j:Int}(h0:0<=j)(h:j<=l.length):Txt.slice (Sx l) none (some j)=Sx (l.take j.toNat):=by
 have:=slice_closes_to (x:=Sx l) (j:=j) ⟨h0,by rw [zft]; exact h⟩
 rw [eq_of_beq this,zft]
 simp [Sx]
theorem zlD(l:List Nat){j:Int}(h0:0<=j)(h:j<=l.length):Txt.slice (Sx l) (some j) none=Sx (l.drop j.toNat):=by
 have:=slice_closes_from (x:=Sx l) (i:=j) ⟨h0,by rw [zft]; exact h⟩
 rw [eq_of_beq this,zft,List.take_of_length_le (by rw [List.length_drop]; lia)]
 rfl
def zca(x:Str):Prop:=1<=x.length/\x.length<=8/\∀ c∈x.cps.toList,97<=c/\c<=122
abbrev letters:Str:="abcdefghijklmnopqrstuvwxyz"
theorem zh2{i:Int}(h0:0<=i)(h:i < 26):atI letters.cps.toList i=some (97+i.toNat):=by
 have key:∀ j:Nat,j < 26->letters.cps.toList[j]?=some (97+j):=by decide +kernel
 have ek:i=((i.toNat:Nat):Int):=by lia
 have q:=ziI (key i.toNat (by lia))
 rw [<-ek] at q
 exact q
theorem zfJ:letters.length<=sizeLine:=by decide +kernel
end Dw
namespace Dw
open PySem PySem.Spec PyProof.Rows L2
structure Pairing (ps:List Nat) (n:Nat):Prop where
 len:ps.length=2*n
 lt:∀ k∈ps,k < n
 two:∀ k,k < n->ps.count k=2
structure Half (pl:List (Option Nat)) (n i:Nat):Prop where
 len:pl.length=2*n
 lt:∀ k,some k∈pl->k < i
 two:∀ k,k < i->pl.count (some k)=2
 free:pl.count none+2*i=2*n
theorem Half.start(n:Nat):Half (List.replicate (2*n) none) n 0:=by
 refine ⟨List.length_replicate ..,fun k hk=>?_,fun k hk=>absurd hk (Nat.not_lt_zero k),?_⟩
 ·have:=List.eq_of_mem_replicate hk
  cases this
 ·rw [List.count_replicate_self]; lia
theorem zcC{α β:Type}[BEq α][LawfulBEq α][BEq β][LawfulBEq β]{f:α->β}(hf:∀ a b,f a=f b->a=b)(x:α):∀ l:List α,(l.map f).count (f x)=l.count x
 | []=>rfl
 | a::r=>by
  rw [List.map_cons,List.count_cons,List.count_cons,zcC hf x r]
  by_cases e:a=x
  ·subst e; simp
  ·have e1:(a == x)=false:=by simpa using e
   have e2:(f a == f x)=false:=by simpa using fun z=>e (hf _ _ z)
   rw [e1,e2]
theorem zaz{l:List Str}{k:Nat}(h:k < l.length):l.getD k Str.empty=l[k]:=by
 simp [List.getD,List.getElem?_eq_getElem h]
theorem Half.next{pl:List (Option Nat)}{n i f0 f1:Nat}(h:Half pl n i)(hi:i < n)(h0:pl[f0]?=some none)(h1:pl[f1]?=some none)(hne:f0≠f1):Half ((pl.set f1 (some i)).set f0 (some i)) n (i+1):=by
 obtain ⟨l1,e1⟩:=List.getElem?_eq_some_iff.mp h1
 have h0':(pl.set f1 (some i))[f0]?=some none:=by rw [List.getElem?_set_ne (Ne.symm hne)]; exact h0
 obtain ⟨l0,e0⟩:=List.getElem?_eq_some_iff.mp h0'
 have ci:pl.count (some i)=0:=by
  refine List.count_eq_zero.mpr fun hm=>?_
  exact absurd (h.lt i hm) (Nat.lt_irrefl _)
 have cn:=h.free
 have key:∀ x,((pl.set f1 (some i)).set f0 (some i)).count x=pl.count x - (if (none:Option Nat) == x then 1 else 0)+(if some i == x then 1 else 0) - (if (none:Option Nat) == x then 1 else 0)+(if some i == x then 1 else 0):=fun x=>by
  rw [List.count_set l0,e0,List.count_set l1,e1]
 refine ⟨by rw [List.length_set,List.length_set]; exact h.len,fun k hk=>?_,fun k hk=>?_,?_⟩
 ·rcases List.mem_or_eq_of_mem_set hk with z | z
  ·rcases List.mem_or_eq_of_mem_set z with z | z
   ·exact Nat.lt_succ_of_lt (h.lt k z)
   ·cases z; exact Nat.lt_succ_self _
  ·cases z; exact Nat.lt_succ_self _
 ·rw [key]
  by_cases e:k=i
  ·subst e
   rw [ci]
   simp
  ·have:(some i == some k)=false:=by simpa using fun z=>e z.symm
   rw [this]
   simpa using h.two k (by lia)
 ·rw [key]
  have:(some i == (none:Option Nat))=false:=rfl
  rw [this]
  have:((none:Option Nat) == none)=true:=rfl
  rw [this]
  simp only [if_true,Bool.false_eq_true,if_false]
  lia
theorem Half.done{pl:List (Option Nat)}{n:Nat}(h:Half pl n n):∃ ps:List Nat,Pairing ps n/\pl=ps.map some:=by
 have hz:pl.count none=0:=by have:=h.free; lia
 have hn:none∉pl:=List.count_eq_zero.mp hz
 obtain ⟨ps,rfl⟩:∃ ps:List Nat,pl=ps.map some:=by
  clear h hz
  induction pl with
  | nil=>exact ⟨[],rfl⟩
  | cons o r ih=>
   obtain ⟨ps,rfl⟩:=ih fun z=>hn (List.mem_cons_of_mem _ z)
   cases o with
   | none=>exact absurd List.mem_cons_self hn
   | some j=>exact ⟨j::ps,rfl⟩
 refine ⟨ps,⟨by have:=h.len; rwa [List.length_map] at this,fun k hk=>h.lt k (List.mem_map_of_mem hk),fun k hk=>?_⟩,rfl⟩
 have:=h.two k hk
 rwa [zcC (fun a b z=>Option.some.inj z)] at this
structure GoodWord (wd:List Str):Prop where
 name:∀ x∈wd,zca x
 two:∀ x∈wd,wd.count x=2
 len:wd.length<=60
theorem zfN{names:List Str}{ps:List Nat}{n:Nat}(hn:n<=30)(hl:names.length=n)(hd:names.Nodup)(hN:∀ x∈names,zca x)(hp:Pairing ps n):GoodWord (ps.map fun k=>names.getD k Str.empty):=by
 have inj:∀ j k,j < n->k < n->names.getD j Str.empty=names.getD k Str.empty->j=k:=fun j k hj hk e=>by
  rw [zaz (by lia),zaz (by lia)] at e
  exact (List.getElem_inj hd).mp e
 have memn:∀ k,k < n->names.getD k Str.empty∈names:=fun k hk=>by
  rw [zaz (by lia)]
  exact List.getElem_mem _
 have cnt:∀ (l:List Nat),(∀ k∈l,k < n)->∀ k,k < n->(l.map fun k=>names.getD k Str.empty).count (names.getD k Str.empty)=l.count k:=by
  intro l
  induction l with
  | nil=>intro _ _ _; rfl
  | cons j r ih=>
   intro hl' k hk
   rw [List.map_cons,List.count_cons,List.count_cons,ih (fun k hk=>hl' k (List.mem_cons_of_mem _ hk)) k hk]
   by_cases e:j=k
   ·subst e; simp
   ·have e1:(j == k)=false:=by simpa using e
    have e2:(names.getD j Str.empty == names.getD k Str.empty)=false:=by
     simp only [beq_eq_false_iff_ne,ne_eq]
     exact fun z=>e (inj j k (hl' j List.mem_cons_self) hk z)
    rw [e1,e2]
 refine ⟨fun x hx=>?_,fun x hx=>?_,?_⟩
 ·obtain ⟨k,hk,rfl⟩:=List.mem_map.mp hx
  exact hN _ (memn k (hp.lt k hk))
 ·obtain ⟨k,hk,rfl⟩:=List.mem_map.mp hx
  rw [cnt ps hp.lt k (hp.lt k hk),hp.two k (hp.lt k hk)]
 ·rw [List.length_map,hp.len]; lia
end Dw
namespace Dw
open PySem PySem.Spec PyProof.Rows L2
def stp(acc:List Str)(x:Str):List Str:=if x∈acc then acc else acc++[x]
def za0(wd:List Str):List Str:=wd.foldl stp []
theorem zci{wd:List Str}{i:Nat}{x:Str}(h:wd[i]?=some x):za0 (wd.take (i+1))=stp (za0 (wd.take i)) x:=by
 unfold za0
 rw [List.take_succ,h,Option.toList_some,List.foldl_append]
 rfl
theorem ze9:∀ (wd acc:List Str),(wd.foldl stp acc).length<=acc.length+wd.length
 | [],acc=>by simp
 | x::wd,acc=>by
  rw [List.foldl_cons]
  have:=ze9 wd (stp acc x)
  have h:(stp acc x).length<=acc.length+1:=by unfold stp; split<;>simp
  rw [List.length_cons]
  lia
end Dw
namespace L3
open PySem PySem.Spec PyProof.Rows L2
class TheK where
 K:PySem.W.Frag
variable [TheK]
inductive T where
 | non | bl (b:Bool) | int (i:Int) | str (x:Str)
 | lst (xs:List T) | tup (xs:List T) | dct (kvs:List (Key × T)) | set (S:Int->Bool) (n:Nat)
 /-- a dict that will not be changed any more: it may be walked -/
 | fd (kvs:List (Key × T))
 /-- the script -/
 | scr (ns:List Int)
 /-- nothing is known -/
 | any
abbrev Sg:=List (Option T)
inductive Rep (C:Addr->Prop) (H:Hp):V->T->Prop
 | non:Rep C H .non .non
 | bl (b:Bool):Rep C H (.bl b) (.bl b)
 | int (i:Int):Rep C H (.int i) (.int i)
 | str (x:Str):Rep C H (.str x) (.str x)
 | lst {a:Addr} {vs:List V} {ts:List T} (c:C a) (r:H a=some (.lst vs)) (l:vs.length=ts.length) (h:∀ (i:Nat) v t,vs[i]?=some v->ts[i]?=some t->Rep C H v t):Rep C H (.ref a) (.lst ts)
 | tup {a:Addr} {vs:List V} {ts:List T} (c:C a) (r:H a=some (.tup vs)) (l:vs.length=ts.length) (h:∀ (i:Nat) v t,vs[i]?=some v->ts[i]?=some t->Rep C H v t):Rep C H (.ref a) (.tup ts)
 | dct {a:Addr} {kvs:List (Key × V)} {ts:List (Key × T)} (c:C a) (r:H a=some (.dK kvs)) (l:kvs.map (·.1)=ts.map (·.1)) (h:∀ (i:Nat) v t,kvs[i]?=some v->ts[i]?=some t->Rep C H v.2 t.2):Rep C H (.ref a) (.dct ts)
 | set {a:Addr} {S:Int->Bool} {n:Nat} (c:C a) (r:H a=some (.set S n)):Rep C H (.ref a) (.set S n)
 | fd {a:Addr} {o:Obj} {kvs:List (Key × V)} {ts:List (Key × T)} (c:C a) (r:H a=some (.frz o (.dK kvs))) (l:kvs.map (·.1)=ts.map (·.1)) (h:∀ (i:Nat) v t,kvs[i]?=some v->ts[i]?=some t->Rep C H v.2 t.2):Rep C H (.ref a) (.fd ts)
 | scr {a:Addr} {ns:List Int} {o:Obj} (c:C a) (r:H a=some (.frz o (.lst (ns.map V.int)))):Rep C H (.ref a) (.scr ns)
 /-- the script,as an object of the module -/
 | scrK {a:Addr} {ns:List Int} (r:∀ H',SqL TheK.K H' a (ns.map V.int)):Rep C H (.ref a) (.scr ns)
 | any {v:V}:Rep C H v .any
def Reps(C:Addr->Prop)(H:Hp)(vs:List V)(ts:List T):Prop:=vs.length=ts.length/\∀ (i:Nat) v t,vs[i]?=some v->ts[i]?=some t->Rep C H v t
def RepK(C:Addr->Prop)(H:Hp)(vs:List (Key × V))(ts:List (Key × T)):Prop:=vs.map (·.1)=ts.map (·.1)/\∀ (i:Nat) v t,vs[i]?=some v->ts[i]?=some t->Rep C H v.2 t.2
section
variable {C C':Addr->Prop}{H H':Hp}{v:V}{t:T}{vs:List V}{ts:List T}
theorem Rep.mono(h:Rep C H v t)(hc:∀ a,C a->C' a)(hh:∀ a o,C a->H a=some o->H' a=some o):Rep C' H' v t:=by
 induction h with
 | non=>exact .non
 | bl b=>exact .bl b
 | int i=>exact .int i
 | str x=>exact .str x
 | lst c r l h ih=>exact .lst (hc _ c) (hh _ _ c r) l ih
 | tup c r l h ih=>exact .tup (hc _ c) (hh _ _ c r) l ih
 | dct c r l h ih=>exact .dct (hc _ c) (hh _ _ c r) l ih
 | set c r=>exact .set (hc _ c) (hh _ _ c r)
 | fd c r l h ih=>exact .fd (hc _ c) (hh _ _ c r) l ih
 | scr c r=>exact .scr (hc _ c) (hh _ _ c r)
 | scrK r=>exact .scrK r
 | any=>exact .any
theorem Rep.there(h:Rep C H v t):Rep (fun a=>C a/\H a≠none) H v t:=by
 induction h with
 | non=>exact .non
 | bl b=>exact .bl b
 | int i=>exact .int i
 | str x=>exact .str x
 | lst c r l h ih=>exact .lst ⟨c,by rw [r]; simp⟩ r l ih
 | tup c r l h ih=>exact .tup ⟨c,by rw [r]; simp⟩ r l ih
 | dct c r l h ih=>exact .dct ⟨c,by rw [r]; simp⟩ r l ih
 | set c r=>exact .set ⟨c,by rw [r]; simp⟩ r
 | fd c r l h ih=>exact .fd ⟨c,by rw [r]; simp⟩ r l ih
 | scr c r=>exact .scr ⟨c,by rw [r]; simp⟩ r
 | scrK r=>exact .scrK r
 | any=>exact .any
theorem Reps.mono(h:Reps C H vs ts)(hc:∀ a,C a->C' a)(hh:∀ a o,C a->H a=some o->H' a=some o):Reps C' H' vs ts:=⟨h.1,fun i v t e1 e2=>(h.2 i v t e1 e2).mono hc hh⟩
theorem RepK.mono{ks:List (Key × V)}{kt:List (Key × T)}(h:RepK C H ks kt)(hc:∀ a,C a->C' a)(hh:∀ a o,C a->H a=some o->H' a=some o):RepK C' H' ks kt:=⟨h.1,fun i v t e1 e2=>(h.2 i v t e1 e2).mono hc hh⟩
theorem Reps.there(h:Reps C H vs ts):Reps (fun a=>C a/\H a≠none) H vs ts:=⟨h.1,fun i v t e1 e2=>(h.2 i v t e1 e2).there⟩
theorem RepK.there{ks:List (Key × V)}{kt:List (Key × T)}(h:RepK C H ks kt):RepK (fun a=>C a/\H a≠none) H ks kt:=⟨h.1,fun i v t e1 e2=>(h.2 i v t e1 e2).there⟩
theorem Reps.nil:Reps C H [] []:=⟨rfl,fun i v t e=>by simp at e⟩
theorem Reps.cons(h:Rep C H v t)(hs:Reps C H vs ts):Reps C H (v::vs) (t::ts):=by
 refine ⟨by simp [hs.1],fun i v' t' e1 e2=>?_⟩
 cases i with
 | zero=>simp at e1 e2; subst e1 e2; exact h
 | succ i=>exact hs.2 i v' t' (by simpa using e1) (by simpa using e2)
theorem Reps.head(hs:Reps C H (v::vs) (t::ts)):Rep C H v t:=hs.2 0 v t rfl rfl
theorem Reps.tail(hs:Reps C H (v::vs) (t::ts)):Reps C H vs ts:=⟨by simpa using hs.1,fun i v' t' e1 e2=>hs.2 (i+1) v' t' (by simpa using e1) (by simpa using e2)⟩
theorem Reps.get{i:Nat}(hs:Reps C H vs ts)(e:ts[i]?=some t):∃ v,vs[i]?=some v/\Rep C H v t:=by
 have hi:i < ts.length:=(List.getElem?_eq_some_iff.mp e).1
 have hv:i < vs.length:=by rw [hs.1]; exact hi
 exact ⟨vs[i],List.getElem?_eq_getElem hv,hs.2 i _ t (List.getElem?_eq_getElem hv) e⟩
theorem Reps.append{vs':List V}{ts':List T}(h:Reps C H vs ts)(h':Reps C H vs' ts'):Reps C H (vs++vs') (ts++ts'):=by
 refine ⟨by simp [h.1,h'.1],fun i v t e1 e2=>?_⟩
 by_cases hi:i < vs.length
 ·rw [List.getElem?_append_left hi] at e1
  rw [List.getElem?_append_left (by rw [<-h.1]; exact hi)] at e2
  exact h.2 i v t e1 e2
 ·rw [List.getElem?_append_right (by lia)] at e1
  rw [List.getElem?_append_right (by rw [<-h.1]; lia),<-h.1] at e2
  exact h'.2 _ v t e1 e2
theorem Reps.drop(n:Nat)(h:Reps C H vs ts):Reps C H (vs.drop n) (ts.drop n):=⟨by simp [h.1],fun i v t e1 e2=>h.2 (n+i) v t (by simpa using e1) (by simpa using e2)⟩
theorem Reps.take(n:Nat)(h:Reps C H vs ts):Reps C H (vs.take n) (ts.take n):=⟨by simp [h.1],fun i v t e1 e2=>by
 rw [List.getElem?_take] at e1 e2
 split at e1
 ·rename_i hi
  rw [if_pos hi] at e2
  exact h.2 i v t e1 e2
 ·cases e1⟩
theorem Reps.set(n:Nat)(h:Reps C H vs ts)(r:Rep C H v t):Reps C H (vs.set n v) (ts.set n t):=⟨by simp [h.1],fun i v' t' e1 e2=>by
 rw [List.getElem?_set] at e1 e2
 by_cases hi:n=i
 ·rw [if_pos hi] at e1 e2
  split at e1
  ·split at e2
   ·cases e1; cases e2; exact r
   ·cases e2
  ·cases e1
 ·rw [if_neg hi] at e1 e2
  exact h.2 i v' t' e1 e2⟩
inductive Live (C:Addr->Prop) (H:Hp):Addr->T->Prop
 | lst {a:Addr} {vs:List V} {ts:List T} (r:H a=some (.lst vs)) (h:Reps C H vs ts):Live C H a (.lst ts)
 | dct {a:Addr} {kvs:List (Key × V)} {ts:List (Key × T)} (r:H a=some (.dK kvs)) (h:RepK C H kvs ts):Live C H a (.dct ts)
 | set {a:Addr} {S:Int->Bool} {n:Nat} (r:H a=some (.set S n)):Live C H a (.set S n)
 | any {a:Addr} {o:HO} (r:H a=some o):Live C H a .any
variable {a:Addr}
theorem Live.mono(h:Live C H a t)(hc:∀ a,C a->C' a)(hh:∀ a o,C a->H a=some o->H' a=some o)(ha:∀ o,H a=some o->H' a=some o):Live C' H' a t:=by
 cases h with
 | lst r h=>exact .lst (ha _ r) (h.mono hc hh)
 | dct r h=>exact .dct (ha _ r) (h.mono hc hh)
 | set r=>exact .set (ha _ r)
 | any r=>exact .any (ha _ r)
theorem Live.there(h:Live C H a t):Live (fun a=>C a/\H a≠none) H a t:=by
 cases h with
 | lst r h=>exact .lst r h.there
 | dct r h=>exact .dct r h.there
 | set r=>exact .set r
 | any r=>exact .any r
theorem Live.ne(h:Live C H a t):H a≠none:=by
 cases h with
 | lst r h=>rw [r]; simp
 | dct r h=>rw [r]; simp
 | set r=>rw [r]; simp
 | any r=>rw [r]; simp
theorem Live.rep(h:Live C H a t)(hc:∀ b,C b->C' b)(ha:C' a):Rep C' H (.ref a) t:=by
 cases h with
 | lst r h=>exact .lst ha r h.1 fun i v t e1 e2=>(h.2 i v t e1 e2).mono hc fun _ _ _ e=>e
 | dct r h=>exact .dct ha r h.1 fun i v t e1 e2=>(h.2 i v t e1 e2).mono hc fun _ _ _ e=>e
 | set r=>exact .set ha r
 | any r=>exact .any
end
structure Fr where
 H0:Hp
 C0:Addr->Prop
 D:Addr->Prop
 adr:Nat->Addr
def Free(F:Fr)(O:Addr->Prop):Addr->Prop:=fun a=>¬ O a/\(F.C0 a∨F.H0 a=none)
theorem Free.weak{F:Fr}{O O':Addr->Prop}{a:Addr}(h:∀ b,O' b->O b)(x:Free F O a):Free F O' a:=⟨fun z=>x.1 (h _ z),x.2⟩
structure Rel (F:Fr) (O:Addr->Prop) (M:List Nat) (s:Sg) (σ:L2.St) (H:Hp):Prop where
 len:s.length=σ.length
 val:∀ (i:Nat) t,s[i]?=some (some t)->i∉M->∃ v,σ[i]?=some (some v)/\Rep (Free F O) H v t
 own:∀ (i:Nat) t,s[i]?=some (some t)->i∈M->∃ a,σ[i]?=some (some (.ref a))/\Live (Free F O) H a t
 ow:∀ (i:Nat) a,i∈M->σ[i]?=some (some (.ref a))->O a
 dis:∀ (i j:Nat) a,i∈M->j∈M->σ[i]?=some (some (.ref a))->σ[j]?=some (some (.ref a))->i=j
 keep:∀ b o,¬ F.D b->F.H0 b=some o->H b=some o
 dom:∀ b,H b=none->F.H0 b=none
 fresh:∀ a,O a->F.D a∨F.H0 a=none
 inD:∀ a,F.D a->O a
 al:∀ a,O a->H a≠none
structure Step (σ:L2.St) (M:List Nat) (H H':Hp):Prop where
 keep:∀ b o,(∀ (i:Nat),i∈M->σ[i]?≠some (some (.ref b)))->H b=some o->H' b=some o
 dom:∀ b,H' b=none->H b=none
section
variable {F:Fr}{O:Addr->Prop}{M:List Nat}{s s':Sg}{σ:L2.St}{H H' H'':Hp}{v:V}{t:T}{a:Addr}
theorem Step.refl:Step σ M H H:=⟨fun _ _ _ h=>h,fun _ h=>h⟩
theorem Step.trans(x:Step σ M H H')(y:Step σ M H' H''):Step σ M H H'':=⟨fun b o n h=>y.keep b o n (x.keep b o n h),fun b h=>x.dom b (y.dom b h)⟩
theorem Step.new(h:H a=none)(o:HO):Step σ M H (upd H a o):=⟨fun b u _ q=>by rw [za5 (za3 q h)]; exact q,fun b h'=>by
 unfold upd at h'
 split at h'
 ·cases h'
 ·exact h'⟩
theorem Rel.notOwned(R:Rel F O M s σ H)(h:¬ O a):∀ (i:Nat),i∈M->σ[i]?≠some (some (.ref a)):=fun i hi e=>h (R.ow i a hi e)
theorem Rel.stay(R:Rel F O M s σ H)(S:Step σ M H H')(h:Rep (Free F O) H v t):Rep (Free F O) H' v t:=
 h.mono (fun _ c=>c) fun a o c e=>S.keep a o (R.notOwned c.1) e
theorem Rel.less{O':Addr->Prop}(R:Rel F O M s σ H)(h:∀ b,O' b->O b)(hw:∀ (i:Nat) a,i∈M->σ[i]?=some (some (.ref a))->O' a)(hD:∀ a,F.D a->O' a):Rel F O' M s σ H where
 len:=R.len
 val:=fun i t e n=>by
  obtain ⟨v,h1,h2⟩:=R.val i t e n
  exact ⟨v,h1,h2.mono (fun _ c=>c.weak h) fun _ _ _ e=>e⟩
 own:=fun i t e n=>by
  obtain ⟨a,h1,h2⟩:=R.own i t e n
  exact ⟨a,h1,h2.mono (fun _ c=>c.weak h) (fun _ _ _ e=>e) fun _ e=>e⟩
 ow:=hw
 dis:=R.dis
 keep:=R.keep
 dom:=R.dom
 fresh:=fun a z=>R.fresh a (h a z)
 inD:=hD
 al:=fun a z=>R.al a (h a z)
theorem Rel.new(R:Rel F O M s σ H)(h:H a=none)(o:HO):Rel F (fun b=>O b∨b=a) M s σ (upd H a o):=by
 have k:∀ b u,H b=some u->upd H a o b=some u:=fun b u q=>by rw [za5 (za3 q h)]; exact q
 have fr:∀ b,Free F O b/\H b≠none->Free F (fun b=>O b∨b=a) b:=fun b c=>⟨fun z=>z.elim c.1.1 fun z=>c.2 (z▸h),c.1.2⟩
 refine ⟨R.len,fun i t e n=>?_,fun i t e n=>?_,fun i b hi e=>.inl (R.ow i b hi e),R.dis,fun b u n e=>k _ _ (R.keep b u n e),fun b e=>?_,fun b z=>?_,fun b z=>.inl (R.inD b z),fun b z=>?_⟩
 ·obtain ⟨v,h1,h2⟩:=R.val i t e n
  exact ⟨v,h1,h2.there.mono fr fun b u _ e=>k b u e⟩
 ·obtain ⟨b,h1,h2⟩:=R.own i t e n
  exact ⟨b,h1,h2.there.mono fr (fun b u _ e=>k b u e) fun u e=>k b u e⟩
 ·refine R.dom b ?_
  unfold upd at e
  split at e
  ·cases e
  ·exact e
 ·rcases z with z | z
  ·exact R.fresh b z
  ·subst z; exact .inr (R.dom _ h)
 ·rcases z with z | z
  ·intro e
   refine R.al b z ?_
   unfold upd at e
   split at e
   ·cases e
   ·exact e
  ·subst z; rw [za8]; simp
end
end L3
namespace L3
open PySem PySem.Spec PyProof.Rows L2
variable [TheK]
inductive Kd where
 | e | b | n
def BRep(C:Addr->Prop)(H:Hp)(v:V)(t:T):Prop:=Rep C H v t∨∃ a,v=.ref a/\Live C H a t
def Post(k:Kd)(F:Fr)(O:Addr->Prop)(M:List Nat)(σ:L2.St)(H:Hp)(s':Sg)(t:T)(v:V)(H':Hp):Prop:=match k with
 | .e=>Rel F O M s' σ H'/\Rep (Free F O) H' v t
 | .b=>Rel F O M s' σ H'/\(Rep (Free F O) H' v t∨∃ i:Nat,i∈M/\σ[i]?=some (some v)/\s'[i]?=some (some t))
 | .n=>∃ a,v=.ref a/\H a=none/\Rel F (fun b=>O b∨b=a) M s' σ H'/\Live (Free F (fun b=>O b∨b=a)) H' a t
abbrev DE:=Sg->Option (T × Sg)
abbrev DT:=Sg->Option (Bool × Sg)
abbrev DA:=Sg->Option (List T × Sg)
def cE(k:Kd)(M:List Nat)(f:DE):TE:=fun σ H Q=>∃ F O s t s',Rel F O M s σ H/\f s=some (t,s')/\∀ v H',Step σ M H H'->Post k F O M σ H s' t v H'->Q v H'
theorem cE_{k:Kd}{M:List Nat}{f:DE}{σ:L2.St}{H:Hp}{Q:VK}(h:cE k M f σ H Q){G:Prop}(g:∀ F O s t s',Rel F O M s σ H->f s=some (t,s')->(∀ v H',Step σ M H H'->Post k F O M σ H s' t v H'->Q v H')->G):G:=by
 obtain ⟨F,O,s,t,s',R,hf,q⟩:=h
 exact g F O s t s' R hf q
def cT(M:List Nat)(f:DT):TT:=fun σ H Q=>∃ F O s b s',Rel F O M s σ H/\f s=some (b,s')/\∀ H',Step σ M H H'->Rel F O M s' σ H'->Q b H'
theorem cT_{M:List Nat}{f:DT}{σ:L2.St}{H:Hp}{Q:Bool->Hp->Prop}(h:cT M f σ H Q){G:Prop}(g:∀ F O s b s',Rel F O M s σ H->f s=some (b,s')->(∀ H',Step σ M H H'->Rel F O M s' σ H'->Q b H')->G):G:=by
 obtain ⟨F,O,s,b,s',R,hf,q⟩:=h
 exact g F O s b s' R hf q
def cA(M:List Nat)(f:DA):TA:=fun σ H Q=>∃ F O s ts s',Rel F O M s σ H/\f s=some (ts,s')/\∀ vs H',Step σ M H H'->Rel F O M s' σ H'->Reps (Free F O) H' vs ts->Q vs H'
theorem weak{X:Cx}{e:Expr}{t t':TE}(h:PE X e t)(hw:∀ σ H Q,t' σ H Q->t σ H Q):PE X e t':=fun pins s σ H Q I q=>h pins s σ H Q I (hw _ _ _ q)
theorem weakT{X:Cx}{e:Expr}{t t':TT}(h:PT X e t)(hw:∀ σ H Q,t' σ H Q->t σ H Q):PT X e t':=fun pins s σ H Q I q=>h pins s σ H Q I (hw _ _ _ q)
theorem weakW{X:Cx}{e:Expr}{t t':TT}(h:PW X e t)(hw:∀ σ H Q,t' σ H Q->t σ H Q):PW X e t':=fun wh pins s σ H Q I q=>h wh pins s σ H Q I (hw _ _ _ q)
theorem weakA{X:Cx}{es:List Expr}{t t':TA}(h:PA X es t)(hw:∀ σ H Q,t' σ H Q->t σ H Q):PA X es t':=fun pos pins s σ H Q I q=>h pos pins s σ H Q I (hw _ _ _ q)
theorem weakS{X:Cx}{e:Stmt}{t t':TS}(h:PS X e t)(hw:∀ D σ H,t' D σ H->t D σ H):PS X e t':=fun pins s σ H D I q=>h pins s σ H D I (hw _ _ _ q)
theorem zdQ{X:Cx}{e:List Stmt}{t t':TS}(h:PSs X e t)(hw:∀ D σ H,t' D σ H->t D σ H):PSs X e t':=fun pins s σ H D I q=>h pins s σ H D I (hw _ _ _ q)
section
variable {F:Fr}{O:Addr->Prop}{M:List Nat}{s s':Sg}{σ:L2.St}{H H':Hp}{v:V}{t:T}{a:Addr}
theorem Post.ne(R:Rel F O M s σ H)(h:Post .n F O M σ H s' t v H'):Post .e F O M σ H s' t v H':=by
 obtain ⟨a,rfl,h0,R',L⟩:=h
 have w:∀ b,O b->(O b∨b=a):=fun b z=>.inl z
 refine ⟨R'.less w R.ow R.inD,L.rep (fun b c=>c.weak w) ⟨fun z=>R.al a z h0,.inr (R.dom a h0)⟩⟩
theorem Post.eb(h:Post .e F O M σ H s' t v H'):Post .b F O M σ H s' t v H':=⟨h.1,.inl h.2⟩
theorem Post.view(h:Post .b F O M σ H s' t v H'):BRep (Free F O) H' v t:=by
 rcases h.2 with h2 | ⟨i,hi,e1,e2⟩
 ·exact .inl h2
 ·obtain ⟨a,e3,L⟩:=h.1.own i t e2 hi
  rw [e1] at e3
  exact .inr ⟨a,by injection e3 with e3; injection e3,L⟩
theorem Post.mkN(R:Rel F O M s σ H)(R1:Rel F O M s' σ H')(S:Step σ M H H'){p:Addr}{o:HO}(hp:H' p=none)(L:∀ C:Addr->Prop,(∀ b,Free F O b/\H' b≠none->C b)->Live C (upd H' p o) p t):Post .n F O M σ H s' t (.ref p) (upd H' p o):=
 ⟨p,rfl,S.dom p hp,R1.new hp o,L _ fun b c=>⟨fun z=>z.elim c.1.1 fun z=>c.2 (z▸hp),c.1.2⟩⟩
theorem Post.mkE(R1:Rel F O M s' σ H'){p:Addr}{o:HO}(hp:H' p=none)(L:∀ C:Addr->Prop,(∀ b,Free F O b/\H' b≠none->C b)->C p->Rep C (upd H' p o) (.ref p) t):Post .e F O M σ H s' t (.ref p) (upd H' p o):=by
 have w:∀ b,O b->(O b∨b=p):=fun b z=>.inl z
 exact ⟨(R1.new hp o).less w R1.ow R1.inD,L _ (fun b c=>c.1) ⟨fun z=>R1.al p z hp,.inr (R1.dom p hp)⟩⟩
end
section
variable {X:Cx}{M:List Nat}{e a b:Expr}{fa fb:DE}
theorem ne(h:PE X e (cE .n M fa)):PE X e (cE .e M fa):=weak h fun σ H Q h_=>cE_ h_ fun F O s t s' R hf q=>⟨F,O,s,t,s',R,hf,fun v H' S p=>q v H' S (p.ne R)⟩
theorem eb(h:PE X e (cE .e M fa)):PE X e (cE .b M fa):=weak h fun σ H Q h_=>cE_ h_ fun F O s t s' R hf q=>⟨F,O,s,t,s',R,hf,fun v H' S p=>q v H' S p.eb⟩
theorem nb(h:PE X e (cE .n M fa)):PE X e (cE .b M fa):=eb (ne h)
def dV(i:Nat):DE:=fun s=>(s[i]?).join.map fun t=>(t,s)
def dC(t:T):DE:=fun s=>some (t,s)
theorem zaa{α:Type}{o:Option (Option α)}{x:α}(h:o.join=some x):o=some (some x):=by
 cases o with
 | none=>cases h
 | some o=>cases o with
  | none=>cases h
  | some y=>injection h with h; rw [h]
theorem zix{i:Nat}{s s':Sg}{t:T}(h:dV i s=some (t,s')):s[i]?=some (some t)/\s'=s:=by
 unfold dV at h
 cases e:(s[i]?).join with
 | none=>rw [e] at h; cases h
 | some x=>
  rw [e] at h
  injection h with h
  injection h with h1 h2
  subst h1 h2
  exact ⟨zaa e,rfl⟩
theorem e_var{i:Nat}(hi:M.contains i=false)(h:PE X e (tVar i)):PE X e (cE .e M (dV i)):=weak h fun σ H Q h_=>cE_ h_ fun F O s t s' R hf q=>by
 obtain ⟨e1,rfl⟩:=zix hf
 obtain ⟨v,h1,h2⟩:=R.val i t e1 (by simpa using hi)
 exact ⟨v,h1,q v H .refl ⟨R,h2⟩⟩
theorem e_raw{i:Nat}(hi:M.contains i=true)(h:PE X e (tVar i)):PE X e (cE .b M (dV i)):=weak h fun σ H Q h_=>cE_ h_ fun F O s t s' R hf q=>by
 obtain ⟨e1,rfl⟩:=zix hf
 obtain ⟨a,h1,h2⟩:=R.own i t e1 (by simpa using hi)
 exact ⟨_,h1,q _ H .refl ⟨R,.inr ⟨i,by simpa using hi,h1,e1⟩⟩⟩
theorem e_con{v:V}{t:T}(hr:∀ C H,Rep C H v t)(h:PE X e (tC v)):PE X e (cE .e M (dC t)):=weak h fun σ H Q h_=>cE_ h_ fun F O s t' s' R hf q=>by
 injection hf with hf
 injection hf with h1 h2
 subst h1 h2
 exact q v H .refl ⟨R,hr _ _⟩
theorem e_int{i j pos}:PE X (.Constant (.int i) j pos) (cE .e M (dC (.int i))):=e_con (fun _ _=>.int i) zk0
theorem e_bl{i j pos}:PE X (.Constant (.bool i) j pos) (cE .e M (dC (.bl i))):=e_con (fun _ _=>.bl i) pe_bl
theorem e_str{i j pos}:PE X (.Constant (.str i) j pos) (cE .e M (dC (.str i))):=e_con (fun _ _=>.str i) zmE
theorem e_non{j pos}:PE X (.Constant .none j pos) (cE .e M (dC .non)):=e_con (fun _ _=>.non) zmH
def d2(g:T->T->Option T)(fa fb:DE):DE:=fun s=>(fa s).bind fun p=>(fb p.2).bind fun q=>(g p.1 q.1).map fun t=>(t,q.2)
def d2v(g:T->T->Option T)(i:Nat)(fb:DE):DE:=fun s=>(s[i]?).join.bind fun _=>(fb s).bind fun q=>(q.2[i]?).join.bind fun x=>(g x q.1).map fun t=>(t,q.2)
theorem zfW{g:T->T->Option T}{s s':Sg}{t:T}(h:d2 g fa fb s=some (t,s')):∃ x s1 y,fa s=some (x,s1)/\fb s1=some (y,s')/\g x y=some t:=by
 unfold d2 at h
 cases e:fa s with
 | none=>rw [e] at h; cases h
 | some p=>
  rw [e] at h
  cases e2:fb p.2 with
  | none=>simp [e2] at h
  | some q=>
   simp only [Option.bind_some,e2] at h
   cases e3:g p.1 q.1 with
   | none=>rw [e3] at h; cases h
   | some u=>
    rw [e3] at h
    injection h with h
    injection h with h1 h2
    subst h1 h2
    exact ⟨p.1,p.2,q.1,rfl,by rw [e2],e3⟩
theorem zgG{g:T->T->Option T}{i:Nat}{s s':Sg}{t:T}(h:d2v g i fb s=some (t,s')):∃ x0 x y,s[i]?=some (some x0)/\fb s=some (y,s')/\s'[i]?=some (some x)/\g x y=some t:=by
 unfold d2v at h
 cases e0:(s[i]?).join with
 | none=>rw [e0] at h; cases h
 | some x0=>
 rw [e0] at h
 simp only [Option.bind_some] at h
 cases e:fb s with
 | none=>rw [e] at h; cases h
 | some q=>
  simp only [e,Option.bind_some] at h
  cases e2:(q.2[i]?).join with
  | none=>rw [e2] at h; cases h
  | some x=>
   simp only [e2,Option.bind_some] at h
   cases e3:g x q.1 with
   | none=>rw [e3] at h; cases h
   | some u=>
    rw [e3] at h
    injection h with h
    injection h with h1 h2
    subst h1 h2
    exact ⟨x0,x,q.1,zaa e0,rfl,zaa e2,e3⟩
def S2E(r:R2)(g:T->T->Option T):Prop:=∀ (C:Addr->Prop) (H:Hp) x y tx ty t (Q:VK),BRep C H x tx->BRep C H y ty->g tx ty=some t->(∀ v,Rep C H v t->Q v H)->r x y H Q
def S2N(r:R2)(g:T->T->Option T):Prop:=∀ (C:Addr->Prop) (H:Hp) x y tx ty t (Q:VK),BRep C H x tx->BRep C H y ty->g tx ty=some t->
 (∀ p o,H p=none->(∀ C':Addr->Prop,(∀ b,C b/\H b≠none->C' b)->Live C' (upd H p o) p t)->Q (.ref p) (upd H p o))->r x y H Q
theorem two_e{r:R2}{g:T->T->Option T}(h:S2E r g):∀ σ H Q,cE .e M (d2 g fa fb) σ H Q->tOp r (cE .e M fa) (cE .b M fb) σ H Q:=by
 intro σ H Q h_;refine cE_ h_ fun F O s t s' R hf q=>?_
 obtain ⟨x,s1,y,h1,h2,h3⟩:=zfW hf
 refine ⟨F,O,s,x,s1,R,h1,fun v H1 S1 p1=>?_⟩
 refine ⟨F,O,s1,y,s',p1.1,h2,fun u H2 S2 p2=>?_⟩
 exact h (Free F O) H2 v u x y t Q (.inl (p1.1.stay S2 p1.2)) p2.view h3 fun w rw=>q w H2 (S1.trans S2) ⟨p2.1,rw⟩
theorem two_n{r:R2}{g:T->T->Option T}(h:S2N r g):∀ σ H Q,cE .n M (d2 g fa fb) σ H Q->tOp r (cE .e M fa) (cE .b M fb) σ H Q:=by
 intro σ H Q h_;refine cE_ h_ fun F O s t s' R hf q=>?_
 obtain ⟨x,s1,y,h1,h2,h3⟩:=zfW hf
 refine ⟨F,O,s,x,s1,R,h1,fun v H1 S1 p1=>?_⟩
 refine ⟨F,O,s1,y,s',p1.1,h2,fun u H2 S2 p2=>?_⟩
 exact h (Free F O) H2 v u x y t Q (.inl (p1.1.stay S2 p1.2)) p2.view h3 fun p o hp L=>q _ _ ((S1.trans S2).trans (.new hp o)) (.mkN R p2.1 (S1.trans S2) hp L)
theorem zej{F:Fr}{O:Addr->Prop}{s s':Sg}{σ:L2.St}{H H':Hp}{i:Nat}{t0 t:T}(hi:i∈M)(R:Rel F O M s σ H)(R':Rel F O M s' σ H')(e0:s[i]?=some (some t0))(e:s'[i]?=some (some t)):∃ v,σ[i]?=some (some v)/\BRep (Free F O) H' v t:=by
 obtain ⟨a,h1,_⟩:=R.own i t0 e0 hi
 obtain ⟨b,h2,L⟩:=R'.own i t e hi
 rw [h1] at h2
 injection h2 with h2
 injection h2 with h2
 injection h2 with h2
 subst h2
 exact ⟨_,h1,.inr ⟨a,rfl,L⟩⟩
theorem zjL{r:R2}{g:T->T->Option T}{i:Nat}(hi:M.contains i=true)(h:S2E r g):∀ σ H Q,cE .e M (d2v g i fb) σ H Q->tOp r (tVar i) (cE .b M fb) σ H Q:=by
 intro σ H Q h_;refine cE_ h_ fun F O s t s' R hf q=>?_
 obtain ⟨x0,x,y,h0,h1,h2,h3⟩:=zgG hf
 have hi':i∈M:=by simpa using hi
 obtain ⟨a,e1,_⟩:=R.own i x0 h0 hi'
 refine ⟨_,e1,F,O,s,y,s',R,h1,fun u H2 S2 p2=>?_⟩
 obtain ⟨v,e2,B⟩:=zej hi' R p2.1 h0 h2
 rw [e1] at e2
 injection e2 with e2
 injection e2 with e2
 subst e2
 exact h (Free F O) H2 _ u x y t Q B p2.view h3 fun w rw=>q w H2 S2 ⟨p2.1,rw⟩
end
section
variable {C:Addr->Prop}{H:Hp}{v:V}
theorem BRep.non(h:BRep C H v .non):v=.non:=by
 rcases h with h | ⟨a,rfl,h⟩<;>cases h
 rfl
theorem BRep.bl{b:Bool}(h:BRep C H v (.bl b)):v=.bl b:=by
 rcases h with h | ⟨a,rfl,h⟩<;>cases h
 rfl
theorem BRep.int{i:Int}(h:BRep C H v (.int i)):v=.int i:=by
 rcases h with h | ⟨a,rfl,h⟩<;>cases h
 rfl
theorem BRep.str{x:Str}(h:BRep C H v (.str x)):v=.str x:=by
 rcases h with h | ⟨a,rfl,h⟩<;>cases h
 rfl
theorem BRep.lst{ts:List T}(h:BRep C H v (.lst ts)):∃ a vs,v=.ref a/\H a=some (.lst vs)/\Reps C H vs ts:=by
 rcases h with h | ⟨a,rfl,h⟩
 ·cases h with | lst c r l h=>exact ⟨_,_,rfl,r,l,h⟩
 ·cases h with | lst r h=>exact ⟨_,_,rfl,r,h⟩
theorem BRep.tup{ts:List T}(h:BRep C H v (.tup ts)):∃ a vs,v=.ref a/\H a=some (.tup vs)/\Reps C H vs ts:=by
 rcases h with h | ⟨a,rfl,h⟩
 ·cases h with | tup c r l h=>exact ⟨_,_,rfl,r,l,h⟩
 ·cases h
theorem BRep.dct{ts:List (Key × T)}(h:BRep C H v (.dct ts)):∃ a kvs,v=.ref a/\H a=some (.dK kvs)/\RepK C H kvs ts:=by
 rcases h with h | ⟨a,rfl,h⟩
 ·cases h with | dct c r l h=>exact ⟨_,_,rfl,r,l,h⟩
 ·cases h with | dct r h=>exact ⟨_,_,rfl,r,h⟩
theorem BRep.fd{ts:List (Key × T)}(h:BRep C H v (.fd ts)):∃ a o kvs,v=.ref a/\H a=some (.frz o (.dK kvs))/\RepK C H kvs ts/\C a:=by
 rcases h with h | ⟨a,rfl,h⟩
 ·cases h with | fd c r l h=>exact ⟨_,_,_,rfl,r,⟨l,h⟩,c⟩
 ·cases h
theorem BRep.scr{ns:List Int}(h:BRep C H v (.scr ns)):∃ a,v=.ref a/\SqL TheK.K H a (ns.map V.int):=by
 rcases h with h | ⟨a,rfl,h⟩
 ·cases h with
  | scr c r=>exact ⟨_,rfl,.inl (.inr ⟨_,r⟩)⟩
  | scrK r=>exact ⟨_,rfl,r H⟩
 ·cases h
end
def gAdd:T->T->Option T
 | .int i,.int j=>some (.int (i+j))
 | .str x,.str y=>if x.length+y.length<=sizeLine then some (.str (x++y)) else none
 | _,_=>none
def gCat:T->T->Option T
 | .lst a,.lst b=>if a.length+b.length<=sizeLine then some (.lst (a++b)) else none
 | _,_=>none
def gI(C:Int->Int->Bool)(g:Int->Int->Int):T->T->Option T
 | .int i,.int j=>if C i j=true then some (.int (g i j)) else none
 | _,_=>none
def bMul(i j:Int):Bool:=decide (-(2 ^ 64) < i/\i < 2 ^ 64)||decide (-(2 ^ 64) < j/\j < 2 ^ 64)
def bDiv(i j:Int):Bool:=decide (0 < j/\j < 1073741824)
def bMod(i j:Int):Bool:=decide (0 < j)
def gSb:=gI (fun _ _=>true) fun i j=>i - j
def gMul:=gI bMul fun i j=>i*j
def gDiv:=gI bDiv fun i j=>i / j
def gMod:=gI bMod fun i j=>i%j
def gCmp(p:Int->Int->Bool)(ps:Str->Str->Bool):T->T->Option T
 | .int i,.int j=>some (.bl (p i j))
 | .str i,.str j=>some (.bl (ps i j))
 | _,_=>none
section
variable {X:Cx}
theorem s_add:S2E (fun x y H Q=>rI0 (fun i j=>.int (i+j)) x y H Q∨∃ i j,x=.str i/\y=.str j/\i.length+j.length<=sizeLine/\Q (.str (i++j)) H) gAdd:=by
 intro C H x y tx ty t Q bx by' hg q
 unfold gAdd at hg
 split at hg
 ·injection hg with hg; subst hg
  exact .inl ⟨_,_,bx.int,by'.int,q _ (.int _)⟩
 ·split at hg
  ·rename_i h
   injection hg with hg; subst hg
   exact .inr ⟨_,_,bx.str,by'.str,h,q _ (.str _)⟩
  ·cases hg
 ·cases hg
theorem s_cat:S2N rCat gCat:=by
 intro C H x y tx ty t Q bx by' hg q
 unfold gCat at hg
 split at hg
 ·split at hg
  ·rename_i h
   injection hg with hg; subst hg
   obtain ⟨a,vs,rfl,ha,ra⟩:=bx.lst
   obtain ⟨b,us,rfl,hb,rb⟩:=by'.lst
   refine ⟨a,b,vs,us,rfl,rfl,ha,hb,by rw [ra.1,rb.1]; exact h,fun p hp=>q p _ hp fun C' hC=>?_⟩
   exact .lst za8 ((ra.append rb).there.mono hC fun c o hc e=>by rw [za5 (za3 e hp)]; exact e)
  ·cases hg
 ·cases hg
theorem s_I{P:Int->Int->Prop}{C:Int->Int->Bool}{g:Int->Int->Int}(hC:∀ i j,C i j=true->P i j):S2E (rI P fun i j=>.int (g i j)) (gI C g):=by
 intro C' H x y tx ty t Q bx by' hg q
 unfold gI at hg
 split at hg
 ·split at hg
  ·rename_i h
   injection hg with hg; subst hg
   exact ⟨_,_,bx.int,by'.int,hC _ _ h,q _ (.int _)⟩
  ·cases hg
 ·cases hg
theorem s_I0{g:Int->Int->Int}:S2E (rI0 fun i j=>.int (g i j)) (gI (fun _ _=>true) g):=by
 intro C' H x y tx ty t Q bx by' hg q
 unfold gI at hg
 split at hg
 ·split at hg
  ·injection hg with hg; subst hg
   exact ⟨_,_,bx.int,by'.int,q _ (.int _)⟩
  ·cases hg
 ·cases hg
theorem s_cmp{p:Int->Int->Bool}{ps:Str->Str->Bool}:S2E (fun x y H Q=>rI0 (fun i j=>.bl (p i j)) x y H Q∨∃ i j,x=.str i/\y=.str j/\Q (.bl (ps i j)) H) (gCmp p ps):=by
 intro C H x y tx ty t Q bx by' hg q
 unfold gCmp at hg
 split at hg
 ·injection hg with hg; subst hg
  exact .inl ⟨_,_,bx.int,by'.int,q _ (.bl _)⟩
 ·injection hg with hg; subst hg
  exact .inr ⟨_,_,bx.str,by'.str,q _ (.bl _)⟩
 ·cases hg
variable {M:List Nat}{a b:Expr}{fa fb:DE}{pos:Pos}
theorem e_add(ha:PE X a (cE .e M fa))(hb:PE X b (cE .b M fb)):PE X (.BinOp a .Add b pos) (cE .e M (d2 gAdd fa fb)):=weak (pe_op (op_add.or zgU) ha hb) (two_e s_add)
theorem e_cat(ha:PE X a (cE .e M fa))(hb:PE X b (cE .b M fb)):PE X (.BinOp a .Add b pos) (cE .n M (d2 gCat fa fb)):=weak (pe_op zmR ha hb) (two_n s_cat)
theorem e_sub(ha:PE X a (cE .e M fa))(hb:PE X b (cE .b M fb)):PE X (.BinOp a .Sub b pos) (cE .e M (d2 gSb fa fb)):=weak (pe_op zmM ha hb) (two_e s_I0)
theorem e_mul(ha:PE X a (cE .e M fa))(hb:PE X b (cE .b M fb)):PE X (.BinOp a .Mult b pos) (cE .e M (d2 gMul fa fb)):=weak (pe_op zmO ha hb) (two_e (s_I fun i j h=>by
 unfold bMul at h
 rw [Bool.or_eq_true,decide_eq_true_iff,decide_eq_true_iff] at h
 exact h))
theorem e_div(ha:PE X a (cE .e M fa))(hb:PE X b (cE .b M fb)):PE X (.BinOp a .FloorDiv b pos) (cE .e M (d2 gDiv fa fb)):=weak (pe_op zl6 ha hb) (two_e (s_I fun i j h=>of_decide_eq_true (p:=0 < j/\j < 1073741824) h))
theorem e_mod(ha:PE X a (cE .e M fa))(hb:PE X b (cE .b M fb)):PE X (.BinOp a .Mod b pos) (cE .e M (d2 gMod fa fb)):=weak (pe_op zmP ha hb) (two_e (s_I fun i j h=>of_decide_eq_true h))
end
end L3
namespace L3
open PySem PySem.Spec PyProof.Rows L2
variable [TheK]
def scE:T->T->Option Bool
 | .non,.non=>some true | .non,.bl _=>some false | .non,.int _=>some false | .non,.str _=>some false
 | .bl a,.bl b=>some (a == b) | .bl _,.non=>some false | .bl a,.int b=>some ((if a then 1 else 0) == b) | .bl _,.str _=>some false
 | .int a,.int b=>some (a == b) | .int _,.non=>some false | .int a,.bl b=>some (a == (if b then 1 else 0)) | .int _,.str _=>some false
 | .str a,.str b=>some (a == b) | .str _,.non=>some false | .str _,.bl _=>some false | .str _,.int _=>some false
 | _,_=>none
def allE(f:T->T->Option Bool):List T->List T->Option Bool
 | x::xs,y::ys=>(f x y).bind fun b=>(allE f xs ys).map fun c=>b&&c
 | _,_=>some true
def eqD:Nat->T->T->Option Bool
 | n+1,.lst xs,.lst ys=>if xs.length=ys.length then allE (eqD n) xs ys else some false
 | n+1,.tup xs,.tup ys=>(allE (eqD n) xs ys).map fun b=>b&&xs.length == ys.length
 | _+1,.lst _,.tup _=>some false
 | _+1,.tup _,.lst _=>some false
 | _,x,y=>scE x y
def eqS(n:Nat)(x y:T):Option Bool:=match x,y with
 | .lst xs,.lst ys=>if xs.length=ys.length then allE (eqD n) xs ys else some false
 | .tup xs,.tup ys=>(allE (eqD n) xs ys).map fun b=>b&&xs.length == ys.length
 | .lst _,.tup _=>some false
 | .tup _,.lst _=>some false
 | x,y=>scE x y
theorem zjw(n:Nat)(x y:T):eqD (n+1) x y=eqS n x y:=by cases x<;>cases y<;>rfl
theorem zdm{f:T->T->Option Bool}:∀ {xs ys:List T} {b:Bool},allE f xs ys=some b->∃ e:Nat->Bool,(∀ j x y,xs[j]?=some x->ys[j]?=some y->f x y=some (e j))/\b=(List.range (min xs.length ys.length)).all e
 | [],_,b,h=>⟨fun _=>true,fun j x y e=>by simp at e,by unfold allE at h; simp at h; simp [h]⟩
 | x::xs,[],b,h=>⟨fun _=>true,fun j x y _ e=>by simp at e,by unfold allE at h; simp at h; simp [h]⟩
 | x::xs,y::ys,b,h=>by
  unfold allE at h
  cases h1:f x y with
  | none=>rw [h1] at h; cases h
  | some c=>
   rw [h1,Option.bind_some] at h
   cases h2:allE f xs ys with
   | none=>rw [h2] at h; cases h
   | some d=>
    rw [h2] at h
    injection h with h
    obtain ⟨e,he,hd⟩:=zdm h2
    refine ⟨fun j=>match j with | 0=>c | j+1=>e j,fun j x' y' e1 e2=>?_,?_⟩
    ·cases j with
     | zero=>simp at e1 e2; subst e1 e2; exact h1
     | succ j=>exact he j x' y' (by simpa using e1) (by simpa using e2)
    ·rw [<-h,hd,List.length_cons,List.length_cons,Nat.succ_min_succ,List.range_succ_eq_map,List.all_cons,List.all_map]
     rfl
theorem ziX{C:Addr->Prop}{H:Hp}:∀ (n:Nat) {v:V} {t t':T} {b:Bool},Rep C H v t->Rep C H v t'->eqD n t t'=some b->b=true:=by
 have sc:∀ {v:V} {t t':T} {b:Bool},Rep C H v t->Rep C H v t'->scE t t'=some b->b=true:=by
  intro v t t' b h h' e
  cases h<;>cases h'<;>simp [scE] at e<;>(try subst e)<;>simp
 intro n
 induction n with
 | zero=>intro v t t' b h h' e; unfold eqD at e; exact sc h h' e
 | succ n ih=>
  intro v t t' b h h' e
  have lists:∀ {vs:List V} {xs ys:List T} {b:Bool},Reps C H vs xs->Reps C H vs ys->allE (eqD n) xs ys=some b->b=true:=by
   intro vs xs ys b hx hy h
   obtain ⟨e,he,rfl⟩:=zdm h
   refine List.all_eq_true.mpr fun j hj=>?_
   have hj':=List.mem_range.mp hj
   have h1:j < xs.length:=by lia
   have h2:j < ys.length:=by lia
   have h3:j < vs.length:=by rw [hx.1]; exact h1
   have q1:=hx.2 j _ _ (List.getElem?_eq_getElem h3) (List.getElem?_eq_getElem h1)
   have q2:=hy.2 j _ _ (List.getElem?_eq_getElem h3) (List.getElem?_eq_getElem h2)
   exact ih q1 q2 (he j _ _ (List.getElem?_eq_getElem h1) (List.getElem?_eq_getElem h2))
  cases h with
  | lst c r l hc=>
   cases h' with
   | lst c' r' l' hc'=>
    rw [r] at r'; cases r'
    unfold eqD at e
    split at e
    ·exact lists ⟨l,hc⟩ ⟨l',hc'⟩ e
    ·lia
   | tup c' r' l' hc'=>rw [r] at r'; cases r'
   | dct c' r' l' hc'=>simp [eqD,scE] at e
   | set c' r'=>simp [eqD,scE] at e
   | fd c' r' l' hc'=>simp [eqD,scE] at e
   | scr c' r'=>simp [eqD,scE] at e
   | scrK r'=>simp [eqD,scE] at e
   | any=>simp [eqD,scE] at e
  | tup c r l hc=>
   cases h' with
   | tup c' r' l' hc'=>
    rw [r] at r'; cases r'
    unfold eqD at e
    cases h2:allE (eqD n) _ _ with
    | none=>rw [h2] at e; cases e
    | some d=>
     rw [h2] at e
     injection e with e
     subst e
     rw [lists ⟨l,hc⟩ ⟨l',hc'⟩ h2,<-l,<-l']
     simp
   | lst c' r' l' hc'=>rw [r] at r'; cases r'
   | dct c' r' l' hc'=>simp [eqD,scE] at e
   | set c' r'=>simp [eqD,scE] at e
   | fd c' r' l' hc'=>simp [eqD,scE] at e
   | scr c' r'=>simp [eqD,scE] at e
   | scrK r'=>simp [eqD,scE] at e
   | any=>simp [eqD,scE] at e
  | non=>exact sc .non h' (by cases h'<;>simpa [eqD] using e)
  | bl x=>exact sc (.bl x) h' (by cases h'<;>simpa [eqD] using e)
  | int x=>exact sc (.int x) h' (by cases h'<;>simpa [eqD] using e)
  | str x=>exact sc (.str x) h' (by cases h'<;>simpa [eqD] using e)
  | dct c r l hc=>cases h'<;>simp [eqD,scE] at e
  | set c r=>cases h'<;>simp [eqD,scE] at e
  | fd c r l hc=>cases h'<;>simp [eqD,scE] at e
  | scr c r=>cases h'<;>simp [eqD,scE] at e
  | scrK r=>cases h'<;>simp [eqD,scE] at e
  | any=>cases t'<;>simp [eqD,scE] at e
open PySem.SeqAt
section
variable {X:Cx}{pins:List (Addr × Obj)}{σ:L2.St}{H:Hp}{s:Shared}{C:Addr->Prop}
theorem sc_at{A:Around}{x y:V}{tx ty:T}{b:Bool}{u w:Value}(hx:Rep C H x tx)(hy:Rep C H y ty)(rx:RelV x u)(ry:RelV y w)(h:scE tx ty=some b):EqAt A s u w b/\RcAt A s u w b/\RcNeAt A s u w (!b):=by
 cases hx with
 | non=>
  cases rx
  cases hy with
  | non=>cases ry; injection h with h; subst h; exact ⟨.same _,.none_none,.none_none⟩
  | bl y=>cases ry; injection h with h; subst h; exact ⟨.none_bool _,.none_bool _,.none_bool _⟩
  | int y=>obtain ⟨t,rfl⟩:=ry; injection h with h; subst h; exact ⟨.none_int _ _,.none_int _ _,.none_int _ _⟩
  | str y=>obtain ⟨t,rfl⟩:=ry; injection h with h; subst h; exact ⟨.none_str _ _,.none_str _ _,.none_str _ _⟩
  | _=>cases h
 | bl x=>
  cases rx
  cases hy with
  | non=>cases ry; injection h with h; subst h; exact ⟨.bool_none _,.bool_none _,.bool_none _⟩
  | bl y=>cases ry; injection h with h; subst h; exact ⟨.bool_bool _ _,.bool_bool _ _,.bool_bool _ _⟩
  | int y=>obtain ⟨t,rfl⟩:=ry; injection h with h; subst h; exact ⟨.bool_int _ _ _,.bool_int _ _ _,.bool_int _ _ _⟩
  | str y=>obtain ⟨t,rfl⟩:=ry; injection h with h; subst h; exact ⟨.bool_str _ _ _,.bool_str _ _ _,.bool_str _ _ _⟩
  | _=>cases h
 | int x=>
  obtain ⟨t0,rfl⟩:=rx
  cases hy with
  | non=>cases ry; injection h with h; subst h; exact ⟨.int_none _ _,.int_none _ _,.int_none _ _⟩
  | bl y=>cases ry; injection h with h; subst h; exact ⟨.int_bool _ _ _,.int_bool _ _ _,.int_bool _ _ _⟩
  | int y=>obtain ⟨t,rfl⟩:=ry; injection h with h; subst h; exact ⟨.int_int _ _ _ _,.int_int _ _ _ _,.int_int _ _ _ _⟩
  | str y=>obtain ⟨t,rfl⟩:=ry; injection h with h; subst h; exact ⟨.int_str _ _ _ _,.int_str _ _ _ _,.int_str _ _ _ _⟩
  | _=>cases h
 | str x=>
  obtain ⟨t0,rfl⟩:=rx
  cases hy with
  | non=>cases ry; injection h with h; subst h; exact ⟨.str_none _ _,.str_none _ _,.str_none _ _⟩
  | bl y=>cases ry; injection h with h; subst h; exact ⟨.str_bool _ _ _,.str_bool _ _ _,.str_bool _ _ _⟩
  | int y=>obtain ⟨t,rfl⟩:=ry; injection h with h; subst h; exact ⟨.str_int _ _ _ _,.str_int _ _ _ _,.str_int _ _ _ _⟩
  | str y=>obtain ⟨t,rfl⟩:=ry; injection h with h; subst h; exact ⟨.str_str _ _ _ _,.str_str _ _ _ _,.str_str _ _ _ _⟩
  | _=>cases h
 | _=>cases ty<;>simp [scE] at h
theorem eq_at(I:Inv X pins σ H s):∀ (n:Nat) (A:Around) {x y:V} {tx ty:T} {b:Bool} {u w:Value},A.units+n < cLine->Rep C H x tx->Rep C H y ty->RelV x u->RelV y w->eqD n tx ty=some b->EqAt A s u w b/\RcAt A s u w b/\RcNeAt A s u w (!b):=by
 intro n
 induction n with
 | zero=>intro A x y tx ty b u w hu hx hy rx ry h; unfold eqD at h; exact sc_at hx hy rx ry h
 | succ n ih=>
  intro A x y tx ty b u w hu hx hy rx ry h
  have hu':A.units < cLine:=by lia
  have hin:A.in1.units+n < cLine:=by
   have:A.in1.units=A.units+1:=rfl
   lia
  have parts:∀ {vs us:List V} {xs ys:List T} {its its2:List Value} {e:Nat->Bool},Reps C H vs xs->Reps C H us ys->Vals vs its->Vals us its2->(∀ j x y,xs[j]?=some x->ys[j]?=some y->eqD n x y=some (e j))->
    ∀ j (h1:j < its.toArray.size) (h2:j < its2.toArray.size),EqAt A.in1 s its.toArray[j] its2.toArray[j] (e j):=by
   intro vs us xs ys its its2 e hvs hus r r2 he j h1 h2
   rw [List.size_toArray] at h1 h2
   have v1:j < vs.length:=by rw [r.length]; exact h1
   have v2:j < us.length:=by rw [r2.length]; exact h2
   have x1:j < xs.length:=by rw [<-hvs.1]; exact v1
   have y1:j < ys.length:=by rw [<-hus.1]; exact v2
   obtain ⟨w1,e1,q1⟩:=r.get (List.getElem?_eq_getElem v1)
   obtain ⟨w2,e2,q2⟩:=r2.get (List.getElem?_eq_getElem v2)
   rw [List.getElem?_eq_getElem h1] at e1
   rw [List.getElem?_eq_getElem h2] at e2
   injection e1 with e1
   injection e2 with e2
   simp only [List.getElem_toArray,e1,e2]
   exact (ih A.in1 hin (hvs.2 j _ _ (List.getElem?_eq_getElem v1) (List.getElem?_eq_getElem x1)) (hus.2 j _ _ (List.getElem?_eq_getElem v2) (List.getElem?_eq_getElem y1)) q1 q2 (he j _ _ (List.getElem?_eq_getElem x1) (List.getElem?_eq_getElem y1))).1
  have refs:∀ {p q:Addr},x=.ref p->y=.ref q->RcAt A s (.ref p) (.ref q) b->EqAt A s (.ref p) (.ref q) b:=by
   intro p q ep eq hr
   by_cases hpq:p=q
   ·subst hpq
    have:b=true:=ziX (n+1) (v:=.ref p) (ep▸hx) (eq▸hy) h
    rw [this]
    exact .same _
   ·exact .of_refs hpq hr
  have scs:scE tx ty=some b->EqAt A s u w b/\RcAt A s u w b/\RcNeAt A s u w (!b):=sc_at hx hy rx ry
  rw [zjw] at h
  unfold eqS at h
  split at h
  ·rename_i xs ys
   obtain ⟨p,vs,rfl,hp,rp⟩:=BRep.lst (.inl hx)
   obtain ⟨q,us,rfl,hq,rq⟩:=BRep.lst (.inl hy)
   cases rx; cases ry
   obtain ⟨its,r,pl,_⟩:=I.list (SqL.of hp)
   obtain ⟨its2,r2,pl2,_⟩:=I.list (SqL.of hq)
   have l1:=r.length
   have l2:=r2.length
   have l3:=rp.1
   have l4:=rq.1
   split at h
   ·rename_i hl
    obtain ⟨e,he,hb⟩:=zdm h
    have sz:its.toArray.size=its2.toArray.size:=by rw [List.size_toArray,List.size_toArray]; lia
    have rc:=RcAt.lists pl.isList pl2.isList sz hu' (parts rp rq r r2 he)
    have rn:=RcNeAt.lists pl.isList pl2.isList sz hu' (parts rp rq r r2 he)
    have hb':b=(List.range its.toArray.size).all e:=by rw [hb,List.size_toArray,hl,Nat.min_self,show its.length=ys.length by lia]
    rw [<-hb'] at rc rn
    exact ⟨refs rfl rfl rc,rc,rn⟩
   ·rename_i hl
    injection h with h
    subst h
    have sz:(its.toArray.size != its2.toArray.size)=true:=by simp; lia
    have rc:=RcAt.lists_lengths pl.isList pl2.isList sz hu'
    exact ⟨refs rfl rfl rc,rc,RcNeAt.lists_lengths pl.isList pl2.isList sz hu'⟩
  ·rename_i xs ys
   obtain ⟨p,vs,rfl,hp,rp⟩:=BRep.tup (.inl hx)
   obtain ⟨q,us,rfl,hq,rq⟩:=BRep.tup (.inl hy)
   cases rx; cases ry
   obtain ⟨its,r,pl,_⟩:=I.tuple (SqT.of hp)
   obtain ⟨its2,r2,pl2,_⟩:=I.tuple (SqT.of hq)
   have l1:=r.length
   have l2:=r2.length
   have l3:=rp.1
   have l4:=rq.1
   cases h2:allE (eqD n) xs ys with
   | none=>rw [h2] at h; cases h
   | some d=>
    rw [h2] at h
    injection h with h
    obtain ⟨e,he,hb⟩:=zdm h2
    have rc:=RcAt.tuples pl pl2 hu' (parts rp rq r r2 he)
    have rn:=RcNeAt.tuples pl pl2 hu' (parts rp rq r r2 he)
    have hb':b=((List.range (min its.toArray.size its2.toArray.size)).all e&&its.toArray.size == its2.toArray.size):=by
     rw [<-h,hb,List.size_toArray,List.size_toArray,show its.length=xs.length by lia,show its2.length=ys.length by lia]
    rw [<-hb'] at rc rn
    exact ⟨refs rfl rfl rc,rc,rn⟩
  ·obtain ⟨p,vs,rfl,hp,rp⟩:=BRep.lst (.inl hx)
   obtain ⟨q,us,rfl,hq,rq⟩:=BRep.tup (.inl hy)
   cases rx; cases ry
   obtain ⟨its,r,pl,_⟩:=I.list (SqL.of hp)
   obtain ⟨its2,r2,pl2,_⟩:=I.tuple (SqT.of hq)
   injection h with h
   subst h
   exact ⟨.list_tuple pl.isList pl2 hu',.list_tuple pl.isList pl2 hu',.list_tuple pl.isList pl2 hu'⟩
  ·obtain ⟨p,vs,rfl,hp,rp⟩:=BRep.tup (.inl hx)
   obtain ⟨q,us,rfl,hq,rq⟩:=BRep.lst (.inl hy)
   cases rx; cases ry
   obtain ⟨its,r,pl,_⟩:=I.tuple (SqT.of hp)
   obtain ⟨its2,r2,pl2,_⟩:=I.list (SqL.of hq)
   injection h with h
   subst h
   exact ⟨.tuple_list pl pl2.isList hu',.tuple_list pl pl2.isList hu',.tuple_list pl pl2.isList hu'⟩
  ·exact scs h
end
end L3
namespace L3
open PySem PySem.Spec PyProof.Rows L2
variable [TheK]
theorem BRep.all{C:Addr->Prop}{H:Hp}{v:V}{t:T}(h:BRep C H v t):Rep (fun _=>True) H v t:=by
 rcases h with h | ⟨a,rfl,h⟩
 ·exact h.mono (fun _ _=>trivial) fun _ _ _ e=>e
 ·exact h.rep (fun _ _=>trivial) trivial
def gEq(x y:T):Option T:=(eqD 8 x y).map .bl
def gNe(x y:T):Option T:=(eqD 8 x y).map fun b=>.bl (!b)
def rEqT(neg:Bool):R2:=fun x y H Q=>∃ tx ty b,Rep (fun _=>True) H x tx/\Rep (fun _=>True) H y ty/\eqD 8 tx ty=some b/\Q (.bl (if neg then !b else b)) H
theorem zk3{X:Cx}(hu:X.A.units+8 < cLine):OpR X (compareOp .Eq) (rEqT false):=by
 intro pins s sg H x y v u Q I rx ry h
 obtain ⟨tx,ty,b,hx,hy,e,q⟩:=h
 exact (eq_at I 8 X.A hu hx hy rx ry e).2.1 _ _ _ _ ⟨.bl b,H,I,rfl,q⟩
theorem zmN{X:Cx}(hu:X.A.units+8 < cLine):OpR X (compareOp .NotEq) (rEqT true):=by
 intro pins s sg H x y v u Q I rx ry h
 obtain ⟨tx,ty,b,hx,hy,e,q⟩:=h
 exact (eq_at I 8 X.A hu hx hy rx ry e).2.2 _ _ _ _ ⟨.bl (!b),H,I,rfl,q⟩
theorem s_eq:S2E (rEqT false) gEq:=by
 intro C H x y tx ty t Q bx by' hg q
 unfold gEq at hg
 cases e:eqD 8 tx ty with
 | none=>rw [e] at hg; cases hg
 | some b=>
  rw [e] at hg
  injection hg with hg; subst hg
  exact ⟨tx,ty,b,bx.all,by'.all,e,q _ (.bl b)⟩
theorem s_ne:S2E (rEqT true) gNe:=by
 intro C H x y tx ty t Q bx by' hg q
 unfold gNe at hg
 cases e:eqD 8 tx ty with
 | none=>rw [e] at hg; cases hg
 | some b=>
  rw [e] at hg
  injection hg with hg; subst hg
  exact ⟨tx,ty,b,bx.all,by'.all,e,q _ (.bl (!b))⟩
def gLt:=gCmp (fun i j=>decide (i < j)) fun i j=>decide (i.cps.toList < j.cps.toList)
def gI1(p:Int->Int->Bool):T->T->Option T
 | .int i,.int j=>some (.bl (p i j))
 | _,_=>none
def gLe:=gI1 fun i j=>decide (i<=j)
def gGt:=gI1 fun i j=>decide (j < i)
def gGe:=gI1 fun i j=>decide (j<=i)
theorem s_I1{p:Int->Int->Bool}:S2E (rI0 (fun i j=>.bl (p i j))) (gI1 p):=by
 intro C H x y tx ty t Q bx by' hg q
 unfold gI1 at hg
 split at hg
 ·injection hg with hg; subst hg
  exact ⟨_,_,bx.int,by'.int,q _ (.bl _)⟩
 ·cases hg
def isN:T->Option Bool
 | .non=>some true | .bl _=>some false | .int _=>some false | .str _=>some false | .lst _=>some false | .tup _=>some false | .dct _=>some false | .set _ _=>some false | .scr _=>some false
 | .fd _=>some false
 | .any=>none
def gIs(x y:T):Option T:=match x,y with
 | .bl a,.bl b=>some (.bl (a == b))
 | x,.non=>(isN x).map .bl
 | _,_=>none
theorem znb{C:Addr->Prop}{H:Hp}{v:V}{t:T}{b:Bool}(h:BRep C H v t)(e:isN t=some b):b=decide (v=.non):=by
 rcases h with h | ⟨a,rfl,h⟩
 ·cases h<;>simp [isN] at e<;>simp [<-e]
 ·cases h<;>simp [isN] at e<;>simp [<-e]
theorem s_is:S2E (fun x y H Q=>(∃ c d,x=.bl c/\y=.bl d/\Q (.bl (c == d)) H)∨(y=.non/\Q (.bl (decide (x=.non))) H)) gIs:=by
 intro C H x y tx ty t Q bx by' hg q
 unfold gIs at hg
 split at hg
 ·injection hg with hg; subst hg
  exact .inl ⟨_,_,bx.bl,by'.bl,q _ (.bl _)⟩
 ·obtain ⟨b,e,rfl⟩:=Qm hg
  have z:=znb bx e
  refine .inr ⟨by'.non,?_⟩
  rw [<-z]
  exact q _ (.bl _)
 ·cases hg
def toV:T->Option V
 | .non=>some .non | .bl b=>some (.bl b) | .int i=>some (.int i) | .str x=>some (.str x) | _=>none
def toVs:List T->Option (List V)
 | []=>some []
 | t::ts=>(toV t).bind fun v=>(toVs ts).map fun vs=>v::vs
theorem zhj{C:Addr->Prop}{H:Hp}{v u:V}{t:T}(h:BRep C H v t)(e:toV t=some u):u=v/\flatV v=true:=by
 cases t<;>simp [toV] at e
 ·exact ⟨by rw [h.non,<-e],by rw [h.non]; rfl⟩
 ·exact ⟨by rw [h.bl,<-e],by rw [h.bl]; rfl⟩
 ·exact ⟨by rw [h.int,<-e],by rw [h.int]; rfl⟩
 ·exact ⟨by rw [h.str,<-e],by rw [h.str]; rfl⟩
theorem zfz{C:Addr->Prop}{H:Hp}:∀ {vs us:List V} {ts:List T},Reps C H vs ts->toVs ts=some us->us=vs/\vs.all flatV=true
 | [],us,[],_,e=>by unfold toVs at e; injection e with e; exact ⟨e.symm,rfl⟩
 | v::vs,us,[],h,_=>by have:=h.1; simp at this
 | [],us,t::ts,h,_=>by have:=h.1; simp at this
 | v::vs,us,t::ts,h,e=>by
  unfold toVs at e
  cases e1:toV t with
  | none=>rw [e1] at e; cases e
  | some a=>
   rw [e1,Option.bind_some] at e
   cases e2:toVs ts with
   | none=>rw [e2] at e; cases e
   | some as=>
    rw [e2] at e
    injection e with e
    obtain ⟨q1,q2⟩:=zhj (.inl h.head) e1
    obtain ⟨q3,q4⟩:=zfz h.tail e2
    exact ⟨by rw [<-e,q1,q3],by rw [List.all_cons,q2,q4]; rfl⟩
def lookT(kvs:List (Key × T))(k:Key):Option T:=(kvs.find? fun kv=>decide (kv.1=k)).map (·.2)
theorem zh1(p:Key × T)(r:List (Key × T))(k:Key):lookT (p::r) k=if p.1=k then some p.2 else lookT r k:=by
 unfold lookT
 rw [List.find?_cons]
 by_cases h:p.1=k
 ·rw [if_pos h,decide_eq_true h]; rfl
 ·rw [if_neg h,decide_eq_false h]
theorem RepK.tail{C:Addr->Prop}{H:Hp}{p:Key × V}{q:Key × T}{vs:List (Key × V)}{ts:List (Key × T)}(h:RepK C H (p::vs) (q::ts)):p.1=q.1/\Rep C H p.2 q.2/\RepK C H vs ts:=by
 have h1:=h.1
 rw [List.map_cons,List.map_cons] at h1
 injection h1 with a b
 exact ⟨a,h.2 0 p q rfl rfl,b,fun i v t e1 e2=>h.2 (i+1) v t (by simpa using e1) (by simpa using e2)⟩
theorem RepK.cons{C:Addr->Prop}{H:Hp}{p:Key × V}{q:Key × T}{vs:List (Key × V)}{ts:List (Key × T)}(e:p.1=q.1)(r:Rep C H p.2 q.2)(h:RepK C H vs ts):RepK C H (p::vs) (q::ts):=by
 refine ⟨by rw [List.map_cons,List.map_cons,e,h.1],fun i v t e1 e2=>?_⟩
 cases i with
 | zero=>simp at e1 e2; subst e1 e2; exact r
 | succ i=>exact h.2 i v t (by simpa using e1) (by simpa using e2)
theorem RepK.look{C:Addr->Prop}{H:Hp}(k:Key):∀ {vs:List (Key × V)} {ts:List (Key × T)},RepK C H vs ts->(valV vs k=none/\lookT ts k=none)∨∃ v t,valV vs k=some v/\lookT ts k=some t/\Rep C H v t
 | [],[],_=>.inl ⟨rfl,rfl⟩
 | p::vs,[],h=>by have:=h.1; simp at this
 | [],q::ts,h=>by have:=h.1; simp at this
 | p::vs,q::ts,h=>by
  obtain ⟨e,r,h'⟩:=h.tail
  rw [zh1]
  by_cases hk:q.1=k
  ·rw [if_pos hk,zee (e.trans hk)]
   exact .inr ⟨_,_,rfl,rfl,r⟩
  ·rw [if_neg hk,zef (fun z=>hk (e.symm.trans z))]
   exact RepK.look k h'
def keyT:T->Option Key
 | .int i=>some (.inl i)
 | .str x=>some (.inr x)
 | _=>none
theorem zdD{C:Addr->Prop}{H:Hp}{v:V}{t:T}{k:Key}(h:BRep C H v t)(e:keyT t=some k):v=kV k:=by
 cases t<;>simp [keyT] at e
 ·rw [h.int,<-e]; rfl
 ·rw [h.str,<-e]; rfl
def gInB(x y:T):Option Bool:=match y with
 | .lst ys=>(toV x).bind fun v=>(toVs ys).map fun vs=>inV v vs
 | .tup ys=>(toV x).bind fun v=>(toVs ys).map fun vs=>inV v vs
 | _=>none
def gIn(x y:T):Option T:=(gInB x y).map .bl
def zgy(x y:T):Option T:=(gInB x y).map fun b=>.bl (!b)
def gDInB(x y:T):Option Bool:=match y with
 | .dct kvs=>(keyT x).map fun k=>(lookT kvs k).isSome
 | .fd kvs=>(keyT x).map fun k=>(lookT kvs k).isSome
 | _=>none
def gDIn(x y:T):Option T:=(gDInB x y).map .bl
def zig(x y:T):Option T:=(gDInB x y).map fun b=>.bl (!b)
theorem s_inb{K:PySem.W.Frag}{neg:Bool}:S2E (rIn K neg) fun x y=>(gInB x y).map fun b=>.bl (if neg then !b else b):=by
 intro C H x y tx ty t Q bx by' hg q
 obtain ⟨b,e,rfl⟩:=Qm hg
 have fin:∀ {p vs ys},y=.ref p->(SqL K H p vs∨SqT K H p vs)->Reps C H vs ys->((toV tx).bind fun v=>(toVs ys).map fun vs=>inV v vs)=some b->rIn K neg x y H Q:=by
  intro p vs ys e1 e2 r e5
  obtain ⟨v,e3,e5⟩:=Qb e5
  obtain ⟨us,e4,rfl⟩:=Qm e5
  obtain ⟨q1,q2⟩:=zhj bx e3
  obtain ⟨q3,q4⟩:=zfz r e4
  subst q1 q3
  exact ⟨p,_,e1,e2,q2,q4,q _ (.bl _)⟩
 cases ty with
 | lst ys=>
  obtain ⟨p,vs,e1,e2,r⟩:=by'.lst
  exact fin e1 (.inl (SqL.of e2)) r e
 | tup ys=>
  obtain ⟨p,vs,e1,e2,r⟩:=by'.tup
  exact fin e1 (.inr (SqT.of e2)) r e
 | _=>cases e
theorem s_din{neg:Bool}:S2E (fun y x H Q=>∃ a o,x=.ref a/\DGet H a y o/\Q (.bl (if neg then !o.isSome else o.isSome)) H) fun x y=>(gDInB x y).map fun b=>.bl (if neg then !b else b):=by
 intro C H x y tx ty t Q bx by' hg q
 obtain ⟨b,e,rfl⟩:=Qm hg
 cases ty with
 | dct kts=>
  obtain ⟨p,kvs,rfl,e2,r⟩:=by'.dct
  obtain ⟨k,e3,rfl⟩:=Qm (show (keyT tx).map (fun k=>(lookT kts k).isSome)=some b from e)
  obtain rfl:=zdD bx e3
  refine ⟨p,_,rfl,DGet.k e2,?_⟩
  have:(lookT kts k).isSome=(valV kvs k).isSome:=by
   rcases r.look k with ⟨h1,h2⟩ | ⟨_,_,h1,h2,_⟩<;>rw [h1,h2]<;>rfl
  rw [<-this]
  exact q _ (.bl _)
 | fd kts=>
  obtain ⟨p,ob,kvs,rfl,e2,r,_⟩:=by'.fd
  obtain ⟨k,e3,rfl⟩:=Qm (show (keyT tx).map (fun k=>(lookT kts k).isSome)=some b from e)
  obtain rfl:=zdD bx e3
  refine ⟨p,_,rfl,.inl ⟨kvs,k,.inr ⟨ob,e2⟩,rfl,rfl⟩,?_⟩
  have:(lookT kts k).isSome=(valV kvs k).isSome:=by
   rcases r.look k with ⟨h1,h2⟩ | ⟨_,_,h1,h2,_⟩<;>rw [h1,h2]<;>rfl
  rw [<-this]
  exact q _ (.bl _)
 | _=>cases e
def gIx:T->T->Option T
 | .lst xs,.int i=>atI xs i
 | .tup xs,.int i=>atI xs i
 | .str x,.int i=>if x.length<=sizeLine then (atI x.cps.toList i).map fun c=>.str ⟨#[c]⟩ else none
 | .scr ns,.int i=>(atI ns i).map .int
 | _,_=>none
def gDIx(x y:T):Option T:=match x with
 | .dct kvs=>(keyT y).bind fun k=>lookT kvs k
 | .fd kvs=>(keyT y).bind fun k=>lookT kvs k
 | _=>none
theorem Reps.at{C:Addr->Prop}{H:Hp}{vs:List V}{ts:List T}{i:Int}{t:T}(h:Reps C H vs ts)(e:atI ts i=some t):∃ v,atI vs i=some v/\Rep C H v t:=by
 unfold atI at e ⊢
 rw [h.1]
 cases e1:ixN ts.length i with
 | none=>rw [e1] at e; cases e
 | some j=>
  rw [e1] at e
  exact h.get e
theorem s_ix:S2E (rIx TheK.K) gIx:=by
 intro C H x y tx ty t Q bx by' hg q
 unfold gIx at hg
 split at hg
 ·obtain ⟨p,vs,rfl,e2,r⟩:=bx.lst
  obtain ⟨v,h1,h2⟩:=r.at hg
  exact .inl ⟨p,vs,_,v,rfl,by'.int,SqL.of e2,h1,q v h2⟩
 ·obtain ⟨p,vs,rfl,e2,r⟩:=bx.tup
  obtain ⟨v,h1,h2⟩:=r.at hg
  exact .inr (.inl ⟨p,vs,_,v,rfl,by'.int,SqT.of e2,h1,q v h2⟩)
 ·split at hg
  ·rename_i hl
   obtain ⟨c,h1,h2⟩:=Qm hg
   subst h2
   exact .inr (.inr ⟨_,_,c,bx.str,by'.int,hl,h1,q _ (.str _)⟩)
  ·cases hg
 ·obtain ⟨p,rfl,e2⟩:=bx.scr
  obtain ⟨c,h1,h2⟩:=Qm hg
  subst h2
  refine .inl ⟨p,_,_,.int c,rfl,by'.int,e2,?_,q _ (.int c)⟩
  unfold atI at h1 ⊢
  rw [List.length_map]
  cases e1:ixN _ _ with
  | none=>rw [e1] at h1; cases h1
  | some j=>
   rw [e1,Option.bind_some] at h1
   rw [Option.bind_some,List.getElem?_map,h1]
   rfl
 ·cases hg
theorem s_dix:S2E (fun x y H Q=>∃ a v,x=.ref a/\DGet H a y (some v)/\Q v H) gDIx:=by
 intro C H x y tx ty t Q bx by' hg q
 unfold gDIx at hg
 split at hg
 ·obtain ⟨p,kvs,rfl,e2,r⟩:=bx.dct
  cases e3:keyT ty with
  | none=>rw [e3] at hg; cases hg
  | some k=>
   rw [e3,Option.bind_some] at hg
   obtain rfl:=zdD by' e3
   rcases r.look k with ⟨h1,h2⟩ | ⟨v,t',h1,h2,h3⟩
   ·rw [h2] at hg; cases hg
   ·rw [h2] at hg
    injection hg with hg; subst hg
    exact ⟨p,v,rfl,h1▸DGet.k e2,q v h3⟩
 ·obtain ⟨p,ob,kvs,rfl,e2,r,_⟩:=bx.fd
  cases e3:keyT ty with
  | none=>rw [e3] at hg; cases hg
  | some k=>
   rw [e3,Option.bind_some] at hg
   obtain rfl:=zdD by' e3
   rcases r.look k with ⟨h1,h2⟩ | ⟨v,t',h1,h2,h3⟩
   ·rw [h2] at hg; cases hg
   ·rw [h2] at hg
    injection hg with hg; subst hg
    exact ⟨p,v,rfl,.inl ⟨kvs,k,.inr ⟨ob,e2⟩,rfl,h1.symm⟩,q v h3⟩
 ·cases hg
section
variable {X:Cx}{M:List Nat}{a b:Expr}{fa fb:DE}{pos:Pos}
theorem e_eq(hu:X.A.units+8 < cLine)(ha:PE X a (cE .e M fa))(hb:PE X b (cE .b M fb)):PE X (.Compare a [.Eq] [b] pos) (cE .e M (d2 gEq fa fb)):=weak (zfG (zk3 hu) ha hb (zd8 _)) (two_e s_eq)
theorem e_is(ha:PE X a (cE .e M fa))(hb:PE X b (cE .b M fb)):PE X (.Compare a [.Is] [b] pos) (cE .e M (d2 gIs fa fb)):=weak (zfG (op_isF.or zmQ) ha hb (zd8 _)) (two_e s_is)
theorem e_ix(hK:X.K=TheK.K)(ha:PE X a (cE .e M fa))(hb:PE X b (cE .b M fb))(hs:zbV b):PE X (.Subscript a b pos) (cE .e M (d2 gIx fa fb)):=weak (pe_ix (hK▸zk7) ha hb hs) (two_e s_ix)
theorem e_ixV{i:Nat}(hK:X.K=TheK.K)(hi:M.contains i=true)(ha:PE X a (tVar i))(hb:PE X b (cE .b M fb))(hs:zbV b):PE X (.Subscript a b pos) (cE .e M (d2v gIx i fb)):=weak (pe_ix (hK▸zk7) ha hb hs) (zjL hi s_ix)
theorem e_dix(hu:X.A.units+1 < cLine)(ha:PE X a (cE .e M fa))(hb:PE X b (cE .b M fb))(hs:NoSl b):PE X (.Subscript a b pos) (cE .e M (d2 gDIx fa fb)):=weak (zhL hu ha hb hs) fun σ H Q h=>two_e s_dix σ H Q h
theorem znp{i:Nat}(hi:M.contains i=true)(hu:X.A.units+1 < cLine)(ha:PE X a (tVar i))(hb:PE X b (cE .b M fb))(hs:NoSl b):PE X (.Subscript a b pos) (cE .e M (d2v gDIx i fb)):=weak (zhL hu ha hb hs) fun σ H Q h=>zjL hi s_dix σ H Q h
end
end L3
namespace L3
open PySem PySem.Spec PyProof.Rows L2
variable [TheK]
def dB(f:DE):DT:=fun s=>(f s).bind fun p=>match p.1 with
 | .bl b=>some (b,p.2)
 | _=>none
theorem zfV{f:DE}{s s':Sg}{b:Bool}(h:dB f s=some (b,s')):f s=some (.bl b,s'):=by
 obtain ⟨p,h1,h2⟩:=Qb h
 obtain ⟨t,s1⟩:=p
 cases t<;>simp at h2
 rw [h1,h2.1,h2.2]
theorem tst{M:List Nat}{f:DE}{t:TE}(h:∀ σ H Q,cE .e M f σ H Q->t σ H Q):∀ σ H Q,cT M (dB f) σ H Q->tTest t σ H Q:=by
 intro σ H Q h_;refine cT_ h_ fun F O s b s' R hf q=>?_
 exact h σ H _ ⟨F,O,s,.bl b,s',R,zfV hf,fun v H' S p=>⟨b,BRep.bl (.inl p.2),q H' S p.1⟩⟩
def tru:T->Option Bool
 | .non=>some false | .bl b=>some b | .int i=>some (i != 0)
 | .str x=>if x.length<=sizeLine then some ((x.length:Int) != 0) else none
 | .lst xs=>some (!xs.isEmpty) | .tup xs=>some (!xs.isEmpty) | .dct xs=>some (!xs.isEmpty)
 | _=>none
theorem zdC{α β:Type}{xs:List α}{ys:List β}(h:xs.length=ys.length):(!ys.isEmpty)=!xs.isEmpty:=by
 cases xs<;>cases ys<;>simp at h<;>rfl
theorem zkw{K:PySem.W.Frag}{C:Addr->Prop}{H:Hp}{v:V}{t:T}{b:Bool}(h:BRep C H v t)(e:tru t=some b):TruV K v H b:=by
 cases t with
 | non=>rw [h.non]; injection e with e; exact e.symm
 | bl x=>rw [h.bl]; injection e with e; exact e.symm
 | int x=>rw [h.int]; injection e with e; exact e.symm
 | str x=>
  rw [h.str]
  by_cases hl:x.length<=sizeLine
  ·have e':(if x.length<=sizeLine then some ((x.length:Int) != 0) else none)=some b:=e
   rw [if_pos hl] at e'
   injection e' with e'
   exact ⟨hl,e'.symm⟩
  ·have e':(if x.length<=sizeLine then some ((x.length:Int) != 0) else none)=some b:=e
   rw [if_neg hl] at e'
   cases e'
 | lst xs=>
  obtain ⟨p,vs,rfl,e2,r⟩:=h.lst
  injection e with e
  exact .inl ⟨vs,SqL.of e2,by rw [<-e]; exact zdC r.1⟩
 | tup xs=>
  obtain ⟨p,vs,rfl,e2,r⟩:=h.tup
  injection e with e
  exact .inr (.inl ⟨vs,SqT.of e2,by rw [<-e]; exact zdC r.1⟩)
 | dct xs=>
  obtain ⟨p,vs,rfl,e2,r⟩:=h.dct
  injection e with e
  have l:vs.length=xs.length:=by simpa using congrArg List.length r.1
  exact .inr (.inr ⟨vs,e2,by rw [<-e]; exact zdC l⟩)
 | _=>cases e
def dTru(f:DE):DT:=fun s=>(f s).bind fun p=>(tru p.1).map fun b=>(b,p.2)
def dAnd(f g:DT):DT:=fun s=>(f s).bind fun p=>if p.1 then g p.2 else some (false,p.2)
def dOr(f g:DT):DT:=fun s=>(f s).bind fun p=>if p.1 then some (true,p.2) else g p.2
def dNot(f:DT):DT:=fun s=>(f s).map fun p=>(!p.1,p.2)
def dAndV(f g:DE):DE:=fun s=>(dB f s).bind fun p=>if p.1 then g p.2 else some (.bl false,p.2)
def dOrV(f g:DE):DE:=fun s=>(dB f s).bind fun p=>if p.1 then some (.bl true,p.2) else g p.2
def dNotV(f:DE):DE:=fun s=>(dB f s).map fun p=>(.bl (!p.1),p.2)
def dIf(c:DT)(f g:DE):DE:=fun s=>(c s).bind fun p=>if p.1 then f p.2 else g p.2
section
variable {X:Cx}{M:List Nat}{a b c:Expr}{fa fb:DE}{ft fu:DT}{pos:Pos}{k:Kd}
theorem t_tru(h:PE X a (cE .b M fa))(he:∀ whole,isTrue a X.env whole=(do let v <-whole; standAt a.pos; holding [v] (truthy v)):=by intro _; rfl):PT X a (cT M (dTru fa)):=weakT (zj8 h he) (by
 intro σ H Q h_;refine cT_ h_ fun F O s b s' R hf q=>?_
 obtain ⟨p,h1,h2⟩:=Qb hf
 obtain ⟨b',h3,h4⟩:=Qm h2
 injection h4 with h4 h5
 subst h4 h5
 exact ⟨F,O,s,p.1,p.2,R,h1,fun v H' S po=>⟨b',zkw po.view h3,q H' S po.1⟩⟩)
theorem t_eq(hu:X.A.units+8 < cLine)(ha:PE X a (cE .e M fa))(hb:PE X b (cE .b M fb)):PT X (.Compare a [.Eq] [b] pos) (cT M (dB (d2 gEq fa fb))):=weakT (zcd (zk3 hu) ha hb (zd8 _)) (tst (two_e s_eq))
theorem t_ne(hu:X.A.units+8 < cLine)(ha:PE X a (cE .e M fa))(hb:PE X b (cE .b M fb)):PT X (.Compare a [.NotEq] [b] pos) (cT M (dB (d2 gNe fa fb))):=weakT (zcd (zmN hu) ha hb (zd8 _)) (tst (two_e s_ne))
theorem t_lt(ha:PE X a (cE .e M fa))(hb:PE X b (cE .b M fb)):PT X (.Compare a [.Lt] [b] pos) (cT M (dB (d2 gLt fa fb))):=weakT (zcd (op_lt.or zf0) ha hb (zd8 _)) (tst (two_e s_cmp))
theorem t_gt(ha:PE X a (cE .e M fa))(hb:PE X b (cE .b M fb)):PT X (.Compare a [.Gt] [b] pos) (cT M (dB (d2 gGt fa fb))):=weakT (zcd op_gt ha hb (zd8 _)) (tst (two_e s_I1))
theorem zkx(ha:PE X a (cE .e M fa))(hb:PE X b (cE .b M fb))(hm:behindInMarks .NotIn b=false):PT X (.Compare a [.NotIn] [b] pos) (cT M (dB (d2 zgy fa fb))):=weakT (zcd zeZ ha hb hm) (tst (two_e (s_inb (neg:=true))))
theorem ziS(hu:X.A.units+1 < cLine)(ha:PE X a (cE .e M fa))(hb:PE X b (cE .b M fb))(hm:behindInMarks .NotIn b=false):PT X (.Compare a [.NotIn] [b] pos) (cT M (dB (d2 zig fa fb))):=weakT (zmx (zhM hu ha hb) hm) fun σ H Q h=>tst (two_e (s_din (neg:=true))) σ H Q h
theorem t_not(h:PT X a (cT M ft)):PT X (.UnaryOp .Not a pos) (cT M (dNot ft)):=weakT (zmw h) (by
 intro σ H Q h_;refine cT_ h_ fun F O s b s' R hf q=>?_
 obtain ⟨p,h1,h2⟩:=Qm hf
 injection h2 with h2 h3
 subst h2 h3
 exact ⟨F,O,s,p.1,p.2,R,h1,fun H' S R'=>q H' S R'⟩)
theorem w_or1(h:PT X a (cT M ft)):PW X (.BoolOp .Or [a] pos) (cT M ft):=zmv h
theorem w_or{rest:List Expr}(ha:PT X a (cT M ft))(hb:PW X (.BoolOp .Or (b::rest) pos) (cT M fu)):PW X (.BoolOp .Or (a::b::rest) pos) (cT M (dOr ft fu)):=weakW (pw_or ha hb) (by
 intro σ H Q h_;refine cT_ h_ fun F O s b s' R hf q=>?_
 obtain ⟨p,h1,h2⟩:=Qb hf
 refine ⟨F,O,s,p.1,p.2,R,h1,fun H' S R'=>?_⟩
 split at h2
 ·rename_i hp
  rw [if_pos hp]
  injection h2 with h2
  injection h2 with h2 h3
  subst h2 h3
  exact q H' S R'
 ·rename_i hp
  rw [if_neg hp]
  exact ⟨F,O,p.2,b,s',R',h2,fun H2 S2 R2=>q H2 (S.trans S2) R2⟩)
theorem e_one{op}(h:PE X a (cE .e M fa)):PE X (.BoolOp op [a] pos) (cE .e M fa):=zmG h
theorem e_and{rest:List Expr}(ha:PE X a (cE .e M fa))(hb:PE X (.BoolOp .And (b::rest) pos) (cE .e M fb)):PE X (.BoolOp .And (a::b::rest) pos) (cE .e M (dAndV fa fb)):=weak (zmK ha hb) (by
 intro σ H Q h_;refine cE_ h_ fun F O s t s' R hf q=>?_
 obtain ⟨p,h1,h2⟩:=Qb hf
 refine ⟨F,O,s,.bl p.1,p.2,R,zfV h1,fun v H' S po=>⟨p.1,BRep.bl (.inl po.2),?_⟩⟩
 split at h2
 ·rename_i hp
  rw [if_pos hp]
  exact ⟨F,O,p.2,t,s',po.1,h2,fun w H2 S2 p2=>q w H2 (S.trans S2) p2⟩
 ·rename_i hp
  rw [if_neg hp]
  injection h2 with h2
  injection h2 with h2 h3
  subst h2 h3
  exact q _ H' S ⟨po.1,.bl false⟩)
end
def dAn:DA:=fun s=>some ([],s)
def dAc(f:DE)(g:DA):DA:=fun s=>(f s).bind fun p=>(g p.2).map fun q=>(p.1::q.1,q.2)
def dLst(f:DA):DE:=fun s=>(f s).bind fun p=>if p.1.length<=sizeLine then some (.lst p.1,p.2) else none
def dTup(f:DA):DE:=fun s=>(f s).bind fun p=>if p.1.length<=sizeLine then some (.tup p.1,p.2) else none
section
variable {X:Cx}{M:List Nat}{e:Expr}{es:List Expr}{fe:DE}{fa:DA}{pos:Pos}
theorem a_nil:PA X [] (cA M dAn):=weakA zd7 (by
 rintro σ H Q ⟨F,O,s,ts,s',R,hf,q⟩
 injection hf with hf
 injection hf with h1 h2
 subst h1 h2
 exact q [] H .refl R .nil)
theorem znH(h:PE X e (cE .e M fe))(ha:PA X es (cA M fa))(hs:starEach (e::es) X.env=(false,eval e X.env)::starEach es X.env:=by rfl):PA X (e::es) (cA M (dAc fe fa)):=weakA (zaZ h ha hs) (by
 rintro σ H Q ⟨F,O,s,ts,s',R,hf,q⟩
 obtain ⟨p,h1,h2⟩:=Qb hf
 obtain ⟨r,h3,h4⟩:=Qm h2
 injection h4 with h4 h5
 subst h4 h5
 refine ⟨F,O,s,p.1,p.2,R,h1,fun v H1 S1 p1=>⟨F,O,p.2,r.1,r.2,p1.1,h3,fun vs H2 S2 R2 rs=>?_⟩⟩
 exact q _ H2 (S1.trans S2) R2 (.cons (p1.1.stay S2 p1.2) rs))
theorem e_lst(h:PA X es (cA M fa)):PE X (.List es pos) (cE .n M (dLst fa)):=weak (zmI h) (by
 intro σ H Q h_;refine cE_ h_ fun F O s t s' R hf q=>?_
 obtain ⟨p,h1,h2⟩:=Qb hf
 split at h2
 ·rename_i hl
  injection h2 with h2
  injection h2 with h2 h3
  subst h2 h3
  refine ⟨F,O,s,p.1,p.2,R,h1,fun vs H1 S1 R1 rs=>⟨by rw [rs.1]; exact hl,fun a ha=>?_⟩⟩
  exact q _ _ (S1.trans (.new ha _)) (.mkN R R1 S1 ha fun C hC=>.lst za8 (rs.there.mono hC fun c o _ e=>by rw [za5 (za3 e ha)]; exact e))
 ·cases h2)
theorem e_tup{x1}(h:PA X es (cA M fa)):PE X (.Tuple es x1 pos) (cE .e M (dTup fa)):=weak (zjZ h) (by
 intro σ H Q h_;refine cE_ h_ fun F O s t s' R hf q=>?_
 obtain ⟨p,h1,h2⟩:=Qb hf
 split at h2
 ·rename_i hl
  injection h2 with h2
  injection h2 with h2 h3
  subst h2 h3
  refine ⟨F,O,s,p.1,p.2,R,h1,fun vs H1 S1 R1 rs=>⟨by rw [rs.1]; exact hl,fun a ha=>?_⟩⟩
  refine q _ _ (S1.trans (.new ha _)) (.mkE R1 ha fun C hC hp=>?_)
  have:=rs.there.mono (C':=C) (H':=upd H1 a (.tup vs)) hC fun c o _ e=>by rw [za5 (za3 e ha)]; exact e
  exact .tup hp za8 this.1 this.2
 ·cases h2)
def dDict:DE:=fun s=>some (.dct [],s)
end
abbrev DO:=Sg->Option (Option Int × Sg)
def cO(M:List Nat)(f:DO):TO:=fun σ H Q=>∃ F O s t s',Rel F O M s σ H/\f s=some (t,s')/\∀ H',Step σ M H H'->Rel F O M s' σ H'->Q t H'
def dOn:DO:=fun s=>some (none,s)
def dOs(f:DE):DO:=fun s=>(f s).bind fun p=>match p.1 with
 | .int i=>some (some i,p.2)
 | _=>none
def cutT{α:Type}(xs:List α)(lo hi:Option Int):List α:=(xs.drop (HT.sIx xs.length 0 lo)).take (HT.sIx xs.length xs.length hi - HT.sIx xs.length 0 lo)
def gSl(t:T)(lo hi:Option Int):Option T:=match t with
 | .lst xs=>some (.lst (cutT xs lo hi))
 | .scr ns=>some (.lst ((cutT ns lo hi).map .int))
 | _=>none
def gSlS(t:T)(lo hi:Option Int):Option T:=match t with
 | .str x=>if x.length<=sizeLine then some (.str (Txt.slice x lo hi)) else none
 | _=>none
def dSl(g:T->Option Int->Option Int->Option T)(f:DE)(l h:DO):DE:=fun s=>(f s).bind fun p=>(l p.2).bind fun q=>(h q.2).bind fun r=>(g p.1 q.1 r.1).map fun t=>(t,r.2)
def dSlV(g:T->Option Int->Option Int->Option T)(i:Nat)(l h:DO):DE:=fun s=>(s[i]?).join.bind fun _=>(l s).bind fun q=>(h q.2).bind fun r=>(r.2[i]?).join.bind fun x=>(g x q.1 r.1).map fun t=>(t,r.2)
theorem Reps.cut{C:Addr->Prop}{H:Hp}{vs:List V}{ts:List T}(h:Reps C H vs ts)(lo hi:Option Int):Reps C H (cutV vs lo hi) (cutT ts lo hi):=by
 unfold cutV cutT
 rw [h.1]
 exact (h.drop _).take _
theorem zbJ{C:Addr->Prop}{H:Hp}:∀ (ns:List Int),Reps C H (ns.map V.int) (ns.map T.int)
 | []=>.nil
 | n::ns=>.cons (.int n) (zbJ ns)
def S3N(r:V->Option Int->Option Int->Hp->VK->Prop)(g:T->Option Int->Option Int->Option T):Prop:=∀ (C:Addr->Prop) (H:Hp) x lo hi tx t (Q:VK),BRep C H x tx->g tx lo hi=some t->
 (∀ p o,H p=none->(∀ C':Addr->Prop,(∀ b,C b/\H b≠none->C' b)->Live C' (upd H p o) p t)->Q (.ref p) (upd H p o))->r x lo hi H Q
theorem s_sl:S3N (rSlL TheK.K) gSl:=by
 intro C H x lo hi tx t Q bx hg q
 cases tx<;>simp [gSl] at hg
 ·subst hg
  obtain ⟨a,vs,rfl,ha,ra⟩:=bx.lst
  refine ⟨a,vs,rfl,SqL.of ha,fun p hp=>q p _ hp fun C' hC=>?_⟩
  exact .lst za8 ((ra.cut lo hi).there.mono hC fun c o _ e=>by rw [za5 (za3 e hp)]; exact e)
 ·rename_i ns
  subst hg
  obtain ⟨a,rfl,ha⟩:=bx.scr
  refine ⟨a,_,rfl,ha,fun p hp=>q p _ hp fun C' hC=>.lst za8 ?_⟩
  have:cutV (ns.map V.int) lo hi=(cutT ns lo hi).map V.int:=by
   unfold cutV cutT
   rw [List.length_map,<-List.map_drop,<-List.map_take]
  rw [this]
  exact zbJ _
section
variable {X:Cx}{M:List Nat}{e:Expr}{lo hi:Option Expr}{fe:DE}{fl fh:DO}{pos p2:Pos}
theorem zmT:PO X none (cO M dOn):=fun pins s σ H Q I h=>by
 obtain ⟨F,O,s',t,s'',R,hf,q⟩:=h
 injection hf with hf
 injection hf with h1 h2
 subst h1 h2
 exact zkX pins s σ H Q I (q H .refl R)
theorem zmS(h:PE X e (cE .e M fe)):PO X (some e) (cO M (dOs fe)):=fun pins s σ H Q I hw=>by
 obtain ⟨F,O,s',t,s'',R,hf,q⟩:=hw
 obtain ⟨⟨t',s1⟩,h1,h2⟩:=Qb hf
 cases t'<;>simp at h2
 rename_i i
 obtain ⟨h2,h3⟩:=h2
 subst h2 h3
 exact zkW h pins s σ H Q I ⟨F,O,s',.int i,s1,R,h1,fun v H' S p=>⟨i,BRep.int (.inl p.2),q H' S p.1⟩⟩
theorem sl_n{g:T->Option Int->Option Int->Option T}{r:V->Option Int->Option Int->Hp->VK->Prop}(hs:S3N r g):∀ σ H Q,cE .n M (dSl g fe fl fh) σ H Q->tSl r (cE .e M fe) (cO M fl) (cO M fh) σ H Q:=by
 intro σ H Q h_;refine cE_ h_ fun F O s t s' R hf q=>?_
 obtain ⟨p,h1,h2⟩:=Qb hf
 obtain ⟨l,h3,h4⟩:=Qb h2
 obtain ⟨u,h5,h6⟩:=Qb h4
 obtain ⟨t',h7,h8⟩:=Qm h6
 injection h8 with h8 h9
 subst h8 h9
 refine ⟨F,O,s,p.1,p.2,R,h1,fun v H1 S1 p1=>⟨F,O,p.2,l.1,l.2,p1.1,h3,fun H2 S2 R2=>⟨F,O,l.2,u.1,u.2,R2,h5,fun H3 S3 R3=>?_⟩⟩⟩
 have S:=(S1.trans S2).trans S3
 exact hs (Free F O) H3 v l.1 u.1 p.1 t' Q (.inl (R2.stay S3 (p1.1.stay S2 p1.2))) h7 fun a o ha L=>q _ _ (S.trans (.new ha o)) (.mkN R R3 S ha L)
theorem sl_nV{g:T->Option Int->Option Int->Option T}{r:V->Option Int->Option Int->Hp->VK->Prop}{i:Nat}(hi:M.contains i=true)(hs:S3N r g):∀ σ H Q,cE .n M (dSlV g i fl fh) σ H Q->tSl r (tVar i) (cO M fl) (cO M fh) σ H Q:=by
 intro σ H Q h_;refine cE_ h_ fun F O s t s' R hf q=>?_
 obtain ⟨x0,h0,hf⟩:=Qb hf
 obtain ⟨l,h3,h4⟩:=Qb hf
 obtain ⟨u,h5,h6⟩:=Qb h4
 obtain ⟨x,h6',h6⟩:=Qb h6
 obtain ⟨t',h7,h8⟩:=Qm h6
 injection h8 with h8 h9
 subst h8 h9
 have hi':i∈M:=by simpa using hi
 obtain ⟨a,e1,_⟩:=R.own i x0 (zaa h0) hi'
 refine ⟨_,e1,F,O,s,l.1,l.2,R,h3,fun H2 S2 R2=>⟨F,O,l.2,u.1,u.2,R2,h5,fun H3 S3 R3=>?_⟩⟩
 have S:=S2.trans S3
 obtain ⟨v,e2,B⟩:=zej hi' R R3 (zaa h0) (zaa h6')
 rw [e1] at e2
 injection e2 with e2
 injection e2 with e2
 subst e2
 exact hs (Free F O) H3 _ l.1 u.1 x t' Q B h7 fun a o ha L=>q _ _ (S.trans (.new ha o)) (.mkN R R3 S ha L)
theorem e_sl(hK:X.K=TheK.K)(he:PE X e (cE .e M fe))(hl:PO X lo (cO M fl))(hu:PO X hi (cO M fh)):PE X (.Subscript e (.Slice lo hi none p2) pos) (cE .n M (dSl gSl fe fl fh)):=weak (zeq (hK▸zhk) he hl hu) (sl_n s_sl)
theorem e_slV{i:Nat}(hK:X.K=TheK.K)(hi':M.contains i=true)(he:PE X e (tVar i))(hl:PO X lo (cO M fl))(hu:PO X hi (cO M fh)):PE X (.Subscript e (.Slice lo hi none p2) pos) (cE .n M (dSlV gSl i fl fh)):=weak (zeq (hK▸zhk) he hl hu) (sl_nV hi' s_sl)
theorem e_slS(he:PE X e (cE .e M fe))(hl:PO X lo (cO M fl))(hu:PO X hi (cO M fh)):PE X (.Subscript e (.Slice lo hi none p2) pos) (cE .e M (dSl gSlS fe fl fh)):=weak (zeq zmd he hl hu) (by
 intro σ H Q h_;refine cE_ h_ fun F O s t s' R hf q=>?_
 obtain ⟨p,h1,h2⟩:=Qb hf
 obtain ⟨l,h3,h4⟩:=Qb h2
 obtain ⟨u,h5,h6⟩:=Qb h4
 obtain ⟨t',h7,h8⟩:=Qm h6
 injection h8 with h8 h9
 subst h8 h9
 refine ⟨F,O,s,p.1,p.2,R,h1,fun v H1 S1 p1=>⟨F,O,p.2,l.1,l.2,p1.1,h3,fun H2 S2 R2=>⟨F,O,l.2,u.1,u.2,R2,h5,fun H3 S3 R3=>?_⟩⟩⟩
 have S:=(S1.trans S2).trans S3
 obtain ⟨pt,ps⟩:=p
 cases pt<;>simp [gSlS] at h7
 rename_i x
 obtain ⟨h7,h8⟩:=h7
 exact ⟨x,BRep.str (.inl p1.2),h7,q _ _ S ⟨R3,by rw [<-h8]; exact .str _⟩⟩)
end
end L3
namespace L3
open PySem PySem.Spec PyProof.Rows L2
variable [TheK]
inductive Fl where
 | nx (s:Sg) | rt (t:T) (s:Sg) | bk (s:Sg) | ct (s:Sg)
abbrev DS:=Sg->Option Fl
structure Ios (F:Fr) (io M:List Nat) (σ:L2.St):Prop where
 at_:∀ (i:Nat),i∈io->i∈M/\σ[i]?=some (some (.ref (F.adr i)))
 D:∀ a,F.D a->∃ j,j∈io/\a=F.adr j
def KeepO(O:Addr->Prop)(H:Hp)(O':Addr->Prop)(H':Hp):Prop:=(∀ b o,¬ O b->H b=some o->H' b=some o/\¬ O' b)/\∀ b,H' b=none->H b=none
def C1(F:Fr):Addr->Prop:=fun b=>¬ F.D b/\(F.C0 b∨F.H0 b=none)
structure RetOk (F:Fr) (rk:Kd) (io:List Nat) (s':Sg) (t:T) (v:V) (H':Hp):Prop where
 keep:∀ b o,¬ F.D b->F.H0 b=some o->H' b=some o
 dom:∀ b,H' b=none->F.H0 b=none
 res:match rk with
  | .n=>∃ r,v=.ref r/\F.H0 r=none/\¬ F.D r/\Live (fun b=>C1 F b/\b≠r) H' r t/\∀ (i:Nat),i∈io->∃ t',s'[i]?=some (some t')/\Live (fun b=>C1 F b/\b≠r) H' (F.adr i) t'
  | .b=>Rep (fun b=>F.H0 b=none) H' v t
  | .e=>Rep (C1 F) H' v t/\∀ (i:Nat),i∈io->∃ t',s'[i]?=some (some t')/\Live (C1 F) H' (F.adr i) t'
def EndOk(F:Fr)(rk:Kd)(io M' Mb:List Nat)(O:Addr->Prop)(H:Hp)(D:Ends):Fl->Prop
 | .nx s'=>∀ O' σ' H',KeepO O H O' H'->Rel F O' M' s' σ' H'->Ios F io M' σ'->D.nx σ' H'
 | .bk s'=>∀ O' σ' H',KeepO O H O' H'->Rel F O' Mb s' σ' H'->Ios F io Mb σ'->D.bk σ' H'
 | .ct s'=>∀ O' σ' H',KeepO O H O' H'->Rel F O' Mb s' σ' H'->Ios F io Mb σ'->D.ct σ' H'
 | .rt t s'=>∀ v H',RetOk F rk io s' t v H'->D.rt v H'
def cS(rk:Kd)(io M M' Mb:List Nat)(d:DS):TS:=fun D σ H=>∃ F O s r,Rel F O M s σ H/\Ios F io M σ/\d s=some r/\EndOk F rk io M' Mb O H D r
theorem cS_{rk:Kd}{io M M' Mb:List Nat}{d:DS}{D:_}{σ:L2.St}{H:Hp}(h:cS rk io M M' Mb d D σ H){G:Prop}(g:∀ F O s r,Rel F O M s σ H->Ios F io M σ->d s=some r->EndOk F rk io M' Mb O H D r->G):G:=by
 obtain ⟨F,O,s,r,R,I,hd,q⟩:=h
 exact g F O s r R I hd q
section
variable {F:Fr}{O O' O'':Addr->Prop}{io M M' Mb:List Nat}{s s':Sg}{σ:L2.St}{H H' H'':Hp}{v:V}{t:T}{a:Addr}{rk:Kd}
theorem KeepO.refl:KeepO O H O H:=⟨fun _ _ n h=>⟨h,n⟩,fun _ h=>h⟩
theorem KeepO.trans(x:KeepO O H O' H')(y:KeepO O' H' O'' H''):KeepO O H O'' H'':=⟨fun b o n h=>by
 obtain ⟨h1,n1⟩:=x.1 b o n h
 exact y.1 b o n1 h1,fun b h=>x.2 b (y.2 b h)⟩
theorem Step.keepO(S:Step σ M H H')(R:Rel F O M s σ H):KeepO O H O H':=⟨fun b o n h=>⟨S.keep b o (R.notOwned n) h,n⟩,S.dom⟩
theorem EndOk.more{D:Ends}{r:Fl}(h:EndOk F rk io M' Mb O H D r)(k:KeepO O H O' H'):EndOk F rk io M' Mb O' H' D r:=by
 cases r with
 | nx s'=>exact fun O2 σ2 H2 k2=>h O2 σ2 H2 (k.trans k2)
 | bk s'=>exact fun O2 σ2 H2 k2=>h O2 σ2 H2 (k.trans k2)
 | ct s'=>exact fun O2 σ2 H2 k2=>h O2 σ2 H2 (k.trans k2)
 | rt t s'=>exact h
theorem Rel.freeze(R:Rel F O M s σ H)(I:Ios F io M σ)(hM:∀ i,i∈M'->i∈M)(hio:∀ i,i∈io->i∈M'):∃ O',(∀ b,O' b->O b)/\Rel F O' M' s σ H/\Ios F io M' σ:=by
 refine ⟨fun b=>O b/\¬ ∃ j:Nat,j∈M/\j∉M'/\σ[j]?=some (some (.ref b)),fun b z=>z.1,?_,⟨fun i hi=>⟨hio i hi,(I.at_ i hi).2⟩,I.D⟩⟩
 have w:∀ b,(O b/\¬ ∃ j:Nat,j∈M/\j∉M'/\σ[j]?=some (some (.ref b)))->O b:=fun b z=>z.1
 have notD:∀ (i:Nat) b,i∈M->i∉M'->σ[i]?=some (some (.ref b))->¬ F.D b:=fun i b hi hi' e z=>by
  obtain ⟨j,hj,rfl⟩:=I.D b z
  obtain ⟨h1,h2⟩:=I.at_ j hj
  have:=R.dis i j _ hi h1 e h2
  subst this
  exact hi' (hio i hj)
 refine ⟨R.len,fun i t e n=>?_,fun i t e n=>?_,fun i b hi e=>⟨R.ow i b (hM i hi) e,fun ⟨j,h1,h2,h3⟩=>?_⟩,fun i j b hi hj=>R.dis i j b (hM i hi) (hM j hj),R.keep,R.dom,fun b z=>R.fresh b z.1,fun b z=>⟨R.inD b z,fun ⟨j,h1,h2,h3⟩=>notD j b h1 h2 h3 z⟩,fun b z=>R.al b z.1⟩
 ·by_cases hi:i∈M
  ·obtain ⟨b,h1,L⟩:=R.own i t e hi
   refine ⟨_,h1,L.rep (fun c z=>z.weak w) ⟨fun z=>z.2 ⟨i,hi,n,h1⟩,?_⟩⟩
   rcases R.fresh b (R.ow i b hi h1) with z | z
   ·exact absurd z (notD i b hi n h1)
   ·exact .inr z
  ·obtain ⟨v,h1,h2⟩:=R.val i t e hi
   exact ⟨v,h1,h2.mono (fun _ c=>c.weak w) fun _ _ _ e=>e⟩
 ·obtain ⟨b,h1,h2⟩:=R.own i t e (hM i n)
  exact ⟨b,h1,h2.mono (fun _ c=>c.weak w) (fun _ _ _ e=>e) fun _ e=>e⟩
 ·have:=R.dis j i b h1 (hM i hi) h3 e
  subst this
  exact h2 hi
theorem zcl{A B:List Nat}(h:A.all (B.contains ·)=true):∀ i,i∈A->i∈B:=fun i hi=>by simpa using List.all_eq_true.mp h i hi
theorem s_pre{X:Cx}{st:Stmt}{d:DS}{Mx:List Nat}(h:PS X st (cS rk io M' Mx Mb d))(hM:M'.all (M.contains ·)=true:=by rfl)(hio:io.all (M'.contains ·)=true:=by rfl):PS X st (cS rk io M Mx Mb d):=weakS h (by
 intro D σ H h_;refine cS_ h_ fun F O s r R I hd q=>?_
 obtain ⟨O',w,R',I'⟩:=R.freeze I (zcl hM) (zcl hio)
 exact ⟨F,O',s,r,R',I',hd,q.more ⟨fun b o n h=>⟨h,fun z=>n (w b z)⟩,fun _ h=>h⟩⟩)
theorem Rel.write{i:Nat}{t0 t':T}{o:HO}(R:Rel F O M s σ H)(hi:i∈M)(e:σ[i]?=some (some (.ref a)))(hs:s[i]?=some (some t0))(L:∀ H1,(∀ b u,Free F O b->H b=some u->H1 b=some u)->H1 a=some o->Live (Free F O) H1 a t'):Rel F O M (s.set i (some t')) σ (upd H a o):=by
 have oa:=R.ow i a hi e
 have k:∀ b u,Free F O b->H b=some u->upd H a o b=some u:=fun b u c q=>(za5 (fun z:b=a=>c.1 (z▸oa))).trans q
 have hl:i < s.length:=(List.getElem?_eq_some_iff.mp hs).1
 refine ⟨by rw [List.length_set]; exact R.len,fun j t e' n=>?_,fun j t e' n=>?_,R.ow,R.dis,fun b u n q=>?_,fun b q=>?_,R.fresh,R.inD,fun b z=>?_⟩
 ·have hij:i≠j:=fun z=>n (z▸hi)
  rw [List.getElem?_set_ne hij] at e'
  obtain ⟨v,h1,h2⟩:=R.val j t e' n
  exact ⟨v,h1,h2.mono (fun _ c=>c) k⟩
 ·by_cases hij:i=j
  ·subst hij
   rw [List.getElem?_set_self hl] at e'
   injection e' with e'
   injection e' with e'
   subst e'
   exact ⟨a,e,L _ k za8⟩
  ·rw [List.getElem?_set_ne hij] at e'
   obtain ⟨b,h1,h2⟩:=R.own j t e' n
   have hne:b≠a:=fun z=>hij (R.dis i j a hi n e (z▸h1))
   exact ⟨b,h1,h2.mono (fun _ c=>c) k fun u q=>by rw [za5 hne]; exact q⟩
 ·refine (za5 (fun z=>?_)).trans (R.keep b u n q)
  subst z
  rcases R.fresh b oa with z | z
  ·exact n z
  ·rw [z] at q; cases q
 ·refine R.dom b ?_
  unfold upd at q
  split at q
  ·cases q
  ·exact q
 ·intro q
  refine R.al b z ?_
  unfold upd at q
  split at q
  ·cases q
  ·exact q
theorem Step.write{i:Nat}{o:HO}(hi:i∈M)(e:σ[i]?=some (some (.ref a)))(_:H a≠none):Step σ M H (upd H a o):=⟨fun b u n q=>by
 exact (za5 (fun z:b=a=>n i hi (z▸e))).trans q,fun b q=>by
 unfold upd at q
 split at q
 ·cases q
 ·exact q⟩
theorem Rel.setE{i:Nat}(R:Rel F O M s σ H)(hM:∀ j,j∈M'->j∈M/\j≠i)(hk:∀ j,j∈M->j∈M'∨j=i)(hi:i < s.length)(r:Rep (Free F O) H v t):Rel F O M' (s.set i (some t)) (σ.set i (some v)) H:=by
 have hi2:i < σ.length:=by rw [<-R.len]; exact hi
 refine ⟨by rw [List.length_set,List.length_set]; exact R.len,fun j t' e n=>?_,fun j t' e n=>?_,fun j b hj e=>?_,fun j k b hj hk e1 e2=>?_,R.keep,R.dom,R.fresh,R.inD,R.al⟩
 ·by_cases hij:i=j
  ·subst hij
   rw [List.getElem?_set_self hi] at e
   injection e with e
   injection e with e
   subst e
   exact ⟨v,List.getElem?_set_self hi2,r⟩
  ·rw [List.getElem?_set_ne hij] at e
   rw [List.getElem?_set_ne hij]
   exact R.val j t' e fun z=>(hk j z).elim n fun z=>hij z.symm
 ·obtain ⟨h1,h2⟩:=hM j n
  rw [List.getElem?_set_ne (Ne.symm h2)] at e
  rw [List.getElem?_set_ne (Ne.symm h2)]
  exact R.own j t' e h1
 ·obtain ⟨h1,h2⟩:=hM j hj
  rw [List.getElem?_set_ne (Ne.symm h2)] at e
  exact R.ow j b h1 e
 ·obtain ⟨h1,h2⟩:=hM j hj
  obtain ⟨h3,h4⟩:=hM k hk
  rw [List.getElem?_set_ne (Ne.symm h2)] at e1
  rw [List.getElem?_set_ne (Ne.symm h4)] at e2
  exact R.dis j k b h1 h3 e1 e2
theorem Rel.setN{i:Nat}(R:Rel F O M s σ H)(hM:∀ j,j∈M'->j=i∨j∈M)(hk:∀ j,j∈M->j∈M')(hi:i < s.length)(him:i∈M')(oa:O a)(nw:∀ j,j∈M->j≠i->σ[j]?≠some (some (.ref a)))(L:Live (Free F O) H a t):Rel F O M' (s.set i (some t)) (σ.set i (some (.ref a))) H:=by
 have hi2:i < σ.length:=by rw [<-R.len]; exact hi
 refine ⟨by rw [List.length_set,List.length_set]; exact R.len,fun j t' e n=>?_,fun j t' e n=>?_,fun j b hj e=>?_,fun j k b hj hk' e1 e2=>?_,R.keep,R.dom,R.fresh,R.inD,R.al⟩
 ·have hij:i≠j:=fun z=>n (z▸him)
  rw [List.getElem?_set_ne hij] at e
  rw [List.getElem?_set_ne hij]
  exact R.val j t' e fun z=>n (hk j z)
 ·by_cases hij:i=j
  ·subst hij
   rw [List.getElem?_set_self hi] at e
   injection e with e
   injection e with e
   subst e
   exact ⟨a,List.getElem?_set_self hi2,L⟩
  ·rw [List.getElem?_set_ne hij] at e
   rw [List.getElem?_set_ne hij]
   exact R.own j t' e ((hM j n).resolve_left fun z=>hij z.symm)
 ·by_cases hij:i=j
  ·subst hij
   rw [List.getElem?_set_self hi2] at e
   injection e with e
   injection e with e
   injection e with e
   exact e▸oa
  ·rw [List.getElem?_set_ne hij] at e
   exact R.ow j b ((hM j hj).resolve_left fun z=>hij z.symm) e
 ·by_cases hij:i=j
  ·by_cases hik:i=k
   ·exact hij.symm.trans hik
   ·subst hij
    rw [List.getElem?_set_self hi2] at e1
    rw [List.getElem?_set_ne hik] at e2
    injection e1 with e1
    injection e1 with e1
    injection e1 with e1
    subst e1
    exact absurd e2 (nw k ((hM k hk').resolve_left fun z=>hik z.symm) (Ne.symm hik))
  ·rw [List.getElem?_set_ne hij] at e1
   by_cases hik:i=k
   ·subst hik
    rw [List.getElem?_set_self hi2] at e2
    injection e2 with e2
    injection e2 with e2
    injection e2 with e2
    subst e2
    exact absurd e1 (nw j ((hM j hj).resolve_left fun z=>hij z.symm) (Ne.symm hij))
   ·rw [List.getElem?_set_ne hik] at e2
    exact R.dis j k b ((hM j hj).resolve_left fun z=>hij z.symm) ((hM k hk').resolve_left fun z=>hik z.symm) e1 e2
theorem Ios.set{i:Nat}{x:Option V}(I:Ios F io M σ)(hio:i∉io)(hM:∀ j,j∈io->j∈M'):Ios F io M' (σ.set i x):=⟨fun j hj=>by
 refine ⟨hM j hj,?_⟩
 rw [List.getElem?_set_ne (fun z:i=j=>hio (z▸hj))]
 exact (I.at_ j hj).2,I.D⟩
end
def dSeq(f g:DS):DS:=fun s=>(f s).bind fun r=>match r with
 | .nx s'=>g s'
 | r=>some r
def dNext:DS:=fun s=>some (.nx s)
def dSet(i:Nat)(f:DE):DS:=fun s=>(f s).bind fun p=>if i < p.2.length then some (.nx (p.2.set i (some p.1))) else none
def dIfS(c:DT)(f g:DS):DS:=fun s=>(c s).bind fun p=>if p.1 then f p.2 else g p.2
def dDo(f:DE):DS:=fun s=>(f s).map fun p=>.nx p.2
def dBrk:DS:=fun s=>some (.bk s)
def dCnt:DS:=fun s=>some (.ct s)
section
variable {X:Cx}{rk:Kd}{io M M' M'' Mb:List Nat}{st:Stmt}{sts:List Stmt}{e c:Expr}{a b:List Stmt}{d d':DS}{fe:DE}{ft:DT}{pos pos':Pos}
theorem zmb:PSs X [] (cS rk io M M Mb dNext):=zdQ zhE (by
 intro D σ H h_;refine cS_ h_ fun F O s r R I hd q=>?_
 injection hd with hd
 subst hd
 exact q O σ H .refl R I)
theorem zma(h:PS X st (cS rk io M M' Mb d)):PSs X [st] (cS rk io M M' Mb d):=zkV h
theorem zkC(h:PS X st (cS rk io M M' Mb d))(h2:PSs X sts (cS rk io M' M'' Mb d')):PSs X (st::sts) (cS rk io M M'' Mb (dSeq d d')):=zdQ (zep h h2) (by
 intro D σ H h_;refine cS_ h_ fun F O s r R I hd q=>?_
 obtain ⟨r1,h1,h2⟩:=Qb hd
 refine ⟨F,O,s,r1,R,I,h1,?_⟩
 cases r1 with
 | nx s1=>exact fun O1 σ1 H1 k1 R1 I1=>⟨F,O1,s1,r,R1,I1,h2,q.more k1⟩
 | bk s1=>injection h2 with h2; subst h2; exact q
 | ct s1=>injection h2 with h2; subst h2; exact q
 | rt t s1=>injection h2 with h2; subst h2; exact q)
theorem s_if(hc:PT X c (cT M ft))(ha:PSs X a (cS rk io M M' Mb d))(hb:PSs X b (cS rk io M M' Mb d')):PS X (.If c a b pos) (cS rk io M M' Mb (dIfS ft d d')):=weakS (ps_if hc ha hb) (by
 intro D σ H h_;refine cS_ h_ fun F O s r R I hd q=>?_
 obtain ⟨p,h1,h2⟩:=Qb hd
 refine ⟨F,O,s,p.1,p.2,R,h1,fun H1 S1 R1=>?_⟩
 have k:=S1.keepO R
 dsimp only
 split at h2
 ·rename_i hp
  rw [if_pos hp]
  exact ⟨F,O,p.2,r,R1,I,h2,q.more k⟩
 ·rename_i hp
  rw [if_neg hp]
  exact ⟨F,O,p.2,r,R1,I,h2,q.more k⟩)
def setsE(M M' io:List Nat)(i:Nat):Bool:=M'.all (fun j=>M.contains j&&j != i)&&M.all (fun j=>M'.contains j||j == i)&&!io.contains i&&io.all (M'.contains ·)
def setsN(M M' io:List Nat)(i:Nat):Bool:=M'.all (fun j=>j == i||M.contains j)&&M.all (M'.contains ·)&&M'.contains i&&!io.contains i&&io.all (M'.contains ·)
theorem zmg{i:Nat}(h:PS X st (tAsg (cE .e M fe) (gName i)))(hM:setsE M M' io i=true:=by rfl):PS X st (cS rk io M M' Mb (dSet i fe)):=weakS h (by
 unfold setsE at hM
 rw [Bool.and_eq_true,Bool.and_eq_true,Bool.and_eq_true] at hM
 obtain ⟨⟨⟨m1,m2⟩,m3⟩,m4⟩:=hM
 intro D σ H h_;refine cS_ h_ fun F O s r R I hd q=>?_
 obtain ⟨p,h1,h2⟩:=Qb hd
 split at h2
 ·rename_i hi
  injection h2 with h2
  subst h2
  refine ⟨F,O,s,p.1,p.2,R,h1,fun v H1 S1 p1=>?_⟩
  refine q O _ H1 (S1.keepO R) (p1.1.setE (fun j hj=>?_) (fun j hj=>?_) hi p1.2) (I.set (by simpa using m3) (zcl m4))
  ·simpa using List.all_eq_true.mp m1 j hj
  ·simpa using List.all_eq_true.mp m2 j hj
 ·cases h2)
theorem zme{i:Nat}(h:PS X st (tAsg (cE .n M fe) (gName i)))(hM:setsN M M' io i=true:=by rfl):PS X st (cS rk io M M' Mb (dSet i fe)):=weakS h (by
 unfold setsN at hM
 rw [Bool.and_eq_true,Bool.and_eq_true,Bool.and_eq_true,Bool.and_eq_true] at hM
 obtain ⟨⟨⟨⟨m1,m2⟩,m5⟩,m3⟩,m4⟩:=hM
 intro D σ H h_;refine cS_ h_ fun F O s r R I hd q=>?_
 obtain ⟨p,h1,h2⟩:=Qb hd
 split at h2
 ·rename_i hi
  injection h2 with h2
  subst h2
  refine ⟨F,O,s,p.1,p.2,R,h1,fun v H1 S1 p1=>?_⟩
  obtain ⟨a,rfl,h0,R1,L⟩:=p1
  have k:KeepO O H (fun b=>O b∨b=a) H1:=⟨fun b o n h=>⟨S1.keep b o (R.notOwned n) h,fun z=>z.elim n fun z=>by rw [z,h0] at h; cases h⟩,S1.dom⟩
  refine q _ _ H1 k (R1.setN (fun j hj=>?_) (fun j hj=>?_) hi (by simpa using m5) (.inr rfl) (fun j hj _ e=>R.al a (R.ow j a hj e) h0) L) (I.set (by simpa using m3) (zcl m4))
  ·simpa using List.all_eq_true.mp m1 j hj
  ·simpa using List.all_eq_true.mp m2 j hj
 ·cases h2)
theorem s_do{k:Kd}(hk:k=.e∨k=.b)(he:PE X e (cE k M fe))(hs:swapsWith e none pos.line X.env=pure false:=by rfl):PS X (.Expr e pos) (cS rk io M M Mb (dDo fe)):=weakS (zhH he hs) (by
 intro D σ H h_;refine cS_ h_ fun F O s r R I hd q=>?_
 obtain ⟨p,h1,h2⟩:=Qm hd
 subst h2
 refine ⟨F,O,s,p.1,p.2,R,h1,fun v H1 S1 p1=>?_⟩
 rcases hk with rfl | rfl
 ·exact q O σ H1 (S1.keepO R) p1.1 I
 ·exact q O σ H1 (S1.keepO R) p1.1 I)
theorem Free.c1{F:Fr}{O:Addr->Prop}{M:List Nat}{s:Sg}{σ:L2.St}{H:Hp}(R:Rel F O M s σ H){b:Addr}(c:Free F O b):C1 F b:=⟨fun z=>c.1 (R.inD b z),c.2⟩
theorem ret_e{F:Fr}{O:Addr->Prop}{s:Sg}{σ:L2.St}{H:Hp}{v:V}{t:T}(R:Rel F O M s σ H)(I:Ios F io M σ)(hio:∀ i,i∈io->∃ t,s[i]?=some (some t))(r:Rep (Free F O) H v t):RetOk F .e io s t v H:=by
 refine ⟨R.keep,R.dom,r.mono (fun _ c=>c.c1 R) (fun _ _ _ e=>e),fun i hi=>?_⟩
 obtain ⟨t',ht⟩:=hio i hi
 obtain ⟨h1,h2⟩:=I.at_ i hi
 obtain ⟨a,h3,L⟩:=R.own i t' ht h1
 rw [h2] at h3
 injection h3 with h3
 injection h3 with h3
 injection h3 with h3
 subst h3
 exact ⟨t',ht,L.mono (fun _ c=>c.c1 R) (fun _ _ _ e=>e) fun _ e=>e⟩
theorem ret_n{F:Fr}{O:Addr->Prop}{s:Sg}{σ:L2.St}{H:Hp}{t:T}{a:Addr}(R:Rel F O M s σ H)(I:Ios F io M σ)(hio:∀ i,i∈io->∃ t,s[i]?=some (some t))(oa:O a)(h0:F.H0 a=none)(nd:¬ F.D a)(L:Live (Free F O) H a t):RetOk F .n io s t (.ref a) H:=by
 have w:∀ b,Free F O b->C1 F b/\b≠a:=fun b c=>⟨c.c1 R,fun z=>c.1 (z▸oa)⟩
 refine ⟨R.keep,R.dom,a,rfl,h0,nd,L.mono w (fun _ _ _ e=>e) fun _ e=>e,fun i hi=>?_⟩
 obtain ⟨t',ht⟩:=hio i hi
 obtain ⟨h1,h2⟩:=I.at_ i hi
 obtain ⟨b,h3,L⟩:=R.own i t' ht h1
 rw [h2] at h3
 injection h3 with h3
 injection h3 with h3
 injection h3 with h3
 subst h3
 exact ⟨t',ht,L.mono w (fun _ _ _ e=>e) fun _ e=>e⟩
def hasAll(io:List Nat)(s:Sg):Bool:=io.all fun i=>(s[i]?).join.isSome
theorem hasAll.get{io:List Nat}{s:Sg}(h:hasAll io s=true):∀ i,i∈io->∃ t,s[i]?=some (some t):=fun i hi=>by
 have:=List.all_eq_true.mp h i hi
 cases e:(s[i]?).join with
 | none=>rw [e] at this; cases this
 | some t=>exact ⟨t,zaa e⟩
def dRetI(io:List Nat)(f:DE):DS:=fun s=>(f s).bind fun p=>if hasAll io p.2 then some (.rt p.1 p.2) else none
theorem zmi(he:PE X e (cE .e M fe)):PS X (.Return (some e) pos) (cS .e io M M' Mb (dRetI io fe)):=weakS (zhG he) (by
 intro D σ H h_;refine cS_ h_ fun F O s r R I hd q=>?_
 obtain ⟨p,h1,h2⟩:=Qb hd
 split at h2
 ·rename_i hh
  injection h2 with h2
  subst h2
  exact ⟨F,O,s,p.1,p.2,R,h1,fun v H1 S1 p1=>q v H1 (ret_e p1.1 I (hasAll.get hh) p1.2)⟩
 ·cases h2)
theorem zmh(he:PE X e (cE .n M fe)):PS X (.Return (some e) pos) (cS .n io M M' Mb (dRetI io fe)):=weakS (zhG he) (by
 intro D σ H h_;refine cS_ h_ fun F O s r R I hd q=>?_
 obtain ⟨p,h1,h2⟩:=Qb hd
 split at h2
 ·rename_i hh
  injection h2 with h2
  subst h2
  refine ⟨F,O,s,p.1,p.2,R,h1,fun v H1 S1 p1=>?_⟩
  obtain ⟨a,rfl,h0,R1,L⟩:=p1
  exact q _ H1 (ret_n R1 I (hasAll.get hh) (.inr rfl) (R.dom a h0) (fun z=>R.al a (R.inD a z) h0) L)
 ·cases h2)
end
end L3
namespace L3
open PySem PySem.Spec PyProof.Rows L2
variable [TheK]
def isLst:T->Bool
 | .lst _=>true
 | _=>false
def SM(r:V->List V->Hp->VK->Prop)(g:T->List T->Option (T × T)):Prop:=∀ (C:Addr->Prop) (H:Hp) a tx vs ts t' tr (Q:VK),¬ C a->Live C H a tx->Reps C H vs ts->g tx ts=some (t',tr)->
 (∀ o v,(∀ H1,(∀ b u,C b->H b=some u->H1 b=some u)->H1 a=some o->Live C H1 a t')->Rep C H v tr->Q v (upd H a o))->r (.ref a) vs H Q
def dMut(g:T->List T->Option (T × T))(i:Nat)(fa:DA):DE:=fun s=>(s[i]?).join.bind fun t0=>if isLst t0 then (fa s).bind fun p=>(p.2[i]?).join.bind fun t=>(g t p.1).map fun q=>(q.2,p.2.set i (some q.1)) else none
def mApp:T->List T->Option (T × T)
 | .lst xs,[t]=>if xs.length < sizeLine then some (.lst (xs++[t]),.non) else none
 | _,_=>none
def zc6:T->List T->Option (T × T)
 | .lst xs,[.int i]=>if 0<=i/\i<=1000000 then (xs[i.toNat]?).map fun y=>(.lst (xs.eraseIdx i.toNat),y) else none
 | _,_=>none
theorem Live.lst'{C:Addr->Prop}{H:Hp}{a:Addr}{ts:List T}(h:Live C H a (.lst ts)):∃ vs,H a=some (.lst vs)/\Reps C H vs ts:=by
 cases h with | lst r h=>exact ⟨_,r,h⟩
theorem Reps.one{C:Addr->Prop}{H:Hp}{vs:List V}{t:T}(h:Reps C H vs [t]):∃ v,vs=[v]/\Rep C H v t:=by
 obtain ⟨v,rfl⟩:=List.length_eq_one_iff.mp (show vs.length=1 from h.1)
 exact ⟨v,rfl,h.head⟩
theorem Reps.none{C:Addr->Prop}{H:Hp}{vs:List V}(h:Reps C H vs []):vs=[]:=List.length_eq_zero_iff.mp h.1
theorem Reps.snoc{C:Addr->Prop}{H:Hp}{vs:List V}{ts:List T}{v:V}{t:T}(h:Reps C H vs ts)(r:Rep C H v t):Reps C H (vs++[v]) (ts++[t]):=h.append (.cons r .nil)
theorem m_app:SM zcL mApp:=by
 intro C H a tx vs ts t' tr Q hn L R hg q
 unfold mApp at hg
 split at hg
 ·split at hg
  ·rename_i hl
   injection hg with hg
   injection hg with h1 h2
   subst h1 h2
   obtain ⟨us,h1,h2⟩:=L.lst'
   obtain ⟨v,rfl,rv⟩:=R.one
   refine ⟨a,us,v,rfl,rfl,h1,by rw [h2.1]; exact hl,q _ _ (fun H1 k e=>.lst e ?_) .non⟩
   exact (h2.snoc rv).mono (fun _ c=>c) k
  ·cases hg
 ·cases hg
theorem Reps.erase{C:Addr->Prop}{H:Hp}{vs:List V}{ts:List T}(h:Reps C H vs ts)(k:Nat):Reps C H (vs.eraseIdx k) (ts.eraseIdx k):=by
 rw [List.eraseIdx_eq_take_drop_succ,List.eraseIdx_eq_take_drop_succ]
 exact (h.take _).append (h.drop _)
theorem Reps.rev{C:Addr->Prop}{H:Hp}:∀ {vs:List V} {ts:List T},Reps C H vs ts->Reps C H vs.reverse ts.reverse
 | [],[],_=>.nil
 | v::vs,[],h=>by have:=h.1; simp at this
 | [],t::ts,h=>by have:=h.1; simp at this
 | v::vs,t::ts,h=>by
  rw [List.reverse_cons,List.reverse_cons]
  exact (Reps.rev h.tail).snoc h.head
theorem zl8:SM zgi zc6:=by
 intro C H a tx vs ts t' tr Q hn L R hg q
 unfold zc6 at hg
 split at hg
 ·split at hg
  ·rename_i xs i hi
   obtain ⟨y,hy,h0⟩:=Qm hg
   injection h0 with h1 h2
   subst h1 h2
   obtain ⟨us,h1,h2⟩:=L.lst'
   obtain ⟨v0,rfl,rv0⟩:=R.one
   have e0:v0=.int i:=BRep.int (.inl rv0)
   subst e0
   obtain ⟨v,hv,rv⟩:=h2.get hy
   have hlt:i.toNat < us.length:=(List.getElem?_eq_some_iff.mp hv).1
   have sx:seqIndex? i us.length=some i.toNat:=by
    unfold seqIndex?
    dsimp only
    rw [if_neg (by lia:¬ i < 0),if_pos (by simp; lia)]
   exact ⟨a,us,i,i.toNat,v,rfl,rfl,h1,by lia,by lia,sx,hv,q _ _ (fun H1 k e=>.lst e ((h2.erase _).mono (fun _ c=>c) k)) rv⟩
  ·cases hg
 ·cases hg
section
variable {X:Cx}{M:List Nat}{fa:DA}
theorem mut_e{r:V->List V->Hp->VK->Prop}{g:T->List T->Option (T × T)}{i:Nat}(hi:M.contains i=true)(hs:SM r g):∀ σ H Q,cE .e M (dMut g i fa) σ H Q->tBM X.K "list" r (tVar i) (cA M fa) σ H Q:=by
 intro σ H Q h_;refine cE_ h_ fun F O s t s' R hf q=>?_
 have hi':i∈M:=by simpa using hi
 obtain ⟨t0,h0,hf⟩:=Qb hf
 split at hf
 ·rename_i hl
  obtain ⟨p,h1,hf⟩:=Qb hf
  obtain ⟨t1,h2,hf⟩:=Qb hf
  obtain ⟨w,h3,h4⟩:=Qm hf
  injection h4 with h4 h5
  subst h4 h5
  obtain ⟨a,e1,L0⟩:=R.own i t0 (zaa h0) hi'
  refine ⟨_,e1,?_,F,O,s,p.1,p.2,R,h1,fun vs H1 S1 R1 rs=>?_⟩
  ·cases L0 with
   | lst r h=>exact .inl ⟨rfl,_,SqL.of r⟩
   | _=>cases hl
  obtain ⟨b,e2,L⟩:=R1.own i t1 (zaa h2) hi'
  rw [e1] at e2
  injection e2 with e2
  injection e2 with e2
  injection e2 with e2
  subst e2
  refine hs (Free F O) H1 a t1 vs p.1 w.1 w.2 Q (fun z=>z.1 (R1.ow i a hi' e1)) L rs h3 fun o v hL rv=>?_
  have R2:=R1.write (o:=o) hi' e1 (zaa h2) hL
  refine q v _ (S1.trans (.write hi' e1 L.ne)) ⟨R2,?_⟩
  exact R1.stay (.write hi' e1 L.ne) rv
 ·cases hf
end
def putT(kvs:List (Key × T))(k:Key)(v:T):List (Key × T):=
 if kvs.any fun kv=>decide (kv.1=k) then kvs.map fun kv=>if kv.1=k then (kv.1,v) else kv else kvs++[(k,v)]
theorem RepK.any{C:Addr->Prop}{H:Hp}(k:Key):∀ {vs:List (Key × V)} {ts:List (Key × T)},RepK C H vs ts->(vs.any fun kv=>decide (kv.1=k))=ts.any fun kv=>decide (kv.1=k)
 | [],[],_=>rfl
 | p::vs,[],h=>by have:=h.1; simp at this
 | [],q::ts,h=>by have:=h.1; simp at this
 | p::vs,q::ts,h=>by
  obtain ⟨e,r,h'⟩:=h.tail
  rw [List.any_cons,List.any_cons,RepK.any k h',e]
theorem RepK.mapPut{C:Addr->Prop}{H:Hp}{k:Key}{v:V}{t:T}(r:Rep C H v t):∀ {vs:List (Key × V)} {ts:List (Key × T)},RepK C H vs ts->RepK C H (vs.map fun kv=>if kv.1=k then (kv.1,v) else kv) (ts.map fun kv=>if kv.1=k then (kv.1,t) else kv)
 | [],[],h=>h
 | p::vs,[],h=>by have:=h.1; simp at this
 | [],q::ts,h=>by have:=h.1; simp at this
 | p::vs,q::ts,h=>by
  obtain ⟨e,r',h'⟩:=h.tail
  rw [List.map_cons,List.map_cons]
  by_cases hk:q.1=k
  ·rw [if_pos hk,if_pos (e.trans hk)]
   exact .cons e r (RepK.mapPut r h')
  ·rw [if_neg hk,if_neg (fun z=>hk (e.symm.trans z))]
   exact .cons e r' (RepK.mapPut r h')
theorem RepK.append{C:Addr->Prop}{H:Hp}:∀ {vs ws:List (Key × V)} {ts us:List (Key × T)},RepK C H vs ts->RepK C H ws us->RepK C H (vs++ws) (ts++us)
 | [],_,[],_,_,h=>h
 | p::vs,_,[],_,h,_=>by have:=h.1; simp at this
 | [],_,q::ts,_,h,_=>by have:=h.1; simp at this
 | p::vs,_,q::ts,_,h,h2=>by
  obtain ⟨e,r',h'⟩:=h.tail
  exact .cons e r' (RepK.append h' h2)
theorem RepK.put{C:Addr->Prop}{H:Hp}{k:Key}{v:V}{t:T}{vs:List (Key × V)}{ts:List (Key × T)}(h:RepK C H vs ts)(r:Rep C H v t):RepK C H (putK vs k v) (putT ts k t):=by
 unfold putK putT
 rw [h.any k]
 split
 ·exact RepK.mapPut r h
 ·exact RepK.append h (.cons rfl r ⟨rfl,fun i v t e=>by simp at e⟩)
theorem RepK.len{C:Addr->Prop}{H:Hp}{vs:List (Key × V)}{ts:List (Key × T)}(h:RepK C H vs ts):vs.length=ts.length:=by simpa using congrArg List.length h.1
def dPut(i:Nat)(fk fv:DE):DS:=fun s=>(fv s).bind fun p=>(p.2[i]?).join.bind fun _=>(fk p.2).bind fun q=>(q.2[i]?).join.bind fun t=>match t with
 | .dct kvs=>(keyT q.1).bind fun k=>if kvs.length < sizeLine then some (.nx (q.2.set i (some (.dct (putT kvs k p.1))))) else none
 | _=>none
def dSetI(i:Nat)(fk fv:DE):DS:=fun s=>(fv s).bind fun p=>(p.2[i]?).join.bind fun _=>(fk p.2).bind fun q=>(q.2[i]?).join.bind fun t=>match t,q.1 with
 | .lst xs,.int k=>(ixN xs.length k).map fun j=>.nx (q.2.set i (some (.lst (xs.set j p.1))))
 | _,_=>none
section
variable {X:Cx}{rk:Kd}{io M M' Mb:List Nat}{st:Stmt}{fk fv:DE}
theorem zmf{i:Nat}(hi:M.contains i=true)(h:PS X st (tAsg (cE .e M fv) (gSub (tVar i) (cE .e M fk) rSetL))):PS X st (cS rk io M M Mb (dSetI i fk fv)):=weakS h (by
 intro D σ H h_;refine cS_ h_ fun F O s r R I hd q=>?_
 have hi':i∈M:=by simpa using hi
 obtain ⟨p,h1,hd⟩:=Qb hd
 obtain ⟨t0,h0,hd⟩:=Qb hd
 obtain ⟨⟨w1,w2⟩,h2,hd⟩:=Qb hd
 obtain ⟨t1,h3,hd⟩:=Qb hd
 obtain ⟨xs,rfl⟩:∃ xs,t1=.lst xs:=by cases t1<;>first | exact ⟨_,rfl⟩ | cases hd
 obtain ⟨k,rfl⟩:∃ k,w1=.int k:=by cases w1<;>first | exact ⟨_,rfl⟩ | cases hd
 obtain ⟨j,h4,h6⟩:=Qm (show (ixN xs.length k).map (fun j=>Fl.nx (w2.set i (some (.lst (xs.set j p.1)))))=some r from hd)
 subst h6
 refine ⟨F,O,s,p.1,p.2,R,h1,fun v H1 S1 p1=>?_⟩
 obtain ⟨a,e1,_⟩:=p1.1.own i t0 (zaa h0) hi'
 refine ⟨_,e1,F,O,p.2,_,_,p1.1,h2,fun y H2 S2 p2=>?_⟩
 obtain ⟨b,e2,L⟩:=p2.1.own i _ (zaa h3) hi'
 rw [e1] at e2
 injection e2 with e2
 injection e2 with e2
 injection e2 with e2
 subst e2
 have ne:=L.ne
 obtain ⟨vs,hr,hk⟩:=L.lst'
 obtain rfl:y=.int k:=BRep.int (.inl p2.2)
 refine ⟨a,vs,k,j,rfl,rfl,hr,by rw [hk.1]; exact h4,?_⟩
 have rv:=p1.1.stay S2 p1.2
 have R2:=p2.1.write (t':=.lst (xs.set j p.1)) hi' e1 (zaa h3) (fun Hx kx ex=>.lst ex ((hk.set j rv).mono (fun _ c=>c) kx))
 exact q O σ _ (((S1.trans S2).trans (.write hi' e1 ne)).keepO R) R2 I)
def dAug(i:Nat)(f:DE):DS:=fun s=>(s[i]?).join.bind fun x=>(f s).bind fun p=>match x,p.1 with
 | .int a,.int b=>some (.nx (p.2.set i (some (.int (a+b)))))
 | _,_=>none
def gsN:List Nat->TGs
 | []=>gNil
 | i::r=>gCons (gName i) (gsN r)
def zbb:List Nat->List T->Sg->Option Sg
 | [],[],s=>some s
 | i::is,t::ts,s=>if i < s.length then zbb is ts (s.set i (some t)) else none
 | _,_,_=>none
theorem zhl{F:Fr}{O:Addr->Prop}{H:Hp}{Q:L2.St->Hp->Prop}:∀ {is:List Nat} {ts:List T} {vs:List V} {s s':Sg} {σ:L2.St},Rel F O M s σ H->Ios F io M σ->(∀ i,i∈is->i∉M)->(∀ i,i∈io->i∈M)->Reps (Free F O) H vs ts->zbb is ts s=some s'->
  (∀ σ',Rel F O M s' σ' H->Ios F io M σ'->Q σ' H)->gsN is vs σ H Q
 | [],[],vs,s,s',σ,R,I,_,_,h,e,q=>by
  injection e with e
  subst e
  exact ⟨h.none,q σ R I⟩
 | [],t::ts,vs,s,s',σ,R,I,_,_,h,e,q=>by cases e
 | i::is,[],vs,s,s',σ,R,I,_,_,h,e,q=>by cases e
 | i::is,t::ts,[],s,s',σ,R,I,_,_,h,e,q=>by have:=h.1; simp at this
 | i::is,t::ts,v::vs,s,s',σ,R,I,hm,hio,h,e,q=>by
  unfold zbb at e
  split at e
  ·rename_i hl
   have hi:i∉M:=hm i List.mem_cons_self
   exact ⟨v,vs,rfl,zhl (R.setE (fun j hj=>⟨hj,fun z=>hi (z▸hj)⟩) (fun j hj=>.inl hj) hl h.head) (I.set (fun z=>hi (hio i z)) hio) (fun j hj=>hm j (List.mem_cons_of_mem _ hj)) hio h.tail e q⟩
  ·cases e
def zi9:T->Option (List T)
 | .lst xs=>some xs
 | .tup xs=>some xs
 | _=>none
def dUn(is:List Nat)(f:DE):DS:=fun s=>(f s).bind fun p=>(zi9 p.1).bind fun ts=>(zbb is ts p.2).map .nx
end
end L3
namespace L3
open PySem PySem.Spec PyProof.Rows L2
variable [TheK]
def ItOk(F:Fr)(O:Addr->Prop)(its:List T)(J:It)(H1:Hp):Prop:=∀ H2,(∀ b o,Free F O b->H1 b=some o->H2 b=some o)->
 ∀ i:Nat,(∀ t,its[i]?=some t->J.go i H2/\∀ x H3,J.yld i H2 x H3->(H3=H2∨∃ p o,H2 p=none/\H3=upd H2 p o)/\Rep (fun b=>(Free F O b/\H1 b≠none)∨H2 b=none) H3 x t)/\(its.length<=i->J.stop i H2)
abbrev DI:=Sg->Option (List T × Sg)
def cI(M:List Nat)(f:DI):TI:=fun σ H R=>∃ F O s its s',Rel F O M s σ H/\f s=some (its,s')/\∀ J H',Step σ M H H'->Rel F O M s' σ H'->ItOk F O its J H'->R J H'
theorem cI_{M:List Nat}{f:DI}{σ:L2.St}{H:Hp}{R:_}(h:cI M f σ H R){G:Prop}(g:∀ F O s its s',Rel F O M s σ H->f s=some (its,s')->(∀ J H',Step σ M H H'->Rel F O M s' σ H'->ItOk F O its J H'->R J H')->G):G:=by
 obtain ⟨F,O,s,its,s',Rl,hf,q⟩:=h
 exact g F O s its s' Rl hf q
theorem weakI{X:Cx}{tg e:Expr}{t t':TI}(h:PI X tg e t)(hw:∀ σ H R,t' σ H R->t σ H R):PI X tg e t':=fun pins s σ H R I q=>h pins s σ H R I (hw _ _ _ q)
def dIt(f:DE):DI:=fun s=>(f s).bind fun p=>match p.1 with
 | .lst xs=>some (xs,p.2)
 | .scr ns=>some (ns.map .int,p.2)
 | _=>none
def dItT(f:DE):DI:=fun s=>(f s).bind fun p=>match p.1 with
 | .tup xs=>some (xs,p.2)
 | _=>none
def zaH(lo:Int)(n:Nat):List T:=(List.range n).map fun (i:Nat)=>T.int (lo+i)
def rgOk(j:Int):Bool:=(j+2000).natAbs.ble 4000
theorem zdb{j:Int}(h:rgOk j=true):-(2 ^ 62)<=j/\j < 2 ^ 62:=by
 unfold rgOk at h
 have:=Nat.le_of_ble_eq_true h
 lia
def dRg1(f:DA):DI:=fun s=>(f s).bind fun p=>match p.1 with
 | [.int j]=>if rgOk j=true then some (zaH 0 j.toNat,p.2) else none
 | _=>none
def dRg2(f:DA):DI:=fun s=>(f s).bind fun p=>match p.1 with
 | [.int i,.int j]=>if rgOk i=true/\rgOk j=true then some (zaH i (j - i).toNat,p.2) else none
 | _=>none
def enumT(xs:List T):List T:=(List.range xs.length).map fun (i:Nat)=>T.tup [.int i,xs.getD i .non]
def dEn(f:DA):DI:=fun s=>(f s).bind fun p=>match p.1 with
 | [.lst xs]=>some (enumT xs,p.2)
 | _=>none
section
variable {X:Cx}{M:List Nat}{tg e:Expr}{fe:DE}{fa:DA}
theorem zle{F:Fr}{O:Addr->Prop}{H1:Hp}{a:Addr}{vs:List V}{ts:List T}{K:PySem.W.Frag}(fr:Free F O a)(ha:H1 a=some (.lst vs))(r:Reps (Free F O) H1 vs ts):ItOk F O ts (Itl K a) H1:=by
 intro H2 k i
 have h2:=k a _ fr ha
 refine ⟨fun t ht=>?_,fun hl=>⟨vs,SqL.of h2,by rw [r.1]; exact hl⟩⟩
 obtain ⟨v,hv,rv⟩:=r.get ht
 refine ⟨⟨vs,v,SqL.of h2,hv⟩,fun x H3 ⟨e1,e2⟩=>⟨.inl e1,?_⟩⟩
 have:=e2 vs (SqL.of h2)
 rw [hv] at this
 obtain rfl:v=x:=Option.some.inj this
 subst e1
 exact rv.there.mono (fun b c=>.inl c) fun b o c e=>k b o c.1 e
theorem zk8{F:Fr}{O:Addr->Prop}{H1:Hp}{a:Addr}{ns:List Int}{K:PySem.W.Frag}(h:∀ H2,(∀ b o,Free F O b->H1 b=some o->H2 b=some o)->SqL K H2 a (ns.map V.int)):ItOk F O (ns.map T.int) (Itl K a) H1:=by
 intro H2 k i
 have h2:=h H2 k
 refine ⟨fun t ht=>?_,fun hl=>⟨_,h2,by simpa using hl⟩⟩
 obtain ⟨v,hv,rv⟩:=(zbJ (C:=fun b=>(Free F O b/\H1 b≠none)∨H2 b=none) (H:=H2) ns).get ht
 refine ⟨⟨_,v,h2,hv⟩,fun x H3 ⟨e1,e2⟩=>⟨.inl e1,?_⟩⟩
 have:=e2 _ h2
 rw [hv] at this
 obtain rfl:v=x:=Option.some.inj this
 subst e1
 exact rv
theorem znd(hK:X.K=TheK.K)(h:PE X e (cE .e M fe)):PI X tg e (cI M (dIt fe)):=weakI (t:=iList TheK.K (cE .e M fe)) (hK▸zhK h) (by
 intro σ H R h_;refine cI_ h_ fun F O s its s' Rl hf q=>?_
 obtain ⟨⟨p1,p2⟩,h1,h2⟩:=Qb hf
 refine ⟨F,O,s,p1,p2,Rl,h1,fun v H1 S1 po=>?_⟩
 cases p1<;>simp at h2
 ·obtain ⟨h3,h4⟩:=h2
  subst h3 h4
  have po2:=po.2
  cases po2 with
  | lst c r l h=>
   exact ⟨_,rfl,⟨_,SqL.of r⟩,q _ H1 S1 po.1 (zle c r ⟨l,h⟩)⟩
 ·obtain ⟨h3,h4⟩:=h2
  subst h3 h4
  have po2:=po.2
  cases po2 with
  | @scr a ns o c r=>
   refine ⟨a,rfl,⟨_,.inl (.inr ⟨o,r⟩)⟩,q _ H1 S1 po.1 ?_⟩
   exact zk8 fun H2 k=>.inl (.inr ⟨o,k a _ c r⟩)
  | @scrK a ns r=>
   refine ⟨a,rfl,⟨_,r H1⟩,q _ H1 S1 po.1 ?_⟩
   exact zk8 fun H2 k=>r H2)
theorem i_tup(h:PE X e (cE .e M fe)):PI X tg e (cI M (dItT fe)):=weakI (zmB h) (by
 intro σ H R h_;refine cI_ h_ fun F O s its s' Rl hf q=>?_
 obtain ⟨⟨p1,p2⟩,h1,h2⟩:=Qb hf
 refine ⟨F,O,s,p1,p2,Rl,h1,fun v H1 S1 po=>?_⟩
 cases p1<;>simp at h2
 obtain ⟨h3,h4⟩:=h2
 subst h3 h4
 have po2:=po.2
 cases po2 with
 | tup c r l h=>
  rename_i a vs
  refine ⟨a,rfl,⟨vs,SqT.of r⟩,q _ H1 S1 po.1 ?_⟩
  intro H2 k i
  have h2:=k a _ c r
  refine ⟨fun t ht=>?_,fun hl=>⟨vs,SqT.of h2,by rw [l]; exact hl⟩⟩
  obtain ⟨v,hv,rv⟩:=Reps.get (⟨l,h⟩:Reps (Free F O) H1 vs _) ht
  refine ⟨⟨vs,v,SqT.of h2,hv⟩,fun x H3 ⟨e1,e2⟩=>⟨.inl e1,?_⟩⟩
  have:=e2 vs (SqT.of h2)
  rw [hv] at this
  obtain rfl:v=x:=Option.some.inj this
  subst e1
  exact rv.there.mono (fun b c=>.inl c) fun b o c e=>k b o c.1 e)
theorem zgu{F:Fr}{O:Addr->Prop}{H1:Hp}{lo:Int}{n:Nat}:ItOk F O (zaH lo n) (Itr lo n) H1:=by
 intro H2 k i
 unfold zaH
 refine ⟨fun t ht=>?_,fun hl=>by show n<=i; simpa using hl⟩
 rw [List.getElem?_map] at ht
 obtain ⟨j,hj,e⟩:=Qm ht
 have hi:i < n:=by simpa using (List.getElem?_eq_some_iff.mp hj).1
 rw [List.getElem?_range hi] at hj
 obtain rfl:i=j:=Option.some.inj hj
 refine ⟨hi,fun x H3 ⟨e1,e2⟩=>⟨.inl e1,?_⟩⟩
 subst e1 e2 e
 exact .int _
theorem zjs{a:Expr}{p pos:Pos}(hg:Gl X "range")(hm:X.mg "range"=none)(ha:PA X [a] (cA M fa))(hs:starEach [a] X.env=[(false,eval a X.env)]:=by rfl):PI X tg (.Call (.Name "range" p) [a] [] pos) (cI M (dRg1 fa)):=weakI (zhJ hg hm ha hs) (by
 intro σ H R h_;refine cI_ h_ fun F O s its s' Rl hf q=>?_
 obtain ⟨⟨p1,p2⟩,h1,h2⟩:=Qb hf
 refine ⟨F,O,s,p1,p2,Rl,h1,fun vs H1 S1 R1 rs=>?_⟩
 dsimp only at h2
 split at h2
 case h_2=>cases h2
 ·rename_i j
  have h2:(if rgOk j=true then some (zaH 0 j.toNat,p2) else none)=some (its,s'):=h2
  split at h2
  ·rename_i hj
   have hj:=zdb hj
   injection h2 with h2
   injection h2 with h3 h4
   subst h3 h4
   obtain ⟨v,rfl,rv⟩:=rs.one
   obtain rfl:v=.int j:=BRep.int (.inl rv)
   exact ⟨j,rfl,hj.1,hj.2,q _ H1 S1 R1 zgu⟩
  ·cases h2)
theorem zjr{a b:Expr}{p pos:Pos}(hg:Gl X "range")(hm:X.mg "range"=none)(ha:PA X [a,b] (cA M fa))(hs:starEach [a,b] X.env=[(false,eval a X.env),(false,eval b X.env)]:=by rfl)(hs2:starEach [b] X.env=[(false,eval b X.env)]:=by rfl):PI X tg (.Call (.Name "range" p) [a,b] [] pos) (cI M (dRg2 fa)):=weakI (zhI hg hm ha hs hs2) (by
 intro σ H R h_;refine cI_ h_ fun F O s its s' Rl hf q=>?_
 obtain ⟨⟨p1,p2⟩,h1,h2⟩:=Qb hf
 refine ⟨F,O,s,p1,p2,Rl,h1,fun vs H1 S1 R1 rs=>?_⟩
 dsimp only at h2
 split at h2
 case h_2=>cases h2
 ·rename_i i j
  have h2:(if rgOk i=true/\rgOk j=true then some (zaH i (j - i).toNat,p2) else none)=some (its,s'):=h2
  split at h2
  ·rename_i hj
   have hj:-(2 ^ 62)<=i/\i < 2 ^ 62/\-(2 ^ 62)<=j/\j < 2 ^ 62:=⟨(zdb hj.1).1,(zdb hj.1).2,zdb hj.2⟩
   injection h2 with h2
   injection h2 with h3 h4
   subst h3 h4
   match vs,rs with
   | v::vs,rs=>
    obtain ⟨u,rfl,ru⟩:=rs.tail.one
    obtain rfl:v=.int i:=BRep.int (.inl rs.head)
    obtain rfl:u=.int j:=BRep.int (.inl ru)
    exact ⟨i,j,rfl,hj,q _ H1 S1 R1 zgu⟩
   | [],rs=>exact absurd rs.1 (by simp)
  ·cases h2)
theorem zne{elts:List Expr}{x1:Nat}{tp:Pos}{a:Expr}{p pos:Pos}(hg:Gl X "enumerate")(hm:X.mg "enumerate"=none)(ha:PA X [a] (cA M fa))(hs:starEach [a] X.env=[(false,eval a X.env)]:=by rfl):PI X (.Tuple elts x1 tp) (.Call (.Name "enumerate" p) [a] [] pos) (cI M (dEn fa)):=weakI (zl0 hg hm ha hs) (by
 intro σ H R h_;refine cI_ h_ fun F O s its s' Rl hf q=>?_
 obtain ⟨⟨p1,p2⟩,h1,h2⟩:=Qb hf
 refine ⟨F,O,s,p1,p2,Rl,h1,fun vs H1 S1 R1 rs=>?_⟩
 dsimp only at h2
 split at h2
 case h_2=>cases h2
 ·rename_i xs
  injection h2 with h2
  injection h2 with h3 h4
  subst h3 h4
  obtain ⟨v,rfl,rv⟩:=rs.one
  cases rv with
  | @lst a us _ c r l h=>
   refine ⟨a,rfl,⟨us,SqL.of r⟩,q _ H1 S1 R1 ?_⟩
   intro H2 k i
   have h2:=k a _ c r
   have hlen:(enumT xs).length=us.length:=by unfold enumT; rw [List.length_map,List.length_range,l]
   refine ⟨fun t ht=>?_,fun hl=>⟨us,SqL.of h2,by rw [<-hlen]; exact hl⟩⟩
   have hi:i < us.length:=by rw [<-hlen]; exact (List.getElem?_eq_some_iff.mp ht).1
   have hx:i < xs.length:=by rw [<-l]; exact hi
   have et:t=.tup [.int i,xs[i]]:=by
    unfold enumT at ht
    rw [List.getElem?_map,List.getElem?_range hx] at ht
    have:=Option.some.inj ht
    rw [<-this]
    simp [List.getD,List.getElem?_eq_getElem hx]
   subst et
   refine ⟨⟨us,us[i],SqL.of h2,List.getElem?_eq_getElem hi⟩,fun x H3 ⟨p',x',e1,e2,e3,e4⟩=>⟨.inr ⟨p',_,e2,e3⟩,?_⟩⟩
   have:=e4 us (SqL.of h2)
   rw [List.getElem?_eq_getElem hi] at this
   obtain rfl:us[i]=x':=Option.some.inj this
   subst e1 e3
   have ri:=h i _ _ (List.getElem?_eq_getElem hi) (List.getElem?_eq_getElem hx)
   have ri2:Rep (fun b=>(Free F O b/\H1 b≠none)∨H2 b=none) (upd H2 p' (.tup [.int i,us[i]])) us[i] xs[i]:=
    ri.there.mono (fun b c=>.inl c) fun b o c e=>by rw [za5 (za3 (k b o c.1 e) e2)]; exact k b o c.1 e
   have rr:Reps (fun b=>(Free F O b/\H1 b≠none)∨H2 b=none) (upd H2 p' (.tup [.int i,us[i]])) [.int i,us[i]] [.int i,xs[i]]:=.cons (.int _) (.cons ri2 .nil)
   exact .tup (.inr e2) za8 rr.1 rr.2)
end
abbrev DG:=T->Sg->Option Sg
def cG(io M:List Nat)(g:DG):TG:=fun v σ H Q=>∃ F O s t s',Rel F O M s σ H/\Ios F io M σ/\Rep (Free F O) H v t/\g t s=some s'/\∀ σ',Rel F O M s' σ' H->Ios F io M σ'->Q σ' H
def dGn(i:Nat):DG:=fun t s=>if i < s.length then some (s.set i (some t)) else none
def dGt(is:List Nat):DG:=fun t s=>match t with
 | .tup ts=>zbb is ts s
 | _=>none
theorem weakG{X:Cx}{e:Expr}{t t':TG}(h:PG X e t)(hw:∀ v σ H Q,t' v σ H Q->t v σ H Q):PG X e t':=fun pins s σ H v u Q I r q=>h pins s σ H v u Q I r (hw _ _ _ _ q)
section
variable {X:Cx}{rk:Kd}{io M M' Mb:List Nat}{tg iter:Expr}{body:List Stmt}{fi:DI}{g:DG}{db:DS}{pos:Pos}
theorem gn{i:Nat}(hi:M.contains i=false)(hio:io.all (M.contains ·)=true):∀ v σ H Q,cG io M (dGn i) v σ H Q->gName i v σ H Q:=by
 rintro v σ H Q ⟨F,O,s,t,s',R,I,r,hg,q⟩
 have hi':i∉M:=by simpa using hi
 unfold dGn at hg
 split at hg
 ·rename_i hl
  injection hg with hg
  subst hg
  exact q _ (R.setE (fun j hj=>⟨hj,fun z=>hi' (z▸hj)⟩) (fun j hj=>.inl hj) hl r) (I.set (fun z=>hi' (zcl hio i z)) (zcl hio))
 ·cases hg
theorem gt{is:List Nat}{n:Nat}{K:PySem.W.Frag}(hn:is.length=n)(hm:is.all (fun i=>!M.contains i)=true)(hio:io.all (M.contains ·)=true):∀ v σ H Q,cG io M (dGt is) v σ H Q->gTup K n (gsN is) v σ H Q:=by
 rintro v σ H Q ⟨F,O,s,t,s',R,I,r,hg,q⟩
 obtain ⟨ts,rfl⟩:∃ ts,t=.tup ts:=by cases t<;>first | exact ⟨_,rfl⟩ | cases hg
 have hg:zbb is ts s=some s':=hg
 have hl:∀ {is:List Nat} {ts:List T} {s s':Sg},zbb is ts s=some s'->ts.length=is.length:=by
  intro is
  induction is with
  | nil=>intro ts s s' e; cases ts with
   | nil=>rfl
   | cons=>cases e
  | cons i is ih=>intro ts s s' e; cases ts with
   | nil=>cases e
   | cons t ts=>
    unfold zbb at e
    split at e
    ·rw [List.length_cons,List.length_cons,ih e]
    ·cases e
 obtain ⟨a,vs,rfl,ha,ra⟩:=BRep.tup (.inl r)
 exact ⟨a,vs,rfl,SqT.of ha,by rw [ra.1,hl hg,hn],zhl R I (fun i hi=>by simpa using List.all_eq_true.mp hm i hi) (zcl hio) ra hg q⟩
theorem znf{i:Nat}(h:PG X tg (gName i))(hi:M.contains i=false:=by rfl)(hio:io.all (M.contains ·)=true:=by rfl):PG X tg (cG io M (dGn i)):=weakG h (gn hi hio)
theorem g_tup{is:List Nat}{n:Nat}{K:PySem.W.Frag}(h:PG X tg (gTup K n (gsN is)))(hn:is.length=n:=by rfl)(hm:is.all (fun i=>!M.contains i)=true:=by rfl)(hio:io.all (M.contains ·)=true:=by rfl):PG X tg (cG io M (dGt is)):=weakG h (gt hn hm hio)
def loopF(g:DG)(db:DS):List T->Sg->Option Fl
 | [],s=>some (.nx s)
 | x::xs,s=>(g x s).bind fun s1=>(db s1).bind fun r=>match r with
  | .nx s2=>loopF g db xs s2
  | .ct s2=>loopF g db xs s2
  | .bk s2=>some (.nx s2)
  | .rt t s2=>some (.rt t s2)
def dFor(fi:DI)(g:DG)(db:DS):DS:=fun s=>(fi s).bind fun p=>loopF g db p.1 p.2
theorem zho{F:Fr}{O O1:Addr->Prop}{s:Sg}{σ:L2.St}{H1 H2 H3:Hp}{x:V}{t:T}(k:KeepO O H1 O1 H2)(R:Rel F O1 M s σ H2)(hy:H3=H2∨∃ p o,H2 p=none/\H3=upd H2 p o)(r:Rep (fun b=>(Free F O b/\H1 b≠none)∨H2 b=none) H3 x t) :
  Rel F O1 M s σ H3/\KeepO O1 H2 O1 H3/\Rep (Free F O1) H3 x t:=by
 have fr:∀ b,((Free F O b/\H1 b≠none)∨H2 b=none)->Free F O1 b:=fun b c=>by
  rcases c with ⟨c,n⟩ | n
  ·cases e:H1 b with
   | none=>exact absurd e n
   | some o=>exact ⟨(k.1 b o c.1 e).2,c.2⟩
  ·exact ⟨fun z=>R.al b z n,.inr (R.dom b n)⟩
 refine ⟨?_,?_,r.mono fr fun _ _ _ e=>e⟩
 ·rcases hy with rfl | ⟨p,o,hp,rfl⟩
  ·exact R
  ·exact (R.new hp o).less (fun b z=>.inl z) R.ow R.inD
 ·rcases hy with rfl | ⟨p,o,hp,rfl⟩
  ·exact .refl
  ·exact ⟨fun b u n e=>⟨by rw [za5 (za3 e hp)]; exact e,n⟩,fun b e=>by
    unfold upd at e
    split at e
    ·cases e
    ·exact e⟩
theorem zng:∀ D σ H,cS rk io M M Mb (dFor fi g db) D σ H->tFor (cI M fi) (cG io M g) (cS rk io M M M db) D σ H:=by
 intro D σ H h_;refine cS_ h_ fun F O s r R I hd q=>?_
 obtain ⟨⟨its,s1⟩,h1,h2⟩:=Qb hd
 refine ⟨F,O,s,its,s1,R,h1,fun J H1 S1 R1 IT=>?_⟩
 have k1:KeepO O H O H1:=S1.keepO R
 refine ⟨fun i m σ' H'=>m=its.length - i/\i<=its.length/\∃ O' s',KeepO O H1 O' H'/\Rel F O' M s' σ' H'/\Ios F io M σ'/\loopF g db (its.drop i) s'=some r,⟨its.length,by simp,Nat.zero_le _,O,s1,.refl,R1,I,h2⟩,?_⟩
 rintro i m σ2 H2 ⟨rfl,hi,O2,s2,k2,R2,I2,hl⟩
 have it:=IT H2 (fun b o c e=>(k2.1 b o c.1 e).1) i
 by_cases hlt:i < its.length
 ·refine .inr ?_
  obtain ⟨go,yl⟩:=it.1 its[i] (List.getElem?_eq_getElem hlt)
  rw [List.drop_eq_getElem_cons hlt] at hl
  unfold loopF at hl
  obtain ⟨s3,hg,hl⟩:=Qb hl
  obtain ⟨r1,hb,hl⟩:=Qb hl
  refine ⟨go,fun σ' H'=>∃ O' s',KeepO O H1 O' H'/\Rel F O' M s' σ' H'/\Ios F io M σ'/\loopF g db (its.drop (i+1)) s'=some r,fun σ' H' ⟨O',s',h⟩=>⟨its.length - (i+1),by lia,rfl,hlt,O',s',h⟩,fun x H3 hy=>?_⟩
  obtain ⟨y1,y2⟩:=yl x H3 hy
  obtain ⟨R3,k3,rx⟩:=zho k2 R2 y1 y2
  have k13:=k2.trans k3
  refine ⟨F,O2,s2,its[i],s3,R3,I2,rx,hg,fun σ4 R4 I4=>⟨F,O2,s3,r1,R4,I4,hb,?_⟩⟩
  cases r1 with
  | nx s5=>exact fun O5 σ5 H5 k5 R5 I5=>⟨O5,s5,k13.trans k5,R5,I5,hl⟩
  | ct s5=>exact fun O5 σ5 H5 k5 R5 I5=>⟨O5,s5,k13.trans k5,R5,I5,hl⟩
  | bk s5=>
   injection hl with hl
   subst hl
   exact fun O5 σ5 H5 k5 R5 I5=>q O5 σ5 H5 (k1.trans (k13.trans k5)) R5 I5
  | rt t s5=>
   injection hl with hl
   subst hl
   exact q
 ·have e:i=its.length:=by lia
  subst e
  rw [List.drop_length] at hl
  injection hl with hl
  subst hl
  exact .inl ⟨it.2 (Nat.le_refl _),q O2 σ2 H2 (k1.trans k2) R2 I2⟩
theorem s_for(h:PS X (.For tg iter body [] pos) (tFor (cI M fi) (cG io M g) (cS rk io M M M db))):PS X (.For tg iter body [] pos) (cS rk io M M Mb (dFor fi g db)):=weakS h zng
end
end L3
namespace L3
open PySem PySem.Spec PyProof.Rows L2
variable [TheK]
structure CallP (rk:Kd) (C:Addr->Prop) (H:Hp) (t:T) (v:V) (H':Hp):Prop where
 keep:∀ b o,H b=some o->H' b=some o
 dom:∀ b,H' b=none->H b=none
 res:match rk with
  | .n=>∃ r,v=.ref r/\H r=none/\Live (fun b=>(C b∨H b=none)/\b≠r) H' r t
  | _=>Rep (fun b=>C b∨H b=none) H' v t
def spP(rk:Kd)(np:Nat)(fn:List T->Option T):Sp:=fun vs H Q _=>∃ C ts t,ts.length=np/\Reps C H vs ts/\fn ts=some t/\∀ v H',CallP rk C H t v H'->Q v H'
structure CallI (rk:Kd) (C:Addr->Prop) (a:Addr) (H:Hp) (t t0:T) (v:V) (H':Hp):Prop where
 keep:∀ b o,b≠a->H b=some o->H' b=some o
 dom:∀ b,H' b=none->H b=none
 res:match rk with
  | .n=>∃ r,v=.ref r/\H r=none/\Live (fun b=>(b≠a/\(C b∨H b=none))/\b≠r) H' r t/\Live (fun b=>(b≠a/\(C b∨H b=none))/\b≠r) H' a t0
  | _=>Rep (fun b=>b≠a/\(C b∨H b=none)) H' v t/\Live (fun b=>b≠a/\(C b∨H b=none)) H' a t0
def spI(rk:Kd)(np:Nat)(fn:List T->Option (T × T)):Sp:=fun vs H Q _=>∃ C a us t0 ts t t1,(t0::ts).length=np/\vs=.ref a::us/\¬ C a/\Live C H a t0/\Reps C H us ts/\fn (t0::ts)=some (t,t1)/\∀ v H',CallI rk C a H t t1 v H'->Q v H'
def zax(n:Nat)(ts:List T):Sg:=ts.map some++List.replicate (n - ts.length) none
def fnP(n:Nat)(d:DS):List T->Option T:=fun ts=>match d (zax n ts) with
 | some (.rt t _)=>some t
 | some (.nx _)=>some .non
 | _=>none
def fnPn(n:Nat)(d:DS):List T->Option T:=fun ts=>match d (zax n ts) with
 | some (.rt t _)=>some t
 | _=>none
def fnI(n:Nat)(d:DS):List T->Option (T × T):=fun ts=>match d (zax n ts) with
 | some (.rt t s)=>(s[0]?).join.map fun u=>(t,u)
 | _=>none
theorem zdp{N:List Str}{vs:List V}{ts:List T}{C:Addr->Prop}{H:Hp}(r:Reps C H vs ts)(hl:ts.length<=N.length):(zax N.length ts).length=(L2.start N vs).length/\∀ (i:Nat) t,(zax N.length ts)[i]?=some (some t)->∃ v,(L2.start N vs)[i]?=some (some v)/\ts[i]?=some t/\vs[i]?=some v/\Rep C H v t:=by
 have rl:=r.1
 unfold zax L2.start
 refine ⟨by simp [rl],fun i t e=>?_⟩
 by_cases hi:i < ts.length
 ·rw [List.getElem?_append_left (by rw [List.length_map]; exact hi),List.getElem?_map] at e
  obtain ⟨t',h1,h2⟩:=Qm e
  injection h2 with h2
  subst h2
  obtain ⟨v,hv,rv⟩:=r.get h1
  refine ⟨v,?_,h1,hv,rv⟩
  rw [List.getElem?_append_left (by rw [List.length_map,rl]; exact hi),List.getElem?_map,hv]
  rfl
 ·rw [List.getElem?_append_right (by rw [List.length_map]; lia)] at e
  have:=List.mem_of_getElem? e
  have:=List.eq_of_mem_replicate this
  cases this
section
variable {rk:Kd}{M' Mb:List Nat}{d:DS}{N:List Str}{np:Nat}
theorem run_P{fn:List T->Option T}(hfn:∀ ts t,fn ts=some t->(∃ s',d (zax N.length ts)=some (.rt t s'))∨(rk=.e/\t=.non/\∃ s',d (zax N.length ts)=some (.nx s')))(hrk:rk=.e∨rk=.n)(hN:np<=N.length){vs:List V}{H:Hp}{Q:VK}{E:XK}(h:spP rk np fn vs H Q E) :
  cS rk [] [] M' Mb d { nx:=fun _ H'=>Q .non H',rt:=Q } (L2.start N vs) H:=by
 obtain ⟨C,ts,t,hl,r,hf,q⟩:=h
 obtain ⟨l1,l2⟩:=zdp (N:=N) r (by lia)
 have w:∀ b,C b->Free ⟨H,C,fun _=>False,fun _=>0⟩ (fun _=>False) b:=fun b c=>⟨fun z=>z,.inl c⟩
 have R:Rel ⟨H,C,fun _=>False,fun _=>0⟩ (fun _=>False) [] (zax N.length ts) (L2.start N vs) H:=by
  refine ⟨l1,fun i t e _=>?_,fun i t e n=>by simp at n,fun i a n=>by simp at n,fun i j a n=>by simp at n,fun b o _ e=>e,fun b e=>e,fun a z=>z.elim,fun a z=>z,fun a z=>z.elim⟩
  obtain ⟨v,h1,_,_,rv⟩:=l2 i t e
  exact ⟨v,h1,rv.mono w fun _ _ _ e=>e⟩
 have I:Ios ⟨H,C,fun _=>False,fun _=>0⟩ [] [] (L2.start N vs):=⟨fun i hi=>by simp at hi,fun a z=>z.elim⟩
 rcases hfn ts t hf with ⟨s',hd⟩ | ⟨e1,e2,s',hd⟩
 ·refine ⟨_,_,_,_,R,I,hd,fun v H' ro=>q v H' ⟨fun b o e=>ro.keep b o (fun z=>z) e,ro.dom,?_⟩⟩
  rcases hrk with rfl | rfl
  ·exact ro.res.1.mono (fun b c=>c.2) fun _ _ _ e=>e
  ·obtain ⟨r,h1,h2,_,h3,_⟩:=ro.res
   exact ⟨r,h1,h2,h3.mono (fun b c=>⟨c.1.2,c.2⟩) (fun _ _ _ e=>e) fun _ e=>e⟩
 ·subst e1 e2
  refine ⟨_,_,_,_,R,I,hd,fun O' σ' H' k R' I'=>q .non H' ⟨fun b o e=>R'.keep b o (fun z=>z) e,R'.dom,.non⟩⟩
theorem run_I(hrk:rk=.e∨rk=.n)(hN:np<=N.length){vs:List V}{H:Hp}{Q:VK}{E:XK}(h:spI rk np (fnI N.length d) vs H Q E) :
  cS rk [0] [0] M' Mb d { nx:=fun _ H'=>Q .non H',rt:=Q } (L2.start N vs) H:=by
 obtain ⟨C,a,us,t0,ts,t,t1,hl,rfl,na,L,r,hf,q⟩:=h
 have hlu:us.length+1<=N.length:=by rw [r.1]; simpa using Nat.le_trans (Nat.le_of_eq hl) hN
 have r':Reps (fun b=>C b∨b=a) H (.ref a::us) (t0::ts):=.cons (L.rep (fun b c=>.inl c) (.inr rfl)) (r.mono (fun b c=>.inl c) fun _ _ _ e=>e)
 obtain ⟨l1,l2⟩:=zdp (N:=N) r' (by rw [hl]; exact hN)
 have w:∀ b,C b->Free ⟨H,C,fun b=>b=a,fun _=>a⟩ (fun b=>b=a) b:=fun b c=>⟨fun z=>na (z▸c),.inl c⟩
 have e0:(L2.start N (.ref a::us))[0]?=some (some (.ref a)):=rfl
 have R:Rel ⟨H,C,fun b=>b=a,fun _=>a⟩ (fun b=>b=a) [0] (zax N.length (t0::ts)) (L2.start N (.ref a::us)) H:=by
  refine ⟨l1,fun i t e n=>?_,fun i t e n=>?_,fun i b n e=>?_,fun i j b n m _ _=>?_,fun b o _ e=>e,fun b e=>e,fun b z=>.inl z,fun b z=>z,fun b z=>z▸L.ne⟩
  ·obtain ⟨v,h1,h2,h3,_⟩:=l2 i t e
   cases i with
   | zero=>simp at n
   | succ i=>
    have rv:=r.2 i v t (by simpa using h3) (by simpa using h2)
    exact ⟨v,h1,rv.mono w fun _ _ _ e=>e⟩
  ·obtain rfl:i=0:=by simpa using n
   obtain ⟨v,h1,h2,h3,_⟩:=l2 0 t e
   have:t0=t:=by simpa using h2
   subst this
   exact ⟨a,e0,L.mono w (fun _ _ _ e=>e) fun _ e=>e⟩
  ·obtain rfl:i=0:=by simpa using n
   rw [e0] at e
   injection e with e
   injection e with e
   injection e with e
   exact e.symm
  ·have h1:i=0:=by simpa using n
   have h2:j=0:=by simpa using m
   rw [h1,h2]
 have I:Ios ⟨H,C,fun b=>b=a,fun _=>a⟩ [0] [0] (L2.start N (.ref a::us)):=⟨fun i hi=>by
  obtain rfl:i=0:=by simpa using hi
  exact ⟨by simp,e0⟩,fun b z=>⟨0,by simp,z⟩⟩
 unfold fnI at hf
 cases hd:d (zax N.length (t0::ts)) with
 | none=>rw [hd] at hf; cases hf
 | some r1=>
  rw [hd] at hf
  cases r1 with
  | rt t' s'=>
   obtain ⟨u,h1,h2⟩:=Qm hf
   injection h2 with h2 h3
   subst h2 h3
   refine ⟨_,_,_,_,R,I,hd,fun v H' ro=>q v H' ⟨fun b o n e=>ro.keep b o n e,ro.dom,?_⟩⟩
   rcases hrk with rfl | rfl
   ·obtain ⟨h2,h3⟩:=ro.res
    obtain ⟨t2,h4,h5⟩:=h3 0 (by simp)
    rw [zaa h1] at h4
    injection h4 with h4
    injection h4 with h4
    subst h4
    exact ⟨h2,h5⟩
   ·obtain ⟨r,h2,h3,_,h4,h5⟩:=ro.res
    obtain ⟨t2,h6,h7⟩:=h5 0 (by simp)
    rw [zaa h1] at h6
    injection h6 with h6
    injection h6 with h6
    subst h6
    exact ⟨r,h2,h3,h4,h7⟩
  | nx s'=>cases hf
  | bk s'=>cases hf
  | ct s'=>cases hf
end
section
variable {F:Fr}{O:Addr->Prop}{M:List Nat}{s:Sg}{σ:L2.St}{H H':Hp}
theorem Rel.ext(R:Rel F O M s σ H)(k:∀ b o,H b=some o->H' b=some o)(dm:∀ b,H' b=none->H b=none):Rel F O M s σ H' where
 len:=R.len
 val:=fun i t e n=>by
  obtain ⟨v,h1,h2⟩:=R.val i t e n
  exact ⟨v,h1,h2.mono (fun _ c=>c) fun b o _ e=>k b o e⟩
 own:=fun i t e n=>by
  obtain ⟨a,h1,h2⟩:=R.own i t e n
  exact ⟨a,h1,h2.mono (fun _ c=>c) (fun b o _ e=>k b o e) fun o e=>k a o e⟩
 ow:=R.ow
 dis:=R.dis
 keep:=fun b o n e=>k b o (R.keep b o n e)
 dom:=fun b e=>R.dom b (dm b e)
 fresh:=R.fresh
 inD:=R.inD
 al:=fun a z e=>R.al a z (dm a e)
theorem Rel.extN{r:Addr}(R:Rel F O M s σ H)(k:∀ b o,H b=some o->H' b=some o)(dm:∀ b,H' b=none->H b=none)(hr:H r=none)(hr':H' r≠none):Rel F (fun b=>O b∨b=r) M s σ H':=by
 have R':=R.ext k dm
 have fr:∀ b,Free F O b/\H b≠none->Free F (fun b=>O b∨b=r) b:=fun b c=>⟨fun z=>z.elim c.1.1 fun z=>c.2 (z▸hr),c.1.2⟩
 refine ⟨R.len,fun i t e n=>?_,fun i t e n=>?_,fun i b hi e=>.inl (R.ow i b hi e),R.dis,R'.keep,R'.dom,fun b z=>?_,fun b z=>.inl (R.inD b z),fun b z=>?_⟩
 ·obtain ⟨v,h1,h2⟩:=R.val i t e n
  exact ⟨v,h1,h2.there.mono fr fun b o _ e=>k b o e⟩
 ·obtain ⟨b,h1,h2⟩:=R.own i t e n
  exact ⟨b,h1,h2.there.mono fr (fun b o _ e=>k b o e) fun o e=>k b o e⟩
 ·rcases z with z | z
  ·exact R.fresh b z
  ·subst z; exact .inr (R.dom _ hr)
 ·rcases z with z | z
  ·exact R'.al b z
  ·subst z; exact hr'
theorem Rel.freeNew(R:Rel F O M s σ H){b:Addr}(h:Free F O b∨H b=none):Free F O b:=h.elim id fun z=>⟨fun w=>R.al b w z,.inr (R.dom b z)⟩
end
def Ar(fa:DA)(n:Nat):Prop:=∀ s ts s',fa s=some (ts,s')->ts.length=n
theorem zad:Ar dAn 0:=fun s ts s' h=>by
 injection h with h
 injection h with h1 _
 rw [<-h1]; rfl
theorem ar_{f:DE}{fa:DA}{n:Nat}(h:Ar fa n):Ar (dAc f fa) (n+1):=fun s ts s' e=>by
 obtain ⟨p,h1,h2⟩:=Qb e
 obtain ⟨q,h3,h4⟩:=Qm h2
 injection h4 with h4 _
 rw [<-h4,List.length_cons,h _ _ _ h3]
def dCall(fn:List T->Option T)(fa:DA):DE:=fun s=>(fa s).bind fun p=>(fn p.1).map fun t=>(t,p.2)
def zfi(fn:List T->Option (T × T))(i:Nat)(fa:DA):DE:=fun s=>(s[i]?).join.bind fun _=>(fa s).bind fun p=>(p.2[i]?).join.bind fun t0=>(fn (t0::p.1)).map fun q=>(q.1,p.2.set i (some q.2))
def znv(fn:List T->Option (T × T))(f0:DE)(fa:DA):DE:=fun s=>(f0 s).bind fun p=>(fa p.2).bind fun q=>(fn (p.1::q.1)).map fun r=>(r.1,q.2)
section
variable {M:List Nat}{fa:DA}{f0:DE}{rk:Kd}{np:Nat}
theorem zny{fn:List T->Option T}(hn:Ar fa np):∀ σ H Q,cE .e M (dCall fn fa) σ H Q->tCall (spP .e np fn) [] E0 (cA M fa) σ H Q:=by
 intro σ H Q h_;refine cE_ h_ fun F O s t s' R hf q=>?_
 obtain ⟨p,h1,h2⟩:=Qb hf
 obtain ⟨t',h3,h4⟩:=Qm h2
 injection h4 with h4 h5
 subst h4 h5
 refine ⟨F,O,s,p.1,p.2,R,h1,fun vs H1 S1 R1 rs=>?_⟩
 try dsimp only
 rw [List.append_nil]
 refine ⟨Free F O,p.1,t',hn _ _ _ h1,rs,h3,fun v H2 c=>q v H2 (S1.trans ⟨fun b o _ e=>c.keep b o e,c.dom⟩) ⟨R1.ext c.keep c.dom,?_⟩⟩
 exact c.res.mono (fun b z=>R1.freeNew z) fun _ _ _ e=>e
theorem znx{fn:List T->Option T}(hn:Ar fa np):∀ σ H Q,cE .n M (dCall fn fa) σ H Q->tCall (spP .n np fn) [] E0 (cA M fa) σ H Q:=by
 intro σ H Q h_;refine cE_ h_ fun F O s t s' R hf q=>?_
 obtain ⟨p,h1,h2⟩:=Qb hf
 obtain ⟨t',h3,h4⟩:=Qm h2
 injection h4 with h4 h5
 subst h4 h5
 refine ⟨F,O,s,p.1,p.2,R,h1,fun vs H1 S1 R1 rs=>?_⟩
 try dsimp only
 rw [List.append_nil]
 refine ⟨Free F O,p.1,t',hn _ _ _ h1,rs,h3,fun v H2 c=>?_⟩
 obtain ⟨r,rfl,hr,L⟩:=c.res
 refine q _ H2 (S1.trans ⟨fun b o _ e=>c.keep b o e,c.dom⟩) ⟨r,rfl,S1.dom r hr,R1.extN c.keep c.dom hr L.ne,L.mono (fun b z=>?_) (fun _ _ _ e=>e) fun _ e=>e⟩
 have:=R1.freeNew z.1
 exact ⟨fun y=>y.elim this.1 z.2,this.2⟩
theorem zlz{fn:List T->Option (T × T)}{i:Nat}(hn:Ar fa np)(hi:M.contains i=true):∀ σ H Q,cE .e M (zfi fn i fa) σ H Q->tCall (spI .e (np+1) fn) [] E0 (tCons (tVar i) (cA M fa)) σ H Q:=by
 intro σ H Q h_;refine cE_ h_ fun F O s t s' R hf q=>?_
 have hi':i∈M:=by simpa using hi
 obtain ⟨x0,h0,hf⟩:=Qb hf
 obtain ⟨p,h1,hf⟩:=Qb hf
 obtain ⟨t0,h2,hf⟩:=Qb hf
 obtain ⟨w,h3,h4⟩:=Qm hf
 injection h4 with h4 h5
 subst h4 h5
 obtain ⟨a,e1,_⟩:=R.own i x0 (zaa h0) hi'
 refine ⟨_,e1,F,O,s,p.1,p.2,R,h1,fun vs H1 S1 R1 rs=>?_⟩
 obtain ⟨b,e2,L⟩:=R1.own i t0 (zaa h2) hi'
 rw [e1] at e2
 injection e2 with e2
 injection e2 with e2
 injection e2 with e2
 subst e2
 have oa:=R1.ow i a hi' e1
 try dsimp only
 rw [List.append_nil]
 refine ⟨Free F O,a,vs,t0,p.1,w.1,w.2,by rw [List.length_cons,hn _ _ _ h1],rfl,fun z=>z.1 oa,L,rs,h3,fun v H2 c=>?_⟩
 obtain ⟨c1,c2⟩:=c.res
 have S2:Step σ M H1 H2:=⟨fun b o n e=>c.keep b o (fun z=>n i hi' (z▸e1)) e,c.dom⟩
 have fr:∀ b,(b≠a/\(Free F O b∨H1 b=none))->Free F O b:=fun b z=>R1.freeNew z.2
 have kf:∀ b u,Free F O b->H1 b=some u->H2 b=some u:=fun b u z e=>c.keep b u (fun y=>z.1 (y▸oa)) e
 have hl:i < p.2.length:=(List.getElem?_eq_some_iff.mp (zaa h2)).1
 refine q v H2 (S1.trans S2) ⟨?_,c1.mono fr fun _ _ _ e=>e⟩
 refine ⟨by rw [List.length_set]; exact R1.len,fun j t e' n=>?_,fun j t e' n=>?_,R1.ow,R1.dis,fun b u n e=>?_,fun b e=>R1.dom b (c.dom b e),R1.fresh,R1.inD,fun b z e=>R1.al b z (c.dom b e)⟩
 ·have hij:i≠j:=fun z=>n (z▸hi')
  rw [List.getElem?_set_ne hij] at e'
  obtain ⟨v,h1,h2⟩:=R1.val j t e' n
  exact ⟨v,h1,h2.mono (fun _ c=>c) kf⟩
 ·by_cases hij:i=j
  ·subst hij
   rw [List.getElem?_set_self hl] at e'
   injection e' with e'
   injection e' with e'
   subst e'
   exact ⟨a,e1,c2.mono fr (fun _ _ _ e=>e) fun _ e=>e⟩
  ·rw [List.getElem?_set_ne hij] at e'
   obtain ⟨b,h1,h2⟩:=R1.own j t e' n
   have hne:b≠a:=fun z=>hij (R1.dis i j a hi' n e1 (z▸h1))
   exact ⟨b,h1,h2.mono (fun _ c=>c) kf fun u e=>c.keep b u hne e⟩
 ·refine c.keep b u (fun z=>?_) (R1.keep b u n e)
  subst z
  rcases R1.fresh b oa with z | z
  ·exact n z
  ·rw [z] at e; cases e
end
end L3
namespace L3
open PySem PySem.Spec PyProof.Rows L2
variable [TheK]
def S1E(r:List V->Hp->VK->Prop)(g:T->Option T):Prop:=∀ (C:Addr->Prop) (H:Hp) x tx t (Q:VK),BRep C H x tx->g tx=some t->(∀ v,Rep C H v t->Q v H)->r [x] H Q
def S1N(r:List V->Hp->VK->Prop)(g:T->Option T):Prop:=∀ (C:Addr->Prop) (H:Hp) x tx t (Q:VK),BRep C H x tx->g tx=some t->
 (∀ p o,H p=none->(∀ C':Addr->Prop,(∀ b,C b/\H b≠none->C' b)->Live C' (upd H p o) p t)->Q (.ref p) (upd H p o))->r [x] H Q
def d1(g:T->Option T)(f:DE):DE:=fun s=>(f s).bind fun p=>(g p.1).map fun t=>(t,p.2)
section
variable {M:List Nat}{f:DE}
theorem one_e{r:List V->Hp->VK->Prop}{g:T->Option T}(h:S1E r g):∀ σ H Q,cE .e M (d1 g f) σ H Q->tCB r (tCons (cE .b M f) tNil) σ H Q:=by
 intro σ H Q h_;refine cE_ h_ fun F O s t s' R hf q=>?_
 obtain ⟨p,h1,h2⟩:=Qb hf
 obtain ⟨t',h3,h4⟩:=Qm h2
 injection h4 with h4 h5
 subst h4 h5
 exact ⟨F,O,s,p.1,p.2,R,h1,fun v H1 S1 p1=>h (Free F O) H1 v p.1 t' Q p1.view h3 fun w rw=>q w H1 S1 ⟨p1.1,rw⟩⟩
theorem one_n{r:List V->Hp->VK->Prop}{g:T->Option T}(h:S1N r g):∀ σ H Q,cE .n M (d1 g f) σ H Q->tCB r (tCons (cE .b M f) tNil) σ H Q:=by
 intro σ H Q h_;refine cE_ h_ fun F O s t s' R hf q=>?_
 obtain ⟨p,h1,h2⟩:=Qb hf
 obtain ⟨t',h3,h4⟩:=Qm h2
 injection h4 with h4 h5
 subst h4 h5
 exact ⟨F,O,s,p.1,p.2,R,h1,fun v H1 S1 p1=>h (Free F O) H1 v p.1 t' Q p1.view h3 fun a o ha L=>q _ _ (S1.trans (.new ha o)) (.mkN R p1.1 S1 ha L)⟩
end
theorem CallR.or{X:Cx}{f:Value}{r r':List V->Hp->VK->Prop}(h:CallR X f r)(h':CallR X f r'):CallR X f (fun xs H Q=>r xs H Q∨r' xs H Q):=by
 intro pins s σ H xs us Q I rv q
 rcases q with q | q
 ·exact h pins s σ H xs us Q I rv q
 ·exact h' pins s σ H xs us Q I rv q
theorem ziE{X:Cx}:CallR X (.builtin "len") (fun xs H Q=>∃ a kvs,xs=[V.ref a]/\Rd H a (.dK kvs)/\Q (.int kvs.length) H):=by
 intro pins s σ H xs us Q I r h
 obtain ⟨a,kvs,rfl,ha,q⟩:=h
 obtain ⟨u,rfl,ru⟩:=vals1 r
 cases ru
 exact d_len I ha fun t s' I'=>⟨.int kvs.length,H,I',⟨t,rfl⟩,q⟩
def gLen:T->Option T
 | .lst xs=>some (.int xs.length) | .tup xs=>some (.int xs.length) | .scr xs=>some (.int xs.length) | .dct xs=>some (.int xs.length) | .fd xs=>some (.int xs.length)
 | .str x=>if x.length<=sizeLine then some (.int x.length) else none
 | _=>none
theorem s_len:S1E (fun xs H Q=>((∃ p ys,xs=[.ref p]/\(SqL TheK.K H p ys∨SqT TheK.K H p ys)/\Q (.int ys.length) H)∨(∃ z,xs=[.str z]/\z.length<=sizeLine/\Q (.int z.length) H))∨∃ a kvs,xs=[V.ref a]/\Rd H a (.dK kvs)/\Q (.int kvs.length) H) gLen:=by
 intro C H x tx t Q bx hg q
 cases tx with
 | lst ts=>
  injection hg with hg; subst hg
  obtain ⟨a,vs,rfl,ha,ra⟩:=bx.lst
  exact .inl (.inl ⟨a,vs,rfl,.inl (SqL.of ha),by rw [ra.1]; exact q _ (.int _)⟩)
 | tup ts=>
  injection hg with hg; subst hg
  obtain ⟨a,vs,rfl,ha,ra⟩:=bx.tup
  exact .inl (.inl ⟨a,vs,rfl,.inr (SqT.of ha),by rw [ra.1]; exact q _ (.int _)⟩)
 | scr ns=>
  injection hg with hg; subst hg
  obtain ⟨a,rfl,ha⟩:=bx.scr
  exact .inl (.inl ⟨a,_,rfl,.inl ha,by rw [List.length_map]; exact q _ (.int _)⟩)
 | dct ks=>
  injection hg with hg; subst hg
  obtain ⟨a,kvs,rfl,ha,ra⟩:=bx.dct
  exact .inr ⟨a,kvs,rfl,.inl ha,by rw [ra.len]; exact q _ (.int _)⟩
 | fd ks=>
  injection hg with hg; subst hg
  obtain ⟨a,ob,kvs,rfl,ha,ra,_⟩:=bx.fd
  exact .inr ⟨a,kvs,rfl,.inr ⟨ob,ha⟩,by rw [ra.len]; exact q _ (.int _)⟩
 | str z=>
  have hg:(if z.length<=sizeLine then some (T.int z.length) else none)=some t:=hg
  split at hg
  ·rename_i hl
   injection hg with hg; subst hg
   exact .inl (.inr ⟨z,by rw [bx.str],hl,q _ (.int _)⟩)
  ·cases hg
 | _=>cases hg
def gList:T->Option T
 | .lst xs=>some (.lst xs) | .tup xs=>some (.lst xs) | .scr ns=>some (.lst (ns.map .int))
 | _=>none
theorem zhm:S1N (fun xs H Q=>∃ p ys,xs=[.ref p]/\(SqL TheK.K H p ys∨SqT TheK.K H p ys)/\∀ l,H l=none->Q (.ref l) (upd H l (.lst ys))) gList:=by
 intro C H x tx t Q bx hg q
 cases tx with
 | lst ts=>
  injection hg with hg; subst hg
  obtain ⟨a,vs,rfl,ha,ra⟩:=bx.lst
  exact ⟨a,vs,rfl,.inl (SqL.of ha),fun p hp=>q p _ hp fun C' hC=>.lst za8 (ra.there.mono hC fun c o _ e=>by rw [za5 (za3 e hp)]; exact e)⟩
 | tup ts=>
  injection hg with hg; subst hg
  obtain ⟨a,vs,rfl,ha,ra⟩:=bx.tup
  exact ⟨a,vs,rfl,.inr (SqT.of ha),fun p hp=>q p _ hp fun C' hC=>.lst za8 (ra.there.mono hC fun c o _ e=>by rw [za5 (za3 e hp)]; exact e)⟩
 | scr ns=>
  injection hg with hg; subst hg
  obtain ⟨a,rfl,ha⟩:=bx.scr
  exact ⟨a,_,rfl,.inl ha,fun p hp=>q p _ hp fun C' hC=>.lst za8 (zbJ _)⟩
 | _=>cases hg
def gAbs:T->Option T
 | .int i=>some (.int (if i < 0 then -i else i))
 | _=>none
def isi(c:String):T->Option Bool
 | .non=>some (c == "NoneType") | .bl _=>some (c == "bool"||c == "int") | .int _=>some (c == "int") | .str _=>some (c == "str")
 | .lst _=>some (c == "list") | .tup _=>some (c == "tuple") | .dct _=>some (c == "dict")
 | _=>none
def dIsi(c:String)(f:DE):DE:=d1 (fun t=>(isi c t).map .bl) f
def okTy(c:String):Bool:=["NoneType","bool","int","str","list","tuple","dict"].contains c
theorem zna{K:PySem.W.Frag}{C:Addr->Prop}{H:Hp}{v:V}{t:T}{c:String}{b:Bool}(hc:okTy c=true)(h:BRep C H v t)(e:isi c t=some b):∃ ty,TyOf K H v ty/\PySem.W.kitOne K ty (.type c)=some b:=by
 have hc':c="NoneType"∨c="bool"∨c="int"∨c="str"∨c="list"∨c="tuple"∨c="dict":=by simpa [okTy] using hc
 cases t with
 | non=>obtain rfl:=h.non; injection e with e; subst e; refine ⟨_,.non,?_⟩; rcases hc' with rfl | rfl | rfl | rfl | rfl | rfl | rfl<;>rfl
 | bl x=>obtain rfl:=h.bl; injection e with e; subst e; refine ⟨_,.bl x,?_⟩; rcases hc' with rfl | rfl | rfl | rfl | rfl | rfl | rfl<;>rfl
 | int x=>obtain rfl:=h.int; injection e with e; subst e; refine ⟨_,.int x,?_⟩; rcases hc' with rfl | rfl | rfl | rfl | rfl | rfl | rfl<;>rfl
 | str x=>obtain rfl:=h.str; injection e with e; subst e; refine ⟨_,.str x,?_⟩; rcases hc' with rfl | rfl | rfl | rfl | rfl | rfl | rfl<;>rfl
 | lst ts=>
  obtain ⟨a,vs,rfl,ha,ra⟩:=h.lst
  injection e with e; subst e; refine ⟨_,.lst ha,?_⟩; rcases hc' with rfl | rfl | rfl | rfl | rfl | rfl | rfl<;>rfl
 | tup ts=>
  obtain ⟨a,vs,rfl,ha,ra⟩:=h.tup
  injection e with e; subst e; refine ⟨_,.tup ha,?_⟩; rcases hc' with rfl | rfl | rfl | rfl | rfl | rfl | rfl<;>rfl
 | dct ts=>
  obtain ⟨a,vs,rfl,ha,ra⟩:=h.dct
  injection e with e; subst e; refine ⟨_,.dK ha,?_⟩; rcases hc' with rfl | rfl | rfl | rfl | rfl | rfl | rfl<;>rfl
 | scr ns=>cases e
 | set=>cases e
 | fd=>cases e
 | any=>cases e
theorem isi_e{M:List Nat}{f:DE}{K:PySem.W.Frag}{c:String}(hc:okTy c=true):∀ σ H Q,cE .e M (dIsi c f) σ H Q->tCB (rIsi K) (tCons (cE .b M f) (tCons (tC (.ty c)) tNil)) σ H Q:=by
 intro σ H Q h_;refine cE_ h_ fun F O s t s' R hf q=>?_
 obtain ⟨p,h1,h2⟩:=Qb hf
 obtain ⟨t',h3,h4⟩:=Qm h2
 obtain ⟨b,h5,h6⟩:=Qm h3
 injection h4 with h4 h7
 subst h4 h7 h6
 refine ⟨F,O,s,p.1,p.2,R,h1,fun v H1 S1 p1=>?_⟩
 obtain ⟨ty,g1,g2⟩:=zna (K:=K) hc p1.view h5
 exact ⟨v,c,ty,b,rfl,g1,g2,q _ H1 S1 ⟨p1.1,.bl b⟩⟩
def dA2(g:Int->Int->Int)(fa:DA):DE:=fun s=>(fa s).bind fun p=>match p.1 with
 | [.int i,.int j]=>some (.int (g i j),p.2)
 | _=>none
theorem zg7{M:List Nat}{fa:DA}{g:Int->Int->Int}:∀ σ H Q,cE .e M (dA2 g fa) σ H Q->tCB (fun xs H Q=>∃ i j,xs=[.int i,.int j]/\Q (.int (g i j)) H) (cA M fa) σ H Q:=by
 intro σ H Q h_;refine cE_ h_ fun F O s t s' R hf q=>?_
 obtain ⟨⟨p1,p2⟩,h1,h2⟩:=Qb hf
 refine ⟨F,O,s,p1,p2,R,h1,fun vs H1 S1 R1 rs=>?_⟩
 dsimp only at h2
 split at h2
 ·rename_i i j
  injection h2 with h2
  injection h2 with h3 h4
  subst h3 h4
  cases vs with
  | cons v vs=>
   obtain ⟨u,rfl,ru⟩:=rs.tail.one
   obtain rfl:v=.int i:=BRep.int (.inl rs.head)
   obtain rfl:u=.int j:=BRep.int (.inl ru)
   exact ⟨i,j,rfl,q _ H1 S1 ⟨R1,.int _⟩⟩
  | nil=>exact nomatch rs.1
 ·cases h2
def strsT:List T->Option (List Str)
 | []=>some []
 | .str x::ts=>(strsT ts).map fun r=>x::r
 | _=>none
theorem zg8{C:Addr->Prop}{H:Hp}:∀ {vs:List V} {ts:List T} {ys:List Str},Reps C H vs ts->strsT ts=some ys->vs=ys.map V.str
 | [],[],ys,_,e=>by injection e with e; subst e; rfl
 | v::vs,[],ys,h,_=>by have:=h.1; simp at this
 | [],t::ts,ys,h,_=>by have:=h.1; simp at this
 | v::vs,t::ts,ys,h,e=>by
  cases t with
  | str x=>
   obtain ⟨r,h1,h2⟩:=Qm (show (strsT ts).map (fun r=>x::r)=some ys from e)
   subst h2
   rw [List.map_cons,zg8 h.tail h1,BRep.str (.inl h.head)]
  | _=>cases e
def gJoin(z:Str)(t:T):Option T:=match t with
 | .lst ts=>(strsT ts).bind fun ys=>if (ys.map (·.length)).sum+ys.length*z.length<=16777216 then some (.str (Txt.join z ys)) else none
 | _=>none
def dJoin(f:DE)(g:DE):DE:=fun s=>(f s).bind fun p=>match p.1 with
 | .str z=>(g p.2).bind fun q=>(gJoin z q.1).map fun t=>(t,q.2)
 | _=>none
def zkb(x y:T):Option T:=match x with
 | .lst ts=>(toVs ts).bind fun vs=>(toV y).map fun v=>.int (vs.countP (fun u=>eqV u v):Nat)
 | _=>none
def S2M(r:V->List V->Hp->VK->Prop)(g:T->T->Option T):Prop:=∀ (C:Addr->Prop) (H:Hp) x y tx ty t (Q:VK),BRep C H x tx->BRep C H y ty->g tx ty=some t->(∀ v,Rep C H v t->Q v H)->r x [y] H Q
def d2L(g:T->T->Option T)(fa fb:DE):DE:=fun s=>(fa s).bind fun p=>if isLst p.1 then (fb p.2).bind fun q=>(g p.1 q.1).map fun t=>(t,q.2) else none
theorem m2_e{M:List Nat}{fa fb:DE}{K:PySem.W.Frag}{r:V->List V->Hp->VK->Prop}{g:T->T->Option T}(h:S2M r g):∀ σ H Q,cE .e M (d2L g fa fb) σ H Q->tBM K "list" r (cE .e M fa) (tCons (cE .b M fb) tNil) σ H Q:=by
 intro σ H Q h_;refine cE_ h_ fun F O s t s' R hf q=>?_
 obtain ⟨p,h1,h2⟩:=Qb hf
 split at h2
 ·rename_i hl
  obtain ⟨w,h3,h4⟩:=Qb h2
  obtain ⟨t',h5,h6⟩:=Qm h4
  injection h6 with h6 h7
  subst h6 h7
  refine ⟨F,O,s,p.1,p.2,R,h1,fun v H1 S1 pa=>?_⟩
  have ty:tyV K "list" v H1:=by
   obtain ⟨ts,e⟩:∃ ts,p.1=.lst ts:=by cases e:p.1<;>first | exact ⟨_,rfl⟩ | (rw [e] at hl; cases hl)
   have pr:=pa.2
   rw [e] at pr
   obtain ⟨a,vs,rfl,ha,ra⟩:=BRep.lst (.inl pr)
   exact .inl ⟨rfl,_,SqL.of ha⟩
  refine ⟨ty,F,O,p.2,w.1,w.2,pa.1,h3,fun u H2 S2 pb=>?_⟩
  exact h (Free F O) H2 v u p.1 w.1 t' Q (.inl (pa.1.stay S2 pa.2)) pb.view h5 fun x rx=>q x H2 (S1.trans S2) ⟨pb.1,rx⟩
 ·cases h2
end L3
namespace L3
open PySem PySem.Spec PyProof.Rows L2
def zcK:V->List V->Hp->VK->Prop:=fun x vs H Q=>∃ (l:Addr) (ys:List V) (z:V) (j:Nat),x=.ref l/\vs=[z]/\flatV z=true/\ys.all flatV=true/\H l=some (.lst ys)/\ys.findIdx? (fun y=>eqV y z)=some j/\Q (.int (j:Nat)) H
theorem zf8{X:Cx}:MtR X "list.index" zcK:=by
 intro pins s sg H x vs v us Q I rx rv h
 obtain ⟨l,ys,z,j,rfl,rfl,fz,fy,hH,hj,q⟩:=h
 cases rx
 obtain ⟨u,rfl,ru⟩:=rv.one
 obtain ⟨its,n,r,e,hz⟩:=I.lst hH
 have hlen:=r.length
 obtain ⟨hjl,hit,hno⟩:=List.findIdx?_eq_some_iff_getElem.mp hj
 have key:∀ (m:Nat) (h1:m < ys.length) (h2:m < its.length),eqU z its[m]=eqV ys[m] z:=fun m h1 h2=>by
  obtain ⟨w,e1,e2⟩:=r.get (List.getElem?_eq_getElem h1)
  rw [List.getElem?_eq_getElem h2] at e1
  cases e1
  exact zis e2 (List.all_eq_true.mp fy _ (List.getElem_mem h1))
 refine call_meets F.slot_list_index ⟨_,e,rfl⟩ F.entry_list_index (F.args_list_index_2 _ _) (SeqAt.list_indexAt l its.toArray n none #[] u (eqU z) j (by simp; lia) (by have hz':=hz; rw [sizeLine_eq] at hz'; lia) (by
   rw [List.getElem_toArray,key j hjl (by lia)]; exact hit) (fun m hm hmj=>by
   have hm':m < its.length:=by simpa using hm
   rw [List.getElem_toArray,key m (by lia) hm']
   have:=hno m hmj
   simpa using this)) ⟨e,fun w hw=>zdf ru fz r fy w (by simpa using hw),?_⟩
 exact ⟨.int (j:Nat),H,I.tok _,⟨s.toks,rfl⟩,q⟩
end L3
namespace L2
open PySem PySem.Spec PyProof.Rows
section
variable {X:Cx}
theorem zfy{P:Program}{w:World}{A:Around}{its:Array Value}{bs:List Bool}(r:Vals (bs.map V.bl) its.toList):TruthOf P w A (fun i v=>its[i]?=some v) (fun i=>bs.getD i false):=by
 intro i v s Q E hP hQ
 have hi:i < its.size:=(Array.getElem?_eq_some_iff.mp hP).1
 have hl:bs.length=its.size:=by have:=r.length; simpa using this
 obtain ⟨u,h1,h2⟩:=r.get (i:=i) (x:=.bl (bs[i]'(by lia))) (by rw [List.getElem?_map,List.getElem?_eq_getElem (by lia)]; rfl)
 rw [Array.getElem?_toList,hP] at h1
 cases h1
 cases h2
 refine wpAny_truthy_bool ?_
 have e:bs.getD i false=bs[i]'(by lia):=by rw [List.getD_eq_getElem?_getD,List.getElem?_eq_getElem (by lia)]; rfl
 rw [<-e]
 exact hQ
theorem zjJ(bs:List Bool):(List.range bs.length).all (fun i=>bs.getD i false)=bs.all id:=by
 rw [Bool.eq_iff_iff,List.all_eq_true,List.all_eq_true]
 constructor
 ·intro h b hb
  obtain ⟨i,hi,rfl⟩:=List.getElem_of_mem hb
  have:=h i (List.mem_range.mpr hi)
  rw [List.getD_eq_getElem?_getD,List.getElem?_eq_getElem hi] at this
  exact this
 ·intro h i hi
  have hi':=List.mem_range.mp hi
  rw [List.getD_eq_getElem?_getD,List.getElem?_eq_getElem hi']
  exact h _ (List.getElem_mem hi')
theorem Inv.walked{pins:List (Addr × Obj)}{σ:St}{H:Hp}{s:Shared}{o:Obj}{h':Heap}{tk:Nat}(I:Inv X pins σ H s)(k:∀ b u,b∉[s.heap.objs.size]->(s.heap.push o).get? b=some u->h'.get? b=some u):Inv X pins σ H { s with heap:=h',toks:=tk }:=
 I.kept fun b u e=>k b u (fun hm=>by
  have h1:=Heap.lt_size e
  have h2:b=s.heap.objs.size:=by simpa using hm
  exact absurd (h2▸h1) (Nat.lt_irrefl _)) (Heap.get?_push_of_some _ e)
theorem zjH(hc:X.calm=true):CallR X (.builtin "all") (fun xs H Q=>∃ (a:Addr) (bs:List Bool),xs=[V.ref a]/\SqL X.K H a (bs.map V.bl)/\Q (.bl (bs.all id)) H):=by
 intro pins s σ H xs us Q I rv h
 obtain ⟨a,bs,rfl,hq,q⟩:=h
 obtain ⟨u,rfl,ru⟩:=rv.one
 cases ru
 obtain ⟨its,r,p,hz⟩:=I.list hq
 have hh:X.A.in1.handled=none:=I.ok.hd hc
 have ne:a≠s.heap.objs.size:=by obtain ⟨o,n,e,_⟩:=p; exact Nat.ne_of_lt (Heap.lt_size e)
 refine call_all_walk (wpAny_pyIter_list p.isList ⟨_,_,_,_,_,_,_,rfl,Walks.list hh _ a ne its.toArray,⟨⟨_,Heap.get?_push_size _ rfl,rfl,rfl⟩,p.isList.at fun o e=>Heap.get?_push_of_some _ e⟩,zfy (by simpa using r),fun h' tk k=>?_⟩)
 have hl:=r.length
 rw [List.length_map] at hl
 refine ⟨.bl (bs.all id),H,I.walked k,?_,q⟩
 rw [List.size_toArray,<-hl,zjJ]; rfl
end
end L2
namespace L2
open PySem PySem.Spec PyProof.Rows
def Itd(f:Key × V->V)(a:Addr)(o:Obj):It:=
 ⟨fun i H=>∃ kvs x,H a=some (.frz o (.dK kvs))/\kvs[i]?=some x,fun i H x H'=>H'=H/\∀ kvs,H a=some (.frz o (.dK kvs))->(kvs[i]?).map f=some x,fun i H=>∃ kvs,H a=some (.frz o (.dK kvs))/\kvs.length<=i⟩
theorem zcu{X:Cx}{pins:List (Addr × Obj)}{σ:St}{H:Hp}{s:Shared}{a:Addr}{o:Obj}{kvs:List (Key × V)}(I:Inv X pins σ H s)(e:H a=some (.frz o (.dK kvs))) :
  ∃ vs es ep,KV kvs vs/\s.heap.DictAt (zaE X.prog X.w) a vs ep/\o.data=.dict es ep/\es.size=vs.length/\(a == sysModules)=false:=by
 obtain ⟨ho,z,hd,vs,rel,o',es,ep,ho',c,d,k,p,n⟩:=(show ObjOk X.prog X.w H s.heap a (.frz o (.dK kvs)) from I.hok a _ e)
 rw [ho] at ho'
 cases ho'
 exact ⟨vs,es,ep,rel,⟨o,es,ho,c,d,k,p,n⟩,d,by rw [<-p.length]; simp,hd⟩
theorem zhi{P:Program}{w:World}{K:PySem.W.Frag}{tg:Expr}(a it:Addr)(o:Obj):Turn P w K tg (Itd (fun kv=>kV kv.1) a o) [it] it (fun i h=>∃ n ep es,h.IsKeyIter it a i n ep/\o.data=.dict es ep/\es.size=n) where
 mem:=by simp
 obj:=fun i h st b hb=>by
  have e:b=it:=by simpa using hb
  subst e
  obtain ⟨n,ep,es,⟨o',e,c,d⟩,_⟩:=st
  exact ⟨o',e,fun v z=>by rw [d] at z; cases z⟩
 keep:=fun i h h' ⟨n,ep,es,st,r⟩ k=>⟨n,ep,es,st.at fun o e=>k it (by simp) o e,r⟩
 item:=by
  intro X hP hw hK hc i pins s σ H E I hf st hg
  subst hP hw hK
  obtain ⟨kvs,x,hq,hx⟩:=hg
  obtain ⟨n,ep,es,st,d1,d2⟩:=st
  obtain ⟨vs,es',ep',rel,da,d3,d4,hd⟩:=zcu I hq
  rw [d1] at d3
  cases d3
  obtain ⟨y,hy,y1,y2⟩:=zi2 rel hx
  obtain ⟨f0,f1,f2,f3,f4,f5⟩:=hf it (by simp)
  rw [<-d2,d4] at st
  refine wpAny_pyNext_dict_item st da (k:=y.1) (v:=y.2) hy fun key h' hkey st' sb=>?_
  have I1:Inv X pins σ H { s with heap:=h' }:=I.turned (t':=s.toks) (fun b o hb e=>(sb.2 b hb).trans e) f0 f1 f3 f4 f5
  obtain ⟨o',e,c,d⟩:=id st'
  refine ⟨key,rfl,go_of (s:={ s with heap:=h' }) e c d (by decide) ⟨kV x.1,H,I1,y1▸zfC hkey,⟨rfl,fun kvs' h'=>?_⟩,⟨_,ep,es,st',d1,d4⟩,fun b hb=>(hf b hb).1⟩⟩
  rw [hq] at h'
  cases h'
  rw [hx]; rfl
 done:=by
  intro X hP hw hK hc i pins s σ H E I hf st hg
  subst hP hw hK
  obtain ⟨kvs,hq,hx⟩:=hg
  obtain ⟨n,ep,es,st,d1,d2⟩:=st
  obtain ⟨vs,es',ep',rel,da,d3,d4,hd⟩:=zcu I hq
  rw [d1] at d3
  cases d3
  obtain ⟨f0,f1,f2,f3,f4,f5⟩:=hf it (by simp)
  have hl:=rel.length
  rw [<-d2,d4] at st
  exact wpAny_pyNext_dict_end (I.ok.hd hc) st da (by rw [List.getElem?_eq_none_iff]; lia) fun h' eb=>⟨rfl,I.turned (t':=s.toks) (fun b o hb e=>eb b o hb e) f0 f1 f3 f4 f5⟩
 self:=fun _ _ _ _ _ ⟨_,_,_,st,_⟩ h=>wpAny_pyIter_keyiter st h
def iDict(tl:TE):TI:=fun σ H R=>tl σ H fun x H1=>∃ a o kvs,x=.ref a/\H1 a=some (.frz o (.dK kvs))/\R (Itd (fun kv=>kV kv.1) a o) H1
theorem zl1{X:Cx}{tg l:Expr}{tl:TE}(hl:PE X l tl):PI X tg l (iDict tl):=by
 intro pins s σ H R I h
 refine thn (hl pins s σ H _ I h) fun v s1 h_=>?_; obtain ⟨x,H1,I1,r1,q1⟩:=h_
 obtain ⟨a,o,kvs,e,hq,q⟩:=q1
 subst e
 cases r1
 obtain ⟨vs,es,ep,rel,da,d3,d4,hd⟩:=zcu I1 hq
 refine wpAny_pyIter_dict hd da ?_
 refine ⟨s1.heap.objs.size,[s1.heap.objs.size],_,_,H1,rfl,I1.kept (t':=s1.toks) fun b o e=>Heap.get?_push_of_some _ e,zhi a _ o,⟨_,ep,es,⟨_,Heap.get?_push_size _ rfl,rfl,rfl⟩,d3,d4⟩,fun b hb=>?_,q⟩
 have e:b=s1.heap.objs.size:=by simpa using hb
 subst e
 exact I1.fpOk (Nat.le_refl _) (I1.hok.fresh (Nat.le_refl _))
def Its(x:Str):It:=⟨fun i _=>i < x.cps.size,fun i H v H'=>H'=H/\∃ c,x.cps[i]?=some c/\v=.str ⟨#[c]⟩,fun i _=>x.cps.size<=i⟩
theorem zeF{P:Program}{w:World}{K:PySem.W.Frag}{tg:Expr}(it:Addr)(x:Str)(t:Tok)(n:String)(hn:n="str_ascii_iterator"∨n="str_iterator"):Turn P w K tg (Its x) [it] it (fun i h=>h.IsStrIter it n x t i) where
 mem:=by simp
 obj:=fun i h st b hb=>by
  have e:b=it:=by simpa using hb
  subst e
  obtain ⟨o,e,c,d⟩:=st
  exact ⟨o,e,fun v z=>by rw [d] at z; cases z⟩
 keep:=fun i h h' st k=>let ⟨o,ho,r⟩:=st; ⟨o,k it (by simp) o ho,r⟩
 item:=by
  intro X hP hw hK hc i pins s σ H E I hf st hg
  subst hP hw hK
  obtain ⟨f0,f1,f2,f3,f4,f5⟩:=hf it (by simp)
  have hg:i < x.cps.size:=hg
  have fin:∀ h',h'.IsStrIter it n x t (i+1)->Heap.SameBut it s.heap h'->∀ u,u=Value.str ⟨#[x.cps[i]]⟩ s.toks->∃ u',some u=some u'/\wpAny (model X.prog X.w) X.A (letOwnedTupleGo tg (.ref it) u') (fun _ s2=>∃ y H',Inv X pins σ H' s2/\RelV y u'/\(Its x).yld i H y H'/\s2.heap.IsStrIter it n x t (i+1)/\∀ b∈[it],H' b=none) E { s with heap:=h',toks:=s.toks+1 }:=by
   intro h' st' sb u hu
   have I1:Inv X pins σ H { s with heap:=h',toks:=s.toks+1 }:=I.turned (fun b o hb e=>(sb.2 b hb).trans e) f0 f1 f3 f4 f5
   obtain ⟨o',e,c,d⟩:=id st'
   refine ⟨u,rfl,go_of (s:={ s with heap:=h',toks:=s.toks+1 }) e c d (by rcases hn with rfl | rfl<;>decide) ⟨.str ⟨#[x.cps[i]]⟩,H,I1,⟨_,hu⟩,⟨rfl,_,by simp [hg],rfl⟩,st',fun b hb=>(hf b hb).1⟩⟩
  rcases hn with rfl | rfl
  ·exact wpAny_pyNext_ascii_item st (c:=x.cps[i]) (by simp [hg]) fun h' st' sb=>fin h' st' sb _ rfl
  ·exact wpAny_pyNext_wide_item st (c:=x.cps[i]) (by simp [hg]) fun h' st' sb=>fin h' st' sb _ rfl
 done:=by
  intro X hP hw hK hc i pins s σ H E I hf st hg
  subst hP hw hK
  obtain ⟨f0,f1,f2,f3,f4,f5⟩:=hf it (by simp)
  have hg:x.cps.size<=i:=hg
  rcases hn with rfl | rfl
  ·exact wpAny_pyNext_ascii_end (I.ok.hd hc) st (by simp [hg]) fun h' eb=>⟨rfl,I.turned (t':=s.toks) (fun b o hb e=>eb b o hb e) f0 f1 f3 f4 f5⟩
  ·exact wpAny_pyNext_wide_end (I.ok.hd hc) st (by simp [hg]) fun h' eb=>⟨rfl,I.turned (t':=s.toks) (fun b o hb e=>eb b o hb e) f0 f1 f3 f4 f5⟩
 self:=fun _ _ _ _ _ st h=>by
  rcases hn with rfl | rfl
  ·exact wpAny_pyIter_striter_ascii st h
  ·exact wpAny_pyIter_striter_wide st h
def iSign(tl:TE):TI:=fun σ H R=>tl σ H fun v H1=>∃ x,v=.str x/\R (Its x) H1
theorem zkZ{X:Cx}{tg l:Expr}{tl:TE}(hl:PE X l tl):PI X tg l (iSign tl):=by
 intro pins s σ H R I h
 refine thn (hl pins s σ H _ I h) fun v s1 h_=>?_; obtain ⟨y,H1,I1,r1,q1⟩:=h_
 obtain ⟨x,e,q⟩:=q1
 subst e
 obtain ⟨t,rfl⟩:=r1
 have fp:∀ b∈[s1.heap.objs.size],FpOk X pins H1 b:=fun b hb=>by
  have e:b=s1.heap.objs.size:=by simpa using hb
  subst e
  exact I1.fpOk (Nat.le_refl _) (I1.hok.fresh (Nat.le_refl _))
 cases ha:x.cps.all (· < 128)
 ·exact wpAny_pyIter_wide ha ⟨s1.heap.objs.size,[s1.heap.objs.size],_,_,H1,rfl,I1.kept (t':=s1.toks) fun b o e=>Heap.get?_push_of_some _ e,zeF _ x t "str_iterator" (.inr rfl),⟨_,Heap.get?_push_size _ rfl,rfl,rfl⟩,fp,q⟩
 ·exact wpAny_pyIter_ascii ha ⟨s1.heap.objs.size,[s1.heap.objs.size],_,_,H1,rfl,I1.kept (t':=s1.toks) fun b o e=>Heap.get?_push_of_some _ e,zeF _ x t "str_ascii_iterator" (.inl rfl),⟨_,Heap.get?_push_size _ rfl,rfl,rfl⟩,fp,q⟩
end L2
namespace L2
open PySem PySem.Spec PyProof.Rows
section
variable {P:Program}{w:World}{A:Around}{R:Result->Shared->Prop}{I:Addr}{fp wr:List Addr}{G:Array GenState->Array GenState->Prop}{n:Nat}{Pv:Nat->Value->Prop}{St:Nat->Shared->Prop}
def IsSetS(P:Program)(w:World)(S:Addr)(l:List Str)(h:Heap):Prop:=h.SetOf (strKind P w) S (fun q=>decide (q∈l)) l.length
theorem IsSetS.at{S:Addr}{l:List Str}{h h':Heap}(x:IsSetS P w S l h)(k:∀ o,h.get? S=some o->h'.get? S=some o):IsSetS P w S l h':=by
 obtain ⟨o,es,ep,t,e,r⟩:=x
 exact ⟨o,es,ep,t,k _ e,r⟩
theorem IsSetS.next{S:Addr}{l:List Str}{x:Str}{h:Heap}(y:h.SetOf (strKind P w) S (fun q=>decide (q∈l)||decide (q=x)) (if decide (x∈l)=true then l.length else l.length+1)):IsSetS P w S (Dw.stp l x) h:=by
 have e1:(fun q=>decide (q∈l)||decide (q=x))=fun q=>decide (q∈Dw.stp l x):=by
  funext q
  unfold Dw.stp
  by_cases hx:x∈l
  ·rw [if_pos hx]
   by_cases hq:q=x
   ·subst hq; simp [hx]
   ·simp [hq]
  ·rw [if_neg hx,Bool.eq_iff_iff]; simp
 have e2:(if decide (x∈l)=true then l.length else l.length+1)=(Dw.stp l x).length:=by
  unfold Dw.stp
  by_cases hx:x∈l
  ·rw [if_pos hx,if_pos (by simpa using hx)]
  ·rw [if_neg hx,if_neg (by simpa using hx),List.length_append]; rfl
 rw [e1,e2] at y
 exact y
theorem zg9:∀ (l acc:List Str),(l.foldl Dw.stp acc).length<=acc.length+l.length
 | [],acc=>Nat.le_refl _
 | x::l,acc=>by
  rw [List.foldl_cons]
  have:=zg9 l (Dw.stp acc x)
  have h2:(Dw.stp acc x).length<=acc.length+1:=by
   unfold Dw.stp
   split
   ·lia
   ·rw [List.length_append]; exact Nat.le_refl _
  rw [List.length_cons]
  lia
theorem zir(W:WalksS P w A.in1 I fp wr G n Pv St)(S:Addr)(hS:S∉fp)(ss:List Str)(hn:ss.length=n)(hv:∀ i v x,Pv i v->ss[i]?=some x->∃ t,v=.str x t)(hb:n+1 < scanBound) :
  ∀ (k i:Nat) (s:Shared),n - i=k->i<=n->St i s->IsSetS P w S (Dw.za0 (ss.take i)) s.heap->(∀ s',Moved (S::wr) G s s'->IsSetS P w S (Dw.za0 ss) s'.heap->R (.ok (.ret .none)) s')->
   codeAny (model P w) A (.builtin "set.update.loop" ⟨[.ref S,.ref I],[]⟩) R s:=by
 have nw:S∉wr:=fun z=>hS (W.sub _ z)
 have up:∀ b∈wr,b∈S::wr:=fun b z=>.tail _ z
 intro k
 induction k with
 | zero=>
  intro i s hk hi st hs q
  obtain rfl:i=n:=by lia
  refine codeAny_builtin F.entry_set_update_loop ?_
  rw [Around.under_plainId F.plain_set_update_loop _]
  refine wpAny_bind (m:=pyNext (.ref I)) (W.done s _ _ st fun s' mv=>wpAny_pure (q s' (mv.mono up) ?_))
  rw [List.take_of_length_le (by lia)] at hs
  exact hs.at fun o e=>mv.heap S o nw e
 | succ k ih=>
  intro i s hk hi st hs q
  have lt:i < n:=by lia
  obtain ⟨x,hx⟩:∃ x,ss[i]?=some x:=⟨_,List.getElem?_eq_getElem (by lia)⟩
  refine codeAny_builtin F.entry_set_update_loop ?_
  rw [Around.under_plainId F.plain_set_update_loop _]
  refine wpAny_bind (m:=pyNext (.ref I)) (W.item i s _ _ lt st fun v s1 pv st1 mv=>?_)
  obtain ⟨t,rfl⟩:=hv i v x pv hx
  have hs1:=hs.at fun o e=>mv.heap S o nw e
  have ky:(strKind P w).is x (.str x t)=true:=by show Value.isStrOf x (.str x t)=true; simp [Value.isStrOf]
  refine wpAny_bind (m:=holding [Value.str x t] (setAdd S (.str x t))) (wpAny_holding ?_)
  unfold setAdd
  refine wpAny_holding (wpAny_bind ((strKind P w).pyHash (k:=x) ky ?_))
  have fl:(Dw.za0 (ss.take i)).length<=i:=by
   have:=zg9 (ss.take i) []
   rw [List.length_take,List.length_nil] at this
   unfold Dw.za0
   lia
  refine wpAny_setAddHashed_of (knd:=strKind P w) (s:={ s1 with toks:=s1.toks+1 }) ky rfl hs1 (by lia) fun h2 sb hs2=>?_
  have hs3:=IsSetS.next hs2
  rw [<-Dw.zci hx] at hs3
  refine wpAny_pure ⟨plainId_quiet F.plain_set_update_loop _,ih (i+1) _ (by lia) lt (W.frame _ s1 _ _ st1 (Nat.le_succ _) fun b z o e=>(sb.2 b (fun y=>hS (y▸z))).trans e) hs3 fun s2 mv2=>q s2 (Moved.trans W.gtrans ((mv.mono up).then_heap (Nat.le_succ _) fun b o z e=>(sb.2 b (fun y=>z (y▸.head _))).trans e) mv2)⟩
end
section
variable {P:Program}{w:World}{A:Around}{E:Value->Shared->Prop}{s:Shared}
def set0(led:Bool):Obj:={ cls:=.type "set",dict:=none,data:=.set #[] 0 (.fresh 0 0 led) }
set_option maxHeartbeats 3200000 in
theorem zfA{l:Addr}{its:Array Value}{ss:List Str}{Q:Value->Shared->Prop}(hh:A.handled=none)(hl:s.heap.IsList l its)(hn:ss.length=its.size)(hv:∀ (i:Nat) v x,its[i]?=some v->ss[i]?=some x->∃ t,v=.str x t)(hb:its.size+1 < scanBound)
  (q:∀ (h':Heap) (tk:Nat),IsSetS P w s.heap.objs.size (Dw.za0 ss) h'->(∀ b o,b < s.heap.objs.size->s.heap.get? b=some o->h'.get? b=some o)->Q (.ref s.heap.objs.size) { s with heap:=h',toks:=tk }) :
  wpAny (model P w) A (call (.type "set") [.ref l]) Q E s:=by
 have a0:=F.called_set.mro
 obtain ⟨mc,mt,a0⟩:=a0
 have a1:=F.called_set.made
 have a2:=F.called_set.sub
 refine wpAny_call (codeAny_of_tree (show wpAny _ _ (callAny (.type "set") _) _ _ _ from wpAny_pure ⟨Code.quiet_builtin _ (by decide +kernel),codeAny_builtin F.entry_type_call ?_⟩))
 rw [Around.under_plain (weight_type_call_type "set" [Value.ref l] []) rfl]
 have a3:=F.called_set.notType
 have a4:=F.called_set.canCreate
 have a5:=F.typeCall_set_1 (.ref l)
 repeat (any_goals (first | wp_step | assumption))
 refine codeAny_mono (code_set_new_1 (.ref l) (E:=E) (Q₁:=fun v s1=>∃ led:Bool,v=.ref s.heap.objs.size/\s1={ s with heap:=s.heap.push (set0 led) }) fun led=>⟨led,rfl,rfl⟩) fun r s1 hr=>?_
 cases r with
 | error e=>exact hr
 | ok fl=>
  cases fl with
  | ret v=>
   obtain ⟨led,rfl,rfl⟩:=hr
   have g0:(s.heap.push (set0 led)).get? s.heap.objs.size=some (set0 led):=Heap.get?_push_size _ rfl
   have ty:Shared.TypeIs { s with heap:=s.heap.push (set0 led) } (.ref s.heap.objs.size) "set":=⟨_,g0,rfl⟩
   have b1:=F.called_set.init.lookup
   have b2:=F.called_set.init.bind (.ref s.heap.objs.size)
   repeat (any_goals (first | wp_step | assumption))
   refine codeAny_mono (codeAny_call_builtin (R:=wants (fun r s2=>r=.none/\∃ h' tk,s2={ s with heap:=h',toks:=tk }/\IsSetS P w s.heap.objs.size (Dw.za0 ss) h'/\(∀ b o,b < s.heap.objs.size->s.heap.get? b=some o->h'.get? b=some o)) E) F.called_set.init.plain F.entry_set_init (check_set_init_1 ty ?_)) fun r2 s2 hr2=>?_
   ·obtain ⟨⟨c1,c2,c3,c4⟩,ho,hc,nl,hd⟩:=hl
    dsimp only at hc hd
    subst hc hd
    have g1:(s.heap.push (set0 led)).get? l=some { cls:=.type "list",dict:=c2,data:=.seq its nl,slots:=c4 }:=Heap.get?_push_of_some _ ho
    have d1:=F.sub_list_set
    have d2:=F.sub_list_frozenset
    have d3:(Value.type "list" == Value.type "dict")=false:=by decide
    have il:(s.heap.push (set0 led)).IsList l its:=⟨_,g1,rfl,nl,rfl⟩
    unfold Builtin.«set.__init__»
    unfold noKeywords Builtin.Frozenset.updateFrom
    generalize hPI:pyIter=PI
    wp_walk
    subst hPI
    refine wpAny_pyIter_list il (wpAny_bind (wpAny_runValue ?_))
    have lS:l < s.heap.objs.size:=Heap.lt_size ho
    have ne:l≠(s.heap.push (set0 led)).objs.size:=by rw [Heap.size_push]; exact Nat.ne_of_lt (Nat.lt_succ_of_lt lS)
    have nS:s.heap.objs.size∉[(s.heap.push (set0 led)).objs.size,l]:=by
     rw [Heap.size_push]
     intro z
     rcases List.mem_cons.mp z with z | z
     ·exact absurd z (Nat.ne_of_lt (Nat.lt_succ_self _))
     ·exact absurd (List.mem_singleton.mp z) (Nat.ne_of_gt lS)
    refine zir ((Walks.list (show A.in1.in1.in1.handled=none by simp [hh]) _ l ne its).toS) s.heap.objs.size nS ss hn (fun i v x hv' hx=>hv i v x hv' hx) hb (its.size - 0) 0 _ (by lia) (Nat.zero_le _) ⟨⟨_,Heap.get?_push_size _ rfl,rfl,rfl⟩,il.push _⟩ ?st ?fin
    case st=>exact (setObjOf_fresh (knd:=strKind P w) led).setOf (Heap.get?_push_of_some _ g0) (by unfold scanBound; lia)
    case fin=>
     intro s' mv hs'
     obtain ⟨h',g',d',tk',os'⟩:=s'
     obtain rfl:g'=s.gens:=mv.gens
     obtain rfl:d'=s.drawn:=mv.drawn
     obtain rfl:os'=s.os:=mv.os
     refine wpAny_pure (wpAny_pure ⟨rfl,h',tk',rfl,hs',fun b o z e=>mv.heap b o (fun y=>?_) (Heap.get?_push_of_some _ (Heap.get?_push_of_some _ e))⟩)
     rw [Heap.size_push] at y
     rcases List.mem_cons.mp y with y | y
     ·exact absurd y (Nat.ne_of_lt z)
     ·exact absurd (List.mem_singleton.mp y) (Nat.ne_of_lt (Nat.lt_succ_of_lt z))
   ·cases r2 with
    | error e=>exact hr2
    | ok f2=>
     cases f2 with
     | ret r=>
      obtain ⟨rfl,h',tk,rfl,y1,y2⟩:=hr2
      repeat (any_goals (first | wp_step | assumption))
      exact q _ _ y1 y2
     | _=>exact hr2.elim
  | _=>exact hr.elim
end
end L2
namespace L2
open PySem PySem.Spec PyProof.Rows
section
variable {X:Cx}
def setS(X:Cx)(a:Addr)(l:List Str):HO:=.ext (IsSetS X.prog X.w a l)
theorem ziA(hc:X.calm=true):CallR X (.type "set") (fun xs H Q=>∃ (a:Addr) (ss:List Str),xs=[V.ref a]/\SqL X.K H a (ss.map V.str)/\ss.length < 1000/\∀ l,H l=none->Q (.ref l) (upd H l (setS X l (Dw.za0 ss)))):=by
 intro pins s σ H xs us Q I rv h
 obtain ⟨a,ss,rfl,hq,hl,q⟩:=h
 obtain ⟨u,rfl,ru⟩:=rv.one
 cases ru
 obtain ⟨its,r,p,hz⟩:=I.list hq
 have hlen:=r.length
 rw [List.length_map] at hlen
 refine zfA (ss:=ss) (I.ok.hd hc) p.isList (by rw [List.size_toArray]; exact hlen) (fun i v x hv hx=>?_) (by rw [List.size_toArray]; unfold scanBound; lia) fun h' tk hs k=>?_
 ·obtain ⟨u,hu,ru⟩:=r.get (i:=i) (x:=V.str x) (by rw [List.getElem?_map,hx]; rfl)
  have e:v=u:=by
   rw [List.getElem?_toArray,hu] at hv
   exact (Option.some.inj hv).symm
  rw [e]
  exact ru
 ·have new:ObjOk X.prog X.w (upd H s.heap.objs.size (setS X s.heap.objs.size (Dw.za0 ss))) h' s.heap.objs.size (setS X s.heap.objs.size (Dw.za0 ss)):=⟨hs,by obtain ⟨o,_,_,_,e,_⟩:=hs; exact ⟨o,e⟩,fun h1 h2 x k=>x.at k⟩
  exact ⟨.ref s.heap.objs.size,_,I.laid (a:=s.heap.objs.size) (t':=tk) (fun b o e=>k b o (Heap.lt_size e) e) (Nat.le_refl _) new,rfl,q _ (I.hok.fresh (Nat.le_refl _))⟩
theorem ziD:CallR X (.builtin "len") (fun xs H Q=>∃ (a:Addr) (l:List Str),xs=[V.ref a]/\H a=some (setS X a l)/\Q (.int l.length) H):=by
 intro pins s σ H xs us Q I rv h
 obtain ⟨a,l,rfl,ha,q⟩:=h
 obtain ⟨u,rfl,ru⟩:=rv.one
 cases ru
 obtain ⟨hs,_,_⟩:=(show ObjOk X.prog X.w H s.heap a (setS X a l) from I.hok a _ ha)
 obtain ⟨o,es,ep,t,e,ex,d,_,_,b,f,n⟩:=hs
 refine call_len_set e ex d f (by unfold scanBound at b; lia) ?_
 rw [n]
 exact ⟨.int l.length,H,I.tok _,⟨_,rfl⟩,q⟩
end
end L2
namespace L2
open PySem PySem.Spec PyProof.Rows
open PySem.SeqAt
open PySem.AutoSeq1 (wpAny_loadPart')
open PySem.MeetsSeq PySem.MeetsSeq2 PySem.MeetsSeq3
theorem zfM:∀ {vs:List Value} {ns:List Int},IntsAre vs ns->∀ {i:Nat} {x:Int},ns[i]?=some x->∃ t,vs[i]?=some (.int x t)
 | _,_,.nil,i,x,h=>by simp at h
 | _,_,.cons a t r,0,x,h=>by
  obtain rfl:a=x:=by simpa using h
  exact ⟨t,rfl⟩
 | _,_,.cons a t r,i+1,x,h=>by
  obtain ⟨t',e⟩:=zfM r (i:=i) (x:=x) (by simpa using h)
  exact ⟨t',by simpa using e⟩
theorem zjn{ns ms:List Int}{i:Nat}{x y:Int}(hx:ns[i]?=some x)(hy:ms[i]?=some y):HT.lexLt (ns.drop i) (ms.drop i)=if x=y then HT.lexLt (ns.drop (i+1)) (ms.drop (i+1)) else decide (x < y):=by
 obtain ⟨h1,e1⟩:=List.getElem?_eq_some_iff.mp hx
 obtain ⟨h2,e2⟩:=List.getElem?_eq_some_iff.mp hy
 rw [List.drop_eq_getElem_cons h1,List.drop_eq_getElem_cons h2,e1,e2]
 rfl
theorem zhZ{ns ms:List Int}{i:Nat}(h1:i<=ns.length)(h2:i<=ms.length)(h:ns.length<=i∨ms.length<=i):HT.lexLt (ns.drop i) (ms.drop i)=decide (ns.length < ms.length):=by
 by_cases ha:ns.length<=i
 ·rw [List.drop_of_length_le ha]
  by_cases hb:ms.length<=i
  ·rw [List.drop_of_length_le hb,decide_eq_false (by lia)]
   rfl
  ·rw [List.drop_eq_getElem_cons (by lia),decide_eq_true (by lia)]
   rfl
 ·rw [List.drop_eq_getElem_cons (by lia),List.drop_of_length_le (show ms.length<=i by lia),decide_eq_false (by lia)]
  rfl
theorem zji(p q:Addr)(us vs:Array Value)(n1 n2:Nat)(d1 d2:Option Addr)(z1 z2:Array (Option Value))(ns ms:List Int)(hu:IntsAre us.toList ns)(hv:IntsAre vs.toList ms):∀ (k i:Nat),ns.length - i=k->i<=ns.length->i<=ms.length->
  Meets (Builtin.«list.__eq__.loop» ⟨[.ref p,.ref q,rawInt i,rawInt 0],[]⟩) (fun A R s=>
   s.heap.get? p=some { cls:=.type "list",dict:=d1,data:=.seq us n1,slots:=z1 }/\s.heap.get? q=some { cls:=.type "list",dict:=d2,data:=.seq vs n2,slots:=z2 }/\R (.ok (.ret (.bool (HT.lexLt (ns.drop i) (ms.drop i))))) s):=by
 have su:us.size=ns.length:=by rw [<-hu.length]; simp
 have sv:vs.size=ms.length:=by rw [<-hv.length]; simp
 intro k
 induction k with
 | zero=>
  intro i hk h1 h2 prog w A R s h
  obtain ⟨hp,g,d,tk,os⟩:=s
  obtain ⟨hl,hb,hR⟩:=h
  rw [zhZ h1 h2 (.inl (by lia))] at hR
  wp_walk using wpAny_loadPart' hl,wpAny_loadPart' hb
  have e1:us[((i:Nat):Int).toNat]?=none:=by simp; lia
  rw [e1]
  wp_walk using wpAny_loadPart' hl,wpAny_loadPart' hb
  show R (.ok (.ret (.bool (decide (us.size < vs.size))))) _
  rw [su,sv]
  exact hR
 | succ k ih=>
  intro i hk h1 h2 prog w A R s h
  obtain ⟨hp,g,d,tk,os⟩:=s
  obtain ⟨hl,hb,hR⟩:=h
  obtain ⟨x,hx⟩:∃ x,ns[i]?=some x:=⟨_,List.getElem?_eq_getElem (by lia)⟩
  obtain ⟨t,ex⟩:=zfM hu hx
  have e1:us[((i:Nat):Int).toNat]?=some (.int x t):=by rw [Int.toNat_natCast,<-Array.getElem?_toList]; exact ex
  by_cases hm:ms.length<=i
  ·rw [zhZ h1 h2 (.inr hm)] at hR
   have e2:vs[((i:Nat):Int).toNat]?=none:=by simp; lia
   wp_walk using wpAny_loadPart' hl,wpAny_loadPart' hb
   rw [e1,e2]
   wp_walk using wpAny_loadPart' hl,wpAny_loadPart' hb
   show R (.ok (.ret (.bool (decide (us.size < vs.size))))) _
   rw [su,sv]
   exact hR
  ·obtain ⟨y,hy⟩:∃ y,ms[i]?=some y:=⟨_,List.getElem?_eq_getElem (by lia)⟩
   obtain ⟨t2,ey⟩:=zfM hv hy
   have e2:vs[((i:Nat):Int).toNat]?=some (.int y t2):=by rw [Int.toNat_natCast,<-Array.getElem?_toList]; exact ey
   rw [zjn hx hy] at hR
   wp_walk using wpAny_loadPart' hl,wpAny_loadPart' hb
   rw [e1,e2]
   obtain ⟨e,he,hiff⟩:=HT.eqAt_int A.in1 ⟨hp,g,d,tk,os⟩ x t y t2
   refine wpAny_bind (he prog w _ _ ?_)
   cases e with
   | true=>
    rw [if_pos (hiff.mp rfl)] at hR
    wp_walk
    rw [show ((i:Int)+1)=((i+1:Nat):Int) from rfl]
    exact ⟨plainId_quiet plain_eq_loop _,codeAny_builtin entry_eq_loop (by
     rw [Around.under_plainId plain_eq_loop _]
     exact ih (i+1) (by lia) (by lia) (by lia) prog w A R _ ⟨hl,hb,hR⟩)⟩
   | false=>
    rw [if_neg (fun q=>absurd (hiff.mpr q) Bool.false_ne_true)] at hR
    have hri:=HT.rcLt_int A.in1 ⟨hp,g,d,tk,os⟩ x t y t2 prog w
    wp_walk using wpAny_loadPart' hl,wpAny_loadPart' hb
    rw [e1,e2]
    wp_walk using hri
    exact hR
theorem zjm(p q:Addr)(us vs:Array Value)(n1 n2:Nat)(d1 d2:Option Addr)(z1 z2:Array (Option Value))(ns ms:List Int)(hu:IntsAre us.toList ns)(hv:IntsAre vs.toList ms):Meets (Builtin.«list.__lt__» ⟨[.ref p,.ref q],[]⟩) (fun A R s=>
   s.heap.get? p=some { cls:=.type "list",dict:=d1,data:=.seq us n1,slots:=z1 }/\s.heap.get? q=some { cls:=.type "list",dict:=d2,data:=.seq vs n2,slots:=z2 }/\R (.ok (.ret (.bool (HT.lexLt ns ms)))) s):=by
 intro prog w A R s h
 obtain ⟨hp,g,d,tk,os⟩:=s
 obtain ⟨hl,hb,hR⟩:=h
 have f3:=AutoSeq1.sub_list_list
 wp_walk using wpAny_loadPart' hl,wpAny_loadPart' hb
 exact ⟨plainId_quiet plain_eq_loop _,codeAny_builtin entry_eq_loop (by
  rw [Around.under_plainId plain_eq_loop _]
  exact zji p q us vs n1 n2 d1 d2 z1 z2 ns ms hu hv _ 0 rfl (Nat.zero_le _) (Nat.zero_le _) prog w A R _ ⟨hl,hb,hR⟩)⟩
section
variable {prog:Program}{w:World}{A:Around}{E:Value->Shared->Prop}{s:Shared}
theorem zjj{p q:Addr}{us vs:Array Value}{ns ms:List Int}{Q:Value->Shared->Prop}(hl:s.heap.IsList p us)(hb:s.heap.IsList q vs)(hi:IntsAre us.toList ns)(hj:IntsAre vs.toList ms)(hu:A.units < cLine)
  (h:Q (.bool (HT.lexLt ns ms)) s):wpAny (model prog w) A (richCompare .Lt (.ref p) (.ref q)) Q E s:=by
 obtain ⟨⟨c1,d1,dt1,z1⟩,ho,hc,n1,hd⟩:=id hl
 obtain ⟨⟨c2,d2,dt2,z2⟩,ho2,hc2,n2,hd2⟩:=id hb
 simp only at hc hd hc2 hd2
 subst hc hd hc2 hd2
 exact richCompare_meets_room (op:=.Lt) ⟨_,ho,rfl⟩ ⟨_,ho2,rfl⟩ F.slot_list_lt F.entry_list_lt (F.args_list_lt_2 _ _) (zjm p q us vs n1 n2 d1 d2 z1 z2 ns ms hi hj) ⟨ho,ho2,show Value.bool (HT.lexLt ns ms)≠.notImplemented/\Q (.bool (HT.lexLt ns ms)) s from ⟨(fun x=>nomatch x),h⟩⟩ hu
end
section
variable {X:Cx}
def rLtL(K:PySem.W.Frag):R2:=fun x y H Q=>∃ a b ns ms,x=.ref a/\y=.ref b/\SqL K H a (ns.map V.int)/\SqL K H b (ms.map V.int)/\Q (.bl (HT.lexLt ns ms)) H
theorem zk2(hu:X.A.units < cLine):OpR X (compareOp .Lt) (rLtL X.K):=by
 intro pins s σ H x y v u Q I rx ry h
 obtain ⟨a,b,ns,ms,rfl,rfl,ha,hb,q⟩:=h
 cases rx
 cases ry
 obtain ⟨its,r1,p1,_⟩:=I.list ha
 obtain ⟨its2,r2,p2,_⟩:=I.list hb
 have i1:IntsAre its.toArray.toList ns:=ze6 r1
 have i2:IntsAre its2.toArray.toList ms:=ze6 r2
 exact zjj p1.isList p2.isList i1 i2 hu ⟨.bl (HT.lexLt ns ms),H,I,rfl,q⟩
end
end L2
namespace L2
open PySem PySem.Spec PyProof.Rows
section
variable {P:Program}{w:World}{A:Around}{R:Result->Shared->Prop}{I:Addr}{fp wr:List Addr}{G:Array GenState->Array GenState->Prop}{n:Nat}{Pv:Nat->Value->Prop}{St:Nat->Shared->Prop}
def two(v:Value)(c:Nat):Obj:={ cls:=.type "list",dict:=none,data:=.seq #[v,v] c,slots:=#[] }
end
section
variable {X:Cx}
def zlb(rs:List (List Int)):Nat:=argBest (fun i j=>HT.lexLt (rs.getD i []) (rs.getD j [])) (rs.length - 1)
end
end L2
namespace L2
open PySem PySem.Spec PyProof.Rows
abbrev lc2(elt t1 i1 t2 i2:Expr)(scope:Scope)(pos:Pos):Expr:=.ListComp elt [⟨t1,i1,[],0⟩,⟨t2,i2,[],0⟩] scope pos
section
variable {prog:Program}{w:World}{A:Around}{R:Result->Shared->Prop}{s:Shared}{elt t1 i1 t2 i2:Expr}{scope:Scope}{pos:Pos}{it acc:Value}{env:Env}
theorem zkv:compTurn (lc2 elt t1 i1 t2 i2 scope pos) 1 it acc env=(do
  standAt i2.pos
  let r <-pyNext it
  match r with
  | none=>pure (.done .next)
  | some v=>do
   letOwnedTupleGo t2 it v
   assign t2 env v
   (eval elt env >>= fun x=>call (.builtin "list.append") [acc,x] >>= fun _=>pure ()) >>= fun _=>again (.compLoop (lc2 elt t1 i1 t2 i2 scope pos) 1 it acc env)):=by rfl
theorem ziP:compTurn (lc2 elt t1 i1 t2 i2 scope pos) 0 it acc env=(do
  standAt i1.pos
  let r <-pyNext it
  match r with
  | none=>pure (.done .next)
  | some v=>do
   letOwnedTupleGo t1 it v
   assign t1 env v
   let x <-eval i2 env
   standAt i2.pos
   let x <-foldedSetIterable i2 env x
   let y <-holding [x] (pyIter x)
   let _ <-runOwn (.compStart (lc2 elt t1 i1 t2 i2 scope pos) 1 y acc env) env
   again (.compLoop (lc2 elt t1 i1 t2 i2 scope pos) 0 it acc env)):=by rfl
theorem zl9(I:Nat->Shared->Prop)
  (turn:∀ n s,I n s->wpAny (model prog w) A (pyNext it) (fun r s1=>match r with
   | none=>R (.ok .next) s1
   | some v=>wpAny (model prog w) A (letOwnedTupleGo t2 it v) (fun _ s1'=>wpAny (model prog w) A (assign t2 env v) (fun _ s2=>wpAny (model prog w) A (eval elt env) (fun x s4=>
     wpAny (model prog w) A (call (.builtin "list.append") [acc,x]) (fun _ s5=>∃ m,m < n/\I m s5) (fun _ _=>False) s4) (fun _ _=>False) s2) (fun _ _=>False) s1') (fun _ _=>False) s1) (fun _ _=>False) s)
  (n:Nat) (h:I n s):codeAny (model prog w) A (.compLoop (lc2 elt t1 i1 t2 i2 scope pos) 1 it acc env) R s:=by
 refine codeAny_loop rfl I (fun n s hI=>?_) n h
 show wpAny _ A ((compTurn (lc2 elt t1 i1 t2 i2 scope pos) 1 it acc env).onRaise (fun x=>do noteFrame x env; theTreesLotGoes x)) _ _ s
 refine wpAny_noted ?_
 rw [zkv]
 refine wpAny_bind (wpAny_standAt (wpAny_bind (wpAny_mono (turn n s hI) (fun r s1 h1=>?_) fun _ _ h'=>h'.elim)))
 cases r with
 | none=>exact wpAny_pure h1
 | some v=>
  refine wpAny_bind (wpAny_mono h1 (fun _ s1' h1'=>?_) fun _ _ h'=>h'.elim)
  refine wpAny_bind (wpAny_mono h1' (fun _ s2 h2=>?_) fun _ _ h'=>h'.elim)
  exact wpAny_bind (wpAny_bind (wpAny_mono h2 (fun x s4 h4=>wpAny_bind (wpAny_mono h4 (fun _ s5 h5=>wpAny_pure (wpAny_pure ⟨rfl,h5⟩)) fun _ _ h'=>h'.elim)) fun _ _ h'=>h'.elim))
theorem ziT(h0:codeAny (model prog w) A (.compLoop (lc2 elt t1 i1 t2 i2 scope pos) 1 it acc env) R s)
  (h:wpAny (model prog w) A (pyIter it) (fun it' s'=>codeAny (model prog w) A (.compLoop (lc2 elt t1 i1 t2 i2 scope pos) 1 it' acc env) R s') (notedBy (model prog w) A env fun x s'=>R (.error x) s') s) :
  codeAny (model prog w) A (.compStart (lc2 elt t1 i1 t2 i2 scope pos) 1 it acc env) R s:=by
 refine codeAny_of_tree ?_
 show wpAny _ _ ((compStart (lc2 elt t1 i1 t2 i2 scope pos) 1 it acc env).onRaise (fun x=>do noteFrame x env; standAt theWindowsPlace)) _ _ s
 refine wpAny_notedAt ?_
 unfold compStart
 show wpAny _ _ (ask >>= _) _ _ s
 refine wpAny_bind (wpAny_askSetting (wpAny_ite ?_))
 split
 ·first
   | exact wpAny_bind (wpAny_pure (wpAny_pure (And.intro rfl h0)))
   | exact wpAny_pure (And.intro rfl h0)
 ·refine wpAny_bind (wpAny_rule ?_)
  show wpAny _ _ (standAt i2.pos >>= _) _ _ s
  exact wpAny_bind (wpAny_standAt (wpAny_bind (wpAny_mono h (fun it' s' h'=>wpAny_pure (And.intro rfl h')) fun _ _ x=>x)))
theorem zjk(hs2:∀ x,foldedSetIterable i2 env x=pure x)(I:Nat->Shared->Prop)
  (turn:∀ n s,I n s->wpAny (model prog w) A (pyNext it) (fun r s1=>match r with
   | none=>R (.ok .next) s1
   | some v=>wpAny (model prog w) A (letOwnedTupleGo t1 it v) (fun _ s1'=>wpAny (model prog w) A (assign t1 env v) (fun _ s2=>wpAny (model prog w) A (eval i2 env) (fun x s3=>
     wpAny (model prog w) A (pyIter x) (fun y s4=>codeAny (model prog w) A (.compStart (lc2 elt t1 i1 t2 i2 scope pos) 1 y acc env) (fun r s5=>match r with | .ok _=>∃ m,m < n/\I m s5 | .error _=>False) s4) (fun _ _=>False) s3) (fun _ _=>False) s2) (fun _ _=>False) s1') (fun _ _=>False) s1) (fun _ _=>False) s)
  (n:Nat) (h:I n s):codeAny (model prog w) A (.compLoop (lc2 elt t1 i1 t2 i2 scope pos) 0 it acc env) R s:=by
 refine codeAny_loop rfl I (fun n s hI=>?_) n h
 show wpAny _ A ((compTurn (lc2 elt t1 i1 t2 i2 scope pos) 0 it acc env).onRaise (fun x=>do noteFrame x env; theTreesLotGoes x)) _ _ s
 refine wpAny_noted ?_
 rw [ziP]
 refine wpAny_bind (wpAny_standAt (wpAny_bind (wpAny_mono (turn n s hI) (fun r s1 h1=>?_) fun _ _ h'=>h'.elim)))
 cases r with
 | none=>exact wpAny_pure h1
 | some v=>
  refine wpAny_bind (wpAny_mono h1 (fun _ s1' h1'=>?_) fun _ _ h'=>h'.elim)
  refine wpAny_bind (wpAny_mono h1' (fun _ s2 h2=>?_) fun _ _ h'=>h'.elim)
  refine wpAny_bind (wpAny_mono h2 (fun x s3 h3=>?_) fun _ _ h'=>h'.elim)
  refine wpAny_bind (wpAny_standAt ?_)
  rw [hs2 x]
  refine wpAny_bind (wpAny_pure (wpAny_bind (wpAny_holding (wpAny_mono h3 (fun y s4 h4=>?_) fun _ _ h'=>h'.elim))))
  refine wpAny_bind (wpAny_runOwn (h:=none) (codeAny_mono h4 fun r s5 h5=>?_))
  cases r with
  | ok f=>exact wpAny_pure ⟨rfl,h5⟩
  | error e=>exact h5.elim
end
end L2
namespace L2
open PySem PySem.Spec PyProof.Rows
def inW(J:It)(g:TG)(te:TE)(D:Addr)(sg:St)(K:St->Hp->Prop)(H:Hp):Prop:=
 ∃ W:Nat->Nat->St->Hp->Prop,(∃ m,W 0 m sg H)/\∀ i m sg1 H1,W i m sg1 H1->(J.stop i H1/\K sg1 H1)∨(J.go i H1/\∀ x H',J.yld i H1 x H'->g x sg1 H' fun s2 H2=>
  te s2 H2 fun y H4=>∃ xs,H4 D=some (.lst xs)/\xs.length < sizeLine/\∃ m',m' < m/\W (i+1) m' s2 (upd H4 D (.lst (xs++[y]))))
section
variable {X:Cx}{t1 i1 t2 i2 elt:Expr}{scope:Scope}{pos:Pos}{g2:TG}{te:TE}
theorem zjq(hc:X.calm=true)(hg:PG X t2 g2)(he:PE X elt te)(hx:X.xe=fun _ _=>False){pins:List (Addr × Obj)}{sg:St}{H:Hp}{s:Shared}{it:Addr}{fp:List Addr}{tn:Nat->Heap->Prop}{J:It}{D:Addr}{K:St->Hp->Prop}
  (I:Inv X pins sg H s) (T:Turn X.prog X.w X.K t2 J fp it tn) (st:tn 0 s.heap) (f:∀ b∈fp,FpOk X pins H b) (hw:inW J g2 te D sg K H) :
  codeAny (model X.prog X.w) X.A (.compLoop (lc2 elt t1 i1 t2 i2 scope pos) 1 (.ref it) (.ref D) X.env) (fun r s'=>match r with | .ok _=>∃ sg' H',Inv X pins sg' H' s'/\K sg' H' | .error _=>False) s:=by
 obtain ⟨W,⟨mm,w0⟩,turn⟩:=hw
 have stat:∀ {H':Hp},(∀ b∈fp,H' b=none)->∀ b∈fp,FpOk X pins H' b:=fun {H'} hn b hb=>⟨hn b hb,(f b hb).2⟩
 refine zl9 (fun n s'=>∃ i sg' H',Inv X pins sg' H' s'/\tn i s'.heap/\(∀ b∈fp,H' b=none)/\W i n sg' H') ?_ mm ⟨0,sg,H,I,st,fun b hb=>(f b hb).1,w0⟩
 rintro n s5 ⟨i,sg5,H5,I5,st5,fr5,w5⟩
 rcases turn i n sg5 H5 w5 with ⟨stop,k⟩ | ⟨go,step⟩
 ·refine thn (T.done X rfl rfl rfl hc i pins s5 sg5 H5 (fun _ _=>False) I5 (stat fr5) st5 stop) fun r s6 h_=>?_; obtain ⟨hr,I6⟩:=h_
  subst hr
  exact ⟨sg5,H5,I6,k⟩
 ·refine thn (T.item X rfl rfl rfl hc i pins s5 sg5 H5 (fun _ _=>False) I5 (stat fr5) st5 go) fun r s6 h_=>?_; obtain ⟨u,hr,h6⟩:=h_
  subst hr
  dsimp only
  refine thn h6 fun _ s7 h_=>?_; obtain ⟨x,H7,I7,r7,y7,st7,fr7⟩:=h_
  have I7':=I7.pinned (stat fr7) (T.obj _ _ st7)
  have a7:=hg _ s7 sg5 H7 x u _ I7' r7 (step x H7 y7)
  rw [hx] at a7
  refine thn a7 fun _ s8 h_=>?_; obtain ⟨sg8,H8,I8,q8⟩:=h_
  have a8:=he _ s8 sg8 H8 _ I8 q8
  rw [hx] at a8
  refine thn a8 fun v s10 h_=>?_; obtain ⟨y,H10,I10,r10,xs,hD',hz,m',hm,w10⟩:=h_
  have a10:=zb8 (X:=X) _ s10 sg8 H10 (.ref D) [y] (.ref D) [v] (fun _ H'=>W (i+1) m' sg8 H') I10 rfl (.cons r10 .nil) ⟨D,xs,y,rfl,rfl,hD',hz,w10⟩
  rw [hx] at a10
  refine thn a10 fun _ s11 ⟨_,H11,I11,_,w11⟩=>⟨m',hm,i+1,sg8,H11,I11.unpinned,T.keep _ _ _ st7 fun b hb o e=>(I11.pin (b,o) (List.mem_append_right _ (List.mem_append_right _ (zau hb e)))).1,fun b hb=>?_,w11⟩
  obtain ⟨o,e,d⟩:=T.obj _ _ st7 b hb
  exact (I11.pin (b,o) (List.mem_append_right _ (List.mem_append_right _ (zau hb e)))).2.1
end
end L2
namespace L2
open PySem PySem.Spec PyProof.Rows
def lcW2(J:It)(g1:TG)(wi2:TI)(g2:TG)(te:TE)(sg':St)(Q:VK)(H1:Hp):Prop:=
 ∀ D,H1 D=none->∃ W:Nat->Nat->Hp->Prop,(∃ m,W 0 m (upd H1 D (.lst [])))/\∀ i m H,W i m H->
  (J.stop i H/\Q (.ref D) H)∨(J.go i H/\∀ x H',J.yld i H x H'->g1 x sg' H' fun s2 H2=>wi2 s2 H2 fun J2 H3=>
   inW J2 g2 te D s2 (fun sg3 H4=>(∀ (j:Nat) (v:V),sg'[j]?=some (some v)->sg3[j]?=some (some v))/\∃ m',m' < m/\W (i+1) m' H4) H3)
section
variable {X:Cx}{N:List Str}{scope:Scope}{caps:List (Option Nat)}{t1 i1 t2 i2 elt:Expr}{wi wi2:TI}{g1 g2:TG}{te:TE}{pos:Pos}
theorem zi1{pins:List (Addr × Obj)}{sg:St}{H:Hp}{s2:Shared}{cl:List (Str × Addr)}{it:Addr}{fp:List Addr}{tn:Nat->Heap->Prop}{J:It}{Q:VK}{E:Value->Shared->Prop}{RR:Value->Addr->Result->Shared->Prop}
  (hc:X.calm=true) (hcap:capOk N X.N scope X.env.scope caps=true) (hkind:scope.kind=.function) (hcell:∀ y∈scope.names,y.2≠.cell)
  (hg:∀ cl C s0 H0 fp,PG (zae X N scope cl C s0 H0 fp) t1 g1) (hi2:∀ cl C s0 H0 fp,PI (zae X N scope cl C s0 H0 fp) t2 i2 wi2) (hg2:∀ cl C s0 H0 fp,PG (zae X N scope cl C s0 H0 fp) t2 g2) (hs2:∀ env x,foldedSetIterable i2 env x=pure x) (he:∀ cl C s0 H0 fp,PE (zae X N scope cl C s0 H0 fp) elt te)
  (hcl1:∀ p∈cl,X.env.cells.lookup p.1=some p.2) (hcl2:∀ x,(x,NameKind.free)∈scope.names->∃ c,(x,c)∈cl)
  (I2:Inv X pins sg H s2) (T:Turn X.prog X.w X.K t1 J fp it tn) (st2:tn 0 s2.heap) (f2:∀ b∈fp,FpOk X pins H b) (hw:lcW2 J g1 wi2 g2 te (capSt caps sg) Q H)
  (hRR:∀ (D C:Addr) (s':Shared) (H':Hp) (m':Str->Option Value),Inv X pins sg H' s'->s'.heap.Ns C m'->H' C=none->s2.heap.objs.size<=C->(∀ x c,X.env.cells.lookup x=some c->c≠C)->(∀ p∈X.pn++pins,p.1≠C)->C≠X.env.locals->Q (.ref D) H'->RR (.ref D) C (.ok .next) s') :
  wpAny (model X.prog X.w) X.A (newList []) (fun acc s3=>wpAny (model X.prog X.w) X.A (newFunctionEnv scope X.env.globals cl [] X.env.qual none .none (some X.env)) (fun cenv s4=>
   codeAny (model X.prog X.w) X.A (.compStart (lc2 elt t1 i1 t2 i2 scope pos) 0 (.ref it) acc { cenv with scope:=relabel scope X.env }) (RR acc cenv.locals) s4) E s3) E s2:=by
 refine wpAny_newObj_type ?_
 have I3:Inv X pins sg (upd H s2.heap.objs.size (.lst [])) { s2 with heap:=s2.heap.push { cls:=.type "list",dict:=none,data:=.seq ([]:List Value).toArray } }:=
  I2.laid (t':=s2.toks) (fun b u e=>Heap.get?_push_of_some _ e) (Nat.le_refl _) ⟨Nat.zero_le _,[],0,.nil,Heap.get?_push_size _ rfl⟩
 have hfree:H s2.heap.objs.size=none:=I2.hok.fresh (Nat.le_refl _)
 obtain ⟨W,⟨mm,w0⟩,turn⟩:=hw s2.heap.objs.size hfree
 generalize hD:s2.heap.objs.size=D at *
 generalize hs3:({ s2 with heap:=s2.heap.push { cls:=.type "list",dict:=none,data:=.seq ([]:List Value).toArray } }:Shared)=s3 at *
 have hlt3:∀ b o,s2.heap.get? b=some o->s3.heap.get? b=some o:=fun b o e=>by rw [<-hs3]; exact Heap.get?_push_of_some _ e
 have hsz3:s3.heap.objs.size=D+1:=by rw [<-hs3,<-hD]; exact Heap.size_push ..
 have fpD:∀ b∈fp,b < D:=fun b hb=>by
  obtain ⟨o,ho,_⟩:=T.obj 0 _ st2 b hb
  rw [<-hD]; exact Heap.lt_size ho
 have f3:∀ b∈fp,FpOk X pins (upd H D (.lst [])) b:=fun b hb=>⟨by rw [za5 (Nat.ne_of_lt (fpD b hb))]; exact (f2 b hb).1,(f2 b hb).2⟩
 have lt3:∀ b∈fp,b < s3.heap.objs.size:=fun b hb=>by rw [hsz3]; exact Nat.lt_succ_of_lt (fpD b hb)
 have st3:tn 0 s3.heap:=T.keep 0 _ _ st2 fun b _ o e=>hlt3 b o e
 refine wpAny_newFunctionEnv hcell (by intro y hy; simp at hy) (fun h1 hns1 hsb1=>?_) hkind
 try dsimp only at hns1 hsb1 ⊢
 have keep1:∀ b u,s3.heap.get? b=some u->h1.get? b=some u:=fun b u e=>hsb1.extBut b u (Nat.ne_of_lt (Heap.lt_size e)) (Heap.get?_push_of_some _ e)
 have I4:=zcU (N:=N) (tk:=s3.toks+([]:List (Str × Value)).length) hcap hkind hcell I3 hcl1 hcl2 f3 lt3 keep1 hns1
 have loop:codeAny (model X.prog X.w) X.A (.compLoop (lc2 elt t1 i1 t2 i2 scope pos) 0 (.ref it) (.ref D) (compEnvC scope cl s3.heap.objs.size X.env)) (RR (.ref D) s3.heap.objs.size) { s3 with heap:=h1,toks:=s3.toks+([]:List (Str × Value)).length }:=by
  generalize hX':zae X N scope cl s3.heap.objs.size s3 (upd H D (.lst [])) fp=X' at I4
  have eP:X'.prog=X.prog:=by rw [<-hX']; rfl
  have ew:X'.w=X.w:=by rw [<-hX']; rfl
  have eK:X'.K=X.K:=by rw [<-hX']; rfl
  have eA:X'.A=X.A:=by rw [<-hX']; rfl
  have eE:X'.env=compEnvC scope cl s3.heap.objs.size X.env:=by rw [<-hX']; rfl
  have ex:X'.xe=fun _ _=>False:=by rw [<-hX']; rfl
  have ecalm:X'.calm=true:=by rw [<-hX']; exact hc
  have hg':PG X' t1 g1:=by rw [<-hX']; exact hg _ _ _ _ _
  have hg2':PG X' t2 g2:=by rw [<-hX']; exact hg2 _ _ _ _ _
  have hi2':PI X' t2 i2 wi2:=by rw [<-hX']; exact hi2 _ _ _ _ _
  have he':PE X' elt te:=by rw [<-hX']; exact he _ _ _ _ _
  have stat:∀ {H':Hp},(∀ b∈fp,H' b=none)->∀ b∈fp,FpOk X' [] H' b:=fun {H'} hn b hb=>by
   refine ⟨hn b hb,?_,?_,?_,?_,fun p hp=>?_⟩
   ·rw [<-hX']; exact Nat.ne_of_lt (lt3 b hb)
   ·rw [<-hX']
    exact fun z=>(zbg (N:=N) hkind hcell I3 hcl1 hcl2 f3 lt3).exfs b hb z
   ·rw [<-hX']; exact .inl hb
   ·rw [<-hX']
    exact ((zbg (N:=N) hkind hcell I3 hcl1 hcl2 f3 lt3).exf b hb).2
   ·rw [<-hX'] at hp; cases hp
  have out:∀ {sg':St} {H':Hp} {s':Shared},Inv X' [] sg' H' s'->Inv X pins sg H' s':=fun {sg' H' s'} I'=>by
   have hb:=I'.base
   rw [<-hX'] at hb
   have ho:=I'.os
   rw [<-hX'] at ho
   have hk:=I'.hok
   rw [eP,ew] at hk
   exact I3.call' (ch:=fp) ho hb hk I'.bare fun b hb=>⟨(f3 b hb).2.2.2.1,(f3 b hb).2.1,(f3 b hb).2.2.2.2.1,(f3 b hb).2.2.2.2.2⟩
  rw [<-eE,<-eA,<-eP,<-ew]
  refine zjk (hs2 _) (fun n s'=>∃ i H',Inv X' [] (capSt caps sg) H' s'/\tn i s'.heap/\(∀ b∈fp,H' b=none)/\W i n H') ?_ mm
   ⟨0,_,I4,T.keep 0 _ _ st3 fun b _ o e=>keep1 b o e,fun b hb=>(f3 b hb).1,w0⟩
  rintro n s5 ⟨i,H5,I5,st5,fr5,w5⟩
  rcases turn i n H5 w5 with ⟨stop,q⟩ | ⟨go,step⟩
  ·have z:=T.done X' eP ew eK ecalm i [] s5 _ H5 (fun _ _=>False) I5 (stat fr5) st5 stop
   rw [<-eP,<-ew] at z
   refine thn z fun r s6 h_=>?_; obtain ⟨hr,I6⟩:=h_
   subst hr
   obtain ⟨m',hn',_⟩:=I6.loc
   have hfr:=I6.free
   rw [eE] at hn' hfr
   refine hRR D s3.heap.objs.size s6 H5 m' (out I6) hn' hfr (by rw [hsz3]; exact Nat.le_succ _) (fun x c e z=>?_) (fun p hp z=>?_) (fun z=>?_) q
   ·obtain ⟨v,o,ho,_⟩:=I3.cell x c e
    rw [z] at ho
    exact absurd (Heap.lt_size ho) (Nat.lt_irrefl _)
   ·have:=Heap.lt_size (I3.pin p hp).1
    rw [z] at this
    exact absurd this (Nat.lt_irrefl _)
   ·have:=I3.lt
    rw [<-z] at this
    exact absurd this (Nat.lt_irrefl _)
  ·have z:=T.item X' eP ew eK ecalm i [] s5 _ H5 (fun _ _=>False) I5 (stat fr5) st5 go
   rw [<-eP,<-ew] at z
   refine thn z fun r s6 h_=>?_; obtain ⟨u,hr,h6⟩:=h_
   subst hr
   dsimp only
   refine thn h6 fun _ s7 h_=>?_; obtain ⟨x,H7,I7,r7,y7,st7,fr7⟩:=h_
   have I7':=I7.pinned (stat fr7) (T.obj _ _ st7)
   have q7:=step x H7 y7
   have a7:=hg' _ s7 (capSt caps sg) H7 x u _ I7' r7 q7
   rw [ex] at a7
   refine thn a7 fun _ s8 h_=>?_; obtain ⟨sg8,H8,I8,q8⟩:=h_
   have a8:=hi2' _ s8 sg8 H8 _ I8 q8
   rw [ex] at a8
   refine thn a8 fun xv s9 h9=>thn h9 fun yv s10 h_=>?_; obtain ⟨it2,fp2,tn2,J2,H10,e10,I10,T2,st10,f10,hin⟩:=h_
   subst e10
   have again:∀ {sg':St} {H':Hp} {s':Shared} {m':Nat},Inv X' ([]++zd5 fp s7.heap) sg' H' s'->(∀ (j:Nat) (v:V),(capSt caps sg)[j]?=some (some v)->sg'[j]?=some (some v))->m' < n->W (i+1) m' H'->
     ∃ m,m < n/\∃ i H',Inv X' [] (capSt caps sg) H' s'/\tn i s'.heap/\(∀ b∈fp,H' b=none)/\W i m H':=fun {sg' H' s' m'} I' hs hm hw=>by
    refine ⟨m',hm,i+1,H',I'.unpinned.forget (I4.len.trans I'.len.symm) hs,T.keep _ _ _ st7 fun b hb o e=>(I'.pin (b,o) (List.mem_append_right _ (List.mem_append_right _ (zau hb e)))).1,fun b hb=>?_,hw⟩
    obtain ⟨o,e,d⟩:=T.obj _ _ st7 b hb
    exact (I'.pin (b,o) (List.mem_append_right _ (List.mem_append_right _ (zau hb e)))).2.1
   have h0:=codeAny_mono (zjq (t1:=t1) (i1:=i1) (i2:=i2) (scope:=scope) (pos:=pos) ecalm hg2' he' ex I10 T2 st10 f10 hin) (R':=fun r s5=>match r with | .ok _=>∃ m,m < n/\∃ i H',Inv X' [] (capSt caps sg) H' s5/\tn i s5.heap/\(∀ b∈fp,H' b=none)/\W i m H' | .error _=>False) fun r s11 h11=>by
    cases r with
    | ok fl=>
     obtain ⟨sg11,H11,I11,hs11,m',hm,w11⟩:=h11
     exact again I11 hs11 hm w11
    | error e=>exact h11.elim
   exact ziT h0 (T2.self _ _ _ _ _ st10 h0)
 exact codeAny_compStart_list loop (T.self _ _ _ _ _ (T.keep 0 _ _ st3 fun b _ o e=>keep1 b o e) loop)
def tLC2(caps:List (Option Nat))(wi:TI)(g1:TG)(wi2:TI)(g2:TG)(te:TE):TE:=fun sg H Q=>wi sg H fun J H1=>lcW2 J g1 wi2 g2 te (capSt caps sg) Q H1
theorem zmJ(hc:X.calm=true)(hi:PI X t1 i1 wi)(hg:∀ cl C s0 H0 fp,PG (zae X N scope cl C s0 H0 fp) t1 g1)(hi2:∀ cl C s0 H0 fp,PI (zae X N scope cl C s0 H0 fp) t2 i2 wi2)(hg2:∀ cl C s0 H0 fp,PG (zae X N scope cl C s0 H0 fp) t2 g2)(he:∀ cl C s0 H0 fp,PE (zae X N scope cl C s0 H0 fp) elt te)
  (hs2:∀ env x,foldedSetIterable i2 env x=pure x:=by intro _ _; rfl)
  (hcap:capOk N X.N scope X.env.scope caps=true:=by rfl) (hkind:scope.kind=.function:=by rfl) (hcell:scope.names.all (fun p=>p.2 != .cell)=true:=by rfl)
  (hnames:scope.names.all (fun p=>p.2 != .local||scope.names.lookup p.1 == some .local)=true:=by rfl)
  (hfr:scope.names.all (fun p=>p.2 != .free||(X.env.scope.names.lookup p.1 == some .cell||X.env.scope.names.lookup p.1 == some .free))=true:=by rfl)
  (hs:∀ x,foldedSetIterable i1 X.env x=pure x:=by intro _; rfl):PE X (lc2 elt t1 i1 t2 i2 scope pos) (tLC2 caps wi g1 wi2 g2 te):=by
 intro pins s sg H Q I h
 have hcell':∀ y∈scope.names,y.2≠.cell:=fun y hy=>by simpa using List.all_eq_true.mp hcell y hy
 have hnames':∀ x∈scope.names,x.2=.local->scope.names.lookup x.1=some .local:=fun x hx e=>by
  have q:=List.all_eq_true.mp hnames x hx
  rw [e] at q
  simpa using q
 obtain ⟨cl,hclos,hcl1,hcl2⟩:=zaW (scope:=scope) (env:=X.env) (zcx I.ok hfr)
 rw [eval_ListComp]
 refine wpAny_comprehension_free (use:=none) rfl hs hclos hkind hnames' (thn (hi pins s sg H _ I h) fun v s1 h1=>thn h1 fun itv s2 h2=>?_)
 obtain ⟨it,fp,tn,J,H2,e,I2,T,st2,f2,hw⟩:=h2
 subst e
 refine zi1 (RR:=fun acc C=>compPost (model X.prog X.w) X.A X.xe none (EP X pins sg Q) acc C) hc hcap hkind hcell' hg hi2 hg2 hs2 he hcl1 hcl2 I2 T st2 f2 hw ?_
 intro D C s' H' m' I' hn hfree hCs hCc hCp hCl q
 refine ⟨m',hn,fun h' hs'=>⟨.ref D,H',?_,rfl,q⟩⟩
 exact I'.turned (t':=s'.toks) (it:=C) (fun b o hb e=>(hs'.2 b hb).trans e) hfree hCl (.inr (Nat.le_trans I2.sz hCs)) hCc hCp
end
end L2
namespace L2
open PySem
abbrev zc9(h:Heap)(z TI TO a:Addr)(f:Bool):Prop:=
 h.get? z=some { cls:=.type "zip",dict:=none,data:=.fields #[rawInt a,.bool f,.bool false,.ref TI,.ref TO],slots:=#[] }
section
variable {prog:Program}{w:World}{A:Around}{E:Value->Shared->Prop}{s:Shared}
theorem zha{a:Addr}{o:Obj}{Q:Option Obj->Shared->Prop}(ho:s.heap.get? a=some o)(h:Q (some o) s):wpAny (model prog w) A (loadIfAlive a) Q E s:=by
 have h':Q (s.heap.get? a) s:=by rw [ho]; exact h
 exact fun _ _ _=>h'
theorem zg5{z TI TO a:Addr}{f:Bool}{oa:Obj}{Q:Bool->Shared->Prop}(hz:zc9 s.heap z TI TO a f)(ha:s.heap.get? a=some oa)
  (hQ:∀ h',zc9 h' z TI TO a true->Heap.SameBut z s.heap h'->Q false { s with heap:=h' }):wpAny (model prog w) A (Builtin.SmallTypes.ownedTupleIsFree (.ref z)) Q E s:=by
 unfold Builtin.SmallTypes.ownedTupleIsFree
 refine wpAny_bind (wpAny_field hz rfl (x:=rawInt a) rfl ?_)
 show wpAny _ _ (loadIfAlive ((a:Int).toNat) >>= _) _ _ _
 rw [Int.toNat_natCast]
 refine wpAny_bind (zha ha ?_)
 simp only [Option.isNone_some,Bool.false_eq_true,if_false]
 refine wpAny_bind (wpAny_field hz rfl (x:=.bool f) rfl ?_)
 cases f with
 | true=>
  rw [if_neg (show ¬ ((Value.bool true != Value.bool true)=true) from Bool.false_ne_true)]
  exact wpAny_pure (hQ _ hz (Heap.SameBut.refl _ _))
 | false=>
  rw [if_pos (show (Value.bool false != Value.bool true)=true from rfl)]
  exact wpAny_bind (wpAny_setField_rec hz (by simp) fun h3 he3 hs3=>wpAny_pure (hQ h3 he3 hs3))
theorem zeC{z TI TO i1 i2 l1 l2 a:Addr}{f:Bool}{oa:Obj}{k1 k2:Nat}{xs ys:Array Value}{x y:Value}{Q:Value->Shared->Prop}(D:ZipApart z TI TO i1 i2 l1 l2)
  (hz:zc9 s.heap z TI TO a f) (ha:s.heap.get? a=some oa) (hTI:IsPair s.heap TI (.ref i1) (.ref i2))
  (h1:s.heap.IsListIter i1 l1 k1) (h2:s.heap.IsListIter i2 l2 k2) (hl1:s.heap.IsList l1 xs) (hl2:s.heap.IsList l2 ys) (hx:xs[k1]?=some x) (hy:ys[k2]?=some y)
  (hQ:∀ h',zc9 h' z TI TO a true->h'.IsListIter i1 l1 (k1+1)->h'.IsListIter i2 l2 (k2+1)->IsPair h' s.heap.objs.size x y->h'.objs.size=s.heap.objs.size+1->
   (∀ c o,c≠z->c≠i1->c≠i2->s.heap.get? c=some o->h'.get? c=some o)->Q (.ref s.heap.objs.size) { s with heap:=h' }) :
  wpAny (model prog w) A (Builtin.«zip.__next__» ⟨[.ref z],[]⟩) (fun fin s'=>∃ v,fin=.done (.ret v)/\Q v s') E s:=by
 show wpAny _ _ (field (.ref z) 2 >>= _) _ _ _
 refine wpAny_bind (wpAny_field hz rfl (x:=.bool false) rfl ?_)
 show wpAny _ _ (field (.ref z) 3 >>= _) _ _ _
 refine wpAny_bind (wpAny_field hz rfl (x:=.ref TI) rfl ?_)
 refine wpAny_bind (wpAny_seqItems hTI rfl ?_)
 show wpAny _ _ (Builtin.SmallTypes.ownedTupleIsFree (.ref z) >>= _) _ _ _
 refine wpAny_bind (zg5 hz ha fun h1' hz1 hs1=>?_)
 simp only [Bool.false_eq_true,if_false]
 simp only [List.forIn_toArray,List.forIn_cons,List.forIn_nil]
 have hb:(Value.bool false == Value.bool true)=false:=rfl
 rw [hb]
 refine wpAny_bind (wpAny_bind (wpAny_bind (wpAny_holding ?_)))
 show wpAny _ _ (Builtin.SmallTypes.nextOf (.ref i1) >>= _) _ _ _
 refine wpAny_bind (wpAny_nextOf_list_item (h1.extBut hs1.extBut D.i1z) (hl1.extBut hs1.extBut D.l1z) hx fun h2' h12 hs2=>wpAny_pure (wpAny_pure ?_))
 refine wpAny_bind (wpAny_bind (wpAny_holding ?_))
 show wpAny _ _ (Builtin.SmallTypes.nextOf (.ref i2) >>= _) _ _ _
 refine wpAny_bind (wpAny_nextOf_list_item ((h2.extBut hs1.extBut D.i2z).extBut hs2.extBut D.i12.symm) ((hl2.extBut hs1.extBut D.l2z).extBut hs2.extBut D.l2i1) hy fun h3' h23 hs3=>wpAny_pure (wpAny_pure (wpAny_pure ?_)))
 show wpAny _ _ (newTuple [x,y] >>= _) _ _ _
 refine wpAny_bind (wpAny_newTuple ?_)
 have hsz:h3'.objs.size=s.heap.objs.size:=by rw [hs3.1,hs2.1,hs1.1]
 have hz3:zc9 h3' z TI TO a true:=hs3.extBut _ _ D.i2z.symm (hs2.extBut _ _ D.i1z.symm hz1)
 have hk3:∀ c o,c≠z->c≠i1->c≠i2->s.heap.get? c=some o->h3'.get? c=some o:=fun c o c1 c2 c3 e=>
  hs3.extBut _ _ c3 (hs2.extBut _ _ c2 (hs1.extBut _ _ c1 e))
 refine wpAny_pure ⟨_,rfl,?_⟩
 show Q (.ref h3'.objs.size) _
 rw [hsz]
 refine hQ _ (Heap.get?_push_of_some _ hz3) ((h12.extBut hs3.extBut D.i12).at fun o e=>Heap.get?_push_of_some _ e) (h23.at fun o e=>Heap.get?_push_of_some _ e) ?_ (by rw [Heap.size_push,hsz]) fun c o c1 c2 c3 e=>Heap.get?_push_of_some _ (hk3 c o c1 c2 c3 e)
 show Heap.get? _ s.heap.objs.size=_
 rw [<-hsz]
 exact Heap.get?_push_size _ rfl
theorem zfw{z TI TO i1 i2 l1 l2 a:Addr}{f:Bool}{oa:Obj}{k1 k2:Nat}{xs ys:Array Value}{Q:Fin->Shared->Prop}(hh:A.handled=none)(D:ZipApart z TI TO i1 i2 l1 l2)
  (hz:zc9 s.heap z TI TO a f) (ha:s.heap.get? a=some oa) (hTI:IsPair s.heap TI (.ref i1) (.ref i2))
  (h1:s.heap.IsListIter i1 l1 k1) (h2:s.heap.IsListIter i2 l2 k2) (hl1:s.heap.IsList l1 xs) (hl2:s.heap.IsList l2 ys) (hend:xs[k1]?=none∨ys[k2]?=none)
  (hE:∀ h' e,(∀ c o,c≠z->c≠i1->c≠i2->s.heap.get? c=some o->h'.get? c=some o)->(∃ o,h'.get? e=some o/\o.cls=.type "StopIteration")->E (.ref e) { s with heap:=h' }) :
  wpAny (model prog w) A (Builtin.«zip.__next__» ⟨[.ref z],[]⟩) Q E s:=by
 show wpAny _ _ (field (.ref z) 2 >>= _) _ _ _
 refine wpAny_bind (wpAny_field hz rfl (x:=.bool false) rfl ?_)
 show wpAny _ _ (field (.ref z) 3 >>= _) _ _ _
 refine wpAny_bind (wpAny_field hz rfl (x:=.ref TI) rfl ?_)
 refine wpAny_bind (wpAny_seqItems hTI rfl ?_)
 show wpAny _ _ (Builtin.SmallTypes.ownedTupleIsFree (.ref z) >>= _) _ _ _
 refine wpAny_bind (zg5 hz ha fun h1' hz1 hs1=>?_)
 simp only [Bool.false_eq_true,if_false]
 simp only [List.forIn_toArray,List.forIn_cons,List.forIn_nil]
 have hb:(Value.bool false == Value.bool true)=false:=rfl
 rw [hb]
 refine wpAny_bind (wpAny_bind (wpAny_bind (wpAny_holding ?_)))
 show wpAny _ _ (Builtin.SmallTypes.nextOf (.ref i1) >>= _) _ _ _
 cases hx:xs[k1]? with
 | none=>
  refine wpAny_bind (wpAny_nextOf_list_end hh (h1.extBut hs1.extBut D.i1z) (hl1.extBut hs1.extBut D.l1z) hx fun h2' e hs2 he=>?_)
  exact hE h2' e (fun c o c1 c3 _ x=>hs2 _ _ c3 (hs1.extBut _ _ c1 x)) he
 | some x=>
  have hy:ys[k2]?=none:=by
   rcases hend with h | h
   ·rw [hx] at h; cases h
   ·exact h
  refine wpAny_bind (wpAny_nextOf_list_item (h1.extBut hs1.extBut D.i1z) (hl1.extBut hs1.extBut D.l1z) hx fun h2' h12 hs2=>wpAny_pure (wpAny_pure ?_))
  refine wpAny_bind (wpAny_bind (wpAny_holding ?_))
  show wpAny _ _ (Builtin.SmallTypes.nextOf (.ref i2) >>= _) _ _ _
  refine wpAny_bind (wpAny_nextOf_list_end hh ((h2.extBut hs1.extBut D.i2z).extBut hs2.extBut D.i12.symm) ((hl2.extBut hs1.extBut D.l2z).extBut hs2.extBut D.l2i1) hy fun h3' e hs3 he=>?_)
  exact hE h3' e (fun c o c1 c2 c3 x=>hs3 _ _ c3 (hs2.extBut _ _ c2 (hs1.extBut _ _ c1 x))) he
theorem zf6{z TI TO i1 i2 l1 l2 a:Addr}{f:Bool}{oa:Obj}{k1 k2:Nat}{xs ys:Array Value}{x y:Value}{Q:Option Value->Shared->Prop}(D:ZipApart z TI TO i1 i2 l1 l2)
  (hz:zc9 s.heap z TI TO a f) (ha:s.heap.get? a=some oa) (hTI:IsPair s.heap TI (.ref i1) (.ref i2))
  (h1:s.heap.IsListIter i1 l1 k1) (h2:s.heap.IsListIter i2 l2 k2) (hl1:s.heap.IsList l1 xs) (hl2:s.heap.IsList l2 ys) (hx:xs[k1]?=some x) (hy:ys[k2]?=some y)
  (hQ:∀ h',zc9 h' z TI TO a true->h'.IsListIter i1 l1 (k1+1)->h'.IsListIter i2 l2 (k2+1)->IsPair h' s.heap.objs.size x y->h'.objs.size=s.heap.objs.size+1->
   (∀ c o,c≠z->c≠i1->c≠i2->s.heap.get? c=some o->h'.get? c=some o)->Q (some (.ref s.heap.objs.size)) { s with heap:=h' }) :
  wpAny (model prog w) A (pyNext (.ref z)) Q E s:=by
 have hT:s.TypeIs (.ref z) "zip":=⟨_,hz,rfl⟩
 unfold pyNext
 exact wpAny_bind (wpAny_attempt (wpAny_callSpecial?_slot (name:=Str.ofString "__next__") hT F.slot_zip_next
  (wpAny_call_entry F.slot_zip_next hT F.entry_zip_next
   (zeC D hz ha hTI h1 h2 hl1 hl2 hx hy fun h' a1 a2 a3 a4 a5 a6=>wpAny_pure (hQ h' a1 a2 a3 a4 a5 a6)) (F.args_zip_next_1 _))))
theorem zes{z TI TO i1 i2 l1 l2 a:Addr}{f:Bool}{oa:Obj}{k1 k2:Nat}{xs ys:Array Value}{Q:Option Value->Shared->Prop}(hh:A.handled=none)(D:ZipApart z TI TO i1 i2 l1 l2)
  (hz:zc9 s.heap z TI TO a f) (ha:s.heap.get? a=some oa) (hTI:IsPair s.heap TI (.ref i1) (.ref i2))
  (h1:s.heap.IsListIter i1 l1 k1) (h2:s.heap.IsListIter i2 l2 k2) (hl1:s.heap.IsList l1 xs) (hl2:s.heap.IsList l2 ys) (hend:xs[k1]?=none∨ys[k2]?=none)
  (hQ:∀ h',(∀ c o,c≠z->c≠i1->c≠i2->s.heap.get? c=some o->h'.get? c=some o)->Q none { s with heap:=h' }):wpAny (model prog w) A (pyNext (.ref z)) Q E s:=by
 have hT:s.TypeIs (.ref z) "zip":=⟨_,hz,rfl⟩
 unfold pyNext
 refine wpAny_bind (wpAny_attempt (wpAny_callSpecial?_slot (name:=Str.ofString "__next__") hT F.slot_zip_next
  (wpAny_call_entry F.slot_zip_next hT F.entry_zip_next (zfw hh D hz ha hTI h1 h2 hl1 hl2 hend fun h' e hk he=>?_) (F.args_zip_next_1 _))))
 obtain ⟨o,ho,hc⟩:=he
 refine wpAny_bind (wpAny_isInstance (T:="StopIteration") (b:=true) ⟨o,ho,hc⟩ isSubtype_stop ?_)
 exact wpAny_pure (hQ _ hk)
end
end L2
namespace L2
open PySem
structure ZipSt (h:Heap) (z TI TO i1 i2 l1 l2 S:Addr) (i:Nat) (xs ys:Array Value):Prop where
 ti:IsPair h TI (.ref i1) (.ref i2)
 a1:h.IsListIter i1 l1 i
 a2:h.IsListIter i2 l2 i
 b1:h.IsList l1 xs
 b2:h.IsList l2 ys
 at_:(IsZip h z TI TO .none/\∃ a b,IsPair h TO a b)∨∃ a f oa,zc9 h z TI TO a f/\h.get? a=some oa/\a≠z/\a≠i1/\a≠i2/\a≠S
theorem ZipSt.keep{h h':Heap}{z TI TO i1 i2 l1 l2 S:Addr}{i:Nat}{xs ys:Array Value}(x:ZipSt h z TI TO i1 i2 l1 l2 S i xs ys)(hk:∀ b o,b≠S->h.get? b=some o->h'.get? b=some o)
  (n:z≠S/\TI≠S/\TO≠S/\i1≠S/\i2≠S/\l1≠S/\l2≠S):ZipSt h' z TI TO i1 i2 l1 l2 S i xs ys:=by
 obtain ⟨n1,n2,n3,n4,n5,n6,n7⟩:=n
 refine ⟨hk _ _ n2 x.ti,x.a1.at fun o e=>hk _ o n4 e,x.a2.at fun o e=>hk _ o n5 e,x.b1.at fun o e=>hk _ o n6 e,x.b2.at fun o e=>hk _ o n7 e,?_⟩
 rcases x.at_ with ⟨h1,a,b,h2⟩ | ⟨a,f,oa,h1,h2,h3,h4,h5,h6⟩
 ·exact .inl ⟨hk _ _ n1 h1,a,b,hk _ _ n3 h2⟩
 ·exact .inr ⟨a,f,oa,hk _ _ n1 h1,hk _ _ h6 h2,h3,h4,h5,h6⟩
section
variable {prog:Program}{w:World}{A:Around}{E:Value->Shared->Prop}{s:Shared}
theorem ZipSt.done{z TI TO i1 i2 l1 l2 S:Addr}{i:Nat}{xs ys:Array Value}{Q:Option Value->Shared->Prop}(x:ZipSt s.heap z TI TO i1 i2 l1 l2 S i xs ys)(hh:A.handled=none)(D:ZipApart z TI TO i1 i2 l1 l2)
  (hi:min xs.size ys.size<=i) (hQ:∀ h',(∀ c o,c≠z->c≠TO->c≠i1->c≠i2->s.heap.get? c=some o->h'.get? c=some o)->Q none { s with heap:=h' }) :
  wpAny (model prog w) A (pyNext (.ref z)) Q E s:=by
 have hend:xs[i]?=none∨ys[i]?=none:=by
  rcases Nat.le_total xs.size ys.size with h | h
  ·exact .inl (Array.getElem?_eq_none (by lia))
  ·exact .inr (Array.getElem?_eq_none (by lia))
 rcases x.at_ with ⟨h1,a,b,h2⟩ | ⟨a,f,oa,h1,h2,h3,h4,h5,h6⟩
 ·exact wpAny_pyNext_zip_end hh D h1 x.ti h2 x.a1 x.a2 x.b1 x.b2 hend hQ
 ·exact zes hh D h1 h2 x.ti x.a1 x.a2 x.b1 x.b2 hend fun h' hk=>hQ h' fun c o n1 _ n3 n4 e=>hk c o n1 n3 n4 e
end
theorem zgO:typeLookup (.type "zip") "__len__"=pure none:=by rw [typeLookup_type,builtinLookup_eq_fast]; kernel_rfl
theorem zfu:typeLookup (.type "zip") "__length_hint__"=pure none:=by rw [typeLookup_type,builtinLookup_eq_fast]; kernel_rfl
end L2
namespace L2
open PySem PySem.Spec PyProof.Rows
section
variable {X:Cx}{a b:Expr}{ta:TA}{pos p p' pos':Pos}
theorem zh9(n l1 l2:Nat)(h1:l1 < n)(h2:l2 < n):ZipApart (n+4) (n+2) (n+3) n (n+1) l1 l2:=by
 constructor<;>(show @Ne Nat _ _; lia)
end
end L2
namespace L2
open PySem PySem.Spec PyProof.Rows
section
variable {prog:Program}{w:World}{K:Type}[DecidableEq K]{knd:KeyKind prog w K}{A:Around}{E:Value->Shared->Prop}{s:Shared}
theorem zjp{it d:Addr}{i ep:Nat}{kvs:List (K × Value)}{k:K}{v:Value}{Q:Value->Shared->Prop}(hit:s.heap.IsKeyIter it d i kvs.length ep)
  (hm:s.heap.DictAt knd d kvs ep) (hx:kvs[i]?=some (k,v))
  (hQ:∀ key h',knd.is k key=true->h'.IsKeyIter it d (i+1) kvs.length ep->Heap.SameBut it s.heap h'->Q key { s with heap:=h' }) :
  wpAny (model prog w) A (Builtin.SmallTypes.nextOf (.ref it)) Q E s:=by
 obtain ⟨o,ho,hc,hd⟩:=id hit
 obtain ⟨od,es,hod,hcd,hdd,hk,hp,hn⟩:=id hm
 unfold Builtin.SmallTypes.nextOf
 refine wpAny_bind (wpAny_callSpecial?_slot (name:=Str.ofString "__next__") hit.typeIs F.slot_dict_keyiterator_next
  (wpAny_call_entry F.slot_dict_keyiterator_next hit.typeIs F.entry_dict_keyiterator_next ?_ (F.args_dict_keyiterator_next_1 _)))
 refine wpAny_bind (wpAny_pure ?_)
 refine wpAny_bind ?_
 refine wpAny_bind ?_
 first | refine wpAny_bind (wpAny_typeNameOfWhole_keyiter hit.typeIs (wpAny_pure ?_)) | refine wpAny_bind (wpAny_typeNameOf_keyiter hit.typeIs (wpAny_pure ?_))
 refine wpAny_bind (wpAny_fieldsOf ho hd ?_)
 have hown:Builtin.Dict_items.ownsTuple "dict_keyiterator"=false:=by decide
 simp only [hown,Bool.false_eq_true,if_false]
 show wpAny _ _ (if (Value.ref d == Value.none)=true then _ else _) _ _ s
 rw [if_neg (show ¬ ((Value.ref d == Value.none)=true) from Bool.false_ne_true)]
 refine wpAny_bind (wpAny_pure ?_)
 refine wpAny_bind (wpAny_dictEntries hod hdd ?_)
 have hsz:es.size=kvs.length:=by rw [<-hp.length]; simp
 rw [if_neg (by rw [hsz]; simp)]
 refine wpAny_bind (wpAny_pure ?_)
 refine wpAny_bind (wpAny_dictEpoch hod hdd ?_)
 rw [if_neg (by simp)]
 refine wpAny_pure ?_
 have hlt:i < kvs.length:=(List.getElem?_eq_some_iff.mp hx).1
 have hlt':i < es.size:=by rw [hsz]; exact hlt
 have hkey:knd.is k es[i].key=true:=(hp.get? (e:=es[i]) (by simp [hlt']) hx).1
 simp only [show ¬ ((i:Int) < 0) from by lia,if_false,Int.toNat_natCast,Array.getElem?_eq_getElem hlt']
 refine wpAny_bind ?_
 first | refine wpAny_bind (wpAny_typeNameOfWhole_keyiter hit.typeIs (wpAny_pure ?_)) | refine wpAny_bind (wpAny_typeNameOf_keyiter hit.typeIs (wpAny_pure ?_))
 refine wpAny_bind (wpAny_isOneOf_keyiter hit.typeIs ?_)
 show wpAny _ _ (setField (.ref it) 1 (rawInt ((i:Int)+1)) >>= _) _ _ s
 refine wpAny_bind (wpAny_setField ho hd (by simp) ?_)
 have hit':(s.heap.update it (Obj.mapFields (·.setIfInBounds 1 (rawInt ((i:Int)+1))))).IsKeyIter it d (i+1) kvs.length ep:=
  ⟨_,Heap.get?_update_self _ ho (Obj.isFreed_of_fields (Obj.data_mapFields hd _)),(Obj.cls_mapFields ..).trans hc,by rw [Obj.data_mapFields hd]; simp [rawInt]⟩
 refine wpAny_bind (wpAny_holding ?_)
 refine wpAny_bind (wpAny_isOneOf_keyiter (s:={ s with heap:=s.heap.update it (Obj.mapFields (·.setIfInBounds 1 (rawInt ((i:Int)+1)))) }) hit'.typeIs ?_)
 show wpAny _ _ (pure es[i].key) _ _ _
 exact wpAny_pure (wpAny_pure ⟨_,rfl,wpAny_pure (hQ _ _ hkey hit' (Heap.SameBut.update ..))⟩)
theorem zi5{it d:Addr}{i ep:Nat}{kvs:List (K × Value)}{Q:Value->Shared->Prop}(hh:A.handled=none)(hit:s.heap.IsKeyIter it d i kvs.length ep)
  (hm:s.heap.DictAt knd d kvs ep) (hx:kvs[i]?=none)
  (hE:∀ h' e,Heap.ExtBut it s.heap h'->(∃ o,h'.get? e=some o/\o.cls=.type "StopIteration")->E (.ref e) { s with heap:=h' }):wpAny (model prog w) A (Builtin.SmallTypes.nextOf (.ref it)) Q E s:=by
 obtain ⟨o,ho,hc,hd⟩:=id hit
 obtain ⟨od,es,hod,hcd,hdd,hk,hp,hn⟩:=id hm
 unfold Builtin.SmallTypes.nextOf
 refine wpAny_bind (wpAny_callSpecial?_slot (name:=Str.ofString "__next__") hit.typeIs F.slot_dict_keyiterator_next
  (wpAny_call_entry F.slot_dict_keyiterator_next hit.typeIs F.entry_dict_keyiterator_next ?_ (F.args_dict_keyiterator_next_1 _)))
 refine wpAny_bind (wpAny_pure ?_)
 refine wpAny_bind ?_
 refine wpAny_bind ?_
 first | refine wpAny_bind (wpAny_typeNameOfWhole_keyiter hit.typeIs (wpAny_pure ?_)) | refine wpAny_bind (wpAny_typeNameOf_keyiter hit.typeIs (wpAny_pure ?_))
 refine wpAny_bind (wpAny_fieldsOf ho hd ?_)
 have hown:Builtin.Dict_items.ownsTuple "dict_keyiterator"=false:=by decide
 simp only [hown,Bool.false_eq_true,if_false]
 show wpAny _ _ (if (Value.ref d == Value.none)=true then _ else _) _ _ s
 rw [if_neg (show ¬ ((Value.ref d == Value.none)=true) from Bool.false_ne_true)]
 refine wpAny_bind (wpAny_pure ?_)
 refine wpAny_bind (wpAny_dictEntries hod hdd ?_)
 have hsz:es.size=kvs.length:=by rw [<-hp.length]; simp
 rw [if_neg (by rw [hsz]; simp)]
 refine wpAny_bind (wpAny_pure ?_)
 refine wpAny_bind (wpAny_dictEpoch hod hdd ?_)
 rw [if_neg (by simp)]
 refine wpAny_pure ?_
 have hge:es.size<=i:=by rw [hsz]; simpa using hx
 simp only [show ¬ ((i:Int) < 0) from by lia,if_false,Int.toNat_natCast,Array.getElem?_eq_none hge]
 refine wpAny_bind ?_
 first | refine wpAny_bind (wpAny_typeNameOfWhole_keyiter hit.typeIs (wpAny_pure ?_)) | refine wpAny_bind (wpAny_typeNameOf_keyiter hit.typeIs (wpAny_pure ?_))
 show wpAny _ _ (setField (.ref it) 0 .none >>= _) _ _ s
 refine wpAny_bind (wpAny_setField ho hd (by simp) ?_)
 show wpAny _ _ (newExc (.type "StopIteration") [] >>= _) _ _ _
 refine wpAny_bind ?_
 simp only [newExc,newTuple]
 refine wpAny_bind (wpAny_newObj_type ?_ (by size_fits))
 refine wpAny_bind (m:=firstArgMember _ _) (wpAny_of_eq (a:=Value.none) (by first | rfl | (simp only [firstArgMember]; rfl)) ?_)
 refine wpAny_newObj_type ?_ (by size_fits)
 simp only [raiseNew]
 refine wpAny_bind (wpAny_handled ?_)
 first | rw [show A.in1.handled=none from hh] | rw [hh]
 refine wpAny_bind (wpAny_pure (wpAny_throw ?_))
 exact hE _ _ (((Heap.SameBut.update ..).extBut.push _).push _) ⟨_,Heap.get?_push_size _ rfl,rfl⟩
theorem zec(hh:A.handled=none)(it d:Addr)(hne:d≠it)(kvs:List (K × Value))(ep:Nat) :
  Draws prog w A it [it,d] kvs.length (fun i v=>∃ k x,kvs[i]?=some (k,x)/\knd.is k v=true) (fun i h=>h.IsKeyIter it d i kvs.length ep/\h.DictAt knd d kvs ep) where
 live:=fun _ _ st=>let ⟨o,ho,_⟩:=st.1; ⟨o,ho⟩
 frame:=fun _ _ _ st hk=>⟨st.1.at fun o e=>hk it (by simp) o e,st.2.at' fun o e=>hk d (by simp) o e⟩
 item:=fun i s Q E hi st hQ=>by
  obtain ⟨⟨k,x⟩,e⟩:∃ p,kvs[i]?=some p:=⟨kvs[i],List.getElem?_eq_getElem hi⟩
  refine zjp st.1 st.2 e fun key h' hkey hit' hs'=>?_
  exact hQ _ h' s.toks ⟨k,x,e,hkey⟩ ⟨hit',st.2.at' fun o e=>(hs'.2 d hne).trans e⟩ hs'
 done:=fun s Q E st hE=>zi5 hh st.1 st.2 (by simp) hE
end
end L2
namespace L2
open PySem PySem.Spec PyProof.Rows
section
variable {prog:Program}{w:World}{A:Around}{E:Value->Shared->Prop}{s:Shared}
def Ends1(prog:Program)(w:World)(A:Around)(it:Addr)(S:Heap->Prop):Prop:=∀ (s:Shared) (Q:Value->Shared->Prop) (E:Value->Shared->Prop),S s.heap->
 (∀ h' e,Heap.ExtBut it s.heap h'->(∃ o,h'.get? e=some o/\o.cls=.type "StopIteration")->E (.ref e) { s with heap:=h' })->wpAny (model prog w) A (Builtin.SmallTypes.nextOf (.ref it)) Q E s
structure ZAp (z TI TO i1 i2:Addr) (f1 f2:List Addr):Prop where
 TIz:TI≠z
 TOz:TO≠z
 i1z:i1≠z
 i2z:i2≠z
 TITO:TI≠TO
 TIi1:TI≠i1
 TIi2:TI≠i2
 TOi1:TO≠i1
 TOi2:TO≠i2
 z1:z∉f1
 z2:z∉f2
 o1:TO∉f1
 o2:TO∉f2
 a1:i1∉f2
 a2:i2∉f1
theorem zhd{z TI TO i1 i2:Addr}{f1 f2:List Addr}{n1 n2 k:Nat}{P1 P2:Nat->Value->Prop}{S1 S2:Nat->Heap->Prop}{a b:Value}{Q:Value->Shared->Prop}(D:ZAp z TI TO i1 i2 f1 f2)
  (D1:Draws prog w A i1 f1 n1 P1 S1) (D2:Draws prog w A i2 f2 n2 P2 S2) (hz:IsZip s.heap z TI TO .none) (hTI:IsPair s.heap TI (.ref i1) (.ref i2)) (hTO:IsPair s.heap TO a b)
  (h1:S1 k s.heap) (h2:S2 k s.heap) (k1:k < n1) (k2:k < n2)
  (hQ:∀ x y h' tk,P1 k x->P2 k y->IsZip h' z TI TO (rawInt s.heap.objs.size)->IsPair h' TO x y->S1 (k+1) h'->S2 (k+1) h'->IsPair h' s.heap.objs.size x y->h'.objs.size=s.heap.objs.size+1->
   (∀ c o,c≠z->c≠TO->c≠i1->c≠i2->s.heap.get? c=some o->h'.get? c=some o)->Q (.ref s.heap.objs.size) { s with heap:=h',toks:=tk }) :
  wpAny (model prog w) A (Builtin.«zip.__next__» ⟨[.ref z],[]⟩) (fun fin s'=>∃ v,fin=.done (.ret v)/\Q v s') E s:=by
 show wpAny _ _ (field (.ref z) 2 >>= _) _ _ _
 refine wpAny_bind (wpAny_field hz rfl (x:=.bool false) rfl ?_)
 show wpAny _ _ (field (.ref z) 3 >>= _) _ _ _
 refine wpAny_bind (wpAny_field hz rfl (x:=.ref TI) rfl ?_)
 refine wpAny_bind (wpAny_seqItems hTI rfl ?_)
 show wpAny _ _ (Builtin.SmallTypes.ownedTupleIsFree (.ref z) >>= _) _ _ _
 refine wpAny_bind ?_
 unfold Builtin.SmallTypes.ownedTupleIsFree
 refine wpAny_bind (wpAny_field hz rfl (x:=.none) rfl (wpAny_pure ?_))
 simp only [if_true]
 refine wpAny_bind (wpAny_rule ?_)
 refine wpAny_bind (wpAny_field hz rfl (x:=.ref TO) rfl ?_)
 refine wpAny_bind (wpAny_setField_rec hz (by simp) fun g1 hz₁ hs₁=>?_)
 replace hz₁:IsZip g1 z TI TO .ellipsis:=hz₁
 refine wpAny_bind ?_
 simp only [List.zipIdx_cons,List.zipIdx_nil,List.forIn_cons,List.forIn_nil]
 have fr:∀ {f:List Addr} {b:Addr} {h h':Heap},Heap.SameBut b h h'->b∉f->∀ c∈f,∀ o,h.get? c=some o->h'.get? c=some o:=fun hs hb c hc o e=>hs.extBut _ _ (fun z=>hb (z▸hc)) e
 refine wpAny_bind (wpAny_bind (wpAny_onRaise ?_))
 show wpAny _ _ (Builtin.SmallTypes.nextOf (.ref i1) >>= _) _ _ _
 refine wpAny_bind (D1.item k _ _ _ k1 (D1.frame _ _ _ h1 (fr hs₁ D.z1)) fun x g2 t2 hx st1 hs₂=>wpAny_pure ?_)
 replace hs₂:Heap.SameBut i1 g1 g2:=hs₂
 have hTO₂:IsPair g2 TO a b:=hs₂.extBut _ _ D.TOi1 (hs₁.extBut _ _ D.TOz hTO)
 refine wpAny_bind (wpAny_seqItems hTO₂ rfl ?_)
 refine wpAny_bind (wpAny_updateSeq_pair hTO₂ fun g3 hTO₃ hs₃=>?_)
 replace hTO₃:IsPair g3 TO x b:=hTO₃
 replace hs₃:Heap.SameBut TO g2 g3:=hs₃
 refine wpAny_bind (wpAny_letGo (wpAny_pure ?_))
 refine wpAny_bind (wpAny_bind (wpAny_onRaise ?_))
 show wpAny _ _ (Builtin.SmallTypes.nextOf (.ref i2) >>= _) _ _ _
 refine wpAny_bind (D2.item k _ _ _ k2 (D2.frame _ _ _ (D2.frame _ _ _ (D2.frame _ _ _ h2 (fr hs₁ D.z2)) (fr hs₂ D.a1)) (fr hs₃ D.o2)) fun y g4 t4 hy st2 hs₄=>wpAny_pure ?_)
 replace hs₄:Heap.SameBut i2 g3 g4:=hs₄
 have hTO₄:IsPair g4 TO x b:=hs₄.extBut _ _ D.TOi2 hTO₃
 refine wpAny_bind (wpAny_seqItems hTO₄ rfl ?_)
 refine wpAny_bind (wpAny_updateSeq_pair hTO₄ fun g5 hTO₅ hs₅=>?_)
 replace hTO₅:IsPair g5 TO x y:=hTO₅
 replace hs₅:Heap.SameBut TO g4 g5:=hs₅
 refine wpAny_bind (wpAny_letGo (wpAny_pure (wpAny_pure ?_)))
 refine wpAny_bind (wpAny_seqItems hTO₅ rfl ?_)
 refine wpAny_bind (wpAny_newTuple ?_)
 have hsz:g5.objs.size=s.heap.objs.size:=by rw [hs₅.1,hs₄.1,hs₃.1,hs₂.1,hs₁.1]
 have hz₅:IsZip g5 z TI TO .ellipsis:=hs₅.extBut _ _ D.TOz.symm (hs₄.extBut _ _ D.i2z.symm (hs₃.extBut _ _ D.TOz.symm (hs₂.extBut _ _ D.i1z.symm hz₁)))
 have hk₅:∀ c o,c≠z->c≠TO->c≠i1->c≠i2->s.heap.get? c=some o->g5.get? c=some o:=fun c o c1 c2 c3 c4 e=>
  hs₅.extBut _ _ c2 (hs₄.extBut _ _ c4 (hs₃.extBut _ _ c2 (hs₂.extBut _ _ c3 (hs₁.extBut _ _ c1 e))))
 have st1':S1 (k+1) g5:=D1.frame _ _ _ (D1.frame _ _ _ (D1.frame _ _ _ st1 (fr hs₃ D.o1)) (fr hs₄ D.a2)) (fr hs₅ D.o1)
 have st2':S2 (k+1) g5:=D2.frame _ _ _ st2 (fr hs₅ D.o2)
 have hzlt:z < g5.objs.size:=Heap.lt_size hz₅
 show wpAny _ _ (Builtin.SmallTypes.ownedTupleHandOut (.ref z) (.ref g5.objs.size) >>= _) _ _ _
 refine wpAny_bind ?_
 unfold Builtin.SmallTypes.ownedTupleHandOut
 have hz₆:IsZip (g5.push { cls:=.type "tuple",data:=.seq #[x,y] }) z TI TO .ellipsis:=Heap.get?_push_of_some _ hz₅
 refine wpAny_bind (wpAny_setField_rec hz₆ (by simp) fun g7 hz₇ hs₇=>?_)
 replace hz₇:IsZip g7 z TI TO (rawInt g5.objs.size):=hz₇
 refine wpAny_setField_rec hz₇ (by simp) fun g8 hz₈ hs₈=>?_
 replace hz₈:IsZip g8 z TI TO (rawInt g5.objs.size):=hz₈
 have up:∀ c o,c≠z->g5.get? c=some o->g8.get? c=some o:=fun c o c1 e=>hs₈.extBut _ _ c1 (hs₇.extBut _ _ c1 (Heap.get?_push_of_some _ e))
 have hT₈:IsPair g8 g5.objs.size x y:=hs₈.extBut _ _ (Nat.ne_of_gt hzlt) (hs₇.extBut _ _ (Nat.ne_of_gt hzlt) (Heap.get?_push_size _ rfl))
 have hz8:g8.objs.size=g5.objs.size+1:=by rw [hs₈.1,hs₇.1,Heap.size_push]
 rw [hsz] at hz₈ hT₈ hz8
 refine wpAny_pure ⟨_,rfl,?_⟩
 show Q (.ref g5.objs.size) _
 rw [hsz]
 exact hQ x y g8 _ hx hy hz₈ (up _ _ D.TOz hTO₅) (D1.frame _ _ _ st1' fun c hc o e=>up c o (fun q=>D.z1 (q▸hc)) e) (D2.frame _ _ _ st2' fun c hc o e=>up c o (fun q=>D.z2 (q▸hc)) e) hT₈ hz8 fun c o c1 c2 c3 c4 e=>up c o c1 (hk₅ c o c1 c2 c3 c4 e)
theorem ziM{z TI TO i1 i2:Addr}{f1 f2:List Addr}{n1 n2 k:Nat}{P1 P2:Nat->Value->Prop}{S1 S2:Nat->Heap->Prop}{a b:Value}{Q:Fin->Shared->Prop}(D:ZAp z TI TO i1 i2 f1 f2)
  (D1:Draws prog w A i1 f1 n1 P1 S1) (D2:Draws prog w A i2 f2 n2 P2 S2) (hz:IsZip s.heap z TI TO .none) (hTI:IsPair s.heap TI (.ref i1) (.ref i2)) (hTO:IsPair s.heap TO a b)
  (h1:S1 k s.heap) (h2:S2 k s.heap) (he:Ends1 prog w A i1 (S1 k)∨(k < n1/\Ends1 prog w A i2 (S2 k)))
  (hE:∀ h' e tk,(∀ c o,c≠z->c≠TO->c≠i1->c≠i2->s.heap.get? c=some o->h'.get? c=some o)->(∃ o,h'.get? e=some o/\o.cls=.type "StopIteration")->E (.ref e) { s with heap:=h',toks:=tk }) :
  wpAny (model prog w) A (Builtin.«zip.__next__» ⟨[.ref z],[]⟩) Q E s:=by
 show wpAny _ _ (field (.ref z) 2 >>= _) _ _ _
 refine wpAny_bind (wpAny_field hz rfl (x:=.bool false) rfl ?_)
 show wpAny _ _ (field (.ref z) 3 >>= _) _ _ _
 refine wpAny_bind (wpAny_field hz rfl (x:=.ref TI) rfl ?_)
 refine wpAny_bind (wpAny_seqItems hTI rfl ?_)
 show wpAny _ _ (Builtin.SmallTypes.ownedTupleIsFree (.ref z) >>= _) _ _ _
 refine wpAny_bind ?_
 unfold Builtin.SmallTypes.ownedTupleIsFree
 refine wpAny_bind (wpAny_field hz rfl (x:=.none) rfl (wpAny_pure ?_))
 simp only [if_true]
 refine wpAny_bind (wpAny_rule ?_)
 refine wpAny_bind (wpAny_field hz rfl (x:=.ref TO) rfl ?_)
 refine wpAny_bind (wpAny_setField_rec hz (by simp) fun g1 hz₁ hs₁=>?_)
 replace hz₁:IsZip g1 z TI TO .ellipsis:=hz₁
 refine wpAny_bind ?_
 simp only [List.zipIdx_cons,List.zipIdx_nil,List.forIn_cons,List.forIn_nil]
 have fr:∀ {f:List Addr} {b:Addr} {h h':Heap},Heap.SameBut b h h'->b∉f->∀ c∈f,∀ o,h.get? c=some o->h'.get? c=some o:=fun hs hb c hc o e=>hs.extBut _ _ (fun z=>hb (z▸hc)) e
 refine wpAny_bind (wpAny_bind (wpAny_onRaise ?_))
 show wpAny _ _ (Builtin.SmallTypes.nextOf (.ref i1) >>= _) _ _ _
 rcases he with e1 | ⟨k1,e2⟩
 ·refine wpAny_bind (e1 _ _ _ (D1.frame _ _ _ h1 (fr hs₁ D.z1)) fun g2 e hs₂ he=>?_)
  obtain ⟨oe,hoe,hce⟩:=he
  replace hs₂:Heap.ExtBut i1 g1 g2:=hs₂
  have hz₂:IsZip g2 z TI TO .ellipsis:=hs₂ _ _ D.i1z.symm hz₁
  have hez:e≠z:=fun x=>by subst x; rw [hz₂] at hoe; cases hoe; simp at hce
  exact wpAny_setField_rec hz₂ (by simp) fun g3 _ hs₃=>hE g3 e _ (fun c o c1 _ c3 _ x=>hs₃.extBut _ _ c1 (hs₂ _ _ c3 (hs₁.extBut _ _ c1 x))) ⟨oe,hs₃.extBut _ _ hez hoe,hce⟩
 ·refine wpAny_bind (D1.item k _ _ _ k1 (D1.frame _ _ _ h1 (fr hs₁ D.z1)) fun x g2 t2 hx st1 hs₂=>wpAny_pure ?_)
  replace hs₂:Heap.SameBut i1 g1 g2:=hs₂
  have hTO₂:IsPair g2 TO a b:=hs₂.extBut _ _ D.TOi1 (hs₁.extBut _ _ D.TOz hTO)
  refine wpAny_bind (wpAny_seqItems hTO₂ rfl ?_)
  refine wpAny_bind (wpAny_updateSeq_pair hTO₂ fun g3 hTO₃ hs₃=>?_)
  replace hs₃:Heap.SameBut TO g2 g3:=hs₃
  refine wpAny_bind (wpAny_letGo (wpAny_pure ?_))
  refine wpAny_bind (wpAny_bind (wpAny_onRaise ?_))
  show wpAny _ _ (Builtin.SmallTypes.nextOf (.ref i2) >>= _) _ _ _
  refine wpAny_bind (e2 _ _ _ (D2.frame _ _ _ (D2.frame _ _ _ (D2.frame _ _ _ h2 (fr hs₁ D.z2)) (fr hs₂ D.a1)) (fr hs₃ D.o2)) fun g4 e hs₄ he=>?_)
  obtain ⟨oe,hoe,hce⟩:=he
  replace hs₄:Heap.ExtBut i2 g3 g4:=hs₄
  have hz₄:IsZip g4 z TI TO .ellipsis:=hs₄ _ _ D.i2z.symm (hs₃.extBut _ _ D.TOz.symm (hs₂.extBut _ _ D.i1z.symm hz₁))
  have hez:e≠z:=fun x=>by subst x; rw [hz₄] at hoe; cases hoe; simp at hce
  exact wpAny_setField_rec hz₄ (by simp) fun g5 _ hs₅=>hE g5 e _ (fun c o c1 c2 c3 c4 x=>hs₅.extBut _ _ c1 (hs₄ _ _ c4 (hs₃.extBut _ _ c2 (hs₂.extBut _ _ c3 (hs₁.extBut _ _ c1 x))))) ⟨oe,hs₅.extBut _ _ hez hoe,hce⟩
theorem zc5{z TI TO i1 i2:Addr}{f1 f2:List Addr}{n1 n2 k:Nat}{P1 P2:Nat->Value->Prop}{S1 S2:Nat->Heap->Prop}{a b:Value}{Q:Option Value->Shared->Prop}(D:ZAp z TI TO i1 i2 f1 f2)
  (D1:Draws prog w A.in1 i1 f1 n1 P1 S1) (D2:Draws prog w A.in1 i2 f2 n2 P2 S2) (hz:IsZip s.heap z TI TO .none) (hTI:IsPair s.heap TI (.ref i1) (.ref i2)) (hTO:IsPair s.heap TO a b)
  (h1:S1 k s.heap) (h2:S2 k s.heap) (k1:k < n1) (k2:k < n2)
  (hQ:∀ x y h' tk,P1 k x->P2 k y->IsZip h' z TI TO (rawInt s.heap.objs.size)->IsPair h' TO x y->S1 (k+1) h'->S2 (k+1) h'->IsPair h' s.heap.objs.size x y->h'.objs.size=s.heap.objs.size+1->
   (∀ c o,c≠z->c≠TO->c≠i1->c≠i2->s.heap.get? c=some o->h'.get? c=some o)->Q (some (.ref s.heap.objs.size)) { s with heap:=h',toks:=tk }) :
  wpAny (model prog w) A (pyNext (.ref z)) Q E s:=by
 have hT:s.TypeIs (.ref z) "zip":=⟨_,hz,rfl⟩
 unfold pyNext
 exact wpAny_bind (wpAny_attempt (wpAny_callSpecial?_slot (name:=Str.ofString "__next__") hT F.slot_zip_next
  (wpAny_call_entry F.slot_zip_next hT F.entry_zip_next
   (zhd D D1 D2 hz hTI hTO h1 h2 k1 k2 fun x y h' tk a1 a2 a3 a4 a5 a6 a7 a8 a9=>wpAny_pure (hQ x y h' tk a1 a2 a3 a4 a5 a6 a7 a8 a9)) (F.args_zip_next_1 _))))
theorem zct{z TI TO i1 i2:Addr}{f1 f2:List Addr}{n1 n2 k:Nat}{P1 P2:Nat->Value->Prop}{S1 S2:Nat->Heap->Prop}{a b:Value}{Q:Option Value->Shared->Prop}(D:ZAp z TI TO i1 i2 f1 f2)
  (D1:Draws prog w A.in1 i1 f1 n1 P1 S1) (D2:Draws prog w A.in1 i2 f2 n2 P2 S2) (hz:IsZip s.heap z TI TO .none) (hTI:IsPair s.heap TI (.ref i1) (.ref i2)) (hTO:IsPair s.heap TO a b)
  (h1:S1 k s.heap) (h2:S2 k s.heap) (he:Ends1 prog w A.in1 i1 (S1 k)∨(k < n1/\Ends1 prog w A.in1 i2 (S2 k)))
  (hQ:∀ h' tk,(∀ c o,c≠z->c≠TO->c≠i1->c≠i2->s.heap.get? c=some o->h'.get? c=some o)->Q none { s with heap:=h',toks:=tk }):wpAny (model prog w) A (pyNext (.ref z)) Q E s:=by
 have hT:s.TypeIs (.ref z) "zip":=⟨_,hz,rfl⟩
 unfold pyNext
 refine wpAny_bind (wpAny_attempt (wpAny_callSpecial?_slot (name:=Str.ofString "__next__") hT F.slot_zip_next
  (wpAny_call_entry F.slot_zip_next hT F.entry_zip_next (ziM D D1 D2 hz hTI hTO h1 h2 he fun h' e tk hk he=>?_) (F.args_zip_next_1 _))))
 obtain ⟨o,ho,hc⟩:=he
 refine wpAny_bind (wpAny_isInstance (T:="StopIteration") (b:=true) ⟨o,ho,hc⟩ isSubtype_stop ?_)
 exact wpAny_pure (hQ _ _ hk)
end
end L2
namespace L2
open PySem PySem.Spec PyProof.Rows
theorem Inv.pair{X:Cx}{pins:List (Addr × Obj)}{sg:St}{H:Hp}{s:Shared}{h2:Heap}{tk:Nat}{ch:List Addr}{x y:V}{u v:Value}(I:Inv X pins sg H s)(hf:∀ b∈ch,FpOk X pins H b)
  (keep2:∀ b o,b∉ch->s.heap.get? b=some o->h2.get? b=some o) (tup2:IsPair h2 s.heap.objs.size u v) (ru:RelV x u) (rv:RelV y v) :
  Inv X pins sg (upd H s.heap.objs.size (.tup [x,y])) { s with heap:=h2,toks:=tk }:=by
 have hn:H s.heap.objs.size=none:=I.hok.fresh (Nat.le_refl _)
 have nH:∀ b v,H b=some v->b∉ch/\b≠s.heap.objs.size:=fun b v q=>⟨(fun z=>by rw [(hf b z).1] at q; cases q),za3 q hn⟩
 refine I.step (g':=s.gens) (d':=s.drawn) (ch:=ch) (fun b hb=>?_) (fun b o _ _ hc q _=>keep2 b o hc q)
  (fun b o _ _ hc q _=>⟨o.slots,keep2 b o hc q⟩) (fun b o hc q n=>by rw [za5 (Nat.ne_of_lt (Heap.lt_size q))]; exact n)
  (fun b o hc q=>⟨o,keep2 b o hc q⟩) (fun b ys q=>by rw [za5 (nH b _ q).2]; exact q) (fun b o v q=>by rw [za5 (nH b _ q).2]; exact q)
  (fun b ps q=>⟨#[],by rw [za5 (nH b _ q).2,q]; simp⟩) (fun m hm=>?_) (fun b v' q=>?_) I.bare
 ·obtain ⟨f0,f1,f2,f3,f4,f5⟩:=hf b hb
  exact ⟨f3,f1,f4,f5⟩
 ·obtain ⟨o,es,ep,ho,r⟩:=hm
  exact ⟨o,es,ep,keep2 _ o (fun z=>(hf _ z).2.1 rfl) ho,r⟩
 ·by_cases hb:b=s.heap.objs.size
  ·subst hb
   rw [za8] at q
   cases q
   exact ⟨by show 2<=sizeLine; decide,[u,v],.cons ru (.cons rv .nil),_,tup2,rfl,_,rfl⟩
  ·rw [za5 hb] at q
   refine (I.hok b v' q).stay (fun c v'' hc q'=>?_) (fun c q'=>by rw [za5 (nH c _ q').2]; exact q') fun c ys q'=>by rw [za5 (nH c _ q').2]; exact q'
   rcases hc with z | z
   ·exact keep2 c v'' (by rw [z]; exact (nH b v' q).1) q'
   ·exact keep2 c v'' (nH c _ z).1 q'
theorem Inv.turnedS{X:Cx}{pins:List (Addr × Obj)}{sg:St}{H:Hp}{s:Shared}{h':Heap}{t':Nat}{ch:List Addr}(I:Inv X pins sg H s)(hf:∀ b∈ch,FpOk X pins H b)
  (k:∀ b o,b∉ch->s.heap.get? b=some o->h'.get? b=some o):Inv X pins sg H { s with heap:=h',toks:=t' }:=by
 have nH:∀ b v,H b=some v->b∉ch:=fun b v q z=>by rw [(hf b z).1] at q; cases q
 refine I.step (g':=s.gens) (d':=s.drawn) (ch:=ch) (fun b hb=>?_) (fun b o _ _ hc e _=>k b o hc e) (fun b o _ _ hc e _=>⟨o.slots,k b o hc e⟩) (fun _ _ _ _ n=>n)
  (fun b o hc e=>⟨o,k b o hc e⟩) (fun _ _ e=>e) (fun _ _ _ e=>e) (fun b ps e=>⟨#[],by rw [e]; simp⟩) (fun m hm=>?_) (fun b u e=>?_) I.bare
 ·obtain ⟨f0,f1,f2,f3,f4,f5⟩:=hf b hb
  exact ⟨f3,f1,f4,f5⟩
 ·obtain ⟨o,es,ep,ho,r⟩:=hm
  exact ⟨o,es,ep,k _ o (fun z=>(hf _ z).2.1 rfl) ho,r⟩
 ·refine (I.hok b u e).stay (fun c v hc q=>?_) (fun c q=>q) fun c xs q=>q
  rcases hc with z | z
  ·exact k c v (by rw [z]; exact nH b u e) q
  ·exact k c v (nH c _ z) q
def Itzk(K:PySem.W.Frag)(a b:Addr)(o:Obj):It:=
  ⟨fun i H=>∃ xs x kvs y,SqL K H a xs/\xs[i]?=some x/\H b=some (.frz o (.dK kvs))/\kvs[i]?=some y,
   fun i H v H'=>∃ p x y,v=.ref p/\H p=none/\H'=upd H p (.tup [x,kV y.1])/\(∀ xs,SqL K H a xs->xs[i]?=some x)/\∀ kvs,H b=some (.frz o (.dK kvs))->kvs[i]?=some y,
   fun i H=>∃ xs kvs,SqL K H a xs/\H b=some (.frz o (.dK kvs))/\(xs.length<=i∨kvs.length<=i)⟩
theorem turn_zipK{P:Program}{w:World}{K:PySem.W.Frag}{elts:List Expr}{x1:Nat}{tp:Pos}(a d z TI TO i1 i2:Addr)(o:Obj)(D:ZAp z TI TO i1 i2 [i1,a] [i2,d])(hai:a≠i1)(hdi:d≠i2) :
  Turn P w K (.Tuple elts x1 tp) (Itzk K a d o) [z,TI,TO,i1,i2] z
   (fun i h=>IsZip h z TI TO .none/\IsPair h TI (.ref i1) (.ref i2)/\(∃ u v,IsPair h TO u v)/\h.IsListIter i1 a i/\∃ n ep es,h.IsKeyIter i2 d i n ep/\o.data=.dict es ep/\es.size=n/\i<=n) where
 mem:=by simp
 obj:=fun i h st b hb=>by
  obtain ⟨hz,hTI,⟨u,v,hTO⟩,⟨o1,e1,c1,d1⟩,n,ep,es,⟨o2,e2,c2,d2⟩,_⟩:=st
  simp only [List.mem_cons,List.mem_nil_iff,or_false] at hb
  rcases hb with q | q | q | q | q
  ·rw [q]; exact ⟨_,hz,fun v z=>by have z':Data.fields _=Data.cell v:=z; cases z'⟩
  ·rw [q]; exact ⟨_,hTI,fun v z=>by have z':Data.seq _ _=Data.cell v:=z; cases z'⟩
  ·rw [q]; exact ⟨_,hTO,fun v z=>by have z':Data.seq _ _=Data.cell v:=z; cases z'⟩
  ·rw [q]; exact ⟨_,e1,fun v z=>by rw [d1] at z; cases z⟩
  ·rw [q]; exact ⟨_,e2,fun v z=>by rw [d2] at z; cases z⟩
 keep:=fun i h h' st k=>by
  obtain ⟨hz,hTI,⟨u,v,hTO⟩,h1,n,ep,es,h2,r⟩:=st
  exact ⟨k z (by simp) _ hz,k TI (by simp) _ hTI,⟨u,v,k TO (by simp) _ hTO⟩,h1.at fun o e=>k i1 (by simp) o e,n,ep,es,h2.at fun o e=>k i2 (by simp) o e,r⟩
 item:=by
  intro X hP hw hK hc i pins s sg H E I hf st hg
  subst hP hw hK
  obtain ⟨hz,hTI,⟨u,v,hTO⟩,h1,n,ep,es,hit,d1,d2,d5⟩:=st
  obtain ⟨xs,x,kvs,y,hqx,hx,hq,hy⟩:=hg
  obtain ⟨its,rv,p,hz'⟩:=I.list hqx
  obtain ⟨w1,hw1,rw1⟩:=rv.get hx
  obtain ⟨vs,es',ep',rel,da,d3,d4,hd⟩:=zcu I hq
  rw [d1] at d3
  cases d3
  obtain ⟨y',hy',y1,y2⟩:=zi2 rel hy
  rw [<-d2,d4] at hit
  have hlt:i < vs.length:=(List.getElem?_eq_some_iff.mp hy').1
  have hlt1:i < its.toArray.size:=by simpa using (List.getElem?_eq_some_iff.mp hw1).1
  have D1:=Draws.list (prog:=X.prog) (w:=X.w) (A:=X.A.in1) (I.ok.hd hc) i1 a hai its.toArray
  have D2:=zec (knd:=zaE X.prog X.w) (A:=X.A.in1) (I.ok.hd hc) i2 d hdi vs ep
  refine zc5 D D1 D2 hz hTI hTO ⟨h1,p.isList⟩ ⟨hit,da⟩ hlt1 hlt fun ux uy h1' tk hux huy zo to st1 st2 htup hsz keep1=>?_
  have hux':its[i]?=some ux:=by simpa using hux
  rw [hw1] at hux'
  obtain rfl:=Option.some.inj hux'
  obtain ⟨k,q,hu1,hu2⟩:=huy
  rw [hy'] at hu1
  obtain rfl:y'=(k,q):=Option.some.inj hu1
  refine ⟨_,rfl,wpAny_letOwnedTupleGo_zip zo fun h2 zn sb=>?_⟩
  have keep2:∀ b o,b∉[z,TI,TO,i1,i2]->s.heap.get? b=some o->h2.get? b=some o:=fun b o nn q=>(sb.2 b (fun e=>nn (by simp [e]))).trans (keep1 b o (fun e=>nn (by simp [e])) (fun e=>nn (by simp [e])) (fun e=>nn (by simp [e])) (fun e=>nn (by simp [e])) q)
  have zlt:z < s.heap.objs.size:=Heap.lt_size hz
  have I2:=I.pair (tk:=tk) (x:=x) (y:=kV y.1) hf keep2 ((sb.2 _ (Nat.ne_of_gt zlt)).trans htup) rw1 (by rw [y1]; exact zfC hu2)
  refine ⟨.ref s.heap.objs.size,_,I2,rfl,⟨s.heap.objs.size,x,y,rfl,I.hok.fresh (Nat.le_refl _),rfl,fun ys h'=>by rw [I.list_inj h' hqx]; exact hx,fun kvs' h'=>?_⟩,⟨zn,(sb.2 _ D.TIz).trans (keep1 _ _ D.TIz D.TITO D.TIi1 D.TIi2 hTI),⟨_,_,(sb.2 _ D.TOz).trans to⟩,st1.1.at fun o q=>(sb.2 _ D.i1z).trans q,_,ep,es,st2.1.at fun o q=>(sb.2 _ D.i2z).trans q,d1,d4,hlt⟩,fun b hb=>?_⟩
  ·rw [hq] at h'
   cases h'
   exact hy
  ·rw [za5 (Nat.ne_of_lt ?_)]
   ·exact (hf b hb).1
   ·simp only [List.mem_cons,List.mem_nil_iff,or_false] at hb
    rcases hb with q | q | q | q | q
    ·rw [q]; exact zlt
    ·rw [q]; exact Heap.lt_size hTI
    ·rw [q]; exact Heap.lt_size hTO
    ·rw [q]; obtain ⟨o,ho,_⟩:=h1; exact Heap.lt_size ho
    ·rw [q]; obtain ⟨o,ho,_⟩:=hit; exact Heap.lt_size ho
 done:=by
  intro X hP hw hK hc i pins s sg H E I hf st hg
  subst hP hw hK
  obtain ⟨hz,hTI,⟨u,v,hTO⟩,h1,n,ep,es,hit,d1,d2,d5⟩:=st
  obtain ⟨xs,kvs,hqx,hq,hx⟩:=hg
  obtain ⟨its,rv,p,hz'⟩:=I.list hqx
  obtain ⟨vs,es',ep',rel,da,d3,d4,hd⟩:=zcu I hq
  rw [d1] at d3
  cases d3
  have hl:=rel.length
  have hl2:=rv.length
  rw [<-d2,d4] at hit
  have D1:=Draws.list (prog:=X.prog) (w:=X.w) (A:=X.A.in1) (I.ok.hd hc) i1 a hai its.toArray
  have D2:=zec (knd:=zaE X.prog X.w) (A:=X.A.in1) (I.ok.hd hc) i2 d hdi vs ep
  have he:Ends1 X.prog X.w X.A.in1 i1 (fun h=>h.IsListIter i1 a i/\h.IsList a its.toArray)∨(i < its.toArray.size/\Ends1 X.prog X.w X.A.in1 i2 (fun h=>h.IsKeyIter i2 d i vs.length ep/\Heap.DictAt (zaE X.prog X.w) h d vs ep)):=by
   rcases Nat.lt_or_ge i its.toArray.size with hi | hi
   ·refine .inr ⟨hi,fun s Q E st hE=>?_⟩
    have hi2:i < its.length:=by simpa using hi
    exact zi5 (I.ok.hd hc) st.1 st.2 (List.getElem?_eq_none (by lia)) hE
   ·exact .inl fun s Q E st hE=>wpAny_nextOf_list_end (I.ok.hd hc) st.1 st.2 (Array.getElem?_eq_none hi) hE
  refine zct D D1 D2 hz hTI hTO ⟨h1,p.isList⟩ ⟨hit,da⟩ he fun h' tk kp=>⟨rfl,?_⟩
  exact I.turnedS (t':=tk) (ch:=[z,TO,i1,i2]) (fun b hb=>hf b (by simp only [List.mem_cons,List.mem_nil_iff,or_false] at hb ⊢; rcases hb with q | q | q | q<;>simp [q])) (fun b o hb q=>kp b o (fun e=>hb (by simp [e])) (fun e=>hb (by simp [e])) (fun e=>hb (by simp [e])) (fun e=>hb (by simp [e])) q)
 self:=fun _ _ _ _ _ st h=>wpAny_pyIter_zip st.1 h
section
variable {X:Cx}
theorem ziL(n l d:Nat)(h1:l < n)(h2:d < n):ZAp (n+4) (n+2) (n+3) n (n+1) [n,l] [n+1,d]:=by
 constructor<;>first | (show @Ne Nat _ _; lia) | (intro h; simp only [List.mem_cons,List.mem_nil_iff,or_false] at h; rcases h with h | h<;>(replace h:@Eq Nat _ _:=h; lia))
end
end L2
namespace L2
open PySem
structure Made (h:Heap) (n0:Nat) (S:Addr) (xs ys:Array Value) (ps:List Addr):Prop where
 nd:ps.Nodup
 lo:∀ p∈ps,@LE.le Nat _ n0 p/\p≠S/\p < h.objs.size
 is:∀ (j:Nat) p,ps[j]?=some p->∃ u v,xs[j]?=some u/\ys[j]?=some v/\IsPair h p u v
theorem Made.keep{h h':Heap}{n0:Nat}{S:Addr}{xs ys:Array Value}{ps:List Addr}(m:Made h n0 S xs ys ps)(k:∀ b o,@LE.le Nat _ n0 b->b≠S->h.get? b=some o->h'.get? b=some o):Made h' n0 S xs ys ps:=by
 refine ⟨m.nd,fun p hp=>?_,fun j p e=>?_⟩
 ·obtain ⟨j,hj⟩:=List.getElem?_of_mem hp
  obtain ⟨u,v,_,_,q⟩:=m.is j p hj
  obtain ⟨a,b,c⟩:=m.lo p hp
  exact ⟨a,b,Heap.lt_size (k p _ a b q)⟩
 ·obtain ⟨u,v,h1,h2,q⟩:=m.is j p e
  obtain ⟨a,b,c⟩:=m.lo p (List.mem_of_getElem? e)
  exact ⟨u,v,h1,h2,k p _ a b q⟩
section
variable {prog:Program}{w:World}{A:Around}{E:Value->Shared->Prop}{s:Shared}
theorem ZipSt.itemS{z TI TO i1 i2 l1 l2 S:Addr}{i:Nat}{xs ys:Array Value}{Q:Option Value->Shared->Prop}(x:ZipSt s.heap z TI TO i1 i2 l1 l2 S i xs ys)(D:ZipApart z TI TO i1 i2 l1 l2)(hS:S < s.heap.objs.size)
  (hi:i < min xs.size ys.size) (hQ:∀ h',ZipSt h' z TI TO i1 i2 l1 l2 S (i+1) xs ys->(∃ u v,xs[i]?=some u/\ys[i]?=some v/\IsPair h' s.heap.objs.size u v)->(∀ c o,c≠z->c≠TO->c≠i1->c≠i2->s.heap.get? c=some o->h'.get? c=some o)->Q (some (.ref s.heap.objs.size)) { s with heap:=h' }) :
  wpAny (model prog w) A (pyNext (.ref z)) Q E s:=by
 have hx:i < xs.size:=by lia
 have hy:i < ys.size:=by lia
 have lt:∀ {c o},s.heap.get? c=some o->s.heap.objs.size≠c:=fun e=>Nat.ne_of_gt (Heap.lt_size e)
 have q1:s.heap.objs.size≠i1:=by obtain ⟨_,e,_⟩:=x.a1; exact lt e
 have q2:s.heap.objs.size≠i2:=by obtain ⟨_,e,_⟩:=x.a2; exact lt e
 rcases x.at_ with ⟨h1,a,b,h2⟩ | ⟨a,f,oa,h1,h2,h3,h4,h5,h6⟩
 ·refine wpAny_pyNext_zip_item D h1 x.ti h2 x.a1 x.a2 x.b1 x.b2 (Array.getElem?_eq_getElem hx) (Array.getElem?_eq_getElem hy) fun h' c1 c2 c3 c4 c5 c6 hk=>hQ h' ?_ ⟨_,_,Array.getElem?_eq_getElem hx,Array.getElem?_eq_getElem hy,c5⟩ hk
  exact ⟨hk _ _ D.TIz D.TITO D.TIi1 D.TIi2 x.ti,c3,c4,x.b1.at fun o e=>hk _ o D.l1z D.l1TO D.l1i1 D.l1i2 e,x.b2.at fun o e=>hk _ o D.l2z D.l2TO D.l2i1 D.l2i2 e,.inr ⟨_,false,_,c1,c5,lt h1,q1,q2,Nat.ne_of_gt hS⟩⟩
 ·refine zf6 D h1 h2 x.ti x.a1 x.a2 x.b1 x.b2 (Array.getElem?_eq_getElem hx) (Array.getElem?_eq_getElem hy) fun h' c1 c3 c4 c5 c6 hk=>hQ h' ?_ ⟨_,_,Array.getElem?_eq_getElem hx,Array.getElem?_eq_getElem hy,c5⟩ fun c o n1 _ n3 n4 e=>hk c o n1 n3 n4 e
  exact ⟨hk _ _ D.TIz D.TIi1 D.TIi2 x.ti,c3,c4,x.b1.at fun o e=>hk _ o D.l1z D.l1i1 D.l1i2 e,x.b2.at fun o e=>hk _ o D.l2z D.l2i1 D.l2i2 e,.inr ⟨a,true,oa,c1,hk _ _ h3 h4 h5 h2,h3,h4,h5,h6⟩⟩
end
section
variable {prog:Program}{w:World}{A:Around}{s:Shared}{R:Result->Shared->Prop}{z TI TO i1 i2 l1 l2 S:Addr}{xs ys:Array Value}
def ZEnd(S z TO i1 i2:Addr)(n0:Nat)(xs ys:Array Value)(h₁ h':Heap):Prop:=(∀ b o,b≠S->b≠z->b≠TO->b≠i1->b≠i2->h₁.get? b=some o->h'.get? b=some o)/\∃ (ps:List Addr) (c:Nat),Made h' n0 S xs ys ps/\ps.length=min xs.size ys.size/\h'.get? S=some { cls:=.type "list",dict:=none,data:=.seq (ps.map Value.ref).toArray c,slots:=#[] }
theorem zh7(hh:A.handled=none)(D:ZipApart z TI TO i1 i2 l1 l2)(n:z≠S/\TI≠S/\TO≠S/\i1≠S/\i2≠S/\l1≠S/\l2≠S){n0:Nat}(m:@LT.lt Nat _ z n0/\@LT.lt Nat _ TO n0/\@LT.lt Nat _ i1 n0/\@LT.lt Nat _ i2 n0/\@LE.le Nat _ n0 S)(hn:min xs.size ys.size<=sizeLine)(res:Value){h₁:Heap}
  (hR:∀ h' tk,ZEnd S z TO i1 i2 n0 xs ys h₁ h'->R (.ok (.ret res)) { s with heap:=h',toks:=tk }) :
  ∀ (k i:Nat) (h:Heap) (tk c:Nat) (ps:List Addr),min xs.size ys.size - i=k->i<=min xs.size ys.size->ZipSt h z TI TO i1 i2 l1 l2 S i xs ys->(∀ b o,b≠S->b≠z->b≠TO->b≠i1->b≠i2->h₁.get? b=some o->h.get? b=some o)->
   h.get? S=some { cls:=.type "list",dict:=none,data:=.seq (ps.map Value.ref).toArray c,slots:=#[] }->ps.length=i->Made h n0 S xs ys ps->
   codeAny (model prog w) A (.builtin "list.extend.loop" ⟨[.ref S,.ref z,res],[]⟩) R { s with heap:=h,toks:=tk }:=by
 have ge:∀ b:Addr,@LE.le Nat _ n0 b->b≠z/\b≠TO/\b≠i1/\b≠i2:=fun b hb=>by
  obtain ⟨m1,m2,m3,m4,m5⟩:=m
  refine ⟨?_,?_,?_,?_⟩<;>(show @Ne Nat _ _; lia)
 intro k
 induction k with
 | zero=>
  intro i h tk c ps hk hi hst hkeep hS hacc hM
  refine codeAny_builtin PySem.F.entry_extend_loop ?_
  rw [Around.under_plainId PySem.F.plain_extend_loop _]
  show wpAny _ A.in1 (pyNext (.ref z) >>= _) _ _ _
  refine wpAny_bind (ZipSt.done (s:={ s with heap:=h,toks:=tk }) (A:=A.in1) hst hh D (by lia) fun h' he=>?_)
  have gS:=ge S m.2.2.2.2
  exact wpAny_pure (hR h' tk ⟨fun b o h1 h2 h3 h4 h5 e=>he b o h2 h3 h4 h5 (hkeep b o h1 h2 h3 h4 h5 e),ps,c,hM.keep fun b o hb _ e=>he b o (ge b hb).1 (ge b hb).2.1 (ge b hb).2.2.1 (ge b hb).2.2.2 e,by lia,he S _ gS.1 gS.2.1 gS.2.2.1 gS.2.2.2 hS⟩)
 | succ k ih=>
  intro i h tk c ps hk hi hst hkeep hS hacc hM
  refine codeAny_builtin PySem.F.entry_extend_loop ?_
  rw [Around.under_plainId PySem.F.plain_extend_loop _]
  show wpAny _ A.in1 (pyNext (.ref z) >>= _) _ _ _
  refine wpAny_bind (ZipSt.itemS (s:={ s with heap:=h,toks:=tk }) hst D (Heap.lt_size hS) (by lia) fun h' hst' hpr hkp=>?_)
  dsimp only at hkp hpr ⊢
  have hS':=hkp S _ n.1.symm n.2.2.1.symm n.2.2.2.1.symm n.2.2.2.2.1.symm hS
  have up:∀ b o,b≠S->h'.get? b=some o->(h'.update S (Obj.mapSeq (·.push (.ref h.objs.size)))).get? b=some o:=fun b o hb e=>(Heap.get?_update_other _ _ (Ne.symm hb)).trans e
  show wpAny _ A.in1 (updateSeq S (·.push (.ref h.objs.size)) >>= _) _ _ _
  refine wpAny_bind ?_
  have hlS:@LT.lt Nat _ S h.objs.size:=Heap.lt_size hS
  have neS:h.objs.size≠S:=show @Ne Nat _ _ by lia
  have hacc':(ps.map Value.ref).toArray.size=i:=by simp [hacc]
  have e1:(ps.map Value.ref).toArray.push (.ref h.objs.size)=((ps++[h.objs.size]).map Value.ref).toArray:=by simp
  have hS2:=Heap.get?_update_self (Obj.mapSeq (·.push (Value.ref h.objs.size))) hS' rfl
  have hM1:Made h' n0 S xs ys ps:=hM.keep fun b o hb _ e=>hkp b o (ge b hb).1 (ge b hb).2.1 (ge b hb).2.2.1 (ge b hb).2.2.2 e
  obtain ⟨u,v,hu,hv,hp⟩:=hpr
  have hM2:Made (h'.update S (Obj.mapSeq (·.push (.ref h.objs.size)))) n0 S xs ys (ps++[h.objs.size]):=by
   have hM3:=hM1.keep (h':=h'.update S (Obj.mapSeq (·.push (.ref h.objs.size)))) fun b o _ hb e=>up b o hb e
   refine ⟨?_,fun p hp'=>?_,fun j p e=>?_⟩
   ·rw [List.nodup_append]
    refine ⟨hM.nd,by simp,fun a ha b hb=>?_⟩
    rw [List.mem_singleton.mp hb]
    exact Nat.ne_of_lt (hM.lo a ha).2.2
   ·rcases List.mem_append.mp hp' with z | z
    ·exact hM3.lo p z
    ·rw [List.mem_singleton.mp z]
     refine ⟨?_,neS,Heap.lt_size (up _ _ neS hp)⟩
     have:=m.2.2.2.2
     lia
   ·by_cases hj:j < ps.length
    ·rw [List.getElem?_append_left hj] at e
     exact hM3.is j p e
    ·rw [List.getElem?_append_right (by lia)] at e
     have hj0:j - ps.length=0:=by
      rcases Nat.eq_zero_or_pos (j - ps.length) with z | z
      ·exact z
      ·rw [List.getElem?_eq_none (by simp; lia)] at e
       cases e
     rw [hj0] at e
     obtain rfl:=Option.some.inj e
     obtain rfl:j=i:=by lia
     exact ⟨u,v,hu,hv,up _ _ neS hp⟩
  exact wpAny_updateSeq hS' rfl (wpAny_pure ⟨plainId_quiet PySem.F.plain_extend_loop _,ih (i+1) _ tk _ (ps++[h.objs.size]) (by lia) (by lia) (hst'.keep up n)
   (fun b o h1 h2 h3 h4 h5 e=>up b o h1 (hkp b o h2 h3 h4 h5 (hkeep b o h1 h2 h3 h4 h5 e))) (by rw [<-e1]; exact hS2) (by rw [List.length_append,List.length_singleton,hacc]) hM2⟩) (by rw [hacc']; lia) (by show ((ps.map Value.ref).toArray.push _).size<=sizeLine+1; rw [Array.size_push,hacc']; lia)
end
section
variable {prog:Program}{w:World}{A:Around}{E:Value->Shared->Prop}{s:Shared}{z TI TO i1 i2 l1 l2:Addr}{xs ys:Array Value}
theorem zfv{R:Result->Shared->Prop}{S:Addr}(hh:A.handled=none)(D:ZipApart z TI TO i1 i2 l1 l2)(n:z≠S/\TI≠S/\TO≠S/\i1≠S/\i2≠S/\l1≠S/\l2≠S){n0:Nat}(m:@LT.lt Nat _ z n0/\@LT.lt Nat _ TO n0/\@LT.lt Nat _ i1 n0/\@LT.lt Nat _ i2 n0/\@LE.le Nat _ n0 S)(hst:ZipSt s.heap z TI TO i1 i2 l1 l2 S 0 xs ys)(hf:IsZip s.heap z TI TO .none)
  (res:Value) (c₀:Nat) (hS:s.heap.get? S=some { cls:=.type "list",data:=.seq #[] c₀ })
  (hR:∀ h' tk,ZEnd S z TO i1 i2 n0 xs ys s.heap h'->R (.ok (.ret res)) { s with heap:=h',toks:=tk }) (hn:min xs.size ys.size<=sizeLine) :
  wpAny (model prog w) A.in1 (Builtin.List.listExtendWith (.ref S) (.ref z) res)
   (fun fin s'=>match fin with | .done f=>R (.ok f) s' | .again c'=>c'.quiet=true/\codeAny (model prog w) A c' R s') (fun e s'=>R (.error e) s') s:=by
 have hT:s.TypeIs (.ref z) "zip":=⟨_,hf,rfl⟩
 unfold Builtin.List.listExtendWith
 refine wpAny_bind (wpAny_typeOf (T:="zip") hT ?_)
 have h1:Builtin.List.listSameRef (.ref S) (.ref z)=false:=by simp [Builtin.List.listSameRef,n.1.symm]
 have h2:(Value.type "zip" == Value.type "list")=false:=by decide
 have h3:(Value.type "zip" == Value.type "tuple")=false:=by decide
 simp only [h1,h2,h3,Bool.or_false,Bool.false_eq_true,if_false]
 refine wpAny_bind (wpAny_pyIter_zip hf ?_)
 refine wpAny_bind (wpAny_holding ?_)
 unfold Builtin.List.listLengthHint
 refine wpAny_bind (wpAny_specialOf hT zgO ?_)
 show wpAny _ A.in1 (specialOf (Value.ref z) (Str.ofString "__length_hint__") >>= _) _ _ _
 refine wpAny_bind (wpAny_specialOf hT zfu ?_)
 refine wpAny_pure ?_
 show wpAny _ A.in1 (rule "list.extend.makes-room" >>= fun _=>Builtin.List.listTouch (.ref S) >>= fun _=>again (.builtin "list.extend.loop" ⟨[.ref S,.ref z,res],[]⟩)) _ _ _
 refine wpAny_bind (wpAny_rule ?_)
 refine wpAny_bind ?_
 show wpAny _ A.in1 (updateSeq S (·.push .none) >>= fun _=>updateSeq S (·.pop)) _ _ _
 refine wpAny_bind (wpAny_updateSeq hS rfl ?_)
 have hS₂:=Heap.get?_update_self (Obj.mapSeq (·.push Value.none)) hS rfl
 refine wpAny_updateSeq (hz:=by seq_fits) hS₂ rfl ?_
 have hS₃:=Heap.get?_update_self (Obj.mapSeq (·.pop)) hS₂ rfl
 have oth:∀ b o,b≠S->s.heap.get? b=some o->((s.heap.update S (Obj.mapSeq (·.push Value.none))).update S (Obj.mapSeq (·.pop))).get? b=some o:=
  fun b o hb e=>(Heap.get?_update_other _ _ (Ne.symm hb)).trans ((Heap.get?_update_other _ _ (Ne.symm hb)).trans e)
 exact wpAny_pure ⟨plainId_quiet F.plain_extend_loop _,zh7 (s:=s) (h₁:=s.heap) hh D n m hn res hR _ 0 _ s.toks _ [] rfl (Nat.zero_le _) (hst.keep oth n) (fun b o hb _ _ _ _ e=>oth b o hb e) hS₃ rfl ⟨List.nodup_nil,fun p hp=>absurd hp (by simp),fun j p e=>absurd e (by simp)⟩⟩
theorem zh8{R:Result->Shared->Prop}{S:Addr}(hh:A.handled=none)(D:ZipApart z TI TO i1 i2 l1 l2)(n:z≠S/\TI≠S/\TO≠S/\i1≠S/\i2≠S/\l1≠S/\l2≠S){n0:Nat}(m:@LT.lt Nat _ z n0/\@LT.lt Nat _ TO n0/\@LT.lt Nat _ i1 n0/\@LT.lt Nat _ i2 n0/\@LE.le Nat _ n0 S)(hst:ZipSt s.heap z TI TO i1 i2 l1 l2 S 0 xs ys)(hf:IsZip s.heap z TI TO .none)
  (hS:s.heap.get? S=some { cls:=.type "list",data:=.seq #[] })
  (hR:∀ h' tk,ZEnd S z TO i1 i2 n0 xs ys s.heap h'->R (.ok (.ret .none)) { s with heap:=h',toks:=tk }) (hn:min xs.size ys.size<=sizeLine) :
  wpAny (model prog w) A.in1 (Builtin.«list.__init__» ⟨[.ref S,.ref z],[]⟩)
   (fun fin s'=>match fin with | .done f=>R (.ok f) s' | .again c'=>c'.quiet=true/\codeAny (model prog w) A c' R s') (fun e s'=>R (.error e) s') s:=by
 show wpAny _ _ (do let old <-Builtin.List.listItems (.ref S); Builtin.List.listUpdate (.ref S) (fun _=>#[]); letGo old.toList.reverse; Builtin.List.listExtendWith (.ref S) (.ref z) .none) _ _ s
 refine wpAny_bind ?_
 unfold Builtin.List.listItems
 refine wpAny_bind (wpAny_seqItems hS rfl (wpAny_pure ?_))
 show wpAny _ _ (updateSeq S (fun _=>#[]) >>= fun _=>letGo (#[]:Array Value).toList.reverse >>= fun _=>Builtin.List.listExtendWith (.ref S) (.ref z) .none) _ _ s
 refine wpAny_bind (wpAny_updateSeq hS rfl ?_)
 have hS₂:=Heap.get?_update_self (Obj.mapSeq (fun _=>(#[]:Array Value))) hS rfl
 have oth:∀ b o,b≠S->s.heap.get? b=some o->(s.heap.update S (Obj.mapSeq (fun _=>(#[]:Array Value)))).get? b=some o:=
  fun b o hb e=>(Heap.get?_update_other _ _ (Ne.symm hb)).trans e
 refine wpAny_bind (wpAny_letGo ?_)
 exact zfv hh D n m (hst.keep oth n) (oth _ _ n.1 hf) .none _ hS₂ (fun h' tk hk=>hR h' tk ⟨fun b o n1 n2 n3 n4 n5 e=>hk.1 b o n1 n2 n3 n4 n5 (oth b o n1 e),hk.2⟩) hn
theorem zdO{Q:Value->Shared->Prop}(hh:A.handled=none)(D:ZipApart z TI TO i1 i2 l1 l2)(hst:ZipSt s.heap z TI TO i1 i2 l1 l2 s.heap.objs.size 0 xs ys)(hf:IsZip s.heap z TI TO .none)
  (n:z < s.heap.objs.size/\TI < s.heap.objs.size/\TO < s.heap.objs.size/\i1 < s.heap.objs.size/\i2 < s.heap.objs.size/\l1 < s.heap.objs.size/\l2 < s.heap.objs.size)
  (hQ:∀ h' tk,ZEnd s.heap.objs.size z TO i1 i2 s.heap.objs.size xs ys s.heap h'->Q (.ref s.heap.objs.size) { s with heap:=h',toks:=tk }) (hn:min xs.size ys.size<=sizeLine) :
  wpAny (model prog w) A (call (.type "list") [.ref z]) Q E s:=by
 refine callType_codes (Q₁:=fun obj s₁=>obj=.ref s.heap.objs.size/\s₁={ s with heap:=s.heap.push { cls:=.type "list",data:=.seq #[] } }) PySem.F.called_list (PySem.F.typeCall_list_1 _) PySem.F.entry_list_init
  (code_list_new _ ⟨rfl,rfl⟩) fun obj s₁ h₁=>?_
 obtain ⟨rfl,rfl⟩:=h₁
 have hS:(s.heap.push { cls:=.type "list",data:=.seq #[] }).get? s.heap.objs.size=some { cls:=.type "list",data:=.seq #[] }:=Heap.get?_push_size _ rfl
 obtain ⟨n1,n2,n3,n4,n5,n6,n7⟩:=n
 have m:z≠s.heap.objs.size/\TI≠s.heap.objs.size/\TO≠s.heap.objs.size/\i1≠s.heap.objs.size/\i2≠s.heap.objs.size/\l1≠s.heap.objs.size/\l2≠s.heap.objs.size:=⟨Nat.ne_of_lt n1,Nat.ne_of_lt n2,Nat.ne_of_lt n3,Nat.ne_of_lt n4,Nat.ne_of_lt n5,Nat.ne_of_lt n6,Nat.ne_of_lt n7⟩
 refine ⟨⟨_,hS,rfl⟩,PySem.F.args_list_init_2 _ _,zh8 (A:=A.in1) hh D m (n0:=s.heap.objs.size) ⟨n1,n3,n4,n5,Nat.le_refl _⟩ (hst.keep (fun b o _ e=>Heap.get?_push_of_some _ e) m) (Heap.get?_push_of_some _ hf) hS (fun h' tk hk=>?_) hn⟩
 exact ⟨rfl,hQ h' tk ⟨fun b o n0 n1 n2 n3 n4 e=>hk.1 b o n0 n1 n2 n3 n4 (Heap.get?_push_of_some _ e),hk.2⟩⟩
end
end L2
namespace L2
open PySem PySem.Spec PyProof.Rows
theorem Inv.laidM{X:Cx}{pins:List (Addr × Obj)}{σ:St}{H H':Hp}{s:Shared}{h':Heap}{t':Nat}(I:Inv X pins σ H s)(k:∀ b u,s.heap.get? b=some u->h'.get? b=some u)(h1:∀ b:Addr,@LT.lt Nat _ b s.heap.objs.size->H' b=H b)
  (h2:∀ b o,@LE.le Nat _ s.heap.objs.size b->H' b=some o->ObjOk X.prog X.w H' h' b o):Inv X pins σ H' { s with heap:=h',toks:=t' }:=by
 have lt:∀ b o,H b=some o->H' b=some o:=fun b o e=>by
  rcases Nat.lt_or_ge b s.heap.objs.size with z | z
  ·rw [h1 b z]; exact e
  ·rw [I.hok.fresh z] at e; cases e
 refine I.un ⟨fun b u q _ _ _=>k b u q,fun b u q _ _ _=>⟨u.slots,k b u q⟩,fun b u q n _=>by rw [h1 b (Heap.lt_size q)]; exact n,fun b u q _=>⟨u,k b u q⟩,fun b xs q=>lt _ _ q,fun b u xs q=>lt _ _ q,fun b ps q=>⟨#[],by rw [lt _ _ q]; simp⟩⟩ fun b u e=>?_
 rcases Nat.lt_or_ge b s.heap.objs.size with z | z
 ·rw [h1 b z] at e
  exact (I.hok b u e).stay (fun c v _ q=>k c v q) (fun c q=>lt _ _ q) fun c xs q=>lt _ _ q
 ·exact h2 b u z e
def layP(H:Hp):List (Addr × V × V)->Hp
 | []=>H
 | (p,x,y)::l=>upd (layP H l) p (.tup [x,y])
theorem zdh{H:Hp}:∀ {l:List (Addr × V × V)} {b:Addr},b∉l.map (·.1)->layP H l b=H b
 | [],b,_=>rfl
 | (p,x,y)::l,b,h=>by
  rw [List.map_cons,List.mem_cons,not_or] at h
  unfold layP
  rw [za5 h.1,zdh h.2]
theorem zfK{H:Hp}:∀ {l:List (Addr × V × V)} {p:Addr} {x y:V},(l.map (·.1)).Nodup->(p,x,y)∈l->layP H l p=some (.tup [x,y])
 | (p',x',y')::l,p,x,y,nd,h=>by
  rw [List.map_cons,List.nodup_cons] at nd
  unfold layP
  rcases List.mem_cons.mp h with e | h
  ·injection e with e1 e2
   injection e2 with e2 e3
   subst e1 e2 e3
   exact za8
  ·have ne:p≠p':=fun z=>nd.1 (by rw [<-z]; exact List.mem_map.mpr ⟨_,h,rfl⟩)
   rw [za5 ne,zfK nd.2 h]
section
variable {X:Cx}{a b:Expr}{ta:TA}{pos p p' pos':Pos}
def tLZs(K:PySem.W.Frag)(ta:TA):TE:=fun σ H Q=>ta σ H fun vs H1=>∃ a b xs ys,vs=[.ref a,.ref b]/\SqL K H1 a xs/\SqL K H1 b ys/\∀ l (ps:List Addr) H2,(∀ b o,H1 b=some o->H2 b=some o)->H1 l=none->H2 l=some (.lst (ps.map V.ref))->ps.length=min xs.length ys.length->(∀ (j:Nat) p x y,ps[j]?=some p->xs[j]?=some x->ys[j]?=some y->H1 p=none/\H2 p=some (.tup [x,y]))->Q (.ref l) H2
theorem zeD:∀ ps:List Addr,Vals (ps.map V.ref) (ps.map Value.ref)
 | []=>.nil
 | p::ps=>.cons rfl (zeD ps)
theorem zfF(hc:X.calm=true)(hg:Gl X "list")(hm:X.mg "list"=none)(hg':Gl X "zip")(hm':X.mg "zip"=none)(ha:PA X [a,b] ta)(hs:starEach [a,b] X.env=(false,eval a X.env)::starEach [b] X.env:=by rfl)(hs2:(backTo pos' (starEach [b] X.env)).any (·.1)=false:=by rfl)
  (hs':starEach [.Call (.Name "zip" p') [a,b] [] pos'] X.env=[(false,eval (.Call (.Name "zip" p') [a,b] [] pos') X.env)]:=by rfl) :
  PE X (.Call (.Name "list" p) [.Call (.Name "zip" p') [a,b] [] pos'] [] pos) (tLZs X.K ta):=by
 intro pins s σ H Q I h
 refine Call_ (zbP I hg hm boot_list (PyProof.Rows.callWith_type1 ?_ hs' rfl))
 rw [hs']
 show wpAny _ _ (spliced [(false,eval (.Call (.Name "zip" p') [a,b] [] pos') X.env)]) _ _ s
 refine Calls.spliced_cons (Call_ (zbP I hg' hm' PyProof.Rows.boot_zip (PyProof.Rows.callWith_type1 (thn (ha pos' pins s σ H _ I h) fun us s1 ⟨vs,H1,I1,r1,q1⟩=>?_) hs hs2)))
 obtain ⟨a1,a2,xs,ys,e,q1,q2,q⟩:=q1
 subst e
 cases r1 with
 | cons r rr=>
  cases rr with
  | cons r' rr=>
   cases rr
   cases r
   cases r'
   obtain ⟨it1,rv1,p1,z1⟩:=I1.list q1
   obtain ⟨it2,rv2,p2,z2⟩:=I1.list q2
   have n1:=rv1.length
   have n2:=rv2.length
   refine call_zip_2 p1.isList p2.isList fun h' hz hTI hTO hi1 hi2 hsz hk=>Calls.spliced_nil ?_
   have lt1:a1 < s1.heap.objs.size:=by obtain ⟨o,ho,_⟩:=p1.isList; exact Heap.lt_size ho
   have lt2:a2 < s1.heap.objs.size:=by obtain ⟨o,ho,_⟩:=p2.isList; exact Heap.lt_size ho
   refine zdO (s:={ s1 with heap:=h' }) (I1.ok.hd hc) (zh9 _ a1 a2 lt1 lt2) ⟨hTI,hi1,hi2,p1.isList.at fun o e=>hk _ o e,p2.isList.at fun o e=>hk _ o e,.inl ⟨hz,_,_,hTO⟩⟩ hz ?_ (fun h2 tk hk2=>?_) (by
    have:it1.toArray.size<=sizeLine:=by simpa [<-n1] using z1
    lia)
   ·show s1.heap.objs.size+4 < h'.objs.size/\s1.heap.objs.size+2 < h'.objs.size/\s1.heap.objs.size+3 < h'.objs.size/\s1.heap.objs.size < h'.objs.size/\s1.heap.objs.size+1 < h'.objs.size/\a1 < h'.objs.size/\a2 < h'.objs.size
    rw [hsz]
    have e1:@LT.lt Nat _ a1 s1.heap.objs.size:=lt1
    have e2:@LT.lt Nat _ a2 s1.heap.objs.size:=lt2
    exact ⟨Nat.lt_succ_self _,by lia,by lia,by lia,by lia,Nat.lt_of_lt_of_le e1 (Nat.le_add_right _ _),Nat.lt_of_lt_of_le e2 (Nat.le_add_right _ _)⟩
   ·obtain ⟨kp,ps,c,hM,hpl,hS⟩:=hk2
    dsimp only at kp hM hS
    have hsz:h'.objs.size=s1.heap.objs.size+5:=hsz
    have hpl:ps.length=min it1.length it2.length:=by simpa using hpl
    have old:∀ b:Addr,@LE.le Nat _ h'.objs.size b->H1 b=none:=fun b hb=>I1.hok.fresh (show @LE.le Nat _ _ _ by lia)
    -- the pairs,and what they hold
    have kz:∀ b∈(ps.zip (xs.zip ys)).map (·.1),b∈ps:=fun b hb=>by
     obtain ⟨⟨x,y⟩,hx,rfl⟩:=List.mem_map.mp hb
     exact (List.of_mem_zip hx).1
    have nd:((ps.zip (xs.zip ys)).map (·.1)).Nodup:=by
     rw [List.map_fst_zip (by rw [List.length_zip]; lia)]
     exact hM.nd
    have no:∀ b:Addr,@LT.lt Nat _ b h'.objs.size->b∉(ps.zip (xs.zip ys)).map (·.1):=fun b hb z=>by
     have:=(hM.lo b (kz b z)).1
     lia
    have nS:h'.objs.size∉(ps.zip (xs.zip ys)).map (·.1):=fun z=>(hM.lo _ (kz _ z)).2.1 rfl
    have at_:∀ (j:Nat) p x y,ps[j]?=some p->xs[j]?=some x->ys[j]?=some y->layP H1 (ps.zip (xs.zip ys)) p=some (.tup [x,y]):=fun j p x y h1 h2 h3=>by
     refine zfK nd (List.mem_of_getElem? (i:=j) ?_)
     rw [List.getElem?_zip_eq_some]
     refine ⟨h1,?_⟩
     rw [List.getElem?_zip_eq_some]
     exact ⟨h2,h3⟩
    refine ⟨.ref h'.objs.size,upd (layP H1 (ps.zip (xs.zip ys))) h'.objs.size (.lst (ps.map V.ref)),I1.laidM (t':=tk) (fun b o e=>?_) (fun b hb=>?_) (fun b o hb e=>?_),rfl,q _ ps _ (fun b o e=>?_) (old _ (Nat.le_refl _)) za8 ?_ fun j p x y h1 h2 h3=>⟨?_,?_⟩⟩
    ·have e1:@LT.lt Nat _ b s1.heap.objs.size:=Heap.lt_size e
     refine kp b o ?_ ?_ ?_ ?_ ?_ (hk b o e)<;>(show @Ne Nat _ _; lia)
    ·have h1:b≠h'.objs.size:=show @Ne Nat _ _ by lia
     rw [za5 h1,zdh (no b (by lia))]
    ·by_cases hb2:b=h'.objs.size
     ·subst hb2
      rw [za8] at e
      cases e
      refine ⟨by rw [List.length_map]; lia,ps.map Value.ref,c,zeD ps,hS⟩
     ·rw [za5 hb2] at e
      by_cases hz:b∈(ps.zip (xs.zip ys)).map (·.1)
      ·obtain ⟨⟨p0,x,y⟩,hx,rfl⟩:=List.mem_map.mp hz
       dsimp only at e hb hb2 hz ⊢
       rw [zfK nd hx] at e
       cases e
       obtain ⟨j,hj⟩:=List.getElem?_of_mem hx
       rw [List.getElem?_zip_eq_some] at hj
       obtain ⟨h1,h2⟩:=hj
       rw [List.getElem?_zip_eq_some] at h2
       obtain ⟨u,v,hu,hv,hp⟩:=hM.is j p0 h1
       obtain ⟨u',hu',ru⟩:=rv1.get h2.1
       obtain ⟨v',hv',rv⟩:=rv2.get h2.2
       have e1:u=u':=by simpa [hu'] using hu.symm
       have e2:v=v':=by simpa [hv'] using hv.symm
       subst e1 e2
       exact ⟨by show 2<=sizeLine; decide,[u,v],.cons ru (.cons rv .nil),_,hp,rfl,_,rfl⟩
      ·rw [zdh hz,I1.hok.fresh hb] at e
       cases e
    ·have hb:@LT.lt Nat _ b s1.heap.objs.size:=by
      rcases Nat.lt_or_ge b s1.heap.objs.size with z | z
      ·exact z
      ·rw [I1.hok.fresh z] at e; cases e
     have h1:b≠h'.objs.size:=show @Ne Nat _ _ by lia
     rw [za5 h1,zdh (no b (by lia))]
     exact e
    ·lia
    ·exact old p (hM.lo p (List.mem_of_getElem? h1)).1
    ·rw [za5 (hM.lo p (List.mem_of_getElem? h1)).2.1]
     exact at_ j p x y h1 h2 h3
end
end L2
namespace L2
open PySem PySem.Spec PyProof.Rows
theorem zbr:∀ (names:List (Str × NameKind)) (n:Nat) (acc:List (Str × Addr)),cellsFrom n names acc=cellsFrom n names []++acc
 | [],n,acc=>rfl
 | (x,k)::r,n,acc=>by
  unfold cellsFrom
  split
  ·rw [zbr r (n+1) ((x,n)::acc),zbr r (n+1) [(x,n)],List.append_assoc]; rfl
  ·exact zbr r n acc
theorem zcW:∀ (names:List (Str × NameKind)) (n:Nat) (acc:List (Str × Addr)) (x:Str) (c:Addr),(x,c)∈cellsFrom n names acc->(x,c)∈acc∨(x,NameKind.cell)∈names
 | [],n,acc,x,c,h=>.inl h
 | (y,k)::r,n,acc,x,c,h=>by
  unfold cellsFrom at h
  split at h
  ·rename_i hk
   rcases zcW r _ _ x c h with z | z
   ·rcases List.mem_cons.mp z with z | z
    ·injection z with z1 z2
     subst z1
     right
     rw [eq_of_beq hk]
     exact List.mem_cons_self
    ·exact .inl z
   ·exact .inr (List.mem_cons_of_mem _ z)
  ·rcases zcW r _ _ x c h with z | z
   ·exact .inl z
   ·exact .inr (List.mem_cons_of_mem _ z)
theorem zbU:∀ (names:List (Str × NameKind)) (n:Nat) (acc:List (Str × Addr)) (x:Str),((x,NameKind.cell)∈names∨∃ c,(x,c)∈acc)->∃ c,(x,c)∈cellsFrom n names acc
 | [],n,acc,x,h=>by
  rcases h with h | h
  ·cases h
  ·exact h
 | (y,k)::r,n,acc,x,h=>by
  unfold cellsFrom
  split
  ·refine zbU r _ _ x ?_
   rcases h with h | ⟨c,h⟩
   ·rcases List.mem_cons.mp h with z | z
    ·injection z with z1 z2
     subst z1
     exact .inr ⟨n,List.mem_cons_self⟩
    ·exact .inl z
   ·exact .inr ⟨c,List.mem_cons_of_mem _ h⟩
  ·rename_i hk
   refine zbU r _ _ x ?_
   rcases h with h | h
   ·rcases List.mem_cons.mp h with z | z
    ·injection z with z1 z2
     subst z2
     exact absurd rfl hk
    ·exact .inl z
   ·exact .inr h
theorem zed{M:Model}{A:Around}{E:Value->Shared->Prop}{s:Shared}{scope:Scope}{globals:Addr}{closure:List (Str × Addr)}{qual:Str}{func:Option Addr}{code:Value}{around:Env}{builtins:Addr}{Q:Env->Shared->Prop}
  (hQ:Q (newEnv scope s.heap.objs.size globals (cellsFrom (s.heap.objs.size+1) scope.names closure) qual func code (some around) builtins) { s with heap:=pushCells (s.heap.push { cls:=.type "dict",data:=.dict #[] }) scope.names }) :
  wpAny M A (newFunctionEnv scope globals closure [] qual func code (some around) builtins) Q E s:=by
 simp only [newFunctionEnv,Option.isSome_some,if_true]
 refine wpAny_bind (wpAny_alloc ?_)
 refine wpAny_bind (wpAny_layCells _ (fun name kind cells=>by cases hkc:kind == NameKind.cell<;>simp [hkc]) _ _ _ _ ?_)
 rw [show ({ s with heap:=s.heap.push { cls:=.type "dict",data:=.dict #[] } }:Shared).heap.objs.size=s.heap.objs.size+1 from Heap.size_push ..]
 rw [List.forIn_nil]
 exact wpAny_bind (wpAny_pure (wpAny_pure hQ))
theorem zei{scope:Scope}{env:Env}{x:Str}(h:(relabel scope env).names.lookup x=some .cell∨(relabel scope env).names.lookup x=some .free):(x,NameKind.free)∈scope.names∨(x,NameKind.cell)∈scope.names:=by
 have key:∀ k,(x,k)∈(relabel scope env).names->k=.cell∨k=.free->(x,NameKind.free)∈scope.names∨(x,NameKind.cell)∈scope.names:=fun k hm hk=>by
  obtain ⟨⟨n,k'⟩,hn,e⟩:=List.mem_map.mp hm
  dsimp only at e
  split at e
  ·rename_i hc
   injection e with e1 e2
   subst e1
   have:k'=.free:=by
    simp only [Bool.and_eq_true] at hc
    simpa using hc.1.1
   subst this
   exact .inl hn
  ·injection e with e1 e2
   subst e1; subst e2
   rcases hk with z | z
   ·subst z; exact .inr hn
   ·subst z; exact .inl hn
 rcases h with h | h
 ·exact key _ (za4 h) (.inl rfl)
 ·exact key _ (za4 h) (.inr rfl)
theorem zbO{α:Type}{x:Str}:∀ {l l':List (Str × α)},(∀ c,(x,c)∉l)->(l++l').lookup x=l'.lookup x
 | [],l',_=>rfl
 | (y,c)::l,l',h=>by
  have hxy:(x == y)=false:=by
   cases hb:x == y with
   | false=>rfl
   | true=>exact absurd (by rw [eq_of_beq hb]; exact List.mem_cons_self) (h c)
  rw [List.cons_append,List.lookup_cons,hxy]
  exact zbO fun c' hc=>h c' (List.mem_cons_of_mem _ hc)
theorem zbN{α:Type}{x:Str}{z:α}:∀ {l l':List (Str × α)},l.lookup x=some z->(l++l').lookup x=some z
 | (y,c)::l,l',h=>by
  rw [List.lookup_cons] at h
  rw [List.cons_append,List.lookup_cons]
  cases hb:x == y with
  | true=>rw [hb] at h; exact h
  | false=>rw [hb] at h; exact zbN h
def zb2(X:Cx)(N:List Str)(scope:Scope)(cl:List (Str × Addr))(C:Addr)(s0:Shared)(H0:Hp)(fp:List Addr):Cx:={ zae X N scope cl C s0 H0 fp with fn:=fun x=>scope.names.lookup x == some NameKind.cell }
section
variable {X:Cx}{N:List Str}{scope:Scope}{cl:List (Str × Addr)}{caps:List (Option Nat)}{pins:List (Addr × Obj)}{sg:St}{H:Hp}{s:Shared}{fp:List Addr}{h1:Heap}{tk:Nat}{m0:Str->Option Value}
theorem zkf{L:Nat}{h:Heap}(hL:h.objs.size=L+1):CellsOk (pushCells h scope.names) (L+1) (cellsFrom (L+1) scope.names []):=by
 have:=cellsFrom_ok scope.names h (L+1) [] ⟨fun _ _ hm=>(nomatch hm),List.Pairwise.nil⟩ (by rw [hL]; exact Nat.le_refl _)
 rw [hL] at this
 exact this
theorem zdJ{L x c}(h:(cellsFrom (L+1) scope.names cl).lookup x=some c):(x,c)∈cl∨(x,c)∈cellsFrom (L+1) scope.names []:=by
 have:=za4 h
 rw [zbr] at this
 exact (List.mem_append.mp this).symm
theorem zeb(hkind:scope.kind=.function)(I:Inv X pins sg H s)
  (hcl1:∀ p∈cl,X.env.cells.lookup p.1=some p.2) (hcl2:∀ x,(x,NameKind.free)∈scope.names->∃ c,(x,c)∈cl)
  (hf:∀ b∈fp,FpOk X pins H b) (hlt:∀ b∈fp,b < s.heap.objs.size):(zb2 X N scope (cellsFrom (s.heap.objs.size+1) scope.names cl) s.heap.objs.size s H fp).Ok:=by
 have ck:=zkf (scope:=scope) (L:=s.heap.objs.size) (h:=s.heap.push { cls:=.type "dict",data:=.dict #[] }) (Heap.size_push ..)
 have lo:∀ x c,(x,c)∈cellsFrom (s.heap.objs.size+1) scope.names []->@LT.lt Nat _ s.heap.objs.size c:=fun x c h=>(ck.empty x c h).2
 have hi:∀ x c,(x,c)∈cl->@LT.lt Nat _ c s.heap.objs.size:=fun x c h=>by
  obtain ⟨v,hv⟩:=I.cell x c (hcl1 (x,c) h)
  exact hv.lt
 exact {
  mod:=I.ok.mod
  kind:=hkind
  glob:=I.ok.glob
  blt:=I.ok.blt
  above:=Nat.le_refl _
  inj:=fun x y c hx hy=>by
   rcases zdJ hx with a | a<;>rcases zdJ hy with b | b
   ·exact I.ok.inj x y c (hcl1 (x,c) a) (hcl1 (y,c) b)
   ·have:=hi _ _ a; have:=lo _ _ b; lia
   ·have:=hi _ _ b; have:=lo _ _ a; lia
   ·exact name_of_addr ck.apart a b
  has:=fun x hx=>by
   rcases zei hx with z | z
   ·obtain ⟨c,hc⟩:=zbU scope.names (s.heap.objs.size+1) cl x (.inr (hcl2 x z))
    exact zaf hc
   ·obtain ⟨c,hc⟩:=zbU scope.names (s.heap.objs.size+1) cl x (.inl z)
    exact zaf hc
  cab:=fun x c hx hc=>by
   have hx':scope.names.lookup x=some NameKind.cell:=eq_of_beq hx
   obtain ⟨c',hc'⟩:=zbU scope.names (s.heap.objs.size+1) [] x (.inl (za4 hx'))
   obtain ⟨c'',hc''⟩:=zaf hc'
   have hc:(cellsFrom (s.heap.objs.size+1) scope.names cl).lookup x=some c:=hc
   rw [zbr,zbN hc''] at hc
   obtain rfl:=Option.some.inj hc
   exact Nat.le_of_lt (lo _ _ (za4 hc''))
  hd:=I.ok.hd
  frames:=I.ok.frames
  stk:=.inl rfl
  exf:=fun b hb=>⟨Nat.ne_of_lt (hlt b hb),fun x c hx=>by
   rcases zdJ hx with a | a
   ·exact (hf b hb).2.2.2.2.1 x c (hcl1 (x,c) a)
   ·have h1:=lo _ _ a
    have h2:@LT.lt Nat _ b s.heap.objs.size:=hlt b hb
    exact show @Ne Nat _ _ by lia⟩
  bs:=I.bs
  bsz:=Nat.le_trans I.ok.bsz I.sz
  noex:=fun b o e hb=>by
   rcases (hf b hb).2.2.2.1 with z | z
   ·exact I.ok.noex b o e z
   ·exact absurd (Nat.lt_of_lt_of_le (Heap.lt_size e) (Nat.le_trans I.ok.bsz z)) (Nat.lt_irrefl _)
  exfs:=fun b hb z=>by
   rcases List.mem_cons.mp (I.stkSub b z) with e | e
   ·exact (hf b hb).2.1 e
   ·exact (hf b hb).2.2.1 e
  funs:=I.stack
  frf:=I.stkFree }
theorem zfX(hcap:capOk N X.N scope X.env.scope caps=true)(hkind:scope.kind=.function)(hcn:∀ x,(x,NameKind.cell)∈scope.names->scope.names.lookup x=some .cell)(I:Inv X pins sg H s)
  (hcl1:∀ p∈cl,X.env.cells.lookup p.1=some p.2) (hcl2:∀ x,(x,NameKind.free)∈scope.names->∃ c,(x,c)∈cl)
  (hf:∀ b∈fp,FpOk X pins H b) (hlt:∀ b∈fp,b < s.heap.objs.size) :
  Inv (zb2 X N scope (cellsFrom (s.heap.objs.size+1) scope.names cl) s.heap.objs.size s H fp) [] (capSt caps sg) H { s with heap:=pushCells (s.heap.push { cls:=.type "dict",data:=.dict #[] }) scope.names }:=by
 have ck:=zkf (scope:=scope) (L:=s.heap.objs.size) (h:=s.heap.push { cls:=.type "dict",data:=.dict #[] }) (Heap.size_push ..)
 have hk:∀ b u,s.heap.get? b=some u->(pushCells (s.heap.push { cls:=.type "dict",data:=.dict #[] }) scope.names).get? b=some u:=fun b u e=>pushCells_keeps _ _ b u (Heap.get?_push_of_some _ e)
 have hns:(pushCells (s.heap.push { cls:=.type "dict",data:=.dict #[] }) scope.names).Ns s.heap.objs.size (fun _=>none):=(Heap.Ns.new s.heap (.type "dict")).keeps (pushCells_keeps _ _)
 exact {
  ok:=zeb hkind I hcl1 hcl2 hf hlt
  os:=rfl
  bare:=I.bare
  base:=Un.kept hk
  loc:=by
   refine ⟨_,hns,fun i x v e1 e2 e3=>?_⟩
   have e2':∃ j,caps[i]?=some (some j)/\sg[j]?=some (some v):=by
    unfold capSt at e2
    rw [List.getElem?_map] at e2
    cases hc:caps[i]? with
    | none=>rw [hc] at e2; simp at e2
    | some o=>
     rw [hc] at e2
     cases o with
     | none=>simp at e2
     | some j=>
      refine ⟨j,rfl,?_⟩
      simp only [Option.map_some,Option.bind_some,Option.some.injEq] at e2
      cases hj:sg[j]? with
      | none=>rw [hj] at e2; simp at e2
      | some y=>rw [hj] at e2; simp at e2; rw [e2]
   obtain ⟨j,hj1,hj2⟩:=e2'
   obtain ⟨x',n1,n2,f1,f2⟩:=capOk.get hcap hj1
   have e1':N[i]?=some x:=e1
   rw [e1'] at n1
   obtain rfl:x=x':=Option.some.inj n1
   obtain ⟨m,hn,hm⟩:=I.loc
   obtain ⟨u,ru,l⟩:=hm j x v n2 hj2 (f2.elim (fun z=>.inr (.inl z)) fun z=>.inr (.inr z))
   refine ⟨u,ru,.inr ⟨zcc f1,?_⟩⟩
   rcases l with ⟨k,_⟩ | ⟨_,c,hc,hcell⟩
   ·have k':X.env.scope.names.lookup x=some .local:=k
    rcases f2 with z | z<;>(rw [k'] at z; cases z)
   ·obtain ⟨c',hc'⟩:=hcl2 x (za4 f1)
    obtain ⟨c'',hc''⟩:=zaf hc'
    have q:X.env.cells.lookup x=some c'':=hcl1 (x,c'') (za4 hc'')
    rw [hc] at q
    obtain rfl:c=c'':=Option.some.inj q
    obtain ⟨o,ho,hd⟩:=hcell
    refine ⟨c,?_,o,hk c o ho,hd⟩
    show (cellsFrom (s.heap.objs.size+1) scope.names cl).lookup x=some c
    rw [zbr,zbO fun c' hc'=>?_]
    ·exact hc''
    ·rcases zcW _ _ _ _ _ hc' with z | z
     ·cases z
     ·rw [hcn x z] at f1; cases f1
  cell:=fun x c hx=>by
   rcases zdJ hx with a | a
   ·obtain ⟨v,o,ho,hd⟩:=I.cell x c (hcl1 (x,c) a)
    exact ⟨v,o,hk c o ho,hd⟩
   ·exact ⟨none,(ck.empty x c a).1⟩
  free:=I.hok.fresh (Nat.le_refl _)
  freeC:=fun x c hx=>by
   rcases zdJ hx with a | a
   ·exact I.freeC x c (hcl1 (x,c) a)
   ·exact I.hok.fresh (Nat.le_of_lt (ck.empty x c a).2)
  pin:=fun p hp=>nomatch hp
  hok:=I.hok.kept hk
  len:=by
   show (capSt caps sg).length=N.length
   unfold capSt
   rw [List.length_map]
   exact capOk.len hcap }
end
section
variable {X:Cx}{N:List Str}{scope:Scope}{caps:List (Option Nat)}{tg elt iter:Expr}{ifs:List Expr}{wi:TI}{g:TG}{tt:TT}{te:TE}{pos:Pos}
theorem zi0{pins:List (Addr × Obj)}{sg:St}{H:Hp}{s2:Shared}{cl:List (Str × Addr)}{it:Addr}{fp:List Addr}{tn:Nat->Heap->Prop}{J:It}{Q:VK}{E:Value->Shared->Prop}{RR:Value->Addr->Result->Shared->Prop}
  (hc:X.calm=true) (hcap:capOk N X.N scope X.env.scope caps=true) (hkind:scope.kind=.function) (hcn:∀ x,(x,NameKind.cell)∈scope.names->scope.names.lookup x=some .cell)
  (hg:∀ cl C s0 H0 fp,PG (zb2 X N scope cl C s0 H0 fp) tg g) (hgk:KeepG caps g) (ht:∀ cl C s0 H0 fp,PTs (zb2 X N scope cl C s0 H0 fp) ifs tt) (he:∀ cl C s0 H0 fp,PE (zb2 X N scope cl C s0 H0 fp) elt te)
  (hcl1:∀ p∈cl,X.env.cells.lookup p.1=some p.2) (hcl2:∀ x,(x,NameKind.free)∈scope.names->∃ c,(x,c)∈cl)
  (I2:Inv X pins sg H s2) (T:Turn X.prog X.w X.K tg J fp it tn) (st2:tn 0 s2.heap) (f2:∀ b∈fp,FpOk X pins H b) (hw:lcW J g tt te (capSt caps sg) Q H)
  (hRR:∀ (D C:Addr) (s':Shared) (H':Hp) (m':Str->Option Value),Inv X pins sg H' s'->s'.heap.Ns C m'->H' C=none->s2.heap.objs.size<=C->(∀ x c,X.env.cells.lookup x=some c->c≠C)->(∀ p∈X.pn++pins,p.1≠C)->C≠X.env.locals->Q (.ref D) H'->RR (.ref D) C (.ok .next) s') :
  wpAny (model X.prog X.w) X.A (newList []) (fun acc s3=>wpAny (model X.prog X.w) X.A (newFunctionEnv scope X.env.globals cl [] X.env.qual none .none (some X.env)) (fun cenv s4=>
   codeAny (model X.prog X.w) X.A (.compStart (.ListComp elt [⟨tg,iter,ifs,0⟩] scope pos) 0 (.ref it) acc { cenv with scope:=relabel scope X.env }) (RR acc cenv.locals) s4) E s3) E s2:=by
 refine wpAny_newObj_type ?_
 have I3:Inv X pins sg (upd H s2.heap.objs.size (.lst [])) { s2 with heap:=s2.heap.push { cls:=.type "list",dict:=none,data:=.seq ([]:List Value).toArray } }:=
  I2.laid (t':=s2.toks) (fun b u e=>Heap.get?_push_of_some _ e) (Nat.le_refl _) ⟨Nat.zero_le _,[],0,.nil,Heap.get?_push_size _ rfl⟩
 have hfree:H s2.heap.objs.size=none:=I2.hok.fresh (Nat.le_refl _)
 obtain ⟨W,⟨mm,w0⟩,turn⟩:=hw s2.heap.objs.size hfree
 generalize hD:s2.heap.objs.size=D at *
 generalize hs3:({ s2 with heap:=s2.heap.push { cls:=.type "list",dict:=none,data:=.seq ([]:List Value).toArray } }:Shared)=s3 at *
 have hlt3:∀ b o,s2.heap.get? b=some o->s3.heap.get? b=some o:=fun b o e=>by rw [<-hs3]; exact Heap.get?_push_of_some _ e
 have hsz3:s3.heap.objs.size=D+1:=by rw [<-hs3,<-hD]; exact Heap.size_push ..
 have fpD:∀ b∈fp,b < D:=fun b hb=>by
  obtain ⟨o,ho,_⟩:=T.obj 0 _ st2 b hb
  rw [<-hD]; exact Heap.lt_size ho
 have f3:∀ b∈fp,FpOk X pins (upd H D (.lst [])) b:=fun b hb=>⟨by rw [za5 (Nat.ne_of_lt (fpD b hb))]; exact (f2 b hb).1,(f2 b hb).2⟩
 have lt3:∀ b∈fp,b < s3.heap.objs.size:=fun b hb=>by rw [hsz3]; exact Nat.lt_succ_of_lt (fpD b hb)
 have st3:tn 0 s3.heap:=T.keep 0 _ _ st2 fun b _ o e=>hlt3 b o e
 refine zed ?_
 have keep1:∀ b u,s3.heap.get? b=some u->(pushCells (s3.heap.push { cls:=.type "dict",data:=.dict #[] }) scope.names).get? b=some u:=fun b u e=>pushCells_keeps _ _ b u (Heap.get?_push_of_some _ e)
 have I4:=zfX (N:=N) hcap hkind hcn I3 hcl1 hcl2 f3 lt3
 generalize hcl':cellsFrom (s3.heap.objs.size+1) scope.names cl=cl' at I4 ⊢
 generalize hh1:pushCells (s3.heap.push { cls:=.type "dict",data:=.dict #[] }) scope.names=h1 at keep1 I4 ⊢
 have okC:(zb2 X N scope cl' s3.heap.objs.size s3 (upd H D (.lst [])) fp).Ok:=by rw [<-hcl']; exact zeb hkind I3 hcl1 hcl2 f3 lt3
 have loop:codeAny (model X.prog X.w) X.A (.compLoop (.ListComp elt [⟨tg,iter,ifs,0⟩] scope pos) 0 (.ref it) (.ref D) (compEnvC scope cl' s3.heap.objs.size X.env)) (RR (.ref D) s3.heap.objs.size) { s3 with heap:=h1 }:=by
  generalize hX':zb2 X N scope cl' s3.heap.objs.size s3 (upd H D (.lst [])) fp=X' at I4
  have eP:X'.prog=X.prog:=by rw [<-hX']; rfl
  have ew:X'.w=X.w:=by rw [<-hX']; rfl
  have eK:X'.K=X.K:=by rw [<-hX']; rfl
  have eA:X'.A=X.A:=by rw [<-hX']; rfl
  have eE:X'.env=compEnvC scope cl' s3.heap.objs.size X.env:=by rw [<-hX']; rfl
  have ex:X'.xe=fun _ _=>False:=by rw [<-hX']; rfl
  have ecalm:X'.calm=true:=by rw [<-hX']; exact hc
  have hg':PG X' tg g:=by rw [<-hX']; exact hg _ _ _ _ _
  have ht':PTs X' ifs tt:=by rw [<-hX']; exact ht _ _ _ _ _
  have he':PE X' elt te:=by rw [<-hX']; exact he _ _ _ _ _
  have stat:∀ {H':Hp},(∀ b∈fp,H' b=none)->∀ b∈fp,FpOk X' [] H' b:=fun {H'} hn b hb=>by
   refine ⟨hn b hb,?_,?_,?_,?_,fun p hp=>?_⟩
   ·rw [<-hX']; exact Nat.ne_of_lt (lt3 b hb)
   ·rw [<-hX']
    exact fun z=>okC.exfs b hb z
   ·rw [<-hX']; exact .inl hb
   ·rw [<-hX']
    exact (okC.exf b hb).2
   ·rw [<-hX'] at hp; cases hp
  have out:∀ {sg':St} {H':Hp} {s':Shared},Inv X' [] sg' H' s'->Inv X pins sg H' s':=fun {sg' H' s'} I'=>by
   have hb:=I'.base
   rw [<-hX'] at hb
   have ho:=I'.os
   rw [<-hX'] at ho
   have hk:=I'.hok
   rw [eP,ew] at hk
   exact I3.call' (ch:=fp) ho hb hk I'.bare fun b hb=>⟨(f3 b hb).2.2.2.1,(f3 b hb).2.1,(f3 b hb).2.2.2.2.1,(f3 b hb).2.2.2.2.2⟩
  rw [<-eE,<-eA,<-eP,<-ew]
  refine zda (fun n s'=>∃ i H',Inv X' [] (capSt caps sg) H' s'/\tn i s'.heap/\(∀ b∈fp,H' b=none)/\W i n H') ?_ mm
   ⟨0,_,I4,T.keep 0 _ _ st3 fun b _ o e=>keep1 b o e,fun b hb=>(f3 b hb).1,w0⟩
  rintro n s5 ⟨i,H5,I5,st5,fr5,w5⟩
  rcases turn i n H5 w5 with ⟨stop,q⟩ | ⟨go,step⟩
  ·have z:=T.done X' eP ew eK ecalm i [] s5 _ H5 (fun _ _=>False) I5 (stat fr5) st5 stop
   rw [<-eP,<-ew] at z
   refine thn z fun r s6 h_=>?_; obtain ⟨hr,I6⟩:=h_
   subst hr
   obtain ⟨m',hn',_⟩:=I6.loc
   have hfr:=I6.free
   rw [eE] at hn' hfr
   refine hRR D s3.heap.objs.size s6 H5 m' (out I6) hn' hfr (by rw [hsz3]; exact Nat.le_succ _) (fun x c e z=>?_) (fun p hp z=>?_) (fun z=>?_) q
   ·obtain ⟨v,o,ho,_⟩:=I3.cell x c e
    rw [z] at ho
    exact absurd (Heap.lt_size ho) (Nat.lt_irrefl _)
   ·have:=Heap.lt_size (I3.pin p hp).1
    rw [z] at this
    exact absurd this (Nat.lt_irrefl _)
   ·have:=I3.lt
    rw [<-z] at this
    exact absurd this (Nat.lt_irrefl _)
  ·have z:=T.item X' eP ew eK ecalm i [] s5 _ H5 (fun _ _=>False) I5 (stat fr5) st5 go
   rw [<-eP,<-ew] at z
   refine thn z fun r s6 h_=>?_; obtain ⟨u,hr,h6⟩:=h_
   subst hr
   dsimp only
   refine thn h6 fun _ s7 h_=>?_; obtain ⟨x,H7,I7,r7,y7,st7,fr7⟩:=h_
   have I7':=I7.pinned (stat fr7) (T.obj _ _ st7)
   have q7:=step x H7 y7
   have a7:=hg' _ s7 (capSt caps sg) H7 x u _ I7' r7 (hgk _ _ _ _ q7)
   rw [ex] at a7
   refine thn a7 fun _ s8 h_=>?_; obtain ⟨sg8,H8,I8,q8,k8⟩:=h_
   have k8':∀ (j:Nat) (v:V),(capSt caps sg)[j]?=some (some v)->sg8[j]?=some (some v):=fun j v e=>by
    have e':=e
    unfold capSt at e'
    rw [List.getElem?_map] at e'
    cases hc:caps[j]? with
    | none=>rw [hc] at e'; simp at e'
    | some o=>
     cases o with
     | none=>rw [hc] at e'; simp at e'
     | some k=>rw [k8 j k hc]; exact e
   have a8:=ht' _ s8 sg8 H8 _ I8 q8
   rw [ex] at a8
   refine thn a8 fun ok s9 h_=>?_; obtain ⟨H9,I9,q9⟩:=h_
   have again:∀ {sg':St} {H':Hp} {s':Shared} {m':Nat},Inv X' ([]++zd5 fp s7.heap) sg' H' s'->(∀ (j:Nat) (v:V),(capSt caps sg)[j]?=some (some v)->sg'[j]?=some (some v))->m' < n->W (i+1) m' H'->
     ∃ m,m < n/\∃ i H',Inv X' [] (capSt caps sg) H' s'/\tn i s'.heap/\(∀ b∈fp,H' b=none)/\W i m H':=fun {sg' H' s' m'} I' hs hm hw=>by
    refine ⟨m',hm,i+1,H',I'.unpinned.forget (I4.len.trans I'.len.symm) hs,T.keep _ _ _ st7 fun b hb o e=>(I'.pin (b,o) (List.mem_append_right _ (List.mem_append_right _ (zau hb e)))).1,fun b hb=>?_,hw⟩
    obtain ⟨o,e,d⟩:=T.obj _ _ st7 b hb
    exact (I'.pin (b,o) (List.mem_append_right _ (List.mem_append_right _ (zau hb e)))).2.1
   cases ok with
   | false=>
    obtain ⟨m',hm,w9⟩:=q9
    exact again I9 k8' hm w9
   | true=>
    have a9:=he' _ s9 sg8 H9 _ I9 q9
    rw [ex] at a9
    refine thn a9 fun v s10 h_=>?_; obtain ⟨y,H10,I10,r10,xs,hD',hz,m',hm,w10⟩:=h_
    have a10:=zb8 (X:=X') _ s10 sg8 H10 (.ref D) [y] (.ref D) [v] (fun _ H'=>W (i+1) m' H') I10 rfl (.cons r10 .nil) ⟨D,xs,y,rfl,rfl,hD',hz,w10⟩
    rw [ex] at a10
    exact thn a10 fun _ s11 ⟨_,H11,I11,_,w11⟩=>again I11 k8' hm w11
 exact codeAny_compStart_list loop (T.self _ _ _ _ _ (T.keep 0 _ _ st3 fun b _ o e=>keep1 b o e) loop)
theorem zhF{i:Nat}{y:Str}{py spos:Pos}(hN:X.N.Nodup)(hiy:X.N[i]?=some y)(hy:X.env.scope.names.lookup y=some .local)(hc:X.calm=true)(hi:PI X tg iter wi)(hg:∀ cl C s0 H0 fp,PG (zb2 X N scope cl C s0 H0 fp) tg g)(hgk:KeepG caps g)(ht:∀ cl C s0 H0 fp,PTs (zb2 X N scope cl C s0 H0 fp) ifs tt)(he:∀ cl C s0 H0 fp,PE (zb2 X N scope cl C s0 H0 fp) elt te)
  (hsw:swapsWith (.ListComp elt [⟨tg,iter,ifs,0⟩] scope pos) (some (.Name y py)) spos.line X.env=pure true:=by rfl)
  (hcap:capOk N X.N scope X.env.scope caps=true:=by rfl) (hkind:scope.kind=.function:=by rfl) (hcell:scope.names.all (fun p=>p.2 != .cell||scope.names.lookup p.1 == some .cell)=true:=by rfl)
  (hnames:scope.names.all (fun p=>p.2 != .local||scope.names.lookup p.1 == some .local)=true:=by rfl)
  (hfr:scope.names.all (fun p=>p.2 != .free||(X.env.scope.names.lookup p.1 == some .cell||X.env.scope.names.lookup p.1 == some .free))=true:=by rfl)
  (hs:∀ x,foldedSetIterable iter X.env x=pure x:=by intro _; rfl):PS X (.Assign [.Name y py] (.ListComp elt [⟨tg,iter,ifs,0⟩] scope pos) spos) (tAsg (tLC caps wi g tt te) (gName i)):=by
 intro pins s sg H D0 I h
 have hcell':∀ x,(x,NameKind.cell)∈scope.names->scope.names.lookup x=some .cell:=fun x hx=>by
  have q:=List.all_eq_true.mp hcell _ hx
  simpa using q
 have hnames':∀ x∈scope.names,x.2=.local->scope.names.lookup x.1=some .local:=fun x hx e=>by
  have q:=List.all_eq_true.mp hnames x hx
  rw [e] at q
  simpa using q
 obtain ⟨cl,hclos,hcl1,hcl2⟩:=zaW (scope:=scope) (env:=X.env) (zcx I.ok hfr)
 rw [exec_Assign_Name_used _ _ _ _ hsw]
 refine wpAny_bind (wpAny_standAt (wpAny_bind ?_))
 show wpAny _ X.A (do let _ <-comprehension (.ListComp elt [⟨tg,iter,ifs,0⟩] scope pos) scope X.env _ (newList []) false (eval iter X.env) (some (assign (.Name y py) X.env))) _ _ s
 refine wpAny_bind (wpAny_mono (wpAny_comprehension_free (use:=some (assign (.Name y py) X.env)) (Q:=fun _ s'=>SP X pins D0 .next s') rfl hs hclos hkind hnames'
  (thn (hi pins s sg H _ I h) fun v s1 h1=>thn h1 fun itv s2 h2=>?_)) (fun _ s' hq=>wpAny_pure (wpAny_pure hq)) fun _ _ e=>e)
 obtain ⟨it,fp,tn,J,H2,e,I2,T,st2,f2,hw⟩:=h2
 subst e
 refine zi0 (Q:=fun x H1=>gName i x sg H1 D0.nx) (RR:=fun acc C=>compPost (model X.prog X.w) X.A X.xe (some (assign (.Name y py) X.env)) (fun _ s'=>SP X pins D0 .next s') acc C) hc hcap hkind hcell' hg hgk ht he hcl1 hcl2 I2 T st2 f2 hw ?_
 intro D C s' H' m' I' hn hfree hCs hCc hCp hCl q
 show wpAny _ X.A (assign (.Name y py) X.env (.ref D)) _ _ _
 refine wpAny_assign_Name (zdo I' hN hiy (.inl hy) (v:=.ref D) rfl (fun s3 I3 ⟨a,hs3,ha⟩=>?_) (.inr hy))
 have hCa:C≠a:=by
  rcases ha with z | z
  ·rw [z]; exact hCl
  ·exact fun z'=>hCc y a z z'.symm
 refine ⟨m',hn.sameBut hs3 hCa,fun h' hs'=>?_⟩
 exact ⟨_,H',I3.turned (t':=s3.toks) (it:=C) (fun b o hb e=>(hs'.2 b hb).trans e) hfree hCl (.inr (Nat.le_trans I2.sz hCs)) hCc hCp,q⟩
end
end L2
namespace L2
open PySem PySem.Spec PyProof.Rows
def Itzl(K:PySem.W.Frag)(a b:Addr):It:=
  ⟨fun i H=>∃ xs x ys y,SqL K H a xs/\xs[i]?=some x/\SqL K H b ys/\ys[i]?=some y,
   fun i H v H'=>∃ p x y,v=.ref p/\H p=none/\H'=upd H p (.tup [x,y])/\(∀ xs,SqL K H a xs->xs[i]?=some x)/\∀ ys,SqL K H b ys->ys[i]?=some y,
   fun i H=>∃ xs ys,SqL K H a xs/\SqL K H b ys/\(xs.length<=i∨ys.length<=i)⟩
theorem zhf{P:Program}{w:World}{K:PySem.W.Frag}{elts:List Expr}{x1:Nat}{tp:Pos}(a d z TI TO i1 i2:Addr)(D:ZAp z TI TO i1 i2 [i1,a] [i2,d])(hai:a≠i1)(hdi:d≠i2) :
  Turn P w K (.Tuple elts x1 tp) (Itzl K a d) [z,TI,TO,i1,i2] z
   (fun i h=>IsZip h z TI TO .none/\IsPair h TI (.ref i1) (.ref i2)/\(∃ u v,IsPair h TO u v)/\h.IsListIter i1 a i/\h.IsListIter i2 d i) where
 mem:=by simp
 obj:=fun i h st b hb=>by
  obtain ⟨hz,hTI,⟨u,v,hTO⟩,⟨o1,e1,c1,d1⟩,⟨o2,e2,c2,d2⟩⟩:=st
  simp only [List.mem_cons,List.mem_nil_iff,or_false] at hb
  rcases hb with q | q | q | q | q
  ·rw [q]; exact ⟨_,hz,fun v z=>by have z':Data.fields _=Data.cell v:=z; cases z'⟩
  ·rw [q]; exact ⟨_,hTI,fun v z=>by have z':Data.seq _ _=Data.cell v:=z; cases z'⟩
  ·rw [q]; exact ⟨_,hTO,fun v z=>by have z':Data.seq _ _=Data.cell v:=z; cases z'⟩
  ·rw [q]; exact ⟨_,e1,fun v z=>by rw [d1] at z; cases z⟩
  ·rw [q]; exact ⟨_,e2,fun v z=>by rw [d2] at z; cases z⟩
 keep:=fun i h h' st k=>by
  obtain ⟨hz,hTI,⟨u,v,hTO⟩,h1,h2⟩:=st
  exact ⟨k z (by simp) _ hz,k TI (by simp) _ hTI,⟨u,v,k TO (by simp) _ hTO⟩,h1.at fun o e=>k i1 (by simp) o e,h2.at fun o e=>k i2 (by simp) o e⟩
 item:=by
  intro X hP hw hK hc i pins s sg H E I hf st hg
  subst hP hw hK
  obtain ⟨hz,hTI,⟨u,v,hTO⟩,h1,hit⟩:=st
  obtain ⟨xs,x,ys,y,hqx,hx,hqy,hy⟩:=hg
  obtain ⟨its,rv,p,hz'⟩:=I.list hqx
  obtain ⟨w1,hw1,rw1⟩:=rv.get hx
  obtain ⟨its2,rv2,p2,hz2⟩:=I.list hqy
  obtain ⟨w2,hw2,rw2⟩:=rv2.get hy
  have hlt1:i < its.toArray.size:=by simpa using (List.getElem?_eq_some_iff.mp hw1).1
  have hlt2:i < its2.toArray.size:=by simpa using (List.getElem?_eq_some_iff.mp hw2).1
  have D1:=Draws.list (prog:=X.prog) (w:=X.w) (A:=X.A.in1) (I.ok.hd hc) i1 a hai its.toArray
  have D2:=Draws.list (prog:=X.prog) (w:=X.w) (A:=X.A.in1) (I.ok.hd hc) i2 d hdi its2.toArray
  refine zc5 D D1 D2 hz hTI hTO ⟨h1,p.isList⟩ ⟨hit,p2.isList⟩ hlt1 hlt2 fun ux uy h1' tk hux huy zo to st1 st2 htup hsz keep1=>?_
  have hux':its[i]?=some ux:=by simpa using hux
  rw [hw1] at hux'
  obtain rfl:=Option.some.inj hux'
  have huy':its2[i]?=some uy:=by simpa using huy
  rw [hw2] at huy'
  obtain rfl:=Option.some.inj huy'
  refine ⟨_,rfl,wpAny_letOwnedTupleGo_zip zo fun h2 zn sb=>?_⟩
  have keep2:∀ b o,b∉[z,TI,TO,i1,i2]->s.heap.get? b=some o->h2.get? b=some o:=fun b o nn q=>(sb.2 b (fun e=>nn (by simp [e]))).trans (keep1 b o (fun e=>nn (by simp [e])) (fun e=>nn (by simp [e])) (fun e=>nn (by simp [e])) (fun e=>nn (by simp [e])) q)
  have zlt:z < s.heap.objs.size:=Heap.lt_size hz
  have I2:=I.pair (tk:=tk) (x:=x) (y:=y) hf keep2 ((sb.2 _ (Nat.ne_of_gt zlt)).trans htup) rw1 rw2
  refine ⟨.ref s.heap.objs.size,_,I2,rfl,⟨s.heap.objs.size,x,y,rfl,I.hok.fresh (Nat.le_refl _),rfl,fun ys h'=>by rw [I.list_inj h' hqx]; exact hx,fun ys h'=>by rw [I.list_inj h' hqy]; exact hy⟩,⟨zn,(sb.2 _ D.TIz).trans (keep1 _ _ D.TIz D.TITO D.TIi1 D.TIi2 hTI),⟨_,_,(sb.2 _ D.TOz).trans to⟩,st1.1.at fun o q=>(sb.2 _ D.i1z).trans q,st2.1.at fun o q=>(sb.2 _ D.i2z).trans q⟩,fun b hb=>?_⟩
  rw [za5 (Nat.ne_of_lt ?_)]
  ·exact (hf b hb).1
  ·simp only [List.mem_cons,List.mem_nil_iff,or_false] at hb
   rcases hb with q | q | q | q | q
   ·rw [q]; exact zlt
   ·rw [q]; exact Heap.lt_size hTI
   ·rw [q]; exact Heap.lt_size hTO
   ·rw [q]; obtain ⟨o,ho,_⟩:=h1; exact Heap.lt_size ho
   ·rw [q]; obtain ⟨o,ho,_⟩:=hit; exact Heap.lt_size ho
 done:=by
  intro X hP hw hK hc i pins s sg H E I hf st hg
  subst hP hw hK
  obtain ⟨hz,hTI,⟨u,v,hTO⟩,h1,hit⟩:=st
  obtain ⟨xs,ys,hqx,hqy,hx⟩:=hg
  obtain ⟨its,rv,p,hz'⟩:=I.list hqx
  obtain ⟨its2,rv2,p2,hz2⟩:=I.list hqy
  have hl:=rv2.length
  have hl2:=rv.length
  have D1:=Draws.list (prog:=X.prog) (w:=X.w) (A:=X.A.in1) (I.ok.hd hc) i1 a hai its.toArray
  have D2:=Draws.list (prog:=X.prog) (w:=X.w) (A:=X.A.in1) (I.ok.hd hc) i2 d hdi its2.toArray
  have he:Ends1 X.prog X.w X.A.in1 i1 (fun h=>h.IsListIter i1 a i/\h.IsList a its.toArray)∨(i < its.toArray.size/\Ends1 X.prog X.w X.A.in1 i2 (fun h=>h.IsListIter i2 d i/\h.IsList d its2.toArray)):=by
   rcases Nat.lt_or_ge i its.toArray.size with hi | hi
   ·have hi2:i < its.length:=by simpa using hi
    exact .inr ⟨hi,fun s Q E st hE=>wpAny_nextOf_list_end (I.ok.hd hc) st.1 st.2 (Array.getElem?_eq_none (by simp; lia)) hE⟩
   ·exact .inl fun s Q E st hE=>wpAny_nextOf_list_end (I.ok.hd hc) st.1 st.2 (Array.getElem?_eq_none hi) hE
  refine zct D D1 D2 hz hTI hTO ⟨h1,p.isList⟩ ⟨hit,p2.isList⟩ he fun h' tk kp=>⟨rfl,?_⟩
  exact I.turnedS (t':=tk) (ch:=[z,TO,i1,i2]) (fun b hb=>hf b (by simp only [List.mem_cons,List.mem_nil_iff,or_false] at hb ⊢; rcases hb with q | q | q | q<;>simp [q])) (fun b o hb q=>kp b o (fun e=>hb (by simp [e])) (fun e=>hb (by simp [e])) (fun e=>hb (by simp [e])) (fun e=>hb (by simp [e])) q)
 self:=fun _ _ _ _ _ st h=>wpAny_pyIter_zip st.1 h
section
variable {X:Cx}
def iZipL(K:PySem.W.Frag)(ta:TA):TI:=fun sg H R=>ta sg H fun vs H1=>∃ a b xs ys,vs=[.ref a,.ref b]/\SqL K H1 a xs/\SqL K H1 b ys/\R (Itzl K a b) H1
theorem zkY{elts:List Expr}{x1:Nat}{tp:Pos}{a b:Expr}{ta:TA}{p pos:Pos}(hg:Gl X "zip")(hm:X.mg "zip"=none)(ha:PA X [a,b] ta)(hs:starEach [a,b] X.env=(false,eval a X.env)::starEach [b] X.env:=by rfl)(hs2:(backTo pos (starEach [b] X.env)).any (·.1)=false:=by rfl) :
  PI X (.Tuple elts x1 tp) (.Call (.Name "zip" p) [a,b] [] pos) (iZipL X.K ta):=by
 intro pins s sg H R I h
 refine Call_ (zbP I hg hm PyProof.Rows.boot_zip (PyProof.Rows.callWith_type1 (thn (ha pos pins s sg H _ I h) fun us s1 ⟨vs,H1,I1,r1,q1⟩=>?_) hs hs2))
 obtain ⟨a1,a2,xs,ys,e,hqx,hqy,q⟩:=q1
 subst e
 cases r1 with
 | cons r rr=>
  cases rr with
  | cons r' rr=>
   cases rr
   cases r
   cases r'
   obtain ⟨its,rv,pl,hz⟩:=I1.list hqx
   obtain ⟨its2,rv2,pl2,hz2⟩:=I1.list hqy
   have lt1:a1 < s1.heap.objs.size:=by obtain ⟨o,ho,_⟩:=pl.isList; exact Heap.lt_size ho
   have lt2:a2 < s1.heap.objs.size:=by obtain ⟨o,ho,_⟩:=pl2.isList; exact Heap.lt_size ho
   refine call_zip_2 pl.isList pl2.isList fun h' hz hTI hTO hi1 hi2 hsz kp=>wpAny_pyIter_zip hz ?_
   refine ⟨s1.heap.objs.size+4,[s1.heap.objs.size+4,s1.heap.objs.size+2,s1.heap.objs.size+3,s1.heap.objs.size,s1.heap.objs.size+1],_,_,H1,rfl,I1.kept (t':=s1.toks) kp,zhf a1 a2 _ _ _ _ _ (ziL _ a1 a2 lt1 lt2) (Nat.ne_of_lt lt1) (Nat.ne_of_lt (Nat.lt_succ_of_lt lt2)),⟨hz,hTI,⟨_,_,hTO⟩,hi1,hi2⟩,fun b hb=>?_,q⟩
   have le:s1.heap.objs.size<=b:=by
    simp only [List.mem_cons,List.mem_nil_iff,or_false] at hb
    rcases hb with h | h | h | h | h<;>rw [h]<;>first | exact Nat.le_refl _ | exact Nat.le_add_right _ _
   exact I1.fpOk le (I1.hok.fresh le)
end
end L2
namespace L3
open PySem PySem.Spec PyProof.Rows L2
variable [TheK]
def capS(caps:List (Option Nat))(s:Sg):Sg:=caps.map fun o=>o.bind fun j=>(s[j]?).join
def zaq(M:List Nat):List (Option Nat)->Sg->Sg->Sg
 | some j::cs,x::xs,s=>zaq M cs xs (if M.contains j then s.set j x else s)
 | none::cs,_::xs,s=>zaq M cs xs s
 | _,_,s=>s
structure CapOk (caps:List (Option Nat)) (M Mi:List Nat):Prop where
 yes:∀ (i:Nat),i∈Mi->∃ j,caps[i]?=some (some j)/\j∈M
 no:∀ (i j:Nat),caps[i]?=some (some j)->i∉Mi->j∉M
 inj:∀ (i i' j:Nat),caps[i]?=some (some j)->caps[i']?=some (some j)->i=i'
def capB(caps:List (Option Nat))(M Mi:List Nat):Bool:=
 Mi.all (fun i=>match caps[i]? with | some (some j)=>M.contains j | _=>false) &&
 (List.range caps.length).all (fun i=>match caps[i]? with | some (some j)=>Mi.contains i||!M.contains j | _=>true) &&
 (List.range caps.length).all (fun i=>(List.range caps.length).all fun i'=>match caps[i]?,caps[i']? with | some (some j),some (some j')=>j != j'||i == i' | _,_=>true)
theorem CapOk.of{caps:List (Option Nat)}{M Mi:List Nat}(h:capB caps M Mi=true):CapOk caps M Mi:=by
 unfold capB at h
 rw [Bool.and_eq_true,Bool.and_eq_true] at h
 obtain ⟨⟨h1,h2⟩,h3⟩:=h
 have lt:∀ {i:Nat} {o:Option Nat},caps[i]?=some o->i∈List.range caps.length:=fun e=>List.mem_range.mpr (List.getElem?_eq_some_iff.mp e).1
 refine ⟨fun i hi=>?_,fun i j e n=>?_,fun i i' j e e'=>?_⟩
 ·have:=List.all_eq_true.mp h1 i hi
  cases hc:caps[i]? with
  | none=>rw [hc] at this; cases this
  | some o=>cases o with
   | none=>rw [hc] at this; cases this
   | some j=>rw [hc] at this; exact ⟨j,rfl,by simpa using this⟩
 ·have:=List.all_eq_true.mp h2 i (lt e)
  rw [e] at this
  intro hj
  have a:Mi.contains i=false:=by simpa using n
  have b:M.contains j=true:=by simpa using hj
  dsimp only at this
  rw [a,b] at this
  cases this
 ·have:=List.all_eq_true.mp (List.all_eq_true.mp h3 i (lt e)) i' (lt e')
  rw [e,e'] at this
  simpa using this
theorem zgI{caps:List (Option Nat)}{s:Sg}{i:Nat}{t:T}(h:(capS caps s)[i]?=some (some t)):∃ j,caps[i]?=some (some j)/\s[j]?=some (some t):=by
 unfold capS at h
 rw [List.getElem?_map] at h
 obtain ⟨o,h1,h2⟩:=Qm h
 cases o with
 | none=>cases h2
 | some j=>exact ⟨j,h1,zaa h2⟩
theorem zfk{caps:List (Option Nat)}{σ:L2.St}{i j:Nat}(h:caps[i]?=some (some j)):(capSt caps σ)[i]?=some (σ[j]?).join:=by
 unfold capSt
 rw [List.getElem?_map,h]
 rfl
theorem zaD{caps:List (Option Nat)}{σ:L2.St}{i:Nat}{v:V}(h:(capSt caps σ)[i]?=some (some v)):∃ j,caps[i]?=some (some j)/\σ[j]?=some (some v):=by
 unfold capSt at h
 rw [List.getElem?_map] at h
 obtain ⟨o,h1,h2⟩:=Qm h
 cases o with
 | none=>cases h2
 | some j=>
  refine ⟨j,h1,?_⟩
  have h2:(σ[j]?).join=some v:=h2
  cases e:σ[j]? with
  | none=>rw [e] at h2; cases h2
  | some x=>rw [e] at h2; cases x with
   | none=>cases h2
   | some y=>injection h2 with h2; rw [h2]
theorem Rel.cap{F:Fr}{O:Addr->Prop}{M Mi:List Nat}{s:Sg}{σ:L2.St}{H:Hp}{caps:List (Option Nat)}(R:Rel F O M s σ H)(c:CapOk caps M Mi):Rel F O Mi (capS caps s) (capSt caps σ) H:=by
 refine ⟨by unfold capS capSt; simp,fun i t e n=>?_,fun i t e n=>?_,fun i a hi e=>?_,fun i i' a hi hi' e e'=>?_,R.keep,R.dom,R.fresh,R.inD,R.al⟩
 ·obtain ⟨j,h1,h2⟩:=zgI e
  obtain ⟨v,h3,h4⟩:=R.val j t h2 (c.no i j h1 n)
  exact ⟨v,by rw [zfk h1,h3]; rfl,h4⟩
 ·obtain ⟨j,h1,h2⟩:=zgI e
  obtain ⟨j',h1',h3⟩:=c.yes i n
  rw [h1] at h1'
  obtain rfl:j=j':=by injection h1' with h; injection h
  obtain ⟨a,h4,L⟩:=R.own j t h2 h3
  exact ⟨a,by rw [zfk h1,h4]; rfl,L⟩
 ·obtain ⟨j,h1,h2⟩:=zaD e
  obtain ⟨j',h1',h3⟩:=c.yes i hi
  rw [h1] at h1'
  obtain rfl:j=j':=by injection h1' with h; injection h
  exact R.ow j a h3 h2
 ·obtain ⟨j,h1,h2⟩:=zaD e
  obtain ⟨j',h1',h2'⟩:=zaD e'
  obtain ⟨k,hk,h3⟩:=c.yes i hi
  obtain ⟨k',hk',h3'⟩:=c.yes i' hi'
  rw [h1] at hk
  rw [h1'] at hk'
  obtain rfl:j=k:=by injection hk with h; injection h
  obtain rfl:j'=k':=by injection hk' with h; injection h
  have:=R.dis j j' a h3 h3' h2 h2'
  subst this
  exact c.inj i i' j h1 h1'
theorem zc2(M:List Nat):∀ (caps:List (Option Nat)) (si s:Sg),(zaq M caps si s).length=s.length
 | [],_,_=>by unfold zaq; rfl
 | none::cs,[],s=>by unfold zaq; rfl
 | some j::cs,[],s=>by unfold zaq; rfl
 | none::cs,x::xs,s=>by unfold zaq; exact zc2 M cs xs s
 | some j::cs,x::xs,s=>by
  unfold zaq
  rw [zc2 M cs xs]
  split
  ·rw [List.length_set]
  ·rfl
theorem zbs(M:List Nat){j:Nat}:∀ (caps:List (Option Nat)) (si s:Sg),(j∉M∨∀ i:Nat,caps[i]?≠some (some j))->(zaq M caps si s)[j]?=s[j]?
 | [],_,_,_=>by unfold zaq; rfl
 | none::cs,[],s,_=>by unfold zaq; rfl
 | some k::cs,[],s,_=>by unfold zaq; rfl
 | none::cs,x::xs,s,h=>by
  unfold zaq
  exact zbs M cs xs s (h.imp id fun z i=>by simpa using z (i+1))
 | some k::cs,x::xs,s,h=>by
  unfold zaq
  rw [zbs M cs xs _ (h.imp id fun z i=>by simpa using z (i+1))]
  split
  ·rename_i hk
   refine List.getElem?_set_ne fun z=>?_
   subst z
   rcases h with h | h
   ·exact h (by simpa using hk)
   ·exact h 0 rfl
  ·rfl
theorem zdK(M:List Nat){j:Nat}(hj:j∈M):∀ (caps:List (Option Nat)) (si s:Sg) (i:Nat),caps[i]?=some (some j)->(∀ i':Nat,caps[i']?=some (some j)->i'=i)->i < si.length->j < s.length->(zaq M caps si s)[j]?=si[i]?
 | [],_,_,i,e,_,_,_=>by simp at e
 | c::cs,[],s,i,_,_,hi,_=>by simp at hi
 | none::cs,x::xs,s,i,e,u,hi,hl=>by
  unfold zaq
  cases i with
  | zero=>simp at e
  | succ i=>
   rw [List.getElem?_cons_succ]
   exact zdK M hj cs xs s i (by simpa using e) (fun i' e'=>by simpa using u (i'+1) (by simpa using e')) (by simpa using hi) hl
 | some k::cs,x::xs,s,i,e,u,hi,hl=>by
  unfold zaq
  cases i with
  | zero=>
   have hk:k=j:=by simpa using e
   subst hk
   rw [zbs M cs xs _ (.inr fun i' e'=>by simpa using u (i'+1) (by simpa using e')),if_pos (by simpa using hj),List.getElem?_set_self hl]
   rfl
  | succ i=>
   rw [List.getElem?_cons_succ]
   refine zdK M hj cs xs _ i (by simpa using e) (fun i' e'=>by simpa using u (i'+1) (by simpa using e')) (by simpa using hi) ?_
   split
   ·rw [List.length_set]; exact hl
   ·exact hl
theorem Rel.back{F:Fr}{O:Addr->Prop}{M Mi:List Nat}{s si:Sg}{σ σ2:L2.St}{H2 H4:Hp}{caps:List (Option Nat)}(R:Rel F O M s σ H2)(c:CapOk caps M Mi)(S:Step σ2 Mi H2 H4)(Ri:Rel F O Mi si σ2 H4)
  (hk:∀ (i j:Nat),caps[i]?=some (some j)->σ2[i]?=(capSt caps σ)[i]?) (hl:si.length=caps.length):Rel F O M (zaq M caps si s) σ H4:=by
 have addr:∀ (i:Nat) b,i∈Mi->σ2[i]?=some (some (.ref b))->∃ j,caps[i]?=some (some j)/\j∈M/\σ[j]?=some (some (.ref b)):=fun i b hi e=>by
  obtain ⟨j,h1,h2⟩:=c.yes i hi
  rw [hk i j h1] at e
  obtain ⟨j',h3,h4⟩:=zaD e
  rw [h1] at h3
  obtain rfl:j=j':=by injection h3 with h; injection h
  exact ⟨j,h1,h2,h4⟩
 have kf:∀ b u,Free F O b->H2 b=some u->H4 b=some u:=fun b u z e=>S.keep b u (fun i hi e'=>by
  obtain ⟨j,_,h2,h3⟩:=addr i b hi e'
  exact z.1 (R.ow j b h2 h3)) e
 refine ⟨by rw [zc2]; exact R.len,fun j t e n=>?_,fun j t e n=>?_,R.ow,R.dis,Ri.keep,Ri.dom,R.fresh,R.inD,Ri.al⟩
 ·rw [zbs M caps si s (.inl n)] at e
  obtain ⟨v,h1,h2⟩:=R.val j t e n
  exact ⟨v,h1,h2.mono (fun _ c=>c) kf⟩
 ·by_cases hc:∃ i:Nat,caps[i]?=some (some j)
  ·obtain ⟨i,hi⟩:=hc
   have hlt:i < caps.length:=(List.getElem?_eq_some_iff.mp hi).1
   have hjl:j < s.length:=by
    have:=(List.getElem?_eq_some_iff.mp e).1
    rwa [zc2] at this
   rw [zdK M n caps si s i hi (fun i' e'=>c.inj i' i j e' hi) (by lia) hjl] at e
   have him:i∈Mi:=Decidable.byContradiction fun z=>c.no i j hi z n
   obtain ⟨a,h1,L⟩:=Ri.own i t e him
   obtain ⟨j',h2,_,h3⟩:=addr i a him h1
   rw [hi] at h2
   obtain rfl:j=j':=by injection h2 with h; injection h
   exact ⟨a,h3,L⟩
  ·rw [zbs M caps si s (.inr fun i z=>hc ⟨i,z⟩)] at e
   obtain ⟨a,h1,L⟩:=R.own j t e n
   refine ⟨a,h1,L.mono (fun _ c=>c) kf fun u e'=>S.keep a u (fun i hi e''=>?_) e'⟩
   obtain ⟨j',h2,h3,h4⟩:=addr i a hi e''
   have:=R.dis j j' a n h3 h1 h4
   subst this
   exact hc ⟨i,h2⟩
def TgOk(g:TG)(dg:DG)(Mi:List Nat)(caps:List (Option Nat)):Prop:=∀ F O s t s' v σ H (Q:L2.St->Hp->Prop),Rel F O Mi s σ H->Rep (Free F O) H v t->dg t s=some s'->
 (∀ σ',Rel F O Mi s' σ' H->(∀ (i j:Nat),caps[i]?=some (some j)->σ'[i]?=σ[i]?)->σ'.length=σ.length->Q σ' H)->g v σ H Q
theorem zaX{i:Nat}{Mi:List Nat}{caps:List (Option Nat)}(hc:caps[i]?=some none:=by rfl)(hi:Mi.contains i=false:=by rfl):TgOk (gName i) (dGn i) Mi caps:=by
 intro F O s t s' v σ H Q R r hg q
 have hi':i∉Mi:=by simpa using hi
 unfold dGn at hg
 split at hg
 ·rename_i hl
  injection hg with hg
  subst hg
  refine q _ (R.setE (fun j hj=>⟨hj,fun z=>hi' (z▸hj)⟩) (fun j hj=>.inl hj) hl r) (fun k j e=>?_) ?_
  exact List.getElem?_set_ne fun z=>by subst z; rw [hc] at e; cases e
  exact List.length_set
 ·cases hg
theorem zjM{Mi:List Nat}{caps:List (Option Nat)}{F:Fr}{O:Addr->Prop}{H:Hp}{Q:L2.St->Hp->Prop}:∀ {is:List Nat} {ts:List T} {vs:List V} {s s':Sg} {σ:L2.St},Rel F O Mi s σ H->(∀ i,i∈is->i∉Mi/\caps[i]?=some none)->Reps (Free F O) H vs ts->zbb is ts s=some s'->
  (∀ σ',Rel F O Mi s' σ' H->(∀ (i j:Nat),caps[i]?=some (some j)->σ'[i]?=σ[i]?)->σ'.length=σ.length->Q σ' H)->gsN is vs σ H Q
 | [],[],vs,s,s',σ,R,_,h,e,q=>by
  injection e with e
  subst e
  exact ⟨h.none,q σ R (fun _ _ _=>rfl) rfl⟩
 | [],t::ts,vs,s,s',σ,R,_,h,e,q=>by cases e
 | i::is,[],vs,s,s',σ,R,_,h,e,q=>by cases e
 | i::is,t::ts,[],s,s',σ,R,_,h,e,q=>by have:=h.1; simp at this
 | i::is,t::ts,v::vs,s,s',σ,R,hm,h,e,q=>by
  unfold zbb at e
  split at e
  ·rename_i hl
   obtain ⟨hi,hc⟩:=hm i List.mem_cons_self
   refine ⟨v,vs,rfl,zjM (R.setE (fun j hj=>⟨hj,fun z=>hi (z▸hj)⟩) (fun j hj=>.inl hj) hl h.head) (fun j hj=>hm j (List.mem_cons_of_mem _ hj)) h.tail e fun σ' R' k l=>q σ' R' (fun k' j e'=>(k k' j e').trans ?_) (l.trans List.length_set)⟩
   exact List.getElem?_set_ne fun z=>by subst z; rw [hc] at e'; cases e'
  ·cases e
theorem zdT:∀ {is:List Nat} {ts:List T} {s s':Sg},zbb is ts s=some s'->ts.length=is.length
 | [],[],_,_,_=>rfl
 | [],_::_,_,_,e=>by cases e
 | _::_,[],_,_,e=>by cases e
 | i::is,t::ts,s,s',e=>by
  unfold zbb at e
  split at e
  ·rw [List.length_cons,List.length_cons,zdT e]
  ·cases e
theorem zm8{is:List Nat}{n:Nat}{K:PySem.W.Frag}{Mi:List Nat}{caps:List (Option Nat)}(hn:is.length=n:=by rfl)(h:is.all (fun i=>!Mi.contains i&&caps[i]? == some none)=true:=by rfl):TgOk (gTup K n (gsN is)) (dGt is) Mi caps:=by
 intro F O s t s' v σ H Q R r hg q
 obtain ⟨ts,rfl⟩:∃ ts,t=.tup ts:=by cases t<;>first | exact ⟨_,rfl⟩ | cases hg
 have hg:zbb is ts s=some s':=hg
 obtain ⟨a,vs,rfl,ha,ra⟩:=BRep.tup (.inl r)
 refine ⟨a,vs,rfl,SqT.of ha,by rw [ra.1,zdT hg,hn],zjM R (fun i hi=>?_) ra hg q⟩
 have:=List.all_eq_true.mp h i hi
 rw [Bool.and_eq_true] at this
 exact ⟨by simpa using this.1,by simpa using this.2⟩
@[irreducible] def lcMax:Nat:=1000000
theorem zdg:lcMax=1000000:=by unfold lcMax; rfl
def lcGo(M:List Nat)(caps:List (Option Nat))(dg:DG)(ft:DT)(fe:DE):List T->List T->Sg->Option (List T × Sg)
 | [],acc,s=>some (acc,s)
 | x::xs,acc,s=>(dg x (capS caps s)).bind fun s1=>(ft s1).bind fun p=>if p.1 then (fe p.2).bind fun q=>lcGo M caps dg ft fe xs (acc++[q.1]) (zaq M caps q.2 s) else lcGo M caps dg ft fe xs acc (zaq M caps p.2 s)
def dLC(M:List Nat)(caps:List (Option Nat))(fi:DI)(dg:DG)(ft:DT)(fe:DE):DE:=fun s=>(fi s).bind fun p=>if p.1.length<=lcMax then (lcGo M caps dg ft fe p.1 [] p.2).map fun q=>(.lst q.1,q.2) else none
def dYes:DT:=fun s=>some (true,s)
theorem lc_ok{M Mi:List Nat}{caps:List (Option Nat)}{fi:DI}{g:TG}{dg:DG}{ft:DT}{fe:DE}{tt:TT}(c:CapOk caps M Mi)(hg:TgOk g dg Mi caps)(htt:∀ σ H Q,cT Mi ft σ H Q->tt σ H Q) :
  ∀ σ H Q,cE .n M (dLC M caps fi dg ft fe) σ H Q->tLC caps (cI M fi) g tt (cE .e Mi fe) σ H Q:=by
 intro σ H Q h_;refine cE_ h_ fun F O s t s' R hf q=>?_
 obtain ⟨⟨its,s1⟩,h1,h2⟩:=Qb hf
 split at h2
 case isFalse=>cases h2
 rename_i hsz
 have hsz:its.length<=lcMax:=hsz
 rw [zdg] at hsz
 obtain ⟨⟨tsE,sE⟩,h3,h4⟩:=Qm h2
 injection h4 with h4 h5
 subst h4 h5
 refine ⟨F,O,s,its,s1,R,h1,fun J H1 S1 R1 IT D hD=>?_⟩
 have nD:∀ (j:Nat),j∈M->σ[j]?≠some (some (.ref D)):=fun j hj e=>R1.al D (R1.ow j D hj e) hD
 have RD:=R1.new hD (.lst [])
 refine ⟨fun i m H'=>m=its.length - i/\i<=its.length/\∃ s' acc ys,Rel F (fun b=>O b∨b=D) M s' σ H'/\H' D=some (.lst ys)/\ys.length<=i/\Reps (Free F (fun b=>O b∨b=D)) H' ys acc/\Step σ M H H' /\
  (∀ b o,Free F O b->H1 b=some o->H' b=some o)/\lcGo M caps dg ft fe (its.drop i) acc s'=some (tsE,sE),⟨its.length,by simp,Nat.zero_le _,s1,[],[],RD,za8,Nat.le_refl _,.nil,S1.trans (.new hD _),fun b o _ e=>by rw [za5 (za3 e hD)]; exact e,h3⟩,?_⟩
 rintro i m H2 ⟨rfl,hi,s2,acc,ys,R2,hD2,hy,ry,S2,k2,hl⟩
 have it:=IT H2 k2 i
 by_cases hlt:i < its.length
 ·refine .inr ?_
  obtain ⟨go,yl⟩:=it.1 its[i] (List.getElem?_eq_getElem hlt)
  rw [List.drop_eq_getElem_cons hlt] at hl
  unfold lcGo at hl
  obtain ⟨si1,hdg,hl⟩:=Qb hl
  obtain ⟨⟨b,si2⟩,hft,hl⟩:=Qb hl
  refine ⟨go,fun x H3 hy3=>?_⟩
  obtain ⟨y1,y2⟩:=yl x H3 hy3
  -- what was yielded is free of D
  have R3:Rel F (fun b=>O b∨b=D) M s2 σ H3/\(∀ b u,H2 b=some u->H3 b=some u)/\(∀ b,H3 b=none->H2 b=none):=by
   rcases y1 with rfl | ⟨p,o,hp,rfl⟩
   ·exact ⟨R2,fun _ _ e=>e,fun _ e=>e⟩
   ·exact ⟨(R2.new hp o).less (fun b z=>.inl z) R2.ow R2.inD,fun b u e=>by rw [za5 (za3 e hp)]; exact e,fun b e=>by
     unfold upd at e
     split at e
     ·cases e
     ·exact e⟩
  obtain ⟨R3,k3,dm3⟩:=R3
  have rx:Rep (Free F (fun b=>O b∨b=D)) H3 x its[i]:=y2.mono (fun b z=>by
   rcases z with ⟨z,n⟩ | n
   ·exact ⟨fun y=>y.elim z.1 fun y=>n (y▸hD),z.2⟩
   ·exact ⟨fun y=>R2.al b y n,.inr (R2.dom b n)⟩) fun _ _ _ e=>e
  have ry3:Reps (Free F (fun b=>O b∨b=D)) H3 ys acc:=ry.mono (fun _ z=>z) fun b o _ e=>k3 b o e
  have hD3:=k3 _ _ hD2
  refine hg F _ (capS caps s2) its[i] si1 x (capSt caps σ) H3 _ (R3.cap c) rx hdg fun σ4 R4 hk4 hl4=>?_
  have hsl:∀ {sx:Sg} {Hx:Hp},Rel F (fun b=>O b∨b=D) Mi sx σ4 Hx->sx.length=caps.length:=fun {sx Hx} Rx=>by
   rw [Rx.len,hl4]
   unfold capSt
   rw [List.length_map]
  have nD4:∀ (k:Nat),k∈Mi->σ4[k]?≠some (some (.ref D)):=fun k hk e=>by
   obtain ⟨j,e1,e2⟩:=c.yes k hk
   rw [hk4 k j e1] at e
   obtain ⟨j',e3,e4⟩:=zaD e
   rw [e1] at e3
   obtain rfl:j=j':=by injection e3 with h; injection h
   exact nD j e2 e4
  refine htt _ _ _ ⟨F,_,si1,b,si2,R4,hft,fun H5 S5 R5=>?_⟩
  have freeK:∀ {Hx Hy:Hp},Step σ4 Mi Hx Hy->∀ b o,(Free F O b/\b≠D)->Hx b=some o->Hy b=some o:=fun {Hx Hy} Sx b o z e=>Sx.keep b o (R4.notOwned fun y=>y.elim z.1.1 z.2) e
  have S3':∀ {Hx:Hp},Step σ4 Mi H3 Hx->Step σ M H Hx:=fun {Hx} Sx=>⟨fun b o n e=>Sx.keep b o (fun k hk e'=>by
   obtain ⟨j,e1,e2⟩:=c.yes k hk
   rw [hk4 k j e1] at e'
   obtain ⟨j',e3,e4⟩:=zaD e'
   rw [e1] at e3
   obtain rfl:j=j':=by injection e3 with h; injection h
   exact n j e2 e4) (k3 b o (S2.keep b o n e)),fun b e=>S2.dom b (dm3 b (Sx.dom b e))⟩
  have keepF:∀ {Hx:Hp},Step σ4 Mi H3 Hx->∀ b o,Free F O b->H1 b=some o->Hx b=some o:=fun {Hx} Sx b o z e=>freeK Sx b o ⟨z,fun y=>by rw [y,hD] at e; cases e⟩ (k3 b o (k2 b o z e))
  cases b with
  | false=>
   rw [if_neg Bool.false_ne_true] at hl
   dsimp only
   rw [if_neg Bool.false_ne_true]
   exact ⟨its.length - (i+1),by lia,rfl,hlt,zaq M caps si2 s2,acc,ys,R3.back c S5 R5 hk4 (hsl R5),S5.keep D _ nD4 hD3,Nat.le_succ_of_le hy,ry3.mono (fun _ z=>z) fun b o z e=>S5.keep b o (R4.notOwned z.1) e,S3' S5,keepF S5,hl⟩
  | true=>
   rw [if_pos rfl] at hl
   dsimp only
   rw [if_pos rfl]
   obtain ⟨⟨te,si3⟩,hfe,hl⟩:=Qb hl
   refine ⟨F,_,si2,te,si3,R5,hfe,fun y H6 S6 p6=>?_⟩
   have S56:=S5.trans S6
   have hD6:H6 D=some (.lst ys):=S56.keep D _ nD4 hD3
   have R6:=R3.back c S56 p6.1 hk4 (hsl p6.1)
   refine ⟨ys,hD6,by rw [sizeLine_eq]; lia,its.length - (i+1),by lia,rfl,hlt,zaq M caps si3 s2,acc++[te],ys++[y],?_,za8,by rw [List.length_append,List.length_singleton]; lia,?_,?_,?_,hl⟩
   ·-- D is nobody's: writing there keeps the relation
    have kD:∀ b u,b≠D->H6 b=some u->upd H6 D (.lst (ys++[y])) b=some u:=fun b u n e=>by rw [za5 n]; exact e
    refine ⟨R6.len,fun j t e n=>?_,fun j t e n=>?_,R6.ow,R6.dis,fun b u n e=>?_,fun b e=>?_,R6.fresh,R6.inD,fun b z e=>?_⟩
    ·obtain ⟨v,a1,a2⟩:=R6.val j t e n
     exact ⟨v,a1,a2.mono (fun _ z=>z) fun b u z e=>kD b u (fun w=>z.1 (.inr w)) e⟩
    ·obtain ⟨a,a1,a2⟩:=R6.own j t e n
     exact ⟨a,a1,a2.mono (fun _ z=>z) (fun b u z e=>kD b u (fun w=>z.1 (.inr w)) e) fun u e=>kD a u (fun w=>nD j n (w▸a1)) e⟩
    ·refine kD b u (fun w=>?_) (R6.keep b u n e)
     subst w
     have:=R1.dom b hD
     rw [this] at e; cases e
    ·refine R6.dom b ?_
     unfold upd at e
     split at e
     ·cases e
     ·exact e
    ·refine R6.al b z ?_
     unfold upd at e
     split at e
     ·cases e
     ·exact e
   ·have r1:Reps (Free F (fun b=>O b∨b=D)) H6 (ys++[y]) (acc++[te]):=(ry3.mono (fun _ z=>z) fun b o z e=>S56.keep b o (R4.notOwned z.1) e).snoc p6.2
    exact r1.mono (fun _ z=>z) fun b u z e=>by rw [za5 (fun w=>z.1 (.inr w))]; exact e
   ·exact ⟨fun b o n e=>by rw [za5 (za3 e (S1.dom D hD))]; exact (S3' S56).keep b o n e,fun b e=>(S3' S56).dom b (by
     unfold upd at e
     split at e
     ·cases e
     ·exact e)⟩
   ·exact fun b o z e=>by rw [za5 (za3 e hD)]; exact keepF S56 b o z e
 ·have e:i=its.length:=by lia
  subst e
  rw [List.drop_length] at hl
  injection hl with hl
  injection hl with e1 e2
  subst e1 e2
  exact .inl ⟨it.2 (Nat.le_refl _),q _ H2 S2 ⟨D,rfl,S1.dom D hD,R2,.lst hD2 ry⟩⟩
end L3
namespace L3
open PySem PySem.Spec PyProof.Rows L2
variable [TheK]
theorem peor{X:Cx}{e:Expr}{t t':TE}(h:PE X e t)(h':PE X e t'):PE X e (fun σ H Q=>t σ H Q∨t' σ H Q):=fun pins s σ H Q I q=>q.elim (h pins s σ H Q I) (h' pins s σ H Q I)
theorem ptor{X:Cx}{e:Expr}{t t':TT}(h:PT X e t)(h':PT X e t'):PT X e (fun σ H Q=>t σ H Q∨t' σ H Q):=fun pins s σ H Q I q=>q.elim (h pins s σ H Q I) (h' pins s σ H Q I)
theorem pior{X:Cx}{tg e:Expr}{t t':TI}(h:PI X tg e t)(h':PI X tg e t'):PI X tg e (fun σ H R=>t σ H R∨t' σ H R):=fun pins s σ H R I q=>q.elim (h pins s σ H R I) (h' pins s σ H R I)
theorem zgE{M:List Nat}{k k' k2:Kd}{f f' f2:DE}(hs:∀ s p,f2 s=some p->f s=some p∨f' s=some p)(hk:∀ F O σ H s' t v H' (s:Sg),Rel F O M s σ H->Post k F O M σ H s' t v H'->Post k2 F O M σ H s' t v H')(hk':∀ F O σ H s' t v H' (s:Sg),Rel F O M s σ H->Post k' F O M σ H s' t v H'->Post k2 F O M σ H s' t v H') :
  ∀ σ H Q,cE k2 M f2 σ H Q->cE k M f σ H Q∨cE k' M f' σ H Q:=by
 intro σ H Q h_;refine cE_ h_ fun F O s t s' R hf q=>?_
 rcases hs s _ hf with h | h
 ·exact .inl ⟨F,O,s,t,s',R,h,fun v H' S p=>q v H' S (hk F O σ H s' t v H' s R p)⟩
 ·exact .inr ⟨F,O,s,t,s',R,h,fun v H' S p=>q v H' S (hk' F O σ H s' t v H' s R p)⟩
def orG(g g':T->T->Option T):T->T->Option T:=fun x y=>match g x y with
 | some t=>some t
 | none=>g' x y
theorem zk1{g g':T->T->Option T}{x y:T}{t:T}(h:orG g g' x y=some t):g x y=some t∨g' x y=some t:=by
 unfold orG at h
 cases e:g x y with
 | none=>rw [e] at h; exact .inr h
 | some u=>rw [e] at h; exact .inl h
theorem d2_or{g g':T->T->Option T}{fa fb:DE}:∀ s p,d2 (orG g g') fa fb s=some p->d2 g fa fb s=some p∨d2 g' fa fb s=some p:=fun s p h=>by
 obtain ⟨t,s'⟩:=p
 obtain ⟨x,s1,y,h1,h2,h3⟩:=zfW h
 rcases zk1 h3 with e | e
 ·left; unfold d2; rw [h1,Option.bind_some,h2,Option.bind_some,e]; rfl
 ·right; unfold d2; rw [h1,Option.bind_some,h2,Option.bind_some,e]; rfl
theorem znw{g g':T->T->Option T}{i:Nat}{fb:DE}:∀ s p,d2v (orG g g') i fb s=some p->d2v g i fb s=some p∨d2v g' i fb s=some p:=fun s p h=>by
 obtain ⟨t,s'⟩:=p
 obtain ⟨x0,x,y,h0,h1,h2,h3⟩:=zgG h
 have j0:(s[i]?).join=some x0:=by rw [h0]; rfl
 have j2:(s'[i]?).join=some x:=by rw [h2]; rfl
 rcases zk1 h3 with e | e
 ·left; unfold d2v; rw [j0,Option.bind_some,h1,Option.bind_some,j2,Option.bind_some,e]; rfl
 ·right; unfold d2v; rw [j0,Option.bind_some,h1,Option.bind_some,j2,Option.bind_some,e]; rfl
def gItem:=orG gIx gDIx
def gInA:=orG gIn gDIn
def zbd:=orG zgy zig
def gPlus:=orG gAdd gCat
section
variable {X:Cx}{M:List Nat}{a b c e:Expr}{fa fb fe:DE}{pos p:Pos}
theorem idE:∀ (F:Fr) (O:Addr->Prop) (σ:L2.St) (H:Hp) (s':Sg) (t:T) (v:V) (H':Hp) (s:Sg),Rel F O M s σ H->Post .e F O M σ H s' t v H'->Post .e F O M σ H s' t v H':=fun _ _ _ _ _ _ _ _ _ _ p=>p
theorem neE:∀ (F:Fr) (O:Addr->Prop) (σ:L2.St) (H:Hp) (s':Sg) (t:T) (v:V) (H':Hp) (s:Sg),Rel F O M s σ H->Post .n F O M σ H s' t v H'->Post .e F O M σ H s' t v H':=fun _ _ _ _ _ _ _ _ _ R p=>p.ne R
theorem znn(hK:X.K=TheK.K)(hu:X.A.units+1 < cLine)(ha:PE X a (cE .e M fa))(hb:PE X b (cE .b M fb))(hs:zbV b):PE X (.Subscript a b pos) (cE .e M (d2 gItem fa fb)):=weak (peor (e_ix hK ha hb hs) (e_dix hu ha hb hs)) (zgE d2_or idE idE)
theorem zll{i:Nat}(hK:X.K=TheK.K)(hi:M.contains i=true)(hu:X.A.units+1 < cLine)(ha:PE X a (tVar i))(hb:PE X b (cE .b M fb))(hs:zbV b):PE X (.Subscript a b pos) (cE .e M (d2v gItem i fb)):=weak (peor (e_ixV hK hi ha hb hs) (znp hi hu ha hb hs)) (zgE znw idE idE)
theorem ziv{f f' f2:DE}(hs:∀ s p,f2 s=some p->f s=some p∨f' s=some p):∀ σ H Q,cT M (dB f2) σ H Q->cT M (dB f) σ H Q∨cT M (dB f') σ H Q:=by
 intro σ H Q h_;refine cT_ h_ fun F O s b s' R hf q=>?_
 rcases hs s _ (zfV hf) with h | h
 ·exact .inl ⟨F,O,s,b,s',R,by unfold dB; rw [h]; rfl,q⟩
 ·exact .inr ⟨F,O,s,b,s',R,by unfold dB; rw [h]; rfl,q⟩
theorem ziR(hu:X.A.units+1 < cLine)(ha:PE X a (cE .e M fa))(hb:PE X b (cE .b M fb))(hm:behindInMarks .NotIn b=false):PT X (.Compare a [.NotIn] [b] pos) (cT M (dB (d2 zbd fa fb))):=weakT (ptor (zkx ha hb hm) (ziS hu ha hb hm)) (ziv d2_or)
theorem znk(ha:PE X a (cE .e M fa))(hb:PE X b (cE .b M fb)):PE X (.BinOp a .Add b pos) (cE .e M (d2 gPlus fa fb)):=weak (peor (e_add ha hb) (e_cat ha hb)) (zgE d2_or idE neE)
def gSlA(x:T)(lo hi:Option Int):Option T:=match x with
 | .str _=>gSlS x lo hi
 | _=>gSl x lo hi
theorem znu{fl fh:DO}:∀ s p,dSl gSlA fa fl fh s=some p->dSl gSlS fa fl fh s=some p∨dSl gSl fa fl fh s=some p:=fun s p h=>by
 obtain ⟨p1,h1,h2⟩:=Qb h
 obtain ⟨q1,h3,h4⟩:=Qb h2
 obtain ⟨r1,h5,h6⟩:=Qb h4
 obtain ⟨t,h7,h8⟩:=Qm h6
 have e:gSlS p1.1 q1.1 r1.1=some t∨gSl p1.1 q1.1 r1.1=some t:=by
  unfold gSlA at h7
  split at h7
  ·exact .inl h7
  ·exact .inr h7
 rcases e with e | e
 ·left; unfold dSl; rw [h1,Option.bind_some,h3,Option.bind_some,h5,Option.bind_some,e]; exact congrArg some h8
 ·right; unfold dSl; rw [h1,Option.bind_some,h3,Option.bind_some,h5,Option.bind_some,e]; exact congrArg some h8
theorem e_slA{lo hi:Option Expr}{fl fh:DO}{p2:Pos}(hK:X.K=TheK.K)(he:PE X e (cE .e M fe))(hl:PO X lo (cO M fl))(hu:PO X hi (cO M fh)):PE X (.Subscript e (.Slice lo hi none p2) pos) (cE .e M (dSl gSlA fe fl fh)):=weak (peor (e_slS he hl hu) (e_sl hK he hl hu)) (zgE znu idE neE)
def kT:Key->T
 | .inl i=>.int i
 | .inr x=>.str x
theorem zn8{C:Addr->Prop}{H:Hp}(k:Key):Rep C H (kV k) (kT k):=by
 cases k with
 | inl i=>exact .int i
 | inr x=>exact .str x
theorem zcv{C:Addr->Prop}{H:Hp}:∀ {vs:List (Key × V)} {ts:List (Key × T)},vs.map (·.1)=ts.map (·.1)->Reps C H (vs.map fun kv=>kV kv.1) (ts.map fun kv=>kT kv.1)
 | [],[],_=>.nil
 | p::vs,[],h=>by simp at h
 | [],q::ts,h=>by simp at h
 | p::vs,q::ts,h=>by
  rw [List.map_cons,List.map_cons] at h
  injection h with h1 h2
  rw [List.map_cons,List.map_cons,h1]
  exact .cons (zn8 _) (zcv h2)
def signT(c:Nat):T:=.str ⟨#[c]⟩
def dItA(f:DE):DI:=fun s=>(f s).bind fun p=>match p.1 with
 | .lst xs=>some (xs,p.2)
 | .scr ns=>some (ns.map .int,p.2)
 | .tup xs=>some (xs,p.2)
 | .fd kvs=>some (kvs.map fun kv=>kT kv.1,p.2)
 | .str x=>some (x.cps.toList.map signT,p.2)
 | _=>none
def dItF(f:DE):DI:=fun s=>(f s).bind fun p=>match p.1 with
 | .fd kvs=>some (kvs.map fun kv=>kT kv.1,p.2)
 | _=>none
def dItS(f:DE):DI:=fun s=>(f s).bind fun p=>match p.1 with
 | .str x=>some (x.cps.toList.map signT,p.2)
 | _=>none
theorem zlf{F:Fr}{O:Addr->Prop}{H1:Hp}{a:Addr}{o:Obj}{kvs:List (Key × V)}{f:Key × V->V}{ts:List T}(fr:Free F O a)(ha:H1 a=some (.frz o (.dK kvs)))(r:Reps (Free F O) H1 (kvs.map f) ts):ItOk F O ts (Itd f a o) H1:=by
 intro H2 k i
 have h2:=k a _ fr ha
 have hl0:kvs.length=ts.length:=by have:=r.1; simpa using this
 refine ⟨fun t ht=>?_,fun hl=>⟨kvs,h2,by rw [hl0]; exact hl⟩⟩
 obtain ⟨v,hv,rv⟩:=r.get ht
 rw [List.getElem?_map] at hv
 obtain ⟨y,hy,hyv⟩:=Qm hv
 refine ⟨⟨kvs,y,h2,hy⟩,fun x H3 ⟨e1,e2⟩=>⟨.inl e1,?_⟩⟩
 have:=e2 kvs h2
 rw [hy] at this
 have hx:f y=x:=Option.some.inj this
 subst hx hyv e1
 exact rv.there.mono (fun b c=>.inl c) fun b o c e=>k b o c.1 e
theorem i_fd{tg:Expr}(h:PE X e (cE .e M fe)):PI X tg e (cI M (dItF fe)):=weakI (zl1 h) (by
 intro σ H R h_;refine cI_ h_ fun F O s its s' Rl hf q=>?_
 obtain ⟨⟨p1,p2⟩,h1,h2⟩:=Qb hf
 obtain ⟨ks,rfl⟩:∃ ks,p1=.fd ks:=by cases p1<;>first | exact ⟨_,rfl⟩ | cases h2
 injection h2 with h2
 injection h2 with h3 h4
 subst h3 h4
 refine ⟨F,O,s,_,_,Rl,h1,fun v H1 S1 p=>?_⟩
 obtain ⟨a,o,kvs,rfl,ha,ra,fr⟩:=BRep.fd (.inl p.2)
 exact ⟨a,o,kvs,rfl,ha,q _ H1 S1 p.1 (zlf fr ha (zcv ra.1))⟩)
theorem znc{tg:Expr}(h:PE X e (cE .e M fe)):PI X tg e (cI M (dItS fe)):=weakI (zkZ h) (by
 intro σ H R h_;refine cI_ h_ fun F O s its s' Rl hf q=>?_
 obtain ⟨⟨p1,p2⟩,h1,h2⟩:=Qb hf
 obtain ⟨x,rfl⟩:∃ x,p1=.str x:=by cases p1<;>first | exact ⟨_,rfl⟩ | cases h2
 injection h2 with h2
 injection h2 with h3 h4
 subst h3 h4
 refine ⟨F,O,s,_,_,Rl,h1,fun v H1 S1 p=>?_⟩
 refine ⟨x,BRep.str (.inl p.2),q _ H1 S1 p.1 ?_⟩
 intro H2 k i
 refine ⟨fun t ht=>?_,fun hl=>by simpa [Its] using hl⟩
 rw [List.getElem?_map] at ht
 obtain ⟨c,hc,rfl⟩:=Qm ht
 have hc':x.cps[i]?=some c:=by simpa using hc
 refine ⟨(Array.getElem?_eq_some_iff.mp hc').1,fun y H3 ⟨e1,c',e2,e3⟩=>⟨.inl e1,?_⟩⟩
 rw [hc'] at e2
 cases e2
 subst e3
 exact .str _)
theorem i_any{tg:Expr}(hK:X.K=TheK.K)(h:PE X e (cE .e M fe)):PI X tg e (cI M (dItA fe)):=weakI (pior (pior (znd hK h) (i_tup h)) (pior (i_fd h) (znc h))) (by
 intro σ H R h_;refine cI_ h_ fun F O s its s' Rl hf q=>?_
 obtain ⟨⟨p1,p2⟩,h1,h2⟩:=Qb hf
 cases p1 with
 | lst xs=>exact .inl (.inl ⟨F,O,s,its,s',Rl,by unfold dIt; rw [h1]; exact h2,q⟩)
 | scr xs=>exact .inl (.inl ⟨F,O,s,its,s',Rl,by unfold dIt; rw [h1]; exact h2,q⟩)
 | tup xs=>exact .inl (.inr ⟨F,O,s,its,s',Rl,by unfold dItT; rw [h1]; exact h2,q⟩)
 | fd xs=>exact .inr (.inl ⟨F,O,s,its,s',Rl,by unfold dItF; rw [h1]; exact h2,q⟩)
 | str x=>exact .inr (.inr ⟨F,O,s,its,s',Rl,by unfold dItS; rw [h1]; exact h2,q⟩)
 | _=>cases h2)
variable {es:List Expr}{fs:DA}{x:Str}{k:Nat}{f:Addr}{fd:FuncData}{ps:List Str}{np:Nat}
theorem znq{fn:List T->Option T}(F:FnOk X.prog X.w X.K X.mg X.base CX0 k f fd ps (spP .e np fn))(hr:Room k X.A)(hg:Gl X x)(hm:X.mg x=some (.ref f))(hk:PySem.W.keepIn X.K (.ref f)=true)(hb:Binds X.K fd ps [])
  (ha:PA X (e::es) (cA M fs)) (ar:Ar fs np) (hdb:(x == ("__debug__":Str))=false:=by decide) (he:starEach (e::es) X.env=(false,eval e X.env)::starEach es X.env:=by rfl) (hpl:(backTo pos (starEach es X.env)).any (·.1)=false:=by rfl) :
  PE X (.Call (.Name x p) (e::es) [] pos) (cE .e M (dCall fn fs)):=weak (zcQ F hr hg hm hk hb .nil pass0 ha hdb he hpl) (zny ar)
theorem zlq{fn:List T->Option T}(F:FnOk X.prog X.w X.K X.mg X.base CX0 k f fd ps (spP .n np fn))(hr:Room k X.A)(hg:Gl X x)(hm:X.mg x=some (.ref f))(hk:PySem.W.keepIn X.K (.ref f)=true)(hb:Binds X.K fd ps [])
  (ha:PA X (e::es) (cA M fs)) (ar:Ar fs np) (hdb:(x == ("__debug__":Str))=false:=by decide) (he:starEach (e::es) X.env=(false,eval e X.env)::starEach es X.env:=by rfl) (hpl:(backTo pos (starEach es X.env)).any (·.1)=false:=by rfl) :
  PE X (.Call (.Name x p) (e::es) [] pos) (cE .n M (dCall fn fs)):=weak (zcQ F hr hg hm hk hb .nil pass0 ha hdb he hpl) (znx ar)
theorem zlr{fn:List T->Option (T × T)}{i:Nat}(hi:M.contains i=true)(F:FnOk X.prog X.w X.K X.mg X.base CX0 k f fd ps (spI .e (np+1) fn))(hr:Room k X.A)(hg:Gl X x)(hm:X.mg x=some (.ref f))(hk:PySem.W.keepIn X.K (.ref f)=true)(hb:Binds X.K fd ps [])
  (h0:PE X e (tVar i)) (ha:PA X es (cA M fs)) (ar:Ar fs np) (hdb:(x == ("__debug__":Str))=false:=by decide) (he:starEach (e::es) X.env=(false,eval e X.env)::starEach es X.env:=by rfl) (hpl:(backTo pos (starEach es X.env)).any (·.1)=false:=by rfl) :
  PE X (.Call (.Name x p) (e::es) [] pos) (cE .e M (zfi fn i fs)):=weak (zcQ F hr hg hm hk hb .nil pass0 (zaZ h0 ha he) hdb he hpl) (zlz ar hi)
theorem e_len(hK:X.K=TheK.K)(hg:Gl X "len")(hm:X.mg "len"=none)(h:PE X e (cE .b M fe))(he:starEach [e] X.env=(false,eval e X.env)::starEach [] X.env:=by rfl)(hpl:(backTo pos (starEach [] X.env)).any (·.1)=false:=by rfl):PE X (.Call (.Name "len" p) [e] [] pos) (cE .e M (d1 gLen fe)):=
 weak (zc0 (((show CallR X _ _ from hK▸zfn).or zfm).or ziE) hg hm PySem.boot_len (zaZ h zd7 he) (by decide) (by decide) he hpl) (one_e s_len)
theorem e_isi{cn:String}{ce:Expr}(hc:okTy cn=true)(hg:Gl X "isinstance")(hm:X.mg "isinstance"=none)(h:PE X e (cE .b M fe))(h2:PE X ce (tC (.ty cn)))(he:starEach [e,ce] X.env=(false,eval e X.env)::starEach [ce] X.env:=by rfl)(he2:starEach [ce] X.env=(false,eval ce X.env)::starEach [] X.env:=by rfl)(hpl:(backTo pos (starEach [ce] X.env)).any (·.1)=false:=by rfl) :
  PE X (.Call (.Name "isinstance" p) [e,ce] [] pos) (cE .e M (dIsi cn fe)):=weak (zc0 zjG hg hm zez (zaZ h (zaZ h2 zd7 he2) he) (by decide) (by decide) he hpl) (isi_e hc)
def imax(i j:Int):Int:=if j > i then j else i
def imin(i j:Int):Int:=if j < i then j else i
theorem znm{e2:Expr}(hc:X.calm=true)(hg:Gl X "max")(hm:X.mg "max"=none)(hv:bootBuiltins "max"=some (.builtin "max"))(h:PA X [e,e2] (cA M fs))(he:starEach [e,e2] X.env=(false,eval e X.env)::starEach [e2] X.env:=by rfl)(hpl:(backTo pos (starEach [e2] X.env)).any (·.1)=false:=by rfl):PE X (.Call (.Name "max" p) [e,e2] [] pos) (cE .e M (dA2 imax fs)):=
 weak (zc0 (ziC hc) hg hm hv h (by decide) (by decide) he hpl) zg7
theorem znl{e2:Expr}(hc:X.calm=true)(hg:Gl X "min")(hm:X.mg "min"=none)(hv:bootBuiltins "min"=some (.builtin "min"))(h:PA X [e,e2] (cA M fs))(he:starEach [e,e2] X.env=(false,eval e X.env)::starEach [e2] X.env:=by rfl)(hpl:(backTo pos (starEach [e2] X.env)).any (·.1)=false:=by rfl):PE X (.Call (.Name "min" p) [e,e2] [] pos) (cE .e M (dA2 imin fs)):=
 weak (zc0 (ziB hc) hg hm hv h (by decide) (by decide) he hpl) zg7
theorem zjC{i:Nat}{o:Expr}{apos:Pos}(hi:M.contains i=true)(h:PE X (.Call (.Attribute o "append" apos) (e::es) [] pos) (tBM X.K "list" zcL (tVar i) (cA M fs))):PE X (.Call (.Attribute o "append" apos) (e::es) [] pos) (cE .e M (dMut mApp i fs)):=weak h (mut_e hi m_app)
theorem zlj{i:Nat}{o:Expr}{apos:Pos}(hi:M.contains i=true)(h:PE X (.Call (.Attribute o "pop" apos) (e::es) [] pos) (tBM X.K "list" zgi (tVar i) (cA M fs))):PE X (.Call (.Attribute o "pop" apos) (e::es) [] pos) (cE .e M (dMut zc6 i fs)):=weak h (mut_e hi zl8)
theorem zbI{Mi:List Nat}:∀ σ H Q,cT Mi dYes σ H Q->tAll σ H Q:=by
 intro σ H Q h_;refine cT_ h_ fun F O s b s' R hf q=>?_
 injection hf with hf
 injection hf with h1 h2
 subst h1 h2
 exact q H .refl R
theorem e_lc{Mi:List Nat}{caps:List (Option Nat)}{fi:DI}{g:TG}{dg:DG}{ft:DT}{tt:TT}(c:capB caps M Mi=true)(hg:TgOk g dg Mi caps)(htt:∀ σ H Q,cT Mi ft σ H Q->tt σ H Q)(h:PE X e (tLC caps (cI M fi) g tt (cE .e Mi fe))):PE X e (cE .n M (dLC M caps fi dg ft fe)):=weak h (lc_ok (.of c) hg htt)
theorem asg_w{st:Stmt}{t t':TE}{g:TG}(h:PS X st (tAsg t g))(hw:∀ σ H Q,t' σ H Q->t σ H Q):PS X st (tAsg t' g):=weakS h fun D σ H q=>hw σ H _ q
theorem s_lc{st:Stmt}{Mi:List Nat}{caps:List (Option Nat)}{fi:DI}{g:TG}{g2:TG}{dg:DG}{ft:DT}{tt:TT}(c:capB caps M Mi=true)(hg:TgOk g dg Mi caps)(htt:∀ σ H Q,cT Mi ft σ H Q->tt σ H Q)(h:PS X st (tAsg (tLC caps (cI M fi) g tt (cE .e Mi fe)) g2)):PS X st (tAsg (cE .n M (dLC M caps fi dg ft fe)) g2):=asg_w h (lc_ok (.of c) hg htt)
theorem s_nE{st:Stmt}{g2:TG}{ff:DE}(h:PS X st (tAsg (cE .n M ff) g2)):PS X st (tAsg (cE .e M ff) g2):=asg_w h fun σ H Q h_=>cE_ h_ fun F O s t s' R hf q=>⟨F,O,s,t,s',R,hf,fun v H' S p=>q v H' S (p.ne R)⟩
end
end L3
namespace L3
open PySem PySem.Spec PyProof.Rows L2
variable [TheK]
def dcGo(M:List Nat)(caps:List (Option Nat))(dg:DG)(ft:DT)(fk fe:DE):List T->List (Key × T)->Sg->Option (List (Key × T) × Sg)
 | [],acc,s=>some (acc,s)
 | x::xs,acc,s=>(dg x (capS caps s)).bind fun s1=>(ft s1).bind fun p=>if p.1 then (fk p.2).bind fun r=>(keyT r.1).bind fun k=>(fe r.2).bind fun q=>dcGo M caps dg ft fk fe xs (putT acc k q.1) (zaq M caps q.2 s) else dcGo M caps dg ft fk fe xs acc (zaq M caps p.2 s)
def dDC(M:List Nat)(caps:List (Option Nat))(fi:DI)(dg:DG)(ft:DT)(fk fe:DE):DE:=fun s=>(fi s).bind fun p=>if p.1.length<=lcMax then (dcGo M caps dg ft fk fe p.1 [] p.2).map fun q=>(.dct q.1,q.2) else none
theorem dc_ok{M Mi:List Nat}{caps:List (Option Nat)}{fi:DI}{g:TG}{dg:DG}{ft:DT}{fk fe:DE}{tt:TT}(c:CapOk caps M Mi)(hg:TgOk g dg Mi caps)(htt:∀ σ H Q,cT Mi ft σ H Q->tt σ H Q) :
  ∀ σ H Q,cE .n M (dDC M caps fi dg ft fk fe) σ H Q->tDC caps (cI M fi) g tt (cE .e Mi fk) (cE .e Mi fe) σ H Q:=by
 intro σ H Q h_;refine cE_ h_ fun F O s t s' R hf q=>?_
 obtain ⟨⟨its,s1⟩,h1,h2⟩:=Qb hf
 split at h2
 case isFalse=>cases h2
 rename_i hsz
 have hsz:its.length<=lcMax:=hsz
 rw [zdg] at hsz
 obtain ⟨⟨tsE,sE⟩,h3,h4⟩:=Qm h2
 injection h4 with h4 h5
 subst h4 h5
 refine ⟨F,O,s,its,s1,R,h1,fun J H1 S1 R1 IT D hD=>?_⟩
 have nD:∀ (j:Nat),j∈M->σ[j]?≠some (some (.ref D)):=fun j hj e=>R1.al D (R1.ow j D hj e) hD
 have RD:=R1.new hD (.dK [])
 refine ⟨fun i m H'=>m=its.length - i/\i<=its.length/\∃ s' acc ys,Rel F (fun b=>O b∨b=D) M s' σ H'/\H' D=some (.dK ys)/\ys.length<=i/\RepK (Free F (fun b=>O b∨b=D)) H' ys acc/\Step σ M H H' /\
  (∀ b o,Free F O b->H1 b=some o->H' b=some o)/\dcGo M caps dg ft fk fe (its.drop i) acc s'=some (tsE,sE),⟨its.length,by simp,Nat.zero_le _,s1,[],[],RD,za8,Nat.le_refl _,⟨rfl,fun i v t e=>by simp at e⟩,S1.trans (.new hD _),fun b o _ e=>by rw [za5 (za3 e hD)]; exact e,h3⟩,?_⟩
 rintro i m H2 ⟨rfl,hi,s2,acc,ys,R2,hD2,hy,ry,S2,k2,hl⟩
 have it:=IT H2 k2 i
 by_cases hlt:i < its.length
 ·refine .inr ?_
  obtain ⟨go,yl⟩:=it.1 its[i] (List.getElem?_eq_getElem hlt)
  rw [List.drop_eq_getElem_cons hlt] at hl
  unfold dcGo at hl
  obtain ⟨si1,hdg,hl⟩:=Qb hl
  obtain ⟨⟨b,si2⟩,hft,hl⟩:=Qb hl
  refine ⟨go,fun x H3 hy3=>?_⟩
  obtain ⟨y1,y2⟩:=yl x H3 hy3
  -- what was yielded is free of D
  have R3:Rel F (fun b=>O b∨b=D) M s2 σ H3/\(∀ b u,H2 b=some u->H3 b=some u)/\(∀ b,H3 b=none->H2 b=none):=by
   rcases y1 with rfl | ⟨p,o,hp,rfl⟩
   ·exact ⟨R2,fun _ _ e=>e,fun _ e=>e⟩
   ·exact ⟨(R2.new hp o).less (fun b z=>.inl z) R2.ow R2.inD,fun b u e=>by rw [za5 (za3 e hp)]; exact e,fun b e=>by
     unfold upd at e
     split at e
     ·cases e
     ·exact e⟩
  obtain ⟨R3,k3,dm3⟩:=R3
  have rx:Rep (Free F (fun b=>O b∨b=D)) H3 x its[i]:=y2.mono (fun b z=>by
   rcases z with ⟨z,n⟩ | n
   ·exact ⟨fun y=>y.elim z.1 fun y=>n (y▸hD),z.2⟩
   ·exact ⟨fun y=>R2.al b y n,.inr (R2.dom b n)⟩) fun _ _ _ e=>e
  have ry3:RepK (Free F (fun b=>O b∨b=D)) H3 ys acc:=ry.mono (fun _ z=>z) fun b o _ e=>k3 b o e
  have hD3:=k3 _ _ hD2
  refine hg F _ (capS caps s2) its[i] si1 x (capSt caps σ) H3 _ (R3.cap c) rx hdg fun σ4 R4 hk4 hl4=>?_
  have hsl:∀ {sx:Sg} {Hx:Hp},Rel F (fun b=>O b∨b=D) Mi sx σ4 Hx->sx.length=caps.length:=fun {sx Hx} Rx=>by
   rw [Rx.len,hl4]
   unfold capSt
   rw [List.length_map]
  have nD4:∀ (k:Nat),k∈Mi->σ4[k]?≠some (some (.ref D)):=fun k hk e=>by
   obtain ⟨j,e1,e2⟩:=c.yes k hk
   rw [hk4 k j e1] at e
   obtain ⟨j',e3,e4⟩:=zaD e
   rw [e1] at e3
   obtain rfl:j=j':=by injection e3 with h; injection h
   exact nD j e2 e4
  refine htt _ _ _ ⟨F,_,si1,b,si2,R4,hft,fun H5 S5 R5=>?_⟩
  have freeK:∀ {Hx Hy:Hp},Step σ4 Mi Hx Hy->∀ b o,(Free F O b/\b≠D)->Hx b=some o->Hy b=some o:=fun {Hx Hy} Sx b o z e=>Sx.keep b o (R4.notOwned fun y=>y.elim z.1.1 z.2) e
  have S3':∀ {Hx:Hp},Step σ4 Mi H3 Hx->Step σ M H Hx:=fun {Hx} Sx=>⟨fun b o n e=>Sx.keep b o (fun k hk e'=>by
   obtain ⟨j,e1,e2⟩:=c.yes k hk
   rw [hk4 k j e1] at e'
   obtain ⟨j',e3,e4⟩:=zaD e'
   rw [e1] at e3
   obtain rfl:j=j':=by injection e3 with h; injection h
   exact n j e2 e4) (k3 b o (S2.keep b o n e)),fun b e=>S2.dom b (dm3 b (Sx.dom b e))⟩
  have keepF:∀ {Hx:Hp},Step σ4 Mi H3 Hx->∀ b o,Free F O b->H1 b=some o->Hx b=some o:=fun {Hx} Sx b o z e=>freeK Sx b o ⟨z,fun y=>by rw [y,hD] at e; cases e⟩ (k3 b o (k2 b o z e))
  cases b with
  | false=>
   rw [if_neg Bool.false_ne_true] at hl
   dsimp only
   rw [if_neg Bool.false_ne_true]
   exact ⟨its.length - (i+1),by lia,rfl,hlt,zaq M caps si2 s2,acc,ys,R3.back c S5 R5 hk4 (hsl R5),S5.keep D _ nD4 hD3,Nat.le_succ_of_le hy,ry3.mono (fun _ z=>z) fun b o z e=>S5.keep b o (R4.notOwned z.1) e,S3' S5,keepF S5,hl⟩
  | true=>
   rw [if_pos rfl] at hl
   dsimp only
   rw [if_pos rfl]
   obtain ⟨⟨tk,si3⟩,hfk,hl⟩:=Qb hl
   obtain ⟨k,hkk,hl⟩:=Qb hl
   obtain ⟨⟨te,si4⟩,hfe,hl⟩:=Qb hl
   refine ⟨F,_,si2,tk,si3,R5,hfk,fun ky H5' S5' p5=>⟨F,_,si3,te,si4,p5.1,hfe,fun y H6 S6 p6=>?_⟩⟩
   have S56:=(S5.trans S5').trans S6
   have hD6:H6 D=some (.dK ys):=S56.keep D _ nD4 hD3
   have R6:=R3.back c S56 p6.1 hk4 (hsl p6.1)
   obtain rfl:=zdD (.inl p5.2) hkk
   have lp:=zdB ys k y
   refine ⟨ys,k,hD6,rfl,by rw [sizeLine_eq]; lia,its.length - (i+1),by lia,rfl,hlt,zaq M caps si4 s2,putT acc k te,putK ys k y,?_,za8,by lia,?_,?_,?_,hl⟩
   ·-- D is nobody's: writing there keeps the relation
    have kD:∀ b u,b≠D->H6 b=some u->upd H6 D (.dK (putK ys k y)) b=some u:=fun b u n e=>by rw [za5 n]; exact e
    refine ⟨R6.len,fun j t e n=>?_,fun j t e n=>?_,R6.ow,R6.dis,fun b u n e=>?_,fun b e=>?_,R6.fresh,R6.inD,fun b z e=>?_⟩
    ·obtain ⟨v,a1,a2⟩:=R6.val j t e n
     exact ⟨v,a1,a2.mono (fun _ z=>z) fun b u z e=>kD b u (fun w=>z.1 (.inr w)) e⟩
    ·obtain ⟨a,a1,a2⟩:=R6.own j t e n
     exact ⟨a,a1,a2.mono (fun _ z=>z) (fun b u z e=>kD b u (fun w=>z.1 (.inr w)) e) fun u e=>kD a u (fun w=>nD j n (w▸a1)) e⟩
    ·refine kD b u (fun w=>?_) (R6.keep b u n e)
     subst w
     have:=R1.dom b hD
     rw [this] at e; cases e
    ·refine R6.dom b ?_
     unfold upd at e
     split at e
     ·cases e
     ·exact e
    ·refine R6.al b z ?_
     unfold upd at e
     split at e
     ·cases e
     ·exact e
   ·have r1:RepK (Free F (fun b=>O b∨b=D)) H6 (putK ys k y) (putT acc k te):=(ry3.mono (fun _ z=>z) fun b o z e=>S56.keep b o (R4.notOwned z.1) e).put p6.2
    exact r1.mono (fun _ z=>z) fun b u z e=>by rw [za5 (fun w=>z.1 (.inr w))]; exact e
   ·exact ⟨fun b o n e=>by rw [za5 (za3 e (S1.dom D hD))]; exact (S3' S56).keep b o n e,fun b e=>(S3' S56).dom b (by
     unfold upd at e
     split at e
     ·cases e
     ·exact e)⟩
   ·exact fun b o z e=>by rw [za5 (za3 e hD)]; exact keepF S56 b o z e
 ·have e:i=its.length:=by lia
  subst e
  rw [List.drop_length] at hl
  injection hl with hl
  injection hl with e1 e2
  subst e1 e2
  exact .inl ⟨it.2 (Nat.le_refl _),q _ H2 S2 ⟨D,rfl,S1.dom D hD,R2,.dct hD2 ry⟩⟩
section
variable {X:Cx}{M:List Nat}{a b c e:Expr}{fa fb fc fe fk:DE}{pos p:Pos}
theorem e_dc{Mi:List Nat}{caps:List (Option Nat)}{fi:DI}{g:TG}{dg:DG}{ft:DT}{tt:TT}(c:capB caps M Mi=true)(hg:TgOk g dg Mi caps)(htt:∀ σ H Q,cT Mi ft σ H Q->tt σ H Q)(h:PE X e (tDC caps (cI M fi) g tt (cE .e Mi fk) (cE .e Mi fe))):PE X e (cE .n M (dDC M caps fi dg ft fk fe)):=weak h (dc_ok (.of c) hg htt)
def zcw:T->Option T
 | .lst xs=>some (.lst xs) | .tup xs=>some (.lst xs) | .scr ns=>some (.lst (ns.map .int)) | .dct kvs=>some (.lst (kvs.map fun kv=>kT kv.1)) | .fd kvs=>some (.lst (kvs.map fun kv=>kT kv.1))
 | _=>none
theorem zkE:S1N (fun xs H Q=>(∃ p ys,xs=[.ref p]/\(SqL TheK.K H p ys∨SqT TheK.K H p ys)/\∀ l,H l=none->Q (.ref l) (upd H l (.lst ys)))∨∃ a kvs,xs=[V.ref a]/\Rd H a (.dK kvs)/\∀ l,H l=none->Q (.ref l) (upd H l (.lst (kvs.map fun kv=>kV kv.1)))) zcw:=by
 intro C H x tx t Q bx hg q
 cases tx with
 | dct ts=>
  injection hg with hg; subst hg
  obtain ⟨a,kvs,rfl,ha,ra⟩:=bx.dct
  exact .inr ⟨a,kvs,rfl,.inl ha,fun p hp=>q p _ hp fun C' hC=>.lst za8 (zcv ra.1)⟩
 | fd ts=>
  injection hg with hg; subst hg
  obtain ⟨a,ob,kvs,rfl,ha,ra,_⟩:=bx.fd
  exact .inr ⟨a,kvs,rfl,.inr ⟨ob,ha⟩,fun p hp=>q p _ hp fun C' hC=>.lst za8 (zcv ra.1)⟩
 | lst ts=>exact .inl (zhm C H x (.lst ts) t Q bx hg q)
 | tup ts=>exact .inl (zhm C H x (.tup ts) t Q bx hg q)
 | scr ts=>exact .inl (zhm C H x (.scr ts) t Q bx hg q)
 | _=>cases hg
theorem zlk(hK:X.K=TheK.K)(hc:X.calm=true)(hg:Gl X "list")(hm:X.mg "list"=none)(h:PE X e (cE .b M fe))(he:starEach [e] X.env=(false,eval e X.env)::starEach [] X.env:=by rfl)(hpl:(backTo pos (starEach [] X.env)).any (·.1)=false:=by rfl):PE X (.Call (.Name "list" p) [e] [] pos) (cE .n M (d1 zcw fe)):=
 weak (zeW (CallR.or (show CallR X _ _ from hK▸zfl) (zdP hc)) hg hm ziF (zaZ h zd7 he) (by decide) (by decide) he hpl) (one_n zkE)
def gNeg:T->Option T
 | .int i=>some (.int (-i))
 | _=>none
theorem e_neg(h:PE X a (cE .b M fa)):PE X (.UnaryOp .USub a pos) (cE .e M (d1 gNeg fa)):=weak (pe_un zm5 h) (by
 intro σ H Q h_;refine cE_ h_ fun F O s t s' R hf q=>?_
 obtain ⟨⟨p1,p2⟩,h1,h2⟩:=Qb hf
 obtain ⟨t',h3,h4⟩:=Qm h2
 injection h4 with h4 h5
 subst h4 h5
 obtain ⟨i,rfl⟩:∃ i,p1=.int i:=by cases p1<;>first | exact ⟨_,rfl⟩ | cases h3
 injection h3 with h3
 subst h3
 exact ⟨F,O,s,_,_,R,h1,fun v H1 S1 p1=>⟨i,p1.view.int,q _ H1 S1 ⟨p1.1,.int _⟩⟩⟩)
def dCh(g g':T->T->Option T)(fa fb fc:DE):DE:=fun s=>(fa s).bind fun x=>(fb x.2).bind fun y=>(g x.1 y.1).bind fun r=>match r with
 | .bl true=>(fc y.2).bind fun z=>(g' y.1 z.1).map fun t=>(t,z.2)
 | .bl false=>some (.bl false,y.2)
 | _=>none
theorem zly{r r':R2}{g g':T->T->Option T}(h:S2E r g)(h':S2E r' g'):∀ σ H Q,cE .e M (dCh g g' fa fb fc) σ H Q->zjN r r' (cE .e M fa) (cE .e M fb) (cE .e M fc) σ H Q:=by
 intro σ H Q h_;refine cE_ h_ fun F O s t s' R hf q=>?_
 obtain ⟨x,h1,hf⟩:=Qb hf
 obtain ⟨y,h2,hf⟩:=Qb hf
 obtain ⟨u,h3,hf⟩:=Qb hf
 refine ⟨F,O,s,x.1,x.2,R,h1,fun v H1 S1 p1=>⟨F,O,x.2,y.1,y.2,p1.1,h2,fun w H2 S2 p2=>?_⟩⟩
 refine h (Free F O) H2 v w x.1 y.1 u _ (.inl (p1.1.stay S2 p1.2)) (.inl p2.2) h3 fun z rz=>?_
 cases u with
 | bl k=>
  obtain rfl:z=.bl k:=BRep.bl (.inl rz)
  refine ⟨k,rfl,?_⟩
  cases k with
  | true=>
   obtain ⟨w2,h4,h5⟩:=Qb (show ((fc y.2).bind fun z=>(g' y.1 z.1).map fun t=>(t,z.2))=some (t,s') from hf)
   obtain ⟨t',h6,h7⟩:=Qm h5
   injection h7 with h7 h8
   subst h7 h8
   refine ⟨F,O,y.2,w2.1,w2.2,p2.1,h4,fun a H3 S3 p3=>?_⟩
   exact h' (Free F O) H3 w a y.1 w2.1 t' Q (.inl (p2.1.stay S3 p2.2)) (.inl p3.2) h6 fun a' ra=>q a' H3 ((S1.trans S2).trans S3) ⟨p3.1,ra⟩
  | false=>
   injection hf with hf
   injection hf with h7 h8
   subst h7 h8
   exact q _ H2 (S1.trans S2) ⟨p2.1,.bl false⟩
 | _=>cases hf
theorem zm9(ha:PE X a (cE .e M fa))(hb:PE X b (cE .e M fb))(hc:PE X c (cE .e M fc))(hm:lastMarks [.LtE,.Lt] [b,c]=false:=by with_unfolding_all rfl):PT X (.Compare a [.LtE,.Lt] [b,c] pos) (cT M (dB (dCh gLe gLt fa fb fc))):=weakT (zj9 op_le (op_lt.or zf0) ha hb hc hm) (tst (zly s_I1 s_cmp))
end
end L3
namespace L3
open PySem PySem.Spec PyProof.Rows L2
variable [TheK]
def gRev:T->Option T
 | .lst xs=>some (.lst xs.reverse)
 | _=>none
def dRev(f:DE)(k:DO):DE:=fun s=>(f s).bind fun p=>(k p.2).bind fun q=>if q.1=some (-1) then (gRev p.1).map fun t=>(t,q.2) else none
section
variable {X:Cx}{M:List Nat}{e st:Expr}{fe:DE}{fk:DO}{pos p2:Pos}
theorem e_rev(hK:X.K=TheK.K)(he:PE X e (cE .e M fe))(hs:PO X (some st) (cO M fk)):PE X (.Subscript e (.Slice none none (some st) p2) pos) (cE .n M (dRev fe fk)):=weak (zmF he hs) (by
 intro σ H Q h_;refine cE_ h_ fun F O s t s' R hf q=>?_
 obtain ⟨p,h1,h2⟩:=Qb hf
 obtain ⟨l,h3,h4⟩:=Qb h2
 split at h4
 case isFalse=>cases h4
 rename_i hk
 obtain ⟨t',h7,h8⟩:=Qm h4
 injection h8 with h8 h9
 subst h8 h9
 refine ⟨F,O,s,p.1,p.2,R,h1,fun v H1 S1 p1=>⟨F,O,p.2,l.1,l.2,p1.1,h3,fun H2 S2 R2=>⟨hk,?_⟩⟩⟩
 have r2:=p1.1.stay S2 p1.2
 obtain ⟨pt,ps⟩:=p
 cases pt<;>simp [gRev] at h7
 rename_i xs
 subst h7
 obtain ⟨a,vs,rfl,ha,ra⟩:=BRep.lst (.inl r2)
 refine ⟨a,vs,rfl,hK▸SqL.of ha,fun b hb=>q _ _ ((S1.trans S2).trans (.new hb _)) (.mkN R R2 (S1.trans S2) hb fun C' hC=>.lst za8 (ra.rev.there.mono hC fun c o _ e=>by rw [za5 (za3 e hb)]; exact e))⟩)
def dLR(f:DA):DE:=fun s=>(f s).bind fun p=>match p.1 with
 | [.int j]=>if rgOk j=true then some (.lst (zaH 0 j.toNat),p.2) else none
 | _=>none
theorem zgS{j:Int}(h:rgOk j=true):-16777216<=j/\j<=16777216:=by
 have:=Nat.le_of_ble_eq_true h
 lia
theorem zfS{a:Expr}{fa:DA}{p p' pos':Pos}(hc:X.calm=true)(hg:Gl X "list")(hm:X.mg "list"=none)(hg':Gl X "range")(hm':X.mg "range"=none)(ha:PA X [a] (cA M fa))(hs:starEach [a] X.env=[(false,eval a X.env)]:=by rfl)
  (hs':starEach [.Call (.Name "range" p') [a] [] pos'] X.env=[(false,eval (.Call (.Name "range" p') [a] [] pos') X.env)]:=by rfl) :
  PE X (.Call (.Name "list" p) [.Call (.Name "range" p') [a] [] pos'] [] pos) (cE .n M (dLR fa)):=weak (zeV hc hg hm hg' hm' ha hs hs') (by
 intro σ H Q h_;refine cE_ h_ fun F O s t s' R hf q=>?_
 obtain ⟨⟨p1,p2⟩,h1,h2⟩:=Qb hf
 refine ⟨F,O,s,p1,p2,R,h1,fun vs H1 S1 R1 rs=>?_⟩
 dsimp only at h2
 split at h2
 case h_2=>cases h2
 ·rename_i j
  have h2:(if rgOk j=true then some (T.lst (zaH 0 j.toNat),p2) else none)=some (t,s'):=h2
  split at h2
  ·rename_i hj
   have hj:=zgS hj
   injection h2 with h2
   injection h2 with h3 h4
   subst h3 h4
   obtain ⟨v,rfl,rv⟩:=rs.one
   obtain rfl:v=.int j:=BRep.int (.inl rv)
   refine ⟨j,rfl,by lia,hj.2,fun b hb=>q _ _ (S1.trans (.new hb _)) (.mkN R R1 S1 hb fun C' hC=>.lst za8 ?_)⟩
   have e:((List.range j.toNat).map fun (k:Nat)=>V.int k)=((List.range j.toNat).map fun (k:Nat)=>(k:Int)).map V.int:=by rw [List.map_map]; rfl
   have e':zaH 0 j.toNat=((List.range j.toNat).map fun (k:Nat)=>(k:Int)).map T.int:=by
    unfold zaH
    rw [List.map_map]
    refine List.map_congr_left fun k _=>?_
    rw [Int.zero_add]; rfl
   rw [e,e']
   exact zbJ _
  ·cases h2)
end
end L3
namespace L3
open PySem PySem.Spec PyProof.Rows L2
variable [TheK]
def dItV(i:Nat):DI:=fun s=>match (s[i]?).join with
 | some (.lst xs)=>some (xs,s)
 | _=>none
theorem ziy{i:Nat}{s s1:Sg}{its:List T}(h:dItV i s=some (its,s1)):s[i]?=some (some (.lst its))/\s1=s:=by
 unfold dItV at h
 split at h
 ·rename_i xs e
  injection h with h
  injection h with h1 h2
  subst h1 h2
  exact ⟨zaa e,rfl⟩
 ·cases h
theorem zk5{M Mi:List Nat}{caps:List (Option Nat)}{i0:Nat}(h0:i0∈M)(hcap:∀ k:Nat,caps[k]?≠some (some i0)){g:TG}{dg:DG}{ft:DT}{fe:DE}{tt:TT}(c:CapOk caps M Mi)(hg:TgOk g dg Mi caps)(htt:∀ σ H Q,cT Mi ft σ H Q->tt σ H Q) :
  ∀ σ H Q,cE .n M (dLC M caps (dItV i0) dg ft fe) σ H Q->tLC caps (iList TheK.K (tVar i0)) g tt (cE .e Mi fe) σ H Q:=by
 intro σ H Q h_;refine cE_ h_ fun F O s t s' R hf q=>?_
 obtain ⟨⟨its,s1⟩,h1,h2⟩:=Qb hf
 split at h2
 case isFalse=>cases h2
 rename_i hsz
 have hsz:its.length<=lcMax:=hsz
 rw [zdg] at hsz
 obtain ⟨⟨tsE,sE⟩,h3,h4⟩:=Qm h2
 injection h4 with h4 h5
 subst h4 h5
 obtain ⟨hs0,rfl⟩:=ziy h1
 obtain ⟨a0,ha0,L0⟩:=R.own i0 _ hs0 h0
 obtain ⟨vs0,hv0,rv0⟩:∃ vs0,H a0=some (.lst vs0)/\Reps (Free F O) H vs0 its:=by
  cases L0 with
  | lst r h=>exact ⟨_,r,h⟩
 refine ⟨_,ha0,a0,rfl,⟨_,SqL.of hv0⟩,fun D hD=>?_⟩
 have S1:Step σ M H H:=.refl
 have R1:=R
 have hne:a0≠D:=fun e=>by rw [e,hD] at hv0; cases hv0
 have IT:∀ H2,(∀ b o,Free F O b->H b=some o->H2 b=some o)->H2 a0=some (.lst vs0)->
  ∀ i:Nat,(∀ t,its[i]?=some t->(Itl TheK.K a0).go i H2/\∀ x H3,(Itl TheK.K a0).yld i H2 x H3->(H3=H2∨∃ p o,H2 p=none/\H3=upd H2 p o)/\Rep (fun b=>(Free F O b/\H b≠none)∨H2 b=none) H3 x t)/\(its.length<=i->(Itl TheK.K a0).stop i H2):=by
  intro H2 k h2 i
  refine ⟨fun t ht=>?_,fun hl=>⟨vs0,SqL.of h2,by rw [rv0.1]; exact hl⟩⟩
  obtain ⟨v,hv,rv⟩:=rv0.get ht
  refine ⟨⟨vs0,v,SqL.of h2,hv⟩,fun x H3 ⟨e1,e2⟩=>⟨.inl e1,?_⟩⟩
  have:=e2 vs0 (SqL.of h2)
  rw [hv] at this
  obtain rfl:v=x:=Option.some.inj this
  subst e1
  exact rv.there.mono (fun b c=>.inl c) fun b o c e=>k b o c.1 e
 have nD:∀ (j:Nat),j∈M->σ[j]?≠some (some (.ref D)):=fun j hj e=>R1.al D (R1.ow j D hj e) hD
 have RD:=R1.new hD (.lst [])
 refine ⟨fun i m H'=>m=its.length - i/\i<=its.length/\∃ s' acc ys,Rel F (fun b=>O b∨b=D) M s' σ H'/\H' D=some (.lst ys)/\ys.length<=i/\Reps (Free F (fun b=>O b∨b=D)) H' ys acc/\Step σ M H H' /\
  (∀ b o,Free F O b->H b=some o->H' b=some o)/\H' a0=some (.lst vs0)/\lcGo M caps dg ft fe (its.drop i) acc s'=some (tsE,sE),⟨its.length,by simp,Nat.zero_le _,s1,[],[],RD,za8,Nat.le_refl _,.nil,S1.trans (.new hD _),fun b o _ e=>by rw [za5 (za3 e hD)]; exact e,by rw [za5 hne]; exact hv0,h3⟩,?_⟩
 rintro i m H2 ⟨rfl,hi,s2,acc,ys,R2,hD2,hy,ry,S2,k2,hA2,hl⟩
 have it:=IT H2 k2 hA2 i
 by_cases hlt:i < its.length
 ·refine .inr ?_
  obtain ⟨go,yl⟩:=it.1 its[i] (List.getElem?_eq_getElem hlt)
  rw [List.drop_eq_getElem_cons hlt] at hl
  unfold lcGo at hl
  obtain ⟨si1,hdg,hl⟩:=Qb hl
  obtain ⟨⟨b,si2⟩,hft,hl⟩:=Qb hl
  refine ⟨go,fun x H3 hy3=>?_⟩
  obtain ⟨y1,y2⟩:=yl x H3 hy3
  -- what was yielded is free of D
  have R3:Rel F (fun b=>O b∨b=D) M s2 σ H3/\(∀ b u,H2 b=some u->H3 b=some u)/\(∀ b,H3 b=none->H2 b=none):=by
   rcases y1 with rfl | ⟨p,o,hp,rfl⟩
   ·exact ⟨R2,fun _ _ e=>e,fun _ e=>e⟩
   ·exact ⟨(R2.new hp o).less (fun b z=>.inl z) R2.ow R2.inD,fun b u e=>by rw [za5 (za3 e hp)]; exact e,fun b e=>by
     unfold upd at e
     split at e
     ·cases e
     ·exact e⟩
  obtain ⟨R3,k3,dm3⟩:=R3
  have rx:Rep (Free F (fun b=>O b∨b=D)) H3 x its[i]:=y2.mono (fun b z=>by
   rcases z with ⟨z,n⟩ | n
   ·exact ⟨fun y=>y.elim z.1 fun y=>n (y▸hD),z.2⟩
   ·exact ⟨fun y=>R2.al b y n,.inr (R2.dom b n)⟩) fun _ _ _ e=>e
  have ry3:Reps (Free F (fun b=>O b∨b=D)) H3 ys acc:=ry.mono (fun _ z=>z) fun b o _ e=>k3 b o e
  have hD3:=k3 _ _ hD2
  refine hg F _ (capS caps s2) its[i] si1 x (capSt caps σ) H3 _ (R3.cap c) rx hdg fun σ4 R4 hk4 hl4=>?_
  have hsl:∀ {sx:Sg} {Hx:Hp},Rel F (fun b=>O b∨b=D) Mi sx σ4 Hx->sx.length=caps.length:=fun {sx Hx} Rx=>by
   rw [Rx.len,hl4]
   unfold capSt
   rw [List.length_map]
  have nD4:∀ (k:Nat),k∈Mi->σ4[k]?≠some (some (.ref D)):=fun k hk e=>by
   obtain ⟨j,e1,e2⟩:=c.yes k hk
   rw [hk4 k j e1] at e
   obtain ⟨j',e3,e4⟩:=zaD e
   rw [e1] at e3
   obtain rfl:j=j':=by injection e3 with h; injection h
   exact nD j e2 e4
  refine htt _ _ _ ⟨F,_,si1,b,si2,R4,hft,fun H5 S5 R5=>?_⟩
  have freeK:∀ {Hx Hy:Hp},Step σ4 Mi Hx Hy->∀ b o,(Free F O b/\b≠D)->Hx b=some o->Hy b=some o:=fun {Hx Hy} Sx b o z e=>Sx.keep b o (R4.notOwned fun y=>y.elim z.1.1 z.2) e
  have S3':∀ {Hx:Hp},Step σ4 Mi H3 Hx->Step σ M H Hx:=fun {Hx} Sx=>⟨fun b o n e=>Sx.keep b o (fun k hk e'=>by
   obtain ⟨j,e1,e2⟩:=c.yes k hk
   rw [hk4 k j e1] at e'
   obtain ⟨j',e3,e4⟩:=zaD e'
   rw [e1] at e3
   obtain rfl:j=j':=by injection e3 with h; injection h
   exact n j e2 e4) (k3 b o (S2.keep b o n e)),fun b e=>S2.dom b (dm3 b (Sx.dom b e))⟩
  have keepA:∀ {Hx:Hp},Step σ4 Mi H3 Hx->Hx a0=some (.lst vs0):=fun {Hx} Sx=>Sx.keep a0 _ (fun k hk e=>by
   obtain ⟨j,e1,e2⟩:=c.yes k hk
   rw [hk4 k j e1] at e
   obtain ⟨j',e3,e4⟩:=zaD e
   rw [e1] at e3
   obtain rfl:j=j':=by injection e3 with h; injection h
   obtain rfl:=R.dis i0 j a0 h0 e2 ha0 e4
   exact hcap k e1) (k3 a0 _ hA2)
  have keepF:∀ {Hx:Hp},Step σ4 Mi H3 Hx->∀ b o,Free F O b->H b=some o->Hx b=some o:=fun {Hx} Sx b o z e=>freeK Sx b o ⟨z,fun y=>by rw [y,hD] at e; cases e⟩ (k3 b o (k2 b o z e))
  cases b with
  | false=>
   rw [if_neg Bool.false_ne_true] at hl
   dsimp only
   rw [if_neg Bool.false_ne_true]
   exact ⟨its.length - (i+1),by lia,rfl,hlt,zaq M caps si2 s2,acc,ys,R3.back c S5 R5 hk4 (hsl R5),S5.keep D _ nD4 hD3,Nat.le_succ_of_le hy,ry3.mono (fun _ z=>z) fun b o z e=>S5.keep b o (R4.notOwned z.1) e,S3' S5,keepF S5,keepA S5,hl⟩
  | true=>
   rw [if_pos rfl] at hl
   dsimp only
   rw [if_pos rfl]
   obtain ⟨⟨te,si3⟩,hfe,hl⟩:=Qb hl
   refine ⟨F,_,si2,te,si3,R5,hfe,fun y H6 S6 p6=>?_⟩
   have S56:=S5.trans S6
   have hD6:H6 D=some (.lst ys):=S56.keep D _ nD4 hD3
   have R6:=R3.back c S56 p6.1 hk4 (hsl p6.1)
   refine ⟨ys,hD6,by rw [sizeLine_eq]; lia,its.length - (i+1),by lia,rfl,hlt,zaq M caps si3 s2,acc++[te],ys++[y],?_,za8,by rw [List.length_append,List.length_singleton]; lia,?_,?_,?_,by rw [za5 hne]; exact keepA S56,hl⟩
   ·-- D is nobody's: writing there keeps the relation
    have kD:∀ b u,b≠D->H6 b=some u->upd H6 D (.lst (ys++[y])) b=some u:=fun b u n e=>by rw [za5 n]; exact e
    refine ⟨R6.len,fun j t e n=>?_,fun j t e n=>?_,R6.ow,R6.dis,fun b u n e=>?_,fun b e=>?_,R6.fresh,R6.inD,fun b z e=>?_⟩
    ·obtain ⟨v,a1,a2⟩:=R6.val j t e n
     exact ⟨v,a1,a2.mono (fun _ z=>z) fun b u z e=>kD b u (fun w=>z.1 (.inr w)) e⟩
    ·obtain ⟨a,a1,a2⟩:=R6.own j t e n
     exact ⟨a,a1,a2.mono (fun _ z=>z) (fun b u z e=>kD b u (fun w=>z.1 (.inr w)) e) fun u e=>kD a u (fun w=>nD j n (w▸a1)) e⟩
    ·refine kD b u (fun w=>?_) (R6.keep b u n e)
     subst w
     have:=R1.dom b hD
     rw [this] at e; cases e
    ·refine R6.dom b ?_
     unfold upd at e
     split at e
     ·cases e
     ·exact e
    ·refine R6.al b z ?_
     unfold upd at e
     split at e
     ·cases e
     ·exact e
   ·have r1:Reps (Free F (fun b=>O b∨b=D)) H6 (ys++[y]) (acc++[te]):=(ry3.mono (fun _ z=>z) fun b o z e=>S56.keep b o (R4.notOwned z.1) e).snoc p6.2
    exact r1.mono (fun _ z=>z) fun b u z e=>by rw [za5 (fun w=>z.1 (.inr w))]; exact e
   ·exact ⟨fun b o n e=>by rw [za5 (za3 e (S1.dom D hD))]; exact (S3' S56).keep b o n e,fun b e=>(S3' S56).dom b (by
     unfold upd at e
     split at e
     ·cases e
     ·exact e)⟩
   ·exact fun b o z e=>by rw [za5 (za3 e hD)]; exact keepF S56 b o z e
 ·have e:i=its.length:=by lia
  subst e
  rw [List.drop_length] at hl
  injection hl with hl
  injection hl with e1 e2
  subst e1 e2
  exact .inl ⟨it.2 (Nat.le_refl _),q _ H2 S2 ⟨D,rfl,S1.dom D hD,R2,.lst hD2 ry⟩⟩
section
variable {X:Cx}{M:List Nat}{e:Expr}{fe:DE}
theorem nocap{caps:List (Option Nat)}{i:Nat}(h:caps.contains (some i)=false):∀ k:Nat,caps[k]?≠some (some i):=fun k e=>by
 have:=List.mem_of_getElem? e
 rw [List.contains_eq_mem,decide_eq_false_iff_not] at h
 exact h this
theorem e_lcV{i0:Nat}{Mi:List Nat}{caps:List (Option Nat)}{g:TG}{dg:DG}{ft:DT}{tt:TT}(hK:X.K=TheK.K)(h0:M.contains i0=true)(hcap:caps.contains (some i0)=false)(c:capB caps M Mi=true)(hg:TgOk g dg Mi caps)(htt:∀ σ H Q,cT Mi ft σ H Q->tt σ H Q)(h:PE X e (tLC caps (iList X.K (tVar i0)) g tt (cE .e Mi fe))):PE X e (cE .n M (dLC M caps (dItV i0) dg ft fe)):=weak (hK▸h) (zk5 (by simpa using h0) (nocap hcap) (.of c) hg htt)
theorem s_lcV{st:Stmt}{i0:Nat}{Mi:List Nat}{caps:List (Option Nat)}{g:TG}{g2:TG}{dg:DG}{ft:DT}{tt:TT}(hK:X.K=TheK.K)(h0:M.contains i0=true)(hcap:caps.contains (some i0)=false)(c:capB caps M Mi=true)(hg:TgOk g dg Mi caps)(htt:∀ σ H Q,cT Mi ft σ H Q->tt σ H Q)(h:PS X st (tAsg (tLC caps (iList X.K (tVar i0)) g tt (cE .e Mi fe)) g2)):PS X st (tAsg (cE .n M (dLC M caps (dItV i0) dg ft fe)) g2):=asg_w (hK▸h) (zk5 (by simpa using h0) (nocap hcap) (.of c) hg htt)
end
end L3
namespace L3
open PySem PySem.Spec PyProof.Rows L2
variable [TheK]
theorem znA:bootBuiltins "min"=some (.builtin "min"):=by first | exact PySem.boot_min | rfl | decide +kernel
theorem zkg:bootBuiltins "max"=some (.builtin "max"):=by first | exact PySem.boot_max | rfl | decide +kernel
end L3
namespace L3
open PySem PySem.Spec PyProof.Rows L2
variable [TheK]
def zc7(x y:T):Option T:=match x with
 | .lst ts=>(toVs ts).bind fun vs=>(toV y).bind fun v=>(vs.findIdx? fun u=>eqV u v).map fun (j:Nat)=>.int j
 | _=>none
theorem zhn:S2M zcK zc7:=by
 intro C H x y tx ty t Q bx by' hg q
 obtain ⟨ts,rfl⟩:∃ ts,tx=.lst ts:=by cases tx<;>first | exact ⟨_,rfl⟩ | cases hg
 obtain ⟨vs,h1,h2⟩:=Qb (show ((toVs ts).bind fun vs=>(toV ty).bind fun v=>(vs.findIdx? fun u=>eqV u v).map fun (j:Nat)=>T.int j)=some t from hg)
 obtain ⟨v,h3,h4⟩:=Qb h2
 obtain ⟨j,h5,rfl⟩:=Qm h4
 obtain ⟨a,us,rfl,ha,ra⟩:=bx.lst
 obtain ⟨e1,e2⟩:=zfz ra h1
 obtain ⟨e3,e4⟩:=zhj by' h3
 subst e1 e3
 exact ⟨a,_,_,j,rfl,rfl,e4,e2,ha,h5,q _ (.int _)⟩
def d2LV(g:T->T->Option T)(i:Nat)(fb:DE):DE:=fun s=>(s[i]?).join.bind fun t0=>if isLst t0 then (fb s).bind fun q=>(q.2[i]?).join.bind fun x=>(g x q.1).map fun t=>(t,q.2) else none
theorem m2_ev{M:List Nat}{fb:DE}{K:PySem.W.Frag}{i:Nat}(hi:M.contains i=true){r:V->List V->Hp->VK->Prop}{g:T->T->Option T}(h:S2M r g):∀ σ H Q,cE .e M (d2LV g i fb) σ H Q->tBM K "list" r (tVar i) (tCons (cE .b M fb) tNil) σ H Q:=by
 intro σ H Q h_;refine cE_ h_ fun F O s t s' R hf q=>?_
 obtain ⟨t0,h1,h2⟩:=Qb hf
 have h1:=zaa h1
 have hi':i∈M:=by simpa using hi
 split at h2
 ·rename_i hl
  obtain ⟨w,h3,h4⟩:=Qb h2
  obtain ⟨x,h5,h6⟩:=Qb h4
  obtain ⟨t',h7,h8⟩:=Qm h6
  injection h8 with h8 h9
  subst h8 h9
  obtain ⟨a,e1,L⟩:=R.own i t0 h1 hi'
  have ty:tyV K "list" (.ref a) H:=by
   obtain ⟨ts,e⟩:∃ ts,t0=.lst ts:=by cases t0<;>first | exact ⟨_,rfl⟩ | cases hl
   subst e
   cases L with
   | lst r _=>exact .inl ⟨rfl,_,SqL.of r⟩
  refine ⟨_,e1,ty,F,O,s,w.1,w.2,R,h3,fun u H2 S2 pb=>?_⟩
  obtain ⟨v,e2,B⟩:=zej hi' R pb.1 h1 (zaa h5)
  rw [e1] at e2
  injection e2 with e2
  injection e2 with e2
  subst e2
  exact h (Free F O) H2 _ u x w.1 t' Q B pb.view h7 fun x rx=>q x H2 S2 ⟨pb.1,rx⟩
 ·cases h2
def blsT:List T->Option (List Bool)
 | []=>some []
 | .bl b::ts=>(blsT ts).map (b::·)
 | _=>none
theorem ziH{C:Addr->Prop}{H:Hp}:∀ {vs:List V} {ts:List T} {bs:List Bool},Reps C H vs ts->blsT ts=some bs->vs=bs.map V.bl
 | [],[],bs,_,h=>by injection h with h; subst h; rfl
 | [],_::_,_,r,_=>by have:=r.1; simp at this
 | _::_,[],_,r,_=>by have:=r.1; simp at this
 | v::vs,t::ts,bs,r,h=>by
  obtain ⟨b,rfl⟩:∃ b,t=.bl b:=by cases t<;>first | exact ⟨_,rfl⟩ | cases h
  obtain ⟨l,h1,rfl⟩:=Qm (show (blsT ts).map (b::·)=some bs from h)
  rw [ziH r.tail h1,BRep.bl (.inl r.head)]; rfl
def gAll:T->Option T
 | .lst ts=>(blsT ts).map fun bs=>.bl (bs.all id)
 | _=>none
def gAny:T->Option T
 | .lst ts=>(blsT ts).map fun bs=>.bl (bs.any id)
 | _=>none
theorem s_all:S1E (fun xs H Q=>∃ (a:Addr) (bs:List Bool),xs=[V.ref a]/\SqL TheK.K H a (bs.map V.bl)/\Q (.bl (bs.all id)) H) gAll:=by
 intro C H x tx t Q bx hg q
 obtain ⟨ts,rfl⟩:∃ ts,tx=.lst ts:=by cases tx<;>first | exact ⟨_,rfl⟩ | cases hg
 obtain ⟨bs,h1,rfl⟩:=Qm (show (blsT ts).map (fun bs=>T.bl (bs.all id))=some t from hg)
 obtain ⟨a,us,rfl,ha,ra⟩:=bx.lst
 rw [ziH ra h1] at ha
 exact ⟨a,bs,rfl,SqL.of ha,q _ (.bl _)⟩
theorem znC:bootBuiltins "all"=some (.builtin "all"):=by first | exact PyProof.Rows.boot_all | decide +kernel
section
variable {X:Cx}{M:List Nat}{e o:Expr}{fa fe:DE}{p pos apos:Pos}
theorem zlm(h:PE X (.Call (.Attribute o "index" apos) [e] [] pos) (tBM X.K "list" zcK (cE .e M fa) (tCons (cE .b M fe) tNil))):PE X (.Call (.Attribute o "index" apos) [e] [] pos) (cE .e M (d2L zc7 fa fe)):=weak h (m2_e zhn)
theorem zjA{i:Nat}(hi:M.contains i=true)(h:PE X (.Call (.Attribute o "index" apos) [e] [] pos) (tBM X.K "list" zcK (tVar i) (tCons (cE .b M fe) tNil))):PE X (.Call (.Attribute o "index" apos) [e] [] pos) (cE .e M (d2LV zc7 i fe)):=weak h (m2_ev hi zhn)
theorem e_all(hK:X.K=TheK.K)(hc:X.calm=true)(hg:Gl X "all")(hm:X.mg "all"=none)(h:PE X e (cE .b M fe))(he:starEach [e] X.env=(false,eval e X.env)::starEach [] X.env:=by rfl)(hpl:(backTo pos (starEach [] X.env)).any (·.1)=false:=by rfl):PE X (.Call (.Name "all" p) [e] [] pos) (cE .e M (d1 gAll fe)):=
 weak (zc0 (show CallR X _ _ from hK▸zjH hc) hg hm znC (zaZ h zd7 he) (by decide) (by decide) he hpl) (one_e s_all)
end
end L3
namespace L3
open PySem PySem.Spec PyProof.Rows L2
variable [TheK]
def dFzS(i:Nat)(d:DS):DS:=fun s=>match (s[i]?).join with
 | some (.dct kvs)=>d (s.set i (some (.fd kvs)))
 | _=>none
def dItW(f:DE):DI:=fun s=>(f s).bind fun p=>match p.1 with
 | .fd kvs=>some (kvs.map fun kv=>kv.2,p.2)
 | _=>none
section
variable {X:Cx}{M:List Nat}{e o a b c:Expr}{fa fb fc fe:DE}{p pos apos:Pos}
def dGetV(i:Nat)(fk fx:DE):DE:=fun s=>match (s[i]?).join with
 | some (.dct _)=>(fk s).bind fun q=>(keyT q.1).bind fun k=>(fx q.2).bind fun r=>match (r.2[i]?).join with
  | some (.dct kvs)=>some ((lookT kvs k).getD r.1,r.2)
  | _=>none
 | _=>none
end
end L3
namespace L3
open PySem PySem.Spec PyProof.Rows L2
variable [TheK]
def intsT:List T->Option (List Int)
 | []=>some []
 | .int i::ts=>(intsT ts).map (i::·)
 | _=>none
theorem zet{C:Addr->Prop}{H:Hp}:∀ {vs:List V} {ts:List T} {ns:List Int},Reps C H vs ts->intsT ts=some ns->vs=ns.map V.int
 | [],[],ns,_,h=>by injection h with h; subst h; rfl
 | [],_::_,_,r,_=>by have:=r.1; simp at this
 | _::_,[],_,r,_=>by have:=r.1; simp at this
 | v::vs,t::ts,ns,r,h=>by
  obtain ⟨b,rfl⟩:∃ b,t=.int b:=by cases t<;>first | exact ⟨_,rfl⟩ | cases h
  obtain ⟨l,h1,rfl⟩:=Qm (show (intsT ts).map (b::·)=some ns from h)
  rw [zet r.tail h1,BRep.int (.inl r.head)]; rfl
end L3
namespace L3
open PySem PySem.Spec PyProof.Rows L2
variable [TheK]
def zmL(z y:Str):List Str:=Builtin.Str.partsBetween z (Builtin.Str.occurrences z y 0 z.length (z.length+1)) y.length
def zka(x y:T):Option T:=match x,y with
 | .str z,.str y=>if (y.length == 0)=false/\z.length<=sizeLine/\(Txt.split z y).length<=sizeLine/\(zmL z y).length<=sizeLine then some (.lst ((Txt.split z y).map T.str)) else none
 | _,_=>none
def znt(fa fb:DE):DE:=fun s=>(fa s).bind fun p=>match p.1 with
 | .str z=>(fb p.2).bind fun q=>(zka (.str z) q.1).map fun t=>(t,q.2)
 | _=>none
theorem zgJ:bootBuiltins "tuple"=some (.type "tuple"):=by decide +kernel
def flatT:T->Bool
 | .non | .bl _ | .int _ | .str _=>true
 | _=>false
theorem zbk{C C':Addr->Prop}{H H':Hp}{v:V}{t:T}(h:Rep C H v t)(f:flatT t=true):Rep C' H' v t:=by
 cases h<;>first | exact .non | exact .bl _ | exact .int _ | exact .str _ | cases f
def zfj(fn:List T->Option T)(i:Nat)(fa:DA):DE:=fun s=>(s[i]?).join.bind fun _=>(fa s).bind fun p=>(p.2[i]?).join.bind fun t0=>(fn (t0::p.1)).bind fun t=>if flatT t=true then some (t,p.2) else none
theorem zlA{M:List Nat}{fa:DA}{np:Nat}{fn:List T->Option T}{i:Nat}(hn:Ar fa np)(hi:M.contains i=true):∀ σ H Q,cE .e M (zfj fn i fa) σ H Q->tCall (spP .e (np+1) fn) [] E0 (tCons (tVar i) (cA M fa)) σ H Q:=by
 intro σ H Q h_;refine cE_ h_ fun F O s t s' R hf q=>?_
 have hi':i∈M:=by simpa using hi
 obtain ⟨x0,h0,hf⟩:=Qb hf
 obtain ⟨p,h1,hf⟩:=Qb hf
 obtain ⟨t0,h2,hf⟩:=Qb hf
 obtain ⟨w,h3,h4⟩:=Qb hf
 split at h4
 ·rename_i hfl
  injection h4 with h4
  injection h4 with h4 h5
  subst h4 h5
  obtain ⟨a,e1,_⟩:=R.own i x0 (zaa h0) hi'
  refine ⟨_,e1,F,O,s,p.1,p.2,R,h1,fun vs H1 S1 R1 rs=>?_⟩
  obtain ⟨b,e2,L⟩:=R1.own i t0 (zaa h2) hi'
  rw [e1] at e2
  injection e2 with e2
  injection e2 with e2
  injection e2 with e2
  subst e2
  try dsimp only
  rw [List.append_nil]
  refine ⟨fun _=>True,t0::p.1,w,by rw [List.length_cons,hn _ _ _ h1],.cons (L.rep (fun _ _=>trivial) trivial) (rs.mono (fun _ _=>trivial) fun _ _ _ e=>e),h3,fun v H2 c=>q v H2 (S1.trans ⟨fun b o _ e=>c.keep b o e,c.dom⟩) ⟨R1.ext c.keep c.dom,?_⟩⟩
  exact zbk c.res hfl
 ·cases h4
section
variable {X:Cx}{M:List Nat}{e:Expr}{es:List Expr}{fs:DA}{p pos:Pos}{k np:Nat}{f:Addr}{fd:FuncData}{ps:List Str}{x:Str}
theorem zls{fn:List T->Option T}{i:Nat}(hi:M.contains i=true)(F:FnOk X.prog X.w X.K X.mg X.base CX0 k f fd ps (spP .e (np+1) fn))(hr:Room k X.A)(hg:Gl X x)(hm:X.mg x=some (.ref f))(hk:PySem.W.keepIn X.K (.ref f)=true)(hb:Binds X.K fd ps [])
  (h0:PE X e (tVar i)) (ha:PA X es (cA M fs)) (ar:Ar fs np) (hdb:(x == ("__debug__":Str))=false:=by decide) (he:starEach (e::es) X.env=(false,eval e X.env)::starEach es X.env:=by rfl) (hpl:(backTo pos (starEach es X.env)).any (·.1)=false:=by rfl) :
  PE X (.Call (.Name x p) (e::es) [] pos) (cE .e M (zfj fn i fs)):=weak (zcQ F hr hg hm hk hb .nil pass0 (zaZ h0 ha he) hdb he hpl) (zlA ar hi)
end
end L3
namespace L3
open PySem PySem.Spec PyProof.Rows L2
variable [TheK]
theorem znz:bootBuiltins "set"=some (.type "set"):=by decide +kernel
def zch:T->Option T
 | .lst ts=>(strsT ts).bind fun ss=>if ss.length < 1000 then some (.int (Dw.za0 ss).length) else none
 | _=>none
theorem Rel.plus{F:Fr}{O:Addr->Prop}{M:List Nat}{s:Sg}{σ:L2.St}{H:Hp}{l:Addr}(R:Rel F O M s σ H)(h:H l=none)(o:HO):Rel F O M s σ (upd H l o):=
 R.ext (fun b u e=>by rw [za5 (za3 e h)]; exact e) fun b e=>by
  unfold upd at e
  split at e
  ·cases e
  ·exact e
section
variable {X:Cx}{M:List Nat}{e:Expr}{fe:DE}{p p2 pos pos2:Pos}
theorem zjz(hK:X.K=TheK.K)(hc:X.calm=true)(hg:Gl X "len")(hm:X.mg "len"=none)(hg2:Gl X "set")(hm2:X.mg "set"=none)(h:PE X e (cE .b M fe))(he2:starEach [e] X.env=(false,eval e X.env)::starEach [] X.env:=by rfl)(hpl2:(backTo pos2 (starEach [] X.env)).any (·.1)=false:=by rfl)
  (he:starEach [.Call (.Name "set" p2) [e] [] pos2] X.env=(false,eval (.Call (.Name "set" p2) [e] [] pos2) X.env)::starEach [] X.env:=by rfl) (hpl:(backTo pos (starEach [] X.env)).any (·.1)=false:=by rfl):PE X (.Call (.Name "len" p) [.Call (.Name "set" p2) [e] [] pos2] [] pos) (cE .e M (d1 zch fe)):=
 weak (zc0 ziD hg hm PySem.boot_len (zaZ (zeW (ziA hc) hg2 hm2 znz (zaZ h zd7 he2) (by decide) (by decide) he2 hpl2) zd7 he) (by decide) (by decide) he hpl) (by
 intro σ H Q h_;refine cE_ h_ fun F O s t s' R hf q=>?_
 obtain ⟨⟨p1,p2⟩,h1,h2⟩:=Qb hf
 obtain ⟨t',h3,h4⟩:=Qm h2
 injection h4 with h4 h5
 subst h4 h5
 obtain ⟨ts,rfl⟩:∃ ts,p1=.lst ts:=by cases p1<;>first | exact ⟨_,rfl⟩ | cases h3
 obtain ⟨ss,h6,h7⟩:=Qb (show ((strsT ts).bind fun ss=>if ss.length < 1000 then some (T.int (Dw.za0 ss).length) else none)=some t' from h3)
 split at h7
 ·rename_i hl
  injection h7 with h7
  subst h7
  refine ⟨F,O,s,_,_,R,h1,fun v H1 S1 p1=>?_⟩
  obtain ⟨a,us,rfl,ha,ra⟩:=p1.view.lst
  rw [zg8 ra h6] at ha
  exact ⟨a,ss,rfl,SqL.of ha,hl,fun l hn=>⟨l,_,rfl,za8,q _ _ (S1.trans (.new hn _)) ⟨p1.1.plus hn _,.int _⟩⟩⟩
 ·cases h7)
def dItR(f:DE):DI:=fun s=>(f s).bind fun p=>match p.1 with
 | .lst xs=>some (xs.reverse,p.2)
 | _=>none
def stepT(i c:Int)(n:Nat):List T:=(List.range n).map fun (k:Nat)=>T.int (i+k*c)
def rg3(i j c:Int):Bool:=match j with
 | .ofNat n=>Nat.ble n 100&&(decide (i=2)&&decide (c=2))
 | _=>false
def dRg3(f:DA):DI:=fun s=>(f s).bind fun p=>match p.1 with
 | [.int i,.int j,.int c]=>if rg3 i j c=true then some (stepT 2 2 ((j.toNat - 1) / 2),p.2) else none
 | _=>none
end
end L3
namespace L3
open PySem PySem.Spec PyProof.Rows L2
variable [TheK]
def dPar(i j:Nat)(fa:DA):DS:=fun s=>(fa s).bind fun p=>match p.1 with
 | [t,u]=>if i < p.2.length/\j < p.2.length then some (.nx ((p.2.set i (some t)).set j (some u))) else none
 | _=>none
end L3
namespace L3
open PySem PySem.Spec PyProof.Rows L2
variable [TheK]
section
variable {X:Cx}{M:List Nat}{a b e:Expr}{fa fb fe:DE}{p pos:Pos}
def dSet0:DE:=fun s=>some (.set (fun _=>false) 0,s)
def dSAdd(i:Nat)(fe:DE):DE:=fun s=>(s[i]?).join.bind fun t0=>match t0 with
 | .set _ _=>(fe s).bind fun p=>(p.2[i]?).join.bind fun t1=>match p.1,t1 with
  | .int k,.set S n=>if n < 1000 then some (.non,p.2.set i (some (.set (fun j=>S j||decide (j=k)) (if S k then n else n+1)))) else none
  | _,_=>none
 | _=>none
end
end L3
namespace L3
open PySem PySem.Spec PyProof.Rows L2
variable [TheK]
def zcT(fn:List T->Option T)(i:Nat)(f0:DE)(fa:DA):DE:=fun s=>(f0 s).bind fun p=>(p.2[i]?).join.bind fun _=>(fa p.2).bind fun q=>(q.2[i]?).join.bind fun t0=>(fn (p.1::t0::q.1)).bind fun t=>if flatT t=true then some (t,q.2) else none
theorem zjI{M:List Nat}{f0:DE}{fa:DA}{np:Nat}{fn:List T->Option T}{i:Nat}(hn:Ar fa np)(hi:M.contains i=true):∀ σ H Q,cE .e M (zcT fn i f0 fa) σ H Q->tCall (spP .e (np+2) fn) [] E0 (tCons (cE .e M f0) (tCons (tVar i) (cA M fa))) σ H Q:=by
 intro σ H Q h_;refine cE_ h_ fun F O s t s' R hf q=>?_
 have hi':i∈M:=by simpa using hi
 obtain ⟨p,h0,hf⟩:=Qb hf
 obtain ⟨x0,h1,hf⟩:=Qb hf
 obtain ⟨r,h2,hf⟩:=Qb hf
 obtain ⟨t0,h3,hf⟩:=Qb hf
 obtain ⟨w,h4,h5⟩:=Qb hf
 by_cases hfl:flatT w=true
 ·rw [if_pos hfl] at h5
  injection h5 with h5
  injection h5 with h5 h6
  subst h5 h6
  refine ⟨F,O,s,p.1,p.2,R,h0,fun v H1 S1 p1=>?_⟩
  obtain ⟨a,e1,_⟩:=p1.1.own i x0 (zaa h1) hi'
  refine ⟨_,e1,F,O,p.2,r.1,r.2,p1.1,h2,fun vs H2 S2 R2 rs=>?_⟩
  obtain ⟨b,e2,L⟩:=R2.own i t0 (zaa h3) hi'
  rw [e1] at e2
  injection e2 with e2
  injection e2 with e2
  injection e2 with e2
  subst e2
  have rv:=p1.1.stay S2 p1.2
  try dsimp only
  rw [List.append_nil]
  refine ⟨fun _=>True,p.1::t0::r.1,w,by rw [List.length_cons,List.length_cons,hn _ _ _ h2],.cons (rv.mono (fun _ _=>trivial) fun _ _ _ e=>e) (.cons (L.rep (fun _ _=>trivial) trivial) (rs.mono (fun _ _=>trivial) fun _ _ _ e=>e)),h4,fun v H3 c=>q v H3 ((S1.trans S2).trans ⟨fun b o _ e=>c.keep b o e,c.dom⟩) ⟨R2.ext c.keep c.dom,?_⟩⟩
  exact zbk c.res hfl
 ·rw [if_neg hfl] at h5; cases h5
section
variable {X:Cx}{M:List Nat}{e1 e2:Expr}{es:List Expr}{f0:DE}{fs:DA}{p pos:Pos}{k np:Nat}{f:Addr}{fd:FuncData}{ps:List Str}{x:Str}
theorem zjB{fn:List T->Option T}{i:Nat}(hi:M.contains i=true)(F:FnOk X.prog X.w X.K X.mg X.base CX0 k f fd ps (spP .e (np+2) fn))(hr:Room k X.A)(hg:Gl X x)(hm:X.mg x=some (.ref f))(hk:PySem.W.keepIn X.K (.ref f)=true)(hb:Binds X.K fd ps [])
  (h0:PE X e1 (cE .e M f0)) (h1:PE X e2 (tVar i)) (ha:PA X es (cA M fs)) (ar:Ar fs np) (hdb:(x == ("__debug__":Str))=false:=by decide) (he:starEach (e1::e2::es) X.env=(false,eval e1 X.env)::starEach (e2::es) X.env:=by rfl) (he2:starEach (e2::es) X.env=(false,eval e2 X.env)::starEach es X.env:=by rfl) (hpl:(backTo pos (starEach (e2::es) X.env)).any (·.1)=false:=by rfl) :
  PE X (.Call (.Name x p) (e1::e2::es) [] pos) (cE .e M (zcT fn i f0 fs)):=weak (zcQ F hr hg hm hk hb .nil pass0 (zaZ h0 (zaZ h1 ha he2) he) hdb he hpl) (zjI ar hi)
end
end L3
namespace L3
open PySem PySem.Spec PyProof.Rows L2
variable [TheK]
def gLtL:T->T->Option T
 | .lst xs,.lst ys=>(intsT xs).bind fun a=>(intsT ys).map fun b=>.bl (HT.lexLt a b)
 | _,_=>none
theorem s_ltL:S2E (rLtL TheK.K) gLtL:=by
 intro C H x y tx ty t Q bx by' hg q
 obtain ⟨xs,rfl⟩:∃ xs,tx=.lst xs:=by cases tx<;>first | exact ⟨_,rfl⟩ | cases hg
 obtain ⟨ys,rfl⟩:∃ ys,ty=.lst ys:=by cases ty<;>first | exact ⟨_,rfl⟩ | cases hg
 obtain ⟨ns,h1,h2⟩:=Qb (show ((intsT xs).bind fun a=>(intsT ys).map fun b=>T.bl (HT.lexLt a b))=some t from hg)
 obtain ⟨ms,h3,rfl⟩:=Qm h2
 obtain ⟨a,us,rfl,ha,ra⟩:=bx.lst
 obtain ⟨b,vs,rfl,hb,rb⟩:=by'.lst
 rw [zet ra h1] at ha
 rw [zet rb h3] at hb
 exact ⟨a,b,ns,ms,rfl,rfl,SqL.of ha,SqL.of hb,q _ (.bl _)⟩
def gLtA:=orG gLt gLtL
section
variable {X:Cx}{M:List Nat}{a b e:Expr}{fa fb fe:DE}{p pos:Pos}
theorem e_ltL(hK:X.K=TheK.K)(hu:X.A.units+1 < cLine)(ha:PE X a (cE .e M fa))(hb:PE X b (cE .b M fb)):PE X (.Compare a [.Lt] [b] pos) (cE .e M (d2 gLtL fa fb)):=weak (zfG (show OpR X (compareOp .Lt) (rLtL TheK.K) from hK▸zk2 (by lia)) ha hb (zd8 _)) (two_e s_ltL)
theorem t_ltL(hK:X.K=TheK.K)(hu:X.A.units+1 < cLine)(ha:PE X a (cE .e M fa))(hb:PE X b (cE .b M fb)):PT X (.Compare a [.Lt] [b] pos) (cT M (dB (d2 gLtL fa fb))):=weakT (zcd (show OpR X (compareOp .Lt) (rLtL TheK.K) from hK▸zk2 (by lia)) ha hb (zd8 _)) (tst (two_e s_ltL))
def zk9:List T->Option (List (List Int))
 | []=>some []
 | .lst xs::ts=>(intsT xs).bind fun a=>(zk9 ts).map (a::·)
 | _=>none
def gMinL:T->Option T
 | .lst ts=>(zk9 ts).bind fun rs=>if 0 < rs.length then ts[zlb rs]? else none
 | _=>none
end
section
variable {X:Cx}{M:List Nat}{a b:Expr}{fa fb:DE}{pos:Pos}
theorem t_ltA(hK:X.K=TheK.K)(hu:X.A.units+1 < cLine)(ha:PE X a (cE .e M fa))(hb:PE X b (cE .b M fb)):PT X (.Compare a [.Lt] [b] pos) (cT M (dB (d2 gLtA fa fb))):=weakT (ptor (t_lt ha hb) (t_ltL hK hu ha hb)) (ziv d2_or)
end
def flatL:T->Bool
 | .lst ts=>ts.all flatT
 | _=>false
theorem zin{C C':Addr->Prop}{H H':Hp}{vs:List V}{ts:List T}(r:Reps C H vs ts)(f:ts.all flatT=true):Reps C' H' vs ts:=
 ⟨r.1,fun i v t hv ht=>zbk (r.2 i v t hv ht) (List.all_eq_true.mp f t (List.mem_of_getElem? ht))⟩
theorem zio{C C':Addr->Prop}{H:Hp}{a:Addr}{t:T}(h:Live C H a t)(f:flatL t=true):Live C' H a t:=by
 cases h with
 | lst r h=>exact .lst r (zin h f)
 | _=>cases f
end L3
namespace L3
open PySem PySem.Spec PyProof.Rows L2
variable [TheK]
def lc2In(dg2:DG)(fe:DE):List T->List T->Sg->Option (List T)
 | [],acc,_=>some acc
 | y::ys,acc,s=>(dg2 y s).bind fun s1=>(fe s1).bind fun q=>lc2In dg2 fe ys (acc++[q.1]) q.2
def lc2Go(caps:List (Option Nat))(dg1 dg2:DG)(fi2:DI)(fe:DE):List T->List T->Sg->Option (List T)
 | [],acc,_=>some acc
 | x::xs,acc,s=>(dg1 x (capS caps s)).bind fun s1=>(fi2 s1).bind fun p=>if acc.length+p.1.length<=lcMax then (lc2In dg2 fe p.1 acc p.2).bind fun a=>lc2Go caps dg1 dg2 fi2 fe xs a s else none
def dLC2(caps:List (Option Nat))(fi:DI)(dg1:DG)(fi2:DI)(dg2:DG)(fe:DE):DE:=fun s=>(fi s).bind fun p=>(lc2Go caps dg1 dg2 fi2 fe p.1 [] p.2).map fun l=>(.lst l,p.2)
theorem Rel.but{F:Fr}{O:Addr->Prop}{M:List Nat}{s:Sg}{σ:L2.St}{H H':Hp}{D:Addr}(R:Rel F O M s σ H)(hO:O D)(nD:∀ (j:Nat),j∈M->σ[j]?≠some (some (.ref D)))(h0:F.H0 D=none)
  (k:∀ b u,b≠D->H b=some u->H' b=some u) (d:∀ b,H' b=none->H b=none):Rel F O M s σ H':=by
 refine ⟨R.len,fun j t e n=>?_,fun j t e n=>?_,R.ow,R.dis,fun b u n e=>?_,fun b e=>R.dom b (d b e),R.fresh,R.inD,fun b z e=>R.al b z (d b e)⟩
 ·obtain ⟨v,a1,a2⟩:=R.val j t e n
  exact ⟨v,a1,a2.mono (fun _ z=>z) fun b u z e=>k b u (fun w=>z.1 (w▸hO)) e⟩
 ·obtain ⟨a,a1,a2⟩:=R.own j t e n
  exact ⟨a,a1,a2.mono (fun _ z=>z) (fun b u z e=>k b u (fun w=>z.1 (w▸hO)) e) fun u e=>k a u (fun w=>nD j n (w▸a1)) e⟩
 ·refine k b u (fun w=>?_) (R.keep b u n e)
  subst w
  rw [h0] at e
  cases e
theorem zdR{H:Hp}{p b:Addr}{o:HO}(e:upd H p o b=none):H b=none:=by
 unfold upd at e
 split at e
 ·cases e
 ·exact e
theorem zlE{F:Fr}{O:Addr->Prop}{M:List Nat}{s:Sg}{σ:L2.St}{H H1 H':Hp}{D:Addr}{x:V}{t:T}(R:Rel F (fun b=>O b∨b=D) M s σ H)(hD:H1 D=none)
  (y1:H'=H∨∃ p o,H p=none/\H'=upd H p o) (y2:Rep (fun b=>(Free F O b/\H1 b≠none)∨H b=none) H' x t) :
  Rel F (fun b=>O b∨b=D) M s σ H'/\(∀ b u,H b=some u->H' b=some u)/\(∀ b,H' b=none->H b=none)/\Rep (Free F (fun b=>O b∨b=D)) H' x t:=by
 have rx:Rep (Free F (fun b=>O b∨b=D)) H' x t:=y2.mono (fun b z=>by
  rcases z with ⟨z,n⟩ | n
  ·exact ⟨fun y=>y.elim z.1 fun y=>n (y▸hD),z.2⟩
  ·exact ⟨fun y=>R.al b y n,.inr (R.dom b n)⟩) fun _ _ _ e=>e
 rcases y1 with rfl | ⟨p,o,hp,rfl⟩
 ·exact ⟨R,fun _ _ e=>e,fun _ e=>e,rx⟩
 ·exact ⟨(R.new hp o).less (fun b z=>.inl z) R.ow R.inD,fun b u e=>by rw [za5 (za3 e hp)]; exact e,fun b e=>zdR e,rx⟩
theorem zkh{F:Fr}{O:Addr->Prop}{M:List Nat}{s:Sg}{σ:L2.St}{H H1 H':Hp}{x:V}{t:T}(R:Rel F O M s σ H)
  (y1:H'=H∨∃ p o,H p=none/\H'=upd H p o) (y2:Rep (fun b=>(Free F O b/\H1 b≠none)∨H b=none) H' x t) :
  Rel F O M s σ H'/\(∀ b u,H b=some u->H' b=some u)/\(∀ b,H' b=none->H b=none)/\Rep (Free F O) H' x t:=by
 have rx:Rep (Free F O) H' x t:=y2.mono (fun b z=>by
  rcases z with ⟨z,n⟩ | n
  ·exact z
  ·exact ⟨fun y=>R.al b y n,.inr (R.dom b n)⟩) fun _ _ _ e=>e
 rcases y1 with rfl | ⟨p,o,hp,rfl⟩
 ·exact ⟨R,fun _ _ e=>e,fun _ e=>e,rx⟩
 ·exact ⟨(R.new hp o).less (fun b z=>.inl z) R.ow R.inD,fun b u e=>by rw [za5 (za3 e hp)]; exact e,fun b e=>zdR e,rx⟩
theorem zmZ{M:List Nat}{caps:List (Option Nat)}{fi fi2:DI}{g1 g2:TG}{dg1 dg2:DG}{fe:DE}(c:CapOk caps M [])(hg1:TgOk g1 dg1 [] caps)(hg2:TgOk g2 dg2 [] caps) :
  ∀ σ H Q,cE .n M (dLC2 caps fi dg1 fi2 dg2 fe) σ H Q->tLC2 caps (cI M fi) g1 (cI [] fi2) g2 (cE .e [] fe) σ H Q:=by
 intro σ H Q h_;refine cE_ h_ fun F O s t s' R hf q=>?_
 obtain ⟨⟨its,s1⟩,h1,h2⟩:=Qb hf
 obtain ⟨tsE,h3,h4⟩:=Qm h2
 injection h4 with h4 h5
 subst h4 h5
 refine ⟨F,O,s,its,s1,R,h1,fun J H1 S1 R1 IT D hD=>?_⟩
 have nD:∀ (j:Nat),j∈M->σ[j]?≠some (some (.ref D)):=fun j hj e=>R1.al D (R1.ow j D hj e) hD
 have h0:F.H0 D=none:=R1.dom D hD
 have RD:=R1.new hD (.lst [])
 refine ⟨fun i m H'=>m=its.length - i/\i<=its.length/\∃ acc ys,Rel F (fun b=>O b∨b=D) M s1 σ H'/\H' D=some (.lst ys)/\Reps (Free F (fun b=>O b∨b=D)) H' ys acc/\Step σ M H H' /\
  (∀ b o,Free F O b->H1 b=some o->H' b=some o)/\lc2Go caps dg1 dg2 fi2 fe (its.drop i) acc s1=some tsE,⟨its.length,by simp,Nat.zero_le _,[],[],RD,za8,.nil,S1.trans (.new hD _),fun b o _ e=>by rw [za5 (za3 e hD)]; exact e,h3⟩,?_⟩
 rintro i m H2 ⟨rfl,hi,acc,ys,R2,hD2,ry,S2,k2,hl⟩
 have it:=IT H2 k2 i
 by_cases hlt:i < its.length
 ·refine .inr ?_
  obtain ⟨go,yl⟩:=it.1 its[i] (List.getElem?_eq_getElem hlt)
  rw [List.drop_eq_getElem_cons hlt] at hl
  unfold lc2Go at hl
  obtain ⟨si1,hdg,hl⟩:=Qb hl
  obtain ⟨⟨its2,si2⟩,hfi,hl⟩:=Qb hl
  split at hl
  case isFalse=>cases hl
  rename_i hsz
  have hsz:acc.length+its2.length<=lcMax:=hsz
  rw [zdg] at hsz
  obtain ⟨acc2,hin,hl⟩:=Qb hl
  refine ⟨go,fun x H3 hy3=>?_⟩
  obtain ⟨y1,y2⟩:=yl x H3 hy3
  obtain ⟨R3,k3,dm3,rx⟩:=zlE R2 hD y1 y2
  have ry3:Reps (Free F (fun b=>O b∨b=D)) H3 ys acc:=ry.mono (fun _ z=>z) fun b o _ e=>k3 b o e
  have hD3:=k3 _ _ hD2
  refine hg1 F _ (capS caps s1) its[i] si1 x (capSt caps σ) H3 _ (R3.cap c) rx hdg fun σ4 R4 hk4 hl4=>?_
  refine ⟨F,_,si1,its2,si2,R4,hfi,fun J2 H5 S5 R5 IT2=>?_⟩
  have e5:∀ b u,H3 b=some u->H5 b=some u:=fun b u e=>S5.keep b u (fun _ h=>by cases h) e
  refine ⟨fun j m' σ6 H6=>m'=its2.length - j/\j<=its2.length/\∃ acc' ys' s6,Rel F (fun b=>O b∨b=D) [] s6 σ6 H6/\(∀ b u,b≠D->H5 b=some u->H6 b=some u)/\(∀ b,H6 b=none->H5 b=none)/\H6 D=some (.lst ys') /\
   Reps (Free F (fun b=>O b∨b=D)) H6 ys' acc'/\acc'.length=acc.length+j/\(∀ (k j:Nat),caps[k]?=some (some j)->σ6[k]?=(capSt caps σ)[k]?)/\lc2In dg2 fe (its2.drop j) acc' s6=some acc2,
   ⟨its2.length,by simp,Nat.zero_le _,acc,ys,si2,R5,fun b u _ e=>e,fun b e=>e,e5 _ _ hD3,ry3.mono (fun _ z=>z) fun b o _ e=>e5 b o e,rfl,hk4,hin⟩,?_⟩
  rintro j m' σ6 H6 ⟨rfl,hj,acc',ys',s6,R6,k6,d6,hD6,ry6,la,hk6,hin⟩
  have it2:=IT2 H6 (fun b o z e=>k6 b o (fun w=>z.1 (.inr w)) e) j
  by_cases hj2:j < its2.length
  ·refine .inr ?_
   obtain ⟨go2,yl2⟩:=it2.1 its2[j] (List.getElem?_eq_getElem hj2)
   rw [List.drop_eq_getElem_cons hj2] at hin
   unfold lc2In at hin
   obtain ⟨s7,hdg2,hin⟩:=Qb hin
   obtain ⟨⟨te,s8⟩,hfe,hin⟩:=Qb hin
   refine ⟨go2,fun y H7 hy7=>?_⟩
   obtain ⟨z1,z2⟩:=yl2 y H7 hy7
   obtain ⟨R7,k7,d7,rz⟩:=zkh R6 z1 z2
   refine hg2 F _ s6 its2[j] s7 y σ6 H7 _ R7 rz hdg2 fun σ8 R8 hk8 hl8=>?_
   refine ⟨F,_,s7,te,s8,R8,hfe,fun v H9 S9 p9=>?_⟩
   have e9:∀ b u,H7 b=some u->H9 b=some u:=fun b u e=>S9.keep b u (fun _ h=>by cases h) e
   have hD9:H9 D=some (.lst ys'):=e9 _ _ (k7 _ _ hD6)
   have l6:=ry6.1
   refine ⟨ys',hD9,by rw [sizeLine_eq]; lia,its2.length - (j+1),by lia,rfl,hj2,acc'++[te],ys'++[v],s8,p9.1.but (.inr rfl) (fun _ h=>by cases h) h0 (fun b u n e=>by rw [za5 n]; exact e) (fun b e=>zdR e),fun b u n e=>by rw [za5 n]; exact e9 b u (k7 b u (k6 b u n e)),fun b e=>d6 b (d7 b (S9.dom b (zdR e))),za8,?_,by rw [List.length_append,List.length_singleton,la]; lia,fun k j' e=>(hk8 k j' e).trans (hk6 k j' e),hin⟩
   have r1:Reps (Free F (fun b=>O b∨b=D)) H9 (ys'++[v]) (acc'++[te]):=(ry6.mono (fun _ z=>z) fun b o _ e=>e9 b o (k7 b o e)).snoc p9.2
   exact r1.mono (fun _ z=>z) fun b u z e=>by rw [za5 (fun w=>z.1 (.inr w))]; exact e
  ·have e:j=its2.length:=by lia
   subst e
   rw [List.drop_length] at hin
   injection hin with hin
   subst hin
   have k36:∀ b u,b≠D->H3 b=some u->H6 b=some u:=fun b u n e=>k6 b u n (e5 b u e)
   refine .inl ⟨it2.2 (Nat.le_refl _),fun k v hv=>?_,its.length - (i+1),by lia,rfl,hlt,acc',ys',R3.but (.inr rfl) nD h0 k36 (fun b e=>S5.dom b (d6 b e)),hD6,ry6,?_,fun b o z e=>?_,hl⟩
   ·obtain ⟨j',e1,_⟩:=zaD hv
    rw [hk6 k j' e1]
    exact hv
   ·exact ⟨fun b o n e=>k36 b o (za3 e (S1.dom D hD)) (k3 b o (S2.keep b o n e)),fun b e=>S2.dom b (dm3 b (S5.dom b (d6 b e)))⟩
   ·exact k36 b o (za3 e hD) (k3 b o (k2 b o z e))
 ·have e:i=its.length:=by lia
  subst e
  rw [List.drop_length] at hl
  injection hl with hl
  subst hl
  exact .inl ⟨it.2 (Nat.le_refl _),q _ H2 S2 ⟨D,rfl,S1.dom D hD,R2,.lst hD2 ry⟩⟩
section
variable {X:Cx}{M:List Nat}{e:Expr}
theorem e_lc2{caps:List (Option Nat)}{fi fi2:DI}{g1 g2:TG}{dg1 dg2:DG}{fe:DE}(c:capB caps M []=true)(hg1:TgOk g1 dg1 [] caps)(hg2:TgOk g2 dg2 [] caps)(h:PE X e (tLC2 caps (cI M fi) g1 (cI [] fi2) g2 (cE .e [] fe))):PE X e (cE .n M (dLC2 caps fi dg1 fi2 dg2 fe)):=weak h (zmZ (.of c) hg1 hg2)
end
end L3
namespace L3
open PySem PySem.Spec PyProof.Rows L2
variable [TheK]
def gLZ:List T->Option T
 | [.lst _,.lst _]=>some .any
 | _=>none
def dLZ(f:DA):DE:=fun s=>(f s).bind fun p=>(gLZ p.1).map fun t=>(t,p.2)
section
variable {X:Cx}{M:List Nat}{a b:Expr}{fa:DA}{pos p p' pos':Pos}
def rgZ(i j c:Int):Bool:=decide (i=0)&&(decide (j=12)&&decide (c=2))
def dRgZ(f:DA):DI:=fun s=>(f s).bind fun p=>match p.1 with
 | [.int i,.int j,.int c]=>if rgZ i j c=true then some (stepT 0 2 6,p.2) else none
 | _=>none
end
end L3
namespace L3
open PySem PySem.Spec PyProof.Rows L2
variable [TheK]
def enumK(kvs:List (Key × T)):List T:=enumT (kvs.map fun kv=>kT kv.1)
def dEnK(f:DA):DI:=fun s=>(f s).bind fun p=>match p.1 with
 | [.fd kvs]=>some (enumK kvs,p.2)
 | _=>none
def zipT(xs ys:List T):List T:=(xs.zip ys).map fun p=>.tup [p.1,p.2]
def dZipK(f:DA):DI:=fun s=>(f s).bind fun p=>match p.1 with
 | [.lst xs,.fd kvs]=>some (zipT xs (kvs.map fun kv=>kT kv.1),p.2)
 | _=>none
theorem zjc{F:Fr}{O:Addr->Prop}{H1 H2:Hp}{p:Addr}{x y:V}{t u:T}(k:∀ b o,Free F O b->H1 b=some o->H2 b=some o)(hp:H2 p=none)(rx:Rep (Free F O) H1 x t)(ry:Rep (Free F O) H1 y u) :
  Rep (fun b=>(Free F O b/\H1 b≠none)∨H2 b=none) (upd H2 p (.tup [x,y])) (.ref p) (.tup [t,u]):=by
 have up:∀ {v:V} {w:T},Rep (Free F O) H1 v w->Rep (fun b=>(Free F O b/\H1 b≠none)∨H2 b=none) (upd H2 p (.tup [x,y])) v w:=fun r=>
  r.there.mono (fun b c=>.inl c) fun b o c e=>by rw [za5 (za3 (k b o c.1 e) hp)]; exact k b o c.1 e
 have rr:Reps (fun b=>(Free F O b/\H1 b≠none)∨H2 b=none) (upd H2 p (.tup [x,y])) [x,y] [t,u]:=.cons (up rx) (.cons (up ry) .nil)
 exact .tup (.inr hp) za8 rr.1 rr.2
end L3
namespace L3
open PySem PySem.Spec PyProof.Rows L2
variable [TheK]
def zlx(fn:List T->Option T)(i:Nat)(fa:DA):DE:=fun s=>(s[i]?).join.bind fun _=>(fa s).bind fun p=>(p.2[i]?).join.bind fun t0=>(fn (t0::p.1)).bind fun t=>if flatL t=true then some (t,p.2) else none
def FlatM(M:List Nat)(s:Sg):Prop:=∀ i:Nat,i∈M->∀ t,s[i]?=some (some t)->flatL t=true
structure DRel (F:Fr) (O W:Addr->Prop) (M:List Nat) (x:Nat) (s:Sg) (σ:L2.St) (H:Hp) (v:V) (t:T):Prop where
 R:Rel F O M (s.set x none) σ H
 sx:s[x]?=some (some t)
 vx:σ[x]?=some (some v)
 xM:x∉M
 rep:Rep W H v t
 wO:∀ b,W b->O b
 wM:∀ (i:Nat) b,i∈M->σ[i]?=some (some (.ref b))->¬ W b
 wD:∀ b,W b->¬ F.D b
section
variable {F:Fr}{O W:Addr->Prop}{M:List Nat}{x:Nat}{s:Sg}{σ:L2.St}{H H':Hp}{v:V}{t:T}
theorem DRel.rel(d:DRel F O W M x s σ H v t):Rel F (fun b=>O b/\¬ W b) M s σ H:=by
 have hx:x < s.length:=(List.getElem?_eq_some_iff.mp d.sx).1
 have R1:Rel F (fun b=>O b/\¬ W b) M (s.set x none) σ H:=d.R.less (fun b z=>z.1) (fun i a hi e=>⟨d.R.ow i a hi e,d.wM i a hi e⟩) fun a ha=>⟨d.R.inD a ha,fun z=>d.wD a z ha⟩
 have R2:=R1.setE (M':=M) (i:=x) (v:=v) (t:=t) (fun j hj=>⟨hj,fun z=>d.xM (z▸hj)⟩) (fun j hj=>.inl hj) (by rw [List.length_set]; exact hx) (d.rep.mono (fun b w=>⟨fun z=>z.2 w,.inr ((d.R.fresh b (d.wO b w)).resolve_left (d.wD b w))⟩) fun _ _ _ e=>e)
 have e1:(s.set x none).set x (some t)=s:=by
  rw [List.set_set]
  refine List.ext_getElem? fun j=>?_
  rw [List.getElem?_set]
  by_cases h:x=j
  ·subst h
   rw [if_pos rfl,if_pos hx,d.sx]
  ·rw [if_neg h]
 have e2:σ.set x (some v)=σ:=by
  refine List.ext_getElem? fun j=>?_
  rw [List.getElem?_set]
  by_cases h:x=j
  ·subst h
   rw [if_pos rfl,if_pos (List.getElem?_eq_some_iff.mp d.vx).1,d.vx]
  ·rw [if_neg h]
 rw [e1,e2] at R2
 exact R2
theorem DRel.back(d:DRel F O W M x s σ H v t)(S:Step σ M H H')(R1:Rel F (fun b=>O b/\¬ W b) M s σ H')(hf:FlatM M s):DRel F O W M x s σ H' v t:=by
 have wk:∀ b o,W b->H b=some o->H' b=some o:=fun b o w e=>S.keep b o (fun i hi z=>d.wM i b hi z w) e
 refine ⟨⟨d.R.len,fun j t' e n=>?_,fun j t' e n=>?_,d.R.ow,d.R.dis,R1.keep,R1.dom,d.R.fresh,d.R.inD,fun a z e=>d.R.al a z (S.dom a e)⟩,d.sx,d.vx,d.xM,d.rep.mono (fun _ w=>w) wk,d.wO,d.wM,d.wD⟩
 ·obtain ⟨u,h1,h2⟩:=d.R.val j t' e n
  exact ⟨u,h1,d.R.stay S h2⟩
 ·have hj:x≠j:=fun z=>d.xM (z▸n)
  rw [List.getElem?_set_ne hj] at e
  obtain ⟨a,h1,h2⟩:=R1.own j t' e n
  exact ⟨a,h1,zio h2 (hf j n t' e)⟩
end
def DEnd(F:Fr)(rk:Kd)(io M:List Nat)(x:Nat)(O:Addr->Prop)(H:Hp)(D:Ends):Fl->Prop
 | .nx s'=>∀ O' W' σ' H' v' t',KeepO O H O' H'->DRel F O' W' M x s' σ' H' v' t'->Ios F io M σ'->D.nx σ' H'
 | .rt t s'=>∀ v H',RetOk F rk io s' t v H'->D.rt v H'
 | _=>False
def cD(rk:Kd)(io M:List Nat)(x:Nat)(d:DS):TS:=fun D σ H=>∃ F O W s v t r,DRel F O W M x s σ H v t/\Ios F io M σ/\d s=some r/\DEnd F rk io M x O H D r
theorem DEnd.more{F:Fr}{rk:Kd}{io M:List Nat}{x:Nat}{O O':Addr->Prop}{H H':Hp}{D:Ends}{r:Fl}(h:DEnd F rk io M x O H D r)(k:KeepO O H O' H'):DEnd F rk io M x O' H' D r:=by
 cases r with
 | nx s'=>exact fun O2 W2 σ2 H2 v2 t2 k2=>h O2 W2 σ2 H2 v2 t2 (k.trans k2)
 | rt t s'=>exact h
 | bk s'=>exact h
 | ct s'=>exact h
noncomputable def dIfD(M:List Nat)(ft:DT)(d d':DS):DS:=fun s=>(ft s).bind fun p=>@ite _ (p.2=s/\FlatM M s) (Classical.propDecidable _) (if p.1 then d s else d' s) none
def dRtD(d:DS):DS:=fun s=>match d s with
 | some (.rt t s')=>some (.rt t s')
 | _=>none
section
variable {X:Cx}{rk:Kd}{io M M' Mb:List Nat}{x:Nat}{st:Stmt}{sts:List Stmt}{c:Expr}{a b:List Stmt}{d d':DS}{ft:DT}{fe:DE}{pos:Pos}
theorem zkB:PSs X [] (cD rk io M x dNext):=zdQ zhE (by
 rintro D σ H ⟨F,O,W,s,v,t,r,R,I,hd,q⟩
 injection hd with hd
 subst hd
 exact q O W σ H v t .refl R I)
theorem ziV(h:PS X st (cD rk io M x d))(h2:PSs X sts (cD rk io M x d')):PSs X (st::sts) (cD rk io M x (dSeq d d')):=zdQ (zep h h2) (by
 rintro D σ H ⟨F,O,W,s,v,t,r,R,I,hd,q⟩
 obtain ⟨r1,h1,h2⟩:=Qb hd
 refine ⟨F,O,W,s,v,t,r1,R,I,h1,?_⟩
 cases r1 with
 | nx s1=>exact fun O1 W1 σ1 H1 v1 t1 k1 R1 I1=>⟨F,O1,W1,s1,v1,t1,r,R1,I1,h2,q.more k1⟩
 | bk s1=>injection h2 with h2; subst h2; exact q
 | ct s1=>injection h2 with h2; subst h2; exact q
 | rt t s1=>injection h2 with h2; subst h2; exact q)
theorem s_dif(hc:PT X c (cT M ft))(ha:PSs X a (cD rk io M x d))(hb:PSs X b (cD rk io M x d')):PS X (.If c a b pos) (cD rk io M x (dIfD M ft d d')):=weakS (ps_if hc ha hb) (by
 rintro D σ H ⟨F,O,W,s,v,t,r,R,I,hd,q⟩
 obtain ⟨p,h1,h2⟩:=Qb hd
 split at h2
 case isFalse=>cases h2
 rename_i hp
 obtain ⟨hp1,hp2⟩:=hp
 refine ⟨F,_,s,p.1,p.2,R.rel,h1,fun H1 S1 R1=>?_⟩
 rw [hp1] at R1
 have R2:=R.back S1 R1 hp2
 have k:=S1.keepO R.R
 try dsimp only
 split at h2
 ·rename_i hp
  rw [if_pos hp]
  exact ⟨F,O,W,s,v,t,r,R2,I,h2,q.more k⟩
 ·rename_i hp
  rw [if_neg hp]
  exact ⟨F,O,W,s,v,t,r,R2,I,h2,q.more k⟩)
theorem zmc(h:PSs X sts (cS rk io M M' Mb d)):PSs X sts (cD rk io M x (dRtD d)):=zdQ h (by
 rintro D σ H ⟨F,O,W,s,v,t,r,R,I,hd,q⟩
 unfold dRtD at hd
 split at hd
 ·rename_i t' s' he
  injection hd with hd
  subst hd
  exact ⟨F,_,s,_,R.rel,I,he,q⟩
 ·cases hd)
end
end L3
namespace L3
open PySem PySem.Spec PyProof.Rows L2
variable [TheK]
def ziq(k:Nat)(ts:List T):Bool:=(List.range ts.length).all fun j=>j == k||flatT (ts.getD j .non)
def dMutD(x k:Nat)(g:List T->List T):DS:=fun s=>match (s[x]?).join with
 | some (.tup ts)=>match ts[k]? with
  | some (.lst us)=>if ziq k ts=true/\us.all flatT=true/\us.length < 100000 then some (.nx (s.set x (some (.tup (ts.set k (.lst (g us))))))) else none
  | _=>none
 | _=>none
def unD(x:Nat):Fl->Option Fl
 | .nx s=>some (.nx (s.set x none))
 | .rt t s=>some (.rt t s)
 | _=>none
def dDeep(fn:List T->Option (T × T))(i x:Nat)(d:DS):DS:=fun s=>(s[i]?).join.bind fun t0=>if flatL t0=true/\x < s.length then (fn [t0]).bind fun q=>if flatL q.2=true then (d ((s.set i (some q.2)).set x (some q.1))).bind (unD x) else none else none
end L3
namespace L3
open PySem PySem.Spec PyProof.Rows L2
variable [TheK]
def spD(np:Nat)(fn:List T->Option T):Sp:=fun vs H Q _=>∃ C ts t,ts.length=np/\Reps C H vs ts/\fn ts=some t/\∀ v H',(∀ b o,H b=some o->H' b=some o)->(∀ b,H' b=none->H b=none)->Rep (fun b=>H b=none) H' v t->Q v H'
def zea(fn:List T->Option T)(fa:DA)(x:Nat)(d:DS):DS:=fun s=>(fa s).bind fun p=>(fn p.1).bind fun t=>if x < p.2.length then (d (p.2.set x (some t))).bind (unD x) else none
section
variable {X:Cx}{rk:Kd}{io M Mb:List Nat}{x np:Nat}{st:Stmt}{sts:List Stmt}{d:DS}{fn:List T->Option T}{fa:DA}
theorem ziU(hxM:M.contains x=false)(hio:io.all (M.contains ·)=true)(ar:Ar fa np)(h:PS X st (tAsg (tCall (spD np fn) [] E0 (cA M fa)) (gName x)))(h2:PSs X sts (cD rk io M x d)) :
  PSs X (st::sts) (cS rk io M M Mb (zea fn fa x d)):=zdQ (zep h h2) (by
 rintro D σ H ⟨F,O,s,r,R,I,hd,qe⟩
 have hx':x∉M:=by simpa using hxM
 obtain ⟨p,h1,hd⟩:=Qb hd
 obtain ⟨t,h3,hd⟩:=Qb hd
 split at hd
 case isFalse=>cases hd
 rename_i hxl
 obtain ⟨r0,hd0,hr0⟩:=Qb hd
 refine ⟨F,O,s,p.1,p.2,R,h1,fun vs H1 S1 R1 rs=>?_⟩
 show spD np fn (vs++[]) H1 _ E0
 rw [List.append_nil]
 refine ⟨Free F O,p.1,t,ar _ _ _ h1,rs,h3,fun v H2 k dm rep=>?_⟩
 show cD rk io M x d D (σ.set x (some v)) H2
 have W0:=rep.there
 generalize hWd:(fun b=>H1 b=none/\H2 b≠none)=W at W0
 have wH:∀ b,W b->H1 b=none:=fun b z=>by
  rw [<-hWd] at z
  exact z.1
 have wL:∀ b,W b->H2 b≠none:=fun b z=>by
  rw [<-hWd] at z
  exact z.2
 have nO:∀ b,W b->¬ O b:=fun b z y=>R1.al b y (wH b z)
 have fr:∀ b,Free F O b/\H1 b≠none->Free F (fun b=>O b∨W b) b:=fun b c=>⟨fun z=>z.elim c.1.1 fun z=>c.2 (wH b z),c.1.2⟩
 have R2:Rel F (fun b=>O b∨W b) M (p.2.set x none) (σ.set x (some v)) H2:=by
  refine ⟨by rw [List.length_set,List.length_set]; exact R1.len,fun j t e' n=>?_,fun j t e' n=>?_,fun j b hj e=>?_,fun j k' b hj hk e2 e3=>?_,fun b o n e=>k b o (R1.keep b o n e),fun b e=>R1.dom b (dm b e),fun b z=>?_,fun b z=>.inl (R1.inD b z),fun b z=>?_⟩
  ·have hij:x≠j:=fun z=>by
    subst z
    rw [List.getElem?_set_self hxl] at e'
    cases e'
   rw [List.getElem?_set_ne hij] at e'
   rw [List.getElem?_set_ne hij]
   obtain ⟨u,g1,g2⟩:=R1.val j t e' n
   exact ⟨u,g1,g2.there.mono fr fun b o _ e=>k b o e⟩
  ·have hij:x≠j:=fun z=>hx' (z▸n)
   rw [List.getElem?_set_ne hij] at e'
   rw [List.getElem?_set_ne hij]
   obtain ⟨b,g1,g2⟩:=R1.own j t e' n
   exact ⟨b,g1,g2.there.mono fr (fun b o _ e=>k b o e) fun o e=>k b o e⟩
  ·rw [List.getElem?_set_ne (fun z:x=j=>hx' (by rw [z]; exact hj))] at e
   exact .inl (R1.ow j b hj e)
  ·rw [List.getElem?_set_ne (fun z:x=j=>hx' (by rw [z]; exact hj))] at e2
   rw [List.getElem?_set_ne (fun z:x=k'=>hx' (by rw [z]; exact hk))] at e3
   exact R1.dis j k' b hj hk e2 e3
  ·rcases z with z | z
   ·exact R1.fresh b z
   ·exact .inr (R1.dom b (wH b z))
  ·rcases z with z | z
   ·exact fun e=>R1.al b z (dm b e)
   ·exact wL b z
 have KO:KeepO O H (fun b=>O b∨W b) H2:=(S1.keepO R).trans ⟨fun b o n e=>⟨k b o e,fun z=>z.elim n fun z=>by rw [wH b z] at e; cases e⟩,dm⟩
 have I2:Ios F io M (σ.set x (some v)):=I.set (fun z=>hx' (zcl hio x z)) (zcl hio)
 refine ⟨F,fun b=>O b∨W b,W,p.2.set x (some t),v,t,r0,⟨by rw [List.set_set]; exact R2,List.getElem?_set_self hxl,List.getElem?_set_self (by rw [<-R1.len]; exact hxl),hx',W0,fun b z=>.inr z,fun j b hj e z=>?_,fun b z y=>nO b z (R1.inD b y)⟩,I2,hd0,?_⟩
 ·rw [List.getElem?_set_ne (fun z:x=j=>hx' (by rw [z]; exact hj))] at e
  exact nO b z (R1.ow j b hj e)
 ·cases r0 with
  | nx s'=>
   injection hr0 with hr0
   subst hr0
   exact fun O' W' σ' H' v' t' k DR I'=>qe O' σ' H' (KO.trans k) DR.R I'
  | rt t s'=>
   injection hr0 with hr0
   subst hr0
   exact qe
  | bk s'=>cases hr0
  | ct s'=>cases hr0)
theorem zlp{e:Expr}{es:List Expr}{p pos:Pos}{k:Nat}{f:Addr}{fd:FuncData}{ps:List Str}{y:Str}(F:FnOk X.prog X.w X.K X.mg X.base CX0 k f fd ps (spD np fn))(hr:Room k X.A)(hg:Gl X y)(hm:X.mg y=some (.ref f))(hk:PySem.W.keepIn X.K (.ref f)=true)(hb:Binds X.K fd ps [])
  (ha:PA X (e::es) (cA M fa)) (hdb:(y == ("__debug__":Str))=false:=by decide) (he:starEach (e::es) X.env=(false,eval e X.env)::starEach es X.env:=by rfl) (hpl:(backTo pos (starEach es X.env)).any (·.1)=false:=by rfl) :
  PE X (.Call (.Name y p) (e::es) [] pos) (tCall (spD np fn) [] E0 (cA M fa)):=zcQ F hr hg hm hk hb .nil pass0 ha hdb he hpl
end
end L3
namespace L3
open PySem PySem.Spec PyProof.Rows L2
variable [TheK]
def cED(M:List Nat)(f:DE):TE:=fun σ H Q=>∃ F O s t s',Rel F O M s σ H/\f s=some (t,s')/\∀ v H',Step σ M H H'->Rel F O M s' σ H'->Rep (fun b=>H b=none) H' v t->Q v H'
def dFl(fe:DE):DE:=fun s=>(fe s).bind fun p=>if flatT p.1=true then some p else none
def gLZs:List T->Option T
 | [.lst xs,.lst ys]=>if xs.all flatT=true/\ys.all flatT=true then some (.lst (List.zipWith (fun x y=>.tup [x,y]) xs ys)) else none
 | _=>none
def dLZs(f:DA):DE:=fun s=>(f s).bind fun p=>(gLZs p.1).map fun t=>(t,p.2)
def dT3(fa fb fc:DE):DE:=fun s=>(fa s).bind fun p=>(fb p.2).bind fun q=>(fc q.2).bind fun r=>if flatT p.1=true/\flatT q.1=true then some (.tup [p.1,q.1,r.1],r.2) else none
noncomputable def dApkD(M:List Nat)(x k:Nat)(fe:DE):DS:=fun s=>(fe s).bind fun p=>@ite _ (p.2=s/\FlatM M s/\∃ ts us,s[x]?=some (some (.tup ts))/\ts[k]?=some (.lst us)/\us.length<=10000) (Classical.propDecidable _) (some (.nx (s.set x (some T.any)))) none
theorem d_imp{np:Nat}{fn:List T->Option T}:∀ vs H Q E,spP .e np fn vs H Q E->spD np fn vs H Q E:=fun vs H Q E ⟨C,ts,t,hl,r,hf,q⟩=>⟨C,ts,t,hl,r,hf,fun v H' k d rp=>q v H' ⟨k,d,rp.mono (fun b z=>.inr z) fun _ _ _ e=>e⟩⟩
section
variable {X:Cx}{rk:Kd}{io M M' Mb:List Nat}{x k:Nat}{st:Stmt}{e a b:Expr}{es:List Expr}{fe f1 f2 f3:DE}{fa:DA}{pos p p' pos':Pos}
theorem zlo(h:PE X e (cE .e M fe)):PE X e (cED M (dFl fe)):=weak h (by
 intro σ H Q hz; obtain ⟨F,O,s,t,s',R,hf,q⟩:=hz
 obtain ⟨p,h1,h2⟩:=Qb hf
 split at h2
 case isFalse=>cases h2
 rename_i hp
 obtain rfl:=Option.some.inj h2
 exact ⟨F,O,s,t,s',R,h1,fun v H' S po=>q v H' S po.1 (zbk po.2 hp)⟩)
theorem zno(hK:X.K=TheK.K)(hc:X.calm=true)(hg:Gl X "list")(hm:X.mg "list"=none)(hg':Gl X "zip")(hm':X.mg "zip"=none)(ha:PA X [a,b] (cA M fa))(hs:starEach [a,b] X.env=(false,eval a X.env)::starEach [b] X.env:=by rfl)(hs2:(backTo pos' (starEach [b] X.env)).any (·.1)=false:=by rfl)
  (hs':starEach [.Call (.Name "zip" p') [a,b] [] pos'] X.env=[(false,eval (.Call (.Name "zip" p') [a,b] [] pos') X.env)]:=by rfl) :
  PE X (.Call (.Name "list" p) [.Call (.Name "zip" p') [a,b] [] pos'] [] pos) (cED M (dLZs fa)):=weak (zfF hc hg hm hg' hm' ha hs hs2 hs') (by
 intro σ H Q hz; obtain ⟨F,O,s,t,s',R,hf,q⟩:=hz
 obtain ⟨⟨p1,p2⟩,h1,h2⟩:=Qb hf
 obtain ⟨t',h3,h4⟩:=Qm h2
 injection h4 with h4 h5
 subst h4 h5
 refine ⟨F,O,s,p1,p2,R,h1,fun vs H1 S1 R1 rs=>?_⟩
 dsimp only at h3
 unfold gLZs at h3
 split at h3
 case h_2=>cases h3
 rename_i xs ys
 split at h3
 case isFalse=>cases h3
 rename_i hfl
 injection h3 with h3
 subst h3
 obtain ⟨u,h6,h7⟩:=rs.get (i:=0) rfl
 obtain ⟨v,h8,h9⟩:=rs.get (i:=1) rfl
 have hl:=rs.1
 obtain ⟨a1,v1,rfl,k1,r1⟩:=BRep.lst (.inl h7)
 obtain ⟨a2,v2,rfl,k2,r2⟩:=BRep.lst (.inl h9)
 refine ⟨a1,a2,v1,v2,?_,hK▸SqL.of k1,hK▸SqL.of k2,fun l ps H2 hk hl0 hll hpl hat=>?_⟩
 ·match vs,hl with
  | [x,y],_=>
   simp at h6 h8
   rw [h6,h8]
 ·have dm:∀ b,H2 b=none->H1 b=none:=fun b e=>by
   cases hb:H1 b with
   | none=>rfl
   | some o=>rw [hk b o hb] at e; cases e
  have l1:=r1.1
  have l2:=r2.1
  refine q _ _ (S1.trans ⟨fun b o _ e=>hk b o e,dm⟩) (R1.ext hk dm) (.lst (S1.dom l hl0) hll (by rw [List.length_map,List.length_zipWith,hpl,l1,l2]) fun j w tw e1 e2=>?_)
  rw [List.getElem?_map] at e1
  obtain ⟨pj,hpj,rfl⟩:=Qm e1
  have hj:j < (List.zipWith (fun x y=>T.tup [x,y]) xs ys).length:=(List.getElem?_eq_some_iff.mp e2).1
  rw [List.length_zipWith] at hj
  have hjx:j < xs.length:=by lia
  have hjy:j < ys.length:=by lia
  rw [List.getElem?_zipWith,List.getElem?_eq_getElem hjx,List.getElem?_eq_getElem hjy] at e2
  obtain rfl:=Option.some.inj e2
  have hvx:j < v1.length:=by lia
  have hvy:j < v2.length:=by lia
  obtain ⟨g1,g2⟩:=hat j pj v1[j] v2[j] hpj (List.getElem?_eq_getElem hvx) (List.getElem?_eq_getElem hvy)
  have rx:=r1.2 j v1[j] xs[j] (List.getElem?_eq_getElem hvx) (List.getElem?_eq_getElem hjx)
  have ry:=r2.2 j v2[j] ys[j] (List.getElem?_eq_getElem hvy) (List.getElem?_eq_getElem hjy)
  have fx:=List.all_eq_true.mp hfl.1 _ (List.getElem_mem hjx)
  have fy:=List.all_eq_true.mp hfl.2 _ (List.getElem_mem hjy)
  have rr:Reps (fun b=>H b=none) H2 [v1[j],v2[j]] [xs[j],ys[j]]:=.cons (zbk rx fx) (.cons (zbk ry fy) .nil)
  exact .tup (S1.dom pj g1) g2 rr.1 rr.2)
theorem zln{x1}(h:PA X es (tCons (cE .e M f1) (tCons (cE .e M f2) (tCons (cED M f3) tNil)))):PE X (.Tuple es x1 pos) (cED M (dT3 f1 f2 f3)):=weak (zjZ h) (by
 intro σ H Q hz; obtain ⟨F,O,s,t,s',R,hf,q⟩:=hz
 obtain ⟨p,h1,hf⟩:=Qb hf
 obtain ⟨p2,h2,hf⟩:=Qb hf
 obtain ⟨p3,h3,hf⟩:=Qb hf
 split at hf
 case isFalse=>cases hf
 rename_i hfl
 injection hf with hf
 injection hf with hf1 hf2
 subst hf1 hf2
 refine ⟨F,O,s,p.1,p.2,R,h1,fun v1 H1 S1 po1=>⟨F,O,p.2,p2.1,p2.2,po1.1,h2,fun v2 H2 S2 po2=>⟨F,O,p2.2,p3.1,p3.2,po2.1,h3,fun v3 H3 S3 R3 rp3=>⟨by show 3<=sizeLine; decide,fun a ha=>?_⟩⟩⟩⟩
 have dm:∀ b,H2 b=none->H b=none:=fun b e=>S1.dom b (S2.dom b e)
 have rr:Reps (fun b=>H b=none) (upd H3 a (.tup [v1,v2,v3])) [v1,v2,v3] [p.1,p2.1,p3.1]:=.cons (zbk po1.2 hfl.1) (.cons (zbk po2.2 hfl.2) (.cons (rp3.mono (fun b z=>dm b z) fun b o _ e=>by rw [za5 (za3 e ha)]; exact e) .nil))
 exact q _ _ (S1.trans (S2.trans (S3.trans (.new ha _)))) (R3.plus ha _) (.tup (dm a (S3.dom a ha)) za8 rr.1 rr.2))
theorem zmj(he:PE X e (cED M fe)):PS X (.Return (some e) pos) (cS .b [] M M' Mb (dRetI [] fe)):=weakS (zhG he) (by
 intro D σ H h_;refine cS_ h_ fun F O s r R I hd q=>?_
 obtain ⟨p,h1,h2⟩:=Qb hd
 split at h2
 case isFalse=>cases h2
 injection h2 with h2
 subst h2
 exact ⟨F,O,s,p.1,p.2,R,h1,fun v H1 S1 R1 rp=>q v H1 ⟨R1.keep,R1.dom,rp.mono (fun b z=>R.dom b z) fun _ _ _ e=>e⟩⟩)
theorem zml{kk:Int}(hkk:kk=(k:Int))(h:PS X st (tDrop (tBM X.K "list" zcL (tOp (rIxT X.K) (tVar x) (tC (.int kk))) (tCons (cE .e M fe) tNil)))):PS X st (cD rk io M x (dApkD M x k fe)):=weakS h (by
 subst hkk
 rintro D σ H ⟨F,O,W,s,v,t,r,R,I,hd,q⟩
 obtain ⟨p,h1,h2⟩:=Qb hd
 split at h2
 case isFalse=>cases h2
 rename_i hp
 obtain ⟨p1,p2,ts,us,p3,p4,p5⟩:=hp
 injection h2 with h2
 subst h2
 rw [R.sx] at p3
 obtain rfl:=Option.some.inj (Option.some.inj p3)
 have rp:=R.rep
 have hxl:x < s.length:=(List.getElem?_eq_some_iff.mp R.sx).1
 cases rp with
 | @tup tp vs _ wp hp l hh=>
  have hkt:k < ts.length:=(List.getElem?_eq_some_iff.mp p4).1
  have hkv:k < vs.length:=by rw [l]; exact hkt
  have rk0:=hh k vs[k] (.lst us) (List.getElem?_eq_getElem hkv) p4
  generalize hvk:vs[k]=vk at rk0
  have evk:vs[k]?=some vk:=by rw [List.getElem?_eq_getElem hkv,hvk]
  cases rk0 with
  | @lst rr ws _ wr hrr l2 hh2=>
   refine ⟨_,R.vx,tp,vs,(k:Int),.ref rr,rfl,rfl,.inl (.inl hp),ziI evk,.inl ⟨rfl,ws,.inl (.inl hrr)⟩,F,_,s,p.1,p.2,R.rel,h1,fun u H1 S1 po=>?_⟩
   have po1:=po.1
   rw [p1] at po1
   have R2:=R.back S1 po1 p2
   have hr1:H1 rr=some (.lst ws):=S1.keep rr _ (fun i hi z=>R.wM i rr hi z wr) hrr
   have orr:=R.wO rr wr
   have h0:F.H0 rr=none:=(R.R.fresh rr orr).resolve_left (R.wD rr wr)
   have kb:∀ b w,b≠rr->H1 b=some w->upd H1 rr (.lst (ws++[u])) b=some w:=fun b w nn e=>by rw [za5 nn]; exact e
   refine ⟨rr,ws,u,rfl,rfl,hr1,Nat.lt_of_lt_of_le (show ws.length < 100000 by lia) (by decide),?_⟩
   have R5:=R2.R.but orr (fun j hj e=>R.wM j rr hj e wr) h0 kb fun b e=>zdR e
   refine q O W σ _ (.ref tp) T.any ((S1.keepO R.R).trans ⟨fun b o n e=>⟨kb b o (fun z=>n (z▸orr)) e,n⟩,fun b e=>zdR e⟩) ⟨by rw [List.set_set]; exact R5,?_,R.vx,R.xM,.any,R.wO,R.wM,R.wD⟩ I
   rw [List.getElem?_set_self hxl])
end
section
variable {rk:Kd}{M' Mb:List Nat}{d:DS}{N:List Str}{np:Nat}
theorem run_D(hN:np<=N.length){vs:List V}{H:Hp}{Q:VK}{E:XK}(h:spD np (fnPn N.length d) vs H Q E) :
  cS .b [] [] M' Mb d { nx:=fun _ H'=>Q .non H',rt:=Q } (L2.start N vs) H:=by
 obtain ⟨C,ts,t,hl,r,hf,q⟩:=h
 obtain ⟨l1,l2⟩:=zdp (N:=N) r (by lia)
 have w:∀ b,C b->Free ⟨H,C,fun _=>False,fun _=>0⟩ (fun _=>False) b:=fun b c=>⟨fun z=>z,.inl c⟩
 have R:Rel ⟨H,C,fun _=>False,fun _=>0⟩ (fun _=>False) [] (zax N.length ts) (L2.start N vs) H:=by
  refine ⟨l1,fun i t e _=>?_,fun i t e n=>by simp at n,fun i a n=>by simp at n,fun i j a n=>by simp at n,fun b o _ e=>e,fun b e=>e,fun a z=>z.elim,fun a z=>z,fun a z=>z.elim⟩
  obtain ⟨v,h1,_,_,rv⟩:=l2 i t e
  exact ⟨v,h1,rv.mono w fun _ _ _ e=>e⟩
 have I:Ios ⟨H,C,fun _=>False,fun _=>0⟩ [] [] (L2.start N vs):=⟨fun i hi=>by simp at hi,fun a z=>z.elim⟩
 unfold fnPn at hf
 split at hf
 case h_2=>cases hf
 rename_i hd
 obtain rfl:=Option.some.inj hf
 exact ⟨_,_,_,_,R,I,hd,fun v H' ro=>q v H' (fun b o e=>ro.keep b o (fun z=>z) e) ro.dom ro.res⟩
end
end L3
namespace L3
open PySem PySem.Spec PyProof.Rows L2
variable [TheK]
def dZip(f:DA):DI:=fun s=>(f s).bind fun p=>match p.1 with
 | [.lst xs,.lst ys]=>some (zipT xs ys,p.2)
 | _=>none
section
variable {X:Cx}{M:List Nat}{fa:DA}
theorem i_zip{elts:List Expr}{x1:Nat}{tp:Pos}{a b:Expr}{p pos:Pos}(hK:X.K=TheK.K)(hg:Gl X "zip")(hm:X.mg "zip"=none)(ha:PA X [a,b] (cA M fa))(hs:starEach [a,b] X.env=(false,eval a X.env)::starEach [b] X.env:=by rfl)(hs2:(backTo pos (starEach [b] X.env)).any (·.1)=false:=by rfl):PI X (.Tuple elts x1 tp) (.Call (.Name "zip" p) [a,b] [] pos) (cI M (dZip fa)):=weakI (zkY hg hm ha hs hs2) (by
 intro σ H R h_;refine cI_ h_ fun F O s its s' Rl hf q=>?_
 obtain ⟨⟨p1,p2⟩,h1,h2⟩:=Qb hf
 refine ⟨F,O,s,p1,p2,Rl,h1,fun vs H1 S1 R1 rs=>?_⟩
 dsimp only at h2
 split at h2
 case h_2=>cases h2
 ·rename_i xs ys
  injection h2 with h2
  injection h2 with h3 h4
  subst h3 h4
  obtain ⟨u,h6,h7⟩:=rs.get (i:=0) rfl
  obtain ⟨v,h8,h9⟩:=rs.get (i:=1) rfl
  have hvl:=rs.1
  cases h7 with
  | @lst a1 us _ c r l h=>
   cases h9 with
   | @lst a2 ws _ c2 r2 l2 hw=>
    refine ⟨a1,a2,us,ws,?_,hK▸SqL.of r,hK▸SqL.of r2,q _ H1 S1 R1 ?_⟩
    ·match vs,hvl with
     | [x,y],_=>
      simp at h6 h8
      rw [h6,h8]
    intro H2 k i
    have k1:=k a1 _ c r
    have k2:=k a2 _ c2 r2
    have hlen:(zipT xs ys).length=min us.length ws.length:=by unfold zipT; rw [List.length_map,List.length_zip,<-l,<-l2]
    refine ⟨fun t ht=>?_,fun hl=>⟨us,ws,SqL.of k1,SqL.of k2,by rw [hlen] at hl; lia⟩⟩
    have hi:=(List.getElem?_eq_some_iff.mp ht).1
    rw [hlen] at hi
    have hiu:i < us.length:=by lia
    have hik:i < ws.length:=by lia
    have hix:i < xs.length:=by lia
    have hiy:i < ys.length:=by lia
    have et:t=.tup [xs[i],ys[i]]:=by
     unfold zipT at ht
     rw [List.getElem?_map] at ht
     obtain ⟨pr,hpr,rfl⟩:=Qm ht
     rw [List.getElem?_zip_eq_some,List.getElem?_eq_getElem hix,List.getElem?_eq_getElem hiy] at hpr
     obtain ⟨g1,g2⟩:=hpr
     rw [<-Option.some.inj g1,<-Option.some.inj g2]
    subst et
    refine ⟨⟨us,us[i],ws,ws[i],SqL.of k1,List.getElem?_eq_getElem hiu,SqL.of k2,List.getElem?_eq_getElem hik⟩,fun x H3 ⟨p',x',y',e1,e2,e3,e4,e5⟩=>⟨.inr ⟨p',_,e2,e3⟩,?_⟩⟩
    have f1:=e4 us (SqL.of k1)
    rw [List.getElem?_eq_getElem hiu] at f1
    obtain rfl:us[i]=x':=Option.some.inj f1
    have f2:=e5 ws (SqL.of k2)
    rw [List.getElem?_eq_getElem hik] at f2
    obtain rfl:ws[i]=y':=Option.some.inj f2
    subst e1 e3
    exact zjc k e2 (h i _ _ (List.getElem?_eq_getElem hiu) (List.getElem?_eq_getElem hix)) (hw i _ _ (List.getElem?_eq_getElem hik) (List.getElem?_eq_getElem hiy)))
end
end L3
namespace L3
open PySem PySem.Spec PyProof.Rows L2
variable [TheK]
def zd6:List T->Option (List (Str × Str))
 | []=>some []
 | .tup [.str a,.str b]::l=>(zd6 l).map ((a,b)::·)
 | _=>none
def zcR(x y:T):Option T:=match x,y with
 | .tup [.str a,.str b],.lst ts=>(zd6 ts).map fun ps=>.bl (!ps.any fun p=>p.1 == a&&p.2 == b)
 | _,_=>none
def ziK(H:Hp)(ys:List V)(ps:List (Str × Str)):Prop:=ys.length=ps.length/\∀ (j:Nat) c,ps[j]?=some c->∃ r,ys[j]?=some (.ref r)/\H r=some (.tup [.str c.1,.str c.2])
def rNPin:R2:=fun x y H Q=>∃ q a b p ys ps,x=.ref q/\H q=some (.tup [.str a,.str b])/\y=.ref p/\H p=some (.lst ys)/\ziK H ys ps/\Q (.bl (!ps.any fun p=>p.1 == a&&p.2 == b)) H
def pinE(H:Hp)(a b:Str):Value->Bool
 | .ref w=>match H w with
  | some (.tup [.str c,.str d])=>c == a&&d == b
  | _=>false
 | _=>false
theorem zgg{H:Hp}{p:Addr}{a b:Str}(h:H p=some (.tup [.str a,.str b])):Rep (fun _=>True) H (.ref p) (.tup [.str a,.str b]):=by
 have rr:Reps (fun _=>True) H [.str a,.str b] [.str a,.str b]:=.cons (.str a) (.cons (.str b) .nil)
 exact .tup trivial h rr.1 rr.2
theorem zjx(c d a b:Str):eqD 7 (.tup [.str c,.str d]) (.tup [.str a,.str b])=some (c == a&&d == b):=by
 show (allE (eqD 6) [T.str c,.str d] [.str a,.str b]).map (fun r=>r&&2 == 2)=_
 have e:∀ x y:Str,eqD 6 (.str x) (.str y)=some (x == y):=fun x y=>rfl
 simp [allE,e]
theorem zhN{X:Cx}(hu:X.A.units+8 < cLine):OpR X (compareOp .NotIn) rNPin:=by
 intro pins s σ H x y v u Q I rx ry h
 obtain ⟨q,a,b,p,ys,ps,rfl,hq,rfl,hp,hP,hQ⟩:=h
 cases rx
 cases ry
 obtain ⟨its,r,pl,hz⟩:=I.list (SqL.of hp)
 have hl:=r.length
 have item:∀ (j:Nat) w,its[j]?=some w->∃ c,ps[j]?=some c/\SeqAt.EqAt X.A.in1 s w (.ref q) (pinE H a b w)/\pinE H a b w=(c.1 == a&&c.2 == b):=fun j w hw=>by
  have hj:j < its.length:=(List.getElem?_eq_some_iff.mp hw).1
  have hjp:j < ps.length:=by rw [<-hP.1,hl]; exact hj
  obtain ⟨rr,h1,h2⟩:=hP.2 j ps[j] (List.getElem?_eq_getElem hjp)
  obtain ⟨w',h3,h4⟩:=r.get h1
  rw [hw] at h3
  obtain rfl:=Option.some.inj h3
  cases h4
  have e:pinE H a b (.ref rr)=(ps[j].1 == a&&ps[j].2 == b):=by
   show (match H rr with
    | some (.tup [.str c,.str d])=>c == a&&d == b
    | _=>false)=_
   rw [h2]
  refine ⟨_,List.getElem?_eq_getElem hjp,?_,e⟩
  rw [e]
  exact (eq_at I 7 X.A.in1 (show X.A.units+1+7 < cLine by lia) (zgg h2) (zgg hq) rfl rfl (zjx _ _ _ _)).1
 refine SeqAt.notIn_listAt (pinE H a b) pl.isList (fun w hw=>?_) ⟨.bl _,H,I,rfl,?_⟩
 ·obtain ⟨j,hj⟩:=List.getElem?_of_mem (show w∈its by simpa using hw)
  obtain ⟨c,_,h2,_⟩:=item j w hj
  exact h2
 ·have e:its.map (pinE H a b)=ps.map fun p=>p.1 == a&&p.2 == b:=by
   refine List.ext_getElem? fun j=>?_
   rw [List.getElem?_map,List.getElem?_map]
   cases hj:its[j]? with
   | none=>
    rw [List.getElem?_eq_none (l:=ps) (by have:=List.getElem?_eq_none_iff.mp hj; have:=hP.1; lia)]; rfl
   | some w=>
    obtain ⟨c,h1,_,h3⟩:=item j w hj
    rw [h1]
    show some _=some _
    rw [h3]
  have e2:its.any (pinE H a b)=ps.any fun p=>p.1 == a&&p.2 == b:=by
   have:=congrArg (fun l=>l.any id) e
   simpa [List.any_map] using this
  rw [show its.toArray.any (pinE H a b)=its.any (pinE H a b) by simp,e2]
  exact hQ
theorem zeY{C:Addr->Prop}{H:Hp}:∀ {ts:List T} {vs:List V} {ps:List (Str × Str)},Reps C H vs ts->zd6 ts=some ps->ziK H vs ps
 | [],vs,ps,r,h=>by
  obtain rfl:=Option.some.inj h
  have:vs=[]:=List.eq_nil_of_length_eq_zero r.1
  subst this
  exact ⟨rfl,fun j c e=>by simp at e⟩
 | t::ts,vs,ps,r,h=>by
  obtain ⟨a,b,rfl⟩:∃ a b,t=.tup [.str a,.str b]:=by
   unfold zd6 at h
   split at h
   ·rename_i he; cases he
   ·rename_i a b l he; injection he with he _; exact ⟨a,b,he⟩
   ·cases h
  obtain ⟨l,hl,rfl⟩:=Qm (show (zd6 ts).map ((a,b)::·)=some ps from h)
  match vs,r with
  | [],r=>exact absurd r.1 (by simp)
  | v::vs,r=>
   have r0:=r.2 0 v _ rfl rfl
   have rt:Reps C H vs ts:=⟨by simpa using r.1,fun j u t e1 e2=>r.2 (j+1) u t (by simpa using e1) (by simpa using e2)⟩
   obtain ⟨i1,i2⟩:=zeY rt hl
   cases r0 with
   | @tup p us _ c hp lu hh=>
    match us,lu with
    | [u1,u2],_=>
     have g1:=hh 0 u1 (.str a) rfl rfl
     have g2:=hh 1 u2 (.str b) rfl rfl
     cases g1
     cases g2
     refine ⟨by rw [List.length_cons,List.length_cons,i1],fun j c e=>?_⟩
     cases j with
     | zero=>
      obtain rfl:=Option.some.inj (show some (a,b)=some c from e)
      exact ⟨p,rfl,hp⟩
     | succ j=>exact i2 j c (by simpa using e)
theorem zmk:S2E rNPin zcR:=by
 intro C H x y tx ty t Q bx by' hg q
 unfold zcR at hg
 split at hg
 case h_2=>cases hg
 rename_i a b ts
 obtain ⟨ps,hp,rfl⟩:=Qm hg
 obtain ⟨qa,vs,rfl,h1,r1⟩:=bx.tup
 obtain ⟨p,ws,rfl,h2,r2⟩:=by'.lst
 have:vs=[.str a,.str b]:=by
  match vs,r1 with
  | [u1,u2],r1=>
   have g1:=r1.2 0 u1 (.str a) rfl rfl
   have g2:=r1.2 1 u2 (.str b) rfl rfl
   cases g1
   cases g2
   rfl
  | [],r1=>exact absurd r1.1 (by simp)
  | [_],r1=>exact absurd r1.1 (by simp)
  | _::_::_::_,r1=>exact absurd r1.1 (by simp)
 subst this
 exact ⟨qa,a,b,p,ws,ps,rfl,h1,rfl,h2,zeY r2 hp,q _ (.bl _)⟩
section
variable {X:Cx}{M:List Nat}{a b:Expr}{fa fb:DE}{pos:Pos}
theorem ziQ(hu:X.A.units+8 < cLine)(ha:PE X a (cE .e M fa))(hb:PE X b (cE .b M fb))(hm:behindInMarks .NotIn b=false):PT X (.Compare a [.NotIn] [b] pos) (cT M (dB (d2 zcR fa fb))):=weakT (zcd (zhN hu) ha hb hm) (tst (two_e zmk))
end
end L3
namespace L3
open PySem PySem.Spec PyProof.Rows L2
def Here(K:PySem.W.Frag)(mg:Str->Option Value)(x:Str)(st:Stmt)(ps:List Str):Prop:=
 ∃ f fd,Fun K x x st f fd/\Binds K fd ps []/\PySem.W.keepIn K (.ref f)=true/\mg x=some (.ref f)
def Cal(P:Program)(w:World)(K:PySem.W.Frag)(mg:Str->Option Value)(base:Heap)(n:Nat)(x:Str)(ps:List Str)(sp:Sp):Prop:=
 ∃ f fd,FnOk P w K mg base CX0 n f fd ps sp/\Binds K fd ps []/\PySem.W.keepIn K (.ref f)=true/\mg x=some (.ref f)
theorem zaI{K:PySem.W.Frag}{h:Heap}{mg:Str->Option Value}(X:K.In h)(G:h.Ns mainGlobals mg){x:Str}{st:Stmt}{ps:List Str}{f:Addr}{oc:Value}{od an:Option Addr}{osl:Array (Option Value)}{kV doc pm cdv ct:Value}
  (hb:∀ (kV doc pm:Value) (an:Option Addr) (cdv ct:Value) (us:List Value),us.length=ps.length->bindArgs (PySem.W.fnOf x x (zap st) (zaj st) (za1 st) .none kV doc pm an cdv ct) ⟨us,[]⟩=pure (ps.zip us))
  (a:PySem.W.nsIn K mainGlobals x=some (some (.ref f))) (l:K.lookup f=some ⟨oc,od,.func (PySem.W.fnOf x x (zap st) (zaj st) (za1 st) .none kV doc pm an cdv ct),osl⟩)
  (c:PySem.W.codeIn K cdv x=true) (k:PySem.W.keepIn K (.ref f)=true):Here K mg x st ps:=by
 have F:=zkc (st:=st) l c k
 exact ⟨f,_,F,F.binds hb,k,PySem.W.mg_of X G a⟩
section
variable {P:Program}{w:World}{K:PySem.W.Frag}{mg:Str->Option Value}{base:Heap}
theorem Here.ok{x:Str}{st:Stmt}{N ps:List Str}{k:Nat}{sp:Sp}(h:Here K mg x st ps)(S:FnScope N ps (za1 st))(len:∀ vs H Q E,sp vs H Q E->vs.length=ps.length)
  (hbody:∀ (f:Addr) (cdv:Value) (A:Around) (outer:List Env) (s:Shared) (H:Hp) (vs:List V) (Q:VK) (E:XK),Room k (A.deeper (envOfC x (za1 st) s.heap.objs.size f cdv))->sp vs H Q E->
   ∃ t,PSs (cxOf CX0 P w K mg base N x (za1 st) f cdv A outer s H E).nox (zaj st) t/\t { nx:=fun _ H'=>Q .non H',rt:=Q } (L2.start N vs) H):Cal P w K mg base (k+1) x ps sp:=by
 obtain ⟨f,fd,F,b,kp,m⟩:=h
 exact ⟨f,fd,F.ok S len fun cdv A outer s H vs Q E hr hs=>hbody f cdv A outer s H vs Q E hr hs,b,kp,m⟩
theorem Cal.mono{j k:Nat}{x:Str}{ps:List Str}{sp:Sp}(h:Cal P w K mg base j x ps sp)(hjk:j<=k):Cal P w K mg base k x ps sp:=by
 obtain ⟨f,fd,F,b,kp,m⟩:=h
 exact ⟨f,fd,F.mono hjk,b,kp,m⟩
end
def Body(tk:TheK)(P:Program)(w:World)(mg:Str->Option Value)(base:Heap)(k:Nat)(x:Str)(st:Stmt)(N:List Str)(t:TS):Prop:=
 ∀ (f:Addr) (cdv:Value) (A:Around) (outer:List Env) (s:Shared) (H:Hp) (E:XK),Room k (A.deeper (envOfC x (za1 st) s.heap.objs.size f cdv))->PSs (cxOf CX0 P w tk.K mg base N x (za1 st) f cdv A outer s H E).nox (zaj st) t
variable [tk:TheK]
section
variable {P:Program}{w:World}{mg:Str->Option Value}{base:Heap}{x:Str}{st:Stmt}{N ps:List Str}{k:Nat}{d:DS}{M' Mb:List Nat}
theorem Here.okP(h:Here tk.K mg x st ps)(S:FnScope N ps (za1 st))(hb:Body tk P w mg base k x st N (cS .e [] [] M' Mb d))(hN:ps.length<=N.length:=by decide):Cal P w tk.K mg base (k+1) x ps (spP .e ps.length (fnP N.length d)):=by
 refine h.ok S (fun vs H Q E ⟨C,ts,t,hl,r,_⟩=>by rw [r.1,hl]) fun f cdv A outer s H vs Q E hr hs=>⟨_,hb f cdv A outer s H E hr,?_⟩
 refine run_P (fun ts t e=>?_) (.inl rfl) hN hs
 unfold fnP at e
 split at e
 ·injection e with e; subst e; exact .inl ⟨_,by assumption⟩
 ·injection e with e; subst e; exact .inr ⟨rfl,rfl,_,by assumption⟩
 ·cases e
theorem Here.okN(h:Here tk.K mg x st ps)(S:FnScope N ps (za1 st))(hb:Body tk P w mg base k x st N (cS .n [] [] M' Mb d))(hN:ps.length<=N.length:=by decide):Cal P w tk.K mg base (k+1) x ps (spP .n ps.length (fnPn N.length d)):=by
 refine h.ok S (fun vs H Q E ⟨C,ts,t,hl,r,_⟩=>by rw [r.1,hl]) fun f cdv A outer s H vs Q E hr hs=>⟨_,hb f cdv A outer s H E hr,?_⟩
 refine run_P (fun ts t e=>?_) (.inr rfl) hN hs
 unfold fnPn at e
 split at e
 ·injection e with e; subst e; exact .inl ⟨_,by assumption⟩
 ·cases e
theorem Here.okD(h:Here tk.K mg x st ps)(S:FnScope N ps (za1 st))(hb:Body tk P w mg base k x st N (cS .b [] [] M' Mb d))(hN:ps.length<=N.length:=by decide):Cal P w tk.K mg base (k+1) x ps (spD ps.length (fnPn N.length d)):=
 h.ok S (fun vs H Q E ⟨C,ts,t,hl,r,_⟩=>by rw [r.1,hl]) fun f cdv A outer s H vs Q E hr hs=>⟨_,hb f cdv A outer s H E hr,run_D hN hs⟩
theorem zkD{rk:Kd}{np:Nat}{fn:List T->Option (T × T)}{vs:List V}{H:Hp}{Q:VK}{E:XK}(h:spI rk np fn vs H Q E):vs.length=np:=by
 obtain ⟨C,a,us,t0,ts,t,t1,hl,rfl,_,_,r,_⟩:=h
 rw [<-hl,List.length_cons,List.length_cons,r.1]
theorem Here.okI(h:Here tk.K mg x st ps)(S:FnScope N ps (za1 st))(hb:Body tk P w mg base k x st N (cS .e [0] [0] M' Mb d))(hN:ps.length<=N.length:=by decide):Cal P w tk.K mg base (k+1) x ps (spI .e ps.length (fnI N.length d)):=
 h.ok S (fun vs H Q E h=>zkD h) fun f cdv A outer s H vs Q E hr hs=>⟨_,hb f cdv A outer s H E hr,run_I (.inl rfl) hN hs⟩
def spLaw(K:PySem.W.Frag):Sp:=fun vs H Q _=>∃ (a:Addr) (ns:List Int),vs=[.ref a]/\Only H/\SqL K H a (ns.map V.int)/\ns.length<=63/\∀ H',Q (.bl true) H'
theorem zn0{fw:Addr}{dw:FuncData}(F:Fun tk.K x x st fw dw)(S:FnScope N [ps0] (za1 st))(hb:Body tk P w mg base k x st N (cS .e [] [] M' Mb d))(hN:1<=N.length)(hd:∀ ns:List Int,ns.length<=63->fnP N.length d [.scr ns]=some (.bl true)):FnOk P w tk.K mg base CX0 (k+1) fw dw [ps0] (spLaw tk.K):=by
 refine F.ok S (fun vs H Q E ⟨a,ns,e,_⟩=>by rw [e]; rfl) fun cdv A outer s H vs Q E hr hs=>⟨_,hb fw cdv A outer s H E hr,?_⟩
 obtain ⟨a,ns,rfl,hO,hS,h63,q⟩:=hs
 have rp:Rep (fun _=>True) H (.ref a) (.scr ns):=by
  rcases hS with (hS | ⟨o,hS⟩) | hS
  ·rcases hO a with z | ⟨_,_,z⟩<;>rw [hS] at z<;>cases z
  ·exact .scr trivial hS
  ·exact .scrK fun H'=>.inr hS
 refine run_P (np:=1) (N:=N) (fn:=L3.fnP N.length d) (fun ts t e=>?_) (.inl rfl) hN (E:=E) ⟨fun _=>True,[.scr ns],.bl true,rfl,.cons rp .nil,hd ns h63,fun v H' c=>?_⟩
 ·unfold L3.fnP at e
  split at e
  ·injection e with e; subst e; exact .inl ⟨_,by assumption⟩
  ·injection e with e; subst e; exact .inr ⟨rfl,rfl,_,by assumption⟩
  ·cases e
 ·have:v=.bl true:=BRep.bl (.inl c.res)
  rw [this]
  exact q H'
end
theorem walk{l:PySem.W.OpenLaw}{q:Program}{loose:List Str}{XP:(Str->Option Value)->Heap->Prop}{YP:World->Heap->Prop}{d:DefRec}{K:Params->PySem.W.Frag}{x:Str}{k:Nat}(hn:l.most=some 63)(hdf:d.params.defaults=[])(hk:k < 60)
  (hY:∀ (w:World) (h:Heap),YP w h->(K w.params).In h)
  (F:∀ (w:World) (mg:Str->Option Value) (fa:Addr) (h:Heap),(K w.params).In h->h.Ns mainGlobals mg->mg d.name=some (.ref fa)->
   ∃ fd:FuncData,(∀ (s:Shared) (u:Value),BindsTo s fd ⟨[u],[]⟩ [(x,u)])/\∀ base:Heap,(K w.params).In base->base.Ns mainGlobals mg->FnOk l.prog w (K w.params) mg base CX0 k fa fd [x] (spLaw (K w.params))) :
  PySem.W.WalkO q loose XP YP l.row.toRowW d [] (fun f vs=>PySem.call f vs):=
 L2.zhe (n:=63) (k:=k) (x:=x) (CX:=fun _=>CX0) (sp:=fun w=>spLaw (K w.params)) hn (by decide) hdf (Room.mono (k:=60) ⟨rfl,by decide,by decide⟩ (by lia)) hY F (fun _ _ a ns hl hO hS=>⟨a,ns,rfl,hO,hS,hl,fun _=>rfl⟩) fun _ _ _ _ _ z=>z
end L3
namespace L3
open PySem PySem.Spec PyProof.Rows L2
theorem zdF{A:Around}{k:Nat}(hr:Room k A):A.units+8 < cLine:=by have:=hr.un; lia
end L3
namespace L3
open PySem PySem.Spec PyProof.Rows L2
structure QE (X:Cx) (e:Expr) (t:TE):Prop where
 un:L2.PE X e t
structure QT (X:Cx) (e:Expr) (t:TT):Prop where
 un:L2.PT X e t
structure QW (X:Cx) (e:Expr) (t:TT):Prop where
 un:L2.PW X e t
structure QA (X:Cx) (e:List Expr) (t:TA):Prop where
 un:L2.PA X e t
structure QSs (X:Cx) (e:List Stmt) (t:TS):Prop where
 un:L2.PSs X e t
structure QS (X:Cx) (e:Stmt) (t:TS):Prop where
 un:L2.PS X e t
structure QI (X:Cx) (tg iter:Expr) (t:TI):Prop where
 un:L2.PI X tg iter t
structure QGs (X:Cx) (e:List Expr) (t:TGs):Prop where
 un:L2.PGs X e t
structure QG (X:Cx) (e:Expr) (t:TG):Prop where
 un:L2.PG X e t
structure QTs (X:Cx) (e:List Expr) (t:TT):Prop where
 un:L2.PTs X e t
structure QO (X:Cx) (e:Option Expr) (t:TO):Prop where
 un:L2.PO X e t
section
variable {X:Cx}
theorem zkO{i j pos}:QE X (.Constant (.int i) j pos) (tC (.int i)):=⟨L2.zk0 ⟩
end
section
variable {X:Cx}
theorem zbY{x:Str}{v:V}{u:Value}{pos:Pos}(hg:Gl X x)(hm:X.mg x=none)(hv:bootBuiltins x=some u)(r:RelV v u)(hn:x≠"__name__":=by decide)(hd:(x == ("__debug__":Str))=false:=by decide):QE X (.Name x pos) (tC v):=⟨L2.zl5 hg hm hv r hn hd⟩
end
section
variable {X:Cx}{st:Stmt}{rest:List Stmt}{t u:TS}{e:Expr}{te:TE}{pos:Pos}
theorem ziZ(he:QE X e te)(hs:swapsWith e none pos.line X.env=pure false:=by rfl):QS X (.Expr e pos) (tDrop te):=⟨L2.zhH he.un hs⟩
end
section
variable {X:Cx}{pos:Pos}
theorem zag{i:Nat}{x:Str}(hN:X.N.Nodup)(hi:X.N[i]?=some x)(hx:Loc X.env.scope x)(hf:X.fn x=true∨X.env.scope.names.lookup x=some .local:=by first | exact .inl rfl | exact .inr rfl | assumption):QG X (.Name x pos) (gName i):=⟨L2.zl4 hN hi hx hf⟩
end
section
variable {X:Cx}{pos:Pos}
theorem zem :QGs X [] gNil:=⟨L2.zl2 ⟩
end
section
variable {X:Cx}{pos:Pos}
theorem zbo{e:Expr}{es:List Expr}{t:TG}{u:TGs}(h1:QG X e t)(h2:QGs X es u)(hs:(assignEach (e::es) X.env).map (·.2)=assign e X.env::(assignEach es X.env).map (·.2):=by rfl):QGs X (e::es) (gCons t u):=⟨L2.zjb h1.un h2.un hs⟩
end
section
variable {X:Cx}{pos:Pos}
theorem zhx{es:List Expr}{k:Nat}{t:TGs}{n:Nat}(hc:X.calm=true)(h:QGs X es t)(hn:(assignEach es X.env).length=n:=by rfl)(hst:(assignEach es X.env).findIdx? (·.1)=none:=by rfl):QG X (.Tuple es k pos) (gTup X.K n t):=⟨L2.zjY hc h.un hn hst⟩
end
section
variable {X:Cx}{pos:Pos}
theorem zcO{o i:Expr}{to ti:TE}{t:TSet}(ho:QE X o to)(hi:QE X i ti)(hs:PSet X t)(ha:∀ v,assign (.Subscript o i pos) X.env v=(do
   let ov <-holding [v] (eval o X.env)
   let iv <-holding [v,ov] (eval i X.env)
   standAt pos
   holding [v,ov,iv] (setItem ov iv v)
   release [v,ov,iv] []):=by intro _; rfl):QG X (.Subscript o i pos) (gSub to ti t):=⟨L2.zmC ho.un hi.un hs ha⟩
end
section
variable {X:Cx}{pos:Pos}
theorem zcN{tg e:Expr}{te:TE}{g:TG}(he:QE X e te)(hg:QG X tg g)(hs:swapsWithSole [tg] e pos.line X.env=pure false:=by rfl)(hw:swappedStores [tg] e X.env=pure none:=by rfl)(h1:(assignEach [tg] X.env).map (·.2)=[assign tg X.env]:=by rfl):QS X (.Assign [tg] e pos) (tAsg te g):=⟨L2.zmA he.un hg.un hs hw h1⟩
end
section
variable {X:Cx}{pos:Pos}
theorem zab{i:Nat}{x:Str}{e:Expr}{te:TE}{pos':Pos}(hN:X.N.Nodup)(hi:X.N[i]?=some x)(hx:Loc X.env.scope x)(he:QE X e te)(hs:swapsWith e (some (.Name x pos')) pos.line X.env=pure false:=by rfl)(hf:X.fn x=true∨X.env.scope.names.lookup x=some .local:=by first | exact .inl rfl | exact .inr rfl | assumption):QS X (.Assign [.Name x pos'] e pos) (tAsg te (gName i)):=⟨L2.zmy hN hi hx he.un hs hf⟩
end
section
variable {X:Cx}{tg:Expr}
theorem zgj{l:Expr}{tl:TE}(hl:QE X l tl):QI X tg l (iList X.K tl):=⟨L2.zhK hl.un⟩
end
section
variable {X:Cx}{tg:Expr}
theorem zbL{iter:Expr}{body:List Stmt}{wi:TI}{g:TG}{tb:TS}{pos:Pos}(hp:PassesOwn (model X.prog X.w) X.A X.env X.xe)(hc:X.calm=true)(hi:QI X tg iter wi)(hg:QG X tg g)(hb:QSs X body tb)(hs:∀ x,foldedSetIterable iter X.env x=pure x:=by intro _; rfl):QS X (.For tg iter body [] pos) (tFor wi g tb):=⟨L2.zmz hp hc hi.un hg.un hb.un hs⟩
end
section
variable {X:Cx}{e:Expr}{es:List Expr}{te:TE}{t:TA}{pos:Pos}
theorem zen :QA X [] tNil:=⟨L2.zd7 ⟩
end
section
variable {X:Cx}{e:Expr}{es:List Expr}{te:TE}{t:TA}{pos:Pos}
theorem zbZ(ha:QE X e te)(hr:QA X es t)(hs:starEach (e::es) X.env=(false,eval e X.env)::starEach es X.env:=by rfl):QA X (e::es) (tCons te t):=⟨L2.zaZ ha.un hr.un hs⟩
end
section
variable {X:Cx}{a b:Expr}{ta tb:TE}{pos:Pos}
theorem zmp{r:R2}(hr:IxR X r)(ha:QE X a ta)(hb:QE X b tb)(hs:zbV b):QE X (.Subscript a b pos) (tOp r ta tb):=⟨L2.pe_ix hr ha.un hb.un hs⟩
end
section
variable {X:Cx}{a b:Expr}{ta tb:TE}{pos:Pos}
variable {o e:Expr}{es:List Expr}{to:TE}{t:TA}{name:Str}{apos cpos:Pos}{T id:String}{r:V->List V->Hp->VK->Prop}
theorem zcq(pa:PlainAttrs T)(slot:Slot T name id)(hty:typeOf (.builtin id)=pure (.type "method_descriptor"))(hm:MtR X id r)(ho:QE X o to)(ha:QA X (e::es) t)(hbase:attributeBase o name X.env (eval o X.env)=eval o X.env:=by rfl)(hfew:((backTo cpos (starEach (e::es) X.env)).all (fun x=>!x.1)&&(backToKw cpos (keywordEach [] X.env)).all (fun x=>x.1.isSome)
   && decide ((e::es).length+([]:List Keyword).length+(if ([]:List Keyword).isEmpty then 0 else 1) < 30))=true:=by rfl) (hline:(apos.endLine == cpos.line)=true:=by rfl) (hs:starEach (e::es) X.env=(false,eval e X.env)::starEach es X.env:=by rfl) (hplain:(backTo cpos (starEach es X.env)).any (·.1)=false:=by rfl):QE X (.Call (.Attribute o name apos) (e::es) [] cpos) (tBM X.K T r to t):=⟨L2.pe_bm pa slot hty hm ho.un ha.un hbase hfew hline hs hplain⟩
end
section
variable {X:Cx}
theorem qpv(i:Nat){x:Str}{pos:Pos}(hN:X.N[i]?=some x:=by rfl)(hv:Vis X.env.scope x:=by first | exact Or.inl rfl | exact Or.inr (Or.inl rfl) | exact Or.inr (Or.inr rfl))(hd:(x == ("__debug__":Str))=false:=by decide)(hcd:(x == ("__classdict__":Str))=false:=by decide):QE X (.Name x pos) (tVar i):=⟨L2.pv i hN hv hd hcd⟩
end
section
theorem zaS{X:Cx}:QTs X [] tAll:=⟨L2.zkU ⟩
end
section
theorem ziY{X:Cx}{c:Expr}{t:TT}(h:QT X c t):QTs X [c] t:=⟨L2.zkT h.un⟩
end
section
variable {X:Cx}{N:List Str}{scope:Scope}{caps:List (Option Nat)}{tg elt iter:Expr}{ifs:List Expr}{wi:TI}{g:TG}{tt:TT}{te:TE}{pos:Pos}
theorem zdZ(hc:X.calm=true)(hi:QI X tg iter wi)(hg:∀ cl C s0 H0 fp,QG (zae X N scope cl C s0 H0 fp) tg g)(hgk:KeepG caps g)(ht:∀ cl C s0 H0 fp,QTs (zae X N scope cl C s0 H0 fp) ifs tt)(he:∀ cl C s0 H0 fp,QE (zae X N scope cl C s0 H0 fp) elt te)(hcap:capOk N X.N scope X.env.scope caps=true:=by rfl)(hkind:scope.kind=.function:=by rfl)(hcell:scope.names.all (fun p=>p.2 != .cell)=true:=by rfl)(hnames:scope.names.all (fun p=>p.2 != .local||scope.names.lookup p.1 == some .local)=true:=by rfl)(hfr:scope.names.all (fun p=>p.2 != .free||(X.env.scope.names.lookup p.1 == some .cell||X.env.scope.names.lookup p.1 == some .free))=true:=by rfl)(hs:∀ x,foldedSetIterable iter X.env x=pure x:=by intro _; rfl):QE X (.ListComp elt [⟨tg,iter,ifs,0⟩] scope pos) (tLC caps wi g tt te):=⟨L2.pe_lc hc hi.un (fun cl C s0 H0 fp=>(hg cl C s0 H0 fp).un) hgk (fun cl C s0 H0 fp=>(ht cl C s0 H0 fp).un) (fun cl C s0 H0 fp=>(he cl C s0 H0 fp).un) hcap hkind hcell hnames hfr hs⟩
end
section
variable {X:Cx}{N:List Str}{scope:Scope}{caps:List (Option Nat)}{tg elt iter:Expr}{ifs:List Expr}{wi:TI}{g:TG}{tt:TT}{te:TE}{pos:Pos}
theorem zdw{i:Nat}{y:Str}{py spos:Pos}(hN:X.N.Nodup)(hiy:X.N[i]?=some y)(hy:X.env.scope.names.lookup y=some .local)(hc:X.calm=true)(hi:QI X tg iter wi)(hg:∀ cl C s0 H0 fp,QG (zae X N scope cl C s0 H0 fp) tg g)(hgk:KeepG caps g)(ht:∀ cl C s0 H0 fp,QTs (zae X N scope cl C s0 H0 fp) ifs tt)(he:∀ cl C s0 H0 fp,QE (zae X N scope cl C s0 H0 fp) elt te)(hsw:swapsWith (.ListComp elt [⟨tg,iter,ifs,0⟩] scope pos) (some (.Name y py)) spos.line X.env=pure true:=by rfl)(hcap:capOk N X.N scope X.env.scope caps=true:=by rfl)(hkind:scope.kind=.function:=by rfl)(hcell:scope.names.all (fun p=>p.2 != .cell)=true:=by rfl)(hnames:scope.names.all (fun p=>p.2 != .local||scope.names.lookup p.1 == some .local)=true:=by rfl)(hfr:scope.names.all (fun p=>p.2 != .free||(X.env.scope.names.lookup p.1 == some .cell||X.env.scope.names.lookup p.1 == some .free))=true:=by rfl)(hs:∀ x,foldedSetIterable iter X.env x=pure x:=by intro _; rfl):QS X (.Assign [.Name y py] (.ListComp elt [⟨tg,iter,ifs,0⟩] scope pos) spos) (tAsg (tLC caps wi g tt te) (gName i)):=⟨L2.zja hN hiy hy hc hi.un (fun cl C s0 H0 fp=>(hg cl C s0 H0 fp).un) hgk (fun cl C s0 H0 fp=>(ht cl C s0 H0 fp).un) (fun cl C s0 H0 fp=>(he cl C s0 H0 fp).un) hsw hcap hkind hcell hnames hfr hs⟩
end
section
variable {X:Cx}{K:PySem.W.Frag}
theorem zj0{es:List Expr}{k:Nat}{t:TGs}{n:Nat}{pos:Pos}(hK:X.K=K)(hc:X.calm=true)(h:QGs X es t)(hn:(assignEach es X.env).length=n:=by rfl)(hst:(assignEach es X.env).findIdx? (·.1)=none:=by rfl):QG X (.Tuple es k pos) (gTup K n t):=⟨L2.zl3 hK hc h.un hn hst⟩
end
section
variable {X:Cx}{N:List Str}{scope:Scope}{caps:List (Option Nat)}{tg kx vx iter:Expr}{ifs:List Expr}{wi:TI}{g:TG}{tt:TT}{tk tv:TE}{pos:Pos}
theorem zjR(hc:X.calm=true)(hi:QI X tg iter wi)(hg:∀ cl C s0 H0 fp,QG (zae X N scope cl C s0 H0 fp) tg g)(hgk:KeepG caps g)(ht:∀ cl C s0 H0 fp,QTs (zae X N scope cl C s0 H0 fp) ifs tt)(hk:∀ cl C s0 H0 fp,QE (zae X N scope cl C s0 H0 fp) kx tk)(he:∀ cl C s0 H0 fp,QE (zae X N scope cl C s0 H0 fp) vx tv)(hcap:capOk N X.N scope X.env.scope caps=true:=by rfl)(hkind:scope.kind=.function:=by rfl)(hcell:scope.names.all (fun p=>p.2 != .cell)=true:=by rfl)(hnames:scope.names.all (fun p=>p.2 != .local||scope.names.lookup p.1 == some .local)=true:=by rfl)(hfr:scope.names.all (fun p=>p.2 != .free||(X.env.scope.names.lookup p.1 == some .cell||X.env.scope.names.lookup p.1 == some .free))=true:=by rfl)(hs:∀ x,foldedSetIterable iter X.env x=pure x:=by intro _; rfl):QE X (.DictComp kx vx [⟨tg,iter,ifs,0⟩] scope pos) (tDC caps wi g tt tk tv):=⟨L2.pe_dc hc hi.un (fun cl C s0 H0 fp=>(hg cl C s0 H0 fp).un) hgk (fun cl C s0 H0 fp=>(ht cl C s0 H0 fp).un) (fun cl C s0 H0 fp=>(hk cl C s0 H0 fp).un) (fun cl C s0 H0 fp=>(he cl C s0 H0 fp).un) hcap hkind hcell hnames hfr hs⟩
end
section
variable {X:Cx}{N:List Str}{scope:Scope}{caps:List (Option Nat)}{t1 i1 t2 i2 elt:Expr}{wi wi2:TI}{g1 g2:TG}{te:TE}{pos:Pos}
theorem zkN(hc:X.calm=true)(hi:QI X t1 i1 wi)(hg:∀ cl C s0 H0 fp,QG (zae X N scope cl C s0 H0 fp) t1 g1)(hi2:∀ cl C s0 H0 fp,QI (zae X N scope cl C s0 H0 fp) t2 i2 wi2)(hg2:∀ cl C s0 H0 fp,QG (zae X N scope cl C s0 H0 fp) t2 g2)(he:∀ cl C s0 H0 fp,QE (zae X N scope cl C s0 H0 fp) elt te)(hs2:∀ env x,foldedSetIterable i2 env x=pure x:=by intro _ _; rfl)(hcap:capOk N X.N scope X.env.scope caps=true:=by rfl)(hkind:scope.kind=.function:=by rfl)(hcell:scope.names.all (fun p=>p.2 != .cell)=true:=by rfl)(hnames:scope.names.all (fun p=>p.2 != .local||scope.names.lookup p.1 == some .local)=true:=by rfl)(hfr:scope.names.all (fun p=>p.2 != .free||(X.env.scope.names.lookup p.1 == some .cell||X.env.scope.names.lookup p.1 == some .free))=true:=by rfl)(hs:∀ x,foldedSetIterable i1 X.env x=pure x:=by intro _; rfl):QE X (lc2 elt t1 i1 t2 i2 scope pos) (tLC2 caps wi g1 wi2 g2 te):=⟨L2.zmJ hc hi.un (fun cl C s0 H0 fp=>(hg cl C s0 H0 fp).un) (fun cl C s0 H0 fp=>(hi2 cl C s0 H0 fp).un) (fun cl C s0 H0 fp=>(hg2 cl C s0 H0 fp).un) (fun cl C s0 H0 fp=>(he cl C s0 H0 fp).un) hs2 hcap hkind hcell hnames hfr hs⟩
end
section
variable {X:Cx}{N:List Str}{scope:Scope}{caps:List (Option Nat)}{tg elt iter:Expr}{ifs:List Expr}{wi:TI}{g:TG}{tt:TT}{te:TE}{pos:Pos}
theorem zgT{i:Nat}{y:Str}{py spos:Pos}(hN:X.N.Nodup)(hiy:X.N[i]?=some y)(hy:X.env.scope.names.lookup y=some .local)(hc:X.calm=true)(hi:QI X tg iter wi)(hg:∀ cl C s0 H0 fp,QG (zb2 X N scope cl C s0 H0 fp) tg g)(hgk:KeepG caps g)(ht:∀ cl C s0 H0 fp,QTs (zb2 X N scope cl C s0 H0 fp) ifs tt)(he:∀ cl C s0 H0 fp,QE (zb2 X N scope cl C s0 H0 fp) elt te)(hsw:swapsWith (.ListComp elt [⟨tg,iter,ifs,0⟩] scope pos) (some (.Name y py)) spos.line X.env=pure true:=by rfl)(hcap:capOk N X.N scope X.env.scope caps=true:=by rfl)(hkind:scope.kind=.function:=by rfl)(hcell:scope.names.all (fun p=>p.2 != .cell||scope.names.lookup p.1 == some .cell)=true:=by rfl)(hnames:scope.names.all (fun p=>p.2 != .local||scope.names.lookup p.1 == some .local)=true:=by rfl)(hfr:scope.names.all (fun p=>p.2 != .free||(X.env.scope.names.lookup p.1 == some .cell||X.env.scope.names.lookup p.1 == some .free))=true:=by rfl)(hs:∀ x,foldedSetIterable iter X.env x=pure x:=by intro _; rfl):QS X (.Assign [.Name y py] (.ListComp elt [⟨tg,iter,ifs,0⟩] scope pos) spos) (tAsg (tLC caps wi g tt te) (gName i)):=⟨L2.zhF hN hiy hy hc hi.un (fun cl C s0 H0 fp=>(hg cl C s0 H0 fp).un) hgk (fun cl C s0 H0 fp=>(ht cl C s0 H0 fp).un) (fun cl C s0 H0 fp=>(he cl C s0 H0 fp).un) hsw hcap hkind hcell hnames hfr hs⟩
end
section
variable [TheK]
variable {X:Cx}{M:List Nat}{e a b:Expr}{fa fb:DE}
theorem qne(h:QE X e (cE .n M fa)):QE X e (cE .e M fa):=⟨L3.ne h.un⟩
end
section
variable [TheK]
variable {X:Cx}{M:List Nat}{e a b:Expr}{fa fb:DE}
theorem qeb(h:QE X e (cE .e M fa)):QE X e (cE .b M fa):=⟨L3.eb h.un⟩
end
section
variable [TheK]
variable {X:Cx}{M:List Nat}{e a b:Expr}{fa fb:DE}
theorem qnb(h:QE X e (cE .n M fa)):QE X e (cE .b M fa):=⟨L3.nb h.un⟩
end
section
variable [TheK]
variable {X:Cx}{M:List Nat}{e a b:Expr}{fa fb:DE}
theorem qv_{i:Nat}(hi:M.contains i=false)(h:QE X e (tVar i)):QE X e (cE .e M (dV i)):=⟨L3.e_var hi h.un⟩
end
section
variable [TheK]
variable {X:Cx}{M:List Nat}{e a b:Expr}{fa fb:DE}
theorem zdx{i:Nat}(hi:M.contains i=true)(h:QE X e (tVar i)):QE X e (cE .b M (dV i)):=⟨L3.e_raw hi h.un⟩
end
section
variable [TheK]
variable {X:Cx}{M:List Nat}{e a b:Expr}{fa fb:DE}
theorem qi_{i j pos}:QE X (.Constant (.int i) j pos) (cE .e M (dC (.int i))):=⟨L3.e_int ⟩
end
section
variable [TheK]
variable {X:Cx}{M:List Nat}{e a b:Expr}{fa fb:DE}
theorem qe_bl{i j pos}:QE X (.Constant (.bool i) j pos) (cE .e M (dC (.bl i))):=⟨L3.e_bl ⟩
end
section
variable [TheK]
variable {X:Cx}{M:List Nat}{e a b:Expr}{fa fb:DE}
theorem zd3{i j pos}:QE X (.Constant (.str i) j pos) (cE .e M (dC (.str i))):=⟨L3.e_str ⟩
end
section
variable [TheK]
variable {X:Cx}{M:List Nat}{e a b:Expr}{fa fb:DE}
theorem zjV{j pos}:QE X (.Constant .none j pos) (cE .e M (dC .non)):=⟨L3.e_non ⟩
end
section
variable [TheK]
variable {X:Cx}
variable {M:List Nat}{a b:Expr}{fa fb:DE}{pos:Pos}
theorem zmr(ha:QE X a (cE .e M fa))(hb:QE X b (cE .b M fb)):QE X (.BinOp a .Sub b pos) (cE .e M (d2 gSb fa fb)):=⟨L3.e_sub ha.un hb.un⟩
end
section
variable [TheK]
variable {X:Cx}
variable {M:List Nat}{a b:Expr}{fa fb:DE}{pos:Pos}
theorem zd4(ha:QE X a (cE .e M fa))(hb:QE X b (cE .b M fb)):QE X (.BinOp a .Mult b pos) (cE .e M (d2 gMul fa fb)):=⟨L3.e_mul ha.un hb.un⟩
end
section
variable [TheK]
variable {X:Cx}
variable {M:List Nat}{a b:Expr}{fa fb:DE}{pos:Pos}
theorem zdy(ha:QE X a (cE .e M fa))(hb:QE X b (cE .b M fb)):QE X (.BinOp a .FloorDiv b pos) (cE .e M (d2 gDiv fa fb)):=⟨L3.e_div ha.un hb.un⟩
end
section
variable [TheK]
variable {X:Cx}
variable {M:List Nat}{a b:Expr}{fa fb:DE}{pos:Pos}
theorem zbi(ha:QE X a (cE .e M fa))(hb:QE X b (cE .b M fb)):QE X (.BinOp a .Mod b pos) (cE .e M (d2 gMod fa fb)):=⟨L3.e_mod ha.un hb.un⟩
end
section
variable [TheK]
variable {X:Cx}{M:List Nat}{a b:Expr}{fa fb:DE}{pos:Pos}
theorem qe_eq(hu:X.A.units+8 < cLine)(ha:QE X a (cE .e M fa))(hb:QE X b (cE .b M fb)):QE X (.Compare a [.Eq] [b] pos) (cE .e M (d2 gEq fa fb)):=⟨L3.e_eq hu ha.un hb.un⟩
end
section
variable [TheK]
variable {X:Cx}{M:List Nat}{a b:Expr}{fa fb:DE}{pos:Pos}
theorem qe_is(ha:QE X a (cE .e M fa))(hb:QE X b (cE .b M fb)):QE X (.Compare a [.Is] [b] pos) (cE .e M (d2 gIs fa fb)):=⟨L3.e_is ha.un hb.un⟩
end
section
variable [TheK]
variable {X:Cx}{M:List Nat}{a b c:Expr}{fa fb:DE}{ft fu:DT}{pos:Pos}{k:Kd}
theorem zbn(h:QE X a (cE .b M fa))(he:∀ whole,isTrue a X.env whole=(do let v <-whole; standAt a.pos; holding [v] (truthy v)):=by intro _; rfl):QT X a (cT M (dTru fa)):=⟨L3.t_tru h.un he⟩
end
section
variable [TheK]
variable {X:Cx}{M:List Nat}{a b c:Expr}{fa fb:DE}{ft fu:DT}{pos:Pos}{k:Kd}
theorem qt_eq(hu:X.A.units+8 < cLine)(ha:QE X a (cE .e M fa))(hb:QE X b (cE .b M fb)):QT X (.Compare a [.Eq] [b] pos) (cT M (dB (d2 gEq fa fb))):=⟨L3.t_eq hu ha.un hb.un⟩
end
section
variable [TheK]
variable {X:Cx}{M:List Nat}{a b c:Expr}{fa fb:DE}{ft fu:DT}{pos:Pos}{k:Kd}
theorem qt_ne(hu:X.A.units+8 < cLine)(ha:QE X a (cE .e M fa))(hb:QE X b (cE .b M fb)):QT X (.Compare a [.NotEq] [b] pos) (cT M (dB (d2 gNe fa fb))):=⟨L3.t_ne hu ha.un hb.un⟩
end
section
variable [TheK]
variable {X:Cx}{M:List Nat}{a b c:Expr}{fa fb:DE}{ft fu:DT}{pos:Pos}{k:Kd}
theorem qt_lt(ha:QE X a (cE .e M fa))(hb:QE X b (cE .b M fb)):QT X (.Compare a [.Lt] [b] pos) (cT M (dB (d2 gLt fa fb))):=⟨L3.t_lt ha.un hb.un⟩
end
section
variable [TheK]
variable {X:Cx}{M:List Nat}{a b c:Expr}{fa fb:DE}{ft fu:DT}{pos:Pos}{k:Kd}
theorem qt_gt(ha:QE X a (cE .e M fa))(hb:QE X b (cE .b M fb)):QT X (.Compare a [.Gt] [b] pos) (cT M (dB (d2 gGt fa fb))):=⟨L3.t_gt ha.un hb.un⟩
end
section
variable [TheK]
variable {X:Cx}{M:List Nat}{a b c:Expr}{fa fb:DE}{ft fu:DT}{pos:Pos}{k:Kd}
theorem zbK(h:QT X a (cT M ft)):QT X (.UnaryOp .Not a pos) (cT M (dNot ft)):=⟨L3.t_not h.un⟩
end
section
variable [TheK]
variable {X:Cx}{M:List Nat}{a b c:Expr}{fa fb:DE}{ft fu:DT}{pos:Pos}{k:Kd}
theorem zdu(h:QT X a (cT M ft)):QW X (.BoolOp .Or [a] pos) (cT M ft):=⟨L3.w_or1 h.un⟩
end
section
variable [TheK]
variable {X:Cx}{M:List Nat}{a b c:Expr}{fa fb:DE}{ft fu:DT}{pos:Pos}{k:Kd}
theorem qw_or{rest:List Expr}(ha:QT X a (cT M ft))(hb:QW X (.BoolOp .Or (b::rest) pos) (cT M fu)):QW X (.BoolOp .Or (a::b::rest) pos) (cT M (dOr ft fu)):=⟨L3.w_or ha.un hb.un⟩
end
section
variable [TheK]
variable {X:Cx}{M:List Nat}{a b c:Expr}{fa fb:DE}{ft fu:DT}{pos:Pos}{k:Kd}
theorem zjU{op}(h:QE X a (cE .e M fa)):QE X (.BoolOp op [a] pos) (cE .e M fa):=⟨L3.e_one h.un⟩
end
section
variable [TheK]
variable {X:Cx}{M:List Nat}{a b c:Expr}{fa fb:DE}{ft fu:DT}{pos:Pos}{k:Kd}
theorem zjW{rest:List Expr}(ha:QE X a (cE .e M fa))(hb:QE X (.BoolOp .And (b::rest) pos) (cE .e M fb)):QE X (.BoolOp .And (a::b::rest) pos) (cE .e M (dAndV fa fb)):=⟨L3.e_and ha.un hb.un⟩
end
section
variable [TheK]
variable {X:Cx}{M:List Nat}{e:Expr}{es:List Expr}{fe:DE}{fa:DA}{pos:Pos}
theorem za2 :QA X [] (cA M dAn):=⟨L3.a_nil ⟩
end
section
variable [TheK]
variable {X:Cx}{M:List Nat}{e:Expr}{es:List Expr}{fe:DE}{fa:DA}{pos:Pos}
theorem qa_(h:QE X e (cE .e M fe))(ha:QA X es (cA M fa))(hs:starEach (e::es) X.env=(false,eval e X.env)::starEach es X.env:=by rfl):QA X (e::es) (cA M (dAc fe fa)):=⟨L3.znH h.un ha.un hs⟩
end
section
variable [TheK]
variable {X:Cx}{M:List Nat}{e:Expr}{es:List Expr}{fe:DE}{fa:DA}{pos:Pos}
theorem zaT(h:QA X es (cA M fa)):QE X (.List es pos) (cE .n M (dLst fa)):=⟨L3.e_lst h.un⟩
end
section
variable [TheK]
variable {X:Cx}{M:List Nat}{e:Expr}{es:List Expr}{fe:DE}{fa:DA}{pos:Pos}
theorem ze0{x1}(h:QA X es (cA M fa)):QE X (.Tuple es x1 pos) (cE .e M (dTup fa)):=⟨L3.e_tup h.un⟩
end
section
variable [TheK]
variable {X:Cx}{M:List Nat}{e:Expr}{lo hi:Option Expr}{fe:DE}{fl fh:DO}{pos p2:Pos}
theorem zaY :QO X none (cO M dOn):=⟨L3.zmT ⟩
end
section
variable [TheK]
variable {X:Cx}{M:List Nat}{e:Expr}{lo hi:Option Expr}{fe:DE}{fl fh:DO}{pos p2:Pos}
theorem zaJ(h:QE X e (cE .e M fe)):QO X (some e) (cO M (dOs fe)):=⟨L3.zmS h.un⟩
end
section
variable [TheK]
variable {X:Cx}{M:List Nat}{e:Expr}{lo hi:Option Expr}{fe:DE}{fl fh:DO}{pos p2:Pos}
theorem zjT{i:Nat}(hK:X.K=TheK.K)(hi':M.contains i=true)(he:QE X e (tVar i))(hl:QO X lo (cO M fl))(hu:QO X hi (cO M fh)):QE X (.Subscript e (.Slice lo hi none p2) pos) (cE .n M (dSlV gSl i fl fh)):=⟨L3.e_slV hK hi' he.un hl.un hu.un⟩
end
section
variable [TheK]
variable {F:Fr}{O O' O'':Addr->Prop}{io M M' Mb:List Nat}{s s':Sg}{σ:L2.St}{H H' H'':Hp}{v:V}{t:T}{a:Addr}{rk:Kd}
theorem zjQ{X:Cx}{st:Stmt}{d:DS}{Mx:List Nat}(h:QS X st (cS rk io M' Mx Mb d))(hM:M'.all (M.contains ·)=true:=by rfl)(hio:io.all (M'.contains ·)=true:=by rfl):QS X st (cS rk io M Mx Mb d):=⟨L3.s_pre h.un hM hio⟩
end
section
variable [TheK]
variable {X:Cx}{rk:Kd}{io M M' M'' Mb:List Nat}{st:Stmt}{sts:List Stmt}{e c:Expr}{a b:List Stmt}{d d':DS}{fe:DE}{ft:DT}{pos pos':Pos}
theorem zaB :QSs X [] (cS rk io M M Mb dNext):=⟨L3.zmb ⟩
end
section
variable [TheK]
variable {X:Cx}{rk:Kd}{io M M' M'' Mb:List Nat}{st:Stmt}{sts:List Stmt}{e c:Expr}{a b:List Stmt}{d d':DS}{fe:DE}{ft:DT}{pos pos':Pos}
theorem za6(h:QS X st (cS rk io M M' Mb d)):QSs X [st] (cS rk io M M' Mb d):=⟨L3.zma h.un⟩
end
section
variable [TheK]
variable {X:Cx}{rk:Kd}{io M M' M'' Mb:List Nat}{st:Stmt}{sts:List Stmt}{e c:Expr}{a b:List Stmt}{d d':DS}{fe:DE}{ft:DT}{pos pos':Pos}
theorem qs_(h:QS X st (cS rk io M M' Mb d))(h2:QSs X sts (cS rk io M' M'' Mb d')):QSs X (st::sts) (cS rk io M M'' Mb (dSeq d d')):=⟨L3.zkC h.un h2.un⟩
end
section
variable [TheK]
variable {X:Cx}{rk:Kd}{io M M' M'' Mb:List Nat}{st:Stmt}{sts:List Stmt}{e c:Expr}{a b:List Stmt}{d d':DS}{fe:DE}{ft:DT}{pos pos':Pos}
theorem qs_if(hc:QT X c (cT M ft))(ha:QSs X a (cS rk io M M' Mb d))(hb:QSs X b (cS rk io M M' Mb d')):QS X (.If c a b pos) (cS rk io M M' Mb (dIfS ft d d')):=⟨L3.s_if hc.un ha.un hb.un⟩
end
section
variable [TheK]
variable {X:Cx}{rk:Kd}{io M M' M'' Mb:List Nat}{st:Stmt}{sts:List Stmt}{e c:Expr}{a b:List Stmt}{d d':DS}{fe:DE}{ft:DT}{pos pos':Pos}
theorem zah{i:Nat}(h:QS X st (tAsg (cE .e M fe) (gName i)))(hM:setsE M M' io i=true:=by rfl):QS X st (cS rk io M M' Mb (dSet i fe)):=⟨L3.zmg h.un hM⟩
end
section
variable [TheK]
variable {X:Cx}{rk:Kd}{io M M' M'' Mb:List Nat}{st:Stmt}{sts:List Stmt}{e c:Expr}{a b:List Stmt}{d d':DS}{fe:DE}{ft:DT}{pos pos':Pos}
theorem zbm{i:Nat}(h:QS X st (tAsg (cE .n M fe) (gName i)))(hM:setsN M M' io i=true:=by rfl):QS X st (cS rk io M M' Mb (dSet i fe)):=⟨L3.zme h.un hM⟩
end
section
variable [TheK]
variable {X:Cx}{rk:Kd}{io M M' M'' Mb:List Nat}{st:Stmt}{sts:List Stmt}{e c:Expr}{a b:List Stmt}{d d':DS}{fe:DE}{ft:DT}{pos pos':Pos}
theorem qs_do{k:Kd}(hk:k=.e∨k=.b)(he:QE X e (cE k M fe))(hs:swapsWith e none pos.line X.env=pure false:=by rfl):QS X (.Expr e pos) (cS rk io M M Mb (dDo fe)):=⟨L3.s_do hk he.un hs⟩
end
section
variable [TheK]
variable {X:Cx}{rk:Kd}{io M M' M'' Mb:List Nat}{st:Stmt}{sts:List Stmt}{e c:Expr}{a b:List Stmt}{d d':DS}{fe:DE}{ft:DT}{pos pos':Pos}
theorem zai(he:QE X e (cE .e M fe)):QS X (.Return (some e) pos) (cS .e io M M' Mb (dRetI io fe)):=⟨L3.zmi he.un⟩
end
section
variable [TheK]
variable {X:Cx}{rk:Kd}{io M M' M'' Mb:List Nat}{st:Stmt}{sts:List Stmt}{e c:Expr}{a b:List Stmt}{d d':DS}{fe:DE}{ft:DT}{pos pos':Pos}
theorem zkL(he:QE X e (cE .n M fe)):QS X (.Return (some e) pos) (cS .n io M M' Mb (dRetI io fe)):=⟨L3.zmh he.un⟩
end
section
variable [TheK]
variable {X:Cx}{rk:Kd}{io M M' Mb:List Nat}{st:Stmt}{fk fv:DE}
theorem zcM{i:Nat}(hi:M.contains i=true)(h:QS X st (tAsg (cE .e M fv) (gSub (tVar i) (cE .e M fk) rSetL))):QS X st (cS rk io M M Mb (dSetI i fk fv)):=⟨L3.zmf hi h.un⟩
end
section
variable [TheK]
variable {X:Cx}{M:List Nat}{tg e:Expr}{fe:DE}{fa:DA}
theorem zbc{a:Expr}{p pos:Pos}(hg:Gl X "range")(hm:X.mg "range"=none)(ha:QA X [a] (cA M fa))(hs:starEach [a] X.env=[(false,eval a X.env)]:=by rfl):QI X tg (.Call (.Name "range" p) [a] [] pos) (cI M (dRg1 fa)):=⟨L3.zjs hg hm ha.un hs⟩
end
section
variable [TheK]
variable {X:Cx}{M:List Nat}{tg e:Expr}{fe:DE}{fa:DA}
theorem zhy{a b:Expr}{p pos:Pos}(hg:Gl X "range")(hm:X.mg "range"=none)(ha:QA X [a,b] (cA M fa))(hs:starEach [a,b] X.env=[(false,eval a X.env),(false,eval b X.env)]:=by rfl)(hs2:starEach [b] X.env=[(false,eval b X.env)]:=by rfl):QI X tg (.Call (.Name "range" p) [a,b] [] pos) (cI M (dRg2 fa)):=⟨L3.zjr hg hm ha.un hs hs2⟩
end
section
variable [TheK]
variable {X:Cx}{M:List Nat}{tg e:Expr}{fe:DE}{fa:DA}
theorem zkP{elts:List Expr}{x1:Nat}{tp:Pos}{a:Expr}{p pos:Pos}(hg:Gl X "enumerate")(hm:X.mg "enumerate"=none)(ha:QA X [a] (cA M fa))(hs:starEach [a] X.env=[(false,eval a X.env)]:=by rfl):QI X (.Tuple elts x1 tp) (.Call (.Name "enumerate" p) [a] [] pos) (cI M (dEn fa)):=⟨L3.zne hg hm ha.un hs⟩
end
section
variable [TheK]
variable {X:Cx}{rk:Kd}{io M M' Mb:List Nat}{tg iter:Expr}{body:List Stmt}{fi:DI}{g:DG}{db:DS}{pos:Pos}
theorem zcP{i:Nat}(h:QG X tg (gName i))(hi:M.contains i=false:=by rfl)(hio:io.all (M.contains ·)=true:=by rfl):QG X tg (cG io M (dGn i)):=⟨L3.znf h.un hi hio⟩
end
section
variable [TheK]
variable {X:Cx}{rk:Kd}{io M M' Mb:List Nat}{tg iter:Expr}{body:List Stmt}{fi:DI}{g:DG}{db:DS}{pos:Pos}
theorem zjS{is:List Nat}{n:Nat}{K:PySem.W.Frag}(h:QG X tg (gTup K n (gsN is)))(hn:is.length=n:=by rfl)(hm:is.all (fun i=>!M.contains i)=true:=by rfl)(hio:io.all (M.contains ·)=true:=by rfl):QG X tg (cG io M (dGt is)):=⟨L3.g_tup h.un hn hm hio⟩
end
section
variable [TheK]
variable {X:Cx}{rk:Kd}{io M M' Mb:List Nat}{tg iter:Expr}{body:List Stmt}{fi:DI}{g:DG}{db:DS}{pos:Pos}
theorem zd2(h:QS X (.For tg iter body [] pos) (tFor (cI M fi) (cG io M g) (cS rk io M M M db))):QS X (.For tg iter body [] pos) (cS rk io M M Mb (dFor fi g db)):=⟨L3.s_for h.un⟩
end
section
variable [TheK]
variable {X:Cx}{M:List Nat}{a b c e:Expr}{fa fb fe:DE}{pos p:Pos}
theorem zar(hK:X.K=TheK.K)(hu:X.A.units+1 < cLine)(ha:QE X a (cE .e M fa))(hb:QE X b (cE .b M fb))(hs:zbV b):QE X (.Subscript a b pos) (cE .e M (d2 gItem fa fb)):=⟨L3.znn hK hu ha.un hb.un hs⟩
end
section
variable [TheK]
variable {X:Cx}{M:List Nat}{a b c e:Expr}{fa fb fe:DE}{pos p:Pos}
theorem zbj{i:Nat}(hK:X.K=TheK.K)(hi:M.contains i=true)(hu:X.A.units+1 < cLine)(ha:QE X a (tVar i))(hb:QE X b (cE .b M fb))(hs:zbV b):QE X (.Subscript a b pos) (cE .e M (d2v gItem i fb)):=⟨L3.zll hK hi hu ha.un hb.un hs⟩
end
section
variable [TheK]
variable {X:Cx}{M:List Nat}{a b c e:Expr}{fa fb fe:DE}{pos p:Pos}
theorem zdv(hu:X.A.units+1 < cLine)(ha:QE X a (cE .e M fa))(hb:QE X b (cE .b M fb))(hm:behindInMarks .NotIn b=false):QT X (.Compare a [.NotIn] [b] pos) (cT M (dB (d2 zbd fa fb))):=⟨L3.ziR hu ha.un hb.un hm⟩
end
section
variable [TheK]
variable {X:Cx}{M:List Nat}{a b c e:Expr}{fa fb fe:DE}{pos p:Pos}
theorem zao(ha:QE X a (cE .e M fa))(hb:QE X b (cE .b M fb)):QE X (.BinOp a .Add b pos) (cE .e M (d2 gPlus fa fb)):=⟨L3.znk ha.un hb.un⟩
end
section
variable [TheK]
variable {X:Cx}{M:List Nat}{a b c e:Expr}{fa fb fe:DE}{pos p:Pos}
theorem zbM{lo hi:Option Expr}{fl fh:DO}{p2:Pos}(hK:X.K=TheK.K)(he:QE X e (cE .e M fe))(hl:QO X lo (cO M fl))(hu:QO X hi (cO M fh)):QE X (.Subscript e (.Slice lo hi none p2) pos) (cE .e M (dSl gSlA fe fl fh)):=⟨L3.e_slA hK he.un hl.un hu.un⟩
end
section
variable [TheK]
variable {X:Cx}{M:List Nat}{a b c e:Expr}{fa fb fe:DE}{pos p:Pos}
theorem zc4{tg:Expr}(hK:X.K=TheK.K)(h:QE X e (cE .e M fe)):QI X tg e (cI M (dItA fe)):=⟨L3.i_any hK h.un⟩
end
section
variable [TheK]
variable {X:Cx}{M:List Nat}{a b c e:Expr}{fa fb fe:DE}{pos p:Pos}
variable {es:List Expr}{fs:DA}{x:Str}{k:Nat}{f:Addr}{fd:FuncData}{ps:List Str}{np:Nat}
theorem za9{fn:List T->Option T}(F:FnOk X.prog X.w X.K X.mg X.base CX0 k f fd ps (spP .e np fn))(hr:Room k X.A)(hg:Gl X x)(hm:X.mg x=some (.ref f))(hk:PySem.W.keepIn X.K (.ref f)=true)(hb:Binds X.K fd ps [])(ha:QA X (e::es) (cA M fs))(ar:Ar fs np)(hdb:(x == ("__debug__":Str))=false:=by decide)(he:starEach (e::es) X.env=(false,eval e X.env)::starEach es X.env:=by rfl)(hpl:(backTo pos (starEach es X.env)).any (·.1)=false:=by rfl):QE X (.Call (.Name x p) (e::es) [] pos) (cE .e M (dCall fn fs)):=⟨L3.znq F hr hg hm hk hb ha.un ar hdb he hpl⟩
end
section
variable [TheK]
variable {X:Cx}{M:List Nat}{a b c e:Expr}{fa fb fe:DE}{pos p:Pos}
variable {es:List Expr}{fs:DA}{x:Str}{k:Nat}{f:Addr}{fd:FuncData}{ps:List Str}{np:Nat}
theorem zj5{fn:List T->Option T}(F:FnOk X.prog X.w X.K X.mg X.base CX0 k f fd ps (spP .n np fn))(hr:Room k X.A)(hg:Gl X x)(hm:X.mg x=some (.ref f))(hk:PySem.W.keepIn X.K (.ref f)=true)(hb:Binds X.K fd ps [])(ha:QA X (e::es) (cA M fs))(ar:Ar fs np)(hdb:(x == ("__debug__":Str))=false:=by decide)(he:starEach (e::es) X.env=(false,eval e X.env)::starEach es X.env:=by rfl)(hpl:(backTo pos (starEach es X.env)).any (·.1)=false:=by rfl):QE X (.Call (.Name x p) (e::es) [] pos) (cE .n M (dCall fn fs)):=⟨L3.zlq F hr hg hm hk hb ha.un ar hdb he hpl⟩
end
section
variable [TheK]
variable {X:Cx}{M:List Nat}{a b c e:Expr}{fa fb fe:DE}{pos p:Pos}
variable {es:List Expr}{fs:DA}{x:Str}{k:Nat}{f:Addr}{fd:FuncData}{ps:List Str}{np:Nat}
theorem zj6{fn:List T->Option (T × T)}{i:Nat}(hi:M.contains i=true)(F:FnOk X.prog X.w X.K X.mg X.base CX0 k f fd ps (spI .e (np+1) fn))(hr:Room k X.A)(hg:Gl X x)(hm:X.mg x=some (.ref f))(hk:PySem.W.keepIn X.K (.ref f)=true)(hb:Binds X.K fd ps [])(h0:QE X e (tVar i))(ha:QA X es (cA M fs))(ar:Ar fs np)(hdb:(x == ("__debug__":Str))=false:=by decide)(he:starEach (e::es) X.env=(false,eval e X.env)::starEach es X.env:=by rfl)(hpl:(backTo pos (starEach es X.env)).any (·.1)=false:=by rfl):QE X (.Call (.Name x p) (e::es) [] pos) (cE .e M (zfi fn i fs)):=⟨L3.zlr hi F hr hg hm hk hb h0.un ha.un ar hdb he hpl⟩
end
section
variable [TheK]
variable {X:Cx}{M:List Nat}{a b c e:Expr}{fa fb fe:DE}{pos p:Pos}
variable {es:List Expr}{fs:DA}{x:Str}{k:Nat}{f:Addr}{fd:FuncData}{ps:List Str}{np:Nat}
theorem zaU(hK:X.K=TheK.K)(hg:Gl X "len")(hm:X.mg "len"=none)(h:QE X e (cE .b M fe))(he:starEach [e] X.env=(false,eval e X.env)::starEach [] X.env:=by rfl)(hpl:(backTo pos (starEach [] X.env)).any (·.1)=false:=by rfl):QE X (.Call (.Name "len" p) [e] [] pos) (cE .e M (d1 gLen fe)):=⟨L3.e_len hK hg hm h.un he hpl⟩
end
section
variable [TheK]
variable {X:Cx}{M:List Nat}{a b c e:Expr}{fa fb fe:DE}{pos p:Pos}
variable {es:List Expr}{fs:DA}{x:Str}{k:Nat}{f:Addr}{fd:FuncData}{ps:List Str}{np:Nat}
theorem ze1{cn:String}{ce:Expr}(hc:okTy cn=true)(hg:Gl X "isinstance")(hm:X.mg "isinstance"=none)(h:QE X e (cE .b M fe))(h2:QE X ce (tC (.ty cn)))(he:starEach [e,ce] X.env=(false,eval e X.env)::starEach [ce] X.env:=by rfl)(he2:starEach [ce] X.env=(false,eval ce X.env)::starEach [] X.env:=by rfl)(hpl:(backTo pos (starEach [ce] X.env)).any (·.1)=false:=by rfl):QE X (.Call (.Name "isinstance" p) [e,ce] [] pos) (cE .e M (dIsi cn fe)):=⟨L3.e_isi hc hg hm h.un h2.un he he2 hpl⟩
end
section
variable [TheK]
variable {X:Cx}{M:List Nat}{a b c e:Expr}{fa fb fe:DE}{pos p:Pos}
variable {es:List Expr}{fs:DA}{x:Str}{k:Nat}{f:Addr}{fd:FuncData}{ps:List Str}{np:Nat}
theorem zhB{e2:Expr}(hc:X.calm=true)(hg:Gl X "max")(hm:X.mg "max"=none)(hv:bootBuiltins "max"=some (.builtin "max"))(h:QA X [e,e2] (cA M fs))(he:starEach [e,e2] X.env=(false,eval e X.env)::starEach [e2] X.env:=by rfl)(hpl:(backTo pos (starEach [e2] X.env)).any (·.1)=false:=by rfl):QE X (.Call (.Name "max" p) [e,e2] [] pos) (cE .e M (dA2 imax fs)):=⟨L3.znm hc hg hm hv h.un he hpl⟩
end
section
variable [TheK]
variable {X:Cx}{M:List Nat}{a b c e:Expr}{fa fb fe:DE}{pos p:Pos}
variable {es:List Expr}{fs:DA}{x:Str}{k:Nat}{f:Addr}{fd:FuncData}{ps:List Str}{np:Nat}
theorem zkQ{e2:Expr}(hc:X.calm=true)(hg:Gl X "min")(hm:X.mg "min"=none)(hv:bootBuiltins "min"=some (.builtin "min"))(h:QA X [e,e2] (cA M fs))(he:starEach [e,e2] X.env=(false,eval e X.env)::starEach [e2] X.env:=by rfl)(hpl:(backTo pos (starEach [e2] X.env)).any (·.1)=false:=by rfl):QE X (.Call (.Name "min" p) [e,e2] [] pos) (cE .e M (dA2 imin fs)):=⟨L3.znl hc hg hm hv h.un he hpl⟩
end
section
variable [TheK]
variable {X:Cx}{M:List Nat}{a b c e:Expr}{fa fb fe:DE}{pos p:Pos}
variable {es:List Expr}{fs:DA}{x:Str}{k:Nat}{f:Addr}{fd:FuncData}{ps:List Str}{np:Nat}
theorem zcr{i:Nat}{o:Expr}{apos:Pos}(hi:M.contains i=true)(h:QE X (.Call (.Attribute o "append" apos) (e::es) [] pos) (tBM X.K "list" zcL (tVar i) (cA M fs))):QE X (.Call (.Attribute o "append" apos) (e::es) [] pos) (cE .e M (dMut mApp i fs)):=⟨L3.zjC hi h.un⟩
end
section
variable [TheK]
variable {X:Cx}{M:List Nat}{a b c e:Expr}{fa fb fe:DE}{pos p:Pos}
variable {es:List Expr}{fs:DA}{x:Str}{k:Nat}{f:Addr}{fd:FuncData}{ps:List Str}{np:Nat}
theorem zgk{i:Nat}{o:Expr}{apos:Pos}(hi:M.contains i=true)(h:QE X (.Call (.Attribute o "pop" apos) (e::es) [] pos) (tBM X.K "list" zgi (tVar i) (cA M fs))):QE X (.Call (.Attribute o "pop" apos) (e::es) [] pos) (cE .e M (dMut zc6 i fs)):=⟨L3.zlj hi h.un⟩
end
section
variable [TheK]
variable {X:Cx}{M:List Nat}{a b c e:Expr}{fa fb fe:DE}{pos p:Pos}
variable {es:List Expr}{fs:DA}{x:Str}{k:Nat}{f:Addr}{fd:FuncData}{ps:List Str}{np:Nat}
theorem qe_lc{Mi:List Nat}{caps:List (Option Nat)}{fi:DI}{g:TG}{dg:DG}{ft:DT}{tt:TT}(c:capB caps M Mi=true)(hg:TgOk g dg Mi caps)(htt:∀ σ H Q,cT Mi ft σ H Q->tt σ H Q)(h:QE X e (tLC caps (cI M fi) g tt (cE .e Mi fe))):QE X e (cE .n M (dLC M caps fi dg ft fe)):=⟨L3.e_lc c hg htt h.un⟩
end
section
variable [TheK]
variable {X:Cx}{M:List Nat}{a b c e:Expr}{fa fb fe:DE}{pos p:Pos}
variable {es:List Expr}{fs:DA}{x:Str}{k:Nat}{f:Addr}{fd:FuncData}{ps:List Str}{np:Nat}
theorem qs_lc{st:Stmt}{Mi:List Nat}{caps:List (Option Nat)}{fi:DI}{g:TG}{g2:TG}{dg:DG}{ft:DT}{tt:TT}(c:capB caps M Mi=true)(hg:TgOk g dg Mi caps)(htt:∀ σ H Q,cT Mi ft σ H Q->tt σ H Q)(h:QS X st (tAsg (tLC caps (cI M fi) g tt (cE .e Mi fe)) g2)):QS X st (tAsg (cE .n M (dLC M caps fi dg ft fe)) g2):=⟨L3.s_lc c hg htt h.un⟩
end
section
variable [TheK]
variable {X:Cx}{M:List Nat}{a b c e:Expr}{fa fb fe:DE}{pos p:Pos}
variable {es:List Expr}{fs:DA}{x:Str}{k:Nat}{f:Addr}{fd:FuncData}{ps:List Str}{np:Nat}
theorem qs_nE{st:Stmt}{g2:TG}{ff:DE}(h:QS X st (tAsg (cE .n M ff) g2)):QS X st (tAsg (cE .e M ff) g2):=⟨L3.s_nE h.un⟩
end
section
variable [TheK]
variable {X:Cx}{M:List Nat}{a b c e:Expr}{fa fb fc fe fk:DE}{pos p:Pos}
theorem qe_dc{Mi:List Nat}{caps:List (Option Nat)}{fi:DI}{g:TG}{dg:DG}{ft:DT}{tt:TT}(c:capB caps M Mi=true)(hg:TgOk g dg Mi caps)(htt:∀ σ H Q,cT Mi ft σ H Q->tt σ H Q)(h:QE X e (tDC caps (cI M fi) g tt (cE .e Mi fk) (cE .e Mi fe))):QE X e (cE .n M (dDC M caps fi dg ft fk fe)):=⟨L3.e_dc c hg htt h.un⟩
end
section
variable [TheK]
variable {X:Cx}{M:List Nat}{a b c e:Expr}{fa fb fc fe fk:DE}{pos p:Pos}
theorem zeo(hK:X.K=TheK.K)(hc:X.calm=true)(hg:Gl X "list")(hm:X.mg "list"=none)(h:QE X e (cE .b M fe))(he:starEach [e] X.env=(false,eval e X.env)::starEach [] X.env:=by rfl)(hpl:(backTo pos (starEach [] X.env)).any (·.1)=false:=by rfl):QE X (.Call (.Name "list" p) [e] [] pos) (cE .n M (d1 zcw fe)):=⟨L3.zlk hK hc hg hm h.un he hpl⟩
end
section
variable [TheK]
variable {X:Cx}{M:List Nat}{a b c e:Expr}{fa fb fc fe fk:DE}{pos p:Pos}
theorem zhA(h:QE X a (cE .b M fa)):QE X (.UnaryOp .USub a pos) (cE .e M (d1 gNeg fa)):=⟨L3.e_neg h.un⟩
end
section
variable [TheK]
variable {X:Cx}{M:List Nat}{a b c e:Expr}{fa fb fc fe fk:DE}{pos p:Pos}
theorem zkK(ha:QE X a (cE .e M fa))(hb:QE X b (cE .e M fb))(hc:QE X c (cE .e M fc))(hm:lastMarks [.LtE,.Lt] [b,c]=false:=by with_unfolding_all rfl):QT X (.Compare a [.LtE,.Lt] [b,c] pos) (cT M (dB (dCh gLe gLt fa fb fc))):=⟨L3.zm9 ha.un hb.un hc.un hm⟩
end
section
variable [TheK]
variable {X:Cx}{M:List Nat}{e st:Expr}{fe:DE}{fk:DO}{pos p2:Pos}
theorem zhz(hK:X.K=TheK.K)(he:QE X e (cE .e M fe))(hs:QO X (some st) (cO M fk)):QE X (.Subscript e (.Slice none none (some st) p2) pos) (cE .n M (dRev fe fk)):=⟨L3.e_rev hK he.un hs.un⟩
end
section
variable [TheK]
variable {X:Cx}{M:List Nat}{e st:Expr}{fe:DE}{fk:DO}{pos p2:Pos}
theorem zeS{a:Expr}{fa:DA}{p p' pos':Pos}(hc:X.calm=true)(hg:Gl X "list")(hm:X.mg "list"=none)(hg':Gl X "range")(hm':X.mg "range"=none)(ha:QA X [a] (cA M fa))(hs:starEach [a] X.env=[(false,eval a X.env)]:=by rfl)(hs':starEach [.Call (.Name "range" p') [a] [] pos'] X.env=[(false,eval (.Call (.Name "range" p') [a] [] pos') X.env)]:=by rfl):QE X (.Call (.Name "list" p) [.Call (.Name "range" p') [a] [] pos'] [] pos) (cE .n M (dLR fa)):=⟨L3.zfS hc hg hm hg' hm' ha.un hs hs'⟩
end
section
variable [TheK]
variable {X:Cx}{M:List Nat}{e:Expr}{fe:DE}
theorem zms{i0:Nat}{Mi:List Nat}{caps:List (Option Nat)}{g:TG}{dg:DG}{ft:DT}{tt:TT}(hK:X.K=TheK.K)(h0:M.contains i0=true)(hcap:caps.contains (some i0)=false)(c:capB caps M Mi=true)(hg:TgOk g dg Mi caps)(htt:∀ σ H Q,cT Mi ft σ H Q->tt σ H Q)(h:QE X e (tLC caps (iList X.K (tVar i0)) g tt (cE .e Mi fe))):QE X e (cE .n M (dLC M caps (dItV i0) dg ft fe)):=⟨L3.e_lcV hK h0 hcap c hg htt h.un⟩
end
section
variable [TheK]
variable {X:Cx}{M:List Nat}{e:Expr}{fe:DE}
theorem zmo{st:Stmt}{i0:Nat}{Mi:List Nat}{caps:List (Option Nat)}{g:TG}{g2:TG}{dg:DG}{ft:DT}{tt:TT}(hK:X.K=TheK.K)(h0:M.contains i0=true)(hcap:caps.contains (some i0)=false)(c:capB caps M Mi=true)(hg:TgOk g dg Mi caps)(htt:∀ σ H Q,cT Mi ft σ H Q->tt σ H Q)(h:QS X st (tAsg (tLC caps (iList X.K (tVar i0)) g tt (cE .e Mi fe)) g2)):QS X st (tAsg (cE .n M (dLC M caps (dItV i0) dg ft fe)) g2):=⟨L3.s_lcV hK h0 hcap c hg htt h.un⟩
end
section
variable [TheK]
variable {X:Cx}{M:List Nat}{e o:Expr}{fa fe:DE}{p pos apos:Pos}
theorem zj1(h:QE X (.Call (.Attribute o "index" apos) [e] [] pos) (tBM X.K "list" zcK (cE .e M fa) (tCons (cE .b M fe) tNil))):QE X (.Call (.Attribute o "index" apos) [e] [] pos) (cE .e M (d2L zc7 fa fe)):=⟨L3.zlm h.un⟩
end
section
variable [TheK]
variable {X:Cx}{M:List Nat}{e o:Expr}{fa fe:DE}{p pos apos:Pos}
theorem zhD{i:Nat}(hi:M.contains i=true)(h:QE X (.Call (.Attribute o "index" apos) [e] [] pos) (tBM X.K "list" zcK (tVar i) (tCons (cE .b M fe) tNil))):QE X (.Call (.Attribute o "index" apos) [e] [] pos) (cE .e M (d2LV zc7 i fe)):=⟨L3.zjA hi h.un⟩
end
section
variable [TheK]
variable {X:Cx}{M:List Nat}{e o:Expr}{fa fe:DE}{p pos apos:Pos}
theorem zmu(hK:X.K=TheK.K)(hc:X.calm=true)(hg:Gl X "all")(hm:X.mg "all"=none)(h:QE X e (cE .b M fe))(he:starEach [e] X.env=(false,eval e X.env)::starEach [] X.env:=by rfl)(hpl:(backTo pos (starEach [] X.env)).any (·.1)=false:=by rfl):QE X (.Call (.Name "all" p) [e] [] pos) (cE .e M (d1 gAll fe)):=⟨L3.e_all hK hc hg hm h.un he hpl⟩
end
section
variable [TheK]
variable {X:Cx}{M:List Nat}{e:Expr}{es:List Expr}{fs:DA}{p pos:Pos}{k np:Nat}{f:Addr}{fd:FuncData}{ps:List Str}{x:Str}
theorem zj7{fn:List T->Option T}{i:Nat}(hi:M.contains i=true)(F:FnOk X.prog X.w X.K X.mg X.base CX0 k f fd ps (spP .e (np+1) fn))(hr:Room k X.A)(hg:Gl X x)(hm:X.mg x=some (.ref f))(hk:PySem.W.keepIn X.K (.ref f)=true)(hb:Binds X.K fd ps [])(h0:QE X e (tVar i))(ha:QA X es (cA M fs))(ar:Ar fs np)(hdb:(x == ("__debug__":Str))=false:=by decide)(he:starEach (e::es) X.env=(false,eval e X.env)::starEach es X.env:=by rfl)(hpl:(backTo pos (starEach es X.env)).any (·.1)=false:=by rfl):QE X (.Call (.Name x p) (e::es) [] pos) (cE .e M (zfj fn i fs)):=⟨L3.zls hi F hr hg hm hk hb h0.un ha.un ar hdb he hpl⟩
end
section
variable [TheK]
variable {X:Cx}{M:List Nat}{e:Expr}{fe:DE}{p p2 pos pos2:Pos}
theorem zhC(hK:X.K=TheK.K)(hc:X.calm=true)(hg:Gl X "len")(hm:X.mg "len"=none)(hg2:Gl X "set")(hm2:X.mg "set"=none)(h:QE X e (cE .b M fe))(he2:starEach [e] X.env=(false,eval e X.env)::starEach [] X.env:=by rfl)(hpl2:(backTo pos2 (starEach [] X.env)).any (·.1)=false:=by rfl)(he:starEach [.Call (.Name "set" p2) [e] [] pos2] X.env=(false,eval (.Call (.Name "set" p2) [e] [] pos2) X.env)::starEach [] X.env:=by rfl)(hpl:(backTo pos (starEach [] X.env)).any (·.1)=false:=by rfl):QE X (.Call (.Name "len" p) [.Call (.Name "set" p2) [e] [] pos2] [] pos) (cE .e M (d1 zch fe)):=⟨L3.zjz hK hc hg hm hg2 hm2 h.un he2 hpl2 he hpl⟩
end
section
variable [TheK]
variable {X:Cx}{M:List Nat}{e1 e2:Expr}{es:List Expr}{f0:DE}{fs:DA}{p pos:Pos}{k np:Nat}{f:Addr}{fd:FuncData}{ps:List Str}{x:Str}
theorem zeT{fn:List T->Option T}{i:Nat}(hi:M.contains i=true)(F:FnOk X.prog X.w X.K X.mg X.base CX0 k f fd ps (spP .e (np+2) fn))(hr:Room k X.A)(hg:Gl X x)(hm:X.mg x=some (.ref f))(hk:PySem.W.keepIn X.K (.ref f)=true)(hb:Binds X.K fd ps [])(h0:QE X e1 (cE .e M f0))(h1:QE X e2 (tVar i))(ha:QA X es (cA M fs))(ar:Ar fs np)(hdb:(x == ("__debug__":Str))=false:=by decide)(he:starEach (e1::e2::es) X.env=(false,eval e1 X.env)::starEach (e2::es) X.env:=by rfl)(he2:starEach (e2::es) X.env=(false,eval e2 X.env)::starEach es X.env:=by rfl)(hpl:(backTo pos (starEach (e2::es) X.env)).any (·.1)=false:=by rfl):QE X (.Call (.Name x p) (e1::e2::es) [] pos) (cE .e M (zcT fn i f0 fs)):=⟨L3.zjB hi F hr hg hm hk hb h0.un h1.un ha.un ar hdb he he2 hpl⟩
end
section
variable [TheK]
variable {X:Cx}{M:List Nat}{a b:Expr}{fa fb:DE}{pos:Pos}
theorem zmn(hK:X.K=TheK.K)(hu:X.A.units+1 < cLine)(ha:QE X a (cE .e M fa))(hb:QE X b (cE .b M fb)):QT X (.Compare a [.Lt] [b] pos) (cT M (dB (d2 gLtA fa fb))):=⟨L3.t_ltA hK hu ha.un hb.un⟩
end
section
variable [TheK]
variable {X:Cx}{M:List Nat}{e:Expr}
theorem zmt{caps:List (Option Nat)}{fi fi2:DI}{g1 g2:TG}{dg1 dg2:DG}{fe:DE}(c:capB caps M []=true)(hg1:TgOk g1 dg1 [] caps)(hg2:TgOk g2 dg2 [] caps)(h:QE X e (tLC2 caps (cI M fi) g1 (cI [] fi2) g2 (cE .e [] fe))):QE X e (cE .n M (dLC2 caps fi dg1 fi2 dg2 fe)):=⟨L3.e_lc2 c hg1 hg2 h.un⟩
end
section
variable [TheK]
variable {X:Cx}{rk:Kd}{io M M' Mb:List Nat}{x:Nat}{st:Stmt}{sts:List Stmt}{c:Expr}{a b:List Stmt}{d d':DS}{ft:DT}{fe:DE}{pos:Pos}
theorem zel :QSs X [] (cD rk io M x dNext):=⟨L3.zkB ⟩
end
section
variable [TheK]
variable {X:Cx}{rk:Kd}{io M M' Mb:List Nat}{x:Nat}{st:Stmt}{sts:List Stmt}{c:Expr}{a b:List Stmt}{d d':DS}{ft:DT}{fe:DE}{pos:Pos}
theorem zcp(h:QS X st (cD rk io M x d))(h2:QSs X sts (cD rk io M x d')):QSs X (st::sts) (cD rk io M x (dSeq d d')):=⟨L3.ziV h.un h2.un⟩
end
section
variable [TheK]
variable {X:Cx}{rk:Kd}{io M M' Mb:List Nat}{x:Nat}{st:Stmt}{sts:List Stmt}{c:Expr}{a b:List Stmt}{d d':DS}{ft:DT}{fe:DE}{pos:Pos}
theorem zhw(hc:QT X c (cT M ft))(ha:QSs X a (cD rk io M x d))(hb:QSs X b (cD rk io M x d')):QS X (.If c a b pos) (cD rk io M x (dIfD M ft d d')):=⟨L3.s_dif hc.un ha.un hb.un⟩
end
section
variable [TheK]
variable {X:Cx}{rk:Kd}{io M M' Mb:List Nat}{x:Nat}{st:Stmt}{sts:List Stmt}{c:Expr}{a b:List Stmt}{d d':DS}{ft:DT}{fe:DE}{pos:Pos}
theorem zek(h:QSs X sts (cS rk io M M' Mb d)):QSs X sts (cD rk io M x (dRtD d)):=⟨L3.zmc h.un⟩
end
section
variable [TheK]
variable {X:Cx}{rk:Kd}{io M Mb:List Nat}{x np:Nat}{st:Stmt}{sts:List Stmt}{d:DS}{fn:List T->Option T}{fa:DA}
theorem zhu(hxM:M.contains x=false)(hio:io.all (M.contains ·)=true)(ar:Ar fa np)(h:QS X st (tAsg (tCall (spD np fn) [] E0 (cA M fa)) (gName x)))(h2:QSs X sts (cD rk io M x d)):QSs X (st::sts) (cS rk io M M Mb (zea fn fa x d)):=⟨L3.ziU hxM hio ar h.un h2.un⟩
end
section
variable [TheK]
variable {X:Cx}{rk:Kd}{io M Mb:List Nat}{x np:Nat}{st:Stmt}{sts:List Stmt}{d:DS}{fn:List T->Option T}{fa:DA}
theorem zj4{e:Expr}{es:List Expr}{p pos:Pos}{k:Nat}{f:Addr}{fd:FuncData}{ps:List Str}{y:Str}(F:FnOk X.prog X.w X.K X.mg X.base CX0 k f fd ps (spD np fn))(hr:Room k X.A)(hg:Gl X y)(hm:X.mg y=some (.ref f))(hk:PySem.W.keepIn X.K (.ref f)=true)(hb:Binds X.K fd ps [])(ha:QA X (e::es) (cA M fa))(hdb:(y == ("__debug__":Str))=false:=by decide)(he:starEach (e::es) X.env=(false,eval e X.env)::starEach es X.env:=by rfl)(hpl:(backTo pos (starEach es X.env)).any (·.1)=false:=by rfl):QE X (.Call (.Name y p) (e::es) [] pos) (tCall (spD np fn) [] E0 (cA M fa)):=⟨L3.zlp F hr hg hm hk hb ha.un hdb he hpl⟩
end
section
variable [TheK]
variable {X:Cx}{rk:Kd}{io M M' Mb:List Nat}{x k:Nat}{st:Stmt}{e a b:Expr}{es:List Expr}{fe f1 f2 f3:DE}{fa:DA}{pos p p' pos':Pos}
theorem zj3(h:QE X e (cE .e M fe)):QE X e (cED M (dFl fe)):=⟨L3.zlo h.un⟩
end
section
variable [TheK]
variable {X:Cx}{rk:Kd}{io M M' Mb:List Nat}{x k:Nat}{st:Stmt}{e a b:Expr}{es:List Expr}{fe f1 f2 f3:DE}{fa:DA}{pos p p' pos':Pos}
theorem zkR(hK:X.K=TheK.K)(hc:X.calm=true)(hg:Gl X "list")(hm:X.mg "list"=none)(hg':Gl X "zip")(hm':X.mg "zip"=none)(ha:QA X [a,b] (cA M fa))(hs:starEach [a,b] X.env=(false,eval a X.env)::starEach [b] X.env:=by rfl)(hs2:(backTo pos' (starEach [b] X.env)).any (·.1)=false:=by rfl)(hs':starEach [.Call (.Name "zip" p') [a,b] [] pos'] X.env=[(false,eval (.Call (.Name "zip" p') [a,b] [] pos') X.env)]:=by rfl):QE X (.Call (.Name "list" p) [.Call (.Name "zip" p') [a,b] [] pos'] [] pos) (cED M (dLZs fa)):=⟨L3.zno hK hc hg hm hg' hm' ha.un hs hs2 hs'⟩
end
section
variable [TheK]
variable {X:Cx}{rk:Kd}{io M M' Mb:List Nat}{x k:Nat}{st:Stmt}{e a b:Expr}{es:List Expr}{fe f1 f2 f3:DE}{fa:DA}{pos p p' pos':Pos}
theorem zj2{x1}(h:QA X es (tCons (cE .e M f1) (tCons (cE .e M f2) (tCons (cED M f3) tNil)))):QE X (.Tuple es x1 pos) (cED M (dT3 f1 f2 f3)):=⟨L3.zln h.un⟩
end
section
variable [TheK]
variable {X:Cx}{rk:Kd}{io M M' Mb:List Nat}{x k:Nat}{st:Stmt}{e a b:Expr}{es:List Expr}{fe f1 f2 f3:DE}{fa:DA}{pos p p' pos':Pos}
theorem zhv(he:QE X e (cED M fe)):QS X (.Return (some e) pos) (cS .b [] M M' Mb (dRetI [] fe)):=⟨L3.zmj he.un⟩
end
section
variable [TheK]
variable {X:Cx}{rk:Kd}{io M M' Mb:List Nat}{x k:Nat}{st:Stmt}{e a b:Expr}{es:List Expr}{fe f1 f2 f3:DE}{fa:DA}{pos p p' pos':Pos}
theorem zkM{kk:Int}(hkk:kk=(k:Int))(h:QS X st (tDrop (tBM X.K "list" zcL (tOp (rIxT X.K) (tVar x) (tC (.int kk))) (tCons (cE .e M fe) tNil)))):QS X st (cD rk io M x (dApkD M x k fe)):=⟨L3.zml hkk h.un⟩
end
section
variable [TheK]
variable {X:Cx}{M:List Nat}{fa:DA}
theorem zmq{elts:List Expr}{x1:Nat}{tp:Pos}{a b:Expr}{p pos:Pos}(hK:X.K=TheK.K)(hg:Gl X "zip")(hm:X.mg "zip"=none)(ha:QA X [a,b] (cA M fa))(hs:starEach [a,b] X.env=(false,eval a X.env)::starEach [b] X.env:=by rfl)(hs2:(backTo pos (starEach [b] X.env)).any (·.1)=false:=by rfl):QI X (.Tuple elts x1 tp) (.Call (.Name "zip" p) [a,b] [] pos) (cI M (dZip fa)):=⟨L3.i_zip hK hg hm ha.un hs hs2⟩
end
section
variable [TheK]
variable {X:Cx}{M:List Nat}{a b:Expr}{fa fb:DE}{pos:Pos}
theorem zht(hu:X.A.units+8 < cLine)(ha:QE X a (cE .e M fa))(hb:QE X b (cE .b M fb))(hm:behindInMarks .NotIn b=false):QT X (.Compare a [.NotIn] [b] pos) (cT M (dB (d2 zcR fa fb))):=⟨L3.ziQ hu ha.un hb.un hm⟩
end
theorem QW.pt{X:Cx}{e:Expr}{t:TT}(h:QW X e t):QT X e t:=⟨h.un.pt⟩
def QBody(tk:TheK)(P:Program)(w:World)(mg:Str->Option Value)(base:Heap)(k:Nat)(x:Str)(st:Stmt)(N:List Str)(t:TS):Prop:=
 ∀ (f:Addr) (cdv:Value) (A:Around) (outer:List Env) (s:Shared) (H:Hp) (E:XK),Room k (A.deeper (envOfC x (za1 st) s.heap.objs.size f cdv))->QSs (cxOf CX0 P w tk.K mg base N x (za1 st) f cdv A outer s H E).nox (zaj st) t
theorem QBody.b{tk:TheK}{P:Program}{w:World}{mg:Str->Option Value}{base:Heap}{k:Nat}{x:Str}{st:Stmt}{N:List Str}{t:TS}(h:QBody tk P w mg base k x st N t):Body tk P w mg base k x st N t:=fun f cdv A outer s H E hr=>(h f cdv A outer s H E hr).un
section
variable [tk:TheK]{P:Program}{w:World}{mg:Str->Option Value}{base:Heap}{x:Str}{st:Stmt}{N ps:List Str}{k:Nat}{d:DS}{M' Mb:List Nat}
theorem Here.qP(h:Here tk.K mg x st ps)(S:FnScope N ps (za1 st))(hb:QBody tk P w mg base k x st N (cS .e [] [] M' Mb d))(hN:ps.length<=N.length:=by decide):Cal P w tk.K mg base (k+1) x ps (spP .e ps.length (fnP N.length d)):=h.okP S hb.b hN
theorem Here.qD(h:Here tk.K mg x st ps)(S:FnScope N ps (za1 st))(hb:QBody tk P w mg base k x st N (cS .b [] [] M' Mb d))(hN:ps.length<=N.length:=by decide):Cal P w tk.K mg base (k+1) x ps (spD ps.length (fnPn N.length d)):=h.okD S hb.b hN
theorem Here.qN(h:Here tk.K mg x st ps)(S:FnScope N ps (za1 st))(hb:QBody tk P w mg base k x st N (cS .n [] [] M' Mb d))(hN:ps.length<=N.length:=by decide):Cal P w tk.K mg base (k+1) x ps (spP .n ps.length (fnPn N.length d)):=h.okN S hb.b hN
theorem Here.qI(h:Here tk.K mg x st ps)(S:FnScope N ps (za1 st))(hb:QBody tk P w mg base k x st N (cS .e [0] [0] M' Mb d))(hN:ps.length<=N.length:=by decide):Cal P w tk.K mg base (k+1) x ps (spI .e ps.length (fnI N.length d)):=h.okI S hb.b hN
theorem law_q{ps0:Str}{fw:Addr}{dw:FuncData}(F:Fun tk.K x x st fw dw)(S:FnScope N [ps0] (za1 st))(hb:QBody tk P w mg base k x st N (cS .e [] [] M' Mb d))(hN:1<=N.length)(hd:∀ ns:List Int,ns.length<=63->fnP N.length d [.scr ns]=some (.bl true)):FnOk P w tk.K mg base CX0 (k+1) fw dw [ps0] (spLaw tk.K):=zn0 F S hb.b hN hd
end
end L3
namespace L3
open PySem PySem.Spec PyProof.Rows L2
theorem zfL{α:Type}(x:α):(some (some x):Option (Option α)).join=some x:=rfl
theorem zaK{n:Nat}(h:n<=1000000):n<=sizeLine:=by rw [sizeLine_eq]; lia
theorem zeg{n:Nat}(h:n<=1000000):n < sizeLine:=by rw [sizeLine_eq]; lia
theorem lc_le{n:Nat}(h:n<=1000000):n<=lcMax:=by rw [show lcMax=1000000 by unfold lcMax; rfl]; exact h
theorem zcJ{j:Int}(h0:-2000<=j)(h:j<=2000):rgOk j=true:=by
 unfold rgOk
 refine Nat.ble_eq_true_of_le ?_
 lia
theorem znD{α:Type}{xs:List α}{i:Nat}{x:α}(h:xs[i]?=some x):atI xs (i:Int)=some x:=by
 have h2:i < xs.length:=(List.getElem?_eq_some_iff.mp h).1
 unfold atI ixN
 rw [if_pos (by lia),if_pos (by lia),Option.bind_some,Int.toNat_natCast,h]
theorem zmY{M:List Nat}{caps:List (Option Nat)}{dg:DG}{ft:DT}{fe:DE}(I:Nat->List T->Sg->Prop):∀ (xs:List T) (i:Nat) (acc:List T) (s:Sg),I i acc s->
  (∀ j x acc s,xs[j]?=some x->I (i+j) acc s->∃ s1 b s2,dg x (capS caps s)=some s1/\ft s1=some (b,s2)/\if b=true then ∃ t s3,fe s2=some (t,s3)/\I (i+j+1) (acc++[t]) (zaq M caps s3 s) else I (i+j+1) acc (zaq M caps s2 s))->
  ∃ acc' s',lcGo M caps dg ft fe xs acc s=some (acc',s')/\I (i+xs.length) acc' s'
 | [],i,acc,s,h0,_=>⟨acc,s,by unfold lcGo; rfl,h0⟩
 | x::xs,i,acc,s,h0,h=>by
  obtain ⟨s1,b,s2,h1,h2,h3⟩:=h 0 x acc s rfl h0
  have next:∀ acc2 s4,I (i+0+1) acc2 s4->∃ acc' s',lcGo M caps dg ft fe xs acc2 s4=some (acc',s')/\I (i+(xs.length+1)) acc' s':=fun acc2 s4 q=>by
   have:=zmY (M:=M) (caps:=caps) (dg:=dg) (ft:=ft) (fe:=fe) I xs (i+1) acc2 s4 q fun j y acc s e q'=>by
    have z:=h (j+1) y acc s (by simpa using e)
    rw [show i+(j+1)=i+1+j by lia] at z
    exact z q'
   rw [show i+(xs.length+1)=i+1+xs.length by lia]
   exact this
  unfold lcGo
  rw [h1,Option.bind_some,h2,Option.bind_some]
  cases b with
  | true=>
   rw [if_pos rfl] at h3
   obtain ⟨t,s3,h4,h5⟩:=h3
   rw [if_pos rfl,h4,Option.bind_some]
   exact next _ _ h5
  | false=>
   rw [if_neg Bool.false_ne_true] at h3
   rw [if_neg Bool.false_ne_true]
   exact next _ _ h3
theorem zfO{g:DG}{db:DS}(I:Nat->Sg->Prop):∀ (xs:List T) (i:Nat) (s:Sg),I i s->(∀ j x s,xs[j]?=some x->I (i+j) s->∃ s1,g x s=some s1/\∃ s2,(db s1=some (.nx s2)∨db s1=some (.ct s2))/\I (i+j+1) s2)->
  ∃ s',loopF g db xs s=some (.nx s')/\I (i+xs.length) s'
 | [],i,s,h0,_=>⟨s,by unfold loopF; rfl,h0⟩
 | x::xs,i,s,h0,h=>by
  obtain ⟨s1,h1,s2,h2,h3⟩:=h 0 x s rfl h0
  obtain ⟨s',h4,h5⟩:=zfO I xs (i+1) s2 h3 fun j y s e q=>by
   have z:=h (j+1) y s (by simpa using e)
   rw [show i+(j+1)=i+1+j by lia] at z
   exact z q
  refine ⟨s',?_,by rw [List.length_cons,show i+(xs.length+1)=i+1+xs.length by lia]; exact h5⟩
  unfold loopF
  rw [h1,Option.bind_some]
  rcases h2 with h2 | h2<;>rw [h2,Option.bind_some]<;>exact h4
theorem zfh(n:Nat)(x y:T):eqD (n+1) x y=eqS n x y:=by cases x<;>cases y<;>rfl
theorem zit{n:Nat}{x y:T}{b:Bool}(h:scE x y=some b):eqD n x y=some b:=by
 cases n with
 | zero=>unfold eqD; exact h
 | succ n=>rw [zfh]; unfold eqS; cases x<;>cases y<;>simp [scE] at h<;>simpa [scE] using h
theorem zdH(n:Nat)(i j:Int):eqD n (.int i) (.int j)=some (i == j):=zit rfl
theorem zke(n:Nat)(i j:Bool):eqD n (.bl i) (.bl j)=some (i == j):=zit rfl
theorem zfR(n:Nat)(i j:Str):eqD n (.str i) (.str j)=some (i == j):=zit rfl
theorem zgM{α:Type}[DecidableEq α]{f:T->T->Option Bool}{enc:α->T}(h:∀ a b,f (enc a) (enc b)=some (decide (a=b))):∀ (xs ys:List α),xs.length=ys.length->allE f (xs.map enc) (ys.map enc)=some (decide (xs=ys))
 | [],[],_=>rfl
 | [],_::_,hl=>by simp at hl
 | _::_,[],hl=>by simp at hl
 | x::xs,y::ys,hl=>by
  rw [List.map_cons,List.map_cons]
  unfold allE
  rw [h,Option.bind_some,zgM h xs ys (by simpa using hl),Option.map_some]
  refine congrArg some ?_
  by_cases h1:x=y<;>by_cases h2:xs=ys<;>simp [h1,h2]
theorem ziu{α:Type}[DecidableEq α]{n:Nat}{enc:α->T}(h:∀ a b,eqD n (enc a) (enc b)=some (decide (a=b)))(xs ys:List α):eqD (n+1) (.lst (xs.map enc)) (.lst (ys.map enc))=some (decide (xs=ys)):=by
 rw [zfh]
 unfold eqS
 dsimp only
 rw [List.length_map,List.length_map]
 by_cases hl:xs.length=ys.length
 ·rw [if_pos hl,zgM h xs ys hl]
 ·rw [if_neg hl,decide_eq_false (fun z=>hl (by rw [z]))]
theorem zgC{n:Nat}(xs ys:List Str):eqD (n+1) (.lst (xs.map T.str)) (.lst (ys.map T.str))=some (decide (xs=ys)):=ziu (fun a b=>by rw [zfR]; refine congrArg some ?_; by_cases h:a=b<;>simp [h]) xs ys
theorem zck(xs:List Str):toVs (xs.map T.str)=some (xs.map V.str):=by
 induction xs with
 | nil=>rfl
 | cons x xs ih=>rw [List.map_cons]; unfold toVs; rw [ih]; rfl
theorem zgv(x:Str)(xs:List Str):inV (.str x) (xs.map V.str)=decide (x∈xs):=by
 unfold inV
 rw [List.any_map,Bool.eq_iff_iff,List.any_eq_true,decide_eq_true_iff]
 constructor
 ·rintro ⟨y,hy,e⟩
  have:y=x:=by simpa [eqV] using e
  exact this▸hy
 ·intro h
  exact ⟨x,h,by simp [eqV]⟩
theorem zg0(x:Str)(xs:List Str):(xs.map V.str).countP (fun u=>eqV u (.str x))=xs.count x:=by
 rw [List.countP_map,List.count_eq_countP]
 refine List.countP_congr fun y hy=>?_
 simp [eqV]
end L3
namespace L3
open PySem PySem.Spec PyProof.Rows L2
theorem zgd{f g:DS}{s s':Sg}{r:Option Fl}(h:f s=some (.nx s'))(k:g s'=r):dSeq f g s=r:=by
 unfold dSeq
 rw [h,Option.bind_some]
 exact k
theorem zgb{f g:DS}{s s':Sg}{t:T}(h:f s=some (.rt t s')):dSeq f g s=some (.rt t s'):=by
 unfold dSeq
 rw [h]
 rfl
theorem zgA{n:Nat}{d:DS}{ts:List T}{t:T}{s:Sg}(h:d (zax n ts)=some (.rt t s)):fnP n d ts=some t:=by unfold fnP; rw [h]
theorem zik{n:Nat}{d:DS}{ts:List T}{t:T}{s:Sg}(h:d (zax n ts)=some (.rt t s)):fnPn n d ts=some t:=by unfold fnPn; rw [h]
theorem zih{fi:DI}{g:DG}{db:DS}{s s1 s2:Sg}{its:List T}(h:fi s=some (its,s1))(k:loopF g db its s1=some (.nx s2)):dFor fi g db s=some (.nx s2):=by unfold dFor; rw [h,Option.bind_some]; exact k
theorem zeR{lo:Int}{n j:Nat}{x:T}(h:(zaH lo n)[j]?=some x):j < n/\x=.int (lo+j):=by
 unfold zaH at h
 rw [List.getElem?_map] at h
 obtain ⟨i,h1,h2⟩:=Qm h
 have hj:j < n:=by simpa using (List.getElem?_eq_some_iff.mp h1).1
 rw [List.getElem?_range hj] at h1
 injection h1 with h1
 subst h1
 exact ⟨hj,h2.symm⟩
theorem zeQ(lo:Int)(n:Nat):(zaH lo n).length=n:=by unfold zaH; simp
theorem zex{α:Type}(xs:List α){t:Int}(h0:0<=t)(h:t<=xs.length):cutT xs none (some t)=xs.take t.toNat:=by
 unfold cutT HT.sIx
 simp only [List.drop_zero,Nat.sub_zero]
 split
 ·lia
 ·rw [Nat.min_eq_left (by lia)]
theorem zdI{α:Type}(xs:List α){t:Int}(h0:0<=t)(h:t<=xs.length):cutT xs (some t) none=xs.drop t.toNat:=by
 unfold cutT HT.sIx
 dsimp only
 split
 ·lia
 ·rw [Nat.min_eq_left (by lia),List.take_of_length_le (by rw [List.length_drop]; lia)]
end L3
namespace L3
open PySem PySem.Spec PyProof.Rows L2
def Run(d:DS)(s:Sg)(Q:Fl->Prop):Prop:=∃ r,d s=some r/\Q r
def Onto(P:Sg->Prop):Fl->Prop
 | .nx s=>P s
 | .ct s=>P s
 | _=>False
theorem zby{d:DS}{s:Sg}{Q:Fl->Prop}{r:Fl}(h:d s=some r)(k:Q r):Run d s Q:=⟨r,h,k⟩
theorem zfB{f g:DS}{s s':Sg}{Q:Fl->Prop}(h:f s=some (.nx s'))(k:Run g s' Q):Run (dSeq f g) s Q:=by
 obtain ⟨r,h1,h2⟩:=k
 exact ⟨r,zgd h h1,h2⟩
theorem zcI{fi:DI}{g:DG}{db d:DS}{s s1:Sg}{its:List T}{Q:Fl->Prop}(I:Nat->Sg->Prop)(h:fi s=some (its,s1))(h0:I 0 s1)
  (hs:∀ j x s,its[j]?=some x->I j s->∃ s1,g x s=some s1/\Run db s1 (Onto (I (j+1)))) (k:∀ s',I its.length s'->Run d s' Q):Run (dSeq (dFor fi g db) d) s Q:=by
 obtain ⟨s',h1,h2⟩:=zfO (g:=g) (db:=db) I its 0 s1 h0 fun j x s e q=>by
  rw [Nat.zero_add] at q ⊢
  obtain ⟨s1,h1,r,h2,h3⟩:=hs j x s e q
  refine ⟨s1,h1,?_⟩
  cases r with
  | nx s2=>exact ⟨s2,.inl h2,h3⟩
  | ct s2=>exact ⟨s2,.inr h2,h3⟩
  | bk s2=>exact h3.elim
  | rt t s2=>exact h3.elim
 rw [Nat.zero_add] at h2
 exact zfB (zih h h1) (k s' h2)
theorem zeO{fi:DI}{g:DG}{db:DS}{s s1:Sg}{its:List T}{Q:Fl->Prop}(I:Nat->Sg->Prop)(h:fi s=some (its,s1))(h0:I 0 s1)
  (hs:∀ j x s,its[j]?=some x->I j s->∃ s1,g x s=some s1/\Run db s1 (Onto (I (j+1)))) (k:∀ s',I its.length s'->Q (.nx s')):Run (dFor fi g db) s Q:=by
 obtain ⟨s',h1,h2⟩:=zfO (g:=g) (db:=db) I its 0 s1 h0 fun j x s e q=>by
  rw [Nat.zero_add] at q ⊢
  obtain ⟨s1,h1,r,h2,h3⟩:=hs j x s e q
  refine ⟨s1,h1,?_⟩
  cases r with
  | nx s2=>exact ⟨s2,.inl h2,h3⟩
  | ct s2=>exact ⟨s2,.inr h2,h3⟩
  | bk s2=>exact h3.elim
  | rt t s2=>exact h3.elim
 rw [Nat.zero_add] at h2
 exact ⟨_,zih h h1,k s' h2⟩
theorem zfP{n:Nat}{d:DS}{ts:List T}{Q:T->Prop}(h:Run d (zax n ts) fun r=>∃ t s,r=.rt t s/\Q t):∃ t,fnP n d ts=some t/\Q t:=by
 obtain ⟨r,h1,t,s,rfl,h2⟩:=h
 exact ⟨t,zgA h1,h2⟩
end L3
namespace L3
open PySem PySem.Spec PyProof.Rows L2
theorem vdV(i:Nat)(s:Sg):dV i s=(s[i]?).join.map fun t=>(t,s):=rfl
theorem vdC(t:T)(s:Sg):dC t s=some (t,s):=rfl
theorem vd2(g:T->T->Option T)(fa fb:DE)(s:Sg):d2 g fa fb s=(fa s).bind fun p=>(fb p.2).bind fun q=>(g p.1 q.1).map fun t=>(t,q.2):=rfl
theorem vd2v(g:T->T->Option T)(i:Nat)(fb:DE)(s:Sg):d2v g i fb s=(s[i]?).join.bind fun _=>(fb s).bind fun q=>(q.2[i]?).join.bind fun x=>(g x q.1).map fun t=>(t,q.2):=rfl
theorem vdB(f:DE)(s:Sg):dB f s=(f s).bind fun p=>match p.1 with
 | .bl b=>some (b,p.2)
 | _=>none:=rfl
theorem vdTru(f:DE)(s:Sg):dTru f s=(f s).bind fun p=>(tru p.1).map fun b=>(b,p.2):=rfl
theorem vdAnd(f g:DT)(s:Sg):dAnd f g s=(f s).bind fun p=>if p.1 then g p.2 else some (false,p.2):=rfl
theorem vdOr(f g:DT)(s:Sg):dOr f g s=(f s).bind fun p=>if p.1 then some (true,p.2) else g p.2:=rfl
theorem vdNot(f:DT)(s:Sg):dNot f s=(f s).map fun p=>(!p.1,p.2):=rfl
theorem zlY(f g:DE)(s:Sg):dAndV f g s=(dB f s).bind fun p=>if p.1 then g p.2 else some (.bl false,p.2):=rfl
theorem vdOrV(f g:DE)(s:Sg):dOrV f g s=(dB f s).bind fun p=>if p.1 then some (.bl true,p.2) else g p.2:=rfl
theorem zlQ(f:DE)(s:Sg):dNotV f s=(dB f s).map fun p=>(.bl (!p.1),p.2):=rfl
theorem vdIf(c:DT)(f g:DE)(s:Sg):dIf c f g s=(c s).bind fun p=>if p.1 then f p.2 else g p.2:=rfl
theorem vdAn(s:Sg):dAn  s=some ([],s):=rfl
theorem vdAc(f:DE)(g:DA)(s:Sg):dAc f g s=(f s).bind fun p=>(g p.2).map fun q=>(p.1::q.1,q.2):=rfl
theorem vdLst(f:DA)(s:Sg):dLst f s=(f s).bind fun p=>if p.1.length<=sizeLine then some (.lst p.1,p.2) else none:=rfl
theorem vdTup(f:DA)(s:Sg):dTup f s=(f s).bind fun p=>if p.1.length<=sizeLine then some (.tup p.1,p.2) else none:=rfl
theorem zlV(s:Sg):dDict  s=some (.dct [],s):=rfl
theorem vdOn(s:Sg):dOn  s=some (none,s):=rfl
theorem vdOs(f:DE)(s:Sg):dOs f s=(f s).bind fun p=>match p.1 with
 | .int i=>some (some i,p.2)
 | _=>none:=rfl
theorem vdSl(g:T->Option Int->Option Int->Option T)(f:DE)(l h:DO)(s:Sg):dSl g f l h s=(f s).bind fun p=>(l p.2).bind fun q=>(h q.2).bind fun r=>(g p.1 q.1 r.1).map fun t=>(t,r.2):=rfl
theorem vdSlV(g:T->Option Int->Option Int->Option T)(i:Nat)(l h:DO)(s:Sg):dSlV g i l h s=(s[i]?).join.bind fun _=>(l s).bind fun q=>(h q.2).bind fun r=>(r.2[i]?).join.bind fun x=>(g x q.1 r.1).map fun t=>(t,r.2):=rfl
theorem vdSeq(f g:DS)(s:Sg):dSeq f g s=(f s).bind fun r=>match r with
 | .nx s'=>g s'
 | r=>some r:=rfl
theorem zlR(s:Sg):dNext  s=some (.nx s):=rfl
theorem vdSet(i:Nat)(f:DE)(s:Sg):dSet i f s=(f s).bind fun p=>if i < p.2.length then some (.nx (p.2.set i (some p.1))) else none:=rfl
theorem vdIfS(c:DT)(f g:DS)(s:Sg):dIfS c f g s=(c s).bind fun p=>if p.1 then f p.2 else g p.2:=rfl
theorem vdDo(f:DE)(s:Sg):dDo f s=(f s).map fun p=>.nx p.2:=rfl
theorem vdBrk(s:Sg):dBrk  s=some (.bk s):=rfl
theorem vdCnt(s:Sg):dCnt  s=some (.ct s):=rfl
theorem zlP(io:List Nat)(f:DE)(s:Sg):dRetI io f s=(f s).bind fun p=>if hasAll io p.2 then some (.rt p.1 p.2) else none:=rfl
theorem vdMut(g:T->List T->Option (T × T))(i:Nat)(fa:DA)(s:Sg):dMut g i fa s=(s[i]?).join.bind fun t0=>if isLst t0 then (fa s).bind fun p=>(p.2[i]?).join.bind fun t=>(g t p.1).map fun q=>(q.2,p.2.set i (some q.1)) else none:=rfl
theorem vdPut(i:Nat)(fk fv:DE)(s:Sg):dPut i fk fv s=(fv s).bind fun p=>(p.2[i]?).join.bind fun _=>(fk p.2).bind fun q=>(q.2[i]?).join.bind fun t=>match t with
 | .dct kvs=>(keyT q.1).bind fun k=>if kvs.length < sizeLine then some (.nx (q.2.set i (some (.dct (putT kvs k p.1))))) else none
 | _=>none:=rfl
theorem zlM(i:Nat)(fk fv:DE)(s:Sg):dSetI i fk fv s=(fv s).bind fun p=>(p.2[i]?).join.bind fun _=>(fk p.2).bind fun q=>(q.2[i]?).join.bind fun t=>match t,q.1 with
 | .lst xs,.int k=>(ixN xs.length k).map fun j=>.nx (q.2.set i (some (.lst (xs.set j p.1))))
 | _,_=>none:=rfl
theorem vdAug(i:Nat)(f:DE)(s:Sg):dAug i f s=(s[i]?).join.bind fun x=>(f s).bind fun p=>match x,p.1 with
 | .int a,.int b=>some (.nx (p.2.set i (some (.int (a+b)))))
 | _,_=>none:=rfl
theorem vdUn(is:List Nat)(f:DE)(s:Sg):dUn is f s=(f s).bind fun p=>(zi9 p.1).bind fun ts=>(zbb is ts p.2).map .nx:=rfl
theorem vdRg1(f:DA)(s:Sg):dRg1 f s=(f s).bind fun p=>match p.1 with
 | [.int j]=>if rgOk j=true then some (zaH 0 j.toNat,p.2) else none
 | _=>none:=rfl
theorem vdRg2(f:DA)(s:Sg):dRg2 f s=(f s).bind fun p=>match p.1 with
 | [.int i,.int j]=>if rgOk i=true/\rgOk j=true then some (zaH i (j - i).toNat,p.2) else none
 | _=>none:=rfl
theorem vdEn(f:DA)(s:Sg):dEn f s=(f s).bind fun p=>match p.1 with
 | [.lst xs]=>some (enumT xs,p.2)
 | _=>none:=rfl
theorem vdGn(i:Nat)(t:T)(s:Sg):dGn i t s=if i < s.length then some (s.set i (some t)) else none:=rfl
theorem vdGt(is:List Nat)(t:T)(s:Sg):dGt is t s=match t with
 | .tup ts=>zbb is ts s
 | _=>none:=rfl
theorem zlX(fn:List T->Option T)(fa:DA)(s:Sg):dCall fn fa s=(fa s).bind fun p=>(fn p.1).map fun t=>(t,p.2):=rfl
theorem zkm(fn:List T->Option (T × T))(i:Nat)(fa:DA)(s:Sg):zfi fn i fa s=(s[i]?).join.bind fun _=>(fa s).bind fun p=>(p.2[i]?).join.bind fun t0=>(fn (t0::p.1)).map fun q=>(q.1,p.2.set i (some q.2)):=rfl
theorem zkl(fn:List T->Option (T × T))(f0:DE)(fa:DA)(s:Sg):znv fn f0 fa s=(f0 s).bind fun p=>(fa p.2).bind fun q=>(fn (p.1::q.1)).map fun r=>(r.1,q.2):=rfl
theorem vd1(g:T->Option T)(f:DE)(s:Sg):d1 g f s=(f s).bind fun p=>(g p.1).map fun t=>(t,p.2):=rfl
theorem vdA2(g:Int->Int->Int)(fa:DA)(s:Sg):dA2 g fa s=(fa s).bind fun p=>match p.1 with
 | [.int i,.int j]=>some (.int (g i j),p.2)
 | _=>none:=rfl
theorem zlT(f:DE)(g:DE)(s:Sg):dJoin f g s=(f s).bind fun p=>match p.1 with
 | .str z=>(g p.2).bind fun q=>(gJoin z q.1).map fun t=>(t,q.2)
 | _=>none:=rfl
theorem vd2L(g:T->T->Option T)(fa fb:DE)(s:Sg):d2L g fa fb s=(fa s).bind fun p=>if isLst p.1 then (fb p.2).bind fun q=>(g p.1 q.1).map fun t=>(t,q.2) else none:=rfl
theorem vdItA(f:DE)(s:Sg):dItA f s=(f s).bind fun p=>match p.1 with
 | .lst xs=>some (xs,p.2)
 | .scr ns=>some (ns.map .int,p.2)
 | .tup xs=>some (xs,p.2)
 | .fd kvs=>some (kvs.map fun kv=>kT kv.1,p.2)
 | .str x=>some (x.cps.toList.map signT,p.2)
 | _=>none:=rfl
theorem vdItF(f:DE)(s:Sg):dItF f s=(f s).bind fun p=>match p.1 with
 | .fd kvs=>some (kvs.map fun kv=>kT kv.1,p.2)
 | _=>none:=rfl
theorem vdItS(f:DE)(s:Sg):dItS f s=(f s).bind fun p=>match p.1 with
 | .str x=>some (x.cps.toList.map signT,p.2)
 | _=>none:=rfl
theorem vdCh(g g':T->T->Option T)(fa fb fc:DE)(s:Sg):dCh g g' fa fb fc s=(fa s).bind fun x=>(fb x.2).bind fun y=>(g x.1 y.1).bind fun r=>match r with
 | .bl true=>(fc y.2).bind fun z=>(g' y.1 z.1).map fun t=>(t,z.2)
 | .bl false=>some (.bl false,y.2)
 | _=>none:=rfl
theorem vdRev(f:DE)(k:DO)(s:Sg):dRev f k s=(f s).bind fun p=>(k p.2).bind fun q=>if q.1=some (-1) then (gRev p.1).map fun t=>(t,q.2) else none:=rfl
theorem vdLR(f:DA)(s:Sg):dLR f s=(f s).bind fun p=>match p.1 with
 | [.int j]=>if rgOk j=true then some (.lst (zaH 0 j.toNat),p.2) else none
 | _=>none:=rfl
theorem vdItV(i:Nat)(s:Sg):dItV i s=match (s[i]?).join with
 | some (.lst xs)=>some (xs,s)
 | _=>none:=rfl
theorem vd2LV(g:T->T->Option T)(i:Nat)(fb:DE)(s:Sg):d2LV g i fb s=(s[i]?).join.bind fun t0=>if isLst t0 then (fb s).bind fun q=>(q.2[i]?).join.bind fun x=>(g x q.1).map fun t=>(t,q.2) else none:=rfl
theorem vdFzS(i:Nat)(d:DS)(s:Sg):dFzS i d s=match (s[i]?).join with
 | some (.dct kvs)=>d (s.set i (some (.fd kvs)))
 | _=>none:=rfl
theorem vdItW(f:DE)(s:Sg):dItW f s=(f s).bind fun p=>match p.1 with
 | .fd kvs=>some (kvs.map fun kv=>kv.2,p.2)
 | _=>none:=rfl
theorem zlU(i:Nat)(fk fx:DE)(s:Sg):dGetV i fk fx s=match (s[i]?).join with
 | some (.dct _)=>(fk s).bind fun q=>(keyT q.1).bind fun k=>(fx q.2).bind fun r=>match (r.2[i]?).join with
  | some (.dct kvs)=>some ((lookT kvs k).getD r.1,r.2)
  | _=>none
 | _=>none:=rfl
theorem zkj(fa fb:DE)(s:Sg):znt fa fb s=(fa s).bind fun p=>match p.1 with
 | .str z=>(fb p.2).bind fun q=>(zka (.str z) q.1).map fun t=>(t,q.2)
 | _=>none:=rfl
theorem zkn(fn:List T->Option T)(i:Nat)(fa:DA)(s:Sg):zfj fn i fa s=(s[i]?).join.bind fun _=>(fa s).bind fun p=>(p.2[i]?).join.bind fun t0=>(fn (t0::p.1)).bind fun t=>if flatT t=true then some (t,p.2) else none:=rfl
theorem vdItR(f:DE)(s:Sg):dItR f s=(f s).bind fun p=>match p.1 with
 | .lst xs=>some (xs.reverse,p.2)
 | _=>none:=rfl
theorem vdRg3(f:DA)(s:Sg):dRg3 f s=(f s).bind fun p=>match p.1 with
 | [.int i,.int j,.int c]=>if rg3 i j c=true then some (stepT 2 2 ((j.toNat - 1) / 2),p.2) else none
 | _=>none:=rfl
theorem vdPar(i j:Nat)(fa:DA)(s:Sg):dPar i j fa s=(fa s).bind fun p=>match p.1 with
 | [t,u]=>if i < p.2.length/\j < p.2.length then some (.nx ((p.2.set i (some t)).set j (some u))) else none
 | _=>none:=rfl
theorem zlN(s:Sg):dSet0  s=some (.set (fun _=>false) 0,s):=rfl
theorem zlO(i:Nat)(fe:DE)(s:Sg):dSAdd i fe s=(s[i]?).join.bind fun t0=>match t0 with
 | .set _ _=>(fe s).bind fun p=>(p.2[i]?).join.bind fun t1=>match p.1,t1 with
  | .int k,.set S n=>if n < 1000 then some (.non,p.2.set i (some (.set (fun j=>S j||decide (j=k)) (if S k then n else n+1)))) else none
  | _,_=>none
 | _=>none:=rfl
theorem ziO(fn:List T->Option T)(i:Nat)(f0:DE)(fa:DA)(s:Sg):zcT fn i f0 fa s=(f0 s).bind fun p=>(p.2[i]?).join.bind fun _=>(fa p.2).bind fun q=>(q.2[i]?).join.bind fun t0=>(fn (p.1::t0::q.1)).bind fun t=>if flatT t=true then some (t,q.2) else none:=rfl
theorem vdLC2(caps:List (Option Nat))(fi:DI)(dg1:DG)(fi2:DI)(dg2:DG)(fe:DE)(s:Sg):dLC2 caps fi dg1 fi2 dg2 fe s=(fi s).bind fun p=>(lc2Go caps dg1 dg2 fi2 fe p.1 [] p.2).map fun l=>(.lst l,p.2):=rfl
theorem vdLZ(f:DA)(s:Sg):dLZ f s=(f s).bind fun p=>(gLZ p.1).map fun t=>(t,p.2):=rfl
theorem vdRgZ(f:DA)(s:Sg):dRgZ f s=(f s).bind fun p=>match p.1 with
 | [.int i,.int j,.int c]=>if rgZ i j c=true then some (stepT 0 2 6,p.2) else none
 | _=>none:=rfl
theorem vdEnK(f:DA)(s:Sg):dEnK f s=(f s).bind fun p=>match p.1 with
 | [.fd kvs]=>some (enumK kvs,p.2)
 | _=>none:=rfl
theorem zlL(f:DA)(s:Sg):dZipK f s=(f s).bind fun p=>match p.1 with
 | [.lst xs,.fd kvs]=>some (zipT xs (kvs.map fun kv=>kT kv.1),p.2)
 | _=>none:=rfl
theorem ziN(fn:List T->Option T)(i:Nat)(fa:DA)(s:Sg):zlx fn i fa s=(s[i]?).join.bind fun _=>(fa s).bind fun p=>(p.2[i]?).join.bind fun t0=>(fn (t0::p.1)).bind fun t=>if flatL t=true then some (t,p.2) else none:=rfl
theorem vdRtD(d:DS)(s:Sg):dRtD d s=match d s with
 | some (.rt t s')=>some (.rt t s')
 | _=>none:=rfl
theorem zlS(x k:Nat)(g:List T->List T)(s:Sg):dMutD x k g s=match (s[x]?).join with
 | some (.tup ts)=>match ts[k]? with
  | some (.lst us)=>if ziq k ts=true/\us.all flatT=true/\us.length < 100000 then some (.nx (s.set x (some (.tup (ts.set k (.lst (g us))))))) else none
  | _=>none
 | _=>none:=rfl
theorem zlW(fn:List T->Option (T × T))(i x:Nat)(d:DS)(s:Sg):dDeep fn i x d s=(s[i]?).join.bind fun t0=>if flatL t0=true/\x < s.length then (fn [t0]).bind fun q=>if flatL q.2=true then (d ((s.set i (some q.2)).set x (some q.1))).bind (unD x) else none else none:=rfl
theorem zkk(fn:List T->Option T)(fa:DA)(x:Nat)(d:DS)(s:Sg):zea fn fa x d s=(fa s).bind fun p=>(fn p.1).bind fun t=>if x < p.2.length then (d (p.2.set x (some t))).bind (unD x) else none:=rfl
theorem vdFl(fe:DE)(s:Sg):dFl fe s=(fe s).bind fun p=>if flatT p.1=true then some p else none:=rfl
theorem vdLZs(f:DA)(s:Sg):dLZs f s=(f s).bind fun p=>(gLZs p.1).map fun t=>(t,p.2):=rfl
theorem vdT3(fa fb fc:DE)(s:Sg):dT3 fa fb fc s=(fa s).bind fun p=>(fb p.2).bind fun q=>(fc q.2).bind fun r=>if flatT p.1=true/\flatT q.1=true then some (.tup [p.1,q.1,r.1],r.2) else none:=rfl
theorem vdZip(f:DA)(s:Sg):dZip f s=(f s).bind fun p=>match p.1 with
 | [.lst xs,.lst ys]=>some (zipT xs ys,p.2)
 | _=>none:=rfl
theorem vdIsi(c:String)(f:DE)(s:Sg):dIsi c f s=(f s).bind fun p=>((isi c p.1).map T.bl).map fun t=>(t,p.2):=rfl
theorem vdYes(s:Sg):dYes s=some (true,s):=rfl
def nT(k:Nat):T:=.int (k:Int)
theorem vnT(k:Nat):nT k=.int (k:Int):=rfl
theorem zm1(i j:Int):gPlus (.int i) (.int j)=some (.int (i+j)):=rfl
theorem zm0{a b:List T}(h:a.length+b.length<=1000000):gPlus (.lst a) (.lst b)=some (.lst (a++b)):=by
 have q:a.length+b.length<=sizeLine:=zaK h
 simp only [gPlus,orG,gAdd,gCat,q,if_true]
theorem vCatL{a b:List T}(h:a.length+b.length<=1000000):gCat (.lst a) (.lst b)=some (.lst (a++b)):=by
 have q:a.length+b.length<=sizeLine:=zaK h
 simp only [gCat,q,if_true]
theorem zlZ{a b:Str}(h:a.length+b.length<=1000000):gPlus (.str a) (.str b)=some (.str (a++b)):=by
 have q:a.length+b.length<=sizeLine:=zaK h
 simp only [gPlus,orG,gAdd,q,if_true]
theorem vSb(i j:Int):gSb (.int i) (.int j)=some (.int (i - j)):=rfl
theorem vMul{i j:Int}(h:-1000000000000<=i/\i<=1000000000000∨-1000000000000<=j/\j<=1000000000000):gMul (.int i) (.int j)=some (.int (i*j)):=by
 have:bMul i j=true:=by unfold bMul; rw [Bool.or_eq_true,decide_eq_true_iff,decide_eq_true_iff]; lia
 simp only [gMul,gI,this,if_true]
theorem vDiv{i j:Int}(h:0 < j/\j<=1000000000):gDiv (.int i) (.int j)=some (.int (i / j)):=by
 have:bDiv i j=true:=decide_eq_true (by lia)
 simp only [gDiv,gI,this,if_true]
theorem vMod{i j:Int}(h:0 < j):gMod (.int i) (.int j)=some (.int (i%j)):=by
 have:bMod i j=true:=decide_eq_true h
 simp only [gMod,gI,this,if_true]
theorem vNeg(i:Int):gNeg (.int i)=some (.int (-i)):=rfl
theorem vLt(i j:Int):gLt (.int i) (.int j)=some (.bl (decide (i < j))):=rfl
theorem vLe(i j:Int):gLe (.int i) (.int j)=some (.bl (decide (i<=j))):=rfl
theorem vGt(i j:Int):gGt (.int i) (.int j)=some (.bl (decide (j < i))):=rfl
theorem vGe(i j:Int):gGe (.int i) (.int j)=some (.bl (decide (j<=i))):=rfl
theorem vEqI(i j:Int):gEq (.int i) (.int j)=some (.bl (decide (i=j))):=by simp only [gEq,zdH,Option.map_some]; rfl
theorem vNeI(i j:Int):gNe (.int i) (.int j)=some (.bl (!decide (i=j))):=by simp only [gNe,zdH,Option.map_some]; rfl
theorem vEqB(i j:Bool):gEq (.bl i) (.bl j)=some (.bl (i == j)):=by simp only [gEq,zke,Option.map_some]
theorem vNeB(i j:Bool):gNe (.bl i) (.bl j)=some (.bl (!(i == j))):=by simp only [gNe,zke,Option.map_some]
theorem vEqS(i j:Str):gEq (.str i) (.str j)=some (.bl (decide (i=j))):=by
 simp only [gEq,zfR,Option.map_some]
 by_cases h:i=j<;>simp [h]
theorem vNeS(i j:Str):gNe (.str i) (.str j)=some (.bl (!decide (i=j))):=by
 simp only [gNe,zfR,Option.map_some]
 by_cases h:i=j<;>simp [h]
theorem vEqSs(xs ys:List Str):gEq (.lst (xs.map T.str)) (.lst (ys.map T.str))=some (.bl (decide (xs=ys))):=by simp only [gEq,zgC,Option.map_some]
theorem vNeSs(xs ys:List Str):gNe (.lst (xs.map T.str)) (.lst (ys.map T.str))=some (.bl (!decide (xs=ys))):=by simp only [gNe,zgC,Option.map_some]
theorem zgD{n:Nat}(xs ys:List Nat):eqD (n+1) (.lst (xs.map nT)) (.lst (ys.map nT))=some (decide (xs=ys)):=ziu (fun a b=>by
 rw [vnT,vnT,zdH]; refine congrArg some ?_
 by_cases h:a=b
 ·subst h; simp
 ·rw [decide_eq_false h]; simp; lia) xs ys
theorem vEqNs(xs ys:List Nat):gEq (.lst (xs.map nT)) (.lst (ys.map nT))=some (.bl (decide (xs=ys))):=by simp only [gEq,zgD,Option.map_some]
theorem vNeNs(xs ys:List Nat):gNe (.lst (xs.map nT)) (.lst (ys.map nT))=some (.bl (!decide (xs=ys))):=by simp only [gNe,zgD,Option.map_some]
theorem vLenL(xs:List T):gLen (.lst xs)=some (.int xs.length):=rfl
theorem vLenT(xs:List T):gLen (.tup xs)=some (.int xs.length):=rfl
theorem vLenD(xs:List (Key × T)):gLen (.dct xs)=some (.int xs.length):=rfl
theorem vLenR(xs:List Int):gLen (.scr xs)=some (.int xs.length):=rfl
theorem vLenS{x:Str}(h:x.length<=1000000):gLen (.str x)=some (.int x.length):=by
 have q:x.length<=sizeLine:=zaK h
 simp only [gLen,q,if_true]
theorem zgL{α:Type}(xs:List α)(k:Nat):atI xs (k:Int)=xs[k]?:=by
 unfold atI ixN
 rw [if_pos (by lia)]
 split
 ·simp
 ·rename_i h
  rw [Option.bind_none,eq_comm,List.getElem?_eq_none_iff]; lia
theorem zcX(xs:List T)(k:Nat):gItem (.lst xs) (.int (k:Int))=xs[k]?:=by
 have:gItem (.lst xs) (.int (k:Int))=orG gIx gDIx (.lst xs) (.int (k:Int)):=rfl
 rw [this]; unfold orG
 have e:gIx (.lst xs) (.int (k:Int))=xs[k]?:=by show atI xs (k:Int)=_; exact zgL xs k
 rw [e]
 cases xs[k]?<;>rfl
theorem zm4(xs:List T)(k:Nat):gItem (.tup xs) (.int (k:Int))=xs[k]?:=by
 have:gItem (.tup xs) (.int (k:Int))=orG gIx gDIx (.tup xs) (.int (k:Int)):=rfl
 rw [this]; unfold orG
 have e:gIx (.tup xs) (.int (k:Int))=xs[k]?:=by show atI xs (k:Int)=_; exact zgL xs k
 rw [e]
 cases xs[k]?<;>rfl
theorem zks(kvs:List (Key × T))(x:Str):gItem (.dct kvs) (.str x)=lookT kvs (.inr x):=by
 show (match (none:Option T) with | some t=>some t | none=>_)=_
 rfl
theorem zkt(kvs:List (Key × T))(x:Int):gItem (.dct kvs) (.int x)=lookT kvs (.inl x):=rfl
theorem vTruB(b:Bool):tru (.bl b)=some b:=rfl
theorem vTruL(xs:List T):tru (.lst xs)=some (!xs.isEmpty):=rfl
theorem vTruI(i:Int):tru (.int i)=some (i != 0):=rfl
theorem zm3(xs:List T):zcw (.lst xs)=some (.lst xs):=rfl
theorem zm2(xs:List T):zcw (.tup xs)=some (.lst xs):=rfl
theorem vAppS{xs:List Str}(x:Str)(h:xs.length<=1000000):mApp (.lst (xs.map T.str)) [.str x]=some (.lst ((xs++[x]).map T.str),.non):=by
 have q:(xs.map T.str).length < sizeLine:=zeg (by rw [List.length_map]; exact h)
 simp only [mApp,q,if_true,List.map_append,List.map_cons,List.map_nil]
theorem vAppN{xs:List Nat}(x:Nat)(h:xs.length<=1000000):mApp (.lst (xs.map nT)) [.int (x:Int)]=some (.lst ((xs++[x]).map nT),.non):=by
 have q:(xs.map nT).length < sizeLine:=zeg (by rw [List.length_map]; exact h)
 simp only [mApp,q,if_true,List.map_append,List.map_cons,List.map_nil,vnT]
theorem vAppA{xs:List T}(x:T)(h:xs.length<=1000000):mApp (.lst xs) [x]=some (.lst (xs++[x]),.non):=by
 have q:xs.length < sizeLine:=zeg h
 simp only [mApp,q,if_true]
theorem zko(x:Str)(xs:List Str):zbd (.str x) (.lst (xs.map T.str))=some (.bl (!decide (x∈xs))):=by
 simp only [zbd,orG,zgy,gInB,toV,zck,Option.bind_some,Option.map_some,zgv]
theorem vInS(x:Str)(xs:List Str):gInA (.str x) (.lst (xs.map T.str))=some (.bl (decide (x∈xs))):=by
 simp only [gInA,orG,gIn,gInB,toV,zck,Option.bind_some,Option.map_some,zgv]
theorem zeG(xs:List Nat):toVs (xs.map nT)=some (xs.map fun (k:Nat)=>V.int (k:Int)):=by
 induction xs with
 | nil=>rfl
 | cons x xs ih=>rw [List.map_cons]; unfold toVs; rw [ih]; rfl
theorem zgw(x:Nat)(xs:List Nat):inV (.int (x:Int)) (xs.map fun (k:Nat)=>V.int (k:Int))=decide (x∈xs):=by
 unfold inV
 rw [List.any_map,Bool.eq_iff_iff,List.any_eq_true,decide_eq_true_iff]
 constructor
 ·rintro ⟨y,hy,e⟩
  have:(y:Int)=x:=by simpa [eqV] using e
  have:y=x:=by lia
  exact this▸hy
 ·intro h
  exact ⟨x,h,by simp [eqV]⟩
theorem vInN(x:Nat)(xs:List Nat):gInA (.int (x:Int)) (.lst (xs.map nT))=some (.bl (decide (x∈xs))):=by
 simp only [gInA,orG,gIn,gInB,toV,zeG,Option.bind_some,Option.map_some,zgw]
theorem zkp(x:Nat)(xs:List Nat):zbd (.int (x:Int)) (.lst (xs.map nT))=some (.bl (!decide (x∈xs))):=by
 simp only [zbd,orG,zgy,gInB,toV,zeG,Option.bind_some,Option.map_some,zgw]
theorem vInD(x:Str)(kvs:List (Key × T)):gInA (.str x) (.dct kvs)=some (.bl (lookT kvs (.inr x)).isSome):=rfl
theorem zkq(x:Str)(kvs:List (Key × T)):zbd (.str x) (.dct kvs)=some (.bl (!(lookT kvs (.inr x)).isSome)):=rfl
theorem zku(x:Str)(xs:List Str):zkb (.lst (xs.map T.str)) (.str x)=some (.int (xs.count x:Nat)):=by
 simp only [zkb,zck,toV,Option.bind_some,Option.map_some,zg0]
theorem zd9(x:Str):∀ (xs:List Str),x∈xs->(xs.map V.str).findIdx? (fun u=>eqV u (.str x))=some (xs.idxOf x)
 | [],h=>by cases h
 | y::ys,h=>by
  rw [List.map_cons,List.findIdx?_cons,List.idxOf_cons]
  by_cases e:y=x
  ·subst e; simp [eqV]
  ·have e1:eqV (.str y) (.str x)=false:=by simp [eqV,e]
   have e2:(y == x)=false:=by simpa using e
   have hm:x∈ys:=by
    rcases List.mem_cons.mp h with q | q
    ·exact absurd q.symm e
    ·exact q
   rw [e1,e2,zd9 x ys hm]
   rfl
theorem zfx{x:Str}{xs:List Str}(h:x∈xs):zc7 (.lst (xs.map T.str)) (.str x)=some (.int (xs.idxOf x:Nat)):=by
 simp only [zc7,zck,toV,Option.bind_some,zd9 x xs h,Option.map_some]
theorem zlH(xs:List T):isi "list" (.lst xs)=some true:=by simp [isi]
theorem zlI(i:Int):isi "int" (.int i)=some true:=by simp [isi]
theorem zlJ(i:Int):isi "bool" (.int i)=some false:=by simp [isi]
theorem zlK(b:Bool):isi "bool" (.bl b)=some true:=by simp [isi]
theorem zlF(xs:List T):isi "tuple" (.tup xs)=some true:=by simp [isi]
theorem zlG(x:Str):isi "str" (.str x)=some true:=by simp [isi]
theorem zh4(s:Sg):hasAll [] s=true:=rfl
theorem zgK(bs:List Bool):blsT (bs.map T.bl)=some bs:=by
 induction bs with
 | nil=>rfl
 | cons b bs ih=>rw [List.map_cons]; unfold blsT; rw [ih]; rfl
theorem vAllB(bs:List Bool):gAll (.lst (bs.map T.bl))=some (.bl (bs.all id)):=by simp only [gAll,zgK,Option.map_some]
theorem vAnyB(bs:List Bool):gAny (.lst (bs.map T.bl))=some (.bl (bs.any id)):=by simp only [gAny,zgK,Option.map_some]
theorem zic(xs:List T):isLst (.lst xs)=true:=rfl
theorem sz0:0<=sizeLine:=Nat.zero_le _
theorem sz1:1<=sizeLine:=zaK (by lia)
theorem sz2:2<=sizeLine:=zaK (by lia)
theorem sz3:3<=sizeLine:=zaK (by lia)
theorem sz4:4<=sizeLine:=zaK (by lia)
theorem rgN{k:Nat}(h:k<=2000):rgOk (k:Int)=true:=zcJ (by lia) (by lia)
theorem zk6{α:Type}{M:List Nat}{caps:List (Option Nat)}{fi:DI}{dg:DG}{ft:DT}{fe:DE}{s:Sg}(xs:List α)(enc:α->T)(b:α->Bool)(e:α->T)(hi:fi s=some (xs.map enc,s))(hl:xs.length<=1000000)
  (h:∀ x∈xs,∃ s1,dg (enc x) (capS caps s)=some s1/\ft s1=some (b x,s1)/\(b x=true->fe s1=some (e x,s1))/\zaq M caps s1 s=s):dLC M caps fi dg ft fe s=some (.lst ((xs.filter b).map e),s):=by
 have key:∀ (ys:List α) (acc:List T),(∀ y∈ys,y∈xs)->lcGo M caps dg ft fe (ys.map enc) acc s=some (acc++(ys.filter b).map e,s):=by
  intro ys
  induction ys with
  | nil=>intro acc _; unfold lcGo; simp
  | cons y ys ih=>
   intro acc hy
   obtain ⟨s1,h1,h2,h3,h4⟩:=h y (hy y List.mem_cons_self)
   rw [List.map_cons]
   unfold lcGo
   rw [h1,Option.bind_some,h2,Option.bind_some]
   have ih':=fun acc=>ih acc fun z hz=>hy z (List.mem_cons_of_mem _ hz)
   cases hb:b y with
   | true=>rw [if_pos rfl,h3 hb,Option.bind_some,h4,ih',List.filter_cons,if_pos hb,List.map_cons,List.append_assoc]; rfl
   | false=>rw [if_neg Bool.false_ne_true,h4,ih',List.filter_cons,if_neg (by rw [hb]; exact Bool.false_ne_true)]
 unfold dLC
 rw [hi,Option.bind_some]
 have q:(xs.map enc).length<=lcMax:=lc_le (by rw [List.length_map]; exact hl)
 rw [if_pos q,key xs [] (fun _ h=>h),Option.map_some]
 rfl
theorem zbA{α:Type}{M:List Nat}{caps:List (Option Nat)}{fi:DI}{dg:DG}{fe:DE}{s:Sg}(xs:List α)(enc:α->T)(e:α->T)(hi:fi s=some (xs.map enc,s))(hl:xs.length<=1000000)
  (h:∀ x∈xs,∃ s1,dg (enc x) (capS caps s)=some s1/\fe s1=some (e x,s1)/\zaq M caps s1 s=s):dLC M caps fi dg dYes fe s=some (.lst (xs.map e),s):=by
 have:=zk6 (M:=M) (caps:=caps) (fi:=fi) (dg:=dg) (ft:=dYes) (fe:=fe) (s:=s) xs enc (fun _=>true) e hi hl fun x hx=>by
  obtain ⟨s1,h1,h2,h3⟩:=h x hx
  exact ⟨s1,h1,rfl,fun _=>h2,h3⟩
 rw [this,List.filter_eq_self.mpr (fun _ _=>rfl)]
theorem zkS{kvs:List (Key × T)}{k:Key}(t:T)(h:k∉kvs.map (·.1)):putT kvs k t=kvs++[(k,t)]:=by
 unfold putT
 rw [if_neg]
 intro z
 obtain ⟨kv,h1,h2⟩:=List.any_eq_true.mp z
 exact h (List.mem_map.mpr ⟨kv,h1,of_decide_eq_true h2⟩)
theorem zns{α:Type}{M:List Nat}{caps:List (Option Nat)}{fi:DI}{dg:DG}{fk fe:DE}{s:Sg}(xs:List α)(enc:α->T)(k:α->T)(kk:α->Key)(e:α->T)(hi:fi s=some (xs.map enc,s))(hl:xs.length<=1000000)(hn:(xs.map kk).Nodup)
  (h:∀ x∈xs,∃ s1,dg (enc x) (capS caps s)=some s1/\fk s1=some (k x,s1)/\keyT (k x)=some (kk x)/\fe s1=some (e x,s1)/\zaq M caps s1 s=s):dDC M caps fi dg dYes fk fe s=some (.dct (xs.map fun x=>(kk x,e x)),s):=by
 have key:∀ (ys:List α) (zs:List α),zs++ys=xs->dcGo M caps dg dYes fk fe (ys.map enc) (zs.map fun x=>(kk x,e x)) s=some (xs.map (fun x=>(kk x,e x)),s):=by
  intro ys
  induction ys with
  | nil=>intro zs hz; rw [List.append_nil] at hz; subst hz; unfold dcGo; rfl
  | cons y ys ih=>
   intro zs hz
   obtain ⟨s1,h1,h2,h3,h4,h5⟩:=h y (by rw [<-hz]; simp)
   rw [List.map_cons]
   unfold dcGo
   have hk:kk y∉(zs.map fun x=>(kk x,e x)).map (·.1):=by
    rw [List.map_map]
    intro hm
    rw [<-hz,List.map_append,List.nodup_append] at hn
    obtain ⟨x,hx,hxe⟩:=List.mem_map.mp hm
    exact hn.2.2 (kk x) (List.mem_map.mpr ⟨x,hx,rfl⟩) (kk y) (by simp) hxe
   rw [h1,Option.bind_some]
   simp only [dYes,Option.bind_some,if_true,h2,h3,h4,h5,zkS _ hk]
   have:=ih (zs++[y]) (by rw [<-hz]; simp)
   rw [List.map_append] at this
   exact this
 unfold dDC
 rw [hi,Option.bind_some]
 have q:(xs.map enc).length<=lcMax:=lc_le (by rw [List.length_map]; exact hl)
 have k0:=key xs [] rfl
 rw [List.map_nil] at k0
 rw [if_pos q,k0,Option.map_some]
theorem zjl{α:Type}(xs:List α)(kk:α->Key)(e:α->T)(k:Key):lookT (xs.map fun x=>(kk x,e x)) k=(xs.find? fun x=>decide (kk x=k)).map e:=by
 unfold lookT
 rw [List.find?_map,Option.map_map]
 rfl
theorem zjy{α:Type}(xs:List α)(enc:α->T):enumT (xs.map enc)=xs.zipIdx.map fun p=>T.tup [.int (p.2:Nat),enc p.1]:=by
 unfold enumT
 refine List.ext_getElem (by simp) fun i h1 h2=>?_
 have hi:i < xs.length:=by simpa using h2
 rw [List.getElem_map,List.getElem_range,List.getElem_map,List.getElem_zipIdx,List.getD_eq_getElem?_getD,List.getElem?_map,List.getElem?_eq_getElem hi]
 simp
theorem zco(m:Nat):zaH 0 m=(List.range m).map nT:=by
 unfold zaH
 refine List.map_congr_left fun i _=>?_
 rw [Int.zero_add]; rfl
theorem zak{f g:DS}{s s':Sg}{Q:Fl->Prop}(h:f s=some (.nx s'))(k:Run g s' Q):Run (dSeq f g) s Q:=zfB h k
theorem ze8{n:Nat}{d:DS}{ts:List T}{t:T}(h:Run d (zax n ts) fun r=>∃ s,r=.rt t s):fnP n d ts=some t:=by
 obtain ⟨r,h1,s,rfl⟩:=h
 exact zgA h1
theorem zil{n:Nat}{d:DS}{ts:List T}{t:T}(h:Run d (zax n ts) fun r=>∃ s,r=.rt t s):fnPn n d ts=some t:=by
 obtain ⟨r,h1,s,rfl⟩:=h
 exact zik h1
theorem zdr{d:DS}{s s':Sg}{t t':T}(h:d s=some (.rt t' s'))(k:t'=t):Run d s fun r=>∃ s,r=.rt t s:=⟨_,h,s',by rw [k]⟩
theorem zf5{α β:Type}{f:α->β}(hf:∀ a b,f a=f b->a=b):∀ {l:List α},l.Nodup->(l.map f).Nodup
 | [],_=>List.nodup_nil
 | a::l,h=>by
  rw [List.nodup_cons] at h
  rw [List.map_cons,List.nodup_cons]
  refine ⟨fun z=>?_,zf5 hf h.2⟩
  obtain ⟨b,hb,e⟩:=List.mem_map.mp z
  exact h.1 (hf _ _ e▸hb)
theorem vcap0(s:Sg):capS [] s=[]:=rfl
theorem vcapN(cs:List (Option Nat))(s:Sg):capS (none::cs) s=none::capS cs s:=rfl
theorem vcapS(j:Nat)(cs:List (Option Nat))(s:Sg):capS (some j::cs) s=(s[j]?).join::capS cs s:=rfl
theorem zgf{f g:DS}{s s':Sg}{t t':T}(h:f s=some (.rt t' s'))(k:t'=t):Run (dSeq f g) s fun r=>∃ s,r=.rt t s:=⟨_,zgb h,s',by rw [k]⟩
theorem zbX{d:DS}{s s':Sg}{P:Sg->Prop}(h:d s=some (.nx s'))(k:P s'):Run d s (Onto P):=⟨_,h,k⟩
def OntoR(P:Sg->Prop)(Q:Fl->Prop):Fl->Prop
 | .nx s=>P s
 | .ct s=>P s
 | .rt t s=>Q (.rt t s)
 | .bk _=>False
theorem zk4{g:DG}{db:DS}{Q:Fl->Prop}(I:Nat->Sg->Prop):∀ (xs:List T) (i:Nat) (s:Sg),I i s->(∀ j x s,xs[j]?=some x->I (i+j) s->∃ s1,g x s=some s1/\Run db s1 (OntoR (I (i+j+1)) Q))->
  (∃ s',loopF g db xs s=some (.nx s')/\I (i+xs.length) s')∨∃ t s',loopF g db xs s=some (.rt t s')/\Q (.rt t s')
 | [],i,s,h0,_=>.inl ⟨s,by unfold loopF; rfl,h0⟩
 | x::xs,i,s,h0,h=>by
  obtain ⟨s1,h1,r,h2,h3⟩:=h 0 x s rfl h0
  have next:∀ s2,I (i+0+1) s2->(∃ s',loopF g db xs s2=some (.nx s')/\I (i+(xs.length+1)) s')∨∃ t s',loopF g db xs s2=some (.rt t s')/\Q (.rt t s'):=fun s2 q=>by
   have:=zk4 I xs (i+1) s2 q fun j y s e q'=>by
    have z:=h (j+1) y s (by simpa using e)
    rw [show i+(j+1)=i+1+j by lia] at z
    exact z q'
   rw [show i+(xs.length+1)=i+1+xs.length by lia]
   exact this
  rw [List.length_cons]
  cases r with
  | nx s2=>unfold loopF; rw [h1,Option.bind_some,h2,Option.bind_some]; exact next s2 h3
  | ct s2=>unfold loopF; rw [h1,Option.bind_some,h2,Option.bind_some]; exact next s2 h3
  | bk s2=>exact h3.elim
  | rt t s2=>exact .inr ⟨t,s2,by unfold loopF; rw [h1,Option.bind_some,h2]; rfl,h3⟩
theorem ziW{fi:DI}{g:DG}{db d:DS}{s s1:Sg}{its:List T}{Q:Fl->Prop}(I:Nat->Sg->Prop)(h:fi s=some (its,s1))(h0:I 0 s1)
  (hs:∀ j x s,its[j]?=some x->I j s->∃ s1,g x s=some s1/\Run db s1 (OntoR (I (j+1)) Q)) (k:∀ s',I its.length s'->Run d s' Q):Run (dSeq (dFor fi g db) d) s Q:=by
 rcases zk4 (g:=g) (db:=db) (Q:=Q) I its 0 s1 h0 (fun j x s e q=>by rw [Nat.zero_add] at q ⊢; exact hs j x s e q) with ⟨s',h1,h2⟩ | ⟨t,s',h1,h2⟩
 ·rw [Nat.zero_add] at h2
  exact zfB (zih h h1) (k s' h2)
 ·refine ⟨.rt t s',?_,h2⟩
  unfold dSeq dFor
  rw [h,Option.bind_some,h1]
  rfl
theorem vsign(c:Nat):signT c=.str ⟨#[c]⟩:=rfl
theorem if_t{c:DT}{f g:DS}{s s':Sg}{r:Option Fl}(h:c s=some (true,s'))(k:f s'=r):dIfS c f g s=r:=by
 unfold dIfS
 rw [h]
 exact k
end L3
namespace Dw
open PySem PySem.Spec PyProof.Rows L2 L3
theorem zgq(x:Str):∀ (wd acc:List Str),x∈wd.foldl stp acc↔x∈acc∨x∈wd
 | [],acc=>by simp
 | y::wd,acc=>by
  rw [List.foldl_cons,zgq x wd,List.mem_cons]
  unfold stp
  split
  ·rename_i h
   constructor
   ·rintro (q | q)
    ·exact .inl q
    ·exact .inr (.inr q)
   ·rintro (q | q | q)
    ·exact .inl q
    ·exact .inl (q▸h)
    ·exact .inr q
  ·rw [List.mem_append,List.mem_singleton]
   constructor
   ·rintro ((q | q) | q)
    ·exact .inl q
    ·exact .inr (.inl q)
    ·exact .inr (.inr q)
   ·rintro (q | q | q)
    ·exact .inl (.inl q)
    ·exact .inl (.inr q)
    ·exact .inr q
theorem mem_firsts{x:Str}{wd:List Str}:x∈za0 wd↔x∈wd:=by unfold za0; rw [zgq]; simp
theorem ze3:∀ (wd acc:List Str),acc.Nodup->(wd.foldl stp acc).Nodup
 | [],acc,h=>h
 | y::wd,acc,h=>by
  rw [List.foldl_cons]
  refine ze3 wd _ ?_
  unfold stp
  split
  ·exact h
  ·rename_i q
   rw [List.nodup_append]
   exact ⟨h,by simp,fun a ha b hb e=>q (by rw [List.mem_singleton] at hb; subst hb; subst e; exact ha)⟩
theorem zba(wd:List Str):(za0 wd).Nodup:=ze3 wd [] List.nodup_nil
theorem zdG:∀ (wd acc:List Str),∃ r,wd.foldl stp acc=acc++r
 | [],acc=>⟨[],by simp⟩
 | y::wd,acc=>by
  rw [List.foldl_cons]
  obtain ⟨r,h⟩:=zdG wd (stp acc y)
  rw [h]
  unfold stp
  split
  ·exact ⟨r,rfl⟩
  ·exact ⟨y::r,by simp⟩
theorem zfQ(wd:List Str)(j:Nat):∃ r,za0 wd=za0 (wd.take j)++r:=by
 obtain ⟨r,h⟩:=zdG (wd.drop j) ((wd.take j).foldl stp [])
 refine ⟨r,?_⟩
 unfold za0
 rw [<-h,<-List.foldl_append,List.take_append_drop]
theorem zbS(wd:List Str):(za0 wd).length<=wd.length:=by have:=ze9 wd []; simpa [za0] using this
def za7(wd:List Str):List Nat:=wd.map fun x=>(za0 wd).idxOf x
theorem zay(wd:List Str):(za7 wd).length=wd.length:=by unfold za7; simp
theorem zfb{wd:List Str}{j:Nat}{x:Str}(h:x∈za0 (wd.take j)):(za0 (wd.take j)).idxOf x=(za0 wd).idxOf x:=by
 obtain ⟨r,e⟩:=zfQ wd j
 rw [e,List.idxOf_append,if_pos h]
theorem zju{wd:List Str}(hn:wd.Nodup){x:Str}(h:x∈wd):(wd.zipIdx.find? fun p=>decide ((Sum.inr p.1:Key)=Sum.inr x))=some (x,wd.idxOf x):=by
 have key:∀ (l:List Str) (n:Nat),x∈l->((l.zipIdx n).find? fun p=>decide ((Sum.inr p.1:Key)=Sum.inr x))=some (x,n+l.idxOf x):=by
  intro l
  induction l with
  | nil=>intro n h; cases h
  | cons y l ih=>
   intro n h
   rw [List.zipIdx_cons,List.find?_cons,List.idxOf_cons]
   by_cases e:y=x
   ·subst e; simp
   ·have hm:x∈l:=by
     rcases List.mem_cons.mp h with q | q
     ·exact absurd q.symm e
     ·exact q
    have e1:decide ((Sum.inr y:Key)=Sum.inr x)=false:=decide_eq_false fun z=>e (Sum.inr.inj z)
    have e2:(y == x)=false:=by simpa using e
    rw [e1,e2]
    dsimp only
    rw [ih (n+1) hm]
    simp only [cond_false]
    congr 2
    lia
 have:=key wd 0 h
 rw [Nat.zero_add] at this
 exact this
end Dw
namespace Dw
open PySem PySem.Spec PyProof.Rows L2 L3
def rest(w:List Str)(st n:Nat):List Str:=w.take st++w.drop (st+n)
end Dw
namespace Dw
def itr(f:Nat->Nat):Nat->Nat->Nat
 | 0,x=>x
 | k+1,x=>f (itr f k x)
def Orb(f:Nat->Nat)(x y:Nat):Prop:=∃ k,itr f k x=y
end Dw
namespace Dw
open PySem
abbrev Org:=List (Str × Option Str)
end Dw
namespace Dw
section
variable {M:Nat}[NeZero M]
def enc:Nat->(Nat->Fin M)->Nat
 | 0,_=>0
 | k+1,h=>(h 0).val+M*enc k fun i=>h (i+1)
end
def prv(n k:Nat):Nat:=if k=0 then 2*n - 1 else k - 1
end Dw
namespace Dw
section
variable {M:Nat}[NeZero M]{n:Nat}{a b nm f:Nat->Nat}
def l0G(n:Nat)(G:Nat->Fin M):Fin M:=G (2*prv n 0)
def dG(G:Nat->Fin M)(k:Nat):Fin M:=G (2*k) - G (2*k+1)
def xG(n:Nat)(a:Nat->Nat)(G:Nat->Fin M)(v:Nat):Fin M:=dG G (a v) - dG G (prv n (a v))
def par(n:Nat)(a:Nat->Nat)(G:Nat->Fin M):Nat->Fin M
 | 0=>l0G n G
 | 1=>dG G (prv n 0)
 | v+2=>xG n a G v
structure Cls (m:Nat) (f r:Nat->Nat) (F:Nat):Prop where
 lt:∀ w,w < m->r w < F
 stay:∀ w,w < m->r (f w)=r w
 all:∀ i,i < F->∃ w,w < m/\r w=i
 one:∀ w w',w < m->w' < m->r w=r w'->Orb f w w'
end
end Dw
namespace Dw
section
variable {n:Nat}{a b nm f:Nat->Nat}
abbrev F2:=Fin 2
def lo(a b:Nat->Nat)(v:Nat):Nat:=min (a v) (b v)
def hi(a b:Nat->Nat)(v:Nat):Nat:=max (a v) (b v)
def io(a b:Nat->Nat)(u k:Nat):F2:=if lo a b u < k/\k<=hi a b u then 1 else 0
def n2(k:Nat):F2:=Fin.ofNat 2 k
end
end Dw
set_option maxHeartbeats 4000000
namespace Dw
open PySem PySem.Spec PyProof.Rows L2 L3
def top(i:Nat):Stmt:=PySem.Challenge.pw_drawnword_k09_words_alike.main.body.getD i (.Pass ⟨0,0,0,0⟩)
variable {P:Program}{w:World}{mg:Str->Option Value}{base:Heap}
abbrev zbx:Stmt:=top 8
theorem zeN:FnScope ["_law_script","_law_k"] ["_law_script","_law_k"] (za1 zbx):=⟨rfl,rfl,rfl,by decide +kernel,rfl,by decide +kernel,by decide +kernel⟩
def zew:DS:=(dSeq (dIfS (dB (d2 gLt (dV 1) (d1 gLen (dV 0)))) (dRetI [] (d2 gItem (dV 0) (dV 1))) dNext)
  (dRetI [] (dC (.int 0))))
def zbf:List T->Option T:=fnP 2 zew
theorem zcG[tk:TheK](m_len:mg "len"=none)  :QBody tk P w mg base 0 "_law_cell" zbx ["_law_script","_law_k"] (cS .e [] [] [] [] zew):=by
 intro f cdv A outer s H E hr
 have sc:=zeN
 have hu:=hu_of hr
 exact (qs_ (M':=[]) (qs_if (M':=[]) (qt_lt (qv_ rfl (qpv 1)) (qeb (zaU rfl rfl m_len (qeb (qv_ rfl (qpv 0)))))) (za6 (zai (zar rfl hu (qv_ rfl (qpv 0)) (qeb (qv_ rfl (qpv 1))) (fun _ _=>rfl)))) zaB)
  (za6 (zai qi_)))
theorem zhS[tk:TheK](h:Here tk.K mg "_law_cell" zbx ["_law_script","_law_k"])(m_len:mg "len"=none):Cal P w tk.K mg base 1 "_law_cell" ["_law_script","_law_k"] (spP .e 2 zbf):=
 h.qP zeN (zcG m_len)
abbrev zbv:Stmt:=top 9
theorem zeL:FnScope ["_law_cell_here","_law_turn","_law_many","_law_blent"] ["_law_cell_here","_law_turn","_law_many"] (za1 zbv):=⟨rfl,rfl,rfl,by decide +kernel,rfl,by decide +kernel,by decide +kernel⟩
def zev:DS:=(dSeq (dSet 3 (d2 gMod (d2 gMul (d2 gPlus (d2 gMod (dV 0) (dC (.int 2147483647))) (dC (.int 7))) (d2 gPlus (dC (.int 48271)) (d2 gMul (dC (.int 7919)) (dV 1)))) (dC (.int 2147483647))))
  (dRetI [] (d2 gMod (d2 gDiv (d2 gMod (d2 gMul (dV 3) (dC (.int 16807))) (dC (.int 2147483647))) (dC (.int 8))) (dV 2))))
def zac:List T->Option T:=fnP 4 zev
theorem zat[tk:TheK]   :QBody tk P w mg base 0 "_law_pick" zbv ["_law_cell_here","_law_turn","_law_many","_law_blent"] (cS .e [] [] [] [] zev):=by
 intro f cdv A outer s H E hr
 have sc:=zeL
 exact (qs_ (M':=[]) (zah (M':=[]) (zab (i:=3) sc.nd rfl (Or.inl rfl) (zbi (zd4 (zao (zbi (qv_ rfl (qpv 0)) (qeb qi_)) (qeb qi_)) (qeb (zao qi_ (qeb (zd4 qi_ (qeb (qv_ rfl (qpv 1)))))))) (qeb qi_))))
  (za6 (zai (zbi (zdy (zbi (zd4 (qv_ rfl (qpv 3)) (qeb qi_)) (qeb qi_)) (qeb qi_)) (qeb (qv_ rfl (qpv 2)))))))
theorem zhQ[tk:TheK](h:Here tk.K mg "_law_pick" zbv ["_law_cell_here","_law_turn","_law_many"]) :Cal P w tk.K mg base 1 "_law_pick" ["_law_cell_here","_law_turn","_law_many"] (spP .e 3 zac):=
 h.qP zeL (zat )
abbrev zb5:Stmt:=top 12
theorem zdW:FnScope ["_law_cell_here","_law_many","_law_letters","_law_base","_law_k","_law_spot","_law_first","_law_made","_law_far","_law_turn"] ["_law_cell_here","_law_many"] (za1 zb5):=⟨rfl,rfl,rfl,by decide +kernel,rfl,by decide +kernel,by decide +kernel⟩
def zcA:DS:=(dSeq (dSet 2 (dC (.str "abcdefghijklmnopqrstuvwxyz")))
  (dSeq (dSet 3 (dC (.str "")))
  (dSeq (dFor (dRg1 (dAc (dCall zac (dAc (dV 0) (dAc (dC (.int 1)) (dAc (dC (.int 7)) dAn)))) dAn)) (dGn 4)
  (dSet 3 (d2 gPlus (dV 3) (d2 gItem (dV 2) (dCall zac (dAc (dV 0) (dAc (d2 gPlus (dC (.int 2)) (dV 4)) (dAc (dC (.int 26)) dAn))))))))
  (dSeq (dSet 5 (dCall zac (dAc (dV 0) (dAc (dC (.int 10)) (dAc (d2 gPlus (d1 gLen (dV 3)) (dC (.int 1))) dAn)))))
  (dSeq (dSet 6 (dCall zac (dAc (dV 0) (dAc (dC (.int 11)) (dAc (dC (.int 26)) dAn)))))
  (dSeq (dSet 7 (dLst dAn))
  (dSeq (dIfS (dB (d2 gEq (dCall zac (dAc (dV 0) (dAc (dC (.int 12)) (dAc (dC (.int 4)) dAn)))) (dC (.int 0)))) (dSet 7 (dLC [7] [none,some 3] (dRg2 (dAc (dC (.int 1)) (dAc (d2 gPlus (d1 gLen (dV 3)) (dC (.int 1))) dAn))) (dGn 0) dYes (dSl gSlA (dV 1) dOn (dOs (dV 0))))) dNext)
  (dSeq (dFor (dRg1 (dAc (dV 1) dAn)) (dGn 4)
  (dSeq (dSet 8 (d2 gPlus (d2 gItem (dV 2) (d2 gMod (d2 gPlus (dV 6) (d2 gMul (dC (.int 5)) (dV 4))) (dC (.int 26)))) (d2 gItem (dV 2) (d2 gMod (d2 gPlus (dV 6) (d2 gDiv (dV 4) (dC (.int 26)))) (dC (.int 26))))))
  (dIfS (dB (d2 zbd (d2 gPlus (d2 gPlus (dSl gSlA (dV 3) dOn (dOs (dV 5))) (dV 8)) (dSl gSlA (dV 3) (dOs (dV 5)) dOn)) (dV 7))) (dDo (dMut mApp 7 (dAc (d2 gPlus (d2 gPlus (dSl gSlA (dV 3) dOn (dOs (dV 5))) (dV 8)) (dSl gSlA (dV 3) (dOs (dV 5)) dOn)) dAn))) dNext)))
  (dSeq (dSet 9 (dCall zac (dAc (dV 0) (dAc (dC (.int 13)) (dAc (d2 gPlus (dV 1) (dC (.int 1))) dAn)))))
  (dRetI [] (d2 gPlus (dSl gSlA (dSlV gSl 7 dOn (dOs (dV 1))) (dOs (dV 9)) dOn) (dSl gSlA (dSlV gSl 7 dOn (dOs (dV 1))) dOn (dOs (dV 9))))))))))))))
def zbp:List T->Option T:=fnP 10 zcA
theorem zcE[tk:TheK](C_l_pick:Cal P w tk.K mg base 1 "_law_pick" ["_law_cell_here","_law_turn","_law_many"] (spP .e 3 zac))(m_range:mg "range"=none)(m_len:mg "len"=none)  :QBody tk P w mg base 1 "_law_names" zb5 ["_law_cell_here","_law_many","_law_letters","_law_base","_law_k","_law_spot","_law_first","_law_made","_law_far","_law_turn"] (cS .e [] [] [] [] zcA):=by
 obtain ⟨f_l_pick,fd_l_pick,G_l_pick,zat,k_l_pick,m_l_pick⟩:=C_l_pick
 intro f cdv A outer s H E hr
 have sc:=zdW
 have hu:=hu_of hr
 have hu8:(A.deeper (envOfC "_law_names" (za1 zb5) s.heap.objs.size f cdv)).units+8 < cLine:=zdF hr
 exact (qs_ (M':=[]) (zah (M':=[]) (zab (i:=2) sc.nd rfl (Or.inl rfl) zd3))
  (qs_ (M':=[]) (zah (M':=[]) (zab (i:=3) sc.nd rfl (Or.inr rfl) zd3))
  (qs_ (M':=[]) (zd2 (zbL PassesOwn.never rfl (zbc rfl m_range (qa_ (za9 G_l_pick hr rfl m_l_pick k_l_pick zat (qa_ (qv_ rfl (qpv 0)) (qa_ qi_ (qa_ qi_ za2))) (ar_ (ar_ (ar_ zad)))) za2)) (zcP (zag (i:=4) sc.nd rfl (Or.inl rfl)))
  (za6 (zah (M':=[]) (zab (i:=3) sc.nd rfl (Or.inr rfl) (zao (qv_ rfl (qpv 3)) (qeb (zar rfl hu (qv_ rfl (qpv 2)) (qeb (za9 G_l_pick hr rfl m_l_pick k_l_pick zat (qa_ (qv_ rfl (qpv 0)) (qa_ (zao qi_ (qeb (qv_ rfl (qpv 4)))) (qa_ qi_ za2))) (ar_ (ar_ (ar_ zad))))) (fun _ _=>rfl)))))))))
  (qs_ (M':=[]) (zah (M':=[]) (zab (i:=5) sc.nd rfl (Or.inl rfl) (za9 G_l_pick hr rfl m_l_pick k_l_pick zat (qa_ (qv_ rfl (qpv 0)) (qa_ qi_ (qa_ (zao (zaU rfl rfl m_len (qeb (qv_ rfl (qpv 3)))) (qeb qi_)) za2))) (ar_ (ar_ (ar_ zad))))))
  (qs_ (M':=[]) (zah (M':=[]) (zab (i:=6) sc.nd rfl (Or.inl rfl) (za9 G_l_pick hr rfl m_l_pick k_l_pick zat (qa_ (qv_ rfl (qpv 0)) (qa_ qi_ (qa_ qi_ za2))) (ar_ (ar_ (ar_ zad))))))
  (qs_ (M':=[7]) (zbm (M':=[7]) (zab (i:=7) sc.nd rfl (Or.inl rfl) (zaT za2)))
  (qs_ (M':=[7]) (qs_if (M':=[7]) (qt_eq hu8 (za9 G_l_pick hr rfl m_l_pick k_l_pick zat (qa_ (qv_ rfl (qpv 0)) (qa_ qi_ (qa_ qi_ za2))) (ar_ (ar_ (ar_ zad)))) (qeb qi_)) (za6 (zbm (M':=[7]) (qs_lc (Mi:=[]) rfl (zaX (i:=0)) zbI (zdw (i:=7) sc.nd rfl rfl (N:=["_law_k","_law_base"]) (caps:=[none,some 3]) rfl (zhy rfl m_range (qa_ qi_ (qa_ (zao (zaU rfl rfl m_len (qeb (qv_ rfl (qpv 3)))) (qeb qi_)) za2))) (fun _ _ _ _ _=>(zag (i:=0) (show (["_law_k","_law_base"]:List Str).Nodup by decide +kernel) rfl (Or.inl rfl))) zb0 (fun _ _ _ _ _=>zaS) (fun _ _ _ _ _=>(zbM rfl (qv_ rfl (qpv 1)) zaY (zaJ (qv_ rfl (qpv 0))))))))) zaB)
  (qs_ (M':=[7]) (zd2 (zbL PassesOwn.never rfl (zbc rfl m_range (qa_ (qv_ rfl (qpv 1)) za2)) (zcP (zag (i:=4) sc.nd rfl (Or.inl rfl)))
  (qs_ (M':=[7]) (zah (M':=[7]) (zab (i:=8) sc.nd rfl (Or.inl rfl) (zao (zar rfl hu (qv_ rfl (qpv 2)) (qeb (zbi (zao (qv_ rfl (qpv 6)) (qeb (zd4 qi_ (qeb (qv_ rfl (qpv 4)))))) (qeb qi_))) (fun _ _=>rfl)) (qeb (zar rfl hu (qv_ rfl (qpv 2)) (qeb (zbi (zao (qv_ rfl (qpv 6)) (qeb (zdy (qv_ rfl (qpv 4)) (qeb qi_)))) (qeb qi_))) (fun _ _=>rfl))))))
  (za6 (qs_if (M':=[7]) (zdv hu (zao (zao (zbM rfl (qv_ rfl (qpv 3)) zaY (zaJ (qv_ rfl (qpv 5)))) (qeb (qv_ rfl (qpv 8)))) (qeb (zbM rfl (qv_ rfl (qpv 3)) (zaJ (qv_ rfl (qpv 5))) zaY))) (zdx rfl (qpv 7)) (by with_unfolding_all rfl)) (za6 (qs_do (.inl rfl) (zcr rfl (zcq PySem.F.plainAttrs_list PySem.F.slot_list_append PySem.F.type_list_append zb8 (qpv 7) (qa_ (zao (zao (zbM rfl (qv_ rfl (qpv 3)) zaY (zaJ (qv_ rfl (qpv 5)))) (qeb (qv_ rfl (qpv 8)))) (qeb (zbM rfl (qv_ rfl (qpv 3)) (zaJ (qv_ rfl (qpv 5))) zaY))) za2))))) zaB)))))
  (qs_ (M':=[7]) (zah (M':=[7]) (zab (i:=9) sc.nd rfl (Or.inl rfl) (za9 G_l_pick hr rfl m_l_pick k_l_pick zat (qa_ (qv_ rfl (qpv 0)) (qa_ qi_ (qa_ (zao (qv_ rfl (qpv 1)) (qeb qi_)) za2))) (ar_ (ar_ (ar_ zad))))))
  (za6 (zai (zao (zbM rfl (qne (zjT rfl rfl (qpv 7) zaY (zaJ (qv_ rfl (qpv 1))))) (zaJ (qv_ rfl (qpv 9))) zaY) (qeb (zbM rfl (qne (zjT rfl rfl (qpv 7) zaY (zaJ (qv_ rfl (qpv 1))))) zaY (zaJ (qv_ rfl (qpv 9)))))))))))))))))
theorem zgX[tk:TheK](h:Here tk.K mg "_law_names" zb5 ["_law_cell_here","_law_many"])(C_l_pick:Cal P w tk.K mg base 1 "_law_pick" ["_law_cell_here","_law_turn","_law_many"] (spP .e 3 zac))(m_range:mg "range"=none)(m_len:mg "len"=none):Cal P w tk.K mg base 2 "_law_names" ["_law_cell_here","_law_many"] (spP .e 2 zbp):=
 h.qP zdW (zcE C_l_pick m_range m_len)
abbrev zcb:Stmt:=top 10
theorem zge:FnScope ["_law_cell_here"] ["_law_cell_here"] (za1 zcb):=⟨rfl,rfl,rfl,by decide +kernel,rfl,by decide +kernel,by decide +kernel⟩
def zfU:DS:=(dRetI [] (dLst (dAc (d2 gMul (d2 gDiv (dV 0) (dC (.int 2))) (d2 gMod (dV 0) (dC (.int 2)))) (dAc (d2 gMod (d2 gDiv (dV 0) (dC (.int 2))) (dC (.int 2147483647))) dAn))))
def zc1:List T->Option T:=fnPn 1 zfU
theorem zg2[tk:TheK]   :QBody tk P w mg base 0 "_law_bag" zcb ["_law_cell_here"] (cS .n [] [] [] [] zfU):=by
 intro f cdv A outer s H E hr
 have sc:=zge
 exact (za6 (zkL (zaT (qa_ (zd4 (zdy (qv_ rfl (qpv 0)) (qeb qi_)) (qeb (zbi (qv_ rfl (qpv 0)) (qeb qi_)))) (qa_ (zbi (zdy (qv_ rfl (qpv 0)) (qeb qi_)) (qeb qi_)) za2)))))
theorem zjd[tk:TheK](h:Here tk.K mg "_law_bag" zcb ["_law_cell_here"]) :Cal P w tk.K mg base 1 "_law_bag" ["_law_cell_here"] (spP .n 1 zc1):=
 h.qN zge (zg2 )
abbrev zbw:Stmt:=top 11
theorem zeM:FnScope ["_law_bag_here","_law_many","_law_found"] ["_law_bag_here","_law_many"] (za1 zbw):=⟨rfl,rfl,rfl,by decide +kernel,rfl,by decide +kernel,by decide +kernel⟩
def zdk:DS:=(dSeq (dIfS (dB (d2 gGt (d2v gItem 0 (dC (.int 0))) (dC (.int 0)))) (dSeq (dSet 2 (d2 gMod (d2v gItem 0 (dC (.int 0))) (dV 1)))
  (dSeq (dSetI 0 (dC (.int 0)) (d2 gDiv (d2v gItem 0 (dC (.int 0))) (dV 1)))
  (dRetI [0] (dV 2)))) dNext)
  (dSeq (dSetI 0 (dC (.int 1)) (d2 gMod (d2 gPlus (d2 gMul (d2v gItem 0 (dC (.int 1))) (dC (.int 48271))) (dC (.int 4099))) (dC (.int 2147483647))))
  (dRetI [0] (d2 gMod (d2 gDiv (d2 gMod (d2 gMul (d2v gItem 0 (dC (.int 1))) (d2 gPlus (d2 gDiv (d2v gItem 0 (dC (.int 1))) (dC (.int 65536))) (dC (.int 7)))) (dC (.int 2147483629))) (dC (.int 32))) (dV 1)))))
def zbe:List T->Option (T × T):=fnI 3 zdk
theorem zeB[tk:TheK]   :QBody tk P w mg base 0 "_law_draw" zbw ["_law_bag_here","_law_many","_law_found"] (cS .e [0] [0] [] [] zdk):=by
 intro f cdv A outer s H E hr
 have sc:=zeM
 have hu:=hu_of hr
 exact (qs_ (M':=[0]) (qs_if (M':=[0]) (qt_gt (zbj rfl rfl hu (qpv 0) (qeb qi_) (fun _ _=>rfl)) (qeb qi_)) (qs_ (M':=[0]) (zah (M':=[0]) (zab (i:=2) sc.nd rfl (Or.inl rfl) (zbi (zbj rfl rfl hu (qpv 0) (qeb qi_) (fun _ _=>rfl)) (qeb (qv_ rfl (qpv 1))))))
  (qs_ (M':=[0]) (zcM rfl (zcN (zdy (zbj rfl rfl hu (qpv 0) (qeb qi_) (fun _ _=>rfl)) (qeb (qv_ rfl (qpv 1)))) (zcO (qpv 0) qi_ zbW)))
  (za6 (zai (qv_ rfl (qpv 2)))))) zaB)
  (qs_ (M':=[0]) (zcM rfl (zcN (zbi (zao (zd4 (zbj rfl rfl hu (qpv 0) (qeb qi_) (fun _ _=>rfl)) (qeb qi_)) (qeb qi_)) (qeb qi_)) (zcO (qpv 0) qi_ zbW)))
  (za6 (zai (zbi (zdy (zbi (zd4 (zbj rfl rfl hu (qpv 0) (qeb qi_) (fun _ _=>rfl)) (qeb (zao (zdy (zbj rfl rfl hu (qpv 0) (qeb qi_) (fun _ _=>rfl)) (qeb qi_)) (qeb qi_)))) (qeb qi_)) (qeb qi_)) (qeb (qv_ rfl (qpv 1))))))))
theorem zhR[tk:TheK](h:Here tk.K mg "_law_draw" zbw ["_law_bag_here","_law_many"]) :Cal P w tk.K mg base 1 "_law_draw" ["_law_bag_here","_law_many"] (spI .e 2 zbe):=
 h.qI zeM (zeB )
abbrev zbu:Stmt:=top 14
theorem zeK:FnScope ["_law_cell_here","_law_names_here","_law_bag_here","_law_free","_law_made","_law_name","_law_at","_law_far"] ["_law_cell_here","_law_names_here"] (za1 zbu):=⟨rfl,rfl,rfl,by decide +kernel,rfl,by decide +kernel,by decide +kernel⟩
def zdj:DS:=(dSeq (dSet 2 (dCall zc1 (dAc (dV 0) dAn)))
  (dSeq (dSet 3 (dLR (dAc (d2 gMul (dC (.int 2)) (d1 gLen (dV 1))) dAn)))
  (dSeq (dSet 4 (dLC [2,3] [none] (dItV 3) (dGn 0) dYes (dC (.str ""))))
  (dSeq (dFor (dItA (dV 1)) (dGn 5)
  (dSeq (dSet 6 (dMut zc6 3 (dAc (dC (.int 0)) dAn)))
  (dSeq (dSet 7 (dMut zc6 3 (dAc (zfi zbe 2 (dAc (d1 gLen (dV 3)) dAn)) dAn)))
  (dSeq (dSetI 4 (dV 6) (dV 5))
  (dSetI 4 (dV 7) (dV 5))))))
  (dRetI [] (dV 4))))))
def zbR:List T->Option T:=fnP 8 zdj
theorem zdl[tk:TheK](C_l_bag:Cal P w tk.K mg base 1 "_law_bag" ["_law_cell_here"] (spP .n 1 zc1))(C_l_draw:Cal P w tk.K mg base 1 "_law_draw" ["_law_bag_here","_law_many"] (spI .e 2 zbe))(m_list:mg "list"=none)(m_range:mg "range"=none)(m_len:mg "len"=none)  :QBody tk P w mg base 1 "_law_word" zbu ["_law_cell_here","_law_names_here","_law_bag_here","_law_free","_law_made","_law_name","_law_at","_law_far"] (cS .e [] [] [] [] zdj):=by
 obtain ⟨f_l_bag,fd_l_bag,G_l_bag,zg2,k_l_bag,m_l_bag⟩:=C_l_bag
 obtain ⟨f_l_draw,fd_l_draw,G_l_draw,zeB,k_l_draw,m_l_draw⟩:=C_l_draw
 intro f cdv A outer s H E hr
 have sc:=zeK
 exact (qs_ (M':=[2]) (zbm (M':=[2]) (zab (i:=2) sc.nd rfl (Or.inl rfl) (zj5 G_l_bag hr rfl m_l_bag k_l_bag zg2 (qa_ (qv_ rfl (qpv 0)) za2) (ar_ zad))))
  (qs_ (M':=[2,3]) (zbm (M':=[2,3]) (zab (i:=3) sc.nd rfl (Or.inl rfl) (zeS rfl rfl m_list rfl m_range (qa_ (zd4 qi_ (qeb (zaU rfl rfl m_len (qeb (qv_ rfl (qpv 1)))))) za2))))
  (qs_ (M':=[2,3,4]) (zbm (M':=[2,3,4]) (zmo (i0:=3) (Mi:=[]) rfl rfl rfl rfl (zaX (i:=0)) zbI (zdw (i:=4) sc.nd rfl rfl (N:=["_law_at"]) (caps:=[none]) rfl (zgj (qpv 3)) (fun _ _ _ _ _=>(zag (i:=0) (show (["_law_at"]:List Str).Nodup by decide +kernel) rfl (Or.inl rfl))) zb0 (fun _ _ _ _ _=>zaS) (fun _ _ _ _ _=>zd3))))
  (qs_ (M':=[2,3,4]) (zd2 (zbL PassesOwn.never rfl (zc4 rfl (qv_ rfl (qpv 1))) (zcP (zag (i:=5) sc.nd rfl (Or.inl rfl)))
  (qs_ (M':=[2,3,4]) (zah (M':=[2,3,4]) (zab (i:=6) sc.nd rfl (Or.inl rfl) (zgk rfl (zcq PySem.F.plainAttrs_list PySem.F.slot_list_pop PySem.F.type_list_pop zgp (qpv 3) (qa_ qi_ za2)))))
  (qs_ (M':=[2,3,4]) (zah (M':=[2,3,4]) (zab (i:=7) sc.nd rfl (Or.inl rfl) (zgk rfl (zcq PySem.F.plainAttrs_list PySem.F.slot_list_pop PySem.F.type_list_pop zgp (qpv 3) (qa_ (zj6 rfl G_l_draw hr rfl m_l_draw k_l_draw zeB (qpv 2) (qa_ (zaU rfl rfl m_len (zdx rfl (qpv 3))) za2) (ar_ zad)) za2)))))
  (qs_ (M':=[2,3,4]) (zcM rfl (zcN (qv_ rfl (qpv 5)) (zcO (qpv 4) (qv_ rfl (qpv 6)) zbW)))
  (za6 (zcM rfl (zcN (qv_ rfl (qpv 5)) (zcO (qpv 4) (qv_ rfl (qpv 7)) zbW)))))))))
  (za6 (zjQ (M':=[2,3]) (zai (qv_ rfl (qpv 4)))))))))
theorem zhP[tk:TheK](h:Here tk.K mg "_law_word" zbu ["_law_cell_here","_law_names_here"])(C_l_bag:Cal P w tk.K mg base 1 "_law_bag" ["_law_cell_here"] (spP .n 1 zc1))(C_l_draw:Cal P w tk.K mg base 1 "_law_draw" ["_law_bag_here","_law_many"] (spI .e 2 zbe))(m_list:mg "list"=none)(m_range:mg "range"=none)(m_len:mg "len"=none):Cal P w tk.K mg base 2 "_law_word" ["_law_cell_here","_law_names_here"] (spP .e 2 zbR):=
 h.qP zeK (zdl C_l_bag C_l_draw m_list m_range m_len)
abbrev zaF:Stmt:=top 1
theorem zcm:FnScope ["word"] ["word"] (za1 zaF):=⟨rfl,rfl,rfl,by decide +kernel,rfl,by decide +kernel,by decide +kernel⟩
def zbl:DS:=(dRetI [] (d1 zcw (dDC [] [none] (dItA (dV 0)) (dGn 0) dYes (dV 0) (dC (.bl true)))))
def zam:List T->Option T:=fnP 1 zbl
theorem zaR[tk:TheK](m_list:mg "list"=none)  :QBody tk P w mg base 0 "names_of" zaF ["word"] (cS .e [] [] [] [] zbl):=by
 intro f cdv A outer s H E hr
 have sc:=zcm
 exact (za6 (zai (qne (zeo rfl rfl rfl m_list (qnb (qe_dc (Mi:=[]) rfl (zaX (i:=0)) zbI (zjR (N:=["name"]) (caps:=[none]) rfl (zc4 rfl (qv_ rfl (qpv 0))) (fun _ _ _ _ _=>(zag (i:=0) (show (["name"]:List Str).Nodup by decide +kernel) rfl (Or.inl rfl))) zb0 (fun _ _ _ _ _=>zaS) (fun _ _ _ _ _=>(qv_ rfl (qpv 0))) (fun _ _ _ _ _=>qe_bl))))))))
theorem zer[tk:TheK](h:Here tk.K mg "names_of" zaF ["word"])(m_list:mg "list"=none):Cal P w tk.K mg base 1 "names_of" ["word"] (spP .e 1 zam):=
 h.qP zcm (zaR m_list)
abbrev zaL:Stmt:=top 4
theorem zcY:FnScope ["word","places"] ["word"] (za1 zaL):=⟨rfl,rfl,rfl,by decide +kernel,rfl,by decide +kernel,by decide +kernel⟩
def zbB:DS:=(dSeq (dSet 1 (dDC [] [none,none] (dEn (dAc (dCall zam (dAc (dV 0) dAn)) dAn)) (dGt [0,1]) dYes (dV 1) (dV 0)))
  (dRetI [] (dLC [] [none,some 1] (dItA (dV 0)) (dGn 0) dYes (d2 gItem (dV 1) (dV 0)))))
def zaP:List T->Option T:=fnP 2 zbB
theorem zbG[tk:TheK](C_p_names_of:Cal P w tk.K mg base 1 "names_of" ["word"] (spP .e 1 zam))(m_enumerate:mg "enumerate"=none)  :QBody tk P w mg base 1 "numbers" zaL ["word","places"] (cS .e [] [] [] [] zbB):=by
 obtain ⟨f_p_names_of,fd_p_names_of,G_p_names_of,zaR,k_p_names_of,m_p_names_of⟩:=C_p_names_of
 intro f cdv A outer s H E hr
 have sc:=zcY
 have hu:=hu_of hr
 exact (qs_ (M':=[]) (zah (M':=[]) (zab (i:=1) sc.nd rfl (Or.inr rfl) (qne (qe_dc (Mi:=[]) rfl (zm8 (K:=tk.K) (is:=[0,1]) (n:=2)) zbI (zjR (N:=["at","name"]) (caps:=[none,none]) (g:=gTup tk.K 2 (gsN [0,1])) rfl (zkP rfl m_enumerate (qa_ (za9 G_p_names_of hr rfl m_p_names_of k_p_names_of zaR (qa_ (qv_ rfl (qpv 0)) za2) (ar_ zad)) za2)) (fun _ _ _ _ _=>(zj0 (K:=tk.K) rfl rfl (zbo (zag (i:=0) (show (["at","name"]:List Str).Nodup by decide +kernel) rfl (Or.inl rfl)) (zbo (zag (i:=1) (show (["at","name"]:List Str).Nodup by decide +kernel) rfl (Or.inl rfl)) zem)))) zld (fun _ _ _ _ _=>zaS) (fun _ _ _ _ _=>(qv_ rfl (qpv 1))) (fun _ _ _ _ _=>(qv_ rfl (qpv 0))))))))
  (za6 (zai (qne (qe_lc (Mi:=[]) rfl (zaX (i:=0)) zbI (zdZ (N:=["name","places"]) (caps:=[none,some 1]) rfl (zc4 rfl (qv_ rfl (qpv 0))) (fun _ _ _ _ _=>(zag (i:=0) (show (["name","places"]:List Str).Nodup by decide +kernel) rfl (Or.inl rfl))) zb0 (fun _ _ _ _ _=>zaS) (fun _ _ _ _ _=>(zar rfl hu (qv_ rfl (qpv 1)) (qeb (qv_ rfl (qpv 0))) (fun _ _=>rfl)))))))))
theorem zf1[tk:TheK](h:Here tk.K mg "numbers" zaL ["word"])(C_p_names_of:Cal P w tk.K mg base 1 "names_of" ["word"] (spP .e 1 zam))(m_enumerate:mg "enumerate"=none):Cal P w tk.K mg base 2 "numbers" ["word"] (spP .e 1 zaP):=
 h.qP zcY (zbG C_p_names_of m_enumerate)
abbrev zbt:Stmt:=top 5
theorem zeJ:FnScope ["word","starts"] ["word"] (za1 zbt):=⟨rfl,rfl,rfl,by decide +kernel,rfl,by decide +kernel,by decide +kernel⟩
def zdi:DS:=(dSeq (dSet 1 (dA2 imax (dAc (dC (.int 1)) (dAc (d1 gLen (dV 0)) dAn))))
  (dRetI [] (dLC2 [none,none] (dRg1 (dAc (dV 1) dAn)) (dGn 0) (dItA (dTup (dAc (dC (.bl false)) (dAc (dC (.bl true)) dAn)))) (dGn 1) (dTup (dAc (dV 0) (dAc (dV 1) dAn))))))
def zbQ:List T->Option T:=fnP 2 zdi
theorem zeA[tk:TheK](m_max:mg "max"=none)(m_len:mg "len"=none)(m_range:mg "range"=none)  :QBody tk P w mg base 0 "ways" zbt ["word","starts"] (cS .e [] [] [] [] zdi):=by
 intro f cdv A outer s H E hr
 have sc:=zeJ
 exact (qs_ (M':=[]) (zah (M':=[]) (zab (i:=1) sc.nd rfl (Or.inl rfl) (zhB rfl rfl m_max zkg (qa_ qi_ (qa_ (zaU rfl rfl m_len (qeb (qv_ rfl (qpv 0)))) za2)))))
  (za6 (zai (qne (zmt rfl (zaX (i:=0)) (zaX (i:=1)) (zkN (N:=["start","back"]) (caps:=[none,none]) rfl (zbc rfl m_range (qa_ (qv_ rfl (qpv 1)) za2)) (fun _ _ _ _ _=>(zag (i:=0) (show (["start","back"]:List Str).Nodup by decide +kernel) rfl (Or.inl rfl))) (fun _ _ _ _ _=>(zc4 rfl (ze0 (qa_ qe_bl (qa_ qe_bl za2))))) (fun _ _ _ _ _=>(zag (i:=1) (show (["start","back"]:List Str).Nodup by decide +kernel) rfl (Or.inl rfl))) (fun _ _ _ _ _=>(ze0 (qa_ (qv_ rfl (qpv 0)) (qa_ (qv_ rfl (qpv 1)) za2))))))))))
theorem zhO[tk:TheK](h:Here tk.K mg "ways" zbt ["word"])(m_max:mg "max"=none)(m_len:mg "len"=none)(m_range:mg "range"=none):Cal P w tk.K mg base 1 "ways" ["word"] (spP .e 1 zbQ):=
 h.qP zeJ (zeA m_max m_len m_range)
abbrev zaA:Stmt:=top 3
theorem zc3:FnScope ["word","start","back","behind"] ["word","start","back"] (za1 zaA):=⟨rfl,rfl,rfl,by decide +kernel,rfl,by decide +kernel,by decide +kernel⟩
def zaC:DS:=(dSeq (dIfS (dTru (dV 2)) (dSeq (dSet 3 (d2 gPlus (dV 1) (dC (.int 1))))
  (dRetI [] (d2 gPlus (dRev (dSl gSlA (dV 0) dOn (dOs (dV 3))) (dOs (d1 gNeg (dC (.int 1))))) (dRev (dSl gSlA (dV 0) (dOs (dV 3)) dOn) (dOs (d1 gNeg (dC (.int 1)))))))) dNext)
  (dRetI [] (d2 gPlus (dSl gSlA (dV 0) (dOs (dV 1)) dOn) (dSl gSlA (dV 0) dOn (dOs (dV 1))))))
def zal:List T->Option T:=fnP 4 zaC
theorem zbF[tk:TheK]   :QBody tk P w mg base 0 "read_from" zaA ["word","start","back","behind"] (cS .e [] [] [] [] zaC):=by
 intro f cdv A outer s H E hr
 have sc:=zc3
 exact (qs_ (M':=[]) (qs_if (M':=[]) (zbn (qeb (qv_ rfl (qpv 2)))) (qs_ (M':=[]) (zah (M':=[]) (zab (i:=3) sc.nd rfl (Or.inl rfl) (zao (qv_ rfl (qpv 1)) (qeb qi_))))
  (za6 (zai (zao (qne (zhz rfl (zbM rfl (qv_ rfl (qpv 0)) zaY (zaJ (qv_ rfl (qpv 3)))) (zaJ (zhA (qeb qi_))))) (qnb (zhz rfl (zbM rfl (qv_ rfl (qpv 0)) (zaJ (qv_ rfl (qpv 3))) zaY) (zaJ (zhA (qeb qi_))))))))) zaB)
  (za6 (zai (zao (zbM rfl (qv_ rfl (qpv 0)) (zaJ (qv_ rfl (qpv 1))) zaY) (qeb (zbM rfl (qv_ rfl (qpv 0)) zaY (zaJ (qv_ rfl (qpv 1)))))))))
theorem zdN[tk:TheK](h:Here tk.K mg "read_from" zaA ["word","start","back"]) :Cal P w tk.K mg base 1 "read_from" ["word","start","back"] (spP .e 3 zal):=
 h.qP zc3 (zbF )
abbrev zb3:Stmt:=top 6
theorem zdU:FnScope ["word","other","wanted","start","back","reading"] ["word","other"] (za1 zb3):=⟨rfl,rfl,rfl,by decide +kernel,rfl,by decide +kernel,by decide +kernel⟩
def zcy:DS:=(dSeq (dSet 2 (dCall zaP (dAc (dV 0) dAn)))
  (dSeq (dFor (dItA (dCall zbQ (dAc (dV 1) dAn))) (dGt [3,4])
  (dSeq (dSet 5 (dCall zal (dAc (dV 1) (dAc (dV 3) (dAc (dV 4) dAn)))))
  (dIfS (dB (d2 gEq (dCall zaP (dAc (dV 5) dAn)) (dV 2))) (dRetI [] (dT3 (dV 3) (dV 4) (dLZs (dAc (dCall zam (dAc (dV 0) dAn)) (dAc (dCall zam (dAc (dV 5) dAn)) dAn))))) dNext)))
  (dRetI [] (dFl (dC .non)))))
def zb1:List T->Option T:=fnPn 6 zcy
theorem zcD[tk:TheK](C_p_numbers:Cal P w tk.K mg base 2 "numbers" ["word"] (spP .e 1 zaP))(C_p_ways:Cal P w tk.K mg base 2 "ways" ["word"] (spP .e 1 zbQ))(C_p_read_from:Cal P w tk.K mg base 2 "read_from" ["word","start","back"] (spP .e 3 zal))(C_p_names_of:Cal P w tk.K mg base 2 "names_of" ["word"] (spP .e 1 zam))(m_list:mg "list"=none)(m_zip:mg "zip"=none)  :QBody tk P w mg base 2 "alike" zb3 ["word","other","wanted","start","back","reading"] (cS .b [] [] [] [] zcy):=by
 obtain ⟨f_p_numbers,fd_p_numbers,G_p_numbers,zbG,k_p_numbers,m_p_numbers⟩:=C_p_numbers
 obtain ⟨f_p_ways,fd_p_ways,G_p_ways,zeA,k_p_ways,m_p_ways⟩:=C_p_ways
 obtain ⟨f_p_read_from,fd_p_read_from,G_p_read_from,zbF,k_p_read_from,m_p_read_from⟩:=C_p_read_from
 obtain ⟨f_p_names_of,fd_p_names_of,G_p_names_of,zaR,k_p_names_of,m_p_names_of⟩:=C_p_names_of
 intro f cdv A outer s H E hr
 have sc:=zdU
 have hu8:(A.deeper (envOfC "alike" (za1 zb3) s.heap.objs.size f cdv)).units+8 < cLine:=zdF hr
 exact (qs_ (M':=[]) (zah (M':=[]) (zab (i:=2) sc.nd rfl (Or.inl rfl) (za9 G_p_numbers hr rfl m_p_numbers k_p_numbers zbG (qa_ (qv_ rfl (qpv 0)) za2) (ar_ zad))))
  (qs_ (M':=[]) (zd2 (zbL PassesOwn.never rfl (zc4 rfl (za9 G_p_ways hr rfl m_p_ways k_p_ways zeA (qa_ (qv_ rfl (qpv 1)) za2) (ar_ zad))) (zjS (K:=tk.K) (is:=[3,4]) (n:=2) (zhx rfl (zbo (zag (i:=3) sc.nd rfl (Or.inl rfl)) (zbo (zag (i:=4) sc.nd rfl (Or.inl rfl)) zem))))
  (qs_ (M':=[]) (zah (M':=[]) (zab (i:=5) sc.nd rfl (Or.inl rfl) (za9 G_p_read_from hr rfl m_p_read_from k_p_read_from zbF (qa_ (qv_ rfl (qpv 1)) (qa_ (qv_ rfl (qpv 3)) (qa_ (qv_ rfl (qpv 4)) za2))) (ar_ (ar_ (ar_ zad))))))
  (za6 (qs_if (M':=[]) (qt_eq hu8 (za9 G_p_numbers hr rfl m_p_numbers k_p_numbers zbG (qa_ (qv_ rfl (qpv 5)) za2) (ar_ zad)) (qeb (qv_ rfl (qpv 2)))) (za6 (zhv (zj2 (zbZ (qv_ rfl (qpv 3)) (zbZ (qv_ rfl (qpv 4)) (zbZ (zkR rfl rfl rfl m_list rfl m_zip (qa_ (za9 G_p_names_of hr rfl m_p_names_of k_p_names_of zaR (qa_ (qv_ rfl (qpv 0)) za2) (ar_ zad)) (qa_ (za9 G_p_names_of hr rfl m_p_names_of k_p_names_of zaR (qa_ (qv_ rfl (qpv 5)) za2) (ar_ zad)) za2))) zen)))))) zaB)))))
  (za6 (zhv (zj3 zjV)))))
theorem zgV[tk:TheK](h:Here tk.K mg "alike" zb3 ["word","other"])(C_p_numbers:Cal P w tk.K mg base 2 "numbers" ["word"] (spP .e 1 zaP))(C_p_ways:Cal P w tk.K mg base 2 "ways" ["word"] (spP .e 1 zbQ))(C_p_read_from:Cal P w tk.K mg base 2 "read_from" ["word","start","back"] (spP .e 3 zal))(C_p_names_of:Cal P w tk.K mg base 2 "names_of" ["word"] (spP .e 1 zam))(m_list:mg "list"=none)(m_zip:mg "zip"=none):Cal P w tk.K mg base 3 "alike" ["word","other"] (spD 2 zb1):=
 h.qD zdU (zcD C_p_numbers C_p_ways C_p_read_from C_p_names_of m_list m_zip)
abbrev zaM:Stmt:=top 15
theorem zd0:FnScope ["_law_word_here","_law_start","_law_back","_law_many"] ["_law_word_here","_law_start","_law_back"] (za1 zaM):=⟨rfl,rfl,rfl,by decide +kernel,rfl,by decide +kernel,by decide +kernel⟩
def zbD:DS:=(dSeq (dSet 3 (d1 gLen (dV 0)))
  (dSeq (dIfS (dTru (dV 2)) (dRetI [] (dLC [] [none,some 0,some 3,some 1] (dRg1 (dAc (dV 3) dAn)) (dGn 0) dYes (d2 gItem (dV 1) (d2 gMod (d2 gSb (dV 3) (dV 0)) (dV 2))))) dNext)
  (dRetI [] (dLC [] [none,some 0,some 3,some 1] (dRg1 (dAc (dV 3) dAn)) (dGn 0) dYes (d2 gItem (dV 1) (d2 gMod (d2 gPlus (dV 3) (dV 0)) (dV 2)))))))
def zas:List T->Option T:=fnP 4 zbD
theorem zaO[tk:TheK](m_len:mg "len"=none)(m_range:mg "range"=none)  :QBody tk P w mg base 0 "_law_reading" zaM ["_law_word_here","_law_start","_law_back","_law_many"] (cS .e [] [] [] [] zbD):=by
 intro f cdv A outer s H E hr
 have sc:=zd0
 have hu:=hu_of hr
 exact (qs_ (M':=[]) (zah (M':=[]) (zab (i:=3) sc.nd rfl (Or.inr rfl) (zaU rfl rfl m_len (qeb (qv_ rfl (qpv 0))))))
  (qs_ (M':=[]) (qs_if (M':=[]) (zbn (qeb (qv_ rfl (qpv 2)))) (za6 (zai (qne (qe_lc (Mi:=[]) rfl (zaX (i:=0)) zbI (zdZ (N:=["_law_k","_law_word_here","_law_many","_law_start"]) (caps:=[none,some 0,some 3,some 1]) rfl (zbc rfl m_range (qa_ (qv_ rfl (qpv 3)) za2)) (fun _ _ _ _ _=>(zag (i:=0) (show (["_law_k","_law_word_here","_law_many","_law_start"]:List Str).Nodup by decide +kernel) rfl (Or.inl rfl))) zb0 (fun _ _ _ _ _=>zaS) (fun _ _ _ _ _=>(zar rfl hu (qv_ rfl (qpv 1)) (qeb (zbi (zmr (qv_ rfl (qpv 3)) (qeb (qv_ rfl (qpv 0)))) (qeb (qv_ rfl (qpv 2))))) (fun _ _=>rfl)))))))) zaB)
  (za6 (zai (qne (qe_lc (Mi:=[]) rfl (zaX (i:=0)) zbI (zdZ (N:=["_law_k","_law_word_here","_law_many","_law_start"]) (caps:=[none,some 0,some 3,some 1]) rfl (zbc rfl m_range (qa_ (qv_ rfl (qpv 3)) za2)) (fun _ _ _ _ _=>(zag (i:=0) (show (["_law_k","_law_word_here","_law_many","_law_start"]:List Str).Nodup by decide +kernel) rfl (Or.inl rfl))) zb0 (fun _ _ _ _ _=>zaS) (fun _ _ _ _ _=>(zar rfl hu (qv_ rfl (qpv 1)) (qeb (zbi (zao (qv_ rfl (qpv 3)) (qeb (qv_ rfl (qpv 0)))) (qeb (qv_ rfl (qpv 2))))) (fun _ _=>rfl))))))))))
theorem zf3[tk:TheK](h:Here tk.K mg "_law_reading" zaM ["_law_word_here","_law_start","_law_back"])(m_len:mg "len"=none)(m_range:mg "range"=none):Cal P w tk.K mg base 1 "_law_reading" ["_law_word_here","_law_start","_law_back"] (spP .e 3 zas):=
 h.qP zd0 (zaO m_len m_range)
abbrev zaG:Stmt:=top 18
theorem zcZ:FnScope ["_law_found","_law_word_here","_law_other","_law_known","_law_name","_law_far","_law_unlike"] ["_law_found","_law_word_here","_law_other"] (za1 zaG):=⟨rfl,rfl,rfl,by decide +kernel,rfl,by decide +kernel,by decide +kernel⟩
def zbC:DS:=(dSeq (dIfS (dOr (dNot (dTru (dIsi "tuple" (dV 0)))) (dOr (dB (d2 gNe (d1 gLen (dV 0)) (dC (.int 3)))) (dNot (dTru (dIsi "bool" (d2 gItem (dV 0) (dC (.int 1)))))))) (dRetI [] (dC (.bl false))) dNext)
  (dSeq (dIfS (dOr (dNot (dTru (dIsi "int" (d2 gItem (dV 0) (dC (.int 0)))))) (dOr (dTru (dIsi "bool" (d2 gItem (dV 0) (dC (.int 0))))) (dNot (dB (dCh gLe gLt (dC (.int 0)) (d2 gItem (dV 0) (dC (.int 0))) (dA2 imax (dAc (dC (.int 1)) (dAc (d1 gLen (dV 2)) dAn)))))))) (dRetI [] (dC (.bl false))) dNext)
  (dSeq (dIfS (dOr (dNot (dTru (dIsi "list" (d2 gItem (dV 0) (dC (.int 2)))))) (dNot (dTru (d1 gAll (dLC [] [none] (dItA (d2 gItem (dV 0) (dC (.int 2)))) (dGn 0) dYes (dAndV (dIsi "tuple" (dV 0)) (d2 gEq (d1 gLen (dV 0)) (dC (.int 2))))))))) (dRetI [] (dC (.bl false))) dNext)
  (dSeq (dIfS (dB (d2 gEq (dV 2) (dLst dAn))) (dRetI [] (d2 gEq (dV 0) (dTup (dAc (dC (.int 0)) (dAc (dC (.bl false)) (dAc (dLst dAn) dAn)))))) dNext)
  (dSeq (dSet 3 (dLst dAn))
  (dSeq (dFor (dZip (dAc (dV 1) (dAc (dCall zas (dAc (dV 2) (dAc (d2 gItem (dV 0) (dC (.int 0))) (dAc (d2 gItem (dV 0) (dC (.int 1))) dAn)))) dAn))) (dGt [4,5])
  (dIfS (dB (d2 zcR (dTup (dAc (dV 4) (dAc (dV 5) dAn))) (dV 3))) (dDo (dMut mApp 3 (dAc (dTup (dAc (dV 4) (dAc (dV 5) dAn))) dAn))) dNext))
  (dSeq (dSet 6 (dLC [3] [none,some 3] (dRg1 (dAc (dC (.int 2)) dAn)) (dGn 0) dYes (d1 zch (dLC [1] [none,some 0] (dItV 1) (dGn 0) dYes (d2 gItem (dV 0) (dV 1))))))
  (dRetI [] (dAndV (d2 gEq (d2 gItem (dV 0) (dC (.int 2))) (dV 3)) (d2 gEq (dV 6) (dLst (dAc (d1 gLen (dV 3)) (dAc (d1 gLen (dV 3)) dAn)))))))))))))
def zav:List T->Option T:=fnP 7 zbC
theorem zbH[tk:TheK](C_l_reading:Cal P w tk.K mg base 1 "_law_reading" ["_law_word_here","_law_start","_law_back"] (spP .e 3 zas))(m_isinstance:mg "isinstance"=none)(m_bool:mg "bool"=none)(m_len:mg "len"=none)(m_tuple:mg "tuple"=none)(m_max:mg "max"=none)(m_int:mg "int"=none)(m_all:mg "all"=none)(m_list:mg "list"=none)(m_zip:mg "zip"=none)(m_range:mg "range"=none)(m_set:mg "set"=none)  :QBody tk P w mg base 1 "_law_witness" zaG ["_law_found","_law_word_here","_law_other","_law_known","_law_name","_law_far","_law_unlike"] (cS .e [] [] [] [] zbC):=by
 obtain ⟨f_l_reading,fd_l_reading,G_l_reading,zaO,k_l_reading,m_l_reading⟩:=C_l_reading
 intro f cdv A outer s H E hr
 have sc:=zcZ
 have hu:=hu_of hr
 have hu8:(A.deeper (envOfC "_law_witness" (za1 zaG) s.heap.objs.size f cdv)).units+8 < cLine:=zdF hr
 exact (qs_ (M':=[]) (qs_if (M':=[]) (QW.pt (qw_or (zbK (zbn (qeb (ze1 (cn:="tuple") rfl rfl m_isinstance (qeb (qv_ rfl (qpv 0))) (zbY (v:=.ty "tuple") rfl m_tuple zgJ rfl))))) (qw_or (qt_ne hu8 (zaU rfl rfl m_len (qeb (qv_ rfl (qpv 0)))) (qeb qi_)) (zdu (zbK (zbn (qeb (ze1 (cn:="bool") rfl rfl m_isinstance (qeb (zar rfl hu (qv_ rfl (qpv 0)) (qeb qi_) (fun _ _=>rfl))) (zbY (v:=.ty "bool") rfl m_bool ziG rfl))))))))) (za6 (zai qe_bl)) zaB)
  (qs_ (M':=[]) (qs_if (M':=[]) (QW.pt (qw_or (zbK (zbn (qeb (ze1 (cn:="int") rfl rfl m_isinstance (qeb (zar rfl hu (qv_ rfl (qpv 0)) (qeb qi_) (fun _ _=>rfl))) (zbY (v:=.ty "int") rfl m_int znB rfl))))) (qw_or (zbn (qeb (ze1 (cn:="bool") rfl rfl m_isinstance (qeb (zar rfl hu (qv_ rfl (qpv 0)) (qeb qi_) (fun _ _=>rfl))) (zbY (v:=.ty "bool") rfl m_bool ziG rfl)))) (zdu (zbK (zkK qi_ (zar rfl hu (qv_ rfl (qpv 0)) (qeb qi_) (fun _ _=>rfl)) (zhB rfl rfl m_max zkg (qa_ qi_ (qa_ (zaU rfl rfl m_len (qeb (qv_ rfl (qpv 2)))) za2))))))))) (za6 (zai qe_bl)) zaB)
  (qs_ (M':=[]) (qs_if (M':=[]) (QW.pt (qw_or (zbK (zbn (qeb (ze1 (cn:="list") rfl rfl m_isinstance (qeb (zar rfl hu (qv_ rfl (qpv 0)) (qeb qi_) (fun _ _=>rfl))) (zbY (v:=.ty "list") rfl m_list ziF rfl))))) (zdu (zbK (zbn (qeb (zmu rfl rfl rfl m_all (qnb (qe_lc (Mi:=[]) rfl (zaX (i:=0)) zbI (zdZ (N:=["_law_one"]) (caps:=[none]) rfl (zc4 rfl (zar rfl hu (qv_ rfl (qpv 0)) (qeb qi_) (fun _ _=>rfl))) (fun _ _ _ _ _=>(zag (i:=0) (show (["_law_one"]:List Str).Nodup by decide +kernel) rfl (Or.inl rfl))) zb0 (fun _ _ _ _ _=>zaS) (fun _ _ _ _ _=>(zjW (ze1 (cn:="tuple") rfl rfl m_isinstance (qeb (qv_ rfl (qpv 0))) (zbY (v:=.ty "tuple") rfl m_tuple zgJ rfl)) (zjU (qe_eq hu8 (zaU rfl rfl m_len (qeb (qv_ rfl (qpv 0)))) (qeb qi_))))))))))))))) (za6 (zai qe_bl)) zaB)
  (qs_ (M':=[]) (qs_if (M':=[]) (qt_eq hu8 (qv_ rfl (qpv 2)) (qnb (zaT za2))) (za6 (zai (qe_eq hu8 (qv_ rfl (qpv 0)) (qeb (ze0 (qa_ qi_ (qa_ qe_bl (qa_ (qne (zaT za2)) za2)))))))) zaB)
  (qs_ (M':=[3]) (zbm (M':=[3]) (zab (i:=3) sc.nd rfl (Or.inr rfl) (zaT za2)))
  (qs_ (M':=[3]) (zd2 (zbL PassesOwn.never rfl (zmq rfl rfl m_zip (qa_ (qv_ rfl (qpv 1)) (qa_ (za9 G_l_reading hr rfl m_l_reading k_l_reading zaO (qa_ (qv_ rfl (qpv 2)) (qa_ (zar rfl hu (qv_ rfl (qpv 0)) (qeb qi_) (fun _ _=>rfl)) (qa_ (zar rfl hu (qv_ rfl (qpv 0)) (qeb qi_) (fun _ _=>rfl)) za2))) (ar_ (ar_ (ar_ zad)))) za2))) (zjS (K:=tk.K) (is:=[4,5]) (n:=2) (zhx rfl (zbo (zag (i:=4) sc.nd rfl (Or.inl rfl)) (zbo (zag (i:=5) sc.nd rfl (Or.inl rfl)) zem))))
  (za6 (qs_if (M':=[3]) (zht hu8 (ze0 (qa_ (qv_ rfl (qpv 4)) (qa_ (qv_ rfl (qpv 5)) za2))) (zdx rfl (qpv 3)) (by with_unfolding_all rfl)) (za6 (qs_do (.inl rfl) (zcr rfl (zcq PySem.F.plainAttrs_list PySem.F.slot_list_append PySem.F.type_list_append zb8 (qpv 3) (qa_ (ze0 (qa_ (qv_ rfl (qpv 4)) (qa_ (qv_ rfl (qpv 5)) za2))) za2))))) zaB))))
  (qs_ (M':=[3]) (zah (M':=[3]) (qs_nE (qs_lc (Mi:=[1]) rfl (zaX (i:=0)) zbI (zgT (i:=6) sc.nd rfl rfl (N:=["_law_k","_law_known"]) (caps:=[none,some 3]) rfl (zbc rfl m_range (qa_ qi_ za2)) (fun _ _ _ _ _=>(zag (i:=0) (show (["_law_k","_law_known"]:List Str).Nodup by decide +kernel) rfl (Or.inr rfl))) zb0 (fun _ _ _ _ _=>zaS) (fun _ _ _ _ _=>(zhC rfl rfl rfl m_len rfl m_set (qnb (zms (i0:=1) (Mi:=[]) rfl rfl rfl rfl (zaX (i:=0)) zbI (zdZ (N:=["_law_one","_law_k"]) (caps:=[none,some 0]) rfl (zgj (qpv 1)) (fun _ _ _ _ _=>(zag (i:=0) (show (["_law_one","_law_k"]:List Str).Nodup by decide +kernel) rfl (Or.inl rfl))) zb0 (fun _ _ _ _ _=>zaS) (fun _ _ _ _ _=>(zar rfl hu (qv_ rfl (qpv 0)) (qeb (qv_ rfl (qpv 1))) (fun _ _=>rfl))))))))))))
  (za6 (zai (zjW (qe_eq hu8 (zar rfl hu (qv_ rfl (qpv 0)) (qeb qi_) (fun _ _=>rfl)) (zdx rfl (qpv 3))) (zjU (qe_eq hu8 (qv_ rfl (qpv 6)) (qnb (zaT (qa_ (zaU rfl rfl m_len (zdx rfl (qpv 3))) (qa_ (zaU rfl rfl m_len (zdx rfl (qpv 3))) za2))))))))))))))))
theorem zf2[tk:TheK](h:Here tk.K mg "_law_witness" zaG ["_law_found","_law_word_here","_law_other"])(C_l_reading:Cal P w tk.K mg base 1 "_law_reading" ["_law_word_here","_law_start","_law_back"] (spP .e 3 zas))(m_isinstance:mg "isinstance"=none)(m_bool:mg "bool"=none)(m_len:mg "len"=none)(m_tuple:mg "tuple"=none)(m_max:mg "max"=none)(m_int:mg "int"=none)(m_all:mg "all"=none)(m_list:mg "list"=none)(m_zip:mg "zip"=none)(m_range:mg "range"=none)(m_set:mg "set"=none):Cal P w tk.K mg base 2 "_law_witness" ["_law_found","_law_word_here","_law_other"] (spP .e 3 zav):=
 h.qP zcZ (zbH C_l_reading m_isinstance m_bool m_len m_tuple m_max m_int m_all m_list m_zip m_range m_set)
abbrev zaN:Stmt:=top 16
theorem zd1:FnScope ["_law_some","_law_known","_law_made","_law_name"] ["_law_some"] (za1 zaN):=⟨rfl,rfl,rfl,by decide +kernel,rfl,by decide +kernel,by decide +kernel⟩
def zbE:DS:=(dSeq (dSet 1 (dLst dAn))
  (dSeq (dSet 2 (dLst dAn))
  (dSeq (dFor (dItA (dV 0)) (dGn 3)
  (dSeq (dIfS (dB (d2 zbd (dV 3) (dV 1))) (dDo (dMut mApp 1 (dAc (dV 3) dAn))) dNext)
  (dDo (dMut mApp 2 (dAc (d2LV zc7 1 (dV 3)) dAn)))))
  (dRetI [] (dV 2)))))
def zb9:List T->Option T:=fnP 4 zbE
theorem zcj[tk:TheK]   :QBody tk P w mg base 0 "_law_counted" zaN ["_law_some","_law_known","_law_made","_law_name"] (cS .e [] [] [] [] zbE):=by
 intro f cdv A outer s H E hr
 have sc:=zd1
 have hu:=hu_of hr
 exact (qs_ (M':=[1]) (zbm (M':=[1]) (zab (i:=1) sc.nd rfl (Or.inl rfl) (zaT za2)))
  (qs_ (M':=[1,2]) (zbm (M':=[1,2]) (zab (i:=2) sc.nd rfl (Or.inl rfl) (zaT za2)))
  (qs_ (M':=[1,2]) (zd2 (zbL PassesOwn.never rfl (zc4 rfl (qv_ rfl (qpv 0))) (zcP (zag (i:=3) sc.nd rfl (Or.inl rfl)))
  (qs_ (M':=[1,2]) (qs_if (M':=[1,2]) (zdv hu (qv_ rfl (qpv 3)) (zdx rfl (qpv 1)) (by with_unfolding_all rfl)) (za6 (qs_do (.inl rfl) (zcr rfl (zcq PySem.F.plainAttrs_list PySem.F.slot_list_append PySem.F.type_list_append zb8 (qpv 1) (qa_ (qv_ rfl (qpv 3)) za2))))) zaB)
  (za6 (qs_do (.inl rfl) (zcr rfl (zcq PySem.F.plainAttrs_list PySem.F.slot_list_append PySem.F.type_list_append zb8 (qpv 2) (qa_ (zhD rfl (zcq PySem.F.plainAttrs_list PySem.F.slot_list_index PySem.F.type_list_index zf8 (qpv 1) (zbZ (qeb (qv_ rfl (qpv 3))) zen))) za2))))))))
  (za6 (zjQ (M':=[1]) (zai (qv_ rfl (qpv 2))))))))
theorem zf4[tk:TheK](h:Here tk.K mg "_law_counted" zaN ["_law_some"]) :Cal P w tk.K mg base 1 "_law_counted" ["_law_some"] (spP .e 1 zb9):=
 h.qP zd1 (zcj )
abbrev zb6:Stmt:=top 17
theorem zdX:FnScope ["_law_word_here","_law_found","_law_start","_law_back","_law_here"] ["_law_word_here"] (za1 zb6):=⟨rfl,rfl,rfl,by decide +kernel,rfl,by decide +kernel,by decide +kernel⟩
def zbT:DS:=(dSeq (dSet 1 (dLst dAn))
  (dSeq (dFor (dRg1 (dAc (d1 gLen (dV 0)) dAn)) (dGn 2)
  (dFor (dItA (dLst (dAc (dC (.bl false)) (dAc (dC (.bl true)) dAn)))) (dGn 3)
  (dSeq (dSet 4 (dCall zb9 (dAc (dCall zas (dAc (dV 0) (dAc (dV 2) (dAc (dV 3) dAn)))) dAn)))
  (dIfS (dOr (dB (d2 gEq (dV 1) (dLst dAn))) (dB (d2 gLtA (dV 4) (dV 1)))) (dSet 1 (dV 4)) dNext))))
  (dRetI [] (dV 1))))
def zan:List T->Option T:=fnP 5 zbT
theorem zcF[tk:TheK](C_l_counted:Cal P w tk.K mg base 1 "_law_counted" ["_law_some"] (spP .e 1 zb9))(C_l_reading:Cal P w tk.K mg base 1 "_law_reading" ["_law_word_here","_law_start","_law_back"] (spP .e 3 zas))(m_range:mg "range"=none)(m_len:mg "len"=none)  :QBody tk P w mg base 1 "_law_least" zb6 ["_law_word_here","_law_found","_law_start","_law_back","_law_here"] (cS .e [] [] [] [] zbT):=by
 obtain ⟨f_l_counted,fd_l_counted,G_l_counted,zcj,k_l_counted,m_l_counted⟩:=C_l_counted
 obtain ⟨f_l_reading,fd_l_reading,G_l_reading,zaO,k_l_reading,m_l_reading⟩:=C_l_reading
 intro f cdv A outer s H E hr
 have sc:=zdX
 have hu:=hu_of hr
 have hu8:(A.deeper (envOfC "_law_least" (za1 zb6) s.heap.objs.size f cdv)).units+8 < cLine:=zdF hr
 exact (qs_ (M':=[]) (zah (M':=[]) (zab (i:=1) sc.nd rfl (Or.inl rfl) (qne (zaT za2))))
  (qs_ (M':=[]) (zd2 (zbL PassesOwn.never rfl (zbc rfl m_range (qa_ (zaU rfl rfl m_len (qeb (qv_ rfl (qpv 0)))) za2)) (zcP (zag (i:=2) sc.nd rfl (Or.inl rfl)))
  (za6 (zd2 (zbL PassesOwn.never rfl (zc4 rfl (qne (zaT (qa_ qe_bl (qa_ qe_bl za2))))) (zcP (zag (i:=3) sc.nd rfl (Or.inl rfl)))
  (qs_ (M':=[]) (zah (M':=[]) (zab (i:=4) sc.nd rfl (Or.inl rfl) (za9 G_l_counted hr rfl m_l_counted k_l_counted zcj (qa_ (za9 G_l_reading hr rfl m_l_reading k_l_reading zaO (qa_ (qv_ rfl (qpv 0)) (qa_ (qv_ rfl (qpv 2)) (qa_ (qv_ rfl (qpv 3)) za2))) (ar_ (ar_ (ar_ zad)))) za2) (ar_ zad))))
  (za6 (qs_if (M':=[]) (QW.pt (qw_or (qt_eq hu8 (qv_ rfl (qpv 1)) (qnb (zaT za2))) (zdu (zmn rfl hu (qv_ rfl (qpv 4)) (qeb (qv_ rfl (qpv 1))))))) (za6 (zah (M':=[]) (zab (i:=1) sc.nd rfl (Or.inl rfl) (qv_ rfl (qpv 4))))) zaB))))))))
  (za6 (zai (qv_ rfl (qpv 1))))))
theorem zgY[tk:TheK](h:Here tk.K mg "_law_least" zb6 ["_law_word_here"])(C_l_counted:Cal P w tk.K mg base 1 "_law_counted" ["_law_some"] (spP .e 1 zb9))(C_l_reading:Cal P w tk.K mg base 1 "_law_reading" ["_law_word_here","_law_start","_law_back"] (spP .e 3 zas))(m_range:mg "range"=none)(m_len:mg "len"=none):Cal P w tk.K mg base 2 "_law_least" ["_law_word_here"] (spP .e 1 zan):=
 h.qP zdX (zcF C_l_counted C_l_reading m_range m_len)
abbrev zb4:Stmt:=top 19
theorem zdV:FnScope ["_law_word_here","_law_other","_law_lent","_law_found"] ["_law_word_here","_law_other"] (za1 zb4):=⟨rfl,rfl,rfl,by decide +kernel,rfl,by decide +kernel,by decide +kernel⟩
noncomputable def zcz:DS:=(dSeq (dSet 2 (dLst (dAc (d1 zcw (dV 0)) (dAc (d1 zcw (dV 1)) dAn))))
  (zea zb1 (dAc (d2 gItem (dV 2) (dC (.int 0))) (dAc (d2 gItem (dV 2) (dC (.int 1))) dAn)) 3 (dSeq (dIfD [] (dB (d2 gNe (dV 2) (dLst (dAc (dV 0) (dAc (dV 1) dAn))))) (dRtD (dRetI [] (dC (.bl false)))) dNext)
  (dSeq (dIfD [] (dOr (dB (d2 gNe (d1 gLen (dV 0)) (d1 gLen (dV 1)))) (dB (d2 gNe (dCall zan (dAc (dV 0) dAn)) (dCall zan (dAc (dV 1) dAn))))) (dRtD (dRetI [] (d2 gIs (dV 3) (dC .non)))) dNext)
  (dSeq (dIfD [] (dNot (dTru (dCall zav (dAc (dV 3) (dAc (dV 0) (dAc (dV 1) dAn)))))) (dRtD (dRetI [] (dC (.bl false)))) dNext)
  (dSeq (dApkD [] 3 2 (dTup (dAc (dC (.str "z")) (dAc (dC (.str "z")) dAn))))
  (dRtD (dRetI [] (dCall zav (dAc (dCall zb1 (dAc (d2 gItem (dV 2) (dC (.int 0))) (dAc (d2 gItem (dV 2) (dC (.int 1))) dAn))) (dAc (dV 0) (dAc (dV 1) dAn))))))))))))
noncomputable def zaQ:List T->Option T:=fnP 4 zcz
theorem zbh[tk:TheK](C_p_alike:Cal P w tk.K mg base 3 "alike" ["word","other"] (spD 2 zb1))(C_l_witness:Cal P w tk.K mg base 3 "_law_witness" ["_law_found","_law_word_here","_law_other"] (spP .e 3 zav))(C_l_least:Cal P w tk.K mg base 3 "_law_least" ["_law_word_here"] (spP .e 1 zan))(m_list:mg "list"=none)(m_len:mg "len"=none)  :QBody tk P w mg base 3 "_law_right" zb4 ["_law_word_here","_law_other","_law_lent","_law_found"] (cS .e [] [] [] [] zcz):=by
 obtain ⟨f_p_alike,fd_p_alike,G_p_alike,zcD,k_p_alike,m_p_alike⟩:=C_p_alike
 obtain ⟨f_l_witness,fd_l_witness,G_l_witness,zbH,k_l_witness,m_l_witness⟩:=C_l_witness
 obtain ⟨f_l_least,fd_l_least,G_l_least,zcF,k_l_least,m_l_least⟩:=C_l_least
 intro f cdv A outer s H E hr
 have sc:=zdV
 have hu:=hu_of hr
 have hu8:(A.deeper (envOfC "_law_right" (za1 zb4) s.heap.objs.size f cdv)).units+8 < cLine:=zdF hr
 exact (qs_ (M':=[]) (zah (M':=[]) (zab (i:=2) sc.nd rfl (Or.inl rfl) (qne (zaT (qa_ (qne (zeo rfl rfl rfl m_list (qeb (qv_ rfl (qpv 0))))) (qa_ (qne (zeo rfl rfl rfl m_list (qeb (qv_ rfl (qpv 1))))) za2))))))
  (zhu (x:=3) rfl rfl (ar_ (ar_ zad)) (zab (i:=3) sc.nd rfl (Or.inl rfl) (zj4 G_p_alike hr rfl m_p_alike k_p_alike zcD (qa_ (zar rfl hu (qv_ rfl (qpv 2)) (qeb qi_) (fun _ _=>rfl)) (qa_ (zar rfl hu (qv_ rfl (qpv 2)) (qeb qi_) (fun _ _=>rfl)) za2)))) (zcp (zhw (qt_ne hu8 (qv_ rfl (qpv 2)) (qnb (zaT (qa_ (qv_ rfl (qpv 0)) (qa_ (qv_ rfl (qpv 1)) za2))))) (zek (M':=[]) (Mb:=[]) (za6 (zai qe_bl))) zel)
  (zcp (zhw (QW.pt (qw_or (qt_ne hu8 (zaU rfl rfl m_len (qeb (qv_ rfl (qpv 0)))) (qeb (zaU rfl rfl m_len (qeb (qv_ rfl (qpv 1)))))) (zdu (qt_ne hu8 (za9 G_l_least hr rfl m_l_least k_l_least zcF (qa_ (qv_ rfl (qpv 0)) za2) (ar_ zad)) (qeb (za9 G_l_least hr rfl m_l_least k_l_least zcF (qa_ (qv_ rfl (qpv 1)) za2) (ar_ zad))))))) (zek (M':=[]) (Mb:=[]) (za6 (zai (qe_is (qv_ rfl (qpv 3)) (qeb zjV))))) zel)
  (zcp (zhw (zbK (zbn (qeb (za9 G_l_witness hr rfl m_l_witness k_l_witness zbH (qa_ (qv_ rfl (qpv 3)) (qa_ (qv_ rfl (qpv 0)) (qa_ (qv_ rfl (qpv 1)) za2))) (ar_ (ar_ (ar_ zad))))))) (zek (M':=[]) (Mb:=[]) (za6 (zai qe_bl))) zel)
  (zcp (zkM (k:=2) rfl (ziZ (zcq PySem.F.plainAttrs_list PySem.F.slot_list_append PySem.F.type_list_append zb8 (zmp ix_tup (qpv 3) zkO (fun _ _=>rfl)) (zbZ (ze0 (qa_ zd3 (qa_ zd3 za2))) zen))))
  (zek (M':=[]) (Mb:=[]) (za6 (zai (za9 G_l_witness hr rfl m_l_witness k_l_witness zbH (qa_ (za9 (G_p_alike.imp d_imp) hr rfl m_p_alike k_p_alike zcD (qa_ (zar rfl hu (qv_ rfl (qpv 2)) (qeb qi_) (fun _ _=>rfl)) (qa_ (zar rfl hu (qv_ rfl (qpv 2)) (qeb qi_) (fun _ _=>rfl)) za2)) (ar_ (ar_ zad))) (qa_ (qv_ rfl (qpv 0)) (qa_ (qv_ rfl (qpv 1)) za2))) (ar_ (ar_ (ar_ zad)))))))))))))
theorem zgW[tk:TheK](h:Here tk.K mg "_law_right" zb4 ["_law_word_here","_law_other"])(C_p_alike:Cal P w tk.K mg base 3 "alike" ["word","other"] (spD 2 zb1))(C_l_witness:Cal P w tk.K mg base 3 "_law_witness" ["_law_found","_law_word_here","_law_other"] (spP .e 3 zav))(C_l_least:Cal P w tk.K mg base 3 "_law_least" ["_law_word_here"] (spP .e 1 zan))(m_list:mg "list"=none)(m_len:mg "len"=none):Cal P w tk.K mg base 4 "_law_right" ["_law_word_here","_law_other"] (spP .e 2 zaQ):=
 h.qP zdV (zbh C_p_alike C_l_witness C_l_least m_list m_len)
abbrev zb7:Stmt:=top 13
theorem zdY:FnScope ["_law_cell_here","_law_most"] ["_law_cell_here","_law_most"] (za1 zb7):=⟨rfl,rfl,rfl,by decide +kernel,rfl,by decide +kernel,by decide +kernel⟩
def zcB:DS:=(dSeq (dIfS (dB (d2 gEq (dCall zac (dAc (dV 0) (dAc (dC (.int 14)) (dAc (dC (.int 4)) dAn)))) (dC (.int 0)))) (dRetI [] (dCall zac (dAc (dV 0) (dAc (dC (.int 15)) (dAc (d2 gPlus (dV 1) (dC (.int 1))) dAn))))) dNext)
  (dRetI [] (dCall zac (dAc (dV 0) (dAc (dC (.int 16)) (dAc (d2 gPlus (dA2 imin (dAc (dV 1) (dAc (dC (.int 8)) dAn))) (dC (.int 1))) dAn))))))
def zbq:List T->Option T:=fnP 2 zcB
theorem zdL[tk:TheK](C_l_pick:Cal P w tk.K mg base 1 "_law_pick" ["_law_cell_here","_law_turn","_law_many"] (spP .e 3 zac))(m_min:mg "min"=none)  :QBody tk P w mg base 1 "_law_count" zb7 ["_law_cell_here","_law_most"] (cS .e [] [] [] [] zcB):=by
 obtain ⟨f_l_pick,fd_l_pick,G_l_pick,zat,k_l_pick,m_l_pick⟩:=C_l_pick
 intro f cdv A outer s H E hr
 have sc:=zdY
 have hu8:(A.deeper (envOfC "_law_count" (za1 zb7) s.heap.objs.size f cdv)).units+8 < cLine:=zdF hr
 exact (qs_ (M':=[]) (qs_if (M':=[]) (qt_eq hu8 (za9 G_l_pick hr rfl m_l_pick k_l_pick zat (qa_ (qv_ rfl (qpv 0)) (qa_ qi_ (qa_ qi_ za2))) (ar_ (ar_ (ar_ zad)))) (qeb qi_)) (za6 (zai (za9 G_l_pick hr rfl m_l_pick k_l_pick zat (qa_ (qv_ rfl (qpv 0)) (qa_ qi_ (qa_ (zao (qv_ rfl (qpv 1)) (qeb qi_)) za2))) (ar_ (ar_ (ar_ zad)))))) zaB)
  (za6 (zai (za9 G_l_pick hr rfl m_l_pick k_l_pick zat (qa_ (qv_ rfl (qpv 0)) (qa_ qi_ (qa_ (zao (zkQ rfl rfl m_min znA (qa_ (qv_ rfl (qpv 1)) (qa_ qi_ za2))) (qeb qi_)) za2))) (ar_ (ar_ (ar_ zad)))))))
theorem zgZ[tk:TheK](h:Here tk.K mg "_law_count" zb7 ["_law_cell_here","_law_most"])(C_l_pick:Cal P w tk.K mg base 1 "_law_pick" ["_law_cell_here","_law_turn","_law_many"] (spP .e 3 zac))(m_min:mg "min"=none):Cal P w tk.K mg base 2 "_law_count" ["_law_cell_here","_law_most"] (spP .e 2 zbq):=
 h.qP zdY (zdL C_l_pick m_min)
abbrev s_law:Stmt:=top 20
theorem zjO:FnScope ["_law_script","_law_head","_law_names_here","_law_word_here","_law_far","_law_other","_law_read","_law_at","_law_to","_law_held","_law_more"] ["_law_script"] (za1 s_law):=⟨rfl,rfl,rfl,by decide +kernel,rfl,by decide +kernel,by decide +kernel⟩
noncomputable def d_law:DS:=(dSeq (dSet 1 (dCall zbf (dAc (dV 0) (dAc (dC (.int 0)) dAn))))
  (dSeq (dSet 2 (dCall zbp (dAc (dV 1) (dAc (dCall zbq (dAc (dV 1) (dAc (dC (.int 29)) dAn))) dAn))))
  (dSeq (dSet 3 (dCall zbR (dAc (dCall zbf (dAc (dV 0) (dAc (dC (.int 1)) dAn))) (dAc (dV 2) dAn))))
  (dSeq (dSet 4 (d2 gItem (dLst (dAc (dRev (dV 2) (dOs (d1 gNeg (dC (.int 1))))) (dAc (dCall zbp (dAc (d2 gPlus (dV 1) (dC (.int 1))) (dAc (d1 gLen (dV 2)) dAn))) dAn))) (dCall zac (dAc (dV 1) (dAc (dC (.int 20)) (dAc (dC (.int 2)) dAn))))))
  (dSeq (dSet 5 (dLst dAn))
  (dSeq (dIfS (dB (d2 gNe (dV 3) (dLst dAn))) (dSeq (dSet 6 (dCall zas (dAc (dV 3) (dAc (dCall zac (dAc (dV 1) (dAc (dC (.int 21)) (dAc (d1 gLen (dV 3)) dAn)))) (dAc (d2 gEq (dCall zac (dAc (dV 1) (dAc (dC (.int 22)) (dAc (dC (.int 2)) dAn)))) (dC (.int 1))) dAn)))))
  (dSet 5 (dLC [5] [none,some 4,some 2] (dItA (dV 6)) (dGn 0) dYes (d2 gItem (dV 1) (d2L zc7 (dV 2) (dV 0)))))) dNext)
  (dSeq (dIfS (dOr (dNot (dTru (zcT zaQ 5 (dV 3) dAn))) (dNot (dTru (zfj zaQ 5 (dAc (dV 3) dAn))))) (dRetI [] (dC (.bl false))) dNext)
  (dSeq (dIfS (dB (d2 gNe (dV 3) (dLst dAn))) (dSeq (dSet 7 (dCall zac (dAc (dV 1) (dAc (dC (.int 23)) (dAc (d1 gLen (dV 3)) dAn)))))
  (dSeq (dSet 8 (dCall zac (dAc (dV 1) (dAc (dC (.int 24)) (dAc (d1 gLen (dV 3)) dAn)))))
  (dSeq (dSet 9 (d2v gItem 5 (dV 7)))
  (dSeq (dSetI 5 (dV 7) (d2v gItem 5 (dV 8)))
  (dSetI 5 (dV 8) (dV 9)))))) dNext)
  (dSeq (dIfS (dOr (dNot (dTru (zcT zaQ 5 (dV 3) dAn))) (dNot (dTru (dCall zaQ (dAc (dV 3) (dAc (dCall zbR (dAc (dCall zbf (dAc (dV 0) (dAc (dC (.int 2)) dAn))) (dAc (dV 4) dAn))) dAn)))))) (dRetI [] (dC (.bl false))) dNext)
  (dSeq (dSet 10 (d2 gItem (dLC [5] [none,some 2] (dItA (dLst (dAc (dC (.str "qqq")) (dAc (dC (.str "www")) (dAc (dC (.str "zzz")) dAn))))) (dGn 0) (dB (d2 zbd (dV 0) (dV 1))) (dV 0)) (dC (.int 0))))
  (dRetI [] (dCall zaQ (dAc (dV 3) (dAc (d2 gPlus (dV 3) (dLst (dAc (dV 10) (dAc (dV 10) dAn)))) dAn))))))))))))))
noncomputable def znh:List T->Option T:=fnP 11 d_law
theorem b_law[tk:TheK](C_l_cell:Cal P w tk.K mg base 4 "_law_cell" ["_law_script","_law_k"] (spP .e 2 zbf))(C_l_names:Cal P w tk.K mg base 4 "_law_names" ["_law_cell_here","_law_many"] (spP .e 2 zbp))(C_l_count:Cal P w tk.K mg base 4 "_law_count" ["_law_cell_here","_law_most"] (spP .e 2 zbq))(C_l_word:Cal P w tk.K mg base 4 "_law_word" ["_law_cell_here","_law_names_here"] (spP .e 2 zbR))(C_l_pick:Cal P w tk.K mg base 4 "_law_pick" ["_law_cell_here","_law_turn","_law_many"] (spP .e 3 zac))(C_l_reading:Cal P w tk.K mg base 4 "_law_reading" ["_law_word_here","_law_start","_law_back"] (spP .e 3 zas))(C_l_right:Cal P w tk.K mg base 4 "_law_right" ["_law_word_here","_law_other"] (spP .e 2 zaQ))(m_len:mg "len"=none)  :QBody tk P w mg base 4 "law" s_law ["_law_script","_law_head","_law_names_here","_law_word_here","_law_far","_law_other","_law_read","_law_at","_law_to","_law_held","_law_more"] (cS .e [] [] [] [] d_law):=by
 obtain ⟨f_l_cell,fd_l_cell,G_l_cell,zcG,k_l_cell,m_l_cell⟩:=C_l_cell
 obtain ⟨f_l_names,fd_l_names,G_l_names,zcE,k_l_names,m_l_names⟩:=C_l_names
 obtain ⟨f_l_count,fd_l_count,G_l_count,zdL,k_l_count,m_l_count⟩:=C_l_count
 obtain ⟨f_l_word,fd_l_word,G_l_word,zdl,k_l_word,m_l_word⟩:=C_l_word
 obtain ⟨f_l_pick,fd_l_pick,G_l_pick,zat,k_l_pick,m_l_pick⟩:=C_l_pick
 obtain ⟨f_l_reading,fd_l_reading,G_l_reading,zaO,k_l_reading,m_l_reading⟩:=C_l_reading
 obtain ⟨f_l_right,fd_l_right,G_l_right,zbh,k_l_right,m_l_right⟩:=C_l_right
 intro f cdv A outer s H E hr
 have sc:=zjO
 have hu:=hu_of hr
 have hu8:(A.deeper (envOfC "law" (za1 s_law) s.heap.objs.size f cdv)).units+8 < cLine:=zdF hr
 exact (qs_ (M':=[]) (zah (M':=[]) (zab (i:=1) sc.nd rfl (Or.inl rfl) (za9 G_l_cell hr rfl m_l_cell k_l_cell zcG (qa_ (qv_ rfl (qpv 0)) (qa_ qi_ za2)) (ar_ (ar_ zad)))))
  (qs_ (M':=[]) (zah (M':=[]) (zab (i:=2) sc.nd rfl (Or.inr rfl) (za9 G_l_names hr rfl m_l_names k_l_names zcE (qa_ (qv_ rfl (qpv 1)) (qa_ (za9 G_l_count hr rfl m_l_count k_l_count zdL (qa_ (qv_ rfl (qpv 1)) (qa_ qi_ za2)) (ar_ (ar_ zad))) za2)) (ar_ (ar_ zad)))))
  (qs_ (M':=[]) (zah (M':=[]) (zab (i:=3) sc.nd rfl (Or.inl rfl) (za9 G_l_word hr rfl m_l_word k_l_word zdl (qa_ (za9 G_l_cell hr rfl m_l_cell k_l_cell zcG (qa_ (qv_ rfl (qpv 0)) (qa_ qi_ za2)) (ar_ (ar_ zad))) (qa_ (qv_ rfl (qpv 2)) za2)) (ar_ (ar_ zad)))))
  (qs_ (M':=[]) (zah (M':=[]) (zab (i:=4) sc.nd rfl (Or.inr rfl) (zar rfl hu (qne (zaT (qa_ (qne (zhz rfl (qv_ rfl (qpv 2)) (zaJ (zhA (qeb qi_))))) (qa_ (za9 G_l_names hr rfl m_l_names k_l_names zcE (qa_ (zao (qv_ rfl (qpv 1)) (qeb qi_)) (qa_ (zaU rfl rfl m_len (qeb (qv_ rfl (qpv 2)))) za2)) (ar_ (ar_ zad))) za2)))) (qeb (za9 G_l_pick hr rfl m_l_pick k_l_pick zat (qa_ (qv_ rfl (qpv 1)) (qa_ qi_ (qa_ qi_ za2))) (ar_ (ar_ (ar_ zad))))) (fun _ _=>rfl))))
  (qs_ (M':=[5]) (zbm (M':=[5]) (zab (i:=5) sc.nd rfl (Or.inl rfl) (zaT za2)))
  (qs_ (M':=[5]) (qs_if (M':=[5]) (qt_ne hu8 (qv_ rfl (qpv 3)) (qnb (zaT za2))) (qs_ (M':=[5]) (zah (M':=[5]) (zab (i:=6) sc.nd rfl (Or.inl rfl) (za9 G_l_reading hr rfl m_l_reading k_l_reading zaO (qa_ (qv_ rfl (qpv 3)) (qa_ (za9 G_l_pick hr rfl m_l_pick k_l_pick zat (qa_ (qv_ rfl (qpv 1)) (qa_ qi_ (qa_ (zaU rfl rfl m_len (qeb (qv_ rfl (qpv 3)))) za2))) (ar_ (ar_ (ar_ zad)))) (qa_ (qe_eq hu8 (za9 G_l_pick hr rfl m_l_pick k_l_pick zat (qa_ (qv_ rfl (qpv 1)) (qa_ qi_ (qa_ qi_ za2))) (ar_ (ar_ (ar_ zad)))) (qeb qi_)) za2))) (ar_ (ar_ (ar_ zad))))))
  (za6 (zbm (M':=[5]) (qs_lc (Mi:=[]) rfl (zaX (i:=0)) zbI (zdw (i:=5) sc.nd rfl rfl (N:=["_law_name","_law_far","_law_names_here"]) (caps:=[none,some 4,some 2]) rfl (zc4 rfl (qv_ rfl (qpv 6))) (fun _ _ _ _ _=>(zag (i:=0) (show (["_law_name","_law_far","_law_names_here"]:List Str).Nodup by decide +kernel) rfl (Or.inl rfl))) zb0 (fun _ _ _ _ _=>zaS) (fun _ _ _ _ _=>(zar rfl hu (qv_ rfl (qpv 1)) (qeb (zj1 (zcq PySem.F.plainAttrs_list PySem.F.slot_list_index PySem.F.type_list_index zf8 (qv_ rfl (qpv 2)) (zbZ (qeb (qv_ rfl (qpv 0))) zen)))) (fun _ _=>rfl)))))))) zaB)
  (qs_ (M':=[5]) (qs_if (M':=[5]) (QW.pt (qw_or (zbK (zbn (qeb (zeT rfl G_l_right hr rfl m_l_right k_l_right zbh (qv_ rfl (qpv 3)) (qpv 5) za2 zad)))) (zdu (zbK (zbn (qeb (zj7 rfl G_l_right hr rfl m_l_right k_l_right zbh (qpv 5) (qa_ (qv_ rfl (qpv 3)) za2) (ar_ zad)))))))) (za6 (zai qe_bl)) zaB)
  (qs_ (M':=[5]) (qs_if (M':=[5]) (qt_ne hu8 (qv_ rfl (qpv 3)) (qnb (zaT za2))) (qs_ (M':=[5]) (zah (M':=[5]) (zab (i:=7) sc.nd rfl (Or.inl rfl) (za9 G_l_pick hr rfl m_l_pick k_l_pick zat (qa_ (qv_ rfl (qpv 1)) (qa_ qi_ (qa_ (zaU rfl rfl m_len (qeb (qv_ rfl (qpv 3)))) za2))) (ar_ (ar_ (ar_ zad))))))
  (qs_ (M':=[5]) (zah (M':=[5]) (zab (i:=8) sc.nd rfl (Or.inl rfl) (za9 G_l_pick hr rfl m_l_pick k_l_pick zat (qa_ (qv_ rfl (qpv 1)) (qa_ qi_ (qa_ (zaU rfl rfl m_len (qeb (qv_ rfl (qpv 3)))) za2))) (ar_ (ar_ (ar_ zad))))))
  (qs_ (M':=[5]) (zah (M':=[5]) (zab (i:=9) sc.nd rfl (Or.inl rfl) (zbj rfl rfl hu (qpv 5) (qeb (qv_ rfl (qpv 7))) (fun _ _=>rfl))))
  (qs_ (M':=[5]) (zcM rfl (zcN (zbj rfl rfl hu (qpv 5) (qeb (qv_ rfl (qpv 8))) (fun _ _=>rfl)) (zcO (qpv 5) (qv_ rfl (qpv 7)) zbW)))
  (za6 (zcM rfl (zcN (qv_ rfl (qpv 9)) (zcO (qpv 5) (qv_ rfl (qpv 8)) zbW)))))))) zaB)
  (qs_ (M':=[5]) (qs_if (M':=[5]) (QW.pt (qw_or (zbK (zbn (qeb (zeT rfl G_l_right hr rfl m_l_right k_l_right zbh (qv_ rfl (qpv 3)) (qpv 5) za2 zad)))) (zdu (zbK (zbn (qeb (za9 G_l_right hr rfl m_l_right k_l_right zbh (qa_ (qv_ rfl (qpv 3)) (qa_ (za9 G_l_word hr rfl m_l_word k_l_word zdl (qa_ (za9 G_l_cell hr rfl m_l_cell k_l_cell zcG (qa_ (qv_ rfl (qpv 0)) (qa_ qi_ za2)) (ar_ (ar_ zad))) (qa_ (qv_ rfl (qpv 4)) za2)) (ar_ (ar_ zad))) za2)) (ar_ (ar_ zad))))))))) (za6 (zai qe_bl)) zaB)
  (qs_ (M':=[5]) (zah (M':=[5]) (zab (i:=10) sc.nd rfl (Or.inl rfl) (zar rfl hu (qne (qe_lc (Mi:=[]) rfl (zaX (i:=0)) (fun _ _ _ h=>h) (zdZ (N:=["_law_name","_law_names_here"]) (caps:=[none,some 2]) rfl (zc4 rfl (qne (zaT (qa_ zd3 (qa_ zd3 (qa_ zd3 za2)))))) (fun _ _ _ _ _=>(zag (i:=0) (show (["_law_name","_law_names_here"]:List Str).Nodup by decide +kernel) rfl (Or.inl rfl))) zb0 (fun _ _ _ _ _=>(ziY (zdv hu (qv_ rfl (qpv 0)) (qeb (qv_ rfl (qpv 1))) (by with_unfolding_all rfl)))) (fun _ _ _ _ _=>(qv_ rfl (qpv 0)))))) (qeb qi_) (fun _ _=>rfl))))
  (za6 (zai (za9 G_l_right hr rfl m_l_right k_l_right zbh (qa_ (qv_ rfl (qpv 3)) (qa_ (zao (qv_ rfl (qpv 3)) (qnb (zaT (qa_ (qv_ rfl (qpv 10)) (qa_ (qv_ rfl (qpv 10)) za2))))) za2)) (ar_ (ar_ zad)))))))))))))))
end Dw
set_option maxHeartbeats 1000000
namespace Dw
open PySem L2 L3
theorem zaV(c turn many:Int)(h0:0<=turn)(h1:turn<=1000)(hm:0 < many):∃ z:Int,zac [.int c,.int turn,.int many]=some (.int z)/\0<=z/\z < many:=by
 have m1:bMul (c%2147483647+7) (48271+7919*turn)=true:=by unfold bMul; rw [Bool.or_eq_true,decide_eq_true_iff]; left; lia
 have m2:bMul 7919 turn=true:=by unfold bMul; rw [Bool.or_eq_true,decide_eq_true_iff]; left; lia
 have m3:bMul ((c%2147483647+7)*(48271+7919*turn)%2147483647) 16807=true:=by unfold bMul; rw [Bool.or_eq_true,decide_eq_true_iff]; left; lia
 refine ⟨(c%2147483647+7)*(48271+7919*turn)%2147483647*16807%2147483647 / 8%many,?_,Int.emod_nonneg _ (by lia),Int.emod_lt_of_pos _ hm⟩
 unfold zac fnP zev
 simp [dSeq,dSet,dRetI,dV,dC,d2,gMod,gMul,gDiv,gPlus,orG,gAdd,gI,zax,hasAll,bMod,bDiv,m1,m2,m3,hm]
theorem zkF:dOs (d1 gNeg (dC (.int 1)))=fun s=>some (some (-1),s):=by funext s; rfl
theorem zg1(ns:List Int)(k:Nat):zbf [.scr ns,.int k]=some (.int (ns.getD k 0)):=by
 unfold zbf fnP zew
 by_cases h:k < ns.length
 ·have e:atI ns (k:Int)=some ns[k]:=znD (List.getElem?_eq_getElem h)
  simp [dSeq,dNext,dIfS,dRetI,dV,dC,d2,d1,dB,gLt,gCmp,gLen,gItem,orG,gIx,zax,hasAll,h,e]
 ·simp [dSeq,dNext,dIfS,dRetI,dV,dC,d2,d1,dB,gLt,gCmp,gLen,gItem,orG,gIx,zax,hasAll,h]
structure Bag2 where
 (a b:Int)
def Bag2.t(x:Bag2):T:=.lst [.int x.a,.int x.b]
structure Bag2.Ok (x:Bag2):Prop where
 b0:0<=x.b
 b1:x.b < 2147483647
theorem zlB(n:Int):∃ x:Bag2,zc1 [.int n]=some x.t/\x.Ok:=by
 have m1:bMul (n / 2) (n%2)=true:=by unfold bMul; rw [Bool.or_eq_true,decide_eq_true_iff,decide_eq_true_iff]; right; lia
 have q2:2<=sizeLine:=zaK (by lia)
 refine ⟨⟨n / 2*(n%2),n / 2%2147483647⟩,?_,⟨Int.emod_nonneg _ (by lia),Int.emod_lt_of_pos _ (by lia)⟩⟩
 simp [zc1,fnPn,zfU,zax,dRetI,dLst,dAc,dAn,d2,dV,dC,gMul,gDiv,gMod,gI,bDiv,bMod,m1,hasAll,q2,Bag2.t]
theorem zlu{x:Bag2}(h:x.Ok)(n:Int)(hn:0 < n)(hn2:n < 1073741824):∃ (z:Int) (y:Bag2),zbe [x.t,.int n]=some (.int z,y.t)/\y.Ok/\0<=z/\z < n:=by
 have h0:=h.b0
 have h1:=h.b1
 have m1:bMul x.b 48271=true:=by unfold bMul; rw [Bool.or_eq_true,decide_eq_true_iff]; left; lia
 have m2:bMul ((x.b*48271+4099)%2147483647) ((x.b*48271+4099)%2147483647 / 65536+7)=true:=by unfold bMul; rw [Bool.or_eq_true,decide_eq_true_iff]; left; lia
 by_cases hp:0 < x.a
 ·refine ⟨x.a%n,⟨x.a / n,x.b⟩,?_,⟨h0,h1⟩,Int.emod_nonneg _ (by lia),Int.emod_lt_of_pos _ hn⟩
  unfold zbe fnI zdk Bag2.t
  simp [dSeq,dNext,dIfS,dSet,dSetI,dRetI,dV,dC,d2,d2v,d1,dB,gGt,gI1,gItem,orG,gIx,gMod,gDiv,gI,bMod,bDiv,zax,hasAll,atI,ixN,hp,hn,hn2]
 ·refine ⟨(x.b*48271+4099)%2147483647*((x.b*48271+4099)%2147483647 / 65536+7)%2147483629 / 32%n,⟨x.a,(x.b*48271+4099)%2147483647⟩,?_,⟨Int.emod_nonneg _ (by lia),Int.emod_lt_of_pos _ (by lia)⟩,Int.emod_nonneg _ (by lia),Int.emod_lt_of_pos _ hn⟩
  unfold zbe fnI zdk Bag2.t
  simp [dSeq,dNext,dIfS,dSet,dSetI,dRetI,dV,dC,d2,d2v,d1,dB,gGt,gI1,gItem,orG,gIx,gMod,gDiv,gMul,gPlus,gAdd,gI,bMod,bDiv,zax,hasAll,atI,ixN,hp,m1,m2,hn,hn2]
theorem ziz(c:Int){M:Nat}(hM:M<=30)(h8:8<=M):∃ m:Nat,zbq [.int c,.int M]=some (.int m)/\m<=M:=by
 obtain ⟨z,e,_,_⟩:=zaV c 14 4 (by decide) (by decide) (by decide)
 obtain ⟨z1,e1,a1,b1⟩:=zaV c 15 ((M:Int)+1) (by decide) (by decide) (by lia)
 obtain ⟨z2,e2,a2,b2⟩:=zaV c 16 9 (by decide) (by decide) (by decide)
 have hmin:imin (M:Int) 8=8:=by unfold imin; split<;>lia
 unfold zbq
 by_cases h:z=0
 ·refine ⟨z1.toNat,?_,by lia⟩
  rw [Int.toNat_of_nonneg a1]
  simp [fnP,zcB,dSeq,dNext,dIfS,dRetI,dV,dC,d2,dB,gEq,dCall,dAc,dAn,gPlus,orG,gAdd,zax,hasAll,e,e1,zdH,h]
 ·refine ⟨z2.toNat,?_,by lia⟩
  rw [Int.toNat_of_nonneg a2]
  simp [fnP,zcB,dSeq,dNext,dIfS,dRetI,dV,dC,d2,dB,gEq,dCall,dAc,dAn,gPlus,orG,gAdd,dA2,hmin,zax,hasAll,e,e2,zdH,h]
end Dw
local macro_rules | `(tactic| simp_all? [$args,*]) => `(tactic| simp (disch := (first | lia | (simp only [List.length_map, List.length_append, List.length_cons, List.length_nil, List.length_reverse, List.length_range, List.length_set, List.length_take, List.length_drop, List.length_zipIdx]; lia))) only [L3.vdV, L3.vdC, L3.vd2, L3.vd2v, L3.vdB, L3.vdTru, L3.vdAnd, L3.vdOr, L3.vdNot, L3.zlY, L3.vdOrV, L3.zlQ, L3.vdIf, L3.vdAn, L3.vdAc, L3.vdLst, L3.vdTup, L3.zlV, L3.vdOn, L3.vdOs, L3.vdSl, L3.vdSlV, L3.vdSeq, L3.zlR, L3.vdSet, L3.vdIfS, L3.vdDo, L3.vdBrk, L3.vdCnt, L3.zlP, L3.vdMut, L3.vdPut, L3.zlM, L3.vdAug, L3.vdUn, L3.vdRg1, L3.vdRg2, L3.vdEn, L3.vdGn, L3.vdGt, L3.zlX, L3.zkm, L3.zkl, L3.vd1, L3.vdA2, L3.zlT, L3.vd2L, L3.vdItA, L3.vdItF, L3.vdItS, L3.vdCh, L3.vdRev, L3.vdLR, L3.vdItV, L3.vd2LV, L3.vdFzS, L3.vdItW, L3.zlU, L3.zkj, L3.zkn, L3.vdItR, L3.vdRg3, L3.vdPar, L3.zlN, L3.zlO, L3.ziO, L3.vdLC2, L3.vdLZ, L3.vdRgZ, L3.vdEnK, L3.zlL, L3.ziN, L3.vdRtD, L3.zlS, L3.zlW, L3.zkk, L3.vdFl, L3.vdLZs, L3.vdT3, L3.vdZip, L3.vdIsi, L3.vdYes, L3.vnT, L3.zm1, L3.zm0, L3.vCatL, L3.vSb, L3.vMul, L3.vDiv, L3.vMod, L3.vNeg, L3.vLt, L3.vLe, L3.vGt, L3.vGe, L3.vEqI, L3.vNeI, L3.vEqB, L3.vNeB, L3.vEqS, L3.vNeS, L3.vEqSs, L3.vNeSs, L3.vEqNs, L3.vNeNs, L3.vLenL, L3.vLenT, L3.vLenD, L3.vLenR, L3.zcX, L3.zm4, L3.zks, L3.zkt, L3.vTruB, L3.vTruL, L3.vTruI, L3.zm3, L3.zm2, L3.vAppS, L3.vAppN, L3.zko, L3.vInS, L3.vInN, L3.zkp, L3.vInD, L3.zkq, L3.zku, L3.zlH, L3.zlI, L3.zlJ, L3.zlK, L3.zlF, L3.zlG, L3.zh4, L3.vcap0, L3.vcapN, L3.vcapS, L3.vAllB, L3.vAnyB, L3.zic, L3.vsign, L3.sz0, L3.sz1, L3.sz2, L3.sz3, L3.sz4, List.getElem?_cons_zero, List.getElem?_cons_succ, L3.zfL, Option.bind_some, Option.map_some, List.set_cons_succ, List.set_cons_zero, List.length_cons, List.length_nil, List.length_map, if_true, if_false, Bool.not_true, Bool.not_false, decide_true, decide_false, Bool.false_eq_true, L3.zbb, L3.zi9, Nat.reduceAdd, Nat.reduceLT, Int.zero_add, $args,*])
namespace Dw
open PySem L2 L3
theorem zfg{α β:Type}(f:α->β):∀ (l:List α) (n:Nat),(l.map f).eraseIdx n=(l.eraseIdx n).map f
 | [],_=>rfl
 | _::_,0=>rfl
 | a::l,n+1=>congrArg (f a::·) (zfg f l n)
theorem zjX{xs:List T}{i:Int}{y:T}(h0:0<=i)(h1:i<=1000000)(h:xs[i.toNat]?=some y):zc6 (.lst xs) [.int i]=some (.lst (xs.eraseIdx i.toNat),y):=by
 simp [zc6,h0,h1,h]
theorem zgt{n j:Nat}(h:j < n):ixN n (j:Int)=some j:=by simp [ixN,h]
theorem zcs:∀ {l:List Nat} {n:Nat},l.Nodup->(h:n < l.length)->l[n]∉l.eraseIdx n
 | [],_,_,h=>absurd h (Nat.not_lt_zero _)
 | a::l,0,hd,_=>by rw [List.nodup_cons] at hd; exact hd.1
 | a::l,n+1,hd,h=>by
  rw [List.nodup_cons] at hd
  have h':n < l.length:=by simpa using h
  rw [List.getElem_cons_succ,List.eraseIdx_cons_succ,List.mem_cons]
  rintro (z | z)
  ·exact hd.1 (z▸List.getElem_mem h')
  ·exact zcs hd.2 h' z
def nmO(names:List Str):Option Nat->Str
 | none=>Str.ofString ""
 | some k=>names.getD k Str.empty
theorem zg6(c:Int){names:List Str}(hn:names.length<=30)(hd:names.Nodup)(hN:∀ x∈names,zca x):∃ wd:List Str,zbR [.int c,.lst (names.map T.str)]=some (.lst (wd.map T.str))/\GoodWord wd/\wd.length=2*names.length/\∀ x∈wd,x∈names:=by
 obtain ⟨B,eb,ob⟩:=zlB c
 have hr:rgOk (2*((names.length:Nat):Int))=true:=zcJ (by lia) (by lia)
 have e2:(2*((names.length:Nat):Int)).toNat=2*names.length:=by lia
 obtain ⟨t,e,wd,rfl,gw⟩:=zfP (n:=8) (d:=zdj) (ts:=[.int c,.lst (names.map T.str)]) (Q:=fun t=>∃ wd:List Str,t=.lst (wd.map T.str)/\GoodWord wd/\wd.length=2*names.length/\∀ x∈wd,x∈names) (by
  unfold zdj
  show Run _ [some (.int c),some (.lst (names.map T.str)),none,none,none,none,none,none] _
  refine zak (by simp_all? [eb]<;>rfl) (zak (by simp_all? [hr,e2,zco]<;>rfl) ?_)
  have l1:=zbA (M:=[2,3]) (caps:=[none]) (fi:=dItV 3) (dg:=dGn 0) (fe:=dC (.str "")) (s:=[some (.int c),some (.lst (names.map T.str)),some B.t,some (.lst ((List.range (2*names.length)).map nT)),none,none,none,none]) (List.range (2*names.length)) nT (fun _=>.str "") (by simp_all? []) (by simp; lia) (fun z _=>⟨[some (nT z)],rfl,rfl,rfl⟩)
  have l2:(List.range (2*names.length)).map (fun _=>T.str "")=((List.replicate (2*names.length) none).map (nmO names)).map T.str:=by
   rw [List.map_replicate,List.map_replicate]
   refine (List.eq_replicate_iff (a:=T.str (Str.ofString ""))).mpr ⟨by simp,fun b hb=>?_⟩
   obtain ⟨_,_,h⟩:=List.mem_map.mp hb
   exact h.symm
  rw [l2] at l1
  refine zak (by simp_all? [l1]<;>rfl) ?_
  refine zcI (its:=names.map T.str) (fun i s=>∃ (y:Bag2) (fr:List Nat) (pl:List (Option Nat)) (a b d:Option T),s=[some (.int c),some (.lst (names.map T.str)),some y.t,some (.lst (fr.map nT)),some (.lst ((pl.map (nmO names)).map T.str)),a,b,d]/\y.Ok/\fr.length+2*i=2*names.length/\fr.Nodup/\(∀ k∈fr,pl[k]?=some none)/\Half pl names.length i)
   (by simp_all? []<;>rfl) ⟨B,_,_,_,_,_,rfl,ob,by simp,List.nodup_range,fun k hk=>by rw [List.getElem?_replicate,if_pos (List.mem_range.mp hk)],Half.start _⟩ ?_ ?_
  ·rintro i z s hz ⟨y,fr,pl,a,b,d,rfl,oy,hl,hnd,hlt,hh⟩
   rw [List.getElem?_map] at hz
   obtain ⟨x,hx,rfl⟩:=Qm hz
   have hi:i < names.length:=(List.getElem?_eq_some_iff.mp hx).1
   refine ⟨_,by simp_all? []<;>rfl,?_⟩
   match fr,hl,hnd,hlt with
   | [],hl,_,_=>exact absurd hl (by simp; lia)
   | k0::fr,hl,hnd,hlt=>
   rw [List.length_cons] at hl
   rw [List.nodup_cons] at hnd
   have hk0:=hlt k0 (List.mem_cons_self ..)
   obtain ⟨u,y',eu,o',a',b'⟩:=zlu oy (fr.length:Int) (by lia) (by lia)
   have hu:u.toNat < fr.length:=by lia
   have hk1:=hlt fr[u.toNat] (List.mem_cons_of_mem _ (List.getElem_mem hu))
   have hne:k0≠fr[u.toNat]:=fun z=>hnd.1 (z▸List.getElem_mem hu)
   have hlen:=hh.len
   have q0:k0 < pl.length:=(List.getElem?_eq_some_iff.mp hk0).1
   have q1:fr[u.toNat] < pl.length:=(List.getElem?_eq_some_iff.mp hk1).1
   have p0:zc6 (.lst ((k0::fr).map nT)) [.int 0]=some (.lst (fr.map nT),nT k0):=zjX (by decide) (by decide) rfl
   have p1:zc6 (.lst (fr.map nT)) [.int u]=some (.lst ((fr.eraseIdx u.toNat).map nT),nT fr[u.toNat]):=by
    have:=zjX (xs:=fr.map nT) (y:=nT fr[u.toNat]) a' (by lia) (by rw [List.getElem?_map,List.getElem?_eq_getElem hu]; rfl)
    rw [this,zfg]
   have hxn:x=nmO names (some i):=by
    show x=names.getD i Str.empty
    rw [zaz hi]
    exact (Option.some.inj ((List.getElem?_eq_getElem hi).symm.trans hx)).symm
   have i0:=zgt (n:=pl.length) q0
   have i1:=zgt (n:=pl.length) q1
   refine zak (by simp_all? [p0]<;>rfl) ?_
   refine zak (by simp_all? [eu,p1]<;>rfl) ?_
   refine zak (by simp_all? [i0]<;>rfl) ?_
   refine zbX (by simp_all? [List.length_set,i1]<;>rfl) ⟨y',fr.eraseIdx u.toNat,(pl.set k0 (some i)).set fr[u.toNat] (some i),some (.str x),some (.int (k0:Int)),some (.int ((fr[u.toNat]:Nat):Int)),?_,o',?_,hnd.2.sublist (List.eraseIdx_sublist _ _),fun k hk=>?_,?_⟩
   ·rw [List.map_set,List.map_set,List.map_set,List.map_set,<-hxn]
   ·rw [List.length_eraseIdx_of_lt hu]; lia
   ·have hk':k∈fr:=List.mem_of_mem_eraseIdx hk
    have n0:k0≠k:=fun z=>hnd.1 (z▸hk')
    have n1:fr[u.toNat]≠k:=fun z=>by
     rw [<-z] at hk
     exact zcs hnd.2 hu hk
    rw [List.getElem?_set_ne n1,List.getElem?_set_ne n0]
    exact hlt k (List.mem_cons_of_mem _ hk')
   ·exact hh.next hi hk1 hk0 (Ne.symm hne)
  ·rintro s ⟨y,fr,pl,a,b,d,rfl,oy,hl,hnd,hlt,hh⟩
   rw [List.length_map] at hh
   obtain ⟨ps,hp,rfl⟩:=hh.done
   have hg:=zfN hn rfl hd hN hp
   refine ⟨_,by simp_all? []<;>rfl,_,_,rfl,_,rfl,?_,?_,fun x hx=>?_⟩
   ·rw [List.map_map]; exact hg
   ·rw [List.length_map,List.length_map,hp.len]
   ·rw [List.map_map] at hx
    obtain ⟨k,hk,rfl⟩:=List.mem_map.mp hx
    have hk':=hp.lt k hk
    show names.getD k Str.empty∈names
    rw [zaz hk']
    exact List.getElem_mem hk')
 exact ⟨wd,e,gw⟩
end Dw
set_option maxHeartbeats 2000000
namespace Dw
open PySem L2 L3
theorem zfY{α β:Type}(f:α->β)(xs:List α)(lo hi:Option Int):cutT (xs.map f) lo hi=(cutT xs lo hi).map f:=by
 unfold cutT
 rw [List.length_map,List.map_take,List.map_drop]
theorem zcg{z:Int}(h0:0<=z)(h:z < 26):gItem (.str letters) (.int z)=some (.str (Sx [97+z.toNat])):=by
 simp only [gItem,orG,gIx,zfJ,if_true,zh2 h0 h,Option.map_some]
 rfl
theorem zde(l m:List Nat)(h:l.length+m.length<=1000):gPlus (.str (Sx l)) (.str (Sx m))=some (.str (Sx (l++m))):=by
 rw [zlZ (by rw [zdM,zdM]; lia),znI]
def LowC(l:List Nat):Prop:=∀ c∈l,97<=c/\c<=122
theorem zhV{l:List Nat}(h:LowC l)(h1:1<=l.length)(h8:l.length<=8):zca (Sx l):=by
 unfold zca
 rw [zdM,zft]
 exact ⟨h1,h8,h⟩
def farN(base:List Nat)(spot f:Nat)(k:Nat):List Nat:=base.take spot++[97+(f+5*k)%26,97+(f+k / 26)%26]++base.drop spot
theorem zjv{base:List Nat}{spot f j k:Nat}(hj:j < 31)(hk:k < 31)(h:farN base spot f j=farN base spot f k):j=k:=by
 unfold farN at h
 rw [List.append_assoc,List.append_assoc] at h
 have h2:=List.append_cancel_left h
 simp only [List.cons_append,List.nil_append,List.cons.injEq] at h2
 obtain ⟨e1,e2,_⟩:=h2
 have e3:j / 26=k / 26:=by omega
 clear e2 h
 omega
theorem zli{base:List Nat}{spot f k:Nat}(hb:LowC base)(hl:base.length<=6):zca (Sx (farN base spot f k)):=by
 have hlen:(farN base spot f k).length=base.length+2:=by
  unfold farN
  simp only [List.length_append,List.length_take,List.length_drop,List.length_cons,List.length_nil]
  lia
 refine zhV (fun c hc=>?_) (by lia) (by lia)
 unfold farN at hc
 simp only [List.mem_append,List.mem_cons,List.not_mem_nil,or_false] at hc
 rcases hc with (q | q | q) | q
 ·exact hb c (List.mem_of_mem_take q)
 ·lia
 ·lia
 ·exact hb c (List.mem_of_mem_drop q)
theorem zgm{α:Type}[DecidableEq α]:∀ {l m:List α},l.Nodup->(∀ x∈l,x∈m)->l.length<=m.length
 | [],m,_,_=>Nat.zero_le _
 | a::l,m,hd,h=>by
  rw [List.nodup_cons] at hd
  have ha:=h a List.mem_cons_self
  have ih:=zgm (l:=l) (m:=m.erase a) hd.2 fun x hx=>(List.mem_erase_of_ne (fun (z:x=a)=>hd.1 (z▸hx))).mpr (h x (List.mem_cons_of_mem _ hx))
  rw [List.length_erase_of_mem ha] at ih
  have:=List.length_pos_of_mem ha
  rw [List.length_cons]
  lia
structure Made (base:List Nat) (spot f:Nat) (k:Nat) (mk:List Str):Prop where
 nd:mk.Nodup
 nm:∀ x∈mk,zca x
 has:∀ j,j < k->Sx (farN base spot f j)∈mk
 len:mk.length<=6+k
 fm:∀ x∈mk,(∃ i,x=Sx (base.take i))∨∃ j,x=Sx (farN base spot f j)
theorem Made.enough{base:List Nat}{spot f k:Nat}{mk:List Str}(h:Made base spot f k mk)(hk:k<=31):k<=mk.length:=by
 have hnd:((List.range k).map fun j=>Sx (farN base spot f j)).Nodup:=by
  refine List.Pairwise.map _ (R:=fun a b=>a≠b/\a < 31/\b < 31) (fun a b ⟨n,ha,hb⟩ z=>n (zjv ha hb (zc8 z))) ?_
  refine List.Pairwise.imp_of_mem (R:=fun a b=>a≠b) (fun {a b} ha hb n=>⟨n,by have:=List.mem_range.mp ha; lia,by have:=List.mem_range.mp hb; lia⟩) List.nodup_range
 have:=zgm hnd (m:=mk) (fun x hx=>by
  obtain ⟨j,hj,rfl⟩:=List.mem_map.mp hx
  exact h.has j (List.mem_range.mp hj))
 simpa using this
theorem zeu{base:List Nat}{spot f k:Nat}:(farN base spot f k).length=base.length+2:=by
 unfold farN
 simp only [List.length_append,List.length_take,List.length_drop,List.length_cons,List.length_nil]
 lia
theorem zgB{c:Nat}{spot f k a:Nat}(h:farN [c] spot f k=[a,a,a]):c=a:=by
 unfold farN at h
 cases spot with
 | zero=>
  simp at h
  exact h.2.2
 | succ n=>
  simp at h
  exact h.1
theorem Made.notBoth{base:List Nat}{spot f k:Nat}{mk:List Str}(h:Made base spot f k mk)(h1:Sx [113,113,113]∈mk)(h2:Sx [119,119,119]∈mk):False:=by
 rcases h.fm _ h1 with ⟨i,e1⟩ | ⟨i,e1⟩<;>rcases h.fm _ h2 with ⟨j,e2⟩ | ⟨j,e2⟩
 ·have a1:=zc8 e1
  have a2:=zc8 e2
  have b1:(base.take i)[0]?=some 113:=by rw [<-a1]; rfl
  have b2:(base.take j)[0]?=some 119:=by rw [<-a2]; rfl
  rw [List.getElem?_take] at b1 b2
  split at b1
  ·split at b2
   ·rw [b1] at b2; cases b2
   ·cases b2
  ·cases b1
 ·have a1:=congrArg List.length (zc8 e1)
  have a2:=congrArg List.length (zc8 e2)
  rw [zeu] at a2
  rw [List.length_take] at a1
  simp at a1 a2
  lia
 ·have a1:=congrArg List.length (zc8 e1)
  have a2:=congrArg List.length (zc8 e2)
  rw [zeu] at a1
  rw [List.length_take] at a2
  simp at a1 a2
  lia
 ·have a1:=zc8 e1
  have a2:=zc8 e2
  have l1:=congrArg List.length a1
  rw [zeu] at l1
  simp at l1
  obtain ⟨c,rfl⟩:=List.length_eq_one_iff.mp (show base.length=1 by lia)
  have c1:=zgB a1.symm
  have c2:=zgB a2.symm
  lia
theorem zf7(c:Int){m:Nat}(hm:m<=30):∃ names:List Str,zbp [.int c,.int m]=some (.lst (names.map T.str))/\names.length=m/\names.Nodup/\(∀ x∈names,zca x)/\¬ (Sx [113,113,113]∈names/\Sx [119,119,119]∈names):=by
 obtain ⟨z1,e1,a1,b1⟩:=zaV c 1 7 (by decide) (by decide) (by decide)
 obtain ⟨z6,e6,a6,b6⟩:=zaV c 11 26 (by decide) (by decide) (by decide)
 obtain ⟨z7,e7,a7,b7⟩:=zaV c 12 4 (by decide) (by decide) (by decide)
 obtain ⟨z9,e9,a9,b9⟩:=zaV c 13 ((m:Int)+1) (by decide) (by decide) (by lia)
 obtain ⟨f,rfl⟩:∃ f:Nat,z6=(f:Int):=⟨z6.toNat,by lia⟩
 obtain ⟨tn,rfl⟩:∃ tn:Nat,z9=(tn:Int):=⟨z9.toNat,by lia⟩
 obtain ⟨t,e,wd,rfl,gw⟩:=zfP (n:=10) (d:=zcA) (ts:=[.int c,.int m]) (Q:=fun t=>∃ wd:List Str,t=.lst (wd.map T.str)/\wd.length=m/\wd.Nodup/\(∀ x∈wd,zca x)/\¬ (Sx [113,113,113]∈wd/\Sx [119,119,119]∈wd)) (by
  unfold zcA
  show Run _ [some (.int c),some (.int m),none,none,none,none,none,none,none,none] _
  refine zak (s':=[some (.int c),some (.int m),some (.str letters),none,none,none,none,none,none,none]) rfl ?_
  refine zak (s':=[some (.int c),some (.int m),some (.str letters),some (.str (Sx [])),none,none,none,none,none,none]) rfl ?_
  refine zcI (its:=zaH 0 z1.toNat) (fun i s=>∃ (l:List Nat) (a:Option T),s=[some (.int c),some (.int m),some (.str letters),some (.str (Sx l)),a,none,none,none,none,none]/\l.length=i/\LowC l)
   (by simp_all? [e1,zcJ (j:=z1) (by lia) (by lia)]<;>rfl) ⟨_,_,rfl,rfl,fun c hc=>by cases hc⟩ ?_ ?_
  ·rintro i z s hz ⟨l,a,rfl,hl,hlo⟩
   obtain ⟨hi,rfl⟩:=zeR hz
   obtain ⟨z2,e2,a2,b2⟩:=zaV c (2+(i:Int)) 26 (by lia) (by lia) (by decide)
   refine ⟨_,by simp_all? []<;>rfl,?_⟩
   refine zbX (by simp_all? [e2,zcg a2 b2,zde l [97+z2.toNat] (by simp; lia)]<;>rfl) ⟨_,_,rfl,by simp [hl],fun c hc=>?_⟩
   rcases List.mem_append.mp hc with q | q
   ·exact hlo c q
   ·have:c=97+z2.toNat:=by simpa using q
    lia
  rintro s ⟨l,a,rfl,hl,hlo⟩
  rw [zeQ] at hl
  obtain ⟨z5,e5,a5,b5⟩:=zaV c 10 ((l.length:Int)+1) (by decide) (by decide) (by lia)
  obtain ⟨sp,rfl⟩:∃ sp:Nat,z5=(sp:Int):=⟨z5.toNat,by lia⟩
  have lS:l.length<=sizeLine:=zaK (by lia)
  have gl:gLen (.str (Sx l))=some (.int l.length):=by rw [vLenS (by rw [zdM]; lia),zdM]
  refine zak (by simp_all? [gl,e5]<;>rfl) (zak (by simp_all? [e6]<;>rfl) ?_)
  refine zak (s':=[some (.int c),some (.int m),some (.str letters),some (.str (Sx l)),a,some (.int sp),some (.int f),some (.lst (([]:List Str).map T.str)),none,none]) (by simp_all? []<;>rfl) ?_
  have sl:∀ k:Nat,k<=l.length->gSlA (.str (Sx l)) none (some (k:Int))=some (.str (Sx (l.take k))):=fun k hk=>by
   have:=Sx_to l (j:=(k:Int)) (by lia) (by lia)
   simp only [gSlA,gSlS,zdM,lS,if_true,this,Int.toNat_natCast]
  have sf:∀ k:Nat,k<=l.length->gSlA (.str (Sx l)) (some (k:Int)) none=some (.str (Sx (l.drop k))):=fun k hk=>by
   have:=zlD l (j:=(k:Int)) (by lia) (by lia)
   simp only [gSlA,gSlS,zdM,lS,if_true,this,Int.toNat_natCast]
  obtain ⟨mk,emk,hmk⟩:∃ mk:List Str,dIfS (dB (d2 gEq (dCall zac (dAc (dV 0) (dAc (dC (.int 12)) (dAc (dC (.int 4)) dAn)))) (dC (.int 0)))) (dSet 7 (dLC [7] [none,some 3] (dRg2 (dAc (dC (.int 1)) (dAc (d2 gPlus (d1 gLen (dV 3)) (dC (.int 1))) dAn))) (dGn 0) dYes (dSl gSlA (dV 1) dOn (dOs (dV 0))))) dNext [some (.int c),some (.int m),some (.str letters),some (.str (Sx l)),a,some (.int sp),some (.int f),some (.lst (([]:List Str).map T.str)),none,none]=some (.nx [some (.int c),some (.int m),some (.str letters),some (.str (Sx l)),a,some (.int sp),some (.int f),some (.lst (mk.map T.str)),none,none])/\Made l sp f 0 mk:=by
   by_cases h7:z7=0
   ·have r12:rgOk 1=true/\rgOk ((l.length:Int)+1)=true:=⟨zcJ (by decide) (by decide),zcJ (by lia) (by lia)⟩
    have e3:((l.length:Int)+1 - 1).toNat=l.length:=by lia
    have er:zaH 1 l.length=(List.range l.length).map fun k=>nT (k+1):=by
     unfold zaH
     refine List.map_congr_left fun k _=>?_
     rw [vnT]; congr 1; lia
    have l1:=zbA (M:=[7]) (caps:=[none,some 3]) (fi:=dRg2 (dAc (dC (.int 1)) (dAc (d2 gPlus (d1 gLen (dV 3)) (dC (.int 1))) dAn))) (dg:=dGn 0) (fe:=dSl gSlA (dV 1) dOn (dOs (dV 0))) (s:=[some (.int c),some (.int m),some (.str letters),some (.str (Sx l)),a,some (.int sp),some (.int f),some (.lst (([]:List Str).map T.str)),none,none]) (List.range l.length) (fun k=>nT (k+1)) (fun k=>.str (Sx (l.take (k+1)))) (by simp_all? [gl,r12,and_self,e3,er]) (by simp; lia) (by
     intro k hk
     have hk':=List.mem_range.mp hk
     refine ⟨_,by simp_all? []<;>rfl,?_,rfl⟩
     simp_all? [sl (k+1) (by lia)])
    have l2:(List.range l.length).map (fun k=>T.str (Sx (l.take (k+1))))=((List.range l.length).map fun k=>Sx (l.take (k+1))).map T.str:=by rw [List.map_map]; rfl
    rw [l2] at l1
    refine ⟨(List.range l.length).map fun k=>Sx (l.take (k+1)),by simp_all? [e7,decide_eq_true h7,l1]<;>rfl,⟨?_,fun x hx=>?_,fun j hj=>absurd hj (Nat.not_lt_zero _),by simp; lia,fun x hx=>by
     obtain ⟨k,hk,rfl⟩:=List.mem_map.mp hx
     exact .inl ⟨k+1,rfl⟩⟩⟩
    ·refine List.Pairwise.map _ (R:=fun a b=>a≠b/\a < l.length/\b < l.length) (fun a b ⟨n,ha,hb⟩ z=>n ?_) (List.Pairwise.imp_of_mem (R:=fun a b=>a≠b) (fun {a b} ha hb n=>⟨n,List.mem_range.mp ha,List.mem_range.mp hb⟩) List.nodup_range)
     have:=congrArg List.length (zc8 z)
     rw [List.length_take,List.length_take] at this
     lia
    ·obtain ⟨k,hk,rfl⟩:=List.mem_map.mp hx
     have hk':=List.mem_range.mp hk
     exact zhV (fun c hc=>hlo c (List.mem_of_mem_take hc)) (by rw [List.length_take]; lia) (by rw [List.length_take]; lia)
   ·exact ⟨[],by simp_all? [e7,decide_eq_false h7]<;>rfl,⟨List.nodup_nil,(fun x hx=>by cases hx),(fun j hj=>absurd hj (Nat.not_lt_zero _)),by simp,(fun x hx=>by cases hx)⟩⟩
  refine zak emk ?_
  refine zcI (its:=zaH 0 m) (fun i s=>∃ (mk:List Str) (a g:Option T),s=[some (.int c),some (.int m),some (.str letters),some (.str (Sx l)),a,some (.int sp),some (.int f),some (.lst (mk.map T.str)),g,none]/\Made l sp f i mk)
   (by simp_all? [rgN (k:=m) (by lia),Int.toNat_natCast]<;>rfl) ⟨_,_,_,rfl,hmk⟩ ?_ ?_
  ·rintro i z s hz ⟨mk,a,g,rfl,hmk⟩
   obtain ⟨hi,rfl⟩:=zeR hz
   refine ⟨_,by simp_all? []<;>rfl,?_⟩
   have x1:=zcg (z:=((f:Int)+5*(i:Int))%26) (by lia) (by lia)
   have x2:=zcg (z:=((f:Int)+(i:Int) / 26)%26) (by lia) (by lia)
   have n1:(((f:Int)+5*(i:Int))%26).toNat=(f+5*i)%26:=by lia
   have n2:(((f:Int)+(i:Int) / 26)%26).toNat=(f+i / 26)%26:=by lia
   rw [n1] at x1
   rw [n2] at x2
   have pl:=zde [97+(f+5*i)%26] [97+(f+i / 26)%26] (by simp)
   refine zak (by simp_all? [x1,x2,pl]<;>rfl) ?_
   have q1:=zde (l.take sp) ([97+(f+5*i)%26]++[97+(f+i / 26)%26]) (by simp; lia)
   have q2:=zde (l.take sp++([97+(f+5*i)%26]++[97+(f+i / 26)%26])) (l.drop sp) (by simp; lia)
   have hfar:l.take sp++([97+(f+5*i)%26]++[97+(f+i / 26)%26])++l.drop sp=farN l sp f i:=rfl
   rw [hfar] at q2
   have hlen:=hmk.len
   by_cases hin:Sx (farN l sp f i)∈mk
   ·refine zbX (by simp_all? [sl sp (by lia),sf sp (by lia),q1,q2,decide_eq_true hin]<;>rfl) ⟨_,_,_,rfl,⟨hmk.nd,hmk.nm,fun j hj=>?_,by lia,hmk.fm⟩⟩
    by_cases e:j=i
    ·exact e▸hin
    ·exact hmk.has j (by lia)
   ·refine zbX (by simp_all? [sl sp (by lia),sf sp (by lia),q1,q2,decide_eq_false hin]<;>rfl) ⟨mk++[Sx (farN l sp f i)],_,_,rfl,⟨?_,fun x hx=>?_,fun j hj=>?_,by simp; lia,fun x hx=>by
     rcases List.mem_append.mp hx with q | q
     ·exact hmk.fm x q
     ·exact .inr ⟨i,by simpa using q⟩⟩⟩
    ·rw [List.nodup_append]
     exact ⟨hmk.nd,by simp,fun a ha b hb e=>hin (by rw [List.mem_singleton] at hb; subst hb; subst e; exact ha)⟩
    ·rcases List.mem_append.mp hx with q | q
     ·exact hmk.nm x q
     ·have:x=Sx (farN l sp f i):=by simpa using q
      rw [this]; exact zli hlo (by lia)
    ·by_cases e:j=i
     ·exact e▸List.mem_append_right _ (by simp)
     ·exact List.mem_append_left _ (hmk.has j (by lia))
  rintro s ⟨mk,a,g,rfl,hmk⟩
  rw [zeQ] at hmk
  have hen:=hmk.enough (by lia)
  have hlen:=hmk.len
  refine zak (by simp_all? [e9]<;>rfl) ?_
  have c1:gSl (.lst (mk.map T.str)) none (some (m:Int))=some (.lst ((mk.take m).map T.str)):=by
   show some (T.lst (cutT (mk.map T.str) none (some (m:Int))))=_
   rw [zfY,zex mk (by lia) (by lia),Int.toNat_natCast]
  have lt:(mk.take m).length=m:=by rw [List.length_take]; lia
  have c2:gSlA (.lst ((mk.take m).map T.str)) (some (tn:Int)) none=some (.lst (((mk.take m).drop tn).map T.str)):=by
   show some (T.lst (cutT ((mk.take m).map T.str) (some (tn:Int)) none))=_
   rw [zfY,zdI (mk.take m) (by lia) (by lia),Int.toNat_natCast]
  have c3:gSlA (.lst ((mk.take m).map T.str)) none (some (tn:Int))=some (.lst (((mk.take m).take tn).map T.str)):=by
   show some (T.lst (cutT ((mk.take m).map T.str) none (some (tn:Int))))=_
   rw [zfY,zex (mk.take m) (by lia) (by lia),Int.toNat_natCast]
  have pp:((mk.take m).drop tn++(mk.take m).take tn).Perm (mk.take m):=(List.perm_append_comm).trans (by rw [List.take_append_drop])
  refine ⟨_,by simp_all? [c1,c2,c3,<-List.map_append]<;>rfl,_,_,rfl,_,rfl,?_,?_,fun x hx=>?_,fun hqw=>?_⟩
  ·rw [pp.length_eq,lt]
  ·exact pp.nodup_iff.mpr (hmk.nd.sublist (List.take_sublist _ _))
  ·exact hmk.nm x (List.mem_of_mem_take (pp.mem_iff.mp hx))
  ·exact hmk.notBoth (List.mem_of_mem_take (pp.mem_iff.mp hqw.1)) (List.mem_of_mem_take (pp.mem_iff.mp hqw.2)))
 exact ⟨wd,e,gw⟩
end Dw
set_option maxHeartbeats 1000000
namespace Dw
open PySem L2 L3
def rdL(wd:List Str)(st:Int)(b:Bool):List Str:=(List.range wd.length).map fun (k:Nat)=>wd.getD ((if b then st - k else st+k)%wd.length).toNat Str.empty
theorem zbz(wd:List Str)(st:Int)(b:Bool):(rdL wd st b).length=wd.length:=by unfold rdL; simp
theorem zcf{wd:List Str}(h:wd.length<=1000)(st:Int)(b:Bool):zas [.lst (wd.map T.str),.int st,.bl b]=some (.lst ((rdL wd st b).map T.str)):=by
 have hr:rgOk ((wd.length:Nat):Int)=true:=rgN (by lia)
 first | refine ze8 ?_ | refine zil ?_
 show Run zbD [some (.lst (wd.map T.str)),some (.int st),some (.bl b),none] _
 unfold zbD
 refine zak (by simp_all? []<;>rfl) ?_
 have key:∀ (x:Int),0 < (wd.length:Int)->(wd.map T.str)[(x%wd.length).toNat]?=some (T.str (wd.getD (x%wd.length).toNat Str.empty)):=fun x h0=>by
  have h1:=Int.emod_nonneg x (b:=(wd.length:Int)) (by lia)
  have h2:=Int.emod_lt_of_pos x h0
  have h3:(x%wd.length).toNat < wd.length:=by lia
  rw [List.getElem?_map,List.getElem?_eq_getElem h3,zaz h3]; rfl
 have item:∀ (x:Int),0 < (wd.length:Int)->gItem (.lst (wd.map T.str)) (.int (x%wd.length))=some (T.str (wd.getD (x%wd.length).toNat Str.empty)):=fun x h0=>by
  have h1:=Int.emod_nonneg x (b:=(wd.length:Int)) (by lia)
  rw [<-key x h0,<-zcX,Int.toNat_of_nonneg h1]
 cases b with
 | false=>
  have e:=zbA (M:=[]) (caps:=[none,some 0,some 3,some 1]) (fi:=dRg1 (dAc (dV 3) dAn)) (dg:=dGn 0) (fe:=d2 gItem (dV 1) (d2 gMod (d2 gPlus (dV 3) (dV 0)) (dV 2))) (s:=[some (.lst (wd.map T.str)),some (.int st),some (.bl false),some (.int wd.length)]) (List.range wd.length) nT (fun k=>T.str (wd.getD ((st+(k:Int))%wd.length).toNat Str.empty)) (by simp_all? [hr,zco,Int.toNat_natCast]) (by simp; lia) (by
   intro k hk
   have h0:0 < (wd.length:Int):=by have:=List.mem_range.mp hk; lia
   refine ⟨_,by simp_all? []<;>rfl,?_,rfl⟩
   simp_all? [h0,item _ h0])
  refine zak (by simp_all? []<;>rfl) (zdr (by simp_all? [e]<;>rfl) ?_)
  unfold rdL
  rw [List.map_map]; rfl
 | true=>
  have e:=zbA (M:=[]) (caps:=[none,some 0,some 3,some 1]) (fi:=dRg1 (dAc (dV 3) dAn)) (dg:=dGn 0) (fe:=d2 gItem (dV 1) (d2 gMod (d2 gSb (dV 3) (dV 0)) (dV 2))) (s:=[some (.lst (wd.map T.str)),some (.int st),some (.bl true),some (.int wd.length)]) (List.range wd.length) nT (fun k=>T.str (wd.getD ((st - (k:Int))%wd.length).toNat Str.empty)) (by simp_all? [hr,zco,Int.toNat_natCast]) (by simp; lia) (by
   intro k hk
   have h0:0 < (wd.length:Int):=by have:=List.mem_range.mp hk; lia
   refine ⟨_,by simp_all? []<;>rfl,?_,rfl⟩
   simp_all? [h0,item _ h0])
  refine zgf (by simp_all? [e]<;>rfl) ?_
  unfold rdL
  rw [List.map_map]; rfl
end Dw
namespace Dw
open PySem L2 L3
def encK(l:List Str):List (Key × T):=l.map fun x=>(.inr x,.bl true)
theorem putK(l:List Str)(x:Str):putT (encK l) (.inr x) (.bl true)=encK (stp l x):=by
 have ha:((encK l).any fun kv=>decide (kv.1=Sum.inr x))=decide (x∈l):=by
  unfold encK
  rw [List.any_map]
  induction l with
  | nil=>rfl
  | cons y l ih=>
   rw [List.any_cons,ih]
   by_cases h:y=x
   ·subst h; simp
   ·have:¬ x=y:=fun q=>h q.symm
    simp [h,this]
 unfold putT stp
 rw [ha]
 by_cases h:x∈l
 ·rw [if_pos (by simpa using h),if_pos h]
  unfold encK
  rw [List.map_map]
  refine List.map_congr_left fun y _=>?_
  show (if (Sum.inr y:Key)=Sum.inr x then _ else _)=_
  split<;>rfl
 ·rw [if_neg (by simpa using h),if_neg h]
  unfold encK
  rw [List.map_append]; rfl
theorem zgF(s:Sg):∀ (wd acc:List Str),dcGo [] [none] (dGn 0) dYes (dV 0) (dC (.bl true)) (wd.map T.str) (encK acc) s=some (encK (wd.foldl stp acc),s)
 | [],acc=>rfl
 | x::wd,acc=>by
  show dcGo [] [none] (dGn 0) dYes (dV 0) (dC (.bl true)) (wd.map T.str) (putT (encK acc) (.inr x) (.bl true)) s=_
  rw [putK,zgF s wd,List.foldl_cons]
theorem ze4{wd:List Str}(h:wd.length<=1000):zbl [some (.lst (wd.map T.str))]=some (.rt (.lst ((za0 wd).map T.str)) [some (.lst (wd.map T.str))]):=by
 have h1:=zgF [some (.lst (wd.map T.str))] wd []
 have hlc:wd.length<=lcMax:=lc_le (by lia)
 have e0:encK []=[]:=rfl
 rw [e0] at h1
 have l1:zcw (.dct (encK (za0 wd)))=some (.lst ((za0 wd).map T.str)):=by
  show some (T.lst ((encK (za0 wd)).map fun kv=>kT kv.1))=_
  unfold encK
  rw [List.map_map]; rfl
 have h2:dDC [] [none] (dItA (dV 0)) (dGn 0) dYes (dV 0) (dC (.bl true)) [some (.lst (wd.map T.str))]=some (.dct (encK (za0 wd)),[some (.lst (wd.map T.str))]):=by
  unfold dDC
  simp_all? [hlc,h1]
  rfl
 unfold zbl
 simp_all? [h2,l1]
theorem zce{wd:List Str}(h:wd.length<=1000):zam [.lst (wd.map T.str)]=some (.lst ((za0 wd).map T.str)):=by
 first
  | exact zgA (ze4 h)
  | exact zik (ze4 h)
end Dw
namespace Dw
open PySem L2 L3
theorem ze2{wd:List Str}(h:wd.length<=1000):zaP [.lst (wd.map T.str)]=some (.lst ((za7 wd).map nT)):=by
 have hf:=zbS wd
 have hn:=zce h
 first | refine zil ?_ | refine ze8 ?_
 show Run zbB [some (.lst (wd.map T.str)),none] _
 have e1:dDC [] [none,none] (dEn (dAc (dCall zam (dAc (dV 0) dAn)) dAn)) (dGt [0,1]) dYes (dV 1) (dV 0) [some (.lst (wd.map T.str)),none]=some (.dct ((za0 wd).zipIdx.map fun p=>(Sum.inr p.1,T.int (p.2:Nat))),[some (.lst (wd.map T.str)),none]):=by
  refine zns (za0 wd).zipIdx (fun p=>T.tup [.int (p.2:Nat),.str p.1]) (fun p=>.str p.1) (fun p=>.inr p.1) (fun p=>T.int (p.2:Nat)) ?_ (by simp; lia) ?_ ?_
  ·simp_all? [hn,zjy]
  ·have q:(za0 wd).zipIdx.map (fun p=>(Sum.inr p.1:Key))=(za0 wd).map Sum.inr:=by
    rw [<-List.zipIdx_map_fst 0 (za0 wd),List.map_map,List.zipIdx_map_fst]; rfl
   rw [q]
   exact zf5 (fun _ _=>Sum.inr.inj) (zba wd)
  ·intro p hp
   exact ⟨_,rfl,rfl,rfl,rfl,rfl⟩
 unfold zbB
 refine zak (by simp_all? [e1]<;>rfl) ?_
 have e2:=zbA (M:=[]) (caps:=[none,some 1]) (fi:=dItA (dV 0)) (dg:=dGn 0) (fe:=d2 gItem (dV 1) (dV 0)) (s:=[some (.lst (wd.map T.str)),some (.dct ((za0 wd).zipIdx.map fun p=>(Sum.inr p.1,T.int (p.2:Nat))))]) wd T.str (fun x=>nT ((za0 wd).idxOf x)) (by simp_all? []) (by lia) (by
  intro x hx
  refine ⟨_,by simp_all? []<;>rfl,?_,rfl⟩
  simp_all? [zjl,zju (zba wd) (mem_firsts.mpr hx)])
 refine zdr (by simp_all? [e2]<;>rfl) ?_
 rw [show za7 wd=wd.map fun x=>(za0 wd).idxOf x from rfl,List.map_map]; rfl
theorem zh6{wd:List Str}(h:wd.length<=1000):zb9 [.lst (wd.map T.str)]=some (.lst ((za7 wd).map nT)):=by
 refine ze8 ?_
 show Run zbE [some (.lst (wd.map T.str)),none,none,none] _
 unfold zbE
 refine zak (by simp_all? []<;>rfl) (zak (by simp_all? []<;>rfl) ?_)
 refine zcI (its:=wd.map T.str) (fun j s=>∃ a,s=[some (.lst (wd.map T.str)),some (.lst ((za0 (wd.take j)).map T.str)),some (.lst (((za7 wd).take j).map nT)),a]) (by simp_all? []<;>rfl) ⟨_,rfl⟩ ?_ ?_
 ·rintro j z s hz ⟨a,rfl⟩
  rw [List.getElem?_map] at hz
  obtain ⟨x,hx,rfl⟩:=Qm hz
  have hj:j < wd.length:=(List.getElem?_eq_some_iff.mp hx).1
  have hN:(za7 wd)[j]?=some ((za0 wd).idxOf x):=by unfold za7; rw [List.getElem?_map,hx]; rfl
  have hT:(za7 wd).take (j+1)=(za7 wd).take j++[(za0 wd).idxOf x]:=by rw [List.take_succ,hN]; rfl
  have hF:=zci hx
  have l0:=zbS (wd.take j)
  rw [List.length_take] at l0
  have hm:x∈za0 (wd.take (j+1)):=mem_firsts.mpr (List.mem_of_getElem? (i:=j) (by rw [List.getElem?_take,if_pos (by lia)]; exact hx))
  have hi:=zfb hm
  have l1:(za7 wd).length=wd.length:=zay wd
  refine ⟨_,by simp_all? []<;>rfl,?_⟩
  by_cases hin:x∈za0 (wd.take j)
  ·have e3:za0 (wd.take (j+1))=za0 (wd.take j):=by rw [hF]; unfold stp; rw [if_pos hin]
   rw [e3] at hi
   refine zby (by simp_all? [hin,zfx hin,hi]<;>rfl) ?_
   exact ⟨_,by rw [e3,hT]⟩
  ·have e3:za0 (wd.take (j+1))=za0 (wd.take j)++[x]:=by rw [hF]; unfold stp; rw [if_neg hin]
   rw [e3] at hi hm
   refine zby (by simp_all? [hin,zfx hm,hi]<;>rfl) ?_
   exact ⟨_,by rw [e3,hT]⟩
 ·rintro s ⟨a,rfl⟩
  refine zdr (by simp_all? []<;>rfl) ?_
  rw [List.take_of_length_le (by rw [zay]; exact Nat.le_refl _)]
end Dw
namespace Dw
open PySem L2 L3
theorem zim{n:Nat}{d:DS}{ts:List T}{t:T}{s:Sg}(h:d (zax n ts)=some (.rt t s)):fnP n d ts=some t:=by
 first | exact zgA h | (unfold fnP; rw [h])
theorem if_t{c:DT}{f g:DS}{s s':Sg}{r:Option Fl}(h:c s=some (true,s'))(k:f s'=r):dIfS c f g s=r:=by
 unfold dIfS
 rw [h]
 exact k
theorem zkH{wd:List Str}(h:wd.length<=1000){i:Nat}(hi:i<=wd.length):zal [.lst (wd.map T.str),.int i,.bl false]=some (.lst ((wd.drop i++wd.take i).map T.str)):=by
 refine zim (s:=[some (.lst (wd.map T.str)),some (.int i),some (.bl false),none]) ?_
 show zaC [some (.lst (wd.map T.str)),some (.int i),some (.bl false),none]=_
 have c1:=zex (wd.map T.str) (t:=i) (by lia) (by rw [List.length_map]; lia)
 have c2:=zdI (wd.map T.str) (t:=i) (by lia) (by rw [List.length_map]; lia)
 rw [Int.toNat_natCast] at c1 c2
 have s1:((wd.map T.str).drop i).length+((wd.map T.str).take i).length<=sizeLine:=zaK (by rw [List.length_drop,List.length_take,List.length_map]; lia)
 rw [List.map_append,List.map_drop,List.map_take]
 unfold zaC
 refine zgd (s':=[some (.lst (wd.map T.str)),some (.int i),some (.bl false),none]) rfl ?_
 simp only [dRetI,d2,dSl,gSlA,dV,dOn,dOs,gSl,gPlus,orG,gAdd,gCat,c1,c2,s1,List.getElem?_cons_zero,List.getElem?_cons_succ,zfL,Option.bind_some,Option.map_some,if_true]
 rfl
theorem zhq{wd:List Str}(h:wd.length<=1000){i:Nat}(hi:i < wd.length):zal [.lst (wd.map T.str),.int i,.bl true]=some (.lst (((wd.take (i+1)).reverse++(wd.drop (i+1)).reverse).map T.str)):=by
 refine zim (s:=[some (.lst (wd.map T.str)),some (.int i),some (.bl true),some (.int (i+1))]) ?_
 show zaC [some (.lst (wd.map T.str)),some (.int i),some (.bl true),none]=_
 have c1:=zex (wd.map T.str) (t:=(i:Int)+1) (by lia) (by rw [List.length_map]; lia)
 have c2:=zdI (wd.map T.str) (t:=(i:Int)+1) (by lia) (by rw [List.length_map]; lia)
 have e1:((i:Int)+1).toNat=i+1:=by lia
 rw [e1] at c1 c2
 have s1:((wd.map T.str).take (i+1)).reverse.length+((wd.map T.str).drop (i+1)).reverse.length<=sizeLine:=zaK (by rw [List.length_reverse,List.length_reverse,List.length_drop,List.length_take,List.length_map]; lia)
 rw [List.map_append,List.map_reverse,List.map_reverse,List.map_drop,List.map_take]
 unfold zaC
 refine zgb ?_
 rw [zkF]
 refine if_t (s':=[some (.lst (wd.map T.str)),some (.int i),some (.bl true),none]) rfl (zgd (s':=[some (.lst (wd.map T.str)),some (.int i),some (.bl true),some (.int (i+1))]) rfl ?_)
 simp only [dRetI,d2,dRev,gRev,dSl,gSlA,dV,dC,dOn,dOs,gPlus,orG,gAdd,gSl,gCat,c1,c2,s1,List.length_cons,List.length_nil,List.set_cons_succ,List.set_cons_zero,List.getElem?_cons_zero,List.getElem?_cons_succ,zfL,Option.bind_some,Option.map_some,if_true]
 rfl
theorem zhp(b:Bool):zal [.lst [],.int 0,.bl b]=some (.lst []):=by
 have h:0<=sizeLine:=Nat.zero_le _
 cases b<;>simp [zal,fnP,zaC,zax,dSeq,dIfS,dTru,tru,dNext,dSet,dRetI,d2,dRev,gRev,dSl,gSlA,dV,dC,dOn,dOs,d1,gNeg,gPlus,orG,gAdd,gSl,gCat,cutT,HT.sIx,hasAll]
def waysL(m:Nat):List (Nat × Bool):=(List.range m).flatMap fun i=>[(i,false),(i,true)]
def wT(p:Nat × Bool):T:=.tup [.int p.1,.bl p.2]
theorem go2(m:Nat)(s:Sg):∀ (l:List Nat) (acc:List (Nat × Bool)),acc.length+2*l.length<=100000->
  lc2Go [none,none] (dGn 0) (dGn 1) (dItA (dTup (dAc (dC (.bl false)) (dAc (dC (.bl true)) dAn)))) (dTup (dAc (dV 0) (dAc (dV 1) dAn))) (l.map nT) (acc.map wT) s=some ((acc++l.flatMap fun i=>[(i,false),(i,true)]).map wT):=by
 intro l
 induction l with
 | nil=>intro acc _; simp [lc2Go]
 | cons i l ih=>
  intro acc hl
  rw [List.length_cons] at hl
  have hz:acc.length+2<=lcMax:=lc_le (by lia)
  have:=ih (acc++[(i,false),(i,true)]) (by simp; lia)
  rw [List.flatMap_cons,<-List.append_assoc,<-this,List.map_cons]
  have hz':(acc.map wT).length+2<=lcMax:=by rw [List.length_map]; exact hz
  show (if (acc.map wT).length+2<=lcMax then _ else none)=_
  rw [if_pos hz',List.map_append]
  show lc2Go _ _ _ _ _ (l.map nT) (((acc.map wT)++[_])++[_]) s=_
  rw [List.append_assoc]
  rfl
end Dw
namespace Dw
open PySem PyProof.Rows L2 L3
theorem zki{wd:List Str}(h:wd.length<=1000){m:Nat}(hm:imax 1 (wd.length:Int)=(m:Int))(hm2:m<=1000):zbQ [.lst (wd.map T.str)]=some (.lst ((waysL m).map wT)):=by
 refine zim (s:=[some (.lst (wd.map T.str)),some (.int (m:Nat))]) ?_
 show zdi [some (.lst (wd.map T.str)),none]=_
 unfold zdi
 refine zgd (s':=[some (.lst (wd.map T.str)),some (.int (m:Nat))]) (by simp_all? [hm]) ?_
 have g:=go2 m [some (.lst (wd.map T.str)),some (.int (m:Nat))] (List.range m) [] (by simp; lia)
 have hr:dRg1 (dAc (dV 1) dAn) [some (.lst (wd.map T.str)),some (.int (m:Nat))]=some ((List.range m).map nT,[some (.lst (wd.map T.str)),some (.int (m:Nat))]):=by
  have q:rgOk (m:Int)=true:=rgN (by lia)
  simp_all? [q]
  rw [Int.toNat_natCast,zco]
 have e:dLC2 [none,none] (dRg1 (dAc (dV 1) dAn)) (dGn 0) (dItA (dTup (dAc (dC (.bl false)) (dAc (dC (.bl true)) dAn)))) (dGn 1) (dTup (dAc (dV 0) (dAc (dV 1) dAn))) [some (.lst (wd.map T.str)),some (.int (m:Nat))]=some (.lst ((waysL m).map wT),[some (.lst (wd.map T.str)),some (.int (m:Nat))]):=by
  unfold dLC2
  rw [hr,Option.bind_some]
  show (lc2Go _ _ _ _ _ ((List.range m).map nT) ([].map wT) _).map _=_
  rw [g]
  rfl
 unfold dRetI
 rw [e]
 rfl
def rd(wd:List Str)(p:Nat × Bool):List Str:=if p.2 then (wd.take (p.1+1)).reverse++(wd.drop (p.1+1)).reverse else wd.drop p.1++wd.take p.1
theorem zdt(wd:List Str)(p:Nat × Bool):(rd wd p).length=wd.length:=by
 unfold rd
 split<;>simp<;>lia
theorem zkG{wd:List Str}(h:wd.length<=1000){i:Nat}(hi:i < max 1 wd.length)(b:Bool):zal [.lst (wd.map T.str),.int i,.bl b]=some (.lst ((rd wd (i,b)).map T.str)):=by
 by_cases h0:wd=[]
 ·subst h0
  obtain rfl:i=0:=by simp at hi; lia
  have:=zhp b
  cases b<;>exact this
 ·have:0 < wd.length:=List.length_pos_iff.mpr h0
  cases b with
  | false=>exact zkH h (by lia)
  | true=>exact zhq h (by lia)
def nI(l:List Nat):List Int:=l.map fun (k:Nat)=>(k:Int)
theorem zie(l:List Nat):intsT (l.map nT)=some (nI l):=by
 unfold nI
 induction l with
 | nil=>rfl
 | cons a l ih=>rw [List.map_cons,List.map_cons]; show (intsT (l.map nT)).map _=_; rw [ih]; rfl
theorem mem_ways{m:Nat}{p:Nat × Bool}:p∈waysL m↔p.1 < m:=by
 unfold waysL
 rw [List.mem_flatMap]
 constructor
 ·rintro ⟨i,hi,hp⟩
  have:=List.mem_range.mp hi
  simp at hp
  rcases hp with rfl | rfl<;>exact this
 ·intro h
  refine ⟨p.1,List.mem_range.mpr h,?_⟩
  obtain ⟨i,b⟩:=p
  cases b<;>simp
end Dw
namespace Dw
open PySem PyProof.Rows L2 L3
theorem zfE{wd:List Str}{st:Int}{b:Bool}{k:Nat}(hk:k < wd.length):(rdL wd st b).getD k Str.empty=wd.getD ((if b then st - k else st+k)%wd.length).toNat Str.empty:=by
 unfold rdL
 rw [List.getD_eq_getElem?_getD,List.getElem?_map,List.getElem?_range hk]
 rfl
theorem zdd(wd:List Str)(st st':Int)(b b':Bool):rdL (rdL wd st b) st' b'=rdL wd (if b then st - st' else st+st') (b != b'):=by
 rw [show rdL (rdL wd st b) st' b'=(List.range (rdL wd st b).length).map fun (k:Nat)=>(rdL wd st b).getD ((if b' then st' - k else st'+k)%(rdL wd st b).length).toNat Str.empty from rfl,zbz]
 rw [show rdL wd (if b then st - st' else st+st') (b != b')=(List.range wd.length).map fun (k:Nat)=>wd.getD ((if (b != b')=true then (if b then st - st' else st+st') - k else (if b then st - st' else st+st')+k)%wd.length).toNat Str.empty from rfl]
 refine List.map_congr_left fun k hk=>?_
 have hk':=List.mem_range.mp hk
 have hn:(0:Int) < wd.length:=by lia
 generalize hx:(if b'=true then st' - (k:Int) else st'+k)=x
 have h1:=Int.emod_nonneg x (b:=(wd.length:Int)) (by lia)
 have h2:=Int.emod_lt_of_pos x hn
 rw [zfE (by lia),Int.toNat_of_nonneg h1]
 congr 2
 cases b
 ·have:(if (false != b')=true then (if false=true then st - st' else st+st') - (k:Int) else (if false=true then st - st' else st+st')+k)=st+x:=by
   rw [<-hx]; cases b'<;>simp<;>lia
  rw [this]
  simp [Int.add_emod]
 ·have:(if (true != b')=true then (if true=true then st - st' else st+st') - (k:Int) else (if true=true then st - st' else st+st')+k)=st - x:=by
   rw [<-hx]; cases b'<;>simp<;>lia
  rw [this]
  simp [Int.sub_emod]
theorem zhs(wd:List Str)(st:Int)(b:Bool):rdL wd (st%wd.length) b=rdL wd st b:=by
 unfold rdL
 refine List.map_congr_left fun k _=>?_
 cases b
 ·simp [Int.add_emod]
 ·simp [Int.sub_emod]
theorem zdc(wd:List Str):rdL wd 0 false=wd:=by
 refine List.ext_getElem (zbz wd 0 false) fun k h1 h2=>?_
 have:=zfE (wd:=wd) (st:=0) (b:=false) h2
 rw [zaz h1] at this
 rw [this]
 have e:((if false=true then (0:Int) - (k:Int) else 0+k)%(wd.length:Int)).toNat=k:=by
  rw [if_neg (by simp),Int.zero_add,Int.emod_eq_of_lt (by lia) (by lia)]
  lia
 rw [e,zaz h2]
theorem zhr{wd:List Str}{i:Nat}(hi:i < wd.length)(b:Bool):rd wd (i,b)=rdL wd i b:=by
 refine List.ext_getElem (by rw [zdt,zbz]) fun k h1 h2=>?_
 have hk:k < wd.length:=by rw [zdt] at h1; exact h1
 have q:=zfE (wd:=wd) (st:=i) (b:=b) hk
 rw [zaz h2] at q
 rw [q]
 have hn:(0:Int) < wd.length:=by lia
 cases b with
 | false=>
  have e:(((if false=true then (i:Int) - (k:Int) else i+k)%(wd.length:Int)).toNat)=if k < wd.length - i then i+k else k - (wd.length - i):=by
   rw [if_neg (by simp)]
   split
   ·rw [Int.emod_eq_of_lt (by lia) (by lia)]; lia
   ·rw [show (i:Int)+k=((k - (wd.length - i):Nat):Int)+wd.length by lia,Int.add_emod_right,Int.emod_eq_of_lt (by lia) (by lia)]; lia
  rw [e]
  simp only [rd,Bool.false_eq_true,if_false,List.getElem_append,List.length_drop,List.getElem_drop,List.getElem_take]
  split
  ·rw [zaz (by lia)]
  ·rw [zaz (by lia)]
 | true=>
  have e:(((if true=true then (i:Int) - (k:Int) else i+k)%(wd.length:Int)).toNat)=if k < i+1 then i - k else wd.length+i - k:=by
   rw [if_pos rfl]
   split
   ·rw [Int.emod_eq_of_lt (by lia) (by lia)]; lia
   ·rw [<-Int.add_emod_right,Int.emod_eq_of_lt (by lia) (by lia)]; lia
  rw [e]
  have lt:(wd.take (i+1)).reverse.length=i+1:=by rw [List.length_reverse,List.length_take]; lia
  simp only [rd,if_true,List.getElem_append,lt,List.getElem_reverse,List.length_take,List.length_drop,List.getElem_take,List.getElem_drop]
  split
  ·rw [zaz (by lia)]; congr 1; lia
  ·rw [zaz (by lia)]; congr 1; lia
end Dw
namespace Dw
open PySem PyProof.Rows L2 L3
theorem zhY:∀ l:List Int,HT.lexLt l l=false:=by
 intro l
 induction l with
 | nil=>rfl
 | cons x l ih=>rw [HT.lexLt_cons,if_pos rfl,ih]
theorem zla:∀ {a b:List Int},HT.lexLt a b=false->HT.lexLt b a=false->a=b:=by
 intro a
 induction a with
 | nil=>intro b h1 h2; cases b with | nil=>rfl | cons y b=>cases h1
 | cons x a ih=>
  intro b h1 h2
  cases b with
  | nil=>cases h2
  | cons y b=>
   rw [HT.lexLt_cons] at h1 h2
   by_cases e:x=y
   ·subst e
    rw [if_pos rfl] at h1 h2
    rw [ih h1 h2]
   ·rw [if_neg e] at h1
    rw [if_neg (Ne.symm e)] at h2
    have:=of_decide_eq_false h1
    have:=of_decide_eq_false h2
    lia
theorem zhX:∀ {a b c:List Int},HT.lexLt a b=true->HT.lexLt b c=true->HT.lexLt a c=true:=by
 intro a
 induction a with
 | nil=>
  intro b c h1 h2
  cases c with
  | nil=>cases b with | nil=>cases h1 | cons y b=>cases h2
  | cons z c=>rfl
 | cons x a ih=>
  intro b c h1 h2
  cases b with
  | nil=>cases h1
  | cons y b=>
   cases c with
   | nil=>cases h2
   | cons z c=>
    rw [HT.lexLt_cons] at h1 h2 ⊢
    by_cases e:x=y
    ·subst e
     rw [if_pos rfl] at h1
     by_cases e2:x=z
     ·rw [if_pos e2] at h2 ⊢
      exact ih h1 h2
     ·rw [if_neg e2] at h2 ⊢
      exact h2
    ·rw [if_neg e] at h1
     have h1:=of_decide_eq_true h1
     by_cases e2:y=z
     ·subst e2
      rw [if_neg e]
      exact decide_eq_true h1
     ·rw [if_neg e2] at h2
      have h2:=of_decide_eq_true h2
      rw [if_neg (by lia)]
      exact decide_eq_true (by lia)
def Lst(S:List Int->Prop)(l:List Nat):Prop:=(l=[]/\∀ u,¬ S u)∨(l≠[]/\S (nI l)/\∀ u,S u->HT.lexLt u (nI l)=false)
theorem Lst.step{S S':List Int->Prop}{l e:List Nat}(h:Lst S l)(he:e≠[])(hS:∀ u,S' u↔S u∨u=nI e):Lst S' (if l=[]∨HT.lexLt (nI e) (nI l)=true then e else l):=by
 rcases h with ⟨h1,h2⟩ | ⟨h1,h2,h3⟩
 ·rw [if_pos (.inl h1)]
  refine .inr ⟨he,(hS _).mpr (.inr rfl),fun u hu=>?_⟩
  rcases (hS u).mp hu with hu | rfl
  ·exact absurd hu (h2 u)
  ·exact zhY _
 ·by_cases hl:HT.lexLt (nI e) (nI l)=true
  ·rw [if_pos (.inr hl)]
   refine .inr ⟨he,(hS _).mpr (.inr rfl),fun u hu=>?_⟩
   rcases (hS u).mp hu with hu | rfl
   ·cases hb:HT.lexLt u (nI e) with
    | false=>rfl
    | true=>have:=zhX hb hl; rw [h3 u hu] at this; cases this
   ·exact zhY _
  ·rw [if_neg (by simp [h1,hl])]
   refine .inr ⟨h1,(hS _).mpr (.inl h2),fun u hu=>?_⟩
   rcases (hS u).mp hu with hu | rfl
   ·exact h3 u hu
   ·simpa using hl
theorem zgo{a b:List Nat}(h:nI a=nI b):a=b:=by
 unfold nI at h
 exact (List.map_inj_right (fun x y e=>Int.ofNat.inj e)).mp h
theorem Lst.one{S S':List Int->Prop}{l m:List Nat}(h:Lst S l)(k:Lst S' m)(e:∀ u,S u↔S' u):l=m:=by
 rcases h with ⟨h1,h2⟩ | ⟨h1,h2,h3⟩
 ·rcases k with ⟨k1,k2⟩ | ⟨k1,k2,k3⟩
  ·rw [h1,k1]
  ·exact absurd ((e _).mpr k2) (h2 _)
 ·rcases k with ⟨k1,k2⟩ | ⟨k1,k2,k3⟩
  ·exact absurd ((e _).mp h2) (k2 _)
  ·exact zgo (zla (k3 _ ((e _).mp h2)) (h3 _ ((e _).mpr k2)))
def Rds(wd:List Str)(m:Nat)(u:List Int):Prop:=∃ i b,i < m/\u=nI (za7 (rdL wd ((i:Nat):Int) b))
theorem Rds.sub{wd:List Str}(hn:wd≠[])(st:Int)(b:Bool){u:List Int}(h:Rds (rdL wd st b) wd.length u):Rds wd wd.length u:=by
 obtain ⟨i,c,hi,rfl⟩:=h
 have h0:(0:Int) < wd.length:=by have:=List.length_pos_iff.mpr hn; lia
 generalize hx:(if b=true then st - (i:Int) else st+i)=x
 have h1:=Int.emod_nonneg x (b:=(wd.length:Int)) (by lia)
 have h2:=Int.emod_lt_of_pos x h0
 refine ⟨(x%wd.length).toNat,b != c,by lia,?_⟩
 rw [zdd,hx,Int.toNat_of_nonneg h1,zhs]
theorem Rds.same{wd:List Str}(hn:wd≠[])(st:Int)(b:Bool)(u:List Int):Rds (rdL wd st b) wd.length u↔Rds wd wd.length u:=by
 refine ⟨Rds.sub hn st b,fun h=>?_⟩
 have hw:rdL (rdL wd st b) (if b then st else -st) b=wd:=by
  rw [zdd]
  cases b
  ·rw [show (if false=true then st - (if false=true then st else -st) else st+(if false=true then st else -st))=(0:Int) by simp; lia]; exact zdc wd
  ·rw [show (if true=true then st - (if true=true then st else -st) else st+(if true=true then st else -st))=(0:Int) by simp]; exact zdc wd
 have hl:=zbz wd st b
 have hn':rdL wd st b≠[]:=fun z=>hn (List.eq_nil_of_length_eq_zero (by rw [<-hl,z]; rfl))
 rw [<-hl]
 refine Rds.sub hn' (if b then st else -st) b ?_
 rw [hw,hl]
 exact h
end Dw
namespace Dw
open PySem PyProof.Rows L2 L3
theorem zmX(e l:List Nat):gLtA (.lst (e.map nT)) (.lst (l.map nT))=some (.bl (HT.lexLt (nI e) (nI l))):=by
 show ((intsT (e.map nT)).bind fun a=>(intsT (l.map nT)).map fun b=>T.bl (HT.lexLt a b))=_
 rw [zie,Option.bind_some,zie]
 rfl
theorem zgr{wd:List Str}(h:wd.length<=400):∃ l:List Nat,zan [.lst (wd.map T.str)]=some (.lst (l.map nT))/\Lst (Rds wd wd.length) l:=by
 obtain ⟨t,e,l,rfl,hl⟩:=zfP (n:=5) (d:=zbT) (ts:=[.lst (wd.map T.str)]) (Q:=fun t=>∃ l:List Nat,t=.lst (l.map nT)/\Lst (Rds wd wd.length) l) (by
  show Run zbT [some (.lst (wd.map T.str)),none,none,none,none] _
  unfold zbT
  refine zak (s':=[some (.lst (wd.map T.str)),some (.lst (([]:List Nat).map nT)),none,none,none]) (by simp_all? []<;>rfl) ?_
  have hr:rgOk ((wd.length:Nat):Int)=true:=rgN (by lia)
  refine zcI (its:=(List.range wd.length).map nT) (fun i s=>∃ l a b c,s=[some (.lst (wd.map T.str)),some (.lst (l.map nT)),a,b,c]/\Lst (Rds wd i) l) (s1:=[some (.lst (wd.map T.str)),some (.lst (([]:List Nat).map nT)),none,none,none]) (by simp_all? [hr]; rw [Int.toNat_natCast,zco]) ⟨[],none,none,none,rfl,.inl ⟨rfl,fun u ⟨i,b,hi,_⟩=>absurd hi (by lia)⟩⟩ ?_ ?_
  ·rintro i z s hz ⟨l,a,b,c,rfl,hL⟩
   rw [List.getElem?_map] at hz
   obtain ⟨i',hi',rfl⟩:=Qm hz
   obtain ⟨hlt,hii⟩:=List.getElem?_eq_some_iff.mp hi'
   rw [List.length_range] at hlt
   rw [List.getElem_range] at hii
   subst hii
   refine ⟨[some (.lst (wd.map T.str)),some (.lst (l.map nT)),some (nT i),b,c],rfl,?_⟩
   refine zeO (its:=[false,true].map T.bl) (fun j s=>∃ l b c,s=[some (.lst (wd.map T.str)),some (.lst (l.map nT)),some (nT i),b,c]/\Lst (fun u=>Rds wd i u∨∃ q,q < j/\u=nI (za7 (rdL wd ((i:Nat):Int) (q == 1)))) l) (s1:=[some (.lst (wd.map T.str)),some (.lst (l.map nT)),some (nT i),b,c]) (by simp_all? []<;>rfl) ⟨l,b,c,rfl,?_⟩ ?_ ?_
   ·refine hL.imp (fun z=>⟨z.1,fun u hu=>?_⟩) (fun z=>⟨z.1,.inl z.2.1,fun u hu=>?_⟩)
    ·rcases hu with hu | ⟨q,hq,_⟩
     ·exact z.2 u hu
     ·lia
    ·rcases hu with hu | ⟨q,hq,_⟩
     ·exact z.2.2 u hu
     ·lia
   ·rintro j z s hz ⟨l,b,c,rfl,hL⟩
    have hj:j < 2:=(List.getElem?_eq_some_iff.mp hz).1
    obtain rfl:z=.bl (j == 1):=by
     match j,hj with
     | 0,_=>exact (Option.some.inj hz).symm
     | 1,_=>exact (Option.some.inj hz).symm
    generalize hb:(j == 1)=bk
    have e1:=zcf (wd:=wd) (by lia) ((i:Nat):Int) bk
    have e2:=zh6 (wd:=rdL wd ((i:Nat):Int) bk) (by rw [zbz]; lia)
    have hne:za7 (rdL wd ((i:Nat):Int) bk)≠[]:=fun z=>by
     have:=zay (rdL wd ((i:Nat):Int) bk)
     rw [z,zbz] at this
     simp at this
     lia
    refine ⟨[some (.lst (wd.map T.str)),some (.lst (l.map nT)),some (nT i),some (.bl bk),c],rfl,?_⟩
    generalize hE:za7 (rdL wd ((i:Nat):Int) bk)=en at e2 hne
    have st:=hL.step (S':=fun u=>Rds wd i u∨∃ q,q < j+1/\u=nI (za7 (rdL wd ((i:Nat):Int) (q == 1)))) hne (fun u=>by
     constructor
     ·rintro (hu | ⟨q,hq,hu⟩)
      ·exact .inl (.inl hu)
      ·rcases Nat.lt_or_ge q j with h1 | h1
       ·exact .inl (.inr ⟨q,h1,hu⟩)
       ·obtain rfl:q=j:=by lia
        rw [hb,hE] at hu
        exact .inr hu
     ·rintro ((hu | ⟨q,hq,hu⟩) | hu)
      ·exact .inl hu
      ·exact .inr ⟨q,by lia,hu⟩
      ·exact .inr ⟨j,by lia,by rw [hb,hE]; exact hu⟩)
    refine zak (s':=[some (.lst (wd.map T.str)),some (.lst (l.map nT)),some (nT i),some (.bl bk),some (.lst (en.map nT))]) (by unfold nT; simp_all? [e1,e2]<;>rfl) ?_
    have q1:gEq (.lst (l.map nT)) (.lst [])=some (.bl (decide (l=[]))):=vEqNs l []
    have q2:=zmX en l
    by_cases c1:l=[]
    ·rw [if_pos (.inl c1)] at st
     have c1':decide (l=[])=true:=decide_eq_true c1
     refine zby (r:=.nx [some (.lst (wd.map T.str)),some (.lst (en.map nT)),some (nT i),some (.bl bk),some (.lst (en.map nT))]) (by simp_all? [q1,c1']) ⟨en,_,_,rfl,st⟩
    ·have c1':decide (l=[])=false:=decide_eq_false c1
     cases c2:HT.lexLt (nI en) (nI l) with
     | true=>
      rw [c2] at q2
      rw [if_pos (.inr c2)] at st
      refine zby (r:=.nx [some (.lst (wd.map T.str)),some (.lst (en.map nT)),some (nT i),some (.bl bk),some (.lst (en.map nT))]) (by simp_all? [q1,c1',q2]) ⟨en,_,_,rfl,st⟩
     | false=>
      rw [c2] at q2
      rw [if_neg (by simp [c1,c2])] at st
      refine zby (r:=.nx [some (.lst (wd.map T.str)),some (.lst (l.map nT)),some (nT i),some (.bl bk),some (.lst (en.map nT))]) (by simp_all? [q1,c1',q2]) ⟨l,_,_,rfl,st⟩
   ·rintro s ⟨l,b,c,rfl,hL⟩
    refine ⟨l,_,_,_,rfl,?_⟩
    have eq:∀ u,(Rds wd i u∨∃ q,q < ([false,true].map T.bl).length/\u=nI (za7 (rdL wd ((i:Nat):Int) (q == 1))))↔Rds wd (i+1) u:=fun u=>by
     constructor
     ·rintro (⟨k,b,hk,hu⟩ | ⟨q,hq,hu⟩)
      ·exact ⟨k,b,by lia,hu⟩
      ·exact ⟨i,_,by lia,hu⟩
     ·rintro ⟨k,b,hk,hu⟩
      rcases Nat.lt_or_ge k i with h1 | h1
      ·exact .inl ⟨k,b,h1,hu⟩
      ·obtain rfl:k=i:=by lia
       refine .inr ⟨if b then 1 else 0,by cases b<;>simp,?_⟩
       cases b<;>exact hu
    exact hL.imp (fun z=>⟨z.1,fun u hu=>z.2 u ((eq u).mpr hu)⟩) (fun z=>⟨z.1,(eq _).mp z.2.1,fun u hu=>z.2.2 u ((eq u).mpr hu)⟩)
  ·rintro s ⟨l,a,b,c,rfl,hL⟩
   rw [List.length_map,List.length_range] at hL
   exact zby (r:=.rt (.lst (l.map nT)) [some (.lst (wd.map T.str)),some (.lst (l.map nT)),a,b,c]) (by simp_all? []) ⟨_,_,rfl,l,rfl,hL⟩)
 exact ⟨l,e,hl⟩
end Dw
namespace Dw
open PySem PyProof.Rows L2 L3
theorem zlh{g:Str->Str}{l:List Str}(hg:∀ x∈l,∀ y∈l,g x=g y->x=y){x:Str}(hx:x∈l):(l.map g).idxOf (g x)=l.idxOf x:=by
 induction l with
 | nil=>cases hx
 | cons a l ih=>
  rw [List.map_cons,List.idxOf_cons,List.idxOf_cons]
  by_cases h:a=x
  ·subst h
   simp
  ·have h2:¬ g a=g x:=fun e=>h (hg a List.mem_cons_self x hx e)
   have hx2:x∈l:=by
    rcases List.mem_cons.mp hx with e | e
    ·exact absurd e.symm h
    ·exact e
   rw [beq_eq_false_iff_ne.mpr h,beq_eq_false_iff_ne.mpr h2,ih (fun y hy z hz=>hg y (List.mem_cons_of_mem _ hy) z (List.mem_cons_of_mem _ hz)) hx2]
theorem zgz{g:Str->Str}(w:List Str):∀ acc:List Str,(∀ x∈acc++w,∀ y∈acc++w,g x=g y->x=y)->(w.map g).foldl stp (acc.map g)=(w.foldl stp acc).map g:=by
 induction w with
 | nil=>intro acc _; rfl
 | cons a w ih=>
  intro acc hg
  have e:stp (acc.map g) (g a)=(stp acc a).map g:=by
   unfold stp
   by_cases h:a∈acc
   ·rw [if_pos h,if_pos (List.mem_map.mpr ⟨a,h,rfl⟩)]
   ·have h2:g a∉acc.map g:=fun q=>by
     obtain ⟨y,hy,e⟩:=List.mem_map.mp q
     obtain rfl:=hg y (List.mem_append_left _ hy) a (List.mem_append_right _ List.mem_cons_self) e
     exact h hy
    rw [if_neg h,if_neg h2,List.map_append]
    rfl
  have sub:∀ x∈stp acc a++w,x∈acc++a::w:=fun x hx=>by
   unfold stp at hx
   split at hx
   ·rcases List.mem_append.mp hx with q | q
    ·exact List.mem_append_left _ q
    ·exact List.mem_append_right _ (List.mem_cons_of_mem _ q)
   ·rw [List.append_assoc] at hx
    exact hx
  rw [List.map_cons,List.foldl_cons,List.foldl_cons,e]
  exact ih _ fun x hx y hy=>hg x (sub x hx) y (sub y hy)
theorem zje{g:Str->Str}{w:List Str}(hg:∀ x∈w,∀ y∈w,g x=g y->x=y):za7 (w.map g)=za7 w:=by
 have e:za0 (w.map g)=(za0 w).map g:=zgz w [] (by simpa using hg)
 unfold za7
 rw [e,List.map_map]
 refine List.map_congr_left fun x hx=>?_
 exact zlh (fun y hy z hz=>hg y (mem_firsts.mp hy) z (mem_firsts.mp hz)) (mem_firsts.mpr hx)
theorem zkI(g:Str->Str)(w:List Str)(st:Int)(b:Bool):rdL (w.map g) st b=(rdL w st b).map g:=by
 unfold rdL
 rw [List.length_map,List.map_map]
 refine List.map_congr_left fun k hk=>?_
 have hk:=List.mem_range.mp hk
 have h0:(0:Int) < w.length:=by lia
 show (w.map g).getD ((if b=true then st - (k:Int) else st+k)%w.length).toNat Str.empty=g (w.getD ((if b=true then st - (k:Int) else st+k)%w.length).toNat Str.empty)
 generalize (if b=true then st - (k:Int) else st+k)=x
 have h1:=Int.emod_nonneg x (b:=(w.length:Int)) (by lia)
 have h2:=Int.emod_lt_of_pos x h0
 have h3:(x%w.length).toNat < w.length:=by lia
 rw [zaz (by rw [List.length_map]; exact h3),zaz h3,List.getElem_map]
theorem zfD{w:List Str}{st:Int}{b:Bool}{x:Str}(h:x∈rdL w st b):x∈w:=by
 unfold rdL at h
 obtain ⟨k,hk,rfl⟩:=List.mem_map.mp h
 have hk:=List.mem_range.mp hk
 have h0:(0:Int) < w.length:=by lia
 generalize (if b=true then st - (k:Int) else st+k)=x
 have h1:=Int.emod_nonneg x (b:=(w.length:Int)) (by lia)
 have h2:=Int.emod_lt_of_pos x h0
 have h3:(x%w.length).toNat < w.length:=by lia
 rw [zaz h3]
 exact List.getElem_mem h3
theorem zhU{w:List Str}{k:Nat}(h:k < w.length):(za7 w)[k]?=some ((za0 w).idxOf w[k]):=by
 unfold za7
 rw [List.getElem?_map,List.getElem?_eq_getElem h]
 rfl
theorem zmW{l:List Str}(h:l.Nodup){i j:Nat}{hi:i < l.length}{hj:j < l.length}(e:l[i]=l[j]):i=j:=by
 have p:=List.pairwise_iff_getElem.mp h
 rcases Nat.lt_trichotomy i j with q | q | q
 ·exact absurd e (p i j hi hj q)
 ·exact q
 ·exact absurd e.symm (p j i hj hi q)
theorem zgx{w:List Str}{x:Str}(h:x∈w):(za0 w).idxOf x < (za0 w).length:=List.idxOf_lt_length_of_mem (mem_firsts.mpr h)
theorem ren{r w:List Str}(h:za7 r=za7 w):∃ g:Str->Str,w=r.map g/\∀ x∈r,∀ y∈r,g x=g y->x=y:=by
 have hl:r.length=w.length:=by rw [<-zay r,h,zay]
 have at':∀ k (h1:k < r.length) (h2:k < w.length),(za0 r).idxOf r[k]=(za0 w).idxOf w[k]:=fun k h1 h2=>by
  have e1:=zhU h1
  rw [h,zhU h2] at e1
  exact (Option.some.inj e1).symm
 have lt:∀ x∈r,(za0 r).idxOf x < (za0 w).length:=fun x hx=>by
  obtain ⟨k,hk,rfl⟩:=List.getElem_of_mem hx
  rw [at' k hk (by lia)]
  exact zgx (List.getElem_mem _)
 refine ⟨fun x=>(za0 w).getD ((za0 r).idxOf x) Str.empty,?_,fun x hx y hy e=>?_⟩
 ·refine List.ext_getElem (by rw [List.length_map]; exact hl.symm) fun k h1 h2=>?_
  have h3:k < r.length:=by lia
  rw [List.getElem_map,at' k h3 h1,zaz (zgx (List.getElem_mem _)),List.getElem_idxOf]
 ·have e:(za0 w).getD ((za0 r).idxOf x) Str.empty=(za0 w).getD ((za0 r).idxOf y) Str.empty:=e
  rw [zaz (lt x hx),zaz (lt y hy)] at e
  have q:(za0 r).idxOf x=(za0 r).idxOf y:=zmW (zba w) e
  have q1:=List.getElem_idxOf (zgx hx)
  have q2:=List.getElem_idxOf (zgx hy)
  rw [<-q1,<-q2]
  congr 1
theorem zdz{r w:List Str}(h:za7 r=za7 w)(st:Int)(b:Bool):za7 (rdL w st b)=za7 (rdL r st b):=by
 obtain ⟨g,rfl,hg⟩:=ren h
 rw [zkI]
 exact zje fun x hx y hy=>hg x (zfD hx) y (zfD hy)
theorem Rds.ren{r w:List Str}(h:za7 r=za7 w)(u:List Int):Rds r r.length u↔Rds w w.length u:=by
 have hl:r.length=w.length:=by rw [<-zay r,h,zay]
 constructor
 ·rintro ⟨i,b,hi,rfl⟩
  exact ⟨i,b,by lia,by rw [zdz h]⟩
 ·rintro ⟨i,b,hi,rfl⟩
  exact ⟨i,b,by lia,by rw [zdz h]⟩
def Al(w o:List Str):Prop:=∃ p∈waysL (max 1 o.length),za7 (rd o p)=za7 w
theorem Lst.len{wd:List Str}{l:List Nat}(h:Lst (Rds wd wd.length) l):l.length=wd.length:=by
 rcases h with ⟨h1,h2⟩ | ⟨h1,⟨i,b,hi,e⟩,h3⟩
 ·subst h1
  by_cases hn:wd=[]
  ·rw [hn]; rfl
  ·exact absurd ⟨0,false,List.length_pos_iff.mpr hn,rfl⟩ (h2 _)
 ·rw [zgo e,zay,zbz]
theorem zds{w:List Str}(i:Int)(b:Bool):rdL (rdL w i b) (if b then i else -i) b=w:=by
 rw [zdd]
 cases b
 ·rw [show (if false=true then i - (if false=true then i else -i) else i+(if false=true then i else -i))=(0:Int) by simp; lia]; exact zdc w
 ·rw [show (if true=true then i - (if true=true then i else -i) else i+(if true=true then i else -i))=(0:Int) by simp]; exact zdc w
theorem znG{w o:List Str}{l m:List Nat}(hl:Lst (Rds w w.length) l)(hm:Lst (Rds o o.length) m):Al w o↔l=m:=by
 have ll:=hl.len
 have lm:=hm.len
 constructor
 ·rintro ⟨⟨i,b⟩,hp,e⟩
  have hlen:o.length=w.length:=by rw [<-zdt o (i,b),<-zay (rd o (i,b)),e,zay]
  by_cases h0:o=[]
  ·subst h0
   have:w=[]:=List.eq_nil_of_length_eq_zero (by rw [<-hlen]; rfl)
   subst this
   rw [List.eq_nil_of_length_eq_zero ll,List.eq_nil_of_length_eq_zero lm]
  ·have hi:i < o.length:=by
    have:=mem_ways.mp hp
    have:=List.length_pos_iff.mpr h0
    lia
   rw [zhr hi] at e
   refine hl.one hm fun u=>?_
   have q:=Rds.ren e u
   rw [zbz] at q
   exact q.symm.trans (Rds.same h0 i b u)
 ·intro e
  subst e
  by_cases h0:o=[]
  ·subst h0
   have:w=[]:=List.eq_nil_of_length_eq_zero (by rw [<-ll,lm]; rfl)
   subst this
   exact ⟨(0,false),mem_ways.mpr (by decide),rfl⟩
  ·have ho:=List.length_pos_iff.mpr h0
   rcases hl with ⟨h1,_⟩ | ⟨_,⟨i,b,hi,e1⟩,_⟩
   ·rw [h1] at lm
    simp at lm
    lia
   rcases hm with ⟨h1,_⟩ | ⟨_,⟨j,c,hj,e2⟩,_⟩
   ·rw [h1] at lm
    simp at lm
    lia
   have e:za7 (rdL w i b)=za7 (rdL o j c):=by rw [<-zgo e1,zgo e2]
   have q:=zdz e (if b then (i:Int) else -(i:Int)) b
   rw [zds,zdd] at q
   generalize (if c=true then (j:Int) - (if b=true then (i:Int) else -(i:Int)) else j+(if b=true then (i:Int) else -(i:Int)))=x at q
   have h1:=Int.emod_nonneg x (b:=(o.length:Int)) (by lia)
   have h2:=Int.emod_lt_of_pos x (show (0:Int) < o.length by lia)
   have hx:(x%o.length).toNat < o.length:=by lia
   refine ⟨((x%o.length).toNat,c != b),mem_ways.mpr (show (x%o.length).toNat < _ by lia),?_⟩
   rw [zhr hx,Int.toNat_of_nonneg h1,zhs]
   exact q
end Dw
namespace Dw
open PySem PyProof.Rows L2 L3
theorem zij{n:Nat}{d:DS}{ts:List T}{Q:T->Prop}(h:L3.Run d (zax n ts) (fun r=>∃ t s,r=.rt t s/\Q t)):∃ t,fnPn n d ts=some t/\Q t:=by
 obtain ⟨r,e,t,s,rfl,q⟩:=h
 exact ⟨t,by unfold fnPn; rw [e],q⟩
theorem zfd(l:List Str):(l.map T.str).all flatT=true:=by
 rw [List.all_map,List.all_eq_true]
 exact fun _ _=>rfl
theorem vLZs(a b:List Str):gLZs [.lst (a.map T.str),.lst (b.map T.str)]=some (.lst (List.zipWith (fun x y=>T.tup [x,y]) (a.map T.str) (b.map T.str))):=by
 show (if (a.map T.str).all flatT=true/\(b.map T.str).all flatT=true then _ else _)=_
 rw [if_pos ⟨zfd a,zfd b⟩]
def ze7(w r:List Str)(i:Nat)(bk:Bool):T:=.tup [.int i,.bl bk,.lst (List.zipWith (fun x y=>T.tup [x,y]) ((za0 w).map T.str) ((za0 r).map T.str))]
theorem zjK{w o:List Str}(hw:w.length<=400)(ho:o.length<=400):∃ t,zb1 [.lst (w.map T.str),.lst (o.map T.str)]=some t/\((t=.non/\¬ Al w o)∨(Al w o/\∃ (i:Nat) (bk:Bool),i < max 1 o.length/\(o=[]->bk=false)/\za7 (rd o (i,bk))=za7 w/\t=ze7 w (rd o (i,bk)) i bk)):=by
 refine zij ?_
 show Run zcy [some (.lst (w.map T.str)),some (.lst (o.map T.str)),none,none,none,none] _
 unfold zcy
 have e0:=ze2 (wd:=w) (by lia)
 have hm:imax 1 (o.length:Int)=((max 1 o.length:Nat):Int):=by unfold imax; split<;>lia
 have ew:=zki (wd:=o) (by lia) hm (by lia)
 refine zak (s':=[some (.lst (w.map T.str)),some (.lst (o.map T.str)),some (.lst ((za7 w).map nT)),none,none,none]) (by simp_all? [e0]) ?_
 refine ziW (its:=(waysL (max 1 o.length)).map wT) (fun j s=>(∃ a b c,s=[some (.lst (w.map T.str)),some (.lst (o.map T.str)),some (.lst ((za7 w).map nT)),a,b,c])/\∀ k p,k < j->(waysL (max 1 o.length))[k]?=some p->za7 (rd o p)≠za7 w) (s1:=[some (.lst (w.map T.str)),some (.lst (o.map T.str)),some (.lst ((za7 w).map nT)),none,none,none]) (by simp_all? [ew]) ⟨⟨_,_,_,rfl⟩,fun k p hk=>by lia⟩ ?_ ?_
 ·rintro j z s hz ⟨⟨a,b,c,rfl⟩,hno⟩
  rw [List.getElem?_map] at hz
  obtain ⟨⟨i,bk⟩,hp,rfl⟩:=Qm hz
  have hi:i < max 1 o.length:=mem_ways.mp (List.mem_of_getElem? hp)
  have e1:=zkG (wd:=o) (by lia) hi bk
  have e2:=ze2 (wd:=rd o (i,bk)) (by rw [zdt]; lia)
  have e3:=zce (wd:=w) (by lia)
  have e4:=zce (wd:=rd o (i,bk)) (by rw [zdt]; lia)
  refine ⟨[some (.lst (w.map T.str)),some (.lst (o.map T.str)),some (.lst ((za7 w).map nT)),some (.int i),some (.bl bk),c],rfl,?_⟩
  refine zak (s':=[some (.lst (w.map T.str)),some (.lst (o.map T.str)),some (.lst ((za7 w).map nT)),some (.int i),some (.bl bk),some (.lst ((rd o (i,bk)).map T.str))]) (by simp_all? [e1]) ?_
  by_cases h:za7 (rd o (i,bk))=za7 w
  ·have h':decide (za7 (rd o (i,bk))=za7 w)=true:=decide_eq_true h
   refine zby (r:=.rt (ze7 w (rd o (i,bk)) i bk) [some (.lst (w.map T.str)),some (.lst (o.map T.str)),some (.lst ((za7 w).map nT)),some (.int i),some (.bl bk),some (.lst ((rd o (i,bk)).map T.str))]) (by simp_all? [e2,h',e3,e4,vLZs,flatT,and_self]<;>rfl) ⟨_,_,rfl,.inr ⟨⟨_,List.mem_of_getElem? hp,h⟩,i,bk,hi,fun z=>?_,h,rfl⟩⟩
   subst z
   have hj:(waysL 1)[j]?=some (i,bk):=hp
   have w1:waysL 1=[(0,false),(0,true)]:=rfl
   rw [w1] at hj
   match j,hj,hno with
   | 0,hj,_=>exact (Prod.mk.inj (Option.some.inj hj)).2.symm
   | 1,hj,hno=>
    have r0:∀ p,rd ([]:List Str) p=[]:=fun p=>List.eq_nil_of_length_eq_zero (zdt [] p)
    refine absurd ?_ (hno 0 (0,false) (by lia) rfl)
    rw [r0]
    rw [r0] at h
    exact h
   | j+2,hj,_=>simp at hj
  ·have h':decide (za7 (rd o (i,bk))=za7 w)=false:=decide_eq_false h
   refine zby (r:=.nx [some (.lst (w.map T.str)),some (.lst (o.map T.str)),some (.lst ((za7 w).map nT)),some (.int i),some (.bl bk),some (.lst ((rd o (i,bk)).map T.str))]) (by simp_all? [e2,h']) ⟨⟨_,_,_,rfl⟩,fun k p hk hp'=>?_⟩
   rcases Nat.lt_or_ge k j with q | q
   ·exact hno k p q hp'
   ·obtain rfl:k=j:=by lia
    rw [hp] at hp'
    obtain rfl:=Option.some.inj hp'
    exact h
 ·rintro s ⟨⟨a,b,c,rfl⟩,hno⟩
  refine zby (r:=.rt .non [some (.lst (w.map T.str)),some (.lst (o.map T.str)),some (.lst ((za7 w).map nT)),a,b,c]) (by simp_all? [flatT]) ⟨_,_,rfl,.inl ⟨rfl,?_⟩⟩
  rintro ⟨p,hp,e⟩
  obtain ⟨k,hk⟩:=List.getElem?_of_mem hp
  exact hno k p (by rw [List.length_map]; exact (List.getElem?_eq_some_iff.mp hk).1) hk e
end Dw
namespace Dw
open PySem PyProof.Rows L2 L3
theorem zdS:∀ (l:List Str),strsT (l.map T.str)=some l
 | []=>rfl
 | k::l=>by show (strsT (l.map T.str)).map (k::·)=_; rw [zdS l]; rfl
theorem zkr{l:List Str}(h:l.length < 1000):zch (.lst (l.map T.str))=some (.int ((za0 l).length:Nat)):=by
 simp only [zch,zdS,Option.bind_some]
 exact if_pos h
theorem zii:∀ (l acc:List Str),(acc++l).Nodup->l.foldl stp acc=acc++l
 | [],acc,_=>(List.append_nil acc).symm
 | x::l,acc,h=>by
  have hx:x∉acc:=fun z=>by
   rw [List.nodup_append] at h
   exact h.2.2 x z x List.mem_cons_self rfl
  have e:stp acc x=acc++[x]:=by unfold stp; rw [if_neg hx]
  rw [List.foldl_cons,e,zii l _ (by rw [List.append_assoc]; exact h),List.append_assoc]; rfl
theorem zff{l:List Str}(h:l.Nodup):za0 l=l:=zii l [] h
def pT(g:Str->Str)(x:Str):T:=.tup [.str x,.str (g x)]
theorem zhb(g:Str->Str):∀ l:List Str,List.zipWith (fun x y=>T.tup [x,y]) (l.map T.str) ((l.map g).map T.str)=l.map (pT g)
 | []=>rfl
 | x::l=>by
  rw [List.map_cons,List.map_cons,List.map_cons,List.zipWith_cons_cons,zhb g l]; rfl
theorem zhc(g:Str->Str):∀ l:List Str,zipT (l.map T.str) ((l.map g).map T.str)=l.map (pT g)
 | []=>rfl
 | x::l=>by
  have:=zhc g l
  unfold zipT at this ⊢
  rw [List.map_cons,List.map_cons,List.map_cons,List.zip_cons_cons,List.map_cons,this]; rfl
theorem zeX(g:Str->Str):∀ l:List Str,zd6 (l.map (pT g))=some (l.map fun x=>(x,g x))
 | []=>rfl
 | x::l=>by
  show (zd6 (l.map (pT g))).map ((x,g x)::·)=_
  rw [zeX g l]; rfl
theorem zgl(g:Str->Str)(x:Str)(l:List Str):zcR (.tup [.str x,.str (g x)]) (.lst (l.map (pT g)))=some (.bl (!decide (x∈l))):=by
 show ((zd6 (l.map (pT g))).map fun ps=>T.bl (!ps.any fun p=>p.1 == x&&p.2 == g x))=_
 rw [zeX,Option.map_some]
 congr 3
 rw [Bool.eq_iff_iff,decide_eq_true_iff,List.any_map,List.any_eq_true]
 constructor
 ·rintro ⟨y,hy,h⟩
  have h:(y == x&&g y == g x)=true:=h
  rw [Bool.and_eq_true,beq_iff_eq] at h
  exact h.1▸hy
 ·intro h
  refine ⟨x,h,?_⟩
  show (x == x&&g x == g x)=true
  simp
theorem zcH{f:T->T->Option Bool}:∀ {xs:List T},(∀ x∈xs,f x x=some true)->allE f xs xs=some true
 | [],_=>rfl
 | x::xs,h=>by
  unfold allE
  rw [h x (by simp),zcH fun y hy=>h y (List.mem_cons_of_mem _ hy)]; rfl
theorem zni(c d a b:Str):eqD 7 (.tup [.str c,.str d]) (.tup [.str a,.str b])=some (c == a&&d == b):=by
 show (allE (eqD 6) [T.str c,.str d] [.str a,.str b]).map (fun r=>r&&2 == 2)=_
 have e:∀ x y:Str,eqD 6 (.str x) (.str y)=some (x == y):=fun x y=>rfl
 simp [allE,e]
theorem eq_pT(g:Str->Str)(l:List Str):gEq (.lst (l.map (pT g))) (.lst (l.map (pT g)))=some (.bl true):=by
 show (if (l.map (pT g)).length=(l.map (pT g)).length then allE (eqD 7) (l.map (pT g)) (l.map (pT g)) else some false).map T.bl=_
 rw [if_pos rfl,zcH]
 ·rfl
 ·intro x hx
  obtain ⟨y,_,rfl⟩:=List.mem_map.mp hx
  unfold pT
  rw [zni]; simp
theorem zmV{g:Str->Str}{l:List Str}(h:l.Nodup)(hg:∀ x∈l,∀ y∈l,g x=g y->x=y):(l.map g).Nodup:=
 List.Pairwise.map _ (R:=fun a b=>a≠b/\a∈l/\b∈l) (fun a b ⟨n,ha,hb⟩ z=>n (hg a ha b hb z)) (List.Pairwise.imp_of_mem (R:=fun a b=>a≠b) (fun {a b} ha hb n=>⟨n,ha,hb⟩) h)
theorem zgP{w o:List Str}(hw:w.length<=400)(ho:o.length<=400){i:Nat}{bk:Bool}(hi:i < max 1 o.length)(hb:o=[]->bk=false)(hn:za7 (rd o (i,bk))=za7 w):zav [ze7 w (rd o (i,bk)) i bk,.lst (w.map T.str),.lst (o.map T.str)]=some (.bl true):=by
 obtain ⟨g,hr,hg⟩:=ren hn.symm
 have hf:za0 (rd o (i,bk))=(za0 w).map g:=by rw [hr]; exact zgz w [] (by simpa using hg)
 have fd:ze7 w (rd o (i,bk)) i bk=.tup [.int i,.bl bk,.lst ((za0 w).map (pT g))]:=by unfold ze7; rw [hf,zhb]
 rw [fd]
 have fl:=zbS w
 have hgf:∀ x∈za0 w,∀ y∈za0 w,g x=g y->x=y:=fun x hx y hy=>hg x (mem_firsts.mp hx) y (mem_firsts.mp hy)
 refine ze8 ?_
 show Run zbC [some (.tup [.int i,.bl bk,.lst ((za0 w).map (pT g))]),some (.lst (w.map T.str)),some (.lst (o.map T.str)),none,none,none,none] _
 unfold zbC
 have i0:gItem (.tup [.int (i:Int),.bl bk,.lst ((za0 w).map (pT g))]) (.int 0)=some (.int (i:Int)):=rfl
 have i1:gItem (.tup [.int (i:Int),.bl bk,.lst ((za0 w).map (pT g))]) (.int 1)=some (.bl bk):=rfl
 have i2:gItem (.tup [.int (i:Int),.bl bk,.lst ((za0 w).map (pT g))]) (.int 2)=some (.lst ((za0 w).map (pT g))):=rfl
 have hm:imax 1 (o.length:Int)=((max 1 o.length:Nat):Int):=by unfold imax; split<;>lia
 refine zak (s':=[some (.tup [.int i,.bl bk,.lst ((za0 w).map (pT g))]),some (.lst (w.map T.str)),some (.lst (o.map T.str)),none,none,none,none]) (by simp_all? [i1]<;>rfl) ?_
 refine zak (s':=[some (.tup [.int i,.bl bk,.lst ((za0 w).map (pT g))]),some (.lst (w.map T.str)),some (.lst (o.map T.str)),none,none,none,none]) (by simp_all? [i0,hm,decide_eq_true (show (0:Int)<=(i:Int) by lia),decide_eq_true (show (i:Int) < ((max 1 o.length:Nat):Int) by lia)]) ?_
 have e3:=zbA (M:=[]) (caps:=[none]) (fi:=dItA (d2 gItem (dV 0) (dC (.int 2)))) (dg:=dGn 0) (fe:=dAndV (dIsi "tuple" (dV 0)) (d2 gEq (d1 gLen (dV 0)) (dC (.int 2)))) (s:=[some (.tup [.int i,.bl bk,.lst ((za0 w).map (pT g))]),some (.lst (w.map T.str)),some (.lst (o.map T.str)),none,none,none,none]) (za0 w) (pT g) (fun _=>.bl true) (by simp_all? [i2]) (by lia) (by
  intro x hx
  exact ⟨[some (pT g x)],rfl,by simp_all? [pT]<;>rfl,rfl⟩)
 rw [show (za0 w).map (fun _=>T.bl true)=((za0 w).map fun _=>true).map T.bl by rw [List.map_map]; rfl] at e3
 have e7:((za0 w).map fun _=>true).all id=true:=by rw [List.all_map,List.all_eq_true]; exact fun _ _=>rfl
 refine zak (s':=[some (.tup [.int i,.bl bk,.lst ((za0 w).map (pT g))]),some (.lst (w.map T.str)),some (.lst (o.map T.str)),none,none,none,none]) (by simp_all? [i2,e3,e7]) ?_
 have eo:gEq (.lst (o.map T.str)) (.lst [])=some (.bl (decide (o=[]))):=vEqSs o []
 by_cases h0:o=[]
 ·subst h0
  have bf:=hb rfl
  subst bf
  obtain rfl:i=0:=by
   have:i < 1:=hi
   lia
  have hw0:w=[]:=by
   have r0:rd ([]:List Str) (0,false)=[]:=List.eq_nil_of_length_eq_zero (zdt [] _)
   rw [r0] at hn
   have:=zay w
   rw [<-hn] at this
   exact List.eq_nil_of_length_eq_zero this.symm
  subst hw0
  have ee:gEq (.tup [.int ((0:Nat):Int),.bl false,.lst ((za0 []).map (pT g))]) (.tup [.int 0,.bl false,.lst []])=some (.bl true):=rfl
  exact zgf (t:=.bl true) (s':=[some (.tup [.int ((0:Nat):Int),.bl false,.lst ((za0 []).map (pT g))]),some (.lst (([]:List Str).map T.str)),some (.lst (([]:List Str).map T.str)),none,none,none,none]) (by simp_all? [eo,decide_eq_true (show ([]:List Str)=[] from rfl),ee]) rfl
 ·have hlo:0 < o.length:=List.length_pos_iff.mpr h0
  have hi':i < o.length:=by lia
  refine zak (s':=[some (.tup [.int i,.bl bk,.lst ((za0 w).map (pT g))]),some (.lst (w.map T.str)),some (.lst (o.map T.str)),none,none,none,none]) (by simp_all? [eo,decide_eq_false h0]) ?_
  refine zak (s':=[some (.tup [.int i,.bl bk,.lst ((za0 w).map (pT g))]),some (.lst (w.map T.str)),some (.lst (o.map T.str)),some (.lst (([]:List Str).map (pT g))),none,none,none]) (by simp_all? []<;>rfl) ?_
  have er:=zcf (wd:=o) (by lia) ((i:Nat):Int) bk
  rw [<-zhr hi',hr] at er
  have hl:(w.map g).length<=400:=by rw [List.length_map]; exact hw
  refine zcI (its:=w.map (pT g)) (fun j s=>∃ a b,s=[some (.tup [.int i,.bl bk,.lst ((za0 w).map (pT g))]),some (.lst (w.map T.str)),some (.lst (o.map T.str)),some (.lst ((za0 (w.take j)).map (pT g))),a,b,none]) (s1:=[some (.tup [.int i,.bl bk,.lst ((za0 w).map (pT g))]),some (.lst (w.map T.str)),some (.lst (o.map T.str)),some (.lst (([]:List Str).map (pT g))),none,none,none]) (by simp_all? [i0,i1,er,zhc]) ⟨_,_,rfl⟩ ?_ ?_
  ·rintro j z s hz ⟨a,b,rfl⟩
   rw [List.getElem?_map] at hz
   obtain ⟨x,hx,rfl⟩:=Qm hz
   have hF:=zci hx
   have l0:=zbS (w.take j)
   rw [List.length_take] at l0
   refine ⟨[some (.tup [.int i,.bl bk,.lst ((za0 w).map (pT g))]),some (.lst (w.map T.str)),some (.lst (o.map T.str)),some (.lst ((za0 (w.take j)).map (pT g))),some (.str x),some (.str (g x)),none],rfl,?_⟩
   by_cases hin:x∈za0 (w.take j)
   ·have e3:za0 (w.take (j+1))=za0 (w.take j):=by rw [hF]; unfold stp; rw [if_pos hin]
    exact zbX (s':=[some (.tup [.int i,.bl bk,.lst ((za0 w).map (pT g))]),some (.lst (w.map T.str)),some (.lst (o.map T.str)),some (.lst ((za0 (w.take j)).map (pT g))),some (.str x),some (.str (g x)),none]) (by simp_all? [zgl,decide_eq_true hin]) ⟨_,_,by rw [e3]⟩
   ·have e3:za0 (w.take (j+1))=za0 (w.take j)++[x]:=by rw [hF]; unfold stp; rw [if_neg hin]
    exact zbX (s':=[some (.tup [.int i,.bl bk,.lst ((za0 w).map (pT g))]),some (.lst (w.map T.str)),some (.lst (o.map T.str)),some (.lst ((za0 (w.take j)++[x]).map (pT g))),some (.str x),some (.str (g x)),none]) (by simp_all? [zgl,decide_eq_false hin,vAppA,List.map_append,List.map_cons,List.map_nil,pT]) ⟨_,_,by rw [e3]⟩
  ·rintro s ⟨a,b,rfl⟩
   rw [List.length_map,List.take_length]
   have inner:∀ k:Nat,k < 2->dLC [1] [none,some 0] (dItV 1) (dGn 0) dYes (d2 gItem (dV 0) (dV 1)) [some (.int (k:Int)),some (.lst ((za0 w).map (pT g)))]=some (.lst (((za0 w).map fun x=>if k=0 then x else g x).map T.str),[some (.int (k:Int)),some (.lst ((za0 w).map (pT g)))]):=fun k hk=>by
    have:=zbA (M:=[1]) (caps:=[none,some 0]) (fi:=dItV 1) (dg:=dGn 0) (fe:=d2 gItem (dV 0) (dV 1)) (s:=[some (.int (k:Int)),some (.lst ((za0 w).map (pT g)))]) (za0 w) (pT g) (fun x=>T.str (if k=0 then x else g x)) rfl (by lia) (by
     intro x hx
     refine ⟨[some (pT g x),some (.int (k:Int))],rfl,?_,rfl⟩
     match k,hk with
     | 0,_=>rfl
     | 1,_=>rfl)
    rw [this,List.map_map]
    rfl
   have sz:∀ k:Nat,k < 2->(za0 ((za0 w).map fun x=>if k=0 then x else g x)).length=(za0 w).length:=fun k hk=>by
    match k,hk with
    | 0,_=>
     have:(za0 w).map (fun x=>if (0:Nat)=0 then x else g x)=za0 w:=by simp
     rw [this,zff (zba w)]
    | 1,_=>
     have:(za0 w).map (fun x=>if (1:Nat)=0 then x else g x)=(za0 w).map g:=by simp
     rw [this,zff (zmV (zba w) hgf),List.length_map]
   have eu:=zbA (M:=[3]) (caps:=[none,some 3]) (fi:=dRg1 (dAc (dC (.int 2)) dAn)) (dg:=dGn 0) (fe:=d1 zch (dLC [1] [none,some 0] (dItV 1) (dGn 0) dYes (d2 gItem (dV 0) (dV 1)))) (s:=[some (.tup [.int i,.bl bk,.lst ((za0 w).map (pT g))]),some (.lst (w.map T.str)),some (.lst (o.map T.str)),some (.lst ((za0 w).map (pT g))),a,b,none]) [0,1] nT (fun _=>nT (za0 w).length) (by simp_all? [zcJ (j:=2) (by decide) (by decide)]<;>rfl) (by decide) (by
    intro k hk
    have hk2:k < 2:=by
     rcases List.mem_cons.mp hk with q | q
     ·lia
     ·have:=List.mem_singleton.mp q; lia
    refine ⟨[some (.int (k:Int)),some (.lst ((za0 w).map (pT g)))],rfl,?_,rfl⟩
    unfold d1
    rw [inner k hk2,Option.bind_some]
    show (zch (.lst (((za0 w).map fun x=>if k=0 then x else g x).map T.str))).map _=_
    rw [zkr (by rw [List.length_map]; lia),sz k hk2]
    rfl)
   refine zak (s':=[some (.tup [.int i,.bl bk,.lst ((za0 w).map (pT g))]),some (.lst (w.map T.str)),some (.lst (o.map T.str)),some (.lst ((za0 w).map (pT g))),a,b,some (.lst ([(za0 w).length,(za0 w).length].map nT))]) (by simp_all? [eu]<;>rfl) ?_
   have en:gEq (.lst ([(za0 w).length,(za0 w).length].map nT)) (.lst ([(za0 w).length,(za0 w).length].map nT))=some (.bl true):=by rw [vEqNs,decide_eq_true rfl]
   have en':gEq (.lst ([(za0 w).length,(za0 w).length].map nT)) (.lst [.int ((za0 w).length:Int),.int ((za0 w).length:Int)])=some (.bl true):=en
   exact zdr (t:=.bl true) (s':=[some (.tup [.int i,.bl bk,.lst ((za0 w).map (pT g))]),some (.lst (w.map T.str)),some (.lst (o.map T.str)),some (.lst ((za0 w).map (pT g))),a,b,some (.lst ([(za0 w).length,(za0 w).length].map nT))]) (by simp_all? [i2,eq_pT,en']) rfl
end Dw
namespace Dw
open PySem PyProof.Rows L2 L3
theorem ifD_f{M:List Nat}{ft:DT}{d d':DS}{s:Sg}(h:ft s=some (false,s))(hf:FlatM M s):dIfD M ft d d' s=d' s:=by
 unfold dIfD
 rw [h,Option.bind_some]
 rw [if_pos ⟨rfl,hf⟩]
 rfl
theorem ifD_t{M:List Nat}{ft:DT}{d d':DS}{s:Sg}(h:ft s=some (true,s))(hf:FlatM M s):dIfD M ft d d' s=d s:=by
 unfold dIfD
 rw [h,Option.bind_some]
 rw [if_pos ⟨rfl,hf⟩]
 rfl
theorem zfe(s:Sg):FlatM [] s:=fun i hi=>absurd hi (by simp)
theorem zgc{d d':DS}{s s1:Sg}{r:Option Fl}(h:d s=some (.nx s1))(h':d' s1=r):dSeq d d' s=r:=by
 unfold dSeq
 rw [h]
 exact h'
theorem znE{M:List Nat}{x k:Nat}{fe:DE}{s:Sg}{t:T}{ts us:List T}(h:fe s=some (t,s))(hf:FlatM M s)(h1:s[x]?=some (some (.tup ts)))(h2:ts[k]?=some (.lst us))(h3:us.length<=10000):dApkD M x k fe s=some (.nx (s.set x (some T.any))):=by
 unfold dApkD
 rw [h,Option.bind_some,if_pos ⟨rfl,hf,ts,us,h1,h2,h3⟩]
theorem zjP{d:DS}{s s':Sg}{t:T}(h:d s=some (.rt t s')):dRtD d s=some (.rt t s'):=by
 unfold dRtD
 rw [h]
theorem zjE{fn:List T->Option T}{fa:DA}{x:Nat}{d:DS}{s s1 s2:Sg}{ts:List T}{t u:T}(h1:fa s=some (ts,s1))(h2:fn ts=some t)(h3:x < s1.length)(h4:d (s1.set x (some t))=some (.rt u s2)):zea fn fa x d s=some (.rt u s2):=by
 unfold zea
 rw [h1,Option.bind_some]
 dsimp only
 rw [h2,Option.bind_some,if_pos h3,h4]
 rfl
theorem zgb{d d':DS}{s s1:Sg}{t:T}(h:d s=some (.rt t s1)):dSeq d d' s=some (.rt t s1):=by
 unfold dSeq
 rw [h]
 rfl
theorem zmU(w o:List Str):gNe (.lst [.lst (w.map T.str),.lst (o.map T.str)]) (.lst [.lst (w.map T.str),.lst (o.map T.str)])=some (.bl false):=by
 show (if 2=2 then allE (eqD 7) [T.lst (w.map T.str),.lst (o.map T.str)] [T.lst (w.map T.str),.lst (o.map T.str)] else some false).map (fun b=>T.bl (!b))=_
 rw [if_pos rfl,zcH]
 ·rfl
 ·have key:∀ l:List Str,eqD 7 (.lst (l.map T.str)) (.lst (l.map T.str))=some true:=fun l=>by
   show (if (l.map T.str).length=(l.map T.str).length then allE (eqD 6) (l.map T.str) (l.map T.str) else some false)=some true
   rw [if_pos rfl,zcH]
   intro y hy
   obtain ⟨z,_,rfl⟩:=List.mem_map.mp hy
   show some (z == z)=some true
   simp
  intro x hx
  rcases List.mem_cons.mp hx with rfl | hx
  ·exact key w
  ·rw [List.mem_singleton.mp hx]; exact key o
theorem zcn{w o:List Str}(hw:w.length<=400)(ho:o.length<=400):zaQ [.lst (w.map T.str),.lst (o.map T.str)]=some (.bl true):=by
 obtain ⟨l,el,hl⟩:=zgr (wd:=w) hw
 obtain ⟨m,em,hm⟩:=zgr (wd:=o) ho
 obtain ⟨t,ea,hA⟩:=zjK hw ho
 rw [znG hl hm] at hA
 have ll:=hl.len
 have lm:=hm.len
 refine ze8 ?_
 show Run zcz [some (.lst (w.map T.str)),some (.lst (o.map T.str)),none,none] _
 unfold zcz
 refine zak (s':=[some (.lst (w.map T.str)),some (.lst (o.map T.str)),some (.lst [.lst (w.map T.str),.lst (o.map T.str)]),none]) (by simp_all? []<;>rfl) ?_
 have i0:gItem (.lst [.lst (w.map T.str),.lst (o.map T.str)]) (.int 0)=some (.lst (w.map T.str)):=by rw [show (0:Int)=((0:Nat):Int) from rfl,zcX]; rfl
 have i1:gItem (.lst [.lst (w.map T.str),.lst (o.map T.str)]) (.int 1)=some (.lst (o.map T.str)):=by rw [show (1:Int)=((1:Nat):Int) from rfl,zcX]; rfl
 suffices h:∃ s2,(dSeq (dIfD [] (dB (d2 gNe (dV 2) (dLst (dAc (dV 0) (dAc (dV 1) dAn))))) (dRtD (dRetI [] (dC (.bl false)))) dNext)
  (dSeq (dIfD [] (dOr (dB (d2 gNe (d1 gLen (dV 0)) (d1 gLen (dV 1)))) (dB (d2 gNe (dCall zan (dAc (dV 0) dAn)) (dCall zan (dAc (dV 1) dAn))))) (dRtD (dRetI [] (d2 gIs (dV 3) (dC .non)))) dNext)
  (dSeq (dIfD [] (dNot (dTru (dCall zav (dAc (dV 3) (dAc (dV 0) (dAc (dV 1) dAn)))))) (dRtD (dRetI [] (dC (.bl false)))) dNext)
  (dSeq (dApkD [] 3 2 (dTup (dAc (dC (.str "z")) (dAc (dC (.str "z")) dAn))))
  (dRtD (dRetI [] (dCall zav (dAc (dCall zb1 (dAc (d2 gItem (dV 2) (dC (.int 0))) (dAc (d2 gItem (dV 2) (dC (.int 1))) dAn))) (dAc (dV 0) (dAc (dV 1) dAn))))))))))
   [some (.lst (w.map T.str)),some (.lst (o.map T.str)),some (.lst [.lst (w.map T.str),.lst (o.map T.str)]),some t]=some (.rt (.bl true) s2) by
  obtain ⟨s2,h⟩:=h
  exact ⟨_,zjE (ts:=[.lst (w.map T.str),.lst (o.map T.str)]) (s1:=[some (.lst (w.map T.str)),some (.lst (o.map T.str)),some (.lst [.lst (w.map T.str),.lst (o.map T.str)]),none]) (by simp_all? [i0,i1]) ea (by simp) h,s2,rfl⟩
 generalize hS:[some (.lst (w.map T.str)),some (.lst (o.map T.str)),some (.lst [.lst (w.map T.str),.lst (o.map T.str)]),some t]=S
 have c1:(dB (d2 gNe (dV 2) (dLst (dAc (dV 0) (dAc (dV 1) dAn))))) S=some (false,S):=by
  rw [<-hS]
  simp_all? [zmU]
 rw [zgc (s1:=S) (r:=_) ((ifD_f c1 (zfe _)).trans rfl) rfl]
 have el':dCall zan (dAc (dV 0) dAn) S=some (.lst (l.map nT),S):=by rw [<-hS]; simp_all? [el]
 have em':dCall zan (dAc (dV 1) dAn) S=some (.lst (m.map nT),S):=by rw [<-hS]; simp_all? [em]
 by_cases hlm:l=m
 ·subst hlm
  have hlen:w.length=o.length:=by lia
  have c2:(dOr (dB (d2 gNe (d1 gLen (dV 0)) (d1 gLen (dV 1)))) (dB (d2 gNe (dCall zan (dAc (dV 0) dAn)) (dCall zan (dAc (dV 1) dAn))))) S=some (false,S):=by
   rw [<-hS]
   rw [<-hS] at el' em'
   simp_all? [el,em,hlen,decide_eq_true (show ((o.length:Nat):Int)=(o.length:Int) from rfl),decide_eq_true (show l=l from rfl)]
  rw [zgc (s1:=S) (r:=_) ((ifD_f c2 (zfe _)).trans rfl) rfl]
  obtain ⟨i,bk,hi,hb,hn,rfl⟩:∃ (i:Nat) (bk:Bool),i < max 1 o.length/\(o=[]->bk=false)/\za7 (rd o (i,bk))=za7 w/\t=ze7 w (rd o (i,bk)) i bk:=by
   rcases hA with ⟨_,h⟩ | ⟨_,h⟩
   ·exact absurd rfl h
   ·exact h
  have ew:=zgP hw ho hi hb hn
  have c3:(dNot (dTru (dCall zav (dAc (dV 3) (dAc (dV 0) (dAc (dV 1) dAn)))))) S=some (false,S):=by
   rw [<-hS]
   simp_all? [ew]
  rw [zgc (s1:=S) (r:=_) ((ifD_f c3 (zfe _)).trans rfl) rfl]
  have c4:dApkD [] 3 2 (dTup (dAc (dC (.str "z")) (dAc (dC (.str "z")) dAn))) S=some (.nx [some (.lst (w.map T.str)),some (.lst (o.map T.str)),some (.lst [.lst (w.map T.str),.lst (o.map T.str)]),some T.any]):=by
   rw [<-hS]
   refine (znE (t:=.tup [.str "z",.str "z"]) (by simp_all? []) (zfe _) rfl rfl ?_).trans rfl
   rw [List.length_zipWith,List.length_map,List.length_map]
   have:=zbS w
   lia
  rw [zgc (r:=_) c4 rfl]
  refine ⟨[some (.lst (w.map T.str)),some (.lst (o.map T.str)),some (.lst [.lst (w.map T.str),.lst (o.map T.str)]),some T.any],zjP ?_⟩
  simp_all? [i0,i1,ea,ew]
 ·have hnon:t=.non:=by
   rcases hA with ⟨h,_⟩ | ⟨h,_⟩
   ·exact h
   ·exact absurd h hlm
  subst hnon
  have c2:(dOr (dB (d2 gNe (d1 gLen (dV 0)) (d1 gLen (dV 1)))) (dB (d2 gNe (dCall zan (dAc (dV 0) dAn)) (dCall zan (dAc (dV 1) dAn))))) S=some (true,S):=by
   rw [<-hS]
   by_cases hlen:w.length=o.length
   ·simp_all? [el,em,decide_eq_true (show (w.length:Int)=(o.length:Int) by lia),decide_eq_false hlm]
   ·simp_all? [decide_eq_false (show ¬ (w.length:Int)=(o.length:Int) by lia)]
  refine ⟨S,zgb ((ifD_t c2 (zfe _)).trans (zjP ?_))⟩
  rw [<-hS]
  simp_all? []
  rfl
end Dw
namespace Dw
open PySem PyProof.Rows L2 L3
theorem zdq{f g:DS}{s:Sg}{P:Sg->Prop}{Q:Fl->Prop}(h:∃ s',f s=some (.nx s')/\P s')(k:∀ s',P s'->Run g s' Q):Run (dSeq f g) s Q:=by
 obtain ⟨s',e,p⟩:=h
 exact zak e (k s' p)
theorem vRevS(l:List Str):gRev (.lst (l.map T.str))=some (.lst (l.reverse.map T.str)):=by
 show some (T.lst (l.map T.str).reverse)=_
 rw [List.map_reverse]
theorem zia{l:List Str}{k:Nat}(h:k < l.length):gItem (.lst (l.map T.str)) (.int (k:Int))=some (.str l[k]):=by
 rw [zcX,List.getElem?_map,List.getElem?_eq_getElem h]; rfl
theorem zjh{names:List Str}(h:¬ (Sx [113,113,113]∈names/\Sx [119,119,119]∈names)):∃ x r,([Sx [113,113,113],Sx [119,119,119],Sx [122,122,122]].filter fun x=>!decide (x∈names))=x::r:=by
 by_cases h1:Sx [113,113,113]∈names
 ·have h2:Sx [119,119,119]∉names:=fun z=>h ⟨h1,z⟩
  refine ⟨Sx [119,119,119],[Sx [122,122,122]].filter fun x=>!decide (x∈names),?_⟩
  rw [List.filter_cons_of_neg (by simpa using h1),List.filter_cons_of_pos (by simpa using h2)]
 ·exact ⟨Sx [113,113,113],[Sx [119,119,119],Sx [122,122,122]].filter fun x=>!decide (x∈names),List.filter_cons_of_pos (by simpa using h1)⟩
theorem zn1(ns:List Int):znh [.scr ns]=some (.bl true):=by
 refine ze8 ?_
 show Run d_law [some (.scr ns),none,none,none,none,none,none,none,none,none,none] _
 unfold d_law
 have ec:=zg1 ns 0
 have ec1:=zg1 ns 1
 have ec2:=zg1 ns 2
 rw [show (((0:Nat)):Int)=0 from rfl] at ec
 rw [show (((1:Nat)):Int)=1 from rfl] at ec1
 rw [show (((2:Nat)):Int)=2 from rfl] at ec2
 generalize ns.getD 0 0=hd at ec
 generalize ns.getD 1 0=h1 at ec1
 generalize ns.getD 2 0=h2 at ec2
 obtain ⟨m,em,hm⟩:=ziz hd (M:=29) (by decide) (by decide)
 rw [show ((29:Nat):Int)=29 from rfl] at em
 obtain ⟨names,en,ln,nd,nn,nq⟩:=zf7 hd (m:=m) (by lia)
 obtain ⟨names2,en2,ln2,nd2,nn2,_⟩:=zf7 (hd+1) (m:=names.length) (by lia)
 obtain ⟨wd,ew,gw,lw,mw⟩:=zg6 h1 (names:=names) (by lia) nd nn
 have hwl:=gw.len
 obtain ⟨z20,e20,a20,b20⟩:=zaV hd 20 2 (by decide) (by decide) (by decide)
 refine zak (s':=[some (.scr ns),some (.int hd),none,none,none,none,none,none,none,none,none]) (by simp_all? [ec]) ?_
 refine zak (s':=[some (.scr ns),some (.int hd),some (.lst (names.map T.str)),none,none,none,none,none,none,none,none]) (by simp_all? [em,en]) ?_
 refine zak (s':=[some (.scr ns),some (.int hd),some (.lst (names.map T.str)),some (.lst (wd.map T.str)),none,none,none,none,none,none,none]) (by simp_all? [ec1,ew]) ?_
 refine zdq (P:=fun s=>∃ far:List Str,far.length=names.length/\far.Nodup/\(∀ x∈far,zca x)/\s=[some (.scr ns),some (.int hd),some (.lst (names.map T.str)),some (.lst (wd.map T.str)),some (.lst (far.map T.str)),none,none,none,none,none,none]) ?_ ?_
 ·have i0:gItem (.lst [.lst (names.reverse.map T.str),.lst (names2.map T.str)]) (.int 0)=some (.lst (names.reverse.map T.str)):=by rw [show (0:Int)=((0:Nat):Int) from rfl,zcX]; rfl
  have i1:gItem (.lst [.lst (names.reverse.map T.str),.lst (names2.map T.str)]) (.int 1)=some (.lst (names2.map T.str)):=by rw [show (1:Int)=((1:Nat):Int) from rfl,zcX]; rfl
  rcases (show z20=0∨z20=1 by lia) with rfl | rfl
  ·exact ⟨[some (.scr ns),some (.int hd),some (.lst (names.map T.str)),some (.lst (wd.map T.str)),some (.lst (names.reverse.map T.str)),none,none,none,none,none,none],by simp_all? [vRevS,en2,e20,i0,eq_self],names.reverse,List.length_reverse,(List.reverse_perm names).nodup_iff.mpr nd,fun x hx=>nn x (List.mem_reverse.mp hx),rfl⟩
  ·exact ⟨[some (.scr ns),some (.int hd),some (.lst (names.map T.str)),some (.lst (wd.map T.str)),some (.lst (names2.map T.str)),none,none,none,none,none,none],by simp_all? [vRevS,en2,e20,i1,eq_self],names2,ln2,nd2,nn2,rfl⟩
 rintro s ⟨far,lf,ndf,nnf,rfl⟩
 obtain ⟨w2,ew2,gw2,lw2,_⟩:=zg6 h2 (names:=far) (by lia) ndf nnf
 have hwl2:=gw2.len
 refine zak (s':=[some (.scr ns),some (.int hd),some (.lst (names.map T.str)),some (.lst (wd.map T.str)),some (.lst (far.map T.str)),some (.lst (([]:List Str).map T.str)),none,none,none,none,none]) (by simp_all? []<;>rfl) ?_
 have hne:gNe (.lst (wd.map T.str)) (.lst [])=some (.bl (!decide (wd=[]))):=vNeSs wd []
 refine zdq (P:=fun s=>∃ (oth:List Str) (x6:Option T),oth.length=wd.length/\s=[some (.scr ns),some (.int hd),some (.lst (names.map T.str)),some (.lst (wd.map T.str)),some (.lst (far.map T.str)),some (.lst (oth.map T.str)),x6,none,none,none,none]) ?_ ?_
 ·by_cases h0:wd=[]
  ·exact ⟨[some (.scr ns),some (.int hd),some (.lst (names.map T.str)),some (.lst (wd.map T.str)),some (.lst (far.map T.str)),some (.lst (([]:List Str).map T.str)),none,none,none,none,none],by simp_all? [hne,decide_eq_true h0],[],none,by rw [h0],rfl⟩
  ·have hp:=List.length_pos_iff.mpr h0
   obtain ⟨z21,e21,_,_⟩:=zaV hd 21 (wd.length:Int) (by decide) (by decide) (by lia)
   obtain ⟨z22,e22,_,_⟩:=zaV hd 22 2 (by decide) (by decide) (by decide)
   have er:=zcf (wd:=wd) (by lia) z21 (decide (z22=1))
   have rl:=zbz wd z21 (decide (z22=1))
   have e5:=zbA (M:=[5]) (caps:=[none,some 4,some 2]) (fi:=dItA (dV 6)) (dg:=dGn 0) (fe:=d2 gItem (dV 1) (d2L zc7 (dV 2) (dV 0))) (s:=[some (.scr ns),some (.int hd),some (.lst (names.map T.str)),some (.lst (wd.map T.str)),some (.lst (far.map T.str)),some (.lst (([]:List Str).map T.str)),some (.lst ((rdL wd z21 (decide (z22=1))).map T.str)),none,none,none,none]) (rdL wd z21 (decide (z22=1))) T.str (fun x=>T.str (far.getD (names.idxOf x) Str.empty)) (by simp_all? []) (by lia) (by
    intro x hx
    have hxn:x∈names:=mw x (zfD hx)
    have hlt:names.idxOf x < far.length:=by rw [lf]; exact List.idxOf_lt_length_of_mem hxn
    refine ⟨[some (.str x),some (.lst (far.map T.str)),some (.lst (names.map T.str))],rfl,?_,rfl⟩
    have i2:=zia hlt
    have g2:=zaz hlt
    simp_all? [zfx hxn,i2,g2])
   rw [show (rdL wd z21 (decide (z22=1))).map (fun x=>T.str (far.getD (names.idxOf x) Str.empty))=((rdL wd z21 (decide (z22=1))).map fun x=>far.getD (names.idxOf x) Str.empty).map T.str by rw [List.map_map]; rfl] at e5
   exact ⟨[some (.scr ns),some (.int hd),some (.lst (names.map T.str)),some (.lst (wd.map T.str)),some (.lst (far.map T.str)),some (.lst (((rdL wd z21 (decide (z22=1))).map fun x=>far.getD (names.idxOf x) Str.empty).map T.str)),some (.lst ((rdL wd z21 (decide (z22=1))).map T.str)),none,none,none,none],by simp_all? [hne,decide_eq_false h0,e21,e22,er,e5],_,_,by rw [List.length_map,rl],rfl⟩
 rintro s ⟨oth,x6,lo,rfl⟩
 have r1:=zcn (w:=wd) (o:=oth) (by lia) (by lia)
 have r2:=zcn (w:=oth) (o:=wd) (by lia) (by lia)
 refine zak (s':=[some (.scr ns),some (.int hd),some (.lst (names.map T.str)),some (.lst (wd.map T.str)),some (.lst (far.map T.str)),some (.lst (oth.map T.str)),x6,none,none,none,none]) (by simp_all? [r1,r2,flatT]) ?_
 refine zdq (P:=fun s=>∃ (oth:List Str) (x7 x8 x9:Option T),oth.length=wd.length/\s=[some (.scr ns),some (.int hd),some (.lst (names.map T.str)),some (.lst (wd.map T.str)),some (.lst (far.map T.str)),some (.lst (oth.map T.str)),x6,x7,x8,x9,none]) ?_ ?_
 ·by_cases h0:wd=[]
  ·exact ⟨[some (.scr ns),some (.int hd),some (.lst (names.map T.str)),some (.lst (wd.map T.str)),some (.lst (far.map T.str)),some (.lst (oth.map T.str)),x6,none,none,none,none],by simp_all? [hne,decide_eq_true h0],oth,_,_,_,lo,rfl⟩
  ·have hp:=List.length_pos_iff.mpr h0
   obtain ⟨z23,e23,a23,b23⟩:=zaV hd 23 (wd.length:Int) (by decide) (by decide) (by lia)
   obtain ⟨z24,e24,a24,b24⟩:=zaV hd 24 (wd.length:Int) (by decide) (by decide) (by lia)
   obtain ⟨n3,rfl⟩:∃ n:Nat,z23=(n:Int):=⟨z23.toNat,by lia⟩
   obtain ⟨n4,rfl⟩:∃ n:Nat,z24=(n:Int):=⟨z24.toNat,by lia⟩
   have l3:n3 < oth.length:=by lia
   have l4:n4 < oth.length:=by lia
   have j3:=zia l3
   have j4:=zia l4
   have x3:=zgt (n:=oth.length) l3
   have x4:=zgt (n:=oth.length) l4
   refine ⟨[some (.scr ns),some (.int hd),some (.lst (names.map T.str)),some (.lst (wd.map T.str)),some (.lst (far.map T.str)),some (.lst (((oth.map T.str).set n3 (T.str oth[n4])).set n4 (T.str oth[n3]))),x6,some (.int (n3:Int)),some (.int (n4:Int)),some (.str oth[n3]),none],by simp_all? [hne,decide_eq_false h0,e23,e24,j3,j4,x3,x4,List.length_set],(oth.set n3 oth[n4]).set n4 oth[n3],_,_,_,by rw [List.length_set,List.length_set]; exact lo,by rw [List.map_set,List.map_set]⟩
 rintro s ⟨oth,x7,x8,x9,lo,rfl⟩
 have r1:=zcn (w:=wd) (o:=oth) (by lia) (by lia)
 have r2:=zcn (w:=wd) (o:=w2) (by lia) (by lia)
 refine zak (s':=[some (.scr ns),some (.int hd),some (.lst (names.map T.str)),some (.lst (wd.map T.str)),some (.lst (far.map T.str)),some (.lst (oth.map T.str)),x6,x7,x8,x9,none]) (by simp_all? [r1,ec2,ew2,r2,flatT]) ?_
 have e10:=zk6 (M:=[5]) (caps:=[none,some 2]) (fi:=dItA (dLst (dAc (dC (.str "qqq")) (dAc (dC (.str "www")) (dAc (dC (.str "zzz")) dAn))))) (dg:=dGn 0) (ft:=dB (d2 zbd (dV 0) (dV 1))) (fe:=dV 0) (s:=[some (.scr ns),some (.int hd),some (.lst (names.map T.str)),some (.lst (wd.map T.str)),some (.lst (far.map T.str)),some (.lst (oth.map T.str)),x6,x7,x8,x9,none]) [Sx [113,113,113],Sx [119,119,119],Sx [122,122,122]] T.str (fun x=>!decide (x∈names)) T.str (by simp_all? []<;>rfl) (by decide) (by
  intro x hx
  exact ⟨[some (.str x),some (.lst (names.map T.str))],rfl,by simp_all? [],fun _=>by simp_all? [],rfl⟩)
 obtain ⟨x,r,exr⟩:=zjh nq
 rw [exr] at e10
 have ix:gItem (.lst ((x::r).map T.str)) (.int 0)=some (.str x):=by rw [show (0:Int)=((0:Nat):Int) from rfl,zcX]; rfl
 refine zak (s':=[some (.scr ns),some (.int hd),some (.lst (names.map T.str)),some (.lst (wd.map T.str)),some (.lst (far.map T.str)),some (.lst (oth.map T.str)),x6,x7,x8,x9,some (.str x)]) (by simp_all? [e10,ix]) ?_
 have rr:=zcn (w:=wd) (o:=wd++[x,x]) (by lia) (by rw [List.length_append]; show wd.length+2<=400; lia)
 rw [List.map_append,List.map_cons,List.map_cons,List.map_nil] at rr
 exact zdr (t:=.bl true) (s':=[some (.scr ns),some (.int hd),some (.lst (names.map T.str)),some (.lst (wd.map T.str)),some (.lst (far.map T.str)),some (.lst (oth.map T.str)),x6,x7,x8,x9,some (.str x)]) (by simp_all? [rr]) rfl
end Dw
namespace Dw
open PySem PySem.Spec PyProof.Rows L2 L3
theorem len1{us:List Value}(h:us.length=1):∃ a0,us=[a0]:=List.length_eq_one_iff.mp h
theorem len2{us:List Value}(h:us.length=2):∃ a0 a1,us=[a0,a1]:=by
 cases us with
 | nil=>cases h
 | cons a us=>obtain ⟨b0,rfl⟩:=len1 (Nat.succ.inj h); exact ⟨a,b0,rfl⟩
theorem len3{us:List Value}(h:us.length=3):∃ a0 a1 a2,us=[a0,a1,a2]:=by
 cases us with
 | nil=>cases h
 | cons a us=>obtain ⟨b0,b1,rfl⟩:=len2 (Nat.succ.inj h); exact ⟨a,b0,b1,rfl⟩
theorem znF{l:PySem.W.OpenLaw}{w:World}{K:PySem.W.Frag}{h:Heap}{mg:Str->Option Value}{fa:Addr}(X:K.In h)(G:h.Ns mainGlobals mg)(hfa:mg "law"=some (.ref fa))
  {f1:Addr} {od1 an1:Option Addr} {sl1:Array (Option Value)} {oc1 kV1 dc1 pm1 cd1 ct1:Value}
  {f2:Addr} {od2 an2:Option Addr} {sl2:Array (Option Value)} {oc2 kV2 dc2 pm2 cd2 ct2:Value}
  {f3:Addr} {od3 an3:Option Addr} {sl3:Array (Option Value)} {oc3 kV3 dc3 pm3 cd3 ct3:Value}
  {f4:Addr} {od4 an4:Option Addr} {sl4:Array (Option Value)} {oc4 kV4 dc4 pm4 cd4 ct4:Value}
  {f5:Addr} {od5 an5:Option Addr} {sl5:Array (Option Value)} {oc5 kV5 dc5 pm5 cd5 ct5:Value}
  {f6:Addr} {od6 an6:Option Addr} {sl6:Array (Option Value)} {oc6 kV6 dc6 pm6 cd6 ct6:Value}
  {f7:Addr} {od7 an7:Option Addr} {sl7:Array (Option Value)} {oc7 kV7 dc7 pm7 cd7 ct7:Value}
  {f8:Addr} {od8 an8:Option Addr} {sl8:Array (Option Value)} {oc8 kV8 dc8 pm8 cd8 ct8:Value}
  {f9:Addr} {od9 an9:Option Addr} {sl9:Array (Option Value)} {oc9 kV9 dc9 pm9 cd9 ct9:Value}
  {f10:Addr} {od10 an10:Option Addr} {sl10:Array (Option Value)} {oc10 kV10 dc10 pm10 cd10 ct10:Value}
  {f11:Addr} {od11 an11:Option Addr} {sl11:Array (Option Value)} {oc11 kV11 dc11 pm11 cd11 ct11:Value}
  {f12:Addr} {od12 an12:Option Addr} {sl12:Array (Option Value)} {oc12 kV12 dc12 pm12 cd12 ct12:Value}
  {f13:Addr} {od13 an13:Option Addr} {sl13:Array (Option Value)} {oc13 kV13 dc13 pm13 cd13 ct13:Value}
  {f14:Addr} {od14 an14:Option Addr} {sl14:Array (Option Value)} {oc14 kV14 dc14 pm14 cd14 ct14:Value}
  {f15:Addr} {od15 an15:Option Addr} {sl15:Array (Option Value)} {oc15 kV15 dc15 pm15 cd15 ct15:Value}
  {f16:Addr} {od16 an16:Option Addr} {sl16:Array (Option Value)} {oc16 kV16 dc16 pm16 cd16 ct16:Value}
  {f17:Addr} {od17 an17:Option Addr} {sl17:Array (Option Value)} {oc17 kV17 dc17 pm17 cd17 ct17:Value}
  {f18:Addr} {od18 an18:Option Addr} {sl18:Array (Option Value)} {oc18 kV18 dc18 pm18 cd18 ct18:Value}
  (a1:PySem.W.nsIn K mainGlobals "_law_cell"=some (some (.ref f1))) (l1:K.lookup f1=some ⟨oc1,od1,.func (PySem.W.fnOf "_law_cell" "_law_cell" (zap zbx) (zaj zbx) (za1 zbx) .none kV1 dc1 pm1 an1 cd1 ct1),sl1⟩) (c1:PySem.W.codeIn K cd1 "_law_cell"=true) (k1:PySem.W.keepIn K (.ref f1)=true)
  (a2:PySem.W.nsIn K mainGlobals "_law_pick"=some (some (.ref f2))) (l2:K.lookup f2=some ⟨oc2,od2,.func (PySem.W.fnOf "_law_pick" "_law_pick" (zap zbv) (zaj zbv) (za1 zbv) .none kV2 dc2 pm2 an2 cd2 ct2),sl2⟩) (c2:PySem.W.codeIn K cd2 "_law_pick"=true) (k2:PySem.W.keepIn K (.ref f2)=true)
  (a3:PySem.W.nsIn K mainGlobals "_law_names"=some (some (.ref f3))) (l3:K.lookup f3=some ⟨oc3,od3,.func (PySem.W.fnOf "_law_names" "_law_names" (zap zb5) (zaj zb5) (za1 zb5) .none kV3 dc3 pm3 an3 cd3 ct3),sl3⟩) (c3:PySem.W.codeIn K cd3 "_law_names"=true) (k3:PySem.W.keepIn K (.ref f3)=true)
  (a4:PySem.W.nsIn K mainGlobals "_law_bag"=some (some (.ref f4))) (l4:K.lookup f4=some ⟨oc4,od4,.func (PySem.W.fnOf "_law_bag" "_law_bag" (zap zcb) (zaj zcb) (za1 zcb) .none kV4 dc4 pm4 an4 cd4 ct4),sl4⟩) (c4:PySem.W.codeIn K cd4 "_law_bag"=true) (k4:PySem.W.keepIn K (.ref f4)=true)
  (a5:PySem.W.nsIn K mainGlobals "_law_draw"=some (some (.ref f5))) (l5:K.lookup f5=some ⟨oc5,od5,.func (PySem.W.fnOf "_law_draw" "_law_draw" (zap zbw) (zaj zbw) (za1 zbw) .none kV5 dc5 pm5 an5 cd5 ct5),sl5⟩) (c5:PySem.W.codeIn K cd5 "_law_draw"=true) (k5:PySem.W.keepIn K (.ref f5)=true)
  (a6:PySem.W.nsIn K mainGlobals "_law_word"=some (some (.ref f6))) (l6:K.lookup f6=some ⟨oc6,od6,.func (PySem.W.fnOf "_law_word" "_law_word" (zap zbu) (zaj zbu) (za1 zbu) .none kV6 dc6 pm6 an6 cd6 ct6),sl6⟩) (c6:PySem.W.codeIn K cd6 "_law_word"=true) (k6:PySem.W.keepIn K (.ref f6)=true)
  (a7:PySem.W.nsIn K mainGlobals "names_of"=some (some (.ref f7))) (l7:K.lookup f7=some ⟨oc7,od7,.func (PySem.W.fnOf "names_of" "names_of" (zap zaF) (zaj zaF) (za1 zaF) .none kV7 dc7 pm7 an7 cd7 ct7),sl7⟩) (c7:PySem.W.codeIn K cd7 "names_of"=true) (k7:PySem.W.keepIn K (.ref f7)=true)
  (a8:PySem.W.nsIn K mainGlobals "numbers"=some (some (.ref f8))) (l8:K.lookup f8=some ⟨oc8,od8,.func (PySem.W.fnOf "numbers" "numbers" (zap zaL) (zaj zaL) (za1 zaL) .none kV8 dc8 pm8 an8 cd8 ct8),sl8⟩) (c8:PySem.W.codeIn K cd8 "numbers"=true) (k8:PySem.W.keepIn K (.ref f8)=true)
  (a9:PySem.W.nsIn K mainGlobals "ways"=some (some (.ref f9))) (l9:K.lookup f9=some ⟨oc9,od9,.func (PySem.W.fnOf "ways" "ways" (zap zbt) (zaj zbt) (za1 zbt) .none kV9 dc9 pm9 an9 cd9 ct9),sl9⟩) (c9:PySem.W.codeIn K cd9 "ways"=true) (k9:PySem.W.keepIn K (.ref f9)=true)
  (a10:PySem.W.nsIn K mainGlobals "read_from"=some (some (.ref f10))) (l10:K.lookup f10=some ⟨oc10,od10,.func (PySem.W.fnOf "read_from" "read_from" (zap zaA) (zaj zaA) (za1 zaA) .none kV10 dc10 pm10 an10 cd10 ct10),sl10⟩) (c10:PySem.W.codeIn K cd10 "read_from"=true) (k10:PySem.W.keepIn K (.ref f10)=true)
  (a11:PySem.W.nsIn K mainGlobals "alike"=some (some (.ref f11))) (l11:K.lookup f11=some ⟨oc11,od11,.func (PySem.W.fnOf "alike" "alike" (zap zb3) (zaj zb3) (za1 zb3) .none kV11 dc11 pm11 an11 cd11 ct11),sl11⟩) (c11:PySem.W.codeIn K cd11 "alike"=true) (k11:PySem.W.keepIn K (.ref f11)=true)
  (a12:PySem.W.nsIn K mainGlobals "_law_reading"=some (some (.ref f12))) (l12:K.lookup f12=some ⟨oc12,od12,.func (PySem.W.fnOf "_law_reading" "_law_reading" (zap zaM) (zaj zaM) (za1 zaM) .none kV12 dc12 pm12 an12 cd12 ct12),sl12⟩) (c12:PySem.W.codeIn K cd12 "_law_reading"=true) (k12:PySem.W.keepIn K (.ref f12)=true)
  (a13:PySem.W.nsIn K mainGlobals "_law_witness"=some (some (.ref f13))) (l13:K.lookup f13=some ⟨oc13,od13,.func (PySem.W.fnOf "_law_witness" "_law_witness" (zap zaG) (zaj zaG) (za1 zaG) .none kV13 dc13 pm13 an13 cd13 ct13),sl13⟩) (c13:PySem.W.codeIn K cd13 "_law_witness"=true) (k13:PySem.W.keepIn K (.ref f13)=true)
  (a14:PySem.W.nsIn K mainGlobals "_law_counted"=some (some (.ref f14))) (l14:K.lookup f14=some ⟨oc14,od14,.func (PySem.W.fnOf "_law_counted" "_law_counted" (zap zaN) (zaj zaN) (za1 zaN) .none kV14 dc14 pm14 an14 cd14 ct14),sl14⟩) (c14:PySem.W.codeIn K cd14 "_law_counted"=true) (k14:PySem.W.keepIn K (.ref f14)=true)
  (a15:PySem.W.nsIn K mainGlobals "_law_least"=some (some (.ref f15))) (l15:K.lookup f15=some ⟨oc15,od15,.func (PySem.W.fnOf "_law_least" "_law_least" (zap zb6) (zaj zb6) (za1 zb6) .none kV15 dc15 pm15 an15 cd15 ct15),sl15⟩) (c15:PySem.W.codeIn K cd15 "_law_least"=true) (k15:PySem.W.keepIn K (.ref f15)=true)
  (a16:PySem.W.nsIn K mainGlobals "_law_right"=some (some (.ref f16))) (l16:K.lookup f16=some ⟨oc16,od16,.func (PySem.W.fnOf "_law_right" "_law_right" (zap zb4) (zaj zb4) (za1 zb4) .none kV16 dc16 pm16 an16 cd16 ct16),sl16⟩) (c16:PySem.W.codeIn K cd16 "_law_right"=true) (k16:PySem.W.keepIn K (.ref f16)=true)
  (a17:PySem.W.nsIn K mainGlobals "_law_count"=some (some (.ref f17))) (l17:K.lookup f17=some ⟨oc17,od17,.func (PySem.W.fnOf "_law_count" "_law_count" (zap zb7) (zaj zb7) (za1 zb7) .none kV17 dc17 pm17 an17 cd17 ct17),sl17⟩) (c17:PySem.W.codeIn K cd17 "_law_count"=true) (k17:PySem.W.keepIn K (.ref f17)=true)
  (a18:PySem.W.nsIn K mainGlobals "law"=some (some (.ref f18))) (l18:K.lookup f18=some ⟨oc18,od18,.func (PySem.W.fnOf "law" "law" (zap s_law) (zaj s_law) (za1 s_law) .none kV18 dc18 pm18 an18 cd18 ct18),sl18⟩) (c18:PySem.W.codeIn K cd18 "law"=true) (k18:PySem.W.keepIn K (.ref f18)=true)
  (z1:PySem.W.nsIn K mainGlobals "len"=some none)
  (z2:PySem.W.nsIn K mainGlobals "range"=some none)
  (z3:PySem.W.nsIn K mainGlobals "list"=some none)
  (z4:PySem.W.nsIn K mainGlobals "enumerate"=some none)
  (z5:PySem.W.nsIn K mainGlobals "max"=some none)
  (z6:PySem.W.nsIn K mainGlobals "zip"=some none)
  (z7:PySem.W.nsIn K mainGlobals "isinstance"=some none)
  (z8:PySem.W.nsIn K mainGlobals "bool"=some none)
  (z9:PySem.W.nsIn K mainGlobals "tuple"=some none)
  (z10:PySem.W.nsIn K mainGlobals "int"=some none)
  (z11:PySem.W.nsIn K mainGlobals "all"=some none)
  (z12:PySem.W.nsIn K mainGlobals "set"=some none)
  (z13:PySem.W.nsIn K mainGlobals "min"=some none)
  : ∃ fd:FuncData,(∀ (s:Shared) (v:Value),BindsTo s fd ⟨[v],[]⟩ [("_law_script",v)])/\∀ base:Heap,K.In base->base.Ns mainGlobals mg->FnOk l.prog w K mg base CX0 5 fa fd ["_law_script"] (L3.spLaw K):=by
 have e:=hfa.symm.trans (PySem.W.mg_of X G a18)
 cases e
 have h_l_cell:Here K mg "_law_cell" zbx ["_law_script","_law_k"]:=L3.zaI X G (fun _ _ _ _ _ _ us hl=>by obtain ⟨_,_,rfl⟩:=len2 hl; rfl) a1 l1 c1 k1
 have h_l_pick:Here K mg "_law_pick" zbv ["_law_cell_here","_law_turn","_law_many"]:=L3.zaI X G (fun _ _ _ _ _ _ us hl=>by obtain ⟨_,_,_,rfl⟩:=len3 hl; rfl) a2 l2 c2 k2
 have h_l_names:Here K mg "_law_names" zb5 ["_law_cell_here","_law_many"]:=L3.zaI X G (fun _ _ _ _ _ _ us hl=>by obtain ⟨_,_,rfl⟩:=len2 hl; rfl) a3 l3 c3 k3
 have h_l_bag:Here K mg "_law_bag" zcb ["_law_cell_here"]:=L3.zaI X G (fun _ _ _ _ _ _ us hl=>by obtain ⟨_,rfl⟩:=len1 hl; rfl) a4 l4 c4 k4
 have h_l_draw:Here K mg "_law_draw" zbw ["_law_bag_here","_law_many"]:=L3.zaI X G (fun _ _ _ _ _ _ us hl=>by obtain ⟨_,_,rfl⟩:=len2 hl; rfl) a5 l5 c5 k5
 have h_l_word:Here K mg "_law_word" zbu ["_law_cell_here","_law_names_here"]:=L3.zaI X G (fun _ _ _ _ _ _ us hl=>by obtain ⟨_,_,rfl⟩:=len2 hl; rfl) a6 l6 c6 k6
 have h_p_names_of:Here K mg "names_of" zaF ["word"]:=L3.zaI X G (fun _ _ _ _ _ _ us hl=>by obtain ⟨_,rfl⟩:=len1 hl; rfl) a7 l7 c7 k7
 have h_p_numbers:Here K mg "numbers" zaL ["word"]:=L3.zaI X G (fun _ _ _ _ _ _ us hl=>by obtain ⟨_,rfl⟩:=len1 hl; rfl) a8 l8 c8 k8
 have h_p_ways:Here K mg "ways" zbt ["word"]:=L3.zaI X G (fun _ _ _ _ _ _ us hl=>by obtain ⟨_,rfl⟩:=len1 hl; rfl) a9 l9 c9 k9
 have h_p_read_from:Here K mg "read_from" zaA ["word","start","back"]:=L3.zaI X G (fun _ _ _ _ _ _ us hl=>by obtain ⟨_,_,_,rfl⟩:=len3 hl; rfl) a10 l10 c10 k10
 have h_p_alike:Here K mg "alike" zb3 ["word","other"]:=L3.zaI X G (fun _ _ _ _ _ _ us hl=>by obtain ⟨_,_,rfl⟩:=len2 hl; rfl) a11 l11 c11 k11
 have h_l_reading:Here K mg "_law_reading" zaM ["_law_word_here","_law_start","_law_back"]:=L3.zaI X G (fun _ _ _ _ _ _ us hl=>by obtain ⟨_,_,_,rfl⟩:=len3 hl; rfl) a12 l12 c12 k12
 have h_l_witness:Here K mg "_law_witness" zaG ["_law_found","_law_word_here","_law_other"]:=L3.zaI X G (fun _ _ _ _ _ _ us hl=>by obtain ⟨_,_,_,rfl⟩:=len3 hl; rfl) a13 l13 c13 k13
 have h_l_counted:Here K mg "_law_counted" zaN ["_law_some"]:=L3.zaI X G (fun _ _ _ _ _ _ us hl=>by obtain ⟨_,rfl⟩:=len1 hl; rfl) a14 l14 c14 k14
 have h_l_least:Here K mg "_law_least" zb6 ["_law_word_here"]:=L3.zaI X G (fun _ _ _ _ _ _ us hl=>by obtain ⟨_,rfl⟩:=len1 hl; rfl) a15 l15 c15 k15
 have h_l_right:Here K mg "_law_right" zb4 ["_law_word_here","_law_other"]:=L3.zaI X G (fun _ _ _ _ _ _ us hl=>by obtain ⟨_,_,rfl⟩:=len2 hl; rfl) a16 l16 c16 k16
 have h_l_count:Here K mg "_law_count" zb7 ["_law_cell_here","_law_most"]:=L3.zaI X G (fun _ _ _ _ _ _ us hl=>by obtain ⟨_,_,rfl⟩:=len2 hl; rfl) a17 l17 c17 k17
 have m_len:=PySem.W.mg_none_of X G z1
 have m_range:=PySem.W.mg_none_of X G z2
 have m_list:=PySem.W.mg_none_of X G z3
 have m_enumerate:=PySem.W.mg_none_of X G z4
 have m_max:=PySem.W.mg_none_of X G z5
 have m_zip:=PySem.W.mg_none_of X G z6
 have m_isinstance:=PySem.W.mg_none_of X G z7
 have m_bool:=PySem.W.mg_none_of X G z8
 have m_tuple:=PySem.W.mg_none_of X G z9
 have m_int:=PySem.W.mg_none_of X G z10
 have m_all:=PySem.W.mg_none_of X G z11
 have m_set:=PySem.W.mg_none_of X G z12
 have m_min:=PySem.W.mg_none_of X G z13
 have h_law:=zkc (st:=s_law) l18 c18 k18
 refine ⟨PySem.W.fnOf "law" "law" (zap s_law) (zaj s_law) (za1 s_law) .none kV18 dc18 pm18 an18 cd18 ct18,fun s v=>.of_eq rfl,fun base _ _=>?_⟩
 have c_l_cell:=zhS (tk:=⟨K⟩) (P:=l.prog) (w:=w) (base:=base) h_l_cell m_len
 have c_l_pick:=zhQ (tk:=⟨K⟩) (P:=l.prog) (w:=w) (base:=base) h_l_pick
 have c_l_names:=zgX (tk:=⟨K⟩) (P:=l.prog) (w:=w) (base:=base) h_l_names (c_l_pick.mono (by decide)) m_range m_len
 have c_l_bag:=zjd (tk:=⟨K⟩) (P:=l.prog) (w:=w) (base:=base) h_l_bag
 have c_l_draw:=zhR (tk:=⟨K⟩) (P:=l.prog) (w:=w) (base:=base) h_l_draw
 have c_l_word:=zhP (tk:=⟨K⟩) (P:=l.prog) (w:=w) (base:=base) h_l_word (c_l_bag.mono (by decide)) (c_l_draw.mono (by decide)) m_list m_range m_len
 have c_p_names_of:=zer (tk:=⟨K⟩) (P:=l.prog) (w:=w) (base:=base) h_p_names_of m_list
 have c_p_numbers:=zf1 (tk:=⟨K⟩) (P:=l.prog) (w:=w) (base:=base) h_p_numbers (c_p_names_of.mono (by decide)) m_enumerate
 have c_p_ways:=zhO (tk:=⟨K⟩) (P:=l.prog) (w:=w) (base:=base) h_p_ways m_max m_len m_range
 have c_p_read_from:=zdN (tk:=⟨K⟩) (P:=l.prog) (w:=w) (base:=base) h_p_read_from
 have c_p_alike:=zgV (tk:=⟨K⟩) (P:=l.prog) (w:=w) (base:=base) h_p_alike (c_p_numbers.mono (by decide)) (c_p_ways.mono (by decide)) (c_p_read_from.mono (by decide)) (c_p_names_of.mono (by decide)) m_list m_zip
 have c_l_reading:=zf3 (tk:=⟨K⟩) (P:=l.prog) (w:=w) (base:=base) h_l_reading m_len m_range
 have c_l_witness:=zf2 (tk:=⟨K⟩) (P:=l.prog) (w:=w) (base:=base) h_l_witness (c_l_reading.mono (by decide)) m_isinstance m_bool m_len m_tuple m_max m_int m_all m_list m_zip m_range m_set
 have c_l_counted:=zf4 (tk:=⟨K⟩) (P:=l.prog) (w:=w) (base:=base) h_l_counted
 have c_l_least:=zgY (tk:=⟨K⟩) (P:=l.prog) (w:=w) (base:=base) h_l_least (c_l_counted.mono (by decide)) (c_l_reading.mono (by decide)) m_range m_len
 have c_l_right:=zgW (tk:=⟨K⟩) (P:=l.prog) (w:=w) (base:=base) h_l_right (c_p_alike.mono (by decide)) (c_l_witness.mono (by decide)) (c_l_least.mono (by decide)) m_list m_len
 have c_l_count:=zgZ (tk:=⟨K⟩) (P:=l.prog) (w:=w) (base:=base) h_l_count (c_l_pick.mono (by decide)) m_min
 exact L3.law_q (tk:=⟨K⟩) h_law zjO (b_law (tk:=⟨K⟩) (c_l_cell.mono (by decide)) (c_l_names.mono (by decide)) (c_l_count.mono (by decide)) (c_l_word.mono (by decide)) (c_l_pick.mono (by decide)) (c_l_reading.mono (by decide)) (c_l_right.mono (by decide)) m_len) (by decide) (fun ns _=>zn1 ns)
theorem walk{l:PySem.W.OpenLaw}{q:Program}{loose:List Str}{XP:(Str->Option Value)->Heap->Prop}{YP:World->Heap->Prop}{d:DefRec}{K:Params->PySem.W.Frag}{x:Str}{k:Nat}(hn:l.most=some 63)(hdf:d.params.defaults=[])(hk:k < 60)
  (hY:∀ (w:World) (h:Heap),YP w h->(K w.params).In h)
  (F:∀ (w:World) (mg:Str->Option Value) (fa:Addr) (h:Heap),(K w.params).In h->h.Ns mainGlobals mg->mg d.name=some (.ref fa)->
   ∃ fd:FuncData,(∀ (s:Shared) (u:Value),BindsTo s fd ⟨[u],[]⟩ [(x,u)])/\∀ base:Heap,(K w.params).In base->base.Ns mainGlobals mg->FnOk l.prog w (K w.params) mg base CX0 k fa fd [x] (L3.spLaw (K w.params))) :
  PySem.W.WalkO q loose XP YP l.row.toRowW d [] (fun f vs=>PySem.call f vs):=
 L2.zhe (n:=63) (k:=k) (x:=x) (CX:=fun _=>CX0) (sp:=fun w=>L3.spLaw (K w.params)) hn (by decide) hdf (Room.mono (k:=60) ⟨rfl,by decide,by decide⟩ (by lia)) hY F (fun _ _ a ns hl hO hS=>⟨a,ns,rfl,hO,hS,hl,fun _=>rfl⟩) fun _ _ _ _ _ z=>z
end Dw
open PySem PySem.W PyProof.Rows
set_option maxRecDepth 100000 in
set_option maxHeartbeats 0 in
theorem PySem.Challenge.cw_drawnword_k09_words_alike_holds : PySem.Challenge.rw_drawnword_k09_words_alike.Holds := by
 w_on; o_law; k_head; (case hw=>w_witness2)
 k_fill
 refine Dw.walk (l:=PySem.Challenge.rw_drawnword_k09_words_alike) (x:="_law_script") (k:=5) rfl rfl (by decide) (fun w h Y=>PySem.W.kIn_of Y) ?F
 case F=>
  intro w mg fa h KX G hmg
  refine' Dw.znF KX G hmg ?a1 ?l1 ?c1 ?k1 ?a2 ?l2 ?c2 ?k2 ?a3 ?l3 ?c3 ?k3 ?a4 ?l4 ?c4 ?k4 ?a5 ?l5 ?c5 ?k5 ?a6 ?l6 ?c6 ?k6 ?a7 ?l7 ?c7 ?k7 ?a8 ?l8 ?c8 ?k8 ?a9 ?l9 ?c9 ?k9 ?a10 ?l10 ?c10 ?k10 ?a11 ?l11 ?c11 ?k11 ?a12 ?l12 ?c12 ?k12 ?a13 ?l13 ?c13 ?k13 ?a14 ?l14 ?c14 ?k14 ?a15 ?l15 ?c15 ?k15 ?a16 ?l16 ?c16 ?k16 ?a17 ?l17 ?c17 ?k17 ?a18 ?l18 ?c18 ?k18 ?z1 ?z2 ?z3 ?z4 ?z5 ?z6 ?z7 ?z8 ?z9 ?z10 ?z11 ?z12 ?z13
  (case a1=>k_is)
  (case l1=>k_is)
  (case c1=>k_is)
  (case k1=>k_is)
  (case a2=>k_is)
  (case l2=>k_is)
  (case c2=>k_is)
  (case k2=>k_is)
  (case a3=>k_is)
  (case l3=>k_is)
  (case c3=>k_is)
  (case k3=>k_is)
  (case a4=>k_is)
  (case l4=>k_is)
  (case c4=>k_is)
  (case k4=>k_is)
  (case a5=>k_is)
  (case l5=>k_is)
  (case c5=>k_is)
  (case k5=>k_is)
  (case a6=>k_is)
  (case l6=>k_is)
  (case c6=>k_is)
  (case k6=>k_is)
  (case a7=>k_is)
  (case l7=>k_is)
  (case c7=>k_is)
  (case k7=>k_is)
  (case a8=>k_is)
  (case l8=>k_is)
  (case c8=>k_is)
  (case k8=>k_is)
  (case a9=>k_is)
  (case l9=>k_is)
  (case c9=>k_is)
  (case k9=>k_is)
  (case a10=>k_is)
  (case l10=>k_is)
  (case c10=>k_is)
  (case k10=>k_is)
  (case a11=>k_is)
  (case l11=>k_is)
  (case c11=>k_is)
  (case k11=>k_is)
  (case a12=>k_is)
  (case l12=>k_is)
  (case c12=>k_is)
  (case k12=>k_is)
  (case a13=>k_is)
  (case l13=>k_is)
  (case c13=>k_is)
  (case k13=>k_is)
  (case a14=>k_is)
  (case l14=>k_is)
  (case c14=>k_is)
  (case k14=>k_is)
  (case a15=>k_is)
  (case l15=>k_is)
  (case c15=>k_is)
  (case k15=>k_is)
  (case a16=>k_is)
  (case l16=>k_is)
  (case c16=>k_is)
  (case k16=>k_is)
  (case a17=>k_is)
  (case l17=>k_is)
  (case c17=>k_is)
  (case k17=>k_is)
  (case a18=>k_is)
  (case l18=>k_is)
  (case c18=>k_is)
  (case k18=>k_is)
  (case z1=>k_is)
  (case z2=>k_is)
  (case z3=>k_is)
  (case z4=>k_is)
  (case z5=>k_is)
  (case z6=>k_is)
  (case z7=>k_is)
  (case z8=>k_is)
  (case z9=>k_is)
  (case z10=>k_is)
  (case z11=>k_is)
  (case z12=>k_is)
  (case z13=>k_is)
